import PyProof.Rows.All
import Wide.All
import OpenK.AllK
import Wide.FinOn
import Lean
import PyProof.EqAt
import PyProof.EqKinds
import PyProof.TupleCall
import PyProof.NeKinds
import PyProof.ReprRoads
import PyProof.ReprBulk
import PyProof.Draws
import PyProof.EnumMake
import KE.BitLaws
import PyProof.ListIndex
import PyProof.AttrMissHeap
import PyProof.DictUpdate
import KE.KDictOf
import PyProof.FactsAll.enumerate_1
import PyProof.FactsAll.tuple_2
import PyProof.ListMulRoad
import PyProof.ListRange
import PyProof.FactsAll.list_3
import PyProof.Rows.SortWalk
import PyProof.Rows.MinMaxN
import KE.KEqDict
import KE.KDictSum
import PyProof.WalksMore
import PyProof.Rows.SetFrom
import PyProof.SetRoads
import PyProof.FactsAll.set_1
import KE.KItemsList
import KE.KSortTup
import KE.KLam
import PyProof.FactsAll.dict_1
import PyProof.StrBlockH
import PyProof.StrLawsTight
import PyProof.StrLawsOccR
import PyProof.StrLawsJoin
import PyProof.StationsW
import PyProof.NsDelKeeps
import PyProof.RulesAs
import PyProof.ExcInit
import KE.KTryMore
import PyProof.ExcClass3
import PyProof.ExcBaseAll.ValueError
import OpenK.KOwn
import PyProof.ExcArgsOwn
import PyProof.InstStoreFacts
import PyProof.FactsAll.tuple_2
import PyProof.FactsAll.tuple_3
import PySem.Challenge.RW_flips_k10_what_sums_come_to
set_option Elab.async false
set_option linter.all false
set_option genInjectivity false
set_option genSizeOf false
set_option compiler.extract_closed false
set_option bootstrap.genMatcherCode false
set_option maxRecDepth 100000
set_option maxHeartbeats 0
-- CHANGE: your row's module here,as the last of these rows
namespace L2
open PySem PySem.Spec PyProof.Rows
noncomputable abbrev Key:=Sum Int Str
noncomputable def CH:Key->Value->Bool
 | .inl k,v=>Value.isInt k v
 | .inr x,v=>Value.isStrOf x v
noncomputable def MY (w:World):Key->Int
 | .inl k=>hashInt k
 | .inr x=>hashStr w x
theorem keyIs_shape:∀ {k:Key} {v:Value},CH k v=true->(∃ i t,k=Sum.inl i/\v=Value.int i t)\/(∃ x t,k=Sum.inr x/\v=Value.str x t)
 | .inl i,v,h=>by
  obtain ⟨t,e⟩:=Value.isInt_shape (k:=i) (v:=v) h
  exact .inl ⟨i,t,rfl,e⟩
 | .inr x,v,h=>by
  obtain ⟨t,e⟩:=Value.isStrOf_shape (x:=x) (v:=v) h
  exact .inr ⟨x,t,rfl,e⟩
theorem Oh (i:Int) (t:Tok):CH (.inl i) (.int i t)=true:=by simp [CH,Value.isInt]
theorem NN (x:Str) (t:Tok):CH (.inr x) (.str x t)=true:=by simp [CH,Value.isStrOf]
theorem PM (a b:Int):decide ((Sum.inl a:Key)=Sum.inl b)=(a == b):=by
 by_cases e:a=b
 ·subst e;simp
 ·have h:¬ (Sum.inl a:Key)=Sum.inl b:=fun q=>e (Sum.inl.inj q)
  rw [decide_eq_false h]
  exact (beq_eq_false_iff_ne.mpr e).symm
theorem On (a b:Str):decide ((Sum.inr a:Key)=Sum.inr b)=decide (a=b):=by
 by_cases e:a=b
 ·subst e;simp
 ·have h:¬ (Sum.inr a:Key)=Sum.inr b:=fun q=>e (Sum.inr.inj q)
  rw [decide_eq_false h,decide_eq_false e]
theorem Jh (a:Int) (b:Str):decide ((Sum.inl a:Key)=Sum.inr b)=false:=decide_eq_false (fun q=>nomatch q)
theorem Nh (a:Str) (b:Int):decide ((Sum.inr a:Key)=Sum.inl b)=false:=decide_eq_false (fun q=>nomatch q)
noncomputable def Ag (prog:Program) (w:World):PySem.KeyKind prog w Key where
 is:=CH
 hash:=MY w
 inj:=fun v a b ha hb=>by
  rcases keyIs_shape ha with ⟨i,t,rfl,rfl⟩ | ⟨x,t,rfl,rfl⟩
  ·rcases keyIs_shape hb with ⟨j,u,rfl,e⟩ | ⟨y,u,rfl,e⟩
   ·injection e with e1 _;rw [e1]
   ·exact nomatch e
  ·rcases keyIs_shape hb with ⟨j,u,rfl,e⟩ | ⟨y,u,rfl,e⟩
   ·exact nomatch e
   ·injection e with e1 _;rw [e1]
 byValue:=fun k v h=>by
  rcases keyIs_shape h with ⟨i,t,rfl,rfl⟩ | ⟨x,t,rfl,rfl⟩ <;> rfl
 pyHash:=fun hv h=>by
  rcases keyIs_shape hv with ⟨i,t,rfl,rfl⟩ | ⟨x,t,rfl,rfl⟩
  ·exact wpAny_pyHash_int h
  ·exact wpAny_pyHash_str h
 eqBool:=fun hu hv h=>by
  rcases keyIs_shape hu with ⟨i,t,rfl,rfl⟩ | ⟨x,t,rfl,rfl⟩
  ·rcases keyIs_shape hv with ⟨j,u,rfl,rfl⟩ | ⟨y,u,rfl,rfl⟩
   ·rw [PM] at h;exact wpAny_eqBool_int h
   ·rw [Jh] at h;exact SeqAt.EqAt.int_str i t y u _ _ _ _ h
  ·rcases keyIs_shape hv with ⟨j,u,rfl,rfl⟩ | ⟨y,u,rfl,rfl⟩
   ·rw [Nh] at h;exact SeqAt.EqAt.str_int x t j u _ _ _ _ h
   ·rw [On] at h;exact wpAny_eqBool_str h
 «strs»:=fun k x t v h=>by
  rcases keyIs_shape h with ⟨i,u,rfl,e⟩ | ⟨y,u,rfl,e⟩
  ·exact nomatch e
  ·injection e with e1 _
   subst e1
   cases v <;> rfl
theorem Ht (prog:Program) (w:World) (i:Int) (t:Tok):(Ag prog w).is (.inl i) (.int i t)=true:=Oh i t
theorem J5 (prog:Program) (w:World) (x:Str) (t:Tok):(Ag prog w).is (.inr x) (.str x t)=true:=NN x t
inductive V where
 | non | bl (b:Bool) | int (i:Int) | str (x:Str) | byt (b:Array UInt8) | flt (b:UInt64) | ref (a:Addr) | ty (n:String)
 deriving DecidableEq
noncomputable def RelV:V->Value->Prop
 | .non,u=>u=Value.none
 | .bl b,u=>u=Value.bool b
 | .int i,u=>∃ t,u=Value.int i t
 | .str x,u=>∃ t,u=Value.str x t
 | .byt b,u=>∃ t,u=Value.bytes b t
 | .flt b,u=>∃ t,u=Value.float b t
 | .ref a,u=>u=Value.ref a
 | .ty n,u=>u=Value.type n
noncomputable abbrev Vals:List V->List Value->Prop:=Paired RelV
theorem Vals.length {xs:List V} {us:List Value} (r:Vals xs us):xs.length=us.length:=Paired.length r
theorem Vals.get:∀ {xs:List V} {us:List Value} {i:Nat} {x:V},Vals xs us->xs[i]? = some x->∃ u,us[i]? = some u/\RelV x u
 | _,_,_,_,.nil,e=>by simp at e
 | _,_,0,_,.cons r _,e=>by simp at e;subst e;exact ⟨_,rfl,r⟩
 | _,_,i+1,x,.cons _ t,e=>by
  obtain ⟨u,h1,h2⟩:=Vals.get (i:=i) (x:=x) t (by simpa using e)
  exact ⟨u,by simpa using h1,h2⟩
theorem Vals.set {x:V} {u:Value} (r:RelV x u):∀ {xs:List V} {us:List Value} (i:Nat),Vals xs us->Vals (xs.set i x) (us.set i u)
 | _,_,_,.nil=>.nil
 | _,_,0,.cons _ t=>.cons r t
 | _,_,i+1,.cons q t=>.cons q (Vals.set r i t)
theorem Vals.append:∀ {xs ys:List V} {us ws:List Value},Vals xs us->Vals ys ws->Vals (xs++ys) (us++ws)
 | _,_,_,_,.nil,s=>s
 | _,_,_,_,.cons r t,s=>.cons r (Vals.append t s)
theorem Vals.take:∀ {xs:List V} {us:List Value} (n:Nat),Vals xs us->Vals (xs.take n) (us.take n)
 | _,_,0,_=>.nil
 | _,_,_+1,.nil=>.nil
 | _,_,n+1,.cons r t=>.cons r (Vals.take n t)
theorem Vals.drop:∀ {xs:List V} {us:List Value} (n:Nat),Vals xs us->Vals (xs.drop n) (us.drop n)
 | _,_,0,r=>r
 | _,_,_+1,.nil=>.nil
 | _,_,n+1,.cons _ t=>Vals.drop n t
noncomputable def RelO:Option V->Option Value->Prop
 | some v,some u=>RelV v u
 | none,none=>True
 | _,_=>False
noncomputable def KV {κ:Type}:List (κ × V)->List (κ × Value)->Prop:=Paired fun (p:κ × V) (q:κ × Value)=>p.1=q.1/\RelV p.2 q.2
noncomputable def kV:Key->V
 | .inl i=>.int i
 | .inr x=>.str x
inductive HO where
 | lst (xs:List V)
 | tup (xs:List V)
 | dK (kvs:List (Key × V)) | dT (kvs:List (List Key × V))
 | set (S:Int->Bool) (n:Nat)
 | ins (C dx:Addr) (fs:List (Str × V))
 | own (x:Addr)
 | xd (fs:List (Str × V))
 | met (f x:Addr)
 | rng (lo hi:Int)
 | frz (o:Obj) (u:HO)
 | tbl (ps:Array Value)
 | ext (φ:Heap->Prop)
noncomputable abbrev Hp:=Addr->Option HO
noncomputable def upd (H:Hp) (a:Addr) (o:HO):Hp:=fun b=>if b=a then some o else H b
theorem AD {H:Hp} {a:Addr} {o:HO}:upd H a o a=some o:=by unfold upd;rw [if_pos rfl]
theorem AK {H:Hp} {a b:Addr} {o:HO} (h:b≠a):upd H a o b=H b:=by unfold upd;rw [if_neg h]
theorem Ep {H:Hp} {a b:Addr} {o u:HO} (h:H a=some o) (h':H b=some u) (d:o≠u):a≠b:=by
 intro e;subst e;rw [h] at h';exact d (Option.some.inj h')
theorem BR {H:Hp} {a b:Addr} {o:HO} (h:H a=some o) (h':H b=none):a≠b:=by
 intro e;subst e;rw [h] at h';cases h'
noncomputable def IsTupN (h:Heap) (a:Addr) (items:Array Value):Prop:=∃ o,h.get? a=some o/\o.cls=.type "tuple" /\ (∃ n,o.data=.seq items n)/\o.dict=none
theorem IsTupN.tup {h:Heap} {a:Addr} {items:Array Value} (x:IsTupN h a items):PyProof.Rows.IsTup h a items:=by
 obtain ⟨o,e,c,d,_⟩:=x
 exact ⟨o,e,c,d⟩
theorem IsTupN.new (h:Heap) (items:Array Value):IsTupN (h.push { cls:=.type "tuple",data:=.seq items }) h.objs.size items:=⟨_,Heap.get?_push_size _ rfl,rfl,⟨_,rfl⟩,rfl⟩
section
variable (P:Program) (w:World)
noncomputable def ObjOk (H:Hp) (h:Heap) (a:Addr):HO->Prop
 | .lst xs=>xs.length<=sizeLine/\∃ (its:List Value) (n:Nat),Vals xs its/\h.get? a=some { cls:=.type "list",data:=.seq its.toArray n }
 | .tup xs=>xs.length<=sizeLine/\∃ its:List Value,Vals xs its/\IsTupN h a its.toArray
 | .dK kvs=>kvs.length<=sizeLine/\(a == sysModules)=false/\∃ vs,KV kvs vs/\h.DictOf (Ag P w) a vs
 | .dT kvs=>kvs.length<=sizeLine/\(a == sysModules)=false/\∃ xs:List (List Key × Addr × Value),
  Paired (fun (p:List Key × V) (q:List Key × Addr × Value)=>p.1=q.1/\H q.2.1=some (.tup (p.1.map kV))/\RelV p.2 q.2.2) kvs xs /\
  ∃ o es ep,h.get? a=some o/\o.ExactDict/\o.data=.dict es ep/\es.toList=xs.map (entryOfKey (tupleKind (Ag P w)))/\(xs.map (·.1)).Nodup
 | .set S n=>h.SetOf (intKind P w) a S n
 | .ins C dx fs=>H dx=some (.own a)/\fs.length<=1000/\dx≠a/\h.get? a=some (PySem.W.instObj C dx) /\
  ∃ mA,h.Ns1 dx mA/\(∀ f,RelO (fs.lookup f) (mA f))/\PySem.Within mA (fs.map (·.1))
 | .own _=>∃ o,h.get? a=some o
 | .xd fs=>∃ mA,h.Ns1 a mA/\∀ f,RelO (fs.lookup f) (mA f)
 | .rng lo hi=>∃ t u v,h.get? a=some { cls:=.type "range",data:=.fields #[.int lo t,.int hi u,.int 1 v] }
 | .frz o u=>h.get? a=some o/\ObjOk H h a u
 | .tbl ps=>h.get? a=some { cls:=.none,data:=.fields ps }
 | .met f x=>h.get? a=some (PySem.W.methodObj (.ref f) (.ref x))
 | .ext φ=>φ h/\(∃ o,h.get? a=some o)/\∀ h1 h2:Heap,φ h1->(∀ o,h1.get? a=some o->h2.get? a=some o)->φ h2
noncomputable def HOk (H:Hp) (h:Heap):Prop:=∀ a o,H a=some o->ObjOk P w H h a o
end
section
variable {P:Program} {w:World} {H H':Hp} {h h':Heap} {a:Addr} {o:HO}
theorem ObjOk.lt (x:ObjOk P w H h a o):a < h.objs.size:=by
 cases o with
 | lst xs=>obtain ⟨_,_,_,_,e⟩:=x;exact Heap.lt_size e
 | tup xs=>obtain ⟨_,_,_,p⟩:=x;exact p.tup.lt
 | dK kvs=>obtain ⟨_,_,_,_,o,_,_,e,_⟩:=x;exact Heap.lt_size e
 | dT kvs=>obtain ⟨_,_,_,_,o,_,_,e,_⟩:=x;exact Heap.lt_size e
 | set S n=>obtain ⟨o,_,_,_,e,_⟩:=x;exact Heap.lt_size e
 | ins C dx fs=>obtain ⟨_,_,_,e,_⟩:=x;exact Heap.lt_size e
 | own y=>obtain ⟨_,e⟩:=x;exact Heap.lt_size e
 | xd fs=>obtain ⟨_,⟨_,_,_,e,_⟩,_⟩:=x;exact Heap.lt_size e
 | rng lo hi=>obtain ⟨_,_,_,e⟩:=x;exact Heap.lt_size e
 | frz ob u=>obtain ⟨e,_⟩:=x;exact Heap.lt_size e
 | tbl ps=>exact Heap.lt_size (show h.get? a=some _ from x)
 | met f y=>exact Heap.lt_size (show h.get? a=some _ from x)
 | ext φ=>obtain ⟨_,⟨_,e⟩,_⟩:=x;exact Heap.lt_size e
theorem Paired.mapP {α β:Type} {F G:α->β->Prop}:∀ {l₁:List α} {l₂:List β},Paired F l₁ l₂->(∀ a b,F a b->G a b)->Paired G l₁ l₂
 | _,_,.nil,_=>.nil
 | _,_,.cons r t,f=>.cons (f _ _ r) (Paired.mapP t f)
theorem ObjOk.stay (x:ObjOk P w H h a o) (k:∀ b u,(b=a\/H b=some (.own a))->h.get? b=some u->h'.get? b=some u)
 (ho:∀ b,H b=some (.own a)->H' b=some (.own a)) (ht:∀ b xs,H b=some (.tup xs)->H' b=some (.tup xs)):ObjOk P w H' h' a o:=by
 induction o with
 | lst xs=>obtain ⟨z,its,n,r,e⟩:=x;exact ⟨z,its,n,r,k _ _ (.inl rfl) e⟩
 | tup xs=>obtain ⟨z,its,r,ob,e,c⟩:=x;exact ⟨z,its,r,ob,k _ _ (.inl rfl) e,c⟩
 | dK kvs=>obtain ⟨z,y,vs,r,ob,es,ep,e,c⟩:=x;exact ⟨z,y,vs,r,ob,es,ep,k _ _ (.inl rfl) e,c⟩
 | dT kvs =>
  obtain ⟨z,y,xs,r,ob,es,ep,e,c⟩:=x
  exact ⟨z,y,xs,Paired.mapP r fun p q z=>⟨z.1,ht _ _ z.2.1,z.2.2⟩,ob,es,ep,k _ _ (.inl rfl) e,c⟩
 | set S n=>obtain ⟨ob,es,ep,t,e,c⟩:=x;exact ⟨ob,es,ep,t,k _ _ (.inl rfl) e,c⟩
 | ins C dx fs =>
  obtain ⟨d,z,ne,e,mA,⟨od,es,ep,e2,c⟩,r⟩:=x
  exact ⟨ho _ d,z,ne,k _ _ (.inl rfl) e,mA,⟨od,es,ep,k _ _ (.inr d) e2,c⟩,r⟩
 | own y=>obtain ⟨ob,e⟩:=x;exact ⟨ob,k _ _ (.inl rfl) e⟩
 | xd fs=>obtain ⟨mA,⟨od,es,ep,e,c⟩,r⟩:=x;exact ⟨mA,⟨od,es,ep,k _ _ (.inl rfl) e,c⟩,r⟩
 | rng lo hi=>obtain ⟨t,u,v,e⟩:=x;exact ⟨t,u,v,k _ _ (.inl rfl) e⟩
 | frz ob u ih=>obtain ⟨e,q⟩:=x;exact ⟨k _ _ (.inl rfl) e,ih q⟩
 | tbl ps =>
  have e:h.get? a=some { cls:=.none,data:=.fields ps }:=x
  show h'.get? a=some { cls:=.none,data:=.fields ps }
  exact k a _ (.inl rfl) e
 | met f y =>
  have e:h.get? a=some (PySem.W.methodObj (.ref f) (.ref y)):=x
  show h'.get? a=some (PySem.W.methodObj (.ref f) (.ref y))
  exact k a _ (.inl rfl) e
 | ext φ=>obtain ⟨p,⟨o,e⟩,st⟩:=x;exact ⟨st _ _ p fun o q=>k _ _ (.inl rfl) q,⟨o,k _ _ (.inl rfl) e⟩,st⟩
theorem HOk.lt (x:HOk P w H h) (e:H a=some o):a < h.objs.size:=(x a o e).lt
theorem HOk.fresh (x:HOk P w H h) (e:h.objs.size<=a):H a=none:=by
 cases q:H a with
 | none=>rfl
 | some u=>exact absurd (Nat.lt_of_lt_of_le (x.lt q) e) (Nat.lt_irrefl _)
theorem HOk.kept (x:HOk P w H h) (k:∀ b u,h.get? b=some u->h'.get? b=some u):HOk P w H h':=fun a o e =>
 (x a o e).stay (fun b u _ q=>k b u q) (fun _ q=>q) fun _ _ q=>q
theorem HOk.laid (x:HOk P w H h) (k:∀ b u,h.get? b=some u->h'.get? b=some u) (hp:h.objs.size<=a) (new:ObjOk P w (upd H a o) h' a o):HOk P w (upd H a o) h':=fun b u e=>by
 have hn:=x.fresh hp
 by_cases hb:b=a
 ·subst hb;rw [AD] at e;cases e;exact new
 ·rw [AK hb] at e
  exact (x b u e).stay (fun c v _ q=>k c v q) (fun c q=>by rw [AK (BR q hn)];exact q) fun c xs q=>by rw [AK (BR q hn)];exact q
end
noncomputable def Rd (H:Hp) (a:Addr) (u:HO):Prop:=H a=some u\/∃ o,H a=some (.frz o u)
theorem Rd.ok {P:Program} {w:World} {H:Hp} {h:Heap} {a:Addr} {u:HO} (r:Rd H a u) (x:HOk P w H h):ObjOk P w H h a u:=by
 rcases r with r | ⟨o,r⟩
 ·exact x a u r
 ·obtain ⟨_,q⟩:=x a _ r
  exact q
noncomputable def Mut:Option HO->Prop
 | some (.lst _)=>True
 | some (.dK _)=>True
 | some (.dT _)=>True
 | some (.set _ _)=>True
 | some (.ins _ _ _)=>True
 | some (.ext _)=>True
 | _=>False
section
variable {P:Program} {w:World} {H:Hp} {h h':Heap} {x e:Addr} {o':HO}
theorem HOk.write (ok:HOk P w H h) (mu:Mut (H x)) (he:e=x\/H e=some (.own x)) (k:∀ b u,b≠e->h.get? b=some u->h'.get? b=some u) (heo:∃ u,h'.get? e=some u)
 (new:ObjOk P w (upd H x o') h' x o'):HOk P w (upd H x o') h':=fun b u q=>by
 have nown:∀ c y,H c=some (.own y)->c≠x:=fun c y r z=>by subst z;rw [r] at mu;exact mu
 have ntup:∀ c xs,H c=some (.tup xs)->c≠x:=fun c xs r z=>by subst z;rw [r] at mu;exact mu
 by_cases hb:b=x
 ·subst hb;rw [AD] at q;cases q;exact new
 ·rw [AK hb] at q
  by_cases hbe:b=e
  ·have q':H b=some (.own x):=by
    rcases he with z | z
    ·exact absurd (hbe.trans z) hb
    ·rw [hbe];exact z
   rw [q] at q';cases q'
   obtain ⟨v,hv⟩:=heo
   exact ⟨v,by rw [hbe];exact hv⟩
  ·refine (ok b u q).stay (fun c v hc r=>k c v ?_ r) (fun c r=>by rw [AK (nown c b r)];exact r) fun c xs r=>by rw [AK (ntup c xs r)];exact r
   rcases hc with rfl | hc
   ·exact hbe
   ·rintro rfl
    rcases he with z | z
    ·exact nown c b hc z
    ·rw [hc] at z;cases z;exact hb rfl
end
structure Un (fs ex:List Addr) (H H':Hp) (h h':Heap):Prop where
 keep:∀ b o,h.get? b=some o->H b=none->b∉fs->b∉ex->h'.get? b=some o
 slot:∀ b o,h.get? b=some o->H b=none->b∈fs->b∉ex->∃ sl,h'.get? b=some { o with slots:=sl }
 free:∀ b o,h.get? b=some o->H b=none->b∉ex->H' b=none
 there:∀ b o,h.get? b=some o->b∉ex->∃ o',h'.get? b=some o'
 tups:∀ b xs,H b=some (.tup xs)->H' b=some (.tup xs)
 frzs:∀ b o u,H b=some (.frz o u)->H' b=some (.frz o u)
 tbls:∀ b ps,H b=some (.tbl ps)->∃ more,H' b=some (.tbl (ps++more))
section
variable {fs fs' ex ex':List Addr} {H H1 H2:Hp} {h h1 h2 h':Heap} {a x e:Addr} {o:HO}
theorem Un.any (u:Un fs ex H H1 h h1) {b:Addr} {ob:Obj} (q:h.get? b=some ob) (n:H b=none) (hx:b∉ex):∃ sl,h1.get? b=some { ob with slots:=sl }:=by
 by_cases hb:b∈fs
 ·exact u.slot b ob q n hb hx
 ·exact ⟨ob.slots,u.keep b ob q n hb hx⟩
theorem Un.kept (k:∀ b u,h.get? b=some u->h'.get? b=some u):Un fs ex H H h h' :=
 ⟨fun b ob q _ _ _=>k b ob q,fun b ob q _ _ _=>⟨ob.slots,k b ob q⟩,fun _ _ _ n _=>n,fun b ob q _=>⟨ob,k b ob q⟩,fun _ _ q=>q,fun _ _ _ q=>q,fun _ ps q=>⟨#[],by rw [q];simp⟩⟩
theorem Un.refl:Un fs ex H H h h:=Un.kept fun _ _ q=>q
theorem Un.laid (k:∀ b u,h.get? b=some u->h'.get? b=some u) (hp:h.objs.size<=a) (hn:H a=none):Un fs ex H (upd H a o) h h' where
 keep:=fun b u q _ _ _=>k b u q
 slot:=fun b u q _ _ _=>⟨u.slots,k b u q⟩
 free:=fun b u q n _=>by rw [AK (Nat.ne_of_lt (Nat.lt_of_lt_of_le (Heap.lt_size q) hp))];exact n
 there:=fun b u q _=>⟨u,k b u q⟩
 tups:=fun b xs q=>by rw [AK (BR q hn)];exact q
 frzs:=fun b u xs q=>by rw [AK (BR q hn)];exact q
 tbls:=fun b ps q=>⟨#[],by rw [AK (BR q hn),q];simp⟩
theorem Un.write (mu:Mut (H x)) (he:e=x\/H e=some (.own x)) (k:∀ b u,b≠e->h.get? b=some u->h'.get? b=some u) (heo:∃ u,h'.get? e=some u):Un fs ex H (upd H x o) h h':=by
 have hx:∀ b,H b=none->b≠x:=fun b n z=>by subst z;rw [n] at mu;exact mu
 have hb:∀ b,H b=none->b≠e:=fun b n z=>by
  subst z
  rcases he with r | r
  ·exact hx b n r
  ·rw [n] at r;cases r
 have hm:∀ b u,H b=some u->¬ Mut (some u)->b≠x:=fun b u q nm z=>by subst z;rw [q] at mu;exact nm mu
 refine ⟨fun b u q n _ _=>k b u (hb b n) q,fun b u q n _ _=>⟨u.slots,k b u (hb b n) q⟩,fun b u q n _=>by rw [AK (hx b n)];exact n,fun b u q _=>?_,
  fun b xs q=>by rw [AK (hm b _ q fun z=>z)];exact q,fun b u xs q=>by rw [AK (hm b _ q fun z=>z)];exact q,fun b ps q=>⟨#[],by rw [AK (hm b _ q fun z=>z),q];simp⟩⟩
 by_cases hbe:b=e
 ·subst hbe;exact heo
 ·exact ⟨u,k b u hbe q⟩
end
noncomputable def trk (h:Heap) (H:Hp):List Addr:=(List.range h.objs.size).filter fun a=>(H a).isSome
noncomputable def Bu (h:Heap) (H:Hp):Heap:=PySem.W.hideAll h (trk h H)
theorem Nf (h:Heap) (H:Hp):(Bu h H).objs.size=h.objs.size:=PySem.W.hideAll_size _ _
theorem Kv {h:Heap} {H:Hp} {b:Addr} {o:Obj} (e:h.get? b=some o) (n:H b=none):(Bu h H).get? b=some o :=
 PySem.W.hideAll_get _ e fun hm=>by
  have q:(H b).isSome=true:=(List.mem_filter.mp hm).2
  rw [n] at q;simp at q
theorem PJ {h:Heap} {H:Hp} {b:Addr} {o:Obj} (e:(Bu h H).get? b=some o):h.get? b=some o/\H b=none:=by
 have e':h.get? b=some o:=PySem.W.of_hideAll (trk h H) e
 refine ⟨e',?_⟩
 cases q:H b with
 | none=>rfl
 | some x =>
  have hm:b∈trk h H:=List.mem_filter.mpr ⟨List.mem_range.mpr (Heap.lt_size e'),by simp [q]⟩
  have z:(Bu h H).get? b=none:=PySem.W.hideAll_none (trk h H) hm
  rw [z] at e;cases e
noncomputable def Lj (g h:Heap) (L:Addr):List (Addr × Obj):=(List.range h.objs.size).filterMap fun a=>if a=L\/(g.get? a).isSome=true then none else (h.get? a).map fun o=>(a,o)
noncomputable def rest (g h:Heap) (L d:Addr):List (Addr × Obj):=(Lj g h L).filter fun p=>decide (p.1≠d)
structure Mod (K:W.Frag) (mg:Str->Option Value) (base:Heap):Prop where
 kin:K.In base
 glob:base.Ns mainGlobals mg
 blt:∃ mb,base.Ns builtinsNs mb/\∀ x:Str,x ≠ "__name__" -> mb x=bootBuiltins x
 nolimit:base.NoLimit
structure Cx where
 prog:Program
 w:World
 K:W.Frag
 mg:Str->Option Value
 base:Heap
 A:Around
 N:List Str
 s₀:Shared
 H₀:Hp
 env:Env
 outer:List Env
 stack:List Env
 ex:List Addr
 fn:Str->Bool
 calm:Bool
 pn:List (Addr × Obj)
 xe:Value->Shared->Prop
noncomputable def frs (l:List Env):List Addr:=l.filterMap (·.frame)
noncomputable abbrev Cx.fs (X:Cx):List Addr:=frs X.outer
noncomputable def Vis (sc:Scope) (x:Str):Prop:=sc.names.lookup x=some .local\/sc.names.lookup x=some .cell\/sc.names.lookup x=some .free
noncomputable def Loc (sc:Scope) (x:Str):Prop:=sc.names.lookup x=some .local\/sc.names.lookup x=some .cell
noncomputable def Nm (env:Env) (h:Heap) (m:Str->Option Value) (x:Str) (u:Value):Prop :=
 (env.kindOf x=some .local/\m x=some u)\/((env.kindOf x=some .cell\/env.kindOf x=some .free)/\∃ c,env.cells.lookup x=some c/\h.IsCell c (some u))
structure Cx.Ok (X:Cx):Prop where
 mod:Mod X.K X.mg X.base
 kind:X.env.scope.kind=.function
 glob:X.env.globals=mainGlobals
 blt:X.env.builtins=builtinsNs
 above:X.s₀.heap.objs.size<=X.env.locals
 inj:∀ x y c,X.env.cells.lookup x=some c->X.env.cells.lookup y=some c->x=y
 has:∀ x,(X.env.kindOf x=some .cell\/X.env.kindOf x=some .free)->∃ c,X.env.cells.lookup x=some c
 cab:∀ x c,X.fn x=true->X.env.cells.lookup x=some c->X.s₀.heap.objs.size<=c
 hd:X.calm=true->X.A.handled=none
 frames:X.A.frames=some X.stack
 stk:X.stack=X.outer\/(X.stack=X.env::X.outer/\X.env.frame=some X.env.locals)
 exf:∀ b∈X.ex,b≠X.env.locals/\∀ x c,X.env.cells.lookup x=some c->c≠b
 bs:∀ b o,X.base.get? b=some o->X.s₀.heap.get? b=some o/\X.H₀ b=none
 bsz:X.base.objs.size<=X.s₀.heap.objs.size
 noex:∀ b o,X.base.get? b=some o->b∉X.ex
 exfs:∀ b∈X.ex,b∉X.fs
 funs:X.s₀.heap.FunFrames X.base X.outer
 frf:∀ b∈X.fs,X.H₀ b=none
structure Inv (X:Cx) (pins:List (Addr × Obj)) (σ:List (Option V)) (H:Hp) (s:Shared):Prop where
 ok:X.Ok
 os:s.os=X.s₀.os
 bare:AllBare s.gens
 base:Un X.fs X.ex X.H₀ H X.s₀.heap s.heap
 loc:∃ m,s.heap.Ns X.env.locals m/\∀ (i:Nat) (x:Str) (v:V),X.N[i]? = some x->σ[i]? = some (some v)->Vis X.env.scope x->∃ u,RelV v u/\Nm X.env s.heap m x u
 cell:∀ x c,X.env.cells.lookup x=some c->∃ v,s.heap.IsCell c v
 free:H X.env.locals=none
 freeC:∀ x c,X.env.cells.lookup x=some c->H c=none
 pin:∀ p∈X.pn++pins,s.heap.get? p.1=some p.2/\H p.1=none/\p.1≠X.env.locals/\p.1∉X.fs/\∀ v,p.2.data≠.cell v
 hok:HOk X.prog X.w H s.heap
 len:σ.length=X.N.length
section
variable {X:Cx} {pins:List (Addr × Obj)} {σ:List (Option V)} {H H':Hp} {s:Shared} {h':Heap}
theorem Cx.Ok.nofr (ok:X.Ok) {b:Addr} {o:Obj} (e:X.base.get? b=some o):b∉X.fs:=fun hb=>by
 have:=(ok.funs.mem hb).1
 rw [e] at this;cases this
theorem Inv.bs (I:Inv X pins σ H s):∀ b o,X.base.get? b=some o->s.heap.get? b=some o/\H b=none:=fun b o e =>
 ⟨I.base.keep b o (I.ok.bs b o e).1 (I.ok.bs b o e).2 (I.ok.nofr e) (I.ok.noex b o e),I.base.free b o (I.ok.bs b o e).1 (I.ok.bs b o e).2 (I.ok.noex b o e)⟩
theorem Inv.bk (I:Inv X pins σ H s):∀ b o,X.base.get? b=some o->s.heap.get? b=some o:=fun b o e=>(I.bs b o e).1
theorem Inv.mod (I:Inv X pins σ H s):Mod X.K X.mg X.base:=I.ok.mod
theorem Inv.kIn (I:Inv X pins σ H s):X.K.In s.heap:=I.ok.mod.kin.keeps I.bk
theorem Inv.lt (I:Inv X pins σ H s):X.env.locals < s.heap.objs.size:=let ⟨_,hn,_⟩:=I.loc;hn.lt
theorem Inv.sz (I:Inv X pins σ H s):X.s₀.heap.objs.size<=s.heap.objs.size:=Nat.le_trans I.ok.above (Nat.le_of_lt I.lt)
theorem Inv.nofs (I:Inv X pins σ H s) {a:Addr} (h:s.heap.objs.size<=a):a∉X.fs:=fun hb=>by
 obtain ⟨_,o,ho,_⟩:=I.ok.funs.mem hb
 exact absurd (Nat.lt_of_lt_of_le (Heap.lt_size ho) (Nat.le_trans I.sz h)) (Nat.lt_irrefl _)
theorem Inv.cne (I:Inv X pins σ H s):∀ x c,X.env.cells.lookup x=some c->c≠X.env.locals:=fun x c e z=>by
 obtain ⟨v,o,ho,hd⟩:=I.cell x c e
 obtain ⟨m,⟨o',es,ep,ho',hd',_⟩,_⟩:=I.loc
 rw [z,ho'] at ho;cases ho;rw [hd'] at hd;cases hd
theorem Inv.funs (I:Inv X pins σ H s):s.heap.FunFrames X.base X.outer:=by
 have all:∀ (l:List Env),(∀ b∈frs l,b∈X.fs)->X.s₀.heap.FunFrames X.base l->s.heap.FunFrames X.base l:=by
  intro l
  induction l with
  | nil=>intro _ _;trivial
  | cons env r ih =>
   intro hs hl
   obtain ⟨hk,⟨L,o,hf,hn,ho,hd⟩,hr⟩:=hl
   have hL:L∈X.fs:=hs L (by unfold frs;rw [List.filterMap_cons,hf];exact List.mem_cons_self)
   obtain ⟨sl,e⟩:=I.base.slot L o ho (I.ok.frf L hL) hL fun z=>I.ok.exfs L z hL
   exact ⟨hk,⟨L,_,hf,hn,e,hd⟩,ih (fun b hb=>hs b (by unfold frs;rw [List.filterMap_cons,hf];exact List.mem_cons_of_mem _ hb)) hr⟩
 exact all X.outer (fun _ hb=>hb) I.ok.funs
theorem Inv.stack (I:Inv X pins σ H s):s.heap.FunFrames X.base X.stack:=by
 rcases I.ok.stk with e | ⟨e,hf⟩
 ·rw [e];exact I.funs
 ·rw [e]
  obtain ⟨m,hn,_⟩:=I.loc
  refine .cons (by rw [I.ok.kind];decide) hf hn ?_ I.funs
  exact Heap.get?_none_of_le (Nat.le_trans I.ok.bsz I.ok.above)
theorem Inv.stkSub (I:Inv X pins σ H s):∀ b∈frs X.stack,b∈X.env.locals::X.fs:=fun b hb=>by
 rcases I.ok.stk with e | ⟨e,hf⟩
 ·rw [e] at hb;exact List.mem_cons_of_mem _ hb
 ·rw [e] at hb
  unfold frs at hb
  rw [List.filterMap_cons,hf] at hb
  exact hb
theorem Inv.stkFree (I:Inv X pins σ H s):∀ b∈frs X.stack,H b=none:=fun b hb=>by
 rcases List.mem_cons.mp (I.stkSub b hb) with e | hb
 ·rw [e];exact I.free
 ·obtain ⟨_,o,ho,_⟩:=I.ok.funs.mem hb
  exact I.base.free b o ho (I.ok.frf b hb) fun z=>I.ok.exfs b z hb
theorem Inv.step {g':Array GenState} {t':Nat} {d':Drawn} {ch:List Addr} (I:Inv X pins σ H s)
 (hch:∀ b∈ch,(b∈X.ex\/X.s₀.heap.objs.size<=b)/\b≠X.env.locals/\(∀ x c,X.env.cells.lookup x=some c->c≠b)/\∀ p∈X.pn++pins,p.1≠b)
 (keep:∀ b o,b≠X.env.locals->b∉X.fs->b∉ch->s.heap.get? b=some o->H b=none->h'.get? b=some o)
 (slot:∀ b o,b≠X.env.locals->b∈X.fs->b∉ch->s.heap.get? b=some o->H b=none->∃ sl,h'.get? b=some { o with slots:=sl }) (free:∀ b o,b∉ch->s.heap.get? b=some o->H b=none->H' b=none)
 (there:∀ b o,b∉ch->s.heap.get? b=some o->∃ o',h'.get? b=some o')
 (tups:∀ b xs,H b=some (.tup xs)->H' b=some (.tup xs)) (frzs:∀ b o u,H b=some (.frz o u)->H' b=some (.frz o u)) (tbls:∀ b ps,H b=some (.tbl ps)->∃ more,H' b=some (.tbl (ps++more)))
 (ns:∀ m,s.heap.Ns X.env.locals m->h'.Ns X.env.locals m) (hok:HOk X.prog X.w H' h') (hg:AllBare g') :
 Inv X pins σ H' { s with heap:=h',gens:=g',drawn:=d',toks:=t' }:=by
 have neL:∀ b o,X.s₀.heap.get? b=some o->b≠X.env.locals:=fun b o e=>Nat.ne_of_lt (Nat.lt_of_lt_of_le (Heap.lt_size e) I.ok.above)
 have neC:∀ b o,X.s₀.heap.get? b=some o->b∉X.ex->b∉ch:=fun b o e hx hb=>by
  rcases (hch b hb).1 with z | z
  ·exact hx z
  ·exact absurd (Nat.lt_of_lt_of_le (Heap.lt_size e) z) (Nat.lt_irrefl _)
 have cellK:∀ x c,X.env.cells.lookup x=some c->∀ v,s.heap.IsCell c v->h'.IsCell c v:=fun x c e v ⟨o,ho,hd⟩=>by
  have nch:c∉ch:=fun z=>(hch c z).2.2.1 x c e rfl
  by_cases hc:c∈X.fs
  ·obtain ⟨sl,q⟩:=slot c o (I.cne x c e) hc nch ho (I.freeC x c e)
   exact ⟨_,q,hd⟩
  ·exact ⟨o,keep c o (I.cne x c e) hc nch ho (I.freeC x c e),hd⟩
 refine ⟨I.ok,I.os,hg,⟨fun b o e n hb hx=>?_,fun b o e n hb hx=>?_,fun b o e n hx=>?_,fun b o e hx=>?_,fun b xs e=>tups b xs (I.base.tups b xs e),fun b o xs e=>frzs b o xs (I.base.frzs b o xs e),fun b ps e=>?_⟩,?_,fun x c e=>?_,?_,fun x c e=>?_,fun p hp=>?_,hok,I.len⟩
 ·exact keep b o (neL b o e) hb (neC b o e hx) (I.base.keep b o e n hb hx) (I.base.free b o e n hx)
 ·obtain ⟨sl,e1⟩:=I.base.slot b o e n hb hx
  obtain ⟨sl',e2⟩:=slot b _ (neL b o e) hb (neC b o e hx) e1 (I.base.free b o e n hx)
  exact ⟨sl',e2⟩
 ·obtain ⟨o',e1⟩:=I.base.there b o e hx
  exact free b o' (neC b o e hx) e1 (I.base.free b o e n hx)
 ·obtain ⟨o',e1⟩:=I.base.there b o e hx
  exact there b o' (neC b o e hx) e1
 ·obtain ⟨m1,e1⟩:=I.base.tbls b ps e
  obtain ⟨m2,e2⟩:=tbls b _ e1
  exact ⟨m1++m2,by rw [e2,Array.append_assoc]⟩
 ·obtain ⟨m,hn,hl⟩:=I.loc
  refine ⟨m,ns m hn,fun i x v e1 e2 e3=>?_⟩
  obtain ⟨u,r,l⟩:=hl i x v e1 e2 e3
  refine ⟨u,r,?_⟩
  rcases l with l | ⟨k,c,e,z⟩
  ·exact .inl l
  ·exact .inr ⟨k,c,e,cellK x c e _ z⟩
 ·obtain ⟨v,z⟩:=I.cell x c e
  exact ⟨v,cellK x c e v z⟩
 ·obtain ⟨m,⟨o,_,_,ho,_⟩,_⟩:=I.loc
  exact free _ o (fun z=>(hch _ z).2.1 rfl) ho I.free
 ·obtain ⟨v,o,ho,hd⟩:=I.cell x c e
  exact free c o (fun z=>(hch c z).2.2.1 x c e rfl) ho (I.freeC x c e)
 ·obtain ⟨e,n,ne,nf,d⟩:=I.pin p hp
  have nch:p.1∉ch:=fun z=>(hch p.1 z).2.2.2 p hp rfl
  exact ⟨keep p.1 p.2 ne nf nch e n,free p.1 p.2 nch e n,ne,nf,d⟩
theorem Inv.un {t':Nat} (I:Inv X pins σ H s) (u:Un X.fs [] H H' s.heap h') (hok:HOk X.prog X.w H' h'):Inv X pins σ H' { s with heap:=h',toks:=t' }:=by
 obtain ⟨m,⟨o,es,ep,ho,r⟩,_⟩:=id I.loc
 obtain ⟨sl,hL⟩:=u.any ho I.free (by simp)
 exact I.step (g':=s.gens) (d':=s.drawn) (ch:=[]) (fun _ z=>nomatch z) (fun b o _ hb _ e n=>u.keep b o e n hb (by simp)) (fun b o _ hb _ e n=>u.slot b o e n hb (by simp)) (fun b o _ e n=>u.free b o e n (by simp)) (fun b o _ e=>u.there b o e (by simp)) u.tups u.frzs u.tbls (fun m' hm=>by
  obtain ⟨o',es',ep',ho',r'⟩:=hm
  rw [ho] at ho';cases ho'
  exact ⟨_,es',ep',hL,r'⟩) hok I.bare
theorem Inv.call {g':Array GenState} {t':Nat} {d':Drawn} {ch:List Addr} (I:Inv X pins σ H s) (u:Un (frs X.stack) ch H H' s.heap h') (hok:HOk X.prog X.w H' h') (hg:AllBare g')
 (hch:∀ b∈ch,(b∈X.ex\/X.s₀.heap.objs.size<=b)/\b≠X.env.locals/\(∀ x c,X.env.cells.lookup x=some c->c≠b)/\∀ p∈X.pn++pins,p.1≠b) :
 Inv X pins σ H' { s with heap:=h',gens:=g',drawn:=d',toks:=t' }:=by
 obtain ⟨m,⟨o,es,ep,ho,r⟩,_⟩:=id I.loc
 obtain ⟨sl,hL⟩:=u.any ho I.free fun z=>(hch _ z).2.1 rfl
 exact I.step (ch:=ch) hch (fun b o hL hb hc e n=>u.keep b o e n (fun z=>(List.mem_cons.mp (I.stkSub b z)).elim hL hb) hc) (fun b o _ _ hc e n=>u.any e n hc) (fun b o hc e n=>u.free b o e n hc) (fun b o hc e=>u.there b o e hc) u.tups u.frzs u.tbls (fun m' hm=>by
  obtain ⟨o',es',ep',ho',r'⟩:=hm
  rw [ho] at ho';cases ho'
  exact ⟨_,es',ep',hL,r'⟩) hok hg
theorem Inv.turned {t':Nat} {it:Addr} (I:Inv X pins σ H s) (k:∀ b o,b≠it->s.heap.get? b=some o->h'.get? b=some o) (hn:H it=none) (hL:it≠X.env.locals)
 (h1:it∈X.ex\/X.s₀.heap.objs.size<=it) (h2:∀ x c,X.env.cells.lookup x=some c->c≠it) (h3:∀ p∈X.pn++pins,p.1≠it):Inv X pins σ H { s with heap:=h',toks:=t' }:=by
 have nit:∀ b u,H b=some u->b≠it:=fun b u e z=>by rw [z,hn] at e;cases e
 refine I.step (g':=s.gens) (d':=s.drawn) (ch:=[it]) (fun b hb=>?_) (fun b o _ _ hc e _=>k b o (fun z=>hc (by simp [z])) e) (fun b o _ _ hc e _=>⟨o.slots,k b o (fun z=>hc (by simp [z])) e⟩) (fun _ _ _ _ n=>n)
  (fun b o hc e=>⟨o,k b o (fun z=>hc (by simp [z])) e⟩) (fun _ _ e=>e) (fun _ _ _ e=>e) (fun b ps e=>⟨#[],by rw [e];simp⟩) (fun m hm=>?_) (fun b u e=>?_) I.bare
 ·have e:b=it:=by simpa using hb
  subst e
  exact ⟨h1,hL,h2,h3⟩
 ·obtain ⟨o,es,ep,ho,r⟩:=hm
  exact ⟨o,es,ep,k _ o (Ne.symm hL) ho,r⟩
 ·refine (I.hok b u e).stay (fun c v hc q=>k c v ?_ q) (fun _ q=>q) fun _ _ q=>q
  rcases hc with z | z
  ·rw [z];exact nit b u e
  ·exact nit c _ z
theorem Inv.tok (I:Inv X pins σ H s) (t:Nat):Inv X pins σ H { s with toks:=t }:=I.un (h':=s.heap) (t':=t) Un.refl I.hok
theorem Inv.kept {t':Nat} (I:Inv X pins σ H s) (k:∀ b u,s.heap.get? b=some u->h'.get? b=some u):Inv X pins σ H { s with heap:=h',toks:=t' }:=I.un (Un.kept k) (I.hok.kept k)
theorem Inv.laid {a:Addr} {o:HO} {t':Nat} (I:Inv X pins σ H s) (k:∀ b u,s.heap.get? b=some u->h'.get? b=some u) (hp:s.heap.objs.size<=a) (new:ObjOk X.prog X.w (upd H a o) h' a o) :
 Inv X pins σ (upd H a o) { s with heap:=h',toks:=t' }:=I.un (Un.laid k hp (I.hok.fresh hp)) (I.hok.laid k hp new)
theorem Inv.write {x e:Addr} {o:HO} {t':Nat} (I:Inv X pins σ H s) (mu:Mut (H x)) (he:e=x\/H e=some (.own x)) (k:∀ b u,b≠e->s.heap.get? b=some u->h'.get? b=some u) (heo:∃ u,h'.get? e=some u)
 (new:ObjOk X.prog X.w (upd H x o) h' x o):Inv X pins σ (upd H x o) { s with heap:=h',toks:=t' }:=I.un (Un.write mu he k heo) (I.hok.write mu he k heo new)
theorem Inv.weak {σ':List (Option V)} (I:Inv X pins σ H s) (hl:σ'.length=σ.length) (w:∀ (i:Nat) v,σ'[i]? = some (some v)->σ[i]? = some (some v)):Inv X pins σ' H s :=
 ⟨I.ok,I.os,I.bare,I.base,let ⟨m,hn,hl'⟩:=I.loc;⟨m,hn,fun i x v e1 e2 e3=>hl' i x v e1 (w i v e2) e3⟩,I.cell,I.free,I.freeC,I.pin,I.hok,hl.trans I.len⟩
theorem Inv.pins_of {pins':List (Addr × Obj)} (I:Inv X pins σ H s) (h:∀ p∈pins',s.heap.get? p.1=some p.2/\H p.1=none/\p.1≠X.env.locals/\p.1∉X.fs/\∀ v,p.2.data≠.cell v):Inv X pins' σ H s :=
 ⟨I.ok,I.os,I.bare,I.base,I.loc,I.cell,I.free,I.freeC,fun p hp=>(List.mem_append.mp hp).elim (fun z=>I.pin p (List.mem_append_left _ z)) (h p),I.hok,I.len⟩
theorem GP {N:List Str} (hN:N.Nodup) {i j:Nat} {x:Str} (a:N[i]? = some x) (b:N[j]? = some x):i=j:=by
 obtain ⟨h1,e1⟩:=List.getElem?_eq_some_iff.mp a
 obtain ⟨h2,e2⟩:=List.getElem?_eq_some_iff.mp b
 exact (List.getElem_inj hN).mp (e1.trans e2.symm)
theorem JI {M:Model} {A:Around} {E:Value->Shared->Prop} {i:Nat} {x:Str} {v:V} {u:Value} {Q:Unit->Shared->Prop} (I:Inv X pins σ H s) (hN:X.N.Nodup) (hi:X.N[i]? = some x) (hx:Loc X.env.scope x) (r:RelV v u)
 (h:∀ s',Inv X pins (σ.set i (some v)) H s'->(∃ a,Heap.SameBut a s.heap s'.heap/\(a=X.env.locals\/X.env.cells.lookup x=some a))->Q () s') (hf:X.fn x=true\/X.env.scope.names.lookup x=some .local:=by first | exact .inl rfl | exact .inr rfl | assumption):wpAny M A (storeName X.env x u) Q E s:=by
 obtain ⟨m,hn,hl⟩:=id I.loc
 have hcls:(X.env.scope.kind == .class || (X.env.scope.kind == .module && X.env.locals != X.env.globals))=false:=by rw [I.ok.kind];rfl
 have hiσ:i < σ.length:=by rw [I.len];exact (List.getElem?_eq_some_iff.mp hi).1
 have cne:=I.cne
 have tracked:∀ {a:Addr} {h':Heap},(∃ o,s.heap.get? a=some o/\H a=none)->Heap.SameBut a s.heap h'->HOk X.prog X.w H h':=fun {a h'} ha hs b ob e=>by
  obtain ⟨_,_,hfree⟩:=ha
  refine (I.hok b ob e).stay (fun c w' hc q=>(hs.2 c ?_).trans q) (fun _ q=>q) fun _ _ q=>q
  rintro rfl
  rcases hc with rfl | hc
  ·rw [hfree] at e;cases e
  ·rw [hfree] at hc;cases hc
 rcases hx with hk | hk
 ·refine wpAny_storeName_local hk hn (fun h' hn' hs=>?_) hcls
  obtain ⟨oL,_,_,hoL,_⟩:=id hn
  refine h _ ⟨I.ok,I.os,I.bare,⟨fun b o e n hb hx=>?_,fun b o e n hb hx=>?_,I.base.free,fun b o e hx=>?_,I.base.tups,I.base.frzs,I.base.tbls⟩,⟨_,hn',fun j y v' e1 e2 e3=>?_⟩,fun y c e=>?_,I.free,I.freeC,fun p hp=>?_,tracked ⟨oL,hoL,I.free⟩ hs,by simpa using I.len⟩ ⟨_,hs,.inl rfl⟩
  ·exact (hs.2 b (Nat.ne_of_lt (Nat.lt_of_lt_of_le (Heap.lt_size e) I.ok.above))).trans (I.base.keep b o e n hb hx)
  ·obtain ⟨sl,e1⟩:=I.base.slot b o e n hb hx
   exact ⟨sl,(hs.2 b (Nat.ne_of_lt (Nat.lt_of_lt_of_le (Heap.lt_size e) I.ok.above))).trans e1⟩
  ·obtain ⟨o',e1⟩:=I.base.there b o e hx
   exact ⟨o',(hs.2 b (Nat.ne_of_lt (Nat.lt_of_lt_of_le (Heap.lt_size e) I.ok.above))).trans e1⟩
  ·by_cases hj:j=i
   ·subst hj
    rw [hi] at e1;cases e1
    rw [List.getElem?_set_self hiσ] at e2
    cases e2
    exact ⟨u,r,.inl ⟨hk,by simp⟩⟩
   ·rw [List.getElem?_set_ne (Ne.symm hj)] at e2
    obtain ⟨u',r',q⟩:=hl j y v' e1 e2 e3
    refine ⟨u',r',?_⟩
    rcases q with ⟨k,e⟩ | ⟨k,c,e,z⟩
    ·refine .inl ⟨k,?_⟩
     have:y≠x:=fun e=>hj (GP hN e1 (e ▸ hi))
     simp [this,e]
    ·exact .inr ⟨k,c,e,z.sameBut hs (cne y c e)⟩
  ·obtain ⟨w',z⟩:=I.cell y c e
   exact ⟨w',z.sameBut hs (cne y c e)⟩
  ·obtain ⟨e,n,ne,nf,d⟩:=I.pin p hp
   exact ⟨(hs.2 p.1 ne).trans e,n,ne,nf,d⟩
 ·have hfn:X.fn x=true:=by
   rcases hf with z | z
   ·exact z
   ·rw [z] at hk;cases hk
  obtain ⟨c,hc⟩:=I.ok.has x (.inl hk)
  obtain ⟨w',z⟩:=I.cell x c hc
  refine wpAny_storeName_cell I.ok.kind hk hc z (fun h' hc' hs=>?_)
  obtain ⟨oc,hoc,hocd⟩:=id z
  refine h { s with heap:=h' } ⟨I.ok,I.os,I.bare,⟨fun b o e n hb hx=>?_,fun b o e n hb hx=>?_,I.base.free,fun b o e hx=>?_,I.base.tups,I.base.frzs,I.base.tbls⟩,⟨m,hn.sameBut hs (Ne.symm (cne x c hc)),fun j y v' e1 e2 e3=>?_⟩,fun y c' e=>?_,I.free,I.freeC,fun p hp=>?_,tracked ⟨oc,hoc,I.freeC x c hc⟩ hs,by simpa using I.len⟩ ⟨c,hs,.inr hc⟩
  ·exact (hs.2 b (Nat.ne_of_lt (Nat.lt_of_lt_of_le (Heap.lt_size e) (I.ok.cab x c hfn hc)))).trans (I.base.keep b o e n hb hx)
  ·obtain ⟨sl,e1⟩:=I.base.slot b o e n hb hx
   exact ⟨sl,(hs.2 b (Nat.ne_of_lt (Nat.lt_of_lt_of_le (Heap.lt_size e) (I.ok.cab x c hfn hc)))).trans e1⟩
  ·obtain ⟨o',e1⟩:=I.base.there b o e hx
   exact ⟨o',(hs.2 b (Nat.ne_of_lt (Nat.lt_of_lt_of_le (Heap.lt_size e) (I.ok.cab x c hfn hc)))).trans e1⟩
  ·by_cases hj:j=i
   ·subst hj
    rw [hi] at e1;cases e1
    rw [List.getElem?_set_self hiσ] at e2
    cases e2
    exact ⟨u,r,.inr ⟨.inl hk,c,hc,hc'⟩⟩
   ·rw [List.getElem?_set_ne (Ne.symm hj)] at e2
    obtain ⟨u',r',q⟩:=hl j y v' e1 e2 e3
    refine ⟨u',r',?_⟩
    rcases q with q | ⟨k,c',e,z'⟩
    ·exact .inl q
    ·refine .inr ⟨k,c',e,z'.sameBut hs ?_⟩
     rintro rfl
     exact hj (GP hN e1 (I.ok.inj _ _ _ e hc ▸ hi))
  ·by_cases hcc:c'=c
   ·subst hcc;exact ⟨_,hc'⟩
   ·obtain ⟨w2,z2⟩:=I.cell y c' e
    exact ⟨w2,z2.sameBut hs hcc⟩
  ·obtain ⟨e,n,ne,nf,d⟩:=I.pin p hp
   refine ⟨(hs.2 p.1 ?_).trans e,n,ne,nf,d⟩
   intro q
   rw [q,hoc] at e
   have q':oc=p.2:=Option.some.inj e
   exact d w' (by rw [<- q'];exact hocd)
theorem EU {M:Model} {A:Around} {E:Value->Shared->Prop} {i:Nat} {x:Str} {v:V} {u:Value} {Q:Unit->Shared->Prop} (I:Inv X pins σ H s) (hN:X.N.Nodup) (hi:X.N[i]? = some x) (hx:Loc X.env.scope x) (r:RelV v u)
 (h:∀ s',Inv X pins (σ.set i (some v)) H s'->Q () s') (hf:X.fn x=true\/X.env.scope.names.lookup x=some .local:=by first | exact .inl rfl | exact .inr rfl | assumption):wpAny M A (storeName X.env x u) Q E s :=
 JI I hN hi hx r (fun s' I' _=>h s' I') hf
theorem Inv.call' {s':Shared} {ch:List Addr} (I:Inv X pins σ H s) (ho:s'.os=s.os) (u:Un (frs X.stack) ch H H' s.heap s'.heap) (hok:HOk X.prog X.w H' s'.heap) (hg:AllBare s'.gens)
 (hch:∀ b∈ch,(b∈X.ex\/X.s₀.heap.objs.size<=b)/\b≠X.env.locals/\(∀ x c,X.env.cells.lookup x=some c->c≠b)/\∀ p∈X.pn++pins,p.1≠b):Inv X pins σ H' s':=by
 obtain ⟨h',g',d',t',o'⟩:=s'
 have e:o'=s.os:=ho
 subst e
 exact I.call (g':=g') (t':=t') (d':=d') u hok hg hch
end
noncomputable abbrev XK:=Value->Option Addr->Hp->Prop
noncomputable abbrev St:=List (Option V)
noncomputable abbrev VK:=V->Hp->Prop
noncomputable abbrev TE:=St->Hp->VK->Prop
noncomputable abbrev TT:=St->Hp->(Bool->Hp->Prop)->Prop
noncomputable abbrev TA:=St->Hp->(List V->Hp->Prop)->Prop
structure Ends where
 nx:St->Hp->Prop
 rt:VK
 bk:St->Hp->Prop:=fun _ _=>False
 ct:St->Hp->Prop:=fun _ _=>False
noncomputable abbrev TS:=Ends->St->Hp->Prop
noncomputable def EP (X:Cx) (pins:List (Addr × Obj)) (σ:St) (Q:VK) (u:Value) (s':Shared):Prop:=∃ v H',Inv X pins σ H' s'/\RelV v u/\Q v H'
noncomputable def TP (X:Cx) (pins:List (Addr × Obj)) (σ:St) (Q:Bool->Hp->Prop) (b:Bool) (s':Shared):Prop:=∃ H',Inv X pins σ H' s'/\Q b H'
noncomputable def AP (X:Cx) (pins:List (Addr × Obj)) (σ:St) (Q:List V->Hp->Prop) (us:List Value) (s':Shared):Prop:=∃ vs H',Inv X pins σ H' s'/\Vals vs us/\Q vs H'
noncomputable def SP (X:Cx) (pins:List (Addr × Obj)) (D:Ends) (f:Flow) (s':Shared):Prop :=
 match f with
 | .next=>∃ σ' H',Inv X pins σ' H' s'/\D.nx σ' H'
 | .brk=>∃ σ' H',Inv X pins σ' H' s'/\D.bk σ' H'
 | .cont=>∃ σ' H',Inv X pins σ' H' s'/\D.ct σ' H'
 | .ret u=>∃ v σ' H',Inv X pins σ' H' s'/\RelV v u/\D.rt v H'
noncomputable def PE (X:Cx) (e:Expr) (t:TE):Prop :=
 ∀ (pins:List (Addr × Obj)) (s:Shared) (σ:St) (H:Hp) (Q:VK),Inv X pins σ H s->t σ H Q->wpAny (model X.prog X.w) X.A (eval e X.env) (EP X pins σ Q) X.xe s
noncomputable def PT (X:Cx) (e:Expr) (t:TT):Prop :=
 ∀ (pins:List (Addr × Obj)) (s:Shared) (σ:St) (H:Hp) (Q:Bool->Hp->Prop),Inv X pins σ H s->t σ H Q->wpAny (model X.prog X.w) X.A (isTrue e X.env (eval e X.env)) (TP X pins σ Q) X.xe s
noncomputable def PW (X:Cx) (e:Expr) (t:TT):Prop :=
 ∀ (whole:Sem Value) (pins:List (Addr × Obj)) (s:Shared) (σ:St) (H:Hp) (Q:Bool->Hp->Prop),Inv X pins σ H s->t σ H Q->wpAny (model X.prog X.w) X.A (isTrue e X.env whole) (TP X pins σ Q) X.xe s
theorem PW.pt {X:Cx} {e:Expr} {t:TT} (h:PW X e t):PT X e t:=h _
noncomputable def PA (X:Cx) (es:List Expr) (t:TA):Prop :=
 ∀ (pos:Pos) (pins:List (Addr × Obj)) (s:Shared) (σ:St) (H:Hp) (Q:List V->Hp->Prop),Inv X pins σ H s->t σ H Q->wpAny (model X.prog X.w) X.A (spliced (backTo pos (starEach es X.env))) (AP X pins σ Q) X.xe s
noncomputable def PS (X:Cx) (st:Stmt) (t:TS):Prop :=
 ∀ (pins:List (Addr × Obj)) (s:Shared) (σ:St) (H:Hp) (D:Ends),Inv X pins σ H s->t D σ H->wpAny (model X.prog X.w) X.A (exec st X.env) (SP X pins D) X.xe s
noncomputable def PSs (X:Cx) (st:List Stmt) (t:TS):Prop :=
 ∀ (pins:List (Addr × Obj)) (s:Shared) (σ:St) (H:Hp) (D:Ends),Inv X pins σ H s->t D σ H->wpAny (model X.prog X.w) X.A (execs st X.env) (SP X pins D) X.xe s
theorem thn {α:Type} {t:Sem α} {Q Q':α->Shared->Prop} {M:Model} {A:Around} {E:Value->Shared->Prop} {s:Shared} (h:wpAny M A t Q E s) (hQ:∀ a s,Q a s->Q' a s):wpAny M A t Q' E s:=wpAny_mono h hQ fun _ _ x=>x
section
variable {X:Cx}
theorem bin {a b:Expr} {ta tb:TE} (ha:PE X a ta) (hb:PE X b tb) {pins:List (Addr × Obj)} {s:Shared} {σ:St} {H:Hp} {R:V->V->Hp->Prop} (I:Inv X pins σ H s) (h:ta σ H fun x H1=>tb σ H1 fun y H2=>R x y H2)
 {α:Type} {Q:α->Shared->Prop} {f:Value->Value->Sem α}
 (hf:∀ v u s2 x y H2,Inv X pins σ H2 s2->RelV x v->RelV y u->R x y H2->wpAny (model X.prog X.w) X.A (f v u) Q X.xe s2) :
 wpAny (model X.prog X.w) X.A (eval a X.env) (fun v s₁=>wpAny (model X.prog X.w) X.A (eval b X.env) (fun u s₂=>wpAny (model X.prog X.w) X.A (f v u) Q X.xe s₂) X.xe s₁) X.xe s:=by
 refine thn (ha pins s σ H _ I h) fun v s1 ⟨x,H1,I1,r1,q1⟩=>?_
 refine thn (hb pins s1 σ H1 _ I1 q1) fun u s2 ⟨y,H2,I2,r2,q2⟩=>?_
 exact hf v u s2 x y H2 I2 r1 r2 q2
noncomputable def KS (i:Nat):TE:=fun σ H Q=>∃ v,σ[i]? = some (some v)/\Q v H
noncomputable def tC (v:V):TE:=fun _ H Q=>Q v H
theorem Mv {i:Nat} {x:Str} {pos:Pos} (hN:X.N[i]? = some x) (hv:Vis X.env.scope x) (hd:(x == ("__debug__" : Str))=false:=by decide) (hcd:(x == ("__classdict__" : Str))=false:=by decide):PE X (.Name x pos) (KS i):=by
 intro pins s σ H Q I h
 obtain ⟨v,e,h⟩:=h
 obtain ⟨m,hn,hl⟩:=I.loc
 obtain ⟨u,r,l⟩:=hl i x v hN e hv
 have fin:EP X pins σ Q u s:=⟨v,H,I,r,h⟩
 rcases l with ⟨hk,hm⟩ | ⟨hk,c,hc,hcell⟩
 ·exact wpAny_Name (wpAny_loadName_local I.ok.kind hk hn hm fin) hd
 ·rcases hk with hk | hk
  ·exact wpAny_Name (wpAny_loadName_cell I.ok.kind hk hc hcell fin) hd
  ·exact wpAny_Name (wpAny_loadName_free I.ok.kind hk hc hcell fin hcd) hd
theorem AC {i j pos}:PE X (.Constant (.int i) j pos) (tC (.int i)):=fun _ _ _ H _ I h=>wpAny_Constant_int ⟨.int i,H,I.tok _,⟨_,rfl⟩,h⟩
theorem DJ {b j pos}:PE X (.Constant (.bool b) j pos) (tC (.bl b)):=fun _ _ _ H _ I h=>Constant_bool ⟨.bl b,H,I,rfl,h⟩
theorem Fk {j pos}:PE X (.Constant .none j pos) (tC .non):=fun _ _ _ H _ I h=>Constant_none ⟨.non,H,I,rfl,h⟩
theorem Dp {x j pos}:PE X (.Constant (.str x) j pos) (tC (.str x)):=fun _ _ _ H _ I h=>Calls.Constant_str ⟨.str x,H,I.tok _,⟨_,rfl⟩,h⟩
noncomputable def Gl (X:Cx) (x:Str):Prop:=X.env.kindOf x=some .globalImplicit
theorem Dm {E:Value->Shared->Prop} {pins:List (Addr × Obj)} {s:Shared} {σ:St} {H:Hp} {x:Str} {u:Value} {pos:Pos} {Q:Value->Shared->Prop} (I:Inv X pins σ H s) (hg:Gl X x) (hm:X.mg x=some u) (h:Q u s)
 (hd:(x == ("__debug__" : Str))=false:=by decide):wpAny (model X.prog X.w) X.A (eval (.Name x pos) X.env) Q E s :=
 Calls.Name_function_global I.ok.kind hg (Calls.loadGlobal_global (by rw [I.ok.glob];exact I.mod.glob.keeps I.bk) hm h) hd
theorem Cp {E:Value->Shared->Prop} {pins:List (Addr × Obj)} {s:Shared} {σ:St} {H:Hp} {x:Str} {u:Value} {pos:Pos} {Q:Value->Shared->Prop} (I:Inv X pins σ H s) (hg:Gl X x) (hm:X.mg x=none) (hv:bootBuiltins x=some u) (h:Q u s)
 (hn:x ≠ "__name__":=by decide) (hd:(x == ("__debug__" : Str))=false:=by decide):wpAny (model X.prog X.w) X.A (eval (.Name x pos) X.env) Q E s:=by
 obtain ⟨mb,h1,h2⟩:=I.mod.blt
 exact Calls.Name_function_global I.ok.kind hg (Calls.loadGlobal_builtin (by rw [I.ok.glob];exact I.mod.glob.keeps I.bk) hm (by rw [I.ok.blt];exact h1.keeps I.bk) ((h2 x hn).trans hv) h) hd
theorem CT {x:Str} {v:V} {u:Value} {pos:Pos} (hg:Gl X x) (hm:X.mg x=some u) (r:RelV v u) (hd:(x == ("__debug__" : Str))=false:=by decide):PE X (.Name x pos) (tC v) :=
 fun _ _ _ H _ I h=>Dm I hg hm ⟨v,H,I,r,h⟩ hd
theorem A2 {x:Str} {v:V} {u:Value} {pos:Pos} (hg:Gl X x) (hm:X.mg x=none) (hv:bootBuiltins x=some u) (r:RelV v u) (hn:x ≠ "__name__":=by decide) (hd:(x == ("__debug__" : Str))=false:=by decide):PE X (.Name x pos) (tC v) :=
 fun _ _ _ H _ I h=>Cp I hg hm hv ⟨v,H,I,r,h⟩ hn hd
variable {a b:Expr} {ta tb:TE} {pos:Pos}
theorem E9 (b:Expr) {op:CmpOp} (h:op≠.In) (h2:op≠.NotIn):behindInMarks op b=false:=by
 have e1:(op == CmpOp.In)=false:=by cases op <;> first | rfl | exact absurd rfl h
 have e2:(op == CmpOp.NotIn)=false:=by cases op <;> first | rfl | exact absurd rfl h2
 cases b <;> simp [behindInMarks,e1,e2]
variable {tA tB':TT} {rest:List Expr}
noncomputable def JJ (t u:TT):TT:=fun σ H Q=>t σ H fun c H1=>if c=true then u σ H1 Q else Q false H1
noncomputable def tOr (t u:TT):TT:=fun σ H Q=>t σ H fun c H1=>if c=true then Q true H1 else u σ H1 Q
noncomputable def G4 (t:TT):TT:=fun σ H Q=>t σ H fun c H1=>Q (!c) H1
theorem HR (ha:PT X a tA):PW X (.BoolOp .And [a] pos) tA:=by
 intro wh pins s σ H Q I h
 refine isTrue_and (thn (ha pins s σ H Q I h) fun c s1 e=>?_)
 cases c with
 | true=>exact isTrue_and_nil e
 | false=>exact e
theorem I0 (ha:PT X a tA):PW X (.BoolOp .Or [a] pos) tA:=by
 intro wh pins s σ H Q I h
 refine isTrue_or (thn (ha pins s σ H Q I h) fun c s1 e=>?_)
 cases c with
 | false=>exact isTrue_or_nil e
 | true=>exact e
theorem II (ha:PT X a tA) (hb:PW X (.BoolOp .And (b::rest) pos) tB'):PW X (.BoolOp .And (a::b::rest) pos) (JJ tA tB'):=by
 intro wh pins s σ H Q I h
 refine isTrue_and (thn (ha pins s σ H _ I h) fun c s1 ⟨H1,I1,q1⟩=>?_)
 cases c with
 | true=>exact hb wh pins s1 σ H1 Q I1 q1
 | false=>exact ⟨H1,I1,q1⟩
theorem JL (ha:PT X a tA) (hb:PW X (.BoolOp .Or (b::rest) pos) tB'):PW X (.BoolOp .Or (a::b::rest) pos) (tOr tA tB'):=by
 intro wh pins s σ H Q I h
 refine isTrue_or (thn (ha pins s σ H _ I h) fun c s1 ⟨H1,I1,q1⟩=>?_)
 cases c with
 | true=>exact ⟨H1,I1,q1⟩
 | false=>exact hb wh pins s1 σ H1 Q I1 q1
theorem EH (ha:PT X a tA):PT X (.UnaryOp .Not a pos) (G4 tA):=by
 intro pins s σ H Q I h
 exact isTrue_not (ha pins s σ H (fun c H1=>Q (!c) H1) I h)
noncomputable def N4 (ta tb:TE):TE:=fun σ H Q=>ta σ H fun x H1=>∃ c,x=.bl c/\if c=true then tb σ H1 Q else Q (.bl false) H1
noncomputable def MQ (ta:TE):TE:=fun σ H Q=>ta σ H fun x H1=>∃ c,x=.bl c/\Q (.bl (!c)) H1
theorem Dk {op} {t:TE} (h:PE X a t):PE X (.BoolOp op [a] pos) t:=fun pins s σ H Q I hw=>BoolOp_one (h pins s σ H Q I hw)
theorem PL (ha:PE X a ta) (hb:PE X (.BoolOp .And (b::rest) pos) tb):PE X (.BoolOp .And (a::b::rest) pos) (N4 ta tb):=by
 intro pins s σ H Q I h
 refine BoolOp_and (thn (ha pins s σ H _ I h) fun v s1 ⟨x,H1,I1,r1,q1⟩=>?_)
 obtain ⟨c,rfl,q1⟩:=q1
 cases r1
 refine wpAny_truthy_bool ?_
 cases c with
 | true=>exact hb pins s1 σ H1 Q I1 q1
 | false=>exact ⟨.bl false,H1,I1,rfl,q1⟩
theorem Mf (ha:PE X a ta):PE X (.UnaryOp .Not a pos) (MQ ta):=by
 intro pins s σ H Q I h
 refine UnaryOp_ (thn (ha pins s σ H _ I h) fun v s1 ⟨x,H1,I1,r1,q1⟩=>?_)
 obtain ⟨c,rfl,q1⟩:=q1
 cases r1
 exact not_of (wpAny_truthy_bool ⟨.bl (!c),H1,I1,rfl,q1⟩)
noncomputable def tIf (t:TT) (ta tb:TE):TE:=fun σ H Q=>t σ H fun c H1=>if c=true then ta σ H1 Q else tb σ H1 Q
theorem FL {c:Expr} (hc:PT X c tA) (ha:PE X a ta) (hb:PE X b tb):PE X (.IfExp c a b pos) (tIf tA ta tb):=by
 intro pins s σ H Q I h
 refine wpAny_IfExp (thn (hc pins s σ H _ I h) fun d s1 ⟨H1,I1,q1⟩=>?_)
 cases d with
 | true=>exact ha pins s1 σ H1 Q I1 q1
 | false=>exact hb pins s1 σ H1 Q I1 q1
end
noncomputable def SqL (K:W.Frag) (H:Hp) (a:Addr) (xs:List V):Prop :=
 Rd H a (.lst xs) \/
  ∃ (o:Obj) (its:Array Value) (n:Nat),K.lookup a=some o/\o.cls=.type "list" /\ o.dict=none/\o.data=.seq its n/\its.size<=sizeLine/\Vals xs its.toList
noncomputable def SqT (K:W.Frag) (H:Hp) (a:Addr) (xs:List V):Prop :=
 Rd H a (.tup xs) \/
  ∃ (o:Obj) (its:Array Value) (n:Nat),K.lookup a=some o/\o.cls=.type "tuple" /\ o.dict=none/\o.data=.seq its n/\its.size<=sizeLine/\Vals xs its.toList
noncomputable def Ka:Value->Option V
 | .none=>some .non
 | .bool b=>some (.bl b)
 | .int i _=>some (.int i)
 | .str x _=>some (.str x)
 | .bytes b _=>some (.byt b)
 | .float b _=>some (.flt b)
 | .ref a=>some (.ref a)
 | .type n=>some (.ty n)
 | _=>none
theorem RelV.abs {x:V} {u:Value} (r:RelV x u):Ka u=some x:=by
 cases x with
 | non=>cases r;rfl
 | bl _=>cases r;rfl
 | int _=>obtain ⟨t,rfl⟩:=r;rfl
 | str _=>obtain ⟨t,rfl⟩:=r;rfl
 | byt _=>obtain ⟨t,rfl⟩:=r;rfl
 | flt _=>obtain ⟨t,rfl⟩:=r;rfl
 | ref _=>cases r;rfl
 | ty _=>cases r;rfl
theorem RelV.inj {x y:V} {u:Value} (r:RelV x u) (q:RelV y u):x=y:=Option.some.inj (r.abs.symm.trans q.abs)
theorem Vals.inj:∀ {xs ys:List V} {us:List Value},Vals xs us->Vals ys us->xs=ys
 | _,_,_,.nil,.nil=>rfl
 | _,_,_,.cons r t,.cons r' t'=>by rw [r.inj r',Vals.inj t t']
section
variable {X:Cx} {pins:List (Addr × Obj)} {σ:St} {H:Hp} {s:Shared} {a:Addr} {xs ys:List V}
theorem SqL.of {K:W.Frag} (h:H a=some (.lst xs)):SqL K H a xs:=.inl (.inl h)
theorem SqT.of {K:W.Frag} (h:H a=some (.tup xs)):SqT K H a xs:=.inl (.inl h)
theorem Inv.list (I:Inv X pins σ H s) (h:SqL X.K H a xs):∃ its:List Value,Vals xs its/\PlainL s.heap a its.toArray/\xs.length<=sizeLine:=by
 rcases h with h | ⟨o,its,n,hk,hc,hd,hs,hz,r⟩
 ·obtain ⟨z,its,n,r,e⟩:=h.ok I.hok
  exact ⟨its,r,⟨_,n,e,rfl,rfl,rfl⟩,z⟩
 ·refine ⟨its.toList,r,⟨o,n,I.kIn a o hk,hc,hd,by simpa using hs⟩,?_⟩
  have e:=r.length
  simp only [Array.length_toList] at e
  lia
theorem Inv.tuple (I:Inv X pins σ H s) (h:SqT X.K H a xs):∃ its:List Value,Vals xs its/\IsTup s.heap a its.toArray/\xs.length<=sizeLine:=by
 rcases h with h | ⟨o,its,n,hk,hc,hdd,hs,hz,r⟩
 ·obtain ⟨z,its,r,p⟩:=h.ok I.hok
  exact ⟨its,r,p.tup,z⟩
 ·refine ⟨its.toList,r,⟨o,I.kIn a o hk,hc,n,by simpa using hs⟩,?_⟩
  have e:=r.length
  simp only [Array.length_toList] at e
  lia
theorem Inv.tupleN (I:Inv X pins σ H s) (h:SqT X.K H a xs):∃ its:List Value,Vals xs its/\IsTupN s.heap a its.toArray/\xs.length<=sizeLine:=by
 rcases h with h | ⟨o,its,n,hk,hc,hdd,hs,hz,r⟩
 ·obtain ⟨z,its,r,p⟩:=h.ok I.hok
  exact ⟨its,r,p,z⟩
 ·refine ⟨its.toList,r,⟨o,I.kIn a o hk,hc,⟨n,by simpa using hs⟩,hdd⟩,?_⟩
  have e:=r.length
  simp only [Array.length_toList] at e
  lia
theorem Inv.list_inj (I:Inv X pins σ H s) (h:SqL X.K H a xs) (h':SqL X.K H a ys):xs=ys:=by
 obtain ⟨its,r,⟨o,n,e,_,_,d⟩,_⟩:=I.list h
 obtain ⟨its',r',⟨o',n',e',_,_,d'⟩,_⟩:=I.list h'
 rw [e] at e';cases e'
 rw [d] at d'
 injection d' with d1 _
 have:its=its':=by simpa using congrArg Array.toList d1
 subst this
 exact r.inj r'
theorem Inv.tuple_inj (I:Inv X pins σ H s) (h:SqT X.K H a xs) (h':SqT X.K H a ys):xs=ys:=by
 obtain ⟨its,r,⟨o,e,_,n,d⟩,_⟩:=I.tuple h
 obtain ⟨its',r',⟨o',e',_,n',d'⟩,_⟩:=I.tuple h'
 rw [e] at e';cases e'
 rw [d] at d'
 injection d' with d1 _
 have:its=its':=by simpa using congrArg Array.toList d1
 subst this
 exact r.inj r'
end
noncomputable abbrev Cx.wish (X:Cx) (E:Value->Shared->Prop):Cx:={ X with xe:=E }
noncomputable abbrev Cx.nox (X:Cx):Cx:=X.wish fun _ _=>False
theorem Cx.Ok.wish {X:Cx} (ok:X.Ok) (E:Value->Shared->Prop):(X.wish E).Ok :=
 ⟨ok.mod,ok.kind,ok.glob,ok.blt,ok.above,ok.inj,ok.has,ok.cab,ok.hd,ok.frames,ok.stk,ok.exf,ok.bs,ok.bsz,ok.noex,ok.exfs,ok.funs,ok.frf⟩
theorem Cx.Ok.unwish {X:Cx} {E:Value->Shared->Prop} (ok:(X.wish E).Ok):X.Ok :=
 ⟨ok.mod,ok.kind,ok.glob,ok.blt,ok.above,ok.inj,ok.has,ok.cab,ok.hd,ok.frames,ok.stk,ok.exf,ok.bs,ok.bsz,ok.noex,ok.exfs,ok.funs,ok.frf⟩
section
variable {X:Cx} {pins:List (Addr × Obj)} {σ:St} {H:Hp} {s:Shared} {E:Value->Shared->Prop}
theorem Inv.wish (I:Inv X pins σ H s) (E:Value->Shared->Prop):Inv (X.wish E) pins σ H s:=⟨I.ok.wish E,I.os,I.bare,I.base,I.loc,I.cell,I.free,I.freeC,I.pin,I.hok,I.len⟩
theorem Inv.unwish (I:Inv (X.wish E) pins σ H s):Inv X pins σ H s:=⟨I.ok.unwish,I.os,I.bare,I.base,I.loc,I.cell,I.free,I.freeC,I.pin,I.hok,I.len⟩
theorem SP.unwish {D:Ends} {f:Flow} {s':Shared} (h:SP (X.wish E) pins D f s'):SP X pins D f s':=by
 cases f with
 | next=>obtain ⟨σ',H',I,q⟩:=h;exact ⟨σ',H',I.unwish,q⟩
 | brk=>obtain ⟨σ',H',I,q⟩:=h;exact ⟨σ',H',I.unwish,q⟩
 | cont=>obtain ⟨σ',H',I,q⟩:=h;exact ⟨σ',H',I.unwish,q⟩
 | ret u=>obtain ⟨v,σ',H',I,r,q⟩:=h;exact ⟨v,σ',H',I.unwish,r,q⟩
theorem PT.nox {e:Expr} {t:TT} (h:PT X.nox e t):PT X e t:=fun pins s σ H Q I hw =>
 wpAny_mono (h pins s σ H Q (I.wish _) hw) (fun _ _ ⟨H',I',q⟩=>⟨H',I'.unwish,q⟩) fun _ _ z=>False.elim z
theorem PSs.nox {st:List Stmt} {t:TS} (h:PSs X.nox st t):PSs X st t:=fun pins s σ H D I hw =>
 wpAny_mono (h pins s σ H D (I.wish _) hw) (fun _ _ q=>q.unwish) fun _ _ z=>False.elim z
end
section
variable {X:Cx} {st:Stmt} {rest:List Stmt} {t u:TS} {e:Expr} {te:TE} {pos:Pos}
noncomputable def Ds:TS:=fun D σ H=>D.nx σ H
noncomputable def E5 (t u:TS):TS:=fun D σ H=>t { D with nx:=u D } σ H
theorem Ao:PSs X [] Ds:=fun _ _ σ H _ I h=>wpAny_execs_nil ⟨σ,H,I,h⟩
theorem AE (h1:PS X st t) (h2:PSs X rest u):PSs X (st::rest) (E5 t u):=by
 intro pins s σ H D I h
 refine wpAny_execs_cons (thn (h1 pins s σ H { D with nx:=u D } I h) fun f s1 q=>?_)
 cases f with
 | next =>
  obtain ⟨σ',H',I',q⟩:=q
  exact h2 pins s1 σ' H' D I' q
 | ret v=>exact q
 | brk=>exact q
 | cont=>exact q
theorem AF (h1:PS X st t):PSs X [st] t:=by
 intro pins s σ H D I h
 refine wpAny_execs_cons (thn (h1 pins s σ H D I h) fun f s1 q=>?_)
 cases f with
 | next=>exact wpAny_execs_nil q
 | ret v=>exact q
 | brk=>exact q
 | cont=>exact q
theorem Inv.quiet {pins:List (Addr × Obj)} {σ:St} {H:Hp} {s:Shared} (I:Inv X pins σ H s):interactive X.env=false:=by simp [interactive,I.ok.kind]
noncomputable def Gn (te:TE):TS:=fun D σ H=>te σ H fun _ H1=>D.nx σ H1
theorem E3 (he:PE X e te) (hs:swapsWith e none pos.line X.env=pure false:=by rfl):PS X (.Expr e pos) (Gn te):=by
 intro pins s σ H D I h
 exact wpAny_Expr_any (thn (he pins s σ H _ I h) fun v s1 ⟨x,H1,I1,r1,q1⟩=>⟨σ,H1,I1,q1⟩) I.quiet hs
noncomputable def JP (te:TE):TS:=fun D σ H=>te σ H D.rt
theorem AT (he:PE X e te):PS X (.Return (some e) pos) (JP te):=by
 intro pins s σ H D I h
 exact wpAny_Return_some (thn (he pins s σ H _ I h) fun v s1 ⟨x,H1,I1,r1,q1⟩=>⟨x,σ,H1,I1,r1,q1⟩)
noncomputable def Hu (c:TT) (t u:TS):TS:=fun D σ H=>c σ H fun b H1=>if b=true then t D σ H1 else u D σ H1
theorem Ak {c:Expr} {a b:List Stmt} {tc:TT} (hc:PT X c tc) (ha:PSs X a t) (hb:PSs X b u):PS X (.If c a b pos) (Hu tc t u):=by
 intro pins s σ H D I h
 refine wpAny_If (thn (hc pins s σ H _ I h) fun d s1 ⟨H1,I1,q1⟩=>?_)
 cases d with
 | true=>exact ha pins s1 σ H1 D I1 q1
 | false=>exact hb pins s1 σ H1 D I1 q1
noncomputable def GY:TS:=fun _ _ _=>False
theorem Nd {sts:List Stmt}:PSs X sts GY:=fun _ _ _ _ _ _ h=>h.elim
end
noncomputable abbrev TG:=V->St->Hp->(St->Hp->Prop)->Prop
noncomputable abbrev TGs:=List V->St->Hp->(St->Hp->Prop)->Prop
noncomputable def PG (X:Cx) (target:Expr) (t:TG):Prop :=
 ∀ (pins:List (Addr × Obj)) (s:Shared) (σ:St) (H:Hp) (v:V) (u:Value) (Q:St->Hp->Prop),Inv X pins σ H s->RelV v u->t v σ H Q ->
  wpAny (model X.prog X.w) X.A (assign target X.env u) (fun _ s'=>∃ σ' H',Inv X pins σ' H' s'/\Q σ' H') X.xe s
noncomputable def PGs (X:Cx) (ts:List Expr) (t:TGs):Prop :=
 ∀ (pins:List (Addr × Obj)) (s:Shared) (σ:St) (H:Hp) (vs:List V) (us:List Value) (Q:St->Hp->Prop),Inv X pins σ H s->Vals vs us->t vs σ H Q ->
  wpAny (model X.prog X.w) X.A (assignInOrder ((assignEach ts X.env).map (·.2)) us) (fun _ s'=>∃ σ' H',Inv X pins σ' H' s'/\Q σ' H') X.xe s
noncomputable abbrev Cb:=V->V->V->Hp->(Hp->Prop)->Prop
noncomputable def D3 (X:Cx) (t:Cb):Prop :=
 ∀ (pins:List (Addr × Obj)) (s:Shared) (σ:St) (H:Hp) (o i v:V) (ov iv u:Value) (Q:Hp->Prop),Inv X pins σ H s->RelV o ov->RelV i iv->RelV v u->t o i v H Q ->
  wpAny (model X.prog X.w) X.A (setItem ov iv u) (fun _ s'=>∃ H',Inv X pins σ H' s'/\Q H') X.xe s
section
variable {X:Cx} {pos:Pos}
noncomputable def AY (i:Nat):TG:=fun v σ H Q=>Q (σ.set i (some v)) H
theorem AS {i:Nat} {x:Str} (hN:X.N.Nodup) (hi:X.N[i]? = some x) (hx:Loc X.env.scope x) (hf:X.fn x=true\/X.env.scope.names.lookup x=some .local:=by first | exact .inl rfl | exact .inr rfl | assumption):PG X (.Name x pos) (AY i):=by
 intro pins s σ H v u Q I r h
 exact wpAny_assign_Name (EU I hN hi hx r (fun s' I'=>⟨_,H,I',h⟩) hf)
noncomputable def Fc:TGs:=fun vs σ H Q=>vs=[]/\Q σ H
noncomputable def Fu (t:TG) (u:TGs):TGs:=fun vs σ H Q=>∃ v r,vs=v::r/\t v σ H fun σ' H'=>u r σ' H' Q
theorem CF:PGs X [] Fc:=by
 intro pins s σ H vs us Q I r h
 obtain ⟨e,h⟩:=h
 subst e
 cases r
 exact assignInOrder_nil ⟨σ,H,I,h⟩
theorem A1 {e:Expr} {es:List Expr} {t:TG} {u:TGs} (h1:PG X e t) (h2:PGs X es u)
 (hs:(assignEach (e::es) X.env).map (·.2)=assign e X.env::(assignEach es X.env).map (·.2):=by rfl):PGs X (e::es) (Fu t u):=by
 intro pins s σ H vs us Q I r h
 obtain ⟨v,vr,e1,h⟩:=h
 subst e1
 cases r with
 | cons r rr =>
  rw [hs]
  refine assignInOrder_cons (thn (h1 pins s σ H _ _ _ I r h) fun _ s1 ⟨σ1,H1,I1,q1⟩=>?_)
  exact h2 pins s1 σ1 H1 _ _ Q I1 rr q1
noncomputable def GW (K:W.Frag) (n:Nat) (t:TGs):TG:=fun v σ H Q=>∃ a xs,v=.ref a/\SqT K H a xs/\xs.length=n/\t xs σ H Q
theorem JB {es:List Expr} {k:Nat} {t:TGs} {n:Nat} (hc:X.calm=true) (h:PGs X es t)
 (hn:(assignEach es X.env).length=n:=by rfl) (hst:(assignEach es X.env).findIdx? (·.1)=none:=by rfl):PG X (.Tuple es k pos) (GW X.K n t):=by
 intro pins s σ H v u Q I r hw
 obtain ⟨a,xs,e1,hq,hl,hw⟩:=hw
 subst e1
 cases r
 obtain ⟨its,rv,ht,hz⟩:=I.tuple hq
 refine assign_Tuple_tuple (I.ok.hd hc) ht (by simp [hn,<- hl,rv.length]) hst fun h' hx=>?_
 have I1:Inv X pins σ H { s with heap:=h' }:=I.kept (t':=s.toks) fun b o e=>hx b o (Nat.ne_of_lt (Heap.lt_size e)) e
 exact h pins _ σ H xs _ Q I1 (by simpa using rv) hw
noncomputable def HL (to ti:TE) (t:Cb):TG:=fun v σ H Q=>to σ H fun o H1=>ti σ H1 fun i H2=>t o i v H2 fun H3=>Q σ H3
theorem Bz {o i:Expr} {to ti:TE} {t:Cb} (ho:PE X o to) (hi:PE X i ti) (hs:D3 X t)
 (ha:∀ v,assign (.Subscript o i pos) X.env v=(do
   let ov <- holding [v] (eval o X.env)
   let iv <- holding [v,ov] (eval i X.env)
   standAt pos
   holding [v,ov,iv] (setItem ov iv v)
   release [v,ov,iv] []):=by intro _;rfl):PG X (.Subscript o i pos) (HL to ti t):=by
 intro pins s σ H v u Q I r h
 rw [ha]
 refine wpAny_bind (wpAny_holding (thn (ho pins s σ H _ I h) fun ov s1 ⟨x,H1,I1,r1,q1⟩=>?_))
 refine wpAny_bind (wpAny_holding (thn (hi pins s1 σ H1 _ I1 q1) fun iv s2 ⟨y,H2,I2,r2,q2⟩=>?_))
 refine wpAny_bind (wpAny_standAt (wpAny_bind (wpAny_holding (thn (hs pins s2 σ H2 x y v ov iv u _ I2 r1 r2 r q2) fun _ s3 ⟨H3,I3,q3⟩=>?_))))
 exact wpAny_release ⟨σ,H3,I3,q3⟩
noncomputable def DL (te:TE) (g:TG):TS:=fun D σ H=>te σ H fun x H1=>g x σ H1 D.nx
theorem Bv {tg e:Expr} {te:TE} {g:TG} (he:PE X e te) (hg:PG X tg g) (hs:swapsWithSole [tg] e pos.line X.env=pure false:=by rfl) (hw:swappedStores [tg] e X.env=pure none:=by rfl)
 (h1:(assignEach [tg] X.env).map (·.2)=[assign tg X.env]:=by rfl):PS X (.Assign [tg] e pos) (DL te g):=by
 intro pins s σ H D I h
 refine wpAny_Assign_stores (thn (he pins s σ H _ I h) fun v s1 ⟨x,H1,I1,r1,q1⟩=>?_) hs hw
 rw [h1]
 exact thn (hg pins s1 σ H1 x v _ I1 r1 q1) fun _ s2 q=>q
theorem AL {i:Nat} {x:Str} {e:Expr} {te:TE} {pos':Pos} (hN:X.N.Nodup) (hi:X.N[i]? = some x) (hx:Loc X.env.scope x) (he:PE X e te) (hs:swapsWith e (some (.Name x pos')) pos.line X.env=pure false:=by rfl) (hf:X.fn x=true\/X.env.scope.names.lookup x=some .local:=by first | exact .inl rfl | exact .inr rfl | assumption) :
 PS X (.Assign [.Name x pos'] e pos) (DL te (AY i)):=by
 intro pins s σ H D I h
 refine wpAny_Assign_Name (thn (he pins s σ H _ I h) fun v s1 ⟨y,H1,I1,r1,q1⟩=>?_) hs
 exact EU I1 hN hi hx r1 (fun s2 I2=>⟨_,H1,I2,q1⟩) hf
end
section
variable {X:Cx} {pos:Pos}
end
structure It where
 go:Nat->Hp->Prop
 yld:Nat->Hp->V->Hp->Prop
 stop:Nat->Hp->Prop
noncomputable def BB (X:Cx) (pins:List (Addr × Obj)) (H:Hp) (b:Addr):Prop :=
 H b=none/\b≠X.env.locals/\b∉X.fs/\(b∈X.ex\/X.s₀.heap.objs.size<=b)/\(∀ x c,X.env.cells.lookup x=some c->c≠b)/\∀ p∈X.pn++pins,p.1≠b
theorem Inv.fpOk {X:Cx} {pins:List (Addr × Obj)} {σ:St} {H H':Hp} {s:Shared} {b:Addr} (I:Inv X pins σ H s) (hb:s.heap.objs.size<=b) (hn:H' b=none):BB X pins H' b:=by
 refine ⟨hn,Nat.ne_of_gt (Nat.lt_of_lt_of_le I.lt hb),I.nofs hb,.inr (Nat.le_trans I.sz hb),fun x c e z=>?_,fun p hp z=>?_⟩
 ·obtain ⟨v,q⟩:=I.cell x c e
  exact absurd (Nat.lt_of_lt_of_le q.lt (by rw [z];exact hb)) (Nat.lt_irrefl _)
 ·exact absurd (Nat.lt_of_lt_of_le (Heap.lt_size (I.pin p hp).1) (by rw [z];exact hb)) (Nat.lt_irrefl _)
structure Turn (P:Program) (w:World) (K:W.Frag) (tg:Expr) (J:It) (fp:List Addr) (it:Addr) (tn:Nat->Heap->Prop):Prop where
 mem:it∈fp
 obj:∀ i h,tn i h->∀ b∈fp,∃ o,h.get? b=some o/\∀ v,o.data≠.cell v
 keep:∀ i h h',tn i h->(∀ b∈fp,∀ o,h.get? b=some o->h'.get? b=some o)->tn i h'
 item:∀ (X:Cx),X.prog=P->X.w=w->X.K=K->X.calm=true->∀ (i:Nat) (pins:List (Addr × Obj)) (s:Shared) (σ:St) (H:Hp) (E:Value->Shared->Prop),Inv X pins σ H s->(∀ b∈fp,BB X pins H b)->tn i s.heap->J.go i H ->
  wpAny (model P w) X.A (pyNext (.ref it)) (fun r s1=>∃ u,r=some u /\
   wpAny (model P w) X.A (letOwnedTupleGo tg (.ref it) u) (fun _ s2=>∃ x H',Inv X pins σ H' s2/\RelV x u/\J.yld i H x H'/\tn (i+1) s2.heap/\∀ b∈fp,H' b=none) E s1) E s
 done:∀ (X:Cx),X.prog=P->X.w=w->X.K=K->X.calm=true->∀ (i:Nat) (pins:List (Addr × Obj)) (s:Shared) (σ:St) (H:Hp) (E:Value->Shared->Prop),Inv X pins σ H s->(∀ b∈fp,BB X pins H b)->tn i s.heap->J.stop i H ->
  wpAny (model P w) X.A (pyNext (.ref it)) (fun r s1=>r=none/\Inv X pins σ H s1) E s
 self:∀ (A:Around) (i:Nat) (s:Shared) (Q:Value->Shared->Prop) (E:Value->Shared->Prop),tn i s.heap->Q (.ref it) s->wpAny (model P w) A (pyIter (.ref it)) Q E s
noncomputable abbrev TI:=St->Hp->(It->Hp->Prop)->Prop
noncomputable def PIE (X:Cx) (pins:List (Addr × Obj)) (σ:St) (tg:Expr) (R:It->Hp->Prop) (itv:Value) (s2:Shared):Prop :=
 ∃ (it:Addr) (fp:List Addr) (tn:Nat->Heap->Prop) (J:It) (H':Hp),itv=.ref it/\Inv X pins σ H' s2/\Turn X.prog X.w X.K tg J fp it tn/\tn 0 s2.heap/\(∀ b∈fp,BB X pins H' b)/\R J H'
noncomputable def PI (X:Cx) (tg iter:Expr) (wi:TI):Prop :=
 ∀ (pins:List (Addr × Obj)) (s:Shared) (σ:St) (H:Hp) (R:It->Hp->Prop),Inv X pins σ H s->wi σ H R ->
  wpAny (model X.prog X.w) X.A (eval iter X.env) (fun v s1=>wpAny (model X.prog X.w) X.A (pyIter v) (PIE X pins σ tg R) X.xe s1) X.xe s
theorem D8 {M:Model} {A:Around} {E:Value->Shared->Prop} {s:Shared} {tg:Expr} {it:Addr} {u:Value} {o:Obj} {n:String} {vs:Array Value} {Q:Unit->Shared->Prop} (ho:s.heap.get? it=some o) (hc:o.cls=.type n) (hd:o.data=.fields vs)
 (hn:["enumerate","zip","dict_itemiterator","dict_reverseitemiterator","odict_iterator","itertools.zip_longest","itertools.pairwise"].contains n=false) (hQ:Q () s):wpAny M A (letOwnedTupleGo tg (.ref it) u) Q E s:=by
 unfold letOwnedTupleGo
 cases tg <;> first
  | exact wpAny_pure hQ
  | (cases u <;> first
      | exact wpAny_pure hQ
      | (refine wpAny_bind (wpAny_load ho ?_)
         rw [hc,hd]
         show wpAny M A (if (["enumerate","zip","dict_itemiterator","dict_reverseitemiterator","odict_iterator","itertools.zip_longest","itertools.pairwise"].contains n && vs[0]? == some (rawInt _))=true then _ else _) Q E s
         rw [if_neg (by intro h;rw [hn,Bool.false_and] at h;cases h)]
         exact wpAny_pure hQ))
noncomputable def Itl (K:W.Frag) (a:Addr):It :=
 ⟨fun i H=>∃ xs x,SqL K H a xs/\xs[i]? = some x,fun i H x H'=>H'=H/\∀ xs,SqL K H a xs->xs[i]? = some x,fun i H=>∃ xs,SqL K H a xs/\xs.length<=i⟩
noncomputable def Itt (K:W.Frag) (a:Addr):It :=
 ⟨fun i H=>∃ xs x,SqT K H a xs/\xs[i]? = some x,fun i H x H'=>H'=H/\∀ xs,SqT K H a xs->xs[i]? = some x,fun i H=>∃ xs,SqT K H a xs/\xs.length<=i⟩
noncomputable def Itr (lo:Int) (n:Nat):It:=⟨fun i _=>i < n,fun i H x H'=>H'=H/\x=.int (lo+i),fun i _=>n<=i⟩
theorem K5 {P:Program} {w:World} {K:W.Frag} {tg:Expr} (a it:Addr):Turn P w K tg (Itl K a) [it] it (fun i h=>h.IsListIter it a i) where
 mem:=by simp
 obj:=fun i h st b hb=>by
  have e:b=it:=by simpa using hb
  subst e
  obtain ⟨o,e,c,d⟩:=st
  exact ⟨o,e,fun v z=>by rw [d] at z;cases z⟩
 keep:=fun i h h' st k=>st.at fun o e=>k it (by simp) o e
 item:=by
  intro X hP hw hK hc i pins s σ H E I hf st hg
  subst hP hw hK
  obtain ⟨xs,x,hq,hx⟩:=hg
  obtain ⟨its,rv,p,hz⟩:=I.list hq
  obtain ⟨u,hu,ru⟩:=rv.get hx
  obtain ⟨f0,f1,f2,f3,f4,f5⟩:=hf it (by simp)
  refine wpAny_pyNext_list_item st p.isList (x:=u) (by simpa using hu) fun h' st' sb=>?_
  have I1:Inv X pins σ H { s with heap:=h' }:=I.turned (t':=s.toks) (fun b o hb e=>(sb.2 b hb).trans e) f0 f1 f3 f4 f5
  obtain ⟨o,e,c,d⟩:=id st'
  exact ⟨u,rfl,D8 (s:={ s with heap:=h' }) e c d (by decide) ⟨x,H,I1,ru,⟨rfl,fun ys hy=>by rw [I.list_inj hy hq];exact hx⟩,st',fun b hb=>(hf b hb).1⟩⟩
 done:=by
  intro X hP hw hK hc i pins s σ H E I hf st hg
  subst hP hw hK
  obtain ⟨xs,hq,hx⟩:=hg
  obtain ⟨its,rv,p,hz⟩:=I.list hq
  obtain ⟨f0,f1,f2,f3,f4,f5⟩:=hf it (by simp)
  have hl:=rv.length
  exact wpAny_pyNext_list_end (I.ok.hd hc) st p.isList (by simp;lia) fun h' eb=>⟨rfl,I.turned (t':=s.toks) (fun b o hb e=>eb b o hb e) f0 f1 f3 f4 f5⟩
 self:=fun _ _ _ _ _ st h=>wpAny_pyIter_listiter st h
theorem J4 {P:Program} {w:World} {K:W.Frag} {tg:Expr} (a it:Addr):Turn P w K tg (Itt K a) [it] it (fun i h=>h.IsTupleIter it a i) where
 mem:=by simp
 obj:=fun i h st b hb=>by
  have e:b=it:=by simpa using hb
  subst e
  obtain ⟨o,e,c,d⟩:=st
  exact ⟨o,e,fun v z=>by rw [d] at z;cases z⟩
 keep:=fun i h h' st k=>st.at fun o e=>k it (by simp) o e
 item:=by
  intro X hP hw hK hc i pins s σ H E I hf st hg
  subst hP hw hK
  obtain ⟨xs,x,hq,hx⟩:=hg
  obtain ⟨its,rv,p,hz⟩:=I.tuple hq
  obtain ⟨u,hu,ru⟩:=rv.get hx
  obtain ⟨f0,f1,f2,f3,f4,f5⟩:=hf it (by simp)
  refine wpAny_pyNext_tuple_item st (show s.heap.IsTuple a its.toArray from p) (x:=u) (by simpa using hu) fun h' st' sb=>?_
  have I1:Inv X pins σ H { s with heap:=h' }:=I.turned (t':=s.toks) (fun b o hb e=>(sb.2 b hb).trans e) f0 f1 f3 f4 f5
  obtain ⟨o,e,c,d⟩:=id st'
  exact ⟨u,rfl,D8 (s:={ s with heap:=h' }) e c d (by decide) ⟨x,H,I1,ru,⟨rfl,fun ys hy=>by rw [I.tuple_inj hy hq];exact hx⟩,st',fun b hb=>(hf b hb).1⟩⟩
 done:=by
  intro X hP hw hK hc i pins s σ H E I hf st hg
  subst hP hw hK
  obtain ⟨xs,hq,hx⟩:=hg
  obtain ⟨its,rv,p,hz⟩:=I.tuple hq
  obtain ⟨f0,f1,f2,f3,f4,f5⟩:=hf it (by simp)
  have hl:=rv.length
  exact wpAny_pyNext_tuple_end (I.ok.hd hc) st (show s.heap.IsTuple a its.toArray from p) (by simp;lia) fun h' eb=>⟨rfl,I.turned (t':=s.toks) (fun b o hb e=>eb b o hb e) f0 f1 f3 f4 f5⟩
 self:=fun _ _ _ _ _ st h=>wpAny_pyIter_tupleiter st h
theorem Ke {P:Program} {w:World} {K:W.Frag} {tg:Expr} (it:Addr) (lo:Int) (n:Nat):Turn P w K tg (Itr lo n) [it] it (fun i h=>IsRangeIter h it (lo+(i:Nat) * 1) ((n:Int) - (i:Nat)) 1) where
 mem:=by simp
 obj:=fun i h st b hb=>by
  have e:b=it:=by simpa using hb
  subst e
  exact ⟨_,st,fun v z=>by
   have z':Data.fields _=Data.cell v:=z
   cases z'⟩
 keep:=fun i h h' st k=>k it (by simp) _ st
 item:=by
  intro X hP hw hK hc i pins s σ H E I hf st hg
  subst hP hw hK
  obtain ⟨f0,f1,f2,f3,f4,f5⟩:=hf it (by simp)
  have W:=Walks.range (prog:=X.prog) (w:=X.w) (I.ok.hd hc) it lo 1 n
  refine W.item i s _ _ hg st fun v h' tk hv st' kk=>?_
  obtain ⟨t,rfl⟩:=hv
  have I1:Inv X pins σ H { s with heap:=h',toks:=tk }:=I.turned (fun b o hb e=>kk b o (by simpa using hb) e) f0 f1 f3 f4 f5
  refine ⟨_,rfl,D8 (s:={ s with heap:=h',toks:=tk }) (n:="range_iterator") st' rfl rfl (by decide) ⟨.int (lo+i),H,I1,⟨t,?_⟩,⟨rfl,rfl⟩,st',fun b hb=>(hf b hb).1⟩⟩
  rw [Int.mul_one]
 done:=by
  intro X hP hw hK hc i pins s σ H E I hf st hg
  subst hP hw hK
  obtain ⟨f0,f1,f2,f3,f4,f5⟩:=hf it (by simp)
  exact wpAny_pyNext_range_end (I.ok.hd hc) st (by have:n<=i:=hg;lia) fun h' eb=>⟨rfl,I.turned (t':=s.toks) (fun b o hb e=>eb b o hb e) f0 f1 f3 f4 f5⟩
 self:=fun _ _ _ _ _ st h=>wpAny_pyIter_rangeiter st h
section
variable {X:Cx} {tg:Expr}
theorem NO {pins:List (Addr × Obj)} {σ:St} {H:Hp} {s:Shared} {R:It->Hp->Prop} {E:Value->Shared->Prop} {lo hi:Int} {t u v:Tok} {tk:Nat} (I:Inv X pins σ H s) (h1 : -(2 ^ 62)<=lo) (h2:lo < 2 ^ 62) (h3 : -(2 ^ 62)<=hi) (h4:hi < 2 ^ 62)
 (q:R (Itr lo (hi - lo).toNat) H):wpAny (model X.prog X.w) X.A (pyIter (.ref s.heap.objs.size)) (PIE X pins σ tg R) E { s with heap:=s.heap.push { cls:=.type "range",data:=.fields #[.int lo t,.int hi u,.int 1 v] },toks:=tk }:=by
 refine wpAny_pyIter_range (IsRange.new ..) (small_one h1 h2 h3 h4) ?_
 have I1:Inv X pins σ H { s with heap:=s.heap.push { cls:=.type "range",data:=.fields #[.int lo t,.int hi u,.int 1 v] },toks:=tk }:=I.kept fun b o e=>Heap.get?_push_of_some _ e
 refine ⟨(s.heap.push { cls:=.type "range",data:=.fields #[.int lo t,.int hi u,.int 1 v] }).objs.size,[(s.heap.push { cls:=.type "range",data:=.fields #[.int lo t,.int hi u,.int 1 v] }).objs.size],_,_,H,rfl,
  I1.kept (t':=tk) fun b o e=>Heap.get?_push_of_some _ e,Ke _ lo (hi - lo).toNat,?_,fun b hb=>?_,q⟩
 ·have e1:lo+((0:Nat):Int) * 1=lo:=by simp
  have e2:(((hi - lo).toNat:Nat):Int) - ((0:Nat):Int)=Builtin.Range.rangeSize lo hi 1:=by rw [rangeSize_one];split <;> lia
  show IsRangeIter _ _ (lo+((0:Nat):Int) * 1) ((((hi - lo).toNat:Nat):Int) - ((0:Nat):Int)) 1
  rw [e1,e2]
  exact Heap.get?_push_size _ rfl
 ·have e:b=(s.heap.push { cls:=.type "range",data:=.fields #[.int lo t,.int hi u,.int 1 v] }).objs.size:=by simpa using hb
  subst e
  exact I1.fpOk (Nat.le_refl _) (I1.hok.fresh (Nat.le_refl _))
noncomputable def Ip (ta:TA):TI:=fun σ H R=>ta σ H fun vs H1=>∃ j:Int,vs=[.int j] /\ -(2 ^ 62)<=j/\j < 2 ^ 62/\R (Itr 0 j.toNat) H1
theorem A3 {a:Expr} {ta:TA} {p pos:Pos} (hg:Gl X "range") (hm:X.mg "range" = none) (ha:PA X [a] ta) (hs:starEach [a] X.env=[(false,eval a X.env)]:=by rfl):PI X tg (.Call (.Name "range" p) [a] [] pos) (Ip ta):=by
 intro pins s σ H R I h
 refine Call_ (Cp I hg hm boot_range (PyProof.Rows.callWith_type1 (thn (ha pos pins s σ H _ I h) fun us s1 ⟨vs,H1,I1,r1,q1⟩=>?_) hs rfl))
 obtain ⟨j,e,q1,q2,q⟩:=q1
 subst e
 cases r1 with
 | cons r rr =>
  cases rr
  obtain ⟨t,rfl⟩:=r
  exact call_range_1 (NO I1 (by lia) (by lia) q1 q2 (by simpa using q))
noncomputable def IS (wi:TI) (g:TG) (tb:TS):TS:=fun D σ H=>wi σ H fun J H1=>∃ W:Nat->Nat->St->Hp->Prop,(∃ m,W 0 m σ H1)/\∀ i m σ H,W i m σ H ->
 (J.stop i H/\D.nx σ H)\/(J.go i H/\∃ N:St->Hp->Prop,(∀ σ' H',N σ' H'->∃ m',m' < m/\W (i+1) m' σ' H')/\∀ x H',J.yld i H x H'->g x σ H' fun σ2 H2=>tb { D with nx:=N,ct:=N,bk:=D.nx } σ2 H2)
noncomputable def BJ (fp:List Addr) (h:Heap):List (Addr × Obj):=fp.filterMap fun b=>(h.get? b).map fun o=>(b,o)
theorem Cg {fp:List Addr} {h:Heap} {b:Addr} {o:Obj} (hb:b∈fp) (e:h.get? b=some o):(b,o)∈BJ fp h:=List.mem_filterMap.mpr ⟨b,hb,by rw [e];rfl⟩
theorem Fy {fp:List Addr} {h:Heap} {p:Addr × Obj} (hp:p∈BJ fp h):p.1∈fp/\h.get? p.1=some p.2:=by
 obtain ⟨b,hb,e⟩:=List.mem_filterMap.mp hp
 cases q:h.get? b with
 | none=>rw [q] at e;cases e
 | some o =>
  rw [q] at e
  have e':(b,o)=p:=Option.some.inj e
  subst e'
  exact ⟨hb,q⟩
theorem Inv.pinned {pins:List (Addr × Obj)} {σ:St} {H:Hp} {s:Shared} {fp:List Addr} (I:Inv X pins σ H s) (hf:∀ b∈fp,BB X pins H b) (ho:∀ b∈fp,∃ o,s.heap.get? b=some o/\∀ v,o.data≠.cell v):Inv X (pins++BJ fp s.heap) σ H s :=
 I.pins_of fun p hp=>(List.mem_append.mp hp).elim (fun z=>I.pin p (List.mem_append_right _ z)) fun z=>by
  obtain ⟨hb,e⟩:=Fy z
  obtain ⟨f0,f1,f2,_⟩:=hf p.1 hb
  obtain ⟨o,e',d⟩:=ho p.1 hb
  rw [e] at e';cases e'
  exact ⟨e,f0,f1,f2,d⟩
theorem Inv.unpinned {pins pl:List (Addr × Obj)} {σ:St} {H:Hp} {s:Shared} (I:Inv X (pins++pl) σ H s):Inv X pins σ H s:=I.pins_of fun p hp=>I.pin p (List.mem_append_right _ (List.mem_append_left _ hp))
theorem Bj {iter:Expr} {body:List Stmt} {wi:TI} {g:TG} {tb:TS} {pos:Pos} (hp:PassesOwn (model X.prog X.w) X.A X.env X.xe) (hc:X.calm=true) (hi:PI X tg iter wi) (hg:PG X tg g) (hb:PSs X body tb)
 (hs:∀ x,foldedSetIterable iter X.env x=pure x:=by intro _;rfl):PS X (.For tg iter body [] pos) (IS wi g tb):=by
 intro pins s σ H D I h
 refine wpAny_For (thn (hi pins s σ H _ I h) fun v s1 h1=>thn h1 fun itv s2 h2=>?_) hs
 obtain ⟨it,fp,tn,J,H2,e,I2,T,st2,f2,W,⟨m0,w0⟩,turn⟩:=h2
 subst e
 -- what stays true of the iterator's objects through the loop
 have stat:∀ {H':Hp},(∀ b∈fp,H' b=none)->∀ b∈fp,BB X pins H' b:=fun hn b hb=>⟨hn b hb,(f2 b hb).2⟩
 refine codeAny_forLoop_any (fun n s'=>∃ i σ' H',Inv X pins σ' H' s'/\tn i s'.heap/\(∀ b∈fp,H' b=none)/\W i n σ' H') ?_ m0 ⟨0,σ,H2,I2,st2,fun b hb=>(f2 b hb).1,w0⟩
 rintro n s3 ⟨i,σ3,H3,I3,st3,fr3,w3⟩
 rcases turn i n σ3 H3 w3 with ⟨stop,qn⟩ | ⟨go,N,hN,step⟩
 ·refine wpAny_passesOwn hp (thn (T.done X rfl rfl rfl hc i pins s3 σ3 H3 X.xe I3 (stat fr3) st3 stop) fun r s4 ⟨hr,I4⟩=>?_)
  subst hr
  exact wpAny_execs_nil ⟨σ3,H3,I4,qn⟩
 ·refine wpAny_passesOwn hp (thn (T.item X rfl rfl rfl hc i pins s3 σ3 H3 X.xe I3 (stat fr3) st3 go) fun r s4 ⟨u,hr,h4⟩=>?_)
  subst hr
  refine wpAny_passesOwn hp (thn h4 fun _ s5 ⟨x,H5,I5,r5,y5,st5,fr5⟩=>?_)
  have I5':=I5.pinned (stat fr5) (T.obj _ _ st5)
  refine wpAny_passesOwn hp (thn (hg _ s5 σ3 H5 x u _ I5' r5 (step x H5 y5)) fun _ s6 ⟨σ6,H6,I6,q6⟩=>?_)
  refine wpAny_passesOwn hp (thn (hb _ s6 σ6 H6 _ I6 q6) fun f s7 q7=>?_)
  have again:∀ {σ7:St} {H7:Hp},Inv X (pins++BJ fp s5.heap) σ7 H7 s7->N σ7 H7->∃ m,m < n/\∃ i σ' H',Inv X pins σ' H' s7/\tn i s7.heap/\(∀ b∈fp,H' b=none)/\W i m σ' H':=fun {σ7 H7} I7 n7=>by
   obtain ⟨m',hm,w7⟩:=hN σ7 H7 n7
   refine ⟨m',hm,i+1,σ7,H7,I7.unpinned,T.keep _ _ _ st5 fun b hb o e=>(I7.pin (b,o) (List.mem_append_right _ (List.mem_append_right _ (Cg hb e)))).1,fun b hb=>?_,w7⟩
   obtain ⟨o,e,d⟩:=T.obj _ _ st5 b hb
   exact (I7.pin (b,o) (List.mem_append_right _ (List.mem_append_right _ (Cg hb e)))).2.1
  cases f with
  | next=>obtain ⟨σ7,H7,I7,n7⟩:=q7;exact again I7 n7
  | cont=>obtain ⟨σ7,H7,I7,n7⟩:=q7;exact again I7 n7
  | brk=>obtain ⟨σ7,H7,I7,q7⟩:=q7;exact ⟨σ7,H7,I7.unpinned,q7⟩
  | ret v=>obtain ⟨x7,σ7,H7,I7,r7,q7⟩:=q7;exact ⟨x7,σ7,H7,I7.unpinned,r7,q7⟩
end
theorem O8 {K:W.Frag} {a:Addr} {xs:List V} {g:TG} {tb:TS} {D:Ends} {σ:St} {H:Hp} (Pv:Nat->St->Hp->Prop) (h0:Pv 0 σ H) (hl:∀ i σ H,i<=xs.length->Pv i σ H->SqL K H a xs)
 (hs:∀ i x σ H,xs[i]? = some x->Pv i σ H->g x σ H fun σ2 H2=>tb { D with nx:=Pv (i+1),ct:=Pv (i+1),bk:=D.nx } σ2 H2) (hd:∀ σ H,Pv xs.length σ H->D.nx σ H) :
 ∃ W:Nat->Nat->St->Hp->Prop,(∃ m,W 0 m σ H)/\∀ i m σ H,W i m σ H ->
  ((Itl K a).stop i H/\D.nx σ H)\/((Itl K a).go i H/\∃ N:St->Hp->Prop,(∀ σ' H',N σ' H'->∃ m',m' < m/\W (i+1) m' σ' H')/\∀ x H',(Itl K a).yld i H x H'->g x σ H' fun σ2 H2=>tb { D with nx:=N,ct:=N,bk:=D.nx } σ2 H2):=by
 refine ⟨fun i m σ H=>m=xs.length - i/\i<=xs.length/\Pv i σ H,⟨xs.length,by simp,Nat.zero_le _,h0⟩,?_⟩
 rintro i m σ H ⟨rfl,hi,p⟩
 have q:=hl i σ H hi p
 by_cases hlt:i < xs.length
 ·refine .inr ⟨⟨xs,xs[i],q,by simp [hlt]⟩,Pv (i+1),fun σ' H' p'=>⟨xs.length - (i+1),by lia,rfl,hlt,p'⟩,fun x H' y=>?_⟩
  obtain ⟨e,y⟩:=y
  subst e
  exact hs i x σ _ (y xs q) p
 ·have e:i=xs.length:=by lia
  subst e
  exact .inl ⟨⟨xs,q,Nat.le_refl _⟩,hd σ H p⟩
theorem OA {K:W.Frag} {a:Addr} {xs:List V} {g:TG} {tb:TS} {D:Ends} {σ:St} {H:Hp} (Pv:Nat->St->Hp->Prop) (h0:Pv 0 σ H) (hl:∀ i σ H,i<=xs.length->Pv i σ H->SqT K H a xs)
 (hs:∀ i x σ H,xs[i]? = some x->Pv i σ H->g x σ H fun σ2 H2=>tb { D with nx:=Pv (i+1),ct:=Pv (i+1),bk:=D.nx } σ2 H2) (hd:∀ σ H,Pv xs.length σ H->D.nx σ H) :
 ∃ W:Nat->Nat->St->Hp->Prop,(∃ m,W 0 m σ H)/\∀ i m σ H,W i m σ H ->
  ((Itt K a).stop i H/\D.nx σ H)\/((Itt K a).go i H/\∃ N:St->Hp->Prop,(∀ σ' H',N σ' H'->∃ m',m' < m/\W (i+1) m' σ' H')/\∀ x H',(Itt K a).yld i H x H'->g x σ H' fun σ2 H2=>tb { D with nx:=N,ct:=N,bk:=D.nx } σ2 H2):=by
 refine ⟨fun i m σ H=>m=xs.length - i/\i<=xs.length/\Pv i σ H,⟨xs.length,by simp,Nat.zero_le _,h0⟩,?_⟩
 rintro i m σ H ⟨rfl,hi,p⟩
 have q:=hl i σ H hi p
 by_cases hlt:i < xs.length
 ·refine .inr ⟨⟨xs,xs[i],q,by simp [hlt]⟩,Pv (i+1),fun σ' H' p'=>⟨xs.length - (i+1),by lia,rfl,hlt,p'⟩,fun x H' y=>?_⟩
  obtain ⟨e,y⟩:=y
  subst e
  exact hs i x σ _ (y xs q) p
 ·have e:i=xs.length:=by lia
  subst e
  exact .inl ⟨⟨xs,q,Nat.le_refl _⟩,hd σ H p⟩
theorem CO {lo:Int} {n:Nat} {g:TG} {tb:TS} {D:Ends} {σ:St} {H:Hp} (Pv:Nat->St->Hp->Prop) (h0:Pv 0 σ H)
 (hs:∀ i σ H,i < n->Pv i σ H->g (.int (lo+i)) σ H fun σ2 H2=>tb { D with nx:=Pv (i+1),ct:=Pv (i+1),bk:=D.nx } σ2 H2) (hd:∀ σ H,Pv n σ H->D.nx σ H) :
 ∃ W:Nat->Nat->St->Hp->Prop,(∃ m,W 0 m σ H)/\∀ i m σ H,W i m σ H ->
  ((Itr lo n).stop i H/\D.nx σ H)\/((Itr lo n).go i H/\∃ N:St->Hp->Prop,(∀ σ' H',N σ' H'->∃ m',m' < m/\W (i+1) m' σ' H')/\∀ x H',(Itr lo n).yld i H x H'->g x σ H' fun σ2 H2=>tb { D with nx:=N,ct:=N,bk:=D.nx } σ2 H2):=by
 refine ⟨fun i m σ H=>m=n - i/\i<=n/\Pv i σ H,⟨n,by simp,Nat.zero_le _,h0⟩,?_⟩
 rintro i m σ H ⟨rfl,hi,p⟩
 by_cases hlt:i < n
 ·refine .inr ⟨hlt,Pv (i+1),fun σ' H' p'=>⟨n - (i+1),by lia,rfl,hlt,p'⟩,fun x H' y=>?_⟩
  obtain ⟨e,y⟩:=y
  subst e y
  exact hs i σ _ hlt p
 ·have e:i=n:=by lia
  subst e
  exact .inl ⟨Nat.le_refl _,hd σ H p⟩
noncomputable abbrev R2:=V->V->Hp->VK->Prop
noncomputable def OpR (X:Cx) (f:Value->Value->Sem Value) (r:R2):Prop :=
 ∀ (pins:List (Addr × Obj)) (s:Shared) (σ:St) (H:Hp) (x y:V) (v u:Value) (Q:VK),Inv X pins σ H s->RelV x v->RelV y u->r x y H Q ->
  wpAny (model X.prog X.w) X.A (f v u) (EP X pins σ Q) X.xe s
noncomputable def UnR (X:Cx) (f:Value->Sem Value) (r:V->Hp->VK->Prop):Prop :=
 ∀ (pins:List (Addr × Obj)) (s:Shared) (σ:St) (H:Hp) (x:V) (v:Value) (Q:VK),Inv X pins σ H s->RelV x v->r x H Q ->
  wpAny (model X.prog X.w) X.A (f v) (EP X pins σ Q) X.xe s
noncomputable def CallR (X:Cx) (f:Value) (r:List V->Hp->VK->Prop):Prop :=
 ∀ (pins:List (Addr × Obj)) (s:Shared) (σ:St) (H:Hp) (xs:List V) (us:List Value) (Q:VK),Inv X pins σ H s->Vals xs us->r xs H Q ->
  wpAny (model X.prog X.w) X.A (call f us) (EP X pins σ Q) X.xe s
noncomputable def tOp (r:R2) (ta tb:TE):TE:=fun σ H Q=>ta σ H fun x H1=>tb σ H1 fun y H2=>r x y H2 Q
noncomputable def tUn (r:V->Hp->VK->Prop) (ta:TE):TE:=fun σ H Q=>ta σ H fun x H1=>r x H1 Q
noncomputable def rI (C:Int->Int->Prop) (g:Int->Int->V):R2:=fun x y H Q=>∃ i j,x=.int i/\y=.int j/\C i j/\Q (g i j) H
noncomputable def rI0 (g:Int->Int->V):R2:=fun x y H Q=>∃ i j,x=.int i/\y=.int j/\Q (g i j) H
noncomputable def rU (g:Int->V):V->Hp->VK->Prop:=fun x H Q=>∃ i,x=.int i/\Q (g i) H
section
variable {X:Cx} {a b c:Expr} {ta tb tc:TE} {pos:Pos}
theorem Fa (ha:PE X a ta) (hb:PE X b tb) {pins:List (Addr × Obj)} {s:Shared} {σ:St} {H:Hp} {R:V->V->Hp->Prop} (I:Inv X pins σ H s)
 (h:ta σ H fun x H1=>tb σ H1 fun y H2=>R x y H2) {Q:Value->Shared->Prop} {f:Value->Value->Sem Value}
 (hf:∀ v u s2 x y H2,Inv X pins σ H2 s2->RelV x v->RelV y u->R x y H2->wpAny (model X.prog X.w) X.A (f v u) Q X.xe s2) :
 wpAny (model X.prog X.w) X.A (eval a X.env) (fun v s₁=>wpAny (model X.prog X.w) X.A (eval b X.env) (fun u s₂=>wpAny (model X.prog X.w) X.A (f v u) Q X.xe s₂) X.xe s₁) X.xe s:=by
 refine thn (ha pins s σ H _ I h) fun v s1 ⟨x,H1,I1,r1,q1⟩=>?_
 refine thn (hb pins s1 σ H1 _ I1 q1) fun u s2 ⟨y,H2,I2,r2,q2⟩=>?_
 exact hf v u s2 x y H2 I2 r1 r2 q2
theorem AM {op:Operator} {r:R2} (ho:OpR X (binaryOp op) r) (ha:PE X a ta) (hb:PE X b tb):PE X (.BinOp a op b pos) (tOp r ta tb):=by
 intro pins s σ H Q I h
 exact wpAny_BinOp (Fa ha hb I h fun v u s2 x y H2 I2 rx ry q=>ho pins s2 σ H2 x y v u Q I2 rx ry q)
theorem CM {op:UnaryOp} {r:V->Hp->VK->Prop} (ho:UnR X (unaryOp op) r) (ha:PE X a ta):PE X (.UnaryOp op a pos) (tUn r ta):=by
 intro pins s σ H Q I h
 exact UnaryOp_ (thn (ha pins s σ H _ I h) fun v s1 ⟨x,H1,I1,r1,q1⟩=>ho pins s1 σ H1 x v Q I1 r1 q1)
theorem opI {f:Value->Value->Sem Value} {C:Int->Int->Prop} {g:Int->Int->Int}
 (rule:∀ (i j:Int) (t u:Tok) (s:Shared) (Q:Value->Shared->Prop) (E:Value->Shared->Prop),C i j->Q (.int (g i j) s.toks) { s with toks:=s.toks+1 } -> wpAny (model X.prog X.w) X.A (f (.int i t) (.int j u)) Q E s) :
 OpR X f (rI C fun i j=>.int (g i j)):=by
 intro pins s σ H x y v u Q I rx ry h
 obtain ⟨i,j,rfl,rfl,hc,q⟩:=h
 obtain ⟨t,rfl⟩:=rx
 obtain ⟨t',rfl⟩:=ry
 exact rule i j t t' s _ _ hc ⟨.int (g i j),H,I.tok _,⟨_,rfl⟩,q⟩
theorem GL {f:Value->Value->Sem Value} {g:Int->Int->Int}
 (rule:∀ (i j:Int) (t u:Tok) (s:Shared) (Q:Value->Shared->Prop) (E:Value->Shared->Prop),Q (.int (g i j) s.toks) { s with toks:=s.toks+1 } -> wpAny (model X.prog X.w) X.A (f (.int i t) (.int j u)) Q E s) :
 OpR X f (rI0 fun i j=>.int (g i j)):=by
 intro pins s σ H x y v u Q I rx ry h
 obtain ⟨i,j,rfl,rfl,q⟩:=h
 obtain ⟨t,rfl⟩:=rx
 obtain ⟨t',rfl⟩:=ry
 exact rule i j t t' s _ _ ⟨.int (g i j),H,I.tok _,⟨_,rfl⟩,q⟩
theorem IY {f:Value->Value->Sem Value} {g:Int->Int->Bool}
 (rule:∀ (i j:Int) (t u:Tok) (s:Shared) (Q:Value->Shared->Prop) (E:Value->Shared->Prop),Q (.bool (g i j)) s->wpAny (model X.prog X.w) X.A (f (.int i t) (.int j u)) Q E s) :
 OpR X f (rI0 fun i j=>.bl (g i j)):=by
 intro pins s σ H x y v u Q I rx ry h
 obtain ⟨i,j,rfl,rfl,q⟩:=h
 obtain ⟨t,rfl⟩:=rx
 obtain ⟨t',rfl⟩:=ry
 exact rule i j t t' s _ _ ⟨.bl (g i j),H,I,rfl,q⟩
noncomputable def Hx (i j:Int):Prop:=0<=j/\j<=1000000/\i.natAbs < 2 ^ 64
noncomputable def CMul (i j:Int):Prop:=(-(2 ^ 64) < i/\i < 2 ^ 64)\/(-(2 ^ 64) < j/\j < 2 ^ 64)
theorem CMul.ok {i j:Int} (h:CMul i j):IntMulOk i j:=by
 rcases h with ⟨h1,h2⟩ | ⟨h1,h2⟩
 ·exact .of_left (intBits_le_64 h1 h2)
 ·exact .of_right (intBits_le_64 h1 h2)
theorem Np:OpR X (binaryOp .Add) (rI0 fun i j=>.int (i+j)):=GL fun _ _ _ _ _ _ _ q=>add_int q
theorem L7:OpR X (binaryOp .Sub) (rI0 fun i j=>.int (i - j)):=GL fun _ _ _ _ _ _ _ q=>sub_int q
theorem Nc:OpR X (binaryOp .Mod) (rI (fun _ j=>0 < j) fun i j=>.int (i % j)):=opI fun i j _ _ _ _ _ hc q=>by
 have h1:(0:Int) < j:=hc
 exact mod_int' (by lia) (by rw [Int.fmod_eq_emod_of_nonneg i (by lia)];exact q)
theorem OE:OpR X (binaryOp .Pow) (rI Hx fun i j=>.int (i ^ j.toNat)):=opI fun _ _ _ _ _ _ _ hc q=>pow_int_small hc.1 hc.2.1 hc.2.2 q
theorem Ob:OpR X (binaryOp .BitAnd) (rI0 fun i j=>.int (Builtin.bitAnd i j)):=GL fun _ _ _ _ _ _ _ q=>and_int q
theorem unI {f:Value->Sem Value} {g:Int->Int}
 (rule:∀ (i:Int) (t:Tok) (s:Shared) (Q:Value->Shared->Prop) (E:Value->Shared->Prop),Q (.int (g i) s.toks) { s with toks:=s.toks+1 } -> wpAny (model X.prog X.w) X.A (f (.int i t)) Q E s) :
 UnR X f (rU fun i=>.int (g i)):=by
 intro pins s σ H x v Q I rx h
 obtain ⟨i,rfl,q⟩:=h
 obtain ⟨t,rfl⟩:=rx
 exact rule i t s _ _ ⟨.int (g i),H,I.tok _,⟨_,rfl⟩,q⟩
theorem OC:UnR X (unaryOp .USub) (rU fun i=>.int (-i)):=unI fun _ _ _ _ _ q=>neg_int q
end
section
variable {X:Cx} {a b c:Expr} {ta tb tc:TE} {pos:Pos}
theorem LB {pins:List (Addr × Obj)} {σ:St} {H:Hp} {s:Shared} {Q:VK} {k k':Bool} (I:Inv X pins σ H s) (q:Q (.bl k) H) (e:k=k'):EP X pins σ Q (.bool k') s:=by
 subst e
 exact ⟨.bl k,H,I,rfl,q⟩
theorem Nx:OpR X (compareOp .Lt) (rI0 fun i j=>.bl (decide (i < j))):=IY fun _ _ _ _ _ _ _ q=>lt_int q
theorem Ov:OpR X (compareOp .Gt) (rI0 fun i j=>.bl (decide (j < i))):=IY fun _ _ _ _ _ _ _ q=>gt_int q
theorem Oj:OpR X (compareOp .Is) (fun x y H Q=>y=.non/\Q (.bl (decide (x=.non))) H):=by
 intro pins s σ H x y v u Q I rx ry h
 obtain ⟨rfl,q⟩:=h
 cases ry
 refine is_none_gen (LB I q ?_)
 cases x <;> first
  | (cases rx;rfl)
  | (obtain ⟨t,rfl⟩:=rx;rfl)
theorem Jq {op:CmpOp} {r:R2} (ho:OpR X (compareOp op) r) (ha:PE X a ta) (hb:PE X b tb) (hm:behindInMarks op b=false):PE X (.Compare a [op] [b] pos) (tOp r ta tb):=by
 intro pins s σ H Q I h
 exact wpAny_Compare1 (Fa ha hb I h fun v u s2 x y H2 I2 rx ry q=>ho pins s2 σ H2 x y v u Q I2 rx ry q) hm
theorem Cm:(sizeLine:Nat) < 2 ^ 63:=by rw [sizeLine_eq];decide
theorem MM:OpR X (binaryOp .Add) (fun x y H Q=>∃ i j,x=.str i/\y=.str j/\i.length+j.length<=sizeLine/\Q (.str (i++j)) H):=by
 intro pins s σ H x y v u Q I rx ry h
 obtain ⟨i,j,rfl,rfl,hz,q⟩:=h
 obtain ⟨t,rfl⟩:=rx
 obtain ⟨t',rfl⟩:=ry
 exact add_str (fun t' tk=>⟨.str (i++j),H,I.tok _,⟨_,rfl⟩,q⟩) hz
theorem Bt {x:V} {us:List Value} (r:Vals [x] us):∃ u,us=[u]/\RelV x u:=by
 cases r with
 | cons r1 r2=>cases r2;exact ⟨_,rfl,r1⟩
theorem Ba {x y:V} {us:List Value} (r:Vals [x,y] us):∃ u w',us=[u,w']/\RelV x u/\RelV y w':=by
 cases r with
 | cons r1 r2 =>
  cases r2 with
  | cons r3 r4=>cases r4;exact ⟨_,_,rfl,r1,r3⟩
theorem call_abs:CallR X (.builtin "abs") (fun xs H Q=>∃ i,xs=[.int i]/\Q (.int (if i < 0 then -i else i)) H):=by
 intro pins s σ H xs us Q I r h
 obtain ⟨i,rfl,q⟩:=h
 obtain ⟨u,rfl,t,rfl⟩:=Bt r
 exact call_abs_int fun u tk=>⟨.int (if i < 0 then -i else i),H,I.tok _,⟨_,rfl⟩,q⟩
theorem K0 (hc:X.calm=true):CallR X (.builtin "max") (fun xs H Q=>∃ i j,xs=[.int i,.int j]/\Q (.int (if j > i then j else i)) H):=by
 intro pins s σ H xs us Q I r h
 obtain ⟨i,j,rfl,q⟩:=h
 obtain ⟨u,w',rfl,⟨t,rfl⟩,⟨t',rfl⟩⟩:=Ba r
 refine max_two_ints (I.ok.hd hc) fun h' tk k=>⟨_,H,I.kept k,?_,q⟩
 by_cases hj:j > i
 ·rw [if_pos hj,if_pos hj];exact ⟨_,rfl⟩
 ·rw [if_neg hj,if_neg hj];exact ⟨_,rfl⟩
theorem OJ (hc:X.calm=true):CallR X (.builtin "min") (fun xs H Q=>∃ i j,xs=[.int i,.int j]/\Q (.int (if j < i then j else i)) H):=by
 intro pins s σ H xs us Q I r h
 obtain ⟨i,j,rfl,q⟩:=h
 obtain ⟨u,w',rfl,⟨t,rfl⟩,⟨t',rfl⟩⟩:=Ba r
 refine min_two_ints (I.ok.hd hc) fun h' tk k=>⟨_,H,I.kept k,?_,q⟩
 by_cases hj:j < i
 ·rw [if_pos hj,if_pos hj];exact ⟨_,rfl⟩
 ·rw [if_neg hj,if_neg hj];exact ⟨_,rfl⟩
theorem call_int1:CallR X (.type "int") (fun xs H Q=>(∃ i,xs=[.int i]/\Q (.int i) H)\/∃ k,xs=[.bl k]/\Q (.int (if k then 1 else 0)) H):=by
 intro pins s σ H xs us Q I r h
 rcases h with ⟨i,rfl,q⟩ | ⟨k,rfl,q⟩
 ·obtain ⟨u,rfl,t,rfl⟩:=Bt r
  exact call_int_int ⟨.int i,H,I,⟨_,rfl⟩,q⟩
 ·obtain ⟨u,rfl,r1⟩:=Bt r
  cases r1
  exact call_int_bool ⟨.int (if k then 1 else 0),H,I.tok _,⟨_,rfl⟩,q⟩
noncomputable def JR (K:W.Frag) (x:V) (H:Hp) (n:Nat):Prop :=
 match x with
 | .str y=>y.length<=sizeLine/\n=y.length
 | .byt y=>y.size<=sizeLine/\n=y.size
 | .ref p=>(∃ xs,SqL K H p xs/\n=xs.length)\/∃ xs,SqT K H p xs/\n=xs.length
 | _=>False
theorem call_len:CallR X (.builtin "len") (fun xs H Q=>∃ x n,xs=[x]/\JR X.K x H n/\Q (.int n) H):=by
 intro pins s σ H xs us Q I r h
 obtain ⟨x,n,rfl,e,q⟩:=h
 obtain ⟨u,rfl,rx⟩:=Bt r
 have hl:=Cm
 have hs:sizeLine=16777216:=sizeLine_eq
 cases x with
 | str y =>
  obtain ⟨t,rfl⟩:=rx
  obtain ⟨hy,e'⟩:y.length<=sizeLine/\n=y.length:=e
  subst e'
  exact len_str (by lia) ⟨.int _,H,I.tok _,⟨_,rfl⟩,q⟩
 | byt y =>
  obtain ⟨t,rfl⟩:=rx
  obtain ⟨hy,e'⟩:y.size<=sizeLine/\n=y.size:=e
  subst e'
  exact PySem.W.len_bytes (by lia) ⟨.int _,H,I.tok _,⟨_,rfl⟩,q⟩
 | ref p =>
  cases rx
  have e':(∃ xs,SqL X.K H p xs/\n=xs.length)\/∃ xs,SqT X.K H p xs/\n=xs.length:=e
  rcases e' with ⟨xs,hx,e'⟩ | ⟨xs,hx,e'⟩
  ·subst e'
   obtain ⟨its,r',pl,hz⟩:=I.list hx
   have hlen:=r'.length
   exact Calls.call_len_list pl.isList (by simp only [List.size_toArray];lia) ⟨.int xs.length,H,I.tok _,⟨_,by simp only [List.size_toArray];rw [hlen]⟩,q⟩
  ·subst e'
   obtain ⟨its,r',pl,hz⟩:=I.tuple hx
   have hlen:=r'.length
   exact len_tuple pl (by simp only [List.size_toArray];lia) ⟨.int xs.length,H,I.tok _,⟨_,by simp only [List.size_toArray];rw [hlen]⟩,q⟩
 | _=>exact (show False from e).elim
end
structure ObjM (h:Heap) (x dx C:Addr) (mA:Str->Option Value):Prop where
 obj:h.get? x=some (PySem.W.instObj C dx)
 ns:h.Ns1 dx mA
 ne:dx≠x
theorem Ko {h:Heap} {dx:Addr} {mA:Str->Option Value} (n:h.Ns1 dx mA):∃ od,h.get? dx=some od/\∀ name,PySem.W.lookIn name od=some (mA name):=by
 obtain ⟨o,es,ep,ho,hd,hk,_,hm⟩:=n
 refine ⟨o,ho,fun name=>?_⟩
 have e:=hm name
 unfold nsFind findBy at e
 rw [<- Array.find?_toList] at e
 unfold PySem.W.lookIn
 rw [hd]
 dsimp only
 split
 ·rename_i y q
  rw [q] at e
  exact congrArg some e
 ·rename_i q
  rw [q] at e
  have a:es.toList.any (·.refKey)=false:=by
   rw [List.any_eq_false]
   intro y hy
   obtain ⟨z,t,hkey⟩:=hk y (Array.mem_toList_iff.mp hy)
   simp [DictEntry.refKey,hkey]
  have a':¬ es.toList.any (·.refKey)=true:=by rw [a];exact Bool.false_ne_true
  rw [if_neg a']
  exact congrArg some e
theorem ObjM.look {h:Heap} {x dx C:Addr} {mA:Str->Option Value} (I:ObjM h x dx C mA):∃ od,PySem.W.InstAt h x (PySem.W.instObj C dx) C (some od)/\∀ name,PySem.W.lookIn name od=some (mA name) :=
 let ⟨od,ho,hl⟩:=Ko I.ns
 ⟨od,⟨I.obj,rfl,rfl,ho⟩,hl⟩
section
variable {prog:Program} {w:World} {A:Around} {E:Value->Shared->Prop} {s:Shared} {K:W.Frag} {x dx C f:Addr} {mA:Str->Option Value} {name:Str} {v:Value}
end
theorem RelO.some_of {v:V} {o:Option Value} (r:RelO (some v) o):∃ u,o=some u/\RelV v u:=by
 cases o with
 | none=>exact (show False from r).elim
 | some u=>exact ⟨u,rfl,r⟩
theorem RelO.none_of {o:Option Value} (r:RelO none o):o=none:=by
 cases o with
 | none=>rfl
 | some u=>exact (show False from r).elim
section
variable {P:Program} {w:World} {H H':Hp} {h h':Heap} {a C dx:Addr} {fs fs':List (Str × V)}
theorem MH (hok:HOk P w H h) (e:H a=some (.ins C dx fs)):∃ mA,ObjM h a dx C mA/\(∀ f,RelO (fs.lookup f) (mA f))/\PySem.Within mA (fs.map (·.1))/\fs.length<=1000/\H dx=some (.own a):=by
 obtain ⟨d,z,ne,ob,mA,n,r,q⟩:=(show ObjOk P w H h a (.ins C dx fs) from hok a _ e)
 exact ⟨mA,⟨ob,n,ne⟩,r,q,z,d⟩
end
structure Cls (K:W.Frag) (C:Addr):Prop where
 pg:PySem.W.plainGet K C Str.empty=true
 hd:PySem.W.hasDictIn K C=true
 po:PySem.W.plainOver K C=true
 sa:PySem.W.findIn K (.ref C) "__setattr__" = some (some (.builtin "object.__setattr__"))
theorem Cls.get {K:W.Frag} {C:Addr} (c:Cls K C) (f:Str):PySem.W.plainGet K C f=true:=c.pg
structure Con (K:W.Frag) (C:Addr) (f:Str) (v:V) (u:Value):Prop where
 at_:PySem.W.findIn K (.ref C) f=some (some u)
 rel:RelV v u
 get:PySem.W.specialIn K u "__get__" = some none
 cp:PySem.W.copiedNames.contains f=false
structure Meth (K:W.Frag) (C:Addr) (m:Str) (f:Addr):Prop where
 at_:PySem.W.findIn K (.ref C) m=some (some (.ref f))
 fn:PySem.W.isFn K (.ref f)=true
 kp:PySem.W.keepIn K (.ref f)=true
section
variable {X:Cx} {pins:List (Addr × Obj)} {σ:St} {H:Hp} {s:Shared} {a C dx:Addr} {fs:List (Str × V)} {f:Str} {v:V} {A:Around} {E:Value->Shared->Prop}
end
section
variable {X:Cx} {o e value:Expr} {f:Str} {pos pos' tpos:Pos} {ta tv:TE}
end
section
variable {X:Cx} {pins:List (Addr × Obj)} {σ:St} {H:Hp} {s:Shared} {A:Around} {E:Value->Shared->Prop} {Q:Value->Shared->Prop} {c:Value} {b:Bool}
inductive TyOf (K:W.Frag) (H:Hp):V->Value->Prop where
 | non:TyOf K H .non (.type "NoneType")
 | bl (x:Bool):TyOf K H (.bl x) (.type "bool")
 | int (i:Int):TyOf K H (.int i) (.type "int")
 | str (x:Str):TyOf K H (.str x) (.type "str")
 | flt (x:UInt64):TyOf K H (.flt x) (.type "float")
 | lst {a:Addr} {xs:List V} (e:H a=some (.lst xs)):TyOf K H (.ref a) (.type "list")
 | frz {a:Addr} {o:Obj} {xs:List V} (e:H a=some (.frz o (.lst xs))):TyOf K H (.ref a) (.type "list")
 | tup {a:Addr} {xs:List V} (e:H a=some (.tup xs)):TyOf K H (.ref a) (.type "tuple")
 | dK {a:Addr} {kvs:List (Key × V)} (e:H a=some (.dK kvs)):TyOf K H (.ref a) (.type "dict")
 | dT {a:Addr} {kvs:List (List Key × V)} (e:H a=some (.dT kvs)):TyOf K H (.ref a) (.type "dict")
 | ins {a C dx:Addr} {fs:List (Str × V)} (e:H a=some (.ins C dx fs)) (cl:Cls K C) (ha:PySem.W.findIn K (.ref C) "__class__" = some (some (.builtin "object.__class__")))
  (hn:PySem.W.specialIn K (.builtin "object.__class__") "__get__" = some (some (.builtin "getset_descriptor.__get__"))) (htk:PySem.W.takesIn K (.builtin "object.__class__")=some true)
  (hm:PySem.W.mroIn K C (.type "object")=some true):TyOf K H (.ref a) (.ref C)
theorem PK {x:V} {u t:Value} (I:Inv X pins σ H s) (rx:RelV x u) (ty:TyOf X.K H x t) (e:PySem.W.kitOne X.K t c=some b) (h:∀ tk,Q (.bool b) { s with toks:=tk }) :
 wpAny (model X.prog X.w) A (call (.builtin "isinstance") [u,c]) Q E s:=by
 cases ty with
 | non=>cases (show u=Value.none from rx);exact PySem.W.kia_one PySem.W.kitx_none I.kIn True.intro e (fun z=>nomatch z) h
 | bl y=>cases (show u=Value.bool y from rx);exact PySem.W.kia_one PySem.W.kitx_bool I.kIn True.intro e (fun z=>nomatch z) h
 | int i=>obtain ⟨t,q⟩:=(show ∃ t,u=Value.int i t from rx);cases q;exact PySem.W.kia_one PySem.W.kitx_int I.kIn True.intro e (fun z=>nomatch z) h
 | str y=>obtain ⟨t,q⟩:=(show ∃ t,u=Value.str y t from rx);cases q;exact PySem.W.kia_one PySem.W.kitx_str I.kIn True.intro e (fun z=>nomatch z) h
 | flt y=>obtain ⟨t,q⟩:=(show ∃ t,u=Value.float y t from rx);cases q;exact PySem.W.kia_one PySem.W.kitx_float I.kIn True.intro e (fun z=>nomatch z) h
 | @lst a xs ea =>
  cases (show u=Value.ref a from rx)
  obtain ⟨_,_,n,_,h1⟩:=(show ObjOk X.prog X.w H s.heap a (.lst xs) from I.hok a _ ea)
  exact PySem.W.kia_one PySem.W.kitx_list I.kIn ⟨_,h1,rfl⟩ e (fun z=>nomatch z) h
 | @frz a ob xs ea =>
  cases (show u=Value.ref a from rx)
  obtain ⟨_,_,_,n,_,h1⟩:=(show ObjOk X.prog X.w H s.heap a (.frz ob (.lst xs)) from I.hok a _ ea)
  exact PySem.W.kia_one PySem.W.kitx_list I.kIn ⟨_,h1,rfl⟩ e (fun z=>nomatch z) h
 | @tup a xs ea =>
  cases (show u=Value.ref a from rx)
  obtain ⟨_,_,_,p⟩:=(show ObjOk X.prog X.w H s.heap a (.tup xs) from I.hok a _ ea)
  obtain ⟨o,h1,h2,_⟩:=p
  exact PySem.W.kia_one PySem.W.kitx_tuple I.kIn ⟨o,h1,h2⟩ e (fun z=>nomatch z) h
 | @dK a kvs ea =>
  cases (show u=Value.ref a from rx)
  obtain ⟨_,_,vs,_,p⟩:=(show ObjOk X.prog X.w H s.heap a (.dK kvs) from I.hok a _ ea)
  obtain ⟨o,es,ep,h1,h2,_⟩:=p
  exact PySem.W.kia_one PySem.W.kitx_dict I.kIn ⟨o,h1,h2.1⟩ e (fun z=>nomatch z) h
 | @dT a kvs ea =>
  cases (show u=Value.ref a from rx)
  obtain ⟨_,_,xs,_,o,es,ep,h1,h2,_⟩:=(show ObjOk X.prog X.w H s.heap a (.dT kvs) from I.hok a _ ea)
  exact PySem.W.kia_one PySem.W.kitx_dict I.kIn ⟨o,h1,h2.1⟩ e (fun z=>nomatch z) h
 | @ins a C dx fs ea cl ha hn htk hm =>
  cases (show u=Value.ref a from rx)
  obtain ⟨mA,O,_⟩:=MH I.hok ea
  obtain ⟨od,J,_⟩:=O.look
  exact PySem.W.kia_one (PySem.W.kitx_own (cl.get _) cl.hd ha hn htk hm) I.kIn J e (fun z=>nomatch z) h
end
structure Room (k:Nat) (A:Around):Prop where
 hd:A.handled=none
 dp:A.depth+3 * k+5 < recursionLimit
 un:A.units+16 * k+200 < cLine
 gd:A.guards=some []
theorem Room.mono {j k:Nat} {A:Around} (r:Room k A) (h:j<=k):Room j A:=⟨r.hd,by have:=r.dp;lia,by have:=r.un;lia,r.gd⟩
theorem Room.deeper {k:Nat} {A:Around} (r:Room (k+1) A) (env:Env):Room k (A.deeper env) :=
 ⟨r.hd,by have:=r.dp;show A.depth+1+3 * k+5 < _;lia,by have:=r.un;show A.units+3+16 * k+200 < _;lia,r.gd⟩
theorem Room.depth {k:Nat} {A:Around} (r:Room k A):A.depth < recursionLimit:=by have:=r.dp;lia
noncomputable def GO:TA:=fun _ H Q=>Q [] H
noncomputable def FX (ta:TE) (tr:TA):TA:=fun σ H Q=>ta σ H fun x H1=>tr σ H1 fun xs H2=>Q (x::xs) H2
section
variable {X:Cx} {e:Expr} {es:List Expr} {te:TE} {t:TA} {pos:Pos}
theorem AB:PA X [] GO:=fun _ _ _ _ H Q I h=>Calls.spliced_nil ⟨[],H,I,.nil,h⟩
theorem AA (ha:PE X e te) (hr:PA X es t) (hs:starEach (e::es) X.env=(false,eval e X.env)::starEach es X.env:=by rfl):PA X (e::es) (FX te t):=by
 intro pos pins s σ H Q I h
 rw [hs]
 show wpAny _ _ (spliced ((false,eval e X.env)::backTo pos (starEach es X.env))) _ _ s
 refine Calls.spliced_cons (thn (ha pins s σ H _ I h) fun u s1 ⟨x,H1,I1,r1,q1⟩=>?_)
 exact thn (hr pos pins s1 σ H1 _ I1 q1) fun us s2 ⟨xs,H2,I2,r2,q2⟩=>⟨x::xs,H2,I2,.cons r1 r2,q2⟩
noncomputable def HB (t:TA):TE:=fun σ H Q=>t σ H fun xs H1=>xs.length<=sizeLine/\∀ p,H1 p=none->Q (.ref p) (upd H1 p (.tup xs))
noncomputable def G1 (t:TA):TE:=fun σ H Q=>t σ H fun xs H1=>xs.length<=sizeLine/\∀ p,H1 p=none->Q (.ref p) (upd H1 p (.lst xs))
theorem BN {x1} (h:PA X es t):PE X (.Tuple es x1 pos) (HB t):=by
 intro pins s σ H Q I hq
 refine wpAny_Tuple_spliced (thn (h pos pins s σ H _ I hq) fun us s1 ⟨xs,H1,I1,r,z,q⟩=>⟨by rw [<- r.length];exact z,?_⟩)
 have hf:H1 s1.heap.objs.size=none:=I1.hok.fresh (Nat.le_refl _)
 refine ⟨.ref s1.heap.objs.size,upd H1 s1.heap.objs.size (.tup xs),I1.laid (t':=s1.toks) (fun b u e=>Heap.get?_push_of_some _ e) (Nat.le_refl _) ?_,rfl,q _ hf⟩
 exact ⟨z,us,r,⟨_,Heap.get?_push_size _ rfl,rfl,⟨_,rfl⟩,rfl⟩⟩
theorem A4 (h:PA X es t):PE X (.List es pos) (G1 t):=by
 intro pins s σ H Q I hq
 refine wpAny_List_spliced (thn (h pos pins s σ H _ I hq) fun us s1 ⟨xs,H1,I1,r,z,q⟩=>⟨by rw [<- r.length];exact z,?_⟩)
 have hf:H1 s1.heap.objs.size=none:=I1.hok.fresh (Nat.le_refl _)
 refine ⟨.ref s1.heap.objs.size,upd H1 s1.heap.objs.size (.lst xs),I1.laid (t':=s1.toks) (fun b u e=>Heap.get?_push_of_some _ e) (Nat.le_refl _) ?_,rfl,q _ hf⟩
 exact ⟨z,us,0,r,Heap.get?_push_size _ rfl⟩
end
noncomputable abbrev Sp:=List V->Hp->VK->XK->Prop
noncomputable abbrev CXT:=List Env->Hp->Shared->XK->Value->Shared->Prop
structure Env0 (P:Program) (w:World) (K:W.Frag) (mg:Str->Option Value) (base:Heap) (A:Around) (outer:List Env) (s:Shared) (H:Hp):Prop where
 frames:A.frames=some outer
 mod:Mod K mg base
 bs:∀ b o,base.get? b=some o->s.heap.get? b=some o/\H b=none
 bsz:base.objs.size<=s.heap.objs.size
 funs:s.heap.FunFrames base outer
 frf:∀ b∈frs outer,H b=none
 hok:HOk P w H s.heap
 bare:AllBare s.gens
noncomputable def CE (outer:List Env) (P:Program) (w:World) (H:Hp) (s:Shared) (Q:VK) (u:Value) (s':Shared):Prop :=
 ∃ v H',s'.os=s.os/\AllBare s'.gens/\Un (frs outer) [] H H' s.heap s'.heap/\HOk P w H' s'.heap/\RelV v u/\Q v H'
noncomputable def CR (CX:CXT) (outer:List Env) (P:Program) (w:World) (H:Hp) (s:Shared) (Q:VK) (E:XK) (r:Result) (s':Shared):Prop :=
 match r with
 | .ok (.ret u)=>CE outer P w H s Q u s'
 | .ok _=>False
 | .error e=>CX outer H s E e s'
structure FnOk (P:Program) (w:World) (K:W.Frag) (mg:Str->Option Value) (base:Heap) (CX:CXT) (k:Nat) (f:Addr) (fd:FuncData) (ps:List Str) (sp:Sp):Prop where
 len:∀ vs H Q E,sp vs H Q E->vs.length=ps.length
 run:∀ (A:Around) (outer:List Env) (s:Shared) (H:Hp) (args:Args) (us:List Value) (vs:List V) (Q:VK) (E:XK),Room k A->Env0 P w K mg base A outer s H->BindsTo s fd args (ps.zip us)->Vals vs us->sp vs H Q E ->
  codeAny (model P w) A (.call (.ref f) args) (CR CX outer P w H s Q E) s
theorem FnOk.mono {P:Program} {w:World} {K:W.Frag} {mg:Str->Option Value} {base:Heap} {CX:CXT} {j k:Nat} {f:Addr} {fd:FuncData} {ps:List Str} {sp:Sp} (F:FnOk P w K mg base CX j f fd ps sp) (h:j<=k) :
 FnOk P w K mg base CX k f fd ps sp:=⟨F.len,fun A outer s H args us vs Q E hr=>F.run A outer s H args us vs Q E (hr.mono h)⟩
section
variable {X:Cx} {pins:List (Addr × Obj)} {σ:St} {H:Hp} {s s':Shared}
theorem Inv.env0 (I:Inv X pins σ H s):Env0 X.prog X.w X.K X.mg X.base X.A X.stack s H :=
 ⟨I.ok.frames,I.ok.mod,I.bs,Nat.le_trans I.ok.bsz I.sz,I.stack,I.stkFree,I.hok,I.bare⟩
theorem Inv.after {Q:VK} {u:Value} (I:Inv X pins σ H s) (h:CE X.stack X.prog X.w H s Q u s'):EP X pins σ Q u s':=by
 obtain ⟨v,H',os,bare,un,hok,r,q⟩:=h
 obtain ⟨hh,g,d,t,os'⟩:=s'
 obtain rfl:os'=s.os:=os
 exact ⟨v,H',I.call (h':=hh) (g':=g) (d':=d) (t':=t) (ch:=[]) un hok bare (fun b z=>absurd z (by simp)),r,q⟩
end
noncomputable def HP (sp:Sp) (dvs:List V) (E:XK) (t:TA):TE:=fun σ H Q=>t σ H fun vs H1=>sp (vs++dvs) H1 Q E
noncomputable def Binds (K:W.Frag) (fd:FuncData) (ps:List Str) (ds:List Value):Prop :=
 ∀ (s:Shared) (us:List Value),K.In s.heap->(us++ds).length=ps.length->BindsTo s fd ⟨us,[]⟩ (ps.zip (us++ds))
theorem Binds.all {K:W.Frag} {fd:FuncData} {ps:List Str} (h:∀ us:List Value,us.length=ps.length->bindArgs fd ⟨us,[]⟩=pure (ps.zip us)):Binds K fd ps []:=fun s us _ hl=>by
 rw [List.append_nil] at hl ⊢
 exact .of_eq (h us hl)
noncomputable def E1 (CX:CXT) (X:Cx) (E:XK):Prop:=∀ (pins:List (Addr × Obj)) (σ:St) (H:Hp) (s:Shared) (e:Value) (s':Shared),Inv X pins σ H s->CX X.stack H s E e s'->X.xe e s'
section
variable {X:Cx} {CX:CXT} {k:Nat} {f C:Addr} {fd:FuncData} {ps:List Str} {sp:Sp} {dvs:List V} {ds:List Value} {E:XK} {x m:Str} {p pos apos:Pos} {e o:Expr} {es:List Expr} {ta:TE} {t:TA}
theorem ND {pins:List (Addr × Obj)} {σ:St} {H:Hp} {s:Shared} {Q:VK} {us:List Value} {vs:List V} (F:FnOk X.prog X.w X.K X.mg X.base CX k f fd ps sp) (hr:Room k X.A) (hb:Binds X.K fd ps ds) (hd:Vals dvs ds) (hx:E1 CX X E)
 (I:Inv X pins σ H s) (r:Vals vs us) (h:sp (vs++dvs) H Q E):wpAny (model X.prog X.w) X.A (call (.ref f) us) (EP X pins σ Q) X.xe s:=by
 have r2:Vals (vs++dvs) (us++ds):=r.append hd
 have hl:(us++ds).length=ps.length:=by rw [<- r2.length];exact F.len _ _ _ _ h
 refine wpAny_call (codeAny_mono (F.run X.A X.stack s H ⟨us,[]⟩ (us++ds) (vs++dvs) Q E hr I.env0 (hb s us I.kIn hl) r2 h) fun r s' hq=>?_)
 cases r with
 | error e=>exact hx pins σ H s e s' I hq
 | ok fl =>
  cases fl with
  | ret u=>exact I.after hq
  | next=>exact False.elim hq
  | brk=>exact False.elim hq
  | cont=>exact False.elim hq
theorem AI (F:FnOk X.prog X.w X.K X.mg X.base CX k f fd ps sp) (hr:Room k X.A) (hg:Gl X x) (hm:X.mg x=some (.ref f)) (hk:PySem.W.keepIn X.K (.ref f)=true) (hb:Binds X.K fd ps ds) (hd:Vals dvs ds) (hx:E1 CX X E)
 (ha:PA X (e::es) t) (hdb:(x == ("__debug__" : Str))=false:=by decide) (he:starEach (e::es) X.env=(false,eval e X.env)::starEach es X.env:=by rfl) (hpl:(backTo pos (starEach es X.env)).any (·.1)=false:=by rfl) :
 PE X (.Call (.Name x p) (e::es) [] pos) (HP sp dvs E t):=by
 intro pins s σ H Q I h
 refine wpAny_Call_Name_kw (Dm I hg hm ?_ hdb)
 refine PySem.W.callWith_K (h₀:=X.base) I.ok.mod.kin hk (thn (ha pos pins s σ H _ I h) fun us s1 ⟨vs,H1,I1,r,q⟩=>⟨I1.kIn,?_⟩) he hpl
 exact ND F hr hb hd hx I1 r q
structure Mk (K:W.Frag) (C f:Addr):Prop where
 makes:PySem.W.makesIn K C=true
 init:PySem.W.findIn K (.ref C) "__init__" = some (some (.ref f))
 fn:PySem.W.isFn K (.ref f)=true
 kp:PySem.W.keepIn K (.ref C)=true
end
section
variable {X:Cx} {CX:CXT} {k:Nat} {f C:Addr} {fd:FuncData} {ps ks:List Str} {sp:Sp} {E:XK} {x m:Str} {p pos apos kpos:Pos} {e o:Expr} {es:List Expr} {kws:List Keyword} {te ta:TE} {t tk:TA} {nm:Option Str}
structure KBinds (K:W.Frag) (fd:FuncData) (ps ks:List Str) (g:List Value->List Value->List Value) (gV:List V->List V->List V):Prop where
 to:∀ (s:Shared) (us ws:List Value),K.In s.heap->(g us ws).length=ps.length->BindsTo s fd ⟨us,ks.zip ws⟩ (ps.zip (g us ws))
 rel:∀ {vs:List V} {us:List Value} {zs:List V} {ws:List Value},Vals vs us->Vals zs ws->Vals (gV vs zs) (g us ws)
variable {g:List Value->List Value->List Value} {gV:List V->List V->List V}
end
structure FnScope (N P:List Str) (sc:Scope):Prop where
 kind:sc.kind=.function
 co:sc.isCoroutine=false
 gen:sc.isGenerator=false
 nd:N.Nodup
 pre:N.take P.length=P
 par:∀ x∈P,sc.names.lookup x=some .local\/sc.names.lookup x=some .cell
 nofree:∀ y∈sc.names,y.2≠.free
theorem HK {kindOf:Str->Option NameKind} {x:Str}:∀ {binds:List (Str × Value)} {m:Str->Option Value},(∀ v,(x,v)∉binds)->bindL kindOf binds m x=m x
 | [],_,_=>rfl
 | (n,v)::r,m,h=>by
  unfold bindL
  rw [HK fun w hw=>h w (List.mem_cons_of_mem _ hw)]
  split
  ·have:x≠n:=by rintro rfl;exact h v List.mem_cons_self
   simp [this]
  ·rfl
theorem HX {kindOf:Str->Option NameKind} {x:Str}:∀ {binds:List (Str × Value)} {m:Str->Option Value},(∀ v,(x,v)∉binds)->bindC kindOf binds m x=m x
 | [],_,_=>rfl
 | (n,v)::r,m,h=>by
  unfold bindC
  rw [HX fun w hw=>h w (List.mem_cons_of_mem _ hw)]
  split
  ·rfl
  ·have:x≠n:=by rintro rfl;exact h v List.mem_cons_self
   simp [this]
theorem Gk {kindOf:Str->Option NameKind} {x:Str} {v:Value}:∀ {P:List Str} {vs:List Value} {i:Nat} {m:Str->Option Value},P.Nodup->P[i]? = some x->vs[i]? = some v->kindOf x=some .local ->
 bindL kindOf (P.zip vs) m x=some v
 | [],_,_,_,_,h,_,_=>by simp at h
 | _::_,[],_,_,_,_,h,_=>by simp at h
 | p::P,w::vs,0,m,nd,h1,h2,hk=>by
  simp at h1 h2;subst h1;subst h2
  show bindL kindOf ((p,w)::P.zip vs) m p=_
  unfold bindL
  rw [HK fun v hv=>(List.nodup_cons.mp nd).1 (List.of_mem_zip hv).1,if_pos hk]
  simp
 | p::P,w::vs,i+1,m,nd,h1,h2,hk=>by
  show bindL kindOf ((p,w)::P.zip vs) m x=_
  unfold bindL
  exact Gk (i:=i) (List.nodup_cons.mp nd).2 (by simpa using h1) (by simpa using h2) hk
theorem Gu {kindOf:Str->Option NameKind} {x:Str} {v:Value}:∀ {P:List Str} {vs:List Value} {i:Nat} {m:Str->Option Value},P.Nodup->P[i]? = some x->vs[i]? = some v->kindOf x≠some .local ->
 bindC kindOf (P.zip vs) m x=some v
 | [],_,_,_,_,h,_,_=>by simp at h
 | _::_,[],_,_,_,_,h,_=>by simp at h
 | p::P,w::vs,0,m,nd,h1,h2,hk=>by
  simp at h1 h2;subst h1;subst h2
  show bindC kindOf ((p,w)::P.zip vs) m p=_
  unfold bindC
  rw [HX fun v hv=>(List.nodup_cons.mp nd).1 (List.of_mem_zip hv).1,if_neg hk]
  simp
 | p::P,w::vs,i+1,m,nd,h1,h2,hk=>by
  show bindC kindOf ((p,w)::P.zip vs) m x=_
  unfold bindC
  exact Gu (i:=i) (List.nodup_cons.mp nd).2 (by simpa using h1) (by simpa using h2) hk
noncomputable def start (N:List Str) (vs:List V):St:=vs.map some++List.replicate (N.length - vs.length) none
noncomputable def BG (CX:CXT) (P:Program) (w:World) (K:W.Frag) (mg:Str->Option Value) (base:Heap) (N:List Str) (qual:Str) (scope:Scope) (f:Addr) (cd:Value) (A:Around) (outer:List Env) (s:Shared) (H:Hp) (E:XK):Cx where
 prog:=P
 w:=w
 K:=K
 mg:=mg
 base:=base
 A:=A.deeper (envOfC qual scope s.heap.objs.size f cd)
 N:=N
 s₀:=s
 H₀:=H
 env:=envOfC qual scope s.heap.objs.size f cd
 outer:=outer
 stack:=envOfC qual scope s.heap.objs.size f cd::outer
 ex:=[]
 calm:=true
 fn:=fun _=>true
 pn:=[]
 xe:=fun e s'=>wpAny (model P w) (A.deeper (envOfC qual scope s.heap.objs.size f cd)) (leaving (envOfC qual scope s.heap.objs.size f cd) e) (fun _ s''=>CX outer H s E e s'') (fun e' s''=>CX outer H s E e' s'') s'
theorem Il {sc:Scope} {n:Nat} {x:Str} (h:sc.names.lookup x=some .cell):∃ c,(cellsFrom n sc.names []).lookup x=some c:=by
 have q:=PySem.W.cellsFrom_some sc.names n [] (.inl h)
 exact Option.isSome_iff_exists.mp q
theorem KO {CX:CXT} {P:Program} {w:World} {K:W.Frag} {mg:Str->Option Value} {base:Heap} {N ps:List Str} {qual:Str} {scope:Scope} {f:Addr} {cd:Value} {A:Around} {outer:List Env} {s s1:Shared} {H:Hp} {E:XK} {us:List Value} {vs:List V}
 (S:FnScope N ps scope) (hd:A.handled=none) (e0:Env0 P w K mg base A outer s H) (hl:vs.length=ps.length) (r:Vals vs us)
 (x:InCallC s s.heap.objs.size (bindL (envOfC qual scope s.heap.objs.size f cd).kindOf (ps.zip us) fun _=>none) (cellsFrom (s.heap.objs.size+1) scope.names []) (bindC (envOfC qual scope s.heap.objs.size f cd).kindOf (ps.zip us) fun _=>none) s1) :
 Inv (BG CX P w K mg base N qual scope f cd A outer s H E) [] (start N vs) H s1:=by
 have hpl:ps.length<=N.length:=by have:=congrArg List.length S.pre;rw [List.length_take] at this;lia
 obtain ⟨h1,tk,rfl,hk⟩:=x.done
 have noA:∀ b:Addr,b∉(BG CX P w K mg base N qual scope f cd A outer s H E).ex:=fun b z=>absurd (show b∈([]:List Addr) from z) (by simp)
 refine ⟨⟨e0.mod,S.kind,rfl,rfl,Nat.le_refl _,fun y z c h1 h2=>?_,fun y hy=>?_,fun y c _ h=>?_,fun _=>hd,Around.frames_deeper e0.frames,.inr ⟨rfl,rfl⟩,fun b z=>absurd z (noA b),e0.bs,e0.bsz,fun b _ _=>noA b,fun b z=>absurd z (noA b),e0.funs,e0.frf⟩,
  rfl,e0.bare,Un.kept hk,⟨_,x.toInCall.ns,fun i y v h1 h2 h3=>?_⟩,fun y c h=>⟨_,x.cell y c h⟩,e0.hok.fresh (Nat.le_refl _),fun y c h=>?_,fun p hp=>absurd (show p∈([]:List (Addr × Obj)) from hp) (by simp),e0.hok.kept hk,?_⟩
 ·exact name_of_addr x.apart (PySem.mem_of_lookup h1) (PySem.mem_of_lookup h2)
 ·have hy:scope.names.lookup y=some .cell\/scope.names.lookup y=some .free:=hy
  rcases hy with hy | hy
  ·exact Il hy
  ·exact absurd rfl (S.nofree _ (PySem.mem_of_lookup hy))
 ·exact Nat.le_of_lt (x.above y c (PySem.mem_of_lookup h))
 ·have hi:i < vs.length:=by
   unfold start at h2
   by_cases hi:i < vs.length
   ·exact hi
   ·rw [List.getElem?_append_right (by simpa using hi)] at h2
    rw [List.getElem?_replicate] at h2
    split at h2 <;> cases h2
  have ha:vs[i]? = some v:=by
   unfold start at h2
   rw [List.getElem?_append_left (by simpa using hi),List.getElem?_map] at h2
   cases e:vs[i]? with
   | none=>rw [e] at h2;cases h2
   | some a=>rw [e] at h2;cases h2;rfl
  obtain ⟨u,hu,rv⟩:=r.get ha
  have hp:ps[i]? = some y:=by
   rw [<- S.pre,List.getElem?_take_of_lt (by lia)];exact h1
  have ndP:ps.Nodup:=by rw [<- S.pre];exact S.nd.sublist (List.take_sublist _ _)
  refine ⟨u,rv,?_⟩
  rcases S.par y (List.mem_of_getElem? hp) with k | k
  ·exact .inl ⟨k,Gk ndP hp hu k⟩
  ·obtain ⟨c,e⟩:=Il (n:=s.heap.objs.size+1) k
   refine .inr ⟨.inl k,c,e,?_⟩
   have q:=x.cell y c e
   rw [Gu ndP hp hu (by show scope.names.lookup y≠_;rw [k];decide)] at q
   exact q
 ·exact e0.hok.fresh (Nat.le_of_lt (x.above y c (PySem.mem_of_lookup h)))
 ·unfold start
  show _=N.length
  rw [List.length_append,List.length_map,List.length_replicate]
  lia
theorem Ho {CX:CXT} {P:Program} {w:World} {K:W.Frag} {mg:Str->Option Value} {base:Heap} {k:Nat} {f:Addr} {name qual:Str} {params:Arguments} {body:List Stmt} {scope:Scope} {dV kV doc pm cdv ct oc:Value} {an od:Option Addr}
 {osl:Array (Option Value)} {N ps:List Str} {sp:Sp} (lk:K.lookup f=some ⟨oc,od,.func (PySem.W.fnOf name qual params body scope dV kV doc pm an cdv ct),osl⟩) (hcd:PySem.W.codeIn K cdv qual=true) (S:FnScope N ps scope)
 (len:∀ vs H Q E,sp vs H Q E->vs.length=ps.length)
 (hbody:∀ (A:Around) (outer:List Env) (s:Shared) (H:Hp) (vs:List V) (Q:VK) (E:XK),Room k (A.deeper (envOfC qual scope s.heap.objs.size f cdv))->sp vs H Q E ->
   ∃ t,PSs (BG CX P w K mg base N qual scope f cdv A outer s H E) body t/\t { nx:=fun _ H'=>Q .non H',rt:=Q } (start N vs) H) :
 FnOk P w K mg base CX (k+1) f (PySem.W.fnOf name qual params body scope dV kV doc pm an cdv ct) ps sp:=by
 refine ⟨len,fun A outer s H args us vs Q E hr e0 hb r hsp=>?_⟩
 have hl:=len _ _ _ _ hsp
 have KX:K.In s.heap:=e0.mod.kin.keeps fun b o e=>(e0.bs b o e).1
 have lim:s.heap.NoLimit:=e0.mod.nolimit.keeps fun b o e=>(e0.bs b o e).1
 have hkind:∀ y∈ps.zip us,scope.names.lookup y.1=some .local\/(scope.names.lookup y.1=some .cell/\((cellsFrom (s.heap.objs.size+1) scope.names []).lookup y.1).isSome=true):=fun ⟨n,v⟩ hy=>by
  rcases S.par n (List.of_mem_zip hy).1 with q | q
  ·exact .inl q
  ·exact .inr ⟨q,PySem.W.cellsFrom_some _ _ _ (.inl q)⟩
 refine codeAny_call_function hr.depth (KX _ _ lk) rfl S.co S.gen rfl (PySem.W.codeRec_of KX hcd) (hb _ _ _ _ ?_)
 refine wpAny_newFunctionEnv_cells S.kind hkind fun env he s1 x=>?_
 subst he
 refine ⟨lim.keeps x.toInCall.keep,codeAny_func ?_⟩
 obtain ⟨t,ht,hq⟩:=hbody A outer s H vs Q E (hr.deeper _) hsp
 have I:Inv (BG CX P w K mg base N qual scope f cdv A outer s H E) [] (start N vs) H s1:=KO S hr.hd e0 hl r x
 refine wpAny_mono (ht [] s1 (start N vs) H _ I hq) (fun fl s' hs=>?_) fun e s' hs=>hs
 have fin:∀ {σ':St} {H':Hp} {v:V} {u:Value},Inv (BG CX P w K mg base N qual scope f cdv A outer s H E) [] σ' H' s'->RelV v u->Q v H'->CE outer P w H s Q u s' :=
  fun {σ' H' v u} J rv q=>⟨v,H',J.os,J.bare,J.base,J.hok,rv,q⟩
 cases fl with
 | ret u =>
  obtain ⟨v,σ',H',J,rv,q⟩:=hs
  exact fin J rv q
 | next =>
  obtain ⟨σ',H',J,q⟩:=hs
  exact fin (v:=V.non) (u:=Value.none) J rfl q
 | brk =>
  obtain ⟨_,_,_,q⟩:=hs
  exact False.elim q
 | cont =>
  obtain ⟨_,_,_,q⟩:=hs
  exact False.elim q
section
variable {X:Cx} {x:Str} {p pos:Pos} {e:Expr} {es:List Expr} {t:TA} {id T:String} {r:List V->Hp->VK->Prop}
noncomputable def tCB (r:List V->Hp->VK->Prop) (t:TA):TE:=fun σ H Q=>t σ H fun vs H1=>r vs H1 Q
theorem AQ (hc:CallR X (.builtin id) r) (hg:Gl X x) (hm:X.mg x=none) (hv:bootBuiltins x=some (.builtin id)) (ha:PA X (e::es) t) (hn:x ≠ "__name__":=by decide) (hdb:(x == ("__debug__" : Str))=false:=by decide)
 (he:starEach (e::es) X.env=(false,eval e X.env)::starEach es X.env:=by rfl) (hpl:(backTo pos (starEach es X.env)).any (·.1)=false:=by rfl):PE X (.Call (.Name x p) (e::es) [] pos) (tCB r t):=by
 intro pins s σ H Q I h
 refine wpAny_Call_Name_kw (Cp I hg hm hv ?_ hn hdb)
 exact PyProof.Rows.callWith_builtin1 (thn (ha pos pins s σ H _ I h) fun us s1 ⟨vs,H1,I1,r1,q1⟩=>hc pins s1 σ H1 vs us Q I1 r1 q1) he hpl
theorem BW (hc:CallR X (.type T) r) (hg:Gl X x) (hm:X.mg x=none) (hv:bootBuiltins x=some (.type T)) (ha:PA X (e::es) t) (hn:x ≠ "__name__":=by decide) (hdb:(x == ("__debug__" : Str))=false:=by decide)
 (he:starEach (e::es) X.env=(false,eval e X.env)::starEach es X.env:=by rfl) (hpl:(backTo pos (starEach es X.env)).any (·.1)=false:=by rfl):PE X (.Call (.Name x p) (e::es) [] pos) (tCB r t):=by
 intro pins s σ H Q I h
 refine wpAny_Call_Name_kw (Cp I hg hm hv ?_ hn hdb)
 exact PyProof.Rows.callWith_type1 (thn (ha pos pins s σ H _ I h) fun us s1 ⟨vs,H1,I1,r1,q1⟩=>hc pins s1 σ H1 vs us Q I1 r1 q1) he hpl
end
end L2
namespace HT
open PySem PyProof.Rows
section
open PySem.SeqAt
open PySem.AutoSeq1 (wpAny_loadPart')
open PySem.MeetsSeq PySem.MeetsSeq2 PySem.MeetsSeq3
end
section
variable {prog:Program} {w:World} {A:Around} {E:Value->Shared->Prop} {s:Shared}
theorem cat_tup {t b:Addr} {vs ws:List Value} {Q:Value->Shared->Prop} (ht:IsTup s.heap t vs.toArray) (hb:IsTup s.heap b ws.toArray) (hv:vs≠[])
 (h1:ws=[]->Q (.ref t) s) (h2:ws≠[]->Q (.ref s.heap.objs.size) { s with heap:=s.heap.push { cls:=.type "tuple",data:=.seq (vs++ws).toArray } })
 (hsz:vs.length+ws.length<=sizeLine):wpAny (model prog w) A (binaryOp .Add (.ref t) (.ref b)) Q E s:=by
 obtain ⟨⟨cls,dd,data,sl⟩,ho,hc,n,hd⟩:=id ht
 obtain ⟨⟨cls2,dd2,data2,sl2⟩,ho2,hc2,n2,hd2⟩:=id hb
 simp only at hc hd hc2 hd2
 subst hc hd hc2 hd2
 have e:vs.toArray++ws.toArray=(vs++ws).toArray:=by simp
 by_cases hw:ws=[]
 ·exact concat_meets ⟨_,ho,rfl⟩ ⟨_,ho2,rfl⟩ noFill_tuple_add seq_tuple_add PySem.F.slot_tuple_add PySem.F.entry_tuple_add (PySem.F.args_tuple_add_2 _ _)
   (tuple_addW1 t b vs.toArray ws.toArray n n2 dd dd2 sl sl2 (by simpa using hv) (by simp [hw])) ⟨ho,ho2,h1 hw⟩
 ·refine concat_meets ⟨_,ho,rfl⟩ ⟨_,ho2,rfl⟩ noFill_tuple_add seq_tuple_add PySem.F.slot_tuple_add PySem.F.entry_tuple_add (PySem.F.args_tuple_add_2 _ _)
   (tuple_addW2 t b vs.toArray ws.toArray n n2 dd dd2 sl sl2 (by simpa using hv) (by simpa using hw) (by rw [List.size_toArray,List.size_toArray];exact hsz)) ⟨ho,ho2,?_⟩
  rw [e]
  exact h2 hw
end
end HT
namespace L2
open PySem PySem.Spec PyProof.Rows
noncomputable abbrev TO:=St->Hp->(Option Int->Hp->Prop)->Prop
theorem No {ns:List Int}:∀ {us:List Value},Vals (ns.map V.int) us->IntsAre us ns:=by
 induction ns with
 | nil=>intro us r;rw [List.map_nil] at r;cases r;exact .nil
 | cons n ns ih =>
  intro us r
  rw [List.map_cons] at r
  cases r with
  | cons r1 r2 =>
   obtain ⟨t,e⟩:=r1
   subst e
   exact .cons n t (ih r2)
section
variable {X:Cx} {e:Expr} {te:TE} {lo hi:Option Expr} {tl th:TO} {pos p2:Pos}
noncomputable def Go (K:W.Frag):R2:=fun x y H Q=>∃ a b xs ys,x=.ref a/\y=.ref b/\SqT K H a xs/\SqT K H b ys/\xs≠[]/\xs.length+ys.length<=sizeLine /\
 (ys=[]->Q (.ref a) H)/\(ys≠[]->∀ p,H p=none->Q (.ref p) (upd H p (.tup (xs++ys))))
theorem Vals.nil_iff {xs:List V} {us:List Value} (r:Vals xs us):us=[] ↔ xs=[]:=by
 cases r with
 | nil=>simp
 | cons _ _=>simp
theorem M8:OpR X (binaryOp .Add) (Go X.K):=by
 intro pins s σ H x y v u Q I rx ry h
 obtain ⟨a,b,xs,ys,rfl,rfl,ha,hb,hx,hz,q1,q2⟩:=h
 cases rx
 cases ry
 obtain ⟨its,r1,p1,_⟩:=I.tuple ha
 obtain ⟨its2,r2,p2,_⟩:=I.tuple hb
 refine HT.cat_tup p1 p2 (fun z=>hx (r1.nil_iff.mp z)) (fun z=>⟨.ref a,H,I,rfl,q1 (r2.nil_iff.mp z)⟩) (fun z=>?_) (by rw [<- r1.length,<- r2.length];exact hz)
 refine ⟨.ref s.heap.objs.size,_,I.laid (t':=s.toks) (o:=.tup (xs++ys)) (fun b ob q=>Heap.get?_push_of_some _ q) (Nat.le_refl _) ?_,rfl,q2 (fun w=>z (r2.nil_iff.mpr w)) _ (I.hok.fresh (Nat.le_refl _))⟩
 exact ⟨by rw [List.length_append];exact hz,_,r1.append r2,IsTupN.new _ _⟩
end
noncomputable def ixN (n:Nat) (i:Int):Option Nat:=if 0<=i then (if i < n then some i.toNat else none) else if -(n:Int)<=i then some (i+n).toNat else none
noncomputable def atI {α:Type} (xs:List α) (i:Int):Option α:=(ixN xs.length i).bind fun j=>xs[j]?
theorem Hs {n:Nat} {i:Int} {j:Nat} (h:ixN n i=some j):seqIndex? i n=some j/\j < n /\ -(n:Int)<=i/\i < n:=by
 unfold ixN at h
 by_cases h0:0<=i
 ·rw [if_pos h0] at h
  by_cases h1:i < n
  ·rw [if_pos h1] at h
   have e:i.toNat=j:=Option.some.inj h
   exact ⟨by rw [seqIndex_of h0 h1,e],by lia,by lia,h1⟩
  ·rw [if_neg h1] at h;cases h
 ·rw [if_neg h0] at h
  by_cases h1 : -(n:Int)<=i
  ·rw [if_pos h1] at h
   have e:(i+n).toNat=j:=Option.some.inj h
   exact ⟨by rw [seqIndex_neg (by lia) h1,e],by lia,h1,by lia⟩
  ·rw [if_neg h1] at h;cases h
theorem FO {α:Type} {xs:List α} {i:Int} {v:α} (h:atI xs i=some v):∃ j,seqIndex? i xs.length=some j/\xs[j]? = some v/\j < xs.length /\ -(xs.length:Int)<=i/\i < xs.length:=by
 unfold atI at h
 cases e:ixN xs.length i with
 | none=>rw [e] at h;cases h
 | some j =>
  rw [e] at h
  obtain ⟨h1,h2,h3,h4⟩:=Hs e
  exact ⟨j,h1,h,h2,h3,h4⟩
noncomputable def FM (b:Expr):Prop:=∀ o i,subscripted b false o i=operate [o,i] (getItem o i)
noncomputable def IxR (X:Cx) (r:R2):Prop :=
 ∀ (value slice:Expr) (pins:List (Addr × Obj)) (s:Shared) (σ:St) (H:Hp) (x y:V) (v u:Value) (Q:VK),Inv X pins σ H s->RelV x v->RelV y u->r x y H Q ->
  subscripted slice false v u=operate [v,u] (getItem v u)->wpAny (model X.prog X.w) X.A (subscriptTail value slice v u) (EP X pins σ Q) X.xe s
noncomputable def MtR (X:Cx) (id:String) (r:V->List V->Hp->VK->Prop):Prop :=
 ∀ (pins:List (Addr × Obj)) (s:Shared) (σ:St) (H:Hp) (x:V) (xs:List V) (v:Value) (us:List Value) (Q:VK),Inv X pins σ H s->RelV x v->Vals xs us->r x xs H Q ->
  wpAny (model X.prog X.w) X.A (call (.builtin id) (v::us)) (EP X pins σ Q) X.xe s
section
variable {X:Cx} {a b:Expr} {ta tb:TE} {pos:Pos}
theorem IxR.or {r r':R2} (h:IxR X r) (h':IxR X r'):IxR X (fun x y H Q=>r x y H Q\/r' x y H Q):=by
 intro value slice pins s σ H x y v u Q I rx ry q hs
 rcases q with q | q
 ·exact h value slice pins s σ H x y v u Q I rx ry q hs
 ·exact h' value slice pins s σ H x y v u Q I rx ry q hs
theorem Jg {r:R2} (hr:IxR X r) (ha:PE X a ta) (hb:PE X b tb) (hs:FM b):PE X (.Subscript a b pos) (tOp r ta tb):=by
 intro pins s σ H Q I h
 exact Subscript_ (Fa ha hb I h fun v u s2 x y H2 I2 rx ry q=>hr a b pins s2 σ H2 x y v u Q I2 rx ry q (hs _ _))
noncomputable def JO (K:W.Frag):R2:=fun x y H Q=>∃ p xs i v,x=.ref p/\y=.int i/\SqL K H p xs/\atI xs i=some v/\Q v H
noncomputable def HY (K:W.Frag):R2:=fun x y H Q=>∃ p xs i v,x=.ref p/\y=.int i/\SqT K H p xs/\atI xs i=some v/\Q v H
noncomputable def HQ:R2:=fun x y H Q=>∃ z i c,x=.str z/\y=.int i/\z.length<=sizeLine/\atI z.cps.toList i=some c/\Q (.str ⟨#[c]⟩) H
theorem ix_list:IxR X (JO X.K):=by
 intro value slice pins s σ H x y v u Q I rx ry h hs
 obtain ⟨p,xs,i,z,rfl,rfl,hq,he,q⟩:=h
 cases rx
 obtain ⟨t,rfl⟩:=ry
 obtain ⟨its,r,pl,hz⟩:=I.list hq
 obtain ⟨j,h1,h2,h3,h4,h5⟩:=FO he
 obtain ⟨w,ew,rw'⟩:=r.get h2
 have hl:=r.length
 have hn:=Cm
 have fin:EP X pins σ Q w s:=⟨z,H,I,rw',q⟩
 by_cases h0:0<=i
 ·have hj:i.toNat=j:=by
   rw [seqIndex_of h0 h5] at h1
   exact Option.some.inj h1
  exact item_listR pl.isList h0 (by lia) (by rw [hj];simpa using ew) fin hs
 ·have hj:(i+(its.toArray.size:Int)).toNat=j:=by
   rw [seqIndex_neg (by lia) h4] at h1
   rw [List.size_toArray,<- hl]
   exact Option.some.inj h1
  exact subscriptTail_builtinR (x:=w) pl.isList.typeIs slot_list_getitem.lookup
   (wpAny_getItem_list_neg (Q:=fun r s'=>r=w/\EP X pins σ Q r s') pl.isList (by lia) (by rw [List.size_toArray] <;> lia) (by lia) (by rw [hj];simpa using ew) ⟨rfl,fin⟩) hs
theorem ix_tup:IxR X (HY X.K):=by
 intro value slice pins s σ H x y v u Q I rx ry h hs
 obtain ⟨p,xs,i,z,rfl,rfl,hq,he,q⟩:=h
 cases rx
 obtain ⟨t,rfl⟩:=ry
 obtain ⟨its,r,pl,hz⟩:=I.tuple hq
 obtain ⟨j,h1,h2,h3,h4,h5⟩:=FO he
 obtain ⟨w,ew,rw'⟩:=r.get h2
 have hl:=r.length
 have hn:=Cm
 have fin:EP X pins σ Q w s:=⟨z,H,I,rw',q⟩
 exact subscriptTail_builtinR (x:=w) pl.typeIs slot_tuple_getitem.lookup
  (getItem_tuple (j:=j) (Q:=fun r s'=>r=w/\EP X pins σ Q r s') pl (by lia) (by lia) (by rw [List.size_toArray,<- hl];exact h1) (by simpa using ew) ⟨rfl,fin⟩) hs
theorem KD:IxR X HQ:=by
 intro value slice pins s σ H x y v u Q I rx ry h hs
 obtain ⟨z,i,c,rfl,rfl,hz,he,q⟩:=h
 obtain ⟨t,rfl⟩:=rx
 obtain ⟨t',rfl⟩:=ry
 obtain ⟨j,h1,h2,h3,h4,h5⟩:=FO he
 have hl:z.cps.toList.length=z.length:=by simp [Str.length]
 rw [hl] at h1 h4 h5
 have hn:=Cm
 exact tail_any (typeIs_str s z t) slot_str_getitem.lookup (getItem_str (c:=c) (by
  have e1:decide (i < -(2 ^ 63:Int))=false:=decide_eq_false (by lia)
  have e2:decide (i ≥ 2 ^ 63)=false:=decide_eq_false (by lia)
  rw [e1,e2,Bool.or_false]) (by rw [h1];simpa using h2) ⟨.str ⟨#[c]⟩,H,I.tok _,⟨_,rfl⟩,q⟩) hs
noncomputable def rIx (K:W.Frag):R2:=fun x y H Q=>JO K x y H Q\/HY K x y H Q\/HQ x y H Q
theorem ix_seq:IxR X (rIx X.K):=ix_list.or (ix_tup.or KD)
theorem LK (its:List Value) (n j:Nat) (u:Value):Obj.mapSeq (·.setIfInBounds j u) { cls:=.type "list",data:=.seq its.toArray n } = { cls:=.type "list",data:=.seq (its.set j u).toArray n }:=by
 simp [Obj.mapSeq]
theorem Inv.lst {pins:List (Addr × Obj)} {σ:St} {H:Hp} {s:Shared} {p:Addr} {xs:List V} (I:Inv X pins σ H s) (h:H p=some (.lst xs)) :
 ∃ (its:List Value) (n:Nat),Vals xs its/\s.heap.get? p=some { cls:=.type "list",data:=.seq its.toArray n } /\ xs.length<=sizeLine:=by
 obtain ⟨z,its,n,r,e⟩:=I.hok p _ h
 exact ⟨its,n,r,e,z⟩
theorem Inv.lstUpd {pins:List (Addr × Obj)} {σ:St} {H:Hp} {s:Shared} {p:Addr} {xs ys:List V} {its its':List Value} {n n':Nat} {f:Obj->Obj} (I:Inv X pins σ H s) (h:H p=some (.lst xs))
 (ho:s.heap.get? p=some { cls:=.type "list",data:=.seq its.toArray n }) (hf:f { cls:=.type "list",data:=.seq its.toArray n } = { cls:=.type "list",data:=.seq its'.toArray n' }) (r:Vals ys its') (hz:ys.length<=sizeLine) (t:Nat) :
 Inv X pins σ (upd H p (.lst ys)) { s with heap:=s.heap.update p f,toks:=t }:=by
 have e:(s.heap.update p f).get? p=some { cls:=.type "list",data:=.seq its'.toArray n' }:=by
  rw [Heap.get?_update_self f ho (by rw [hf] <;> rfl),hf]
 refine I.write (x:=p) (e:=p) (by rw [h];trivial) (.inl rfl) (fun b u hb q=>(Heap.get?_update_other _ _ (Ne.symm hb)).trans q) ⟨_,e⟩ ?_
 exact ⟨hz,its',n',r,e⟩
noncomputable def MO:V->V->V->Hp->(Hp->Prop)->Prop:=fun o i v H Q=>∃ p xs k j,o=.ref p/\i=.int k/\H p=some (.lst xs)/\ixN xs.length k=some j/\Q (upd H p (.lst (xs.set j v)))
theorem NV:D3 X MO:=by
 intro pins s σ H o i v ov iv u Q I ro ri rv h
 obtain ⟨p,xs,k,j,rfl,rfl,hp,hj,q⟩:=h
 cases ro
 obtain ⟨t,rfl⟩:=ri
 obtain ⟨its,n,r,ho,hz⟩:=I.lst hp
 obtain ⟨h1,h2,h3,h4⟩:=Hs hj
 have hl:=r.length
 have hn:=Cm
 have I':Inv X pins σ (upd H p (.lst (xs.set j v))) { s with heap:=s.heap.update p (Obj.mapSeq (·.setIfInBounds j u)) } :=
  I.lstUpd hp ho (LK its n j u) (r.set rv j) (by rw [List.length_set];exact hz) s.toks
 by_cases h0:0<=k
 ·have hk:k.toNat=j:=by
   rw [seqIndex_of h0 h4] at h1
   exact Option.some.inj h1
  exact PySem.W.ki_setAt ho h0 (by lia) (by rw [List.size_toArray,<- hl];exact h4) (by rw [hk];exact ⟨_,I',q⟩)
 ·have hk:(k+(its.toArray.size:Int)).toNat=j:=by
   rw [seqIndex_neg (by lia) h3] at h1
   rw [List.size_toArray,<- hl]
   exact Option.some.inj h1
  exact PySem.W.ki_setBack ho (by lia) (by rw [List.size_toArray,<- hl];exact h3) (by lia) (by rw [hk];exact ⟨_,I',q⟩)
noncomputable def Aw:V->Bool
 | .non=>true
 | .bl _=>true
 | .int _=>true
 | .str _=>true
 | _=>false
noncomputable def eqV:V->V->Bool
 | .non,.non=>true
 | .bl a,.bl b=>a == b
 | .bl a,.int b=>(if a then 1 else 0) == b
 | .int a,.bl b=>a == (if b then 1 else 0)
 | .int a,.int b=>a == b
 | .str a,.str b=>a == b
 | _,_=>false
theorem O3 {A:Around} {s:Shared} {y x:V} {u v:Value} (ry:RelV y u) (rx:RelV x v) (fy:Aw y=true) (fx:Aw x=true):SeqAt.EqAt A s u v (eqV y x):=by
 cases y with
 | non =>
  cases ry
  cases x with
  | non=>cases rx;exact SeqAt.EqAt.same _
  | bl b=>cases rx;exact SeqAt.EqAt.none_bool b
  | int b=>obtain ⟨t,rfl⟩:=rx;exact SeqAt.EqAt.none_int b t
  | str b=>obtain ⟨t,rfl⟩:=rx;exact SeqAt.EqAt.none_str b t
  | _=>exact absurd (show false=true from fx) Bool.false_ne_true
 | bl a =>
  cases ry
  cases x with
  | non=>cases rx;exact SeqAt.EqAt.bool_none a
  | bl b=>cases rx;exact SeqAt.EqAt.bool_bool a b
  | int b=>obtain ⟨t,rfl⟩:=rx;exact SeqAt.EqAt.bool_int a b t
  | str b=>obtain ⟨t,rfl⟩:=rx;exact SeqAt.EqAt.bool_str a b t
  | _=>exact absurd (show false=true from fx) Bool.false_ne_true
 | int a =>
  obtain ⟨t',rfl⟩:=ry
  cases x with
  | non=>cases rx;exact SeqAt.EqAt.int_none a t'
  | bl b=>cases rx;exact SeqAt.EqAt.int_bool a t' b
  | int b=>obtain ⟨t,rfl⟩:=rx;exact SeqAt.EqAt.int_int a t' b t
  | str b=>obtain ⟨t,rfl⟩:=rx;exact SeqAt.EqAt.int_str a t' b t
  | _=>exact absurd (show false=true from fx) Bool.false_ne_true
 | str a =>
  obtain ⟨t',rfl⟩:=ry
  cases x with
  | non=>cases rx;exact SeqAt.EqAt.str_none a t'
  | bl b=>cases rx;exact SeqAt.EqAt.str_bool a t' b
  | int b=>obtain ⟨t,rfl⟩:=rx;exact SeqAt.EqAt.str_int a t' b t
  | str b=>obtain ⟨t,rfl⟩:=rx;exact SeqAt.EqAt.str_str a t' b t
  | _=>exact absurd (show false=true from fx) Bool.false_ne_true
 | _=>exact absurd (show false=true from fy) Bool.false_ne_true
noncomputable def eqU (x:V) (u:Value):Bool:=match u with
 | .none=>eqV .non x
 | .bool b=>eqV (.bl b) x
 | .int i _=>eqV (.int i) x
 | .str z _=>eqV (.str z) x
 | _=>false
theorem Eh {x y:V} {u:Value} (r:RelV y u) (f:Aw y=true):eqU x u=eqV y x:=by
 cases y with
 | non=>cases r;rfl
 | bl b=>cases r;rfl
 | int i=>obtain ⟨t,rfl⟩:=r;rfl
 | str z=>obtain ⟨t,rfl⟩:=r;rfl
 | _=>exact absurd (show false=true from f) Bool.false_ne_true
theorem GI {x:V}:∀ {xs:List V} {us:List Value},Vals xs us->xs.all Aw=true->us.any (eqU x)=xs.any fun y=>eqV y x
 | _,_,.nil,_=>rfl
 | y::xs,u::us,.cons r t,f=>by
  rw [List.all_cons,Bool.and_eq_true] at f
  rw [List.any_cons,List.any_cons,Eh r f.1,GI t f.2]
theorem Dz {A:Around} {s:Shared} {x:V} {v:Value} (rx:RelV x v) (fx:Aw x=true):∀ {xs:List V} {us:List Value},Vals xs us->xs.all Aw=true->∀ u∈us,SeqAt.EqAt A s u v (eqU x u)
 | _,_,.nil,_=>fun u hu=>by cases hu
 | y::xs,u::us,.cons r t,f=>fun u' hu=>by
  rw [List.all_cons,Bool.and_eq_true] at f
  rcases List.mem_cons.mp hu with rfl | hu
  ·rw [Eh r f.1];exact O3 r rx f.1 fx
  ·exact Dz rx fx t f.2 u' hu
noncomputable def inV (x:V) (xs:List V):Bool:=xs.any fun y=>eqV y x
noncomputable def rIn (K:W.Frag) (neg:Bool):R2:=fun x y H Q=>∃ p xs,y=.ref p/\(SqL K H p xs\/SqT K H p xs)/\Aw x=true/\xs.all Aw=true/\Q (.bl (if neg then !inV x xs else inV x xs)) H
theorem Nn:OpR X (compareOp .In) (rIn X.K false):=by
 intro pins s σ H x y v u Q I rx ry h
 obtain ⟨p,xs,rfl,hq,fx,fs,q⟩:=h
 cases ry
 rcases hq with hq | hq
 ·obtain ⟨its,r,pl,hz⟩:=I.list hq
  refine SeqAt.in_listAt (eqU x) pl.isList (fun w hw=>Dz rx fx r fs w (by simpa using hw)) ⟨.bl _,H,I,rfl,?_⟩
  rw [show its.toArray.any (eqU x)=its.any (eqU x) by simp,GI r fs]
  exact q
 ·obtain ⟨its,r,pl,hz⟩:=I.tuple hq
  refine SeqAt.in_tupleAt (eqU x) pl (fun w hw=>Dz rx fx r fs w (by simpa using hw)) ⟨.bl _,H,I,rfl,?_⟩
  rw [show its.toArray.any (eqU x)=its.any (eqU x) by simp,GI r fs]
  exact q
theorem call_list_of:CallR X (.type "list") (fun xs H Q=>∃ p ys,xs=[.ref p]/\(SqL X.K H p ys\/SqT X.K H p ys)/\∀ l,H l=none->Q (.ref l) (upd H l (.lst ys))):=by
 intro pins s σ H xs us Q I r h
 obtain ⟨p,ys,rfl,hq,q⟩:=h
 obtain ⟨u,rfl,rx⟩:=Bt r
 cases rx
 have fin:∀ (its:List Value),Vals ys its->ys.length<=sizeLine->∀ (h':Heap) (c':Nat),(∀ b o',s.heap.get? b=some o'->h'.get? b=some o') ->
  h'.get? s.heap.objs.size=some { cls:=.type "list",dict:=none,data:=.seq its.toArray c',slots:=#[] } -> EP X pins σ Q (.ref s.heap.objs.size) { s with heap:=h' }:=fun its r' hz h' c' kp e =>
  ⟨.ref s.heap.objs.size,_,I.laid (t':=s.toks) kp (Nat.le_refl _) (show ObjOk X.prog X.w _ h' _ (.lst ys) from ⟨hz,its,c',r',e⟩),rfl,q _ (I.hok.fresh (Nat.le_refl _))⟩
 rcases hq with hq | hq
 ·obtain ⟨its,r',pl,hz⟩:=I.list hq
  have hlen:=r'.length
  obtain ⟨o,ho,hc,n,hd⟩:=pl.isList
  exact call_list_seq p (.inl rfl) ho hc hd (fun h' c' kp e=>fin its r' hz h' c' kp e) (by simp only [List.size_toArray] <;> lia)
 ·obtain ⟨its,r',pl,hz⟩:=I.tuple hq
  have hlen:=r'.length
  obtain ⟨o,ho,hc,n,hd⟩:=pl
  exact call_list_seq p (.inr rfl) ho hc hd (fun h' c' kp e=>fin its r' hz h' c' kp e) (by simp only [List.size_toArray] <;> lia)
theorem call_tuple_of:CallR X (.type "tuple") (fun xs H Q=>∃ p ys,xs=[.ref p]/\((SqL X.K H p ys/\∀ l,H l=none->Q (.ref l) (upd H l (.tup ys)))\/(SqT X.K H p ys/\Q (.ref p) H))):=by
 intro pins s σ H xs us Q I r h
 obtain ⟨p,ys,rfl,h⟩:=h
 obtain ⟨u,rfl,rx⟩:=Bt r
 cases rx
 rcases h with ⟨hq,q⟩ | ⟨hq,q⟩
 ·obtain ⟨its,r',pl,hz⟩:=I.list hq
  have hlen:=r'.length
  refine call_tuple_list pl.isList (fun h' kp=>?_) (by simp only [List.size_toArray] <;> lia)
  have I1:Inv X pins σ H { s with heap:=h' }:=I.kept (t':=s.toks) kp
  have I2:Inv X pins σ (upd H h'.objs.size (.tup ys)) { s with heap:=h'.push { cls:=.type "tuple",data:=.seq its.toArray } } :=
   I1.laid (t':=s.toks) (fun b o e=>Heap.get?_push_of_some _ e) (Nat.le_refl _) (show ObjOk X.prog X.w _ _ _ (.tup ys) from ⟨hz,its,r',IsTupN.new _ _⟩)
  exact ⟨.ref h'.objs.size,_,I2,rfl,q _ (I1.hok.fresh (Nat.le_refl _))⟩
 ·obtain ⟨its,r',pl,hz⟩:=I.tuple hq
  exact call_tuple_same pl ⟨.ref p,H,I,rfl,q⟩
noncomputable def tyV (K:W.Frag) (T:String) (x:V) (H:Hp):Prop:=match x with
 | .str _=>T = "str"
 | .int _=>T = "int"
 | .ref p=>(T = "list" /\ ∃ xs,SqL K H p xs)\/(T = "tuple" /\ ∃ o,K.lookup p=some o/\o.cls=.type "tuple" /\ o.dict=none) \/
  (T = "dict" /\ ((∃ kvs,H p=some (.dK kvs))\/∃ kvs,H p=some (.dT kvs)))\/(T = "set" /\ ∃ S n,H p=some (.set S n))
 | _=>False
theorem MV {pins:List (Addr × Obj)} {σ:St} {H:Hp} {s:Shared} {T:String} {x:V} {v:Value} (I:Inv X pins σ H s) (r:RelV x v) (ty:tyV X.K T x H) :
 s.TypeIs v T/\∀ a,v=.ref a->∃ ob,s.heap.get? a=some ob/\ob.dict=none:=by
 cases x with
 | str z =>
  obtain ⟨t,rfl⟩:=r
  cases (show T = "str" from ty)
  exact ⟨typeIs_str s z t,fun _ e=>nomatch e⟩
 | int i =>
  obtain ⟨t,rfl⟩:=r
  cases (show T = "int" from ty)
  exact ⟨typeIs_int s i t,fun _ e=>nomatch e⟩
 | ref p =>
  cases r
  rcases ty with ⟨rfl,xs,hq⟩ | ⟨rfl,o,hk,hc,hd⟩ | ⟨rfl,hk⟩ | ⟨rfl,S,n,hk⟩
  ·obtain ⟨its,_,pl,_⟩:=I.list hq
   refine ⟨pl.isList.typeIs,fun a e=>?_⟩
   cases e
   obtain ⟨o,n,e,c,hd,_⟩:=pl
   exact ⟨o,e,hd⟩
  ·refine ⟨⟨o,I.kIn p o hk,hc⟩,fun a e=>?_⟩
   cases e
   exact ⟨o,I.kIn _ o hk,hd⟩
  ·have z:∃ o,s.heap.get? p=some o/\o.ExactDict:=by
    rcases hk with ⟨kvs,hk⟩ | ⟨kvs,hk⟩
    ·obtain ⟨_,_,_,_,o,_,_,e,ex,_⟩:=I.hok p _ hk
     exact ⟨o,e,ex⟩
    ·obtain ⟨_,_,_,_,o,_,_,e,ex,_⟩:=I.hok p _ hk
     exact ⟨o,e,ex⟩
   obtain ⟨o,e,ex⟩:=z
   refine ⟨⟨o,e,ex.1⟩,fun a e2=>?_⟩
   cases e2
   exact ⟨o,e,ex.2.1⟩
  ·obtain ⟨o,_,_,_,e,ex,_⟩:=I.hok p _ hk
   refine ⟨⟨o,e,ex.1⟩,fun a e2=>?_⟩
   cases e2
   exact ⟨o,e,ex.2.1⟩
 | _=>exact False.elim ty
noncomputable def tBM (K:W.Frag) (T:String) (r:V->List V->Hp->VK->Prop) (to:TE) (t:TA):TE:=fun σ H Q=>to σ H fun x H1=>tyV K T x H1/\t σ H1 fun xs H2=>r x xs H2 Q
variable {o e:Expr} {es:List Expr} {to:TE} {t:TA} {name:Str} {apos cpos:Pos} {T id:String} {r:V->List V->Hp->VK->Prop}
theorem E6 (pa:PlainAttrs T) (slot:Slot T name id) (hty:typeOf (.builtin id)=pure (.type "method_descriptor")) (hm:MtR X id r) (ho:PE X o to) (ha:PA X (e::es) t)
 (hbase:attributeBase o name X.env (eval o X.env)=eval o X.env:=by rfl)
 (hfew:((backTo cpos (starEach (e::es) X.env)).all (fun x=>!x.1) && (backToKw cpos (keywordEach [] X.env)).all (fun x=>x.1.isSome)
   && decide ((e::es).length+([]:List Keyword).length+(if ([]:List Keyword).isEmpty then 0 else 1) < 30))=true:=by rfl)
 (hline:(apos.endLine == cpos.line)=true:=by rfl) (hs:starEach (e::es) X.env=(false,eval e X.env)::starEach es X.env:=by rfl) (hplain:(backTo cpos (starEach es X.env)).any (·.1)=false:=by rfl) :
 PE X (.Call (.Attribute o name apos) (e::es) [] cpos) (tBM X.K T r to t):=by
 intro pins s σ H Q I h
 refine wpAny_Call_method_late hbase hfew hline rfl (thn (ho pins s σ H _ I h) fun v s1 ⟨x,H1,I1,r1,ty,q1⟩=>?_)
 obtain ⟨h1,h2⟩:=MV I1 r1 ty
 refine ⟨T,id,pa,slot,hty,h1,h2,?_⟩
 have hA:=ha cpos pins s1 σ H1 _ I1 q1
 rw [hs] at hA ⊢
 refine Calls.callWith_builtin (by show (false || (backTo cpos (starEach es X.env)).any (·.1))=false;rw [hplain] <;> rfl) (Calls.evalArgs_plain ?_)
 exact thn hA fun us s2 ⟨vs,H2,I2,r2,q2⟩=>hm pins s2 σ H2 x vs v us Q I2 r1 r2 q2
end
noncomputable def MtM (X:Cx) (id:String) (r:V->List V->Hp->VK->Prop):Prop :=
 ∀ (pins:List (Addr × Obj)) (s:Shared) (σ:St) (H:Hp) (x:V) (xs:List V) (v:Value) (us:List Value) (Q:VK),Inv X pins σ H s->RelV x v->Vals xs us->r x xs H Q ->
  wpAny (model X.prog X.w) X.A (call (.builtin id) (v::us)) (EP X pins σ Q) X.xe s
theorem Vals.one:∀ {x:V} {us:List Value},Vals [x] us->∃ u,us=[u]/\RelV x u
 | _,_,.cons r .nil=>⟨_,rfl,r⟩
theorem Vals.zero:∀ {us:List Value},Vals [] us->us=[]
 | _,.nil=>rfl
theorem Vals.reverse {xs:List V} {us:List Value} (h:Vals xs us):Vals xs.reverse us.reverse:=by
 induction h with
 | nil=>exact .nil
 | cons r t ih=>rw [List.reverse_cons,List.reverse_cons];exact Vals.append ih (.cons r .nil)
theorem Vals.rep {xs:List V} {us:List Value} (h:Vals xs us):∀ k:Nat,Vals (List.replicate k xs).flatten (List.replicate k us).flatten
 | 0=>.nil
 | k+1=>by
  rw [List.replicate_succ,List.replicate_succ,List.flatten_cons,List.flatten_cons]
  exact Vals.append h (Vals.rep h k)
theorem Gz (its:List Value):∀ (k:Nat) (acc:List Value),
 List.foldl (fun x1 x2=>x1++x2) acc.toArray (List.replicate k its.toArray)=(acc++(List.replicate k its).flatten).toArray
 | 0,acc=>by simp
 | k+1,acc=>by
  have e:acc.toArray++its.toArray=(acc++its).toArray:=by simp
  have e2:(acc++its)++(List.replicate k its).flatten=acc++(List.replicate (k+1) its).flatten:=by
   rw [List.replicate_succ,List.flatten_cons,List.append_assoc]
  rw [<- e2,<- Gz its k (acc++its),<- e,List.replicate_succ,List.foldl_cons]
section
variable {X:Cx} {pins:List (Addr × Obj)} {σ:St} {H:Hp} {s:Shared} {l b:Addr} {xs ys zs:List V}
theorem Inv.lset {its its':List Value} {n:Nat} {f:Array Value->Array Value} {t':Nat} (I:Inv X pins σ H s) (hH:H l=some (.lst xs))
 (e:s.heap.get? l=some { cls:=.type "list",data:=.seq its.toArray n }) (hf:f its.toArray=its'.toArray) (hv:Vals ys its') (hz:ys.length<=sizeLine) :
 Inv X pins σ (upd H l (.lst ys)) { s with heap:=s.heap.update l (Obj.mapSeq f),toks:=t' }:=by
 have q:=PySem.IsL.update e f
 rw [hf] at q
 refine I.write (x:=l) (e:=l) (by rw [hH];exact trivial) (.inl rfl) (fun b' u hb hu=>(Heap.get?_update_other s.heap (Obj.mapSeq f) (Ne.symm hb)).trans hu) ⟨_,q⟩ ?_
 exact ⟨hz,its',_,hv,q⟩
theorem Inv.lnew {its:List Value} {t':Nat} (I:Inv X pins σ H s) (hv:Vals ys its) (hz:ys.length<=sizeLine) :
 Inv X pins σ (upd H s.heap.objs.size (.lst ys)) { s with heap:=s.heap.push { cls:=.type "list",data:=.seq its.toArray },toks:=t' } :=
 I.laid (fun _ _ q=>Heap.get?_push_of_some _ q) (Nat.le_refl _) ⟨hz,its,0,hv,Heap.get?_push_size _ rfl⟩
theorem Inv.fresh (I:Inv X pins σ H s):H s.heap.objs.size=none:=I.hok.fresh (Nat.le_refl _)
theorem Inv.lstM (I:Inv X pins σ H s) (hH:H l=some (.lst xs)):xs.length<=sizeLine/\∃ (its:List Value) (n:Nat),Vals xs its/\xs.length=its.length/\s.heap.get? l=some { cls:=.type "list",data:=.seq its.toArray n }:=by
 obtain ⟨z,its,n,r,e⟩:=I.hok l _ hH
 exact ⟨z,its,n,r,r.length,e⟩
theorem KQ {n:Nat} (h:n<=sizeLine):Builtin.List.listTooLong n=false:=by
 unfold Builtin.List.listTooLong
 exact decide_eq_false (by lia)
end
section
variable {X:Cx}
noncomputable def LW:V->List V->Hp->VK->Prop:=fun x vs H Q=>∃ l xs y,x=.ref l/\vs=[y]/\H l=some (.lst xs)/\xs.length < sizeLine/\Q .non (upd H l (.lst (xs++[y])))
theorem Ja:MtM X "list.append" LW:=by
 intro pins s σ H x vs v us Q I rx rv h
 obtain ⟨l,xs,y,rfl,rfl,hH,hz,q⟩:=h
 cases rx
 obtain ⟨u,rfl,ru⟩:=rv.one
 obtain ⟨z,its,n,r,hl,e⟩:=I.lstM hH
 refine call_meets F.slot_list_append ⟨_,e,rfl⟩ F.entry_list_append (F.args_list_append_2 _ _) (PySem.list_append l its.toArray n u (by rw [List.size_toArray];lia)) ⟨e,?_⟩
 refine ⟨.non,_,I.lset (its':=its++[u]) hH e (by simp) (r.append (.cons ru .nil)) ?_,rfl,q⟩
 rw [List.length_append,List.length_singleton]
 lia
noncomputable def Ic:R2:=fun x y H Q=>∃ l b xs zs,x=.ref l/\y=.ref b/\H l=some (.lst xs)/\H b=some (.lst zs)/\xs.length+zs.length<=sizeLine/\∀ p,H p=none->Q (.ref p) (upd H p (.lst (xs++zs)))
theorem NF:OpR X (binaryOp .Add) Ic:=by
 intro pins s σ H x y v u Q I rx ry h
 obtain ⟨l,b,xs,zs,rfl,rfl,hH,hB,hz,q⟩:=h
 cases rx
 cases ry
 obtain ⟨z,its,n,r,hl,e⟩:=I.lstM hH
 obtain ⟨z2,its2,n2,r2,hl2,e2⟩:=I.lstM hB
 refine PySem.P.add_list e e2 ?_ (by rw [List.size_toArray,List.size_toArray];lia)
 have ea:its.toArray++its2.toArray=(its++its2).toArray:=by simp
 rw [ea]
 exact ⟨.ref _,_,I.lnew (t':=s.toks) (r.append r2) (by rw [List.length_append];lia),rfl,q _ I.fresh⟩
noncomputable def JC:R2:=fun x y H Q=>∃ l k xs,x=.ref l/\y=.int k/\H l=some (.lst xs) /\ -(2 ^ 63)<=k/\k < 2 ^ 63/\xs.length * k.toNat<=sizeLine /\
 ∀ p,H p=none->Q (.ref p) (upd H p (.lst (List.replicate k.toNat xs).flatten))
theorem Lr {α:Type} (xs:List α) (k:Nat):(List.replicate k xs).flatten.length=k * xs.length:=by
 induction k with
 | zero=>simp
 | succ k ih=>rw [List.replicate_succ,List.flatten_cons,List.length_append,ih,Nat.succ_mul,Nat.add_comm]
theorem Lz:OpR X (binaryOp .Mult) JC:=by
 intro pins s σ H x y v u Q I rx ry h
 obtain ⟨l,k,xs,rfl,rfl,hH,h1,h2,hz,q⟩:=h
 cases rx
 obtain ⟨t,rfl⟩:=ry
 obtain ⟨z,its,n,r,hl,e⟩:=I.lstM hH
 have hlen:its.toArray.size * k.toNat<=sizeLine:=by rw [List.size_toArray,<- hl];exact hz
 have hcap:¬ its.toArray.size * k.toNat > (2 ^ 63 - 1) / 8:=by
  have:(sizeLine:Nat)<=(2 ^ 63 - 1) / 8:=by decide
  lia
 have hfit:¬ (!Builtin.List.listFitsIndex k)=true:=by
  rw [fitsIndex_both h1 h2]
  exact Bool.false_ne_true
 have hlong:¬ Builtin.List.listTooLong (its.toArray.size * k.toNat)=true:=by
  rw [KQ hlen]
  exact Bool.false_ne_true
 have hnew:List.foldl (fun x1 x2=>x1++x2) #[] (List.replicate (if its.toArray.isEmpty=true then 0 else k.toNat) its.toArray)=(List.replicate k.toNat its).flatten.toArray:=by
  have f0:∀ m:Nat,List.foldl (fun x1 x2=>x1++x2) #[] (List.replicate m its.toArray)=(List.replicate m its).flatten.toArray:=fun m=>by
   have:=Gz its m []
   rw [List.nil_append] at this
   exact this
  rw [f0]
  cases its with
  | nil=>simp
  | cons a r'=>rw [if_neg (by simp)]
 refine wpAny_binaryOp_repeat_ref (T:="list") (U:="int") (by decide) ⟨_,e,rfl⟩ (fun s'=>typeIs_int s' k t) noFill_list_mul F.fills_int_mul F.slot_int_rmul repeat_list F.slot_int_index.lookup
  (call_meets F.slot_int_rmul (typeIs_int s k t) F.entry_int_rmul (F.args_int_rmul_2 _ _) (int___rmul___int_list k t l its.toArray n)
    ⟨e,rfl,⟨_,e,rfl⟩,call_meets F.slot_list_mul ⟨_,e,rfl⟩ F.entry_list_mul (F.args_list_mul_2 _ _) (AutoListH.list___mul___list_int_3 l its.toArray n k t hfit hcap hlong) ⟨e,?_⟩⟩)
 rw [hnew]
 exact ⟨.ref _,_,I.lnew (t':=s.toks) (r.rep k.toNat) (by rw [Lr,Nat.mul_comm];exact hz),rfl,q _ I.fresh⟩
end
section
variable {prog:Program} {w:World} {A:Around} {E:Value->Shared->Prop} {s:Shared}
end
section
variable {X:Cx}
end
end L2
namespace Att
open PySem PySem.W PySem.Calls PyProof.Rows
theorem Nu {P:Params} {h:Heap}:∀ (ns:List Int) (vs:List Value),WellAll P h vs (ns.map WData.int)->IntsAre vs ns:=by
 intro ns
 induction ns with
 | nil =>
  intro vs w
  rw [List.map_nil] at w
  cases w
  exact .nil
 | cons n ns ih =>
  intro vs w
  rw [List.map_cons] at w
  cases w with
  | cons a b =>
   cases a
   exact .cons _ _ (ih _ b)
theorem NM {l:OpenLaw} {n:Nat} (hn:l.most=some n) {P:Params} {h:Heap} {args:List WData} {vals:List Value}
 (hpre:l.row.toRowW.claim.pre args=true) (hwl:WellAll P h vals args) :
 ∃ a vs ns,vals=[Value.ref a]/\args=[WData.list (ns.map WData.int)]/\h.get? a=some { cls:=.type "list",data:=.seq vs.toArray } /\ IntsAre vs ns/\ns.length<=n:=by
 have hsh:WShape.hasAll [] args [.list .int]=true:=(pre_splitW hpre).1
 have hc:l.pre.holds [] { args:=args } = true:=(pre_splitW hpre).2
 obtain ⟨d,r,rfl,h1,h2⟩:=hasAllW_cons hsh
 obtain rfl:=hasAllW_nil h2
 obtain ⟨xs,rfl,h3⟩:=hasW_list h1
 obtain ⟨ns,rfl⟩:=items_int h3
 have hlen:ns.length<=n:=by
  unfold OpenLaw.pre at hc
  have h4:(WTm.not (.lt (.lit (.int (n:Int))) (.len (.arg 0)))).holds [] { args:=[.list (ns.map .int)] } = true:=by
   have h4:=(holds_andW hc).1
   rw [hn] at h4
   exact h4
  have h5:=condW_of h4 (w_not (w_lt w_lit (w_len_list (w_arg rfl))))
  rw [List.length_map] at h5
  refine Nat.le_of_not_lt fun q=>?_
  have q':(n:Int) < ((ns.length:Nat):Int):=by lia
  first
   | (rw [decide_eq_true q'] at h5;exact absurd h5 (by decide))
   | (simp at h5;lia)
 cases hwl with
 | cons w1 w2 =>
  cases w2
  cases w1 with
  | list ho hall=>exact ⟨_,_,ns,rfl,rfl,ho,Nu ns _ hall,hlen⟩
theorem Of (l:OpenLaw) (args:List WData):l.row.toRowW.claim.post args (.bool true) args=true :=
 postW_of (r:=l.row.toRowW) (X:=(true == true))
  (show WShape.has [] (.bool true) .bool=true by first | rfl | decide | simp [WShape.has,WShape.arms,WShape.armsAll])
  (show (WTm.eq .res (.lit (.bool true))).value [] { args:=args,res:=some (.bool true),after:=args } = some (.bool (true == true)) from w_eq_bool (w_res rfl) w_lit) rfl
theorem attach_call {l:OpenLaw} {n:Nat} {q:Program} {loose:List Str} {XP:(Str->Option Value)->Heap->Prop} {YP:World->Heap->Prop} {d:DefRec}
 (hn:l.most=some n) (hdf:d.params.defaults=[])
 (call:∀ (w:World) (s₀ s₁:Shared) (mg mb:Str->Option Value) (fa:Addr) (o:Obj) (pm cd doc:Value) (a:Addr) (vs:List Value) (ns:List Int),
   Ground q loose [] XP w s₀ mg mb s₁.heap->YP w s₁.heap ->
   s₁.heap.get? fa=some o->o.data=.func (docDef d.name d.params d.body d.scope pm cd doc)->s₁.heap.CodeRec cd d.name->mg d.name=some (.ref fa) ->
   s₁.heap.get? a=some { cls:=.type "list",data:=.seq vs.toArray } -> IntsAre vs ns->ns.length<=n->s₁.gens = #[] ->
   codeAny (model l.prog w) callerA (.call (.ref fa) ⟨[.ref a],[]⟩) (fun r s'=>r=.ok (.ret (.bool true))/\OldK s₁.heap s'.heap/\s'.os=s₁.os/\AllBare s'.gens) s₁) :
 WalkO q loose XP YP l.row.toRowW d [] (fun f vs=>PySem.call f vs):=by
 intro w s₀ s₁ mg mb G Y fa o pm cd doc dV kV ho hd hcd hD hmg hg args vals as hpre hlay hrd hwl hlo
 obtain rfl:dV=.none:=Dflts.none hD hdf
 obtain rfl:kV=.none:=Dflts.noKw hD
 obtain ⟨a,vs,ns,rfl,rfl,hobj,hints,hlen⟩:=NM hn hpre hwl
 refine enter_call (codeAny_mono (call w s₀ s₁ mg mb fa o pm cd doc a vs ns G Y ho (fd_plain hd) hcd hmg hobj hints hlen hg) fun r s' hq=>?_)
 obtain ⟨rfl,h2,h3,h4⟩:=hq
 exact ⟨.inl ⟨.bool true,.bool true,[],rfl,fun _=>rfl,.bool true,Of l _,fun _=>⟨List.Pairwise.nil,fun _ hm=>(nomatch hm)⟩⟩,h2,h3,h4⟩
section
variable {prog:Program} {w:World} {A:Around} {E:Value->Shared->Prop} {s:Shared} {K:Frag}
noncomputable def EK (h:Heap):Heap:={ h with objs:=#[] }
theorem HS (h:Heap) (b:Addr):(EK h).get? b=none:=by
 cases e:(EK h).get? b with
 | none=>rfl
 | some o=>exact absurd (Heap.lt_size e) (Nat.not_lt_zero _)
theorem PR {h:Heap} {L:Addr} {m:Str->Option Value} (n:h.Ns L m):Fr (EK h) L h m :=
 ⟨n,fun b o e=>(by rw [HS] at e;cases e),Nat.zero_le _⟩
end
end Att
namespace L2
open PySem PySem.Spec PyProof.Rows
theorem Gw:∀ {vs:List Value} {ns:List Int},IntsAre vs ns->Vals (ns.map V.int) vs
 | _,_,.nil=>.nil
 | _,_,.cons n t h=>.cons ⟨t,rfl⟩ (Gw h)
noncomputable def FC (H:Hp):Prop:=∀ b,H b=none\/∃ o xs,H b=some (.frz o (.lst xs))
theorem LJ {P:Program} {w:World} {K:W.Frag} {mg mb:Str->Option Value} {CX:CXT} {k:Nat} {fa a:Addr} {fd:FuncData} {x:Str} {sp:Sp} {s₁:Shared} {vs:List Value} {ns:List Int}
 (KX:K.In s₁.heap) (hns:s₁.heap.Ns mainGlobals mg) (hb:s₁.heap.Ns builtinsNs mb) (hbb:∀ x:Str,x ≠ "__name__" -> mb x=bootBuiltins x) (hlim:s₁.heap.NoLimit) (hg:s₁.gens = #[])
 (ha:s₁.heap.get? a=some { cls:=.type "list",data:=.seq vs.toArray }) (hi:IntsAre vs ns) (hl:ns.length<=sizeLine) (hr:Room k callerA)
 (F:∀ base:Heap,K.In base->base.Ns mainGlobals mg->FnOk P w K mg base CX k fa fd [x] sp) (hbind:∀ (s:Shared) (u:Value),BindsTo s fd ⟨[u],[]⟩ [(x,u)])
 (hsp:∀ H:Hp,FC H->SqL K H a (ns.map V.int)->sp [.ref a] H (fun v _=>v=.bl true) fun _ _ _=>False)
 (hCX:∀ H e s',CX [] H s₁ (fun _ _ _=>False) e s'->False) :
 codeAny (model P w) callerA (.call (.ref fa) ⟨[.ref a],[]⟩) (fun r s'=>r=.ok (.ret (.bool true))/\OldK s₁.heap s'.heap/\s'.os=s₁.os/\AllBare s'.gens) s₁:=by
 have rv:=Gw hi
 have lenV:=hi.length
 -- from an abstract heap in which nothing but the script may be tracked
 have core:∀ H:Hp,FC H->SqL K H a (ns.map V.int)->HOk P w H s₁.heap->(∀ b,H b≠none->b=a)->(H a≠none->K.lookup a=none) ->
  codeAny (model P w) callerA (.call (.ref fa) ⟨[.ref a],[]⟩) (fun r s'=>r=.ok (.ret (.bool true))/\OldK s₁.heap s'.heap/\s'.os=s₁.os/\AllBare s'.gens) s₁:=by
  intro H hO hS hok hA hK
  have base_of:∀ {b:Addr} {o:Obj},s₁.heap.get? b=some o->H b=none->(Bu s₁.heap H).get? b=some o:=fun e n=>Kv e n
  have noA:∀ {b:Addr} {o:Obj} {es:Array DictEntry} {ep:Nat},s₁.heap.get? b=some o->o.data=.dict es ep->H b=none:=fun {b o es ep} e d=>by
   cases q:H b with
   | none=>rfl
   | some u =>
    have e':b=a:=hA b (by rw [q];simp)
    subst e'
    rw [ha] at e;cases e
    have d':Data.seq vs.toArray _=Data.dict es ep:=d
    cases d'
  have nsK:∀ {b:Addr} {m:Str->Option Value},s₁.heap.Ns b m->(Bu s₁.heap H).Ns b m:=fun {b m} ⟨o,es,ep,e,d,r⟩=>⟨o,es,ep,base_of e (noA e d),d,r⟩
  have hKb:K.In (Bu s₁.heap H):=fun b o e=>base_of (KX b o e) (by
   cases q:H b with
   | none=>rfl
   | some u =>
    have e':b=a:=hA b (by rw [q];simp)
    subst e'
    rw [hK (by rw [q];simp)] at e;cases e)
  have hM:Mod K mg (Bu s₁.heap H):=⟨hKb,nsK hns,⟨mb,nsK hb,hbb⟩,let ⟨mc,h1,h2⟩:=hlim;⟨mc,nsK h1,h2⟩⟩
  have e0:Env0 P w K mg (Bu s₁.heap H) callerA [] s₁ H:=⟨rfl,hM,fun b o e=>PJ e,Nat.le_of_eq (Nf _ _),trivial,fun b hb=>absurd (show b∈([]:List Addr) from hb) (by simp),hok,.of_eq hg⟩
  refine codeAny_mono ((F _ hKb (nsK hns)).run callerA [] s₁ H ⟨[.ref a],[]⟩ [.ref a] [.ref a] _ _ hr e0 (hbind s₁ (.ref a)) (.cons rfl .nil) (hsp H hO hS)) fun r s' h=>?_
  cases r with
  | error e=>exact (hCX H e s' h).elim
  | ok fl =>
   cases fl with
   | next=>exact False.elim h
   | brk=>exact False.elim h
   | cont=>exact False.elim h
   | ret u =>
    obtain ⟨v,H',os,bare,un,hok',r',q⟩:=h
    have q':v=.bl true:=q
    subst q'
    obtain rfl:u=Value.bool true:=r'
    refine ⟨rfl,OldK.of_keep fun b o e=>?_,os,bare⟩
    cases q:H b with
    | none=>exact un.keep b o e q (by intro z;exact absurd (show b∈([]:List Addr) from z) (by simp)) (by simp)
    | some u =>
     rcases hO b with z | ⟨ob,xs,z⟩
     ·rw [q] at z;cases z
     ·have z2:=un.frzs b ob _ z
      obtain ⟨e1,_⟩:=hok b _ z
      obtain ⟨e2,_⟩:=hok' b _ z2
      rw [e] at e1;cases e1
      exact e2
 cases hk:K.lookup a with
 | some o =>
  -- the script is one of the module's own objects
  have e:=KX a o hk
  rw [ha] at e
  cases e
  refine core (fun _=>none) (fun _=>.inl rfl) (.inr ⟨_,vs.toArray,_,hk,rfl,rfl,rfl,by rw [List.size_toArray,lenV];exact hl,by simpa using rv⟩) (fun b u z=>by have z':(none:Option HO)=some u:=z;cases z') (fun b z=>absurd rfl z) fun z=>absurd rfl z
 | none =>
  refine core (fun b=>if b=a then some (.frz { cls:=.type "list",data:=.seq vs.toArray } (.lst (ns.map V.int))) else none) (fun b=>?_) (.inl (.inr ⟨{ cls:=.type "list",data:=.seq vs.toArray },if_pos rfl⟩)) (fun b u z=>?_) (fun b z=>?_) fun _=>hk
  ·by_cases hb:b=a
   ·exact .inr ⟨_,_,if_pos hb⟩
   ·exact .inl (if_neg hb)
  ·by_cases hb:b=a
   ·have z':=(if_pos hb).symm.trans z
    cases z'
    subst hb
    exact ⟨ha,by rw [List.length_map];exact hl,vs,_,rv,ha⟩
   ·have z':=(if_neg hb).symm.trans z
    cases z'
  ·by_cases hb:b=a
   ·exact hb
   ·exact absurd (if_neg hb) z
theorem walk_of {l:PySem.W.OpenLaw} {n k:Nat} {q:Program} {loose:List Str} {XP:(Str->Option Value)->Heap->Prop} {YP:World->Heap->Prop} {d:DefRec} {K:Params->W.Frag} {CX:World->CXT} {sp:World->Sp} {x:Str}
 (hn:l.most=some n) (hn2:n<=sizeLine) (hdf:d.params.defaults=[]) (hr:Room k callerA)
 (hY:∀ (w:World) (h:Heap),YP w h->(K w.params).In h)
 (F:∀ (w:World) (mg:Str->Option Value) (fa:Addr) (h:Heap),(K w.params).In h->h.Ns mainGlobals mg->mg d.name=some (.ref fa) ->
   ∃ fd:FuncData,(∀ (s:Shared) (u:Value),BindsTo s fd ⟨[u],[]⟩ [(x,u)]) /\
    ∀ base:Heap,(K w.params).In base->base.Ns mainGlobals mg->FnOk l.prog w (K w.params) mg base (CX w) k fa fd [x] (sp w))
 (hsp:∀ (w:World) (H:Hp) (a:Addr) (ns:List Int),ns.length<=n->FC H->SqL (K w.params) H a (ns.map V.int)->sp w [.ref a] H (fun v _=>v=.bl true) fun _ _ _=>False)
 (hCX:∀ (w:World) (H:Hp) (s:Shared) (e:Value) (s':Shared),CX w [] H s (fun _ _ _=>False) e s'->False) :
 PySem.W.WalkO q loose XP YP l.row.toRowW d [] (fun f vs=>PySem.call f vs):=by
 refine Att.attach_call hn hdf fun w s₀ s₁ mg mb fa o pm cd doc a vs ns G Y ho hd hcd hmg hobj hints hlen hg=>?_
 have KX:=hY w _ Y
 obtain ⟨fd,hb,hF⟩:=F w mg fa _ KX G.T.g hmg
 exact LJ KX G.T.g G.T.b G.T.builtins G.T.nolimit hg hobj hints (Nat.le_trans hlen hn2) hr hF hb (fun H hO hS=>hsp w H a ns hlen hO hS) fun H e s'=>hCX w H s₁ e s'
noncomputable def AW (s:Stmt):Arguments:=match s with
 | .FunctionDef _ a _ _ _ _ _ _ _ _=>a
 | _=>{ posonlyargs:=[],args:=[],vararg:=none,kwonlyargs:=[],kw_defaults:=[],kwarg:=none,defaults:=[] }
noncomputable def AU (s:Stmt):List Stmt:=match s with
 | .FunctionDef _ _ b _ _ _ _ _ _ _=>b
 | _=>[]
noncomputable def AG (s:Stmt):Scope:=match s with
 | .FunctionDef _ _ _ _ _ _ sc _ _ _=>sc
 | _=>{ kind:=.function,names:=[],isGenerator:=false,isCoroutine:=false }
noncomputable abbrev CX0:CXT:=fun _ _ _ _ _ _=>False
noncomputable abbrev E0:XK:=fun _ _ _=>False
theorem AJ {X:Cx}:E1 CX0 X E0:=fun _ _ _ _ _ _ _ h=>h.elim
structure Fun (K:W.Frag) (x qual:Str) (st:Stmt) (f:Addr) (fd:FuncData):Prop where
 ex:∃ (oc:Value) (od:Option Addr) (kV doc pm:Value) (an:Option Addr) (cdv ct:Value) (osl:Array (Option Value)),
  fd=PySem.W.fnOf x qual (AW st) (AU st) (AG st) .none kV doc pm an cdv ct/\K.lookup f=some ⟨oc,od,.func fd,osl⟩/\PySem.W.codeIn K cdv qual=true
 kp:PySem.W.keepIn K (.ref f)=true
section
variable {P:Program} {w:World} {K:W.Frag} {mg:Str->Option Value} {base:Heap}
theorem Fun.ok {x qual:Str} {st:Stmt} {f:Addr} {fd:FuncData} {N ps:List Str} {k:Nat} {sp:Sp} (F:Fun K x qual st f fd) (S:FnScope N ps (AG st)) (len:∀ vs H Q E,sp vs H Q E->vs.length=ps.length)
 (hbody:∀ (cdv:Value) (A:Around) (outer:List Env) (s:Shared) (H:Hp) (vs:List V) (Q:VK) (E:XK),Room k (A.deeper (envOfC qual (AG st) s.heap.objs.size f cdv))->sp vs H Q E ->
   ∃ t,PSs (BG CX0 P w K mg base N qual (AG st) f cdv A outer s H E).nox (AU st) t/\t { nx:=fun _ H'=>Q .non H',rt:=Q } (start N vs) H):FnOk P w K mg base CX0 (k+1) f fd ps sp:=by
 obtain ⟨oc,od,kV,doc,pm,an,cdv,ct,osl,rfl,lk,hcd⟩:=F.ex
 refine Ho lk hcd S len fun A outer s H vs Q E hr hsp=>?_
 obtain ⟨t,h,q⟩:=hbody cdv A outer s H vs Q E hr hsp
 exact ⟨t,h.nox,q⟩
theorem Fun.binds {x qual:Str} {st:Stmt} {f:Addr} {fd:FuncData} {ps:List Str} (F:Fun K x qual st f fd)
 (h:∀ (kV doc pm:Value) (an:Option Addr) (cdv ct:Value) (us:List Value),us.length=ps.length->bindArgs (PySem.W.fnOf x qual (AW st) (AU st) (AG st) .none kV doc pm an cdv ct) ⟨us,[]⟩=pure (ps.zip us)):Binds K fd ps []:=by
 obtain ⟨oc,od,kV,doc,pm,an,cdv,ct,osl,rfl,lk,hcd⟩:=F.ex
 exact .all (h kV doc pm an cdv ct)
theorem AZ {x qual:Str} {st:Stmt} {f:Addr} {oc:Value} {od an:Option Addr} {osl:Array (Option Value)} {kV doc pm cdv ct:Value} (l:K.lookup f=some ⟨oc,od,.func (PySem.W.fnOf x qual (AW st) (AU st) (AG st) .none kV doc pm an cdv ct),osl⟩)
 (c:PySem.W.codeIn K cdv qual=true) (k:PySem.W.keepIn K (.ref f)=true):Fun K x qual st f (PySem.W.fnOf x qual (AW st) (AU st) (AG st) .none kV doc pm an cdv ct):=⟨⟨oc,od,kV,doc,pm,an,cdv,ct,osl,rfl,l,c⟩,k⟩
end
theorem Ab {n:Nat} (h:n<=1000):n < sizeLine:=Nat.lt_of_le_of_lt h (by decide)
section
variable {X:Cx}
end
theorem AO {c A B:Prop} [Decidable c] (h1:c->A) (h2:¬ c->B):if c then A else B:=by
 by_cases h:c
 ·rw [if_pos h]
  exact h1 h
 ·rw [if_neg h]
  exact h2 h
noncomputable def Same (H H':Hp):Prop:=∀ b o,H b=some o->H' b=some o
theorem Same.refl (H:Hp):Same H H:=fun _ _ h=>h
theorem Same.trans {H H1 H2:Hp} (a:Same H H1) (b:Same H1 H2):Same H H2:=fun c o h=>b c o (a c o h)
theorem Same.free {H H':Hp} (e:Same H H') {l:Addr} (h:H' l=Option.none):H l=Option.none:=by
 cases q:H l with
 | none=>rfl
 | some o =>
  rw [e l o q] at h
  cases h
theorem Same.seq {K:W.Frag} {H H':Hp} {a:Addr} {xs:List V} (e:Same H H') (h:SqL K H a xs):SqL K H' a xs:=by
 rcases h with (h | ⟨o,h⟩) | h
 ·exact .inl (.inl (e _ _ h))
 ·exact .inl (.inr ⟨o,e _ _ h⟩)
 ·exact .inr h
theorem Cu:∀ (names:List (Str × NameKind)) (n:Nat) (acc:List (Str × Addr)),cellsFrom n names acc=cellsFrom n names []++acc
 | [],_,_=>rfl
 | (name,kind)::r,n,acc=>by
  unfold cellsFrom
  split
  ·rw [Cu r (n+1) ((name,n)::acc),Cu r (n+1) [(name,n)],List.append_assoc];rfl
  ·exact Cu r n acc
theorem cellsFrom_kind:∀ (names:List (Str × NameKind)) (n:Nat) (acc:List (Str × Addr)) (x:Str) (c:Addr),(x,c)∈cellsFrom n names acc->(x,c)∈acc\/(x,NameKind.cell)∈names
 | [],_,_,_,_,h=>.inl h
 | (name,kind)::r,n,acc,x,c,h=>by
  unfold cellsFrom at h
  split at h
  ·rename_i hk
   rcases cellsFrom_kind r _ _ x c h with h | h
   ·rcases List.mem_cons.mp h with e | h
    ·cases e
     have:kind=.cell:=by simpa using hk
     subst this
     exact .inr List.mem_cons_self
    ·exact .inl h
   ·exact .inr (List.mem_cons_of_mem _ h)
  ·rcases cellsFrom_kind r _ _ x c h with h | h
   ·exact .inl h
   ·exact .inr (List.mem_cons_of_mem _ h)
theorem ER {α:Type} {x:Str}:∀ (l r:List (Str × α)),(l++r).lookup x=(match l.lookup x with | some c=>some c | none=>r.lookup x)
 | [],r=>rfl
 | (k,v)::l,r=>by
  show List.lookup x ((k,v)::(l++r))=_
  rw [List.lookup_cons,List.lookup_cons]
  cases x == k with
  | true=>rfl
  | false=>exact ER l r
theorem Ii {α:Type} {x:Str}:∀ {l:List (Str × α)},(∀ c,(x,c)∉l)->l.lookup x=none
 | [],_=>rfl
 | (k,v)::l,h=>by
  rw [List.lookup_cons]
  cases hb:x == k with
  | true =>
   have:x=k:=by simpa using hb
   subst this
   exact absurd List.mem_cons_self (h v)
  | false=>exact Ii fun c hc=>h c (List.mem_cons_of_mem _ hc)
noncomputable def Aq (cells:List (Str × Addr)):List (Str × NameKind)->List (Str × Addr)->List (Str × Addr)
 | [],acc=>acc
 | (n,k)::r,acc=>if k == .free then Aq cells r ((n,(cells.lookup n).getD 0)::acc) else Aq cells r acc
theorem Ib {scope:Scope} {env:Env} (h:∀ y∈scope.names,y.2=.free->∃ c,env.cells.lookup y.1=some c):closureFor scope env=pure (Aq env.cells scope.names []):=by
 have all:∀ (names:List (Str × NameKind)) (acc:List (Str × Addr)),(∀ y∈names,y.2=.free->∃ c,env.cells.lookup y.1=some c) ->
  (forIn names acc fun (x:Str × NameKind) cs=>(if (x.2 == NameKind.free)=true then (do let a <- cellOf env x.1;pure (ForInStep.yield ((x.1,a)::cs))) else pure (ForInStep.yield cs):Sem (ForInStep (List (Str × Addr)))))=(pure (Aq env.cells names acc):Sem _):=by
  intro names
  induction names with
  | nil=>intro acc _;rfl
  | cons y r ih =>
   intro acc hy
   obtain ⟨n,k⟩:=y
   rw [List.forIn_cons]
   have hr:∀ y∈r,y.2=.free->∃ c,env.cells.lookup y.1=some c:=fun y hm=>hy y (List.mem_cons_of_mem _ hm)
   unfold Aq
   by_cases hk:(k == NameKind.free)=true
   ·obtain ⟨c,e⟩:=hy (n,k) List.mem_cons_self (by simpa using hk)
    rw [if_pos hk,if_pos hk]
    have e2:cellOf env n=pure c:=by unfold cellOf;rw [show env.cells.lookup n=some c from e]
    rw [e2]
    rw [show env.cells.lookup n=some c from e]
    exact ih _ hr
   ·rw [if_neg hk,if_neg hk]
    exact ih _ hr
 have q:=all scope.names [] h
 unfold closureFor
 refine Eq.trans ?_ (congrArg (fun t=>t >>= pure) q |>.trans (by rfl))
 congr 1
theorem clOf_mem {cells:List (Str × Addr)}:∀ (names:List (Str × NameKind)) (acc:List (Str × Addr)) (x:Str) (c:Addr),(∀ y∈names,y.2=.free->∃ c,cells.lookup y.1=some c)->(x,c)∈Aq cells names acc->(x,c)∈acc\/((x,NameKind.free)∈names/\cells.lookup x=some c)
 | [],_,_,_,_,h=>.inl h
 | (n,k)::r,acc,x,c,hy,h=>by
  have hr:∀ y∈r,y.2=.free->∃ c,cells.lookup y.1=some c:=fun y hm=>hy y (List.mem_cons_of_mem _ hm)
  unfold Aq at h
  split at h
  ·rename_i hk
   have hk':k=.free:=by simpa using hk
   subst hk'
   obtain ⟨d,e⟩:=hy (n,.free) List.mem_cons_self rfl
   rcases clOf_mem r _ x c hr h with h | ⟨h,h'⟩
   ·rcases List.mem_cons.mp h with e' | h
    ·obtain ⟨e1,e2⟩:=Prod.mk.inj e'
     rw [show cells.lookup n=some d from e] at e2
     subst e1
     exact .inr ⟨List.mem_cons_self,by rw [e2];exact e⟩
    ·exact .inl h
   ·exact .inr ⟨List.mem_cons_of_mem _ h,h'⟩
  ·rcases clOf_mem r _ x c hr h with h | ⟨h,h'⟩
   ·exact .inl h
   ·exact .inr ⟨List.mem_cons_of_mem _ h,h'⟩
theorem GM {cells:List (Str × Addr)} {x:Str}:∀ (names:List (Str × NameKind)) (acc:List (Str × Addr)),(∃ c,(x,c)∈acc)->∃ c,(x,c)∈Aq cells names acc
 | [],_,h=>h
 | (n,k)::r,acc,⟨c,h⟩=>by
  unfold Aq
  split
  ·exact GM r _ ⟨c,List.mem_cons_of_mem _ h⟩
  ·exact GM r _ ⟨c,h⟩
theorem Fz {cells:List (Str × Addr)} {x:Str}:∀ (names:List (Str × NameKind)) (acc:List (Str × Addr)),(x,NameKind.free)∈names->∃ c,(x,c)∈Aq cells names acc
 | (n,k)::r,acc,h=>by
  unfold Aq
  rcases List.mem_cons.mp h with e | h
  ·cases e
   rw [if_pos (by decide)]
   exact GM r _ ⟨_,List.mem_cons_self⟩
  ·split
   ·exact Fz r _ h
   ·exact Fz r _ h
theorem HC {α:Type} {x:Str}:∀ {l:List (Str × α)},(∃ c,(x,c)∈l)->∃ c,l.lookup x=some c
 | (k,v)::l,⟨c,h⟩=>by
  rw [List.lookup_cons]
  cases hb:x == k with
  | true=>exact ⟨v,rfl⟩
  | false =>
   rcases List.mem_cons.mp h with e | h
   ·cases e;simp at hb
   ·exact HC ⟨c,h⟩
noncomputable def D6 (scope sc:Scope):Scope :=
 { scope with names:=scope.names.map fun (n,k)=>if (k == .free && sc.kind == .function && sc.names.lookup n == some .cell) then (n,.cell) else (n,k) }
structure CompScope (scope sc:Scope):Prop where
 kind:scope.kind=.function
 nd:(scope.names.map (·.1)).Nodup
 fr:∀ y∈scope.names,y.2=.free->sc.names.lookup y.1=some .cell\/sc.names.lookup y.1=some .free
theorem Cf {α:Type}:∀ {l:List (Str × α)} {x:Str} {c:α},(l.map (·.1)).Nodup->(x,c)∈l->l.lookup x=some c
 | (k,v)::l,x,c,nd,h=>by
  obtain ⟨n1,n2⟩:=List.nodup_cons.mp (show (k::l.map (·.1)).Nodup from nd)
  rw [List.lookup_cons]
  rcases List.mem_cons.mp h with e | h
  ·cases e;simp
  ·have hne:¬ x=k:=fun e=>n1 (by rw [<- e];exact List.mem_map.mpr ⟨(x,c),h,rfl⟩)
   have:(x == k)=false:=by simpa using hne
   rw [this]
   exact Cf n2 h
theorem HD {scope sc:Scope} {x:Str}:(D6 scope sc).names.lookup x=(scope.names.lookup x).map fun k=>if (k == .free && sc.kind == .function && sc.names.lookup x == some .cell) then NameKind.cell else k:=by
 show (scope.names.map _).lookup x=_
 generalize scope.names=names
 induction names with
 | nil=>rfl
 | cons y r ih =>
  obtain ⟨n,k⟩:=y
  rw [List.map_cons]
  by_cases hc:(k == .free && sc.kind == .function && sc.names.lookup n == some .cell)=true
  ·show List.lookup x ((if (k == .free && sc.kind == .function && sc.names.lookup n == some .cell)=true then (n,NameKind.cell) else (n,k))::_)=_
   rw [if_pos hc,List.lookup_cons,List.lookup_cons]
   cases hb:x == n with
   | true =>
    have hx:x=n:=by simpa using hb
    subst hx
    show some NameKind.cell=some (if _ then _ else _)
    rw [if_pos hc]
   | false=>exact ih
  ·show List.lookup x ((if (k == .free && sc.kind == .function && sc.names.lookup n == some .cell)=true then (n,NameKind.cell) else (n,k))::_)=_
   rw [if_neg hc,List.lookup_cons,List.lookup_cons]
   cases hb:x == n with
   | true =>
    have hx:x=n:=by simpa using hb
    subst hx
    show some k=some (if _ then _ else _)
    rw [if_neg hc]
   | false=>exact ih
structure CArgs where
 pins:List (Addr × Obj)
 cells:List (Str × Addr)
 s:Shared
 H:Hp
 fp:List Addr
 C:Addr
noncomputable def Cx.comp (X:Cx) (scope:Scope) (N':List Str) (c:CArgs):Cx where
 prog:=X.prog
 w:=X.w
 K:=X.K
 mg:=X.mg
 base:=X.base
 A:=X.A
 N:=N'
 s₀:=c.s
 H₀:=c.H
 env:=compEnvC scope c.cells c.C X.env
 outer:=X.stack
 stack:=X.stack
 ex:=c.fp
 fn:=fun x=>scope.names.lookup x == some .cell
 calm:=X.calm
 pn:=X.pn++c.pins
 xe:=fun _ _=>False
noncomputable def cSt (own:Nat) (ix:List Nat) (σ:St):St:=List.replicate own none++ix.map fun i=>(σ[i]?).join
section
variable {X:Cx} {pins:List (Addr × Obj)} {σ:St} {H:Hp} {s s4:Shared} {fp:List Addr} {scope:Scope} {N':List Str} {own:Nat} {ix:List Nat}
theorem Lo (I:Inv X pins σ H s) (f2:∀ b∈fp,BB X pins H b) (hob:∀ b∈fp,∃ o,s.heap.get? b=some o) (S:CompScope scope X.env.scope)
 (hlen:N'.length=own+ix.length) (hN:(N'.drop own).map some=ix.map (X.N[·]?)) (hfr:∀ x∈N'.drop own,scope.names.lookup x=some .free)
 {C:Addr} (hC:s.heap.objs.size < C) (k4:∀ b o,s.heap.get? b=some o->s4.heap.get? b=some o) (os4:s4.os=s.os) (g4:s4.gens=s.gens)
 (n4:∃ m,s4.heap.Ns C m) (own4:∀ x c,(x,c)∈cellsFrom (C+1) scope.names []->s4.heap.IsCell c none/\C+1<=c)
 (apart:(cellsFrom (C+1) scope.names []).Pairwise fun x y=>x.2≠y.2) :
 Inv (X.comp scope N' ⟨pins,cellsFrom (C+1) scope.names (Aq X.env.cells scope.names []),s,H,fp,C⟩) [] (cSt own ix σ) H s4:=by
 have hfree:∀ y∈scope.names,y.2=.free->∃ c,X.env.cells.lookup y.1=some c:=fun y hy h=>I.ok.has y.1 (S.fr y hy h)
 -- a cell of the block
 have cases:∀ x c,(cellsFrom (C+1) scope.names (Aq X.env.cells scope.names [])).lookup x=some c ->
  ((x,c)∈cellsFrom (C+1) scope.names []/\scope.names.lookup x=some .cell)\/((x,NameKind.free)∈scope.names/\X.env.cells.lookup x=some c):=fun x c h=>by
  rw [Cu,ER] at h
  cases e:(cellsFrom (C+1) scope.names []).lookup x with
  | some d =>
   rw [e] at h
   cases h
   have m:=mem_of_lookup e
   rcases cellsFrom_kind _ _ _ _ _ m with z | z
   ·exact absurd z (by simp)
   ·exact .inl ⟨m,Cf S.nd z⟩
  | none =>
   rw [e] at h
   rcases clOf_mem _ _ _ _ hfree (mem_of_lookup h) with z | z
   ·exact absurd z (by simp)
   ·exact .inr z
 have oldlt:∀ x c,X.env.cells.lookup x=some c->c < s.heap.objs.size:=fun x c e=>let ⟨v,q⟩:=I.cell x c e;q.lt
 have kin:∀ x,(D6 scope X.env.scope).names.lookup x=some .cell\/(D6 scope X.env.scope).names.lookup x=some .free->(scope.names.lookup x=some .cell\/scope.names.lookup x=some .free):=fun x h=>by
  rw [HD] at h
  cases e:scope.names.lookup x with
  | none=>rw [e] at h;simp at h
  | some k =>
   rw [e] at h
   cases k with
   | cell=>exact .inl rfl
   | free=>exact .inr rfl
   | _=>exact absurd h (by simp)
 have hCn:∀ b o,s.heap.get? b=some o->b≠C:=fun b o e z=>by have:=Heap.lt_size e;rw [z] at this;exact Nat.lt_irrefl _ (Nat.lt_trans this hC)
 have lk:∀ x,(x,NameKind.free)∈scope.names->∀ c,X.env.cells.lookup x=some c->(cellsFrom (C+1) scope.names (Aq X.env.cells scope.names [])).lookup x=some c:=fun x hx c hc=>by
  have hl:scope.names.lookup x=some .free:=Cf S.nd hx
  rw [Cu,ER,Ii (l:=cellsFrom (C+1) scope.names []) fun d hd=>?_]
  ·obtain ⟨d,hd⟩:=HC (Fz (cells:=X.env.cells) scope.names [] hx)
   rcases clOf_mem _ _ _ _ hfree (mem_of_lookup hd) with z | ⟨_,z⟩
   ·exact absurd z (by simp)
   ·rw [hc] at z;cases z;exact hd
  ·rcases cellsFrom_kind _ _ _ _ _ hd with z | z
   ·exact absurd z (by simp)
   ·rw [Cf S.nd z] at hl;cases hl
 refine ⟨⟨I.ok.mod,S.kind,I.ok.glob,I.ok.blt,Nat.le_of_lt hC,fun x y c hx hy=>?_,fun x hx=>?_,fun x c hf hx=>?_,I.ok.hd,I.ok.frames,.inl rfl,fun b hb=>⟨?_,fun x c hx=>?_⟩,fun b o e=>I.bs b o e,Nat.le_trans I.ok.bsz I.sz,fun b o e hb=>?_,fun b hb z=>?_,I.stack,I.stkFree⟩,
  os4,by rw [g4];exact I.bare,Un.kept k4,?_,fun x c hx=>?_,?_,fun x c hx=>?_,fun p hp=>?_,I.hok.kept k4,?_⟩
 ·-- inj
  rcases cases x c hx with ⟨m1,_⟩ | ⟨_,m1⟩ <;> rcases cases y c hy with ⟨m2,_⟩ | ⟨_,m2⟩
  ·exact name_of_addr apart m1 m2
  ·exact absurd (Nat.lt_of_lt_of_le (Nat.lt_trans (oldlt y c m2) hC) (Nat.le_of_succ_le (own4 x c m1).2)) (Nat.lt_irrefl _)
  ·exact absurd (Nat.lt_of_lt_of_le (Nat.lt_trans (oldlt x c m1) hC) (Nat.le_of_succ_le (own4 y c m2).2)) (Nat.lt_irrefl _)
  ·exact I.ok.inj x y c m1 m2
 ·-- has
  rcases kin x hx with h | h
  ·have q:=PySem.W.cellsFrom_some scope.names (C+1) (Aq X.env.cells scope.names []) (.inl h)
   exact Option.isSome_iff_exists.mp q
  ·obtain ⟨c,e⟩:=hfree (x,.free) (mem_of_lookup h) rfl
   exact ⟨c,lk x (mem_of_lookup h) c e⟩
 ·-- cab
  rcases cases x c hx with ⟨m1,_⟩ | ⟨m1,_⟩
  ·exact Nat.le_of_lt (Nat.lt_of_lt_of_le hC (Nat.le_of_succ_le (own4 x c m1).2))
  ·have hl:=Cf S.nd m1
   have hf':(scope.names.lookup x == some NameKind.cell)=true:=hf
   rw [hl] at hf';cases hf'
 ·obtain ⟨o,e⟩:=hob b hb
  exact hCn b o e
 ·intro z
  obtain ⟨o,e⟩:=hob b hb
  have hlt:=Heap.lt_size e
  rcases cases x c hx with ⟨m1,_⟩ | ⟨_,m1⟩
  ·subst z;exact absurd (Nat.lt_of_lt_of_le (Nat.lt_trans hlt hC) (Nat.le_of_succ_le (own4 x c m1).2)) (Nat.lt_irrefl _)
  ·exact (f2 b hb).2.2.2.2.1 x c m1 z
 ·-- noex
  have e1:=(I.ok.bs b o e).1
  rcases (f2 b hb).2.2.2.1 with z | z
  ·exact I.ok.noex b o e z
  ·exact absurd (Nat.lt_of_lt_of_le (Heap.lt_size e1) z) (Nat.lt_irrefl _)
 ·-- exfs
  rcases List.mem_cons.mp (I.stkSub b z) with e | z
  ·exact (f2 b hb).2.1 e
  ·exact (f2 b hb).2.2.1 z
 ·-- loc
  obtain ⟨m,hm⟩:=n4
  obtain ⟨m0,hn0,hl0⟩:=I.loc
  refine ⟨m,hm,fun i x v h1 h2 h3=>?_⟩
  have h1:N'[i]? = some x:=h1
  unfold cSt at h2
  by_cases hi:i < own
  ·rw [List.getElem?_append_left (by simpa using hi),List.getElem?_replicate] at h2
   split at h2 <;> cases h2
  ·rw [List.getElem?_append_right (by simpa using hi),List.length_replicate,List.getElem?_map] at h2
   obtain ⟨j,hj⟩:∃ j,i=own+j:=⟨i - own,by lia⟩
   subst hj
   rw [Nat.add_sub_cancel_left] at h2
   cases e:ix[j]? with
   | none=>rw [e] at h2;cases h2
   | some q =>
    rw [e] at h2
    have h2:some (σ[q]?).join=some (some v):=h2
    have h2:(σ[q]?).join=some v:=Option.some.inj h2
    have hσ:σ[q]? = some (some v):=by
     cases eq:σ[q]? with
     | none=>rw [eq] at h2;cases h2
     | some z=>rw [eq] at h2;simp at h2;rw [h2]
    have hx:(N'.drop own)[j]? = some x:=by rw [List.getElem?_drop];exact h1
    have hNq:X.N[q]? = some x:=by
     have:=congrArg (·[j]?) hN
     simp only [List.getElem?_map,hx,e,Option.map_some] at this
     exact (Option.some.inj this).symm
    have hfx:=hfr x (List.mem_of_getElem? hx)
    have hmem:=mem_of_lookup hfx
    have kx:=S.fr (x,.free) hmem rfl
    have vis:Vis X.env.scope x:=.inr kx
    obtain ⟨u,r,l⟩:=hl0 q x v hNq hσ vis
    refine ⟨u,r,?_⟩
    rcases l with ⟨k,_⟩ | ⟨k,c,hc,z⟩
    ·exfalso
     have k':X.env.scope.names.lookup x=some .local:=k
     rcases kx with kx | kx
     ·rw [show X.env.scope.names.lookup x=some .cell from kx] at k';cases k'
     ·rw [show X.env.scope.names.lookup x=some .free from kx] at k';cases k'
    ·refine .inr ⟨?_,c,lk x hmem c hc,z.keeps k4⟩
     show (D6 scope X.env.scope).names.lookup x=some .cell\/(D6 scope X.env.scope).names.lookup x=some .free
     rw [HD,hfx]
     by_cases hc:(NameKind.free == .free && X.env.scope.kind == .function && X.env.scope.names.lookup x == some .cell)=true
     ·exact .inl (by rw [Option.map_some,if_pos hc])
     ·exact .inr (by rw [Option.map_some,if_neg hc])
 ·rcases cases x c hx with ⟨m1,_⟩ | ⟨_,m1⟩
  ·exact ⟨_,(own4 x c m1).1⟩
  ·obtain ⟨v,q⟩:=I.cell x c m1
   exact ⟨v,q.keeps k4⟩
 ·exact I.hok.fresh (Nat.le_of_lt hC)
 ·rcases cases x c hx with ⟨m1,_⟩ | ⟨_,m1⟩
  ·exact I.hok.fresh (Nat.le_of_lt (Nat.lt_of_lt_of_le hC (Nat.le_of_succ_le (own4 x c m1).2)))
  ·exact I.freeC x c m1
 ·have hp:p∈X.pn++pins:=by
   have:p∈(X.pn++pins)++[]:=hp
   rwa [List.append_nil] at this
  obtain ⟨e,n,ne,nf,d⟩:=I.pin p hp
  refine ⟨k4 _ _ e,n,hCn _ _ e,fun z=>?_,d⟩
  rcases List.mem_cons.mp (I.stkSub _ z) with q | q
  ·exact ne q
  ·exact nf q
 ·unfold cSt
  rw [List.length_append,List.length_replicate,List.length_map]
  exact hlen.symm
end
section
variable {prog:Program} {w:World} {A:Around} {R:Result->Shared->Prop} {s:Shared}
theorem OT {elt target iter:Expr} {ifs:List Expr} {scope:Scope} {pos:Pos} {it acc:Value} {env:Env} (I:Nat->Shared->Prop)
 (turn:∀ n s,I n s->wpAny (model prog w) A (pyNext it) (fun r s₁=>match r with
   | none=>R (.ok .next) s₁
   | some v=>wpAny (model prog w) A (letOwnedTupleGo target it v) (fun _ s₁'=>wpAny (model prog w) A (assign target env v) (fun _ s₂ =>
    wpAny (model prog w) A (forIn ifs true fun c r=>if r=true then do let ok <- isTrue c env (eval c env);pure (ForInStep.yield ok) else pure (ForInStep.yield r)) (fun ok s₃ =>
     if ok=true then wpAny (model prog w) A (eval elt env) (fun x s₄ =>
      wpAny (model prog w) A (call (.builtin "list.append") [acc,x]) (fun _ s₅=>∃ m,m < n/\I m s₅) (fun _ _=>False) s₄) (fun _ _=>False) s₃
     else ∃ m,m < n/\I m s₃) (fun _ _=>False) s₂) (fun _ _=>False) s₁') (fun _ _=>False) s₁) (fun _ _=>False) s)
 (n:Nat) (h:I n s) :
 codeAny (model prog w) A (.compLoop (.ListComp elt [⟨target,iter,ifs,0⟩] scope pos) 0 it acc env) R s:=by
 refine codeAny_loop rfl I (fun n s hI=>?_) n h
 show wpAny _ A ((compTurn (.ListComp elt [⟨target,iter,ifs,0⟩] scope pos) 0 it acc env).onRaise (fun x=>do noteFrame x env;theTreesLotGoes x)) _ _ s
 refine wpAny_noted ?_
 rw [compTurn_list]
 refine wpAny_bind (wpAny_standAt (wpAny_bind (wpAny_mono (turn n s hI) (fun r s₁ h₁=>?_) fun _ _ h'=>h'.elim)))
 cases r with
 | none=>exact wpAny_pure h₁
 | some v =>
  refine wpAny_bind (wpAny_mono h₁ (fun _ s₁' h₁'=>?_) fun _ _ h'=>h'.elim)
  refine wpAny_bind (wpAny_mono h₁' (fun _ s₂ h₂=>wpAny_bind (wpAny_mono h₂ (fun ok s₃ h₃=>?_) fun _ _ h'=>h'.elim)) fun _ _ h'=>h'.elim)
  cases ok with
  | false=>exact wpAny_pure ⟨rfl,h₃⟩
  | true =>
   exact wpAny_bind (wpAny_bind (wpAny_mono h₃ (fun x s₄ h₄=>wpAny_bind (wpAny_mono h₄ (fun _ s₅ h₅=>wpAny_pure (wpAny_pure ⟨rfl,h₅⟩)) fun _ _ h'=>h'.elim)) fun _ _ h'=>h'.elim))
end
noncomputable def PTs (X:Cx) (ifs:List Expr) (t:TT):Prop :=
 ∀ (pins:List (Addr × Obj)) (s:Shared) (σ:St) (H:Hp) (Q:Bool->Hp->Prop),Inv X pins σ H s->t σ H Q ->
  wpAny (model X.prog X.w) X.A (forIn ifs true fun c r=>if r=true then do let ok <- isTrue c X.env (eval c X.env);pure (ForInStep.yield ok) else pure (ForInStep.yield r)) (TP X pins σ Q) X.xe s
noncomputable def Pa:TT:=fun _ H Q=>Q true H
theorem Au {X:Cx}:PTs X [] Pa:=fun _ _ _ H _ I h=>wpAny_tests_nil ⟨H,I,h⟩
theorem HJ {X:Cx} {c:Expr} {t:TT} (h:PT X c t):PTs X [c] t:=fun pins s σ H Q I hq=>wpAny_tests_one (h pins s σ H Q I hq)
noncomputable def CK (own:Nat) (g:TG):Prop:=∀ x σ H Q,g x σ H Q->g x σ H fun σ' H'=>(σ'.length=σ.length/\∀ i,own<=i->σ'[i]? = σ[i]?)/\Q σ' H'
noncomputable def EV (own:Nat) (g:TGs):Prop:=∀ x σ H Q,g x σ H Q->g x σ H fun σ' H'=>(σ'.length=σ.length/\∀ i,own<=i->σ'[i]? = σ[i]?)/\Q σ' H'
theorem Ad {own i:Nat} (h:i < own):CK own (AY i):=fun x σ H Q q =>
 ⟨⟨by simp,fun j hj=>by rw [List.getElem?_set_ne (by lia)]⟩,q⟩
theorem DV {own:Nat}:EV own Fc:=fun x σ H Q ⟨e,q⟩=>⟨e,⟨rfl,fun _ _=>rfl⟩,q⟩
noncomputable def DY (g:TG):Prop:=∀ x σ H (Q Q':St->Hp->Prop),(∀ σ H,Q σ H->Q' σ H)->g x σ H Q->g x σ H Q'
noncomputable def ET (g:TGs):Prop:=∀ x σ H (Q Q':St->Hp->Prop),(∀ σ H,Q σ H->Q' σ H)->g x σ H Q->g x σ H Q'
theorem As {i:Nat}:DY (AY i):=fun _ _ _ _ _ h q=>h _ _ q
theorem BE:ET Fc:=fun _ _ _ _ _ h ⟨e,q⟩=>⟨e,h _ _ q⟩
theorem Cc {t:TG} {u:TGs} (h1:DY t) (h2:ET u):ET (Fu t u):=fun _ _ _ _ _ h ⟨v,r,e,q⟩=>⟨v,r,e,h1 _ _ _ _ _ (fun _ _ q=>h2 _ _ _ _ _ h q) q⟩
theorem BK {own:Nat} {t:TG} {u:TGs} (m:DY t) (mu:ET u) (h1:CK own t) (h2:EV own u):EV own (Fu t u):=fun x σ H Q ⟨v,r,e,q⟩ =>
 ⟨v,r,e,m _ _ _ _ _ (fun σ' H' ⟨⟨e1,e2⟩,q⟩=>mu _ _ _ _ _ (fun σ'' H'' ⟨⟨e3,e4⟩,q⟩=>⟨⟨e3.trans e1,fun i hi=>(e4 i hi).trans (e2 i hi)⟩,q⟩) (h2 r σ' H' Q q)) (h1 v σ H _ q)⟩
theorem Dg {own:Nat} {K:W.Frag} {n:Nat} {t:TGs} (h:EV own t):CK own (GW K n t):=fun x σ H Q ⟨a,xs,e,s,l,q⟩=>⟨a,xs,e,s,l,h _ _ _ _ q⟩
theorem NT {own:Nat} {ix:List Nat} {σ:St} {i:Nat} {v:V} (h:(cSt own ix σ)[i]? = some (some v)):own<=i:=by
 unfold cSt at h
 by_cases hi:i < own
 ·rw [List.getElem?_append_left (by simpa using hi),List.getElem?_replicate] at h
  split at h <;> cases h
 ·lia
noncomputable def CU (J:It) (g:TG) (tc:TT) (te:TE) (σc:St) (Q:VK) (H1:Hp):Prop :=
 ∃ W:Nat->Nat->List V->Hp->Prop,(∃ m,W 0 m [] H1)/\∀ i m ys H,W i m ys H ->
  (J.stop i H/\∀ p,H p=none->Q (.ref p) (upd H p (.lst ys))) \/
  (J.go i H/\ys.length < sizeLine/\∃ N:List V->Hp->Prop,(∀ ys' H',N ys' H'->∃ m',m' < m/\W (i+1) m' ys' H')/\∀ x H',J.yld i H x H'->g x σc H' fun σ4 H4=>tc σ4 H4 fun b H5 =>
    if b=true then te σ4 H5 fun y H6=>N (ys++[y]) H6 else N ys H5)
noncomputable def Dr (wi:TI) (own:Nat) (ix:List Nat) (g:TG) (tc:TT) (te:TE):TE:=fun σ H Q=>wi σ H fun J H1=>CU J g tc te (cSt own ix σ) Q H1
section
variable {X:Cx} {pins:List (Addr × Obj)} {σ:St} {H:Hp} {s:Shared} {fp:List Addr} {it:Addr} {tn:Nat->Heap->Prop} {J:It} {tg iter elt:Expr} {ifs:List Expr} {scope:Scope} {pos:Pos} {N':List Str} {own:Nat} {ix:List Nat} {g:TG} {tc:TT} {te:TE} {Q:VK} {E:Value->Shared->Prop}
theorem Gc (I:Inv X pins σ H s) (T:Turn X.prog X.w X.K tg J fp it tn) (st:tn 0 s.heap) (f2:∀ b∈fp,BB X pins H b) (hc:X.calm=true) (S:CompScope scope X.env.scope)
 (hlen:N'.length=own+ix.length) (hN:(N'.drop own).map some=ix.map (X.N[·]?)) (hfr:∀ x∈N'.drop own,scope.names.lookup x=some .free)
 (hg:∀ c,PG (X.comp scope N' c) tg g) (hgo:CK own g) (ht:∀ c,PTs (X.comp scope N' c) ifs tc) (he:∀ c,PE (X.comp scope N' c) elt te)
 (hq:CU J g tc te (cSt own ix σ) Q H) {RR:Value->Addr->Result->Shared->Prop}
 (fin:∀ (D C:Addr) (s':Shared) (H':Hp) (ys:List V) (its:List Value) (n:Nat),s'.os=s.os->AllBare s'.gens->Un (frs X.stack) fp H H' s.heap s'.heap->HOk X.prog X.w H' s'.heap->(∃ m,s'.heap.Ns C m)->H' C=none->s.heap.objs.size<=C ->
   H' D=none->s.heap.objs.size<=D->D≠C->s'.heap.get? D=some { cls:=.type "list",data:=.seq its.toArray n } -> Vals ys its->ys.length<=sizeLine->(∀ p,H' p=none->Q (.ref p) (upd H' p (.lst ys)))->RR (.ref D) C (.ok .next) s') :
 wpAny (model X.prog X.w) X.A (newList []) (fun acc s₃=>wpAny (model X.prog X.w) X.A (newFunctionEnv scope X.env.globals (Aq X.env.cells scope.names []) [] X.env.qual none .none (some X.env)) (fun cenv s₄ =>
  codeAny (model X.prog X.w) X.A (.compStart (.ListComp elt [⟨tg,iter,ifs,0⟩] scope pos) 0 (.ref it) acc { cenv with scope:=relabel scope X.env }) (RR acc cenv.locals) s₄) E s₃) E s:=by
 obtain ⟨W,⟨m0,w0⟩,turn⟩:=hq
 have hob:∀ b∈fp,∃ o,s.heap.get? b=some o:=fun b hb=>let ⟨o,e,_⟩:=T.obj 0 _ st b hb;⟨o,e⟩
 refine wpAny_newObj_type ?_
 generalize hH1:s.heap.push { cls:=.type "list",dict:=none,data:=.seq ([]:List Value).toArray } = h1
 have hs1:h1.objs.size=s.heap.objs.size+1:=by rw [<- hH1,Heap.size_push]
 have k1:∀ b o,s.heap.get? b=some o->h1.get? b=some o:=fun b o e=>by rw [<- hH1];exact Heap.get?_push_of_some _ e
 have d1:h1.get? s.heap.objs.size=some { cls:=.type "list",data:=.seq ([]:List Value).toArray }:=by rw [<- hH1];exact Heap.get?_push_size _ rfl
 simp only [newFunctionEnv,Option.isSome_some,if_true]
 refine wpAny_bind (wpAny_alloc ?_)
 generalize hH2:(({ s with heap:=h1 }:Shared).heap.push { cls:=.type "dict",data:=.dict #[] })=h2
 have hH2':h1.push { cls:=.type "dict",data:=.dict #[] } = h2:=hH2
 have hs2:h2.objs.size=h1.objs.size+1:=by rw [<- hH2',Heap.size_push]
 have k2:∀ b o,h1.get? b=some o->h2.get? b=some o:=fun b o e=>by rw [<- hH2'];exact Heap.get?_push_of_some _ e
 have n2:h2.Ns h1.objs.size (fun _=>none):=by rw [<- hH2'];exact Heap.Ns.new h1 (.type "dict")
 refine wpAny_bind (wpAny_layCells _ (fun name kind cells=>by cases hkc:kind == NameKind.cell <;> simp [hkc]) _ _ _ _ ?_)
 have ok:=cellsFrom_ok scope.names h2 (h1.objs.size+1) [] ⟨fun _ _ hm=>(nomatch hm),List.Pairwise.nil⟩ (by rw [hs2];exact Nat.le_refl _)
 rw [hs2] at ok
 show wpAny _ _ (forIn ([]:List (Str × Value)) PUnit.unit _ >>= _) _ _ _
 rw [List.forIn_nil]
 refine wpAny_bind (wpAny_pure (wpAny_pure ?_))
 show codeAny _ _ (.compStart _ 0 (.ref it) (.ref s.heap.objs.size) (compEnvC scope (cellsFrom h2.objs.size scope.names (Aq X.env.cells scope.names [])) h1.objs.size X.env)) (RR (.ref s.heap.objs.size) h1.objs.size) { s with heap:=pushCells h2 scope.names }
 rw [hs2]
 generalize hH3:pushCells h2 scope.names=h3 at ok ⊢
 have k3:∀ b o,h2.get? b=some o->h3.get? b=some o:=fun b o e=>by rw [<- hH3];exact pushCells_keeps _ _ b o e
 have kk:∀ b o,s.heap.get? b=some o->h3.get? b=some o:=fun b o e=>k3 b o (k2 b o (k1 b o e))
 have d3:h3.get? s.heap.objs.size=some { cls:=.type "list",data:=.seq ([]:List Value).toArray }:=k3 _ _ (k2 _ _ d1)
 have hC:s.heap.objs.size < h1.objs.size:=by rw [hs1];exact Nat.lt_succ_self _
 have I3:Inv (X.comp scope N' ⟨pins,cellsFrom (h1.objs.size+1) scope.names (Aq X.env.cells scope.names []),s,H,fp,h1.objs.size⟩) [] (cSt own ix σ) H { s with heap:=h3 } :=
  Lo (s4:={ s with heap:=h3 }) I f2 hob S hlen hN hfr hC kk rfl rfl ⟨_,n2.keeps k3⟩ (fun x c hm=>ok.empty x c hm) ok.apart
 generalize hcs:cellsFrom (h1.objs.size+1) scope.names (Aq X.env.cells scope.names [])=cs at I3 ⊢
 generalize hCC:h1.objs.size=C at *
 generalize hDD:s.heap.objs.size=D at *
 have hY:=I3.ok
 -- what is fixed of the records
 have sD:D≠C/\(∀ x c,cs.lookup x=some c->c≠D)/\D∉frs X.stack/\∀ p∈X.pn++pins,p.1≠D:=by
  refine ⟨Nat.ne_of_lt hC,fun x c e z=>?_,fun z=>?_,fun p hp z=>?_⟩
  ·subst z
   have e':=e
   rw [<- hcs,Cu,ER] at e'
   cases q:(cellsFrom (C+1) scope.names []).lookup x with
   | some d =>
    rw [q] at e';cases e'
    have:=(ok.empty x c (mem_of_lookup q)).2
    exact absurd (Nat.lt_of_lt_of_le hC (Nat.le_of_succ_le this)) (Nat.lt_irrefl _)
   | none =>
    rw [q] at e'
    have hfree:∀ y∈scope.names,y.2=.free->∃ c,X.env.cells.lookup y.1=some c:=fun y hy h=>I.ok.has y.1 (S.fr y hy h)
    rcases clOf_mem _ _ _ _ hfree (mem_of_lookup e') with z | ⟨_,z⟩
    ·exact absurd z (by simp)
    ·obtain ⟨v,q⟩:=I.cell x c z
     have:=q.lt
     rw [hDD] at this
     exact Nat.lt_irrefl _ this
  ·exact (I3.nofs (a:=D) (by exact absurd z (by
    intro z'
    obtain ⟨_,o,ho,_⟩:=(show s.heap.FunFrames X.base X.stack from I.stack).mem z'
    have:=Heap.lt_size ho
    rw [hDD] at this
    exact Nat.lt_irrefl _ this))) z
  ·have:=Heap.lt_size (I.pin p hp).1
   rw [z,hDD] at this
   exact Nat.lt_irrefl _ this
 have stat:∀ {H':Hp},(∀ b∈fp,H' b=none)->∀ b∈fp,BB (X.comp scope N' ⟨pins,cs,s,H,fp,C⟩) [] H' b:=fun {H'} hn b hb=>by
  refine ⟨hn b hb,(hY.exf b hb).1,hY.exfs b hb,.inl hb,(hY.exf b hb).2,fun p hp=>?_⟩
  have hp:p∈(X.pn++pins)++[]:=hp
  rw [List.append_nil] at hp
  exact (f2 b hb).2.2.2.2.2 p hp
 have statD:∀ {H':Hp},H' D=none->BB (X.comp scope N' ⟨pins,cs,s,H,fp,C⟩) [] H' D:=fun {H'} hn=>by
  refine ⟨hn,sD.1,sD.2.2.1,.inr (Nat.le_of_eq hDD),sD.2.1,fun p hp=>?_⟩
  have hp:p∈(X.pn++pins)++[]:=hp
  rw [List.append_nil] at hp
  exact sD.2.2.2 p hp
 have loop:codeAny (model X.prog X.w) X.A (.compLoop (.ListComp elt [⟨tg,iter,ifs,0⟩] scope pos) 0 (.ref it) (.ref D) (compEnvC scope cs C X.env)) (RR (.ref D) C) { s with heap:=h3 }:=by
  refine OT (fun n s'=>∃ (i:Nat) (H':Hp) (ys:List V) (its:List Value) (k:Nat),Inv (X.comp scope N' ⟨pins,cs,s,H,fp,C⟩) [] (cSt own ix σ) H' s'/\tn i s'.heap/\(∀ b∈fp,H' b=none)/\H' D=none /\
   s'.heap.get? D=some { cls:=.type "list",data:=.seq its.toArray k } /\ Vals ys its/\ys.length<=sizeLine/\W i n ys H') ?_ m0
   ⟨0,H,[],[],0,I3,T.keep _ _ _ st fun b _ o e=>kk b o e,fun b hb=>(f2 b hb).1,I.hok.fresh (Nat.le_of_eq hDD),d3,.nil,Nat.zero_le _,w0⟩
  rintro n s4 ⟨i,H4,ys,its,k,I4,st4,fr4,dn4,d4,rv4,z4,w4⟩
  rcases turn i n ys H4 w4 with ⟨stop,qn⟩ | ⟨go,zl,N,hN2,step⟩
  ·have ID:=I4.pinned (fp:=[D]) (fun b hb=>by rw [List.mem_singleton.mp hb];exact statD dn4) (fun b hb=>by rw [List.mem_singleton.mp hb];exact ⟨_,d4,fun v z=>nomatch z⟩)
   have nD:∀ b∈fp,b≠D:=fun b hb z=>by
    obtain ⟨o,e⟩:=hob b hb
    have:=Heap.lt_size e
    rw [z,hDD] at this
    exact Nat.lt_irrefl _ this
   have stat':∀ b∈fp,BB (X.comp scope N' ⟨pins,cs,s,H,fp,C⟩) ([]++BJ [D] s4.heap) H4 b:=fun b hb=>by
    obtain ⟨q1,q2,q3,q4,q5,q6⟩:=stat fr4 b hb
    refine ⟨q1,q2,q3,q4,q5,fun p hp=>?_⟩
    rcases List.mem_append.mp hp with z | z
    ·exact q6 p (List.mem_append_left _ z)
    ·have:=(Fy (by simpa using z:p∈BJ [D] s4.heap)).1
     rw [List.mem_singleton.mp this]
     exact fun z=>nD b hb z.symm
   refine thn (T.done (X.comp scope N' ⟨pins,cs,s,H,fp,C⟩) rfl rfl rfl hc i _ s4 _ H4 (fun _ _=>False) ID stat' st4 stop) fun r s5 ⟨hr,I5⟩=>?_
   subst hr
   obtain ⟨m,hm,_⟩:=I5.loc
   refine fin D C s5 H4 ys its k I5.os I5.bare I5.base I5.hok ⟨m,hm⟩ I5.free (Nat.le_of_lt hC) dn4 (Nat.le_refl _) sD.1 ?_ rv4 z4 qn
   ·exact (I5.pin (D,_) (List.mem_append_right _ (List.mem_append_right _ (Cg (List.mem_singleton.mpr rfl) d4)))).1
  ·have nD:∀ b∈fp,b≠D:=fun b hb z=>by
    obtain ⟨o,e⟩:=hob b hb
    have:=Heap.lt_size e
    rw [z,hDD] at this
    exact Nat.lt_irrefl _ this
   have ID:=I4.pinned (fp:=[D]) (fun b hb=>by rw [List.mem_singleton.mp hb];exact statD dn4) (fun b hb=>by rw [List.mem_singleton.mp hb];exact ⟨_,d4,fun v z=>nomatch z⟩)
   have statP:∀ {H':Hp},(∀ b∈fp,H' b=none)->∀ b∈fp,BB (X.comp scope N' ⟨pins,cs,s,H,fp,C⟩) ([]++BJ [D] s4.heap) H' b:=fun {H'} hn b hb=>by
    obtain ⟨q1,q2,q3,q4,q5,q6⟩:=stat hn b hb
    refine ⟨q1,q2,q3,q4,q5,fun p hp=>?_⟩
    rcases List.mem_append.mp hp with z | z
    ·exact q6 p (List.mem_append_left _ z)
    ·have:=(Fy (by simpa using z:p∈BJ [D] s4.heap)).1
     rw [List.mem_singleton.mp this]
     exact fun z=>nD b hb z.symm
   refine thn (T.item (X.comp scope N' ⟨pins,cs,s,H,fp,C⟩) rfl rfl rfl hc i _ s4 _ H4 (fun _ _=>False) ID (statP fr4) st4 go) fun r s5 ⟨u,hr,h5⟩=>?_
   subst hr
   refine thn h5 fun _ s6 ⟨x,H6,I6,r6,y6,st6,fr6⟩=>?_
   have I6':=I6.pinned (statP fr6) (T.obj _ _ st6)
   refine thn (hg _ _ s6 _ H6 x u _ I6' r6 (hgo _ _ _ _ (step x H6 y6))) fun _ s7 ⟨σ7,H7,I7,⟨e7,k7⟩,q7⟩=>?_
   have I7':Inv (X.comp scope N' ⟨pins,cs,s,H,fp,C⟩) ([]++BJ [D] s4.heap++BJ fp s6.heap) σ7 H7 s7:=I7
   refine thn (ht _ _ s7 σ7 H7 _ I7' q7) fun b s8 ⟨H8,I8,q8⟩=>?_
   -- what is kept through the turn
   have back:∀ {s9:Shared} {H9:Hp},Inv (X.comp scope N' ⟨pins,cs,s,H,fp,C⟩) ([]++BJ [D] s4.heap++BJ fp s6.heap) σ7 H9 s9 ->
    Inv (X.comp scope N' ⟨pins,cs,s,H,fp,C⟩) [] (cSt own ix σ) H9 s9/\tn (i+1) s9.heap/\(∀ b∈fp,H9 b=none)/\H9 D=none/\s9.heap.get? D=some { cls:=.type "list",data:=.seq its.toArray k }:=fun {s9 H9} I9=>by
    have pD:=I9.pin (D,_) (List.mem_append_right _ (List.mem_append_left _ (List.mem_append_right _ (Cg (List.mem_singleton.mpr rfl) d4))))
    refine ⟨I9.unpinned.unpinned.weak (by rw [e7]) fun j v hj=>?_,T.keep _ _ _ st6 fun b hb o e=>(I9.pin (b,o) (List.mem_append_right _ (List.mem_append_right _ (Cg hb e)))).1,fun b hb=>?_,pD.2.1,pD.1⟩
    ·rw [k7 j (NT hj)];exact hj
    ·obtain ⟨o,e,_⟩:=T.obj _ _ st6 b hb
     exact (I9.pin (b,o) (List.mem_append_right _ (List.mem_append_right _ (Cg hb e)))).2.1
   cases b with
   | false =>
    rw [if_neg Bool.false_ne_true] at q8
    obtain ⟨m',hm,w8⟩:=hN2 _ _ q8
    obtain ⟨b1,b2,b3,b4,b5⟩:=back I8
    exact ⟨m',hm,i+1,H8,ys,its,k,b1,b2,b3,b4,b5,rv4,z4,w8⟩
   | true =>
    rw [if_pos rfl] at q8
    rw [if_pos rfl]
    refine thn (he _ _ s8 σ7 H8 _ I8 q8) fun yv s9 ⟨y,H9,I9,r9,q9⟩=>?_
    obtain ⟨m',hm,w9⟩:=hN2 _ _ q9
    obtain ⟨b1,b2,b3,b4,b5⟩:=back I9
    have hl:=rv4.length
    refine call_meets F.slot_list_append ⟨_,b5,rfl⟩ F.entry_list_append (F.args_list_append_2 _ _) (PySem.list_append D its.toArray k yv (by rw [List.size_toArray];lia)) ⟨b5,?_⟩
    have up:=PySem.IsL.update b5 (fun a=>a.push yv)
    have keep:∀ b o,b≠D->s9.heap.get? b=some o->(s9.heap.update D (Obj.mapSeq fun a=>a.push yv)).get? b=some o:=fun b o hb q=>(Heap.get?_update_other _ _ (Ne.symm hb)).trans q
    obtain ⟨f0,f1,f2',f3,f4,f5⟩:=statD b4
    refine ⟨m',hm,i+1,H9,ys++[y],its++[yv],(if ((its.toArray.push yv).size == its.toArray.size)=true then k else k+1),b1.turned (t':=s9.toks) keep b4 f1 f3 f4 f5,?_,b3,b4,?_,rv4.append (.cons r9 .nil),?_,w9⟩
    ·exact T.keep _ _ _ b2 fun b hb o e=>keep b o (nD b hb) e
    ·have e2:(its.toArray.push yv)=(its++[yv]).toArray:=by simp
     rw [<- e2]
     exact up
    ·rw [List.length_append,List.length_singleton]
     lia
 exact codeAny_compStart_list loop (T.self X.A 0 _ _ _ (T.keep _ _ _ st fun b _ o e=>kk b o e) loop)
end
section
variable {X:Cx} {pins:List (Addr × Obj)} {σ:St} {H:Hp} {s:Shared} {fp:List Addr} {it:Addr} {tn:Nat->Heap->Prop} {J:It} {tg iter elt:Expr} {ifs:List Expr} {scope:Scope} {pos:Pos} {N':List Str} {own:Nat} {ix:List Nat} {g:TG} {tc:TT} {te:TE} {wi:TI} {E:Value->Shared->Prop}
theorem Iq {H':Hp} {s':Shared} {D:Addr} {ys:List V} {its:List Value} {n:Nat} (I:Inv X pins σ H s) (f2:∀ b∈fp,BB X pins H b) (ho:s'.os=s.os) (hg:AllBare s'.gens) (u:Un (frs X.stack) fp H H' s.heap s'.heap) (hok:HOk X.prog X.w H' s'.heap)
 (dn:H' D=none) (ds:s.heap.objs.size<=D) (d:s'.heap.get? D=some { cls:=.type "list",data:=.seq its.toArray n }) (rv:Vals ys its) (z:ys.length<=sizeLine):Inv X pins σ (upd H' D (.lst ys)) s':=by
 have nD:∀ b o,s.heap.get? b=some o->b≠D:=fun b o e q=>by rw [q,Heap.get?_none_of_le ds] at e;cases e
 have nH:∀ b o,H' b=some o->b≠D:=fun b o e q=>by rw [q,dn] at e;cases e
 refine I.call' (ch:=fp) ho ⟨u.keep,u.slot,fun b o e q hx=>?_,u.there,fun b xs e=>?_,fun b o v e=>?_,fun b ps e=>?_⟩ (fun b o e=>?_) hg fun b hb=>?_
 ·rw [AK (nD b o e)];exact u.free b o e q hx
 ·have:=u.tups b xs e
  rw [AK (nH _ _ this)];exact this
 ·have:=u.frzs b o v e
  rw [AK (nH _ _ this)];exact this
 ·obtain ⟨more,q⟩:=u.tbls b ps e
  exact ⟨more,by rw [AK (nH _ _ q)];exact q⟩
 ·by_cases hb:b=D
  ·subst hb
   rw [AD] at e
   cases e
   exact ⟨z,its,n,rv,d⟩
  ·rw [AK hb] at e
   exact (hok b o e).stay (fun _ _ _ q=>q) (fun c q=>by rw [AK (nH _ _ q)];exact q) fun c xs q=>by rw [AK (nH _ _ q)];exact q
 ·obtain ⟨q1,q2,q3,q4,q5,q6⟩:=f2 b hb
  exact ⟨q4,q2,q5,q6⟩
theorem Inv.dictGone {s':Shared} {h':Heap} {C:Addr} {H':Hp} {σ':St} (I:Inv X pins σ H s) (J:Inv X pins σ' H' s') (hC:s.heap.objs.size<=C) (hn:H' C=none) (k:Heap.SameBut C s'.heap h'):Inv X pins σ' H' { s' with heap:=h' }:=by
 have hC0:=Heap.get?_none_of_le hC
 refine J.turned (t':=s'.toks) (fun b o hb e=>(k.2 b hb).trans e) hn (fun z=>?_) (.inr (Nat.le_trans I.sz hC)) (fun x c e z=>?_) fun p hp z=>?_
 ·obtain ⟨m,⟨o,_,_,ho,_⟩,_⟩:=I.loc
  rw [<- z,hC0] at ho;cases ho
 ·obtain ⟨v,o,ho,_⟩:=I.cell x c e
  rw [z,hC0] at ho;cases ho
 ·have:=(I.pin p hp).1
  rw [z,hC0] at this;cases this
theorem O5 (hc:X.calm=true) (hi:PI X tg iter wi) (S:CompScope scope X.env.scope)
 (hlen:N'.length=own+ix.length) (hN:(N'.drop own).map some=ix.map (X.N[·]?)) (hfr:∀ x∈N'.drop own,scope.names.lookup x=some .free)
 (hg:∀ c,PG (X.comp scope N' c) tg g) (hgo:CK own g) (ht:∀ c,PTs (X.comp scope N' c) ifs tc) (he:∀ c,PE (X.comp scope N' c) elt te)
 (hs:∀ x,foldedSetIterable iter X.env x=pure x:=by intro _;rfl):PE X (.ListComp elt [⟨tg,iter,ifs,0⟩] scope pos) (Dr wi own ix g tc te):=by
 intro pins s σ H Q I h
 rw [eval_ListComp]
 have hfree:∀ y∈scope.names,y.2=.free->∃ c,X.env.cells.lookup y.1=some c:=fun y hy h=>I.ok.has y.1 (S.fr y hy h)
 refine wpAny_comprehension_free (use:=none) rfl hs (Ib hfree) S.kind (fun y hy hl=>Cf S.nd (by rw [<- hl];exact hy)) ?_
 refine thn (hi pins s σ H _ I h) fun v s1 h1=>thn h1 fun itv s2 h2=>?_
 obtain ⟨it,fp,tn,J,H2,e,I2,T,st2,f2,q2⟩:=h2
 subst e
 refine Gc (RR:=fun acc C=>compPost (model X.prog X.w) X.A X.xe none (EP X pins σ Q) acc C) I2 T st2 f2 hc S hlen hN hfr hg hgo ht he q2 ?_
 intro D C s' H' ys its n ho hgn u hok hm hC hCs hD hDs hDC d rv z q
 obtain ⟨m,hm⟩:=hm
 have I3:=Iq I2 f2 ho hgn u hok hD hDs d rv z
 refine ⟨m,hm,fun h' hs'=>?_⟩
 exact ⟨.ref D,_,I2.dictGone I3 hCs (by rw [AK (Ne.symm hDC)];exact hC) hs',rfl,q D hD⟩
theorem Ng {i:Nat} {y:Str} {py spos:Pos} (hc:X.calm=true) (hnd:X.N.Nodup) (hiy:X.N[i]? = some y) (hy:X.env.scope.names.lookup y=some .local) (hi:PI X tg iter wi) (S:CompScope scope X.env.scope)
 (hlen:N'.length=own+ix.length) (hN:(N'.drop own).map some=ix.map (X.N[·]?)) (hfr:∀ x∈N'.drop own,scope.names.lookup x=some .free)
 (hg:∀ c,PG (X.comp scope N' c) tg g) (hgo:CK own g) (ht:∀ c,PTs (X.comp scope N' c) ifs tc) (he:∀ c,PE (X.comp scope N' c) elt te)
 (hsw:swapsWith (.ListComp elt [⟨tg,iter,ifs,0⟩] scope pos) (some (.Name y py)) spos.line X.env=pure true)
 (hs:∀ x,foldedSetIterable iter X.env x=pure x:=by intro _;rfl):PS X (.Assign [.Name y py] (.ListComp elt [⟨tg,iter,ifs,0⟩] scope pos) spos) (DL (Dr wi own ix g tc te) (AY i)):=by
 intro pins s σ H D I h
 rw [exec_Assign_Name_used _ _ _ _ hsw]
 refine wpAny_bind (wpAny_standAt (wpAny_bind ?_))
 show wpAny _ _ (do let _ <- comprehension (.ListComp elt [⟨tg,iter,ifs,0⟩] scope pos) scope X.env _ (newList []) false (eval iter X.env) (some (assign (.Name y py) X.env))) _ _ s
 have hfree:∀ y∈scope.names,y.2=.free->∃ c,X.env.cells.lookup y.1=some c:=fun y hy h=>I.ok.has y.1 (S.fr y hy h)
 refine wpAny_bind (wpAny_mono (wpAny_comprehension_free (use:=some (assign (.Name y py) X.env)) (Q:=fun _ s'=>SP X pins D .next s') rfl hs (Ib hfree) S.kind (fun y hy hl=>Cf S.nd (by rw [<- hl];exact hy)) ?_) (fun _ s' hq=>wpAny_pure (wpAny_pure hq)) fun _ _ e=>e)
 refine thn (hi pins s σ H _ I h) fun v s1 h1=>thn h1 fun itv s2 h2=>?_
 obtain ⟨it,fp,tn,J,H2,e,I2,T,st2,f2,q2⟩:=h2
 subst e
 refine Gc (RR:=fun acc C=>compPost (model X.prog X.w) X.A X.xe (some (assign (.Name y py) X.env)) (fun _ s'=>SP X pins D .next s') acc C) I2 T st2 f2 hc S hlen hN hfr hg hgo ht he q2 ?_
 intro d C s' H' ys its n ho hgn u hok hm hC hCs hD hDs hDC hd rv z q
 obtain ⟨m,hm⟩:=hm
 have I3:=Iq I2 f2 ho hgn u hok hD hDs hd rv z
 show wpAny _ _ (assign (.Name y py) X.env (.ref d)) _ _ s'
 have hCn:(upd H' d (.lst ys)) C=none:=by rw [AK (Ne.symm hDC)];exact hC
 refine wpAny_assign_Name (JI I3 hnd hiy (.inl hy) (v:=.ref d) rfl (fun s3 I4 ⟨a,sb,ha⟩=>?_) (.inr hy))
 have ha':a≠C:=fun e=>by
  have hC0:=Heap.get?_none_of_le hCs
  rcases ha with z | z
  ·obtain ⟨m,⟨o,_,_,ho,_⟩,_⟩:=I2.loc
   rw [<- z,e,hC0] at ho;cases ho
  ·obtain ⟨v,o,ho,_⟩:=I2.cell y a z
   rw [e,hC0] at ho;cases ho
 refine ⟨m,hm.sameBut sb (Ne.symm ha'),fun h' hs'=>?_⟩
 exact ⟨_,_,I2.dictGone I4 hCs hCn hs',q d hD⟩
end
section
variable {X:Cx}
theorem PE.imp {e:Expr} {t t':TE} (h:PE X e t) (f:∀ σ H Q,t' σ H Q->t σ H Q):PE X e t':=fun pins s σ H Q I q=>h pins s σ H Q I (f σ H Q q)
theorem OpR.imp {f:Value->Value->Sem Value} {r r':R2} (h:OpR X f r) (g:∀ x y H Q,r' x y H Q->r x y H Q):OpR X f r':=fun pins s σ H x y v u Q I rx ry q=>h pins s σ H x y v u Q I rx ry (g _ _ _ _ q)
theorem CallR.imp {f:Value} {r r':List V->Hp->VK->Prop} (h:CallR X f r) (g:∀ x H Q,r' x H Q->r x H Q):CallR X f r':=fun pins s σ H xs us Q I r q=>h pins s σ H xs us Q I r (g _ _ _ q)
noncomputable def Ei (i:Nat):TE:=fun σ H Q=>match σ[i]? with
 | some (some v)=>Q v H
 | _=>False
theorem vv (i:Nat) {x:Str} {pos:Pos} (hN:X.N[i]? = some x:=by rfl) (hv:Vis X.env.scope x:=by first | exact Or.inl rfl | exact Or.inr (Or.inl rfl) | exact Or.inr (Or.inr rfl)) (hd:(x == ("__debug__" : Str))=false:=by decide)
 (hcd:(x == ("__classdict__" : Str))=false:=by decide):PE X (.Name x pos) (Ei i):=(Mv hN hv hd hcd).imp fun σ H Q q=>by
 unfold Ei at q
 split at q
 ·rename_i v e;exact ⟨v,e,q⟩
 ·exact q.elim
noncomputable def okMul (i j:Int):Prop:=(i.natAbs < 2 ^ 4096/\j.natAbs < 2 ^ 4096)\/(-(2 ^ 64) < i/\i < 2 ^ 64)\/(-(2 ^ 64) < j/\j < 2 ^ 64)
theorem G5 {i:Int} (h:i.natAbs < 2 ^ 4096):Builtin.Int.intBits i<=2 ^ 20:=by
 unfold Builtin.Int.intBits
 split
 ·exact Nat.zero_le _
 ·rename_i hz
  have hne:i.natAbs≠0:=by
   have:¬ i=0:=by simpa using hz
   lia
  have:=(Nat.log2_lt hne).mpr h
  have e:(2:Nat) ^ 20=1048576:=by decide
  lia
theorem okMul.ok {i j:Int} (h:okMul i j):IntMulOk i j:=by
 rcases h with ⟨h1,h2⟩ | h | h
 ·exact .of_bits (G5 h1) (G5 h2)
 ·exact CMul.ok (.inl h)
 ·exact CMul.ok (.inr h)
noncomputable def okDiv (j:Int):Prop:=0 < j/\j < 2 ^ 4096
theorem okDiv.ok {i j:Int} (h:okDiv j):Builtin.divisionGoesByPylong i j=false:=by
 refine PyProof.noPylong_of_log2 ?_
 obtain ⟨h1,h2⟩:=h
 have hne:j.natAbs≠0:=by lia
 have h3:j.natAbs < 2 ^ 4096:=by
  have e:((j.natAbs:Int))=j:=by lia
  have h2':((j.natAbs:Nat):Int) < ((2 ^ 4096:Nat):Int):=by rw [e,Int.natCast_pow];exact h2
  exact Int.ofNat_lt.mp h2'
 have:=(Nat.log2_lt hne).mpr h3
 lia
noncomputable def Dx (K:W.Frag):R2:=fun x y H Q=>match x,y with
 | .int i,.int j=>Q (.int (i+j)) H
 | .str a,.str b=>a.length+b.length<=sizeLine/\Q (.str (a++b)) H
 | .ref a,.ref b=>Ic (.ref a) (.ref b) H Q\/Go K (.ref a) (.ref b) H Q
 | _,_=>False
theorem NS:OpR X (binaryOp .Add) (Dx X.K):=by
 intro pins s σ H x y v u Q I rx ry q
 cases x <;> cases y <;> first
  | exact False.elim q
  | exact Np pins s σ H _ _ v u Q I rx ry ⟨_,_,rfl,rfl,q⟩
  | exact MM pins s σ H _ _ v u Q I rx ry ⟨_,_,rfl,rfl,q.1,q.2⟩
  | (rcases q with q | q
     ·exact NF pins s σ H _ _ v u Q I rx ry q
     ·exact M8 pins s σ H _ _ v u Q I rx ry q)
noncomputable def GJ:R2:=fun x y H Q=>match x,y with
 | .int i,.int j=>Q (.int (i - j)) H
 | _,_=>False
theorem FU:OpR X (binaryOp .Sub) GJ:=by
 intro pins s σ H x y v u Q I rx ry q
 cases x <;> cases y <;> first
  | exact False.elim q
  | exact L7 pins s σ H _ _ v u Q I rx ry ⟨_,_,rfl,rfl,q⟩
noncomputable def GV:R2:=fun x y H Q=>match x,y with
 | .int i,.int j=>okMul i j/\Q (.int (i * j)) H
 | .ref a,.int k=>JC (.ref a) (.int k) H Q
 | _,_=>False
theorem BC:OpR X (binaryOp .Mult) GV:=by
 have hI:OpR X (binaryOp .Mult) (rI okMul fun i j=>.int (i * j)):=opI fun _ _ _ _ _ _ _ hc q=>mul_int q hc.ok
 intro pins s σ H x y v u Q I rx ry q
 cases x <;> cases y <;> first
  | exact False.elim q
  | exact hI pins s σ H _ _ v u Q I rx ry ⟨_,_,rfl,rfl,q.1,q.2⟩
  | exact Lz pins s σ H _ _ v u Q I rx ry q
noncomputable def GD:R2:=fun x y H Q=>match x,y with
 | .int i,.int j=>okDiv j/\Q (.int (i / j)) H
 | _,_=>False
theorem Bo:OpR X (binaryOp .FloorDiv) GD:=by
 have hI:OpR X (binaryOp .FloorDiv) (rI (fun _ j=>okDiv j) fun i j=>.int (i / j)):=opI fun i j _ _ _ _ _ hc q=>by
  refine floordiv_int (by have:=hc.1;lia) ?_ (.inl hc.ok)
  rw [Int.fdiv_eq_ediv_of_nonneg i (by have:=hc.1;lia)]
  exact q
 intro pins s σ H x y v u Q I rx ry q
 cases x <;> cases y <;> first
  | exact False.elim q
  | exact hI pins s σ H _ _ v u Q I rx ry ⟨_,_,rfl,rfl,q.1,q.2⟩
noncomputable def FE:R2:=fun x y H Q=>match x,y with
 | .int i,.int j=>0 < j/\Q (.int (i % j)) H
 | _,_=>False
theorem A8:OpR X (binaryOp .Mod) FE:=by
 intro pins s σ H x y v u Q I rx ry q
 cases x <;> cases y <;> first
  | exact False.elim q
  | exact Nc pins s σ H _ _ v u Q I rx ry ⟨_,_,rfl,rfl,q.1,q.2⟩
noncomputable def Fn:R2:=fun x y H Q=>match x,y with
 | .int i,.int j=>Hx i j/\Q (.int (i ^ j.toNat)) H
 | _,_=>False
theorem Im:OpR X (binaryOp .Pow) Fn:=by
 intro pins s σ H x y v u Q I rx ry q
 cases x <;> cases y <;> first
  | exact False.elim q
  | exact OE pins s σ H _ _ v u Q I rx ry ⟨_,_,rfl,rfl,q.1,q.2⟩
noncomputable def K4 (f:Int->Int->Int):R2:=fun x y H Q=>match x,y with
 | .int i,.int j=>Q (.int (f i j)) H
 | _,_=>False
theorem Jd:OpR X (binaryOp .BitAnd) (K4 Builtin.bitAnd):=by
 intro pins s σ H x y v u Q I rx ry q
 cases x <;> cases y <;> first
  | exact False.elim q
  | exact Ob pins s σ H _ _ v u Q I rx ry ⟨_,_,rfl,rfl,q⟩
noncomputable def GB:V->Hp->VK->Prop:=fun x H Q=>match x with
 | .int i=>Q (.int (-i)) H
 | _=>False
theorem CL:UnR X (unaryOp .USub) GB:=by
 intro pins s σ H x v Q I rx q
 cases x <;> first
  | exact False.elim q
  | exact OC pins s σ H _ v Q I rx ⟨_,rfl,q⟩
noncomputable def Es (p:Int->Int->Bool):R2:=fun x y H Q=>match x,y with
 | .int i,.int j=>Q (.bl (p i j)) H
 | _,_=>False
theorem DQ:OpR X (compareOp .Lt) (Es fun i j=>decide (i < j)):=by
 intro pins s σ H x y v u Q I rx ry q
 cases x <;> cases y <;> first
  | exact False.elim q
  | exact Nx pins s σ H _ _ v u Q I rx ry ⟨_,_,rfl,rfl,q⟩
theorem Ci:OpR X (compareOp .Gt) (Es fun i j=>decide (j < i)):=by
 intro pins s σ H x y v u Q I rx ry q
 cases x <;> cases y <;> first
  | exact False.elim q
  | exact Ov pins s σ H _ _ v u Q I rx ry ⟨_,_,rfl,rfl,q⟩
end
inductive Dv where
 | non | bl (b:Bool) | int (i:Int) | str (x:Str) | tup (ds:List Dv) | lst (ds:List Dv)
mutual
noncomputable def Rep (K:W.Frag) (H:Hp):Dv->V->Prop
 | .non,v=>v=.non
 | .bl b,v=>v=.bl b
 | .int i,v=>v=.int i
 | .str x,v=>v=.str x
 | .tup ds,v=>∃ a xs,v=.ref a/\SqT K H a xs/\Reps K H ds xs
 | .lst ds,v=>∃ a xs,v=.ref a/\SqL K H a xs/\Reps K H ds xs
noncomputable def Reps (K:W.Frag) (H:Hp):List Dv->List V->Prop
 | [],xs=>xs=[]
 | d::ds,xs=>∃ x r,xs=x::r/\Rep K H d x/\Reps K H ds r
end
mutual
noncomputable def eqD:Dv->Dv->Bool
 | .non,.non=>true
 | .bl a,.bl b=>a == b
 | .bl a,.int b=>(if a then 1 else 0) == b
 | .int a,.bl b=>a == (if b then 1 else 0)
 | .int a,.int b=>a == b
 | .str a,.str b=>a == b
 | .tup ds,.tup es=>A0 ds es
 | .lst ds,.lst es=>A0 ds es
 | _,_=>false
noncomputable def A0:List Dv->List Dv->Bool
 | [],[]=>true
 | d::ds,e::es=>eqD d e && A0 ds es
 | _,_=>false
end
mutual
noncomputable def An:Dv->Nat
 | .tup ds=>CB ds+1
 | .lst ds=>CB ds+1
 | _=>0
noncomputable def CB:List Dv->Nat
 | []=>0
 | d::ds=>max (An d) (CB ds)
end
theorem NE (ds es:List Dv):eqD (.tup ds) (.tup es)=A0 ds es:=by rw [eqD]
theorem FQ (ds es:List Dv):eqD (.lst ds) (.lst es)=A0 ds es:=by rw [eqD]
theorem Reps.length {K:W.Frag} {H:Hp}:∀ {ds:List Dv} {xs:List V},Reps K H ds xs->ds.length=xs.length
 | [],xs,h=>by unfold Reps at h;subst h;rfl
 | d::ds,xs,h=>by
  unfold Reps at h
  obtain ⟨x,r,rfl,_,h⟩:=h
  rw [List.length_cons,List.length_cons,Reps.length h]
theorem Reps.get {K:W.Frag} {H:Hp}:∀ {ds:List Dv} {xs:List V} {i:Nat} {d:Dv},Reps K H ds xs->ds[i]? = some d->∃ x,xs[i]? = some x/\Rep K H d x
 | [],_,_,_,_,e=>by simp at e
 | d::ds,xs,0,_,h,e=>by
  unfold Reps at h
  obtain ⟨x,r,rfl,h1,_⟩:=h
  simp at e;subst e
  exact ⟨x,rfl,h1⟩
 | d::ds,xs,i+1,_,h,e=>by
  unfold Reps at h
  obtain ⟨x,r,rfl,_,h⟩:=h
  obtain ⟨y,h1,h2⟩:=Reps.get (i:=i) h (by simpa using e)
  exact ⟨y,by simpa using h1,h2⟩
theorem JX {ds:List Dv} {i:Nat} {d:Dv} (h:ds[i]? = some d):An d<=CB ds:=by
 induction ds generalizing i with
 | nil=>simp at h
 | cons e es ih =>
  unfold CB
  cases i with
  | zero=>simp at h;subst h;lia
  | succ i=>have:=ih (i:=i) (by simpa using h);lia
theorem GN:∀ (ds es:List Dv),ds.length=es.length->A0 ds es=(List.range ds.length).all fun i=>match ds[i]?,es[i]? with | some d,some e=>eqD d e | _,_=>false
 | [],[],_=>by unfold A0;rfl
 | d::ds,e::es,h=>by
  unfold A0
  rw [List.length_cons,List.range_succ_eq_map,List.all_cons,List.all_map,GN ds es (by simpa using h)]
  congr 1
 | [],e::es,h=>by simp at h
 | d::ds,[],h=>by simp at h
theorem FS:∀ (ds es:List Dv),ds.length≠es.length->A0 ds es=false
 | [],[],h=>absurd rfl h
 | [],_::_,_=>by unfold A0;rfl
 | _::_,[],_=>by unfold A0;rfl
 | d::ds,e::es,h=>by unfold A0;rw [FS ds es (fun z=>h (by simp [z])),Bool.and_false]
mutual
theorem FV:∀ d:Dv,eqD d d=true
 | .non=>by unfold eqD;rfl
 | .bl b=>by unfold eqD;simp
 | .int i=>by unfold eqD;simp
 | .str x=>by unfold eqD;simp
 | .tup ds=>by unfold eqD;exact FI ds
 | .lst ds=>by unfold eqD;exact FI ds
theorem FI:∀ ds:List Dv,A0 ds ds=true
 | []=>by unfold A0;rfl
 | d::ds=>by unfold A0;rw [FV d,FI ds];rfl
end
section
variable {X:Cx} {pins:List (Addr × Obj)} {σ:St} {H:Hp} {s:Shared}
theorem HU {a:Addr} {xs ys:List V} (I:Inv X pins σ H s) (h:SqL X.K H a xs) (h':SqT X.K H a ys):False:=by
 obtain ⟨its,_,⟨o,n,e,c,_⟩,_⟩:=I.list h
 obtain ⟨its',_,⟨o',e',c',_⟩,_⟩:=I.tuple h'
 rw [e] at e';cases e'
 rw [c] at c'
 exact absurd c' (by decide)
mutual
theorem Ex (I:Inv X pins σ H s):∀ (d e:Dv) (x:V),Rep X.K H d x->Rep X.K H e x->d=e
 | .non,e,x,h,h'=>by
  unfold Rep at h;subst h
  cases e <;> unfold Rep at h' <;> first | rfl | (obtain ⟨a,xs,q,_⟩:=h';cases q;done) | (cases h';done)
 | .bl b,e,x,h,h'=>by
  unfold Rep at h;subst h
  cases e <;> unfold Rep at h' <;> first | (obtain ⟨a,xs,q,_⟩:=h';cases q;done) | (cases h';rfl) | (cases h';done)
 | .int b,e,x,h,h'=>by
  unfold Rep at h;subst h
  cases e <;> unfold Rep at h' <;> first | (obtain ⟨a,xs,q,_⟩:=h';cases q;done) | (cases h';rfl) | (cases h';done)
 | .str b,e,x,h,h'=>by
  unfold Rep at h;subst h
  cases e <;> unfold Rep at h' <;> first | (obtain ⟨a,xs,q,_⟩:=h';cases q;done) | (cases h';rfl) | (cases h';done)
 | .tup ds,e,x,h,h'=>by
  unfold Rep at h
  obtain ⟨a,xs,rfl,hs,hr⟩:=h
  cases e with
  | tup es =>
   unfold Rep at h'
   obtain ⟨b,ys,q,hs',hr'⟩:=h'
   cases q
   rw [I.tuple_inj hs' hs] at hr'
   rw [FP I ds es xs hr hr']
  | lst es =>
   unfold Rep at h'
   obtain ⟨b,ys,q,hs',hr'⟩:=h'
   cases q
   exact (HU I hs' hs).elim
  | _=>unfold Rep at h';cases h'
 | .lst ds,e,x,h,h'=>by
  unfold Rep at h
  obtain ⟨a,xs,rfl,hs,hr⟩:=h
  cases e with
  | lst es =>
   unfold Rep at h'
   obtain ⟨b,ys,q,hs',hr'⟩:=h'
   cases q
   rw [I.list_inj hs' hs] at hr'
   rw [FP I ds es xs hr hr']
  | tup es =>
   unfold Rep at h'
   obtain ⟨b,ys,q,hs',hr'⟩:=h'
   cases q
   exact (HU I hs hs').elim
  | _=>unfold Rep at h';cases h'
theorem FP (I:Inv X pins σ H s):∀ (ds es:List Dv) (xs:List V),Reps X.K H ds xs->Reps X.K H es xs->ds=es
 | [],es,xs,h,h'=>by
  unfold Reps at h;subst h
  cases es with
  | nil=>rfl
  | cons e es=>unfold Reps at h';obtain ⟨x,r,q,_⟩:=h';cases q
 | d::ds,es,xs,h,h'=>by
  unfold Reps at h
  obtain ⟨x,r,rfl,h1,h2⟩:=h
  cases es with
  | nil=>unfold Reps at h';cases h'
  | cons e es =>
   unfold Reps at h'
   obtain ⟨y,r',q,h3,h4⟩:=h'
   cases q
   rw [Ex I d e _ h1 h3,FP I ds es _ h2 h4]
end
noncomputable abbrev Eq3 (A:Around) (s:Shared) (u v:Value) (b:Bool):Prop:=SeqAt.EqAt A s u v b/\SeqAt.RcAt A s u v b/\SeqAt.RcNeAt A s u v (!b)
theorem Nq {A:Around} {a b:Addr} {xs ys:List V} {ds es:List Dv} (I:Inv X pins σ H s) (hu:A.units < cLine) (ha:SqT X.K H a xs) (hb:SqT X.K H b ys) (hd:Reps X.K H ds xs) (he:Reps X.K H es ys)
 (ih:∀ (i:Nat) (d e:Dv) (x y:V) (u v:Value),ds[i]? = some d->es[i]? = some e->xs[i]? = some x->ys[i]? = some y->RelV x u->RelV y v->SeqAt.EqAt A.in1 s u v (eqD d e)):Eq3 A s (.ref a) (.ref b) (eqD (.tup ds) (.tup es)):=by
 obtain ⟨its,r1,p1,_⟩:=I.tuple ha
 obtain ⟨its2,r2,p2,_⟩:=I.tuple hb
 have l1:=hd.length;have l2:=he.length;have l3:=r1.length;have l4:=r2.length
 have hitem:∀ j (h1:j < its.toArray.size) (h2:j < its2.toArray.size),SeqAt.EqAt A.in1 s its.toArray[j] its2.toArray[j] (match ds[j]?,es[j]? with | some d,some e=>eqD d e | _,_=>false):=fun j h1 h2=>by
  rw [List.size_toArray] at h1 h2
  have e1:ds[j]? = some ds[j]:=List.getElem?_eq_getElem (by lia)
  have e2:es[j]? = some es[j]:=List.getElem?_eq_getElem (by lia)
  have e3:xs[j]? = some xs[j]:=List.getElem?_eq_getElem (by lia)
  have e4:ys[j]? = some ys[j]:=List.getElem?_eq_getElem (by lia)
  obtain ⟨u,q1,q2⟩:=r1.get e3
  obtain ⟨v,q3,q4⟩:=r2.get e4
  rw [e1,e2]
  have z1:its.toArray[j]=u:=by rw [List.getElem_toArray];rw [List.getElem?_eq_getElem h1] at q1;exact Option.some.inj q1
  have z2:its2.toArray[j]=v:=by rw [List.getElem_toArray];rw [List.getElem?_eq_getElem h2] at q3;exact Option.some.inj q3
  rw [z1,z2]
  exact ih j _ _ _ _ _ _ e1 e2 e3 e4 q2 q4
 have val:((List.range (min its.toArray.size its2.toArray.size)).all (fun j=>match ds[j]?,es[j]? with | some d,some e=>eqD d e | _,_=>false) && its.toArray.size == its2.toArray.size)=eqD (.tup ds) (.tup es):=by
  rw [List.size_toArray,List.size_toArray,<- l3,<- l4,<- l1,<- l2,NE]
  by_cases h:ds.length=es.length
  ·rw [h,Nat.min_self,<- h,GN ds es h]
   simp
  ·rw [FS ds es h]
   have:(ds.length == es.length)=false:=by simpa using h
   rw [this,Bool.and_false]
 have R:=SeqAt.RcAt.tuples (A:=A) p1 p2 hu hitem
 have N:=SeqAt.RcNeAt.tuples (A:=A) p1 p2 hu hitem
 rw [val] at R N
 refine ⟨?_,R,N⟩
 by_cases hab:a=b
 ·subst hab
  have e:ds=es:=by
   have:=Ex I (.tup ds) (.tup es) (.ref a) (by unfold Rep;exact ⟨a,xs,rfl,ha,hd⟩) (by unfold Rep;exact ⟨a,ys,rfl,hb,he⟩)
   cases this;rfl
  subst e
  rw [FV]
  exact SeqAt.EqAt.same _
 ·exact .of_refs hab R
theorem K6 {A:Around} {a b:Addr} {xs ys:List V} {ds es:List Dv} (I:Inv X pins σ H s) (hu:A.units < cLine) (ha:SqL X.K H a xs) (hb:SqL X.K H b ys) (hd:Reps X.K H ds xs) (he:Reps X.K H es ys)
 (ih:∀ (i:Nat) (d e:Dv) (x y:V) (u v:Value),ds[i]? = some d->es[i]? = some e->xs[i]? = some x->ys[i]? = some y->RelV x u->RelV y v->SeqAt.EqAt A.in1 s u v (eqD d e)):Eq3 A s (.ref a) (.ref b) (eqD (.lst ds) (.lst es)):=by
 obtain ⟨its,r1,p1,_⟩:=I.list ha
 obtain ⟨its2,r2,p2,_⟩:=I.list hb
 have l1:=hd.length;have l2:=he.length;have l3:=r1.length;have l4:=r2.length
 have hitem:∀ j (h1:j < its.toArray.size) (h2:j < its2.toArray.size),SeqAt.EqAt A.in1 s its.toArray[j] its2.toArray[j] (match ds[j]?,es[j]? with | some d,some e=>eqD d e | _,_=>false):=fun j h1 h2=>by
  rw [List.size_toArray] at h1 h2
  have e1:ds[j]? = some ds[j]:=List.getElem?_eq_getElem (by lia)
  have e2:es[j]? = some es[j]:=List.getElem?_eq_getElem (by lia)
  have e3:xs[j]? = some xs[j]:=List.getElem?_eq_getElem (by lia)
  have e4:ys[j]? = some ys[j]:=List.getElem?_eq_getElem (by lia)
  obtain ⟨u,q1,q2⟩:=r1.get e3
  obtain ⟨v,q3,q4⟩:=r2.get e4
  rw [e1,e2]
  have z1:its.toArray[j]=u:=by rw [List.getElem_toArray];rw [List.getElem?_eq_getElem h1] at q1;exact Option.some.inj q1
  have z2:its2.toArray[j]=v:=by rw [List.getElem_toArray];rw [List.getElem?_eq_getElem h2] at q3;exact Option.some.inj q3
  rw [z1,z2]
  exact ih j _ _ _ _ _ _ e1 e2 e3 e4 q2 q4
 have RN:SeqAt.RcAt A s (.ref a) (.ref b) (eqD (.lst ds) (.lst es))/\SeqAt.RcNeAt A s (.ref a) (.ref b) (!eqD (.lst ds) (.lst es)):=by
  by_cases h:ds.length=es.length
  ·have hsz:its.toArray.size=its2.toArray.size:=by rw [List.size_toArray,List.size_toArray];lia
   have val:(List.range its.toArray.size).all (fun j=>match ds[j]?,es[j]? with | some d,some e=>eqD d e | _,_=>false)=eqD (.lst ds) (.lst es):=by
    rw [FQ,List.size_toArray,<- l3,<- l1,GN ds es h]
   have R:=SeqAt.RcAt.lists (A:=A) p1.isList p2.isList hsz hu hitem
   have N:=SeqAt.RcNeAt.lists (A:=A) p1.isList p2.isList hsz hu hitem
   rw [val] at R N
   exact ⟨R,N⟩
  ·have hsz:(its.toArray.size != its2.toArray.size)=true:=by rw [List.size_toArray,List.size_toArray];simp;lia
   have val:eqD (.lst ds) (.lst es)=false:=by rw [FQ];exact FS ds es h
   rw [val]
   exact ⟨SeqAt.RcAt.lists_lengths p1.isList p2.isList hsz hu,SeqAt.RcNeAt.lists_lengths p1.isList p2.isList hsz hu⟩
 refine ⟨?_,RN.1,RN.2⟩
 by_cases hab:a=b
 ·subst hab
  have e:ds=es:=by
   have:=Ex I (.lst ds) (.lst es) (.ref a) (by unfold Rep;exact ⟨a,xs,rfl,ha,hd⟩) (by unfold Rep;exact ⟨a,ys,rfl,hb,he⟩)
   cases this;rfl
  subst e
  rw [FV]
  exact SeqAt.EqAt.same _
 ·exact .of_refs hab RN.1
theorem Hq (I:Inv X pins σ H s):∀ (n:Nat) (A:Around) (d e:Dv) (x y:V) (u v:Value),An d<=n->A.units+n < cLine->Rep X.K H d x->Rep X.K H e y->RelV x u->RelV y v->Eq3 A s u v (eqD d e):=by
 intro n
 induction n with
 | zero =>
  intro A d e x y u v hd hu hx hy ru rv
  have hu':A.units < cLine:=by lia
  cases d with
  | tup ds=>unfold An at hd;lia
  | lst ds=>unfold An at hd;lia
  | non =>
   unfold Rep at hx;subst hx;cases ru
   cases e <;> unfold Rep at hy
   case non=>subst hy;cases rv;exact ⟨SeqAt.EqAt.same _,SeqAt.RcAt.none_none,SeqAt.RcNeAt.none_none⟩
   case bl=>subst hy;cases rv;exact ⟨.none_bool _,.none_bool _,.none_bool _⟩
   case int=>subst hy;obtain ⟨t,rfl⟩:=rv;exact ⟨.none_int _ _,.none_int _ _,.none_int _ _⟩
   case str=>subst hy;obtain ⟨t,rfl⟩:=rv;exact ⟨.none_str _ _,.none_str _ _,.none_str _ _⟩
   case tup=>obtain ⟨a,xs,rfl,ha,_⟩:=hy;cases rv;obtain ⟨its,_,p,_⟩:=I.tuple ha;exact ⟨.none_tuple p hu',.none_tuple p hu',.none_tuple p hu'⟩
   case lst=>obtain ⟨a,xs,rfl,ha,_⟩:=hy;cases rv;obtain ⟨its,_,p,_⟩:=I.list ha;exact ⟨.none_list p.isList hu',.none_list p.isList hu',.none_list p.isList hu'⟩
  | bl c =>
   unfold Rep at hx;subst hx;cases ru
   cases e <;> unfold Rep at hy
   case non=>subst hy;cases rv;exact ⟨.bool_none _,.bool_none _,.bool_none _⟩
   case bl=>subst hy;cases rv;unfold eqD;exact ⟨.bool_bool _ _,.bool_bool _ _,.bool_bool _ _⟩
   case int=>subst hy;obtain ⟨t,rfl⟩:=rv;unfold eqD;exact ⟨.bool_int _ _ _,.bool_int _ _ _,.bool_int _ _ _⟩
   case str=>subst hy;obtain ⟨t,rfl⟩:=rv;exact ⟨.bool_str _ _ _,.bool_str _ _ _,.bool_str _ _ _⟩
   case tup=>obtain ⟨a,xs,rfl,ha,_⟩:=hy;cases rv;obtain ⟨its,_,p,_⟩:=I.tuple ha;exact ⟨.bool_tuple _ p hu',.bool_tuple _ p hu',.bool_tuple _ p hu'⟩
   case lst=>obtain ⟨a,xs,rfl,ha,_⟩:=hy;cases rv;obtain ⟨its,_,p,_⟩:=I.list ha;exact ⟨.bool_list _ p.isList hu',.bool_list _ p.isList hu',.bool_list _ p.isList hu'⟩
  | int c =>
   unfold Rep at hx;subst hx;obtain ⟨t0,rfl⟩:=ru
   cases e <;> unfold Rep at hy
   case non=>subst hy;cases rv;exact ⟨.int_none _ _,.int_none _ _,.int_none _ _⟩
   case bl=>subst hy;cases rv;unfold eqD;exact ⟨.int_bool _ _ _,.int_bool _ _ _,.int_bool _ _ _⟩
   case int=>subst hy;obtain ⟨t,rfl⟩:=rv;unfold eqD;exact ⟨.int_int _ _ _ _,.int_int _ _ _ _,.int_int _ _ _ _⟩
   case str=>subst hy;obtain ⟨t,rfl⟩:=rv;exact ⟨.int_str _ _ _ _,.int_str _ _ _ _,.int_str _ _ _ _⟩
   case tup=>obtain ⟨a,xs,rfl,ha,_⟩:=hy;cases rv;obtain ⟨its,_,p,_⟩:=I.tuple ha;exact ⟨.int_tuple _ _ p hu',.int_tuple _ _ p hu',.int_tuple _ _ p hu'⟩
   case lst=>obtain ⟨a,xs,rfl,ha,_⟩:=hy;cases rv;obtain ⟨its,_,p,_⟩:=I.list ha;exact ⟨.int_list _ _ p.isList hu',.int_list _ _ p.isList hu',.int_list _ _ p.isList hu'⟩
  | str c =>
   unfold Rep at hx;subst hx;obtain ⟨t0,rfl⟩:=ru
   cases e <;> unfold Rep at hy
   case non=>subst hy;cases rv;exact ⟨.str_none _ _,.str_none _ _,.str_none _ _⟩
   case bl=>subst hy;cases rv;exact ⟨.str_bool _ _ _,.str_bool _ _ _,.str_bool _ _ _⟩
   case int=>subst hy;obtain ⟨t,rfl⟩:=rv;exact ⟨.str_int _ _ _ _,.str_int _ _ _ _,.str_int _ _ _ _⟩
   case str=>subst hy;obtain ⟨t,rfl⟩:=rv;unfold eqD;exact ⟨.str_str _ _ _ _,.str_str _ _ _ _,.str_str _ _ _ _⟩
   case tup=>obtain ⟨a,xs,rfl,ha,_⟩:=hy;cases rv;obtain ⟨its,_,p,_⟩:=I.tuple ha;exact ⟨.str_tuple _ _ p hu',.str_tuple _ _ p hu',.str_tuple _ _ p hu'⟩
   case lst=>obtain ⟨a,xs,rfl,ha,_⟩:=hy;cases rv;obtain ⟨its,_,p,_⟩:=I.list ha;exact ⟨.str_list _ _ p.isList hu',.str_list _ _ p.isList hu',.str_list _ _ p.isList hu'⟩
 | succ n ih =>
  intro A d e x y u v hd hu hx hy ru rv
  have hu':A.units < cLine:=by lia
  have hin:A.in1.units+n < cLine:=by show A.units+1+n < cLine;lia
  cases d with
  | tup ds =>
   unfold An at hd
   unfold Rep at hx
   obtain ⟨a,xs,rfl,ha,hr⟩:=hx
   cases ru
   cases e <;> unfold Rep at hy
   case tup es =>
    obtain ⟨b,ys,rfl,hb,hr'⟩:=hy
    cases rv
    refine Nq I hu' ha hb hr hr' fun i d e x y u v e1 e2 e3 e4 ru rv=>?_
    obtain ⟨x',q1,q2⟩:=hr.get e1
    obtain ⟨y',q3,q4⟩:=hr'.get e2
    rw [e3] at q1;cases q1
    rw [e4] at q3;cases q3
    exact (ih A.in1 d e x y u v (by have:=JX e1;lia) hin q2 q4 ru rv).1
   case non=>subst hy;cases rv;obtain ⟨its,_,p,_⟩:=I.tuple ha;exact ⟨.tuple_none p hu',.tuple_none p hu',.tuple_none p hu'⟩
   case bl=>subst hy;cases rv;obtain ⟨its,_,p,_⟩:=I.tuple ha;exact ⟨.tuple_bool _ p hu',.tuple_bool _ p hu',.tuple_bool _ p hu'⟩
   case int=>subst hy;obtain ⟨t,rfl⟩:=rv;obtain ⟨its,_,p,_⟩:=I.tuple ha;exact ⟨.tuple_int _ _ p hu',.tuple_int _ _ p hu',.tuple_int _ _ p hu'⟩
   case str=>subst hy;obtain ⟨t,rfl⟩:=rv;obtain ⟨its,_,p,_⟩:=I.tuple ha;exact ⟨.tuple_str _ _ p hu',.tuple_str _ _ p hu',.tuple_str _ _ p hu'⟩
   case lst=>obtain ⟨b,ys,rfl,hb,_⟩:=hy;cases rv;obtain ⟨its,_,p,_⟩:=I.tuple ha;obtain ⟨its2,_,p2,_⟩:=I.list hb;exact ⟨.tuple_list p p2.isList hu',.tuple_list p p2.isList hu',.tuple_list p p2.isList hu'⟩
  | lst ds =>
   unfold An at hd
   unfold Rep at hx
   obtain ⟨a,xs,rfl,ha,hr⟩:=hx
   cases ru
   cases e <;> unfold Rep at hy
   case lst es =>
    obtain ⟨b,ys,rfl,hb,hr'⟩:=hy
    cases rv
    refine K6 I hu' ha hb hr hr' fun i d e x y u v e1 e2 e3 e4 ru rv=>?_
    obtain ⟨x',q1,q2⟩:=hr.get e1
    obtain ⟨y',q3,q4⟩:=hr'.get e2
    rw [e3] at q1;cases q1
    rw [e4] at q3;cases q3
    exact (ih A.in1 d e x y u v (by have:=JX e1;lia) hin q2 q4 ru rv).1
   case non=>subst hy;cases rv;obtain ⟨its,_,p,_⟩:=I.list ha;exact ⟨.list_none p.isList hu',.list_none p.isList hu',.list_none p.isList hu'⟩
   case bl=>subst hy;cases rv;obtain ⟨its,_,p,_⟩:=I.list ha;exact ⟨.list_bool _ p.isList hu',.list_bool _ p.isList hu',.list_bool _ p.isList hu'⟩
   case int=>subst hy;obtain ⟨t,rfl⟩:=rv;obtain ⟨its,_,p,_⟩:=I.list ha;exact ⟨.list_int _ _ p.isList hu',.list_int _ _ p.isList hu',.list_int _ _ p.isList hu'⟩
   case str=>subst hy;obtain ⟨t,rfl⟩:=rv;obtain ⟨its,_,p,_⟩:=I.list ha;exact ⟨.list_str _ _ p.isList hu',.list_str _ _ p.isList hu',.list_str _ _ p.isList hu'⟩
   case tup=>obtain ⟨b,ys,rfl,hb,_⟩:=hy;cases rv;obtain ⟨its,_,p,_⟩:=I.list ha;obtain ⟨its2,_,p2,_⟩:=I.tuple hb;exact ⟨.list_tuple p.isList p2 hu',.list_tuple p.isList p2 hu',.list_tuple p.isList p2 hu'⟩
  | non=>exact ih A .non e x y u v (by unfold An;lia) (by lia) hx hy ru rv
  | bl c=>exact ih A (.bl c) e x y u v (by unfold An;lia) (by lia) hx hy ru rv
  | int c=>exact ih A (.int c) e x y u v (by unfold An;lia) (by lia) hx hy ru rv
  | str c=>exact ih A (.str c) e x y u v (by unfold An;lia) (by lia) hx hy ru rv
end
section
variable {X:Cx}
noncomputable def mEq (neg:Bool) (K:W.Frag):R2:=fun x y H Q=>match x,y with
 | .non,.non=>Q (.bl (neg ^^ true)) H
 | .bl a,.bl b=>Q (.bl (neg ^^ (a == b))) H
 | .int a,.int b=>Q (.bl (neg ^^ (a == b))) H
 | .str a,.str b=>Q (.bl (neg ^^ (a == b))) H
 | x,y=>∃ d e,Rep K H d x/\Rep K H e y/\An d<=60/\Q (.bl (neg ^^ eqD d e)) H
theorem PD (hu:X.A.units+60 < cLine):OpR X (compareOp .Eq) (fun x y H Q=>∃ d e,Rep X.K H d x/\Rep X.K H e y/\An d<=60/\Q (.bl (eqD d e)) H):=by
 intro pins s σ H x y v u Q I rx ry h
 obtain ⟨d,e,h1,h2,h3,q⟩:=h
 exact (Hq I 60 X.A d e x y v u h3 hu h1 h2 rx ry).2.1 X.prog X.w _ _ ⟨.bl _,H,I,rfl,q⟩
theorem OF (hu:X.A.units+60 < cLine):OpR X (compareOp .NotEq) (fun x y H Q=>∃ d e,Rep X.K H d x/\Rep X.K H e y/\An d<=60/\Q (.bl (!eqD d e)) H):=by
 intro pins s σ H x y v u Q I rx ry h
 obtain ⟨d,e,h1,h2,h3,q⟩:=h
 exact (Hq I 60 X.A d e x y v u h3 hu h1 h2 rx ry).2.2 X.prog X.w _ _ ⟨.bl _,H,I,rfl,q⟩
theorem IE {neg:Bool} {K:W.Frag} {x y:V} {H:Hp} {Q:VK} (h:mEq neg K x y H Q):∃ d e,Rep K H d x/\Rep K H e y/\An d<=60/\Q (.bl (neg ^^ eqD d e)) H:=by
 unfold mEq at h
 split at h
 ·exact ⟨.non,.non,by unfold Rep;rfl,by unfold Rep;rfl,by unfold An;lia,by unfold eqD;exact h⟩
 ·rename_i a b;exact ⟨.bl a,.bl b,by unfold Rep;rfl,by unfold Rep;rfl,by unfold An;lia,by unfold eqD;exact h⟩
 ·rename_i a b;exact ⟨.int a,.int b,by unfold Rep;rfl,by unfold Rep;rfl,by unfold An;lia,by unfold eqD;exact h⟩
 ·rename_i a b;exact ⟨.str a,.str b,by unfold Rep;rfl,by unfold Rep;rfl,by unfold An;lia,by unfold eqD;exact h⟩
 ·exact h
theorem Oc (hu:X.A.units+60 < cLine):OpR X (compareOp .Eq) (mEq false X.K):=(PD hu).imp fun x y H Q h=>by
 obtain ⟨d,e,h1,h2,h3,q⟩:=IE h
 exact ⟨d,e,h1,h2,h3,by rw [Bool.false_xor] at q;exact q⟩
theorem NC (hu:X.A.units+60 < cLine):OpR X (compareOp .NotEq) (mEq true X.K):=(OF hu).imp fun x y H Q h=>by
 obtain ⟨d,e,h1,h2,h3,q⟩:=IE h
 exact ⟨d,e,h1,h2,h3,by rw [Bool.true_xor] at q;exact q⟩
end
section
variable {X:Cx} {a b c e:Expr} {es:List Expr} {ta tb tc te:TE} {tA tB':TT} {t:TA} {pos p:Pos} {x:Str}
noncomputable def isB (v:V) (Q:Bool->Prop):Prop:=match v with
 | .bl c=>Q c
 | _=>False
theorem EX {v:V} {Q:Bool->Prop} (h:isB v Q):∃ c,v=.bl c/\Q c:=by
 cases v <;> first | exact False.elim h | exact ⟨_,rfl,h⟩
noncomputable def AR (t:TE):Prop:=∀ σ H (Q Q':VK),(∀ v H,Q v H->Q' v H)->t σ H Q->t σ H Q'
noncomputable def uB (t:TE):TT:=fun σ H Q=>t σ H fun x H1=>isB x fun c=>Q c H1
theorem Ac {op:CmpOp} {r:R2} (ho:OpR X (compareOp op) r) (ha:PE X a ta) (hb:PE X b tb) (hm:behindInMarks op b=false:=by first | exact E9 _ (by decide) (by decide) | rfl):PT X (.Compare a [op] [b] pos) (uB (tOp r ta tb)):=by
 intro pins s σ H Q I h
 refine wpAny_isTrue_Compare1 (thn (ha pins s σ H _ I h) fun v s1 ⟨x,H1,I1,r1,q1⟩=>thn (hb pins s1 σ H1 _ I1 q1) fun u s2 ⟨y,H2,I2,r2,q2⟩ =>
  thn (ho pins s2 σ H2 x y v u _ I2 r1 r2 q2) fun c s3 ⟨z,H3,I3,r3,q⟩=>?_) hm
 obtain ⟨k,e,q3⟩:=EX q
 subst e
 cases r3
 exact wpAny_truthy_bool ⟨H3,I3,q3⟩
theorem A9 {op:CmpOp} {r:R2} (ho:OpR X (compareOp op) r) (ha:PE X a ta) (hb:PE X b tb) (hm:behindInMarks op b=false:=by first | exact E9 _ (by decide) (by decide) | rfl):PE X (.Compare a [op] [b] pos) (tOp r ta tb):=Jq ho ha hb hm
theorem Bf (h:PE X e te) (he:∀ whole,isTrue e X.env whole=(do let v <- whole;standAt e.pos;holding [v] (truthy v)):=by intro _;rfl):PT X e (uB te):=by
 intro pins s σ H Q I hq
 refine isTrue_plain (thn (h pins s σ H _ I hq) fun v s1 ⟨x,H1,I1,r1,q1⟩=>?_) (he _)
 obtain ⟨k,e,q⟩:=EX q1
 subst e
 cases r1
 exact wpAny_truthy_bool ⟨H1,I1,q⟩
noncomputable def PU (ta tb:TE):TE:=fun σ H Q=>ta σ H fun x H1=>isB x fun c=>if c=true then tb σ H1 Q else Q (.bl false) H1
noncomputable def IP (ta:TE):TE:=fun σ H Q=>ta σ H fun x H1=>isB x fun c=>Q (.bl (!c)) H1
theorem DO (ha:PE X a ta) (hb:PE X (.BoolOp .And (b::es) pos) tb):PE X (.BoolOp .And (a::b::es) pos) (PU ta tb):=by
 have ha':PE X a (fun σ H Q=>ta σ H fun x H1=>isB x fun c=>Q (.bl c) H1):=fun pins s σ H Q I h=>thn (ha pins s σ H _ I h) fun v s1 ⟨x,H1,I1,r1,q1⟩=>by
  obtain ⟨c,e,q⟩:=EX q1
  subst e
  exact ⟨.bl c,H1,I1,r1,q⟩
 have h:=PL (pos:=pos) ha' hb
 exact h.imp fun σ H Q q=>by
  show ta σ H fun x H1=>isB x fun c=>∃ c',V.bl c=.bl c'/\if c'=true then tb σ H1 Q else Q (.bl false) H1
  have e:(fun (x:V) (H1:Hp)=>isB x fun c=>∃ c',V.bl c=.bl c'/\if c'=true then tb σ H1 Q else Q (.bl false) H1)=fun x H1=>isB x fun c=>if c=true then tb σ H1 Q else Q (.bl false) H1:=by
   funext x H1
   cases x <;> first | rfl | (apply propext;constructor;(rintro ⟨c',e,h⟩;cases e;exact h);(intro h;exact ⟨_,rfl,h⟩))
  rw [e]
  exact q
theorem LO (ha:PE X a ta):PE X (.UnaryOp .Not a pos) (IP ta):=by
 have ha':PE X a (fun σ H Q=>ta σ H fun x H1=>isB x fun c=>Q (.bl c) H1):=fun pins s σ H Q I h=>thn (ha pins s σ H _ I h) fun v s1 ⟨x,H1,I1,r1,q1⟩=>by
  obtain ⟨c,e,q⟩:=EX q1
  subst e
  exact ⟨.bl c,H1,I1,r1,q⟩
 have h:=Mf (pos:=pos) ha'
 exact h.imp fun σ H Q q=>by
  show ta σ H fun x H1=>isB x fun c=>∃ c',V.bl c=.bl c'/\Q (.bl (!c')) H1
  have e:(fun (x:V) (H1:Hp)=>isB x fun c=>∃ c',V.bl c=.bl c'/\Q (.bl (!c')) H1)=fun x H1=>isB x fun c=>Q (.bl (!c)) H1:=by
   funext x H1
   cases x <;> first | rfl | (apply propext;constructor;(rintro ⟨c',e,h⟩;cases e;exact h);(intro h;exact ⟨_,rfl,h⟩))
  rw [e]
  exact q
noncomputable def SqA (K:W.Frag) (H:Hp) (p:Addr) (xs:List V):Prop:=SqL K H p xs\/SqT K H p xs
noncomputable def mIx (K:W.Frag):R2:=fun x y H Q=>match x,y with
 | .ref p,.int i=>∃ xs v,SqA K H p xs/\atI xs i=some v/\Q v H
 | .str z,.int i=>∃ c,z.length<=sizeLine/\atI z.cps.toList i=some c/\Q (.str ⟨#[c]⟩) H
 | _,_=>False
theorem IxR.imp {r r':R2} (h:IxR X r) (g:∀ x y H Q,r' x y H Q->r x y H Q):IxR X r':=fun a b pins s σ H x y v u Q I rx ry q z=>h a b pins s σ H x y v u Q I rx ry (g _ _ _ _ q) z
theorem Kl:IxR X (mIx X.K):=ix_seq.imp fun x y H Q q=>by
 cases x <;> cases y <;> first
  | exact False.elim q
  | (obtain ⟨xs,v,h | h,e,q⟩:=q
     ·exact .inl ⟨_,xs,_,v,rfl,rfl,h,e,q⟩
     ·exact .inr (.inl ⟨_,xs,_,v,rfl,rfl,h,e,q⟩))
  | (obtain ⟨c,hz,e,q⟩:=q
     exact .inr (.inr ⟨_,_,c,rfl,rfl,hz,e,q⟩))
theorem Ml (ha:PE X a ta) (hb:PE X b tb) (hs:FM b:=by intro _ _;rfl):PE X (.Subscript a b pos) (tOp (mIx X.K) ta tb):=Jg Kl ha hb hs
noncomputable def Ec (K:W.Frag):List V->Hp->VK->Prop:=fun xs H Q=>match xs with
 | [x]=>∃ n,JR K x H n/\Q (.int n) H
 | _=>False
theorem PQ:CallR X (.builtin "len") (Ec X.K):=call_len.imp fun xs H Q q=>by
 match xs,q with
 | [x],⟨n,h,q⟩=>exact ⟨x,n,rfl,h,q⟩
noncomputable def Js:List V->Hp->VK->Prop:=fun xs H Q=>match xs with
 | [.int i]=>Q (.int (i.natAbs:Int)) H
 | _=>False
theorem Dl:CallR X (.builtin "abs") Js:=call_abs.imp fun xs H Q q=>by
 match xs,q with
 | [.int i],q =>
  refine ⟨i,rfl,?_⟩
  have e:(if i < 0 then -i else i)=(i.natAbs:Int):=by split <;> lia
  rw [e]
  exact q
noncomputable def FW:List V->Hp->VK->Prop:=fun xs H Q=>match xs with
 | [.int i,.int j]=>Q (.int (max i j)) H
 | _=>False
theorem Ji (hc:X.calm=true):CallR X (.builtin "max") FW:=(K0 hc).imp fun xs H Q q=>by
 match xs,q with
 | [.int i,.int j],q =>
  refine ⟨i,j,rfl,?_⟩
  have e:(if j > i then j else i)=max i j:=by split <;> lia
  rw [e]
  exact q
noncomputable def FF:List V->Hp->VK->Prop:=fun xs H Q=>match xs with
 | [.int i,.int j]=>Q (.int (min i j)) H
 | _=>False
theorem KA (hc:X.calm=true):CallR X (.builtin "min") FF:=(OJ hc).imp fun xs H Q q=>by
 match xs,q with
 | [.int i,.int j],q =>
  refine ⟨i,j,rfl,?_⟩
  have e:(if j < i then j else i)=min i j:=by split <;> lia
  rw [e]
  exact q
noncomputable def FJ:List V->Hp->VK->Prop:=fun xs H Q=>match xs with
 | [.int i]=>Q (.int i) H
 | [.bl k]=>Q (.int (if k then 1 else 0)) H
 | _=>False
theorem JQ:CallR X (.type "int") FJ:=call_int1.imp fun xs H Q q=>by
 match xs,q with
 | [.int i],q=>exact .inl ⟨i,rfl,q⟩
 | [.bl k],q=>exact .inr ⟨k,rfl,q⟩
noncomputable def EO (K:W.Frag):List V->Hp->VK->Prop:=fun xs H Q=>match xs with
 | [.ref p]=>∃ ys,(SqL K H p ys/\∀ l,H l=none->Q (.ref l) (upd H l (.tup ys)))\/(SqT K H p ys/\Q (.ref p) H)
 | _=>False
theorem K1:CallR X (.type "tuple") (EO X.K):=call_tuple_of.imp fun xs H Q q=>by
 match xs,q with
 | [.ref p],⟨ys,q⟩=>exact ⟨p,ys,rfl,q⟩
noncomputable def JS (K:W.Frag):List V->Hp->VK->Prop:=fun xs H Q=>match xs with
 | [.ref p]=>∃ ys,SqA K H p ys/\∀ l,H l=none->Q (.ref l) (upd H l (.lst ys))
 | _=>False
theorem Jf:CallR X (.type "list") (JS X.K):=call_list_of.imp fun xs H Q q=>by
 match xs,q with
 | [.ref p],⟨ys,h,q⟩=>exact ⟨p,ys,rfl,h,q⟩
noncomputable def Hl (K:W.Frag) (T:String) (x:V) (H:Hp) (b:Bool):Prop:=match x with
 | .non=>b=(T == "NoneType")
 | .bl _=>b=(T == "bool" || T == "int")
 | .int _=>b=(T == "int")
 | .str _=>b=(T == "str")
 | .ref a=>(∃ xs,(H a=some (.lst xs)\/∃ o,H a=some (.frz o (.lst xs)))/\b=(T == "list"))\/(∃ xs,H a=some (.tup xs)/\b=(T == "tuple"))\/((∃ kvs,H a=some (.dK kvs))/\b=(T == "dict"))\/((∃ kvs,H a=some (.dT kvs))/\b=(T == "dict"))
 | _=>False
noncomputable def kinds:List String:=["int","bool","str","tuple","list","dict"]
theorem JA (K:W.Frag):∀ T∈kinds,PySem.W.kitOne K (.type "NoneType") (.type T)=some (T == "NoneType")/\PySem.W.kitOne K (.type "bool") (.type T)=some (T == "bool" || T == "int") /\
 PySem.W.kitOne K (.type "int") (.type T)=some (T == "int")/\PySem.W.kitOne K (.type "str") (.type T)=some (T == "str")/\PySem.W.kitOne K (.type "list") (.type T)=some (T == "list") /\
 PySem.W.kitOne K (.type "tuple") (.type T)=some (T == "tuple")/\PySem.W.kitOne K (.type "dict") (.type T)=some (T == "dict"):=by
 intro T h
 unfold kinds at h
 rcases List.mem_cons.mp h with rfl | h
 ·exact ⟨rfl,rfl,rfl,rfl,rfl,rfl,rfl⟩
 rcases List.mem_cons.mp h with rfl | h
 ·exact ⟨rfl,rfl,rfl,rfl,rfl,rfl,rfl⟩
 rcases List.mem_cons.mp h with rfl | h
 ·exact ⟨rfl,rfl,rfl,rfl,rfl,rfl,rfl⟩
 rcases List.mem_cons.mp h with rfl | h
 ·exact ⟨rfl,rfl,rfl,rfl,rfl,rfl,rfl⟩
 rcases List.mem_cons.mp h with rfl | h
 ·exact ⟨rfl,rfl,rfl,rfl,rfl,rfl,rfl⟩
 rcases List.mem_cons.mp h with rfl | h
 ·exact ⟨rfl,rfl,rfl,rfl,rfl,rfl,rfl⟩
 ·exact absurd h (by simp)
theorem KJ {K:W.Frag} {T:String} {v:V} {H:Hp} {k:Bool} (hT:T∈kinds) (h:Hl K T v H k):∃ ty,TyOf K H v ty/\PySem.W.kitOne K ty (.type T)=some k:=by
 obtain ⟨k1,k2,k3,k4,k5,k6,k7⟩:=JA K T hT
 cases v with
 | non=>cases (show k=_ from h);exact ⟨_,.non,k1⟩
 | bl _=>cases (show k=_ from h);exact ⟨_,.bl _,k2⟩
 | int _=>cases (show k=_ from h);exact ⟨_,.int _,k3⟩
 | str _=>cases (show k=_ from h);exact ⟨_,.str _,k4⟩
 | ref q =>
  rcases h with ⟨xs,h | ⟨o,h⟩,e⟩ | ⟨xs,h,e⟩ | ⟨⟨kvs,h⟩,e⟩ | ⟨⟨kvs,h⟩,e⟩
  ·subst e;exact ⟨_,.lst h,k5⟩
  ·subst e;exact ⟨_,.frz h,k5⟩
  ·subst e;exact ⟨_,.tup h,k6⟩
  ·subst e;exact ⟨_,.dK h,k7⟩
  ·subst e;exact ⟨_,.dT h,k7⟩
 | _=>exact False.elim h
noncomputable def Nw (K:W.Frag):List V->Hp->VK->Prop:=fun xs H Q=>match xs with
 | [x,.ty T]=>T∈kinds/\∃ k,Hl K T x H k/\Q (.bl k) H
 | _=>False
theorem HA:CallR X (.builtin "isinstance") (Nw X.K):=by
 intro pins s σ H xs us Q I r q
 match xs,q with
 | [x,.ty T],q =>
  obtain ⟨hT,k,h,q⟩:=q
  obtain ⟨u,w',rfl,ru,rw'⟩:=Ba r
  cases rw'
  obtain ⟨ty,h1,h2⟩:=KJ hT h
  exact PK I ru h1 h2 fun tk=>⟨.bl k,H,I.tok _,rfl,q⟩
end
noncomputable def ES (scope sc:Scope):Bool :=
 decide (scope.kind=.function) && decide (scope.names.map (·.1)).Nodup && scope.names.all fun y=>!(y.2 == .free) || (sc.names.lookup y.1 == some .cell || sc.names.lookup y.1 == some .free)
theorem CompScope.of {scope sc:Scope} (h:ES scope sc=true):CompScope scope sc:=by
 unfold ES at h
 rw [Bool.and_eq_true,Bool.and_eq_true] at h
 obtain ⟨⟨h1,h2⟩,h3⟩:=h
 refine ⟨of_decide_eq_true h1,of_decide_eq_true h2,fun y hy hf=>?_⟩
 have:=List.all_eq_true.mp h3 y hy
 rw [hf] at this
 rcases (Bool.or_eq_true _ _).mp this with z | z
 ·exact absurd z (by decide)
 ·rcases (Bool.or_eq_true _ _).mp z with z | z
  ·exact .inl (by simpa using z)
  ·exact .inr (by simpa using z)
section
variable {X:Cx} {tg iter elt:Expr} {ifs:List Expr} {scope:Scope} {pos:Pos} {N':List Str} {own:Nat} {ix:List Nat} {g:TG} {tc:TT} {te:TE} {wi:TI}
theorem frB {l:List Str} (h:(l.all fun x=>scope.names.lookup x == some .free)=true):∀ x∈l,scope.names.lookup x=some .free:=fun x hx=>by
 have:=List.all_eq_true.mp h x hx
 simpa using this
theorem BA (hc:X.calm=true) (hi:PI X tg iter wi) (S:ES scope X.env.scope=true)
 (hlen:N'.length=own+ix.length) (hN:(N'.drop own).map some=ix.map (X.N[·]?)) (hfr:((N'.drop own).all fun x=>scope.names.lookup x == some .free)=true)
 (hg:∀ c,PG (X.comp scope N' c) tg g) (hgo:CK own g) (ht:∀ c,PTs (X.comp scope N' c) ifs tc) (he:∀ c,PE (X.comp scope N' c) elt te)
 (hs:∀ x,foldedSetIterable iter X.env x=pure x:=by intro _;rfl):PE X (.ListComp elt [⟨tg,iter,ifs,0⟩] scope pos) (Dr wi own ix g tc te) :=
 O5 hc hi (.of S) hlen hN (frB hfr) hg hgo ht he hs
theorem Dt {i:Nat} {y:Str} {py spos:Pos} (hc:X.calm=true) (hnd:X.N.Nodup) (hiy:X.N[i]? = some y) (hy:X.env.scope.names.lookup y=some .local) (hi:PI X tg iter wi) (S:ES scope X.env.scope=true)
 (hlen:N'.length=own+ix.length) (hN:(N'.drop own).map some=ix.map (X.N[·]?)) (hfr:((N'.drop own).all fun x=>scope.names.lookup x == some .free)=true)
 (hg:∀ c,PG (X.comp scope N' c) tg g) (hgo:CK own g) (ht:∀ c,PTs (X.comp scope N' c) ifs tc) (he:∀ c,PE (X.comp scope N' c) elt te)
 (hsw:swapsWith (.ListComp elt [⟨tg,iter,ifs,0⟩] scope pos) (some (.Name y py)) spos.line X.env=pure true)
 (hs:∀ x,foldedSetIterable iter X.env x=pure x:=by intro _;rfl):PS X (.Assign [.Name y py] (.ListComp elt [⟨tg,iter,ifs,0⟩] scope pos) spos) (DL (Dr wi own ix g tc te) (AY i)) :=
 Ng hc hnd hiy hy hi (.of S) hlen hN (frB hfr) hg hgo ht he hsw hs
noncomputable def FA (K:W.Frag) (tl:TE):TI:=fun σ H R=>tl σ H fun x H1=>match x with
 | .ref a=>((∃ xs,SqL K H1 a xs)/\R (Itl K a) H1)\/((∃ xs,SqT K H1 a xs)/\R (Itt K a) H1)
 | _=>False
theorem L4 {l:Expr} {tl:TE} (hl:PE X l tl):PI X tg l (FA X.K tl):=by
 intro pins s σ H R I h
 refine thn (hl pins s σ H _ I h) fun v s1 ⟨x,H1,I1,r1,q1⟩=>?_
 cases x with
 | ref a =>
  cases r1
  rcases q1 with ⟨⟨xs,hq⟩,q⟩ | ⟨⟨xs,hq⟩,q⟩
  ·obtain ⟨its,rv,p,hz⟩:=I1.list hq
   refine wpAny_pyIter_list p.isList ?_
   refine ⟨s1.heap.objs.size,[s1.heap.objs.size],_,_,H1,rfl,I1.kept (t':=s1.toks) fun b o e=>Heap.get?_push_of_some _ e,K5 a _,⟨_,Heap.get?_push_size _ rfl,rfl,rfl⟩,fun b hb=>?_,q⟩
   have e:b=s1.heap.objs.size:=by simpa using hb
   subst e
   exact I1.fpOk (Nat.le_refl _) (I1.hok.fresh (Nat.le_refl _))
  ·obtain ⟨its,rv,p,hz⟩:=I1.tuple hq
   refine wpAny_pyIter_tuple (show s1.heap.IsTuple a its.toArray from p) ?_
   refine ⟨s1.heap.objs.size,[s1.heap.objs.size],_,_,H1,rfl,I1.kept (t':=s1.toks) fun b o e=>Heap.get?_push_of_some _ e,J4 a _,⟨_,Heap.get?_push_size _ rfl,rfl,rfl⟩,fun b hb=>?_,q⟩
   have e:b=s1.heap.objs.size:=by simpa using hb
   subst e
   exact I1.fpOk (Nat.le_refl _) (I1.hok.fresh (Nat.le_refl _))
 | _=>exact False.elim q1
noncomputable def E2:Cb:=fun o i v H Q=>match o,i with
 | .ref p,.int k=>∃ xs j,H p=some (.lst xs)/\ixN xs.length k=some j/\Q (upd H p (.lst (xs.set j v)))
 | _,_=>False
theorem CS:D3 X E2:=by
 intro pins s σ H o i v ov iv u Q I ro ri rv h
 cases o <;> cases i <;> first
  | exact False.elim h
  | (obtain ⟨xs,j,h1,h2,q⟩:=h
     exact NV pins s σ H _ _ v ov iv u Q I ro ri rv ⟨_,xs,_,j,rfl,rfl,h1,h2,q⟩)
theorem Du {K:W.Frag} {a:Addr} {xs:List V} {σc:St} {Q:VK} {H:Hp} (Pv:Nat->List V->Hp->Prop) (h0:Pv 0 [] H) (hl:∀ i ys H,i<=xs.length->Pv i ys H->SqL K H a xs) (hz:∀ i ys H,i < xs.length->Pv i ys H->ys.length < sizeLine)
 (hs:∀ i x ys H,xs[i]? = some x->Pv i ys H->g x σc H fun σ2 H2=>tc σ2 H2 fun b H3=>if b=true then te σ2 H3 fun y H4=>Pv (i+1) (ys++[y]) H4 else Pv (i+1) ys H3)
 (hd:∀ ys H,Pv xs.length ys H->∀ p,H p=none->Q (.ref p) (upd H p (.lst ys))):CU (Itl K a) g tc te σc Q H:=by
 refine ⟨fun i m ys H=>m=xs.length - i/\i<=xs.length/\Pv i ys H,⟨xs.length,by simp,Nat.zero_le _,h0⟩,?_⟩
 rintro i m ys H ⟨rfl,hi,p⟩
 have q:=hl i ys H hi p
 by_cases hlt:i < xs.length
 ·refine .inr ⟨⟨xs,xs[i],q,by simp [hlt]⟩,hz i ys H hlt p,Pv (i+1),fun ys' H' p'=>⟨xs.length - (i+1),by lia,rfl,hlt,p'⟩,fun x H' y=>?_⟩
  obtain ⟨e,y⟩:=y
  subst e
  exact hs i x ys _ (y xs q) p
 ·have e:i=xs.length:=by lia
  subst e
  exact .inl ⟨⟨xs,q,Nat.le_refl _⟩,hd ys H p⟩
theorem EJ {K:W.Frag} {a:Addr} {xs:List V} {σc:St} {Q:VK} {H:Hp} (Pv:Nat->List V->Hp->Prop) (h0:Pv 0 [] H) (hl:∀ i ys H,i<=xs.length->Pv i ys H->SqT K H a xs) (hz:∀ i ys H,i < xs.length->Pv i ys H->ys.length < sizeLine)
 (hs:∀ i x ys H,xs[i]? = some x->Pv i ys H->g x σc H fun σ2 H2=>tc σ2 H2 fun b H3=>if b=true then te σ2 H3 fun y H4=>Pv (i+1) (ys++[y]) H4 else Pv (i+1) ys H3)
 (hd:∀ ys H,Pv xs.length ys H->∀ p,H p=none->Q (.ref p) (upd H p (.lst ys))):CU (Itt K a) g tc te σc Q H:=by
 refine ⟨fun i m ys H=>m=xs.length - i/\i<=xs.length/\Pv i ys H,⟨xs.length,by simp,Nat.zero_le _,h0⟩,?_⟩
 rintro i m ys H ⟨rfl,hi,p⟩
 have q:=hl i ys H hi p
 by_cases hlt:i < xs.length
 ·refine .inr ⟨⟨xs,xs[i],q,by simp [hlt]⟩,hz i ys H hlt p,Pv (i+1),fun ys' H' p'=>⟨xs.length - (i+1),by lia,rfl,hlt,p'⟩,fun x H' y=>?_⟩
  obtain ⟨e,y⟩:=y
  subst e
  exact hs i x ys _ (y xs q) p
 ·have e:i=xs.length:=by lia
  subst e
  exact .inl ⟨⟨xs,q,Nat.le_refl _⟩,hd ys H p⟩
theorem CN {lo:Int} {n:Nat} {σc:St} {Q:VK} {H:Hp} (Pv:Nat->List V->Hp->Prop) (h0:Pv 0 [] H) (hz:∀ i ys H,i < n->Pv i ys H->ys.length < sizeLine)
 (hs:∀ i ys H,i < n->Pv i ys H->g (.int (lo+i)) σc H fun σ2 H2=>tc σ2 H2 fun b H3=>if b=true then te σ2 H3 fun y H4=>Pv (i+1) (ys++[y]) H4 else Pv (i+1) ys H3)
 (hd:∀ ys H,Pv n ys H->∀ p,H p=none->Q (.ref p) (upd H p (.lst ys))):CU (Itr lo n) g tc te σc Q H:=by
 refine ⟨fun i m ys H=>m=n - i/\i<=n/\Pv i ys H,⟨n,by simp,Nat.zero_le _,h0⟩,?_⟩
 rintro i m ys H ⟨rfl,hi,p⟩
 by_cases hlt:i < n
 ·refine .inr ⟨hlt,hz i ys H hlt p,Pv (i+1),fun ys' H' p'=>⟨n - (i+1),by lia,rfl,hlt,p'⟩,fun x H' y=>?_⟩
  obtain ⟨e,y⟩:=y
  subst e y
  exact hs i ys _ hlt p
 ·have e:i=n:=by lia
  subst e
  exact .inl ⟨Nat.le_refl _,hd ys H p⟩
noncomputable def Ot (c:TT) (tb:TS):TS:=fun D σ H=>∃ W:Nat->St->Hp->Prop,(∃ m,W m σ H)/\∀ m σ H,W m σ H ->
 c σ H fun b H1=>if b=true then tb { D with nx:=fun σ' H'=>∃ m',m' < m/\W m' σ' H',ct:=fun σ' H'=>∃ m',m' < m/\W m' σ' H',bk:=D.nx } σ H1 else D.nx σ H1
theorem Eu {c:Expr} {body:List Stmt} {tc:TT} {tb:TS} (hp:PassesOwn (model X.prog X.w) X.A X.env X.xe) (hc:PT X c tc) (hb:PSs X body tb):PS X (.While c body [] pos) (Ot tc tb):=by
 intro pins s σ H D I h
 obtain ⟨W,⟨m0,w0⟩,turn⟩:=h
 refine wpAny_While (codeAny_whileLoop (fun n s'=>∃ σ' H',Inv X pins σ' H' s'/\W n σ' H') ?_ m0 ⟨σ,H,I,w0⟩)
 rintro n s1 ⟨σ1,H1,I1,w1⟩
 refine wpAny_passesOwn hp (thn (hc pins s1 σ1 H1 _ I1 (turn n σ1 H1 w1)) fun b s2 ⟨H2,I2,q2⟩=>?_)
 cases b with
 | true =>
  rw [if_pos rfl] at q2
  rw [if_pos rfl]
  refine wpAny_passesOwn hp (thn (hb pins s2 σ1 H2 _ I2 q2) fun f s3 q3=>?_)
  cases f with
  | next =>
   obtain ⟨σ3,H3,I3,m',hm,w3⟩:=q3
   exact ⟨m',hm,σ3,H3,I3,w3⟩
  | cont =>
   obtain ⟨σ3,H3,I3,m',hm,w3⟩:=q3
   exact ⟨m',hm,σ3,H3,I3,w3⟩
  | brk=>exact q3
  | ret v=>exact q3
 | false =>
  rw [if_neg Bool.false_ne_true] at q2
  rw [if_neg Bool.false_ne_true]
  exact wpAny_execs_nil ⟨σ1,H2,I2,q2⟩
end
theorem Af {A:Around} {k:Nat} (hr:Room k A):A.units+60 < cLine:=by have:=hr.un;lia
noncomputable def Frm (t:Addr) (H H':Hp):Prop:=∀ b o,b≠t->H b=some o->H' b=some o
theorem Frm.trans {t:Addr} {H H1 H2:Hp} (a:Frm t H H1) (b:Frm t H1 H2):Frm t H H2:=fun c o n h=>b c o n (a c o n h)
theorem Frm.upd {t p:Addr} {H:Hp} {o:HO} (h:H p=none):Frm t H (upd H p o):=fun b u _ e=>by rw [AK (BR e h)];exact e
theorem Frm.updT {t:Addr} {H:Hp} {o:HO}:Frm t H (L2.upd H t o):=fun b u n e=>by rw [AK n];exact e
theorem Same.upd {p:Addr} {H:Hp} {o:HO} (h:H p=none):Same H (L2.upd H p o):=fun b u e=>by rw [AK (BR e h)];exact e
theorem Same.frm {t:Addr} {H H':Hp} (h:Same H H'):Frm t H H':=fun b o _ e=>h b o e
theorem Gg {K:W.Frag} {H H':Hp} {a:Addr} {xs:List V} (h:SqL K H a xs) (k:∀ o,H a=some o->H' a=some o):SqL K H' a xs:=by
 rcases h with (h | ⟨o,h⟩) | h
 ·exact .inl (.inl (k _ h))
 ·exact .inl (.inr ⟨o,k _ h⟩)
 ·exact .inr h
theorem Kp {K:W.Frag} {H H':Hp} {a:Addr} {xs:List V} (h:SqT K H a xs) (k:∀ o,H a=some o->H' a=some o):SqT K H' a xs:=by
 rcases h with (h | ⟨o,h⟩) | h
 ·exact .inl (.inl (k _ h))
 ·exact .inl (.inr ⟨o,k _ h⟩)
 ·exact .inr h
noncomputable def ScrAt (K:W.Frag) (H:Hp) (t a:Addr) (ns:List Int):Prop :=
 (Rd H a (.lst (ns.map V.int))/\a≠t)\/∃ (o:Obj) (its:Array Value) (n:Nat),K.lookup a=some o/\o.cls=.type "list" /\ o.dict=none/\o.data=.seq its n/\its.size<=sizeLine/\Vals (ns.map V.int) its.toList
theorem ScrAt.sq {K:W.Frag} {H:Hp} {t a:Addr} {ns:List Int} (h:ScrAt K H t a ns):SqL K H a (ns.map V.int):=by
 rcases h with ⟨h,_⟩ | h
 ·exact .inl h
 ·exact .inr h
theorem ScrAt.stay {K:W.Frag} {H H':Hp} {t a:Addr} {ns:List Int} (h:ScrAt K H t a ns) (k:∀ o,a≠t->H a=some o->H' a=some o):ScrAt K H' t a ns:=by
 rcases h with ⟨h | ⟨o,h⟩,n⟩ | h
 ·exact .inl ⟨.inl (k _ n h),n⟩
 ·exact .inl ⟨.inr ⟨o,k _ n h⟩,n⟩
 ·exact .inr h
theorem ScrAt.of {K:W.Frag} {H:Hp} {t a:Addr} {ns:List Int} (h:SqL K H a (ns.map V.int)) (ht:H t=none):ScrAt K H t a ns:=by
 rcases h with h | h
 ·refine .inl ⟨h,fun e=>?_⟩
  subst e
  rcases h with h | ⟨o,h⟩ <;> rw [ht] at h <;> cases h
 ·exact .inr h
structure Tape (K:W.Frag) (H:Hp) (t a:Addr) (ns:List Int):Prop where
 at_:∃ i r c:Int,0<=i/\0<=r/\H t=some (.lst [.ref a,.int i,.int r,.int c])
 scr:ScrAt K H t a ns
theorem Tape.same {K:W.Frag} {H H':Hp} {t a:Addr} {ns:List Int} (T:Tape K H t a ns) (h:Same H H'):Tape K H' t a ns:=by
 obtain ⟨i,r,c,h1,h2,h3⟩:=T.at_
 exact ⟨⟨i,r,c,h1,h2,h _ _ h3⟩,T.scr.stay fun o _ e=>h a o e⟩
theorem Tape.upd {K:W.Frag} {H:Hp} {t a p:Addr} {o:HO} {ns:List Int} (T:Tape K H t a ns) (h:H p=none):Tape K (L2.upd H p o) t a ns:=T.same (Same.upd h)
theorem Tape.free {K:W.Frag} {H H':Hp} {t a p:Addr} {ns:List Int} (T:Tape K H' t a ns) (h:Frm t H H') (hp:H' p=none):H p=none:=by
 cases e:H p with
 | none=>rfl
 | some o =>
  by_cases hpt:p=t
  ·subst hpt
   obtain ⟨i,r,c,_,_,h3⟩:=T.at_
   rw [h3] at hp;cases hp
  ·rw [h p o hpt e] at hp;cases hp
theorem Tape.neT {K:W.Frag} {H:Hp} {t a p:Addr} {ns:List Int} (T:Tape K H t a ns) (hp:H p=none):p≠t:=fun e=>by
 obtain ⟨i,r,c,_,_,h3⟩:=T.at_
 rw [e,h3] at hp;cases hp
noncomputable def D2 (K:W.Frag):Sp:=fun vs H Q _=>match vs with
 | [.ref t,.int m]=>∃ a ns,Tape K H t a ns/\okDiv m/\∀ d H',0<=d->d < m->Tape K H' t a ns->(∀ b,b≠t->H' b=H b)->Q (.int d) H'
 | _=>False
noncomputable def GT (K:W.Frag):Sp:=fun vs H Q _=>match vs with
 | [.ref a]=>∀ p,H p=none->Q (.ref p) (upd H p (.lst [.ref a,.int 0,.int 0,.int 0]))
 | _=>False
noncomputable def ED (K:W.Frag):Sp:=fun vs H Q _=>∃ (a:Addr) (ns:List Int),vs=[.ref a]/\SqL K H a (ns.map V.int)/\ns.length<=63/\∀ H',Q (.bl true) H'
theorem Br {xs:List V} {i:Int} {n:Nat} {v:V} (h:i=(n:Int)) (hx:xs[n]? = some v):atI xs i=some v:=by
 subst h
 have hn:n < xs.length:=(List.getElem?_eq_some_iff.mp hx).1
 unfold atI ixN
 rw [if_pos (Int.natCast_nonneg n),if_pos (by lia)]
 simpa using hx
theorem HH {ns:List Int} {i:Int} (h0:0<=i) (h1:i < ns.length):∃ z,atI (ns.map V.int) i=some (.int z):=by
 obtain ⟨n,rfl⟩:=Int.eq_ofNat_of_zero_le h0
 have hn:n < ns.length:=by lia
 exact ⟨ns[n],Br rfl (by rw [List.getElem?_map,List.getElem?_eq_getElem hn];rfl)⟩
theorem Lv {K:W.Frag} {H:Hp} {a p:Addr} {ns:List Int} (h:H p=none) (hs:SqL K H a (ns.map V.int)):Tape K (L2.upd H p (.lst [.ref a,.int 0,.int 0,.int 0])) p a ns :=
 ⟨⟨0,0,0,Int.le_refl _,Int.le_refl _,AD⟩,(ScrAt.of hs h).stay fun o n e=>by rw [AK n];exact e⟩
theorem MX {t:Addr} {H H':Hp} (h:∀ b,b≠t->H' b=H b):Frm t H H':=fun b o n e=>by rw [h b n];exact e
theorem A7 {j:Int} (h1:0 < j) (h2:j<=2 ^ 1000):okDiv j:=⟨h1,Int.lt_of_le_of_lt h2 (by decide)⟩
theorem AX {n:Nat} (h:n<=1000):n<=sizeLine:=Nat.le_of_lt (Ab h)
noncomputable def BQ (t:TT):Prop:=∀ σ H (Q Q':Bool->Hp->Prop),(∀ b H,Q b H->Q' b H)->t σ H Q->t σ H Q'
noncomputable def Bd (t:TA):Prop:=∀ σ H (Q Q':List V->Hp->Prop),(∀ b H,Q b H->Q' b H)->t σ H Q->t σ H Q'
noncomputable def BM (r:R2):Prop:=∀ x y H (Q Q':VK),(∀ v H,Q v H->Q' v H)->r x y H Q->r x y H Q'
noncomputable def IA (r:V->Hp->VK->Prop):Prop:=∀ x H (Q Q':VK),(∀ v H,Q v H->Q' v H)->r x H Q->r x H Q'
noncomputable def Bx (r:List V->Hp->VK->Prop):Prop:=∀ xs H (Q Q':VK),(∀ v H,Q v H->Q' v H)->r xs H Q->r xs H Q'
noncomputable def Iz (r:V->List V->Hp->VK->Prop):Prop:=∀ x xs H (Q Q':VK),(∀ v H,Q v H->Q' v H)->r x xs H Q->r x xs H Q'
noncomputable def AN (sp:Sp):Prop:=∀ vs H (Q Q':VK) E,(∀ v H,Q v H->Q' v H)->sp vs H Q E->sp vs H Q' E
noncomputable def D0 (t:TI):Prop:=∀ σ H (Q Q':It->Hp->Prop),(∀ J H,Q J H->Q' J H)->t σ H Q->t σ H Q'
noncomputable def Fm (t:Cb):Prop:=∀ o i v H (Q Q':Hp->Prop),(∀ H,Q H->Q' H)->t o i v H Q->t o i v H Q'
structure Ends.le (D D':Ends):Prop where
 nx:∀ σ H,D.nx σ H->D'.nx σ H
 rt:∀ v H,D.rt v H->D'.rt v H
 bk:∀ σ H,D.bk σ H->D'.bk σ H
 ct:∀ σ H,D.ct σ H->D'.ct σ H
noncomputable def A6 (t:TS):Prop:=∀ D D' σ H,Ends.le D D'->t D σ H->t D' σ H
theorem NK {i:Nat}:AR (Ei i):=fun σ H Q Q' h q=>by
 unfold Ei at *
 split at q
 ·exact h _ _ q
 ·exact q.elim
theorem Mw {v:V}:AR (tC v):=fun _ _ _ _ h q=>h _ _ q
theorem OS {r:R2} {ta tb:TE} (hr:BM r) (ha:AR ta) (hb:AR tb):AR (tOp r ta tb):=fun σ H Q Q' h q=>ha _ _ _ _ (fun _ _ q=>hb _ _ _ _ (fun _ _ q=>hr _ _ _ _ _ h q) q) q
theorem K2 {r:V->Hp->VK->Prop} {ta:TE} (hr:IA r) (ha:AR ta):AR (tUn r ta):=fun σ H Q Q' h q=>ha _ _ _ _ (fun _ _ q=>hr _ _ _ _ h q) q
theorem PN {K}:BM (Dx K):=fun x y H Q Q' h q=>by
 unfold Dx at *
 split at q
 ·exact h _ _ q
 ·exact ⟨q.1,h _ _ q.2⟩
 ·rcases q with ⟨l,b,xs,zs,e1,e2,h1,h2,h3,q⟩ | ⟨a,b,xs,ys,e1,e2,h1,h2,h3,h4,q1,q2⟩
  ·exact .inl ⟨l,b,xs,zs,e1,e2,h1,h2,h3,fun p hp=>h _ _ (q p hp)⟩
  ·exact .inr ⟨a,b,xs,ys,e1,e2,h1,h2,h3,h4,fun e=>h _ _ (q1 e),fun e p hp=>h _ _ (q2 e p hp)⟩
 ·exact q.elim
theorem LA:BM GJ:=fun x y H Q Q' h q=>by unfold GJ at *;split at q <;> first | exact h _ _ q | exact q.elim
theorem LZ:BM GV:=fun x y H Q Q' h q=>by
 unfold GV at *
 split at q
 ·exact ⟨q.1,h _ _ q.2⟩
 ·obtain ⟨l,k,xs,e1,e2,h1,h2,h3,h4,q⟩:=q
  exact ⟨l,k,xs,e1,e2,h1,h2,h3,h4,fun p hp=>h _ _ (q p hp)⟩
 ·exact q.elim
theorem Kw:BM GD:=fun x y H Q Q' h q=>by unfold GD at *;split at q <;> first | exact ⟨q.1,h _ _ q.2⟩ | exact q.elim
theorem LD:BM FE:=fun x y H Q Q' h q=>by unfold FE at *;split at q <;> first | exact ⟨q.1,h _ _ q.2⟩ | exact q.elim
theorem K9:BM Fn:=fun x y H Q Q' h q=>by unfold Fn at *;split at q <;> first | exact ⟨q.1,h _ _ q.2⟩ | exact q.elim
theorem PO:IA GB:=fun x H Q Q' h q=>by unfold GB at *;split at q <;> first | exact h _ _ q | exact q.elim
theorem NW {p}:BM (Es p):=fun x y H Q Q' h q=>by unfold Es at *;split at q <;> first | exact h _ _ q | exact q.elim
theorem Om {n K}:BM (mEq n K):=fun x y H Q Q' h q=>by
 unfold mEq at *
 split at q <;> first | exact h _ _ q | (obtain ⟨d,e,h1,h2,h3,q⟩:=q;exact ⟨d,e,h1,h2,h3,h _ _ q⟩)
theorem Lg {K}:BM (mIx K):=fun x y H Q Q' h q=>by
 unfold mIx at *
 split at q
 ·obtain ⟨xs,v,h1,h2,q⟩:=q;exact ⟨xs,v,h1,h2,h _ _ q⟩
 ·obtain ⟨c,h1,h2,q⟩:=q;exact ⟨c,h1,h2,h _ _ q⟩
 ·exact q.elim
theorem IR {v:V} {Q Q':Bool->Prop} (h:∀ b,Q b->Q' b) (q:isB v Q):isB v Q':=by
 cases v <;> first | exact h _ q | exact q
theorem NJ {t:TE} (h:AR t):BQ (uB t):=fun σ H Q Q' k q=>h _ _ _ _ (fun _ _ q=>IR (fun b q=>k b _ q) q) q
theorem Jb {ta:TE} (ha:AR ta):AR (IP ta):=fun σ H Q Q' h q=>ha _ _ _ _ (fun _ _ q=>IR (fun b q=>h _ _ q) q) q
theorem Ma {t:TT} {ta tb:TE} (ht:BQ t) (ha:AR ta) (hb:AR tb):AR (tIf t ta tb):=fun σ H Q Q' h q=>ht _ _ _ _ (fun b _ q=>by
 cases b with
 | true=>exact ha _ _ _ _ h q
 | false=>exact hb _ _ _ _ h q) q
theorem M7 {t u:TT} (ht:BQ t) (hu:BQ u):BQ (JJ t u):=fun σ H Q Q' h q=>ht _ _ _ _ (fun b _ q=>by
 cases b with
 | true=>exact hu _ _ _ _ h q
 | false=>exact h _ _ q) q
theorem ME {t u:TT} (ht:BQ t) (hu:BQ u):BQ (tOr t u):=fun σ H Q Q' h q=>ht _ _ _ _ (fun b _ q=>by
 cases b with
 | true=>exact h _ _ q
 | false=>exact hu _ _ _ _ h q) q
theorem OQ {t:TT} (ht:BQ t):BQ (G4 t):=fun σ H Q Q' h q=>ht _ _ _ _ (fun b _ q=>h _ _ q) q
theorem Jn:Bd GO:=fun _ _ _ _ h q=>h _ _ q
theorem KP {ta:TE} {t:TA} (ha:AR ta) (ht:Bd t):Bd (FX ta t):=fun σ H Q Q' h q=>ha _ _ _ _ (fun _ _ q=>ht _ _ _ _ (fun _ _ q=>h _ _ q) q) q
theorem Mb {r} {t:TA} (hr:Bx r) (ht:Bd t):AR (tCB r t):=fun σ H Q Q' h q=>ht _ _ _ _ (fun _ _ q=>hr _ _ _ _ h q) q
theorem Lp {sp dvs E} {t:TA} (hs:AN sp) (ht:Bd t):AR (HP sp dvs E t):=fun σ H Q Q' h q=>ht _ _ _ _ (fun _ _ q=>hs _ _ _ _ _ h q) q
theorem Ky {t:TA} (ht:Bd t):AR (HB t):=fun σ H Q Q' h q=>ht _ _ _ _ (fun _ _ q=>⟨q.1,fun p hp=>h _ _ (q.2 p hp)⟩) q
theorem M0 {t:TA} (ht:Bd t):AR (G1 t):=fun σ H Q Q' h q=>ht _ _ _ _ (fun _ _ q=>⟨q.1,fun p hp=>h _ _ (q.2 p hp)⟩) q
theorem J2 {wi own ix g tc te} (hi:D0 wi):AR (Dr wi own ix g tc te):=fun σ H Q Q' h q=>hi _ _ _ _ (fun J H1 q=>by
 obtain ⟨W,w0,turn⟩:=q
 refine ⟨W,w0,fun i m ys H w=>?_⟩
 rcases turn i m ys H w with ⟨a,b⟩ | r
 ·exact .inl ⟨a,fun p hp=>h _ _ (b p hp)⟩
 ·exact .inr r) q
theorem Ll {K}:Bx (Ec K):=fun xs H Q Q' h q=>by unfold Ec at *;split at q <;> first | (obtain ⟨n,a,q⟩:=q;exact ⟨n,a,h _ _ q⟩) | exact q.elim
theorem KY:Bx FW:=fun xs H Q Q' h q=>by unfold FW at *;split at q <;> first | exact h _ _ q | exact q.elim
theorem Jp:Bx FF:=fun xs H Q Q' h q=>by unfold FF at *;split at q <;> first | exact h _ _ q | exact q.elim
theorem Mr:Bx FJ:=fun xs H Q Q' h q=>by unfold FJ at *;split at q <;> first | exact h _ _ q | exact q.elim
theorem MP {K}:Bx (EO K):=fun xs H Q Q' h q=>by
 unfold EO at *
 split at q
 ·obtain ⟨ys,⟨a,q⟩ | ⟨a,q⟩⟩:=q
  ·exact ⟨ys,.inl ⟨a,fun l hl=>h _ _ (q l hl)⟩⟩
  ·exact ⟨ys,.inr ⟨a,h _ _ q⟩⟩
 ·exact q.elim
theorem Oo {K} {tl:TE} (h:AR tl):D0 (FA K tl):=fun σ H Q Q' k q=>h _ _ _ _ (fun v H1 q=>by
 cases v <;> first | exact q.elim | (rcases q with ⟨a,q⟩ | ⟨a,q⟩
                                     ·exact .inl ⟨a,k _ _ q⟩
                                     ·exact .inr ⟨a,k _ _ q⟩)) q
theorem My {ta:TA} (h:Bd ta):D0 (Ip ta):=fun σ H Q Q' k q=>h _ _ _ _ (fun _ _ ⟨j,e,a,b,q⟩=>⟨j,e,a,b,k _ _ q⟩) q
theorem KL:Fm E2:=fun o i v H Q Q' h q=>by
 unfold E2 at *
 split at q
 ·obtain ⟨xs,j,a,b,q⟩:=q;exact ⟨xs,j,a,b,h _ q⟩
 ·exact q.elim
theorem O9 {to ti:TE} {t:Cb} (h1:AR to) (h2:AR ti) (h3:Fm t):DY (HL to ti t):=fun v σ H Q Q' h q=>h1 _ _ _ _ (fun _ _ q=>h2 _ _ _ _ (fun _ _ q=>h3 _ _ _ _ _ _ (fun H q=>h _ _ q) q) q) q
theorem Hf:A6 Ds:=fun D D' σ H h q=>h.nx _ _ q
theorem Lu {t u:TS} (h1:A6 t) (h2:A6 u):A6 (E5 t u):=fun D D' σ H h q=>h1 { D with nx:=u D } { D' with nx:=u D' } σ H ⟨fun σ H q=>h2 D D' σ H h q,h.rt,h.bk,h.ct⟩ q
theorem Mp {te:TE} {g:TG} (h1:AR te) (h2:DY g):A6 (DL te g):=fun D D' σ H h q=>h1 _ _ _ _ (fun _ _ q=>h2 _ _ _ _ _ h.nx q) q
theorem Nr {te:TE} (h1:AR te):A6 (JP te):=fun D D' σ H h q=>h1 _ _ _ _ h.rt q
theorem LP {te:TE} (h1:AR te):A6 (Gn te):=fun D D' σ H h q=>h1 _ _ _ _ (fun _ _ q=>h.nx _ _ q) q
theorem HW {c:TT} {t u:TS} (hc:BQ c) (h1:A6 t) (h2:A6 u):A6 (Hu c t u):=fun D D' σ H h q=>hc _ _ _ _ (fun b _ q=>by
 cases b with
 | true=>exact h1 _ _ _ _ h q
 | false=>exact h2 _ _ _ _ h q) q
theorem K7 {wi:TI} {g:TG} {tb:TS} (hi:D0 wi) (hg:DY g) (h1:A6 tb):A6 (IS wi g tb):=fun D D' σ H h q=>hi _ _ _ _ (fun J H1 q=>by
 obtain ⟨W,w0,turn⟩:=q
 refine ⟨W,w0,fun i m σ H w=>?_⟩
 rcases turn i m σ H w with ⟨a,b⟩ | ⟨a,N,hN,step⟩
 ·exact .inl ⟨a,h.nx _ _ b⟩
 ·exact .inr ⟨a,N,hN,fun x H' y=>hg _ _ _ _ _ (fun σ2 H2 q=>h1 { D with nx:=N,ct:=N,bk:=D.nx } _ _ _ ⟨fun _ _ q=>q,h.rt,h.nx,fun _ _ q=>q⟩ q) (step x H' y)⟩) q
theorem Ah {t u:TS} {D:Ends} {σ:St} {H:Hp} (J:St->Hp->Prop) (h1:t { D with nx:=J } σ H) (h2:∀ σ' H',J σ' H'->u D σ' H') (hm:A6 t):E5 t u D σ H :=
 hm { D with nx:=J } { D with nx:=u D } σ H ⟨h2,fun _ _ q=>q,fun _ _ q=>q,fun _ _ q=>q⟩ h1
theorem Nk {K}:AN (D2 K):=fun vs H Q Q' E h q=>by
 unfold D2 at *
 split at q
 ·obtain ⟨a,ns,x,y,q⟩:=q;exact ⟨a,ns,x,y,fun d H' e1 e2 e3 e4=>h _ _ (q d H' e1 e2 e3 e4)⟩
 ·exact q.elim
section
variable {X:Cx} {K:W.Frag} {a b c e l tg:Expr} {es:List Expr} {ta tb tc te tl:TE} {pos p:Pos}
theorem BS (hK:X.K=K:=by rfl):OpR X (binaryOp .Add) (Dx K):=hK ▸ NS
theorem kEq (hu:X.A.units+60 < cLine) (hK:X.K=K:=by rfl):OpR X (compareOp .Eq) (mEq false K):=hK ▸ Oc hu
theorem kNe (hu:X.A.units+60 < cLine) (hK:X.K=K:=by rfl):OpR X (compareOp .NotEq) (mEq true K):=hK ▸ NC hu
theorem kIx (ha:PE X a ta) (hb:PE X b tb) (hs:FM b:=by intro _ _;rfl) (hK:X.K=K:=by rfl):PE X (.Subscript a b pos) (tOp (mIx K) ta tb):=hK ▸ Ml ha hb hs
theorem Bl (hK:X.K=K:=by rfl):CallR X (.builtin "len") (Ec K):=hK ▸ PQ
theorem CQ (hK:X.K=K:=by rfl):CallR X (.type "tuple") (EO K):=hK ▸ K1
theorem Mt (hK:X.K=K:=by rfl):CallR X (.type "list") (JS K):=hK ▸ Jf
theorem Bb (hl:PE X l tl) (hK:X.K=K:=by rfl):PI X tg l (FA K tl):=hK ▸ L4 hl
theorem Co {es:List Expr} {k:Nat} {t:TGs} {n:Nat} (hc:X.calm=true) (h:PGs X es t)
 (hn:(assignEach es X.env).length=n:=by rfl) (hst:(assignEach es X.env).findIdx? (·.1)=none:=by rfl) (hK:X.K=K:=by rfl):PG X (.Tuple es k pos) (GW K n t):=hK ▸ JB hc h hn hst
end
noncomputable def Itz (K:W.Frag) (l1 l2:Addr):It :=
 ⟨fun i H=>∃ xs ys x y,SqL K H l1 xs/\SqL K H l2 ys/\xs[i]? = some x/\ys[i]? = some y,
  fun i H v H'=>∃ p x y,H p=none/\v=.ref p/\H'=upd H p (.tup [x,y])/\(∀ xs,SqL K H l1 xs->xs[i]? = some x)/\(∀ ys,SqL K H l2 ys->ys[i]? = some y),
  fun i H=>∃ xs ys,SqL K H l1 xs/\SqL K H l2 ys/\(xs.length<=i\/ys.length<=i)⟩
theorem Inv.turnedNew {X:Cx} {pins:List (Addr × Obj)} {σ:St} {H:Hp} {s:Shared} {h':Heap} {ch:List Addr} {T:Addr} {o:HO} (I:Inv X pins σ H s) (hf:∀ b∈ch,BB X pins H b) (hT:s.heap.objs.size<=T)
 (k:∀ b u,b∉ch->s.heap.get? b=some u->h'.get? b=some u) (new:ObjOk X.prog X.w (upd H T o) h' T o) (th:∀ b∈ch,∃ u,h'.get? b=some u):Inv X pins σ (upd H T o) { s with heap:=h' }:=by
 have hTn:H T=none:=I.hok.fresh hT
 have nT:∀ b u,H b=some u->b≠T:=fun b u e z=>by rw [z,hTn] at e;cases e
 have nc:∀ b u,H b=some u->b∉ch:=fun b u e z=>by rw [(hf b z).1] at e;cases e
 refine I.step (g':=s.gens) (d':=s.drawn) (t':=s.toks) (ch:=ch) (fun b hb=>?_) (fun b u _ _ hc e _=>k b u hc e) (fun b u _ _ hc e _=>⟨u.slots,k b u hc e⟩) (fun b u hc e n=>?_) (fun b u hc e=>⟨u,k b u hc e⟩)
  (fun b xs e=>by rw [AK (nT _ _ e)];exact e) (fun b u v e=>by rw [AK (nT _ _ e)];exact e) (fun b ps e=>⟨#[],by rw [AK (nT _ _ e),e];simp⟩) (fun m hm=>?_) (fun b u e=>?_) I.bare
 ·obtain ⟨q1,q2,q3,q4,q5,q6⟩:=hf b hb
  exact ⟨q4,q2,q5,q6⟩
 ·rw [AK (Nat.ne_of_lt (Nat.lt_of_lt_of_le (Heap.lt_size e) hT))];exact n
 ·obtain ⟨u,es,ep,ho,r⟩:=hm
  exact ⟨u,es,ep,k _ u (fun z=>(hf _ z).2.1 rfl) ho,r⟩
 ·by_cases hb:b=T
  ·subst hb;rw [AD] at e;cases e;exact new
  ·rw [AK hb] at e
   refine (I.hok b u e).stay (fun c v hc q=>k c v ?_ q) (fun c q=>by rw [AK (nT _ _ q)];exact q) fun c xs q=>by rw [AK (nT _ _ q)];exact q
   rcases hc with z | z
   ·rw [z];exact nc b u e
   ·exact nc c _ z
theorem NA {P:Program} {w:World} {K:W.Frag} {es:List Expr} {kt:Nat} {tpos:Pos} {z TI TO i1 i2 l1 l2:Addr} (D:ZipApart z TI TO i1 i2 l1 l2) :
 Turn P w K (.Tuple es kt tpos) (Itz K l1 l2) [z,TI,TO,i1,i2] z (fun i h=>IsZip h z TI TO .none/\IsPair h TI (.ref i1) (.ref i2)/\(∃ a b,IsPair h TO a b)/\h.IsListIter i1 l1 i/\h.IsListIter i2 l2 i) where
 mem:=by simp
 obj:=fun i h st b hb=>by
  obtain ⟨hz,hTI,⟨a,c,hTO⟩,⟨o1,e1,c1,d1⟩,⟨o2,e2,c2,d2⟩⟩:=st
  simp only [List.mem_cons,List.mem_nil_iff,or_false] at hb
  rcases hb with rfl | rfl | rfl | rfl | rfl
  ·exact ⟨_,hz,fun v q=>nomatch q⟩
  ·exact ⟨_,hTI,fun v q=>nomatch q⟩
  ·exact ⟨_,hTO,fun v q=>nomatch q⟩
  ·exact ⟨o1,e1,fun v q=>by rw [d1] at q;cases q⟩
  ·exact ⟨o2,e2,fun v q=>by rw [d2] at q;cases q⟩
 keep:=fun i h h' ⟨hz,hTI,⟨a,c,hTO⟩,h1,h2⟩ k =>
  ⟨k z (by simp) _ hz,k TI (by simp) _ hTI,⟨a,c,k TO (by simp) _ hTO⟩,h1.at fun o e=>k i1 (by simp) o e,h2.at fun o e=>k i2 (by simp) o e⟩
 item:=by
  intro X hP hw hK hc i pins s σ H E I hf st hg
  subst hP hw hK
  obtain ⟨xs,ys,x,y,hq1,hq2,hx,hy⟩:=hg
  obtain ⟨hz,hTI,⟨a,c,hTO⟩,h1,h2⟩:=st
  obtain ⟨its,rv,p,_⟩:=I.list hq1
  obtain ⟨its2,rv2,p2,_⟩:=I.list hq2
  obtain ⟨u,hu,ru⟩:=rv.get hx
  obtain ⟨u2,hu2,ru2⟩:=rv2.get hy
  refine wpAny_pyNext_zip_item D hz hTI hTO h1 h2 p.isList p2.isList (x:=u) (y:=u2) (by simpa using hu) (by simpa using hu2) fun h' z1 z2 z3 z4 z5 z6 z7=>?_
  refine ⟨_,rfl,?_⟩
  have z7':∀ b v,b∉[z,TO,i1,i2]->s.heap.get? b=some v->h'.get? b=some v:=fun b v hb e=>by
   simp only [List.mem_cons,List.mem_nil_iff,or_false,not_or] at hb
   exact z7 b v hb.1 hb.2.1 hb.2.2.1 hb.2.2.2 e
  have I1:Inv X pins σ (upd H s.heap.objs.size (.tup [x,y])) { s with heap:=h' }:=by
   refine I.turnedNew (ch:=[z,TO,i1,i2]) (fun b hb=>hf b ?_) (Nat.le_refl _) z7' ?_ fun b hb=>?_
   ·simp only [List.mem_cons,List.mem_nil_iff,or_false] at hb ⊢
    rcases hb with h | h | h | h <;> simp [h]
   ·exact ⟨AX (show 2<=1000 by decide),[u,u2],.cons ru (.cons ru2 .nil),⟨_,z5,rfl,⟨_,rfl⟩,rfl⟩⟩
   ·simp only [List.mem_cons,List.mem_nil_iff,or_false] at hb
    rcases hb with rfl | rfl | rfl | rfl
    ·exact ⟨_,z1⟩
    ·exact ⟨_,z2⟩
    ·obtain ⟨o,e,_⟩:=z3;exact ⟨o,e⟩
    ·obtain ⟨o,e,_⟩:=z4;exact ⟨o,e⟩
  refine wpAny_letOwnedTupleGo_zip (s:={ s with heap:=h' }) z1 fun h'' z8 z9=>?_
  have hfz:=hf z (by simp)
  have neT:∀ b,b∈[z,TI,TO,i1,i2]->b≠s.heap.objs.size:=fun b hb e=>by
   have st':∃ o,s.heap.get? b=some o:=by
    simp only [List.mem_cons,List.mem_nil_iff,or_false] at hb
    rcases hb with rfl | rfl | rfl | rfl | rfl
    ·exact ⟨_,hz⟩
    ·exact ⟨_,hTI⟩
    ·exact ⟨_,hTO⟩
    ·obtain ⟨o,e,_⟩:=h1;exact ⟨o,e⟩
    ·obtain ⟨o,e,_⟩:=h2;exact ⟨o,e⟩
   obtain ⟨o,ho⟩:=st'
   have:=Heap.lt_size ho
   rw [e] at this
   exact Nat.lt_irrefl _ this
  have hTH:∀ b∈[z,TI,TO,i1,i2],upd H s.heap.objs.size (.tup [x,y]) b=none:=fun b hb=>by rw [AK (neT b hb)];exact (hf b hb).1
  have I2:Inv X pins σ (upd H s.heap.objs.size (.tup [x,y])) { s with heap:=h'' } :=
   I1.turned (t':=s.toks) (fun b o hb e=>(z9.2 b hb).trans e) (hTH z (by simp)) hfz.2.1 hfz.2.2.2.1 hfz.2.2.2.2.1 hfz.2.2.2.2.2
  have up:∀ b o,b≠z->h'.get? b=some o->h''.get? b=some o:=fun b o hb e=>(z9.2 b hb).trans e
  refine ⟨.ref s.heap.objs.size,_,I2,rfl,⟨_,x,y,I.hok.fresh (Nat.le_refl _),rfl,rfl,fun xs' h=>by rw [I.list_inj h hq1];exact hx,fun ys' h=>by rw [I.list_inj h hq2];exact hy⟩,⟨z8,?_,⟨u,u2,up _ _ D.TOz z2⟩,z3.at fun o e=>up _ o D.i1z e,z4.at fun o e=>up _ o D.i2z e⟩,hTH⟩
  exact up _ _ D.TIz (z7 _ _ D.TIz D.TITO D.TIi1 D.TIi2 hTI)
 done:=by
  intro X hP hw hK hc i pins s σ H E I hf st hg
  subst hP hw hK
  obtain ⟨xs,ys,hq1,hq2,hl⟩:=hg
  obtain ⟨hz,hTI,⟨a,c,hTO⟩,h1,h2⟩:=st
  obtain ⟨its,rv,p,_⟩:=I.list hq1
  obtain ⟨its2,rv2,p2,_⟩:=I.list hq2
  have e1:=rv.length
  have e2:=rv2.length
  refine wpAny_pyNext_zip_end (I.ok.hd hc) D hz hTI hTO h1 h2 p.isList p2.isList (by
   rcases hl with h | h
   ·exact .inl (by simp;lia)
   ·exact .inr (by simp;lia)) fun h' z7=>⟨rfl,?_⟩
  have nc:∀ b u,H b=some u->b∉[z,TO,i1,i2]:=fun b u e q=>by
   have:b∈[z,TI,TO,i1,i2]:=by
    simp only [List.mem_cons,List.mem_nil_iff,or_false] at q ⊢
    rcases q with h | h | h | h <;> simp [h]
   rw [(hf b this).1] at e;cases e
  have z7':∀ b v,b∉[z,TO,i1,i2]->s.heap.get? b=some v->h'.get? b=some v:=fun b v hb e=>by
   simp only [List.mem_cons,List.mem_nil_iff,or_false,not_or] at hb
   exact z7 b v hb.1 hb.2.1 hb.2.2.1 hb.2.2.2 e
  refine I.step (g':=s.gens) (d':=s.drawn) (t':=s.toks) (ch:=[z,TO,i1,i2]) (fun b hb=>?_) (fun b u _ _ hc e _=>z7' b u hc e) (fun b u _ _ hc e _=>⟨u.slots,z7' b u hc e⟩) (fun b u hc e n=>n) (fun b u hc e=>⟨u,z7' b u hc e⟩)
   (fun _ _ e=>e) (fun _ _ _ e=>e) (fun b ps e=>⟨#[],by rw [e];simp⟩) (fun m hm=>?_) (fun b u e=>?_) I.bare
  ·have:b∈[z,TI,TO,i1,i2]:=by
    simp only [List.mem_cons,List.mem_nil_iff,or_false] at hb ⊢
    rcases hb with h | h | h | h <;> simp [h]
   obtain ⟨q1,q2,q3,q4,q5,q6⟩:=hf b this
   exact ⟨q4,q2,q5,q6⟩
  ·obtain ⟨u,es,ep,ho,r⟩:=hm
   refine ⟨u,es,ep,z7' _ u (fun q=>?_) ho,r⟩
   have:X.env.locals∈[z,TI,TO,i1,i2]:=by
    simp only [List.mem_cons,List.mem_nil_iff,or_false] at q ⊢
    rcases q with h | h | h | h <;> simp [h]
   exact (hf _ this).2.1 rfl
  ·refine (I.hok b u e).stay (fun c v hc q=>z7' c v ?_ q) (fun _ q=>q) fun _ _ q=>q
   rcases hc with h | h
   ·rw [h];exact nc b u e
   ·exact nc c _ h
 self:=fun _ _ _ _ _ st h=>wpAny_pyIter_zip st.1 h
section
variable {X:Cx}
noncomputable def Iv (K:W.Frag) (ta:TA):TI:=fun σ H R=>ta σ H fun vs H1=>match vs with
 | [.ref a,.ref b]=>(∃ xs,SqL K H1 a xs)/\(∃ ys,SqL K H1 b ys)/\R (Itz K a b) H1
 | _=>False
theorem Hy {K:W.Frag} {a b:Expr} {ta:TA} {p pos:Pos} {es:List Expr} {kt:Nat} {tpos:Pos} (hg:Gl X "zip") (hm:X.mg "zip" = none) (ha:PA X [a,b] ta)
 (hs:starEach [a,b] X.env=[(false,eval a X.env),(false,eval b X.env)]:=by rfl) (hs2:starEach [b] X.env=[(false,eval b X.env)]:=by rfl) (hK:X.K=K:=by rfl) :
 PI X (.Tuple es kt tpos) (.Call (.Name "zip" p) [a,b] [] pos) (Iv K ta):=by
 subst hK
 intro pins s σ H R I h
 refine Call_ (Cp I hg hm (by rfl:bootBuiltins "zip" = some (.type "zip")) (PyProof.Rows.callWith_type1 (thn (ha pos pins s σ H _ I h) fun us s1 ⟨vs,H1,I1,r1,q1⟩=>?_) (by rw [hs,hs2]) (by rw [hs2];rfl)))
 match vs,q1,r1 with
 | [.ref l1,.ref l2],⟨⟨xs,hx⟩,⟨ys,hy⟩,q⟩,r1 =>
 cases r1 with
 | cons r rr =>
 cases rr with
 | cons r' rr =>
 cases rr
 cases r
 cases r'
 obtain ⟨its,rv,p1,_⟩:=I1.list hx
 obtain ⟨its2,rv2,p2,_⟩:=I1.list hy
 obtain ⟨o1,n1,g1,_⟩:=id p1
 obtain ⟨o2,n2,g2,_⟩:=id p2
 have lt1:=Heap.lt_size g1
 have lt2:=Heap.lt_size g2
 refine call_zip_2 p1.isList p2.isList fun h' z1 z2 z3 z4 z5 z6 z7=>?_
 refine wpAny_pyIter_zip (s:={ s1 with heap:=h' }) z1 ?_
 have I2:Inv X pins σ H1 { s1 with heap:=h' }:=I1.kept (t':=s1.toks) z7
 refine ⟨_,_,_,_,H1,rfl,I2,NA (i1:=s1.heap.objs.size) (i2:=s1.heap.objs.size+1) (l1:=l1) (l2:=l2) (PyProof.Rows.zipApart_new lt1 lt2),⟨z1,z2,⟨_,_,z3⟩,z4,z5⟩,fun b hb=>?_,q⟩
 refine I1.fpOk ?_ ?_
 ·simp only [List.mem_cons,List.mem_nil_iff,or_false] at hb
  rcases hb with rfl | rfl | rfl | rfl | rfl
  ·exact Nat.le_add_right _ _
  ·exact Nat.le_add_right _ _
  ·exact Nat.le_add_right _ _
  ·exact Nat.le_refl _
  ·exact Nat.le_add_right _ _
 ·refine I1.hok.fresh ?_
  simp only [List.mem_cons,List.mem_nil_iff,or_false] at hb
  rcases hb with rfl | rfl | rfl | rfl | rfl
  ·exact Nat.le_add_right _ _
  ·exact Nat.le_add_right _ _
  ·exact Nat.le_add_right _ _
  ·exact Nat.le_refl _
  ·exact Nat.le_add_right _ _
theorem Nj {K:W.Frag} {ta:TA} (h:Bd ta):D0 (Iv K ta):=fun σ H Q Q' k q=>h _ _ _ _ (fun vs _ q=>by
 match vs,q with
 | [.ref a,.ref b],⟨h1,h2,q⟩=>exact ⟨h1,h2,k _ _ q⟩) q
theorem Ik {K:W.Frag} {l1 l2:Addr} {xs ys:List V} {g:TG} {tc:TT} {te:TE} {σc:St} {Q:VK} {H:Hp} (Pv:Nat->List V->Hp->Prop) (h0:Pv 0 [] H) (hlen:xs.length=ys.length) (hl:∀ i zs H,i<=xs.length->Pv i zs H->SqL K H l1 xs/\SqL K H l2 ys) (hz:∀ i zs H,i < xs.length->Pv i zs H->zs.length < sizeLine)
 (hs:∀ i x y zs H p,xs[i]? = some x->ys[i]? = some y->Pv i zs H->H p=none->g (.ref p) σc (upd H p (.tup [x,y])) fun σ2 H2=>tc σ2 H2 fun b H3=>if b=true then te σ2 H3 fun v H4=>Pv (i+1) (zs++[v]) H4 else Pv (i+1) zs H3)
 (hd:∀ zs H,Pv xs.length zs H->∀ p,H p=none->Q (.ref p) (upd H p (.lst zs))):CU (Itz K l1 l2) g tc te σc Q H:=by
 refine ⟨fun i m zs H=>m=xs.length - i/\i<=xs.length/\Pv i zs H,⟨xs.length,by simp,Nat.zero_le _,h0⟩,?_⟩
 rintro i m zs H ⟨rfl,hi,p⟩
 obtain ⟨q1,q2⟩:=hl i zs H hi p
 by_cases hlt:i < xs.length
 ·refine .inr ⟨⟨xs,ys,xs[i],ys[i],q1,q2,by simp [hlt],List.getElem?_eq_getElem (by lia)⟩,hz i zs H hlt p,Pv (i+1),fun zs' H' p'=>⟨xs.length - (i+1),by lia,rfl,hlt,p'⟩,?_⟩
  rintro v H' ⟨pp,x,y,hp,rfl,rfl,k1,k2⟩
  exact hs i x y zs H pp (k1 xs q1) (k2 ys q2) p hp
 ·have e:i=xs.length:=by lia
  subst e
  exact .inl ⟨⟨xs,ys,q1,q2,.inl (Nat.le_refl _)⟩,hd zs H p⟩
end
section
variable {X:Cx} {K:W.Frag} {o e:Expr} {es:List Expr} {to:TE} {t:TA} {apos cpos:Pos}
noncomputable def EB:V->List V->Hp->VK->Prop:=fun x vs H Q=>match x,vs with
 | .ref l,[y]=>∃ xs,H l=some (.lst xs)/\xs.length < sizeLine/\Q .non (upd H l (.lst (xs++[y])))
 | _,_=>False
theorem O4:MtR X "list.append" EB:=by
 intro pins s σ H x vs v us Q I rx rv q
 match x,vs,q with
 | .ref l,[y],⟨xs,h1,h2,q⟩=>exact Ja pins s σ H _ _ v us Q I rx rv ⟨l,xs,y,rfl,rfl,h1,h2,q⟩
theorem Gv (ho:PE X o to) (ha:PA X [e] t) (hbase:attributeBase o "append" X.env (eval o X.env)=eval o X.env:=by rfl)
 (hfew:((backTo cpos (starEach [e] X.env)).all (fun x=>!x.1) && (backToKw cpos (keywordEach [] X.env)).all (fun x=>x.1.isSome)
   && decide ([e].length+([]:List Keyword).length+(if ([]:List Keyword).isEmpty then 0 else 1) < 30))=true:=by rfl)
 (hline:(apos.endLine == cpos.line)=true:=by rfl) (hs:starEach [e] X.env=(false,eval e X.env)::starEach [] X.env:=by rfl) (hplain:(backTo cpos (starEach [] X.env)).any (·.1)=false:=by rfl) (hK:X.K=K:=by rfl) :
 PE X (.Call (.Attribute o "append" apos) [e] [] cpos) (tBM K "list" EB to t):=hK ▸ E6 PySem.F.plainAttrs_list PySem.F.slot_list_append PySem.F.type_list_append O4 ho ha hbase hfew hline hs hplain
noncomputable def IF (K:W.Frag):V->List V->Hp->VK->Prop:=fun x vs H Q=>match x,vs with
 | .ref l,[y]=>∃ xs,SqL K H l xs/\Aw y=true/\xs.all Aw=true/\Q (.int (xs.countP fun v=>eqV v y:Nat)) H
 | _,_=>False
theorem Gq {y:V}:∀ {xs:List V} {us:List Value},Vals xs us->xs.all Aw=true->us.countP (eqU y)=xs.countP fun v=>eqV v y
 | _,_,.nil,_=>rfl
 | x::xs,u::us,.cons r t,f=>by
  rw [List.all_cons,Bool.and_eq_true] at f
  rw [List.countP_cons,List.countP_cons,Eh r f.1,Gq t f.2]
theorem Jj:MtR X "list.count" (IF X.K):=by
 intro pins s σ H x vs v us Q I rx rv q
 match x,vs,q with
 | .ref l,[y],⟨xs,h1,h2,h3,q⟩ =>
 cases rx
 obtain ⟨u,rfl,ru⟩:=rv.one
 obtain ⟨its,r,pl,hz⟩:=I.list h1
 obtain ⟨⟨cls,dd,data,sl⟩,n,ho,hc,hd,hs⟩:=id pl
 simp only at hc hs
 subst hc hs
 refine call_meets F.slot_list_count ⟨_,ho,rfl⟩ F.entry_list_count (F.args_list_count_2 _ _) (SeqAt.list_countAt l its.toArray n dd sl u (eqU y)) ⟨ho,fun w hw=>Dz ru h2 r h3 w (by simpa using hw),?_⟩
 refine ⟨.int _,H,I.tok _,⟨_,rfl⟩,?_⟩
 have e:its.toArray.toList.countP (eqU y)=xs.countP fun v=>eqV v y:=by rw [show its.toArray.toList=its by simp];exact Gq r h3
 rw [e]
 exact q
theorem Jv (ho:PE X o to) (ha:PA X [e] t) (hbase:attributeBase o "count" X.env (eval o X.env)=eval o X.env:=by rfl)
 (hfew:((backTo cpos (starEach [e] X.env)).all (fun x=>!x.1) && (backToKw cpos (keywordEach [] X.env)).all (fun x=>x.1.isSome)
   && decide ([e].length+([]:List Keyword).length+(if ([]:List Keyword).isEmpty then 0 else 1) < 30))=true:=by rfl)
 (hline:(apos.endLine == cpos.line)=true:=by rfl) (hs:starEach [e] X.env=(false,eval e X.env)::starEach [] X.env:=by rfl) (hplain:(backTo cpos (starEach [] X.env)).any (·.1)=false:=by rfl) (hK:X.K=K:=by rfl) :
 PE X (.Call (.Attribute o "count" apos) [e] [] cpos) (tBM K "list" (IF K) to t):=hK ▸ E6 PySem.F.plainAttrs_list PySem.F.slot_list_count PySem.F.type_list_count Jj ho ha hbase hfew hline hs hplain
noncomputable def Iw (K:W.Frag):V->List V->Hp->VK->Prop:=fun x vs H Q=>match x,vs with
 | .ref l,[y]=>∃ (xs:List V) (j:Nat) (z:V),SqL K H l xs/\Aw y=true/\xs.all Aw=true/\xs[j]? = some z/\eqV z y=true/\(∀ (m:Nat) (v:V),m < j->xs[m]? = some v->eqV v y=false)/\Q (.int j) H
 | _,_=>False
theorem LH:MtR X "list.index" (Iw X.K):=by
 intro pins s σ H x vs v us Q I rx rv q
 match x,vs,q with
 | .ref l,[y],⟨xs,j,z,h1,h2,h3,h4,h5,h6,q⟩ =>
 cases rx
 obtain ⟨u,rfl,ru⟩:=rv.one
 obtain ⟨its,r,pl,hz⟩:=I.list h1
 obtain ⟨⟨cls,dd,data,sl⟩,n,ho,hc,hd,hs⟩:=id pl
 simp only at hc hs
 subst hc hs
 have hj:j < xs.length:=(List.getElem?_eq_some_iff.mp h4).1
 have hlen:=r.length
 have flat:∀ (m:Nat) (v:V),xs[m]? = some v->Aw v=true:=fun m v e=>List.all_eq_true.mp h3 v (List.mem_of_getElem? e)
 have val:∀ (m:Nat) (hm:m < its.toArray.size) (v:V),xs[m]? = some v->eqU y its.toArray[m]=eqV v y:=fun m hm v e=>by
  obtain ⟨w',q1,q2⟩:=r.get e
  have e2:its.toArray[m]=w':=by
   rw [List.getElem_toArray]
   rw [List.getElem?_eq_getElem (by simpa using hm)] at q1
   exact Option.some.inj q1
  rw [e2]
  exact Eh q2 (flat m v e)
 have line:=Cm
 refine call_meets F.slot_list_index ⟨_,ho,rfl⟩ F.entry_list_index (F.args_list_index_2 _ _) (SeqAt.list_indexAt l its.toArray n dd sl u (eqU y) j (by simp;lia) (by lia) ?_ ?_) ⟨ho,fun w hw=>Dz ru h2 r h3 w (by simpa using hw),?_⟩
 ·rw [val j (by simp;lia) z h4];exact h5
 ·intro m hm hmj
  have:m < xs.length:=by simp at hm;lia
  rw [val m hm _ (List.getElem?_eq_getElem this)]
  exact h6 m _ hmj (List.getElem?_eq_getElem this)
 ·exact ⟨.int _,H,I.tok _,⟨_,rfl⟩,q⟩
theorem Na (ho:PE X o to) (ha:PA X [e] t) (hbase:attributeBase o "index" X.env (eval o X.env)=eval o X.env:=by rfl)
 (hfew:((backTo cpos (starEach [e] X.env)).all (fun x=>!x.1) && (backToKw cpos (keywordEach [] X.env)).all (fun x=>x.1.isSome)
   && decide ([e].length+([]:List Keyword).length+(if ([]:List Keyword).isEmpty then 0 else 1) < 30))=true:=by rfl)
 (hline:(apos.endLine == cpos.line)=true:=by rfl) (hs:starEach [e] X.env=(false,eval e X.env)::starEach [] X.env:=by rfl) (hplain:(backTo cpos (starEach [] X.env)).any (·.1)=false:=by rfl) (hK:X.K=K:=by rfl) :
 PE X (.Call (.Attribute o "index" apos) [e] [] cpos) (tBM K "list" (Iw K) to t):=hK ▸ E6 PySem.F.plainAttrs_list PySem.F.slot_list_index PySem.F.type_list_index LH ho ha hbase hfew hline hs hplain
theorem Oy {T:String} {r:V->List V->Hp->VK->Prop} (h1:AR to) (h2:Bd t) (h3:Iz r):AR (tBM K T r to t):=fun σ H Q Q' h q=>h1 _ _ _ _ (fun _ _ q=>⟨q.1,h2 _ _ _ _ (fun _ _ q=>h3 _ _ _ _ _ h q) q.2⟩) q
theorem LL:Iz EB:=fun x xs H Q Q' h q=>by
 unfold EB at *
 split at q
 ·obtain ⟨ys,a,b,q⟩:=q;exact ⟨ys,a,b,h _ _ q⟩
 ·exact q.elim
noncomputable def Eo (K:W.Frag):List V->Hp->VK->Prop:=fun xs H Q=>match xs with
 | [.ref l]=>∃ ns:List Int,SqL K H l (ns.map V.int)/\Q (.int ns.sum) H
 | _=>False
theorem OB (hc:X.calm=true):CallR X (.builtin "sum") (Eo X.K):=by
 intro pins s σ H xs us Q I r q
 match xs,q with
 | [.ref l],q =>
 obtain ⟨ns,hl,q⟩:=q
 obtain ⟨u,rfl,ru⟩:=Bt r
 cases ru
 obtain ⟨its,rv,pl,hz⟩:=I.list hl
 have hi:IntsAre its ns:=by simpa using No rv
 obtain ⟨zs,hzs⟩:=(hi.allInts).items
 have e:(numsOf its).sum=ns.sum:=by rw [hi.numsOf]
 have pl':=pl.isList
 rw [hzs] at pl'
 refine sum_intListG (I.ok.hd hc) pl' fun h' tk t' hk=>?_
 refine ⟨.int _,H,I.kept hk,⟨t',rfl⟩,?_⟩
 have e2:preSum (numAt zs) zs.size=ns.sum:=by
  rw [preSum_eq,List.take_of_length_le (by simp),<- e]
  rw [show its=its.toArray.toList by simp,hzs,nums_intItems]
 rw [e2]
 exact q
theorem Ej (hc:X.calm=true) (hK:X.K=K:=by rfl):CallR X (.builtin "sum") (Eo K):=hK ▸ OB hc
theorem J1:Bx (Eo K):=fun xs H Q Q' h q=>by
 unfold Eo at *
 split at q
 ·obtain ⟨ns,a,q⟩:=q;exact ⟨ns,a,h _ _ q⟩
 ·exact q.elim
noncomputable def Er (K:W.Frag):List V->Hp->VK->Prop:=fun xs H Q=>match xs with
 | [.ref l]=>∃ bs:List Bool,SqL K H l (bs.map V.bl)/\Q (.bl (bs.all id)) H
 | _=>False
theorem Ox (hc:X.calm=true):CallR X (.builtin "all") (Er X.K):=by
 intro pins s σ H xs us Q I r q
 match xs,q with
 | [.ref l],q =>
 obtain ⟨bs,hl,q⟩:=q
 obtain ⟨u,rfl,ru⟩:=Bt r
 cases ru
 obtain ⟨its,rv,pl,hz⟩:=I.list hl
 have hlen:=rv.length
 rw [List.length_map] at hlen
 obtain ⟨o1,n1,g1,_⟩:=id pl
 have hlt:=Heap.lt_size g1
 refine call_all_walk (wpAny_pyIter_list pl.isList ?_)
 have hne:l≠s.heap.objs.size:=Nat.ne_of_lt hlt
 refine ⟨_,_,_,_,_,_,fun i=>bs.getD i false,rfl,Walks.list (A:=X.A.in1) (I.ok.hd hc) s.heap.objs.size l hne its.toArray,?_,?_,fun h' tk hk=>?_⟩
 ·exact ⟨⟨_,Heap.get?_push_size _ rfl,rfl,rfl⟩,(show s.heap.IsList l its.toArray from pl.isList).at fun o e=>Heap.get?_push_of_some _ e⟩
 ·intro i v s' Q' E' hv hq
  have hv:its.toArray[i]? = some v:=hv
  have hi:i < its.length:=by
   have:=(Array.getElem?_eq_some_iff.mp hv).1
   simpa using this
  have hb:(bs.map V.bl)[i]? = some (.bl bs[i]):=by rw [List.getElem?_map,List.getElem?_eq_getElem (by lia)];rfl
  obtain ⟨w',q1,q2⟩:=rv.get hb
  have e:v=w':=by simp at hv;rw [q1] at hv;exact (Option.some.inj hv).symm
  subst e
  cases q2
  refine wpAny_truthy_bool ?_
  have e2:bs.getD i false=bs[i]:=by rw [List.getD_eq_getElem?_getD,List.getElem?_eq_getElem (by lia)];rfl
  have hq:Q' (bs.getD i false) s':=hq
  rw [e2] at hq
  exact hq
 ·refine ⟨.bl _,H,I.kept (fun b o e=>hk b o ?_ (Heap.get?_push_of_some _ e)),rfl,?_⟩
  ·simp only [List.mem_singleton]
   exact Nat.ne_of_lt (Heap.lt_size e)
  ·have e:(List.range its.toArray.size).all (fun i=>bs.getD i false)=bs.all id:=by
    rw [List.size_toArray,<- hlen]
    rw [Bool.eq_iff_iff,List.all_eq_true,List.all_eq_true]
    constructor
    ·intro h b hb
     obtain ⟨i,hi,rfl⟩:=List.mem_iff_getElem.mp hb
     have:=h i (List.mem_range.mpr hi)
     rw [List.getD_eq_getElem?_getD,List.getElem?_eq_getElem hi] at this
     exact this
    ·intro h i hi
     have hi':=List.mem_range.mp hi
     rw [List.getD_eq_getElem?_getD,List.getElem?_eq_getElem hi']
     exact h _ (List.getElem_mem hi')
   rw [e]
   exact q
theorem JV (hc:X.calm=true) (hK:X.K=K:=by rfl):CallR X (.builtin "all") (Er K):=hK ▸ Ox hc
theorem PB:Bx (Er K):=fun xs H Q Q' h q=>by
 unfold Er at *
 split at q
 ·obtain ⟨ns,a,q⟩:=q;exact ⟨ns,a,h _ _ q⟩
 ·exact q.elim
end
section
variable {prog:Program} {w:World} {A:Around} {E:Value->Shared->Prop} {s:Shared}
theorem Ge {it t:Addr} {items:Array Value} (hne:t≠it):∀ (n i:Nat) (s:Shared) (Q:List Value->Shared->Prop),s.heap.IsListIter it t i->s.heap.IsList t items->i+n<=items.size ->
 (∀ h',h'.IsListIter it t (i+n)->Heap.SameBut it s.heap h'->Q ((items.toList.drop i).take n) { s with heap:=h' })->wpAny (model prog w) A (draw (.ref it) n) Q E s
 | 0,i,s,Q,hit,_,_,hQ=>by
  show wpAny _ _ (pure []) Q E s
  exact wpAny_pure (by simpa using hQ s.heap hit (Heap.SameBut.refl ..))
 | n+1,i,s,Q,hit,ht,hle,hQ=>by
  have hlt:i < items.size:=by lia
  show wpAny _ _ (pyNext (.ref it) >>= _) Q E s
  refine wpAny_bind (wpAny_pyNext_list_item hit ht (x:=items[i]) (by simp [hlt]) fun h₁ hit₁ hs₁=>?_)
  refine wpAny_bind (wpAny_holding (Ge hne n (i+1) _ _ hit₁ (ht.extBut hs₁.extBut hne) (by lia) fun h₂ hit₂ hs₂=>wpAny_pure ?_))
  have hd:items.toList.drop i=items[i]::items.toList.drop (i+1):=by simp [List.drop_eq_getElem_cons,hlt]
  have:=hQ h₂ (by rw [show i+(n+1)=i+1+n by lia];exact hit₂) (hs₁.trans hs₂)
  rw [hd,List.take_succ_cons] at this
  exact this
theorem Ln {t:Addr} {items:Array Value} {Q:List Value->Shared->Prop} (hh:A.handled=none) (ht:s.heap.IsList t items)
 (hQ:∀ h',Heap.ExtBut s.heap.objs.size s.heap h'->Q items.toList { s with heap:=h' }):wpAny (model prog w) A (unpackItems (.ref t) items.size none) Q E s:=by
 have hlt:t≠s.heap.objs.size:=by obtain ⟨o,ho,_⟩:=ht;exact Nat.ne_of_lt (Heap.lt_size ho)
 unfold unpackItems
 refine wpAny_bind ?_
 ·unfold notIterableAtAll
  refine wpAny_bind (wpAny_specialOf ht.typeIs slot_list_iter.lookup ?_)
  refine wpAny_pure ?_
  simp only [Bool.false_eq_true,if_false]
  refine wpAny_bind (wpAny_holding (wpAny_pyIter_list ht ?_))
  refine wpAny_bind (wpAny_holding (Ge hlt items.size 0 _ _ ⟨_,Heap.get?_push_size _ rfl,rfl,rfl⟩ (ht.at fun o e=>Heap.get?_push_of_some _ e) (by lia) fun h₁ hit₁ hs₁=>?_))
  have hall:List.take items.size (List.drop 0 items.toList)=items.toList:=by
   rw [List.drop_zero];exact List.take_of_length_le (by simp)
  rw [hall]
  rw [if_neg (by simp)]
  have ht₁:h₁.IsList t items:=(Heap.IsList.at ht fun o e=>Heap.get?_push_of_some _ e).extBut hs₁.extBut hlt
  refine wpAny_bind (wpAny_holding (wpAny_pyNext_list_end hh hit₁ ht₁ (by simp) fun h₂ he₂=>?_))
  simp only [Option.isSome_none,Bool.false_eq_true,if_false]
  refine wpAny_pure (hQ h₂ fun b o hb e=>he₂ b o hb (hs₁.extBut b o hb (Heap.get?_push_of_some _ e)))
theorem PY {env:Env} {elts:List Expr} {x1} {pos:Pos} {t:Addr} {items:Array Value} {Q:Unit->Shared->Prop} (hh:A.handled=none) (ht:s.heap.IsList t items)
 (hn:(assignEach elts env).length=items.size) (hstar:(assignEach elts env).findIdx? (·.1)=none)
 (h:∀ h',Heap.ExtBut s.heap.objs.size s.heap h'->wpAny (model prog w) A (assignInOrder ((assignEach elts env).map (·.2)) items.toList) Q E { s with heap:=h' }) :
 wpAny (model prog w) A (assign (.Tuple elts x1 pos) env (.ref t)) Q E s:=by
 rw [assign_Tuple]
 refine wpAny_bind (wpAny_standAt ?_)
 unfold unpack
 rw [hn,hstar]
 exact wpAny_bind (wpAny_holding (Ln hh ht h))
end
section
variable {X:Cx} {K:W.Frag} {pos p2:Pos} {e:Expr} {lo hi:Option Expr} {te:TE} {tl th:TO}
noncomputable def Jw (K:W.Frag) (n:Nat) (t:TGs):TG:=fun v σ H Q=>match v with
 | .ref a=>∃ xs,SqA K H a xs/\xs.length=n/\t xs σ H Q
 | _=>False
theorem Iu {es:List Expr} {k:Nat} {t:TGs} {n:Nat} (hc:X.calm=true) (h:PGs X es t)
 (hn:(assignEach es X.env).length=n:=by rfl) (hst:(assignEach es X.env).findIdx? (·.1)=none:=by rfl) (hK:X.K=K:=by rfl):PG X (.Tuple es k pos) (Jw K n t):=by
 subst hK
 intro pins s σ H v u Q I r hw
 cases v with
 | ref a =>
  obtain ⟨xs,hq | hq,hl,hw⟩:=hw
  ·cases r
   obtain ⟨its,rv,ht,hz⟩:=I.list hq
   refine PY (I.ok.hd hc) ht.isList (by simp [hn,<- hl,rv.length]) hst fun h' hx=>?_
   have I1:Inv X pins σ H { s with heap:=h' }:=I.kept (t':=s.toks) fun b o e=>hx b o (Nat.ne_of_lt (Heap.lt_size e)) e
   exact h pins _ σ H xs _ Q I1 (by simpa using rv) hw
  ·exact JB hc h hn hst pins s σ H _ u Q I r ⟨a,xs,rfl,hq,hl,hw⟩
 | _=>exact False.elim hw
end
theorem Aj {K:W.Frag} {H H':Hp} {a:Addr} {xs:List V} (h:SqT K H a xs) (s:Same H H'):SqT K H' a xs:=Kp h fun o e=>s a o e
mutual
theorem Rep.same {K:W.Frag} {H H':Hp} (s:Same H H'):∀ (d:Dv) (v:V),Rep K H d v->Rep K H' d v
 | .non,v,h=>by unfold Rep at *;exact h
 | .bl b,v,h=>by unfold Rep at *;exact h
 | .int i,v,h=>by unfold Rep at *;exact h
 | .str x,v,h=>by unfold Rep at *;exact h
 | .tup ds,v,h=>by
  unfold Rep at *
  obtain ⟨a,xs,e,h1,h2⟩:=h
  exact ⟨a,xs,e,Aj h1 s,Reps.same s ds xs h2⟩
 | .lst ds,v,h=>by
  unfold Rep at *
  obtain ⟨a,xs,e,h1,h2⟩:=h
  exact ⟨a,xs,e,Gg h1 fun o e=>s a o e,Reps.same s ds xs h2⟩
theorem Reps.same {K:W.Frag} {H H':Hp} (s:Same H H'):∀ (ds:List Dv) (xs:List V),Reps K H ds xs->Reps K H' ds xs
 | [],xs,h=>by unfold Reps at *;exact h
 | d::ds,xs,h=>by
  unfold Reps at *
  obtain ⟨x,r,e,h1,h2⟩:=h
  exact ⟨x,r,e,Rep.same s d x h1,Reps.same s ds r h2⟩
end
mutual
noncomputable def CC:Dv->Bool
 | .tup ds=>BU ds
 | .lst _=>false
 | _=>true
noncomputable def BU:List Dv->Bool
 | []=>true
 | d::ds=>CC d && BU ds
end
mutual
theorem Rep.frm {K:W.Frag} {H H':Hp} {t:Addr} (s:Frm t H H') (ht:∃ zs,H t=some (.lst zs)):∀ (d:Dv) (v:V),CC d=true->Rep K H d v->Rep K H' d v
 | .non,v,_,h=>by unfold Rep at *;exact h
 | .bl b,v,_,h=>by unfold Rep at *;exact h
 | .int i,v,_,h=>by unfold Rep at *;exact h
 | .str x,v,_,h=>by unfold Rep at *;exact h
 | .tup ds,v,hd,h=>by
  unfold CC at hd
  unfold Rep at *
  obtain ⟨a,xs,e,h1,h2⟩:=h
  refine ⟨a,xs,e,?_,Reps.frm s ht ds xs hd h2⟩
  obtain ⟨zs,hz⟩:=ht
  rcases h1 with (h1 | ⟨o,h1⟩) | h1
  ·exact .inl (.inl (s a _ (fun q=>by rw [q,hz] at h1;cases h1) h1))
  ·exact .inl (.inr ⟨o,s a _ (fun q=>by rw [q,hz] at h1;cases h1) h1⟩)
  ·exact .inr h1
 | .lst ds,v,hd,h=>by unfold CC at hd;cases hd
theorem Reps.frm {K:W.Frag} {H H':Hp} {t:Addr} (s:Frm t H H') (ht:∃ zs,H t=some (.lst zs)):∀ (ds:List Dv) (xs:List V),BU ds=true->Reps K H ds xs->Reps K H' ds xs
 | [],xs,_,h=>by unfold Reps at *;exact h
 | d::ds,xs,hd,h=>by
  unfold BU at hd
  rw [Bool.and_eq_true] at hd
  unfold Reps at *
  obtain ⟨x,r,e,h1,h2⟩:=h
  exact ⟨x,r,e,Rep.frm s ht d x hd.1 h1,Reps.frm s ht ds r hd.2 h2⟩
end
theorem Tape.lst {K:W.Frag} {H:Hp} {t a:Addr} {ns:List Int} (T:Tape K H t a ns):∃ zs,H t=some (.lst zs):=by
 obtain ⟨i,r,c,_,_,h⟩:=T.at_
 exact ⟨_,h⟩
theorem BO {K:W.Frag} {H:Hp} {p:Addr} {xs:List V} {ds:List Dv} (h:H p=some (.tup xs)) (r:Reps K H ds xs):Rep K H (.tup ds) (.ref p):=by unfold Rep;exact ⟨p,xs,rfl,.of h,r⟩
theorem Ap {K:W.Frag} {H:Hp}:Reps K H [] []:=by unfold Reps;rfl
theorem Ai {K:W.Frag} {H:Hp} {d:Dv} {ds:List Dv} {x:V} {xs:List V} (h:Rep K H d x) (r:Reps K H ds xs):Reps K H (d::ds) (x::xs):=by unfold Reps;exact ⟨x,xs,rfl,h,r⟩
theorem Eg {K:W.Frag} {H:Hp} {x:Str}:Rep K H (.str x) (.str x):=by unfold Rep;rfl
theorem Ay {K:W.Frag} {H:Hp} {x:Int}:Rep K H (.int x) (.int x):=by unfold Rep;rfl
theorem MB {K:W.Frag} {H:Hp} {x:Bool}:Rep K H (.bl x) (.bl x):=by unfold Rep;rfl
theorem Reps.append {K:W.Frag} {H:Hp}:∀ {ds es:List Dv} {xs ys:List V},Reps K H ds xs->Reps K H es ys->Reps K H (ds++es) (xs++ys)
 | [],es,xs,ys,h,h'=>by unfold Reps at h;subst h;exact h'
 | d::ds,es,xs,ys,h,h'=>by
  unfold Reps at h
  obtain ⟨x,r,rfl,h1,h2⟩:=h
  exact Ai h1 (Reps.append h2 h')
section
variable {κ:Type} [DecidableEq κ]
noncomputable def Am (kvs:List (κ × V)) (k:κ):Option V:=(kvs.find? fun kv=>decide (kv.1=k)).map (·.2)
noncomputable def Az (kvs:List (κ × V)) (k:κ) (v:V):List (κ × V) :=
 if (kvs.any fun kv=>decide (kv.1=k))=true then kvs.map (fun kv=>if kv.1=k then (kv.1,v) else kv) else kvs++[(k,v)]
noncomputable def Ce (kvs:List (κ × V)) (k:κ):List (κ × V):=kvs.filter fun kv=>decide (kv.1≠k)
theorem Fl {p:κ × V} {r:List (κ × V)} {k:κ} (e:p.1=k):Am (p::r) k=some p.2:=by simp [Am,List.find?_cons,e]
theorem GA {p:κ × V} {r:List (κ × V)} {k:κ} (e:¬ p.1=k):Am (p::r) k=Am r k:=by simp [Am,List.find?_cons,e]
theorem Gd (k:κ):∀ kvs:List (κ × V),(kvs.any fun kv=>decide (kv.1=k))=(Am kvs k).isSome
 | []=>rfl
 | p::r=>by
  rw [List.any_cons]
  by_cases e:p.1=k
  ·simp only [Fl e,decide_eq_true e,Bool.true_or,Option.isSome_some]
  ·rw [GA e,decide_eq_false e,Bool.false_or];exact Gd k r
theorem Gf (kvs:List (κ × V)) (k:κ) (v:V):(Az kvs k v).length<=kvs.length+1:=by
 unfold Az
 split
 ·rw [List.length_map];lia
 ·rw [List.length_append,List.length_cons,List.length_nil];lia
theorem RelO.isSome_eq {o:Option V} {u:Option Value} (r:RelO o u):o.isSome=u.isSome:=by
 cases o with
 | none=>cases u with
  | none=>rfl
  | some _=>exact (show False from r).elim
 | some _=>cases u with
  | none=>exact (show False from r).elim
  | some _=>rfl
theorem RelO.getD {o:Option V} {u:Option Value} {d:V} {d':Value} (r:RelO o u) (rd:RelV d d'):RelV (o.getD d) (u.getD d'):=by
 cases o with
 | none=>cases u with
  | none=>exact rd
  | some _=>exact (show False from r).elim
 | some _=>cases u with
  | none=>exact (show False from r).elim
  | some _=>exact r
theorem KV.val {kvs:List (κ × V)} {vs:List (κ × Value)} (r:KV kvs vs) (k:κ):RelO (Am kvs k) (valueAt vs k):=by
 unfold KV at r
 induction r with
 | nil=>exact True.intro
 | @cons p q ps qs h t ih =>
  obtain ⟨h1,h2⟩:=h
  by_cases e:p.1=k
  ·have e':q.1=k:=h1.symm.trans e
   have b:valueAt (q::qs) k=some q.2:=by simp [valueAt,List.find?_cons,e']
   rw [Fl e,b];exact h2
  ·have e':¬ q.1=k:=fun z=>e (h1.trans z)
   have b:valueAt (q::qs) k=valueAt qs k:=by simp [valueAt,List.find?_cons,e']
   rw [GA e,b];exact ih
theorem KV.any {kvs:List (κ × V)} {vs:List (κ × Value)} (r:KV kvs vs) (k:κ):(kvs.any fun kv=>decide (kv.1=k))=vs.any fun kv=>decide (kv.1=k):=by
 unfold KV at r
 induction r with
 | nil=>rfl
 | cons h t ih=>rw [List.any_cons,List.any_cons,ih,h.1]
theorem KV.repl {kvs:List (κ × V)} {vs:List (κ × Value)} (r:KV kvs vs) (k:κ) {y:V} {u:Value} (ry:RelV y u) :
 KV (kvs.map fun kv=>if kv.1=k then (kv.1,y) else kv) (vs.map fun kv=>if kv.1=k then (kv.1,u) else kv):=by
 unfold KV at r ⊢
 induction r with
 | nil=>exact .nil
 | @cons p q ps qs h t ih =>
  rw [List.map_cons,List.map_cons]
  refine .cons ?_ ih
  obtain ⟨h1,h2⟩:=h
  by_cases e:p.1=k
  ·rw [if_pos e,if_pos (h1.symm.trans e)];exact ⟨h1,ry⟩
  ·rw [if_neg e,if_neg (fun z=>e (h1.trans z))];exact ⟨h1,h2⟩
theorem KV.put {kvs:List (κ × V)} {vs:List (κ × Value)} (r:KV kvs vs) (k:κ) {y:V} {u:Value} (ry:RelV y u):KV (Az kvs k y) (stored vs k u):=by
 unfold Az stored
 rw [r.any k]
 by_cases e:(vs.any fun kv=>decide (kv.1=k))=true
 ·rw [if_pos e,if_pos e];exact r.repl k ry
 ·rw [if_neg e,if_neg e];exact Paired.snoc r ⟨rfl,ry⟩
theorem KV.drop {kvs:List (κ × V)} {vs:List (κ × Value)} (r:KV kvs vs) (k:κ):KV (Ce kvs k) (without vs k):=by
 unfold KV at r ⊢
 unfold Ce without
 induction r with
 | nil=>exact .nil
 | @cons p q ps qs h t ih =>
  obtain ⟨h1,h2⟩:=h
  rw [List.filter_cons,List.filter_cons]
  by_cases e:p.1=k
  ·have a:¬ decide (p.1≠k)=true:=by simp [e]
   have b:¬ decide (q.1≠k)=true:=by simp [h1.symm.trans e]
   rw [if_neg a,if_neg b];exact ih
  ·have e':¬ q.1=k:=fun z=>e (h1.trans z)
   have a:decide (p.1≠k)=true:=by simp [e]
   have b:decide (q.1≠k)=true:=by simp [e']
   rw [if_pos a,if_pos b];exact .cons ⟨h1,h2⟩ ih
theorem KV.length {kvs:List (κ × V)} {vs:List (κ × Value)} (r:KV kvs vs):kvs.length=vs.length:=Paired.length r
theorem ON (kvs:List (κ × V)) (k:κ):(Ce kvs k).length<=kvs.length:=List.length_filter_le _ _
end
theorem DN {P:Program} {w:World} {k:Key} {u:Value} (r:RelV (kV k) u):(Ag P w).is k u=true:=by
 cases k with
 | inl i=>obtain ⟨t,e⟩:=(show ∃ t,u=Value.int i t from r);subst e;exact Ht P w i t
 | inr x=>obtain ⟨t,e⟩:=(show ∃ t,u=Value.str x t from r);subst e;exact J5 P w x t
theorem IM {P:Program} {w:World}:∀ {ks:List Key} {us:List Value},Vals (ks.map kV) us->ItemsAre (Ag P w) ks us
 | [],_,r=>by rw [List.map_nil] at r;cases r;exact .nil
 | k::ks,_,r=>by
  rw [List.map_cons] at r
  cases r with
  | cons h t=>exact .cons (DN h) (IM t)
noncomputable abbrev KT (H:Hp):List (List Key × V)->List (List Key × Addr × Value)->Prop:=Paired fun p q=>p.1=q.1/\H q.2.1=some (.tup (p.1.map kV))/\RelV p.2 q.2.2
theorem KT.val {H:Hp} {kvs:List (List Key × V)} {xs:List (List Key × Addr × Value)} (r:KT H kvs xs) (k:List Key):RelO (Am kvs k) ((atKey xs k).map (·.2)):=by
 induction r with
 | nil=>exact True.intro
 | @cons p q ps qs h t ih =>
  obtain ⟨h1,_,h2⟩:=h
  by_cases e:p.1=k
  ·have e':q.1=k:=h1.symm.trans e
   have b:atKey (q::qs) k=some q.2:=by simp [atKey,List.find?_cons,e']
   rw [Fl e,b];exact h2
  ·have e':¬ q.1=k:=fun z=>e (h1.trans z)
   have b:atKey (q::qs) k=atKey qs k:=by simp [atKey,List.find?_cons,e']
   rw [GA e,b];exact ih
theorem KT.repl {H:Hp} {kvs:List (List Key × V)} {xs:List (List Key × Addr × Value)} (r:KT H kvs xs) (k:List Key) {y:V} {u:Value} (ry:RelV y u) :
 KT H (kvs.map fun kv=>if kv.1=k then (kv.1,y) else kv) (xs.map (putAt k u)):=by
 induction r with
 | nil=>exact .nil
 | @cons p q ps qs h t ih =>
  rw [List.map_cons,List.map_cons]
  refine .cons ?_ ih
  obtain ⟨h1,h2,h3⟩:=h
  unfold putAt
  by_cases e:p.1=k
  ·rw [if_pos e,if_pos (h1.symm.trans e)];exact ⟨h1,h2,ry⟩
  ·rw [if_neg e,if_neg (fun z=>e (h1.trans z))];exact ⟨h1,h2,h3⟩
theorem KT.put {H:Hp} {kvs:List (List Key × V)} {xs:List (List Key × Addr × Value)} (r:KT H kvs xs) (k:List Key) {b:Addr} {y:V} {u:Value} (hb:H b=some (.tup (k.map kV))) (ry:RelV y u) :
 KT H (Az kvs k y) (storedH xs k b u):=by
 have e:(kvs.any fun kv=>decide (kv.1=k))=(atKey xs k).isSome:=by
  rw [Gd,(r.val k).isSome_eq,Option.isSome_map]
 unfold Az storedH
 rw [e]
 by_cases q:(atKey xs k).isSome=true
 ·rw [if_pos q,if_pos q];exact r.repl k ry
 ·rw [if_neg q,if_neg q];exact Paired.snoc r ⟨rfl,hb,ry⟩
theorem KT.keeps {H H':Hp} {kvs:List (List Key × V)} {xs:List (List Key × Addr × Value)} (r:KT H kvs xs) (ht:∀ b ys,H b=some (.tup ys)->H' b=some (.tup ys)):KT H' kvs xs :=
 Paired.mapP r fun _ _ z=>⟨z.1,ht _ _ z.2.1,z.2.2⟩
section
variable {P:Program} {w:World} {H:Hp} {h:Heap} {a:Addr}
theorem JN {u:HO} (ok:HOk P w H h) (e:Rd H a u):ObjOk P w H h a u:=e.ok ok
theorem Do {kvs:List (Key × V)} (ok:HOk P w H h) (e:Rd H a (.dK kvs)):kvs.length<=sizeLine/\(a == sysModules)=false/\∃ vs,KV kvs vs/\h.DictOf (Ag P w) a vs :=
 show ObjOk P w H h a (.dK kvs) from JN ok e
theorem Ea {kvs:List (Key × V)} (ok:HOk P w H h) (e:H a=some (.dK kvs)):kvs.length<=sizeLine/\(a == sysModules)=false/\∃ vs,KV kvs vs/\h.DictOf (Ag P w) a vs:=Do ok (.inl e)
theorem EL {ks:List Key} (ok:HOk P w H h) (e:H a=some (.tup (ks.map kV))):(tupleKind (Ag P w)).is h ks a:=by
 obtain ⟨_,its,r,o,h1,h2,⟨n,h3⟩,_⟩:=(show ObjOk P w H h a (.tup (ks.map kV)) from ok a _ e)
 exact ⟨o,its.toArray,n,h1,h2,h3,by simpa using IM r⟩
theorem D4 {kvs:List (List Key × V)} (ok:HOk P w H h) (e:Rd H a (.dT kvs)):kvs.length<=sizeLine/\(a == sysModules)=false /\
 ∃ xs,KT H kvs xs/\h.DictOfH (tupleKind (Ag P w)) a xs:=by
 obtain ⟨z,y,xs,r,o,es,ep,h1,h2,h3,h4,h5⟩:=(show ObjOk P w H h a (.dT kvs) from JN ok e)
 refine ⟨z,y,xs,r,o,es,ep,h1,h2,h3,h4,fun x hx=>?_,h5⟩
 have all:∀ {l:List (List Key × V)} {m:List (List Key × Addr × Value)},KT H l m->∀ x∈m,(tupleKind (Ag P w)).is h x.1 x.2.1:=by
  intro l m q
  induction q with
  | nil=>intro x hx;exact nomatch hx
  | @cons p q ps qs hq t ih =>
   intro x hx
   rcases List.mem_cons.mp hx with e | hx
   ·subst e
    exact EL ok (by rw [<- hq.1];exact hq.2.1)
   ·exact ih x hx
 exact all r x hx
theorem ML {kvs:List (List Key × V)} (ok:HOk P w H h) (e:H a=some (.dT kvs)):kvs.length<=sizeLine/\(a == sysModules)=false /\
 ∃ xs,KT H kvs xs/\h.DictOfH (tupleKind (Ag P w)) a xs:=D4 ok (.inl e)
end
noncomputable def DGet (H:Hp) (a:Addr) (y:V) (r:Option V):Prop :=
 (∃ kvs k,Rd H a (.dK kvs)/\y=kV k/\r=Am kvs k)\/∃ kvs k b,Rd H a (.dT kvs)/\y=.ref b/\H b=some (.tup (k.map kV))/\r=Am kvs k
noncomputable def DPut (H:Hp) (a:Addr) (y v:V) (H':Hp):Prop :=
 (∃ kvs k,H a=some (.dK kvs)/\y=kV k/\kvs.length < sizeLine/\H'=upd H a (.dK (Az kvs k v))) \/
 ∃ kvs k b,H a=some (.dT kvs)/\y=.ref b/\H b=some (.tup (k.map kV))/\kvs.length < sizeLine/\H'=upd H a (.dT (Az kvs k v))
theorem DGet.k {H:Hp} {a:Addr} {kvs:List (Key × V)} {k:Key} (e:H a=some (.dK kvs)):DGet H a (kV k) (Am kvs k):=.inl ⟨kvs,k,.inl e,rfl,rfl⟩
theorem DGet.t {H:Hp} {a b:Addr} {kvs:List (List Key × V)} {k:List Key} (e:H a=some (.dT kvs)) (eb:H b=some (.tup (k.map kV))):DGet H a (.ref b) (Am kvs k):=.inr ⟨kvs,k,b,.inl e,rfl,eb,rfl⟩
theorem DPut.k {H:Hp} {a:Addr} {kvs:List (Key × V)} {k:Key} {v:V} (e:H a=some (.dK kvs)) (hl:kvs.length < sizeLine):DPut H a (kV k) v (upd H a (.dK (Az kvs k v))):=.inl ⟨kvs,k,e,rfl,hl,rfl⟩
theorem DPut.t {H:Hp} {a b:Addr} {kvs:List (List Key × V)} {k:List Key} {v:V} (e:H a=some (.dT kvs)) (eb:H b=some (.tup (k.map kV))) (hl:kvs.length < sizeLine) :
 DPut H a (.ref b) v (upd H a (.dT (Az kvs k v))):=.inr ⟨kvs,k,b,e,rfl,eb,hl,rfl⟩
section
variable {X:Cx} {pins:List (Addr × Obj)} {σ:St} {H:Hp} {s:Shared} {a:Addr} {y v:V} {u r:Value} {o:Option V} {A:Around} {E:Value->Shared->Prop}
theorem Inv.big (I:Inv X pins σ H s):sysModules < s.heap.objs.size:=by
 have h:mainGlobals < s.heap.objs.size:=(I.mod.glob.keeps I.bk).lt
 exact Nat.lt_trans (by decide) h
theorem MD {Q:Value->Shared->Prop} (hu:A.units+1 < cLine) (I:Inv X pins σ H s) (g:DGet H a y (some v)) (ry:RelV y u) (h:∀ w' s',Inv X pins σ H s'->RelV v w'->Q w' s') :
 wpAny (model X.prog X.w) A (getItem (.ref a) u) Q E s:=by
 rcases g with ⟨kvs,k,e,ey,l⟩ | ⟨kvs,k,b,e,ey,eb,l⟩
 ·subst ey
  obtain ⟨z,hd,vs,rel,dd⟩:=Do I.hok e
  obtain ⟨w',hw,rw'⟩:=RelO.some_of (v:=v) (o:=valueAt vs k) (by rw [l];exact rel.val k)
  exact wpAny_getItem_of (DN ry) dd.mapOf hw (h w' _ (I.tok _) rw')
 ·subst ey
  cases (show u=Value.ref b from ry)
  obtain ⟨z,hd,xs,rel,dd⟩:=D4 I.hok e
  obtain ⟨w',hw,rw'⟩:=RelO.some_of (v:=v) (o:=(atKey xs k).map (·.2)) (by rw [l];exact rel.val k)
  obtain ⟨p,hp,hp2⟩:=Option.map_eq_some_iff.mp hw
  refine wpAny_getItem_heap (tupleKind_room_in1 hu) (EL I.hok eb) dd hp ?_
  rw [hp2]
  exact h w' _ (I.tok _) rw'
theorem EN {h':Heap} {t':Nat} {ob:HO} (I:Inv X pins σ H s) (mu:Mut (H a)) (hs:Heap.SameBut a s.heap h') (he:∃ q,h'.get? a=some q) (new:ObjOk X.prog X.w (upd H a ob) h' a ob) :
 Inv X pins σ (upd H a ob) { s with heap:=h',toks:=t' } :=
 I.write (x:=a) (e:=a) mu (.inl rfl) (fun b q hb z=>(hs.2 b hb).trans z) he new
theorem Gs {P:Program} {w:World} {H':Hp} {h':Heap} {kvs:List (Key × V)} {vs:List (Key × Value)} (z:kvs.length<=sizeLine) (hd:(a == sysModules)=false) (rel:KV kvs vs) (dd:h'.DictOf (Ag P w) a vs) :
 ObjOk P w H' h' a (.dK kvs):=⟨z,hd,vs,rel,dd⟩
theorem Lx {H':Hp} {Q:Unit->Shared->Prop} (hu:A.units+1 < cLine) (I:Inv X pins σ H s) (g:DPut H a y v H') (ry:RelV y u) (rv:RelV v r) (h:∀ s',Inv X pins σ H' s'->Q () s') :
 wpAny (model X.prog X.w) A (setItem (.ref a) u r) Q E s:=by
 rcases g with ⟨kvs,k,e,ey,l,eH⟩ | ⟨kvs,k,b,e,ey,eb,l,eH⟩
 ·subst ey eH
  obtain ⟨z,hd,vs,rel,dd⟩:=Ea I.hok e
  have hz:vs.length<=sizeLine:=by rw [<- rel.length];exact z
  have hl:(Az kvs k v).length<=sizeLine:=by have:=Gf kvs k v;lia
  refine wpAny_setItem_pairs (hsz:=hz) (DN ry) dd fun h' dd' hs=>h _ ?_
  have he:∃ q,h'.get? a=some q:=let ⟨q,_,_,hq,_⟩:=dd';⟨q,hq⟩
  exact EN I (by rw [e];exact True.intro) hs he (Gs hl hd (rel.put k rv) dd')
 ·subst ey eH
  cases (show u=Value.ref b from ry)
  obtain ⟨z,hd,xs,rel,dd⟩:=ML I.hok e
  have hz:xs.length<=sizeLine:=by rw [<- Paired.length rel];exact z
  have hl:(Az kvs k v).length<=sizeLine:=by have:=Gf kvs k v;lia
  refine wpAny_setItem_heap (hsz:=hz) (tupleKind_room_in1 hu) (EL I.hok eb) dd fun h' dd' hs=>h _ ?_
  obtain ⟨q,es,ep,hq,h2,h3,h4,_,h5⟩:=dd'
  refine EN I (by rw [e];exact True.intro) hs ⟨q,hq⟩ ⟨hl,hd,_,(rel.put k eb rv).keeps fun c ys ec=>?_,q,es,ep,hq,h2,h3,h4,h5⟩
  rw [AK (Ep ec e (fun z=>nomatch z))]
  exact ec
end
section
variable {X:Cx} {pins:List (Addr × Obj)} {σ:St} {H:Hp} {s:Shared} {a:Addr} {kvs:List (Key × V)} {k:Key} {u:Value} {A:Around} {E:Value->Shared->Prop}
theorem Kd {v:V} {more:List Value} {Q:Value->Shared->Prop} (I:Inv X pins σ H s) (e:H a=some (.dK kvs)) (ry:RelV (kV k) u) (l:Am kvs k=some v) (hm:more=[]\/∃ x,more=[x])
 (h:∀ w' s',Inv X pins σ (upd H a (.dK (Ce kvs k))) s'->RelV v w'->Q w' s'):wpAny (model X.prog X.w) A (call (.builtin "dict.pop") (.ref a::u::more)) Q E s:=by
 obtain ⟨z,hd,vs,rel,dd⟩:=Ea I.hok e
 obtain ⟨w',hw,rw'⟩:=RelO.some_of (v:=v) (o:=valueAt vs k) (by rw [<- l];exact rel.val k)
 have hp:(keyPart u).isSome=true:=by
  cases k with
  | inl i=>obtain ⟨t,q⟩:=(show ∃ t,u=Value.int i t from ry);subst q;rfl
  | inr x=>obtain ⟨t,q⟩:=(show ∃ t,u=Value.str x t from ry);subst q;rfl
 have ha:argsOk "dict.pop" ⟨.ref a::u::more,[]⟩:=by
  rcases hm with q | ⟨x,q⟩
  ·subst q;exact PySem.F.args_dict_pop_2 _ _
  ·subst q;exact PySem.F.args_dict_pop_3 _ _ _
 refine call_meetsIn PySem.F.slot_dict_pop dd.typeIs PySem.F.entry_dict_pop ha (meets_dict_pop_there (Ag X.prog X.w) a (DN ry) more hm hp)
  ⟨vs,w',dd,by rw [<- rel.length];exact z,hw,fun h' dd' hs=>h w' _ ?_ rw'⟩
 have he:∃ q,h'.get? a=some q:=let ⟨q,_,_,hq,_⟩:=dd';⟨q,hq⟩
 exact EN I (by rw [e];exact True.intro) hs he (Gs (Nat.le_trans (ON kvs k) z) hd (rel.drop k) dd')
theorem Mx {r:Value} {Q:Value->Shared->Prop} (I:Inv X pins σ H s) (e:H a=some (.dK kvs)) (ry:RelV (kV k) u) (l:Am kvs k=none) (h:∀ s',Inv X pins σ H s'->Q r s') :
 wpAny (model X.prog X.w) A (call (.builtin "dict.pop") [.ref a,u,r]) Q E s:=by
 obtain ⟨z,hd,vs,rel,dd⟩:=Ea I.hok e
 have hn:valueAt vs k=none:=RelO.none_of (by rw [<- l];exact rel.val k)
 have hp:(keyPart u).isSome=true:=by
  cases k with
  | inl i=>obtain ⟨t,q⟩:=(show ∃ t,u=Value.int i t from ry);subst q;rfl
  | inr x=>obtain ⟨t,q⟩:=(show ∃ t,u=Value.str x t from ry);subst q;rfl
 exact call_meetsIn PySem.F.slot_dict_pop dd.typeIs PySem.F.entry_dict_pop (PySem.F.args_dict_pop_3 _ _ _) (meets_dict_pop_default (Ag X.prog X.w) a (DN ry) hd hp r) ⟨vs,dd,hn,h _ (I.tok _)⟩
end
noncomputable def EZ (i:Expr):Prop:=∀ ov iv,subscripted i false ov iv=operate [ov,iv] (getItem ov iv)
theorem Gx {prog:Program} {w:World} {A:Around} {E:Value->Shared->Prop} {s:Shared} {env:Env} {value slice:Expr} {pos:Pos} {T id:String} {Q:Value->Shared->Prop}
 (hl:typeLookup (.type T) "__getitem__" = pure (some (.builtin id))) (hs:EZ slice)
 (h:wpAny (model prog w) A (eval value env) (fun o s₁=>wpAny (model prog w) A (eval slice env) (fun i s₂=>s₂.TypeIs o T/\wpAny (model prog w) A (getItem o i) Q E s₂) E s₁) E s) :
 wpAny (model prog w) A (eval (.Subscript value slice pos) env) Q E s:=by
 refine Subscript_ (wpAny_mono h (fun o s₁ h₁=>wpAny_mono h₁ (fun i s₂ h₂=>?_) fun _ _ x=>x) fun _ _ x=>x)
 obtain ⟨hT,h₂⟩:=h₂
 unfold subscriptTail
 refine wpAny_bind ?_
 rw [getitemInPython_of_ne hT.not_modules]
 refine wpAny_bind (wpAny_specialOf hT hl ?_)
 have fin:wpAny (model prog w) A (subscripted slice false o i) (fun r s₃=>wpAny (model prog w) A (letTemporaryGo value o r >>= fun _=>pure r) Q E s₃) E s₂:=by
  rw [hs o i]
  exact wpAny_operating (wpAny_mono h₂ (fun r s₃ h₃=>wpAny_bind (wpAny_letTemporaryGo (wpAny_pure h₃))) fun _ _ x=>x)
 first
  | exact wpAny_pure (wpAny_bind fin)
  | exact wpAny_bind (wpAny_pure (wpAny_bind fin))
  | exact wpAny_bind fin
theorem Kk {X:Cx} {pins:List (Addr × Obj)} {σ:St} {H:Hp} {s:Shared} {a:Addr} {y:V} {o:Option V} (I:Inv X pins σ H s) (g:DGet H a y o):s.TypeIs (.ref a) "dict":=by
 rcases g with ⟨kvs,k,e,_,_⟩ | ⟨kvs,k,b,e,_,_,_⟩
 ·obtain ⟨_,_,vs,_,dd⟩:=Do I.hok e
  exact dd.typeIs
 ·obtain ⟨_,_,xs,_,dd⟩:=D4 I.hok e
  exact dd.typeIs
noncomputable def OY (td ty:TE):TE:=fun σ H Q=>td σ H fun x H1=>ty σ H1 fun y H2=>∃ a v,x=.ref a/\DGet H2 a y (some v)/\Q v H2
noncomputable def HE (td ty tv:TE):TS:=fun D σ H=>tv σ H fun v H1=>td σ H1 fun x H2=>ty σ H2 fun y H3=>∃ a H4,x=.ref a/\DPut H3 a y v H4/\D.nx σ H4
section
variable {X:Cx} {o i e value:Expr} {pos pos' tpos:Pos} {td ty tv:TE}
theorem HF (hu:X.A.units+1 < cLine) (ho:PE X o td) (hi:PE X i ty) (hs:EZ i):PE X (.Subscript o i pos) (OY td ty):=by
 intro pins s σ H Q I h
 refine Gx PySem.F.slot_dict_getitem.lookup hs (thn (ho pins s σ H _ I h) fun u s1 ⟨x,H1,I1,rx,q1⟩=>thn (hi pins s1 σ H1 _ I1 q1) fun iv s2 ⟨y,H2,I2,ry,a,v,ex,g,q2⟩=>?_)
 subst ex
 obtain rfl:u=Value.ref a:=rx
 exact ⟨Kk I2 g,MD hu I2 g ry fun w' s3 I3 rw'=>⟨v,H2,I3,rw',q2⟩⟩
theorem GX (hu:X.A.units+1 < cLine) (ho:PE X o td) (hi:PE X i ty) (hv:PE X value tv) (hs:swapsWith value (some (.Subscript o i pos')) pos.line X.env=pure false) :
 PS X (.Assign [.Subscript o i pos'] value pos) (HE td ty tv):=by
 intro pins s σ H D I h
 refine wpAny_Assign_Subscript (thn (hv pins s σ H _ I h) fun r s1 ⟨v,H1,I1,rv,q1⟩=>thn (ho pins s1 σ H1 _ I1 q1) fun u s2 ⟨x,H2,I2,rx,q2⟩=>thn (hi pins s2 σ H2 _ I2 q2) fun iv s3 ⟨y,H3,I3,ry,a,H4,ex,g,q3⟩=>?_) hs
 subst ex
 obtain rfl:u=Value.ref a:=rx
 exact Lx hu I3 g ry rv fun s4 I4=>⟨σ,H4,I4,q3⟩
end
theorem O7 {P:Program} {w:World} {H:Hp} (h:Heap) (hb:sysModules < h.objs.size):ObjOk P w H (h.push { cls:=.type "dict",data:=.dict #[] }) h.objs.size (.dK []) :=
 ⟨Nat.zero_le _,beq_eq_false_iff_ne.mpr (Ne.symm (Nat.ne_of_lt hb)),[],.nil,Heap.DictOf.new h⟩
noncomputable def NL:TE:=fun _ H Q=>∀ p,H p=none->Q (.ref p) (upd H p (.dK []))
section
variable {X:Cx} {pos:Pos}
theorem N8:PE X (.Dict [] [] pos) NL:=fun pins s σ H Q I h =>
 wpAny_Dict_empty ⟨.ref s.heap.objs.size,_,I.laid (a:=s.heap.objs.size) (o:=.dK []) (t':=s.toks) (fun _ _ q=>Heap.get?_push_of_some _ q) (Nat.le_refl _) (O7 s.heap I.big),rfl,h _ (I.hok.fresh (Nat.le_refl _))⟩
end
structure M1 (X:Cx) (o:Expr) (m:Str) (apos:Pos) (e:Expr) (cpos:Pos):Prop where
 base:attributeBase o m X.env (eval o X.env)=eval o X.env
 few:((backTo cpos (starEach [e] X.env)).all (fun x=>!x.1) && (backToKw cpos (keywordEach [] X.env)).all (fun x=>x.1.isSome)
  && decide (([e]:List Expr).length+([]:List Keyword).length+(if ([]:List Keyword).isEmpty then 0 else 1) < 30))=true
 line:(apos.endLine == cpos.line)=true
 trees:backTo cpos (starEach [e] X.env)=[(false,eval e X.env)]
structure M2 (X:Cx) (o:Expr) (m:Str) (apos:Pos) (e f:Expr) (cpos:Pos):Prop where
 base:attributeBase o m X.env (eval o X.env)=eval o X.env
 few:((backTo cpos (starEach [e,f] X.env)).all (fun x=>!x.1) && (backToKw cpos (keywordEach [] X.env)).all (fun x=>x.1.isSome)
  && decide (([e,f]:List Expr).length+([]:List Keyword).length+(if ([]:List Keyword).isEmpty then 0 else 1) < 30))=true
 line:(apos.endLine == cpos.line)=true
 trees:backTo cpos (starEach [e,f] X.env)=[(false,eval e X.env),(false,eval f X.env)]
noncomputable def IsD (H:Hp) (a:Addr):Prop:=(∃ kvs,Rd H a (.dK kvs))\/∃ kvs,Rd H a (.dT kvs)
theorem IQ {X:Cx} {pins:List (Addr × Obj)} {σ:St} {H:Hp} {s:Shared} {a:Addr} (I:Inv X pins σ H s) (d:IsD H a) :
 s.TypeIs (.ref a) "dict" /\ (∀ b,Value.ref a=.ref b->∃ ob,s.heap.get? b=some ob/\ob.dict=none)/\(a == sysModules)=false:=by
 rcases d with ⟨kvs,e⟩ | ⟨kvs,e⟩
 ·obtain ⟨_,hd,vs,_,dd⟩:=Do I.hok e
  refine ⟨dd.typeIs,fun b q=>?_,hd⟩
  cases q
  obtain ⟨ob,_,_,h1,h2,_⟩:=dd
  exact ⟨ob,h1,h2.2.1⟩
 ·obtain ⟨_,hd,xs,_,dd⟩:=D4 I.hok e
  refine ⟨dd.typeIs,fun b q=>?_,hd⟩
  cases q
  obtain ⟨ob,_,_,h1,h2,_⟩:=dd
  exact ⟨ob,h1,h2.2.1⟩
section
variable {X:Cx} {pins:List (Addr × Obj)} {σ:St} {H:Hp} {s:Shared} {a:Addr} {y d:V} {u r:Value} {o:Option V} {A:Around} {E:Value->Shared->Prop}
theorem Kx {Q:Value->Shared->Prop} (hu:A.units+1 < cLine) (I:Inv X pins σ H s) (g:DGet H a y o) (ry:RelV y u) (rd:RelV d r) (h:∀ w' s',Inv X pins σ H s'->RelV (o.getD d) w'->Q w' s') :
 wpAny (model X.prog X.w) A (call (.builtin "dict.get") [.ref a,u,r]) Q E s:=by
 rcases g with ⟨kvs,k,e,ey,l⟩ | ⟨kvs,k,b,e,ey,eb,l⟩
 ·subst ey
  obtain ⟨z,hd,vs,rel,dd⟩:=Do I.hok e
  refine call_meetsIn PySem.F.slot_dict_get dd.typeIs PySem.F.entry_dict_get (PySem.F.args_dict_get_3 _ _ _) (meets_dict_get_default (Ag X.prog X.w) a (DN ry) hd r) ⟨_,dd.mapOf,h _ _ (I.tok _) ?_⟩
  rw [l]
  exact (rel.val k).getD rd
 ·subst ey
  cases (show u=Value.ref b from ry)
  obtain ⟨z,hd,xs,rel,dd⟩:=D4 I.hok e
  refine call_meetsIn PySem.F.slot_dict_get dd.typeIs PySem.F.entry_dict_get (PySem.F.args_dict_get_3 _ _ _) (meetsH_dict_get_default (tupleKind (Ag X.prog X.w)) a b hd r) ⟨tupleKind_room_in1 hu,k,xs,EL I.hok eb,dd,h _ _ (I.tok _) ?_⟩
  rw [l]
  exact (rel.val k).getD rd
end
noncomputable def Ih (td ty tx:TE):TE:=fun σ H Q=>td σ H fun x H1=>∃ a,x=.ref a/\IsD H1 a/\ty σ H1 fun y H2=>tx σ H2 fun z H3=>∃ o,DGet H3 a y o/\Q (o.getD z) H3
noncomputable def JH (td ty tx:TE):TE:=fun σ H Q=>td σ H fun x H1=>∃ a,x=.ref a/\IsD H1 a/\ty σ H1 fun y H2=>tx σ H2 fun z H3=>∃ kvs k,H3 a=some (.dK kvs)/\y=kV k /\
 (∀ v,Am kvs k=some v->Q v (upd H3 a (.dK (Ce kvs k))))/\(Am kvs k=none->Q z H3)
section
variable {X:Cx} {o e f:Expr} {apos cpos:Pos} {td ty tx:TE}
theorem IT (hu:X.A.units+1 < cLine) (ho:PE X o td) (he:PE X e ty) (hf:PE X f tx) (m:M2 X o "get" apos e f cpos):PE X (.Call (.Attribute o "get" apos) [e,f] [] cpos) (Ih td ty tx):=by
 intro pins s σ H Q I h
 refine wpAny_Call_method m.base m.few m.line PySem.F.plainAttrs_dict PySem.F.slot_dict_get PySem.F.type_dict_get (thn (ho pins s σ H _ I h) fun u s1 ⟨x,H1,I1,rx,a,ex,d,q1⟩=>?_)
 subst ex
 obtain rfl:u=Value.ref a:=rx
 obtain ⟨t1,t2,_⟩:=IQ I1 d
 refine ⟨t1,t2,?_⟩
 rw [m.trees]
 refine Calls.callWith_builtin rfl (Calls.evalArgs_plain (Calls.spliced_cons (thn (he pins s1 σ H1 _ I1 q1) fun iv s2 ⟨y,H2,I2,ry,q2⟩ =>
  Calls.spliced_cons (thn (hf pins s2 σ H2 _ I2 q2) fun fv s3 ⟨z,H3,I3,rz,ov,g,q3⟩=>Calls.spliced_nil ?_))))
 exact Kx hu I3 g ry rz fun w' s4 I4 rw'=>⟨_,H3,I4,rw',q3⟩
theorem OU (ho:PE X o td) (he:PE X e ty) (hf:PE X f tx) (m:M2 X o "pop" apos e f cpos):PE X (.Call (.Attribute o "pop" apos) [e,f] [] cpos) (JH td ty tx):=by
 intro pins s σ H Q I h
 refine wpAny_Call_method m.base m.few m.line PySem.F.plainAttrs_dict PySem.F.slot_dict_pop PySem.F.type_dict_pop (thn (ho pins s σ H _ I h) fun u s1 ⟨x,H1,I1,rx,a,ex,d,q1⟩=>?_)
 subst ex
 obtain rfl:u=Value.ref a:=rx
 obtain ⟨t1,t2,_⟩:=IQ I1 d
 refine ⟨t1,t2,?_⟩
 rw [m.trees]
 refine Calls.callWith_builtin rfl (Calls.evalArgs_plain (Calls.spliced_cons (thn (he pins s1 σ H1 _ I1 q1) fun iv s2 ⟨y,H2,I2,ry,q2⟩ =>
  Calls.spliced_cons (thn (hf pins s2 σ H2 _ I2 q2) fun fv s3 ⟨z,H3,I3,rz,kvs,k,ea,ey,q3,q4⟩=>Calls.spliced_nil ?_))))
 subst ey
 cases l:Am kvs k with
 | some v=>exact Kd I3 ea ry l (.inr ⟨fv,rfl⟩) fun w' s4 I4 rw'=>⟨v,_,I4,rw',q3 v l⟩
 | none=>exact Mx I3 ea ry l fun s4 I4=>⟨z,H3,I4,rz,q4 l⟩
end
section
variable {X:Cx} {pins:List (Addr × Obj)} {σ:St} {H:Hp} {s:Shared} {a:Addr} {kvs:List (Key × V)} {A:Around} {E:Value->Shared->Prop}
end
section
variable {X:Cx} {pins:List (Addr × Obj)} {σ:St} {H:Hp} {s:Shared} {a:Addr} {y:V} {u:Value} {A:Around} {E:Value->Shared->Prop}
end
theorem NG {M:Model} {A:Around} {E:Value->Shared->Prop} {s:Shared} {b:Bool} {Q:Int->Shared->Prop} (h:Q (if b=true then 1 else 0) s):wpAny M A (Builtin.Int.intOfSelf (.bool b)) Q E s:=by
 unfold Builtin.Int.intOfSelf
 exact wpAny_pure h
theorem M5 {prog:Program} {w:World} {A:Around} {E:Value->Shared->Prop} {s:Shared} {b:Bool} {Q:Int->Shared->Prop} (h:Q (if b=true then 1 else 0) { s with toks:=s.toks+1 }):wpAny (model prog w) A (pyHash (.bool b)) Q E s:=by
 show wpAny _ _ (pyHashByItsType (.bool b)) _ _ _
 refine PySem.W.pyHash_slot (T:="bool") rfl PySem.F.slot_bool_hash PySem.F.entry_int_hash (PySem.F.args_int_hash_1 _) rfl (.inl rfl) ?_
 unfold Builtin.«int.__hash__» Builtin.Int.intSlot0
 refine wpAny_bind (wpAny_bind ?_)
 show wpAny _ _ (pure (Value.bool b,[])) _ _ _
 refine wpAny_pure (wpAny_bind (NG (wpAny_pure ?_)))
 cases b with
 | true=>exact wpAny_bind (wpAny_mkInt (wpAny_pure ⟨_,_,rfl,h⟩))
 | false=>exact wpAny_bind (wpAny_mkInt (wpAny_pure ⟨_,_,rfl,h⟩))
noncomputable def FY:Bool->Value->Bool
 | b,.bool c=>b == c
 | _,_=>false
theorem CW {b:Bool} {v:Value} (h:FY b v=true):v=.bool b:=by
 unfold FY at h
 split at h
 ·rw [beq_iff_eq.mp h]
 ·cases h
noncomputable def Ck (prog:Program) (w:World):PySem.KeyKind prog w Bool where
 is:=FY
 hash:=fun b=>if b=true then 1 else 0
 inj:=fun v a b ha hb=>by
  have e1:=CW ha
  have e2:=CW hb
  rw [e1] at e2
  injection e2
 byValue:=fun k v h=>by rw [CW h];rfl
 pyHash:=fun hv h=>by rw [CW hv];exact M5 h
 eqBool:=fun {A E s a b u v Q} hu hv h=>by
  rw [CW hu,CW hv]
  refine SeqAt.EqAt.bool_bool a b _ _ _ _ ?_
  have e:(a == b)=decide (a=b):=by cases a <;> cases b <;> rfl
  rw [e];exact h
 «strs»:=fun k x t v h=>by
  have:=CW h
  cases this
noncomputable abbrev BX:=List (List Bool × Addr × Bool)
noncomputable def bxv (xs:BX):List (List Bool × Addr × Value):=xs.map fun q=>(q.1,q.2.1,Value.bool q.2.2)
noncomputable def dB (P:Program) (w:World) (a:Addr) (xs:BX):HO:=.ext fun h=>∃ o es ep,h.get? a=some o/\o.ExactDict/\o.data=.dict es ep/\es.toList=(bxv xs).map (entryOfKey (tupleKind (Ck P w)))/\((bxv xs).map (·.1)).Nodup/\xs.length<=sizeLine/\(a == sysModules)=false
noncomputable def BP (H:Hp) (xs:BX):Prop:=∀ q∈xs,H q.2.1=some (.tup (q.1.map V.bl))
theorem Gy {P:Program} {w:World}:∀ {ks:List Bool} {us:List Value},Vals (ks.map V.bl) us->PySem.ItemsAre (Ck P w) ks us
 | [],_,r=>by rw [List.map_nil] at r;cases r;exact .nil
 | k::ks,_,r=>by
  rw [List.map_cons] at r
  cases r with
  | cons h t =>
   refine .cons ?_ (Gy t)
   rw [show _=Value.bool k from h]
   show (k == k)=true
   simp
section
variable {P:Program} {w:World} {H:Hp} {h:Heap} {a:Addr}
theorem Ed {ks:List Bool} (ok:HOk P w H h) (e:H a=some (.tup (ks.map V.bl))):(tupleKind (Ck P w)).is h ks a:=by
 obtain ⟨_,its,r,o,h1,h2,⟨n,h3⟩,_⟩:=(show ObjOk P w H h a (.tup (ks.map V.bl)) from ok a _ e)
 exact ⟨o,its.toArray,n,h1,h2,h3,by simpa using Gy r⟩
theorem GU {xs:BX} (ok:HOk P w H h) (e:H a=some (dB P w a xs)) (hk:BP H xs):xs.length<=sizeLine/\(a == sysModules)=false/\h.DictOfH (tupleKind (Ck P w)) a (bxv xs):=by
 obtain ⟨⟨o,es,ep,h1,h2,h3,h4,h5,h6,h7⟩,_⟩:=(show ObjOk P w H h a (dB P w a xs) from ok a _ e)
 refine ⟨h6,h7,o,es,ep,h1,h2,h3,h4,fun x hx=>?_,h5⟩
 obtain ⟨q,hq,rfl⟩:=List.mem_map.mp hx
 exact Ed ok (hk q hq)
theorem IB {xs:BX} {H':Hp} (hl:xs.length<=sizeLine) (hd:(a == sysModules)=false) (dd:h.DictOfH (tupleKind (Ck P w)) a (bxv xs)):ObjOk P w H' h a (dB P w a xs):=by
 obtain ⟨o,es,ep,h1,h2,h3,h4,_,h5⟩:=dd
 refine ⟨⟨o,es,ep,h1,h2,h3,h4,h5,hl,hd⟩,⟨o,h1⟩,fun g1 g2 ⟨o,es,ep,h1,h2,h3,h4,h5,h6,h7⟩ k=>⟨o,es,ep,k _ h1,h2,h3,h4,h5,h6,h7⟩⟩
end
noncomputable def Bi (xs:BX) (ks:List Bool):Bool:=xs.any fun q=>decide (q.1=ks)
theorem GC (xs:BX) (ks:List Bool):(atKey (bxv xs) ks).isSome=Bi xs ks:=by
 unfold atKey bxv Bi
 induction xs with
 | nil=>rfl
 | cons q r ih =>
  rw [List.map_cons,List.find?_cons,List.any_cons]
  by_cases e:q.1=ks
  ·simp [e]
  ·simp only [e,decide_false,Bool.false_or];exact ih
section
variable {X:Cx} {o i e value:Expr} {pos pos' tpos:Pos} {td ty tv:TE}
noncomputable def EF (P:Program) (w:World):R2:=fun x y H Q=>match x,y with
 | .ref b,.ref a=>∃ xs ks,H b=some (.tup (ks.map V.bl))/\H a=some (dB P w a xs)/\BP H xs/\Q (.bl (!Bi xs ks)) H
 | _,_=>False
theorem OR (hu:X.A.units+60 < cLine):OpR X (compareOp .NotIn) (EF X.prog X.w):=by
 intro pins s σ H x y v u Q I rx ry q
 cases x <;> cases y <;> first
  | exact False.elim q
  | (obtain ⟨xs,ks,h1,h2,h3,q⟩:=q
     cases (show v=Value.ref _ from rx)
     cases (show u=Value.ref _ from ry)
     obtain ⟨z,hd,dd⟩:=GU I.hok h2 h3
     refine wpAny_notIn_heap (tupleKind_room_in1 (by lia)) (Ed I.hok h1) hd dd ?_
     rw [GC]
     exact ⟨.bl (!Bi xs ks),H,I.tok _,rfl,q⟩)
noncomputable def EA (P:Program) (w:World):R2:=fun x y H Q=>match x,y with
 | .ref a,.ref b=>∃ xs ks c v,H b=some (.tup (ks.map V.bl))/\H a=some (dB P w a xs)/\BP H xs/\atKey (bxv xs) ks=some (c,.bool v)/\Q (.bl v) H
 | _,_=>False
theorem MZ (hu:X.A.units+60 < cLine) (ho:PE X o td) (hi:PE X i ty) (hs:EZ i:=by intro _ _;rfl):PE X (.Subscript o i pos) (tOp (EA X.prog X.w) td ty):=by
 intro pins s σ H Q I h
 refine Gx PySem.F.slot_dict_getitem.lookup hs (thn (ho pins s σ H _ I h) fun u s1 ⟨x,H1,I1,rx,q1⟩=>thn (hi pins s1 σ H1 _ I1 q1) fun iv s2 ⟨y,H2,I2,ry,q⟩=>?_)
 cases x <;> cases y <;> first
  | exact False.elim q
  | (obtain ⟨xs,ks,c,v,h1,h2,h3,h4,q⟩:=q
     cases (show u=Value.ref _ from rx)
     cases (show iv=Value.ref _ from ry)
     obtain ⟨z,hd,dd⟩:=GU I2.hok h2 h3
     exact ⟨dd.typeIs,wpAny_getItem_heap (tupleKind_room_in1 (by lia)) (Ed I2.hok h1) dd h4 ⟨.bl v,H2,I2.tok _,rfl,q⟩⟩)
noncomputable def EM (P:Program) (w:World):Cb:=fun o i v H Q=>match o,i,v with
 | .ref a,.ref b,.bl v=>∃ xs ks,H b=some (.tup (ks.map V.bl))/\H a=some (dB P w a xs)/\BP H xs/\Bi xs ks=false/\xs.length < sizeLine/\Q (upd H a (dB P w a (xs++[(ks,b,v)])))
 | _,_,_=>False
theorem Kh (hu:X.A.units+60 < cLine):D3 X (EM X.prog X.w):=by
 intro pins s σ H o i v ov iv u Q I ro ri rv h
 cases o <;> cases i <;> cases v <;> first
  | exact False.elim h
  | (obtain ⟨xs,ks,h1,h2,h3,h4,h5,q⟩:=h
     cases (show ov=Value.ref _ from ro)
     cases (show iv=Value.ref _ from ri)
     cases (show u=Value.bool _ from rv)
     obtain ⟨z,hd,dd⟩:=GU I.hok h2 h3
     refine wpAny_setItem_heap (hsz:=by unfold bxv;rw [List.length_map];exact z) (tupleKind_room_in1 (by lia)) (Ed I.hok h1) dd fun h' dd' hs=>?_
     rw [show storedH (bxv xs) ks _ _=bxv (xs++[(ks,_,_)]) by
      unfold storedH
      rw [GC,h4,if_neg (by decide)]
      unfold bxv
      rw [List.map_append];rfl] at dd'
     have he:∃ q,h'.get? _=some q:=let ⟨q,_,_,hq,_⟩:=dd';⟨q,hq⟩
     exact ⟨_,EN I (by rw [h2];exact True.intro) hs he (IB (by rw [List.length_append];exact h5) hd dd'),q⟩)
noncomputable def FT (P:Program) (w:World):TE:=fun _ H Q=>∀ p,H p=none->Q (.ref p) (upd H p (dB P w p []))
theorem Mn {pos:Pos}:PE X (.Dict [] [] pos) (FT X.prog X.w):=fun pins s σ H Q I h =>
 wpAny_Dict_empty ⟨.ref s.heap.objs.size,_,I.laid (a:=s.heap.objs.size) (o:=dB X.prog X.w s.heap.objs.size []) (t':=s.toks) (fun _ _ q=>Heap.get?_push_of_some _ q) (Nat.le_refl _)
  (IB (Nat.zero_le _) (beq_eq_false_iff_ne.mpr (Ne.symm (Nat.ne_of_lt I.big))) ⟨_,#[],0,Heap.get?_push_size _ rfl,⟨rfl,rfl,rfl⟩,rfl,rfl,(fun x hx=>by cases hx),List.nodup_nil⟩),rfl,h _ (I.hok.fresh (Nat.le_refl _))⟩
end
section
variable {X:Cx} {P:Program} {w:World} {o i:Expr} {pos:Pos} {td ty:TE}
theorem Mo (hP:X.prog=P:=by rfl) (hw:X.w=w:=by rfl):PE X (.Dict [] [] pos) (FT P w):=by subst hP hw;exact Mn
theorem Mc (hu:X.A.units+60 < cLine) (hP:X.prog=P:=by rfl) (hw:X.w=w:=by rfl):OpR X (compareOp .NotIn) (EF P w):=by subst hP hw;exact OR hu
theorem NP (hu:X.A.units+60 < cLine) (ho:PE X o td) (hi:PE X i ty) (hs:EZ i:=by intro _ _;rfl) (hP:X.prog=P:=by rfl) (hw:X.w=w:=by rfl):PE X (.Subscript o i pos) (tOp (EA P w) td ty):=by subst hP hw;exact MZ hu ho hi hs
theorem J8 (hu:X.A.units+60 < cLine) (hP:X.prog=P:=by rfl) (hw:X.w=w:=by rfl):D3 X (EM P w):=by subst hP hw;exact Kh hu
end
theorem Kn {P w}:BM (EF P w):=fun x y H Q Q' h q=>by
 unfold EF at *
 split at q
 ·obtain ⟨xs,ks,a,b,c,q⟩:=q;exact ⟨xs,ks,a,b,c,h _ _ q⟩
 ·exact q.elim
theorem J6 {P w}:BM (EA P w):=fun x y H Q Q' h q=>by
 unfold EA at *
 split at q
 ·obtain ⟨xs,ks,c,v,a,b,d,e,q⟩:=q;exact ⟨xs,ks,c,v,a,b,d,e,h _ _ q⟩
 ·exact q.elim
theorem M6 {P w}:Fm (EM P w):=fun o i v H Q Q' h q=>by
 unfold EM at *
 split at q
 ·obtain ⟨xs,ks,a,b,c,d,e,q⟩:=q;exact ⟨xs,ks,a,b,c,d,e,h _ q⟩
 ·exact q.elim
theorem LQ {P w}:AR (FT P w):=fun σ H Q Q' h q=>fun p hp=>h _ _ (q p hp)
section
variable {X:Cx} {K:W.Frag} {o:Expr} {to:TE} {apos cpos:Pos}
end
section
variable {X:Cx}
end
noncomputable def TyS (K:W.Frag) (H:Hp) (x:V) (t:String):Prop:=match x with
 | .int _=>t = "int"
 | .bl _=>t = "bool"
 | .ref a=>(t = "tuple" /\ ∃ xs,SqT K H a xs)\/(t = "list" /\ ∃ xs,SqL K H a xs)
 | _=>False
noncomputable def Ar (t T:String):Bool:=t == T || (t == "bool" && T == "int")
noncomputable def JT (K:W.Frag):List V->Hp->VK->Prop:=fun xs H Q=>match xs with
 | [x,.ty T]=>T∈["int","bool","tuple","list"]/\∃ t,TyS K H x t/\Q (.bl (Ar t T)) H
 | [x,.ref tp]=>∃ t,H tp=some (.tup [.ty "tuple",.ty "list"])/\TyS K H x t/\Q (.bl (t == "tuple" || t == "list")) H
 | _=>False
section
variable {X:Cx} {K:W.Frag}
theorem OZ {K:W.Frag} {t T:String} (ht:t = "int" \/ t = "bool" \/ t = "tuple" \/ t = "list") (hT:T∈["int","bool","tuple","list"]):PySem.W.kitOne K (.type t) (.type T)=some (Ar t T):=by
 simp only [List.mem_cons,List.mem_nil_iff,or_false] at hT
 rcases ht with rfl | rfl | rfl | rfl <;> rcases hT with rfl | rfl | rfl | rfl <;> rfl
theorem Kz {K:W.Frag} {t:String} (ht:t = "int" \/ t = "bool" \/ t = "tuple" \/ t = "list"):PySem.W.kitAny K (.type t) [.type "tuple",.type "list"]=some (t == "tuple" || t == "list"):=by
 rcases ht with rfl | rfl | rfl | rfl <;> rfl
theorem GE {pins:List (Addr × Obj)} {σ:St} {H:Hp} {s:Shared} {x:V} {u:Value} {t:String} (I:Inv X pins σ H s) (rx:RelV x u) (h:TyS X.K H x t) :
 (t = "int" \/ t = "bool" \/ t = "tuple" \/ t = "list")/\u≠Value.builtin "__main__.__loader__#opaque" /\ ∃ Hh:Heap->Prop,PySem.W.KitX X.K u (.type t) Hh/\Hh s.heap:=by
 cases x with
 | int i =>
  obtain ⟨k,rfl⟩:=(show ∃ t,u=Value.int i t from rx)
  cases (show t = "int" from h)
  exact ⟨.inl rfl,(fun z=>nomatch z),_,PySem.W.kitx_int,True.intro⟩
 | bl b =>
  cases (show u=Value.bool b from rx)
  cases (show t = "bool" from h)
  exact ⟨.inr (.inl rfl),(fun z=>nomatch z),_,PySem.W.kitx_bool,True.intro⟩
 | ref a =>
  cases (show u=Value.ref a from rx)
  rcases h with ⟨rfl,xs,hq⟩ | ⟨rfl,xs,hq⟩
  ·obtain ⟨its,rv,p,_⟩:=I.tuple hq
   obtain ⟨o,h1,h2,_⟩:=p
   exact ⟨.inr (.inr (.inl rfl)),(fun z=>nomatch z),_,PySem.W.kitx_tuple,⟨o,h1,h2⟩⟩
  ·obtain ⟨its,rv,p,_⟩:=I.list hq
   obtain ⟨o,n,h1,h2,_⟩:=p
   exact ⟨.inr (.inr (.inr rfl)),(fun z=>nomatch z),_,PySem.W.kitx_list,⟨o,h1,h2⟩⟩
 | _=>exact False.elim h
theorem OV:CallR X (.builtin "isinstance") (JT X.K):=by
 intro pins s σ H xs us Q I r q
 match xs,q with
 | [x,.ty T],⟨hT,t,h,q⟩ =>
  obtain ⟨u,w',rfl,ru,rw'⟩:=Ba r
  cases rw'
  obtain ⟨ht,hn,Hh,k,hh⟩:=GE I ru h
  exact PySem.W.kia_one k I.kIn hh (OZ ht hT) hn fun tk=>⟨.bl (Ar t T),H,I.tok _,rfl,q⟩
 | [x,.ref tp],⟨t,hp,h,q⟩ =>
  obtain ⟨u,w',rfl,ru,rw'⟩:=Ba r
  cases (show w'=Value.ref tp from rw')
  obtain ⟨ht,hn,Hh,k,hh⟩:=GE I ru h
  obtain ⟨_,its,rv,⟨cl,dd,dat,sl⟩,h1,h2,⟨n,h3⟩,_⟩:=(show ObjOk X.prog X.w H s.heap tp (.tup [.ty "tuple",.ty "list"]) from I.hok tp _ hp)
  obtain ⟨u1,u2,rfl,r1,r2⟩:=Ba rv
  cases r1
  cases r2
  cases (show cl=_ from h2)
  cases (show dat=_ from h3)
  exact PySem.W.kia_tup (its:=[.type "tuple",.type "list"]) k I.kIn hh h1 (Kz ht) hn fun tk=>⟨.bl (t == "tuple" || t == "list"),H,I.tok _,rfl,q⟩
end
section
variable {X:Cx} {pins:List (Addr × Obj)} {σ:St} {H:Hp} {s:Shared}
end
section
variable {X:Cx} {K:W.Frag}
end
open AutoSeq1 (wpAny_loadPart')
section
variable {prog:Program} {w:World} {A:Around} {E:Value->Shared->Prop} {s:Shared}
end
section
variable {X:Cx}
end
structure Feed (H:Hp) (t:Addr):Prop where
 at_:∃ a b k c:Int,0<=a/\H t=some (.lst [.int a,.int b,.int k,.int c])
theorem Feed.same {H H':Hp} {t:Addr} (F:Feed H t) (h:Same H H'):Feed H' t:=by
 obtain ⟨a,b,k,c,h1,h2⟩:=F.at_
 exact ⟨a,b,k,c,h1,h _ _ h2⟩
theorem Feed.upd {H:Hp} {t p:Addr} {o:HO} (F:Feed H t) (h:H p=none):Feed (L2.upd H p o) t:=F.same (Same.upd h)
theorem Jx (a b:Nat):(a &&& b) / 2=a / 2 &&& b / 2:=by
 have:=Nat.and_div_two_pow (a:=a) (b:=b) (n:=1)
 simpa using this
theorem Je (a b:Nat):(a &&& b) % 2=a % 2 * (b % 2)/\(a ^^^ b) % 2=(a % 2+b % 2) % 2/\(a ||| b) % 2=a % 2+b % 2 - a % 2 * (b % 2):=by
 have h1:=Nat.and_mod_two_pow (a:=a) (b:=b) (n:=1)
 have h2:=Nat.xor_mod_two_pow (a:=a) (b:=b) (n:=1)
 have h3:=Nat.or_mod_two_pow (a:=a) (b:=b) (n:=1)
 rw [Nat.pow_one] at h1 h2 h3
 rw [h1,h2,h3]
 have ha:a % 2=0\/a % 2=1:=by lia
 have hb:b % 2=0\/b % 2=1:=by lia
 rcases ha with ha | ha <;> rcases hb with hb | hb <;> rw [ha,hb] <;> decide
theorem M9 (a b:Nat):Builtin.bitAnd (a:Int) (b:Int)=((a &&& b:Nat):Int):=by
 unfold Builtin.bitAnd
 rw [decide_eq_true (Int.natCast_nonneg a),decide_eq_true (Int.natCast_nonneg b)]
 rfl
theorem MN {H0 H:Hp} {t:Addr} {o:HO} (s:Same H0 H) (ht:H0 t=none):Same H0 (upd H t o):=fun b u e=>by
 rw [AK (BR e ht)];exact s b u e
theorem Same.sqL {K:W.Frag} {H H':Hp} {a:Addr} {xs:List V} (e:Same H H') (h:SqL K H a xs):SqL K H' a xs:=Gg h (fun o k=>e _ _ k)
noncomputable def AV (f:Nat->Int):Nat->Int
 | 0=>0
 | n+1=>AV f n+f n
theorem B1 {f g:Nat->Int}:∀ {n:Nat},(∀ j,j < n->f j=g j)->AV f n=AV g n
 | 0,_=>rfl
 | n+1,h=>by
  show AV f n+f n=AV g n+g n
  rw [B1 fun j hj=>h j (Nat.lt_succ_of_lt hj),h n (Nat.lt_succ_self n)]
theorem IK (f:Nat->Int) (a:Nat):∀ b,AV f (a+b)=AV f a+AV (fun j=>f (a+j)) b
 | 0=>by show AV f a=AV f a+0;lia
 | b+1=>by
  show AV f (a+b)+f (a+b)=AV f a+(AV (fun j=>f (a+j)) b+f (a+b))
  rw [IK f a b];lia
noncomputable def chi:Nat->Nat->Nat->Int
 | 0,_,_=>1
 | n+1,a,b=>(if a % 2=1/\b % 2=1 then -1 else 1) * chi n (a / 2) (b / 2)
theorem FR:∀ n a b,chi n a b=chi n b a
 | 0,_,_=>rfl
 | n+1,a,b=>by
  show _ * chi n (a / 2) (b / 2)=_ * chi n (b / 2) (a / 2)
  rw [FR n]
  congr 1
  by_cases h:a % 2=1/\b % 2=1
  ·rw [if_pos h,if_pos ⟨h.2,h.1⟩]
  ·rw [if_neg h,if_neg fun z=>h ⟨z.2,z.1⟩]
theorem chi_one:∀ n a b,chi n a b=1\/chi n a b = -1
 | 0,_,_=>.inl rfl
 | n+1,a,b=>by
  show _ * chi n (a / 2) (b / 2)=1\/_ * chi n (a / 2) (b / 2) = -1
  rcases chi_one n (a / 2) (b / 2) with h | h <;> rw [h] <;> by_cases g:a % 2=1/\b % 2=1 <;> simp [g]
noncomputable def wt (n:Nat) (v:Nat->Int) (s:Nat):Int:=AV (fun p=>chi n s p * v p) (2 ^ n)
theorem Fw:∀ {s b r c j:Nat},r < 2 ^ s->j < 2 ^ s->b < 2->c < 2->chi (s+1) (b * 2 ^ s+r) (c * 2 ^ s+j)=chi s r j * (if b=1/\c=1 then -1 else 1)
 | 0,b,r,c,j,hr,hj,hb,hc=>by
  have r0:r=0:=by simpa using hr
  have j0:j=0:=by simpa using hj
  subst r0 j0
  have eb:b=0\/b=1:=by lia
  have ec:c=0\/c=1:=by lia
  rcases eb with rfl | rfl <;> rcases ec with rfl | rfl <;> rfl
 | s+1,b,r,c,j,hr,hj,hb,hc=>by
  have d1:∀ x:Nat,x * 2 ^ (s+1)=2 * (x * 2 ^ s):=fun x=>by rw [Nat.pow_succ,Nat.mul_comm (2 ^ s),<- Nat.mul_assoc,Nat.mul_comm x 2,Nat.mul_assoc]
  have k1:(b * 2 ^ (s+1)+r) % 2=r % 2:=by rw [d1];lia
  have k2:(c * 2 ^ (s+1)+j) % 2=j % 2:=by rw [d1];lia
  have k3:(b * 2 ^ (s+1)+r) / 2=b * 2 ^ s+r / 2:=by rw [d1];lia
  have k4:(c * 2 ^ (s+1)+j) / 2=c * 2 ^ s+j / 2:=by rw [d1];lia
  have e1:chi (s+1+1) (b * 2 ^ (s+1)+r) (c * 2 ^ (s+1)+j)=(if r % 2=1/\j % 2=1 then -1 else 1) * chi (s+1) (b * 2 ^ s+r / 2) (c * 2 ^ s+j / 2):=by
   show (if (b * 2 ^ (s+1)+r) % 2=1/\(c * 2 ^ (s+1)+j) % 2=1 then -1 else 1) * chi (s+1) ((b * 2 ^ (s+1)+r) / 2) ((c * 2 ^ (s+1)+j) / 2)=_
   rw [k1,k2,k3,k4]
  rw [e1,Fw (s:=s) (by rw [Nat.pow_succ] at hr;lia) (by rw [Nat.pow_succ] at hj;lia) hb hc,<- Int.mul_assoc]
  rfl
noncomputable def DA (v:Nat->Int) (s k:Nat):Int:=if k / s % 2=1 then v (k - s) - v k else v k+v (k+s)
noncomputable def Aa (v:Nat->Int):Nat->Nat->Int
 | 0=>v
 | s+1=>DA (Aa v s) (2 ^ s)
noncomputable def hs (v:Nat->Int) (s k:Nat):Int:=AV (fun j=>chi s (k % 2 ^ s) j * v (k / 2 ^ s * 2 ^ s+j)) (2 ^ s)
theorem C7 {v:Nat->Int} {s q r:Nat} (h:r < 2 ^ s):hs v s (q * 2 ^ s+r)=AV (fun j=>chi s r j * v (q * 2 ^ s+j)) (2 ^ s):=by
 unfold hs
 have e1:(q * 2 ^ s+r) % 2 ^ s=r:=by rw [Nat.mul_comm,Nat.mul_add_mod,Nat.mod_eq_of_lt h]
 have e2:(q * 2 ^ s+r) / 2 ^ s=q:=by rw [Nat.mul_comm,Nat.mul_add_div (Nat.two_pow_pos s),Nat.div_eq_of_lt h,Nat.add_zero]
 rw [e1,e2]
theorem Jm {v:Nat->Int} {s:Nat} (q b r:Nat) (hr:r < 2 ^ s) (hb:b < 2) :
 DA (hs v s) (2 ^ s) (q * 2 ^ (s+1)+(b * 2 ^ s+r))=hs v (s+1) (q * 2 ^ (s+1)+(b * 2 ^ s+r)):=by
 have hB:2 ^ (s+1)=2 ^ s+2 ^ s:=by rw [Nat.pow_succ];lia
 have hrr:b * 2 ^ s+r < 2 ^ (s+1):=by
  rw [hB]
  have:b=0\/b=1:=by lia
  rcases this with e | e <;> subst e <;> lia
 rw [C7 hrr,hB,IK]
 have low:∀ j,j < 2 ^ s->chi (s+1) (b * 2 ^ s+r) j=chi s r j:=fun j hj=>by
  have:=Fw (c:=0) hr hj hb (by decide)
  rw [Nat.zero_mul,Nat.zero_add,if_neg (by lia),Int.mul_one] at this
  exact this
 have high:∀ j,j < 2 ^ s->chi (s+1) (b * 2 ^ s+r) (2 ^ s+j)=chi s r j * (if b=1 then -1 else 1):=fun j hj=>by
  have:=Fw (c:=1) hr hj hb (by decide)
  rw [Nat.one_mul] at this
  rw [this]
  simp
 have e0:q * (2 ^ s+2 ^ s)+(b * 2 ^ s+r)=(2 * q+b) * 2 ^ s+r:=by
  rw [Nat.add_mul,Nat.mul_comm 2 q,Nat.mul_assoc,Nat.two_mul];lia
 have eq0:q * (2 ^ s+2 ^ s)=(2 * q) * 2 ^ s:=by rw [Nat.mul_comm 2 q,Nat.mul_assoc,Nat.two_mul]
 have eq1:q * (2 ^ s+2 ^ s)+2 ^ s=(2 * q+1) * 2 ^ s:=by rw [Nat.add_mul,Nat.one_mul,eq0]
 unfold DA
 rw [e0]
 have et:((2 * q+b) * 2 ^ s+r) / 2 ^ s % 2=b:=by
  rw [Nat.mul_comm,Nat.mul_add_div (Nat.two_pow_pos s),Nat.div_eq_of_lt hr];lia
 rw [et]
 have:b=0\/b=1:=by lia
 rcases this with e | e <;> subst e
 ·rw [if_neg (by decide)]
  have ek:(2 * q+0) * 2 ^ s+r+2 ^ s=(2 * q+1) * 2 ^ s+r:=by rw [Nat.add_zero,Nat.add_mul,Nat.one_mul];lia
  rw [ek,C7 hr,C7 hr]
  congr 1
  ·refine B1 fun j hj=>?_
   rw [low j hj,eq0];rfl
  ·refine B1 fun j hj=>?_
   show chi s r j * v ((2 * q+1) * 2 ^ s+j)=chi (s+1) (0 * 2 ^ s+r) (2 ^ s+j) * v (q * (2 ^ s+2 ^ s)+(2 ^ s+j))
   rw [high j hj,if_neg (by decide),Int.mul_one,<- Nat.add_assoc,eq1]
 ·rw [if_pos rfl]
  have ek:(2 * q+1) * 2 ^ s+r - 2 ^ s=(2 * q) * 2 ^ s+r:=by rw [Nat.add_mul,Nat.one_mul];lia
  rw [ek,C7 hr,C7 hr,Int.sub_eq_add_neg]
  congr 1
  ·refine B1 fun j hj=>?_
   rw [low j hj,eq0]
  ·have neg:∀ (f:Nat->Int) n,- AV f n=AV (fun j=>- f j) n:=fun f n=>by
    induction n with
    | zero=>rfl
    | succ n ih=>show -(AV f n+f n)=AV (fun j=>- f j) n + - f n;rw [<- ih];lia
   rw [neg]
   refine B1 fun j hj=>?_
   show -(chi s r j * v ((2 * q+1) * 2 ^ s+j))=chi (s+1) (1 * 2 ^ s+r) (2 ^ s+j) * v (q * (2 ^ s+2 ^ s)+(2 ^ s+j))
   rw [high j hj,if_pos rfl,<- Nat.add_assoc,eq1,Int.mul_neg,Int.mul_one,Int.neg_mul]
theorem KR (s k:Nat):∃ q b r,k=q * 2 ^ (s+1)+(b * 2 ^ s+r)/\r < 2 ^ s/\b < 2:=by
 refine ⟨k / 2 ^ s / 2,k / 2 ^ s % 2,k % 2 ^ s,?_,Nat.mod_lt _ (Nat.two_pow_pos s),Nat.mod_lt _ (by decide)⟩
 have h1:=Nat.div_add_mod k (2 ^ s)
 have h2:=Nat.div_add_mod (k / 2 ^ s) 2
 rw [Nat.pow_succ]
 generalize k % 2 ^ s=r at *
 generalize hd:k / 2 ^ s=d at *
 rw [<- Nat.add_assoc,Nat.mul_comm (2 ^ s) 2,<- Nat.mul_assoc,<- Nat.add_mul,Nat.mul_comm (d / 2) 2,h2,Nat.mul_comm]
 exact h1.symm
theorem Ig (v:Nat->Int):∀ s k,Aa v s k=hs v s k
 | 0,k=>by
  show v k=AV (fun j=>chi 0 (k % 2 ^ 0) j * v (k / 2 ^ 0 * 2 ^ 0+j)) 1
  show v k=0+chi 0 (k % 2 ^ 0) 0 * v (k / 2 ^ 0 * 2 ^ 0+0)
  have:chi 0 (k % 2 ^ 0) 0=1:=rfl
  rw [this,Int.one_mul,Int.zero_add]
  simp
 | s+1,k=>by
  have e:Aa v s=hs v s:=funext fun k=>Ig v s k
  show DA (Aa v s) (2 ^ s) k=_
  rw [e]
  obtain ⟨q,b,r,rfl,hr,hb⟩:=KR s k
  exact Jm q b r hr hb
theorem Ni {v:Nat->Int} {m k:Nat} (h:k < 2 ^ m):Aa v m k=AV (fun j=>chi m k j * v j) (2 ^ m):=by
 rw [Ig]
 have:=C7 (v:=v) (s:=m) (q:=0) h
 rw [Nat.zero_mul,Nat.zero_add] at this
 rw [this]
 refine B1 fun j _=>?_
 rw [Nat.zero_add]
theorem Ff {v:Nat->Int} {m k:Nat} (h:k < 2 ^ m):Aa v m k=wt m v k:=Ni h
noncomputable def manyF:Nat->Nat->Nat
 | 0,_=>0
 | f+1,x=>x % 2+manyF f (x / 2)
@[irreducible] noncomputable def many (x:Nat):Nat:=manyF 64 x
theorem C3:∀ f,manyF f 0=0
 | 0=>rfl
 | f+1=>by
  show 0 % 2+manyF f (0 / 2)=0
  rw [Nat.zero_div,C3 f]
theorem Hk:∀ (f g x:Nat),x < 2 ^ f->f<=g->manyF g x=manyF f x
 | 0,g,x,h,_=>by
  have:x=0:=by simpa using h
  subst this
  rw [C3,C3]
 | f+1,0,x,_,h=>by lia
 | f+1,g+1,x,h,hg=>by
  show x % 2+manyF g (x / 2)=x % 2+manyF f (x / 2)
  rw [Hk f g (x / 2) (by rw [Nat.pow_succ] at h;lia) (by lia)]
theorem OG {n x:Nat} (h:x < 2 ^ n) (hn:n<=64):many x=manyF n x:=by
 unfold many
 exact Hk n 64 x h hn
theorem IG:∀ n a b,chi n a b=if manyF n (a &&& b) % 2=1 then -1 else 1
 | 0,_,_=>rfl
 | n+1,a,b=>by
  show (if a % 2=1/\b % 2=1 then -1 else 1) * chi n (a / 2) (b / 2)=if ((a &&& b) % 2+manyF n ((a &&& b) / 2)) % 2=1 then -1 else 1
  rw [IG n,Jx,(Je a b).1]
  generalize manyF n (a / 2 &&& b / 2)=k
  have ha:a % 2=0\/a % 2=1:=by lia
  have hb:b % 2=0\/b % 2=1:=by lia
  have hk:k % 2=0\/k % 2=1:=by lia
  rcases ha with ha | ha <;> rcases hb with hb | hb <;> rcases hk with hk | hk <;> rw [ha,hb] <;> simp [hk,Nat.add_mod]
theorem Nt {n a b:Nat} (h:a < 2 ^ n) (hn:n<=64):chi n a b=if many (a &&& b) % 2=1 then -1 else 1:=by
 rw [OG (Nat.lt_of_le_of_lt Nat.and_le_left h) hn,IG]
noncomputable def ixL (g:Nat->Int) (M:Nat):List V:=(List.range M).map fun i=>V.int (g i)
theorem ixL_len {g:Nat->Int} {M:Nat}:(ixL g M).length=M:=by unfold ixL;simp
theorem Bc {g:Nat->Int} {M k:Nat} (h:k < M):(ixL g M)[k]? = some (.int (g k)):=by unfold ixL;rw [List.getElem?_map,List.getElem?_range h];rfl
theorem Ef {g:Nat->Int} {M k:Nat} (h:k < M):atI (ixL g M) (k:Int)=some (.int (g k)):=Br rfl (Bc h)
theorem KF {g:Nat->Int} {M i:Nat} (h:i < M):(ixL g M).take (i+1)=(ixL g M).take i++[V.int (g i)]:=by
 rw [List.take_add_one,Bc h];rfl
theorem HM (g:Nat->Int) (M:Nat):ixL g (M+1)=ixL g M++[V.int (g M)]:=by unfold ixL;rw [List.range_succ,List.map_append];rfl
theorem Nv {f g:Nat->Int} {M:Nat} (h:∀ k,k < M->f k=g k):ixL f M=ixL g M:=by
 unfold ixL
 exact List.map_congr_left fun k hk=>by rw [h k (List.mem_range.mp hk)]
theorem OD {g:Nat->Int} {M i:Nat} {z:Int}:(ixL g M).set i (.int z)=ixL (fun k=>if k=i then z else g k) M:=by
 refine List.ext_getElem? fun k=>?_
 rw [List.getElem?_set,ixL_len]
 by_cases hk:k < M
 ·rw [Bc hk]
  by_cases e:i=k
  ·subst e;rw [if_pos rfl,if_pos hk,Bc hk,if_pos rfl]
  ·rw [if_neg e,Bc hk,if_neg (Ne.symm e)]
 ·have n1:(ixL g M)[k]? = none:=List.getElem?_eq_none (by rw [ixL_len];lia)
  have n2:(ixL (fun k=>if k=i then z else g k) M)[k]? = none:=List.getElem?_eq_none (by rw [ixL_len];lia)
  rw [n1,n2]
  split
  ·split
   ·lia
   ·rfl
  ·rfl
noncomputable def CI (b:Bool):Int:=if b=true then -1 else 1
noncomputable def BZ (bs:List Bool) (p:Nat):Int:=CI (bs.getD p false)
noncomputable def AH (g:Nat->Int):Nat->List (Nat × Int)
 | 0=>[]
 | i+1=>AH g i++(if g i=0 then [] else [(i,g i)])
theorem D5 (g:Nat->Int):∀ n,(AH g n).length<=n
 | 0=>Nat.le_refl _
 | n+1=>by
  unfold AH
  rw [List.length_append]
  have:=D5 g n
  split
  ·rw [List.length_nil];lia
  ·rw [List.length_singleton];lia
theorem BH {g:Nat->Int}:∀ {n:Nat} {q:Nat × Int},q∈AH g n->q.1 < n/\q.2=g q.1/\q.2≠0
 | 0,q,h=>by cases h
 | n+1,q,h=>by
  rcases List.mem_append.mp h with h | h
  ·have:=BH h;exact ⟨by lia,this.2⟩
  ·split at h
   ·cases h
   ·rename_i hn
    rw [List.mem_singleton.mp h]
    exact ⟨Nat.lt_succ_self n,rfl,hn⟩
noncomputable def BL (q:Nat × Int):Dv:=.tup [.int q.1,.int q.2]
noncomputable def Cq (m:Nat) (ts:List (Nat × Int)):Dv:=.tup [.int m,.tup (ts.map BL)]
structure SumAt (K:W.Frag) (H:Hp) (v:V) (m:Nat) (ts:List (Nat × Int)):Prop where
 at_:∃ (a b:Addr) (vs:List V),v=.ref a/\SqT K H a [.int m,.ref b]/\SqT K H b vs/\Reps K H (ts.map BL) vs
theorem SumAt.of {K:W.Frag} {H:Hp} {v:V} {m:Nat} {ts:List (Nat × Int)} (h:Rep K H (Cq m ts) v):SumAt K H v m ts:=by
 unfold Cq Rep at h
 obtain ⟨a,xs,rfl,ha,hr⟩:=h
 unfold Reps at hr
 obtain ⟨x,r,rfl,h1,hr⟩:=hr
 unfold Rep at h1;subst h1
 unfold Reps at hr
 obtain ⟨x,r,rfl,h2,hr⟩:=hr
 unfold Reps at hr;subst hr
 unfold Rep at h2
 obtain ⟨b,vs,rfl,hb,hr⟩:=h2
 exact ⟨a,b,vs,rfl,ha,hb,hr⟩
theorem SumAt.rep {K:W.Frag} {H:Hp} {v:V} {m:Nat} {ts:List (Nat × Int)} (h:SumAt K H v m ts):Rep K H (Cq m ts) v:=by
 obtain ⟨a,b,vs,rfl,ha,hb,hr⟩:=h.at_
 unfold Cq Rep
 refine ⟨a,_,rfl,ha,Ai Ay (Ai ?_ Ap)⟩
 unfold Rep
 exact ⟨b,vs,rfl,hb,hr⟩
theorem SumAt.same {K:W.Frag} {H H':Hp} {v:V} {m:Nat} {ts:List (Nat × Int)} (h:SumAt K H v m ts) (s:Same H H'):SumAt K H' v m ts:=.of (Rep.same s _ _ h.rep)
theorem Cj {K:W.Frag} {H:Hp} {ts:List (Nat × Int)} {vs:List V} {i:Nat} {v:V} (h:Reps K H (ts.map BL) vs) (e:vs[i]? = some v):∃ q c,ts[i]? = some q/\v=.ref c/\SqT K H c [.int q.1,.int q.2]:=by
 have hl:=h.length
 have hi:i < ts.length:=by
  have:=(List.getElem?_eq_some_iff.mp e).1
  rw [List.length_map] at hl;lia
 have e1:(ts.map BL)[i]? = some (BL ts[i]):=by rw [List.getElem?_map,List.getElem?_eq_getElem hi];rfl
 obtain ⟨x,e2,hx⟩:=h.get e1
 rw [e] at e2
 cases e2
 unfold BL Rep at hx
 obtain ⟨c,xs,rfl,hc,hr⟩:=hx
 unfold Reps at hr
 obtain ⟨x,r,rfl,h1,hr⟩:=hr
 unfold Rep at h1;subst h1
 unfold Reps at hr
 obtain ⟨x,r,rfl,h2,hr⟩:=hr
 unfold Rep at h2;subst h2
 unfold Reps at hr;subst hr
 exact ⟨ts[i],c,List.getElem?_eq_getElem hi,rfl,hc⟩
theorem Gr {x y:Int} (hx:0<=x) (hy:0<=y):Int.gcd y (x % y)=Int.gcd y x:=by
 unfold Int.gcd
 rw [Int.natAbs_emod_of_nonneg hx,Nat.gcd_comm,<- Nat.gcd_rec]
theorem Jl:∀ m < 7,∀ s < m,∀ k < 2 ^ m,k / 2 ^ s % 2≠1->k+2 ^ s < 2 ^ m:=by decide +kernel
theorem IH {f:Nat->Int}:∀ {n:Nat},(∀ j,j < n->f j=1\/f j = -1) -> -(n:Int)<=AV f n/\AV f n<=n
 | 0,_=>⟨Int.le_refl _,Int.le_refl _⟩
 | n+1,h=>by
  have i:=IH fun j hj=>h j (Nat.lt_succ_of_lt hj)
  show -((n+1:Nat):Int)<=AV f n+f n/\AV f n+f n<=((n+1:Nat):Int)
  rcases h n (Nat.lt_succ_self n) with e | e <;> rw [e] <;> lia
theorem LC (m:Nat) (bs:List Bool) (s:Nat) : -((2 ^ m:Nat):Int)<=wt m (BZ bs) s/\wt m (BZ bs) s<=((2 ^ m:Nat):Int):=by
 unfold wt
 refine IH fun j _=>?_
 rcases chi_one m s j with h | h <;> rw [h] <;> unfold BZ CI <;> cases bs.getD j false <;> decide
noncomputable def Kj (g:Nat->Int):Prop:=∀ k,-64<=g k/\g k<=64
theorem KM {m:Nat} (m6:m<=6) (bs:List Bool):Kj (wt m (BZ bs)):=fun k=>by
 have:=LC m bs k
 have h64:2 ^ m<=64:=Nat.pow_le_pow_right (n:=2) (by decide) m6
 lia
theorem GS:∀ ts:List (Nat × Int),BU (ts.map BL)=true
 | []=>by unfold BU;rfl
 | q::ts=>by
  rw [List.map_cons]
  unfold BU
  rw [GS ts]
  unfold BL CC BU CC BU CC BU
  rfl
theorem Feed.lst {H:Hp} {t:Addr} (F:Feed H t):∃ zs,H t=some (.lst zs):=by
 obtain ⟨a,b,k,c,_,h⟩:=F.at_
 exact ⟨_,h⟩
theorem FG {g:Nat->Int}:∀ {n s:Nat},s < n->g s≠0->(s,g s)∈AH g n
 | 0,s,h,_=>by lia
 | n+1,s,h,hg=>by
  show (s,g s)∈AH g n++_
  by_cases e:s=n
  ·subst e
   rw [if_neg hg]
   exact List.mem_append_right _ (List.mem_singleton.mpr rfl)
  ·exact List.mem_append_left _ (FG (by lia) hg)
section
variable {X:Cx} {K:W.Frag}
end
noncomputable def Nb (x:Int) (k:Nat):Prop:=x.natAbs < 2 ^ k
theorem Nb.mul {x y:Int} {a b:Nat} (hx:Nb x a) (hy:Nb y b):Nb (x * y) (a+b):=by
 unfold Nb at *
 rw [Int.natAbs_mul,Nat.pow_add]
 exact Nat.mul_lt_mul'' hx hy
theorem Nb.up {x:Int} {a b:Nat} (hx:Nb x a) (h:a<=b):Nb x b:=Nat.lt_of_lt_of_le hx (Nat.pow_le_pow_right (by decide) h)
theorem Nb.pow {x:Int} {a:Nat} (hx:Nb x a):∀ i,Nb (x ^ i) (a * i+1)
 | 0=>by unfold Nb;rw [Int.pow_zero];show 1 < 2 ^ (a * 0+1);rw [Nat.mul_zero];decide
 | i+1=>by
  rw [Int.pow_succ]
  have:=(hx.pow i).mul hx
  rw [show a * (i+1)+1=a * i+1+a by rw [Nat.mul_succ];lia]
  exact this
theorem Nb.okMul {x y:Int} (hx:Nb x 4000) (hy:Nb y 4000):okMul x y:=.inl ⟨hx.up (by decide),hy.up (by decide)⟩
noncomputable def BF:List (Nat × Int)->(Nat->Int)->Nat->Int
 | [],f=>f
 | q::ts,f=>BF ts fun j=>if j=q.1 then q.2 else f j
theorem Fh:∀ (xs ys:List (Nat × Int)) (f:Nat->Int),BF (xs++ys) f=BF ys (BF xs f)
 | [],_,_=>rfl
 | x::xs,ys,f=>Fh xs ys _
theorem M3 {ts:List (Nat × Int)} {i:Nat} {q:Nat × Int} {f:Nat->Int} (h:ts[i]? = some q):BF (ts.take (i+1)) f=fun j=>if j=q.1 then q.2 else BF (ts.take i) f j:=by
 rw [List.take_add_one,h,Fh]
 rfl
theorem Ez (g:Nat->Int):∀ (n j:Nat),BF (AH g n) (fun _=>0) j=if j < n then g j else 0
 | 0,j=>by simp [AH,BF]
 | n+1,j=>by
  show BF (AH g n++(if g n=0 then [] else [(n,g n)])) (fun _=>0) j=_
  rw [Fh]
  by_cases h:g n=0
  ·rw [if_pos h]
   show BF (AH g n) (fun _=>0) j=_
   rw [Ez g n j]
   by_cases e:j=n
   ·subst e;rw [if_neg (by lia),if_pos (by lia),h]
   ·by_cases l:j < n
    ·rw [if_pos l,if_pos (by lia)]
    ·rw [if_neg l,if_neg (by lia)]
  ·rw [if_neg h]
   show (if j=n then g n else BF (AH g n) (fun _=>0) j)=_
   by_cases e:j=n
   ·subst e;rw [if_pos rfl,if_pos (by lia)]
   ·rw [if_neg e,Ez g n j]
    by_cases l:j < n
    ·rw [if_pos l,if_pos (by lia)]
    ·rw [if_neg l,if_neg (by lia)]
noncomputable def Em (H:Hp) (Q:VK) (xs:List V):Prop:=∀ p H',H p=none->Same H H'->H' p=some (.lst xs)->Q (.ref p) H'
theorem Ax {H:Hp} {Q Q':VK} {xs:List V} (h:∀ v H,Q v H->Q' v H) (q:Em H Q xs):Em H Q' xs:=fun p H' a b c=>h _ _ (q p H' a b c)
theorem KI (n:Nat):(List.replicate n [V.int 0]).flatten=ixL (fun _=>0) n:=by
 induction n with
 | zero=>rfl
 | succ n ih=>rw [List.replicate_succ',List.flatten_append,ih,HM];rfl
theorem Fo (f:Nat->Bool) (n:Nat):((List.range (n+1)).map f).map V.bl=((List.range n).map f).map V.bl++[V.bl (f n)]:=by
 rw [List.range_succ,List.map_append,List.map_append];rfl
theorem Op {td ty tx:TE} (h1:AR td) (h2:AR ty) (h3:AR tx):AR (Ih td ty tx):=fun σ H Q Q' h q=>h1 _ _ _ _ (fun _ _ ⟨a,e,d,q⟩=>⟨a,e,d,h2 _ _ _ _ (fun _ _ q=>h3 _ _ _ _ (fun _ _ ⟨o,g,q⟩=>⟨o,g,h _ _ q⟩) q) q⟩) q
theorem Nz {td ty tv:TE} (h1:AR td) (h2:AR ty) (h3:AR tv):A6 (HE td ty tv):=fun D D' σ H h q=>h3 _ _ _ _ (fun _ _ q=>h1 _ _ _ _ (fun _ _ q=>h2 _ _ _ _ (fun _ _ ⟨a,H4,e,g,q⟩=>⟨a,H4,e,g,h.nx _ _ q⟩) q) q) q
theorem CZ {A:Around} (h:A.units+60 < cLine):A.units+1 < cLine:=by lia
theorem G7:∀ (s x y:Nat),chi (s+1) x y=chi s x y * (if ((x / 2 ^ s % 2 == 1) && (y / 2 ^ s % 2 == 1))=true then -1 else 1)
 | 0,x,y=>by
  show (if x % 2=1/\y % 2=1 then -1 else 1) * 1=1 * _
  rw [Nat.pow_zero,Nat.div_one,Nat.div_one,Int.mul_one,Int.one_mul]
  by_cases h:x % 2=1/\y % 2=1
  ·rw [if_pos h,if_pos (by simp [h.1,h.2])]
  ·rw [if_neg h,if_neg (by simpa using h)]
 | s+1,x,y=>by
  show (if x % 2=1/\y % 2=1 then -1 else 1) * chi (s+1) (x / 2) (y / 2)=(if x % 2=1/\y % 2=1 then -1 else 1) * chi s (x / 2) (y / 2) * _
  rw [G7 s (x / 2) (y / 2),<- Int.mul_assoc,Nat.div_div_eq_div_mul,Nat.div_div_eq_div_mul,Nat.pow_succ,Nat.mul_comm 2 (2 ^ s)]
end L2
namespace HT
open PySem PyProof.Rows
section
variable {prog:Program} {w:World} {A:Around} {E:Value->Shared->Prop} {s:Shared}
end
end HT
namespace L2
open PySem PySem.Spec PyProof.Rows
section
variable {X:Cx} {K:W.Frag} {e sx:Expr} {te ts:TE} {lo hi:Option Expr} {tl th:TO} {pos p2:Pos}
noncomputable def mIs (neg:Bool):R2:=fun x y H Q=>match x,y with
 | .bl a,.bl b=>Q (.bl (neg ^^ (a == b))) H
 | x,.non=>Q (.bl (neg ^^ decide (x=.non))) H
 | _,_=>False
theorem Kt:OpR X (compareOp .Is) (mIs false):=by
 intro pins s σ H x y v u Q I rx ry h
 unfold mIs at h
 split at h
 ·cases rx;cases ry
  rename_i a b
  exact wpAny_of_eq (show compareOp .Is (.bool a) (.bool b)=pure (.bool (a == b)) by cases a <;> cases b <;> rfl) ⟨.bl (a == b),H,I,rfl,by rw [Bool.false_xor] at h;exact h⟩
 ·exact Oj pins s σ H _ _ v u Q I rx ry ⟨rfl,by rw [Bool.false_xor] at h;exact h⟩
 ·exact h.elim
end
structure GFeed (H:Hp) (t:Addr) (N:Nat):Prop where
 at_:∃ (l:Addr) (i g c:Int) (ns:List Int),0<=i/\0<=g/\0<=c/\c<=N/\H t=some (.lst [.ref l,.int i,.int g,.int c])/\l≠t/\H l=some (.lst (ns.map V.int))/\ns.length≠0
theorem GFeed.same {H H':Hp} {t:Addr} {N:Nat} (F:GFeed H t N) (h:Same H H'):GFeed H' t N:=by
 obtain ⟨l,i,g,c,ns,h1,h2,h3,h4,h5,h6,h7,h8⟩:=F.at_
 exact ⟨l,i,g,c,ns,h1,h2,h3,h4,h _ _ h5,h6,h _ _ h7,h8⟩
theorem GFeed.upd {H:Hp} {t p:Addr} {o:HO} {N:Nat} (F:GFeed H t N) (h:H p=none):GFeed (L2.upd H p o) t N:=F.same (Same.upd h)
theorem GFeed.lst {H:Hp} {t:Addr} {N:Nat} (F:GFeed H t N):∃ zs,H t=some (.lst zs):=by
 obtain ⟨l,i,g,c,ns,h1,h2,h3,h4,h5,_⟩:=F.at_
 exact ⟨_,h5⟩
theorem EI {K:W.Frag} {H:Hp}:∀ ns:List Int,Reps K H (ns.map Dv.int) (ns.map V.int)
 | []=>Ap
 | n::ns=>Ai Ay (EI ns)
noncomputable def tyD:Dv->String
 | .non=>"NoneType"
 | .bl _=>"bool"
 | .int _=>"int"
 | .str _=>"str"
 | .tup _=>"tuple"
 | .lst _=>"list"
noncomputable def Eb (K:W.Frag):List V->Hp->VK->Prop:=fun xs H Q=>match xs with
 | [x,.ty T]=>T∈kinds/\∃ d,Rep K H d x/\Q (.bl (Ar (tyD d) T)) H
 | _=>False
theorem N5 {K:W.Frag} {t T:String} (ht:t = "int" \/ t = "bool" \/ t = "tuple" \/ t = "list") (hT:T∈kinds):PySem.W.kitOne K (.type t) (.type T)=some (Ar t T):=by
 unfold kinds at hT
 simp only [List.mem_cons,List.mem_nil_iff,or_false] at hT
 rcases ht with rfl | rfl | rfl | rfl <;> rcases hT with rfl | rfl | rfl | rfl | rfl | rfl <;> rfl
theorem Lw {X:Cx}:CallR X (.builtin "isinstance") (Eb X.K):=by
 intro pins s σ H xs us Q I r q
 match xs,q with
 | [x,.ty T],q =>
  obtain ⟨hT,d,h,q⟩:=q
  have go:∀ t,TyS X.K H x t->Q (.bl (Ar t T)) H->wpAny (model X.prog X.w) X.A (call (.builtin "isinstance") us) (EP X pins σ Q) X.xe s:=fun t ht hq=>by
   obtain ⟨u,w',rfl,ru,rw'⟩:=Ba r
   cases rw'
   obtain ⟨ht,hn,Hh,k,hh⟩:=GE I ru ht
   exact PySem.W.kia_one k I.kIn hh (N5 ht hT) hn fun tk=>⟨.bl (Ar t T),H,I.tok _,rfl,hq⟩
  have hT':=hT
  unfold kinds at hT'
  simp only [List.mem_cons,List.mem_nil_iff,or_false] at hT'
  cases d with
  | non =>
   unfold Rep at h;subst h
   refine HA pins s σ H _ us Q I r ⟨hT,_,rfl,?_⟩
   have e:(T == "NoneType")=Ar (tyD .non) T:=by rcases hT' with rfl | rfl | rfl | rfl | rfl | rfl <;> rfl
   rw [e];exact q
  | str z =>
   unfold Rep at h;subst h
   refine HA pins s σ H _ us Q I r ⟨hT,_,rfl,?_⟩
   have e:(T == "str")=Ar (tyD (.str z)) T:=by rcases hT' with rfl | rfl | rfl | rfl | rfl | rfl <;> rfl
   rw [e];exact q
  | bl b=>unfold Rep at h;subst h;exact go _ rfl q
  | int i=>unfold Rep at h;subst h;exact go _ rfl q
  | tup ds=>unfold Rep at h;obtain ⟨a,xs,rfl,hs,_⟩:=h;exact go _ (.inl ⟨rfl,xs,hs⟩) q
  | lst ds=>unfold Rep at h;obtain ⟨a,xs,rfl,hs,_⟩:=h;exact go _ (.inr ⟨rfl,xs,hs⟩) q
theorem Ij {X:Cx} {K:W.Frag} (hK:X.K=K:=by rfl):CallR X (.builtin "isinstance") (Eb K):=hK ▸ Lw
theorem Lq {K:W.Frag}:Bx (Eb K):=fun xs H Q Q' h q=>by
 unfold Eb at *
 split at q
 ·obtain ⟨a,t,b,q⟩:=q;exact ⟨a,t,b,h _ _ q⟩
 ·exact q.elim
section
variable {X:Cx} {pins:List (Addr × Obj)} {σ:St} {H:Hp} {s:Shared}
theorem Inv.hold {d:Addr} {kvs:List (Key × V)} (I:Inv X pins σ H s) (h:H d=some (.dK kvs)):∃ o,s.heap.get? d=some o/\Inv X pins σ (upd H d (.frz o (.dK kvs))) s:=by
 obtain ⟨hl,hs,vs,r,dd⟩:=(show ObjOk X.prog X.w H s.heap d (.dK kvs) from I.hok d _ h)
 obtain ⟨o,es,ep,ho,rest⟩:=id dd
 refine ⟨o,ho,?_⟩
 have:=I.write (x:=d) (e:=d) (o:=.frz o (.dK kvs)) (h':=s.heap) (t':=s.toks) (by rw [h];exact True.intro) (.inl rfl) (fun b u _ q=>q) ⟨o,ho⟩ ⟨ho,hl,hs,vs,r,dd⟩
 exact this
theorem Inv.held {d:Addr} {o:Obj} {kvs:List (Key × V)} (I:Inv X pins σ H s) (h:H d=some (.frz o (.dK kvs))):s.heap.get? d=some o/\(d == sysModules)=false/\kvs.length<=sizeLine/\∃ vs,KV kvs vs/\s.heap.DictOf (Ag X.prog X.w) d vs:=by
 obtain ⟨ho,hl,hs,vs,r,dd⟩:=(show ObjOk X.prog X.w H s.heap d (.frz o (.dK kvs)) from I.hok d _ h)
 exact ⟨ho,hs,hl,vs,r,dd⟩
theorem KV.get {kvs:List (Key × V)} {vs:List (Key × Value)} (r:KV kvs vs):∀ {i:Nat} {q:Key × V},kvs[i]? = some q->∃ v,vs[i]? = some (q.1,v)/\RelV q.2 v:=by
 induction r with
 | nil=>intro i q e;simp at e
 | @cons a b l1 l2 h t ih =>
  intro i q e
  cases i with
  | zero =>
   simp at e;subst e
   obtain ⟨b1,b2⟩:=b
   obtain ⟨h1,h2⟩:=h
   exact ⟨b2,by simp;exact h1.symm,h2⟩
  | succ i =>
   obtain ⟨v,h1,h2⟩:=ih (i:=i) (q:=q) (by simpa using e)
   exact ⟨v,by simpa using h1,h2⟩
theorem KV.len {kvs:List (Key × V)} {vs:List (Key × Value)} (r:KV kvs vs):kvs.length=vs.length:=Paired.length r
theorem MC {k:Key} {u:Value} (h:CH k u=true):RelV (kV k) u:=by
 rcases keyIs_shape h with ⟨i,t,rfl,rfl⟩ | ⟨x,t,rfl,rfl⟩
 ·exact ⟨t,rfl⟩
 ·exact ⟨t,rfl⟩
end
theorem EW {P:Program} {w:World} {h:Heap} {d:Addr} {o:Obj} {es:Array DictEntry} {ep:Nat} {vs:List (Key × Value)} (ho:h.get? d=some o) (hd:o.data=.dict es ep) (dd:h.DictOf (Ag P w) d vs):h.DictAt (Ag P w) d vs ep/\es.size=vs.length:=by
 obtain ⟨o',es',ep',h1,h2,h3,h4,h5,h6⟩:=dd
 rw [ho] at h1;cases h1
 rw [hd] at h3;cases h3
 exact ⟨⟨o,es,ho,h2,hd,h4,h5,h6⟩,by rw [<- h5.length];simp⟩
noncomputable def Itk (d:Addr) (o:Obj):It :=
 ⟨fun i H=>∃ kvs q,H d=some (.frz o (.dK kvs))/\kvs[i]? = some q,
  fun i H v H'=>H'=H/\∃ kvs q,H d=some (.frz o (.dK kvs))/\kvs[i]? = some q/\v=kV q.1,
  fun i H=>∃ kvs,H d=some (.frz o (.dK kvs))/\kvs.length<=i⟩
theorem L8 {P:Program} {w:World} {K:W.Frag} {tg:Expr} {it d:Addr} {o:Obj} {es:Array DictEntry} {ep:Nat} (hdat:o.data=.dict es ep) :
 Turn P w K tg (Itk d o) [it] it (fun i h=>h.IsKeyIter it d i es.size ep) where
 mem:=by simp
 obj:=fun i h st b hb=>by
  obtain rfl:b=it:=by simpa using hb
  obtain ⟨o,e,c,d⟩:=st
  exact ⟨o,e,fun v z=>by rw [d] at z;cases z⟩
 keep:=fun i h h' ⟨o,e,r⟩ k=>⟨o,k it (by simp) _ e,r⟩
 item:=by
  intro X hP hw hK hc i pins s σ H E I hf st hg
  subst hP hw hK
  obtain ⟨kvs,q,hq1,hx⟩:=hg
  obtain ⟨ho,hs,hl,vs,rv,dd⟩:=I.held hq1
  obtain ⟨da,hsz⟩:=EW ho hdat dd
  obtain ⟨u,hu,ru⟩:=rv.get hx
  obtain ⟨f0,f1,f2,f3,f4,f5⟩:=hf it (by simp)
  rw [hsz] at st
  refine wpAny_pyNext_dict_item st da hu fun key h' z0 st' sb=>?_
  have I1:Inv X pins σ H { s with heap:=h' }:=I.turned (t':=s.toks) (fun b o hb e=>(sb.2 b hb).trans e) f0 f1 f3 f4 f5
  obtain ⟨o',e,c,d'⟩:=id st'
  rw [<- hsz] at st'
  exact ⟨key,rfl,D8 (s:={ s with heap:=h' }) e c d' (by decide) ⟨kV q.1,H,I1,MC z0,⟨rfl,kvs,q,hq1,hx,rfl⟩,st',fun b hb=>(hf b hb).1⟩⟩
 done:=by
  intro X hP hw hK hc i pins s σ H E I hf st hg
  subst hP hw hK
  obtain ⟨kvs,hq1,hl⟩:=hg
  obtain ⟨ho,hs,hl',vs,rv,dd⟩:=I.held hq1
  obtain ⟨da,hsz⟩:=EW ho hdat dd
  obtain ⟨f0,f1,f2,f3,f4,f5⟩:=hf it (by simp)
  have e1:=rv.len
  rw [hsz] at st
  exact wpAny_pyNext_dict_end (I.ok.hd hc) st da (by simp;lia) fun h' eb=>⟨rfl,I.turned (t':=s.toks) (fun b o hb e=>eb b o hb e) f0 f1 f3 f4 f5⟩
 self:=fun _ _ _ _ _ st h=>wpAny_pyIter_keyiter st h
noncomputable def Gh (x:V) (H:Hp) (R:Addr->Obj->Hp->Prop):Prop:=match x with
 | .ref d=>(∃ kvs,H d=some (.dK kvs)/\∀ o,R d o (upd H d (.frz o (.dK kvs))))\/∃ kvs o,H d=some (.frz o (.dK kvs))/\R d o H
 | _=>False
theorem L5 {X:Cx} {pins:List (Addr × Obj)} {σ:St} {H:Hp} {s:Shared} {x:V} {v:Value} {R:Addr->Obj->Hp->Prop} (I:Inv X pins σ H s) (r:RelV x v) (h:Gh x H R) :
 ∃ d kvs o H2,v=.ref d/\Inv X pins σ H2 s/\H2 d=some (.frz o (.dK kvs))/\R d o H2:=by
 cases x with
 | ref d =>
  cases r
  rcases h with ⟨kvs,e,q⟩ | ⟨kvs,o,e,q⟩
  ·obtain ⟨o,ho,I2⟩:=I.hold e
   exact ⟨d,kvs,o,_,rfl,I2,AD,q o⟩
  ·exact ⟨d,kvs,o,H,rfl,I,e,q⟩
 | _=>exact False.elim h
noncomputable def L9 (to:TE):TI:=fun σ H R=>to σ H fun x H1=>Gh x H1 fun d o H2=>R (Itk d o) H2
section
variable {X:Cx} {K:W.Frag} {tg oe:Expr} {to:TE} {ts:List Expr} {kt:Nat} {tpos apos cpos:Pos}
theorem PZ (ho:PE X oe to):PI X tg oe (L9 to):=by
 intro pins s σ H R I h
 refine thn (ho pins s σ H _ I h) fun v s1 ⟨x,H1,I1,r1,q1⟩=>?_
 obtain ⟨d,kvs,o,H2,rfl,I2,hd2,q⟩:=L5 I1 r1 q1
 obtain ⟨ho',hs,hl,vs,rv,dd⟩:=I2.held hd2
 obtain ⟨o',es,ep,e1,e2,e3,_⟩:=id dd
 rw [ho'] at e1;cases e1
 obtain ⟨da,hsz⟩:=EW ho' e3 dd
 refine wpAny_pyIter_dict hs da ?_
 refine ⟨s1.heap.objs.size,[s1.heap.objs.size],_,_,H2,rfl,I2.kept (t':=s1.toks) fun b o e=>Heap.get?_push_of_some _ e,L8 e3,⟨_,Heap.get?_push_size _ rfl,rfl,?_⟩,fun b hb=>?_,q⟩
 ·rw [hsz];rfl
 ·obtain rfl:b=s1.heap.objs.size:=by simpa using hb
  exact I2.fpOk (Nat.le_refl _) (I2.hok.fresh (Nat.le_refl _))
end
theorem MI {d:Addr} {o:Obj} {kvs:List (Key × V)} {g:TG} {tc:TT} {te:TE} {σc:St} {Q:VK} {H:Hp} (Pv:Nat->List V->Hp->Prop) (h0:Pv 0 [] H) (hl:∀ i ys H,i<=kvs.length->Pv i ys H->H d=some (.frz o (.dK kvs))) (hz:∀ i ys H,i < kvs.length->Pv i ys H->ys.length < sizeLine)
 (hs:∀ i r ys H,kvs[i]? = some r->Pv i ys H->g (kV r.1) σc H fun σ2 H2=>tc σ2 H2 fun b H3=>if b=true then te σ2 H3 fun y H4=>Pv (i+1) (ys++[y]) H4 else Pv (i+1) ys H3)
 (hd:∀ ys H,Pv kvs.length ys H->∀ p,H p=none->Q (.ref p) (upd H p (.lst ys))):CU (Itk d o) g tc te σc Q H:=by
 refine ⟨fun i m ys H=>m=kvs.length - i/\i<=kvs.length/\Pv i ys H,⟨kvs.length,by simp,Nat.zero_le _,h0⟩,?_⟩
 rintro i m ys H ⟨rfl,hi,p⟩
 have q:=hl i ys H hi p
 by_cases hlt:i < kvs.length
 ·refine .inr ⟨⟨kvs,kvs[i],q,by simp [hlt]⟩,hz i ys H hlt p,Pv (i+1),fun ys' H' p'=>⟨kvs.length - (i+1),by lia,rfl,hlt,p'⟩,fun x H' y=>?_⟩
  obtain ⟨rfl,kvs',r,e1,e2,rfl⟩:=y
  rw [q] at e1
  cases e1
  exact hs i r ys _ e2 p
 ·have e:i=kvs.length:=by lia
  subst e
  exact .inl ⟨⟨kvs,q,Nat.le_refl _⟩,hd ys H p⟩
end L2
namespace L2
open PySem PyProof.Rows
section
variable {prog:Program} {w:World} {A:Around} {E:Value->Shared->Prop} {s:Shared}
end
section
variable {X:Cx}
end
end L2
namespace L2
open PySem PySem.Spec PyProof.Rows
end L2
namespace L2
open PySem PySem.Spec PyProof.Rows PySem.W
open Att (EK HS PR)
noncomputable def CdO (a:Addr) (q:Str):HO:=.ext fun h=>h.CodeRec (.ref a) q
noncomputable def Lam (Pt:Addr) (pos:Pos) (q:Str) (H:Hp):Prop :=
 ∃ ps:Array Value,H Pt=some (.tbl ps)/\TriplesOk ps.toList/\(codeAmong pos ps.toList=none\/∃ c',codeAmong pos ps.toList=some (.ref c')/\H c'=some (CdO c' q))
noncomputable def Grow (Pt:Addr) (H H':Hp):Prop:=∀ b o,b≠Pt->H b=some o->H' b=some o
theorem Grow.same {Pt:Addr} {H H':Hp} (h:Same H H'):Grow Pt H H':=fun b o _ e=>h b o e
theorem Lam.same {Pt:Addr} {pos:Pos} {q:Str} {H H':Hp} (l:Lam Pt pos q H) (h:Same H H'):Lam Pt pos q H':=by
 obtain ⟨ps,a,b,c⟩:=l
 refine ⟨ps,h _ _ a,b,?_⟩
 rcases c with c | ⟨c',c,d⟩
 ·exact .inl c
 ·exact .inr ⟨c',c,h _ _ d⟩
section
variable {X:Cx} {pins:List (Addr × Obj)} {σ:List (Option V)} {H:Hp} {s:Shared} {h':Heap}
end
section
variable {prog:Program} {w:World} {A:Around} {s:Shared}
end
section
variable {X:Cx} {Pt c:Addr} {e:Expr} {te:TE} {p pos kpos lpos np cp sp:Pos} {x qual:Str} {params:Arguments} {scope:Scope} {kd:Nat} {i:Int} {K:W.Frag}
end
end L2
namespace L2
open PySem
end L2
namespace L2
open PySem PySem.Spec PyProof.Rows
section
variable {X:Cx} {tg oe:Expr} {to:TE} {apos cpos:Pos}
end
noncomputable def mIn (K:W.Frag) (neg:Bool):R2:=fun x y H Q=>match y with
 | .ref p=>∃ xs,(SqL K H p xs\/SqT K H p xs)/\Aw x=true/\xs.all Aw=true/\Q (.bl (neg ^^ inV x xs)) H
 | _=>False
section
variable {X:Cx} {K:W.Frag}
theorem kIn (hK:X.K=K:=by rfl):OpR X (compareOp .In) (mIn K false):=by
 subst hK
 intro pins s σ H x y v u Q I rx ry h
 cases y with
 | ref p =>
  obtain ⟨xs,h1,h2,h3,q⟩:=h
  exact Nn pins s σ H x _ v u Q I rx ry ⟨p,xs,rfl,h1,h2,h3,by simpa using q⟩
 | _=>exact False.elim h
end
section
variable {X:Cx} {K:W.Frag}
end
end L2
namespace L2
theorem on1 {α:Type} {P:List α->Prop} (h:∀ a,P [a]):∀ us:List α,us.length=1->P us
 | [a],_=>h a
theorem on2 {α:Type} {P:List α->Prop} (h:∀ a b,P [a,b]):∀ us:List α,us.length=2->P us
 | [a,b],_=>h a b
theorem on3 {α:Type} {P:List α->Prop} (h:∀ a b c,P [a,b,c]):∀ us:List α,us.length=3->P us
 | [a,b,c],_=>h a b c
open PySem in
theorem star_lst {xs es:List PySem.Expr} {p:Pos} {env:Env}:starEach (.List xs p::es) env=(false,eval (.List xs p) env)::starEach es env:=by rfl
end L2
namespace L2
open PySem
noncomputable def Hi:Expr->Bool
 | .ListComp ..=>true
 | .SetComp ..=>true
 | .DictComp ..=>true
 | _=>false
theorem Mh {e:Expr} {t:Option Expr} {l:Nat} {env:Env} (h:Hi e=false):swapsWith e t l env=pure false:=by
 cases e <;> first | rfl | cases h
theorem Md {X:Cx} {pos:Pos} {i:Nat} {x:Str} {e:Expr} {te:TE} {pos':Pos} (hN:X.N.Nodup) (hi:X.N[i]? = some x) (hx:Loc X.env.scope x) (he:PE X e te) (hs:Hi e=false) (hf:X.fn x=true\/X.env.scope.names.lookup x=some .local) :
 PS X (.Assign [.Name x pos'] e pos) (DL te (AY i)):=AL hN hi hx he (Mh hs) hf
end L2
namespace L2
open PySem PyProof.Rows
section
variable {prog:Program} {w:World} {A:Around} {E:Value->Shared->Prop} {s:Shared}
end
section
variable {X:Cx}
end
noncomputable abbrev N9 (h:Heap) (z TI TO:Addr) (f0 bb:Value):Prop :=
 h.get? z=some { cls:=.type "zip",dict:=none,data:=.fields #[f0,bb,.bool false,.ref TI,.ref TO],slots:=#[] }
section
variable {prog:Program} {w:World} {A:Around} {E:Value->Shared->Prop} {s:Shared}
end
section
variable {prog:Program} {w:World} {A:Around} {E:Value->Shared->Prop} {s:Shared}
structure ZS (z TI TO i1 i2 l1 l2 T0:Addr) (xs ys:Array Value) (i:Nat) (h:Heap):Prop where
 zp:(i=0/\IsZip h z TI TO .none)\/(0 < i/\(∃ b,N9 h z TI TO (rawInt T0) b)/\∃ a b,IsPair h T0 a b)
 ti:IsPair h TI (.ref i1) (.ref i2)
 to:∃ a b,IsPair h TO a b
 a1:h.IsTupleIter i1 l1 i
 a2:h.IsTupleIter i2 l2 i
 t1:h.IsTuple l1 xs
 t2:h.IsTuple l2 ys
end
section
variable {prog:Program} {w:World} {A:Around} {R:Result->Shared->Prop}
end
section
variable {prog:Program} {w:World} {A:Around} {R:Result->Shared->Prop} {s:Shared}
end
section
variable {prog:Program} {w:World} {A:Around} {E:Value->Shared->Prop} {s:Shared}
end
theorem Inv.many {X:Cx} {pins:List (Addr × Obj)} {σ:St} {H H2:Hp} {s:Shared} {h':Heap} {t':Nat} (I:Inv X pins σ H s) (k:∀ b u,s.heap.get? b=some u->h'.get? b=some u) (sm:∀ b o,H b=some o->H2 b=some o)
 (nw:∀ b o,H2 b=some o->H b=none->s.heap.objs.size<=b/\ObjOk X.prog X.w H2 h' b o):Inv X pins σ H2 { s with heap:=h',toks:=t' }:=by
 refine I.step (g':=s.gens) (d':=s.drawn) (t':=t') (ch:=[]) (fun b hb=>nomatch hb) (fun b u _ _ _ e _=>k b u e) (fun b u _ _ _ e _=>⟨u.slots,k b u e⟩) (fun b u _ e n=>?_) (fun b u _ e=>⟨u,k b u e⟩)
  (fun b xs e=>sm _ _ e) (fun b o u e=>sm _ _ e) (fun b ps e=>⟨#[],by rw [sm _ _ e];simp⟩) (fun m hm=>?_) (fun b u e=>?_) I.bare
 ·cases q:H2 b with
  | none=>rfl
  | some o=>exact absurd (Heap.lt_size e) (Nat.not_lt.mpr (nw b o q n).1)
 ·obtain ⟨u,es,ep,ho,r⟩:=hm
  exact ⟨u,es,ep,k _ u ho,r⟩
 ·cases q:H b with
  | none=>exact (nw b u e q).2
  | some o =>
   have:=sm b o q
   rw [this] at e
   cases e
   exact (I.hok b _ q).stay (fun c v _ q=>k c v q) (fun c q=>sm _ _ q) fun c xs q=>sm _ _ q
theorem Ew:∀ ps:List Addr,Vals (ps.map V.ref) (ps.map Value.ref)
 | []=>.nil
 | p::ps=>.cons rfl (Ew ps)
section
variable {X:Cx}
end
end L2
namespace L2
open PySem
noncomputable def ins:Nat->Nat->Nat->Nat
 | 0,b,q=>2 * q+b
 | i+1,b,q=>2 * ins i b (q / 2)+q % 2
end L2
namespace L2
open PySem PyProof.Rows
theorem K3:typeLookup (.type "tuple") "keys" = pure none:=by rw [typeLookup_type,builtinLookup_eq_fast];kernel_rfl
section
variable {prog:Program} {w:World} {A:Around} {E:Value->Shared->Prop} {s:Shared}
set_option maxRecDepth 8000 in
theorem PF {a:Addr} {o:Obj} {xs:Array Value} {k:Nat} {Q:Option Value->Shared->Prop}
 (hx:s.heap.get? a=some o) (hc:o.cls=.type "tuple") (hdat:o.data=.seq xs k) (hd:o.dict=none) (hA:A.handled=none)
 (h:∀ h' tk e,Heap.NewExcOf s.heap h' e "AttributeError" -> Q none { s with heap:=h',toks:=tk }) :
 wpAny (model prog w) A (getAttr? (.ref a) "keys") Q E s:=by
 obtain ⟨c,dct,dat,sl⟩:=o
 simp only at hc hdat hd
 subst hc hdat hd
 obtain ⟨hp,g,d,tk,os⟩:=s
 have hT:∀ tk',(⟨hp,g,d,tk',os⟩:Shared).TypeIs (.ref a) "tuple":=fun _=>⟨_,hx,rfl⟩
 have f1:=sub_AttributeError
 have f3:=F.slot_tuple_getattribute.lookup
 have f4:=F.slot_tuple_getattribute.bind (.ref a)
 have f5:=am_tuple_getattr_none
 unfold getAttr? getAttrBy? getAttrBy
 repeat (any_goals (first | assumption | exact hT _ | ((with_reducible show wpAny _ _ (call (Value.builtin "tuple.__getattribute__") _ _) _ _ _);refine call_meets F.slot_tuple_getattribute (hT _) am_entry_tuple_getattribute (F.args_tuple_getattribute_2 _ _) (meets_getattribute_miss_tuple a xs k sl "keys" _ K3 (by decide +kernel) (by size_fits)) ⟨hx,hA,fun h' tk' e hx'=>?_⟩) | wp_step))
 obtain ⟨t',u',he⟩:=hx'.there
 show wpAny _ _ (getattributeRaised _ _ _ _ _ _ _) _ _ _
 unfold getattributeRaised
 repeat (any_goals (first | assumption | wp_step))
 exact h _ _ _ hx'.of
theorem JK:entryFor table "dict.update.loop" = some Builtin.«dict.update.loop»:=entryFor_of_tree (by kernel_rfl)
theorem D7:plainId "dict.update.loop" = true:=by decide +kernel
end
section
variable {prog:Program} {w:World} {K:Type} [DecidableEq K] {knd:KeyKind prog w K} {A:Around} {R:Result->Shared->Prop}
theorem LG {E:Value->Shared->Prop} {s:Shared} {d:Addr} {kvs:List (K × Value)} {k:K} {key v:Value} {Q:Unit->Shared->Prop} (hkey:knd.is k key=true) (hm:s.heap.DictOf knd d kvs)
 (hQ:∀ h' tk,h'.DictOf knd d (stored kvs k v)->Heap.SameBut d s.heap h'->Q () { s with heap:=h',toks:=tk }) (hsz:kvs.length<=sizeLine) :
 wpAny (model prog w) A (dictSet d key v) Q E s:=by
 unfold dictSet
 refine wpAny_holding (wpAny_bind (knd.pyHash hkey ?_))
 exact wpAny_dictSetHashed_pairs (s:={ s with toks:=s.toks+1 }) hkey hm (fun h' a b=>hQ h' _ a b) hsz
theorem Jc {d it tp:Addr} {items:Array Value} {n:Nat} {res:Value} (hh:A.handled=none) (more:List (K × Value)) (c:Nat->Addr) (ky:Nat->Value) (hn:more.length=n) (hn1:n<=1000) (his:items.size=n)
 (hit0:∀ j,j < n->items[j]? = some (.ref (c j))) (hmo:∀ j,j < n->∃ k v,more[j]? = some (k,v)/\knd.is k (ky j)=true) :
 ∀ (k i:Nat) (s:Shared),n - i=k->i<=n->s.heap.IsTupleIter it tp i->s.heap.IsTuple tp items->(∀ j,j < n->∀ kv,more[j]? = some kv->s.heap.IsTuple (c j) #[ky j,kv.2])->s.heap.DictOf knd d (merged [] (more.take i)) ->
 (∀ h' tk,h'.DictOf knd d (merged [] more)->(∀ b o,b≠d->b≠it->s.heap.get? b=some o->h'.get? b=some o)->R (.ok (.ret res)) { s with heap:=h',toks:=tk }) ->
 codeAny (model prog w) A (.builtin "dict.update.loop" ⟨[.ref d,.ref it,rawInt i,res],[]⟩) R s:=by
 have hsl:sizeLine=2 ^ 24:=by rw [sizeLine_eq]
 intro k
 induction k with
 | zero =>
  intro i s hk hi hit ht hp hd hR
  have hin:i=n:=by lia
  subst hin
  refine codeAny_builtin JK ?_
  rw [Around.under_plainId D7 _]
  show wpAny _ A.in1 (pyNext (.ref it) >>= _) _ _ s
  have hdi:d≠it:=fun e=>by
   obtain ⟨o,_,_,ho,hc,_⟩:=id hd
   obtain ⟨o2,ho2,hc2,_⟩:=id hit
   rw [e,ho2] at ho
   cases ho
   have:=hc.1
   rw [hc2] at this
   simp at this
  refine wpAny_bind (wpAny_pyNext_tuple_end (A:=A.in1) hh hit ht (by rw [Array.getElem?_eq_none_iff];lia) fun h' hk'=>?_)
  show wpAny _ _ (Builtin.Dict.addKeywords d [] >>= fun _=>ret res) _ _ _
  refine wpAny_bind (wpAny_pure (wpAny_pure ?_))
  have hd':h'.DictOf knd d (merged [] (more.take i)):=Heap.DictOf.at hd fun o e=>hk' _ _ hdi e
  rw [List.take_of_length_le (by lia)] at hd'
  exact hR h' s.toks hd' fun b o _ hb e=>hk' b o hb e
 | succ k ih =>
  intro i s hk hi hit ht hp hd hR
  have hlt:i < n:=by lia
  obtain ⟨kk,v,hmi,hkey⟩:=hmo i hlt
  refine codeAny_builtin JK ?_
  rw [Around.under_plainId D7 _]
  show wpAny _ A.in1 (pyNext (.ref it) >>= _) _ _ s
  obtain ⟨od,_,_,hod,hcd,_⟩:=id hd
  have hcd1:=hcd.1
  obtain ⟨oi,hoi,hci,_⟩:=id hit
  obtain ⟨ot,hot,hct,_⟩:=id ht
  have cls:∀ {b c:Addr} {o o':Obj},s.heap.get? b=some o->s.heap.get? c=some o'->o.cls≠o'.cls->b≠c:=fun {b c o o'} x y n q=>by subst q;rw [x] at y;cases y;exact n rfl
  have hdi:d≠it:=cls hod hoi (by rw [hcd1,hci];simp)
  have hti:tp≠it:=cls hot hoi (by rw [hct,hci];simp)
  have htd:tp≠d:=cls hot hod (by rw [hct,hcd1];simp)
  have hci2:∀ j,j < n->c j≠it/\c j≠d:=fun j hj=>by
   obtain ⟨k2,v2,hm2,_⟩:=hmo j hj
   obtain ⟨o3,ho3,hc3,_⟩:=hp j hj _ hm2
   exact ⟨cls ho3 hoi (by rw [hc3,hci];simp),cls ho3 hod (by rw [hc3,hcd1];simp)⟩
  refine wpAny_bind (wpAny_pyNext_tuple_item (A:=A.in1) hit ht (hit0 i hlt) fun h₁ hit₁ hs₁=>?_)
  have hp1:∀ j,j < n->∀ kv,more[j]? = some kv->h₁.IsTuple (c j) #[ky j,kv.2]:=fun j hj kv hkv=>(hp j hj kv hkv).extBut hs₁.extBut (hci2 j hj).1
  have hd1:h₁.DictOf knd d (merged [] (more.take i)):=hd.sameBut hs₁ hdi
  have ht1:h₁.IsTuple tp items:=ht.extBut hs₁.extBut hti
  obtain ⟨oc,hoc,hcc,nc,hdc⟩:=id (hp1 i hlt _ hmi)
  show wpAny _ A.in1 (holding [Value.ref (c i)] _ >>= _) _ _ _
  refine wpAny_bind (wpAny_holding ?_)
  refine wpAny_bind (wpAny_tryCatch ?_)
  unfold Builtin.Dict.pairItems
  refine wpAny_bind (wpAny_typeOf (T:="tuple") ⟨oc,hoc,hcc⟩ ?_)
  have e1:(Value.type "tuple" == Value.type "list" || Value.type "tuple" == Value.type "tuple")=true:=by decide
  rw [if_pos e1]
  refine wpAny_bind (wpAny_seqItems hoc hdc (wpAny_pure ?_))
  show wpAny _ A.in1 (holding [ky i,v] (dictSet d (ky i) v)) _ _ _
  refine wpAny_holding (LG hkey hd1 (fun h₂ tk hd₂ hs₂=>?_) ?_)
  ·refine wpAny_pure ⟨plainId_quiet D7 _,?_⟩
   have hI2:h₂.IsTupleIter it tp (i+1):=hit₁.extBut hs₂.extBut (Ne.symm hdi)
   have hd₂':h₂.DictOf knd d (merged [] (more.take (i+1))):=by
    rw [merged_take_succ [] more i (kk,v) hmi]
    exact hd₂
   have:=ih (i+1) { s with heap:=h₂,toks:=tk } (by lia) hlt hI2 (ht1.extBut hs₂.extBut htd) (fun j hj kv hkv=>(hp1 j hj kv hkv).extBut hs₂.extBut (hci2 j hj).2) hd₂' fun h' tk' a1 a2=>hR h' tk' a1 fun b o b1 b2 e=>a2 b o b1 b2 (hs₂.extBut _ _ b1 (hs₁.extBut _ _ b2 e))
   exact this
  ·have:=merged_length_le [] (more.take i)
   rw [List.length_take] at this
   simp only [List.length_nil] at this
   lia
end
section
variable {prog:Program} {w:World} {K:Type} [DecidableEq K] {knd:KeyKind prog w K} {A:Around} {E:Value->Shared->Prop} {s:Shared}
theorem J7 {tp:Addr} {o:Obj} {items:Array Value} {k0 n:Nat} {Q:Value->Shared->Prop} (hh:A.handled=none) (more:List (K × Value)) (c:Nat->Addr) (ky:Nat->Value) (hn:more.length=n) (hn1:n<=1000) (his:items.size=n)
 (hit0:∀ j,j < n->items[j]? = some (.ref (c j))) (hmo:∀ j,j < n->∃ k v,more[j]? = some (k,v)/\knd.is k (ky j)=true)
 (hx:s.heap.get? tp=some o) (hc:o.cls=.type "tuple") (hdat:o.data=.seq items k0) (hd:o.dict=none) (hp:∀ j,j < n->∀ kv,more[j]? = some kv->s.heap.IsTuple (c j) #[ky j,kv.2]) (hnd:(more.map (·.1)).Nodup)
 (h:∀ h' tk,h'.DictOf knd s.heap.objs.size more->(∀ b o,s.heap.get? b=some o->h'.get? b=some o)->Q (.ref s.heap.objs.size) { s with heap:=h',toks:=tk }) :
 wpAny (model prog w) A (call (.type "dict") [.ref tp]) Q E s:=by
 refine callType_codes (Q₁:=fun obj s₁=>obj=.ref s.heap.objs.size/\s₁ = { s with heap:=s.heap.push { cls:=.type "dict",data:=.dict #[] } }) F.kt_called_dict (F.kt_typeCall_dict_1 _) F.entry_dict_init (kt_code_dict_new _ ⟨rfl,rfl⟩) ?_
 rintro obj s₁ ⟨rfl,rfl⟩
 have hnew:(s.heap.push { cls:=.type "dict",data:=.dict #[] }).DictOf knd s.heap.objs.size []:=Heap.DictOf.new s.heap
 have hx1:(s.heap.push { cls:=.type "dict",data:=.dict #[] }).get? tp=some o:=Heap.get?_push_of_some _ hx
 refine ⟨hnew.typeIs,F.args_dict_init_2 _ _,?_⟩
 unfold Builtin.«dict.__init__»
 refine wpAny_bind ?_
 unfold Builtin.Dict.selfAndRest
 refine wpAny_bind (wpAny_notOrdered_dict hnew.typeIs ?_)
 show wpAny _ _ (pure (s.heap.objs.size,[Value.ref tp])) _ _ _
 refine wpAny_pure ?_
 show wpAny _ _ (Builtin.Dict.updateFrom "dict.__init__" s.heap.objs.size (.ref tp) [] .none) _ _ _
 unfold Builtin.Dict.updateFrom
 refine wpAny_bind (wpAny_typeOf (T:="tuple") ⟨o,hx1,hc⟩ ?_)
 rw [if_pos (by decide)]
 refine wpAny_bind (PF (A:=A.in1.in1) hx1 hc hdat hd hh fun h₁ tk₁ e he=>?_)
 simp only [Option.isNone_none,if_true]
 refine wpAny_bind (wpAny_rule ?_)
 have ht1:h₁.IsTuple tp items:=⟨o,he.keeps _ _ hx1,hc,k0,hdat⟩
 have keep1:∀ b o,s.heap.get? b=some o->h₁.get? b=some o:=fun b o q=>he.keeps _ _ (Heap.get?_push_of_some _ q)
 refine wpAny_bind (wpAny_pyIter_tuple (s:={ s with heap:=h₁,toks:=tk₁ }) ht1 ?_)
 have up:∀ b o,h₁.get? b=some o->(h₁.push { cls:=.type "tuple_iterator",data:=.fields #[.ref tp,.int 0 0] }).get? b=some o:=fun b o q=>Heap.get?_push_of_some _ q
 refine wpAny_pure ⟨plainId_quiet D7 _,Jc (A:=A.in1) (knd:=knd) hh more c ky hn hn1 his hit0 hmo n 0 _ (Nat.sub_zero _) (Nat.zero_le _) ⟨_,Heap.get?_push_size _ rfl,rfl,rfl⟩ ⟨o,up _ _ (he.keeps _ _ hx1),hc,k0,hdat⟩ (fun j hj kv hkv=>?_) ?_ fun h' tk a1 a2=>?_⟩
 ·obtain ⟨o2,e2,r2⟩:=hp j hj kv hkv
  exact ⟨o2,up _ _ (keep1 _ _ e2),r2⟩
 ·exact Heap.DictOf.at hnew fun o q=>up _ _ (he.keeps _ _ q)
 ·rw [merged_nil_of_nodup more hnd] at a1
  refine ⟨rfl,h h' tk a1 fun b o q=>a2 b o (Nat.ne_of_lt (Heap.lt_size q)) (Nat.ne_of_lt (Heap.lt_size (keep1 _ _ q))) (up _ _ (keep1 _ _ q))⟩
end
section
variable {X:Cx}
noncomputable def Gm (K:W.Frag):List V->Hp->VK->Prop:=fun xs H Q=>match xs with
 | [.ref p]=>∃ (us:List V) (kvs:List (Int × Int)),SqT K H p us/\us.length=kvs.length/\kvs.length<=1000/\(∀ (j:Nat) kv,kvs[j]? = some kv->∃ c,us[j]? = some (.ref c)/\SqT K H c [.int kv.1,.int kv.2])/\(kvs.map (·.1)).Nodup /\
  ∀ d,H d=none->Q (.ref d) (upd H d (.dK (kvs.map fun kv=>(Sum.inl kv.1,V.int kv.2))))
 | _=>False
theorem Mq (hc:X.calm=true):CallR X (.type "dict") (Gm X.K):=by
 intro pins s σ H xs us Q I r q
 match xs,q with
 | [.ref p],⟨ts,kvs,hp,hl,h1000,hkv,hnd,q⟩ =>
 cases r with
 | cons r rr =>
 cases rr
 cases r
 obtain ⟨its,rv,⟨o,ho,hcl,⟨n0,hdat⟩,hdn⟩,_⟩:=I.tupleN hp
 have e1:=rv.length
 -- the pairs as they stand
 have pr:∀ j,j < kvs.length->∃ c t1 t2,its[j]? = some (Value.ref c)/\s.heap.IsTuple c #[.int (kvs.getD j (0,0)).1 t1,.int (kvs.getD j (0,0)).2 t2]:=fun j hj=>by
  have hg:kvs[j]? = some (kvs.getD j (0,0)):=by simp [List.getD_eq_getElem?_getD,hj]
  obtain ⟨c,hc1,hc2⟩:=hkv j _ hg
  obtain ⟨u,hu,ru⟩:=rv.get hc1
  cases ru
  obtain ⟨its2,rv2,p2,_⟩:=I.tuple hc2
  cases rv2 with
  | cons a1 a2 =>
  cases a2 with
  | cons a3 a4 =>
  cases a4
  obtain ⟨t1,rfl⟩:=a1
  obtain ⟨t2,rfl⟩:=a3
  exact ⟨c,t1,t2,hu,p2⟩
 have cf:∃ (c:Nat->Addr) (t1 t2:Nat->Tok),∀ j,j < kvs.length->its[j]? = some (Value.ref (c j))/\s.heap.IsTuple (c j) #[.int (kvs.getD j (0,0)).1 (t1 j),.int (kvs.getD j (0,0)).2 (t2 j)]:=by
  have pr':∀ j,∃ c t1 t2,j < kvs.length->its[j]? = some (Value.ref c)/\s.heap.IsTuple c #[.int (kvs.getD j (0,0)).1 t1,.int (kvs.getD j (0,0)).2 t2]:=fun j=>by
   by_cases hj:j < kvs.length
   ·obtain ⟨c,t1,t2,h⟩:=pr j hj
    exact ⟨c,t1,t2,fun _=>h⟩
   ·exact ⟨0,0,0,fun z=>absurd z hj⟩
  exact ⟨fun j=>(pr' j).choose,fun j=>(pr' j).choose_spec.choose,fun j=>(pr' j).choose_spec.choose_spec.choose,fun j hj=>(pr' j).choose_spec.choose_spec.choose_spec hj⟩
 obtain ⟨c,t1,t2,hcf⟩:=cf
 let more:List (Key × Value):=(List.range kvs.length).map fun j=>(Sum.inl (kvs.getD j (0,0)).1,Value.int (kvs.getD j (0,0)).2 (t2 j))
 have hml:more.length=kvs.length:=by simp [more]
 have hmg:∀ j,j < kvs.length->more[j]? = some (Sum.inl (kvs.getD j (0,0)).1,Value.int (kvs.getD j (0,0)).2 (t2 j)):=fun j hj=>by simp [more,hj]
 have hrng:(List.range kvs.length).map (fun j=>kvs.getD j (0,0))=kvs:=by
  refine List.ext_getElem? fun j=>?_
  rw [List.getElem?_map]
  by_cases hj:j < kvs.length
  ·rw [List.getElem?_range hj];simp [List.getD_eq_getElem?_getD,hj]
  ·rw [List.getElem?_eq_none (by simp;lia),List.getElem?_eq_none (by lia)];rfl
 have hmk:more.map (·.1)=(kvs.map (·.1)).map Sum.inl:=by
  have:more.map (·.1)=((List.range kvs.length).map (fun j=>kvs.getD j (0,0))).map (fun kv=>(Sum.inl kv.1:Key)):=by simp [more]
  rw [this,hrng,List.map_map]
  rfl
 have hrel:∀ m,KV (((List.range m).map fun j=>kvs.getD j (0,0)).map fun kv=>((Sum.inl kv.1:Key),V.int kv.2)) ((List.range m).map fun j=>((Sum.inl (kvs.getD j (0,0)).1:Key),Value.int (kvs.getD j (0,0)).2 (t2 j))):=fun m=>by
  rw [List.map_map]
  generalize List.range m=L
  induction L with
  | nil=>exact .nil
  | cons j L ih=>exact .cons ⟨rfl,⟨_,rfl⟩⟩ ih
 refine J7 (knd:=Ag X.prog X.w) (n:=kvs.length) (I.ok.hd hc) more c (fun j=>.int (kvs.getD j (0,0)).1 (t1 j)) hml h1000 (by simp;lia) (fun j hj=>by have:=(hcf j hj).1;simpa using this) (fun j hj=>⟨_,_,hmg j hj,Ht _ _ _ _⟩) ho hcl hdat hdn (fun j hj kv hkv2=>?_) ?_ fun h' tk a1 a2=>?_
 ·rw [hmg j hj] at hkv2
  cases hkv2
  exact (hcf j hj).2
 ·rw [hmk]
  have nd:∀ l:List Int,l.Nodup->(l.map (Sum.inl:Int->Key)).Nodup:=fun l=>by
   induction l with
   | nil=>intro _;exact List.nodup_nil
   | cons x l ih =>
    intro h
    rw [List.nodup_cons] at h
    rw [List.map_cons,List.nodup_cons]
    refine ⟨fun hm=>?_,ih h.2⟩
    obtain ⟨y,hy,e⟩:=List.mem_map.mp hm
    have:y=x:=by simpa using e
    exact h.1 (this ▸ hy)
  exact nd _ hnd
 ·refine ⟨.ref s.heap.objs.size,_,I.laid (t':=tk) (o:=.dK (kvs.map fun kv=>(Sum.inl kv.1,V.int kv.2))) a2 (Nat.le_refl _) ?_,rfl,q _ (I.hok.fresh (Nat.le_refl _))⟩
  refine ⟨by rw [List.length_map];exact AX h1000,beq_eq_false_iff_ne.mpr (Ne.symm (Nat.ne_of_lt I.big)),more,?_,a1⟩
  have:=hrel kvs.length
  rw [hrng] at this
  exact this
theorem Jt {K:W.Frag} (hc:X.calm=true) (hK:X.K=K:=by rfl):CallR X (.type "dict") (Gm K):=hK ▸ Mq hc
end
section
variable {prog:Program} {w:World} {A:Around} {E:Value->Shared->Prop} {s:Shared}
end
section
variable {prog:Program} {w:World} {A:Around} {E:Value->Shared->Prop} {s:Shared}
end
section
variable {prog:Program} {w:World} {K:Type} [DecidableEq K] {knd:KeyKind prog w K} {A:Around} {R:Result->Shared->Prop}
end
section
variable {prog:Program} {w:World} {K:Type} [DecidableEq K] {knd:KeyKind prog w K} {A:Around} {E:Value->Shared->Prop} {s:Shared}
end
section
variable {X:Cx}
end
section
variable {X:Cx}
end
section
variable {X:Cx} {K:W.Frag}
end
section
variable {X:Cx} {K:W.Frag} {o e e2:Expr} {to:TE} {t:TA} {apos cpos:Pos}
end
end L2
namespace L2
open PySem PySem.Spec PyProof.Rows
section
variable {X:Cx} {K:W.Frag}
end
end L2
namespace L2
open PySem PyProof.Rows
section
variable {X:Cx}
end
section
variable {X:Cx}
end
section
variable {X:Cx} {K:W.Frag}
end
end L2
namespace HT
open PySem PyProof.Rows
section
variable {prog:Program} {w:World} {A:Around} {E:Value->Shared->Prop} {s:Shared}
end
end HT
namespace L2
open PySem PySem.Spec PyProof.Rows
section
variable {X:Cx} {K:W.Frag} {e sx:Expr} {te ts:TE} {lo hi:Option Expr} {tl th:TO} {pos p2:Pos}
end
end L2
namespace HT
open PySem PyProof.Rows
section
variable {prog:Program} {w:World} {A:Around} {E:Value->Shared->Prop} {s:Shared}
end
end HT
namespace L2
open PySem PySem.Spec PyProof.Rows
section
variable {X:Cx} {K:W.Frag}
end
section
variable {X:Cx} {K:W.Frag}
end
section
variable {X:Cx} {K:W.Frag} {e sx:Expr} {te ts:TE} {lo hi:Option Expr} {tl th:TO} {pos p2:Pos}
end
noncomputable abbrev BV:=List (List Bool × Addr × V)
noncomputable abbrev BVr:BV->List (List Bool × Addr × Value)->Prop:=Paired fun p q=>p.1=q.1/\p.2.1=q.2.1/\RelV p.2.2 q.2.2
noncomputable def dV (P:Program) (w:World) (a:Addr) (kvs:BV):HO:=.ext fun h=>∃ xs o es ep,BVr kvs xs/\h.get? a=some o/\o.ExactDict/\o.data=.dict es ep/\es.toList=xs.map (entryOfKey (tupleKind (Ck P w)))/\(xs.map (·.1)).Nodup/\xs.length<=sizeLine/\(a == sysModules)=false
noncomputable def KeysV (H:Hp) (kvs:BV):Prop:=∀ q∈kvs,H q.2.1=some (.tup (q.1.map V.bl))
section
variable {P:Program} {w:World} {H:Hp} {h:Heap} {a:Addr}
end
theorem KeysV.same {H H':Hp} {kvs:BV} (h:KeysV H kvs) (s:∀ b ys,H b=some (.tup ys)->H' b=some (.tup ys)):KeysV H' kvs:=fun q hq=>s _ _ (h q hq)
theorem KeysV.upd {P:Program} {w:World} {H:Hp} {kvs k1:BV} {a:Addr} {o:HO} (h:KeysV H kvs) (e:H a=some (dV P w a k1)):KeysV (upd H a o) kvs:=fun q hq=>by
 have:=h q hq
 rw [AK (fun z=>by rw [z,e] at this;exact nomatch Option.some.inj this)]
 exact this
section
variable {X:Cx} {o i e f value:Expr} {pos pos' tpos apos cpos:Pos} {td ty tx tv:TE}
end
section
variable {X:Cx} {P:Program} {w:World} {o i e f:Expr} {pos apos cpos:Pos} {td ty tx:TE}
end
section
variable {prog:Program} {w:World} {A:Around} {E:Value->Shared->Prop} {s:Shared} {d it:Addr} {o:Obj} {es:Array DictEntry} {ep i:Nat}
end
section
variable {X:Cx} {pins:List (Addr × Obj)} {σ:St} {H:Hp} {s:Shared}
theorem BVr.get {kvs:BV} {xs:List (List Bool × Addr × Value)} (r:BVr kvs xs):∀ {i:Nat} {q:List Bool × Addr × V},kvs[i]? = some q->∃ x,xs[i]? = some x/\x.2.1=q.2.1:=by
 induction r with
 | nil=>intro i q e;simp at e
 | @cons a b l1 l2 h t ih =>
  intro i q e
  cases i with
  | zero =>
   simp at e;subst e
   exact ⟨b,by simp,h.2.1.symm⟩
  | succ i =>
   obtain ⟨v,h1,h2⟩:=ih (i:=i) (q:=q) (by simpa using e)
   exact ⟨v,by simpa using h1,h2⟩
end
section
variable {X:Cx} {K:W.Frag}
end
section
variable {X:Cx} {K:W.Frag}
end
open Classical in
noncomputable def Pe (K:W.Frag) (H:Hp) (u:Value):Dv:=if h:∃ d x,RelV x u/\Rep K H d x then h.choose else .non
section
variable {X:Cx} {K:W.Frag} {pins:List (Addr × Obj)} {σ:St} {H:Hp} {s:Shared}
end
structure GFd (H:Hp) (t l:Addr) (N:Nat):Prop where
 at_:∃ (i g c:Int) (ns:List Int),0<=i/\0<=g/\0<=c/\c<=N/\H t=some (.lst [.ref l,.int i,.int g,.int c])/\l≠t/\H l=some (.lst (ns.map V.int))/\ns.length≠0
theorem GFd.same {H H':Hp} {t l:Addr} {N:Nat} (F:GFd H t l N) (h:Same H H'):GFd H' t l N:=by
 obtain ⟨i,g,c,ns,h1,h2,h3,h4,h5,h6,h7,h8⟩:=F.at_
 exact ⟨i,g,c,ns,h1,h2,h3,h4,h _ _ h5,h6,h _ _ h7,h8⟩
theorem GFd.upd {H:Hp} {t l p:Addr} {o:HO} {N:Nat} (F:GFd H t l N) (h:H p=none):GFd (L2.upd H p o) t l N:=F.same (Same.upd h)
inductive Dw where
 | non | bl (b:Bool) | int (i:Int) | str (x:Str) | tup (ds:List Dw) | lst (ds:List Dw) | emp
noncomputable def Jk (a:Addr) (xs:List V):Heap->Prop:=fun h=>a≠sysModules/\∃ (its:List Value) (n:Nat),Vals xs its/\h.get? a=some { cls:=.type "list",data:=.seq its.toArray n }
mutual
noncomputable def RepW (K:W.Frag) (H:Hp):Dw->V->Prop
 | .non,v=>v=.non
 | .bl b,v=>v=.bl b
 | .int i,v=>v=.int i
 | .str x,v=>v=.str x
 | .tup ds,v=>∃ a xs,v=.ref a/\SqT K H a xs/\RepsW K H ds xs
 | .lst ds,v=>∃ a xs,v=.ref a/\H a=some (.ext (Jk a xs))/\RepsW K H ds xs
 | .emp,v=>∃ a,v=.ref a/\H a=some (.dK [])
noncomputable def RepsW (K:W.Frag) (H:Hp):List Dw->List V->Prop
 | [],xs=>xs=[]
 | d::ds,xs=>∃ x r,xs=x::r/\RepW K H d x/\RepsW K H ds r
end
theorem RepsW.length {K:W.Frag} {H:Hp}:∀ {ds:List Dw} {xs:List V},RepsW K H ds xs->ds.length=xs.length
 | [],xs,h=>by unfold RepsW at h;subst h;rfl
 | d::ds,xs,h=>by
  unfold RepsW at h
  obtain ⟨x,r,rfl,_,h⟩:=h
  rw [List.length_cons,List.length_cons,RepsW.length h]
theorem RepsW.get {K:W.Frag} {H:Hp}:∀ {ds:List Dw} {xs:List V} {i:Nat} {d:Dw},RepsW K H ds xs->ds[i]? = some d->∃ x,xs[i]? = some x/\RepW K H d x
 | [],_,_,_,_,e=>by simp at e
 | d::ds,xs,0,_,h,e=>by
  unfold RepsW at h
  obtain ⟨x,r,rfl,h1,_⟩:=h
  simp at e;subst e
  exact ⟨x,rfl,h1⟩
 | d::ds,xs,i+1,_,h,e=>by
  unfold RepsW at h
  obtain ⟨x,r,rfl,_,h⟩:=h
  obtain ⟨y,h1,h2⟩:=RepsW.get (i:=i) h (by simpa using e)
  exact ⟨y,by simpa using h1,h2⟩
theorem Dq {K:W.Frag} {H:Hp}:RepsW K H [] []:=by unfold RepsW;rfl
theorem E8 {K:W.Frag} {H:Hp} {d:Dw} {ds:List Dw} {x:V} {xs:List V} (h:RepW K H d x) (r:RepsW K H ds xs):RepsW K H (d::ds) (x::xs):=by unfold RepsW;exact ⟨x,xs,rfl,h,r⟩
theorem RepsW.append {K:W.Frag} {H:Hp}:∀ {ds es:List Dw} {xs ys:List V},RepsW K H ds xs->RepsW K H es ys->RepsW K H (ds++es) (xs++ys)
 | [],es,xs,ys,h,h'=>by unfold RepsW at h;subst h;exact h'
 | d::ds,es,xs,ys,h,h'=>by
  unfold RepsW at h
  obtain ⟨x,r,rfl,h1,h2⟩:=h
  exact E8 h1 (RepsW.append h2 h')
theorem RepsW.take {K:W.Frag} {H:Hp}:∀ (k:Nat) {ds:List Dw} {xs:List V},RepsW K H ds xs->RepsW K H (ds.take k) (xs.take k)
 | 0,_,_,_=>by simpa using Dq
 | k+1,[],xs,h=>by unfold RepsW at h;subst h;simpa using Dq
 | k+1,d::ds,xs,h=>by
  unfold RepsW at h
  obtain ⟨x,r,rfl,h1,h2⟩:=h
  simpa using E8 h1 (RepsW.take k h2)
theorem RepsW.drop {K:W.Frag} {H:Hp}:∀ (k:Nat) {ds:List Dw} {xs:List V},RepsW K H ds xs->RepsW K H (ds.drop k) (xs.drop k)
 | 0,_,_,h=>by simpa using h
 | k+1,[],xs,h=>by unfold RepsW at h;subst h;simpa using Dq
 | k+1,d::ds,xs,h=>by
  unfold RepsW at h
  obtain ⟨x,r,rfl,h1,h2⟩:=h
  simpa using RepsW.drop k h2
theorem RepsW.reverse {K:W.Frag} {H:Hp}:∀ {ds:List Dw} {xs:List V},RepsW K H ds xs->RepsW K H ds.reverse xs.reverse
 | [],xs,h=>by unfold RepsW at h;subst h;simpa using Dq
 | d::ds,xs,h=>by
  unfold RepsW at h
  obtain ⟨x,r,rfl,h1,h2⟩:=h
  rw [List.reverse_cons,List.reverse_cons]
  exact RepsW.append (RepsW.reverse h2) (E8 h1 Dq)
mutual
theorem RepW.same {K:W.Frag} {H H':Hp} (s:Same H H'):∀ (d:Dw) (v:V),RepW K H d v->RepW K H' d v
 | .non,v,h=>by unfold RepW at *;exact h
 | .bl b,v,h=>by unfold RepW at *;exact h
 | .int i,v,h=>by unfold RepW at *;exact h
 | .str x,v,h=>by unfold RepW at *;exact h
 | .emp,v,h=>by unfold RepW at *;obtain ⟨a,e,h⟩:=h;exact ⟨a,e,s _ _ h⟩
 | .tup ds,v,h=>by
  unfold RepW at *
  obtain ⟨a,xs,e,h1,h2⟩:=h
  exact ⟨a,xs,e,Aj h1 s,RepsW.same s ds xs h2⟩
 | .lst ds,v,h=>by
  unfold RepW at *
  obtain ⟨a,xs,e,h1,h2⟩:=h
  exact ⟨a,xs,e,s _ _ h1,RepsW.same s ds xs h2⟩
theorem RepsW.same {K:W.Frag} {H H':Hp} (s:Same H H'):∀ (ds:List Dw) (xs:List V),RepsW K H ds xs->RepsW K H' ds xs
 | [],xs,h=>by unfold RepsW at *;exact h
 | d::ds,xs,h=>by
  unfold RepsW at *
  obtain ⟨x,r,e,h1,h2⟩:=h
  exact ⟨x,r,e,RepW.same s d x h1,RepsW.same s ds r h2⟩
end
section
variable {X:Cx} {K:W.Frag} {es:List Expr} {t:TA} {pos:Pos}
end
mutual
noncomputable def Gi:Dw->Nat
 | .tup ds=>FK ds+1
 | .lst ds=>FK ds+1
 | .emp=>1
 | _=>0
noncomputable def FK:List Dw->Nat
 | []=>0
 | d::ds=>max (Gi d) (FK ds)
end
mutual
noncomputable def JM:Dw->Nat
 | .str x=>x.cps.size
 | .tup ds=>Ey ds
 | .lst ds=>Ey ds
 | _=>0
noncomputable def Ey:List Dw->Nat
 | []=>0
 | d::ds=>JM d+1+Ey ds
end
section
variable {X:Cx} {pins:List (Addr × Obj)} {σ:St} {H:Hp} {s:Shared}
end
section
variable {X:Cx} {K:W.Frag}
end
mutual
noncomputable def okW (n:Nat):Dw->Bool
 | .int i=>decide (i.natAbs<=n)
 | .str x=>x.cps.toList.all fun c=>decide (c < 16 ^ 8)
 | .tup ds=>FH n ds
 | .lst ds=>FH n ds
 | _=>true
noncomputable def FH (n:Nat):List Dw->Bool
 | []=>true
 | d::ds=>okW n d && FH n ds
end
structure Fit (n D B:Nat) (d:Dw):Prop where
 ok:okW n d=true
 dep:Gi d<=D
 bulk:JM d<=B
section
variable {X:Cx} {K:W.Frag}
end
noncomputable def Ris (xs:Array Nat):Prop:=xs.toList.Pairwise (· < ·)
structure TabG (w:World) (t:SetTable):Prop where
 led:t.led = !w.params.followText "set-order"
 ris:Ris t.place
noncomputable def SetW (P:Program) (w:World) (h:Heap) (a:Addr) (S:Int->Bool) (n:Nat):Prop :=
 ∃ o es ep t,h.get? a=some o/\o.ExactSet/\o.data=.set es ep t/\ElemsOf (intKind P w) es.toList/\(∀ k,S k=true ↔ ∃ e∈es.toList,(intKind P w).is k e.2=true)/\es.size < scanBound/\t.fits es.size=true/\es.size=n/\TabG w t
section
variable {P:Program} {w:World} {A:Around} {E:Value->Shared->Prop} {s:Shared} {a:Addr}
theorem SetW.at {h h':Heap} {S:Int->Bool} {n:Nat} (x:SetW P w h a S n) (k:∀ o,h.get? a=some o->h'.get? a=some o):SetW P w h' a S n:=by
 obtain ⟨o,es,ep,t,h1,r⟩:=x;exact ⟨o,es,ep,t,k _ h1,r⟩
end
section
variable {P:Program} {w:World} {A:Around} {E:Value->Shared->Prop} {s:Shared} {a:Addr}
end
namespace F
end F
noncomputable def IsSetIter (h:Heap) (I:Addr) (f:Value) (i:Nat) (a:Addr) (n ep:Nat):Prop:=∃ o,h.get? I=some o/\o.cls=.type "set_iterator" /\ o.data=.fields #[f,.int i 0,.ref a,.int n 0,.int ep 0]
theorem IsSetIter.at {h h':Heap} {I a:Addr} {f:Value} {i n ep:Nat} (x:IsSetIter h I f i a n ep) (e:∀ o,h.get? I=some o->h'.get? I=some o):IsSetIter h' I f i a n ep:=let ⟨o,ho,r⟩:=x;⟨o,e _ ho,r⟩
section
variable {P:Program} {w:World} {A:Around} {E:Value->Shared->Prop} {s:Shared} {a I:Addr}
end
section
variable {P:Program} {w:World} {A:Around} {E:Value->Shared->Prop} {s:Shared} {a I:Addr}
end
end L2
namespace L2
open PySem PySem.Spec PyProof.Rows PySem.W PySem.Calls
section
variable {P:Program} {w:World} {A:Around} {E:Value->Shared->Prop} {s:Shared} {a I:Addr}
end
end L2
namespace L2
open PySem PySem.Spec PyProof.Rows
section
variable {X:Cx} {K:W.Frag} {P:Program} {w:World}
variable {C:Addr} {f:Str} {e o value:Expr} {ta tv td ty:TE} {pos pos':Pos}
end
end L2
namespace L2
open PySem PySem.Spec PyProof.Rows PySem.W
end L2
namespace L2
open PySem PySem.Spec PyProof.Rows PySem.W PySem.Calls
section
variable {P:Program} {w:World} {A:Around} {E:Value->Shared->Prop} {s:Shared}
end
end L2
namespace L2
open PySem PySem.Spec PyProof.Rows PySem.W
section
variable {P:Program} {w:World} {A:Around} {E:Value->Shared->Prop} {s:Shared}
end
section
variable {X:Cx}
end
section
variable {X:Cx} {k:Nat} {f:Addr} {fd:FuncData} {ps:List Str} {sp:Sp} {x:Str} {p pos:Pos} {e:Expr} {es:List Expr} {t:TA} {tn:TE}
end
section
variable {X:Cx} {pins:List (Addr × Obj)} {σ:St} {H:Hp} {s:Shared}
end
section
variable {X:Cx} {Pt c f:Addr} {fd:FuncData} {ps:List Str} {k i:Nat} {kn a:Str} {kp pos lpos:Pos} {params:Arguments} {body:Expr} {scope:Scope} {e:Expr} {es:List Expr} {t:TA} {qual:Str} {spK:Addr->Addr->V->Sp}
end
end L2
namespace L2
open PySem PyProof.Rows
section
variable {X:Cx} {K:W.Frag} {o e:Expr} {to:TE} {t:TA} {apos cpos:Pos}
end
end L2
namespace L2
open PySem PySem.Spec PyProof.Rows PySem.SeqAt
section
variable {X:Cx} {K:W.Frag}
end
end L2
namespace L2
open PySem PySem.Spec PyProof.Rows
section
variable {X:Cx} {K:W.Frag}
end
section
variable {X:Cx} {K:W.Frag} {e:Expr} {te:TE} {p pos kpos cp:Pos} {kd:Nat} {i:Int}
end
end L2
namespace L2
open PySem PyProof.Rows
section
variable {X:Cx} {K:W.Frag} {o e:Expr} {to:TE} {t:TA} {apos cpos:Pos}
end
end L2
namespace L2
open PySem PySem.Spec PyProof.Rows
section
variable {X:Cx} {K:W.Frag} {e:Expr} {te:TE} {lo hi:Option Expr} {tl th:TO} {pos p2:Pos}
end
end L2
namespace L2
open PySem
section
variable {X:Cx} {pins:List (Addr × Obj)} {σ:St} {H:Hp} {s:Shared} {a:Addr}
variable {kvs:List (Key × V)} {i:Expr} {pos pos' apos:Pos} {ty:TE} {x:Str} {P:Program} {w:World} {K:W.Frag} {o:Expr} {td:TE}
end
end L2
namespace L2
open PySem Builtin Builtin.Str
section
variable {X:Cx} {a:Addr} {kvs:List (Key × V)} {o e:Expr} {ty to:TE} {t:TA} {apos cpos:Pos} {P:Program} {w:World} {K:W.Frag}
end
end L2
namespace L2
open PySem PyProof.Rows
noncomputable def gal:Bool->Keyed->Array Keyed->Nat->Nat->Nat->StateT SortSt Sem (Option Nat):=sortPriv% PySem.Builtin.gallop
noncomputable def mLo:Array Keyed->Array Keyed->StateT SortSt Sem (Array Keyed):=sortPriv% PySem.Builtin.mergeLo
noncomputable def mHi:Array Keyed->Array Keyed->StateT SortSt Sem (Array Keyed):=sortPriv% PySem.Builtin.mergeHi
section
variable {prog:Program} {w:World} {A:Around} {E:Value->Shared->Prop} {s:Shared}
structure Cmp (prog:Program) (w:World) (A:Around) (E:Value->Shared->Prop) (s:Shared) (kd:SortKind) (El:Keyed->Prop) (κ:Keyed->Int):Prop where
 lt:∀ (x y:Keyed) (st:SortSt) (Q:Option Bool->SortSt->Prop),El x->El y->kindOf st=kd->Q (some (decide (κ x < κ y))) st->wpS (model prog w) A E s (lt' x y) Q st
variable {kd:SortKind} {El:Keyed->Prop} {κ:Keyed->Int}
theorem Ca {arr:Array Keyed} {i:Nat} {x:Keyed} {st:SortSt} {Q:Keyed->SortSt->Prop} (h:arr[i]? = some x) (q:Q x st):wpS (model prog w) A E s (elem' arr i) Q st:=by
 rw [elem'_eq,h]
 exact wpS_pure q
theorem MU {G:Prop} {β:Type} (P:(Nat->Nat->β)->Prop) (Z:Nat->Nat->β) (h1:P Z->G) (h2:P Z):G:=h1 h2
noncomputable def byd (κ:Keyed->Int) (left:Bool) (key x:Keyed):Bool:=if left=true then decide (κ x < κ key) else !decide (κ key < κ x)
theorem Ga (C:Cmp prog w A E s kd El κ) {left:Bool} {key:Keyed} {arr:Array Keyed} {base n hint:Nat} {st:SortSt} {Q:Option Nat->SortSt->Prop} (hk:kindOf st=kd) (he:El key) (hh:hint < n)
 (f:Nat->Keyed) (hf:∀ i,i < n->arr[base+i]? = some (f i)/\El (f i)) (hs:∀ i j,i<=j->j < n->κ (f i)<=κ (f j))
 (q:∀ k,k<=n->(∀ i,i < k->if left=true then κ (f i) < κ key else ¬ κ key < κ (f i))->(∀ i,k<=i->i < n->¬ (if left=true then κ (f i) < κ key else ¬ κ key < κ (f i)))->Q (some k) st) :
 wpS (model prog w) A E s (gal left key arr base n hint) Q st:=by
 have mono:∀ i j,i<=j->j < n->byd κ left key (f j)=true->byd κ left key (f i)=true:=fun i j h1 h2 h3=>by
  have:=hs i j h1 h2
  unfold byd at *
  cases left
  ·simp only [Bool.false_eq_true,if_false,Bool.not_eq_true',decide_eq_false_iff_not] at *;lia
  ·simp only [if_true,decide_eq_true_eq] at *;lia
 have q':∀ k,k<=n->(∀ i,i < k->byd κ left key (f i)=true)->(∀ i,k<=i->i < n->byd κ left key (f i)=false)->Q (some k) st:=fun k h1 h2 h3=>by
  refine q k h1 (fun i hi=>?_) (fun i h4 h5=>?_)
  ·have:=h2 i hi
   unfold byd at this
   cases left
   ·simpa using this
   ·simpa using this
  ·have:=h3 i h4 h5
   unfold byd at this
   cases left
   ·simpa using this
   ·simpa using this
 have by_ok:∀ i,i < n->∀ Q':Option Bool->SortSt->Prop,Q' (some (byd κ left key (f i))) st->wpS (model prog w) A E s (do let x <- elem' arr (base+i);if left=true then lt' x key else do let r <- lt' key x;pure (r.map (!·))) Q' st:=fun i hi Q' h=>by
  refine wpS_bind (Ca (hf i hi).1 ?_)
  unfold byd at h
  cases left
  ·simp only [Bool.false_eq_true,if_false] at h ⊢
   exact wpS_bind (C.lt _ _ _ _ he (hf i hi).2 hk (wpS_pure h))
  ·simp only [if_true] at h ⊢
   exact C.lt _ _ _ _ (hf i hi).2 he hk h
 clear q
 generalize byd κ left key=B at *
 apply MU (fun (Z:Nat->Nat->StateT SortSt Sem (Option Nat))=>∀ l r,(∀ i,i < l->B (f i)=true)->(∀ i,r<=i->i < n->B (f i)=false)->l<=r->r<=n->wpS (model prog w) A E s (Z l r) Q st)
 case h1 =>
  intro bin
  delta gal
  refine wpS_bind ?_
  refine by_ok hint hh _ ?_
  dsimp only
  cases hbh:B (f hint)
  ·rw [if_neg (by decide)]
   refine wpS_bind (wpS_mono (wpS_forRange (I:=fun x c st'=>st'=st/\∃ lo of',c=(none,lo,of')/\lo<=hint/\lo < of'/\x < of'/\B (f (hint - lo))=false)
    (Q:=fun c st'=>st'=st/\∃ lo of',c=(none,lo,of')/\lo<=hint/\lo < of'/\B (f (hint - lo))=false/\(of'<=hint->B (f (hint - of'))=true)) ?step ?fin ⟨rfl,0,1,rfl,Nat.zero_le _,by decide,by decide,hbh⟩) ?post)
   case fin =>
    rintro c st' ⟨rfl,lo,of',rfl,h1,h2,h3,h4⟩
    exact ⟨rfl,lo,of',rfl,h1,h2,h4,fun z=>by lia⟩
   case step =>
    rintro x c st' _ hx ⟨rfl,lo,of',rfl,h1,h2,h3,h4⟩
    dsimp only
    by_cases hge:of' ≥ hint+1
    ·rw [if_pos hge]
     exact wpS_pure ⟨rfl,lo,of',rfl,h1,h2,h4,fun z=>by lia⟩
    ·rw [if_neg hge]
     refine wpS_bind (by_ok (hint - of') (by lia) _ ?_)
     dsimp only
     cases hb:B (f (hint - of'))
     ·rw [if_neg (by decide)]
      exact wpS_pure ⟨rfl,of',2 * of'+1,rfl,by lia,by lia,by lia,hb⟩
     ·rw [if_pos rfl]
      exact wpS_pure ⟨rfl,lo,of',rfl,h1,h2,h4,fun _=>hb⟩
   case post =>
    rintro c st' ⟨rfl,lo,of',rfl,h1,h2,h4,h5⟩
    dsimp only
    have a1:∀ i,i < hint+1 - min of' (hint+1)->B (f i)=true:=fun i hi=>mono i (hint - of') (by lia) (by lia) (h5 (by lia))
    have a2:∀ i,hint - lo<=i->i < n->B (f i)=false:=fun i hi hn=>by
     cases hb:B (f i)
     ·rfl
     ·rw [mono _ _ hi hn hb] at h4;cases h4
    have a3:hint+1 - min of' (hint+1)<=hint - lo:=by lia
    have a4:hint - lo<=n:=by lia
    generalize hint+1 - min of' (hint+1)=l0 at *
    generalize hint - lo=r0 at *
    exact bin l0 r0 a1 a2 a3 a4
  ·rw [if_pos rfl]
   refine wpS_bind (wpS_mono (wpS_forRange (I:=fun x c st'=>st'=st/\∃ lo of',c=(none,lo,of')/\hint+lo < n/\lo < of'/\x < of'/\B (f (hint+lo))=true)
    (Q:=fun c st'=>st'=st/\∃ lo of',c=(none,lo,of')/\hint+lo < n/\lo < of'/\B (f (hint+lo))=true/\(hint+of' < n->B (f (hint+of'))=false)) ?step ?fin ⟨rfl,0,1,rfl,by lia,by decide,by decide,hbh⟩) ?post)
   case fin =>
    rintro c st' ⟨rfl,lo,of',rfl,h1,h2,h3,h4⟩
    exact ⟨rfl,lo,of',rfl,h1,h2,h4,fun z=>by lia⟩
   case step =>
    rintro x c st' _ hx ⟨rfl,lo,of',rfl,h1,h2,h3,h4⟩
    dsimp only
    by_cases hge:of' ≥ n - hint
    ·rw [if_pos hge]
     exact wpS_pure ⟨rfl,lo,of',rfl,h1,h2,h4,fun z=>by lia⟩
    ·rw [if_neg hge]
     refine wpS_bind (by_ok (hint+of') (by lia) _ ?_)
     dsimp only
     cases hb:B (f (hint+of'))
     ·rw [if_pos (show (!false)=true from rfl)]
      exact wpS_pure ⟨rfl,lo,of',rfl,h1,h2,h4,fun _=>hb⟩
     ·rw [if_neg (by decide)]
      exact wpS_pure ⟨rfl,of',2 * of'+1,rfl,by lia,by lia,by lia,hb⟩
   case post =>
    rintro c st' ⟨rfl,lo,of',rfl,h1,h2,h4,h5⟩
    dsimp only
    have a1:∀ i,i < hint+lo+1->B (f i)=true:=fun i hi=>mono i (hint+lo) (by lia) (by lia) h4
    have a2:∀ i,hint+min of' (n - hint)<=i->i < n->B (f i)=false:=fun i hi hn=>by
     cases hb:B (f i)
     ·rfl
     ·have:=mono (hint+of') i (by lia) hn hb
      rw [h5 (by lia)] at this;cases this
    have a3:hint+lo+1<=hint+min of' (n - hint):=by lia
    have a4:hint+min of' (n - hint)<=n:=by lia
    generalize hint+lo+1=l0 at *
    generalize hint+min of' (n - hint)=r0 at *
    exact bin l0 r0 a1 a2 a3 a4
 intro l r a1 a2 a3 a4
 refine wpS_bind (wpS_mono (wpS_forRange (I:=fun x c st'=>st'=st/\∃ l r,c=(none,l,r)/\(∀ i,i < l->B (f i)=true)/\(∀ i,r<=i->i < n->B (f i)=false)/\l<=r/\r<=n/\r - l<=n - x)
  (Q:=fun c st'=>st'=st/\∃ l,c=(none,l,l)/\(∀ i,i < l->B (f i)=true)/\(∀ i,l<=i->i < n->B (f i)=false)/\l<=n) ?step ?fin ⟨rfl,l,r,rfl,a1,a2,a3,a4,by lia⟩) ?post)
 case fin =>
  rintro c st' ⟨rfl,l,r,rfl,h1,h2,h3,h4,h5⟩
  have:l=r:=by lia
  subst this
  exact ⟨rfl,l,rfl,h1,h2,h4⟩
 case step =>
  rintro x c st' _ hx ⟨rfl,l,r,rfl,h1,h2,h3,h4,h5⟩
  dsimp only
  by_cases hge:l ≥ r
  ·rw [if_pos hge]
   have:l=r:=by lia
   subst this
   exact wpS_pure ⟨rfl,l,rfl,h1,h2,h4⟩
  ·rw [if_neg hge]
   refine wpS_bind (by_ok (l+(r - l) / 2) (by lia) _ ?_)
   dsimp only
   cases hb:B (f (l+(r - l) / 2))
   ·rw [if_neg (by decide)]
    refine wpS_pure ⟨rfl,l,l+(r - l) / 2,rfl,h1,fun i hi hn=>?_,by lia,by lia,by lia⟩
    cases hb2:B (f i)
    ·rfl
    ·rw [mono _ _ hi hn hb2] at hb;cases hb
   ·rw [if_pos rfl]
    exact wpS_pure ⟨rfl,l+(r - l) / 2+1,r,rfl,fun i hi=>mono i _ (by lia) (by lia) hb,h2,by lia,h4,by lia⟩
 case post =>
  rintro c st' ⟨rfl,l,rfl,h1,h2,h4⟩
  dsimp only
  exact wpS_pure (q' l h4 h1 h2)
end
section
variable {κ:Keyed->Int}
noncomputable def Srt (κ:Keyed->Int) (l:List Keyed):Prop:=l.Pairwise fun x y=>κ x<=κ y
structure Mg (κ:Keyed->Int) (la lb o:List Keyed) (i j:Nat):Prop where
 il:i<=la.length
 jl:j<=lb.length
 perm:(o++(la.drop i++lb.drop j)).Perm (la++lb)
 srt:Srt κ o
 le:∀ x∈o,∀ y∈la.drop i++lb.drop j,κ x<=κ y
variable {la lb o:List Keyed} {i j n:Nat}
theorem BI {a b:List Keyed} (h1:Srt κ a) (h2:Srt κ b) (h:∀ x∈a,∀ y∈b,κ x<=κ y):Srt κ (a++b):=List.pairwise_append.mpr ⟨h1,h2,h⟩
theorem Mg.a (m:Mg κ la lb o i j) (ha:Srt κ la) (hn:i+n<=la.length) (h:∀ x∈(la.drop i).take n,∀ y∈lb.drop j,κ x<=κ y):Mg κ la lb (o++(la.drop i).take n) (i+n) j:=by
 have hd:la.drop i=(la.drop i).take n++la.drop (i+n):=by
  rw [<- List.drop_drop,List.take_append_drop]
 have hs:Srt κ (la.drop i):=List.Pairwise.sublist (List.drop_sublist _ _) ha
 have hs2:=hs
 rw [hd] at hs2
 obtain ⟨s1,s2,s3⟩:=List.pairwise_append.mp hs2
 refine ⟨hn,m.jl,?_,BI m.srt s1 fun x hx y hy=>m.le x hx y (List.mem_append_left _ (List.mem_of_mem_take hy)),fun x hx y hy=>?_⟩
 ·have:=m.perm
  rw [hd] at this
  rw [List.append_assoc]
  rw [List.append_assoc] at this
  exact this
 ·rcases List.mem_append.mp hx with hx | hx
  ·refine m.le x hx y ?_
   rcases List.mem_append.mp hy with hy | hy
   ·rw [hd];exact List.mem_append_left _ (List.mem_append_right _ hy)
   ·exact List.mem_append_right _ hy
  ·rcases List.mem_append.mp hy with hy | hy
   ·exact s3 x hx y hy
   ·exact h x hx y hy
theorem Mg.b (m:Mg κ la lb o i j) (hb:Srt κ lb) (hn:j+n<=lb.length) (h:∀ x∈(lb.drop j).take n,∀ y∈la.drop i,κ x<=κ y):Mg κ la lb (o++(lb.drop j).take n) i (j+n):=by
 have hd:lb.drop j=(lb.drop j).take n++lb.drop (j+n):=by
  rw [<- List.drop_drop,List.take_append_drop]
 have hs2:Srt κ (lb.drop j):=List.Pairwise.sublist (List.drop_sublist _ _) hb
 rw [hd] at hs2
 obtain ⟨s1,s2,s3⟩:=List.pairwise_append.mp hs2
 refine ⟨m.il,hn,?_,BI m.srt s1 fun x hx y hy=>m.le x hx y (List.mem_append_right _ (List.mem_of_mem_take hy)),fun x hx y hy=>?_⟩
 ·have h1:=m.perm
  rw [hd] at h1
  refine List.Perm.trans ?_ h1
  rw [List.append_assoc]
  refine List.Perm.append_left _ ?_
  rw [<- List.append_assoc,<- List.append_assoc]
  exact List.Perm.append_right _ List.perm_append_comm
 ·rcases List.mem_append.mp hx with hx | hx
  ·refine m.le x hx y ?_
   rcases List.mem_append.mp hy with hy | hy
   ·exact List.mem_append_left _ hy
   ·rw [hd];exact List.mem_append_right _ (List.mem_append_right _ hy)
  ·rcases List.mem_append.mp hy with hy | hy
   ·exact h x hx y hy
   ·exact s3 x hx y hy
theorem Mg.end (m:Mg κ la lb o i j) (ha:Srt κ la) (h:lb.length<=j):(o++la.drop i++lb.drop j).Perm (la++lb)/\Srt κ (o++la.drop i++lb.drop j):=by
 have e:lb.drop j=[]:=List.drop_eq_nil_of_le h
 have h1:=m.perm
 rw [e,List.append_nil] at *
 exact ⟨h1,BI m.srt (List.Pairwise.sublist (List.drop_sublist _ _) ha) fun x hx y hy=>m.le x hx y (List.mem_append_left _ hy)⟩
theorem Mg.end2 (m:Mg κ la lb o i j) (ha:Srt κ la) (hb:Srt κ lb) (h:∀ x∈lb.drop j,∀ y∈la.drop i,κ x<=κ y):(o++lb.drop j++la.drop i).Perm (la++lb)/\Srt κ (o++lb.drop j++la.drop i):=by
 refine ⟨?_,?_⟩
 ·refine List.Perm.trans ?_ m.perm
  rw [List.append_assoc]
  exact List.Perm.append_left _ List.perm_append_comm
 ·rw [List.append_assoc]
  refine BI m.srt (BI (List.Pairwise.sublist (List.drop_sublist _ _) hb) (List.Pairwise.sublist (List.drop_sublist _ _) ha) h) fun x hx y hy=>m.le x hx y ?_
  rcases List.mem_append.mp hy with hy | hy
  ·exact List.mem_append_right _ hy
  ·exact List.mem_append_left _ hy
theorem Mg.start (ha:Srt κ la) (hb:Srt κ lb):Mg κ la lb [] 0 0:=⟨Nat.zero_le _,Nat.zero_le _,List.Perm.refl _,List.Pairwise.nil,fun x hx=>by cases hx⟩
end
structure Sg (st st':SortSt):Prop where
 k:kindOf st'=kindOf st
 a:arrOf st'=arrOf st
 p:pendingOf st'=pendingOf st
 f:failedOf st'=failedOf st
theorem Sg.refl {st:SortSt}:Sg st st:=⟨rfl,rfl,rfl,rfl⟩
section
variable {prog:Program} {w:World} {A:Around} {E:Value->Shared->Prop} {s:Shared} {kd:SortKind} {El:Keyed->Prop} {κ:Keyed->Int}
theorem CY {xs:Array Keyed} {i:Nat} (h:i < xs.toList.length):xs[i]? = some (xs.toList[i]):=by
 rw [<- Array.getElem?_toList,List.getElem?_eq_getElem h]
theorem LY {xs:Array Keyed} (i k:Nat):(xs.extract i (i+k)).toList=(xs.toList.drop i).take k:=by
 rw [Array.toList_extract,List.extract_eq_take_drop,Nat.add_sub_cancel_left]
theorem G9 {xs:Array Keyed} (i:Nat):(xs.extract i xs.size).toList=xs.toList.drop i:=by
 rw [Array.toList_extract,List.extract_eq_take_drop,List.take_of_length_le (by rw [List.length_drop,Array.length_toList];lia)]
theorem JW {l:List Keyed} {i:Nat} (h:i < l.length):(l.drop i).take 1=[l[i]]:=by
 rw [List.drop_eq_getElem_cons h]
 rfl
theorem Ie {l:List Keyed} {i:Nat} {x:Keyed} (h:x∈l.drop i):∃ t,∃ ht:i+t < l.length,x=l[i+t]:=by
 obtain ⟨t,ht,rfl⟩:=List.getElem_of_mem h
 rw [List.length_drop] at ht
 exact ⟨t,by lia,by rw [List.getElem_drop]⟩
theorem Pc {l:List Keyed} {i n:Nat} {x:Keyed} (h:x∈(l.drop i).take n):∃ t,t < n/\∃ ht:i+t < l.length,x=l[i+t]:=by
 obtain ⟨t,ht,rfl⟩:=List.getElem_of_mem h
 rw [List.length_take,List.length_drop] at ht
 exact ⟨t,by lia,by lia,by rw [List.getElem_take,List.getElem_drop]⟩
theorem Ev {l:List Keyed} (h:Srt κ l) {i j:Nat} (hij:i<=j) (hj:j < l.length):κ (l[i]'(by lia))<=κ l[j]:=by
 rcases Nat.eq_or_lt_of_le hij with e | e
 ·subst e;exact Int.le_refl _
 ·exact List.pairwise_iff_getElem.mp h i j (by lia) hj e
end
section
variable {κ:Keyed->Int}
structure Hg (κ:Keyed->Int) (la lb o:List Keyed) (na nb:Nat):Prop where
 il:na<=la.length
 jl:nb<=lb.length
 perm:(la.take na++lb.take nb++o.reverse).Perm (la++lb)
 srt:Srt κ o.reverse
 le:∀ y∈la.take na++lb.take nb,∀ x∈o,κ y<=κ x
variable {la lb o:List Keyed} {na nb n:Nat}
theorem Fv {l:List Keyed} (h:n<=na):l.take na=l.take n++(l.take na).drop n:=by
 have:=List.take_append_drop n (l.take na)
 rw [List.take_take,Nat.min_eq_left h] at this
 exact this.symm
theorem Hg.a (m:Hg κ la lb o na nb) (ha:Srt κ la) (hn:n<=na) (h:∀ x∈(la.take na).drop n,∀ y∈lb.take nb,κ y<=κ x):Hg κ la lb (o++((la.take na).drop n).reverse) n nb:=by
 have hd:=Fv (l:=la) hn
 have hs2:Srt κ (la.take na):=List.Pairwise.sublist (List.take_sublist _ _) ha
 rw [hd] at hs2
 obtain ⟨s1,s2,s3⟩:=List.pairwise_append.mp hs2
 have ml:=m.le
 have mp:=m.perm
 generalize (la.take na).drop n=D at *
 rw [hd] at ml mp
 refine ⟨Nat.le_trans hn m.il,m.jl,?_,?_,fun y hy x hx=>?_⟩
 ·rw [List.reverse_append,List.reverse_reverse]
  refine List.Perm.trans ?_ mp
  rw [<- List.append_assoc]
  refine List.Perm.append_right _ ?_
  rw [List.append_assoc,List.append_assoc]
  exact List.Perm.append_left _ List.perm_append_comm
 ·rw [List.reverse_append,List.reverse_reverse]
  exact BI s2 m.srt fun x hx y hy=>ml x (by simp [hx]) y (List.mem_reverse.mp hy)
 ·rcases List.mem_append.mp hx with hx | hx
  ·refine ml y ?_ x hx
   rcases List.mem_append.mp hy with hy | hy
   ·simp [hy]
   ·simp [hy]
  ·replace hx:=List.mem_reverse.mp hx
   rcases List.mem_append.mp hy with hy | hy
   ·exact s3 y hy x hx
   ·exact h x hx y hy
theorem Hg.b (m:Hg κ la lb o na nb) (hb:Srt κ lb) (hn:n<=nb) (h:∀ x∈(lb.take nb).drop n,∀ y∈la.take na,κ y<=κ x):Hg κ la lb (o++((lb.take nb).drop n).reverse) na n:=by
 have hd:=Fv (l:=lb) hn
 have hs2:Srt κ (lb.take nb):=List.Pairwise.sublist (List.take_sublist _ _) hb
 rw [hd] at hs2
 obtain ⟨s1,s2,s3⟩:=List.pairwise_append.mp hs2
 have ml:=m.le
 have mp:=m.perm
 generalize (lb.take nb).drop n=D at *
 rw [hd] at ml mp
 refine ⟨m.il,Nat.le_trans hn m.jl,?_,?_,fun y hy x hx=>?_⟩
 ·rw [List.reverse_append,List.reverse_reverse]
  simpa [List.append_assoc] using mp
 ·rw [List.reverse_append,List.reverse_reverse]
  exact BI s2 m.srt fun x hx y hy=>ml x (by simp [hx]) y (List.mem_reverse.mp hy)
 ·rcases List.mem_append.mp hx with hx | hx
  ·refine ml y ?_ x hx
   rcases List.mem_append.mp hy with hy | hy
   ·simp [hy]
   ·simp [hy]
  ·replace hx:=List.mem_reverse.mp hx
   rcases List.mem_append.mp hy with hy | hy
   ·exact h x hx y hy
   ·exact s3 y hy x hx
theorem Hg.end (m:Hg κ la lb o na nb) (hb:Srt κ lb) (h:na=0):(la.take na++lb.take nb++o.reverse).Perm (la++lb)/\Srt κ (la.take na++lb.take nb++o.reverse):=by
 refine ⟨m.perm,BI ?_ m.srt fun x hx y hy=>m.le x hx y (List.mem_reverse.mp hy)⟩
 subst h
 rw [List.take_zero,List.nil_append]
 exact List.Pairwise.sublist (List.take_sublist _ _) hb
theorem Hg.end2 (m:Hg κ la lb o na nb) (ha:Srt κ la) (hb:Srt κ lb) (h:∀ x∈lb.take nb,∀ y∈la.take na,κ x<=κ y):(lb.take nb++la.take na++o.reverse).Perm (la++lb)/\Srt κ (lb.take nb++la.take na++o.reverse):=by
 refine ⟨List.Perm.trans (List.Perm.append_right _ List.perm_append_comm) m.perm,BI (BI (List.Pairwise.sublist (List.take_sublist _ _) hb) (List.Pairwise.sublist (List.take_sublist _ _) ha) h) m.srt fun x hx y hy=>m.le x ?_ y (List.mem_reverse.mp hy)⟩
 rcases List.mem_append.mp hx with hx | hx
 ·exact List.mem_append_right _ hx
 ·exact List.mem_append_left _ hx
theorem Hg.start:Hg κ la lb [] la.length lb.length:=⟨Nat.le_refl _,Nat.le_refl _,by simp,List.Pairwise.nil,fun y _ x hx=>by cases hx⟩
end
section
variable {prog:Program} {w:World} {A:Around} {E:Value->Shared->Prop} {s:Shared} {kd:SortKind} {El:Keyed->Prop} {κ:Keyed->Int}
theorem EG {xs:Array Keyed} (n:Nat):(xs.extract 0 n).toList=xs.toList.take n:=by
 rw [Array.toList_extract,List.extract_eq_take_drop,List.drop_zero,Nat.sub_zero]
theorem HI {l:List Keyed} {n:Nat} (h:n - 1 < l.length) (h0:0 < n):(l.take n).drop (n - 1)=[l[n - 1]]:=by
 rw [List.drop_take,show n - (n - 1)=1 by lia,JW h]
theorem D9 {l:List Keyed} {n:Nat} {x:Keyed} (h:x∈l.take n):∃ t,∃ ht:t < l.length,t < n/\x=l[t]:=by
 obtain ⟨t,ht,rfl⟩:=List.getElem_of_mem h
 rw [List.length_take] at ht
 exact ⟨t,by lia,by lia,by rw [List.getElem_take]⟩
theorem LI {l:List Keyed} {i n:Nat} {x:Keyed} (h:x∈(l.take n).drop i):∃ t,∃ ht:t < l.length,i<=t/\t < n/\x=l[t]:=by
 obtain ⟨t,ht,rfl⟩:=Ie h
 rw [List.length_take] at ht
 exact ⟨i+t,by lia,by lia,by lia,by rw [List.getElem_take]⟩
end
theorem Mu (sa:Nat) (l:List Keyed):∀ (m:Nat) (arr:Array Keyed),sa+m+l.length<=arr.size ->
 ((l.zipIdx m).foldl (fun a (p:Keyed × Nat)=>a.setIfInBounds (sa+p.2) p.1) arr).toList=arr.toList.take (sa+m)++l++arr.toList.drop (sa+m+l.length):=by
 induction l with
 | nil=>intro m arr h;simp
 | cons x l ih =>
  intro m arr h
  rw [List.length_cons] at h
  rw [List.zipIdx_cons,List.foldl_cons]
  dsimp only
  rw [ih (m+1) (arr.setIfInBounds (sa+m) x) (by rw [Array.size_setIfInBounds];lia),Array.toList_setIfInBounds]
  have h1:sa+m < arr.toList.length:=by rw [Array.length_toList];lia
  have e1:(arr.toList.set (sa+m) x).take (sa+(m+1))=arr.toList.take (sa+m)++[x]:=by
   rw [show sa+(m+1)=sa+m+1 by lia,List.take_add_one,List.take_set_of_le (Nat.le_refl _),List.getElem?_set_self h1]
   rfl
  rw [e1,List.drop_set_of_lt (by lia),List.length_cons,show sa+(m+1)+l.length=sa+m+(l.length+1) by lia]
  simp
section
variable {prog:Program} {w:World} {A:Around} {E:Value->Shared->Prop} {s:Shared} {kd:SortKind} {El:Keyed->Prop} {κ:Keyed->Int}
theorem Ou {st st':SortSt} {Q:PUnit->SortSt->Prop} (h:Q ⟨⟩ st'):wpS (model prog w) A E s (set st':StateT SortSt Sem PUnit) Q st:=wpS_modify (f:=fun _=>st') h
end
section
variable {prog:Program} {w:World} {A:Around} {E:Value->Shared->Prop} {s:Shared} {kd:SortKind} {El:Keyed->Prop} {κ:Keyed->Int}
noncomputable def Kf (κ:Keyed->Int) (xs:Array Keyed) (i:Nat):Int:=match xs[i]? with
 | some p=>κ p
 | none=>0
theorem CV {xs ys:Array Keyed} {i j:Nat} (h:xs[i]? = ys[j]?):Kf κ xs i=Kf κ ys j:=by unfold Kf;rw [h]
noncomputable def Seg (κ:Keyed->Int) (lo:Nat) (xs:Array Keyed) (k:Nat):Prop:=∀ i j,lo<=i->i<=j->j < lo+k->Kf κ xs i<=Kf κ xs j
noncomputable def Dsc (κ:Keyed->Int) (lo:Nat) (xs:Array Keyed) (k:Nat):Prop:=∀ i j,lo<=i->i<=j->j < lo+k->Kf κ xs j<=Kf κ xs i
structure Bs (kd:SortKind) (a₀:Array Keyed) (lo:Nat) (pe:Array (Nat × Nat × Nat)) (st:SortSt):Prop where
 perm:(arrOf st).Perm a₀
 kind:kindOf st=kd
 failed:failedOf st=none
 pend:pendingOf st=pe
 low:∀ i,i < lo->(arrOf st)[i]? = a₀[i]?
variable {a₀:Array Keyed} {lo:Nat} {pe:Array (Nat × Nat × Nat)}
theorem Bs.size {st:SortSt} (h:Bs kd a₀ lo pe st):(arrOf st).size=a₀.size:=h.perm.size_eq
theorem Bs.put {st:SortSt} (h:Bs kd a₀ lo pe st) {xs:Array Keyed} (hp:xs.Perm (arrOf st)) (hl:∀ i,i < lo->xs[i]? = (arrOf st)[i]?):Bs kd a₀ lo pe (setArr st xs) :=
 ⟨hp.trans h.perm,h.kind,h.failed,h.pend,fun i hi=>(hl i hi).trans (h.low i hi)⟩
theorem Bs.at {st:SortSt} (h:Bs kd a₀ lo pe st) (h0:∀ x∈a₀.toList,El x) {i:Nat} (hi:i < a₀.size):∃ x,(arrOf st)[i]? = some x/\El x/\Kf κ (arrOf st) i=κ x:=by
 have hi':i < (arrOf st).size:=by rw [h.size];exact hi
 have hm:(arrOf st)[i]∈a₀.toList:=(Array.perm_iff_toList_perm.mp h.perm).mem_iff.mp (by simp)
 have e:(arrOf st)[i]? = some (arrOf st)[i]:=getElem?_pos _ i hi'
 exact ⟨_,e,h0 _ hm,by unfold Kf;rw [e]⟩
theorem CA (C:Cmp prog w A E s kd El κ) {st:SortSt} {i j:Nat} {Q:Option Bool->SortSt->Prop} (hB:Bs kd a₀ lo pe st) (h0:∀ x∈a₀.toList,El x) (hi:i < a₀.size) (hj:j < a₀.size)
 (h:Q (some (decide (Kf κ (arrOf st) i < Kf κ (arrOf st) j))) st):wpS (model prog w) A E s (ltAt' i j) Q st:=by
 obtain ⟨x,e1,x1,k1⟩:=hB.at (κ:=κ) h0 hi
 obtain ⟨y,e2,y1,k2⟩:=hB.at (κ:=κ) h0 hj
 rw [k1,k2] at h
 delta ltAt'
 refine wpS_bind (wpS_get ?_)
 refine wpS_bind (Ca e1 (wpS_bind (Ca e2 ?_)))
 exact C.lt _ _ _ _ x1 y1 hB.kind h
theorem Hv {xs:Array Keyed} {src d:Nat} (hs:src < xs.size) (hd:d<=src) (k:Nat) :
 Kf κ (bubble xs src d) k=if k=src - d then Kf κ xs src else if src - d < k/\k<=src then Kf κ xs (k - 1) else Kf κ xs k:=by
 have e:=getElem?_bubble hs d hd k
 by_cases h1:k=src - d
 ·rw [if_pos h1] at e ⊢;exact CV e
 ·rw [if_neg h1] at e ⊢
  by_cases h2:src - d < k/\k<=src
  ·rw [if_pos h2] at e ⊢;exact CV e
  ·rw [if_neg h2] at e ⊢;exact CV e
theorem GK {xs:Array Keyed} {i j:Nat} (hj:j<=xs.size) (k:Nat) :
 Kf κ (mirror xs i j ((j - i) / 2)) k=if i<=k/\k < j then Kf κ xs (i+j - 1 - k) else Kf κ xs k:=by
 have e:=getElem?_mirror_all (i:=i) hj k
 by_cases h1:i<=k/\k < j
 ·rw [if_pos h1] at e ⊢;exact CV e
 ·rw [if_neg h1] at e ⊢;exact CV e
theorem B2 {xs:Array Keyed} {i j:Nat} (hj:j<=xs.size) (heq:∀ k,i<=k->k < j->Kf κ xs k=Kf κ xs (j - 1)) (k:Nat) :
 Kf κ (mirror xs i j ((j - i) / 2)) k=Kf κ xs k:=by
 rw [GK hj]
 split
 ·rw [heq _ (by lia) (by lia),heq k (by lia) (by lia)]
 ·rfl
theorem Et {st:SortSt} {i j:Nat} {Q:Unit->SortSt->Prop} (hB:Bs kd a₀ lo pe st) (hi:lo<=i) (hj:j<=a₀.size) (h:Bs kd a₀ lo pe (setArr st (mirror (arrOf st) i j ((j - i) / 2)))->Q () (setArr st (mirror (arrOf st) i j ((j - i) / 2)))) :
 wpS (model prog w) A E s (reverseSlice' i j) Q st:=by
 refine wpS_reverse (h (hB.put (mirror_perm _ _ _ _) fun k hk=>?_))
 rw [getElem?_mirror_all (by rw [hB.size];exact hj),if_neg (by lia)]
theorem IN (C:Cmp prog w A E s kd El κ) {st:SortSt} {n ok:Nat} {Q:Bool->SortSt->Prop} (h0:∀ x∈a₀.toList,El x) (hn:lo+n<=a₀.size) (hok:ok<=n) (hB:Bs kd a₀ lo pe st) (hs:Seg κ lo (arrOf st) ok)
 (h:∀ st',Bs kd a₀ lo pe st'->Seg κ lo (arrOf st') n->Q true st'):wpS (model prog w) A E s (binarySort' lo n ok) Q st:=by
 rw [binarySort'_eq]
 refine wpS_bind (wpS_mono (wpS_forRange (I:=fun k c st'=>c=(none,())/\Bs kd a₀ lo pe st'/\Seg κ lo (arrOf st') (min k n))
  (Q:=fun c st'=>c=(none,())/\Bs kd a₀ lo pe st'/\Seg κ lo (arrOf st') n) ?step ?fin ?init) ?post)
 case post =>
  rintro c st' ⟨rfl,hB',hs'⟩
  exact wpS_pure (h st' hB' hs')
 case init =>
  refine ⟨rfl,hB,fun i j hl hij hj=>?_⟩
  by_cases h1:ok=0
  ·have:i=j:=by lia
   subst this;exact Int.le_refl _
  ·exact hs i j hl hij (by lia)
 case fin =>
  rintro c st' ⟨hc,hB',hs'⟩
  refine ⟨hc,hB',?_⟩
  rwa [show min (max (max ok 1) n) n=n by lia] at hs'
 case step =>
  rintro k c st' hak hkn ⟨rfl,hB',hs'⟩
  rw [show min k n=k by lia] at hs'
  have hk:lo+k < a₀.size:=by lia
  refine wpS_bind (wpS_mono (wpS_forRange (I:=fun x c st''=>st''=st'/\∃ l r,c=(none,l,r)/\l<=r/\r<=k/\r - l<=k - x /\
   (∀ i,lo<=i->i < lo+l->Kf κ (arrOf st') i<=Kf κ (arrOf st') (lo+k))/\(∀ i,lo+r<=i->i < lo+k->Kf κ (arrOf st') (lo+k) < Kf κ (arrOf st') i))
   (Q:=fun c st''=>st''=st'/\∃ l r,c=(none,l,r)/\l<=k /\
     (∀ i,lo<=i->i < lo+l->Kf κ (arrOf st') i<=Kf κ (arrOf st') (lo+k))/\(∀ i,lo+l<=i->i < lo+k->Kf κ (arrOf st') (lo+k) < Kf κ (arrOf st') i)) ?istep ?ifin ?iinit) ?ipost)
  case iinit=>exact ⟨rfl,0,k,rfl,by lia,by lia,by lia,fun i _ hi=>by lia,fun i h1 h2=>by lia⟩
  case ifin =>
   rintro c st'' ⟨rfl,l,r,rfl,hlr,hrk,hm,hlo,hhi⟩
   have:l=r:=by lia
   subst this
   exact ⟨rfl,l,l,rfl,hrk,hlo,hhi⟩
  case istep =>
   rintro x c st'' _ hxk ⟨rfl,l,r,rfl,hlr,hrk,hm,hlo,hhi⟩
   dsimp only
   by_cases hge:l ≥ r
   ·rw [if_pos hge]
    have:l=r:=by lia
    subst this
    exact wpS_pure ⟨rfl,l,l,rfl,hrk,hlo,hhi⟩
   ·rw [if_neg hge]
    refine wpS_bind (CA C hB' h0 hk (by lia) ?_)
    by_cases hless:Kf κ (arrOf st'') (lo+k) < Kf κ (arrOf st'') (lo+(l+r) / 2)
    ·simp only [hless,decide_true,if_true]
     refine wpS_pure ⟨rfl,l,(l+r) / 2,rfl,by lia,by lia,by lia,hlo,fun i h1 h2=>?_⟩
     exact Int.lt_of_lt_of_le hless (hs' _ _ (by lia) h1 h2)
    ·simp only [hless,decide_false,Bool.false_eq_true,if_false]
     refine wpS_pure ⟨rfl,(l+r) / 2+1,r,rfl,by lia,by lia,by lia,fun i h0' h1=>?_,hhi⟩
     exact Int.le_trans (hs' i (lo+(l+r) / 2) h0' (by lia) (by lia)) (Int.not_lt.mp hless)
  case ipost =>
   rintro c st'' ⟨rfl,l,r,rfl,hlk,hlo,hhi⟩
   show wpS _ _ _ _ (do moveDown' (lo+k) (lo+l);pure (ForInStep.yield (none,()))) _ _
   rw [moveDown'_eq]
   have hks:lo+k < (arrOf st'').size:=by rw [hB'.size];exact hk
   refine wpS_bind (wpS_modify (wpS_pure ⟨rfl,hB'.put (bubble_perm _ _ _) (fun i hi=>?_),?_⟩))
   ·show (bubble (arrOf st'') (lo+k) (lo+k - (lo+l)))[i]? = _
    rw [getElem?_bubble hks _ (by lia),if_neg (by lia),if_neg (by lia)]
   rw [show min (k+1) n=k+1 by lia]
   intro i j hl hij hj
   show Kf κ (bubble (arrOf st'') (lo+k) (lo+k - (lo+l))) i<=Kf κ (bubble (arrOf st'') (lo+k) (lo+k - (lo+l))) j
   rw [Hv hks (by lia),Hv hks (by lia),show lo+k - (lo+k - (lo+l))=lo+l by lia]
   repeat' split
   all_goals first
    | (exfalso;lia)
    | exact Int.le_refl _
    | exact hlo _ (by lia) (by lia)
    | exact Int.le_of_lt (hhi _ (by lia) (by lia))
    | exact hs' _ _ (by lia) (by lia) (by lia)
theorem Io {M:Model} {α:Type} {m:StateT SortSt Sem α} {R:α->SortSt->Prop} {st:SortSt} (P:SortSt->Prop) (Z:StateT SortSt Sem α) (h1:(∀ st',P st'->wpS M A E s Z R st')->wpS M A E s m R st) (h2:∀ st',P st'->wpS M A E s Z R st'):wpS M A E s m R st:=h1 h2
theorem Ix {xs:Array Keyed}:Seg κ lo xs 1:=fun i j h1 h2 h3=>by
 have:i=j:=by lia
 subst this
 exact Int.le_refl _
theorem Seg.more {xs:Array Keyed} {x:Nat} (h:Seg κ lo xs x) (h1:1<=x) (hl:¬ Kf κ xs (lo+x) < Kf κ xs (lo+x - 1)):Seg κ lo xs (x+1):=fun i j h2 hij hj=>by
 by_cases hjx:j < lo+x
 ·exact h i j h2 hij hjx
 ·have e:j=lo+x:=by lia
  subst e
  by_cases e2:i=lo+x
  ·subst e2;exact Int.le_refl _
  ·exact Int.le_trans (h i (lo+x - 1) h2 (by lia) (by lia)) (Int.not_lt.mp hl)
theorem Dsc.more {xs:Array Keyed} {x:Nat} (h:Dsc κ lo xs x) (h1:1<=x) (hl:Kf κ xs (lo+x)<=Kf κ xs (lo+x - 1)):Dsc κ lo xs (x+1):=fun i j h2 hij hj=>by
 by_cases hjx:j < lo+x
 ·exact h i j h2 hij hjx
 ·have e:j=lo+x:=by lia
  subst e
  by_cases e2:i=lo+x
  ·subst e2;exact Int.le_refl _
  ·exact Int.le_trans hl (h i (lo+x - 1) h2 (by lia) (by lia))
theorem Ft (C:Cmp prog w A E s kd El κ) {st:SortSt} {nrem:Nat} {Q:Option Nat->SortSt->Prop} (h0:∀ x∈a₀.toList,El x) (hn:lo+nrem<=a₀.size) (h1:1<=nrem) (hB:Bs kd a₀ lo pe st)
 (h:∀ m st',Bs kd a₀ lo pe st'->1<=m->m<=nrem->Seg κ lo (arrOf st') m->Q (some m) st'):wpS (model prog w) A E s (countRun' lo nrem) Q st:=by
 delta countRun'
 refine wpS_bind (wpS_mono (wpS_forRange (I:=fun x c st'=>st'=st/\c=(none,x)/\Seg κ lo (arrOf st) x)
  (Q:=fun c st'=>st'=st/\∃ n,c=(none,n)/\1<=n/\n<=nrem/\Seg κ lo (arrOf st) n/\(n=nrem\/Kf κ (arrOf st) (lo+n) < Kf κ (arrOf st) (lo+n - 1))) ?step ?fin ⟨rfl,rfl,Ix⟩) ?post)
 case fin =>
  rintro c st' ⟨rfl,rfl,hs'⟩
  rw [show max 1 nrem=nrem by lia] at hs' ⊢
  exact ⟨rfl,nrem,rfl,h1,Nat.le_refl _,hs',.inl rfl⟩
 case step =>
  rintro x c st' hax hxn ⟨rfl,rfl,hs'⟩
  dsimp only
  refine wpS_bind (CA C hB h0 (by lia) (by lia) ?_)
  by_cases hless:Kf κ (arrOf st') (lo+x) < Kf κ (arrOf st') (lo+x - 1)
  ·simp only [hless,decide_true,if_true]
   exact wpS_pure ⟨rfl,x,rfl,hax,by lia,hs',.inr hless⟩
  ·simp only [hless,decide_false,Bool.false_eq_true,if_false]
   exact wpS_pure ⟨rfl,rfl,hs'.more hax hless⟩
 case post =>
  rintro c st' ⟨rfl,n,rfl,hn1,hn2,hsn,hor⟩
  dsimp only
  by_cases hnn:n=nrem
  ·rw [if_pos (by simpa using hnn)]
   exact wpS_pure (h n _ hB hn1 hn2 hsn)
  rw [if_neg (by simpa using hnn)]
  have hlt:=hor.resolve_left hnn
  apply Io (fun st'=>Bs kd a₀ lo pe st'/\Dsc κ lo (arrOf st') (n+1))
  case h1 =>
   intro zz
   by_cases hgt:n > 1
   ·rw [if_pos hgt]
    refine wpS_bind (CA C hB h0 (by lia) (by lia) ?_)
    by_cases hrose:Kf κ (arrOf st') lo < Kf κ (arrOf st') (lo+n - 1)
    ·simp only [hrose,decide_true,if_true]
     exact wpS_pure (h n _ hB hn1 hn2 hsn)
    ·simp only [hrose,decide_false,Bool.false_eq_true,if_false]
     have hsz:lo+n<=(arrOf st').size:=by rw [hB.size];lia
     have hall:∀ k,lo<=k->k < lo+n->Kf κ (arrOf st') k=Kf κ (arrOf st') (lo+n - 1):=fun k hk1 hk2=>by
      have a1:=hsn lo k (Nat.le_refl _) hk1 hk2
      have a2:=hsn k (lo+n - 1) hk1 (by lia) (by lia)
      lia
     refine wpS_bind (Et hB (Nat.le_refl _) (by lia) fun hB2=>zz _ ⟨hB2,Dsc.more (fun i j hi hij hj=>?_) hn1 ?_⟩)
     ·show Kf κ (mirror (arrOf st') _ _ _) j<=Kf κ (mirror (arrOf st') _ _ _) i
      rw [B2 hsz hall,B2 hsz hall,hall i (by lia) (by lia),hall j (by lia) (by lia)]
      exact Int.le_refl _
     ·show Kf κ (mirror (arrOf st') _ _ _) _<=Kf κ (mirror (arrOf st') _ _ _) _
      rw [B2 hsz hall,B2 hsz hall]
      exact Int.le_of_lt hlt
   ·rw [if_neg hgt]
    have e:n=1:=by lia
    exact zz _ ⟨hB,Dsc.more (fun i j hi hij hj=>by
     have:i=j:=by lia
     subst this
     exact Int.le_refl _) hn1 (Int.le_of_lt hlt)⟩
  case h2 =>
   clear hB hsn hor hlt
   rintro st2 ⟨hB,hd⟩
   refine wpS_bind (wpS_lift (wpAny_rule ⟨rfl,?_⟩))
   refine wpS_bind (wpS_mono (wpS_forRange (I:=fun x c st'=>∃ neq,c=(none,x,neq)/\Bs kd a₀ lo pe st'/\Dsc κ lo (arrOf st') x/\neq+1<=x/\(∀ i,lo+x - (neq+1)<=i->i < lo+x->Kf κ (arrOf st') i=Kf κ (arrOf st') (lo+x - 1)))
    (Q:=fun c st'=>∃ x neq,c=(none,x,neq)/\Bs kd a₀ lo pe st'/\1<=x/\x<=nrem/\Dsc κ lo (arrOf st') x/\neq+1<=x/\(∀ i,lo+x - (neq+1)<=i->i < lo+x->Kf κ (arrOf st') i=Kf κ (arrOf st') (lo+x - 1))) ?dstep ?dfin ⟨0,rfl,hB,hd,by lia,fun i h1 h2=>by congr 1;lia⟩) ?dpost)
   case dfin =>
    rintro c st' ⟨neq,rfl,hB',hs',hq,he⟩
    rw [show max (n+1) nrem=nrem by lia] at hs' hq he ⊢
    exact ⟨_,_,rfl,hB',h1,Nat.le_refl _,hs',hq,he⟩
   case dstep =>
    rintro x c st' hax hxn ⟨neq,rfl,hB',hs',hq,he⟩
    dsimp only
    have hsz:lo+x<=(arrOf st').size:=by rw [hB'.size];lia
    refine wpS_bind (CA C hB' h0 (by lia) (by lia) ?_)
    by_cases hless:Kf κ (arrOf st') (lo+x) < Kf κ (arrOf st') (lo+x - 1)
    ·simp only [hless,decide_true,if_true]
     have hm:=hs'.more (by lia) (Int.le_of_lt hless)
     by_cases hneq:neq > 0
     ·rw [if_pos hneq]
      refine wpS_bind (Et hB' (by lia) (by lia) fun hB2=>wpS_pure ⟨0,rfl,hB2,fun i j hi hij hj=>?_,by lia,fun i h1 h2=>by congr 1;lia⟩)
      show Kf κ (mirror (arrOf st') _ _ _) j<=Kf κ (mirror (arrOf st') _ _ _) i
      rw [B2 hsz he,B2 hsz he]
      exact hm i j hi hij hj
     ·rw [if_neg hneq]
      exact wpS_pure ⟨0,rfl,hB',hm,by lia,fun i h1 h2=>by congr 1;lia⟩
    ·simp only [hless,decide_false,Bool.false_eq_true,if_false]
     refine wpS_bind (CA C hB' h0 (by lia) (by lia) ?_)
     by_cases hlarger:Kf κ (arrOf st') (lo+x - 1) < Kf κ (arrOf st') (lo+x)
     ·simp only [hlarger,decide_true,if_true]
      exact wpS_pure ⟨_,_,rfl,hB',by lia,by lia,hs',hq,he⟩
     ·simp only [hlarger,decide_false,Bool.false_eq_true,if_false]
      have heqx:Kf κ (arrOf st') (lo+x)=Kf κ (arrOf st') (lo+x - 1):=by lia
      refine wpS_pure ⟨neq+1,rfl,hB',hs'.more (by lia) (by lia),by lia,fun i h1 h2=>?_⟩
      rw [show lo+(x+1) - 1=lo+x by lia]
      by_cases hix:i=lo+x
      ·subst hix;rfl
      ·rw [heqx];exact he i (by lia) (by lia)
   case dpost =>
    rintro c st3 ⟨x,neq,rfl,hB3,hx1,hx2,hs3,hq,he⟩
    dsimp only
    have hsz:lo+x<=(arrOf st3).size:=by rw [hB3.size];lia
    apply Io (fun st'=>Bs kd a₀ lo pe st'/\Dsc κ lo (arrOf st') x)
    case h1 =>
     intro zz
     by_cases hneq:neq > 0
     ·rw [if_pos hneq]
      refine wpS_bind (Et hB3 (by lia) (by lia) fun hB2=>zz _ ⟨hB2,fun i j hi hij hj=>?_⟩)
      show Kf κ (mirror (arrOf st3) _ _ _) j<=Kf κ (mirror (arrOf st3) _ _ _) i
      rw [B2 hsz he,B2 hsz he]
      exact hs3 i j hi hij hj
     ·rw [if_neg hneq]
      exact zz _ ⟨hB3,hs3⟩
    case h2 =>
     clear hB3 hs3 he hsz
     rintro st4 ⟨hB4,hs4⟩
     have hsz:lo+x<=(arrOf st4).size:=by rw [hB4.size];lia
     refine wpS_bind (Et hB4 (Nat.le_refl _) (by lia) fun hB5=>?_)
     have hsg:Seg κ lo (arrOf (setArr st4 (mirror (arrOf st4) lo (lo+x) ((lo+x - lo) / 2)))) x:=fun i j hi hij hj=>by
      show Kf κ (mirror (arrOf st4) _ _ _) i<=Kf κ (mirror (arrOf st4) _ _ _) j
      rw [GK hsz,GK hsz,if_pos (by lia),if_pos (by lia)]
      exact hs4 _ _ (by lia) (by lia) (by lia)
     generalize setArr st4 (mirror (arrOf st4) lo (lo+x) ((lo+x - lo) / 2))=st5 at hB5 hsg ⊢
     refine wpS_bind (wpS_mono (wpS_forRange (I:=fun x c st'=>st'=st5/\c=(none,x)/\Seg κ lo (arrOf st5) x)
      (Q:=fun c st'=>st'=st5/\∃ n,c=(none,n)/\1<=n/\n<=nrem/\Seg κ lo (arrOf st5) n) ?step ?fin ⟨rfl,rfl,hsg⟩) ?post)
     case fin =>
      rintro c st' ⟨rfl,rfl,hs'⟩
      rw [show max x nrem=nrem by lia] at hs' ⊢
      exact ⟨rfl,nrem,rfl,h1,Nat.le_refl _,hs'⟩
     case step =>
      rintro y c st' hax hxn ⟨rfl,rfl,hs'⟩
      dsimp only
      refine wpS_bind (CA C hB5 h0 (by lia) (by lia) ?_)
      by_cases hless:Kf κ (arrOf st') (lo+y) < Kf κ (arrOf st') (lo+y - 1)
      ·simp only [hless,decide_true,if_true]
       exact wpS_pure ⟨rfl,y,rfl,by lia,by lia,hs'⟩
      ·simp only [hless,decide_false,Bool.false_eq_true,if_false]
       exact wpS_pure ⟨rfl,rfl,hs'.more (by lia) hless⟩
     case post =>
      rintro c st' ⟨rfl,m,rfl,hm1,hm2,hsm⟩
      exact wpS_pure (h m _ hB5 hm1 hm2 hsm)
end
section
variable {prog:Program} {w:World} {A:Around} {E:Value->Shared->Prop} {s:Shared} {kd:SortKind} {El:Keyed->Prop} {κ:Keyed->Int} {a₀:Array Keyed}
theorem EY {xs:Array Keyed} {i:Nat} (h:i < xs.toList.length):Kf κ xs i=κ xs.toList[i]:=by
 unfold Kf
 rw [CY h]
theorem Hw {xs:Array Keyed} {n:Nat} (h:Seg κ 0 xs n):Srt κ (xs.toList.take n):=List.pairwise_iff_getElem.mpr fun i j hi hj hij=>by
 rw [List.length_take] at hi hj
 have:=h i j (Nat.zero_le _) (by lia) (by lia)
 rw [EY (by lia),EY (by lia)] at this
 simpa using this
theorem NQ {xs:Array Keyed} {n m:Nat} (h:Seg κ n xs m) (hs:xs.toList.length=n+m):Srt κ (xs.toList.drop n):=List.pairwise_iff_getElem.mpr fun i j hi hj hij=>by
 rw [List.length_drop] at hi hj
 have:=h (n+i) (n+j) (by lia) (by lia) (by lia)
 rw [EY (by lia),EY (by lia)] at this
 rw [List.getElem_drop,List.getElem_drop]
 exact this
structure Dn (kd:SortKind) (κ:Keyed->Int) (a₀:Array Keyed) (st:SortSt):Prop where
 perm:(arrOf st).toList.Perm a₀.toList
 kind:kindOf st=kd
 failed:failedOf st=none
 pend:(pendingOf st).size<=1
 srt:Srt κ (arrOf st).toList
structure Tw (kd:SortKind) (κ:Keyed->Int) (a₀:Array Keyed) (n1 n2 pw:Nat) (st:SortSt):Prop where
 perm:(arrOf st).toList.Perm a₀.toList
 kind:kindOf st=kd
 failed:failedOf st=none
 pend:pendingOf st = #[(0,n1,pw),(n1,n2,0)]
 l1:0 < n1
 l2:0 < n2
 len:n1+n2=a₀.size
 s1:Srt κ ((arrOf st).toList.take n1)
 s2:Srt κ ((arrOf st).toList.drop n1)
theorem Oz {n:Nat} (h1:1<=n) (h:n < 64):minRun' n n 0=n:=by
 obtain ⟨f,hf⟩:∃ f,n=f+1:=⟨n - 1,by lia⟩
 have:minRun' (f+1) n 0=n:=by rw [minRun'_succ,if_pos h];rfl
 rwa [<- hf] at this
theorem Ly:minRun' 64 64 0=32:=rfl
end
section
variable {prog:Program} {w:World} {A:Around} {E:Value->Shared->Prop} {s:Shared}
end
end L2
namespace L2
open PySem PySem.Spec PyProof.Rows PySem.W
section
variable {P:Program} {w:World} {A:Around} {E:Value->Shared->Prop} {s:Shared} {a:Addr}
end
section
variable {X:Cx} {K:W.Frag} {P:Program} {w:World}
end
end L2
namespace L2
open PySem PySem.Spec PyProof.Rows PySem.W PySem.Calls
section
variable {P:Program} {w:World} {A:Around} {E:Value->Shared->Prop} {s:Shared}
theorem JG {v:Value} {Q:Bool->Shared->Prop} (h:Q true s):wpAny (model P w) A (eqBool v v) Q E s:=by
 unfold eqBool
 refine wpAny_holding ?_
 rw [if_pos (by simp)]
 exact wpAny_bind (wpAny_rule (wpAny_pure h))
noncomputable def PairV (h:Heap) (v:Value) (k:Int):Prop:=∃ a t y o n,v=.ref a/\h.get? a=some o/\o.cls=.type "tuple" /\ o.data=.seq #[.int k t,y] n
theorem PairV.keep {h h':Heap} {v:Value} {k:Int} (p:PairV h v k) (e:∀ b o,o.cls=.type "tuple" -> h.get? b=some o->h'.get? b=some o):PairV h' v k:=by
 obtain ⟨a,t,u,o,n,rfl,ha,hc,hd⟩:=p
 exact ⟨a,t,u,o,n,rfl,e _ _ hc ha,hc,hd⟩
theorem Oi {v v':Value} {k k':Int} {C:Bool->Shared->Prop} (h1:PairV s.heap v k) (h2:PairV s.heap v' k') (hs:k=k'->v=v') (h:C (decide (k < k')) s) :
 wpAny (model P w) A (keyLt' (tuples' true) v v') C (fun _ _=>False) s:=by
 obtain ⟨a,t,u,o,n,rfl,ha,hc,hd⟩:=h1
 obtain ⟨a',t',u',o',n',rfl,ha',hc',hd'⟩:=h2
 by_cases e:k=k'
 ·have e2:=hs e
  cases e2
  subst e
  refine kat_lt ha hd ha hd ?_
  show KatLex P w A true _ C [(.int k t,.int k t),(u,u)] 0 s
  refine kat_cons (JG (kat_yes (kat_cons (JG (kat_yes (kat_nil ?_))))))
  rw [show decide (k < k)=false by simp] at h
  exact h
 ·refine kat_lt ha hd ha' hd' ?_
  show KatLex P w A true _ C [(.int k t,.int k' t'),(u,u')] 0 s
  refine kat_cons (wpAny_eqBool_int (kat_go (fun e'=>absurd (by simpa using e') e) (fun _=>kat_no (oneLt_int h))))
theorem KC {vs:List Value} {κv:Value->Int} (hv:∀ v∈vs,PairV s.heap v (κv v)) (hu:∀ v∈vs,∀ v'∈vs,κv v=κv v'->v=v'):Cmp P w A E s (tuples' true) (fun p=>p.1∈vs) (fun p=>κv p.1):=⟨fun x y st Q hx hy hk h=>by
 rw [lt'_eq]
 refine wpS_bind (wpS_get ?_)
 rw [hk]
 refine wpS_bind (wpS_lift (wpAny_attempt (wpAny_mono (Oi (hv _ hx) (hv _ hy) (hu _ hx _ hy) (C:=fun b s'=>s'=s/\b=decide (κv x.1 < κv y.1)) ⟨rfl,rfl⟩) ?_ fun _ _ e=>e.elim)))
 rintro b s' ⟨rfl,rfl⟩
 exact ⟨rfl,wpS_pure h⟩⟩
theorem JE {h:Heap}:∀ {vs:List Value},(∀ v∈vs,∃ k,PairV h v k)->∃ fs:List Value,KatTups h vs fs/\fs.length=vs.length/\∀ f∈fs,∃ k t,f=.int k t
 | [],_=>⟨[],.nil,rfl,nofun⟩
 | v::vs,hv=>by
  obtain ⟨k,a,t,u,o,n,rfl,ha,hc,hd⟩:=hv v (by simp)
  obtain ⟨fs,h1,h2,h3⟩:=JE (vs:=vs) fun v' h'=>hv v' (List.mem_cons_of_mem _ h')
  refine ⟨.int k t::fs,KatTups.cons ha hc hd rfl h1,by simp [h2],fun f hf=>?_⟩
  rcases List.mem_cons.mp hf with rfl | z
  ·exact ⟨k,t,rfl⟩
  ·exact h3 f z
end
end L2
namespace L2
open PySem PySem.Spec PyProof.Rows PySem.W
noncomputable def Bh:Value->Addr
 | .ref a=>a
 | _=>0
section
variable {P:Program} {w:World} {A:Around} {E:Value->Shared->Prop} {s:Shared}
end
section
variable {X:Cx}
end
theorem HZ:∀ {as:List Addr} {its:List Value},Vals (as.map V.ref) its->its=as.map Value.ref
 | [],_,h=>by cases h;rfl
 | a::as,_,h=>by
  cases h with
  | cons r t =>
   cases r
   rw [HZ t]
   rfl
section
variable {X:Cx}
end
section
variable {X:Cx}
end
end L2
namespace L2
open PySem PyProof.Rows
section
variable {prog:Program} {w:World} {A:Around} {E:Value->Shared->Prop} {s:Shared}
end
section
variable {prog:Program} {w:World} {K:Type} [DecidableEq K] {knd:KeyKind prog w K} {A:Around} {R:Result->Shared->Prop}
end
section
variable {prog:Program} {w:World} {K:Type} [DecidableEq K] {knd:KeyKind prog w K} {A:Around} {E:Value->Shared->Prop} {s:Shared}
end
section
variable {X:Cx}
end
end L2
namespace L2
open PySem PySem.Spec PyProof.Rows
section
variable {P:Program} {w:World} {A:Around} {E:Value->Shared->Prop} {s:Shared} {a:Addr}
end
section
variable {X:Cx} {K:W.Frag} {P:Program} {w:World}
end
section
variable {X:Cx} {K:W.Frag} {e sx:Expr} {te ts:TE} {pos p2:Pos}
end
section
variable {X:Cx}
end
end L2
namespace L2
end L2
namespace L2
open PySem PySem.Spec PyProof.Rows
noncomputable def ExA (h:Heap) (x:Addr) (cls:Value) (od:Option Addr) (t:Option (Addr × Value)):Prop :=
 ∃ oe vs,h.get? x=some oe/\oe.cls=cls/\oe.dict=od/\oe.data=.fields vs/\match t with
  | none=>vs[1]? = some .none
  | some (T,fl)=>vs[1]? = some (.ref T)/\T≠x/\∃ oT ts,h.get? T=some oT/\oT.data=.fields ts/\ts[3]? = some fl
noncomputable def Sl (fs ch:List Addr) (h h':Heap):Prop:=∀ b o,h.get? b=some o->b∉ch->(b∉fs->h'.get? b=some o)/\∃ sl,h'.get? b=some { o with slots:=sl }
section
variable {M:Model} {A:Around} {E:Value->Shared->Prop} {s:Shared}
theorem O6 (h:Heap) (a:Addr) (f:Obj->Obj):(h.update a f).objs.size=h.objs.size:=by
 have:=(Heap.SameBut.update h a f).1
 exact this
theorem Gb {base:Heap} {env:Env} {outer:List Env} {L x:Addr} {cls head:Value} {od:Option Addr} {oe:Obj} {vs:Array Value} {hadNext:Bool} {Q:Unit->Shared->Prop}
 (hfr:A.frames=some (env::outer)) (hl:s.heap.FunFrames base (env::outer)) (hf:env.frame=some L) (he:s.heap.get? x=some oe) (hc:oe.cls=cls) (ho:oe.dict=od) (hd:oe.data=.fields vs) (hsz:1 < vs.size)
 (k:∀ h' T,ExA h' x cls od (some (T,rawInt L))->s.heap.get? T=none->Sl (frs (env::outer)) [x] s.heap h'->Q () { s with heap:=h' }) :
 wpAny M A (do let a <- frameOf env;let pl <- entryPlaceOf L hadNext;let b <- EntryCells.newEntry head a .none (rawInt L) .none pl;setField (.ref x) 1 b) Q E s:=by
 have hxf:x∉frs (env::outer):=fun hm=>by
  obtain ⟨_,o,h1,h2⟩:=hl.mem hm
  rw [he] at h1
  cases h1
  exact h2 vs hd
 refine wpAny_bind (wpAny_frameOf_fun hfr hl hf fun g1 sg=>wpAny_bind (wpAny_entryPlaceOf fun pl hpl=>?_))
 obtain ⟨sz1,sm1,so1⟩:=sg
 unfold EntryCells.newEntry newFields
 refine wpAny_bind (wpAny_newObj_type ?_ (hpl.sizeOk5 _ _ _ _ _))
 have e1:g1.get? x=some oe:=by rw [sm1 x hxf];exact he
 generalize hob:({ cls:=.type "traceback",dict:=none,data:=.fields ([head,.ref L,.none,rawInt L,.none]++(if pl.isEmpty then List.replicate 6 Value.none else pl)).toArray }:Obj)=ob
 have e2:=Heap.get?_push_of_some ob e1
 refine wpAny_setField e2 hd hsz ?_
 have nT:g1.objs.size≠x:=Nat.ne_of_gt (Heap.lt_size e1)
 have obf:ob.isFreed=false:=by rw [<- hob];rfl
 have eT:=Heap.get?_push_size g1 obf
 have d3:=Obj.data_mapFields hd (·.setIfInBounds 1 (Value.ref g1.objs.size))
 refine k _ g1.objs.size ⟨_,_,Heap.get?_update_self _ e2 (Obj.isFreed_of_fields d3),(Obj.cls_mapFields ..).trans hc,?_,d3,by simp [hsz],nT,ob,_,?_,by rw [<- hob],?_⟩ (Heap.get?_none_of_le (by rw [sz1];exact Nat.le_refl _)) fun b o hb hn=>?_
 ·obtain ⟨c,d,dt,sl⟩:=oe
  cases dt <;> first | (cases hd;done) | exact ho
 ·rw [Heap.get?_update_other _ _ (Ne.symm nT)]
  exact eT
 ·first | (simp;done) | (rcases hpl with rfl | ⟨_,_,_,_,_,_,_,rfl⟩ <;> simp)
 ·have nb:b≠x:=fun z=>hn (by rw [z];exact List.mem_singleton.mpr rfl)
  refine ⟨fun nf=>?_,?_⟩
  ·rw [Heap.get?_update_other _ _ (Ne.symm nb)]
   exact Heap.get?_push_of_some _ (by rw [sm1 b nf];exact hb)
  ·obtain ⟨sl,e5⟩:=so1 b o hb
   exact ⟨sl,by rw [Heap.get?_update_other _ _ (Ne.symm nb)];exact Heap.get?_push_of_some _ e5⟩
theorem OL {base:Heap} {env:Env} {outer:List Env} {L x:Addr} {cls:Value} {od:Option Addr} {t:Option (Addr × Value)} {Q:Unit->Shared->Prop}
 (hfr:A.frames=some (env::outer)) (hl:s.heap.FunFrames base (env::outer)) (hf:env.frame=some L) (he:ExA s.heap x cls od t) (ht:t=none\/∃ T,t=some (T,.none))
 (k:∀ h' T,ExA h' x cls od (some (T,rawInt L))->s.heap.get? T=none->Sl (frs (env::outer)) (x::(t.map (·.1)).toList) s.heap h'->Q () { s with heap:=h' }):wpAny M A (noteFrame (.ref x) env) Q E s:=by
 obtain ⟨oe,vs,e1,e2,e3,e4,e5⟩:=he
 unfold noteFrame
 simp only [hf]
 rcases ht with rfl | ⟨T0,rfl⟩
 ·refine wpAny_bind (wpAny_field e1 e4 e5 ?_)
  rw [if_neg (by decide)]
  exact Gb hfr hl hf e1 e2 e3 e4 (Array.getElem?_eq_some_iff.mp e5).1 k
 ·obtain ⟨e5,nT,oT,ts,g1,g2,g3⟩:=e5
  refine wpAny_bind (wpAny_field e1 e4 e5 ?_)
  rw [if_pos (by simp)]
  refine wpAny_bind (wpAny_field g1 g2 g3 ?_)
  rw [if_neg (by simp [rawInt])]
  refine wpAny_bind (wpAny_setField g1 g2 (Array.getElem?_eq_some_iff.mp g3).1 ?_)
  have ot:∀ b,b≠T0->(s.heap.update T0 (Obj.mapFields (·.setIfInBounds 3 Value.none))).get? b=s.heap.get? b:=fun b hb=>Heap.get?_update_other _ _ (Ne.symm hb)
  have nf:∀ b o,s.heap.get? b=some o->(∀ vs,o.data≠.fields vs)->b≠T0:=fun b o hb h z=>by
   rw [z,g1] at hb
   cases hb
   exact h ts g2
  refine Gb hfr (hl.of_keeps fun b o hb h=>⟨o,by rw [ot b (nf b o hb h)];exact hb,rfl⟩) hf (by rw [ot x (Ne.symm nT)];exact e1) e2 e3 e4 (Array.getElem?_eq_some_iff.mp e5).1 fun h' T a1 a2 a3=>k h' T a1 ?_ fun b o hb hn=>?_
  ·cases q:s.heap.get? T with
   | none=>rfl
   | some o =>
    by_cases z:T=T0
    ·have hf3:=Obj.data_mapFields g2 (·.setIfInBounds 3 Value.none)
     have:=Heap.get?_update_self (Obj.mapFields (·.setIfInBounds 3 Value.none)) g1 (Obj.isFreed_of_fields hf3)
     rw [z] at a2
     rw [this] at a2
     cases a2
    ·rw [ot T z,q] at a2
     cases a2
  ·have n1:b≠x:=fun z=>hn (by rw [z];exact List.mem_cons_self)
   have n2:b≠T0:=fun z=>hn (by rw [z];exact List.mem_cons_of_mem _ (List.mem_singleton.mpr rfl))
   exact a3 b o (by rw [ot b n2];exact hb) (fun z=>n1 (List.mem_singleton.mp z))
theorem JY {x T:Addr} {cls fl:Value} {od:Option Addr} {Q:Unit->Shared->Prop} (he:ExA s.heap x cls od (some (T,fl)))
 (k:∀ h',ExA h' x cls od (some (T,.none))->(∀ b,b≠T->h'.get? b=s.heap.get? b)->h'.objs.size=s.heap.objs.size->Q () { s with heap:=h' }):wpAny M A (setFlight (.ref x) none) Q E s:=by
 obtain ⟨oe,vs,e1,e2,e3,e4,e5,nT,oT,ts,g1,g2,g3⟩:=he
 have z3:3 < ts.size:=(Array.getElem?_eq_some_iff.mp g3).1
 unfold setFlight
 refine wpAny_bind (wpAny_field e1 e4 e5 ?_)
 rw [if_pos (by simp)]
 refine wpAny_setField g1 g2 z3 (k _ ⟨oe,vs,?_,e2,e3,e4,e5,nT,_,_,Heap.get?_update_self _ g1 (Obj.isFreed_of_fields (Obj.data_mapFields g2 _)),Obj.data_mapFields g2 _,by simp [z3]⟩ (fun b hb=>Heap.get?_update_other _ _ (Ne.symm hb)) (O6 ..))
 rw [Heap.get?_update_other _ _ nT]
 exact e1
theorem IC {base:Heap} {env:Env} {outer:List Env} {L x:Addr} {cls:Value} {od:Option Addr} {t:Option (Addr × Value)} {Q:Unit->Shared->Prop}
 (hfr:A.frames=some (env::outer)) (hl:s.heap.FunFrames base (env::outer)) (hf:env.frame=some L) (he:ExA s.heap x cls od t) (ht:t=none\/∃ T,t=some (T,.none))
 (k:∀ h' T,ExA h' x cls od (some (T,.none))->s.heap.get? T=none->Sl (frs (env::outer)) (x::(t.map (·.1)).toList) s.heap h'->Q () { s with heap:=h' }) :
 wpAny M A (noteFrame (.ref x) env) (fun _ s1=>wpAny M A (setFlight (.ref x) none) Q E s1) E s :=
 OL hfr hl hf he ht fun h1 T a1 a2 a3=>JY (s:={ s with heap:=h1 }) a1 fun h2 b1 b2 b3=>k h2 T b1 a2 fun b o hb hn=>by
  obtain ⟨c1,sl,c2⟩:=a3 b o hb hn
  have nT:b≠T:=fun z=>by rw [z,a2] at hb;cases hb
  exact ⟨fun nf=>(b2 b nT).trans (c1 nf),sl,(b2 b nT).trans c2⟩
theorem Me {base:Heap} {env:Env} {outer:List Env} {L x:Addr} {cls:Value} {od:Option Addr} {t:Option (Addr × Value)} {Q:Unit->Shared->Prop}
 (hfr:A.frames=some (env::outer)) (hl:s.heap.FunFrames base (env::outer)) (hf:env.frame=some L) (he:ExA s.heap x cls od t) (ht:t=none\/∃ T,t=some (T,.none))
 (k:∀ h' T,ExA h' x cls od (some (T,.none))->s.heap.get? T=none->Sl (frs (env::outer)) (x::(t.map (·.1)).toList) s.heap h'->Q () { s with heap:=h' }):wpAny M A (leaving env (.ref x)) Q E s:=by
 unfold leaving
 exact wpAny_bind (IC hfr hl hf he ht k)
end
noncomputable def CXE (P:Program) (w:World):CXT:=fun outer H s E e s'=>∃ x cls od T H',e=.ref x/\s'.os=s.os/\AllBare s'.gens/\Un (frs outer) [] H H' s.heap s'.heap/\HOk P w H' s'.heap/\ExA s'.heap x cls od (some (T,.none))/\(s.heap.get? x=none/\s.heap.get? T=none)/\(H' x=none/\H' T=none)/\E cls od H'
theorem Fun.okE {P:Program} {w:World} {K:W.Frag} {mg:Str->Option Value} {base:Heap} {x qual:Str} {st:Stmt} {f:Addr} {fd:FuncData} {N ps:List Str} {k:Nat} {sp:Sp} (F:Fun K x qual st f fd) (S:FnScope N ps (AG st)) (len:∀ vs H Q E,sp vs H Q E->vs.length=ps.length)
 (hbody:∀ (cdv:Value) (A:Around) (outer:List Env) (s:Shared) (H:Hp) (vs:List V) (Q:VK) (E:XK),Room k (A.deeper (envOfC qual (AG st) s.heap.objs.size f cdv))->sp vs H Q E ->
   ∃ t,PSs (BG (CXE P w) P w K mg base N qual (AG st) f cdv A outer s H E) (AU st) t/\t { nx:=fun _ H'=>Q .non H',rt:=Q } (start N vs) H):FnOk P w K mg base (CXE P w) (k+1) f fd ps sp:=by
 obtain ⟨oc,od,kV,doc,pm,an,cdv,ct,osl,rfl,lk,hcd⟩:=F.ex
 exact Ho lk hcd S len fun A outer s H vs Q E hr hsp=>hbody cdv A outer s H vs Q E hr hsp
section
variable {X:Cx} {pins:List (Addr × Obj)} {σ:St} {H H':Hp} {s:Shared} {h':Heap}
theorem PS.nox {st:Stmt} {t:TS} (h:PS X.nox st t):PS X st t:=fun pins s σ H D I hw =>
 wpAny_mono (h pins s σ H D (I.wish _) hw) (fun _ _ q=>q.unwish) fun _ _ z=>False.elim z
theorem ObjOk.is {P:Program} {w:World} {h:Heap} {a:Addr} {o:HO} (x:ObjOk P w H h a o):∃ u,h.get? a=some u:=by
 cases o with
 | lst xs=>obtain ⟨_,_,_,_,e⟩:=x;exact ⟨_,e⟩
 | tup xs=>obtain ⟨_,_,_,o,e,_⟩:=x;exact ⟨_,e⟩
 | dK kvs=>obtain ⟨_,_,_,_,o,_,_,e,_⟩:=x;exact ⟨_,e⟩
 | dT kvs=>obtain ⟨_,_,_,_,o,_,_,e,_⟩:=x;exact ⟨_,e⟩
 | set S n=>obtain ⟨o,_,_,_,e,_⟩:=x;exact ⟨_,e⟩
 | ins C dx fs=>obtain ⟨_,_,_,e,_⟩:=x;exact ⟨_,e⟩
 | own y=>exact x
 | xd fs=>obtain ⟨_,⟨_,_,_,e,_⟩,_⟩:=x;exact ⟨_,e⟩
 | rng lo hi=>obtain ⟨_,_,_,e⟩:=x;exact ⟨_,e⟩
 | frz ob u=>obtain ⟨e,_⟩:=x;exact ⟨_,e⟩
 | tbl ps=>exact ⟨_,x⟩
 | met f y=>exact ⟨_,x⟩
 | ext φ=>obtain ⟨_,e,_⟩:=x;exact e
theorem Fe {P:Program} {w:World} {h:Heap} {a:Addr} (hok:HOk P w H h) (n:h.get? a=none):H a=none:=by
 cases e:H a with
 | none=>rfl
 | some o =>
  obtain ⟨u,q⟩:=(hok a o e).is
  rw [n] at q
  cases q
theorem J3 {P:Program} {w:World} {fs:List Addr} {h:Heap} (c:Sl fs [] h h') (hf:∀ b∈fs,H b=none) (hok:HOk P w H h):HOk P w H h':=fun a o e=>(hok a o e).stay (fun b u hb q=>(c b u q (by simp)).1 fun z=>by
 have:=hf b z
 rcases hb with rfl | hb
 ·rw [e] at this;cases this
 ·rw [hb] at this;cases this) (fun _ q=>q) fun _ _ q=>q
theorem Kq (I:Inv X pins σ H s) (hex:X.ex=[]) (c:Sl (frs X.stack) [] s.heap h'):Un X.fs [] X.H₀ H X.s₀.heap h':=by
 have hx:∀ b:Addr,b∉X.ex:=fun b z=>by rw [hex] at z;cases z
 have nl:∀ b o,X.s₀.heap.get? b=some o->b≠X.env.locals:=fun b o e=>Nat.ne_of_lt (Nat.lt_of_lt_of_le (Heap.lt_size e) I.ok.above)
 refine ⟨fun b o e n nb _=>?_,fun b o e n nb _=>?_,fun b o e n _=>I.base.free b o e n (hx b),fun b o e _=>?_,I.base.tups,I.base.frzs,I.base.tbls⟩
 ·have e1:=I.base.keep b o e n nb (hx b)
  exact (c b o e1 (by simp)).1 fun z=>(List.mem_cons.mp (I.stkSub b z)).elim (nl b o e) nb
 ·obtain ⟨sl,e1⟩:=I.base.slot b o e n nb (hx b)
  obtain ⟨sl2,e2⟩:=(c b _ e1 (by simp)).2
  exact ⟨sl2,e2⟩
 ·obtain ⟨o1,e1⟩:=I.base.there b o e (hx b)
  obtain ⟨sl2,e2⟩:=(c b _ e1 (by simp)).2
  exact ⟨_,e2⟩
theorem KW {fs:List Addr} {h h1:Heap} {x:Addr} {cls:Value} {us:List Value} (hm:Heap.MadeExcOf h h1 x cls us) (c:Sl fs [x] h1 h'):∀ b o,h.get? b=some o->(b∉fs->h'.get? b=some o)/\∃ sl,h'.get? b=some { o with slots:=sl }:=fun b o e=>c b o (hm.keeps b o e) fun z=>by
 rw [List.mem_singleton.mp z,hm.new] at e
 cases e
end
theorem Kr {P:Program} {w:World} {K:W.Frag} {mg:Str->Option Value} {base:Heap} {N:List Str} {qual:Str} {sc:Scope} {f:Addr} {cd:Value} {A:Around} {outer:List Env} {s0 s:Shared} {H0 H:Hp} {E:XK} {pins:List (Addr × Obj)} {σ:St} {h1:Heap} {x:Addr} {cls:Value} {us:List Value}
 (I:Inv (BG (CXE P w) P w K mg base N qual sc f cd A outer s0 H0 E) pins σ H s) (hm:Heap.MadeExcOf s.heap h1 x cls us) (q:E cls none H):(BG (CXE P w) P w K mg base N qual sc f cd A outer s0 H0 E).xe (.ref x) { s with heap:=h1 }:=by
 obtain ⟨t,ht,htn,_⟩:=hm.there
 have hl:=I.stack.of_keeps (h':=h1) fun b o hb _=>⟨o,hm.keeps b o hb,rfl⟩
 have hx0:s0.heap.get? x=none:=by
  cases e:s0.heap.get? x with
  | none=>rfl
  | some o =>
   obtain ⟨o',e'⟩:=I.base.there x o e (by simp [BG])
   rw [hm.new] at e'
   cases e'
 have hHx:H x=none:=Fe I.hok hm.new
 refine Me (base:=base) (L:=s0.heap.objs.size) (t:=none) I.ok.frames hl rfl ⟨_,_,ht,rfl,rfl,rfl,rfl⟩ (.inl rfl) fun h2 T a1 a2 a3=>?_
 have c:Sl (frs (BG (CXE P w) P w K mg base N qual sc f cd A outer s0 H0 E).stack) [] s.heap h2:=fun b o e _=>KW hm a3 b o e
 have hT:s.heap.get? T=none:=by
  cases e:s.heap.get? T with
  | none=>rfl
  | some o =>
   have:=hm.keeps T o e
   rw [show h1.get? T=none from a2] at this
   cases this
 have hT0:s0.heap.get? T=none:=by
  cases e:s0.heap.get? T with
  | none=>rfl
  | some o =>
   obtain ⟨o',e'⟩:=I.base.there T o e (by simp [BG])
   rw [hT] at e'
   cases e'
 exact ⟨x,cls,none,T,H,rfl,I.os,I.bare,Kq I rfl c,J3 c I.stkFree I.hok,a1,⟨hx0,hT0⟩,⟨hHx,Fe I.hok hT⟩,q⟩
theorem Pd {K:W.Frag} {h:Heap} {C:Addr} {bmB:List Value} {newId:String} (X:K.In h) (q:PySem.W.excIn K C bmB newId=true):∃ (nm qn:Str) (N:Addr) (bs bm:List Value) (hd:Bool) (sn:List Str) (sub:List Value) (ab:Bool) (col:Option Bool) (dd:Option Addr) (k0 k1 k2 k3 k5:Option Value) (mN:Str->Option Value),
 h.get? C=some (excClassObj nm qn C N bs bm hd sn sub ab col dd k0 k1 k2 k3 k5 newId)/\h.Ns N mN/\mN "__init__" = none/\OwnTail h bmB bm:=by
 unfold PySem.W.excIn at q
 split at q
 case h_2=>cases q
 rename_i od cl sls hlk
 split at q
 case h_2=>cases q
 rename_i C2 rest a0 a1 a2 a3 nid a5 hmro hslots
 simp only [Bool.and_eq_true,beq_iff_eq,Bool.not_eq_true'] at q
 obtain ⟨⟨⟨⟨⟨z1,z2⟩,z3⟩,z4⟩,z5⟩,z6⟩:=q
 subst z1
 subst z2
 cases cl with
 | mk nm bs mro ns qn hd sn sub ab col del =>
  have m1:mro=.ref C2::rest:=hmro
  have m2:del=false:=z3
  subst m1
  subst m2
  have m3:sls = #[a0,a1,a2,a3,some (.builtin nid),a5]:=by
   cases sls with
   | mk l=>exact congrArg Array.mk hslots
  subst m3
  exact ⟨nm,qn,ns,bs,rest,hd,sn,sub,ab,col,od,a0,a1,a2,a3,a5,h.nsMap ns,X _ _ hlk,.of_isNs (PySem.W.isNs_of_in X z5),PySem.W.nsMap_none_of_in X z5 z6,PySem.W.tail_of_in X z4⟩
noncomputable def IU (ta:TA) (W:Hp->Prop):TS:=fun _ σ H=>ta σ H fun vs H1=>vs.length<=1000/\W H1
noncomputable abbrev Fp:List Value:=[.type "ValueError",.type "Exception",.type "BaseException",.type "object"]
section
variable {X:Cx} {C:Addr} {c:Str} {np cpos pos:Pos} {e:Expr} {es:List Expr} {ta:TA} {W:Hp->Prop}
theorem PV (hx:∀ (pins:List (Addr × Obj)) (σ:St) (H:Hp) (s:Shared) (h1:Heap) (x:Addr) (us:List Value),Inv X pins σ H s->Heap.MadeExcOf s.heap h1 x (.ref C) us->W H->X.xe (.ref x) { s with heap:=h1 }) (hc:X.calm=true) (hg:Gl X c) (hm:X.mg c=some (.ref C))
 (hq:PySem.W.excIn X.K C Fp "ValueError.__new__" = true) (ha:PA X (e::es) ta) (hdb:(c == ("__debug__" : Str))=false:=by decide) (he:starEach (e::es) X.env=(false,eval e X.env)::starEach es X.env:=by rfl) (hpl:(backTo cpos (starEach es X.env)).any (·.1)=false:=by rfl) :
 PS X (.Raise (some (.Call (.Name c np) (e::es) [] cpos)) none pos) (IU ta W):=by
 intro pins s σ H D I h
 obtain ⟨nm,qn,N,bs,bm,hd,sn,sub,ab,col,dd,k0,k1,k2,k3,k5,mN,hC,hN,hni,TL⟩:=Pd I.ok.mod.kin hq
 refine wpAny_Raise_call_subU (C:=C) (nm:=nm) (q:=qn) (N:=N) (bs:=bs) (bm:=bm) (hdct:=hd) (sn:=sn) (sub:=sub) (ab:=ab) (col:=col) (dd:=dd) (k0:=k0) (k1:=k1) (k2:=k2) (k3:=k3) (k5:=k5) F.excBase_ValueError (by decide) F.excBase_ValueError (TL.hasType (by decide)) (I.ok.hd hc) (by rw [he];show (false || (backTo cpos (starEach es X.env)).any (·.1))=false;rw [hpl];rfl) hni (Dm I hg hm ⟨rfl,?_⟩ hdb)
 rw [he]
 refine PySem.Calls.evalArgs_plain ?_
 have:=ha cpos pins s σ H _ I h
 rw [he] at this
 refine thn this fun us s1 ⟨vs,H1,I1,r,hl,q⟩=>⟨rfl,by rw [<- r.length];exact AX hl,?_⟩
 exact ⟨I1.bk _ _ hC,hN.keeps I1.bk,TL.keeps I1.bk,fun h1 x hm=>hx pins σ H1 s1 h1 x _ I1 hm q⟩
end
noncomputable def GG (x:Addr) (cls:Value) (od:Option Addr) (h:Heap):Prop:=∃ oe vs,h.get? x=some oe/\oe.cls=cls/\oe.dict=od/\oe.data=.fields vs
noncomputable abbrev CJ (x:Addr) (cls:Value) (od:Option Addr):HO:=.ext (GG x cls od)
theorem MF {P:Program} {w:World} {H:Hp} {h:Heap} {x:Addr} {cls:Value} {od:Option Addr} (e:GG x cls od h):ObjOk P w H h x (CJ x cls od) :=
 ⟨e,let ⟨oe,_,q,_⟩:=e;⟨oe,q⟩,fun _ _ ⟨oe,vs,q,r⟩ k=>⟨oe,vs,k oe q,r⟩⟩
theorem ExA.has {h:Heap} {x:Addr} {cls:Value} {od:Option Addr} {t:Option (Addr × Value)} (e:ExA h x cls od t):GG x cls od h:=let ⟨oe,vs,a,b,c,d,_⟩:=e;⟨oe,vs,a,b,c,d⟩
noncomputable def Cx.hand (X:Cx) (e:Value):Cx:={ X with A:=X.A.mark (some e),calm:=false,xe:=fun _ _=>False }
section
variable {X:Cx} {pins:List (Addr × Obj)} {σ:St} {H H':Hp} {s s1:Shared} {h:Heap}
theorem Inv.hand (I:Inv X pins σ H s) (e:Value):Inv (X.hand e) pins σ H s :=
 ⟨⟨I.ok.mod,I.ok.kind,I.ok.glob,I.ok.blt,I.ok.above,I.ok.inj,I.ok.has,I.ok.cab,(fun z=>by cases z),I.ok.frames,I.ok.stk,I.ok.exf,I.ok.bs,I.ok.bsz,I.ok.noex,I.ok.exfs,I.ok.funs,I.ok.frf⟩,I.os,I.bare,I.base,I.loc,I.cell,I.free,I.freeC,I.pin,I.hok,I.len⟩
theorem Inv.unhand {e:Value} (J:Inv X pins σ H s) {pins':List (Addr × Obj)} {σ':St} {H1:Hp} {s2:Shared} (I:Inv (X.hand e) pins' σ' H1 s2):Inv X pins' σ' H1 s2 :=
 ⟨J.ok,I.os,I.bare,I.base,I.loc,I.cell,I.free,I.freeC,I.pin,I.hok,I.len⟩
theorem HN {x T:Addr} {cls:Value} {od:Option Addr} {t:Option (Addr × Value)} (I:Inv X pins σ H s) (ho:s1.os=s.os) (hb:AllBare s1.gens) (u:Un (frs X.stack) [] H H' s.heap s1.heap) (hk:HOk X.prog X.w H' s1.heap)
 (nx:s.heap.get? x=none) (nT:s.heap.get? T=none) (fx:H' x=none) (fT:H' T=none) (c:Sl (frs X.stack) [x,T] s1.heap h) (ex:ExA h x cls od t):Inv X pins σ (upd H' x (CJ x cls od)) { s1 with heap:=h }:=by
 have I1:Inv X pins σ H' s1:=I.call' ho u hk hb (ch:=[]) fun b z=>absurd z (by simp)
 have hxH:H x=none:=Fe I.hok nx
 have up:∀ b,b≠x->upd H' x (CJ x cls od) b=H' b:=fun b n=>AK n
 have nin:∀ b o,s.heap.get? b=some o->b∉[x,T]:=fun b o e z=>by
  rcases List.mem_cons.mp z with rfl | z
  ·rw [nx] at e;cases e
  ·rw [List.mem_singleton.mp z,nT] at e;cases e
 refine I.call' (s':={ s1 with heap:=h }) (ch:=[]) ho ⟨fun b o e n nb hx=>?_,fun b o e n nb hx=>?_,fun b o e n hx=>?_,fun b o e hx=>?_,fun b xs e=>?_,fun b o v e=>?_,fun b ps e=>?_⟩ (fun b ob e=>?_) hb fun b z=>absurd z (by simp)
 ·exact (c b o (u.keep b o e n nb hx) (nin b o e)).1 nb
 ·obtain ⟨sl,e1⟩:=u.slot b o e n nb hx
  obtain ⟨sl2,e2⟩:=(c b _ e1 (nin b o e)).2
  exact ⟨sl2,e2⟩
 ·rw [up b fun z=>by rw [z,nx] at e;cases e]
  exact u.free b o e n hx
 ·obtain ⟨o1,e1⟩:=u.there b o e hx
  obtain ⟨sl2,e2⟩:=(c b _ e1 (nin b o e)).2
  exact ⟨_,e2⟩
 ·rw [up b fun z=>by rw [z,hxH] at e;cases e]
  exact u.tups b xs e
 ·rw [up b fun z=>by rw [z,hxH] at e;cases e]
  exact u.frzs b o v e
 ·rw [up b fun z=>by rw [z,hxH] at e;cases e]
  exact u.tbls b ps e
 ·by_cases z:b=x
  ·subst z
   rw [AD] at e
   cases e
   exact MF ex.has
  ·rw [up b z] at e
   have neq:∀ c2 o2,H' c2=some o2->c2≠x:=fun c2 o2 q z=>by rw [z,fx] at q;cases q
   refine (hk b ob e).stay (fun c2 v hc q=>?_) (fun c2 q=>by rw [up c2 (neq _ _ q)];exact q) fun c2 xs q=>by rw [up c2 (neq _ _ q)];exact q
   obtain ⟨o2,q2⟩:∃ o2,H' c2=some o2:=by
    rcases hc with rfl | hc
    ·exact ⟨_,e⟩
    ·exact ⟨_,hc⟩
   refine (c c2 v q fun m=>?_).1 fun m=>?_
   ·rcases List.mem_cons.mp m with z2 | z2
    ·exact neq _ _ q2 z2
    ·rw [List.mem_singleton.mp z2,fT] at q2;cases q2
   ·rw [I1.stkFree c2 m] at q2;cases q2
theorem En {M:Model} {A:Around} {E:Value->Shared->Prop} {i:Nat} {x:Str} {pos:Pos} {Q:Unit->Shared->Prop} (I:Inv X pins σ H s) (hN:X.N.Nodup) (hi:X.N[i]? = some x) (hk:X.env.kindOf x=some .local)
 (h:∀ s',Inv X pins (σ.set i none) H s'->Q () s'):wpAny M A (do bindName X.env x .none;unbindBehindTheSuite X.env x pos) Q E s:=by
 obtain ⟨m,hn,hl⟩:=id I.loc
 have hcls:(X.env.scope.kind == .class || (X.env.scope.kind == .module && X.env.locals != X.env.globals))=false:=by rw [I.ok.kind];rfl
 have hiσ:i < σ.length:=by rw [I.len];exact (List.getElem?_eq_some_iff.mp hi).1
 have cne:=I.cne
 refine wpAny_nameGoes_keeps hk hn hcls fun h' v hn' hs=>?_
 obtain ⟨oL,_,_,hoL,_⟩:=id hn
 refine h _ ⟨I.ok,I.os,I.bare,⟨fun b o e n hb hx=>?_,fun b o e n hb hx=>?_,I.base.free,fun b o e hx=>?_,I.base.tups,I.base.frzs,I.base.tbls⟩,⟨_,hn',fun j y v' e1 e2 e3=>?_⟩,fun y c e=>?_,I.free,I.freeC,fun p hp=>?_,fun b ob e=>?_,by simpa using I.len⟩
 ·exact (hs.2 b (Nat.ne_of_lt (Nat.lt_of_lt_of_le (Heap.lt_size e) I.ok.above))).trans (I.base.keep b o e n hb hx)
 ·obtain ⟨sl,e1⟩:=I.base.slot b o e n hb hx
  exact ⟨sl,(hs.2 b (Nat.ne_of_lt (Nat.lt_of_lt_of_le (Heap.lt_size e) I.ok.above))).trans e1⟩
 ·obtain ⟨o',e1⟩:=I.base.there b o e hx
  exact ⟨o',(hs.2 b (Nat.ne_of_lt (Nat.lt_of_lt_of_le (Heap.lt_size e) I.ok.above))).trans e1⟩
 ·by_cases hj:j=i
  ·subst hj
   rw [List.getElem?_set_self hiσ] at e2
   cases e2
  ·rw [List.getElem?_set_ne (Ne.symm hj)] at e2
   obtain ⟨u',r',q⟩:=hl j y v' e1 e2 e3
   refine ⟨u',r',?_⟩
   rcases q with ⟨k,e⟩ | ⟨k,c,e,z⟩
   ·refine .inl ⟨k,?_⟩
    have:y≠x:=fun e=>hj (GP hN e1 (e ▸ hi))
    simp [this,e]
   ·exact .inr ⟨k,c,e,z.sameBut hs (cne y c e)⟩
 ·obtain ⟨w',z⟩:=I.cell y c e
  exact ⟨w',z.sameBut hs (cne y c e)⟩
 ·obtain ⟨e,n,ne,nf,d⟩:=I.pin p hp
  exact ⟨(hs.2 p.1 ne).trans e,n,ne,nf,d⟩
 ·refine (I.hok b ob e).stay (fun c w' hc q=>(hs.2 c ?_).trans q) (fun _ q=>q) fun _ _ q=>q
  rintro rfl
  rcases hc with rfl | hc
  ·rw [I.free] at e;cases e
  ·rw [I.free] at hc;cases hc
end
noncomputable abbrev TX:=St->Hp->VK->XK->Prop
noncomputable def PX (X:Cx) (e:Expr) (t:TX):Prop :=
 ∀ (pins:List (Addr × Obj)) (s:Shared) (σ:St) (H:Hp) (Q:VK) (E:XK),Inv X pins σ H s->t σ H Q E->wpAny (model X.prog X.w) X.A (eval e X.env) (EP X pins σ Q) (fun ev s'=>∃ H1 s1,Inv X pins σ H1 s1/\CXE X.prog X.w X.stack H1 s1 E ev s') s
noncomputable def Ls (sp:Sp) (dvs:List V) (t:TA):TX:=fun σ H Q E=>t σ H fun vs H1=>sp (vs++dvs) H1 Q E
noncomputable def Ends.off (D:Ends) (j:Nat):Ends:={ nx:=fun σ H=>D.nx (σ.set j none) H,rt:=D.rt,bk:=fun σ H=>D.bk (σ.set j none) H,ct:=fun σ H=>D.ct (σ.set j none) H }
noncomputable def MK (K:W.Frag) (C:Addr) (i j:Nat) (tx:TX) (ts:TS):TS:=fun D σ H =>
 tx σ H (fun v H1=>D.nx (σ.set i (some v)) H1) fun cls od H1=>PySem.W.exmOne K cls (.ref C)=some true/\∀ x,H1 x=none->ts (D.off j) (σ.set j (some (.ref x))) (upd H1 x (CJ x cls od))
section
variable {X:Cx} {k:Nat} {f C:Addr} {fd:FuncData} {ps:List Str} {sp:Sp} {dvs:List V} {ds:List Value} {x c y n:Str} {p p1 p2 p3 pos:Pos} {e:Expr} {es:List Expr} {t:TA} {tx:TX} {ts:TS} {i j:Nat} {b:Stmt} {bs:List Stmt}
theorem N0 (F:FnOk X.prog X.w X.K X.mg X.base (CXE X.prog X.w) k f fd ps sp) (hr:Room k X.A) (hg:Gl X x) (hm:X.mg x=some (.ref f)) (hk:PySem.W.keepIn X.K (.ref f)=true) (hb:Binds X.K fd ps ds) (hd:Vals dvs ds)
 (ha:PA X.nox (e::es) t) (hdb:(x == ("__debug__" : Str))=false:=by decide) (he:starEach (e::es) X.env=(false,eval e X.env)::starEach es X.env:=by rfl) (hpl:(backTo pos (starEach es X.env)).any (·.1)=false:=by rfl) :
 PX X (.Call (.Name x p) (e::es) [] pos) (Ls sp dvs t):=by
 intro pins s σ H Q E I h
 refine wpAny_Call_Name_kw (Dm I hg hm ?_ hdb)
 refine PySem.W.callWith_K (h₀:=X.base) I.ok.mod.kin hk (wpAny_mono (ha pos pins s σ H _ (I.wish _) h) (fun us s1 ⟨vs,H1,I1,r,q⟩=>⟨I1.kIn,?_⟩) fun _ _ z=>False.elim z) he hpl
 have I1:=I1.unwish
 have r2:Vals (vs++dvs) (us++ds):=r.append hd
 have hl:(us++ds).length=ps.length:=by rw [<- r2.length];exact F.len _ _ _ _ q
 refine wpAny_call (codeAny_mono (F.run X.A X.stack s1 H1 ⟨us,[]⟩ (us++ds) (vs++dvs) Q E hr I1.env0 (hb s1 us I1.kIn hl) r2 q) fun r s' hq=>?_)
 cases r with
 | error ev=>exact ⟨H1,s1,I1,hq⟩
 | ok fl =>
  cases fl with
  | ret u=>exact I1.after hq
  | next=>exact False.elim hq
  | brk=>exact False.elim hq
  | cont=>exact False.elim hq
theorem Pb (hN:X.N.Nodup) (hi:X.N[i]? = some x) (hx:Loc X.env.scope x) (hj:X.N[j]? = some n) (hn:X.env.kindOf n=some .local) (hstk:X.stack=X.env::X.outer) (hfr:X.env.frame=some X.env.locals) (hg:Gl X c) (hm:X.mg c=some (.ref C))
 (he:PX X e tx) (hs:∀ a,PSs (X.hand (.ref a)) (b::bs) ts) (hsw:swapsWith e (some (.Name x p1)) p2.line X.env=pure false:=by rfl) (hf:X.fn x=true\/X.env.scope.names.lookup x=some .local:=by first | exact .inl rfl | exact .inr rfl | assumption)
 (hdb:(c == ("__debug__" : Str))=false:=by decide):PS X (.Try [.Assign [.Name x p1] e p2] [.ExceptHandler (some (.Name c p3)) (some n) (b::bs) p] [] [] pos) (MK X.K C i j tx ts):=by
 intro pins s σ H D I h
 refine wpAny_Try_except (wpAny_execs_cons (wpAny_Assign_Name (wpAny_mono (he pins s σ H _ _ I h) (fun v s1 ⟨y,H1,I1,r1,q1⟩=>?_) fun ev s' ⟨H1,s1,I1,q⟩=>?_) hsw))
 ·exact EU I1 hN hi hx r1 (fun s2 I2=>wpAny_execs_nil (wpAny_execs_nil ⟨_,H1,I2,q1⟩)) hf
 obtain ⟨a,cls,od,T,H2,rfl,ho,hb,u,hk,ex,⟨n1,n2⟩,⟨f1,f2⟩,hex,ht⟩:=q
 have J:Inv X pins σ H2 s':=I1.call' ho u hk hb (ch:=[]) fun b z=>absurd z (by simp)
 refine IC (base:=X.base) (outer:=X.outer) (L:=X.env.locals) (by rw [J.ok.frames,hstk]) (by have:=J.stack;rwa [hstk] at this) hfr ex (.inr ⟨T,rfl⟩) fun h2 T2 a1 a2 a3=>?_
 rw [<- hstk] at a3
 have I2:=HN (h:=h2) I1 ho hb u hk n1 n2 f1 f2 a3 a1
 refine wpAny_handleBy_cons (codeAny_handlers_test (Dm (I2.hand (.ref a)) hg hm ?_ hdb)) (by intro q;cases q)
 have hob:=a1
 obtain ⟨oe,vs,o1,o2,_⟩:=hob
 subst o2
 have LT:PySem.W.Looks (model X.prog X.w) h2 (typeOf (.ref a)) oe.cls:=(PySem.W.Looks.ld o1).andThen .now
 refine (PySem.W.exm_one I2.kIn LT hex).here ?_
 refine codeAny_handlers_suite_as (JY (s:={ s' with heap:=h2 }) a1 fun h3 b1 b2 b3=>?_)
 have I3:=HN (h:=h3) I1 ho hb u hk n1 n2 f1 f2 (fun b o eb nb=>by
  have nT2:b≠T2:=fun z=>by rw [z,a2] at eb;cases eb
  obtain ⟨c1,sl,c2⟩:=a3 b o eb nb
  exact ⟨fun nf=>(b2 b nT2).trans (c1 nf),sl,(b2 b nT2).trans c2⟩) b1
 refine EU (X:=X.hand (.ref a)) (I3.hand (.ref a)) hN hj (.inl hn) (v:=.ref a) rfl (fun s4 I4=>?_) (.inr hn)
 refine wpAny_mono (hs a pins s4 _ _ _ I4 (ht a f1)) (fun fl s5 q=>?_) fun _ _ z=>False.elim z
 cases fl with
 | next=>obtain ⟨σ5,H5,I5,q⟩:=q;exact En (J.unhand I5) hN hj hn fun s6 I6=>⟨_,_,I6,q⟩
 | brk=>obtain ⟨σ5,H5,I5,q⟩:=q;exact En (J.unhand I5) hN hj hn fun s6 I6=>⟨_,_,I6,q⟩
 | cont=>obtain ⟨σ5,H5,I5,q⟩:=q;exact En (J.unhand I5) hN hj hn fun s6 I6=>⟨_,_,I6,q⟩
 | ret w=>obtain ⟨v5,σ5,H5,I5,r5,q⟩:=q;exact En (J.unhand I5) hN hj hn fun s6 I6=>⟨v5,_,_,I6,r5,q⟩
end
structure ExcC (K:W.Frag) (C:Addr):Prop where
 ga:PySem.W.findIn K (.ref C) "__getattribute__" = some (some (.builtin "BaseException.__getattribute__"))
 nga:PySem.W.findIn K (.ref C) "__getattr__" = some none
 mro:PySem.W.mroIn K C (.type "BaseException")=some true
 obj:PySem.W.mroIn K C (.type "object")=some true
 cl:PySem.W.findIn K (.ref C) "__class__" = some (some (.builtin "object.__class__"))
 ge:PySem.W.specialIn K (.builtin "object.__class__") "__get__" = some (some (.builtin "getset_descriptor.__get__"))
 tk:PySem.W.takesIn K (.builtin "object.__class__")=some true
section
variable {prog:Program} {w:World} {A:Around} {E:Value->Shared->Prop} {h:Heap} {g:Array GenState} {d:Drawn} {t:Nat} {os:OsState} {K:W.Frag} {x C:Addr} {ox:Obj} {od:Option Obj} {name:Str}
theorem NB {M:Model} {nameV:Value} {Q:Unit->Shared->Prop} (X:K.In h) (I:PySem.W.InstAt h x ox C od) (Z:ExcC K C) (hq:Q () ⟨h,g,d,t,os⟩):wpAny M A (checkBuiltinCall "BaseException.__getattribute__" ⟨[.ref x,nameV],[]⟩) Q E ⟨h,g,d,t,os⟩:=by
 have hk:builtinKind "BaseException.__getattribute__" = some .slot:=by decide +kernel
 have hsplit:splitId "BaseException.__getattribute__" = some ("BaseException","__getattribute__"):=by decide +kernel
 have ha:=F.args_bexc_ga (.ref x) nameV
 have L:PySem.W.Looks M h (isInstance (.ref x) (.type "BaseException")) true:=(I.type (M:=M)).andThen (PySem.W.looks_mroIn X Z.mro)
 simp only [checkBuiltinCall,hk,hsplit]
 refine wpAny_bind (L.at ?_)
 repeat (first | assumption | wp_step)
theorem Ki {tk:Tok} {fill expr:Bool} {Q:Value->Shared->Prop} (X:K.In h) (I:PySem.W.InstAt h x ox C od) (Z:ExcC K C)
 (hq:∀ A':Around,wpAny (model prog w) A' (Builtin.«object.__getattribute__» ⟨[.ref x,.str name tk],[]⟩) (fun fin s'=>∃ v,fin=.done (.ret v)/\PySem.W.handedIn v=true/\Q v s') (fun _ _=>False) ⟨h,g,d,t,os⟩) :
 wpAny (model prog w) A (getAttrBy (.ref x) (.str name tk) fill expr) Q E ⟨h,g,d,t,os⟩:=by
 have hx:=I.at_
 have hc:=I.cls
 have f3:=F.excAttr_ValueError.ga.bind (.ref x)
 have hx0:(expr && onTheHeap (Value.builtin "BaseException.__getattribute__"))=false:=by cases expr <;> rfl
 have hx2:(Value.builtin "BaseException.__getattribute__" == Value.builtin "object.__getattribute__")=false:=by decide +kernel
 have hx1:(onTheHeap (Value.ref C) && Value.builtin "BaseException.__getattribute__" == Value.builtin "object.__getattribute__")=false:=by rw [hx2];rfl
 have L1:=PySem.W.looks_findIn (M:=model prog w) X Z.ga
 have L2:=PySem.W.looks_findIn (M:=model prog w) X Z.nga
 repeat (any_goals (first | assumption | (with_reducible refine wpAny_loadPart_at hx ?_;rw [hc]) | with_reducible refine L1.at ?_ | with_reducible refine L2.at ?_ | wp_step))
 refine codeAny_call_builtin F.excAttr_ValueError.ga.plain F.entry_bexc_ga (NB X I Z (wpAny_mono (hq _) (fun fin s' z=>?_) fun _ _ z=>False.elim z))
 obtain ⟨v,rfl,hv,z⟩:=z
 repeat (any_goals (first | assumption | wp_step))
 show wpAny _ _ (handedOut v) _ _ _
 rw [PySem.W.handedOut_of hv]
 exact wpAny_pure z
theorem Oq {tk:Tok} {fill expr:Bool} {Q:Value->Shared->Prop} (X:K.In h) (I:PySem.W.InstAt h x ox C od) (Z:ExcC K C) (hq:Q (.ref C) ⟨h,g,d,t,os⟩) :
 wpAny (model prog w) A (getAttrBy (.ref x) (.str "__class__" tk) fill expr) Q E ⟨h,g,d,t,os⟩:=by
 refine Ki X I Z fun A'=>?_
 have hf:PySem.W.findObj K C od "__class__" = some (.bind (.builtin "getset_descriptor.__get__") (.builtin "object.__class__")):=by
  have:=Z.obj
  unfold PySem.W.mroIn at this
  obtain ⟨cd,a,b⟩:=Option.bind_eq_some_iff.mp this
  unfold PySem.W.findObj
  rw [a,Z.cl]
  simp only [Option.bind_some,Z.ge,Z.tk]
 have L0:=I.type (M:=model prog w)
 have L3:=PySem.W.looks_find (M:=model prog w) X I hf
 refine wpAny_bind (wpAny_pure (wpAny_bind (wpAny_pure (wpAny_bind (L0.at (wpAny_bind (L3.at ?_)))))))
 unfold Builtin.ObjectAttr.bindTo
 repeat (any_goals (first | assumption | wp_step))
 exact PySem.W.class_get (s:=⟨h,g,d,t,os⟩) X I Z.obj (wpAny_pure ⟨_,rfl,rfl,hq⟩)
theorem NY {Q:Option Value->Shared->Prop} {s:Shared} (X:K.In s.heap) (I:PySem.W.InstAt s.heap x ox C od) (Z:ExcC K C) (hq:Q (some (.ref C)) { s with toks:=s.toks+1 }):wpAny (model prog w) A (getAttr? (.ref x) "__class__") Q E s:=by
 obtain ⟨h,g,d,t,os⟩:=s
 unfold getAttr? getAttrBy?
 refine wpAny_bind (wpAny_mkText (wpAny_bind (wpAny_attempt (Oq X I Z ?_))))
 exact wpAny_pure hq
theorem Fd (Z:ExcC K C):PySem.W.KitX K (.ref x) (.ref C) (fun h=>∃ ox od,PySem.W.InstAt h x ox C od) where
 ty:=fun _ _ _ ⟨_,_,I⟩=>I.type
 it:=fun _ _ X _=>by
  have:=Z.obj
  unfold PySem.W.mroIn at this
  obtain ⟨cd,hcD,_⟩:=Option.bind_eq_some_iff.mp this
  unfold PySem.W.clsIn at hcD
  split at hcD
  ·rename_i c' d' cd' sl' ho
   intro A' Q' E' s' k q
   unfold isType loadHead
   exact wpAny_bind (wpAny_loadPart (k _ _ (X _ _ ho)) (wpAny_pure q))
  ·cases hcD
 ne:=fun h tp dd its n sl X htp=>by
  have:=Z.obj
  unfold PySem.W.mroIn at this
  obtain ⟨cd,hcD,_⟩:=Option.bind_eq_some_iff.mp this
  refine Bool.eq_false_iff.mpr fun q=>?_
  have e:C=tp:=Value.ref.inj (beq_iff_eq.mp q)
  subst e
  unfold PySem.W.clsIn at hcD
  split at hcD
  ·rename_i c' d' cd' sl' ho
   have z:=(X _ _ ho).symm.trans htp
   cases z
  ·cases hcD
 ca:=fun X ⟨_,_,I⟩ k=>NY X I Z k
end
noncomputable def ExcAt (H:Hp) (x C:Addr) (od:Option Addr):Prop:=H x=some (CJ x (.ref C) od)/\∀ d,od=some d->∃ o,H d=some o
noncomputable def IsC (K:W.Frag) (H:Hp) (t:Value) (b:Bool):V->Prop
 | .ty T=>PySem.W.kitOne K t (.type T)=some b
 | .ref p=>PySem.W.kitOne K t (.ref p)=some b\/∃ rs:List Addr,H p=some (.tup (rs.map V.ref))/\PySem.W.kitAny K t (rs.map Value.ref)=some b
 | _=>False
noncomputable def Ia (K:W.Frag):List V->Hp->VK->Prop:=fun xs H Q=>match xs with
 | [.ref x,c]=>∃ C od b,ExcAt H x C od/\ExcC K C/\IsC K H (.ref C) b c/\Q (.bl b) H
 | _=>False
theorem GZ:∀ {rs:List Addr} {its:List Value},Vals (rs.map V.ref) its->its=rs.map Value.ref
 | [],_,.nil=>rfl
 | _::_,_,.cons r t=>by rw [GZ t,(show _=Value.ref _ from r)];rfl
section
variable {X:Cx} {K:W.Frag} {pins:List (Addr × Obj)} {σ:St} {H:Hp} {s:Shared}
theorem ExcAt.inst {x C:Addr} {od:Option Addr} (e:ExcAt H x C od) (I:Inv X pins σ H s):∃ ox odo,PySem.W.InstAt s.heap x ox C odo:=by
 obtain ⟨⟨oe,vs,e1,e2,e3,e4⟩,_⟩:=(show ObjOk X.prog X.w H s.heap x (CJ x (.ref C) od) from I.hok x _ e.1)
 have hn:PySem.W.notCls oe=true:=by unfold PySem.W.notCls;rw [e4]
 cases od with
 | none=>exact ⟨oe,none,e1,e2,hn,by rw [e3];trivial⟩
 | some dx =>
  obtain ⟨fs,hd⟩:=e.2 dx rfl
  obtain ⟨u,q⟩:=(I.hok dx _ hd).is
  exact ⟨oe,some u,e1,e2,hn,by rw [e3];exact q⟩
theorem Oe:CallR X (.builtin "isinstance") (Ia X.K):=by
 intro pins s σ H xs us Q I r q
 match xs,q with
 | [.ref x,c],q =>
  obtain ⟨C,od,b,h1,h2,h3,q⟩:=q
  obtain ⟨u,w',rfl,ru,rw'⟩:=Ba r
  cases ru
  have fin:∀ tk,EP X pins σ Q (.bool b) { s with toks:=tk }:=fun tk=>⟨.bl b,H,I.tok _,rfl,q⟩
  match c,h3,rw' with
  | .ty T,h3,rw'=>cases rw';exact PySem.W.kia_one (Fd h2) I.kIn (h1.inst I) h3 (fun z=>nomatch z) fin
  | .ref p,h3,rw' =>
   cases rw'
   rcases h3 with h3 | ⟨rs,hp,h3⟩
   ·exact PySem.W.kia_one (Fd h2) I.kIn (h1.inst I) h3 (fun z=>nomatch z) fin
   ·obtain ⟨_,its,rv,o,g1,g2,⟨n,g3⟩,_⟩:=(show ObjOk X.prog X.w H s.heap p (.tup (rs.map V.ref)) from I.hok p _ hp)
    rw [GZ rv] at g3
    obtain ⟨oc,od',da,sl⟩:=o
    cases g2
    cases g3
    exact PySem.W.kia_tup (Fd h2) I.kIn (h1.inst I) g1 h3 (fun z=>nomatch z) fin
theorem Fx (hK:X.K=K:=by rfl):CallR X (.builtin "isinstance") (Ia K):=hK ▸ Oe
end
theorem Lf {ta:TA} {W:Hp->Prop}:A6 (IU ta W):=fun D D' σ H h q=>q
noncomputable def E7 (K:W.Frag):List V->Hp->VK->Prop:=fun xs H Q=>match xs with
 | [.str _,.ty T]=>T∈kinds/\Q (.bl (T == "str")) H
 | [.str _,.ref tp]=>H tp=some (.tup [.ty "tuple",.ty "list"])/\Q (.bl false) H
 | xs=>JT K xs H Q
section
variable {X:Cx} {K:W.Frag}
theorem MS:CallR X (.builtin "isinstance") (E7 X.K):=by
 intro pins s σ H xs us Q I r q
 unfold E7 at q
 split at q
 ·rename_i z T
  obtain ⟨hT,q⟩:=q
  obtain ⟨u,w',rfl,ru,rw'⟩:=Ba r
  obtain ⟨t,rfl⟩:=ru
  cases rw'
  exact PySem.W.kia_one PySem.W.kitx_str I.kIn True.intro (JA X.K T hT).2.2.2.1 (fun z=>nomatch z) fun tk=>⟨.bl (T == "str"),H,I.tok _,rfl,q⟩
 ·rename_i z tp
  obtain ⟨hp,q⟩:=q
  obtain ⟨u,w',rfl,ru,rw'⟩:=Ba r
  obtain ⟨t,rfl⟩:=ru
  cases rw'
  obtain ⟨_,its,rv,o,g1,g2,⟨n,g3⟩,_⟩:=(show ObjOk X.prog X.w H s.heap tp (.tup [.ty "tuple",.ty "list"]) from I.hok tp _ hp)
  obtain ⟨u1,u2,rfl,e1,e2⟩:=Ba rv
  cases e1
  cases e2
  obtain ⟨oc,od',da,sl⟩:=o
  cases g2
  cases g3
  exact PySem.W.kia_tup (b:=false) PySem.W.kitx_str I.kIn True.intro g1 rfl (fun z=>nomatch z) fun tk=>⟨.bl false,H,I.tok _,rfl,q⟩
 ·exact OV pins s σ H _ us Q I r q
theorem BY (hK:X.K=K:=by rfl):CallR X (.builtin "isinstance") (E7 K):=hK ▸ MS
end
end L2
namespace L2
open PySem PySem.Spec PyProof.Rows PySem.W
theorem Lm {td ty tx:TE} (h1:AR td) (h2:AR ty) (h3:AR tx):AR (JH td ty tx):=fun σ H Q Q' k q=>h1 _ _ _ _ (fun x H1 ⟨a,e,d,q⟩=>⟨a,e,d,h2 _ _ _ _ (fun y H2 q=>h3 _ _ _ _ (fun z H3 ⟨kvs,k',e1,e2,q1,q2⟩=>⟨kvs,k',e1,e2,fun v l=>k _ _ (q1 v l),fun l=>k _ _ (q2 l)⟩) q) q⟩) q
end L2
namespace L2
open PySem PySem.Spec PyProof.Rows
noncomputable def Ju (K:W.Frag) (C fI:Addr):Bool:=match K.lookup C with
 | some ⟨.type "type",_,.cls cd,sl⟩=>(match cd.mro,sl.toList with
  | .ref C'::bm,[_,_,_,_,some (.builtin n),_]=>C' == C && n == "ValueError.__new__" && !cd.hasDel && cd.hasDict && PySem.W.tailIn K Fp bm && PySem.W.nsOkIn K cd.ns && PySem.W.nsIn K cd.ns "__init__" == some (some (.ref fI))
  | _,_=>false)
 | _=>false
section
variable {prog:Program} {w:World} {A:Around} {E:Value->Shared->Prop} {h:Heap} {g:Array GenState} {d:Drawn} {t:Nat} {os:OsState}
 {nm q:Str} {C N:Addr} {bs bm bmB:List Value} {hdct:Bool} {sn:List Str} {sub:List Value} {ab:Bool} {col:Option Bool} {dd:Option Addr} {k0 k1 k2 k3 k5:Option Value} {B Bn newId nid initId inN:String} {bmN:List Value}
end
section
variable {prog:Program} {w:World} {A:Around} {E:Value->Shared->Prop} {s:Shared} {env:Env} {K:W.Frag} {C fI:Addr}
end
end L2
namespace L2
open PySem PySem.Spec PyProof.Rows Builtin Builtin.ObjectAttr
structure ExcI (K:W.Frag) (C fI:Addr):Prop where
 ob:Ju K C fI=true
 xc:ExcC K C
 sa:PySem.W.findIn K (.ref C) "__setattr__" = some (some (.builtin "object.__setattr__"))
 fn:PySem.W.isFn K (.ref fI)=true
section
variable {prog:Program} {w:World} {A:Around} {E:Value->Shared->Prop} {s:Shared} {K:W.Frag} {x C fI:Addr} {name:Str} {v:Value} {mA:Str->Option Value} {ns:List Str}
end
end L2
namespace L2
open PySem PySem.Spec PyProof.Rows
noncomputable def del (H:Hp) (x:Addr):Hp:=fun b=>if b=x then none else H b
section
variable {P:Program} {w:World} {H H':Hp} {h h':Heap} {x d:Addr} {cls:Value} {od:Option Addr} {fs:List (Str × V)}
end
section
variable {X:Cx} {pins:List (Addr × Obj)} {σ:St} {H H':Hp} {s:Shared} {h':Heap} {x C fI:Addr} {K:W.Frag}
end
section
variable {X:Cx} {K:W.Frag} {C fI:Addr} {fd:FuncData} {ps:List Str} {sp:Sp} {k:Nat} {o e value:Expr} {es:List Expr} {f c:Str} {pos pos' np cpos:Pos} {ta tv:TE} {t:TA} {W:St->Option Addr->Hp->Prop}
end
section
variable {X:Cx} {pins:List (Addr × Obj)} {σ:St} {H H':Hp} {s:Shared} {h':Heap} {ch:List Addr}
end
section
variable {P:Program} {w:World} {K:W.Frag} {mg:Str->Option Value} {base:Heap} {N:List Str} {qual:Str} {sc:Scope} {f:Addr} {cd:Value} {A:Around} {outer:List Env} {s0:Shared} {H0:Hp} {E:XK}
end
noncomputable abbrev XW:=Addr->Addr->Option Addr->St->Hp->Prop
noncomputable abbrev TSX:=XW->St->Hp->Prop
section
variable {X:Cx} {K:W.Frag} {C fI:Addr} {fd:FuncData} {ps:List Str} {sp:Sp} {k:Nat} {e c:Expr} {es:List Expr} {cn n:Str} {pos np cpos p p3:Pos} {t:TA} {tc:TT} {ta tb:TSX} {sts rest:List Stmt} {b:Stmt} {bs:List Stmt} {ts:TS} {j:Nat}
end
end L2
namespace L2
open PySem PyProof.Rows
section
variable {prog:Program} {w:World} {A:Around} {E:Value->Shared->Prop} {s:Shared} {kd:SortKind} {El:Keyed->Prop} {κ:Keyed->Int}
theorem KG (C:Cmp prog w A E s kd El κ) {a b:Array Keyed} {st:SortSt} {Q:Array Keyed->SortSt->Prop} (hk:kindOf st=kd) (ha:Srt κ a.toList) (hb:Srt κ b.toList) (hea:∀ x∈a.toList,El x) (heb:∀ x∈b.toList,El x)
 (la1:0 < a.toList.length) (lb1:0 < b.toList.length) (hb1:b.toList.length=1) (h0:κ b.toList[0] < κ a.toList[0]) (hl:∀ x∈b.toList,κ x < κ (a.toList[a.toList.length - 1]))
 (q:∀ (o:Array Keyed) st',Sg st st'->o.toList.Perm (a.toList++b.toList)->Srt κ o.toList->Q o st'):wpS (model prog w) A E s (mLo a b) Q st:=by
 have m0:=Mg.start ha hb
 have m1:=m0.b (n:=1) hb (by lia) (fun x hx y hy=>by
  have:x=b.toList[0]:=by
   rw [List.drop_zero,List.take_one] at hx
   simpa [List.head?_eq_getElem?,List.getElem?_eq_getElem lb1] using hx
  subst this
  rw [List.drop_zero] at hy
  obtain ⟨i,hi,rfl⟩:=List.getElem_of_mem hy
  rcases Nat.eq_zero_or_pos i with z | z
  ·subst z;lia
  ·have:=List.pairwise_iff_getElem.mp ha 0 i (by lia) hi z
   lia)
 have sa:a.size=a.toList.length:=Array.length_toList.symm
 have sb:b.size=b.toList.length:=Array.length_toList.symm
 have fd:∀ (o:Array Keyed) i j st',Sg st st'->Mg κ a.toList b.toList o.toList i j->(b.toList.length<=j\/a.toList.length<=i)->Q (o++a.extract i a.size++b.extract j b.size) st':=fun o i j st' hs m hj=>by
  have e:(o++a.extract i a.size++b.extract j b.size).toList=o.toList++a.toList.drop i++b.toList.drop j:=by
   rw [Array.toList_append,Array.toList_append,G9,G9]
  rcases hj with hj | hj
  ·obtain ⟨h1,h2⟩:=m.end ha hj
   exact q _ st' hs (by rw [e];exact h1) (by rw [e];exact h2)
  ·have e0:a.toList.drop i=[]:=List.drop_eq_nil_of_le hj
   obtain ⟨h1,h2⟩:=m.end2 ha hb (by rw [e0];intro x _ y hy;cases hy)
   rw [e0,List.append_nil] at h1 h2
   exact q _ st' hs (by rw [e,e0,List.append_nil];exact h1) (by rw [e,e0,List.append_nil];exact h2)
 clear q
 delta mLo
 refine wpS_bind (wpS_lift (wpAny_rule ⟨rfl,?_⟩))
 refine wpS_bind (Ca (CY lb1) ?_)
 have m1':Mg κ a.toList b.toList (#[b.toList[0]]:Array Keyed).toList 0 1:=by
  have:=m1
  rw [JW lb1] at this
  exact this
 rw [if_pos (show (1 == b.size)=true by rw [sb,hb1];rfl)]
 exact wpS_pure (fd _ 0 1 st Sg.refl m1' (.inl (by lia)))
theorem N6 (C:Cmp prog w A E s kd El κ) {a b:Array Keyed} {st:SortSt} {Q:Array Keyed->SortSt->Prop} (hk:kindOf st=kd) (ha:Srt κ a.toList) (hb:Srt κ b.toList) (hea:∀ x∈a.toList,El x) (heb:∀ x∈b.toList,El x)
 (la1:0 < a.toList.length) (lb1:0 < b.toList.length) (hb1:b.toList.length=1) (h0:κ b.toList[0] < κ a.toList[0]) (hl:∀ x∈b.toList,κ x < κ (a.toList[a.toList.length - 1]))
 (q:∀ (o:Array Keyed) st',Sg st st'->o.toList.Perm (a.toList++b.toList)->Srt κ o.toList->Q o st'):wpS (model prog w) A E s (mHi a b) Q st:=by
 have sa:a.size=a.toList.length:=Array.length_toList.symm
 have sb:b.size=b.toList.length:=Array.length_toList.symm
 have lla:a.size - 1 < a.toList.length:=by lia
 have m1':Hg κ a.toList b.toList (#[a.toList[a.size - 1]]:Array Keyed).toList (a.size - 1) b.size:=by
  have m0:Hg κ a.toList b.toList [] a.size b.size:=by rw [sa,sb];exact Hg.start
  have m1:=m0.a (n:=a.size - 1) ha (by lia) (fun x hx y hy=>by
   rw [HI lla (by lia),List.mem_singleton] at hx
   subst hx
   have:=hl y (List.mem_of_mem_take hy)
   simp only [<- sa] at this
   lia)
  rw [HI lla (by lia)] at m1
  exact m1
 have fd:∀ (o:Array Keyed) na nb st',Sg st st'->Hg κ a.toList b.toList o.toList na nb->na=0->Q (a.extract 0 na++b.extract 0 nb++o.reverse) st':=fun o na nb st' hs m hj=>by
  have e:(a.extract 0 na++b.extract 0 nb++o.reverse).toList=a.toList.take na++b.toList.take nb++o.toList.reverse:=by
   rw [Array.toList_append,Array.toList_append,EG,EG,Array.toList_reverse]
  obtain ⟨h1,h2⟩:=m.end hb hj
  exact q _ st' hs (by rw [e];exact h1) (by rw [e];exact h2)
 have fl:∀ (o:Array Keyed) na nb st',Sg st st'->Hg κ a.toList b.toList o.toList na nb->nb=1->Q (b.extract 0 nb++a.extract 0 na++o.reverse) st':=fun o na nb st' hs m hi=>by
  obtain ⟨h1,h2⟩:=m.end2 ha hb (fun x hx y hy=>by
   obtain ⟨t,ht,h5,rfl⟩:=D9 hx
   obtain ⟨u,hu,h6,rfl⟩:=D9 hy
   have e0:t=0:=by lia
   subst e0
   have:=Ev ha (Nat.zero_le u) hu
   lia)
  have e:(b.extract 0 nb++a.extract 0 na++o.reverse).toList=b.toList.take nb++a.toList.take na++o.toList.reverse:=by
   rw [Array.toList_append,Array.toList_append,EG,EG,Array.toList_reverse]
  exact q _ st' hs (by rw [e];exact h1) (by rw [e];exact h2)
 clear q
 delta mHi
 refine wpS_bind (wpS_lift (wpAny_rule ⟨rfl,?_⟩))
 refine wpS_bind (Ca (CY lla) ?_)
 by_cases c1:a.size - 1=0
 ·rw [if_pos (by simpa using c1)]
  exact wpS_pure (fd _ _ _ st Sg.refl m1' c1)
 rw [if_neg (by simpa using c1),if_pos (show (b.size == 1)=true by rw [sb,hb1];rfl)]
 exact wpS_pure (fl _ _ _ st Sg.refl m1' (by lia))
theorem LM (C:Cmp prog w A E s kd El κ) {st:SortSt} {Q:Bool->SortSt->Prop} {n1 n2 pw:Nat} (hk:kindOf st=kd) (hf:failedOf st=none) (hp:pendingOf st = #[(0,n1,pw),(n1,n2,0)]) (h1:0 < n1) (h2:0 < n2) (hn2:n2=1) (hs:(arrOf st).toList.length=n1+n2) (hel:∀ x∈(arrOf st).toList,El x) (sa:Srt κ ((arrOf st).toList.take n1)) (sb:Srt κ ((arrOf st).toList.drop n1))
 (q:∀ st',kindOf st'=kd->failedOf st'=none->pendingOf st' = #[(0,n1+n2,pw)]->(arrOf st').toList.Perm (arrOf st).toList->Srt κ (arrOf st').toList->Q true st'):wpS (model prog w) A E s (mergeAt' 0) Q st:=by
 obtain ⟨kk,arr,p,g,f⟩:=st
 replace hk:kk=kd:=hk
 replace hf:f=none:=hf
 replace hp:p = #[(0,n1,pw),(n1,n2,0)]:=hp
 subst hk hf hp
 replace hs:arr.toList.length=n1+n2:=hs
 replace hel:∀ x∈arr.toList,El x:=hel
 replace sa:Srt κ (arr.toList.take n1):=sa
 replace sb:Srt κ (arr.toList.drop n1):=sb
 have q':∀ st',kindOf st'=kk->failedOf st'=none->pendingOf st' = #[(0,n1+n2,pw)]->(arrOf st').toList.Perm arr.toList->Srt κ (arrOf st').toList->Q true st':=q
 clear q
 delta mergeAt'
 refine wpS_bind (wpS_get ?_)
 have e0:(#[(0,n1,pw),(n1,n2,0)]:Array (Nat × Nat × Nat))[0]? = some (0,n1,pw):=rfl
 have e1:(#[(0,n1,pw),(n1,n2,0)]:Array (Nat × Nat × Nat))[0+1]? = some (n1,n2,0):=rfl
 dsimp only
 rw [e0,e1]
 dsimp only
 refine wpS_bind (Ou ?_)
 have hpe:((#[(0,n1,pw),(n1,n2,0)]:Array (Nat × Nat × Nat)).setIfInBounds 0 (0,n1+n2,pw)).eraseIdxIfInBounds (0+1) = #[(0,n1+n2,pw)]:=by simp [Array.eraseIdxIfInBounds]
 rw [hpe]
 refine (fun z:∀ st2:SortSt,SortSt.mk' kk arr #[(0,n1+n2,pw)] g none=st2->wpS (model prog w) A E s _ Q st2=>z _ rfl) ?_
 intro st2 hst
 have k2:kindOf st2=kk:=by rw [<- hst]
 have f2:failedOf st2=none:=by rw [<- hst]
 have p2:pendingOf st2 = #[(0,n1+n2,pw)]:=by rw [<- hst]
 have a2:arrOf st2=arr:=by rw [<- hst]
 have q:Srt κ arr.toList->Q true st2:=fun z=>q' st2 k2 f2 p2 (by rw [a2]) (by rw [a2];exact z)
 have l1:n1 < arr.toList.length:=by lia
 have l2:n1 - 1 < arr.toList.length:=by lia
 have ea:∀ i j,(hij:i<=j)->(hj:j < n1)->κ (arr.toList[i]'(by lia))<=κ (arr.toList[j]'(by lia)):=fun i j hij hj=>by
  have:=Ev sa hij (show j < (arr.toList.take n1).length by rw [List.length_take];lia)
  simpa using this
 have eb:∀ i j,(hn:n1<=i)->(hij:i<=j)->(hj:j < arr.toList.length)->κ (arr.toList[i]'(by lia))<=κ (arr.toList[j]'hj):=fun i j hn hij hj=>by
  have:=Ev sb (show i - n1<=j - n1 by lia) (show j - n1 < (arr.toList.drop n1).length by rw [List.length_drop];lia)
  rw [List.getElem_drop,List.getElem_drop] at this
  simpa only [show n1+(i - n1)=i by lia,show n1+(j - n1)=j by lia] using this
 have srtI:∀ l:List Keyed,(∀ i j,(hij:i < j)->(hj:j < l.length)->κ (l[i]'(by lia))<=κ (l[j]'hj))->Srt κ l:=fun l h=>List.pairwise_iff_getElem.mpr fun i j hi hj hij=>h i j hij hj
 refine wpS_bind (Ca (CY l1) ?_)
 have fa:∀ t,t < arr.toList.length->∃ ht:t < arr.toList.length,arr.toList.getD t arr.toList[n1]=arr.toList[t]:=fun t ht=>⟨ht,by rw [List.getD_eq_getElem?_getD,List.getElem?_eq_getElem ht];rfl⟩
 refine wpS_bind (Ga C k2 (hel _ (List.getElem_mem l1)) h1 (fun t=>arr.toList.getD t arr.toList[n1]) (fun t ht=>?_) (fun t t' h h'=>?_) fun k hkn hk1 hk2=>?_)
 ·obtain ⟨h5,h6⟩:=fa t (by lia)
  rw [h6,Nat.zero_add]
  exact ⟨CY h5,hel _ (List.getElem_mem h5)⟩
 ·obtain ⟨h5,h6⟩:=fa t (by lia)
  obtain ⟨h7,h8⟩:=fa t' (by lia)
  rw [h6,h8]
  exact ea t t' h h'
 dsimp only
 simp only [Bool.false_eq_true,if_false,Decidable.not_not] at hk1 hk2
 replace hk1:∀ i,(hi:i < k)->κ (arr.toList[i]'(by lia))<=κ arr.toList[n1]:=fun i hi=>by
  have:=hk1 i hi
  obtain ⟨h5,h6⟩:=fa i (by lia)
  rw [h6] at this
  lia
 replace hk2:∀ i,k<=i->(hi:i < n1)->κ arr.toList[n1] < κ (arr.toList[i]'(by lia)):=fun i hi hi'=>by
  have:=hk2 i hi hi'
  obtain ⟨h5,h6⟩:=fa i (by lia)
  rwa [h6] at this
 by_cases c1:n1 - k=0
 ·rw [if_pos (by simpa using c1)]
  refine wpS_pure (q (srtI _ fun i j hij hj=>?_))
  rcases Nat.lt_or_ge j n1 with z | z
  ·exact ea i j (by lia) z
  ·rcases Nat.lt_or_ge i n1 with y | y
   ·exact Int.le_trans (hk1 i (by lia)) (eb n1 j (Nat.le_refl _) z hj)
   ·exact eb i j y (by lia) hj
 rw [if_neg (by simpa using c1)]
 have ei:0+k+(n1 - k) - 1=n1 - 1:=by lia
 rw [ei]
 refine wpS_bind (Ca (CY l2) ?_)
 refine wpS_bind (Ga C k2 (hel _ (List.getElem_mem l2)) (by lia) (fun t=>arr.toList.getD (n1+t) arr.toList[n1]) (fun t ht=>?_) (fun t t' h h'=>?_) fun nb hnb hk3 hk4=>?_)
 ·obtain ⟨h5,h6⟩:=fa (n1+t) (by lia)
  rw [h6]
  exact ⟨CY h5,hel _ (List.getElem_mem h5)⟩
 ·obtain ⟨h5,h6⟩:=fa (n1+t) (by lia)
  obtain ⟨h7,h8⟩:=fa (n1+t') (by lia)
  rw [h6,h8]
  exact eb _ _ (by lia) (by lia) h7
 dsimp only
 simp only [if_true] at hk3 hk4
 replace hk3:∀ i,n1<=i->(hi:i < n1+nb)->κ (arr.toList[i]'(by lia)) < κ arr.toList[n1 - 1]:=fun i hi hi'=>by
  have:=hk3 (i - n1) (by lia)
  obtain ⟨h5,h6⟩:=fa (n1+(i - n1)) (by lia)
  rw [h6] at this
  simpa only [show n1+(i - n1)=i by lia] using this
 replace hk4:∀ i,n1+nb<=i->(hi:i < arr.toList.length)->κ arr.toList[n1 - 1]<=κ (arr.toList[i]'hi):=fun i hi hi'=>by
  have:=hk4 (i - n1) (by lia) (by lia)
  obtain ⟨h5,h6⟩:=fa (n1+(i - n1)) (by lia)
  rw [h6] at this
  have e:n1+(i - n1)=i:=by lia
  simp only [e] at this
  lia
 by_cases c2:nb=0
 ·rw [if_pos (by simpa using c2)]
  refine wpS_pure (q (srtI _ fun i j hij hj=>?_))
  rcases Nat.lt_or_ge j n1 with z | z
  ·exact ea i j (by lia) z
  ·rcases Nat.lt_or_ge i n1 with y | y
   ·exact Int.le_trans (ea i (n1 - 1) (by lia) (by lia)) (hk4 j (by lia) hj)
   ·exact eb i j y (by lia) hj
 rw [if_neg (by simpa using c2),Nat.zero_add]
 have ex:(arr.extract k n1).toList=(arr.toList.take n1).drop k:=by rw [Array.toList_extract,List.extract_eq_take_drop,List.drop_take]
 have ey:(arr.extract n1 (n1+nb)).toList=(arr.toList.drop n1).take nb:=LY _ _
 have hx:∀ x∈(arr.toList.take n1).drop k,∃ t,∃ ht:t < arr.toList.length,k<=t/\t < n1/\x=arr.toList[t]:=fun x hx=>LI hx
 have hy:∀ y∈(arr.toList.drop n1).take nb,∃ t,∃ ht:t < arr.toList.length,n1<=t/\t < n1+nb/\y=arr.toList[t]:=fun y hy=>by
  obtain ⟨t,ht,h5,e⟩:=Pc hy
  exact ⟨n1+t,h5,by lia,by lia,e⟩
 have sx:Srt κ ((arr.toList.take n1).drop k):=List.Pairwise.sublist (List.drop_sublist _ _) sa
 have sy:Srt κ ((arr.toList.drop n1).take nb):=List.Pairwise.sublist (List.take_sublist _ _) sb
 have lx:((arr.toList.take n1).drop k).length=n1 - k:=by rw [List.length_drop,List.length_take];lia
 have ly:((arr.toList.drop n1).take nb).length=nb:=by rw [List.length_take,List.length_drop];lia
 have eL:arr.toList=arr.toList.take k++((arr.toList.take n1).drop k++(arr.toList.drop n1).take nb)++arr.toList.drop (n1+nb):=by
  have h5:=Fv (l:=arr.toList) (n:=k) (na:=n1) (by lia)
  have h6:(arr.toList.drop n1).take nb++arr.toList.drop (n1+nb)=arr.toList.drop n1:=by rw [<- List.drop_drop,List.take_append_drop]
  have h7:=List.take_append_drop n1 arr.toList
  rw [<- h6] at h7
  conv=>lhs;rw [<- h7,h5]
  simp only [List.append_assoc]
 have fin:∀ (o:Array Keyed) st',Sg st2 st'->o.toList.Perm ((arr.toList.take n1).drop k++(arr.toList.drop n1).take nb)->Srt κ o.toList->Q (failedOf st').isNone (setArr st' (List.foldl (fun a (x:Keyed × Nat)=>a.setIfInBounds (k+x.2) x.1) (arrOf st') o.toList.zipIdx)):=fun o st' hs' hp ho=>by
  have hlen:o.toList.length=n1 - k+nb:=by rw [hp.length_eq,List.length_append,lx,ly]
  rw [hs'.f,f2,hs'.a,a2]
  have e:=Mu k o.toList 0 arr (by rw [<- Array.length_toList];lia)
  rw [Nat.add_zero,show k+o.toList.length=n1+nb by lia] at e
  refine q' _ (hs'.k.trans k2) (hs'.f.trans f2) (hs'.p.trans p2) ?_ ?_
  ·show (List.foldl _ arr o.toList.zipIdx).toList.Perm _
   rw [e]
   conv=>rhs;rw [eL]
   exact List.Perm.append_right _ (List.Perm.append_left _ hp)
  ·show Srt κ (List.foldl _ arr o.toList.zipIdx).toList
   rw [e]
   have mo:∀ x∈o.toList,∃ t,∃ ht:t < arr.toList.length,k<=t/\t < n1+nb/\x=arr.toList[t]:=fun x h=>by
    rcases List.mem_append.mp (hp.mem_iff.mp h) with h | h
    ·obtain ⟨t,ht,h5,h6,e⟩:=hx x h
     exact ⟨t,ht,h5,by lia,e⟩
    ·obtain ⟨t,ht,h5,h6,e⟩:=hy x h
     exact ⟨t,ht,by lia,h6,e⟩
   have lo:∀ t,(ht:t < k)->∀ u,k<=u->(hu:u < arr.toList.length)->κ (arr.toList[t]'(by lia))<=κ (arr.toList[u]'hu):=fun t ht u h5 hu=>by
    rcases Nat.lt_or_ge u n1 with z | z
    ·exact ea t u (by lia) z
    ·exact Int.le_trans (hk1 t ht) (eb n1 u (Nat.le_refl _) z hu)
   have hi:∀ t,k<=t->(ht:t < n1+nb)->∀ u,n1+nb<=u->(hu:u < arr.toList.length)->κ (arr.toList[t]'(by lia))<=κ (arr.toList[u]'hu):=fun t h5 ht u h6 hu=>by
    rcases Nat.lt_or_ge t n1 with z | z
    ·exact Int.le_trans (ea t (n1 - 1) (by lia) (by lia)) (hk4 u h6 hu)
    ·exact eb t u z (by lia) hu
   refine BI (BI ?_ ho fun x h y h'=>?_) (List.Pairwise.sublist (by rw [<- List.drop_drop];exact List.drop_sublist _ _) sb) fun x h y h'=>?_
   ·have:=List.Pairwise.sublist (List.take_sublist k _) sa
    rwa [List.take_take,Nat.min_eq_left (by lia)] at this
   ·obtain ⟨t,ht,h5,rfl⟩:=D9 h
    obtain ⟨u,hu,h6,h7,rfl⟩:=mo y h'
    exact lo t h5 u h6 hu
   ·obtain ⟨u,hu,rfl⟩:=Ie h'
    rcases List.mem_append.mp h with h | h
    ·obtain ⟨t,ht,h5,rfl⟩:=D9 h
     exact lo t h5 _ (by lia) hu
    ·obtain ⟨t,ht,h6,h7,rfl⟩:=mo x h
     exact hi t h6 h7 _ (by lia) hu
 have h0:∀ (e1:0 < (arr.extract k n1).toList.length) (e2:0 < (arr.extract n1 (n1+nb)).toList.length),κ (arr.extract n1 (n1+nb)).toList[0] < κ (arr.extract k n1).toList[0]:=fun e1 e2=>by
  have:=hk2 k (Nat.le_refl _) (by lia)
  simp only [ex,ey,List.getElem_take,List.getElem_drop,Nat.add_zero]
  exact this
 have hl:∀ (e1:0 < (arr.extract k n1).toList.length),∀ x∈(arr.extract n1 (n1+nb)).toList,κ x < κ ((arr.extract k n1).toList[(arr.extract k n1).toList.length - 1]'(by lia)):=fun e1 x h=>by
  rw [ey] at h
  obtain ⟨t,ht,h5,h6,rfl⟩:=hy x h
  have:=hk3 t h5 h6
  simp only [ex,lx,List.getElem_take,List.getElem_drop]
  simpa only [show k+(n1 - k - 1)=n1 - 1 by lia] using this
 have e1:0 < (arr.extract k n1).toList.length:=by rw [ex,lx];lia
 have e2:0 < (arr.extract n1 (n1+nb)).toList.length:=by rw [ey,ly];lia
 have hea:∀ x∈(arr.extract k n1).toList,El x:=fun x h=>by
  rw [ex] at h
  obtain ⟨t,ht,_,_,rfl⟩:=hx x h
  exact hel _ (List.getElem_mem ht)
 have heb:∀ x∈(arr.extract n1 (n1+nb)).toList,El x:=fun x h=>by
  rw [ey] at h
  obtain ⟨t,ht,_,_,rfl⟩:=hy x h
  exact hel _ (List.getElem_mem ht)
 by_cases c3:n1 - k<=nb
 ·rw [if_pos c3]
  refine wpS_bind (KG C k2 (by rw [ex];exact sx) (by rw [ey];exact sy) hea heb e1 e2 (by rw [ey,ly];lia) (h0 e1 e2) (hl e1) fun o st' hs' hp ho=>?_)
  rw [ex,ey] at hp
  exact wpS_bind (wpS_modify (wpS_bind (wpS_get (wpS_pure (fin o st' hs' hp ho)))))
 ·rw [if_neg c3]
  refine wpS_bind (N6 C k2 (by rw [ex];exact sx) (by rw [ey];exact sy) hea heb e1 e2 (by rw [ey,ly];lia) (h0 e1 e2) (hl e1) fun o st' hs' hp ho=>?_)
  rw [ex,ey] at hp
  exact wpS_bind (wpS_modify (wpS_bind (wpS_get (wpS_pure (fin o st' hs' hp ho)))))
variable {a₀:Array Keyed} {lo:Nat} {pe:Array (Nat × Nat × Nat)}
theorem K8 (C:Cmp prog w A E s kd El κ) {st:SortSt} {nrem:Nat} {Q:Option Nat->SortSt->Prop} (h0:∀ x∈a₀.toList,El x) (hn:lo+nrem<=a₀.size) (h1:1<=nrem) {t:Nat} (ht:2<=t) (htn:t<=nrem) (hasc:∀ i j,lo<=i->i < j->j < lo+t->Kf κ (arrOf st) i < Kf κ (arrOf st) j) (hB:Bs kd a₀ lo pe st)
 (h:∀ m st',Bs kd a₀ lo pe st'->t<=m->m<=nrem->Seg κ lo (arrOf st') m->Q (some m) st'):wpS (model prog w) A E s (countRun' lo nrem) Q st:=by
 delta countRun'
 refine wpS_bind (wpS_mono (wpS_forRange (I:=fun x c st'=>st'=st/\c=(none,x)/\Seg κ lo (arrOf st) x)
  (Q:=fun c st'=>st'=st/\∃ n,c=(none,n)/\1<=n/\n<=nrem/\Seg κ lo (arrOf st) n/\(n=nrem\/Kf κ (arrOf st) (lo+n) < Kf κ (arrOf st) (lo+n - 1))) ?step ?fin ⟨rfl,rfl,Ix⟩) ?post)
 case fin =>
  rintro c st' ⟨rfl,rfl,hs'⟩
  rw [show max 1 nrem=nrem by lia] at hs' ⊢
  exact ⟨rfl,nrem,rfl,h1,Nat.le_refl _,hs',.inl rfl⟩
 case step =>
  rintro x c st' hax hxn ⟨rfl,rfl,hs'⟩
  dsimp only
  refine wpS_bind (CA C hB h0 (by lia) (by lia) ?_)
  by_cases hless:Kf κ (arrOf st') (lo+x) < Kf κ (arrOf st') (lo+x - 1)
  ·simp only [hless,decide_true,if_true]
   exact wpS_pure ⟨rfl,x,rfl,hax,by lia,hs',.inr hless⟩
  ·simp only [hless,decide_false,Bool.false_eq_true,if_false]
   exact wpS_pure ⟨rfl,rfl,hs'.more hax hless⟩
 case post =>
  rintro c st' ⟨rfl,n,rfl,hn1,hn2,hsn,hor⟩
  have hnt:t<=n:=by
   rcases hor with e | e
   ·lia
   ·rcases Nat.lt_or_ge n t with z | z
    ·have:=hasc (lo+n - 1) (lo+n) (by lia) (by lia) (by lia)
     lia
    ·exact z
  dsimp only
  by_cases hnn:n=nrem
  ·rw [if_pos (by simpa using hnn)]
   exact wpS_pure (h n _ hB hnt hn2 hsn)
  rw [if_neg (by simpa using hnn)]
  have hgt:n > 1:=by lia
  rw [if_pos hgt]
  refine wpS_bind (CA C hB h0 (by lia) (by lia) ?_)
  have r1:=hasc lo (lo+1) (Nat.le_refl _) (by lia) (by lia)
  have r2:=hsn (lo+1) (lo+n - 1) (by lia) (by lia) (by lia)
  have hrose:Kf κ (arrOf st') lo < Kf κ (arrOf st') (lo+n - 1):=by lia
  simp only [hrose,decide_true,if_true]
  exact wpS_pure (h n _ hB hnt hn2 hsn)
theorem Jr (C:Cmp prog w A E s kd El κ) {st:SortSt} {Q:Unit->SortSt->Prop} (h0:∀ x∈a₀.toList,El x) (hB:Bs kd a₀ 0 #[] st) (h2:2<=a₀.size) (h64:a₀.size<=64) (hz:a₀.size < 64\/∀ i j,i < j->j < 63->Kf κ (arrOf st) i < Kf κ (arrOf st) j)
 (h:∀ st',(arrOf st').toList.Perm a₀.toList->failedOf st'=none->Srt κ (arrOf st').toList->Q () st'):wpS (model prog w) A E s sortRuns' Q st:=by
 have hlen:∀ {st'},(arrOf st').toList.Perm a₀.toList->(arrOf st').toList.length=a₀.size:=fun hp=>by rw [hp.length_eq,Array.length_toList]
 have hmr:minRun' a₀.size a₀.size 0=a₀.size/\a₀.size < 64\/minRun' a₀.size a₀.size 0=32/\a₀.size=64:=by
  rcases Nat.lt_or_ge a₀.size 64 with z | z
  ·exact .inl ⟨Oz (by lia) z,z⟩
  ·have:a₀.size=64:=by lia
   exact .inr ⟨by rw [this];exact Ly,this⟩
 rw [sortRuns'_eq]
 refine wpS_bind (wpS_get ?_)
 dsimp only
 rw [hB.size]
 generalize minRun' a₀.size a₀.size 0=mr at hmr ⊢
 refine wpS_bind (wpS_mono (wpS_forRange
  (I:=fun x c st'=>(x=0/\c=(none,0)/\st'=st)\/(1<=x/\c=(none,a₀.size)/\(Dn kd κ a₀ st'\/∃ n1 n2 pw,n2=1/\Tw kd κ a₀ n1 n2 pw st'))\/(x=1/\a₀.size=64/\mr=32/\∃ n1,c=(none,n1)/\63<=n1/\n1 < 64/\Bs kd a₀ 0 #[(0,n1,0)] st'/\Seg κ 0 (arrOf st') n1))
  (Q:=fun c st'=>c=(none,a₀.size)/\(Dn kd κ a₀ st'\/∃ n1 n2 pw,n2=1/\Tw kd κ a₀ n1 n2 pw st')) ?step ?fin (.inl ⟨rfl,rfl,rfl⟩)) ?post)
 case fin =>
  rintro c st' (⟨hx,_,_⟩ | ⟨_,hc,hD⟩ | ⟨hx,_,_⟩)
  ·lia
  ·exact ⟨hc,hD⟩
  ·lia
 case step =>
  rintro x c st' _ hx (⟨rfl,rfl,rfl⟩ | ⟨hx1,rfl,hD⟩ | ⟨rfl,e64,rfl,n1,rfl,h32,hn1,hB',hs'⟩)
  ·dsimp only
   rw [if_neg (by lia),Nat.sub_zero]
   refine (fun z:∀ (Q':Option Nat->SortSt->Prop),(∀ m st2,Bs kd a₀ 0 #[] st2->1<=m->m<=a₀.size->Seg κ 0 (arrOf st2) m->(a₀.size=64->63<=m)->Q' (some m) st2)->wpS (model prog w) A E s (countRun' 0 a₀.size) Q' st'=>wpS_bind (z _ fun m st2 hB2 hm1 hm2 hs2 h63=>?_)) ?_
   rotate_left
   ·intro Q' hQ
    rcases hz with z | z
    ·exact Ft C h0 (by lia) (by lia) hB fun m st2 hB2 hm1 hm2 hs2=>hQ m st2 hB2 hm1 hm2 hs2 fun e=>by lia
    ·rcases Nat.lt_or_ge a₀.size 64 with y | y
     ·exact Ft C h0 (by lia) (by lia) hB fun m st2 hB2 hm1 hm2 hs2=>hQ m st2 hB2 hm1 hm2 hs2 fun e=>by lia
     ·exact K8 C h0 (by lia) (by lia) (t:=63) (by lia) (by lia) (fun i j _ h1 h2=>z i j h1 (by lia)) hB fun m st2 hB2 hm1 hm2 hs2=>hQ m st2 hB2 (by lia) hm2 hs2 fun _=>hm1
   dsimp only
   have fin:∀ n st3,Bs kd a₀ 0 #[] st3->Seg κ 0 (arrOf st3) n->mr<=n->n<=a₀.size->(a₀.size=64->63<=n)->(n=a₀.size/\Dn kd κ a₀ (setPending st3 ((pendingOf st3).push (0,n,0))))\/(a₀.size=64/\mr=32/\63<=n/\n < 64/\Bs kd a₀ 0 #[(0,n,0)] (setPending st3 ((pendingOf st3).push (0,n,0)))/\Seg κ 0 (arrOf st3) n):=fun n st3 hB3 hs3 hn1 hn2 hn3=>by
    by_cases e:n=a₀.size
    ·refine .inl ⟨e,Array.perm_iff_toList_perm.mp hB3.perm,hB3.kind,hB3.failed,?_,?_⟩
     ·show ((pendingOf st3).push _).size<=1
      rw [hB3.pend]
      exact Nat.le_refl _
     ·show Srt κ (arrOf st3).toList
      have:=Hw hs3
      rwa [List.take_of_length_le (by rw [hlen (Array.perm_iff_toList_perm.mp hB3.perm)];lia)] at this
    ·rcases hmr with ⟨z1,z2⟩ | ⟨z1,z2⟩
     ·lia
     ·refine .inr ⟨z2,z1,by lia,by lia,⟨hB3.perm,hB3.kind,hB3.failed,?_,fun i hi=>by lia⟩,hs3⟩
      show (pendingOf st3).push _=_
      rw [hB3.pend]
      rfl
   by_cases hlt:m < mr
   ·rw [if_pos hlt]
    refine wpS_bind (wpS_lift (wpAny_rule ⟨rfl,?_⟩))
    have hmin:min a₀.size mr=mr:=by lia
    rw [hmin]
    refine wpS_bind (IN C h0 (by lia) (by lia) hB2 hs2 fun st3 hB3 hs3=>?_)
    simp only [Bool.not_true,Bool.false_eq_true,if_false]
    refine wpS_bind (wpS_get ?_)
    have hb:(pendingOf st3).back? = none:=by rw [hB3.pend];rfl
    rw [hb]
    dsimp only
    refine wpS_bind (wpS_modify (wpS_pure ?_))
    rcases fin mr st3 hB3 hs3 (Nat.le_refl _) (by lia) (fun e=>by have:=h63 e;lia) with ⟨e,d⟩ | ⟨e1,e2,e3,e4,e5,e6⟩
    ·exact .inr (.inl ⟨by lia,by rw [Nat.zero_add,e],.inl d⟩)
    ·exact .inr (.inr ⟨by first | trivial | rfl,e1,e2,mr,by rw [Nat.zero_add],e3,e4,e5,e6⟩)
   ·rw [if_neg hlt]
    refine wpS_bind (wpS_get ?_)
    have hb:(pendingOf st2).back? = none:=by rw [hB2.pend];rfl
    rw [hb]
    dsimp only
    refine wpS_bind (wpS_modify (wpS_pure ?_))
    rcases fin m st2 hB2 hs2 (by lia) hm2 h63 with ⟨e,d⟩ | ⟨e1,e2,e3,e4,e5,e6⟩
    ·exact .inr (.inl ⟨by lia,by rw [Nat.zero_add,e],.inl d⟩)
    ·exact .inr (.inr ⟨by first | trivial | rfl,e1,e2,m,by rw [Nat.zero_add],e3,e4,e5,e6⟩)
  ·dsimp only
   rw [if_pos (Nat.le_refl _)]
   exact wpS_pure ⟨rfl,hD⟩
  ·dsimp only
   rw [if_neg (by lia)]
   have hsz:(arrOf st').size=a₀.size:=hB'.size
   have h0':∀ x∈(arrOf st').toList,El x:=fun x hx=>h0 x ((Array.perm_iff_toList_perm.mp hB'.perm).mem_iff.mp hx)
   have hB1:Bs kd (arrOf st') n1 #[(0,n1,0)] st':=⟨Array.Perm.refl _,hB'.kind,hB'.failed,hB'.pend,fun _ _=>rfl⟩
   refine wpS_bind (Ft C h0' (by lia) (by lia) hB1 fun m st2 hB2 hm1 hm2 hs2=>?_)
   dsimp only
   have fin:∀ st3,Bs kd (arrOf st') n1 #[(0,n1,0)] st3->Seg κ n1 (arrOf st3) (a₀.size - n1)->∀ pw,Tw kd κ a₀ n1 (a₀.size - n1) pw (setPending (setPending st3 #[(0,n1,pw)]) #[(0,n1,pw),(n1,a₀.size - n1,0)]):=fun st3 hB3 hs3 pw=>by
    have hp:(arrOf st3).toList.Perm a₀.toList:=(Array.perm_iff_toList_perm.mp hB3.perm).trans (Array.perm_iff_toList_perm.mp hB'.perm)
    refine ⟨hp,hB3.kind,hB3.failed,rfl,by lia,by lia,by lia,?_,?_⟩
    ·refine Hw fun i j hi hij hj=>?_
     show Kf κ (arrOf st3) i<=Kf κ (arrOf st3) j
     rw [CV (hB3.low i (by lia)),CV (hB3.low j (by lia))]
     exact hs' i j hi hij hj
    ·exact NQ (xs:=arrOf st3) hs3 (by rw [hlen hp];lia)
   have fin2:∀ st3,Bs kd (arrOf st') n1 #[(0,n1,0)] st3->Seg κ n1 (arrOf st3) (a₀.size - n1)->∀ pw,Tw kd κ a₀ n1 (a₀.size - n1) pw (setPending (setPending st3 ((pendingOf st3).modify ((pendingOf st3).size - 1) fun (st,len,_)=>(st,len,pw))) ((pendingOf (setPending st3 ((pendingOf st3).modify ((pendingOf st3).size - 1) fun (st,len,_)=>(st,len,pw)))).push (n1,a₀.size - n1,0))):=fun st3 hB3 hs3 pw=>by
    have e:(pendingOf st3).modify ((pendingOf st3).size - 1) (fun (st,len,_)=>(st,len,pw)) = #[(0,n1,pw)]:=by
     rw [hB3.pend]
     simp [Array.modify,Array.modifyM,Id.run]
     try rfl
    rw [e]
    exact fin st3 hB3 hs3 pw
   have e32:∀ m,¬ m < 32->m<=a₀.size - n1->m=a₀.size - n1:=fun m _ _=>by lia
   by_cases hlt:m < 32
   case' pos =>
    rw [if_pos hlt]
    refine wpS_bind (wpS_lift (wpAny_rule ⟨rfl,?_⟩))
    have hmin:min (a₀.size - n1) 32=a₀.size - n1:=by lia
    rw [hmin]
    refine wpS_bind (IN C h0' (by lia) (by lia) hB2 hs2 fun st3 hB3 hs3=>?_)
    simp only [Bool.not_true,Bool.false_eq_true,if_false]
   case' neg =>
    rw [if_neg hlt]
    have hs3:=hs2
    have hB3:=hB2
    rw [e32 m hlt hm2] at hs3 ⊢
    refine (fun z:∀ st3,Bs kd (arrOf st') n1 #[(0,n1,0)] st3->Seg κ n1 (arrOf st3) (a₀.size - n1)->wpS (model prog w) A E s _ _ st3=>z st2 hB3 hs3) ?_
    clear hs3 hB3
    intro st3 hB3 hs3
   all_goals
    refine wpS_bind (wpS_get ?_)
    have hb:(pendingOf st3).back? = some (0,n1,0):=by rw [hB3.pend];rfl
    rw [hb]
    dsimp only
    generalize power' _ _ _ _=pw
    refine wpS_bind (wpS_mono (wpS_forRange (I:=fun _ c st4=>c=(none,())/\st4=st3) (Q:=fun c st4=>c=(none,())/\st4=st3) ?_ (fun _ _ hh=>hh) ⟨rfl,rfl⟩) ?_)
    ·rintro y c st4 _ _ ⟨rfl,rfl⟩
     refine wpS_bind (wpS_get ?_)
     rw [hB3.pend,if_neg (by simp)]
     exact wpS_pure ⟨rfl,rfl⟩
    ·rintro c st4 ⟨rfl,rfl⟩
     dsimp only
     refine wpS_bind (wpS_modify (wpS_bind (wpS_modify (wpS_pure (.inr (.inl ⟨by lia,by rw [show n1+(a₀.size - n1)=a₀.size by lia],.inr ⟨n1,a₀.size - n1,pw,by lia,?_⟩⟩))))))
     exact fin2 st4 hB3 hs3 pw
 case post =>
  rintro c st' ⟨rfl,hD⟩
  dsimp only
  refine wpS_bind (wpS_mono (wpS_forRange (I:=fun x c st''=>c=(none,())/\(Dn kd κ a₀ st''\/x=0/\∃ n1 n2 pw,n2=1/\Tw kd κ a₀ n1 n2 pw st'')) (Q:=fun c st''=>c=(none,())/\Dn kd κ a₀ st'') ?_ ?_ ⟨rfl,hD.imp id fun z=>⟨rfl,z⟩⟩) ?_)
  ·rintro x c st2 _ _ ⟨rfl,hD⟩
   refine wpS_bind (wpS_get ?_)
   rcases hD with hD | ⟨rfl,n1,n2,pw,hn2,hT⟩
   ·rw [if_pos hD.pend]
    exact wpS_pure ⟨rfl,hD⟩
   ·rw [hT.pend,if_neg (by simp)]
    have h0':∀ x∈(arrOf st2).toList,El x:=fun x hx=>h0 x (hT.perm.mem_iff.mp hx)
    refine wpS_bind (LM C hT.kind hT.failed hT.pend hT.l1 hT.l2 hn2 (by rw [hlen hT.perm,hT.len]) h0' hT.s1 hT.s2 fun st3 k3 f3 p3 perm3 srt3=>?_)
    exact wpS_pure ⟨rfl,.inl ⟨perm3.trans hT.perm,k3,f3,by rw [p3];exact Nat.le_refl _,srt3⟩⟩
  ·rintro c st2 ⟨rfl,hD | ⟨z,_⟩⟩
   ·exact ⟨rfl,hD⟩
   ·lia
  ·rintro c st2 ⟨rfl,hD⟩
   exact wpS_pure (h _ hD.perm hD.failed hD.srt)
end
end L2
namespace L2
open PySem PySem.Spec PyProof.Rows PySem.W PySem.Calls
section
variable {P:Program} {w:World} {A:Around} {E:Value->Shared->Prop} {s:Shared}
theorem Iy {a:Addr} {vs:List Value} {n:Nat} {R:PySem.Fin->Shared->Prop} {κv:Value->Int} (ho:s.heap.get? a=some (seqObj "list" vs.toArray n)) (hv:∀ v∈vs,PairV s.heap v (κv v)) (hu:∀ v∈vs,∀ v'∈vs,κv v=κv v'->v=v') (h64:vs.length<=64) (hasc:vs.length < 64\/(vs.take 63).Pairwise fun x y=>κv x < κv y)
 (fin:∀ out:List Value,out.Perm vs->out.Pairwise (fun x y=>κv x<=κv y)->R (.done (.ret .none)) { s with heap:=sortedHeap s.heap a vs out.toArray }) :
 wpAny (model P w) A (Builtin.«list.sort» ⟨[.ref a],[]⟩) R E s:=by
 have hz:vs.length<=sizeLine:=by rw [sizeLine_eq];lia
 rw [list_sort_plain]
 have ha:a < s.heap.objs.size:=Heap.lt_size ho
 obtain ⟨e1,ho1⟩:∃ e1,(s.heap.update a (Obj.mapSeq fun _=>#[])).get? a=some (seqObj "list" #[] e1):=⟨_,get?_update_seq ho (fun _=>#[])⟩
 refine wpAny_bind (listItems_at ho rfl (wpAny_bind (listUpdate_at ho rfl (wpAny_bind (seqEpoch_at ho1 rfl (wpAny_bind (wpAny_newTuple (wpAny_bind (wpAny_newList (wpAny_holding ?_))) hz)))) (by rw [List.size_toArray];exact hz))))
 have ho6:(((s.heap.update a (Obj.mapSeq fun _=>#[])).push (seqObj "tuple" vs.toArray 0)).push (seqObj "list" #[] 0)).get? a=some (seqObj "list" #[] e1):=Heap.get?_push_of_some _ (Heap.get?_push_of_some _ ho1)
 show wpAny (model P w) A _ R E { s with heap:=((s.heap.update a (Obj.mapSeq fun _=>#[])).push (seqObj "tuple" vs.toArray 0)).push (seqObj "list" #[] 0) }
 dsimp only
 have kp:∀ b o,o.cls=.type "tuple" -> s.heap.get? b=some o->(((s.heap.update a (Obj.mapSeq fun _=>#[])).push (seqObj "tuple" vs.toArray 0)).push (seqObj "list" #[] 0)).get? b=some o:=fun b o hc e=>by
  have hba:b≠a:=fun z=>by
   rw [z,ho] at e
   cases e
   exact absurd hc (show ¬ (Value.type "list" = Value.type "tuple") by decide)
  exact Heap.get?_push_of_some _ (Heap.get?_push_of_some _ (by rw [Heap.get?_update_ne _ _ _ _ hba];exact e))
 have hsz:vs.toArray.size=vs.length:=by simp
 by_cases h2:vs.toArray.size < 2
 ·rw [if_pos h2,if_pos h2]
  refine wpAny_bind (wpAny_pure ?_)
  rw [StateT.run_pure]
  refine wpAny_bind (wpAny_pure ?_);dsimp only
  refine wpAny_bind (seqEpoch_at ho6 rfl (wpAny_bind (listUpdate_at ho6 rfl ?_ (hsz2:=by rw [Array.size_map];show (pairsOf vs).size<=_;rw [pairsOf_size,sizeLine_eq];lia))))
  simp only [bne_self_eq_false,Bool.false_eq_true,if_false]
  have e:((vs.toArray.zip vs.toArray).map (·.2))=vs.toArray:=by
   apply Array.ext'
   simp
   exact List.map_snd_zip (Nat.le_refl _)
  refine wpAny_pure ?_
  show R _ { s with heap:=Heap.update (((s.heap.update a (Obj.mapSeq fun _=>#[])).push (seqObj "tuple" vs.toArray 0)).push (seqObj "list" #[] 0)) a (Obj.mapSeq fun _=>((vs.toArray.zip vs.toArray).map (·.2))) }
  rw [e]
  refine fin vs (List.Perm.refl _) ?_
  match vs,h2 with
  | [],_=>exact .nil
  | [x],_=>exact List.pairwise_singleton _ _
  | _::_::_,h2=>simp at h2;lia
 ·rw [if_neg h2,if_neg h2]
  have hl2:2<=vs.length:=by rw [hsz] at h2;lia
  have hin:∀ v∈vs,PairV (((s.heap.update a (Obj.mapSeq fun _=>#[])).push (seqObj "tuple" vs.toArray 0)).push (seqObj "list" #[] 0)) v (κv v):=fun v h=>(hv v h).keep kp
  obtain ⟨fs,f1,f2,f3⟩:=JE (fun v h=>⟨_,hin v h⟩)
  refine wpAny_bind (kat_kind (T:=Value.type "int") f1 (by lia) (fun v hv=>?_) (by decide) ?_)
  ·obtain ⟨k,t,rfl⟩:=f3 v hv
   exact Looks.of_pure rfl
  rw [show (Value.type "int" != Value.type "tuple")=true by decide]
  have hz':(pairsOf vs).size < 64\/∀ i j,i < j->j < 63->Kf (fun p:Keyed=>κv p.1) (vs.toArray.zip vs.toArray) i < Kf (fun p:Keyed=>κv p.1) (vs.toArray.zip vs.toArray) j:=by
   rw [pairsOf_size]
   rcases hasc with z | z
   ·exact .inl z
   ·rcases Nat.lt_or_ge vs.length 64 with y | y
    ·exact .inl y
    ·refine .inr fun i j hij hj=>?_
     have hg:∀ i,(hi:i < vs.length)->Kf (fun p:Keyed=>κv p.1) (vs.toArray.zip vs.toArray) i=κv vs[i]:=fun i hi=>by
      unfold Kf
      have:(vs.toArray.zip vs.toArray)[i]? = some (vs[i],vs[i]):=by simp [hi]
      rw [this]
     rw [hg i (by lia),hg j (by lia)]
     have:=List.pairwise_iff_getElem.mp z i j (by rw [List.length_take];lia) (by rw [List.length_take];lia) hij
     simpa using this
  refine wpAny_bind (wpAny_mono (Jr (a₀:=pairsOf vs) (s:={ s with heap:=((s.heap.update a (Obj.mapSeq fun _=>#[])).push (seqObj "tuple" vs.toArray 0)).push (seqObj "list" #[] 0) }) (KC (vs:=vs) (κv:=κv) hin hu) (st:=SortSt.mk' (tuples' true) (vs.toArray.zip vs.toArray) #[] 7 none)
   (Q:=fun _ st'=>(arrOf st').toList.Perm (pairsOf vs).toList/\failedOf st'=none/\Srt (fun p=>κv p.1) (arrOf st').toList)
   (fun x hx=>by rw [pairsOf_toList] at hx;exact (mem_zip_self hx).2) ⟨Array.Perm.refl _,rfl,rfl,rfl,fun _ _=>rfl⟩ (by rw [pairsOf_size];lia) (by rw [pairsOf_size];exact h64) hz' fun st' a1 a2 a3=>⟨a1,a2,a3⟩) ?_ fun _ _ e=>e)
  rintro ⟨⟨⟩,st'⟩ s' ⟨rfl,hp,hf,hs⟩
  dsimp only
  have hp':=Array.perm_iff_toList_perm.mpr hp
  refine wpAny_bind (seqEpoch_at ho6 rfl ?_)
  refine wpAny_bind (listUpdate_at ho6 rfl ?_ (hsz2:=by refine Nat.le_trans (Nat.le_of_eq ((Array.size_map ..).trans (hp'.size_eq.trans (pairsOf_size _)))) ?_;rw [sizeLine_eq];lia))
  rw [hf]
  simp only [bne_self_eq_false,Bool.false_eq_true,if_false]
  have eo:(arrOf st').map (·.2)=((arrOf st').toList.map (·.2)).toArray:=by
   apply Array.ext'
   simp
  have hmem:∀ p∈(arrOf st').toList,p.1=p.2:=fun p h=>by
   have:=hp.mem_iff.mp h
   rw [pairsOf_toList] at this
   exact (mem_zip_self this).1
  refine wpAny_pure ?_
  show R _ { s with heap:=Heap.update (((s.heap.update a (Obj.mapSeq fun _=>#[])).push (seqObj "tuple" vs.toArray 0)).push (seqObj "list" #[] 0)) a (Obj.mapSeq fun _=>((arrOf st').map (·.2))) }
  rw [eo]
  refine fin _ ?_ ?_
  ·have:=hp.map (·.2)
   rw [pairsOf_toList,List.map_snd_zip (Nat.le_refl _)] at this
   exact this
  ·rw [List.pairwise_map]
   refine List.Pairwise.imp_of_mem (fun {x y} hx hy hxy=>?_) hs
   rw [<- hmem x hx,<- hmem y hy]
   exact hxy
theorem OK {r d:Addr} {kvs:List (Key × Value)} {ep:Nat} {ns:List Int} {Q:Value->Shared->Prop} (hh:A.handled=none) (hv:s.heap.IsItemsView r d) (hm:s.heap.DictAt (Ag P w) d kvs ep) (hk:kvs.map (·.1)=ns.map Sum.inl) (nd:ns.Nodup) (h64:ns.length < 64)
 (fin:∀ (h':Heap) tk (L:Addr) (as:List Addr) (is:List Nat) (e:Nat),is.Perm (List.range ns.length)->(is.map fun i=>ns.getD i 0).Pairwise (· <= ·)->as.length=is.length->as.Nodup->(∀ a∈as,s.heap.objs.size<=a/\a < L) ->
   (∀ (j:Nat) a i,as[j]? = some a->is[j]? = some i->∃ k x t,kvs[i]? = some (Sum.inl k,x)/\h'.get? a=some { cls:=.type "tuple",data:=.seq #[.int k t,x] }) ->
   h'.get? L=some (seqObj "list" (as.map Value.ref).toArray e)->r < L->(∀ b o,s.heap.get? b=some o->h'.get? b=some o)->Q (.ref L) { s with heap:=h',toks:=tk }) :
 wpAny (model P w) A (call (.builtin "sorted") [.ref r]) Q E s:=by
 have hl:kvs.length=ns.length:=by have:=congrArg List.length hk;simpa using this
 have hz:ns.length<=sizeLine:=Nat.le_trans (Nat.le_of_lt h64) (by decide)
 refine Calls.call_function_entry kind_sorted plain_sorted entry_sorted (args_sorted1 _) ?_
 unfold Builtin.«sorted»
 refine wpAny_bind (m:=checkCount "sorted" 1 1 _) (wpAny_pure (wpAny_bind (kdx_collect (A:=A.in1) hh hv hm (by rw [hl];exact hz) fun h' tk as hkp hal g=>?_)))
 have hal':as.length=ns.length:=hal.trans hl
 refine wpAny_bind (wpAny_newList ?_ (by rw [List.length_map,hal'];exact hz))
 have hoL:(h'.push (seqObj "list" (as.map Value.ref).toArray 0)).get? h'.objs.size=some (seqObj "list" (as.map Value.ref).toArray 0):=Heap.get?_push_size _ rfl
 have hlt:r < h'.objs.size:=by
  obtain ⟨o,ho,_⟩:=id hv
  exact Heap.lt_size (hkp _ _ ho)
 have and_:as.Nodup:=g.rise.imp fun h=>Nat.ne_of_lt h
 have at_:∀ (i:Nat) a,as[i]? = some a->∃ k x t,ns[i]? = some k/\kvs[i]? = some (Sum.inl k,x)/\h'.get? a=some { cls:=.type "tuple",data:=.seq #[.int k t,x] }:=fun i a e=>by
  obtain ⟨key,k,x,e1,e2,e3⟩:=g.pairs i a e
  have e4:(kvs.map (·.1))[i]? = some k:=by rw [List.getElem?_map,e1];rfl
  rw [hk,List.getElem?_map] at e4
  obtain ⟨j,e5,rfl⟩:=Option.map_eq_some_iff.mp e4
  have e2:CH (Sum.inl j) key=true:=e2
  rcases keyIs_shape e2 with ⟨j',t',e6,rfl⟩ | ⟨_,_,e6,_⟩
  ·cases e6
   exact ⟨j,x,t',e5,e1,e3⟩
  ·cases e6
 have up:∀ b o,h'.get? b=some o->(h'.push (seqObj "list" (as.map Value.ref).toArray 0)).get? b=some o:=fun b o e=>Heap.get?_push_of_some _ e
 have ix:∀ a∈as,as[as.idxOf a]? = some a:=fun a ha=>by
  rw [List.getElem?_eq_getElem (List.idxOf_lt_length_of_mem ha)]
  simp
 have key_:∀ a∈as,∃ k x t,ns[as.idxOf a]? = some k/\ns.getD (as.idxOf a) 0=k/\kvs[as.idxOf a]? = some (Sum.inl k,x)/\h'.get? a=some { cls:=.type "tuple",data:=.seq #[.int k t,x] }:=fun a ha=>by
  obtain ⟨k,x,t,e1,e2,e3⟩:=at_ _ _ (ix a ha)
  exact ⟨k,x,t,e1,by rw [List.getD_eq_getElem?_getD,e1];rfl,e2,e3⟩
 refine wpAny_bind (wpAny_holding (wpAny_call_entry slot_list_sort ⟨_,hoL,rfl⟩ entry_list_sort (Iy (κv:=fun v=>ns.getD (as.idxOf (Bh v)) 0) hoL (fun v hv=>?_) (fun v hv v' hv' e=>?_) (by rw [List.length_map];lia) (.inl (by rw [List.length_map];lia)) fun out pm srt=>⟨_,rfl,?_⟩) (args_list_sort _)))
 ·obtain ⟨a,ha,rfl⟩:=List.mem_map.mp hv
  obtain ⟨k,x,t,e1,e2,e3,e4⟩:=key_ a ha
  show PairV _ _ (ns.getD (as.idxOf a) 0)
  rw [e2]
  exact ⟨a,t,x,_,_,rfl,up _ _ e4,rfl,rfl⟩
 ·obtain ⟨a,ha,rfl⟩:=List.mem_map.mp hv
  obtain ⟨a',ha',rfl⟩:=List.mem_map.mp hv'
  obtain ⟨k,x,t,e1,e2,_⟩:=key_ a ha
  obtain ⟨k',x',t',e1',e2',_⟩:=key_ a' ha'
  have e:ns.getD (as.idxOf a) 0=ns.getD (as.idxOf a') 0:=e
  rw [e2,e2'] at e
  subst e
  have:as.idxOf a=as.idxOf a':=(List.getElem?_inj (List.getElem?_eq_some_iff.mp e1).1 nd).mp (e1.trans e1'.symm)
  have h1:=ix a ha
  rw [this,ix a' ha'] at h1
  cases h1
  rfl
 ·have eo:out=(out.map Bh).map Value.ref:=by
   rw [List.map_map]
   have:out.map id=out:=List.map_id _
   conv=>lhs;rw [<- this]
   refine List.map_congr_left fun v hv=>?_
   obtain ⟨a,_,rfl⟩:=List.mem_map.mp (pm.mem_iff.mp hv)
   rfl
  have pa:(out.map Bh).Perm as:=by
   have:=pm.map Bh
   rw [List.map_map] at this
   have e:as.map (Bh ∘ Value.ref)=as:=by
    have:as.map id=as:=List.map_id _
    exact this
   rwa [e] at this
  have srt':(out.map Bh).Pairwise (fun x y=>ns.getD (as.idxOf x) 0<=ns.getD (as.idxOf y) 0):=by
   rw [List.pairwise_map]
   exact srt
  rw [eo]
  generalize out.map Bh=as' at *
  clear eo srt pm
  obtain ⟨e,he⟩:=sortedHeap_at (out:=(as'.map Value.ref).toArray) hoL
  have old:∀ b o,h'.get? b=some o->(sortedHeap (h'.push (seqObj "list" (as.map Value.ref).toArray 0)) h'.objs.size (as.map Value.ref) (as'.map Value.ref).toArray).get? b=some o:=fun b o q=>by
   have hlt2:=Heap.lt_size q
   rw [sortedHeap_old (Nat.ne_of_lt hlt2) (by rw [Heap.size_push];exact Nat.lt_succ_of_lt hlt2)]
   exact up _ _ q
  refine wpAny_pure ⟨_,rfl,fin _ tk h'.objs.size as' (as'.map fun a=>as.idxOf a) e ?_ ?_ (by simp) (pa.nodup_iff.mpr and_) (fun a ha=>?_) (fun j a i h1 h2=>?_) he hlt fun b o q=>old b o (hkp b o q)⟩
  ·have:=pa.map (fun a=>as.idxOf a)
   refine this.trans ?_
   have e:as.map (fun a=>as.idxOf a)=List.range ns.length:=by
    apply List.ext_getElem
    ·simp [hal']
    ·intro i h1 h2
     rw [List.getElem_map,List.getElem_range]
     exact and_.idxOf_getElem i (by simpa using h1)
   rw [e]
  ·rw [List.map_map,List.pairwise_map]
   exact srt'
  ·have ha':=pa.mem_iff.mp ha
   exact ⟨Nat.le_of_lt (g.above a ha'),g.there ha'⟩
  ·rw [List.getElem?_map,h1] at h2
   cases h2
   obtain ⟨k,x,t,e1,e2,e3,e4⟩:=key_ a (pa.mem_iff.mp (List.mem_of_getElem? h1))
   exact ⟨k,x,t,e3,old _ _ e4⟩
end
noncomputable def Oa (to:TE):TE:=fun σ H Q=>to σ H fun v H1=>match v with
 | .ref d=>∃ ps:List (Int × V),H1 d=some (.dK (ps.map fun q=>(Sum.inl q.1,q.2)))/\ps.length < 64/\∀ (l:Addr) (H2:Hp) (as:List Addr) (rs:List (Int × V)),rs.Perm ps->(rs.map (·.1)).Pairwise (· < ·) ->
  H1 l=none->Same H1 H2->H2 l=some (.lst (as.map V.ref))->as.length=rs.length->(∀ (i:Nat) a q,as[i]? = some a->rs[i]? = some q->H2 a=some (.tup [.int q.1,q.2]))->Q (.ref l) H2
 | _=>False
section
variable {X:Cx}
theorem NI {oe:Expr} {to:TE} {p pos apos cpos:Pos} (hc:X.calm=true) (hg:Gl X "sorted") (hm:X.mg "sorted" = none) (ho:PE X oe to) (hbase:attributeBase oe "items" X.env (eval oe X.env)=eval oe X.env:=by rfl) (hline:(apos.endLine == cpos.line)=true:=by rfl)
 (hs:starEach [.Call (.Attribute oe "items" apos) [] [] cpos] X.env=[(false,eval (.Call (.Attribute oe "items" apos) [] [] cpos) X.env)]:=by rfl) :
 PE X (.Call (.Name "sorted" p) [.Call (.Attribute oe "items" apos) [] [] cpos] [] pos) (Oa to):=by
 intro pins s σ H Q I h
 refine Call_ (Cp I hg hm (by rfl:bootBuiltins "sorted" = some (.builtin "sorted")) (PyProof.Rows.callWith_builtin1 ?_ (by rw [hs];rfl) (by rfl)))
 rw [hs]
 show wpAny _ _ (spliced ((false,eval (.Call (.Attribute oe "items" apos) [] [] cpos) X.env)::[])) _ _ s
 refine Calls.spliced_cons ?_
 refine wpAny_Call_method0_late hbase hline (thn (ho pins s σ H _ I h) fun v s1 ⟨x,H1,I1,r1,q1⟩=>?_)
 match x,q1,r1 with
 | .ref d,⟨ps,hd,h64,q⟩,r1 =>
 cases r1
 obtain ⟨hl,hsm,vs,rv,dd⟩:=Ea I1.hok hd
 obtain ⟨o,es,ep,e1,e2,e3,_⟩:=id dd
 refine ⟨"dict","dict.items",PySem.F.plainAttrs_dict,PySem.F.slot_dict_items,PySem.F.type_dict_items,dd.typeIs,fun a ea=>?_,Calls.callWith_builtin rfl (PySem.evalArgs_none ?_)⟩
 ·cases ea;exact ⟨o,e1,e2.2.1⟩
 refine call_meetsIn PySem.F.slot_dict_items dd.typeIs PySem.F.entry_dict_items (PySem.F.args_dict_items_1 _) (meets_dict_items (Ag X.prog X.w) d hsm) ⟨⟨vs,dd⟩,?_⟩
 refine Calls.spliced_nil ?_
 have keep0:∀ b u,s1.heap.get? b=some u->(s1.heap.push { cls:=.type "dict_items",data:=.fields #[.ref d] }).get? b=some u:=fun b u e=>Heap.get?_push_of_some _ e
 have hv:(s1.heap.push { cls:=.type "dict_items",data:=.fields #[.ref d] }).IsItemsView s1.heap.objs.size d:=⟨_,Heap.get?_push_size _ rfl,rfl,rfl⟩
 have hsz0:(s1.heap.push { cls:=.type "dict_items",data:=.fields #[.ref d] }).objs.size=s1.heap.objs.size+1:=Heap.size_push ..
 obtain ⟨da,_⟩:=EW e1 e3 dd
 have da:=da.push { cls:=.type "dict_items",data:=.fields #[.ref d] }
 have rl:=rv.len
 rw [List.length_map] at rl
 have nd:(vs.map (·.1)).Nodup:=by
  obtain ⟨_,_,_,_,_,_,_,_,z⟩:=id dd
  exact z
 have hkeys:vs.map (·.1)=(ps.map (·.1)).map Sum.inl:=by
  apply List.ext_getElem?
  intro i
  rcases Nat.lt_or_ge i ps.length with hi | hi
  ·have e0:(ps.map fun q=>((Sum.inl q.1:Key),q.2))[i]? = some (Sum.inl ps[i].1,ps[i].2):=by simp [hi]
   obtain ⟨v,e4,_⟩:=rv.get e0
   rw [List.getElem?_map,e4]
   simp [hi]
  ·rw [List.getElem?_eq_none (by rw [List.length_map];lia),List.getElem?_eq_none (by rw [List.length_map,List.length_map];lia)]
 have nd':(ps.map (·.1)).Nodup:=by
  rw [hkeys] at nd
  exact List.Pairwise.imp (fun h e=>h (by rw [e])) (List.pairwise_map.mp nd)
 refine OK (s:={ s1 with heap:=s1.heap.push { cls:=.type "dict_items",data:=.fields #[.ref d] } }) (ns:=ps.map (·.1)) (I.ok.hd hc) hv da hkeys nd' (by rw [List.length_map];exact h64) fun h' tk L as is e a1 a2 a3 a4 a5 a6 a7 a8 a9=>?_
 rw [List.length_map] at a1
 have keep:∀ b u,s1.heap.get? b=some u->h'.get? b=some u:=fun b u e=>a9 b u (keep0 b u e)
 have hfree:∀ b,s1.heap.objs.size<=b->H1 b=none:=fun b hb=>I1.hok.fresh hb
 have hLs:s1.heap.objs.size<=L:=Nat.le_of_lt a8
 have has:∀ a∈as,s1.heap.objs.size<=a/\a < L:=fun a ha=>⟨Nat.le_trans (by show _<=(s1.heap.push _).objs.size;rw [hsz0];exact Nat.le_succ _) (a5 a ha).1,(a5 a ha).2⟩
 have hilt:∀ i∈is,i < ps.length:=fun i hi=>List.mem_range.mp (a1.mem_iff.mp hi)
 have hrs:∃ rs:List (Int × V),rs=is.map (fun i=>ps.getD i (0,.int 0)):=⟨_,rfl⟩
 obtain ⟨rs,ers⟩:=hrs
 have rsl:as.length=rs.length:=by rw [ers,List.length_map];exact a3
 have rsp:rs.Perm ps:=by
  rw [ers]
  refine (a1.map _).trans ?_
  have e:(List.range ps.length).map (fun i=>ps.getD i (0,.int 0))=ps:=by
   apply List.ext_getElem
   ·simp
   ·intro i h1 h2
    simp [h2]
  rw [e]
 have rsk:rs.map (·.1)=is.map fun i=>(ps.map (·.1)).getD i 0:=by
  rw [ers,List.map_map]
  refine List.map_congr_left fun i hi=>?_
  have:=hilt i hi
  simp [this]
 have rss:(rs.map (·.1)).Pairwise (· < ·):=by
  have h1:(rs.map (·.1)).Pairwise (· <= ·):=by rw [rsk];exact a2
  have h2:(rs.map (·.1)).Nodup:=(rsp.map (·.1)).nodup_iff.mpr nd'
  exact List.Pairwise.imp₂ (fun h g=>by lia) h1 h2
 have a6':∀ (j:Nat) a q,as[j]? = some a->rs[j]? = some q->∃ x t,RelV q.2 x/\h'.get? a=some { cls:=.type "tuple",data:=.seq #[.int q.1 t,x] }:=fun j a q h1 h2=>by
  rw [ers,List.getElem?_map] at h2
  obtain ⟨i,e1,e2⟩:=Option.map_eq_some_iff.mp h2
  obtain ⟨k,x,t,e3,e4⟩:=a6 j a i h1 e1
  have hi:=hilt i (List.mem_of_getElem? e1)
  have e0:(ps.map fun q=>((Sum.inl q.1:Key),q.2))[i]? = some (Sum.inl ps[i].1,ps[i].2):=by simp [hi]
  obtain ⟨v,e5,e6⟩:=rv.get e0
  rw [e3] at e5
  cases e5
  have:q=ps[i]:=by rw [<- e2];simp [hi]
  subst this
  exact ⟨x,t,e6,e4⟩
 let H2:Hp:=fun b=>if b=L then some (.lst (as.map V.ref)) else if b∈as then (rs[as.idxOf b]?).map fun q=>HO.tup [.int q.1,q.2] else H1 b
 have hL:H2 L=some (.lst (as.map V.ref)):=if_pos rfl
 have sm:∀ b o,H1 b=some o->H2 b=some o:=fun b o e=>by
  have hb:b < s1.heap.objs.size:=by
   rcases Nat.lt_or_ge b s1.heap.objs.size with z | z
   ·exact z
   ·rw [hfree b z] at e;cases e
  show (if b=L then _ else if b∈as then _ else H1 b)=_
  rw [if_neg (Nat.ne_of_lt (Nat.lt_of_lt_of_le hb hLs)),if_neg (fun z=>absurd (has b z).1 (Nat.not_le.mpr hb))]
  exact e
 have hT:∀ (i:Nat) a q,as[i]? = some a->rs[i]? = some q->H2 a=some (.tup [.int q.1,q.2]):=fun i a q h1 h2=>by
  have hm:=List.mem_of_getElem? h1
  have hi:=(List.getElem?_eq_some_iff.mp h1).1
  have ei:as.idxOf a=i:=by
   have:=(List.getElem?_eq_some_iff.mp h1).2
   rw [<- this]
   exact a4.idxOf_getElem i hi
  show (if a=L then _ else if a∈as then (rs[as.idxOf a]?).map (fun q=>HO.tup [.int q.1,q.2]) else H1 a)=_
  rw [if_neg (Nat.ne_of_lt (has a hm).2),if_pos hm,ei,h2]
  rfl
 refine ⟨.ref L,H2,I1.many keep sm fun b o hb n=>?_,rfl,q L H2 as rs rsp rss (hfree L hLs) (fun b o e=>sm b o e) hL rsl hT⟩
 have hb':(if b=L then some (HO.lst (as.map V.ref)) else if b∈as then (rs[as.idxOf b]?).map (fun q=>HO.tup [.int q.1,q.2]) else H1 b)=some o:=hb
 by_cases c1:b=L
 ·rw [if_pos c1] at hb'
  cases hb'
  subst c1
  exact ⟨hLs,by rw [List.length_map,rsl,rsp.length_eq];exact Nat.le_trans (Nat.le_of_lt h64) (by decide),as.map Value.ref,e,Ew as,a7⟩
 ·rw [if_neg c1] at hb'
  by_cases c2:b∈as
  ·rw [if_pos c2] at hb'
   obtain ⟨q',e4,rfl⟩:=Option.map_eq_some_iff.mp hb'
   have e5:as[as.idxOf b]? = some b:=by
    rw [List.getElem?_eq_getElem (List.idxOf_lt_length_of_mem c2)]
    simp
   obtain ⟨x,t,z1,z2⟩:=a6' _ _ _ e5 e4
   exact ⟨(has b c2).1,AX (show 2<=1000 by decide),[.int q'.1 t,x],.cons ⟨t,rfl⟩ (.cons z1 .nil),⟨_,z2,rfl,⟨_,rfl⟩,rfl⟩⟩
  ·rw [if_neg c2,n] at hb'
   cases hb'
end
noncomputable def G8:List V->Hp->VK->Prop:=fun xs H Q=>match xs with
 | [.ref l]=>∃ qs:List (Int × Addr × V),H l=some (.lst ((qs.map fun q=>q.2.1).map V.ref))/\(∀ q∈qs,H q.2.1=some (.tup [.int q.1,q.2.2]))/\(qs.map fun q=>q.1).Nodup/\qs.length<=64/\(qs.length < 64\/((qs.map fun q=>q.1).take 63).Pairwise (· < ·)) /\
  ∀ (rs:List (Int × Addr × V)) p,rs.Perm qs->(rs.map fun q=>q.1).Pairwise (· < ·)->H p=none->Q (.ref p) (upd H p (.lst ((rs.map fun q=>q.2.1).map V.ref)))
 | _=>False
section
variable {X:Cx}
theorem O1:CallR X (.builtin "sorted") G8:=by
 intro pins s σ H xs us Q I r h
 match xs,h with
 | [.ref l],h =>
 obtain ⟨qs,hl,ht,nd,h64,hasc,q⟩:=h
 obtain ⟨u,rfl,ru⟩:=Bt r
 cases ru
 obtain ⟨its,rv,pl,hz⟩:=I.list (.of hl)
 have ei:=HZ rv
 have and_:(qs.map fun q=>q.2.1).Nodup:=by
  refine List.pairwise_map.mpr (List.Pairwise.imp_of_mem (fun {x y} hx hy hne e=>hne ?_) (List.pairwise_map.mp nd))
  have h1:=ht x hx
  rw [e,ht y hy] at h1
  injection h1 with h1
  injection h1 with h1
  injection h1 with h1 _
  injection h1 with h1
  exact h1.symm
 have hp_:∀ q∈qs,PairV s.heap (.ref q.2.1) q.1:=fun q hq=>by
  obtain ⟨its2,rv2,o,e1,e2,⟨n,e3⟩,_⟩:=(show ∃ its2:List Value,Vals [.int q.1,q.2.2] its2/\IsTupN s.heap q.2.1 its2.toArray from by
   obtain ⟨its2,z1,z2,_⟩:=I.tupleN (.of (ht q hq))
   exact ⟨its2,z1,z2⟩)
  cases rv2 with
  | cons r1 t1 =>
   cases t1 with
   | cons r2 t2 =>
    cases t2
    obtain ⟨t,rfl⟩:=r1
    exact ⟨_,t,_,o,n,rfl,e1,e2,e3⟩
 subst ei
 have vl:((qs.map fun q=>q.2.1).map Value.ref).length=qs.length:=by rw [List.length_map,List.length_map]
 have hz':((qs.map fun q=>q.2.1).map Value.ref).length<=sizeLine:=by rw [vl];exact Nat.le_trans h64 (by decide)
 refine Calls.call_function_entry kind_sorted plain_sorted entry_sorted (args_sorted1 _) ?_
 unfold Builtin.«sorted»
 refine wpAny_bind (m:=checkCount "sorted" 1 1 _) (wpAny_pure (wpAny_bind (collect_list pl.isList ?_ hz')))
 refine wpAny_bind (wpAny_newList ?_ hz')
 generalize hvs:(qs.map fun q=>q.2.1).map Value.ref=vs at *
 have hsz:((s.heap.push (seqObj "list" #[] 0)).update s.heap.objs.size (Obj.mapSeq (· ++ vs.toArray))).objs.size=s.heap.objs.size+1:=by
  rw [Heap.size_update,size_push']
 have hoL:(((s.heap.push (seqObj "list" #[] 0)).update s.heap.objs.size (Obj.mapSeq (· ++ vs.toArray))).push (seqObj "list" vs.toArray 0)).get? (s.heap.objs.size+1)=some (seqObj "list" vs.toArray 0):=by
  rw [<- hsz];exact Heap.get?_push_size _ rfl
 have kp:∀ b o,s.heap.get? b=some o->(((s.heap.push (seqObj "list" #[] 0)).update s.heap.objs.size (Obj.mapSeq (· ++ vs.toArray))).push (seqObj "list" vs.toArray 0)).get? b=some o:=fun b o e=>by
  refine Heap.get?_push_of_some _ ?_
  rw [Heap.get?_update_ne _ _ _ _ (Nat.ne_of_lt (Heap.lt_size e))]
  exact Heap.get?_push_of_some _ e
 show wpAny _ _ _ _ _ { s with heap:=((s.heap.push (seqObj "list" #[] 0)).update s.heap.objs.size (Obj.mapSeq (· ++ vs.toArray))).push (seqObj "list" vs.toArray 0) }
 rw [hsz]
 have ix:∀ a∈qs.map fun q=>q.2.1,(qs.map fun q=>q.2.1)[(qs.map fun q=>q.2.1).idxOf a]? = some a:=fun a ha=>by
  rw [List.getElem?_eq_getElem (List.idxOf_lt_length_of_mem ha)]
  simp
 have at_:∀ a∈qs.map fun q=>q.2.1,∃ q∈qs,qs[(qs.map fun q=>q.2.1).idxOf a]? = some q/\q.2.1=a:=fun a ha=>by
  have h1:=ix a ha
  rw [List.getElem?_map] at h1
  obtain ⟨q,e1,e2⟩:=Option.map_eq_some_iff.mp h1
  exact ⟨q,List.mem_of_getElem? e1,e1,e2⟩
 have kq:∀ q∈qs,(qs.getD ((qs.map fun q=>q.2.1).idxOf q.2.1) (0,0,.int 0))=q:=fun q hq=>by
  obtain ⟨q',h1,e1,e2⟩:=at_ q.2.1 (List.mem_map_of_mem (f:=fun q:Int × Addr × V=>q.2.1) hq)
  rw [List.getD_eq_getElem?_getD,e1]
  show q'=q
  have g1:=ht q' h1
  rw [e2,ht q hq] at g1
  injection g1 with g1
  injection g1 with g1
  injection g1 with g1 g2
  injection g1 with g1
  injection g2 with g2 _
  exact Prod.ext g1.symm (Prod.ext e2 g2.symm)
 refine wpAny_bind (wpAny_holding (wpAny_call_entry slot_list_sort ⟨_,hoL,rfl⟩ entry_list_sort (Iy (κv:=fun v=>(qs.getD ((qs.map fun q=>q.2.1).idxOf (Bh v)) (0,0,.int 0)).1) hoL (fun v hv=>?_) (fun v hv v' hv' e=>?_) (by rw [vl];exact h64) ?hz fun out pm srt=>⟨_,rfl,?_⟩) (args_list_sort _)))
 case hz =>
  rw [vl]
  rcases hasc with z | z
  ·exact .inl z
  ·refine .inr (List.pairwise_iff_getElem.mpr fun i j hi hj hij=>?_)
   rw [List.length_take,vl] at hi hj
   have hi':i < qs.length:=by lia
   have hj':j < qs.length:=by lia
   have e:∀ k,(hk:k < vs.length)->(hk2:k < qs.length)->vs[k]=.ref qs[k].2.1:=fun k hk hk2=>by simp only [<- hvs];simp
   rw [List.getElem_take,List.getElem_take,e i (by lia) hi',e j (by lia) hj']
   show (qs.getD ((qs.map fun q=>q.2.1).idxOf qs[i].2.1) (0,0,.int 0)).1 < (qs.getD ((qs.map fun q=>q.2.1).idxOf qs[j].2.1) (0,0,.int 0)).1
   rw [kq _ (List.getElem_mem hi'),kq _ (List.getElem_mem hj')]
   have:=List.pairwise_iff_getElem.mp z i j (by rw [List.length_take,List.length_map];lia) (by rw [List.length_take,List.length_map];lia) hij
   simpa using this
 ·rw [<- hvs,List.map_map] at hv
  obtain ⟨q,hq,rfl⟩:=List.mem_map.mp hv
  show PairV _ (.ref q.2.1) (qs.getD ((qs.map fun q=>q.2.1).idxOf q.2.1) (0,0,.int 0)).1
  rw [kq q hq]
  exact (hp_ q hq).keep fun b o _ e=>kp b o e
 ·rw [<- hvs,List.map_map] at hv hv'
  obtain ⟨q,hq,rfl⟩:=List.mem_map.mp hv
  obtain ⟨q',hq',rfl⟩:=List.mem_map.mp hv'
  have e:(qs.getD ((qs.map fun q=>q.2.1).idxOf q.2.1) (0,0,.int 0)).1=(qs.getD ((qs.map fun q=>q.2.1).idxOf q'.2.1) (0,0,.int 0)).1:=e
  rw [kq q hq,kq q' hq'] at e
  obtain ⟨i,hi,rfl⟩:=List.getElem_of_mem hq
  obtain ⟨j,hj,rfl⟩:=List.getElem_of_mem hq'
  have:i=j:=(List.getElem?_inj (l:=qs.map fun q=>q.1) (by simpa using hi) nd).mp (by simp [hi,hj,e])
  subst this
  rfl
 ·obtain ⟨rs,ers⟩:∃ rs,rs=out.map fun v=>qs.getD ((qs.map fun q=>q.2.1).idxOf (Bh v)) (0,0,.int 0):=⟨_,rfl⟩
  have mo:∀ v∈out,∃ q∈qs,v=.ref q.2.1:=fun v hv=>by
   have:=pm.mem_iff.mp hv
   rw [<- hvs,List.map_map] at this
   obtain ⟨q,hq,e⟩:=List.mem_map.mp this
   exact ⟨q,hq,e.symm⟩
  have pr:rs.Perm qs:=by
   rw [ers]
   refine (pm.map _).trans ?_
   rw [<- hvs,List.map_map,List.map_map]
   have e:qs.map id=qs:=List.map_id _
   have e2:qs.map ((fun v=>qs.getD ((qs.map fun q=>q.2.1).idxOf (Bh v)) (0,0,.int 0)) ∘ Value.ref ∘ fun q=>q.2.1)=qs.map id:=List.map_congr_left fun q hq=>kq q hq
   simp only [Function.comp_def] at e2 ⊢
   rw [e2,e]
  have eo:out=(rs.map fun q=>q.2.1).map Value.ref:=by
   rw [ers,List.map_map,List.map_map]
   have e:out.map id=out:=List.map_id _
   conv=>lhs;rw [<- e]
   refine List.map_congr_left fun v hv=>?_
   obtain ⟨q,hq,rfl⟩:=mo v hv
   show Value.ref q.2.1=Value.ref (qs.getD ((qs.map fun q=>q.2.1).idxOf q.2.1) (0,0,.int 0)).2.1
   rw [kq q hq]
  have rss:(rs.map fun q=>q.1).Pairwise (· < ·):=by
   have h1:(rs.map fun q=>q.1).Pairwise (· <= ·):=by
    rw [ers,List.map_map,List.pairwise_map]
    exact srt
   have h2:(rs.map fun q=>q.1).Nodup:=(pr.map fun q=>q.1).nodup_iff.mpr nd
   exact List.Pairwise.imp₂ (fun _ _ h g=>Int.lt_iff_le_and_ne.mpr ⟨h,g⟩) h1 h2
  subst eo
  obtain ⟨e,he⟩:=sortedHeap_at (out:=((rs.map fun q=>q.2.1).map Value.ref).toArray) hoL
  have hp:s.heap.objs.size<=s.heap.objs.size+1:=Nat.le_succ _
  refine wpAny_pure ⟨_,rfl,.ref (s.heap.objs.size+1),_,I.laid (t':=s.toks) (o:=.lst ((rs.map fun q=>q.2.1).map V.ref)) (fun b o e=>?_) hp ?_,rfl,q rs _ pr rss (I.hok.fresh hp)⟩
  ·have hb:=kp b o e
   have hlt:=Heap.lt_size e
   rw [sortedHeap_old (Nat.ne_of_lt (Nat.lt_succ_of_lt hlt)) (by rw [Heap.size_push,hsz];exact Nat.lt_succ_of_lt (Nat.lt_succ_of_lt hlt))]
   exact hb
  ·exact ⟨by rw [List.length_map,List.length_map,pr.length_eq];exact Nat.le_trans h64 (by decide),_,e,Ew _,he⟩
theorem Km:CallR X (.builtin "sorted") G8:=O1
end
end L2
namespace L2
open PySem PySem.Spec PyProof.Rows
section
variable {X:Cx} {K:W.Frag}
end
section
variable {X:Cx} {K:W.Frag} {o e:Expr} {apos cpos:Pos} {to:TE} {t:TA}
end
end L2
namespace Mine
open PySem L2
noncomputable def top (i:Nat):Stmt:=PySem.Challenge.pw_flips_k10_what_sums_come_to.main.body.getD i (.Pass ⟨0,0,0,0⟩)
noncomputable abbrev Cn:Stmt:=top 10
noncomputable abbrev C5:Stmt:=top 11
noncomputable abbrev DR:Stmt:=top 13
noncomputable abbrev DE:Stmt:=top 14
noncomputable abbrev C6:Stmt:=top 16
noncomputable abbrev DD:Stmt:=top 17
noncomputable abbrev Db:Stmt:=top 19
noncomputable abbrev DZ:Stmt:=top 20
noncomputable abbrev Df:Stmt:=top 21
noncomputable abbrev DG:Stmt:=top 22
noncomputable abbrev Dd:Stmt:=top 23
noncomputable abbrev Cy:Stmt:=top 24
noncomputable abbrev DM:Stmt:=top 26
noncomputable abbrev DU:Stmt:=top 27
noncomputable abbrev C8:Stmt:=top 28
noncomputable abbrev Cz:Stmt:=top 29
noncomputable abbrev C0:Stmt:=top 30
noncomputable abbrev DB:Stmt:=top 31
noncomputable abbrev C4:Stmt:=top 32
noncomputable abbrev C1:Stmt:=top 33
noncomputable abbrev DC:Stmt:=top 34
noncomputable abbrev DH:Stmt:=top 35
noncomputable abbrev DS:Stmt:=top 36
noncomputable abbrev C9:Stmt:=top 37
noncomputable abbrev Cv:Stmt:=top 38
noncomputable abbrev Ct:Stmt:=top 39
noncomputable abbrev Bq:Stmt:=top 40
theorem Ny:FnScope ["n"] ["n"] (AG Cn):=by (exact ⟨rfl,rfl,rfl,by decide +kernel,rfl,by decide +kernel,by decide +kernel⟩)
theorem sc_z26:FnScope ["base","times","power","step"] ["base","times"] (AG C5):=by (exact ⟨rfl,rfl,rfl,by decide +kernel,rfl,by decide +kernel,by decide +kernel⟩)
theorem KN:FnScope ["subset","place"] ["subset","place"] (AG DR):=by (exact ⟨rfl,rfl,rfl,by decide +kernel,rfl,by decide +kernel,by decide +kernel⟩)
theorem sc_z32:FnScope ["subset","many","rest"] ["subset"] (AG DE):=by (exact ⟨rfl,rfl,rfl,by decide +kernel,rfl,by decide +kernel,by decide +kernel⟩)
theorem sc_z29:FnScope ["top","bottom","divisor"] ["top","bottom"] (AG C6):=by (exact ⟨rfl,rfl,rfl,by decide +kernel,rfl,by decide +kernel,by decide +kernel⟩)
theorem sc_z10:FnScope ["one","other","greater","less","rest"] ["one","other"] (AG DD):=by (exact ⟨rfl,rfl,rfl,by decide +kernel,rfl,by decide +kernel,by decide +kernel⟩)
theorem sc_z28:FnScope ["one","place","top"] ["one","place"] (AG Db):=by (exact ⟨rfl,rfl,rfl,by decide +kernel,rfl,by decide +kernel,by decide +kernel⟩)
theorem sc_z34:FnScope ["one","tops","bottom"] ["one"] (AG DZ):=by (exact ⟨rfl,rfl,rfl,by decide +kernel,rfl,by decide +kernel,by decide +kernel⟩)
theorem N2:FnScope ["one"] ["one"] (AG Df):=by (exact ⟨rfl,rfl,rfl,by decide +kernel,rfl,by decide +kernel,by decide +kernel⟩)
theorem sc_z15:FnScope ["one","weights","subset","weight"] ["one"] (AG DG):=by (exact ⟨rfl,rfl,rfl,by decide +kernel,rfl,by decide +kernel,by decide +kernel⟩)
theorem sc_z11:FnScope ["numbers","sums","step"] ["numbers"] (AG Dd):=by (exact ⟨rfl,rfl,rfl,by decide +kernel,rfl,by decide +kernel,by decide +kernel⟩)
theorem PP:FnScope ["numbers","step","place"] ["numbers","step","place"] (AG Cy):=by (exact ⟨rfl,rfl,rfl,by decide +kernel,rfl,by decide +kernel,by decide +kernel⟩)
theorem KZ:FnScope ["_law_script"] ["_law_script"] (AG DM):=by (exact ⟨rfl,rfl,rfl,by decide +kernel,rfl,by decide +kernel,by decide +kernel⟩)
theorem sc_z21:FnScope ["_law_tape_here","_law_many","_law_script","_law_digit","_law_cell","_law_seed"] ["_law_tape_here","_law_many"] (AG DU):=by (exact ⟨rfl,rfl,rfl,by decide +kernel,rfl,by decide +kernel,by decide +kernel⟩)
theorem MT:FnScope ["_law_k"] ["_law_k"] (AG C8):=by (exact ⟨rfl,rfl,rfl,by decide +kernel,rfl,by decide +kernel,by decide +kernel⟩)
theorem KB:FnScope ["_law_n","_law_number"] ["_law_n","_law_number"] (AG Cz):=by (exact ⟨rfl,rfl,rfl,by decide +kernel,rfl,by decide +kernel,by decide +kernel⟩)
theorem sc_z19:FnScope ["_law_n","_law_one","_law_place","_law_shared"] ["_law_n","_law_one","_law_place"] (AG C0):=by (exact ⟨rfl,rfl,rfl,by decide +kernel,rfl,by decide +kernel,by decide +kernel⟩)
theorem sc_z14:FnScope ["_law_tape_here","_law_n","_law_many","_law_way","_law_some","_law_first","_law_answers","_law_seen","_law_place","_law_key","_law_turn"] ["_law_tape_here","_law_n"] (AG DB):=by (exact ⟨rfl,rfl,rfl,by decide +kernel,rfl,by decide +kernel,by decide +kernel⟩)
theorem sc_z27:FnScope ["_law_table_here","_law_n","_law_terms","_law_one","_law_weight","_law_place"] ["_law_table_here"] (AG C4):=by (exact ⟨rfl,rfl,rfl,by decide +kernel,rfl,by decide +kernel,by decide +kernel⟩)
theorem sc_z17:FnScope ["_law_tape_here","_law_n","_law_weights","_law_turn","_law_some"] ["_law_tape_here","_law_n"] (AG C1):=by (exact ⟨rfl,rfl,rfl,by decide +kernel,rfl,by decide +kernel,by decide +kernel⟩)
theorem Gj:FnScope ["_law_found","_law_due"] ["_law_found","_law_due"] (AG DC):=by (exact ⟨rfl,rfl,rfl,by decide +kernel,rfl,by decide +kernel,by decide +kernel⟩)
theorem sc_z23:FnScope ["_law_tape_here","_law_whole","_law_weights","_law_one","_law_way"] ["_law_tape_here","_law_whole"] (AG DH):=by (exact ⟨rfl,rfl,rfl,by decide +kernel,rfl,by decide +kernel,by decide +kernel⟩)
theorem sc_z13:FnScope ["_law_top","_law_bottom","_law_one","_law_other","_law_rest"] ["_law_top","_law_bottom"] (AG DS):=by (exact ⟨rfl,rfl,rfl,by decide +kernel,rfl,by decide +kernel,by decide +kernel⟩)
theorem sc_z20:FnScope ["_law_whole","_law_caught","_law_found","e"] ["_law_whole"] (AG C9):=by (exact ⟨rfl,rfl,rfl,by decide +kernel,rfl,by decide +kernel,by decide +kernel⟩)
theorem sc_z12:FnScope ["_law_whole","_law_n","_law_terms","_law_tops","_law_place","_law_found","_law_due"] ["_law_whole"] (AG Cv):=by (exact ⟨rfl,rfl,rfl,by decide +kernel,rfl,by decide +kernel,by decide +kernel⟩)
theorem sc_z22:FnScope ["_law_tape_here","_law_turn","_law_some"] ["_law_tape_here","_law_turn"] (AG Ct):=by (exact ⟨rfl,rfl,rfl,by decide +kernel,rfl,by decide +kernel,by decide +kernel⟩)
theorem sc_law:FnScope ["_law_script","_law_tape_here","_law_turn","_law_n","_law_whole","_law_one"] ["_law_script"] (AG Bq):=by (exact ⟨rfl,rfl,rfl,by decide +kernel,rfl,by decide +kernel,by decide +kernel⟩)
set_option genInjectivity false
set_option genSizeOf false
structure Txt (K:W.Frag) (mg:Str->Option Value) where
 C_Alike:Addr
 mC_Alike:mg "Alike" = some (.ref C_Alike)
 C_FlipError:Addr
 mC_FlipError:mg "FlipError" = some (.ref C_FlipError)
 C_NoEnd:Addr
 mC_NoEnd:mg "NoEnd" = some (.ref C_NoEnd)
 C_NoName:Addr
 mC_NoName:mg "NoName" = some (.ref C_NoName)
 C_NoRow:Addr
 mC_NoRow:mg "NoRow" = some (.ref C_NoRow)
 C_NoTable:Addr
 mC_NoTable:mg "NoTable" = some (.ref C_NoTable)
 C_NoText:Addr
 mC_NoText:mg "NoText" = some (.ref C_NoText)
 C_NoThing:Addr
 mC_NoThing:mg "NoThing" = some (.ref C_NoThing)
 xi_NoTable:W.excIn K C_NoTable Fp "ValueError.__new__" = true
 xc_NoTable:ExcC K C_NoTable
 xm_NoTable_FlipError:W.exmOne K (.ref C_NoTable) (.ref C_FlipError)=some true
 kk_NoTable_Alike:W.kitOne K (.ref C_NoTable) (.ref C_Alike)=some false
 kk_NoTable_NoEnd:W.kitOne K (.ref C_NoTable) (.ref C_NoEnd)=some false
 kk_NoTable_NoName:W.kitOne K (.ref C_NoTable) (.ref C_NoName)=some false
 kk_NoTable_NoRow:W.kitOne K (.ref C_NoTable) (.ref C_NoRow)=some false
 kk_NoTable_NoTable:W.kitOne K (.ref C_NoTable) (.ref C_NoTable)=some true
 kk_NoTable_NoText:W.kitOne K (.ref C_NoTable) (.ref C_NoText)=some false
 kk_NoTable_NoThing:W.kitOne K (.ref C_NoTable) (.ref C_NoThing)=some false
 kk_NoTable_ValueError:W.kitOne K (.ref C_NoTable) (.type "ValueError")=some true
 f_z33:Addr
 d_z33:FuncData
 F_z33:Fun K "two_to" "two_to" Cn f_z33 d_z33
 b_z33:Binds K d_z33 ["n"] []
 m_z33:mg "two_to" = some (.ref f_z33)
 f_z26:Addr
 d_z26:FuncData
 F_z26:Fun K "power_of" "power_of" C5 f_z26 d_z26
 b_z26:Binds K d_z26 ["base","times"] []
 m_z26:mg "power_of" = some (.ref f_z26)
 f_z35:Addr
 d_z35:FuncData
 F_z35:Fun K "sign" "sign" DR f_z35 d_z35
 b_z35:Binds K d_z35 ["subset","place"] []
 m_z35:mg "sign" = some (.ref f_z35)
 f_z32:Addr
 d_z32:FuncData
 F_z32:Fun K "many_in" "many_in" DE f_z32 d_z32
 b_z32:Binds K d_z32 ["subset"] []
 m_z32:mg "many_in" = some (.ref f_z32)
 f_z29:Addr
 d_z29:FuncData
 F_z29:Fun K "share_of" "share_of" C6 f_z29 d_z29
 b_z29:Binds K d_z29 ["top","bottom"] []
 m_z29:mg "share_of" = some (.ref f_z29)
 f_z10:Addr
 d_z10:FuncData
 F_z10:Fun K "common_divisor" "common_divisor" DD f_z10 d_z10
 b_z10:Binds K d_z10 ["one","other"] []
 m_z10:mg "common_divisor" = some (.ref f_z10)
 f_z28:Addr
 d_z28:FuncData
 F_z28:Fun K "comes_to" "comes_to" Db f_z28 d_z28
 b_z28:Binds K d_z28 ["one","place"] []
 m_z28:mg "comes_to" = some (.ref f_z28)
 f_z34:Addr
 d_z34:FuncData
 F_z34:Fun K "told" "told" DZ f_z34 d_z34
 b_z34:Binds K d_z34 ["one"] []
 m_z34:mg "told" = some (.ref f_z34)
 f_z30:Addr
 d_z30:FuncData
 F_z30:Fun K "squares" "squares" Df f_z30 d_z30
 b_z30:Binds K d_z30 ["one"] []
 m_z30:mg "squares" = some (.ref f_z30)
 f_z15:Addr
 d_z15:FuncData
 F_z15:Fun K "weights_of" "weights_of" DG f_z15 d_z15
 b_z15:Binds K d_z15 ["one"] []
 m_z15:mg "weights_of" = some (.ref f_z15)
 f_z11:Addr
 d_z11:FuncData
 F_z11:Fun K "times_signs" "times_signs" Dd f_z11 d_z11
 b_z11:Binds K d_z11 ["numbers"] []
 m_z11:mg "times_signs" = some (.ref f_z11)
 f_z31:Addr
 d_z31:FuncData
 F_z31:Fun K "crossed" "crossed" Cy f_z31 d_z31
 b_z31:Binds K d_z31 ["numbers","step","place"] []
 m_z31:mg "crossed" = some (.ref f_z31)
 f_z16:Addr
 d_z16:FuncData
 F_z16:Fun K "_law_tape" "_law_tape" DM f_z16 d_z16
 b_z16:Binds K d_z16 ["_law_script"] []
 m_z16:mg "_law_tape" = some (.ref f_z16)
 f_z21:Addr
 d_z21:FuncData
 F_z21:Fun K "_law_next" "_law_next" DU f_z21 d_z21
 b_z21:Binds K d_z21 ["_law_tape_here","_law_many"] []
 m_z21:mg "_law_next" = some (.ref f_z21)
 f_z25:Addr
 d_z25:FuncData
 F_z25:Fun K "_law_two" "_law_two" C8 f_z25 d_z25
 b_z25:Binds K d_z25 ["_law_k"] []
 m_z25:mg "_law_two" = some (.ref f_z25)
 f_z24:Addr
 d_z24:FuncData
 F_z24:Fun K "_law_bits" "_law_bits" Cz f_z24 d_z24
 b_z24:Binds K d_z24 ["_law_n","_law_number"] []
 m_z24:mg "_law_bits" = some (.ref f_z24)
 f_z19:Addr
 d_z19:FuncData
 F_z19:Fun K "_law_sign" "_law_sign" C0 f_z19 d_z19
 b_z19:Binds K d_z19 ["_law_n","_law_one","_law_place"] []
 m_z19:mg "_law_sign" = some (.ref f_z19)
 f_z14:Addr
 d_z14:FuncData
 F_z14:Fun K "_law_table" "_law_table" DB f_z14 d_z14
 b_z14:Binds K d_z14 ["_law_tape_here","_law_n"] []
 m_z14:mg "_law_table" = some (.ref f_z14)
 f_z27:Addr
 d_z27:FuncData
 F_z27:Fun K "_law_sum" "_law_sum" C4 f_z27 d_z27
 b_z27:Binds K d_z27 ["_law_table_here"] []
 m_z27:mg "_law_sum" = some (.ref f_z27)
 f_z17:Addr
 d_z17:FuncData
 F_z17:Fun K "_law_wild" "_law_wild" C1 f_z17 d_z17
 b_z17:Binds K d_z17 ["_law_tape_here","_law_n"] []
 m_z17:mg "_law_wild" = some (.ref f_z17)
 f_z18:Addr
 d_z18:FuncData
 F_z18:Fun K "_law_same" "_law_same" DC f_z18 d_z18
 b_z18:Binds K d_z18 ["_law_found","_law_due"] []
 m_z18:mg "_law_same" = some (.ref f_z18)
 f_z23:Addr
 d_z23:FuncData
 F_z23:Fun K "_law_bent" "_law_bent" DH f_z23 d_z23
 b_z23:Binds K d_z23 ["_law_tape_here","_law_whole"] []
 m_z23:mg "_law_bent" = some (.ref f_z23)
 f_z13:Addr
 d_z13:FuncData
 F_z13:Fun K "_law_least" "_law_least" DS f_z13 d_z13
 b_z13:Binds K d_z13 ["_law_top","_law_bottom"] []
 m_z13:mg "_law_least" = some (.ref f_z13)
 f_z20:Addr
 d_z20:FuncData
 F_z20:Fun K "_law_told" "_law_told" C9 f_z20 d_z20
 b_z20:Binds K d_z20 ["_law_whole"] []
 m_z20:mg "_law_told" = some (.ref f_z20)
 f_z12:Addr
 d_z12:FuncData
 F_z12:Fun K "_law_right" "_law_right" Cv f_z12 d_z12
 b_z12:Binds K d_z12 ["_law_whole"] []
 m_z12:mg "_law_right" = some (.ref f_z12)
 f_z22:Addr
 d_z22:FuncData
 F_z22:Fun K "_law_size" "_law_size" Ct f_z22 d_z22
 b_z22:Binds K d_z22 ["_law_tape_here","_law_turn"] []
 m_z22:mg "_law_size" = some (.ref f_z22)
 f_law:Addr
 d_law:FuncData
 F_law:Fun K "law" "law" Bq f_law d_law
 b_law:Binds K d_law ["_law_script"] []
 m_law:mg "law" = some (.ref f_law)
 z_ValueError:mg "ValueError" = none
 z_abs:mg "abs" = none
 z_all:mg "all" = none
 z_bool:mg "bool" = none
 z_dict:mg "dict" = none
 z_int:mg "int" = none
 z_isinstance:mg "isinstance" = none
 z_len:mg "len" = none
 z_list:mg "list" = none
 z_max:mg "max" = none
 z_min:mg "min" = none
 z_range:mg "range" = none
 z_sorted:mg "sorted" = none
 z_str:mg "str" = none
 z_sum:mg "sum" = none
 z_tuple:mg "tuple" = none
 z_zip:mg "zip" = none
section
variable {P:Program} {w:World} {K:W.Frag} {mg:Str->Option Value} {base:Heap} (T:Txt K mg)
theorem pa1 {X:Cx} {e:PySem.Expr} {te:TE} (ha:PE X e te) (hs:starEach [e] X.env=[(false,eval e X.env)]):PA X [e] (FX te GO):=AA ha AB hs
noncomputable def GQ:Sp:=fun vs H Q _=>match vs with
 | [.int b,.int t]=>∃ m:Nat,t=m/\m<=64/\((-(2 ^ 64) < b/\b < 2 ^ 64)\/(Nb b 100/\m<=12))/\Q (.int (b ^ m)) H
 | _=>False
theorem OI:FnOk P w K mg base CX0 1 T.f_z26 T.d_z26 ["base","times"] GQ:=by
 refine T.F_z26.ok sc_z26 (fun vs H Q E h=>by unfold GQ at h;split at h <;> first | rfl | exact h.elim) (fun cdv A outer s H vs Q E hr h=>?_)
 have hu:=Af hr
 unfold GQ at h
 split at h
 rotate_left
 ·exact h.elim
 rename_i b t
 obtain ⟨m,e1,h1,b1,q⟩:=h
 subst e1
 refine ⟨_,(@AE _ _ _ _ _ (@AL _ _ 2 _ _ _ _ sc_z26.nd rfl (by (first | exact Or.inl rfl | exact Or.inr rfl)) AC (by rfl) (by (first | exact .inl rfl | exact .inr rfl | assumption))) (@AE _ _ _ _ _ (@Bj _ _ _ _ _ _ _ _ PassesOwn.never rfl (A3 rfl T.z_range (AA (vv 1) AB)) (AS (i:=3) sc_z26.nd rfl (by (first | exact Or.inl rfl | exact Or.inr rfl))) (@AF _ _ _ (@AL _ _ 2 _ _ _ _ sc_z26.nd rfl (by (first | exact Or.inl rfl | exact Or.inr rfl)) (AM BC (vv 2) (vv 0)) (by rfl) (by (first | exact .inl rfl | exact .inr rfl | assumption)))) (by intro _;rfl)) (@AF _ _ _ (@AT _ _ _ _ (vv 2))))),?_⟩
 refine ⟨m,rfl,by lia,by lia,?_⟩
 refine CO (fun i σ H'=>H'=H/\∃ z:Option V,σ=[some (.int b),some (.int m),some (.int (b ^ i)),z]) ⟨rfl,none,by rw [Int.pow_zero];rfl⟩ ?_ ?_
 ·rintro i σ H' hi ⟨rfl,z,rfl⟩
  have hi':i < m:=by lia
  have okm:okMul (b ^ i) b:=by
   rcases b1 with b1 | ⟨b1,b2⟩
   ·exact .inr (.inr b1)
   ·exact Nb.okMul ((b1.pow i).up (by lia)) (b1.up (by lia))
  refine ⟨okm,rfl,some (.int (0+(i:Int))),?_⟩
  rw [Int.pow_succ]
  rfl
 ·rintro σ H' ⟨rfl,z,rfl⟩
  have:(m:Int).toNat=m:=by lia
  rw [this]
  exact q
noncomputable def CP:Sp:=fun vs H Q _=>match vs with
 | [.int n]=>∃ m:Nat,n=m/\m<=64/\Q (.int (2 ^ m:Nat)) H
 | _=>False
theorem FB:AN CP:=fun vs H Q Q' E h q=>by
 unfold CP at *
 split at q
 ·revert q;repeat' first | exact h _ _ | exact Ax h | exact At h | exact Av h | (with_reducible first | refine Exists.imp fun _=>?_ | refine And.imp_right ?_ | refine forall_imp fun _=>?_)
 ·exact q.elim
theorem Fg:FnOk P w K mg base CX0 2 T.f_z33 T.d_z33 ["n"] CP:=by
 have G_z26:=OI (P:=P) (w:=w) (base:=base) T
 refine T.F_z33.ok Ny (fun vs H Q E h=>by unfold CP at h;split at h <;> first | rfl | exact h.elim) (fun cdv A outer s H vs Q E hr h=>?_)
 have hu:=Af hr
 have hr_z26:=hr.mono (show 1<=_ by decide)
 unfold CP at h
 split at h
 rotate_left
 ·exact h.elim
 rename_i n
 obtain ⟨m,e1,h1,q⟩:=h
 subst e1
 refine ⟨_,(@AF _ _ _ (@AT _ _ _ _ (AI G_z26 hr_z26 rfl T.m_z26 T.F_z26.kp T.b_z26 .nil AJ (AA AC (AA (vv 0) AB))))),?_⟩
 refine ⟨m,rfl,h1,.inl ⟨by decide,by decide⟩,?_⟩
 have e:(2:Int) ^ m=((2 ^ m:Nat):Int):=by rw [Int.natCast_pow];rfl
 rw [e]
 exact q
theorem Os:FnOk P w K mg base CX0 1 T.f_z16 T.d_z16 ["_law_script"] (GT K):=by
 refine T.F_z16.ok KZ (fun vs H Q E h=>by unfold GT at h;split at h <;> first | rfl | exact h.elim) (fun cdv A outer s H vs Q E hr h=>?_)
 unfold GT at h
 split at h
 rotate_left
 ·exact h.elim
 rename_i a
 have k:=h
 refine ⟨_,(@AF _ _ _ (@AT _ _ _ _ (@A4 _ _ _ _ (AA (vv 0) (AA AC (AA AC (AA AC AB))))))),?_⟩
 exact ⟨by show 4<=sizeLine;rw [sizeLine_eq];decide,k⟩
theorem EC:FnOk P w K mg base CX0 1 T.f_z21 T.d_z21 ["_law_tape_here","_law_many"] (D2 K):=by
 refine T.F_z21.ok sc_z21 (fun vs H Q E h=>by unfold D2 at h;split at h <;> first | rfl | exact h.elim) (fun cdv A outer s H vs Q E hr h=>?_)
 have hu:=Af hr
 unfold D2 at h
 split at h
 rotate_left
 ·exact h.elim
 rename_i t m
 obtain ⟨a,ns,TP,hm,k⟩:=h
 obtain ⟨⟨i,r,c,hi,hr0,ht⟩,hscr⟩:=id TP
 refine ⟨_,(@AE _ _ _ _ _ (@AL _ _ 2 _ _ _ _ sc_z21.nd rfl (by (first | exact Or.inl rfl | exact Or.inr rfl)) (kIx (K:=K) (vv 0) AC) (by rfl) (by (first | exact .inl rfl | exact .inr rfl | assumption))) (@AE _ _ _ _ _ (@Bv _ _ _ _ _ _ (AM (BS (K:=K)) (kIx (K:=K) (vv 0) AC) AC) (Bz (vv 0) AC CS) (by rfl) (by rfl) (by rfl)) (@AE _ _ _ _ _ (@Ak _ _ _ _ _ _ _ _ (PW.pt (II (Ac (kEq (K:=K) hu) (kIx (K:=K) (vv 0) AC) AC) (HR (Ac DQ (kIx (K:=K) (vv 0) AC) (AQ (Bl (K:=K)) rfl T.z_len (by rfl) (AA (vv 2) AB)))))) (@AE _ _ _ _ _ (@Bv _ _ _ _ _ _ (AQ (Ji rfl) rfl T.z_max (by rfl) (AA AC (AA (AM Bo (kIx (K:=K) (vv 2) (kIx (K:=K) (vv 0) AC)) (AM Im AC AC)) AB))) (Bz (vv 0) AC CS) (by rfl) (by rfl) (by rfl)) (@AF _ _ _ (@Bv _ _ _ _ _ _ (AM (BS (K:=K)) (kIx (K:=K) (vv 0) AC) AC) (Bz (vv 0) AC CS) (by rfl) (by rfl) (by rfl)))) Ao) (@AE _ _ _ _ _ (@Ak _ _ _ _ _ _ _ _ (Ac Ci (kIx (K:=K) (vv 0) AC) AC) (@AE _ _ _ _ _ (@AL _ _ 3 _ _ _ _ sc_z21.nd rfl (by (first | exact Or.inl rfl | exact Or.inr rfl)) (AM A8 (kIx (K:=K) (vv 0) AC) (vv 1)) (by rfl) (by (first | exact .inl rfl | exact .inr rfl | assumption))) (@AE _ _ _ _ _ (@Bv _ _ _ _ _ _ (AM Bo (kIx (K:=K) (vv 0) AC) (vv 1)) (Bz (vv 0) AC CS) (by rfl) (by rfl) (by rfl)) (@AF _ _ _ (@AT _ _ _ _ (vv 3))))) Ao) (@AE _ _ _ _ _ (@AL _ _ 4 _ _ _ _ sc_z21.nd rfl (by (first | exact Or.inl rfl | exact Or.inr rfl)) (FL (Ac Ci (AQ (Bl (K:=K)) rfl T.z_len (by rfl) (AA (vv 2) AB)) AC) (kIx (K:=K) (vv 2) (AM A8 (kIx (K:=K) (vv 0) AC) (AQ (Bl (K:=K)) rfl T.z_len (by rfl) (AA (vv 2) AB)))) AC) (by rfl) (by (first | exact .inl rfl | exact .inr rfl | assumption))) (@AE _ _ _ _ _ (@AL _ _ 5 _ _ _ _ sc_z21.nd rfl (by (first | exact Or.inl rfl | exact Or.inr rfl)) (AM A8 (AM BC (AM (BS (K:=K)) (AM (BS (K:=K)) (AM A8 (vv 4) AC) (AM BC AC (kIx (K:=K) (vv 0) AC))) AC) AC) AC) (by rfl) (by (first | exact .inl rfl | exact .inr rfl | assumption))) (@AF _ _ _ (@AT _ _ _ _ (AM A8 (AM A8 (AM BC (AM A8 (AM (BS (K:=K)) (AM BC (vv 5) AC) (kIx (K:=K) (vv 0) AC)) AC) AC) AC) (vv 1)))))))))),?_⟩
 -- script=tape[0];tape[3]=tape[3]+1
 refine ⟨_,_,.inl (.of ht),rfl,_,_,.inl (.of ht),rfl,_,_,ht,rfl,?_⟩
 have sc0:∀ {H1:Hp},(∀ b,b≠t->H1 b=H b)->ScrAt K H1 t a ns:=fun h=>hscr.stay fun o n e=>by rw [h a n];exact e
 have sc1:∀ {H1:Hp},(∀ b,b≠t->H1 b=H b)->SqL K H1 a (ns.map V.int):=fun h=>(sc0 h).sq
 have f1:∀ {o:HO} {H1:Hp},(∀ b,b≠t->H1 b=H b)->∀ b,b≠t->upd H1 t o b=H b:=fun h b n=>by rw [AK n];exact h b n
 dsimp only
 refine Ah (fun σ' H1=>σ'=[some (.ref t),some (.int m),some (.ref a),none,none,none]/\(∀ b,b≠t->H1 b=H b)/\∃ i r c:Int,0<=i/\0<=r/\H1 t=some (.lst [.ref a,.int i,.int r,.int c])) ?_ ?_ (by (repeat' with_reducible first | exact Hf | apply Lu | apply Mp | apply Nr | apply LP | apply HW | apply K7 | exact NK | exact Mw | apply OS | apply K2 | apply Jb | apply Ma | apply Mb | apply Lp | apply Ky | apply M0 | apply J2 | exact PN | exact LA | exact LZ | exact Kw | exact LD | exact K9 | exact PO | exact NW | exact Om | exact Lg | exact Kn | exact J6 | exact M6 | exact LQ | apply NJ | apply M7 | apply ME | apply OQ | exact Jn | apply KP | exact Ll | exact KY | exact Jp | exact Mr | exact MP | exact Lq | apply Oo | apply My | apply O9 | exact As | apply Cc | exact BE | exact KL | exact Nk | apply Op | apply Lm | apply Nz | apply Nj | apply Oy | exact LL | exact J1 | exact PB | assumption))
 ·-- the next number of the script,where the last one is used up
  have h1:∀ {o:HO} (b:Addr),b≠t->upd H t o b=H b:=fun b n=>AK n
  refine ⟨_,_,.inl (.of AD),rfl,?_⟩
  refine AO (fun e=>?_) (fun e=>?_)
  ·refine ⟨_,_,.inl (.of AD),rfl,ns.length,.inl ⟨_,sc1 h1,by rw [List.length_map]⟩,?_⟩
   refine AO (fun e=>?_) (fun e=>?_)
   ·have hlt:i < ns.length:=of_decide_eq_true e
    obtain ⟨z,hz⟩:=HH hi hlt
    refine ⟨_,_,.inl (.of AD),rfl,_,_,.inl (sc1 h1),hz,⟨by decide,by decide,by decide⟩,⟨by decide,by decide⟩,?_⟩
    refine ⟨_,_,AD,rfl,_,_,.inl (.of AD),rfl,_,_,AD,rfl,rfl,?_,i+1,max 0 (z / 10 ^ 18),c+1,by lia,by lia,AD⟩
    exact f1 (f1 h1)
   ·exact ⟨rfl,h1,i,r,c+1,hi,hr0,AD⟩
  ·exact ⟨rfl,h1,i,r,c+1,hi,hr0,AD⟩
 rintro σ' H1 ⟨rfl,h1,i,r,c,hi,hr0,ht⟩
 have T1:∀ {H2:Hp} {i r c:Int},(∀ b,b≠t->H2 b=H b)->0<=i->0<=r->H2 t=some (.lst [.ref a,.int i,.int r,.int c])->Tape K H2 t a ns:=fun h h1 h2 h3=>⟨⟨_,_,_,h1,h2,h3⟩,sc0 h⟩
 -- a digit of it
 refine ⟨_,_,.inl (.of ht),rfl,?_⟩
 have hm0:0 < m:=hm.1
 refine AO (fun e=>?_) (fun e=>?_)
 ·refine ⟨_,_,.inl (.of ht),rfl,hm0,_,_,.inl (.of ht),rfl,hm,_,_,ht,rfl,?_⟩
  exact k _ _ (Int.emod_nonneg _ (by lia)) (Int.emod_lt_of_pos _ hm0) (T1 (f1 h1) hi (Int.ediv_nonneg hr0 (by lia)) AD) (f1 h1)
 -- else a number made of the cell
 dsimp only [Ds]
 refine Ah (fun σ' H2=>H2=H1/\∃ z:Int,σ'=[some (.ref t),some (.int m),some (.ref a),none,some (.int z),none]) ?_ ?_ (by (repeat' with_reducible first | exact Hf | apply Lu | apply Mp | apply Nr | apply LP | apply HW | apply K7 | exact NK | exact Mw | apply OS | apply K2 | apply Jb | apply Ma | apply Mb | apply Lp | apply Ky | apply M0 | apply J2 | exact PN | exact LA | exact LZ | exact Kw | exact LD | exact K9 | exact PO | exact NW | exact Om | exact Lg | exact Kn | exact J6 | exact M6 | exact LQ | apply NJ | apply M7 | apply ME | apply OQ | exact Jn | apply KP | exact Ll | exact KY | exact Jp | exact Mr | exact MP | exact Lq | apply Oo | apply My | apply O9 | exact As | apply Cc | exact BE | exact KL | exact Nk | apply Op | apply Lm | apply Nz | apply Nj | apply Oy | exact LL | exact J1 | exact PB | assumption))
 ·refine ⟨ns.length,.inl ⟨_,sc1 h1,by rw [List.length_map]⟩,?_⟩
  refine AO (fun e=>?_) (fun e=>?_)
  ·have hlt:(0:Int) < ns.length:=of_decide_eq_true e
   obtain ⟨z,hz⟩:=HH (ns:=ns) (Int.emod_nonneg c (show (ns.length:Int)≠0 by lia)) (Int.emod_lt_of_pos c hlt)
   exact ⟨_,_,.inl (.of ht),rfl,ns.length,.inl ⟨_,sc1 h1,by rw [List.length_map]⟩,hlt,_,_,.inl (sc1 h1),hz,rfl,z,rfl⟩
  ·exact ⟨rfl,0,rfl⟩
 rintro σ' H2 ⟨rfl,z,rfl⟩
 refine ⟨by decide,_,_,.inl (.of ht),rfl,.inr (.inl ⟨by decide,by decide⟩),.inr (.inr ⟨by decide,by decide⟩),by decide,?_⟩
 refine ⟨.inr (.inr ⟨by decide,by decide⟩),_,_,.inl (.of ht),rfl,by decide,.inr (.inr ⟨by decide,by decide⟩),by decide,hm0,?_⟩
 exact k _ _ (Int.emod_nonneg _ (by lia)) (Int.emod_lt_of_pos _ hm0) (T1 h1 hi hr0 ht) h1
noncomputable def manyF:Nat->Nat->Nat
 | 0,_=>0
 | f+1,x=>x % 2+manyF f (x / 2)
@[irreducible] noncomputable def many (x:Nat):Nat:=manyF 64 x
noncomputable def Ae (n x:Nat):List Bool:=(List.range n).map fun k=>x / 2 ^ k % 2 == 1
noncomputable def Al (n x y:Nat):List Bool:=(List.zip (Ae n x) (Ae n y)).map fun p=>p.1 && p.2
noncomputable def sgL (n x y:Nat):Int:=if (Al n x y).countP id % 2=1 then -1 else 1
theorem C3:∀ f,manyF f 0=0
 | 0=>rfl
 | f+1=>by
  show 0 % 2+manyF f (0 / 2)=0
  rw [Nat.zero_div,C3 f]
noncomputable def out (H:Hp) (Q:VK) (v:V):Prop:=∀ H',Same H H'->Q v H'
noncomputable def FN (H:Hp) (Q:VK) (xs:List V):Prop:=∀ p H',H p=none->Same H H'->H' p=some (.lst xs)->Q (.ref p) H'
noncomputable def G0 (H:Hp) (Q:VK) (xs:List V):Prop:=∀ p H',H p=none->Same H H'->H' p=some (.tup xs)->Q (.ref p) H'
theorem At {H:Hp} {Q Q':VK} {v:V} (h:∀ v H,Q v H->Q' v H) (q:out H Q v):out H Q' v:=fun H' s=>h _ _ (q H' s)
theorem Pf {H:Hp} {Q Q':VK} {xs:List V} (h:∀ v H,Q v H->Q' v H) (q:FN H Q xs):FN H Q' xs:=fun p H' a b c=>h _ _ (q p H' a b c)
theorem Av {H:Hp} {Q Q':VK} {xs:List V} (h:∀ v H,Q v H->Q' v H) (q:G0 H Q xs):G0 H Q' xs:=fun p H' a b c=>h _ _ (q p H' a b c)
noncomputable def Bm:Sp:=fun vs H Q _=>match vs with
 | [.int k]=>0<=k/\k<=6/\out H Q (.int (2 ^ k.toNat))
 | _=>False
theorem Ek:AN Bm:=fun vs H Q Q' E h q=>by
 unfold Bm at *
 split at q
 ·exact ⟨q.1,q.2.1,At h q.2.2⟩
 ·exact q.elim
theorem DX:FnOk P w K mg base CX0 1 T.f_z25 T.d_z25 ["_law_k"] Bm:=by
 refine T.F_z25.ok MT (fun vs H Q E h=>by unfold Bm at h;split at h <;> first | rfl | exact h.elim) (fun cdv A outer s H vs Q E hr h=>?_)
 unfold Bm at h
 split at h
 rotate_left
 ·exact h.elim
 rename_i k
 obtain ⟨h1,h2,q⟩:=h
 refine ⟨_,(@AF _ _ _ (@AT _ _ _ _ (kIx (K:=K) (@A4 _ _ _ _ (AA AC (AA AC (AA AC (AA AC (AA AC (AA AC (AA AC AB)))))))) (vv 0)))),?_⟩
 refine ⟨AX (show 7<=1000 by decide),fun p hp=>?_⟩
 have e:atI [V.int 1,.int 2,.int 4,.int 8,.int 16,.int 32,.int 64] k=some (.int (2 ^ k.toNat)):=by
  have:k=0\/k=1\/k=2\/k=3\/k=4\/k=5\/k=6:=by lia
  rcases this with e | e | e | e | e | e | e <;> subst e <;> rfl
 exact ⟨_,_,.inl (.of AD),e,q _ (Same.upd hp)⟩
noncomputable def Cw:Sp:=fun vs H Q _=>match vs with
 | [.int n,.int x]=>∃ m y:Nat,n=m/\x=y/\m<=6/\FN H Q ((Ae m y).map V.bl)
 | _=>False
theorem LU:AN Cw:=fun vs H Q Q' E h q=>by
 unfold Cw at *
 split at q
 ·revert q;repeat' first | exact h _ _ | exact Ax h | exact At h | exact Av h | (with_reducible first | refine Exists.imp fun _=>?_ | refine And.imp_right ?_ | refine forall_imp fun _=>?_)
 ·exact q.elim
theorem Ks {m y i:Nat} (h:i < m):(Ae m y).take (i+1)=(Ae m y).take i++[y / 2 ^ i % 2 == 1]:=by
 rw [List.take_add_one]
 congr 1
 unfold Ae
 rw [List.getElem?_map,List.getElem?_range h]
 rfl
theorem A5 {m y:Nat}:(Ae m y).length=m:=by unfold Ae;simp
theorem G3:FnOk P w K mg base CX0 2 T.f_z24 T.d_z24 ["_law_n","_law_number"] Cw:=by
 have G_z25:=DX (P:=P) (w:=w) (base:=base) T
 refine T.F_z24.ok KB (fun vs H Q E h=>by unfold Cw at h;split at h <;> first | rfl | exact h.elim) (fun cdv A outer s H vs Q E hr h=>?_)
 have hu:=Af hr
 have hr_z25:=hr.mono (show 1<=_ by decide)
 unfold Cw at h
 split at h
 rotate_left
 ·exact h.elim
 rename_i n x
 obtain ⟨m,y,e1,e2,h1,q⟩:=h
 subst e1 e2
 refine ⟨_,(@AF _ _ _ (@AT _ _ _ _ (@BA _ _ _ _ _ _ _ (["_law_k","_law_number"]) 1 [1] _ _ _ _ rfl (A3 rfl T.z_range (AA (vv 0) AB)) (by kernel_rfl) rfl rfl (by kernel_rfl) (fun c=>AS (i:=0) (show (["_law_k","_law_number"]:List Str).Nodup by decide +kernel) rfl (by (first | exact Or.inl rfl | exact Or.inr rfl))) (Ad (by decide)) (fun c=>Au) (fun c=>(A9 (kEq (K:=K) hu) (AM A8 (AM Bo (vv 1) (AI G_z25 hr_z25 rfl T.m_z25 T.F_z25.kp T.b_z25 .nil AJ (AA (vv 0) AB))) AC) AC)) (by intro _;rfl)))),?_⟩
 refine ⟨m,rfl,by lia,by lia,?_⟩
 refine CN (fun i ys H'=>Same H H'/\ys=((Ae m y).take i).map V.bl) ⟨Same.refl _,rfl⟩ (fun i ys H' hi ⟨_,e⟩=>by rw [e];exact Ab (by rw [List.length_map,List.length_take];lia)) ?_ ?_
 ·rintro i ys H' hi ⟨s1,rfl⟩
  have hi':i < m:=by lia
  refine ⟨by lia,by lia,fun H2 s2=>?_⟩
  have e0:((0:Int)+(i:Int)).toNat=i:=by lia
  rw [e0]
  have ep:((2:Int) ^ i)=((2 ^ i:Nat):Int):=by rw [Int.natCast_pow];rfl
  have hp:0 < 2 ^ i:=Nat.two_pow_pos i
  have hle:(2:Nat) ^ i<=2 ^ 6:=Nat.pow_le_pow_right (by decide) (by lia)
  refine ⟨A7 (by rw [ep];lia) (by rw [ep];exact Int.le_trans (Int.ofNat_le.mpr hle) (by decide)),by decide,?_⟩
  refine ⟨s1.trans s2,?_⟩
  rw [Ks hi',List.map_append]
  congr 2
  rw [ep]
  show V.bl (false ^^ (((y:Int) / ((2 ^ i:Nat):Int) % 2) == 1))=V.bl (y / 2 ^ i % 2 == 1)
  rw [Bool.false_xor,<- Int.natCast_ediv]
  congr 1
  rw [Bool.eq_iff_iff]
  simp only [beq_iff_eq]
  lia
 ·rintro ys H' ⟨s1,rfl⟩ p hp
  have:(Ae m y).take (m:Int).toNat=Ae m y:=by
   rw [List.take_of_length_le]
   rw [A5];lia
  rw [this]
  exact q p _ (s1.free hp) (s1.trans (Same.upd hp)) AD
noncomputable def CD (K:W.Frag):Sp:=fun vs H Q _=>match vs with
 | [.int n,.int x,.int y]=>∃ m a b:Nat,n=m/\x=a/\y=b/\m<=6/\out H Q (.int (sgL m a b))
 | _=>False
theorem Fb:AN (CD K):=fun vs H Q Q' E h q=>by
 unfold CD at *
 split at q
 ·revert q;repeat' first | exact h _ _ | exact Ax h | exact At h | exact Av h | (with_reducible first | refine Exists.imp fun _=>?_ | refine And.imp_right ?_ | refine forall_imp fun _=>?_)
 ·exact q.elim
theorem JZ (bs:List Bool):(bs.map V.bl).countP (fun v=>eqV v (.bl true))=bs.countP id:=by
 rw [List.countP_map]
 congr 1
 funext b
 cases b <;> rfl
theorem Od (bs:List Bool):(bs.map V.bl).all Aw=true:=by
 rw [List.all_map,List.all_eq_true]
 intro b _
 rfl
theorem shared_take {m a b i:Nat} (h:i < m):(Al m a b).take (i+1)=(Al m a b).take i++[(a / 2 ^ i % 2 == 1) && (b / 2 ^ i % 2 == 1)]:=by
 rw [List.take_add_one]
 congr 1
 unfold Al Ae
 simp [List.getElem?_map,List.getElem?_zip_eq_some,h]
theorem GF:FnOk P w K mg base CX0 3 T.f_z19 T.d_z19 ["_law_n","_law_one","_law_place"] (CD K):=by
 have G_z24:=G3 (P:=P) (w:=w) (base:=base) T
 refine T.F_z19.ok sc_z19 (fun vs H Q E h=>by unfold CD at h;split at h <;> first | rfl | exact h.elim) (fun cdv A outer s H vs Q E hr h=>?_)
 have hu:=Af hr
 have hr_z24:=hr.mono (show 2<=_ by decide)
 unfold CD at h
 split at h
 rotate_left
 ·exact h.elim
 rename_i n x y
 obtain ⟨m,a,b,e1,e2,e3,h1,q⟩:=h
 subst e1 e2 e3
 refine ⟨_,(@AE _ _ _ _ _ (@Dt _ _ _ _ _ _ _ (["_law_a","_law_b"]) 2 [] _ _ _ _ 3 _ _ _ rfl sc_z19.nd rfl rfl (Hy (K:=K) rfl T.z_zip (AA (AI G_z24 hr_z24 rfl T.m_z24 T.F_z24.kp T.b_z24 .nil AJ (AA (vv 0) (AA (vv 1) AB))) (AA (AI G_z24 hr_z24 rfl T.m_z24 T.F_z24.kp T.b_z24 .nil AJ (AA (vv 0) (AA (vv 2) AB))) AB))) (by kernel_rfl) rfl rfl (by kernel_rfl) (fun c=>Co (K:=K) (n:=2) rfl (A1 (AS (i:=0) (show (["_law_a","_law_b"]:List Str).Nodup by decide +kernel) rfl (by (first | exact Or.inl rfl | exact Or.inr rfl))) (A1 (AS (i:=1) (show (["_law_a","_law_b"]:List Str).Nodup by decide +kernel) rfl (by (first | exact Or.inl rfl | exact Or.inr rfl))) CF))) (Dg (BK As (Cc As BE) (Ad (by decide)) (BK As BE (Ad (by decide)) DV))) (fun c=>Au) (fun c=>(DO (vv 0) (Dk (vv 1)))) (by rfl) (by intro _;rfl)) (@AF _ _ _ (@AT _ _ _ _ (kIx (K:=K) (@A4 _ _ _ _ (AA AC (AA (CM CL AC) AB))) (AM A8 (Jv (K:=K) (vv 3) (AA DJ AB)) AC))))),?_⟩
 refine ⟨m,a,rfl,rfl,h1,fun p1 H1 n1 s1 g1=>⟨m,b,rfl,rfl,h1,fun p2 H2 n2 s2 g2=>?_⟩⟩
 have g1':=s2 _ _ g1
 refine ⟨⟨_,.of g1'⟩,⟨_,.of g2⟩,?_⟩
 refine Ik (xs:=(Ae m a).map V.bl) (ys:=(Ae m b).map V.bl) (fun i zs H'=>Same H2 H'/\zs=((Al m a b).take i).map V.bl) ⟨Same.refl _,rfl⟩ (by rw [List.length_map,List.length_map,A5,A5])
  (fun i zs H' _ ⟨s,_⟩=>⟨.of (s _ _ g1'),.of (s _ _ g2)⟩) (fun i zs H' hi ⟨_,e⟩=>by
   rw [List.length_map,A5] at hi
   rw [e];exact Ab (by rw [List.length_map,List.length_take];lia)) ?_ ?_
 ·rintro i u v zs H' p hx hy ⟨s,rfl⟩ hp
  have hi:i < m:=by
   have:=(List.getElem?_eq_some_iff.mp hx).1
   rw [List.length_map,A5] at this
   exact this
  have ex:u=.bl (a / 2 ^ i % 2 == 1):=by
   rw [List.getElem?_map,show Ae m a=(List.range m).map _ from rfl,List.getElem?_map,List.getElem?_range hi] at hx
   exact (Option.some.inj hx).symm
  have ey:v=.bl (b / 2 ^ i % 2 == 1):=by
   rw [List.getElem?_map,show Ae m b=(List.range m).map _ from rfl,List.getElem?_map,List.getElem?_range hi] at hy
   exact (Option.some.inj hy).symm
  subst ex ey
  refine ⟨p,_,rfl,.of AD,rfl,_,_,rfl,_,_,rfl,rfl,?_⟩
  have s':Same H2 (upd H' p (.tup [.bl (a / 2 ^ i % 2 == 1),.bl (b / 2 ^ i % 2 == 1)])):=s.trans (Same.upd hp)
  refine AO (fun e=>?_) (fun e=>?_)
  ·refine ⟨s',?_⟩
   rw [shared_take hi,List.map_append,e,Bool.true_and]
   rfl
  ·refine ⟨s',?_⟩
   have e:(a / 2 ^ i % 2 == 1)=false:=by simpa using e
   rw [shared_take hi,List.map_append,e,Bool.false_and]
   rfl
 rintro zs H' ⟨s,rfl⟩ l hl
 have hlen:((Ae m a).map V.bl).length=m:=by rw [List.length_map,A5]
 have sl:(Al m a b).length=m:=by unfold Al;simp [A5]
 rw [hlen,List.take_of_length_le (by lia)]
 refine ⟨AX (show 2<=1000 by decide),fun r hr'=>?_⟩
 have hl':upd (upd H' l (.lst ((Al m a b).map V.bl))) r (.lst [.int 1,.int (-1)]) l=some (.lst ((Al m a b).map V.bl)):=by
  have:l≠r:=fun e=>by rw [e,AD] at hr';cases hr'
  rw [AK this];exact AD
 refine ⟨.inl ⟨rfl,_,.of hl'⟩,_,.of hl',rfl,Od _,by decide,?_⟩
 rw [JZ]
 have e:atI [V.int 1,V.int (-1)] ((((Al m a b).countP id:Nat):Int) % 2)=some (.int (sgL m a b)):=by
  unfold sgL
  have:(Al m a b).countP id % 2=0\/(Al m a b).countP id % 2=1:=by lia
  rcases this with e | e
  ·rw [if_neg (by lia)]
   have:(((Al m a b).countP id:Nat):Int) % 2=0:=by lia
   rw [this];rfl
  ·rw [if_pos e]
   have:(((Al m a b).countP id:Nat):Int) % 2=1:=by lia
   rw [this];rfl
 refine ⟨_,_,.inl (.of AD),e,?_⟩
 exact q _ ((s1.trans s2).trans ((s.trans (Same.upd hl)).trans (Same.upd hr')))
noncomputable def DF (K:W.Frag):Sp:=fun vs H Q _=>match vs with
 | [.ref t,.int n]=>∃ (a:Addr) (ns:List Int) (m:Nat),Tape K H t a ns/\n=m/\1<=m/\m<=6/\∀ (bs:List Bool) p H',bs.length=2 ^ m->H p=none->H' p=some (.tup (bs.map V.bl))->Tape K H' t a ns->Frm t H H'->Q (.ref p) H'
 | _=>False
theorem Jy:AN (DF K):=fun vs H Q Q' E h q=>by
 unfold DF at *
 split at q
 ·revert q;repeat' first | exact h _ _ | exact Ax h | exact At h | exact Av h | (with_reducible first | refine Exists.imp fun _=>?_ | refine And.imp_right ?_ | refine forall_imp fun _=>?_)
 ·exact q.elim
structure TabL (K:W.Frag) (H0:Hp) (t a:Addr) (ns:List Int) (M:Nat) (l:Addr) (H:Hp):Prop where
 tp:Tape K H t a ns
 fr:Frm t H0 H
 new:H0 l=none
 at_:∃ bs:List Bool,H l=some (.lst (bs.map V.bl))/\bs.length=M
noncomputable def Dh (K:W.Frag) (H0:Hp) (t a:Addr) (ns:List Int) (m M:Nat):St->Hp->Prop:=fun σ H=>∃ (l:Addr) (way:Int) (y:Nat) (fb:Bool) (z1 z2 z3 z4:Option V),
 σ=[some (.ref t),some (.int m),some (.int M),some (.int way),some (.int y),some (.bl fb),some (.ref l),z1,z2,z3,z4]/\y < M/\TabL K H0 t a ns M l H
theorem Bp {t:Addr} {H H':Hp} (h:∀ b,b≠t->H' b=H b):Frm t H H':=fun b o n e=>by rw [h b n];exact e
theorem TabL.same {K:W.Frag} {H0 H H':Hp} {t a:Addr} {ns:List Int} {M:Nat} {l:Addr} (L:TabL K H0 t a ns M l H) (s:Same H H'):TabL K H0 t a ns M l H' :=
 ⟨L.tp.same s,L.fr.trans s.frm,L.new,let ⟨bs,h,e⟩:=L.at_;⟨bs,s _ _ h,e⟩⟩
theorem TabL.ne {K:W.Frag} {H0 H:Hp} {t a:Addr} {ns:List Int} {M:Nat} {l:Addr} (L:TabL K H0 t a ns M l H) (T0:Tape K H0 t a ns):l≠t:=T0.neT L.new
theorem TabL.draw {K:W.Frag} {H0 H H':Hp} {t a:Addr} {ns:List Int} {M:Nat} {l:Addr} (L:TabL K H0 t a ns M l H) (T0:Tape K H0 t a ns) (T1:Tape K H' t a ns) (f:∀ b,b≠t->H' b=H b):TabL K H0 t a ns M l H' :=
 ⟨T1,L.fr.trans (Bp f),L.new,let ⟨bs,h,e⟩:=L.at_;⟨bs,by rw [f l (L.ne T0)];exact h,e⟩⟩
theorem Dy {t p:Addr} {H0 H:Hp} {o:HO} (f:Frm t H0 H) (hp:H0 p=none):Frm t H0 (upd H p o):=fun b u n e=>by
 rw [AK (BR e hp)];exact f b u n e
theorem TabL.other {K:W.Frag} {H0 H:Hp} {t a p:Addr} {ns:List Int} {M:Nat} {l:Addr} {o:HO} (L:TabL K H0 t a ns M l H) (T0:Tape K H0 t a ns) (hp:H0 p=none) (hl:p≠l):TabL K H0 t a ns M l (upd H p o):=by
 have nt:=T0.neT hp
 have F:Frm t H0 (upd H p o):=Dy L.fr hp
 obtain ⟨i,r,c,h1,h2,h3⟩:=L.tp.at_
 refine ⟨⟨⟨i,r,c,h1,h2,by rw [AK (Ne.symm nt)];exact h3⟩,T0.scr.stay fun o n e=>F a o n e⟩,F,L.new,?_⟩
 obtain ⟨bs,h,e⟩:=L.at_
 exact ⟨bs,by rw [AK (Ne.symm hl)];exact h,e⟩
theorem TabL.put {K:W.Frag} {H0 H:Hp} {t a:Addr} {ns:List Int} {M:Nat} {l:Addr} {bs:List Bool} (L:TabL K H0 t a ns M l H) (T0:Tape K H0 t a ns) (hb:bs.length=M):TabL K H0 t a ns M l (upd H l (.lst (bs.map V.bl))):=by
 have F:Frm t H0 (upd H l (.lst (bs.map V.bl))):=Dy L.fr L.new
 obtain ⟨i,r,c,h1,h2,h3⟩:=L.tp.at_
 exact ⟨⟨⟨i,r,c,h1,h2,by rw [AK (Ne.symm (L.ne T0))];exact h3⟩,T0.scr.stay fun o n e=>F a o n e⟩,F,L.new,bs,AD,hb⟩
theorem E4 {n i:Nat} (h:i < n):ixN n ((i:Nat):Int)=some i:=by
 unfold ixN
 rw [if_pos (Int.natCast_nonneg i),if_pos (by lia)]
 simp
theorem Hz (bs:List Bool) (i:Nat) (b:Bool):(bs.map V.bl).set i (.bl b)=(bs.set i b).map V.bl:=by
 rw [List.map_set]
theorem Ms {xs:BX} {ks:List Bool} (h:Bi xs ks=true):∃ c v,atKey (bxv xs) ks=some (c,Value.bool v):=by
 have e:=GC xs ks
 rw [h] at e
 obtain ⟨⟨c,u⟩,hc⟩:=Option.isSome_iff_exists.mp e
 have hc':=hc
 unfold atKey at hc'
 obtain ⟨z,hz,ez⟩:=Option.map_eq_some_iff.mp hc'
 have hm:=List.mem_of_find?_eq_some hz
 unfold bxv at hm
 obtain ⟨q,_,rfl⟩:=List.mem_map.mp hm
 cases ez
 exact ⟨_,_,hc⟩
theorem Hm {H:Hp} {p:Addr} {xs:BX} {o o':HO} (h:BP H xs) (hp:H p=some o) (ho:∀ ys,HO.tup ys≠o):BP (upd H p o') xs:=fun q hq=>by
 rw [AK (Ep (h q hq) hp (ho _))];exact h q hq
theorem OH {H H':Hp} {xs:BX} (h:BP H xs) (s:Same H H'):BP H' xs:=fun q hq=>s _ _ (h q hq)
theorem N3:FnOk P w K mg base CX0 4 T.f_z14 T.d_z14 ["_law_tape_here","_law_n"] (DF K):=by
 have G_z25:=DX (P:=P) (w:=w) (base:=base) T;have G_z21:=EC (P:=P) (w:=w) (base:=base) T;have G_z19:=GF (P:=P) (w:=w) (base:=base) T;have G_z24:=G3 (P:=P) (w:=w) (base:=base) T
 refine T.F_z14.ok sc_z14 (fun vs H Q E h=>by unfold DF at h;split at h <;> first | rfl | exact h.elim) (fun cdv A outer s H vs Q E hr h=>?_)
 have hu:=Af hr
 have mo1:AN (CD K):=Fb
 have mo2:AN Cw:=LU
 have hr_z25:=hr.mono (show 1<=_ by decide);have hr_z21:=hr.mono (show 1<=_ by decide);have hr_z19:=hr.mono (show 3<=_ by decide);have hr_z24:=hr.mono (show 2<=_ by decide)
 unfold DF at h
 split at h
 rotate_left
 ·exact h.elim
 rename_i t n
 obtain ⟨a,ns,m,TP,e1,m1,m6,q⟩:=h
 subst e1
 refine ⟨_,(@AE _ _ _ _ _ (@AL _ _ 2 _ _ _ _ sc_z14.nd rfl (by (first | exact Or.inl rfl | exact Or.inr rfl)) (AI G_z25 hr_z25 rfl T.m_z25 T.F_z25.kp T.b_z25 .nil AJ (AA (vv 1) AB)) (by rfl) (by (first | exact .inl rfl | exact .inr rfl | assumption))) (@AE _ _ _ _ _ (@AL _ _ 3 _ _ _ _ sc_z14.nd rfl (by (first | exact Or.inl rfl | exact Or.inr rfl)) (AI G_z21 hr_z21 rfl T.m_z21 T.F_z21.kp T.b_z21 .nil AJ (AA (vv 0) (AA AC AB))) (by rfl) (by (first | exact .inl rfl | exact .inr rfl | assumption))) (@AE _ _ _ _ _ (@AL _ _ 4 _ _ _ _ sc_z14.nd rfl (by (first | exact Or.inl rfl | exact Or.inr rfl)) (AI G_z21 hr_z21 rfl T.m_z21 T.F_z21.kp T.b_z21 .nil AJ (AA (vv 0) (AA (vv 2) AB))) (by rfl) (by (first | exact .inl rfl | exact .inr rfl | assumption))) (@AE _ _ _ _ _ (@AL _ _ 5 _ _ _ _ sc_z14.nd rfl (by (first | exact Or.inl rfl | exact Or.inr rfl)) (A9 (kEq (K:=K) hu) (AI G_z21 hr_z21 rfl T.m_z21 T.F_z21.kp T.b_z21 .nil AJ (AA (vv 0) (AA AC AB))) AC) (by rfl) (by (first | exact .inl rfl | exact .inr rfl | assumption))) (@AE _ _ _ _ _ (@Dt _ _ _ _ _ _ _ (["_law_place","_law_first"]) 1 [5] _ _ _ _ 6 _ _ _ rfl sc_z14.nd rfl rfl (A3 rfl T.z_range (AA (vv 2) AB)) (by kernel_rfl) rfl rfl (by kernel_rfl) (fun c=>AS (i:=0) (show (["_law_place","_law_first"]:List Str).Nodup by decide +kernel) rfl (by (first | exact Or.inl rfl | exact Or.inr rfl))) (Ad (by decide)) (fun c=>Au) (fun c=>(vv 1)) (by rfl) (by intro _;rfl)) (@AE _ _ _ _ _ (@Ak _ _ _ _ _ _ _ _ (Ac DQ (vv 3) AC) (@AF _ _ _ (@Dt _ _ _ _ _ _ _ (["_law_place","_law_tape_here"]) 1 [0] _ _ _ _ 6 _ _ _ rfl sc_z14.nd rfl rfl (A3 rfl T.z_range (AA (vv 2) AB)) (by kernel_rfl) rfl rfl (by kernel_rfl) (fun c=>AS (i:=0) (show (["_law_place","_law_tape_here"]:List Str).Nodup by decide +kernel) rfl (by (first | exact Or.inl rfl | exact Or.inr rfl))) (Ad (by decide)) (fun c=>Au) (fun c=>(A9 (kEq (K:=K) hu) (AI G_z21 hr_z21 rfl T.m_z21 T.F_z21.kp T.b_z21 .nil AJ (AA (vv 1) (AA AC AB))) AC)) (by rfl) (by intro _;rfl))) Ao) (@AE _ _ _ _ _ (@Ak _ _ _ _ _ _ _ _ (Ac (kEq (K:=K) hu) (vv 3) AC) (@AF _ _ _ (@Dt _ _ _ _ _ _ _ (["_law_place","_law_first","_law_n","_law_some"]) 1 ([5,1,4]) _ _ _ _ 6 _ _ _ rfl sc_z14.nd rfl rfl (A3 rfl T.z_range (AA (vv 2) AB)) (by kernel_rfl) rfl rfl (by kernel_rfl) (fun c=>AS (i:=0) (show (["_law_place","_law_first","_law_n","_law_some"]:List Str).Nodup by decide +kernel) rfl (by (first | exact Or.inl rfl | exact Or.inr rfl))) (Ad (by decide)) (fun c=>Au) (fun c=>(A9 (kEq (K:=K) hu) (vv 1) (A9 (kEq (K:=K) hu) (AI G_z19 hr_z19 rfl T.m_z19 T.F_z19.kp T.b_z19 .nil AJ (AA (vv 2) (AA (vv 3) (AA (vv 0) AB)))) AC))) (by rfl) (by intro _;rfl))) Ao) (@AE _ _ _ _ _ (@Ak _ _ _ _ _ _ _ _ (Ac (kEq (K:=K) hu) (vv 3) AC) (@AE _ _ _ _ _ (@AL _ _ 7 _ _ _ _ sc_z14.nd rfl (by (first | exact Or.inl rfl | exact Or.inr rfl)) (Mo (P:=P) (w:=w)) (by rfl) (by (first | exact .inl rfl | exact .inr rfl | assumption))) (@AF _ _ _ (@Bj _ _ _ _ _ _ _ _ PassesOwn.never rfl (A3 rfl T.z_range (AA (vv 2) AB)) (AS (i:=8) sc_z14.nd rfl (by (first | exact Or.inl rfl | exact Or.inr rfl))) (@AE _ _ _ _ _ (@AL _ _ 9 _ _ _ _ sc_z14.nd rfl (by (first | exact Or.inl rfl | exact Or.inr rfl)) (BW (CQ (K:=K)) rfl T.z_tuple (by rfl) (AA (BA (N':=["_law_a","_law_b"]) (own:=2) (ix:=[]) rfl (Hy (K:=K) rfl T.z_zip (AA (AI G_z24 hr_z24 rfl T.m_z24 T.F_z24.kp T.b_z24 .nil AJ (AA (vv 1) (AA (vv 8) AB))) (AA (AI G_z24 hr_z24 rfl T.m_z24 T.F_z24.kp T.b_z24 .nil AJ (AA (vv 1) (AA (vv 4) AB))) AB))) (by kernel_rfl) rfl rfl (by kernel_rfl) (fun c=>Co (K:=K) (n:=2) rfl (A1 (AS (i:=0) (show (["_law_a","_law_b"]:List Str).Nodup by decide +kernel) rfl (by (first | exact Or.inl rfl | exact Or.inr rfl))) (A1 (AS (i:=1) (show (["_law_a","_law_b"]:List Str).Nodup by decide +kernel) rfl (by (first | exact Or.inl rfl | exact Or.inr rfl))) CF))) (Dg (BK As (Cc As BE) (Ad (by decide)) (BK As BE (Ad (by decide)) DV))) (fun c=>Au) (fun c=>(DO (vv 0) (Dk (vv 1))))) AB)) (by rfl) (by (first | exact .inl rfl | exact .inr rfl | assumption))) (@AE _ _ _ _ _ (@Ak _ _ _ _ _ _ _ _ (Ac (Mc (P:=P) (w:=w) hu) (vv 9) (vv 7)) (@AF _ _ _ (@Bv _ _ _ _ _ _ (A9 (kEq (K:=K) hu) (AI G_z21 hr_z21 rfl T.m_z21 T.F_z21.kp T.b_z21 .nil AJ (AA (vv 0) (AA AC AB))) AC) (Bz (vv 7) (vv 9) (J8 (P:=P) (w:=w) hu)) (by rfl) (by rfl) (by rfl))) Ao) (@AF _ _ _ (@Bv _ _ _ _ _ _ (NP (P:=P) (w:=w) hu (vv 7) (vv 9)) (Bz (vv 6) (vv 8) CS) (by rfl) (by rfl) (by rfl))))) (by intro _;rfl)))) Ao) (@AE _ _ _ _ _ (@Bj _ _ _ _ _ _ _ _ PassesOwn.never rfl (A3 rfl T.z_range (AA (AM BC (AI G_z21 hr_z21 rfl T.m_z21 T.F_z21.kp T.b_z21 .nil AJ (AA (vv 0) (AA AC AB))) (BW JQ rfl T.z_int (by rfl) (AA (A9 Ci (vv 3) AC) AB))) AB)) (AS (i:=10) sc_z14.nd rfl (by (first | exact Or.inl rfl | exact Or.inr rfl))) (@AE _ _ _ _ _ (@AL _ _ 8 _ _ _ _ sc_z14.nd rfl (by (first | exact Or.inl rfl | exact Or.inr rfl)) (AI G_z21 hr_z21 rfl T.m_z21 T.F_z21.kp T.b_z21 .nil AJ (AA (vv 0) (AA (vv 2) AB))) (by rfl) (by (first | exact .inl rfl | exact .inr rfl | assumption))) (@AF _ _ _ (@Bv _ _ _ _ _ _ (LO (kIx (K:=K) (vv 6) (vv 8))) (Bz (vv 6) (vv 8) CS) (by rfl) (by rfl) (by rfl)))) (by intro _;rfl)) (@AF _ _ _ (@AT _ _ _ _ (BW (CQ (K:=K)) rfl T.z_tuple (by rfl) (AA (vv 6) AB))))))))))))),?_⟩
 have e2:(2:Int) ^ ((m:Int).toNat)=((2 ^ m:Nat):Int):=by rw [Int.toNat_natCast,Int.natCast_pow];rfl
 have h64:2 ^ m<=64:=Nat.pow_le_pow_right (n:=2) (by decide) m6
 have h2:2<=2 ^ m:=Nat.pow_le_pow_right (n:=2) (i:=1) (by decide) m1
 refine ⟨by lia,by lia,fun H1 s1=>?_⟩
 rw [e2]
 generalize hM:2 ^ m=M at *
 have T1:=TP.same s1
 have hMd:okDiv (M:Int):=A7 (by lia) (Int.le_trans (Int.ofNat_le.mpr h64) (by decide))
 have hMr:(M:Int) < 2 ^ 62:=Int.lt_of_le_of_lt (Int.ofNat_le.mpr h64) (by decide)
 refine ⟨a,ns,T1,A7 (by decide) (by decide),fun way H2 w0 w1 T2 f2=>⟨a,ns,T2,hMd,fun y' H3 y0 y1 T3 f3=>⟨a,ns,T3,A7 (by decide) (by decide),fun d H4 _ _ T4 f4=>?_⟩⟩⟩
 obtain ⟨y,rfl⟩:=Int.eq_ofNat_of_zero_le y0
 have hy:y < M:=by lia
 have F4:Frm t H H4:=s1.frm.trans ((Bp f2).trans ((Bp f3).trans (Bp f4)))
 dsimp only [tC,mEq,AY,eqV]
 generalize (false ^^ (d == 1))=fb
 refine Ah (Dh K H t a ns m M) ?_ ?_ (by (repeat' with_reducible first | exact Hf | apply Lu | apply Mp | apply Nr | apply LP | apply HW | apply K7 | exact NK | exact Mw | apply OS | apply K2 | apply Jb | apply Ma | apply Mb | apply Lp | apply Ky | apply M0 | apply J2 | exact PN | exact LA | exact LZ | exact Kw | exact LD | exact K9 | exact PO | exact NW | exact Om | exact Lg | exact Kn | exact J6 | exact M6 | exact LQ | apply NJ | apply M7 | apply ME | apply OQ | exact Jn | apply KP | exact Ll | exact KY | exact Jp | exact Mr | exact MP | exact Lq | apply Oo | apply My | apply O9 | exact As | apply Cc | exact BE | exact KL | exact Nk | apply Op | apply Lm | apply Nz | apply Nj | apply Oy | exact LL | exact J1 | exact PB | assumption))
 ·refine ⟨(M:Int),rfl,by lia,by lia,?_⟩
  refine CN (fun i ys H'=>H'=H4/\ys=(List.replicate i fb).map V.bl) ⟨rfl,rfl⟩ (fun i ys H' hi ⟨_,e⟩=>by
   rw [e];exact Ab (by rw [List.length_map,List.length_replicate];lia)) ?_ ?_
  ·rintro i ys H' hi ⟨rfl,rfl⟩
   refine ⟨rfl,?_⟩
   rw [List.replicate_succ',List.map_append];rfl
  ·rintro ys H' ⟨rfl,rfl⟩ l hl
   exact ⟨l,way,y,fb,none,none,none,none,rfl,hy,T4.upd hl,F4.trans (Frm.upd hl),T4.free F4 hl,_,AD,by rw [List.length_replicate];lia⟩
 rintro σ Ha ⟨l,way,y,fb,z1,z2,z3,z4,rfl,hy,L⟩
 refine Ah (Dh K H t a ns m M) ?_ ?_ (by (repeat' with_reducible first | exact Hf | apply Lu | apply Mp | apply Nr | apply LP | apply HW | apply K7 | exact NK | exact Mw | apply OS | apply K2 | apply Jb | apply Ma | apply Mb | apply Lp | apply Ky | apply M0 | apply J2 | exact PN | exact LA | exact LZ | exact Kw | exact LD | exact K9 | exact PO | exact NW | exact Om | exact Lg | exact Kn | exact J6 | exact M6 | exact LQ | apply NJ | apply M7 | apply ME | apply OQ | exact Jn | apply KP | exact Ll | exact KY | exact Jp | exact Mr | exact MP | exact Lq | apply Oo | apply My | apply O9 | exact As | apply Cc | exact BE | exact KL | exact Nk | apply Op | apply Lm | apply Nz | apply Nj | apply Oy | exact LL | exact J1 | exact PB | assumption))
 ·-- any answers
  refine AO (fun e=>?_) (fun e=>⟨l,way,y,fb,z1,z2,z3,z4,rfl,hy,L⟩)
  refine ⟨(M:Int),rfl,by lia,by lia,?_⟩
  refine CN (fun i ys H'=>Tape K H' t a ns/\Frm t H H'/\∃ bs:List Bool,ys=bs.map V.bl/\bs.length=i) ⟨L.tp,L.fr,[],rfl,rfl⟩ (fun i ys H' hi ⟨_,_,bs,e,el⟩=>by
   rw [e];exact Ab (by rw [List.length_map];lia)) ?_ ?_
  ·rintro i ys H' hi ⟨Ti,Fi,bs,rfl,rfl⟩
   refine ⟨a,ns,Ti,A7 (by decide) (by decide),fun d H2 _ _ T2 f2=>?_⟩
   exact ⟨T2,Fi.trans (Bp f2),bs++[(false ^^ (d == 1))],by rw [List.map_append];rfl,by rw [List.length_append];rfl⟩
  ·rintro ys H' ⟨Ti,Fi,bs,rfl,hb⟩ l' hl
   exact ⟨l',way,y,fb,z1,z2,z3,z4,rfl,hy,Ti.upd hl,Fi.trans (Frm.upd hl),Ti.free Fi hl,bs,AD,by lia⟩
 clear L
 rintro σ Ha ⟨l,way,y,fb,z1,z2,z3,z4,rfl,hy,L⟩
 refine Ah (Dh K H t a ns m M) ?_ ?_ (by (repeat' with_reducible first | exact Hf | apply Lu | apply Mp | apply Nr | apply LP | apply HW | apply K7 | exact NK | exact Mw | apply OS | apply K2 | apply Jb | apply Ma | apply Mb | apply Lp | apply Ky | apply M0 | apply J2 | exact PN | exact LA | exact LZ | exact Kw | exact LD | exact K9 | exact PO | exact NW | exact Om | exact Lg | exact Kn | exact J6 | exact M6 | exact LQ | apply NJ | apply M7 | apply ME | apply OQ | exact Jn | apply KP | exact Ll | exact KY | exact Jp | exact Mr | exact MP | exact Lq | apply Oo | apply My | apply O9 | exact As | apply Cc | exact BE | exact KL | exact Nk | apply Op | apply Lm | apply Nz | apply Nj | apply Oy | exact LL | exact J1 | exact PB | assumption))
 ·-- odd of a set
  refine AO (fun e=>?_) (fun e=>⟨l,way,y,fb,z1,z2,z3,z4,rfl,hy,L⟩)
  refine ⟨(M:Int),rfl,by lia,by lia,?_⟩
  refine CN (fun i ys H'=>Same Ha H'/\∃ bs:List Bool,ys=bs.map V.bl/\bs.length=i) ⟨Same.refl _,[],rfl,rfl⟩ (fun i ys H' hi ⟨_,bs,e,el⟩=>by
   rw [e];exact Ab (by rw [List.length_map];lia)) ?_ ?_
  ·rintro i ys H' hi ⟨Si,bs,rfl,rfl⟩
   refine ⟨m,y,bs.length,rfl,rfl,by lia,m6,fun H2 s2=>?_⟩
   exact ⟨Si.trans s2,bs++[(false ^^ (fb == (false ^^ (sgL m y bs.length == 1))))],by rw [List.map_append];rfl,by rw [List.length_append];rfl⟩
  ·rintro ys H' ⟨Si,bs,rfl,hb⟩ l' hl
   have Fi:=L.fr.trans (Si.frm (t:=t))
   exact ⟨l',way,y,fb,z1,z2,z3,z4,rfl,hy,(L.tp.same Si).upd hl,Fi.trans (Frm.upd hl),(L.tp.same Si).free Fi hl,bs,AD,by lia⟩
 clear L
 rintro σ Ha ⟨l,way,y,fb,z1,z2,z3,z4,rfl,hy,L⟩
 refine Ah (Dh K H t a ns m M) ?_ ?_ (by (repeat' with_reducible first | exact Hf | apply Lu | apply Mp | apply Nr | apply LP | apply HW | apply K7 | exact NK | exact Mw | apply OS | apply K2 | apply Jb | apply Ma | apply Mb | apply Lp | apply Ky | apply M0 | apply J2 | exact PN | exact LA | exact LZ | exact Kw | exact LD | exact K9 | exact PO | exact NW | exact Om | exact Lg | exact Kn | exact J6 | exact M6 | exact LQ | apply NJ | apply M7 | apply ME | apply OQ | exact Jn | apply KP | exact Ll | exact KY | exact Jp | exact Mr | exact MP | exact Lq | apply Oo | apply My | apply O9 | exact As | apply Cc | exact BE | exact KL | exact Nk | apply Op | apply Lm | apply Nz | apply Nj | apply Oy | exact LL | exact J1 | exact PB | assumption))
 ·-- of few switches
  refine AO (fun e=>?_) (fun e=>⟨l,way,y,fb,z1,z2,z3,z4,rfl,hy,L⟩)
  refine fun p hp=>?_
  have hp0:H p=none:=L.tp.free L.fr hp
  have pl:p≠l:=fun e=>by
   obtain ⟨bs,hb,_⟩:=L.at_
   rw [e,hb] at hp;cases hp
  refine ⟨(M:Int),rfl,by lia,by lia,?_⟩
  refine CO (fun i σ H'=>∃ (z2 z3:Option V) (xs:BX),σ=[some (.ref t),some (.int m),some (.int M),some (.int way),some (.int y),some (.bl fb),some (.ref l),some (.ref p),z2,z3,z4]/\TabL K H t a ns M l H'/\H' p=some (dB P w p xs)/\BP H' xs/\xs.length<=i)
   ⟨z2,z3,[],rfl,L.other TP hp0 pl,AD,(fun q hq=>by cases hq),Nat.le_refl _⟩ ?_ ?_
  ·rintro i σ Hb hi ⟨z2,z3,xs,rfl,Lb,hd,hk,hx⟩
   have hi':i < M:=by lia
   have e0:(0:Int)+(i:Int)=(i:Int):=Int.zero_add _
   rw [e0]
   refine ⟨m,i,rfl,rfl,m6,fun p1 H1 n1 s1 g1=>⟨m,y,rfl,rfl,m6,fun p2 H2 n2 s2 g2=>?_⟩⟩
   have g1':=s2 _ _ g1
   refine ⟨⟨_,.of g1'⟩,⟨_,.of g2⟩,?_⟩
   refine Ik (xs:=(Ae m i).map V.bl) (ys:=(Ae m y).map V.bl) (fun j zs H'=>Same H2 H'/\zs=((Al m i y).take j).map V.bl) ⟨Same.refl _,rfl⟩ (by rw [List.length_map,List.length_map,A5,A5])
    (fun j zs H' _ ⟨s,_⟩=>⟨.of (s _ _ g1'),.of (s _ _ g2)⟩) (fun j zs H' hj ⟨_,e⟩=>by
     rw [List.length_map,A5] at hj
     rw [e];exact Ab (by rw [List.length_map,List.length_take];lia)) ?_ ?_
   ·rintro j u v zs H' pp hx hy ⟨s,rfl⟩ hpp
    have hj:j < m:=by
     have:=(List.getElem?_eq_some_iff.mp hx).1
     rw [List.length_map,A5] at this
     exact this
    have ex:u=.bl (i / 2 ^ j % 2 == 1):=by
     rw [List.getElem?_map,show Ae m i=(List.range m).map _ from rfl,List.getElem?_map,List.getElem?_range hj] at hx
     exact (Option.some.inj hx).symm
    have ey:v=.bl (y / 2 ^ j % 2 == 1):=by
     rw [List.getElem?_map,show Ae m y=(List.range m).map _ from rfl,List.getElem?_map,List.getElem?_range hj] at hy
     exact (Option.some.inj hy).symm
    subst ex ey
    refine ⟨pp,_,rfl,.of AD,rfl,_,_,rfl,_,_,rfl,rfl,?_⟩
    have s':Same H2 (upd H' pp (.tup [.bl (i / 2 ^ j % 2 == 1),.bl (y / 2 ^ j % 2 == 1)])):=s.trans (Same.upd hpp)
    refine AO (fun e=>?_) (fun e=>?_)
    ·refine ⟨s',?_⟩
     rw [shared_take hj,List.map_append,e,Bool.true_and]
     rfl
    ·refine ⟨s',?_⟩
     have e:(i / 2 ^ j % 2 == 1)=false:=by simpa using e
     rw [shared_take hj,List.map_append,e,Bool.false_and]
     rfl
   rintro zs H3 ⟨s3,rfl⟩ l3 hl3
   have hlen:((Ae m i).map V.bl).length=m:=by rw [List.length_map,A5]
   have sl:(Al m i y).length=m:=by unfold Al;simp [A5]
   rw [hlen,List.take_of_length_le (by lia)]
   generalize Al m i y=ks
   refine ⟨_,.inl ⟨.of AD,fun kk hkk=>?_⟩⟩
   have S:Same Hb (upd (upd H3 l3 (.lst (ks.map V.bl))) kk (.tup (ks.map V.bl))):=(s1.trans (s2.trans s3)).trans ((Same.upd hl3).trans (Same.upd hkk))
   have gk:upd (upd H3 l3 (.lst (ks.map V.bl))) kk (.tup (ks.map V.bl)) kk=some (.tup (ks.map V.bl)):=AD
   have Lc:=Lb.same S
   have hd:=S _ _ hd
   have hk:=OH hk S
   clear Lb
   generalize upd (upd H3 l3 (.lst (ks.map V.bl))) kk (.tup (ks.map V.bl))=Hc at *
   dsimp only [AY]
   refine Ah (fun σ H'=>∃ xs:BX,σ=[some (.ref t),some (.int m),some (.int M),some (.int way),some (.int y),some (.bl fb),some (.ref l),some (.ref p),some (.int i),some (.ref kk),z4]/\TabL K H t a ns M l H'/\H' p=some (dB P w p xs)/\BP H' xs/\xs.length<=i+1/\H' kk=some (.tup (ks.map V.bl))/\Bi xs ks=true) ?_ ?_ (by (repeat' with_reducible first | exact Hf | apply Lu | apply Mp | apply Nr | apply LP | apply HW | apply K7 | exact NK | exact Mw | apply OS | apply K2 | apply Jb | apply Ma | apply Mb | apply Lp | apply Ky | apply M0 | apply J2 | exact PN | exact LA | exact LZ | exact Kw | exact LD | exact K9 | exact PO | exact NW | exact Om | exact Lg | exact Kn | exact J6 | exact M6 | exact LQ | apply NJ | apply M7 | apply ME | apply OQ | exact Jn | apply KP | exact Ll | exact KY | exact Jp | exact Mr | exact MP | exact Lq | apply Oo | apply My | apply O9 | exact As | apply Cc | exact BE | exact KL | exact Nk | apply Op | apply Lm | apply Nz | apply Nj | apply Oy | exact LL | exact J1 | exact PB | assumption))
   ·refine ⟨xs,ks,gk,hd,hk,?_⟩
    refine AO (fun e=>?_) (fun e=>?_)
    ·have hn:Bi xs ks=false:=by simpa using e
     refine ⟨a,ns,Lc.tp,A7 (by decide) (by decide),fun d H6 _ _ T6 f6=>?_⟩
     have L6:=Lc.draw TP T6 f6
     have pt:p≠t:=TP.neT hp0
     have hd6:H6 p=some (dB P w p xs):=by rw [f6 p pt];exact hd
     have nt:∀ {b:Addr} {ys:List V},Hc b=some (.tup ys)->b≠t:=fun {b ys} hb e=>by
      obtain ⟨i,r,c,_,_,h3⟩:=Lc.tp.at_
      rw [e,h3] at hb;cases hb
     have gk6:H6 kk=some (.tup (ks.map V.bl)):=by rw [f6 kk (nt gk)];exact gk
     have hk6:BP H6 xs:=fun q hq=>by rw [f6 _ (nt (hk q hq))];exact hk q hq
     refine ⟨xs,ks,gk6,hd6,hk6,hn,Ab (by lia),?_⟩
     refine ⟨xs++[(ks,kk,(false ^^ (d == 1)))],rfl,L6.other TP hp0 pl,AD,?_,by rw [List.length_append];exact Nat.succ_le_succ hx,?_,?_⟩
     ·intro q hq
      rcases List.mem_append.mp hq with hq | hq
      ·exact Hm hk6 hd6 (fun ys z=>nomatch z) q hq
      ·have:=List.mem_singleton.mp hq
       subst this
       rw [AK (Ep gk6 hd6 (fun z=>nomatch z))];exact gk6
     ·rw [AK (Ep gk6 hd6 (fun z=>nomatch z))];exact gk6
     ·unfold Bi;rw [List.any_append];simp
    ·have hn:Bi xs ks=true:=by simpa using e
     exact ⟨xs,rfl,Lc,hd,hk,Nat.le_succ_of_le hx,gk,hn⟩
   rintro σ He ⟨xs,rfl,Le,hd,hk,hx,gk,hh⟩
   obtain ⟨c,v,hv⟩:=Ms hh
   obtain ⟨bs,hbs,hbl⟩:=Le.at_
   refine ⟨xs,ks,c,v,gk,hd,hk,hv,_,i,hbs,E4 (by rw [List.length_map];lia),?_⟩
   rw [Hz]
   refine ⟨some (.int i),some (.ref kk),xs,rfl,Le.put TP (by rw [List.length_set];exact hbl),?_,Hm hk hbs (fun ys z=>nomatch z),hx⟩
   rw [AK pl];exact hd
  ·rintro σ He ⟨z2,z3,xs,rfl,Le,_⟩
   exact ⟨l,way,y,fb,_,z2,z3,z4,rfl,hy,Le⟩
 clear L
 rintro σ Ha ⟨l,way,y,fb,z1,z2,z3,z4,rfl,hy,L⟩
 refine Ah (Dh K H t a ns m M) ?_ ?_ (by (repeat' with_reducible first | exact Hf | apply Lu | apply Mp | apply Nr | apply LP | apply HW | apply K7 | exact NK | exact Mw | apply OS | apply K2 | apply Jb | apply Ma | apply Mb | apply Lp | apply Ky | apply M0 | apply J2 | exact PN | exact LA | exact LZ | exact Kw | exact LD | exact K9 | exact PO | exact NW | exact Om | exact Lg | exact Kn | exact J6 | exact M6 | exact LQ | apply NJ | apply M7 | apply ME | apply OQ | exact Jn | apply KP | exact Ll | exact KY | exact Jp | exact Mr | exact MP | exact Lq | apply Oo | apply My | apply O9 | exact As | apply Cc | exact BE | exact KL | exact Nk | apply Op | apply Lm | apply Nz | apply Nj | apply Oy | exact LL | exact J1 | exact PB | assumption))
 ·-- some places turned
  refine ⟨a,ns,L.tp,A7 (by decide) (by decide),fun d Hb d0 d3 Tb fb'=>?_⟩
  have Lb:=L.draw TP Tb fb'
  have hmul:∃ N:Nat,d * (if decide (way > 1)=true then 1 else 0)=(N:Int)/\N<=2:=by
   by_cases h:way > 1
   ·rw [decide_eq_true h,if_pos rfl,Int.mul_one];exact ⟨d.toNat,by lia,by lia⟩
   ·rw [decide_eq_false h,if_neg (by decide),Int.mul_zero];exact ⟨0,rfl,by lia⟩
  obtain ⟨N,hN,hN2⟩:=hmul
  refine ⟨.inr (.inl ⟨by lia,by lia⟩),(N:Int),congrArg (fun z=>[V.int z]) hN,by lia,by lia,?_⟩
  refine CO (fun _=>Dh K H t a ns m M) ⟨l,way,y,fb,z1,z2,z3,z4,rfl,hy,Lb⟩ ?_ (fun σ H' h=>h)
  rintro i σ Hc hi ⟨l,way,y,fb,z1,z2,z3,z4,rfl,hy,Lc⟩
  refine ⟨a,ns,Lc.tp,hMd,fun k' Hd k0 k1 Td fd=>?_⟩
  obtain ⟨k,rfl⟩:=Int.eq_ofNat_of_zero_le k0
  have Ld:=Lc.draw TP Td fd
  obtain ⟨bs,hbs,hbl⟩:=Ld.at_
  have hk:k < bs.length:=by lia
  refine ⟨_,.bl bs[k],.inl (.of hbs),Br rfl (by rw [List.getElem?_map,List.getElem?_eq_getElem hk];rfl),_,k,hbs,E4 (by rw [List.length_map];lia),?_⟩
  rw [Hz]
  exact ⟨l,way,y,fb,z1,some (.int k),z3,some (.int (0+(i:Int))),rfl,hy,Ld.put TP (by rw [List.length_set];exact hbl)⟩
 clear L
 rintro σ Ha ⟨l,way,y,fb,z1,z2,z3,z4,rfl,hy,L⟩
 obtain ⟨bs,hbs,hbl⟩:=L.at_
 refine ⟨_,.inl ⟨.of hbs,fun p hp=>?_⟩⟩
 exact q bs p _ hbl (L.tp.free L.fr hp) AD (L.tp.upd hp) (L.fr.trans (Frm.upd hp))
noncomputable def DP (K:W.Frag):Sp:=fun vs H Q _=>match vs with
 | [v]=>∃ (m:Nat) (g:Nat->Int),SumAt K H v m (AH g (2 ^ m))/\m<=6/\Em H Q (ixL g (2 ^ m))
 | _=>False
theorem La:AN (DP K):=fun vs H Q Q' E h q=>by
 unfold DP at *
 split at q
 ·revert q;repeat' first | exact h _ _ | exact Ax h | exact At h | exact Av h | (with_reducible first | refine Exists.imp fun _=>?_ | refine And.imp_right ?_ | refine forall_imp fun _=>?_)
 ·exact q.elim
theorem OW:FnOk P w K mg base CX0 3 T.f_z15 T.d_z15 ["one"] (DP K):=by
 have G_z33:=Fg (P:=P) (w:=w) (base:=base) T
 refine T.F_z15.ok sc_z15 (fun vs H Q E h=>by unfold DP at h;split at h <;> first | rfl | exact h.elim) (fun cdv A outer s H vs Q E hr h=>?_)
 have hu:=Af hr
 have mo1:AN CP:=FB
 have hr_z33:=hr.mono (show 2<=_ by decide)
 unfold DP at h
 split at h
 rotate_left
 ·exact h.elim
 rename_i v
 obtain ⟨m,g,S,m6,q⟩:=h
 obtain ⟨a,b,vs,rfl,ha,hb,hr'⟩:=id S.at_
 have h64:2 ^ m<=64:=Nat.pow_le_pow_right (n:=2) (by decide) m6
 have i0:(0:Int)<=((2 ^ m:Nat):Int):=Int.natCast_nonneg _
 have i1:((2 ^ m:Nat):Int)<=64:=Int.ofNat_le.mpr h64
 have hvl:vs.length=(AH g (2 ^ m)).length:=by have:=hr'.length;rw [List.length_map] at this;lia
 refine ⟨_,(@AE _ _ _ _ _ (@AL _ _ 1 _ _ _ _ sc_z15.nd rfl (by (first | exact Or.inl rfl | exact Or.inr rfl)) (AM BC (@A4 _ _ _ _ (AA AC AB)) (AI G_z33 hr_z33 rfl T.m_z33 T.F_z33.kp T.b_z33 .nil AJ (AA (kIx (K:=K) (vv 0) AC) AB))) (by rfl) (by (first | exact .inl rfl | exact .inr rfl | assumption))) (@AE _ _ _ _ _ (@Bj _ _ _ _ _ _ _ _ PassesOwn.never rfl (Bb (K:=K) (kIx (K:=K) (vv 0) AC)) (Iu (K:=K) (n:=2) rfl (A1 (AS (i:=2) sc_z15.nd rfl (by (first | exact Or.inl rfl | exact Or.inr rfl))) (A1 (AS (i:=3) sc_z15.nd rfl (by (first | exact Or.inl rfl | exact Or.inr rfl))) CF))) (@AF _ _ _ (@Bv _ _ _ _ _ _ (vv 3) (Bz (vv 1) (vv 2) CS) (by rfl) (by rfl) (by rfl))) (by intro _;rfl)) (@AF _ _ _ (@AT _ _ _ _ (vv 1))))),?_⟩
 refine ⟨AX (show 1<=1000 by decide),fun p0 hp0=>?_⟩
 have s0:=Same.upd (o:=.lst [.int 0]) hp0
 refine ⟨_,.int m,.inr (Aj ha s0),rfl,m,rfl,by lia,p0,((2 ^ m:Nat):Int),_,rfl,rfl,AD,by lia,by lia,AX (by show 1 * ((2 ^ m:Nat):Int).toNat<=1000;lia),fun l hl=>?_⟩
 rw [Int.toNat_natCast,KI]
 dsimp only [AY]
 have s1:=s0.trans (Same.upd (o:=.lst (ixL (fun _=>0) (2 ^ m))) hl)
 have hl0:H l=none:=s0.free hl
 have g1:upd (upd H p0 (.lst [.int 0])) l (.lst (ixL (fun _=>0) (2 ^ m))) l=some (.lst (ixL (BF ((AH g (2 ^ m)).take 0) (fun _=>0)) (2 ^ m))):=AD
 generalize upd (upd H p0 (.lst [.int 0])) l (.lst (ixL (fun _=>0) (2 ^ m)))=H1 at *
 refine ⟨_,.ref b,.inr (Aj ha s1),rfl,.inr ⟨⟨_,Aj hb s1⟩,?_⟩⟩
 refine OA (xs:=vs) (fun i σ H'=>∃ z2 z3:Option V,σ=[some (.ref a),some (.ref l),z2,z3]/\Same H H'/\H' l=some (.lst (ixL (BF ((AH g (2 ^ m)).take i) (fun _=>0)) (2 ^ m)))) ⟨none,none,rfl,s1,g1⟩ (fun i σ H' _ ⟨_,_,_,s,_⟩=>Aj hb s) ?_ ?_
 ·rintro i x σ H2 hx ⟨z2,z3,rfl,s2,g2⟩
  obtain ⟨⟨k,wgt⟩,c,hq,rfl,hc⟩:=Cj hr' hx
  have hk:k < 2 ^ m:=(BH (List.mem_of_getElem? hq)).1
  refine ⟨_,.inr (Aj hc s2),rfl,_,_,rfl,_,_,rfl,rfl,?_⟩
  refine ⟨_,k,g2,by rw [ixL_len];exact E4 hk,?_⟩
  refine ⟨_,_,rfl,MN s2 hl0,?_⟩
  rw [AD,OD,M3 hq]
 ·rintro σ H2 ⟨z2,z3,rfl,s2,g2⟩
  rw [List.take_of_length_le (by lia),Nv (g:=g) fun j hj=>by rw [Ez,if_pos hj]] at g2
  exact q l H2 hl0 s2 g2
noncomputable def Cs (K:W.Frag):Sp:=fun vs H Q _=>match vs with
 | [.ref p,.int s,.int k]=>∃ (g:Nat->Int) (M sn kn:Nat),SqL K H p (ixL g M)/\s=sn/\k=kn/\kn < M/\0 < sn/\sn<=64/\(kn / sn % 2≠1->kn+sn < M)/\Q (.int (DA g sn kn)) H
 | _=>False
theorem NZ:AN (Cs K):=fun vs H Q Q' E h q=>by
 unfold Cs at *
 split at q
 ·revert q;repeat' first | exact h _ _ | exact Ax h | exact At h | exact Av h | (with_reducible first | refine Exists.imp fun _=>?_ | refine And.imp_right ?_ | refine forall_imp fun _=>?_)
 ·exact q.elim
theorem KU:FnOk P w K mg base CX0 1 T.f_z31 T.d_z31 ["numbers","step","place"] (Cs K):=by
 refine T.F_z31.ok PP (fun vs H Q E h=>by unfold Cs at h;split at h <;> first | rfl | exact h.elim) (fun cdv A outer s H vs Q E hr h=>?_)
 have hu:=Af hr
 unfold Cs at h
 split at h
 rotate_left
 ·exact h.elim
 rename_i p s k
 obtain ⟨g,M,sn,kn,hp,e1,e2,h1,h2,h3,h4,q⟩:=h
 subst e1 e2
 refine ⟨_,(@AE _ _ _ _ _ (@Ak _ _ _ _ _ _ _ _ (Ac (kEq (K:=K) hu) (AM A8 (AM Bo (vv 2) (vv 1)) AC) AC) (@AF _ _ _ (@AT _ _ _ _ (AM FU (kIx (K:=K) (vv 0) (AM FU (vv 2) (vv 1))) (kIx (K:=K) (vv 0) (vv 2))))) Ao) (@AF _ _ _ (@AT _ _ _ _ (AM (BS (K:=K)) (kIx (K:=K) (vv 0) (vv 2)) (kIx (K:=K) (vv 0) (AM (BS (K:=K)) (vv 2) (vv 1))))))),?_⟩
 refine ⟨A7 (by lia) (Int.le_trans (Int.ofNat_le.mpr h3) (by decide)),by decide,?_⟩
 unfold DA at q
 have ed:((kn:Int) / (sn:Int) % 2 == 1)=decide (kn / sn % 2=1):=by
  rw [<- Int.natCast_ediv]
  generalize kn / sn=d
  rw [Bool.eq_iff_iff]
  simp only [beq_iff_eq,decide_eq_true_eq]
  lia
 dsimp only [tC,mEq,isB]
 rw [ed]
 refine AO (fun e=>?_) (fun e=>?_)
 ·have e':kn / sn % 2=1:=by simpa using e
  rw [if_pos e'] at q
  have hge:sn<=kn:=by
   rcases Nat.lt_or_ge kn sn with z | z
   ·rw [Nat.div_eq_of_lt z] at e';cases e'
   ·exact z
  refine ⟨_,.int (g (kn - sn)),.inl hp,?_,_,_,.inl hp,Ef h1,q⟩
  have:(kn:Int) - (sn:Int)=((kn - sn:Nat):Int):=by lia
  rw [this]
  exact Ef (by lia)
 ·have e':¬ kn / sn % 2=1:=by simpa using e
  rw [if_neg e'] at q
  refine ⟨_,_,.inl hp,Ef h1,_,.int (g (kn+sn)),.inl hp,?_,q⟩
  have:(kn:Int)+(sn:Int)=((kn+sn:Nat):Int):=by lia
  rw [this]
  exact Ef (h4 e')
noncomputable def Da (K:W.Frag):Sp:=fun vs H Q _=>match vs with
 | [.ref p]=>∃ (g:Nat->Int) (m:Nat),SqL K H p (ixL g (2 ^ m))/\m<=6/\Em H Q (ixL (Aa g m) (2 ^ m))
 | _=>False
theorem OO:AN (Da K):=fun vs H Q Q' E h q=>by
 unfold Da at *
 split at q
 ·revert q;repeat' first | exact h _ _ | exact Ax h | exact At h | exact Av h | (with_reducible first | refine Exists.imp fun _=>?_ | refine And.imp_right ?_ | refine forall_imp fun _=>?_)
 ·exact q.elim
theorem Og:FnOk P w K mg base CX0 2 T.f_z11 T.d_z11 ["numbers"] (Da K):=by
 have G_z31:=KU (P:=P) (w:=w) (base:=base) T
 refine T.F_z11.ok sc_z11 (fun vs H Q E h=>by unfold Da at h;split at h <;> first | rfl | exact h.elim) (fun cdv A outer s H vs Q E hr h=>?_)
 have hu:=Af hr
 have mo1:AN (Cs K):=NZ
 have hr_z31:=hr.mono (show 1<=_ by decide)
 unfold Da at h
 split at h
 rotate_left
 ·exact h.elim
 rename_i p
 obtain ⟨g,m,hp,m6,q⟩:=h
 refine ⟨_,(@AE _ _ _ _ _ (@AL _ _ 1 _ _ _ _ sc_z11.nd rfl (by (first | exact Or.inl rfl | exact Or.inr rfl)) (BW (Mt (K:=K)) rfl T.z_list (by rfl) (AA (vv 0) AB)) (by rfl) (by (first | exact .inl rfl | exact .inr rfl | assumption))) (@AE _ _ _ _ _ (@AL _ _ 2 _ _ _ _ sc_z11.nd rfl (by (first | exact Or.inl rfl | exact Or.inr rfl)) AC (by rfl) (by (first | exact .inl rfl | exact .inr rfl | assumption))) (@AE _ _ _ _ _ (@Eu _ _ _ _ _ _ PassesOwn.never (Ac DQ (vv 2) (AQ (Bl (K:=K)) rfl T.z_len (by rfl) (AA (vv 1) AB))) (@AE _ _ _ _ _ (@AL _ _ 1 _ _ _ _ sc_z11.nd rfl (by (first | exact Or.inl rfl | exact Or.inr rfl)) (@BA _ _ _ _ _ _ _ (["place","sums","step"]) 1 ([1,2]) _ _ _ _ rfl (A3 rfl T.z_range (AA (AQ (Bl (K:=K)) rfl T.z_len (by rfl) (AA (vv 1) AB)) AB)) (by kernel_rfl) rfl rfl (by kernel_rfl) (fun c=>AS (i:=0) (show (["place","sums","step"]:List Str).Nodup by decide +kernel) rfl (by (first | exact Or.inl rfl | exact Or.inr rfl))) (Ad (by decide)) (fun c=>Au) (fun c=>(AI G_z31 hr_z31 rfl T.m_z31 T.F_z31.kp T.b_z31 .nil AJ (AA (vv 1) (AA (vv 2) (AA (vv 0) AB))))) (by intro _;rfl)) (by rfl) (by (first | exact .inl rfl | exact .inr rfl | assumption))) (@AF _ _ _ (@AL _ _ 2 _ _ _ _ sc_z11.nd rfl (by (first | exact Or.inl rfl | exact Or.inr rfl)) (AM BC (vv 2) AC) (by rfl) (by (first | exact .inl rfl | exact .inr rfl | assumption)))))) (@AF _ _ _ (@AT _ _ _ _ (vv 1)))))),?_⟩
 have hin:=Jl m (by lia)
 have hpow:∀ s,s < m->2 ^ s < 2 ^ m:=fun s hs=>Nat.pow_lt_pow_right (by decide) hs
 have hpm:∀ s,s < m->2 ^ s<=64:=fun s hs=>Nat.le_trans (Nat.le_of_lt (hpow s hs)) (Nat.pow_le_pow_right (n:=2) (j:=6) (by decide) m6)
 have h64:2 ^ m<=64:=Nat.pow_le_pow_right (n:=2) (by decide) m6
 have hpos:∀ s:Nat,0 < 2 ^ s:=fun s=>Nat.two_pow_pos s
 refine ⟨_,.inl hp,fun l hl=>?_⟩
 dsimp only [AY]
 have h0:ixL g (2 ^ m)=ixL (Aa g 0) (2 ^ m):=rfl
 rw [h0]
 refine Ah (fun σ H'=>σ=[some (.ref p),some (.ref l),some (.int (2 ^ 0:Nat))]/\upd H l (.lst (ixL (Aa g 0) (2 ^ m)))=H') ⟨rfl,rfl⟩ ?_ (by (repeat' with_reducible first | exact Hf | apply Lu | apply Mp | apply Nr | apply LP | apply HW | apply K7 | exact NK | exact Mw | apply OS | apply K2 | apply Jb | apply Ma | apply Mb | apply Lp | apply Ky | apply M0 | apply J2 | exact PN | exact LA | exact LZ | exact Kw | exact LD | exact K9 | exact PO | exact NW | exact Om | exact Lg | exact Kn | exact J6 | exact M6 | exact LQ | apply NJ | apply M7 | apply ME | apply OQ | exact Jn | apply KP | exact Ll | exact KY | exact Jp | exact Mr | exact MP | exact Lq | apply Oo | apply My | apply O9 | exact As | apply Cc | exact BE | exact KL | exact Nk | apply Op | apply Lm | apply Nz | apply Nj | apply Oy | exact LL | exact J1 | exact PB | assumption))
 rintro σ _ ⟨rfl,rfl⟩
 generalize hM:2 ^ m=M at *
 have hMr:(M:Int) < 2 ^ 62:=Int.lt_of_le_of_lt (Int.ofNat_le.mpr h64) (by decide)
 refine ⟨fun f σ H'=>∃ (s:Nat) (l:Addr),s<=m/\f=m - s/\σ=[some (.ref p),some (.ref l),some (.int (2 ^ s:Nat))]/\Same H H'/\H l=none/\H' l=some (.lst (ixL (Aa g s) M)),⟨m,0,l,Nat.zero_le _,rfl,rfl,Same.upd hl,hl,AD⟩,?_⟩
 clear hl
 rintro f σ H1 ⟨s,l,hs,rfl,rfl,s1,hl,g1⟩
 refine ⟨M,.inl ⟨_,.of g1,ixL_len.symm⟩,?_⟩
 refine AO (fun e=>?_) (fun e=>?_)
 ·have hlt:2 ^ s < M:=by have:((2 ^ s:Nat):Int) < (M:Int):=of_decide_eq_true e;lia
  have hsm:s < m:=by
   rcases Nat.lt_or_ge s m with z | z
   ·exact z
   ·have:s=m:=by lia
    subst this;lia
  refine ⟨M,.inl ⟨_,.of g1,ixL_len.symm⟩,(M:Int),rfl,by lia,by lia,?_⟩
  refine CN (fun i ys H'=>H1=H'/\ys=(ixL (Aa g (s+1)) M).take i) ⟨rfl,rfl⟩ (fun i ys H' hi ⟨_,e⟩=>by
   rw [e];exact Ab (by rw [List.length_take,ixL_len];lia)) ?_ ?_
  ·rintro i ys H' hi ⟨rfl,rfl⟩
   have hi':i < M:=by lia
   refine ⟨Aa g s,M,2 ^ s,i,.of g1,rfl,by lia,hi',hpos s,hpm s hsm,hin s hsm i hi',rfl,?_⟩
   rw [KF hi']
   rfl
  ·rintro ys H' ⟨rfl,rfl⟩ l' hl'
   refine ⟨.inr (.inr ⟨by decide,by decide⟩),m - (s+1),by lia,s+1,l',hsm,rfl,?_,s1.trans (Same.upd hl'),s1.free hl',?_⟩
   ·show [some (V.ref p),some (V.ref l'),some (V.int (((2 ^ s:Nat):Int) * 2))]=_
    rw [Nat.pow_succ,Int.natCast_mul]
    rfl
   ·rw [Int.toNat_natCast,List.take_of_length_le (by rw [ixL_len];lia)]
    exact AD
 ·have hsm:s=m:=by
   rcases Nat.lt_or_ge s m with z | z
   ·have:=hpow s z
    exact (e (decide_eq_true (by lia))).elim
   ·lia
  subst hsm
  exact q l H1 hl s1 g1
noncomputable def tabB (g:Nat->Int) (m:Nat):Bool:=((List.range (2 ^ m)).map fun p=>decide ((((Aa g m p).natAbs:Nat):Int)=((2 ^ m:Nat):Int))).all id
noncomputable def Fs (K:W.Frag) (C:Addr):Sp:=fun vs H Q E=>match vs with
 | [v]=>∃ (m:Nat) (g:Nat->Int),SumAt K H v m (AH g (2 ^ m))/\m<=6/\(tabB g m=true->∀ p H',H p=none->Same H H'->H' p=some (.tup (((List.range (2 ^ m)).map fun p=>decide (Aa g m p < 0)).map V.bl))->Q (.ref p) H')/\(tabB g m=false->∀ H',Same H H'->E (.ref C) none H')
 | _=>False
theorem Mi:FnOk P w K mg base (CXE P w) 4 T.f_z34 T.d_z34 ["one"] (Fs K T.C_NoTable):=by
 have G_z11:=Og (P:=P) (w:=w) (base:=base) T;have G_z33:=Fg (P:=P) (w:=w) (base:=base) T;have G_z15:=OW (P:=P) (w:=w) (base:=base) T
 refine T.F_z34.okE sc_z34 (fun vs H Q E h=>by unfold Fs at h;split at h <;> first | rfl | exact h.elim) (fun cdv A outer s H vs Q E hr h=>?_)
 have hu:=Af hr
 have mo1:AN CP:=FB
 have mo2:AN (DP K):=La
 have mo3:AN (Da K):=OO
 have hr_z11:=hr.mono (show 2<=_ by decide);have hr_z33:=hr.mono (show 2<=_ by decide);have hr_z15:=hr.mono (show 3<=_ by decide)
 unfold Fs at h
 split at h
 rotate_left
 ·exact h.elim
 rename_i v
 obtain ⟨m,g,S,m6,q,qE⟩:=h
 obtain ⟨a,b,vs,rfl,ha,hb',hr'⟩:=id S.at_
 have h64:2 ^ m<=64:=Nat.pow_le_pow_right (n:=2) (by decide) m6
 have h0:=Nat.two_pow_pos m
 refine ⟨_,(@AE _ _ _ _ _ (PS.nox (@AL _ _ 1 _ _ _ _ sc_z34.nd rfl (by (first | exact Or.inl rfl | exact Or.inr rfl)) (AI G_z11 hr_z11 rfl T.m_z11 T.F_z11.kp T.b_z11 .nil AJ (AA (AI G_z15 hr_z15 rfl T.m_z15 T.F_z15.kp T.b_z15 .nil AJ (AA (vv 0) AB)) AB)) (by rfl) (by (first | exact .inl rfl | exact .inr rfl | assumption)))) (@AE _ _ _ _ _ (PS.nox (@AL _ _ 2 _ _ _ _ sc_z34.nd rfl (by (first | exact Or.inl rfl | exact Or.inr rfl)) (AI G_z33 hr_z33 rfl T.m_z33 T.F_z33.kp T.b_z33 .nil AJ (AA (kIx (K:=K) (vv 0) AC) AB)) (by rfl) (by (first | exact .inl rfl | exact .inr rfl | assumption)))) (@AE _ _ _ _ _ (@Ak _ _ _ _ _ _ _ _ (PT.nox (EH (Bf (AQ (JV (K:=K) rfl) rfl T.z_all (by rfl) (AA (BA (N':=["top","bottom"]) (own:=1) (ix:=[2]) rfl (Bb (K:=K) (vv 1)) (by kernel_rfl) rfl rfl (by kernel_rfl) (fun c=>AS (i:=0) (show (["top","bottom"]:List Str).Nodup by decide +kernel) rfl (by (first | exact Or.inl rfl | exact Or.inr rfl))) (Ad (by decide)) (fun c=>Au) (fun c=>(A9 (kEq (K:=K) hu) (AQ Dl rfl T.z_abs (by rfl) (AA (vv 0) AB)) (vv 1)))) AB))))) (@AF _ _ _ (PV (fun _ _ _ _ _ _ _ I hm q=>Kr I hm q) rfl rfl T.mC_NoTable T.xi_NoTable (AA Dp AB))) Ao) (@AF _ _ _ (PS.nox (@AT _ _ _ _ (BW (CQ (K:=K)) rfl T.z_tuple (by rfl) (AA (@BA _ _ _ _ _ _ _ ["top"] 1 [] _ _ _ _ rfl (Bb (K:=K) (vv 1)) (by kernel_rfl) rfl rfl (by kernel_rfl) (fun c=>AS (i:=0) (show (["top"]:List Str).Nodup by decide +kernel) rfl (by (first | exact Or.inl rfl | exact Or.inr rfl))) (Ad (by decide)) (fun c=>Au) (fun c=>(A9 DQ (vv 0) AC)) (by intro _;rfl)) AB)))))))),?_⟩
 refine ⟨m,_,S,m6,fun l0 H1 hl0 s1 g1=>⟨_,m,.of g1,m6,fun l H2 hl s2 g2=>?_⟩⟩
 have s12:=s1.trans s2
 dsimp only [AY]
 refine ⟨_,.int m,.inr (Aj ha s12),rfl,m,rfl,by lia,?_⟩
 dsimp only [AY]
 have hgl:SqL K H2 l (ixL (Aa g m) (2 ^ m)):=.of g2
 refine Ah (fun σ H'=>tabB g m=true/\σ=[some (.ref a),some (.ref l),some (.int (2 ^ m:Nat))]/\Same H H'/\SqL K H' l (ixL (Aa g m) (2 ^ m))) ?_ ?_ (HW (by (repeat' with_reducible first | exact Hf | apply Lu | apply Mp | apply Nr | apply LP | apply HW | apply K7 | exact NK | exact Mw | apply OS | apply K2 | apply Jb | apply Ma | apply Mb | apply Lp | apply Ky | apply M0 | apply J2 | exact PN | exact LA | exact LZ | exact Kw | exact LD | exact K9 | exact PO | exact NW | exact Om | exact Lg | exact Kn | exact J6 | exact M6 | exact LQ | apply NJ | apply M7 | apply ME | apply OQ | exact Jn | apply KP | exact Ll | exact KY | exact Jp | exact Mr | exact MP | exact Lq | apply Oo | apply My | apply O9 | exact As | apply Cc | exact BE | exact KL | exact Nk | apply Op | apply Lm | apply Nz | apply Nj | apply Oy | exact LL | exact J1 | exact PB | assumption)) Lf Hf)
 ·refine .inl ⟨⟨_,hgl⟩,?_⟩
  refine Du (xs:=ixL (Aa g m) (2 ^ m)) (fun i ys H'=>H'=H2/\ys=((List.range i).map fun p=>decide ((((Aa g m p).natAbs:Nat):Int)=((2 ^ m:Nat):Int))).map V.bl) ⟨rfl,rfl⟩ (fun i ys H' _ ⟨e,_⟩=>by rw [e];exact hgl) (fun i ys H' hi ⟨_,e⟩=>by
   rw [ixL_len] at hi
   rw [e,List.length_map,List.length_map,List.length_range];exact Ab (by lia)) ?_ ?_
  ·rintro i x ys H' hx ⟨rfl,rfl⟩
   have hi:i < 2 ^ m:=by
    have:=(List.getElem?_eq_some_iff.mp hx).1
    rwa [ixL_len] at this
   rw [Bc hi] at hx
   cases hx
   refine ⟨rfl,?_⟩
   have eb:(false ^^ ((((Aa g m i).natAbs:Nat):Int) == ((2 ^ m:Nat):Int)))=decide ((((Aa g m i).natAbs:Nat):Int)=((2 ^ m:Nat):Int)):=by rw [Bool.false_xor];rfl
   rw [Fo,eb]
  ·rintro ys H' ⟨rfl,rfl⟩ k hk
   rw [ixL_len]
   refine ⟨_,.of AD,?_⟩
   have s3:=s12.trans (Same.upd (o:=.lst (((List.range (2 ^ m)).map fun p=>decide ((((Aa g m p).natAbs:Nat):Int)=((2 ^ m:Nat):Int))).map V.bl)) hk)
   refine AO (fun e=>?_) (fun e=>?_)
   ·have e2:tabB g m=false:=by
     have e':(!(tabB g m))=true:=e
     revert e'
     cases tabB g m <;> simp
    exact ⟨by simp,qE e2 _ s3⟩
   ·have e2:tabB g m=true:=by
     have e':¬((!(tabB g m))=true):=e
     revert e'
     cases tabB g m <;> simp
    exact ⟨e2,rfl,s3,(Same.upd hk).sqL hgl⟩
 rintro σ H3 ⟨et,rfl,s3,g3⟩
 refine .inl ⟨⟨_,g3⟩,?_⟩
 refine Du (xs:=ixL (Aa g m) (2 ^ m)) (fun i ys H'=>H'=H3/\ys=((List.range i).map fun p=>decide (Aa g m p < 0)).map V.bl) ⟨rfl,rfl⟩ (fun i ys H' _ ⟨e,_⟩=>by rw [e];exact g3) (fun i ys H' hi ⟨_,e⟩=>by
  rw [ixL_len] at hi
  rw [e,List.length_map,List.length_map,List.length_range];exact Ab (by lia)) ?_ ?_
 ·rintro i x ys H' hx ⟨rfl,rfl⟩
  have hi:i < 2 ^ m:=by
   have:=(List.getElem?_eq_some_iff.mp hx).1
   rwa [ixL_len] at this
  rw [Bc hi] at hx
  cases hx
  refine ⟨rfl,?_⟩
  rw [Fo]
 ·rintro ys H' ⟨rfl,rfl⟩ k hk
  rw [ixL_len]
  refine ⟨_,.inl ⟨.of AD,fun p hp=>?_⟩⟩
  have s4:=s3.trans (Same.upd (o:=.lst (((List.range (2 ^ m)).map fun p=>decide (Aa g m p < 0)).map V.bl)) hk)
  exact q et p _ (s4.free hp) (s4.trans (Same.upd hp)) AD
noncomputable def DK (K:W.Frag):Sp:=fun vs H Q _=>match vs with
 | [v]=>∃ (m:Nat) (g:Nat->Int),SumAt K H v m (AH g (2 ^ m))/\m<=6/\(tabB g m=true->∀ p H',H p=none->Same H H'->H' p=some (.tup (((List.range (2 ^ m)).map fun p=>decide (Aa g m p < 0)).map V.bl))->Q (.ref p) H')/\(tabB g m=false->∀ H',Same H H'->Q (.str "none") H')
 | _=>False
theorem Mj:FnOk P w K mg base CX0 5 T.f_z20 T.d_z20 ["_law_whole"] (DK K):=by
 have G_z34:=Mi (P:=P) (w:=w) (base:=base) T
 refine T.F_z20.ok sc_z20 (fun vs H Q E h=>by unfold DK at h;split at h <;> first | rfl | exact h.elim) (fun cdv A outer s H vs Q E hr h=>?_)
 have hu:=Af hr
 have hr_z34:=hr.mono (show 4<=_ by decide)
 unfold DK at h
 split at h
 rotate_left
 ·exact h.elim
 rename_i v
 obtain ⟨m,g,S,m6,q,qE⟩:=h
 obtain ⟨a,b,vs,rfl,ha,hb',hr'⟩:=id S.at_
 refine ⟨_,(@AE _ _ _ _ _ (@AL _ _ 1 _ _ _ _ sc_z20.nd rfl (by (first | exact Or.inl rfl | exact Or.inr rfl)) Fk (by rfl) (by (first | exact .inl rfl | exact .inr rfl | assumption))) (@AE _ _ _ _ _ (@AL _ _ 2 _ _ _ _ sc_z20.nd rfl (by (first | exact Or.inl rfl | exact Or.inr rfl)) Fk (by rfl) (by (first | exact .inl rfl | exact .inr rfl | assumption))) (@AE _ _ _ _ _ (Pb (i:=2) (j:=3) sc_z20.nd rfl (by (first | exact Or.inl rfl | exact Or.inr rfl)) rfl rfl rfl rfl rfl T.mC_FlipError (N0 G_z34 hr_z34 rfl T.m_z34 T.F_z34.kp T.b_z34 .nil (AA (vv 0) AB)) (fun _=>(@AF _ _ _ (@AL _ _ 1 _ _ _ _ sc_z20.nd rfl (by (first | exact Or.inl rfl | exact Or.inr rfl)) (vv 3) (by rfl) (by (first | exact .inl rfl | exact .inr rfl | assumption)))))) (@AE _ _ _ _ _ (@Ak _ _ _ _ _ _ _ _ (Ac Kt (vv 1) Fk) (@AF _ _ _ (@AT _ _ _ _ (vv 2))) Ao) (@AE _ _ _ _ _ (@Ak _ _ _ _ _ _ _ _ (Bf (AQ (Fx (K:=K)) rfl T.z_isinstance (by rfl) (AA (vv 1) (AA (BN (AA (CT (v:=.ref T.C_Alike) rfl T.mC_Alike rfl) (AA (CT (v:=.ref T.C_NoEnd) rfl T.mC_NoEnd rfl) (AA (CT (v:=.ref T.C_NoName) rfl T.mC_NoName rfl) (AA (CT (v:=.ref T.C_NoRow) rfl T.mC_NoRow rfl) (AA (CT (v:=.ref T.C_NoText) rfl T.mC_NoText rfl) (AA (CT (v:=.ref T.C_NoThing) rfl T.mC_NoThing rfl) AB))))))) AB)))) (@AF _ _ _ (@AT _ _ _ _ Dp)) Ao) (@AF _ _ _ (@AT _ _ _ _ (FL (PW.pt (II (Bf (AQ (Fx (K:=K)) rfl T.z_isinstance (by rfl) (AA (vv 1) (AA (CT (v:=.ref T.C_NoTable) rfl T.mC_NoTable rfl) AB)))) (HR (Bf (AQ (Fx (K:=K)) rfl T.z_isinstance (by rfl) (AA (vv 1) (AA (A2 (v:=.ty "ValueError") rfl T.z_ValueError (by rfl) rfl) AB))))))) Dp Dp)))))))),?_⟩
 refine ⟨m,g,S,m6,fun et p H' hp s1 gp=>?_,fun ef H' s1=>⟨T.xm_NoTable_FlipError,fun x hx=>?_⟩⟩
 ·show Q (.ref p) H'
  exact q et p H' hp s1 gp
 ·have sx:Same H (upd H' x (CJ x (.ref T.C_NoTable) none)):=s1.trans (Same.upd hx)
  refine ⟨(show 6<=sizeLine by decide),fun p hp=>?_⟩
  have nxp:x≠p:=fun z=>by rw [<- z,AD] at hp;cases hp
  have e0:∀ o,ExcAt (upd (upd H' x (CJ x (.ref T.C_NoTable) none)) p o) x T.C_NoTable none:=fun o=>⟨by rw [AK nxp,AD],fun d hd=>nomatch hd⟩
  refine ⟨T.C_NoTable,none,false,e0 _,T.xc_NoTable,.inr ⟨[T.C_Alike,T.C_NoEnd,T.C_NoName,T.C_NoRow,T.C_NoText,T.C_NoThing],AD,?_⟩,?_⟩
  ·simp only [List.map,W.kitAny,T.kk_NoTable_Alike,T.kk_NoTable_NoEnd,T.kk_NoTable_NoName,T.kk_NoTable_NoRow,T.kk_NoTable_NoText,T.kk_NoTable_NoThing]
  refine ⟨T.C_NoTable,none,true,e0 _,T.xc_NoTable,.inl T.kk_NoTable_NoTable,?_⟩
  refine ⟨T.C_NoTable,none,true,e0 _,T.xc_NoTable,T.kk_NoTable_ValueError,?_⟩
  show Q (.str "none") _
  exact qE ef _ (sx.trans (Same.upd hp))
noncomputable def FZ:Sp:=fun vs H Q _=>match vs with
 | [.int a,.int b]=>0<=a/\0<=b/\Q (.int (Int.gcd a b)) H
 | _=>False
theorem Mz:FnOk P w K mg base CX0 1 T.f_z10 T.d_z10 ["one","other"] FZ:=by
 skip
 refine T.F_z10.ok sc_z10 (fun vs H Q E h=>by unfold FZ at h;split at h <;> first | rfl | exact h.elim) (fun cdv A outer s H vs Q E hr h=>?_)
 have hu:=Af hr
 skip
 unfold FZ at h
 split at h
 rotate_left
 ·exact h.elim
 rename_i a b
 obtain ⟨h1,h2,k⟩:=h
 refine ⟨_,(@AE _ _ _ _ _ (@AL _ _ 2 _ _ _ _ sc_z10.nd rfl (by (first | exact Or.inl rfl | exact Or.inr rfl)) (vv 0) (by rfl) (by (first | exact .inl rfl | exact .inr rfl | assumption))) (@AE _ _ _ _ _ (@AL _ _ 3 _ _ _ _ sc_z10.nd rfl (by (first | exact Or.inl rfl | exact Or.inr rfl)) (vv 1) (by rfl) (by (first | exact .inl rfl | exact .inr rfl | assumption))) (@AE _ _ _ _ _ (@Eu _ _ _ _ _ _ PassesOwn.never (Ac Ci (vv 3) AC) (@AE _ _ _ _ _ (@AL _ _ 4 _ _ _ _ sc_z10.nd rfl (by (first | exact Or.inl rfl | exact Or.inr rfl)) (AM A8 (vv 2) (vv 3)) (by rfl) (by (first | exact .inl rfl | exact .inr rfl | assumption))) (@AE _ _ _ _ _ (@AL _ _ 2 _ _ _ _ sc_z10.nd rfl (by (first | exact Or.inl rfl | exact Or.inr rfl)) (vv 3) (by rfl) (by (first | exact .inl rfl | exact .inr rfl | assumption))) (@AF _ _ _ (@AL _ _ 3 _ _ _ _ sc_z10.nd rfl (by (first | exact Or.inl rfl | exact Or.inr rfl)) (vv 4) (by rfl) (by (first | exact .inl rfl | exact .inr rfl | assumption))))))) (@AF _ _ _ (@AT _ _ _ _ (vv 2)))))),?_⟩
 refine ⟨fun m σ H'=>∃ (x y:Int) (z:Option V),σ=[some (.int a),some (.int b),some (.int x),some (.int y),z]/\H'=H/\0<=x/\0<=y/\Int.gcd x y=Int.gcd a b/\m=y.toNat,⟨_,a,b,none,rfl,rfl,h1,h2,rfl,rfl⟩,?_⟩
 rintro m σ H' ⟨x,y,z,rfl,rfl,hx,hy,hg,rfl⟩
 show if decide (0 < y)=true then _ else _
 refine AO (fun h=>?_) (fun h=>?_)
 ·have hy0:0 < y:=of_decide_eq_true h
  refine ⟨hy0,?_⟩
  have h3:=Int.emod_nonneg x (show y≠0 by lia)
  have h4:=Int.emod_lt_of_pos x hy0
  refine ⟨(x % y).toNat,by lia,y,x % y,_,rfl,rfl,hy,h3,?_,rfl⟩
  rw [<- hg,Int.gcd_comm x y]
  exact Gr hx hy
 ·have hy0:y=0:=by
   have:¬ 0 < y:=fun z=>h (decide_eq_true z)
   lia
  subst hy0
  show Q (.int x) H'
  rw [Int.gcd_zero_right] at hg
  have e:x=((a.gcd b:Nat):Int):=by rw [<- hg];lia
  rw [e]
  exact k
noncomputable def Bg:Sp:=fun vs H Q _=>match vs with
 | [.int a,.int b]=>0 < b/\b<=64/\∀ p,H p=none->Q (.ref p) (upd H p (.tup [.int (a / (a.gcd b:Int)),.int (b / (a.gcd b:Int))]))
 | _=>False
theorem JF:AN Bg:=fun vs H Q Q' E h q=>by
 unfold Bg at *
 split at q
 ·revert q;repeat' first | exact h _ _ | exact Ax h | exact At h | exact Av h | (with_reducible first | refine Exists.imp fun _=>?_ | refine And.imp_right ?_ | refine forall_imp fun _=>?_)
 ·exact q.elim
theorem Hn {a b:Int} (hb:0 < b) (sb:b<=64):okDiv (a.gcd b:Int):=by
 have h1:(a.gcd b:Int)<=b:=Int.le_of_dvd hb (Int.gcd_dvd_right ..)
 have h2:0 < a.gcd b:=Int.gcd_pos_of_ne_zero_right a (by lia)
 refine ⟨by lia,by lia⟩
theorem MW:FnOk P w K mg base CX0 2 T.f_z29 T.d_z29 ["top","bottom"] Bg:=by
 have G_z10:=Mz (P:=P) (w:=w) (base:=base) T
 refine T.F_z29.ok sc_z29 (fun vs H Q E h=>by unfold Bg at h;split at h <;> first | rfl | exact h.elim) (fun cdv A outer s H vs Q E hr h=>?_)
 have hu:=Af hr
 have hr_z10:=hr.mono (show 1<=_ by decide)
 unfold Bg at h
 split at h
 rotate_left
 ·exact h.elim
 rename_i a b
 obtain ⟨hb,sb,k⟩:=h
 refine ⟨_,(@AE _ _ _ _ _ (@AL _ _ 2 _ _ _ _ sc_z29.nd rfl (by (first | exact Or.inl rfl | exact Or.inr rfl)) (AI G_z10 hr_z10 rfl T.m_z10 T.F_z10.kp T.b_z10 .nil AJ (AA (AQ Dl rfl T.z_abs (by rfl) (AA (vv 0) AB)) (AA (AQ Dl rfl T.z_abs (by rfl) (AA (vv 1) AB)) AB))) (by rfl) (by (first | exact .inl rfl | exact .inr rfl | assumption))) (@AE _ _ _ _ _ (@Ak _ _ _ _ _ _ _ _ (Ac DQ (vv 1) AC) (@AF _ _ _ (@AL _ _ 2 _ _ _ _ sc_z29.nd rfl (by (first | exact Or.inl rfl | exact Or.inr rfl)) (CM CL (vv 2)) (by rfl) (by (first | exact .inl rfl | exact .inr rfl | assumption)))) Ao) (@AF _ _ _ (@AT _ _ _ _ (BN (AA (AM Bo (vv 0) (vv 2)) (AA (AM Bo (vv 1) (vv 2)) AB))))))),?_⟩
 refine ⟨by lia,by lia,?_⟩
 dsimp only
 have eg:(Int.gcd (a.natAbs:Int) (b.natAbs:Int))=a.gcd b:=by unfold Int.gcd;simp
 have m3:=Hn (a:=a) hb sb
 refine Ah (fun σ' H1=>H1=H/\σ'=[some (.int a),some (.int b),some (.int (a.gcd b:Int))]) ?_ ?_ (by (repeat' with_reducible first | exact Hf | apply Lu | apply Mp | apply Nr | apply LP | apply HW | apply K7 | exact NK | exact Mw | apply OS | apply K2 | apply Jb | apply Ma | apply Mb | apply Lp | apply Ky | apply M0 | apply J2 | exact PN | exact LA | exact LZ | exact Kw | exact LD | exact K9 | exact PO | exact NW | exact Om | exact Lg | exact Kn | exact J6 | exact M6 | exact LQ | apply NJ | apply M7 | apply ME | apply OQ | exact Jn | apply KP | exact Ll | exact KY | exact Jp | exact Mr | exact MP | exact Lq | apply Oo | apply My | apply O9 | exact As | apply Cc | exact BE | exact KL | exact Nk | apply Op | apply Lm | apply Nz | apply Nj | apply Oy | exact LL | exact J1 | exact PB | assumption))
 ·refine AO (fun e=>?_) (fun e=>?_)
  ·have hb0:b < 0:=of_decide_eq_true e
   lia
  ·exact ⟨rfl,by rw [eg];rfl⟩
 rintro σ' H1 ⟨rfl,rfl⟩
 refine ⟨m3,m3,?_⟩
 exact ⟨by show 2<=sizeLine;rw [sizeLine_eq];decide,fun p hp=>k p hp⟩
theorem O2:FnOk P w K mg base CX0 1 T.f_z13 T.d_z13 ["_law_top","_law_bottom"] Bg:=by
 refine T.F_z13.ok sc_z13 (fun vs H Q E h=>by unfold Bg at h;split at h <;> first | rfl | exact h.elim) (fun cdv A outer s H vs Q E hr h=>?_)
 have hu:=Af hr
 unfold Bg at h
 split at h
 rotate_left
 ·exact h.elim
 rename_i a b
 obtain ⟨hb,sb,k⟩:=h
 refine ⟨_,(@AE _ _ _ _ _ (@AL _ _ 2 _ _ _ _ sc_z13.nd rfl (by (first | exact Or.inl rfl | exact Or.inr rfl)) (AQ Dl rfl T.z_abs (by rfl) (AA (vv 0) AB)) (by rfl) (by (first | exact .inl rfl | exact .inr rfl | assumption))) (@AE _ _ _ _ _ (@AL _ _ 3 _ _ _ _ sc_z13.nd rfl (by (first | exact Or.inl rfl | exact Or.inr rfl)) (vv 1) (by rfl) (by (first | exact .inl rfl | exact .inr rfl | assumption))) (@AE _ _ _ _ _ (@Eu _ _ _ _ _ _ PassesOwn.never (Ac Ci (vv 3) AC) (@AE _ _ _ _ _ (@AL _ _ 4 _ _ _ _ sc_z13.nd rfl (by (first | exact Or.inl rfl | exact Or.inr rfl)) (AM A8 (vv 2) (vv 3)) (by rfl) (by (first | exact .inl rfl | exact .inr rfl | assumption))) (@AE _ _ _ _ _ (@AL _ _ 2 _ _ _ _ sc_z13.nd rfl (by (first | exact Or.inl rfl | exact Or.inr rfl)) (vv 3) (by rfl) (by (first | exact .inl rfl | exact .inr rfl | assumption))) (@AF _ _ _ (@AL _ _ 3 _ _ _ _ sc_z13.nd rfl (by (first | exact Or.inl rfl | exact Or.inr rfl)) (vv 4) (by rfl) (by (first | exact .inl rfl | exact .inr rfl | assumption))))))) (@AF _ _ _ (@AT _ _ _ _ (BN (AA (AM Bo (vv 0) (vv 2)) (AA (AM Bo (vv 1) (vv 2)) AB)))))))),?_⟩
 have eg:(Int.gcd (a.natAbs:Int) b)=a.gcd b:=by unfold Int.gcd;simp
 have m3:=Hn (a:=a) hb sb
 refine ⟨fun m σ H'=>∃ (x y:Int) (z:Option V),σ=[some (.int a),some (.int b),some (.int x),some (.int y),z]/\H'=H/\0<=x/\0<=y/\Int.gcd x y=a.gcd b/\m=y.toNat,⟨_,(a.natAbs:Int),b,none,rfl,rfl,by lia,by lia,eg,rfl⟩,?_⟩
 rintro m σ H' ⟨x,y,z,rfl,rfl,hx,hy,hg,rfl⟩
 show if decide (0 < y)=true then _ else _
 refine AO (fun h=>?_) (fun h=>?_)
 ·have hy0:0 < y:=of_decide_eq_true h
  refine ⟨hy0,?_⟩
  have h3:=Int.emod_nonneg x (show y≠0 by lia)
  have h4:=Int.emod_lt_of_pos x hy0
  refine ⟨(x % y).toNat,by lia,y,x % y,_,rfl,rfl,hy,h3,?_,rfl⟩
  rw [<- hg,Int.gcd_comm x y]
  exact Gr hx hy
 ·have hy0:y=0:=by
   have:¬ 0 < y:=fun z=>h (decide_eq_true z)
   lia
  subst hy0
  rw [Int.gcd_zero_right] at hg
  have e:x=((a.gcd b:Nat):Int):=by rw [<- hg];lia
  subst e
  refine ⟨m3,m3,?_⟩
  exact ⟨by show 2<=sizeLine;rw [sizeLine_eq];decide,fun p hp=>k p hp⟩
noncomputable def GH:Sp:=fun vs H Q _=>match vs with
 | [.int x]=>∃ a:Nat,x=a/\a < 2 ^ 64/\Q (.int (many a)) H
 | _=>False
theorem NX:FnOk P w K mg base CX0 1 T.f_z32 T.d_z32 ["subset"] GH:=by
 refine T.F_z32.ok sc_z32 (fun vs H Q E h=>by unfold GH at h;split at h <;> first | rfl | exact h.elim) (fun cdv A outer s H vs Q E hr h=>?_)
 have hu:=Af hr
 unfold GH at h
 split at h
 rotate_left
 ·exact h.elim
 rename_i x
 obtain ⟨a,e1,h1,q⟩:=h
 subst e1
 refine ⟨_,(@AE _ _ _ _ _ (@AL _ _ 1 _ _ _ _ sc_z32.nd rfl (by (first | exact Or.inl rfl | exact Or.inr rfl)) AC (by rfl) (by (first | exact .inl rfl | exact .inr rfl | assumption))) (@AE _ _ _ _ _ (@AL _ _ 2 _ _ _ _ sc_z32.nd rfl (by (first | exact Or.inl rfl | exact Or.inr rfl)) (vv 0) (by rfl) (by (first | exact .inl rfl | exact .inr rfl | assumption))) (@AE _ _ _ _ _ (@Eu _ _ _ _ _ _ PassesOwn.never (Ac Ci (vv 2) AC) (@AE _ _ _ _ _ (@AL _ _ 1 _ _ _ _ sc_z32.nd rfl (by (first | exact Or.inl rfl | exact Or.inr rfl)) (AM (BS (K:=K)) (vv 1) (AM A8 (vv 2) AC)) (by rfl) (by (first | exact .inl rfl | exact .inr rfl | assumption))) (@AF _ _ _ (@AL _ _ 2 _ _ _ _ sc_z32.nd rfl (by (first | exact Or.inl rfl | exact Or.inr rfl)) (AM Bo (vv 2) AC) (by rfl) (by (first | exact .inl rfl | exact .inr rfl | assumption)))))) (@AF _ _ _ (@AT _ _ _ _ (vv 1)))))),?_⟩
 refine ⟨fun f σ H'=>H'=H/\∃ m r:Nat,σ=[some (.int a),some (.int m),some (.int r)]/\r < 2 ^ f/\m+manyF f r=many a,⟨64,rfl,0,a,rfl,h1,by unfold many;exact Nat.zero_add _⟩,?_⟩
 rintro f σ H' ⟨rfl,m,r,rfl,hr1,hm⟩
 refine AO (fun e=>?_) (fun e=>?_)
 ·have r0:0 < r:=by have:(0:Int) < (r:Int):=of_decide_eq_true e;lia
  cases f with
  | zero=>simp at hr1;lia
  | succ f =>
   refine ⟨by decide,A7 (by decide) (by decide),?_⟩
   refine ⟨f,Nat.lt_succ_self _,rfl,m+r % 2,r / 2,?_,?_,?_⟩
   ·show [some (V.int (a:Int)),some (V.int ((m:Int)+(r:Int) % 2)),some (V.int ((r:Int) / 2))]=_
    rw [Int.natCast_add,Int.natCast_emod,Int.natCast_ediv]
    rfl
   ·rw [Nat.pow_succ] at hr1;lia
   ·rw [<- hm]
    show m+r % 2+manyF f (r / 2)=m+(r % 2+manyF f (r / 2))
    lia
 ·have r0:r=0:=by
   have:¬ (0:Int) < (r:Int):=fun z=>e (decide_eq_true z)
   lia
  subst r0
  rw [C3,Nat.add_zero] at hm
  rw [<- hm] at q
  exact q
noncomputable def CG (a b:Nat):Int:=if many (a &&& b) % 2=1 then -1 else 1
noncomputable def DT:Sp:=fun vs H Q _=>match vs with
 | [.int x,.int y]=>∃ a b:Nat,x=a/\y=b/\a < 2 ^ 64/\Q (.int (CG a b)) H
 | _=>False
theorem N1:AN DT:=fun vs H Q Q' E h q=>by
 unfold DT at *
 split at q
 ·revert q;repeat' first | exact h _ _ | exact Ax h | exact At h | exact Av h | (with_reducible first | refine Exists.imp fun _=>?_ | refine And.imp_right ?_ | refine forall_imp fun _=>?_)
 ·exact q.elim
theorem OM:FnOk P w K mg base CX0 2 T.f_z35 T.d_z35 ["subset","place"] DT:=by
 have G_z32:=NX (P:=P) (w:=w) (base:=base) T
 refine T.F_z35.ok KN (fun vs H Q E h=>by unfold DT at h;split at h <;> first | rfl | exact h.elim) (fun cdv A outer s H vs Q E hr h=>?_)
 have hu:=Af hr
 have hr_z32:=hr.mono (show 1<=_ by decide)
 unfold DT at h
 split at h
 rotate_left
 ·exact h.elim
 rename_i x y
 obtain ⟨a,b,e1,e2,h1,q⟩:=h
 subst e1 e2
 refine ⟨_,(@AF _ _ _ (@AT _ _ _ _ (FL (Ac (kEq (K:=K) hu) (AM A8 (AI G_z32 hr_z32 rfl T.m_z32 T.F_z32.kp T.b_z32 .nil AJ (AA (AM Jd (vv 0) (vv 1)) AB)) AC) AC) (CM CL AC) AC))),?_⟩
 refine ⟨a &&& b,M9 a b,Nat.lt_of_le_of_lt Nat.and_le_left h1,by decide,?_⟩
 unfold CG at q
 generalize many (a &&& b)=m at q ⊢
 have e:((m:Int) % 2 == 1)=decide (m % 2=1):=by
  rw [Bool.eq_iff_iff]
  simp only [beq_iff_eq,decide_eq_true_eq]
  lia
 show if (false ^^ ((m:Int) % 2 == 1))=true then Q (.int (-1)) H else Q (.int 1) H
 rw [e]
 refine AO (fun z=>?_) (fun z=>?_)
 ·rw [if_pos (by simpa using z)] at q
  exact q
 ·rw [if_neg (by simpa using z)] at q
  exact q
noncomputable def EQ (g:Nat->Int) (m p:Nat):Int:=((AH g (2 ^ m)).map fun t=>t.2 * CG t.1 p).sum
noncomputable def PH (t b:Int):List V:=[.int (t / (t.gcd b:Int)),.int (b / (t.gcd b:Int))]
noncomputable def Cr (K:W.Frag):Sp:=fun vs H Q _=>match vs with
 | [x,.int y]=>∃ (m:Nat) (g:Nat->Int) (p:Nat),SumAt K H x m (AH g (2 ^ m))/\m<=6/\y=p/\∀ r H',H r=none->Same H H'->H' r=some (.tup (PH (EQ g m p) ((2 ^ m:Nat):Int)))->Q (.ref r) H'
 | _=>False
theorem MA:AN (Cr K):=fun vs H Q Q' E h q=>by
 unfold Cr at *
 split at q
 ·revert q;repeat' first | exact h _ _ | exact Ax h | exact At h | exact Av h | (with_reducible first | refine Exists.imp fun _=>?_ | refine And.imp_right ?_ | refine forall_imp fun _=>?_)
 ·exact q.elim
theorem M4:FnOk P w K mg base CX0 3 T.f_z28 T.d_z28 ["one","place"] (Cr K):=by
 have G_z29:=MW (P:=P) (w:=w) (base:=base) T;have G_z33:=Fg (P:=P) (w:=w) (base:=base) T;have G_z35:=OM (P:=P) (w:=w) (base:=base) T
 refine T.F_z28.ok sc_z28 (fun vs H Q E h=>by unfold Cr at h;split at h <;> first | rfl | exact h.elim) (fun cdv A outer s H vs Q E hr h=>?_)
 have hu:=Af hr
 have mo1:AN CP:=FB
 have mo2:AN DT:=N1
 have mo3:AN Bg:=JF
 have hr_z29:=hr.mono (show 2<=_ by decide);have hr_z33:=hr.mono (show 2<=_ by decide);have hr_z35:=hr.mono (show 2<=_ by decide)
 unfold Cr at h
 split at h
 rotate_left
 ·exact h.elim
 rename_i x y
 obtain ⟨m,g,p,S,m6,e,q⟩:=h
 subst e
 have h64:2 ^ m<=64:=Nat.pow_le_pow_right (n:=2) (by decide) m6
 have h0:=Nat.two_pow_pos m
 obtain ⟨a,b,us,rfl,ha,hb,hR⟩:=id S.at_
 have hul:us.length=(AH g (2 ^ m)).length:=by have:=hR.length;rw [List.length_map] at this;lia
 have htl:=D5 g (2 ^ m)
 have hmem:=fun {t} (h:t∈AH g (2 ^ m))=>BH h
 unfold EQ at q
 refine ⟨_,(@AE _ _ _ _ _ (@AL _ _ 2 _ _ _ _ sc_z28.nd rfl (by (first | exact Or.inl rfl | exact Or.inr rfl)) (AQ (Ej (K:=K) rfl) rfl T.z_sum (by rfl) (AA (BA (N':=["subset","weight","place"]) (own:=2) (ix:=[1]) rfl (Bb (K:=K) (kIx (K:=K) (vv 0) AC)) (by kernel_rfl) rfl rfl (by kernel_rfl) (fun c=>Co (K:=K) (n:=2) rfl (A1 (AS (i:=0) (show (["subset","weight","place"]:List Str).Nodup by decide +kernel) rfl (by (first | exact Or.inl rfl | exact Or.inr rfl))) (A1 (AS (i:=1) (show (["subset","weight","place"]:List Str).Nodup by decide +kernel) rfl (by (first | exact Or.inl rfl | exact Or.inr rfl))) CF))) (Dg (BK As (Cc As BE) (Ad (by decide)) (BK As BE (Ad (by decide)) DV))) (fun c=>Au) (fun c=>(AM BC (vv 1) (AI G_z35 hr_z35 rfl T.m_z35 T.F_z35.kp T.b_z35 .nil AJ (AA (vv 0) (AA (vv 2) AB)))))) AB)) (by rfl) (by (first | exact .inl rfl | exact .inr rfl | assumption))) (@AF _ _ _ (@AT _ _ _ _ (AI G_z29 hr_z29 rfl T.m_z29 T.F_z29.kp T.b_z29 .nil AJ (AA (vv 2) (AA (AI G_z33 hr_z33 rfl T.m_z33 T.F_z33.kp T.b_z33 .nil AJ (AA (kIx (K:=K) (vv 0) AC) AB)) AB)))))),?_⟩
 generalize AH g (2 ^ m)=ts at *
 refine ⟨_,.ref b,.inr ha,rfl,.inr ⟨⟨_,hb⟩,?_⟩⟩
 refine EJ (xs:=us) (fun i ys H'=>H'=H/\ys=((ts.take i).map fun t=>t.2 * CG t.1 p).map V.int) ⟨rfl,rfl⟩ (fun i ys H' _ ⟨e,_⟩=>by rw [e];exact hb) (fun i ys H' hi ⟨_,e⟩=>by
  rw [e,List.length_map,List.length_map,List.length_take];exact Ab (by lia)) ?_ ?_
 ·rintro i x ys H' hx ⟨rfl,rfl⟩
  obtain ⟨⟨k,wgt⟩,c,hq,rfl,hc⟩:=Cj hR hx
  have hk:k < 2 ^ m:=(hmem (List.mem_of_getElem? hq)).1
  refine ⟨c,_,rfl,hc,rfl,_,_,rfl,_,_,rfl,rfl,k,p,rfl,rfl,by lia,?_,rfl,?_⟩
  ·unfold CG
   split
   ·exact .inr (.inr ⟨by decide,by decide⟩)
   ·exact .inr (.inr ⟨by decide,by decide⟩)
  ·rw [List.take_add_one,hq,List.map_append,List.map_append]
   rfl
 ·rintro ys H' ⟨rfl,rfl⟩ lp hlp
  rw [List.take_of_length_le (by lia)]
  refine ⟨_,.of AD,?_⟩
  dsimp only [AY]
  generalize (ts.map fun t=>t.2 * CG t.1 p).sum=tp at q ⊢
  refine ⟨_,.int m,.inr (Aj ha (Same.upd hlp)),rfl,m,rfl,by lia,?_⟩
  exact ⟨by lia,by lia,fun r hr=>q r _ ((Same.upd hlp).free hr) ((Same.upd hlp).trans (Same.upd hr)) AD⟩
theorem Fj (g:Nat->Int):∀ n,((AH g n).map fun t=>t.2 * t.2).sum=AV (fun j=>g j * g j) n
 | 0=>rfl
 | n+1=>by
  show ((AH g n++(if g n=0 then [] else [(n,g n)])).map fun t=>t.2 * t.2).sum=AV (fun j=>g j * g j) n+g n * g n
  rw [List.map_append,List.sum_append,Fj g n]
  by_cases e:g n=0
  ·rw [if_pos e,e];simp
  ·rw [if_neg e];simp
noncomputable def DW (K:W.Frag):Sp:=fun vs H Q _=>match vs with
 | [x]=>∃ (m:Nat) (g:Nat->Int),SumAt K H x m (AH g (2 ^ m))/\m<=6/\(∀ j,Nb (g j) 60)/\∀ H',Same H H'->Q (.int (AV (fun j=>g j * g j) (2 ^ m))) H'
 | _=>False
theorem O0:AN (DW K):=fun vs H Q Q' E h q=>by
 unfold DW at *
 split at q
 ·revert q;repeat' first | exact h _ _ | exact Ax h | exact At h | exact Av h | (with_reducible first | refine Exists.imp fun _=>?_ | refine And.imp_right ?_ | refine forall_imp fun _=>?_)
 ·exact q.elim
theorem NH:FnOk P w K mg base CX0 1 T.f_z30 T.d_z30 ["one"] (DW K):=by
 refine T.F_z30.ok N2 (fun vs H Q E h=>by unfold DW at h;split at h <;> first | rfl | exact h.elim) (fun cdv A outer s H vs Q E hr h=>?_)
 have hu:=Af hr
 unfold DW at h
 split at h
 rotate_left
 ·exact h.elim
 rename_i x
 obtain ⟨m,g,S,m6,hL,q⟩:=h
 have h64:2 ^ m<=64:=Nat.pow_le_pow_right (n:=2) (by decide) m6
 obtain ⟨a,b,us,rfl,ha,hb,hR⟩:=id S.at_
 have hul:us.length=(AH g (2 ^ m)).length:=by have:=hR.length;rw [List.length_map] at this;lia
 have htl:=D5 g (2 ^ m)
 have hmem:=fun {t} (h:t∈AH g (2 ^ m))=>BH h
 rw [<- Fj g] at q
 refine ⟨_,(@AF _ _ _ (@AT _ _ _ _ (AQ (Ej (K:=K) rfl) rfl T.z_sum (by rfl) (AA (BA (N':=["subset","weight"]) (own:=2) (ix:=[]) rfl (Bb (K:=K) (kIx (K:=K) (vv 0) AC)) (by kernel_rfl) rfl rfl (by kernel_rfl) (fun c=>Co (K:=K) (n:=2) rfl (A1 (AS (i:=0) (show (["subset","weight"]:List Str).Nodup by decide +kernel) rfl (by (first | exact Or.inl rfl | exact Or.inr rfl))) (A1 (AS (i:=1) (show (["subset","weight"]:List Str).Nodup by decide +kernel) rfl (by (first | exact Or.inl rfl | exact Or.inr rfl))) CF))) (Dg (BK As (Cc As BE) (Ad (by decide)) (BK As BE (Ad (by decide)) DV))) (fun c=>Au) (fun c=>(AM BC (vv 1) (vv 1)))) AB)))),?_⟩
 generalize AH g (2 ^ m)=ts at *
 refine ⟨_,.ref b,.inr ha,rfl,.inr ⟨⟨_,hb⟩,?_⟩⟩
 refine EJ (xs:=us) (fun i ys H'=>H'=H/\ys=((ts.take i).map fun t=>t.2 * t.2).map V.int) ⟨rfl,rfl⟩ (fun i ys H' _ ⟨e,_⟩=>by rw [e];exact hb) (fun i ys H' hi ⟨_,e⟩=>by
  rw [e,List.length_map,List.length_map,List.length_take];exact Ab (by lia)) ?_ ?_
 ·rintro i x ys H' hx ⟨rfl,rfl⟩
  obtain ⟨⟨k,wgt⟩,c,hq,rfl,hc⟩:=Cj hR hx
  have hw:wgt=g k:=(hmem (List.mem_of_getElem? hq)).2.1
  have hgk:=hL k
  rw [<- hw] at hgk
  refine ⟨c,_,rfl,hc,rfl,_,_,rfl,_,_,rfl,rfl,Nb.okMul (hgk.up (by decide)) (hgk.up (by decide)),rfl,?_⟩
  rw [List.take_add_one,hq,List.map_append,List.map_append]
  rfl
 ·rintro ys H' ⟨rfl,rfl⟩ lp hlp
  rw [List.take_of_length_le (by lia)]
  exact ⟨_,.of AD,q _ (Same.upd hlp)⟩
noncomputable def BD (m:Nat) (bs:List Bool) (x:Nat):Nat->Int
 | 0=>0
 | j+1=>BD m bs x j+sgL m x j * CI (bs.getD j false)
noncomputable def Cd (m M:Nat) (bs:List Bool):Nat->List (Nat × Int)
 | 0=>[]
 | i+1=>Cd m M bs i++(if BD m bs i M=0 then [] else [(i,BD m bs i M)])
theorem MG {m x y:Nat} {z:Int}:okMul (sgL m x y) z:=by
 unfold sgL
 split
 ·exact .inr (.inl ⟨by decide,by decide⟩)
 ·exact .inr (.inl ⟨by decide,by decide⟩)
theorem J9 {s x y:Nat}:sgL (s+1) x y=sgL s x y * (if ((x / 2 ^ s % 2 == 1) && (y / 2 ^ s % 2 == 1))=true then -1 else 1):=by
 have e:Al (s+1) x y=Al s x y++[(x / 2 ^ s % 2 == 1) && (y / 2 ^ s % 2 == 1)]:=by
  have eb:∀ x,Ae (s+1) x=Ae s x++[x / 2 ^ s % 2 == 1]:=fun x=>by
   unfold Ae
   rw [List.range_succ,List.map_append]
   rfl
  unfold Al
  rw [eb x,eb y,List.zip_append (by rw [A5,A5]),List.map_append]
  rfl
 unfold sgL
 rw [e,List.countP_append]
 generalize (Al s x y).countP id=c
 cases h:((x / 2 ^ s % 2 == 1) && (y / 2 ^ s % 2 == 1)) with
 | false =>
  rw [show [false].countP id=0 from rfl,Nat.add_zero,if_neg (show ¬ (false=true) by decide),Int.mul_one]
 | true =>
  rw [show [true].countP id=1 from rfl,if_pos (show true=true from rfl)]
  by_cases hc:c % 2=1
  ·rw [if_pos hc,if_neg (by lia)];rfl
  ·rw [if_neg hc,if_pos (by lia)];rfl
theorem FD (x y:Nat):∀ s,sgL s x y=chi s x y
 | 0=>rfl
 | s+1=>by rw [J9,G7,FD x y s]
theorem IL (m:Nat) (bs:List Bool) (x:Nat):∀ n,BD m bs x n=AV (fun j=>chi m x j * BZ bs j) n
 | 0=>rfl
 | n+1=>by
  show BD m bs x n+sgL m x n * CI (bs.getD n false)=AV _ n+chi m x n * BZ bs n
  rw [IL m bs x n,FD]
  rfl
theorem IZ (m:Nat) (bs:List Bool):∀ i,Cd m (2 ^ m) bs i=AH (wt m (BZ bs)) i
 | 0=>rfl
 | i+1=>by
  show Cd m (2 ^ m) bs i++_=AH (wt m (BZ bs)) i++_
  rw [IZ m bs i,IL]
  rfl
noncomputable def Di (K:W.Frag):Sp:=fun vs H Q _=>match vs with
 | [.ref p]=>∃ (m:Nat) (bs:List Bool),1<=m/\m<=6/\bs.length=2 ^ m/\SqT K H p (bs.map V.bl)/\∀ v H',Same H H'->Rep K H' (Cq m (AH (wt m (BZ bs)) (2 ^ m))) v->Q v H'
 | _=>False
theorem LX:AN (Di K):=fun vs H Q Q' E h q=>by
 unfold Di at *
 split at q
 ·revert q;repeat' first | exact h _ _ | exact Ax h | exact At h | exact Av h | (with_reducible first | refine Exists.imp fun _=>?_ | refine And.imp_right ?_ | refine forall_imp fun _=>?_)
 ·exact q.elim
theorem JD {p:Addr} {H0 H:Hp} {o:HO} (f:Same H0 H) (hp:H0 p=none):Same H0 (upd H p o):=fun b u e=>by
 rw [AK (BR e hp)];exact f b u e
theorem Kc:FnOk P w K mg base CX0 4 T.f_z27 T.d_z27 ["_law_table_here"] (Di K):=by
 have G_z25:=DX (P:=P) (w:=w) (base:=base) T;have G_z19:=GF (P:=P) (w:=w) (base:=base) T
 refine T.F_z27.ok sc_z27 (fun vs H Q E h=>by unfold Di at h;split at h <;> first | rfl | exact h.elim) (fun cdv A outer s H vs Q E hr h=>?_)
 have hu:=Af hr
 have mo1:AN (CD K):=Fb
 have mo2:AN Bm:=Ek
 have hr_z25:=hr.mono (show 1<=_ by decide);have hr_z19:=hr.mono (show 3<=_ by decide)
 unfold Di at h
 split at h
 rotate_left
 ·exact h.elim
 rename_i p
 obtain ⟨m,bs,m1,m6,hb,hp,q⟩:=h
 rw [<- IZ] at q
 refine ⟨_,(@AE _ _ _ _ _ (@AL _ _ 1 _ _ _ _ sc_z27.nd rfl (by (first | exact Or.inl rfl | exact Or.inr rfl)) (AM (BS (K:=K)) (Na (K:=K) (@A4 _ _ _ _ (AA AC (AA AC (AA AC (AA AC (AA AC (AA AC AB))))))) (AA (AQ (Bl (K:=K)) rfl T.z_len (by rfl) (AA (vv 0) AB)) AB)) AC) (by rfl) (by (first | exact .inl rfl | exact .inr rfl | assumption))) (@AE _ _ _ _ _ (@AL _ _ 2 _ _ _ _ sc_z27.nd rfl (by (first | exact Or.inl rfl | exact Or.inr rfl)) (@A4 _ _ _ _ AB) (by rfl) (by (first | exact .inl rfl | exact .inr rfl | assumption))) (@AE _ _ _ _ _ (@Bj _ _ _ _ _ _ _ _ PassesOwn.never rfl (A3 rfl T.z_range (AA (AI G_z25 hr_z25 rfl T.m_z25 T.F_z25.kp T.b_z25 .nil AJ (AA (vv 1) AB)) AB)) (AS (i:=3) sc_z27.nd rfl (by (first | exact Or.inl rfl | exact Or.inr rfl))) (@AE _ _ _ _ _ (@AL _ _ 4 _ _ _ _ sc_z27.nd rfl (by (first | exact Or.inl rfl | exact Or.inr rfl)) AC (by rfl) (by (first | exact .inl rfl | exact .inr rfl | assumption))) (@AE _ _ _ _ _ (@Bj _ _ _ _ _ _ _ _ PassesOwn.never rfl (A3 rfl T.z_range (AA (AI G_z25 hr_z25 rfl T.m_z25 T.F_z25.kp T.b_z25 .nil AJ (AA (vv 1) AB)) AB)) (AS (i:=5) sc_z27.nd rfl (by (first | exact Or.inl rfl | exact Or.inr rfl))) (@AF _ _ _ (@AL _ _ 4 _ _ _ _ sc_z27.nd rfl (by (first | exact Or.inl rfl | exact Or.inr rfl)) (AM (BS (K:=K)) (vv 4) (AM BC (AI G_z19 hr_z19 rfl T.m_z19 T.F_z19.kp T.b_z19 .nil AJ (AA (vv 1) (AA (vv 3) (AA (vv 5) AB)))) (kIx (K:=K) (@A4 _ _ _ _ (AA AC (AA (CM CL AC) AB))) (BW JQ rfl T.z_int (by rfl) (AA (kIx (K:=K) (vv 0) (vv 5)) AB))))) (by rfl) (by (first | exact .inl rfl | exact .inr rfl | assumption)))) (by intro _;rfl)) (@AF _ _ _ (@Ak _ _ _ _ _ _ _ _ (Ac (kNe (K:=K) hu) (vv 4) AC) (@AF _ _ _ (@E3 _ _ _ _ (Gv (K:=K) (vv 2) (AA (BN (AA (vv 3) (AA (vv 4) AB))) AB)) (by rfl))) Ao)))) (by intro _;rfl)) (@AF _ _ _ (@AT _ _ _ _ (BN (AA (vv 1) (AA (BW (CQ (K:=K)) rfl T.z_tuple (by rfl) (AA (vv 2) AB)) AB)))))))),?_⟩
 have h64:2 ^ m<=64:=Nat.pow_le_pow_right (n:=2) (by decide) m6
 -- n
 refine ⟨AX (show 6<=1000 by decide),fun l0 hl0=>?_⟩
 have s0:Same H (upd H l0 (.lst [.int 2,.int 4,.int 8,.int 16,.int 32,.int 64])):=Same.upd hl0
 have hix:∃ z,[V.int 2,.int 4,.int 8,.int 16,.int 32,.int 64][m - 1]? = some z/\eqV z (.int (2 ^ m:Nat))=true/\∀ (k:Nat) (v:V),k < m - 1->[V.int 2,.int 4,.int 8,.int 16,.int 32,.int 64][k]? = some v->eqV v (.int (2 ^ m:Nat))=false:=by
  have:m=1\/m=2\/m=3\/m=4\/m=5\/m=6:=by lia
  rcases this with e | e | e | e | e | e <;> subst e <;> refine ⟨_,rfl,by decide,?_⟩ <;> intro k v hk hv <;> (try lia)
  all_goals (have:k=0\/k=1\/k=2\/k=3\/k=4:=by lia)
  all_goals (rcases this with e | e | e | e | e <;> subst e <;> first | lia | (cases hv;rfl))
 obtain ⟨z,hz1,hz2,hz3⟩:=hix
 have e2:(2:Int) ^ ((m:Int).toNat)=((2 ^ m:Nat):Int):=by rw [Int.toNat_natCast,Int.natCast_pow];rfl
 generalize hM:2 ^ m=M at *
 have hMr:(M:Int) < 2 ^ 62:=Int.lt_of_le_of_lt (Int.ofNat_le.mpr h64) (by decide)
 refine ⟨.inl ⟨rfl,_,.of AD⟩,M,.inr ⟨_,Aj hp s0,by rw [List.length_map,hb]⟩,_,m - 1,z,.of AD,rfl,rfl,hz1,hz2,hz3,?_⟩
 have en:((m - 1:Nat):Int)+1=(m:Int):=by lia
 dsimp only [tC,Dx,AY]
 rw [en]
 refine ⟨AX (show 0<=1000 by decide),fun l hl=>?_⟩
 have hl0:H l=none:=s0.free hl
 generalize upd H l0 (.lst [.int 2,.int 4,.int 8,.int 16,.int 32,.int 64])=H1 at *
 dsimp only [AY]
 refine Ah (fun σ H'=>∃ (z3 z4 z5:Option V) (vs:List V),σ=[some (.ref p),some (.int m),some (.ref l),z3,z4,z5]/\Same H H'/\H' l=some (.lst vs)/\Reps K H' ((Cd m M bs M).map BL) vs) ?_ ?_ (by (repeat' with_reducible first | exact Hf | apply Lu | apply Mp | apply Nr | apply LP | apply HW | apply K7 | exact NK | exact Mw | apply OS | apply K2 | apply Jb | apply Ma | apply Mb | apply Lp | apply Ky | apply M0 | apply J2 | exact PN | exact LA | exact LZ | exact Kw | exact LD | exact K9 | exact PO | exact NW | exact Om | exact Lg | exact Kn | exact J6 | exact M6 | exact LQ | apply NJ | apply M7 | apply ME | apply OQ | exact Jn | apply KP | exact Ll | exact KY | exact Jp | exact Mr | exact MP | exact Lq | apply Oo | apply My | apply O9 | exact As | apply Cc | exact BE | exact KL | exact Nk | apply Op | apply Lm | apply Nz | apply Nj | apply Oy | exact LL | exact J1 | exact PB | assumption))
 ·refine ⟨by lia,by lia,fun H2 s2=>?_⟩
  rw [e2]
  refine ⟨(M:Int),rfl,by lia,by lia,?_⟩
  refine CO (fun i σ H'=>∃ (z3 z4 z5:Option V) (vs:List V),σ=[some (.ref p),some (.int m),some (.ref l),z3,z4,z5]/\Same H H'/\H' l=some (.lst vs)/\Reps K H' ((Cd m M bs i).map BL) vs/\vs.length<=i)
   ⟨none,none,none,[],rfl,s0.trans ((Same.upd hl).trans s2),s2 _ _ AD,Ap,Nat.le_refl _⟩ ?_ ?_
  ·rintro i σ H3 hi ⟨z3,z4,z5,vs,rfl,s3,g3,r3,v3⟩
   have hi':i < M:=by lia
   have e0:(0:Int)+(i:Int)=(i:Int):=Int.zero_add _
   rw [e0]
   dsimp only [AY]
   refine Ah (fun σ H'=>σ=[some (.ref p),some (.int m),some (.ref l),some (.int i),some (.int 0),z5]/\H3=H') ⟨rfl,rfl⟩ ?_ (by (repeat' with_reducible first | exact Hf | apply Lu | apply Mp | apply Nr | apply LP | apply HW | apply K7 | exact NK | exact Mw | apply OS | apply K2 | apply Jb | apply Ma | apply Mb | apply Lp | apply Ky | apply M0 | apply J2 | exact PN | exact LA | exact LZ | exact Kw | exact LD | exact K9 | exact PO | exact NW | exact Om | exact Lg | exact Kn | exact J6 | exact M6 | exact LQ | apply NJ | apply M7 | apply ME | apply OQ | exact Jn | apply KP | exact Ll | exact KY | exact Jp | exact Mr | exact MP | exact Lq | apply Oo | apply My | apply O9 | exact As | apply Cc | exact BE | exact KL | exact Nk | apply Op | apply Lm | apply Nz | apply Nj | apply Oy | exact LL | exact J1 | exact PB | assumption))
   rintro σ _ ⟨rfl,rfl⟩
   refine Ah (fun σ H'=>∃ z5:Option V,σ=[some (.ref p),some (.int m),some (.ref l),some (.int i),some (.int (BD m bs i M)),z5]/\Same H3 H') ?_ ?_ (by (repeat' with_reducible first | exact Hf | apply Lu | apply Mp | apply Nr | apply LP | apply HW | apply K7 | exact NK | exact Mw | apply OS | apply K2 | apply Jb | apply Ma | apply Mb | apply Lp | apply Ky | apply M0 | apply J2 | exact PN | exact LA | exact LZ | exact Kw | exact LD | exact K9 | exact PO | exact NW | exact Om | exact Lg | exact Kn | exact J6 | exact M6 | exact LQ | apply NJ | apply M7 | apply ME | apply OQ | exact Jn | apply KP | exact Ll | exact KY | exact Jp | exact Mr | exact MP | exact Lq | apply Oo | apply My | apply O9 | exact As | apply Cc | exact BE | exact KL | exact Nk | apply Op | apply Lm | apply Nz | apply Nj | apply Oy | exact LL | exact J1 | exact PB | assumption))
   ·refine ⟨by lia,by lia,fun H4 s4=>?_⟩
    rw [e2]
    refine ⟨(M:Int),rfl,by lia,by lia,?_⟩
    refine CO (fun j σ H'=>∃ z5:Option V,σ=[some (.ref p),some (.int m),some (.ref l),some (.int i),some (.int (BD m bs i j)),z5]/\Same H3 H') ⟨z5,rfl,s4⟩ ?_ (fun σ H' h=>h)
    rintro j σ H5 hj ⟨z5,rfl,s5⟩
    have hj':j < bs.length:=by lia
    rw [show (0:Int)+(j:Int)=(j:Int) from Int.zero_add _]
    refine ⟨m,i,j,rfl,rfl,rfl,m6,fun H6 s6=>⟨AX (show 2<=1000 by decide),fun r hr'=>?_⟩⟩
    have S6:Same H (upd H6 r (.lst [.int 1,.int (-1)])):=s3.trans (s5.trans (s6.trans (Same.upd hr')))
    refine ⟨_,.bl bs[j],.inr (Aj hp S6),Br rfl (by rw [List.getElem?_map,List.getElem?_eq_getElem hj'];rfl),?_⟩
    refine ⟨_,.int (CI bs[j]),.inl (.of AD),?_,MG,?_⟩
    ·unfold CI
     cases bs[j] <;> rfl
    ·refine ⟨some (.int j),?_,s5.trans (s6.trans (Same.upd hr'))⟩
     have ew:BD m bs i (j+1)=BD m bs i j+sgL m i j * CI bs[j]:=by
      show BD m bs i j+sgL m i j * CI (bs.getD j false)=_
      rw [List.getD_eq_getElem?_getD,List.getElem?_eq_getElem hj']
      rfl
     rw [ew]
     rfl
   rintro σ H4 ⟨z5,rfl,s4⟩
   have g4:=s4 _ _ g3
   have r4:=Reps.same s4 _ _ r3
   have s4':=s3.trans s4
   have et:Cd m M bs (i+1)=Cd m M bs i++(if BD m bs i M=0 then [] else [(i,BD m bs i M)]):=rfl
   rw [et]
   generalize hw:BD m bs i M=wt at *
   refine AO (fun e=>?_) (fun e=>?_)
   ·have w0:¬ wt=0:=by simpa using e
    rw [if_neg w0,List.map_append]
    refine ⟨.inl ⟨rfl,_,.of g4⟩,AX (show 2<=1000 by decide),fun k hk=>?_⟩
    have lk:l≠k:=BR g4 hk
    refine ⟨vs,by rw [AK lk];exact g4,Ab (by lia),?_⟩
    refine ⟨some (.int i),some (.int wt),z5,vs++[.ref k],rfl,?_,AD,?_,by rw [List.length_append];exact Nat.succ_le_succ v3⟩
    ·exact JD (s4'.trans (Same.upd hk)) hl0
    ·have gl:upd H4 k (.tup [.int i,.int wt]) l=some (.lst vs):=by rw [AK lk];exact g4
     refine Reps.append ?_ ?_
     ·exact Reps.frm Frm.updT ⟨_,gl⟩ _ _ (GS _) (Reps.same (Same.upd hk) _ _ r4)
     ·refine Ai (BO (xs:=[.int i,.int wt]) ?_ (Ai Ay (Ai Ay Ap))) Ap
      rw [AK (Ne.symm lk)];exact AD
   ·have w0:wt=0:=by simpa using e
    rw [if_pos w0,List.append_nil]
    exact ⟨some (.int i),some (.int wt),z5,vs,rfl,s4',g4,r4,Nat.le_succ_of_le v3⟩
  ·rintro σ H3 ⟨z3,z4,z5,vs,rfl,s3,g3,r3,_⟩
   exact ⟨z3,z4,z5,vs,rfl,s3,g3,r3⟩
 rintro σ H3 ⟨z3,z4,z5,vs,rfl,s3,g3,r3⟩
 refine ⟨_,.inl ⟨.of g3,fun k hk=>⟨AX (show 2<=1000 by decide),fun k2 hk2=>?_⟩⟩⟩
 have S:=(Same.upd (o:=.tup vs) hk).trans (Same.upd (o:=.tup [.int m,.ref k]) hk2)
 refine q _ _ (s3.trans S) ?_
 refine BO AD (Ai Ay (Ai (BO (xs:=vs) ?_ (Reps.same S _ _ r3)) Ap))
 exact Same.upd hk2 _ _ AD
noncomputable def DI (K:W.Frag):Sp:=fun vs H Q _=>match vs with
 | [.ref t,.int k]=>∃ a ns,Tape K H t a ns/\0<=k/\∀ (n:Nat) H',1<=n->n<=6->Tape K H' t a ns->Frm t H H'->Q (.int n) H'
 | _=>False
theorem Kb:AN (DI K):=fun vs H Q Q' E h q=>by
 unfold DI at *
 split at q
 ·revert q;repeat' first | exact h _ _ | exact Ax h | exact At h | exact Av h | (with_reducible first | refine Exists.imp fun _=>?_ | refine And.imp_right ?_ | refine forall_imp fun _=>?_)
 ·exact q.elim
theorem OX {xs:List V} {d:Int} (h:xs=[.int 1,.int 2,.int 3,.int 3,.int 4,.int 4,.int 5,.int 6]\/xs=[.int 1,.int 2,.int 2,.int 3,.int 3,.int 4,.int 4,.int 4]) (d0:0<=d) (d1:d < 8):∃ b:Nat,atI xs d=some (.int (b:Nat))/\1<=b/\b<=6:=by
 have:d=0\/d=1\/d=2\/d=3\/d=4\/d=5\/d=6\/d=7:=by lia
 rcases h with e | e <;> subst e <;> rcases this with e | e | e | e | e | e | e | e <;> subst e
 ·exact ⟨1,rfl,by decide,by decide⟩
 ·exact ⟨2,rfl,by decide,by decide⟩
 ·exact ⟨3,rfl,by decide,by decide⟩
 ·exact ⟨3,rfl,by decide,by decide⟩
 ·exact ⟨4,rfl,by decide,by decide⟩
 ·exact ⟨4,rfl,by decide,by decide⟩
 ·exact ⟨5,rfl,by decide,by decide⟩
 ·exact ⟨6,rfl,by decide,by decide⟩
 ·exact ⟨1,rfl,by decide,by decide⟩
 ·exact ⟨2,rfl,by decide,by decide⟩
 ·exact ⟨2,rfl,by decide,by decide⟩
 ·exact ⟨3,rfl,by decide,by decide⟩
 ·exact ⟨3,rfl,by decide,by decide⟩
 ·exact ⟨4,rfl,by decide,by decide⟩
 ·exact ⟨4,rfl,by decide,by decide⟩
 ·exact ⟨4,rfl,by decide,by decide⟩
theorem Jz:FnOk P w K mg base CX0 2 T.f_z22 T.d_z22 ["_law_tape_here","_law_turn"] (DI K):=by
 have G_z21:=EC (P:=P) (w:=w) (base:=base) T
 refine T.F_z22.ok sc_z22 (fun vs H Q E h=>by unfold DI at h;split at h <;> first | rfl | exact h.elim) (fun cdv A outer s H vs Q E hr h=>?_)
 have hu:=Af hr
 have hr_z21:=hr.mono (show 1<=_ by decide)
 unfold DI at h
 split at h
 rotate_left
 ·exact h.elim
 rename_i t k
 obtain ⟨a,ns,TP,k0,q⟩:=h
 refine ⟨_,(@AE _ _ _ _ _ (@Md _ _ 2 _ _ _ _ sc_z22.nd rfl (by (first | exact Or.inl rfl | exact Or.inr rfl)) (@kIx _ K _ _ _ _ _ (@A4 _ _ _ _ (@AA _ _ _ _ _ (@A4 _ _ _ _ (@AA _ _ _ _ _ AC (@AA _ _ _ _ _ AC (@AA _ _ _ _ _ AC (@AA _ _ _ _ _ AC (@AA _ _ _ _ _ AC (@AA _ _ _ _ _ AC (@AA _ _ _ _ _ AC (@pa1 _ _ _ AC (by rfl)) (by rfl)) (by rfl)) (by rfl)) (by rfl)) (by rfl)) (by rfl)) (by rfl))) (@AA _ _ _ _ _ (@A4 _ _ _ _ (@AA _ _ _ _ _ AC (@AA _ _ _ _ _ AC (@AA _ _ _ _ _ AC (@AA _ _ _ _ _ AC (@AA _ _ _ _ _ AC (@AA _ _ _ _ _ AC (@AA _ _ _ _ _ AC (@pa1 _ _ _ AC (by rfl)) (by rfl)) (by rfl)) (by rfl)) (by rfl)) (by rfl)) (by rfl)) (by rfl))) (@AB _) L2.star_lst) L2.star_lst)) (AQ (KA rfl) rfl T.z_min (by rfl) (AA (vv 1) (AA AC AB))) (by intro _ _;rfl) (by rfl)) rfl (by first | exact .inl rfl | exact .inr rfl)) (@AF _ _ _ (@AT _ _ _ _ (kIx (K:=K) (vv 2) (AI G_z21 hr_z21 rfl T.m_z21 T.F_z21.kp T.b_z21 .nil AJ (AA (vv 0) (AA AC AB))))))),?_⟩
 refine Ah (fun σ H'=>∃ (pj:Addr) (xs:List V),σ=[some (.ref t),some (.int k),some (.ref pj)]/\Same H H'/\pj≠t/\H' pj=some (.lst xs)/\(xs=[.int 1,.int 2,.int 3,.int 3,.int 4,.int 4,.int 5,.int 6]\/xs=[.int 1,.int 2,.int 2,.int 3,.int 3,.int 4,.int 4,.int 4])) ?_ ?_ (by (repeat' with_reducible first | exact Hf | apply Lu | apply Mp | apply Nr | apply LP | apply HW | apply K7 | exact NK | exact Mw | apply OS | apply K2 | apply Jb | apply Ma | apply Mb | apply Lp | apply Ky | apply M0 | apply J2 | exact PN | exact LA | exact LZ | exact Kw | exact LD | exact K9 | exact PO | exact NW | exact Om | exact Lg | exact Kn | exact J6 | exact M6 | exact LQ | apply NJ | apply M7 | apply ME | apply OQ | exact Jn | apply KP | exact Ll | exact KY | exact Jp | exact Mr | exact MP | exact Lq | apply Oo | apply My | apply O9 | exact As | apply Cc | exact BE | exact KL | exact Nk | apply Op | apply Lm | apply Nz | apply Nj | apply Oy | exact LL | exact J1 | exact PB | assumption))
 ·refine ⟨AX (show 8<=1000 by decide),fun p1 h1=>?_⟩
  have s1:=Same.upd (o:=.lst [.int 1,.int 2,.int 3,.int 3,.int 4,.int 4,.int 5,.int 6]) h1
  have g1:=AD (H:=H) (a:=p1) (o:=.lst [.int 1,.int 2,.int 3,.int 3,.int 4,.int 4,.int 5,.int 6])
  have n1:=TP.neT h1
  generalize upd H p1 (.lst [.int 1,.int 2,.int 3,.int 3,.int 4,.int 4,.int 5,.int 6])=H1 at *
  refine ⟨AX (show 8<=1000 by decide),fun p2 h2=>?_⟩
  have s2:=Same.upd (o:=.lst [.int 1,.int 2,.int 2,.int 3,.int 3,.int 4,.int 4,.int 4]) h2
  have g2:=AD (H:=H1) (a:=p2) (o:=.lst [.int 1,.int 2,.int 2,.int 3,.int 3,.int 4,.int 4,.int 4])
  have n2:=TP.neT (s1.free h2)
  generalize upd H1 p2 (.lst [.int 1,.int 2,.int 2,.int 3,.int 3,.int 4,.int 4,.int 4])=H2 at *
  refine ⟨AX (show 2<=1000 by decide),fun p3 h3=>?_⟩
  have s3:=Same.upd (o:=.lst [.ref p1,.ref p2]) h3
  have g3:=AD (H:=H2) (a:=p3) (o:=.lst [.ref p1,.ref p2])
  generalize upd H2 p3 (.lst [.ref p1,.ref p2])=H3 at *
  have hm:min k 1=0\/min k 1=1:=by lia
  have hat:atI [V.ref p1,.ref p2] (min k 1)=some (.ref p1)\/atI [V.ref p1,.ref p2] (min k 1)=some (.ref p2):=by
   rcases hm with e | e <;> rw [e]
   ·exact .inl rfl
   ·exact .inr rfl
  rcases hat with e | e
  ·exact ⟨_,.ref p1,.inl (.of g3),e,p1,_,rfl,s1.trans (s2.trans s3),n1,s3 _ _ (s2 _ _ g1),.inl rfl⟩
  ·exact ⟨_,.ref p2,.inl (.of g3),e,p2,_,rfl,s1.trans (s2.trans s3),n2,s3 _ _ g2,.inr rfl⟩
 rintro σ H1 ⟨pj,xs,rfl,s1,npj,g1,hxs⟩
 refine ⟨a,ns,TP.same s1,A7 (by decide) (by decide),fun d H2 d0 d1 T2 f2=>?_⟩
 obtain ⟨b,hb,b0,b1⟩:=OX hxs d0 d1
 exact ⟨_,_,.inl (.of (by rw [f2 pj npj];exact g1)),hb,q b H2 b0 b1 T2 (s1.frm.trans (MX f2))⟩
noncomputable def atP (ps:List (Int × Int)) (j:Nat):Int:=((ps.find? fun q=>q.1 == (j:Int)).map (·.2)).getD 0
theorem Nl {ps:List (Int × Int)} (nd:(ps.map (·.1)).Nodup) {x v:Int} (h:(x,v)∈ps) {j:Nat} (e:x=(j:Int)):atP ps j=v:=by
 subst e
 unfold atP
 induction ps with
 | nil=>cases h
 | cons r l ih =>
  rw [List.map_cons,List.nodup_cons] at nd
  rw [List.find?_cons]
  by_cases e:r.1=(j:Int)
  ·rw [beq_iff_eq.mpr e]
   rcases List.mem_cons.mp h with h | h
   ·rw [<- h];rfl
   ·exact absurd (by rw [e];exact List.mem_map_of_mem (f:=(·.1)) h) nd.1
  ·rw [beq_eq_false_iff_ne.mpr e]
   rcases List.mem_cons.mp h with h | h
   ·exact absurd (by rw [<- h]) e
   ·exact ih nd.2 h
theorem G2 {ps:List (Int × Int)} {j:Nat} (h:atP ps j≠0):((j:Int),atP ps j)∈ps:=by
 unfold atP at *
 cases e:ps.find? fun q=>q.1 == (j:Int) with
 | none=>rw [e] at h;exact absurd rfl h
 | some q =>
  have h1:=List.find?_some e
  have h2:=List.mem_of_find?_eq_some e
  have h3:q.1=(j:Int):=eq_of_beq h1
  show ((j:Int),q.2)∈ps
  rw [<- h3]
  exact h2
theorem IV {ps:List (Int × Int)} (nd:(ps.map (·.1)).Nodup) {x v:Int} (h:(x,v)∈ps):Am (ps.map fun q=>((Sum.inl q.1:Key),V.int q.2)) (.inl x)=some (.int v):=by
 induction ps with
 | nil=>cases h
 | cons r l ih =>
  rw [List.map_cons,List.nodup_cons] at nd
  unfold Am
  rw [List.map_cons,List.find?_cons]
  by_cases e:r.1=x
  ·have hd:decide ((Sum.inl r.1:Key)=.inl x)=true:=decide_eq_true (by rw [e])
   rw [hd]
   rcases List.mem_cons.mp h with h | h
   ·rw [<- h];rfl
   ·exact absurd (by rw [e];exact List.mem_map_of_mem (f:=(·.1)) h) nd.1
  ·have hd:decide ((Sum.inl r.1:Key)=.inl x)=false:=decide_eq_false (fun z=>e (Sum.inl.inj z))
   rw [hd]
   rcases List.mem_cons.mp h with h | h
   ·exact absurd (by rw [<- h]) e
   ·exact ih nd.2 h
theorem Ee (g:Nat->Int):∀ n,((AH g n).map (·.1)).Pairwise (· < ·)
 | 0=>.nil
 | n+1=>by
  show ((AH g n++(if g n=0 then [] else [(n,g n)])).map (·.1)).Pairwise (· < ·)
  rw [List.map_append,List.pairwise_append]
  refine ⟨Ee g n,by split <;> simp,fun x hx y hy=>?_⟩
  obtain ⟨q,hq,rfl⟩:=List.mem_map.mp hx
  have:=(BH hq).1
  split at hy
  ·cases hy
  ·have:y=n:=by simpa using hy
   lia
theorem FG {g:Nat->Int} {n j:Nat} (hj:j < n) (h:g j≠0):(j,g j)∈AH g n:=by
 induction n with
 | zero=>lia
 | succ n ih =>
  show _∈AH g n++(if g n=0 then [] else [(n,g n)])
  rcases Nat.lt_or_ge j n with z | z
  ·exact List.mem_append_left _ (ih z)
  ·have:j=n:=by lia
   subst this
   rw [if_neg h]
   exact List.mem_append_right _ (List.mem_singleton.mpr rfl)
theorem JU {α:Type} (key:α->Int):∀ {l r:List α},l.Perm r->l.Pairwise (fun a b=>key a < key b)->r.Pairwise (fun a b=>key a < key b)->l=r
 | [],r,h,_,_=>h.nil_eq
 | a::l,[],h,_,_=>absurd h.length_eq (by simp)
 | a::l,b::r,h,p1,p2=>by
  have e:a=b:=by
   rcases List.mem_cons.mp (h.mem_iff.mp List.mem_cons_self) with z | z
   ·exact z
   ·rcases List.mem_cons.mp (h.mem_iff.mpr (List.mem_cons_self (a:=b) (l:=r))) with y | y
    ·exact y.symm
    ·have h1:=(List.pairwise_cons.mp p2).1 a z
     have h2:=(List.pairwise_cons.mp p1).1 b y
     lia
  subst e
  rw [JU key h.cons_inv (List.pairwise_cons.mp p1).2 (List.pairwise_cons.mp p2).2]
theorem Ir {ps:List (Int × Int)} {m:Nat} (nd:(ps.map (·.1)).Nodup) (hin:∀ q∈ps,0<=q.1/\q.1 < ((2 ^ m:Nat):Int)) {rs:List (Int × Int)} (hp:rs.Perm (ps.filter fun q=>decide (q.2≠0))) (hs:(rs.map (·.1)).Pairwise (· < ·)):rs=(AH (atP ps) (2 ^ m)).map fun t=>((t.1:Int),t.2):=by
 have r1:rs.Pairwise (fun a b=>a.1 < b.1):=by rw [List.pairwise_map] at hs;exact hs
 have r2:((AH (atP ps) (2 ^ m)).map fun t=>((t.1:Int),t.2)).Pairwise (fun a b=>a.1 < b.1):=by
  have:=Ee (atP ps) (2 ^ m)
  rw [List.pairwise_map] at this ⊢
  exact this.imp fun h=>Int.ofNat_lt.mpr h
 have ir:∀ {l:List (Int × Int)},l.Pairwise (fun a b=>a.1 < b.1)->l.Nodup:=fun h=>h.imp fun h z=>by rw [z] at h;exact Int.lt_irrefl _ h
 refine JU (fun q=>q.1) ((List.perm_ext_iff_of_nodup (ir r1) (ir r2)).mpr fun q=>?_) r1 r2
 rw [hp.mem_iff,List.mem_filter,List.mem_map]
 constructor
 ·rintro ⟨h1,h2⟩
  have h2:=of_decide_eq_true h2
  obtain ⟨h3,h4⟩:=hin q h1
  obtain ⟨j,hj⟩:=Int.eq_ofNat_of_zero_le h3
  have e:=Nl nd (x:=q.1) (v:=q.2) h1 hj
  refine ⟨(j,q.2),?_,by rw [<- hj]⟩
  rw [<- e] at h2 ⊢
  exact FG (by lia) h2
 ·rintro ⟨t,ht,rfl⟩
  obtain ⟨h1,h2,h3⟩:=BH ht
  refine ⟨?_,decide_eq_true h3⟩
  have:=G2 (ps:=ps) (j:=t.1) (by rw [<- h2];exact h3)
  rw [h2]
  exact this
noncomputable def vI:V->Int
 | .int z=>z
 | _=>0
theorem HV {H:Hp}:∀ {rs:List (Int × Addr × V)} {ts:List (Nat × Int)},(rs.map fun q=>(q.1,vI q.2.2))=(ts.map fun t=>((t.1:Int),t.2))->(∀ q∈rs,q.2.2=.int (vI q.2.2)/\H q.2.1=some (.tup [.int q.1,q.2.2]))->Reps K H (ts.map BL) ((rs.map fun q=>q.2.1).map V.ref)
 | [],[],_,_=>Ap
 | [],_::_,h,_=>by cases h
 | _::_,[],h,_=>by cases h
 | r::rs,t::ts,h,g=>by
  rw [List.map_cons,List.map_cons] at h
  injection h with h1 h2
  injection h1 with h3 h4
  obtain ⟨g1,g2⟩:=g r List.mem_cons_self
  rw [g1,h3,h4] at g2
  exact Ai (BO g2 (Ai Ay (Ai Ay Ap))) (HV h2 fun q hq=>g q (List.mem_cons_of_mem _ hq))
structure WtOk (m:Nat) (ps:List (Int × Int)):Prop where
 nd:(ps.map (·.1)).Nodup
 rg:∀ q∈ps,0<=q.1/\q.1 < ((2 ^ m:Nat):Int)
 nb:∀ q∈ps,Nb q.2 60
noncomputable abbrev dkW (ps:List (Int × Int)):List (Key × V):=ps.map fun q=>(Sum.inl q.1,V.int q.2)
theorem WtOk.put {m:Nat} {ps:List (Int × Int)} (h:WtOk m ps) {k x:Int} (k0:0<=k) (k1:k < ((2 ^ m:Nat):Int)) (nx:Nb x 60):∃ qs,Az (dkW ps) (Sum.inl k) (.int x)=dkW qs/\WtOk m qs/\qs.length<=ps.length+1/\∀ q∈qs,q∈ps\/q=(k,x):=by
 unfold Az
 split
 ·refine ⟨ps.map fun q=>if q.1=k then (q.1,x) else q,?_,?_,by rw [List.length_map];lia,fun q hq=>?_⟩
  ·unfold dkW
   rw [List.map_map,List.map_map]
   refine List.map_congr_left fun q _=>?_
   show (if (Sum.inl q.1:Key)=Sum.inl k then _ else _)=((Sum.inl (if q.1=k then (q.1,x) else q).1:Key),V.int (if q.1=k then (q.1,x) else q).2)
   by_cases e:q.1=k
   ·rw [if_pos (by rw [e]),if_pos e]
   ·rw [if_neg (fun z=>e (by injection z)),if_neg e]
  ·have hm:∀ q∈ps.map fun q=>if q.1=k then (q.1,x) else q,q∈ps\/q=(k,x):=fun q hq=>by
    obtain ⟨r,hr,rfl⟩:=List.mem_map.mp hq
    by_cases e:r.1=k
    ·rw [if_pos e,e];exact .inr rfl
    ·rw [if_neg e];exact .inl hr
   refine ⟨?_,fun q hq=>?_,fun q hq=>?_⟩
   ·rw [List.map_map]
    have e:ps.map ((·.1) ∘ fun q=>if q.1=k then (q.1,x) else q)=ps.map (·.1):=List.map_congr_left fun q _=>by
     show (if q.1=k then (q.1,x) else q).1=q.1
     split <;> rfl
    rw [e]
    exact h.nd
   ·rcases hm q hq with z | z
    ·exact h.rg q z
    ·rw [z];exact ⟨k0,k1⟩
   ·rcases hm q hq with z | z
    ·exact h.nb q z
    ·rw [z];exact nx
  ·obtain ⟨r,hr,rfl⟩:=List.mem_map.mp hq
   by_cases e:r.1=k
   ·rw [if_pos e,e];exact .inr rfl
   ·rw [if_neg e];exact .inl hr
 ·rename_i hn
  have hk:k∉ps.map (·.1):=fun z=>hn (by
   obtain ⟨q,hq,e⟩:=List.mem_map.mp z
   rw [List.any_eq_true]
   exact ⟨(Sum.inl q.1,V.int q.2),List.mem_map_of_mem (f:=fun q:Int × Int=>((Sum.inl q.1:Key),V.int q.2)) hq,decide_eq_true (by have e:q.1=k:=e;rw [e])⟩)
  refine ⟨ps++[(k,x)],by unfold dkW;rw [List.map_append];rfl,⟨?_,fun q hq=>?_,fun q hq=>?_⟩,by rw [List.length_append];exact Nat.le_refl _,fun q hq=>?_⟩
  ·rw [List.map_append,List.nodup_append]
   refine ⟨h.nd,by simp,fun a ha b hb e=>?_⟩
   have:b=k:=by simpa using hb
   subst this
   exact hk (e ▸ ha)
  ·rcases List.mem_append.mp hq with z | z
   ·exact h.rg q z
   ·rw [List.mem_singleton.mp z];exact ⟨k0,k1⟩
  ·rcases List.mem_append.mp hq with z | z
   ·exact h.nb q z
   ·rw [List.mem_singleton.mp z];exact nx
  ·rcases List.mem_append.mp hq with z | z
   ·exact .inl z
   ·exact .inr (List.mem_singleton.mp z)
theorem WtOk.at {m:Nat} {ps:List (Int × Int)} (h:WtOk m ps) (j:Nat):Nb (atP ps j) 60:=by
 by_cases e:atP ps j=0
 ·rw [e];unfold Nb;decide
 ·exact h.nb _ (G2 e)
theorem HG {H:Hp}:∀ {as:List Addr} {ts:List (Nat × Int)},as.length=ts.length->(∀ (i:Nat) a t,as[i]? = some a->ts[i]? = some t->H a=some (.tup [.int (t.1:Int),.int t.2]))->Reps K H (ts.map BL) (as.map V.ref)
 | [],[],_,_=>Ap
 | [],_::_,h,_=>by cases h
 | _::_,[],h,_=>by cases h
 | a::as,t::ts,h,x=>Ai (BO (x 0 a t rfl rfl) (Ai Ay (Ai Ay Ap))) (HG (by simpa using h) fun i a' q' h1 h2=>x (i+1) a' q' (by simpa using h1) (by simpa using h2))
theorem Ow {ps:List (Int × Int)} {m:Nat} (W:WtOk m ps) (hne:∀ q∈ps,q.2≠0) {rs:List (Int × V)} (hp:rs.Perm (ps.map fun q=>(q.1,V.int q.2))) (hs:(rs.map (·.1)).Pairwise (· < ·)):rs=(AH (atP ps) (2 ^ m)).map fun t=>((t.1:Int),V.int t.2):=by
 have hf:(ps.filter fun q=>decide (q.2≠0))=ps:=List.filter_eq_self.mpr fun q hq=>decide_eq_true (hne q hq)
 have h1:(rs.map fun q=>(q.1,vI q.2)).Perm ps:=by
  refine (hp.map _).trans ?_
  rw [List.map_map]
  have e:ps.map id=ps:=List.map_id _
  have e2:ps.map ((fun q:Int × V=>(q.1,vI q.2)) ∘ fun q=>(q.1,V.int q.2))=ps.map id:=List.map_congr_left fun q _=>rfl
  rw [e2,e]
 have h2:=Ir W.nd W.rg (rs:=rs.map fun q=>(q.1,vI q.2)) (by rw [hf];exact h1) (by rw [List.map_map];exact hs)
 have h3:rs=(rs.map fun q=>(q.1,vI q.2)).map fun q=>(q.1,V.int q.2):=by
  rw [List.map_map]
  have e:rs.map id=rs:=List.map_id _
  conv=>lhs;rw [<- e]
  refine List.map_congr_left fun q hq=>?_
  obtain ⟨y,_,rfl⟩:=List.mem_map.mp (hp.mem_iff.mp hq)
  rfl
 rw [h3,h2,List.map_map]
 rfl
theorem IW {xs:List V} {i:Int} (h0:0<=i) (h1:i < xs.length):∃ z,atI xs i=some z/\z∈xs:=by
 obtain ⟨n,rfl⟩:=Int.eq_ofNat_of_zero_le h0
 have hn:n < xs.length:=by lia
 exact ⟨xs[n],Br rfl (List.getElem?_eq_getElem hn),List.getElem_mem hn⟩
noncomputable def Dc (K:W.Frag):Sp:=fun vs H Q _=>match vs with
 | [.ref t,.int n]=>∃ (a:Addr) (ns:List Int) (m:Nat),Tape K H t a ns/\n=m/\1<=m/\m<=6/\∀ (f:Nat->Int) v H',(∀ j,Nb (f j) 60)->Tape K H' t a ns->Frm t H H'->SumAt K H' v m (AH f (2 ^ m))->Q v H'
 | _=>False
theorem KH:AN (Dc K):=fun vs H Q Q' E h q=>by
 unfold Dc at *
 split at q
 ·revert q;repeat' first | exact h _ _ | exact Ax h | exact At h | exact Av h | (with_reducible first | refine Exists.imp fun _=>?_ | refine And.imp_right ?_ | refine forall_imp fun _=>?_)
 ·exact q.elim
theorem GR {H0 H:Hp} {t a p:Addr} {ns:List Int} {o:HO} (T0:Tape K H0 t a ns) (T1:Tape K H t a ns) (F:Frm t H0 (upd H p o)) (n:p≠t):Tape K (upd H p o) t a ns:=by
 obtain ⟨i,r,c,h1,h2,h3⟩:=T1.at_
 exact ⟨⟨i,r,c,h1,h2,by rw [AK (Ne.symm n)];exact h3⟩,T0.scr.stay fun o n e=>F a o n e⟩
theorem Lh:FnOk P w K mg base CX0 2 T.f_z17 T.d_z17 ["_law_tape_here","_law_n"] (Dc K):=by
 have G_z21:=EC (P:=P) (w:=w) (base:=base) T;have G_z25:=DX (P:=P) (w:=w) (base:=base) T
 refine T.F_z17.ok sc_z17 (fun vs H Q E h=>by unfold Dc at h;split at h <;> first | rfl | exact h.elim) (fun cdv A outer s H vs Q E hr h=>?_)
 have hu:=Af hr
 have mo2:AN Bm:=Ek
 have hr_z21:=hr.mono (show 1<=_ by decide);have hr_z25:=hr.mono (show 1<=_ by decide)
 unfold Dc at h
 split at h
 rotate_left
 ·exact h.elim
 rename_i t n
 obtain ⟨a,ns,m,TP,e1,m1,m6,q⟩:=h
 subst e1
 refine ⟨_,(@AE _ _ _ _ _ (@AL _ _ 2 _ _ _ _ sc_z17.nd rfl (by (first | exact Or.inl rfl | exact Or.inr rfl)) N8 (by rfl) (by (first | exact .inl rfl | exact .inr rfl | assumption))) (@AE _ _ _ _ _ (@Bj _ _ _ _ _ _ _ _ PassesOwn.never rfl (A3 rfl T.z_range (AA (AI G_z21 hr_z21 rfl T.m_z21 T.F_z21.kp T.b_z21 .nil AJ (AA (vv 0) (AA AC AB))) AB)) (AS (i:=3) sc_z17.nd rfl (by (first | exact Or.inl rfl | exact Or.inr rfl))) (@AE _ _ _ _ _ (@AL _ _ 4 _ _ _ _ sc_z17.nd rfl (by (first | exact Or.inl rfl | exact Or.inr rfl)) (@A4 _ _ _ _ (AA AC (AA (CM CL AC) (AA (AI G_z25 hr_z25 rfl T.m_z25 T.F_z25.kp T.b_z25 .nil AJ (AA (vv 1) AB)) (AA (CM CL (AI G_z25 hr_z25 rfl T.m_z25 T.F_z25.kp T.b_z25 .nil AJ (AA (vv 1) AB))) (AA AC (AA (AM Im AC AC) (AA (CM CL AC) AB)))))))) (by rfl) (by (first | exact .inl rfl | exact .inr rfl | assumption))) (@AF _ _ _ (@GX _ _ _ _ _ _ _ _ _ (CZ hu) (vv 2) (AI G_z21 hr_z21 rfl T.m_z21 T.F_z21.kp T.b_z21 .nil AJ (AA (vv 0) (AA (AI G_z25 hr_z25 rfl T.m_z25 T.F_z25.kp T.b_z25 .nil AJ (AA (vv 1) AB)) AB))) (kIx (K:=K) (vv 4) (AI G_z21 hr_z21 rfl T.m_z21 T.F_z21.kp T.b_z21 .nil AJ (AA (vv 0) (AA AC AB)))) (by rfl)))) (by intro _;rfl)) (@AF _ _ _ (@AT _ _ _ _ (BN (AA (vv 1) (AA (BW (CQ (K:=K)) rfl T.z_tuple (by rfl) (AA (NI rfl rfl T.z_sorted (vv 2)) AB)) AB))))))),?_⟩
 have h64:2 ^ m<=64:=Nat.pow_le_pow_right (n:=2) (by decide) m6
 refine fun d nd=>?_
 dsimp only [AY]
 have ndt:=TP.neT nd
 refine ⟨a,ns,TP.same (Same.upd nd),⟨by decide,by decide⟩,fun c H1 c0 c7 T1 f1=>?_⟩
 obtain ⟨N,rfl⟩:=Int.eq_ofNat_of_zero_le c0
 have fr1:Frm t H H1:=(Same.upd (o:=.dK []) nd).frm.trans (Bp f1)
 have g1:H1 d=some (.dK (dkW [])):=by rw [f1 d ndt];exact AD
 have hm2:(2:Int) ^ (m:Int).toNat=((2 ^ m:Nat):Int):=by rw [Int.toNat_natCast,Int.natCast_pow];rfl
 have hpos:=Nat.two_pow_pos m
 have i64:((2 ^ m:Nat):Int)<=64:=Int.ofNat_le.mpr h64
 refine ⟨N,rfl,by lia,by lia,?_⟩
 refine CO (fun i σ H'=>∃ (ps:List (Int × Int)) (z1 z2:Option V),σ=[some (.ref t),some (.int m),some (.ref d),z1,z2]/\ps.length<=i/\WtOk m ps/\(∀ q∈ps,q.2≠0)/\Tape K H' t a ns/\Frm t H H'/\H' d=some (.dK (dkW ps))) ⟨[],none,none,rfl,Nat.le_refl _,⟨.nil,(fun q hq=>by cases hq),(fun q hq=>by cases hq)⟩,(fun q hq=>by cases hq),T1,fr1,g1⟩ ?_ ?_
 ·rintro i σ H' hi ⟨ps,z1,z2,rfl,hl,W,hne,T2,fr2,g2⟩
  refine ⟨by lia,by lia,fun H3 s3=>⟨by lia,by lia,fun H4 s4=>⟨⟨by decide,by decide,by decide⟩,AX (show 7<=1000 by decide),fun l nl=>?_⟩⟩⟩
  have T4:=(T2.same s3).same s4
  have nlt:=T4.neT nl
  have s5:=Same.upd (o:=.lst [.int 1,.int (-1),.int (2 ^ (m:Int).toNat),.int (-(2 ^ (m:Int).toNat)),.int 3,.int (10 ^ (12:Int).toNat),.int (-7)]) nl
  dsimp only [AY]
  refine ⟨a,ns,T4.same s5,⟨by decide,by decide⟩,fun c H6 c0 c1 T6 f6=>?_⟩
  have hlist:H6 l=some (.lst [.int 1,.int (-1),.int (2 ^ (m:Int).toNat),.int (-(2 ^ (m:Int).toNat)),.int 3,.int (10 ^ (12:Int).toNat),.int (-7)]):=by rw [f6 l nlt];exact AD
  obtain ⟨z,hz,hm⟩:=IW (xs:=[V.int 1,.int (-1),.int (2 ^ (m:Int).toNat),.int (-(2 ^ (m:Int).toNat)),.int 3,.int (10 ^ (12:Int).toNat),.int (-7)]) c0 c1
  obtain ⟨x,rfl,nx,x0⟩:∃ x,z=.int x/\Nb x 60/\x≠0:=by
   have p60:(2:Nat) ^ 60=1152921504606846976:=by decide
   rw [hm2] at hm
   simp only [List.mem_cons,List.mem_nil_iff,or_false] at hm
   have e12:(10:Int) ^ (12:Int).toNat=1000000000000:=by decide
   rw [e12] at hm
   rcases hm with rfl | rfl | rfl | rfl | rfl | rfl | rfl <;> refine ⟨_,rfl,?_,?_⟩ <;> first | (unfold Nb;rw [p60];lia) | lia
  refine ⟨_,_,.inl (.of hlist),hz,by lia,by lia,fun H7 s7=>?_⟩
  refine ⟨a,ns,T6.same s7,?_,fun k H8 k0 k1 T8 f8=>?_⟩
  ·rw [hm2]
   exact A7 (by lia) (Int.le_trans (Int.ofNat_le.mpr h64) (by decide))
  rw [hm2] at k1
  have fr8:Frm t H H8:=fr2.trans ((s3.trans (s4.trans s5)).frm.trans ((Bp f6).trans (s7.frm.trans (Bp f8))))
  have g8:H8 d=some (.dK (dkW ps)):=by
   rw [f8 d ndt]
   refine s7 _ _ ?_
   rw [f6 d ndt]
   exact s5 _ _ (s4 _ _ (s3 _ _ g2))
  obtain ⟨qs,eq,Wq,hq,hmq⟩:=W.put k0 k1 nx
  have hdl:(dkW ps).length=ps.length:=by rw [List.length_map]
  refine ⟨d,_,rfl,DPut.k (k:=Sum.inl k) g8 (Ab (by lia)),qs,_,_,rfl,by lia,Wq,fun q hq'=>?_,?_⟩
  ·rcases hmq q hq' with h | h
   ·exact hne q h
   ·rw [h];exact x0
  rw [eq]
  have fr9:Frm t H (upd H8 d (.dK (dkW qs))):=Dy fr8 nd
  exact ⟨GR TP T8 fr9 ndt,fr9,AD⟩
 ·rintro σ H' ⟨ps,z1,z2,rfl,hl,W,hne,T2,fr2,g2⟩
  refine ⟨ps.map fun q=>(q.1,V.int q.2),by rw [g2,List.map_map];rfl,by rw [List.length_map];lia,fun l H3 as rs a1 a2 a3 a4 a5 a6 a7=>?_⟩
  refine ⟨_,.inl ⟨.of a5,fun l2 n2=>⟨AX (show 2<=1000 by decide),fun p np=>?_⟩⟩⟩
  have s2:=Same.upd (o:=.tup (as.map V.ref)) n2
  have s3:=Same.upd (o:=.tup [.int m,.ref l2]) np
  have T5:=((T2.same a4).same s2).same s3
  refine q (atP ps) _ _ W.at T5 (fr2.trans (a4.trans (s2.trans s3)).frm) ⟨p,l2,_,rfl,.of AD,.of (s3 _ _ AD),?_⟩
  have er:=Ow W hne a1 a2
  refine HG (by rw [a6,er,List.length_map]) fun i b u h1 h2=>s3 _ _ (s2 _ _ ?_)
  exact a7 i b ((u.1:Int),.int u.2) h1 (by rw [er,List.getElem?_map,h2];rfl)
noncomputable def okD:Nat->Dv->Prop
 | 0,_=>False
 | _+1,.int _=>True
 | _+1,.bl _=>True
 | _+1,.str _=>True
 | d+1,.lst ds=>ds.length<=1000/\∀ e∈ds,okD d e
 | d+1,.tup ds=>ds.length<=1000/\∀ e∈ds,okD d e
 | _+1,_=>False
noncomputable def By (K:W.Frag) (d:Nat):Sp:=fun vs H Q _=>match vs with
 | [x,y]=>∃ D,okD d D/\Rep K H D x/\Rep K H D y/\out H Q (.bl true)
 | _=>False
theorem OP {d:Nat}:AN (By K d):=fun vs H Q Q' E h q=>by
 unfold By at *
 split at q
 ·revert q;repeat' first | exact h _ _ | exact Ax h | exact At h | exact Av h | (with_reducible first | refine Exists.imp fun _=>?_ | refine And.imp_right ?_ | refine forall_imp fun _=>?_)
 ·exact q.elim
theorem Dj {H:Hp}:∀ {ds:List Dv} {xs:List V},Reps K H ds xs->ds.length=xs.length
 | [],xs,h=>by unfold Reps at h;subst h;rfl
 | d::ds,xs,h=>by
  unfold Reps at h
  obtain ⟨x,r,rfl,_,h2⟩:=h
  rw [List.length_cons,List.length_cons,Dj h2]
theorem D1 {H:Hp}:∀ {ds:List Dv} {xs:List V} {i:Nat},Reps K H ds xs->(hi:i < ds.length)->∃ x,xs[i]? = some x/\Rep K H ds[i] x
 | [],xs,i,h,hi=>absurd hi (Nat.not_lt_zero _)
 | d::ds,xs,0,h,hi=>by
  unfold Reps at h
  obtain ⟨x,r,rfl,h1,h2⟩:=h
  exact ⟨x,rfl,h1⟩
 | d::ds,xs,i+1,h,hi=>by
  unfold Reps at h
  obtain ⟨x,r,rfl,h1,h2⟩:=h
  obtain ⟨y,hy,ry⟩:=D1 h2 (Nat.lt_of_succ_lt_succ hi)
  exact ⟨y,hy,ry⟩
theorem LR:∀ d:Nat,FnOk P w K mg base CX0 (2+d) T.f_z18 T.d_z18 ["_law_found","_law_due"] (By K d):=by
 intro d
 induction d with
 | zero =>
  refine FnOk.mono (j:=1) ?_ (by lia)
  refine T.F_z18.ok Gj (fun vs H Q E h=>by unfold By at h;split at h <;> first | rfl | exact h.elim) (fun cdv A outer s H vs Q E hr h=>?_)
  refine ⟨GY,Nd,?_⟩
  unfold By at h
  split at h
  ·obtain ⟨D,h1,_⟩:=h
   exact h1
  ·exact h
 | succ d ih =>
  have G_z18:=ih
  refine T.F_z18.ok Gj (fun vs H Q E h=>by unfold By at h;split at h <;> first | rfl | exact h.elim) (fun cdv A outer s H vs Q E hr h=>?_)
  have hu:=Af hr
  have hr_z18:=hr
  match vs,h with
  | [x,y],⟨D,hd,rx,ry,q⟩ =>
  refine ⟨_,(@AE _ _ _ _ _ (@Ak _ _ _ _ _ _ _ _ (Bf (AQ (BY (K:=K)) rfl T.z_isinstance (by rfl) (AA (vv 1) (AA (BN (AA (A2 (v:=.ty "tuple") rfl T.z_tuple (by rfl) rfl) (AA (A2 (v:=.ty "list") rfl T.z_list (by rfl) rfl) AB))) AB)))) (@AE _ _ _ _ _ (@Ak _ _ _ _ _ _ _ _ (Ac (kNe (K:=K) hu) (AQ (BY (K:=K)) rfl T.z_isinstance (by rfl) (AA (vv 0) (AA (A2 (v:=.ty "tuple") rfl T.z_tuple (by rfl) rfl) AB))) (AQ (BY (K:=K)) rfl T.z_isinstance (by rfl) (AA (vv 1) (AA (A2 (v:=.ty "tuple") rfl T.z_tuple (by rfl) rfl) AB)))) (@AF _ _ _ (@AT _ _ _ _ DJ)) Ao) (@AE _ _ _ _ _ (@Ak _ _ _ _ _ _ _ _ (Ac (kNe (K:=K) hu) (AQ (BY (K:=K)) rfl T.z_isinstance (by rfl) (AA (vv 0) (AA (A2 (v:=.ty "list") rfl T.z_list (by rfl) rfl) AB))) (AQ (BY (K:=K)) rfl T.z_isinstance (by rfl) (AA (vv 1) (AA (A2 (v:=.ty "list") rfl T.z_list (by rfl) rfl) AB)))) (@AF _ _ _ (@AT _ _ _ _ DJ)) Ao) (@AF _ _ _ (@AT _ _ _ _ (DO (A9 (kEq (K:=K) hu) (AQ (Bl (K:=K)) rfl T.z_len (by rfl) (AA (vv 0) AB)) (AQ (Bl (K:=K)) rfl T.z_len (by rfl) (AA (vv 1) AB))) (Dk (AQ (JV (K:=K) rfl) rfl T.z_all (by rfl) (AA (BA (N':=["_law_k","_law_found","_law_due"]) (own:=1) (ix:=[0,1]) rfl (A3 rfl T.z_range (AA (AQ (Bl (K:=K)) rfl T.z_len (by rfl) (AA (vv 1) AB)) AB)) (by kernel_rfl) rfl rfl (by kernel_rfl) (fun c=>AS (i:=0) (show (["_law_k","_law_found","_law_due"]:List Str).Nodup by decide +kernel) rfl (by (first | exact Or.inl rfl | exact Or.inr rfl))) (Ad (by decide)) (fun c=>Au) (fun c=>(AI G_z18 hr_z18 rfl T.m_z18 T.F_z18.kp T.b_z18 .nil AJ (AA (kIx (K:=K) (vv 1) (vv 0)) (AA (kIx (K:=K) (vv 2) (vv 0)) AB))))) AB)))))))) Ao) (@AE _ _ _ _ _ (@Ak _ _ _ _ _ _ _ _ (PW.pt (JL (Bf (AQ (BY (K:=K)) rfl T.z_isinstance (by rfl) (AA (vv 1) (AA (A2 (v:=.ty "bool") rfl T.z_bool (by rfl) rfl) AB)))) (I0 (Bf (AQ (BY (K:=K)) rfl T.z_isinstance (by rfl) (AA (vv 0) (AA (A2 (v:=.ty "bool") rfl T.z_bool (by rfl) rfl) AB))))))) (@AF _ _ _ (@AT _ _ _ _ (DO (AQ (BY (K:=K)) rfl T.z_isinstance (by rfl) (AA (vv 0) (AA (A2 (v:=.ty "bool") rfl T.z_bool (by rfl) rfl) AB))) (DO (AQ (BY (K:=K)) rfl T.z_isinstance (by rfl) (AA (vv 1) (AA (A2 (v:=.ty "bool") rfl T.z_bool (by rfl) rfl) AB))) (Dk (A9 (kEq (K:=K) hu) (vv 0) (vv 1))))))) Ao) (@AF _ _ _ (@AT _ _ _ _ (DO (A9 (kEq (K:=K) hu) (AQ (BY (K:=K)) rfl T.z_isinstance (by rfl) (AA (vv 0) (AA (A2 (v:=.ty "int") rfl T.z_int (by rfl) rfl) AB))) (AQ (BY (K:=K)) rfl T.z_isinstance (by rfl) (AA (vv 1) (AA (A2 (v:=.ty "int") rfl T.z_int (by rfl) rfl) AB)))) (Dk (A9 (kEq (K:=K) hu) (vv 0) (vv 1)))))))),?_⟩
  cases D with
  | int i =>
   unfold Rep at rx ry
   subst rx ry
   refine ⟨AX (show 2<=1000 by decide),fun tp hp=>⟨"int",AD,rfl,?_⟩⟩
   dsimp only [isB]
   rw [show (("int" : String) == "tuple" || ("int" : String) == "list")=false by decide]
   refine AO (fun e=>absurd e (by decide)) (fun _=>?_)
   refine ⟨by decide,"int",rfl,?_⟩
   dsimp only [isB]
   rw [show Ar "int" "bool" = false by decide]
   refine ⟨by decide,"int",rfl,?_⟩
   dsimp only [isB]
   rw [show Ar "int" "bool" = false by decide]
   refine AO (fun e=>absurd e (by decide)) (fun _=>?_)
   refine ⟨by decide,"int",rfl,by decide,"int",rfl,?_⟩
   dsimp only [mEq,isB]
   rw [show Ar "int" "int" = true by decide]
   refine AO (fun _=>?_) (fun e=>absurd (by decide) e)
   show Q (.bl (false ^^ (i == i))) _
   rw [beq_self_eq_true]
   exact q _ (Same.upd hp)
  | bl b =>
   unfold Rep at rx ry
   subst rx ry
   refine ⟨AX (show 2<=1000 by decide),fun tp hp=>⟨"bool",AD,rfl,?_⟩⟩
   dsimp only [isB]
   rw [show (("bool" : String) == "tuple" || ("bool" : String) == "list")=false by decide]
   refine AO (fun e=>absurd e (by decide)) (fun _=>?_)
   refine ⟨by decide,"bool",rfl,?_⟩
   dsimp only [isB]
   rw [show Ar "bool" "bool" = true by decide]
   refine AO (fun _=>?_) (fun e=>absurd rfl e)
   refine ⟨by decide,"bool",rfl,?_⟩
   dsimp only [isB]
   rw [show Ar "bool" "bool" = true by decide]
   refine AO (fun _=>?_) (fun e=>absurd rfl e)
   refine ⟨by decide,"bool",rfl,?_⟩
   dsimp only [isB]
   rw [show Ar "bool" "bool" = true by decide]
   refine AO (fun _=>?_) (fun e=>absurd rfl e)
   show Q (.bl (false ^^ (b == b))) _
   rw [beq_self_eq_true]
   exact q _ (Same.upd hp)
  | str z =>
   unfold Rep at rx ry
   subst rx ry
   refine ⟨AX (show 2<=1000 by decide),fun tp hp=>⟨AD,?_⟩⟩
   refine ⟨by decide,by decide,?_⟩
   dsimp only [isB]
   rw [show (("bool" : String) == "str")=false by decide]
   refine AO (fun e=>absurd e (by decide)) (fun _=>?_)
   refine ⟨by decide,by decide,?_⟩
   dsimp only [mEq,isB]
   rw [show (("int" : String) == "str")=false by decide]
   refine AO (fun _=>?_) (fun e=>absurd (by decide) e)
   show Q (.bl (false ^^ (z == z))) _
   rw [beq_self_eq_true]
   exact q _ (Same.upd hp)
  | lst ds =>
   unfold Rep at rx ry
   obtain ⟨a1,xs,rfl,h1,r1⟩:=rx
   obtain ⟨a2,ys,rfl,h2,r2⟩:=ry
   refine ⟨AX (show 2<=1000 by decide),fun tp hp=>⟨"list",AD,.inr ⟨rfl,_,(Same.upd hp).sqL h2⟩,?_⟩⟩
   dsimp only [isB]
   rw [show (("list" : String) == "tuple" || ("list" : String) == "list")=true by decide]
   refine AO (fun _=>?_) (fun e=>absurd (by decide) e)
   have s0:Same H (upd H tp (.tup [.ty "tuple",.ty "list"])):=Same.upd hp
   have h1:=s0.sqL h1
   have h2:=s0.sqL h2
   have r1:=Reps.same s0 _ _ r1
   have r2:=Reps.same s0 _ _ r2
   generalize upd H tp (.tup [.ty "tuple",.ty "list"])=H1 at *
   refine ⟨by decide,"list",.inr ⟨rfl,_,h1⟩,by decide,"list",.inr ⟨rfl,_,h2⟩,?_⟩
   dsimp only [mEq,isB]
   rw [show Ar "list" "tuple" = false by decide]
   refine AO (fun e=>absurd e (by decide)) (fun _=>?_)
   refine ⟨by decide,"list",.inr ⟨rfl,_,h1⟩,by decide,"list",.inr ⟨rfl,_,h2⟩,?_⟩
   dsimp only [mEq,isB]
   rw [show Ar "list" "list" = true by decide]
   refine AO (fun e=>absurd e (by decide)) (fun _=>?_)
   dsimp only [Ds]
   have lx:=Dj r1
   have ly:=Dj r2
   refine ⟨xs.length,.inl ⟨_,h1,rfl⟩,ys.length,.inl ⟨_,h2,rfl⟩,?_⟩
   dsimp only [mEq,isB]
   rw [show ((xs.length:Int) == (ys.length:Int))=true by rw [<- lx,ly];exact beq_self_eq_true _]
   refine AO (fun _=>?_) (fun e=>absurd (by decide) e)
   have hd':ds.length<=1000:=hd.1
   refine ⟨ys.length,.inl ⟨_,h2,rfl⟩,(ys.length:Int),rfl,by lia,by lia,?_⟩
   refine CN (fun i zs H'=>Same H1 H'/\zs=(List.replicate i true).map V.bl) ⟨Same.refl _,rfl⟩ (fun i zs H' hi ⟨_,e⟩=>by
    rw [e];exact Ab (by rw [List.length_map,List.length_replicate];lia)) ?_ ?_
   ·rintro i zs H' hi ⟨s1,rfl⟩
    have hi':i < ds.length:=by lia
    obtain ⟨x,hx,rx⟩:=D1 r1 hi'
    obtain ⟨y,hy,ry⟩:=D1 r2 hi'
    rw [show (0:Int)+(i:Int)=(i:Int) from Int.zero_add _]
    refine ⟨_,x,.inl (s1.sqL h1),Br rfl hx,_,y,.inl (s1.sqL h2),Br rfl hy,ds[i],hd.2 _ (List.getElem_mem hi'),Rep.same s1 _ _ rx,Rep.same s1 _ _ ry,fun H2 s2=>⟨s1.trans s2,?_⟩⟩
    rw [List.replicate_succ',List.map_append];rfl
   rintro zs H' ⟨s1,rfl⟩ l hl
   refine ⟨_,.of AD,?_⟩
   have:(List.replicate (ys.length:Int).toNat true).all id=true:=by simp
   rw [this]
   exact q _ (s0.trans (s1.trans (Same.upd hl)))
  | tup ds =>
   unfold Rep at rx ry
   obtain ⟨a1,xs,rfl,h1,r1⟩:=rx
   obtain ⟨a2,ys,rfl,h2,r2⟩:=ry
   refine ⟨AX (show 2<=1000 by decide),fun tp hp=>⟨"tuple",AD,.inl ⟨rfl,_,Aj h2 (Same.upd hp)⟩,?_⟩⟩
   dsimp only [isB]
   rw [show (("tuple" : String) == "tuple" || ("tuple" : String) == "list")=true by decide]
   refine AO (fun _=>?_) (fun e=>absurd (by decide) e)
   have s0:Same H (upd H tp (.tup [.ty "tuple",.ty "list"])):=Same.upd hp
   have h1:=Aj h1 s0
   have h2:=Aj h2 s0
   have r1:=Reps.same s0 _ _ r1
   have r2:=Reps.same s0 _ _ r2
   generalize upd H tp (.tup [.ty "tuple",.ty "list"])=H1 at *
   refine ⟨by decide,"tuple",.inl ⟨rfl,_,h1⟩,by decide,"tuple",.inl ⟨rfl,_,h2⟩,?_⟩
   dsimp only [mEq,isB]
   rw [show Ar "tuple" "tuple" = true by decide]
   refine AO (fun e=>absurd e (by decide)) (fun _=>?_)
   refine ⟨by decide,"tuple",.inl ⟨rfl,_,h1⟩,by decide,"tuple",.inl ⟨rfl,_,h2⟩,?_⟩
   dsimp only [mEq,isB]
   rw [show Ar "tuple" "list" = false by decide]
   refine AO (fun e=>absurd e (by decide)) (fun _=>?_)
   dsimp only [Ds]
   have lx:=Dj r1
   have ly:=Dj r2
   refine ⟨xs.length,.inr ⟨_,h1,rfl⟩,ys.length,.inr ⟨_,h2,rfl⟩,?_⟩
   dsimp only [mEq,isB]
   rw [show ((xs.length:Int) == (ys.length:Int))=true by rw [<- lx,ly];exact beq_self_eq_true _]
   refine AO (fun _=>?_) (fun e=>absurd (by decide) e)
   have hd':ds.length<=1000:=hd.1
   refine ⟨ys.length,.inr ⟨_,h2,rfl⟩,(ys.length:Int),rfl,by lia,by lia,?_⟩
   refine CN (fun i zs H'=>Same H1 H'/\zs=(List.replicate i true).map V.bl) ⟨Same.refl _,rfl⟩ (fun i zs H' hi ⟨_,e⟩=>by
    rw [e];exact Ab (by rw [List.length_map,List.length_replicate];lia)) ?_ ?_
   ·rintro i zs H' hi ⟨s1,rfl⟩
    have hi':i < ds.length:=by lia
    obtain ⟨x,hx,rx⟩:=D1 r1 hi'
    obtain ⟨y,hy,ry⟩:=D1 r2 hi'
    rw [show (0:Int)+(i:Int)=(i:Int) from Int.zero_add _]
    refine ⟨_,x,.inr (Aj h1 s1),Br rfl hx,_,y,.inr (Aj h2 s1),Br rfl hy,ds[i],hd.2 _ (List.getElem_mem hi'),Rep.same s1 _ _ rx,Rep.same s1 _ _ ry,fun H2 s2=>⟨s1.trans s2,?_⟩⟩
    rw [List.replicate_succ',List.map_append];rfl
   rintro zs H' ⟨s1,rfl⟩ l hl
   refine ⟨_,.of AD,?_⟩
   have:(List.replicate (ys.length:Int).toNat true).all id=true:=by simp
   rw [this]
   exact q _ (s0.trans (s1.trans (Same.upd hl)))
  | _=>exact hd.elim
theorem LV:FnOk P w K mg base CX0 6 T.f_z18 T.d_z18 ["_law_found","_law_due"] (By K 4):=LR T 4
theorem Fq (f g:Nat->Int):∀ n,((AH f n).map fun t=>t.2 * g t.1).sum=AV (fun j=>f j * g j) n
 | 0=>rfl
 | n+1=>by
  show ((AH f n++(if f n=0 then [] else [(n,f n)])).map fun t=>t.2 * g t.1).sum=AV (fun j=>f j * g j) n+f n * g n
  rw [List.map_append,List.sum_append,Fq f g n]
  by_cases e:f n=0
  ·rw [if_pos e,e];simp
  ·rw [if_neg e];simp
theorem Tape.lst {K:W.Frag} {H:Hp} {t a:Addr} {ns:List Int} (T:Tape K H t a ns):∃ zs,H t=some (.lst zs):=by
 obtain ⟨i,r,c,_,_,h⟩:=T.at_
 exact ⟨_,h⟩
theorem LF {H H':Hp} {v:V} {m:Nat} {t a:Addr} {ns:List Int} {ts:List (Nat × Int)} (S:SumAt K H v m ts) (F:Tape K H t a ns) (f:Frm t H H'):SumAt K H' v m ts:=.of (Rep.frm f F.lst _ _ (by have e:=GS ts;simp [Cq,CC,BU,e]) S.rep)
theorem IX {α:Type} [DecidableEq α]:∀ {ds ls:List α},ds.Nodup->(∀ z∈ds,z∈ls)->ds.length<=ls.length
 | [],ls,_,_=>Nat.zero_le _
 | z::ds,ls,nd,h=>by
  obtain ⟨h1,h2⟩:=List.nodup_cons.mp nd
  have hz:z∈ls:=h z (by simp)
  have:=IX (ds:=ds) (ls:=ls.erase z) h2 (fun x hx=>(List.mem_erase_of_ne (fun e:x=z=>h1 (e ▸ hx))).mpr (h x (List.mem_cons_of_mem _ hx)))
  have e:=List.length_erase_of_mem hz
  have:0 < ls.length:=List.length_pos_of_mem hz
  rw [List.length_cons]
  lia
theorem WtOk.len {m:Nat} {ps:List (Int × Int)} (h:WtOk m ps):ps.length<=2 ^ m:=by
 have:=IX (ls:=(List.range (2 ^ m)).map Int.ofNat) h.nd fun z hz=>by
  obtain ⟨q,hq,rfl⟩:=List.mem_map.mp hz
  obtain ⟨h1,h2⟩:=h.rg q hq
  exact List.mem_map.mpr ⟨q.1.toNat,List.mem_range.mpr (by lia),by show ((q.1.toNat:Nat):Int)=q.1;lia⟩
 rwa [List.length_map,List.length_map,List.length_range] at this
structure Bw (K:W.Frag) (m:Nat) (t a:Addr) (ns:List Int) (H0 H:Hp) (d:Addr) (ps:List (Int × Int)):Prop where
 tp:Tape K H t a ns
 fr:Frm t H0 H
 at_:H d=some (.dK (dkW ps))
 nd0:H0 d=none
 ok:WtOk m ps
section
variable {m:Nat} {t a d:Addr} {ns:List Int} {H0 H H':Hp} {ps:List (Int × Int)}
theorem Bw.same (B:Bw K m t a ns H0 H d ps) (s:Same H H'):Bw K m t a ns H0 H' d ps:=⟨B.tp.same s,B.fr.trans s.frm,s _ _ B.at_,B.nd0,B.ok⟩
theorem Bw.next (B:Bw K m t a ns H0 H d ps) (TP:Tape K H0 t a ns) (T1:Tape K H' t a ns) (f1:∀ b,b≠t->H' b=H b):Bw K m t a ns H0 H' d ps:=⟨T1,B.fr.trans (Bp f1),by rw [f1 d (TP.neT B.nd0)];exact B.at_,B.nd0,B.ok⟩
theorem Jo {ps qs:List (Int × Int)} {k x:Int} (eq:Az (dkW ps) (Sum.inl k) (.int x)=dkW qs):qs.map (·.1)=ps.map (·.1)\/qs.map (·.1)=ps.map (·.1)++[k]:=by
 have inj:∀ {l r:List Int},l.map (Sum.inl:Int->Key)=r.map Sum.inl->l=r:=fun {l r} h=>List.map_inj_right (fun a b e=>Sum.inl.inj e) |>.mp h
 have e:=congrArg (List.map Prod.fst) eq
 have e1:(dkW qs).map Prod.fst=(qs.map (·.1)).map (Sum.inl:Int->Key):=by rw [List.map_map,List.map_map];rfl
 have e2:(dkW ps).map Prod.fst=(ps.map (·.1)).map (Sum.inl:Int->Key):=by rw [List.map_map,List.map_map];rfl
 rw [e1] at e
 unfold Az at e
 split at e
 ·left
  refine inj ?_
  rw [<- e,<- e2,List.map_map]
  refine List.map_congr_left fun r _=>?_
  show (if r.1=_ then _ else r).1=r.1
  split <;> rfl
 ·right
  refine inj ?_
  rw [<- e,List.map_append,e2,List.map_append]
  rfl
theorem Bw.put (B:Bw K m t a ns H0 H d ps) (TP:Tape K H0 t a ns) (m6:m<=6) {k x:Int} (k0:0<=k) (k1:k < ((2 ^ m:Nat):Int)) (nx:Nb x 60):∃ qs H',DPut H d (.int k) (.int x) H'/\Bw K m t a ns H0 H' d qs/\(qs.map (·.1)=ps.map (·.1)\/qs.map (·.1)=ps.map (·.1)++[k]):=by
 have h64:2 ^ m<=64:=Nat.pow_le_pow_right (n:=2) (by decide) m6
 have hl:=B.ok.len
 obtain ⟨qs,eq,Wq,hq,hmq⟩:=B.ok.put k0 k1 nx
 refine ⟨qs,_,DPut.k (k:=Sum.inl k) B.at_ (Ab (by rw [List.length_map];lia)),?_⟩
 have hkq:=Jo eq
 rw [eq]
 have fr9:Frm t H0 (upd H d (.dK (dkW qs))):=Dy B.fr B.nd0
 exact ⟨⟨GR TP B.tp fr9 (TP.neT B.nd0),fr9,AD,B.nd0,Wq⟩,hkq⟩
theorem Bw.get (B:Bw K m t a ns H0 H d ps) {k v:Int} (h:(k,v)∈ps):DGet H d (.int k) (some (.int v)):=.inl ⟨_,.inl k,.inl B.at_,rfl,(IV B.ok.nd h).symm⟩
theorem Bw.get2 (B:Bw K m t a ns H0 H d ps) (k z:Int):∃ o v,DGet H d (.int k) o/\o.getD (.int z)=.int v/\(v=z\/(k,v)∈ps):=by
 by_cases h:∃ v,(k,v)∈ps
 ·obtain ⟨v,h⟩:=h
  exact ⟨_,v,B.get h,rfl,.inr h⟩
 ·refine ⟨_,z,.inl ⟨_,.inl k,.inl B.at_,rfl,rfl⟩,?_,.inl rfl⟩
  have:Am (dkW ps) (Sum.inl k)=none:=by
   unfold Am
   rw [Option.map_eq_none_iff,List.find?_eq_none]
   intro z hz e
   obtain ⟨q,hq,rfl⟩:=List.mem_map.mp hz
   have e:(Sum.inl q.1:Key)=Sum.inl k:=of_decide_eq_true e
   injection e with e
   exact h ⟨q.2,by rw [<- e];exact hq⟩
  rw [this]
  rfl
end
theorem Kg {p t a:Addr} {ns:List Int} {H H':Hp} {xs:List V} (h:SqT K H p xs) (T:Tape K H t a ns) (s:Frm t H H'):SqT K H' p xs:=by
 obtain ⟨zs,hz⟩:=T.lst
 rcases h with (h1 | ⟨o,h1⟩) | h1
 ·exact .inl (.inl (s p _ (fun q=>by rw [q,hz] at h1;cases h1) h1))
 ·exact .inl (.inr ⟨o,s p _ (fun q=>by rw [q,hz] at h1;cases h1) h1⟩)
 ·exact .inr h1
noncomputable def De (K:W.Frag):Sp:=fun vs H Q _=>match vs with
 | [.ref t,x]=>∃ (a:Addr) (ns:List Int) (m:Nat) (g:Nat->Int),Tape K H t a ns/\SumAt K H x m (AH g (2 ^ m))/\1<=m/\m<=6/\(∀ j,Nb (g j) 50)/\∀ (f:Nat->Int) v H',(∀ j,Nb (f j) 60)->Tape K H' t a ns->Frm t H H'->SumAt K H' v m (AH f (2 ^ m))->Q v H'
 | _=>False
theorem Ol:AN (De K):=fun vs H Q Q' E h q=>by
 unfold De at *
 split at q
 ·revert q;repeat' first | exact h _ _ | exact Ax h | exact At h | exact Av h | (with_reducible first | refine Exists.imp fun _=>?_ | refine And.imp_right ?_ | refine forall_imp fun _=>?_)
 ·exact q.elim
theorem N7:FnOk P w K mg base CX0 2 T.f_z23 T.d_z23 ["_law_tape_here","_law_whole"] (De K):=by
 have G_z21:=EC (P:=P) (w:=w) (base:=base) T;have G_z25:=DX (P:=P) (w:=w) (base:=base) T
 refine T.F_z23.ok sc_z23 (fun vs H Q E h=>by unfold De at h;split at h <;> first | rfl | exact h.elim) (fun cdv A outer s H vs Q E hr h=>?_)
 have hu:=Af hr
 have mo2:AN Bm:=Ek
 have hr_z21:=hr.mono (show 1<=_ by decide);have hr_z25:=hr.mono (show 1<=_ by decide)
 unfold De at h
 split at h
 rotate_left
 ·exact h.elim
 rename_i t x
 obtain ⟨a,ns,m,g,TP,S,m1,m6,hg,q⟩:=h
 have h64:2 ^ m<=64:=Nat.pow_le_pow_right (n:=2) (by decide) m6
 have hm2:(2:Int) ^ (m:Int).toNat=((2 ^ m:Nat):Int):=by rw [Int.toNat_natCast,Int.natCast_pow];rfl
 have hpos:=Nat.two_pow_pos m
 have i64:((2 ^ m:Nat):Int)<=64:=Int.ofNat_le.mpr h64
 have od:okDiv ((2 ^ m:Nat):Int):=A7 (by lia) (Int.le_trans i64 (by decide))
 obtain ⟨w1,w2,us,rfl,hw1,hw2,hR⟩:=id S.at_
 have hul:us.length=(AH g (2 ^ m)).length:=by have:=hR.length;rw [List.length_map] at this;lia
 have htl:=D5 g (2 ^ m)
 refine ⟨_,(@AE _ _ _ _ _ (@AL _ _ 2 _ _ _ _ sc_z23.nd rfl (by (first | exact Or.inl rfl | exact Or.inr rfl)) (BW (Jt (K:=K) rfl) rfl T.z_dict (by rfl) (AA (kIx (K:=K) (vv 1) AC) AB)) (by rfl) (by (first | exact .inl rfl | exact .inr rfl | assumption))) (@AE _ _ _ _ _ (@AL _ _ 3 _ _ _ _ sc_z23.nd rfl (by (first | exact Or.inl rfl | exact Or.inr rfl)) (AI G_z21 hr_z21 rfl T.m_z21 T.F_z21.kp T.b_z21 .nil AJ (AA (vv 0) (AA (AI G_z25 hr_z25 rfl T.m_z25 T.F_z25.kp T.b_z25 .nil AJ (AA (kIx (K:=K) (vv 1) AC) AB)) AB))) (by rfl) (by (first | exact .inl rfl | exact .inr rfl | assumption))) (@AE _ _ _ _ _ (@AL _ _ 4 _ _ _ _ sc_z23.nd rfl (by (first | exact Or.inl rfl | exact Or.inr rfl)) (AI G_z21 hr_z21 rfl T.m_z21 T.F_z21.kp T.b_z21 .nil AJ (AA (vv 0) (AA AC AB))) (by rfl) (by (first | exact .inl rfl | exact .inr rfl | assumption))) (@AE _ _ _ _ _ (@Ak _ _ _ _ _ _ _ _ (Ac (kEq (K:=K) hu) (vv 4) AC) (@AF _ _ _ (@GX _ _ _ _ _ _ _ _ _ (CZ hu) (vv 2) (vv 3) (AM FU AC (IT (CZ hu) (vv 2) (vv 3) AC ⟨by rfl,by rfl,by rfl,by rfl⟩)) (by rfl))) (@AF _ _ _ (@Ak _ _ _ _ _ _ _ _ (Ac (kEq (K:=K) hu) (vv 4) AC) (@AF _ _ _ (@E3 _ _ _ _ (OU (vv 2) (vv 3) AC ⟨by rfl,by rfl,by rfl,by rfl⟩) (by rfl))) (@AF _ _ _ (@GX _ _ _ _ _ _ _ _ _ (CZ hu) (vv 2) (vv 3) (AM (BS (K:=K)) (IT (CZ hu) (vv 2) (vv 3) AC ⟨by rfl,by rfl,by rfl,by rfl⟩) (kIx (K:=K) (A4 (AA AC (AA (CM CL AC) (AA AC AB)))) (AI G_z21 hr_z21 rfl T.m_z21 T.F_z21.kp T.b_z21 .nil AJ (AA (vv 0) (AA AC AB))))) (by rfl)))))) (@AF _ _ _ (@AT _ _ _ _ (BN (AA (kIx (K:=K) (vv 1) AC) (AA (BW (CQ (K:=K)) rfl T.z_tuple (by rfl) (AA (AQ Km rfl T.z_sorted (by rfl) (AA (BA (N':=["_law_k","_law_weights"]) (own:=1) (ix:=[2]) rfl (PZ (vv 2)) (by kernel_rfl) rfl rfl (by kernel_rfl) (fun c=>AS (i:=0) (show (["_law_k","_law_weights"]:List Str).Nodup by decide +kernel) rfl (by (first | exact Or.inl rfl | exact Or.inr rfl))) (Ad (by decide)) (fun c=>HJ (Ac (kNe (K:=K) hu) (HF (CZ hu) (vv 1) (vv 0) (by intro _ _;rfl)) AC)) (fun c=>(BN (AA (vv 0) (AA (HF (CZ hu) (vv 1) (vv 0) (by intro _ _;rfl)) AB))))) AB)) AB)) AB))))))))),?_⟩
 refine ⟨_,.ref w2,.inr hw1,rfl,?_⟩
 refine ⟨us,(AH g (2 ^ m)).map fun t=>((t.1:Int),t.2),hw2,by rw [List.length_map];lia,by rw [List.length_map];lia,fun j kv hkv=>?_,?_,fun d nd=>?_⟩
 ·rw [List.getElem?_map] at hkv
  cases et:(AH g (2 ^ m))[j]? with
  | none=>rw [et] at hkv;cases hkv
  | some t =>
   rw [et] at hkv
   cases hkv
   have hj:j < us.length:=by rw [hul];exact (List.getElem?_eq_some_iff.mp et).1
   obtain ⟨t',c,h1,h2,h3⟩:=Cj hR (List.getElem?_eq_getElem hj)
   rw [et] at h1
   cases h1
   exact ⟨c,by rw [List.getElem?_eq_getElem hj,h2],h3⟩
 ·rw [List.map_map]
  have h:=Ee g (2 ^ m)
  have e:(AH g (2 ^ m)).map ((fun x:Int × Int=>x.1) ∘ fun t=>((t.1:Int),t.2))=((AH g (2 ^ m)).map (·.1)).map Int.ofNat:=by rw [List.map_map];rfl
  rw [e]
  refine List.Pairwise.map _ (fun a b (h:a < b) z=>?_) h
  have:(a:Int)=(b:Int):=z
  lia
 have ndt:=TP.neT nd
 have asc0:(((AH g (2 ^ m)).map fun t=>((t.1:Int),t.2)).map (·.1)).Pairwise (· < ·):=by
  rw [List.map_map]
  have e:(AH g (2 ^ m)).map ((fun x:Int × Int=>x.1) ∘ fun t=>((t.1:Int),t.2))=((AH g (2 ^ m)).map (·.1)).map Int.ofNat:=by rw [List.map_map];rfl
  rw [e]
  exact List.Pairwise.map _ (fun a b (h:a < b)=>Int.ofNat_lt.mpr h) (Ee g (2 ^ m))
 have W0:WtOk m ((AH g (2 ^ m)).map fun t=>((t.1:Int),t.2)):=⟨asc0.imp fun h=>Int.ne_of_lt h,fun q hq=>by
  obtain ⟨t,ht,rfl⟩:=List.mem_map.mp hq
  have:=(BH ht).1
  exact ⟨Int.natCast_nonneg _,Int.ofNat_lt.mpr this⟩,fun q hq=>by
  obtain ⟨t,ht,rfl⟩:=List.mem_map.mp hq
  show Nb t.2 60
  rw [(BH ht).2.1]
  exact (hg _).up (by decide)⟩
 have hb:∀ q∈(AH g (2 ^ m)).map fun t=>((t.1:Int),t.2),Nb q.2 50:=fun q hq=>by
  obtain ⟨t,ht,rfl⟩:=List.mem_map.mp hq
  show Nb t.2 50
  rw [(BH ht).2.1]
  exact hg _
 generalize (AH g (2 ^ m)).map (fun t=>((t.1:Int),t.2))=ps at *
 have B0:Bw K m t a ns H (upd H d (.dK (dkW ps))) d ps:=⟨TP.same (Same.upd nd),(Same.upd nd).frm,AD,nd,W0⟩
 dsimp only [AY]
 refine ⟨_,.int m,.inr (Aj hw1 (Same.upd nd)),rfl,?_⟩
 refine ⟨by lia,by lia,fun H3 s3=>?_⟩
 rw [hm2]
 have B3:=B0.same s3
 refine ⟨a,ns,B3.tp,od,fun one H4 o0 o1 T4 f4=>?_⟩
 have B4:=B3.next TP T4 f4
 dsimp only [AY]
 refine ⟨a,ns,B4.tp,A7 (by decide) (by decide),fun way H5 _ _ T5 f5=>?_⟩
 have B5:=B4.next TP T5 f5
 dsimp only [AY]
 refine Ah (fun σ H'=>∃ (ps:List (Int × Int)),σ=[some (.ref t),some (.ref w1),some (.ref d),some (.int one),some (.int way)]/\Bw K m t a ns H H' d ps/\(ps.map (·.1)).dropLast.Pairwise (· < ·)) ?_ ?_ (by (repeat' with_reducible first | exact Hf | apply Lu | apply Mp | apply Nr | apply LP | apply HW | apply K7 | exact NK | exact Mw | apply OS | apply K2 | apply Jb | apply Ma | apply Mb | apply Lp | apply Ky | apply M0 | apply J2 | exact PN | exact LA | exact LZ | exact Kw | exact LD | exact K9 | exact PO | exact NW | exact Om | exact Lg | exact Kn | exact J6 | exact M6 | exact LQ | apply NJ | apply M7 | apply ME | apply OQ | exact Jn | apply KP | exact Ll | exact KY | exact Jp | exact Mr | exact MP | exact Lq | apply Oo | apply My | apply O9 | exact As | apply Cc | exact BE | exact KL | exact Nk | apply Op | apply Lm | apply Nz | apply Nj | apply Oy | exact LL | exact J1 | exact PB | assumption))
 ·have two:∀ (z:Int),Nb z 10->∃ o v,DGet H5 d (.int one) o/\o.getD (.int z)=.int v/\Nb v 50:=fun z hz=>by
   obtain ⟨o2,v2,dg2,e2,hv2⟩:=B5.get2 one z
   refine ⟨o2,v2,dg2,e2,?_⟩
   rcases hv2 with rfl | h
   ·exact hz.up (by decide)
   ·exact hb _ h
  have dl:∀ {qs:List (Int × Int)},(qs.map (·.1)=ps.map (·.1)\/qs.map (·.1)=ps.map (·.1)++[one])->(qs.map (·.1)).dropLast.Pairwise (· < ·):=fun {qs} h=>by
   rcases h with h | h
   ·rw [h];exact asc0.sublist (List.dropLast_sublist _)
   ·rw [h,List.dropLast_concat];exact asc0
  refine AO (fun e=>?_) (fun e=>AO (fun e=>?_) (fun e=>?_))
  ·obtain ⟨o2,v2,dg2,e2,nv2⟩:=two 1 (by unfold Nb;decide)
   refine ⟨d,rfl,.inl ⟨_,.inl B5.at_⟩,o2,dg2,?_⟩
   rw [e2]
   obtain ⟨qs,H6,dp,B6,hkq⟩:=B5.put TP m6 (x:=0 - v2) o0 o1 (by unfold Nb at *;rw [show (2:Nat) ^ 60=1152921504606846976 by decide];rw [show (2:Nat) ^ 50=1125899906842624 by decide] at nv2;lia)
   exact ⟨d,_,rfl,dp,qs,rfl,B6,dl hkq⟩
  ·refine ⟨d,rfl,.inl ⟨_,.inl B5.at_⟩,_,.inl one,B5.at_,rfl,fun v hv=>?_,fun hv=>⟨ps,rfl,B5,dl (.inl rfl)⟩⟩
   have ed:Ce (dkW ps) (Sum.inl one)=dkW (ps.filter fun q=>decide (q.1≠one)):=by
    unfold Ce dkW
    rw [List.filter_map]
    congr 1
    refine List.filter_congr fun q _=>?_
    show decide ((Sum.inl q.1:Key)≠Sum.inl one)=decide (q.1≠one)
    rw [decide_eq_decide]
    exact ⟨fun h z=>h (by rw [z]),fun h z=>h (by injection z)⟩
   rw [ed]
   have fr9:Frm t H (upd H5 d (.dK (dkW (ps.filter fun q=>decide (q.1≠one))))):=Dy B5.fr B5.nd0
   exact ⟨_,rfl,⟨GR TP B5.tp fr9 (TP.neT B5.nd0),fr9,AD,B5.nd0,⟨B5.ok.nd.sublist (List.filter_sublist.map _),fun q hq=>B5.ok.rg q (List.mem_filter.mp hq).1,fun q hq=>B5.ok.nb q (List.mem_filter.mp hq).1⟩⟩,(asc0.sublist (List.filter_sublist.map _)).sublist (List.dropLast_sublist _)⟩
  ·obtain ⟨o2,v2,dg2,e2,nv2⟩:=two 0 (by unfold Nb;decide)
   refine ⟨d,rfl,.inl ⟨_,.inl B5.at_⟩,o2,dg2,?_⟩
   rw [e2]
   refine ⟨AX (show 3<=1000 by decide),fun l3 nl3=>?_⟩
   have B7:=B5.same (Same.upd (o:=.lst [.int 2,.int (-2),.int 1]) nl3)
   have nlt:=B5.tp.neT nl3
   refine ⟨a,ns,B7.tp,A7 (by decide) (by decide),fun c H8 c0 c1 T8 f8=>?_⟩
   have B8:=B7.next TP T8 f8
   have g8:H8 l3=some (.lst [.int 2,.int (-2),.int 1]):=by rw [f8 l3 nlt];exact AD
   obtain ⟨z,hz,hm⟩:=IW (xs:=[.int 2,.int (-2),.int 1]) c0 c1
   obtain ⟨y,rfl,y0,y1⟩:∃ y,z=.int y /\ -64<=y/\y<=64:=by
    simp only [List.mem_cons,List.mem_nil_iff,or_false] at hm
    rcases hm with rfl | rfl | rfl
    ·exact ⟨_,rfl,by decide,by decide⟩
    ·exact ⟨_,rfl,by decide,by decide⟩
    ·exact ⟨_,rfl,by decide,by decide⟩
   obtain ⟨qs,H9,dp,B9,hkq⟩:=B8.put TP m6 (k:=one) (x:=v2+y) o0 o1 (by unfold Nb at *;rw [show (2:Nat) ^ 60=1152921504606846976 by decide];rw [show (2:Nat) ^ 50=1125899906842624 by decide] at nv2;lia)
   exact ⟨_,_,.inl (.of g8),hz,d,_,rfl,dp,qs,rfl,B9,dl hkq⟩
 clear B5 B4 B3 B0 W0 hb hR hw2 S hul htl asc0
 rintro σ Ha ⟨ps,rfl,B5,dl⟩
 have hpl:=B5.ok.len
 have nd:=B5.ok.nd
 have wa:SqT K Ha w1 [.int m,.ref w2]:=Kg hw1 TP B5.fr
 refine ⟨_,.int m,.inr wa,rfl,?_⟩
 refine .inl ⟨_,B5.at_,fun o=>?_⟩
 have f0:∀ b o',b≠d->Ha b=some o'->upd Ha d (.frz o (.dK (dkW ps))) b=some o':=fun b o' hb e=>by rw [AK hb];exact e
 refine MI (kvs:=dkW ps) (fun k ys H'=>(∀ b o',b≠d->Ha b=some o'->H' b=some o')/\H' d=some (.frz o (.dK (dkW ps)))/\∃ qs:List (Int × Addr × V),ys=(qs.map fun q=>q.2.1).map V.ref/\(qs.map fun q=>(q.1,q.2.2))=((ps.take k).filter fun q=>decide (q.2≠0)).map (fun q=>(q.1,V.int q.2))/\∀ q∈qs,H' q.2.1=some (.tup [.int q.1,q.2.2])) ⟨f0,AD,[],rfl,rfl,fun q hq=>by cases hq⟩ (fun k ys H' _ ⟨_,g,_⟩=>g) (fun k ys H' hk ⟨_,_,qs,e,e2,_⟩=>by
  have h1:=congrArg List.length e2
  rw [List.length_map,List.length_map] at h1
  have h2:=List.length_filter_le (fun q:Int × Int=>decide (q.2≠0)) (ps.take k)
  rw [List.length_take] at h2
  rw [e,List.length_map,List.length_map];exact Ab (by lia)) ?_ ?_
 ·rintro k r ys H' hr' ⟨fk,gdk,qs,rfl,hq,hT⟩
  obtain ⟨⟨x,v⟩,hx,rfl⟩:∃ y,ps[k]? = some y/\r=(.inl y.1,.int y.2):=by
   rw [List.getElem?_map] at hr'
   cases e:ps[k]? with
   | none=>rw [e] at hr';cases hr'
   | some y=>rw [e] at hr';cases hr';exact ⟨y,rfl,rfl⟩
  have hxm:(x,v)∈ps:=List.mem_of_getElem? hx
  have dg:DGet H' d (.int x) (some (.int v)):=.inl ⟨_,.inl x,.inr ⟨o,gdk⟩,rfl,(IV nd hxm).symm⟩
  refine ⟨d,.int v,rfl,dg,?_⟩
  have htk:(ps.take (k+1)).filter (fun q=>decide (q.2≠0))=(ps.take k).filter (fun q=>decide (q.2≠0))++(if v≠0 then [(x,v)] else []):=by
   rw [List.take_add_one,hx,List.filter_append]
   congr 1
   by_cases h:v≠0
   ·rw [if_pos h]
    show List.filter _ [(x,v)]=_
    rw [List.filter_cons_of_pos (by simpa using h)]
    rfl
   ·rw [if_neg h]
    show List.filter _ [(x,v)]=_
    rw [List.filter_cons_of_neg (by simpa using h)]
    rfl
  rw [htk]
  refine AO (fun e=>?_) (fun e=>?_)
  ·have e':v≠0:=fun z=>by
    have e:(true ^^ (v == 0))=true:=e
    rw [z] at e
    simp at e
   refine ⟨d,.int v,rfl,dg,AX (show 2<=1000 by decide),fun p hp=>?_⟩
   have sp:=Same.upd (o:=.tup [.int x,.int v]) hp
   refine ⟨fun b o' hb e=>sp _ _ (fk b o' hb e),sp _ _ gdk,qs++[(x,p,.int v)],by rw [List.map_append,List.map_append];rfl,by rw [if_pos e',List.map_append,List.map_append,hq];rfl,fun q hq'=>?_⟩
   rcases List.mem_append.mp hq' with h | h
   ·exact sp _ _ (hT q h)
   ·rw [List.mem_singleton] at h
    subst h
    exact AD
  ·have e':¬ v≠0:=fun z=>e (by
    show (true ^^ (v == 0))=true
    rw [beq_eq_false_iff_ne.mpr z]
    rfl)
   refine ⟨fk,gdk,qs,rfl,by rw [if_neg e',List.append_nil];exact hq,hT⟩
 ·rintro ys H' ⟨fk,gdk,qs,rfl,hq,hT⟩ lp hlp
  rw [List.length_map,List.take_of_length_le (Nat.le_refl _)] at hq
  have hkeys:(qs.map fun q=>q.1)=(ps.filter fun q=>decide (q.2≠0)).map (·.1):=by
   have:=congrArg (List.map Prod.fst) hq
   rw [List.map_map,List.map_map] at this
   exact this
  have hnd:(qs.map fun q=>q.1).Nodup:=by
   rw [hkeys]
   exact nd.sublist (List.filter_sublist.map _)
  have hql:qs.length<=64:=by
   have h1:=congrArg List.length hq
   rw [List.length_map,List.length_map] at h1
   have h2:=List.length_filter_le (fun q:Int × Int=>decide (q.2≠0)) ps
   lia
  have sl:=Same.upd (o:=.lst ((qs.map fun q=>q.2.1).map V.ref)) hlp
  refine ⟨qs,AD,fun q hq'=>sl _ _ (hT q hq'),hnd,hql,?_,fun rs p1 pr srt hp1=>?_⟩
  ·rcases Nat.lt_or_ge qs.length 64 with z | z
   ·exact .inl z
   ·right
    have h1:=congrArg List.length hq
    rw [List.length_map,List.length_map] at h1
    have hf:(ps.filter fun q=>decide (q.2≠0))=ps:=List.filter_sublist.eq_of_length_le (by lia)
    rw [hkeys,hf]
    rw [List.dropLast_eq_take,List.length_map] at dl
    have h2:=congrArg List.length hf
    rwa [show ps.length - 1=63 by lia] at dl
  have s2:=sl.trans (Same.upd (o:=.lst ((rs.map fun q=>q.2.1).map V.ref)) hp1)
  refine ⟨_,.inl ⟨.of AD,fun p2 hp2=>?_⟩⟩
  have s3:=s2.trans (Same.upd (o:=.tup ((rs.map fun q=>q.2.1).map V.ref)) hp2)
  refine ⟨AX (show 2<=1000 by decide),fun p3 hp3=>?_⟩
  have s4:=s3.trans (Same.upd (o:=.tup [.int m,.ref p2]) hp3)
  have f9:∀ b o',b≠d->Ha b=some o'->_:=fun b o' hb e=>s4 _ _ (fk b o' hb e)
  have fr9:Frm t H _:=fun b o' hb e=>f9 b o' (fun z=>by rw [z,B5.nd0] at e;cases e) (B5.fr b o' hb e)
  refine q (atP ps) _ _ B5.ok.at ?_ fr9 ⟨p3,p2,_,rfl,.of AD,.of (Same.upd hp3 _ _ AD),?_⟩
  ·obtain ⟨i,r,c,h1,h2,h3⟩:=B5.tp.at_
   exact ⟨⟨i,r,c,h1,h2,f9 _ _ (Ne.symm (TP.neT B5.nd0)) h3⟩,TP.scr.stay fun o n e=>fr9 a o n e⟩
  have hint:∀ q∈rs,q.2.2=.int (vI q.2.2):=fun q hq'=>by
   have h1:(q.1,q.2.2)∈qs.map fun q=>(q.1,q.2.2):=List.mem_map_of_mem (f:=fun q:Int × Addr × V=>(q.1,q.2.2)) (pr.mem_iff.mp hq')
   rw [hq] at h1
   obtain ⟨y,_,e⟩:=List.mem_map.mp h1
   have:q.2.2=.int y.2:=(congrArg Prod.snd e).symm
   rw [this]
   rfl
  have hper:(rs.map fun q=>(q.1,vI q.2.2)).Perm (ps.filter fun q=>decide (q.2≠0)):=by
   refine (pr.map _).trans ?_
   have e:(qs.map fun q=>(q.1,vI q.2.2))=ps.filter fun q=>decide (q.2≠0):=by
    have:=congrArg (List.map fun q:Int × V=>(q.1,vI q.2)) hq
    rw [List.map_map,List.map_map] at this
    have e2:(ps.filter fun q=>decide (q.2≠0)).map id=ps.filter fun q=>decide (q.2≠0):=List.map_id _
    refine Eq.trans this (Eq.trans ?_ e2)
    exact List.map_congr_left fun q _=>rfl
   rw [e]
  have hts:=Ir nd B5.ok.rg hper (by rw [List.map_map];exact srt)
  exact HV hts fun q hq'=>⟨hint q hq',s4 _ _ (hT q (pr.mem_iff.mp hq'))⟩
theorem EE {H:Hp} {p:Addr} {xs:List V} {ds:List Dv} (h:H p=some (.lst xs)) (r:Reps K H ds xs):Rep K H (.lst ds) (.ref p):=by unfold Rep;exact ⟨p,xs,rfl,.of h,r⟩
theorem G6:∀ n x:Nat,manyF n x=L2.manyF n x
 | 0,x=>rfl
 | n+1,x=>by rw [manyF,L2.manyF,G6 n]
theorem Lk {m a b:Nat} (m6:m<=6) (h:a < 2 ^ m):CG a b=chi m a b:=by
 rw [Nt h (by lia)]
 unfold CG many L2.many
 rw [G6]
theorem J0 {m p:Nat} (m6:m<=6) (g:Nat->Int):EQ g m p=wt m g p:=by
 unfold EQ
 rw [List.map_congr_left (g:=fun t:Nat × Int=>t.2 * chi m t.1 p) (fun t ht=>by rw [Lk m6 (BH ht).1]),Fq g (fun j=>chi m j p)]
 refine B1 fun j _=>?_
 rw [FR m j p,Int.mul_comm]
theorem Ku (m p:Nat) (g:Nat->Int):((AH g (2 ^ m)).map fun t=>t.2 * sgL m t.1 p).sum=wt m g p:=by
 rw [Fq g (fun j=>sgL m j p)]
 refine B1 fun j _=>?_
 rw [FD,FR m j p,Int.mul_comm]
noncomputable def IJ (t b:Int):Dv:=.tup [.int (t / (t.gcd b:Int)),.int (b / (t.gcd b:Int))]
noncomputable def Be (g:Nat->Int) (m i:Nat):List Dv:=(List.range i).map fun p=>IJ (wt m g p) ((2 ^ m:Nat):Int)
theorem Hr (g:Nat->Int) (m i:Nat):Be g m (i+1)=Be g m i++[IJ (wt m g i) ((2 ^ m:Nat):Int)]:=by unfold Be;rw [List.range_succ,List.map_append];rfl
theorem Li {g:Nat->Int} {m i:Nat} (h:i<=1000):okD 4 (.lst (Be g m i)):=by
 refine ⟨by unfold Be;rw [List.length_map,List.length_range];exact h,fun e he=>?_⟩
 obtain ⟨p,_,rfl⟩:=List.mem_map.mp he
 refine ⟨(by decide:2<=1000),fun e he=>?_⟩
 simp only [List.mem_cons,List.mem_nil_iff,or_false] at he
 rcases he with rfl | rfl <;> exact True.intro
theorem okD_bls {bs:List Bool} (h:bs.length<=1000):okD 4 (.tup (bs.map Dv.bl)):=by
 refine ⟨by rw [List.length_map];exact h,fun e he=>?_⟩
 obtain ⟨p,_,rfl⟩:=List.mem_map.mp he
 exact True.intro
theorem reps_bls {H:Hp}:∀ {bs:List Bool},Reps K H (bs.map Dv.bl) (bs.map V.bl)
 | []=>Ap
 | b::bs=>Ai MB reps_bls
theorem EI {H:Hp}:∀ {bs:List Int},Reps K H (bs.map Dv.int) (bs.map V.int)
 | []=>Ap
 | b::bs=>Ai Ay EI
theorem Gp:∀ bs:List Int,CB (bs.map Dv.int)=0
 | []=>by simp [CB]
 | b::bs=>by rw [List.map_cons,CB,Gp bs];simp [An]
theorem LN (bs:List Int):eqD (.lst (bs.map Dv.int)) (.lst [])=bs.isEmpty:=by
 rw [FQ]
 cases bs <;> simp [A0]
noncomputable def Bk (g:Nat->Int) (m i:Nat):List Int:=((List.range i).filter fun p=>!decide ((((wt m g p).natAbs:Nat):Int)=((2 ^ m:Nat):Int))).map (wt m g)
theorem NR (g:Nat->Int) (m i:Nat):Bk g m (i+1)=Bk g m i++(if (((wt m g i).natAbs:Nat):Int)=((2 ^ m:Nat):Int) then [] else [wt m g i]):=by
 unfold Bk
 rw [List.range_succ,List.filter_append,List.map_append]
 congr 1
 by_cases h:(((wt m g i).natAbs:Nat):Int)=((2 ^ m:Nat):Int)
 ·rw [if_pos h,List.filter_cons_of_neg (by simpa using h)];rfl
 ·rw [if_neg h,List.filter_cons_of_pos (by simpa using h)];rfl
theorem LS (g:Nat->Int) (m:Nat):(Bk g m (2 ^ m)).isEmpty=tabB g m:=by
 unfold Bk tabB
 rw [List.isEmpty_map,Bool.eq_iff_iff,List.isEmpty_iff,List.filter_eq_nil_iff,List.all_eq_true]
 constructor
 ·intro h x hx
  obtain ⟨p,hp,rfl⟩:=List.mem_map.mp hx
  have:=h p hp
  rw [Ff (List.mem_range.mp hp)]
  simpa using this
 ·intro h p hp
  have:=h _ (List.mem_map_of_mem (f:=fun p=>decide ((((Aa g m p).natAbs:Nat):Int)=((2 ^ m:Nat):Int))) hp)
  rw [Ff (List.mem_range.mp hp)] at this
  simpa using this
theorem NU (g:Nat->Int) (m i:Nat):(Bk g m i).length<=i:=by
 unfold Bk
 rw [List.length_map]
 have:=List.length_filter_le (fun p=>!decide ((((wt m g p).natAbs:Nat):Int)=((2 ^ m:Nat):Int))) (List.range i)
 rw [List.length_range] at this
 exact this
theorem MJ:AN (DK K):=fun vs H Q Q' E h q=>by
 unfold DK at *
 split at q
 ·obtain ⟨m,g,h1,h2,q1,q2⟩:=q
  exact ⟨m,g,h1,h2,fun e p H' a b c=>h _ _ (q1 e p H' a b c),fun e H' a=>h _ _ (q2 e H' a)⟩
 ·exact q.elim
noncomputable def Ch (K:W.Frag):Sp:=fun vs H Q _=>match vs with
 | [x]=>∃ (m:Nat) (g:Nat->Int),SumAt K H x m (AH g (2 ^ m))/\m<=6/\(∀ j,Nb (g j) 60)/\∀ H',Same H H'->Q (.bl true) H'
 | _=>False
theorem Mm:AN (Ch K):=fun vs H Q Q' E h q=>by
 unfold Ch at *
 split at q
 ·revert q;repeat' first | exact h _ _ | exact Ax h | exact At h | exact Av h | (with_reducible first | refine Exists.imp fun _=>?_ | refine And.imp_right ?_ | refine forall_imp fun _=>?_)
 ·exact q.elim
theorem MR:FnOk P w K mg base CX0 7 T.f_z12 T.d_z12 ["_law_whole"] (Ch K):=by
 have G_z20:=Mj (P:=P) (w:=w) (base:=base) T;have G_z18:=LV (P:=P) (w:=w) (base:=base) T;have G_z25:=DX (P:=P) (w:=w) (base:=base) T;have G_z28:=M4 (P:=P) (w:=w) (base:=base) T;have G_z30:=NH (P:=P) (w:=w) (base:=base) T;have G_z13:=O2 (P:=P) (w:=w) (base:=base) T;have G_z19:=GF (P:=P) (w:=w) (base:=base) T
 refine T.F_z12.ok sc_z12 (fun vs H Q E h=>by unfold Ch at h;split at h <;> first | rfl | exact h.elim) (fun cdv A outer s H vs Q E hr h=>?_)
 have hu:=Af hr
 have mo1:AN (CD K):=Fb
 have mo2:AN Bm:=Ek
 have mo3:AN (Cr K):=MA
 have mo4:AN Bg:=JF
 have mo5:AN (DK K):=MJ
 have mo6:AN (DW K):=O0
 have mo7:AN (By K 4):=OP
 have hr_z20:=hr.mono (show 5<=_ by decide);have hr_z18:=hr.mono (show 6<=_ by decide);have hr_z25:=hr.mono (show 1<=_ by decide);have hr_z28:=hr.mono (show 3<=_ by decide);have hr_z30:=hr.mono (show 1<=_ by decide);have hr_z13:=hr.mono (show 1<=_ by decide);have hr_z19:=hr.mono (show 3<=_ by decide)
 unfold Ch at h
 split at h
 rotate_left
 ·exact h.elim
 rename_i x
 obtain ⟨m,g,S,m6,hg,q⟩:=h
 have h64:2 ^ m<=64:=Nat.pow_le_pow_right (n:=2) (by decide) m6
 have h0:=Nat.two_pow_pos m
 have e2:(2:Int) ^ ((m:Int).toNat)=((2 ^ m:Nat):Int):=by rw [Int.toNat_natCast,Int.natCast_pow];rfl
 have h62:((2 ^ m:Nat):Int)<=64:=Int.ofNat_le.mpr h64
 obtain ⟨a,b,us,rfl,ha,hb,hR⟩:=id S.at_
 have hul:us.length=(AH g (2 ^ m)).length:=by have:=hR.length;rw [List.length_map] at this;lia
 have htl:=D5 g (2 ^ m)
 refine ⟨_,(@AE _ _ _ _ _ (@Bv _ _ _ _ _ _ (vv 0) (Iu (K:=K) (n:=2) rfl (A1 (AS (i:=1) sc_z12.nd rfl (by (first | exact Or.inl rfl | exact Or.inr rfl))) (A1 (AS (i:=2) sc_z12.nd rfl (by (first | exact Or.inl rfl | exact Or.inr rfl))) CF))) (by rfl) (by rfl) (by rfl)) (@AE _ _ _ _ _ (@AL _ _ 3 _ _ _ _ sc_z12.nd rfl (by (first | exact Or.inl rfl | exact Or.inr rfl)) (@A4 _ _ _ _ AB) (by rfl) (by (first | exact .inl rfl | exact .inr rfl | assumption))) (@AE _ _ _ _ _ (@Bj _ _ _ _ _ _ _ _ PassesOwn.never rfl (A3 rfl T.z_range (AA (AI G_z25 hr_z25 rfl T.m_z25 T.F_z25.kp T.b_z25 .nil AJ (AA (vv 1) AB)) AB)) (AS (i:=4) sc_z12.nd rfl (by (first | exact Or.inl rfl | exact Or.inr rfl))) (@AF _ _ _ (@E3 _ _ _ _ (Gv (K:=K) (vv 3) (AA (AQ (Ej (K:=K) rfl) rfl T.z_sum (by rfl) (AA (BA (N':=["_law_one","_law_weight","_law_n","_law_place"]) (own:=2) (ix:=[1,4]) rfl (Bb (K:=K) (vv 2)) (by kernel_rfl) rfl rfl (by kernel_rfl) (fun c=>Co (K:=K) (n:=2) rfl (A1 (AS (i:=0) (show (["_law_one","_law_weight","_law_n","_law_place"]:List Str).Nodup by decide +kernel) rfl (by (first | exact Or.inl rfl | exact Or.inr rfl))) (A1 (AS (i:=1) (show (["_law_one","_law_weight","_law_n","_law_place"]:List Str).Nodup by decide +kernel) rfl (by (first | exact Or.inl rfl | exact Or.inr rfl))) CF))) (Dg (BK As (Cc As BE) (Ad (by decide)) (BK As BE (Ad (by decide)) DV))) (fun c=>Au) (fun c=>(AM BC (vv 1) (AI G_z19 hr_z19 rfl T.m_z19 T.F_z19.kp T.b_z19 .nil AJ (AA (vv 2) (AA (vv 0) (AA (vv 3) AB))))))) AB)) AB)) (by rfl))) (by intro _;rfl)) (@AE _ _ _ _ _ (@Dt _ _ _ _ _ _ _ (["_law_k","_law_whole"]) 1 [0] _ _ _ _ 5 _ _ _ rfl sc_z12.nd rfl rfl (A3 rfl T.z_range (AA (AI G_z25 hr_z25 rfl T.m_z25 T.F_z25.kp T.b_z25 .nil AJ (AA (vv 1) AB)) AB)) (by kernel_rfl) rfl rfl (by kernel_rfl) (fun c=>AS (i:=0) (show (["_law_k","_law_whole"]:List Str).Nodup by decide +kernel) rfl (by (first | exact Or.inl rfl | exact Or.inr rfl))) (Ad (by decide)) (fun c=>Au) (fun c=>(AI G_z28 hr_z28 rfl T.m_z28 T.F_z28.kp T.b_z28 .nil AJ (AA (vv 1) (AA (vv 0) AB)))) (by rfl) (by intro _;rfl)) (@AE _ _ _ _ _ (@Ak _ _ _ _ _ _ _ _ (EH (Bf (AI G_z18 hr_z18 rfl T.m_z18 T.F_z18.kp T.b_z18 .nil AJ (AA (vv 5) (AA (BA (N':=["_law_top","_law_n"]) (own:=1) (ix:=[1]) rfl (Bb (K:=K) (vv 3)) (by kernel_rfl) rfl rfl (by kernel_rfl) (fun c=>AS (i:=0) (show (["_law_top","_law_n"]:List Str).Nodup by decide +kernel) rfl (by (first | exact Or.inl rfl | exact Or.inr rfl))) (Ad (by decide)) (fun c=>Au) (fun c=>(AI G_z13 hr_z13 rfl T.m_z13 T.F_z13.kp T.b_z13 .nil AJ (AA (vv 0) (AA (AI G_z25 hr_z25 rfl T.m_z25 T.F_z25.kp T.b_z25 .nil AJ (AA (vv 1) AB)) AB))))) AB))))) (@AF _ _ _ (@AT _ _ _ _ DJ)) Ao) (@AE _ _ _ _ _ (@AL _ _ 6 _ _ _ _ sc_z12.nd rfl (by (first | exact Or.inl rfl | exact Or.inr rfl)) Dp (by rfl) (by (first | exact .inl rfl | exact .inr rfl | assumption))) (@AE _ _ _ _ _ (@Ak _ _ _ _ _ _ _ _ (Ac (kEq (K:=K) hu) (BA (N':=["_law_top","_law_n"]) (own:=1) (ix:=[1]) rfl (Bb (K:=K) (vv 3)) (by kernel_rfl) rfl rfl (by kernel_rfl) (fun c=>AS (i:=0) (show (["_law_top","_law_n"]:List Str).Nodup by decide +kernel) rfl (by (first | exact Or.inl rfl | exact Or.inr rfl))) (Ad (by decide)) (fun c=>HJ (Ac (kNe (K:=K) hu) (AQ Dl rfl T.z_abs (by rfl) (AA (vv 0) AB)) (AI G_z25 hr_z25 rfl T.m_z25 T.F_z25.kp T.b_z25 .nil AJ (AA (vv 1) AB)))) (fun c=>(vv 0))) (A4 AB)) (@AF _ _ _ (@AL _ _ 6 _ _ _ _ sc_z12.nd rfl (by (first | exact Or.inl rfl | exact Or.inr rfl)) (BW (CQ (K:=K)) rfl T.z_tuple (by rfl) (AA (@BA _ _ _ _ _ _ _ ["_law_top"] 1 [] _ _ _ _ rfl (Bb (K:=K) (vv 3)) (by kernel_rfl) rfl rfl (by kernel_rfl) (fun c=>AS (i:=0) (show (["_law_top"]:List Str).Nodup by decide +kernel) rfl (by (first | exact Or.inl rfl | exact Or.inr rfl))) (Ad (by decide)) (fun c=>Au) (fun c=>(A9 DQ (vv 0) AC)) (by intro _;rfl)) AB)) (by rfl) (by (first | exact .inl rfl | exact .inr rfl | assumption)))) Ao) (@AE _ _ _ _ _ (@AL _ _ 5 _ _ _ _ sc_z12.nd rfl (by (first | exact Or.inl rfl | exact Or.inr rfl)) (AI G_z20 hr_z20 rfl T.m_z20 T.F_z20.kp T.b_z20 .nil AJ (AA (vv 0) AB)) (by rfl) (by (first | exact .inl rfl | exact .inr rfl | assumption))) (@AE _ _ _ _ _ (@Ak _ _ _ _ _ _ _ _ (PW.pt (JL (Ac (kNe (K:=K) hu) (AQ (Ij (K:=K)) rfl T.z_isinstance (by rfl) (AA (vv 6) (AA (A2 (v:=.ty "str") rfl T.z_str (by rfl) rfl) AB))) (AQ (Ij (K:=K)) rfl T.z_isinstance (by rfl) (AA (vv 5) (AA (A2 (v:=.ty "str") rfl T.z_str (by rfl) rfl) AB)))) (I0 (EH (Bf (AI G_z18 hr_z18 rfl T.m_z18 T.F_z18.kp T.b_z18 .nil AJ (AA (vv 5) (AA (vv 6) AB)))))))) (@AF _ _ _ (@AT _ _ _ _ DJ)) Ao) (@AF _ _ _ (@AT _ _ _ _ (AI G_z18 hr_z18 rfl T.m_z18 T.F_z18.kp T.b_z18 .nil AJ (AA (AI G_z30 hr_z30 rfl T.m_z30 T.F_z30.kp T.b_z30 .nil AJ (AA (vv 0) AB)) (AA (AQ (Ej (K:=K) rfl) rfl T.z_sum (by rfl) (AA (BA (N':=["_law_one","_law_weight"]) (own:=2) (ix:=[]) rfl (Bb (K:=K) (vv 2)) (by kernel_rfl) rfl rfl (by kernel_rfl) (fun c=>Co (K:=K) (n:=2) rfl (A1 (AS (i:=0) (show (["_law_one","_law_weight"]:List Str).Nodup by decide +kernel) rfl (by (first | exact Or.inl rfl | exact Or.inr rfl))) (A1 (AS (i:=1) (show (["_law_one","_law_weight"]:List Str).Nodup by decide +kernel) rfl (by (first | exact Or.inl rfl | exact Or.inr rfl))) CF))) (Dg (BK As (Cc As BE) (Ad (by decide)) (BK As BE (Ad (by decide)) DV))) (fun c=>Au) (fun c=>(AM BC (vv 1) (vv 1)))) AB)) AB)))))))))))))),?_⟩
 refine ⟨_,.inr ha,rfl,_,_,rfl,_,_,rfl,rfl,?_⟩
 dsimp only [AY]
 refine ⟨AX (show 0<=1000 by decide),fun l nl=>?_⟩
 dsimp only [AY]
 refine Ah (fun σ H'=>∃ z:Option V,σ=[some (.ref a),some (.int m),some (.ref b),some (.ref l),z,none,none]/\Same H H'/\H' l=some (.lst (ixL (wt m g) (2 ^ m)))) ?_ ?_ (by (repeat' with_reducible first | exact Hf | apply Lu | apply Mp | apply Nr | apply LP | apply HW | apply K7 | exact NK | exact Mw | apply OS | apply K2 | apply Jb | apply Ma | apply Mb | apply Lp | apply Ky | apply M0 | apply J2 | exact PN | exact LA | exact LZ | exact Kw | exact LD | exact K9 | exact PO | exact NW | exact Om | exact Lg | exact Kn | exact J6 | exact M6 | exact LQ | apply NJ | apply M7 | apply ME | apply OQ | exact Jn | apply KP | exact Ll | exact KY | exact Jp | exact Mr | exact MP | exact Lq | apply Oo | apply My | apply O9 | exact As | apply Cc | exact BE | exact KL | exact Nk | apply Op | apply Lm | apply Nz | apply Nj | apply Oy | exact LL | exact J1 | exact PB | assumption))
 ·refine ⟨by lia,by lia,fun H1 s1=>?_⟩
  rw [e2]
  refine ⟨_,rfl,by lia,by lia,?_⟩
  refine CO (fun i σ H'=>∃ z:Option V,σ=[some (.ref a),some (.int m),some (.ref b),some (.ref l),z,none,none]/\Same H H'/\H' l=some (.lst (ixL (wt m g) i))) ⟨_,rfl,(Same.upd nl).trans s1,s1 _ _ AD⟩ ?_ (fun σ H' h=>h)
  rintro i σ H2 hi ⟨z,rfl,s2,gl⟩
  have hi:i < 2 ^ m:=by lia
  rw [show (0:Int)+(i:Int)=(i:Int) from Int.zero_add _]
  have hbs:=Aj hb s2
  have hRs:=Reps.same s2 _ _ hR
  have esum:=Ku m i g
  have hmem:=fun {t} (h:t∈AH g (2 ^ m))=>BH h
  generalize AH g (2 ^ m)=ts at *
  dsimp only [AY]
  refine ⟨.inl ⟨rfl,_,.of gl⟩,.inr ⟨⟨_,hbs⟩,?_⟩⟩
  refine EJ (xs:=us) (fun j ys H'=>Same H2 H'/\ys=((ts.take j).map fun t=>t.2 * sgL m t.1 i).map V.int) ⟨Same.refl _,rfl⟩ (fun j ys H' _ ⟨e,_⟩=>Aj hbs e) (fun j ys H' hj ⟨_,e⟩=>by
   rw [e,List.length_map,List.length_map,List.length_take];exact Ab (by lia)) ?_ ?_
  ·rintro j x ys H' hx ⟨sj,rfl⟩
   obtain ⟨⟨k,wgt⟩,c,hq,rfl,hc⟩:=Cj (Reps.same sj _ _ hRs) hx
   obtain ⟨hk,hw,_⟩:=hmem (List.mem_of_getElem? hq)
   have hw:wgt=g k:=hw
   have nw:Nb wgt 60:=by rw [hw];exact hg k
   have ns:Nb (sgL m k i) 60:=by unfold sgL;split <;> (unfold Nb;decide)
   refine ⟨c,_,rfl,hc,rfl,_,_,rfl,_,_,rfl,rfl,m,k,i,rfl,rfl,rfl,m6,fun H4 s4=>⟨Nb.okMul (nw.up (by decide)) (ns.up (by decide)),sj.trans s4,?_⟩⟩
   rw [List.take_add_one,hq,List.map_append,List.map_append]
   rfl
  ·rintro ys H' ⟨sj,rfl⟩ lp hlp
   rw [List.take_of_length_le (by lia)]
   refine ⟨_,.of AD,?_⟩
   rw [esum]
   have s3:=sj.trans (Same.upd (o:=.lst ((ts.map fun t=>t.2 * sgL m t.1 i).map V.int)) hlp)
   refine ⟨_,s3 _ _ gl,Ab (by rw [ixL_len];lia),some (.int i),rfl,JD (s2.trans s3) nl,?_⟩
   rw [HM]
   exact AD
 rintro σ H1 ⟨z,rfl,s1,gl⟩
 have S1:=S.same s1
 have ha1:=Aj ha s1
 have hb1:=Aj hb s1
 have hR1:=Reps.same s1 _ _ hR
 refine Ah (fun σ H'=>∃ lf,σ=[some (.ref a),some (.int m),some (.ref b),some (.ref l),z,some (.ref lf),none]/\Same H1 H'/\Rep K H' (.lst (Be g m (2 ^ m))) (.ref lf)) ?_ ?_ (by (repeat' with_reducible first | exact Hf | apply Lu | apply Mp | apply Nr | apply LP | apply HW | apply K7 | exact NK | exact Mw | apply OS | apply K2 | apply Jb | apply Ma | apply Mb | apply Lp | apply Ky | apply M0 | apply J2 | exact PN | exact LA | exact LZ | exact Kw | exact LD | exact K9 | exact PO | exact NW | exact Om | exact Lg | exact Kn | exact J6 | exact M6 | exact LQ | apply NJ | apply M7 | apply ME | apply OQ | exact Jn | apply KP | exact Ll | exact KY | exact Jp | exact Mr | exact MP | exact Lq | apply Oo | apply My | apply O9 | exact As | apply Cc | exact BE | exact KL | exact Nk | apply Op | apply Lm | apply Nz | apply Nj | apply Oy | exact LL | exact J1 | exact PB | assumption))
 ·refine ⟨by lia,by lia,fun H2 s2=>?_⟩
  rw [e2]
  refine ⟨_,rfl,by lia,by lia,?_⟩
  refine CN (fun i ys H'=>Same H1 H'/\Reps K H' (Be g m i) ys) ⟨s2,Ap⟩ (fun i ys H' hi ⟨_,e⟩=>by
   have:=e.length
   unfold Be at this
   rw [List.length_map,List.length_range] at this
   exact Ab (by lia)) ?_ ?_
  ·rintro i ys H' hi ⟨s3,r3⟩
   rw [show (0:Int)+(i:Int)=(i:Int) from Int.zero_add _]
   refine ⟨m,g,i,S1.same s3,m6,rfl,fun r H4 hr4 s4 g4=>⟨s3.trans s4,?_⟩⟩
   rw [Hr]
   rw [J0 m6] at g4
   exact Reps.append (Reps.same s4 _ _ r3) (Ai (BO g4 (Ai Ay (Ai Ay Ap))) Ap)
  ·rintro ys H' ⟨s3,r3⟩ lf nlf
   rw [Int.toNat_natCast] at r3
   exact ⟨lf,rfl,s3.trans (Same.upd nlf),EE AD (Reps.same (Same.upd nlf) _ _ r3)⟩
 rintro σ H2 ⟨lf,rfl,s2,rf⟩
 refine Ah (fun σ H'=>σ=[some (.ref a),some (.int m),some (.ref b),some (.ref l),z,some (.ref lf),none]/\Same H1 H') ?_ ?_ (by (repeat' with_reducible first | exact Hf | apply Lu | apply Mp | apply Nr | apply LP | apply HW | apply K7 | exact NK | exact Mw | apply OS | apply K2 | apply Jb | apply Ma | apply Mb | apply Lp | apply Ky | apply M0 | apply J2 | exact PN | exact LA | exact LZ | exact Kw | exact LD | exact K9 | exact PO | exact NW | exact Om | exact Lg | exact Kn | exact J6 | exact M6 | exact LQ | apply NJ | apply M7 | apply ME | apply OQ | exact Jn | apply KP | exact Ll | exact KY | exact Jp | exact Mr | exact MP | exact Lq | apply Oo | apply My | apply O9 | exact As | apply Cc | exact BE | exact KL | exact Nk | apply Op | apply Lm | apply Nz | apply Nj | apply Oy | exact LL | exact J1 | exact PB | assumption))
 ·have gl2:=s2 _ _ gl
  refine .inl ⟨⟨_,.of gl2⟩,?_⟩
  refine Du (xs:=ixL (wt m g) (2 ^ m)) (fun i ys H'=>Same H2 H'/\Reps K H' (Be g m i) ys) ⟨Same.refl _,Ap⟩ (fun i ys H' _ ⟨e,_⟩=>.of (e _ _ gl2)) (fun i ys H' hi ⟨_,e⟩=>by
   rw [ixL_len] at hi
   have:=e.length
   unfold Be at this
   rw [List.length_map,List.length_range] at this
   exact Ab (by lia)) ?_ ?_
  ·rintro i x ys H' hx ⟨s3,r3⟩
   have hi:i < 2 ^ m:=by
    have:=(List.getElem?_eq_some_iff.mp hx).1
    rwa [ixL_len] at this
   rw [Bc hi] at hx
   cases hx
   refine ⟨by lia,by lia,fun H4 s4=>?_⟩
   rw [e2]
   refine ⟨by lia,by lia,fun p hp=>⟨s3.trans (s4.trans (Same.upd hp)),?_⟩⟩
   rw [Hr]
   exact Reps.append (Reps.same (s4.trans (Same.upd hp)) _ _ r3) (Ai (BO AD (Ai Ay (Ai Ay Ap))) Ap)
  ·rintro ys H' ⟨s3,r3⟩ l2 nl2
   rw [ixL_len] at r3
   have s4:=s3.trans (Same.upd (o:=.lst ys) nl2)
   refine ⟨_,Li (by lia),Rep.same s4 _ _ rf,EE AD (Reps.same (Same.upd nl2) _ _ r3),fun H5 s5=>?_⟩
   exact ⟨rfl,s2.trans (s4.trans s5)⟩
 rintro σ H3 ⟨rfl,s3⟩
 refine Ah (fun σ H'=>σ=[some (.ref a),some (.int m),some (.ref b),some (.ref l),z,some (.ref lf),some (.str "none")]/\H3=H') ⟨rfl,rfl⟩ ?_ (by (repeat' with_reducible first | exact Hf | apply Lu | apply Mp | apply Nr | apply LP | apply HW | apply K7 | exact NK | exact Mw | apply OS | apply K2 | apply Jb | apply Ma | apply Mb | apply Lp | apply Ky | apply M0 | apply J2 | exact PN | exact LA | exact LZ | exact Kw | exact LD | exact K9 | exact PO | exact NW | exact Om | exact Lg | exact Kn | exact J6 | exact M6 | exact LQ | apply NJ | apply M7 | apply ME | apply OQ | exact Jn | apply KP | exact Ll | exact KY | exact Jp | exact Mr | exact MP | exact Lq | apply Oo | apply My | apply O9 | exact As | apply Cc | exact BE | exact KL | exact Nk | apply Op | apply Lm | apply Nz | apply Nj | apply Oy | exact LL | exact J1 | exact PB | assumption))
 rintro σ _ ⟨rfl,rfl⟩
 refine Ah (fun σ H'=>∃ du:V,σ=[some (.ref a),some (.int m),some (.ref b),some (.ref l),z,some (.ref lf),some du]/\Same H1 H'/\((tabB g m=true/\∃ p,du=.ref p/\H' p=some (.tup (((List.range (2 ^ m)).map fun p=>decide (wt m g p < 0)).map V.bl)))\/(tabB g m=false/\du=.str "none"))) ?_ ?_ (by (repeat' with_reducible first | exact Hf | apply Lu | apply Mp | apply Nr | apply LP | apply HW | apply K7 | exact NK | exact Mw | apply OS | apply K2 | apply Jb | apply Ma | apply Mb | apply Lp | apply Ky | apply M0 | apply J2 | exact PN | exact LA | exact LZ | exact Kw | exact LD | exact K9 | exact PO | exact NW | exact Om | exact Lg | exact Kn | exact J6 | exact M6 | exact LQ | apply NJ | apply M7 | apply ME | apply OQ | exact Jn | apply KP | exact Ll | exact KY | exact Jp | exact Mr | exact MP | exact Lq | apply Oo | apply My | apply O9 | exact As | apply Cc | exact BE | exact KL | exact Nk | apply Op | apply Lm | apply Nz | apply Nj | apply Oy | exact LL | exact J1 | exact PB | assumption))
 ·have gl3:=s3 _ _ gl
  refine .inl ⟨⟨_,.of gl3⟩,?_⟩
  refine Du (xs:=ixL (wt m g) (2 ^ m)) (fun i ys H'=>Same H3 H'/\ys=(Bk g m i).map V.int) ⟨Same.refl _,rfl⟩ (fun i ys H' _ ⟨e,_⟩=>.of (e _ _ gl3)) (fun i ys H' hi ⟨_,e⟩=>by
   rw [ixL_len] at hi
   have:=NU g m i
   rw [e,List.length_map]
   exact Ab (by lia)) ?_ ?_
  ·rintro i x ys H' hx ⟨s4,rfl⟩
   have hi:i < 2 ^ m:=by
    have:=(List.getElem?_eq_some_iff.mp hx).1
    rwa [ixL_len] at this
   rw [Bc hi] at hx
   cases hx
   refine ⟨by lia,by lia,fun H5 s5=>?_⟩
   rw [e2,NR]
   refine AO (fun e=>?_) (fun e=>?_)
   ·have hne:¬ ((wt m g i).natAbs:Int)=((2 ^ m:Nat):Int):=fun z=>by
     have e:(true ^^ (((wt m g i).natAbs:Int) == ((2 ^ m:Nat):Int)))=true:=e
     rw [z] at e
     simp at e
    rw [if_neg hne,List.map_append]
    exact ⟨s4.trans s5,rfl⟩
   ·have heq:((wt m g i).natAbs:Int)=((2 ^ m:Nat):Int):=Decidable.byContradiction fun z=>e (by
     show (true ^^ (((wt m g i).natAbs:Int) == ((2 ^ m:Nat):Int)))=true
     rw [beq_eq_false_iff_ne.mpr z]
     rfl)
    rw [if_pos heq,List.append_nil]
    exact ⟨s4.trans s5,rfl⟩
  ·rintro ys H' ⟨s4,rfl⟩ l2 nl2
   rw [ixL_len]
   refine ⟨AX (show 0<=1000 by decide),fun l3 nl3=>?_⟩
   have s5:=s4.trans (Same.upd (o:=.lst ((Bk g m (2 ^ m)).map V.int)) nl2)
   have s6:=s5.trans (Same.upd (o:=.lst []) nl3)
   refine ⟨_,_,EE (Same.upd nl3 _ _ AD) EI,EE AD Ap,by rw [An,Gp];decide,?_⟩
   rw [LN,LS,Bool.false_xor]
   refine AO (fun e=>?_) (fun e=>?_)
   ·have gl6:=s6 _ _ gl3
    refine .inl ⟨⟨_,.of gl6⟩,?_⟩
    refine Du (xs:=ixL (wt m g) (2 ^ m)) (fun i ys H'=>H'=_/\ys=((List.range i).map fun p=>decide (wt m g p < 0)).map V.bl) ⟨rfl,rfl⟩ (fun i ys H' _ ⟨e,_⟩=>by rw [e];exact .of gl6) (fun i ys H' hi ⟨_,e⟩=>by
     rw [ixL_len] at hi
     rw [e,List.length_map,List.length_map,List.length_range];exact Ab (by lia)) ?_ ?_
    ·rintro i x ys H' hx ⟨rfl,rfl⟩
     have hi:i < 2 ^ m:=by
      have:=(List.getElem?_eq_some_iff.mp hx).1
      rwa [ixL_len] at this
     rw [Bc hi] at hx
     cases hx
     refine ⟨rfl,?_⟩
     rw [Fo]
    ·rintro ys H' ⟨rfl,rfl⟩ k hk
     rw [ixL_len]
     refine ⟨_,.inl ⟨.of AD,fun p hp=>?_⟩⟩
     exact ⟨_,rfl,s3.trans (s6.trans ((Same.upd hk).trans (Same.upd hp))),.inl ⟨e,p,rfl,AD⟩⟩
   ·exact ⟨_,rfl,s3.trans s6,.inr ⟨by simpa using e,rfl⟩⟩
 rintro σ H4 ⟨du,rfl,s4,hd⟩
 refine Ah (fun σ H'=>∃ du fo:V,σ=[some (.ref a),some (.int m),some (.ref b),some (.ref l),z,some fo,some du]/\Same H1 H'/\((∃ p q bs,du=.ref p/\fo=.ref q/\H' p=some (.tup (List.map V.bl bs))/\H' q=some (.tup (bs.map V.bl))/\bs.length<=64)\/(du=.str "none" /\ fo=.str "none"))) ?_ ?_ (by (repeat' with_reducible first | exact Hf | apply Lu | apply Mp | apply Nr | apply LP | apply HW | apply K7 | exact NK | exact Mw | apply OS | apply K2 | apply Jb | apply Ma | apply Mb | apply Lp | apply Ky | apply M0 | apply J2 | exact PN | exact LA | exact LZ | exact Kw | exact LD | exact K9 | exact PO | exact NW | exact Om | exact Lg | exact Kn | exact J6 | exact M6 | exact LQ | apply NJ | apply M7 | apply ME | apply OQ | exact Jn | apply KP | exact Ll | exact KY | exact Jp | exact Mr | exact MP | exact Lq | apply Oo | apply My | apply O9 | exact As | apply Cc | exact BE | exact KL | exact Nk | apply Op | apply Lm | apply Nz | apply Nj | apply Oy | exact LL | exact J1 | exact PB | assumption))
 ·refine ⟨m,g,S1.same s4,m6,fun et p H5 hp5 s5 g5=>?_,fun ef H5 s5=>?_⟩
  ·rcases hd with ⟨_,p2,rfl,g2⟩ | ⟨e,_⟩
   ·have eb:(List.range (2 ^ m)).map (fun p=>decide (Aa g m p < 0))=(List.range (2 ^ m)).map (fun p=>decide (wt m g p < 0)):=List.map_congr_left fun p hp=>by rw [Ff (List.mem_range.mp hp)]
    rw [eb] at g5
    exact ⟨_,_,rfl,s4.trans s5,.inl ⟨p2,p,_,rfl,rfl,s5 _ _ g2,g5,by rw [List.length_map,List.length_range];exact h64⟩⟩
   ·rw [et] at e;cases e
  ·rcases hd with ⟨e,_⟩ | ⟨_,rfl⟩
   ·rw [ef] at e;cases e
   ·exact ⟨_,_,rfl,s4.trans s5,.inr ⟨rfl,rfl⟩⟩
 rintro σ H5 ⟨du,fo,rfl,s5,hd⟩
 refine Ah (fun σ H'=>σ=[some (.ref a),some (.int m),some (.ref b),some (.ref l),z,some fo,some du]/\Same H1 H') ?_ ?_ (by (repeat' with_reducible first | exact Hf | apply Lu | apply Mp | apply Nr | apply LP | apply HW | apply K7 | exact NK | exact Mw | apply OS | apply K2 | apply Jb | apply Ma | apply Mb | apply Lp | apply Ky | apply M0 | apply J2 | exact PN | exact LA | exact LZ | exact Kw | exact LD | exact K9 | exact PO | exact NW | exact Om | exact Lg | exact Kn | exact J6 | exact M6 | exact LQ | apply NJ | apply M7 | apply ME | apply OQ | exact Jn | apply KP | exact Ll | exact KY | exact Jp | exact Mr | exact MP | exact Lq | apply Oo | apply My | apply O9 | exact As | apply Cc | exact BE | exact KL | exact Nk | apply Op | apply Lm | apply Nz | apply Nj | apply Oy | exact LL | exact J1 | exact PB | assumption))
 ·rcases hd with ⟨p,q2,bs,rfl,rfl,g1,g2,hbl⟩ | ⟨rfl,rfl⟩
  ·refine ⟨by decide,_,BO g1 (reps_bls (bs:=bs)),by decide,_,BO g2 (reps_bls (bs:=bs)),?_⟩
   dsimp only [mEq,isB,tyD]
   refine AO (fun e=>absurd e (by decide)) (fun _=>?_)
   refine ⟨_,okD_bls (bs:=bs) (by lia),BO g2 reps_bls,BO g1 reps_bls,fun H6 s6=>⟨rfl,s5.trans s6⟩⟩
  ·refine ⟨by decide,_,Eg,by decide,_,Eg,?_⟩
   dsimp only [mEq,isB,tyD]
   refine AO (fun e=>absurd e (by decide)) (fun _=>?_)
   exact ⟨.str "none",True.intro,Eg,Eg,fun H6 s6=>⟨rfl,s5.trans s6⟩⟩
 rintro σ H6 ⟨rfl,s6⟩
 refine ⟨m,g,S1.same s6,m6,hg,fun H7 s7=>.inr ⟨⟨_,Aj hb1 (s6.trans s7)⟩,?_⟩⟩
 rw [<- Fj g]
 have hb7:=Aj hb1 (s6.trans s7)
 have hR7:=Reps.same (s6.trans s7) _ _ hR1
 have hmem:=fun {t} (h:t∈AH g (2 ^ m))=>BH h
 generalize AH g (2 ^ m)=ts at *
 refine EJ (xs:=us) (fun i ys H'=>H'=H7/\ys=((ts.take i).map fun t=>t.2 * t.2).map V.int) ⟨rfl,rfl⟩ (fun i ys H' _ ⟨e,_⟩=>by rw [e];exact hb7) (fun i ys H' hi ⟨_,e⟩=>by
  rw [e,List.length_map,List.length_map,List.length_take];exact Ab (by lia)) ?_ ?_
 ·rintro i x ys H' hx ⟨rfl,rfl⟩
  obtain ⟨⟨k,wgt⟩,c,hq,rfl,hc⟩:=Cj hR7 hx
  have hw:wgt=g k:=(hmem (List.mem_of_getElem? hq)).2.1
  have hgk:=hg k
  rw [<- hw] at hgk
  refine ⟨c,_,rfl,hc,rfl,_,_,rfl,_,_,rfl,rfl,Nb.okMul (hgk.up (by decide)) (hgk.up (by decide)),rfl,?_⟩
  rw [List.take_add_one,hq,List.map_append,List.map_append]
  rfl
 ·rintro ys H' ⟨rfl,rfl⟩ lp hlp
  rw [List.take_of_length_le (by lia)]
  exact ⟨_,.of AD,.int _,True.intro,Ay,Ay,fun H8 s8=>q _ (s1.trans (s6.trans (s7.trans ((Same.upd hlp).trans s8))))⟩
noncomputable def Wh (K:W.Frag) (H:Hp) (v:V):Prop:=∃ (m:Nat) (f:Nat->Int),SumAt K H v m (AH f (2 ^ m))/\m<=6/\∀ j,Nb (f j) 60
theorem Wh.same {H H':Hp} {v:V} (h:Wh K H v) (s:Same H H'):Wh K H' v:=let ⟨m,f,a,b⟩:=h;⟨m,f,a.same s,b⟩
theorem Wh.frm {H H':Hp} {v:V} {t a:Addr} {ns:List Int} (h:Wh K H v) (F:Tape K H t a ns) (f:Frm t H H'):Wh K H' v:=let ⟨m,g,x,b⟩:=h;⟨m,g,LF x F f,b⟩
theorem Hj:∀ n,AH (fun _=>0) n=[]
 | 0=>rfl
 | n+1=>by
  show AH (fun _=>0) n++(if (0:Int)=0 then [] else [(n,0)])=[]
  rw [Hj n,if_pos rfl]
  rfl
theorem PC:FnOk P w K mg base CX0 8 T.f_law T.d_law ["_law_script"] (ED K):=by
 have G_z16:=Os (P:=P) (w:=w) (base:=base) T;have G_z12:=MR (P:=P) (w:=w) (base:=base) T;have G_z22:=Jz (P:=P) (w:=w) (base:=base) T;have G_z27:=Kc (P:=P) (w:=w) (base:=base) T;have G_z14:=N3 (P:=P) (w:=w) (base:=base) T;have G_z23:=N7 (P:=P) (w:=w) (base:=base) T;have G_z17:=Lh (P:=P) (w:=w) (base:=base) T
 refine T.F_law.ok sc_law (fun vs H Q E h=>by obtain ⟨a,ns,rfl,_⟩:=h;rfl) (fun cdv A outer s H vs Q E hr h=>?_)
 have hu:=Af hr
 have mo1:AN (De K):=Ol
 have mo2:AN (Dc K):=KH
 have mo3:AN (DF K):=Jy
 have mo4:AN (Di K):=LX
 have mo5:AN (Ch K):=Mm
 have mo7:AN (DI K):=Kb
 have hr_z16:=hr.mono (show 1<=_ by decide);have hr_z12:=hr.mono (show 7<=_ by decide);have hr_z22:=hr.mono (show 2<=_ by decide);have hr_z27:=hr.mono (show 4<=_ by decide);have hr_z14:=hr.mono (show 4<=_ by decide);have hr_z23:=hr.mono (show 2<=_ by decide);have hr_z17:=hr.mono (show 2<=_ by decide)
 obtain ⟨a,ns,rfl,hsq,hlen,q⟩:=h
 refine ⟨_,(@AE _ _ _ _ _ (@AL _ _ 1 _ _ _ _ sc_law.nd rfl (by (first | exact Or.inl rfl | exact Or.inr rfl)) (AI G_z16 hr_z16 rfl T.m_z16 T.F_z16.kp T.b_z16 .nil AJ (AA (vv 0) AB)) (by rfl) (by (first | exact .inl rfl | exact .inr rfl | assumption))) (@AE _ _ _ _ _ (@Bj _ _ _ _ _ _ _ _ PassesOwn.never rfl (A3 rfl T.z_range (AA AC AB)) (AS (i:=2) sc_law.nd rfl (by (first | exact Or.inl rfl | exact Or.inr rfl))) (@AE _ _ _ _ _ (@AL _ _ 3 _ _ _ _ sc_law.nd rfl (by (first | exact Or.inl rfl | exact Or.inr rfl)) (AI G_z22 hr_z22 rfl T.m_z22 T.F_z22.kp T.b_z22 .nil AJ (AA (vv 1) (AA (vv 2) AB))) (by rfl) (by (first | exact .inl rfl | exact .inr rfl | assumption))) (@AE _ _ _ _ _ (@AL _ _ 4 _ _ _ _ sc_law.nd rfl (by (first | exact Or.inl rfl | exact Or.inr rfl)) (AI G_z27 hr_z27 rfl T.m_z27 T.F_z27.kp T.b_z27 .nil AJ (AA (AI G_z14 hr_z14 rfl T.m_z14 T.F_z14.kp T.b_z14 .nil AJ (AA (vv 1) (AA (vv 3) AB))) AB)) (by rfl) (by (first | exact .inl rfl | exact .inr rfl | assumption))) (@AF _ _ _ (@Bj _ _ _ _ _ _ _ _ PassesOwn.never rfl (Bb (K:=K) (@A4 _ _ _ _ (AA (vv 4) (AA (AI G_z23 hr_z23 rfl T.m_z23 T.F_z23.kp T.b_z23 .nil AJ (AA (vv 1) (AA (vv 4) AB))) (AA (AI G_z17 hr_z17 rfl T.m_z17 T.F_z17.kp T.b_z17 .nil AJ (AA (vv 1) (AA (vv 3) AB))) AB))))) (AS (i:=5) sc_law.nd rfl (by (first | exact Or.inl rfl | exact Or.inr rfl))) (@AF _ _ _ (@Ak _ _ _ _ _ _ _ _ (EH (Bf (AI G_z12 hr_z12 rfl T.m_z12 T.F_z12.kp T.b_z12 .nil AJ (AA (vv 5) AB)))) (@AF _ _ _ (@AT _ _ _ _ DJ)) Ao)) (by intro _;rfl))))) (by intro _;rfl)) (@AF _ _ _ (@AT _ _ _ _ (AI G_z12 hr_z12 rfl T.m_z12 T.F_z12.kp T.b_z12 .nil AJ (AA (BN (AA AC (AA (BN AB) AB))) AB)))))),?_⟩
 refine fun p hp=>?_
 refine ⟨4,rfl,by decide,by decide,?_⟩
 refine CO (fun i σ H'=>∃ z2 z3 z4 z5:Option V,σ=[some (.ref a),some (.ref p),z2,z3,z4,z5]/\Tape K H' p a ns) ⟨none,none,none,none,rfl,Lv hp hsq⟩ ?_ ?_
 ·rintro i σ H1 hi ⟨z2,z3,z4,z5,rfl,T1⟩
  dsimp only [AY]
  refine ⟨a,ns,T1,by lia,fun n H2 n1 n6 T2 f2=>?_⟩
  dsimp only [AY]
  refine ⟨a,ns,n,T2,rfl,n1,n6,fun bs pt H3 hb hp3 g3 T3 f3=>⟨n,bs,n1,n6,hb,.of g3,fun v H4 s4 r4=>?_⟩⟩
  dsimp only [AY]
  have T4:=T3.same s4
  have S4:=SumAt.of r4
  have h64:2 ^ n<=64:=Nat.pow_le_pow_right (n:=2) (by decide) n6
  have g50:∀ j,Nb (wt n (BZ bs) j) 50:=fun j=>by
   have:=KM n6 bs j
   unfold Nb
   rw [show (2:Nat) ^ 50=1125899906842624 by decide]
   lia
  have W4:Wh K H4 v:=⟨n,_,S4,n6,fun j=>(g50 j).up (by decide)⟩
  refine ⟨a,ns,n,wt n (BZ bs),T4,S4,n1,n6,g50,fun f1 v1 H5 nf1 T5 fr5 S5=>⟨a,ns,n,T5,rfl,n1,n6,fun f2 v2 H6 nf2 T6 fr6 S6=>?_⟩⟩
  have W5:Wh K H5 v1:=⟨n,_,S5,n6,nf1⟩
  have W6:Wh K H6 v2:=⟨n,_,S6,n6,nf2⟩
  have W64:=(W4.frm T4 fr5).frm T5 fr6
  have W65:=W5.frm T5 fr6
  refine ⟨AX (show 3<=1000 by decide),fun l nl=>?_⟩
  have s8:=Same.upd (o:=.lst [v,v1,v2]) nl
  have T8:=T6.same s8
  have g8:=AD (H:=H6) (a:=l) (o:=.lst [v,v1,v2])
  have W9:∀ x∈[v,v1,v2],Wh K (upd H6 l (.lst [v,v1,v2])) x:=fun x hx=>by
   simp only [List.mem_cons,List.mem_nil_iff,or_false] at hx
   rcases hx with rfl | rfl | rfl
   ·exact W64.same s8
   ·exact W65.same s8
   ·exact W6.same s8
  generalize upd H6 l (.lst [v,v1,v2])=H8 at *
  refine .inl ⟨⟨_,.of g8⟩,?_⟩
  refine O8 (xs:=[v,v1,v2]) (fun j σ H'=>∃ z5:Option V,σ=[some (.ref a),some (.ref p),some (.int (0+(i:Int))),some (.int n),some v,z5]/\Same H8 H') ⟨_,rfl,Same.refl _⟩ (fun j σ H' _ ⟨_,_,s'⟩=>.of (s' _ _ g8)) ?_ (fun σ H' ⟨z5,e,s'⟩=>⟨_,_,_,_,e,T8.same s'⟩)
  rintro j x σ H' hx ⟨z5,rfl,s'⟩
  obtain ⟨m,f,Sx,m6,hf⟩:=(W9 x (List.mem_of_getElem? hx)).same s'
  dsimp only [AY]
  exact ⟨m,f,Sx,m6,hf,fun H10 s10=>⟨_,rfl,s'.trans s10⟩⟩
 ·rintro σ H' ⟨z2,z3,z4,z5,rfl,T1⟩
  refine ⟨AX (show 0<=1000 by decide),fun e0 ne0=>⟨AX (show 2<=1000 by decide),fun e1 ne1=>?_⟩⟩
  exact ⟨2,fun _=>0,⟨e1,e0,[],rfl,.of AD,.of (Same.upd ne1 _ _ AD),by rw [Hj];exact Ap⟩,by decide,fun j=>(show Nb 0 60 by unfold Nb;decide),fun H2 s2=>q H2⟩
end
theorem all_mk {l:W.OpenLaw} {w:World} {K:W.Frag} {h:Heap} {mg:Str->Option Value} {fa:Addr} (X:K.In h) (G:h.Ns mainGlobals mg) (hfa:mg "law" = some (.ref fa))
 {C_Alike:Addr}
 {C_FlipError:Addr}
 {C_NoEnd:Addr}
 {C_NoName:Addr}
 {C_NoRow:Addr}
 {C_NoTable:Addr}
 {C_NoText:Addr}
 {C_NoThing:Addr}
 {f0 f1 f2 f3 f4 f5 f6 f7 f8 f9 f10 f11 f12 f13 f14 f15 f16 f17 f18 f19 f20 f21 f22 f23 f24 f25 f26:Addr} {oc0 kV0 dc0 pm0 cd0 ct0 oc1 kV1 dc1 pm1 cd1 ct1 oc2 kV2 dc2 pm2 cd2 ct2 oc3 kV3 dc3 pm3 cd3 ct3 oc4 kV4 dc4 pm4 cd4 ct4 oc5 kV5 dc5 pm5 cd5 ct5 oc6 kV6 dc6 pm6 cd6 ct6 oc7 kV7 dc7 pm7 cd7 ct7 oc8 kV8 dc8 pm8 cd8 ct8 oc9 kV9 dc9 pm9 cd9 ct9 oc10 kV10 dc10 pm10 cd10 ct10 oc11 kV11 dc11 pm11 cd11 ct11 oc12 kV12 dc12 pm12 cd12 ct12 oc13 kV13 dc13 pm13 cd13 ct13 oc14 kV14 dc14 pm14 cd14 ct14 oc15 kV15 dc15 pm15 cd15 ct15 oc16 kV16 dc16 pm16 cd16 ct16 oc17 kV17 dc17 pm17 cd17 ct17 oc18 kV18 dc18 pm18 cd18 ct18 oc19 kV19 dc19 pm19 cd19 ct19 oc20 kV20 dc20 pm20 cd20 ct20 oc21 kV21 dc21 pm21 cd21 ct21 oc22 kV22 dc22 pm22 cd22 ct22 oc23 kV23 dc23 pm23 cd23 ct23 oc24 kV24 dc24 pm24 cd24 ct24 oc25 kV25 dc25 pm25 cd25 ct25 oc26 kV26 dc26 pm26 cd26 ct26:Value} {od0 an0 od1 an1 od2 an2 od3 an3 od4 an4 od5 an5 od6 an6 od7 an7 od8 an8 od9 an9 od10 an10 od11 an11 od12 an12 od13 an13 od14 an14 od15 an15 od16 an16 od17 an17 od18 an18 od19 an19 od20 an20 od21 an21 od22 an22 od23 an23 od24 an24 od25 an25 od26 an26:Option Addr} {sl0 sl1 sl2 sl3 sl4 sl5 sl6 sl7 sl8 sl9 sl10 sl11 sl12 sl13 sl14 sl15 sl16 sl17 sl18 sl19 sl20 sl21 sl22 sl23 sl24 sl25 sl26:Array (Option Value)}
 (aC_Alike:W.nsIn K mainGlobals "Alike" = some (some (.ref C_Alike)))
 (aC_FlipError:W.nsIn K mainGlobals "FlipError" = some (some (.ref C_FlipError)))
 (aC_NoEnd:W.nsIn K mainGlobals "NoEnd" = some (some (.ref C_NoEnd)))
 (aC_NoName:W.nsIn K mainGlobals "NoName" = some (some (.ref C_NoName)))
 (aC_NoRow:W.nsIn K mainGlobals "NoRow" = some (some (.ref C_NoRow)))
 (aC_NoTable:W.nsIn K mainGlobals "NoTable" = some (some (.ref C_NoTable)))
 (aC_NoText:W.nsIn K mainGlobals "NoText" = some (some (.ref C_NoText)))
 (aC_NoThing:W.nsIn K mainGlobals "NoThing" = some (some (.ref C_NoThing)))
 (xi_NoTable:W.excIn K C_NoTable [.type "ValueError",.type "Exception",.type "BaseException",.type "object"] "ValueError.__new__" = true)
 (x1_NoTable:W.findIn K (.ref C_NoTable) "__getattribute__" = some (some (.builtin "BaseException.__getattribute__")))
 (x2_NoTable:W.findIn K (.ref C_NoTable) "__getattr__" = some none)
 (x3_NoTable:W.mroIn K C_NoTable (.type "BaseException")=some true)
 (x4_NoTable:W.mroIn K C_NoTable (.type "object")=some true)
 (x5_NoTable:W.findIn K (.ref C_NoTable) "__class__" = some (some (.builtin "object.__class__")))
 (x6_NoTable:W.specialIn K (.builtin "object.__class__") "__get__" = some (some (.builtin "getset_descriptor.__get__")))
 (x7_NoTable:W.takesIn K (.builtin "object.__class__")=some true)
 (xm_NoTable_FlipError:W.exmOne K (.ref C_NoTable) (.ref C_FlipError)=some true)
 (kk_NoTable_Alike:W.kitOne K (.ref C_NoTable) (.ref C_Alike)=some false)
 (kk_NoTable_NoEnd:W.kitOne K (.ref C_NoTable) (.ref C_NoEnd)=some false)
 (kk_NoTable_NoName:W.kitOne K (.ref C_NoTable) (.ref C_NoName)=some false)
 (kk_NoTable_NoRow:W.kitOne K (.ref C_NoTable) (.ref C_NoRow)=some false)
 (kk_NoTable_NoTable:W.kitOne K (.ref C_NoTable) (.ref C_NoTable)=some true)
 (kk_NoTable_NoText:W.kitOne K (.ref C_NoTable) (.ref C_NoText)=some false)
 (kk_NoTable_NoThing:W.kitOne K (.ref C_NoTable) (.ref C_NoThing)=some false)
 (kk_NoTable_ValueError:W.kitOne K (.ref C_NoTable) (.type "ValueError")=some true)
 (a0:W.nsIn K mainGlobals "two_to" = some (some (.ref f0)))
 (l0:K.lookup f0=some ⟨oc0,od0,.func (W.fnOf "two_to" "two_to" (AW Cn) (AU Cn) (AG Cn) .none kV0 dc0 pm0 an0 cd0 ct0),sl0⟩)
 (c0:W.codeIn K cd0 "two_to" = true)
 (k0:W.keepIn K (.ref f0)=true)
 (a1:W.nsIn K mainGlobals "power_of" = some (some (.ref f1)))
 (l1:K.lookup f1=some ⟨oc1,od1,.func (W.fnOf "power_of" "power_of" (AW C5) (AU C5) (AG C5) .none kV1 dc1 pm1 an1 cd1 ct1),sl1⟩)
 (c1:W.codeIn K cd1 "power_of" = true)
 (k1:W.keepIn K (.ref f1)=true)
 (a2:W.nsIn K mainGlobals "sign" = some (some (.ref f2)))
 (l2:K.lookup f2=some ⟨oc2,od2,.func (W.fnOf "sign" "sign" (AW DR) (AU DR) (AG DR) .none kV2 dc2 pm2 an2 cd2 ct2),sl2⟩)
 (c2:W.codeIn K cd2 "sign" = true)
 (k2:W.keepIn K (.ref f2)=true)
 (a3:W.nsIn K mainGlobals "many_in" = some (some (.ref f3)))
 (l3:K.lookup f3=some ⟨oc3,od3,.func (W.fnOf "many_in" "many_in" (AW DE) (AU DE) (AG DE) .none kV3 dc3 pm3 an3 cd3 ct3),sl3⟩)
 (c3:W.codeIn K cd3 "many_in" = true)
 (k3:W.keepIn K (.ref f3)=true)
 (a4:W.nsIn K mainGlobals "share_of" = some (some (.ref f4)))
 (l4:K.lookup f4=some ⟨oc4,od4,.func (W.fnOf "share_of" "share_of" (AW C6) (AU C6) (AG C6) .none kV4 dc4 pm4 an4 cd4 ct4),sl4⟩)
 (c4:W.codeIn K cd4 "share_of" = true)
 (k4:W.keepIn K (.ref f4)=true)
 (a5:W.nsIn K mainGlobals "common_divisor" = some (some (.ref f5)))
 (l5:K.lookup f5=some ⟨oc5,od5,.func (W.fnOf "common_divisor" "common_divisor" (AW DD) (AU DD) (AG DD) .none kV5 dc5 pm5 an5 cd5 ct5),sl5⟩)
 (c5:W.codeIn K cd5 "common_divisor" = true)
 (k5:W.keepIn K (.ref f5)=true)
 (a6:W.nsIn K mainGlobals "comes_to" = some (some (.ref f6)))
 (l6:K.lookup f6=some ⟨oc6,od6,.func (W.fnOf "comes_to" "comes_to" (AW Db) (AU Db) (AG Db) .none kV6 dc6 pm6 an6 cd6 ct6),sl6⟩)
 (c6:W.codeIn K cd6 "comes_to" = true)
 (k6:W.keepIn K (.ref f6)=true)
 (a7:W.nsIn K mainGlobals "told" = some (some (.ref f7)))
 (l7:K.lookup f7=some ⟨oc7,od7,.func (W.fnOf "told" "told" (AW DZ) (AU DZ) (AG DZ) .none kV7 dc7 pm7 an7 cd7 ct7),sl7⟩)
 (c7:W.codeIn K cd7 "told" = true)
 (k7:W.keepIn K (.ref f7)=true)
 (a8:W.nsIn K mainGlobals "squares" = some (some (.ref f8)))
 (l8:K.lookup f8=some ⟨oc8,od8,.func (W.fnOf "squares" "squares" (AW Df) (AU Df) (AG Df) .none kV8 dc8 pm8 an8 cd8 ct8),sl8⟩)
 (c8:W.codeIn K cd8 "squares" = true)
 (k8:W.keepIn K (.ref f8)=true)
 (a9:W.nsIn K mainGlobals "weights_of" = some (some (.ref f9)))
 (l9:K.lookup f9=some ⟨oc9,od9,.func (W.fnOf "weights_of" "weights_of" (AW DG) (AU DG) (AG DG) .none kV9 dc9 pm9 an9 cd9 ct9),sl9⟩)
 (c9:W.codeIn K cd9 "weights_of" = true)
 (k9:W.keepIn K (.ref f9)=true)
 (a10:W.nsIn K mainGlobals "times_signs" = some (some (.ref f10)))
 (l10:K.lookup f10=some ⟨oc10,od10,.func (W.fnOf "times_signs" "times_signs" (AW Dd) (AU Dd) (AG Dd) .none kV10 dc10 pm10 an10 cd10 ct10),sl10⟩)
 (c10:W.codeIn K cd10 "times_signs" = true)
 (k10:W.keepIn K (.ref f10)=true)
 (a11:W.nsIn K mainGlobals "crossed" = some (some (.ref f11)))
 (l11:K.lookup f11=some ⟨oc11,od11,.func (W.fnOf "crossed" "crossed" (AW Cy) (AU Cy) (AG Cy) .none kV11 dc11 pm11 an11 cd11 ct11),sl11⟩)
 (c11:W.codeIn K cd11 "crossed" = true)
 (k11:W.keepIn K (.ref f11)=true)
 (a12:W.nsIn K mainGlobals "_law_tape" = some (some (.ref f12)))
 (l12:K.lookup f12=some ⟨oc12,od12,.func (W.fnOf "_law_tape" "_law_tape" (AW DM) (AU DM) (AG DM) .none kV12 dc12 pm12 an12 cd12 ct12),sl12⟩)
 (c12:W.codeIn K cd12 "_law_tape" = true)
 (k12:W.keepIn K (.ref f12)=true)
 (a13:W.nsIn K mainGlobals "_law_next" = some (some (.ref f13)))
 (l13:K.lookup f13=some ⟨oc13,od13,.func (W.fnOf "_law_next" "_law_next" (AW DU) (AU DU) (AG DU) .none kV13 dc13 pm13 an13 cd13 ct13),sl13⟩)
 (c13:W.codeIn K cd13 "_law_next" = true)
 (k13:W.keepIn K (.ref f13)=true)
 (a14:W.nsIn K mainGlobals "_law_two" = some (some (.ref f14)))
 (l14:K.lookup f14=some ⟨oc14,od14,.func (W.fnOf "_law_two" "_law_two" (AW C8) (AU C8) (AG C8) .none kV14 dc14 pm14 an14 cd14 ct14),sl14⟩)
 (c14:W.codeIn K cd14 "_law_two" = true)
 (k14:W.keepIn K (.ref f14)=true)
 (a15:W.nsIn K mainGlobals "_law_bits" = some (some (.ref f15)))
 (l15:K.lookup f15=some ⟨oc15,od15,.func (W.fnOf "_law_bits" "_law_bits" (AW Cz) (AU Cz) (AG Cz) .none kV15 dc15 pm15 an15 cd15 ct15),sl15⟩)
 (c15:W.codeIn K cd15 "_law_bits" = true)
 (k15:W.keepIn K (.ref f15)=true)
 (a16:W.nsIn K mainGlobals "_law_sign" = some (some (.ref f16)))
 (l16:K.lookup f16=some ⟨oc16,od16,.func (W.fnOf "_law_sign" "_law_sign" (AW C0) (AU C0) (AG C0) .none kV16 dc16 pm16 an16 cd16 ct16),sl16⟩)
 (c16:W.codeIn K cd16 "_law_sign" = true)
 (k16:W.keepIn K (.ref f16)=true)
 (a17:W.nsIn K mainGlobals "_law_table" = some (some (.ref f17)))
 (l17:K.lookup f17=some ⟨oc17,od17,.func (W.fnOf "_law_table" "_law_table" (AW DB) (AU DB) (AG DB) .none kV17 dc17 pm17 an17 cd17 ct17),sl17⟩)
 (c17:W.codeIn K cd17 "_law_table" = true)
 (k17:W.keepIn K (.ref f17)=true)
 (a18:W.nsIn K mainGlobals "_law_sum" = some (some (.ref f18)))
 (l18:K.lookup f18=some ⟨oc18,od18,.func (W.fnOf "_law_sum" "_law_sum" (AW C4) (AU C4) (AG C4) .none kV18 dc18 pm18 an18 cd18 ct18),sl18⟩)
 (c18:W.codeIn K cd18 "_law_sum" = true)
 (k18:W.keepIn K (.ref f18)=true)
 (a19:W.nsIn K mainGlobals "_law_wild" = some (some (.ref f19)))
 (l19:K.lookup f19=some ⟨oc19,od19,.func (W.fnOf "_law_wild" "_law_wild" (AW C1) (AU C1) (AG C1) .none kV19 dc19 pm19 an19 cd19 ct19),sl19⟩)
 (c19:W.codeIn K cd19 "_law_wild" = true)
 (k19:W.keepIn K (.ref f19)=true)
 (a20:W.nsIn K mainGlobals "_law_same" = some (some (.ref f20)))
 (l20:K.lookup f20=some ⟨oc20,od20,.func (W.fnOf "_law_same" "_law_same" (AW DC) (AU DC) (AG DC) .none kV20 dc20 pm20 an20 cd20 ct20),sl20⟩)
 (c20:W.codeIn K cd20 "_law_same" = true)
 (k20:W.keepIn K (.ref f20)=true)
 (a21:W.nsIn K mainGlobals "_law_bent" = some (some (.ref f21)))
 (l21:K.lookup f21=some ⟨oc21,od21,.func (W.fnOf "_law_bent" "_law_bent" (AW DH) (AU DH) (AG DH) .none kV21 dc21 pm21 an21 cd21 ct21),sl21⟩)
 (c21:W.codeIn K cd21 "_law_bent" = true)
 (k21:W.keepIn K (.ref f21)=true)
 (a22:W.nsIn K mainGlobals "_law_least" = some (some (.ref f22)))
 (l22:K.lookup f22=some ⟨oc22,od22,.func (W.fnOf "_law_least" "_law_least" (AW DS) (AU DS) (AG DS) .none kV22 dc22 pm22 an22 cd22 ct22),sl22⟩)
 (c22:W.codeIn K cd22 "_law_least" = true)
 (k22:W.keepIn K (.ref f22)=true)
 (a23:W.nsIn K mainGlobals "_law_told" = some (some (.ref f23)))
 (l23:K.lookup f23=some ⟨oc23,od23,.func (W.fnOf "_law_told" "_law_told" (AW C9) (AU C9) (AG C9) .none kV23 dc23 pm23 an23 cd23 ct23),sl23⟩)
 (c23:W.codeIn K cd23 "_law_told" = true)
 (k23:W.keepIn K (.ref f23)=true)
 (a24:W.nsIn K mainGlobals "_law_right" = some (some (.ref f24)))
 (l24:K.lookup f24=some ⟨oc24,od24,.func (W.fnOf "_law_right" "_law_right" (AW Cv) (AU Cv) (AG Cv) .none kV24 dc24 pm24 an24 cd24 ct24),sl24⟩)
 (c24:W.codeIn K cd24 "_law_right" = true)
 (k24:W.keepIn K (.ref f24)=true)
 (a25:W.nsIn K mainGlobals "_law_size" = some (some (.ref f25)))
 (l25:K.lookup f25=some ⟨oc25,od25,.func (W.fnOf "_law_size" "_law_size" (AW Ct) (AU Ct) (AG Ct) .none kV25 dc25 pm25 an25 cd25 ct25),sl25⟩)
 (c25:W.codeIn K cd25 "_law_size" = true)
 (k25:W.keepIn K (.ref f25)=true)
 (a26:W.nsIn K mainGlobals "law" = some (some (.ref f26)))
 (l26:K.lookup f26=some ⟨oc26,od26,.func (W.fnOf "law" "law" (AW Bq) (AU Bq) (AG Bq) .none kV26 dc26 pm26 an26 cd26 ct26),sl26⟩)
 (c26:W.codeIn K cd26 "law" = true)
 (k26:W.keepIn K (.ref f26)=true)
 (z_ValueError:W.nsIn K mainGlobals "ValueError" = some none)
 (z_abs:W.nsIn K mainGlobals "abs" = some none)
 (z_all:W.nsIn K mainGlobals "all" = some none)
 (z_bool:W.nsIn K mainGlobals "bool" = some none)
 (z_dict:W.nsIn K mainGlobals "dict" = some none)
 (z_int:W.nsIn K mainGlobals "int" = some none)
 (z_isinstance:W.nsIn K mainGlobals "isinstance" = some none)
 (z_len:W.nsIn K mainGlobals "len" = some none)
 (z_list:W.nsIn K mainGlobals "list" = some none)
 (z_max:W.nsIn K mainGlobals "max" = some none)
 (z_min:W.nsIn K mainGlobals "min" = some none)
 (z_range:W.nsIn K mainGlobals "range" = some none)
 (z_sorted:W.nsIn K mainGlobals "sorted" = some none)
 (z_str:W.nsIn K mainGlobals "str" = some none)
 (z_sum:W.nsIn K mainGlobals "sum" = some none)
 (z_tuple:W.nsIn K mainGlobals "tuple" = some none)
 (z_zip:W.nsIn K mainGlobals "zip" = some none) :
 ∃ fd:FuncData,(∀ (s:Shared) (v:Value),BindsTo s fd ⟨[v],[]⟩ [("_law_script",v)])/\∀ base:Heap,K.In base->base.Ns mainGlobals mg->FnOk l.prog w K mg base CX0 8 fa fd ["_law_script"] (ED K):=by
 have e:=hfa.symm.trans (W.mg_of X G a26)
 cases e
 have F0:=AZ (st:=Cn) l0 c0 k0
 have b0:=F0.binds (ps:=["n"]) fun _ _ _ _ _ _=>L2.on1 (fun _=>rfl)
 have F1:=AZ (st:=C5) l1 c1 k1
 have b1:=F1.binds (ps:=["base","times"]) fun _ _ _ _ _ _=>L2.on2 (fun _ _=>rfl)
 have F2:=AZ (st:=DR) l2 c2 k2
 have b2:=F2.binds (ps:=["subset","place"]) fun _ _ _ _ _ _=>L2.on2 (fun _ _=>rfl)
 have F3:=AZ (st:=DE) l3 c3 k3
 have b3:=F3.binds (ps:=["subset"]) fun _ _ _ _ _ _=>L2.on1 (fun _=>rfl)
 have F4:=AZ (st:=C6) l4 c4 k4
 have b4:=F4.binds (ps:=["top","bottom"]) fun _ _ _ _ _ _=>L2.on2 (fun _ _=>rfl)
 have F5:=AZ (st:=DD) l5 c5 k5
 have b5:=F5.binds (ps:=["one","other"]) fun _ _ _ _ _ _=>L2.on2 (fun _ _=>rfl)
 have F6:=AZ (st:=Db) l6 c6 k6
 have b6:=F6.binds (ps:=["one","place"]) fun _ _ _ _ _ _=>L2.on2 (fun _ _=>rfl)
 have F7:=AZ (st:=DZ) l7 c7 k7
 have b7:=F7.binds (ps:=["one"]) fun _ _ _ _ _ _=>L2.on1 (fun _=>rfl)
 have F8:=AZ (st:=Df) l8 c8 k8
 have b8:=F8.binds (ps:=["one"]) fun _ _ _ _ _ _=>L2.on1 (fun _=>rfl)
 have F9:=AZ (st:=DG) l9 c9 k9
 have b9:=F9.binds (ps:=["one"]) fun _ _ _ _ _ _=>L2.on1 (fun _=>rfl)
 have F10:=AZ (st:=Dd) l10 c10 k10
 have b10:=F10.binds (ps:=["numbers"]) fun _ _ _ _ _ _=>L2.on1 (fun _=>rfl)
 have F11:=AZ (st:=Cy) l11 c11 k11
 have b11:=F11.binds (ps:=["numbers","step","place"]) fun _ _ _ _ _ _=>L2.on3 (fun _ _ _=>rfl)
 have F12:=AZ (st:=DM) l12 c12 k12
 have b12:=F12.binds (ps:=["_law_script"]) fun _ _ _ _ _ _=>L2.on1 (fun _=>rfl)
 have F13:=AZ (st:=DU) l13 c13 k13
 have b13:=F13.binds (ps:=["_law_tape_here","_law_many"]) fun _ _ _ _ _ _=>L2.on2 (fun _ _=>rfl)
 have F14:=AZ (st:=C8) l14 c14 k14
 have b14:=F14.binds (ps:=["_law_k"]) fun _ _ _ _ _ _=>L2.on1 (fun _=>rfl)
 have F15:=AZ (st:=Cz) l15 c15 k15
 have b15:=F15.binds (ps:=["_law_n","_law_number"]) fun _ _ _ _ _ _=>L2.on2 (fun _ _=>rfl)
 have F16:=AZ (st:=C0) l16 c16 k16
 have b16:=F16.binds (ps:=["_law_n","_law_one","_law_place"]) fun _ _ _ _ _ _=>L2.on3 (fun _ _ _=>rfl)
 have F17:=AZ (st:=DB) l17 c17 k17
 have b17:=F17.binds (ps:=["_law_tape_here","_law_n"]) fun _ _ _ _ _ _=>L2.on2 (fun _ _=>rfl)
 have F18:=AZ (st:=C4) l18 c18 k18
 have b18:=F18.binds (ps:=["_law_table_here"]) fun _ _ _ _ _ _=>L2.on1 (fun _=>rfl)
 have F19:=AZ (st:=C1) l19 c19 k19
 have b19:=F19.binds (ps:=["_law_tape_here","_law_n"]) fun _ _ _ _ _ _=>L2.on2 (fun _ _=>rfl)
 have F20:=AZ (st:=DC) l20 c20 k20
 have b20:=F20.binds (ps:=["_law_found","_law_due"]) fun _ _ _ _ _ _=>L2.on2 (fun _ _=>rfl)
 have F21:=AZ (st:=DH) l21 c21 k21
 have b21:=F21.binds (ps:=["_law_tape_here","_law_whole"]) fun _ _ _ _ _ _=>L2.on2 (fun _ _=>rfl)
 have F22:=AZ (st:=DS) l22 c22 k22
 have b22:=F22.binds (ps:=["_law_top","_law_bottom"]) fun _ _ _ _ _ _=>L2.on2 (fun _ _=>rfl)
 have F23:=AZ (st:=C9) l23 c23 k23
 have b23:=F23.binds (ps:=["_law_whole"]) fun _ _ _ _ _ _=>L2.on1 (fun _=>rfl)
 have F24:=AZ (st:=Cv) l24 c24 k24
 have b24:=F24.binds (ps:=["_law_whole"]) fun _ _ _ _ _ _=>L2.on1 (fun _=>rfl)
 have F25:=AZ (st:=Ct) l25 c25 k25
 have b25:=F25.binds (ps:=["_law_tape_here","_law_turn"]) fun _ _ _ _ _ _=>L2.on2 (fun _ _=>rfl)
 have F26:=AZ (st:=Bq) l26 c26 k26
 have b26:=F26.binds (ps:=["_law_script"]) fun _ _ _ _ _ _=>L2.on1 (fun _=>rfl)
 let T:Txt K mg:={ C_Alike:=C_Alike,mC_Alike:=W.mg_of X G aC_Alike,C_FlipError:=C_FlipError,mC_FlipError:=W.mg_of X G aC_FlipError,C_NoEnd:=C_NoEnd,mC_NoEnd:=W.mg_of X G aC_NoEnd,C_NoName:=C_NoName,mC_NoName:=W.mg_of X G aC_NoName,C_NoRow:=C_NoRow,mC_NoRow:=W.mg_of X G aC_NoRow,C_NoTable:=C_NoTable,mC_NoTable:=W.mg_of X G aC_NoTable,C_NoText:=C_NoText,mC_NoText:=W.mg_of X G aC_NoText,C_NoThing:=C_NoThing,mC_NoThing:=W.mg_of X G aC_NoThing,xi_NoTable:=xi_NoTable,xc_NoTable:=⟨x1_NoTable,x2_NoTable,x3_NoTable,x4_NoTable,x5_NoTable,x6_NoTable,x7_NoTable⟩,xm_NoTable_FlipError:=xm_NoTable_FlipError,kk_NoTable_Alike:=kk_NoTable_Alike,kk_NoTable_NoEnd:=kk_NoTable_NoEnd,kk_NoTable_NoName:=kk_NoTable_NoName,kk_NoTable_NoRow:=kk_NoTable_NoRow,kk_NoTable_NoTable:=kk_NoTable_NoTable,kk_NoTable_NoText:=kk_NoTable_NoText,kk_NoTable_NoThing:=kk_NoTable_NoThing,kk_NoTable_ValueError:=kk_NoTable_ValueError,f_z33:=f0,d_z33:=_,F_z33:=F0,b_z33:=b0,m_z33:=W.mg_of X G a0,f_z26:=f1,d_z26:=_,F_z26:=F1,b_z26:=b1,m_z26:=W.mg_of X G a1,f_z35:=f2,d_z35:=_,F_z35:=F2,b_z35:=b2,m_z35:=W.mg_of X G a2,f_z32:=f3,d_z32:=_,F_z32:=F3,b_z32:=b3,m_z32:=W.mg_of X G a3,f_z29:=f4,d_z29:=_,F_z29:=F4,b_z29:=b4,m_z29:=W.mg_of X G a4,f_z10:=f5,d_z10:=_,F_z10:=F5,b_z10:=b5,m_z10:=W.mg_of X G a5,f_z28:=f6,d_z28:=_,F_z28:=F6,b_z28:=b6,m_z28:=W.mg_of X G a6,f_z34:=f7,d_z34:=_,F_z34:=F7,b_z34:=b7,m_z34:=W.mg_of X G a7,f_z30:=f8,d_z30:=_,F_z30:=F8,b_z30:=b8,m_z30:=W.mg_of X G a8,f_z15:=f9,d_z15:=_,F_z15:=F9,b_z15:=b9,m_z15:=W.mg_of X G a9,f_z11:=f10,d_z11:=_,F_z11:=F10,b_z11:=b10,m_z11:=W.mg_of X G a10,f_z31:=f11,d_z31:=_,F_z31:=F11,b_z31:=b11,m_z31:=W.mg_of X G a11,f_z16:=f12,d_z16:=_,F_z16:=F12,b_z16:=b12,m_z16:=W.mg_of X G a12,f_z21:=f13,d_z21:=_,F_z21:=F13,b_z21:=b13,m_z21:=W.mg_of X G a13,f_z25:=f14,d_z25:=_,F_z25:=F14,b_z25:=b14,m_z25:=W.mg_of X G a14,f_z24:=f15,d_z24:=_,F_z24:=F15,b_z24:=b15,m_z24:=W.mg_of X G a15,f_z19:=f16,d_z19:=_,F_z19:=F16,b_z19:=b16,m_z19:=W.mg_of X G a16,f_z14:=f17,d_z14:=_,F_z14:=F17,b_z14:=b17,m_z14:=W.mg_of X G a17,f_z27:=f18,d_z27:=_,F_z27:=F18,b_z27:=b18,m_z27:=W.mg_of X G a18,f_z17:=f19,d_z17:=_,F_z17:=F19,b_z17:=b19,m_z17:=W.mg_of X G a19,f_z18:=f20,d_z18:=_,F_z18:=F20,b_z18:=b20,m_z18:=W.mg_of X G a20,f_z23:=f21,d_z23:=_,F_z23:=F21,b_z23:=b21,m_z23:=W.mg_of X G a21,f_z13:=f22,d_z13:=_,F_z13:=F22,b_z13:=b22,m_z13:=W.mg_of X G a22,f_z20:=f23,d_z20:=_,F_z20:=F23,b_z20:=b23,m_z20:=W.mg_of X G a23,f_z12:=f24,d_z12:=_,F_z12:=F24,b_z12:=b24,m_z12:=W.mg_of X G a24,f_z22:=f25,d_z22:=_,F_z22:=F25,b_z22:=b25,m_z22:=W.mg_of X G a25,f_law:=fa,d_law:=_,F_law:=F26,b_law:=b26,m_law:=W.mg_of X G a26,z_ValueError:=W.mg_none_of X G z_ValueError,z_abs:=W.mg_none_of X G z_abs,z_all:=W.mg_none_of X G z_all,z_bool:=W.mg_none_of X G z_bool,z_dict:=W.mg_none_of X G z_dict,z_int:=W.mg_none_of X G z_int,z_isinstance:=W.mg_none_of X G z_isinstance,z_len:=W.mg_none_of X G z_len,z_list:=W.mg_none_of X G z_list,z_max:=W.mg_none_of X G z_max,z_min:=W.mg_none_of X G z_min,z_range:=W.mg_none_of X G z_range,z_sorted:=W.mg_none_of X G z_sorted,z_str:=W.mg_none_of X G z_str,z_sum:=W.mg_none_of X G z_sum,z_tuple:=W.mg_none_of X G z_tuple,z_zip:=W.mg_none_of X G z_zip }
 exact ⟨W.fnOf "law" "law" (AW Bq) (AU Bq) (AG Bq) .none kV26 dc26 pm26 an26 cd26 ct26,fun s v=>.of_eq rfl,fun base _ _=>PC T⟩
theorem walk {l:W.OpenLaw} {q:Program} {loose:List Str} {XP:(Str->Option Value)->Heap->Prop} {YP:World->Heap->Prop} {d:DefRec} {K:Params->W.Frag} (hn:l.most=some 63) (hdf:d.params.defaults=[])
 (hY:∀ (w:World) (h:Heap),YP w h->(K w.params).In h)
 (F:∀ (w:World) (mg:Str->Option Value) (fa:Addr) (h:Heap),(K w.params).In h->h.Ns mainGlobals mg->mg d.name=some (.ref fa) ->
   ∃ fd:FuncData,(∀ (s:Shared) (u:Value),BindsTo s fd ⟨[u],[]⟩ [("_law_script",u)])/\∀ base:Heap,(K w.params).In base->base.Ns mainGlobals mg->FnOk l.prog w (K w.params) mg base CX0 8 fa fd ["_law_script"] (ED (K w.params))) :
 W.WalkO q loose XP YP l.row.toRowW d [] (fun f vs=>PySem.call f vs) :=
 L2.walk_of (n:=63) (k:=8) (x:="_law_script") (CX:=fun _=>CX0) (sp:=fun w=>ED (K w.params)) hn (by decide) hdf ⟨rfl,by decide,by decide,rfl⟩ hY F (fun _ _ a ns hl _ hS=>⟨a,ns,rfl,hS,hl,fun _=>rfl⟩) fun _ _ _ _ _ z=>z
end Mine
theorem PySem.W.Fast.te2925453564849964849:True:=trivial
noncomputable def PySem.W.Fast.tw16556372545012690063:PySem.Program:=PySem.Challenge.pw_flips_k10_what_sums_come_to
theorem PySem.W.Fast.te16556372545012690063:PySem.Challenge.pw_flips_k10_what_sums_come_to=PySem.W.Fast.tw16556372545012690063:=rfl
noncomputable def PySem.W.Fast.pickB:List Bool->List PySem.Stmt->List PySem.Stmt
 | [],_=>[]
 | b::k,l=>match b,l with
  | true,s::r=>s::PySem.W.Fast.pickB k r
  | false,_::r=>PySem.W.Fast.pickB k r
  | _,[]=>[]
noncomputable def PySem.W.Fast.tw447159792942315340:PySem.Program:={ PySem.Challenge.pw_flips_k10_what_sums_come_to with main:={ (PySem.Challenge.pw_flips_k10_what_sums_come_to).main with body:=PySem.W.Fast.pickB [false,true,true,true,true,true,true,true,true,false,true,true,false,true,true,false,true,true,false,true,true,true,true,true,true,false,true,true,true,true,true,true,true,true,true,true,true,true,true,true,true] (PySem.Challenge.pw_flips_k10_what_sums_come_to).main.body } }
theorem PySem.W.Fast.te447159792942315340:PySem.W.Fast.tw447159792942315340=PySem.W.Fast.tw447159792942315340:=rfl
noncomputable def PySem.W.Fast.tw7357556737603932005:List PySem.Stmt:=((PySem.Challenge.pw_flips_k10_what_sums_come_to).main.body.drop 17).take 15
theorem PySem.W.Fast.te7357556737603932005:PySem.W.Fast.tw7357556737603932005=PySem.W.Fast.tw7357556737603932005:=rfl
noncomputable def PySem.W.Fast.tw7636207786267427917:List PySem.Stmt:=((PySem.Challenge.pw_flips_k10_what_sums_come_to).main.body.drop 3).take 1
theorem PySem.W.Fast.te7636207786267427917:PySem.W.Fast.tw7636207786267427917=PySem.W.Fast.tw7636207786267427917:=rfl
noncomputable def PySem.W.Fast.tw9280738615611661172:List PySem.Stmt:=((PySem.Challenge.pw_flips_k10_what_sums_come_to).main.body.drop 4).take 1
theorem PySem.W.Fast.te9280738615611661172:PySem.W.Fast.tw9280738615611661172=PySem.W.Fast.tw9280738615611661172:=rfl
noncomputable def PySem.W.Fast.tw11370993220649729697:List PySem.Stmt:=((PySem.Challenge.pw_flips_k10_what_sums_come_to).main.body.drop 2).take 1
theorem PySem.W.Fast.te11370993220649729697:PySem.W.Fast.tw11370993220649729697=PySem.W.Fast.tw11370993220649729697:=rfl
noncomputable def PySem.W.Fast.tw9908252625639641969:List PySem.Stmt:=((PySem.Challenge.pw_flips_k10_what_sums_come_to).main.body.drop 5).take 1
theorem PySem.W.Fast.te9908252625639641969:PySem.W.Fast.tw9908252625639641969=PySem.W.Fast.tw9908252625639641969:=rfl
noncomputable def PySem.W.Fast.tw6305980368311990344:List PySem.Stmt:=((PySem.Challenge.pw_flips_k10_what_sums_come_to).main.body.drop 0).take 2
theorem PySem.W.Fast.te6305980368311990344:PySem.W.Fast.tw6305980368311990344=PySem.W.Fast.tw6305980368311990344:=rfl
noncomputable def PySem.W.Fast.tw2624911127318785053:List PySem.Stmt:=((PySem.Challenge.pw_flips_k10_what_sums_come_to).main.body.drop 32).take 9
theorem PySem.W.Fast.te2624911127318785053:PySem.W.Fast.tw2624911127318785053=PySem.W.Fast.tw2624911127318785053:=rfl
noncomputable def PySem.W.Fast.tw7663653203415873935:List PySem.Stmt:=((PySem.Challenge.pw_flips_k10_what_sums_come_to).main.body.drop 7).take 1
theorem PySem.W.Fast.te7663653203415873935:PySem.W.Fast.tw7663653203415873935=PySem.W.Fast.tw7663653203415873935:=rfl
noncomputable def PySem.W.Fast.tw4419830807576857275:List PySem.Stmt:=((PySem.Challenge.pw_flips_k10_what_sums_come_to).main.body.drop 8).take 9
theorem PySem.W.Fast.te4419830807576857275:PySem.W.Fast.tw4419830807576857275=PySem.W.Fast.tw4419830807576857275:=rfl
noncomputable def PySem.W.Fast.tw13842989857450322153:List PySem.Stmt:=((PySem.Challenge.pw_flips_k10_what_sums_come_to).main.body.drop 6).take 1
theorem PySem.W.Fast.te13842989857450322153:PySem.W.Fast.tw13842989857450322153=PySem.W.Fast.tw13842989857450322153:=rfl
open PySem PySem.W PyProof.Rows
set_option maxRecDepth 100000 in
set_option maxHeartbeats 0 in
theorem PySem.Challenge.cw_flips_k10_what_sums_come_to_holds : PySem.Challenge.rw_flips_k10_what_sums_come_to.Holds := by
 w_on;o_law;k_head;(case hw=>w_witness2)
 k_fill
 refine Mine.walk (l:=PySem.Challenge.rw_flips_k10_what_sums_come_to) rfl rfl (fun w h Y=>PySem.W.kIn_of Y) ?F
 case F =>
  intro w mg fa h KX G hmg
  refine' Mine.all_mk KX G hmg ?aC_Alike ?aC_FlipError ?aC_NoEnd ?aC_NoName ?aC_NoRow ?aC_NoTable ?aC_NoText ?aC_NoThing ?xi_NoTable ?x1_NoTable ?x2_NoTable ?x3_NoTable ?x4_NoTable ?x5_NoTable ?x6_NoTable ?x7_NoTable ?xm_NoTable_FlipError ?kk_NoTable_Alike ?kk_NoTable_NoEnd ?kk_NoTable_NoName ?kk_NoTable_NoRow ?kk_NoTable_NoTable ?kk_NoTable_NoText ?kk_NoTable_NoThing ?kk_NoTable_ValueError ?a0 ?l0 ?c0 ?k0 ?a1 ?l1 ?c1 ?k1 ?a2 ?l2 ?c2 ?k2 ?a3 ?l3 ?c3 ?k3 ?a4 ?l4 ?c4 ?k4 ?a5 ?l5 ?c5 ?k5 ?a6 ?l6 ?c6 ?k6 ?a7 ?l7 ?c7 ?k7 ?a8 ?l8 ?c8 ?k8 ?a9 ?l9 ?c9 ?k9 ?a10 ?l10 ?c10 ?k10 ?a11 ?l11 ?c11 ?k11 ?a12 ?l12 ?c12 ?k12 ?a13 ?l13 ?c13 ?k13 ?a14 ?l14 ?c14 ?k14 ?a15 ?l15 ?c15 ?k15 ?a16 ?l16 ?c16 ?k16 ?a17 ?l17 ?c17 ?k17 ?a18 ?l18 ?c18 ?k18 ?a19 ?l19 ?c19 ?k19 ?a20 ?l20 ?c20 ?k20 ?a21 ?l21 ?c21 ?k21 ?a22 ?l22 ?c22 ?k22 ?a23 ?l23 ?c23 ?k23 ?a24 ?l24 ?c24 ?k24 ?a25 ?l25 ?c25 ?k25 ?a26 ?l26 ?c26 ?k26 ?z_ValueError ?z_abs ?z_all ?z_bool ?z_dict ?z_int ?z_isinstance ?z_len ?z_list ?z_max ?z_min ?z_range ?z_sorted ?z_str ?z_sum ?z_tuple ?z_zip
  (case aC_Alike | aC_FlipError | aC_NoEnd | aC_NoName | aC_NoRow | aC_NoTable | aC_NoText | aC_NoThing | x1_NoTable | x2_NoTable | x3_NoTable | x4_NoTable | x5_NoTable | x6_NoTable | x7_NoTable | a0 | l0 | c0 | k0 | a1 | l1 | c1 | k1 | a2 | l2 | c2 | k2 | a3 | l3 | c3 | k3 | a4 | l4 | c4 | k4 | a5 | l5 | c5 | k5 | a6 | l6 | c6 | k6 | a7 | l7 | c7 | k7 | a8 | l8 | c8 | k8 | a9 | l9 | c9 | k9 | a10 | l10 | c10 | k10 | a11 | l11 | c11 | k11 | a12 | l12 | c12 | k12 | a13 | l13 | c13 | k13 | a14 | l14 | c14 | k14 | a15 | l15 | c15 | k15 | a16 | l16 | c16 | k16 | a17 | l17 | c17 | k17 | a18 | l18 | c18 | k18 | a19 | l19 | c19 | k19 | a20 | l20 | c20 | k20 | a21 | l21 | c21 | k21 | a22 | l22 | c22 | k22 | a23 | l23 | c23 | k23 | a24 | l24 | c24 | k24 | a25 | l25 | c25 | k25 | a26 | l26 | c26 | k26 | z_ValueError | z_abs | z_all | z_bool | z_dict | z_int | z_isinstance | z_len | z_list | z_max | z_min | z_range | z_sorted | z_str | z_sum | z_tuple | z_zip=>k_is)
  (case xi_NoTable=>k_exc)
  (case xm_NoTable_FlipError=>kts_exm)
  (case kk_NoTable_Alike=>kit_is)
  (case kk_NoTable_NoEnd=>kit_is)
  (case kk_NoTable_NoName=>kit_is)
  (case kk_NoTable_NoRow=>kit_is)
  (case kk_NoTable_NoTable=>kit_is)
  (case kk_NoTable_NoText=>kit_is)
  (case kk_NoTable_NoThing=>kit_is)
  (case kk_NoTable_ValueError=>kit_is)
