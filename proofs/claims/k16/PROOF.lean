import PyProof.Rows.All
import Wide.All
import OpenK.AllK
import Wide.FinOn
import Lean
import PyProof.EqAt
import PyProof.EqKinds
import PyProof.TupleCall
import PyProof.NeKinds
import PyProof.ReprRoads
import PyProof.ReprBulk
import PyProof.Draws
import PyProof.EnumMake
import KE.BitLaws
import PyProof.ListIndex
import PyProof.AttrMissHeap
import PyProof.DictUpdate
import KE.KDictOf
import PyProof.FactsAll.enumerate_1
import PyProof.FactsAll.tuple_2
import PyProof.ListMulRoad
import PyProof.ListRange
import PyProof.FactsAll.list_3
import PyProof.Rows.SortWalk
import PyProof.Rows.MinMaxN
import KE.KEqDict
import KE.KDictSum
import PyProof.WalksMore
import PyProof.Rows.SetFrom
import PyProof.SetRoads
import PyProof.FactsAll.set_1
import KE.KItemsList
import KE.KSortTup
import KE.KLam
import PyProof.FactsAll.dict_1
import PyProof.StrBlockH
import PyProof.StrLawsTight
import PyProof.StrLawsOccR
import PyProof.StrLawsJoin
import PyProof.StationsW
import PyProof.NsDelKeeps
import PyProof.RulesAs
import PyProof.ExcInit
import KE.KTryMore
import PyProof.ExcClass3
import PyProof.ExcBaseAll.ValueError
import OpenK.KOwn
import PyProof.ExcArgsOwn
import PyProof.InstStoreFacts
import PySem.Challenge.RW_flips_k16_refusals_apart
set_option Elab.async false
set_option linter.all false
set_option genInjectivity false
set_option genSizeOf false
set_option compiler.extract_closed false
set_option bootstrap.genMatcherCode false
set_option maxRecDepth 100000
set_option maxHeartbeats 0
-- CHANGE: your row's module here,as the last of these rows
namespace L2
open PySem PySem.Spec PyProof.Rows
noncomputable abbrev Key:=Sum Int Str
noncomputable def DS:Key->Value->Bool
 | .inl k,v=>Value.isInt k v
 | .inr x,v=>Value.isStrOf x v
noncomputable def GR (w:World):Key->Int
 | .inl k=>hashInt k
 | .inr x=>hashStr w x
theorem keyIs_shape:∀ {k:Key} {v:Value},DS k v=true->(∃ i t,k=Sum.inl i/\v=Value.int i t)\/(∃ x t,k=Sum.inr x/\v=Value.str x t)
 | .inl i,v,h=>by
  obtain ⟨t,e⟩:=Value.isInt_shape (k:=i) (v:=v) h
  exact .inl ⟨i,t,rfl,e⟩
 | .inr x,v,h=>by
  obtain ⟨t,e⟩:=Value.isStrOf_shape (x:=x) (v:=v) h
  exact .inr ⟨x,t,rfl,e⟩
theorem Em (a b:Int):decide ((Sum.inl a:Key)=Sum.inl b)=(a == b):=by
 by_cases e:a=b
 ·subst e;simp
 ·have h:¬ (Sum.inl a:Key)=Sum.inl b:=fun q=>e (Sum.inl.inj q)
  rw [decide_eq_false h]
  exact (beq_eq_false_iff_ne.mpr e).symm
theorem E3 (a b:Str):decide ((Sum.inr a:Key)=Sum.inr b)=decide (a=b):=by
 by_cases e:a=b
 ·subst e;simp
 ·have h:¬ (Sum.inr a:Key)=Sum.inr b:=fun q=>e (Sum.inr.inj q)
  rw [decide_eq_false h,decide_eq_false e]
theorem GA (a:Int) (b:Str):decide ((Sum.inl a:Key)=Sum.inr b)=false:=decide_eq_false (fun q=>nomatch q)
theorem HP (a:Str) (b:Int):decide ((Sum.inr a:Key)=Sum.inl b)=false:=decide_eq_false (fun q=>nomatch q)
noncomputable def D6 (prog:Program) (w:World):PySem.KeyKind prog w Key where
 is:=DS
 hash:=GR w
 inj:=fun v a b ha hb=>by
  rcases keyIs_shape ha with ⟨i,t,rfl,rfl⟩ | ⟨x,t,rfl,rfl⟩
  ·rcases keyIs_shape hb with ⟨j,u,rfl,e⟩ | ⟨y,u,rfl,e⟩
   ·injection e with e1 _;rw [e1]
   ·exact nomatch e
  ·rcases keyIs_shape hb with ⟨j,u,rfl,e⟩ | ⟨y,u,rfl,e⟩
   ·exact nomatch e
   ·injection e with e1 _;rw [e1]
 byValue:=fun k v h=>by
  rcases keyIs_shape h with ⟨i,t,rfl,rfl⟩ | ⟨x,t,rfl,rfl⟩ <;> rfl
 pyHash:=fun hv h=>by
  rcases keyIs_shape hv with ⟨i,t,rfl,rfl⟩ | ⟨x,t,rfl,rfl⟩
  ·exact wpAny_pyHash_int h
  ·exact wpAny_pyHash_str h
 eqBool:=fun hu hv h=>by
  rcases keyIs_shape hu with ⟨i,t,rfl,rfl⟩ | ⟨x,t,rfl,rfl⟩
  ·rcases keyIs_shape hv with ⟨j,u,rfl,rfl⟩ | ⟨y,u,rfl,rfl⟩
   ·rw [Em] at h;exact wpAny_eqBool_int h
   ·rw [GA] at h;exact SeqAt.EqAt.int_str i t y u _ _ _ _ h
  ·rcases keyIs_shape hv with ⟨j,u,rfl,rfl⟩ | ⟨y,u,rfl,rfl⟩
   ·rw [HP] at h;exact SeqAt.EqAt.str_int x t j u _ _ _ _ h
   ·rw [E3] at h;exact wpAny_eqBool_str h
 «strs»:=fun k x t v h=>by
  rcases keyIs_shape h with ⟨i,u,rfl,e⟩ | ⟨y,u,rfl,e⟩
  ·exact nomatch e
  ·injection e with e1 _
   subst e1
   cases v <;> rfl
inductive V where
 | non | bl (b:Bool) | int (i:Int) | str (x:Str) | byt (b:Array UInt8) | flt (b:UInt64) | ref (a:Addr) | ty (n:String)
 deriving DecidableEq
noncomputable def RelV:V->Value->Prop
 | .non,u=>u=Value.none
 | .bl b,u=>u=Value.bool b
 | .int i,u=>∃ t,u=Value.int i t
 | .str x,u=>∃ t,u=Value.str x t
 | .byt b,u=>∃ t,u=Value.bytes b t
 | .flt b,u=>∃ t,u=Value.float b t
 | .ref a,u=>u=Value.ref a
 | .ty n,u=>u=Value.type n
noncomputable abbrev Vals:List V->List Value->Prop:=Paired RelV
theorem Vals.length {xs:List V} {us:List Value} (r:Vals xs us):xs.length=us.length:=Paired.length r
theorem Vals.get:∀ {xs:List V} {us:List Value} {i:Nat} {x:V},Vals xs us->xs[i]? = some x->∃ u,us[i]? = some u/\RelV x u
 | _,_,_,_,.nil,e=>by simp at e
 | _,_,0,_,.cons r _,e=>by simp at e;subst e;exact ⟨_,rfl,r⟩
 | _,_,i+1,x,.cons _ t,e=>by
  obtain ⟨u,h1,h2⟩:=Vals.get (i:=i) (x:=x) t (by simpa using e)
  exact ⟨u,by simpa using h1,h2⟩
theorem Vals.set {x:V} {u:Value} (r:RelV x u):∀ {xs:List V} {us:List Value} (i:Nat),Vals xs us->Vals (xs.set i x) (us.set i u)
 | _,_,_,.nil=>.nil
 | _,_,0,.cons _ t=>.cons r t
 | _,_,i+1,.cons q t=>.cons q (Vals.set r i t)
theorem Vals.append:∀ {xs ys:List V} {us ws:List Value},Vals xs us->Vals ys ws->Vals (xs++ys) (us++ws)
 | _,_,_,_,.nil,s=>s
 | _,_,_,_,.cons r t,s=>.cons r (Vals.append t s)
theorem Vals.take:∀ {xs:List V} {us:List Value} (n:Nat),Vals xs us->Vals (xs.take n) (us.take n)
 | _,_,0,_=>.nil
 | _,_,_+1,.nil=>.nil
 | _,_,n+1,.cons r t=>.cons r (Vals.take n t)
theorem Vals.drop:∀ {xs:List V} {us:List Value} (n:Nat),Vals xs us->Vals (xs.drop n) (us.drop n)
 | _,_,0,r=>r
 | _,_,_+1,.nil=>.nil
 | _,_,n+1,.cons _ t=>Vals.drop n t
noncomputable def RelO:Option V->Option Value->Prop
 | some v,some u=>RelV v u
 | none,none=>True
 | _,_=>False
noncomputable def KV {κ:Type}:List (κ × V)->List (κ × Value)->Prop:=Paired fun (p:κ × V) (q:κ × Value)=>p.1=q.1/\RelV p.2 q.2
noncomputable def kV:Key->V
 | .inl i=>.int i
 | .inr x=>.str x
inductive HO where
 | lst (xs:List V)
 | tup (xs:List V)
 | dK (kvs:List (Key × V)) | dT (kvs:List (List Key × V))
 | set (S:Int->Bool) (n:Nat)
 | ins (C dx:Addr) (fs:List (Str × V))
 | own (x:Addr)
 | xd (fs:List (Str × V))
 | met (f x:Addr)
 | rng (lo hi:Int)
 | frz (o:Obj) (u:HO)
 | tbl (ps:Array Value)
 | ext (φ:Heap->Prop)
noncomputable abbrev Hp:=Addr->Option HO
noncomputable def upd (H:Hp) (a:Addr) (o:HO):Hp:=fun b=>if b=a then some o else H b
theorem AC {H:Hp} {a:Addr} {o:HO}:upd H a o a=some o:=by unfold upd;rw [if_pos rfl]
theorem AB {H:Hp} {a b:Addr} {o:HO} (h:b≠a):upd H a o b=H b:=by unfold upd;rw [if_neg h]
theorem Av {H:Hp} {a b:Addr} {o:HO} (h:H a=some o) (h':H b=none):a≠b:=by
 intro e;subst e;rw [h] at h';cases h'
noncomputable def IsTupN (h:Heap) (a:Addr) (items:Array Value):Prop:=∃ o,h.get? a=some o/\o.cls=.type "tuple" /\ (∃ n,o.data=.seq items n)/\o.dict=none
theorem IsTupN.tup {h:Heap} {a:Addr} {items:Array Value} (x:IsTupN h a items):PyProof.Rows.IsTup h a items:=by
 obtain ⟨o,e,c,d,_⟩:=x
 exact ⟨o,e,c,d⟩
theorem IsTupN.new (h:Heap) (items:Array Value):IsTupN (h.push { cls:=.type "tuple",data:=.seq items }) h.objs.size items:=⟨_,Heap.get?_push_size _ rfl,rfl,⟨_,rfl⟩,rfl⟩
section
variable (P:Program) (w:World)
noncomputable def ObjOk (H:Hp) (h:Heap) (a:Addr):HO->Prop
 | .lst xs=>xs.length<=sizeLine/\∃ (its:List Value) (n:Nat),Vals xs its/\h.get? a=some { cls:=.type "list",data:=.seq its.toArray n }
 | .tup xs=>xs.length<=sizeLine/\∃ its:List Value,Vals xs its/\IsTupN h a its.toArray
 | .dK kvs=>kvs.length<=sizeLine/\(a == sysModules)=false/\∃ vs,KV kvs vs/\h.DictOf (D6 P w) a vs
 | .dT kvs=>kvs.length<=sizeLine/\(a == sysModules)=false/\∃ xs:List (List Key × Addr × Value),
  Paired (fun (p:List Key × V) (q:List Key × Addr × Value)=>p.1=q.1/\H q.2.1=some (.tup (p.1.map kV))/\RelV p.2 q.2.2) kvs xs /\
  ∃ o es ep,h.get? a=some o/\o.ExactDict/\o.data=.dict es ep/\es.toList=xs.map (entryOfKey (tupleKind (D6 P w)))/\(xs.map (·.1)).Nodup
 | .set S n=>h.SetOf (intKind P w) a S n
 | .ins C dx fs=>H dx=some (.own a)/\fs.length<=1000/\dx≠a/\h.get? a=some (PySem.W.instObj C dx) /\
  ∃ mA,h.Ns1 dx mA/\(∀ f,RelO (fs.lookup f) (mA f))/\PySem.Within mA (fs.map (·.1))
 | .own _=>∃ o,h.get? a=some o
 | .xd fs=>∃ mA,h.Ns1 a mA/\∀ f,RelO (fs.lookup f) (mA f)
 | .rng lo hi=>∃ t u v,h.get? a=some { cls:=.type "range",data:=.fields #[.int lo t,.int hi u,.int 1 v] }
 | .frz o u=>h.get? a=some o/\ObjOk H h a u
 | .tbl ps=>h.get? a=some { cls:=.none,data:=.fields ps }
 | .met f x=>h.get? a=some (PySem.W.methodObj (.ref f) (.ref x))
 | .ext φ=>φ h/\(∃ o,h.get? a=some o)/\∀ h1 h2:Heap,φ h1->(∀ o,h1.get? a=some o->h2.get? a=some o)->φ h2
noncomputable def HOk (H:Hp) (h:Heap):Prop:=∀ a o,H a=some o->ObjOk P w H h a o
end
section
variable {P:Program} {w:World} {H H':Hp} {h h':Heap} {a:Addr} {o:HO}
theorem ObjOk.lt (x:ObjOk P w H h a o):a < h.objs.size:=by
 cases o with
 | lst xs=>obtain ⟨_,_,_,_,e⟩:=x;exact Heap.lt_size e
 | tup xs=>obtain ⟨_,_,_,p⟩:=x;exact p.tup.lt
 | dK kvs=>obtain ⟨_,_,_,_,o,_,_,e,_⟩:=x;exact Heap.lt_size e
 | dT kvs=>obtain ⟨_,_,_,_,o,_,_,e,_⟩:=x;exact Heap.lt_size e
 | set S n=>obtain ⟨o,_,_,_,e,_⟩:=x;exact Heap.lt_size e
 | ins C dx fs=>obtain ⟨_,_,_,e,_⟩:=x;exact Heap.lt_size e
 | own y=>obtain ⟨_,e⟩:=x;exact Heap.lt_size e
 | xd fs=>obtain ⟨_,⟨_,_,_,e,_⟩,_⟩:=x;exact Heap.lt_size e
 | rng lo hi=>obtain ⟨_,_,_,e⟩:=x;exact Heap.lt_size e
 | frz ob u=>obtain ⟨e,_⟩:=x;exact Heap.lt_size e
 | tbl ps=>exact Heap.lt_size (show h.get? a=some _ from x)
 | met f y=>exact Heap.lt_size (show h.get? a=some _ from x)
 | ext φ=>obtain ⟨_,⟨_,e⟩,_⟩:=x;exact Heap.lt_size e
theorem Paired.mapP {α β:Type} {F G:α->β->Prop}:∀ {l₁:List α} {l₂:List β},Paired F l₁ l₂->(∀ a b,F a b->G a b)->Paired G l₁ l₂
 | _,_,.nil,_=>.nil
 | _,_,.cons r t,f=>.cons (f _ _ r) (Paired.mapP t f)
theorem ObjOk.stay (x:ObjOk P w H h a o) (k:∀ b u,(b=a\/H b=some (.own a))->h.get? b=some u->h'.get? b=some u)
 (ho:∀ b,H b=some (.own a)->H' b=some (.own a)) (ht:∀ b xs,H b=some (.tup xs)->H' b=some (.tup xs)):ObjOk P w H' h' a o:=by
 induction o with
 | lst xs=>obtain ⟨z,its,n,r,e⟩:=x;exact ⟨z,its,n,r,k _ _ (.inl rfl) e⟩
 | tup xs=>obtain ⟨z,its,r,ob,e,c⟩:=x;exact ⟨z,its,r,ob,k _ _ (.inl rfl) e,c⟩
 | dK kvs=>obtain ⟨z,y,vs,r,ob,es,ep,e,c⟩:=x;exact ⟨z,y,vs,r,ob,es,ep,k _ _ (.inl rfl) e,c⟩
 | dT kvs =>
  obtain ⟨z,y,xs,r,ob,es,ep,e,c⟩:=x
  exact ⟨z,y,xs,Paired.mapP r fun p q z=>⟨z.1,ht _ _ z.2.1,z.2.2⟩,ob,es,ep,k _ _ (.inl rfl) e,c⟩
 | set S n=>obtain ⟨ob,es,ep,t,e,c⟩:=x;exact ⟨ob,es,ep,t,k _ _ (.inl rfl) e,c⟩
 | ins C dx fs =>
  obtain ⟨d,z,ne,e,mA,⟨od,es,ep,e2,c⟩,r⟩:=x
  exact ⟨ho _ d,z,ne,k _ _ (.inl rfl) e,mA,⟨od,es,ep,k _ _ (.inr d) e2,c⟩,r⟩
 | own y=>obtain ⟨ob,e⟩:=x;exact ⟨ob,k _ _ (.inl rfl) e⟩
 | xd fs=>obtain ⟨mA,⟨od,es,ep,e,c⟩,r⟩:=x;exact ⟨mA,⟨od,es,ep,k _ _ (.inl rfl) e,c⟩,r⟩
 | rng lo hi=>obtain ⟨t,u,v,e⟩:=x;exact ⟨t,u,v,k _ _ (.inl rfl) e⟩
 | frz ob u ih=>obtain ⟨e,q⟩:=x;exact ⟨k _ _ (.inl rfl) e,ih q⟩
 | tbl ps =>
  have e:h.get? a=some { cls:=.none,data:=.fields ps }:=x
  show h'.get? a=some { cls:=.none,data:=.fields ps }
  exact k a _ (.inl rfl) e
 | met f y =>
  have e:h.get? a=some (PySem.W.methodObj (.ref f) (.ref y)):=x
  show h'.get? a=some (PySem.W.methodObj (.ref f) (.ref y))
  exact k a _ (.inl rfl) e
 | ext φ=>obtain ⟨p,⟨o,e⟩,st⟩:=x;exact ⟨st _ _ p fun o q=>k _ _ (.inl rfl) q,⟨o,k _ _ (.inl rfl) e⟩,st⟩
theorem HOk.lt (x:HOk P w H h) (e:H a=some o):a < h.objs.size:=(x a o e).lt
theorem HOk.fresh (x:HOk P w H h) (e:h.objs.size<=a):H a=none:=by
 cases q:H a with
 | none=>rfl
 | some u=>exact absurd (Nat.lt_of_lt_of_le (x.lt q) e) (Nat.lt_irrefl _)
theorem HOk.kept (x:HOk P w H h) (k:∀ b u,h.get? b=some u->h'.get? b=some u):HOk P w H h':=fun a o e =>
 (x a o e).stay (fun b u _ q=>k b u q) (fun _ q=>q) fun _ _ q=>q
theorem HOk.laid (x:HOk P w H h) (k:∀ b u,h.get? b=some u->h'.get? b=some u) (hp:h.objs.size<=a) (new:ObjOk P w (upd H a o) h' a o):HOk P w (upd H a o) h':=fun b u e=>by
 have hn:=x.fresh hp
 by_cases hb:b=a
 ·subst hb;rw [AC] at e;cases e;exact new
 ·rw [AB hb] at e
  exact (x b u e).stay (fun c v _ q=>k c v q) (fun c q=>by rw [AB (Av q hn)];exact q) fun c xs q=>by rw [AB (Av q hn)];exact q
end
noncomputable def Rd (H:Hp) (a:Addr) (u:HO):Prop:=H a=some u\/∃ o,H a=some (.frz o u)
theorem Rd.of {H:Hp} {a:Addr} {u:HO} (h:H a=some u):Rd H a u:=.inl h
theorem Rd.ok {P:Program} {w:World} {H:Hp} {h:Heap} {a:Addr} {u:HO} (r:Rd H a u) (x:HOk P w H h):ObjOk P w H h a u:=by
 rcases r with r | ⟨o,r⟩
 ·exact x a u r
 ·obtain ⟨_,q⟩:=x a _ r
  exact q
noncomputable def Mut:Option HO->Prop
 | some (.lst _)=>True
 | some (.dK _)=>True
 | some (.dT _)=>True
 | some (.set _ _)=>True
 | some (.ins _ _ _)=>True
 | some (.ext _)=>True
 | _=>False
section
variable {P:Program} {w:World} {H:Hp} {h h':Heap} {x e:Addr} {o':HO}
theorem HOk.write (ok:HOk P w H h) (mu:Mut (H x)) (he:e=x\/H e=some (.own x)) (k:∀ b u,b≠e->h.get? b=some u->h'.get? b=some u) (heo:∃ u,h'.get? e=some u)
 (new:ObjOk P w (upd H x o') h' x o'):HOk P w (upd H x o') h':=fun b u q=>by
 have nown:∀ c y,H c=some (.own y)->c≠x:=fun c y r z=>by subst z;rw [r] at mu;exact mu
 have ntup:∀ c xs,H c=some (.tup xs)->c≠x:=fun c xs r z=>by subst z;rw [r] at mu;exact mu
 by_cases hb:b=x
 ·subst hb;rw [AC] at q;cases q;exact new
 ·rw [AB hb] at q
  by_cases hbe:b=e
  ·have q':H b=some (.own x):=by
    rcases he with z | z
    ·exact absurd (hbe.trans z) hb
    ·rw [hbe];exact z
   rw [q] at q';cases q'
   obtain ⟨v,hv⟩:=heo
   exact ⟨v,by rw [hbe];exact hv⟩
  ·refine (ok b u q).stay (fun c v hc r=>k c v ?_ r) (fun c r=>by rw [AB (nown c b r)];exact r) fun c xs r=>by rw [AB (ntup c xs r)];exact r
   rcases hc with rfl | hc
   ·exact hbe
   ·rintro rfl
    rcases he with z | z
    ·exact nown c b hc z
    ·rw [hc] at z;cases z;exact hb rfl
end
structure Un (fs ex:List Addr) (H H':Hp) (h h':Heap):Prop where
 keep:∀ b o,h.get? b=some o->H b=none->b∉fs->b∉ex->h'.get? b=some o
 slot:∀ b o,h.get? b=some o->H b=none->b∈fs->b∉ex->∃ sl,h'.get? b=some { o with slots:=sl }
 free:∀ b o,h.get? b=some o->H b=none->b∉ex->H' b=none
 there:∀ b o,h.get? b=some o->b∉ex->∃ o',h'.get? b=some o'
 tups:∀ b xs,H b=some (.tup xs)->H' b=some (.tup xs)
 frzs:∀ b o u,H b=some (.frz o u)->H' b=some (.frz o u)
 tbls:∀ b ps,H b=some (.tbl ps)->∃ more,H' b=some (.tbl (ps++more))
section
variable {fs fs' ex ex':List Addr} {H H1 H2:Hp} {h h1 h2 h':Heap} {a x e:Addr} {o:HO}
theorem Un.any (u:Un fs ex H H1 h h1) {b:Addr} {ob:Obj} (q:h.get? b=some ob) (n:H b=none) (hx:b∉ex):∃ sl,h1.get? b=some { ob with slots:=sl }:=by
 by_cases hb:b∈fs
 ·exact u.slot b ob q n hb hx
 ·exact ⟨ob.slots,u.keep b ob q n hb hx⟩
theorem Un.trans (a:Un fs ex H H1 h h1) (b:Un fs ex H1 H2 h1 h2):Un fs ex H H2 h h2 where
 keep:=fun c ob q n hc hx=>b.keep c ob (a.keep c ob q n hc hx) (a.free c ob q n hx) hc hx
 slot:=fun c ob q n hc hx=>by
  obtain ⟨sl,e1⟩:=a.slot c ob q n hc hx
  obtain ⟨sl',e2⟩:=b.slot c _ e1 (a.free c ob q n hx) hc hx
  exact ⟨sl',e2⟩
 free:=fun c ob q n hx=>by
  obtain ⟨o',e1⟩:=a.there c ob q hx
  exact b.free c o' e1 (a.free c ob q n hx) hx
 there:=fun c ob q hx=>by
  obtain ⟨o',e1⟩:=a.there c ob q hx
  exact b.there c o' e1 hx
 tups:=fun c xs q=>b.tups c xs (a.tups c xs q)
 frzs:=fun c ob xs q=>b.frzs c ob xs (a.frzs c ob xs q)
 tbls:=fun c ps q=>by
  obtain ⟨m1,e1⟩:=a.tbls c ps q
  obtain ⟨m2,e2⟩:=b.tbls c _ e1
  exact ⟨m1++m2,by rw [e2,Array.append_assoc]⟩
theorem Un.kept (k:∀ b u,h.get? b=some u->h'.get? b=some u):Un fs ex H H h h' :=
 ⟨fun b ob q _ _ _=>k b ob q,fun b ob q _ _ _=>⟨ob.slots,k b ob q⟩,fun _ _ _ n _=>n,fun b ob q _=>⟨ob,k b ob q⟩,fun _ _ q=>q,fun _ _ _ q=>q,fun _ ps q=>⟨#[],by rw [q];simp⟩⟩
theorem Un.refl:Un fs ex H H h h:=Un.kept fun _ _ q=>q
theorem Un.laid (k:∀ b u,h.get? b=some u->h'.get? b=some u) (hp:h.objs.size<=a) (hn:H a=none):Un fs ex H (upd H a o) h h' where
 keep:=fun b u q _ _ _=>k b u q
 slot:=fun b u q _ _ _=>⟨u.slots,k b u q⟩
 free:=fun b u q n _=>by rw [AB (Nat.ne_of_lt (Nat.lt_of_lt_of_le (Heap.lt_size q) hp))];exact n
 there:=fun b u q _=>⟨u,k b u q⟩
 tups:=fun b xs q=>by rw [AB (Av q hn)];exact q
 frzs:=fun b u xs q=>by rw [AB (Av q hn)];exact q
 tbls:=fun b ps q=>⟨#[],by rw [AB (Av q hn),q];simp⟩
theorem Un.write (mu:Mut (H x)) (he:e=x\/H e=some (.own x)) (k:∀ b u,b≠e->h.get? b=some u->h'.get? b=some u) (heo:∃ u,h'.get? e=some u):Un fs ex H (upd H x o) h h':=by
 have hx:∀ b,H b=none->b≠x:=fun b n z=>by subst z;rw [n] at mu;exact mu
 have hb:∀ b,H b=none->b≠e:=fun b n z=>by
  subst z
  rcases he with r | r
  ·exact hx b n r
  ·rw [n] at r;cases r
 have hm:∀ b u,H b=some u->¬ Mut (some u)->b≠x:=fun b u q nm z=>by subst z;rw [q] at mu;exact nm mu
 refine ⟨fun b u q n _ _=>k b u (hb b n) q,fun b u q n _ _=>⟨u.slots,k b u (hb b n) q⟩,fun b u q n _=>by rw [AB (hx b n)];exact n,fun b u q _=>?_,
  fun b xs q=>by rw [AB (hm b _ q fun z=>z)];exact q,fun b u xs q=>by rw [AB (hm b _ q fun z=>z)];exact q,fun b ps q=>⟨#[],by rw [AB (hm b _ q fun z=>z),q];simp⟩⟩
 by_cases hbe:b=e
 ·subst hbe;exact heo
 ·exact ⟨u,k b u hbe q⟩
end
noncomputable def trk (h:Heap) (H:Hp):List Addr:=(List.range h.objs.size).filter fun a=>(H a).isSome
noncomputable def Aj (h:Heap) (H:Hp):Heap:=PySem.W.hideAll h (trk h H)
theorem FD (h:Heap) (H:Hp):(Aj h H).objs.size=h.objs.size:=PySem.W.hideAll_size _ _
theorem Gw {h:Heap} {H:Hp} {b:Addr} {o:Obj} (e:h.get? b=some o) (n:H b=none):(Aj h H).get? b=some o :=
 PySem.W.hideAll_get _ e fun hm=>by
  have q:(H b).isSome=true:=(List.mem_filter.mp hm).2
  rw [n] at q;simp at q
theorem Fs {h:Heap} {H:Hp} {b:Addr} {o:Obj} (e:(Aj h H).get? b=some o):h.get? b=some o/\H b=none:=by
 have e':h.get? b=some o:=PySem.W.of_hideAll (trk h H) e
 refine ⟨e',?_⟩
 cases q:H b with
 | none=>rfl
 | some x =>
  have hm:b∈trk h H:=List.mem_filter.mpr ⟨List.mem_range.mpr (Heap.lt_size e'),by simp [q]⟩
  have z:(Aj h H).get? b=none:=PySem.W.hideAll_none (trk h H) hm
  rw [z] at e;cases e
noncomputable def HF (g h:Heap) (L:Addr):List (Addr × Obj):=(List.range h.objs.size).filterMap fun a=>if a=L\/(g.get? a).isSome=true then none else (h.get? a).map fun o=>(a,o)
noncomputable def rest (g h:Heap) (L d:Addr):List (Addr × Obj):=(HF g h L).filter fun p=>decide (p.1≠d)
structure Mod (K:W.Frag) (mg:Str->Option Value) (base:Heap):Prop where
 kin:K.In base
 glob:base.Ns mainGlobals mg
 blt:∃ mb,base.Ns builtinsNs mb/\∀ x:Str,x ≠ "__name__" -> mb x=bootBuiltins x
 nolimit:base.NoLimit
structure Cx where
 prog:Program
 w:World
 K:W.Frag
 mg:Str->Option Value
 base:Heap
 A:Around
 N:List Str
 s₀:Shared
 H₀:Hp
 env:Env
 outer:List Env
 stack:List Env
 ex:List Addr
 fn:Str->Bool
 calm:Bool
 pn:List (Addr × Obj)
 xe:Value->Shared->Prop
noncomputable def frs (l:List Env):List Addr:=l.filterMap (·.frame)
noncomputable abbrev Cx.fs (X:Cx):List Addr:=frs X.outer
noncomputable def Vis (sc:Scope) (x:Str):Prop:=sc.names.lookup x=some .local\/sc.names.lookup x=some .cell\/sc.names.lookup x=some .free
noncomputable def Loc (sc:Scope) (x:Str):Prop:=sc.names.lookup x=some .local\/sc.names.lookup x=some .cell
noncomputable def He (env:Env) (h:Heap) (m:Str->Option Value) (x:Str) (u:Value):Prop :=
 (env.kindOf x=some .local/\m x=some u)\/((env.kindOf x=some .cell\/env.kindOf x=some .free)/\∃ c,env.cells.lookup x=some c/\h.IsCell c (some u))
structure Cx.Ok (X:Cx):Prop where
 mod:Mod X.K X.mg X.base
 kind:X.env.scope.kind=.function
 glob:X.env.globals=mainGlobals
 blt:X.env.builtins=builtinsNs
 above:X.s₀.heap.objs.size<=X.env.locals
 inj:∀ x y c,X.env.cells.lookup x=some c->X.env.cells.lookup y=some c->x=y
 has:∀ x,(X.env.kindOf x=some .cell\/X.env.kindOf x=some .free)->∃ c,X.env.cells.lookup x=some c
 cab:∀ x c,X.fn x=true->X.env.cells.lookup x=some c->X.s₀.heap.objs.size<=c
 hd:X.calm=true->X.A.handled=none
 frames:X.A.frames=some X.stack
 stk:X.stack=X.outer\/(X.stack=X.env::X.outer/\X.env.frame=some X.env.locals)
 exf:∀ b∈X.ex,b≠X.env.locals/\∀ x c,X.env.cells.lookup x=some c->c≠b
 bs:∀ b o,X.base.get? b=some o->X.s₀.heap.get? b=some o/\X.H₀ b=none
 bsz:X.base.objs.size<=X.s₀.heap.objs.size
 noex:∀ b o,X.base.get? b=some o->b∉X.ex
 exfs:∀ b∈X.ex,b∉X.fs
 funs:X.s₀.heap.FunFrames X.base X.outer
 frf:∀ b∈X.fs,X.H₀ b=none
structure Inv (X:Cx) (pins:List (Addr × Obj)) (σ:List (Option V)) (H:Hp) (s:Shared):Prop where
 ok:X.Ok
 os:s.os=X.s₀.os
 bare:AllBare s.gens
 base:Un X.fs X.ex X.H₀ H X.s₀.heap s.heap
 loc:∃ m,s.heap.Ns X.env.locals m/\∀ (i:Nat) (x:Str) (v:V),X.N[i]? = some x->σ[i]? = some (some v)->Vis X.env.scope x->∃ u,RelV v u/\He X.env s.heap m x u
 cell:∀ x c,X.env.cells.lookup x=some c->∃ v,s.heap.IsCell c v
 free:H X.env.locals=none
 freeC:∀ x c,X.env.cells.lookup x=some c->H c=none
 pin:∀ p∈X.pn++pins,s.heap.get? p.1=some p.2/\H p.1=none/\p.1≠X.env.locals/\p.1∉X.fs/\∀ v,p.2.data≠.cell v
 hok:HOk X.prog X.w H s.heap
 len:σ.length=X.N.length
section
variable {X:Cx} {pins:List (Addr × Obj)} {σ:List (Option V)} {H H':Hp} {s:Shared} {h':Heap}
theorem Cx.Ok.nofr (ok:X.Ok) {b:Addr} {o:Obj} (e:X.base.get? b=some o):b∉X.fs:=fun hb=>by
 have:=(ok.funs.mem hb).1
 rw [e] at this;cases this
theorem Inv.bs (I:Inv X pins σ H s):∀ b o,X.base.get? b=some o->s.heap.get? b=some o/\H b=none:=fun b o e =>
 ⟨I.base.keep b o (I.ok.bs b o e).1 (I.ok.bs b o e).2 (I.ok.nofr e) (I.ok.noex b o e),I.base.free b o (I.ok.bs b o e).1 (I.ok.bs b o e).2 (I.ok.noex b o e)⟩
theorem Inv.bk (I:Inv X pins σ H s):∀ b o,X.base.get? b=some o->s.heap.get? b=some o:=fun b o e=>(I.bs b o e).1
theorem Inv.mod (I:Inv X pins σ H s):Mod X.K X.mg X.base:=I.ok.mod
theorem Inv.kIn (I:Inv X pins σ H s):X.K.In s.heap:=I.ok.mod.kin.keeps I.bk
theorem Inv.lt (I:Inv X pins σ H s):X.env.locals < s.heap.objs.size:=let ⟨_,hn,_⟩:=I.loc;hn.lt
theorem Inv.sz (I:Inv X pins σ H s):X.s₀.heap.objs.size<=s.heap.objs.size:=Nat.le_trans I.ok.above (Nat.le_of_lt I.lt)
theorem Inv.nofs (I:Inv X pins σ H s) {a:Addr} (h:s.heap.objs.size<=a):a∉X.fs:=fun hb=>by
 obtain ⟨_,o,ho,_⟩:=I.ok.funs.mem hb
 exact absurd (Nat.lt_of_lt_of_le (Heap.lt_size ho) (Nat.le_trans I.sz h)) (Nat.lt_irrefl _)
theorem Inv.cne (I:Inv X pins σ H s):∀ x c,X.env.cells.lookup x=some c->c≠X.env.locals:=fun x c e z=>by
 obtain ⟨v,o,ho,hd⟩:=I.cell x c e
 obtain ⟨m,⟨o',es,ep,ho',hd',_⟩,_⟩:=I.loc
 rw [z,ho'] at ho;cases ho;rw [hd'] at hd;cases hd
theorem Inv.funs (I:Inv X pins σ H s):s.heap.FunFrames X.base X.outer:=by
 have all:∀ (l:List Env),(∀ b∈frs l,b∈X.fs)->X.s₀.heap.FunFrames X.base l->s.heap.FunFrames X.base l:=by
  intro l
  induction l with
  | nil=>intro _ _;trivial
  | cons env r ih =>
   intro hs hl
   obtain ⟨hk,⟨L,o,hf,hn,ho,hd⟩,hr⟩:=hl
   have hL:L∈X.fs:=hs L (by unfold frs;rw [List.filterMap_cons,hf];exact List.mem_cons_self)
   obtain ⟨sl,e⟩:=I.base.slot L o ho (I.ok.frf L hL) hL fun z=>I.ok.exfs L z hL
   exact ⟨hk,⟨L,_,hf,hn,e,hd⟩,ih (fun b hb=>hs b (by unfold frs;rw [List.filterMap_cons,hf];exact List.mem_cons_of_mem _ hb)) hr⟩
 exact all X.outer (fun _ hb=>hb) I.ok.funs
theorem Inv.stack (I:Inv X pins σ H s):s.heap.FunFrames X.base X.stack:=by
 rcases I.ok.stk with e | ⟨e,hf⟩
 ·rw [e];exact I.funs
 ·rw [e]
  obtain ⟨m,hn,_⟩:=I.loc
  refine .cons (by rw [I.ok.kind];decide) hf hn ?_ I.funs
  exact Heap.get?_none_of_le (Nat.le_trans I.ok.bsz I.ok.above)
theorem Inv.stkSub (I:Inv X pins σ H s):∀ b∈frs X.stack,b∈X.env.locals::X.fs:=fun b hb=>by
 rcases I.ok.stk with e | ⟨e,hf⟩
 ·rw [e] at hb;exact List.mem_cons_of_mem _ hb
 ·rw [e] at hb
  unfold frs at hb
  rw [List.filterMap_cons,hf] at hb
  exact hb
theorem Inv.stkFree (I:Inv X pins σ H s):∀ b∈frs X.stack,H b=none:=fun b hb=>by
 rcases List.mem_cons.mp (I.stkSub b hb) with e | hb
 ·rw [e];exact I.free
 ·obtain ⟨_,o,ho,_⟩:=I.ok.funs.mem hb
  exact I.base.free b o ho (I.ok.frf b hb) fun z=>I.ok.exfs b z hb
theorem Inv.step {g':Array GenState} {t':Nat} {d':Drawn} {ch:List Addr} (I:Inv X pins σ H s)
 (hch:∀ b∈ch,(b∈X.ex\/X.s₀.heap.objs.size<=b)/\b≠X.env.locals/\(∀ x c,X.env.cells.lookup x=some c->c≠b)/\∀ p∈X.pn++pins,p.1≠b)
 (keep:∀ b o,b≠X.env.locals->b∉X.fs->b∉ch->s.heap.get? b=some o->H b=none->h'.get? b=some o)
 (slot:∀ b o,b≠X.env.locals->b∈X.fs->b∉ch->s.heap.get? b=some o->H b=none->∃ sl,h'.get? b=some { o with slots:=sl }) (free:∀ b o,b∉ch->s.heap.get? b=some o->H b=none->H' b=none)
 (there:∀ b o,b∉ch->s.heap.get? b=some o->∃ o',h'.get? b=some o')
 (tups:∀ b xs,H b=some (.tup xs)->H' b=some (.tup xs)) (frzs:∀ b o u,H b=some (.frz o u)->H' b=some (.frz o u)) (tbls:∀ b ps,H b=some (.tbl ps)->∃ more,H' b=some (.tbl (ps++more)))
 (ns:∀ m,s.heap.Ns X.env.locals m->h'.Ns X.env.locals m) (hok:HOk X.prog X.w H' h') (hg:AllBare g') :
 Inv X pins σ H' { s with heap:=h',gens:=g',drawn:=d',toks:=t' }:=by
 have neL:∀ b o,X.s₀.heap.get? b=some o->b≠X.env.locals:=fun b o e=>Nat.ne_of_lt (Nat.lt_of_lt_of_le (Heap.lt_size e) I.ok.above)
 have neC:∀ b o,X.s₀.heap.get? b=some o->b∉X.ex->b∉ch:=fun b o e hx hb=>by
  rcases (hch b hb).1 with z | z
  ·exact hx z
  ·exact absurd (Nat.lt_of_lt_of_le (Heap.lt_size e) z) (Nat.lt_irrefl _)
 have cellK:∀ x c,X.env.cells.lookup x=some c->∀ v,s.heap.IsCell c v->h'.IsCell c v:=fun x c e v ⟨o,ho,hd⟩=>by
  have nch:c∉ch:=fun z=>(hch c z).2.2.1 x c e rfl
  by_cases hc:c∈X.fs
  ·obtain ⟨sl,q⟩:=slot c o (I.cne x c e) hc nch ho (I.freeC x c e)
   exact ⟨_,q,hd⟩
  ·exact ⟨o,keep c o (I.cne x c e) hc nch ho (I.freeC x c e),hd⟩
 refine ⟨I.ok,I.os,hg,⟨fun b o e n hb hx=>?_,fun b o e n hb hx=>?_,fun b o e n hx=>?_,fun b o e hx=>?_,fun b xs e=>tups b xs (I.base.tups b xs e),fun b o xs e=>frzs b o xs (I.base.frzs b o xs e),fun b ps e=>?_⟩,?_,fun x c e=>?_,?_,fun x c e=>?_,fun p hp=>?_,hok,I.len⟩
 ·exact keep b o (neL b o e) hb (neC b o e hx) (I.base.keep b o e n hb hx) (I.base.free b o e n hx)
 ·obtain ⟨sl,e1⟩:=I.base.slot b o e n hb hx
  obtain ⟨sl',e2⟩:=slot b _ (neL b o e) hb (neC b o e hx) e1 (I.base.free b o e n hx)
  exact ⟨sl',e2⟩
 ·obtain ⟨o',e1⟩:=I.base.there b o e hx
  exact free b o' (neC b o e hx) e1 (I.base.free b o e n hx)
 ·obtain ⟨o',e1⟩:=I.base.there b o e hx
  exact there b o' (neC b o e hx) e1
 ·obtain ⟨m1,e1⟩:=I.base.tbls b ps e
  obtain ⟨m2,e2⟩:=tbls b _ e1
  exact ⟨m1++m2,by rw [e2,Array.append_assoc]⟩
 ·obtain ⟨m,hn,hl⟩:=I.loc
  refine ⟨m,ns m hn,fun i x v e1 e2 e3=>?_⟩
  obtain ⟨u,r,l⟩:=hl i x v e1 e2 e3
  refine ⟨u,r,?_⟩
  rcases l with l | ⟨k,c,e,z⟩
  ·exact .inl l
  ·exact .inr ⟨k,c,e,cellK x c e _ z⟩
 ·obtain ⟨v,z⟩:=I.cell x c e
  exact ⟨v,cellK x c e v z⟩
 ·obtain ⟨m,⟨o,_,_,ho,_⟩,_⟩:=I.loc
  exact free _ o (fun z=>(hch _ z).2.1 rfl) ho I.free
 ·obtain ⟨v,o,ho,hd⟩:=I.cell x c e
  exact free c o (fun z=>(hch c z).2.2.1 x c e rfl) ho (I.freeC x c e)
 ·obtain ⟨e,n,ne,nf,d⟩:=I.pin p hp
  have nch:p.1∉ch:=fun z=>(hch p.1 z).2.2.2 p hp rfl
  exact ⟨keep p.1 p.2 ne nf nch e n,free p.1 p.2 nch e n,ne,nf,d⟩
theorem Inv.un {t':Nat} (I:Inv X pins σ H s) (u:Un X.fs [] H H' s.heap h') (hok:HOk X.prog X.w H' h'):Inv X pins σ H' { s with heap:=h',toks:=t' }:=by
 obtain ⟨m,⟨o,es,ep,ho,r⟩,_⟩:=id I.loc
 obtain ⟨sl,hL⟩:=u.any ho I.free (by simp)
 exact I.step (g':=s.gens) (d':=s.drawn) (ch:=[]) (fun _ z=>nomatch z) (fun b o _ hb _ e n=>u.keep b o e n hb (by simp)) (fun b o _ hb _ e n=>u.slot b o e n hb (by simp)) (fun b o _ e n=>u.free b o e n (by simp)) (fun b o _ e=>u.there b o e (by simp)) u.tups u.frzs u.tbls (fun m' hm=>by
  obtain ⟨o',es',ep',ho',r'⟩:=hm
  rw [ho] at ho';cases ho'
  exact ⟨_,es',ep',hL,r'⟩) hok I.bare
theorem Inv.call {g':Array GenState} {t':Nat} {d':Drawn} {ch:List Addr} (I:Inv X pins σ H s) (u:Un (frs X.stack) ch H H' s.heap h') (hok:HOk X.prog X.w H' h') (hg:AllBare g')
 (hch:∀ b∈ch,(b∈X.ex\/X.s₀.heap.objs.size<=b)/\b≠X.env.locals/\(∀ x c,X.env.cells.lookup x=some c->c≠b)/\∀ p∈X.pn++pins,p.1≠b) :
 Inv X pins σ H' { s with heap:=h',gens:=g',drawn:=d',toks:=t' }:=by
 obtain ⟨m,⟨o,es,ep,ho,r⟩,_⟩:=id I.loc
 obtain ⟨sl,hL⟩:=u.any ho I.free fun z=>(hch _ z).2.1 rfl
 exact I.step (ch:=ch) hch (fun b o hL hb hc e n=>u.keep b o e n (fun z=>(List.mem_cons.mp (I.stkSub b z)).elim hL hb) hc) (fun b o _ _ hc e n=>u.any e n hc) (fun b o hc e n=>u.free b o e n hc) (fun b o hc e=>u.there b o e hc) u.tups u.frzs u.tbls (fun m' hm=>by
  obtain ⟨o',es',ep',ho',r'⟩:=hm
  rw [ho] at ho';cases ho'
  exact ⟨_,es',ep',hL,r'⟩) hok hg
theorem Inv.turned {t':Nat} {it:Addr} (I:Inv X pins σ H s) (k:∀ b o,b≠it->s.heap.get? b=some o->h'.get? b=some o) (hn:H it=none) (hL:it≠X.env.locals)
 (h1:it∈X.ex\/X.s₀.heap.objs.size<=it) (h2:∀ x c,X.env.cells.lookup x=some c->c≠it) (h3:∀ p∈X.pn++pins,p.1≠it):Inv X pins σ H { s with heap:=h',toks:=t' }:=by
 have nit:∀ b u,H b=some u->b≠it:=fun b u e z=>by rw [z,hn] at e;cases e
 refine I.step (g':=s.gens) (d':=s.drawn) (ch:=[it]) (fun b hb=>?_) (fun b o _ _ hc e _=>k b o (fun z=>hc (by simp [z])) e) (fun b o _ _ hc e _=>⟨o.slots,k b o (fun z=>hc (by simp [z])) e⟩) (fun _ _ _ _ n=>n)
  (fun b o hc e=>⟨o,k b o (fun z=>hc (by simp [z])) e⟩) (fun _ _ e=>e) (fun _ _ _ e=>e) (fun b ps e=>⟨#[],by rw [e];simp⟩) (fun m hm=>?_) (fun b u e=>?_) I.bare
 ·have e:b=it:=by simpa using hb
  subst e
  exact ⟨h1,hL,h2,h3⟩
 ·obtain ⟨o,es,ep,ho,r⟩:=hm
  exact ⟨o,es,ep,k _ o (Ne.symm hL) ho,r⟩
 ·refine (I.hok b u e).stay (fun c v hc q=>k c v ?_ q) (fun _ q=>q) fun _ _ q=>q
  rcases hc with z | z
  ·rw [z];exact nit b u e
  ·exact nit c _ z
theorem Inv.tok (I:Inv X pins σ H s) (t:Nat):Inv X pins σ H { s with toks:=t }:=I.un (h':=s.heap) (t':=t) Un.refl I.hok
theorem Inv.kept {t':Nat} (I:Inv X pins σ H s) (k:∀ b u,s.heap.get? b=some u->h'.get? b=some u):Inv X pins σ H { s with heap:=h',toks:=t' }:=I.un (Un.kept k) (I.hok.kept k)
theorem Inv.laid {a:Addr} {o:HO} {t':Nat} (I:Inv X pins σ H s) (k:∀ b u,s.heap.get? b=some u->h'.get? b=some u) (hp:s.heap.objs.size<=a) (new:ObjOk X.prog X.w (upd H a o) h' a o) :
 Inv X pins σ (upd H a o) { s with heap:=h',toks:=t' }:=I.un (Un.laid k hp (I.hok.fresh hp)) (I.hok.laid k hp new)
theorem Inv.write {x e:Addr} {o:HO} {t':Nat} (I:Inv X pins σ H s) (mu:Mut (H x)) (he:e=x\/H e=some (.own x)) (k:∀ b u,b≠e->s.heap.get? b=some u->h'.get? b=some u) (heo:∃ u,h'.get? e=some u)
 (new:ObjOk X.prog X.w (upd H x o) h' x o):Inv X pins σ (upd H x o) { s with heap:=h',toks:=t' }:=I.un (Un.write mu he k heo) (I.hok.write mu he k heo new)
theorem Inv.weak {σ':List (Option V)} (I:Inv X pins σ H s) (hl:σ'.length=σ.length) (w:∀ (i:Nat) v,σ'[i]? = some (some v)->σ[i]? = some (some v)):Inv X pins σ' H s :=
 ⟨I.ok,I.os,I.bare,I.base,let ⟨m,hn,hl'⟩:=I.loc;⟨m,hn,fun i x v e1 e2 e3=>hl' i x v e1 (w i v e2) e3⟩,I.cell,I.free,I.freeC,I.pin,I.hok,hl.trans I.len⟩
theorem Inv.pins_of {pins':List (Addr × Obj)} (I:Inv X pins σ H s) (h:∀ p∈pins',s.heap.get? p.1=some p.2/\H p.1=none/\p.1≠X.env.locals/\p.1∉X.fs/\∀ v,p.2.data≠.cell v):Inv X pins' σ H s :=
 ⟨I.ok,I.os,I.bare,I.base,I.loc,I.cell,I.free,I.freeC,fun p hp=>(List.mem_append.mp hp).elim (fun z=>I.pin p (List.mem_append_left _ z)) (h p),I.hok,I.len⟩
theorem B6 {N:List Str} (hN:N.Nodup) {i j:Nat} {x:Str} (a:N[i]? = some x) (b:N[j]? = some x):i=j:=by
 obtain ⟨h1,e1⟩:=List.getElem?_eq_some_iff.mp a
 obtain ⟨h2,e2⟩:=List.getElem?_eq_some_iff.mp b
 exact (List.getElem_inj hN).mp (e1.trans e2.symm)
theorem GI {M:Model} {A:Around} {E:Value->Shared->Prop} {i:Nat} {x:Str} {v:V} {u:Value} {Q:Unit->Shared->Prop} (I:Inv X pins σ H s) (hN:X.N.Nodup) (hi:X.N[i]? = some x) (hx:Loc X.env.scope x) (r:RelV v u)
 (h:∀ s',Inv X pins (σ.set i (some v)) H s'->(∃ a,Heap.SameBut a s.heap s'.heap/\(a=X.env.locals\/X.env.cells.lookup x=some a))->Q () s') (hf:X.fn x=true\/X.env.scope.names.lookup x=some .local:=by first | exact .inl rfl | exact .inr rfl | assumption):wpAny M A (storeName X.env x u) Q E s:=by
 obtain ⟨m,hn,hl⟩:=id I.loc
 have hcls:(X.env.scope.kind == .class || (X.env.scope.kind == .module && X.env.locals != X.env.globals))=false:=by rw [I.ok.kind];rfl
 have hiσ:i < σ.length:=by rw [I.len];exact (List.getElem?_eq_some_iff.mp hi).1
 have cne:=I.cne
 have tracked:∀ {a:Addr} {h':Heap},(∃ o,s.heap.get? a=some o/\H a=none)->Heap.SameBut a s.heap h'->HOk X.prog X.w H h':=fun {a h'} ha hs b ob e=>by
  obtain ⟨_,_,hfree⟩:=ha
  refine (I.hok b ob e).stay (fun c w' hc q=>(hs.2 c ?_).trans q) (fun _ q=>q) fun _ _ q=>q
  rintro rfl
  rcases hc with rfl | hc
  ·rw [hfree] at e;cases e
  ·rw [hfree] at hc;cases hc
 rcases hx with hk | hk
 ·refine wpAny_storeName_local hk hn (fun h' hn' hs=>?_) hcls
  obtain ⟨oL,_,_,hoL,_⟩:=id hn
  refine h _ ⟨I.ok,I.os,I.bare,⟨fun b o e n hb hx=>?_,fun b o e n hb hx=>?_,I.base.free,fun b o e hx=>?_,I.base.tups,I.base.frzs,I.base.tbls⟩,⟨_,hn',fun j y v' e1 e2 e3=>?_⟩,fun y c e=>?_,I.free,I.freeC,fun p hp=>?_,tracked ⟨oL,hoL,I.free⟩ hs,by simpa using I.len⟩ ⟨_,hs,.inl rfl⟩
  ·exact (hs.2 b (Nat.ne_of_lt (Nat.lt_of_lt_of_le (Heap.lt_size e) I.ok.above))).trans (I.base.keep b o e n hb hx)
  ·obtain ⟨sl,e1⟩:=I.base.slot b o e n hb hx
   exact ⟨sl,(hs.2 b (Nat.ne_of_lt (Nat.lt_of_lt_of_le (Heap.lt_size e) I.ok.above))).trans e1⟩
  ·obtain ⟨o',e1⟩:=I.base.there b o e hx
   exact ⟨o',(hs.2 b (Nat.ne_of_lt (Nat.lt_of_lt_of_le (Heap.lt_size e) I.ok.above))).trans e1⟩
  ·by_cases hj:j=i
   ·subst hj
    rw [hi] at e1;cases e1
    rw [List.getElem?_set_self hiσ] at e2
    cases e2
    exact ⟨u,r,.inl ⟨hk,by simp⟩⟩
   ·rw [List.getElem?_set_ne (Ne.symm hj)] at e2
    obtain ⟨u',r',q⟩:=hl j y v' e1 e2 e3
    refine ⟨u',r',?_⟩
    rcases q with ⟨k,e⟩ | ⟨k,c,e,z⟩
    ·refine .inl ⟨k,?_⟩
     have:y≠x:=fun e=>hj (B6 hN e1 (e ▸ hi))
     simp [this,e]
    ·exact .inr ⟨k,c,e,z.sameBut hs (cne y c e)⟩
  ·obtain ⟨w',z⟩:=I.cell y c e
   exact ⟨w',z.sameBut hs (cne y c e)⟩
  ·obtain ⟨e,n,ne,nf,d⟩:=I.pin p hp
   exact ⟨(hs.2 p.1 ne).trans e,n,ne,nf,d⟩
 ·have hfn:X.fn x=true:=by
   rcases hf with z | z
   ·exact z
   ·rw [z] at hk;cases hk
  obtain ⟨c,hc⟩:=I.ok.has x (.inl hk)
  obtain ⟨w',z⟩:=I.cell x c hc
  refine wpAny_storeName_cell I.ok.kind hk hc z (fun h' hc' hs=>?_)
  obtain ⟨oc,hoc,hocd⟩:=id z
  refine h { s with heap:=h' } ⟨I.ok,I.os,I.bare,⟨fun b o e n hb hx=>?_,fun b o e n hb hx=>?_,I.base.free,fun b o e hx=>?_,I.base.tups,I.base.frzs,I.base.tbls⟩,⟨m,hn.sameBut hs (Ne.symm (cne x c hc)),fun j y v' e1 e2 e3=>?_⟩,fun y c' e=>?_,I.free,I.freeC,fun p hp=>?_,tracked ⟨oc,hoc,I.freeC x c hc⟩ hs,by simpa using I.len⟩ ⟨c,hs,.inr hc⟩
  ·exact (hs.2 b (Nat.ne_of_lt (Nat.lt_of_lt_of_le (Heap.lt_size e) (I.ok.cab x c hfn hc)))).trans (I.base.keep b o e n hb hx)
  ·obtain ⟨sl,e1⟩:=I.base.slot b o e n hb hx
   exact ⟨sl,(hs.2 b (Nat.ne_of_lt (Nat.lt_of_lt_of_le (Heap.lt_size e) (I.ok.cab x c hfn hc)))).trans e1⟩
  ·obtain ⟨o',e1⟩:=I.base.there b o e hx
   exact ⟨o',(hs.2 b (Nat.ne_of_lt (Nat.lt_of_lt_of_le (Heap.lt_size e) (I.ok.cab x c hfn hc)))).trans e1⟩
  ·by_cases hj:j=i
   ·subst hj
    rw [hi] at e1;cases e1
    rw [List.getElem?_set_self hiσ] at e2
    cases e2
    exact ⟨u,r,.inr ⟨.inl hk,c,hc,hc'⟩⟩
   ·rw [List.getElem?_set_ne (Ne.symm hj)] at e2
    obtain ⟨u',r',q⟩:=hl j y v' e1 e2 e3
    refine ⟨u',r',?_⟩
    rcases q with q | ⟨k,c',e,z'⟩
    ·exact .inl q
    ·refine .inr ⟨k,c',e,z'.sameBut hs ?_⟩
     rintro rfl
     exact hj (B6 hN e1 (I.ok.inj _ _ _ e hc ▸ hi))
  ·by_cases hcc:c'=c
   ·subst hcc;exact ⟨_,hc'⟩
   ·obtain ⟨w2,z2⟩:=I.cell y c' e
    exact ⟨w2,z2.sameBut hs hcc⟩
  ·obtain ⟨e,n,ne,nf,d⟩:=I.pin p hp
   refine ⟨(hs.2 p.1 ?_).trans e,n,ne,nf,d⟩
   intro q
   rw [q,hoc] at e
   have q':oc=p.2:=Option.some.inj e
   exact d w' (by rw [<- q'];exact hocd)
theorem Ca {M:Model} {A:Around} {E:Value->Shared->Prop} {i:Nat} {x:Str} {v:V} {u:Value} {Q:Unit->Shared->Prop} (I:Inv X pins σ H s) (hN:X.N.Nodup) (hi:X.N[i]? = some x) (hx:Loc X.env.scope x) (r:RelV v u)
 (h:∀ s',Inv X pins (σ.set i (some v)) H s'->Q () s') (hf:X.fn x=true\/X.env.scope.names.lookup x=some .local:=by first | exact .inl rfl | exact .inr rfl | assumption):wpAny M A (storeName X.env x u) Q E s :=
 GI I hN hi hx r (fun s' I' _=>h s' I') hf
theorem Inv.call' {s':Shared} {ch:List Addr} (I:Inv X pins σ H s) (ho:s'.os=s.os) (u:Un (frs X.stack) ch H H' s.heap s'.heap) (hok:HOk X.prog X.w H' s'.heap) (hg:AllBare s'.gens)
 (hch:∀ b∈ch,(b∈X.ex\/X.s₀.heap.objs.size<=b)/\b≠X.env.locals/\(∀ x c,X.env.cells.lookup x=some c->c≠b)/\∀ p∈X.pn++pins,p.1≠b):Inv X pins σ H' s':=by
 obtain ⟨h',g',d',t',o'⟩:=s'
 have e:o'=s.os:=ho
 subst e
 exact I.call (g':=g') (t':=t') (d':=d') u hok hg hch
end
noncomputable abbrev XK:=Value->Option Addr->Hp->Prop
noncomputable abbrev St:=List (Option V)
noncomputable abbrev VK:=V->Hp->Prop
noncomputable abbrev TE:=St->Hp->VK->Prop
noncomputable abbrev TT:=St->Hp->(Bool->Hp->Prop)->Prop
noncomputable abbrev TA:=St->Hp->(List V->Hp->Prop)->Prop
structure Ends where
 nx:St->Hp->Prop
 rt:VK
 bk:St->Hp->Prop:=fun _ _=>False
 ct:St->Hp->Prop:=fun _ _=>False
noncomputable abbrev TS:=Ends->St->Hp->Prop
noncomputable def EP (X:Cx) (pins:List (Addr × Obj)) (σ:St) (Q:VK) (u:Value) (s':Shared):Prop:=∃ v H',Inv X pins σ H' s'/\RelV v u/\Q v H'
noncomputable def TP (X:Cx) (pins:List (Addr × Obj)) (σ:St) (Q:Bool->Hp->Prop) (b:Bool) (s':Shared):Prop:=∃ H',Inv X pins σ H' s'/\Q b H'
noncomputable def AP (X:Cx) (pins:List (Addr × Obj)) (σ:St) (Q:List V->Hp->Prop) (us:List Value) (s':Shared):Prop:=∃ vs H',Inv X pins σ H' s'/\Vals vs us/\Q vs H'
noncomputable def SP (X:Cx) (pins:List (Addr × Obj)) (D:Ends) (f:Flow) (s':Shared):Prop :=
 match f with
 | .next=>∃ σ' H',Inv X pins σ' H' s'/\D.nx σ' H'
 | .brk=>∃ σ' H',Inv X pins σ' H' s'/\D.bk σ' H'
 | .cont=>∃ σ' H',Inv X pins σ' H' s'/\D.ct σ' H'
 | .ret u=>∃ v σ' H',Inv X pins σ' H' s'/\RelV v u/\D.rt v H'
noncomputable def PE (X:Cx) (e:Expr) (t:TE):Prop :=
 ∀ (pins:List (Addr × Obj)) (s:Shared) (σ:St) (H:Hp) (Q:VK),Inv X pins σ H s->t σ H Q->wpAny (model X.prog X.w) X.A (eval e X.env) (EP X pins σ Q) X.xe s
noncomputable def PT (X:Cx) (e:Expr) (t:TT):Prop :=
 ∀ (pins:List (Addr × Obj)) (s:Shared) (σ:St) (H:Hp) (Q:Bool->Hp->Prop),Inv X pins σ H s->t σ H Q->wpAny (model X.prog X.w) X.A (isTrue e X.env (eval e X.env)) (TP X pins σ Q) X.xe s
noncomputable def PW (X:Cx) (e:Expr) (t:TT):Prop :=
 ∀ (whole:Sem Value) (pins:List (Addr × Obj)) (s:Shared) (σ:St) (H:Hp) (Q:Bool->Hp->Prop),Inv X pins σ H s->t σ H Q->wpAny (model X.prog X.w) X.A (isTrue e X.env whole) (TP X pins σ Q) X.xe s
theorem PW.pt {X:Cx} {e:Expr} {t:TT} (h:PW X e t):PT X e t:=h _
noncomputable def PA (X:Cx) (es:List Expr) (t:TA):Prop :=
 ∀ (pos:Pos) (pins:List (Addr × Obj)) (s:Shared) (σ:St) (H:Hp) (Q:List V->Hp->Prop),Inv X pins σ H s->t σ H Q->wpAny (model X.prog X.w) X.A (spliced (backTo pos (starEach es X.env))) (AP X pins σ Q) X.xe s
noncomputable def PS (X:Cx) (st:Stmt) (t:TS):Prop :=
 ∀ (pins:List (Addr × Obj)) (s:Shared) (σ:St) (H:Hp) (D:Ends),Inv X pins σ H s->t D σ H->wpAny (model X.prog X.w) X.A (exec st X.env) (SP X pins D) X.xe s
noncomputable def PSs (X:Cx) (st:List Stmt) (t:TS):Prop :=
 ∀ (pins:List (Addr × Obj)) (s:Shared) (σ:St) (H:Hp) (D:Ends),Inv X pins σ H s->t D σ H->wpAny (model X.prog X.w) X.A (execs st X.env) (SP X pins D) X.xe s
theorem thn {α:Type} {t:Sem α} {Q Q':α->Shared->Prop} {M:Model} {A:Around} {E:Value->Shared->Prop} {s:Shared} (h:wpAny M A t Q E s) (hQ:∀ a s,Q a s->Q' a s):wpAny M A t Q' E s:=wpAny_mono h hQ fun _ _ x=>x
section
variable {X:Cx}
noncomputable def Db (i:Nat):TE:=fun σ H Q=>∃ v,σ[i]? = some (some v)/\Q v H
noncomputable def tC (v:V):TE:=fun _ H Q=>Q v H
theorem Do {i:Nat} {x:Str} {pos:Pos} (hN:X.N[i]? = some x) (hv:Vis X.env.scope x) (hd:(x == ("__debug__" : Str))=false:=by decide) (hcd:(x == ("__classdict__" : Str))=false:=by decide):PE X (.Name x pos) (Db i):=by
 intro pins s σ H Q I h
 obtain ⟨v,e,h⟩:=h
 obtain ⟨m,hn,hl⟩:=I.loc
 obtain ⟨u,r,l⟩:=hl i x v hN e hv
 have fin:EP X pins σ Q u s:=⟨v,H,I,r,h⟩
 rcases l with ⟨hk,hm⟩ | ⟨hk,c,hc,hcell⟩
 ·exact wpAny_Name (wpAny_loadName_local I.ok.kind hk hn hm fin) hd
 ·rcases hk with hk | hk
  ·exact wpAny_Name (wpAny_loadName_cell I.ok.kind hk hc hcell fin) hd
  ·exact wpAny_Name (wpAny_loadName_free I.ok.kind hk hc hcell fin hcd) hd
theorem AD {i j pos}:PE X (.Constant (.int i) j pos) (tC (.int i)):=fun _ _ _ H _ I h=>wpAny_Constant_int ⟨.int i,H,I.tok _,⟨_,rfl⟩,h⟩
theorem CI {b j pos}:PE X (.Constant (.bool b) j pos) (tC (.bl b)):=fun _ _ _ H _ I h=>Constant_bool ⟨.bl b,H,I,rfl,h⟩
theorem Fk {j pos}:PE X (.Constant .none j pos) (tC .non):=fun _ _ _ H _ I h=>Constant_none ⟨.non,H,I,rfl,h⟩
theorem Bu {x j pos}:PE X (.Constant (.str x) j pos) (tC (.str x)):=fun _ _ _ H _ I h=>Calls.Constant_str ⟨.str x,H,I.tok _,⟨_,rfl⟩,h⟩
noncomputable def Gl (X:Cx) (x:Str):Prop:=X.env.kindOf x=some .globalImplicit
theorem Bc {E:Value->Shared->Prop} {pins:List (Addr × Obj)} {s:Shared} {σ:St} {H:Hp} {x:Str} {u:Value} {pos:Pos} {Q:Value->Shared->Prop} (I:Inv X pins σ H s) (hg:Gl X x) (hm:X.mg x=some u) (h:Q u s)
 (hd:(x == ("__debug__" : Str))=false:=by decide):wpAny (model X.prog X.w) X.A (eval (.Name x pos) X.env) Q E s :=
 Calls.Name_function_global I.ok.kind hg (Calls.loadGlobal_global (by rw [I.ok.glob];exact I.mod.glob.keeps I.bk) hm h) hd
theorem B8 {E:Value->Shared->Prop} {pins:List (Addr × Obj)} {s:Shared} {σ:St} {H:Hp} {x:Str} {u:Value} {pos:Pos} {Q:Value->Shared->Prop} (I:Inv X pins σ H s) (hg:Gl X x) (hm:X.mg x=none) (hv:bootBuiltins x=some u) (h:Q u s)
 (hn:x ≠ "__name__":=by decide) (hd:(x == ("__debug__" : Str))=false:=by decide):wpAny (model X.prog X.w) X.A (eval (.Name x pos) X.env) Q E s:=by
 obtain ⟨mb,h1,h2⟩:=I.mod.blt
 exact Calls.Name_function_global I.ok.kind hg (Calls.loadGlobal_builtin (by rw [I.ok.glob];exact I.mod.glob.keeps I.bk) hm (by rw [I.ok.blt];exact h1.keeps I.bk) ((h2 x hn).trans hv) h) hd
theorem Au {x:Str} {v:V} {u:Value} {pos:Pos} (hg:Gl X x) (hm:X.mg x=some u) (r:RelV v u) (hd:(x == ("__debug__" : Str))=false:=by decide):PE X (.Name x pos) (tC v) :=
 fun _ _ _ H _ I h=>Bc I hg hm ⟨v,H,I,r,h⟩ hd
theorem En {x:Str} {v:V} {u:Value} {pos:Pos} (hg:Gl X x) (hm:X.mg x=none) (hv:bootBuiltins x=some u) (r:RelV v u) (hn:x ≠ "__name__":=by decide) (hd:(x == ("__debug__" : Str))=false:=by decide):PE X (.Name x pos) (tC v) :=
 fun _ _ _ H _ I h=>B8 I hg hm hv ⟨v,H,I,r,h⟩ hn hd
variable {a b:Expr} {ta tb:TE} {pos:Pos}
theorem B3 (b:Expr) {op:CmpOp} (h:op≠.In) (h2:op≠.NotIn):behindInMarks op b=false:=by
 have e1:(op == CmpOp.In)=false:=by cases op <;> first | rfl | exact absurd rfl h
 have e2:(op == CmpOp.NotIn)=false:=by cases op <;> first | rfl | exact absurd rfl h2
 cases b <;> simp [behindInMarks,e1,e2]
variable {tA tB':TT} {rest:List Expr}
noncomputable def DV (t u:TT):TT:=fun σ H Q=>t σ H fun c H1=>if c=true then u σ H1 Q else Q false H1
noncomputable def tOr (t u:TT):TT:=fun σ H Q=>t σ H fun c H1=>if c=true then Q true H1 else u σ H1 Q
noncomputable def EB (t:TT):TT:=fun σ H Q=>t σ H fun c H1=>Q (!c) H1
theorem E1 (ha:PT X a tA):PW X (.BoolOp .And [a] pos) tA:=by
 intro wh pins s σ H Q I h
 refine isTrue_and (thn (ha pins s σ H Q I h) fun c s1 e=>?_)
 cases c with
 | true=>exact isTrue_and_nil e
 | false=>exact e
theorem EJ (ha:PT X a tA):PW X (.BoolOp .Or [a] pos) tA:=by
 intro wh pins s σ H Q I h
 refine isTrue_or (thn (ha pins s σ H Q I h) fun c s1 e=>?_)
 cases c with
 | false=>exact isTrue_or_nil e
 | true=>exact e
theorem GG (ha:PT X a tA) (hb:PW X (.BoolOp .And (b::rest) pos) tB'):PW X (.BoolOp .And (a::b::rest) pos) (DV tA tB'):=by
 intro wh pins s σ H Q I h
 refine isTrue_and (thn (ha pins s σ H _ I h) fun c s1 ⟨H1,I1,q1⟩=>?_)
 cases c with
 | true=>exact hb wh pins s1 σ H1 Q I1 q1
 | false=>exact ⟨H1,I1,q1⟩
theorem FH (ha:PT X a tA) (hb:PW X (.BoolOp .Or (b::rest) pos) tB'):PW X (.BoolOp .Or (a::b::rest) pos) (tOr tA tB'):=by
 intro wh pins s σ H Q I h
 refine isTrue_or (thn (ha pins s σ H _ I h) fun c s1 ⟨H1,I1,q1⟩=>?_)
 cases c with
 | true=>exact ⟨H1,I1,q1⟩
 | false=>exact hb wh pins s1 σ H1 Q I1 q1
theorem GQ (ha:PT X a tA):PT X (.UnaryOp .Not a pos) (EB tA):=by
 intro pins s σ H Q I h
 exact isTrue_not (ha pins s σ H (fun c H1=>Q (!c) H1) I h)
noncomputable def tIf (t:TT) (ta tb:TE):TE:=fun σ H Q=>t σ H fun c H1=>if c=true then ta σ H1 Q else tb σ H1 Q
theorem D2 {c:Expr} (hc:PT X c tA) (ha:PE X a ta) (hb:PE X b tb):PE X (.IfExp c a b pos) (tIf tA ta tb):=by
 intro pins s σ H Q I h
 refine wpAny_IfExp (thn (hc pins s σ H _ I h) fun d s1 ⟨H1,I1,q1⟩=>?_)
 cases d with
 | true=>exact ha pins s1 σ H1 Q I1 q1
 | false=>exact hb pins s1 σ H1 Q I1 q1
end
noncomputable def SqL (K:W.Frag) (H:Hp) (a:Addr) (xs:List V):Prop :=
 Rd H a (.lst xs) \/
  ∃ (o:Obj) (its:Array Value) (n:Nat),K.lookup a=some o/\o.cls=.type "list" /\ o.dict=none/\o.data=.seq its n/\its.size<=sizeLine/\Vals xs its.toList
noncomputable def SqT (K:W.Frag) (H:Hp) (a:Addr) (xs:List V):Prop :=
 Rd H a (.tup xs) \/
  ∃ (o:Obj) (its:Array Value) (n:Nat),K.lookup a=some o/\o.cls=.type "tuple" /\ o.dict=none/\o.data=.seq its n/\its.size<=sizeLine/\Vals xs its.toList
noncomputable def FI:Value->Option V
 | .none=>some .non
 | .bool b=>some (.bl b)
 | .int i _=>some (.int i)
 | .str x _=>some (.str x)
 | .bytes b _=>some (.byt b)
 | .float b _=>some (.flt b)
 | .ref a=>some (.ref a)
 | .type n=>some (.ty n)
 | _=>none
theorem RelV.abs {x:V} {u:Value} (r:RelV x u):FI u=some x:=by
 cases x with
 | non=>cases r;rfl
 | bl _=>cases r;rfl
 | int _=>obtain ⟨t,rfl⟩:=r;rfl
 | str _=>obtain ⟨t,rfl⟩:=r;rfl
 | byt _=>obtain ⟨t,rfl⟩:=r;rfl
 | flt _=>obtain ⟨t,rfl⟩:=r;rfl
 | ref _=>cases r;rfl
 | ty _=>cases r;rfl
theorem RelV.inj {x y:V} {u:Value} (r:RelV x u) (q:RelV y u):x=y:=Option.some.inj (r.abs.symm.trans q.abs)
theorem Vals.inj:∀ {xs ys:List V} {us:List Value},Vals xs us->Vals ys us->xs=ys
 | _,_,_,.nil,.nil=>rfl
 | _,_,_,.cons r t,.cons r' t'=>by rw [r.inj r',Vals.inj t t']
section
variable {X:Cx} {pins:List (Addr × Obj)} {σ:St} {H:Hp} {s:Shared} {a:Addr} {xs ys:List V}
theorem SqL.of {K:W.Frag} (h:H a=some (.lst xs)):SqL K H a xs:=.inl (.inl h)
theorem SqT.of {K:W.Frag} (h:H a=some (.tup xs)):SqT K H a xs:=.inl (.inl h)
theorem Inv.list (I:Inv X pins σ H s) (h:SqL X.K H a xs):∃ its:List Value,Vals xs its/\PlainL s.heap a its.toArray/\xs.length<=sizeLine:=by
 rcases h with h | ⟨o,its,n,hk,hc,hd,hs,hz,r⟩
 ·obtain ⟨z,its,n,r,e⟩:=h.ok I.hok
  exact ⟨its,r,⟨_,n,e,rfl,rfl,rfl⟩,z⟩
 ·refine ⟨its.toList,r,⟨o,n,I.kIn a o hk,hc,hd,by simpa using hs⟩,?_⟩
  have e:=r.length
  simp only [Array.length_toList] at e
  lia
theorem Inv.tuple (I:Inv X pins σ H s) (h:SqT X.K H a xs):∃ its:List Value,Vals xs its/\IsTup s.heap a its.toArray/\xs.length<=sizeLine:=by
 rcases h with h | ⟨o,its,n,hk,hc,hdd,hs,hz,r⟩
 ·obtain ⟨z,its,r,p⟩:=h.ok I.hok
  exact ⟨its,r,p.tup,z⟩
 ·refine ⟨its.toList,r,⟨o,I.kIn a o hk,hc,n,by simpa using hs⟩,?_⟩
  have e:=r.length
  simp only [Array.length_toList] at e
  lia
theorem Inv.list_inj (I:Inv X pins σ H s) (h:SqL X.K H a xs) (h':SqL X.K H a ys):xs=ys:=by
 obtain ⟨its,r,⟨o,n,e,_,_,d⟩,_⟩:=I.list h
 obtain ⟨its',r',⟨o',n',e',_,_,d'⟩,_⟩:=I.list h'
 rw [e] at e';cases e'
 rw [d] at d'
 injection d' with d1 _
 have:its=its':=by simpa using congrArg Array.toList d1
 subst this
 exact r.inj r'
theorem Inv.tuple_inj (I:Inv X pins σ H s) (h:SqT X.K H a xs) (h':SqT X.K H a ys):xs=ys:=by
 obtain ⟨its,r,⟨o,e,_,n,d⟩,_⟩:=I.tuple h
 obtain ⟨its',r',⟨o',e',_,n',d'⟩,_⟩:=I.tuple h'
 rw [e] at e';cases e'
 rw [d] at d'
 injection d' with d1 _
 have:its=its':=by simpa using congrArg Array.toList d1
 subst this
 exact r.inj r'
end
noncomputable abbrev Cx.wish (X:Cx) (E:Value->Shared->Prop):Cx:={ X with xe:=E }
noncomputable abbrev Cx.nox (X:Cx):Cx:=X.wish fun _ _=>False
theorem Cx.Ok.wish {X:Cx} (ok:X.Ok) (E:Value->Shared->Prop):(X.wish E).Ok :=
 ⟨ok.mod,ok.kind,ok.glob,ok.blt,ok.above,ok.inj,ok.has,ok.cab,ok.hd,ok.frames,ok.stk,ok.exf,ok.bs,ok.bsz,ok.noex,ok.exfs,ok.funs,ok.frf⟩
theorem Cx.Ok.unwish {X:Cx} {E:Value->Shared->Prop} (ok:(X.wish E).Ok):X.Ok :=
 ⟨ok.mod,ok.kind,ok.glob,ok.blt,ok.above,ok.inj,ok.has,ok.cab,ok.hd,ok.frames,ok.stk,ok.exf,ok.bs,ok.bsz,ok.noex,ok.exfs,ok.funs,ok.frf⟩
section
variable {X:Cx} {pins:List (Addr × Obj)} {σ:St} {H:Hp} {s:Shared} {E:Value->Shared->Prop}
theorem Inv.wish (I:Inv X pins σ H s) (E:Value->Shared->Prop):Inv (X.wish E) pins σ H s:=⟨I.ok.wish E,I.os,I.bare,I.base,I.loc,I.cell,I.free,I.freeC,I.pin,I.hok,I.len⟩
theorem Inv.unwish (I:Inv (X.wish E) pins σ H s):Inv X pins σ H s:=⟨I.ok.unwish,I.os,I.bare,I.base,I.loc,I.cell,I.free,I.freeC,I.pin,I.hok,I.len⟩
theorem SP.unwish {D:Ends} {f:Flow} {s':Shared} (h:SP (X.wish E) pins D f s'):SP X pins D f s':=by
 cases f with
 | next=>obtain ⟨σ',H',I,q⟩:=h;exact ⟨σ',H',I.unwish,q⟩
 | brk=>obtain ⟨σ',H',I,q⟩:=h;exact ⟨σ',H',I.unwish,q⟩
 | cont=>obtain ⟨σ',H',I,q⟩:=h;exact ⟨σ',H',I.unwish,q⟩
 | ret u=>obtain ⟨v,σ',H',I,r,q⟩:=h;exact ⟨v,σ',H',I.unwish,r,q⟩
theorem PSs.nox {st:List Stmt} {t:TS} (h:PSs X.nox st t):PSs X st t:=fun pins s σ H D I hw =>
 wpAny_mono (h pins s σ H D (I.wish _) hw) (fun _ _ q=>q.unwish) fun _ _ z=>False.elim z
end
section
variable {X:Cx} {st:Stmt} {rest:List Stmt} {t u:TS} {e:Expr} {te:TE} {pos:Pos}
noncomputable def Cb:TS:=fun D σ H=>D.nx σ H
noncomputable def Cf (t u:TS):TS:=fun D σ H=>t { D with nx:=u D } σ H
theorem As:PSs X [] Cb:=fun _ _ σ H _ I h=>wpAny_execs_nil ⟨σ,H,I,h⟩
theorem AG (h1:PS X st t) (h2:PSs X rest u):PSs X (st::rest) (Cf t u):=by
 intro pins s σ H D I h
 refine wpAny_execs_cons (thn (h1 pins s σ H { D with nx:=u D } I h) fun f s1 q=>?_)
 cases f with
 | next =>
  obtain ⟨σ',H',I',q⟩:=q
  exact h2 pins s1 σ' H' D I' q
 | ret v=>exact q
 | brk=>exact q
 | cont=>exact q
theorem AI (h1:PS X st t):PSs X [st] t:=by
 intro pins s σ H D I h
 refine wpAny_execs_cons (thn (h1 pins s σ H D I h) fun f s1 q=>?_)
 cases f with
 | next=>exact wpAny_execs_nil q
 | ret v=>exact q
 | brk=>exact q
 | cont=>exact q
noncomputable def Dx (te:TE):TS:=fun D σ H=>te σ H D.rt
theorem AS (he:PE X e te):PS X (.Return (some e) pos) (Dx te):=by
 intro pins s σ H D I h
 exact wpAny_Return_some (thn (he pins s σ H _ I h) fun v s1 ⟨x,H1,I1,r1,q1⟩=>⟨x,σ,H1,I1,r1,q1⟩)
noncomputable def DJ (c:TT) (t u:TS):TS:=fun D σ H=>c σ H fun b H1=>if b=true then t D σ H1 else u D σ H1
theorem Aq {c:Expr} {a b:List Stmt} {tc:TT} (hc:PT X c tc) (ha:PSs X a t) (hb:PSs X b u):PS X (.If c a b pos) (DJ tc t u):=by
 intro pins s σ H D I h
 refine wpAny_If (thn (hc pins s σ H _ I h) fun d s1 ⟨H1,I1,q1⟩=>?_)
 cases d with
 | true=>exact ha pins s1 σ H1 D I1 q1
 | false=>exact hb pins s1 σ H1 D I1 q1
end
noncomputable abbrev TG:=V->St->Hp->(St->Hp->Prop)->Prop
noncomputable def PG (X:Cx) (target:Expr) (t:TG):Prop :=
 ∀ (pins:List (Addr × Obj)) (s:Shared) (σ:St) (H:Hp) (v:V) (u:Value) (Q:St->Hp->Prop),Inv X pins σ H s->RelV v u->t v σ H Q ->
  wpAny (model X.prog X.w) X.A (assign target X.env u) (fun _ s'=>∃ σ' H',Inv X pins σ' H' s'/\Q σ' H') X.xe s
noncomputable abbrev BM:=V->V->V->Hp->(Hp->Prop)->Prop
noncomputable def CG (X:Cx) (t:BM):Prop :=
 ∀ (pins:List (Addr × Obj)) (s:Shared) (σ:St) (H:Hp) (o i v:V) (ov iv u:Value) (Q:Hp->Prop),Inv X pins σ H s->RelV o ov->RelV i iv->RelV v u->t o i v H Q ->
  wpAny (model X.prog X.w) X.A (setItem ov iv u) (fun _ s'=>∃ H',Inv X pins σ H' s'/\Q H') X.xe s
section
variable {X:Cx} {pos:Pos}
noncomputable def Ax (i:Nat):TG:=fun v σ H Q=>Q (σ.set i (some v)) H
theorem D0 {i:Nat} {x:Str} (hN:X.N.Nodup) (hi:X.N[i]? = some x) (hx:Loc X.env.scope x) (hf:X.fn x=true\/X.env.scope.names.lookup x=some .local:=by first | exact .inl rfl | exact .inr rfl | assumption):PG X (.Name x pos) (Ax i):=by
 intro pins s σ H v u Q I r h
 exact wpAny_assign_Name (Ca I hN hi hx r (fun s' I'=>⟨_,H,I',h⟩) hf)
noncomputable def DI (to ti:TE) (t:BM):TG:=fun v σ H Q=>to σ H fun o H1=>ti σ H1 fun i H2=>t o i v H2 fun H3=>Q σ H3
theorem Bz {o i:Expr} {to ti:TE} {t:BM} (ho:PE X o to) (hi:PE X i ti) (hs:CG X t)
 (ha:∀ v,assign (.Subscript o i pos) X.env v=(do
   let ov <- holding [v] (eval o X.env)
   let iv <- holding [v,ov] (eval i X.env)
   standAt pos
   holding [v,ov,iv] (setItem ov iv v)
   release [v,ov,iv] []):=by intro _;rfl):PG X (.Subscript o i pos) (DI to ti t):=by
 intro pins s σ H v u Q I r h
 rw [ha]
 refine wpAny_bind (wpAny_holding (thn (ho pins s σ H _ I h) fun ov s1 ⟨x,H1,I1,r1,q1⟩=>?_))
 refine wpAny_bind (wpAny_holding (thn (hi pins s1 σ H1 _ I1 q1) fun iv s2 ⟨y,H2,I2,r2,q2⟩=>?_))
 refine wpAny_bind (wpAny_standAt (wpAny_bind (wpAny_holding (thn (hs pins s2 σ H2 x y v ov iv u _ I2 r1 r2 r q2) fun _ s3 ⟨H3,I3,q3⟩=>?_))))
 exact wpAny_release ⟨σ,H3,I3,q3⟩
noncomputable def CM (te:TE) (g:TG):TS:=fun D σ H=>te σ H fun x H1=>g x σ H1 D.nx
theorem Bg {tg e:Expr} {te:TE} {g:TG} (he:PE X e te) (hg:PG X tg g) (hs:swapsWithSole [tg] e pos.line X.env=pure false:=by rfl) (hw:swappedStores [tg] e X.env=pure none:=by rfl)
 (h1:(assignEach [tg] X.env).map (·.2)=[assign tg X.env]:=by rfl):PS X (.Assign [tg] e pos) (CM te g):=by
 intro pins s σ H D I h
 refine wpAny_Assign_stores (thn (he pins s σ H _ I h) fun v s1 ⟨x,H1,I1,r1,q1⟩=>?_) hs hw
 rw [h1]
 exact thn (hg pins s1 σ H1 x v _ I1 r1 q1) fun _ s2 q=>q
theorem AU {i:Nat} {x:Str} {e:Expr} {te:TE} {pos':Pos} (hN:X.N.Nodup) (hi:X.N[i]? = some x) (hx:Loc X.env.scope x) (he:PE X e te) (hs:swapsWith e (some (.Name x pos')) pos.line X.env=pure false:=by rfl) (hf:X.fn x=true\/X.env.scope.names.lookup x=some .local:=by first | exact .inl rfl | exact .inr rfl | assumption) :
 PS X (.Assign [.Name x pos'] e pos) (CM te (Ax i)):=by
 intro pins s σ H D I h
 refine wpAny_Assign_Name (thn (he pins s σ H _ I h) fun v s1 ⟨y,H1,I1,r1,q1⟩=>?_) hs
 exact Ca I1 hN hi hx r1 (fun s2 I2=>⟨_,H1,I2,q1⟩) hf
end
section
variable {X:Cx} {pos:Pos}
end
structure It where
 go:Nat->Hp->Prop
 yld:Nat->Hp->V->Hp->Prop
 stop:Nat->Hp->Prop
noncomputable def AV (X:Cx) (pins:List (Addr × Obj)) (H:Hp) (b:Addr):Prop :=
 H b=none/\b≠X.env.locals/\b∉X.fs/\(b∈X.ex\/X.s₀.heap.objs.size<=b)/\(∀ x c,X.env.cells.lookup x=some c->c≠b)/\∀ p∈X.pn++pins,p.1≠b
theorem Inv.fpOk {X:Cx} {pins:List (Addr × Obj)} {σ:St} {H H':Hp} {s:Shared} {b:Addr} (I:Inv X pins σ H s) (hb:s.heap.objs.size<=b) (hn:H' b=none):AV X pins H' b:=by
 refine ⟨hn,Nat.ne_of_gt (Nat.lt_of_lt_of_le I.lt hb),I.nofs hb,.inr (Nat.le_trans I.sz hb),fun x c e z=>?_,fun p hp z=>?_⟩
 ·obtain ⟨v,q⟩:=I.cell x c e
  exact absurd (Nat.lt_of_lt_of_le q.lt (by rw [z];exact hb)) (Nat.lt_irrefl _)
 ·exact absurd (Nat.lt_of_lt_of_le (Heap.lt_size (I.pin p hp).1) (by rw [z];exact hb)) (Nat.lt_irrefl _)
structure Turn (P:Program) (w:World) (K:W.Frag) (tg:Expr) (J:It) (fp:List Addr) (it:Addr) (tn:Nat->Heap->Prop):Prop where
 mem:it∈fp
 obj:∀ i h,tn i h->∀ b∈fp,∃ o,h.get? b=some o/\∀ v,o.data≠.cell v
 keep:∀ i h h',tn i h->(∀ b∈fp,∀ o,h.get? b=some o->h'.get? b=some o)->tn i h'
 item:∀ (X:Cx),X.prog=P->X.w=w->X.K=K->X.calm=true->∀ (i:Nat) (pins:List (Addr × Obj)) (s:Shared) (σ:St) (H:Hp) (E:Value->Shared->Prop),Inv X pins σ H s->(∀ b∈fp,AV X pins H b)->tn i s.heap->J.go i H ->
  wpAny (model P w) X.A (pyNext (.ref it)) (fun r s1=>∃ u,r=some u /\
   wpAny (model P w) X.A (letOwnedTupleGo tg (.ref it) u) (fun _ s2=>∃ x H',Inv X pins σ H' s2/\RelV x u/\J.yld i H x H'/\tn (i+1) s2.heap/\∀ b∈fp,H' b=none) E s1) E s
 done:∀ (X:Cx),X.prog=P->X.w=w->X.K=K->X.calm=true->∀ (i:Nat) (pins:List (Addr × Obj)) (s:Shared) (σ:St) (H:Hp) (E:Value->Shared->Prop),Inv X pins σ H s->(∀ b∈fp,AV X pins H b)->tn i s.heap->J.stop i H ->
  wpAny (model P w) X.A (pyNext (.ref it)) (fun r s1=>r=none/\Inv X pins σ H s1) E s
 self:∀ (A:Around) (i:Nat) (s:Shared) (Q:Value->Shared->Prop) (E:Value->Shared->Prop),tn i s.heap->Q (.ref it) s->wpAny (model P w) A (pyIter (.ref it)) Q E s
noncomputable abbrev TI:=St->Hp->(It->Hp->Prop)->Prop
noncomputable def PIE (X:Cx) (pins:List (Addr × Obj)) (σ:St) (tg:Expr) (R:It->Hp->Prop) (itv:Value) (s2:Shared):Prop :=
 ∃ (it:Addr) (fp:List Addr) (tn:Nat->Heap->Prop) (J:It) (H':Hp),itv=.ref it/\Inv X pins σ H' s2/\Turn X.prog X.w X.K tg J fp it tn/\tn 0 s2.heap/\(∀ b∈fp,AV X pins H' b)/\R J H'
noncomputable def PI (X:Cx) (tg iter:Expr) (wi:TI):Prop :=
 ∀ (pins:List (Addr × Obj)) (s:Shared) (σ:St) (H:Hp) (R:It->Hp->Prop),Inv X pins σ H s->wi σ H R ->
  wpAny (model X.prog X.w) X.A (eval iter X.env) (fun v s1=>wpAny (model X.prog X.w) X.A (pyIter v) (PIE X pins σ tg R) X.xe s1) X.xe s
theorem G7 {M:Model} {A:Around} {E:Value->Shared->Prop} {s:Shared} {tg:Expr} {it:Addr} {u:Value} {o:Obj} {n:String} {vs:Array Value} {Q:Unit->Shared->Prop} (ho:s.heap.get? it=some o) (hc:o.cls=.type n) (hd:o.data=.fields vs)
 (hn:["enumerate","zip","dict_itemiterator","dict_reverseitemiterator","odict_iterator","itertools.zip_longest","itertools.pairwise"].contains n=false) (hQ:Q () s):wpAny M A (letOwnedTupleGo tg (.ref it) u) Q E s:=by
 unfold letOwnedTupleGo
 cases tg <;> first
  | exact wpAny_pure hQ
  | (cases u <;> first
      | exact wpAny_pure hQ
      | (refine wpAny_bind (wpAny_load ho ?_)
         rw [hc,hd]
         show wpAny M A (if (["enumerate","zip","dict_itemiterator","dict_reverseitemiterator","odict_iterator","itertools.zip_longest","itertools.pairwise"].contains n && vs[0]? == some (rawInt _))=true then _ else _) Q E s
         rw [if_neg (by intro h;rw [hn,Bool.false_and] at h;cases h)]
         exact wpAny_pure hQ))
noncomputable def Itr (lo:Int) (n:Nat):It:=⟨fun i _=>i < n,fun i H x H'=>H'=H/\x=.int (lo+i),fun i _=>n<=i⟩
theorem GV {P:Program} {w:World} {K:W.Frag} {tg:Expr} (it:Addr) (lo:Int) (n:Nat):Turn P w K tg (Itr lo n) [it] it (fun i h=>IsRangeIter h it (lo+(i:Nat) * 1) ((n:Int) - (i:Nat)) 1) where
 mem:=by simp
 obj:=fun i h st b hb=>by
  have e:b=it:=by simpa using hb
  subst e
  exact ⟨_,st,fun v z=>by
   have z':Data.fields _=Data.cell v:=z
   cases z'⟩
 keep:=fun i h h' st k=>k it (by simp) _ st
 item:=by
  intro X hP hw hK hc i pins s σ H E I hf st hg
  subst hP hw hK
  obtain ⟨f0,f1,f2,f3,f4,f5⟩:=hf it (by simp)
  have W:=Walks.range (prog:=X.prog) (w:=X.w) (I.ok.hd hc) it lo 1 n
  refine W.item i s _ _ hg st fun v h' tk hv st' kk=>?_
  obtain ⟨t,rfl⟩:=hv
  have I1:Inv X pins σ H { s with heap:=h',toks:=tk }:=I.turned (fun b o hb e=>kk b o (by simpa using hb) e) f0 f1 f3 f4 f5
  refine ⟨_,rfl,G7 (s:={ s with heap:=h',toks:=tk }) (n:="range_iterator") st' rfl rfl (by decide) ⟨.int (lo+i),H,I1,⟨t,?_⟩,⟨rfl,rfl⟩,st',fun b hb=>(hf b hb).1⟩⟩
  rw [Int.mul_one]
 done:=by
  intro X hP hw hK hc i pins s σ H E I hf st hg
  subst hP hw hK
  obtain ⟨f0,f1,f2,f3,f4,f5⟩:=hf it (by simp)
  exact wpAny_pyNext_range_end (I.ok.hd hc) st (by have:n<=i:=hg;lia) fun h' eb=>⟨rfl,I.turned (t':=s.toks) (fun b o hb e=>eb b o hb e) f0 f1 f3 f4 f5⟩
 self:=fun _ _ _ _ _ st h=>wpAny_pyIter_rangeiter st h
section
variable {X:Cx} {tg:Expr}
theorem EW {pins:List (Addr × Obj)} {σ:St} {H:Hp} {s:Shared} {R:It->Hp->Prop} {E:Value->Shared->Prop} {lo hi:Int} {t u v:Tok} {tk:Nat} (I:Inv X pins σ H s) (h1 : -(2 ^ 62)<=lo) (h2:lo < 2 ^ 62) (h3 : -(2 ^ 62)<=hi) (h4:hi < 2 ^ 62)
 (q:R (Itr lo (hi - lo).toNat) H):wpAny (model X.prog X.w) X.A (pyIter (.ref s.heap.objs.size)) (PIE X pins σ tg R) E { s with heap:=s.heap.push { cls:=.type "range",data:=.fields #[.int lo t,.int hi u,.int 1 v] },toks:=tk }:=by
 refine wpAny_pyIter_range (IsRange.new ..) (small_one h1 h2 h3 h4) ?_
 have I1:Inv X pins σ H { s with heap:=s.heap.push { cls:=.type "range",data:=.fields #[.int lo t,.int hi u,.int 1 v] },toks:=tk }:=I.kept fun b o e=>Heap.get?_push_of_some _ e
 refine ⟨(s.heap.push { cls:=.type "range",data:=.fields #[.int lo t,.int hi u,.int 1 v] }).objs.size,[(s.heap.push { cls:=.type "range",data:=.fields #[.int lo t,.int hi u,.int 1 v] }).objs.size],_,_,H,rfl,
  I1.kept (t':=tk) fun b o e=>Heap.get?_push_of_some _ e,GV _ lo (hi - lo).toNat,?_,fun b hb=>?_,q⟩
 ·have e1:lo+((0:Nat):Int) * 1=lo:=by simp
  have e2:(((hi - lo).toNat:Nat):Int) - ((0:Nat):Int)=Builtin.Range.rangeSize lo hi 1:=by rw [rangeSize_one];split <;> lia
  show IsRangeIter _ _ (lo+((0:Nat):Int) * 1) ((((hi - lo).toNat:Nat):Int) - ((0:Nat):Int)) 1
  rw [e1,e2]
  exact Heap.get?_push_size _ rfl
 ·have e:b=(s.heap.push { cls:=.type "range",data:=.fields #[.int lo t,.int hi u,.int 1 v] }).objs.size:=by simpa using hb
  subst e
  exact I1.fpOk (Nat.le_refl _) (I1.hok.fresh (Nat.le_refl _))
noncomputable def Cw (ta:TA):TI:=fun σ H R=>ta σ H fun vs H1=>∃ j:Int,vs=[.int j] /\ -(2 ^ 62)<=j/\j < 2 ^ 62/\R (Itr 0 j.toNat) H1
theorem EE {a:Expr} {ta:TA} {p pos:Pos} (hg:Gl X "range") (hm:X.mg "range" = none) (ha:PA X [a] ta) (hs:starEach [a] X.env=[(false,eval a X.env)]:=by rfl):PI X tg (.Call (.Name "range" p) [a] [] pos) (Cw ta):=by
 intro pins s σ H R I h
 refine Call_ (B8 I hg hm boot_range (PyProof.Rows.callWith_type1 (thn (ha pos pins s σ H _ I h) fun us s1 ⟨vs,H1,I1,r1,q1⟩=>?_) hs rfl))
 obtain ⟨j,e,q1,q2,q⟩:=q1
 subst e
 cases r1 with
 | cons r rr =>
  cases rr
  obtain ⟨t,rfl⟩:=r
  exact call_range_1 (EW I1 (by lia) (by lia) q1 q2 (by simpa using q))
noncomputable def Dg (wi:TI) (g:TG) (tb:TS):TS:=fun D σ H=>wi σ H fun J H1=>∃ W:Nat->Nat->St->Hp->Prop,(∃ m,W 0 m σ H1)/\∀ i m σ H,W i m σ H ->
 (J.stop i H/\D.nx σ H)\/(J.go i H/\∃ N:St->Hp->Prop,(∀ σ' H',N σ' H'->∃ m',m' < m/\W (i+1) m' σ' H')/\∀ x H',J.yld i H x H'->g x σ H' fun σ2 H2=>tb { D with nx:=N,ct:=N,bk:=D.nx } σ2 H2)
noncomputable def AZ (fp:List Addr) (h:Heap):List (Addr × Obj):=fp.filterMap fun b=>(h.get? b).map fun o=>(b,o)
theorem BE {fp:List Addr} {h:Heap} {b:Addr} {o:Obj} (hb:b∈fp) (e:h.get? b=some o):(b,o)∈AZ fp h:=List.mem_filterMap.mpr ⟨b,hb,by rw [e];rfl⟩
theorem CU {fp:List Addr} {h:Heap} {p:Addr × Obj} (hp:p∈AZ fp h):p.1∈fp/\h.get? p.1=some p.2:=by
 obtain ⟨b,hb,e⟩:=List.mem_filterMap.mp hp
 cases q:h.get? b with
 | none=>rw [q] at e;cases e
 | some o =>
  rw [q] at e
  have e':(b,o)=p:=Option.some.inj e
  subst e'
  exact ⟨hb,q⟩
theorem Inv.pinned {pins:List (Addr × Obj)} {σ:St} {H:Hp} {s:Shared} {fp:List Addr} (I:Inv X pins σ H s) (hf:∀ b∈fp,AV X pins H b) (ho:∀ b∈fp,∃ o,s.heap.get? b=some o/\∀ v,o.data≠.cell v):Inv X (pins++AZ fp s.heap) σ H s :=
 I.pins_of fun p hp=>(List.mem_append.mp hp).elim (fun z=>I.pin p (List.mem_append_right _ z)) fun z=>by
  obtain ⟨hb,e⟩:=CU z
  obtain ⟨f0,f1,f2,_⟩:=hf p.1 hb
  obtain ⟨o,e',d⟩:=ho p.1 hb
  rw [e] at e';cases e'
  exact ⟨e,f0,f1,f2,d⟩
theorem Inv.unpinned {pins pl:List (Addr × Obj)} {σ:St} {H:Hp} {s:Shared} (I:Inv X (pins++pl) σ H s):Inv X pins σ H s:=I.pins_of fun p hp=>I.pin p (List.mem_append_right _ (List.mem_append_left _ hp))
theorem GO {iter:Expr} {body:List Stmt} {wi:TI} {g:TG} {tb:TS} {pos:Pos} (hp:PassesOwn (model X.prog X.w) X.A X.env X.xe) (hc:X.calm=true) (hi:PI X tg iter wi) (hg:PG X tg g) (hb:PSs X body tb)
 (hs:∀ x,foldedSetIterable iter X.env x=pure x:=by intro _;rfl):PS X (.For tg iter body [] pos) (Dg wi g tb):=by
 intro pins s σ H D I h
 refine wpAny_For (thn (hi pins s σ H _ I h) fun v s1 h1=>thn h1 fun itv s2 h2=>?_) hs
 obtain ⟨it,fp,tn,J,H2,e,I2,T,st2,f2,W,⟨m0,w0⟩,turn⟩:=h2
 subst e
 -- what stays true of the iterator's objects through the loop
 have stat:∀ {H':Hp},(∀ b∈fp,H' b=none)->∀ b∈fp,AV X pins H' b:=fun hn b hb=>⟨hn b hb,(f2 b hb).2⟩
 refine codeAny_forLoop_any (fun n s'=>∃ i σ' H',Inv X pins σ' H' s'/\tn i s'.heap/\(∀ b∈fp,H' b=none)/\W i n σ' H') ?_ m0 ⟨0,σ,H2,I2,st2,fun b hb=>(f2 b hb).1,w0⟩
 rintro n s3 ⟨i,σ3,H3,I3,st3,fr3,w3⟩
 rcases turn i n σ3 H3 w3 with ⟨stop,qn⟩ | ⟨go,N,hN,step⟩
 ·refine wpAny_passesOwn hp (thn (T.done X rfl rfl rfl hc i pins s3 σ3 H3 X.xe I3 (stat fr3) st3 stop) fun r s4 ⟨hr,I4⟩=>?_)
  subst hr
  exact wpAny_execs_nil ⟨σ3,H3,I4,qn⟩
 ·refine wpAny_passesOwn hp (thn (T.item X rfl rfl rfl hc i pins s3 σ3 H3 X.xe I3 (stat fr3) st3 go) fun r s4 ⟨u,hr,h4⟩=>?_)
  subst hr
  refine wpAny_passesOwn hp (thn h4 fun _ s5 ⟨x,H5,I5,r5,y5,st5,fr5⟩=>?_)
  have I5':=I5.pinned (stat fr5) (T.obj _ _ st5)
  refine wpAny_passesOwn hp (thn (hg _ s5 σ3 H5 x u _ I5' r5 (step x H5 y5)) fun _ s6 ⟨σ6,H6,I6,q6⟩=>?_)
  refine wpAny_passesOwn hp (thn (hb _ s6 σ6 H6 _ I6 q6) fun f s7 q7=>?_)
  have again:∀ {σ7:St} {H7:Hp},Inv X (pins++AZ fp s5.heap) σ7 H7 s7->N σ7 H7->∃ m,m < n/\∃ i σ' H',Inv X pins σ' H' s7/\tn i s7.heap/\(∀ b∈fp,H' b=none)/\W i m σ' H':=fun {σ7 H7} I7 n7=>by
   obtain ⟨m',hm,w7⟩:=hN σ7 H7 n7
   refine ⟨m',hm,i+1,σ7,H7,I7.unpinned,T.keep _ _ _ st5 fun b hb o e=>(I7.pin (b,o) (List.mem_append_right _ (List.mem_append_right _ (BE hb e)))).1,fun b hb=>?_,w7⟩
   obtain ⟨o,e,d⟩:=T.obj _ _ st5 b hb
   exact (I7.pin (b,o) (List.mem_append_right _ (List.mem_append_right _ (BE hb e)))).2.1
  cases f with
  | next=>obtain ⟨σ7,H7,I7,n7⟩:=q7;exact again I7 n7
  | cont=>obtain ⟨σ7,H7,I7,n7⟩:=q7;exact again I7 n7
  | brk=>obtain ⟨σ7,H7,I7,q7⟩:=q7;exact ⟨σ7,H7,I7.unpinned,q7⟩
  | ret v=>obtain ⟨x7,σ7,H7,I7,r7,q7⟩:=q7;exact ⟨x7,σ7,H7,I7.unpinned,r7,q7⟩
end
theorem G2 {lo:Int} {n:Nat} {g:TG} {tb:TS} {D:Ends} {σ:St} {H:Hp} (Pv:Nat->St->Hp->Prop) (h0:Pv 0 σ H)
 (hs:∀ i σ H,i < n->Pv i σ H->g (.int (lo+i)) σ H fun σ2 H2=>tb { D with nx:=Pv (i+1),ct:=Pv (i+1),bk:=D.nx } σ2 H2) (hd:∀ σ H,Pv n σ H->D.nx σ H) :
 ∃ W:Nat->Nat->St->Hp->Prop,(∃ m,W 0 m σ H)/\∀ i m σ H,W i m σ H ->
  ((Itr lo n).stop i H/\D.nx σ H)\/((Itr lo n).go i H/\∃ N:St->Hp->Prop,(∀ σ' H',N σ' H'->∃ m',m' < m/\W (i+1) m' σ' H')/\∀ x H',(Itr lo n).yld i H x H'->g x σ H' fun σ2 H2=>tb { D with nx:=N,ct:=N,bk:=D.nx } σ2 H2):=by
 refine ⟨fun i m σ H=>m=n - i/\i<=n/\Pv i σ H,⟨n,by simp,Nat.zero_le _,h0⟩,?_⟩
 rintro i m σ H ⟨rfl,hi,p⟩
 by_cases hlt:i < n
 ·refine .inr ⟨hlt,Pv (i+1),fun σ' H' p'=>⟨n - (i+1),by lia,rfl,hlt,p'⟩,fun x H' y=>?_⟩
  obtain ⟨e,y⟩:=y
  subst e y
  exact hs i σ _ hlt p
 ·have e:i=n:=by lia
  subst e
  exact .inl ⟨Nat.le_refl _,hd σ H p⟩
noncomputable abbrev R2:=V->V->Hp->VK->Prop
noncomputable def OpR (X:Cx) (f:Value->Value->Sem Value) (r:R2):Prop :=
 ∀ (pins:List (Addr × Obj)) (s:Shared) (σ:St) (H:Hp) (x y:V) (v u:Value) (Q:VK),Inv X pins σ H s->RelV x v->RelV y u->r x y H Q ->
  wpAny (model X.prog X.w) X.A (f v u) (EP X pins σ Q) X.xe s
noncomputable def CallR (X:Cx) (f:Value) (r:List V->Hp->VK->Prop):Prop :=
 ∀ (pins:List (Addr × Obj)) (s:Shared) (σ:St) (H:Hp) (xs:List V) (us:List Value) (Q:VK),Inv X pins σ H s->Vals xs us->r xs H Q ->
  wpAny (model X.prog X.w) X.A (call f us) (EP X pins σ Q) X.xe s
noncomputable def tOp (r:R2) (ta tb:TE):TE:=fun σ H Q=>ta σ H fun x H1=>tb σ H1 fun y H2=>r x y H2 Q
noncomputable def rI (C:Int->Int->Prop) (g:Int->Int->V):R2:=fun x y H Q=>∃ i j,x=.int i/\y=.int j/\C i j/\Q (g i j) H
noncomputable def rI0 (g:Int->Int->V):R2:=fun x y H Q=>∃ i j,x=.int i/\y=.int j/\Q (g i j) H
section
variable {X:Cx} {a b c:Expr} {ta tb tc:TE} {pos:Pos}
theorem Cu (ha:PE X a ta) (hb:PE X b tb) {pins:List (Addr × Obj)} {s:Shared} {σ:St} {H:Hp} {R:V->V->Hp->Prop} (I:Inv X pins σ H s)
 (h:ta σ H fun x H1=>tb σ H1 fun y H2=>R x y H2) {Q:Value->Shared->Prop} {f:Value->Value->Sem Value}
 (hf:∀ v u s2 x y H2,Inv X pins σ H2 s2->RelV x v->RelV y u->R x y H2->wpAny (model X.prog X.w) X.A (f v u) Q X.xe s2) :
 wpAny (model X.prog X.w) X.A (eval a X.env) (fun v s₁=>wpAny (model X.prog X.w) X.A (eval b X.env) (fun u s₂=>wpAny (model X.prog X.w) X.A (f v u) Q X.xe s₂) X.xe s₁) X.xe s:=by
 refine thn (ha pins s σ H _ I h) fun v s1 ⟨x,H1,I1,r1,q1⟩=>?_
 refine thn (hb pins s1 σ H1 _ I1 q1) fun u s2 ⟨y,H2,I2,r2,q2⟩=>?_
 exact hf v u s2 x y H2 I2 r1 r2 q2
theorem AK {op:Operator} {r:R2} (ho:OpR X (binaryOp op) r) (ha:PE X a ta) (hb:PE X b tb):PE X (.BinOp a op b pos) (tOp r ta tb):=by
 intro pins s σ H Q I h
 exact wpAny_BinOp (Cu ha hb I h fun v u s2 x y H2 I2 rx ry q=>ho pins s2 σ H2 x y v u Q I2 rx ry q)
theorem opI {f:Value->Value->Sem Value} {C:Int->Int->Prop} {g:Int->Int->Int}
 (rule:∀ (i j:Int) (t u:Tok) (s:Shared) (Q:Value->Shared->Prop) (E:Value->Shared->Prop),C i j->Q (.int (g i j) s.toks) { s with toks:=s.toks+1 } -> wpAny (model X.prog X.w) X.A (f (.int i t) (.int j u)) Q E s) :
 OpR X f (rI C fun i j=>.int (g i j)):=by
 intro pins s σ H x y v u Q I rx ry h
 obtain ⟨i,j,rfl,rfl,hc,q⟩:=h
 obtain ⟨t,rfl⟩:=rx
 obtain ⟨t',rfl⟩:=ry
 exact rule i j t t' s _ _ hc ⟨.int (g i j),H,I.tok _,⟨_,rfl⟩,q⟩
theorem Ec {f:Value->Value->Sem Value} {g:Int->Int->Int}
 (rule:∀ (i j:Int) (t u:Tok) (s:Shared) (Q:Value->Shared->Prop) (E:Value->Shared->Prop),Q (.int (g i j) s.toks) { s with toks:=s.toks+1 } -> wpAny (model X.prog X.w) X.A (f (.int i t) (.int j u)) Q E s) :
 OpR X f (rI0 fun i j=>.int (g i j)):=by
 intro pins s σ H x y v u Q I rx ry h
 obtain ⟨i,j,rfl,rfl,q⟩:=h
 obtain ⟨t,rfl⟩:=rx
 obtain ⟨t',rfl⟩:=ry
 exact rule i j t t' s _ _ ⟨.int (g i j),H,I.tok _,⟨_,rfl⟩,q⟩
theorem D7 {f:Value->Value->Sem Value} {g:Int->Int->Bool}
 (rule:∀ (i j:Int) (t u:Tok) (s:Shared) (Q:Value->Shared->Prop) (E:Value->Shared->Prop),Q (.bool (g i j)) s->wpAny (model X.prog X.w) X.A (f (.int i t) (.int j u)) Q E s) :
 OpR X f (rI0 fun i j=>.bl (g i j)):=by
 intro pins s σ H x y v u Q I rx ry h
 obtain ⟨i,j,rfl,rfl,q⟩:=h
 obtain ⟨t,rfl⟩:=rx
 obtain ⟨t',rfl⟩:=ry
 exact rule i j t t' s _ _ ⟨.bl (g i j),H,I,rfl,q⟩
noncomputable def EF (i j:Int):Prop:=0<=j/\j<=1000000/\i.natAbs < 2 ^ 64
noncomputable def CMul (i j:Int):Prop:=(-(2 ^ 64) < i/\i < 2 ^ 64)\/(-(2 ^ 64) < j/\j < 2 ^ 64)
theorem CMul.ok {i j:Int} (h:CMul i j):IntMulOk i j:=by
 rcases h with ⟨h1,h2⟩ | ⟨h1,h2⟩
 ·exact .of_left (intBits_le_64 h1 h2)
 ·exact .of_right (intBits_le_64 h1 h2)
theorem Fb:OpR X (binaryOp .Add) (rI0 fun i j=>.int (i+j)):=Ec fun _ _ _ _ _ _ _ q=>add_int q
theorem Hd:OpR X (binaryOp .Mod) (rI (fun _ j=>0 < j) fun i j=>.int (i % j)):=opI fun i j _ _ _ _ _ hc q=>by
 have h1:(0:Int) < j:=hc
 exact mod_int' (by lia) (by rw [Int.fmod_eq_emod_of_nonneg i (by lia)];exact q)
theorem Gg:OpR X (binaryOp .Pow) (rI EF fun i j=>.int (i ^ j.toNat)):=opI fun _ _ _ _ _ _ _ hc q=>pow_int_small hc.1 hc.2.1 hc.2.2 q
end
section
variable {X:Cx} {a b c:Expr} {ta tb tc:TE} {pos:Pos}
theorem EN:OpR X (compareOp .Lt) (rI0 fun i j=>.bl (decide (i < j))):=D7 fun _ _ _ _ _ _ _ q=>lt_int q
theorem Fy:OpR X (compareOp .Gt) (rI0 fun i j=>.bl (decide (j < i))):=D7 fun _ _ _ _ _ _ _ q=>gt_int q
theorem Gc {op:CmpOp} {r:R2} (ho:OpR X (compareOp op) r) (ha:PE X a ta) (hb:PE X b tb) (hm:behindInMarks op b=false):PE X (.Compare a [op] [b] pos) (tOp r ta tb):=by
 intro pins s σ H Q I h
 exact wpAny_Compare1 (Cu ha hb I h fun v u s2 x y H2 I2 rx ry q=>ho pins s2 σ H2 x y v u Q I2 rx ry q) hm
theorem Bb:(sizeLine:Nat) < 2 ^ 63:=by rw [sizeLine_eq];decide
theorem Gd:OpR X (binaryOp .Add) (fun x y H Q=>∃ i j,x=.str i/\y=.str j/\i.length+j.length<=sizeLine/\Q (.str (i++j)) H):=by
 intro pins s σ H x y v u Q I rx ry h
 obtain ⟨i,j,rfl,rfl,hz,q⟩:=h
 obtain ⟨t,rfl⟩:=rx
 obtain ⟨t',rfl⟩:=ry
 exact add_str (fun t' tk=>⟨.str (i++j),H,I.tok _,⟨_,rfl⟩,q⟩) hz
theorem GJ {x:V} {us:List Value} (r:Vals [x] us):∃ u,us=[u]/\RelV x u:=by
 cases r with
 | cons r1 r2=>cases r2;exact ⟨_,rfl,r1⟩
theorem EG {x y:V} {us:List Value} (r:Vals [x,y] us):∃ u w',us=[u,w']/\RelV x u/\RelV y w':=by
 cases r with
 | cons r1 r2 =>
  cases r2 with
  | cons r3 r4=>cases r4;exact ⟨_,_,rfl,r1,r3⟩
theorem FK (hc:X.calm=true):CallR X (.builtin "max") (fun xs H Q=>∃ i j,xs=[.int i,.int j]/\Q (.int (if j > i then j else i)) H):=by
 intro pins s σ H xs us Q I r h
 obtain ⟨i,j,rfl,q⟩:=h
 obtain ⟨u,w',rfl,⟨t,rfl⟩,⟨t',rfl⟩⟩:=EG r
 refine max_two_ints (I.ok.hd hc) fun h' tk k=>⟨_,H,I.kept k,?_,q⟩
 by_cases hj:j > i
 ·rw [if_pos hj,if_pos hj];exact ⟨_,rfl⟩
 ·rw [if_neg hj,if_neg hj];exact ⟨_,rfl⟩
noncomputable def D4 (K:W.Frag) (x:V) (H:Hp) (n:Nat):Prop :=
 match x with
 | .str y=>y.length<=sizeLine/\n=y.length
 | .byt y=>y.size<=sizeLine/\n=y.size
 | .ref p=>(∃ xs,SqL K H p xs/\n=xs.length)\/∃ xs,SqT K H p xs/\n=xs.length
 | _=>False
theorem call_len:CallR X (.builtin "len") (fun xs H Q=>∃ x n,xs=[x]/\D4 X.K x H n/\Q (.int n) H):=by
 intro pins s σ H xs us Q I r h
 obtain ⟨x,n,rfl,e,q⟩:=h
 obtain ⟨u,rfl,rx⟩:=GJ r
 have hl:=Bb
 have hs:sizeLine=16777216:=sizeLine_eq
 cases x with
 | str y =>
  obtain ⟨t,rfl⟩:=rx
  obtain ⟨hy,e'⟩:y.length<=sizeLine/\n=y.length:=e
  subst e'
  exact len_str (by lia) ⟨.int _,H,I.tok _,⟨_,rfl⟩,q⟩
 | byt y =>
  obtain ⟨t,rfl⟩:=rx
  obtain ⟨hy,e'⟩:y.size<=sizeLine/\n=y.size:=e
  subst e'
  exact PySem.W.len_bytes (by lia) ⟨.int _,H,I.tok _,⟨_,rfl⟩,q⟩
 | ref p =>
  cases rx
  have e':(∃ xs,SqL X.K H p xs/\n=xs.length)\/∃ xs,SqT X.K H p xs/\n=xs.length:=e
  rcases e' with ⟨xs,hx,e'⟩ | ⟨xs,hx,e'⟩
  ·subst e'
   obtain ⟨its,r',pl,hz⟩:=I.list hx
   have hlen:=r'.length
   exact Calls.call_len_list pl.isList (by simp only [List.size_toArray];lia) ⟨.int xs.length,H,I.tok _,⟨_,by simp only [List.size_toArray];rw [hlen]⟩,q⟩
  ·subst e'
   obtain ⟨its,r',pl,hz⟩:=I.tuple hx
   have hlen:=r'.length
   exact len_tuple pl (by simp only [List.size_toArray];lia) ⟨.int xs.length,H,I.tok _,⟨_,by simp only [List.size_toArray];rw [hlen]⟩,q⟩
 | _=>exact (show False from e).elim
end
structure ObjM (h:Heap) (x dx C:Addr) (mA:Str->Option Value):Prop where
 obj:h.get? x=some (PySem.W.instObj C dx)
 ns:h.Ns1 dx mA
 ne:dx≠x
theorem Ep {h:Heap} {dx:Addr} {mA:Str->Option Value} (n:h.Ns1 dx mA):∃ od,h.get? dx=some od/\∀ name,PySem.W.lookIn name od=some (mA name):=by
 obtain ⟨o,es,ep,ho,hd,hk,_,hm⟩:=n
 refine ⟨o,ho,fun name=>?_⟩
 have e:=hm name
 unfold nsFind findBy at e
 rw [<- Array.find?_toList] at e
 unfold PySem.W.lookIn
 rw [hd]
 dsimp only
 split
 ·rename_i y q
  rw [q] at e
  exact congrArg some e
 ·rename_i q
  rw [q] at e
  have a:es.toList.any (·.refKey)=false:=by
   rw [List.any_eq_false]
   intro y hy
   obtain ⟨z,t,hkey⟩:=hk y (Array.mem_toList_iff.mp hy)
   simp [DictEntry.refKey,hkey]
  have a':¬ es.toList.any (·.refKey)=true:=by rw [a];exact Bool.false_ne_true
  rw [if_neg a']
  exact congrArg some e
section
variable {prog:Program} {w:World} {A:Around} {E:Value->Shared->Prop} {s:Shared} {K:W.Frag} {x dx C f:Addr} {mA:Str->Option Value} {name:Str} {v:Value}
end
noncomputable def Ah (f:Str) (v:V):List (Str × V)->List (Str × V)
 | []=>[(f,v)]
 | (g,x)::r=>if g=f then (g,v)::r else (g,x)::Ah f v r
theorem DG (f g:Str) (v:V):∀ fs:List (Str × V),(Ah f v fs).lookup g=if g=f then some v else fs.lookup g
 | []=>by
  show List.lookup g [(f,v)]=_
  by_cases h:g=f
  ·have hb:(g == f)=true:=beq_iff_eq.mpr h
   simp only [List.lookup,hb,if_pos h]
  ·have hb:(g == f)=false:=beq_eq_false_iff_ne.mpr h
   simp only [List.lookup,hb,if_neg h]
 | (k,x)::r=>by
  have ih:=DG f g v r
  rw [show Ah f v ((k,x)::r)=(if k=f then (k,v)::r else (k,x)::Ah f v r) from rfl]
  by_cases hk:k=f
  ·rw [if_pos hk]
   by_cases h:g=k
   ·have hb:(g == k)=true:=beq_iff_eq.mpr h
    simp only [List.lookup,hb,if_pos (h.trans hk)]
   ·have hb:(g == k)=false:=beq_eq_false_iff_ne.mpr h
    simp only [List.lookup,hb,if_neg (fun e:g=f=>h (e.trans hk.symm))]
  ·rw [if_neg hk]
   by_cases h:g=k
   ·have hb:(g == k)=true:=beq_iff_eq.mpr h
    simp only [List.lookup,hb,if_neg (fun e:g=f=>hk (h.symm.trans e))]
   ·have hb:(g == k)=false:=beq_eq_false_iff_ne.mpr h
    simp only [List.lookup,hb]
    exact ih
theorem RelO.some_of {v:V} {o:Option Value} (r:RelO (some v) o):∃ u,o=some u/\RelV v u:=by
 cases o with
 | none=>exact (show False from r).elim
 | some u=>exact ⟨u,rfl,r⟩
theorem RelO.none_of {o:Option Value} (r:RelO none o):o=none:=by
 cases o with
 | none=>rfl
 | some u=>exact (show False from r).elim
theorem Gq {v:V} {u:Value} (r:RelV v u):PySem.W.handedIn u=true:=by
 cases v with
 | non=>cases (show u=Value.none from r);rfl
 | bl b=>cases (show u=Value.bool b from r);rfl
 | int i=>obtain ⟨t,e⟩:=(show ∃ t,u=Value.int i t from r);cases e;rfl
 | str x=>obtain ⟨t,e⟩:=(show ∃ t,u=Value.str x t from r);cases e;rfl
 | byt b=>obtain ⟨t,e⟩:=(show ∃ t,u=Value.bytes b t from r);cases e;rfl
 | flt b=>obtain ⟨t,e⟩:=(show ∃ t,u=Value.float b t from r);cases e;rfl
 | ref a=>cases (show u=Value.ref a from r);rfl
 | ty n=>cases (show u=Value.type n from r);rfl
section
variable {P:Program} {w:World} {H H':Hp} {h h':Heap} {a C dx:Addr} {fs fs':List (Str × V)}
end
structure Cls (K:W.Frag) (C:Addr):Prop where
 pg:PySem.W.plainGet K C Str.empty=true
 hd:PySem.W.hasDictIn K C=true
 po:PySem.W.plainOver K C=true
 sa:PySem.W.findIn K (.ref C) "__setattr__" = some (some (.builtin "object.__setattr__"))
theorem Cls.get {K:W.Frag} {C:Addr} (c:Cls K C) (f:Str):PySem.W.plainGet K C f=true:=c.pg
noncomputable def AW (K:W.Frag) (C:Addr) (f:Str):Prop:=PySem.W.findIn K (.ref C) f=some none
structure Con (K:W.Frag) (C:Addr) (f:Str) (v:V) (u:Value):Prop where
 at_:PySem.W.findIn K (.ref C) f=some (some u)
 rel:RelV v u
 get:PySem.W.specialIn K u "__get__" = some none
 cp:PySem.W.copiedNames.contains f=false
structure Meth (K:W.Frag) (C:Addr) (m:Str) (f:Addr):Prop where
 at_:PySem.W.findIn K (.ref C) m=some (some (.ref f))
 fn:PySem.W.isFn K (.ref f)=true
 kp:PySem.W.keepIn K (.ref f)=true
section
variable {X:Cx} {pins:List (Addr × Obj)} {σ:St} {H:Hp} {s:Shared} {a C dx:Addr} {fs:List (Str × V)} {f:Str} {v:V} {A:Around} {E:Value->Shared->Prop}
theorem E9 {prog:Program} {w:World} {env:Env} {e:Expr} {f:Str} {pos:Pos} {s:Shared} {Q:Value->Shared->Prop} (hb:attributeBase e f env (eval e env)=eval e env)
 (h:wpAny (model prog w) A (eval e env) (fun o s₁=>wpAny (model prog w) A (getAttr o f true) Q E s₁) E s):wpAny (model prog w) A (eval (.Attribute e f pos) env) Q E s :=
 Attribute_any_ h (by rw [arm_eval_Attribute,hb])
end
section
variable {X:Cx} {o e value:Expr} {f:Str} {pos pos' tpos:Pos} {ta tv:TE}
end
section
variable {X:Cx} {pins:List (Addr × Obj)} {σ:St} {H:Hp} {s:Shared} {A:Around} {E:Value->Shared->Prop} {Q:Value->Shared->Prop} {c:Value} {b:Bool}
inductive TyOf (K:W.Frag) (H:Hp):V->Value->Prop where
 | non:TyOf K H .non (.type "NoneType")
 | bl (x:Bool):TyOf K H (.bl x) (.type "bool")
 | int (i:Int):TyOf K H (.int i) (.type "int")
 | str (x:Str):TyOf K H (.str x) (.type "str")
 | flt (x:UInt64):TyOf K H (.flt x) (.type "float")
 | lst {a:Addr} {xs:List V} (e:H a=some (.lst xs)):TyOf K H (.ref a) (.type "list")
 | frz {a:Addr} {o:Obj} {xs:List V} (e:H a=some (.frz o (.lst xs))):TyOf K H (.ref a) (.type "list")
 | tup {a:Addr} {xs:List V} (e:H a=some (.tup xs)):TyOf K H (.ref a) (.type "tuple")
 | dK {a:Addr} {kvs:List (Key × V)} (e:H a=some (.dK kvs)):TyOf K H (.ref a) (.type "dict")
 | dT {a:Addr} {kvs:List (List Key × V)} (e:H a=some (.dT kvs)):TyOf K H (.ref a) (.type "dict")
 | ins {a C dx:Addr} {fs:List (Str × V)} (e:H a=some (.ins C dx fs)) (cl:Cls K C) (ha:PySem.W.findIn K (.ref C) "__class__" = some (some (.builtin "object.__class__")))
  (hn:PySem.W.specialIn K (.builtin "object.__class__") "__get__" = some (some (.builtin "getset_descriptor.__get__"))) (htk:PySem.W.takesIn K (.builtin "object.__class__")=some true)
  (hm:PySem.W.mroIn K C (.type "object")=some true):TyOf K H (.ref a) (.ref C)
end
structure Room (k:Nat) (A:Around):Prop where
 hd:A.handled=none
 dp:A.depth+3 * k+5 < recursionLimit
 un:A.units+16 * k+200 < cLine
 gd:A.guards=some []
theorem Room.mono {j k:Nat} {A:Around} (r:Room k A) (h:j<=k):Room j A:=⟨r.hd,by have:=r.dp;lia,by have:=r.un;lia,r.gd⟩
theorem Room.deeper {k:Nat} {A:Around} (r:Room (k+1) A) (env:Env):Room k (A.deeper env) :=
 ⟨r.hd,by have:=r.dp;show A.depth+1+3 * k+5 < _;lia,by have:=r.un;show A.units+3+16 * k+200 < _;lia,r.gd⟩
theorem Eo {A:Around} {C:Addr} {us:List Value} {kw:List (Str × Value)}:(A.under (.builtin "type.__call__" ⟨.ref C::us,kw⟩)).depth=A.depth+1:=by
 first | rfl | simp [Around.under,Code.weight,Code.isCreation,Code.isGuard,Code.isCaller,Code.frames,Code.isFrame,guardIds]
theorem Fd {A:Around} {C:Addr} {us:List Value} {kw:List (Str × Value)}:(A.under (.builtin "type.__call__" ⟨.ref C::us,kw⟩)).units=A.units+1:=by
 first | rfl | simp [Around.under,Code.cUnits,Code.frames,Code.isFrame]
theorem Room.make {k:Nat} {A:Around} (r:Room (k+1) A) (C:Addr) (us:List Value) (kw:List (Str × Value)):Room k (A.under (.builtin "type.__call__" ⟨.ref C::us,kw⟩)) :=
 ⟨r.hd,by have:=r.dp;rw [Eo];lia,by have:=r.un;rw [Fd];lia,by first | exact r.gd | (simpa [Around.under,Code.guards,Code.isGuard,guardIds,pushGuards] using r.gd)⟩
theorem Room.depth {k:Nat} {A:Around} (r:Room k A):A.depth < recursionLimit:=by have:=r.dp;lia
noncomputable def Du:TA:=fun _ H Q=>Q [] H
noncomputable def D5 (ta:TE) (tr:TA):TA:=fun σ H Q=>ta σ H fun x H1=>tr σ H1 fun xs H2=>Q (x::xs) H2
section
variable {X:Cx} {e:Expr} {es:List Expr} {te:TE} {t:TA} {pos:Pos}
theorem AE:PA X [] Du:=fun _ _ _ _ H Q I h=>Calls.spliced_nil ⟨[],H,I,.nil,h⟩
theorem AA (ha:PE X e te) (hr:PA X es t) (hs:starEach (e::es) X.env=(false,eval e X.env)::starEach es X.env:=by rfl):PA X (e::es) (D5 te t):=by
 intro pos pins s σ H Q I h
 rw [hs]
 show wpAny _ _ (spliced ((false,eval e X.env)::backTo pos (starEach es X.env))) _ _ s
 refine Calls.spliced_cons (thn (ha pins s σ H _ I h) fun u s1 ⟨x,H1,I1,r1,q1⟩=>?_)
 exact thn (hr pos pins s1 σ H1 _ I1 q1) fun us s2 ⟨xs,H2,I2,r2,q2⟩=>⟨x::xs,H2,I2,.cons r1 r2,q2⟩
noncomputable def C4 (t:TA):TE:=fun σ H Q=>t σ H fun xs H1=>xs.length<=sizeLine/\∀ p,H1 p=none->Q (.ref p) (upd H1 p (.tup xs))
noncomputable def Dy (t:TA):TE:=fun σ H Q=>t σ H fun xs H1=>xs.length<=sizeLine/\∀ p,H1 p=none->Q (.ref p) (upd H1 p (.lst xs))
theorem AT {x1} (h:PA X es t):PE X (.Tuple es x1 pos) (C4 t):=by
 intro pins s σ H Q I hq
 refine wpAny_Tuple_spliced (thn (h pos pins s σ H _ I hq) fun us s1 ⟨xs,H1,I1,r,z,q⟩=>⟨by rw [<- r.length];exact z,?_⟩)
 have hf:H1 s1.heap.objs.size=none:=I1.hok.fresh (Nat.le_refl _)
 refine ⟨.ref s1.heap.objs.size,upd H1 s1.heap.objs.size (.tup xs),I1.laid (t':=s1.toks) (fun b u e=>Heap.get?_push_of_some _ e) (Nat.le_refl _) ?_,rfl,q _ hf⟩
 exact ⟨z,us,r,⟨_,Heap.get?_push_size _ rfl,rfl,⟨_,rfl⟩,rfl⟩⟩
theorem BS (h:PA X es t):PE X (.List es pos) (Dy t):=by
 intro pins s σ H Q I hq
 refine wpAny_List_spliced (thn (h pos pins s σ H _ I hq) fun us s1 ⟨xs,H1,I1,r,z,q⟩=>⟨by rw [<- r.length];exact z,?_⟩)
 have hf:H1 s1.heap.objs.size=none:=I1.hok.fresh (Nat.le_refl _)
 refine ⟨.ref s1.heap.objs.size,upd H1 s1.heap.objs.size (.lst xs),I1.laid (t':=s1.toks) (fun b u e=>Heap.get?_push_of_some _ e) (Nat.le_refl _) ?_,rfl,q _ hf⟩
 exact ⟨z,us,0,r,Heap.get?_push_size _ rfl⟩
end
noncomputable abbrev Sp:=List V->Hp->VK->XK->Prop
noncomputable abbrev CXT:=List Env->Hp->Shared->XK->Value->Shared->Prop
structure Env0 (P:Program) (w:World) (K:W.Frag) (mg:Str->Option Value) (base:Heap) (A:Around) (outer:List Env) (s:Shared) (H:Hp):Prop where
 frames:A.frames=some outer
 mod:Mod K mg base
 bs:∀ b o,base.get? b=some o->s.heap.get? b=some o/\H b=none
 bsz:base.objs.size<=s.heap.objs.size
 funs:s.heap.FunFrames base outer
 frf:∀ b∈frs outer,H b=none
 hok:HOk P w H s.heap
 bare:AllBare s.gens
noncomputable def CE (outer:List Env) (P:Program) (w:World) (H:Hp) (s:Shared) (Q:VK) (u:Value) (s':Shared):Prop :=
 ∃ v H',s'.os=s.os/\AllBare s'.gens/\Un (frs outer) [] H H' s.heap s'.heap/\HOk P w H' s'.heap/\RelV v u/\Q v H'
noncomputable def CR (CX:CXT) (outer:List Env) (P:Program) (w:World) (H:Hp) (s:Shared) (Q:VK) (E:XK) (r:Result) (s':Shared):Prop :=
 match r with
 | .ok (.ret u)=>CE outer P w H s Q u s'
 | .ok _=>False
 | .error e=>CX outer H s E e s'
structure FnOk (P:Program) (w:World) (K:W.Frag) (mg:Str->Option Value) (base:Heap) (CX:CXT) (k:Nat) (f:Addr) (fd:FuncData) (ps:List Str) (sp:Sp):Prop where
 len:∀ vs H Q E,sp vs H Q E->vs.length=ps.length
 run:∀ (A:Around) (outer:List Env) (s:Shared) (H:Hp) (args:Args) (us:List Value) (vs:List V) (Q:VK) (E:XK),Room k A->Env0 P w K mg base A outer s H->BindsTo s fd args (ps.zip us)->Vals vs us->sp vs H Q E ->
  codeAny (model P w) A (.call (.ref f) args) (CR CX outer P w H s Q E) s
theorem Env0.make {P:Program} {w:World} {K:W.Frag} {mg:Str->Option Value} {base:Heap} {A:Around} {outer:List Env} {s:Shared} {H:Hp} (e:Env0 P w K mg base A outer s H) (C:Addr) (us:List Value) (kw:List (Str × Value)) :
 Env0 P w K mg base (A.under (.builtin "type.__call__" ⟨.ref C::us,kw⟩)) outer s H:=⟨by first | exact e.frames | (simpa [Around.under,Code.envs,Code.isFrame,pushEnvs] using e.frames),e.mod,e.bs,e.bsz,e.funs,e.frf,e.hok,e.bare⟩
section
variable {X:Cx} {pins:List (Addr × Obj)} {σ:St} {H:Hp} {s s':Shared}
theorem Inv.env0 (I:Inv X pins σ H s):Env0 X.prog X.w X.K X.mg X.base X.A X.stack s H :=
 ⟨I.ok.frames,I.ok.mod,I.bs,Nat.le_trans I.ok.bsz I.sz,I.stack,I.stkFree,I.hok,I.bare⟩
theorem Inv.after {Q:VK} {u:Value} (I:Inv X pins σ H s) (h:CE X.stack X.prog X.w H s Q u s'):EP X pins σ Q u s':=by
 obtain ⟨v,H',os,bare,un,hok,r,q⟩:=h
 obtain ⟨hh,g,d,t,os'⟩:=s'
 obtain rfl:os'=s.os:=os
 exact ⟨v,H',I.call (h':=hh) (g':=g) (d':=d) (t':=t) (ch:=[]) un hok bare (fun b z=>absurd z (by simp)),r,q⟩
end
noncomputable def DB (sp:Sp) (dvs:List V) (E:XK) (t:TA):TE:=fun σ H Q=>t σ H fun vs H1=>sp (vs++dvs) H1 Q E
noncomputable def Binds (K:W.Frag) (fd:FuncData) (ps:List Str) (ds:List Value):Prop :=
 ∀ (s:Shared) (us:List Value),K.In s.heap->(us++ds).length=ps.length->BindsTo s fd ⟨us,[]⟩ (ps.zip (us++ds))
theorem Binds.all {K:W.Frag} {fd:FuncData} {ps:List Str} (h:∀ us:List Value,us.length=ps.length->bindArgs fd ⟨us,[]⟩=pure (ps.zip us)):Binds K fd ps []:=fun s us _ hl=>by
 rw [List.append_nil] at hl ⊢
 exact .of_eq (h us hl)
noncomputable def CH (CX:CXT) (X:Cx) (E:XK):Prop:=∀ (pins:List (Addr × Obj)) (σ:St) (H:Hp) (s:Shared) (e:Value) (s':Shared),Inv X pins σ H s->CX X.stack H s E e s'->X.xe e s'
section
variable {X:Cx} {CX:CXT} {k:Nat} {f C:Addr} {fd:FuncData} {ps:List Str} {sp:Sp} {dvs:List V} {ds:List Value} {E:XK} {x m:Str} {p pos apos:Pos} {e o:Expr} {es:List Expr} {ta:TE} {t:TA}
theorem Fa {pins:List (Addr × Obj)} {σ:St} {H:Hp} {s:Shared} {Q:VK} {us:List Value} {vs:List V} (F:FnOk X.prog X.w X.K X.mg X.base CX k f fd ps sp) (hr:Room k X.A) (hb:Binds X.K fd ps ds) (hd:Vals dvs ds) (hx:CH CX X E)
 (I:Inv X pins σ H s) (r:Vals vs us) (h:sp (vs++dvs) H Q E):wpAny (model X.prog X.w) X.A (call (.ref f) us) (EP X pins σ Q) X.xe s:=by
 have r2:Vals (vs++dvs) (us++ds):=r.append hd
 have hl:(us++ds).length=ps.length:=by rw [<- r2.length];exact F.len _ _ _ _ h
 refine wpAny_call (codeAny_mono (F.run X.A X.stack s H ⟨us,[]⟩ (us++ds) (vs++dvs) Q E hr I.env0 (hb s us I.kIn hl) r2 h) fun r s' hq=>?_)
 cases r with
 | error e=>exact hx pins σ H s e s' I hq
 | ok fl =>
  cases fl with
  | ret u=>exact I.after hq
  | next=>exact False.elim hq
  | brk=>exact False.elim hq
  | cont=>exact False.elim hq
theorem Az (F:FnOk X.prog X.w X.K X.mg X.base CX k f fd ps sp) (hr:Room k X.A) (hg:Gl X x) (hm:X.mg x=some (.ref f)) (hk:PySem.W.keepIn X.K (.ref f)=true) (hb:Binds X.K fd ps ds) (hd:Vals dvs ds) (hx:CH CX X E)
 (ha:PA X (e::es) t) (hdb:(x == ("__debug__" : Str))=false:=by decide) (he:starEach (e::es) X.env=(false,eval e X.env)::starEach es X.env:=by rfl) (hpl:(backTo pos (starEach es X.env)).any (·.1)=false:=by rfl) :
 PE X (.Call (.Name x p) (e::es) [] pos) (DB sp dvs E t):=by
 intro pins s σ H Q I h
 refine wpAny_Call_Name_kw (Bc I hg hm ?_ hdb)
 refine PySem.W.callWith_K (h₀:=X.base) I.ok.mod.kin hk (thn (ha pos pins s σ H _ I h) fun us s1 ⟨vs,H1,I1,r,q⟩=>⟨I1.kIn,?_⟩) he hpl
 exact Fa F hr hb hd hx I1 r q
structure Mk (K:W.Frag) (C f:Addr):Prop where
 makes:PySem.W.makesIn K C=true
 init:PySem.W.findIn K (.ref C) "__init__" = some (some (.ref f))
 fn:PySem.W.isFn K (.ref f)=true
 kp:PySem.W.keepIn K (.ref C)=true
end
section
variable {X:Cx} {CX:CXT} {k:Nat} {f C:Addr} {fd:FuncData} {ps ks:List Str} {sp:Sp} {E:XK} {x m:Str} {p pos apos kpos:Pos} {e o:Expr} {es:List Expr} {kws:List Keyword} {te ta:TE} {t tk:TA} {nm:Option Str}
structure KBinds (K:W.Frag) (fd:FuncData) (ps ks:List Str) (g:List Value->List Value->List Value) (gV:List V->List V->List V):Prop where
 to:∀ (s:Shared) (us ws:List Value),K.In s.heap->(g us ws).length=ps.length->BindsTo s fd ⟨us,ks.zip ws⟩ (ps.zip (g us ws))
 rel:∀ {vs:List V} {us:List Value} {zs:List V} {ws:List Value},Vals vs us->Vals zs ws->Vals (gV vs zs) (g us ws)
variable {g:List Value->List Value->List Value} {gV:List V->List V->List V}
end
structure FnScope (N P:List Str) (sc:Scope):Prop where
 kind:sc.kind=.function
 co:sc.isCoroutine=false
 gen:sc.isGenerator=false
 nd:N.Nodup
 pre:N.take P.length=P
 par:∀ x∈P,sc.names.lookup x=some .local\/sc.names.lookup x=some .cell
 nofree:∀ y∈sc.names,y.2≠.free
theorem DT {kindOf:Str->Option NameKind} {x:Str}:∀ {binds:List (Str × Value)} {m:Str->Option Value},(∀ v,(x,v)∉binds)->bindL kindOf binds m x=m x
 | [],_,_=>rfl
 | (n,v)::r,m,h=>by
  unfold bindL
  rw [DT fun w hw=>h w (List.mem_cons_of_mem _ hw)]
  split
  ·have:x≠n:=by rintro rfl;exact h v List.mem_cons_self
   simp [this]
  ·rfl
theorem Dp {kindOf:Str->Option NameKind} {x:Str}:∀ {binds:List (Str × Value)} {m:Str->Option Value},(∀ v,(x,v)∉binds)->bindC kindOf binds m x=m x
 | [],_,_=>rfl
 | (n,v)::r,m,h=>by
  unfold bindC
  rw [Dp fun w hw=>h w (List.mem_cons_of_mem _ hw)]
  split
  ·rfl
  ·have:x≠n:=by rintro rfl;exact h v List.mem_cons_self
   simp [this]
theorem Dc {kindOf:Str->Option NameKind} {x:Str} {v:Value}:∀ {P:List Str} {vs:List Value} {i:Nat} {m:Str->Option Value},P.Nodup->P[i]? = some x->vs[i]? = some v->kindOf x=some .local ->
 bindL kindOf (P.zip vs) m x=some v
 | [],_,_,_,_,h,_,_=>by simp at h
 | _::_,[],_,_,_,_,h,_=>by simp at h
 | p::P,w::vs,0,m,nd,h1,h2,hk=>by
  simp at h1 h2;subst h1;subst h2
  show bindL kindOf ((p,w)::P.zip vs) m p=_
  unfold bindL
  rw [DT fun v hv=>(List.nodup_cons.mp nd).1 (List.of_mem_zip hv).1,if_pos hk]
  simp
 | p::P,w::vs,i+1,m,nd,h1,h2,hk=>by
  show bindL kindOf ((p,w)::P.zip vs) m x=_
  unfold bindL
  exact Dc (i:=i) (List.nodup_cons.mp nd).2 (by simpa using h1) (by simpa using h2) hk
theorem DO {kindOf:Str->Option NameKind} {x:Str} {v:Value}:∀ {P:List Str} {vs:List Value} {i:Nat} {m:Str->Option Value},P.Nodup->P[i]? = some x->vs[i]? = some v->kindOf x≠some .local ->
 bindC kindOf (P.zip vs) m x=some v
 | [],_,_,_,_,h,_,_=>by simp at h
 | _::_,[],_,_,_,_,h,_=>by simp at h
 | p::P,w::vs,0,m,nd,h1,h2,hk=>by
  simp at h1 h2;subst h1;subst h2
  show bindC kindOf ((p,w)::P.zip vs) m p=_
  unfold bindC
  rw [Dp fun v hv=>(List.nodup_cons.mp nd).1 (List.of_mem_zip hv).1,if_neg hk]
  simp
 | p::P,w::vs,i+1,m,nd,h1,h2,hk=>by
  show bindC kindOf ((p,w)::P.zip vs) m x=_
  unfold bindC
  exact DO (i:=i) (List.nodup_cons.mp nd).2 (by simpa using h1) (by simpa using h2) hk
noncomputable def An (N:List Str) (vs:List V):St:=vs.map some++List.replicate (N.length - vs.length) none
noncomputable def BH (CX:CXT) (P:Program) (w:World) (K:W.Frag) (mg:Str->Option Value) (base:Heap) (N:List Str) (qual:Str) (scope:Scope) (f:Addr) (cd:Value) (A:Around) (outer:List Env) (s:Shared) (H:Hp) (E:XK):Cx where
 prog:=P
 w:=w
 K:=K
 mg:=mg
 base:=base
 A:=A.deeper (envOfC qual scope s.heap.objs.size f cd)
 N:=N
 s₀:=s
 H₀:=H
 env:=envOfC qual scope s.heap.objs.size f cd
 outer:=outer
 stack:=envOfC qual scope s.heap.objs.size f cd::outer
 ex:=[]
 calm:=true
 fn:=fun _=>true
 pn:=[]
 xe:=fun e s'=>wpAny (model P w) (A.deeper (envOfC qual scope s.heap.objs.size f cd)) (leaving (envOfC qual scope s.heap.objs.size f cd) e) (fun _ s''=>CX outer H s E e s'') (fun e' s''=>CX outer H s E e' s'') s'
theorem EI {sc:Scope} {n:Nat} {x:Str} (h:sc.names.lookup x=some .cell):∃ c,(cellsFrom n sc.names []).lookup x=some c:=by
 have q:=PySem.W.cellsFrom_some sc.names n [] (.inl h)
 exact Option.isSome_iff_exists.mp q
theorem Fe {CX:CXT} {P:Program} {w:World} {K:W.Frag} {mg:Str->Option Value} {base:Heap} {N ps:List Str} {qual:Str} {scope:Scope} {f:Addr} {cd:Value} {A:Around} {outer:List Env} {s s1:Shared} {H:Hp} {E:XK} {us:List Value} {vs:List V}
 (S:FnScope N ps scope) (hd:A.handled=none) (e0:Env0 P w K mg base A outer s H) (hl:vs.length=ps.length) (r:Vals vs us)
 (x:InCallC s s.heap.objs.size (bindL (envOfC qual scope s.heap.objs.size f cd).kindOf (ps.zip us) fun _=>none) (cellsFrom (s.heap.objs.size+1) scope.names []) (bindC (envOfC qual scope s.heap.objs.size f cd).kindOf (ps.zip us) fun _=>none) s1) :
 Inv (BH CX P w K mg base N qual scope f cd A outer s H E) [] (An N vs) H s1:=by
 have hpl:ps.length<=N.length:=by have:=congrArg List.length S.pre;rw [List.length_take] at this;lia
 obtain ⟨h1,tk,rfl,hk⟩:=x.done
 have noA:∀ b:Addr,b∉(BH CX P w K mg base N qual scope f cd A outer s H E).ex:=fun b z=>absurd (show b∈([]:List Addr) from z) (by simp)
 refine ⟨⟨e0.mod,S.kind,rfl,rfl,Nat.le_refl _,fun y z c h1 h2=>?_,fun y hy=>?_,fun y c _ h=>?_,fun _=>hd,Around.frames_deeper e0.frames,.inr ⟨rfl,rfl⟩,fun b z=>absurd z (noA b),e0.bs,e0.bsz,fun b _ _=>noA b,fun b z=>absurd z (noA b),e0.funs,e0.frf⟩,
  rfl,e0.bare,Un.kept hk,⟨_,x.toInCall.ns,fun i y v h1 h2 h3=>?_⟩,fun y c h=>⟨_,x.cell y c h⟩,e0.hok.fresh (Nat.le_refl _),fun y c h=>?_,fun p hp=>absurd (show p∈([]:List (Addr × Obj)) from hp) (by simp),e0.hok.kept hk,?_⟩
 ·exact name_of_addr x.apart (PySem.mem_of_lookup h1) (PySem.mem_of_lookup h2)
 ·have hy:scope.names.lookup y=some .cell\/scope.names.lookup y=some .free:=hy
  rcases hy with hy | hy
  ·exact EI hy
  ·exact absurd rfl (S.nofree _ (PySem.mem_of_lookup hy))
 ·exact Nat.le_of_lt (x.above y c (PySem.mem_of_lookup h))
 ·have hi:i < vs.length:=by
   unfold An at h2
   by_cases hi:i < vs.length
   ·exact hi
   ·rw [List.getElem?_append_right (by simpa using hi)] at h2
    rw [List.getElem?_replicate] at h2
    split at h2 <;> cases h2
  have ha:vs[i]? = some v:=by
   unfold An at h2
   rw [List.getElem?_append_left (by simpa using hi),List.getElem?_map] at h2
   cases e:vs[i]? with
   | none=>rw [e] at h2;cases h2
   | some a=>rw [e] at h2;cases h2;rfl
  obtain ⟨u,hu,rv⟩:=r.get ha
  have hp:ps[i]? = some y:=by
   rw [<- S.pre,List.getElem?_take_of_lt (by lia)];exact h1
  have ndP:ps.Nodup:=by rw [<- S.pre];exact S.nd.sublist (List.take_sublist _ _)
  refine ⟨u,rv,?_⟩
  rcases S.par y (List.mem_of_getElem? hp) with k | k
  ·exact .inl ⟨k,Dc ndP hp hu k⟩
  ·obtain ⟨c,e⟩:=EI (n:=s.heap.objs.size+1) k
   refine .inr ⟨.inl k,c,e,?_⟩
   have q:=x.cell y c e
   rw [DO ndP hp hu (by show scope.names.lookup y≠_;rw [k];decide)] at q
   exact q
 ·exact e0.hok.fresh (Nat.le_of_lt (x.above y c (PySem.mem_of_lookup h)))
 ·unfold An
  show _=N.length
  rw [List.length_append,List.length_map,List.length_replicate]
  lia
theorem Fc {CX:CXT} {P:Program} {w:World} {K:W.Frag} {mg:Str->Option Value} {base:Heap} {k:Nat} {f:Addr} {name qual:Str} {params:Arguments} {body:List Stmt} {scope:Scope} {dV kV doc pm cdv ct oc:Value} {an od:Option Addr}
 {osl:Array (Option Value)} {N ps:List Str} {sp:Sp} (lk:K.lookup f=some ⟨oc,od,.func (PySem.W.fnOf name qual params body scope dV kV doc pm an cdv ct),osl⟩) (hcd:PySem.W.codeIn K cdv qual=true) (S:FnScope N ps scope)
 (len:∀ vs H Q E,sp vs H Q E->vs.length=ps.length)
 (hbody:∀ (A:Around) (outer:List Env) (s:Shared) (H:Hp) (vs:List V) (Q:VK) (E:XK),Room k (A.deeper (envOfC qual scope s.heap.objs.size f cdv))->sp vs H Q E ->
   ∃ t,PSs (BH CX P w K mg base N qual scope f cdv A outer s H E) body t/\t { nx:=fun _ H'=>Q .non H',rt:=Q } (An N vs) H) :
 FnOk P w K mg base CX (k+1) f (PySem.W.fnOf name qual params body scope dV kV doc pm an cdv ct) ps sp:=by
 refine ⟨len,fun A outer s H args us vs Q E hr e0 hb r hsp=>?_⟩
 have hl:=len _ _ _ _ hsp
 have KX:K.In s.heap:=e0.mod.kin.keeps fun b o e=>(e0.bs b o e).1
 have lim:s.heap.NoLimit:=e0.mod.nolimit.keeps fun b o e=>(e0.bs b o e).1
 have hkind:∀ y∈ps.zip us,scope.names.lookup y.1=some .local\/(scope.names.lookup y.1=some .cell/\((cellsFrom (s.heap.objs.size+1) scope.names []).lookup y.1).isSome=true):=fun ⟨n,v⟩ hy=>by
  rcases S.par n (List.of_mem_zip hy).1 with q | q
  ·exact .inl q
  ·exact .inr ⟨q,PySem.W.cellsFrom_some _ _ _ (.inl q)⟩
 refine codeAny_call_function hr.depth (KX _ _ lk) rfl S.co S.gen rfl (PySem.W.codeRec_of KX hcd) (hb _ _ _ _ ?_)
 refine wpAny_newFunctionEnv_cells S.kind hkind fun env he s1 x=>?_
 subst he
 refine ⟨lim.keeps x.toInCall.keep,codeAny_func ?_⟩
 obtain ⟨t,ht,hq⟩:=hbody A outer s H vs Q E (hr.deeper _) hsp
 have I:Inv (BH CX P w K mg base N qual scope f cdv A outer s H E) [] (An N vs) H s1:=Fe S hr.hd e0 hl r x
 refine wpAny_mono (ht [] s1 (An N vs) H _ I hq) (fun fl s' hs=>?_) fun e s' hs=>hs
 have fin:∀ {σ':St} {H':Hp} {v:V} {u:Value},Inv (BH CX P w K mg base N qual scope f cdv A outer s H E) [] σ' H' s'->RelV v u->Q v H'->CE outer P w H s Q u s' :=
  fun {σ' H' v u} J rv q=>⟨v,H',J.os,J.bare,J.base,J.hok,rv,q⟩
 cases fl with
 | ret u =>
  obtain ⟨v,σ',H',J,rv,q⟩:=hs
  exact fin J rv q
 | next =>
  obtain ⟨σ',H',J,q⟩:=hs
  exact fin (v:=V.non) (u:=Value.none) J rfl q
 | brk =>
  obtain ⟨_,_,_,q⟩:=hs
  exact False.elim q
 | cont =>
  obtain ⟨_,_,_,q⟩:=hs
  exact False.elim q
section
variable {X:Cx} {x:Str} {p pos:Pos} {e:Expr} {es:List Expr} {t:TA} {id T:String} {r:List V->Hp->VK->Prop}
noncomputable def tCB (r:List V->Hp->VK->Prop) (t:TA):TE:=fun σ H Q=>t σ H fun vs H1=>r vs H1 Q
theorem Aa (hc:CallR X (.builtin id) r) (hg:Gl X x) (hm:X.mg x=none) (hv:bootBuiltins x=some (.builtin id)) (ha:PA X (e::es) t) (hn:x ≠ "__name__":=by decide) (hdb:(x == ("__debug__" : Str))=false:=by decide)
 (he:starEach (e::es) X.env=(false,eval e X.env)::starEach es X.env:=by rfl) (hpl:(backTo pos (starEach es X.env)).any (·.1)=false:=by rfl):PE X (.Call (.Name x p) (e::es) [] pos) (tCB r t):=by
 intro pins s σ H Q I h
 refine wpAny_Call_Name_kw (B8 I hg hm hv ?_ hn hdb)
 exact PyProof.Rows.callWith_builtin1 (thn (ha pos pins s σ H _ I h) fun us s1 ⟨vs,H1,I1,r1,q1⟩=>hc pins s1 σ H1 vs us Q I1 r1 q1) he hpl
end
end L2
namespace HT
open PySem PyProof.Rows
section
open PySem.SeqAt
open PySem.AutoSeq1 (wpAny_loadPart')
open PySem.MeetsSeq PySem.MeetsSeq2 PySem.MeetsSeq3
end
section
variable {prog:Program} {w:World} {A:Around} {E:Value->Shared->Prop} {s:Shared}
theorem cat_tup {t b:Addr} {vs ws:List Value} {Q:Value->Shared->Prop} (ht:IsTup s.heap t vs.toArray) (hb:IsTup s.heap b ws.toArray) (hv:vs≠[])
 (h1:ws=[]->Q (.ref t) s) (h2:ws≠[]->Q (.ref s.heap.objs.size) { s with heap:=s.heap.push { cls:=.type "tuple",data:=.seq (vs++ws).toArray } })
 (hsz:vs.length+ws.length<=sizeLine):wpAny (model prog w) A (binaryOp .Add (.ref t) (.ref b)) Q E s:=by
 obtain ⟨⟨cls,dd,data,sl⟩,ho,hc,n,hd⟩:=id ht
 obtain ⟨⟨cls2,dd2,data2,sl2⟩,ho2,hc2,n2,hd2⟩:=id hb
 simp only at hc hd hc2 hd2
 subst hc hd hc2 hd2
 have e:vs.toArray++ws.toArray=(vs++ws).toArray:=by simp
 by_cases hw:ws=[]
 ·exact concat_meets ⟨_,ho,rfl⟩ ⟨_,ho2,rfl⟩ noFill_tuple_add seq_tuple_add PySem.F.slot_tuple_add PySem.F.entry_tuple_add (PySem.F.args_tuple_add_2 _ _)
   (tuple_addW1 t b vs.toArray ws.toArray n n2 dd dd2 sl sl2 (by simpa using hv) (by simp [hw])) ⟨ho,ho2,h1 hw⟩
 ·refine concat_meets ⟨_,ho,rfl⟩ ⟨_,ho2,rfl⟩ noFill_tuple_add seq_tuple_add PySem.F.slot_tuple_add PySem.F.entry_tuple_add (PySem.F.args_tuple_add_2 _ _)
   (tuple_addW2 t b vs.toArray ws.toArray n n2 dd dd2 sl sl2 (by simpa using hv) (by simpa using hw) (by rw [List.size_toArray,List.size_toArray];exact hsz)) ⟨ho,ho2,?_⟩
  rw [e]
  exact h2 hw
end
end HT
namespace L2
open PySem PySem.Spec PyProof.Rows
noncomputable abbrev TO:=St->Hp->(Option Int->Hp->Prop)->Prop
section
variable {X:Cx} {e:Expr} {te:TE} {lo hi:Option Expr} {tl th:TO} {pos p2:Pos}
noncomputable def C8 (K:W.Frag):R2:=fun x y H Q=>∃ a b xs ys,x=.ref a/\y=.ref b/\SqT K H a xs/\SqT K H b ys/\xs≠[]/\xs.length+ys.length<=sizeLine /\
 (ys=[]->Q (.ref a) H)/\(ys≠[]->∀ p,H p=none->Q (.ref p) (upd H p (.tup (xs++ys))))
theorem Vals.nil_iff {xs:List V} {us:List Value} (r:Vals xs us):us=[] ↔ xs=[]:=by
 cases r with
 | nil=>simp
 | cons _ _=>simp
theorem HQ:OpR X (binaryOp .Add) (C8 X.K):=by
 intro pins s σ H x y v u Q I rx ry h
 obtain ⟨a,b,xs,ys,rfl,rfl,ha,hb,hx,hz,q1,q2⟩:=h
 cases rx
 cases ry
 obtain ⟨its,r1,p1,_⟩:=I.tuple ha
 obtain ⟨its2,r2,p2,_⟩:=I.tuple hb
 refine HT.cat_tup p1 p2 (fun z=>hx (r1.nil_iff.mp z)) (fun z=>⟨.ref a,H,I,rfl,q1 (r2.nil_iff.mp z)⟩) (fun z=>?_) (by rw [<- r1.length,<- r2.length];exact hz)
 refine ⟨.ref s.heap.objs.size,_,I.laid (t':=s.toks) (o:=.tup (xs++ys)) (fun b ob q=>Heap.get?_push_of_some _ q) (Nat.le_refl _) ?_,rfl,q2 (fun w=>z (r2.nil_iff.mpr w)) _ (I.hok.fresh (Nat.le_refl _))⟩
 exact ⟨by rw [List.length_append];exact hz,_,r1.append r2,IsTupN.new _ _⟩
end
noncomputable def ixN (n:Nat) (i:Int):Option Nat:=if 0<=i then (if i < n then some i.toNat else none) else if -(n:Int)<=i then some (i+n).toNat else none
noncomputable def atI {α:Type} (xs:List α) (i:Int):Option α:=(ixN xs.length i).bind fun j=>xs[j]?
theorem Dt {n:Nat} {i:Int} {j:Nat} (h:ixN n i=some j):seqIndex? i n=some j/\j < n /\ -(n:Int)<=i/\i < n:=by
 unfold ixN at h
 by_cases h0:0<=i
 ·rw [if_pos h0] at h
  by_cases h1:i < n
  ·rw [if_pos h1] at h
   have e:i.toNat=j:=Option.some.inj h
   exact ⟨by rw [seqIndex_of h0 h1,e],by lia,by lia,h1⟩
  ·rw [if_neg h1] at h;cases h
 ·rw [if_neg h0] at h
  by_cases h1 : -(n:Int)<=i
  ·rw [if_pos h1] at h
   have e:(i+n).toNat=j:=Option.some.inj h
   exact ⟨by rw [seqIndex_neg (by lia) h1,e],by lia,h1,by lia⟩
  ·rw [if_neg h1] at h;cases h
theorem Cd {α:Type} {xs:List α} {i:Int} {v:α} (h:atI xs i=some v):∃ j,seqIndex? i xs.length=some j/\xs[j]? = some v/\j < xs.length /\ -(xs.length:Int)<=i/\i < xs.length:=by
 unfold atI at h
 cases e:ixN xs.length i with
 | none=>rw [e] at h;cases h
 | some j =>
  rw [e] at h
  obtain ⟨h1,h2,h3,h4⟩:=Dt e
  exact ⟨j,h1,h,h2,h3,h4⟩
noncomputable def Cq (b:Expr):Prop:=∀ o i,subscripted b false o i=operate [o,i] (getItem o i)
noncomputable def IxR (X:Cx) (r:R2):Prop :=
 ∀ (value slice:Expr) (pins:List (Addr × Obj)) (s:Shared) (σ:St) (H:Hp) (x y:V) (v u:Value) (Q:VK),Inv X pins σ H s->RelV x v->RelV y u->r x y H Q ->
  subscripted slice false v u=operate [v,u] (getItem v u)->wpAny (model X.prog X.w) X.A (subscriptTail value slice v u) (EP X pins σ Q) X.xe s
section
variable {X:Cx} {a b:Expr} {ta tb:TE} {pos:Pos}
theorem IxR.or {r r':R2} (h:IxR X r) (h':IxR X r'):IxR X (fun x y H Q=>r x y H Q\/r' x y H Q):=by
 intro value slice pins s σ H x y v u Q I rx ry q hs
 rcases q with q | q
 ·exact h value slice pins s σ H x y v u Q I rx ry q hs
 ·exact h' value slice pins s σ H x y v u Q I rx ry q hs
theorem Gn {r:R2} (hr:IxR X r) (ha:PE X a ta) (hb:PE X b tb) (hs:Cq b):PE X (.Subscript a b pos) (tOp r ta tb):=by
 intro pins s σ H Q I h
 exact Subscript_ (Cu ha hb I h fun v u s2 x y H2 I2 rx ry q=>hr a b pins s2 σ H2 x y v u Q I2 rx ry q (hs _ _))
noncomputable def DH (K:W.Frag):R2:=fun x y H Q=>∃ p xs i v,x=.ref p/\y=.int i/\SqL K H p xs/\atI xs i=some v/\Q v H
noncomputable def C9 (K:W.Frag):R2:=fun x y H Q=>∃ p xs i v,x=.ref p/\y=.int i/\SqT K H p xs/\atI xs i=some v/\Q v H
noncomputable def C5:R2:=fun x y H Q=>∃ z i c,x=.str z/\y=.int i/\z.length<=sizeLine/\atI z.cps.toList i=some c/\Q (.str ⟨#[c]⟩) H
theorem ix_list:IxR X (DH X.K):=by
 intro value slice pins s σ H x y v u Q I rx ry h hs
 obtain ⟨p,xs,i,z,rfl,rfl,hq,he,q⟩:=h
 cases rx
 obtain ⟨t,rfl⟩:=ry
 obtain ⟨its,r,pl,hz⟩:=I.list hq
 obtain ⟨j,h1,h2,h3,h4,h5⟩:=Cd he
 obtain ⟨w,ew,rw'⟩:=r.get h2
 have hl:=r.length
 have hn:=Bb
 have fin:EP X pins σ Q w s:=⟨z,H,I,rw',q⟩
 by_cases h0:0<=i
 ·have hj:i.toNat=j:=by
   rw [seqIndex_of h0 h5] at h1
   exact Option.some.inj h1
  exact item_listR pl.isList h0 (by lia) (by rw [hj];simpa using ew) fin hs
 ·have hj:(i+(its.toArray.size:Int)).toNat=j:=by
   rw [seqIndex_neg (by lia) h4] at h1
   rw [List.size_toArray,<- hl]
   exact Option.some.inj h1
  exact subscriptTail_builtinR (x:=w) pl.isList.typeIs slot_list_getitem.lookup
   (wpAny_getItem_list_neg (Q:=fun r s'=>r=w/\EP X pins σ Q r s') pl.isList (by lia) (by rw [List.size_toArray] <;> lia) (by lia) (by rw [hj];simpa using ew) ⟨rfl,fin⟩) hs
theorem ix_tup:IxR X (C9 X.K):=by
 intro value slice pins s σ H x y v u Q I rx ry h hs
 obtain ⟨p,xs,i,z,rfl,rfl,hq,he,q⟩:=h
 cases rx
 obtain ⟨t,rfl⟩:=ry
 obtain ⟨its,r,pl,hz⟩:=I.tuple hq
 obtain ⟨j,h1,h2,h3,h4,h5⟩:=Cd he
 obtain ⟨w,ew,rw'⟩:=r.get h2
 have hl:=r.length
 have hn:=Bb
 have fin:EP X pins σ Q w s:=⟨z,H,I,rw',q⟩
 exact subscriptTail_builtinR (x:=w) pl.typeIs slot_tuple_getitem.lookup
  (getItem_tuple (j:=j) (Q:=fun r s'=>r=w/\EP X pins σ Q r s') pl (by lia) (by lia) (by rw [List.size_toArray,<- hl];exact h1) (by simpa using ew) ⟨rfl,fin⟩) hs
theorem Ey:IxR X C5:=by
 intro value slice pins s σ H x y v u Q I rx ry h hs
 obtain ⟨z,i,c,rfl,rfl,hz,he,q⟩:=h
 obtain ⟨t,rfl⟩:=rx
 obtain ⟨t',rfl⟩:=ry
 obtain ⟨j,h1,h2,h3,h4,h5⟩:=Cd he
 have hl:z.cps.toList.length=z.length:=by simp [Str.length]
 rw [hl] at h1 h4 h5
 have hn:=Bb
 exact tail_any (typeIs_str s z t) slot_str_getitem.lookup (getItem_str (c:=c) (by
  have e1:decide (i < -(2 ^ 63:Int))=false:=decide_eq_false (by lia)
  have e2:decide (i ≥ 2 ^ 63)=false:=decide_eq_false (by lia)
  rw [e1,e2,Bool.or_false]) (by rw [h1];simpa using h2) ⟨.str ⟨#[c]⟩,H,I.tok _,⟨_,rfl⟩,q⟩) hs
noncomputable def rIx (K:W.Frag):R2:=fun x y H Q=>DH K x y H Q\/C9 K x y H Q\/C5 x y H Q
theorem ix_seq:IxR X (rIx X.K):=ix_list.or (ix_tup.or Ey)
theorem Ff (its:List Value) (n j:Nat) (u:Value):Obj.mapSeq (·.setIfInBounds j u) { cls:=.type "list",data:=.seq its.toArray n } = { cls:=.type "list",data:=.seq (its.set j u).toArray n }:=by
 simp [Obj.mapSeq]
theorem Inv.lst {pins:List (Addr × Obj)} {σ:St} {H:Hp} {s:Shared} {p:Addr} {xs:List V} (I:Inv X pins σ H s) (h:H p=some (.lst xs)) :
 ∃ (its:List Value) (n:Nat),Vals xs its/\s.heap.get? p=some { cls:=.type "list",data:=.seq its.toArray n } /\ xs.length<=sizeLine:=by
 obtain ⟨z,its,n,r,e⟩:=I.hok p _ h
 exact ⟨its,n,r,e,z⟩
theorem Inv.lstUpd {pins:List (Addr × Obj)} {σ:St} {H:Hp} {s:Shared} {p:Addr} {xs ys:List V} {its its':List Value} {n n':Nat} {f:Obj->Obj} (I:Inv X pins σ H s) (h:H p=some (.lst xs))
 (ho:s.heap.get? p=some { cls:=.type "list",data:=.seq its.toArray n }) (hf:f { cls:=.type "list",data:=.seq its.toArray n } = { cls:=.type "list",data:=.seq its'.toArray n' }) (r:Vals ys its') (hz:ys.length<=sizeLine) (t:Nat) :
 Inv X pins σ (upd H p (.lst ys)) { s with heap:=s.heap.update p f,toks:=t }:=by
 have e:(s.heap.update p f).get? p=some { cls:=.type "list",data:=.seq its'.toArray n' }:=by
  rw [Heap.get?_update_self f ho (by rw [hf] <;> rfl),hf]
 refine I.write (x:=p) (e:=p) (by rw [h];trivial) (.inl rfl) (fun b u hb q=>(Heap.get?_update_other _ _ (Ne.symm hb)).trans q) ⟨_,e⟩ ?_
 exact ⟨hz,its',n',r,e⟩
noncomputable def Ge:V->V->V->Hp->(Hp->Prop)->Prop:=fun o i v H Q=>∃ p xs k j,o=.ref p/\i=.int k/\H p=some (.lst xs)/\ixN xs.length k=some j/\Q (upd H p (.lst (xs.set j v)))
theorem HL:CG X Ge:=by
 intro pins s σ H o i v ov iv u Q I ro ri rv h
 obtain ⟨p,xs,k,j,rfl,rfl,hp,hj,q⟩:=h
 cases ro
 obtain ⟨t,rfl⟩:=ri
 obtain ⟨its,n,r,ho,hz⟩:=I.lst hp
 obtain ⟨h1,h2,h3,h4⟩:=Dt hj
 have hl:=r.length
 have hn:=Bb
 have I':Inv X pins σ (upd H p (.lst (xs.set j v))) { s with heap:=s.heap.update p (Obj.mapSeq (·.setIfInBounds j u)) } :=
  I.lstUpd hp ho (Ff its n j u) (r.set rv j) (by rw [List.length_set];exact hz) s.toks
 by_cases h0:0<=k
 ·have hk:k.toNat=j:=by
   rw [seqIndex_of h0 h4] at h1
   exact Option.some.inj h1
  exact PySem.W.ki_setAt ho h0 (by lia) (by rw [List.size_toArray,<- hl];exact h4) (by rw [hk];exact ⟨_,I',q⟩)
 ·have hk:(k+(its.toArray.size:Int)).toNat=j:=by
   rw [seqIndex_neg (by lia) h3] at h1
   rw [List.size_toArray,<- hl]
   exact Option.some.inj h1
  exact PySem.W.ki_setBack ho (by lia) (by rw [List.size_toArray,<- hl];exact h3) (by lia) (by rw [hk];exact ⟨_,I',q⟩)
noncomputable def Ag:V->Bool
 | .non=>true
 | .bl _=>true
 | .int _=>true
 | .str _=>true
 | _=>false
noncomputable def eqV:V->V->Bool
 | .non,.non=>true
 | .bl a,.bl b=>a == b
 | .bl a,.int b=>(if a then 1 else 0) == b
 | .int a,.bl b=>a == (if b then 1 else 0)
 | .int a,.int b=>a == b
 | .str a,.str b=>a == b
 | _,_=>false
theorem Ee {A:Around} {s:Shared} {y x:V} {u v:Value} (ry:RelV y u) (rx:RelV x v) (fy:Ag y=true) (fx:Ag x=true):SeqAt.EqAt A s u v (eqV y x):=by
 cases y with
 | non =>
  cases ry
  cases x with
  | non=>cases rx;exact SeqAt.EqAt.same _
  | bl b=>cases rx;exact SeqAt.EqAt.none_bool b
  | int b=>obtain ⟨t,rfl⟩:=rx;exact SeqAt.EqAt.none_int b t
  | str b=>obtain ⟨t,rfl⟩:=rx;exact SeqAt.EqAt.none_str b t
  | _=>exact absurd (show false=true from fx) Bool.false_ne_true
 | bl a =>
  cases ry
  cases x with
  | non=>cases rx;exact SeqAt.EqAt.bool_none a
  | bl b=>cases rx;exact SeqAt.EqAt.bool_bool a b
  | int b=>obtain ⟨t,rfl⟩:=rx;exact SeqAt.EqAt.bool_int a b t
  | str b=>obtain ⟨t,rfl⟩:=rx;exact SeqAt.EqAt.bool_str a b t
  | _=>exact absurd (show false=true from fx) Bool.false_ne_true
 | int a =>
  obtain ⟨t',rfl⟩:=ry
  cases x with
  | non=>cases rx;exact SeqAt.EqAt.int_none a t'
  | bl b=>cases rx;exact SeqAt.EqAt.int_bool a t' b
  | int b=>obtain ⟨t,rfl⟩:=rx;exact SeqAt.EqAt.int_int a t' b t
  | str b=>obtain ⟨t,rfl⟩:=rx;exact SeqAt.EqAt.int_str a t' b t
  | _=>exact absurd (show false=true from fx) Bool.false_ne_true
 | str a =>
  obtain ⟨t',rfl⟩:=ry
  cases x with
  | non=>cases rx;exact SeqAt.EqAt.str_none a t'
  | bl b=>cases rx;exact SeqAt.EqAt.str_bool a t' b
  | int b=>obtain ⟨t,rfl⟩:=rx;exact SeqAt.EqAt.str_int a t' b t
  | str b=>obtain ⟨t,rfl⟩:=rx;exact SeqAt.EqAt.str_str a t' b t
  | _=>exact absurd (show false=true from fx) Bool.false_ne_true
 | _=>exact absurd (show false=true from fy) Bool.false_ne_true
noncomputable def eqU (x:V) (u:Value):Bool:=match u with
 | .none=>eqV .non x
 | .bool b=>eqV (.bl b) x
 | .int i _=>eqV (.int i) x
 | .str z _=>eqV (.str z) x
 | _=>false
theorem Dd {x y:V} {u:Value} (r:RelV y u) (f:Ag y=true):eqU x u=eqV y x:=by
 cases y with
 | non=>cases r;rfl
 | bl b=>cases r;rfl
 | int i=>obtain ⟨t,rfl⟩:=r;rfl
 | str z=>obtain ⟨t,rfl⟩:=r;rfl
 | _=>exact absurd (show false=true from f) Bool.false_ne_true
theorem CL {x:V}:∀ {xs:List V} {us:List Value},Vals xs us->xs.all Ag=true->us.any (eqU x)=xs.any fun y=>eqV y x
 | _,_,.nil,_=>rfl
 | y::xs,u::us,.cons r t,f=>by
  rw [List.all_cons,Bool.and_eq_true] at f
  rw [List.any_cons,List.any_cons,Dd r f.1,CL t f.2]
theorem CF {A:Around} {s:Shared} {x:V} {v:Value} (rx:RelV x v) (fx:Ag x=true):∀ {xs:List V} {us:List Value},Vals xs us->xs.all Ag=true->∀ u∈us,SeqAt.EqAt A s u v (eqU x u)
 | _,_,.nil,_=>fun u hu=>by cases hu
 | y::xs,u::us,.cons r t,f=>fun u' hu=>by
  rw [List.all_cons,Bool.and_eq_true] at f
  rcases List.mem_cons.mp hu with rfl | hu
  ·rw [Dd r f.1];exact Ee r rx f.1 fx
  ·exact CF rx fx t f.2 u' hu
noncomputable def inV (x:V) (xs:List V):Bool:=xs.any fun y=>eqV y x
noncomputable def rIn (K:W.Frag) (neg:Bool):R2:=fun x y H Q=>∃ p xs,y=.ref p/\(SqL K H p xs\/SqT K H p xs)/\Ag x=true/\xs.all Ag=true/\Q (.bl (if neg then !inV x xs else inV x xs)) H
theorem Fj:OpR X (compareOp .In) (rIn X.K false):=by
 intro pins s σ H x y v u Q I rx ry h
 obtain ⟨p,xs,rfl,hq,fx,fs,q⟩:=h
 cases ry
 rcases hq with hq | hq
 ·obtain ⟨its,r,pl,hz⟩:=I.list hq
  refine SeqAt.in_listAt (eqU x) pl.isList (fun w hw=>CF rx fx r fs w (by simpa using hw)) ⟨.bl _,H,I,rfl,?_⟩
  rw [show its.toArray.any (eqU x)=its.any (eqU x) by simp,CL r fs]
  exact q
 ·obtain ⟨its,r,pl,hz⟩:=I.tuple hq
  refine SeqAt.in_tupleAt (eqU x) pl (fun w hw=>CF rx fx r fs w (by simpa using hw)) ⟨.bl _,H,I,rfl,?_⟩
  rw [show its.toArray.any (eqU x)=its.any (eqU x) by simp,CL r fs]
  exact q
variable {o e:Expr} {es:List Expr} {to:TE} {t:TA} {name:Str} {apos cpos:Pos} {T id:String} {r:V->List V->Hp->VK->Prop}
end
theorem Vals.zero:∀ {us:List Value},Vals [] us->us=[]
 | _,.nil=>rfl
theorem Vals.reverse {xs:List V} {us:List Value} (h:Vals xs us):Vals xs.reverse us.reverse:=by
 induction h with
 | nil=>exact .nil
 | cons r t ih=>rw [List.reverse_cons,List.reverse_cons];exact Vals.append ih (.cons r .nil)
theorem Vals.rep {xs:List V} {us:List Value} (h:Vals xs us):∀ k:Nat,Vals (List.replicate k xs).flatten (List.replicate k us).flatten
 | 0=>.nil
 | k+1=>by
  rw [List.replicate_succ,List.replicate_succ,List.flatten_cons,List.flatten_cons]
  exact Vals.append h (Vals.rep h k)
theorem DY (its:List Value):∀ (k:Nat) (acc:List Value),
 List.foldl (fun x1 x2=>x1++x2) acc.toArray (List.replicate k its.toArray)=(acc++(List.replicate k its).flatten).toArray
 | 0,acc=>by simp
 | k+1,acc=>by
  have e:acc.toArray++its.toArray=(acc++its).toArray:=by simp
  have e2:(acc++its)++(List.replicate k its).flatten=acc++(List.replicate (k+1) its).flatten:=by
   rw [List.replicate_succ,List.flatten_cons,List.append_assoc]
  rw [<- e2,<- DY its k (acc++its),<- e,List.replicate_succ,List.foldl_cons]
section
variable {X:Cx} {pins:List (Addr × Obj)} {σ:St} {H:Hp} {s:Shared} {l b:Addr} {xs ys zs:List V}
theorem Inv.lnew {its:List Value} {t':Nat} (I:Inv X pins σ H s) (hv:Vals ys its) (hz:ys.length<=sizeLine) :
 Inv X pins σ (upd H s.heap.objs.size (.lst ys)) { s with heap:=s.heap.push { cls:=.type "list",data:=.seq its.toArray },toks:=t' } :=
 I.laid (fun _ _ q=>Heap.get?_push_of_some _ q) (Nat.le_refl _) ⟨hz,its,0,hv,Heap.get?_push_size _ rfl⟩
theorem Inv.fresh (I:Inv X pins σ H s):H s.heap.objs.size=none:=I.hok.fresh (Nat.le_refl _)
theorem Inv.lstM (I:Inv X pins σ H s) (hH:H l=some (.lst xs)):xs.length<=sizeLine/\∃ (its:List Value) (n:Nat),Vals xs its/\xs.length=its.length/\s.heap.get? l=some { cls:=.type "list",data:=.seq its.toArray n }:=by
 obtain ⟨z,its,n,r,e⟩:=I.hok l _ hH
 exact ⟨z,its,n,r,r.length,e⟩
theorem FR {n:Nat} (h:n<=sizeLine):Builtin.List.listTooLong n=false:=by
 unfold Builtin.List.listTooLong
 exact decide_eq_false (by lia)
end
section
variable {X:Cx}
noncomputable def EC:R2:=fun x y H Q=>∃ l b xs zs,x=.ref l/\y=.ref b/\H l=some (.lst xs)/\H b=some (.lst zs)/\xs.length+zs.length<=sizeLine/\∀ p,H p=none->Q (.ref p) (upd H p (.lst (xs++zs)))
theorem FF:OpR X (binaryOp .Add) EC:=by
 intro pins s σ H x y v u Q I rx ry h
 obtain ⟨l,b,xs,zs,rfl,rfl,hH,hB,hz,q⟩:=h
 cases rx
 cases ry
 obtain ⟨z,its,n,r,hl,e⟩:=I.lstM hH
 obtain ⟨z2,its2,n2,r2,hl2,e2⟩:=I.lstM hB
 refine PySem.P.add_list e e2 ?_ (by rw [List.size_toArray,List.size_toArray];lia)
 have ea:its.toArray++its2.toArray=(its++its2).toArray:=by simp
 rw [ea]
 exact ⟨.ref _,_,I.lnew (t':=s.toks) (r.append r2) (by rw [List.length_append];lia),rfl,q _ I.fresh⟩
noncomputable def Dl:R2:=fun x y H Q=>∃ l k xs,x=.ref l/\y=.int k/\H l=some (.lst xs) /\ -(2 ^ 63)<=k/\k < 2 ^ 63/\xs.length * k.toNat<=sizeLine /\
 ∀ p,H p=none->Q (.ref p) (upd H p (.lst (List.replicate k.toNat xs).flatten))
theorem E5 {α:Type} (xs:List α) (k:Nat):(List.replicate k xs).flatten.length=k * xs.length:=by
 induction k with
 | zero=>simp
 | succ k ih=>rw [List.replicate_succ,List.flatten_cons,List.length_append,ih,Nat.succ_mul,Nat.add_comm]
theorem Ez:OpR X (binaryOp .Mult) Dl:=by
 intro pins s σ H x y v u Q I rx ry h
 obtain ⟨l,k,xs,rfl,rfl,hH,h1,h2,hz,q⟩:=h
 cases rx
 obtain ⟨t,rfl⟩:=ry
 obtain ⟨z,its,n,r,hl,e⟩:=I.lstM hH
 have hlen:its.toArray.size * k.toNat<=sizeLine:=by rw [List.size_toArray,<- hl];exact hz
 have hcap:¬ its.toArray.size * k.toNat > (2 ^ 63 - 1) / 8:=by
  have:(sizeLine:Nat)<=(2 ^ 63 - 1) / 8:=by decide
  lia
 have hfit:¬ (!Builtin.List.listFitsIndex k)=true:=by
  rw [fitsIndex_both h1 h2]
  exact Bool.false_ne_true
 have hlong:¬ Builtin.List.listTooLong (its.toArray.size * k.toNat)=true:=by
  rw [FR hlen]
  exact Bool.false_ne_true
 have hnew:List.foldl (fun x1 x2=>x1++x2) #[] (List.replicate (if its.toArray.isEmpty=true then 0 else k.toNat) its.toArray)=(List.replicate k.toNat its).flatten.toArray:=by
  have f0:∀ m:Nat,List.foldl (fun x1 x2=>x1++x2) #[] (List.replicate m its.toArray)=(List.replicate m its).flatten.toArray:=fun m=>by
   have:=DY its m []
   rw [List.nil_append] at this
   exact this
  rw [f0]
  cases its with
  | nil=>simp
  | cons a r'=>rw [if_neg (by simp)]
 refine wpAny_binaryOp_repeat_ref (T:="list") (U:="int") (by decide) ⟨_,e,rfl⟩ (fun s'=>typeIs_int s' k t) noFill_list_mul F.fills_int_mul F.slot_int_rmul repeat_list F.slot_int_index.lookup
  (call_meets F.slot_int_rmul (typeIs_int s k t) F.entry_int_rmul (F.args_int_rmul_2 _ _) (int___rmul___int_list k t l its.toArray n)
    ⟨e,rfl,⟨_,e,rfl⟩,call_meets F.slot_list_mul ⟨_,e,rfl⟩ F.entry_list_mul (F.args_list_mul_2 _ _) (AutoListH.list___mul___list_int_3 l its.toArray n k t hfit hcap hlong) ⟨e,?_⟩⟩)
 rw [hnew]
 exact ⟨.ref _,_,I.lnew (t':=s.toks) (r.rep k.toNat) (by rw [E5,Nat.mul_comm];exact hz),rfl,q _ I.fresh⟩
end
section
variable {prog:Program} {w:World} {A:Around} {E:Value->Shared->Prop} {s:Shared}
end
section
variable {X:Cx}
end
end L2
namespace Att
open PySem PySem.W PySem.Calls PyProof.Rows
theorem GE {P:Params} {h:Heap}:∀ (ns:List Int) (vs:List Value),WellAll P h vs (ns.map WData.int)->IntsAre vs ns:=by
 intro ns
 induction ns with
 | nil =>
  intro vs w
  rw [List.map_nil] at w
  cases w
  exact .nil
 | cons n ns ih =>
  intro vs w
  rw [List.map_cons] at w
  cases w with
  | cons a b =>
   cases a
   exact .cons _ _ (ih _ b)
theorem GB {l:OpenLaw} {n:Nat} (hn:l.most=some n) {P:Params} {h:Heap} {args:List WData} {vals:List Value}
 (hpre:l.row.toRowW.claim.pre args=true) (hwl:WellAll P h vals args) :
 ∃ a vs ns,vals=[Value.ref a]/\args=[WData.list (ns.map WData.int)]/\h.get? a=some { cls:=.type "list",data:=.seq vs.toArray } /\ IntsAre vs ns/\ns.length<=n:=by
 have hsh:WShape.hasAll [] args [.list .int]=true:=(pre_splitW hpre).1
 have hc:l.pre.holds [] { args:=args } = true:=(pre_splitW hpre).2
 obtain ⟨d,r,rfl,h1,h2⟩:=hasAllW_cons hsh
 obtain rfl:=hasAllW_nil h2
 obtain ⟨xs,rfl,h3⟩:=hasW_list h1
 obtain ⟨ns,rfl⟩:=items_int h3
 have hlen:ns.length<=n:=by
  unfold OpenLaw.pre at hc
  have h4:(WTm.not (.lt (.lit (.int (n:Int))) (.len (.arg 0)))).holds [] { args:=[.list (ns.map .int)] } = true:=by
   have h4:=(holds_andW hc).1
   rw [hn] at h4
   exact h4
  have h5:=condW_of h4 (w_not (w_lt w_lit (w_len_list (w_arg rfl))))
  rw [List.length_map] at h5
  refine Nat.le_of_not_lt fun q=>?_
  have q':(n:Int) < ((ns.length:Nat):Int):=by lia
  first
   | (rw [decide_eq_true q'] at h5;exact absurd h5 (by decide))
   | (simp at h5;lia)
 cases hwl with
 | cons w1 w2 =>
  cases w2
  cases w1 with
  | list ho hall=>exact ⟨_,_,ns,rfl,rfl,ho,GE ns _ hall,hlen⟩
theorem GZ (l:OpenLaw) (args:List WData):l.row.toRowW.claim.post args (.bool true) args=true :=
 postW_of (r:=l.row.toRowW) (X:=(true == true))
  (show WShape.has [] (.bool true) .bool=true by first | rfl | decide | simp [WShape.has,WShape.arms,WShape.armsAll])
  (show (WTm.eq .res (.lit (.bool true))).value [] { args:=args,res:=some (.bool true),after:=args } = some (.bool (true == true)) from w_eq_bool (w_res rfl) w_lit) rfl
theorem attach_call {l:OpenLaw} {n:Nat} {q:Program} {loose:List Str} {XP:(Str->Option Value)->Heap->Prop} {YP:World->Heap->Prop} {d:DefRec}
 (hn:l.most=some n) (hdf:d.params.defaults=[])
 (call:∀ (w:World) (s₀ s₁:Shared) (mg mb:Str->Option Value) (fa:Addr) (o:Obj) (pm cd doc:Value) (a:Addr) (vs:List Value) (ns:List Int),
   Ground q loose [] XP w s₀ mg mb s₁.heap->YP w s₁.heap ->
   s₁.heap.get? fa=some o->o.data=.func (docDef d.name d.params d.body d.scope pm cd doc)->s₁.heap.CodeRec cd d.name->mg d.name=some (.ref fa) ->
   s₁.heap.get? a=some { cls:=.type "list",data:=.seq vs.toArray } -> IntsAre vs ns->ns.length<=n->s₁.gens = #[] ->
   codeAny (model l.prog w) callerA (.call (.ref fa) ⟨[.ref a],[]⟩) (fun r s'=>r=.ok (.ret (.bool true))/\OldK s₁.heap s'.heap/\s'.os=s₁.os/\AllBare s'.gens) s₁) :
 WalkO q loose XP YP l.row.toRowW d [] (fun f vs=>PySem.call f vs):=by
 intro w s₀ s₁ mg mb G Y fa o pm cd doc dV kV ho hd hcd hD hmg hg args vals as hpre hlay hrd hwl hlo
 obtain rfl:dV=.none:=Dflts.none hD hdf
 obtain rfl:kV=.none:=Dflts.noKw hD
 obtain ⟨a,vs,ns,rfl,rfl,hobj,hints,hlen⟩:=GB hn hpre hwl
 refine enter_call (codeAny_mono (call w s₀ s₁ mg mb fa o pm cd doc a vs ns G Y ho (fd_plain hd) hcd hmg hobj hints hlen hg) fun r s' hq=>?_)
 obtain ⟨rfl,h2,h3,h4⟩:=hq
 exact ⟨.inl ⟨.bool true,.bool true,[],rfl,fun _=>rfl,.bool true,GZ l _,fun _=>⟨List.Pairwise.nil,fun _ hm=>(nomatch hm)⟩⟩,h2,h3,h4⟩
section
variable {prog:Program} {w:World} {A:Around} {E:Value->Shared->Prop} {s:Shared} {K:Frag}
noncomputable def Bj (h:Heap):Heap:={ h with objs:=#[] }
theorem Ds (h:Heap) (b:Addr):(Bj h).get? b=none:=by
 cases e:(Bj h).get? b with
 | none=>rfl
 | some o=>exact absurd (Heap.lt_size e) (Nat.not_lt_zero _)
theorem Fm {h:Heap} {L:Addr} {m:Str->Option Value} (n:h.Ns L m):Fr (Bj h) L h m :=
 ⟨n,fun b o e=>(by rw [Ds] at e;cases e),Nat.zero_le _⟩
end
end Att
namespace L2
open PySem PySem.Spec PyProof.Rows
theorem DD:∀ {vs:List Value} {ns:List Int},IntsAre vs ns->Vals (ns.map V.int) vs
 | _,_,.nil=>.nil
 | _,_,.cons n t h=>.cons ⟨t,rfl⟩ (DD h)
noncomputable def B7 (H:Hp):Prop:=∀ b,H b=none\/∃ o xs,H b=some (.frz o (.lst xs))
theorem FL {P:Program} {w:World} {K:W.Frag} {mg mb:Str->Option Value} {CX:CXT} {k:Nat} {fa a:Addr} {fd:FuncData} {x:Str} {sp:Sp} {s₁:Shared} {vs:List Value} {ns:List Int}
 (KX:K.In s₁.heap) (hns:s₁.heap.Ns mainGlobals mg) (hb:s₁.heap.Ns builtinsNs mb) (hbb:∀ x:Str,x ≠ "__name__" -> mb x=bootBuiltins x) (hlim:s₁.heap.NoLimit) (hg:s₁.gens = #[])
 (ha:s₁.heap.get? a=some { cls:=.type "list",data:=.seq vs.toArray }) (hi:IntsAre vs ns) (hl:ns.length<=sizeLine) (hr:Room k callerA)
 (F:∀ base:Heap,K.In base->base.Ns mainGlobals mg->FnOk P w K mg base CX k fa fd [x] sp) (hbind:∀ (s:Shared) (u:Value),BindsTo s fd ⟨[u],[]⟩ [(x,u)])
 (hsp:∀ H:Hp,B7 H->SqL K H a (ns.map V.int)->sp [.ref a] H (fun v _=>v=.bl true) fun _ _ _=>False)
 (hCX:∀ H e s',CX [] H s₁ (fun _ _ _=>False) e s'->False) :
 codeAny (model P w) callerA (.call (.ref fa) ⟨[.ref a],[]⟩) (fun r s'=>r=.ok (.ret (.bool true))/\OldK s₁.heap s'.heap/\s'.os=s₁.os/\AllBare s'.gens) s₁:=by
 have rv:=DD hi
 have lenV:=hi.length
 -- from an abstract heap in which nothing but the script may be tracked
 have core:∀ H:Hp,B7 H->SqL K H a (ns.map V.int)->HOk P w H s₁.heap->(∀ b,H b≠none->b=a)->(H a≠none->K.lookup a=none) ->
  codeAny (model P w) callerA (.call (.ref fa) ⟨[.ref a],[]⟩) (fun r s'=>r=.ok (.ret (.bool true))/\OldK s₁.heap s'.heap/\s'.os=s₁.os/\AllBare s'.gens) s₁:=by
  intro H hO hS hok hA hK
  have base_of:∀ {b:Addr} {o:Obj},s₁.heap.get? b=some o->H b=none->(Aj s₁.heap H).get? b=some o:=fun e n=>Gw e n
  have noA:∀ {b:Addr} {o:Obj} {es:Array DictEntry} {ep:Nat},s₁.heap.get? b=some o->o.data=.dict es ep->H b=none:=fun {b o es ep} e d=>by
   cases q:H b with
   | none=>rfl
   | some u =>
    have e':b=a:=hA b (by rw [q];simp)
    subst e'
    rw [ha] at e;cases e
    have d':Data.seq vs.toArray _=Data.dict es ep:=d
    cases d'
  have nsK:∀ {b:Addr} {m:Str->Option Value},s₁.heap.Ns b m->(Aj s₁.heap H).Ns b m:=fun {b m} ⟨o,es,ep,e,d,r⟩=>⟨o,es,ep,base_of e (noA e d),d,r⟩
  have hKb:K.In (Aj s₁.heap H):=fun b o e=>base_of (KX b o e) (by
   cases q:H b with
   | none=>rfl
   | some u =>
    have e':b=a:=hA b (by rw [q];simp)
    subst e'
    rw [hK (by rw [q];simp)] at e;cases e)
  have hM:Mod K mg (Aj s₁.heap H):=⟨hKb,nsK hns,⟨mb,nsK hb,hbb⟩,let ⟨mc,h1,h2⟩:=hlim;⟨mc,nsK h1,h2⟩⟩
  have e0:Env0 P w K mg (Aj s₁.heap H) callerA [] s₁ H:=⟨rfl,hM,fun b o e=>Fs e,Nat.le_of_eq (FD _ _),trivial,fun b hb=>absurd (show b∈([]:List Addr) from hb) (by simp),hok,.of_eq hg⟩
  refine codeAny_mono ((F _ hKb (nsK hns)).run callerA [] s₁ H ⟨[.ref a],[]⟩ [.ref a] [.ref a] _ _ hr e0 (hbind s₁ (.ref a)) (.cons rfl .nil) (hsp H hO hS)) fun r s' h=>?_
  cases r with
  | error e=>exact (hCX H e s' h).elim
  | ok fl =>
   cases fl with
   | next=>exact False.elim h
   | brk=>exact False.elim h
   | cont=>exact False.elim h
   | ret u =>
    obtain ⟨v,H',os,bare,un,hok',r',q⟩:=h
    have q':v=.bl true:=q
    subst q'
    obtain rfl:u=Value.bool true:=r'
    refine ⟨rfl,OldK.of_keep fun b o e=>?_,os,bare⟩
    cases q:H b with
    | none=>exact un.keep b o e q (by intro z;exact absurd (show b∈([]:List Addr) from z) (by simp)) (by simp)
    | some u =>
     rcases hO b with z | ⟨ob,xs,z⟩
     ·rw [q] at z;cases z
     ·have z2:=un.frzs b ob _ z
      obtain ⟨e1,_⟩:=hok b _ z
      obtain ⟨e2,_⟩:=hok' b _ z2
      rw [e] at e1;cases e1
      exact e2
 cases hk:K.lookup a with
 | some o =>
  -- the script is one of the module's own objects
  have e:=KX a o hk
  rw [ha] at e
  cases e
  refine core (fun _=>none) (fun _=>.inl rfl) (.inr ⟨_,vs.toArray,_,hk,rfl,rfl,rfl,by rw [List.size_toArray,lenV];exact hl,by simpa using rv⟩) (fun b u z=>by have z':(none:Option HO)=some u:=z;cases z') (fun b z=>absurd rfl z) fun z=>absurd rfl z
 | none =>
  refine core (fun b=>if b=a then some (.frz { cls:=.type "list",data:=.seq vs.toArray } (.lst (ns.map V.int))) else none) (fun b=>?_) (.inl (.inr ⟨{ cls:=.type "list",data:=.seq vs.toArray },if_pos rfl⟩)) (fun b u z=>?_) (fun b z=>?_) fun _=>hk
  ·by_cases hb:b=a
   ·exact .inr ⟨_,_,if_pos hb⟩
   ·exact .inl (if_neg hb)
  ·by_cases hb:b=a
   ·have z':=(if_pos hb).symm.trans z
    cases z'
    subst hb
    exact ⟨ha,by rw [List.length_map];exact hl,vs,_,rv,ha⟩
   ·have z':=(if_neg hb).symm.trans z
    cases z'
  ·by_cases hb:b=a
   ·exact hb
   ·exact absurd (if_neg hb) z
theorem walk_of {l:PySem.W.OpenLaw} {n k:Nat} {q:Program} {loose:List Str} {XP:(Str->Option Value)->Heap->Prop} {YP:World->Heap->Prop} {d:DefRec} {K:Params->W.Frag} {CX:World->CXT} {sp:World->Sp} {x:Str}
 (hn:l.most=some n) (hn2:n<=sizeLine) (hdf:d.params.defaults=[]) (hr:Room k callerA)
 (hY:∀ (w:World) (h:Heap),YP w h->(K w.params).In h)
 (F:∀ (w:World) (mg:Str->Option Value) (fa:Addr) (h:Heap),(K w.params).In h->h.Ns mainGlobals mg->mg d.name=some (.ref fa) ->
   ∃ fd:FuncData,(∀ (s:Shared) (u:Value),BindsTo s fd ⟨[u],[]⟩ [(x,u)]) /\
    ∀ base:Heap,(K w.params).In base->base.Ns mainGlobals mg->FnOk l.prog w (K w.params) mg base (CX w) k fa fd [x] (sp w))
 (hsp:∀ (w:World) (H:Hp) (a:Addr) (ns:List Int),ns.length<=n->B7 H->SqL (K w.params) H a (ns.map V.int)->sp w [.ref a] H (fun v _=>v=.bl true) fun _ _ _=>False)
 (hCX:∀ (w:World) (H:Hp) (s:Shared) (e:Value) (s':Shared),CX w [] H s (fun _ _ _=>False) e s'->False) :
 PySem.W.WalkO q loose XP YP l.row.toRowW d [] (fun f vs=>PySem.call f vs):=by
 refine Att.attach_call hn hdf fun w s₀ s₁ mg mb fa o pm cd doc a vs ns G Y ho hd hcd hmg hobj hints hlen hg=>?_
 have KX:=hY w _ Y
 obtain ⟨fd,hb,hF⟩:=F w mg fa _ KX G.T.g hmg
 exact FL KX G.T.g G.T.b G.T.builtins G.T.nolimit hg hobj hints (Nat.le_trans hlen hn2) hr hF hb (fun H hO hS=>hsp w H a ns hlen hO hS) fun H e s'=>hCX w H s₁ e s'
noncomputable def BB (s:Stmt) (j:Nat):Stmt:=match s with
 | .ClassDef _ _ _ body _ _ _ _ _ _ _=>body.getD j (.Pass ⟨0,0,0,0⟩)
 | _=>.Pass ⟨0,0,0,0⟩
noncomputable def AQ (s:Stmt):Arguments:=match s with
 | .FunctionDef _ a _ _ _ _ _ _ _ _=>a
 | _=>{ posonlyargs:=[],args:=[],vararg:=none,kwonlyargs:=[],kw_defaults:=[],kwarg:=none,defaults:=[] }
noncomputable def AN (s:Stmt):List Stmt:=match s with
 | .FunctionDef _ _ b _ _ _ _ _ _ _=>b
 | _=>[]
noncomputable def AF (s:Stmt):Scope:=match s with
 | .FunctionDef _ _ _ _ _ _ sc _ _ _=>sc
 | _=>{ kind:=.function,names:=[],isGenerator:=false,isCoroutine:=false }
noncomputable abbrev CX0:CXT:=fun _ _ _ _ _ _=>False
noncomputable abbrev E0:XK:=fun _ _ _=>False
theorem Aw {X:Cx}:CH CX0 X E0:=fun _ _ _ _ _ _ _ h=>h.elim
structure Fun (K:W.Frag) (x qual:Str) (st:Stmt) (f:Addr) (fd:FuncData):Prop where
 ex:∃ (oc:Value) (od:Option Addr) (kV doc pm:Value) (an:Option Addr) (cdv ct:Value) (osl:Array (Option Value)),
  fd=PySem.W.fnOf x qual (AQ st) (AN st) (AF st) .none kV doc pm an cdv ct/\K.lookup f=some ⟨oc,od,.func fd,osl⟩/\PySem.W.codeIn K cdv qual=true
 kp:PySem.W.keepIn K (.ref f)=true
section
variable {P:Program} {w:World} {K:W.Frag} {mg:Str->Option Value} {base:Heap}
theorem Fun.ok {x qual:Str} {st:Stmt} {f:Addr} {fd:FuncData} {N ps:List Str} {k:Nat} {sp:Sp} (F:Fun K x qual st f fd) (S:FnScope N ps (AF st)) (len:∀ vs H Q E,sp vs H Q E->vs.length=ps.length)
 (hbody:∀ (cdv:Value) (A:Around) (outer:List Env) (s:Shared) (H:Hp) (vs:List V) (Q:VK) (E:XK),Room k (A.deeper (envOfC qual (AF st) s.heap.objs.size f cdv))->sp vs H Q E ->
   ∃ t,PSs (BH CX0 P w K mg base N qual (AF st) f cdv A outer s H E).nox (AN st) t/\t { nx:=fun _ H'=>Q .non H',rt:=Q } (An N vs) H):FnOk P w K mg base CX0 (k+1) f fd ps sp:=by
 obtain ⟨oc,od,kV,doc,pm,an,cdv,ct,osl,rfl,lk,hcd⟩:=F.ex
 refine Fc lk hcd S len fun A outer s H vs Q E hr hsp=>?_
 obtain ⟨t,h,q⟩:=hbody cdv A outer s H vs Q E hr hsp
 exact ⟨t,h.nox,q⟩
theorem Fun.binds {x qual:Str} {st:Stmt} {f:Addr} {fd:FuncData} {ps:List Str} (F:Fun K x qual st f fd)
 (h:∀ (kV doc pm:Value) (an:Option Addr) (cdv ct:Value) (us:List Value),us.length=ps.length->bindArgs (PySem.W.fnOf x qual (AQ st) (AN st) (AF st) .none kV doc pm an cdv ct) ⟨us,[]⟩=pure (ps.zip us)):Binds K fd ps []:=by
 obtain ⟨oc,od,kV,doc,pm,an,cdv,ct,osl,rfl,lk,hcd⟩:=F.ex
 exact .all (h kV doc pm an cdv ct)
theorem Ab {x qual:Str} {st:Stmt} {f:Addr} {oc:Value} {od an:Option Addr} {osl:Array (Option Value)} {kV doc pm cdv ct:Value} (l:K.lookup f=some ⟨oc,od,.func (PySem.W.fnOf x qual (AQ st) (AN st) (AF st) .none kV doc pm an cdv ct),osl⟩)
 (c:PySem.W.codeIn K cdv qual=true) (k:PySem.W.keepIn K (.ref f)=true):Fun K x qual st f (PySem.W.fnOf x qual (AQ st) (AN st) (AF st) .none kV doc pm an cdv ct):=⟨⟨oc,od,kV,doc,pm,an,cdv,ct,osl,rfl,l,c⟩,k⟩
end
theorem EA {n:Nat} (h:n<=1000):n < sizeLine:=Nat.lt_of_le_of_lt h (by decide)
section
variable {X:Cx}
theorem pv (i:Nat) {x:Str} {pos:Pos} (hN:X.N[i]? = some x:=by rfl) (hv:Vis X.env.scope x:=by first | exact Or.inl rfl | exact Or.inr (Or.inl rfl) | exact Or.inr (Or.inr rfl)) (hd:(x == ("__debug__" : Str))=false:=by decide)
 (hcd:(x == ("__classdict__" : Str))=false:=by decide):PE X (.Name x pos) (Db i):=Do hN hv hd hcd
end
theorem B1 {c A B:Prop} [Decidable c] (h1:c->A) (h2:¬ c->B):if c then A else B:=by
 by_cases h:c
 ·rw [if_pos h]
  exact h1 h
 ·rw [if_neg h]
  exact h2 h
noncomputable def Same (H H':Hp):Prop:=∀ b o,H b=some o->H' b=some o
theorem Same.refl (H:Hp):Same H H:=fun _ _ h=>h
theorem Same.trans {H H1 H2:Hp} (a:Same H H1) (b:Same H1 H2):Same H H2:=fun c o h=>b c o (a c o h)
theorem Same.free {H H':Hp} (e:Same H H') {l:Addr} (h:H' l=Option.none):H l=Option.none:=by
 cases q:H l with
 | none=>rfl
 | some o =>
  rw [e l o q] at h
  cases h
theorem Same.seq {K:W.Frag} {H H':Hp} {a:Addr} {xs:List V} (e:Same H H') (h:SqL K H a xs):SqL K H' a xs:=by
 rcases h with (h | ⟨o,h⟩) | h
 ·exact .inl (.inl (e _ _ h))
 ·exact .inl (.inr ⟨o,e _ _ h⟩)
 ·exact .inr h
theorem BA:∀ (names:List (Str × NameKind)) (n:Nat) (acc:List (Str × Addr)),cellsFrom n names acc=cellsFrom n names []++acc
 | [],_,_=>rfl
 | (name,kind)::r,n,acc=>by
  unfold cellsFrom
  split
  ·rw [BA r (n+1) ((name,n)::acc),BA r (n+1) [(name,n)],List.append_assoc];rfl
  ·exact BA r n acc
theorem cellsFrom_kind:∀ (names:List (Str × NameKind)) (n:Nat) (acc:List (Str × Addr)) (x:Str) (c:Addr),(x,c)∈cellsFrom n names acc->(x,c)∈acc\/(x,NameKind.cell)∈names
 | [],_,_,_,_,h=>.inl h
 | (name,kind)::r,n,acc,x,c,h=>by
  unfold cellsFrom at h
  split at h
  ·rename_i hk
   rcases cellsFrom_kind r _ _ x c h with h | h
   ·rcases List.mem_cons.mp h with e | h
    ·cases e
     have:kind=.cell:=by simpa using hk
     subst this
     exact .inr List.mem_cons_self
    ·exact .inl h
   ·exact .inr (List.mem_cons_of_mem _ h)
  ·rcases cellsFrom_kind r _ _ x c h with h | h
   ·exact .inl h
   ·exact .inr (List.mem_cons_of_mem _ h)
theorem Bt {α:Type} {x:Str}:∀ (l r:List (Str × α)),(l++r).lookup x=(match l.lookup x with | some c=>some c | none=>r.lookup x)
 | [],r=>rfl
 | (k,v)::l,r=>by
  show List.lookup x ((k,v)::(l++r))=_
  rw [List.lookup_cons,List.lookup_cons]
  cases x == k with
  | true=>rfl
  | false=>exact Bt l r
theorem Dr {α:Type} {x:Str}:∀ {l:List (Str × α)},(∀ c,(x,c)∉l)->l.lookup x=none
 | [],_=>rfl
 | (k,v)::l,h=>by
  rw [List.lookup_cons]
  cases hb:x == k with
  | true =>
   have:x=k:=by simpa using hb
   subst this
   exact absurd List.mem_cons_self (h v)
  | false=>exact Dr fun c hc=>h c (List.mem_cons_of_mem _ hc)
noncomputable def AM (cells:List (Str × Addr)):List (Str × NameKind)->List (Str × Addr)->List (Str × Addr)
 | [],acc=>acc
 | (n,k)::r,acc=>if k == .free then AM cells r ((n,(cells.lookup n).getD 0)::acc) else AM cells r acc
theorem G5 {scope:Scope} {env:Env} (h:∀ y∈scope.names,y.2=.free->∃ c,env.cells.lookup y.1=some c):closureFor scope env=pure (AM env.cells scope.names []):=by
 have all:∀ (names:List (Str × NameKind)) (acc:List (Str × Addr)),(∀ y∈names,y.2=.free->∃ c,env.cells.lookup y.1=some c) ->
  (forIn names acc fun (x:Str × NameKind) cs=>(if (x.2 == NameKind.free)=true then (do let a <- cellOf env x.1;pure (ForInStep.yield ((x.1,a)::cs))) else pure (ForInStep.yield cs):Sem (ForInStep (List (Str × Addr)))))=(pure (AM env.cells names acc):Sem _):=by
  intro names
  induction names with
  | nil=>intro acc _;rfl
  | cons y r ih =>
   intro acc hy
   obtain ⟨n,k⟩:=y
   rw [List.forIn_cons]
   have hr:∀ y∈r,y.2=.free->∃ c,env.cells.lookup y.1=some c:=fun y hm=>hy y (List.mem_cons_of_mem _ hm)
   unfold AM
   by_cases hk:(k == NameKind.free)=true
   ·obtain ⟨c,e⟩:=hy (n,k) List.mem_cons_self (by simpa using hk)
    rw [if_pos hk,if_pos hk]
    have e2:cellOf env n=pure c:=by unfold cellOf;rw [show env.cells.lookup n=some c from e]
    rw [e2]
    rw [show env.cells.lookup n=some c from e]
    exact ih _ hr
   ·rw [if_neg hk,if_neg hk]
    exact ih _ hr
 have q:=all scope.names [] h
 unfold closureFor
 refine Eq.trans ?_ (congrArg (fun t=>t >>= pure) q |>.trans (by rfl))
 congr 1
theorem clOf_mem {cells:List (Str × Addr)}:∀ (names:List (Str × NameKind)) (acc:List (Str × Addr)) (x:Str) (c:Addr),(∀ y∈names,y.2=.free->∃ c,cells.lookup y.1=some c)->(x,c)∈AM cells names acc->(x,c)∈acc\/((x,NameKind.free)∈names/\cells.lookup x=some c)
 | [],_,_,_,_,h=>.inl h
 | (n,k)::r,acc,x,c,hy,h=>by
  have hr:∀ y∈r,y.2=.free->∃ c,cells.lookup y.1=some c:=fun y hm=>hy y (List.mem_cons_of_mem _ hm)
  unfold AM at h
  split at h
  ·rename_i hk
   have hk':k=.free:=by simpa using hk
   subst hk'
   obtain ⟨d,e⟩:=hy (n,.free) List.mem_cons_self rfl
   rcases clOf_mem r _ x c hr h with h | ⟨h,h'⟩
   ·rcases List.mem_cons.mp h with e' | h
    ·obtain ⟨e1,e2⟩:=Prod.mk.inj e'
     rw [show cells.lookup n=some d from e] at e2
     subst e1
     exact .inr ⟨List.mem_cons_self,by rw [e2];exact e⟩
    ·exact .inl h
   ·exact .inr ⟨List.mem_cons_of_mem _ h,h'⟩
  ·rcases clOf_mem r _ x c hr h with h | ⟨h,h'⟩
   ·exact .inl h
   ·exact .inr ⟨List.mem_cons_of_mem _ h,h'⟩
theorem Cc {cells:List (Str × Addr)} {x:Str}:∀ (names:List (Str × NameKind)) (acc:List (Str × Addr)),(∃ c,(x,c)∈acc)->∃ c,(x,c)∈AM cells names acc
 | [],_,h=>h
 | (n,k)::r,acc,⟨c,h⟩=>by
  unfold AM
  split
  ·exact Cc r _ ⟨c,List.mem_cons_of_mem _ h⟩
  ·exact Cc r _ ⟨c,h⟩
theorem CQ {cells:List (Str × Addr)} {x:Str}:∀ (names:List (Str × NameKind)) (acc:List (Str × Addr)),(x,NameKind.free)∈names->∃ c,(x,c)∈AM cells names acc
 | (n,k)::r,acc,h=>by
  unfold AM
  rcases List.mem_cons.mp h with e | h
  ·cases e
   rw [if_pos (by decide)]
   exact Cc r _ ⟨_,List.mem_cons_self⟩
  ·split
   ·exact CQ r _ h
   ·exact CQ r _ h
theorem DE {α:Type} {x:Str}:∀ {l:List (Str × α)},(∃ c,(x,c)∈l)->∃ c,l.lookup x=some c
 | (k,v)::l,⟨c,h⟩=>by
  rw [List.lookup_cons]
  cases hb:x == k with
  | true=>exact ⟨v,rfl⟩
  | false =>
   rcases List.mem_cons.mp h with e | h
   ·cases e;simp at hb
   ·exact DE ⟨c,h⟩
noncomputable def Bd (scope sc:Scope):Scope :=
 { scope with names:=scope.names.map fun (n,k)=>if (k == .free && sc.kind == .function && sc.names.lookup n == some .cell) then (n,.cell) else (n,k) }
structure CompScope (scope sc:Scope):Prop where
 kind:scope.kind=.function
 nd:(scope.names.map (·.1)).Nodup
 fr:∀ y∈scope.names,y.2=.free->sc.names.lookup y.1=some .cell\/sc.names.lookup y.1=some .free
theorem A8 {α:Type}:∀ {l:List (Str × α)} {x:Str} {c:α},(l.map (·.1)).Nodup->(x,c)∈l->l.lookup x=some c
 | (k,v)::l,x,c,nd,h=>by
  obtain ⟨n1,n2⟩:=List.nodup_cons.mp (show (k::l.map (·.1)).Nodup from nd)
  rw [List.lookup_cons]
  rcases List.mem_cons.mp h with e | h
  ·cases e;simp
  ·have hne:¬ x=k:=fun e=>n1 (by rw [<- e];exact List.mem_map.mpr ⟨(x,c),h,rfl⟩)
   have:(x == k)=false:=by simpa using hne
   rw [this]
   exact A8 n2 h
theorem DN {scope sc:Scope} {x:Str}:(Bd scope sc).names.lookup x=(scope.names.lookup x).map fun k=>if (k == .free && sc.kind == .function && sc.names.lookup x == some .cell) then NameKind.cell else k:=by
 show (scope.names.map _).lookup x=_
 generalize scope.names=names
 induction names with
 | nil=>rfl
 | cons y r ih =>
  obtain ⟨n,k⟩:=y
  rw [List.map_cons]
  by_cases hc:(k == .free && sc.kind == .function && sc.names.lookup n == some .cell)=true
  ·show List.lookup x ((if (k == .free && sc.kind == .function && sc.names.lookup n == some .cell)=true then (n,NameKind.cell) else (n,k))::_)=_
   rw [if_pos hc,List.lookup_cons,List.lookup_cons]
   cases hb:x == n with
   | true =>
    have hx:x=n:=by simpa using hb
    subst hx
    show some NameKind.cell=some (if _ then _ else _)
    rw [if_pos hc]
   | false=>exact ih
  ·show List.lookup x ((if (k == .free && sc.kind == .function && sc.names.lookup n == some .cell)=true then (n,NameKind.cell) else (n,k))::_)=_
   rw [if_neg hc,List.lookup_cons,List.lookup_cons]
   cases hb:x == n with
   | true =>
    have hx:x=n:=by simpa using hb
    subst hx
    show some k=some (if _ then _ else _)
    rw [if_neg hc]
   | false=>exact ih
structure CArgs where
 pins:List (Addr × Obj)
 cells:List (Str × Addr)
 s:Shared
 H:Hp
 fp:List Addr
 C:Addr
noncomputable def Cx.comp (X:Cx) (scope:Scope) (N':List Str) (c:CArgs):Cx where
 prog:=X.prog
 w:=X.w
 K:=X.K
 mg:=X.mg
 base:=X.base
 A:=X.A
 N:=N'
 s₀:=c.s
 H₀:=c.H
 env:=compEnvC scope c.cells c.C X.env
 outer:=X.stack
 stack:=X.stack
 ex:=c.fp
 fn:=fun x=>scope.names.lookup x == some .cell
 calm:=X.calm
 pn:=X.pn++c.pins
 xe:=fun _ _=>False
noncomputable def cSt (own:Nat) (ix:List Nat) (σ:St):St:=List.replicate own none++ix.map fun i=>(σ[i]?).join
section
variable {X:Cx} {pins:List (Addr × Obj)} {σ:St} {H:Hp} {s s4:Shared} {fp:List Addr} {scope:Scope} {N':List Str} {own:Nat} {ix:List Nat}
theorem GH (I:Inv X pins σ H s) (f2:∀ b∈fp,AV X pins H b) (hob:∀ b∈fp,∃ o,s.heap.get? b=some o) (S:CompScope scope X.env.scope)
 (hlen:N'.length=own+ix.length) (hN:(N'.drop own).map some=ix.map (X.N[·]?)) (hfr:∀ x∈N'.drop own,scope.names.lookup x=some .free)
 {C:Addr} (hC:s.heap.objs.size < C) (k4:∀ b o,s.heap.get? b=some o->s4.heap.get? b=some o) (os4:s4.os=s.os) (g4:s4.gens=s.gens)
 (n4:∃ m,s4.heap.Ns C m) (own4:∀ x c,(x,c)∈cellsFrom (C+1) scope.names []->s4.heap.IsCell c none/\C+1<=c)
 (apart:(cellsFrom (C+1) scope.names []).Pairwise fun x y=>x.2≠y.2) :
 Inv (X.comp scope N' ⟨pins,cellsFrom (C+1) scope.names (AM X.env.cells scope.names []),s,H,fp,C⟩) [] (cSt own ix σ) H s4:=by
 have hfree:∀ y∈scope.names,y.2=.free->∃ c,X.env.cells.lookup y.1=some c:=fun y hy h=>I.ok.has y.1 (S.fr y hy h)
 -- a cell of the block
 have cases:∀ x c,(cellsFrom (C+1) scope.names (AM X.env.cells scope.names [])).lookup x=some c ->
  ((x,c)∈cellsFrom (C+1) scope.names []/\scope.names.lookup x=some .cell)\/((x,NameKind.free)∈scope.names/\X.env.cells.lookup x=some c):=fun x c h=>by
  rw [BA,Bt] at h
  cases e:(cellsFrom (C+1) scope.names []).lookup x with
  | some d =>
   rw [e] at h
   cases h
   have m:=mem_of_lookup e
   rcases cellsFrom_kind _ _ _ _ _ m with z | z
   ·exact absurd z (by simp)
   ·exact .inl ⟨m,A8 S.nd z⟩
  | none =>
   rw [e] at h
   rcases clOf_mem _ _ _ _ hfree (mem_of_lookup h) with z | z
   ·exact absurd z (by simp)
   ·exact .inr z
 have oldlt:∀ x c,X.env.cells.lookup x=some c->c < s.heap.objs.size:=fun x c e=>let ⟨v,q⟩:=I.cell x c e;q.lt
 have kin:∀ x,(Bd scope X.env.scope).names.lookup x=some .cell\/(Bd scope X.env.scope).names.lookup x=some .free->(scope.names.lookup x=some .cell\/scope.names.lookup x=some .free):=fun x h=>by
  rw [DN] at h
  cases e:scope.names.lookup x with
  | none=>rw [e] at h;simp at h
  | some k =>
   rw [e] at h
   cases k with
   | cell=>exact .inl rfl
   | free=>exact .inr rfl
   | _=>exact absurd h (by simp)
 have hCn:∀ b o,s.heap.get? b=some o->b≠C:=fun b o e z=>by have:=Heap.lt_size e;rw [z] at this;exact Nat.lt_irrefl _ (Nat.lt_trans this hC)
 have lk:∀ x,(x,NameKind.free)∈scope.names->∀ c,X.env.cells.lookup x=some c->(cellsFrom (C+1) scope.names (AM X.env.cells scope.names [])).lookup x=some c:=fun x hx c hc=>by
  have hl:scope.names.lookup x=some .free:=A8 S.nd hx
  rw [BA,Bt,Dr (l:=cellsFrom (C+1) scope.names []) fun d hd=>?_]
  ·obtain ⟨d,hd⟩:=DE (CQ (cells:=X.env.cells) scope.names [] hx)
   rcases clOf_mem _ _ _ _ hfree (mem_of_lookup hd) with z | ⟨_,z⟩
   ·exact absurd z (by simp)
   ·rw [hc] at z;cases z;exact hd
  ·rcases cellsFrom_kind _ _ _ _ _ hd with z | z
   ·exact absurd z (by simp)
   ·rw [A8 S.nd z] at hl;cases hl
 refine ⟨⟨I.ok.mod,S.kind,I.ok.glob,I.ok.blt,Nat.le_of_lt hC,fun x y c hx hy=>?_,fun x hx=>?_,fun x c hf hx=>?_,I.ok.hd,I.ok.frames,.inl rfl,fun b hb=>⟨?_,fun x c hx=>?_⟩,fun b o e=>I.bs b o e,Nat.le_trans I.ok.bsz I.sz,fun b o e hb=>?_,fun b hb z=>?_,I.stack,I.stkFree⟩,
  os4,by rw [g4];exact I.bare,Un.kept k4,?_,fun x c hx=>?_,?_,fun x c hx=>?_,fun p hp=>?_,I.hok.kept k4,?_⟩
 ·-- inj
  rcases cases x c hx with ⟨m1,_⟩ | ⟨_,m1⟩ <;> rcases cases y c hy with ⟨m2,_⟩ | ⟨_,m2⟩
  ·exact name_of_addr apart m1 m2
  ·exact absurd (Nat.lt_of_lt_of_le (Nat.lt_trans (oldlt y c m2) hC) (Nat.le_of_succ_le (own4 x c m1).2)) (Nat.lt_irrefl _)
  ·exact absurd (Nat.lt_of_lt_of_le (Nat.lt_trans (oldlt x c m1) hC) (Nat.le_of_succ_le (own4 y c m2).2)) (Nat.lt_irrefl _)
  ·exact I.ok.inj x y c m1 m2
 ·-- has
  rcases kin x hx with h | h
  ·have q:=PySem.W.cellsFrom_some scope.names (C+1) (AM X.env.cells scope.names []) (.inl h)
   exact Option.isSome_iff_exists.mp q
  ·obtain ⟨c,e⟩:=hfree (x,.free) (mem_of_lookup h) rfl
   exact ⟨c,lk x (mem_of_lookup h) c e⟩
 ·-- cab
  rcases cases x c hx with ⟨m1,_⟩ | ⟨m1,_⟩
  ·exact Nat.le_of_lt (Nat.lt_of_lt_of_le hC (Nat.le_of_succ_le (own4 x c m1).2))
  ·have hl:=A8 S.nd m1
   have hf':(scope.names.lookup x == some NameKind.cell)=true:=hf
   rw [hl] at hf';cases hf'
 ·obtain ⟨o,e⟩:=hob b hb
  exact hCn b o e
 ·intro z
  obtain ⟨o,e⟩:=hob b hb
  have hlt:=Heap.lt_size e
  rcases cases x c hx with ⟨m1,_⟩ | ⟨_,m1⟩
  ·subst z;exact absurd (Nat.lt_of_lt_of_le (Nat.lt_trans hlt hC) (Nat.le_of_succ_le (own4 x c m1).2)) (Nat.lt_irrefl _)
  ·exact (f2 b hb).2.2.2.2.1 x c m1 z
 ·-- noex
  have e1:=(I.ok.bs b o e).1
  rcases (f2 b hb).2.2.2.1 with z | z
  ·exact I.ok.noex b o e z
  ·exact absurd (Nat.lt_of_lt_of_le (Heap.lt_size e1) z) (Nat.lt_irrefl _)
 ·-- exfs
  rcases List.mem_cons.mp (I.stkSub b z) with e | z
  ·exact (f2 b hb).2.1 e
  ·exact (f2 b hb).2.2.1 z
 ·-- loc
  obtain ⟨m,hm⟩:=n4
  obtain ⟨m0,hn0,hl0⟩:=I.loc
  refine ⟨m,hm,fun i x v h1 h2 h3=>?_⟩
  have h1:N'[i]? = some x:=h1
  unfold cSt at h2
  by_cases hi:i < own
  ·rw [List.getElem?_append_left (by simpa using hi),List.getElem?_replicate] at h2
   split at h2 <;> cases h2
  ·rw [List.getElem?_append_right (by simpa using hi),List.length_replicate,List.getElem?_map] at h2
   obtain ⟨j,hj⟩:∃ j,i=own+j:=⟨i - own,by lia⟩
   subst hj
   rw [Nat.add_sub_cancel_left] at h2
   cases e:ix[j]? with
   | none=>rw [e] at h2;cases h2
   | some q =>
    rw [e] at h2
    have h2:some (σ[q]?).join=some (some v):=h2
    have h2:(σ[q]?).join=some v:=Option.some.inj h2
    have hσ:σ[q]? = some (some v):=by
     cases eq:σ[q]? with
     | none=>rw [eq] at h2;cases h2
     | some z=>rw [eq] at h2;simp at h2;rw [h2]
    have hx:(N'.drop own)[j]? = some x:=by rw [List.getElem?_drop];exact h1
    have hNq:X.N[q]? = some x:=by
     have:=congrArg (·[j]?) hN
     simp only [List.getElem?_map,hx,e,Option.map_some] at this
     exact (Option.some.inj this).symm
    have hfx:=hfr x (List.mem_of_getElem? hx)
    have hmem:=mem_of_lookup hfx
    have kx:=S.fr (x,.free) hmem rfl
    have vis:Vis X.env.scope x:=.inr kx
    obtain ⟨u,r,l⟩:=hl0 q x v hNq hσ vis
    refine ⟨u,r,?_⟩
    rcases l with ⟨k,_⟩ | ⟨k,c,hc,z⟩
    ·exfalso
     have k':X.env.scope.names.lookup x=some .local:=k
     rcases kx with kx | kx
     ·rw [show X.env.scope.names.lookup x=some .cell from kx] at k';cases k'
     ·rw [show X.env.scope.names.lookup x=some .free from kx] at k';cases k'
    ·refine .inr ⟨?_,c,lk x hmem c hc,z.keeps k4⟩
     show (Bd scope X.env.scope).names.lookup x=some .cell\/(Bd scope X.env.scope).names.lookup x=some .free
     rw [DN,hfx]
     by_cases hc:(NameKind.free == .free && X.env.scope.kind == .function && X.env.scope.names.lookup x == some .cell)=true
     ·exact .inl (by rw [Option.map_some,if_pos hc])
     ·exact .inr (by rw [Option.map_some,if_neg hc])
 ·rcases cases x c hx with ⟨m1,_⟩ | ⟨_,m1⟩
  ·exact ⟨_,(own4 x c m1).1⟩
  ·obtain ⟨v,q⟩:=I.cell x c m1
   exact ⟨v,q.keeps k4⟩
 ·exact I.hok.fresh (Nat.le_of_lt hC)
 ·rcases cases x c hx with ⟨m1,_⟩ | ⟨_,m1⟩
  ·exact I.hok.fresh (Nat.le_of_lt (Nat.lt_of_lt_of_le hC (Nat.le_of_succ_le (own4 x c m1).2)))
  ·exact I.freeC x c m1
 ·have hp:p∈X.pn++pins:=by
   have:p∈(X.pn++pins)++[]:=hp
   rwa [List.append_nil] at this
  obtain ⟨e,n,ne,nf,d⟩:=I.pin p hp
  refine ⟨k4 _ _ e,n,hCn _ _ e,fun z=>?_,d⟩
  rcases List.mem_cons.mp (I.stkSub _ z) with q | q
  ·exact ne q
  ·exact nf q
 ·unfold cSt
  rw [List.length_append,List.length_replicate,List.length_map]
  exact hlen.symm
end
section
variable {prog:Program} {w:World} {A:Around} {R:Result->Shared->Prop} {s:Shared}
theorem Ex {elt target iter:Expr} {ifs:List Expr} {scope:Scope} {pos:Pos} {it acc:Value} {env:Env} (I:Nat->Shared->Prop)
 (turn:∀ n s,I n s->wpAny (model prog w) A (pyNext it) (fun r s₁=>match r with
   | none=>R (.ok .next) s₁
   | some v=>wpAny (model prog w) A (letOwnedTupleGo target it v) (fun _ s₁'=>wpAny (model prog w) A (assign target env v) (fun _ s₂ =>
    wpAny (model prog w) A (forIn ifs true fun c r=>if r=true then do let ok <- isTrue c env (eval c env);pure (ForInStep.yield ok) else pure (ForInStep.yield r)) (fun ok s₃ =>
     if ok=true then wpAny (model prog w) A (eval elt env) (fun x s₄ =>
      wpAny (model prog w) A (call (.builtin "list.append") [acc,x]) (fun _ s₅=>∃ m,m < n/\I m s₅) (fun _ _=>False) s₄) (fun _ _=>False) s₃
     else ∃ m,m < n/\I m s₃) (fun _ _=>False) s₂) (fun _ _=>False) s₁') (fun _ _=>False) s₁) (fun _ _=>False) s)
 (n:Nat) (h:I n s) :
 codeAny (model prog w) A (.compLoop (.ListComp elt [⟨target,iter,ifs,0⟩] scope pos) 0 it acc env) R s:=by
 refine codeAny_loop rfl I (fun n s hI=>?_) n h
 show wpAny _ A ((compTurn (.ListComp elt [⟨target,iter,ifs,0⟩] scope pos) 0 it acc env).onRaise (fun x=>do noteFrame x env;theTreesLotGoes x)) _ _ s
 refine wpAny_noted ?_
 rw [compTurn_list]
 refine wpAny_bind (wpAny_standAt (wpAny_bind (wpAny_mono (turn n s hI) (fun r s₁ h₁=>?_) fun _ _ h'=>h'.elim)))
 cases r with
 | none=>exact wpAny_pure h₁
 | some v =>
  refine wpAny_bind (wpAny_mono h₁ (fun _ s₁' h₁'=>?_) fun _ _ h'=>h'.elim)
  refine wpAny_bind (wpAny_mono h₁' (fun _ s₂ h₂=>wpAny_bind (wpAny_mono h₂ (fun ok s₃ h₃=>?_) fun _ _ h'=>h'.elim)) fun _ _ h'=>h'.elim)
  cases ok with
  | false=>exact wpAny_pure ⟨rfl,h₃⟩
  | true =>
   exact wpAny_bind (wpAny_bind (wpAny_mono h₃ (fun x s₄ h₄=>wpAny_bind (wpAny_mono h₄ (fun _ s₅ h₅=>wpAny_pure (wpAny_pure ⟨rfl,h₅⟩)) fun _ _ h'=>h'.elim)) fun _ _ h'=>h'.elim))
end
noncomputable def PTs (X:Cx) (ifs:List Expr) (t:TT):Prop :=
 ∀ (pins:List (Addr × Obj)) (s:Shared) (σ:St) (H:Hp) (Q:Bool->Hp->Prop),Inv X pins σ H s->t σ H Q ->
  wpAny (model X.prog X.w) X.A (forIn ifs true fun c r=>if r=true then do let ok <- isTrue c X.env (eval c X.env);pure (ForInStep.yield ok) else pure (ForInStep.yield r)) (TP X pins σ Q) X.xe s
noncomputable def Fp:TT:=fun _ H Q=>Q true H
theorem Fz {X:Cx}:PTs X [] Fp:=fun _ _ _ H _ I h=>wpAny_tests_nil ⟨H,I,h⟩
noncomputable def Bw (own:Nat) (g:TG):Prop:=∀ x σ H Q,g x σ H Q->g x σ H fun σ' H'=>(σ'.length=σ.length/\∀ i,own<=i->σ'[i]? = σ[i]?)/\Q σ' H'
theorem HS {own i:Nat} (h:i < own):Bw own (Ax i):=fun x σ H Q q =>
 ⟨⟨by simp,fun j hj=>by rw [List.getElem?_set_ne (by lia)]⟩,q⟩
noncomputable def B2 (g:TG):Prop:=∀ x σ H (Q Q':St->Hp->Prop),(∀ σ H,Q σ H->Q' σ H)->g x σ H Q->g x σ H Q'
theorem Fo {i:Nat}:B2 (Ax i):=fun _ _ _ _ _ h q=>h _ _ q
theorem Hb {own:Nat} {ix:List Nat} {σ:St} {i:Nat} {v:V} (h:(cSt own ix σ)[i]? = some (some v)):own<=i:=by
 unfold cSt at h
 by_cases hi:i < own
 ·rw [List.getElem?_append_left (by simpa using hi),List.getElem?_replicate] at h
  split at h <;> cases h
 ·lia
noncomputable def Ch (J:It) (g:TG) (tc:TT) (te:TE) (σc:St) (Q:VK) (H1:Hp):Prop :=
 ∃ W:Nat->Nat->List V->Hp->Prop,(∃ m,W 0 m [] H1)/\∀ i m ys H,W i m ys H ->
  (J.stop i H/\∀ p,H p=none->Q (.ref p) (upd H p (.lst ys))) \/
  (J.go i H/\ys.length < sizeLine/\∃ N:List V->Hp->Prop,(∀ ys' H',N ys' H'->∃ m',m' < m/\W (i+1) m' ys' H')/\∀ x H',J.yld i H x H'->g x σc H' fun σ4 H4=>tc σ4 H4 fun b H5 =>
    if b=true then te σ4 H5 fun y H6=>N (ys++[y]) H6 else N ys H5)
noncomputable def B5 (wi:TI) (own:Nat) (ix:List Nat) (g:TG) (tc:TT) (te:TE):TE:=fun σ H Q=>wi σ H fun J H1=>Ch J g tc te (cSt own ix σ) Q H1
section
variable {X:Cx} {pins:List (Addr × Obj)} {σ:St} {H:Hp} {s:Shared} {fp:List Addr} {it:Addr} {tn:Nat->Heap->Prop} {J:It} {tg iter elt:Expr} {ifs:List Expr} {scope:Scope} {pos:Pos} {N':List Str} {own:Nat} {ix:List Nat} {g:TG} {tc:TT} {te:TE} {Q:VK} {E:Value->Shared->Prop}
theorem ET (I:Inv X pins σ H s) (T:Turn X.prog X.w X.K tg J fp it tn) (st:tn 0 s.heap) (f2:∀ b∈fp,AV X pins H b) (hc:X.calm=true) (S:CompScope scope X.env.scope)
 (hlen:N'.length=own+ix.length) (hN:(N'.drop own).map some=ix.map (X.N[·]?)) (hfr:∀ x∈N'.drop own,scope.names.lookup x=some .free)
 (hg:∀ c,PG (X.comp scope N' c) tg g) (hgo:Bw own g) (ht:∀ c,PTs (X.comp scope N' c) ifs tc) (he:∀ c,PE (X.comp scope N' c) elt te)
 (hq:Ch J g tc te (cSt own ix σ) Q H) {RR:Value->Addr->Result->Shared->Prop}
 (fin:∀ (D C:Addr) (s':Shared) (H':Hp) (ys:List V) (its:List Value) (n:Nat),s'.os=s.os->AllBare s'.gens->Un (frs X.stack) fp H H' s.heap s'.heap->HOk X.prog X.w H' s'.heap->(∃ m,s'.heap.Ns C m)->H' C=none->s.heap.objs.size<=C ->
   H' D=none->s.heap.objs.size<=D->D≠C->s'.heap.get? D=some { cls:=.type "list",data:=.seq its.toArray n } -> Vals ys its->ys.length<=sizeLine->(∀ p,H' p=none->Q (.ref p) (upd H' p (.lst ys)))->RR (.ref D) C (.ok .next) s') :
 wpAny (model X.prog X.w) X.A (newList []) (fun acc s₃=>wpAny (model X.prog X.w) X.A (newFunctionEnv scope X.env.globals (AM X.env.cells scope.names []) [] X.env.qual none .none (some X.env)) (fun cenv s₄ =>
  codeAny (model X.prog X.w) X.A (.compStart (.ListComp elt [⟨tg,iter,ifs,0⟩] scope pos) 0 (.ref it) acc { cenv with scope:=relabel scope X.env }) (RR acc cenv.locals) s₄) E s₃) E s:=by
 obtain ⟨W,⟨m0,w0⟩,turn⟩:=hq
 have hob:∀ b∈fp,∃ o,s.heap.get? b=some o:=fun b hb=>let ⟨o,e,_⟩:=T.obj 0 _ st b hb;⟨o,e⟩
 refine wpAny_newObj_type ?_
 generalize hH1:s.heap.push { cls:=.type "list",dict:=none,data:=.seq ([]:List Value).toArray } = h1
 have hs1:h1.objs.size=s.heap.objs.size+1:=by rw [<- hH1,Heap.size_push]
 have k1:∀ b o,s.heap.get? b=some o->h1.get? b=some o:=fun b o e=>by rw [<- hH1];exact Heap.get?_push_of_some _ e
 have d1:h1.get? s.heap.objs.size=some { cls:=.type "list",data:=.seq ([]:List Value).toArray }:=by rw [<- hH1];exact Heap.get?_push_size _ rfl
 simp only [newFunctionEnv,Option.isSome_some,if_true]
 refine wpAny_bind (wpAny_alloc ?_)
 generalize hH2:(({ s with heap:=h1 }:Shared).heap.push { cls:=.type "dict",data:=.dict #[] })=h2
 have hH2':h1.push { cls:=.type "dict",data:=.dict #[] } = h2:=hH2
 have hs2:h2.objs.size=h1.objs.size+1:=by rw [<- hH2',Heap.size_push]
 have k2:∀ b o,h1.get? b=some o->h2.get? b=some o:=fun b o e=>by rw [<- hH2'];exact Heap.get?_push_of_some _ e
 have n2:h2.Ns h1.objs.size (fun _=>none):=by rw [<- hH2'];exact Heap.Ns.new h1 (.type "dict")
 refine wpAny_bind (wpAny_layCells _ (fun name kind cells=>by cases hkc:kind == NameKind.cell <;> simp [hkc]) _ _ _ _ ?_)
 have ok:=cellsFrom_ok scope.names h2 (h1.objs.size+1) [] ⟨fun _ _ hm=>(nomatch hm),List.Pairwise.nil⟩ (by rw [hs2];exact Nat.le_refl _)
 rw [hs2] at ok
 show wpAny _ _ (forIn ([]:List (Str × Value)) PUnit.unit _ >>= _) _ _ _
 rw [List.forIn_nil]
 refine wpAny_bind (wpAny_pure (wpAny_pure ?_))
 show codeAny _ _ (.compStart _ 0 (.ref it) (.ref s.heap.objs.size) (compEnvC scope (cellsFrom h2.objs.size scope.names (AM X.env.cells scope.names [])) h1.objs.size X.env)) (RR (.ref s.heap.objs.size) h1.objs.size) { s with heap:=pushCells h2 scope.names }
 rw [hs2]
 generalize hH3:pushCells h2 scope.names=h3 at ok ⊢
 have k3:∀ b o,h2.get? b=some o->h3.get? b=some o:=fun b o e=>by rw [<- hH3];exact pushCells_keeps _ _ b o e
 have kk:∀ b o,s.heap.get? b=some o->h3.get? b=some o:=fun b o e=>k3 b o (k2 b o (k1 b o e))
 have d3:h3.get? s.heap.objs.size=some { cls:=.type "list",data:=.seq ([]:List Value).toArray }:=k3 _ _ (k2 _ _ d1)
 have hC:s.heap.objs.size < h1.objs.size:=by rw [hs1];exact Nat.lt_succ_self _
 have I3:Inv (X.comp scope N' ⟨pins,cellsFrom (h1.objs.size+1) scope.names (AM X.env.cells scope.names []),s,H,fp,h1.objs.size⟩) [] (cSt own ix σ) H { s with heap:=h3 } :=
  GH (s4:={ s with heap:=h3 }) I f2 hob S hlen hN hfr hC kk rfl rfl ⟨_,n2.keeps k3⟩ (fun x c hm=>ok.empty x c hm) ok.apart
 generalize hcs:cellsFrom (h1.objs.size+1) scope.names (AM X.env.cells scope.names [])=cs at I3 ⊢
 generalize hCC:h1.objs.size=C at *
 generalize hDD:s.heap.objs.size=D at *
 have hY:=I3.ok
 -- what is fixed of the records
 have sD:D≠C/\(∀ x c,cs.lookup x=some c->c≠D)/\D∉frs X.stack/\∀ p∈X.pn++pins,p.1≠D:=by
  refine ⟨Nat.ne_of_lt hC,fun x c e z=>?_,fun z=>?_,fun p hp z=>?_⟩
  ·subst z
   have e':=e
   rw [<- hcs,BA,Bt] at e'
   cases q:(cellsFrom (C+1) scope.names []).lookup x with
   | some d =>
    rw [q] at e';cases e'
    have:=(ok.empty x c (mem_of_lookup q)).2
    exact absurd (Nat.lt_of_lt_of_le hC (Nat.le_of_succ_le this)) (Nat.lt_irrefl _)
   | none =>
    rw [q] at e'
    have hfree:∀ y∈scope.names,y.2=.free->∃ c,X.env.cells.lookup y.1=some c:=fun y hy h=>I.ok.has y.1 (S.fr y hy h)
    rcases clOf_mem _ _ _ _ hfree (mem_of_lookup e') with z | ⟨_,z⟩
    ·exact absurd z (by simp)
    ·obtain ⟨v,q⟩:=I.cell x c z
     have:=q.lt
     rw [hDD] at this
     exact Nat.lt_irrefl _ this
  ·exact (I3.nofs (a:=D) (by exact absurd z (by
    intro z'
    obtain ⟨_,o,ho,_⟩:=(show s.heap.FunFrames X.base X.stack from I.stack).mem z'
    have:=Heap.lt_size ho
    rw [hDD] at this
    exact Nat.lt_irrefl _ this))) z
  ·have:=Heap.lt_size (I.pin p hp).1
   rw [z,hDD] at this
   exact Nat.lt_irrefl _ this
 have stat:∀ {H':Hp},(∀ b∈fp,H' b=none)->∀ b∈fp,AV (X.comp scope N' ⟨pins,cs,s,H,fp,C⟩) [] H' b:=fun {H'} hn b hb=>by
  refine ⟨hn b hb,(hY.exf b hb).1,hY.exfs b hb,.inl hb,(hY.exf b hb).2,fun p hp=>?_⟩
  have hp:p∈(X.pn++pins)++[]:=hp
  rw [List.append_nil] at hp
  exact (f2 b hb).2.2.2.2.2 p hp
 have statD:∀ {H':Hp},H' D=none->AV (X.comp scope N' ⟨pins,cs,s,H,fp,C⟩) [] H' D:=fun {H'} hn=>by
  refine ⟨hn,sD.1,sD.2.2.1,.inr (Nat.le_of_eq hDD),sD.2.1,fun p hp=>?_⟩
  have hp:p∈(X.pn++pins)++[]:=hp
  rw [List.append_nil] at hp
  exact sD.2.2.2 p hp
 have loop:codeAny (model X.prog X.w) X.A (.compLoop (.ListComp elt [⟨tg,iter,ifs,0⟩] scope pos) 0 (.ref it) (.ref D) (compEnvC scope cs C X.env)) (RR (.ref D) C) { s with heap:=h3 }:=by
  refine Ex (fun n s'=>∃ (i:Nat) (H':Hp) (ys:List V) (its:List Value) (k:Nat),Inv (X.comp scope N' ⟨pins,cs,s,H,fp,C⟩) [] (cSt own ix σ) H' s'/\tn i s'.heap/\(∀ b∈fp,H' b=none)/\H' D=none /\
   s'.heap.get? D=some { cls:=.type "list",data:=.seq its.toArray k } /\ Vals ys its/\ys.length<=sizeLine/\W i n ys H') ?_ m0
   ⟨0,H,[],[],0,I3,T.keep _ _ _ st fun b _ o e=>kk b o e,fun b hb=>(f2 b hb).1,I.hok.fresh (Nat.le_of_eq hDD),d3,.nil,Nat.zero_le _,w0⟩
  rintro n s4 ⟨i,H4,ys,its,k,I4,st4,fr4,dn4,d4,rv4,z4,w4⟩
  rcases turn i n ys H4 w4 with ⟨stop,qn⟩ | ⟨go,zl,N,hN2,step⟩
  ·have ID:=I4.pinned (fp:=[D]) (fun b hb=>by rw [List.mem_singleton.mp hb];exact statD dn4) (fun b hb=>by rw [List.mem_singleton.mp hb];exact ⟨_,d4,fun v z=>nomatch z⟩)
   have nD:∀ b∈fp,b≠D:=fun b hb z=>by
    obtain ⟨o,e⟩:=hob b hb
    have:=Heap.lt_size e
    rw [z,hDD] at this
    exact Nat.lt_irrefl _ this
   have stat':∀ b∈fp,AV (X.comp scope N' ⟨pins,cs,s,H,fp,C⟩) ([]++AZ [D] s4.heap) H4 b:=fun b hb=>by
    obtain ⟨q1,q2,q3,q4,q5,q6⟩:=stat fr4 b hb
    refine ⟨q1,q2,q3,q4,q5,fun p hp=>?_⟩
    rcases List.mem_append.mp hp with z | z
    ·exact q6 p (List.mem_append_left _ z)
    ·have:=(CU (by simpa using z:p∈AZ [D] s4.heap)).1
     rw [List.mem_singleton.mp this]
     exact fun z=>nD b hb z.symm
   refine thn (T.done (X.comp scope N' ⟨pins,cs,s,H,fp,C⟩) rfl rfl rfl hc i _ s4 _ H4 (fun _ _=>False) ID stat' st4 stop) fun r s5 ⟨hr,I5⟩=>?_
   subst hr
   obtain ⟨m,hm,_⟩:=I5.loc
   refine fin D C s5 H4 ys its k I5.os I5.bare I5.base I5.hok ⟨m,hm⟩ I5.free (Nat.le_of_lt hC) dn4 (Nat.le_refl _) sD.1 ?_ rv4 z4 qn
   ·exact (I5.pin (D,_) (List.mem_append_right _ (List.mem_append_right _ (BE (List.mem_singleton.mpr rfl) d4)))).1
  ·have nD:∀ b∈fp,b≠D:=fun b hb z=>by
    obtain ⟨o,e⟩:=hob b hb
    have:=Heap.lt_size e
    rw [z,hDD] at this
    exact Nat.lt_irrefl _ this
   have ID:=I4.pinned (fp:=[D]) (fun b hb=>by rw [List.mem_singleton.mp hb];exact statD dn4) (fun b hb=>by rw [List.mem_singleton.mp hb];exact ⟨_,d4,fun v z=>nomatch z⟩)
   have statP:∀ {H':Hp},(∀ b∈fp,H' b=none)->∀ b∈fp,AV (X.comp scope N' ⟨pins,cs,s,H,fp,C⟩) ([]++AZ [D] s4.heap) H' b:=fun {H'} hn b hb=>by
    obtain ⟨q1,q2,q3,q4,q5,q6⟩:=stat hn b hb
    refine ⟨q1,q2,q3,q4,q5,fun p hp=>?_⟩
    rcases List.mem_append.mp hp with z | z
    ·exact q6 p (List.mem_append_left _ z)
    ·have:=(CU (by simpa using z:p∈AZ [D] s4.heap)).1
     rw [List.mem_singleton.mp this]
     exact fun z=>nD b hb z.symm
   refine thn (T.item (X.comp scope N' ⟨pins,cs,s,H,fp,C⟩) rfl rfl rfl hc i _ s4 _ H4 (fun _ _=>False) ID (statP fr4) st4 go) fun r s5 ⟨u,hr,h5⟩=>?_
   subst hr
   refine thn h5 fun _ s6 ⟨x,H6,I6,r6,y6,st6,fr6⟩=>?_
   have I6':=I6.pinned (statP fr6) (T.obj _ _ st6)
   refine thn (hg _ _ s6 _ H6 x u _ I6' r6 (hgo _ _ _ _ (step x H6 y6))) fun _ s7 ⟨σ7,H7,I7,⟨e7,k7⟩,q7⟩=>?_
   have I7':Inv (X.comp scope N' ⟨pins,cs,s,H,fp,C⟩) ([]++AZ [D] s4.heap++AZ fp s6.heap) σ7 H7 s7:=I7
   refine thn (ht _ _ s7 σ7 H7 _ I7' q7) fun b s8 ⟨H8,I8,q8⟩=>?_
   -- what is kept through the turn
   have back:∀ {s9:Shared} {H9:Hp},Inv (X.comp scope N' ⟨pins,cs,s,H,fp,C⟩) ([]++AZ [D] s4.heap++AZ fp s6.heap) σ7 H9 s9 ->
    Inv (X.comp scope N' ⟨pins,cs,s,H,fp,C⟩) [] (cSt own ix σ) H9 s9/\tn (i+1) s9.heap/\(∀ b∈fp,H9 b=none)/\H9 D=none/\s9.heap.get? D=some { cls:=.type "list",data:=.seq its.toArray k }:=fun {s9 H9} I9=>by
    have pD:=I9.pin (D,_) (List.mem_append_right _ (List.mem_append_left _ (List.mem_append_right _ (BE (List.mem_singleton.mpr rfl) d4))))
    refine ⟨I9.unpinned.unpinned.weak (by rw [e7]) fun j v hj=>?_,T.keep _ _ _ st6 fun b hb o e=>(I9.pin (b,o) (List.mem_append_right _ (List.mem_append_right _ (BE hb e)))).1,fun b hb=>?_,pD.2.1,pD.1⟩
    ·rw [k7 j (Hb hj)];exact hj
    ·obtain ⟨o,e,_⟩:=T.obj _ _ st6 b hb
     exact (I9.pin (b,o) (List.mem_append_right _ (List.mem_append_right _ (BE hb e)))).2.1
   cases b with
   | false =>
    rw [if_neg Bool.false_ne_true] at q8
    obtain ⟨m',hm,w8⟩:=hN2 _ _ q8
    obtain ⟨b1,b2,b3,b4,b5⟩:=back I8
    exact ⟨m',hm,i+1,H8,ys,its,k,b1,b2,b3,b4,b5,rv4,z4,w8⟩
   | true =>
    rw [if_pos rfl] at q8
    rw [if_pos rfl]
    refine thn (he _ _ s8 σ7 H8 _ I8 q8) fun yv s9 ⟨y,H9,I9,r9,q9⟩=>?_
    obtain ⟨m',hm,w9⟩:=hN2 _ _ q9
    obtain ⟨b1,b2,b3,b4,b5⟩:=back I9
    have hl:=rv4.length
    refine call_meets F.slot_list_append ⟨_,b5,rfl⟩ F.entry_list_append (F.args_list_append_2 _ _) (PySem.list_append D its.toArray k yv (by rw [List.size_toArray];lia)) ⟨b5,?_⟩
    have up:=PySem.IsL.update b5 (fun a=>a.push yv)
    have keep:∀ b o,b≠D->s9.heap.get? b=some o->(s9.heap.update D (Obj.mapSeq fun a=>a.push yv)).get? b=some o:=fun b o hb q=>(Heap.get?_update_other _ _ (Ne.symm hb)).trans q
    obtain ⟨f0,f1,f2',f3,f4,f5⟩:=statD b4
    refine ⟨m',hm,i+1,H9,ys++[y],its++[yv],(if ((its.toArray.push yv).size == its.toArray.size)=true then k else k+1),b1.turned (t':=s9.toks) keep b4 f1 f3 f4 f5,?_,b3,b4,?_,rv4.append (.cons r9 .nil),?_,w9⟩
    ·exact T.keep _ _ _ b2 fun b hb o e=>keep b o (nD b hb) e
    ·have e2:(its.toArray.push yv)=(its++[yv]).toArray:=by simp
     rw [<- e2]
     exact up
    ·rw [List.length_append,List.length_singleton]
     lia
 exact codeAny_compStart_list loop (T.self X.A 0 _ _ _ (T.keep _ _ _ st fun b _ o e=>kk b o e) loop)
end
section
variable {X:Cx} {pins:List (Addr × Obj)} {σ:St} {H:Hp} {s:Shared} {fp:List Addr} {it:Addr} {tn:Nat->Heap->Prop} {J:It} {tg iter elt:Expr} {ifs:List Expr} {scope:Scope} {pos:Pos} {N':List Str} {own:Nat} {ix:List Nat} {g:TG} {tc:TT} {te:TE} {wi:TI} {E:Value->Shared->Prop}
theorem GL {H':Hp} {s':Shared} {D:Addr} {ys:List V} {its:List Value} {n:Nat} (I:Inv X pins σ H s) (f2:∀ b∈fp,AV X pins H b) (ho:s'.os=s.os) (hg:AllBare s'.gens) (u:Un (frs X.stack) fp H H' s.heap s'.heap) (hok:HOk X.prog X.w H' s'.heap)
 (dn:H' D=none) (ds:s.heap.objs.size<=D) (d:s'.heap.get? D=some { cls:=.type "list",data:=.seq its.toArray n }) (rv:Vals ys its) (z:ys.length<=sizeLine):Inv X pins σ (upd H' D (.lst ys)) s':=by
 have nD:∀ b o,s.heap.get? b=some o->b≠D:=fun b o e q=>by rw [q,Heap.get?_none_of_le ds] at e;cases e
 have nH:∀ b o,H' b=some o->b≠D:=fun b o e q=>by rw [q,dn] at e;cases e
 refine I.call' (ch:=fp) ho ⟨u.keep,u.slot,fun b o e q hx=>?_,u.there,fun b xs e=>?_,fun b o v e=>?_,fun b ps e=>?_⟩ (fun b o e=>?_) hg fun b hb=>?_
 ·rw [AB (nD b o e)];exact u.free b o e q hx
 ·have:=u.tups b xs e
  rw [AB (nH _ _ this)];exact this
 ·have:=u.frzs b o v e
  rw [AB (nH _ _ this)];exact this
 ·obtain ⟨more,q⟩:=u.tbls b ps e
  exact ⟨more,by rw [AB (nH _ _ q)];exact q⟩
 ·by_cases hb:b=D
  ·subst hb
   rw [AC] at e
   cases e
   exact ⟨z,its,n,rv,d⟩
  ·rw [AB hb] at e
   exact (hok b o e).stay (fun _ _ _ q=>q) (fun c q=>by rw [AB (nH _ _ q)];exact q) fun c xs q=>by rw [AB (nH _ _ q)];exact q
 ·obtain ⟨q1,q2,q3,q4,q5,q6⟩:=f2 b hb
  exact ⟨q4,q2,q5,q6⟩
theorem Inv.dictGone {s':Shared} {h':Heap} {C:Addr} {H':Hp} {σ':St} (I:Inv X pins σ H s) (J:Inv X pins σ' H' s') (hC:s.heap.objs.size<=C) (hn:H' C=none) (k:Heap.SameBut C s'.heap h'):Inv X pins σ' H' { s' with heap:=h' }:=by
 have hC0:=Heap.get?_none_of_le hC
 refine J.turned (t':=s'.toks) (fun b o hb e=>(k.2 b hb).trans e) hn (fun z=>?_) (.inr (Nat.le_trans I.sz hC)) (fun x c e z=>?_) fun p hp z=>?_
 ·obtain ⟨m,⟨o,_,_,ho,_⟩,_⟩:=I.loc
  rw [<- z,hC0] at ho;cases ho
 ·obtain ⟨v,o,ho,_⟩:=I.cell x c e
  rw [z,hC0] at ho;cases ho
 ·have:=(I.pin p hp).1
  rw [z,hC0] at this;cases this
theorem HN (hc:X.calm=true) (hi:PI X tg iter wi) (S:CompScope scope X.env.scope)
 (hlen:N'.length=own+ix.length) (hN:(N'.drop own).map some=ix.map (X.N[·]?)) (hfr:∀ x∈N'.drop own,scope.names.lookup x=some .free)
 (hg:∀ c,PG (X.comp scope N' c) tg g) (hgo:Bw own g) (ht:∀ c,PTs (X.comp scope N' c) ifs tc) (he:∀ c,PE (X.comp scope N' c) elt te)
 (hs:∀ x,foldedSetIterable iter X.env x=pure x:=by intro _;rfl):PE X (.ListComp elt [⟨tg,iter,ifs,0⟩] scope pos) (B5 wi own ix g tc te):=by
 intro pins s σ H Q I h
 rw [eval_ListComp]
 have hfree:∀ y∈scope.names,y.2=.free->∃ c,X.env.cells.lookup y.1=some c:=fun y hy h=>I.ok.has y.1 (S.fr y hy h)
 refine wpAny_comprehension_free (use:=none) rfl hs (G5 hfree) S.kind (fun y hy hl=>A8 S.nd (by rw [<- hl];exact hy)) ?_
 refine thn (hi pins s σ H _ I h) fun v s1 h1=>thn h1 fun itv s2 h2=>?_
 obtain ⟨it,fp,tn,J,H2,e,I2,T,st2,f2,q2⟩:=h2
 subst e
 refine ET (RR:=fun acc C=>compPost (model X.prog X.w) X.A X.xe none (EP X pins σ Q) acc C) I2 T st2 f2 hc S hlen hN hfr hg hgo ht he q2 ?_
 intro D C s' H' ys its n ho hgn u hok hm hC hCs hD hDs hDC d rv z q
 obtain ⟨m,hm⟩:=hm
 have I3:=GL I2 f2 ho hgn u hok hD hDs d rv z
 refine ⟨m,hm,fun h' hs'=>?_⟩
 exact ⟨.ref D,_,I2.dictGone I3 hCs (by rw [AB (Ne.symm hDC)];exact hC) hs',rfl,q D hD⟩
end
section
variable {X:Cx}
theorem PE.imp {e:Expr} {t t':TE} (h:PE X e t) (f:∀ σ H Q,t' σ H Q->t σ H Q):PE X e t':=fun pins s σ H Q I q=>h pins s σ H Q I (f σ H Q q)
theorem OpR.imp {f:Value->Value->Sem Value} {r r':R2} (h:OpR X f r) (g:∀ x y H Q,r' x y H Q->r x y H Q):OpR X f r':=fun pins s σ H x y v u Q I rx ry q=>h pins s σ H x y v u Q I rx ry (g _ _ _ _ q)
theorem CallR.imp {f:Value} {r r':List V->Hp->VK->Prop} (h:CallR X f r) (g:∀ x H Q,r' x H Q->r x H Q):CallR X f r':=fun pins s σ H xs us Q I r q=>h pins s σ H xs us Q I r (g _ _ _ q)
noncomputable def Be (i:Nat):TE:=fun σ H Q=>match σ[i]? with
 | some (some v)=>Q v H
 | _=>False
theorem vv (i:Nat) {x:Str} {pos:Pos} (hN:X.N[i]? = some x:=by rfl) (hv:Vis X.env.scope x:=by first | exact Or.inl rfl | exact Or.inr (Or.inl rfl) | exact Or.inr (Or.inr rfl)) (hd:(x == ("__debug__" : Str))=false:=by decide)
 (hcd:(x == ("__classdict__" : Str))=false:=by decide):PE X (.Name x pos) (Be i):=(Do hN hv hd hcd).imp fun σ H Q q=>by
 unfold Be at q
 split at q
 ·rename_i v e;exact ⟨v,e,q⟩
 ·exact q.elim
noncomputable def okMul (i j:Int):Prop:=(i.natAbs < 2 ^ 4096/\j.natAbs < 2 ^ 4096)\/(-(2 ^ 64) < i/\i < 2 ^ 64)\/(-(2 ^ 64) < j/\j < 2 ^ 64)
theorem DW {i:Int} (h:i.natAbs < 2 ^ 4096):Builtin.Int.intBits i<=2 ^ 20:=by
 unfold Builtin.Int.intBits
 split
 ·exact Nat.zero_le _
 ·rename_i hz
  have hne:i.natAbs≠0:=by
   have:¬ i=0:=by simpa using hz
   lia
  have:=(Nat.log2_lt hne).mpr h
  have e:(2:Nat) ^ 20=1048576:=by decide
  lia
theorem okMul.ok {i j:Int} (h:okMul i j):IntMulOk i j:=by
 rcases h with ⟨h1,h2⟩ | h | h
 ·exact .of_bits (DW h1) (DW h2)
 ·exact CMul.ok (.inl h)
 ·exact CMul.ok (.inr h)
noncomputable def okDiv (j:Int):Prop:=0 < j/\j < 2 ^ 4096
theorem okDiv.ok {i j:Int} (h:okDiv j):Builtin.divisionGoesByPylong i j=false:=by
 refine PyProof.noPylong_of_log2 ?_
 obtain ⟨h1,h2⟩:=h
 have hne:j.natAbs≠0:=by lia
 have h3:j.natAbs < 2 ^ 4096:=by
  have e:((j.natAbs:Int))=j:=by lia
  have h2':((j.natAbs:Nat):Int) < ((2 ^ 4096:Nat):Int):=by rw [e,Int.natCast_pow];exact h2
  exact Int.ofNat_lt.mp h2'
 have:=(Nat.log2_lt hne).mpr h3
 lia
noncomputable def Bo (K:W.Frag):R2:=fun x y H Q=>match x,y with
 | .int i,.int j=>Q (.int (i+j)) H
 | .str a,.str b=>a.length+b.length<=sizeLine/\Q (.str (a++b)) H
 | .ref a,.ref b=>EC (.ref a) (.ref b) H Q\/C8 K (.ref a) (.ref b) H Q
 | _,_=>False
theorem GT:OpR X (binaryOp .Add) (Bo X.K):=by
 intro pins s σ H x y v u Q I rx ry q
 cases x <;> cases y <;> first
  | exact False.elim q
  | exact Fb pins s σ H _ _ v u Q I rx ry ⟨_,_,rfl,rfl,q⟩
  | exact Gd pins s σ H _ _ v u Q I rx ry ⟨_,_,rfl,rfl,q.1,q.2⟩
  | (rcases q with q | q
     ·exact FF pins s σ H _ _ v u Q I rx ry q
     ·exact HQ pins s σ H _ _ v u Q I rx ry q)
noncomputable def HZ:R2:=fun x y H Q=>match x,y with
 | .int i,.int j=>okMul i j/\Q (.int (i * j)) H
 | .ref a,.int k=>Dl (.ref a) (.int k) H Q
 | _,_=>False
theorem Bm:OpR X (binaryOp .Mult) HZ:=by
 have hI:OpR X (binaryOp .Mult) (rI okMul fun i j=>.int (i * j)):=opI fun _ _ _ _ _ _ _ hc q=>mul_int q hc.ok
 intro pins s σ H x y v u Q I rx ry q
 cases x <;> cases y <;> first
  | exact False.elim q
  | exact hI pins s σ H _ _ v u Q I rx ry ⟨_,_,rfl,rfl,q.1,q.2⟩
  | exact Ez pins s σ H _ _ v u Q I rx ry q
noncomputable def Cn:R2:=fun x y H Q=>match x,y with
 | .int i,.int j=>okDiv j/\Q (.int (i / j)) H
 | _,_=>False
theorem DX:OpR X (binaryOp .FloorDiv) Cn:=by
 have hI:OpR X (binaryOp .FloorDiv) (rI (fun _ j=>okDiv j) fun i j=>.int (i / j)):=opI fun i j _ _ _ _ _ hc q=>by
  refine floordiv_int (by have:=hc.1;lia) ?_ (.inl hc.ok)
  rw [Int.fdiv_eq_ediv_of_nonneg i (by have:=hc.1;lia)]
  exact q
 intro pins s σ H x y v u Q I rx ry q
 cases x <;> cases y <;> first
  | exact False.elim q
  | exact hI pins s σ H _ _ v u Q I rx ry ⟨_,_,rfl,rfl,q.1,q.2⟩
noncomputable def Cm:R2:=fun x y H Q=>match x,y with
 | .int i,.int j=>0 < j/\Q (.int (i % j)) H
 | _,_=>False
theorem A0:OpR X (binaryOp .Mod) Cm:=by
 intro pins s σ H x y v u Q I rx ry q
 cases x <;> cases y <;> first
  | exact False.elim q
  | exact Hd pins s σ H _ _ v u Q I rx ry ⟨_,_,rfl,rfl,q.1,q.2⟩
noncomputable def CY:R2:=fun x y H Q=>match x,y with
 | .int i,.int j=>EF i j/\Q (.int (i ^ j.toNat)) H
 | _,_=>False
theorem G6:OpR X (binaryOp .Pow) CY:=by
 intro pins s σ H x y v u Q I rx ry q
 cases x <;> cases y <;> first
  | exact False.elim q
  | exact Gg pins s σ H _ _ v u Q I rx ry ⟨_,_,rfl,rfl,q.1,q.2⟩
noncomputable def Bp (p:Int->Int->Bool):R2:=fun x y H Q=>match x,y with
 | .int i,.int j=>Q (.bl (p i j)) H
 | _,_=>False
theorem ED:OpR X (compareOp .Lt) (Bp fun i j=>decide (i < j)):=by
 intro pins s σ H x y v u Q I rx ry q
 cases x <;> cases y <;> first
  | exact False.elim q
  | exact EN pins s σ H _ _ v u Q I rx ry ⟨_,_,rfl,rfl,q⟩
theorem Df:OpR X (compareOp .Gt) (Bp fun i j=>decide (j < i)):=by
 intro pins s σ H x y v u Q I rx ry q
 cases x <;> cases y <;> first
  | exact False.elim q
  | exact Fy pins s σ H _ _ v u Q I rx ry ⟨_,_,rfl,rfl,q⟩
end
inductive Dv where
 | non | bl (b:Bool) | int (i:Int) | str (x:Str) | tup (ds:List Dv) | lst (ds:List Dv)
mutual
noncomputable def Rep (K:W.Frag) (H:Hp):Dv->V->Prop
 | .non,v=>v=.non
 | .bl b,v=>v=.bl b
 | .int i,v=>v=.int i
 | .str x,v=>v=.str x
 | .tup ds,v=>∃ a xs,v=.ref a/\SqT K H a xs/\Reps K H ds xs
 | .lst ds,v=>∃ a xs,v=.ref a/\SqL K H a xs/\Reps K H ds xs
noncomputable def Reps (K:W.Frag) (H:Hp):List Dv->List V->Prop
 | [],xs=>xs=[]
 | d::ds,xs=>∃ x r,xs=x::r/\Rep K H d x/\Reps K H ds r
end
mutual
noncomputable def eqD:Dv->Dv->Bool
 | .non,.non=>true
 | .bl a,.bl b=>a == b
 | .bl a,.int b=>(if a then 1 else 0) == b
 | .int a,.bl b=>a == (if b then 1 else 0)
 | .int a,.int b=>a == b
 | .str a,.str b=>a == b
 | .tup ds,.tup es=>AR ds es
 | .lst ds,.lst es=>AR ds es
 | _,_=>false
noncomputable def AR:List Dv->List Dv->Bool
 | [],[]=>true
 | d::ds,e::es=>eqD d e && AR ds es
 | _,_=>false
end
mutual
noncomputable def AH:Dv->Nat
 | .tup ds=>Ac ds+1
 | .lst ds=>Ac ds+1
 | _=>0
noncomputable def Ac:List Dv->Nat
 | []=>0
 | d::ds=>max (AH d) (Ac ds)
end
theorem Ft (ds es:List Dv):eqD (.tup ds) (.tup es)=AR ds es:=by rw [eqD]
theorem C3 (ds es:List Dv):eqD (.lst ds) (.lst es)=AR ds es:=by rw [eqD]
theorem Reps.length {K:W.Frag} {H:Hp}:∀ {ds:List Dv} {xs:List V},Reps K H ds xs->ds.length=xs.length
 | [],xs,h=>by unfold Reps at h;subst h;rfl
 | d::ds,xs,h=>by
  unfold Reps at h
  obtain ⟨x,r,rfl,_,h⟩:=h
  rw [List.length_cons,List.length_cons,Reps.length h]
theorem Reps.get {K:W.Frag} {H:Hp}:∀ {ds:List Dv} {xs:List V} {i:Nat} {d:Dv},Reps K H ds xs->ds[i]? = some d->∃ x,xs[i]? = some x/\Rep K H d x
 | [],_,_,_,_,e=>by simp at e
 | d::ds,xs,0,_,h,e=>by
  unfold Reps at h
  obtain ⟨x,r,rfl,h1,_⟩:=h
  simp at e;subst e
  exact ⟨x,rfl,h1⟩
 | d::ds,xs,i+1,_,h,e=>by
  unfold Reps at h
  obtain ⟨x,r,rfl,_,h⟩:=h
  obtain ⟨y,h1,h2⟩:=Reps.get (i:=i) h (by simpa using e)
  exact ⟨y,by simpa using h1,h2⟩
theorem D1 {ds:List Dv} {i:Nat} {d:Dv} (h:ds[i]? = some d):AH d<=Ac ds:=by
 induction ds generalizing i with
 | nil=>simp at h
 | cons e es ih =>
  unfold Ac
  cases i with
  | zero=>simp at h;subst h;lia
  | succ i=>have:=ih (i:=i) (by simpa using h);lia
theorem Ce:∀ (ds es:List Dv),ds.length=es.length->AR ds es=(List.range ds.length).all fun i=>match ds[i]?,es[i]? with | some d,some e=>eqD d e | _,_=>false
 | [],[],_=>by unfold AR;rfl
 | d::ds,e::es,h=>by
  unfold AR
  rw [List.length_cons,List.range_succ_eq_map,List.all_cons,List.all_map,Ce ds es (by simpa using h)]
  congr 1
 | [],e::es,h=>by simp at h
 | d::ds,[],h=>by simp at h
theorem Ck:∀ (ds es:List Dv),ds.length≠es.length->AR ds es=false
 | [],[],h=>absurd rfl h
 | [],_::_,_=>by unfold AR;rfl
 | _::_,[],_=>by unfold AR;rfl
 | d::ds,e::es,h=>by unfold AR;rw [Ck ds es (fun z=>h (by simp [z])),Bool.and_false]
mutual
theorem BR:∀ d:Dv,eqD d d=true
 | .non=>by unfold eqD;rfl
 | .bl b=>by unfold eqD;simp
 | .int i=>by unfold eqD;simp
 | .str x=>by unfold eqD;simp
 | .tup ds=>by unfold eqD;exact Ci ds
 | .lst ds=>by unfold eqD;exact Ci ds
theorem Ci:∀ ds:List Dv,AR ds ds=true
 | []=>by unfold AR;rfl
 | d::ds=>by unfold AR;rw [BR d,Ci ds];rfl
end
section
variable {X:Cx} {pins:List (Addr × Obj)} {σ:St} {H:Hp} {s:Shared}
theorem DP {a:Addr} {xs ys:List V} (I:Inv X pins σ H s) (h:SqL X.K H a xs) (h':SqT X.K H a ys):False:=by
 obtain ⟨its,_,⟨o,n,e,c,_⟩,_⟩:=I.list h
 obtain ⟨its',_,⟨o',e',c',_⟩,_⟩:=I.tuple h'
 rw [e] at e';cases e'
 rw [c] at c'
 exact absurd c' (by decide)
mutual
theorem CC (I:Inv X pins σ H s):∀ (d e:Dv) (x:V),Rep X.K H d x->Rep X.K H e x->d=e
 | .non,e,x,h,h'=>by
  unfold Rep at h;subst h
  cases e <;> unfold Rep at h' <;> first | rfl | (obtain ⟨a,xs,q,_⟩:=h';cases q;done) | (cases h';done)
 | .bl b,e,x,h,h'=>by
  unfold Rep at h;subst h
  cases e <;> unfold Rep at h' <;> first | (obtain ⟨a,xs,q,_⟩:=h';cases q;done) | (cases h';rfl) | (cases h';done)
 | .int b,e,x,h,h'=>by
  unfold Rep at h;subst h
  cases e <;> unfold Rep at h' <;> first | (obtain ⟨a,xs,q,_⟩:=h';cases q;done) | (cases h';rfl) | (cases h';done)
 | .str b,e,x,h,h'=>by
  unfold Rep at h;subst h
  cases e <;> unfold Rep at h' <;> first | (obtain ⟨a,xs,q,_⟩:=h';cases q;done) | (cases h';rfl) | (cases h';done)
 | .tup ds,e,x,h,h'=>by
  unfold Rep at h
  obtain ⟨a,xs,rfl,hs,hr⟩:=h
  cases e with
  | tup es =>
   unfold Rep at h'
   obtain ⟨b,ys,q,hs',hr'⟩:=h'
   cases q
   rw [I.tuple_inj hs' hs] at hr'
   rw [Cj I ds es xs hr hr']
  | lst es =>
   unfold Rep at h'
   obtain ⟨b,ys,q,hs',hr'⟩:=h'
   cases q
   exact (DP I hs' hs).elim
  | _=>unfold Rep at h';cases h'
 | .lst ds,e,x,h,h'=>by
  unfold Rep at h
  obtain ⟨a,xs,rfl,hs,hr⟩:=h
  cases e with
  | lst es =>
   unfold Rep at h'
   obtain ⟨b,ys,q,hs',hr'⟩:=h'
   cases q
   rw [I.list_inj hs' hs] at hr'
   rw [Cj I ds es xs hr hr']
  | tup es =>
   unfold Rep at h'
   obtain ⟨b,ys,q,hs',hr'⟩:=h'
   cases q
   exact (DP I hs hs').elim
  | _=>unfold Rep at h';cases h'
theorem Cj (I:Inv X pins σ H s):∀ (ds es:List Dv) (xs:List V),Reps X.K H ds xs->Reps X.K H es xs->ds=es
 | [],es,xs,h,h'=>by
  unfold Reps at h;subst h
  cases es with
  | nil=>rfl
  | cons e es=>unfold Reps at h';obtain ⟨x,r,q,_⟩:=h';cases q
 | d::ds,es,xs,h,h'=>by
  unfold Reps at h
  obtain ⟨x,r,rfl,h1,h2⟩:=h
  cases es with
  | nil=>unfold Reps at h';cases h'
  | cons e es =>
   unfold Reps at h'
   obtain ⟨y,r',q,h3,h4⟩:=h'
   cases q
   rw [CC I d e _ h1 h3,Cj I ds es _ h2 h4]
end
noncomputable abbrev Eq3 (A:Around) (s:Shared) (u v:Value) (b:Bool):Prop:=SeqAt.EqAt A s u v b/\SeqAt.RcAt A s u v b/\SeqAt.RcNeAt A s u v (!b)
theorem ER {A:Around} {a b:Addr} {xs ys:List V} {ds es:List Dv} (I:Inv X pins σ H s) (hu:A.units < cLine) (ha:SqT X.K H a xs) (hb:SqT X.K H b ys) (hd:Reps X.K H ds xs) (he:Reps X.K H es ys)
 (ih:∀ (i:Nat) (d e:Dv) (x y:V) (u v:Value),ds[i]? = some d->es[i]? = some e->xs[i]? = some x->ys[i]? = some y->RelV x u->RelV y v->SeqAt.EqAt A.in1 s u v (eqD d e)):Eq3 A s (.ref a) (.ref b) (eqD (.tup ds) (.tup es)):=by
 obtain ⟨its,r1,p1,_⟩:=I.tuple ha
 obtain ⟨its2,r2,p2,_⟩:=I.tuple hb
 have l1:=hd.length;have l2:=he.length;have l3:=r1.length;have l4:=r2.length
 have hitem:∀ j (h1:j < its.toArray.size) (h2:j < its2.toArray.size),SeqAt.EqAt A.in1 s its.toArray[j] its2.toArray[j] (match ds[j]?,es[j]? with | some d,some e=>eqD d e | _,_=>false):=fun j h1 h2=>by
  rw [List.size_toArray] at h1 h2
  have e1:ds[j]? = some ds[j]:=List.getElem?_eq_getElem (by lia)
  have e2:es[j]? = some es[j]:=List.getElem?_eq_getElem (by lia)
  have e3:xs[j]? = some xs[j]:=List.getElem?_eq_getElem (by lia)
  have e4:ys[j]? = some ys[j]:=List.getElem?_eq_getElem (by lia)
  obtain ⟨u,q1,q2⟩:=r1.get e3
  obtain ⟨v,q3,q4⟩:=r2.get e4
  rw [e1,e2]
  have z1:its.toArray[j]=u:=by rw [List.getElem_toArray];rw [List.getElem?_eq_getElem h1] at q1;exact Option.some.inj q1
  have z2:its2.toArray[j]=v:=by rw [List.getElem_toArray];rw [List.getElem?_eq_getElem h2] at q3;exact Option.some.inj q3
  rw [z1,z2]
  exact ih j _ _ _ _ _ _ e1 e2 e3 e4 q2 q4
 have val:((List.range (min its.toArray.size its2.toArray.size)).all (fun j=>match ds[j]?,es[j]? with | some d,some e=>eqD d e | _,_=>false) && its.toArray.size == its2.toArray.size)=eqD (.tup ds) (.tup es):=by
  rw [List.size_toArray,List.size_toArray,<- l3,<- l4,<- l1,<- l2,Ft]
  by_cases h:ds.length=es.length
  ·rw [h,Nat.min_self,<- h,Ce ds es h]
   simp
  ·rw [Ck ds es h]
   have:(ds.length == es.length)=false:=by simpa using h
   rw [this,Bool.and_false]
 have R:=SeqAt.RcAt.tuples (A:=A) p1 p2 hu hitem
 have N:=SeqAt.RcNeAt.tuples (A:=A) p1 p2 hu hitem
 rw [val] at R N
 refine ⟨?_,R,N⟩
 by_cases hab:a=b
 ·subst hab
  have e:ds=es:=by
   have:=CC I (.tup ds) (.tup es) (.ref a) (by unfold Rep;exact ⟨a,xs,rfl,ha,hd⟩) (by unfold Rep;exact ⟨a,ys,rfl,hb,he⟩)
   cases this;rfl
  subst e
  rw [BR]
  exact SeqAt.EqAt.same _
 ·exact .of_refs hab R
theorem E6 {A:Around} {a b:Addr} {xs ys:List V} {ds es:List Dv} (I:Inv X pins σ H s) (hu:A.units < cLine) (ha:SqL X.K H a xs) (hb:SqL X.K H b ys) (hd:Reps X.K H ds xs) (he:Reps X.K H es ys)
 (ih:∀ (i:Nat) (d e:Dv) (x y:V) (u v:Value),ds[i]? = some d->es[i]? = some e->xs[i]? = some x->ys[i]? = some y->RelV x u->RelV y v->SeqAt.EqAt A.in1 s u v (eqD d e)):Eq3 A s (.ref a) (.ref b) (eqD (.lst ds) (.lst es)):=by
 obtain ⟨its,r1,p1,_⟩:=I.list ha
 obtain ⟨its2,r2,p2,_⟩:=I.list hb
 have l1:=hd.length;have l2:=he.length;have l3:=r1.length;have l4:=r2.length
 have hitem:∀ j (h1:j < its.toArray.size) (h2:j < its2.toArray.size),SeqAt.EqAt A.in1 s its.toArray[j] its2.toArray[j] (match ds[j]?,es[j]? with | some d,some e=>eqD d e | _,_=>false):=fun j h1 h2=>by
  rw [List.size_toArray] at h1 h2
  have e1:ds[j]? = some ds[j]:=List.getElem?_eq_getElem (by lia)
  have e2:es[j]? = some es[j]:=List.getElem?_eq_getElem (by lia)
  have e3:xs[j]? = some xs[j]:=List.getElem?_eq_getElem (by lia)
  have e4:ys[j]? = some ys[j]:=List.getElem?_eq_getElem (by lia)
  obtain ⟨u,q1,q2⟩:=r1.get e3
  obtain ⟨v,q3,q4⟩:=r2.get e4
  rw [e1,e2]
  have z1:its.toArray[j]=u:=by rw [List.getElem_toArray];rw [List.getElem?_eq_getElem h1] at q1;exact Option.some.inj q1
  have z2:its2.toArray[j]=v:=by rw [List.getElem_toArray];rw [List.getElem?_eq_getElem h2] at q3;exact Option.some.inj q3
  rw [z1,z2]
  exact ih j _ _ _ _ _ _ e1 e2 e3 e4 q2 q4
 have RN:SeqAt.RcAt A s (.ref a) (.ref b) (eqD (.lst ds) (.lst es))/\SeqAt.RcNeAt A s (.ref a) (.ref b) (!eqD (.lst ds) (.lst es)):=by
  by_cases h:ds.length=es.length
  ·have hsz:its.toArray.size=its2.toArray.size:=by rw [List.size_toArray,List.size_toArray];lia
   have val:(List.range its.toArray.size).all (fun j=>match ds[j]?,es[j]? with | some d,some e=>eqD d e | _,_=>false)=eqD (.lst ds) (.lst es):=by
    rw [C3,List.size_toArray,<- l3,<- l1,Ce ds es h]
   have R:=SeqAt.RcAt.lists (A:=A) p1.isList p2.isList hsz hu hitem
   have N:=SeqAt.RcNeAt.lists (A:=A) p1.isList p2.isList hsz hu hitem
   rw [val] at R N
   exact ⟨R,N⟩
  ·have hsz:(its.toArray.size != its2.toArray.size)=true:=by rw [List.size_toArray,List.size_toArray];simp;lia
   have val:eqD (.lst ds) (.lst es)=false:=by rw [C3];exact Ck ds es h
   rw [val]
   exact ⟨SeqAt.RcAt.lists_lengths p1.isList p2.isList hsz hu,SeqAt.RcNeAt.lists_lengths p1.isList p2.isList hsz hu⟩
 refine ⟨?_,RN.1,RN.2⟩
 by_cases hab:a=b
 ·subst hab
  have e:ds=es:=by
   have:=CC I (.lst ds) (.lst es) (.ref a) (by unfold Rep;exact ⟨a,xs,rfl,ha,hd⟩) (by unfold Rep;exact ⟨a,ys,rfl,hb,he⟩)
   cases this;rfl
  subst e
  rw [BR]
  exact SeqAt.EqAt.same _
 ·exact .of_refs hab RN.1
theorem Dm (I:Inv X pins σ H s):∀ (n:Nat) (A:Around) (d e:Dv) (x y:V) (u v:Value),AH d<=n->A.units+n < cLine->Rep X.K H d x->Rep X.K H e y->RelV x u->RelV y v->Eq3 A s u v (eqD d e):=by
 intro n
 induction n with
 | zero =>
  intro A d e x y u v hd hu hx hy ru rv
  have hu':A.units < cLine:=by lia
  cases d with
  | tup ds=>unfold AH at hd;lia
  | lst ds=>unfold AH at hd;lia
  | non =>
   unfold Rep at hx;subst hx;cases ru
   cases e <;> unfold Rep at hy
   case non=>subst hy;cases rv;exact ⟨SeqAt.EqAt.same _,SeqAt.RcAt.none_none,SeqAt.RcNeAt.none_none⟩
   case bl=>subst hy;cases rv;exact ⟨.none_bool _,.none_bool _,.none_bool _⟩
   case int=>subst hy;obtain ⟨t,rfl⟩:=rv;exact ⟨.none_int _ _,.none_int _ _,.none_int _ _⟩
   case str=>subst hy;obtain ⟨t,rfl⟩:=rv;exact ⟨.none_str _ _,.none_str _ _,.none_str _ _⟩
   case tup=>obtain ⟨a,xs,rfl,ha,_⟩:=hy;cases rv;obtain ⟨its,_,p,_⟩:=I.tuple ha;exact ⟨.none_tuple p hu',.none_tuple p hu',.none_tuple p hu'⟩
   case lst=>obtain ⟨a,xs,rfl,ha,_⟩:=hy;cases rv;obtain ⟨its,_,p,_⟩:=I.list ha;exact ⟨.none_list p.isList hu',.none_list p.isList hu',.none_list p.isList hu'⟩
  | bl c =>
   unfold Rep at hx;subst hx;cases ru
   cases e <;> unfold Rep at hy
   case non=>subst hy;cases rv;exact ⟨.bool_none _,.bool_none _,.bool_none _⟩
   case bl=>subst hy;cases rv;unfold eqD;exact ⟨.bool_bool _ _,.bool_bool _ _,.bool_bool _ _⟩
   case int=>subst hy;obtain ⟨t,rfl⟩:=rv;unfold eqD;exact ⟨.bool_int _ _ _,.bool_int _ _ _,.bool_int _ _ _⟩
   case str=>subst hy;obtain ⟨t,rfl⟩:=rv;exact ⟨.bool_str _ _ _,.bool_str _ _ _,.bool_str _ _ _⟩
   case tup=>obtain ⟨a,xs,rfl,ha,_⟩:=hy;cases rv;obtain ⟨its,_,p,_⟩:=I.tuple ha;exact ⟨.bool_tuple _ p hu',.bool_tuple _ p hu',.bool_tuple _ p hu'⟩
   case lst=>obtain ⟨a,xs,rfl,ha,_⟩:=hy;cases rv;obtain ⟨its,_,p,_⟩:=I.list ha;exact ⟨.bool_list _ p.isList hu',.bool_list _ p.isList hu',.bool_list _ p.isList hu'⟩
  | int c =>
   unfold Rep at hx;subst hx;obtain ⟨t0,rfl⟩:=ru
   cases e <;> unfold Rep at hy
   case non=>subst hy;cases rv;exact ⟨.int_none _ _,.int_none _ _,.int_none _ _⟩
   case bl=>subst hy;cases rv;unfold eqD;exact ⟨.int_bool _ _ _,.int_bool _ _ _,.int_bool _ _ _⟩
   case int=>subst hy;obtain ⟨t,rfl⟩:=rv;unfold eqD;exact ⟨.int_int _ _ _ _,.int_int _ _ _ _,.int_int _ _ _ _⟩
   case str=>subst hy;obtain ⟨t,rfl⟩:=rv;exact ⟨.int_str _ _ _ _,.int_str _ _ _ _,.int_str _ _ _ _⟩
   case tup=>obtain ⟨a,xs,rfl,ha,_⟩:=hy;cases rv;obtain ⟨its,_,p,_⟩:=I.tuple ha;exact ⟨.int_tuple _ _ p hu',.int_tuple _ _ p hu',.int_tuple _ _ p hu'⟩
   case lst=>obtain ⟨a,xs,rfl,ha,_⟩:=hy;cases rv;obtain ⟨its,_,p,_⟩:=I.list ha;exact ⟨.int_list _ _ p.isList hu',.int_list _ _ p.isList hu',.int_list _ _ p.isList hu'⟩
  | str c =>
   unfold Rep at hx;subst hx;obtain ⟨t0,rfl⟩:=ru
   cases e <;> unfold Rep at hy
   case non=>subst hy;cases rv;exact ⟨.str_none _ _,.str_none _ _,.str_none _ _⟩
   case bl=>subst hy;cases rv;exact ⟨.str_bool _ _ _,.str_bool _ _ _,.str_bool _ _ _⟩
   case int=>subst hy;obtain ⟨t,rfl⟩:=rv;exact ⟨.str_int _ _ _ _,.str_int _ _ _ _,.str_int _ _ _ _⟩
   case str=>subst hy;obtain ⟨t,rfl⟩:=rv;unfold eqD;exact ⟨.str_str _ _ _ _,.str_str _ _ _ _,.str_str _ _ _ _⟩
   case tup=>obtain ⟨a,xs,rfl,ha,_⟩:=hy;cases rv;obtain ⟨its,_,p,_⟩:=I.tuple ha;exact ⟨.str_tuple _ _ p hu',.str_tuple _ _ p hu',.str_tuple _ _ p hu'⟩
   case lst=>obtain ⟨a,xs,rfl,ha,_⟩:=hy;cases rv;obtain ⟨its,_,p,_⟩:=I.list ha;exact ⟨.str_list _ _ p.isList hu',.str_list _ _ p.isList hu',.str_list _ _ p.isList hu'⟩
 | succ n ih =>
  intro A d e x y u v hd hu hx hy ru rv
  have hu':A.units < cLine:=by lia
  have hin:A.in1.units+n < cLine:=by show A.units+1+n < cLine;lia
  cases d with
  | tup ds =>
   unfold AH at hd
   unfold Rep at hx
   obtain ⟨a,xs,rfl,ha,hr⟩:=hx
   cases ru
   cases e <;> unfold Rep at hy
   case tup es =>
    obtain ⟨b,ys,rfl,hb,hr'⟩:=hy
    cases rv
    refine ER I hu' ha hb hr hr' fun i d e x y u v e1 e2 e3 e4 ru rv=>?_
    obtain ⟨x',q1,q2⟩:=hr.get e1
    obtain ⟨y',q3,q4⟩:=hr'.get e2
    rw [e3] at q1;cases q1
    rw [e4] at q3;cases q3
    exact (ih A.in1 d e x y u v (by have:=D1 e1;lia) hin q2 q4 ru rv).1
   case non=>subst hy;cases rv;obtain ⟨its,_,p,_⟩:=I.tuple ha;exact ⟨.tuple_none p hu',.tuple_none p hu',.tuple_none p hu'⟩
   case bl=>subst hy;cases rv;obtain ⟨its,_,p,_⟩:=I.tuple ha;exact ⟨.tuple_bool _ p hu',.tuple_bool _ p hu',.tuple_bool _ p hu'⟩
   case int=>subst hy;obtain ⟨t,rfl⟩:=rv;obtain ⟨its,_,p,_⟩:=I.tuple ha;exact ⟨.tuple_int _ _ p hu',.tuple_int _ _ p hu',.tuple_int _ _ p hu'⟩
   case str=>subst hy;obtain ⟨t,rfl⟩:=rv;obtain ⟨its,_,p,_⟩:=I.tuple ha;exact ⟨.tuple_str _ _ p hu',.tuple_str _ _ p hu',.tuple_str _ _ p hu'⟩
   case lst=>obtain ⟨b,ys,rfl,hb,_⟩:=hy;cases rv;obtain ⟨its,_,p,_⟩:=I.tuple ha;obtain ⟨its2,_,p2,_⟩:=I.list hb;exact ⟨.tuple_list p p2.isList hu',.tuple_list p p2.isList hu',.tuple_list p p2.isList hu'⟩
  | lst ds =>
   unfold AH at hd
   unfold Rep at hx
   obtain ⟨a,xs,rfl,ha,hr⟩:=hx
   cases ru
   cases e <;> unfold Rep at hy
   case lst es =>
    obtain ⟨b,ys,rfl,hb,hr'⟩:=hy
    cases rv
    refine E6 I hu' ha hb hr hr' fun i d e x y u v e1 e2 e3 e4 ru rv=>?_
    obtain ⟨x',q1,q2⟩:=hr.get e1
    obtain ⟨y',q3,q4⟩:=hr'.get e2
    rw [e3] at q1;cases q1
    rw [e4] at q3;cases q3
    exact (ih A.in1 d e x y u v (by have:=D1 e1;lia) hin q2 q4 ru rv).1
   case non=>subst hy;cases rv;obtain ⟨its,_,p,_⟩:=I.list ha;exact ⟨.list_none p.isList hu',.list_none p.isList hu',.list_none p.isList hu'⟩
   case bl=>subst hy;cases rv;obtain ⟨its,_,p,_⟩:=I.list ha;exact ⟨.list_bool _ p.isList hu',.list_bool _ p.isList hu',.list_bool _ p.isList hu'⟩
   case int=>subst hy;obtain ⟨t,rfl⟩:=rv;obtain ⟨its,_,p,_⟩:=I.list ha;exact ⟨.list_int _ _ p.isList hu',.list_int _ _ p.isList hu',.list_int _ _ p.isList hu'⟩
   case str=>subst hy;obtain ⟨t,rfl⟩:=rv;obtain ⟨its,_,p,_⟩:=I.list ha;exact ⟨.list_str _ _ p.isList hu',.list_str _ _ p.isList hu',.list_str _ _ p.isList hu'⟩
   case tup=>obtain ⟨b,ys,rfl,hb,_⟩:=hy;cases rv;obtain ⟨its,_,p,_⟩:=I.list ha;obtain ⟨its2,_,p2,_⟩:=I.tuple hb;exact ⟨.list_tuple p.isList p2 hu',.list_tuple p.isList p2 hu',.list_tuple p.isList p2 hu'⟩
  | non=>exact ih A .non e x y u v (by unfold AH;lia) (by lia) hx hy ru rv
  | bl c=>exact ih A (.bl c) e x y u v (by unfold AH;lia) (by lia) hx hy ru rv
  | int c=>exact ih A (.int c) e x y u v (by unfold AH;lia) (by lia) hx hy ru rv
  | str c=>exact ih A (.str c) e x y u v (by unfold AH;lia) (by lia) hx hy ru rv
end
section
variable {X:Cx}
noncomputable def mEq (neg:Bool) (K:W.Frag):R2:=fun x y H Q=>match x,y with
 | .non,.non=>Q (.bl (neg ^^ true)) H
 | .bl a,.bl b=>Q (.bl (neg ^^ (a == b))) H
 | .int a,.int b=>Q (.bl (neg ^^ (a == b))) H
 | .str a,.str b=>Q (.bl (neg ^^ (a == b))) H
 | x,y=>∃ d e,Rep K H d x/\Rep K H e y/\AH d<=60/\Q (.bl (neg ^^ eqD d e)) H
theorem Fl (hu:X.A.units+60 < cLine):OpR X (compareOp .Eq) (fun x y H Q=>∃ d e,Rep X.K H d x/\Rep X.K H e y/\AH d<=60/\Q (.bl (eqD d e)) H):=by
 intro pins s σ H x y v u Q I rx ry h
 obtain ⟨d,e,h1,h2,h3,q⟩:=h
 exact (Dm I 60 X.A d e x y v u h3 hu h1 h2 rx ry).2.1 X.prog X.w _ _ ⟨.bl _,H,I,rfl,q⟩
theorem FQ (hu:X.A.units+60 < cLine):OpR X (compareOp .NotEq) (fun x y H Q=>∃ d e,Rep X.K H d x/\Rep X.K H e y/\AH d<=60/\Q (.bl (!eqD d e)) H):=by
 intro pins s σ H x y v u Q I rx ry h
 obtain ⟨d,e,h1,h2,h3,q⟩:=h
 exact (Dm I 60 X.A d e x y v u h3 hu h1 h2 rx ry).2.2 X.prog X.w _ _ ⟨.bl _,H,I,rfl,q⟩
theorem DC {neg:Bool} {K:W.Frag} {x y:V} {H:Hp} {Q:VK} (h:mEq neg K x y H Q):∃ d e,Rep K H d x/\Rep K H e y/\AH d<=60/\Q (.bl (neg ^^ eqD d e)) H:=by
 unfold mEq at h
 split at h
 ·exact ⟨.non,.non,by unfold Rep;rfl,by unfold Rep;rfl,by unfold AH;lia,by unfold eqD;exact h⟩
 ·rename_i a b;exact ⟨.bl a,.bl b,by unfold Rep;rfl,by unfold Rep;rfl,by unfold AH;lia,by unfold eqD;exact h⟩
 ·rename_i a b;exact ⟨.int a,.int b,by unfold Rep;rfl,by unfold Rep;rfl,by unfold AH;lia,by unfold eqD;exact h⟩
 ·rename_i a b;exact ⟨.str a,.str b,by unfold Rep;rfl,by unfold Rep;rfl,by unfold AH;lia,by unfold eqD;exact h⟩
 ·exact h
theorem FG (hu:X.A.units+60 < cLine):OpR X (compareOp .Eq) (mEq false X.K):=(Fl hu).imp fun x y H Q h=>by
 obtain ⟨d,e,h1,h2,h3,q⟩:=DC h
 exact ⟨d,e,h1,h2,h3,by rw [Bool.false_xor] at q;exact q⟩
theorem Et (hu:X.A.units+60 < cLine):OpR X (compareOp .NotEq) (mEq true X.K):=(FQ hu).imp fun x y H Q h=>by
 obtain ⟨d,e,h1,h2,h3,q⟩:=DC h
 exact ⟨d,e,h1,h2,h3,by rw [Bool.true_xor] at q;exact q⟩
end
section
variable {X:Cx} {a b c e:Expr} {es:List Expr} {ta tb tc te:TE} {tA tB':TT} {t:TA} {pos p:Pos} {x:Str}
noncomputable def isB (v:V) (Q:Bool->Prop):Prop:=match v with
 | .bl c=>Q c
 | _=>False
theorem Dk {v:V} {Q:Bool->Prop} (h:isB v Q):∃ c,v=.bl c/\Q c:=by
 cases v <;> first | exact False.elim h | exact ⟨_,rfl,h⟩
noncomputable def AL (t:TE):Prop:=∀ σ H (Q Q':VK),(∀ v H,Q v H->Q' v H)->t σ H Q->t σ H Q'
noncomputable def uB (t:TE):TT:=fun σ H Q=>t σ H fun x H1=>isB x fun c=>Q c H1
theorem AO {op:CmpOp} {r:R2} (ho:OpR X (compareOp op) r) (ha:PE X a ta) (hb:PE X b tb) (hm:behindInMarks op b=false:=by first | exact B3 _ (by decide) (by decide) | rfl):PT X (.Compare a [op] [b] pos) (uB (tOp r ta tb)):=by
 intro pins s σ H Q I h
 refine wpAny_isTrue_Compare1 (thn (ha pins s σ H _ I h) fun v s1 ⟨x,H1,I1,r1,q1⟩=>thn (hb pins s1 σ H1 _ I1 q1) fun u s2 ⟨y,H2,I2,r2,q2⟩ =>
  thn (ho pins s2 σ H2 x y v u _ I2 r1 r2 q2) fun c s3 ⟨z,H3,I3,r3,q⟩=>?_) hm
 obtain ⟨k,e,q3⟩:=Dk q
 subst e
 cases r3
 exact wpAny_truthy_bool ⟨H3,I3,q3⟩
theorem GC {op:CmpOp} {r:R2} (ho:OpR X (compareOp op) r) (ha:PE X a ta) (hb:PE X b tb) (hm:behindInMarks op b=false:=by first | exact B3 _ (by decide) (by decide) | rfl):PE X (.Compare a [op] [b] pos) (tOp r ta tb):=Gc ho ha hb hm
theorem HM (h:PE X e te) (he:∀ whole,isTrue e X.env whole=(do let v <- whole;standAt e.pos;holding [v] (truthy v)):=by intro _;rfl):PT X e (uB te):=by
 intro pins s σ H Q I hq
 refine isTrue_plain (thn (h pins s σ H _ I hq) fun v s1 ⟨x,H1,I1,r1,q1⟩=>?_) (he _)
 obtain ⟨k,e,q⟩:=Dk q1
 subst e
 cases r1
 exact wpAny_truthy_bool ⟨H1,I1,q⟩
noncomputable def SqA (K:W.Frag) (H:Hp) (p:Addr) (xs:List V):Prop:=SqL K H p xs\/SqT K H p xs
noncomputable def mIx (K:W.Frag):R2:=fun x y H Q=>match x,y with
 | .ref p,.int i=>∃ xs v,SqA K H p xs/\atI xs i=some v/\Q v H
 | .str z,.int i=>∃ c,z.length<=sizeLine/\atI z.cps.toList i=some c/\Q (.str ⟨#[c]⟩) H
 | _,_=>False
theorem IxR.imp {r r':R2} (h:IxR X r) (g:∀ x y H Q,r' x y H Q->r x y H Q):IxR X r':=fun a b pins s σ H x y v u Q I rx ry q z=>h a b pins s σ H x y v u Q I rx ry (g _ _ _ _ q) z
theorem FS:IxR X (mIx X.K):=ix_seq.imp fun x y H Q q=>by
 cases x <;> cases y <;> first
  | exact False.elim q
  | (obtain ⟨xs,v,h | h,e,q⟩:=q
     ·exact .inl ⟨_,xs,_,v,rfl,rfl,h,e,q⟩
     ·exact .inr (.inl ⟨_,xs,_,v,rfl,rfl,h,e,q⟩))
  | (obtain ⟨c,hz,e,q⟩:=q
     exact .inr (.inr ⟨_,_,c,rfl,rfl,hz,e,q⟩))
theorem Gy (ha:PE X a ta) (hb:PE X b tb) (hs:Cq b:=by intro _ _;rfl):PE X (.Subscript a b pos) (tOp (mIx X.K) ta tb):=Gn FS ha hb hs
noncomputable def Bv (K:W.Frag):List V->Hp->VK->Prop:=fun xs H Q=>match xs with
 | [x]=>∃ n,D4 K x H n/\Q (.int n) H
 | _=>False
theorem HH:CallR X (.builtin "len") (Bv X.K):=call_len.imp fun xs H Q q=>by
 match xs,q with
 | [x],⟨n,h,q⟩=>exact ⟨x,n,rfl,h,q⟩
noncomputable def CK:List V->Hp->VK->Prop:=fun xs H Q=>match xs with
 | [.int i,.int j]=>Q (.int (max i j)) H
 | _=>False
theorem Ed (hc:X.calm=true):CallR X (.builtin "max") CK:=(FK hc).imp fun xs H Q q=>by
 match xs,q with
 | [.int i,.int j],q =>
  refine ⟨i,j,rfl,?_⟩
  have e:(if j > i then j else i)=max i j:=by split <;> lia
  rw [e]
  exact q
end
noncomputable def CJ (scope sc:Scope):Bool :=
 decide (scope.kind=.function) && decide (scope.names.map (·.1)).Nodup && scope.names.all fun y=>!(y.2 == .free) || (sc.names.lookup y.1 == some .cell || sc.names.lookup y.1 == some .free)
theorem CompScope.of {scope sc:Scope} (h:CJ scope sc=true):CompScope scope sc:=by
 unfold CJ at h
 rw [Bool.and_eq_true,Bool.and_eq_true] at h
 obtain ⟨⟨h1,h2⟩,h3⟩:=h
 refine ⟨of_decide_eq_true h1,of_decide_eq_true h2,fun y hy hf=>?_⟩
 have:=List.all_eq_true.mp h3 y hy
 rw [hf] at this
 rcases (Bool.or_eq_true _ _).mp this with z | z
 ·exact absurd z (by decide)
 ·rcases (Bool.or_eq_true _ _).mp z with z | z
  ·exact .inl (by simpa using z)
  ·exact .inr (by simpa using z)
section
variable {X:Cx} {tg iter elt:Expr} {ifs:List Expr} {scope:Scope} {pos:Pos} {N':List Str} {own:Nat} {ix:List Nat} {g:TG} {tc:TT} {te:TE} {wi:TI}
theorem frB {l:List Str} (h:(l.all fun x=>scope.names.lookup x == some .free)=true):∀ x∈l,scope.names.lookup x=some .free:=fun x hx=>by
 have:=List.all_eq_true.mp h x hx
 simpa using this
theorem Ek (hc:X.calm=true) (hi:PI X tg iter wi) (S:CJ scope X.env.scope=true)
 (hlen:N'.length=own+ix.length) (hN:(N'.drop own).map some=ix.map (X.N[·]?)) (hfr:((N'.drop own).all fun x=>scope.names.lookup x == some .free)=true)
 (hg:∀ c,PG (X.comp scope N' c) tg g) (hgo:Bw own g) (ht:∀ c,PTs (X.comp scope N' c) ifs tc) (he:∀ c,PE (X.comp scope N' c) elt te)
 (hs:∀ x,foldedSetIterable iter X.env x=pure x:=by intro _;rfl):PE X (.ListComp elt [⟨tg,iter,ifs,0⟩] scope pos) (B5 wi own ix g tc te) :=
 HN hc hi (.of S) hlen hN (frB hfr) hg hgo ht he hs
noncomputable def CT:BM:=fun o i v H Q=>match o,i with
 | .ref p,.int k=>∃ xs j,H p=some (.lst xs)/\ixN xs.length k=some j/\Q (upd H p (.lst (xs.set j v)))
 | _,_=>False
theorem Bk:CG X CT:=by
 intro pins s σ H o i v ov iv u Q I ro ri rv h
 cases o <;> cases i <;> first
  | exact False.elim h
  | (obtain ⟨xs,j,h1,h2,q⟩:=h
     exact HL pins s σ H _ _ v ov iv u Q I ro ri rv ⟨_,xs,_,j,rfl,rfl,h1,h2,q⟩)
theorem EU {lo:Int} {n:Nat} {σc:St} {Q:VK} {H:Hp} (Pv:Nat->List V->Hp->Prop) (h0:Pv 0 [] H) (hz:∀ i ys H,i < n->Pv i ys H->ys.length < sizeLine)
 (hs:∀ i ys H,i < n->Pv i ys H->g (.int (lo+i)) σc H fun σ2 H2=>tc σ2 H2 fun b H3=>if b=true then te σ2 H3 fun y H4=>Pv (i+1) (ys++[y]) H4 else Pv (i+1) ys H3)
 (hd:∀ ys H,Pv n ys H->∀ p,H p=none->Q (.ref p) (upd H p (.lst ys))):Ch (Itr lo n) g tc te σc Q H:=by
 refine ⟨fun i m ys H=>m=n - i/\i<=n/\Pv i ys H,⟨n,by simp,Nat.zero_le _,h0⟩,?_⟩
 rintro i m ys H ⟨rfl,hi,p⟩
 by_cases hlt:i < n
 ·refine .inr ⟨hlt,hz i ys H hlt p,Pv (i+1),fun ys' H' p'=>⟨n - (i+1),by lia,rfl,hlt,p'⟩,fun x H' y=>?_⟩
  obtain ⟨e,y⟩:=y
  subst e y
  exact hs i ys _ hlt p
 ·have e:i=n:=by lia
  subst e
  exact .inl ⟨Nat.le_refl _,hd ys H p⟩
end
theorem BY {A:Around} {k:Nat} (hr:Room k A):A.units+60 < cLine:=by have:=hr.un;lia
noncomputable def Frm (t:Addr) (H H':Hp):Prop:=∀ b o,b≠t->H b=some o->H' b=some o
theorem Frm.trans {t:Addr} {H H1 H2:Hp} (a:Frm t H H1) (b:Frm t H1 H2):Frm t H H2:=fun c o n h=>b c o n (a c o n h)
theorem Frm.upd {t p:Addr} {H:Hp} {o:HO} (h:H p=none):Frm t H (upd H p o):=fun b u _ e=>by rw [AB (Av e h)];exact e
theorem Same.upd {p:Addr} {H:Hp} {o:HO} (h:H p=none):Same H (L2.upd H p o):=fun b u e=>by rw [AB (Av e h)];exact e
theorem E2 {K:W.Frag} {H H':Hp} {a:Addr} {xs:List V} (h:SqL K H a xs) (k:∀ o,H a=some o->H' a=some o):SqL K H' a xs:=by
 rcases h with (h | ⟨o,h⟩) | h
 ·exact .inl (.inl (k _ h))
 ·exact .inl (.inr ⟨o,k _ h⟩)
 ·exact .inr h
theorem Ev {K:W.Frag} {H H':Hp} {a:Addr} {xs:List V} (h:SqT K H a xs) (k:∀ o,H a=some o->H' a=some o):SqT K H' a xs:=by
 rcases h with (h | ⟨o,h⟩) | h
 ·exact .inl (.inl (k _ h))
 ·exact .inl (.inr ⟨o,k _ h⟩)
 ·exact .inr h
noncomputable def ScrAt (K:W.Frag) (H:Hp) (t a:Addr) (ns:List Int):Prop :=
 (Rd H a (.lst (ns.map V.int))/\a≠t)\/∃ (o:Obj) (its:Array Value) (n:Nat),K.lookup a=some o/\o.cls=.type "list" /\ o.dict=none/\o.data=.seq its n/\its.size<=sizeLine/\Vals (ns.map V.int) its.toList
theorem ScrAt.sq {K:W.Frag} {H:Hp} {t a:Addr} {ns:List Int} (h:ScrAt K H t a ns):SqL K H a (ns.map V.int):=by
 rcases h with ⟨h,_⟩ | h
 ·exact .inl h
 ·exact .inr h
theorem ScrAt.stay {K:W.Frag} {H H':Hp} {t a:Addr} {ns:List Int} (h:ScrAt K H t a ns) (k:∀ o,a≠t->H a=some o->H' a=some o):ScrAt K H' t a ns:=by
 rcases h with ⟨h | ⟨o,h⟩,n⟩ | h
 ·exact .inl ⟨.inl (k _ n h),n⟩
 ·exact .inl ⟨.inr ⟨o,k _ n h⟩,n⟩
 ·exact .inr h
theorem ScrAt.of {K:W.Frag} {H:Hp} {t a:Addr} {ns:List Int} (h:SqL K H a (ns.map V.int)) (ht:H t=none):ScrAt K H t a ns:=by
 rcases h with h | h
 ·refine .inl ⟨h,fun e=>?_⟩
  subst e
  rcases h with h | ⟨o,h⟩ <;> rw [ht] at h <;> cases h
 ·exact .inr h
structure Tape (K:W.Frag) (H:Hp) (t a:Addr) (ns:List Int):Prop where
 at_:∃ i r c:Int,0<=i/\0<=r/\H t=some (.lst [.ref a,.int i,.int r,.int c])
 scr:ScrAt K H t a ns
theorem Tape.same {K:W.Frag} {H H':Hp} {t a:Addr} {ns:List Int} (T:Tape K H t a ns) (h:Same H H'):Tape K H' t a ns:=by
 obtain ⟨i,r,c,h1,h2,h3⟩:=T.at_
 exact ⟨⟨i,r,c,h1,h2,h _ _ h3⟩,T.scr.stay fun o _ e=>h a o e⟩
theorem Tape.upd {K:W.Frag} {H:Hp} {t a p:Addr} {o:HO} {ns:List Int} (T:Tape K H t a ns) (h:H p=none):Tape K (L2.upd H p o) t a ns:=T.same (Same.upd h)
theorem Tape.free {K:W.Frag} {H H':Hp} {t a p:Addr} {ns:List Int} (T:Tape K H' t a ns) (h:Frm t H H') (hp:H' p=none):H p=none:=by
 cases e:H p with
 | none=>rfl
 | some o =>
  by_cases hpt:p=t
  ·subst hpt
   obtain ⟨i,r,c,_,_,h3⟩:=T.at_
   rw [h3] at hp;cases hp
  ·rw [h p o hpt e] at hp;cases hp
theorem Tape.neT {K:W.Frag} {H:Hp} {t a p:Addr} {ns:List Int} (T:Tape K H t a ns) (hp:H p=none):p≠t:=fun e=>by
 obtain ⟨i,r,c,_,_,h3⟩:=T.at_
 rw [e,h3] at hp;cases hp
noncomputable def CV (K:W.Frag):Sp:=fun vs H Q _=>match vs with
 | [.ref t,.int m]=>∃ a ns,Tape K H t a ns/\okDiv m/\∀ d H',0<=d->d < m->Tape K H' t a ns->(∀ b,b≠t->H' b=H b)->Q (.int d) H'
 | _=>False
noncomputable def CP (K:W.Frag):Sp:=fun vs H Q _=>match vs with
 | [.ref a]=>∀ p,H p=none->Q (.ref p) (upd H p (.lst [.ref a,.int 0,.int 0,.int 0]))
 | _=>False
noncomputable def Bl (K:W.Frag):Sp:=fun vs H Q _=>∃ (a:Addr) (ns:List Int),vs=[.ref a]/\SqL K H a (ns.map V.int)/\ns.length<=63/\∀ H',Q (.bl true) H'
theorem D8 {xs:List V} {i:Int} {n:Nat} {v:V} (h:i=(n:Int)) (hx:xs[n]? = some v):atI xs i=some v:=by
 subst h
 have hn:n < xs.length:=(List.getElem?_eq_some_iff.mp hx).1
 unfold atI ixN
 rw [if_pos (Int.natCast_nonneg n),if_pos (by lia)]
 simpa using hx
theorem Dh {ns:List Int} {i:Int} (h0:0<=i) (h1:i < ns.length):∃ z,atI (ns.map V.int) i=some (.int z):=by
 obtain ⟨n,rfl⟩:=Int.eq_ofNat_of_zero_le h0
 have hn:n < ns.length:=by lia
 exact ⟨ns[n],D8 rfl (by rw [List.getElem?_map,List.getElem?_eq_getElem hn];rfl)⟩
theorem HV {K:W.Frag} {H:Hp} {a p:Addr} {ns:List Int} (h:H p=none) (hs:SqL K H a (ns.map V.int)):Tape K (L2.upd H p (.lst [.ref a,.int 0,.int 0,.int 0])) p a ns :=
 ⟨⟨0,0,0,Int.le_refl _,Int.le_refl _,AC⟩,(ScrAt.of hs h).stay fun o n e=>by rw [AB n];exact e⟩
theorem CA {j:Int} (h1:0 < j) (h2:j<=2 ^ 1000):okDiv j:=⟨h1,Int.lt_of_le_of_lt h2 (by decide)⟩
theorem AJ {n:Nat} (h:n<=1000):n<=sizeLine:=Nat.le_of_lt (EA h)
noncomputable def Ae (t:TT):Prop:=∀ σ H (Q Q':Bool->Hp->Prop),(∀ b H,Q b H->Q' b H)->t σ H Q->t σ H Q'
noncomputable def Ao (t:TA):Prop:=∀ σ H (Q Q':List V->Hp->Prop),(∀ b H,Q b H->Q' b H)->t σ H Q->t σ H Q'
noncomputable def Al (r:R2):Prop:=∀ x y H (Q Q':VK),(∀ v H,Q v H->Q' v H)->r x y H Q->r x y H Q'
noncomputable def Bx (r:List V->Hp->VK->Prop):Prop:=∀ xs H (Q Q':VK),(∀ v H,Q v H->Q' v H)->r xs H Q->r xs H Q'
noncomputable def At (sp:Sp):Prop:=∀ vs H (Q Q':VK) E,(∀ v H,Q v H->Q' v H)->sp vs H Q E->sp vs H Q' E
noncomputable def Cv (t:TI):Prop:=∀ σ H (Q Q':It->Hp->Prop),(∀ J H,Q J H->Q' J H)->t σ H Q->t σ H Q'
noncomputable def DF (t:BM):Prop:=∀ o i v H (Q Q':Hp->Prop),(∀ H,Q H->Q' H)->t o i v H Q->t o i v H Q'
structure Ends.le (D D':Ends):Prop where
 nx:∀ σ H,D.nx σ H->D'.nx σ H
 rt:∀ v H,D.rt v H->D'.rt v H
 bk:∀ σ H,D.bk σ H->D'.bk σ H
 ct:∀ σ H,D.ct σ H->D'.ct σ H
noncomputable def AY (t:TS):Prop:=∀ D D' σ H,Ends.le D D'->t D σ H->t D' σ H
theorem FA {i:Nat}:AL (Be i):=fun σ H Q Q' h q=>by
 unfold Be at *
 split at q
 ·exact h _ _ q
 ·exact q.elim
theorem EL {v:V}:AL (tC v):=fun _ _ _ _ h q=>h _ _ q
theorem FP {r:R2} {ta tb:TE} (hr:Al r) (ha:AL ta) (hb:AL tb):AL (tOp r ta tb):=fun σ H Q Q' h q=>ha _ _ _ _ (fun _ _ q=>hb _ _ _ _ (fun _ _ q=>hr _ _ _ _ _ h q) q) q
theorem HK {K}:Al (Bo K):=fun x y H Q Q' h q=>by
 unfold Bo at *
 split at q
 ·exact h _ _ q
 ·exact ⟨q.1,h _ _ q.2⟩
 ·rcases q with ⟨l,b,xs,zs,e1,e2,h1,h2,h3,q⟩ | ⟨a,b,xs,ys,e1,e2,h1,h2,h3,h4,q1,q2⟩
  ·exact .inl ⟨l,b,xs,zs,e1,e2,h1,h2,h3,fun p hp=>h _ _ (q p hp)⟩
  ·exact .inr ⟨a,b,xs,ys,e1,e2,h1,h2,h3,h4,fun e=>h _ _ (q1 e),fun e p hp=>h _ _ (q2 e p hp)⟩
 ·exact q.elim
theorem Gv:Al Cn:=fun x y H Q Q' h q=>by unfold Cn at *;split at q <;> first | exact ⟨q.1,h _ _ q.2⟩ | exact q.elim
theorem HJ:Al Cm:=fun x y H Q Q' h q=>by unfold Cm at *;split at q <;> first | exact ⟨q.1,h _ _ q.2⟩ | exact q.elim
theorem Fq:Al CY:=fun x y H Q Q' h q=>by unfold CY at *;split at q <;> first | exact ⟨q.1,h _ _ q.2⟩ | exact q.elim
theorem Eh {p}:Al (Bp p):=fun x y H Q Q' h q=>by unfold Bp at *;split at q <;> first | exact h _ _ q | exact q.elim
theorem Fg {n K}:Al (mEq n K):=fun x y H Q Q' h q=>by
 unfold mEq at *
 split at q <;> first | exact h _ _ q | (obtain ⟨d,e,h1,h2,h3,q⟩:=q;exact ⟨d,e,h1,h2,h3,h _ _ q⟩)
theorem FW {K}:Al (mIx K):=fun x y H Q Q' h q=>by
 unfold mIx at *
 split at q
 ·obtain ⟨xs,v,h1,h2,q⟩:=q;exact ⟨xs,v,h1,h2,h _ _ q⟩
 ·obtain ⟨c,h1,h2,q⟩:=q;exact ⟨c,h1,h2,h _ _ q⟩
 ·exact q.elim
theorem FY {v:V} {Q Q':Bool->Prop} (h:∀ b,Q b->Q' b) (q:isB v Q):isB v Q':=by
 cases v <;> first | exact h _ q | exact q
theorem Gj {t:TE} (h:AL t):Ae (uB t):=fun σ H Q Q' k q=>h _ _ _ _ (fun _ _ q=>FY (fun b q=>k b _ q) q) q
theorem HU {t:TT} {ta tb:TE} (ht:Ae t) (ha:AL ta) (hb:AL tb):AL (tIf t ta tb):=fun σ H Q Q' h q=>ht _ _ _ _ (fun b _ q=>by
 cases b with
 | true=>exact ha _ _ _ _ h q
 | false=>exact hb _ _ _ _ h q) q
theorem GF {t u:TT} (ht:Ae t) (hu:Ae u):Ae (DV t u):=fun σ H Q Q' h q=>ht _ _ _ _ (fun b _ q=>by
 cases b with
 | true=>exact hu _ _ _ _ h q
 | false=>exact h _ _ q) q
theorem Gb {t u:TT} (ht:Ae t) (hu:Ae u):Ae (tOr t u):=fun σ H Q Q' h q=>ht _ _ _ _ (fun b _ q=>by
 cases b with
 | true=>exact h _ _ q
 | false=>exact hu _ _ _ _ h q) q
theorem HW {t:TT} (ht:Ae t):Ae (EB t):=fun σ H Q Q' h q=>ht _ _ _ _ (fun b _ q=>h _ _ q) q
theorem FU:Ao Du:=fun _ _ _ _ h q=>h _ _ q
theorem FZ {ta:TE} {t:TA} (ha:AL ta) (ht:Ao t):Ao (D5 ta t):=fun σ H Q Q' h q=>ha _ _ _ _ (fun _ _ q=>ht _ _ _ _ (fun _ _ q=>h _ _ q) q) q
theorem Gh {r} {t:TA} (hr:Bx r) (ht:Ao t):AL (tCB r t):=fun σ H Q Q' h q=>ht _ _ _ _ (fun _ _ q=>hr _ _ _ _ h q) q
theorem Eg {sp dvs E} {t:TA} (hs:At sp) (ht:Ao t):AL (DB sp dvs E t):=fun σ H Q Q' h q=>ht _ _ _ _ (fun _ _ q=>hs _ _ _ _ _ h q) q
theorem Ef {t:TA} (ht:Ao t):AL (C4 t):=fun σ H Q Q' h q=>ht _ _ _ _ (fun _ _ q=>⟨q.1,fun p hp=>h _ _ (q.2 p hp)⟩) q
theorem Ga {t:TA} (ht:Ao t):AL (Dy t):=fun σ H Q Q' h q=>ht _ _ _ _ (fun _ _ q=>⟨q.1,fun p hp=>h _ _ (q.2 p hp)⟩) q
theorem E8 {wi own ix g tc te} (hi:Cv wi):AL (B5 wi own ix g tc te):=fun σ H Q Q' h q=>hi _ _ _ _ (fun J H1 q=>by
 obtain ⟨W,w0,turn⟩:=q
 refine ⟨W,w0,fun i m ys H w=>?_⟩
 rcases turn i m ys H w with ⟨a,b⟩ | r
 ·exact .inl ⟨a,fun p hp=>h _ _ (b p hp)⟩
 ·exact .inr r) q
theorem Fu {K}:Bx (Bv K):=fun xs H Q Q' h q=>by unfold Bv at *;split at q <;> first | (obtain ⟨n,a,q⟩:=q;exact ⟨n,a,h _ _ q⟩) | exact q.elim
theorem Ea:Bx CK:=fun xs H Q Q' h q=>by unfold CK at *;split at q <;> first | exact h _ _ q | exact q.elim
theorem GS {ta:TA} (h:Ao ta):Cv (Cw ta):=fun σ H Q Q' k q=>h _ _ _ _ (fun _ _ ⟨j,e,a,b,q⟩=>⟨j,e,a,b,k _ _ q⟩) q
theorem FV:DF CT:=fun o i v H Q Q' h q=>by
 unfold CT at *
 split at q
 ·obtain ⟨xs,j,a,b,q⟩:=q;exact ⟨xs,j,a,b,h _ q⟩
 ·exact q.elim
theorem GY {to ti:TE} {t:BM} (h1:AL to) (h2:AL ti) (h3:DF t):B2 (DI to ti t):=fun v σ H Q Q' h q=>h1 _ _ _ _ (fun _ _ q=>h2 _ _ _ _ (fun _ _ q=>h3 _ _ _ _ _ _ (fun H q=>h _ _ q) q) q) q
theorem Gk:AY Cb:=fun D D' σ H h q=>h.nx _ _ q
theorem G3 {t u:TS} (h1:AY t) (h2:AY u):AY (Cf t u):=fun D D' σ H h q=>h1 { D with nx:=u D } { D' with nx:=u D' } σ H ⟨fun σ H q=>h2 D D' σ H h q,h.rt,h.bk,h.ct⟩ q
theorem EY {te:TE} {g:TG} (h1:AL te) (h2:B2 g):AY (CM te g):=fun D D' σ H h q=>h1 _ _ _ _ (fun _ _ q=>h2 _ _ _ _ _ h.nx q) q
theorem HR {te:TE} (h1:AL te):AY (Dx te):=fun D D' σ H h q=>h1 _ _ _ _ h.rt q
theorem FE {c:TT} {t u:TS} (hc:Ae c) (h1:AY t) (h2:AY u):AY (DJ c t u):=fun D D' σ H h q=>hc _ _ _ _ (fun b _ q=>by
 cases b with
 | true=>exact h1 _ _ _ _ h q
 | false=>exact h2 _ _ _ _ h q) q
theorem HG {wi:TI} {g:TG} {tb:TS} (hi:Cv wi) (hg:B2 g) (h1:AY tb):AY (Dg wi g tb):=fun D D' σ H h q=>hi _ _ _ _ (fun J H1 q=>by
 obtain ⟨W,w0,turn⟩:=q
 refine ⟨W,w0,fun i m σ H w=>?_⟩
 rcases turn i m σ H w with ⟨a,b⟩ | ⟨a,N,hN,step⟩
 ·exact .inl ⟨a,h.nx _ _ b⟩
 ·exact .inr ⟨a,N,hN,fun x H' y=>hg _ _ _ _ _ (fun σ2 H2 q=>h1 { D with nx:=N,ct:=N,bk:=D.nx } _ _ _ ⟨fun _ _ q=>q,h.rt,h.nx,fun _ _ q=>q⟩ q) (step x H' y)⟩) q
theorem Ba {t u:TS} {D:Ends} {σ:St} {H:Hp} (J:St->Hp->Prop) (h1:t { D with nx:=J } σ H) (h2:∀ σ' H',J σ' H'->u D σ' H') (hm:AY t):Cf t u D σ H :=
 hm { D with nx:=J } { D with nx:=u D } σ H ⟨h2,fun _ _ q=>q,fun _ _ q=>q,fun _ _ q=>q⟩ h1
section
variable {X:Cx} {K:W.Frag} {a b c e l tg:Expr} {es:List Expr} {ta tb tc te tl:TE} {pos p:Pos}
theorem A1 (hK:X.K=K:=by rfl):OpR X (binaryOp .Add) (Bo K):=hK ▸ GT
theorem kEq (hu:X.A.units+60 < cLine) (hK:X.K=K:=by rfl):OpR X (compareOp .Eq) (mEq false K):=hK ▸ FG hu
theorem kNe (hu:X.A.units+60 < cLine) (hK:X.K=K:=by rfl):OpR X (compareOp .NotEq) (mEq true K):=hK ▸ Et hu
theorem kIx (ha:PE X a ta) (hb:PE X b tb) (hs:Cq b:=by intro _ _;rfl) (hK:X.K=K:=by rfl):PE X (.Subscript a b pos) (tOp (mIx K) ta tb):=hK ▸ Gy ha hb hs
theorem CW (hK:X.K=K:=by rfl):CallR X (.builtin "len") (Bv K):=hK ▸ HH
end
section
variable {X:Cx}
end
section
variable {X:Cx} {K:W.Frag} {o e:Expr} {es:List Expr} {to:TE} {t:TA} {apos cpos:Pos}
end
section
variable {prog:Program} {w:World} {A:Around} {E:Value->Shared->Prop} {s:Shared}
end
section
variable {X:Cx} {K:W.Frag} {pos p2:Pos} {e:Expr} {lo hi:Option Expr} {te:TE} {tl th:TO}
end
theorem C1 {K:W.Frag} {H H':Hp} {a:Addr} {xs:List V} (h:SqT K H a xs) (s:Same H H'):SqT K H' a xs:=Ev h fun o e=>s a o e
mutual
theorem Rep.same {K:W.Frag} {H H':Hp} (s:Same H H'):∀ (d:Dv) (v:V),Rep K H d v->Rep K H' d v
 | .non,v,h=>by unfold Rep at *;exact h
 | .bl b,v,h=>by unfold Rep at *;exact h
 | .int i,v,h=>by unfold Rep at *;exact h
 | .str x,v,h=>by unfold Rep at *;exact h
 | .tup ds,v,h=>by
  unfold Rep at *
  obtain ⟨a,xs,e,h1,h2⟩:=h
  exact ⟨a,xs,e,C1 h1 s,Reps.same s ds xs h2⟩
 | .lst ds,v,h=>by
  unfold Rep at *
  obtain ⟨a,xs,e,h1,h2⟩:=h
  exact ⟨a,xs,e,E2 h1 fun o e=>s a o e,Reps.same s ds xs h2⟩
theorem Reps.same {K:W.Frag} {H H':Hp} (s:Same H H'):∀ (ds:List Dv) (xs:List V),Reps K H ds xs->Reps K H' ds xs
 | [],xs,h=>by unfold Reps at *;exact h
 | d::ds,xs,h=>by
  unfold Reps at *
  obtain ⟨x,r,e,h1,h2⟩:=h
  exact ⟨x,r,e,Rep.same s d x h1,Reps.same s ds r h2⟩
end
theorem Tape.lst {K:W.Frag} {H:Hp} {t a:Addr} {ns:List Int} (T:Tape K H t a ns):∃ zs,H t=some (.lst zs):=by
 obtain ⟨i,r,c,_,_,h⟩:=T.at_
 exact ⟨_,h⟩
theorem DL {K:W.Frag} {H:Hp} {p:Addr} {xs:List V} {ds:List Dv} (h:H p=some (.tup xs)) (r:Reps K H ds xs):Rep K H (.tup ds) (.ref p):=by unfold Rep;exact ⟨p,xs,rfl,.of h,r⟩
theorem CN {K:W.Frag} {H:Hp}:Reps K H [] []:=by unfold Reps;rfl
theorem BU {K:W.Frag} {H:Hp} {d:Dv} {ds:List Dv} {x:V} {xs:List V} (h:Rep K H d x) (r:Reps K H ds xs):Reps K H (d::ds) (x::xs):=by unfold Reps;exact ⟨x,xs,rfl,h,r⟩
theorem G4 {K:W.Frag} {H:Hp} {x:Str}:Rep K H (.str x) (.str x):=by unfold Rep;rfl
theorem Cy {K:W.Frag} {H:Hp} {x:Int}:Rep K H (.int x) (.int x):=by unfold Rep;rfl
theorem FX {K:W.Frag} {H:Hp} {x:Bool}:Rep K H (.bl x) (.bl x):=by unfold Rep;rfl
theorem Reps.append {K:W.Frag} {H:Hp}:∀ {ds es:List Dv} {xs ys:List V},Reps K H ds xs->Reps K H es ys->Reps K H (ds++es) (xs++ys)
 | [],es,xs,ys,h,h'=>by unfold Reps at h;subst h;exact h'
 | d::ds,es,xs,ys,h,h'=>by
  unfold Reps at h
  obtain ⟨x,r,rfl,h1,h2⟩:=h
  exact BU h1 (Reps.append h2 h')
section
variable {κ:Type} [DecidableEq κ]
noncomputable def By (kvs:List (κ × V)) (k:κ):Option V:=(kvs.find? fun kv=>decide (kv.1=k)).map (·.2)
noncomputable def Bi (kvs:List (κ × V)) (k:κ) (v:V):List (κ × V) :=
 if (kvs.any fun kv=>decide (kv.1=k))=true then kvs.map (fun kv=>if kv.1=k then (kv.1,v) else kv) else kvs++[(k,v)]
noncomputable def DM (kvs:List (κ × V)) (k:κ):List (κ × V):=kvs.filter fun kv=>decide (kv.1≠k)
theorem KV.any {kvs:List (κ × V)} {vs:List (κ × Value)} (r:KV kvs vs) (k:κ):(kvs.any fun kv=>decide (kv.1=k))=vs.any fun kv=>decide (kv.1=k):=by
 unfold KV at r
 induction r with
 | nil=>rfl
 | cons h t ih=>rw [List.any_cons,List.any_cons,ih,h.1]
theorem KV.drop {kvs:List (κ × V)} {vs:List (κ × Value)} (r:KV kvs vs) (k:κ):KV (DM kvs k) (without vs k):=by
 unfold KV at r ⊢
 unfold DM without
 induction r with
 | nil=>exact .nil
 | @cons p q ps qs h t ih =>
  obtain ⟨h1,h2⟩:=h
  rw [List.filter_cons,List.filter_cons]
  by_cases e:p.1=k
  ·have a:¬ decide (p.1≠k)=true:=by simp [e]
   have b:¬ decide (q.1≠k)=true:=by simp [h1.symm.trans e]
   rw [if_neg a,if_neg b];exact ih
  ·have e':¬ q.1=k:=fun z=>e (h1.trans z)
   have a:decide (p.1≠k)=true:=by simp [e]
   have b:decide (q.1≠k)=true:=by simp [e']
   rw [if_pos a,if_pos b];exact .cons ⟨h1,h2⟩ ih
theorem KV.length {kvs:List (κ × V)} {vs:List (κ × Value)} (r:KV kvs vs):kvs.length=vs.length:=Paired.length r
end
section
variable {P:Program} {w:World} {H:Hp} {h:Heap} {a:Addr}
end
noncomputable def DGet (H:Hp) (a:Addr) (y:V) (r:Option V):Prop :=
 (∃ kvs k,Rd H a (.dK kvs)/\y=kV k/\r=By kvs k)\/∃ kvs k b,Rd H a (.dT kvs)/\y=.ref b/\H b=some (.tup (k.map kV))/\r=By kvs k
noncomputable def DPut (H:Hp) (a:Addr) (y v:V) (H':Hp):Prop :=
 (∃ kvs k,H a=some (.dK kvs)/\y=kV k/\kvs.length < sizeLine/\H'=upd H a (.dK (Bi kvs k v))) \/
 ∃ kvs k b,H a=some (.dT kvs)/\y=.ref b/\H b=some (.tup (k.map kV))/\kvs.length < sizeLine/\H'=upd H a (.dT (Bi kvs k v))
theorem DGet.k {H:Hp} {a:Addr} {kvs:List (Key × V)} {k:Key} (e:H a=some (.dK kvs)):DGet H a (kV k) (By kvs k):=.inl ⟨kvs,k,.inl e,rfl,rfl⟩
theorem DGet.t {H:Hp} {a b:Addr} {kvs:List (List Key × V)} {k:List Key} (e:H a=some (.dT kvs)) (eb:H b=some (.tup (k.map kV))):DGet H a (.ref b) (By kvs k):=.inr ⟨kvs,k,b,.inl e,rfl,eb,rfl⟩
theorem DPut.k {H:Hp} {a:Addr} {kvs:List (Key × V)} {k:Key} {v:V} (e:H a=some (.dK kvs)) (hl:kvs.length < sizeLine):DPut H a (kV k) v (upd H a (.dK (Bi kvs k v))):=.inl ⟨kvs,k,e,rfl,hl,rfl⟩
theorem DPut.t {H:Hp} {a b:Addr} {kvs:List (List Key × V)} {k:List Key} {v:V} (e:H a=some (.dT kvs)) (eb:H b=some (.tup (k.map kV))) (hl:kvs.length < sizeLine) :
 DPut H a (.ref b) v (upd H a (.dT (Bi kvs k v))):=.inr ⟨kvs,k,b,e,rfl,eb,hl,rfl⟩
section
variable {X:Cx} {pins:List (Addr × Obj)} {σ:St} {H:Hp} {s:Shared} {a:Addr} {y v:V} {u r:Value} {o:Option V} {A:Around} {E:Value->Shared->Prop}
end
section
variable {X:Cx} {pins:List (Addr × Obj)} {σ:St} {H:Hp} {s:Shared} {a:Addr} {kvs:List (Key × V)} {k:Key} {u:Value} {A:Around} {E:Value->Shared->Prop}
end
section
variable {X:Cx} {o i e value:Expr} {pos pos' tpos:Pos} {td ty tv:TE}
end
section
variable {X:Cx} {pos:Pos}
end
structure M1 (X:Cx) (o:Expr) (m:Str) (apos:Pos) (e:Expr) (cpos:Pos):Prop where
 base:attributeBase o m X.env (eval o X.env)=eval o X.env
 few:((backTo cpos (starEach [e] X.env)).all (fun x=>!x.1) && (backToKw cpos (keywordEach [] X.env)).all (fun x=>x.1.isSome)
  && decide (([e]:List Expr).length+([]:List Keyword).length+(if ([]:List Keyword).isEmpty then 0 else 1) < 30))=true
 line:(apos.endLine == cpos.line)=true
 trees:backTo cpos (starEach [e] X.env)=[(false,eval e X.env)]
structure M2 (X:Cx) (o:Expr) (m:Str) (apos:Pos) (e f:Expr) (cpos:Pos):Prop where
 base:attributeBase o m X.env (eval o X.env)=eval o X.env
 few:((backTo cpos (starEach [e,f] X.env)).all (fun x=>!x.1) && (backToKw cpos (keywordEach [] X.env)).all (fun x=>x.1.isSome)
  && decide (([e,f]:List Expr).length+([]:List Keyword).length+(if ([]:List Keyword).isEmpty then 0 else 1) < 30))=true
 line:(apos.endLine == cpos.line)=true
 trees:backTo cpos (starEach [e,f] X.env)=[(false,eval e X.env),(false,eval f X.env)]
section
variable {X:Cx} {pins:List (Addr × Obj)} {σ:St} {H:Hp} {s:Shared} {a:Addr} {y d:V} {u r:Value} {o:Option V} {A:Around} {E:Value->Shared->Prop}
end
section
variable {X:Cx} {o e f:Expr} {apos cpos:Pos} {td ty tx:TE}
end
section
variable {X:Cx} {pins:List (Addr × Obj)} {σ:St} {H:Hp} {s:Shared} {a:Addr} {kvs:List (Key × V)} {A:Around} {E:Value->Shared->Prop}
end
section
variable {X:Cx} {pins:List (Addr × Obj)} {σ:St} {H:Hp} {s:Shared} {a:Addr} {y:V} {u:Value} {A:Around} {E:Value->Shared->Prop}
end
theorem Gx {M:Model} {A:Around} {E:Value->Shared->Prop} {s:Shared} {b:Bool} {Q:Int->Shared->Prop} (h:Q (if b=true then 1 else 0) s):wpAny M A (Builtin.Int.intOfSelf (.bool b)) Q E s:=by
 unfold Builtin.Int.intOfSelf
 exact wpAny_pure h
theorem Gm {prog:Program} {w:World} {A:Around} {E:Value->Shared->Prop} {s:Shared} {b:Bool} {Q:Int->Shared->Prop} (h:Q (if b=true then 1 else 0) { s with toks:=s.toks+1 }):wpAny (model prog w) A (pyHash (.bool b)) Q E s:=by
 show wpAny _ _ (pyHashByItsType (.bool b)) _ _ _
 refine PySem.W.pyHash_slot (T:="bool") rfl PySem.F.slot_bool_hash PySem.F.entry_int_hash (PySem.F.args_int_hash_1 _) rfl (.inl rfl) ?_
 unfold Builtin.«int.__hash__» Builtin.Int.intSlot0
 refine wpAny_bind (wpAny_bind ?_)
 show wpAny _ _ (pure (Value.bool b,[])) _ _ _
 refine wpAny_pure (wpAny_bind (Gx (wpAny_pure ?_)))
 cases b with
 | true=>exact wpAny_bind (wpAny_mkInt (wpAny_pure ⟨_,_,rfl,h⟩))
 | false=>exact wpAny_bind (wpAny_mkInt (wpAny_pure ⟨_,_,rfl,h⟩))
noncomputable def Cg:Bool->Value->Bool
 | b,.bool c=>b == c
 | _,_=>false
theorem Ay {b:Bool} {v:Value} (h:Cg b v=true):v=.bool b:=by
 unfold Cg at h
 split at h
 ·rw [beq_iff_eq.mp h]
 ·cases h
noncomputable def G0 (prog:Program) (w:World):PySem.KeyKind prog w Bool where
 is:=Cg
 hash:=fun b=>if b=true then 1 else 0
 inj:=fun v a b ha hb=>by
  have e1:=Ay ha
  have e2:=Ay hb
  rw [e1] at e2
  injection e2
 byValue:=fun k v h=>by rw [Ay h];rfl
 pyHash:=fun hv h=>by rw [Ay hv];exact Gm h
 eqBool:=fun {A E s a b u v Q} hu hv h=>by
  rw [Ay hu,Ay hv]
  refine SeqAt.EqAt.bool_bool a b _ _ _ _ ?_
  have e:(a == b)=decide (a=b):=by cases a <;> cases b <;> rfl
  rw [e];exact h
 «strs»:=fun k x t v h=>by
  have:=Ay h
  cases this
section
variable {P:Program} {w:World} {H:Hp} {h:Heap} {a:Addr}
end
section
variable {X:Cx} {o i e value:Expr} {pos pos' tpos:Pos} {td ty tv:TE}
end
section
variable {X:Cx} {P:Program} {w:World} {o i:Expr} {pos:Pos} {td ty:TE}
end
section
variable {X:Cx} {K:W.Frag} {o:Expr} {to:TE} {apos cpos:Pos}
end
section
variable {X:Cx}
end
section
variable {X:Cx} {K:W.Frag}
end
section
variable {X:Cx} {pins:List (Addr × Obj)} {σ:St} {H:Hp} {s:Shared}
end
section
variable {X:Cx} {K:W.Frag}
end
open AutoSeq1 (wpAny_loadPart')
section
variable {prog:Program} {w:World} {A:Around} {E:Value->Shared->Prop} {s:Shared}
end
section
variable {X:Cx}
end
structure Feed (H:Hp) (t:Addr):Prop where
 at_:∃ a b k c:Int,0<=a/\H t=some (.lst [.int a,.int b,.int k,.int c])
theorem Feed.same {H H':Hp} {t:Addr} (F:Feed H t) (h:Same H H'):Feed H' t:=by
 obtain ⟨a,b,k,c,h1,h2⟩:=F.at_
 exact ⟨a,b,k,c,h1,h _ _ h2⟩
theorem Feed.upd {H:Hp} {t p:Addr} {o:HO} (F:Feed H t) (h:H p=none):Feed (L2.upd H p o) t:=F.same (Same.upd h)
theorem Feed.free {H H':Hp} {t p:Addr} (F:Feed H' t) (h:Frm t H H') (hp:H' p=none):H p=none:=by
 cases e:H p with
 | none=>rfl
 | some o =>
  by_cases hpt:p=t
  ·subst hpt
   obtain ⟨a,b,k,c,_,h3⟩:=F.at_
   rw [h3] at hp;cases hp
  ·rw [h p o hpt e] at hp;cases hp
noncomputable def Di (f:Nat->Int):Nat->Int
 | 0=>0
 | n+1=>Di f n+f n
noncomputable def chi:Nat->Nat->Nat->Int
 | 0,_,_=>1
 | n+1,a,b=>(if a % 2=1/\b % 2=1 then -1 else 1) * chi n (a / 2) (b / 2)
noncomputable def hs (v:Nat->Int) (s k:Nat):Int:=Di (fun j=>chi s (k % 2 ^ s) j * v (k / 2 ^ s * 2 ^ s+j)) (2 ^ s)
noncomputable def De:Nat->Nat->Nat
 | 0,_=>0
 | f+1,x=>x % 2+De f (x / 2)
@[irreducible] noncomputable def Hi (x:Nat):Nat:=De 64 x
noncomputable def DU (q:Nat × Int):Dv:=.tup [.int q.1,.int q.2]
noncomputable def Br (m:Nat) (ts:List (Nat × Int)):Dv:=.tup [.int m,.tup (ts.map DU)]
structure SumAt (K:W.Frag) (H:Hp) (v:V) (m:Nat) (ts:List (Nat × Int)):Prop where
 at_:∃ (a b:Addr) (vs:List V),v=.ref a/\SqT K H a [.int m,.ref b]/\SqT K H b vs/\Reps K H (ts.map DU) vs
theorem SumAt.of {K:W.Frag} {H:Hp} {v:V} {m:Nat} {ts:List (Nat × Int)} (h:Rep K H (Br m ts) v):SumAt K H v m ts:=by
 unfold Br Rep at h
 obtain ⟨a,xs,rfl,ha,hr⟩:=h
 unfold Reps at hr
 obtain ⟨x,r,rfl,h1,hr⟩:=hr
 unfold Rep at h1;subst h1
 unfold Reps at hr
 obtain ⟨x,r,rfl,h2,hr⟩:=hr
 unfold Reps at hr;subst hr
 unfold Rep at h2
 obtain ⟨b,vs,rfl,hb,hr⟩:=h2
 exact ⟨a,b,vs,rfl,ha,hb,hr⟩
theorem SumAt.rep {K:W.Frag} {H:Hp} {v:V} {m:Nat} {ts:List (Nat × Int)} (h:SumAt K H v m ts):Rep K H (Br m ts) v:=by
 obtain ⟨a,b,vs,rfl,ha,hb,hr⟩:=h.at_
 unfold Br Rep
 refine ⟨a,_,rfl,ha,BU Cy (BU ?_ CN)⟩
 unfold Rep
 exact ⟨b,vs,rfl,hb,hr⟩
theorem SumAt.same {K:W.Frag} {H H':Hp} {v:V} {m:Nat} {ts:List (Nat × Int)} (h:SumAt K H v m ts) (s:Same H H'):SumAt K H' v m ts:=.of (Rep.same s _ _ h.rep)
theorem Feed.lst {H:Hp} {t:Addr} (F:Feed H t):∃ zs,H t=some (.lst zs):=by
 obtain ⟨a,b,k,c,_,h⟩:=F.at_
 exact ⟨_,h⟩
section
variable {X:Cx} {K:W.Frag}
end
noncomputable def EH (H:Hp) (Q:VK) (xs:List V):Prop:=∀ p H',H p=none->Same H H'->H' p=some (.lst xs)->Q (.ref p) H'
theorem Cs {H:Hp} {Q Q':VK} {xs:List V} (h:∀ v H,Q v H->Q' v H) (q:EH H Q xs):EH H Q' xs:=fun p H' a b c=>h _ _ (q p H' a b c)
end L2
namespace HT
open PySem PyProof.Rows
section
variable {prog:Program} {w:World} {A:Around} {E:Value->Shared->Prop} {s:Shared}
end
end HT
namespace L2
open PySem PySem.Spec PyProof.Rows
section
variable {X:Cx} {K:W.Frag} {e sx:Expr} {te ts:TE} {lo hi:Option Expr} {tl th:TO} {pos p2:Pos}
end
structure GFeed (H:Hp) (t:Addr) (N:Nat):Prop where
 at_:∃ (l:Addr) (i g c:Int) (ns:List Int),0<=i/\0<=g/\0<=c/\c<=N/\H t=some (.lst [.ref l,.int i,.int g,.int c])/\l≠t/\H l=some (.lst (ns.map V.int))/\ns.length≠0
theorem GFeed.same {H H':Hp} {t:Addr} {N:Nat} (F:GFeed H t N) (h:Same H H'):GFeed H' t N:=by
 obtain ⟨l,i,g,c,ns,h1,h2,h3,h4,h5,h6,h7,h8⟩:=F.at_
 exact ⟨l,i,g,c,ns,h1,h2,h3,h4,h _ _ h5,h6,h _ _ h7,h8⟩
theorem GFeed.upd {H:Hp} {t p:Addr} {o:HO} {N:Nat} (F:GFeed H t N) (h:H p=none):GFeed (L2.upd H p o) t N:=F.same (Same.upd h)
theorem GFeed.lst {H:Hp} {t:Addr} {N:Nat} (F:GFeed H t N):∃ zs,H t=some (.lst zs):=by
 obtain ⟨l,i,g,c,ns,h1,h2,h3,h4,h5,_⟩:=F.at_
 exact ⟨_,h5⟩
theorem GFeed.free {H H':Hp} {t p:Addr} {N:Nat} (F:GFeed H' t N) (h:Frm t H H') (hp:H' p=none):H p=none:=by
 cases e:H p with
 | none=>rfl
 | some o =>
  by_cases hpt:p=t
  ·subst hpt
   obtain ⟨zs,h3⟩:=F.lst
   rw [h3] at hp;cases hp
  ·rw [h p o hpt e] at hp;cases hp
section
variable {X:Cx} {pins:List (Addr × Obj)} {σ:St} {H:Hp} {s:Shared}
theorem KV.get {kvs:List (Key × V)} {vs:List (Key × Value)} (r:KV kvs vs):∀ {i:Nat} {q:Key × V},kvs[i]? = some q->∃ v,vs[i]? = some (q.1,v)/\RelV q.2 v:=by
 induction r with
 | nil=>intro i q e;simp at e
 | @cons a b l1 l2 h t ih =>
  intro i q e
  cases i with
  | zero =>
   simp at e;subst e
   obtain ⟨b1,b2⟩:=b
   obtain ⟨h1,h2⟩:=h
   exact ⟨b2,by simp;exact h1.symm,h2⟩
  | succ i =>
   obtain ⟨v,h1,h2⟩:=ih (i:=i) (q:=q) (by simpa using e)
   exact ⟨v,by simpa using h1,h2⟩
end
section
variable {X:Cx} {K:W.Frag} {tg oe:Expr} {to:TE} {ts:List Expr} {kt:Nat} {tpos apos cpos:Pos}
end
end L2
namespace L2
open PySem PyProof.Rows
section
variable {prog:Program} {w:World} {A:Around} {E:Value->Shared->Prop} {s:Shared}
end
section
variable {X:Cx}
end
end L2
namespace L2
open PySem PySem.Spec PyProof.Rows
end L2
namespace L2
open PySem PySem.Spec PyProof.Rows PySem.W
open Att (Bj Ds Fm)
noncomputable def CdO (a:Addr) (q:Str):HO:=.ext fun h=>h.CodeRec (.ref a) q
noncomputable def Lam (Pt:Addr) (pos:Pos) (q:Str) (H:Hp):Prop :=
 ∃ ps:Array Value,H Pt=some (.tbl ps)/\TriplesOk ps.toList/\(codeAmong pos ps.toList=none\/∃ c',codeAmong pos ps.toList=some (.ref c')/\H c'=some (CdO c' q))
noncomputable def Grow (Pt:Addr) (H H':Hp):Prop:=∀ b o,b≠Pt->H b=some o->H' b=some o
theorem Grow.trans {Pt:Addr} {H H1 H2:Hp} (a:Grow Pt H H1) (b:Grow Pt H1 H2):Grow Pt H H2:=fun c o n e=>b c o n (a c o n e)
theorem Grow.same {Pt:Addr} {H H':Hp} (h:Same H H'):Grow Pt H H':=fun b o _ e=>h b o e
theorem Lam.same {Pt:Addr} {pos:Pos} {q:Str} {H H':Hp} (l:Lam Pt pos q H) (h:Same H H'):Lam Pt pos q H':=by
 obtain ⟨ps,a,b,c⟩:=l
 refine ⟨ps,h _ _ a,b,?_⟩
 rcases c with c | ⟨c',c,d⟩
 ·exact .inl c
 ·exact .inr ⟨c',c,h _ _ d⟩
section
variable {X:Cx} {pins:List (Addr × Obj)} {σ:List (Option V)} {H:Hp} {s:Shared} {h':Heap}
end
section
variable {prog:Program} {w:World} {A:Around} {s:Shared}
end
section
variable {X:Cx} {Pt c:Addr} {e:Expr} {te:TE} {p pos kpos lpos np cp sp:Pos} {x qual:Str} {params:Arguments} {scope:Scope} {kd:Nat} {i:Int} {K:W.Frag}
end
end L2
namespace L2
open PySem
end L2
namespace L2
open PySem PySem.Spec PyProof.Rows
section
variable {X:Cx} {tg oe:Expr} {to:TE} {apos cpos:Pos}
end
noncomputable def mIn (K:W.Frag) (neg:Bool):R2:=fun x y H Q=>match y with
 | .ref p=>∃ xs,(SqL K H p xs\/SqT K H p xs)/\Ag x=true/\xs.all Ag=true/\Q (.bl (neg ^^ inV x xs)) H
 | _=>False
section
variable {X:Cx} {K:W.Frag}
theorem kIn (hK:X.K=K:=by rfl):OpR X (compareOp .In) (mIn K false):=by
 subst hK
 intro pins s σ H x y v u Q I rx ry h
 cases y with
 | ref p =>
  obtain ⟨xs,h1,h2,h3,q⟩:=h
  exact Fj pins s σ H x _ v u Q I rx ry ⟨p,xs,rfl,h1,h2,h3,by simpa using q⟩
 | _=>exact False.elim h
end
section
variable {X:Cx} {K:W.Frag}
end
end L2
namespace L2
theorem on1 {α:Type} {P:List α->Prop} (h:∀ a,P [a]):∀ us:List α,us.length=1->P us
 | [a],_=>h a
theorem on2 {α:Type} {P:List α->Prop} (h:∀ a b,P [a,b]):∀ us:List α,us.length=2->P us
 | [a,b],_=>h a b
theorem on3 {α:Type} {P:List α->Prop} (h:∀ a b c,P [a,b,c]):∀ us:List α,us.length=3->P us
 | [a,b,c],_=>h a b c
theorem on4 {α:Type} {P:List α->Prop} (h:∀ a b c d,P [a,b,c,d]):∀ us:List α,us.length=4->P us
 | [a,b,c,d],_=>h a b c d
open PySem in
theorem Hj {xs es:List PySem.Expr} {p:Pos} {env:Env}:starEach (.List xs p::es) env=(false,eval (.List xs p) env)::starEach es env:=by rfl
end L2
namespace L2
open PySem
end L2
namespace L2
open PySem PyProof.Rows
section
variable {prog:Program} {w:World} {A:Around} {E:Value->Shared->Prop} {s:Shared}
end
section
variable {X:Cx}
end
noncomputable abbrev Eu (h:Heap) (z TI TO:Addr) (f0 bb:Value):Prop :=
 h.get? z=some { cls:=.type "zip",dict:=none,data:=.fields #[f0,bb,.bool false,.ref TI,.ref TO],slots:=#[] }
section
variable {prog:Program} {w:World} {A:Around} {E:Value->Shared->Prop} {s:Shared}
end
section
variable {prog:Program} {w:World} {A:Around} {E:Value->Shared->Prop} {s:Shared}
structure ZS (z TI TO i1 i2 l1 l2 T0:Addr) (xs ys:Array Value) (i:Nat) (h:Heap):Prop where
 zp:(i=0/\IsZip h z TI TO .none)\/(0 < i/\(∃ b,Eu h z TI TO (rawInt T0) b)/\∃ a b,IsPair h T0 a b)
 ti:IsPair h TI (.ref i1) (.ref i2)
 to:∃ a b,IsPair h TO a b
 a1:h.IsTupleIter i1 l1 i
 a2:h.IsTupleIter i2 l2 i
 t1:h.IsTuple l1 xs
 t2:h.IsTuple l2 ys
theorem ZS.keep {z TI TO i1 i2 l1 l2 T0 S:Addr} {xs ys:Array Value} {i c:Nat} {h h':Heap} {acc:Array Value} (Z:ZS z TI TO i1 i2 l1 l2 T0 xs ys i h) (hS:h.get? S=some { cls:=.type "list",dict:=none,data:=.seq acc c,slots:=#[] })
 (k:∀ b o,b≠S->h.get? b=some o->h'.get? b=some o):ZS z TI TO i1 i2 l1 l2 T0 xs ys i h':=by
 have kk:∀ b o,h.get? b=some o->o.cls≠.type "list" -> h'.get? b=some o:=fun b o e n=>k b o (fun q=>by subst q;rw [hS] at e;cases e;exact n rfl) e
 obtain ⟨zp,ti,⟨a,b,to⟩,⟨o1,e1,c1,d1⟩,⟨o2,e2,c2,d2⟩,⟨p1,x1,y1,w1⟩,⟨p2,x2,y2,w2⟩⟩:=Z
 refine ⟨?_,kk _ _ ti (by simp),⟨a,b,kk _ _ to (by simp)⟩,⟨o1,kk _ _ e1 (by rw [c1];simp),c1,d1⟩,⟨o2,kk _ _ e2 (by rw [c2];simp),c2,d2⟩,⟨p1,kk _ _ x1 (by rw [y1];simp),y1,w1⟩,⟨p2,kk _ _ x2 (by rw [y2];simp),y2,w2⟩⟩
 rcases zp with ⟨e,q⟩ | ⟨e,⟨b,q⟩,⟨x,y,r⟩⟩
 ·exact .inl ⟨e,kk _ _ q (by simp)⟩
 ·exact .inr ⟨e,⟨b,kk _ _ q (by simp)⟩,⟨x,y,kk _ _ r (by simp)⟩⟩
end
section
variable {prog:Program} {w:World} {A:Around} {R:Result->Shared->Prop}
end
section
variable {prog:Program} {w:World} {A:Around} {R:Result->Shared->Prop} {s:Shared}
end
section
variable {prog:Program} {w:World} {A:Around} {E:Value->Shared->Prop} {s:Shared}
end
section
variable {X:Cx}
end
end L2
namespace L2
open PySem
noncomputable def ins:Nat->Nat->Nat->Nat
 | 0,b,q=>2 * q+b
 | i+1,b,q=>2 * ins i b (q / 2)+q % 2
end L2
namespace L2
open PySem PyProof.Rows
section
variable {prog:Program} {w:World} {A:Around} {E:Value->Shared->Prop} {s:Shared}
end
section
variable {prog:Program} {w:World} {K:Type} [DecidableEq K] {knd:KeyKind prog w K} {A:Around} {R:Result->Shared->Prop}
end
section
variable {prog:Program} {w:World} {K:Type} [DecidableEq K] {knd:KeyKind prog w K} {A:Around} {E:Value->Shared->Prop} {s:Shared}
end
section
variable {X:Cx}
end
noncomputable abbrev EnB (h:Heap) (e it:Addr) (i:Int) (f0 bb old:Value):Prop :=
 h.get? e=some { cls:=.type "enumerate",dict:=none,data:=.fields #[f0,bb,.ref it,rawInt i,.none,old],slots:=#[] }
section
variable {prog:Program} {w:World} {A:Around} {E:Value->Shared->Prop} {s:Shared}
end
section
variable {prog:Program} {w:World} {A:Around} {E:Value->Shared->Prop} {s:Shared}
noncomputable def ES (e it:Addr) (i:Nat) (h:Heap):Prop:=(∃ old,IsEnum h e it i old)\/∃ (T0:Addr) (bb old a b:Value),EnB h e it i (rawInt T0) bb old/\IsPair h T0 a b
end
section
variable {prog:Program} {w:World} {K:Type} [DecidableEq K] {knd:KeyKind prog w K} {A:Around} {R:Result->Shared->Prop}
theorem ES.keep {e it d:Addr} {i:Nat} {h h':Heap} {od:Obj} (Z:ES e it i h) (hd:h.get? d=some od) (hc:od.cls=.type "dict") (k:∀ b o,b≠d->h.get? b=some o->h'.get? b=some o):ES e it i h':=by
 have kk:∀ b o,h.get? b=some o->o.cls≠.type "dict" -> h'.get? b=some o:=fun b o e n=>k b o (fun q=>by subst q;rw [hd] at e;cases e;exact n hc) e
 rcases Z with ⟨old,q⟩ | ⟨T0,bb,old,a,b,q,hT⟩
 ·exact .inl ⟨old,kk _ _ q (by simp)⟩
 ·exact .inr ⟨T0,bb,old,a,b,kk _ _ q (by simp),kk _ _ hT (by simp)⟩
end
section
variable {prog:Program} {w:World} {K:Type} [DecidableEq K] {knd:KeyKind prog w K} {A:Around} {E:Value->Shared->Prop} {s:Shared}
end
section
variable {X:Cx}
end
section
variable {X:Cx}
end
section
variable {X:Cx} {K:W.Frag}
end
section
variable {X:Cx} {K:W.Frag} {o e e2:Expr} {to:TE} {t:TA} {apos cpos:Pos}
end
end L2
namespace L2
open PySem PySem.Spec PyProof.Rows
section
variable {X:Cx} {K:W.Frag}
end
end L2
namespace L2
open PySem PyProof.Rows
section
variable {X:Cx}
end
section
variable {X:Cx}
end
section
variable {X:Cx} {K:W.Frag}
end
end L2
namespace HT
open PySem PyProof.Rows
section
variable {prog:Program} {w:World} {A:Around} {E:Value->Shared->Prop} {s:Shared}
end
end HT
namespace L2
open PySem PySem.Spec PyProof.Rows
section
variable {X:Cx} {K:W.Frag} {e sx:Expr} {te ts:TE} {lo hi:Option Expr} {tl th:TO} {pos p2:Pos}
end
end L2
namespace HT
open PySem PyProof.Rows
section
variable {prog:Program} {w:World} {A:Around} {E:Value->Shared->Prop} {s:Shared}
end
end HT
namespace L2
open PySem PySem.Spec PyProof.Rows
section
variable {X:Cx} {K:W.Frag}
end
section
variable {X:Cx} {K:W.Frag}
end
section
variable {X:Cx} {K:W.Frag} {e sx:Expr} {te ts:TE} {lo hi:Option Expr} {tl th:TO} {pos p2:Pos}
end
noncomputable abbrev BV:=List (List Bool × Addr × V)
noncomputable abbrev BVr:BV->List (List Bool × Addr × Value)->Prop:=Paired fun p q=>p.1=q.1/\p.2.1=q.2.1/\RelV p.2.2 q.2.2
noncomputable def dV (P:Program) (w:World) (a:Addr) (kvs:BV):HO:=.ext fun h=>∃ xs o es ep,BVr kvs xs/\h.get? a=some o/\o.ExactDict/\o.data=.dict es ep/\es.toList=xs.map (entryOfKey (tupleKind (G0 P w)))/\(xs.map (·.1)).Nodup/\xs.length<=sizeLine/\(a == sysModules)=false
noncomputable def KeysV (H:Hp) (kvs:BV):Prop:=∀ q∈kvs,H q.2.1=some (.tup (q.1.map V.bl))
section
variable {P:Program} {w:World} {H:Hp} {h:Heap} {a:Addr}
end
theorem KeysV.same {H H':Hp} {kvs:BV} (h:KeysV H kvs) (s:∀ b ys,H b=some (.tup ys)->H' b=some (.tup ys)):KeysV H' kvs:=fun q hq=>s _ _ (h q hq)
theorem KeysV.upd {P:Program} {w:World} {H:Hp} {kvs k1:BV} {a:Addr} {o:HO} (h:KeysV H kvs) (e:H a=some (dV P w a k1)):KeysV (upd H a o) kvs:=fun q hq=>by
 have:=h q hq
 rw [AB (fun z=>by rw [z,e] at this;exact nomatch Option.some.inj this)]
 exact this
section
variable {X:Cx} {o i e f value:Expr} {pos pos' tpos apos cpos:Pos} {td ty tx tv:TE}
end
section
variable {X:Cx} {P:Program} {w:World} {o i e f:Expr} {pos apos cpos:Pos} {td ty tx:TE}
end
section
variable {prog:Program} {w:World} {A:Around} {E:Value->Shared->Prop} {s:Shared} {d it:Addr} {o:Obj} {es:Array DictEntry} {ep i:Nat}
end
section
variable {X:Cx} {pins:List (Addr × Obj)} {σ:St} {H:Hp} {s:Shared}
theorem BVr.get {kvs:BV} {xs:List (List Bool × Addr × Value)} (r:BVr kvs xs):∀ {i:Nat} {q:List Bool × Addr × V},kvs[i]? = some q->∃ x,xs[i]? = some x/\x.2.1=q.2.1:=by
 induction r with
 | nil=>intro i q e;simp at e
 | @cons a b l1 l2 h t ih =>
  intro i q e
  cases i with
  | zero =>
   simp at e;subst e
   exact ⟨b,by simp,h.2.1.symm⟩
  | succ i =>
   obtain ⟨v,h1,h2⟩:=ih (i:=i) (q:=q) (by simpa using e)
   exact ⟨v,by simpa using h1,h2⟩
end
section
variable {X:Cx} {K:W.Frag}
end
section
variable {X:Cx} {K:W.Frag}
end
open Classical in
noncomputable def Hh (K:W.Frag) (H:Hp) (u:Value):Dv:=if h:∃ d x,RelV x u/\Rep K H d x then h.choose else .non
section
variable {X:Cx} {K:W.Frag} {pins:List (Addr × Obj)} {σ:St} {H:Hp} {s:Shared}
end
structure GFd (H:Hp) (t l:Addr) (N:Nat):Prop where
 at_:∃ (i g c:Int) (ns:List Int),0<=i/\0<=g/\0<=c/\c<=N/\H t=some (.lst [.ref l,.int i,.int g,.int c])/\l≠t/\H l=some (.lst (ns.map V.int))/\ns.length≠0
theorem GFd.same {H H':Hp} {t l:Addr} {N:Nat} (F:GFd H t l N) (h:Same H H'):GFd H' t l N:=by
 obtain ⟨i,g,c,ns,h1,h2,h3,h4,h5,h6,h7,h8⟩:=F.at_
 exact ⟨i,g,c,ns,h1,h2,h3,h4,h _ _ h5,h6,h _ _ h7,h8⟩
theorem GFd.upd {H:Hp} {t l p:Addr} {o:HO} {N:Nat} (F:GFd H t l N) (h:H p=none):GFd (L2.upd H p o) t l N:=F.same (Same.upd h)
inductive Dw where
 | non | bl (b:Bool) | int (i:Int) | str (x:Str) | tup (ds:List Dw) | lst (ds:List Dw) | emp
noncomputable def EK (a:Addr) (xs:List V):Heap->Prop:=fun h=>a≠sysModules/\∃ (its:List Value) (n:Nat),Vals xs its/\h.get? a=some { cls:=.type "list",data:=.seq its.toArray n }
mutual
noncomputable def RepW (K:W.Frag) (H:Hp):Dw->V->Prop
 | .non,v=>v=.non
 | .bl b,v=>v=.bl b
 | .int i,v=>v=.int i
 | .str x,v=>v=.str x
 | .tup ds,v=>∃ a xs,v=.ref a/\SqT K H a xs/\RepsW K H ds xs
 | .lst ds,v=>∃ a xs,v=.ref a/\H a=some (.ext (EK a xs))/\RepsW K H ds xs
 | .emp,v=>∃ a,v=.ref a/\H a=some (.dK [])
noncomputable def RepsW (K:W.Frag) (H:Hp):List Dw->List V->Prop
 | [],xs=>xs=[]
 | d::ds,xs=>∃ x r,xs=x::r/\RepW K H d x/\RepsW K H ds r
end
theorem RepsW.length {K:W.Frag} {H:Hp}:∀ {ds:List Dw} {xs:List V},RepsW K H ds xs->ds.length=xs.length
 | [],xs,h=>by unfold RepsW at h;subst h;rfl
 | d::ds,xs,h=>by
  unfold RepsW at h
  obtain ⟨x,r,rfl,_,h⟩:=h
  rw [List.length_cons,List.length_cons,RepsW.length h]
theorem RepsW.get {K:W.Frag} {H:Hp}:∀ {ds:List Dw} {xs:List V} {i:Nat} {d:Dw},RepsW K H ds xs->ds[i]? = some d->∃ x,xs[i]? = some x/\RepW K H d x
 | [],_,_,_,_,e=>by simp at e
 | d::ds,xs,0,_,h,e=>by
  unfold RepsW at h
  obtain ⟨x,r,rfl,h1,_⟩:=h
  simp at e;subst e
  exact ⟨x,rfl,h1⟩
 | d::ds,xs,i+1,_,h,e=>by
  unfold RepsW at h
  obtain ⟨x,r,rfl,_,h⟩:=h
  obtain ⟨y,h1,h2⟩:=RepsW.get (i:=i) h (by simpa using e)
  exact ⟨y,by simpa using h1,h2⟩
theorem BX {K:W.Frag} {H:Hp}:RepsW K H [] []:=by unfold RepsW;rfl
theorem Cp {K:W.Frag} {H:Hp} {d:Dw} {ds:List Dw} {x:V} {xs:List V} (h:RepW K H d x) (r:RepsW K H ds xs):RepsW K H (d::ds) (x::xs):=by unfold RepsW;exact ⟨x,xs,rfl,h,r⟩
theorem RepsW.append {K:W.Frag} {H:Hp}:∀ {ds es:List Dw} {xs ys:List V},RepsW K H ds xs->RepsW K H es ys->RepsW K H (ds++es) (xs++ys)
 | [],es,xs,ys,h,h'=>by unfold RepsW at h;subst h;exact h'
 | d::ds,es,xs,ys,h,h'=>by
  unfold RepsW at h
  obtain ⟨x,r,rfl,h1,h2⟩:=h
  exact Cp h1 (RepsW.append h2 h')
theorem RepsW.take {K:W.Frag} {H:Hp}:∀ (k:Nat) {ds:List Dw} {xs:List V},RepsW K H ds xs->RepsW K H (ds.take k) (xs.take k)
 | 0,_,_,_=>by simpa using BX
 | k+1,[],xs,h=>by unfold RepsW at h;subst h;simpa using BX
 | k+1,d::ds,xs,h=>by
  unfold RepsW at h
  obtain ⟨x,r,rfl,h1,h2⟩:=h
  simpa using Cp h1 (RepsW.take k h2)
theorem RepsW.drop {K:W.Frag} {H:Hp}:∀ (k:Nat) {ds:List Dw} {xs:List V},RepsW K H ds xs->RepsW K H (ds.drop k) (xs.drop k)
 | 0,_,_,h=>by simpa using h
 | k+1,[],xs,h=>by unfold RepsW at h;subst h;simpa using BX
 | k+1,d::ds,xs,h=>by
  unfold RepsW at h
  obtain ⟨x,r,rfl,h1,h2⟩:=h
  simpa using RepsW.drop k h2
theorem RepsW.reverse {K:W.Frag} {H:Hp}:∀ {ds:List Dw} {xs:List V},RepsW K H ds xs->RepsW K H ds.reverse xs.reverse
 | [],xs,h=>by unfold RepsW at h;subst h;simpa using BX
 | d::ds,xs,h=>by
  unfold RepsW at h
  obtain ⟨x,r,rfl,h1,h2⟩:=h
  rw [List.reverse_cons,List.reverse_cons]
  exact RepsW.append (RepsW.reverse h2) (Cp h1 BX)
mutual
theorem RepW.same {K:W.Frag} {H H':Hp} (s:Same H H'):∀ (d:Dw) (v:V),RepW K H d v->RepW K H' d v
 | .non,v,h=>by unfold RepW at *;exact h
 | .bl b,v,h=>by unfold RepW at *;exact h
 | .int i,v,h=>by unfold RepW at *;exact h
 | .str x,v,h=>by unfold RepW at *;exact h
 | .emp,v,h=>by unfold RepW at *;obtain ⟨a,e,h⟩:=h;exact ⟨a,e,s _ _ h⟩
 | .tup ds,v,h=>by
  unfold RepW at *
  obtain ⟨a,xs,e,h1,h2⟩:=h
  exact ⟨a,xs,e,C1 h1 s,RepsW.same s ds xs h2⟩
 | .lst ds,v,h=>by
  unfold RepW at *
  obtain ⟨a,xs,e,h1,h2⟩:=h
  exact ⟨a,xs,e,s _ _ h1,RepsW.same s ds xs h2⟩
theorem RepsW.same {K:W.Frag} {H H':Hp} (s:Same H H'):∀ (ds:List Dw) (xs:List V),RepsW K H ds xs->RepsW K H' ds xs
 | [],xs,h=>by unfold RepsW at *;exact h
 | d::ds,xs,h=>by
  unfold RepsW at *
  obtain ⟨x,r,e,h1,h2⟩:=h
  exact ⟨x,r,e,RepW.same s d x h1,RepsW.same s ds r h2⟩
end
section
variable {X:Cx} {K:W.Frag} {es:List Expr} {t:TA} {pos:Pos}
end
mutual
noncomputable def DA:Dw->Nat
 | .tup ds=>CS ds+1
 | .lst ds=>CS ds+1
 | .emp=>1
 | _=>0
noncomputable def CS:List Dw->Nat
 | []=>0
 | d::ds=>max (DA d) (CS ds)
end
mutual
noncomputable def Cz:Dw->Nat
 | .str x=>x.cps.size
 | .tup ds=>B4 ds
 | .lst ds=>B4 ds
 | _=>0
noncomputable def B4:List Dw->Nat
 | []=>0
 | d::ds=>Cz d+1+B4 ds
end
section
variable {X:Cx} {pins:List (Addr × Obj)} {σ:St} {H:Hp} {s:Shared}
end
section
variable {X:Cx} {K:W.Frag}
end
mutual
noncomputable def okW (n:Nat):Dw->Bool
 | .int i=>decide (i.natAbs<=n)
 | .str x=>x.cps.toList.all fun c=>decide (c < 16 ^ 8)
 | .tup ds=>Cr n ds
 | .lst ds=>Cr n ds
 | _=>true
noncomputable def Cr (n:Nat):List Dw->Bool
 | []=>true
 | d::ds=>okW n d && Cr n ds
end
structure Fit (n D B:Nat) (d:Dw):Prop where
 ok:okW n d=true
 dep:DA d<=D
 bulk:Cz d<=B
section
variable {X:Cx} {K:W.Frag}
end
noncomputable def Ris (xs:Array Nat):Prop:=xs.toList.Pairwise (· < ·)
structure TabG (w:World) (t:SetTable):Prop where
 led:t.led = !w.params.followText "set-order"
 ris:Ris t.place
noncomputable def SetW (P:Program) (w:World) (h:Heap) (a:Addr) (S:Int->Bool) (n:Nat):Prop :=
 ∃ o es ep t,h.get? a=some o/\o.ExactSet/\o.data=.set es ep t/\ElemsOf (intKind P w) es.toList/\(∀ k,S k=true ↔ ∃ e∈es.toList,(intKind P w).is k e.2=true)/\es.size < scanBound/\t.fits es.size=true/\es.size=n/\TabG w t
section
variable {P:Program} {w:World} {A:Around} {E:Value->Shared->Prop} {s:Shared} {a:Addr}
theorem SetW.at {h h':Heap} {S:Int->Bool} {n:Nat} (x:SetW P w h a S n) (k:∀ o,h.get? a=some o->h'.get? a=some o):SetW P w h' a S n:=by
 obtain ⟨o,es,ep,t,h1,r⟩:=x;exact ⟨o,es,ep,t,k _ h1,r⟩
theorem SetW.of {h:Heap} {S:Int->Bool} {n:Nat} (x:SetW P w h a S n):h.SetOf (intKind P w) a S n:=by
 obtain ⟨o,es,ep,t,h1,h2,h3,h4,h5,h6,h7,h8,_⟩:=x;exact ⟨o,es,ep,t,h1,h2,h3,h4,h5,h6,h7,h8⟩
end
section
variable {P:Program} {w:World} {A:Around} {E:Value->Shared->Prop} {s:Shared} {a:Addr}
end
namespace F
end F
noncomputable def IsSetIter (h:Heap) (I:Addr) (f:Value) (i:Nat) (a:Addr) (n ep:Nat):Prop:=∃ o,h.get? I=some o/\o.cls=.type "set_iterator" /\ o.data=.fields #[f,.int i 0,.ref a,.int n 0,.int ep 0]
theorem IsSetIter.at {h h':Heap} {I a:Addr} {f:Value} {i n ep:Nat} (x:IsSetIter h I f i a n ep) (e:∀ o,h.get? I=some o->h'.get? I=some o):IsSetIter h' I f i a n ep:=let ⟨o,ho,r⟩:=x;⟨o,e _ ho,r⟩
section
variable {P:Program} {w:World} {A:Around} {E:Value->Shared->Prop} {s:Shared} {a I:Addr}
end
section
variable {P:Program} {w:World} {A:Around} {E:Value->Shared->Prop} {s:Shared} {a I:Addr}
end
end L2
namespace L2
open PySem PySem.Spec PyProof.Rows PySem.W PySem.Calls
section
variable {P:Program} {w:World} {A:Around} {E:Value->Shared->Prop} {s:Shared} {a I:Addr}
end
end L2
namespace L2
open PySem PySem.Spec PyProof.Rows
section
variable {X:Cx} {K:W.Frag} {P:Program} {w:World}
variable {C:Addr} {f:Str} {e o value:Expr} {ta tv td ty:TE} {pos pos':Pos}
end
end L2
namespace L2
open PySem PySem.Spec PyProof.Rows PySem.W
end L2
namespace L2
open PySem PySem.Spec PyProof.Rows PySem.W PySem.Calls
section
variable {P:Program} {w:World} {A:Around} {E:Value->Shared->Prop} {s:Shared}
noncomputable def PairAt (h:Heap) (v:Value) (k x:Int):Prop:=∃ a t u,v=.ref a/\h.get? a=some { cls:=.type "tuple",data:=.seq #[.int k t,.int x u] }
theorem PairAt.keep {h h':Heap} {v:Value} {k x:Int} (p:PairAt h v k x) (e:∀ b o,o.cls=.type "tuple" -> h.get? b=some o->h'.get? b=some o):PairAt h' v k x:=by
 obtain ⟨a,t,u,rfl,ha⟩:=p
 exact ⟨a,t,u,rfl,e _ _ rfl ha⟩
end
end L2
namespace L2
open PySem PySem.Spec PyProof.Rows PySem.W
section
variable {P:Program} {w:World} {A:Around} {E:Value->Shared->Prop} {s:Shared}
end
section
variable {X:Cx}
end
section
variable {X:Cx} {k:Nat} {f:Addr} {fd:FuncData} {ps:List Str} {sp:Sp} {x:Str} {p pos:Pos} {e:Expr} {es:List Expr} {t:TA} {tn:TE}
end
section
variable {X:Cx} {pins:List (Addr × Obj)} {σ:St} {H:Hp} {s:Shared}
end
section
variable {X:Cx} {Pt c f:Addr} {fd:FuncData} {ps:List Str} {k i:Nat} {kn a:Str} {kp pos lpos:Pos} {params:Arguments} {body:Expr} {scope:Scope} {e:Expr} {es:List Expr} {t:TA} {qual:Str} {spK:Addr->Addr->V->Sp}
end
end L2
namespace L2
open PySem PyProof.Rows
section
variable {X:Cx} {K:W.Frag} {o e:Expr} {to:TE} {t:TA} {apos cpos:Pos}
end
end L2
namespace L2
open PySem PySem.Spec PyProof.Rows PySem.SeqAt
section
variable {X:Cx} {K:W.Frag}
end
end L2
namespace L2
open PySem PySem.Spec PyProof.Rows
section
variable {X:Cx} {K:W.Frag}
end
section
variable {X:Cx} {K:W.Frag} {e:Expr} {te:TE} {p pos kpos cp:Pos} {kd:Nat} {i:Int}
end
end L2
namespace L2
open PySem PyProof.Rows
section
variable {X:Cx} {K:W.Frag} {o e:Expr} {to:TE} {t:TA} {apos cpos:Pos}
end
end L2
namespace L2
open PySem PySem.Spec PyProof.Rows
section
variable {X:Cx} {K:W.Frag} {e:Expr} {te:TE} {lo hi:Option Expr} {tl th:TO} {pos p2:Pos}
end
end L2
namespace L2
open PySem
section
variable {X:Cx} {pins:List (Addr × Obj)} {σ:St} {H:Hp} {s:Shared} {a:Addr}
variable {kvs:List (Key × V)} {i:Expr} {pos pos' apos:Pos} {ty:TE} {x:Str} {P:Program} {w:World} {K:W.Frag} {o:Expr} {td:TE}
end
end L2
namespace L2
open PySem Builtin Builtin.Str
section
variable {X:Cx} {a:Addr} {kvs:List (Key × V)} {o e:Expr} {ty to:TE} {t:TA} {apos cpos:Pos} {P:Program} {w:World} {K:W.Frag}
end
end L2
namespace L2
open PySem PyProof.Rows
section
variable {prog:Program} {w:World} {A:Around} {E:Value->Shared->Prop} {s:Shared}
structure Cmp (prog:Program) (w:World) (A:Around) (E:Value->Shared->Prop) (s:Shared) (kd:SortKind) (El:Keyed->Prop) (κ:Keyed->Int):Prop where
 lt:∀ (x y:Keyed) (st:SortSt) (Q:Option Bool->SortSt->Prop),El x->El y->kindOf st=kd->Q (some (decide (κ x < κ y))) st->wpS (model prog w) A E s (lt' x y) Q st
variable {kd:SortKind} {El:Keyed->Prop} {κ:Keyed->Int}
end
section
variable {κ:Keyed->Int}
noncomputable def Srt (κ:Keyed->Int) (l:List Keyed):Prop:=l.Pairwise fun x y=>κ x<=κ y
structure Mg (κ:Keyed->Int) (la lb o:List Keyed) (i j:Nat):Prop where
 il:i<=la.length
 jl:j<=lb.length
 perm:(o++(la.drop i++lb.drop j)).Perm (la++lb)
 srt:Srt κ o
 le:∀ x∈o,∀ y∈la.drop i++lb.drop j,κ x<=κ y
variable {la lb o:List Keyed} {i j n:Nat}
theorem Bf {a b:List Keyed} (h1:Srt κ a) (h2:Srt κ b) (h:∀ x∈a,∀ y∈b,κ x<=κ y):Srt κ (a++b):=List.pairwise_append.mpr ⟨h1,h2,h⟩
theorem Mg.a (m:Mg κ la lb o i j) (ha:Srt κ la) (hn:i+n<=la.length) (h:∀ x∈(la.drop i).take n,∀ y∈lb.drop j,κ x<=κ y):Mg κ la lb (o++(la.drop i).take n) (i+n) j:=by
 have hd:la.drop i=(la.drop i).take n++la.drop (i+n):=by
  rw [<- List.drop_drop,List.take_append_drop]
 have hs:Srt κ (la.drop i):=List.Pairwise.sublist (List.drop_sublist _ _) ha
 have hs2:=hs
 rw [hd] at hs2
 obtain ⟨s1,s2,s3⟩:=List.pairwise_append.mp hs2
 refine ⟨hn,m.jl,?_,Bf m.srt s1 fun x hx y hy=>m.le x hx y (List.mem_append_left _ (List.mem_of_mem_take hy)),fun x hx y hy=>?_⟩
 ·have:=m.perm
  rw [hd] at this
  rw [List.append_assoc]
  rw [List.append_assoc] at this
  exact this
 ·rcases List.mem_append.mp hx with hx | hx
  ·refine m.le x hx y ?_
   rcases List.mem_append.mp hy with hy | hy
   ·rw [hd];exact List.mem_append_left _ (List.mem_append_right _ hy)
   ·exact List.mem_append_right _ hy
  ·rcases List.mem_append.mp hy with hy | hy
   ·exact s3 x hx y hy
   ·exact h x hx y hy
theorem Mg.b (m:Mg κ la lb o i j) (hb:Srt κ lb) (hn:j+n<=lb.length) (h:∀ x∈(lb.drop j).take n,∀ y∈la.drop i,κ x<=κ y):Mg κ la lb (o++(lb.drop j).take n) i (j+n):=by
 have hd:lb.drop j=(lb.drop j).take n++lb.drop (j+n):=by
  rw [<- List.drop_drop,List.take_append_drop]
 have hs2:Srt κ (lb.drop j):=List.Pairwise.sublist (List.drop_sublist _ _) hb
 rw [hd] at hs2
 obtain ⟨s1,s2,s3⟩:=List.pairwise_append.mp hs2
 refine ⟨m.il,hn,?_,Bf m.srt s1 fun x hx y hy=>m.le x hx y (List.mem_append_right _ (List.mem_of_mem_take hy)),fun x hx y hy=>?_⟩
 ·have h1:=m.perm
  rw [hd] at h1
  refine List.Perm.trans ?_ h1
  rw [List.append_assoc]
  refine List.Perm.append_left _ ?_
  rw [<- List.append_assoc,<- List.append_assoc]
  exact List.Perm.append_right _ List.perm_append_comm
 ·rcases List.mem_append.mp hx with hx | hx
  ·refine m.le x hx y ?_
   rcases List.mem_append.mp hy with hy | hy
   ·exact List.mem_append_left _ hy
   ·rw [hd];exact List.mem_append_right _ (List.mem_append_right _ hy)
  ·rcases List.mem_append.mp hy with hy | hy
   ·exact h x hx y hy
   ·exact s3 x hx y hy
end
structure Sg (st st':SortSt):Prop where
 k:kindOf st'=kindOf st
 a:arrOf st'=arrOf st
 p:pendingOf st'=pendingOf st
 f:failedOf st'=failedOf st
theorem Sg.trans {a b c:SortSt} (x:Sg a b) (y:Sg b c):Sg a c:=⟨y.k.trans x.k,y.a.trans x.a,y.p.trans x.p,y.f.trans x.f⟩
section
variable {prog:Program} {w:World} {A:Around} {E:Value->Shared->Prop} {s:Shared} {kd:SortKind} {El:Keyed->Prop} {κ:Keyed->Int}
end
section
variable {κ:Keyed->Int}
structure Hg (κ:Keyed->Int) (la lb o:List Keyed) (na nb:Nat):Prop where
 il:na<=la.length
 jl:nb<=lb.length
 perm:(la.take na++lb.take nb++o.reverse).Perm (la++lb)
 srt:Srt κ o.reverse
 le:∀ y∈la.take na++lb.take nb,∀ x∈o,κ y<=κ x
variable {la lb o:List Keyed} {na nb n:Nat}
theorem D9 {l:List Keyed} (h:n<=na):l.take na=l.take n++(l.take na).drop n:=by
 have:=List.take_append_drop n (l.take na)
 rw [List.take_take,Nat.min_eq_left h] at this
 exact this.symm
theorem Hg.a (m:Hg κ la lb o na nb) (ha:Srt κ la) (hn:n<=na) (h:∀ x∈(la.take na).drop n,∀ y∈lb.take nb,κ y<=κ x):Hg κ la lb (o++((la.take na).drop n).reverse) n nb:=by
 have hd:=D9 (l:=la) hn
 have hs2:Srt κ (la.take na):=List.Pairwise.sublist (List.take_sublist _ _) ha
 rw [hd] at hs2
 obtain ⟨s1,s2,s3⟩:=List.pairwise_append.mp hs2
 have ml:=m.le
 have mp:=m.perm
 generalize (la.take na).drop n=D at *
 rw [hd] at ml mp
 refine ⟨Nat.le_trans hn m.il,m.jl,?_,?_,fun y hy x hx=>?_⟩
 ·rw [List.reverse_append,List.reverse_reverse]
  refine List.Perm.trans ?_ mp
  rw [<- List.append_assoc]
  refine List.Perm.append_right _ ?_
  rw [List.append_assoc,List.append_assoc]
  exact List.Perm.append_left _ List.perm_append_comm
 ·rw [List.reverse_append,List.reverse_reverse]
  exact Bf s2 m.srt fun x hx y hy=>ml x (by simp [hx]) y (List.mem_reverse.mp hy)
 ·rcases List.mem_append.mp hx with hx | hx
  ·refine ml y ?_ x hx
   rcases List.mem_append.mp hy with hy | hy
   ·simp [hy]
   ·simp [hy]
  ·replace hx:=List.mem_reverse.mp hx
   rcases List.mem_append.mp hy with hy | hy
   ·exact s3 y hy x hx
   ·exact h x hx y hy
theorem Hg.b (m:Hg κ la lb o na nb) (hb:Srt κ lb) (hn:n<=nb) (h:∀ x∈(lb.take nb).drop n,∀ y∈la.take na,κ y<=κ x):Hg κ la lb (o++((lb.take nb).drop n).reverse) na n:=by
 have hd:=D9 (l:=lb) hn
 have hs2:Srt κ (lb.take nb):=List.Pairwise.sublist (List.take_sublist _ _) hb
 rw [hd] at hs2
 obtain ⟨s1,s2,s3⟩:=List.pairwise_append.mp hs2
 have ml:=m.le
 have mp:=m.perm
 generalize (lb.take nb).drop n=D at *
 rw [hd] at ml mp
 refine ⟨m.il,Nat.le_trans hn m.jl,?_,?_,fun y hy x hx=>?_⟩
 ·rw [List.reverse_append,List.reverse_reverse]
  simpa [List.append_assoc] using mp
 ·rw [List.reverse_append,List.reverse_reverse]
  exact Bf s2 m.srt fun x hx y hy=>ml x (by simp [hx]) y (List.mem_reverse.mp hy)
 ·rcases List.mem_append.mp hx with hx | hx
  ·refine ml y ?_ x hx
   rcases List.mem_append.mp hy with hy | hy
   ·simp [hy]
   ·simp [hy]
  ·replace hx:=List.mem_reverse.mp hx
   rcases List.mem_append.mp hy with hy | hy
   ·exact h x hx y hy
   ·exact s3 y hy x hx
end
section
variable {prog:Program} {w:World} {A:Around} {E:Value->Shared->Prop} {s:Shared} {kd:SortKind} {El:Keyed->Prop} {κ:Keyed->Int}
end
section
variable {prog:Program} {w:World} {A:Around} {E:Value->Shared->Prop} {s:Shared} {kd:SortKind} {El:Keyed->Prop} {κ:Keyed->Int}
end
section
variable {prog:Program} {w:World} {A:Around} {E:Value->Shared->Prop} {s:Shared} {kd:SortKind} {El:Keyed->Prop} {κ:Keyed->Int}
noncomputable def Kf (κ:Keyed->Int) (xs:Array Keyed) (i:Nat):Int:=match xs[i]? with
 | some p=>κ p
 | none=>0
structure Bs (kd:SortKind) (a₀:Array Keyed) (lo:Nat) (pe:Array (Nat × Nat × Nat)) (st:SortSt):Prop where
 perm:(arrOf st).Perm a₀
 kind:kindOf st=kd
 failed:failedOf st=none
 pend:pendingOf st=pe
 low:∀ i,i < lo->(arrOf st)[i]? = a₀[i]?
variable {a₀:Array Keyed} {lo:Nat} {pe:Array (Nat × Nat × Nat)}
theorem Bs.size {st:SortSt} (h:Bs kd a₀ lo pe st):(arrOf st).size=a₀.size:=h.perm.size_eq
theorem Bs.at {st:SortSt} (h:Bs kd a₀ lo pe st) (h0:∀ x∈a₀.toList,El x) {i:Nat} (hi:i < a₀.size):∃ x,(arrOf st)[i]? = some x/\El x/\Kf κ (arrOf st) i=κ x:=by
 have hi':i < (arrOf st).size:=by rw [h.size];exact hi
 have hm:(arrOf st)[i]∈a₀.toList:=(Array.perm_iff_toList_perm.mp h.perm).mem_iff.mp (by simp)
 have e:(arrOf st)[i]? = some (arrOf st)[i]:=getElem?_pos _ i hi'
 exact ⟨_,e,h0 _ hm,by unfold Kf;rw [e]⟩
end
section
variable {prog:Program} {w:World} {A:Around} {E:Value->Shared->Prop} {s:Shared} {kd:SortKind} {El:Keyed->Prop} {κ:Keyed->Int} {a₀:Array Keyed}
structure Dn (kd:SortKind) (κ:Keyed->Int) (a₀:Array Keyed) (st:SortSt):Prop where
 perm:(arrOf st).toList.Perm a₀.toList
 kind:kindOf st=kd
 failed:failedOf st=none
 pend:(pendingOf st).size<=1
 srt:Srt κ (arrOf st).toList
structure Tw (kd:SortKind) (κ:Keyed->Int) (a₀:Array Keyed) (n1 n2 pw:Nat) (st:SortSt):Prop where
 perm:(arrOf st).toList.Perm a₀.toList
 kind:kindOf st=kd
 failed:failedOf st=none
 pend:pendingOf st = #[(0,n1,pw),(n1,n2,0)]
 l1:0 < n1
 l2:0 < n2
 len:n1+n2=a₀.size
 s1:Srt κ ((arrOf st).toList.take n1)
 s2:Srt κ ((arrOf st).toList.drop n1)
end
section
variable {prog:Program} {w:World} {A:Around} {E:Value->Shared->Prop} {s:Shared}
end
end L2
namespace L2
open PySem PySem.Spec PyProof.Rows PySem.W
section
variable {P:Program} {w:World} {A:Around} {E:Value->Shared->Prop} {s:Shared} {a:Addr}
end
section
variable {X:Cx} {K:W.Frag} {P:Program} {w:World}
end
end L2
namespace L2
open PySem PySem.Spec PyProof.Rows PySem.W PySem.Calls
section
variable {P:Program} {w:World} {A:Around} {E:Value->Shared->Prop} {s:Shared}
noncomputable def PairV (h:Heap) (v:Value) (k:Int):Prop:=∃ a t y o n,v=.ref a/\h.get? a=some o/\o.cls=.type "tuple" /\ o.data=.seq #[.int k t,y] n
theorem PairV.keep {h h':Heap} {v:Value} {k:Int} (p:PairV h v k) (e:∀ b o,o.cls=.type "tuple" -> h.get? b=some o->h'.get? b=some o):PairV h' v k:=by
 obtain ⟨a,t,u,o,n,rfl,ha,hc,hd⟩:=p
 exact ⟨a,t,u,o,n,rfl,e _ _ hc ha,hc,hd⟩
end
end L2
namespace L2
open PySem PySem.Spec PyProof.Rows PySem.W
section
variable {P:Program} {w:World} {A:Around} {E:Value->Shared->Prop} {s:Shared}
end
section
variable {X:Cx}
end
section
variable {X:Cx}
end
section
variable {X:Cx}
end
end L2
namespace L2
open PySem PyProof.Rows
section
variable {prog:Program} {w:World} {A:Around} {E:Value->Shared->Prop} {s:Shared}
end
section
variable {prog:Program} {w:World} {K:Type} [DecidableEq K] {knd:KeyKind prog w K} {A:Around} {R:Result->Shared->Prop}
end
section
variable {prog:Program} {w:World} {K:Type} [DecidableEq K] {knd:KeyKind prog w K} {A:Around} {E:Value->Shared->Prop} {s:Shared}
end
section
variable {X:Cx}
end
end L2
namespace L2
open PySem PySem.Spec PyProof.Rows
section
variable {P:Program} {w:World} {A:Around} {E:Value->Shared->Prop} {s:Shared} {a:Addr}
end
section
variable {X:Cx} {K:W.Frag} {P:Program} {w:World}
end
section
variable {X:Cx} {K:W.Frag} {e sx:Expr} {te ts:TE} {pos p2:Pos}
end
section
variable {X:Cx}
end
end L2
namespace L2
end L2
namespace L2
open PySem PySem.Spec PyProof.Rows
noncomputable def ExA (h:Heap) (x:Addr) (cls:Value) (od:Option Addr) (t:Option (Addr × Value)):Prop :=
 ∃ oe vs,h.get? x=some oe/\oe.cls=cls/\oe.dict=od/\oe.data=.fields vs/\match t with
  | none=>vs[1]? = some .none
  | some (T,fl)=>vs[1]? = some (.ref T)/\T≠x/\∃ oT ts,h.get? T=some oT/\oT.data=.fields ts/\ts[3]? = some fl
noncomputable def Sl (fs ch:List Addr) (h h':Heap):Prop:=∀ b o,h.get? b=some o->b∉ch->(b∉fs->h'.get? b=some o)/\∃ sl,h'.get? b=some { o with slots:=sl }
theorem Sl.trans {fs ch:List Addr} {h h1 h2:Heap} (a:Sl fs ch h h1) (b:Sl fs ch h1 h2):Sl fs ch h h2:=fun x o e n=>by
 obtain ⟨h3,sl,h4⟩:=a x o e n
 obtain ⟨_,sl2,h6⟩:=b x _ h4 n
 exact ⟨fun nf=>(b x o (h3 nf) n).1 nf,sl2,h6⟩
section
variable {M:Model} {A:Around} {E:Value->Shared->Prop} {s:Shared}
theorem Es (h:Heap) (a:Addr) (f:Obj->Obj):(h.update a f).objs.size=h.objs.size:=by
 have:=(Heap.SameBut.update h a f).1
 exact this
theorem Dq {base:Heap} {env:Env} {outer:List Env} {L x:Addr} {cls head:Value} {od:Option Addr} {oe:Obj} {vs:Array Value} {hadNext:Bool} {Q:Unit->Shared->Prop}
 (hfr:A.frames=some (env::outer)) (hl:s.heap.FunFrames base (env::outer)) (hf:env.frame=some L) (he:s.heap.get? x=some oe) (hc:oe.cls=cls) (ho:oe.dict=od) (hd:oe.data=.fields vs) (hsz:1 < vs.size)
 (k:∀ h' T,ExA h' x cls od (some (T,rawInt L))->s.heap.get? T=none->Sl (frs (env::outer)) [x] s.heap h'->Q () { s with heap:=h' }) :
 wpAny M A (do let a <- frameOf env;let pl <- entryPlaceOf L hadNext;let b <- EntryCells.newEntry head a .none (rawInt L) .none pl;setField (.ref x) 1 b) Q E s:=by
 have hxf:x∉frs (env::outer):=fun hm=>by
  obtain ⟨_,o,h1,h2⟩:=hl.mem hm
  rw [he] at h1
  cases h1
  exact h2 vs hd
 refine wpAny_bind (wpAny_frameOf_fun hfr hl hf fun g1 sg=>wpAny_bind (wpAny_entryPlaceOf fun pl hpl=>?_))
 obtain ⟨sz1,sm1,so1⟩:=sg
 unfold EntryCells.newEntry newFields
 refine wpAny_bind (wpAny_newObj_type ?_ (hpl.sizeOk5 _ _ _ _ _))
 have e1:g1.get? x=some oe:=by rw [sm1 x hxf];exact he
 generalize hob:({ cls:=.type "traceback",dict:=none,data:=.fields ([head,.ref L,.none,rawInt L,.none]++(if pl.isEmpty then List.replicate 6 Value.none else pl)).toArray }:Obj)=ob
 have e2:=Heap.get?_push_of_some ob e1
 refine wpAny_setField e2 hd hsz ?_
 have nT:g1.objs.size≠x:=Nat.ne_of_gt (Heap.lt_size e1)
 have obf:ob.isFreed=false:=by rw [<- hob];rfl
 have eT:=Heap.get?_push_size g1 obf
 have d3:=Obj.data_mapFields hd (·.setIfInBounds 1 (Value.ref g1.objs.size))
 refine k _ g1.objs.size ⟨_,_,Heap.get?_update_self _ e2 (Obj.isFreed_of_fields d3),(Obj.cls_mapFields ..).trans hc,?_,d3,by simp [hsz],nT,ob,_,?_,by rw [<- hob],?_⟩ (Heap.get?_none_of_le (by rw [sz1];exact Nat.le_refl _)) fun b o hb hn=>?_
 ·obtain ⟨c,d,dt,sl⟩:=oe
  cases dt <;> first | (cases hd;done) | exact ho
 ·rw [Heap.get?_update_other _ _ (Ne.symm nT)]
  exact eT
 ·first | (simp;done) | (rcases hpl with rfl | ⟨_,_,_,_,_,_,_,rfl⟩ <;> simp)
 ·have nb:b≠x:=fun z=>hn (by rw [z];exact List.mem_singleton.mpr rfl)
  refine ⟨fun nf=>?_,?_⟩
  ·rw [Heap.get?_update_other _ _ (Ne.symm nb)]
   exact Heap.get?_push_of_some _ (by rw [sm1 b nf];exact hb)
  ·obtain ⟨sl,e5⟩:=so1 b o hb
   exact ⟨sl,by rw [Heap.get?_update_other _ _ (Ne.symm nb)];exact Heap.get?_push_of_some _ e5⟩
theorem Hf {base:Heap} {env:Env} {outer:List Env} {L x:Addr} {cls:Value} {od:Option Addr} {t:Option (Addr × Value)} {Q:Unit->Shared->Prop}
 (hfr:A.frames=some (env::outer)) (hl:s.heap.FunFrames base (env::outer)) (hf:env.frame=some L) (he:ExA s.heap x cls od t) (ht:t=none\/∃ T,t=some (T,.none))
 (k:∀ h' T,ExA h' x cls od (some (T,rawInt L))->s.heap.get? T=none->Sl (frs (env::outer)) (x::(t.map (·.1)).toList) s.heap h'->Q () { s with heap:=h' }):wpAny M A (noteFrame (.ref x) env) Q E s:=by
 obtain ⟨oe,vs,e1,e2,e3,e4,e5⟩:=he
 unfold noteFrame
 simp only [hf]
 rcases ht with rfl | ⟨T0,rfl⟩
 ·refine wpAny_bind (wpAny_field e1 e4 e5 ?_)
  rw [if_neg (by decide)]
  exact Dq hfr hl hf e1 e2 e3 e4 (Array.getElem?_eq_some_iff.mp e5).1 k
 ·obtain ⟨e5,nT,oT,ts,g1,g2,g3⟩:=e5
  refine wpAny_bind (wpAny_field e1 e4 e5 ?_)
  rw [if_pos (by simp)]
  refine wpAny_bind (wpAny_field g1 g2 g3 ?_)
  rw [if_neg (by simp [rawInt])]
  refine wpAny_bind (wpAny_setField g1 g2 (Array.getElem?_eq_some_iff.mp g3).1 ?_)
  have ot:∀ b,b≠T0->(s.heap.update T0 (Obj.mapFields (·.setIfInBounds 3 Value.none))).get? b=s.heap.get? b:=fun b hb=>Heap.get?_update_other _ _ (Ne.symm hb)
  have nf:∀ b o,s.heap.get? b=some o->(∀ vs,o.data≠.fields vs)->b≠T0:=fun b o hb h z=>by
   rw [z,g1] at hb
   cases hb
   exact h ts g2
  refine Dq hfr (hl.of_keeps fun b o hb h=>⟨o,by rw [ot b (nf b o hb h)];exact hb,rfl⟩) hf (by rw [ot x (Ne.symm nT)];exact e1) e2 e3 e4 (Array.getElem?_eq_some_iff.mp e5).1 fun h' T a1 a2 a3=>k h' T a1 ?_ fun b o hb hn=>?_
  ·cases q:s.heap.get? T with
   | none=>rfl
   | some o =>
    by_cases z:T=T0
    ·have hf3:=Obj.data_mapFields g2 (·.setIfInBounds 3 Value.none)
     have:=Heap.get?_update_self (Obj.mapFields (·.setIfInBounds 3 Value.none)) g1 (Obj.isFreed_of_fields hf3)
     rw [z] at a2
     rw [this] at a2
     cases a2
    ·rw [ot T z,q] at a2
     cases a2
  ·have n1:b≠x:=fun z=>hn (by rw [z];exact List.mem_cons_self)
   have n2:b≠T0:=fun z=>hn (by rw [z];exact List.mem_cons_of_mem _ (List.mem_singleton.mpr rfl))
   exact a3 b o (by rw [ot b n2];exact hb) (fun z=>n1 (List.mem_singleton.mp z))
theorem C7 {x T:Addr} {cls fl:Value} {od:Option Addr} {Q:Unit->Shared->Prop} (he:ExA s.heap x cls od (some (T,fl)))
 (k:∀ h',ExA h' x cls od (some (T,.none))->(∀ b,b≠T->h'.get? b=s.heap.get? b)->h'.objs.size=s.heap.objs.size->Q () { s with heap:=h' }):wpAny M A (setFlight (.ref x) none) Q E s:=by
 obtain ⟨oe,vs,e1,e2,e3,e4,e5,nT,oT,ts,g1,g2,g3⟩:=he
 have z3:3 < ts.size:=(Array.getElem?_eq_some_iff.mp g3).1
 unfold setFlight
 refine wpAny_bind (wpAny_field e1 e4 e5 ?_)
 rw [if_pos (by simp)]
 refine wpAny_setField g1 g2 z3 (k _ ⟨oe,vs,?_,e2,e3,e4,e5,nT,_,_,Heap.get?_update_self _ g1 (Obj.isFreed_of_fields (Obj.data_mapFields g2 _)),Obj.data_mapFields g2 _,by simp [z3]⟩ (fun b hb=>Heap.get?_update_other _ _ (Ne.symm hb)) (Es ..))
 rw [Heap.get?_update_other _ _ nT]
 exact e1
theorem GU {base:Heap} {env:Env} {outer:List Env} {L x:Addr} {cls:Value} {od:Option Addr} {t:Option (Addr × Value)} {Q:Unit->Shared->Prop}
 (hfr:A.frames=some (env::outer)) (hl:s.heap.FunFrames base (env::outer)) (hf:env.frame=some L) (he:ExA s.heap x cls od t) (ht:t=none\/∃ T,t=some (T,.none))
 (k:∀ h' T,ExA h' x cls od (some (T,.none))->s.heap.get? T=none->Sl (frs (env::outer)) (x::(t.map (·.1)).toList) s.heap h'->Q () { s with heap:=h' }) :
 wpAny M A (noteFrame (.ref x) env) (fun _ s1=>wpAny M A (setFlight (.ref x) none) Q E s1) E s :=
 Hf hfr hl hf he ht fun h1 T a1 a2 a3=>C7 (s:={ s with heap:=h1 }) a1 fun h2 b1 b2 b3=>k h2 T b1 a2 fun b o hb hn=>by
  obtain ⟨c1,sl,c2⟩:=a3 b o hb hn
  have nT:b≠T:=fun z=>by rw [z,a2] at hb;cases hb
  exact ⟨fun nf=>(b2 b nT).trans (c1 nf),sl,(b2 b nT).trans c2⟩
end
section
variable {X:Cx} {pins:List (Addr × Obj)} {σ:St} {H H':Hp} {s:Shared} {h':Heap}
theorem ObjOk.is {P:Program} {w:World} {h:Heap} {a:Addr} {o:HO} (x:ObjOk P w H h a o):∃ u,h.get? a=some u:=by
 cases o with
 | lst xs=>obtain ⟨_,_,_,_,e⟩:=x;exact ⟨_,e⟩
 | tup xs=>obtain ⟨_,_,_,o,e,_⟩:=x;exact ⟨_,e⟩
 | dK kvs=>obtain ⟨_,_,_,_,o,_,_,e,_⟩:=x;exact ⟨_,e⟩
 | dT kvs=>obtain ⟨_,_,_,_,o,_,_,e,_⟩:=x;exact ⟨_,e⟩
 | set S n=>obtain ⟨o,_,_,_,e,_⟩:=x;exact ⟨_,e⟩
 | ins C dx fs=>obtain ⟨_,_,_,e,_⟩:=x;exact ⟨_,e⟩
 | own y=>exact x
 | xd fs=>obtain ⟨_,⟨_,_,_,e,_⟩,_⟩:=x;exact ⟨_,e⟩
 | rng lo hi=>obtain ⟨_,_,_,e⟩:=x;exact ⟨_,e⟩
 | frz ob u=>obtain ⟨e,_⟩:=x;exact ⟨_,e⟩
 | tbl ps=>exact ⟨_,x⟩
 | met f y=>exact ⟨_,x⟩
 | ext φ=>obtain ⟨_,e,_⟩:=x;exact e
theorem Co {P:Program} {w:World} {h:Heap} {a:Addr} (hok:HOk P w H h) (n:h.get? a=none):H a=none:=by
 cases e:H a with
 | none=>rfl
 | some o =>
  obtain ⟨u,q⟩:=(hok a o e).is
  rw [n] at q
  cases q
end
theorem Hc {K:W.Frag} {h:Heap} {C:Addr} {bmB:List Value} {newId:String} (X:K.In h) (q:PySem.W.excIn K C bmB newId=true):∃ (nm qn:Str) (N:Addr) (bs bm:List Value) (hd:Bool) (sn:List Str) (sub:List Value) (ab:Bool) (col:Option Bool) (dd:Option Addr) (k0 k1 k2 k3 k5:Option Value) (mN:Str->Option Value),
 h.get? C=some (excClassObj nm qn C N bs bm hd sn sub ab col dd k0 k1 k2 k3 k5 newId)/\h.Ns N mN/\mN "__init__" = none/\OwnTail h bmB bm:=by
 unfold PySem.W.excIn at q
 split at q
 case h_2=>cases q
 rename_i od cl sls hlk
 split at q
 case h_2=>cases q
 rename_i C2 rest a0 a1 a2 a3 nid a5 hmro hslots
 simp only [Bool.and_eq_true,beq_iff_eq,Bool.not_eq_true'] at q
 obtain ⟨⟨⟨⟨⟨z1,z2⟩,z3⟩,z4⟩,z5⟩,z6⟩:=q
 subst z1
 subst z2
 cases cl with
 | mk nm bs mro ns qn hd sn sub ab col del =>
  have m1:mro=.ref C2::rest:=hmro
  have m2:del=false:=z3
  subst m1
  subst m2
  have m3:sls = #[a0,a1,a2,a3,some (.builtin nid),a5]:=by
   cases sls with
   | mk l=>exact congrArg Array.mk hslots
  subst m3
  exact ⟨nm,qn,ns,bs,rest,hd,sn,sub,ab,col,od,a0,a1,a2,a3,a5,h.nsMap ns,X _ _ hlk,.of_isNs (PySem.W.isNs_of_in X z5),PySem.W.nsMap_none_of_in X z5 z6,PySem.W.tail_of_in X z4⟩
noncomputable abbrev BW:List Value:=[.type "ValueError",.type "Exception",.type "BaseException",.type "object"]
section
variable {X:Cx} {C:Addr} {c:Str} {np cpos pos:Pos} {e:Expr} {es:List Expr} {ta:TA} {W:Hp->Prop}
end
noncomputable def CD (x:Addr) (cls:Value) (od:Option Addr) (h:Heap):Prop:=∃ oe vs,h.get? x=some oe/\oe.cls=cls/\oe.dict=od/\oe.data=.fields vs
noncomputable abbrev Af (x:Addr) (cls:Value) (od:Option Addr):HO:=.ext (CD x cls od)
theorem Gp {P:Program} {w:World} {H:Hp} {h:Heap} {x:Addr} {cls:Value} {od:Option Addr} (e:CD x cls od h):ObjOk P w H h x (Af x cls od) :=
 ⟨e,let ⟨oe,_,q,_⟩:=e;⟨oe,q⟩,fun _ _ ⟨oe,vs,q,r⟩ k=>⟨oe,vs,k oe q,r⟩⟩
theorem ExA.has {h:Heap} {x:Addr} {cls:Value} {od:Option Addr} {t:Option (Addr × Value)} (e:ExA h x cls od t):CD x cls od h:=let ⟨oe,vs,a,b,c,d,_⟩:=e;⟨oe,vs,a,b,c,d⟩
noncomputable def Cx.hand (X:Cx) (e:Value):Cx:={ X with A:=X.A.mark (some e),calm:=false,xe:=fun _ _=>False }
section
variable {X:Cx} {pins:List (Addr × Obj)} {σ:St} {H H':Hp} {s s1:Shared} {h:Heap}
theorem Inv.hand (I:Inv X pins σ H s) (e:Value):Inv (X.hand e) pins σ H s :=
 ⟨⟨I.ok.mod,I.ok.kind,I.ok.glob,I.ok.blt,I.ok.above,I.ok.inj,I.ok.has,I.ok.cab,(fun z=>by cases z),I.ok.frames,I.ok.stk,I.ok.exf,I.ok.bs,I.ok.bsz,I.ok.noex,I.ok.exfs,I.ok.funs,I.ok.frf⟩,I.os,I.bare,I.base,I.loc,I.cell,I.free,I.freeC,I.pin,I.hok,I.len⟩
theorem Inv.unhand {e:Value} (J:Inv X pins σ H s) {pins':List (Addr × Obj)} {σ':St} {H1:Hp} {s2:Shared} (I:Inv (X.hand e) pins' σ' H1 s2):Inv X pins' σ' H1 s2 :=
 ⟨J.ok,I.os,I.bare,I.base,I.loc,I.cell,I.free,I.freeC,I.pin,I.hok,I.len⟩
theorem Bq {M:Model} {A:Around} {E:Value->Shared->Prop} {i:Nat} {x:Str} {pos:Pos} {Q:Unit->Shared->Prop} (I:Inv X pins σ H s) (hN:X.N.Nodup) (hi:X.N[i]? = some x) (hk:X.env.kindOf x=some .local)
 (h:∀ s',Inv X pins (σ.set i none) H s'->Q () s'):wpAny M A (do bindName X.env x .none;unbindBehindTheSuite X.env x pos) Q E s:=by
 obtain ⟨m,hn,hl⟩:=id I.loc
 have hcls:(X.env.scope.kind == .class || (X.env.scope.kind == .module && X.env.locals != X.env.globals))=false:=by rw [I.ok.kind];rfl
 have hiσ:i < σ.length:=by rw [I.len];exact (List.getElem?_eq_some_iff.mp hi).1
 have cne:=I.cne
 refine wpAny_nameGoes_keeps hk hn hcls fun h' v hn' hs=>?_
 obtain ⟨oL,_,_,hoL,_⟩:=id hn
 refine h _ ⟨I.ok,I.os,I.bare,⟨fun b o e n hb hx=>?_,fun b o e n hb hx=>?_,I.base.free,fun b o e hx=>?_,I.base.tups,I.base.frzs,I.base.tbls⟩,⟨_,hn',fun j y v' e1 e2 e3=>?_⟩,fun y c e=>?_,I.free,I.freeC,fun p hp=>?_,fun b ob e=>?_,by simpa using I.len⟩
 ·exact (hs.2 b (Nat.ne_of_lt (Nat.lt_of_lt_of_le (Heap.lt_size e) I.ok.above))).trans (I.base.keep b o e n hb hx)
 ·obtain ⟨sl,e1⟩:=I.base.slot b o e n hb hx
  exact ⟨sl,(hs.2 b (Nat.ne_of_lt (Nat.lt_of_lt_of_le (Heap.lt_size e) I.ok.above))).trans e1⟩
 ·obtain ⟨o',e1⟩:=I.base.there b o e hx
  exact ⟨o',(hs.2 b (Nat.ne_of_lt (Nat.lt_of_lt_of_le (Heap.lt_size e) I.ok.above))).trans e1⟩
 ·by_cases hj:j=i
  ·subst hj
   rw [List.getElem?_set_self hiσ] at e2
   cases e2
  ·rw [List.getElem?_set_ne (Ne.symm hj)] at e2
   obtain ⟨u',r',q⟩:=hl j y v' e1 e2 e3
   refine ⟨u',r',?_⟩
   rcases q with ⟨k,e⟩ | ⟨k,c,e,z⟩
   ·refine .inl ⟨k,?_⟩
    have:y≠x:=fun e=>hj (B6 hN e1 (e ▸ hi))
    simp [this,e]
   ·exact .inr ⟨k,c,e,z.sameBut hs (cne y c e)⟩
 ·obtain ⟨w',z⟩:=I.cell y c e
  exact ⟨w',z.sameBut hs (cne y c e)⟩
 ·obtain ⟨e,n,ne,nf,d⟩:=I.pin p hp
  exact ⟨(hs.2 p.1 ne).trans e,n,ne,nf,d⟩
 ·refine (I.hok b ob e).stay (fun c w' hc q=>(hs.2 c ?_).trans q) (fun _ q=>q) fun _ _ q=>q
  rintro rfl
  rcases hc with rfl | hc
  ·rw [I.free] at e;cases e
  ·rw [I.free] at hc;cases hc
end
noncomputable abbrev TX:=St->Hp->VK->XK->Prop
noncomputable def Ends.off (D:Ends) (j:Nat):Ends:={ nx:=fun σ H=>D.nx (σ.set j none) H,rt:=D.rt,bk:=fun σ H=>D.bk (σ.set j none) H,ct:=fun σ H=>D.ct (σ.set j none) H }
section
variable {X:Cx} {k:Nat} {f C:Addr} {fd:FuncData} {ps:List Str} {sp:Sp} {dvs:List V} {ds:List Value} {x c y n:Str} {p p1 p2 p3 pos:Pos} {e:Expr} {es:List Expr} {t:TA} {tx:TX} {ts:TS} {i j:Nat} {b:Stmt} {bs:List Stmt}
end
structure ExcC (K:W.Frag) (C:Addr):Prop where
 ga:PySem.W.findIn K (.ref C) "__getattribute__" = some (some (.builtin "BaseException.__getattribute__"))
 nga:PySem.W.findIn K (.ref C) "__getattr__" = some none
 mro:PySem.W.mroIn K C (.type "BaseException")=some true
 obj:PySem.W.mroIn K C (.type "object")=some true
 cl:PySem.W.findIn K (.ref C) "__class__" = some (some (.builtin "object.__class__"))
 ge:PySem.W.specialIn K (.builtin "object.__class__") "__get__" = some (some (.builtin "getset_descriptor.__get__"))
 tk:PySem.W.takesIn K (.builtin "object.__class__")=some true
section
variable {prog:Program} {w:World} {A:Around} {E:Value->Shared->Prop} {h:Heap} {g:Array GenState} {d:Drawn} {t:Nat} {os:OsState} {K:W.Frag} {x C:Addr} {ox:Obj} {od:Option Obj} {name:Str}
theorem GM {M:Model} {nameV:Value} {Q:Unit->Shared->Prop} (X:K.In h) (I:PySem.W.InstAt h x ox C od) (Z:ExcC K C) (hq:Q () ⟨h,g,d,t,os⟩):wpAny M A (checkBuiltinCall "BaseException.__getattribute__" ⟨[.ref x,nameV],[]⟩) Q E ⟨h,g,d,t,os⟩:=by
 have hk:builtinKind "BaseException.__getattribute__" = some .slot:=by decide +kernel
 have hsplit:splitId "BaseException.__getattribute__" = some ("BaseException","__getattribute__"):=by decide +kernel
 have ha:=F.args_bexc_ga (.ref x) nameV
 have L:PySem.W.Looks M h (isInstance (.ref x) (.type "BaseException")) true:=(I.type (M:=M)).andThen (PySem.W.looks_mroIn X Z.mro)
 simp only [checkBuiltinCall,hk,hsplit]
 refine wpAny_bind (L.at ?_)
 repeat (first | assumption | wp_step)
theorem D3 {tk:Tok} {fill expr:Bool} {Q:Value->Shared->Prop} (X:K.In h) (I:PySem.W.InstAt h x ox C od) (Z:ExcC K C)
 (hq:∀ A':Around,wpAny (model prog w) A' (Builtin.«object.__getattribute__» ⟨[.ref x,.str name tk],[]⟩) (fun fin s'=>∃ v,fin=.done (.ret v)/\PySem.W.handedIn v=true/\Q v s') (fun _ _=>False) ⟨h,g,d,t,os⟩) :
 wpAny (model prog w) A (getAttrBy (.ref x) (.str name tk) fill expr) Q E ⟨h,g,d,t,os⟩:=by
 have hx:=I.at_
 have hc:=I.cls
 have f3:=F.excAttr_ValueError.ga.bind (.ref x)
 have hx0:(expr && onTheHeap (Value.builtin "BaseException.__getattribute__"))=false:=by cases expr <;> rfl
 have hx2:(Value.builtin "BaseException.__getattribute__" == Value.builtin "object.__getattribute__")=false:=by decide +kernel
 have hx1:(onTheHeap (Value.ref C) && Value.builtin "BaseException.__getattribute__" == Value.builtin "object.__getattribute__")=false:=by rw [hx2];rfl
 have L1:=PySem.W.looks_findIn (M:=model prog w) X Z.ga
 have L2:=PySem.W.looks_findIn (M:=model prog w) X Z.nga
 repeat (any_goals (first | assumption | (with_reducible refine wpAny_loadPart_at hx ?_;rw [hc]) | with_reducible refine L1.at ?_ | with_reducible refine L2.at ?_ | wp_step))
 refine codeAny_call_builtin F.excAttr_ValueError.ga.plain F.entry_bexc_ga (GM X I Z (wpAny_mono (hq _) (fun fin s' z=>?_) fun _ _ z=>False.elim z))
 obtain ⟨v,rfl,hv,z⟩:=z
 repeat (any_goals (first | assumption | wp_step))
 show wpAny _ _ (handedOut v) _ _ _
 rw [PySem.W.handedOut_of hv]
 exact wpAny_pure z
theorem Gz {v:Value} {tk:Tok} {fill expr:Bool} {Q:Value->Shared->Prop} (X:K.In h) (I:PySem.W.InstAt h x ox C od) (Z:ExcC K C) (hf:PySem.W.findObj K C od name=some (.value v)) (hv:PySem.W.handedIn v=true) (hq:Q v ⟨h,g,d,t,os⟩) :
 wpAny (model prog w) A (getAttrBy (.ref x) (.str name tk) fill expr) Q E ⟨h,g,d,t,os⟩:=by
 refine D3 X I Z fun A'=>?_
 have L0:=I.type (M:=model prog w)
 have L3:=PySem.W.looks_find (M:=model prog w) X I hf
 refine wpAny_bind (wpAny_pure (wpAny_bind (wpAny_pure (wpAny_bind (L0.at (wpAny_bind (L3.at ?_)))))))
 exact wpAny_pure ⟨v,rfl,hv,hq⟩
theorem FM {tk:Tok} {fill expr:Bool} {Q:Value->Shared->Prop} (X:K.In h) (I:PySem.W.InstAt h x ox C od) (Z:ExcC K C) (hq:Q (.ref C) ⟨h,g,d,t,os⟩) :
 wpAny (model prog w) A (getAttrBy (.ref x) (.str "__class__" tk) fill expr) Q E ⟨h,g,d,t,os⟩:=by
 refine D3 X I Z fun A'=>?_
 have hf:PySem.W.findObj K C od "__class__" = some (.bind (.builtin "getset_descriptor.__get__") (.builtin "object.__class__")):=by
  have:=Z.obj
  unfold PySem.W.mroIn at this
  obtain ⟨cd,a,b⟩:=Option.bind_eq_some_iff.mp this
  unfold PySem.W.findObj
  rw [a,Z.cl]
  simp only [Option.bind_some,Z.ge,Z.tk]
 have L0:=I.type (M:=model prog w)
 have L3:=PySem.W.looks_find (M:=model prog w) X I hf
 refine wpAny_bind (wpAny_pure (wpAny_bind (wpAny_pure (wpAny_bind (L0.at (wpAny_bind (L3.at ?_)))))))
 unfold Builtin.ObjectAttr.bindTo
 repeat (any_goals (first | assumption | wp_step))
 exact PySem.W.class_get (s:=⟨h,g,d,t,os⟩) X I Z.obj (wpAny_pure ⟨_,rfl,rfl,hq⟩)
theorem GD {Q:Option Value->Shared->Prop} {s:Shared} (X:K.In s.heap) (I:PySem.W.InstAt s.heap x ox C od) (Z:ExcC K C) (hq:Q (some (.ref C)) { s with toks:=s.toks+1 }):wpAny (model prog w) A (getAttr? (.ref x) "__class__") Q E s:=by
 obtain ⟨h,g,d,t,os⟩:=s
 unfold getAttr? getAttrBy?
 refine wpAny_bind (wpAny_mkText (wpAny_bind (wpAny_attempt (FM X I Z ?_))))
 exact wpAny_pure hq
theorem B9 (Z:ExcC K C):PySem.W.KitX K (.ref x) (.ref C) (fun h=>∃ ox od,PySem.W.InstAt h x ox C od) where
 ty:=fun _ _ _ ⟨_,_,I⟩=>I.type
 it:=fun _ _ X _=>by
  have:=Z.obj
  unfold PySem.W.mroIn at this
  obtain ⟨cd,hcD,_⟩:=Option.bind_eq_some_iff.mp this
  unfold PySem.W.clsIn at hcD
  split at hcD
  ·rename_i c' d' cd' sl' ho
   intro A' Q' E' s' k q
   unfold isType loadHead
   exact wpAny_bind (wpAny_loadPart (k _ _ (X _ _ ho)) (wpAny_pure q))
  ·cases hcD
 ne:=fun h tp dd its n sl X htp=>by
  have:=Z.obj
  unfold PySem.W.mroIn at this
  obtain ⟨cd,hcD,_⟩:=Option.bind_eq_some_iff.mp this
  refine Bool.eq_false_iff.mpr fun q=>?_
  have e:C=tp:=Value.ref.inj (beq_iff_eq.mp q)
  subst e
  unfold PySem.W.clsIn at hcD
  split at hcD
  ·rename_i c' d' cd' sl' ho
   have z:=(X _ _ ho).symm.trans htp
   cases z
  ·cases hcD
 ca:=fun X ⟨_,_,I⟩ k=>GD X I Z k
end
noncomputable def ExcAt (H:Hp) (x C:Addr) (od:Option Addr):Prop:=H x=some (Af x (.ref C) od)/\∀ d,od=some d->∃ o,H d=some o
noncomputable def IsC (K:W.Frag) (H:Hp) (t:Value) (b:Bool):V->Prop
 | .ty T=>PySem.W.kitOne K t (.type T)=some b
 | .ref p=>PySem.W.kitOne K t (.ref p)=some b\/∃ rs:List Addr,H p=some (.tup (rs.map V.ref))/\PySem.W.kitAny K t (rs.map Value.ref)=some b
 | _=>False
noncomputable def Bh (K:W.Frag):List V->Hp->VK->Prop:=fun xs H Q=>match xs with
 | [.ref x,c]=>∃ C od b,ExcAt H x C od/\ExcC K C/\IsC K H (.ref C) b c/\Q (.bl b) H
 | _=>False
theorem DK:∀ {rs:List Addr} {its:List Value},Vals (rs.map V.ref) its->its=rs.map Value.ref
 | [],_,.nil=>rfl
 | _::_,_,.cons r t=>by rw [DK t,(show _=Value.ref _ from r)];rfl
section
variable {X:Cx} {K:W.Frag} {pins:List (Addr × Obj)} {σ:St} {H:Hp} {s:Shared}
theorem ExcAt.inst {x C:Addr} {od:Option Addr} (e:ExcAt H x C od) (I:Inv X pins σ H s):∃ ox odo,PySem.W.InstAt s.heap x ox C odo:=by
 obtain ⟨⟨oe,vs,e1,e2,e3,e4⟩,_⟩:=(show ObjOk X.prog X.w H s.heap x (Af x (.ref C) od) from I.hok x _ e.1)
 have hn:PySem.W.notCls oe=true:=by unfold PySem.W.notCls;rw [e4]
 cases od with
 | none=>exact ⟨oe,none,e1,e2,hn,by rw [e3];trivial⟩
 | some dx =>
  obtain ⟨fs,hd⟩:=e.2 dx rfl
  obtain ⟨u,q⟩:=(I.hok dx _ hd).is
  exact ⟨oe,some u,e1,e2,hn,by rw [e3];exact q⟩
theorem Ha:CallR X (.builtin "isinstance") (Bh X.K):=by
 intro pins s σ H xs us Q I r q
 match xs,q with
 | [.ref x,c],q =>
  obtain ⟨C,od,b,h1,h2,h3,q⟩:=q
  obtain ⟨u,w',rfl,ru,rw'⟩:=EG r
  cases ru
  have fin:∀ tk,EP X pins σ Q (.bool b) { s with toks:=tk }:=fun tk=>⟨.bl b,H,I.tok _,rfl,q⟩
  match c,h3,rw' with
  | .ty T,h3,rw'=>cases rw';exact PySem.W.kia_one (B9 h2) I.kIn (h1.inst I) h3 (fun z=>nomatch z) fin
  | .ref p,h3,rw' =>
   cases rw'
   rcases h3 with h3 | ⟨rs,hp,h3⟩
   ·exact PySem.W.kia_one (B9 h2) I.kIn (h1.inst I) h3 (fun z=>nomatch z) fin
   ·obtain ⟨_,its,rv,o,g1,g2,⟨n,g3⟩,_⟩:=(show ObjOk X.prog X.w H s.heap p (.tup (rs.map V.ref)) from I.hok p _ hp)
    rw [DK rv] at g3
    obtain ⟨oc,od',da,sl⟩:=o
    cases g2
    cases g3
    exact PySem.W.kia_tup (B9 h2) I.kIn (h1.inst I) g1 h3 (fun z=>nomatch z) fin
theorem Am (hK:X.K=K:=by rfl):CallR X (.builtin "isinstance") (Bh K):=hK ▸ Ha
theorem E4:Bx (Bh K):=fun xs H Q Q' h q=>by
 unfold Bh at q ⊢
 split at q
 ·obtain ⟨C,od,b,h1,h2,h3,q⟩:=q
  exact ⟨C,od,b,h1,h2,h3,h _ _ q⟩
 ·exact q
end
section
variable {X:Cx} {K:W.Frag}
end
end L2
namespace L2
open PySem PySem.Spec PyProof.Rows PySem.W
end L2
namespace L2
open PySem PySem.Spec PyProof.Rows
noncomputable def Ad (K:W.Frag) (C fI:Addr):Bool:=match K.lookup C with
 | some ⟨.type "type",_,.cls cd,sl⟩=>(match cd.mro,sl.toList with
  | .ref C'::bm,[_,_,_,_,some (.builtin n),_]=>C' == C && n == "ValueError.__new__" && !cd.hasDel && cd.hasDict && PySem.W.tailIn K BW bm && PySem.W.nsOkIn K cd.ns && PySem.W.nsIn K cd.ns "__init__" == some (some (.ref fI))
  | _,_=>false)
 | _=>false
theorem Fi {K:W.Frag} {h:Heap} {N:Addr} {mg:Str->Option Value} {n:Str} {v:Value} (X:K.In h) (G:h.Ns N mg) (e:PySem.W.nsIn K N n=some (some v)):mg n=some v:=by
 obtain ⟨o,es,ep,ho,hd,_,hf⟩:=G
 unfold PySem.W.nsIn at e
 split at e
 ·rename_i c d es' n' sl q
  have z:=X _ _ q
  rw [ho] at z
  cases z
  cases hd
  split at e
  ·rename_i en he
   cases e
   rw [<- hf]
   unfold nsFind findBy
   rw [<- Array.find?_toList,he]
   rfl
  ·split at e <;> cases e
 ·cases e
theorem B0 {K:W.Frag} {h:Heap} {C fI:Addr} (X:K.In h) (q:Ad K C fI=true):∃ (nm qn:Str) (N:Addr) (bs bm:List Value) (sn:List Str) (sub:List Value) (ab:Bool) (col:Option Bool) (dd:Option Addr) (k0 k1 k2 k3 k5:Option Value) (mN:Str->Option Value),
 h.get? C=some (excClassObj nm qn C N bs bm true sn sub ab col dd k0 k1 k2 k3 k5 "ValueError.__new__")/\h.Ns N mN/\mN "__init__" = some (.ref fI)/\OwnTail h BW bm/\∃ cd,PySem.W.clsIn K C=some cd/\cd.mro=.ref C::bm/\cd.hasDict=true:=by
 unfold Ad at q
 split at q
 case h_2=>cases q
 rename_i od cl sls hlk
 split at q
 case h_2=>cases q
 rename_i C2 rest a0 a1 a2 a3 nid a5 hmro hslots
 simp only [Bool.and_eq_true,beq_iff_eq,Bool.not_eq_true'] at q
 obtain ⟨⟨⟨⟨⟨⟨z1,z2⟩,z3⟩,z7⟩,z4⟩,z5⟩,z6⟩:=q
 subst z1
 subst z2
 have hcd:PySem.W.clsIn K C2=some cl:=by unfold PySem.W.clsIn;rw [hlk]
 cases cl with
 | mk nm bs mro ns qn hd sn sub ab col del =>
  have m1:mro=.ref C2::rest:=hmro
  have m2:del=false:=z3
  have m4:hd=true:=z7
  subst m1
  subst m2
  subst m4
  have m3:sls = #[a0,a1,a2,a3,some (.builtin "ValueError.__new__"),a5]:=by
   cases sls with
   | mk l=>exact congrArg Array.mk hslots
  subst m3
  have G:h.Ns ns (h.nsMap ns):=.of_isNs (PySem.W.isNs_of_in X z5)
  exact ⟨nm,qn,ns,bs,rest,sn,sub,ab,col,od,a0,a1,a2,a3,a5,h.nsMap ns,X _ _ hlk,G,Fi X G z6,PySem.W.tail_of_in X z4,_,hcd,rfl,rfl⟩
section
variable {prog:Program} {w:World} {A:Around} {E:Value->Shared->Prop} {h:Heap} {g:Array GenState} {d:Drawn} {t:Nat} {os:OsState}
 {nm q:Str} {C N:Addr} {bs bm bmB:List Value} {hdct:Bool} {sn:List Str} {sub:List Value} {ab:Bool} {col:Option Bool} {dd:Option Addr} {k0 k1 k2 k3 k5:Option Value} {B Bn newId nid initId inN:String} {bmN:List Value}
theorem HB (Fn:ExcBaseFacts Bn newId inN bmN) (hBn:bmB.contains (.type Bn)=true) (F:ExcBaseFacts B nid initId bmB) (T:OwnTail h bmB bm) {mN:Str->Option Value} {rest:List Value} {fI:Addr} {oI:Obj} {Q:Fin->Shared->Prop}
 (hC:h.get? C=some (excClassObj nm q C N bs bm hdct sn sub ab col dd k0 k1 k2 k3 k5 newId)) (hn:h.Ns N mN) (hi:mN "__init__" = some (.ref fI)) (hfI:h.get? fI=some oI) (hfc:oI.cls=.type "function") (hrest:rest.length<=sizeLine)
 (hq:∀ h' e,Heap.MadeExcOf h h' e (.ref C) rest->wpAny (model prog w) A (call (.ref fI) (.ref e::rest)) (fun r s'=>r=.none/\Q (.done (.ret (.ref e))) s') E ⟨h',g,d,t,os⟩) :
 wpAny (model prog w) A (Builtin.«type.__call__» ⟨.ref C::rest,[]⟩) Q E ⟨h,g,d,t,os⟩:=by
 repeat (first | with_reducible refine wpAny_loadPart_at hC ?_ | with_reducible refine wpAny_madeBy_exc hC ?_ | wp_step)
 refine codeAny_call_builtin_code (Code.quiet_builtin _ Fn.quiet) (wpAny_check_new_subU Fn hBn T hC ?_)
 refine codeAny_exc_new_subU Fn hBn F T hC ?_ hrest
 show wpAny _ _ _ _ _ _
 generalize ho1:({ cls:=.type "tuple",data:=.seq rest.toArray }:Obj)=o1
 generalize ho2:({ cls:=.ref C,data:=.fields #[.ref h.objs.size,.none,.none,.none,.bool false,.none] }:Obj)=o2
 have up:∀ b o,h.get? b=some o->((h.push o1).push o2).get? b=some o:=fun b o e=>Heap.get?_push_of_some _ (Heap.get?_push_of_some _ e)
 have g2:((h.push o1).push o2).get? (h.objs.size+1)=some o2:=by
  have:=Heap.get?_push_size (h.push o1) (o:=o2) (by rw [<- ho2];rfl)
  rwa [Heap.size_push] at this
 have g1:((h.push o1).push o2).get? h.objs.size=some o1:=Heap.get?_push_of_some _ (Heap.get?_push_size h (by rw [<- ho1];rfl))
 have c2:o2.cls=.ref C:=by rw [<- ho2]
 have hC1:=up _ _ hC
 have hn1:((h.push o1).push o2).Ns N mN:=let ⟨o,es,ep,e,r⟩:=hn;⟨o,es,ep,up _ _ e,r⟩
 have hcC:(Value.ref C::bm).contains (.ref C)=true:=by simp
 have T1:=T.keeps (h':=(h.push o1).push o2) up
 unfold isInstance
 repeat (first | (with_reducible refine wpAny_loadPart_at g2 ?_;rw [c2]) | (with_reducible refine wpAny_isSubtype_exc hC1 ?_;rw [hcC]) | wp_step)
 show wpAny _ _ (typeLookup (.ref C) _) _ _ _
 refine wpAny_typeLookup_tail hC1 hn1 T1 F.mroIs F.init.lookup ?_
 rw [hi]
 refine wpAny_holding (wpAny_bind ?_)
 unfold bindSpecial
 refine wpAny_bind (wpAny_typeOf (T:="function") ⟨_,up _ _ hfI,hfc⟩ ?_)
 rw [if_pos (by decide)]
 refine wpAny_pure (wpAny_bind (wpAny_mono (hq _ (h.objs.size+1) ⟨up,Heap.get?_none_of_le (Nat.le_succ _),h.objs.size,by rw [g2,ho2],Heap.get?_none_of_le (Nat.le_refl _),by rw [g1,ho1]⟩) (fun r s' hr=>?_) fun _ _ x=>x))
 obtain ⟨rfl,hQ⟩:=hr
 wp_walk
 exact hQ
theorem EO (Fn:ExcBaseFacts Bn newId inN bmN) (hBn:bmB.contains (.type Bn)=true) (F:ExcBaseFacts B nid initId bmB) (T:OwnTail h bmB bm) {mN:Str->Option Value} {rest:List Value} {fI:Addr} {oI:Obj} {Q:Value->Shared->Prop}
 (hC:h.get? C=some (excClassObj nm q C N bs bm hdct sn sub ab col dd k0 k1 k2 k3 k5 newId)) (hn:h.Ns N mN) (hi:mN "__init__" = some (.ref fI)) (hfI:h.get? fI=some oI) (hfc:oI.cls=.type "function") (hrest:rest.length<=sizeLine)
 (hq:∀ h' e,Heap.MadeExcOf h h' e (.ref C) rest->wpAny (model prog w) (A.under (.builtin "type.__call__" ⟨.ref C::rest,[]⟩)) (call (.ref fI) (.ref e::rest)) (fun r s'=>r=.none/\Q (.ref e) s') E ⟨h',g,d,t,os⟩) :
 wpAny (model prog w) A (call (.ref C) rest) Q E ⟨h,g,d,t,os⟩:=by
 have f1:=tc_lookup
 have f2:=tc_bind (.ref C)
 have hT:(⟨h,g,d,t,os⟩:Shared).TypeIs (.ref C) "type":=⟨_,hC,rfl⟩
 refine wpAny_call (codeAny_of_tree ?_)
 show wpAny _ _ (callAny (.ref C) _) _ _ _
 repeat (any_goals (first | assumption | with_reducible refine wpAny_loadPart_at hC ?_ | wp_step))
 exact ⟨rfl,codeAny_call_builtin_at (Code.quiet_builtin _ (by decide +kernel)) entry_typeCall (wpAny_check_type_call_sub hC (HB Fn hBn F T hC hn hi hfI hfc hrest fun h' e hm=>hq h' e hm))⟩
theorem Gi {M:Model} {env:Env} {s:Shared} {x:Sem Value} {Q:Flow->Shared->Prop} (hbase:bm.contains (.type "BaseException")=true) (hh:A.handled=none)
 (hx:wpAny M A x (fun v s1=>∃ e oe,v=.ref e/\s1.heap.get? C=some (excClassObj nm q C N bs bm hdct sn sub ab col dd k0 k1 k2 k3 k5 newId)/\s1.heap.get? e=some oe/\oe.cls=.ref C/\(∃ vs,oe.data=.fields vs/\vs[1]? = some .none)/\E (.ref e) s1) E s) :
 wpAny M A (raiseStmt env (some x) none) Q E s:=by
 have hcB:(Value.ref C::bm).contains (.type "BaseException")=true:=by rw [List.contains_cons,hbase,Bool.or_true]
 unfold raiseStmt
 refine wpAny_bind (wpAny_mono hx (fun v s1 h1=>?_) fun _ _ x=>x)
 obtain ⟨e,oe,rfl,hC,he,hc,⟨vs,hv,h1⟩,hE⟩:=h1
 obtain ⟨hp,g,d,tk,os⟩:=s1
 obtain ⟨oc,od,oda,osl⟩:=oe
 cases hc
 cases hv
 repeat (first | with_reducible refine wpAny_loadPart_at he ?_ | with_reducible refine wpAny_loadPart_at hC ?_ | (with_reducible refine wpAny_isSubtype_exc hC ?_;rw [hcB]) | wp_step)
 rw [h1]
 repeat (first | with_reducible refine wpAny_loadPart_at he ?_ | wp_step)
 exact wpAny_raiseNew_none hh hE
end
section
variable {prog:Program} {w:World} {A:Around} {E:Value->Shared->Prop} {s:Shared} {env:Env} {K:W.Frag} {C fI:Addr}
theorem G8 {x:Str} {np cpos pos:Pos} {args:List Expr} {Q:Flow->Shared->Prop} {h0:Heap} (X0:K.In h0) (q:Ad K C fI=true) (hh:A.handled=none) (hplain:(backTo cpos (starEach args env)).any (·.1)=false)
 (hx:wpAny (model prog w) A (eval (.Name x np) env) (fun f s1=>f=.ref C/\wpAny (model prog w) A (evalArgs (.ref C) true (backTo cpos (starEach args env)) [])
   (fun a s2=>a.kw=[]/\a.pos.length<=sizeLine/\K.In s2.heap/\(∃ oI,s2.heap.get? fI=some oI/\oI.cls=.type "function") /\
     ∀ h' e,Heap.MadeExcOf s2.heap h' e (.ref C) a.pos->wpAny (model prog w) (A.under (.builtin "type.__call__" ⟨.ref C::a.pos,[]⟩)) (call (.ref fI) (.ref e::a.pos)) (fun r s3=>r=.none/\K.In s3.heap/\(∃ oe vs,s3.heap.get? e=some oe/\oe.cls=.ref C/\oe.data=.fields vs/\vs[1]? = some .none)/\E (.ref e) s3) E { s2 with heap:=h' }) E s1) E s) :
 wpAny (model prog w) A (exec (.Raise (some (.Call (.Name x np) args [] cpos)) none pos) env) Q E s:=by
 obtain ⟨nm,qn,N,bs,bm,sn,sub,ab,col,dd,k0,k1,k2,k3,k5,mN,hC0,hN0,hi0,TL0,cd,hcd,hmro,_⟩:=B0 X0 q
 have look:∀ {h:Heap},K.In h->h.get? C=some (excClassObj nm qn C N bs bm true sn sub ab col dd k0 k1 k2 k3 k5 "ValueError.__new__"):=fun {h} X=>by
  obtain ⟨nm',qn',N',bs',bm',sn',sub',ab',col',dd',k0',k1',k2',k3',k5',mN',hC',_,_,_,cd',hcd',hmro',_⟩:=B0 X q
  have e0:∃ o,K.lookup C=some o:=by
   unfold Ad at q
   split at q
   ·rename_i hlk;exact ⟨_,hlk⟩
   ·cases q
  obtain ⟨o,e0⟩:=e0
  have e1:=X0 _ _ e0
  rw [hC0] at e1
  rw [X _ _ e0,<- e1]
 rw [arm_exec_Raise]
 have hbase:bm.contains (.type "BaseException")=true:=TL0.hasType (by decide)
 refine wpAny_bind (wpAny_standAt (Gi (C:=C) (nm:=nm) (q:=qn) (N:=N) (bs:=bs) (bm:=bm) (hdct:=true) (sn:=sn) (sub:=sub) (ab:=ab) (col:=col) (dd:=dd) (k0:=k0) (k1:=k1) (k2:=k2) (k3:=k3) (k5:=k5) (newId:="ValueError.__new__") hbase hh (wpAny_bind (wpAny_mono (wpAny_Call_ofName (wpAny_mono hx (fun f s1 h1=>?_) fun _ _ x=>x)) (fun v s3 h3=>wpAny_bind (wpAny_standAt (wpAny_pure h3))) fun _ _ x=>x))))
 obtain ⟨rfl,h1⟩:=h1
 unfold callWith
 refine wpAny_bind (wpAny_holding (wpAny_mono h1 (fun a s2 h2=>wpAny_bind (wpAny_standAt ?_)) fun _ _ x=>x))
 obtain ⟨apos,akw⟩:=a
 obtain ⟨hkw,hlen,X2,⟨oI,hfI,hfc⟩,h2⟩:=h2
 obtain rfl:akw=[]:=hkw
 obtain ⟨nm',qn',N',bs',bm',sn',sub',ab',col',dd',k0',k1',k2',k3',k5',mN',hC',hN',hi',TL',_⟩:=B0 X2 q
 obtain ⟨hp,g,d,tk,os⟩:=s2
 simp only [hplain]
 refine wpAny_bind (wpAny_keeperOf_exc hC' ?_)
 refine wpAny_bind (EO F.excBase_ValueError (by decide) F.excBase_ValueError TL' hC' hN' hi' hfI hfc hlen fun h' e hm=>?_)
 refine wpAny_mono (h2 h' e hm) (fun r s3 ⟨e1,X3,⟨oe,vs,g1,g2,g3,g4⟩,hE⟩=>⟨e1,wpAny_bind (wpAny_holding (wpAny_point (wpAny_pure ⟨e,oe,rfl,look X3,g1,g2,⟨vs,g3,g4⟩,hE⟩)))⟩) fun _ _ z=>z
end
end L2
namespace L2
open PySem PySem.Spec PyProof.Rows Builtin Builtin.ObjectAttr
theorem EX {h:Heap} {l:List Value} (self:Value) (T:OwnTail h BW l):refuseLoop self "__setattr__" l=pure ():=by
 induction T with
 | base=>exact PySem.F.store_ValueError.passes self
 | own _ _ _ _ ih=>rw [refuseLoop_ref];exact ih
structure ExcI (K:W.Frag) (C fI:Addr):Prop where
 ob:Ad K C fI=true
 xc:ExcC K C
 sa:PySem.W.findIn K (.ref C) "__setattr__" = some (some (.builtin "object.__setattr__"))
 fn:PySem.W.isFn K (.ref fI)=true
section
variable {prog:Program} {w:World} {A:Around} {E:Value->Shared->Prop} {s:Shared} {K:W.Frag} {x C fI:Addr} {name:Str} {v:Value} {mA:Str->Option Value} {ns:List Str}
theorem DR {Q:Unit->Shared->Prop} (X:K.In s.heap) (Z:ExcI K C fI) (n:AW K C name) (I:s.heap.Inst x C mA) (hw:Within mA ns) (hsz:ns.length<=1000)
 (hq:∀ h' tk',h'.Inst x C (fun y=>if y=name then some v else mA y) ->
   (∀ b o,b≠x->(∀ o0 dx,s.heap.get? x=some o0->o0.dict=some dx->b≠dx)->s.heap.get? b=some o->h'.get? b=some o) ->
   (∀ o0,s.heap.get? x=some o0->∃ o1,h'.get? x=some o1/\o1.cls=o0.cls/\o1.data=o0.data/\(∀ dx,o0.dict=some dx->o1=o0)/\(o0.dict=none->o1.dict=some s.heap.objs.size))->Q () { s with heap:=h',toks:=tk' }) :
 wpAny (model prog w) A (setAttr (.ref x) name v) Q E s:=by
 obtain ⟨o,hx,hc,hnc,hd⟩:=I
 obtain ⟨nm,qn,N,bs,bm,sn,sub,ab,col,dd,k0,k1,k2,k3,k5,mN,hC,hN,hi,TL,cd,hcd,hmro,hdict⟩:=B0 X Z.ob
 have J:∃ od,PySem.W.InstAt s.heap x o C od:=by
  have hn:PySem.W.notCls o=true:=by
   unfold PySem.W.notCls
   split
   ·rename_i c e;exact absurd e (hnc c)
   ·rfl
  rcases hd with ⟨h1,_⟩ | ⟨dx,h1,_,⟨od,es,ep,e,r⟩⟩
  ·exact ⟨none,hx,hc,hn,by rw [h1];trivial⟩
  ·exact ⟨some od,hx,hc,hn,by rw [h1];exact e⟩
 obtain ⟨od,J⟩:=J
 refine PySem.W.set_plain X J Z.sa ?_
 have SF:=PySem.F.store_object
 have sub:PySem.W.Looks (model prog w) s.heap (isInstance (.ref x) (.type "object")) true:=J.type.andThen (PySem.W.looks_mroIn X Z.xc.obj)
 refine codeAny_call_builtin SF.slot.plain SF.entry (@PySem.W.check_slot (model prog w) _ _ { s with toks:=s.toks+1 } "object.__setattr__" "object" "__setattr__" (.ref x) [.str name s.toks,v] [] _ SF.kind SF.split sub (SF.args (.ref x) (.str name s.toks) v) ?_)
 have hm:PySem.W.Looks (model prog w) s.heap (mroOf (.ref C)) cd.mro:=(PySem.W.looks_clsIn X hcd).andThen .now
 rw [PySem.W.osa_eq,refuse_eq]
 refine wpAny_bind (wpAny_bind (J.type.here (s:={ s with toks:=s.toks+1 }) (wpAny_bind (hm.here (s:={ s with toks:=s.toks+1 }) ?_))))
 rw [hmro,refuseLoop_ref,EX _ TL]
 refine wpAny_pure (wpAny_bind (J.type.here (s:={ s with toks:=s.toks+1 }) (wpAny_bind ((PySem.W.looks_findIn X n).here (s:={ s with toks:=s.toks+1 }) (wpAny_bind (PySem.W.Looks.here (s:={ s with toks:=s.toks+1 }) (r:=none) .now ?_))))))
 refine wpAny_bind (wpAny_pure (wpAny_bind (wpAny_bind (wpAny_loadPart hx ?_))))
 rw [hc]
 refine wpAny_bind (PySem.W.Looks.here (s:={ s with toks:=s.toks+1 }) (PySem.W.looks_clsIn X hcd) ?_)
 rw [hdict]
 rw [if_neg (by decide)]
 dsimp only
 rcases hd with ⟨hdn,hmA⟩ | ⟨dx,hdx,hne,hns⟩
 ·rw [hdn]
  dsimp only
  rw [if_neg (by simp [typeHasDict])]
  have hx1:(s.heap.push { cls:=.type "dict",data:=.dict #[] }).get? x=some o:=Heap.get?_push_of_some _ hx
  have hxs:x≠s.heap.objs.size:=Nat.ne_of_lt (Heap.lt_size hx)
  have hgd:((s.heap.push { cls:=.type "dict",data:=.dict #[] }).update x fun o=>{ cls:=o.cls,dict:=some s.heap.objs.size,data:=o.data,slots:=o.slots }).get? s.heap.objs.size=some { cls:=.type "dict",data:=.dict #[] } :=
   (Heap.get?_update_ne _ _ _ _ hxs.symm).trans (Heap.get?_push_at rfl rfl)
  have hnd:((s.heap.push { cls:=.type "dict",data:=.dict #[] }).update x fun o=>{ cls:=o.cls,dict:=some s.heap.objs.size,data:=o.data,slots:=o.slots }).Ns s.heap.objs.size (fun _=>none) :=
   ⟨_,#[],_,hgd,rfl,fun e he=>absurd he (by simp),fun _=>rfl⟩
  split
  ·rename_i c hcd'
   exact absurd hcd' (hnc c)
  ·refine wpAny_bind (wpAny_alloc' ?_)
   refine wpAny_bind (wpAny_update' hx1 ?_)
   refine wpAny_pure ?_
   show wpAny _ _ (storeInDict s.heap.objs.size (.str name s.toks) name v) _ _ _
   unfold storeInDict newKeyGuard
   refine wpAny_bind (wpAny_pure (wpAny_bind (wpAny_nsSet1 (Heap.Ns1.of_empty hnd) fun h' hn' hs=>?_)))
   obtain ⟨oD,esD,epD,hoD,hdD,hcD⟩:=hn'.count (Within.cons name v Within.nil)
   refine wpAny_bind (wpAny_lookBehind hoD (by rw [hdD];exact pastItsLine_dict (Nat.le_trans hcD (by rw [List.length_cons,List.length_nil,sizeLine_eq];lia))) ?_)
   have hx':h'.get? x=some { cls:=o.cls,dict:=some s.heap.objs.size,data:=o.data,slots:=o.slots }:=by
    refine (hs.2 x hxs).trans (Heap.get?_update_self _ hx1 ?_)
    have hfr:=(Heap.get?_some_iff.mp hx).2
    obtain ⟨oc,od,odt,osl⟩:=o
    cases odt <;> first | rfl | exact hfr
   refine wpAny_pure (hq h' _ ⟨{ cls:=o.cls,dict:=some s.heap.objs.size,data:=o.data,slots:=o.slots },hx',hc,hnc,.inr ⟨s.heap.objs.size,rfl,hxs.symm,?_⟩⟩ (fun b ob hbx _ hb=>?_)
    (fun o0 h0=>by obtain rfl:o=o0:=Option.some.inj (hx.symm.trans h0);exact ⟨_,hx',rfl,rfl,(fun dx e=>by rw [hdn] at e;cases e),fun _=>rfl⟩))
   ·obtain ⟨o',es,ep,e1,e2,e3,eu,e4⟩:=hn'
    exact ⟨o',es,ep,e1,e2,e3,eu,fun y=>by rw [e4 y];by_cases hy:y=name <;> simp [hy,hmA]⟩
   ·exact (hs.2 b (Nat.ne_of_lt (Heap.lt_size hb))).trans ((Heap.get?_update_ne _ _ _ _ hbx).trans (Heap.get?_push_of_some _ hb))
 ·rw [hdx]
  refine wpAny_pure ?_
  show wpAny _ _ (storeInDict dx (.str name s.toks) name v) _ _ _
  unfold storeInDict newKeyGuard
  refine wpAny_bind (wpAny_pure (wpAny_bind (wpAny_nsSet1 (s:={ s with toks:=s.toks+1 }) hns fun h' hn' hs=>?_)))
  obtain ⟨oD,esD,epD,hoD,hdD,hcD⟩:=hn'.count (Within.cons name v hw)
  refine wpAny_bind (wpAny_lookBehind hoD (by rw [hdD];exact pastItsLine_dict (Nat.le_trans hcD (by rw [List.length_cons,sizeLine_eq];lia))) ?_)
  refine wpAny_pure (hq h' _ ⟨o,(hs.2 x hne.symm).trans hx,hc,hnc,.inr ⟨dx,hdx,hne,hn'⟩⟩ (fun b ob _ hbd hb=>(hs.2 b (hbd o dx hx hdx)).trans hb)
   (fun o0 h0=>by obtain rfl:o=o0:=Option.some.inj (hx.symm.trans h0);exact ⟨o,(hs.2 x hne.symm).trans h0,rfl,rfl,(fun _ _=>rfl),fun e=>by rw [hdx] at e;cases e⟩))
end
end L2
namespace L2
open PySem PySem.Spec PyProof.Rows
noncomputable abbrev ExN (x:Addr) (cls:Value) (od:Option Addr):HO:=.ext (fun h=>ExA h x cls od none)
noncomputable def XdP (d:Addr) (fs:List (Str × V)) (h:Heap):Prop:=∃ mA,h.Ns1 d mA/\∀ f,RelO (fs.lookup f) (mA f)
noncomputable abbrev XdO (d:Addr) (fs:List (Str × V)):HO:=.ext (XdP d fs)
noncomputable def del (H:Hp) (x:Addr):Hp:=fun b=>if b=x then none else H b
section
variable {P:Program} {w:World} {H H':Hp} {h h':Heap} {x d:Addr} {cls:Value} {od:Option Addr} {fs:List (Str × V)}
theorem CB (e:ExA h x cls od none):ObjOk P w H h x (ExN x cls od) :=
 ⟨e,let ⟨oe,_,q,_⟩:=e;⟨oe,q⟩,fun _ _ ⟨oe,vs,q,r⟩ k=>⟨oe,vs,k oe q,r⟩⟩
theorem DZ (e:XdP d fs h):ObjOk P w H h d (XdO d fs) :=
 ⟨e,let ⟨_,⟨o,_,_,q,_⟩,_⟩:=e;⟨o,q⟩,fun _ _ ⟨mA,n,r⟩ k=>⟨mA,n.at k,r⟩⟩
theorem FB {mA:Str->Option Value} (r:∀ f,RelO (fs.lookup f) (mA f)):Within mA (fs.map (·.1)):=fun y hy=>by
 have z:=r y
 cases e:fs.lookup y with
 | none=>rw [e] at z;exact absurd (RelO.none_of z) hy
 | some v=>exact List.mem_map.mpr ⟨(y,v),mem_of_lookup e,rfl⟩
where mem_of_lookup:∀ {fs:List (Str × V)} {y:Str} {v:V},fs.lookup y=some v->(y,v)∈fs
 | [],_,_,e=>by cases e
 | (k,u)::r,y,v,e=>by
  rw [List.lookup_cons] at e
  split at e
  ·rename_i h;cases e;rw [eq_of_beq h];exact List.mem_cons_self
  ·exact List.mem_cons_of_mem _ (mem_of_lookup e)
end
section
variable {X:Cx} {pins:List (Addr × Obj)} {σ:St} {H H':Hp} {s:Shared} {h':Heap} {x C fI:Addr} {K:W.Frag}
theorem Inv.laidN {a:Addr} {o:HO} {t':Nat} (I:Inv X pins σ H s) (k:∀ b u,s.heap.get? b=some u->h'.get? b=some u) (nx:s.heap.get? a=none) (new:ObjOk X.prog X.w (upd H a o) h' a o):Inv X pins σ (upd H a o) { s with heap:=h',toks:=t' }:=by
 have hn:H a=none:=Co I.hok nx
 have ne:∀ b u,s.heap.get? b=some u->b≠a:=fun b u e z=>by rw [z,nx] at e;cases e
 have nh:∀ b u,H b=some u->b≠a:=fun b u e z=>by rw [z,hn] at e;cases e
 refine I.un ⟨fun b u e _ _ _=>k b u e,fun b u e _ _ _=>⟨u.slots,k b u e⟩,fun b u e n _=>by rw [AB (ne b u e)];exact n,fun b u e _=>⟨u,k b u e⟩,fun b xs e=>by rw [AB (nh b _ e)];exact e,fun b u v e=>by rw [AB (nh b _ e)];exact e,fun b ps e=>⟨#[],by rw [AB (nh b _ e),e];simp⟩⟩ fun b u e=>?_
 by_cases z:b=a
 ·subst z;rw [AC] at e;cases e;exact new
 ·rw [AB z] at e
  exact (I.hok b u e).stay (fun c v _ q=>k c v q) (fun c q=>by rw [AB (nh c _ q)];exact q) fun c xs q=>by rw [AB (nh c _ q)];exact q
theorem G1 {f:Str} {y:V} {u:Value} {A:Around} {E:Value->Shared->Prop} {Q:Unit->Shared->Prop} (I:Inv X pins σ H s) (Z:ExcI X.K C fI) (n:AW X.K C f) (e:H x=some (ExN x (.ref C) none)) (ry:RelV y u)
 (hq:∀ d s',H d=none->Inv X pins σ (upd (upd H x (ExN x (.ref C) (some d))) d (XdO d [(f,y)])) s'->Q () s'):wpAny (model X.prog X.w) A (setAttr (.ref x) f u) Q E s:=by
 obtain ⟨⟨oe,vs,e1,e2,e3,e4,e5⟩,_⟩:=(show ObjOk X.prog X.w H s.heap x (ExN x (.ref C) none) from I.hok x _ e)
 refine DR (mA:=fun _=>none) (ns:=[]) I.kIn Z n ⟨oe,e1,e2,(fun c z=>by rw [e4] at z;cases z),.inl ⟨e3,fun _=>rfl⟩⟩ (fun y z=>absurd rfl z) (Nat.zero_le _) fun h' tk' I' hk hs=>?_
 obtain ⟨o1,g1,g2,g3,_,g4⟩:=hs oe e1
 have g4:=g4 e3
 have hd:H s.heap.objs.size=none:=I.hok.fresh (Nat.le_refl _)
 have nd:s.heap.get? s.heap.objs.size=none:=Heap.get?_none_of_le (Nat.le_refl _)
 have xd:x≠s.heap.objs.size:=Nat.ne_of_lt (Heap.lt_size e1)
 have keep:∀ b o,b≠x->s.heap.get? b=some o->h'.get? b=some o:=fun b o nb q=>hk b o nb (fun o0 dx q0 q1=>by rw [e1] at q0;cases q0;rw [e3] at q1;cases q1) q
 have nH:∀ b,b≠x->b≠s.heap.objs.size->(upd (upd H x (ExN x (.ref C) (some s.heap.objs.size))) s.heap.objs.size (XdO s.heap.objs.size [(f,y)])) b=H b:=fun b n1 n2=>by rw [AB n2,AB n1]
 have bd:∀ b o,s.heap.get? b=some o->b≠s.heap.objs.size:=fun b o q=>Nat.ne_of_lt (Heap.lt_size q)
 have bh:∀ b o,H b=some o->b≠s.heap.objs.size:=fun b o q z=>by rw [z,hd] at q;cases q
 have XD:XdP s.heap.objs.size [(f,y)] h':=by
  obtain ⟨o2,q1,_,_,q3⟩:=I'
  rw [g1] at q1
  cases q1
  rcases q3 with ⟨q,_⟩ | ⟨dx,q,_,q4⟩
  ·rw [g4] at q;cases q
  ·rw [g4] at q
   cases q
   refine ⟨_,q4,fun z=>?_⟩
   show RelO (List.lookup z [(f,y)]) (if z=f then some u else none)
   rw [List.lookup_cons]
   by_cases hz:z=f
   ·rw [hz,if_pos rfl,beq_self_eq_true];exact ry
   ·rw [if_neg hz,beq_eq_false_iff_ne.mpr hz];exact True.intro
 refine hq _ _ hd (I.un ⟨fun b o q nb _ _=>?_,fun b o q nb _ _=>⟨o.slots,?_⟩,fun b o q nb _=>?_,fun b o q _=>?_,fun b xs q=>?_,fun b o v q=>?_,fun b ps q=>⟨#[],?_⟩⟩ fun b o q=>?_)
 ·exact keep b o (fun z=>by rw [z,e] at nb;cases nb) q
 ·exact keep b o (fun z=>by rw [z,e] at nb;cases nb) q
 ·rw [nH b (fun z=>by rw [z,e] at nb;cases nb) (bd b o q)];exact nb
 ·by_cases z:b=x
  ·rw [z];exact ⟨_,g1⟩
  ·exact ⟨_,keep b o z q⟩
 ·rw [nH b (fun z=>by rw [z,e] at q;cases q) (bh b _ q)];exact q
 ·rw [nH b (fun z=>by rw [z,e] at q;cases q) (bh b _ q)];exact q
 ·rw [nH b (fun z=>by rw [z,e] at q;cases q) (bh b _ q),q];simp
 ·by_cases z:b=s.heap.objs.size
  ·subst z;rw [AC] at q;cases q;exact DZ XD
  ·rw [AB z] at q
   by_cases z2:b=x
   ·subst z2;rw [AC] at q;cases q
    exact CB ⟨o1,vs,g1,by rw [g2,e2],g4,by rw [g3,e4],e5⟩
   ·rw [AB z2] at q
    refine (I.hok b o q).stay (fun c v hc r=>keep c v (fun z=>?_) r) (fun c r=>?_) fun c xs r=>?_
    ·rcases hc with hc | hc
     ·exact z2 (hc.symm.trans z)
     ·rw [z,e] at hc;cases hc
    ·rw [nH c (fun z=>by rw [z,e] at r;cases r) (bh c _ r)];exact r
    ·rw [nH c (fun z=>by rw [z,e] at r;cases r) (bh c _ r)];exact r
theorem G9 {f:Str} {y:V} {u:Value} {d:Addr} {fs:List (Str × V)} {A:Around} {E:Value->Shared->Prop} {Q:Unit->Shared->Prop} (I:Inv X pins σ H s) (Z:ExcI X.K C fI) (n:AW X.K C f) (e:H x=some (ExN x (.ref C) (some d))) (ed:H d=some (XdO d fs)) (hne:d≠x) (hl:fs.length<=1000) (ry:RelV y u)
 (hq:∀ s',Inv X pins σ (upd H d (XdO d (Ah f y fs))) s'->Q () s'):wpAny (model X.prog X.w) A (setAttr (.ref x) f u) Q E s:=by
 obtain ⟨⟨oe,vs,e1,e2,e3,e4,e5⟩,_⟩:=(show ObjOk X.prog X.w H s.heap x (ExN x (.ref C) (some d)) from I.hok x _ e)
 obtain ⟨⟨mA,n1,r1⟩,_⟩:=(show ObjOk X.prog X.w H s.heap d (XdO d fs) from I.hok d _ ed)
 refine DR (mA:=mA) (ns:=fs.map (·.1)) I.kIn Z n ⟨oe,e1,e2,(fun c z=>by rw [e4] at z;cases z),.inr ⟨d,e3,hne,n1⟩⟩ (FB r1) (by rw [List.length_map];exact hl) fun h' tk' I' hk hs=>?_
 obtain ⟨o1,g1,g2,g3,g4,_⟩:=hs oe e1
 have g4:=g4 d e3
 subst g4
 obtain ⟨o2,q1,_,_,q3⟩:=I'
 rw [g1] at q1
 cases q1
 have nn:h'.Ns1 d (fun y=>if y=f then some u else mA y):=by
  rcases q3 with ⟨q,_⟩ | ⟨dx,q,_,q4⟩
  ·rw [e3] at q;cases q
  ·rw [e3] at q;cases q;exact q4
 refine hq _ (I.write (x:=d) (e:=d) (by rw [ed];exact True.intro) (.inl rfl) (fun b v nb q=>?_) (let ⟨o,_,_,q,_⟩:=nn;⟨o,q⟩) (DZ ⟨_,nn,fun g=>?_⟩))
 ·by_cases z:b=x
  ·subst z;rw [e1] at q;cases q;exact g1
  ·exact hk b v z (fun o0 dx q0 q1=>by rw [e1] at q0;cases q0;rw [e3] at q1;cases q1;exact nb) q
 ·show RelO ((Ah f y fs).lookup g) (if g=f then some u else mA g)
  rw [DG]
  by_cases q:g=f
  ·rw [if_pos q,if_pos q];exact ry
  ·rw [if_neg q,if_neg q];exact r1 g
end
noncomputable def Ew (C:Addr) (ta tv:TE) (f:Str):TS:=fun D σ H=>tv σ H fun y H1=>ta σ H1 fun v H2=>match v with
 | .ref x=>(H2 x=some (ExN x (.ref C) none)/\∀ d,H2 d=none->D.nx σ (upd (upd H2 x (ExN x (.ref C) (some d))) d (XdO d [(f,y)])))\/∃ d fs,H2 x=some (ExN x (.ref C) (some d))/\H2 d=some (XdO d fs)/\d≠x/\fs.length<=1000/\D.nx σ (upd H2 d (XdO d (Ah f y fs)))
 | _=>False
noncomputable def EQ (K:W.Frag) (ta:TE) (f:Str):TE:=fun σ H Q=>ta σ H fun v H1=>match v with
 | .ref x=>∃ C d fs v,ExcAt H1 x C (some d)/\H1 d=some (XdO d fs)/\ExcC K C/\AW K C f/\PySem.W.hasDictIn K C=true/\fs.lookup f=some v/\Q v H1
 | _=>False
section
variable {X:Cx} {K:W.Frag} {C fI:Addr} {fd:FuncData} {ps:List Str} {sp:Sp} {k:Nat} {o e value:Expr} {es:List Expr} {f c:Str} {pos pos' np cpos:Pos} {ta tv:TE} {t:TA} {W:St->Option Addr->Hp->Prop}
theorem Ar (Z:ExcI K C fI) (n:AW K C f) (ha:PE X o ta) (hv:PE X value tv) (hK:X.K=K:=by rfl) (hs:swapsWith value (some (.Attribute o f pos')) pos.line X.env=pure false:=by rfl):PS X (.Assign [.Attribute o f pos'] value pos) (Ew C ta tv f):=by
 subst hK
 intro pins s σ H D I h
 refine plainObj_wpAny_Assign_Attribute (thn (hv pins s σ H _ I h) fun u s1 ⟨y,H1,I1,ry,q⟩=>thn (ha pins s1 σ H1 _ I1 q) fun ov s2 ⟨x,H2,I2,rx,q2⟩=>?_) hs
 cases x with
 | ref x =>
  obtain rfl:ov=Value.ref x:=rx
  rcases q2 with ⟨g1,q⟩ | ⟨d,fs,g1,g2,g3,g4,q⟩
  ·exact G1 I2 Z n g1 ry fun d s' hd I'=>⟨σ,_,I',q d hd⟩
  ·exact G9 I2 Z n g1 g2 g3 g4 ry fun s' I'=>⟨σ,_,I',q⟩
 | _=>exact False.elim q2
theorem BD (he:PE X e ta) (hK:X.K=K:=by rfl) (hb:attributeBase e f X.env (eval e X.env)=eval e X.env:=by rfl):PE X (.Attribute e f pos) (EQ K ta f):=by
 subst hK
 intro pins s σ H Q I h
 refine E9 hb (thn (he pins s σ H _ I h) fun u s1 ⟨x,H1,I1,rx,q⟩=>?_)
 cases x with
 | ref x =>
  obtain rfl:u=Value.ref x:=rx
  obtain ⟨C,d,fs,v,⟨g1,_⟩,g2,Z,n,hd,l,q⟩:=q
  obtain ⟨⟨oe,vs,e1,e2,e3,e4⟩,_⟩:=(show ObjOk X.prog X.w H1 s1.heap x (Af x (.ref C) (some d)) from I1.hok x _ g1)
  obtain ⟨⟨mA,n1,r1⟩,_⟩:=(show ObjOk X.prog X.w H1 s1.heap d (XdO d fs) from I1.hok d _ g2)
  obtain ⟨u',hu,ru⟩:=RelO.some_of (v:=v) (o:=mA f) (by rw [<- l];exact r1 f)
  obtain ⟨od,ho,hl⟩:=Ep n1
  have hn:PySem.W.notCls oe=true:=by unfold PySem.W.notCls;rw [e4]
  have J:PySem.W.InstAt s1.heap x oe C (some od):=⟨e1,e2,hn,by rw [e3];exact ho⟩
  have ff:=PySem.W.findObj_own hd n rfl (by rw [hl,hu])
  unfold getAttr
  refine wpAny_bind (wpAny_mkText ?_)
  exact Gz (v:=u') I1.kIn J Z ff (Gq ru) ⟨v,H1,I1.tok _,ru,q⟩
 | _=>exact False.elim q
end
section
variable {X:Cx} {pins:List (Addr × Obj)} {σ:St} {H H':Hp} {s:Shared} {h':Heap} {ch:List Addr}
end
section
variable {P:Program} {w:World} {K:W.Frag} {mg:Str->Option Value} {base:Heap} {N:List Str} {qual:Str} {sc:Scope} {f:Addr} {cd:Value} {A:Around} {outer:List Env} {s0:Shared} {H0:Hp} {E:XK}
end
noncomputable def AX (C:Addr) (f:Str):Sp:=fun vs H Q _=>match vs with
 | [.ref x,y]=>H x=some (ExN x (.ref C) none)/\∀ d,H d=none->Q .non (upd (upd H x (ExN x (.ref C) (some d))) d (XdO d [(f,y)]))
 | _=>False
noncomputable def BJ (C:Addr) (f g:Str):Sp:=fun vs H Q _=>match vs with
 | [.ref x,y,z]=>H x=some (ExN x (.ref C) none)/\∀ d,H d=none->Q .non (upd (upd (upd H x (ExN x (.ref C) (some d))) d (XdO d [(f,y)])) d (XdO d (Ah g z [(f,y)])))
 | _=>False
noncomputable abbrev XW:=Addr->Addr->Option Addr->St->Hp->Prop
noncomputable abbrev TSX:=XW->St->Hp->Prop
noncomputable def HE (X:Cx) (pins:List (Addr × Obj)) (W:XW) (ev:Value) (s':Shared):Prop:=∃ x C od σ1 H1,ev=.ref x/\Inv X pins σ1 H1 s'/\H1 x=some (ExN x (.ref C) od)/\W x C od σ1 H1
noncomputable def PSX (X:Cx) (sts:List Stmt) (t:TSX):Prop :=
 ∀ (pins:List (Addr × Obj)) (s:Shared) (σ:St) (H:Hp) (W:XW),Inv X pins σ H s->t W σ H->wpAny (model X.prog X.w) X.A (execs sts X.env) (fun _ _=>False) (HE X pins W) s
noncomputable def xIf (tc:TT) (ta tb:TSX):TSX:=fun W σ H=>tc σ H fun b H1=>if b=true then ta W σ H1 else tb W σ H1
noncomputable def Fh (C:Addr) (sp:Sp) (ta:TA):TSX:=fun W σ H=>ta σ H fun vs H1=>vs.length<=1000/\∀ x,H1 x=none->sp (.ref x::vs) (upd H1 x (ExN x (.ref C) none)) (fun v H2=>v=.non/\∃ od,H2 x=some (ExN x (.ref C) od)/\W x C od σ H2) E0
noncomputable def GW (C:Addr) (ta:TA):TSX:=fun W σ H=>ta σ H fun vs H1=>vs.length<=1000/\∀ x,H1 x=none->W x C none σ (upd H1 x (ExN x (.ref C) none))
noncomputable def HI (K:W.Frag) (C:Addr) (j:Nat) (tx:TSX) (ts:TS):TS:=fun D σ H =>
 tx (fun x C' od σ1 H1=>PySem.W.exmOne K (.ref C') (.ref C)=some true/\ts (D.off j) (σ1.set j (some (.ref x))) (upd H1 x (Af x (.ref C') od))) σ H
section
variable {X:Cx} {K:W.Frag} {C fI:Addr} {fd:FuncData} {ps:List Str} {sp:Sp} {k:Nat} {e c:Expr} {es:List Expr} {cn n:Str} {pos np cpos p p3:Pos} {t:TA} {tc:TT} {ta tb:TSX} {sts rest:List Stmt} {b:Stmt} {bs:List Stmt} {ts:TS} {j:Nat}
theorem BP (hc:PT X.nox c tc) (ha:PSX X sts ta) (hb:PSX X rest tb):PSX X (.If c sts [] pos::rest) (xIf tc ta tb):=by
 intro pins s σ H W I h
 refine wpAny_execs_cons (wpAny_If (wpAny_mono (hc pins s σ H _ (I.wish _) h) (fun d s1 ⟨H1,I1,q1⟩=>?_) fun _ _ z=>False.elim z))
 cases d with
 | true=>exact wpAny_mono (ha pins s1 σ H1 W I1.unwish q1) (fun fl s2 q=>False.elim q) fun _ _ z=>z
 | false=>exact wpAny_execs_nil (hb pins s1 σ H1 W I1.unwish q1)
theorem A2 (Z:ExcI K C fI) (F:FnOk X.prog X.w X.K X.mg X.base CX0 k fI fd ps sp) (hr:Room (k+1) X.A) (hb:Binds X.K fd ps []) (hc:X.calm=true) (hg:Gl X cn) (hm:X.mg cn=some (.ref C)) (ha:PA X.nox (e::es) t) (hK:X.K=K:=by rfl) (hdb:(cn == ("__debug__" : Str))=false:=by decide)
 (he:starEach (e::es) X.env=(false,eval e X.env)::starEach es X.env:=by rfl) (hpl:(backTo cpos (starEach es X.env)).any (·.1)=false:=by rfl) :
 PSX X [.Raise (some (.Call (.Name cn np) (e::es) [] cpos)) none pos] (Fh C sp t):=by
 subst hK
 intro pins s σ H W I h
 refine wpAny_execs_cons (G8 I.kIn Z.ob (I.ok.hd hc) (by rw [he];show (false || (backTo cpos (starEach es X.env)).any (·.1))=false;rw [hpl];rfl) (Bc I hg hm ⟨rfl,?_⟩ hdb))
 rw [he]
 refine PySem.Calls.evalArgs_plain ?_
 have ha1:=ha cpos pins s σ H _ (I.wish _) h
 have he':starEach (e::es) X.nox.env=(false,eval e X.env)::starEach es X.env:=he
 rw [he'] at ha1
 refine wpAny_mono ha1 (fun us s1 ⟨vs,H1,J1,r,hl,q⟩=>⟨rfl,by rw [<- r.length];exact AJ hl,J1.kIn,?_,fun h1 x hm=>?_⟩) fun _ _ z=>False.elim z
 ·have ft:=beq_iff_eq.mp Z.fn
  unfold PySem.W.typeIn at ft
  obtain ⟨oI,l1,l2⟩:=Option.map_eq_some_iff.mp ft
  exact ⟨oI,J1.kIn _ _ l1,l2⟩
 have I1:=J1.unwish
 obtain ⟨tt,ht,htn,_⟩:=hm.there
 have nH:H1 x=none:=Co I1.hok hm.new
 have I2:Inv X pins σ (upd H1 x (ExN x (.ref C) none)) { s1 with heap:=h1,toks:=s1.toks }:=I1.laidN (a:=x) (fun b u e=>hm.keeps b u e) hm.new (CB ⟨_,_,ht,rfl,rfl,rfl,rfl⟩)
 have hq:=q x nH
 have r2:Vals (V.ref x::vs) (Value.ref x::us):=.cons rfl r
 have hl2:(Value.ref x::us++[]).length=ps.length:=by
  have e:=r2.length
  rw [F.len _ _ _ _ hq] at e
  rw [List.append_nil]
  exact e.symm
 have bb:=hb { s1 with heap:=h1,toks:=s1.toks } (Value.ref x::us) I2.kIn hl2
 rw [List.append_nil] at bb
 refine wpAny_call (codeAny_mono (F.run _ X.stack _ _ ⟨Value.ref x::us,[]⟩ (Value.ref x::us) _ _ E0 (hr.make C us []) (I2.env0.make C us []) bb r2 hq) fun rr s' hq'=>?_)
 cases rr with
 | error ev=>exact False.elim hq'
 | ok fl =>
  cases fl with
  | ret u =>
   obtain ⟨v,H',I3,rv,ev,od,g1,q3⟩:=I2.after hq'
   subst ev
   obtain ⟨⟨oe,vs',e1,e2,e3,e4,e5⟩,_⟩:=(show ObjOk X.prog X.w H' s'.heap x (ExN x (.ref C) od) from I3.hok x _ g1)
   exact ⟨rv,I3.kIn,⟨oe,vs',e1,e2,e4,e5⟩,x,C,od,σ,H',rfl,I3,g1,q3⟩
  | next=>exact False.elim hq'
  | brk=>exact False.elim hq'
  | cont=>exact False.elim hq'
theorem FN (hq:PySem.W.excIn X.K C BW "ValueError.__new__" = true) (hc:X.calm=true) (hg:Gl X cn) (hm:X.mg cn=some (.ref C)) (ha:PA X.nox (e::es) t) (hdb:(cn == ("__debug__" : Str))=false:=by decide)
 (he:starEach (e::es) X.env=(false,eval e X.env)::starEach es X.env:=by rfl) (hpl:(backTo cpos (starEach es X.env)).any (·.1)=false:=by rfl) :
 PSX X [.Raise (some (.Call (.Name cn np) (e::es) [] cpos)) none pos] (GW C t):=by
 intro pins s σ H W I h
 obtain ⟨nm,qn,N,bs,bm,hd,sn,sub,ab,col,dd,k0,k1,k2,k3,k5,mN,hC,hN,hni,TL⟩:=Hc I.ok.mod.kin hq
 refine wpAny_execs_cons (wpAny_Raise_call_subU (C:=C) (nm:=nm) (q:=qn) (N:=N) (bs:=bs) (bm:=bm) (hdct:=hd) (sn:=sn) (sub:=sub) (ab:=ab) (col:=col) (dd:=dd) (k0:=k0) (k1:=k1) (k2:=k2) (k3:=k3) (k5:=k5) F.excBase_ValueError (by decide) F.excBase_ValueError (TL.hasType (by decide)) (I.ok.hd hc) (by rw [he];show (false || (backTo cpos (starEach es X.env)).any (·.1))=false;rw [hpl];rfl) hni (Bc I hg hm ⟨rfl,?_⟩ hdb))
 rw [he]
 refine PySem.Calls.evalArgs_plain ?_
 have ha1:=ha cpos pins s σ H _ (I.wish _) h
 have he':starEach (e::es) X.nox.env=(false,eval e X.env)::starEach es X.env:=he
 rw [he'] at ha1
 refine wpAny_mono ha1 (fun us s1 ⟨vs,H1,J1,r,hl,q⟩=>⟨rfl,by rw [<- r.length];exact AJ hl,?_⟩) fun _ _ z=>False.elim z
 have I1:=J1.unwish
 refine ⟨I1.bk _ _ hC,hN.keeps I1.bk,TL.keeps I1.bk,fun h1 x hm=>?_⟩
 obtain ⟨tt,ht,htn,_⟩:=hm.there
 have nH:H1 x=none:=Co I1.hok hm.new
 have I2:Inv X pins σ (upd H1 x (ExN x (.ref C) none)) { s1 with heap:=h1,toks:=s1.toks }:=I1.laidN (a:=x) (fun b u e=>hm.keeps b u e) hm.new (CB ⟨_,_,ht,rfl,rfl,rfl,rfl⟩)
 exact ⟨x,C,none,σ,_,rfl,I2,AC,q x nH⟩
theorem Da {pins:List (Addr × Obj)} {σ:St} {H:Hp} {s:Shared} {h:Heap} {x:Addr} {cls:Value} {od:Option Addr} {tr:Option (Addr × Value)} (I:Inv X pins σ H s) (ex:H x=some (ExN x cls od)) (c':Sl (frs X.stack) [x] s.heap h) (a1:ExA h x cls od tr):Inv X pins σ (upd H x (Af x cls od)) { s with heap:=h }:=by
 have up:∀ b,b≠x->upd H x (Af x cls od) b=H b:=fun b n=>AB n
 have ni:∀ b,H b=none->b∉[x]:=fun b n z=>by rw [List.mem_singleton.mp z,ex] at n;cases n
 have nx:∀ b o,H b=some o->(∀ φ,o≠.ext φ)->b≠x:=fun b o e n z=>by rw [z,ex] at e;cases e;exact n _ rfl
 have nin:∀ {b},b∉[x]->b≠x:=fun h z=>h (by rw [z];exact List.mem_singleton.mpr rfl)
 refine I.call' (s':={ s with heap:=h }) (ch:=[]) rfl ⟨fun b o e n nb _=>?_,fun b o e n nb _=>?_,fun b o e n _=>?_,fun b o e _=>?_,fun b xs e=>?_,fun b o v e=>?_,fun b ps e=>⟨#[],?_⟩⟩ (fun b ob e=>?_) I.bare fun b z=>absurd z (by simp)
 ·exact (c' b o e (ni b n)).1 nb
 ·exact (c' b o e (ni b n)).2
 ·rw [up b (nin (ni b n))];exact n
 ·by_cases z:b=x
  ·obtain ⟨oe,_,g,_⟩:=a1
   rw [z];exact ⟨_,g⟩
  ·obtain ⟨sl,g⟩:=(c' b o e fun q=>z (List.mem_singleton.mp q)).2
   exact ⟨_,g⟩
 ·rw [up b (nx b _ e fun φ z=>by cases z)];exact e
 ·rw [up b (nx b _ e fun φ z=>by cases z)];exact e
 ·rw [up b (nx b _ e fun φ z=>by cases z),e];simp
 ·by_cases z:b=x
  ·subst z
   rw [AC] at e
   cases e
   exact Gp a1.has
  ·rw [up b z] at e
   refine (I.hok b ob e).stay (fun c2 v hc q=>(c' c2 v q fun m=>?_).1 fun m=>?_) (fun c2 q=>by rw [up c2 (nx c2 _ q fun φ z=>by cases z)];exact q) fun c2 xs q=>by rw [up c2 (nx c2 _ q fun φ z=>by cases z)];exact q
   ·have m:=List.mem_singleton.mp m
    rcases hc with hc | hc
    ·exact z (hc.symm.trans m)
    ·exact nx c2 _ hc (fun φ z=>by cases z) m
   ·have:=I.stkFree c2 m
    rcases hc with rfl | hc
    ·rw [e] at this;cases this
    ·rw [hc] at this;cases this
theorem HX {sts:List Stmt} {tx:TSX} (hN:X.N.Nodup) (hj:X.N[j]? = some n) (hn:X.env.kindOf n=some .local) (hstk:X.stack=X.env::X.outer) (hfr:X.env.frame=some X.env.locals) (hg:Gl X cn) (hm:X.mg cn=some (.ref C))
 (he:PSX X sts tx) (hs:∀ a,PSs (X.hand (.ref a)) (b::bs) ts) (hK:X.K=K:=by rfl) (hdb:(cn == ("__debug__" : Str))=false:=by decide):PS X (.Try sts [.ExceptHandler (some (.Name cn p3)) (some n) (b::bs) p] [] [] pos) (HI K C j tx ts):=by
 subst hK
 intro pins s σ H D I h
 refine wpAny_Try_except (wpAny_mono (he pins s σ H _ I h) (fun v s1 z=>False.elim z) fun ev s' q=>?_)
 obtain ⟨x,C',od,σ1,H1,rfl,I1,g1,hex,ht⟩:=q
 obtain ⟨ex,_⟩:=(show ObjOk X.prog X.w H1 s'.heap x (ExN x (.ref C') od) from I1.hok x _ g1)
 refine GU (base:=X.base) (outer:=X.outer) (L:=X.env.locals) (by rw [I1.ok.frames,hstk]) (by have:=I1.stack;rwa [hstk] at this) hfr ex (.inl rfl) fun h2 T2 a1 a2 a3=>?_
 rw [<- hstk] at a3
 have I2:=Da (h:=h2) I1 g1 a3 a1
 refine wpAny_handleBy_cons (codeAny_handlers_test (Bc (I2.hand (.ref x)) hg hm ?_ hdb)) (by intro q;cases q)
 obtain ⟨oe,vs,o1,o2,_⟩:=id a1
 have LT:PySem.W.Looks (model X.prog X.w) h2 (typeOf (.ref x)) oe.cls:=(PySem.W.Looks.ld o1).andThen .now
 rw [o2] at LT
 refine (PySem.W.exm_one I2.kIn LT hex).here ?_
 refine codeAny_handlers_suite_as (C7 (s:={ s' with heap:=h2 }) a1 fun h3 b1 b2 b3=>?_)
 have I3:=Da (h:=h3) I1 g1 (fun b o eb nb=>by
  have nT2:b≠T2:=fun z=>by rw [z,a2] at eb;cases eb
  obtain ⟨c1,sl,c2⟩:=a3 b o eb nb
  exact ⟨fun nf=>(b2 b nT2).trans (c1 nf),sl,(b2 b nT2).trans c2⟩) b1
 refine Ca (X:=X.hand (.ref x)) (I3.hand (.ref x)) hN hj (.inl hn) (v:=.ref x) rfl (fun s4 I4=>?_) (.inr hn)
 refine wpAny_mono (hs x pins s4 _ _ _ I4 ht) (fun fl s5 q=>?_) fun _ _ z=>False.elim z
 cases fl with
 | next=>obtain ⟨σ5,H5,I5,q⟩:=q;exact Bq (I1.unhand I5) hN hj hn fun s6 I6=>⟨_,_,I6,q⟩
 | brk=>obtain ⟨σ5,H5,I5,q⟩:=q;exact Bq (I1.unhand I5) hN hj hn fun s6 I6=>⟨_,_,I6,q⟩
 | cont=>obtain ⟨σ5,H5,I5,q⟩:=q;exact Bq (I1.unhand I5) hN hj hn fun s6 I6=>⟨_,_,I6,q⟩
 | ret w=>obtain ⟨v5,σ5,H5,I5,r5,q⟩:=q;exact Bq (I1.unhand I5) hN hj hn fun s6 I6=>⟨v5,_,_,I6,r5,q⟩
end
end L2
namespace Mine
open PySem L2
noncomputable def top (i:Nat):Stmt:=PySem.Challenge.pw_flips_k16_refusals_apart.main.body.getD i (.Pass ⟨0,0,0,0⟩)
noncomputable abbrev A7:Stmt:=BB (top 2) 0
noncomputable abbrev A6:Stmt:=BB (top 3) 0
noncomputable abbrev A4:Stmt:=BB (top 4) 0
noncomputable abbrev A5:Stmt:=BB (top 5) 0
noncomputable abbrev BF:Stmt:=BB (top 6) 0
noncomputable abbrev BG:Stmt:=BB (top 7) 0
noncomputable abbrev BI:Stmt:=top 10
noncomputable abbrev BO:Stmt:=top 11
noncomputable abbrev BN:Stmt:=top 12
noncomputable abbrev A9:Stmt:=top 13
noncomputable abbrev BK:Stmt:=top 14
noncomputable abbrev Ai:Stmt:=top 15
theorem EV:FnScope ["self","at"] ["self","at"] (AF A7):=by (exact ⟨rfl,rfl,rfl,by decide +kernel,rfl,by decide +kernel,by decide +kernel⟩)
theorem FT:FnScope ["self","one","other"] ["self","one","other"] (AF A6):=by (exact ⟨rfl,rfl,rfl,by decide +kernel,rfl,by decide +kernel,by decide +kernel⟩)
theorem Eb:FnScope ["self","one","other"] ["self","one","other"] (AF A4):=by (exact ⟨rfl,rfl,rfl,by decide +kernel,rfl,by decide +kernel,by decide +kernel⟩)
theorem EZ:FnScope ["self","question"] ["self","question"] (AF A5):=by (exact ⟨rfl,rfl,rfl,by decide +kernel,rfl,by decide +kernel,by decide +kernel⟩)
theorem HD:FnScope ["self","row"] ["self","row"] (AF BF):=by (exact ⟨rfl,rfl,rfl,by decide +kernel,rfl,by decide +kernel,by decide +kernel⟩)
theorem GP:FnScope ["self","name"] ["self","name"] (AF BG):=by (exact ⟨rfl,rfl,rfl,by decide +kernel,rfl,by decide +kernel,by decide +kernel⟩)
theorem Fv:FnScope ["_law_script"] ["_law_script"] (AF BI):=by (exact ⟨rfl,rfl,rfl,by decide +kernel,rfl,by decide +kernel,by decide +kernel⟩)
theorem sc_z17:FnScope ["_law_tape_here","_law_many","_law_script","_law_digit","_law_cell","_law_seed"] ["_law_tape_here","_law_many"] (AF BO):=by (exact ⟨rfl,rfl,rfl,by decide +kernel,rfl,by decide +kernel,by decide +kernel⟩)
theorem sc_z14:FnScope ["_law_k","_law_one","_law_other","_law_word","_law_caught","_law_e"] ["_law_k","_law_one","_law_other","_law_word"] (AF BN):=by (exact ⟨rfl,rfl,rfl,by decide +kernel,rfl,by decide +kernel,by decide +kernel⟩)
theorem GN:FnScope ["_law_k","_law_caught"] ["_law_k","_law_caught"] (AF A9):=by (exact ⟨rfl,rfl,rfl,by decide +kernel,rfl,by decide +kernel,by decide +kernel⟩)
theorem sc_z15:FnScope ["_law_e","_law_some"] ["_law_e"] (AF BK):=by (exact ⟨rfl,rfl,rfl,by decide +kernel,rfl,by decide +kernel,by decide +kernel⟩)
theorem sc_law:FnScope ["_law_script","_law_tape_here","_law_one","_law_other","_law_word","_law_due","_law_k","_law_caught"] ["_law_script"] (AF Ai):=by (exact ⟨rfl,rfl,rfl,by decide +kernel,rfl,by decide +kernel,by decide +kernel⟩)
set_option genInjectivity false
set_option genSizeOf false
structure Txt (K:W.Frag) (mg:Str->Option Value) where
 C_Alike:Addr
 mC_Alike:mg "Alike" = some (.ref C_Alike)
 C_FlipError:Addr
 mC_FlipError:mg "FlipError" = some (.ref C_FlipError)
 C_NoEnd:Addr
 mC_NoEnd:mg "NoEnd" = some (.ref C_NoEnd)
 C_NoName:Addr
 mC_NoName:mg "NoName" = some (.ref C_NoName)
 C_NoRow:Addr
 mC_NoRow:mg "NoRow" = some (.ref C_NoRow)
 C_NoTable:Addr
 mC_NoTable:mg "NoTable" = some (.ref C_NoTable)
 C_NoText:Addr
 mC_NoText:mg "NoText" = some (.ref C_NoText)
 C_NoThing:Addr
 mC_NoThing:mg "NoThing" = some (.ref C_NoThing)
 xc_Alike:ExcC K C_Alike
 hd_Alike:W.hasDictIn K C_Alike=true
 na_Alike_one:AW K C_Alike "one"
 na_Alike_other:AW K C_Alike "other"
 xm_Alike_FlipError:W.exmOne K (.ref C_Alike) (.ref C_FlipError)=some true
 kk_Alike_Alike:W.kitOne K (.ref C_Alike) (.ref C_Alike)=some true
 kk_Alike_NoEnd:W.kitOne K (.ref C_Alike) (.ref C_NoEnd)=some false
 kk_Alike_NoName:W.kitOne K (.ref C_Alike) (.ref C_NoName)=some false
 kk_Alike_NoRow:W.kitOne K (.ref C_Alike) (.ref C_NoRow)=some false
 kk_Alike_NoTable:W.kitOne K (.ref C_Alike) (.ref C_NoTable)=some false
 kk_Alike_NoText:W.kitOne K (.ref C_Alike) (.ref C_NoText)=some false
 kk_Alike_NoThing:W.kitOne K (.ref C_Alike) (.ref C_NoThing)=some false
 kk_Alike_ValueError:W.kitOne K (.ref C_Alike) (.type "ValueError")=some true
 xc_NoEnd:ExcC K C_NoEnd
 hd_NoEnd:W.hasDictIn K C_NoEnd=true
 na_NoEnd_one:AW K C_NoEnd "one"
 na_NoEnd_other:AW K C_NoEnd "other"
 xm_NoEnd_FlipError:W.exmOne K (.ref C_NoEnd) (.ref C_FlipError)=some true
 kk_NoEnd_Alike:W.kitOne K (.ref C_NoEnd) (.ref C_Alike)=some false
 kk_NoEnd_NoEnd:W.kitOne K (.ref C_NoEnd) (.ref C_NoEnd)=some true
 kk_NoEnd_NoName:W.kitOne K (.ref C_NoEnd) (.ref C_NoName)=some false
 kk_NoEnd_NoRow:W.kitOne K (.ref C_NoEnd) (.ref C_NoRow)=some false
 kk_NoEnd_NoTable:W.kitOne K (.ref C_NoEnd) (.ref C_NoTable)=some false
 kk_NoEnd_NoText:W.kitOne K (.ref C_NoEnd) (.ref C_NoText)=some false
 kk_NoEnd_NoThing:W.kitOne K (.ref C_NoEnd) (.ref C_NoThing)=some false
 kk_NoEnd_ValueError:W.kitOne K (.ref C_NoEnd) (.type "ValueError")=some true
 xc_NoName:ExcC K C_NoName
 hd_NoName:W.hasDictIn K C_NoName=true
 na_NoName_name:AW K C_NoName "name"
 xm_NoName_FlipError:W.exmOne K (.ref C_NoName) (.ref C_FlipError)=some true
 kk_NoName_Alike:W.kitOne K (.ref C_NoName) (.ref C_Alike)=some false
 kk_NoName_NoEnd:W.kitOne K (.ref C_NoName) (.ref C_NoEnd)=some false
 kk_NoName_NoName:W.kitOne K (.ref C_NoName) (.ref C_NoName)=some true
 kk_NoName_NoRow:W.kitOne K (.ref C_NoName) (.ref C_NoRow)=some false
 kk_NoName_NoTable:W.kitOne K (.ref C_NoName) (.ref C_NoTable)=some false
 kk_NoName_NoText:W.kitOne K (.ref C_NoName) (.ref C_NoText)=some false
 kk_NoName_NoThing:W.kitOne K (.ref C_NoName) (.ref C_NoThing)=some false
 kk_NoName_ValueError:W.kitOne K (.ref C_NoName) (.type "ValueError")=some true
 xc_NoRow:ExcC K C_NoRow
 hd_NoRow:W.hasDictIn K C_NoRow=true
 na_NoRow_row:AW K C_NoRow "row"
 xm_NoRow_FlipError:W.exmOne K (.ref C_NoRow) (.ref C_FlipError)=some true
 kk_NoRow_Alike:W.kitOne K (.ref C_NoRow) (.ref C_Alike)=some false
 kk_NoRow_NoEnd:W.kitOne K (.ref C_NoRow) (.ref C_NoEnd)=some false
 kk_NoRow_NoName:W.kitOne K (.ref C_NoRow) (.ref C_NoName)=some false
 kk_NoRow_NoRow:W.kitOne K (.ref C_NoRow) (.ref C_NoRow)=some true
 kk_NoRow_NoTable:W.kitOne K (.ref C_NoRow) (.ref C_NoTable)=some false
 kk_NoRow_NoText:W.kitOne K (.ref C_NoRow) (.ref C_NoText)=some false
 kk_NoRow_NoThing:W.kitOne K (.ref C_NoRow) (.ref C_NoThing)=some false
 kk_NoRow_ValueError:W.kitOne K (.ref C_NoRow) (.type "ValueError")=some true
 xi_NoTable:W.excIn K C_NoTable BW "ValueError.__new__" = true
 xc_NoTable:ExcC K C_NoTable
 xm_NoTable_FlipError:W.exmOne K (.ref C_NoTable) (.ref C_FlipError)=some true
 kk_NoTable_Alike:W.kitOne K (.ref C_NoTable) (.ref C_Alike)=some false
 kk_NoTable_NoEnd:W.kitOne K (.ref C_NoTable) (.ref C_NoEnd)=some false
 kk_NoTable_NoName:W.kitOne K (.ref C_NoTable) (.ref C_NoName)=some false
 kk_NoTable_NoRow:W.kitOne K (.ref C_NoTable) (.ref C_NoRow)=some false
 kk_NoTable_NoTable:W.kitOne K (.ref C_NoTable) (.ref C_NoTable)=some true
 kk_NoTable_NoText:W.kitOne K (.ref C_NoTable) (.ref C_NoText)=some false
 kk_NoTable_NoThing:W.kitOne K (.ref C_NoTable) (.ref C_NoThing)=some false
 kk_NoTable_ValueError:W.kitOne K (.ref C_NoTable) (.type "ValueError")=some true
 xc_NoText:ExcC K C_NoText
 hd_NoText:W.hasDictIn K C_NoText=true
 na_NoText_at:AW K C_NoText "at"
 xm_NoText_FlipError:W.exmOne K (.ref C_NoText) (.ref C_FlipError)=some true
 kk_NoText_Alike:W.kitOne K (.ref C_NoText) (.ref C_Alike)=some false
 kk_NoText_NoEnd:W.kitOne K (.ref C_NoText) (.ref C_NoEnd)=some false
 kk_NoText_NoName:W.kitOne K (.ref C_NoText) (.ref C_NoName)=some false
 kk_NoText_NoRow:W.kitOne K (.ref C_NoText) (.ref C_NoRow)=some false
 kk_NoText_NoTable:W.kitOne K (.ref C_NoText) (.ref C_NoTable)=some false
 kk_NoText_NoText:W.kitOne K (.ref C_NoText) (.ref C_NoText)=some true
 kk_NoText_NoThing:W.kitOne K (.ref C_NoText) (.ref C_NoThing)=some false
 kk_NoText_ValueError:W.kitOne K (.ref C_NoText) (.type "ValueError")=some true
 xc_NoThing:ExcC K C_NoThing
 hd_NoThing:W.hasDictIn K C_NoThing=true
 na_NoThing_question:AW K C_NoThing "question"
 xm_NoThing_FlipError:W.exmOne K (.ref C_NoThing) (.ref C_FlipError)=some true
 kk_NoThing_Alike:W.kitOne K (.ref C_NoThing) (.ref C_Alike)=some false
 kk_NoThing_NoEnd:W.kitOne K (.ref C_NoThing) (.ref C_NoEnd)=some false
 kk_NoThing_NoName:W.kitOne K (.ref C_NoThing) (.ref C_NoName)=some false
 kk_NoThing_NoRow:W.kitOne K (.ref C_NoThing) (.ref C_NoRow)=some false
 kk_NoThing_NoTable:W.kitOne K (.ref C_NoThing) (.ref C_NoTable)=some false
 kk_NoThing_NoText:W.kitOne K (.ref C_NoThing) (.ref C_NoText)=some false
 kk_NoThing_NoThing:W.kitOne K (.ref C_NoThing) (.ref C_NoThing)=some true
 kk_NoThing_ValueError:W.kitOne K (.ref C_NoThing) (.type "ValueError")=some true
 f_z9:Addr
 d_z9:FuncData
 F_z9:Fun K "__init__" "NoText.__init__" A7 f_z9 d_z9
 b_z9:Binds K d_z9 ["self","at"] []
 me_z9:Meth K C_NoText "__init__" f_z9
 xI_NoText:ExcI K C_NoText f_z9
 f_z12:Addr
 d_z12:FuncData
 F_z12:Fun K "__init__" "Alike.__init__" A6 f_z12 d_z12
 b_z12:Binds K d_z12 ["self","one","other"] []
 me_z12:Meth K C_Alike "__init__" f_z12
 xI_Alike:ExcI K C_Alike f_z12
 f_z11:Addr
 d_z11:FuncData
 F_z11:Fun K "__init__" "NoEnd.__init__" A4 f_z11 d_z11
 b_z11:Binds K d_z11 ["self","one","other"] []
 me_z11:Meth K C_NoEnd "__init__" f_z11
 xI_NoEnd:ExcI K C_NoEnd f_z11
 f_z0:Addr
 d_z0:FuncData
 F_z0:Fun K "__init__" "NoThing.__init__" A5 f_z0 d_z0
 b_z0:Binds K d_z0 ["self","question"] []
 me_z0:Meth K C_NoThing "__init__" f_z0
 xI_NoThing:ExcI K C_NoThing f_z0
 f_z10:Addr
 d_z10:FuncData
 F_z10:Fun K "__init__" "NoRow.__init__" BF f_z10 d_z10
 b_z10:Binds K d_z10 ["self","row"] []
 me_z10:Meth K C_NoRow "__init__" f_z10
 xI_NoRow:ExcI K C_NoRow f_z10
 f_z8:Addr
 d_z8:FuncData
 F_z8:Fun K "__init__" "NoName.__init__" BG f_z8 d_z8
 b_z8:Binds K d_z8 ["self","name"] []
 me_z8:Meth K C_NoName "__init__" f_z8
 xI_NoName:ExcI K C_NoName f_z8
 f_z16:Addr
 d_z16:FuncData
 F_z16:Fun K "_law_tape" "_law_tape" BI f_z16 d_z16
 b_z16:Binds K d_z16 ["_law_script"] []
 m_z16:mg "_law_tape" = some (.ref f_z16)
 f_z17:Addr
 d_z17:FuncData
 F_z17:Fun K "_law_next" "_law_next" BO f_z17 d_z17
 b_z17:Binds K d_z17 ["_law_tape_here","_law_many"] []
 m_z17:mg "_law_next" = some (.ref f_z17)
 f_z14:Addr
 d_z14:FuncData
 F_z14:Fun K "_law_raised" "_law_raised" BN f_z14 d_z14
 b_z14:Binds K d_z14 ["_law_k","_law_one","_law_other","_law_word"] []
 m_z14:mg "_law_raised" = some (.ref f_z14)
 f_z13:Addr
 d_z13:FuncData
 F_z13:Fun K "_law_fields" "_law_fields" A9 f_z13 d_z13
 b_z13:Binds K d_z13 ["_law_k","_law_caught"] []
 m_z13:mg "_law_fields" = some (.ref f_z13)
 f_z15:Addr
 d_z15:FuncData
 F_z15:Fun K "_law_sorts" "_law_sorts" BK f_z15 d_z15
 b_z15:Binds K d_z15 ["_law_e"] []
 m_z15:mg "_law_sorts" = some (.ref f_z15)
 f_law:Addr
 d_law:FuncData
 F_law:Fun K "law" "law" Ai f_law d_law
 b_law:Binds K d_law ["_law_script"] []
 m_law:mg "law" = some (.ref f_law)
 z_ValueError:mg "ValueError" = none
 z_isinstance:mg "isinstance" = none
 z_len:mg "len" = none
 z_max:mg "max" = none
 z_range:mg "range" = none
section
variable {P:Program} {w:World} {K:W.Frag} {mg:Str->Option Value} {base:Heap} (T:Txt K mg)
theorem HA:FnOk P w K mg base CX0 1 T.f_z16 T.d_z16 ["_law_script"] (CP K):=by
 refine T.F_z16.ok Fv (fun vs H Q E h=>by unfold CP at h;split at h <;> first | rfl | exact h.elim) (fun cdv A outer s H vs Q E hr h=>?_)
 unfold CP at h
 split at h
 rotate_left
 ·exact h.elim
 rename_i a
 have k:=h
 refine ⟨_,(@AI _ _ _ (@AS _ _ _ _ (@BS _ _ _ _ (AA (vv 0) (AA AD (AA AD (AA AD AE))))))),?_⟩
 exact ⟨by show 4<=sizeLine;rw [sizeLine_eq];decide,k⟩
theorem Fx:FnOk P w K mg base CX0 1 T.f_z17 T.d_z17 ["_law_tape_here","_law_many"] (CV K):=by
 refine T.F_z17.ok sc_z17 (fun vs H Q E h=>by unfold CV at h;split at h <;> first | rfl | exact h.elim) (fun cdv A outer s H vs Q E hr h=>?_)
 have hu:=BY hr
 unfold CV at h
 split at h
 rotate_left
 ·exact h.elim
 rename_i t m
 obtain ⟨a,ns,TP,hm,k⟩:=h
 obtain ⟨⟨i,r,c,hi,hr0,ht⟩,hscr⟩:=id TP
 refine ⟨_,(@AG _ _ _ _ _ (@AU _ _ 2 _ _ _ _ sc_z17.nd rfl (by (first | exact Or.inl rfl | exact Or.inr rfl)) (kIx (K:=K) (vv 0) AD) (by rfl) (by (first | exact .inl rfl | exact .inr rfl | assumption))) (@AG _ _ _ _ _ (@Bg _ _ _ _ _ _ (AK (A1 (K:=K)) (kIx (K:=K) (vv 0) AD) AD) (Bz (vv 0) AD Bk) (by rfl) (by rfl) (by rfl)) (@AG _ _ _ _ _ (@Aq _ _ _ _ _ _ _ _ (PW.pt (GG (AO (kEq (K:=K) hu) (kIx (K:=K) (vv 0) AD) AD) (E1 (AO ED (kIx (K:=K) (vv 0) AD) (Aa (CW (K:=K)) rfl T.z_len (by rfl) (AA (vv 2) AE)))))) (@AG _ _ _ _ _ (@Bg _ _ _ _ _ _ (Aa (Ed rfl) rfl T.z_max (by rfl) (AA AD (AA (AK DX (kIx (K:=K) (vv 2) (kIx (K:=K) (vv 0) AD)) (AK G6 AD AD)) AE))) (Bz (vv 0) AD Bk) (by rfl) (by rfl) (by rfl)) (@AI _ _ _ (@Bg _ _ _ _ _ _ (AK (A1 (K:=K)) (kIx (K:=K) (vv 0) AD) AD) (Bz (vv 0) AD Bk) (by rfl) (by rfl) (by rfl)))) As) (@AG _ _ _ _ _ (@Aq _ _ _ _ _ _ _ _ (AO Df (kIx (K:=K) (vv 0) AD) AD) (@AG _ _ _ _ _ (@AU _ _ 3 _ _ _ _ sc_z17.nd rfl (by (first | exact Or.inl rfl | exact Or.inr rfl)) (AK A0 (kIx (K:=K) (vv 0) AD) (vv 1)) (by rfl) (by (first | exact .inl rfl | exact .inr rfl | assumption))) (@AG _ _ _ _ _ (@Bg _ _ _ _ _ _ (AK DX (kIx (K:=K) (vv 0) AD) (vv 1)) (Bz (vv 0) AD Bk) (by rfl) (by rfl) (by rfl)) (@AI _ _ _ (@AS _ _ _ _ (vv 3))))) As) (@AG _ _ _ _ _ (@AU _ _ 4 _ _ _ _ sc_z17.nd rfl (by (first | exact Or.inl rfl | exact Or.inr rfl)) (D2 (AO Df (Aa (CW (K:=K)) rfl T.z_len (by rfl) (AA (vv 2) AE)) AD) (kIx (K:=K) (vv 2) (AK A0 (kIx (K:=K) (vv 0) AD) (Aa (CW (K:=K)) rfl T.z_len (by rfl) (AA (vv 2) AE)))) AD) (by rfl) (by (first | exact .inl rfl | exact .inr rfl | assumption))) (@AG _ _ _ _ _ (@AU _ _ 5 _ _ _ _ sc_z17.nd rfl (by (first | exact Or.inl rfl | exact Or.inr rfl)) (AK A0 (AK Bm (AK (A1 (K:=K)) (AK (A1 (K:=K)) (AK A0 (vv 4) AD) (AK Bm AD (kIx (K:=K) (vv 0) AD))) AD) AD) AD) (by rfl) (by (first | exact .inl rfl | exact .inr rfl | assumption))) (@AI _ _ _ (@AS _ _ _ _ (AK A0 (AK A0 (AK Bm (AK A0 (AK (A1 (K:=K)) (AK Bm (vv 5) AD) (kIx (K:=K) (vv 0) AD)) AD) AD) AD) (vv 1)))))))))),?_⟩
 -- script=tape[0];tape[3]=tape[3]+1
 refine ⟨_,_,.inl (.of ht),rfl,_,_,.inl (.of ht),rfl,_,_,ht,rfl,?_⟩
 have sc0:∀ {H1:Hp},(∀ b,b≠t->H1 b=H b)->ScrAt K H1 t a ns:=fun h=>hscr.stay fun o n e=>by rw [h a n];exact e
 have sc1:∀ {H1:Hp},(∀ b,b≠t->H1 b=H b)->SqL K H1 a (ns.map V.int):=fun h=>(sc0 h).sq
 have f1:∀ {o:HO} {H1:Hp},(∀ b,b≠t->H1 b=H b)->∀ b,b≠t->upd H1 t o b=H b:=fun h b n=>by rw [AB n];exact h b n
 dsimp only
 refine Ba (fun σ' H1=>σ'=[some (.ref t),some (.int m),some (.ref a),none,none,none]/\(∀ b,b≠t->H1 b=H b)/\∃ i r c:Int,0<=i/\0<=r/\H1 t=some (.lst [.ref a,.int i,.int r,.int c])) ?_ ?_ (by (repeat' with_reducible first | exact Gk | apply G3 | apply EY | apply HR | apply FE | apply HG | exact FA | exact EL | apply FP | apply HU | apply Gh | apply Eg | apply Ef | apply Ga | apply E8 | exact HK | exact Gv | exact HJ | exact Fq | exact Eh | exact Fg | exact FW | apply Gj | apply GF | apply Gb | apply HW | exact FU | apply FZ | exact Fu | exact Ea | exact E4 | apply GS | apply GY | exact Fo | exact FV | assumption))
 ·-- the next number of the script,where the last one is used up
  have h1:∀ {o:HO} (b:Addr),b≠t->upd H t o b=H b:=fun b n=>AB n
  refine ⟨_,_,.inl (.of AC),rfl,?_⟩
  refine B1 (fun e=>?_) (fun e=>?_)
  ·refine ⟨_,_,.inl (.of AC),rfl,ns.length,.inl ⟨_,sc1 h1,by rw [List.length_map]⟩,?_⟩
   refine B1 (fun e=>?_) (fun e=>?_)
   ·have hlt:i < ns.length:=of_decide_eq_true e
    obtain ⟨z,hz⟩:=Dh hi hlt
    refine ⟨_,_,.inl (.of AC),rfl,_,_,.inl (sc1 h1),hz,⟨by decide,by decide,by decide⟩,⟨by decide,by decide⟩,?_⟩
    refine ⟨_,_,AC,rfl,_,_,.inl (.of AC),rfl,_,_,AC,rfl,rfl,?_,i+1,max 0 (z / 10 ^ 18),c+1,by lia,by lia,AC⟩
    exact f1 (f1 h1)
   ·exact ⟨rfl,h1,i,r,c+1,hi,hr0,AC⟩
  ·exact ⟨rfl,h1,i,r,c+1,hi,hr0,AC⟩
 rintro σ' H1 ⟨rfl,h1,i,r,c,hi,hr0,ht⟩
 have T1:∀ {H2:Hp} {i r c:Int},(∀ b,b≠t->H2 b=H b)->0<=i->0<=r->H2 t=some (.lst [.ref a,.int i,.int r,.int c])->Tape K H2 t a ns:=fun h h1 h2 h3=>⟨⟨_,_,_,h1,h2,h3⟩,sc0 h⟩
 -- a digit of it
 refine ⟨_,_,.inl (.of ht),rfl,?_⟩
 have hm0:0 < m:=hm.1
 refine B1 (fun e=>?_) (fun e=>?_)
 ·refine ⟨_,_,.inl (.of ht),rfl,hm0,_,_,.inl (.of ht),rfl,hm,_,_,ht,rfl,?_⟩
  exact k _ _ (Int.emod_nonneg _ (by lia)) (Int.emod_lt_of_pos _ hm0) (T1 (f1 h1) hi (Int.ediv_nonneg hr0 (by lia)) AC) (f1 h1)
 -- else a number made of the cell
 dsimp only [Cb]
 refine Ba (fun σ' H2=>H2=H1/\∃ z:Int,σ'=[some (.ref t),some (.int m),some (.ref a),none,some (.int z),none]) ?_ ?_ (by (repeat' with_reducible first | exact Gk | apply G3 | apply EY | apply HR | apply FE | apply HG | exact FA | exact EL | apply FP | apply HU | apply Gh | apply Eg | apply Ef | apply Ga | apply E8 | exact HK | exact Gv | exact HJ | exact Fq | exact Eh | exact Fg | exact FW | apply Gj | apply GF | apply Gb | apply HW | exact FU | apply FZ | exact Fu | exact Ea | exact E4 | apply GS | apply GY | exact Fo | exact FV | assumption))
 ·refine ⟨ns.length,.inl ⟨_,sc1 h1,by rw [List.length_map]⟩,?_⟩
  refine B1 (fun e=>?_) (fun e=>?_)
  ·have hlt:(0:Int) < ns.length:=of_decide_eq_true e
   obtain ⟨z,hz⟩:=Dh (ns:=ns) (Int.emod_nonneg c (show (ns.length:Int)≠0 by lia)) (Int.emod_lt_of_pos c hlt)
   exact ⟨_,_,.inl (.of ht),rfl,ns.length,.inl ⟨_,sc1 h1,by rw [List.length_map]⟩,hlt,_,_,.inl (sc1 h1),hz,rfl,z,rfl⟩
  ·exact ⟨rfl,0,rfl⟩
 rintro σ' H2 ⟨rfl,z,rfl⟩
 refine ⟨by decide,_,_,.inl (.of ht),rfl,.inr (.inl ⟨by decide,by decide⟩),.inr (.inr ⟨by decide,by decide⟩),by decide,?_⟩
 refine ⟨.inr (.inr ⟨by decide,by decide⟩),_,_,.inl (.of ht),rfl,by decide,.inr (.inr ⟨by decide,by decide⟩),by decide,hm0,?_⟩
 exact k _ _ (Int.emod_nonneg _ (by lia)) (Int.emod_lt_of_pos _ hm0) (T1 h1 hi hr0 ht) h1
theorem FC:FnOk P w K mg base CX0 1 T.f_z9 T.d_z9 ["self","at"] (AX T.C_NoText "at"):=by
 refine T.F_z9.ok EV (fun vs H Q E h=>by unfold AX at h;split at h <;> first | rfl | exact h.elim) (fun cdv A outer s H vs Q E hr h=>?_)
 unfold AX at h
 split at h
 rotate_left
 ·exact h.elim
 rename_i x y
 obtain ⟨g,q⟩:=h
 refine ⟨_,(@AI _ _ _ (Ar T.xI_NoText T.na_NoText_at (vv 0) (vv 1))),?_⟩
 exact .inl ⟨g,fun d hd=>q d hd⟩
theorem Fw:FnOk P w K mg base CX0 1 T.f_z0 T.d_z0 ["self","question"] (AX T.C_NoThing "question"):=by
 refine T.F_z0.ok EZ (fun vs H Q E h=>by unfold AX at h;split at h <;> first | rfl | exact h.elim) (fun cdv A outer s H vs Q E hr h=>?_)
 unfold AX at h
 split at h
 rotate_left
 ·exact h.elim
 rename_i x y
 obtain ⟨g,q⟩:=h
 refine ⟨_,(@AI _ _ _ (Ar T.xI_NoThing T.na_NoThing_question (vv 0) (vv 1))),?_⟩
 exact .inl ⟨g,fun d hd=>q d hd⟩
theorem GK:FnOk P w K mg base CX0 1 T.f_z10 T.d_z10 ["self","row"] (AX T.C_NoRow "row"):=by
 refine T.F_z10.ok HD (fun vs H Q E h=>by unfold AX at h;split at h <;> first | rfl | exact h.elim) (fun cdv A outer s H vs Q E hr h=>?_)
 unfold AX at h
 split at h
 rotate_left
 ·exact h.elim
 rename_i x y
 obtain ⟨g,q⟩:=h
 refine ⟨_,(@AI _ _ _ (Ar T.xI_NoRow T.na_NoRow_row (vv 0) (vv 1))),?_⟩
 exact .inl ⟨g,fun d hd=>q d hd⟩
theorem Gs:FnOk P w K mg base CX0 1 T.f_z8 T.d_z8 ["self","name"] (AX T.C_NoName "name"):=by
 refine T.F_z8.ok GP (fun vs H Q E h=>by unfold AX at h;split at h <;> first | rfl | exact h.elim) (fun cdv A outer s H vs Q E hr h=>?_)
 unfold AX at h
 split at h
 rotate_left
 ·exact h.elim
 rename_i x y
 obtain ⟨g,q⟩:=h
 refine ⟨_,(@AI _ _ _ (Ar T.xI_NoName T.na_NoName_name (vv 0) (vv 1))),?_⟩
 exact .inl ⟨g,fun d hd=>q d hd⟩
theorem HY:FnOk P w K mg base CX0 1 T.f_z12 T.d_z12 ["self","one","other"] (BJ T.C_Alike "one" "other"):=by
 refine T.F_z12.ok FT (fun vs H Q E h=>by unfold BJ at h;split at h <;> first | rfl | exact h.elim) (fun cdv A outer s H vs Q E hr h=>?_)
 unfold BJ at h
 split at h
 rotate_left
 ·exact h.elim
 rename_i x y z
 obtain ⟨g,q⟩:=h
 refine ⟨_,(@AG _ _ _ _ _ (Ar T.xI_Alike T.na_Alike_one (vv 0) (vv 1)) (@AI _ _ _ (Ar T.xI_Alike T.na_Alike_other (vv 0) (vv 2)))),?_⟩
 refine .inl ⟨g,fun d hd=>.inr ⟨d,_,?_,AC,fun e=>?_,(show 1<=1000 by decide),q d hd⟩⟩
 ·rw [AB (fun e=>by rw [<- e,g] at hd;cases hd),AC]
 ·rw [e,g] at hd;cases hd
theorem EM:FnOk P w K mg base CX0 1 T.f_z11 T.d_z11 ["self","one","other"] (BJ T.C_NoEnd "one" "other"):=by
 refine T.F_z11.ok Eb (fun vs H Q E h=>by unfold BJ at h;split at h <;> first | rfl | exact h.elim) (fun cdv A outer s H vs Q E hr h=>?_)
 unfold BJ at h
 split at h
 rotate_left
 ·exact h.elim
 rename_i x y z
 obtain ⟨g,q⟩:=h
 refine ⟨_,(@AG _ _ _ _ _ (Ar T.xI_NoEnd T.na_NoEnd_one (vv 0) (vv 1)) (@AI _ _ _ (Ar T.xI_NoEnd T.na_NoEnd_other (vv 0) (vv 2)))),?_⟩
 refine .inl ⟨g,fun d hd=>.inr ⟨d,_,?_,AC,fun e=>?_,(show 1<=1000 by decide),q d hd⟩⟩
 ·rw [AB (fun e=>by rw [<- e,g] at hd;cases hd),AC]
 ·rw [e,g] at hd;cases hd
noncomputable def Ap:Nat->Addr
 | 0=>T.C_NoText
 | 1=>T.C_Alike
 | 2=>T.C_NoEnd
 | 3=>T.C_NoThing
 | 4=>T.C_NoRow
 | 5=>T.C_NoName
 | _=>T.C_NoTable
noncomputable def CO (a b c:V):Nat->List (Str × V)
 | 0=>[("at",a)]
 | 1=>Ah "other" b [("one",a)]
 | 2=>Ah "other" b [("one",a)]
 | 3=>[("question",a)]
 | 4=>[("row",c)]
 | 5=>[("name",c)]
 | _=>[]
noncomputable def Cgt (k:Nat) (a b c:V) (H:Hp) (x:Addr):Prop:=∃ od,ExcAt H x (Ap T k) od/\(6<=k\/∃ d,od=some d/\H d=some (XdO d (CO a b c k)))
theorem Cgt.same {k:Nat} {a b c:V} {H H':Hp} {x:Addr} (h:Cgt T k a b c H x) (s:Same H H'):Cgt T k a b c H' x:=by
 obtain ⟨od,⟨h1,h2⟩,h3⟩:=h
 refine ⟨od,⟨s _ _ h1,fun d e=>let ⟨o,q⟩:=h2 d e;⟨o,s _ _ q⟩⟩,?_⟩
 rcases h3 with h3 | ⟨d,e,h3⟩
 ·exact .inl h3
 ·exact .inr ⟨d,e,s _ _ h3⟩
theorem Go {k:Nat} {a b c:V} {H H1:Hp} {x d:Addr} (hx:H x=none) (hd:H d=none) (ne:d≠x) (h1:∀ b,b≠x->b≠d->H1 b=H b) (h2:H1 d=some (XdO d (CO a b c k))):Same H (upd H1 x (Af x (.ref (Ap T k)) (some d)))/\Cgt T k a b c (upd H1 x (Af x (.ref (Ap T k)) (some d))) x:=by
 refine ⟨fun b u q=>?_,some d,⟨AC,fun d' e'=>?_⟩,.inr ⟨d,rfl,?_⟩⟩
 ·have n1:b≠x:=fun z=>by rw [z,hx] at q;cases q
  have n2:b≠d:=fun z=>by rw [z,hd] at q;cases q
  rw [AB n1,h1 b n1 n2];exact q
 ·cases e'
  exact ⟨_,by rw [AB ne];exact h2⟩
 ·rw [AB ne];exact h2
theorem BL {k:Nat} {a b c:V} {H H1:Hp} {x d:Addr} {Q:V->Hp->Prop} (q:∀ x H',Same H H'->Cgt T k a b c H' x->Q (.ref x) H') (hx:H x=none) (hd:H d=none) (ne:d≠x) (h1:∀ b,b≠x->b≠d->H1 b=H b) (h2:H1 d=some (XdO d (CO a b c k))):Q (.ref x) (upd H1 x (Af x (.ref (Ap T k)) (some d))) :=
 let ⟨g1,g2⟩:=Go T hx hd ne h1 h2
 q _ _ g1 g2
noncomputable def A3:Sp:=fun vs H Q _=>match vs with
 | [.int k,a,b,c]=>∃ n:Nat,k=n/\n < 7/\∀ x H',Same H H'->Cgt T n a b c H' x->Q (.ref x) H'
 | _=>False
theorem GX:At (A3 T):=fun vs H Q Q' E h q=>by
 unfold A3 at *
 split at q
 ·revert q;repeat' first | exact h _ _ | exact Cs h | exact out_mono h | exact outT_mono h | (with_reducible first | refine Exists.imp fun _=>?_ | refine And.imp_right ?_ | refine forall_imp fun _=>?_)
 ·exact q.elim
theorem FO:FnOk P w K mg base CX0 3 T.f_z14 T.d_z14 ["_law_k","_law_one","_law_other","_law_word"] (A3 T):=by
 have G_z9:=FC (P:=P) (w:=w) (base:=base) T;have G_z12:=HY (P:=P) (w:=w) (base:=base) T;have G_z11:=EM (P:=P) (w:=w) (base:=base) T;have G_z0:=Fw (P:=P) (w:=w) (base:=base) T;have G_z10:=GK (P:=P) (w:=w) (base:=base) T;have G_z8:=Gs (P:=P) (w:=w) (base:=base) T
 refine T.F_z14.ok sc_z14 (fun vs H Q E h=>by unfold A3 at h;split at h <;> first | rfl | exact h.elim) (fun cdv A outer s H vs Q E hr h=>?_)
 have hu:=BY hr
 have hr_z9:=hr.mono (show 1<=_ by decide);have hr1_z9:=hr.mono (show 1+1<=_ by decide);have hr_z12:=hr.mono (show 1<=_ by decide);have hr1_z12:=hr.mono (show 1+1<=_ by decide);have hr_z11:=hr.mono (show 1<=_ by decide);have hr1_z11:=hr.mono (show 1+1<=_ by decide);have hr_z0:=hr.mono (show 1<=_ by decide);have hr1_z0:=hr.mono (show 1+1<=_ by decide);have hr_z10:=hr.mono (show 1<=_ by decide);have hr1_z10:=hr.mono (show 1+1<=_ by decide);have hr_z8:=hr.mono (show 1<=_ by decide);have hr1_z8:=hr.mono (show 1+1<=_ by decide)
 unfold A3 at h
 split at h
 rotate_left
 ·exact h.elim
 rename_i k a b c
 obtain ⟨n,e,hn,q⟩:=h
 subst e
 refine ⟨_,(@AG _ _ _ _ _ (@AU _ _ 4 _ _ _ _ sc_z14.nd rfl (by (first | exact Or.inl rfl | exact Or.inr rfl)) Fk (by rfl) (by (first | exact .inl rfl | exact .inr rfl | assumption))) (@AG _ _ _ _ _ (HX (K:=K) (j:=5) sc_z14.nd rfl rfl rfl rfl rfl T.mC_FlipError (BP (AO (kEq (K:=K) hu) (vv 0) AD) (A2 T.xI_NoText G_z9 hr1_z9 T.b_z9 rfl rfl T.mC_NoText (AA (vv 1) AE)) (BP (AO (kEq (K:=K) hu) (vv 0) AD) (A2 T.xI_Alike G_z12 hr1_z12 T.b_z12 rfl rfl T.mC_Alike (AA (vv 1) (AA (vv 2) AE))) (BP (AO (kEq (K:=K) hu) (vv 0) AD) (A2 T.xI_NoEnd G_z11 hr1_z11 T.b_z11 rfl rfl T.mC_NoEnd (AA (vv 1) (AA (vv 2) AE))) (BP (AO (kEq (K:=K) hu) (vv 0) AD) (A2 T.xI_NoThing G_z0 hr1_z0 T.b_z0 rfl rfl T.mC_NoThing (AA (vv 1) AE)) (BP (AO (kEq (K:=K) hu) (vv 0) AD) (A2 T.xI_NoRow G_z10 hr1_z10 T.b_z10 rfl rfl T.mC_NoRow (AA (vv 3) AE)) (BP (AO (kEq (K:=K) hu) (vv 0) AD) (A2 T.xI_NoName G_z8 hr1_z8 T.b_z8 rfl rfl T.mC_NoName (AA (vv 3) AE)) (FN T.xi_NoTable rfl rfl T.mC_NoTable (AA (vv 3) AE)))))))) (fun _=>(@AI _ _ _ (@AU _ _ 4 _ _ _ _ sc_z14.nd rfl (by (first | exact Or.inl rfl | exact Or.inr rfl)) (vv 5) (by rfl) (by (first | exact .inl rfl | exact .inr rfl | assumption)))))) (@AI _ _ _ (@AS _ _ _ _ (vv 4))))),?_⟩
 have ned:∀ {x d:Addr} {o:HO},upd H x o d=none->d≠x/\H d=none:=fun {x d o} hd=>by
  have n:d≠x:=fun z=>by rw [z,AC] at hd;cases hd
  rw [AB n] at hd
  exact ⟨n,hd⟩
 have:n=0\/n=1\/n=2\/n=3\/n=4\/n=5\/n=6:=by lia
 rcases this with e | e | e | e | e | e | e <;> subst e
 ·refine ⟨(show 1<=1000 by decide),fun x hx=>⟨AC,fun d hd=>⟨rfl,some d,?_,T.xm_NoText_FlipError,?_⟩⟩⟩
  ·rw [AB (Ne.symm (ned hd).1),AC]
  ·refine BL T (k:=0) q hx (ned hd).2 (ned hd).1 (fun b n1 n2=>?_) AC
   rw [AB n2,AB n1,AB n1]
 ·refine ⟨(show 2<=1000 by decide),fun x hx=>⟨AC,fun d hd=>⟨rfl,some d,?_,T.xm_Alike_FlipError,?_⟩⟩⟩
  ·rw [AB (Ne.symm (ned hd).1),AB (Ne.symm (ned hd).1),AC]
  ·refine BL T (k:=1) q hx (ned hd).2 (ned hd).1 (fun b n1 n2=>?_) AC
   rw [AB n2,AB n2,AB n1,AB n1]
 ·refine ⟨(show 2<=1000 by decide),fun x hx=>⟨AC,fun d hd=>⟨rfl,some d,?_,T.xm_NoEnd_FlipError,?_⟩⟩⟩
  ·rw [AB (Ne.symm (ned hd).1),AB (Ne.symm (ned hd).1),AC]
  ·refine BL T (k:=2) q hx (ned hd).2 (ned hd).1 (fun b n1 n2=>?_) AC
   rw [AB n2,AB n2,AB n1,AB n1]
 ·refine ⟨(show 1<=1000 by decide),fun x hx=>⟨AC,fun d hd=>⟨rfl,some d,?_,T.xm_NoThing_FlipError,?_⟩⟩⟩
  ·rw [AB (Ne.symm (ned hd).1),AC]
  ·refine BL T (k:=3) q hx (ned hd).2 (ned hd).1 (fun b n1 n2=>?_) AC
   rw [AB n2,AB n1,AB n1]
 ·refine ⟨(show 1<=1000 by decide),fun x hx=>⟨AC,fun d hd=>⟨rfl,some d,?_,T.xm_NoRow_FlipError,?_⟩⟩⟩
  ·rw [AB (Ne.symm (ned hd).1),AC]
  ·refine BL T (k:=4) q hx (ned hd).2 (ned hd).1 (fun b n1 n2=>?_) AC
   rw [AB n2,AB n1,AB n1]
 ·refine ⟨(show 1<=1000 by decide),fun x hx=>⟨AC,fun d hd=>⟨rfl,some d,?_,T.xm_NoName_FlipError,?_⟩⟩⟩
  ·rw [AB (Ne.symm (ned hd).1),AC]
  ·refine BL T (k:=5) q hx (ned hd).2 (ned hd).1 (fun b n1 n2=>?_) AC
   rw [AB n2,AB n1,AB n1]
 ·refine ⟨(show 1<=1000 by decide),fun x hx=>⟨T.xm_NoTable_FlipError,?_⟩⟩
  refine q _ _ (fun b u e=>?_) ⟨none,⟨AC,fun d e=>nomatch e⟩,.inl (by decide)⟩
  have n1:b≠x:=fun z=>by rw [z,hx] at e;cases e
  rw [AB n1,AB n1];exact e
noncomputable def BZ (a b c:V):Nat->List V
 | 0=>[a]
 | 1=>[a,b]
 | 2=>[a,b]
 | 3=>[a]
 | 4=>[c]
 | 5=>[c]
 | _=>[]
noncomputable def BQ:Sp:=fun vs H Q _=>match vs with
 | [.int k,.ref x]=>∃ (n:Nat) (a b c:V),k=n/\n < 7/\Cgt T n a b c H x/\∀ p,H p=none->Q (.ref p) (upd H p (.tup (BZ a b c n)))
 | _=>False
theorem Gr:At (BQ T):=fun vs H Q Q' E h q=>by
 unfold BQ at *
 split at q
 ·revert q;repeat' first | exact h _ _ | exact Cs h | exact out_mono h | exact outT_mono h | (with_reducible first | refine Exists.imp fun _=>?_ | refine And.imp_right ?_ | refine forall_imp fun _=>?_)
 ·exact q.elim
theorem Er:FnOk P w K mg base CX0 1 T.f_z13 T.d_z13 ["_law_k","_law_caught"] (BQ T):=by
 refine T.F_z13.ok GN (fun vs H Q E h=>by unfold BQ at h;split at h <;> first | rfl | exact h.elim) (fun cdv A outer s H vs Q E hr h=>?_)
 have hu:=BY hr
 unfold BQ at h
 split at h
 rotate_left
 ·exact h.elim
 rename_i k x
 obtain ⟨n,a,b,c,e,hn,⟨od,hx,hf⟩,q⟩:=h
 subst e
 refine ⟨_,(@AG _ _ _ _ _ (@Aq _ _ _ _ _ _ _ _ (AO (kEq (K:=K) hu) (vv 0) AD) (@AI _ _ _ (@AS _ _ _ _ (AT (AA (BD (K:=K) (vv 1)) AE)))) As) (@AG _ _ _ _ _ (@Aq _ _ _ _ _ _ _ _ (AO ED (vv 0) AD) (@AI _ _ _ (@AS _ _ _ _ (AT (AA (BD (K:=K) (vv 1)) (AA (BD (K:=K) (vv 1)) AE))))) As) (@AG _ _ _ _ _ (@Aq _ _ _ _ _ _ _ _ (AO (kEq (K:=K) hu) (vv 0) AD) (@AI _ _ _ (@AS _ _ _ _ (AT (AA (BD (K:=K) (vv 1)) AE)))) As) (@AG _ _ _ _ _ (@Aq _ _ _ _ _ _ _ _ (AO (kEq (K:=K) hu) (vv 0) AD) (@AI _ _ _ (@AS _ _ _ _ (AT (AA (BD (K:=K) (vv 1)) AE)))) As) (@AI _ _ _ (@AS _ _ _ _ (D2 (AO (kEq (K:=K) hu) (vv 0) AD) (AT (AA (BD (K:=K) (vv 1)) AE)) (AT AE)))))))),?_⟩
 have:n=0\/n=1\/n=2\/n=3\/n=4\/n=5\/n=6:=by lia
 rcases this with e | e | e | e | e | e | e <;> subst e
 ·rcases hf with z | ⟨d,rfl,hd⟩
  ·exact absurd z (by decide)
  exact ⟨_,d,_,_,hx,hd,T.xc_NoText,T.na_NoText_at,T.hd_NoText,rfl,AJ (show 1<=1000 by decide),fun p hp=>q p hp⟩
 ·rcases hf with z | ⟨d,rfl,hd⟩
  ·exact absurd z (by decide)
  exact ⟨_,d,_,_,hx,hd,T.xc_Alike,T.na_Alike_one,T.hd_Alike,rfl,_,d,_,_,hx,hd,T.xc_Alike,T.na_Alike_other,T.hd_Alike,rfl,AJ (show 2<=1000 by decide),fun p hp=>q p hp⟩
 ·rcases hf with z | ⟨d,rfl,hd⟩
  ·exact absurd z (by decide)
  exact ⟨_,d,_,_,hx,hd,T.xc_NoEnd,T.na_NoEnd_one,T.hd_NoEnd,rfl,_,d,_,_,hx,hd,T.xc_NoEnd,T.na_NoEnd_other,T.hd_NoEnd,rfl,AJ (show 2<=1000 by decide),fun p hp=>q p hp⟩
 ·rcases hf with z | ⟨d,rfl,hd⟩
  ·exact absurd z (by decide)
  exact ⟨_,d,_,_,hx,hd,T.xc_NoThing,T.na_NoThing_question,T.hd_NoThing,rfl,AJ (show 1<=1000 by decide),fun p hp=>q p hp⟩
 ·rcases hf with z | ⟨d,rfl,hd⟩
  ·exact absurd z (by decide)
  exact ⟨_,d,_,_,hx,hd,T.xc_NoRow,T.na_NoRow_row,T.hd_NoRow,rfl,AJ (show 1<=1000 by decide),fun p hp=>q p hp⟩
 ·rcases hf with z | ⟨d,rfl,hd⟩
  ·exact absurd z (by decide)
  exact ⟨_,d,_,_,hx,hd,T.xc_NoName,T.na_NoName_name,T.hd_NoName,rfl,AJ (show 1<=1000 by decide),fun p hp=>q p hp⟩
 ·exact ⟨AJ (show 0<=1000 by decide),fun p hp=>q p hp⟩
theorem xcK {n:Nat} (h:n < 7):ExcC K (Ap T n):=by
 have:n=0\/n=1\/n=2\/n=3\/n=4\/n=5\/n=6:=by lia
 rcases this with e | e | e | e | e | e | e <;> subst e
 ·exact T.xc_NoText
 ·exact T.xc_Alike
 ·exact T.xc_NoEnd
 ·exact T.xc_NoThing
 ·exact T.xc_NoRow
 ·exact T.xc_NoName
 ·exact T.xc_NoTable
theorem Ei {n:Nat} (h:n < 7):∀ j:Nat,j < 7->W.kitOne K (.ref (Ap T n)) (.ref (Ap T j))=some (decide (j=n)):=by
 intro j hj
 have e1:n=0\/n=1\/n=2\/n=3\/n=4\/n=5\/n=6:=by lia
 have e2:j=0\/j=1\/j=2\/j=3\/j=4\/j=5\/j=6:=by lia
 rcases e1 with e | e | e | e | e | e | e <;> subst e <;> rcases e2 with e | e | e | e | e | e | e <;> subst e
 ·exact T.kk_NoText_NoText
 ·exact T.kk_NoText_Alike
 ·exact T.kk_NoText_NoEnd
 ·exact T.kk_NoText_NoThing
 ·exact T.kk_NoText_NoRow
 ·exact T.kk_NoText_NoName
 ·exact T.kk_NoText_NoTable
 ·exact T.kk_Alike_NoText
 ·exact T.kk_Alike_Alike
 ·exact T.kk_Alike_NoEnd
 ·exact T.kk_Alike_NoThing
 ·exact T.kk_Alike_NoRow
 ·exact T.kk_Alike_NoName
 ·exact T.kk_Alike_NoTable
 ·exact T.kk_NoEnd_NoText
 ·exact T.kk_NoEnd_Alike
 ·exact T.kk_NoEnd_NoEnd
 ·exact T.kk_NoEnd_NoThing
 ·exact T.kk_NoEnd_NoRow
 ·exact T.kk_NoEnd_NoName
 ·exact T.kk_NoEnd_NoTable
 ·exact T.kk_NoThing_NoText
 ·exact T.kk_NoThing_Alike
 ·exact T.kk_NoThing_NoEnd
 ·exact T.kk_NoThing_NoThing
 ·exact T.kk_NoThing_NoRow
 ·exact T.kk_NoThing_NoName
 ·exact T.kk_NoThing_NoTable
 ·exact T.kk_NoRow_NoText
 ·exact T.kk_NoRow_Alike
 ·exact T.kk_NoRow_NoEnd
 ·exact T.kk_NoRow_NoThing
 ·exact T.kk_NoRow_NoRow
 ·exact T.kk_NoRow_NoName
 ·exact T.kk_NoRow_NoTable
 ·exact T.kk_NoName_NoText
 ·exact T.kk_NoName_Alike
 ·exact T.kk_NoName_NoEnd
 ·exact T.kk_NoName_NoThing
 ·exact T.kk_NoName_NoRow
 ·exact T.kk_NoName_NoName
 ·exact T.kk_NoName_NoTable
 ·exact T.kk_NoTable_NoText
 ·exact T.kk_NoTable_Alike
 ·exact T.kk_NoTable_NoEnd
 ·exact T.kk_NoTable_NoThing
 ·exact T.kk_NoTable_NoRow
 ·exact T.kk_NoTable_NoName
 ·exact T.kk_NoTable_NoTable
theorem Gf {n:Nat} (h:n < 7):W.kitOne K (.ref (Ap T n)) (.type "ValueError")=some true:=by
 have:n=0\/n=1\/n=2\/n=3\/n=4\/n=5\/n=6:=by lia
 rcases this with e | e | e | e | e | e | e <;> subst e
 ·exact T.kk_NoText_ValueError
 ·exact T.kk_Alike_ValueError
 ·exact T.kk_NoEnd_ValueError
 ·exact T.kk_NoThing_ValueError
 ·exact T.kk_NoRow_ValueError
 ·exact T.kk_NoName_ValueError
 ·exact T.kk_NoTable_ValueError
noncomputable def BC:Sp:=fun vs H Q _=>match vs with
 | [.ref x]=>∃ (n:Nat) (a b c:V),n < 7/\Cgt T n a b c H x/\∀ l H',Same H H'->H' l=some (.lst (((List.range 7).map fun j=>decide (j=n)).map V.bl))->Q (.ref l) H'
 | _=>False
theorem Ej:At (BC T):=fun vs H Q Q' E h q=>by
 unfold BC at *
 split at q
 ·revert q;repeat' first | exact h _ _ | exact Cs h | exact out_mono h | exact outT_mono h | (with_reducible first | refine Exists.imp fun _=>?_ | refine And.imp_right ?_ | refine forall_imp fun _=>?_)
 ·exact q.elim
theorem Gu:FnOk P w K mg base CX0 1 T.f_z15 T.d_z15 ["_law_e"] (BC T):=by
 refine T.F_z15.ok sc_z15 (fun vs H Q E h=>by unfold BC at h;split at h <;> first | rfl | exact h.elim) (fun cdv A outer s H vs Q E hr h=>?_)
 have hu:=BY hr
 unfold BC at h
 split at h
 rotate_left
 ·exact h.elim
 rename_i x
 obtain ⟨n,a,b,c,hn,C0,q⟩:=h
 refine ⟨_,(@AG _ _ _ _ _ (@AU _ _ 1 _ _ _ _ sc_z15.nd rfl (by (first | exact Or.inl rfl | exact Or.inr rfl)) (@BS _ _ _ _ (AA (Aa (Am (K:=K)) rfl T.z_isinstance (by rfl) (AA (vv 0) (AA (Au (v:=.ref T.C_NoText) rfl T.mC_NoText rfl) AE))) (AA (Aa (Am (K:=K)) rfl T.z_isinstance (by rfl) (AA (vv 0) (AA (Au (v:=.ref T.C_Alike) rfl T.mC_Alike rfl) AE))) (AA (Aa (Am (K:=K)) rfl T.z_isinstance (by rfl) (AA (vv 0) (AA (Au (v:=.ref T.C_NoEnd) rfl T.mC_NoEnd rfl) AE))) (AA (Aa (Am (K:=K)) rfl T.z_isinstance (by rfl) (AA (vv 0) (AA (Au (v:=.ref T.C_NoThing) rfl T.mC_NoThing rfl) AE))) AE))))) (by rfl) (by (first | exact .inl rfl | exact .inr rfl | assumption))) (@AI _ _ _ (@AS _ _ _ _ (AK (A1 (K:=K)) (vv 1) (@BS _ _ _ _ (AA (Aa (Am (K:=K)) rfl T.z_isinstance (by rfl) (AA (vv 0) (AA (Au (v:=.ref T.C_NoRow) rfl T.mC_NoRow rfl) AE))) (AA (Aa (Am (K:=K)) rfl T.z_isinstance (by rfl) (AA (vv 0) (AA (Au (v:=.ref T.C_NoName) rfl T.mC_NoName rfl) AE))) (AA (Aa (Am (K:=K)) rfl T.z_isinstance (by rfl) (AA (vv 0) (AA (Au (v:=.ref T.C_NoTable) rfl T.mC_NoTable rfl) AE))) AE)))))))),?_⟩
 have xc:=xcK T hn
 have ik:=Ei T hn
 obtain ⟨od,hx,_⟩:=id C0
 refine ⟨_,od,_,hx,xc,.inl (ik 0 (by decide)),_,od,_,hx,xc,.inl (ik 1 (by decide)),_,od,_,hx,xc,.inl (ik 2 (by decide)),_,od,_,hx,xc,.inl (ik 3 (by decide)),AJ (show 4<=1000 by decide),fun l1 n1=>?_⟩
 have s1:=Same.upd (o:=.lst [.bl (decide (0=n)),.bl (decide (1=n)),.bl (decide (2=n)),.bl (decide (3=n))]) n1
 obtain ⟨od,hx,_⟩:=C0.same T s1
 refine ⟨_,od,_,hx,xc,.inl (ik 4 (by decide)),_,od,_,hx,xc,.inl (ik 5 (by decide)),_,od,_,hx,xc,.inl (ik 6 (by decide)),AJ (show 3<=1000 by decide),fun l2 n2=>?_⟩
 have s2:=s1.trans (Same.upd (o:=.lst [.bl (decide (4=n)),.bl (decide (5=n)),.bl (decide (6=n))]) n2)
 exact .inl ⟨l1,l2,_,_,rfl,rfl,Same.upd n2 _ _ AC,AC,AJ (show 7<=1000 by decide),fun p hp=>q p _ (s2.trans (Same.upd hp)) AC⟩
theorem CZ {H:Hp}:∀ {bs:List Bool},Reps K H (bs.map Dv.bl) (bs.map V.bl)
 | []=>CN
 | b::bs=>BU FX CZ
theorem Dj {H:Hp} {p:Addr} {xs:List V} {ds:List Dv} (h:H p=some (.lst xs)) (r:Reps K H ds xs):Rep K H (.lst ds) (.ref p):=by unfold Rep;exact ⟨p,xs,rfl,.of h,r⟩
theorem Dz:∀ bs:List Bool,Ac (bs.map Dv.bl)=0
 | []=>by simp [Ac]
 | b::bs=>by rw [List.map_cons,Ac,Dz bs];simp [AH]
noncomputable def vDv:V->Dv
 | .int i=>.int i
 | .str z=>.str z
 | _=>.non
noncomputable def Ak (v:V):Prop:=(∃ i,v=.int i)\/∃ z,v=.str z
theorem FJ {H:Hp} {v:V} (h:Ak v):Rep K H (vDv v) v:=by
 rcases h with ⟨i,rfl⟩ | ⟨z,rfl⟩
 ·exact Cy
 ·exact G4
theorem Ct {H:Hp}:∀ {vs:List V},(∀ v∈vs,Ak v)->Reps K H (vs.map vDv) vs
 | [],_=>CN
 | v::vs,h=>BU (FJ (h v List.mem_cons_self)) (Ct fun u hu=>h u (List.mem_cons_of_mem _ hu))
theorem DQ:∀ vs:List V,Ac (vs.map vDv)=0
 | []=>by simp [Ac]
 | v::vs=>by
  rw [List.map_cons,Ac,DQ vs]
  cases v <;> simp [vDv,AH]
theorem HC {a b c:V} (ha:Ak a) (hb:Ak b) (hc:Ak c) {n:Nat} (h:n < 7):∀ v∈BZ a b c n,Ak v:=by
 have:n=0\/n=1\/n=2\/n=3\/n=4\/n=5\/n=6:=by lia
 rcases this with e | e | e | e | e | e | e <;> subst e <;> intro v hv <;> simp only [BZ,List.mem_cons,List.mem_nil_iff,or_false] at hv <;> (try cases hv) <;> (try subst v) <;> first | assumption | (rename_i h;subst h;assumption)
theorem E7:FnOk P w K mg base CX0 4 T.f_law T.d_law ["_law_script"] (Bl K):=by
 have G_z16:=HA (P:=P) (w:=w) (base:=base) T;have G_z17:=Fx (P:=P) (w:=w) (base:=base) T;have G_z14:=FO (P:=P) (w:=w) (base:=base) T;have G_z13:=Er (P:=P) (w:=w) (base:=base) T;have G_z15:=Gu (P:=P) (w:=w) (base:=base) T
 refine T.F_law.ok sc_law (fun vs H Q E h=>by obtain ⟨a,ns,rfl,_⟩:=h;rfl) (fun cdv A outer s H vs Q E hr h=>?_)
 have hu:=BY hr
 have mo1:At (A3 T):=GX T
 have mo2:At (BQ T):=Gr T
 have mo3:At (BC T):=Ej T
 have hr_z16:=hr.mono (show 1<=_ by decide);have hr_z17:=hr.mono (show 1<=_ by decide);have hr_z14:=hr.mono (show 3<=_ by decide);have hr_z13:=hr.mono (show 1<=_ by decide);have hr_z15:=hr.mono (show 1<=_ by decide)
 obtain ⟨a,ns,rfl,hsq,hlen,q⟩:=h
 refine ⟨_,(@AG _ _ _ _ _ (@AU _ _ 1 _ _ _ _ sc_law.nd rfl (by (first | exact Or.inl rfl | exact Or.inr rfl)) (Az G_z16 hr_z16 rfl T.m_z16 T.F_z16.kp T.b_z16 .nil Aw (AA (vv 0) AE)) (by rfl) (by (first | exact .inl rfl | exact .inr rfl | assumption))) (@AG _ _ _ _ _ (@AU _ _ 2 _ _ _ _ sc_law.nd rfl (by (first | exact Or.inl rfl | exact Or.inr rfl)) (Az G_z17 hr_z17 rfl T.m_z17 T.F_z17.kp T.b_z17 .nil Aw (AA (vv 1) (AA AD AE))) (by rfl) (by (first | exact .inl rfl | exact .inr rfl | assumption))) (@AG _ _ _ _ _ (@AU _ _ 3 _ _ _ _ sc_law.nd rfl (by (first | exact Or.inl rfl | exact Or.inr rfl)) (Az G_z17 hr_z17 rfl T.m_z17 T.F_z17.kp T.b_z17 .nil Aw (AA (vv 1) (AA AD AE))) (by rfl) (by (first | exact .inl rfl | exact .inr rfl | assumption))) (@AG _ _ _ _ _ (@AU _ _ 4 _ _ _ _ sc_law.nd rfl (by (first | exact Or.inl rfl | exact Or.inr rfl)) (kIx (K:=K) (@BS _ _ _ _ (AA Bu (AA Bu (AA Bu (AA Bu AE))))) (Az G_z17 hr_z17 rfl T.m_z17 T.F_z17.kp T.b_z17 .nil Aw (AA (vv 1) (AA AD AE)))) (by rfl) (by (first | exact .inl rfl | exact .inr rfl | assumption))) (@AG _ _ _ _ _ (@AU _ _ 5 _ _ _ _ sc_law.nd rfl (by (first | exact Or.inl rfl | exact Or.inr rfl)) (@BS _ _ _ _ (AA (AT (AA (vv 2) AE)) (AA (AT (AA (vv 2) (AA (vv 3) AE))) (AA (AT (AA (vv 2) (AA (vv 3) AE))) (AA (AT (AA (vv 2) AE)) (AA (AT (AA (vv 4) AE)) (AA (AT (AA (vv 4) AE)) (AA (AT AE) AE)))))))) (by rfl) (by (first | exact .inl rfl | exact .inr rfl | assumption))) (@AG _ _ _ _ _ (@GO _ _ _ _ _ _ _ _ PassesOwn.never rfl (EE rfl T.z_range (AA AD AE)) (D0 (i:=6) sc_law.nd rfl (by (first | exact Or.inl rfl | exact Or.inr rfl))) (@AG _ _ _ _ _ (@AU _ _ 7 _ _ _ _ sc_law.nd rfl (by (first | exact Or.inl rfl | exact Or.inr rfl)) (Az G_z14 hr_z14 rfl T.m_z14 T.F_z14.kp T.b_z14 .nil Aw (AA (vv 6) (AA (vv 2) (AA (vv 3) (AA (vv 4) AE))))) (by rfl) (by (first | exact .inl rfl | exact .inr rfl | assumption))) (@AG _ _ _ _ _ (@Aq _ _ _ _ _ _ _ _ (PW.pt (FH (GQ (HM (Aa (Am (K:=K)) rfl T.z_isinstance (by rfl) (AA (vv 7) (AA (En (v:=.ty "ValueError") rfl T.z_ValueError (by rfl) rfl) AE))))) (EJ (AO (kNe (K:=K) hu) (Az G_z15 hr_z15 rfl T.m_z15 T.F_z15.kp T.b_z15 .nil Aw (AA (vv 7) AE)) (Ek (N':=["_law_j","_law_k"]) (own:=1) (ix:=[6]) rfl (EE rfl T.z_range (AA AD AE)) (by kernel_rfl) rfl rfl (by kernel_rfl) (fun c=>D0 (i:=0) (show (["_law_j","_law_k"]:List Str).Nodup by decide +kernel) rfl (by (first | exact Or.inl rfl | exact Or.inr rfl))) (HS (by decide)) (fun c=>Fz) (fun c=>(GC (kEq (K:=K) hu) (vv 0) (vv 1)))))))) (@AI _ _ _ (@AS _ _ _ _ CI)) As) (@AI _ _ _ (@Aq _ _ _ _ _ _ _ _ (AO (kNe (K:=K) hu) (Az G_z13 hr_z13 rfl T.m_z13 T.F_z13.kp T.b_z13 .nil Aw (AA (vv 6) (AA (vv 7) AE))) (kIx (K:=K) (vv 5) (vv 6))) (@AI _ _ _ (@AS _ _ _ _ CI)) As)))) (by intro _;rfl)) (@AI _ _ _ (@AS _ _ _ _ CI)))))))),?_⟩
 refine fun p hp=>?_
 have T0:=HV hp hsq
 generalize upd H p _=H0 at *
 refine ⟨a,ns,T0,CA (by decide) (by decide),fun one H1 _ _ T1 f1=>⟨a,ns,T1,CA (by decide) (by decide),fun other H2 _ _ T2 f2=>?_⟩⟩
 dsimp only [Ax]
 refine ⟨AJ (show 4<=1000 by decide),fun lw nw=>?_⟩
 have nwt:=T2.neT nw
 refine ⟨a,ns,T2.same (Same.upd nw),CA (by decide) (by decide),fun wn H3 w0 w1 T3 f3=>?_⟩
 have g3:H3 lw=some (.lst [.str "a",.str "no",.str "keep",.str "at 0"]):=by rw [f3 lw nwt];exact AC
 have hw:∃ z,atI [V.str "a",.str "no",.str "keep",.str "at 0"] wn=some (.str z):=by
  have:wn=0\/wn=1\/wn=2\/wn=3:=by lia
  rcases this with e | e | e | e <;> subst e <;> exact ⟨_,rfl⟩
 obtain ⟨z,hz⟩:=hw
 refine ⟨_,_,.inl (.of g3),hz,?_⟩
 dsimp only [Ax]
 have pa:Ak (.int one):=.inl ⟨_,rfl⟩
 have pb:Ak (.int other):=.inl ⟨_,rfl⟩
 have pc:Ak (.str z):=.inr ⟨_,rfl⟩
 refine Ba (fun σ H'=>∃ ld z6 z7,σ=[some (.ref a),some (.ref p),some (.int one),some (.int other),some (.str z),some (.ref ld),z6,z7]/\∃ ts:List Addr,H' ld=some (.lst (ts.map V.ref))/\ts.length=7/\∀ n (h:n < ts.length),H' ts[n]=some (.tup (BZ (.int one) (.int other) (.str z) n))) ?_ ?_ (by (repeat' with_reducible first | exact Gk | apply G3 | apply EY | apply HR | apply FE | apply HG | exact FA | exact EL | apply FP | apply HU | apply Gh | apply Eg | apply Ef | apply Ga | apply E8 | exact HK | exact Gv | exact HJ | exact Fq | exact Eh | exact Fg | exact FW | apply Gj | apply GF | apply Gb | apply HW | exact FU | apply FZ | exact Fu | exact Ea | exact E4 | apply GS | apply GY | exact Fo | exact FV | assumption))
 ·refine ⟨AJ (show 1<=1000 by decide),fun t0 n0=>⟨AJ (show 2<=1000 by decide),fun t1 n1=>⟨AJ (show 2<=1000 by decide),fun t2 n2=>⟨AJ (show 1<=1000 by decide),fun t3 n3=>⟨AJ (show 1<=1000 by decide),fun t4 n4=>⟨AJ (show 1<=1000 by decide),fun t5 n5=>⟨AJ (show 0<=1000 by decide),fun t6 n6=>⟨AJ (show 7<=1000 by decide),fun ld nl=>?_⟩⟩⟩⟩⟩⟩⟩⟩
  have s6:=Same.upd (o:=.lst [.ref t0,.ref t1,.ref t2,.ref t3,.ref t4,.ref t5,.ref t6]) nl
  have s5:=(Same.upd (o:=.tup []) n6).trans s6
  have s4:=(Same.upd (o:=.tup [.str z]) n5).trans s5
  have s3:=(Same.upd (o:=.tup [.str z]) n4).trans s4
  have s2:=(Same.upd (o:=.tup [.int one]) n3).trans s3
  have s1:=(Same.upd (o:=.tup [.int one,.int other]) n2).trans s2
  have s0:=(Same.upd (o:=.tup [.int one,.int other]) n1).trans s1
  refine ⟨ld,_,_,rfl,[t0,t1,t2,t3,t4,t5,t6],AC,rfl,fun n h=>?_⟩
  have h:n < 7:=h
  have:n=0\/n=1\/n=2\/n=3\/n=4\/n=5\/n=6:=by lia
  rcases this with e | e | e | e | e | e | e <;> subst e
  ·exact s0 _ _ AC
  ·exact s1 _ _ AC
  ·exact s2 _ _ AC
  ·exact s3 _ _ AC
  ·exact s4 _ _ AC
  ·exact s5 _ _ AC
  ·exact s6 _ _ AC
 rintro σ H4 ⟨ld,z6,z7,rfl,ts,gl,hl,hts⟩
 refine Ba (fun σ H'=>True) ?_ (fun σ H' _=>q H') (by (repeat' with_reducible first | exact Gk | apply G3 | apply EY | apply HR | apply FE | apply HG | exact FA | exact EL | apply FP | apply HU | apply Gh | apply Eg | apply Ef | apply Ga | apply E8 | exact HK | exact Gv | exact HJ | exact Fq | exact Eh | exact Fg | exact FW | apply Gj | apply GF | apply Gb | apply HW | exact FU | apply FZ | exact Fu | exact Ea | exact E4 | apply GS | apply GY | exact Fo | exact FV | assumption))
 refine ⟨7,rfl,by decide,by decide,?_⟩
 refine G2 (fun i σ H'=>∃ z6 z7,σ=[some (.ref a),some (.ref p),some (.int one),some (.int other),some (.str z),some (.ref ld),z6,z7]/\Same H4 H') ⟨_,_,rfl,Same.refl _⟩ ?_ (fun σ H' _=>True.intro)
 rintro i σ H5 hi ⟨z6,z7,rfl,s5⟩
 have hi:i < 7:=by lia
 rw [show (0:Int)+(i:Int)=(i:Int) from Int.zero_add _]
 refine ⟨i,rfl,hi,fun x H6 s6 C6=>?_⟩
 dsimp only [Ax]
 have xc:=xcK T hi
 refine Ba (fun σ H'=>σ=[some (.ref a),some (.ref p),some (.int one),some (.int other),some (.str z),some (.ref ld),some (.int i),some (.ref x)]/\Same H6 H') ?_ ?_ (by (repeat' with_reducible first | exact Gk | apply G3 | apply EY | apply HR | apply FE | apply HG | exact FA | exact EL | apply FP | apply HU | apply Gh | apply Eg | apply Ef | apply Ga | apply E8 | exact HK | exact Gv | exact HJ | exact Fq | exact Eh | exact Fg | exact FW | apply Gj | apply GF | apply Gb | apply HW | exact FU | apply FZ | exact Fu | exact Ea | exact E4 | apply GS | apply GY | exact Fo | exact FV | assumption))
 ·obtain ⟨od,hx,_⟩:=id C6
  refine ⟨_,od,true,hx,xc,Gf T hi,i,_,_,_,hi,C6,fun l H7 s7 g7=>⟨7,rfl,by decide,by decide,?_⟩⟩
  refine EU (fun j ys H'=>H'=H7/\ys=((List.range j).map fun j=>decide (j=i)).map V.bl) ⟨rfl,rfl⟩ (fun j ys H' hj ⟨_,e⟩=>by
   rw [e,List.length_map,List.length_map,List.length_range];exact EA (by lia)) ?_ ?_
  ·rintro j ys H' hj ⟨rfl,rfl⟩
   refine ⟨rfl,?_⟩
   rw [List.range_succ,List.map_append,List.map_append]
   congr 2
   have:((0:Int)+(j:Int) == (i:Int))=decide (j=i):=by
    rw [Bool.eq_iff_iff,beq_iff_eq,decide_eq_true_eq]
    lia
   show V.bl (false ^^ ((0:Int)+(j:Int) == (i:Int)))=V.bl (decide (j=i))
   rw [this,Bool.false_xor]
  ·rintro ys H' ⟨rfl,rfl⟩ l2 n2
   have s8:=Same.upd (o:=.lst (((List.range (7:Int).toNat).map fun j=>decide (j=i)).map V.bl)) n2
   refine ⟨_,_,Dj (s8 _ _ g7) CZ,Dj AC CZ,by rw [AH,Dz];decide,?_⟩
   rw [show (7:Int).toNat=7 from rfl,BR]
   exact ⟨rfl,s7.trans s8⟩
 rintro σ H7 ⟨rfl,s7⟩
 refine ⟨i,_,_,_,rfl,hi,C6.same T s7,fun p1 hp1=>?_⟩
 have s8:=s5.trans (s6.trans (s7.trans (Same.upd (o:=.tup (BZ (.int one) (.int other) (.str z) i)) hp1)))
 have hil:i < ts.length:=by lia
 refine ⟨_,.ref ts[i],.inl (.of (s8 _ _ gl)),D8 rfl (by rw [List.getElem?_map,List.getElem?_eq_getElem hil];rfl),?_⟩
 have pv:=HC pa pb pc hi
 refine ⟨_,_,DL AC (Ct pv),DL (s8 _ _ (hts i hil)) (Ct pv),by rw [AH,DQ];decide,?_⟩
 rw [BR]
 exact ⟨_,_,rfl,s8⟩
end
theorem all_mk {l:W.OpenLaw} {w:World} {K:W.Frag} {h:Heap} {mg:Str->Option Value} {fa:Addr} (X:K.In h) (G:h.Ns mainGlobals mg) (hfa:mg "law" = some (.ref fa))
 {C_Alike:Addr}
 {C_FlipError:Addr}
 {C_NoEnd:Addr}
 {C_NoName:Addr}
 {C_NoRow:Addr}
 {C_NoTable:Addr}
 {C_NoText:Addr}
 {C_NoThing:Addr}
 {f0 f1 f2 f3 f4 f5 f6 f7 f8 f9 f10 f11:Addr} {oc0 kV0 dc0 pm0 cd0 ct0 oc1 kV1 dc1 pm1 cd1 ct1 oc2 kV2 dc2 pm2 cd2 ct2 oc3 kV3 dc3 pm3 cd3 ct3 oc4 kV4 dc4 pm4 cd4 ct4 oc5 kV5 dc5 pm5 cd5 ct5 oc6 kV6 dc6 pm6 cd6 ct6 oc7 kV7 dc7 pm7 cd7 ct7 oc8 kV8 dc8 pm8 cd8 ct8 oc9 kV9 dc9 pm9 cd9 ct9 oc10 kV10 dc10 pm10 cd10 ct10 oc11 kV11 dc11 pm11 cd11 ct11:Value} {od0 an0 od1 an1 od2 an2 od3 an3 od4 an4 od5 an5 od6 an6 od7 an7 od8 an8 od9 an9 od10 an10 od11 an11:Option Addr} {sl0 sl1 sl2 sl3 sl4 sl5 sl6 sl7 sl8 sl9 sl10 sl11:Array (Option Value)}
 (aC_Alike:W.nsIn K mainGlobals "Alike" = some (some (.ref C_Alike)))
 (aC_FlipError:W.nsIn K mainGlobals "FlipError" = some (some (.ref C_FlipError)))
 (aC_NoEnd:W.nsIn K mainGlobals "NoEnd" = some (some (.ref C_NoEnd)))
 (aC_NoName:W.nsIn K mainGlobals "NoName" = some (some (.ref C_NoName)))
 (aC_NoRow:W.nsIn K mainGlobals "NoRow" = some (some (.ref C_NoRow)))
 (aC_NoTable:W.nsIn K mainGlobals "NoTable" = some (some (.ref C_NoTable)))
 (aC_NoText:W.nsIn K mainGlobals "NoText" = some (some (.ref C_NoText)))
 (aC_NoThing:W.nsIn K mainGlobals "NoThing" = some (some (.ref C_NoThing)))
 (x1_Alike:W.findIn K (.ref C_Alike) "__getattribute__" = some (some (.builtin "BaseException.__getattribute__")))
 (x2_Alike:W.findIn K (.ref C_Alike) "__getattr__" = some none)
 (x3_Alike:W.mroIn K C_Alike (.type "BaseException")=some true)
 (x4_Alike:W.mroIn K C_Alike (.type "object")=some true)
 (x5_Alike:W.findIn K (.ref C_Alike) "__class__" = some (some (.builtin "object.__class__")))
 (x6_Alike:W.specialIn K (.builtin "object.__class__") "__get__" = some (some (.builtin "getset_descriptor.__get__")))
 (x7_Alike:W.takesIn K (.builtin "object.__class__")=some true)
 (xs_Alike:W.findIn K (.ref C_Alike) "__setattr__" = some (some (.builtin "object.__setattr__")))
 (hd_Alike:W.hasDictIn K C_Alike=true)
 (na_one_Alike:W.findIn K (.ref C_Alike) "one" = some none)
 (na_other_Alike:W.findIn K (.ref C_Alike) "other" = some none)
 (xm_Alike_FlipError:W.exmOne K (.ref C_Alike) (.ref C_FlipError)=some true)
 (kk_Alike_Alike:W.kitOne K (.ref C_Alike) (.ref C_Alike)=some true)
 (kk_Alike_NoEnd:W.kitOne K (.ref C_Alike) (.ref C_NoEnd)=some false)
 (kk_Alike_NoName:W.kitOne K (.ref C_Alike) (.ref C_NoName)=some false)
 (kk_Alike_NoRow:W.kitOne K (.ref C_Alike) (.ref C_NoRow)=some false)
 (kk_Alike_NoTable:W.kitOne K (.ref C_Alike) (.ref C_NoTable)=some false)
 (kk_Alike_NoText:W.kitOne K (.ref C_Alike) (.ref C_NoText)=some false)
 (kk_Alike_NoThing:W.kitOne K (.ref C_Alike) (.ref C_NoThing)=some false)
 (kk_Alike_ValueError:W.kitOne K (.ref C_Alike) (.type "ValueError")=some true)
 (x1_NoEnd:W.findIn K (.ref C_NoEnd) "__getattribute__" = some (some (.builtin "BaseException.__getattribute__")))
 (x2_NoEnd:W.findIn K (.ref C_NoEnd) "__getattr__" = some none)
 (x3_NoEnd:W.mroIn K C_NoEnd (.type "BaseException")=some true)
 (x4_NoEnd:W.mroIn K C_NoEnd (.type "object")=some true)
 (x5_NoEnd:W.findIn K (.ref C_NoEnd) "__class__" = some (some (.builtin "object.__class__")))
 (x6_NoEnd:W.specialIn K (.builtin "object.__class__") "__get__" = some (some (.builtin "getset_descriptor.__get__")))
 (x7_NoEnd:W.takesIn K (.builtin "object.__class__")=some true)
 (xs_NoEnd:W.findIn K (.ref C_NoEnd) "__setattr__" = some (some (.builtin "object.__setattr__")))
 (hd_NoEnd:W.hasDictIn K C_NoEnd=true)
 (na_one_NoEnd:W.findIn K (.ref C_NoEnd) "one" = some none)
 (na_other_NoEnd:W.findIn K (.ref C_NoEnd) "other" = some none)
 (xm_NoEnd_FlipError:W.exmOne K (.ref C_NoEnd) (.ref C_FlipError)=some true)
 (kk_NoEnd_Alike:W.kitOne K (.ref C_NoEnd) (.ref C_Alike)=some false)
 (kk_NoEnd_NoEnd:W.kitOne K (.ref C_NoEnd) (.ref C_NoEnd)=some true)
 (kk_NoEnd_NoName:W.kitOne K (.ref C_NoEnd) (.ref C_NoName)=some false)
 (kk_NoEnd_NoRow:W.kitOne K (.ref C_NoEnd) (.ref C_NoRow)=some false)
 (kk_NoEnd_NoTable:W.kitOne K (.ref C_NoEnd) (.ref C_NoTable)=some false)
 (kk_NoEnd_NoText:W.kitOne K (.ref C_NoEnd) (.ref C_NoText)=some false)
 (kk_NoEnd_NoThing:W.kitOne K (.ref C_NoEnd) (.ref C_NoThing)=some false)
 (kk_NoEnd_ValueError:W.kitOne K (.ref C_NoEnd) (.type "ValueError")=some true)
 (x1_NoName:W.findIn K (.ref C_NoName) "__getattribute__" = some (some (.builtin "BaseException.__getattribute__")))
 (x2_NoName:W.findIn K (.ref C_NoName) "__getattr__" = some none)
 (x3_NoName:W.mroIn K C_NoName (.type "BaseException")=some true)
 (x4_NoName:W.mroIn K C_NoName (.type "object")=some true)
 (x5_NoName:W.findIn K (.ref C_NoName) "__class__" = some (some (.builtin "object.__class__")))
 (x6_NoName:W.specialIn K (.builtin "object.__class__") "__get__" = some (some (.builtin "getset_descriptor.__get__")))
 (x7_NoName:W.takesIn K (.builtin "object.__class__")=some true)
 (xs_NoName:W.findIn K (.ref C_NoName) "__setattr__" = some (some (.builtin "object.__setattr__")))
 (hd_NoName:W.hasDictIn K C_NoName=true)
 (na_name_NoName:W.findIn K (.ref C_NoName) "name" = some none)
 (xm_NoName_FlipError:W.exmOne K (.ref C_NoName) (.ref C_FlipError)=some true)
 (kk_NoName_Alike:W.kitOne K (.ref C_NoName) (.ref C_Alike)=some false)
 (kk_NoName_NoEnd:W.kitOne K (.ref C_NoName) (.ref C_NoEnd)=some false)
 (kk_NoName_NoName:W.kitOne K (.ref C_NoName) (.ref C_NoName)=some true)
 (kk_NoName_NoRow:W.kitOne K (.ref C_NoName) (.ref C_NoRow)=some false)
 (kk_NoName_NoTable:W.kitOne K (.ref C_NoName) (.ref C_NoTable)=some false)
 (kk_NoName_NoText:W.kitOne K (.ref C_NoName) (.ref C_NoText)=some false)
 (kk_NoName_NoThing:W.kitOne K (.ref C_NoName) (.ref C_NoThing)=some false)
 (kk_NoName_ValueError:W.kitOne K (.ref C_NoName) (.type "ValueError")=some true)
 (x1_NoRow:W.findIn K (.ref C_NoRow) "__getattribute__" = some (some (.builtin "BaseException.__getattribute__")))
 (x2_NoRow:W.findIn K (.ref C_NoRow) "__getattr__" = some none)
 (x3_NoRow:W.mroIn K C_NoRow (.type "BaseException")=some true)
 (x4_NoRow:W.mroIn K C_NoRow (.type "object")=some true)
 (x5_NoRow:W.findIn K (.ref C_NoRow) "__class__" = some (some (.builtin "object.__class__")))
 (x6_NoRow:W.specialIn K (.builtin "object.__class__") "__get__" = some (some (.builtin "getset_descriptor.__get__")))
 (x7_NoRow:W.takesIn K (.builtin "object.__class__")=some true)
 (xs_NoRow:W.findIn K (.ref C_NoRow) "__setattr__" = some (some (.builtin "object.__setattr__")))
 (hd_NoRow:W.hasDictIn K C_NoRow=true)
 (na_row_NoRow:W.findIn K (.ref C_NoRow) "row" = some none)
 (xm_NoRow_FlipError:W.exmOne K (.ref C_NoRow) (.ref C_FlipError)=some true)
 (kk_NoRow_Alike:W.kitOne K (.ref C_NoRow) (.ref C_Alike)=some false)
 (kk_NoRow_NoEnd:W.kitOne K (.ref C_NoRow) (.ref C_NoEnd)=some false)
 (kk_NoRow_NoName:W.kitOne K (.ref C_NoRow) (.ref C_NoName)=some false)
 (kk_NoRow_NoRow:W.kitOne K (.ref C_NoRow) (.ref C_NoRow)=some true)
 (kk_NoRow_NoTable:W.kitOne K (.ref C_NoRow) (.ref C_NoTable)=some false)
 (kk_NoRow_NoText:W.kitOne K (.ref C_NoRow) (.ref C_NoText)=some false)
 (kk_NoRow_NoThing:W.kitOne K (.ref C_NoRow) (.ref C_NoThing)=some false)
 (kk_NoRow_ValueError:W.kitOne K (.ref C_NoRow) (.type "ValueError")=some true)
 (xi_NoTable:W.excIn K C_NoTable [.type "ValueError",.type "Exception",.type "BaseException",.type "object"] "ValueError.__new__" = true)
 (x1_NoTable:W.findIn K (.ref C_NoTable) "__getattribute__" = some (some (.builtin "BaseException.__getattribute__")))
 (x2_NoTable:W.findIn K (.ref C_NoTable) "__getattr__" = some none)
 (x3_NoTable:W.mroIn K C_NoTable (.type "BaseException")=some true)
 (x4_NoTable:W.mroIn K C_NoTable (.type "object")=some true)
 (x5_NoTable:W.findIn K (.ref C_NoTable) "__class__" = some (some (.builtin "object.__class__")))
 (x6_NoTable:W.specialIn K (.builtin "object.__class__") "__get__" = some (some (.builtin "getset_descriptor.__get__")))
 (x7_NoTable:W.takesIn K (.builtin "object.__class__")=some true)
 (xm_NoTable_FlipError:W.exmOne K (.ref C_NoTable) (.ref C_FlipError)=some true)
 (kk_NoTable_Alike:W.kitOne K (.ref C_NoTable) (.ref C_Alike)=some false)
 (kk_NoTable_NoEnd:W.kitOne K (.ref C_NoTable) (.ref C_NoEnd)=some false)
 (kk_NoTable_NoName:W.kitOne K (.ref C_NoTable) (.ref C_NoName)=some false)
 (kk_NoTable_NoRow:W.kitOne K (.ref C_NoTable) (.ref C_NoRow)=some false)
 (kk_NoTable_NoTable:W.kitOne K (.ref C_NoTable) (.ref C_NoTable)=some true)
 (kk_NoTable_NoText:W.kitOne K (.ref C_NoTable) (.ref C_NoText)=some false)
 (kk_NoTable_NoThing:W.kitOne K (.ref C_NoTable) (.ref C_NoThing)=some false)
 (kk_NoTable_ValueError:W.kitOne K (.ref C_NoTable) (.type "ValueError")=some true)
 (x1_NoText:W.findIn K (.ref C_NoText) "__getattribute__" = some (some (.builtin "BaseException.__getattribute__")))
 (x2_NoText:W.findIn K (.ref C_NoText) "__getattr__" = some none)
 (x3_NoText:W.mroIn K C_NoText (.type "BaseException")=some true)
 (x4_NoText:W.mroIn K C_NoText (.type "object")=some true)
 (x5_NoText:W.findIn K (.ref C_NoText) "__class__" = some (some (.builtin "object.__class__")))
 (x6_NoText:W.specialIn K (.builtin "object.__class__") "__get__" = some (some (.builtin "getset_descriptor.__get__")))
 (x7_NoText:W.takesIn K (.builtin "object.__class__")=some true)
 (xs_NoText:W.findIn K (.ref C_NoText) "__setattr__" = some (some (.builtin "object.__setattr__")))
 (hd_NoText:W.hasDictIn K C_NoText=true)
 (na_at_NoText:W.findIn K (.ref C_NoText) "at" = some none)
 (xm_NoText_FlipError:W.exmOne K (.ref C_NoText) (.ref C_FlipError)=some true)
 (kk_NoText_Alike:W.kitOne K (.ref C_NoText) (.ref C_Alike)=some false)
 (kk_NoText_NoEnd:W.kitOne K (.ref C_NoText) (.ref C_NoEnd)=some false)
 (kk_NoText_NoName:W.kitOne K (.ref C_NoText) (.ref C_NoName)=some false)
 (kk_NoText_NoRow:W.kitOne K (.ref C_NoText) (.ref C_NoRow)=some false)
 (kk_NoText_NoTable:W.kitOne K (.ref C_NoText) (.ref C_NoTable)=some false)
 (kk_NoText_NoText:W.kitOne K (.ref C_NoText) (.ref C_NoText)=some true)
 (kk_NoText_NoThing:W.kitOne K (.ref C_NoText) (.ref C_NoThing)=some false)
 (kk_NoText_ValueError:W.kitOne K (.ref C_NoText) (.type "ValueError")=some true)
 (x1_NoThing:W.findIn K (.ref C_NoThing) "__getattribute__" = some (some (.builtin "BaseException.__getattribute__")))
 (x2_NoThing:W.findIn K (.ref C_NoThing) "__getattr__" = some none)
 (x3_NoThing:W.mroIn K C_NoThing (.type "BaseException")=some true)
 (x4_NoThing:W.mroIn K C_NoThing (.type "object")=some true)
 (x5_NoThing:W.findIn K (.ref C_NoThing) "__class__" = some (some (.builtin "object.__class__")))
 (x6_NoThing:W.specialIn K (.builtin "object.__class__") "__get__" = some (some (.builtin "getset_descriptor.__get__")))
 (x7_NoThing:W.takesIn K (.builtin "object.__class__")=some true)
 (xs_NoThing:W.findIn K (.ref C_NoThing) "__setattr__" = some (some (.builtin "object.__setattr__")))
 (hd_NoThing:W.hasDictIn K C_NoThing=true)
 (na_question_NoThing:W.findIn K (.ref C_NoThing) "question" = some none)
 (xm_NoThing_FlipError:W.exmOne K (.ref C_NoThing) (.ref C_FlipError)=some true)
 (kk_NoThing_Alike:W.kitOne K (.ref C_NoThing) (.ref C_Alike)=some false)
 (kk_NoThing_NoEnd:W.kitOne K (.ref C_NoThing) (.ref C_NoEnd)=some false)
 (kk_NoThing_NoName:W.kitOne K (.ref C_NoThing) (.ref C_NoName)=some false)
 (kk_NoThing_NoRow:W.kitOne K (.ref C_NoThing) (.ref C_NoRow)=some false)
 (kk_NoThing_NoTable:W.kitOne K (.ref C_NoThing) (.ref C_NoTable)=some false)
 (kk_NoThing_NoText:W.kitOne K (.ref C_NoThing) (.ref C_NoText)=some false)
 (kk_NoThing_NoThing:W.kitOne K (.ref C_NoThing) (.ref C_NoThing)=some true)
 (kk_NoThing_ValueError:W.kitOne K (.ref C_NoThing) (.type "ValueError")=some true)
 (a0:W.findIn K (.ref C_NoText) "__init__" = some (some (.ref f0)))
 (i0:W.isFn K (.ref f0)=true)
 (l0:K.lookup f0=some ⟨oc0,od0,.func (W.fnOf "__init__" "NoText.__init__" (AQ A7) (AN A7) (AF A7) .none kV0 dc0 pm0 an0 cd0 ct0),sl0⟩)
 (c0:W.codeIn K cd0 "NoText.__init__" = true)
 (k0:W.keepIn K (.ref f0)=true)
 (a1:W.findIn K (.ref C_Alike) "__init__" = some (some (.ref f1)))
 (i1:W.isFn K (.ref f1)=true)
 (l1:K.lookup f1=some ⟨oc1,od1,.func (W.fnOf "__init__" "Alike.__init__" (AQ A6) (AN A6) (AF A6) .none kV1 dc1 pm1 an1 cd1 ct1),sl1⟩)
 (c1:W.codeIn K cd1 "Alike.__init__" = true)
 (k1:W.keepIn K (.ref f1)=true)
 (a2:W.findIn K (.ref C_NoEnd) "__init__" = some (some (.ref f2)))
 (i2:W.isFn K (.ref f2)=true)
 (l2:K.lookup f2=some ⟨oc2,od2,.func (W.fnOf "__init__" "NoEnd.__init__" (AQ A4) (AN A4) (AF A4) .none kV2 dc2 pm2 an2 cd2 ct2),sl2⟩)
 (c2:W.codeIn K cd2 "NoEnd.__init__" = true)
 (k2:W.keepIn K (.ref f2)=true)
 (a3:W.findIn K (.ref C_NoThing) "__init__" = some (some (.ref f3)))
 (i3:W.isFn K (.ref f3)=true)
 (l3:K.lookup f3=some ⟨oc3,od3,.func (W.fnOf "__init__" "NoThing.__init__" (AQ A5) (AN A5) (AF A5) .none kV3 dc3 pm3 an3 cd3 ct3),sl3⟩)
 (c3:W.codeIn K cd3 "NoThing.__init__" = true)
 (k3:W.keepIn K (.ref f3)=true)
 (a4:W.findIn K (.ref C_NoRow) "__init__" = some (some (.ref f4)))
 (i4:W.isFn K (.ref f4)=true)
 (l4:K.lookup f4=some ⟨oc4,od4,.func (W.fnOf "__init__" "NoRow.__init__" (AQ BF) (AN BF) (AF BF) .none kV4 dc4 pm4 an4 cd4 ct4),sl4⟩)
 (c4:W.codeIn K cd4 "NoRow.__init__" = true)
 (k4:W.keepIn K (.ref f4)=true)
 (a5:W.findIn K (.ref C_NoName) "__init__" = some (some (.ref f5)))
 (i5:W.isFn K (.ref f5)=true)
 (l5:K.lookup f5=some ⟨oc5,od5,.func (W.fnOf "__init__" "NoName.__init__" (AQ BG) (AN BG) (AF BG) .none kV5 dc5 pm5 an5 cd5 ct5),sl5⟩)
 (c5:W.codeIn K cd5 "NoName.__init__" = true)
 (k5:W.keepIn K (.ref f5)=true)
 (a6:W.nsIn K mainGlobals "_law_tape" = some (some (.ref f6)))
 (l6:K.lookup f6=some ⟨oc6,od6,.func (W.fnOf "_law_tape" "_law_tape" (AQ BI) (AN BI) (AF BI) .none kV6 dc6 pm6 an6 cd6 ct6),sl6⟩)
 (c6:W.codeIn K cd6 "_law_tape" = true)
 (k6:W.keepIn K (.ref f6)=true)
 (a7:W.nsIn K mainGlobals "_law_next" = some (some (.ref f7)))
 (l7:K.lookup f7=some ⟨oc7,od7,.func (W.fnOf "_law_next" "_law_next" (AQ BO) (AN BO) (AF BO) .none kV7 dc7 pm7 an7 cd7 ct7),sl7⟩)
 (c7:W.codeIn K cd7 "_law_next" = true)
 (k7:W.keepIn K (.ref f7)=true)
 (a8:W.nsIn K mainGlobals "_law_raised" = some (some (.ref f8)))
 (l8:K.lookup f8=some ⟨oc8,od8,.func (W.fnOf "_law_raised" "_law_raised" (AQ BN) (AN BN) (AF BN) .none kV8 dc8 pm8 an8 cd8 ct8),sl8⟩)
 (c8:W.codeIn K cd8 "_law_raised" = true)
 (k8:W.keepIn K (.ref f8)=true)
 (a9:W.nsIn K mainGlobals "_law_fields" = some (some (.ref f9)))
 (l9:K.lookup f9=some ⟨oc9,od9,.func (W.fnOf "_law_fields" "_law_fields" (AQ A9) (AN A9) (AF A9) .none kV9 dc9 pm9 an9 cd9 ct9),sl9⟩)
 (c9:W.codeIn K cd9 "_law_fields" = true)
 (k9:W.keepIn K (.ref f9)=true)
 (a10:W.nsIn K mainGlobals "_law_sorts" = some (some (.ref f10)))
 (l10:K.lookup f10=some ⟨oc10,od10,.func (W.fnOf "_law_sorts" "_law_sorts" (AQ BK) (AN BK) (AF BK) .none kV10 dc10 pm10 an10 cd10 ct10),sl10⟩)
 (c10:W.codeIn K cd10 "_law_sorts" = true)
 (k10:W.keepIn K (.ref f10)=true)
 (a11:W.nsIn K mainGlobals "law" = some (some (.ref f11)))
 (l11:K.lookup f11=some ⟨oc11,od11,.func (W.fnOf "law" "law" (AQ Ai) (AN Ai) (AF Ai) .none kV11 dc11 pm11 an11 cd11 ct11),sl11⟩)
 (c11:W.codeIn K cd11 "law" = true)
 (k11:W.keepIn K (.ref f11)=true)
 (z_ValueError:W.nsIn K mainGlobals "ValueError" = some none)
 (z_isinstance:W.nsIn K mainGlobals "isinstance" = some none)
 (z_len:W.nsIn K mainGlobals "len" = some none)
 (z_max:W.nsIn K mainGlobals "max" = some none)
 (z_range:W.nsIn K mainGlobals "range" = some none)
 (xj_NoText:Ad K C_NoText f0=true)
 (xj_Alike:Ad K C_Alike f1=true)
 (xj_NoEnd:Ad K C_NoEnd f2=true)
 (xj_NoThing:Ad K C_NoThing f3=true)
 (xj_NoRow:Ad K C_NoRow f4=true)
 (xj_NoName:Ad K C_NoName f5=true) :
 ∃ fd:FuncData,(∀ (s:Shared) (v:Value),BindsTo s fd ⟨[v],[]⟩ [("_law_script",v)])/\∀ base:Heap,K.In base->base.Ns mainGlobals mg->FnOk l.prog w K mg base CX0 4 fa fd ["_law_script"] (Bl K):=by
 have e:=hfa.symm.trans (W.mg_of X G a11)
 cases e
 have F0:=Ab (st:=A7) l0 c0 k0
 have b0:=F0.binds (ps:=["self","at"]) fun _ _ _ _ _ _=>L2.on2 (fun _ _=>rfl)
 have F1:=Ab (st:=A6) l1 c1 k1
 have b1:=F1.binds (ps:=["self","one","other"]) fun _ _ _ _ _ _=>L2.on3 (fun _ _ _=>rfl)
 have F2:=Ab (st:=A4) l2 c2 k2
 have b2:=F2.binds (ps:=["self","one","other"]) fun _ _ _ _ _ _=>L2.on3 (fun _ _ _=>rfl)
 have F3:=Ab (st:=A5) l3 c3 k3
 have b3:=F3.binds (ps:=["self","question"]) fun _ _ _ _ _ _=>L2.on2 (fun _ _=>rfl)
 have F4:=Ab (st:=BF) l4 c4 k4
 have b4:=F4.binds (ps:=["self","row"]) fun _ _ _ _ _ _=>L2.on2 (fun _ _=>rfl)
 have F5:=Ab (st:=BG) l5 c5 k5
 have b5:=F5.binds (ps:=["self","name"]) fun _ _ _ _ _ _=>L2.on2 (fun _ _=>rfl)
 have F6:=Ab (st:=BI) l6 c6 k6
 have b6:=F6.binds (ps:=["_law_script"]) fun _ _ _ _ _ _=>L2.on1 (fun _=>rfl)
 have F7:=Ab (st:=BO) l7 c7 k7
 have b7:=F7.binds (ps:=["_law_tape_here","_law_many"]) fun _ _ _ _ _ _=>L2.on2 (fun _ _=>rfl)
 have F8:=Ab (st:=BN) l8 c8 k8
 have b8:=F8.binds (ps:=["_law_k","_law_one","_law_other","_law_word"]) fun _ _ _ _ _ _=>L2.on4 (fun _ _ _ _=>rfl)
 have F9:=Ab (st:=A9) l9 c9 k9
 have b9:=F9.binds (ps:=["_law_k","_law_caught"]) fun _ _ _ _ _ _=>L2.on2 (fun _ _=>rfl)
 have F10:=Ab (st:=BK) l10 c10 k10
 have b10:=F10.binds (ps:=["_law_e"]) fun _ _ _ _ _ _=>L2.on1 (fun _=>rfl)
 have F11:=Ab (st:=Ai) l11 c11 k11
 have b11:=F11.binds (ps:=["_law_script"]) fun _ _ _ _ _ _=>L2.on1 (fun _=>rfl)
 let T:Txt K mg:={ C_Alike:=C_Alike,mC_Alike:=W.mg_of X G aC_Alike,C_FlipError:=C_FlipError,mC_FlipError:=W.mg_of X G aC_FlipError,C_NoEnd:=C_NoEnd,mC_NoEnd:=W.mg_of X G aC_NoEnd,C_NoName:=C_NoName,mC_NoName:=W.mg_of X G aC_NoName,C_NoRow:=C_NoRow,mC_NoRow:=W.mg_of X G aC_NoRow,C_NoTable:=C_NoTable,mC_NoTable:=W.mg_of X G aC_NoTable,C_NoText:=C_NoText,mC_NoText:=W.mg_of X G aC_NoText,C_NoThing:=C_NoThing,mC_NoThing:=W.mg_of X G aC_NoThing,xc_Alike:=⟨x1_Alike,x2_Alike,x3_Alike,x4_Alike,x5_Alike,x6_Alike,x7_Alike⟩,hd_Alike:=hd_Alike,na_Alike_one:=na_one_Alike,na_Alike_other:=na_other_Alike,xm_Alike_FlipError:=xm_Alike_FlipError,kk_Alike_Alike:=kk_Alike_Alike,kk_Alike_NoEnd:=kk_Alike_NoEnd,kk_Alike_NoName:=kk_Alike_NoName,kk_Alike_NoRow:=kk_Alike_NoRow,kk_Alike_NoTable:=kk_Alike_NoTable,kk_Alike_NoText:=kk_Alike_NoText,kk_Alike_NoThing:=kk_Alike_NoThing,kk_Alike_ValueError:=kk_Alike_ValueError,xc_NoEnd:=⟨x1_NoEnd,x2_NoEnd,x3_NoEnd,x4_NoEnd,x5_NoEnd,x6_NoEnd,x7_NoEnd⟩,hd_NoEnd:=hd_NoEnd,na_NoEnd_one:=na_one_NoEnd,na_NoEnd_other:=na_other_NoEnd,xm_NoEnd_FlipError:=xm_NoEnd_FlipError,kk_NoEnd_Alike:=kk_NoEnd_Alike,kk_NoEnd_NoEnd:=kk_NoEnd_NoEnd,kk_NoEnd_NoName:=kk_NoEnd_NoName,kk_NoEnd_NoRow:=kk_NoEnd_NoRow,kk_NoEnd_NoTable:=kk_NoEnd_NoTable,kk_NoEnd_NoText:=kk_NoEnd_NoText,kk_NoEnd_NoThing:=kk_NoEnd_NoThing,kk_NoEnd_ValueError:=kk_NoEnd_ValueError,xc_NoName:=⟨x1_NoName,x2_NoName,x3_NoName,x4_NoName,x5_NoName,x6_NoName,x7_NoName⟩,hd_NoName:=hd_NoName,na_NoName_name:=na_name_NoName,xm_NoName_FlipError:=xm_NoName_FlipError,kk_NoName_Alike:=kk_NoName_Alike,kk_NoName_NoEnd:=kk_NoName_NoEnd,kk_NoName_NoName:=kk_NoName_NoName,kk_NoName_NoRow:=kk_NoName_NoRow,kk_NoName_NoTable:=kk_NoName_NoTable,kk_NoName_NoText:=kk_NoName_NoText,kk_NoName_NoThing:=kk_NoName_NoThing,kk_NoName_ValueError:=kk_NoName_ValueError,xc_NoRow:=⟨x1_NoRow,x2_NoRow,x3_NoRow,x4_NoRow,x5_NoRow,x6_NoRow,x7_NoRow⟩,hd_NoRow:=hd_NoRow,na_NoRow_row:=na_row_NoRow,xm_NoRow_FlipError:=xm_NoRow_FlipError,kk_NoRow_Alike:=kk_NoRow_Alike,kk_NoRow_NoEnd:=kk_NoRow_NoEnd,kk_NoRow_NoName:=kk_NoRow_NoName,kk_NoRow_NoRow:=kk_NoRow_NoRow,kk_NoRow_NoTable:=kk_NoRow_NoTable,kk_NoRow_NoText:=kk_NoRow_NoText,kk_NoRow_NoThing:=kk_NoRow_NoThing,kk_NoRow_ValueError:=kk_NoRow_ValueError,xi_NoTable:=xi_NoTable,xc_NoTable:=⟨x1_NoTable,x2_NoTable,x3_NoTable,x4_NoTable,x5_NoTable,x6_NoTable,x7_NoTable⟩,xm_NoTable_FlipError:=xm_NoTable_FlipError,kk_NoTable_Alike:=kk_NoTable_Alike,kk_NoTable_NoEnd:=kk_NoTable_NoEnd,kk_NoTable_NoName:=kk_NoTable_NoName,kk_NoTable_NoRow:=kk_NoTable_NoRow,kk_NoTable_NoTable:=kk_NoTable_NoTable,kk_NoTable_NoText:=kk_NoTable_NoText,kk_NoTable_NoThing:=kk_NoTable_NoThing,kk_NoTable_ValueError:=kk_NoTable_ValueError,xc_NoText:=⟨x1_NoText,x2_NoText,x3_NoText,x4_NoText,x5_NoText,x6_NoText,x7_NoText⟩,hd_NoText:=hd_NoText,na_NoText_at:=na_at_NoText,xm_NoText_FlipError:=xm_NoText_FlipError,kk_NoText_Alike:=kk_NoText_Alike,kk_NoText_NoEnd:=kk_NoText_NoEnd,kk_NoText_NoName:=kk_NoText_NoName,kk_NoText_NoRow:=kk_NoText_NoRow,kk_NoText_NoTable:=kk_NoText_NoTable,kk_NoText_NoText:=kk_NoText_NoText,kk_NoText_NoThing:=kk_NoText_NoThing,kk_NoText_ValueError:=kk_NoText_ValueError,xc_NoThing:=⟨x1_NoThing,x2_NoThing,x3_NoThing,x4_NoThing,x5_NoThing,x6_NoThing,x7_NoThing⟩,hd_NoThing:=hd_NoThing,na_NoThing_question:=na_question_NoThing,xm_NoThing_FlipError:=xm_NoThing_FlipError,kk_NoThing_Alike:=kk_NoThing_Alike,kk_NoThing_NoEnd:=kk_NoThing_NoEnd,kk_NoThing_NoName:=kk_NoThing_NoName,kk_NoThing_NoRow:=kk_NoThing_NoRow,kk_NoThing_NoTable:=kk_NoThing_NoTable,kk_NoThing_NoText:=kk_NoThing_NoText,kk_NoThing_NoThing:=kk_NoThing_NoThing,kk_NoThing_ValueError:=kk_NoThing_ValueError,f_z9:=f0,d_z9:=_,F_z9:=F0,b_z9:=b0,me_z9:=⟨a0,i0,k0⟩,xI_NoText:=⟨xj_NoText,⟨x1_NoText,x2_NoText,x3_NoText,x4_NoText,x5_NoText,x6_NoText,x7_NoText⟩,xs_NoText,i0⟩,f_z12:=f1,d_z12:=_,F_z12:=F1,b_z12:=b1,me_z12:=⟨a1,i1,k1⟩,xI_Alike:=⟨xj_Alike,⟨x1_Alike,x2_Alike,x3_Alike,x4_Alike,x5_Alike,x6_Alike,x7_Alike⟩,xs_Alike,i1⟩,f_z11:=f2,d_z11:=_,F_z11:=F2,b_z11:=b2,me_z11:=⟨a2,i2,k2⟩,xI_NoEnd:=⟨xj_NoEnd,⟨x1_NoEnd,x2_NoEnd,x3_NoEnd,x4_NoEnd,x5_NoEnd,x6_NoEnd,x7_NoEnd⟩,xs_NoEnd,i2⟩,f_z0:=f3,d_z0:=_,F_z0:=F3,b_z0:=b3,me_z0:=⟨a3,i3,k3⟩,xI_NoThing:=⟨xj_NoThing,⟨x1_NoThing,x2_NoThing,x3_NoThing,x4_NoThing,x5_NoThing,x6_NoThing,x7_NoThing⟩,xs_NoThing,i3⟩,f_z10:=f4,d_z10:=_,F_z10:=F4,b_z10:=b4,me_z10:=⟨a4,i4,k4⟩,xI_NoRow:=⟨xj_NoRow,⟨x1_NoRow,x2_NoRow,x3_NoRow,x4_NoRow,x5_NoRow,x6_NoRow,x7_NoRow⟩,xs_NoRow,i4⟩,f_z8:=f5,d_z8:=_,F_z8:=F5,b_z8:=b5,me_z8:=⟨a5,i5,k5⟩,xI_NoName:=⟨xj_NoName,⟨x1_NoName,x2_NoName,x3_NoName,x4_NoName,x5_NoName,x6_NoName,x7_NoName⟩,xs_NoName,i5⟩,f_z16:=f6,d_z16:=_,F_z16:=F6,b_z16:=b6,m_z16:=W.mg_of X G a6,f_z17:=f7,d_z17:=_,F_z17:=F7,b_z17:=b7,m_z17:=W.mg_of X G a7,f_z14:=f8,d_z14:=_,F_z14:=F8,b_z14:=b8,m_z14:=W.mg_of X G a8,f_z13:=f9,d_z13:=_,F_z13:=F9,b_z13:=b9,m_z13:=W.mg_of X G a9,f_z15:=f10,d_z15:=_,F_z15:=F10,b_z15:=b10,m_z15:=W.mg_of X G a10,f_law:=fa,d_law:=_,F_law:=F11,b_law:=b11,m_law:=W.mg_of X G a11,z_ValueError:=W.mg_none_of X G z_ValueError,z_isinstance:=W.mg_none_of X G z_isinstance,z_len:=W.mg_none_of X G z_len,z_max:=W.mg_none_of X G z_max,z_range:=W.mg_none_of X G z_range }
 exact ⟨W.fnOf "law" "law" (AQ Ai) (AN Ai) (AF Ai) .none kV11 dc11 pm11 an11 cd11 ct11,fun s v=>.of_eq rfl,fun base _ _=>E7 T⟩
theorem walk {l:W.OpenLaw} {q:Program} {loose:List Str} {XP:(Str->Option Value)->Heap->Prop} {YP:World->Heap->Prop} {d:DefRec} {K:Params->W.Frag} (hn:l.most=some 63) (hdf:d.params.defaults=[])
 (hY:∀ (w:World) (h:Heap),YP w h->(K w.params).In h)
 (F:∀ (w:World) (mg:Str->Option Value) (fa:Addr) (h:Heap),(K w.params).In h->h.Ns mainGlobals mg->mg d.name=some (.ref fa) ->
   ∃ fd:FuncData,(∀ (s:Shared) (u:Value),BindsTo s fd ⟨[u],[]⟩ [("_law_script",u)])/\∀ base:Heap,(K w.params).In base->base.Ns mainGlobals mg->FnOk l.prog w (K w.params) mg base CX0 4 fa fd ["_law_script"] (Bl (K w.params))) :
 W.WalkO q loose XP YP l.row.toRowW d [] (fun f vs=>PySem.call f vs) :=
 L2.walk_of (n:=63) (k:=4) (x:="_law_script") (CX:=fun _=>CX0) (sp:=fun w=>Bl (K w.params)) hn (by decide) hdf ⟨rfl,by decide,by decide,rfl⟩ hY F (fun _ _ a ns hl _ hS=>⟨a,ns,rfl,hS,hl,fun _=>rfl⟩) fun _ _ _ _ _ z=>z
end Mine
theorem PySem.W.Fast.te12197819219349872769:True:=trivial
noncomputable def PySem.W.Fast.tw16777424386041295:PySem.Program:=PySem.Challenge.pw_flips_k16_refusals_apart
theorem PySem.W.Fast.te16777424386041295:PySem.Challenge.pw_flips_k16_refusals_apart=PySem.W.Fast.tw16777424386041295:=rfl
noncomputable def PySem.W.Fast.pickB:List Bool->List PySem.Stmt->List PySem.Stmt
 | [],_=>[]
 | b::k,l=>match b,l with
  | true,s::r=>s::PySem.W.Fast.pickB k r
  | false,_::r=>PySem.W.Fast.pickB k r
  | _,[]=>[]
noncomputable def PySem.W.Fast.tw13045812192796974588:PySem.Program:={ PySem.Challenge.pw_flips_k16_refusals_apart with main:={ (PySem.Challenge.pw_flips_k16_refusals_apart).main with body:=PySem.W.Fast.pickB [false,true,true,true,true,true,true,true,true,false,true,true,true,true,true,true] (PySem.Challenge.pw_flips_k16_refusals_apart).main.body } }
theorem PySem.W.Fast.te13045812192796974588:PySem.W.Fast.tw13045812192796974588=PySem.W.Fast.tw13045812192796974588:=rfl
noncomputable def PySem.W.Fast.tw3170137783040043773:List PySem.Stmt:=((PySem.Challenge.pw_flips_k16_refusals_apart).main.body.drop 3).take 1
theorem PySem.W.Fast.te3170137783040043773:PySem.W.Fast.tw3170137783040043773=PySem.W.Fast.tw3170137783040043773:=rfl
noncomputable def PySem.W.Fast.tw1915253073219560459:List PySem.Stmt:=((PySem.Challenge.pw_flips_k16_refusals_apart).main.body.drop 8).take 7
theorem PySem.W.Fast.te1915253073219560459:PySem.W.Fast.tw1915253073219560459=PySem.W.Fast.tw1915253073219560459:=rfl
noncomputable def PySem.W.Fast.tw16507003502467990073:List PySem.Stmt:=((PySem.Challenge.pw_flips_k16_refusals_apart).main.body.drop 6).take 1
theorem PySem.W.Fast.te16507003502467990073:PySem.W.Fast.tw16507003502467990073=PySem.W.Fast.tw16507003502467990073:=rfl
noncomputable def PySem.W.Fast.tw1242811440480056516:List PySem.Stmt:=((PySem.Challenge.pw_flips_k16_refusals_apart).main.body.drop 4).take 1
theorem PySem.W.Fast.te1242811440480056516:PySem.W.Fast.tw1242811440480056516=PySem.W.Fast.tw1242811440480056516:=rfl
noncomputable def PySem.W.Fast.tw10527820039771250751:List PySem.Stmt:=((PySem.Challenge.pw_flips_k16_refusals_apart).main.body.drop 7).take 1
theorem PySem.W.Fast.te10527820039771250751:PySem.W.Fast.tw10527820039771250751=PySem.W.Fast.tw10527820039771250751:=rfl
noncomputable def PySem.W.Fast.tw6741100176529634837:List PySem.Stmt:=((PySem.Challenge.pw_flips_k16_refusals_apart).main.body.drop 15).take 1
theorem PySem.W.Fast.te6741100176529634837:PySem.W.Fast.tw6741100176529634837=PySem.W.Fast.tw6741100176529634837:=rfl
noncomputable def PySem.W.Fast.tw911473423621711185:List PySem.Stmt:=((PySem.Challenge.pw_flips_k16_refusals_apart).main.body.drop 2).take 1
theorem PySem.W.Fast.te911473423621711185:PySem.W.Fast.tw911473423621711185=PySem.W.Fast.tw911473423621711185:=rfl
noncomputable def PySem.W.Fast.tw10948803212416455064:List PySem.Stmt:=((PySem.Challenge.pw_flips_k16_refusals_apart).main.body.drop 0).take 2
theorem PySem.W.Fast.te10948803212416455064:PySem.W.Fast.tw10948803212416455064=PySem.W.Fast.tw10948803212416455064:=rfl
noncomputable def PySem.W.Fast.tw2955067110285700289:List PySem.Stmt:=((PySem.Challenge.pw_flips_k16_refusals_apart).main.body.drop 5).take 1
theorem PySem.W.Fast.te2955067110285700289:PySem.W.Fast.tw2955067110285700289=PySem.W.Fast.tw2955067110285700289:=rfl
open PySem PySem.W PyProof.Rows
set_option maxRecDepth 100000 in
set_option maxHeartbeats 0 in
theorem PySem.Challenge.cw_flips_k16_refusals_apart_holds : PySem.Challenge.rw_flips_k16_refusals_apart.Holds := by
 w_on;o_law;k_head;(case hw=>w_witness2)
 k_fill
 refine Mine.walk (l:=PySem.Challenge.rw_flips_k16_refusals_apart) rfl rfl (fun w h Y=>PySem.W.kIn_of Y) ?F
 case F =>
  intro w mg fa h KX G hmg
  refine' Mine.all_mk KX G hmg ?aC_Alike ?aC_FlipError ?aC_NoEnd ?aC_NoName ?aC_NoRow ?aC_NoTable ?aC_NoText ?aC_NoThing ?x1_Alike ?x2_Alike ?x3_Alike ?x4_Alike ?x5_Alike ?x6_Alike ?x7_Alike ?xs_Alike ?hd_Alike ?na_one_Alike ?na_other_Alike ?xm_Alike_FlipError ?kk_Alike_Alike ?kk_Alike_NoEnd ?kk_Alike_NoName ?kk_Alike_NoRow ?kk_Alike_NoTable ?kk_Alike_NoText ?kk_Alike_NoThing ?kk_Alike_ValueError ?x1_NoEnd ?x2_NoEnd ?x3_NoEnd ?x4_NoEnd ?x5_NoEnd ?x6_NoEnd ?x7_NoEnd ?xs_NoEnd ?hd_NoEnd ?na_one_NoEnd ?na_other_NoEnd ?xm_NoEnd_FlipError ?kk_NoEnd_Alike ?kk_NoEnd_NoEnd ?kk_NoEnd_NoName ?kk_NoEnd_NoRow ?kk_NoEnd_NoTable ?kk_NoEnd_NoText ?kk_NoEnd_NoThing ?kk_NoEnd_ValueError ?x1_NoName ?x2_NoName ?x3_NoName ?x4_NoName ?x5_NoName ?x6_NoName ?x7_NoName ?xs_NoName ?hd_NoName ?na_name_NoName ?xm_NoName_FlipError ?kk_NoName_Alike ?kk_NoName_NoEnd ?kk_NoName_NoName ?kk_NoName_NoRow ?kk_NoName_NoTable ?kk_NoName_NoText ?kk_NoName_NoThing ?kk_NoName_ValueError ?x1_NoRow ?x2_NoRow ?x3_NoRow ?x4_NoRow ?x5_NoRow ?x6_NoRow ?x7_NoRow ?xs_NoRow ?hd_NoRow ?na_row_NoRow ?xm_NoRow_FlipError ?kk_NoRow_Alike ?kk_NoRow_NoEnd ?kk_NoRow_NoName ?kk_NoRow_NoRow ?kk_NoRow_NoTable ?kk_NoRow_NoText ?kk_NoRow_NoThing ?kk_NoRow_ValueError ?xi_NoTable ?x1_NoTable ?x2_NoTable ?x3_NoTable ?x4_NoTable ?x5_NoTable ?x6_NoTable ?x7_NoTable ?xm_NoTable_FlipError ?kk_NoTable_Alike ?kk_NoTable_NoEnd ?kk_NoTable_NoName ?kk_NoTable_NoRow ?kk_NoTable_NoTable ?kk_NoTable_NoText ?kk_NoTable_NoThing ?kk_NoTable_ValueError ?x1_NoText ?x2_NoText ?x3_NoText ?x4_NoText ?x5_NoText ?x6_NoText ?x7_NoText ?xs_NoText ?hd_NoText ?na_at_NoText ?xm_NoText_FlipError ?kk_NoText_Alike ?kk_NoText_NoEnd ?kk_NoText_NoName ?kk_NoText_NoRow ?kk_NoText_NoTable ?kk_NoText_NoText ?kk_NoText_NoThing ?kk_NoText_ValueError ?x1_NoThing ?x2_NoThing ?x3_NoThing ?x4_NoThing ?x5_NoThing ?x6_NoThing ?x7_NoThing ?xs_NoThing ?hd_NoThing ?na_question_NoThing ?xm_NoThing_FlipError ?kk_NoThing_Alike ?kk_NoThing_NoEnd ?kk_NoThing_NoName ?kk_NoThing_NoRow ?kk_NoThing_NoTable ?kk_NoThing_NoText ?kk_NoThing_NoThing ?kk_NoThing_ValueError ?a0 ?i0 ?l0 ?c0 ?k0 ?a1 ?i1 ?l1 ?c1 ?k1 ?a2 ?i2 ?l2 ?c2 ?k2 ?a3 ?i3 ?l3 ?c3 ?k3 ?a4 ?i4 ?l4 ?c4 ?k4 ?a5 ?i5 ?l5 ?c5 ?k5 ?a6 ?l6 ?c6 ?k6 ?a7 ?l7 ?c7 ?k7 ?a8 ?l8 ?c8 ?k8 ?a9 ?l9 ?c9 ?k9 ?a10 ?l10 ?c10 ?k10 ?a11 ?l11 ?c11 ?k11 ?z_ValueError ?z_isinstance ?z_len ?z_max ?z_range ?xj_NoText ?xj_Alike ?xj_NoEnd ?xj_NoThing ?xj_NoRow ?xj_NoName
  (case aC_Alike | aC_FlipError | aC_NoEnd | aC_NoName | aC_NoRow | aC_NoTable | aC_NoText | aC_NoThing | x1_Alike | x2_Alike | x3_Alike | x4_Alike | x5_Alike | x6_Alike | x7_Alike | xs_Alike | hd_Alike | na_one_Alike | na_other_Alike | x1_NoEnd | x2_NoEnd | x3_NoEnd | x4_NoEnd | x5_NoEnd | x6_NoEnd | x7_NoEnd | xs_NoEnd | hd_NoEnd | na_one_NoEnd | na_other_NoEnd | x1_NoName | x2_NoName | x3_NoName | x4_NoName | x5_NoName | x6_NoName | x7_NoName | xs_NoName | hd_NoName | na_name_NoName | x1_NoRow | x2_NoRow | x3_NoRow | x4_NoRow | x5_NoRow | x6_NoRow | x7_NoRow | xs_NoRow | hd_NoRow | na_row_NoRow | x1_NoTable | x2_NoTable | x3_NoTable | x4_NoTable | x5_NoTable | x6_NoTable | x7_NoTable | x1_NoText | x2_NoText | x3_NoText | x4_NoText | x5_NoText | x6_NoText | x7_NoText | xs_NoText | hd_NoText | na_at_NoText | x1_NoThing | x2_NoThing | x3_NoThing | x4_NoThing | x5_NoThing | x6_NoThing | x7_NoThing | xs_NoThing | hd_NoThing | na_question_NoThing | a0 | i0 | l0 | c0 | k0 | a1 | i1 | l1 | c1 | k1 | a2 | i2 | l2 | c2 | k2 | a3 | i3 | l3 | c3 | k3 | a4 | i4 | l4 | c4 | k4 | a5 | i5 | l5 | c5 | k5 | a6 | l6 | c6 | k6 | a7 | l7 | c7 | k7 | a8 | l8 | c8 | k8 | a9 | l9 | c9 | k9 | a10 | l10 | c10 | k10 | a11 | l11 | c11 | k11 | z_ValueError | z_isinstance | z_len | z_max | z_range=>k_is)
  (case xm_Alike_FlipError=>kts_exm)
  (case kk_Alike_Alike=>kit_is)
  (case kk_Alike_NoEnd=>kit_is)
  (case kk_Alike_NoName=>kit_is)
  (case kk_Alike_NoRow=>kit_is)
  (case kk_Alike_NoTable=>kit_is)
  (case kk_Alike_NoText=>kit_is)
  (case kk_Alike_NoThing=>kit_is)
  (case kk_Alike_ValueError=>kit_is)
  (case xm_NoEnd_FlipError=>kts_exm)
  (case kk_NoEnd_Alike=>kit_is)
  (case kk_NoEnd_NoEnd=>kit_is)
  (case kk_NoEnd_NoName=>kit_is)
  (case kk_NoEnd_NoRow=>kit_is)
  (case kk_NoEnd_NoTable=>kit_is)
  (case kk_NoEnd_NoText=>kit_is)
  (case kk_NoEnd_NoThing=>kit_is)
  (case kk_NoEnd_ValueError=>kit_is)
  (case xm_NoName_FlipError=>kts_exm)
  (case kk_NoName_Alike=>kit_is)
  (case kk_NoName_NoEnd=>kit_is)
  (case kk_NoName_NoName=>kit_is)
  (case kk_NoName_NoRow=>kit_is)
  (case kk_NoName_NoTable=>kit_is)
  (case kk_NoName_NoText=>kit_is)
  (case kk_NoName_NoThing=>kit_is)
  (case kk_NoName_ValueError=>kit_is)
  (case xm_NoRow_FlipError=>kts_exm)
  (case kk_NoRow_Alike=>kit_is)
  (case kk_NoRow_NoEnd=>kit_is)
  (case kk_NoRow_NoName=>kit_is)
  (case kk_NoRow_NoRow=>kit_is)
  (case kk_NoRow_NoTable=>kit_is)
  (case kk_NoRow_NoText=>kit_is)
  (case kk_NoRow_NoThing=>kit_is)
  (case kk_NoRow_ValueError=>kit_is)
  (case xi_NoTable=>k_exc)
  (case xm_NoTable_FlipError=>kts_exm)
  (case kk_NoTable_Alike=>kit_is)
  (case kk_NoTable_NoEnd=>kit_is)
  (case kk_NoTable_NoName=>kit_is)
  (case kk_NoTable_NoRow=>kit_is)
  (case kk_NoTable_NoTable=>kit_is)
  (case kk_NoTable_NoText=>kit_is)
  (case kk_NoTable_NoThing=>kit_is)
  (case kk_NoTable_ValueError=>kit_is)
  (case xm_NoText_FlipError=>kts_exm)
  (case kk_NoText_Alike=>kit_is)
  (case kk_NoText_NoEnd=>kit_is)
  (case kk_NoText_NoName=>kit_is)
  (case kk_NoText_NoRow=>kit_is)
  (case kk_NoText_NoTable=>kit_is)
  (case kk_NoText_NoText=>kit_is)
  (case kk_NoText_NoThing=>kit_is)
  (case kk_NoText_ValueError=>kit_is)
  (case xm_NoThing_FlipError=>kts_exm)
  (case kk_NoThing_Alike=>kit_is)
  (case kk_NoThing_NoEnd=>kit_is)
  (case kk_NoThing_NoName=>kit_is)
  (case kk_NoThing_NoRow=>kit_is)
  (case kk_NoThing_NoTable=>kit_is)
  (case kk_NoThing_NoText=>kit_is)
  (case kk_NoThing_NoThing=>kit_is)
  (case kk_NoThing_ValueError=>kit_is)
  (case xj_NoText=>kernel_rfl)
  (case xj_Alike=>kernel_rfl)
  (case xj_NoEnd=>kernel_rfl)
  (case xj_NoThing=>kernel_rfl)
  (case xj_NoRow=>kernel_rfl)
  (case xj_NoName=>kernel_rfl)
