import PyProof.Rows.All
import Wide.All
import OpenK.AllK
import Wide.FinOn
import Lean
import PyProof.EqAt
import PyProof.EqKinds
import PyProof.TupleCall
import PyProof.NeKinds
import PyProof.ReprRoads
import PyProof.ReprBulk
import PyProof.Draws
import PyProof.EnumMake
import KE.BitLaws
import PyProof.ListIndex
import PyProof.AttrMissHeap
import PyProof.DictUpdate
import KE.KDictOf
import PyProof.FactsAll.enumerate_1
import PyProof.FactsAll.tuple_2
import PyProof.ListMulRoad
import PyProof.ListRange
import PyProof.FactsAll.list_3
import PyProof.Rows.SortWalk
import PyProof.Rows.MinMaxN
import KE.KEqDict
import KE.KDictSum
import PyProof.WalksMore
import PyProof.Rows.SetFrom
import PyProof.SetRoads
import PyProof.FactsAll.set_1
import KE.KItemsList
import KE.KSortTup
import KE.KLam
import PyProof.FactsAll.dict_1
import PyProof.StrBlockH
import PyProof.StrLawsTight
import PyProof.StrLawsOccR
import PyProof.StrLawsJoin
import PyProof.StationsW
import PyProof.NsDelKeeps
import PyProof.RulesAs
import PyProof.ExcInit
import KE.KTryMore
import PyProof.ExcClass3
import PyProof.ExcBaseAll.ValueError
import OpenK.KOwn
import PyProof.ExcArgsOwn
import PyProof.InstStoreFacts
import PyProof.FactsAll.tuple_2
import PyProof.FactsAll.tuple_3
import PyProof.TupleOfStr
import PySem.Challenge.RW_flips_k39_games_of_classes
set_option Elab.async false
set_option linter.all false
set_option genInjectivity false
set_option genSizeOf false
set_option compiler.extract_closed false
set_option bootstrap.genMatcherCode false
set_option maxRecDepth 100000
set_option maxHeartbeats 0
-- CHANGE: your row's module here,as the last of these rows
namespace L2
open PySem PySem.Spec PyProof.Rows
noncomputable abbrev Key:=Sum Int Str
noncomputable def G4:Key->Value->Bool
 | .inl k,v=>Value.isInt k v
 | .inr x,v=>Value.isStrOf x v
noncomputable def MR (w:World):Key->Int
 | .inl k=>hashInt k
 | .inr x=>hashStr w x
theorem keyIs_shape:∀ {k:Key} {v:Value},G4 k v=true->(∃ i t,k=Sum.inl i/\v=Value.int i t)\/(∃ x t,k=Sum.inr x/\v=Value.str x t)
 | .inl i,v,h=>by
  obtain ⟨t,e⟩:=Value.isInt_shape (k:=i) (v:=v) h
  exact .inl ⟨i,t,rfl,e⟩
 | .inr x,v,h=>by
  obtain ⟨t,e⟩:=Value.isStrOf_shape (x:=x) (v:=v) h
  exact .inr ⟨x,t,rfl,e⟩
theorem Jb (a b:Int):decide ((Sum.inl a:Key)=Sum.inl b)=(a == b):=by
 by_cases e:a=b
 ·subst e;simp
 ·have h:¬ (Sum.inl a:Key)=Sum.inl b:=fun q=>e (Sum.inl.inj q)
  rw [decide_eq_false h]
  exact (beq_eq_false_iff_ne.mpr e).symm
theorem IK (a b:Str):decide ((Sum.inr a:Key)=Sum.inr b)=decide (a=b):=by
 by_cases e:a=b
 ·subst e;simp
 ·have h:¬ (Sum.inr a:Key)=Sum.inr b:=fun q=>e (Sum.inr.inj q)
  rw [decide_eq_false h,decide_eq_false e]
theorem Ke (a:Int) (b:Str):decide ((Sum.inl a:Key)=Sum.inr b)=false:=decide_eq_false (fun q=>nomatch q)
theorem IC (a:Str) (b:Int):decide ((Sum.inr a:Key)=Sum.inl b)=false:=decide_eq_false (fun q=>nomatch q)
noncomputable def E5 (prog:Program) (w:World):PySem.KeyKind prog w Key where
 is:=G4
 hash:=MR w
 inj:=fun v a b ha hb=>by
  rcases keyIs_shape ha with ⟨i,t,rfl,rfl⟩ | ⟨x,t,rfl,rfl⟩
  ·rcases keyIs_shape hb with ⟨j,u,rfl,e⟩ | ⟨y,u,rfl,e⟩
   ·injection e with e1 _;rw [e1]
   ·exact nomatch e
  ·rcases keyIs_shape hb with ⟨j,u,rfl,e⟩ | ⟨y,u,rfl,e⟩
   ·exact nomatch e
   ·injection e with e1 _;rw [e1]
 byValue:=fun k v h=>by
  rcases keyIs_shape h with ⟨i,t,rfl,rfl⟩ | ⟨x,t,rfl,rfl⟩ <;> rfl
 pyHash:=fun hv h=>by
  rcases keyIs_shape hv with ⟨i,t,rfl,rfl⟩ | ⟨x,t,rfl,rfl⟩
  ·exact wpAny_pyHash_int h
  ·exact wpAny_pyHash_str h
 eqBool:=fun hu hv h=>by
  rcases keyIs_shape hu with ⟨i,t,rfl,rfl⟩ | ⟨x,t,rfl,rfl⟩
  ·rcases keyIs_shape hv with ⟨j,u,rfl,rfl⟩ | ⟨y,u,rfl,rfl⟩
   ·rw [Jb] at h;exact wpAny_eqBool_int h
   ·rw [Ke] at h;exact SeqAt.EqAt.int_str i t y u _ _ _ _ h
  ·rcases keyIs_shape hv with ⟨j,u,rfl,rfl⟩ | ⟨y,u,rfl,rfl⟩
   ·rw [IC] at h;exact SeqAt.EqAt.str_int x t j u _ _ _ _ h
   ·rw [IK] at h;exact wpAny_eqBool_str h
 «strs»:=fun k x t v h=>by
  rcases keyIs_shape h with ⟨i,u,rfl,e⟩ | ⟨y,u,rfl,e⟩
  ·exact nomatch e
  ·injection e with e1 _
   subst e1
   cases v <;> rfl
inductive V where
 | non | bl (b:Bool) | int (i:Int) | str (x:Str) | byt (b:Array UInt8) | flt (b:UInt64) | ref (a:Addr) | ty (n:String)
 deriving DecidableEq
noncomputable def RelV:V->Value->Prop
 | .non,u=>u=Value.none
 | .bl b,u=>u=Value.bool b
 | .int i,u=>∃ t,u=Value.int i t
 | .str x,u=>∃ t,u=Value.str x t
 | .byt b,u=>∃ t,u=Value.bytes b t
 | .flt b,u=>∃ t,u=Value.float b t
 | .ref a,u=>u=Value.ref a
 | .ty n,u=>u=Value.type n
noncomputable abbrev Vals:List V->List Value->Prop:=Paired RelV
theorem Vals.length {xs:List V} {us:List Value} (r:Vals xs us):xs.length=us.length:=Paired.length r
theorem Vals.get:∀ {xs:List V} {us:List Value} {i:Nat} {x:V},Vals xs us->xs[i]? = some x->∃ u,us[i]? = some u/\RelV x u
 | _,_,_,_,.nil,e=>by simp at e
 | _,_,0,_,.cons r _,e=>by simp at e;subst e;exact ⟨_,rfl,r⟩
 | _,_,i+1,x,.cons _ t,e=>by
  obtain ⟨u,h1,h2⟩:=Vals.get (i:=i) (x:=x) t (by simpa using e)
  exact ⟨u,by simpa using h1,h2⟩
theorem Vals.set {x:V} {u:Value} (r:RelV x u):∀ {xs:List V} {us:List Value} (i:Nat),Vals xs us->Vals (xs.set i x) (us.set i u)
 | _,_,_,.nil=>.nil
 | _,_,0,.cons _ t=>.cons r t
 | _,_,i+1,.cons q t=>.cons q (Vals.set r i t)
theorem Vals.append:∀ {xs ys:List V} {us ws:List Value},Vals xs us->Vals ys ws->Vals (xs++ys) (us++ws)
 | _,_,_,_,.nil,s=>s
 | _,_,_,_,.cons r t,s=>.cons r (Vals.append t s)
theorem Vals.take:∀ {xs:List V} {us:List Value} (n:Nat),Vals xs us->Vals (xs.take n) (us.take n)
 | _,_,0,_=>.nil
 | _,_,_+1,.nil=>.nil
 | _,_,n+1,.cons r t=>.cons r (Vals.take n t)
theorem Vals.drop:∀ {xs:List V} {us:List Value} (n:Nat),Vals xs us->Vals (xs.drop n) (us.drop n)
 | _,_,0,r=>r
 | _,_,_+1,.nil=>.nil
 | _,_,n+1,.cons _ t=>Vals.drop n t
noncomputable def RelO:Option V->Option Value->Prop
 | some v,some u=>RelV v u
 | none,none=>True
 | _,_=>False
noncomputable def KV {κ:Type}:List (κ × V)->List (κ × Value)->Prop:=Paired fun (p:κ × V) (q:κ × Value)=>p.1=q.1/\RelV p.2 q.2
noncomputable def kV:Key->V
 | .inl i=>.int i
 | .inr x=>.str x
inductive HO where
 | lst (xs:List V)
 | tup (xs:List V)
 | dK (kvs:List (Key × V)) | dT (kvs:List (List Key × V))
 | set (S:Int->Bool) (n:Nat)
 | ins (C dx:Addr) (fs:List (Str × V))
 | own (x:Addr)
 | xd (fs:List (Str × V))
 | met (f x:Addr)
 | rng (lo hi:Int)
 | frz (o:Obj) (u:HO)
 | tbl (ps:Array Value)
 | ext (φ:Heap->Prop)
noncomputable abbrev Hp:=Addr->Option HO
noncomputable def upd (H:Hp) (a:Addr) (o:HO):Hp:=fun b=>if b=a then some o else H b
theorem AE {H:Hp} {a:Addr} {o:HO}:upd H a o a=some o:=by unfold upd;rw [if_pos rfl]
theorem AD {H:Hp} {a b:Addr} {o:HO} (h:b≠a):upd H a o b=H b:=by unfold upd;rw [if_neg h]
theorem BW {H:Hp} {a b:Addr} {o:HO} (h:H a=some o) (h':H b=none):a≠b:=by
 intro e;subst e;rw [h] at h';cases h'
noncomputable def IsTupN (h:Heap) (a:Addr) (items:Array Value):Prop:=∃ o,h.get? a=some o/\o.cls=.type "tuple" /\ (∃ n,o.data=.seq items n)/\o.dict=none
theorem IsTupN.tup {h:Heap} {a:Addr} {items:Array Value} (x:IsTupN h a items):PyProof.Rows.IsTup h a items:=by
 obtain ⟨o,e,c,d,_⟩:=x
 exact ⟨o,e,c,d⟩
theorem IsTupN.new (h:Heap) (items:Array Value):IsTupN (h.push { cls:=.type "tuple",data:=.seq items }) h.objs.size items:=⟨_,Heap.get?_push_size _ rfl,rfl,⟨_,rfl⟩,rfl⟩
section
variable (P:Program) (w:World)
noncomputable def ObjOk (H:Hp) (h:Heap) (a:Addr):HO->Prop
 | .lst xs=>xs.length<=sizeLine/\∃ (its:List Value) (n:Nat),Vals xs its/\h.get? a=some { cls:=.type "list",data:=.seq its.toArray n }
 | .tup xs=>xs.length<=sizeLine/\∃ its:List Value,Vals xs its/\IsTupN h a its.toArray
 | .dK kvs=>kvs.length<=sizeLine/\(a == sysModules)=false/\∃ vs,KV kvs vs/\h.DictOf (E5 P w) a vs
 | .dT kvs=>kvs.length<=sizeLine/\(a == sysModules)=false/\∃ xs:List (List Key × Addr × Value),
  Paired (fun (p:List Key × V) (q:List Key × Addr × Value)=>p.1=q.1/\H q.2.1=some (.tup (p.1.map kV))/\RelV p.2 q.2.2) kvs xs /\
  ∃ o es ep,h.get? a=some o/\o.ExactDict/\o.data=.dict es ep/\es.toList=xs.map (entryOfKey (tupleKind (E5 P w)))/\(xs.map (·.1)).Nodup
 | .set S n=>h.SetOf (intKind P w) a S n
 | .ins C dx fs=>H dx=some (.own a)/\fs.length<=1000/\dx≠a/\h.get? a=some (PySem.W.instObj C dx) /\
  ∃ mA,h.Ns1 dx mA/\(∀ f,RelO (fs.lookup f) (mA f))/\PySem.Within mA (fs.map (·.1))
 | .own _=>∃ o,h.get? a=some o
 | .xd fs=>∃ mA,h.Ns1 a mA/\∀ f,RelO (fs.lookup f) (mA f)
 | .rng lo hi=>∃ t u v,h.get? a=some { cls:=.type "range",data:=.fields #[.int lo t,.int hi u,.int 1 v] }
 | .frz o u=>h.get? a=some o/\ObjOk H h a u
 | .tbl ps=>h.get? a=some { cls:=.none,data:=.fields ps }
 | .met f x=>h.get? a=some (PySem.W.methodObj (.ref f) (.ref x))
 | .ext φ=>φ h/\(∃ o,h.get? a=some o)/\∀ h1 h2:Heap,φ h1->(∀ o,h1.get? a=some o->h2.get? a=some o)->φ h2
noncomputable def HOk (H:Hp) (h:Heap):Prop:=∀ a o,H a=some o->ObjOk P w H h a o
end
section
variable {P:Program} {w:World} {H H':Hp} {h h':Heap} {a:Addr} {o:HO}
theorem ObjOk.lt (x:ObjOk P w H h a o):a < h.objs.size:=by
 cases o with
 | lst xs=>obtain ⟨_,_,_,_,e⟩:=x;exact Heap.lt_size e
 | tup xs=>obtain ⟨_,_,_,p⟩:=x;exact p.tup.lt
 | dK kvs=>obtain ⟨_,_,_,_,o,_,_,e,_⟩:=x;exact Heap.lt_size e
 | dT kvs=>obtain ⟨_,_,_,_,o,_,_,e,_⟩:=x;exact Heap.lt_size e
 | set S n=>obtain ⟨o,_,_,_,e,_⟩:=x;exact Heap.lt_size e
 | ins C dx fs=>obtain ⟨_,_,_,e,_⟩:=x;exact Heap.lt_size e
 | own y=>obtain ⟨_,e⟩:=x;exact Heap.lt_size e
 | xd fs=>obtain ⟨_,⟨_,_,_,e,_⟩,_⟩:=x;exact Heap.lt_size e
 | rng lo hi=>obtain ⟨_,_,_,e⟩:=x;exact Heap.lt_size e
 | frz ob u=>obtain ⟨e,_⟩:=x;exact Heap.lt_size e
 | tbl ps=>exact Heap.lt_size (show h.get? a=some _ from x)
 | met f y=>exact Heap.lt_size (show h.get? a=some _ from x)
 | ext φ=>obtain ⟨_,⟨_,e⟩,_⟩:=x;exact Heap.lt_size e
theorem Paired.mapP {α β:Type} {F G:α->β->Prop}:∀ {l₁:List α} {l₂:List β},Paired F l₁ l₂->(∀ a b,F a b->G a b)->Paired G l₁ l₂
 | _,_,.nil,_=>.nil
 | _,_,.cons r t,f=>.cons (f _ _ r) (Paired.mapP t f)
theorem ObjOk.stay (x:ObjOk P w H h a o) (k:∀ b u,(b=a\/H b=some (.own a))->h.get? b=some u->h'.get? b=some u)
 (ho:∀ b,H b=some (.own a)->H' b=some (.own a)) (ht:∀ b xs,H b=some (.tup xs)->H' b=some (.tup xs)):ObjOk P w H' h' a o:=by
 induction o with
 | lst xs=>obtain ⟨z,its,n,r,e⟩:=x;exact ⟨z,its,n,r,k _ _ (.inl rfl) e⟩
 | tup xs=>obtain ⟨z,its,r,ob,e,c⟩:=x;exact ⟨z,its,r,ob,k _ _ (.inl rfl) e,c⟩
 | dK kvs=>obtain ⟨z,y,vs,r,ob,es,ep,e,c⟩:=x;exact ⟨z,y,vs,r,ob,es,ep,k _ _ (.inl rfl) e,c⟩
 | dT kvs =>
  obtain ⟨z,y,xs,r,ob,es,ep,e,c⟩:=x
  exact ⟨z,y,xs,Paired.mapP r fun p q z=>⟨z.1,ht _ _ z.2.1,z.2.2⟩,ob,es,ep,k _ _ (.inl rfl) e,c⟩
 | set S n=>obtain ⟨ob,es,ep,t,e,c⟩:=x;exact ⟨ob,es,ep,t,k _ _ (.inl rfl) e,c⟩
 | ins C dx fs =>
  obtain ⟨d,z,ne,e,mA,⟨od,es,ep,e2,c⟩,r⟩:=x
  exact ⟨ho _ d,z,ne,k _ _ (.inl rfl) e,mA,⟨od,es,ep,k _ _ (.inr d) e2,c⟩,r⟩
 | own y=>obtain ⟨ob,e⟩:=x;exact ⟨ob,k _ _ (.inl rfl) e⟩
 | xd fs=>obtain ⟨mA,⟨od,es,ep,e,c⟩,r⟩:=x;exact ⟨mA,⟨od,es,ep,k _ _ (.inl rfl) e,c⟩,r⟩
 | rng lo hi=>obtain ⟨t,u,v,e⟩:=x;exact ⟨t,u,v,k _ _ (.inl rfl) e⟩
 | frz ob u ih=>obtain ⟨e,q⟩:=x;exact ⟨k _ _ (.inl rfl) e,ih q⟩
 | tbl ps =>
  have e:h.get? a=some { cls:=.none,data:=.fields ps }:=x
  show h'.get? a=some { cls:=.none,data:=.fields ps }
  exact k a _ (.inl rfl) e
 | met f y =>
  have e:h.get? a=some (PySem.W.methodObj (.ref f) (.ref y)):=x
  show h'.get? a=some (PySem.W.methodObj (.ref f) (.ref y))
  exact k a _ (.inl rfl) e
 | ext φ=>obtain ⟨p,⟨o,e⟩,st⟩:=x;exact ⟨st _ _ p fun o q=>k _ _ (.inl rfl) q,⟨o,k _ _ (.inl rfl) e⟩,st⟩
theorem HOk.lt (x:HOk P w H h) (e:H a=some o):a < h.objs.size:=(x a o e).lt
theorem HOk.fresh (x:HOk P w H h) (e:h.objs.size<=a):H a=none:=by
 cases q:H a with
 | none=>rfl
 | some u=>exact absurd (Nat.lt_of_lt_of_le (x.lt q) e) (Nat.lt_irrefl _)
theorem HOk.kept (x:HOk P w H h) (k:∀ b u,h.get? b=some u->h'.get? b=some u):HOk P w H h':=fun a o e =>
 (x a o e).stay (fun b u _ q=>k b u q) (fun _ q=>q) fun _ _ q=>q
theorem HOk.laid (x:HOk P w H h) (k:∀ b u,h.get? b=some u->h'.get? b=some u) (hp:h.objs.size<=a) (new:ObjOk P w (upd H a o) h' a o):HOk P w (upd H a o) h':=fun b u e=>by
 have hn:=x.fresh hp
 by_cases hb:b=a
 ·subst hb;rw [AE] at e;cases e;exact new
 ·rw [AD hb] at e
  exact (x b u e).stay (fun c v _ q=>k c v q) (fun c q=>by rw [AD (BW q hn)];exact q) fun c xs q=>by rw [AD (BW q hn)];exact q
end
noncomputable def Rd (H:Hp) (a:Addr) (u:HO):Prop:=H a=some u\/∃ o,H a=some (.frz o u)
theorem Rd.of {H:Hp} {a:Addr} {u:HO} (h:H a=some u):Rd H a u:=.inl h
theorem Rd.ok {P:Program} {w:World} {H:Hp} {h:Heap} {a:Addr} {u:HO} (r:Rd H a u) (x:HOk P w H h):ObjOk P w H h a u:=by
 rcases r with r | ⟨o,r⟩
 ·exact x a u r
 ·obtain ⟨_,q⟩:=x a _ r
  exact q
noncomputable def Mut:Option HO->Prop
 | some (.lst _)=>True
 | some (.dK _)=>True
 | some (.dT _)=>True
 | some (.set _ _)=>True
 | some (.ins _ _ _)=>True
 | some (.ext _)=>True
 | _=>False
section
variable {P:Program} {w:World} {H:Hp} {h h':Heap} {x e:Addr} {o':HO}
theorem HOk.write (ok:HOk P w H h) (mu:Mut (H x)) (he:e=x\/H e=some (.own x)) (k:∀ b u,b≠e->h.get? b=some u->h'.get? b=some u) (heo:∃ u,h'.get? e=some u)
 (new:ObjOk P w (upd H x o') h' x o'):HOk P w (upd H x o') h':=fun b u q=>by
 have nown:∀ c y,H c=some (.own y)->c≠x:=fun c y r z=>by subst z;rw [r] at mu;exact mu
 have ntup:∀ c xs,H c=some (.tup xs)->c≠x:=fun c xs r z=>by subst z;rw [r] at mu;exact mu
 by_cases hb:b=x
 ·subst hb;rw [AE] at q;cases q;exact new
 ·rw [AD hb] at q
  by_cases hbe:b=e
  ·have q':H b=some (.own x):=by
    rcases he with z | z
    ·exact absurd (hbe.trans z) hb
    ·rw [hbe];exact z
   rw [q] at q';cases q'
   obtain ⟨v,hv⟩:=heo
   exact ⟨v,by rw [hbe];exact hv⟩
  ·refine (ok b u q).stay (fun c v hc r=>k c v ?_ r) (fun c r=>by rw [AD (nown c b r)];exact r) fun c xs r=>by rw [AD (ntup c xs r)];exact r
   rcases hc with rfl | hc
   ·exact hbe
   ·rintro rfl
    rcases he with z | z
    ·exact nown c b hc z
    ·rw [hc] at z;cases z;exact hb rfl
end
structure Un (fs ex:List Addr) (H H':Hp) (h h':Heap):Prop where
 keep:∀ b o,h.get? b=some o->H b=none->b∉fs->b∉ex->h'.get? b=some o
 slot:∀ b o,h.get? b=some o->H b=none->b∈fs->b∉ex->∃ sl,h'.get? b=some { o with slots:=sl }
 free:∀ b o,h.get? b=some o->H b=none->b∉ex->H' b=none
 there:∀ b o,h.get? b=some o->b∉ex->∃ o',h'.get? b=some o'
 tups:∀ b xs,H b=some (.tup xs)->H' b=some (.tup xs)
 frzs:∀ b o u,H b=some (.frz o u)->H' b=some (.frz o u)
 tbls:∀ b ps,H b=some (.tbl ps)->∃ more,H' b=some (.tbl (ps++more))
section
variable {fs fs' ex ex':List Addr} {H H1 H2:Hp} {h h1 h2 h':Heap} {a x e:Addr} {o:HO}
theorem Un.any (u:Un fs ex H H1 h h1) {b:Addr} {ob:Obj} (q:h.get? b=some ob) (n:H b=none) (hx:b∉ex):∃ sl,h1.get? b=some { ob with slots:=sl }:=by
 by_cases hb:b∈fs
 ·exact u.slot b ob q n hb hx
 ·exact ⟨ob.slots,u.keep b ob q n hb hx⟩
theorem Un.trans (a:Un fs ex H H1 h h1) (b:Un fs ex H1 H2 h1 h2):Un fs ex H H2 h h2 where
 keep:=fun c ob q n hc hx=>b.keep c ob (a.keep c ob q n hc hx) (a.free c ob q n hx) hc hx
 slot:=fun c ob q n hc hx=>by
  obtain ⟨sl,e1⟩:=a.slot c ob q n hc hx
  obtain ⟨sl',e2⟩:=b.slot c _ e1 (a.free c ob q n hx) hc hx
  exact ⟨sl',e2⟩
 free:=fun c ob q n hx=>by
  obtain ⟨o',e1⟩:=a.there c ob q hx
  exact b.free c o' e1 (a.free c ob q n hx) hx
 there:=fun c ob q hx=>by
  obtain ⟨o',e1⟩:=a.there c ob q hx
  exact b.there c o' e1 hx
 tups:=fun c xs q=>b.tups c xs (a.tups c xs q)
 frzs:=fun c ob xs q=>b.frzs c ob xs (a.frzs c ob xs q)
 tbls:=fun c ps q=>by
  obtain ⟨m1,e1⟩:=a.tbls c ps q
  obtain ⟨m2,e2⟩:=b.tbls c _ e1
  exact ⟨m1++m2,by rw [e2,Array.append_assoc]⟩
theorem Un.kept (k:∀ b u,h.get? b=some u->h'.get? b=some u):Un fs ex H H h h' :=
 ⟨fun b ob q _ _ _=>k b ob q,fun b ob q _ _ _=>⟨ob.slots,k b ob q⟩,fun _ _ _ n _=>n,fun b ob q _=>⟨ob,k b ob q⟩,fun _ _ q=>q,fun _ _ _ q=>q,fun _ ps q=>⟨#[],by rw [q];simp⟩⟩
theorem Un.refl:Un fs ex H H h h:=Un.kept fun _ _ q=>q
theorem Un.laid (k:∀ b u,h.get? b=some u->h'.get? b=some u) (hp:h.objs.size<=a) (hn:H a=none):Un fs ex H (upd H a o) h h' where
 keep:=fun b u q _ _ _=>k b u q
 slot:=fun b u q _ _ _=>⟨u.slots,k b u q⟩
 free:=fun b u q n _=>by rw [AD (Nat.ne_of_lt (Nat.lt_of_lt_of_le (Heap.lt_size q) hp))];exact n
 there:=fun b u q _=>⟨u,k b u q⟩
 tups:=fun b xs q=>by rw [AD (BW q hn)];exact q
 frzs:=fun b u xs q=>by rw [AD (BW q hn)];exact q
 tbls:=fun b ps q=>⟨#[],by rw [AD (BW q hn),q];simp⟩
theorem Un.write (mu:Mut (H x)) (he:e=x\/H e=some (.own x)) (k:∀ b u,b≠e->h.get? b=some u->h'.get? b=some u) (heo:∃ u,h'.get? e=some u):Un fs ex H (upd H x o) h h':=by
 have hx:∀ b,H b=none->b≠x:=fun b n z=>by subst z;rw [n] at mu;exact mu
 have hb:∀ b,H b=none->b≠e:=fun b n z=>by
  subst z
  rcases he with r | r
  ·exact hx b n r
  ·rw [n] at r;cases r
 have hm:∀ b u,H b=some u->¬ Mut (some u)->b≠x:=fun b u q nm z=>by subst z;rw [q] at mu;exact nm mu
 refine ⟨fun b u q n _ _=>k b u (hb b n) q,fun b u q n _ _=>⟨u.slots,k b u (hb b n) q⟩,fun b u q n _=>by rw [AD (hx b n)];exact n,fun b u q _=>?_,
  fun b xs q=>by rw [AD (hm b _ q fun z=>z)];exact q,fun b u xs q=>by rw [AD (hm b _ q fun z=>z)];exact q,fun b ps q=>⟨#[],by rw [AD (hm b _ q fun z=>z),q];simp⟩⟩
 by_cases hbe:b=e
 ·subst hbe;exact heo
 ·exact ⟨u,k b u hbe q⟩
end
noncomputable def trk (h:Heap) (H:Hp):List Addr:=(List.range h.objs.size).filter fun a=>(H a).isSome
noncomputable def BN (h:Heap) (H:Hp):Heap:=PySem.W.hideAll h (trk h H)
theorem Lp (h:Heap) (H:Hp):(BN h H).objs.size=h.objs.size:=PySem.W.hideAll_size _ _
theorem K3 {h:Heap} {H:Hp} {b:Addr} {o:Obj} (e:h.get? b=some o) (n:H b=none):(BN h H).get? b=some o :=
 PySem.W.hideAll_get _ e fun hm=>by
  have q:(H b).isSome=true:=(List.mem_filter.mp hm).2
  rw [n] at q;simp at q
theorem IT {h:Heap} {H:Hp} {b:Addr} {o:Obj} (e:(BN h H).get? b=some o):h.get? b=some o/\H b=none:=by
 have e':h.get? b=some o:=PySem.W.of_hideAll (trk h H) e
 refine ⟨e',?_⟩
 cases q:H b with
 | none=>rfl
 | some x =>
  have hm:b∈trk h H:=List.mem_filter.mpr ⟨List.mem_range.mpr (Heap.lt_size e'),by simp [q]⟩
  have z:(BN h H).get? b=none:=PySem.W.hideAll_none (trk h H) hm
  rw [z] at e;cases e
noncomputable def LZ (g h:Heap) (L:Addr):List (Addr × Obj):=(List.range h.objs.size).filterMap fun a=>if a=L\/(g.get? a).isSome=true then none else (h.get? a).map fun o=>(a,o)
noncomputable def rest (g h:Heap) (L d:Addr):List (Addr × Obj):=(LZ g h L).filter fun p=>decide (p.1≠d)
structure Mod (K:W.Frag) (mg:Str->Option Value) (base:Heap):Prop where
 kin:K.In base
 glob:base.Ns mainGlobals mg
 blt:∃ mb,base.Ns builtinsNs mb/\∀ x:Str,x ≠ "__name__" -> mb x=bootBuiltins x
 nolimit:base.NoLimit
structure Cx where
 prog:Program
 w:World
 K:W.Frag
 mg:Str->Option Value
 base:Heap
 A:Around
 N:List Str
 s₀:Shared
 H₀:Hp
 env:Env
 outer:List Env
 stack:List Env
 ex:List Addr
 fn:Str->Bool
 calm:Bool
 pn:List (Addr × Obj)
 xe:Value->Shared->Prop
noncomputable def frs (l:List Env):List Addr:=l.filterMap (·.frame)
noncomputable abbrev Cx.fs (X:Cx):List Addr:=frs X.outer
noncomputable def Vis (sc:Scope) (x:Str):Prop:=sc.names.lookup x=some .local\/sc.names.lookup x=some .cell\/sc.names.lookup x=some .free
noncomputable def Loc (sc:Scope) (x:Str):Prop:=sc.names.lookup x=some .local\/sc.names.lookup x=some .cell
noncomputable def Jr (env:Env) (h:Heap) (m:Str->Option Value) (x:Str) (u:Value):Prop :=
 (env.kindOf x=some .local/\m x=some u)\/((env.kindOf x=some .cell\/env.kindOf x=some .free)/\∃ c,env.cells.lookup x=some c/\h.IsCell c (some u))
structure Cx.Ok (X:Cx):Prop where
 mod:Mod X.K X.mg X.base
 kind:X.env.scope.kind=.function
 glob:X.env.globals=mainGlobals
 blt:X.env.builtins=builtinsNs
 above:X.s₀.heap.objs.size<=X.env.locals
 inj:∀ x y c,X.env.cells.lookup x=some c->X.env.cells.lookup y=some c->x=y
 has:∀ x,(X.env.kindOf x=some .cell\/X.env.kindOf x=some .free)->∃ c,X.env.cells.lookup x=some c
 cab:∀ x c,X.fn x=true->X.env.cells.lookup x=some c->X.s₀.heap.objs.size<=c
 hd:X.calm=true->X.A.handled=none
 frames:X.A.frames=some X.stack
 stk:X.stack=X.outer\/(X.stack=X.env::X.outer/\X.env.frame=some X.env.locals)
 exf:∀ b∈X.ex,b≠X.env.locals/\∀ x c,X.env.cells.lookup x=some c->c≠b
 bs:∀ b o,X.base.get? b=some o->X.s₀.heap.get? b=some o/\X.H₀ b=none
 bsz:X.base.objs.size<=X.s₀.heap.objs.size
 noex:∀ b o,X.base.get? b=some o->b∉X.ex
 exfs:∀ b∈X.ex,b∉X.fs
 funs:X.s₀.heap.FunFrames X.base X.outer
 frf:∀ b∈X.fs,X.H₀ b=none
structure Inv (X:Cx) (pins:List (Addr × Obj)) (σ:List (Option V)) (H:Hp) (s:Shared):Prop where
 ok:X.Ok
 os:s.os=X.s₀.os
 bare:AllBare s.gens
 base:Un X.fs X.ex X.H₀ H X.s₀.heap s.heap
 loc:∃ m,s.heap.Ns X.env.locals m/\∀ (i:Nat) (x:Str) (v:V),X.N[i]? = some x->σ[i]? = some (some v)->Vis X.env.scope x->∃ u,RelV v u/\Jr X.env s.heap m x u
 cell:∀ x c,X.env.cells.lookup x=some c->∃ v,s.heap.IsCell c v
 free:H X.env.locals=none
 freeC:∀ x c,X.env.cells.lookup x=some c->H c=none
 pin:∀ p∈X.pn++pins,s.heap.get? p.1=some p.2/\H p.1=none/\p.1≠X.env.locals/\p.1∉X.fs/\∀ v,p.2.data≠.cell v
 hok:HOk X.prog X.w H s.heap
 len:σ.length=X.N.length
section
variable {X:Cx} {pins:List (Addr × Obj)} {σ:List (Option V)} {H H':Hp} {s:Shared} {h':Heap}
theorem Cx.Ok.nofr (ok:X.Ok) {b:Addr} {o:Obj} (e:X.base.get? b=some o):b∉X.fs:=fun hb=>by
 have:=(ok.funs.mem hb).1
 rw [e] at this;cases this
theorem Inv.bs (I:Inv X pins σ H s):∀ b o,X.base.get? b=some o->s.heap.get? b=some o/\H b=none:=fun b o e =>
 ⟨I.base.keep b o (I.ok.bs b o e).1 (I.ok.bs b o e).2 (I.ok.nofr e) (I.ok.noex b o e),I.base.free b o (I.ok.bs b o e).1 (I.ok.bs b o e).2 (I.ok.noex b o e)⟩
theorem Inv.bk (I:Inv X pins σ H s):∀ b o,X.base.get? b=some o->s.heap.get? b=some o:=fun b o e=>(I.bs b o e).1
theorem Inv.mod (I:Inv X pins σ H s):Mod X.K X.mg X.base:=I.ok.mod
theorem Inv.kIn (I:Inv X pins σ H s):X.K.In s.heap:=I.ok.mod.kin.keeps I.bk
theorem Inv.lt (I:Inv X pins σ H s):X.env.locals < s.heap.objs.size:=let ⟨_,hn,_⟩:=I.loc;hn.lt
theorem Inv.sz (I:Inv X pins σ H s):X.s₀.heap.objs.size<=s.heap.objs.size:=Nat.le_trans I.ok.above (Nat.le_of_lt I.lt)
theorem Inv.nofs (I:Inv X pins σ H s) {a:Addr} (h:s.heap.objs.size<=a):a∉X.fs:=fun hb=>by
 obtain ⟨_,o,ho,_⟩:=I.ok.funs.mem hb
 exact absurd (Nat.lt_of_lt_of_le (Heap.lt_size ho) (Nat.le_trans I.sz h)) (Nat.lt_irrefl _)
theorem Inv.cne (I:Inv X pins σ H s):∀ x c,X.env.cells.lookup x=some c->c≠X.env.locals:=fun x c e z=>by
 obtain ⟨v,o,ho,hd⟩:=I.cell x c e
 obtain ⟨m,⟨o',es,ep,ho',hd',_⟩,_⟩:=I.loc
 rw [z,ho'] at ho;cases ho;rw [hd'] at hd;cases hd
theorem Inv.funs (I:Inv X pins σ H s):s.heap.FunFrames X.base X.outer:=by
 have all:∀ (l:List Env),(∀ b∈frs l,b∈X.fs)->X.s₀.heap.FunFrames X.base l->s.heap.FunFrames X.base l:=by
  intro l
  induction l with
  | nil=>intro _ _;trivial
  | cons env r ih =>
   intro hs hl
   obtain ⟨hk,⟨L,o,hf,hn,ho,hd⟩,hr⟩:=hl
   have hL:L∈X.fs:=hs L (by unfold frs;rw [List.filterMap_cons,hf];exact List.mem_cons_self)
   obtain ⟨sl,e⟩:=I.base.slot L o ho (I.ok.frf L hL) hL fun z=>I.ok.exfs L z hL
   exact ⟨hk,⟨L,_,hf,hn,e,hd⟩,ih (fun b hb=>hs b (by unfold frs;rw [List.filterMap_cons,hf];exact List.mem_cons_of_mem _ hb)) hr⟩
 exact all X.outer (fun _ hb=>hb) I.ok.funs
theorem Inv.stack (I:Inv X pins σ H s):s.heap.FunFrames X.base X.stack:=by
 rcases I.ok.stk with e | ⟨e,hf⟩
 ·rw [e];exact I.funs
 ·rw [e]
  obtain ⟨m,hn,_⟩:=I.loc
  refine .cons (by rw [I.ok.kind];decide) hf hn ?_ I.funs
  exact Heap.get?_none_of_le (Nat.le_trans I.ok.bsz I.ok.above)
theorem Inv.stkSub (I:Inv X pins σ H s):∀ b∈frs X.stack,b∈X.env.locals::X.fs:=fun b hb=>by
 rcases I.ok.stk with e | ⟨e,hf⟩
 ·rw [e] at hb;exact List.mem_cons_of_mem _ hb
 ·rw [e] at hb
  unfold frs at hb
  rw [List.filterMap_cons,hf] at hb
  exact hb
theorem Inv.stkFree (I:Inv X pins σ H s):∀ b∈frs X.stack,H b=none:=fun b hb=>by
 rcases List.mem_cons.mp (I.stkSub b hb) with e | hb
 ·rw [e];exact I.free
 ·obtain ⟨_,o,ho,_⟩:=I.ok.funs.mem hb
  exact I.base.free b o ho (I.ok.frf b hb) fun z=>I.ok.exfs b z hb
theorem Inv.step {g':Array GenState} {t':Nat} {d':Drawn} {ch:List Addr} (I:Inv X pins σ H s)
 (hch:∀ b∈ch,(b∈X.ex\/X.s₀.heap.objs.size<=b)/\b≠X.env.locals/\(∀ x c,X.env.cells.lookup x=some c->c≠b)/\∀ p∈X.pn++pins,p.1≠b)
 (keep:∀ b o,b≠X.env.locals->b∉X.fs->b∉ch->s.heap.get? b=some o->H b=none->h'.get? b=some o)
 (slot:∀ b o,b≠X.env.locals->b∈X.fs->b∉ch->s.heap.get? b=some o->H b=none->∃ sl,h'.get? b=some { o with slots:=sl }) (free:∀ b o,b∉ch->s.heap.get? b=some o->H b=none->H' b=none)
 (there:∀ b o,b∉ch->s.heap.get? b=some o->∃ o',h'.get? b=some o')
 (tups:∀ b xs,H b=some (.tup xs)->H' b=some (.tup xs)) (frzs:∀ b o u,H b=some (.frz o u)->H' b=some (.frz o u)) (tbls:∀ b ps,H b=some (.tbl ps)->∃ more,H' b=some (.tbl (ps++more)))
 (ns:∀ m,s.heap.Ns X.env.locals m->h'.Ns X.env.locals m) (hok:HOk X.prog X.w H' h') (hg:AllBare g') :
 Inv X pins σ H' { s with heap:=h',gens:=g',drawn:=d',toks:=t' }:=by
 have neL:∀ b o,X.s₀.heap.get? b=some o->b≠X.env.locals:=fun b o e=>Nat.ne_of_lt (Nat.lt_of_lt_of_le (Heap.lt_size e) I.ok.above)
 have neC:∀ b o,X.s₀.heap.get? b=some o->b∉X.ex->b∉ch:=fun b o e hx hb=>by
  rcases (hch b hb).1 with z | z
  ·exact hx z
  ·exact absurd (Nat.lt_of_lt_of_le (Heap.lt_size e) z) (Nat.lt_irrefl _)
 have cellK:∀ x c,X.env.cells.lookup x=some c->∀ v,s.heap.IsCell c v->h'.IsCell c v:=fun x c e v ⟨o,ho,hd⟩=>by
  have nch:c∉ch:=fun z=>(hch c z).2.2.1 x c e rfl
  by_cases hc:c∈X.fs
  ·obtain ⟨sl,q⟩:=slot c o (I.cne x c e) hc nch ho (I.freeC x c e)
   exact ⟨_,q,hd⟩
  ·exact ⟨o,keep c o (I.cne x c e) hc nch ho (I.freeC x c e),hd⟩
 refine ⟨I.ok,I.os,hg,⟨fun b o e n hb hx=>?_,fun b o e n hb hx=>?_,fun b o e n hx=>?_,fun b o e hx=>?_,fun b xs e=>tups b xs (I.base.tups b xs e),fun b o xs e=>frzs b o xs (I.base.frzs b o xs e),fun b ps e=>?_⟩,?_,fun x c e=>?_,?_,fun x c e=>?_,fun p hp=>?_,hok,I.len⟩
 ·exact keep b o (neL b o e) hb (neC b o e hx) (I.base.keep b o e n hb hx) (I.base.free b o e n hx)
 ·obtain ⟨sl,e1⟩:=I.base.slot b o e n hb hx
  obtain ⟨sl',e2⟩:=slot b _ (neL b o e) hb (neC b o e hx) e1 (I.base.free b o e n hx)
  exact ⟨sl',e2⟩
 ·obtain ⟨o',e1⟩:=I.base.there b o e hx
  exact free b o' (neC b o e hx) e1 (I.base.free b o e n hx)
 ·obtain ⟨o',e1⟩:=I.base.there b o e hx
  exact there b o' (neC b o e hx) e1
 ·obtain ⟨m1,e1⟩:=I.base.tbls b ps e
  obtain ⟨m2,e2⟩:=tbls b _ e1
  exact ⟨m1++m2,by rw [e2,Array.append_assoc]⟩
 ·obtain ⟨m,hn,hl⟩:=I.loc
  refine ⟨m,ns m hn,fun i x v e1 e2 e3=>?_⟩
  obtain ⟨u,r,l⟩:=hl i x v e1 e2 e3
  refine ⟨u,r,?_⟩
  rcases l with l | ⟨k,c,e,z⟩
  ·exact .inl l
  ·exact .inr ⟨k,c,e,cellK x c e _ z⟩
 ·obtain ⟨v,z⟩:=I.cell x c e
  exact ⟨v,cellK x c e v z⟩
 ·obtain ⟨m,⟨o,_,_,ho,_⟩,_⟩:=I.loc
  exact free _ o (fun z=>(hch _ z).2.1 rfl) ho I.free
 ·obtain ⟨v,o,ho,hd⟩:=I.cell x c e
  exact free c o (fun z=>(hch c z).2.2.1 x c e rfl) ho (I.freeC x c e)
 ·obtain ⟨e,n,ne,nf,d⟩:=I.pin p hp
  have nch:p.1∉ch:=fun z=>(hch p.1 z).2.2.2 p hp rfl
  exact ⟨keep p.1 p.2 ne nf nch e n,free p.1 p.2 nch e n,ne,nf,d⟩
theorem Inv.un {t':Nat} (I:Inv X pins σ H s) (u:Un X.fs [] H H' s.heap h') (hok:HOk X.prog X.w H' h'):Inv X pins σ H' { s with heap:=h',toks:=t' }:=by
 obtain ⟨m,⟨o,es,ep,ho,r⟩,_⟩:=id I.loc
 obtain ⟨sl,hL⟩:=u.any ho I.free (by simp)
 exact I.step (g':=s.gens) (d':=s.drawn) (ch:=[]) (fun _ z=>nomatch z) (fun b o _ hb _ e n=>u.keep b o e n hb (by simp)) (fun b o _ hb _ e n=>u.slot b o e n hb (by simp)) (fun b o _ e n=>u.free b o e n (by simp)) (fun b o _ e=>u.there b o e (by simp)) u.tups u.frzs u.tbls (fun m' hm=>by
  obtain ⟨o',es',ep',ho',r'⟩:=hm
  rw [ho] at ho';cases ho'
  exact ⟨_,es',ep',hL,r'⟩) hok I.bare
theorem Inv.call {g':Array GenState} {t':Nat} {d':Drawn} {ch:List Addr} (I:Inv X pins σ H s) (u:Un (frs X.stack) ch H H' s.heap h') (hok:HOk X.prog X.w H' h') (hg:AllBare g')
 (hch:∀ b∈ch,(b∈X.ex\/X.s₀.heap.objs.size<=b)/\b≠X.env.locals/\(∀ x c,X.env.cells.lookup x=some c->c≠b)/\∀ p∈X.pn++pins,p.1≠b) :
 Inv X pins σ H' { s with heap:=h',gens:=g',drawn:=d',toks:=t' }:=by
 obtain ⟨m,⟨o,es,ep,ho,r⟩,_⟩:=id I.loc
 obtain ⟨sl,hL⟩:=u.any ho I.free fun z=>(hch _ z).2.1 rfl
 exact I.step (ch:=ch) hch (fun b o hL hb hc e n=>u.keep b o e n (fun z=>(List.mem_cons.mp (I.stkSub b z)).elim hL hb) hc) (fun b o _ _ hc e n=>u.any e n hc) (fun b o hc e n=>u.free b o e n hc) (fun b o hc e=>u.there b o e hc) u.tups u.frzs u.tbls (fun m' hm=>by
  obtain ⟨o',es',ep',ho',r'⟩:=hm
  rw [ho] at ho';cases ho'
  exact ⟨_,es',ep',hL,r'⟩) hok hg
theorem Inv.turned {t':Nat} {it:Addr} (I:Inv X pins σ H s) (k:∀ b o,b≠it->s.heap.get? b=some o->h'.get? b=some o) (hn:H it=none) (hL:it≠X.env.locals)
 (h1:it∈X.ex\/X.s₀.heap.objs.size<=it) (h2:∀ x c,X.env.cells.lookup x=some c->c≠it) (h3:∀ p∈X.pn++pins,p.1≠it):Inv X pins σ H { s with heap:=h',toks:=t' }:=by
 have nit:∀ b u,H b=some u->b≠it:=fun b u e z=>by rw [z,hn] at e;cases e
 refine I.step (g':=s.gens) (d':=s.drawn) (ch:=[it]) (fun b hb=>?_) (fun b o _ _ hc e _=>k b o (fun z=>hc (by simp [z])) e) (fun b o _ _ hc e _=>⟨o.slots,k b o (fun z=>hc (by simp [z])) e⟩) (fun _ _ _ _ n=>n)
  (fun b o hc e=>⟨o,k b o (fun z=>hc (by simp [z])) e⟩) (fun _ _ e=>e) (fun _ _ _ e=>e) (fun b ps e=>⟨#[],by rw [e];simp⟩) (fun m hm=>?_) (fun b u e=>?_) I.bare
 ·have e:b=it:=by simpa using hb
  subst e
  exact ⟨h1,hL,h2,h3⟩
 ·obtain ⟨o,es,ep,ho,r⟩:=hm
  exact ⟨o,es,ep,k _ o (Ne.symm hL) ho,r⟩
 ·refine (I.hok b u e).stay (fun c v hc q=>k c v ?_ q) (fun _ q=>q) fun _ _ q=>q
  rcases hc with z | z
  ·rw [z];exact nit b u e
  ·exact nit c _ z
theorem Inv.tok (I:Inv X pins σ H s) (t:Nat):Inv X pins σ H { s with toks:=t }:=I.un (h':=s.heap) (t':=t) Un.refl I.hok
theorem Inv.kept {t':Nat} (I:Inv X pins σ H s) (k:∀ b u,s.heap.get? b=some u->h'.get? b=some u):Inv X pins σ H { s with heap:=h',toks:=t' }:=I.un (Un.kept k) (I.hok.kept k)
theorem Inv.laid {a:Addr} {o:HO} {t':Nat} (I:Inv X pins σ H s) (k:∀ b u,s.heap.get? b=some u->h'.get? b=some u) (hp:s.heap.objs.size<=a) (new:ObjOk X.prog X.w (upd H a o) h' a o) :
 Inv X pins σ (upd H a o) { s with heap:=h',toks:=t' }:=I.un (Un.laid k hp (I.hok.fresh hp)) (I.hok.laid k hp new)
theorem Inv.write {x e:Addr} {o:HO} {t':Nat} (I:Inv X pins σ H s) (mu:Mut (H x)) (he:e=x\/H e=some (.own x)) (k:∀ b u,b≠e->s.heap.get? b=some u->h'.get? b=some u) (heo:∃ u,h'.get? e=some u)
 (new:ObjOk X.prog X.w (upd H x o) h' x o):Inv X pins σ (upd H x o) { s with heap:=h',toks:=t' }:=I.un (Un.write mu he k heo) (I.hok.write mu he k heo new)
theorem Inv.weak {σ':List (Option V)} (I:Inv X pins σ H s) (hl:σ'.length=σ.length) (w:∀ (i:Nat) v,σ'[i]? = some (some v)->σ[i]? = some (some v)):Inv X pins σ' H s :=
 ⟨I.ok,I.os,I.bare,I.base,let ⟨m,hn,hl'⟩:=I.loc;⟨m,hn,fun i x v e1 e2 e3=>hl' i x v e1 (w i v e2) e3⟩,I.cell,I.free,I.freeC,I.pin,I.hok,hl.trans I.len⟩
theorem Inv.pins_of {pins':List (Addr × Obj)} (I:Inv X pins σ H s) (h:∀ p∈pins',s.heap.get? p.1=some p.2/\H p.1=none/\p.1≠X.env.locals/\p.1∉X.fs/\∀ v,p.2.data≠.cell v):Inv X pins' σ H s :=
 ⟨I.ok,I.os,I.bare,I.base,I.loc,I.cell,I.free,I.freeC,fun p hp=>(List.mem_append.mp hp).elim (fun z=>I.pin p (List.mem_append_left _ z)) (h p),I.hok,I.len⟩
theorem D6 {N:List Str} (hN:N.Nodup) {i j:Nat} {x:Str} (a:N[i]? = some x) (b:N[j]? = some x):i=j:=by
 obtain ⟨h1,e1⟩:=List.getElem?_eq_some_iff.mp a
 obtain ⟨h2,e2⟩:=List.getElem?_eq_some_iff.mp b
 exact (List.getElem_inj hN).mp (e1.trans e2.symm)
theorem FD {M:Model} {A:Around} {E:Value->Shared->Prop} {i:Nat} {x:Str} {v:V} {u:Value} {Q:Unit->Shared->Prop} (I:Inv X pins σ H s) (hN:X.N.Nodup) (hi:X.N[i]? = some x) (hx:Loc X.env.scope x) (r:RelV v u)
 (h:∀ s',Inv X pins (σ.set i (some v)) H s'->(∃ a,Heap.SameBut a s.heap s'.heap/\(a=X.env.locals\/X.env.cells.lookup x=some a))->Q () s') (hf:X.fn x=true\/X.env.scope.names.lookup x=some .local:=by first | exact .inl rfl | exact .inr rfl | assumption):wpAny M A (storeName X.env x u) Q E s:=by
 obtain ⟨m,hn,hl⟩:=id I.loc
 have hcls:(X.env.scope.kind == .class || (X.env.scope.kind == .module && X.env.locals != X.env.globals))=false:=by rw [I.ok.kind];rfl
 have hiσ:i < σ.length:=by rw [I.len];exact (List.getElem?_eq_some_iff.mp hi).1
 have cne:=I.cne
 have tracked:∀ {a:Addr} {h':Heap},(∃ o,s.heap.get? a=some o/\H a=none)->Heap.SameBut a s.heap h'->HOk X.prog X.w H h':=fun {a h'} ha hs b ob e=>by
  obtain ⟨_,_,hfree⟩:=ha
  refine (I.hok b ob e).stay (fun c w' hc q=>(hs.2 c ?_).trans q) (fun _ q=>q) fun _ _ q=>q
  rintro rfl
  rcases hc with rfl | hc
  ·rw [hfree] at e;cases e
  ·rw [hfree] at hc;cases hc
 rcases hx with hk | hk
 ·refine wpAny_storeName_local hk hn (fun h' hn' hs=>?_) hcls
  obtain ⟨oL,_,_,hoL,_⟩:=id hn
  refine h _ ⟨I.ok,I.os,I.bare,⟨fun b o e n hb hx=>?_,fun b o e n hb hx=>?_,I.base.free,fun b o e hx=>?_,I.base.tups,I.base.frzs,I.base.tbls⟩,⟨_,hn',fun j y v' e1 e2 e3=>?_⟩,fun y c e=>?_,I.free,I.freeC,fun p hp=>?_,tracked ⟨oL,hoL,I.free⟩ hs,by simpa using I.len⟩ ⟨_,hs,.inl rfl⟩
  ·exact (hs.2 b (Nat.ne_of_lt (Nat.lt_of_lt_of_le (Heap.lt_size e) I.ok.above))).trans (I.base.keep b o e n hb hx)
  ·obtain ⟨sl,e1⟩:=I.base.slot b o e n hb hx
   exact ⟨sl,(hs.2 b (Nat.ne_of_lt (Nat.lt_of_lt_of_le (Heap.lt_size e) I.ok.above))).trans e1⟩
  ·obtain ⟨o',e1⟩:=I.base.there b o e hx
   exact ⟨o',(hs.2 b (Nat.ne_of_lt (Nat.lt_of_lt_of_le (Heap.lt_size e) I.ok.above))).trans e1⟩
  ·by_cases hj:j=i
   ·subst hj
    rw [hi] at e1;cases e1
    rw [List.getElem?_set_self hiσ] at e2
    cases e2
    exact ⟨u,r,.inl ⟨hk,by simp⟩⟩
   ·rw [List.getElem?_set_ne (Ne.symm hj)] at e2
    obtain ⟨u',r',q⟩:=hl j y v' e1 e2 e3
    refine ⟨u',r',?_⟩
    rcases q with ⟨k,e⟩ | ⟨k,c,e,z⟩
    ·refine .inl ⟨k,?_⟩
     have:y≠x:=fun e=>hj (D6 hN e1 (e ▸ hi))
     simp [this,e]
    ·exact .inr ⟨k,c,e,z.sameBut hs (cne y c e)⟩
  ·obtain ⟨w',z⟩:=I.cell y c e
   exact ⟨w',z.sameBut hs (cne y c e)⟩
  ·obtain ⟨e,n,ne,nf,d⟩:=I.pin p hp
   exact ⟨(hs.2 p.1 ne).trans e,n,ne,nf,d⟩
 ·have hfn:X.fn x=true:=by
   rcases hf with z | z
   ·exact z
   ·rw [z] at hk;cases hk
  obtain ⟨c,hc⟩:=I.ok.has x (.inl hk)
  obtain ⟨w',z⟩:=I.cell x c hc
  refine wpAny_storeName_cell I.ok.kind hk hc z (fun h' hc' hs=>?_)
  obtain ⟨oc,hoc,hocd⟩:=id z
  refine h { s with heap:=h' } ⟨I.ok,I.os,I.bare,⟨fun b o e n hb hx=>?_,fun b o e n hb hx=>?_,I.base.free,fun b o e hx=>?_,I.base.tups,I.base.frzs,I.base.tbls⟩,⟨m,hn.sameBut hs (Ne.symm (cne x c hc)),fun j y v' e1 e2 e3=>?_⟩,fun y c' e=>?_,I.free,I.freeC,fun p hp=>?_,tracked ⟨oc,hoc,I.freeC x c hc⟩ hs,by simpa using I.len⟩ ⟨c,hs,.inr hc⟩
  ·exact (hs.2 b (Nat.ne_of_lt (Nat.lt_of_lt_of_le (Heap.lt_size e) (I.ok.cab x c hfn hc)))).trans (I.base.keep b o e n hb hx)
  ·obtain ⟨sl,e1⟩:=I.base.slot b o e n hb hx
   exact ⟨sl,(hs.2 b (Nat.ne_of_lt (Nat.lt_of_lt_of_le (Heap.lt_size e) (I.ok.cab x c hfn hc)))).trans e1⟩
  ·obtain ⟨o',e1⟩:=I.base.there b o e hx
   exact ⟨o',(hs.2 b (Nat.ne_of_lt (Nat.lt_of_lt_of_le (Heap.lt_size e) (I.ok.cab x c hfn hc)))).trans e1⟩
  ·by_cases hj:j=i
   ·subst hj
    rw [hi] at e1;cases e1
    rw [List.getElem?_set_self hiσ] at e2
    cases e2
    exact ⟨u,r,.inr ⟨.inl hk,c,hc,hc'⟩⟩
   ·rw [List.getElem?_set_ne (Ne.symm hj)] at e2
    obtain ⟨u',r',q⟩:=hl j y v' e1 e2 e3
    refine ⟨u',r',?_⟩
    rcases q with q | ⟨k,c',e,z'⟩
    ·exact .inl q
    ·refine .inr ⟨k,c',e,z'.sameBut hs ?_⟩
     rintro rfl
     exact hj (D6 hN e1 (I.ok.inj _ _ _ e hc ▸ hi))
  ·by_cases hcc:c'=c
   ·subst hcc;exact ⟨_,hc'⟩
   ·obtain ⟨w2,z2⟩:=I.cell y c' e
    exact ⟨w2,z2.sameBut hs hcc⟩
  ·obtain ⟨e,n,ne,nf,d⟩:=I.pin p hp
   refine ⟨(hs.2 p.1 ?_).trans e,n,ne,nf,d⟩
   intro q
   rw [q,hoc] at e
   have q':oc=p.2:=Option.some.inj e
   exact d w' (by rw [<- q'];exact hocd)
theorem Do {M:Model} {A:Around} {E:Value->Shared->Prop} {i:Nat} {x:Str} {v:V} {u:Value} {Q:Unit->Shared->Prop} (I:Inv X pins σ H s) (hN:X.N.Nodup) (hi:X.N[i]? = some x) (hx:Loc X.env.scope x) (r:RelV v u)
 (h:∀ s',Inv X pins (σ.set i (some v)) H s'->Q () s') (hf:X.fn x=true\/X.env.scope.names.lookup x=some .local:=by first | exact .inl rfl | exact .inr rfl | assumption):wpAny M A (storeName X.env x u) Q E s :=
 FD I hN hi hx r (fun s' I' _=>h s' I') hf
theorem Inv.call' {s':Shared} {ch:List Addr} (I:Inv X pins σ H s) (ho:s'.os=s.os) (u:Un (frs X.stack) ch H H' s.heap s'.heap) (hok:HOk X.prog X.w H' s'.heap) (hg:AllBare s'.gens)
 (hch:∀ b∈ch,(b∈X.ex\/X.s₀.heap.objs.size<=b)/\b≠X.env.locals/\(∀ x c,X.env.cells.lookup x=some c->c≠b)/\∀ p∈X.pn++pins,p.1≠b):Inv X pins σ H' s':=by
 obtain ⟨h',g',d',t',o'⟩:=s'
 have e:o'=s.os:=ho
 subst e
 exact I.call (g':=g') (t':=t') (d':=d') u hok hg hch
end
noncomputable abbrev XK:=Value->Option Addr->Hp->Prop
noncomputable abbrev St:=List (Option V)
noncomputable abbrev VK:=V->Hp->Prop
noncomputable abbrev TE:=St->Hp->VK->Prop
noncomputable abbrev TT:=St->Hp->(Bool->Hp->Prop)->Prop
noncomputable abbrev TA:=St->Hp->(List V->Hp->Prop)->Prop
structure Ends where
 nx:St->Hp->Prop
 rt:VK
 bk:St->Hp->Prop:=fun _ _=>False
 ct:St->Hp->Prop:=fun _ _=>False
noncomputable abbrev TS:=Ends->St->Hp->Prop
noncomputable def EP (X:Cx) (pins:List (Addr × Obj)) (σ:St) (Q:VK) (u:Value) (s':Shared):Prop:=∃ v H',Inv X pins σ H' s'/\RelV v u/\Q v H'
noncomputable def TP (X:Cx) (pins:List (Addr × Obj)) (σ:St) (Q:Bool->Hp->Prop) (b:Bool) (s':Shared):Prop:=∃ H',Inv X pins σ H' s'/\Q b H'
noncomputable def AP (X:Cx) (pins:List (Addr × Obj)) (σ:St) (Q:List V->Hp->Prop) (us:List Value) (s':Shared):Prop:=∃ vs H',Inv X pins σ H' s'/\Vals vs us/\Q vs H'
noncomputable def SP (X:Cx) (pins:List (Addr × Obj)) (D:Ends) (f:Flow) (s':Shared):Prop :=
 match f with
 | .next=>∃ σ' H',Inv X pins σ' H' s'/\D.nx σ' H'
 | .brk=>∃ σ' H',Inv X pins σ' H' s'/\D.bk σ' H'
 | .cont=>∃ σ' H',Inv X pins σ' H' s'/\D.ct σ' H'
 | .ret u=>∃ v σ' H',Inv X pins σ' H' s'/\RelV v u/\D.rt v H'
noncomputable def PE (X:Cx) (e:Expr) (t:TE):Prop :=
 ∀ (pins:List (Addr × Obj)) (s:Shared) (σ:St) (H:Hp) (Q:VK),Inv X pins σ H s->t σ H Q->wpAny (model X.prog X.w) X.A (eval e X.env) (EP X pins σ Q) X.xe s
noncomputable def PT (X:Cx) (e:Expr) (t:TT):Prop :=
 ∀ (pins:List (Addr × Obj)) (s:Shared) (σ:St) (H:Hp) (Q:Bool->Hp->Prop),Inv X pins σ H s->t σ H Q->wpAny (model X.prog X.w) X.A (isTrue e X.env (eval e X.env)) (TP X pins σ Q) X.xe s
noncomputable def PW (X:Cx) (e:Expr) (t:TT):Prop :=
 ∀ (whole:Sem Value) (pins:List (Addr × Obj)) (s:Shared) (σ:St) (H:Hp) (Q:Bool->Hp->Prop),Inv X pins σ H s->t σ H Q->wpAny (model X.prog X.w) X.A (isTrue e X.env whole) (TP X pins σ Q) X.xe s
theorem PW.pt {X:Cx} {e:Expr} {t:TT} (h:PW X e t):PT X e t:=h _
noncomputable def PA (X:Cx) (es:List Expr) (t:TA):Prop :=
 ∀ (pos:Pos) (pins:List (Addr × Obj)) (s:Shared) (σ:St) (H:Hp) (Q:List V->Hp->Prop),Inv X pins σ H s->t σ H Q->wpAny (model X.prog X.w) X.A (spliced (backTo pos (starEach es X.env))) (AP X pins σ Q) X.xe s
noncomputable def PS (X:Cx) (st:Stmt) (t:TS):Prop :=
 ∀ (pins:List (Addr × Obj)) (s:Shared) (σ:St) (H:Hp) (D:Ends),Inv X pins σ H s->t D σ H->wpAny (model X.prog X.w) X.A (exec st X.env) (SP X pins D) X.xe s
noncomputable def PSs (X:Cx) (st:List Stmt) (t:TS):Prop :=
 ∀ (pins:List (Addr × Obj)) (s:Shared) (σ:St) (H:Hp) (D:Ends),Inv X pins σ H s->t D σ H->wpAny (model X.prog X.w) X.A (execs st X.env) (SP X pins D) X.xe s
theorem thn {α:Type} {t:Sem α} {Q Q':α->Shared->Prop} {M:Model} {A:Around} {E:Value->Shared->Prop} {s:Shared} (h:wpAny M A t Q E s) (hQ:∀ a s,Q a s->Q' a s):wpAny M A t Q' E s:=wpAny_mono h hQ fun _ _ x=>x
section
variable {X:Cx}
noncomputable def Jd (i:Nat):TE:=fun σ H Q=>∃ v,σ[i]? = some (some v)/\Q v H
noncomputable def tC (v:V):TE:=fun _ H Q=>Q v H
theorem IF {i:Nat} {x:Str} {pos:Pos} (hN:X.N[i]? = some x) (hv:Vis X.env.scope x) (hd:(x == ("__debug__" : Str))=false:=by decide) (hcd:(x == ("__classdict__" : Str))=false:=by decide):PE X (.Name x pos) (Jd i):=by
 intro pins s σ H Q I h
 obtain ⟨v,e,h⟩:=h
 obtain ⟨m,hn,hl⟩:=I.loc
 obtain ⟨u,r,l⟩:=hl i x v hN e hv
 have fin:EP X pins σ Q u s:=⟨v,H,I,r,h⟩
 rcases l with ⟨hk,hm⟩ | ⟨hk,c,hc,hcell⟩
 ·exact wpAny_Name (wpAny_loadName_local I.ok.kind hk hn hm fin) hd
 ·rcases hk with hk | hk
  ·exact wpAny_Name (wpAny_loadName_cell I.ok.kind hk hc hcell fin) hd
  ·exact wpAny_Name (wpAny_loadName_free I.ok.kind hk hc hcell fin hcd) hd
theorem AC {i j pos}:PE X (.Constant (.int i) j pos) (tC (.int i)):=fun _ _ _ H _ I h=>wpAny_Constant_int ⟨.int i,H,I.tok _,⟨_,rfl⟩,h⟩
theorem BM {b j pos}:PE X (.Constant (.bool b) j pos) (tC (.bl b)):=fun _ _ _ H _ I h=>Constant_bool ⟨.bl b,H,I,rfl,h⟩
theorem J4 {j pos}:PE X (.Constant .none j pos) (tC .non):=fun _ _ _ H _ I h=>Constant_none ⟨.non,H,I,rfl,h⟩
theorem DJ {x j pos}:PE X (.Constant (.str x) j pos) (tC (.str x)):=fun _ _ _ H _ I h=>Calls.Constant_str ⟨.str x,H,I.tok _,⟨_,rfl⟩,h⟩
noncomputable def Gl (X:Cx) (x:Str):Prop:=X.env.kindOf x=some .globalImplicit
theorem Ck {E:Value->Shared->Prop} {pins:List (Addr × Obj)} {s:Shared} {σ:St} {H:Hp} {x:Str} {u:Value} {pos:Pos} {Q:Value->Shared->Prop} (I:Inv X pins σ H s) (hg:Gl X x) (hm:X.mg x=some u) (h:Q u s)
 (hd:(x == ("__debug__" : Str))=false:=by decide):wpAny (model X.prog X.w) X.A (eval (.Name x pos) X.env) Q E s :=
 Calls.Name_function_global I.ok.kind hg (Calls.loadGlobal_global (by rw [I.ok.glob];exact I.mod.glob.keeps I.bk) hm h) hd
theorem BZ {E:Value->Shared->Prop} {pins:List (Addr × Obj)} {s:Shared} {σ:St} {H:Hp} {x:Str} {u:Value} {pos:Pos} {Q:Value->Shared->Prop} (I:Inv X pins σ H s) (hg:Gl X x) (hm:X.mg x=none) (hv:bootBuiltins x=some u) (h:Q u s)
 (hn:x ≠ "__name__":=by decide) (hd:(x == ("__debug__" : Str))=false:=by decide):wpAny (model X.prog X.w) X.A (eval (.Name x pos) X.env) Q E s:=by
 obtain ⟨mb,h1,h2⟩:=I.mod.blt
 exact Calls.Name_function_global I.ok.kind hg (Calls.loadGlobal_builtin (by rw [I.ok.glob];exact I.mod.glob.keeps I.bk) hm (by rw [I.ok.blt];exact h1.keeps I.bk) ((h2 x hn).trans hv) h) hd
theorem BK {x:Str} {v:V} {u:Value} {pos:Pos} (hg:Gl X x) (hm:X.mg x=some u) (r:RelV v u) (hd:(x == ("__debug__" : Str))=false:=by decide):PE X (.Name x pos) (tC v) :=
 fun _ _ _ H _ I h=>Ck I hg hm ⟨v,H,I,r,h⟩ hd
theorem Bm {x:Str} {v:V} {u:Value} {pos:Pos} (hg:Gl X x) (hm:X.mg x=none) (hv:bootBuiltins x=some u) (r:RelV v u) (hn:x ≠ "__name__":=by decide) (hd:(x == ("__debug__" : Str))=false:=by decide):PE X (.Name x pos) (tC v) :=
 fun _ _ _ H _ I h=>BZ I hg hm hv ⟨v,H,I,r,h⟩ hn hd
variable {a b:Expr} {ta tb:TE} {pos:Pos}
theorem D5 (b:Expr) {op:CmpOp} (h:op≠.In) (h2:op≠.NotIn):behindInMarks op b=false:=by
 have e1:(op == CmpOp.In)=false:=by cases op <;> first | rfl | exact absurd rfl h
 have e2:(op == CmpOp.NotIn)=false:=by cases op <;> first | rfl | exact absurd rfl h2
 cases b <;> simp [behindInMarks,e1,e2]
variable {tA tB':TT} {rest:List Expr}
noncomputable def Fq (t u:TT):TT:=fun σ H Q=>t σ H fun c H1=>if c=true then u σ H1 Q else Q false H1
noncomputable def tOr (t u:TT):TT:=fun σ H Q=>t σ H fun c H1=>if c=true then Q true H1 else u σ H1 Q
noncomputable def Gj (t:TT):TT:=fun σ H Q=>t σ H fun c H1=>Q (!c) H1
theorem GM (ha:PT X a tA):PW X (.BoolOp .And [a] pos) tA:=by
 intro wh pins s σ H Q I h
 refine isTrue_and (thn (ha pins s σ H Q I h) fun c s1 e=>?_)
 cases c with
 | true=>exact isTrue_and_nil e
 | false=>exact e
theorem Dm (ha:PT X a tA):PW X (.BoolOp .Or [a] pos) tA:=by
 intro wh pins s σ H Q I h
 refine isTrue_or (thn (ha pins s σ H Q I h) fun c s1 e=>?_)
 cases c with
 | false=>exact isTrue_or_nil e
 | true=>exact e
theorem ER (ha:PT X a tA) (hb:PW X (.BoolOp .And (b::rest) pos) tB'):PW X (.BoolOp .And (a::b::rest) pos) (Fq tA tB'):=by
 intro wh pins s σ H Q I h
 refine isTrue_and (thn (ha pins s σ H _ I h) fun c s1 ⟨H1,I1,q1⟩=>?_)
 cases c with
 | true=>exact hb wh pins s1 σ H1 Q I1 q1
 | false=>exact ⟨H1,I1,q1⟩
theorem Cz (ha:PT X a tA) (hb:PW X (.BoolOp .Or (b::rest) pos) tB'):PW X (.BoolOp .Or (a::b::rest) pos) (tOr tA tB'):=by
 intro wh pins s σ H Q I h
 refine isTrue_or (thn (ha pins s σ H _ I h) fun c s1 ⟨H1,I1,q1⟩=>?_)
 cases c with
 | true=>exact ⟨H1,I1,q1⟩
 | false=>exact hb wh pins s1 σ H1 Q I1 q1
theorem BY (ha:PT X a tA):PT X (.UnaryOp .Not a pos) (Gj tA):=by
 intro pins s σ H Q I h
 exact isTrue_not (ha pins s σ H (fun c H1=>Q (!c) H1) I h)
noncomputable def HM (ta tb:TE):TE:=fun σ H Q=>ta σ H fun x H1=>∃ c,x=.bl c/\if c=true then tb σ H1 Q else Q (.bl false) H1
noncomputable def Me (ta:TE):TE:=fun σ H Q=>ta σ H fun x H1=>∃ c,x=.bl c/\Q (.bl (!c)) H1
theorem Dx {op} {t:TE} (h:PE X a t):PE X (.BoolOp op [a] pos) t:=fun pins s σ H Q I hw=>BoolOp_one (h pins s σ H Q I hw)
theorem MP (ha:PE X a ta) (hb:PE X (.BoolOp .And (b::rest) pos) tb):PE X (.BoolOp .And (a::b::rest) pos) (HM ta tb):=by
 intro pins s σ H Q I h
 refine BoolOp_and (thn (ha pins s σ H _ I h) fun v s1 ⟨x,H1,I1,r1,q1⟩=>?_)
 obtain ⟨c,rfl,q1⟩:=q1
 cases r1
 refine wpAny_truthy_bool ?_
 cases c with
 | true=>exact hb pins s1 σ H1 Q I1 q1
 | false=>exact ⟨.bl false,H1,I1,rfl,q1⟩
theorem Kh (ha:PE X a ta):PE X (.UnaryOp .Not a pos) (Me ta):=by
 intro pins s σ H Q I h
 refine UnaryOp_ (thn (ha pins s σ H _ I h) fun v s1 ⟨x,H1,I1,r1,q1⟩=>?_)
 obtain ⟨c,rfl,q1⟩:=q1
 cases r1
 exact not_of (wpAny_truthy_bool ⟨.bl (!c),H1,I1,rfl,q1⟩)
noncomputable def tIf (t:TT) (ta tb:TE):TE:=fun σ H Q=>t σ H fun c H1=>if c=true then ta σ H1 Q else tb σ H1 Q
theorem Kn {c:Expr} (hc:PT X c tA) (ha:PE X a ta) (hb:PE X b tb):PE X (.IfExp c a b pos) (tIf tA ta tb):=by
 intro pins s σ H Q I h
 refine wpAny_IfExp (thn (hc pins s σ H _ I h) fun d s1 ⟨H1,I1,q1⟩=>?_)
 cases d with
 | true=>exact ha pins s1 σ H1 Q I1 q1
 | false=>exact hb pins s1 σ H1 Q I1 q1
end
noncomputable def SqL (K:W.Frag) (H:Hp) (a:Addr) (xs:List V):Prop :=
 Rd H a (.lst xs) \/
  ∃ (o:Obj) (its:Array Value) (n:Nat),K.lookup a=some o/\o.cls=.type "list" /\ o.dict=none/\o.data=.seq its n/\its.size<=sizeLine/\Vals xs its.toList
noncomputable def SqT (K:W.Frag) (H:Hp) (a:Addr) (xs:List V):Prop :=
 Rd H a (.tup xs) \/
  ∃ (o:Obj) (its:Array Value) (n:Nat),K.lookup a=some o/\o.cls=.type "tuple" /\ o.dict=none/\o.data=.seq its n/\its.size<=sizeLine/\Vals xs its.toList
noncomputable def LG:Value->Option V
 | .none=>some .non
 | .bool b=>some (.bl b)
 | .int i _=>some (.int i)
 | .str x _=>some (.str x)
 | .bytes b _=>some (.byt b)
 | .float b _=>some (.flt b)
 | .ref a=>some (.ref a)
 | .type n=>some (.ty n)
 | _=>none
theorem RelV.abs {x:V} {u:Value} (r:RelV x u):LG u=some x:=by
 cases x with
 | non=>cases r;rfl
 | bl _=>cases r;rfl
 | int _=>obtain ⟨t,rfl⟩:=r;rfl
 | str _=>obtain ⟨t,rfl⟩:=r;rfl
 | byt _=>obtain ⟨t,rfl⟩:=r;rfl
 | flt _=>obtain ⟨t,rfl⟩:=r;rfl
 | ref _=>cases r;rfl
 | ty _=>cases r;rfl
theorem RelV.inj {x y:V} {u:Value} (r:RelV x u) (q:RelV y u):x=y:=Option.some.inj (r.abs.symm.trans q.abs)
theorem Vals.inj:∀ {xs ys:List V} {us:List Value},Vals xs us->Vals ys us->xs=ys
 | _,_,_,.nil,.nil=>rfl
 | _,_,_,.cons r t,.cons r' t'=>by rw [r.inj r',Vals.inj t t']
section
variable {X:Cx} {pins:List (Addr × Obj)} {σ:St} {H:Hp} {s:Shared} {a:Addr} {xs ys:List V}
theorem SqL.of {K:W.Frag} (h:H a=some (.lst xs)):SqL K H a xs:=.inl (.inl h)
theorem SqT.of {K:W.Frag} (h:H a=some (.tup xs)):SqT K H a xs:=.inl (.inl h)
theorem Inv.list (I:Inv X pins σ H s) (h:SqL X.K H a xs):∃ its:List Value,Vals xs its/\PlainL s.heap a its.toArray/\xs.length<=sizeLine:=by
 rcases h with h | ⟨o,its,n,hk,hc,hd,hs,hz,r⟩
 ·obtain ⟨z,its,n,r,e⟩:=h.ok I.hok
  exact ⟨its,r,⟨_,n,e,rfl,rfl,rfl⟩,z⟩
 ·refine ⟨its.toList,r,⟨o,n,I.kIn a o hk,hc,hd,by simpa using hs⟩,?_⟩
  have e:=r.length
  simp only [Array.length_toList] at e
  lia
theorem Inv.tuple (I:Inv X pins σ H s) (h:SqT X.K H a xs):∃ its:List Value,Vals xs its/\IsTup s.heap a its.toArray/\xs.length<=sizeLine:=by
 rcases h with h | ⟨o,its,n,hk,hc,hdd,hs,hz,r⟩
 ·obtain ⟨z,its,r,p⟩:=h.ok I.hok
  exact ⟨its,r,p.tup,z⟩
 ·refine ⟨its.toList,r,⟨o,I.kIn a o hk,hc,n,by simpa using hs⟩,?_⟩
  have e:=r.length
  simp only [Array.length_toList] at e
  lia
theorem Inv.tupleN (I:Inv X pins σ H s) (h:SqT X.K H a xs):∃ its:List Value,Vals xs its/\IsTupN s.heap a its.toArray/\xs.length<=sizeLine:=by
 rcases h with h | ⟨o,its,n,hk,hc,hdd,hs,hz,r⟩
 ·obtain ⟨z,its,r,p⟩:=h.ok I.hok
  exact ⟨its,r,p,z⟩
 ·refine ⟨its.toList,r,⟨o,I.kIn a o hk,hc,⟨n,by simpa using hs⟩,hdd⟩,?_⟩
  have e:=r.length
  simp only [Array.length_toList] at e
  lia
theorem Inv.list_inj (I:Inv X pins σ H s) (h:SqL X.K H a xs) (h':SqL X.K H a ys):xs=ys:=by
 obtain ⟨its,r,⟨o,n,e,_,_,d⟩,_⟩:=I.list h
 obtain ⟨its',r',⟨o',n',e',_,_,d'⟩,_⟩:=I.list h'
 rw [e] at e';cases e'
 rw [d] at d'
 injection d' with d1 _
 have:its=its':=by simpa using congrArg Array.toList d1
 subst this
 exact r.inj r'
theorem Inv.tuple_inj (I:Inv X pins σ H s) (h:SqT X.K H a xs) (h':SqT X.K H a ys):xs=ys:=by
 obtain ⟨its,r,⟨o,e,_,n,d⟩,_⟩:=I.tuple h
 obtain ⟨its',r',⟨o',e',_,n',d'⟩,_⟩:=I.tuple h'
 rw [e] at e';cases e'
 rw [d] at d'
 injection d' with d1 _
 have:its=its':=by simpa using congrArg Array.toList d1
 subst this
 exact r.inj r'
end
noncomputable abbrev Cx.wish (X:Cx) (E:Value->Shared->Prop):Cx:={ X with xe:=E }
noncomputable abbrev Cx.nox (X:Cx):Cx:=X.wish fun _ _=>False
theorem Cx.Ok.wish {X:Cx} (ok:X.Ok) (E:Value->Shared->Prop):(X.wish E).Ok :=
 ⟨ok.mod,ok.kind,ok.glob,ok.blt,ok.above,ok.inj,ok.has,ok.cab,ok.hd,ok.frames,ok.stk,ok.exf,ok.bs,ok.bsz,ok.noex,ok.exfs,ok.funs,ok.frf⟩
theorem Cx.Ok.unwish {X:Cx} {E:Value->Shared->Prop} (ok:(X.wish E).Ok):X.Ok :=
 ⟨ok.mod,ok.kind,ok.glob,ok.blt,ok.above,ok.inj,ok.has,ok.cab,ok.hd,ok.frames,ok.stk,ok.exf,ok.bs,ok.bsz,ok.noex,ok.exfs,ok.funs,ok.frf⟩
section
variable {X:Cx} {pins:List (Addr × Obj)} {σ:St} {H:Hp} {s:Shared} {E:Value->Shared->Prop}
theorem Inv.wish (I:Inv X pins σ H s) (E:Value->Shared->Prop):Inv (X.wish E) pins σ H s:=⟨I.ok.wish E,I.os,I.bare,I.base,I.loc,I.cell,I.free,I.freeC,I.pin,I.hok,I.len⟩
theorem Inv.unwish (I:Inv (X.wish E) pins σ H s):Inv X pins σ H s:=⟨I.ok.unwish,I.os,I.bare,I.base,I.loc,I.cell,I.free,I.freeC,I.pin,I.hok,I.len⟩
theorem SP.unwish {D:Ends} {f:Flow} {s':Shared} (h:SP (X.wish E) pins D f s'):SP X pins D f s':=by
 cases f with
 | next=>obtain ⟨σ',H',I,q⟩:=h;exact ⟨σ',H',I.unwish,q⟩
 | brk=>obtain ⟨σ',H',I,q⟩:=h;exact ⟨σ',H',I.unwish,q⟩
 | cont=>obtain ⟨σ',H',I,q⟩:=h;exact ⟨σ',H',I.unwish,q⟩
 | ret u=>obtain ⟨v,σ',H',I,r,q⟩:=h;exact ⟨v,σ',H',I.unwish,r,q⟩
theorem PT.nox {e:Expr} {t:TT} (h:PT X.nox e t):PT X e t:=fun pins s σ H Q I hw =>
 wpAny_mono (h pins s σ H Q (I.wish _) hw) (fun _ _ ⟨H',I',q⟩=>⟨H',I'.unwish,q⟩) fun _ _ z=>False.elim z
theorem PSs.nox {st:List Stmt} {t:TS} (h:PSs X.nox st t):PSs X st t:=fun pins s σ H D I hw =>
 wpAny_mono (h pins s σ H D (I.wish _) hw) (fun _ _ q=>q.unwish) fun _ _ z=>False.elim z
end
section
variable {X:Cx} {st:Stmt} {rest:List Stmt} {t u:TS} {e:Expr} {te:TE} {pos:Pos}
noncomputable def Bb:TS:=fun D σ H=>D.nx σ H
noncomputable def Dt (t u:TS):TS:=fun D σ H=>t { D with nx:=u D } σ H
theorem Am:PSs X [] Bb:=fun _ _ σ H _ I h=>wpAny_execs_nil ⟨σ,H,I,h⟩
theorem AH (h1:PS X st t) (h2:PSs X rest u):PSs X (st::rest) (Dt t u):=by
 intro pins s σ H D I h
 refine wpAny_execs_cons (thn (h1 pins s σ H { D with nx:=u D } I h) fun f s1 q=>?_)
 cases f with
 | next =>
  obtain ⟨σ',H',I',q⟩:=q
  exact h2 pins s1 σ' H' D I' q
 | ret v=>exact q
 | brk=>exact q
 | cont=>exact q
theorem AJ (h1:PS X st t):PSs X [st] t:=by
 intro pins s σ H D I h
 refine wpAny_execs_cons (thn (h1 pins s σ H D I h) fun f s1 q=>?_)
 cases f with
 | next=>exact wpAny_execs_nil q
 | ret v=>exact q
 | brk=>exact q
 | cont=>exact q
theorem Inv.quiet {pins:List (Addr × Obj)} {σ:St} {H:Hp} {s:Shared} (I:Inv X pins σ H s):interactive X.env=false:=by simp [interactive,I.ok.kind]
noncomputable def FE (te:TE):TS:=fun D σ H=>te σ H fun _ H1=>D.nx σ H1
theorem DW (he:PE X e te) (hs:swapsWith e none pos.line X.env=pure false:=by rfl):PS X (.Expr e pos) (FE te):=by
 intro pins s σ H D I h
 exact wpAny_Expr_any (thn (he pins s σ H _ I h) fun v s1 ⟨x,H1,I1,r1,q1⟩=>⟨σ,H1,I1,q1⟩) I.quiet hs
noncomputable def GW (te:TE):TS:=fun D σ H=>te σ H D.rt
theorem AQ (he:PE X e te):PS X (.Return (some e) pos) (GW te):=by
 intro pins s σ H D I h
 exact wpAny_Return_some (thn (he pins s σ H _ I h) fun v s1 ⟨x,H1,I1,r1,q1⟩=>⟨x,σ,H1,I1,r1,q1⟩)
noncomputable def EX (c:TT) (t u:TS):TS:=fun D σ H=>c σ H fun b H1=>if b=true then t D σ H1 else u D σ H1
theorem Ao {c:Expr} {a b:List Stmt} {tc:TT} (hc:PT X c tc) (ha:PSs X a t) (hb:PSs X b u):PS X (.If c a b pos) (EX tc t u):=by
 intro pins s σ H D I h
 refine wpAny_If (thn (hc pins s σ H _ I h) fun d s1 ⟨H1,I1,q1⟩=>?_)
 cases d with
 | true=>exact ha pins s1 σ H1 D I1 q1
 | false=>exact hb pins s1 σ H1 D I1 q1
end
noncomputable abbrev TG:=V->St->Hp->(St->Hp->Prop)->Prop
noncomputable abbrev TGs:=List V->St->Hp->(St->Hp->Prop)->Prop
noncomputable def PG (X:Cx) (target:Expr) (t:TG):Prop :=
 ∀ (pins:List (Addr × Obj)) (s:Shared) (σ:St) (H:Hp) (v:V) (u:Value) (Q:St->Hp->Prop),Inv X pins σ H s->RelV v u->t v σ H Q ->
  wpAny (model X.prog X.w) X.A (assign target X.env u) (fun _ s'=>∃ σ' H',Inv X pins σ' H' s'/\Q σ' H') X.xe s
noncomputable def PGs (X:Cx) (ts:List Expr) (t:TGs):Prop :=
 ∀ (pins:List (Addr × Obj)) (s:Shared) (σ:St) (H:Hp) (vs:List V) (us:List Value) (Q:St->Hp->Prop),Inv X pins σ H s->Vals vs us->t vs σ H Q ->
  wpAny (model X.prog X.w) X.A (assignInOrder ((assignEach ts X.env).map (·.2)) us) (fun _ s'=>∃ σ' H',Inv X pins σ' H' s'/\Q σ' H') X.xe s
noncomputable abbrev CY:=V->V->V->Hp->(Hp->Prop)->Prop
noncomputable def D4 (X:Cx) (t:CY):Prop :=
 ∀ (pins:List (Addr × Obj)) (s:Shared) (σ:St) (H:Hp) (o i v:V) (ov iv u:Value) (Q:Hp->Prop),Inv X pins σ H s->RelV o ov->RelV i iv->RelV v u->t o i v H Q ->
  wpAny (model X.prog X.w) X.A (setItem ov iv u) (fun _ s'=>∃ H',Inv X pins σ H' s'/\Q H') X.xe s
section
variable {X:Cx} {pos:Pos}
noncomputable def Ae (i:Nat):TG:=fun v σ H Q=>Q (σ.set i (some v)) H
theorem Ah {i:Nat} {x:Str} (hN:X.N.Nodup) (hi:X.N[i]? = some x) (hx:Loc X.env.scope x) (hf:X.fn x=true\/X.env.scope.names.lookup x=some .local:=by first | exact .inl rfl | exact .inr rfl | assumption):PG X (.Name x pos) (Ae i):=by
 intro pins s σ H v u Q I r h
 exact wpAny_assign_Name (Do I hN hi hx r (fun s' I'=>⟨_,H,I',h⟩) hf)
noncomputable def GU:TGs:=fun vs σ H Q=>vs=[]/\Q σ H
noncomputable def Ez (t:TG) (u:TGs):TGs:=fun vs σ H Q=>∃ v r,vs=v::r/\t v σ H fun σ' H'=>u r σ' H' Q
theorem Kw:PGs X [] GU:=by
 intro pins s σ H vs us Q I r h
 obtain ⟨e,h⟩:=h
 subst e
 cases r
 exact assignInOrder_nil ⟨σ,H,I,h⟩
theorem GL {e:Expr} {es:List Expr} {t:TG} {u:TGs} (h1:PG X e t) (h2:PGs X es u)
 (hs:(assignEach (e::es) X.env).map (·.2)=assign e X.env::(assignEach es X.env).map (·.2):=by rfl):PGs X (e::es) (Ez t u):=by
 intro pins s σ H vs us Q I r h
 obtain ⟨v,vr,e1,h⟩:=h
 subst e1
 cases r with
 | cons r rr =>
  rw [hs]
  refine assignInOrder_cons (thn (h1 pins s σ H _ _ _ I r h) fun _ s1 ⟨σ1,H1,I1,q1⟩=>?_)
  exact h2 pins s1 σ1 H1 _ _ Q I1 rr q1
noncomputable def Km (K:W.Frag) (n:Nat) (t:TGs):TG:=fun v σ H Q=>∃ a xs,v=.ref a/\SqT K H a xs/\xs.length=n/\t xs σ H Q
theorem LD {es:List Expr} {k:Nat} {t:TGs} {n:Nat} (hc:X.calm=true) (h:PGs X es t)
 (hn:(assignEach es X.env).length=n:=by rfl) (hst:(assignEach es X.env).findIdx? (·.1)=none:=by rfl):PG X (.Tuple es k pos) (Km X.K n t):=by
 intro pins s σ H v u Q I r hw
 obtain ⟨a,xs,e1,hq,hl,hw⟩:=hw
 subst e1
 cases r
 obtain ⟨its,rv,ht,hz⟩:=I.tuple hq
 refine assign_Tuple_tuple (I.ok.hd hc) ht (by simp [hn,<- hl,rv.length]) hst fun h' hx=>?_
 have I1:Inv X pins σ H { s with heap:=h' }:=I.kept (t':=s.toks) fun b o e=>hx b o (Nat.ne_of_lt (Heap.lt_size e)) e
 exact h pins _ σ H xs _ Q I1 (by simpa using rv) hw
noncomputable def GO (to ti:TE) (t:CY):TG:=fun v σ H Q=>to σ H fun o H1=>ti σ H1 fun i H2=>t o i v H2 fun H3=>Q σ H3
theorem DC {o i:Expr} {to ti:TE} {t:CY} (ho:PE X o to) (hi:PE X i ti) (hs:D4 X t)
 (ha:∀ v,assign (.Subscript o i pos) X.env v=(do
   let ov <- holding [v] (eval o X.env)
   let iv <- holding [v,ov] (eval i X.env)
   standAt pos
   holding [v,ov,iv] (setItem ov iv v)
   release [v,ov,iv] []):=by intro _;rfl):PG X (.Subscript o i pos) (GO to ti t):=by
 intro pins s σ H v u Q I r h
 rw [ha]
 refine wpAny_bind (wpAny_holding (thn (ho pins s σ H _ I h) fun ov s1 ⟨x,H1,I1,r1,q1⟩=>?_))
 refine wpAny_bind (wpAny_holding (thn (hi pins s1 σ H1 _ I1 q1) fun iv s2 ⟨y,H2,I2,r2,q2⟩=>?_))
 refine wpAny_bind (wpAny_standAt (wpAny_bind (wpAny_holding (thn (hs pins s2 σ H2 x y v ov iv u _ I2 r1 r2 r q2) fun _ s3 ⟨H3,I3,q3⟩=>?_))))
 exact wpAny_release ⟨σ,H3,I3,q3⟩
noncomputable def C0 (te:TE) (g:TG):TS:=fun D σ H=>te σ H fun x H1=>g x σ H1 D.nx
theorem C9 {tg e:Expr} {te:TE} {g:TG} (he:PE X e te) (hg:PG X tg g) (hs:swapsWithSole [tg] e pos.line X.env=pure false:=by rfl) (hw:swappedStores [tg] e X.env=pure none:=by rfl)
 (h1:(assignEach [tg] X.env).map (·.2)=[assign tg X.env]:=by rfl):PS X (.Assign [tg] e pos) (C0 te g):=by
 intro pins s σ H D I h
 refine wpAny_Assign_stores (thn (he pins s σ H _ I h) fun v s1 ⟨x,H1,I1,r1,q1⟩=>?_) hs hw
 rw [h1]
 exact thn (hg pins s1 σ H1 x v _ I1 r1 q1) fun _ s2 q=>q
theorem AX {i:Nat} {x:Str} {e:Expr} {te:TE} {pos':Pos} (hN:X.N.Nodup) (hi:X.N[i]? = some x) (hx:Loc X.env.scope x) (he:PE X e te) (hs:swapsWith e (some (.Name x pos')) pos.line X.env=pure false:=by rfl) (hf:X.fn x=true\/X.env.scope.names.lookup x=some .local:=by first | exact .inl rfl | exact .inr rfl | assumption) :
 PS X (.Assign [.Name x pos'] e pos) (C0 te (Ae i)):=by
 intro pins s σ H D I h
 refine wpAny_Assign_Name (thn (he pins s σ H _ I h) fun v s1 ⟨y,H1,I1,r1,q1⟩=>?_) hs
 exact Do I1 hN hi hx r1 (fun s2 I2=>⟨_,H1,I2,q1⟩) hf
end
section
variable {X:Cx} {pos:Pos}
end
structure It where
 go:Nat->Hp->Prop
 yld:Nat->Hp->V->Hp->Prop
 stop:Nat->Hp->Prop
noncomputable def Az (X:Cx) (pins:List (Addr × Obj)) (H:Hp) (b:Addr):Prop :=
 H b=none/\b≠X.env.locals/\b∉X.fs/\(b∈X.ex\/X.s₀.heap.objs.size<=b)/\(∀ x c,X.env.cells.lookup x=some c->c≠b)/\∀ p∈X.pn++pins,p.1≠b
theorem Inv.fpOk {X:Cx} {pins:List (Addr × Obj)} {σ:St} {H H':Hp} {s:Shared} {b:Addr} (I:Inv X pins σ H s) (hb:s.heap.objs.size<=b) (hn:H' b=none):Az X pins H' b:=by
 refine ⟨hn,Nat.ne_of_gt (Nat.lt_of_lt_of_le I.lt hb),I.nofs hb,.inr (Nat.le_trans I.sz hb),fun x c e z=>?_,fun p hp z=>?_⟩
 ·obtain ⟨v,q⟩:=I.cell x c e
  exact absurd (Nat.lt_of_lt_of_le q.lt (by rw [z];exact hb)) (Nat.lt_irrefl _)
 ·exact absurd (Nat.lt_of_lt_of_le (Heap.lt_size (I.pin p hp).1) (by rw [z];exact hb)) (Nat.lt_irrefl _)
structure Turn (P:Program) (w:World) (K:W.Frag) (tg:Expr) (J:It) (fp:List Addr) (it:Addr) (tn:Nat->Heap->Prop):Prop where
 mem:it∈fp
 obj:∀ i h,tn i h->∀ b∈fp,∃ o,h.get? b=some o/\∀ v,o.data≠.cell v
 keep:∀ i h h',tn i h->(∀ b∈fp,∀ o,h.get? b=some o->h'.get? b=some o)->tn i h'
 item:∀ (X:Cx),X.prog=P->X.w=w->X.K=K->X.calm=true->∀ (i:Nat) (pins:List (Addr × Obj)) (s:Shared) (σ:St) (H:Hp) (E:Value->Shared->Prop),Inv X pins σ H s->(∀ b∈fp,Az X pins H b)->tn i s.heap->J.go i H ->
  wpAny (model P w) X.A (pyNext (.ref it)) (fun r s1=>∃ u,r=some u /\
   wpAny (model P w) X.A (letOwnedTupleGo tg (.ref it) u) (fun _ s2=>∃ x H',Inv X pins σ H' s2/\RelV x u/\J.yld i H x H'/\tn (i+1) s2.heap/\∀ b∈fp,H' b=none) E s1) E s
 done:∀ (X:Cx),X.prog=P->X.w=w->X.K=K->X.calm=true->∀ (i:Nat) (pins:List (Addr × Obj)) (s:Shared) (σ:St) (H:Hp) (E:Value->Shared->Prop),Inv X pins σ H s->(∀ b∈fp,Az X pins H b)->tn i s.heap->J.stop i H ->
  wpAny (model P w) X.A (pyNext (.ref it)) (fun r s1=>r=none/\Inv X pins σ H s1) E s
 self:∀ (A:Around) (i:Nat) (s:Shared) (Q:Value->Shared->Prop) (E:Value->Shared->Prop),tn i s.heap->Q (.ref it) s->wpAny (model P w) A (pyIter (.ref it)) Q E s
noncomputable abbrev TI:=St->Hp->(It->Hp->Prop)->Prop
noncomputable def PIE (X:Cx) (pins:List (Addr × Obj)) (σ:St) (tg:Expr) (R:It->Hp->Prop) (itv:Value) (s2:Shared):Prop :=
 ∃ (it:Addr) (fp:List Addr) (tn:Nat->Heap->Prop) (J:It) (H':Hp),itv=.ref it/\Inv X pins σ H' s2/\Turn X.prog X.w X.K tg J fp it tn/\tn 0 s2.heap/\(∀ b∈fp,Az X pins H' b)/\R J H'
noncomputable def PI (X:Cx) (tg iter:Expr) (wi:TI):Prop :=
 ∀ (pins:List (Addr × Obj)) (s:Shared) (σ:St) (H:Hp) (R:It->Hp->Prop),Inv X pins σ H s->wi σ H R ->
  wpAny (model X.prog X.w) X.A (eval iter X.env) (fun v s1=>wpAny (model X.prog X.w) X.A (pyIter v) (PIE X pins σ tg R) X.xe s1) X.xe s
theorem D3 {M:Model} {A:Around} {E:Value->Shared->Prop} {s:Shared} {tg:Expr} {it:Addr} {u:Value} {o:Obj} {n:String} {vs:Array Value} {Q:Unit->Shared->Prop} (ho:s.heap.get? it=some o) (hc:o.cls=.type n) (hd:o.data=.fields vs)
 (hn:["enumerate","zip","dict_itemiterator","dict_reverseitemiterator","odict_iterator","itertools.zip_longest","itertools.pairwise"].contains n=false) (hQ:Q () s):wpAny M A (letOwnedTupleGo tg (.ref it) u) Q E s:=by
 unfold letOwnedTupleGo
 cases tg <;> first
  | exact wpAny_pure hQ
  | (cases u <;> first
      | exact wpAny_pure hQ
      | (refine wpAny_bind (wpAny_load ho ?_)
         rw [hc,hd]
         show wpAny M A (if (["enumerate","zip","dict_itemiterator","dict_reverseitemiterator","odict_iterator","itertools.zip_longest","itertools.pairwise"].contains n && vs[0]? == some (rawInt _))=true then _ else _) Q E s
         rw [if_neg (by intro h;rw [hn,Bool.false_and] at h;cases h)]
         exact wpAny_pure hQ))
noncomputable def Itl (K:W.Frag) (a:Addr):It :=
 ⟨fun i H=>∃ xs x,SqL K H a xs/\xs[i]? = some x,fun i H x H'=>H'=H/\∀ xs,SqL K H a xs->xs[i]? = some x,fun i H=>∃ xs,SqL K H a xs/\xs.length<=i⟩
noncomputable def Itt (K:W.Frag) (a:Addr):It :=
 ⟨fun i H=>∃ xs x,SqT K H a xs/\xs[i]? = some x,fun i H x H'=>H'=H/\∀ xs,SqT K H a xs->xs[i]? = some x,fun i H=>∃ xs,SqT K H a xs/\xs.length<=i⟩
noncomputable def Itr (lo:Int) (n:Nat):It:=⟨fun i _=>i < n,fun i H x H'=>H'=H/\x=.int (lo+i),fun i _=>n<=i⟩
theorem Lc {P:Program} {w:World} {K:W.Frag} {tg:Expr} (a it:Addr):Turn P w K tg (Itl K a) [it] it (fun i h=>h.IsListIter it a i) where
 mem:=by simp
 obj:=fun i h st b hb=>by
  have e:b=it:=by simpa using hb
  subst e
  obtain ⟨o,e,c,d⟩:=st
  exact ⟨o,e,fun v z=>by rw [d] at z;cases z⟩
 keep:=fun i h h' st k=>st.at fun o e=>k it (by simp) o e
 item:=by
  intro X hP hw hK hc i pins s σ H E I hf st hg
  subst hP hw hK
  obtain ⟨xs,x,hq,hx⟩:=hg
  obtain ⟨its,rv,p,hz⟩:=I.list hq
  obtain ⟨u,hu,ru⟩:=rv.get hx
  obtain ⟨f0,f1,f2,f3,f4,f5⟩:=hf it (by simp)
  refine wpAny_pyNext_list_item st p.isList (x:=u) (by simpa using hu) fun h' st' sb=>?_
  have I1:Inv X pins σ H { s with heap:=h' }:=I.turned (t':=s.toks) (fun b o hb e=>(sb.2 b hb).trans e) f0 f1 f3 f4 f5
  obtain ⟨o,e,c,d⟩:=id st'
  exact ⟨u,rfl,D3 (s:={ s with heap:=h' }) e c d (by decide) ⟨x,H,I1,ru,⟨rfl,fun ys hy=>by rw [I.list_inj hy hq];exact hx⟩,st',fun b hb=>(hf b hb).1⟩⟩
 done:=by
  intro X hP hw hK hc i pins s σ H E I hf st hg
  subst hP hw hK
  obtain ⟨xs,hq,hx⟩:=hg
  obtain ⟨its,rv,p,hz⟩:=I.list hq
  obtain ⟨f0,f1,f2,f3,f4,f5⟩:=hf it (by simp)
  have hl:=rv.length
  exact wpAny_pyNext_list_end (I.ok.hd hc) st p.isList (by simp;lia) fun h' eb=>⟨rfl,I.turned (t':=s.toks) (fun b o hb e=>eb b o hb e) f0 f1 f3 f4 f5⟩
 self:=fun _ _ _ _ _ st h=>wpAny_pyIter_listiter st h
theorem Li {P:Program} {w:World} {K:W.Frag} {tg:Expr} (a it:Addr):Turn P w K tg (Itt K a) [it] it (fun i h=>h.IsTupleIter it a i) where
 mem:=by simp
 obj:=fun i h st b hb=>by
  have e:b=it:=by simpa using hb
  subst e
  obtain ⟨o,e,c,d⟩:=st
  exact ⟨o,e,fun v z=>by rw [d] at z;cases z⟩
 keep:=fun i h h' st k=>st.at fun o e=>k it (by simp) o e
 item:=by
  intro X hP hw hK hc i pins s σ H E I hf st hg
  subst hP hw hK
  obtain ⟨xs,x,hq,hx⟩:=hg
  obtain ⟨its,rv,p,hz⟩:=I.tuple hq
  obtain ⟨u,hu,ru⟩:=rv.get hx
  obtain ⟨f0,f1,f2,f3,f4,f5⟩:=hf it (by simp)
  refine wpAny_pyNext_tuple_item st (show s.heap.IsTuple a its.toArray from p) (x:=u) (by simpa using hu) fun h' st' sb=>?_
  have I1:Inv X pins σ H { s with heap:=h' }:=I.turned (t':=s.toks) (fun b o hb e=>(sb.2 b hb).trans e) f0 f1 f3 f4 f5
  obtain ⟨o,e,c,d⟩:=id st'
  exact ⟨u,rfl,D3 (s:={ s with heap:=h' }) e c d (by decide) ⟨x,H,I1,ru,⟨rfl,fun ys hy=>by rw [I.tuple_inj hy hq];exact hx⟩,st',fun b hb=>(hf b hb).1⟩⟩
 done:=by
  intro X hP hw hK hc i pins s σ H E I hf st hg
  subst hP hw hK
  obtain ⟨xs,hq,hx⟩:=hg
  obtain ⟨its,rv,p,hz⟩:=I.tuple hq
  obtain ⟨f0,f1,f2,f3,f4,f5⟩:=hf it (by simp)
  have hl:=rv.length
  exact wpAny_pyNext_tuple_end (I.ok.hd hc) st (show s.heap.IsTuple a its.toArray from p) (by simp;lia) fun h' eb=>⟨rfl,I.turned (t':=s.toks) (fun b o hb e=>eb b o hb e) f0 f1 f3 f4 f5⟩
 self:=fun _ _ _ _ _ st h=>wpAny_pyIter_tupleiter st h
theorem MV {P:Program} {w:World} {K:W.Frag} {tg:Expr} (it:Addr) (lo:Int) (n:Nat):Turn P w K tg (Itr lo n) [it] it (fun i h=>IsRangeIter h it (lo+(i:Nat) * 1) ((n:Int) - (i:Nat)) 1) where
 mem:=by simp
 obj:=fun i h st b hb=>by
  have e:b=it:=by simpa using hb
  subst e
  exact ⟨_,st,fun v z=>by
   have z':Data.fields _=Data.cell v:=z
   cases z'⟩
 keep:=fun i h h' st k=>k it (by simp) _ st
 item:=by
  intro X hP hw hK hc i pins s σ H E I hf st hg
  subst hP hw hK
  obtain ⟨f0,f1,f2,f3,f4,f5⟩:=hf it (by simp)
  have W:=Walks.range (prog:=X.prog) (w:=X.w) (I.ok.hd hc) it lo 1 n
  refine W.item i s _ _ hg st fun v h' tk hv st' kk=>?_
  obtain ⟨t,rfl⟩:=hv
  have I1:Inv X pins σ H { s with heap:=h',toks:=tk }:=I.turned (fun b o hb e=>kk b o (by simpa using hb) e) f0 f1 f3 f4 f5
  refine ⟨_,rfl,D3 (s:={ s with heap:=h',toks:=tk }) (n:="range_iterator") st' rfl rfl (by decide) ⟨.int (lo+i),H,I1,⟨t,?_⟩,⟨rfl,rfl⟩,st',fun b hb=>(hf b hb).1⟩⟩
  rw [Int.mul_one]
 done:=by
  intro X hP hw hK hc i pins s σ H E I hf st hg
  subst hP hw hK
  obtain ⟨f0,f1,f2,f3,f4,f5⟩:=hf it (by simp)
  exact wpAny_pyNext_range_end (I.ok.hd hc) st (by have:n<=i:=hg;lia) fun h' eb=>⟨rfl,I.turned (t':=s.toks) (fun b o hb e=>eb b o hb e) f0 f1 f3 f4 f5⟩
 self:=fun _ _ _ _ _ st h=>wpAny_pyIter_rangeiter st h
section
variable {X:Cx} {tg:Expr}
theorem Kx {pins:List (Addr × Obj)} {σ:St} {H:Hp} {s:Shared} {R:It->Hp->Prop} {E:Value->Shared->Prop} {lo hi:Int} {t u v:Tok} {tk:Nat} (I:Inv X pins σ H s) (h1 : -(2 ^ 62)<=lo) (h2:lo < 2 ^ 62) (h3 : -(2 ^ 62)<=hi) (h4:hi < 2 ^ 62)
 (q:R (Itr lo (hi - lo).toNat) H):wpAny (model X.prog X.w) X.A (pyIter (.ref s.heap.objs.size)) (PIE X pins σ tg R) E { s with heap:=s.heap.push { cls:=.type "range",data:=.fields #[.int lo t,.int hi u,.int 1 v] },toks:=tk }:=by
 refine wpAny_pyIter_range (IsRange.new ..) (small_one h1 h2 h3 h4) ?_
 have I1:Inv X pins σ H { s with heap:=s.heap.push { cls:=.type "range",data:=.fields #[.int lo t,.int hi u,.int 1 v] },toks:=tk }:=I.kept fun b o e=>Heap.get?_push_of_some _ e
 refine ⟨(s.heap.push { cls:=.type "range",data:=.fields #[.int lo t,.int hi u,.int 1 v] }).objs.size,[(s.heap.push { cls:=.type "range",data:=.fields #[.int lo t,.int hi u,.int 1 v] }).objs.size],_,_,H,rfl,
  I1.kept (t':=tk) fun b o e=>Heap.get?_push_of_some _ e,MV _ lo (hi - lo).toNat,?_,fun b hb=>?_,q⟩
 ·have e1:lo+((0:Nat):Int) * 1=lo:=by simp
  have e2:(((hi - lo).toNat:Nat):Int) - ((0:Nat):Int)=Builtin.Range.rangeSize lo hi 1:=by rw [rangeSize_one];split <;> lia
  show IsRangeIter _ _ (lo+((0:Nat):Int) * 1) ((((hi - lo).toNat:Nat):Int) - ((0:Nat):Int)) 1
  rw [e1,e2]
  exact Heap.get?_push_size _ rfl
 ·have e:b=(s.heap.push { cls:=.type "range",data:=.fields #[.int lo t,.int hi u,.int 1 v] }).objs.size:=by simpa using hb
  subst e
  exact I1.fpOk (Nat.le_refl _) (I1.hok.fresh (Nat.le_refl _))
noncomputable def HG (ta:TA):TI:=fun σ H R=>ta σ H fun vs H1=>∃ j:Int,vs=[.int j] /\ -(2 ^ 62)<=j/\j < 2 ^ 62/\R (Itr 0 j.toNat) H1
theorem A7 {a:Expr} {ta:TA} {p pos:Pos} (hg:Gl X "range") (hm:X.mg "range" = none) (ha:PA X [a] ta) (hs:starEach [a] X.env=[(false,eval a X.env)]:=by rfl):PI X tg (.Call (.Name "range" p) [a] [] pos) (HG ta):=by
 intro pins s σ H R I h
 refine Call_ (BZ I hg hm boot_range (PyProof.Rows.callWith_type1 (thn (ha pos pins s σ H _ I h) fun us s1 ⟨vs,H1,I1,r1,q1⟩=>?_) hs rfl))
 obtain ⟨j,e,q1,q2,q⟩:=q1
 subst e
 cases r1 with
 | cons r rr =>
  cases rr
  obtain ⟨t,rfl⟩:=r
  exact call_range_1 (Kx I1 (by lia) (by lia) q1 q2 (by simpa using q))
noncomputable def Eu (wi:TI) (g:TG) (tb:TS):TS:=fun D σ H=>wi σ H fun J H1=>∃ W:Nat->Nat->St->Hp->Prop,(∃ m,W 0 m σ H1)/\∀ i m σ H,W i m σ H ->
 (J.stop i H/\D.nx σ H)\/(J.go i H/\∃ N:St->Hp->Prop,(∀ σ' H',N σ' H'->∃ m',m' < m/\W (i+1) m' σ' H')/\∀ x H',J.yld i H x H'->g x σ H' fun σ2 H2=>tb { D with nx:=N,ct:=N,bk:=D.nx } σ2 H2)
noncomputable def A6 (fp:List Addr) (h:Heap):List (Addr × Obj):=fp.filterMap fun b=>(h.get? b).map fun o=>(b,o)
theorem CF {fp:List Addr} {h:Heap} {b:Addr} {o:Obj} (hb:b∈fp) (e:h.get? b=some o):(b,o)∈A6 fp h:=List.mem_filterMap.mpr ⟨b,hb,by rw [e];rfl⟩
theorem Em {fp:List Addr} {h:Heap} {p:Addr × Obj} (hp:p∈A6 fp h):p.1∈fp/\h.get? p.1=some p.2:=by
 obtain ⟨b,hb,e⟩:=List.mem_filterMap.mp hp
 cases q:h.get? b with
 | none=>rw [q] at e;cases e
 | some o =>
  rw [q] at e
  have e':(b,o)=p:=Option.some.inj e
  subst e'
  exact ⟨hb,q⟩
theorem Inv.pinned {pins:List (Addr × Obj)} {σ:St} {H:Hp} {s:Shared} {fp:List Addr} (I:Inv X pins σ H s) (hf:∀ b∈fp,Az X pins H b) (ho:∀ b∈fp,∃ o,s.heap.get? b=some o/\∀ v,o.data≠.cell v):Inv X (pins++A6 fp s.heap) σ H s :=
 I.pins_of fun p hp=>(List.mem_append.mp hp).elim (fun z=>I.pin p (List.mem_append_right _ z)) fun z=>by
  obtain ⟨hb,e⟩:=Em z
  obtain ⟨f0,f1,f2,_⟩:=hf p.1 hb
  obtain ⟨o,e',d⟩:=ho p.1 hb
  rw [e] at e';cases e'
  exact ⟨e,f0,f1,f2,d⟩
theorem Inv.unpinned {pins pl:List (Addr × Obj)} {σ:St} {H:Hp} {s:Shared} (I:Inv X (pins++pl) σ H s):Inv X pins σ H s:=I.pins_of fun p hp=>I.pin p (List.mem_append_right _ (List.mem_append_left _ hp))
theorem Bw {iter:Expr} {body:List Stmt} {wi:TI} {g:TG} {tb:TS} {pos:Pos} (hp:PassesOwn (model X.prog X.w) X.A X.env X.xe) (hc:X.calm=true) (hi:PI X tg iter wi) (hg:PG X tg g) (hb:PSs X body tb)
 (hs:∀ x,foldedSetIterable iter X.env x=pure x:=by intro _;rfl):PS X (.For tg iter body [] pos) (Eu wi g tb):=by
 intro pins s σ H D I h
 refine wpAny_For (thn (hi pins s σ H _ I h) fun v s1 h1=>thn h1 fun itv s2 h2=>?_) hs
 obtain ⟨it,fp,tn,J,H2,e,I2,T,st2,f2,W,⟨m0,w0⟩,turn⟩:=h2
 subst e
 -- what stays true of the iterator's objects through the loop
 have stat:∀ {H':Hp},(∀ b∈fp,H' b=none)->∀ b∈fp,Az X pins H' b:=fun hn b hb=>⟨hn b hb,(f2 b hb).2⟩
 refine codeAny_forLoop_any (fun n s'=>∃ i σ' H',Inv X pins σ' H' s'/\tn i s'.heap/\(∀ b∈fp,H' b=none)/\W i n σ' H') ?_ m0 ⟨0,σ,H2,I2,st2,fun b hb=>(f2 b hb).1,w0⟩
 rintro n s3 ⟨i,σ3,H3,I3,st3,fr3,w3⟩
 rcases turn i n σ3 H3 w3 with ⟨stop,qn⟩ | ⟨go,N,hN,step⟩
 ·refine wpAny_passesOwn hp (thn (T.done X rfl rfl rfl hc i pins s3 σ3 H3 X.xe I3 (stat fr3) st3 stop) fun r s4 ⟨hr,I4⟩=>?_)
  subst hr
  exact wpAny_execs_nil ⟨σ3,H3,I4,qn⟩
 ·refine wpAny_passesOwn hp (thn (T.item X rfl rfl rfl hc i pins s3 σ3 H3 X.xe I3 (stat fr3) st3 go) fun r s4 ⟨u,hr,h4⟩=>?_)
  subst hr
  refine wpAny_passesOwn hp (thn h4 fun _ s5 ⟨x,H5,I5,r5,y5,st5,fr5⟩=>?_)
  have I5':=I5.pinned (stat fr5) (T.obj _ _ st5)
  refine wpAny_passesOwn hp (thn (hg _ s5 σ3 H5 x u _ I5' r5 (step x H5 y5)) fun _ s6 ⟨σ6,H6,I6,q6⟩=>?_)
  refine wpAny_passesOwn hp (thn (hb _ s6 σ6 H6 _ I6 q6) fun f s7 q7=>?_)
  have again:∀ {σ7:St} {H7:Hp},Inv X (pins++A6 fp s5.heap) σ7 H7 s7->N σ7 H7->∃ m,m < n/\∃ i σ' H',Inv X pins σ' H' s7/\tn i s7.heap/\(∀ b∈fp,H' b=none)/\W i m σ' H':=fun {σ7 H7} I7 n7=>by
   obtain ⟨m',hm,w7⟩:=hN σ7 H7 n7
   refine ⟨m',hm,i+1,σ7,H7,I7.unpinned,T.keep _ _ _ st5 fun b hb o e=>(I7.pin (b,o) (List.mem_append_right _ (List.mem_append_right _ (CF hb e)))).1,fun b hb=>?_,w7⟩
   obtain ⟨o,e,d⟩:=T.obj _ _ st5 b hb
   exact (I7.pin (b,o) (List.mem_append_right _ (List.mem_append_right _ (CF hb e)))).2.1
  cases f with
  | next=>obtain ⟨σ7,H7,I7,n7⟩:=q7;exact again I7 n7
  | cont=>obtain ⟨σ7,H7,I7,n7⟩:=q7;exact again I7 n7
  | brk=>obtain ⟨σ7,H7,I7,q7⟩:=q7;exact ⟨σ7,H7,I7.unpinned,q7⟩
  | ret v=>obtain ⟨x7,σ7,H7,I7,r7,q7⟩:=q7;exact ⟨x7,σ7,H7,I7.unpinned,r7,q7⟩
end
theorem CZ {lo:Int} {n:Nat} {g:TG} {tb:TS} {D:Ends} {σ:St} {H:Hp} (Pv:Nat->St->Hp->Prop) (h0:Pv 0 σ H)
 (hs:∀ i σ H,i < n->Pv i σ H->g (.int (lo+i)) σ H fun σ2 H2=>tb { D with nx:=Pv (i+1),ct:=Pv (i+1),bk:=D.nx } σ2 H2) (hd:∀ σ H,Pv n σ H->D.nx σ H) :
 ∃ W:Nat->Nat->St->Hp->Prop,(∃ m,W 0 m σ H)/\∀ i m σ H,W i m σ H ->
  ((Itr lo n).stop i H/\D.nx σ H)\/((Itr lo n).go i H/\∃ N:St->Hp->Prop,(∀ σ' H',N σ' H'->∃ m',m' < m/\W (i+1) m' σ' H')/\∀ x H',(Itr lo n).yld i H x H'->g x σ H' fun σ2 H2=>tb { D with nx:=N,ct:=N,bk:=D.nx } σ2 H2):=by
 refine ⟨fun i m σ H=>m=n - i/\i<=n/\Pv i σ H,⟨n,by simp,Nat.zero_le _,h0⟩,?_⟩
 rintro i m σ H ⟨rfl,hi,p⟩
 by_cases hlt:i < n
 ·refine .inr ⟨hlt,Pv (i+1),fun σ' H' p'=>⟨n - (i+1),by lia,rfl,hlt,p'⟩,fun x H' y=>?_⟩
  obtain ⟨e,y⟩:=y
  subst e y
  exact hs i σ _ hlt p
 ·have e:i=n:=by lia
  subst e
  exact .inl ⟨Nat.le_refl _,hd σ H p⟩
noncomputable abbrev R2:=V->V->Hp->VK->Prop
noncomputable def OpR (X:Cx) (f:Value->Value->Sem Value) (r:R2):Prop :=
 ∀ (pins:List (Addr × Obj)) (s:Shared) (σ:St) (H:Hp) (x y:V) (v u:Value) (Q:VK),Inv X pins σ H s->RelV x v->RelV y u->r x y H Q ->
  wpAny (model X.prog X.w) X.A (f v u) (EP X pins σ Q) X.xe s
noncomputable def CallR (X:Cx) (f:Value) (r:List V->Hp->VK->Prop):Prop :=
 ∀ (pins:List (Addr × Obj)) (s:Shared) (σ:St) (H:Hp) (xs:List V) (us:List Value) (Q:VK),Inv X pins σ H s->Vals xs us->r xs H Q ->
  wpAny (model X.prog X.w) X.A (call f us) (EP X pins σ Q) X.xe s
noncomputable def tOp (r:R2) (ta tb:TE):TE:=fun σ H Q=>ta σ H fun x H1=>tb σ H1 fun y H2=>r x y H2 Q
noncomputable def rI (C:Int->Int->Prop) (g:Int->Int->V):R2:=fun x y H Q=>∃ i j,x=.int i/\y=.int j/\C i j/\Q (g i j) H
noncomputable def rI0 (g:Int->Int->V):R2:=fun x y H Q=>∃ i j,x=.int i/\y=.int j/\Q (g i j) H
section
variable {X:Cx} {a b c:Expr} {ta tb tc:TE} {pos:Pos}
theorem Dp (ha:PE X a ta) (hb:PE X b tb) {pins:List (Addr × Obj)} {s:Shared} {σ:St} {H:Hp} {R:V->V->Hp->Prop} (I:Inv X pins σ H s)
 (h:ta σ H fun x H1=>tb σ H1 fun y H2=>R x y H2) {Q:Value->Shared->Prop} {f:Value->Value->Sem Value}
 (hf:∀ v u s2 x y H2,Inv X pins σ H2 s2->RelV x v->RelV y u->R x y H2->wpAny (model X.prog X.w) X.A (f v u) Q X.xe s2) :
 wpAny (model X.prog X.w) X.A (eval a X.env) (fun v s₁=>wpAny (model X.prog X.w) X.A (eval b X.env) (fun u s₂=>wpAny (model X.prog X.w) X.A (f v u) Q X.xe s₂) X.xe s₁) X.xe s:=by
 refine thn (ha pins s σ H _ I h) fun v s1 ⟨x,H1,I1,r1,q1⟩=>?_
 refine thn (hb pins s1 σ H1 _ I1 q1) fun u s2 ⟨y,H2,I2,r2,q2⟩=>?_
 exact hf v u s2 x y H2 I2 r1 r2 q2
theorem AL {op:Operator} {r:R2} (ho:OpR X (binaryOp op) r) (ha:PE X a ta) (hb:PE X b tb):PE X (.BinOp a op b pos) (tOp r ta tb):=by
 intro pins s σ H Q I h
 exact wpAny_BinOp (Dp ha hb I h fun v u s2 x y H2 I2 rx ry q=>ho pins s2 σ H2 x y v u Q I2 rx ry q)
theorem opI {f:Value->Value->Sem Value} {C:Int->Int->Prop} {g:Int->Int->Int}
 (rule:∀ (i j:Int) (t u:Tok) (s:Shared) (Q:Value->Shared->Prop) (E:Value->Shared->Prop),C i j->Q (.int (g i j) s.toks) { s with toks:=s.toks+1 } -> wpAny (model X.prog X.w) X.A (f (.int i t) (.int j u)) Q E s) :
 OpR X f (rI C fun i j=>.int (g i j)):=by
 intro pins s σ H x y v u Q I rx ry h
 obtain ⟨i,j,rfl,rfl,hc,q⟩:=h
 obtain ⟨t,rfl⟩:=rx
 obtain ⟨t',rfl⟩:=ry
 exact rule i j t t' s _ _ hc ⟨.int (g i j),H,I.tok _,⟨_,rfl⟩,q⟩
theorem Fy {f:Value->Value->Sem Value} {g:Int->Int->Int}
 (rule:∀ (i j:Int) (t u:Tok) (s:Shared) (Q:Value->Shared->Prop) (E:Value->Shared->Prop),Q (.int (g i j) s.toks) { s with toks:=s.toks+1 } -> wpAny (model X.prog X.w) X.A (f (.int i t) (.int j u)) Q E s) :
 OpR X f (rI0 fun i j=>.int (g i j)):=by
 intro pins s σ H x y v u Q I rx ry h
 obtain ⟨i,j,rfl,rfl,q⟩:=h
 obtain ⟨t,rfl⟩:=rx
 obtain ⟨t',rfl⟩:=ry
 exact rule i j t t' s _ _ ⟨.int (g i j),H,I.tok _,⟨_,rfl⟩,q⟩
theorem ED {f:Value->Value->Sem Value} {g:Int->Int->Bool}
 (rule:∀ (i j:Int) (t u:Tok) (s:Shared) (Q:Value->Shared->Prop) (E:Value->Shared->Prop),Q (.bool (g i j)) s->wpAny (model X.prog X.w) X.A (f (.int i t) (.int j u)) Q E s) :
 OpR X f (rI0 fun i j=>.bl (g i j)):=by
 intro pins s σ H x y v u Q I rx ry h
 obtain ⟨i,j,rfl,rfl,q⟩:=h
 obtain ⟨t,rfl⟩:=rx
 obtain ⟨t',rfl⟩:=ry
 exact rule i j t t' s _ _ ⟨.bl (g i j),H,I,rfl,q⟩
noncomputable def C3 (i j:Int):Prop:=0<=j/\j<=1000000/\i.natAbs < 2 ^ 64
noncomputable def CMul (i j:Int):Prop:=(-(2 ^ 64) < i/\i < 2 ^ 64)\/(-(2 ^ 64) < j/\j < 2 ^ 64)
theorem CMul.ok {i j:Int} (h:CMul i j):IntMulOk i j:=by
 rcases h with ⟨h1,h2⟩ | ⟨h1,h2⟩
 ·exact .of_left (intBits_le_64 h1 h2)
 ·exact .of_right (intBits_le_64 h1 h2)
theorem Ir (k:Nat):(0:Int)<=2 ^ k:=by
 rw [two_pow_cast]
 exact Int.natCast_nonneg _
theorem Gz:OpR X (binaryOp .Add) (rI0 fun i j=>.int (i+j)):=Fy fun _ _ _ _ _ _ _ q=>add_int q
theorem Jz:OpR X (binaryOp .Mod) (rI (fun _ j=>0 < j) fun i j=>.int (i % j)):=opI fun i j _ _ _ _ _ hc q=>by
 have h1:(0:Int) < j:=hc
 exact mod_int' (by lia) (by rw [Int.fmod_eq_emod_of_nonneg i (by lia)];exact q)
theorem Kq:OpR X (binaryOp .Pow) (rI C3 fun i j=>.int (i ^ j.toNat)):=opI fun _ _ _ _ _ _ _ hc q=>pow_int_small hc.1 hc.2.1 hc.2.2 q
theorem KY:OpR X (binaryOp .LShift) (rI C3 fun i j=>.int (i * 2 ^ j.toNat)):=opI fun _ _ _ _ _ _ _ hc q=>lshift_int_small hc.1 hc.2.1 hc.2.2 q
theorem Jp:OpR X (binaryOp .RShift) (rI (fun _ j=>0<=j) fun i j=>.int (i / 2 ^ j.toNat)):=opI fun i j _ _ _ _ _ hc q =>
 rshift_int hc (by rw [Int.fdiv_eq_ediv_of_nonneg i (Ir _)];exact q)
theorem Lr:OpR X (binaryOp .BitAnd) (rI0 fun i j=>.int (Builtin.bitAnd i j)):=Fy fun _ _ _ _ _ _ _ q=>and_int q
end
section
variable {X:Cx} {a b c:Expr} {ta tb tc:TE} {pos:Pos}
theorem HS {pins:List (Addr × Obj)} {σ:St} {H:Hp} {s:Shared} {Q:VK} {k k':Bool} (I:Inv X pins σ H s) (q:Q (.bl k) H) (e:k=k'):EP X pins σ Q (.bool k') s:=by
 subst e
 exact ⟨.bl k,H,I,rfl,q⟩
theorem MF:OpR X (compareOp .Lt) (rI0 fun i j=>.bl (decide (i < j))):=ED fun _ _ _ _ _ _ _ q=>lt_int q
theorem JW:OpR X (compareOp .LtE) (rI0 fun i j=>.bl (decide (i<=j))):=ED fun _ _ _ _ _ _ _ q=>le_int q
theorem JL:OpR X (compareOp .Gt) (rI0 fun i j=>.bl (decide (j < i))):=ED fun _ _ _ _ _ _ _ q=>gt_int q
theorem Iw:OpR X (compareOp .IsNot) (fun x y H Q=>y=.non/\Q (.bl (!decide (x=.non))) H):=by
 intro pins s σ H x y v u Q I rx ry h
 obtain ⟨rfl,q⟩:=h
 cases ry
 refine isnot_none_gen (HS I q ?_)
 cases x <;> first
  | (cases rx;rfl)
  | (obtain ⟨t,rfl⟩:=rx;rfl)
theorem JO {op:CmpOp} {r:R2} (ho:OpR X (compareOp op) r) (ha:PE X a ta) (hb:PE X b tb) (hm:behindInMarks op b=false):PE X (.Compare a [op] [b] pos) (tOp r ta tb):=by
 intro pins s σ H Q I h
 exact wpAny_Compare1 (Dp ha hb I h fun v u s2 x y H2 I2 rx ry q=>ho pins s2 σ H2 x y v u Q I2 rx ry q) hm
theorem CB:(sizeLine:Nat) < 2 ^ 63:=by rw [sizeLine_eq];decide
theorem Ju:OpR X (binaryOp .Add) (fun x y H Q=>∃ i j,x=.str i/\y=.str j/\i.length+j.length<=sizeLine/\Q (.str (i++j)) H):=by
 intro pins s σ H x y v u Q I rx ry h
 obtain ⟨i,j,rfl,rfl,hz,q⟩:=h
 obtain ⟨t,rfl⟩:=rx
 obtain ⟨t',rfl⟩:=ry
 exact add_str (fun t' tk=>⟨.str (i++j),H,I.tok _,⟨_,rfl⟩,q⟩) hz
theorem B8 {x:V} {us:List Value} (r:Vals [x] us):∃ u,us=[u]/\RelV x u:=by
 cases r with
 | cons r1 r2=>cases r2;exact ⟨_,rfl,r1⟩
theorem DF {x y:V} {us:List Value} (r:Vals [x,y] us):∃ u w',us=[u,w']/\RelV x u/\RelV y w':=by
 cases r with
 | cons r1 r2 =>
  cases r2 with
  | cons r3 r4=>cases r4;exact ⟨_,_,rfl,r1,r3⟩
theorem call_int1:CallR X (.type "int") (fun xs H Q=>(∃ i,xs=[.int i]/\Q (.int i) H)\/∃ k,xs=[.bl k]/\Q (.int (if k then 1 else 0)) H):=by
 intro pins s σ H xs us Q I r h
 rcases h with ⟨i,rfl,q⟩ | ⟨k,rfl,q⟩
 ·obtain ⟨u,rfl,t,rfl⟩:=B8 r
  exact call_int_int ⟨.int i,H,I,⟨_,rfl⟩,q⟩
 ·obtain ⟨u,rfl,r1⟩:=B8 r
  cases r1
  exact call_int_bool ⟨.int (if k then 1 else 0),H,I.tok _,⟨_,rfl⟩,q⟩
noncomputable def FG (K:W.Frag) (x:V) (H:Hp) (n:Nat):Prop :=
 match x with
 | .str y=>y.length<=sizeLine/\n=y.length
 | .byt y=>y.size<=sizeLine/\n=y.size
 | .ref p=>(∃ xs,SqL K H p xs/\n=xs.length)\/∃ xs,SqT K H p xs/\n=xs.length
 | _=>False
theorem call_len:CallR X (.builtin "len") (fun xs H Q=>∃ x n,xs=[x]/\FG X.K x H n/\Q (.int n) H):=by
 intro pins s σ H xs us Q I r h
 obtain ⟨x,n,rfl,e,q⟩:=h
 obtain ⟨u,rfl,rx⟩:=B8 r
 have hl:=CB
 have hs:sizeLine=16777216:=sizeLine_eq
 cases x with
 | str y =>
  obtain ⟨t,rfl⟩:=rx
  obtain ⟨hy,e'⟩:y.length<=sizeLine/\n=y.length:=e
  subst e'
  exact len_str (by lia) ⟨.int _,H,I.tok _,⟨_,rfl⟩,q⟩
 | byt y =>
  obtain ⟨t,rfl⟩:=rx
  obtain ⟨hy,e'⟩:y.size<=sizeLine/\n=y.size:=e
  subst e'
  exact PySem.W.len_bytes (by lia) ⟨.int _,H,I.tok _,⟨_,rfl⟩,q⟩
 | ref p =>
  cases rx
  have e':(∃ xs,SqL X.K H p xs/\n=xs.length)\/∃ xs,SqT X.K H p xs/\n=xs.length:=e
  rcases e' with ⟨xs,hx,e'⟩ | ⟨xs,hx,e'⟩
  ·subst e'
   obtain ⟨its,r',pl,hz⟩:=I.list hx
   have hlen:=r'.length
   exact Calls.call_len_list pl.isList (by simp only [List.size_toArray];lia) ⟨.int xs.length,H,I.tok _,⟨_,by simp only [List.size_toArray];rw [hlen]⟩,q⟩
  ·subst e'
   obtain ⟨its,r',pl,hz⟩:=I.tuple hx
   have hlen:=r'.length
   exact len_tuple pl (by simp only [List.size_toArray];lia) ⟨.int xs.length,H,I.tok _,⟨_,by simp only [List.size_toArray];rw [hlen]⟩,q⟩
 | _=>exact (show False from e).elim
end
structure ObjM (h:Heap) (x dx C:Addr) (mA:Str->Option Value):Prop where
 obj:h.get? x=some (PySem.W.instObj C dx)
 ns:h.Ns1 dx mA
 ne:dx≠x
theorem Gw {h:Heap} {dx:Addr} {mA:Str->Option Value} (n:h.Ns1 dx mA):∃ od,h.get? dx=some od/\∀ name,PySem.W.lookIn name od=some (mA name):=by
 obtain ⟨o,es,ep,ho,hd,hk,_,hm⟩:=n
 refine ⟨o,ho,fun name=>?_⟩
 have e:=hm name
 unfold nsFind findBy at e
 rw [<- Array.find?_toList] at e
 unfold PySem.W.lookIn
 rw [hd]
 dsimp only
 split
 ·rename_i y q
  rw [q] at e
  exact congrArg some e
 ·rename_i q
  rw [q] at e
  have a:es.toList.any (·.refKey)=false:=by
   rw [List.any_eq_false]
   intro y hy
   obtain ⟨z,t,hkey⟩:=hk y (Array.mem_toList_iff.mp hy)
   simp [DictEntry.refKey,hkey]
  have a':¬ es.toList.any (·.refKey)=true:=by rw [a];exact Bool.false_ne_true
  rw [if_neg a']
  exact congrArg some e
theorem ObjM.look {h:Heap} {x dx C:Addr} {mA:Str->Option Value} (I:ObjM h x dx C mA):∃ od,PySem.W.InstAt h x (PySem.W.instObj C dx) C (some od)/\∀ name,PySem.W.lookIn name od=some (mA name) :=
 let ⟨od,ho,hl⟩:=Gw I.ns
 ⟨od,⟨I.obj,rfl,rfl,ho⟩,hl⟩
section
variable {prog:Program} {w:World} {A:Around} {E:Value->Shared->Prop} {s:Shared} {K:W.Frag} {x dx C f:Addr} {mA:Str->Option Value} {name:Str} {v:Value}
end
noncomputable def BE (f:Str) (v:V):List (Str × V)->List (Str × V)
 | []=>[(f,v)]
 | (g,x)::r=>if g=f then (g,v)::r else (g,x)::BE f v r
theorem GQ (f g:Str) (v:V):∀ fs:List (Str × V),(BE f v fs).lookup g=if g=f then some v else fs.lookup g
 | []=>by
  show List.lookup g [(f,v)]=_
  by_cases h:g=f
  ·have hb:(g == f)=true:=beq_iff_eq.mpr h
   simp only [List.lookup,hb,if_pos h]
  ·have hb:(g == f)=false:=beq_eq_false_iff_ne.mpr h
   simp only [List.lookup,hb,if_neg h]
 | (k,x)::r=>by
  have ih:=GQ f g v r
  rw [show BE f v ((k,x)::r)=(if k=f then (k,v)::r else (k,x)::BE f v r) from rfl]
  by_cases hk:k=f
  ·rw [if_pos hk]
   by_cases h:g=k
   ·have hb:(g == k)=true:=beq_iff_eq.mpr h
    simp only [List.lookup,hb,if_pos (h.trans hk)]
   ·have hb:(g == k)=false:=beq_eq_false_iff_ne.mpr h
    simp only [List.lookup,hb,if_neg (fun e:g=f=>h (e.trans hk.symm))]
  ·rw [if_neg hk]
   by_cases h:g=k
   ·have hb:(g == k)=true:=beq_iff_eq.mpr h
    simp only [List.lookup,hb,if_neg (fun e:g=f=>hk (h.symm.trans e))]
   ·have hb:(g == k)=false:=beq_eq_false_iff_ne.mpr h
    simp only [List.lookup,hb]
    exact ih
theorem RelO.some_of {v:V} {o:Option Value} (r:RelO (some v) o):∃ u,o=some u/\RelV v u:=by
 cases o with
 | none=>exact (show False from r).elim
 | some u=>exact ⟨u,rfl,r⟩
theorem RelO.none_of {o:Option Value} (r:RelO none o):o=none:=by
 cases o with
 | none=>rfl
 | some u=>exact (show False from r).elim
theorem MD {v:V} {u:Value} (r:RelV v u):PySem.W.handedIn u=true:=by
 cases v with
 | non=>cases (show u=Value.none from r);rfl
 | bl b=>cases (show u=Value.bool b from r);rfl
 | int i=>obtain ⟨t,e⟩:=(show ∃ t,u=Value.int i t from r);cases e;rfl
 | str x=>obtain ⟨t,e⟩:=(show ∃ t,u=Value.str x t from r);cases e;rfl
 | byt b=>obtain ⟨t,e⟩:=(show ∃ t,u=Value.bytes b t from r);cases e;rfl
 | flt b=>obtain ⟨t,e⟩:=(show ∃ t,u=Value.float b t from r);cases e;rfl
 | ref a=>cases (show u=Value.ref a from r);rfl
 | ty n=>cases (show u=Value.type n from r);rfl
section
variable {P:Program} {w:World} {H H':Hp} {h h':Heap} {a C dx:Addr} {fs fs':List (Str × V)}
theorem Ll (hok:HOk P w H h) (e:H a=some (.ins C dx fs)):∃ mA,ObjM h a dx C mA/\(∀ f,RelO (fs.lookup f) (mA f))/\PySem.Within mA (fs.map (·.1))/\fs.length<=1000/\H dx=some (.own a):=by
 obtain ⟨d,z,ne,ob,mA,n,r,q⟩:=(show ObjOk P w H h a (.ins C dx fs) from hok a _ e)
 exact ⟨mA,⟨ob,n,ne⟩,r,q,z,d⟩
end
structure Cls (K:W.Frag) (C:Addr):Prop where
 pg:PySem.W.plainGet K C Str.empty=true
 hd:PySem.W.hasDictIn K C=true
 po:PySem.W.plainOver K C=true
 sa:PySem.W.findIn K (.ref C) "__setattr__" = some (some (.builtin "object.__setattr__"))
theorem Cls.get {K:W.Frag} {C:Addr} (c:Cls K C) (f:Str):PySem.W.plainGet K C f=true:=c.pg
noncomputable def Bq (K:W.Frag) (C:Addr) (f:Str):Prop:=PySem.W.findIn K (.ref C) f=some none
structure Con (K:W.Frag) (C:Addr) (f:Str) (v:V) (u:Value):Prop where
 at_:PySem.W.findIn K (.ref C) f=some (some u)
 rel:RelV v u
 get:PySem.W.specialIn K u "__get__" = some none
 cp:PySem.W.copiedNames.contains f=false
structure Meth (K:W.Frag) (C:Addr) (m:Str) (f:Addr):Prop where
 at_:PySem.W.findIn K (.ref C) m=some (some (.ref f))
 fn:PySem.W.isFn K (.ref f)=true
 kp:PySem.W.keepIn K (.ref f)=true
section
variable {X:Cx} {pins:List (Addr × Obj)} {σ:St} {H:Hp} {s:Shared} {a C dx:Addr} {fs:List (Str × V)} {f:Str} {v:V} {A:Around} {E:Value->Shared->Prop}
theorem Kp {prog:Program} {w:World} {env:Env} {e:Expr} {f:Str} {pos:Pos} {s:Shared} {Q:Value->Shared->Prop} (hb:attributeBase e f env (eval e env)=eval e env)
 (h:wpAny (model prog w) A (eval e env) (fun o s₁=>wpAny (model prog w) A (getAttr o f true) Q E s₁) E s):wpAny (model prog w) A (eval (.Attribute e f pos) env) Q E s :=
 Attribute_any_ h (by rw [arm_eval_Attribute,hb])
end
section
variable {X:Cx} {o e value:Expr} {f:Str} {pos pos' tpos:Pos} {ta tv:TE}
end
section
variable {X:Cx} {pins:List (Addr × Obj)} {σ:St} {H:Hp} {s:Shared} {A:Around} {E:Value->Shared->Prop} {Q:Value->Shared->Prop} {c:Value} {b:Bool}
inductive TyOf (K:W.Frag) (H:Hp):V->Value->Prop where
 | non:TyOf K H .non (.type "NoneType")
 | bl (x:Bool):TyOf K H (.bl x) (.type "bool")
 | int (i:Int):TyOf K H (.int i) (.type "int")
 | str (x:Str):TyOf K H (.str x) (.type "str")
 | flt (x:UInt64):TyOf K H (.flt x) (.type "float")
 | lst {a:Addr} {xs:List V} (e:H a=some (.lst xs)):TyOf K H (.ref a) (.type "list")
 | frz {a:Addr} {o:Obj} {xs:List V} (e:H a=some (.frz o (.lst xs))):TyOf K H (.ref a) (.type "list")
 | tup {a:Addr} {xs:List V} (e:H a=some (.tup xs)):TyOf K H (.ref a) (.type "tuple")
 | dK {a:Addr} {kvs:List (Key × V)} (e:H a=some (.dK kvs)):TyOf K H (.ref a) (.type "dict")
 | dT {a:Addr} {kvs:List (List Key × V)} (e:H a=some (.dT kvs)):TyOf K H (.ref a) (.type "dict")
 | ins {a C dx:Addr} {fs:List (Str × V)} (e:H a=some (.ins C dx fs)) (cl:Cls K C) (ha:PySem.W.findIn K (.ref C) "__class__" = some (some (.builtin "object.__class__")))
  (hn:PySem.W.specialIn K (.builtin "object.__class__") "__get__" = some (some (.builtin "getset_descriptor.__get__"))) (htk:PySem.W.takesIn K (.builtin "object.__class__")=some true)
  (hm:PySem.W.mroIn K C (.type "object")=some true):TyOf K H (.ref a) (.ref C)
theorem JH {x:V} {u t:Value} (I:Inv X pins σ H s) (rx:RelV x u) (ty:TyOf X.K H x t) (e:PySem.W.kitOne X.K t c=some b) (h:∀ tk,Q (.bool b) { s with toks:=tk }) :
 wpAny (model X.prog X.w) A (call (.builtin "isinstance") [u,c]) Q E s:=by
 cases ty with
 | non=>cases (show u=Value.none from rx);exact PySem.W.kia_one PySem.W.kitx_none I.kIn True.intro e (fun z=>nomatch z) h
 | bl y=>cases (show u=Value.bool y from rx);exact PySem.W.kia_one PySem.W.kitx_bool I.kIn True.intro e (fun z=>nomatch z) h
 | int i=>obtain ⟨t,q⟩:=(show ∃ t,u=Value.int i t from rx);cases q;exact PySem.W.kia_one PySem.W.kitx_int I.kIn True.intro e (fun z=>nomatch z) h
 | str y=>obtain ⟨t,q⟩:=(show ∃ t,u=Value.str y t from rx);cases q;exact PySem.W.kia_one PySem.W.kitx_str I.kIn True.intro e (fun z=>nomatch z) h
 | flt y=>obtain ⟨t,q⟩:=(show ∃ t,u=Value.float y t from rx);cases q;exact PySem.W.kia_one PySem.W.kitx_float I.kIn True.intro e (fun z=>nomatch z) h
 | @lst a xs ea =>
  cases (show u=Value.ref a from rx)
  obtain ⟨_,_,n,_,h1⟩:=(show ObjOk X.prog X.w H s.heap a (.lst xs) from I.hok a _ ea)
  exact PySem.W.kia_one PySem.W.kitx_list I.kIn ⟨_,h1,rfl⟩ e (fun z=>nomatch z) h
 | @frz a ob xs ea =>
  cases (show u=Value.ref a from rx)
  obtain ⟨_,_,_,n,_,h1⟩:=(show ObjOk X.prog X.w H s.heap a (.frz ob (.lst xs)) from I.hok a _ ea)
  exact PySem.W.kia_one PySem.W.kitx_list I.kIn ⟨_,h1,rfl⟩ e (fun z=>nomatch z) h
 | @tup a xs ea =>
  cases (show u=Value.ref a from rx)
  obtain ⟨_,_,_,p⟩:=(show ObjOk X.prog X.w H s.heap a (.tup xs) from I.hok a _ ea)
  obtain ⟨o,h1,h2,_⟩:=p
  exact PySem.W.kia_one PySem.W.kitx_tuple I.kIn ⟨o,h1,h2⟩ e (fun z=>nomatch z) h
 | @dK a kvs ea =>
  cases (show u=Value.ref a from rx)
  obtain ⟨_,_,vs,_,p⟩:=(show ObjOk X.prog X.w H s.heap a (.dK kvs) from I.hok a _ ea)
  obtain ⟨o,es,ep,h1,h2,_⟩:=p
  exact PySem.W.kia_one PySem.W.kitx_dict I.kIn ⟨o,h1,h2.1⟩ e (fun z=>nomatch z) h
 | @dT a kvs ea =>
  cases (show u=Value.ref a from rx)
  obtain ⟨_,_,xs,_,o,es,ep,h1,h2,_⟩:=(show ObjOk X.prog X.w H s.heap a (.dT kvs) from I.hok a _ ea)
  exact PySem.W.kia_one PySem.W.kitx_dict I.kIn ⟨o,h1,h2.1⟩ e (fun z=>nomatch z) h
 | @ins a C dx fs ea cl ha hn htk hm =>
  cases (show u=Value.ref a from rx)
  obtain ⟨mA,O,_⟩:=Ll I.hok ea
  obtain ⟨od,J,_⟩:=O.look
  exact PySem.W.kia_one (PySem.W.kitx_own (cl.get _) cl.hd ha hn htk hm) I.kIn J e (fun z=>nomatch z) h
end
structure Room (k:Nat) (A:Around):Prop where
 hd:A.handled=none
 dp:A.depth+3 * k+5 < recursionLimit
 un:A.units+16 * k+200 < cLine
 gd:A.guards=some []
theorem Room.mono {j k:Nat} {A:Around} (r:Room k A) (h:j<=k):Room j A:=⟨r.hd,by have:=r.dp;lia,by have:=r.un;lia,r.gd⟩
theorem Room.deeper {k:Nat} {A:Around} (r:Room (k+1) A) (env:Env):Room k (A.deeper env) :=
 ⟨r.hd,by have:=r.dp;show A.depth+1+3 * k+5 < _;lia,by have:=r.un;show A.units+3+16 * k+200 < _;lia,r.gd⟩
theorem KN {A:Around} {C:Addr} {us:List Value} {kw:List (Str × Value)}:(A.under (.builtin "type.__call__" ⟨.ref C::us,kw⟩)).depth=A.depth+1:=by
 first | rfl | simp [Around.under,Code.weight,Code.isCreation,Code.isGuard,Code.isCaller,Code.frames,Code.isFrame,guardIds]
theorem LI {A:Around} {C:Addr} {us:List Value} {kw:List (Str × Value)}:(A.under (.builtin "type.__call__" ⟨.ref C::us,kw⟩)).units=A.units+1:=by
 first | rfl | simp [Around.under,Code.cUnits,Code.frames,Code.isFrame]
theorem Room.make {k:Nat} {A:Around} (r:Room (k+1) A) (C:Addr) (us:List Value) (kw:List (Str × Value)):Room k (A.under (.builtin "type.__call__" ⟨.ref C::us,kw⟩)) :=
 ⟨r.hd,by have:=r.dp;rw [KN];lia,by have:=r.un;rw [LI];lia,by first | exact r.gd | (simpa [Around.under,Code.guards,Code.isGuard,guardIds,pushGuards] using r.gd)⟩
theorem Room.depth {k:Nat} {A:Around} (r:Room k A):A.depth < recursionLimit:=by have:=r.dp;lia
noncomputable def GS:TA:=fun _ H Q=>Q [] H
noncomputable def FH (ta:TE) (tr:TA):TA:=fun σ H Q=>ta σ H fun x H1=>tr σ H1 fun xs H2=>Q (x::xs) H2
section
variable {X:Cx} {e:Expr} {es:List Expr} {te:TE} {t:TA} {pos:Pos}
theorem AB:PA X [] GS:=fun _ _ _ _ H Q I h=>Calls.spliced_nil ⟨[],H,I,.nil,h⟩
theorem AA (ha:PE X e te) (hr:PA X es t) (hs:starEach (e::es) X.env=(false,eval e X.env)::starEach es X.env:=by rfl):PA X (e::es) (FH te t):=by
 intro pos pins s σ H Q I h
 rw [hs]
 show wpAny _ _ (spliced ((false,eval e X.env)::backTo pos (starEach es X.env))) _ _ s
 refine Calls.spliced_cons (thn (ha pins s σ H _ I h) fun u s1 ⟨x,H1,I1,r1,q1⟩=>?_)
 exact thn (hr pos pins s1 σ H1 _ I1 q1) fun us s2 ⟨xs,H2,I2,r2,q2⟩=>⟨x::xs,H2,I2,.cons r1 r2,q2⟩
noncomputable def HL (t:TA):TE:=fun σ H Q=>t σ H fun xs H1=>xs.length<=sizeLine/\∀ p,H1 p=none->Q (.ref p) (upd H1 p (.tup xs))
noncomputable def MH (t:TA):TE:=fun σ H Q=>t σ H fun xs H1=>xs.length<=sizeLine/\∀ p,H1 p=none->Q (.ref p) (upd H1 p (.lst xs))
theorem BX {x1} (h:PA X es t):PE X (.Tuple es x1 pos) (HL t):=by
 intro pins s σ H Q I hq
 refine wpAny_Tuple_spliced (thn (h pos pins s σ H _ I hq) fun us s1 ⟨xs,H1,I1,r,z,q⟩=>⟨by rw [<- r.length];exact z,?_⟩)
 have hf:H1 s1.heap.objs.size=none:=I1.hok.fresh (Nat.le_refl _)
 refine ⟨.ref s1.heap.objs.size,upd H1 s1.heap.objs.size (.tup xs),I1.laid (t':=s1.toks) (fun b u e=>Heap.get?_push_of_some _ e) (Nat.le_refl _) ?_,rfl,q _ hf⟩
 exact ⟨z,us,r,⟨_,Heap.get?_push_size _ rfl,rfl,⟨_,rfl⟩,rfl⟩⟩
theorem Cd (h:PA X es t):PE X (.List es pos) (MH t):=by
 intro pins s σ H Q I hq
 refine wpAny_List_spliced (thn (h pos pins s σ H _ I hq) fun us s1 ⟨xs,H1,I1,r,z,q⟩=>⟨by rw [<- r.length];exact z,?_⟩)
 have hf:H1 s1.heap.objs.size=none:=I1.hok.fresh (Nat.le_refl _)
 refine ⟨.ref s1.heap.objs.size,upd H1 s1.heap.objs.size (.lst xs),I1.laid (t':=s1.toks) (fun b u e=>Heap.get?_push_of_some _ e) (Nat.le_refl _) ?_,rfl,q _ hf⟩
 exact ⟨z,us,0,r,Heap.get?_push_size _ rfl⟩
end
noncomputable abbrev Sp:=List V->Hp->VK->XK->Prop
noncomputable abbrev CXT:=List Env->Hp->Shared->XK->Value->Shared->Prop
structure Env0 (P:Program) (w:World) (K:W.Frag) (mg:Str->Option Value) (base:Heap) (A:Around) (outer:List Env) (s:Shared) (H:Hp):Prop where
 frames:A.frames=some outer
 mod:Mod K mg base
 bs:∀ b o,base.get? b=some o->s.heap.get? b=some o/\H b=none
 bsz:base.objs.size<=s.heap.objs.size
 funs:s.heap.FunFrames base outer
 frf:∀ b∈frs outer,H b=none
 hok:HOk P w H s.heap
 bare:AllBare s.gens
noncomputable def CE (outer:List Env) (P:Program) (w:World) (H:Hp) (s:Shared) (Q:VK) (u:Value) (s':Shared):Prop :=
 ∃ v H',s'.os=s.os/\AllBare s'.gens/\Un (frs outer) [] H H' s.heap s'.heap/\HOk P w H' s'.heap/\RelV v u/\Q v H'
noncomputable def CR (CX:CXT) (outer:List Env) (P:Program) (w:World) (H:Hp) (s:Shared) (Q:VK) (E:XK) (r:Result) (s':Shared):Prop :=
 match r with
 | .ok (.ret u)=>CE outer P w H s Q u s'
 | .ok _=>False
 | .error e=>CX outer H s E e s'
structure FnOk (P:Program) (w:World) (K:W.Frag) (mg:Str->Option Value) (base:Heap) (CX:CXT) (k:Nat) (f:Addr) (fd:FuncData) (ps:List Str) (sp:Sp):Prop where
 len:∀ vs H Q E,sp vs H Q E->vs.length=ps.length
 run:∀ (A:Around) (outer:List Env) (s:Shared) (H:Hp) (args:Args) (us:List Value) (vs:List V) (Q:VK) (E:XK),Room k A->Env0 P w K mg base A outer s H->BindsTo s fd args (ps.zip us)->Vals vs us->sp vs H Q E ->
  codeAny (model P w) A (.call (.ref f) args) (CR CX outer P w H s Q E) s
theorem FnOk.imp {P:Program} {w:World} {K:W.Frag} {mg:Str->Option Value} {base:Heap} {CX:CXT} {k:Nat} {f:Addr} {fd:FuncData} {ps:List Str} {sp sp':Sp} (F:FnOk P w K mg base CX k f fd ps sp)
 (h:∀ vs H Q E,sp' vs H Q E->sp vs H Q E):FnOk P w K mg base CX k f fd ps sp' :=
 ⟨fun vs H Q E q=>F.len vs H Q E (h _ _ _ _ q),fun A outer s H args us vs Q E hr he hb hv hs=>F.run A outer s H args us vs Q E hr he hb hv (h _ _ _ _ hs)⟩
theorem Env0.make {P:Program} {w:World} {K:W.Frag} {mg:Str->Option Value} {base:Heap} {A:Around} {outer:List Env} {s:Shared} {H:Hp} (e:Env0 P w K mg base A outer s H) (C:Addr) (us:List Value) (kw:List (Str × Value)) :
 Env0 P w K mg base (A.under (.builtin "type.__call__" ⟨.ref C::us,kw⟩)) outer s H:=⟨by first | exact e.frames | (simpa [Around.under,Code.envs,Code.isFrame,pushEnvs] using e.frames),e.mod,e.bs,e.bsz,e.funs,e.frf,e.hok,e.bare⟩
section
variable {X:Cx} {pins:List (Addr × Obj)} {σ:St} {H:Hp} {s s':Shared}
theorem Inv.env0 (I:Inv X pins σ H s):Env0 X.prog X.w X.K X.mg X.base X.A X.stack s H :=
 ⟨I.ok.frames,I.ok.mod,I.bs,Nat.le_trans I.ok.bsz I.sz,I.stack,I.stkFree,I.hok,I.bare⟩
theorem Inv.after {Q:VK} {u:Value} (I:Inv X pins σ H s) (h:CE X.stack X.prog X.w H s Q u s'):EP X pins σ Q u s':=by
 obtain ⟨v,H',os,bare,un,hok,r,q⟩:=h
 obtain ⟨hh,g,d,t,os'⟩:=s'
 obtain rfl:os'=s.os:=os
 exact ⟨v,H',I.call (h':=hh) (g':=g) (d':=d) (t':=t) (ch:=[]) un hok bare (fun b z=>absurd z (by simp)),r,q⟩
end
noncomputable def GR (sp:Sp) (dvs:List V) (E:XK) (t:TA):TE:=fun σ H Q=>t σ H fun vs H1=>sp (vs++dvs) H1 Q E
noncomputable def Binds (K:W.Frag) (fd:FuncData) (ps:List Str) (ds:List Value):Prop :=
 ∀ (s:Shared) (us:List Value),K.In s.heap->(us++ds).length=ps.length->BindsTo s fd ⟨us,[]⟩ (ps.zip (us++ds))
theorem Binds.all {K:W.Frag} {fd:FuncData} {ps:List Str} (h:∀ us:List Value,us.length=ps.length->bindArgs fd ⟨us,[]⟩=pure (ps.zip us)):Binds K fd ps []:=fun s us _ hl=>by
 rw [List.append_nil] at hl ⊢
 exact .of_eq (h us hl)
noncomputable def EU (CX:CXT) (X:Cx) (E:XK):Prop:=∀ (pins:List (Addr × Obj)) (σ:St) (H:Hp) (s:Shared) (e:Value) (s':Shared),Inv X pins σ H s->CX X.stack H s E e s'->X.xe e s'
section
variable {X:Cx} {CX:CXT} {k:Nat} {f C:Addr} {fd:FuncData} {ps:List Str} {sp:Sp} {dvs:List V} {ds:List Value} {E:XK} {x m:Str} {p pos apos:Pos} {e o:Expr} {es:List Expr} {ta:TE} {t:TA}
theorem JY {pins:List (Addr × Obj)} {σ:St} {H:Hp} {s:Shared} {Q:VK} {us:List Value} {vs:List V} (F:FnOk X.prog X.w X.K X.mg X.base CX k f fd ps sp) (hr:Room k X.A) (hb:Binds X.K fd ps ds) (hd:Vals dvs ds) (hx:EU CX X E)
 (I:Inv X pins σ H s) (r:Vals vs us) (h:sp (vs++dvs) H Q E):wpAny (model X.prog X.w) X.A (call (.ref f) us) (EP X pins σ Q) X.xe s:=by
 have r2:Vals (vs++dvs) (us++ds):=r.append hd
 have hl:(us++ds).length=ps.length:=by rw [<- r2.length];exact F.len _ _ _ _ h
 refine wpAny_call (codeAny_mono (F.run X.A X.stack s H ⟨us,[]⟩ (us++ds) (vs++dvs) Q E hr I.env0 (hb s us I.kIn hl) r2 h) fun r s' hq=>?_)
 cases r with
 | error e=>exact hx pins σ H s e s' I hq
 | ok fl =>
  cases fl with
  | ret u=>exact I.after hq
  | next=>exact False.elim hq
  | brk=>exact False.elim hq
  | cont=>exact False.elim hq
theorem AO (F:FnOk X.prog X.w X.K X.mg X.base CX k f fd ps sp) (hr:Room k X.A) (hg:Gl X x) (hm:X.mg x=some (.ref f)) (hk:PySem.W.keepIn X.K (.ref f)=true) (hb:Binds X.K fd ps ds) (hd:Vals dvs ds) (hx:EU CX X E)
 (ha:PA X (e::es) t) (hdb:(x == ("__debug__" : Str))=false:=by decide) (he:starEach (e::es) X.env=(false,eval e X.env)::starEach es X.env:=by rfl) (hpl:(backTo pos (starEach es X.env)).any (·.1)=false:=by rfl) :
 PE X (.Call (.Name x p) (e::es) [] pos) (GR sp dvs E t):=by
 intro pins s σ H Q I h
 refine wpAny_Call_Name_kw (Ck I hg hm ?_ hdb)
 refine PySem.W.callWith_K (h₀:=X.base) I.ok.mod.kin hk (thn (ha pos pins s σ H _ I h) fun us s1 ⟨vs,H1,I1,r,q⟩=>⟨I1.kIn,?_⟩) he hpl
 exact JY F hr hb hd hx I1 r q
structure Mk (K:W.Frag) (C f:Addr):Prop where
 makes:PySem.W.makesIn K C=true
 init:PySem.W.findIn K (.ref C) "__init__" = some (some (.ref f))
 fn:PySem.W.isFn K (.ref f)=true
 kp:PySem.W.keepIn K (.ref C)=true
end
section
variable {X:Cx} {CX:CXT} {k:Nat} {f C:Addr} {fd:FuncData} {ps ks:List Str} {sp:Sp} {E:XK} {x m:Str} {p pos apos kpos:Pos} {e o:Expr} {es:List Expr} {kws:List Keyword} {te ta:TE} {t tk:TA} {nm:Option Str}
structure KBinds (K:W.Frag) (fd:FuncData) (ps ks:List Str) (g:List Value->List Value->List Value) (gV:List V->List V->List V):Prop where
 to:∀ (s:Shared) (us ws:List Value),K.In s.heap->(g us ws).length=ps.length->BindsTo s fd ⟨us,ks.zip ws⟩ (ps.zip (g us ws))
 rel:∀ {vs:List V} {us:List Value} {zs:List V} {ws:List Value},Vals vs us->Vals zs ws->Vals (gV vs zs) (g us ws)
variable {g:List Value->List Value->List Value} {gV:List V->List V->List V}
end
structure FnScope (N P:List Str) (sc:Scope):Prop where
 kind:sc.kind=.function
 co:sc.isCoroutine=false
 gen:sc.isGenerator=false
 nd:N.Nodup
 pre:N.take P.length=P
 par:∀ x∈P,sc.names.lookup x=some .local\/sc.names.lookup x=some .cell
 nofree:∀ y∈sc.names,y.2≠.free
theorem Gq {kindOf:Str->Option NameKind} {x:Str}:∀ {binds:List (Str × Value)} {m:Str->Option Value},(∀ v,(x,v)∉binds)->bindL kindOf binds m x=m x
 | [],_,_=>rfl
 | (n,v)::r,m,h=>by
  unfold bindL
  rw [Gq fun w hw=>h w (List.mem_cons_of_mem _ hw)]
  split
  ·have:x≠n:=by rintro rfl;exact h v List.mem_cons_self
   simp [this]
  ·rfl
theorem FW {kindOf:Str->Option NameKind} {x:Str}:∀ {binds:List (Str × Value)} {m:Str->Option Value},(∀ v,(x,v)∉binds)->bindC kindOf binds m x=m x
 | [],_,_=>rfl
 | (n,v)::r,m,h=>by
  unfold bindC
  rw [FW fun w hw=>h w (List.mem_cons_of_mem _ hw)]
  split
  ·rfl
  ·have:x≠n:=by rintro rfl;exact h v List.mem_cons_self
   simp [this]
theorem FQ {kindOf:Str->Option NameKind} {x:Str} {v:Value}:∀ {P:List Str} {vs:List Value} {i:Nat} {m:Str->Option Value},P.Nodup->P[i]? = some x->vs[i]? = some v->kindOf x=some .local ->
 bindL kindOf (P.zip vs) m x=some v
 | [],_,_,_,_,h,_,_=>by simp at h
 | _::_,[],_,_,_,_,h,_=>by simp at h
 | p::P,w::vs,0,m,nd,h1,h2,hk=>by
  simp at h1 h2;subst h1;subst h2
  show bindL kindOf ((p,w)::P.zip vs) m p=_
  unfold bindL
  rw [Gq fun v hv=>(List.nodup_cons.mp nd).1 (List.of_mem_zip hv).1,if_pos hk]
  simp
 | p::P,w::vs,i+1,m,nd,h1,h2,hk=>by
  show bindL kindOf ((p,w)::P.zip vs) m x=_
  unfold bindL
  exact FQ (i:=i) (List.nodup_cons.mp nd).2 (by simpa using h1) (by simpa using h2) hk
theorem Fz {kindOf:Str->Option NameKind} {x:Str} {v:Value}:∀ {P:List Str} {vs:List Value} {i:Nat} {m:Str->Option Value},P.Nodup->P[i]? = some x->vs[i]? = some v->kindOf x≠some .local ->
 bindC kindOf (P.zip vs) m x=some v
 | [],_,_,_,_,h,_,_=>by simp at h
 | _::_,[],_,_,_,_,h,_=>by simp at h
 | p::P,w::vs,0,m,nd,h1,h2,hk=>by
  simp at h1 h2;subst h1;subst h2
  show bindC kindOf ((p,w)::P.zip vs) m p=_
  unfold bindC
  rw [FW fun v hv=>(List.nodup_cons.mp nd).1 (List.of_mem_zip hv).1,if_neg hk]
  simp
 | p::P,w::vs,i+1,m,nd,h1,h2,hk=>by
  show bindC kindOf ((p,w)::P.zip vs) m x=_
  unfold bindC
  exact Fz (i:=i) (List.nodup_cons.mp nd).2 (by simpa using h1) (by simpa using h2) hk
noncomputable def BO (N:List Str) (vs:List V):St:=vs.map some++List.replicate (N.length - vs.length) none
noncomputable def BQ (CX:CXT) (P:Program) (w:World) (K:W.Frag) (mg:Str->Option Value) (base:Heap) (N:List Str) (qual:Str) (scope:Scope) (f:Addr) (cd:Value) (A:Around) (outer:List Env) (s:Shared) (H:Hp) (E:XK):Cx where
 prog:=P
 w:=w
 K:=K
 mg:=mg
 base:=base
 A:=A.deeper (envOfC qual scope s.heap.objs.size f cd)
 N:=N
 s₀:=s
 H₀:=H
 env:=envOfC qual scope s.heap.objs.size f cd
 outer:=outer
 stack:=envOfC qual scope s.heap.objs.size f cd::outer
 ex:=[]
 calm:=true
 fn:=fun _=>true
 pn:=[]
 xe:=fun e s'=>wpAny (model P w) (A.deeper (envOfC qual scope s.heap.objs.size f cd)) (leaving (envOfC qual scope s.heap.objs.size f cd) e) (fun _ s''=>CX outer H s E e s'') (fun e' s''=>CX outer H s E e' s'') s'
theorem Gf {sc:Scope} {n:Nat} {x:Str} (h:sc.names.lookup x=some .cell):∃ c,(cellsFrom n sc.names []).lookup x=some c:=by
 have q:=PySem.W.cellsFrom_some sc.names n [] (.inl h)
 exact Option.isSome_iff_exists.mp q
theorem Ln {CX:CXT} {P:Program} {w:World} {K:W.Frag} {mg:Str->Option Value} {base:Heap} {N ps:List Str} {qual:Str} {scope:Scope} {f:Addr} {cd:Value} {A:Around} {outer:List Env} {s s1:Shared} {H:Hp} {E:XK} {us:List Value} {vs:List V}
 (S:FnScope N ps scope) (hd:A.handled=none) (e0:Env0 P w K mg base A outer s H) (hl:vs.length=ps.length) (r:Vals vs us)
 (x:InCallC s s.heap.objs.size (bindL (envOfC qual scope s.heap.objs.size f cd).kindOf (ps.zip us) fun _=>none) (cellsFrom (s.heap.objs.size+1) scope.names []) (bindC (envOfC qual scope s.heap.objs.size f cd).kindOf (ps.zip us) fun _=>none) s1) :
 Inv (BQ CX P w K mg base N qual scope f cd A outer s H E) [] (BO N vs) H s1:=by
 have hpl:ps.length<=N.length:=by have:=congrArg List.length S.pre;rw [List.length_take] at this;lia
 obtain ⟨h1,tk,rfl,hk⟩:=x.done
 have noA:∀ b:Addr,b∉(BQ CX P w K mg base N qual scope f cd A outer s H E).ex:=fun b z=>absurd (show b∈([]:List Addr) from z) (by simp)
 refine ⟨⟨e0.mod,S.kind,rfl,rfl,Nat.le_refl _,fun y z c h1 h2=>?_,fun y hy=>?_,fun y c _ h=>?_,fun _=>hd,Around.frames_deeper e0.frames,.inr ⟨rfl,rfl⟩,fun b z=>absurd z (noA b),e0.bs,e0.bsz,fun b _ _=>noA b,fun b z=>absurd z (noA b),e0.funs,e0.frf⟩,
  rfl,e0.bare,Un.kept hk,⟨_,x.toInCall.ns,fun i y v h1 h2 h3=>?_⟩,fun y c h=>⟨_,x.cell y c h⟩,e0.hok.fresh (Nat.le_refl _),fun y c h=>?_,fun p hp=>absurd (show p∈([]:List (Addr × Obj)) from hp) (by simp),e0.hok.kept hk,?_⟩
 ·exact name_of_addr x.apart (PySem.mem_of_lookup h1) (PySem.mem_of_lookup h2)
 ·have hy:scope.names.lookup y=some .cell\/scope.names.lookup y=some .free:=hy
  rcases hy with hy | hy
  ·exact Gf hy
  ·exact absurd rfl (S.nofree _ (PySem.mem_of_lookup hy))
 ·exact Nat.le_of_lt (x.above y c (PySem.mem_of_lookup h))
 ·have hi:i < vs.length:=by
   unfold BO at h2
   by_cases hi:i < vs.length
   ·exact hi
   ·rw [List.getElem?_append_right (by simpa using hi)] at h2
    rw [List.getElem?_replicate] at h2
    split at h2 <;> cases h2
  have ha:vs[i]? = some v:=by
   unfold BO at h2
   rw [List.getElem?_append_left (by simpa using hi),List.getElem?_map] at h2
   cases e:vs[i]? with
   | none=>rw [e] at h2;cases h2
   | some a=>rw [e] at h2;cases h2;rfl
  obtain ⟨u,hu,rv⟩:=r.get ha
  have hp:ps[i]? = some y:=by
   rw [<- S.pre,List.getElem?_take_of_lt (by lia)];exact h1
  have ndP:ps.Nodup:=by rw [<- S.pre];exact S.nd.sublist (List.take_sublist _ _)
  refine ⟨u,rv,?_⟩
  rcases S.par y (List.mem_of_getElem? hp) with k | k
  ·exact .inl ⟨k,FQ ndP hp hu k⟩
  ·obtain ⟨c,e⟩:=Gf (n:=s.heap.objs.size+1) k
   refine .inr ⟨.inl k,c,e,?_⟩
   have q:=x.cell y c e
   rw [Fz ndP hp hu (by show scope.names.lookup y≠_;rw [k];decide)] at q
   exact q
 ·exact e0.hok.fresh (Nat.le_of_lt (x.above y c (PySem.mem_of_lookup h)))
 ·unfold BO
  show _=N.length
  rw [List.length_append,List.length_map,List.length_replicate]
  lia
theorem Gg {CX:CXT} {P:Program} {w:World} {K:W.Frag} {mg:Str->Option Value} {base:Heap} {k:Nat} {f:Addr} {name qual:Str} {params:Arguments} {body:List Stmt} {scope:Scope} {dV kV doc pm cdv ct oc:Value} {an od:Option Addr}
 {osl:Array (Option Value)} {N ps:List Str} {sp:Sp} (lk:K.lookup f=some ⟨oc,od,.func (PySem.W.fnOf name qual params body scope dV kV doc pm an cdv ct),osl⟩) (hcd:PySem.W.codeIn K cdv qual=true) (S:FnScope N ps scope)
 (len:∀ vs H Q E,sp vs H Q E->vs.length=ps.length)
 (hbody:∀ (A:Around) (outer:List Env) (s:Shared) (H:Hp) (vs:List V) (Q:VK) (E:XK),Room k (A.deeper (envOfC qual scope s.heap.objs.size f cdv))->sp vs H Q E ->
   ∃ t,PSs (BQ CX P w K mg base N qual scope f cdv A outer s H E) body t/\t { nx:=fun _ H'=>Q .non H',rt:=Q } (BO N vs) H) :
 FnOk P w K mg base CX (k+1) f (PySem.W.fnOf name qual params body scope dV kV doc pm an cdv ct) ps sp:=by
 refine ⟨len,fun A outer s H args us vs Q E hr e0 hb r hsp=>?_⟩
 have hl:=len _ _ _ _ hsp
 have KX:K.In s.heap:=e0.mod.kin.keeps fun b o e=>(e0.bs b o e).1
 have lim:s.heap.NoLimit:=e0.mod.nolimit.keeps fun b o e=>(e0.bs b o e).1
 have hkind:∀ y∈ps.zip us,scope.names.lookup y.1=some .local\/(scope.names.lookup y.1=some .cell/\((cellsFrom (s.heap.objs.size+1) scope.names []).lookup y.1).isSome=true):=fun ⟨n,v⟩ hy=>by
  rcases S.par n (List.of_mem_zip hy).1 with q | q
  ·exact .inl q
  ·exact .inr ⟨q,PySem.W.cellsFrom_some _ _ _ (.inl q)⟩
 refine codeAny_call_function hr.depth (KX _ _ lk) rfl S.co S.gen rfl (PySem.W.codeRec_of KX hcd) (hb _ _ _ _ ?_)
 refine wpAny_newFunctionEnv_cells S.kind hkind fun env he s1 x=>?_
 subst he
 refine ⟨lim.keeps x.toInCall.keep,codeAny_func ?_⟩
 obtain ⟨t,ht,hq⟩:=hbody A outer s H vs Q E (hr.deeper _) hsp
 have I:Inv (BQ CX P w K mg base N qual scope f cdv A outer s H E) [] (BO N vs) H s1:=Ln S hr.hd e0 hl r x
 refine wpAny_mono (ht [] s1 (BO N vs) H _ I hq) (fun fl s' hs=>?_) fun e s' hs=>hs
 have fin:∀ {σ':St} {H':Hp} {v:V} {u:Value},Inv (BQ CX P w K mg base N qual scope f cdv A outer s H E) [] σ' H' s'->RelV v u->Q v H'->CE outer P w H s Q u s' :=
  fun {σ' H' v u} J rv q=>⟨v,H',J.os,J.bare,J.base,J.hok,rv,q⟩
 cases fl with
 | ret u =>
  obtain ⟨v,σ',H',J,rv,q⟩:=hs
  exact fin J rv q
 | next =>
  obtain ⟨σ',H',J,q⟩:=hs
  exact fin (v:=V.non) (u:=Value.none) J rfl q
 | brk =>
  obtain ⟨_,_,_,q⟩:=hs
  exact False.elim q
 | cont =>
  obtain ⟨_,_,_,q⟩:=hs
  exact False.elim q
section
variable {X:Cx} {x:Str} {p pos:Pos} {e:Expr} {es:List Expr} {t:TA} {id T:String} {r:List V->Hp->VK->Prop}
noncomputable def tCB (r:List V->Hp->VK->Prop) (t:TA):TE:=fun σ H Q=>t σ H fun vs H1=>r vs H1 Q
theorem AK (hc:CallR X (.builtin id) r) (hg:Gl X x) (hm:X.mg x=none) (hv:bootBuiltins x=some (.builtin id)) (ha:PA X (e::es) t) (hn:x ≠ "__name__":=by decide) (hdb:(x == ("__debug__" : Str))=false:=by decide)
 (he:starEach (e::es) X.env=(false,eval e X.env)::starEach es X.env:=by rfl) (hpl:(backTo pos (starEach es X.env)).any (·.1)=false:=by rfl):PE X (.Call (.Name x p) (e::es) [] pos) (tCB r t):=by
 intro pins s σ H Q I h
 refine wpAny_Call_Name_kw (BZ I hg hm hv ?_ hn hdb)
 exact PyProof.Rows.callWith_builtin1 (thn (ha pos pins s σ H _ I h) fun us s1 ⟨vs,H1,I1,r1,q1⟩=>hc pins s1 σ H1 vs us Q I1 r1 q1) he hpl
theorem Ay (hc:CallR X (.type T) r) (hg:Gl X x) (hm:X.mg x=none) (hv:bootBuiltins x=some (.type T)) (ha:PA X (e::es) t) (hn:x ≠ "__name__":=by decide) (hdb:(x == ("__debug__" : Str))=false:=by decide)
 (he:starEach (e::es) X.env=(false,eval e X.env)::starEach es X.env:=by rfl) (hpl:(backTo pos (starEach es X.env)).any (·.1)=false:=by rfl):PE X (.Call (.Name x p) (e::es) [] pos) (tCB r t):=by
 intro pins s σ H Q I h
 refine wpAny_Call_Name_kw (BZ I hg hm hv ?_ hn hdb)
 exact PyProof.Rows.callWith_type1 (thn (ha pos pins s σ H _ I h) fun us s1 ⟨vs,H1,I1,r1,q1⟩=>hc pins s1 σ H1 vs us Q I1 r1 q1) he hpl
end
end L2
namespace HT
open PySem PyProof.Rows
section
open PySem.SeqAt
open PySem.AutoSeq1 (wpAny_loadPart')
open PySem.MeetsSeq PySem.MeetsSeq2 PySem.MeetsSeq3
end
section
variable {prog:Program} {w:World} {A:Around} {E:Value->Shared->Prop} {s:Shared}
theorem cat_tup {t b:Addr} {vs ws:List Value} {Q:Value->Shared->Prop} (ht:IsTup s.heap t vs.toArray) (hb:IsTup s.heap b ws.toArray) (hv:vs≠[])
 (h1:ws=[]->Q (.ref t) s) (h2:ws≠[]->Q (.ref s.heap.objs.size) { s with heap:=s.heap.push { cls:=.type "tuple",data:=.seq (vs++ws).toArray } })
 (hsz:vs.length+ws.length<=sizeLine):wpAny (model prog w) A (binaryOp .Add (.ref t) (.ref b)) Q E s:=by
 obtain ⟨⟨cls,dd,data,sl⟩,ho,hc,n,hd⟩:=id ht
 obtain ⟨⟨cls2,dd2,data2,sl2⟩,ho2,hc2,n2,hd2⟩:=id hb
 simp only at hc hd hc2 hd2
 subst hc hd hc2 hd2
 have e:vs.toArray++ws.toArray=(vs++ws).toArray:=by simp
 by_cases hw:ws=[]
 ·exact concat_meets ⟨_,ho,rfl⟩ ⟨_,ho2,rfl⟩ noFill_tuple_add seq_tuple_add PySem.F.slot_tuple_add PySem.F.entry_tuple_add (PySem.F.args_tuple_add_2 _ _)
   (tuple_addW1 t b vs.toArray ws.toArray n n2 dd dd2 sl sl2 (by simpa using hv) (by simp [hw])) ⟨ho,ho2,h1 hw⟩
 ·refine concat_meets ⟨_,ho,rfl⟩ ⟨_,ho2,rfl⟩ noFill_tuple_add seq_tuple_add PySem.F.slot_tuple_add PySem.F.entry_tuple_add (PySem.F.args_tuple_add_2 _ _)
   (tuple_addW2 t b vs.toArray ws.toArray n n2 dd dd2 sl sl2 (by simpa using hv) (by simpa using hw) (by rw [List.size_toArray,List.size_toArray];exact hsz)) ⟨ho,ho2,?_⟩
  rw [e]
  exact h2 hw
noncomputable def sIx (n d:Nat):Option Int->Nat
 | none=>d
 | some v=>if v < 0 then (v+(n:Int)).toNat else min v.toNat n
theorem sIx_none (n d:Nat):sIx n d none=d:=rfl
theorem sIx_nat (n d k:Nat):sIx n d (some (k:Int))=min k n:=by
 show (if (k:Int) < 0 then ((k:Int)+(n:Int)).toNat else min (k:Int).toNat n)=min k n
 rw [if_neg (by lia),Int.toNat_natCast]
theorem JB (n d:Nat) (hd:d<=n) (o:Option Int):sIx n d o<=n:=by
 cases o with
 | none=>exact hd
 | some v =>
  show (if v < 0 then (v+(n:Int)).toNat else min v.toNat n)<=n
  by_cases hv:v < 0
  ·rw [if_pos hv];lia
  ·rw [if_neg hv];exact Nat.min_le_right _ _
theorem Fa (v:Int) (n d:Nat):(if v < 0 then max (v+(n:Int)) 0 else min v (n:Int))=((sIx n d (some v):Nat):Int):=by
 show (if v < 0 then max (v+(n:Int)) 0 else min v (n:Int))=(((if v < 0 then (v+(n:Int)).toNat else min v.toNat n):Nat):Int)
 by_cases hv:v < 0
 ·simp only [if_pos hv];lia
 ·simp only [if_neg hv];lia
theorem IJ (lo hi:Option Int) (n:Nat):Builtin.Slice.sliceAdjust lo hi 1 (n:Int)=(((sIx n 0 lo:Nat):Int),((sIx n n hi:Nat):Int)):=by
 have h1:¬ ((1:Int) < 0):=by lia
 unfold Builtin.Slice.sliceAdjust
 simp only [h1,if_false]
 refine Prod.ext ?_ ?_
 ·cases lo with
  | none=>rfl
  | some v=>exact Fa v n 0
 ·cases hi with
  | none=>rfl
  | some v=>exact Fa v n n
theorem HU (i j:Nat):Builtin.Slice.slicePlaces (i:Int) (j:Int) 1=j - i:=by
 unfold Builtin.Slice.slicePlaces
 have h1:(1:Int) > 0:=by lia
 simp only [h1,if_true,Int.ediv_one]
 split <;> lia
theorem Fd {v:Value} {o:Option Int} {Q:Option Int->Shared->Prop} (p:IsPart v o) (h:Q o s):wpAny (model prog w) A (Builtin.Slice.slicePartIndex v) Q E s:=by
 cases p with
 | none=>exact slicePart_none h
 | int i t=>exact slicePart_int h
theorem Et {sl:Addr} {vl vu:Value} {lo hi:Option Int} {n:Nat} {Q:Int × Int × Nat->Shared->Prop} (hs:s.heap.IsSliceOf sl vl vu .none) (pl:IsPart vl lo) (pu:IsPart vu hi)
 (h:Q (((sIx n 0 lo:Nat):Int),1,sIx n n hi - sIx n 0 lo) s):wpAny (model prog w) A (Builtin.Slice.sliceApplied (.ref sl) (pure (n:Int))) Q E s:=by
 obtain ⟨os,hos,hcs,hds⟩:=id hs
 unfold Builtin.Slice.sliceApplied Builtin.Slice.sliceFields
 refine wpAny_bind (wpAny_bind (wpAny_field hos hds (x:=vl) rfl (wpAny_bind (wpAny_field hos hds (x:=vu) rfl (wpAny_bind (wpAny_field hos hds (x:=.none) rfl (wpAny_pure ?_)))))))
 refine wpAny_bind (slicePart_none ?_)
 show wpAny _ _ (if ((1:Int) == 0)=true then _ else _) _ _ s
 rw [if_neg (by decide)]
 refine wpAny_bind (Fd pl (wpAny_bind (Fd pu (wpAny_bind (wpAny_pure ?_)))))
 show wpAny _ _ (match Builtin.Slice.sliceAdjust lo hi 1 (n:Int) with | (lo,hi)=>pure (lo,(1:Int),Builtin.Slice.slicePlaces lo hi 1)) _ _ s
 rw [IJ lo hi n]
 show wpAny _ _ (pure (((sIx n 0 lo:Nat):Int),(1:Int),Builtin.Slice.slicePlaces ((sIx n 0 lo:Nat):Int) ((sIx n n hi:Nat):Int) 1)) _ _ s
 rw [HU]
 exact wpAny_pure h
theorem Ip (xs:Array Value) (i k:Nat):((List.range k).filterMap fun (m:Nat)=>xs[((i:Int)+(m:Int) * 1).toNat]?).toArray=((xs.toList.drop i).take k).toArray:=by
 have e:(fun (m:Nat)=>xs[((i:Int)+(m:Int) * 1).toNat]?)=fun m=>xs[i+m]?:=by
  funext m
  have:((i:Int)+(m:Int) * 1).toNat=i+m:=by lia
  rw [this]
 rw [e]
 have:=pick_run xs i k
 rw [List.filterMap_map] at this
 have e2:((fun x=>xs[x]?) ∘ fun x=>i+x)=fun m=>xs[i+m]?:=rfl
 rw [e2] at this
 rw [this]
theorem getItem_tuple_cut {t sl:Addr} {items:Array Value} {vl vu:Value} {lo hi:Option Int} {Q:Value->Shared->Prop} (ht:IsTup s.heap t items) (hs:s.heap.IsSliceOf sl vl vu .none) (pl:IsPart vl lo) (pu:IsPart vu hi)
 (hw:¬ (sIx items.size 0 lo=0/\sIx items.size items.size hi=items.size))
 (h:Q (.ref s.heap.objs.size) { s with heap:=s.heap.push { cls:=.type "tuple",data:=.seq ((items.toList.drop (sIx items.size 0 lo)).take (sIx items.size items.size hi - sIx items.size 0 lo)).toArray } })
 (hsz:items.size<=sizeLine):wpAny (model prog w) A (getItem (.ref t) (.ref sl)) Q E s:=by
 have htake:sizeOk (.seq ((items.toList.drop (sIx items.size 0 lo)).take (sIx items.size items.size hi - sIx items.size 0 lo)).toArray):=by
  show ((items.toList.drop (sIx items.size 0 lo)).take (sIx items.size items.size hi - sIx items.size 0 lo)).toArray.size<=sizeLine
  rw [List.size_toArray,List.length_take,List.length_drop,Array.length_toList]
  lia
 have hj:sIx items.size items.size hi<=items.size:=JB _ _ (Nat.le_refl _) hi
 obtain ⟨os,hos,hcs,hds⟩:=id hs
 have hTs:s.TypeIs (.ref sl) "slice":=⟨os,hos,hcs⟩
 unfold getItem
 try with_reducible refine wpAny_holding ?_
 first | refine wpAny_bind (wpAny_pure ?_) | skip
 refine wpAny_bind (wpAny_sequenceKey ht.typeIs (by decide) ?_)
 refine wpAny_bind (wpAny_callSpecial?_slot (name:=Str.ofString "__getitem__") ht.typeIs PyProof.Rows.slot_tuple_getitem
  (wpAny_call_entry PyProof.Rows.slot_tuple_getitem ht.typeIs entry_tuple_getitem ?_ (args_tuple_getitem _ _)))
 show wpAny _ _ (Builtin.Tuple.tupleItemsOf (.ref t) >>= _) _ _ s
 refine wpAny_bind (tupleItemsOf_ ht ?_)
 refine wpAny_bind (wpAny_typeOf hTs ?_)
 rw [if_pos (by decide)]
 refine wpAny_bind (Et hs pl pu ?_)
 have hno:¬ ((((sIx items.size 0 lo:Nat):Int) == 0 && (1:Int) == 1 && (sIx items.size items.size hi - sIx items.size 0 lo) == items.size)=true):=by
  intro q
  rw [Bool.and_eq_true,Bool.and_eq_true] at q
  have q1:((sIx items.size 0 lo:Nat):Int)=0:=eq_of_beq q.1.1
  have q2:sIx items.size items.size hi - sIx items.size 0 lo=items.size:=eq_of_beq q.2
  exact hw ⟨by lia,by lia⟩
 show wpAny _ _ (if (((sIx items.size 0 lo:Nat):Int) == 0 && (1:Int) == 1 && (sIx items.size items.size hi - sIx items.size 0 lo) == items.size)=true then _ else _) _ _ s
 rw [if_neg hno,Ip]
 first
  | exact wpAny_bind (m:=Builtin.Tuple.tupleExact _) (wpAny_newObj_type (wpAny_pure ⟨_,rfl,wpAny_pure h⟩) htake)
  | exact wpAny_bind (m:=Builtin.Tuple.tupleExact _) (wpAny_newObj_type (wpAny_bind (wpAny_pure (wpAny_pure ⟨_,rfl,wpAny_pure h⟩))) htake)
  | exact wpAny_bind (wpAny_bind (m:=Builtin.Tuple.tupleExact _) (wpAny_newObj_type (wpAny_pure (wpAny_pure ⟨_,rfl,wpAny_pure h⟩)) htake))
  | exact wpAny_bind (wpAny_bind (m:=Builtin.Tuple.tupleExact _) (wpAny_newObj_type (wpAny_pure ⟨_,rfl,wpAny_pure h⟩) htake))
end
end HT
namespace L2
open PySem PySem.Spec PyProof.Rows
noncomputable abbrev TO:=St->Hp->(Option Int->Hp->Prop)->Prop
noncomputable def PO (X:Cx) (e:Option Expr) (t:TO):Prop :=
 ∀ (pins:List (Addr × Obj)) (s:Shared) (σ:St) (H:Hp) (Q:Option Int->Hp->Prop),Inv X pins σ H s->t σ H Q ->
  wpAny (model X.prog X.w) X.A (evalPart e X.env) (fun u s'=>∃ o H',Inv X pins σ H' s'/\IsPart u o/\Q o H') X.xe s
noncomputable def FK:TO:=fun _ H Q=>Q none H
noncomputable def E7 (t:TE):TO:=fun σ H Q=>t σ H fun x H1=>∃ i,x=.int i/\Q (some i) H1
section
variable {X:Cx} {e:Expr} {te:TE} {lo hi:Option Expr} {tl th:TO} {pos p2:Pos}
theorem DP:PO X none FK:=by
 intro pins s σ H Q I h
 rw [evalPart_none]
 exact wpAny_pure ⟨none,H,I,.none,h⟩
theorem DG (h:PE X e te):PO X (some e) (E7 te):=by
 intro pins s σ H Q I hw
 rw [evalPart_some]
 refine thn (h pins s σ H _ I hw) fun u s1 ⟨x,H1,I1,r1,q1⟩=>?_
 obtain ⟨i,rfl,q⟩:=q1
 obtain ⟨t,rfl⟩:=r1
 exact ⟨some i,H1,I1,.int i t,q⟩
noncomputable def SlR (X:Cx) (r:V->Option Int->Option Int->Hp->VK->Prop):Prop :=
 ∀ (pins:List (Addr × Obj)) (s:Shared) (σ:St) (H:Hp) (x:V) (v vl vu:Value) (lo hi:Option Int) (sl:Addr) (Q:VK),Inv X pins σ H s->RelV x v->s.heap.IsSliceOf sl vl vu .none->IsPart vl lo->IsPart vu hi->r x lo hi H Q ->
  ∃ T id,typeLookup (.type T) "__getitem__" = pure (some (.builtin id))/\s.TypeIs v T/\wpAny (model X.prog X.w) X.A (getItem v (.ref sl)) (EP X pins σ Q) X.xe s
noncomputable def tSl (r:V->Option Int->Option Int->Hp->VK->Prop) (te:TE) (tl th:TO):TE:=fun σ H Q=>te σ H fun x H1=>tl σ H1 fun l H2=>th σ H2 fun u H3=>r x l u H3 Q
theorem FF {r:V->Option Int->Option Int->Hp->VK->Prop} (hr:SlR X r) (he:PE X e te) (hl:PO X lo tl) (hu:PO X hi th):PE X (.Subscript e (.Slice lo hi none p2) pos) (tSl r te tl th):=by
 intro pins s σ H Q I h
 refine Subscript_ (thn (he pins s σ H _ I h) fun v s1 ⟨x,H1,I1,r1,q1⟩=>?_)
 refine wpAny_Slice (thn (hl pins s1 σ H1 _ I1 q1) fun vl s2 ⟨l,H2,I2,pl,q2⟩=>thn (hu pins s2 σ H2 _ I2 q2) fun vu s3 ⟨u,H3,I3,pu,q3⟩=>?_)
 rw [evalPart_none]
 refine wpAny_pure ?_
 have I4:Inv X pins σ H3 { s3 with heap:=s3.heap.push { cls:=.type "slice",data:=.fields #[vl,vu,.none] } }:=I3.kept (t':=s3.toks) fun b ob q=>Heap.get?_push_of_some _ q
 obtain ⟨T,id,hT,ht,hg⟩:=hr pins { s3 with heap:=s3.heap.push { cls:=.type "slice",data:=.fields #[vl,vu,.none] } } σ H3 x v vl vu l u s3.heap.objs.size Q I4 r1 (Heap.IsSliceOf.new ..) pl pu q3
 show wpAny (model X.prog X.w) X.A (subscriptTail e (.Slice lo hi none p2) v (.ref s3.heap.objs.size)) (EP X pins σ Q) X.xe { s3 with heap:=s3.heap.push { cls:=.type "slice",data:=.fields #[vl,vu,.none] } }
 exact tail_any (ops:=[.ref s3.heap.objs.size,v]) ht hT hg (by with_unfolding_all rfl)
noncomputable def Al (xs:List V) (lo hi:Option Int):List V:=(xs.drop (HT.sIx xs.length 0 lo)).take (HT.sIx xs.length xs.length hi - HT.sIx xs.length 0 lo)
theorem FR (xs:List V) (lo hi:Option Int):(Al xs lo hi).length<=xs.length:=by
 unfold Al
 rw [List.length_take,List.length_drop]
 lia
noncomputable def IU (K:W.Frag):V->Option Int->Option Int->Hp->VK->Prop:=fun x lo hi H Q=>∃ a xs,x=.ref a/\SqT K H a xs /\
 ¬ (HT.sIx xs.length 0 lo=0/\HT.sIx xs.length xs.length hi=xs.length)/\∀ p,H p=none->Q (.ref p) (upd H p (.tup (Al xs lo hi)))
theorem Gh:SlR X (IU X.K):=by
 intro pins s σ H x v vl vu lo hi sl Q I rx hs pl pu h
 obtain ⟨a,xs,rfl,hx,hw,q⟩:=h
 cases rx
 obtain ⟨its,r,ht,hz⟩:=I.tuple hx
 have hlen:its.toArray.size=xs.length:=by rw [List.size_toArray];exact r.length.symm
 refine ⟨"tuple",_,PyProof.Rows.slot_tuple_getitem.lookup,ht.typeIs,?_⟩
 refine HT.getItem_tuple_cut ht hs pl pu (by rw [hlen];exact hw) ?_ (by rw [hlen];exact hz)
 rw [hlen]
 refine ⟨.ref s.heap.objs.size,_,I.laid (t':=s.toks) (o:=.tup (Al xs lo hi)) (fun b ob q=>Heap.get?_push_of_some _ q) (Nat.le_refl _) ?_,rfl,q _ (I.hok.fresh (Nat.le_refl _))⟩
 exact ⟨Nat.le_trans (FR xs lo hi) hz,_,(r.drop (HT.sIx xs.length 0 lo)).take (HT.sIx xs.length xs.length hi - HT.sIx xs.length 0 lo),IsTupN.new _ _⟩
noncomputable def GC (K:W.Frag):R2:=fun x y H Q=>∃ a b xs ys,x=.ref a/\y=.ref b/\SqT K H a xs/\SqT K H b ys/\xs≠[]/\xs.length+ys.length<=sizeLine /\
 (ys=[]->Q (.ref a) H)/\(ys≠[]->∀ p,H p=none->Q (.ref p) (upd H p (.tup (xs++ys))))
theorem Vals.nil_iff {xs:List V} {us:List Value} (r:Vals xs us):us=[] ↔ xs=[]:=by
 cases r with
 | nil=>simp
 | cons _ _=>simp
theorem Fc:OpR X (binaryOp .Add) (GC X.K):=by
 intro pins s σ H x y v u Q I rx ry h
 obtain ⟨a,b,xs,ys,rfl,rfl,ha,hb,hx,hz,q1,q2⟩:=h
 cases rx
 cases ry
 obtain ⟨its,r1,p1,_⟩:=I.tuple ha
 obtain ⟨its2,r2,p2,_⟩:=I.tuple hb
 refine HT.cat_tup p1 p2 (fun z=>hx (r1.nil_iff.mp z)) (fun z=>⟨.ref a,H,I,rfl,q1 (r2.nil_iff.mp z)⟩) (fun z=>?_) (by rw [<- r1.length,<- r2.length];exact hz)
 refine ⟨.ref s.heap.objs.size,_,I.laid (t':=s.toks) (o:=.tup (xs++ys)) (fun b ob q=>Heap.get?_push_of_some _ q) (Nat.le_refl _) ?_,rfl,q2 (fun w=>z (r2.nil_iff.mpr w)) _ (I.hok.fresh (Nat.le_refl _))⟩
 exact ⟨by rw [List.length_append];exact hz,_,r1.append r2,IsTupN.new _ _⟩
end
noncomputable def ixN (n:Nat) (i:Int):Option Nat:=if 0<=i then (if i < n then some i.toNat else none) else if -(n:Int)<=i then some (i+n).toNat else none
noncomputable def atI {α:Type} (xs:List α) (i:Int):Option α:=(ixN xs.length i).bind fun j=>xs[j]?
theorem FP {n:Nat} {i:Int} {j:Nat} (h:ixN n i=some j):seqIndex? i n=some j/\j < n /\ -(n:Int)<=i/\i < n:=by
 unfold ixN at h
 by_cases h0:0<=i
 ·rw [if_pos h0] at h
  by_cases h1:i < n
  ·rw [if_pos h1] at h
   have e:i.toNat=j:=Option.some.inj h
   exact ⟨by rw [seqIndex_of h0 h1,e],by lia,by lia,h1⟩
  ·rw [if_neg h1] at h;cases h
 ·rw [if_neg h0] at h
  by_cases h1 : -(n:Int)<=i
  ·rw [if_pos h1] at h
   have e:(i+n).toNat=j:=Option.some.inj h
   exact ⟨by rw [seqIndex_neg (by lia) h1,e],by lia,h1,by lia⟩
  ·rw [if_neg h1] at h;cases h
theorem EA {α:Type} {xs:List α} {i:Int} {v:α} (h:atI xs i=some v):∃ j,seqIndex? i xs.length=some j/\xs[j]? = some v/\j < xs.length /\ -(xs.length:Int)<=i/\i < xs.length:=by
 unfold atI at h
 cases e:ixN xs.length i with
 | none=>rw [e] at h;cases h
 | some j =>
  rw [e] at h
  obtain ⟨h1,h2,h3,h4⟩:=FP e
  exact ⟨j,h1,h,h2,h3,h4⟩
noncomputable def Dy (b:Expr):Prop:=∀ o i,subscripted b false o i=operate [o,i] (getItem o i)
noncomputable def IxR (X:Cx) (r:R2):Prop :=
 ∀ (value slice:Expr) (pins:List (Addr × Obj)) (s:Shared) (σ:St) (H:Hp) (x y:V) (v u:Value) (Q:VK),Inv X pins σ H s->RelV x v->RelV y u->r x y H Q ->
  subscripted slice false v u=operate [v,u] (getItem v u)->wpAny (model X.prog X.w) X.A (subscriptTail value slice v u) (EP X pins σ Q) X.xe s
noncomputable def MtR (X:Cx) (id:String) (r:V->List V->Hp->VK->Prop):Prop :=
 ∀ (pins:List (Addr × Obj)) (s:Shared) (σ:St) (H:Hp) (x:V) (xs:List V) (v:Value) (us:List Value) (Q:VK),Inv X pins σ H s->RelV x v->Vals xs us->r x xs H Q ->
  wpAny (model X.prog X.w) X.A (call (.builtin id) (v::us)) (EP X pins σ Q) X.xe s
section
variable {X:Cx} {a b:Expr} {ta tb:TE} {pos:Pos}
theorem IxR.or {r r':R2} (h:IxR X r) (h':IxR X r'):IxR X (fun x y H Q=>r x y H Q\/r' x y H Q):=by
 intro value slice pins s σ H x y v u Q I rx ry q hs
 rcases q with q | q
 ·exact h value slice pins s σ H x y v u Q I rx ry q hs
 ·exact h' value slice pins s σ H x y v u Q I rx ry q hs
theorem Hm {r:R2} (hr:IxR X r) (ha:PE X a ta) (hb:PE X b tb) (hs:Dy b):PE X (.Subscript a b pos) (tOp r ta tb):=by
 intro pins s σ H Q I h
 exact Subscript_ (Dp ha hb I h fun v u s2 x y H2 I2 rx ry q=>hr a b pins s2 σ H2 x y v u Q I2 rx ry q (hs _ _))
noncomputable def GP (K:W.Frag):R2:=fun x y H Q=>∃ p xs i v,x=.ref p/\y=.int i/\SqL K H p xs/\atI xs i=some v/\Q v H
noncomputable def Gv (K:W.Frag):R2:=fun x y H Q=>∃ p xs i v,x=.ref p/\y=.int i/\SqT K H p xs/\atI xs i=some v/\Q v H
noncomputable def GG:R2:=fun x y H Q=>∃ z i c,x=.str z/\y=.int i/\z.length<=sizeLine/\atI z.cps.toList i=some c/\Q (.str ⟨#[c]⟩) H
theorem ix_list:IxR X (GP X.K):=by
 intro value slice pins s σ H x y v u Q I rx ry h hs
 obtain ⟨p,xs,i,z,rfl,rfl,hq,he,q⟩:=h
 cases rx
 obtain ⟨t,rfl⟩:=ry
 obtain ⟨its,r,pl,hz⟩:=I.list hq
 obtain ⟨j,h1,h2,h3,h4,h5⟩:=EA he
 obtain ⟨w,ew,rw'⟩:=r.get h2
 have hl:=r.length
 have hn:=CB
 have fin:EP X pins σ Q w s:=⟨z,H,I,rw',q⟩
 by_cases h0:0<=i
 ·have hj:i.toNat=j:=by
   rw [seqIndex_of h0 h5] at h1
   exact Option.some.inj h1
  exact item_listR pl.isList h0 (by lia) (by rw [hj];simpa using ew) fin hs
 ·have hj:(i+(its.toArray.size:Int)).toNat=j:=by
   rw [seqIndex_neg (by lia) h4] at h1
   rw [List.size_toArray,<- hl]
   exact Option.some.inj h1
  exact subscriptTail_builtinR (x:=w) pl.isList.typeIs slot_list_getitem.lookup
   (wpAny_getItem_list_neg (Q:=fun r s'=>r=w/\EP X pins σ Q r s') pl.isList (by lia) (by rw [List.size_toArray] <;> lia) (by lia) (by rw [hj];simpa using ew) ⟨rfl,fin⟩) hs
theorem ix_tup:IxR X (Gv X.K):=by
 intro value slice pins s σ H x y v u Q I rx ry h hs
 obtain ⟨p,xs,i,z,rfl,rfl,hq,he,q⟩:=h
 cases rx
 obtain ⟨t,rfl⟩:=ry
 obtain ⟨its,r,pl,hz⟩:=I.tuple hq
 obtain ⟨j,h1,h2,h3,h4,h5⟩:=EA he
 obtain ⟨w,ew,rw'⟩:=r.get h2
 have hl:=r.length
 have hn:=CB
 have fin:EP X pins σ Q w s:=⟨z,H,I,rw',q⟩
 exact subscriptTail_builtinR (x:=w) pl.typeIs slot_tuple_getitem.lookup
  (getItem_tuple (j:=j) (Q:=fun r s'=>r=w/\EP X pins σ Q r s') pl (by lia) (by lia) (by rw [List.size_toArray,<- hl];exact h1) (by simpa using ew) ⟨rfl,fin⟩) hs
theorem KA:IxR X GG:=by
 intro value slice pins s σ H x y v u Q I rx ry h hs
 obtain ⟨z,i,c,rfl,rfl,hz,he,q⟩:=h
 obtain ⟨t,rfl⟩:=rx
 obtain ⟨t',rfl⟩:=ry
 obtain ⟨j,h1,h2,h3,h4,h5⟩:=EA he
 have hl:z.cps.toList.length=z.length:=by simp [Str.length]
 rw [hl] at h1 h4 h5
 have hn:=CB
 exact tail_any (typeIs_str s z t) slot_str_getitem.lookup (getItem_str (c:=c) (by
  have e1:decide (i < -(2 ^ 63:Int))=false:=decide_eq_false (by lia)
  have e2:decide (i ≥ 2 ^ 63)=false:=decide_eq_false (by lia)
  rw [e1,e2,Bool.or_false]) (by rw [h1];simpa using h2) ⟨.str ⟨#[c]⟩,H,I.tok _,⟨_,rfl⟩,q⟩) hs
noncomputable def rIx (K:W.Frag):R2:=fun x y H Q=>GP K x y H Q\/Gv K x y H Q\/GG x y H Q
theorem ix_seq:IxR X (rIx X.K):=ix_list.or (ix_tup.or KA)
theorem LF (its:List Value) (n j:Nat) (u:Value):Obj.mapSeq (·.setIfInBounds j u) { cls:=.type "list",data:=.seq its.toArray n } = { cls:=.type "list",data:=.seq (its.set j u).toArray n }:=by
 simp [Obj.mapSeq]
theorem Inv.lst {pins:List (Addr × Obj)} {σ:St} {H:Hp} {s:Shared} {p:Addr} {xs:List V} (I:Inv X pins σ H s) (h:H p=some (.lst xs)) :
 ∃ (its:List Value) (n:Nat),Vals xs its/\s.heap.get? p=some { cls:=.type "list",data:=.seq its.toArray n } /\ xs.length<=sizeLine:=by
 obtain ⟨z,its,n,r,e⟩:=I.hok p _ h
 exact ⟨its,n,r,e,z⟩
theorem Inv.lstUpd {pins:List (Addr × Obj)} {σ:St} {H:Hp} {s:Shared} {p:Addr} {xs ys:List V} {its its':List Value} {n n':Nat} {f:Obj->Obj} (I:Inv X pins σ H s) (h:H p=some (.lst xs))
 (ho:s.heap.get? p=some { cls:=.type "list",data:=.seq its.toArray n }) (hf:f { cls:=.type "list",data:=.seq its.toArray n } = { cls:=.type "list",data:=.seq its'.toArray n' }) (r:Vals ys its') (hz:ys.length<=sizeLine) (t:Nat) :
 Inv X pins σ (upd H p (.lst ys)) { s with heap:=s.heap.update p f,toks:=t }:=by
 have e:(s.heap.update p f).get? p=some { cls:=.type "list",data:=.seq its'.toArray n' }:=by
  rw [Heap.get?_update_self f ho (by rw [hf] <;> rfl),hf]
 refine I.write (x:=p) (e:=p) (by rw [h];trivial) (.inl rfl) (fun b u hb q=>(Heap.get?_update_other _ _ (Ne.symm hb)).trans q) ⟨_,e⟩ ?_
 exact ⟨hz,its',n',r,e⟩
noncomputable def Jw:V->V->V->Hp->(Hp->Prop)->Prop:=fun o i v H Q=>∃ p xs k j,o=.ref p/\i=.int k/\H p=some (.lst xs)/\ixN xs.length k=some j/\Q (upd H p (.lst (xs.set j v)))
theorem Lx:D4 X Jw:=by
 intro pins s σ H o i v ov iv u Q I ro ri rv h
 obtain ⟨p,xs,k,j,rfl,rfl,hp,hj,q⟩:=h
 cases ro
 obtain ⟨t,rfl⟩:=ri
 obtain ⟨its,n,r,ho,hz⟩:=I.lst hp
 obtain ⟨h1,h2,h3,h4⟩:=FP hj
 have hl:=r.length
 have hn:=CB
 have I':Inv X pins σ (upd H p (.lst (xs.set j v))) { s with heap:=s.heap.update p (Obj.mapSeq (·.setIfInBounds j u)) } :=
  I.lstUpd hp ho (LF its n j u) (r.set rv j) (by rw [List.length_set];exact hz) s.toks
 by_cases h0:0<=k
 ·have hk:k.toNat=j:=by
   rw [seqIndex_of h0 h4] at h1
   exact Option.some.inj h1
  exact PySem.W.ki_setAt ho h0 (by lia) (by rw [List.size_toArray,<- hl];exact h4) (by rw [hk];exact ⟨_,I',q⟩)
 ·have hk:(k+(its.toArray.size:Int)).toNat=j:=by
   rw [seqIndex_neg (by lia) h3] at h1
   rw [List.size_toArray,<- hl]
   exact Option.some.inj h1
  exact PySem.W.ki_setBack ho (by lia) (by rw [List.size_toArray,<- hl];exact h3) (by lia) (by rw [hk];exact ⟨_,I',q⟩)
theorem MQ (lo hi:Option Int) (n:Nat):(sliceBounds lo hi none n).1=((HT.sIx n 0 lo:Nat):Int)/\(sliceBounds lo hi none n).2.1=((HT.sIx n n hi:Nat):Int)/\(sliceBounds lo hi none n).2.2=1:=by
 refine ⟨?_,?_,rfl⟩
 ·cases lo with
  | none=>simp [sliceBounds,HT.sIx]
  | some i =>
   simp only [sliceBounds,HT.sIx,Option.getD_none,show (1:Int) > 0 by decide,if_true]
   by_cases h:i < 0
   ·simp only [h,if_true] <;> lia
   ·simp only [h,if_false] <;> lia
 ·cases hi with
  | none=>simp [sliceBounds,HT.sIx]
  | some i =>
   simp only [sliceBounds,HT.sIx,Option.getD_none,show (1:Int) > 0 by decide,if_true]
   by_cases h:i < 0
   ·simp only [h,if_true] <;> lia
   ·simp only [h,if_false] <;> lia
theorem KD (its:List Value) (lo hi:Option Int):slicePick its.toArray lo hi none=((its.drop (HT.sIx its.length 0 lo)).take (HT.sIx its.length its.length hi - HT.sIx its.length 0 lo)).toArray:=by
 obtain ⟨h1,h2,h3⟩:=MQ lo hi its.toArray.size
 unfold slicePick
 rw [h1,h2,h3]
 simp only [sliceRange_one,pick_run,List.size_toArray] <;> rfl
noncomputable def LO (K:W.Frag):V->Option Int->Option Int->Hp->VK->Prop:=fun x lo hi H Q=>∃ a xs,x=.ref a/\SqL K H a xs/\∀ p,H p=none->Q (.ref p) (upd H p (.lst (Al xs lo hi)))
theorem Ly:SlR X (LO X.K):=by
 intro pins s σ H x v vl vu lo hi sl Q I rx hs pl pu h
 obtain ⟨a,xs,rfl,hx,q⟩:=h
 cases rx
 obtain ⟨its,r,ht,hz⟩:=I.list hx
 have hlen:=r.length
 refine ⟨"list",_,slot_list_getitem.lookup,ht.isList.typeIs,?_⟩
 refine wpAny_getItem_list_slice ht.isList hs pl pu .none (by simp) ?_ (by rw [List.size_toArray] <;> lia)
 rw [KD,<- hlen]
 refine ⟨.ref s.heap.objs.size,_,I.laid (t':=s.toks) (o:=.lst (Al xs lo hi)) (fun b ob q=>Heap.get?_push_of_some _ q) (Nat.le_refl _) ?_,rfl,q _ (I.hok.fresh (Nat.le_refl _))⟩
 exact ⟨Nat.le_trans (FR xs lo hi) hz,_,0,(r.drop (HT.sIx xs.length 0 lo)).take (HT.sIx xs.length xs.length hi - HT.sIx xs.length 0 lo),Heap.get?_push_size _ rfl⟩
noncomputable def BC:V->Bool
 | .non=>true
 | .bl _=>true
 | .int _=>true
 | .str _=>true
 | _=>false
noncomputable def eqV:V->V->Bool
 | .non,.non=>true
 | .bl a,.bl b=>a == b
 | .bl a,.int b=>(if a then 1 else 0) == b
 | .int a,.bl b=>a == (if b then 1 else 0)
 | .int a,.int b=>a == b
 | .str a,.str b=>a == b
 | _,_=>false
theorem Iz {A:Around} {s:Shared} {y x:V} {u v:Value} (ry:RelV y u) (rx:RelV x v) (fy:BC y=true) (fx:BC x=true):SeqAt.EqAt A s u v (eqV y x):=by
 cases y with
 | non =>
  cases ry
  cases x with
  | non=>cases rx;exact SeqAt.EqAt.same _
  | bl b=>cases rx;exact SeqAt.EqAt.none_bool b
  | int b=>obtain ⟨t,rfl⟩:=rx;exact SeqAt.EqAt.none_int b t
  | str b=>obtain ⟨t,rfl⟩:=rx;exact SeqAt.EqAt.none_str b t
  | _=>exact absurd (show false=true from fx) Bool.false_ne_true
 | bl a =>
  cases ry
  cases x with
  | non=>cases rx;exact SeqAt.EqAt.bool_none a
  | bl b=>cases rx;exact SeqAt.EqAt.bool_bool a b
  | int b=>obtain ⟨t,rfl⟩:=rx;exact SeqAt.EqAt.bool_int a b t
  | str b=>obtain ⟨t,rfl⟩:=rx;exact SeqAt.EqAt.bool_str a b t
  | _=>exact absurd (show false=true from fx) Bool.false_ne_true
 | int a =>
  obtain ⟨t',rfl⟩:=ry
  cases x with
  | non=>cases rx;exact SeqAt.EqAt.int_none a t'
  | bl b=>cases rx;exact SeqAt.EqAt.int_bool a t' b
  | int b=>obtain ⟨t,rfl⟩:=rx;exact SeqAt.EqAt.int_int a t' b t
  | str b=>obtain ⟨t,rfl⟩:=rx;exact SeqAt.EqAt.int_str a t' b t
  | _=>exact absurd (show false=true from fx) Bool.false_ne_true
 | str a =>
  obtain ⟨t',rfl⟩:=ry
  cases x with
  | non=>cases rx;exact SeqAt.EqAt.str_none a t'
  | bl b=>cases rx;exact SeqAt.EqAt.str_bool a t' b
  | int b=>obtain ⟨t,rfl⟩:=rx;exact SeqAt.EqAt.str_int a t' b t
  | str b=>obtain ⟨t,rfl⟩:=rx;exact SeqAt.EqAt.str_str a t' b t
  | _=>exact absurd (show false=true from fx) Bool.false_ne_true
 | _=>exact absurd (show false=true from fy) Bool.false_ne_true
noncomputable def eqU (x:V) (u:Value):Bool:=match u with
 | .none=>eqV .non x
 | .bool b=>eqV (.bl b) x
 | .int i _=>eqV (.int i) x
 | .str z _=>eqV (.str z) x
 | _=>false
theorem GB {x y:V} {u:Value} (r:RelV y u) (f:BC y=true):eqU x u=eqV y x:=by
 cases y with
 | non=>cases r;rfl
 | bl b=>cases r;rfl
 | int i=>obtain ⟨t,rfl⟩:=r;rfl
 | str z=>obtain ⟨t,rfl⟩:=r;rfl
 | _=>exact absurd (show false=true from f) Bool.false_ne_true
theorem Cr {x:V}:∀ {xs:List V} {us:List Value},Vals xs us->xs.all BC=true->us.any (eqU x)=xs.any fun y=>eqV y x
 | _,_,.nil,_=>rfl
 | y::xs,u::us,.cons r t,f=>by
  rw [List.all_cons,Bool.and_eq_true] at f
  rw [List.any_cons,List.any_cons,GB r f.1,Cr t f.2]
theorem Cy {A:Around} {s:Shared} {x:V} {v:Value} (rx:RelV x v) (fx:BC x=true):∀ {xs:List V} {us:List Value},Vals xs us->xs.all BC=true->∀ u∈us,SeqAt.EqAt A s u v (eqU x u)
 | _,_,.nil,_=>fun u hu=>by cases hu
 | y::xs,u::us,.cons r t,f=>fun u' hu=>by
  rw [List.all_cons,Bool.and_eq_true] at f
  rcases List.mem_cons.mp hu with rfl | hu
  ·rw [GB r f.1];exact Iz r rx f.1 fx
  ·exact Cy rx fx t f.2 u' hu
noncomputable def inV (x:V) (xs:List V):Bool:=xs.any fun y=>eqV y x
noncomputable def rIn (K:W.Frag) (neg:Bool):R2:=fun x y H Q=>∃ p xs,y=.ref p/\(SqL K H p xs\/SqT K H p xs)/\BC x=true/\xs.all BC=true/\Q (.bl (if neg then !inV x xs else inV x xs)) H
theorem Hj:OpR X (compareOp .In) (rIn X.K false):=by
 intro pins s σ H x y v u Q I rx ry h
 obtain ⟨p,xs,rfl,hq,fx,fs,q⟩:=h
 cases ry
 rcases hq with hq | hq
 ·obtain ⟨its,r,pl,hz⟩:=I.list hq
  refine SeqAt.in_listAt (eqU x) pl.isList (fun w hw=>Cy rx fx r fs w (by simpa using hw)) ⟨.bl _,H,I,rfl,?_⟩
  rw [show its.toArray.any (eqU x)=its.any (eqU x) by simp,Cr r fs]
  exact q
 ·obtain ⟨its,r,pl,hz⟩:=I.tuple hq
  refine SeqAt.in_tupleAt (eqU x) pl (fun w hw=>Cy rx fx r fs w (by simpa using hw)) ⟨.bl _,H,I,rfl,?_⟩
  rw [show its.toArray.any (eqU x)=its.any (eqU x) by simp,Cr r fs]
  exact q
theorem HV:OpR X (compareOp .NotIn) (rIn X.K true):=by
 intro pins s σ H x y v u Q I rx ry h
 obtain ⟨p,xs,rfl,hq,fx,fs,q⟩:=h
 cases ry
 rcases hq with hq | hq
 ·obtain ⟨its,r,pl,hz⟩:=I.list hq
  refine SeqAt.notIn_listAt (eqU x) pl.isList (fun w hw=>Cy rx fx r fs w (by simpa using hw)) ⟨.bl _,H,I,rfl,?_⟩
  rw [show its.toArray.any (eqU x)=its.any (eqU x) by simp,Cr r fs]
  exact q
 ·obtain ⟨its,r,pl,hz⟩:=I.tuple hq
  refine SeqAt.notIn_tupleAt (eqU x) pl (fun w hw=>Cy rx fx r fs w (by simpa using hw)) ⟨.bl _,H,I,rfl,?_⟩
  rw [show its.toArray.any (eqU x)=its.any (eqU x) by simp,Cr r fs]
  exact q
theorem call_list_of:CallR X (.type "list") (fun xs H Q=>∃ p ys,xs=[.ref p]/\(SqL X.K H p ys\/SqT X.K H p ys)/\∀ l,H l=none->Q (.ref l) (upd H l (.lst ys))):=by
 intro pins s σ H xs us Q I r h
 obtain ⟨p,ys,rfl,hq,q⟩:=h
 obtain ⟨u,rfl,rx⟩:=B8 r
 cases rx
 have fin:∀ (its:List Value),Vals ys its->ys.length<=sizeLine->∀ (h':Heap) (c':Nat),(∀ b o',s.heap.get? b=some o'->h'.get? b=some o') ->
  h'.get? s.heap.objs.size=some { cls:=.type "list",dict:=none,data:=.seq its.toArray c',slots:=#[] } -> EP X pins σ Q (.ref s.heap.objs.size) { s with heap:=h' }:=fun its r' hz h' c' kp e =>
  ⟨.ref s.heap.objs.size,_,I.laid (t':=s.toks) kp (Nat.le_refl _) (show ObjOk X.prog X.w _ h' _ (.lst ys) from ⟨hz,its,c',r',e⟩),rfl,q _ (I.hok.fresh (Nat.le_refl _))⟩
 rcases hq with hq | hq
 ·obtain ⟨its,r',pl,hz⟩:=I.list hq
  have hlen:=r'.length
  obtain ⟨o,ho,hc,n,hd⟩:=pl.isList
  exact call_list_seq p (.inl rfl) ho hc hd (fun h' c' kp e=>fin its r' hz h' c' kp e) (by simp only [List.size_toArray] <;> lia)
 ·obtain ⟨its,r',pl,hz⟩:=I.tuple hq
  have hlen:=r'.length
  obtain ⟨o,ho,hc,n,hd⟩:=pl
  exact call_list_seq p (.inr rfl) ho hc hd (fun h' c' kp e=>fin its r' hz h' c' kp e) (by simp only [List.size_toArray] <;> lia)
theorem call_tuple_of:CallR X (.type "tuple") (fun xs H Q=>∃ p ys,xs=[.ref p]/\((SqL X.K H p ys/\∀ l,H l=none->Q (.ref l) (upd H l (.tup ys)))\/(SqT X.K H p ys/\Q (.ref p) H))):=by
 intro pins s σ H xs us Q I r h
 obtain ⟨p,ys,rfl,h⟩:=h
 obtain ⟨u,rfl,rx⟩:=B8 r
 cases rx
 rcases h with ⟨hq,q⟩ | ⟨hq,q⟩
 ·obtain ⟨its,r',pl,hz⟩:=I.list hq
  have hlen:=r'.length
  refine call_tuple_list pl.isList (fun h' kp=>?_) (by simp only [List.size_toArray] <;> lia)
  have I1:Inv X pins σ H { s with heap:=h' }:=I.kept (t':=s.toks) kp
  have I2:Inv X pins σ (upd H h'.objs.size (.tup ys)) { s with heap:=h'.push { cls:=.type "tuple",data:=.seq its.toArray } } :=
   I1.laid (t':=s.toks) (fun b o e=>Heap.get?_push_of_some _ e) (Nat.le_refl _) (show ObjOk X.prog X.w _ _ _ (.tup ys) from ⟨hz,its,r',IsTupN.new _ _⟩)
  exact ⟨.ref h'.objs.size,_,I2,rfl,q _ (I1.hok.fresh (Nat.le_refl _))⟩
 ·obtain ⟨its,r',pl,hz⟩:=I.tuple hq
  exact call_tuple_same pl ⟨.ref p,H,I,rfl,q⟩
noncomputable def tyV (K:W.Frag) (T:String) (x:V) (H:Hp):Prop:=match x with
 | .str _=>T = "str"
 | .int _=>T = "int"
 | .ref p=>(T = "list" /\ ∃ xs,SqL K H p xs)\/(T = "tuple" /\ ∃ o,K.lookup p=some o/\o.cls=.type "tuple" /\ o.dict=none) \/
  (T = "dict" /\ ((∃ kvs,H p=some (.dK kvs))\/∃ kvs,H p=some (.dT kvs)))\/(T = "set" /\ ∃ S n,H p=some (.set S n))
 | _=>False
theorem JZ {pins:List (Addr × Obj)} {σ:St} {H:Hp} {s:Shared} {T:String} {x:V} {v:Value} (I:Inv X pins σ H s) (r:RelV x v) (ty:tyV X.K T x H) :
 s.TypeIs v T/\∀ a,v=.ref a->∃ ob,s.heap.get? a=some ob/\ob.dict=none:=by
 cases x with
 | str z =>
  obtain ⟨t,rfl⟩:=r
  cases (show T = "str" from ty)
  exact ⟨typeIs_str s z t,fun _ e=>nomatch e⟩
 | int i =>
  obtain ⟨t,rfl⟩:=r
  cases (show T = "int" from ty)
  exact ⟨typeIs_int s i t,fun _ e=>nomatch e⟩
 | ref p =>
  cases r
  rcases ty with ⟨rfl,xs,hq⟩ | ⟨rfl,o,hk,hc,hd⟩ | ⟨rfl,hk⟩ | ⟨rfl,S,n,hk⟩
  ·obtain ⟨its,_,pl,_⟩:=I.list hq
   refine ⟨pl.isList.typeIs,fun a e=>?_⟩
   cases e
   obtain ⟨o,n,e,c,hd,_⟩:=pl
   exact ⟨o,e,hd⟩
  ·refine ⟨⟨o,I.kIn p o hk,hc⟩,fun a e=>?_⟩
   cases e
   exact ⟨o,I.kIn _ o hk,hd⟩
  ·have z:∃ o,s.heap.get? p=some o/\o.ExactDict:=by
    rcases hk with ⟨kvs,hk⟩ | ⟨kvs,hk⟩
    ·obtain ⟨_,_,_,_,o,_,_,e,ex,_⟩:=I.hok p _ hk
     exact ⟨o,e,ex⟩
    ·obtain ⟨_,_,_,_,o,_,_,e,ex,_⟩:=I.hok p _ hk
     exact ⟨o,e,ex⟩
   obtain ⟨o,e,ex⟩:=z
   refine ⟨⟨o,e,ex.1⟩,fun a e2=>?_⟩
   cases e2
   exact ⟨o,e,ex.2.1⟩
  ·obtain ⟨o,_,_,_,e,ex,_⟩:=I.hok p _ hk
   refine ⟨⟨o,e,ex.1⟩,fun a e2=>?_⟩
   cases e2
   exact ⟨o,e,ex.2.1⟩
 | _=>exact False.elim ty
noncomputable def tBM (K:W.Frag) (T:String) (r:V->List V->Hp->VK->Prop) (to:TE) (t:TA):TE:=fun σ H Q=>to σ H fun x H1=>tyV K T x H1/\t σ H1 fun xs H2=>r x xs H2 Q
variable {o e:Expr} {es:List Expr} {to:TE} {t:TA} {name:Str} {apos cpos:Pos} {T id:String} {r:V->List V->Hp->VK->Prop}
theorem Dg (pa:PlainAttrs T) (slot:Slot T name id) (hty:typeOf (.builtin id)=pure (.type "method_descriptor")) (hm:MtR X id r) (ho:PE X o to) (ha:PA X (e::es) t)
 (hbase:attributeBase o name X.env (eval o X.env)=eval o X.env:=by rfl)
 (hfew:((backTo cpos (starEach (e::es) X.env)).all (fun x=>!x.1) && (backToKw cpos (keywordEach [] X.env)).all (fun x=>x.1.isSome)
   && decide ((e::es).length+([]:List Keyword).length+(if ([]:List Keyword).isEmpty then 0 else 1) < 30))=true:=by rfl)
 (hline:(apos.endLine == cpos.line)=true:=by rfl) (hs:starEach (e::es) X.env=(false,eval e X.env)::starEach es X.env:=by rfl) (hplain:(backTo cpos (starEach es X.env)).any (·.1)=false:=by rfl) :
 PE X (.Call (.Attribute o name apos) (e::es) [] cpos) (tBM X.K T r to t):=by
 intro pins s σ H Q I h
 refine wpAny_Call_method_late hbase hfew hline rfl (thn (ho pins s σ H _ I h) fun v s1 ⟨x,H1,I1,r1,ty,q1⟩=>?_)
 obtain ⟨h1,h2⟩:=JZ I1 r1 ty
 refine ⟨T,id,pa,slot,hty,h1,h2,?_⟩
 have hA:=ha cpos pins s1 σ H1 _ I1 q1
 rw [hs] at hA ⊢
 refine Calls.callWith_builtin (by show (false || (backTo cpos (starEach es X.env)).any (·.1))=false;rw [hplain] <;> rfl) (Calls.evalArgs_plain ?_)
 exact thn hA fun us s2 ⟨vs,H2,I2,r2,q2⟩=>hm pins s2 σ H2 x vs v us Q I2 r1 r2 q2
end
noncomputable def MtM (X:Cx) (id:String) (r:V->List V->Hp->VK->Prop):Prop :=
 ∀ (pins:List (Addr × Obj)) (s:Shared) (σ:St) (H:Hp) (x:V) (xs:List V) (v:Value) (us:List Value) (Q:VK),Inv X pins σ H s->RelV x v->Vals xs us->r x xs H Q ->
  wpAny (model X.prog X.w) X.A (call (.builtin id) (v::us)) (EP X pins σ Q) X.xe s
theorem Vals.one:∀ {x:V} {us:List Value},Vals [x] us->∃ u,us=[u]/\RelV x u
 | _,_,.cons r .nil=>⟨_,rfl,r⟩
theorem Vals.zero:∀ {us:List Value},Vals [] us->us=[]
 | _,.nil=>rfl
theorem Vals.eraseIdx:∀ {xs:List V} {us:List Value} (i:Nat),Vals xs us->Vals (xs.eraseIdx i) (us.eraseIdx i)
 | _,_,_,.nil=>.nil
 | _,_,0,.cons _ t=>t
 | _,_,i+1,.cons r t=>.cons r (Vals.eraseIdx i t)
theorem Vals.reverse {xs:List V} {us:List Value} (h:Vals xs us):Vals xs.reverse us.reverse:=by
 induction h with
 | nil=>exact .nil
 | cons r t ih=>rw [List.reverse_cons,List.reverse_cons];exact Vals.append ih (.cons r .nil)
theorem Vals.rep {xs:List V} {us:List Value} (h:Vals xs us):∀ k:Nat,Vals (List.replicate k xs).flatten (List.replicate k us).flatten
 | 0=>.nil
 | k+1=>by
  rw [List.replicate_succ,List.replicate_succ,List.flatten_cons,List.flatten_cons]
  exact Vals.append h (Vals.rep h k)
theorem G5 {α:Type}:∀ (l:List α) (i:Nat),(l.eraseIdx i).length<=l.length
 | [],_=>Nat.le_refl _
 | _::_,0=>Nat.le_succ _
 | _::r,i+1=>Nat.succ_le_succ (G5 r i)
theorem HC (its:List Value):∀ (k:Nat) (acc:List Value),
 List.foldl (fun x1 x2=>x1++x2) acc.toArray (List.replicate k its.toArray)=(acc++(List.replicate k its).flatten).toArray
 | 0,acc=>by simp
 | k+1,acc=>by
  have e:acc.toArray++its.toArray=(acc++its).toArray:=by simp
  have e2:(acc++its)++(List.replicate k its).flatten=acc++(List.replicate (k+1) its).flatten:=by
   rw [List.replicate_succ,List.flatten_cons,List.append_assoc]
  rw [<- e2,<- HC its k (acc++its),<- e,List.replicate_succ,List.foldl_cons]
section
variable {X:Cx} {pins:List (Addr × Obj)} {σ:St} {H:Hp} {s:Shared} {l b:Addr} {xs ys zs:List V}
theorem Inv.lset {its its':List Value} {n:Nat} {f:Array Value->Array Value} {t':Nat} (I:Inv X pins σ H s) (hH:H l=some (.lst xs))
 (e:s.heap.get? l=some { cls:=.type "list",data:=.seq its.toArray n }) (hf:f its.toArray=its'.toArray) (hv:Vals ys its') (hz:ys.length<=sizeLine) :
 Inv X pins σ (upd H l (.lst ys)) { s with heap:=s.heap.update l (Obj.mapSeq f),toks:=t' }:=by
 have q:=PySem.IsL.update e f
 rw [hf] at q
 refine I.write (x:=l) (e:=l) (by rw [hH];exact trivial) (.inl rfl) (fun b' u hb hu=>(Heap.get?_update_other s.heap (Obj.mapSeq f) (Ne.symm hb)).trans hu) ⟨_,q⟩ ?_
 exact ⟨hz,its',_,hv,q⟩
theorem Inv.lnew {its:List Value} {t':Nat} (I:Inv X pins σ H s) (hv:Vals ys its) (hz:ys.length<=sizeLine) :
 Inv X pins σ (upd H s.heap.objs.size (.lst ys)) { s with heap:=s.heap.push { cls:=.type "list",data:=.seq its.toArray },toks:=t' } :=
 I.laid (fun _ _ q=>Heap.get?_push_of_some _ q) (Nat.le_refl _) ⟨hz,its,0,hv,Heap.get?_push_size _ rfl⟩
theorem Inv.fresh (I:Inv X pins σ H s):H s.heap.objs.size=none:=I.hok.fresh (Nat.le_refl _)
theorem Inv.lstM (I:Inv X pins σ H s) (hH:H l=some (.lst xs)):xs.length<=sizeLine/\∃ (its:List Value) (n:Nat),Vals xs its/\xs.length=its.length/\s.heap.get? l=some { cls:=.type "list",data:=.seq its.toArray n }:=by
 obtain ⟨z,its,n,r,e⟩:=I.hok l _ hH
 exact ⟨z,its,n,r,r.length,e⟩
theorem JS {n:Nat} (h:n<=sizeLine):Builtin.List.listTooLong n=false:=by
 unfold Builtin.List.listTooLong
 exact decide_eq_false (by lia)
end
section
variable {X:Cx}
noncomputable def IH:V->List V->Hp->VK->Prop:=fun x vs H Q=>∃ l xs y,x=.ref l/\vs=[y]/\H l=some (.lst xs)/\xs.length < sizeLine/\Q .non (upd H l (.lst (xs++[y])))
theorem LY:MtM X "list.append" IH:=by
 intro pins s σ H x vs v us Q I rx rv h
 obtain ⟨l,xs,y,rfl,rfl,hH,hz,q⟩:=h
 cases rx
 obtain ⟨u,rfl,ru⟩:=rv.one
 obtain ⟨z,its,n,r,hl,e⟩:=I.lstM hH
 refine call_meets F.slot_list_append ⟨_,e,rfl⟩ F.entry_list_append (F.args_list_append_2 _ _) (PySem.list_append l its.toArray n u (by rw [List.size_toArray];lia)) ⟨e,?_⟩
 refine ⟨.non,_,I.lset (its':=its++[u]) hH e (by simp) (r.append (.cons ru .nil)) ?_,rfl,q⟩
 rw [List.length_append,List.length_singleton]
 lia
noncomputable def IE:V->List V->Hp->VK->Prop:=fun x vs H Q=>∃ l xs i k y,x=.ref l/\vs=[.int i]/\H l=some (.lst xs) /\ -(2 ^ 63)<=i/\i < 2 ^ 63/\seqIndex? i xs.length=some k/\xs[k]? = some y/\Q y (upd H l (.lst (xs.eraseIdx k)))
theorem Ik:MtM X "list.pop" IE:=by
 intro pins s σ H x vs v us Q I rx rv h
 obtain ⟨l,xs,i,k,y,rfl,rfl,hH,h1,h2,hk,hy,q⟩:=h
 cases rx
 obtain ⟨u,rfl,ru⟩:=rv.one
 obtain ⟨t,rfl⟩:=ru
 obtain ⟨z,its,n,r,hl,e⟩:=I.lstM hH
 obtain ⟨w,hw,rw'⟩:=r.get hy
 refine call_meets F.slot_list_pop ⟨_,e,rfl⟩ F.entry_list_pop (F.args_list_pop_2 _ _)
  (MeetsSeq.list_pop_at l its.toArray n i t k w (fitsIndex_both h1 h2) (by rw [List.size_toArray,<- hl];exact hk) (by rw [<- Array.getElem?_toList];exact hw) (by rw [List.size_toArray];lia)) ⟨e,?_⟩
 refine ⟨y,_,I.lset (its':=its.eraseIdx k) hH e ?_ (r.eraseIdx k) ?_,rw',q⟩
 ·show its.toArray.eraseIdxIfInBounds k=(its.eraseIdx k).toArray
  rw [List.eraseIdxIfInBounds_toArray]
 ·have:=G5 xs k
  lia
noncomputable def EJ:R2:=fun x y H Q=>∃ l b xs zs,x=.ref l/\y=.ref b/\H l=some (.lst xs)/\H b=some (.lst zs)/\xs.length+zs.length<=sizeLine/\∀ p,H p=none->Q (.ref p) (upd H p (.lst (xs++zs)))
theorem G7:OpR X (binaryOp .Add) EJ:=by
 intro pins s σ H x y v u Q I rx ry h
 obtain ⟨l,b,xs,zs,rfl,rfl,hH,hB,hz,q⟩:=h
 cases rx
 cases ry
 obtain ⟨z,its,n,r,hl,e⟩:=I.lstM hH
 obtain ⟨z2,its2,n2,r2,hl2,e2⟩:=I.lstM hB
 refine PySem.P.add_list e e2 ?_ (by rw [List.size_toArray,List.size_toArray];lia)
 have ea:its.toArray++its2.toArray=(its++its2).toArray:=by simp
 rw [ea]
 exact ⟨.ref _,_,I.lnew (t':=s.toks) (r.append r2) (by rw [List.length_append];lia),rfl,q _ I.fresh⟩
noncomputable def Ew:R2:=fun x y H Q=>∃ l k xs,x=.ref l/\y=.int k/\H l=some (.lst xs) /\ -(2 ^ 63)<=k/\k < 2 ^ 63/\xs.length * k.toNat<=sizeLine /\
 ∀ p,H p=none->Q (.ref p) (upd H p (.lst (List.replicate k.toNat xs).flatten))
theorem K2 {α:Type} (xs:List α) (k:Nat):(List.replicate k xs).flatten.length=k * xs.length:=by
 induction k with
 | zero=>simp
 | succ k ih=>rw [List.replicate_succ,List.flatten_cons,List.length_append,ih,Nat.succ_mul,Nat.add_comm]
theorem Lf:OpR X (binaryOp .Mult) Ew:=by
 intro pins s σ H x y v u Q I rx ry h
 obtain ⟨l,k,xs,rfl,rfl,hH,h1,h2,hz,q⟩:=h
 cases rx
 obtain ⟨t,rfl⟩:=ry
 obtain ⟨z,its,n,r,hl,e⟩:=I.lstM hH
 have hlen:its.toArray.size * k.toNat<=sizeLine:=by rw [List.size_toArray,<- hl];exact hz
 have hcap:¬ its.toArray.size * k.toNat > (2 ^ 63 - 1) / 8:=by
  have:(sizeLine:Nat)<=(2 ^ 63 - 1) / 8:=by decide
  lia
 have hfit:¬ (!Builtin.List.listFitsIndex k)=true:=by
  rw [fitsIndex_both h1 h2]
  exact Bool.false_ne_true
 have hlong:¬ Builtin.List.listTooLong (its.toArray.size * k.toNat)=true:=by
  rw [JS hlen]
  exact Bool.false_ne_true
 have hnew:List.foldl (fun x1 x2=>x1++x2) #[] (List.replicate (if its.toArray.isEmpty=true then 0 else k.toNat) its.toArray)=(List.replicate k.toNat its).flatten.toArray:=by
  have f0:∀ m:Nat,List.foldl (fun x1 x2=>x1++x2) #[] (List.replicate m its.toArray)=(List.replicate m its).flatten.toArray:=fun m=>by
   have:=HC its m []
   rw [List.nil_append] at this
   exact this
  rw [f0]
  cases its with
  | nil=>simp
  | cons a r'=>rw [if_neg (by simp)]
 refine wpAny_binaryOp_repeat_ref (T:="list") (U:="int") (by decide) ⟨_,e,rfl⟩ (fun s'=>typeIs_int s' k t) noFill_list_mul F.fills_int_mul F.slot_int_rmul repeat_list F.slot_int_index.lookup
  (call_meets F.slot_int_rmul (typeIs_int s k t) F.entry_int_rmul (F.args_int_rmul_2 _ _) (int___rmul___int_list k t l its.toArray n)
    ⟨e,rfl,⟨_,e,rfl⟩,call_meets F.slot_list_mul ⟨_,e,rfl⟩ F.entry_list_mul (F.args_list_mul_2 _ _) (AutoListH.list___mul___list_int_3 l its.toArray n k t hfit hcap hlong) ⟨e,?_⟩⟩)
 rw [hnew]
 exact ⟨.ref _,_,I.lnew (t':=s.toks) (r.rep k.toNat) (by rw [K2,Nat.mul_comm];exact hz),rfl,q _ I.fresh⟩
end
section
variable {prog:Program} {w:World} {A:Around} {E:Value->Shared->Prop} {s:Shared}
end
section
variable {X:Cx}
end
end L2
namespace Att
open PySem PySem.W PySem.Calls PyProof.Rows
theorem HY {P:Params} {h:Heap}:∀ (ns:List Int) (vs:List Value),WellAll P h vs (ns.map WData.int)->IntsAre vs ns:=by
 intro ns
 induction ns with
 | nil =>
  intro vs w
  rw [List.map_nil] at w
  cases w
  exact .nil
 | cons n ns ih =>
  intro vs w
  rw [List.map_cons] at w
  cases w with
  | cons a b =>
   cases a
   exact .cons _ _ (ih _ b)
theorem Hk {l:OpenLaw} {n:Nat} (hn:l.most=some n) {P:Params} {h:Heap} {args:List WData} {vals:List Value}
 (hpre:l.row.toRowW.claim.pre args=true) (hwl:WellAll P h vals args) :
 ∃ a vs ns,vals=[Value.ref a]/\args=[WData.list (ns.map WData.int)]/\h.get? a=some { cls:=.type "list",data:=.seq vs.toArray } /\ IntsAre vs ns/\ns.length<=n:=by
 have hsh:WShape.hasAll [] args [.list .int]=true:=(pre_splitW hpre).1
 have hc:l.pre.holds [] { args:=args } = true:=(pre_splitW hpre).2
 obtain ⟨d,r,rfl,h1,h2⟩:=hasAllW_cons hsh
 obtain rfl:=hasAllW_nil h2
 obtain ⟨xs,rfl,h3⟩:=hasW_list h1
 obtain ⟨ns,rfl⟩:=items_int h3
 have hlen:ns.length<=n:=by
  unfold OpenLaw.pre at hc
  have h4:(WTm.not (.lt (.lit (.int (n:Int))) (.len (.arg 0)))).holds [] { args:=[.list (ns.map .int)] } = true:=by
   have h4:=(holds_andW hc).1
   rw [hn] at h4
   exact h4
  have h5:=condW_of h4 (w_not (w_lt w_lit (w_len_list (w_arg rfl))))
  rw [List.length_map] at h5
  refine Nat.le_of_not_lt fun q=>?_
  have q':(n:Int) < ((ns.length:Nat):Int):=by lia
  first
   | (rw [decide_eq_true q'] at h5;exact absurd h5 (by decide))
   | (simp at h5;lia)
 cases hwl with
 | cons w1 w2 =>
  cases w2
  cases w1 with
  | list ho hall=>exact ⟨_,_,ns,rfl,rfl,ho,HY ns _ hall,hlen⟩
theorem Hn (l:OpenLaw) (args:List WData):l.row.toRowW.claim.post args (.bool true) args=true :=
 postW_of (r:=l.row.toRowW) (X:=(true == true))
  (show WShape.has [] (.bool true) .bool=true by first | rfl | decide | simp [WShape.has,WShape.arms,WShape.armsAll])
  (show (WTm.eq .res (.lit (.bool true))).value [] { args:=args,res:=some (.bool true),after:=args } = some (.bool (true == true)) from w_eq_bool (w_res rfl) w_lit) rfl
theorem attach_call {l:OpenLaw} {n:Nat} {q:Program} {loose:List Str} {XP:(Str->Option Value)->Heap->Prop} {YP:World->Heap->Prop} {d:DefRec}
 (hn:l.most=some n) (hdf:d.params.defaults=[])
 (call:∀ (w:World) (s₀ s₁:Shared) (mg mb:Str->Option Value) (fa:Addr) (o:Obj) (pm cd doc:Value) (a:Addr) (vs:List Value) (ns:List Int),
   Ground q loose [] XP w s₀ mg mb s₁.heap->YP w s₁.heap ->
   s₁.heap.get? fa=some o->o.data=.func (docDef d.name d.params d.body d.scope pm cd doc)->s₁.heap.CodeRec cd d.name->mg d.name=some (.ref fa) ->
   s₁.heap.get? a=some { cls:=.type "list",data:=.seq vs.toArray } -> IntsAre vs ns->ns.length<=n->s₁.gens = #[] ->
   codeAny (model l.prog w) callerA (.call (.ref fa) ⟨[.ref a],[]⟩) (fun r s'=>r=.ok (.ret (.bool true))/\OldK s₁.heap s'.heap/\s'.os=s₁.os/\AllBare s'.gens) s₁) :
 WalkO q loose XP YP l.row.toRowW d [] (fun f vs=>PySem.call f vs):=by
 intro w s₀ s₁ mg mb G Y fa o pm cd doc dV kV ho hd hcd hD hmg hg args vals as hpre hlay hrd hwl hlo
 obtain rfl:dV=.none:=Dflts.none hD hdf
 obtain rfl:kV=.none:=Dflts.noKw hD
 obtain ⟨a,vs,ns,rfl,rfl,hobj,hints,hlen⟩:=Hk hn hpre hwl
 refine enter_call (codeAny_mono (call w s₀ s₁ mg mb fa o pm cd doc a vs ns G Y ho (fd_plain hd) hcd hmg hobj hints hlen hg) fun r s' hq=>?_)
 obtain ⟨rfl,h2,h3,h4⟩:=hq
 exact ⟨.inl ⟨.bool true,.bool true,[],rfl,fun _=>rfl,.bool true,Hn l _,fun _=>⟨List.Pairwise.nil,fun _ hm=>(nomatch hm)⟩⟩,h2,h3,h4⟩
section
variable {prog:Program} {w:World} {A:Around} {E:Value->Shared->Prop} {s:Shared} {K:Frag}
noncomputable def Da (h:Heap):Heap:={ h with objs:=#[] }
theorem GV (h:Heap) (b:Addr):(Da h).get? b=none:=by
 cases e:(Da h).get? b with
 | none=>rfl
 | some o=>exact absurd (Heap.lt_size e) (Nat.not_lt_zero _)
theorem J2 {h:Heap} {L:Addr} {m:Str->Option Value} (n:h.Ns L m):Fr (Da h) L h m :=
 ⟨n,fun b o e=>(by rw [GV] at e;cases e),Nat.zero_le _⟩
end
end Att
namespace L2
open PySem PySem.Spec PyProof.Rows
theorem G9:∀ {vs:List Value} {ns:List Int},IntsAre vs ns->Vals (ns.map V.int) vs
 | _,_,.nil=>.nil
 | _,_,.cons n t h=>.cons ⟨t,rfl⟩ (G9 h)
noncomputable def EV (H:Hp):Prop:=∀ b,H b=none\/∃ o xs,H b=some (.frz o (.lst xs))
theorem LR {P:Program} {w:World} {K:W.Frag} {mg mb:Str->Option Value} {CX:CXT} {k:Nat} {fa a:Addr} {fd:FuncData} {x:Str} {sp:Sp} {s₁:Shared} {vs:List Value} {ns:List Int}
 (KX:K.In s₁.heap) (hns:s₁.heap.Ns mainGlobals mg) (hb:s₁.heap.Ns builtinsNs mb) (hbb:∀ x:Str,x ≠ "__name__" -> mb x=bootBuiltins x) (hlim:s₁.heap.NoLimit) (hg:s₁.gens = #[])
 (ha:s₁.heap.get? a=some { cls:=.type "list",data:=.seq vs.toArray }) (hi:IntsAre vs ns) (hl:ns.length<=sizeLine) (hr:Room k callerA)
 (F:∀ base:Heap,K.In base->base.Ns mainGlobals mg->FnOk P w K mg base CX k fa fd [x] sp) (hbind:∀ (s:Shared) (u:Value),BindsTo s fd ⟨[u],[]⟩ [(x,u)])
 (hsp:∀ H:Hp,EV H->SqL K H a (ns.map V.int)->sp [.ref a] H (fun v _=>v=.bl true) fun _ _ _=>False)
 (hCX:∀ H e s',CX [] H s₁ (fun _ _ _=>False) e s'->False) :
 codeAny (model P w) callerA (.call (.ref fa) ⟨[.ref a],[]⟩) (fun r s'=>r=.ok (.ret (.bool true))/\OldK s₁.heap s'.heap/\s'.os=s₁.os/\AllBare s'.gens) s₁:=by
 have rv:=G9 hi
 have lenV:=hi.length
 -- from an abstract heap in which nothing but the script may be tracked
 have core:∀ H:Hp,EV H->SqL K H a (ns.map V.int)->HOk P w H s₁.heap->(∀ b,H b≠none->b=a)->(H a≠none->K.lookup a=none) ->
  codeAny (model P w) callerA (.call (.ref fa) ⟨[.ref a],[]⟩) (fun r s'=>r=.ok (.ret (.bool true))/\OldK s₁.heap s'.heap/\s'.os=s₁.os/\AllBare s'.gens) s₁:=by
  intro H hO hS hok hA hK
  have base_of:∀ {b:Addr} {o:Obj},s₁.heap.get? b=some o->H b=none->(BN s₁.heap H).get? b=some o:=fun e n=>K3 e n
  have noA:∀ {b:Addr} {o:Obj} {es:Array DictEntry} {ep:Nat},s₁.heap.get? b=some o->o.data=.dict es ep->H b=none:=fun {b o es ep} e d=>by
   cases q:H b with
   | none=>rfl
   | some u =>
    have e':b=a:=hA b (by rw [q];simp)
    subst e'
    rw [ha] at e;cases e
    have d':Data.seq vs.toArray _=Data.dict es ep:=d
    cases d'
  have nsK:∀ {b:Addr} {m:Str->Option Value},s₁.heap.Ns b m->(BN s₁.heap H).Ns b m:=fun {b m} ⟨o,es,ep,e,d,r⟩=>⟨o,es,ep,base_of e (noA e d),d,r⟩
  have hKb:K.In (BN s₁.heap H):=fun b o e=>base_of (KX b o e) (by
   cases q:H b with
   | none=>rfl
   | some u =>
    have e':b=a:=hA b (by rw [q];simp)
    subst e'
    rw [hK (by rw [q];simp)] at e;cases e)
  have hM:Mod K mg (BN s₁.heap H):=⟨hKb,nsK hns,⟨mb,nsK hb,hbb⟩,let ⟨mc,h1,h2⟩:=hlim;⟨mc,nsK h1,h2⟩⟩
  have e0:Env0 P w K mg (BN s₁.heap H) callerA [] s₁ H:=⟨rfl,hM,fun b o e=>IT e,Nat.le_of_eq (Lp _ _),trivial,fun b hb=>absurd (show b∈([]:List Addr) from hb) (by simp),hok,.of_eq hg⟩
  refine codeAny_mono ((F _ hKb (nsK hns)).run callerA [] s₁ H ⟨[.ref a],[]⟩ [.ref a] [.ref a] _ _ hr e0 (hbind s₁ (.ref a)) (.cons rfl .nil) (hsp H hO hS)) fun r s' h=>?_
  cases r with
  | error e=>exact (hCX H e s' h).elim
  | ok fl =>
   cases fl with
   | next=>exact False.elim h
   | brk=>exact False.elim h
   | cont=>exact False.elim h
   | ret u =>
    obtain ⟨v,H',os,bare,un,hok',r',q⟩:=h
    have q':v=.bl true:=q
    subst q'
    obtain rfl:u=Value.bool true:=r'
    refine ⟨rfl,OldK.of_keep fun b o e=>?_,os,bare⟩
    cases q:H b with
    | none=>exact un.keep b o e q (by intro z;exact absurd (show b∈([]:List Addr) from z) (by simp)) (by simp)
    | some u =>
     rcases hO b with z | ⟨ob,xs,z⟩
     ·rw [q] at z;cases z
     ·have z2:=un.frzs b ob _ z
      obtain ⟨e1,_⟩:=hok b _ z
      obtain ⟨e2,_⟩:=hok' b _ z2
      rw [e] at e1;cases e1
      exact e2
 cases hk:K.lookup a with
 | some o =>
  -- the script is one of the module's own objects
  have e:=KX a o hk
  rw [ha] at e
  cases e
  refine core (fun _=>none) (fun _=>.inl rfl) (.inr ⟨_,vs.toArray,_,hk,rfl,rfl,rfl,by rw [List.size_toArray,lenV];exact hl,by simpa using rv⟩) (fun b u z=>by have z':(none:Option HO)=some u:=z;cases z') (fun b z=>absurd rfl z) fun z=>absurd rfl z
 | none =>
  refine core (fun b=>if b=a then some (.frz { cls:=.type "list",data:=.seq vs.toArray } (.lst (ns.map V.int))) else none) (fun b=>?_) (.inl (.inr ⟨{ cls:=.type "list",data:=.seq vs.toArray },if_pos rfl⟩)) (fun b u z=>?_) (fun b z=>?_) fun _=>hk
  ·by_cases hb:b=a
   ·exact .inr ⟨_,_,if_pos hb⟩
   ·exact .inl (if_neg hb)
  ·by_cases hb:b=a
   ·have z':=(if_pos hb).symm.trans z
    cases z'
    subst hb
    exact ⟨ha,by rw [List.length_map];exact hl,vs,_,rv,ha⟩
   ·have z':=(if_neg hb).symm.trans z
    cases z'
  ·by_cases hb:b=a
   ·exact hb
   ·exact absurd (if_neg hb) z
theorem walk_of {l:PySem.W.OpenLaw} {n k:Nat} {q:Program} {loose:List Str} {XP:(Str->Option Value)->Heap->Prop} {YP:World->Heap->Prop} {d:DefRec} {K:Params->W.Frag} {CX:World->CXT} {sp:World->Sp} {x:Str}
 (hn:l.most=some n) (hn2:n<=sizeLine) (hdf:d.params.defaults=[]) (hr:Room k callerA)
 (hY:∀ (w:World) (h:Heap),YP w h->(K w.params).In h)
 (F:∀ (w:World) (mg:Str->Option Value) (fa:Addr) (h:Heap),(K w.params).In h->h.Ns mainGlobals mg->mg d.name=some (.ref fa) ->
   ∃ fd:FuncData,(∀ (s:Shared) (u:Value),BindsTo s fd ⟨[u],[]⟩ [(x,u)]) /\
    ∀ base:Heap,(K w.params).In base->base.Ns mainGlobals mg->FnOk l.prog w (K w.params) mg base (CX w) k fa fd [x] (sp w))
 (hsp:∀ (w:World) (H:Hp) (a:Addr) (ns:List Int),ns.length<=n->EV H->SqL (K w.params) H a (ns.map V.int)->sp w [.ref a] H (fun v _=>v=.bl true) fun _ _ _=>False)
 (hCX:∀ (w:World) (H:Hp) (s:Shared) (e:Value) (s':Shared),CX w [] H s (fun _ _ _=>False) e s'->False) :
 PySem.W.WalkO q loose XP YP l.row.toRowW d [] (fun f vs=>PySem.call f vs):=by
 refine Att.attach_call hn hdf fun w s₀ s₁ mg mb fa o pm cd doc a vs ns G Y ho hd hcd hmg hobj hints hlen hg=>?_
 have KX:=hY w _ Y
 obtain ⟨fd,hb,hF⟩:=F w mg fa _ KX G.T.g hmg
 exact LR KX G.T.g G.T.b G.T.builtins G.T.nolimit hg hobj hints (Nat.le_trans hlen hn2) hr hF hb (fun H hO hS=>hsp w H a ns hlen hO hS) fun H e s'=>hCX w H s₁ e s'
noncomputable def J8 (s:Stmt) (j:Nat):Stmt:=match s with
 | .ClassDef _ _ _ body _ _ _ _ _ _ _=>body.getD j (.Pass ⟨0,0,0,0⟩)
 | _=>.Pass ⟨0,0,0,0⟩
noncomputable def Ab (s:Stmt):Arguments:=match s with
 | .FunctionDef _ a _ _ _ _ _ _ _ _=>a
 | _=>{ posonlyargs:=[],args:=[],vararg:=none,kwonlyargs:=[],kw_defaults:=[],kwarg:=none,defaults:=[] }
noncomputable def AV (s:Stmt):List Stmt:=match s with
 | .FunctionDef _ _ b _ _ _ _ _ _ _=>b
 | _=>[]
noncomputable def AI (s:Stmt):Scope:=match s with
 | .FunctionDef _ _ _ _ _ _ sc _ _ _=>sc
 | _=>{ kind:=.function,names:=[],isGenerator:=false,isCoroutine:=false }
noncomputable abbrev CX0:CXT:=fun _ _ _ _ _ _=>False
noncomputable abbrev E0:XK:=fun _ _ _=>False
theorem AN {X:Cx}:EU CX0 X E0:=fun _ _ _ _ _ _ _ h=>h.elim
structure Fun (K:W.Frag) (x qual:Str) (st:Stmt) (f:Addr) (fd:FuncData):Prop where
 ex:∃ (oc:Value) (od:Option Addr) (kV doc pm:Value) (an:Option Addr) (cdv ct:Value) (osl:Array (Option Value)),
  fd=PySem.W.fnOf x qual (Ab st) (AV st) (AI st) .none kV doc pm an cdv ct/\K.lookup f=some ⟨oc,od,.func fd,osl⟩/\PySem.W.codeIn K cdv qual=true
 kp:PySem.W.keepIn K (.ref f)=true
section
variable {P:Program} {w:World} {K:W.Frag} {mg:Str->Option Value} {base:Heap}
theorem Fun.ok {x qual:Str} {st:Stmt} {f:Addr} {fd:FuncData} {N ps:List Str} {k:Nat} {sp:Sp} (F:Fun K x qual st f fd) (S:FnScope N ps (AI st)) (len:∀ vs H Q E,sp vs H Q E->vs.length=ps.length)
 (hbody:∀ (cdv:Value) (A:Around) (outer:List Env) (s:Shared) (H:Hp) (vs:List V) (Q:VK) (E:XK),Room k (A.deeper (envOfC qual (AI st) s.heap.objs.size f cdv))->sp vs H Q E ->
   ∃ t,PSs (BQ CX0 P w K mg base N qual (AI st) f cdv A outer s H E).nox (AV st) t/\t { nx:=fun _ H'=>Q .non H',rt:=Q } (BO N vs) H):FnOk P w K mg base CX0 (k+1) f fd ps sp:=by
 obtain ⟨oc,od,kV,doc,pm,an,cdv,ct,osl,rfl,lk,hcd⟩:=F.ex
 refine Gg lk hcd S len fun A outer s H vs Q E hr hsp=>?_
 obtain ⟨t,h,q⟩:=hbody cdv A outer s H vs Q E hr hsp
 exact ⟨t,h.nox,q⟩
theorem Fun.binds {x qual:Str} {st:Stmt} {f:Addr} {fd:FuncData} {ps:List Str} (F:Fun K x qual st f fd)
 (h:∀ (kV doc pm:Value) (an:Option Addr) (cdv ct:Value) (us:List Value),us.length=ps.length->bindArgs (PySem.W.fnOf x qual (Ab st) (AV st) (AI st) .none kV doc pm an cdv ct) ⟨us,[]⟩=pure (ps.zip us)):Binds K fd ps []:=by
 obtain ⟨oc,od,kV,doc,pm,an,cdv,ct,osl,rfl,lk,hcd⟩:=F.ex
 exact .all (h kV doc pm an cdv ct)
theorem At {x qual:Str} {st:Stmt} {f:Addr} {oc:Value} {od an:Option Addr} {osl:Array (Option Value)} {kV doc pm cdv ct:Value} (l:K.lookup f=some ⟨oc,od,.func (PySem.W.fnOf x qual (Ab st) (AV st) (AI st) .none kV doc pm an cdv ct),osl⟩)
 (c:PySem.W.codeIn K cdv qual=true) (k:PySem.W.keepIn K (.ref f)=true):Fun K x qual st f (PySem.W.fnOf x qual (Ab st) (AV st) (AI st) .none kV doc pm an cdv ct):=⟨⟨oc,od,kV,doc,pm,an,cdv,ct,osl,rfl,l,c⟩,k⟩
end
theorem Aq {n:Nat} (h:n<=1000):n < sizeLine:=Nat.lt_of_le_of_lt h (by decide)
section
variable {X:Cx}
end
theorem Aj {c A B:Prop} [Decidable c] (h1:c->A) (h2:¬ c->B):if c then A else B:=by
 by_cases h:c
 ·rw [if_pos h]
  exact h1 h
 ·rw [if_neg h]
  exact h2 h
noncomputable def Same (H H':Hp):Prop:=∀ b o,H b=some o->H' b=some o
theorem Same.refl (H:Hp):Same H H:=fun _ _ h=>h
theorem Same.trans {H H1 H2:Hp} (a:Same H H1) (b:Same H1 H2):Same H H2:=fun c o h=>b c o (a c o h)
theorem Same.free {H H':Hp} (e:Same H H') {l:Addr} (h:H' l=Option.none):H l=Option.none:=by
 cases q:H l with
 | none=>rfl
 | some o =>
  rw [e l o q] at h
  cases h
theorem Same.seq {K:W.Frag} {H H':Hp} {a:Addr} {xs:List V} (e:Same H H') (h:SqL K H a xs):SqL K H' a xs:=by
 rcases h with (h | ⟨o,h⟩) | h
 ·exact .inl (.inl (e _ _ h))
 ·exact .inl (.inr ⟨o,e _ _ h⟩)
 ·exact .inr h
theorem CP:∀ (names:List (Str × NameKind)) (n:Nat) (acc:List (Str × Addr)),cellsFrom n names acc=cellsFrom n names []++acc
 | [],_,_=>rfl
 | (name,kind)::r,n,acc=>by
  unfold cellsFrom
  split
  ·rw [CP r (n+1) ((name,n)::acc),CP r (n+1) [(name,n)],List.append_assoc];rfl
  ·exact CP r n acc
theorem cellsFrom_kind:∀ (names:List (Str × NameKind)) (n:Nat) (acc:List (Str × Addr)) (x:Str) (c:Addr),(x,c)∈cellsFrom n names acc->(x,c)∈acc\/(x,NameKind.cell)∈names
 | [],_,_,_,_,h=>.inl h
 | (name,kind)::r,n,acc,x,c,h=>by
  unfold cellsFrom at h
  split at h
  ·rename_i hk
   rcases cellsFrom_kind r _ _ x c h with h | h
   ·rcases List.mem_cons.mp h with e | h
    ·cases e
     have:kind=.cell:=by simpa using hk
     subst this
     exact .inr List.mem_cons_self
    ·exact .inl h
   ·exact .inr (List.mem_cons_of_mem _ h)
  ·rcases cellsFrom_kind r _ _ x c h with h | h
   ·exact .inl h
   ·exact .inr (List.mem_cons_of_mem _ h)
theorem Df {α:Type} {x:Str}:∀ (l r:List (Str × α)),(l++r).lookup x=(match l.lookup x with | some c=>some c | none=>r.lookup x)
 | [],r=>rfl
 | (k,v)::l,r=>by
  show List.lookup x ((k,v)::(l++r))=_
  rw [List.lookup_cons,List.lookup_cons]
  cases x == k with
  | true=>rfl
  | false=>exact Df l r
theorem Gb {α:Type} {x:Str}:∀ {l:List (Str × α)},(∀ c,(x,c)∉l)->l.lookup x=none
 | [],_=>rfl
 | (k,v)::l,h=>by
  rw [List.lookup_cons]
  cases hb:x == k with
  | true =>
   have:x=k:=by simpa using hb
   subst this
   exact absurd List.mem_cons_self (h v)
  | false=>exact Gb fun c hc=>h c (List.mem_cons_of_mem _ hc)
noncomputable def Ag (cells:List (Str × Addr)):List (Str × NameKind)->List (Str × Addr)->List (Str × Addr)
 | [],acc=>acc
 | (n,k)::r,acc=>if k == .free then Ag cells r ((n,(cells.lookup n).getD 0)::acc) else Ag cells r acc
theorem Gy {scope:Scope} {env:Env} (h:∀ y∈scope.names,y.2=.free->∃ c,env.cells.lookup y.1=some c):closureFor scope env=pure (Ag env.cells scope.names []):=by
 have all:∀ (names:List (Str × NameKind)) (acc:List (Str × Addr)),(∀ y∈names,y.2=.free->∃ c,env.cells.lookup y.1=some c) ->
  (forIn names acc fun (x:Str × NameKind) cs=>(if (x.2 == NameKind.free)=true then (do let a <- cellOf env x.1;pure (ForInStep.yield ((x.1,a)::cs))) else pure (ForInStep.yield cs):Sem (ForInStep (List (Str × Addr)))))=(pure (Ag env.cells names acc):Sem _):=by
  intro names
  induction names with
  | nil=>intro acc _;rfl
  | cons y r ih =>
   intro acc hy
   obtain ⟨n,k⟩:=y
   rw [List.forIn_cons]
   have hr:∀ y∈r,y.2=.free->∃ c,env.cells.lookup y.1=some c:=fun y hm=>hy y (List.mem_cons_of_mem _ hm)
   unfold Ag
   by_cases hk:(k == NameKind.free)=true
   ·obtain ⟨c,e⟩:=hy (n,k) List.mem_cons_self (by simpa using hk)
    rw [if_pos hk,if_pos hk]
    have e2:cellOf env n=pure c:=by unfold cellOf;rw [show env.cells.lookup n=some c from e]
    rw [e2]
    rw [show env.cells.lookup n=some c from e]
    exact ih _ hr
   ·rw [if_neg hk,if_neg hk]
    exact ih _ hr
 have q:=all scope.names [] h
 unfold closureFor
 refine Eq.trans ?_ (congrArg (fun t=>t >>= pure) q |>.trans (by rfl))
 congr 1
theorem clOf_mem {cells:List (Str × Addr)}:∀ (names:List (Str × NameKind)) (acc:List (Str × Addr)) (x:Str) (c:Addr),(∀ y∈names,y.2=.free->∃ c,cells.lookup y.1=some c)->(x,c)∈Ag cells names acc->(x,c)∈acc\/((x,NameKind.free)∈names/\cells.lookup x=some c)
 | [],_,_,_,_,h=>.inl h
 | (n,k)::r,acc,x,c,hy,h=>by
  have hr:∀ y∈r,y.2=.free->∃ c,cells.lookup y.1=some c:=fun y hm=>hy y (List.mem_cons_of_mem _ hm)
  unfold Ag at h
  split at h
  ·rename_i hk
   have hk':k=.free:=by simpa using hk
   subst hk'
   obtain ⟨d,e⟩:=hy (n,.free) List.mem_cons_self rfl
   rcases clOf_mem r _ x c hr h with h | ⟨h,h'⟩
   ·rcases List.mem_cons.mp h with e' | h
    ·obtain ⟨e1,e2⟩:=Prod.mk.inj e'
     rw [show cells.lookup n=some d from e] at e2
     subst e1
     exact .inr ⟨List.mem_cons_self,by rw [e2];exact e⟩
    ·exact .inl h
   ·exact .inr ⟨List.mem_cons_of_mem _ h,h'⟩
  ·rcases clOf_mem r _ x c hr h with h | ⟨h,h'⟩
   ·exact .inl h
   ·exact .inr ⟨List.mem_cons_of_mem _ h,h'⟩
theorem EZ {cells:List (Str × Addr)} {x:Str}:∀ (names:List (Str × NameKind)) (acc:List (Str × Addr)),(∃ c,(x,c)∈acc)->∃ c,(x,c)∈Ag cells names acc
 | [],_,h=>h
 | (n,k)::r,acc,⟨c,h⟩=>by
  unfold Ag
  split
  ·exact EZ r _ ⟨c,List.mem_cons_of_mem _ h⟩
  ·exact EZ r _ ⟨c,h⟩
theorem Eh {cells:List (Str × Addr)} {x:Str}:∀ (names:List (Str × NameKind)) (acc:List (Str × Addr)),(x,NameKind.free)∈names->∃ c,(x,c)∈Ag cells names acc
 | (n,k)::r,acc,h=>by
  unfold Ag
  rcases List.mem_cons.mp h with e | h
  ·cases e
   rw [if_pos (by decide)]
   exact EZ r _ ⟨_,List.mem_cons_self⟩
  ·split
   ·exact Eh r _ h
   ·exact Eh r _ h
theorem Gs {α:Type} {x:Str}:∀ {l:List (Str × α)},(∃ c,(x,c)∈l)->∃ c,l.lookup x=some c
 | (k,v)::l,⟨c,h⟩=>by
  rw [List.lookup_cons]
  cases hb:x == k with
  | true=>exact ⟨v,rfl⟩
  | false =>
   rcases List.mem_cons.mp h with e | h
   ·cases e;simp at hb
   ·exact Gs ⟨c,h⟩
noncomputable def Cu (scope sc:Scope):Scope :=
 { scope with names:=scope.names.map fun (n,k)=>if (k == .free && sc.kind == .function && sc.names.lookup n == some .cell) then (n,.cell) else (n,k) }
structure CompScope (scope sc:Scope):Prop where
 kind:scope.kind=.function
 nd:(scope.names.map (·.1)).Nodup
 fr:∀ y∈scope.names,y.2=.free->sc.names.lookup y.1=some .cell\/sc.names.lookup y.1=some .free
theorem Bk {α:Type}:∀ {l:List (Str × α)} {x:Str} {c:α},(l.map (·.1)).Nodup->(x,c)∈l->l.lookup x=some c
 | (k,v)::l,x,c,nd,h=>by
  obtain ⟨n1,n2⟩:=List.nodup_cons.mp (show (k::l.map (·.1)).Nodup from nd)
  rw [List.lookup_cons]
  rcases List.mem_cons.mp h with e | h
  ·cases e;simp
  ·have hne:¬ x=k:=fun e=>n1 (by rw [<- e];exact List.mem_map.mpr ⟨(x,c),h,rfl⟩)
   have:(x == k)=false:=by simpa using hne
   rw [this]
   exact Bk n2 h
theorem Fw {scope sc:Scope} {x:Str}:(Cu scope sc).names.lookup x=(scope.names.lookup x).map fun k=>if (k == .free && sc.kind == .function && sc.names.lookup x == some .cell) then NameKind.cell else k:=by
 show (scope.names.map _).lookup x=_
 generalize scope.names=names
 induction names with
 | nil=>rfl
 | cons y r ih =>
  obtain ⟨n,k⟩:=y
  rw [List.map_cons]
  by_cases hc:(k == .free && sc.kind == .function && sc.names.lookup n == some .cell)=true
  ·show List.lookup x ((if (k == .free && sc.kind == .function && sc.names.lookup n == some .cell)=true then (n,NameKind.cell) else (n,k))::_)=_
   rw [if_pos hc,List.lookup_cons,List.lookup_cons]
   cases hb:x == n with
   | true =>
    have hx:x=n:=by simpa using hb
    subst hx
    show some NameKind.cell=some (if _ then _ else _)
    rw [if_pos hc]
   | false=>exact ih
  ·show List.lookup x ((if (k == .free && sc.kind == .function && sc.names.lookup n == some .cell)=true then (n,NameKind.cell) else (n,k))::_)=_
   rw [if_neg hc,List.lookup_cons,List.lookup_cons]
   cases hb:x == n with
   | true =>
    have hx:x=n:=by simpa using hb
    subst hx
    show some k=some (if _ then _ else _)
    rw [if_neg hc]
   | false=>exact ih
structure CArgs where
 pins:List (Addr × Obj)
 cells:List (Str × Addr)
 s:Shared
 H:Hp
 fp:List Addr
 C:Addr
noncomputable def Cx.comp (X:Cx) (scope:Scope) (N':List Str) (c:CArgs):Cx where
 prog:=X.prog
 w:=X.w
 K:=X.K
 mg:=X.mg
 base:=X.base
 A:=X.A
 N:=N'
 s₀:=c.s
 H₀:=c.H
 env:=compEnvC scope c.cells c.C X.env
 outer:=X.stack
 stack:=X.stack
 ex:=c.fp
 fn:=fun x=>scope.names.lookup x == some .cell
 calm:=X.calm
 pn:=X.pn++c.pins
 xe:=fun _ _=>False
noncomputable def cSt (own:Nat) (ix:List Nat) (σ:St):St:=List.replicate own none++ix.map fun i=>(σ[i]?).join
section
variable {X:Cx} {pins:List (Addr × Obj)} {σ:St} {H:Hp} {s s4:Shared} {fp:List Addr} {scope:Scope} {N':List Str} {own:Nat} {ix:List Nat}
theorem IL (I:Inv X pins σ H s) (f2:∀ b∈fp,Az X pins H b) (hob:∀ b∈fp,∃ o,s.heap.get? b=some o) (S:CompScope scope X.env.scope)
 (hlen:N'.length=own+ix.length) (hN:(N'.drop own).map some=ix.map (X.N[·]?)) (hfr:∀ x∈N'.drop own,scope.names.lookup x=some .free)
 {C:Addr} (hC:s.heap.objs.size < C) (k4:∀ b o,s.heap.get? b=some o->s4.heap.get? b=some o) (os4:s4.os=s.os) (g4:s4.gens=s.gens)
 (n4:∃ m,s4.heap.Ns C m) (own4:∀ x c,(x,c)∈cellsFrom (C+1) scope.names []->s4.heap.IsCell c none/\C+1<=c)
 (apart:(cellsFrom (C+1) scope.names []).Pairwise fun x y=>x.2≠y.2) :
 Inv (X.comp scope N' ⟨pins,cellsFrom (C+1) scope.names (Ag X.env.cells scope.names []),s,H,fp,C⟩) [] (cSt own ix σ) H s4:=by
 have hfree:∀ y∈scope.names,y.2=.free->∃ c,X.env.cells.lookup y.1=some c:=fun y hy h=>I.ok.has y.1 (S.fr y hy h)
 -- a cell of the block
 have cases:∀ x c,(cellsFrom (C+1) scope.names (Ag X.env.cells scope.names [])).lookup x=some c ->
  ((x,c)∈cellsFrom (C+1) scope.names []/\scope.names.lookup x=some .cell)\/((x,NameKind.free)∈scope.names/\X.env.cells.lookup x=some c):=fun x c h=>by
  rw [CP,Df] at h
  cases e:(cellsFrom (C+1) scope.names []).lookup x with
  | some d =>
   rw [e] at h
   cases h
   have m:=mem_of_lookup e
   rcases cellsFrom_kind _ _ _ _ _ m with z | z
   ·exact absurd z (by simp)
   ·exact .inl ⟨m,Bk S.nd z⟩
  | none =>
   rw [e] at h
   rcases clOf_mem _ _ _ _ hfree (mem_of_lookup h) with z | z
   ·exact absurd z (by simp)
   ·exact .inr z
 have oldlt:∀ x c,X.env.cells.lookup x=some c->c < s.heap.objs.size:=fun x c e=>let ⟨v,q⟩:=I.cell x c e;q.lt
 have kin:∀ x,(Cu scope X.env.scope).names.lookup x=some .cell\/(Cu scope X.env.scope).names.lookup x=some .free->(scope.names.lookup x=some .cell\/scope.names.lookup x=some .free):=fun x h=>by
  rw [Fw] at h
  cases e:scope.names.lookup x with
  | none=>rw [e] at h;simp at h
  | some k =>
   rw [e] at h
   cases k with
   | cell=>exact .inl rfl
   | free=>exact .inr rfl
   | _=>exact absurd h (by simp)
 have hCn:∀ b o,s.heap.get? b=some o->b≠C:=fun b o e z=>by have:=Heap.lt_size e;rw [z] at this;exact Nat.lt_irrefl _ (Nat.lt_trans this hC)
 have lk:∀ x,(x,NameKind.free)∈scope.names->∀ c,X.env.cells.lookup x=some c->(cellsFrom (C+1) scope.names (Ag X.env.cells scope.names [])).lookup x=some c:=fun x hx c hc=>by
  have hl:scope.names.lookup x=some .free:=Bk S.nd hx
  rw [CP,Df,Gb (l:=cellsFrom (C+1) scope.names []) fun d hd=>?_]
  ·obtain ⟨d,hd⟩:=Gs (Eh (cells:=X.env.cells) scope.names [] hx)
   rcases clOf_mem _ _ _ _ hfree (mem_of_lookup hd) with z | ⟨_,z⟩
   ·exact absurd z (by simp)
   ·rw [hc] at z;cases z;exact hd
  ·rcases cellsFrom_kind _ _ _ _ _ hd with z | z
   ·exact absurd z (by simp)
   ·rw [Bk S.nd z] at hl;cases hl
 refine ⟨⟨I.ok.mod,S.kind,I.ok.glob,I.ok.blt,Nat.le_of_lt hC,fun x y c hx hy=>?_,fun x hx=>?_,fun x c hf hx=>?_,I.ok.hd,I.ok.frames,.inl rfl,fun b hb=>⟨?_,fun x c hx=>?_⟩,fun b o e=>I.bs b o e,Nat.le_trans I.ok.bsz I.sz,fun b o e hb=>?_,fun b hb z=>?_,I.stack,I.stkFree⟩,
  os4,by rw [g4];exact I.bare,Un.kept k4,?_,fun x c hx=>?_,?_,fun x c hx=>?_,fun p hp=>?_,I.hok.kept k4,?_⟩
 ·-- inj
  rcases cases x c hx with ⟨m1,_⟩ | ⟨_,m1⟩ <;> rcases cases y c hy with ⟨m2,_⟩ | ⟨_,m2⟩
  ·exact name_of_addr apart m1 m2
  ·exact absurd (Nat.lt_of_lt_of_le (Nat.lt_trans (oldlt y c m2) hC) (Nat.le_of_succ_le (own4 x c m1).2)) (Nat.lt_irrefl _)
  ·exact absurd (Nat.lt_of_lt_of_le (Nat.lt_trans (oldlt x c m1) hC) (Nat.le_of_succ_le (own4 y c m2).2)) (Nat.lt_irrefl _)
  ·exact I.ok.inj x y c m1 m2
 ·-- has
  rcases kin x hx with h | h
  ·have q:=PySem.W.cellsFrom_some scope.names (C+1) (Ag X.env.cells scope.names []) (.inl h)
   exact Option.isSome_iff_exists.mp q
  ·obtain ⟨c,e⟩:=hfree (x,.free) (mem_of_lookup h) rfl
   exact ⟨c,lk x (mem_of_lookup h) c e⟩
 ·-- cab
  rcases cases x c hx with ⟨m1,_⟩ | ⟨m1,_⟩
  ·exact Nat.le_of_lt (Nat.lt_of_lt_of_le hC (Nat.le_of_succ_le (own4 x c m1).2))
  ·have hl:=Bk S.nd m1
   have hf':(scope.names.lookup x == some NameKind.cell)=true:=hf
   rw [hl] at hf';cases hf'
 ·obtain ⟨o,e⟩:=hob b hb
  exact hCn b o e
 ·intro z
  obtain ⟨o,e⟩:=hob b hb
  have hlt:=Heap.lt_size e
  rcases cases x c hx with ⟨m1,_⟩ | ⟨_,m1⟩
  ·subst z;exact absurd (Nat.lt_of_lt_of_le (Nat.lt_trans hlt hC) (Nat.le_of_succ_le (own4 x c m1).2)) (Nat.lt_irrefl _)
  ·exact (f2 b hb).2.2.2.2.1 x c m1 z
 ·-- noex
  have e1:=(I.ok.bs b o e).1
  rcases (f2 b hb).2.2.2.1 with z | z
  ·exact I.ok.noex b o e z
  ·exact absurd (Nat.lt_of_lt_of_le (Heap.lt_size e1) z) (Nat.lt_irrefl _)
 ·-- exfs
  rcases List.mem_cons.mp (I.stkSub b z) with e | z
  ·exact (f2 b hb).2.1 e
  ·exact (f2 b hb).2.2.1 z
 ·-- loc
  obtain ⟨m,hm⟩:=n4
  obtain ⟨m0,hn0,hl0⟩:=I.loc
  refine ⟨m,hm,fun i x v h1 h2 h3=>?_⟩
  have h1:N'[i]? = some x:=h1
  unfold cSt at h2
  by_cases hi:i < own
  ·rw [List.getElem?_append_left (by simpa using hi),List.getElem?_replicate] at h2
   split at h2 <;> cases h2
  ·rw [List.getElem?_append_right (by simpa using hi),List.length_replicate,List.getElem?_map] at h2
   obtain ⟨j,hj⟩:∃ j,i=own+j:=⟨i - own,by lia⟩
   subst hj
   rw [Nat.add_sub_cancel_left] at h2
   cases e:ix[j]? with
   | none=>rw [e] at h2;cases h2
   | some q =>
    rw [e] at h2
    have h2:some (σ[q]?).join=some (some v):=h2
    have h2:(σ[q]?).join=some v:=Option.some.inj h2
    have hσ:σ[q]? = some (some v):=by
     cases eq:σ[q]? with
     | none=>rw [eq] at h2;cases h2
     | some z=>rw [eq] at h2;simp at h2;rw [h2]
    have hx:(N'.drop own)[j]? = some x:=by rw [List.getElem?_drop];exact h1
    have hNq:X.N[q]? = some x:=by
     have:=congrArg (·[j]?) hN
     simp only [List.getElem?_map,hx,e,Option.map_some] at this
     exact (Option.some.inj this).symm
    have hfx:=hfr x (List.mem_of_getElem? hx)
    have hmem:=mem_of_lookup hfx
    have kx:=S.fr (x,.free) hmem rfl
    have vis:Vis X.env.scope x:=.inr kx
    obtain ⟨u,r,l⟩:=hl0 q x v hNq hσ vis
    refine ⟨u,r,?_⟩
    rcases l with ⟨k,_⟩ | ⟨k,c,hc,z⟩
    ·exfalso
     have k':X.env.scope.names.lookup x=some .local:=k
     rcases kx with kx | kx
     ·rw [show X.env.scope.names.lookup x=some .cell from kx] at k';cases k'
     ·rw [show X.env.scope.names.lookup x=some .free from kx] at k';cases k'
    ·refine .inr ⟨?_,c,lk x hmem c hc,z.keeps k4⟩
     show (Cu scope X.env.scope).names.lookup x=some .cell\/(Cu scope X.env.scope).names.lookup x=some .free
     rw [Fw,hfx]
     by_cases hc:(NameKind.free == .free && X.env.scope.kind == .function && X.env.scope.names.lookup x == some .cell)=true
     ·exact .inl (by rw [Option.map_some,if_pos hc])
     ·exact .inr (by rw [Option.map_some,if_neg hc])
 ·rcases cases x c hx with ⟨m1,_⟩ | ⟨_,m1⟩
  ·exact ⟨_,(own4 x c m1).1⟩
  ·obtain ⟨v,q⟩:=I.cell x c m1
   exact ⟨v,q.keeps k4⟩
 ·exact I.hok.fresh (Nat.le_of_lt hC)
 ·rcases cases x c hx with ⟨m1,_⟩ | ⟨_,m1⟩
  ·exact I.hok.fresh (Nat.le_of_lt (Nat.lt_of_lt_of_le hC (Nat.le_of_succ_le (own4 x c m1).2)))
  ·exact I.freeC x c m1
 ·have hp:p∈X.pn++pins:=by
   have:p∈(X.pn++pins)++[]:=hp
   rwa [List.append_nil] at this
  obtain ⟨e,n,ne,nf,d⟩:=I.pin p hp
  refine ⟨k4 _ _ e,n,hCn _ _ e,fun z=>?_,d⟩
  rcases List.mem_cons.mp (I.stkSub _ z) with q | q
  ·exact ne q
  ·exact nf q
 ·unfold cSt
  rw [List.length_append,List.length_replicate,List.length_map]
  exact hlen.symm
end
section
variable {prog:Program} {w:World} {A:Around} {R:Result->Shared->Prop} {s:Shared}
theorem Lk {elt target iter:Expr} {ifs:List Expr} {scope:Scope} {pos:Pos} {it acc:Value} {env:Env} (I:Nat->Shared->Prop)
 (turn:∀ n s,I n s->wpAny (model prog w) A (pyNext it) (fun r s₁=>match r with
   | none=>R (.ok .next) s₁
   | some v=>wpAny (model prog w) A (letOwnedTupleGo target it v) (fun _ s₁'=>wpAny (model prog w) A (assign target env v) (fun _ s₂ =>
    wpAny (model prog w) A (forIn ifs true fun c r=>if r=true then do let ok <- isTrue c env (eval c env);pure (ForInStep.yield ok) else pure (ForInStep.yield r)) (fun ok s₃ =>
     if ok=true then wpAny (model prog w) A (eval elt env) (fun x s₄ =>
      wpAny (model prog w) A (call (.builtin "list.append") [acc,x]) (fun _ s₅=>∃ m,m < n/\I m s₅) (fun _ _=>False) s₄) (fun _ _=>False) s₃
     else ∃ m,m < n/\I m s₃) (fun _ _=>False) s₂) (fun _ _=>False) s₁') (fun _ _=>False) s₁) (fun _ _=>False) s)
 (n:Nat) (h:I n s) :
 codeAny (model prog w) A (.compLoop (.ListComp elt [⟨target,iter,ifs,0⟩] scope pos) 0 it acc env) R s:=by
 refine codeAny_loop rfl I (fun n s hI=>?_) n h
 show wpAny _ A ((compTurn (.ListComp elt [⟨target,iter,ifs,0⟩] scope pos) 0 it acc env).onRaise (fun x=>do noteFrame x env;theTreesLotGoes x)) _ _ s
 refine wpAny_noted ?_
 rw [compTurn_list]
 refine wpAny_bind (wpAny_standAt (wpAny_bind (wpAny_mono (turn n s hI) (fun r s₁ h₁=>?_) fun _ _ h'=>h'.elim)))
 cases r with
 | none=>exact wpAny_pure h₁
 | some v =>
  refine wpAny_bind (wpAny_mono h₁ (fun _ s₁' h₁'=>?_) fun _ _ h'=>h'.elim)
  refine wpAny_bind (wpAny_mono h₁' (fun _ s₂ h₂=>wpAny_bind (wpAny_mono h₂ (fun ok s₃ h₃=>?_) fun _ _ h'=>h'.elim)) fun _ _ h'=>h'.elim)
  cases ok with
  | false=>exact wpAny_pure ⟨rfl,h₃⟩
  | true =>
   exact wpAny_bind (wpAny_bind (wpAny_mono h₃ (fun x s₄ h₄=>wpAny_bind (wpAny_mono h₄ (fun _ s₅ h₅=>wpAny_pure (wpAny_pure ⟨rfl,h₅⟩)) fun _ _ h'=>h'.elim)) fun _ _ h'=>h'.elim))
end
noncomputable def PTs (X:Cx) (ifs:List Expr) (t:TT):Prop :=
 ∀ (pins:List (Addr × Obj)) (s:Shared) (σ:St) (H:Hp) (Q:Bool->Hp->Prop),Inv X pins σ H s->t σ H Q ->
  wpAny (model X.prog X.w) X.A (forIn ifs true fun c r=>if r=true then do let ok <- isTrue c X.env (eval c X.env);pure (ForInStep.yield ok) else pure (ForInStep.yield r)) (TP X pins σ Q) X.xe s
noncomputable def Lq:TT:=fun _ H Q=>Q true H
theorem A8 {X:Cx}:PTs X [] Lq:=fun _ _ _ H _ I h=>wpAny_tests_nil ⟨H,I,h⟩
noncomputable def B6 (own:Nat) (g:TG):Prop:=∀ x σ H Q,g x σ H Q->g x σ H fun σ' H'=>(σ'.length=σ.length/\∀ i,own<=i->σ'[i]? = σ[i]?)/\Q σ' H'
theorem A5 {own i:Nat} (h:i < own):B6 own (Ae i):=fun x σ H Q q =>
 ⟨⟨by simp,fun j hj=>by rw [List.getElem?_set_ne (by lia)]⟩,q⟩
noncomputable def CQ (g:TG):Prop:=∀ x σ H (Q Q':St->Hp->Prop),(∀ σ H,Q σ H->Q' σ H)->g x σ H Q->g x σ H Q'
noncomputable def C8 (g:TGs):Prop:=∀ x σ H (Q Q':St->Hp->Prop),(∀ σ H,Q σ H->Q' σ H)->g x σ H Q->g x σ H Q'
theorem JD {i:Nat}:CQ (Ae i):=fun _ _ _ _ _ h q=>h _ _ q
theorem HZ:C8 GU:=fun _ _ _ _ _ h ⟨e,q⟩=>⟨e,h _ _ q⟩
theorem J9 {t:TG} {u:TGs} (h1:CQ t) (h2:C8 u):C8 (Ez t u):=fun _ _ _ _ _ h ⟨v,r,e,q⟩=>⟨v,r,e,h1 _ _ _ _ _ (fun _ _ q=>h2 _ _ _ _ _ h q) q⟩
theorem Jc {own:Nat} {ix:List Nat} {σ:St} {i:Nat} {v:V} (h:(cSt own ix σ)[i]? = some (some v)):own<=i:=by
 unfold cSt at h
 by_cases hi:i < own
 ·rw [List.getElem?_append_left (by simpa using hi),List.getElem?_replicate] at h
  split at h <;> cases h
 ·lia
noncomputable def Cf (J:It) (g:TG) (tc:TT) (te:TE) (σc:St) (Q:VK) (H1:Hp):Prop :=
 ∃ W:Nat->Nat->List V->Hp->Prop,(∃ m,W 0 m [] H1)/\∀ i m ys H,W i m ys H ->
  (J.stop i H/\∀ p,H p=none->Q (.ref p) (upd H p (.lst ys))) \/
  (J.go i H/\ys.length < sizeLine/\∃ N:List V->Hp->Prop,(∀ ys' H',N ys' H'->∃ m',m' < m/\W (i+1) m' ys' H')/\∀ x H',J.yld i H x H'->g x σc H' fun σ4 H4=>tc σ4 H4 fun b H5 =>
    if b=true then te σ4 H5 fun y H6=>N (ys++[y]) H6 else N ys H5)
noncomputable def Ca (wi:TI) (own:Nat) (ix:List Nat) (g:TG) (tc:TT) (te:TE):TE:=fun σ H Q=>wi σ H fun J H1=>Cf J g tc te (cSt own ix σ) Q H1
section
variable {X:Cx} {pins:List (Addr × Obj)} {σ:St} {H:Hp} {s:Shared} {fp:List Addr} {it:Addr} {tn:Nat->Heap->Prop} {J:It} {tg iter elt:Expr} {ifs:List Expr} {scope:Scope} {pos:Pos} {N':List Str} {own:Nat} {ix:List Nat} {g:TG} {tc:TT} {te:TE} {Q:VK} {E:Value->Shared->Prop}
theorem G8 (I:Inv X pins σ H s) (T:Turn X.prog X.w X.K tg J fp it tn) (st:tn 0 s.heap) (f2:∀ b∈fp,Az X pins H b) (hc:X.calm=true) (S:CompScope scope X.env.scope)
 (hlen:N'.length=own+ix.length) (hN:(N'.drop own).map some=ix.map (X.N[·]?)) (hfr:∀ x∈N'.drop own,scope.names.lookup x=some .free)
 (hg:∀ c,PG (X.comp scope N' c) tg g) (hgo:B6 own g) (ht:∀ c,PTs (X.comp scope N' c) ifs tc) (he:∀ c,PE (X.comp scope N' c) elt te)
 (hq:Cf J g tc te (cSt own ix σ) Q H) {RR:Value->Addr->Result->Shared->Prop}
 (fin:∀ (D C:Addr) (s':Shared) (H':Hp) (ys:List V) (its:List Value) (n:Nat),s'.os=s.os->AllBare s'.gens->Un (frs X.stack) fp H H' s.heap s'.heap->HOk X.prog X.w H' s'.heap->(∃ m,s'.heap.Ns C m)->H' C=none->s.heap.objs.size<=C ->
   H' D=none->s.heap.objs.size<=D->D≠C->s'.heap.get? D=some { cls:=.type "list",data:=.seq its.toArray n } -> Vals ys its->ys.length<=sizeLine->(∀ p,H' p=none->Q (.ref p) (upd H' p (.lst ys)))->RR (.ref D) C (.ok .next) s') :
 wpAny (model X.prog X.w) X.A (newList []) (fun acc s₃=>wpAny (model X.prog X.w) X.A (newFunctionEnv scope X.env.globals (Ag X.env.cells scope.names []) [] X.env.qual none .none (some X.env)) (fun cenv s₄ =>
  codeAny (model X.prog X.w) X.A (.compStart (.ListComp elt [⟨tg,iter,ifs,0⟩] scope pos) 0 (.ref it) acc { cenv with scope:=relabel scope X.env }) (RR acc cenv.locals) s₄) E s₃) E s:=by
 obtain ⟨W,⟨m0,w0⟩,turn⟩:=hq
 have hob:∀ b∈fp,∃ o,s.heap.get? b=some o:=fun b hb=>let ⟨o,e,_⟩:=T.obj 0 _ st b hb;⟨o,e⟩
 refine wpAny_newObj_type ?_
 generalize hH1:s.heap.push { cls:=.type "list",dict:=none,data:=.seq ([]:List Value).toArray } = h1
 have hs1:h1.objs.size=s.heap.objs.size+1:=by rw [<- hH1,Heap.size_push]
 have k1:∀ b o,s.heap.get? b=some o->h1.get? b=some o:=fun b o e=>by rw [<- hH1];exact Heap.get?_push_of_some _ e
 have d1:h1.get? s.heap.objs.size=some { cls:=.type "list",data:=.seq ([]:List Value).toArray }:=by rw [<- hH1];exact Heap.get?_push_size _ rfl
 simp only [newFunctionEnv,Option.isSome_some,if_true]
 refine wpAny_bind (wpAny_alloc ?_)
 generalize hH2:(({ s with heap:=h1 }:Shared).heap.push { cls:=.type "dict",data:=.dict #[] })=h2
 have hH2':h1.push { cls:=.type "dict",data:=.dict #[] } = h2:=hH2
 have hs2:h2.objs.size=h1.objs.size+1:=by rw [<- hH2',Heap.size_push]
 have k2:∀ b o,h1.get? b=some o->h2.get? b=some o:=fun b o e=>by rw [<- hH2'];exact Heap.get?_push_of_some _ e
 have n2:h2.Ns h1.objs.size (fun _=>none):=by rw [<- hH2'];exact Heap.Ns.new h1 (.type "dict")
 refine wpAny_bind (wpAny_layCells _ (fun name kind cells=>by cases hkc:kind == NameKind.cell <;> simp [hkc]) _ _ _ _ ?_)
 have ok:=cellsFrom_ok scope.names h2 (h1.objs.size+1) [] ⟨fun _ _ hm=>(nomatch hm),List.Pairwise.nil⟩ (by rw [hs2];exact Nat.le_refl _)
 rw [hs2] at ok
 show wpAny _ _ (forIn ([]:List (Str × Value)) PUnit.unit _ >>= _) _ _ _
 rw [List.forIn_nil]
 refine wpAny_bind (wpAny_pure (wpAny_pure ?_))
 show codeAny _ _ (.compStart _ 0 (.ref it) (.ref s.heap.objs.size) (compEnvC scope (cellsFrom h2.objs.size scope.names (Ag X.env.cells scope.names [])) h1.objs.size X.env)) (RR (.ref s.heap.objs.size) h1.objs.size) { s with heap:=pushCells h2 scope.names }
 rw [hs2]
 generalize hH3:pushCells h2 scope.names=h3 at ok ⊢
 have k3:∀ b o,h2.get? b=some o->h3.get? b=some o:=fun b o e=>by rw [<- hH3];exact pushCells_keeps _ _ b o e
 have kk:∀ b o,s.heap.get? b=some o->h3.get? b=some o:=fun b o e=>k3 b o (k2 b o (k1 b o e))
 have d3:h3.get? s.heap.objs.size=some { cls:=.type "list",data:=.seq ([]:List Value).toArray }:=k3 _ _ (k2 _ _ d1)
 have hC:s.heap.objs.size < h1.objs.size:=by rw [hs1];exact Nat.lt_succ_self _
 have I3:Inv (X.comp scope N' ⟨pins,cellsFrom (h1.objs.size+1) scope.names (Ag X.env.cells scope.names []),s,H,fp,h1.objs.size⟩) [] (cSt own ix σ) H { s with heap:=h3 } :=
  IL (s4:={ s with heap:=h3 }) I f2 hob S hlen hN hfr hC kk rfl rfl ⟨_,n2.keeps k3⟩ (fun x c hm=>ok.empty x c hm) ok.apart
 generalize hcs:cellsFrom (h1.objs.size+1) scope.names (Ag X.env.cells scope.names [])=cs at I3 ⊢
 generalize hCC:h1.objs.size=C at *
 generalize hDD:s.heap.objs.size=D at *
 have hY:=I3.ok
 -- what is fixed of the records
 have sD:D≠C/\(∀ x c,cs.lookup x=some c->c≠D)/\D∉frs X.stack/\∀ p∈X.pn++pins,p.1≠D:=by
  refine ⟨Nat.ne_of_lt hC,fun x c e z=>?_,fun z=>?_,fun p hp z=>?_⟩
  ·subst z
   have e':=e
   rw [<- hcs,CP,Df] at e'
   cases q:(cellsFrom (C+1) scope.names []).lookup x with
   | some d =>
    rw [q] at e';cases e'
    have:=(ok.empty x c (mem_of_lookup q)).2
    exact absurd (Nat.lt_of_lt_of_le hC (Nat.le_of_succ_le this)) (Nat.lt_irrefl _)
   | none =>
    rw [q] at e'
    have hfree:∀ y∈scope.names,y.2=.free->∃ c,X.env.cells.lookup y.1=some c:=fun y hy h=>I.ok.has y.1 (S.fr y hy h)
    rcases clOf_mem _ _ _ _ hfree (mem_of_lookup e') with z | ⟨_,z⟩
    ·exact absurd z (by simp)
    ·obtain ⟨v,q⟩:=I.cell x c z
     have:=q.lt
     rw [hDD] at this
     exact Nat.lt_irrefl _ this
  ·exact (I3.nofs (a:=D) (by exact absurd z (by
    intro z'
    obtain ⟨_,o,ho,_⟩:=(show s.heap.FunFrames X.base X.stack from I.stack).mem z'
    have:=Heap.lt_size ho
    rw [hDD] at this
    exact Nat.lt_irrefl _ this))) z
  ·have:=Heap.lt_size (I.pin p hp).1
   rw [z,hDD] at this
   exact Nat.lt_irrefl _ this
 have stat:∀ {H':Hp},(∀ b∈fp,H' b=none)->∀ b∈fp,Az (X.comp scope N' ⟨pins,cs,s,H,fp,C⟩) [] H' b:=fun {H'} hn b hb=>by
  refine ⟨hn b hb,(hY.exf b hb).1,hY.exfs b hb,.inl hb,(hY.exf b hb).2,fun p hp=>?_⟩
  have hp:p∈(X.pn++pins)++[]:=hp
  rw [List.append_nil] at hp
  exact (f2 b hb).2.2.2.2.2 p hp
 have statD:∀ {H':Hp},H' D=none->Az (X.comp scope N' ⟨pins,cs,s,H,fp,C⟩) [] H' D:=fun {H'} hn=>by
  refine ⟨hn,sD.1,sD.2.2.1,.inr (Nat.le_of_eq hDD),sD.2.1,fun p hp=>?_⟩
  have hp:p∈(X.pn++pins)++[]:=hp
  rw [List.append_nil] at hp
  exact sD.2.2.2 p hp
 have loop:codeAny (model X.prog X.w) X.A (.compLoop (.ListComp elt [⟨tg,iter,ifs,0⟩] scope pos) 0 (.ref it) (.ref D) (compEnvC scope cs C X.env)) (RR (.ref D) C) { s with heap:=h3 }:=by
  refine Lk (fun n s'=>∃ (i:Nat) (H':Hp) (ys:List V) (its:List Value) (k:Nat),Inv (X.comp scope N' ⟨pins,cs,s,H,fp,C⟩) [] (cSt own ix σ) H' s'/\tn i s'.heap/\(∀ b∈fp,H' b=none)/\H' D=none /\
   s'.heap.get? D=some { cls:=.type "list",data:=.seq its.toArray k } /\ Vals ys its/\ys.length<=sizeLine/\W i n ys H') ?_ m0
   ⟨0,H,[],[],0,I3,T.keep _ _ _ st fun b _ o e=>kk b o e,fun b hb=>(f2 b hb).1,I.hok.fresh (Nat.le_of_eq hDD),d3,.nil,Nat.zero_le _,w0⟩
  rintro n s4 ⟨i,H4,ys,its,k,I4,st4,fr4,dn4,d4,rv4,z4,w4⟩
  rcases turn i n ys H4 w4 with ⟨stop,qn⟩ | ⟨go,zl,N,hN2,step⟩
  ·have ID:=I4.pinned (fp:=[D]) (fun b hb=>by rw [List.mem_singleton.mp hb];exact statD dn4) (fun b hb=>by rw [List.mem_singleton.mp hb];exact ⟨_,d4,fun v z=>nomatch z⟩)
   have nD:∀ b∈fp,b≠D:=fun b hb z=>by
    obtain ⟨o,e⟩:=hob b hb
    have:=Heap.lt_size e
    rw [z,hDD] at this
    exact Nat.lt_irrefl _ this
   have stat':∀ b∈fp,Az (X.comp scope N' ⟨pins,cs,s,H,fp,C⟩) ([]++A6 [D] s4.heap) H4 b:=fun b hb=>by
    obtain ⟨q1,q2,q3,q4,q5,q6⟩:=stat fr4 b hb
    refine ⟨q1,q2,q3,q4,q5,fun p hp=>?_⟩
    rcases List.mem_append.mp hp with z | z
    ·exact q6 p (List.mem_append_left _ z)
    ·have:=(Em (by simpa using z:p∈A6 [D] s4.heap)).1
     rw [List.mem_singleton.mp this]
     exact fun z=>nD b hb z.symm
   refine thn (T.done (X.comp scope N' ⟨pins,cs,s,H,fp,C⟩) rfl rfl rfl hc i _ s4 _ H4 (fun _ _=>False) ID stat' st4 stop) fun r s5 ⟨hr,I5⟩=>?_
   subst hr
   obtain ⟨m,hm,_⟩:=I5.loc
   refine fin D C s5 H4 ys its k I5.os I5.bare I5.base I5.hok ⟨m,hm⟩ I5.free (Nat.le_of_lt hC) dn4 (Nat.le_refl _) sD.1 ?_ rv4 z4 qn
   ·exact (I5.pin (D,_) (List.mem_append_right _ (List.mem_append_right _ (CF (List.mem_singleton.mpr rfl) d4)))).1
  ·have nD:∀ b∈fp,b≠D:=fun b hb z=>by
    obtain ⟨o,e⟩:=hob b hb
    have:=Heap.lt_size e
    rw [z,hDD] at this
    exact Nat.lt_irrefl _ this
   have ID:=I4.pinned (fp:=[D]) (fun b hb=>by rw [List.mem_singleton.mp hb];exact statD dn4) (fun b hb=>by rw [List.mem_singleton.mp hb];exact ⟨_,d4,fun v z=>nomatch z⟩)
   have statP:∀ {H':Hp},(∀ b∈fp,H' b=none)->∀ b∈fp,Az (X.comp scope N' ⟨pins,cs,s,H,fp,C⟩) ([]++A6 [D] s4.heap) H' b:=fun {H'} hn b hb=>by
    obtain ⟨q1,q2,q3,q4,q5,q6⟩:=stat hn b hb
    refine ⟨q1,q2,q3,q4,q5,fun p hp=>?_⟩
    rcases List.mem_append.mp hp with z | z
    ·exact q6 p (List.mem_append_left _ z)
    ·have:=(Em (by simpa using z:p∈A6 [D] s4.heap)).1
     rw [List.mem_singleton.mp this]
     exact fun z=>nD b hb z.symm
   refine thn (T.item (X.comp scope N' ⟨pins,cs,s,H,fp,C⟩) rfl rfl rfl hc i _ s4 _ H4 (fun _ _=>False) ID (statP fr4) st4 go) fun r s5 ⟨u,hr,h5⟩=>?_
   subst hr
   refine thn h5 fun _ s6 ⟨x,H6,I6,r6,y6,st6,fr6⟩=>?_
   have I6':=I6.pinned (statP fr6) (T.obj _ _ st6)
   refine thn (hg _ _ s6 _ H6 x u _ I6' r6 (hgo _ _ _ _ (step x H6 y6))) fun _ s7 ⟨σ7,H7,I7,⟨e7,k7⟩,q7⟩=>?_
   have I7':Inv (X.comp scope N' ⟨pins,cs,s,H,fp,C⟩) ([]++A6 [D] s4.heap++A6 fp s6.heap) σ7 H7 s7:=I7
   refine thn (ht _ _ s7 σ7 H7 _ I7' q7) fun b s8 ⟨H8,I8,q8⟩=>?_
   -- what is kept through the turn
   have back:∀ {s9:Shared} {H9:Hp},Inv (X.comp scope N' ⟨pins,cs,s,H,fp,C⟩) ([]++A6 [D] s4.heap++A6 fp s6.heap) σ7 H9 s9 ->
    Inv (X.comp scope N' ⟨pins,cs,s,H,fp,C⟩) [] (cSt own ix σ) H9 s9/\tn (i+1) s9.heap/\(∀ b∈fp,H9 b=none)/\H9 D=none/\s9.heap.get? D=some { cls:=.type "list",data:=.seq its.toArray k }:=fun {s9 H9} I9=>by
    have pD:=I9.pin (D,_) (List.mem_append_right _ (List.mem_append_left _ (List.mem_append_right _ (CF (List.mem_singleton.mpr rfl) d4))))
    refine ⟨I9.unpinned.unpinned.weak (by rw [e7]) fun j v hj=>?_,T.keep _ _ _ st6 fun b hb o e=>(I9.pin (b,o) (List.mem_append_right _ (List.mem_append_right _ (CF hb e)))).1,fun b hb=>?_,pD.2.1,pD.1⟩
    ·rw [k7 j (Jc hj)];exact hj
    ·obtain ⟨o,e,_⟩:=T.obj _ _ st6 b hb
     exact (I9.pin (b,o) (List.mem_append_right _ (List.mem_append_right _ (CF hb e)))).2.1
   cases b with
   | false =>
    rw [if_neg Bool.false_ne_true] at q8
    obtain ⟨m',hm,w8⟩:=hN2 _ _ q8
    obtain ⟨b1,b2,b3,b4,b5⟩:=back I8
    exact ⟨m',hm,i+1,H8,ys,its,k,b1,b2,b3,b4,b5,rv4,z4,w8⟩
   | true =>
    rw [if_pos rfl] at q8
    rw [if_pos rfl]
    refine thn (he _ _ s8 σ7 H8 _ I8 q8) fun yv s9 ⟨y,H9,I9,r9,q9⟩=>?_
    obtain ⟨m',hm,w9⟩:=hN2 _ _ q9
    obtain ⟨b1,b2,b3,b4,b5⟩:=back I9
    have hl:=rv4.length
    refine call_meets F.slot_list_append ⟨_,b5,rfl⟩ F.entry_list_append (F.args_list_append_2 _ _) (PySem.list_append D its.toArray k yv (by rw [List.size_toArray];lia)) ⟨b5,?_⟩
    have up:=PySem.IsL.update b5 (fun a=>a.push yv)
    have keep:∀ b o,b≠D->s9.heap.get? b=some o->(s9.heap.update D (Obj.mapSeq fun a=>a.push yv)).get? b=some o:=fun b o hb q=>(Heap.get?_update_other _ _ (Ne.symm hb)).trans q
    obtain ⟨f0,f1,f2',f3,f4,f5⟩:=statD b4
    refine ⟨m',hm,i+1,H9,ys++[y],its++[yv],(if ((its.toArray.push yv).size == its.toArray.size)=true then k else k+1),b1.turned (t':=s9.toks) keep b4 f1 f3 f4 f5,?_,b3,b4,?_,rv4.append (.cons r9 .nil),?_,w9⟩
    ·exact T.keep _ _ _ b2 fun b hb o e=>keep b o (nD b hb) e
    ·have e2:(its.toArray.push yv)=(its++[yv]).toArray:=by simp
     rw [<- e2]
     exact up
    ·rw [List.length_append,List.length_singleton]
     lia
 exact codeAny_compStart_list loop (T.self X.A 0 _ _ _ (T.keep _ _ _ st fun b _ o e=>kk b o e) loop)
end
section
variable {X:Cx} {pins:List (Addr × Obj)} {σ:St} {H:Hp} {s:Shared} {fp:List Addr} {it:Addr} {tn:Nat->Heap->Prop} {J:It} {tg iter elt:Expr} {ifs:List Expr} {scope:Scope} {pos:Pos} {N':List Str} {own:Nat} {ix:List Nat} {g:TG} {tc:TT} {te:TE} {wi:TI} {E:Value->Shared->Prop}
theorem HD {H':Hp} {s':Shared} {D:Addr} {ys:List V} {its:List Value} {n:Nat} (I:Inv X pins σ H s) (f2:∀ b∈fp,Az X pins H b) (ho:s'.os=s.os) (hg:AllBare s'.gens) (u:Un (frs X.stack) fp H H' s.heap s'.heap) (hok:HOk X.prog X.w H' s'.heap)
 (dn:H' D=none) (ds:s.heap.objs.size<=D) (d:s'.heap.get? D=some { cls:=.type "list",data:=.seq its.toArray n }) (rv:Vals ys its) (z:ys.length<=sizeLine):Inv X pins σ (upd H' D (.lst ys)) s':=by
 have nD:∀ b o,s.heap.get? b=some o->b≠D:=fun b o e q=>by rw [q,Heap.get?_none_of_le ds] at e;cases e
 have nH:∀ b o,H' b=some o->b≠D:=fun b o e q=>by rw [q,dn] at e;cases e
 refine I.call' (ch:=fp) ho ⟨u.keep,u.slot,fun b o e q hx=>?_,u.there,fun b xs e=>?_,fun b o v e=>?_,fun b ps e=>?_⟩ (fun b o e=>?_) hg fun b hb=>?_
 ·rw [AD (nD b o e)];exact u.free b o e q hx
 ·have:=u.tups b xs e
  rw [AD (nH _ _ this)];exact this
 ·have:=u.frzs b o v e
  rw [AD (nH _ _ this)];exact this
 ·obtain ⟨more,q⟩:=u.tbls b ps e
  exact ⟨more,by rw [AD (nH _ _ q)];exact q⟩
 ·by_cases hb:b=D
  ·subst hb
   rw [AE] at e
   cases e
   exact ⟨z,its,n,rv,d⟩
  ·rw [AD hb] at e
   exact (hok b o e).stay (fun _ _ _ q=>q) (fun c q=>by rw [AD (nH _ _ q)];exact q) fun c xs q=>by rw [AD (nH _ _ q)];exact q
 ·obtain ⟨q1,q2,q3,q4,q5,q6⟩:=f2 b hb
  exact ⟨q4,q2,q5,q6⟩
theorem Inv.dictGone {s':Shared} {h':Heap} {C:Addr} {H':Hp} {σ':St} (I:Inv X pins σ H s) (J:Inv X pins σ' H' s') (hC:s.heap.objs.size<=C) (hn:H' C=none) (k:Heap.SameBut C s'.heap h'):Inv X pins σ' H' { s' with heap:=h' }:=by
 have hC0:=Heap.get?_none_of_le hC
 refine J.turned (t':=s'.toks) (fun b o hb e=>(k.2 b hb).trans e) hn (fun z=>?_) (.inr (Nat.le_trans I.sz hC)) (fun x c e z=>?_) fun p hp z=>?_
 ·obtain ⟨m,⟨o,_,_,ho,_⟩,_⟩:=I.loc
  rw [<- z,hC0] at ho;cases ho
 ·obtain ⟨v,o,ho,_⟩:=I.cell x c e
  rw [z,hC0] at ho;cases ho
 ·have:=(I.pin p hp).1
  rw [z,hC0] at this;cases this
theorem MW (hc:X.calm=true) (hi:PI X tg iter wi) (S:CompScope scope X.env.scope)
 (hlen:N'.length=own+ix.length) (hN:(N'.drop own).map some=ix.map (X.N[·]?)) (hfr:∀ x∈N'.drop own,scope.names.lookup x=some .free)
 (hg:∀ c,PG (X.comp scope N' c) tg g) (hgo:B6 own g) (ht:∀ c,PTs (X.comp scope N' c) ifs tc) (he:∀ c,PE (X.comp scope N' c) elt te)
 (hs:∀ x,foldedSetIterable iter X.env x=pure x:=by intro _;rfl):PE X (.ListComp elt [⟨tg,iter,ifs,0⟩] scope pos) (Ca wi own ix g tc te):=by
 intro pins s σ H Q I h
 rw [eval_ListComp]
 have hfree:∀ y∈scope.names,y.2=.free->∃ c,X.env.cells.lookup y.1=some c:=fun y hy h=>I.ok.has y.1 (S.fr y hy h)
 refine wpAny_comprehension_free (use:=none) rfl hs (Gy hfree) S.kind (fun y hy hl=>Bk S.nd (by rw [<- hl];exact hy)) ?_
 refine thn (hi pins s σ H _ I h) fun v s1 h1=>thn h1 fun itv s2 h2=>?_
 obtain ⟨it,fp,tn,J,H2,e,I2,T,st2,f2,q2⟩:=h2
 subst e
 refine G8 (RR:=fun acc C=>compPost (model X.prog X.w) X.A X.xe none (EP X pins σ Q) acc C) I2 T st2 f2 hc S hlen hN hfr hg hgo ht he q2 ?_
 intro D C s' H' ys its n ho hgn u hok hm hC hCs hD hDs hDC d rv z q
 obtain ⟨m,hm⟩:=hm
 have I3:=HD I2 f2 ho hgn u hok hD hDs d rv z
 refine ⟨m,hm,fun h' hs'=>?_⟩
 exact ⟨.ref D,_,I2.dictGone I3 hCs (by rw [AD (Ne.symm hDC)];exact hC) hs',rfl,q D hD⟩
theorem I0 {i:Nat} {y:Str} {py spos:Pos} (hc:X.calm=true) (hnd:X.N.Nodup) (hiy:X.N[i]? = some y) (hy:X.env.scope.names.lookup y=some .local) (hi:PI X tg iter wi) (S:CompScope scope X.env.scope)
 (hlen:N'.length=own+ix.length) (hN:(N'.drop own).map some=ix.map (X.N[·]?)) (hfr:∀ x∈N'.drop own,scope.names.lookup x=some .free)
 (hg:∀ c,PG (X.comp scope N' c) tg g) (hgo:B6 own g) (ht:∀ c,PTs (X.comp scope N' c) ifs tc) (he:∀ c,PE (X.comp scope N' c) elt te)
 (hsw:swapsWith (.ListComp elt [⟨tg,iter,ifs,0⟩] scope pos) (some (.Name y py)) spos.line X.env=pure true)
 (hs:∀ x,foldedSetIterable iter X.env x=pure x:=by intro _;rfl):PS X (.Assign [.Name y py] (.ListComp elt [⟨tg,iter,ifs,0⟩] scope pos) spos) (C0 (Ca wi own ix g tc te) (Ae i)):=by
 intro pins s σ H D I h
 rw [exec_Assign_Name_used _ _ _ _ hsw]
 refine wpAny_bind (wpAny_standAt (wpAny_bind ?_))
 show wpAny _ _ (do let _ <- comprehension (.ListComp elt [⟨tg,iter,ifs,0⟩] scope pos) scope X.env _ (newList []) false (eval iter X.env) (some (assign (.Name y py) X.env))) _ _ s
 have hfree:∀ y∈scope.names,y.2=.free->∃ c,X.env.cells.lookup y.1=some c:=fun y hy h=>I.ok.has y.1 (S.fr y hy h)
 refine wpAny_bind (wpAny_mono (wpAny_comprehension_free (use:=some (assign (.Name y py) X.env)) (Q:=fun _ s'=>SP X pins D .next s') rfl hs (Gy hfree) S.kind (fun y hy hl=>Bk S.nd (by rw [<- hl];exact hy)) ?_) (fun _ s' hq=>wpAny_pure (wpAny_pure hq)) fun _ _ e=>e)
 refine thn (hi pins s σ H _ I h) fun v s1 h1=>thn h1 fun itv s2 h2=>?_
 obtain ⟨it,fp,tn,J,H2,e,I2,T,st2,f2,q2⟩:=h2
 subst e
 refine G8 (RR:=fun acc C=>compPost (model X.prog X.w) X.A X.xe (some (assign (.Name y py) X.env)) (fun _ s'=>SP X pins D .next s') acc C) I2 T st2 f2 hc S hlen hN hfr hg hgo ht he q2 ?_
 intro d C s' H' ys its n ho hgn u hok hm hC hCs hD hDs hDC hd rv z q
 obtain ⟨m,hm⟩:=hm
 have I3:=HD I2 f2 ho hgn u hok hD hDs hd rv z
 show wpAny _ _ (assign (.Name y py) X.env (.ref d)) _ _ s'
 have hCn:(upd H' d (.lst ys)) C=none:=by rw [AD (Ne.symm hDC)];exact hC
 refine wpAny_assign_Name (FD I3 hnd hiy (.inl hy) (v:=.ref d) rfl (fun s3 I4 ⟨a,sb,ha⟩=>?_) (.inr hy))
 have ha':a≠C:=fun e=>by
  have hC0:=Heap.get?_none_of_le hCs
  rcases ha with z | z
  ·obtain ⟨m,⟨o,_,_,ho,_⟩,_⟩:=I2.loc
   rw [<- z,e,hC0] at ho;cases ho
  ·obtain ⟨v,o,ho,_⟩:=I2.cell y a z
   rw [e,hC0] at ho;cases ho
 refine ⟨m,hm.sameBut sb (Ne.symm ha'),fun h' hs'=>?_⟩
 exact ⟨_,_,I2.dictGone I4 hCs hCn hs',q d hD⟩
end
section
variable {X:Cx}
theorem PE.imp {e:Expr} {t t':TE} (h:PE X e t) (f:∀ σ H Q,t' σ H Q->t σ H Q):PE X e t':=fun pins s σ H Q I q=>h pins s σ H Q I (f σ H Q q)
theorem OpR.imp {f:Value->Value->Sem Value} {r r':R2} (h:OpR X f r) (g:∀ x y H Q,r' x y H Q->r x y H Q):OpR X f r':=fun pins s σ H x y v u Q I rx ry q=>h pins s σ H x y v u Q I rx ry (g _ _ _ _ q)
theorem CallR.imp {f:Value} {r r':List V->Hp->VK->Prop} (h:CallR X f r) (g:∀ x H Q,r' x H Q->r x H Q):CallR X f r':=fun pins s σ H xs us Q I r q=>h pins s σ H xs us Q I r (g _ _ _ q)
noncomputable def Dk (i:Nat):TE:=fun σ H Q=>match σ[i]? with
 | some (some v)=>Q v H
 | _=>False
theorem vv (i:Nat) {x:Str} {pos:Pos} (hN:X.N[i]? = some x:=by rfl) (hv:Vis X.env.scope x:=by first | exact Or.inl rfl | exact Or.inr (Or.inl rfl) | exact Or.inr (Or.inr rfl)) (hd:(x == ("__debug__" : Str))=false:=by decide)
 (hcd:(x == ("__classdict__" : Str))=false:=by decide):PE X (.Name x pos) (Dk i):=(IF hN hv hd hcd).imp fun σ H Q q=>by
 unfold Dk at q
 split at q
 ·rename_i v e;exact ⟨v,e,q⟩
 ·exact q.elim
noncomputable def okMul (i j:Int):Prop:=(i.natAbs < 2 ^ 4096/\j.natAbs < 2 ^ 4096)\/(-(2 ^ 64) < i/\i < 2 ^ 64)\/(-(2 ^ 64) < j/\j < 2 ^ 64)
theorem Ge {i:Int} (h:i.natAbs < 2 ^ 4096):Builtin.Int.intBits i<=2 ^ 20:=by
 unfold Builtin.Int.intBits
 split
 ·exact Nat.zero_le _
 ·rename_i hz
  have hne:i.natAbs≠0:=by
   have:¬ i=0:=by simpa using hz
   lia
  have:=(Nat.log2_lt hne).mpr h
  have e:(2:Nat) ^ 20=1048576:=by decide
  lia
theorem okMul.ok {i j:Int} (h:okMul i j):IntMulOk i j:=by
 rcases h with ⟨h1,h2⟩ | h | h
 ·exact .of_bits (Ge h1) (Ge h2)
 ·exact CMul.ok (.inl h)
 ·exact CMul.ok (.inr h)
noncomputable def okDiv (j:Int):Prop:=0 < j/\j < 2 ^ 4096
theorem okDiv.ok {i j:Int} (h:okDiv j):Builtin.divisionGoesByPylong i j=false:=by
 refine PyProof.noPylong_of_log2 ?_
 obtain ⟨h1,h2⟩:=h
 have hne:j.natAbs≠0:=by lia
 have h3:j.natAbs < 2 ^ 4096:=by
  have e:((j.natAbs:Int))=j:=by lia
  have h2':((j.natAbs:Nat):Int) < ((2 ^ 4096:Nat):Int):=by rw [e,Int.natCast_pow];exact h2
  exact Int.ofNat_lt.mp h2'
 have:=(Nat.log2_lt hne).mpr h3
 lia
noncomputable def CI (K:W.Frag):R2:=fun x y H Q=>match x,y with
 | .int i,.int j=>Q (.int (i+j)) H
 | .str a,.str b=>a.length+b.length<=sizeLine/\Q (.str (a++b)) H
 | .ref a,.ref b=>EJ (.ref a) (.ref b) H Q\/GC K (.ref a) (.ref b) H Q
 | _,_=>False
theorem J6:OpR X (binaryOp .Add) (CI X.K):=by
 intro pins s σ H x y v u Q I rx ry q
 cases x <;> cases y <;> first
  | exact False.elim q
  | exact Gz pins s σ H _ _ v u Q I rx ry ⟨_,_,rfl,rfl,q⟩
  | exact Ju pins s σ H _ _ v u Q I rx ry ⟨_,_,rfl,rfl,q.1,q.2⟩
  | (rcases q with q | q
     ·exact G7 pins s σ H _ _ v u Q I rx ry q
     ·exact Fc pins s σ H _ _ v u Q I rx ry q)
noncomputable def En:R2:=fun x y H Q=>match x,y with
 | .int i,.int j=>okMul i j/\Q (.int (i * j)) H
 | .ref a,.int k=>Ew (.ref a) (.int k) H Q
 | _,_=>False
theorem Bi:OpR X (binaryOp .Mult) En:=by
 have hI:OpR X (binaryOp .Mult) (rI okMul fun i j=>.int (i * j)):=opI fun _ _ _ _ _ _ _ hc q=>mul_int q hc.ok
 intro pins s σ H x y v u Q I rx ry q
 cases x <;> cases y <;> first
  | exact False.elim q
  | exact hI pins s σ H _ _ v u Q I rx ry ⟨_,_,rfl,rfl,q.1,q.2⟩
  | exact Lf pins s σ H _ _ v u Q I rx ry q
noncomputable def Ed:R2:=fun x y H Q=>match x,y with
 | .int i,.int j=>okDiv j/\Q (.int (i / j)) H
 | _,_=>False
theorem EF:OpR X (binaryOp .FloorDiv) Ed:=by
 have hI:OpR X (binaryOp .FloorDiv) (rI (fun _ j=>okDiv j) fun i j=>.int (i / j)):=opI fun i j _ _ _ _ _ hc q=>by
  refine floordiv_int (by have:=hc.1;lia) ?_ (.inl hc.ok)
  rw [Int.fdiv_eq_ediv_of_nonneg i (by have:=hc.1;lia)]
  exact q
 intro pins s σ H x y v u Q I rx ry q
 cases x <;> cases y <;> first
  | exact False.elim q
  | exact hI pins s σ H _ _ v u Q I rx ry ⟨_,_,rfl,rfl,q.1,q.2⟩
noncomputable def Dq:R2:=fun x y H Q=>match x,y with
 | .int i,.int j=>0 < j/\Q (.int (i % j)) H
 | _,_=>False
theorem CC:OpR X (binaryOp .Mod) Dq:=by
 intro pins s σ H x y v u Q I rx ry q
 cases x <;> cases y <;> first
  | exact False.elim q
  | exact Jz pins s σ H _ _ v u Q I rx ry ⟨_,_,rfl,rfl,q.1,q.2⟩
noncomputable def EC:R2:=fun x y H Q=>match x,y with
 | .int i,.int j=>C3 i j/\Q (.int (i ^ j.toNat)) H
 | _,_=>False
theorem J1:OpR X (binaryOp .Pow) EC:=by
 intro pins s σ H x y v u Q I rx ry q
 cases x <;> cases y <;> first
  | exact False.elim q
  | exact Kq pins s σ H _ _ v u Q I rx ry ⟨_,_,rfl,rfl,q.1,q.2⟩
noncomputable def Is (f:Int->Int->Int):R2:=fun x y H Q=>match x,y with
 | .int i,.int j=>Q (.int (f i j)) H
 | _,_=>False
theorem JK:OpR X (binaryOp .BitAnd) (Is Builtin.bitAnd):=by
 intro pins s σ H x y v u Q I rx ry q
 cases x <;> cases y <;> first
  | exact False.elim q
  | exact Lr pins s σ H _ _ v u Q I rx ry ⟨_,_,rfl,rfl,q⟩
noncomputable def Jy:R2:=fun x y H Q=>match x,y with
 | .int i,.int j=>0<=j/\Q (.int (i / 2 ^ j.toNat)) H
 | _,_=>False
theorem KM:OpR X (binaryOp .RShift) Jy:=by
 intro pins s σ H x y v u Q I rx ry q
 cases x <;> cases y <;> first
  | exact False.elim q
  | exact Jp pins s σ H _ _ v u Q I rx ry ⟨_,_,rfl,rfl,q.1,q.2⟩
noncomputable def Eb:R2:=fun x y H Q=>match x,y with
 | .int i,.int j=>C3 i j/\Q (.int (i * 2 ^ j.toNat)) H
 | _,_=>False
theorem E3:OpR X (binaryOp .LShift) Eb:=by
 intro pins s σ H x y v u Q I rx ry q
 cases x <;> cases y <;> first
  | exact False.elim q
  | exact KY pins s σ H _ _ v u Q I rx ry ⟨_,_,rfl,rfl,q.1,q.2⟩
noncomputable def Ce (p:Int->Int->Bool):R2:=fun x y H Q=>match x,y with
 | .int i,.int j=>Q (.bl (p i j)) H
 | _,_=>False
theorem DB:OpR X (compareOp .Lt) (Ce fun i j=>decide (i < j)):=by
 intro pins s σ H x y v u Q I rx ry q
 cases x <;> cases y <;> first
  | exact False.elim q
  | exact MF pins s σ H _ _ v u Q I rx ry ⟨_,_,rfl,rfl,q⟩
theorem HH:OpR X (compareOp .LtE) (Ce fun i j=>decide (i<=j)):=by
 intro pins s σ H x y v u Q I rx ry q
 cases x <;> cases y <;> first
  | exact False.elim q
  | exact JW pins s σ H _ _ v u Q I rx ry ⟨_,_,rfl,rfl,q⟩
theorem Hw:OpR X (compareOp .Gt) (Ce fun i j=>decide (j < i)):=by
 intro pins s σ H x y v u Q I rx ry q
 cases x <;> cases y <;> first
  | exact False.elim q
  | exact JL pins s σ H _ _ v u Q I rx ry ⟨_,_,rfl,rfl,q⟩
end
inductive Dv where
 | non | bl (b:Bool) | int (i:Int) | str (x:Str) | tup (ds:List Dv) | lst (ds:List Dv)
mutual
noncomputable def Rep (K:W.Frag) (H:Hp):Dv->V->Prop
 | .non,v=>v=.non
 | .bl b,v=>v=.bl b
 | .int i,v=>v=.int i
 | .str x,v=>v=.str x
 | .tup ds,v=>∃ a xs,v=.ref a/\SqT K H a xs/\Reps K H ds xs
 | .lst ds,v=>∃ a xs,v=.ref a/\SqL K H a xs/\Reps K H ds xs
noncomputable def Reps (K:W.Frag) (H:Hp):List Dv->List V->Prop
 | [],xs=>xs=[]
 | d::ds,xs=>∃ x r,xs=x::r/\Rep K H d x/\Reps K H ds r
end
mutual
noncomputable def eqD:Dv->Dv->Bool
 | .non,.non=>true
 | .bl a,.bl b=>a == b
 | .bl a,.int b=>(if a then 1 else 0) == b
 | .int a,.bl b=>a == (if b then 1 else 0)
 | .int a,.int b=>a == b
 | .str a,.str b=>a == b
 | .tup ds,.tup es=>Ad ds es
 | .lst ds,.lst es=>Ad ds es
 | _,_=>false
noncomputable def Ad:List Dv->List Dv->Bool
 | [],[]=>true
 | d::ds,e::es=>eqD d e && Ad ds es
 | _,_=>false
end
mutual
noncomputable def AF:Dv->Nat
 | .tup ds=>AR ds+1
 | .lst ds=>AR ds+1
 | _=>0
noncomputable def AR:List Dv->Nat
 | []=>0
 | d::ds=>max (AF d) (AR ds)
end
theorem GF (ds es:List Dv):eqD (.tup ds) (.tup es)=Ad ds es:=by rw [eqD]
theorem D1 (ds es:List Dv):eqD (.lst ds) (.lst es)=Ad ds es:=by rw [eqD]
theorem Reps.length {K:W.Frag} {H:Hp}:∀ {ds:List Dv} {xs:List V},Reps K H ds xs->ds.length=xs.length
 | [],xs,h=>by unfold Reps at h;subst h;rfl
 | d::ds,xs,h=>by
  unfold Reps at h
  obtain ⟨x,r,rfl,_,h⟩:=h
  rw [List.length_cons,List.length_cons,Reps.length h]
theorem Reps.get {K:W.Frag} {H:Hp}:∀ {ds:List Dv} {xs:List V} {i:Nat} {d:Dv},Reps K H ds xs->ds[i]? = some d->∃ x,xs[i]? = some x/\Rep K H d x
 | [],_,_,_,_,e=>by simp at e
 | d::ds,xs,0,_,h,e=>by
  unfold Reps at h
  obtain ⟨x,r,rfl,h1,_⟩:=h
  simp at e;subst e
  exact ⟨x,rfl,h1⟩
 | d::ds,xs,i+1,_,h,e=>by
  unfold Reps at h
  obtain ⟨x,r,rfl,_,h⟩:=h
  obtain ⟨y,h1,h2⟩:=Reps.get (i:=i) h (by simpa using e)
  exact ⟨y,by simpa using h1,h2⟩
theorem E8 {ds:List Dv} {i:Nat} {d:Dv} (h:ds[i]? = some d):AF d<=AR ds:=by
 induction ds generalizing i with
 | nil=>simp at h
 | cons e es ih =>
  unfold AR
  cases i with
  | zero=>simp at h;subst h;lia
  | succ i=>have:=ih (i:=i) (by simpa using h);lia
theorem EI:∀ (ds es:List Dv),ds.length=es.length->Ad ds es=(List.range ds.length).all fun i=>match ds[i]?,es[i]? with | some d,some e=>eqD d e | _,_=>false
 | [],[],_=>by unfold Ad;rfl
 | d::ds,e::es,h=>by
  unfold Ad
  rw [List.length_cons,List.range_succ_eq_map,List.all_cons,List.all_map,EI ds es (by simpa using h)]
  congr 1
 | [],e::es,h=>by simp at h
 | d::ds,[],h=>by simp at h
theorem Dr:∀ (ds es:List Dv),ds.length≠es.length->Ad ds es=false
 | [],[],h=>absurd rfl h
 | [],_::_,_=>by unfold Ad;rfl
 | _::_,[],_=>by unfold Ad;rfl
 | d::ds,e::es,h=>by unfold Ad;rw [Dr ds es (fun z=>h (by simp [z])),Bool.and_false]
mutual
theorem C1:∀ d:Dv,eqD d d=true
 | .non=>by unfold eqD;rfl
 | .bl b=>by unfold eqD;simp
 | .int i=>by unfold eqD;simp
 | .str x=>by unfold eqD;simp
 | .tup ds=>by unfold eqD;exact ET ds
 | .lst ds=>by unfold eqD;exact ET ds
theorem ET:∀ ds:List Dv,Ad ds ds=true
 | []=>by unfold Ad;rfl
 | d::ds=>by unfold Ad;rw [C1 d,ET ds];rfl
end
section
variable {X:Cx} {pins:List (Addr × Obj)} {σ:St} {H:Hp} {s:Shared}
theorem Ft {a:Addr} {xs ys:List V} (I:Inv X pins σ H s) (h:SqL X.K H a xs) (h':SqT X.K H a ys):False:=by
 obtain ⟨its,_,⟨o,n,e,c,_⟩,_⟩:=I.list h
 obtain ⟨its',_,⟨o',e',c',_⟩,_⟩:=I.tuple h'
 rw [e] at e';cases e'
 rw [c] at c'
 exact absurd c' (by decide)
mutual
theorem DK (I:Inv X pins σ H s):∀ (d e:Dv) (x:V),Rep X.K H d x->Rep X.K H e x->d=e
 | .non,e,x,h,h'=>by
  unfold Rep at h;subst h
  cases e <;> unfold Rep at h' <;> first | rfl | (obtain ⟨a,xs,q,_⟩:=h';cases q;done) | (cases h';done)
 | .bl b,e,x,h,h'=>by
  unfold Rep at h;subst h
  cases e <;> unfold Rep at h' <;> first | (obtain ⟨a,xs,q,_⟩:=h';cases q;done) | (cases h';rfl) | (cases h';done)
 | .int b,e,x,h,h'=>by
  unfold Rep at h;subst h
  cases e <;> unfold Rep at h' <;> first | (obtain ⟨a,xs,q,_⟩:=h';cases q;done) | (cases h';rfl) | (cases h';done)
 | .str b,e,x,h,h'=>by
  unfold Rep at h;subst h
  cases e <;> unfold Rep at h' <;> first | (obtain ⟨a,xs,q,_⟩:=h';cases q;done) | (cases h';rfl) | (cases h';done)
 | .tup ds,e,x,h,h'=>by
  unfold Rep at h
  obtain ⟨a,xs,rfl,hs,hr⟩:=h
  cases e with
  | tup es =>
   unfold Rep at h'
   obtain ⟨b,ys,q,hs',hr'⟩:=h'
   cases q
   rw [I.tuple_inj hs' hs] at hr'
   rw [Es I ds es xs hr hr']
  | lst es =>
   unfold Rep at h'
   obtain ⟨b,ys,q,hs',hr'⟩:=h'
   cases q
   exact (Ft I hs' hs).elim
  | _=>unfold Rep at h';cases h'
 | .lst ds,e,x,h,h'=>by
  unfold Rep at h
  obtain ⟨a,xs,rfl,hs,hr⟩:=h
  cases e with
  | lst es =>
   unfold Rep at h'
   obtain ⟨b,ys,q,hs',hr'⟩:=h'
   cases q
   rw [I.list_inj hs' hs] at hr'
   rw [Es I ds es xs hr hr']
  | tup es =>
   unfold Rep at h'
   obtain ⟨b,ys,q,hs',hr'⟩:=h'
   cases q
   exact (Ft I hs hs').elim
  | _=>unfold Rep at h';cases h'
theorem Es (I:Inv X pins σ H s):∀ (ds es:List Dv) (xs:List V),Reps X.K H ds xs->Reps X.K H es xs->ds=es
 | [],es,xs,h,h'=>by
  unfold Reps at h;subst h
  cases es with
  | nil=>rfl
  | cons e es=>unfold Reps at h';obtain ⟨x,r,q,_⟩:=h';cases q
 | d::ds,es,xs,h,h'=>by
  unfold Reps at h
  obtain ⟨x,r,rfl,h1,h2⟩:=h
  cases es with
  | nil=>unfold Reps at h';cases h'
  | cons e es =>
   unfold Reps at h'
   obtain ⟨y,r',q,h3,h4⟩:=h'
   cases q
   rw [DK I d e _ h1 h3,Es I ds es _ h2 h4]
end
noncomputable abbrev Eq3 (A:Around) (s:Shared) (u v:Value) (b:Bool):Prop:=SeqAt.EqAt A s u v b/\SeqAt.RcAt A s u v b/\SeqAt.RcNeAt A s u v (!b)
theorem KR {A:Around} {a b:Addr} {xs ys:List V} {ds es:List Dv} (I:Inv X pins σ H s) (hu:A.units < cLine) (ha:SqT X.K H a xs) (hb:SqT X.K H b ys) (hd:Reps X.K H ds xs) (he:Reps X.K H es ys)
 (ih:∀ (i:Nat) (d e:Dv) (x y:V) (u v:Value),ds[i]? = some d->es[i]? = some e->xs[i]? = some x->ys[i]? = some y->RelV x u->RelV y v->SeqAt.EqAt A.in1 s u v (eqD d e)):Eq3 A s (.ref a) (.ref b) (eqD (.tup ds) (.tup es)):=by
 obtain ⟨its,r1,p1,_⟩:=I.tuple ha
 obtain ⟨its2,r2,p2,_⟩:=I.tuple hb
 have l1:=hd.length;have l2:=he.length;have l3:=r1.length;have l4:=r2.length
 have hitem:∀ j (h1:j < its.toArray.size) (h2:j < its2.toArray.size),SeqAt.EqAt A.in1 s its.toArray[j] its2.toArray[j] (match ds[j]?,es[j]? with | some d,some e=>eqD d e | _,_=>false):=fun j h1 h2=>by
  rw [List.size_toArray] at h1 h2
  have e1:ds[j]? = some ds[j]:=List.getElem?_eq_getElem (by lia)
  have e2:es[j]? = some es[j]:=List.getElem?_eq_getElem (by lia)
  have e3:xs[j]? = some xs[j]:=List.getElem?_eq_getElem (by lia)
  have e4:ys[j]? = some ys[j]:=List.getElem?_eq_getElem (by lia)
  obtain ⟨u,q1,q2⟩:=r1.get e3
  obtain ⟨v,q3,q4⟩:=r2.get e4
  rw [e1,e2]
  have z1:its.toArray[j]=u:=by rw [List.getElem_toArray];rw [List.getElem?_eq_getElem h1] at q1;exact Option.some.inj q1
  have z2:its2.toArray[j]=v:=by rw [List.getElem_toArray];rw [List.getElem?_eq_getElem h2] at q3;exact Option.some.inj q3
  rw [z1,z2]
  exact ih j _ _ _ _ _ _ e1 e2 e3 e4 q2 q4
 have val:((List.range (min its.toArray.size its2.toArray.size)).all (fun j=>match ds[j]?,es[j]? with | some d,some e=>eqD d e | _,_=>false) && its.toArray.size == its2.toArray.size)=eqD (.tup ds) (.tup es):=by
  rw [List.size_toArray,List.size_toArray,<- l3,<- l4,<- l1,<- l2,GF]
  by_cases h:ds.length=es.length
  ·rw [h,Nat.min_self,<- h,EI ds es h]
   simp
  ·rw [Dr ds es h]
   have:(ds.length == es.length)=false:=by simpa using h
   rw [this,Bool.and_false]
 have R:=SeqAt.RcAt.tuples (A:=A) p1 p2 hu hitem
 have N:=SeqAt.RcNeAt.tuples (A:=A) p1 p2 hu hitem
 rw [val] at R N
 refine ⟨?_,R,N⟩
 by_cases hab:a=b
 ·subst hab
  have e:ds=es:=by
   have:=DK I (.tup ds) (.tup es) (.ref a) (by unfold Rep;exact ⟨a,xs,rfl,ha,hd⟩) (by unfold Rep;exact ⟨a,ys,rfl,hb,he⟩)
   cases this;rfl
  subst e
  rw [C1]
  exact SeqAt.EqAt.same _
 ·exact .of_refs hab R
theorem KJ {A:Around} {a b:Addr} {xs ys:List V} {ds es:List Dv} (I:Inv X pins σ H s) (hu:A.units < cLine) (ha:SqL X.K H a xs) (hb:SqL X.K H b ys) (hd:Reps X.K H ds xs) (he:Reps X.K H es ys)
 (ih:∀ (i:Nat) (d e:Dv) (x y:V) (u v:Value),ds[i]? = some d->es[i]? = some e->xs[i]? = some x->ys[i]? = some y->RelV x u->RelV y v->SeqAt.EqAt A.in1 s u v (eqD d e)):Eq3 A s (.ref a) (.ref b) (eqD (.lst ds) (.lst es)):=by
 obtain ⟨its,r1,p1,_⟩:=I.list ha
 obtain ⟨its2,r2,p2,_⟩:=I.list hb
 have l1:=hd.length;have l2:=he.length;have l3:=r1.length;have l4:=r2.length
 have hitem:∀ j (h1:j < its.toArray.size) (h2:j < its2.toArray.size),SeqAt.EqAt A.in1 s its.toArray[j] its2.toArray[j] (match ds[j]?,es[j]? with | some d,some e=>eqD d e | _,_=>false):=fun j h1 h2=>by
  rw [List.size_toArray] at h1 h2
  have e1:ds[j]? = some ds[j]:=List.getElem?_eq_getElem (by lia)
  have e2:es[j]? = some es[j]:=List.getElem?_eq_getElem (by lia)
  have e3:xs[j]? = some xs[j]:=List.getElem?_eq_getElem (by lia)
  have e4:ys[j]? = some ys[j]:=List.getElem?_eq_getElem (by lia)
  obtain ⟨u,q1,q2⟩:=r1.get e3
  obtain ⟨v,q3,q4⟩:=r2.get e4
  rw [e1,e2]
  have z1:its.toArray[j]=u:=by rw [List.getElem_toArray];rw [List.getElem?_eq_getElem h1] at q1;exact Option.some.inj q1
  have z2:its2.toArray[j]=v:=by rw [List.getElem_toArray];rw [List.getElem?_eq_getElem h2] at q3;exact Option.some.inj q3
  rw [z1,z2]
  exact ih j _ _ _ _ _ _ e1 e2 e3 e4 q2 q4
 have RN:SeqAt.RcAt A s (.ref a) (.ref b) (eqD (.lst ds) (.lst es))/\SeqAt.RcNeAt A s (.ref a) (.ref b) (!eqD (.lst ds) (.lst es)):=by
  by_cases h:ds.length=es.length
  ·have hsz:its.toArray.size=its2.toArray.size:=by rw [List.size_toArray,List.size_toArray];lia
   have val:(List.range its.toArray.size).all (fun j=>match ds[j]?,es[j]? with | some d,some e=>eqD d e | _,_=>false)=eqD (.lst ds) (.lst es):=by
    rw [D1,List.size_toArray,<- l3,<- l1,EI ds es h]
   have R:=SeqAt.RcAt.lists (A:=A) p1.isList p2.isList hsz hu hitem
   have N:=SeqAt.RcNeAt.lists (A:=A) p1.isList p2.isList hsz hu hitem
   rw [val] at R N
   exact ⟨R,N⟩
  ·have hsz:(its.toArray.size != its2.toArray.size)=true:=by rw [List.size_toArray,List.size_toArray];simp;lia
   have val:eqD (.lst ds) (.lst es)=false:=by rw [D1];exact Dr ds es h
   rw [val]
   exact ⟨SeqAt.RcAt.lists_lengths p1.isList p2.isList hsz hu,SeqAt.RcNeAt.lists_lengths p1.isList p2.isList hsz hu⟩
 refine ⟨?_,RN.1,RN.2⟩
 by_cases hab:a=b
 ·subst hab
  have e:ds=es:=by
   have:=DK I (.lst ds) (.lst es) (.ref a) (by unfold Rep;exact ⟨a,xs,rfl,ha,hd⟩) (by unfold Rep;exact ⟨a,ys,rfl,hb,he⟩)
   cases this;rfl
  subst e
  rw [C1]
  exact SeqAt.EqAt.same _
 ·exact .of_refs hab RN.1
theorem D7 (I:Inv X pins σ H s):∀ (n:Nat) (A:Around) (d e:Dv) (x y:V) (u v:Value),AF d<=n->A.units+n < cLine->Rep X.K H d x->Rep X.K H e y->RelV x u->RelV y v->Eq3 A s u v (eqD d e):=by
 intro n
 induction n with
 | zero =>
  intro A d e x y u v hd hu hx hy ru rv
  have hu':A.units < cLine:=by lia
  cases d with
  | tup ds=>unfold AF at hd;lia
  | lst ds=>unfold AF at hd;lia
  | non =>
   unfold Rep at hx;subst hx;cases ru
   cases e <;> unfold Rep at hy
   case non=>subst hy;cases rv;exact ⟨SeqAt.EqAt.same _,SeqAt.RcAt.none_none,SeqAt.RcNeAt.none_none⟩
   case bl=>subst hy;cases rv;exact ⟨.none_bool _,.none_bool _,.none_bool _⟩
   case int=>subst hy;obtain ⟨t,rfl⟩:=rv;exact ⟨.none_int _ _,.none_int _ _,.none_int _ _⟩
   case str=>subst hy;obtain ⟨t,rfl⟩:=rv;exact ⟨.none_str _ _,.none_str _ _,.none_str _ _⟩
   case tup=>obtain ⟨a,xs,rfl,ha,_⟩:=hy;cases rv;obtain ⟨its,_,p,_⟩:=I.tuple ha;exact ⟨.none_tuple p hu',.none_tuple p hu',.none_tuple p hu'⟩
   case lst=>obtain ⟨a,xs,rfl,ha,_⟩:=hy;cases rv;obtain ⟨its,_,p,_⟩:=I.list ha;exact ⟨.none_list p.isList hu',.none_list p.isList hu',.none_list p.isList hu'⟩
  | bl c =>
   unfold Rep at hx;subst hx;cases ru
   cases e <;> unfold Rep at hy
   case non=>subst hy;cases rv;exact ⟨.bool_none _,.bool_none _,.bool_none _⟩
   case bl=>subst hy;cases rv;unfold eqD;exact ⟨.bool_bool _ _,.bool_bool _ _,.bool_bool _ _⟩
   case int=>subst hy;obtain ⟨t,rfl⟩:=rv;unfold eqD;exact ⟨.bool_int _ _ _,.bool_int _ _ _,.bool_int _ _ _⟩
   case str=>subst hy;obtain ⟨t,rfl⟩:=rv;exact ⟨.bool_str _ _ _,.bool_str _ _ _,.bool_str _ _ _⟩
   case tup=>obtain ⟨a,xs,rfl,ha,_⟩:=hy;cases rv;obtain ⟨its,_,p,_⟩:=I.tuple ha;exact ⟨.bool_tuple _ p hu',.bool_tuple _ p hu',.bool_tuple _ p hu'⟩
   case lst=>obtain ⟨a,xs,rfl,ha,_⟩:=hy;cases rv;obtain ⟨its,_,p,_⟩:=I.list ha;exact ⟨.bool_list _ p.isList hu',.bool_list _ p.isList hu',.bool_list _ p.isList hu'⟩
  | int c =>
   unfold Rep at hx;subst hx;obtain ⟨t0,rfl⟩:=ru
   cases e <;> unfold Rep at hy
   case non=>subst hy;cases rv;exact ⟨.int_none _ _,.int_none _ _,.int_none _ _⟩
   case bl=>subst hy;cases rv;unfold eqD;exact ⟨.int_bool _ _ _,.int_bool _ _ _,.int_bool _ _ _⟩
   case int=>subst hy;obtain ⟨t,rfl⟩:=rv;unfold eqD;exact ⟨.int_int _ _ _ _,.int_int _ _ _ _,.int_int _ _ _ _⟩
   case str=>subst hy;obtain ⟨t,rfl⟩:=rv;exact ⟨.int_str _ _ _ _,.int_str _ _ _ _,.int_str _ _ _ _⟩
   case tup=>obtain ⟨a,xs,rfl,ha,_⟩:=hy;cases rv;obtain ⟨its,_,p,_⟩:=I.tuple ha;exact ⟨.int_tuple _ _ p hu',.int_tuple _ _ p hu',.int_tuple _ _ p hu'⟩
   case lst=>obtain ⟨a,xs,rfl,ha,_⟩:=hy;cases rv;obtain ⟨its,_,p,_⟩:=I.list ha;exact ⟨.int_list _ _ p.isList hu',.int_list _ _ p.isList hu',.int_list _ _ p.isList hu'⟩
  | str c =>
   unfold Rep at hx;subst hx;obtain ⟨t0,rfl⟩:=ru
   cases e <;> unfold Rep at hy
   case non=>subst hy;cases rv;exact ⟨.str_none _ _,.str_none _ _,.str_none _ _⟩
   case bl=>subst hy;cases rv;exact ⟨.str_bool _ _ _,.str_bool _ _ _,.str_bool _ _ _⟩
   case int=>subst hy;obtain ⟨t,rfl⟩:=rv;exact ⟨.str_int _ _ _ _,.str_int _ _ _ _,.str_int _ _ _ _⟩
   case str=>subst hy;obtain ⟨t,rfl⟩:=rv;unfold eqD;exact ⟨.str_str _ _ _ _,.str_str _ _ _ _,.str_str _ _ _ _⟩
   case tup=>obtain ⟨a,xs,rfl,ha,_⟩:=hy;cases rv;obtain ⟨its,_,p,_⟩:=I.tuple ha;exact ⟨.str_tuple _ _ p hu',.str_tuple _ _ p hu',.str_tuple _ _ p hu'⟩
   case lst=>obtain ⟨a,xs,rfl,ha,_⟩:=hy;cases rv;obtain ⟨its,_,p,_⟩:=I.list ha;exact ⟨.str_list _ _ p.isList hu',.str_list _ _ p.isList hu',.str_list _ _ p.isList hu'⟩
 | succ n ih =>
  intro A d e x y u v hd hu hx hy ru rv
  have hu':A.units < cLine:=by lia
  have hin:A.in1.units+n < cLine:=by show A.units+1+n < cLine;lia
  cases d with
  | tup ds =>
   unfold AF at hd
   unfold Rep at hx
   obtain ⟨a,xs,rfl,ha,hr⟩:=hx
   cases ru
   cases e <;> unfold Rep at hy
   case tup es =>
    obtain ⟨b,ys,rfl,hb,hr'⟩:=hy
    cases rv
    refine KR I hu' ha hb hr hr' fun i d e x y u v e1 e2 e3 e4 ru rv=>?_
    obtain ⟨x',q1,q2⟩:=hr.get e1
    obtain ⟨y',q3,q4⟩:=hr'.get e2
    rw [e3] at q1;cases q1
    rw [e4] at q3;cases q3
    exact (ih A.in1 d e x y u v (by have:=E8 e1;lia) hin q2 q4 ru rv).1
   case non=>subst hy;cases rv;obtain ⟨its,_,p,_⟩:=I.tuple ha;exact ⟨.tuple_none p hu',.tuple_none p hu',.tuple_none p hu'⟩
   case bl=>subst hy;cases rv;obtain ⟨its,_,p,_⟩:=I.tuple ha;exact ⟨.tuple_bool _ p hu',.tuple_bool _ p hu',.tuple_bool _ p hu'⟩
   case int=>subst hy;obtain ⟨t,rfl⟩:=rv;obtain ⟨its,_,p,_⟩:=I.tuple ha;exact ⟨.tuple_int _ _ p hu',.tuple_int _ _ p hu',.tuple_int _ _ p hu'⟩
   case str=>subst hy;obtain ⟨t,rfl⟩:=rv;obtain ⟨its,_,p,_⟩:=I.tuple ha;exact ⟨.tuple_str _ _ p hu',.tuple_str _ _ p hu',.tuple_str _ _ p hu'⟩
   case lst=>obtain ⟨b,ys,rfl,hb,_⟩:=hy;cases rv;obtain ⟨its,_,p,_⟩:=I.tuple ha;obtain ⟨its2,_,p2,_⟩:=I.list hb;exact ⟨.tuple_list p p2.isList hu',.tuple_list p p2.isList hu',.tuple_list p p2.isList hu'⟩
  | lst ds =>
   unfold AF at hd
   unfold Rep at hx
   obtain ⟨a,xs,rfl,ha,hr⟩:=hx
   cases ru
   cases e <;> unfold Rep at hy
   case lst es =>
    obtain ⟨b,ys,rfl,hb,hr'⟩:=hy
    cases rv
    refine KJ I hu' ha hb hr hr' fun i d e x y u v e1 e2 e3 e4 ru rv=>?_
    obtain ⟨x',q1,q2⟩:=hr.get e1
    obtain ⟨y',q3,q4⟩:=hr'.get e2
    rw [e3] at q1;cases q1
    rw [e4] at q3;cases q3
    exact (ih A.in1 d e x y u v (by have:=E8 e1;lia) hin q2 q4 ru rv).1
   case non=>subst hy;cases rv;obtain ⟨its,_,p,_⟩:=I.list ha;exact ⟨.list_none p.isList hu',.list_none p.isList hu',.list_none p.isList hu'⟩
   case bl=>subst hy;cases rv;obtain ⟨its,_,p,_⟩:=I.list ha;exact ⟨.list_bool _ p.isList hu',.list_bool _ p.isList hu',.list_bool _ p.isList hu'⟩
   case int=>subst hy;obtain ⟨t,rfl⟩:=rv;obtain ⟨its,_,p,_⟩:=I.list ha;exact ⟨.list_int _ _ p.isList hu',.list_int _ _ p.isList hu',.list_int _ _ p.isList hu'⟩
   case str=>subst hy;obtain ⟨t,rfl⟩:=rv;obtain ⟨its,_,p,_⟩:=I.list ha;exact ⟨.list_str _ _ p.isList hu',.list_str _ _ p.isList hu',.list_str _ _ p.isList hu'⟩
   case tup=>obtain ⟨b,ys,rfl,hb,_⟩:=hy;cases rv;obtain ⟨its,_,p,_⟩:=I.list ha;obtain ⟨its2,_,p2,_⟩:=I.tuple hb;exact ⟨.list_tuple p.isList p2 hu',.list_tuple p.isList p2 hu',.list_tuple p.isList p2 hu'⟩
  | non=>exact ih A .non e x y u v (by unfold AF;lia) (by lia) hx hy ru rv
  | bl c=>exact ih A (.bl c) e x y u v (by unfold AF;lia) (by lia) hx hy ru rv
  | int c=>exact ih A (.int c) e x y u v (by unfold AF;lia) (by lia) hx hy ru rv
  | str c=>exact ih A (.str c) e x y u v (by unfold AF;lia) (by lia) hx hy ru rv
end
section
variable {X:Cx}
noncomputable def mEq (neg:Bool) (K:W.Frag):R2:=fun x y H Q=>match x,y with
 | .non,.non=>Q (.bl (neg ^^ true)) H
 | .bl a,.bl b=>Q (.bl (neg ^^ (a == b))) H
 | .int a,.int b=>Q (.bl (neg ^^ (a == b))) H
 | .str a,.str b=>Q (.bl (neg ^^ (a == b))) H
 | x,y=>∃ d e,Rep K H d x/\Rep K H e y/\AF d<=60/\Q (.bl (neg ^^ eqD d e)) H
theorem HP (hu:X.A.units+60 < cLine):OpR X (compareOp .Eq) (fun x y H Q=>∃ d e,Rep X.K H d x/\Rep X.K H e y/\AF d<=60/\Q (.bl (eqD d e)) H):=by
 intro pins s σ H x y v u Q I rx ry h
 obtain ⟨d,e,h1,h2,h3,q⟩:=h
 exact (D7 I 60 X.A d e x y v u h3 hu h1 h2 rx ry).2.1 X.prog X.w _ _ ⟨.bl _,H,I,rfl,q⟩
theorem LJ (hu:X.A.units+60 < cLine):OpR X (compareOp .NotEq) (fun x y H Q=>∃ d e,Rep X.K H d x/\Rep X.K H e y/\AF d<=60/\Q (.bl (!eqD d e)) H):=by
 intro pins s σ H x y v u Q I rx ry h
 obtain ⟨d,e,h1,h2,h3,q⟩:=h
 exact (D7 I 60 X.A d e x y v u h3 hu h1 h2 rx ry).2.2 X.prog X.w _ _ ⟨.bl _,H,I,rfl,q⟩
theorem Fv {neg:Bool} {K:W.Frag} {x y:V} {H:Hp} {Q:VK} (h:mEq neg K x y H Q):∃ d e,Rep K H d x/\Rep K H e y/\AF d<=60/\Q (.bl (neg ^^ eqD d e)) H:=by
 unfold mEq at h
 split at h
 ·exact ⟨.non,.non,by unfold Rep;rfl,by unfold Rep;rfl,by unfold AF;lia,by unfold eqD;exact h⟩
 ·rename_i a b;exact ⟨.bl a,.bl b,by unfold Rep;rfl,by unfold Rep;rfl,by unfold AF;lia,by unfold eqD;exact h⟩
 ·rename_i a b;exact ⟨.int a,.int b,by unfold Rep;rfl,by unfold Rep;rfl,by unfold AF;lia,by unfold eqD;exact h⟩
 ·rename_i a b;exact ⟨.str a,.str b,by unfold Rep;rfl,by unfold Rep;rfl,by unfold AF;lia,by unfold eqD;exact h⟩
 ·exact h
theorem IZ (hu:X.A.units+60 < cLine):OpR X (compareOp .Eq) (mEq false X.K):=(HP hu).imp fun x y H Q h=>by
 obtain ⟨d,e,h1,h2,h3,q⟩:=Fv h
 exact ⟨d,e,h1,h2,h3,by rw [Bool.false_xor] at q;exact q⟩
theorem KT (hu:X.A.units+60 < cLine):OpR X (compareOp .NotEq) (mEq true X.K):=(LJ hu).imp fun x y H Q h=>by
 obtain ⟨d,e,h1,h2,h3,q⟩:=Fv h
 exact ⟨d,e,h1,h2,h3,by rw [Bool.true_xor] at q;exact q⟩
end
section
variable {X:Cx} {a b c e:Expr} {es:List Expr} {ta tb tc te:TE} {tA tB':TT} {t:TA} {pos p:Pos} {x:Str}
noncomputable def isB (v:V) (Q:Bool->Prop):Prop:=match v with
 | .bl c=>Q c
 | _=>False
theorem Ci {v:V} {Q:Bool->Prop} (h:isB v Q):∃ c,v=.bl c/\Q c:=by
 cases v <;> first | exact False.elim h | exact ⟨_,rfl,h⟩
noncomputable def AM (t:TE):Prop:=∀ σ H (Q Q':VK),(∀ v H,Q v H->Q' v H)->t σ H Q->t σ H Q'
noncomputable def uB (t:TE):TT:=fun σ H Q=>t σ H fun x H1=>isB x fun c=>Q c H1
theorem As {op:CmpOp} {r:R2} (ho:OpR X (compareOp op) r) (ha:PE X a ta) (hb:PE X b tb) (hm:behindInMarks op b=false:=by first | exact D5 _ (by decide) (by decide) | rfl):PT X (.Compare a [op] [b] pos) (uB (tOp r ta tb)):=by
 intro pins s σ H Q I h
 refine wpAny_isTrue_Compare1 (thn (ha pins s σ H _ I h) fun v s1 ⟨x,H1,I1,r1,q1⟩=>thn (hb pins s1 σ H1 _ I1 q1) fun u s2 ⟨y,H2,I2,r2,q2⟩ =>
  thn (ho pins s2 σ H2 x y v u _ I2 r1 r2 q2) fun c s3 ⟨z,H3,I3,r3,q⟩=>?_) hm
 obtain ⟨k,e,q3⟩:=Ci q
 subst e
 cases r3
 exact wpAny_truthy_bool ⟨H3,I3,q3⟩
theorem Be {op:CmpOp} {r:R2} (ho:OpR X (compareOp op) r) (ha:PE X a ta) (hb:PE X b tb) (hm:behindInMarks op b=false:=by first | exact D5 _ (by decide) (by decide) | rfl):PE X (.Compare a [op] [b] pos) (tOp r ta tb):=JO ho ha hb hm
theorem BI (h:PE X e te) (he:∀ whole,isTrue e X.env whole=(do let v <- whole;standAt e.pos;holding [v] (truthy v)):=by intro _;rfl):PT X e (uB te):=by
 intro pins s σ H Q I hq
 refine isTrue_plain (thn (h pins s σ H _ I hq) fun v s1 ⟨x,H1,I1,r1,q1⟩=>?_) (he _)
 obtain ⟨k,e,q⟩:=Ci q1
 subst e
 cases r1
 exact wpAny_truthy_bool ⟨H1,I1,q⟩
noncomputable def Md (r r':R2) (ta tb tc:TE):TE:=fun σ H Q=>ta σ H fun x H1=>tb σ H1 fun y H2=>r x y H2 fun z H3=>isB z fun k =>
 (if k=true then tc σ H3 fun w' H4=>r' y w' H4 Q else Q (.bl false) H3)
theorem MT {op op':CmpOp} {r r':R2} (ho:OpR X (compareOp op) r) (ho':OpR X (compareOp op') r') (ha:PE X a ta) (hb:PE X b tb) (hc:PE X c tc)
 (hm:lastMarks [op,op'] [b,c]=false:=by with_unfolding_all rfl):PE X (.Compare a [op,op'] [b,c] pos) (Md r r' ta tb tc):=by
 intro pins s σ H Q I h
 refine Compare_chain (thn (ha pins s σ H _ I h) fun v s1 ⟨x,H1,I1,r1,q1⟩=>chain_link (thn (hb pins s1 σ H1 _ I1 q1) fun u s2 ⟨y,H2,I2,r2,q2⟩ =>
  thn (ho pins s2 σ H2 x y v u _ I2 r1 r2 q2) fun d s3 ⟨z,H3,I3,r3,q⟩=>?_)) hm
 obtain ⟨k,e,q3⟩:=Ci q
 subst e
 cases r3
 refine wpAny_truthy_bool ?_
 cases k with
 | false=>exact ite_ff ⟨.bl false,H3,I3,rfl,q3⟩
 | true=>exact ite_tt (chain_last (thn (hc pins s3 σ H3 _ I3 q3) fun w' s4 ⟨z',H4,I4,r4,q4⟩=>ho' pins s4 σ H4 y z' u w' Q I4 r2 r4 q4))
noncomputable def KP (ta tb:TE):TE:=fun σ H Q=>ta σ H fun x H1=>isB x fun c=>if c=true then tb σ H1 Q else Q (.bl false) H1
noncomputable def GK (ta:TE):TE:=fun σ H Q=>ta σ H fun x H1=>isB x fun c=>Q (.bl (!c)) H1
theorem Ei (ha:PE X a ta) (hb:PE X (.BoolOp .And (b::es) pos) tb):PE X (.BoolOp .And (a::b::es) pos) (KP ta tb):=by
 have ha':PE X a (fun σ H Q=>ta σ H fun x H1=>isB x fun c=>Q (.bl c) H1):=fun pins s σ H Q I h=>thn (ha pins s σ H _ I h) fun v s1 ⟨x,H1,I1,r1,q1⟩=>by
  obtain ⟨c,e,q⟩:=Ci q1
  subst e
  exact ⟨.bl c,H1,I1,r1,q⟩
 have h:=MP (pos:=pos) ha' hb
 exact h.imp fun σ H Q q=>by
  show ta σ H fun x H1=>isB x fun c=>∃ c',V.bl c=.bl c'/\if c'=true then tb σ H1 Q else Q (.bl false) H1
  have e:(fun (x:V) (H1:Hp)=>isB x fun c=>∃ c',V.bl c=.bl c'/\if c'=true then tb σ H1 Q else Q (.bl false) H1)=fun x H1=>isB x fun c=>if c=true then tb σ H1 Q else Q (.bl false) H1:=by
   funext x H1
   cases x <;> first | rfl | (apply propext;constructor;(rintro ⟨c',e,h⟩;cases e;exact h);(intro h;exact ⟨_,rfl,h⟩))
  rw [e]
  exact q
theorem G0 (ha:PE X a ta):PE X (.UnaryOp .Not a pos) (GK ta):=by
 have ha':PE X a (fun σ H Q=>ta σ H fun x H1=>isB x fun c=>Q (.bl c) H1):=fun pins s σ H Q I h=>thn (ha pins s σ H _ I h) fun v s1 ⟨x,H1,I1,r1,q1⟩=>by
  obtain ⟨c,e,q⟩:=Ci q1
  subst e
  exact ⟨.bl c,H1,I1,r1,q⟩
 have h:=Kh (pos:=pos) ha'
 exact h.imp fun σ H Q q=>by
  show ta σ H fun x H1=>isB x fun c=>∃ c',V.bl c=.bl c'/\Q (.bl (!c')) H1
  have e:(fun (x:V) (H1:Hp)=>isB x fun c=>∃ c',V.bl c=.bl c'/\Q (.bl (!c')) H1)=fun x H1=>isB x fun c=>Q (.bl (!c)) H1:=by
   funext x H1
   cases x <;> first | rfl | (apply propext;constructor;(rintro ⟨c',e,h⟩;cases e;exact h);(intro h;exact ⟨_,rfl,h⟩))
  rw [e]
  exact q
noncomputable def SqA (K:W.Frag) (H:Hp) (p:Addr) (xs:List V):Prop:=SqL K H p xs\/SqT K H p xs
noncomputable def mIx (K:W.Frag):R2:=fun x y H Q=>match x,y with
 | .ref p,.int i=>∃ xs v,SqA K H p xs/\atI xs i=some v/\Q v H
 | .str z,.int i=>∃ c,z.length<=sizeLine/\atI z.cps.toList i=some c/\Q (.str ⟨#[c]⟩) H
 | _,_=>False
theorem IxR.imp {r r':R2} (h:IxR X r) (g:∀ x y H Q,r' x y H Q->r x y H Q):IxR X r':=fun a b pins s σ H x y v u Q I rx ry q z=>h a b pins s σ H x y v u Q I rx ry (g _ _ _ _ q) z
theorem Lh:IxR X (mIx X.K):=ix_seq.imp fun x y H Q q=>by
 cases x <;> cases y <;> first
  | exact False.elim q
  | (obtain ⟨xs,v,h | h,e,q⟩:=q
     ·exact .inl ⟨_,xs,_,v,rfl,rfl,h,e,q⟩
     ·exact .inr (.inl ⟨_,xs,_,v,rfl,rfl,h,e,q⟩))
  | (obtain ⟨c,hz,e,q⟩:=q
     exact .inr (.inr ⟨_,_,c,rfl,rfl,hz,e,q⟩))
theorem MS (ha:PE X a ta) (hb:PE X b tb) (hs:Dy b:=by intro _ _;rfl):PE X (.Subscript a b pos) (tOp (mIx X.K) ta tb):=Hm Lh ha hb hs
noncomputable def DL (K:W.Frag):List V->Hp->VK->Prop:=fun xs H Q=>match xs with
 | [x]=>∃ n,FG K x H n/\Q (.int n) H
 | _=>False
theorem KW:CallR X (.builtin "len") (DL X.K):=call_len.imp fun xs H Q q=>by
 match xs,q with
 | [x],⟨n,h,q⟩=>exact ⟨x,n,rfl,h,q⟩
noncomputable def Jh:List V->Hp->VK->Prop:=fun xs H Q=>match xs with
 | [.int i]=>Q (.int i) H
 | [.bl k]=>Q (.int (if k then 1 else 0)) H
 | _=>False
theorem MK:CallR X (.type "int") Jh:=call_int1.imp fun xs H Q q=>by
 match xs,q with
 | [.int i],q=>exact .inl ⟨i,rfl,q⟩
 | [.bl k],q=>exact .inr ⟨k,rfl,q⟩
noncomputable def GZ (K:W.Frag):List V->Hp->VK->Prop:=fun xs H Q=>match xs with
 | [.ref p]=>∃ ys,(SqL K H p ys/\∀ l,H l=none->Q (.ref l) (upd H l (.tup ys)))\/(SqT K H p ys/\Q (.ref p) H)
 | _=>False
theorem Mh:CallR X (.type "tuple") (GZ X.K):=call_tuple_of.imp fun xs H Q q=>by
 match xs,q with
 | [.ref p],⟨ys,q⟩=>exact ⟨p,ys,rfl,q⟩
noncomputable def DR (K:W.Frag):List V->Hp->VK->Prop:=fun xs H Q=>match xs with
 | [.ref p]=>∃ ys,SqA K H p ys/\∀ l,H l=none->Q (.ref l) (upd H l (.lst ys))
 | _=>False
theorem JQ:CallR X (.type "list") (DR X.K):=call_list_of.imp fun xs H Q q=>by
 match xs,q with
 | [.ref p],⟨ys,h,q⟩=>exact ⟨p,ys,rfl,h,q⟩
noncomputable def FS (K:W.Frag) (T:String) (x:V) (H:Hp) (b:Bool):Prop:=match x with
 | .non=>b=(T == "NoneType")
 | .bl _=>b=(T == "bool" || T == "int")
 | .int _=>b=(T == "int")
 | .str _=>b=(T == "str")
 | .ref a=>(∃ xs,(H a=some (.lst xs)\/∃ o,H a=some (.frz o (.lst xs)))/\b=(T == "list"))\/(∃ xs,H a=some (.tup xs)/\b=(T == "tuple"))\/((∃ kvs,H a=some (.dK kvs))/\b=(T == "dict"))\/((∃ kvs,H a=some (.dT kvs))/\b=(T == "dict"))
 | _=>False
noncomputable def kinds:List String:=["int","bool","str","tuple","list","dict"]
theorem Ht (K:W.Frag):∀ T∈kinds,PySem.W.kitOne K (.type "NoneType") (.type T)=some (T == "NoneType")/\PySem.W.kitOne K (.type "bool") (.type T)=some (T == "bool" || T == "int") /\
 PySem.W.kitOne K (.type "int") (.type T)=some (T == "int")/\PySem.W.kitOne K (.type "str") (.type T)=some (T == "str")/\PySem.W.kitOne K (.type "list") (.type T)=some (T == "list") /\
 PySem.W.kitOne K (.type "tuple") (.type T)=some (T == "tuple")/\PySem.W.kitOne K (.type "dict") (.type T)=some (T == "dict"):=by
 intro T h
 unfold kinds at h
 rcases List.mem_cons.mp h with rfl | h
 ·exact ⟨rfl,rfl,rfl,rfl,rfl,rfl,rfl⟩
 rcases List.mem_cons.mp h with rfl | h
 ·exact ⟨rfl,rfl,rfl,rfl,rfl,rfl,rfl⟩
 rcases List.mem_cons.mp h with rfl | h
 ·exact ⟨rfl,rfl,rfl,rfl,rfl,rfl,rfl⟩
 rcases List.mem_cons.mp h with rfl | h
 ·exact ⟨rfl,rfl,rfl,rfl,rfl,rfl,rfl⟩
 rcases List.mem_cons.mp h with rfl | h
 ·exact ⟨rfl,rfl,rfl,rfl,rfl,rfl,rfl⟩
 rcases List.mem_cons.mp h with rfl | h
 ·exact ⟨rfl,rfl,rfl,rfl,rfl,rfl,rfl⟩
 ·exact absurd h (by simp)
theorem LS {K:W.Frag} {T:String} {v:V} {H:Hp} {k:Bool} (hT:T∈kinds) (h:FS K T v H k):∃ ty,TyOf K H v ty/\PySem.W.kitOne K ty (.type T)=some k:=by
 obtain ⟨k1,k2,k3,k4,k5,k6,k7⟩:=Ht K T hT
 cases v with
 | non=>cases (show k=_ from h);exact ⟨_,.non,k1⟩
 | bl _=>cases (show k=_ from h);exact ⟨_,.bl _,k2⟩
 | int _=>cases (show k=_ from h);exact ⟨_,.int _,k3⟩
 | str _=>cases (show k=_ from h);exact ⟨_,.str _,k4⟩
 | ref q =>
  rcases h with ⟨xs,h | ⟨o,h⟩,e⟩ | ⟨xs,h,e⟩ | ⟨⟨kvs,h⟩,e⟩ | ⟨⟨kvs,h⟩,e⟩
  ·subst e;exact ⟨_,.lst h,k5⟩
  ·subst e;exact ⟨_,.frz h,k5⟩
  ·subst e;exact ⟨_,.tup h,k6⟩
  ·subst e;exact ⟨_,.dK h,k7⟩
  ·subst e;exact ⟨_,.dT h,k7⟩
 | _=>exact False.elim h
noncomputable def MJ (K:W.Frag):List V->Hp->VK->Prop:=fun xs H Q=>match xs with
 | [x,.ty T]=>T∈kinds/\∃ k,FS K T x H k/\Q (.bl k) H
 | _=>False
theorem GH:CallR X (.builtin "isinstance") (MJ X.K):=by
 intro pins s σ H xs us Q I r q
 match xs,q with
 | [x,.ty T],q =>
  obtain ⟨hT,k,h,q⟩:=q
  obtain ⟨u,w',rfl,ru,rw'⟩:=DF r
  cases rw'
  obtain ⟨ty,h1,h2⟩:=LS hT h
  exact JH I ru h1 h2 fun tk=>⟨.bl k,H,I.tok _,rfl,q⟩
end
noncomputable def DI (scope sc:Scope):Bool :=
 decide (scope.kind=.function) && decide (scope.names.map (·.1)).Nodup && scope.names.all fun y=>!(y.2 == .free) || (sc.names.lookup y.1 == some .cell || sc.names.lookup y.1 == some .free)
theorem CompScope.of {scope sc:Scope} (h:DI scope sc=true):CompScope scope sc:=by
 unfold DI at h
 rw [Bool.and_eq_true,Bool.and_eq_true] at h
 obtain ⟨⟨h1,h2⟩,h3⟩:=h
 refine ⟨of_decide_eq_true h1,of_decide_eq_true h2,fun y hy hf=>?_⟩
 have:=List.all_eq_true.mp h3 y hy
 rw [hf] at this
 rcases (Bool.or_eq_true _ _).mp this with z | z
 ·exact absurd z (by decide)
 ·rcases (Bool.or_eq_true _ _).mp z with z | z
  ·exact .inl (by simpa using z)
  ·exact .inr (by simpa using z)
section
variable {X:Cx} {tg iter elt:Expr} {ifs:List Expr} {scope:Scope} {pos:Pos} {N':List Str} {own:Nat} {ix:List Nat} {g:TG} {tc:TT} {te:TE} {wi:TI}
theorem frB {l:List Str} (h:(l.all fun x=>scope.names.lookup x == some .free)=true):∀ x∈l,scope.names.lookup x=some .free:=fun x hx=>by
 have:=List.all_eq_true.mp h x hx
 simpa using this
theorem BF (hc:X.calm=true) (hi:PI X tg iter wi) (S:DI scope X.env.scope=true)
 (hlen:N'.length=own+ix.length) (hN:(N'.drop own).map some=ix.map (X.N[·]?)) (hfr:((N'.drop own).all fun x=>scope.names.lookup x == some .free)=true)
 (hg:∀ c,PG (X.comp scope N' c) tg g) (hgo:B6 own g) (ht:∀ c,PTs (X.comp scope N' c) ifs tc) (he:∀ c,PE (X.comp scope N' c) elt te)
 (hs:∀ x,foldedSetIterable iter X.env x=pure x:=by intro _;rfl):PE X (.ListComp elt [⟨tg,iter,ifs,0⟩] scope pos) (Ca wi own ix g tc te) :=
 MW hc hi (.of S) hlen hN (frB hfr) hg hgo ht he hs
theorem Fu {i:Nat} {y:Str} {py spos:Pos} (hc:X.calm=true) (hnd:X.N.Nodup) (hiy:X.N[i]? = some y) (hy:X.env.scope.names.lookup y=some .local) (hi:PI X tg iter wi) (S:DI scope X.env.scope=true)
 (hlen:N'.length=own+ix.length) (hN:(N'.drop own).map some=ix.map (X.N[·]?)) (hfr:((N'.drop own).all fun x=>scope.names.lookup x == some .free)=true)
 (hg:∀ c,PG (X.comp scope N' c) tg g) (hgo:B6 own g) (ht:∀ c,PTs (X.comp scope N' c) ifs tc) (he:∀ c,PE (X.comp scope N' c) elt te)
 (hsw:swapsWith (.ListComp elt [⟨tg,iter,ifs,0⟩] scope pos) (some (.Name y py)) spos.line X.env=pure true)
 (hs:∀ x,foldedSetIterable iter X.env x=pure x:=by intro _;rfl):PS X (.Assign [.Name y py] (.ListComp elt [⟨tg,iter,ifs,0⟩] scope pos) spos) (C0 (Ca wi own ix g tc te) (Ae i)) :=
 I0 hc hnd hiy hy hi (.of S) hlen hN (frB hfr) hg hgo ht he hsw hs
noncomputable def Fe (K:W.Frag) (tl:TE):TI:=fun σ H R=>tl σ H fun x H1=>match x with
 | .ref a=>((∃ xs,SqL K H1 a xs)/\R (Itl K a) H1)\/((∃ xs,SqT K H1 a xs)/\R (Itt K a) H1)
 | _=>False
theorem Kv {l:Expr} {tl:TE} (hl:PE X l tl):PI X tg l (Fe X.K tl):=by
 intro pins s σ H R I h
 refine thn (hl pins s σ H _ I h) fun v s1 ⟨x,H1,I1,r1,q1⟩=>?_
 cases x with
 | ref a =>
  cases r1
  rcases q1 with ⟨⟨xs,hq⟩,q⟩ | ⟨⟨xs,hq⟩,q⟩
  ·obtain ⟨its,rv,p,hz⟩:=I1.list hq
   refine wpAny_pyIter_list p.isList ?_
   refine ⟨s1.heap.objs.size,[s1.heap.objs.size],_,_,H1,rfl,I1.kept (t':=s1.toks) fun b o e=>Heap.get?_push_of_some _ e,Lc a _,⟨_,Heap.get?_push_size _ rfl,rfl,rfl⟩,fun b hb=>?_,q⟩
   have e:b=s1.heap.objs.size:=by simpa using hb
   subst e
   exact I1.fpOk (Nat.le_refl _) (I1.hok.fresh (Nat.le_refl _))
  ·obtain ⟨its,rv,p,hz⟩:=I1.tuple hq
   refine wpAny_pyIter_tuple (show s1.heap.IsTuple a its.toArray from p) ?_
   refine ⟨s1.heap.objs.size,[s1.heap.objs.size],_,_,H1,rfl,I1.kept (t':=s1.toks) fun b o e=>Heap.get?_push_of_some _ e,Li a _,⟨_,Heap.get?_push_size _ rfl,rfl,rfl⟩,fun b hb=>?_,q⟩
   have e:b=s1.heap.objs.size:=by simpa using hb
   subst e
   exact I1.fpOk (Nat.le_refl _) (I1.hok.fresh (Nat.le_refl _))
 | _=>exact False.elim q1
noncomputable def Ep:CY:=fun o i v H Q=>match o,i with
 | .ref p,.int k=>∃ xs j,H p=some (.lst xs)/\ixN xs.length k=some j/\Q (upd H p (.lst (xs.set j v)))
 | _,_=>False
theorem DO:D4 X Ep:=by
 intro pins s σ H o i v ov iv u Q I ro ri rv h
 cases o <;> cases i <;> first
  | exact False.elim h
  | (obtain ⟨xs,j,h1,h2,q⟩:=h
     exact Lx pins s σ H _ _ v ov iv u Q I ro ri rv ⟨_,xs,_,j,rfl,rfl,h1,h2,q⟩)
theorem Gd {K:W.Frag} {a:Addr} {xs:List V} {σc:St} {Q:VK} {H:Hp} (Pv:Nat->List V->Hp->Prop) (h0:Pv 0 [] H) (hl:∀ i ys H,i<=xs.length->Pv i ys H->SqL K H a xs) (hz:∀ i ys H,i < xs.length->Pv i ys H->ys.length < sizeLine)
 (hs:∀ i x ys H,xs[i]? = some x->Pv i ys H->g x σc H fun σ2 H2=>tc σ2 H2 fun b H3=>if b=true then te σ2 H3 fun y H4=>Pv (i+1) (ys++[y]) H4 else Pv (i+1) ys H3)
 (hd:∀ ys H,Pv xs.length ys H->∀ p,H p=none->Q (.ref p) (upd H p (.lst ys))):Cf (Itl K a) g tc te σc Q H:=by
 refine ⟨fun i m ys H=>m=xs.length - i/\i<=xs.length/\Pv i ys H,⟨xs.length,by simp,Nat.zero_le _,h0⟩,?_⟩
 rintro i m ys H ⟨rfl,hi,p⟩
 have q:=hl i ys H hi p
 by_cases hlt:i < xs.length
 ·refine .inr ⟨⟨xs,xs[i],q,by simp [hlt]⟩,hz i ys H hlt p,Pv (i+1),fun ys' H' p'=>⟨xs.length - (i+1),by lia,rfl,hlt,p'⟩,fun x H' y=>?_⟩
  obtain ⟨e,y⟩:=y
  subst e
  exact hs i x ys _ (y xs q) p
 ·have e:i=xs.length:=by lia
  subst e
  exact .inl ⟨⟨xs,q,Nat.le_refl _⟩,hd ys H p⟩
theorem Dc {K:W.Frag} {a:Addr} {xs:List V} {σc:St} {Q:VK} {H:Hp} (Pv:Nat->List V->Hp->Prop) (h0:Pv 0 [] H) (hl:∀ i ys H,i<=xs.length->Pv i ys H->SqT K H a xs) (hz:∀ i ys H,i < xs.length->Pv i ys H->ys.length < sizeLine)
 (hs:∀ i x ys H,xs[i]? = some x->Pv i ys H->g x σc H fun σ2 H2=>tc σ2 H2 fun b H3=>if b=true then te σ2 H3 fun y H4=>Pv (i+1) (ys++[y]) H4 else Pv (i+1) ys H3)
 (hd:∀ ys H,Pv xs.length ys H->∀ p,H p=none->Q (.ref p) (upd H p (.lst ys))):Cf (Itt K a) g tc te σc Q H:=by
 refine ⟨fun i m ys H=>m=xs.length - i/\i<=xs.length/\Pv i ys H,⟨xs.length,by simp,Nat.zero_le _,h0⟩,?_⟩
 rintro i m ys H ⟨rfl,hi,p⟩
 have q:=hl i ys H hi p
 by_cases hlt:i < xs.length
 ·refine .inr ⟨⟨xs,xs[i],q,by simp [hlt]⟩,hz i ys H hlt p,Pv (i+1),fun ys' H' p'=>⟨xs.length - (i+1),by lia,rfl,hlt,p'⟩,fun x H' y=>?_⟩
  obtain ⟨e,y⟩:=y
  subst e
  exact hs i x ys _ (y xs q) p
 ·have e:i=xs.length:=by lia
  subst e
  exact .inl ⟨⟨xs,q,Nat.le_refl _⟩,hd ys H p⟩
theorem Bh {lo:Int} {n:Nat} {σc:St} {Q:VK} {H:Hp} (Pv:Nat->List V->Hp->Prop) (h0:Pv 0 [] H) (hz:∀ i ys H,i < n->Pv i ys H->ys.length < sizeLine)
 (hs:∀ i ys H,i < n->Pv i ys H->g (.int (lo+i)) σc H fun σ2 H2=>tc σ2 H2 fun b H3=>if b=true then te σ2 H3 fun y H4=>Pv (i+1) (ys++[y]) H4 else Pv (i+1) ys H3)
 (hd:∀ ys H,Pv n ys H->∀ p,H p=none->Q (.ref p) (upd H p (.lst ys))):Cf (Itr lo n) g tc te σc Q H:=by
 refine ⟨fun i m ys H=>m=n - i/\i<=n/\Pv i ys H,⟨n,by simp,Nat.zero_le _,h0⟩,?_⟩
 rintro i m ys H ⟨rfl,hi,p⟩
 by_cases hlt:i < n
 ·refine .inr ⟨hlt,hz i ys H hlt p,Pv (i+1),fun ys' H' p'=>⟨n - (i+1),by lia,rfl,hlt,p'⟩,fun x H' y=>?_⟩
  obtain ⟨e,y⟩:=y
  subst e y
  exact hs i ys _ hlt p
 ·have e:i=n:=by lia
  subst e
  exact .inl ⟨Nat.le_refl _,hd ys H p⟩
end
theorem Ax {A:Around} {k:Nat} (hr:Room k A):A.units+60 < cLine:=by have:=hr.un;lia
noncomputable def Frm (t:Addr) (H H':Hp):Prop:=∀ b o,b≠t->H b=some o->H' b=some o
theorem Frm.trans {t:Addr} {H H1 H2:Hp} (a:Frm t H H1) (b:Frm t H1 H2):Frm t H H2:=fun c o n h=>b c o n (a c o n h)
theorem Frm.upd {t p:Addr} {H:Hp} {o:HO} (h:H p=none):Frm t H (upd H p o):=fun b u _ e=>by rw [AD (BW e h)];exact e
theorem Frm.updT {t:Addr} {H:Hp} {o:HO}:Frm t H (L2.upd H t o):=fun b u n e=>by rw [AD n];exact e
theorem Same.upd {p:Addr} {H:Hp} {o:HO} (h:H p=none):Same H (L2.upd H p o):=fun b u e=>by rw [AD (BW e h)];exact e
theorem Same.frm {t:Addr} {H H':Hp} (h:Same H H'):Frm t H H':=fun b o _ e=>h b o e
theorem E2 {K:W.Frag} {H H':Hp} {a:Addr} {xs:List V} (h:SqL K H a xs) (k:∀ o,H a=some o->H' a=some o):SqL K H' a xs:=by
 rcases h with (h | ⟨o,h⟩) | h
 ·exact .inl (.inl (k _ h))
 ·exact .inl (.inr ⟨o,k _ h⟩)
 ·exact .inr h
theorem E1 {K:W.Frag} {H H':Hp} {a:Addr} {xs:List V} (h:SqT K H a xs) (k:∀ o,H a=some o->H' a=some o):SqT K H' a xs:=by
 rcases h with (h | ⟨o,h⟩) | h
 ·exact .inl (.inl (k _ h))
 ·exact .inl (.inr ⟨o,k _ h⟩)
 ·exact .inr h
noncomputable def ScrAt (K:W.Frag) (H:Hp) (t a:Addr) (ns:List Int):Prop :=
 (Rd H a (.lst (ns.map V.int))/\a≠t)\/∃ (o:Obj) (its:Array Value) (n:Nat),K.lookup a=some o/\o.cls=.type "list" /\ o.dict=none/\o.data=.seq its n/\its.size<=sizeLine/\Vals (ns.map V.int) its.toList
theorem ScrAt.stay {K:W.Frag} {H H':Hp} {t a:Addr} {ns:List Int} (h:ScrAt K H t a ns) (k:∀ o,a≠t->H a=some o->H' a=some o):ScrAt K H' t a ns:=by
 rcases h with ⟨h | ⟨o,h⟩,n⟩ | h
 ·exact .inl ⟨.inl (k _ n h),n⟩
 ·exact .inl ⟨.inr ⟨o,k _ n h⟩,n⟩
 ·exact .inr h
theorem ScrAt.of {K:W.Frag} {H:Hp} {t a:Addr} {ns:List Int} (h:SqL K H a (ns.map V.int)) (ht:H t=none):ScrAt K H t a ns:=by
 rcases h with h | h
 ·refine .inl ⟨h,fun e=>?_⟩
  subst e
  rcases h with h | ⟨o,h⟩ <;> rw [ht] at h <;> cases h
 ·exact .inr h
structure Tape (K:W.Frag) (H:Hp) (t a:Addr) (ns:List Int):Prop where
 at_:∃ i r c:Int,0<=i/\0<=r/\H t=some (.lst [.ref a,.int i,.int r,.int c])
 scr:ScrAt K H t a ns
theorem Tape.frm {K:W.Frag} {H H':Hp} {t a:Addr} {ns:List Int} (T:Tape K H t a ns) (h:Frm t H H') (ht:H' t=H t):Tape K H' t a ns :=
 ⟨by rw [ht];exact T.at_,T.scr.stay fun o n e=>h a o n e⟩
theorem Tape.same {K:W.Frag} {H H':Hp} {t a:Addr} {ns:List Int} (T:Tape K H t a ns) (h:Same H H'):Tape K H' t a ns:=by
 obtain ⟨i,r,c,h1,h2,h3⟩:=T.at_
 exact ⟨⟨i,r,c,h1,h2,h _ _ h3⟩,T.scr.stay fun o _ e=>h a o e⟩
theorem Tape.upd {K:W.Frag} {H:Hp} {t a p:Addr} {o:HO} {ns:List Int} (T:Tape K H t a ns) (h:H p=none):Tape K (L2.upd H p o) t a ns:=T.same (Same.upd h)
theorem Tape.free {K:W.Frag} {H H':Hp} {t a p:Addr} {ns:List Int} (T:Tape K H' t a ns) (h:Frm t H H') (hp:H' p=none):H p=none:=by
 cases e:H p with
 | none=>rfl
 | some o =>
  by_cases hpt:p=t
  ·subst hpt
   obtain ⟨i,r,c,_,_,h3⟩:=T.at_
   rw [h3] at hp;cases hp
  ·rw [h p o hpt e] at hp;cases hp
noncomputable def Di (K:W.Frag):Sp:=fun vs H Q _=>∃ (a:Addr) (ns:List Int),vs=[.ref a]/\SqL K H a (ns.map V.int)/\ns.length<=63/\∀ H',Q (.bl true) H'
theorem BR {xs:List V} {i:Int} {n:Nat} {v:V} (h:i=(n:Int)) (hx:xs[n]? = some v):atI xs i=some v:=by
 subst h
 have hn:n < xs.length:=(List.getElem?_eq_some_iff.mp hx).1
 unfold atI ixN
 rw [if_pos (Int.natCast_nonneg n),if_pos (by lia)]
 simpa using hx
theorem Hl {ns:List Int} {i:Int} (h0:0<=i) (h1:i < ns.length):∃ z,atI (ns.map V.int) i=some (.int z):=by
 obtain ⟨n,rfl⟩:=Int.eq_ofNat_of_zero_le h0
 have hn:n < ns.length:=by lia
 exact ⟨ns[n],BR rfl (by rw [List.getElem?_map,List.getElem?_eq_getElem hn];rfl)⟩
theorem A0 {j:Int} (h1:0 < j) (h2:j<=2 ^ 1000):okDiv j:=⟨h1,Int.lt_of_le_of_lt h2 (by decide)⟩
theorem AU {n:Nat} (h:n<=1000):n<=sizeLine:=Nat.le_of_lt (Aq h)
noncomputable def BJ (t:TT):Prop:=∀ σ H (Q Q':Bool->Hp->Prop),(∀ b H,Q b H->Q' b H)->t σ H Q->t σ H Q'
noncomputable def BA (t:TA):Prop:=∀ σ H (Q Q':List V->Hp->Prop),(∀ b H,Q b H->Q' b H)->t σ H Q->t σ H Q'
noncomputable def A3 (r:R2):Prop:=∀ x y H (Q Q':VK),(∀ v H,Q v H->Q' v H)->r x y H Q->r x y H Q'
noncomputable def DU (r:List V->Hp->VK->Prop):Prop:=∀ xs H (Q Q':VK),(∀ v H,Q v H->Q' v H)->r xs H Q->r xs H Q'
noncomputable def Bj (r:V->List V->Hp->VK->Prop):Prop:=∀ x xs H (Q Q':VK),(∀ v H,Q v H->Q' v H)->r x xs H Q->r x xs H Q'
noncomputable def AW (sp:Sp):Prop:=∀ vs H (Q Q':VK) E,(∀ v H,Q v H->Q' v H)->sp vs H Q E->sp vs H Q' E
noncomputable def Ba (t:TI):Prop:=∀ σ H (Q Q':It->Hp->Prop),(∀ J H,Q J H->Q' J H)->t σ H Q->t σ H Q'
noncomputable def GE (t:CY):Prop:=∀ o i v H (Q Q':Hp->Prop),(∀ H,Q H->Q' H)->t o i v H Q->t o i v H Q'
structure Ends.le (D D':Ends):Prop where
 nx:∀ σ H,D.nx σ H->D'.nx σ H
 rt:∀ v H,D.rt v H->D'.rt v H
 bk:∀ σ H,D.bk σ H->D'.bk σ H
 ct:∀ σ H,D.ct σ H->D'.ct σ H
noncomputable def Aw (t:TS):Prop:=∀ D D' σ H,Ends.le D D'->t D σ H->t D' σ H
theorem JR {i:Nat}:AM (Dk i):=fun σ H Q Q' h q=>by
 unfold Dk at *
 split at q
 ·exact h _ _ q
 ·exact q.elim
theorem KQ {v:V}:AM (tC v):=fun _ _ _ _ h q=>h _ _ q
theorem LP {r:R2} {ta tb:TE} (hr:A3 r) (ha:AM ta) (hb:AM tb):AM (tOp r ta tb):=fun σ H Q Q' h q=>ha _ _ _ _ (fun _ _ q=>hb _ _ _ _ (fun _ _ q=>hr _ _ _ _ _ h q) q) q
theorem Hu {K}:A3 (CI K):=fun x y H Q Q' h q=>by
 unfold CI at *
 split at q
 ·exact h _ _ q
 ·exact ⟨q.1,h _ _ q.2⟩
 ·rcases q with ⟨l,b,xs,zs,e1,e2,h1,h2,h3,q⟩ | ⟨a,b,xs,ys,e1,e2,h1,h2,h3,h4,q1,q2⟩
  ·exact .inl ⟨l,b,xs,zs,e1,e2,h1,h2,h3,fun p hp=>h _ _ (q p hp)⟩
  ·exact .inr ⟨a,b,xs,ys,e1,e2,h1,h2,h3,h4,fun e=>h _ _ (q1 e),fun e p hp=>h _ _ (q2 e p hp)⟩
 ·exact q.elim
theorem Mc:A3 En:=fun x y H Q Q' h q=>by
 unfold En at *
 split at q
 ·exact ⟨q.1,h _ _ q.2⟩
 ·obtain ⟨l,k,xs,e1,e2,h1,h2,h3,h4,q⟩:=q
  exact ⟨l,k,xs,e1,e2,h1,h2,h3,h4,fun p hp=>h _ _ (q p hp)⟩
 ·exact q.elim
theorem LK:A3 Ed:=fun x y H Q Q' h q=>by unfold Ed at *;split at q <;> first | exact ⟨q.1,h _ _ q.2⟩ | exact q.elim
theorem Hz:A3 Dq:=fun x y H Q Q' h q=>by unfold Dq at *;split at q <;> first | exact ⟨q.1,h _ _ q.2⟩ | exact q.elim
theorem Ma:A3 EC:=fun x y H Q Q' h q=>by unfold EC at *;split at q <;> first | exact ⟨q.1,h _ _ q.2⟩ | exact q.elim
theorem Iv:A3 Eb:=fun x y H Q Q' h q=>by unfold Eb at *;split at q <;> first | exact ⟨q.1,h _ _ q.2⟩ | exact q.elim
theorem Ks {p}:A3 (Ce p):=fun x y H Q Q' h q=>by unfold Ce at *;split at q <;> first | exact h _ _ q | exact q.elim
theorem Mf {n K}:A3 (mEq n K):=fun x y H Q Q' h q=>by
 unfold mEq at *
 split at q <;> first | exact h _ _ q | (obtain ⟨d,e,h1,h2,h3,q⟩:=q;exact ⟨d,e,h1,h2,h3,h _ _ q⟩)
theorem Io {K}:A3 (mIx K):=fun x y H Q Q' h q=>by
 unfold mIx at *
 split at q
 ·obtain ⟨xs,v,h1,h2,q⟩:=q;exact ⟨xs,v,h1,h2,h _ _ q⟩
 ·obtain ⟨c,h1,h2,q⟩:=q;exact ⟨c,h1,h2,h _ _ q⟩
 ·exact q.elim
theorem Fk {v:V} {Q Q':Bool->Prop} (h:∀ b,Q b->Q' b) (q:isB v Q):isB v Q':=by
 cases v <;> first | exact h _ q | exact q
theorem Hv {t:TE} (h:AM t):BJ (uB t):=fun σ H Q Q' k q=>h _ _ _ _ (fun _ _ q=>Fk (fun b q=>k b _ q) q) q
theorem Ko {ta:TE} (ha:AM ta):AM (GK ta):=fun σ H Q Q' h q=>ha _ _ _ _ (fun _ _ q=>Fk (fun b q=>h _ _ q) q) q
theorem ME {t u:TT} (ht:BJ t) (hu:BJ u):BJ (Fq t u):=fun σ H Q Q' h q=>ht _ _ _ _ (fun b _ q=>by
 cases b with
 | true=>exact hu _ _ _ _ h q
 | false=>exact h _ _ q) q
theorem ML {t u:TT} (ht:BJ t) (hu:BJ u):BJ (tOr t u):=fun σ H Q Q' h q=>ht _ _ _ _ (fun b _ q=>by
 cases b with
 | true=>exact h _ _ q
 | false=>exact hu _ _ _ _ h q) q
theorem Im {t:TT} (ht:BJ t):BJ (Gj t):=fun σ H Q Q' h q=>ht _ _ _ _ (fun b _ q=>h _ _ q) q
theorem Jn:BA GS:=fun _ _ _ _ h q=>h _ _ q
theorem HW {ta:TE} {t:TA} (ha:AM ta) (ht:BA t):BA (FH ta t):=fun σ H Q Q' h q=>ha _ _ _ _ (fun _ _ q=>ht _ _ _ _ (fun _ _ q=>h _ _ q) q) q
theorem K9 {r} {t:TA} (hr:DU r) (ht:BA t):AM (tCB r t):=fun σ H Q Q' h q=>ht _ _ _ _ (fun _ _ q=>hr _ _ _ _ h q) q
theorem Ie {sp dvs E} {t:TA} (hs:AW sp) (ht:BA t):AM (GR sp dvs E t):=fun σ H Q Q' h q=>ht _ _ _ _ (fun _ _ q=>hs _ _ _ _ _ h q) q
theorem Lm {t:TA} (ht:BA t):AM (HL t):=fun σ H Q Q' h q=>ht _ _ _ _ (fun _ _ q=>⟨q.1,fun p hp=>h _ _ (q.2 p hp)⟩) q
theorem MG {wi own ix g tc te} (hi:Ba wi):AM (Ca wi own ix g tc te):=fun σ H Q Q' h q=>hi _ _ _ _ (fun J H1 q=>by
 obtain ⟨W,w0,turn⟩:=q
 refine ⟨W,w0,fun i m ys H w=>?_⟩
 rcases turn i m ys H w with ⟨a,b⟩ | r
 ·exact .inl ⟨a,fun p hp=>h _ _ (b p hp)⟩
 ·exact .inr r) q
theorem Lj {K}:DU (DL K):=fun xs H Q Q' h q=>by unfold DL at *;split at q <;> first | (obtain ⟨n,a,q⟩:=q;exact ⟨n,a,h _ _ q⟩) | exact q.elim
theorem Lb {K}:DU (DR K):=fun xs H Q Q' h q=>by
 unfold DR at *
 split at q
 ·obtain ⟨ys,a,q⟩:=q;exact ⟨ys,a,fun l hl=>h _ _ (q l hl)⟩
 ·exact q.elim
theorem He {ta:TA} (h:BA ta):Ba (HG ta):=fun σ H Q Q' k q=>h _ _ _ _ (fun _ _ ⟨j,e,a,b,q⟩=>⟨j,e,a,b,k _ _ q⟩) q
theorem Lv:GE Ep:=fun o i v H Q Q' h q=>by
 unfold Ep at *
 split at q
 ·obtain ⟨xs,j,a,b,q⟩:=q;exact ⟨xs,j,a,b,h _ q⟩
 ·exact q.elim
theorem K8 {to ti:TE} {t:CY} (h1:AM to) (h2:AM ti) (h3:GE t):CQ (GO to ti t):=fun v σ H Q Q' h q=>h1 _ _ _ _ (fun _ _ q=>h2 _ _ _ _ (fun _ _ q=>h3 _ _ _ _ _ _ (fun H q=>h _ _ q) q) q) q
theorem Hb:Aw Bb:=fun D D' σ H h q=>h.nx _ _ q
theorem KU {t u:TS} (h1:Aw t) (h2:Aw u):Aw (Dt t u):=fun D D' σ H h q=>h1 { D with nx:=u D } { D' with nx:=u D' } σ H ⟨fun σ H q=>h2 D D' σ H h q,h.rt,h.bk,h.ct⟩ q
theorem IX {te:TE} {g:TG} (h1:AM te) (h2:CQ g):Aw (C0 te g):=fun D D' σ H h q=>h1 _ _ _ _ (fun _ _ q=>h2 _ _ _ _ _ h.nx q) q
theorem Jj {te:TE} (h1:AM te):Aw (GW te):=fun D D' σ H h q=>h1 _ _ _ _ h.rt q
theorem Iy {te:TE} (h1:AM te):Aw (FE te):=fun D D' σ H h q=>h1 _ _ _ _ (fun _ _ q=>h.nx _ _ q) q
theorem Mb {c:TT} {t u:TS} (hc:BJ c) (h1:Aw t) (h2:Aw u):Aw (EX c t u):=fun D D' σ H h q=>hc _ _ _ _ (fun b _ q=>by
 cases b with
 | true=>exact h1 _ _ _ _ h q
 | false=>exact h2 _ _ _ _ h q) q
theorem JU {wi:TI} {g:TG} {tb:TS} (hi:Ba wi) (hg:CQ g) (h1:Aw tb):Aw (Eu wi g tb):=fun D D' σ H h q=>hi _ _ _ _ (fun J H1 q=>by
 obtain ⟨W,w0,turn⟩:=q
 refine ⟨W,w0,fun i m σ H w=>?_⟩
 rcases turn i m σ H w with ⟨a,b⟩ | ⟨a,N,hN,step⟩
 ·exact .inl ⟨a,h.nx _ _ b⟩
 ·exact .inr ⟨a,N,hN,fun x H' y=>hg _ _ _ _ _ (fun σ2 H2 q=>h1 { D with nx:=N,ct:=N,bk:=D.nx } _ _ _ ⟨fun _ _ q=>q,h.rt,h.nx,fun _ _ q=>q⟩ q) (step x H' y)⟩) q
theorem Ak {t u:TS} {D:Ends} {σ:St} {H:Hp} (J:St->Hp->Prop) (h1:t { D with nx:=J } σ H) (h2:∀ σ' H',J σ' H'->u D σ' H') (hm:Aw t):Dt t u D σ H :=
 hm { D with nx:=J } { D with nx:=u D } σ H ⟨h2,fun _ _ q=>q,fun _ _ q=>q,fun _ _ q=>q⟩ h1
section
variable {X:Cx} {K:W.Frag} {a b c e l tg:Expr} {es:List Expr} {ta tb tc te tl:TE} {pos p:Pos}
theorem BS (hK:X.K=K:=by rfl):OpR X (binaryOp .Add) (CI K):=hK ▸ J6
theorem kEq (hu:X.A.units+60 < cLine) (hK:X.K=K:=by rfl):OpR X (compareOp .Eq) (mEq false K):=hK ▸ IZ hu
theorem kNe (hu:X.A.units+60 < cLine) (hK:X.K=K:=by rfl):OpR X (compareOp .NotEq) (mEq true K):=hK ▸ KT hu
theorem kIx (ha:PE X a ta) (hb:PE X b tb) (hs:Dy b:=by intro _ _;rfl) (hK:X.K=K:=by rfl):PE X (.Subscript a b pos) (tOp (mIx K) ta tb):=hK ▸ MS ha hb hs
theorem Ar (hK:X.K=K:=by rfl):CallR X (.builtin "len") (DL K):=hK ▸ KW
theorem BD (hK:X.K=K:=by rfl):CallR X (.type "tuple") (GZ K):=hK ▸ Mh
theorem EG (hK:X.K=K:=by rfl):CallR X (.type "list") (DR K):=hK ▸ JQ
theorem Cg (hl:PE X l tl) (hK:X.K=K:=by rfl):PI X tg l (Fe K tl):=hK ▸ Kv hl
end
theorem Inv.turnedNew {X:Cx} {pins:List (Addr × Obj)} {σ:St} {H:Hp} {s:Shared} {h':Heap} {ch:List Addr} {T:Addr} {o:HO} (I:Inv X pins σ H s) (hf:∀ b∈ch,Az X pins H b) (hT:s.heap.objs.size<=T)
 (k:∀ b u,b∉ch->s.heap.get? b=some u->h'.get? b=some u) (new:ObjOk X.prog X.w (upd H T o) h' T o) (th:∀ b∈ch,∃ u,h'.get? b=some u):Inv X pins σ (upd H T o) { s with heap:=h' }:=by
 have hTn:H T=none:=I.hok.fresh hT
 have nT:∀ b u,H b=some u->b≠T:=fun b u e z=>by rw [z,hTn] at e;cases e
 have nc:∀ b u,H b=some u->b∉ch:=fun b u e z=>by rw [(hf b z).1] at e;cases e
 refine I.step (g':=s.gens) (d':=s.drawn) (t':=s.toks) (ch:=ch) (fun b hb=>?_) (fun b u _ _ hc e _=>k b u hc e) (fun b u _ _ hc e _=>⟨u.slots,k b u hc e⟩) (fun b u hc e n=>?_) (fun b u hc e=>⟨u,k b u hc e⟩)
  (fun b xs e=>by rw [AD (nT _ _ e)];exact e) (fun b u v e=>by rw [AD (nT _ _ e)];exact e) (fun b ps e=>⟨#[],by rw [AD (nT _ _ e),e];simp⟩) (fun m hm=>?_) (fun b u e=>?_) I.bare
 ·obtain ⟨q1,q2,q3,q4,q5,q6⟩:=hf b hb
  exact ⟨q4,q2,q5,q6⟩
 ·rw [AD (Nat.ne_of_lt (Nat.lt_of_lt_of_le (Heap.lt_size e) hT))];exact n
 ·obtain ⟨u,es,ep,ho,r⟩:=hm
  exact ⟨u,es,ep,k _ u (fun z=>(hf _ z).2.1 rfl) ho,r⟩
 ·by_cases hb:b=T
  ·subst hb;rw [AE] at e;cases e;exact new
  ·rw [AD hb] at e
   refine (I.hok b u e).stay (fun c v hc q=>k c v ?_ q) (fun c q=>by rw [AD (nT _ _ q)];exact q) fun c xs q=>by rw [AD (nT _ _ q)];exact q
   rcases hc with z | z
   ·rw [z];exact nc b u e
   ·exact nc c _ z
section
variable {X:Cx}
end
section
variable {X:Cx} {K:W.Frag} {o e:Expr} {es:List Expr} {to:TE} {t:TA} {apos cpos:Pos}
noncomputable def Dd:V->List V->Hp->VK->Prop:=fun x vs H Q=>match x,vs with
 | .ref l,[y]=>∃ xs,H l=some (.lst xs)/\xs.length < sizeLine/\Q .non (upd H l (.lst (xs++[y])))
 | _,_=>False
theorem LQ:MtR X "list.append" Dd:=by
 intro pins s σ H x vs v us Q I rx rv q
 match x,vs,q with
 | .ref l,[y],⟨xs,h1,h2,q⟩=>exact LY pins s σ H _ _ v us Q I rx rv ⟨l,xs,y,rfl,rfl,h1,h2,q⟩
theorem MX (ho:PE X o to) (ha:PA X [e] t) (hbase:attributeBase o "append" X.env (eval o X.env)=eval o X.env:=by rfl)
 (hfew:((backTo cpos (starEach [e] X.env)).all (fun x=>!x.1) && (backToKw cpos (keywordEach [] X.env)).all (fun x=>x.1.isSome)
   && decide ([e].length+([]:List Keyword).length+(if ([]:List Keyword).isEmpty then 0 else 1) < 30))=true:=by rfl)
 (hline:(apos.endLine == cpos.line)=true:=by rfl) (hs:starEach [e] X.env=(false,eval e X.env)::starEach [] X.env:=by rfl) (hplain:(backTo cpos (starEach [] X.env)).any (·.1)=false:=by rfl) (hK:X.K=K:=by rfl) :
 PE X (.Call (.Attribute o "append" apos) [e] [] cpos) (tBM K "list" Dd to t):=hK ▸ Dg PySem.F.plainAttrs_list PySem.F.slot_list_append PySem.F.type_list_append LQ ho ha hbase hfew hline hs hplain
theorem JT {T:String} {r:V->List V->Hp->VK->Prop} (h1:AM to) (h2:BA t) (h3:Bj r):AM (tBM K T r to t):=fun σ H Q Q' h q=>h1 _ _ _ _ (fun _ _ q=>⟨q.1,h2 _ _ _ _ (fun _ _ q=>h3 _ _ _ _ _ h q) q.2⟩) q
theorem JF:Bj Dd:=fun x xs H Q Q' h q=>by
 unfold Dd at *
 split at q
 ·obtain ⟨ys,a,b,q⟩:=q;exact ⟨ys,a,b,h _ _ q⟩
 ·exact q.elim
noncomputable def Ff (K:W.Frag):List V->Hp->VK->Prop:=fun xs H Q=>match xs with
 | [.ref l]=>∃ bs:List Bool,SqL K H l (bs.map V.bl)/\Q (.bl (bs.all id)) H
 | _=>False
theorem Ka (hc:X.calm=true):CallR X (.builtin "all") (Ff X.K):=by
 intro pins s σ H xs us Q I r q
 match xs,q with
 | [.ref l],q =>
 obtain ⟨bs,hl,q⟩:=q
 obtain ⟨u,rfl,ru⟩:=B8 r
 cases ru
 obtain ⟨its,rv,pl,hz⟩:=I.list hl
 have hlen:=rv.length
 rw [List.length_map] at hlen
 obtain ⟨o1,n1,g1,_⟩:=id pl
 have hlt:=Heap.lt_size g1
 refine call_all_walk (wpAny_pyIter_list pl.isList ?_)
 have hne:l≠s.heap.objs.size:=Nat.ne_of_lt hlt
 refine ⟨_,_,_,_,_,_,fun i=>bs.getD i false,rfl,Walks.list (A:=X.A.in1) (I.ok.hd hc) s.heap.objs.size l hne its.toArray,?_,?_,fun h' tk hk=>?_⟩
 ·exact ⟨⟨_,Heap.get?_push_size _ rfl,rfl,rfl⟩,(show s.heap.IsList l its.toArray from pl.isList).at fun o e=>Heap.get?_push_of_some _ e⟩
 ·intro i v s' Q' E' hv hq
  have hv:its.toArray[i]? = some v:=hv
  have hi:i < its.length:=by
   have:=(Array.getElem?_eq_some_iff.mp hv).1
   simpa using this
  have hb:(bs.map V.bl)[i]? = some (.bl bs[i]):=by rw [List.getElem?_map,List.getElem?_eq_getElem (by lia)];rfl
  obtain ⟨w',q1,q2⟩:=rv.get hb
  have e:v=w':=by simp at hv;rw [q1] at hv;exact (Option.some.inj hv).symm
  subst e
  cases q2
  refine wpAny_truthy_bool ?_
  have e2:bs.getD i false=bs[i]:=by rw [List.getD_eq_getElem?_getD,List.getElem?_eq_getElem (by lia)];rfl
  have hq:Q' (bs.getD i false) s':=hq
  rw [e2] at hq
  exact hq
 ·refine ⟨.bl _,H,I.kept (fun b o e=>hk b o ?_ (Heap.get?_push_of_some _ e)),rfl,?_⟩
  ·simp only [List.mem_singleton]
   exact Nat.ne_of_lt (Heap.lt_size e)
  ·have e:(List.range its.toArray.size).all (fun i=>bs.getD i false)=bs.all id:=by
    rw [List.size_toArray,<- hlen]
    rw [Bool.eq_iff_iff,List.all_eq_true,List.all_eq_true]
    constructor
    ·intro h b hb
     obtain ⟨i,hi,rfl⟩:=List.mem_iff_getElem.mp hb
     have:=h i (List.mem_range.mpr hi)
     rw [List.getD_eq_getElem?_getD,List.getElem?_eq_getElem hi] at this
     exact this
    ·intro h i hi
     have hi':=List.mem_range.mp hi
     rw [List.getD_eq_getElem?_getD,List.getElem?_eq_getElem hi']
     exact h _ (List.getElem_mem hi')
   rw [e]
   exact q
theorem EN (hc:X.calm=true) (hK:X.K=K:=by rfl):CallR X (.builtin "all") (Ff K):=hK ▸ Ka hc
end
section
variable {prog:Program} {w:World} {A:Around} {E:Value->Shared->Prop} {s:Shared}
theorem Ey {it t:Addr} {items:Array Value} (hne:t≠it):∀ (n i:Nat) (s:Shared) (Q:List Value->Shared->Prop),s.heap.IsListIter it t i->s.heap.IsList t items->i+n<=items.size ->
 (∀ h',h'.IsListIter it t (i+n)->Heap.SameBut it s.heap h'->Q ((items.toList.drop i).take n) { s with heap:=h' })->wpAny (model prog w) A (draw (.ref it) n) Q E s
 | 0,i,s,Q,hit,_,_,hQ=>by
  show wpAny _ _ (pure []) Q E s
  exact wpAny_pure (by simpa using hQ s.heap hit (Heap.SameBut.refl ..))
 | n+1,i,s,Q,hit,ht,hle,hQ=>by
  have hlt:i < items.size:=by lia
  show wpAny _ _ (pyNext (.ref it) >>= _) Q E s
  refine wpAny_bind (wpAny_pyNext_list_item hit ht (x:=items[i]) (by simp [hlt]) fun h₁ hit₁ hs₁=>?_)
  refine wpAny_bind (wpAny_holding (Ey hne n (i+1) _ _ hit₁ (ht.extBut hs₁.extBut hne) (by lia) fun h₂ hit₂ hs₂=>wpAny_pure ?_))
  have hd:items.toList.drop i=items[i]::items.toList.drop (i+1):=by simp [List.drop_eq_getElem_cons,hlt]
  have:=hQ h₂ (by rw [show i+(n+1)=i+1+n by lia];exact hit₂) (hs₁.trans hs₂)
  rw [hd,List.take_succ_cons] at this
  exact this
theorem Ja {t:Addr} {items:Array Value} {Q:List Value->Shared->Prop} (hh:A.handled=none) (ht:s.heap.IsList t items)
 (hQ:∀ h',Heap.ExtBut s.heap.objs.size s.heap h'->Q items.toList { s with heap:=h' }):wpAny (model prog w) A (unpackItems (.ref t) items.size none) Q E s:=by
 have hlt:t≠s.heap.objs.size:=by obtain ⟨o,ho,_⟩:=ht;exact Nat.ne_of_lt (Heap.lt_size ho)
 unfold unpackItems
 refine wpAny_bind ?_
 ·unfold notIterableAtAll
  refine wpAny_bind (wpAny_specialOf ht.typeIs slot_list_iter.lookup ?_)
  refine wpAny_pure ?_
  simp only [Bool.false_eq_true,if_false]
  refine wpAny_bind (wpAny_holding (wpAny_pyIter_list ht ?_))
  refine wpAny_bind (wpAny_holding (Ey hlt items.size 0 _ _ ⟨_,Heap.get?_push_size _ rfl,rfl,rfl⟩ (ht.at fun o e=>Heap.get?_push_of_some _ e) (by lia) fun h₁ hit₁ hs₁=>?_))
  have hall:List.take items.size (List.drop 0 items.toList)=items.toList:=by
   rw [List.drop_zero];exact List.take_of_length_le (by simp)
  rw [hall]
  rw [if_neg (by simp)]
  have ht₁:h₁.IsList t items:=(Heap.IsList.at ht fun o e=>Heap.get?_push_of_some _ e).extBut hs₁.extBut hlt
  refine wpAny_bind (wpAny_holding (wpAny_pyNext_list_end hh hit₁ ht₁ (by simp) fun h₂ he₂=>?_))
  simp only [Option.isSome_none,Bool.false_eq_true,if_false]
  refine wpAny_pure (hQ h₂ fun b o hb e=>he₂ b o hb (hs₁.extBut b o hb (Heap.get?_push_of_some _ e)))
theorem Kz {env:Env} {elts:List Expr} {x1} {pos:Pos} {t:Addr} {items:Array Value} {Q:Unit->Shared->Prop} (hh:A.handled=none) (ht:s.heap.IsList t items)
 (hn:(assignEach elts env).length=items.size) (hstar:(assignEach elts env).findIdx? (·.1)=none)
 (h:∀ h',Heap.ExtBut s.heap.objs.size s.heap h'->wpAny (model prog w) A (assignInOrder ((assignEach elts env).map (·.2)) items.toList) Q E { s with heap:=h' }) :
 wpAny (model prog w) A (assign (.Tuple elts x1 pos) env (.ref t)) Q E s:=by
 rw [assign_Tuple]
 refine wpAny_bind (wpAny_standAt ?_)
 unfold unpack
 rw [hn,hstar]
 exact wpAny_bind (wpAny_holding (Ja hh ht h))
end
section
variable {X:Cx} {K:W.Frag} {pos p2:Pos} {e:Expr} {lo hi:Option Expr} {te:TE} {tl th:TO}
noncomputable def E9 (K:W.Frag) (n:Nat) (t:TGs):TG:=fun v σ H Q=>match v with
 | .ref a=>∃ xs,SqA K H a xs/\xs.length=n/\t xs σ H Q
 | _=>False
theorem LL {es:List Expr} {k:Nat} {t:TGs} {n:Nat} (hc:X.calm=true) (h:PGs X es t)
 (hn:(assignEach es X.env).length=n:=by rfl) (hst:(assignEach es X.env).findIdx? (·.1)=none:=by rfl) (hK:X.K=K:=by rfl):PG X (.Tuple es k pos) (E9 K n t):=by
 subst hK
 intro pins s σ H v u Q I r hw
 cases v with
 | ref a =>
  obtain ⟨xs,hq | hq,hl,hw⟩:=hw
  ·cases r
   obtain ⟨its,rv,ht,hz⟩:=I.list hq
   refine Kz (I.ok.hd hc) ht.isList (by simp [hn,<- hl,rv.length]) hst fun h' hx=>?_
   have I1:Inv X pins σ H { s with heap:=h' }:=I.kept (t':=s.toks) fun b o e=>hx b o (Nat.ne_of_lt (Heap.lt_size e)) e
   exact h pins _ σ H xs _ Q I1 (by simpa using rv) hw
  ·exact LD hc h hn hst pins s σ H _ u Q I r ⟨a,xs,rfl,hq,hl,hw⟩
 | _=>exact False.elim hw
theorem Jx {n:Nat} {t:TGs} (h:C8 t):CQ (E9 K n t):=fun v _ _ _ _ k q=>by
 cases v <;> first | exact False.elim q | (obtain ⟨xs,s,l,q⟩:=q;exact ⟨xs,s,l,h _ _ _ _ _ k q⟩)
noncomputable def D8 (K:W.Frag):V->Option Int->Option Int->Hp->VK->Prop:=fun x lo hi H Q=>match x with
 | .ref a=>∃ xs,(SqL K H a xs/\∀ p,H p=none->Q (.ref p) (upd H p (.lst (Al xs lo hi)))) \/
  (SqT K H a xs/\¬ (HT.sIx xs.length 0 lo=0/\HT.sIx xs.length xs.length hi=xs.length)/\∀ p,H p=none->Q (.ref p) (upd H p (.tup (Al xs lo hi))))
 | _=>False
theorem Lg:SlR X (D8 X.K):=by
 intro pins s σ H x v vl vu lo hi sl Q I rx hs pl pu q
 cases x with
 | ref a =>
  obtain ⟨xs,⟨h,q⟩ | ⟨h,h2,q⟩⟩:=q
  ·exact Ly pins s σ H _ v vl vu lo hi sl Q I rx hs pl pu ⟨a,xs,rfl,h,q⟩
  ·exact Gh pins s σ H _ v vl vu lo hi sl Q I rx hs pl pu ⟨a,xs,rfl,h,h2,q⟩
 | _=>exact False.elim q
theorem FB (he:PE X e te) (hl:PO X lo tl) (hu:PO X hi th) (hK:X.K=K:=by rfl):PE X (.Subscript e (.Slice lo hi none p2) pos) (tSl (D8 K) te tl th):=hK ▸ FF Lg he hl hu
noncomputable def CT (t:TO):Prop:=∀ σ H (Q Q':Option Int->Hp->Prop),(∀ b H,Q b H->Q' b H)->t σ H Q->t σ H Q'
theorem K0:CT FK:=fun _ _ _ _ h q=>h _ _ q
theorem J3 (h:AM te):CT (E7 te):=fun σ H Q Q' k q=>h _ _ _ _ (fun _ _ ⟨i,e,q⟩=>⟨i,e,k _ _ q⟩) q
theorem Ji (h:AM te) (h1:CT tl) (h2:CT th):AM (tSl (D8 K) te tl th):=fun σ H Q Q' k q=>h _ _ _ _ (fun v _ q=>h1 _ _ _ _ (fun _ _ q=>h2 _ _ _ _ (fun _ _ q=>by
 cases v <;> first | exact False.elim q | (obtain ⟨xs,⟨a,q⟩ | ⟨a,b,q⟩⟩:=q
                                           ·exact ⟨xs,.inl ⟨a,fun p hp=>k _ _ (q p hp)⟩⟩
                                           ·exact ⟨xs,.inr ⟨a,b,fun p hp=>k _ _ (q p hp)⟩⟩)) q) q) q
end
theorem Bu {K:W.Frag} {H H':Hp} {a:Addr} {xs:List V} (h:SqT K H a xs) (s:Same H H'):SqT K H' a xs:=E1 h fun o e=>s a o e
mutual
theorem Rep.same {K:W.Frag} {H H':Hp} (s:Same H H'):∀ (d:Dv) (v:V),Rep K H d v->Rep K H' d v
 | .non,v,h=>by unfold Rep at *;exact h
 | .bl b,v,h=>by unfold Rep at *;exact h
 | .int i,v,h=>by unfold Rep at *;exact h
 | .str x,v,h=>by unfold Rep at *;exact h
 | .tup ds,v,h=>by
  unfold Rep at *
  obtain ⟨a,xs,e,h1,h2⟩:=h
  exact ⟨a,xs,e,Bu h1 s,Reps.same s ds xs h2⟩
 | .lst ds,v,h=>by
  unfold Rep at *
  obtain ⟨a,xs,e,h1,h2⟩:=h
  exact ⟨a,xs,e,E2 h1 fun o e=>s a o e,Reps.same s ds xs h2⟩
theorem Reps.same {K:W.Frag} {H H':Hp} (s:Same H H'):∀ (ds:List Dv) (xs:List V),Reps K H ds xs->Reps K H' ds xs
 | [],xs,h=>by unfold Reps at *;exact h
 | d::ds,xs,h=>by
  unfold Reps at *
  obtain ⟨x,r,e,h1,h2⟩:=h
  exact ⟨x,r,e,Rep.same s d x h1,Reps.same s ds r h2⟩
end
mutual
noncomputable def BL:Dv->Bool
 | .tup ds=>An ds
 | .lst _=>false
 | _=>true
noncomputable def An:List Dv->Bool
 | []=>true
 | d::ds=>BL d && An ds
end
mutual
theorem Rep.frm {K:W.Frag} {H H':Hp} {t:Addr} (s:Frm t H H') (ht:∃ zs,H t=some (.lst zs)):∀ (d:Dv) (v:V),BL d=true->Rep K H d v->Rep K H' d v
 | .non,v,_,h=>by unfold Rep at *;exact h
 | .bl b,v,_,h=>by unfold Rep at *;exact h
 | .int i,v,_,h=>by unfold Rep at *;exact h
 | .str x,v,_,h=>by unfold Rep at *;exact h
 | .tup ds,v,hd,h=>by
  unfold BL at hd
  unfold Rep at *
  obtain ⟨a,xs,e,h1,h2⟩:=h
  refine ⟨a,xs,e,?_,Reps.frm s ht ds xs hd h2⟩
  obtain ⟨zs,hz⟩:=ht
  rcases h1 with (h1 | ⟨o,h1⟩) | h1
  ·exact .inl (.inl (s a _ (fun q=>by rw [q,hz] at h1;cases h1) h1))
  ·exact .inl (.inr ⟨o,s a _ (fun q=>by rw [q,hz] at h1;cases h1) h1⟩)
  ·exact .inr h1
 | .lst ds,v,hd,h=>by unfold BL at hd;cases hd
theorem Reps.frm {K:W.Frag} {H H':Hp} {t:Addr} (s:Frm t H H') (ht:∃ zs,H t=some (.lst zs)):∀ (ds:List Dv) (xs:List V),An ds=true->Reps K H ds xs->Reps K H' ds xs
 | [],xs,_,h=>by unfold Reps at *;exact h
 | d::ds,xs,hd,h=>by
  unfold An at hd
  rw [Bool.and_eq_true] at hd
  unfold Reps at *
  obtain ⟨x,r,e,h1,h2⟩:=h
  exact ⟨x,r,e,Rep.frm s ht d x hd.1 h1,Reps.frm s ht ds r hd.2 h2⟩
end
theorem Fl {c:TT} {t u:TS} {D:Ends} {σ:St} {H:Hp} (b:Bool) (hc:∀ Q:Bool->Hp->Prop,Q b H->c σ H Q) (h:if b=true then t D σ H else u D σ H):EX c t u D σ H:=hc _ h
theorem Tape.lst {K:W.Frag} {H:Hp} {t a:Addr} {ns:List Int} (T:Tape K H t a ns):∃ zs,H t=some (.lst zs):=by
 obtain ⟨i,r,c,_,_,h⟩:=T.at_
 exact ⟨_,h⟩
theorem A4 {K:W.Frag} {H:Hp} {p:Addr} {xs:List V} {ds:List Dv} (h:H p=some (.tup xs)) (r:Reps K H ds xs):Rep K H (.tup ds) (.ref p):=by unfold Rep;exact ⟨p,xs,rfl,.of h,r⟩
theorem Aa {K:W.Frag} {H:Hp}:Reps K H [] []:=by unfold Reps;rfl
theorem AS {K:W.Frag} {H:Hp} {d:Dv} {ds:List Dv} {x:V} {xs:List V} (h:Rep K H d x) (r:Reps K H ds xs):Reps K H (d::ds) (x::xs):=by unfold Reps;exact ⟨x,xs,rfl,h,r⟩
theorem HK {K:W.Frag} {H:Hp} {x:Str}:Rep K H (.str x) (.str x):=by unfold Rep;rfl
theorem Bd {K:W.Frag} {H:Hp} {x:Int}:Rep K H (.int x) (.int x):=by unfold Rep;rfl
theorem LA {K:W.Frag} {H:Hp} {x:Bool}:Rep K H (.bl x) (.bl x):=by unfold Rep;rfl
theorem Reps.append {K:W.Frag} {H:Hp}:∀ {ds es:List Dv} {xs ys:List V},Reps K H ds xs->Reps K H es ys->Reps K H (ds++es) (xs++ys)
 | [],es,xs,ys,h,h'=>by unfold Reps at h;subst h;exact h'
 | d::ds,es,xs,ys,h,h'=>by
  unfold Reps at h
  obtain ⟨x,r,rfl,h1,h2⟩:=h
  exact AS h1 (Reps.append h2 h')
section
variable {κ:Type} [DecidableEq κ]
noncomputable def DT (kvs:List (κ × V)) (k:κ):Option V:=(kvs.find? fun kv=>decide (kv.1=k)).map (·.2)
noncomputable def DX (kvs:List (κ × V)) (k:κ) (v:V):List (κ × V) :=
 if (kvs.any fun kv=>decide (kv.1=k))=true then kvs.map (fun kv=>if kv.1=k then (kv.1,v) else kv) else kvs++[(k,v)]
noncomputable def GY (kvs:List (κ × V)) (k:κ):List (κ × V):=kvs.filter fun kv=>decide (kv.1≠k)
theorem KV.any {kvs:List (κ × V)} {vs:List (κ × Value)} (r:KV kvs vs) (k:κ):(kvs.any fun kv=>decide (kv.1=k))=vs.any fun kv=>decide (kv.1=k):=by
 unfold KV at r
 induction r with
 | nil=>rfl
 | cons h t ih=>rw [List.any_cons,List.any_cons,ih,h.1]
theorem KV.drop {kvs:List (κ × V)} {vs:List (κ × Value)} (r:KV kvs vs) (k:κ):KV (GY kvs k) (without vs k):=by
 unfold KV at r ⊢
 unfold GY without
 induction r with
 | nil=>exact .nil
 | @cons p q ps qs h t ih =>
  obtain ⟨h1,h2⟩:=h
  rw [List.filter_cons,List.filter_cons]
  by_cases e:p.1=k
  ·have a:¬ decide (p.1≠k)=true:=by simp [e]
   have b:¬ decide (q.1≠k)=true:=by simp [h1.symm.trans e]
   rw [if_neg a,if_neg b];exact ih
  ·have e':¬ q.1=k:=fun z=>e (h1.trans z)
   have a:decide (p.1≠k)=true:=by simp [e]
   have b:decide (q.1≠k)=true:=by simp [e']
   rw [if_pos a,if_pos b];exact .cons ⟨h1,h2⟩ ih
theorem KV.length {kvs:List (κ × V)} {vs:List (κ × Value)} (r:KV kvs vs):kvs.length=vs.length:=Paired.length r
end
section
variable {P:Program} {w:World} {H:Hp} {h:Heap} {a:Addr}
end
noncomputable def DGet (H:Hp) (a:Addr) (y:V) (r:Option V):Prop :=
 (∃ kvs k,Rd H a (.dK kvs)/\y=kV k/\r=DT kvs k)\/∃ kvs k b,Rd H a (.dT kvs)/\y=.ref b/\H b=some (.tup (k.map kV))/\r=DT kvs k
noncomputable def DPut (H:Hp) (a:Addr) (y v:V) (H':Hp):Prop :=
 (∃ kvs k,H a=some (.dK kvs)/\y=kV k/\kvs.length < sizeLine/\H'=upd H a (.dK (DX kvs k v))) \/
 ∃ kvs k b,H a=some (.dT kvs)/\y=.ref b/\H b=some (.tup (k.map kV))/\kvs.length < sizeLine/\H'=upd H a (.dT (DX kvs k v))
theorem DGet.k {H:Hp} {a:Addr} {kvs:List (Key × V)} {k:Key} (e:H a=some (.dK kvs)):DGet H a (kV k) (DT kvs k):=.inl ⟨kvs,k,.inl e,rfl,rfl⟩
theorem DGet.t {H:Hp} {a b:Addr} {kvs:List (List Key × V)} {k:List Key} (e:H a=some (.dT kvs)) (eb:H b=some (.tup (k.map kV))):DGet H a (.ref b) (DT kvs k):=.inr ⟨kvs,k,b,.inl e,rfl,eb,rfl⟩
theorem DPut.k {H:Hp} {a:Addr} {kvs:List (Key × V)} {k:Key} {v:V} (e:H a=some (.dK kvs)) (hl:kvs.length < sizeLine):DPut H a (kV k) v (upd H a (.dK (DX kvs k v))):=.inl ⟨kvs,k,e,rfl,hl,rfl⟩
theorem DPut.t {H:Hp} {a b:Addr} {kvs:List (List Key × V)} {k:List Key} {v:V} (e:H a=some (.dT kvs)) (eb:H b=some (.tup (k.map kV))) (hl:kvs.length < sizeLine) :
 DPut H a (.ref b) v (upd H a (.dT (DX kvs k v))):=.inr ⟨kvs,k,b,e,rfl,eb,hl,rfl⟩
section
variable {X:Cx} {pins:List (Addr × Obj)} {σ:St} {H:Hp} {s:Shared} {a:Addr} {y v:V} {u r:Value} {o:Option V} {A:Around} {E:Value->Shared->Prop}
end
section
variable {X:Cx} {pins:List (Addr × Obj)} {σ:St} {H:Hp} {s:Shared} {a:Addr} {kvs:List (Key × V)} {k:Key} {u:Value} {A:Around} {E:Value->Shared->Prop}
end
section
variable {X:Cx} {o i e value:Expr} {pos pos' tpos:Pos} {td ty tv:TE}
end
section
variable {X:Cx} {pos:Pos}
end
structure M1 (X:Cx) (o:Expr) (m:Str) (apos:Pos) (e:Expr) (cpos:Pos):Prop where
 base:attributeBase o m X.env (eval o X.env)=eval o X.env
 few:((backTo cpos (starEach [e] X.env)).all (fun x=>!x.1) && (backToKw cpos (keywordEach [] X.env)).all (fun x=>x.1.isSome)
  && decide (([e]:List Expr).length+([]:List Keyword).length+(if ([]:List Keyword).isEmpty then 0 else 1) < 30))=true
 line:(apos.endLine == cpos.line)=true
 trees:backTo cpos (starEach [e] X.env)=[(false,eval e X.env)]
structure M2 (X:Cx) (o:Expr) (m:Str) (apos:Pos) (e f:Expr) (cpos:Pos):Prop where
 base:attributeBase o m X.env (eval o X.env)=eval o X.env
 few:((backTo cpos (starEach [e,f] X.env)).all (fun x=>!x.1) && (backToKw cpos (keywordEach [] X.env)).all (fun x=>x.1.isSome)
  && decide (([e,f]:List Expr).length+([]:List Keyword).length+(if ([]:List Keyword).isEmpty then 0 else 1) < 30))=true
 line:(apos.endLine == cpos.line)=true
 trees:backTo cpos (starEach [e,f] X.env)=[(false,eval e X.env),(false,eval f X.env)]
section
variable {X:Cx} {pins:List (Addr × Obj)} {σ:St} {H:Hp} {s:Shared} {a:Addr} {y d:V} {u r:Value} {o:Option V} {A:Around} {E:Value->Shared->Prop}
end
section
variable {X:Cx} {o e f:Expr} {apos cpos:Pos} {td ty tx:TE}
end
section
variable {X:Cx} {pins:List (Addr × Obj)} {σ:St} {H:Hp} {s:Shared} {a:Addr} {kvs:List (Key × V)} {A:Around} {E:Value->Shared->Prop}
end
section
variable {X:Cx} {pins:List (Addr × Obj)} {σ:St} {H:Hp} {s:Shared} {a:Addr} {y:V} {u:Value} {A:Around} {E:Value->Shared->Prop}
end
theorem Hf {M:Model} {A:Around} {E:Value->Shared->Prop} {s:Shared} {b:Bool} {Q:Int->Shared->Prop} (h:Q (if b=true then 1 else 0) s):wpAny M A (Builtin.Int.intOfSelf (.bool b)) Q E s:=by
 unfold Builtin.Int.intOfSelf
 exact wpAny_pure h
theorem MU {prog:Program} {w:World} {A:Around} {E:Value->Shared->Prop} {s:Shared} {b:Bool} {Q:Int->Shared->Prop} (h:Q (if b=true then 1 else 0) { s with toks:=s.toks+1 }):wpAny (model prog w) A (pyHash (.bool b)) Q E s:=by
 show wpAny _ _ (pyHashByItsType (.bool b)) _ _ _
 refine PySem.W.pyHash_slot (T:="bool") rfl PySem.F.slot_bool_hash PySem.F.entry_int_hash (PySem.F.args_int_hash_1 _) rfl (.inl rfl) ?_
 unfold Builtin.«int.__hash__» Builtin.Int.intSlot0
 refine wpAny_bind (wpAny_bind ?_)
 show wpAny _ _ (pure (Value.bool b,[])) _ _ _
 refine wpAny_pure (wpAny_bind (Hf (wpAny_pure ?_)))
 cases b with
 | true=>exact wpAny_bind (wpAny_mkInt (wpAny_pure ⟨_,_,rfl,h⟩))
 | false=>exact wpAny_bind (wpAny_mkInt (wpAny_pure ⟨_,_,rfl,h⟩))
noncomputable def D9:Bool->Value->Bool
 | b,.bool c=>b == c
 | _,_=>false
theorem Br {b:Bool} {v:Value} (h:D9 b v=true):v=.bool b:=by
 unfold D9 at h
 split at h
 ·rw [beq_iff_eq.mp h]
 ·cases h
noncomputable def JM (prog:Program) (w:World):PySem.KeyKind prog w Bool where
 is:=D9
 hash:=fun b=>if b=true then 1 else 0
 inj:=fun v a b ha hb=>by
  have e1:=Br ha
  have e2:=Br hb
  rw [e1] at e2
  injection e2
 byValue:=fun k v h=>by rw [Br h];rfl
 pyHash:=fun hv h=>by rw [Br hv];exact MU h
 eqBool:=fun {A E s a b u v Q} hu hv h=>by
  rw [Br hu,Br hv]
  refine SeqAt.EqAt.bool_bool a b _ _ _ _ ?_
  have e:(a == b)=decide (a=b):=by cases a <;> cases b <;> rfl
  rw [e];exact h
 «strs»:=fun k x t v h=>by
  have:=Br h
  cases this
section
variable {P:Program} {w:World} {H:Hp} {h:Heap} {a:Addr}
end
section
variable {X:Cx} {o i e value:Expr} {pos pos' tpos:Pos} {td ty tv:TE}
end
section
variable {X:Cx} {P:Program} {w:World} {o i:Expr} {pos:Pos} {td ty:TE}
end
section
variable {X:Cx} {K:W.Frag} {o:Expr} {to:TE} {apos cpos:Pos}
end
noncomputable def Ite (K:W.Frag) (l:Addr):It :=
 ⟨fun i H=>∃ xs x,SqL K H l xs/\xs[i]? = some x,
  fun i H v H'=>∃ p x,H p=none/\v=.ref p/\H'=upd H p (.tup [.int i,x])/\∀ xs,SqL K H l xs->xs[i]? = some x,
  fun i H=>∃ xs,SqL K H l xs/\xs.length<=i⟩
theorem Ki {P:Program} {w:World} {K:W.Frag} {es:List Expr} {kt:Nat} {tpos:Pos} {e it l:Addr} (hne:e≠it) :
 Turn P w K (.Tuple es kt tpos) (Ite K l) [e,it] e (fun i h=>(∃ old,IsEnum h e it (i:Int) old)/\h.IsListIter it l i) where
 mem:=by simp
 obj:=fun i h st b hb=>by
  obtain ⟨⟨old,hz⟩,⟨o1,e1,c1,d1⟩⟩:=st
  simp only [List.mem_cons,List.mem_nil_iff,or_false] at hb
  rcases hb with rfl | rfl
  ·exact ⟨_,hz,fun v q=>nomatch q⟩
  ·exact ⟨o1,e1,fun v q=>by rw [d1] at q;cases q⟩
 keep:=fun i h h' ⟨⟨old,hz⟩,h1⟩ k=>⟨⟨old,k e (by simp) _ hz⟩,h1.at fun o q=>k it (by simp) o q⟩
 item:=by
  intro X hP hw hK hc i pins s σ H E I hf st hg
  subst hP hw hK
  obtain ⟨xs,x,hq1,hx⟩:=hg
  obtain ⟨⟨old,hz⟩,h1⟩:=st
  obtain ⟨its,rv,p,_⟩:=I.list hq1
  obtain ⟨u,hu,ru⟩:=rv.get hx
  refine wpAny_pyNext_enum_item hz h1 p.isList (x:=u) (by simpa using hu) hne fun h' z1 z2 z3 z4 z5=>?_
  refine ⟨_,rfl,?_⟩
  have z5':∀ b v,b∉[e,it]->s.heap.get? b=some v->h'.get? b=some v:=fun b v hb q=>by
   simp only [List.mem_cons,List.mem_nil_iff,or_false,not_or] at hb
   exact z5 b v hb.1 hb.2 q
  have I1:Inv X pins σ (upd H s.heap.objs.size (.tup [.int i,x])) { s with heap:=h' }:=by
   refine I.turnedNew (ch:=[e,it]) (fun b hb=>hf b hb) (Nat.le_refl _) z5' ?_ fun b hb=>?_
   ·exact ⟨AU (show 2<=1000 by decide),[.int i s.toks,u],.cons ⟨_,rfl⟩ (.cons ru .nil),⟨_,z3,rfl,⟨_,rfl⟩,rfl⟩⟩
   ·simp only [List.mem_cons,List.mem_nil_iff,or_false] at hb
    rcases hb with rfl | rfl
    ·exact ⟨_,z1⟩
    ·obtain ⟨o,q,_⟩:=z2;exact ⟨o,q⟩
  refine wpAny_letOwnedTupleGo_enum (s:={ s with heap:=h',toks:=s.toks+1 }) z1 fun h'' z8 z9=>?_
  have hfz:=hf e (by simp)
  have neT:∀ b,b∈[e,it]->b≠s.heap.objs.size:=fun b hb q=>by
   have st':∃ o,s.heap.get? b=some o:=by
    simp only [List.mem_cons,List.mem_nil_iff,or_false] at hb
    rcases hb with rfl | rfl
    ·exact ⟨_,hz⟩
    ·obtain ⟨o,q,_⟩:=h1;exact ⟨o,q⟩
   obtain ⟨o,ho⟩:=st'
   have:=Heap.lt_size ho
   rw [q] at this
   exact Nat.lt_irrefl _ this
  have hTH:∀ b∈[e,it],upd H s.heap.objs.size (.tup [.int i,x]) b=none:=fun b hb=>by rw [AD (neT b hb)];exact (hf b hb).1
  have I2:Inv X pins σ (upd H s.heap.objs.size (.tup [.int i,x])) { s with heap:=h'',toks:=s.toks+1 } :=
   I1.turned (t':=s.toks+1) (fun b o hb q=>(z9.2 b hb).trans q) (hTH e (by simp)) hfz.2.1 hfz.2.2.2.1 hfz.2.2.2.2.1 hfz.2.2.2.2.2
  have up:∀ b o,b≠e->h'.get? b=some o->h''.get? b=some o:=fun b o hb q=>(z9.2 b hb).trans q
  exact ⟨.ref s.heap.objs.size,_,I2,rfl,⟨_,x,I.hok.fresh (Nat.le_refl _),rfl,rfl,fun xs' h=>by rw [I.list_inj h hq1];exact hx⟩,⟨⟨_,z8⟩,z2.at fun o q=>up _ o (Ne.symm hne) q⟩,hTH⟩
 done:=by
  intro X hP hw hK hc i pins s σ H E I hf st hg
  subst hP hw hK
  obtain ⟨xs,hq1,hl⟩:=hg
  obtain ⟨⟨old,hz⟩,h1⟩:=st
  obtain ⟨its,rv,p,_⟩:=I.list hq1
  have e1:=rv.length
  refine wpAny_pyNext_enum_end (I.ok.hd hc) hz h1 p.isList (by simp;lia) fun h' z7=>⟨rfl,?_⟩
  obtain ⟨f0,f1,f2,f3,f4,f5⟩:=hf it (by simp)
  exact I.turned (t':=s.toks) (fun b o hb q=>z7 b o hb q) f0 f1 f3 f4 f5
 self:=fun _ _ _ _ _ st h=>wpAny_pyIter_enum st.1.choose_spec h
section
variable {X:Cx}
noncomputable def Fg (K:W.Frag) (ta:TA):TI:=fun σ H R=>ta σ H fun vs H1=>match vs with
 | [.ref a]=>(∃ xs,SqL K H1 a xs)/\R (Ite K a) H1
 | _=>False
theorem K1 {K:W.Frag} {a:Expr} {ta:TA} {p pos:Pos} {es:List Expr} {kt:Nat} {tpos:Pos} (hg:Gl X "enumerate") (hm:X.mg "enumerate" = none) (ha:PA X [a] ta)
 (hs:starEach [a] X.env=[(false,eval a X.env)]:=by rfl) (hK:X.K=K:=by rfl) :
 PI X (.Tuple es kt tpos) (.Call (.Name "enumerate" p) [a] [] pos) (Fg K ta):=by
 subst hK
 intro pins s σ H R I h
 refine Call_ (BZ I hg hm (by rfl:bootBuiltins "enumerate" = some (.type "enumerate")) (PyProof.Rows.callWith_type1 (thn (ha pos pins s σ H _ I h) fun us s1 ⟨vs,H1,I1,r1,q1⟩=>?_) (by rw [hs];rfl) (by rfl)))
 match vs,q1,r1 with
 | [.ref l1],⟨⟨xs,hx⟩,q⟩,r1 =>
 cases r1 with
 | cons r rr =>
 cases rr
 cases r
 obtain ⟨its,rv,p1,_⟩:=I1.list hx
 refine call_enumerate_list p1.isList fun h' z1 z2 z3 z4=>?_
 refine wpAny_pyIter_enum (s:={ s1 with heap:=h' }) z1 ?_
 have I2:Inv X pins σ H1 { s1 with heap:=h' }:=I1.kept (t':=s1.toks) z4
 refine ⟨_,_,_,_,H1,rfl,I2,Ki (l:=l1) (it:=s1.heap.objs.size) (Nat.ne_of_gt (Nat.lt_succ_self _)),⟨⟨_,z1⟩,z2⟩,fun b hb=>?_,q⟩
 refine I1.fpOk ?_ (I1.hok.fresh ?_)
 all_goals
  simp only [List.mem_cons,List.mem_nil_iff,or_false] at hb
  rcases hb with rfl | rfl
  ·exact Nat.le_succ _
  ·exact Nat.le_refl _
theorem Kl {K:W.Frag} {ta:TA} (h:BA ta):Ba (Fg K ta):=fun σ H Q Q' k q=>h _ _ _ _ (fun vs _ q=>by
 match vs,q with
 | [.ref a],⟨h1,q⟩=>exact ⟨h1,k _ _ q⟩) q
end
noncomputable def TyS (K:W.Frag) (H:Hp) (x:V) (t:String):Prop:=match x with
 | .int _=>t = "int"
 | .bl _=>t = "bool"
 | .ref a=>(t = "tuple" /\ ∃ xs,SqT K H a xs)\/(t = "list" /\ ∃ xs,SqL K H a xs)
 | _=>False
noncomputable def AT (t T:String):Bool:=t == T || (t == "bool" && T == "int")
section
variable {X:Cx} {K:W.Frag}
theorem KI {pins:List (Addr × Obj)} {σ:St} {H:Hp} {s:Shared} {x:V} {u:Value} {t:String} (I:Inv X pins σ H s) (rx:RelV x u) (h:TyS X.K H x t) :
 (t = "int" \/ t = "bool" \/ t = "tuple" \/ t = "list")/\u≠Value.builtin "__main__.__loader__#opaque" /\ ∃ Hh:Heap->Prop,PySem.W.KitX X.K u (.type t) Hh/\Hh s.heap:=by
 cases x with
 | int i =>
  obtain ⟨k,rfl⟩:=(show ∃ t,u=Value.int i t from rx)
  cases (show t = "int" from h)
  exact ⟨.inl rfl,(fun z=>nomatch z),_,PySem.W.kitx_int,True.intro⟩
 | bl b =>
  cases (show u=Value.bool b from rx)
  cases (show t = "bool" from h)
  exact ⟨.inr (.inl rfl),(fun z=>nomatch z),_,PySem.W.kitx_bool,True.intro⟩
 | ref a =>
  cases (show u=Value.ref a from rx)
  rcases h with ⟨rfl,xs,hq⟩ | ⟨rfl,xs,hq⟩
  ·obtain ⟨its,rv,p,_⟩:=I.tuple hq
   obtain ⟨o,h1,h2,_⟩:=p
   exact ⟨.inr (.inr (.inl rfl)),(fun z=>nomatch z),_,PySem.W.kitx_tuple,⟨o,h1,h2⟩⟩
  ·obtain ⟨its,rv,p,_⟩:=I.list hq
   obtain ⟨o,n,h1,h2,_⟩:=p
   exact ⟨.inr (.inr (.inr rfl)),(fun z=>nomatch z),_,PySem.W.kitx_list,⟨o,h1,h2⟩⟩
 | _=>exact False.elim h
end
mutual
noncomputable def pyD:Dv->PyData
 | .non=>.none
 | .bl b=>.bool b
 | .int i=>.int i
 | .str x=>.str x
 | .tup ds=>.tuple (Af ds)
 | .lst ds=>.list (Af ds)
noncomputable def Af:List Dv->List PyData
 | []=>[]
 | d::ds=>pyD d::Af ds
end
noncomputable def DY (i:Int):Bool:=decide (i.natAbs.log2 < 1900)
mutual
theorem GD:∀ d:Dv,(pyD d).depth=AF d
 | .non=>by simp [pyD,AF,PyData.depth]
 | .bl _=>by simp [pyD,AF,PyData.depth]
 | .int _=>by simp [pyD,AF,PyData.depth]
 | .str _=>by simp [pyD,AF,PyData.depth]
 | .tup ds=>by simp [pyD,AF,PyData.depth,Ec ds]
 | .lst ds=>by simp [pyD,AF,PyData.depth,Ec ds]
theorem Ec:∀ ds:List Dv,PyData.depthAll (Af ds)=AR ds
 | []=>by simp [Af,AR,PyData.depthAll]
 | d::ds=>by simp [Af,AR,PyData.depthAll,GD d,Ec ds]
end
mutual
theorem Fo:∀ d:Dv,(pyD d).hasDict=false
 | .non=>by simp [pyD,PyData.hasDict]
 | .bl _=>by simp [pyD,PyData.hasDict]
 | .int _=>by simp [pyD,PyData.hasDict]
 | .str _=>by simp [pyD,PyData.hasDict]
 | .tup ds=>by simp [pyD,PyData.hasDict,EK ds]
 | .lst ds=>by simp [pyD,PyData.hasDict,EK ds]
theorem EK:∀ ds:List Dv,PyData.hasDictAll (Af ds)=false
 | []=>by simp [Af,PyData.hasDictAll]
 | d::ds=>by simp [Af,PyData.hasDictAll,Fo d,EK ds]
end
noncomputable def Av (d:Dv):Str:=(pyD d).shown
section
variable {X:Cx} {pins:List (Addr × Obj)} {σ:St} {H:Hp} {s:Shared}
mutual
theorem G1 (I:Inv X pins σ H s):∀ (d:Dv) (x:V) (u:Value),Rep X.K H d x->RelV x u->∃ as,Reads s.heap u (pyD d) as
 | .non,x,u,h,r=>by unfold Rep at h;subst h;cases r;exact ⟨_,by rw [pyD];exact .none⟩
 | .bl b,x,u,h,r=>by unfold Rep at h;subst h;cases r;exact ⟨_,by rw [pyD];exact .bool b⟩
 | .int i,x,u,h,r=>by unfold Rep at h;subst h;obtain ⟨t,rfl⟩:=r;exact ⟨_,by rw [pyD];exact .int i t⟩
 | .str y,x,u,h,r=>by unfold Rep at h;subst h;obtain ⟨t,rfl⟩:=r;exact ⟨_,by rw [pyD];exact .str y t⟩
 | .tup ds,x,u,h,r=>by
  unfold Rep at h
  obtain ⟨a,xs,rfl,hs,hr⟩:=h
  cases r
  obtain ⟨its,rv,⟨o,h1,h2,n,h3⟩,_⟩:=I.tuple hs
  obtain ⟨as,ha⟩:=EW I ds xs its hr rv
  exact ⟨as,by rw [pyD];exact .tuple h1 h2 h3 ha⟩
 | .lst ds,x,u,h,r=>by
  unfold Rep at h
  obtain ⟨a,xs,rfl,hs,hr⟩:=h
  cases r
  obtain ⟨its,rv,p,_⟩:=I.list hs
  obtain ⟨o,h1,h2,n,h3⟩:=p.isList
  obtain ⟨as,ha⟩:=EW I ds xs its hr rv
  exact ⟨_,by rw [pyD];exact .list h1 h2 h3 ha⟩
theorem EW (I:Inv X pins σ H s):∀ (ds:List Dv) (xs:List V) (us:List Value),Reps X.K H ds xs->Vals xs us->∃ as,ReadsAll s.heap us (Af ds) as
 | [],xs,us,h,r=>by unfold Reps at h;subst h;cases r;exact ⟨_,by rw [Af];exact .nil⟩
 | d::ds,xs,us,h,r=>by
  unfold Reps at h
  obtain ⟨x,l,rfl,h1,h2⟩:=h
  cases r with
  | cons r1 r2 =>
  obtain ⟨as,ha⟩:=G1 I d x _ h1 r1
  obtain ⟨bs,hb⟩:=EW I ds l _ h2 r2
  exact ⟨_,by rw [Af];exact .cons ha hb⟩
end
end
section
variable {X:Cx} {K:W.Frag}
end
open AutoSeq1 (wpAny_loadPart')
section
variable {prog:Program} {w:World} {A:Around} {E:Value->Shared->Prop} {s:Shared}
theorem J5 {j tp:Addr} {k:Nat} {its:Array Value} {z:Value} {Q:Value->Shared->Prop} (hj:s.heap.IsTupleIter j tp k) (hp:s.heap.IsTuple tp its) (hz:its[k]? = some z)
 (q:∀ h',h'.IsTupleIter j tp (k+1)->Heap.SameBut j s.heap h'->Q z { s with heap:=h' }):wpAny (model prog w) A (Builtin.SmallTypes.nextOf (.ref j)) Q E s:=by
 obtain ⟨ob,g1,g2,g3⟩:=id hj
 obtain ⟨ol,k1,_,nl,k3⟩:=hp
 unfold Builtin.SmallTypes.nextOf
 refine wpAny_bind (wpAny_callSpecial?_slot (name:=Str.ofString "__next__") hj.typeIs F.slot_tuple_iterator_next (wpAny_call_entry F.slot_tuple_iterator_next hj.typeIs F.entry_tuple_iterator_next ?_ (F.args_tuple_iterator_next_1 _)))
 show wpAny _ _ (field (.ref j) 0 >>= _) _ _ s
 refine wpAny_bind (wpAny_field g1 g3 (x:=.ref tp) rfl ?_)
 show wpAny _ _ (if (Value.ref tp == Value.none)=true then _ else _) _ _ s
 rw [if_neg (c:=(Value.ref tp == Value.none)=true) (fun z=>Bool.false_ne_true z)]
 show wpAny _ _ (field (.ref j) 1 >>= _) _ _ s
 refine wpAny_bind (wpAny_field g1 g3 (x:=.int k 0) rfl ?_)
 show wpAny _ _ (seqItems? (.ref tp) >>= _) _ _ s
 refine wpAny_bind (wpAny_seqItems k1 k3 ?_)
 simp only [Int.toNat_natCast,hz]
 refine wpAny_bind (wpAny_setField g1 g3 (by simp) (wpAny_pure ⟨z,rfl,wpAny_pure (q _ ?_ (Heap.SameBut.update ..))⟩))
 refine ⟨_,Heap.get?_update_self _ g1 (Obj.isFreed_of_fields (Obj.data_mapFields g3 _)),(Obj.cls_mapFields ..).trans g2,?_⟩
 rw [Obj.data_mapFields g3]
 simp [rawInt]
theorem Gu {j tp:Addr} {k:Nat} {its:Array Value} {Q:Value->Shared->Prop} (hh:A.handled=none) (hj:s.heap.IsTupleIter j tp k) (hp:s.heap.IsTuple tp its) (hz:its[k]? = none)
 (q:∀ h' e,Heap.ExtBut j s.heap h'->(∃ o,h'.get? e=some o/\o.cls=.type "StopIteration")->E (.ref e) { s with heap:=h' }):wpAny (model prog w) A (Builtin.SmallTypes.nextOf (.ref j)) Q E s:=by
 obtain ⟨ob,g1,g2,g3⟩:=id hj
 obtain ⟨ol,k1,_,nl,k3⟩:=hp
 unfold Builtin.SmallTypes.nextOf
 refine wpAny_bind (wpAny_callSpecial?_slot (name:=Str.ofString "__next__") hj.typeIs F.slot_tuple_iterator_next (wpAny_call_entry F.slot_tuple_iterator_next hj.typeIs F.entry_tuple_iterator_next ?_ (F.args_tuple_iterator_next_1 _)))
 show wpAny _ _ (field (.ref j) 0 >>= _) _ _ s
 refine wpAny_bind (wpAny_field g1 g3 (x:=.ref tp) rfl ?_)
 show wpAny _ _ (if (Value.ref tp == Value.none)=true then _ else _) _ _ s
 rw [if_neg (c:=(Value.ref tp == Value.none)=true) (fun z=>Bool.false_ne_true z)]
 show wpAny _ _ (field (.ref j) 1 >>= _) _ _ s
 refine wpAny_bind (wpAny_field g1 g3 (x:=.int k 0) rfl ?_)
 show wpAny _ _ (seqItems? (.ref tp) >>= _) _ _ s
 refine wpAny_bind (wpAny_seqItems k1 k3 ?_)
 simp only [Int.toNat_natCast,hz]
 refine wpAny_bind (wpAny_rule (wpAny_bind (wpAny_setField g1 g3 (by simp) ?_)))
 show wpAny _ _ (newExc (.type "StopIteration") [] >>= fun z=>_) _ _ _
 refine wpAny_bind ?_
 simp only [newExc,newTuple]
 refine wpAny_bind (wpAny_newObj_type (hd:=by size_fits) ?_)
 refine wpAny_bind (m:=firstArgMember _ _) (wpAny_of_eq (a:=Value.none) (by first | (simp only [firstArgMember];rfl) | rfl) ?_)
 refine wpAny_newObj_type (hd:=by size_fits) ?_
 simp only [raiseNew]
 refine wpAny_bind (wpAny_handled ?_)
 first | rw [hh] | rw [show A.in1.handled=none from hh]
 refine wpAny_bind (wpAny_pure (wpAny_throw ?_))
 exact q _ _ (((Heap.SameBut.update ..).extBut.push _).push _) ⟨_,Heap.get?_push_size _ rfl,rfl⟩
theorem Kt (hh:A.handled=none) (j tp:Addr) (hne:tp≠j) (its:Array Value) :
 Draws prog w A j [j,tp] its.size (fun k v=>its[k]? = some v) (fun k h=>h.IsTupleIter j tp k/\h.IsTuple tp its) where
 live:=fun _ _ st=>by obtain ⟨⟨o,ho,_⟩,_⟩:=st;exact ⟨o,ho⟩
 frame:=fun _ _ _ st hk=>by
  obtain ⟨st1,o,h1,h2⟩:=st
  exact ⟨st1.at fun o e=>hk j (by simp) o e,o,hk tp (by simp) o h1,h2⟩
 item:=fun k s Q E hi st hQ=>by
  refine J5 st.1 st.2 (z:=its[k]) (by simp [hi]) fun h' h1 h2=>?_
  exact hQ _ h' s.toks (by simp [hi]) ⟨h1,st.2.extBut h2.extBut hne⟩ h2
 done:=fun s Q E st hE=>Gu hh st.1 st.2 (by simp) hE
theorem MA (tp:Addr) (its:Array Value) (n:Nat) (dct:Option Addr) (sl:Array (Option Value)) :
 Meets (Builtin.«enumerate.__new__» ⟨[.type "enumerate",.ref tp],[]⟩) (fun _ R s=>s.heap.get? tp=some { cls:=.type "tuple",dict:=dct,data:=.seq its n,slots:=sl } /\
  R (.ok (.ret (.ref (s.heap.push { cls:=.type "tuple_iterator",data:=.fields #[.ref tp,.int 0 0] }).objs.size)))
   { s with heap:=(s.heap.push { cls:=.type "tuple_iterator",data:=.fields #[.ref tp,.int 0 0] }).push { cls:=.type "enumerate",data:=.fields #[.none,.bool false,.ref s.heap.objs.size,rawInt 0,.none,.none] } }) :=
 .of_wp fun prog w A R s h=>by
  obtain ⟨hp,g,d,tk,os⟩:=s
  obtain ⟨hl,h⟩:=h
  have hsub:=sub_enumerate
  have ht:Heap.IsTuple (Shared.heap ⟨hp,g,d,tk,os⟩) tp its:=⟨_,hl,rfl,n,rfl⟩
  wp_walk using wpAny_loadPart' hl
  refine wpAny_stack_any fun st=>wpAny_pure ?_
  split
  ·rename_i c _ _ _ _ _
   cases (c == Value.type "enumerate") <;> (wp_walk using wpAny_loadPart' hl,wpAny_pyIter_tuple ht;exact ⟨_,rfl,h⟩)
  ·wp_walk using wpAny_loadPart' hl,wpAny_pyIter_tuple ht
   exact ⟨_,rfl,h⟩
theorem Jf {tp:Addr} {its:Array Value} {Q:Value->Shared->Prop} (ht:s.heap.IsTuple tp its)
 (h:∀ h',IsEnum h' (s.heap.objs.size+1) s.heap.objs.size 0 .none->h'.IsTupleIter s.heap.objs.size tp 0->(∀ b o,s.heap.get? b=some o->h'.get? b=some o)->Q (.ref (s.heap.objs.size+1)) { s with heap:=h' }) :
 wpAny (model prog w) A (call (.type "enumerate") [.ref tp]) Q E s:=by
 obtain ⟨⟨c,dct,dt,sl⟩,hl,hc,n,hd⟩:=ht
 cases (show c=.type "tuple" from hc)
 cases (show dt=.seq its n from hd)
 refine callType_new F.called_enumerate (by decide) (F.typeCall_enumerate_1 _) (F.newCall_enumerate_1 _) (fun obj=>F.args_object_init_2 obj _) F.entry_enumerate_new (MA tp its n dct sl) ⟨hl,?_⟩
 have z1:(s.heap.push { cls:=.type "tuple_iterator",data:=.fields #[.ref tp,.int 0 0] }).objs.size=s.heap.objs.size+1:=Heap.size_push ..
 show _/\_
 rw [z1]
 have z2:=Heap.get?_push_size (s.heap.push { cls:=.type "tuple_iterator",data:=.fields #[.ref tp,.int 0 0] }) (o:={ cls:=.type "enumerate",data:=.fields #[.none,.bool false,.ref s.heap.objs.size,rawInt 0,.none,.none] }) rfl
 rw [z1] at z2
 have z3:IsEnum _ (s.heap.objs.size+1) s.heap.objs.size 0 .none:=z2
 exact ⟨⟨_,z2,rfl⟩,h _ z3 ⟨_,Heap.get?_push_of_some _ (Heap.get?_push_size _ rfl),rfl,rfl⟩ fun b o x=>Heap.get?_push_of_some _ (Heap.get?_push_of_some _ x)⟩
end
noncomputable def Ch (K:W.Frag) (l:Addr):It :=
 ⟨fun i H=>∃ xs x,SqT K H l xs/\xs[i]? = some x,
  fun i H v H'=>∃ p x,H p=none/\v=.ref p/\H'=upd H p (.tup [.int i,x])/\∀ xs,SqT K H l xs->xs[i]? = some x,
  fun i H=>∃ xs,SqT K H l xs/\xs.length<=i⟩
theorem Jv {P:Program} {w:World} {K:W.Frag} {es:List Expr} {kt:Nat} {tpos:Pos} {e it l:Addr} (hne:e≠it) :
 Turn P w K (.Tuple es kt tpos) (Ch K l) [e,it] e (fun i h=>(∃ old,IsEnum h e it (i:Int) old)/\h.IsTupleIter it l i) where
 mem:=by simp
 obj:=fun i h st b hb=>by
  obtain ⟨⟨old,hz⟩,⟨o1,e1,c1,d1⟩⟩:=st
  simp only [List.mem_cons,List.mem_nil_iff,or_false] at hb
  rcases hb with rfl | rfl
  ·exact ⟨_,hz,fun v q=>nomatch q⟩
  ·exact ⟨o1,e1,fun v q=>by rw [d1] at q;cases q⟩
 keep:=fun i h h' ⟨⟨old,hz⟩,h1⟩ k=>⟨⟨old,k e (by simp) _ hz⟩,h1.at fun o q=>k it (by simp) o q⟩
 item:=by
  intro X hP hw hK hc i pins s σ H E I hf st hg
  subst hP hw hK
  obtain ⟨xs,x,hq1,hx⟩:=hg
  obtain ⟨⟨old,hz⟩,h1⟩:=st
  obtain ⟨its,rv,p,_⟩:=I.tuple hq1
  obtain ⟨u,hu,ru⟩:=rv.get hx
  have hp:s.heap.IsTuple l its.toArray:=p
  have le:l≠e:=fun q=>by obtain ⟨o,g1,g2,_⟩:=hp;rw [q] at g1;rw [show s.heap.get? e=_ from hz] at g1;cases g1;exact absurd (show Value.type "enumerate" = Value.type "tuple" from g2) (by decide)
  have li:l≠it:=fun q=>by obtain ⟨o,g1,g2,_⟩:=hp;obtain ⟨o',g3,g4,_⟩:=h1;rw [q,g3] at g1;cases g1;rw [g4] at g2;exact absurd g2 (by decide)
  refine wpAny_pyNext_enum_itemD (Kt (A:=X.A.in1) (show X.A.in1.handled=none from I.ok.hd hc) it l li its.toArray) hz ⟨h1,hp⟩ ?_ hne (by simp [hne,Ne.symm le]) fun y h' tk py z1 z2' z3 z4 z5=>?_
  ·have:=(List.getElem?_eq_some_iff.mp hu).1
   simpa using this
  obtain ⟨z2,_⟩:=z2'
  have ey:y=u:=by
   have:its.toArray[i]? = some u:=by simpa using hu
   rw [this] at py
   exact (Option.some.inj py).symm
  subst ey
  refine ⟨_,rfl,?_⟩
  have z5':∀ b v,b∉[e,it]->s.heap.get? b=some v->h'.get? b=some v:=fun b v hb q=>by
   simp only [List.mem_cons,List.mem_nil_iff,or_false,not_or] at hb
   exact z5 b v hb.1 hb.2 q
  have I1:Inv X pins σ (upd H s.heap.objs.size (.tup [.int i,x])) { s with heap:=h' }:=by
   refine I.turnedNew (ch:=[e,it]) (fun b hb=>hf b hb) (Nat.le_refl _) z5' ?_ fun b hb=>?_
   ·exact ⟨AU (show 2<=1000 by decide),[.int i tk,y],.cons ⟨_,rfl⟩ (.cons ru .nil),⟨_,z3,rfl,⟨_,rfl⟩,rfl⟩⟩
   ·simp only [List.mem_cons,List.mem_nil_iff,or_false] at hb
    rcases hb with rfl | rfl
    ·exact ⟨_,z1⟩
    ·obtain ⟨o,q,_⟩:=z2;exact ⟨o,q⟩
  refine wpAny_letOwnedTupleGo_enum (s:={ s with heap:=h',toks:=tk+1 }) z1 fun h'' z8 z9=>?_
  have hfz:=hf e (by simp)
  have neT:∀ b,b∈[e,it]->b≠s.heap.objs.size:=fun b hb q=>by
   have st':∃ o,s.heap.get? b=some o:=by
    simp only [List.mem_cons,List.mem_nil_iff,or_false] at hb
    rcases hb with rfl | rfl
    ·exact ⟨_,hz⟩
    ·obtain ⟨o,q,_⟩:=h1;exact ⟨o,q⟩
   obtain ⟨o,ho⟩:=st'
   have:=Heap.lt_size ho
   rw [q] at this
   exact Nat.lt_irrefl _ this
  have hTH:∀ b∈[e,it],upd H s.heap.objs.size (.tup [.int i,x]) b=none:=fun b hb=>by rw [AD (neT b hb)];exact (hf b hb).1
  have I2:Inv X pins σ (upd H s.heap.objs.size (.tup [.int i,x])) { s with heap:=h'',toks:=tk+1 } :=
   I1.turned (t':=tk+1) (fun b o hb q=>(z9.2 b hb).trans q) (hTH e (by simp)) hfz.2.1 hfz.2.2.2.1 hfz.2.2.2.2.1 hfz.2.2.2.2.2
  have up:∀ b o,b≠e->h'.get? b=some o->h''.get? b=some o:=fun b o hb q=>(z9.2 b hb).trans q
  exact ⟨.ref s.heap.objs.size,_,I2,rfl,⟨_,x,I.hok.fresh (Nat.le_refl _),rfl,rfl,fun xs' h=>by rw [I.tuple_inj h hq1];exact hx⟩,⟨⟨_,z8⟩,z2.at fun o q=>up _ o (Ne.symm hne) q⟩,hTH⟩
 done:=by
  intro X hP hw hK hc i pins s σ H E I hf st hg
  subst hP hw hK
  obtain ⟨xs,hq1,hl⟩:=hg
  obtain ⟨⟨old,hz⟩,h1⟩:=st
  obtain ⟨its,rv,p,_⟩:=I.tuple hq1
  have e1:=rv.length
  have hp:s.heap.IsTuple l its.toArray:=p
  have hT:s.TypeIs (.ref e) "enumerate":=⟨_,hz,rfl⟩
  unfold pyNext
  refine wpAny_bind (wpAny_attempt (wpAny_callSpecial?_slot (name:=Str.ofString "__next__") hT F.slot_enumerate_next (wpAny_call_entry F.slot_enumerate_next hT F.entry_enumerate_next ?_ (F.args_enumerate_next_1 _))))
  show wpAny _ _ (field (.ref e) 2 >>= fun z=>_) _ _ _
  refine wpAny_bind (wpAny_field hz rfl (x:=.ref it) rfl ?_)
  refine wpAny_bind (Gu (by first | exact I.ok.hd hc | simpa using I.ok.hd hc) h1 hp (by simp;lia) fun h' x z7 hx'=>?_)
  obtain ⟨o,ho,hcl⟩:=hx'
  refine wpAny_bind (wpAny_isInstance (T:="StopIteration") (b:=true) ⟨o,ho,hcl⟩ isSubtype_stop (wpAny_pure ⟨rfl,?_⟩))
  obtain ⟨f0,f1,f2,f3,f4,f5⟩:=hf it (by simp)
  exact I.turned (t':=s.toks) (fun b o hb q=>z7 b o hb q) f0 f1 f3 f4 f5
 self:=fun _ _ _ _ _ st h=>wpAny_pyIter_enum st.1.choose_spec h
section
variable {X:Cx}
noncomputable def FU (K:W.Frag) (ta:TA):TI:=fun σ H R=>ta σ H fun vs H1=>match vs with
 | [.ref a]=>(∃ xs,SqT K H1 a xs)/\R (Ch K a) H1
 | _=>False
theorem Jg {K:W.Frag} {a:Expr} {ta:TA} {p pos:Pos} {es:List Expr} {kt:Nat} {tpos:Pos} (hg:Gl X "enumerate") (hm:X.mg "enumerate" = none) (ha:PA X [a] ta)
 (hs:starEach [a] X.env=[(false,eval a X.env)]:=by rfl) (hK:X.K=K:=by rfl) :
 PI X (.Tuple es kt tpos) (.Call (.Name "enumerate" p) [a] [] pos) (FU K ta):=by
 subst hK
 intro pins s σ H R I h
 refine Call_ (BZ I hg hm (by rfl:bootBuiltins "enumerate" = some (.type "enumerate")) (PyProof.Rows.callWith_type1 (thn (ha pos pins s σ H _ I h) fun us s1 ⟨vs,H1,I1,r1,q1⟩=>?_) (by rw [hs];rfl) (by rfl)))
 match vs,q1,r1 with
 | [.ref l1],⟨⟨xs,hx⟩,q⟩,r1 =>
 cases r1 with
 | cons r rr =>
 cases rr
 cases r
 obtain ⟨its,rv,p1,_⟩:=I1.tuple hx
 refine Jf (its:=its.toArray) p1 fun h' z1 z2 z4=>?_
 refine wpAny_pyIter_enum (s:={ s1 with heap:=h' }) z1 ?_
 have I2:Inv X pins σ H1 { s1 with heap:=h' }:=I1.kept (t':=s1.toks) z4
 refine ⟨_,_,_,_,H1,rfl,I2,Jv (l:=l1) (it:=s1.heap.objs.size) (Nat.ne_of_gt (Nat.lt_succ_self _)),⟨⟨_,z1⟩,z2⟩,fun b hb=>?_,q⟩
 refine I1.fpOk ?_ (I1.hok.fresh ?_)
 all_goals
  simp only [List.mem_cons,List.mem_nil_iff,or_false] at hb
  rcases hb with rfl | rfl
  ·exact Nat.le_succ _
  ·exact Nat.le_refl _
theorem Lw {K:W.Frag} {ta:TA} (h:BA ta):Ba (FU K ta):=fun σ H Q Q' k q=>h _ _ _ _ (fun vs _ q=>by
 match vs,q with
 | [.ref a],⟨h1,q⟩=>exact ⟨h1,k _ _ q⟩) q
end
structure Feed (H:Hp) (t:Addr):Prop where
 at_:∃ a b k c:Int,0<=a/\H t=some (.lst [.int a,.int b,.int k,.int c])
theorem Feed.same {H H':Hp} {t:Addr} (F:Feed H t) (h:Same H H'):Feed H' t:=by
 obtain ⟨a,b,k,c,h1,h2⟩:=F.at_
 exact ⟨a,b,k,c,h1,h _ _ h2⟩
theorem Feed.upd {H:Hp} {t p:Addr} {o:HO} (F:Feed H t) (h:H p=none):Feed (L2.upd H p o) t:=F.same (Same.upd h)
theorem Feed.free {H H':Hp} {t p:Addr} (F:Feed H' t) (h:Frm t H H') (hp:H' p=none):H p=none:=by
 cases e:H p with
 | none=>rfl
 | some o =>
  by_cases hpt:p=t
  ·subst hpt
   obtain ⟨a,b,k,c,_,h3⟩:=F.at_
   rw [h3] at hp;cases hp
  ·rw [h p o hpt e] at hp;cases hp
theorem Same.sqT {K:W.Frag} {H H':Hp} {a:Addr} {xs:List V} (e:Same H H') (h:SqT K H a xs):SqT K H' a xs:=E1 h (fun o k=>e _ _ k)
theorem Same.sqL {K:W.Frag} {H H':Hp} {a:Addr} {xs:List V} (e:Same H H') (h:SqL K H a xs):SqL K H' a xs:=E2 h (fun o k=>e _ _ k)
noncomputable def Gx (f:Nat->Int):Nat->Int
 | 0=>0
 | n+1=>Gx f n+f n
noncomputable def chi:Nat->Nat->Nat->Int
 | 0,_,_=>1
 | n+1,a,b=>(if a % 2=1/\b % 2=1 then -1 else 1) * chi n (a / 2) (b / 2)
noncomputable def hs (v:Nat->Int) (s k:Nat):Int:=Gx (fun j=>chi s (k % 2 ^ s) j * v (k / 2 ^ s * 2 ^ s+j)) (2 ^ s)
noncomputable def HI:Nat->Nat->Nat
 | 0,_=>0
 | f+1,x=>x % 2+HI f (x / 2)
@[irreducible] noncomputable def Mj (x:Nat):Nat:=HI 64 x
noncomputable def DD (q:Nat × Int):Dv:=.tup [.int q.1,.int q.2]
noncomputable def Cp (m:Nat) (ts:List (Nat × Int)):Dv:=.tup [.int m,.tup (ts.map DD)]
structure SumAt (K:W.Frag) (H:Hp) (v:V) (m:Nat) (ts:List (Nat × Int)):Prop where
 at_:∃ (a b:Addr) (vs:List V),v=.ref a/\SqT K H a [.int m,.ref b]/\SqT K H b vs/\Reps K H (ts.map DD) vs
theorem SumAt.of {K:W.Frag} {H:Hp} {v:V} {m:Nat} {ts:List (Nat × Int)} (h:Rep K H (Cp m ts) v):SumAt K H v m ts:=by
 unfold Cp Rep at h
 obtain ⟨a,xs,rfl,ha,hr⟩:=h
 unfold Reps at hr
 obtain ⟨x,r,rfl,h1,hr⟩:=hr
 unfold Rep at h1;subst h1
 unfold Reps at hr
 obtain ⟨x,r,rfl,h2,hr⟩:=hr
 unfold Reps at hr;subst hr
 unfold Rep at h2
 obtain ⟨b,vs,rfl,hb,hr⟩:=h2
 exact ⟨a,b,vs,rfl,ha,hb,hr⟩
theorem SumAt.rep {K:W.Frag} {H:Hp} {v:V} {m:Nat} {ts:List (Nat × Int)} (h:SumAt K H v m ts):Rep K H (Cp m ts) v:=by
 obtain ⟨a,b,vs,rfl,ha,hb,hr⟩:=h.at_
 unfold Cp Rep
 refine ⟨a,_,rfl,ha,AS Bd (AS ?_ Aa)⟩
 unfold Rep
 exact ⟨b,vs,rfl,hb,hr⟩
theorem SumAt.same {K:W.Frag} {H H':Hp} {v:V} {m:Nat} {ts:List (Nat × Int)} (h:SumAt K H v m ts) (s:Same H H'):SumAt K H' v m ts:=.of (Rep.same s _ _ h.rep)
theorem FV:∀ ts:List (Nat × Int),An (ts.map DD)=true
 | []=>by unfold An;rfl
 | q::ts=>by
  rw [List.map_cons]
  unfold An
  rw [FV ts]
  unfold DD BL An BL An BL An
  rfl
theorem Feed.lst {H:Hp} {t:Addr} (F:Feed H t):∃ zs,H t=some (.lst zs):=by
 obtain ⟨a,b,k,c,_,h⟩:=F.at_
 exact ⟨_,h⟩
theorem SumAt.frm {K:W.Frag} {H H':Hp} {t:Addr} {v:V} {m:Nat} {ts:List (Nat × Int)} (S:SumAt K H v m ts) (F:Feed H t) (f:Frm t H H'):SumAt K H' v m ts:=by
 refine .of (Rep.frm f F.lst _ _ ?_ S.rep)
 have e:=FV ts
 simp [Cp,BL,An,e]
section
variable {X:Cx} {K:W.Frag}
end
noncomputable def Ex (H:Hp) (Q:VK) (xs:List V):Prop:=∀ p H',H p=none->Same H H'->H' p=some (.lst xs)->Q (.ref p) H'
theorem BG {H:Hp} {Q Q':VK} {xs:List V} (h:∀ v H,Q v H->Q' v H) (q:Ex H Q xs):Ex H Q' xs:=fun p H' a b c=>h _ _ (q p H' a b c)
end L2
namespace HT
open PySem PyProof.Rows
section
variable {prog:Program} {w:World} {A:Around} {E:Value->Shared->Prop} {s:Shared}
end
end HT
namespace L2
open PySem PySem.Spec PyProof.Rows
section
variable {X:Cx} {K:W.Frag} {e sx:Expr} {te ts:TE} {lo hi:Option Expr} {tl th:TO} {pos p2:Pos}
noncomputable def mIs (neg:Bool):R2:=fun x y H Q=>match x,y with
 | .bl a,.bl b=>Q (.bl (neg ^^ (a == b))) H
 | x,.non=>Q (.bl (neg ^^ decide (x=.non))) H
 | _,_=>False
theorem Mi:OpR X (compareOp .IsNot) (mIs true):=by
 intro pins s σ H x y v u Q I rx ry h
 unfold mIs at h
 split at h
 ·cases rx;cases ry
  rename_i a b
  exact wpAny_of_eq (show compareOp .IsNot (.bool a) (.bool b)=pure (.bool (!(a == b))) by cases a <;> cases b <;> rfl) ⟨.bl (!(a == b)),H,I,rfl,by rw [Bool.true_xor] at h;exact h⟩
 ·exact Iw pins s σ H _ _ v u Q I rx ry ⟨rfl,by rw [Bool.true_xor] at h;exact h⟩
 ·exact h.elim
theorem Hq {neg:Bool}:A3 (mIs neg):=fun x y H Q Q' h q=>by
 unfold mIs at *
 split at q
 ·exact h _ _ q
 ·exact h _ _ q
 ·exact q.elim
end
structure GFeed (H:Hp) (t:Addr) (N:Nat):Prop where
 at_:∃ (l:Addr) (i g c:Int) (ns:List Int),0<=i/\0<=g/\0<=c/\c<=N/\H t=some (.lst [.ref l,.int i,.int g,.int c])/\l≠t/\H l=some (.lst (ns.map V.int))/\ns.length≠0
theorem GFeed.same {H H':Hp} {t:Addr} {N:Nat} (F:GFeed H t N) (h:Same H H'):GFeed H' t N:=by
 obtain ⟨l,i,g,c,ns,h1,h2,h3,h4,h5,h6,h7,h8⟩:=F.at_
 exact ⟨l,i,g,c,ns,h1,h2,h3,h4,h _ _ h5,h6,h _ _ h7,h8⟩
theorem GFeed.upd {H:Hp} {t p:Addr} {o:HO} {N:Nat} (F:GFeed H t N) (h:H p=none):GFeed (L2.upd H p o) t N:=F.same (Same.upd h)
theorem GFeed.mono {H:Hp} {t:Addr} {N N':Nat} (F:GFeed H t N) (h:N<=N'):GFeed H t N':=by
 obtain ⟨l,i,g,c,ns,h1,h2,h3,h4,h5⟩:=F.at_
 exact ⟨l,i,g,c,ns,h1,h2,h3,by lia,h5⟩
theorem GFeed.lst {H:Hp} {t:Addr} {N:Nat} (F:GFeed H t N):∃ zs,H t=some (.lst zs):=by
 obtain ⟨l,i,g,c,ns,h1,h2,h3,h4,h5,_⟩:=F.at_
 exact ⟨_,h5⟩
theorem GFeed.neT {H:Hp} {t p:Addr} {N:Nat} (F:GFeed H t N) (hp:H p=none):p≠t:=fun e=>by
 obtain ⟨zs,h⟩:=F.lst
 rw [e,h] at hp;cases hp
theorem GFeed.free {H H':Hp} {t p:Addr} {N:Nat} (F:GFeed H' t N) (h:Frm t H H') (hp:H' p=none):H p=none:=by
 cases e:H p with
 | none=>rfl
 | some o =>
  by_cases hpt:p=t
  ·subst hpt
   obtain ⟨zs,h3⟩:=F.lst
   rw [h3] at hp;cases hp
  ·rw [h p o hpt e] at hp;cases hp
noncomputable def Co:Sp:=fun vs H Q _=>match vs with
 | [.ref t,.int m]=>∃ N,GFeed H t N/\N<=1000000000/\okDiv m/\∀ d H',0<=d->d < m->GFeed H' t (N+1)->(∀ b,b≠t->H' b=H b)->Q (.int d) H'
 | _=>False
theorem HN:AW Co:=fun vs H Q Q' E h q=>by
 unfold Co at *
 split at q
 ·obtain ⟨N,h1,h2,h3,q⟩:=q;exact ⟨N,h1,h2,h3,fun d H' a b c e=>h _ _ (q d H' a b c e)⟩
 ·exact q.elim
noncomputable def Eo (K:W.Frag):Sp:=fun vs H Q _=>match vs with
 | [.ref a]=>∃ ns:List Int,SqL K H a (ns.map V.int)/\∀ t H',H t=none->Same H H'->GFeed H' t 0->Q (.ref t) H'
 | _=>False
theorem FZ {K:W.Frag} {H:Hp}:∀ ns:List Int,Reps K H (ns.map Dv.int) (ns.map V.int)
 | []=>Aa
 | n::ns=>AS Bd (FZ ns)
theorem Gc:∀ ns:List Int,AR (ns.map Dv.int)=0
 | []=>by rw [List.map_nil];unfold AR;rfl
 | n::ns=>by rw [List.map_cons];unfold AR;rw [Gc ns];unfold AF;rfl
noncomputable def tyD:Dv->String
 | .non=>"NoneType"
 | .bl _=>"bool"
 | .int _=>"int"
 | .str _=>"str"
 | .tup _=>"tuple"
 | .lst _=>"list"
noncomputable def G2 (K:W.Frag):List V->Hp->VK->Prop:=fun xs H Q=>match xs with
 | [x,.ty T]=>T∈kinds/\∃ d,Rep K H d x/\Q (.bl (AT (tyD d) T)) H
 | _=>False
theorem Kg {K:W.Frag} {t T:String} (ht:t = "int" \/ t = "bool" \/ t = "tuple" \/ t = "list") (hT:T∈kinds):PySem.W.kitOne K (.type t) (.type T)=some (AT t T):=by
 unfold kinds at hT
 simp only [List.mem_cons,List.mem_nil_iff,or_false] at hT
 rcases ht with rfl | rfl | rfl | rfl <;> rcases hT with rfl | rfl | rfl | rfl | rfl | rfl <;> rfl
theorem IS {X:Cx}:CallR X (.builtin "isinstance") (G2 X.K):=by
 intro pins s σ H xs us Q I r q
 match xs,q with
 | [x,.ty T],q =>
  obtain ⟨hT,d,h,q⟩:=q
  have go:∀ t,TyS X.K H x t->Q (.bl (AT t T)) H->wpAny (model X.prog X.w) X.A (call (.builtin "isinstance") us) (EP X pins σ Q) X.xe s:=fun t ht hq=>by
   obtain ⟨u,w',rfl,ru,rw'⟩:=DF r
   cases rw'
   obtain ⟨ht,hn,Hh,k,hh⟩:=KI I ru ht
   exact PySem.W.kia_one k I.kIn hh (Kg ht hT) hn fun tk=>⟨.bl (AT t T),H,I.tok _,rfl,hq⟩
  have hT':=hT
  unfold kinds at hT'
  simp only [List.mem_cons,List.mem_nil_iff,or_false] at hT'
  cases d with
  | non =>
   unfold Rep at h;subst h
   refine GH pins s σ H _ us Q I r ⟨hT,_,rfl,?_⟩
   have e:(T == "NoneType")=AT (tyD .non) T:=by rcases hT' with rfl | rfl | rfl | rfl | rfl | rfl <;> rfl
   rw [e];exact q
  | str z =>
   unfold Rep at h;subst h
   refine GH pins s σ H _ us Q I r ⟨hT,_,rfl,?_⟩
   have e:(T == "str")=AT (tyD (.str z)) T:=by rcases hT' with rfl | rfl | rfl | rfl | rfl | rfl <;> rfl
   rw [e];exact q
  | bl b=>unfold Rep at h;subst h;exact go _ rfl q
  | int i=>unfold Rep at h;subst h;exact go _ rfl q
  | tup ds=>unfold Rep at h;obtain ⟨a,xs,rfl,hs,_⟩:=h;exact go _ (.inl ⟨rfl,xs,hs⟩) q
  | lst ds=>unfold Rep at h;obtain ⟨a,xs,rfl,hs,_⟩:=h;exact go _ (.inr ⟨rfl,xs,hs⟩) q
theorem B9 {X:Cx} {K:W.Frag} (hK:X.K=K:=by rfl):CallR X (.builtin "isinstance") (G2 K):=hK ▸ IS
theorem Bf {K:W.Frag} {H:Hp}:∀ bs:List Bool,Reps K H (bs.map Dv.bl) (bs.map V.bl)
 | []=>Aa
 | b::bs=>AS LA (Bf bs)
theorem CN {K:W.Frag} {H:Hp} {ds:List Dv} {v:V} (h:Rep K H (.tup ds) v):∃ a xs,v=.ref a/\SqT K H a xs/\Reps K H ds xs:=by unfold Rep at h;exact h
theorem GX:∀ bs:List Bool,An (bs.map Dv.bl)=true
 | []=>rfl
 | b::bs=>by
  show (true && An (bs.map Dv.bl))=true
  rw [GX bs];rfl
section
variable {X:Cx} {pins:List (Addr × Obj)} {σ:St} {H:Hp} {s:Shared}
theorem KV.get {kvs:List (Key × V)} {vs:List (Key × Value)} (r:KV kvs vs):∀ {i:Nat} {q:Key × V},kvs[i]? = some q->∃ v,vs[i]? = some (q.1,v)/\RelV q.2 v:=by
 induction r with
 | nil=>intro i q e;simp at e
 | @cons a b l1 l2 h t ih =>
  intro i q e
  cases i with
  | zero =>
   simp at e;subst e
   obtain ⟨b1,b2⟩:=b
   obtain ⟨h1,h2⟩:=h
   exact ⟨b2,by simp;exact h1.symm,h2⟩
  | succ i =>
   obtain ⟨v,h1,h2⟩:=ih (i:=i) (q:=q) (by simpa using e)
   exact ⟨v,by simpa using h1,h2⟩
end
section
variable {X:Cx} {K:W.Frag} {tg oe:Expr} {to:TE} {ts:List Expr} {kt:Nat} {tpos apos cpos:Pos}
end
end L2
namespace L2
open PySem PyProof.Rows
section
variable {prog:Program} {w:World} {A:Around} {E:Value->Shared->Prop} {s:Shared}
end
section
variable {X:Cx}
end
end L2
namespace L2
open PySem PySem.Spec PyProof.Rows
end L2
namespace L2
open PySem PySem.Spec PyProof.Rows PySem.W
open Att (Da GV J2)
noncomputable def CdO (a:Addr) (q:Str):HO:=.ext fun h=>h.CodeRec (.ref a) q
noncomputable def Lam (Pt:Addr) (pos:Pos) (q:Str) (H:Hp):Prop :=
 ∃ ps:Array Value,H Pt=some (.tbl ps)/\TriplesOk ps.toList/\(codeAmong pos ps.toList=none\/∃ c',codeAmong pos ps.toList=some (.ref c')/\H c'=some (CdO c' q))
noncomputable def Grow (Pt:Addr) (H H':Hp):Prop:=∀ b o,b≠Pt->H b=some o->H' b=some o
theorem Grow.trans {Pt:Addr} {H H1 H2:Hp} (a:Grow Pt H H1) (b:Grow Pt H1 H2):Grow Pt H H2:=fun c o n e=>b c o n (a c o n e)
theorem Grow.same {Pt:Addr} {H H':Hp} (h:Same H H'):Grow Pt H H':=fun b o _ e=>h b o e
theorem Lam.same {Pt:Addr} {pos:Pos} {q:Str} {H H':Hp} (l:Lam Pt pos q H) (h:Same H H'):Lam Pt pos q H':=by
 obtain ⟨ps,a,b,c⟩:=l
 refine ⟨ps,h _ _ a,b,?_⟩
 rcases c with c | ⟨c',c,d⟩
 ·exact .inl c
 ·exact .inr ⟨c',c,h _ _ d⟩
section
variable {X:Cx} {pins:List (Addr × Obj)} {σ:List (Option V)} {H:Hp} {s:Shared} {h':Heap}
end
section
variable {prog:Program} {w:World} {A:Around} {s:Shared}
end
section
variable {X:Cx} {Pt c:Addr} {e:Expr} {te:TE} {p pos kpos lpos np cp sp:Pos} {x qual:Str} {params:Arguments} {scope:Scope} {kd:Nat} {i:Int} {K:W.Frag}
end
end L2
namespace L2
open PySem
end L2
namespace L2
open PySem PySem.Spec PyProof.Rows
section
variable {X:Cx} {tg oe:Expr} {to:TE} {apos cpos:Pos}
end
noncomputable def mIn (K:W.Frag) (neg:Bool):R2:=fun x y H Q=>match y with
 | .ref p=>∃ xs,(SqL K H p xs\/SqT K H p xs)/\BC x=true/\xs.all BC=true/\Q (.bl (neg ^^ inV x xs)) H
 | _=>False
section
variable {X:Cx} {K:W.Frag}
theorem kIn (hK:X.K=K:=by rfl):OpR X (compareOp .In) (mIn K false):=by
 subst hK
 intro pins s σ H x y v u Q I rx ry h
 cases y with
 | ref p =>
  obtain ⟨xs,h1,h2,h3,q⟩:=h
  exact Hj pins s σ H x _ v u Q I rx ry ⟨p,xs,rfl,h1,h2,h3,by simpa using q⟩
 | _=>exact False.elim h
theorem IM (hK:X.K=K:=by rfl):OpR X (compareOp .NotIn) (mIn K true):=by
 subst hK
 intro pins s σ H x y v u Q I rx ry h
 cases y with
 | ref p =>
  obtain ⟨xs,h1,h2,h3,q⟩:=h
  exact HV pins s σ H x _ v u Q I rx ry ⟨p,xs,rfl,h1,h2,h3,by simpa using q⟩
 | _=>exact False.elim h
end
section
variable {X:Cx} {K:W.Frag}
end
end L2
namespace L2
theorem on1 {α:Type} {P:List α->Prop} (h:∀ a,P [a]):∀ us:List α,us.length=1->P us
 | [a],_=>h a
theorem on2 {α:Type} {P:List α->Prop} (h:∀ a b,P [a,b]):∀ us:List α,us.length=2->P us
 | [a,b],_=>h a b
theorem on3 {α:Type} {P:List α->Prop} (h:∀ a b c,P [a,b,c]):∀ us:List α,us.length=3->P us
 | [a,b,c],_=>h a b c
open PySem in
theorem Ml {xs es:List PySem.Expr} {p:Pos} {env:Env}:starEach (.List xs p::es) env=(false,eval (.List xs p) env)::starEach es env:=by rfl
end L2
namespace L2
open PySem
end L2
namespace L2
open PySem PyProof.Rows
section
variable {prog:Program} {w:World} {A:Around} {E:Value->Shared->Prop} {s:Shared}
end
section
variable {X:Cx}
end
noncomputable abbrev Kc (h:Heap) (z TI TO:Addr) (f0 bb:Value):Prop :=
 h.get? z=some { cls:=.type "zip",dict:=none,data:=.fields #[f0,bb,.bool false,.ref TI,.ref TO],slots:=#[] }
section
variable {prog:Program} {w:World} {A:Around} {E:Value->Shared->Prop} {s:Shared}
end
section
variable {prog:Program} {w:World} {A:Around} {E:Value->Shared->Prop} {s:Shared}
structure ZS (z TI TO i1 i2 l1 l2 T0:Addr) (xs ys:Array Value) (i:Nat) (h:Heap):Prop where
 zp:(i=0/\IsZip h z TI TO .none)\/(0 < i/\(∃ b,Kc h z TI TO (rawInt T0) b)/\∃ a b,IsPair h T0 a b)
 ti:IsPair h TI (.ref i1) (.ref i2)
 to:∃ a b,IsPair h TO a b
 a1:h.IsTupleIter i1 l1 i
 a2:h.IsTupleIter i2 l2 i
 t1:h.IsTuple l1 xs
 t2:h.IsTuple l2 ys
theorem ZS.keep {z TI TO i1 i2 l1 l2 T0 S:Addr} {xs ys:Array Value} {i c:Nat} {h h':Heap} {acc:Array Value} (Z:ZS z TI TO i1 i2 l1 l2 T0 xs ys i h) (hS:h.get? S=some { cls:=.type "list",dict:=none,data:=.seq acc c,slots:=#[] })
 (k:∀ b o,b≠S->h.get? b=some o->h'.get? b=some o):ZS z TI TO i1 i2 l1 l2 T0 xs ys i h':=by
 have kk:∀ b o,h.get? b=some o->o.cls≠.type "list" -> h'.get? b=some o:=fun b o e n=>k b o (fun q=>by subst q;rw [hS] at e;cases e;exact n rfl) e
 obtain ⟨zp,ti,⟨a,b,to⟩,⟨o1,e1,c1,d1⟩,⟨o2,e2,c2,d2⟩,⟨p1,x1,y1,w1⟩,⟨p2,x2,y2,w2⟩⟩:=Z
 refine ⟨?_,kk _ _ ti (by simp),⟨a,b,kk _ _ to (by simp)⟩,⟨o1,kk _ _ e1 (by rw [c1];simp),c1,d1⟩,⟨o2,kk _ _ e2 (by rw [c2];simp),c2,d2⟩,⟨p1,kk _ _ x1 (by rw [y1];simp),y1,w1⟩,⟨p2,kk _ _ x2 (by rw [y2];simp),y2,w2⟩⟩
 rcases zp with ⟨e,q⟩ | ⟨e,⟨b,q⟩,⟨x,y,r⟩⟩
 ·exact .inl ⟨e,kk _ _ q (by simp)⟩
 ·exact .inr ⟨e,⟨b,kk _ _ q (by simp)⟩,⟨x,y,kk _ _ r (by simp)⟩⟩
end
section
variable {prog:Program} {w:World} {A:Around} {R:Result->Shared->Prop}
end
section
variable {prog:Program} {w:World} {A:Around} {R:Result->Shared->Prop} {s:Shared}
end
section
variable {prog:Program} {w:World} {A:Around} {E:Value->Shared->Prop} {s:Shared}
end
section
variable {X:Cx}
end
end L2
namespace L2
open PySem
noncomputable def ins:Nat->Nat->Nat->Nat
 | 0,b,q=>2 * q+b
 | i+1,b,q=>2 * ins i b (q / 2)+q % 2
end L2
namespace L2
open PySem PyProof.Rows
section
variable {prog:Program} {w:World} {A:Around} {E:Value->Shared->Prop} {s:Shared}
end
section
variable {prog:Program} {w:World} {K:Type} [DecidableEq K] {knd:KeyKind prog w K} {A:Around} {R:Result->Shared->Prop}
end
section
variable {prog:Program} {w:World} {K:Type} [DecidableEq K] {knd:KeyKind prog w K} {A:Around} {E:Value->Shared->Prop} {s:Shared}
end
section
variable {X:Cx}
end
noncomputable abbrev EnB (h:Heap) (e it:Addr) (i:Int) (f0 bb old:Value):Prop :=
 h.get? e=some { cls:=.type "enumerate",dict:=none,data:=.fields #[f0,bb,.ref it,rawInt i,.none,old],slots:=#[] }
section
variable {prog:Program} {w:World} {A:Around} {E:Value->Shared->Prop} {s:Shared}
end
section
variable {prog:Program} {w:World} {A:Around} {E:Value->Shared->Prop} {s:Shared}
noncomputable def ES (e it:Addr) (i:Nat) (h:Heap):Prop:=(∃ old,IsEnum h e it i old)\/∃ (T0:Addr) (bb old a b:Value),EnB h e it i (rawInt T0) bb old/\IsPair h T0 a b
end
section
variable {prog:Program} {w:World} {K:Type} [DecidableEq K] {knd:KeyKind prog w K} {A:Around} {R:Result->Shared->Prop}
theorem ES.keep {e it d:Addr} {i:Nat} {h h':Heap} {od:Obj} (Z:ES e it i h) (hd:h.get? d=some od) (hc:od.cls=.type "dict") (k:∀ b o,b≠d->h.get? b=some o->h'.get? b=some o):ES e it i h':=by
 have kk:∀ b o,h.get? b=some o->o.cls≠.type "dict" -> h'.get? b=some o:=fun b o e n=>k b o (fun q=>by subst q;rw [hd] at e;cases e;exact n hc) e
 rcases Z with ⟨old,q⟩ | ⟨T0,bb,old,a,b,q,hT⟩
 ·exact .inl ⟨old,kk _ _ q (by simp)⟩
 ·exact .inr ⟨T0,bb,old,a,b,kk _ _ q (by simp),kk _ _ hT (by simp)⟩
end
section
variable {prog:Program} {w:World} {K:Type} [DecidableEq K] {knd:KeyKind prog w K} {A:Around} {E:Value->Shared->Prop} {s:Shared}
end
section
variable {X:Cx}
end
section
variable {X:Cx}
end
section
variable {X:Cx} {K:W.Frag}
end
noncomputable def DQ:V->List V->Hp->VK->Prop:=fun x vs H Q=>match x,vs with
 | .ref l,[.int i,y]=>∃ xs,H l=some (.lst xs)/\0<=i/\i<=xs.length/\xs.length < 1000/\Q .non (upd H l (.lst (xs.take i.toNat++y::xs.drop i.toNat)))
 | _,_=>False
theorem HE:∀ {xs:List V} {us:List Value} {y:V} {u:Value} (k:Nat),Vals xs us->RelV y u->Vals (xs.take k++y::xs.drop k) (us.take k++u::us.drop k)
 | _,_,_,_,0,r,ry=>by simpa using Paired.cons ry r
 | _,_,_,_,k+1,.nil,ry=>by simpa using Paired.cons ry .nil
 | _,_,_,_,k+1,.cons r t,ry=>by simpa using Paired.cons r (HE k t ry)
section
variable {X:Cx} {K:W.Frag} {o e e2:Expr} {to:TE} {t:TA} {apos cpos:Pos}
theorem Je:MtR X "list.insert" DQ:=by
 intro pins s σ H x vs v us Q I rx rv q
 match x,vs,q with
 | .ref l,[.int i,y],⟨xs,hH,h1,h2,h3,q⟩ =>
 cases rx
 obtain ⟨u1,u,rfl,⟨tk,rfl⟩,ru⟩:=DF rv
 obtain ⟨z,its,n,r,hl,e⟩:=I.lstM hH
 have hi63:i < 2 ^ 63:=by lia
 have hfit:¬ (!Builtin.List.listFitsIndex i)=true:=by
  rw [fitsIndex_both (by lia) hi63]
  exact Bool.false_ne_true
 refine call_meets F.slot_list_insert ⟨_,e,rfl⟩ F.entry_list_insert (F.args_list_insert_3 _ _ _) (AutoListH.list_insert_list_int_val_1 l its.toArray n i tk u hfit (by rw [List.size_toArray];lia)) ⟨e,?_⟩
 refine ⟨.non,_,I.lset (its':=its.take i.toNat++u::its.drop i.toNat) hH e ?_ (HE i.toNat r ru) ?_,rfl,q⟩
 ·have hm:min i.toNat its.length=i.toNat:=by lia
  show (have k:=if i < 0 then (i+((its.toArray.size:Nat):Int)).toNat else min i.toNat its.toArray.size;(its.toArray.extract 0 k).push u++its.toArray.extract k)=_
  rw [if_neg (by lia),List.size_toArray,hm]
  apply Array.toList_inj.mp
  simp
  exact List.take_of_length_le (by rw [List.length_drop];exact Nat.le_refl _)
 ·rw [List.length_append,List.length_cons,List.length_take,List.length_drop]
  exact AU (by lia)
theorem GN (ho:PE X o to) (ha:PA X [e,e2] t) (hbase:attributeBase o "insert" X.env (eval o X.env)=eval o X.env:=by rfl)
 (hfew:((backTo cpos (starEach [e,e2] X.env)).all (fun x=>!x.1) && (backToKw cpos (keywordEach [] X.env)).all (fun x=>x.1.isSome)
   && decide ([e,e2].length+([]:List Keyword).length+(if ([]:List Keyword).isEmpty then 0 else 1) < 30))=true:=by rfl)
 (hline:(apos.endLine == cpos.line)=true:=by rfl) (hs:starEach [e,e2] X.env=(false,eval e X.env)::starEach [e2] X.env:=by rfl) (hplain:(backTo cpos (starEach [e2] X.env)).any (·.1)=false:=by rfl) (hK:X.K=K:=by rfl) :
 PE X (.Call (.Attribute o "insert" apos) [e,e2] [] cpos) (tBM K "list" DQ to t):=hK ▸ Dg PySem.F.plainAttrs_list PySem.F.slot_list_insert PySem.F.type_list_insert Je ho ha hbase hfew hline hs hplain
noncomputable def DV:V->List V->Hp->VK->Prop:=fun x vs H Q=>match x,vs with
 | .ref l,[.int i]=>∃ xs y,H l=some (.lst xs)/\0<=i/\i < 2 ^ 63/\xs[i.toNat]? = some y/\Q y (upd H l (.lst (xs.eraseIdx i.toNat)))
 | _,_=>False
theorem IB:MtR X "list.pop" DV:=by
 intro pins s σ H x vs v us Q I rx rv q
 match x,vs,q with
 | .ref l,[.int i],⟨xs,y,h1,h2,h3,h4,q⟩ =>
 refine Ik pins s σ H _ _ v us Q I rx rv ⟨l,xs,i,i.toNat,y,rfl,rfl,h1,by lia,h3,?_,h4,q⟩
 have hn:i.toNat < xs.length:=(List.getElem?_eq_some_iff.mp h4).1
 unfold seqIndex?
 have hi:¬ i < 0:=by lia
 have hb:(decide (0<=i) && decide (i < (xs.length:Int)))=true:=by
  rw [decide_eq_true h2,decide_eq_true (by lia)]
  rfl
 simp only [if_neg hi,hb]
 rfl
theorem IR (ho:PE X o to) (ha:PA X [e] t) (hbase:attributeBase o "pop" X.env (eval o X.env)=eval o X.env:=by rfl)
 (hfew:((backTo cpos (starEach [e] X.env)).all (fun x=>!x.1) && (backToKw cpos (keywordEach [] X.env)).all (fun x=>x.1.isSome)
   && decide ([e].length+([]:List Keyword).length+(if ([]:List Keyword).isEmpty then 0 else 1) < 30))=true:=by rfl)
 (hline:(apos.endLine == cpos.line)=true:=by rfl) (hs:starEach [e] X.env=(false,eval e X.env)::starEach [] X.env:=by rfl) (hplain:(backTo cpos (starEach [] X.env)).any (·.1)=false:=by rfl) (hK:X.K=K:=by rfl) :
 PE X (.Call (.Attribute o "pop" apos) [e] [] cpos) (tBM K "list" DV to t):=hK ▸ Dg PySem.F.plainAttrs_list PySem.F.slot_list_pop PySem.F.type_list_pop IB ho ha hbase hfew hline hs hplain
theorem II:Bj DQ:=fun x xs H Q Q' h q=>by
 unfold DQ at *
 split at q
 ·obtain ⟨ys,a,b,c,d,q⟩:=q;exact ⟨ys,a,b,c,d,h _ _ q⟩
 ·exact q.elim
theorem LU:Bj DV:=fun x xs H Q Q' h q=>by
 unfold DV at *
 split at q
 ·obtain ⟨ys,y,a,b,c,d,q⟩:=q;exact ⟨ys,y,a,b,c,d,h _ _ q⟩
 ·exact q.elim
end
end L2
namespace L2
open PySem PySem.Spec PyProof.Rows
mutual
noncomputable def AY:Dv->Bool
 | .non=>true
 | .bl _=>true
 | .int i=>DY i
 | .str x=>x.cps.toList.all fun c=>decide (c < 16 ^ 8)
 | .tup ds=>Ai ds
 | .lst ds=>Ai ds
noncomputable def Ai:List Dv->Bool
 | []=>true
 | d::ds=>AY d && Ai ds
end
mutual
noncomputable def Ac:Dv->Nat
 | .str x=>x.cps.size
 | .tup ds=>Ap ds
 | .lst ds=>Ap ds
 | _=>0
noncomputable def Ap:List Dv->Nat
 | []=>0
 | d::ds=>Ac d+1+Ap ds
end
mutual
theorem HF:∀ d:Dv,(pyD d).bulk=Ac d
 | .non=>by simp [pyD,PyData.bulk,Ac]
 | .bl _=>by simp [pyD,PyData.bulk,Ac]
 | .int _=>by simp [pyD,PyData.bulk,Ac]
 | .str _=>by simp [pyD,PyData.bulk,Ac]
 | .tup ds=>by simp [pyD,PyData.bulk,Ac,Ej ds]
 | .lst ds=>by simp [pyD,PyData.bulk,Ac,Ej ds]
theorem Ej:∀ ds:List Dv,PyData.bulkAll (Af ds)=Ap ds
 | []=>by simp [Af,PyData.bulkAll,Ap]
 | d::ds=>by simp [Af,PyData.bulkAll,Ap,HF d,Ej ds]
end
mutual
theorem Du:∀ d:Dv,AY d=true->(pyD d).showable=true/\(pyD d).leavesShort 1921=true
 | .non,_=>by simp [pyD,PyData.showable,PyData.leavesShort]
 | .bl _,_=>by simp [pyD,PyData.showable,PyData.leavesShort]
 | .int i,h=>by
  have h1:i.natAbs.log2 < 1900:=by simpa [AY,DY] using h
  have h2:i.natAbs.log2 < 1920:=by lia
  refine ⟨by simpa [pyD,PyData.showable] using h2,?_⟩
  simp only [pyD,PyData.leavesShort,decide_eq_true_eq,PyData.shown]
  exact decide_eq_true (PyProof.Rows.int_text_len_1921 h2)
 | .str x,h=>by
  refine ⟨by simp [pyD,PyData.showable],?_⟩
  unfold AY at h
  unfold pyD PyData.leavesShort
  exact h
 | .tup ds,h=>by
  have h':=EB ds (by simpa [AY] using h)
  simpa [pyD,PyData.showable,PyData.leavesShort] using h'
 | .lst ds,h=>by
  have h':=EB ds (by simpa [AY] using h)
  simpa [pyD,PyData.showable,PyData.leavesShort] using h'
theorem EB:∀ ds:List Dv,Ai ds=true->PyData.showableAll (Af ds)=true/\PyData.leavesShortAll 1921 (Af ds)=true
 | [],_=>by simp [Af,PyData.showableAll,PyData.leavesShortAll]
 | d::ds,h=>by
  have h':AY d=true/\Ai ds=true:=by simpa [Ai] using h
  have h1:=Du d h'.1
  have h2:=EB ds h'.2
  simp [Af,PyData.showableAll,PyData.leavesShortAll,h1,h2]
end
theorem KC {d:Dv} (h:AY d=true) (hb:Ac d<=8000):(Av d).length<=sizeLine:=by
 have h1:=PyData.shown_le_bulk 1921 (by decide) (pyD d) (Du d h).2
 rw [HF d] at h1
 have e:sizeLine=16777216:=by decide
 unfold Av
 rw [e]
 lia
noncomputable def DS (K:W.Frag):List V->Hp->VK->Prop:=fun xs H Q=>match xs with
 | [x]=>∃ d,Rep K H d x/\AY d=true/\Ac d<=8000/\AF d<=60/\Q (.str (Av d)) H
 | _=>False
section
variable {X:Cx} {K:W.Frag}
theorem Ky (hg:X.A.guards=some []) (hu:X.A.units+62 < cLine):CallR X (.builtin "repr") (DS X.K):=by
 intro pins s σ H xs us Q I r q
 match xs,q with
 | [x],q =>
  obtain ⟨d,hd,hn,hb,hp,q⟩:=q
  cases r with
  | cons r1 r2 =>
  cases r2
  rename_i u
  have fits:=KC hn hb
  have shw:=(Du d hn).1
  have done:∀ (h':Heap) (t tk:Nat),(∀ b o,s.heap.get? b=some o->h'.get? b=some o)->EP X pins σ Q (.str (Av d) t) { s with heap:=h',toks:=tk }:=fun h' t tk hk =>
   ⟨.str (Av d),H,I.kept (t':=tk) hk,⟨t,rfl⟩,q⟩
  obtain ⟨as,hr⟩:=G1 I d x u hd r1
  cases hx:u with
  | ref a =>
   rw [hx] at hr
   refine PySem.repr_of_reads' hr shw (PyData.noDict_hsm (Fo d)) hg ?_ (fun _ _ e=>e) (fun h' t tk hk=>done h' t tk hk) fits
   rw [GD];lia
  | none =>
   rw [hx] at hr
   generalize hp:pyD d=p at hr
   cases hr
   have e:Av d=("None" : Str):=by unfold Av;rw [hp,PyData.shown_none]
   refine PySem.P.repr_of_none ?_
   rw [<- e];exact done s.heap _ _ (fun _ _ e=>e)
  | bool b =>
   rw [hx] at hr
   generalize hp:pyD d=p at hr
   cases hr
   have e:Av d=((if b then "True" else "False" : Str)):=by unfold Av;rw [hp,PyData.shown_bool]
   refine PySem.P.repr_of_bool ?_
   rw [<- e];exact done s.heap _ _ (fun _ _ e=>e)
  | int i t =>
   rw [hx] at hr
   generalize hp:pyD d=p at hr
   cases hr
   have e:Av d=((toString i:String):Str):=by unfold Av;rw [hp,PyData.shown_int]
   rw [hp] at shw
   refine PySem.P.repr_of_int (by simpa [PyData.showable] using shw) ?_
   rw [<- e];exact done s.heap _ _ (fun _ _ e=>e)
  | str y t =>
   rw [hx] at hr
   generalize hp:pyD d=p at hr
   cases hr
   have e:Av d=reprText y:=by unfold Av;rw [hp];rfl
   refine PySem.P.repr_of_str ?_ (by rw [<- e];exact fits)
   rw [<- e];exact done s.heap _ _ (fun _ _ e=>e)
  | _=>rw [hx] at hr;cases hr
theorem DE {k:Nat} (hr:Room k X.A) (hK:X.K=K:=by rfl):CallR X (.builtin "repr") (DS K):=hK ▸ Ky hr.gd (by have:=hr.un;lia)
end
theorem Iq {K}:DU (DS K):=fun xs H Q Q' h q=>by
 unfold DS at *
 split at q
 ·obtain ⟨d,a,b,c,e,q⟩:=q;exact ⟨d,a,b,c,e,h _ _ q⟩
 ·exact q.elim
end L2
namespace L2
open PySem PyProof.Rows
theorem Gi:∀ (n i:Nat) (us:List Value),us.length=n->(∀ (j:Nat) (v:Value),us[j]? = some v->∃ t,v=Value.int (((i+j:Nat):Int)) t)->Vals ((List.range' i n).map fun (k:Nat)=>V.int (k:Int)) us
 | 0,i,[],_,_=>.nil
 | 0,i,_::_,h,_=>by cases h
 | n+1,i,[],h,_=>by cases h
 | n+1,i,u::us,h,hu=>by
  obtain ⟨t,e⟩:=hu 0 u rfl
  have r:RelV (V.int ((i:Nat):Int)) u:=⟨t,by rw [e];rfl⟩
  rw [List.range'_succ,List.map_cons]
  refine .cons r (Gi n (i+1) us (by simpa using h) fun j v hj=>?_)
  obtain ⟨t,e⟩:=hu (j+1) v (by simpa using hj)
  exact ⟨t,by rw [e];congr 1;lia⟩
section
variable {X:Cx}
end
section
variable {X:Cx}
end
section
variable {X:Cx} {K:W.Frag}
end
end L2
namespace HT
open PySem PyProof.Rows
section
variable {prog:Program} {w:World} {A:Around} {E:Value->Shared->Prop} {s:Shared}
theorem getItem_tuple_whole {t sl:Addr} {items:Array Value} {vl vu:Value} {lo hi:Option Int} {Q:Value->Shared->Prop} (ht:IsTup s.heap t items) (hs:s.heap.IsSliceOf sl vl vu .none) (pl:IsPart vl lo) (pu:IsPart vu hi)
 (hw:sIx items.size 0 lo=0/\sIx items.size items.size hi=items.size)
 (h:Q (.ref t) s):wpAny (model prog w) A (getItem (.ref t) (.ref sl)) Q E s:=by
 obtain ⟨os,hos,hcs,hds⟩:=id hs
 have hTs:s.TypeIs (.ref sl) "slice":=⟨os,hos,hcs⟩
 unfold getItem
 try with_reducible refine wpAny_holding ?_
 first | refine wpAny_bind (wpAny_pure ?_) | skip
 refine wpAny_bind (wpAny_sequenceKey ht.typeIs (by decide) ?_)
 refine wpAny_bind (wpAny_callSpecial?_slot (name:=Str.ofString "__getitem__") ht.typeIs PyProof.Rows.slot_tuple_getitem
  (wpAny_call_entry PyProof.Rows.slot_tuple_getitem ht.typeIs entry_tuple_getitem ?_ (args_tuple_getitem _ _)))
 show wpAny _ _ (Builtin.Tuple.tupleItemsOf (.ref t) >>= _) _ _ s
 refine wpAny_bind (tupleItemsOf_ ht ?_)
 refine wpAny_bind (wpAny_typeOf hTs ?_)
 rw [if_pos (by decide)]
 refine wpAny_bind (Et hs pl pu ?_)
 rw [hw.1,hw.2]
 show wpAny _ _ (if (((0:Nat):Int) == 0 && (1:Int) == 1 && (items.size - 0) == items.size)=true then _ else _) _ _ s
 have hyes:(((0:Nat):Int) == 0 && (1:Int) == 1 && (items.size - 0) == items.size)=true:=by simp
 rw [if_pos hyes]
 unfold Builtin.Tuple.tupleIsExact
 refine wpAny_bind (wpAny_bind (wpAny_typeOf ht.typeIs (wpAny_pure ?_)))
 rw [if_pos (by decide)]
 refine wpAny_bind (wpAny_rule ?_)
 first
  | exact wpAny_bind (wpAny_pure ⟨_,rfl,wpAny_pure h⟩)
  | exact wpAny_pure ⟨_,rfl,wpAny_pure h⟩
  | exact wpAny_bind (wpAny_pure (wpAny_pure ⟨_,rfl,wpAny_pure h⟩))
  | exact wpAny_bind (wpAny_bind (wpAny_pure (wpAny_pure ⟨_,rfl,wpAny_pure h⟩)))
end
end HT
namespace L2
open PySem PySem.Spec PyProof.Rows
section
variable {X:Cx} {K:W.Frag} {e sx:Expr} {te ts:TE} {lo hi:Option Expr} {tl th:TO} {pos p2:Pos}
noncomputable def D0 (K:W.Frag):V->Option Int->Option Int->Hp->VK->Prop:=fun x lo hi H Q=>match x with
 | .ref a=>∃ xs,SqT K H a xs/\∀ p H',Same H H'->SqT K H' p (Al xs lo hi)->Q (.ref p) H'
 | _=>False
theorem KF:SlR X (D0 X.K):=by
 intro pins s σ H x v vl vu lo hi sl Q I rx hs pl pu q
 cases x with
 | ref a =>
  obtain ⟨xs,hx,q⟩:=q
  by_cases hw:HT.sIx xs.length 0 lo=0/\HT.sIx xs.length xs.length hi=xs.length
  ·cases rx
   obtain ⟨its,r,ht,hz⟩:=I.tuple hx
   have hlen:its.toArray.size=xs.length:=by rw [List.size_toArray];exact r.length.symm
   refine ⟨"tuple",_,PyProof.Rows.slot_tuple_getitem.lookup,ht.typeIs,?_⟩
   refine HT.getItem_tuple_whole ht hs pl pu (by rw [hlen];exact hw) ⟨.ref a,H,I,rfl,q a H (fun _ _ h=>h) ?_⟩
   have:Al xs lo hi=xs:=by
    unfold Al
    rw [hw.1,hw.2,List.drop_zero,List.take_of_length_le (by lia)]
   rw [this]
   exact hx
  ·exact Gh pins s σ H _ v vl vu lo hi sl Q I rx hs pl pu ⟨a,xs,rfl,hx,hw,fun p hp=>q p _ (Same.upd hp) (.of AE)⟩
 | _=>exact False.elim q
theorem Go (he:PE X e te) (hl:PO X lo tl) (hu:PO X hi th) (hK:X.K=K:=by rfl):PE X (.Subscript e (.Slice lo hi none p2) pos) (tSl (D0 K) te tl th):=hK ▸ FF KF he hl hu
theorem IA (h:AM te) (h1:CT tl) (h2:CT th):AM (tSl (D0 K) te tl th):=fun σ H Q Q' k q=>h _ _ _ _ (fun v _ q=>h1 _ _ _ _ (fun _ _ q=>h2 _ _ _ _ (fun _ _ q=>by
 cases v <;> first | exact False.elim q | (obtain ⟨xs,a,q⟩:=q;exact ⟨xs,a,fun p H' s r=>k _ _ (q p H' s r)⟩)) q) q) q
end
end L2
namespace HT
open PySem PyProof.Rows
section
variable {prog:Program} {w:World} {A:Around} {E:Value->Shared->Prop} {s:Shared}
theorem cat_none {t b:Addr} {ws:List Value} {Q:Value->Shared->Prop} (ht:IsTup s.heap t #[]) (hb:IsTup s.heap b ws.toArray) (h:Q (.ref b) s) :
 wpAny (model prog w) A (binaryOp .Add (.ref t) (.ref b)) Q E s:=by
 obtain ⟨⟨cls,dd,data,sl⟩,ho,hc,n,hd⟩:=id ht
 obtain ⟨⟨cls2,dd2,data2,sl2⟩,ho2,hc2,n2,hd2⟩:=id hb
 simp only at hc hd hc2 hd2
 subst hc hd hc2 hd2
 exact concat_meets ⟨_,ho,rfl⟩ ⟨_,ho2,rfl⟩ noFill_tuple_add seq_tuple_add PySem.F.slot_tuple_add PySem.F.entry_tuple_add (PySem.F.args_tuple_add_2 _ _)
  (tuple_addW0 t b #[] ws.toArray n n2 dd dd2 sl sl2 rfl) ⟨ho,ho2,h⟩
end
end HT
namespace L2
open PySem PySem.Spec PyProof.Rows
section
variable {X:Cx} {K:W.Frag}
noncomputable def EY (K:W.Frag):R2:=fun x y H Q=>match x,y with
 | .int i,.int j=>Q (.int (i+j)) H
 | .ref a,.ref b=>EJ (.ref a) (.ref b) H Q\/∃ xs ys,SqT K H a xs/\SqT K H b ys/\xs.length+ys.length<=sizeLine/\∀ p H',Same H H'->SqT K H' p (xs++ys)->Q (.ref p) H'
 | _,_=>False
theorem JE:OpR X (binaryOp .Add) (EY X.K):=by
 intro pins s σ H x y v u Q I rx ry q
 cases x <;> cases y <;> first
  | exact False.elim q
  | exact Gz pins s σ H _ _ v u Q I rx ry ⟨_,_,rfl,rfl,q⟩
  | skip
 rename_i a b
 rcases q with q | ⟨xs,ys,ha,hb,hz,q⟩
 ·exact G7 pins s σ H _ _ v u Q I rx ry q
 by_cases hx:xs=[]
 ·subst hx
  cases rx
  cases ry
  obtain ⟨its,r1,p1,_⟩:=I.tuple ha
  obtain ⟨its2,r2,p2,_⟩:=I.tuple hb
  cases r1
  exact HT.cat_none p1 p2 ⟨.ref b,H,I,rfl,q b H (fun _ _ h=>h) hb⟩
 ·exact Fc pins s σ H _ _ v u Q I rx ry ⟨a,b,xs,ys,rfl,rfl,ha,hb,hx,hz,fun e=>q a H (fun _ _ h=>h) (by rw [e,List.append_nil];exact ha),fun _ p hp=>q p _ (Same.upd hp) (.of AE)⟩
theorem DN (hK:X.K=K:=by rfl):OpR X (binaryOp .Add) (EY K):=hK ▸ JE
theorem LH:A3 (EY K):=fun x y H Q Q' m q=>by
 cases x <;> cases y <;> first
  | exact False.elim q
  | exact m _ _ q
  | skip
 rcases q with ⟨l,b,xs,zs,h1,h2,h3,h4,h5,q⟩ | ⟨xs,ys,ha,hb,hz,q⟩
 ·exact .inl ⟨l,b,xs,zs,h1,h2,h3,h4,h5,fun p hp=>m _ _ (q p hp)⟩
 ·exact .inr ⟨xs,ys,ha,hb,hz,fun p H' a b=>m _ _ (q p H' a b)⟩
end
section
variable {X:Cx} {K:W.Frag}
end
section
variable {X:Cx} {K:W.Frag} {e sx:Expr} {te ts:TE} {lo hi:Option Expr} {tl th:TO} {pos p2:Pos}
end
noncomputable abbrev BV:=List (List Bool × Addr × V)
noncomputable abbrev BVr:BV->List (List Bool × Addr × Value)->Prop:=Paired fun p q=>p.1=q.1/\p.2.1=q.2.1/\RelV p.2.2 q.2.2
noncomputable def dV (P:Program) (w:World) (a:Addr) (kvs:BV):HO:=.ext fun h=>∃ xs o es ep,BVr kvs xs/\h.get? a=some o/\o.ExactDict/\o.data=.dict es ep/\es.toList=xs.map (entryOfKey (tupleKind (JM P w)))/\(xs.map (·.1)).Nodup/\xs.length<=sizeLine/\(a == sysModules)=false
noncomputable def KeysV (H:Hp) (kvs:BV):Prop:=∀ q∈kvs,H q.2.1=some (.tup (q.1.map V.bl))
section
variable {P:Program} {w:World} {H:Hp} {h:Heap} {a:Addr}
end
theorem KeysV.same {H H':Hp} {kvs:BV} (h:KeysV H kvs) (s:∀ b ys,H b=some (.tup ys)->H' b=some (.tup ys)):KeysV H' kvs:=fun q hq=>s _ _ (h q hq)
theorem KeysV.upd {P:Program} {w:World} {H:Hp} {kvs k1:BV} {a:Addr} {o:HO} (h:KeysV H kvs) (e:H a=some (dV P w a k1)):KeysV (upd H a o) kvs:=fun q hq=>by
 have:=h q hq
 rw [AD (fun z=>by rw [z,e] at this;exact nomatch Option.some.inj this)]
 exact this
section
variable {X:Cx} {o i e f value:Expr} {pos pos' tpos apos cpos:Pos} {td ty tx tv:TE}
end
section
variable {X:Cx} {P:Program} {w:World} {o i e f:Expr} {pos apos cpos:Pos} {td ty tx:TE}
end
section
variable {prog:Program} {w:World} {A:Around} {E:Value->Shared->Prop} {s:Shared} {d it:Addr} {o:Obj} {es:Array DictEntry} {ep i:Nat}
end
section
variable {X:Cx} {pins:List (Addr × Obj)} {σ:St} {H:Hp} {s:Shared}
theorem BVr.get {kvs:BV} {xs:List (List Bool × Addr × Value)} (r:BVr kvs xs):∀ {i:Nat} {q:List Bool × Addr × V},kvs[i]? = some q->∃ x,xs[i]? = some x/\x.2.1=q.2.1:=by
 induction r with
 | nil=>intro i q e;simp at e
 | @cons a b l1 l2 h t ih =>
  intro i q e
  cases i with
  | zero =>
   simp at e;subst e
   exact ⟨b,by simp,h.2.1.symm⟩
  | succ i =>
   obtain ⟨v,h1,h2⟩:=ih (i:=i) (q:=q) (by simpa using e)
   exact ⟨v,by simpa using h1,h2⟩
end
section
variable {X:Cx} {K:W.Frag}
end
section
variable {X:Cx} {K:W.Frag}
end
noncomputable def Cc (K:W.Frag) (neg:Bool):R2:=fun x y H Q=>match y with
 | .ref p=>∃ (xs:List V) (ds:List Dv) (d:Dv),SqA K H p xs/\Reps K H ds xs/\Rep K H d x/\(∀ e∈ds,AF e<=50)/\Q (.bl (neg ^^ ds.any fun e=>eqD e d)) H
 | _=>False
theorem KS {x y:V} {u:Value} (h1:RelV x u) (h2:RelV y u):x=y:=by
 cases x <;> cases y <;> simp only [RelV] at h1 h2 <;> (first | (obtain ⟨t,rfl⟩:=h1) | subst h1) <;> (first | (obtain ⟨t',e⟩:=h2;cases e;done) | (obtain ⟨t',e⟩:=h2;cases e;rfl) | (cases h2;done) | (cases h2;rfl))
open Classical in
noncomputable def AZ (K:W.Frag) (H:Hp) (u:Value):Dv:=if h:∃ d x,RelV x u/\Rep K H d x then h.choose else .non
section
variable {X:Cx} {K:W.Frag} {pins:List (Addr × Obj)} {σ:St} {H:Hp} {s:Shared}
theorem Ef (I:Inv X pins σ H s) {d:Dv} {x:V} {u:Value} (r:RelV x u) (h:Rep X.K H d x):AZ X.K H u=d:=by
 have hx:∃ d x,RelV x u/\Rep X.K H d x:=⟨d,x,r,h⟩
 unfold AZ
 rw [dif_pos hx]
 obtain ⟨y,r',h'⟩:=hx.choose_spec
 obtain rfl:=KS r r'
 exact DK I _ _ _ h' h
theorem Cm (I:Inv X pins σ H s) {d:Dv}:∀ {ds:List Dv} {xs:List V} {us:List Value},Reps X.K H ds xs->Vals xs us->us.any (fun u=>eqD (AZ X.K H u) d)=ds.any fun e=>eqD e d
 | [],_,_,h,r=>by
  unfold Reps at h
  subst h
  cases r
  rfl
 | e::ds,xs,us,h,r=>by
  unfold Reps at h
  obtain ⟨x,l,rfl,h1,h2⟩:=h
  cases r with
  | cons r1 r2=>rw [List.any_cons,List.any_cons,Cm I h2 r2,Ef I r1 h1]
theorem FI {d:Dv}:∀ {ds:List Dv} {xs:List V} {us:List Value},Reps K H ds xs->Vals xs us->∀ u∈us,∃ e∈ds,∃ x,RelV x u/\Rep K H e x
 | [],_,_,h,r=>by
  unfold Reps at h
  subst h
  cases r
  intro u hu
  cases hu
 | e::ds,xs,us,h,r=>by
  unfold Reps at h
  obtain ⟨x,l,rfl,h1,h2⟩:=h
  cases r with
  | cons r1 r2 =>
   intro u hu
   rcases List.mem_cons.mp hu with rfl | hu
   ·exact ⟨e,List.mem_cons_self,x,r1,h1⟩
   ·obtain ⟨e',h3,h4⟩:=FI (d:=d) h2 r2 u hu
    exact ⟨e',List.mem_cons_of_mem _ h3,h4⟩
theorem B3 (hu:X.A.units+60 < cLine) (I:Inv X pins σ H s) {d:Dv} {x:V} {v:Value} {ds:List Dv} {xs:List V} {us:List Value} (rx:RelV x v) (hx:Rep X.K H d x) (hR:Reps X.K H ds xs) (r:Vals xs us) (hd:∀ e∈ds,AF e<=50):∀ y,y∈us->SeqAt.EqAt X.A.in1 s y v (eqD (AZ X.K H y) d):=by
 intro y hy
 obtain ⟨e,he,z,r1,h1⟩:=FI (d:=d) hR r y hy
 rw [Ef I r1 h1]
 exact (D7 I 50 X.A.in1 e d z x y v (hd e he) (by show X.A.units+1+50 < cLine;lia) h1 hx r1 rx).1
theorem Kk (hu:X.A.units+60 < cLine):OpR X (compareOp .In) (Cc X.K false):=by
 intro pins s σ H x y v u Q I rx ry h
 cases y <;> first | exact False.elim h | skip
 obtain ⟨xs,ds,d,hq,hR,hx,hd,q⟩:=h
 cases ry
 rcases hq with hq | hq
 ·obtain ⟨its,r,pl,hz⟩:=I.list hq
  refine SeqAt.in_listAt (fun y=>eqD (AZ X.K H y) d) pl.isList (fun w hw=>B3 hu I rx hx hR r hd w (by simpa using hw)) ⟨.bl _,H,I,rfl,?_⟩
  rw [show its.toArray.any (fun y=>eqD (AZ X.K H y) d)=its.any (fun y=>eqD (AZ X.K H y) d) by simp,Cm I hR r]
  simpa using q
 ·obtain ⟨its,r,pl,hz⟩:=I.tuple hq
  refine SeqAt.in_tupleAt (fun y=>eqD (AZ X.K H y) d) pl (fun w hw=>B3 hu I rx hx hR r hd w (by simpa using hw)) ⟨.bl _,H,I,rfl,?_⟩
  rw [show its.toArray.any (fun y=>eqD (AZ X.K H y) d)=its.any (fun y=>eqD (AZ X.K H y) d) by simp,Cm I hR r]
  simpa using q
theorem Hi (hu:X.A.units+60 < cLine):OpR X (compareOp .NotIn) (Cc X.K true):=by
 intro pins s σ H x y v u Q I rx ry h
 cases y <;> first | exact False.elim h | skip
 obtain ⟨xs,ds,d,hq,hR,hx,hd,q⟩:=h
 cases ry
 rcases hq with hq | hq
 ·obtain ⟨its,r,pl,hz⟩:=I.list hq
  refine SeqAt.notIn_listAt (fun y=>eqD (AZ X.K H y) d) pl.isList (fun w hw=>B3 hu I rx hx hR r hd w (by simpa using hw)) ⟨.bl _,H,I,rfl,?_⟩
  rw [show its.toArray.any (fun y=>eqD (AZ X.K H y) d)=its.any (fun y=>eqD (AZ X.K H y) d) by simp,Cm I hR r]
  simpa using q
 ·obtain ⟨its,r,pl,hz⟩:=I.tuple hq
  refine SeqAt.notIn_tupleAt (fun y=>eqD (AZ X.K H y) d) pl (fun w hw=>B3 hu I rx hx hR r hd w (by simpa using hw)) ⟨.bl _,H,I,rfl,?_⟩
  rw [show its.toArray.any (fun y=>eqD (AZ X.K H y) d)=its.any (fun y=>eqD (AZ X.K H y) d) by simp,Cm I hR r]
  simpa using q
theorem HQ (hu:X.A.units+60 < cLine) (hK:X.K=K:=by rfl):OpR X (compareOp .In) (Cc K false):=hK ▸ Kk hu
theorem Ho (hu:X.A.units+60 < cLine) (hK:X.K=K:=by rfl):OpR X (compareOp .NotIn) (Cc K true):=hK ▸ Hi hu
theorem JG {neg:Bool}:A3 (Cc K neg):=fun x y H Q Q' h q=>by
 cases y with
 | ref p=>obtain ⟨xs,ds,d,h1,h2,h3,h4,q⟩:=q;exact ⟨xs,ds,d,h1,h2,h3,h4,h _ _ q⟩
 | _=>exact False.elim q
end
structure GFd (H:Hp) (t l:Addr) (N:Nat):Prop where
 at_:∃ (i g c:Int) (ns:List Int),0<=i/\0<=g/\0<=c/\c<=N/\H t=some (.lst [.ref l,.int i,.int g,.int c])/\l≠t/\H l=some (.lst (ns.map V.int))/\ns.length≠0
theorem GFeed.told {H:Hp} {t:Addr} {N:Nat} (F:GFeed H t N):∃ l,GFd H t l N:=by
 obtain ⟨l,i,g,c,ns,h⟩:=F.at_
 exact ⟨l,i,g,c,ns,h⟩
theorem GFd.feed {H:Hp} {t l:Addr} {N:Nat} (F:GFd H t l N):GFeed H t N:=by
 obtain ⟨i,g,c,ns,h⟩:=F.at_
 exact ⟨l,i,g,c,ns,h⟩
theorem GFd.same {H H':Hp} {t l:Addr} {N:Nat} (F:GFd H t l N) (h:Same H H'):GFd H' t l N:=by
 obtain ⟨i,g,c,ns,h1,h2,h3,h4,h5,h6,h7,h8⟩:=F.at_
 exact ⟨i,g,c,ns,h1,h2,h3,h4,h _ _ h5,h6,h _ _ h7,h8⟩
theorem GFd.upd {H:Hp} {t l p:Addr} {o:HO} {N:Nat} (F:GFd H t l N) (h:H p=none):GFd (L2.upd H p o) t l N:=F.same (Same.upd h)
theorem GFeed.put {H:Hp} {t p:Addr} {o:HO} {N:Nat} {xs:List V} (F:GFeed H t N) (hp:p≠t) (hx:H p=some (.lst xs)) (hn:∀ ns:List Int,ns.length≠0->xs≠ns.map V.int):GFeed (L2.upd H p o) t N:=by
 obtain ⟨l,i,g,c,ns,h1,h2,h3,h4,h5,h6,h7,h8⟩:=F.at_
 have:p≠l:=fun e=>by
  rw [e,h7] at hx
  cases hx
  exact hn ns h8 rfl
 exact ⟨l,i,g,c,ns,h1,h2,h3,h4,by rw [AD (Ne.symm hp)];exact h5,h6,by rw [AD (Ne.symm this)];exact h7,h8⟩
noncomputable def Db:Sp:=fun vs H Q _=>match vs with
 | [.ref t,.int m]=>∃ l N,GFd H t l N/\N<=1000000000/\okDiv m/\∀ d H',0<=d->d < m->GFd H' t l (N+1)->(∀ b,b≠t->H' b=H b)->Q (.int d) H'
 | _=>False
theorem Ii (vs:List V) (H:Hp) (Q:VK) (E:XK) (h:Co vs H Q E):Db vs H Q E:=by
 unfold Co at h
 unfold Db
 split at h
 ·obtain ⟨N,F,h2,h3,q⟩:=h
  obtain ⟨l,F⟩:=F.told
  exact ⟨l,N,F,h2,h3,fun d H' a b c e=>q d H' a b c.feed e⟩
 ·exact h.elim
inductive Dw where
 | non | bl (b:Bool) | int (i:Int) | str (x:Str) | tup (ds:List Dw) | lst (ds:List Dw) | emp
noncomputable def Ib (a:Addr) (xs:List V):Heap->Prop:=fun h=>a≠sysModules/\∃ (its:List Value) (n:Nat),Vals xs its/\h.get? a=some { cls:=.type "list",data:=.seq its.toArray n }
mutual
noncomputable def RepW (K:W.Frag) (H:Hp):Dw->V->Prop
 | .non,v=>v=.non
 | .bl b,v=>v=.bl b
 | .int i,v=>v=.int i
 | .str x,v=>v=.str x
 | .tup ds,v=>∃ a xs,v=.ref a/\SqT K H a xs/\RepsW K H ds xs
 | .lst ds,v=>∃ a xs,v=.ref a/\H a=some (.ext (Ib a xs))/\RepsW K H ds xs
 | .emp,v=>∃ a,v=.ref a/\H a=some (.dK [])
noncomputable def RepsW (K:W.Frag) (H:Hp):List Dw->List V->Prop
 | [],xs=>xs=[]
 | d::ds,xs=>∃ x r,xs=x::r/\RepW K H d x/\RepsW K H ds r
end
theorem RepsW.length {K:W.Frag} {H:Hp}:∀ {ds:List Dw} {xs:List V},RepsW K H ds xs->ds.length=xs.length
 | [],xs,h=>by unfold RepsW at h;subst h;rfl
 | d::ds,xs,h=>by
  unfold RepsW at h
  obtain ⟨x,r,rfl,_,h⟩:=h
  rw [List.length_cons,List.length_cons,RepsW.length h]
theorem RepsW.get {K:W.Frag} {H:Hp}:∀ {ds:List Dw} {xs:List V} {i:Nat} {d:Dw},RepsW K H ds xs->ds[i]? = some d->∃ x,xs[i]? = some x/\RepW K H d x
 | [],_,_,_,_,e=>by simp at e
 | d::ds,xs,0,_,h,e=>by
  unfold RepsW at h
  obtain ⟨x,r,rfl,h1,_⟩:=h
  simp at e;subst e
  exact ⟨x,rfl,h1⟩
 | d::ds,xs,i+1,_,h,e=>by
  unfold RepsW at h
  obtain ⟨x,r,rfl,_,h⟩:=h
  obtain ⟨y,h1,h2⟩:=RepsW.get (i:=i) h (by simpa using e)
  exact ⟨y,by simpa using h1,h2⟩
theorem Cj {K:W.Frag} {H:Hp}:RepsW K H [] []:=by unfold RepsW;rfl
theorem EQ {K:W.Frag} {H:Hp} {d:Dw} {ds:List Dw} {x:V} {xs:List V} (h:RepW K H d x) (r:RepsW K H ds xs):RepsW K H (d::ds) (x::xs):=by unfold RepsW;exact ⟨x,xs,rfl,h,r⟩
theorem RepsW.append {K:W.Frag} {H:Hp}:∀ {ds es:List Dw} {xs ys:List V},RepsW K H ds xs->RepsW K H es ys->RepsW K H (ds++es) (xs++ys)
 | [],es,xs,ys,h,h'=>by unfold RepsW at h;subst h;exact h'
 | d::ds,es,xs,ys,h,h'=>by
  unfold RepsW at h
  obtain ⟨x,r,rfl,h1,h2⟩:=h
  exact EQ h1 (RepsW.append h2 h')
theorem RepsW.take {K:W.Frag} {H:Hp}:∀ (k:Nat) {ds:List Dw} {xs:List V},RepsW K H ds xs->RepsW K H (ds.take k) (xs.take k)
 | 0,_,_,_=>by simpa using Cj
 | k+1,[],xs,h=>by unfold RepsW at h;subst h;simpa using Cj
 | k+1,d::ds,xs,h=>by
  unfold RepsW at h
  obtain ⟨x,r,rfl,h1,h2⟩:=h
  simpa using EQ h1 (RepsW.take k h2)
theorem RepsW.drop {K:W.Frag} {H:Hp}:∀ (k:Nat) {ds:List Dw} {xs:List V},RepsW K H ds xs->RepsW K H (ds.drop k) (xs.drop k)
 | 0,_,_,h=>by simpa using h
 | k+1,[],xs,h=>by unfold RepsW at h;subst h;simpa using Cj
 | k+1,d::ds,xs,h=>by
  unfold RepsW at h
  obtain ⟨x,r,rfl,h1,h2⟩:=h
  simpa using RepsW.drop k h2
theorem RepsW.reverse {K:W.Frag} {H:Hp}:∀ {ds:List Dw} {xs:List V},RepsW K H ds xs->RepsW K H ds.reverse xs.reverse
 | [],xs,h=>by unfold RepsW at h;subst h;simpa using Cj
 | d::ds,xs,h=>by
  unfold RepsW at h
  obtain ⟨x,r,rfl,h1,h2⟩:=h
  rw [List.reverse_cons,List.reverse_cons]
  exact RepsW.append (RepsW.reverse h2) (EQ h1 Cj)
mutual
theorem RepW.same {K:W.Frag} {H H':Hp} (s:Same H H'):∀ (d:Dw) (v:V),RepW K H d v->RepW K H' d v
 | .non,v,h=>by unfold RepW at *;exact h
 | .bl b,v,h=>by unfold RepW at *;exact h
 | .int i,v,h=>by unfold RepW at *;exact h
 | .str x,v,h=>by unfold RepW at *;exact h
 | .emp,v,h=>by unfold RepW at *;obtain ⟨a,e,h⟩:=h;exact ⟨a,e,s _ _ h⟩
 | .tup ds,v,h=>by
  unfold RepW at *
  obtain ⟨a,xs,e,h1,h2⟩:=h
  exact ⟨a,xs,e,Bu h1 s,RepsW.same s ds xs h2⟩
 | .lst ds,v,h=>by
  unfold RepW at *
  obtain ⟨a,xs,e,h1,h2⟩:=h
  exact ⟨a,xs,e,s _ _ h1,RepsW.same s ds xs h2⟩
theorem RepsW.same {K:W.Frag} {H H':Hp} (s:Same H H'):∀ (ds:List Dw) (xs:List V),RepsW K H ds xs->RepsW K H' ds xs
 | [],xs,h=>by unfold RepsW at *;exact h
 | d::ds,xs,h=>by
  unfold RepsW at *
  obtain ⟨x,r,e,h1,h2⟩:=h
  exact ⟨x,r,e,RepW.same s d x h1,RepsW.same s ds r h2⟩
end
mutual
theorem RepW.frm {K:W.Frag} {H H':Hp} {t:Addr} (s:Frm t H H') (ht:∃ zs,H t=some (.lst zs)):∀ (d:Dw) (v:V),RepW K H d v->RepW K H' d v
 | .non,v,h=>by unfold RepW at *;exact h
 | .bl b,v,h=>by unfold RepW at *;exact h
 | .int i,v,h=>by unfold RepW at *;exact h
 | .str x,v,h=>by unfold RepW at *;exact h
 | .emp,v,h=>by
  unfold RepW at *
  obtain ⟨a,e,h⟩:=h
  obtain ⟨zs,hz⟩:=ht
  exact ⟨a,e,s a _ (fun q=>by rw [q,hz] at h;cases h) h⟩
 | .tup ds,v,h=>by
  unfold RepW at *
  obtain ⟨a,xs,e,h1,h2⟩:=h
  refine ⟨a,xs,e,?_,RepsW.frm s ht ds xs h2⟩
  obtain ⟨zs,hz⟩:=ht
  rcases h1 with (h1 | ⟨o,h1⟩) | h1
  ·exact .inl (.inl (s a _ (fun q=>by rw [q,hz] at h1;cases h1) h1))
  ·exact .inl (.inr ⟨o,s a _ (fun q=>by rw [q,hz] at h1;cases h1) h1⟩)
  ·exact .inr h1
 | .lst ds,v,h=>by
  unfold RepW at *
  obtain ⟨a,xs,e,h1,h2⟩:=h
  obtain ⟨zs,hz⟩:=id ht
  exact ⟨a,xs,e,s a _ (fun q=>by rw [q,hz] at h1;cases h1) h1,RepsW.frm s ht ds xs h2⟩
theorem RepsW.frm {K:W.Frag} {H H':Hp} {t:Addr} (s:Frm t H H') (ht:∃ zs,H t=some (.lst zs)):∀ (ds:List Dw) (xs:List V),RepsW K H ds xs->RepsW K H' ds xs
 | [],xs,h=>by unfold RepsW at *;exact h
 | d::ds,xs,h=>by
  unfold RepsW at *
  obtain ⟨x,r,e,h1,h2⟩:=h
  exact ⟨x,r,e,RepW.frm s ht d x h1,RepsW.frm s ht ds r h2⟩
end
section
variable {X:Cx} {K:W.Frag} {es:List Expr} {t:TA} {pos:Pos}
end
mutual
noncomputable def Fp:Dw->Nat
 | .tup ds=>EM ds+1
 | .lst ds=>EM ds+1
 | .emp=>1
 | _=>0
noncomputable def EM:List Dw->Nat
 | []=>0
 | d::ds=>max (Fp d) (EM ds)
end
mutual
noncomputable def FT:Dw->Nat
 | .str x=>x.cps.size
 | .tup ds=>EE ds
 | .lst ds=>EE ds
 | _=>0
noncomputable def EE:List Dw->Nat
 | []=>0
 | d::ds=>FT d+1+EE ds
end
section
variable {X:Cx} {pins:List (Addr × Obj)} {σ:St} {H:Hp} {s:Shared}
end
section
variable {X:Cx} {K:W.Frag}
end
mutual
noncomputable def okW (n:Nat):Dw->Bool
 | .int i=>decide (i.natAbs<=n)
 | .str x=>x.cps.toList.all fun c=>decide (c < 16 ^ 8)
 | .tup ds=>EH n ds
 | .lst ds=>EH n ds
 | _=>true
noncomputable def EH (n:Nat):List Dw->Bool
 | []=>true
 | d::ds=>okW n d && EH n ds
end
structure Fit (n D B:Nat) (d:Dw):Prop where
 ok:okW n d=true
 dep:Fp d<=D
 bulk:FT d<=B
section
variable {X:Cx} {K:W.Frag}
end
noncomputable def Ris (xs:Array Nat):Prop:=xs.toList.Pairwise (· < ·)
structure TabG (w:World) (t:SetTable):Prop where
 led:t.led = !w.params.followText "set-order"
 ris:Ris t.place
noncomputable def SetW (P:Program) (w:World) (h:Heap) (a:Addr) (S:Int->Bool) (n:Nat):Prop :=
 ∃ o es ep t,h.get? a=some o/\o.ExactSet/\o.data=.set es ep t/\ElemsOf (intKind P w) es.toList/\(∀ k,S k=true ↔ ∃ e∈es.toList,(intKind P w).is k e.2=true)/\es.size < scanBound/\t.fits es.size=true/\es.size=n/\TabG w t
section
variable {P:Program} {w:World} {A:Around} {E:Value->Shared->Prop} {s:Shared} {a:Addr}
theorem SetW.at {h h':Heap} {S:Int->Bool} {n:Nat} (x:SetW P w h a S n) (k:∀ o,h.get? a=some o->h'.get? a=some o):SetW P w h' a S n:=by
 obtain ⟨o,es,ep,t,h1,r⟩:=x;exact ⟨o,es,ep,t,k _ h1,r⟩
theorem SetW.of {h:Heap} {S:Int->Bool} {n:Nat} (x:SetW P w h a S n):h.SetOf (intKind P w) a S n:=by
 obtain ⟨o,es,ep,t,h1,h2,h3,h4,h5,h6,h7,h8,_⟩:=x;exact ⟨o,es,ep,t,h1,h2,h3,h4,h5,h6,h7,h8⟩
end
section
variable {P:Program} {w:World} {A:Around} {E:Value->Shared->Prop} {s:Shared} {a:Addr}
end
namespace F
end F
noncomputable def IsSetIter (h:Heap) (I:Addr) (f:Value) (i:Nat) (a:Addr) (n ep:Nat):Prop:=∃ o,h.get? I=some o/\o.cls=.type "set_iterator" /\ o.data=.fields #[f,.int i 0,.ref a,.int n 0,.int ep 0]
theorem IsSetIter.at {h h':Heap} {I a:Addr} {f:Value} {i n ep:Nat} (x:IsSetIter h I f i a n ep) (e:∀ o,h.get? I=some o->h'.get? I=some o):IsSetIter h' I f i a n ep:=let ⟨o,ho,r⟩:=x;⟨o,e _ ho,r⟩
section
variable {P:Program} {w:World} {A:Around} {E:Value->Shared->Prop} {s:Shared} {a I:Addr}
end
section
variable {P:Program} {w:World} {A:Around} {E:Value->Shared->Prop} {s:Shared} {a I:Addr}
end
end L2
namespace L2
open PySem PySem.Spec PyProof.Rows PySem.W PySem.Calls
section
variable {P:Program} {w:World} {A:Around} {E:Value->Shared->Prop} {s:Shared} {a I:Addr}
end
end L2
namespace L2
open PySem PySem.Spec PyProof.Rows
section
variable {X:Cx} {K:W.Frag} {P:Program} {w:World}
variable {C:Addr} {f:Str} {e o value:Expr} {ta tv td ty:TE} {pos pos':Pos}
end
end L2
namespace L2
open PySem PySem.Spec PyProof.Rows PySem.W
end L2
namespace L2
open PySem PySem.Spec PyProof.Rows PySem.W PySem.Calls
section
variable {P:Program} {w:World} {A:Around} {E:Value->Shared->Prop} {s:Shared}
noncomputable def PairAt (h:Heap) (v:Value) (k x:Int):Prop:=∃ a t u,v=.ref a/\h.get? a=some { cls:=.type "tuple",data:=.seq #[.int k t,.int x u] }
theorem PairAt.keep {h h':Heap} {v:Value} {k x:Int} (p:PairAt h v k x) (e:∀ b o,o.cls=.type "tuple" -> h.get? b=some o->h'.get? b=some o):PairAt h' v k x:=by
 obtain ⟨a,t,u,rfl,ha⟩:=p
 exact ⟨a,t,u,rfl,e _ _ rfl ha⟩
end
end L2
namespace L2
open PySem PySem.Spec PyProof.Rows PySem.W
section
variable {P:Program} {w:World} {A:Around} {E:Value->Shared->Prop} {s:Shared}
end
section
variable {X:Cx}
end
section
variable {X:Cx} {k:Nat} {f:Addr} {fd:FuncData} {ps:List Str} {sp:Sp} {x:Str} {p pos:Pos} {e:Expr} {es:List Expr} {t:TA} {tn:TE}
end
section
variable {X:Cx} {pins:List (Addr × Obj)} {σ:St} {H:Hp} {s:Shared}
end
section
variable {X:Cx} {Pt c f:Addr} {fd:FuncData} {ps:List Str} {k i:Nat} {kn a:Str} {kp pos lpos:Pos} {params:Arguments} {body:Expr} {scope:Scope} {e:Expr} {es:List Expr} {t:TA} {qual:Str} {spK:Addr->Addr->V->Sp}
end
end L2
namespace L2
open PySem PyProof.Rows
section
variable {X:Cx} {K:W.Frag} {o e:Expr} {to:TE} {t:TA} {apos cpos:Pos}
end
end L2
namespace L2
open PySem PySem.Spec PyProof.Rows PySem.SeqAt
section
variable {X:Cx} {K:W.Frag}
end
end L2
namespace L2
open PySem PySem.Spec PyProof.Rows
section
variable {X:Cx} {K:W.Frag}
end
section
variable {X:Cx} {K:W.Frag} {e:Expr} {te:TE} {p pos kpos cp:Pos} {kd:Nat} {i:Int}
end
end L2
namespace L2
open PySem PyProof.Rows
section
variable {X:Cx} {K:W.Frag} {o e:Expr} {to:TE} {t:TA} {apos cpos:Pos}
end
end L2
namespace L2
open PySem PySem.Spec PyProof.Rows
section
variable {X:Cx} {K:W.Frag} {e:Expr} {te:TE} {lo hi:Option Expr} {tl th:TO} {pos p2:Pos}
end
end L2
namespace L2
open PySem
section
variable {X:Cx} {pins:List (Addr × Obj)} {σ:St} {H:Hp} {s:Shared} {a:Addr}
variable {kvs:List (Key × V)} {i:Expr} {pos pos' apos:Pos} {ty:TE} {x:Str} {P:Program} {w:World} {K:W.Frag} {o:Expr} {td:TE}
end
end L2
namespace L2
open PySem Builtin Builtin.Str
section
variable {X:Cx} {a:Addr} {kvs:List (Key × V)} {o e:Expr} {ty to:TE} {t:TA} {apos cpos:Pos} {P:Program} {w:World} {K:W.Frag}
end
end L2
namespace L2
open PySem PyProof.Rows
section
variable {prog:Program} {w:World} {A:Around} {E:Value->Shared->Prop} {s:Shared}
structure Cmp (prog:Program) (w:World) (A:Around) (E:Value->Shared->Prop) (s:Shared) (kd:SortKind) (El:Keyed->Prop) (κ:Keyed->Int):Prop where
 lt:∀ (x y:Keyed) (st:SortSt) (Q:Option Bool->SortSt->Prop),El x->El y->kindOf st=kd->Q (some (decide (κ x < κ y))) st->wpS (model prog w) A E s (lt' x y) Q st
variable {kd:SortKind} {El:Keyed->Prop} {κ:Keyed->Int}
end
section
variable {κ:Keyed->Int}
noncomputable def Srt (κ:Keyed->Int) (l:List Keyed):Prop:=l.Pairwise fun x y=>κ x<=κ y
structure Mg (κ:Keyed->Int) (la lb o:List Keyed) (i j:Nat):Prop where
 il:i<=la.length
 jl:j<=lb.length
 perm:(o++(la.drop i++lb.drop j)).Perm (la++lb)
 srt:Srt κ o
 le:∀ x∈o,∀ y∈la.drop i++lb.drop j,κ x<=κ y
variable {la lb o:List Keyed} {i j n:Nat}
theorem DH {a b:List Keyed} (h1:Srt κ a) (h2:Srt κ b) (h:∀ x∈a,∀ y∈b,κ x<=κ y):Srt κ (a++b):=List.pairwise_append.mpr ⟨h1,h2,h⟩
theorem Mg.a (m:Mg κ la lb o i j) (ha:Srt κ la) (hn:i+n<=la.length) (h:∀ x∈(la.drop i).take n,∀ y∈lb.drop j,κ x<=κ y):Mg κ la lb (o++(la.drop i).take n) (i+n) j:=by
 have hd:la.drop i=(la.drop i).take n++la.drop (i+n):=by
  rw [<- List.drop_drop,List.take_append_drop]
 have hs:Srt κ (la.drop i):=List.Pairwise.sublist (List.drop_sublist _ _) ha
 have hs2:=hs
 rw [hd] at hs2
 obtain ⟨s1,s2,s3⟩:=List.pairwise_append.mp hs2
 refine ⟨hn,m.jl,?_,DH m.srt s1 fun x hx y hy=>m.le x hx y (List.mem_append_left _ (List.mem_of_mem_take hy)),fun x hx y hy=>?_⟩
 ·have:=m.perm
  rw [hd] at this
  rw [List.append_assoc]
  rw [List.append_assoc] at this
  exact this
 ·rcases List.mem_append.mp hx with hx | hx
  ·refine m.le x hx y ?_
   rcases List.mem_append.mp hy with hy | hy
   ·rw [hd];exact List.mem_append_left _ (List.mem_append_right _ hy)
   ·exact List.mem_append_right _ hy
  ·rcases List.mem_append.mp hy with hy | hy
   ·exact s3 x hx y hy
   ·exact h x hx y hy
theorem Mg.b (m:Mg κ la lb o i j) (hb:Srt κ lb) (hn:j+n<=lb.length) (h:∀ x∈(lb.drop j).take n,∀ y∈la.drop i,κ x<=κ y):Mg κ la lb (o++(lb.drop j).take n) i (j+n):=by
 have hd:lb.drop j=(lb.drop j).take n++lb.drop (j+n):=by
  rw [<- List.drop_drop,List.take_append_drop]
 have hs2:Srt κ (lb.drop j):=List.Pairwise.sublist (List.drop_sublist _ _) hb
 rw [hd] at hs2
 obtain ⟨s1,s2,s3⟩:=List.pairwise_append.mp hs2
 refine ⟨m.il,hn,?_,DH m.srt s1 fun x hx y hy=>m.le x hx y (List.mem_append_right _ (List.mem_of_mem_take hy)),fun x hx y hy=>?_⟩
 ·have h1:=m.perm
  rw [hd] at h1
  refine List.Perm.trans ?_ h1
  rw [List.append_assoc]
  refine List.Perm.append_left _ ?_
  rw [<- List.append_assoc,<- List.append_assoc]
  exact List.Perm.append_right _ List.perm_append_comm
 ·rcases List.mem_append.mp hx with hx | hx
  ·refine m.le x hx y ?_
   rcases List.mem_append.mp hy with hy | hy
   ·exact List.mem_append_left _ hy
   ·rw [hd];exact List.mem_append_right _ (List.mem_append_right _ hy)
  ·rcases List.mem_append.mp hy with hy | hy
   ·exact h x hx y hy
   ·exact s3 x hx y hy
end
structure Sg (st st':SortSt):Prop where
 k:kindOf st'=kindOf st
 a:arrOf st'=arrOf st
 p:pendingOf st'=pendingOf st
 f:failedOf st'=failedOf st
theorem Sg.trans {a b c:SortSt} (x:Sg a b) (y:Sg b c):Sg a c:=⟨y.k.trans x.k,y.a.trans x.a,y.p.trans x.p,y.f.trans x.f⟩
section
variable {prog:Program} {w:World} {A:Around} {E:Value->Shared->Prop} {s:Shared} {kd:SortKind} {El:Keyed->Prop} {κ:Keyed->Int}
end
section
variable {κ:Keyed->Int}
structure Hg (κ:Keyed->Int) (la lb o:List Keyed) (na nb:Nat):Prop where
 il:na<=la.length
 jl:nb<=lb.length
 perm:(la.take na++lb.take nb++o.reverse).Perm (la++lb)
 srt:Srt κ o.reverse
 le:∀ y∈la.take na++lb.take nb,∀ x∈o,κ y<=κ x
variable {la lb o:List Keyed} {na nb n:Nat}
theorem Gr {l:List Keyed} (h:n<=na):l.take na=l.take n++(l.take na).drop n:=by
 have:=List.take_append_drop n (l.take na)
 rw [List.take_take,Nat.min_eq_left h] at this
 exact this.symm
theorem Hg.a (m:Hg κ la lb o na nb) (ha:Srt κ la) (hn:n<=na) (h:∀ x∈(la.take na).drop n,∀ y∈lb.take nb,κ y<=κ x):Hg κ la lb (o++((la.take na).drop n).reverse) n nb:=by
 have hd:=Gr (l:=la) hn
 have hs2:Srt κ (la.take na):=List.Pairwise.sublist (List.take_sublist _ _) ha
 rw [hd] at hs2
 obtain ⟨s1,s2,s3⟩:=List.pairwise_append.mp hs2
 have ml:=m.le
 have mp:=m.perm
 generalize (la.take na).drop n=D at *
 rw [hd] at ml mp
 refine ⟨Nat.le_trans hn m.il,m.jl,?_,?_,fun y hy x hx=>?_⟩
 ·rw [List.reverse_append,List.reverse_reverse]
  refine List.Perm.trans ?_ mp
  rw [<- List.append_assoc]
  refine List.Perm.append_right _ ?_
  rw [List.append_assoc,List.append_assoc]
  exact List.Perm.append_left _ List.perm_append_comm
 ·rw [List.reverse_append,List.reverse_reverse]
  exact DH s2 m.srt fun x hx y hy=>ml x (by simp [hx]) y (List.mem_reverse.mp hy)
 ·rcases List.mem_append.mp hx with hx | hx
  ·refine ml y ?_ x hx
   rcases List.mem_append.mp hy with hy | hy
   ·simp [hy]
   ·simp [hy]
  ·replace hx:=List.mem_reverse.mp hx
   rcases List.mem_append.mp hy with hy | hy
   ·exact s3 y hy x hx
   ·exact h x hx y hy
theorem Hg.b (m:Hg κ la lb o na nb) (hb:Srt κ lb) (hn:n<=nb) (h:∀ x∈(lb.take nb).drop n,∀ y∈la.take na,κ y<=κ x):Hg κ la lb (o++((lb.take nb).drop n).reverse) na n:=by
 have hd:=Gr (l:=lb) hn
 have hs2:Srt κ (lb.take nb):=List.Pairwise.sublist (List.take_sublist _ _) hb
 rw [hd] at hs2
 obtain ⟨s1,s2,s3⟩:=List.pairwise_append.mp hs2
 have ml:=m.le
 have mp:=m.perm
 generalize (lb.take nb).drop n=D at *
 rw [hd] at ml mp
 refine ⟨m.il,Nat.le_trans hn m.jl,?_,?_,fun y hy x hx=>?_⟩
 ·rw [List.reverse_append,List.reverse_reverse]
  simpa [List.append_assoc] using mp
 ·rw [List.reverse_append,List.reverse_reverse]
  exact DH s2 m.srt fun x hx y hy=>ml x (by simp [hx]) y (List.mem_reverse.mp hy)
 ·rcases List.mem_append.mp hx with hx | hx
  ·refine ml y ?_ x hx
   rcases List.mem_append.mp hy with hy | hy
   ·simp [hy]
   ·simp [hy]
  ·replace hx:=List.mem_reverse.mp hx
   rcases List.mem_append.mp hy with hy | hy
   ·exact h x hx y hy
   ·exact s3 y hy x hx
end
section
variable {prog:Program} {w:World} {A:Around} {E:Value->Shared->Prop} {s:Shared} {kd:SortKind} {El:Keyed->Prop} {κ:Keyed->Int}
end
section
variable {prog:Program} {w:World} {A:Around} {E:Value->Shared->Prop} {s:Shared} {kd:SortKind} {El:Keyed->Prop} {κ:Keyed->Int}
end
section
variable {prog:Program} {w:World} {A:Around} {E:Value->Shared->Prop} {s:Shared} {kd:SortKind} {El:Keyed->Prop} {κ:Keyed->Int}
noncomputable def Kf (κ:Keyed->Int) (xs:Array Keyed) (i:Nat):Int:=match xs[i]? with
 | some p=>κ p
 | none=>0
structure Bs (kd:SortKind) (a₀:Array Keyed) (lo:Nat) (pe:Array (Nat × Nat × Nat)) (st:SortSt):Prop where
 perm:(arrOf st).Perm a₀
 kind:kindOf st=kd
 failed:failedOf st=none
 pend:pendingOf st=pe
 low:∀ i,i < lo->(arrOf st)[i]? = a₀[i]?
variable {a₀:Array Keyed} {lo:Nat} {pe:Array (Nat × Nat × Nat)}
theorem Bs.size {st:SortSt} (h:Bs kd a₀ lo pe st):(arrOf st).size=a₀.size:=h.perm.size_eq
theorem Bs.at {st:SortSt} (h:Bs kd a₀ lo pe st) (h0:∀ x∈a₀.toList,El x) {i:Nat} (hi:i < a₀.size):∃ x,(arrOf st)[i]? = some x/\El x/\Kf κ (arrOf st) i=κ x:=by
 have hi':i < (arrOf st).size:=by rw [h.size];exact hi
 have hm:(arrOf st)[i]∈a₀.toList:=(Array.perm_iff_toList_perm.mp h.perm).mem_iff.mp (by simp)
 have e:(arrOf st)[i]? = some (arrOf st)[i]:=getElem?_pos _ i hi'
 exact ⟨_,e,h0 _ hm,by unfold Kf;rw [e]⟩
end
section
variable {prog:Program} {w:World} {A:Around} {E:Value->Shared->Prop} {s:Shared} {kd:SortKind} {El:Keyed->Prop} {κ:Keyed->Int} {a₀:Array Keyed}
structure Dn (kd:SortKind) (κ:Keyed->Int) (a₀:Array Keyed) (st:SortSt):Prop where
 perm:(arrOf st).toList.Perm a₀.toList
 kind:kindOf st=kd
 failed:failedOf st=none
 pend:(pendingOf st).size<=1
 srt:Srt κ (arrOf st).toList
structure Tw (kd:SortKind) (κ:Keyed->Int) (a₀:Array Keyed) (n1 n2 pw:Nat) (st:SortSt):Prop where
 perm:(arrOf st).toList.Perm a₀.toList
 kind:kindOf st=kd
 failed:failedOf st=none
 pend:pendingOf st = #[(0,n1,pw),(n1,n2,0)]
 l1:0 < n1
 l2:0 < n2
 len:n1+n2=a₀.size
 s1:Srt κ ((arrOf st).toList.take n1)
 s2:Srt κ ((arrOf st).toList.drop n1)
end
section
variable {prog:Program} {w:World} {A:Around} {E:Value->Shared->Prop} {s:Shared}
end
end L2
namespace L2
open PySem PySem.Spec PyProof.Rows PySem.W
section
variable {P:Program} {w:World} {A:Around} {E:Value->Shared->Prop} {s:Shared} {a:Addr}
end
section
variable {X:Cx} {K:W.Frag} {P:Program} {w:World}
end
end L2
namespace L2
open PySem PySem.Spec PyProof.Rows PySem.W PySem.Calls
section
variable {P:Program} {w:World} {A:Around} {E:Value->Shared->Prop} {s:Shared}
noncomputable def PairV (h:Heap) (v:Value) (k:Int):Prop:=∃ a t y o n,v=.ref a/\h.get? a=some o/\o.cls=.type "tuple" /\ o.data=.seq #[.int k t,y] n
theorem PairV.keep {h h':Heap} {v:Value} {k:Int} (p:PairV h v k) (e:∀ b o,o.cls=.type "tuple" -> h.get? b=some o->h'.get? b=some o):PairV h' v k:=by
 obtain ⟨a,t,u,o,n,rfl,ha,hc,hd⟩:=p
 exact ⟨a,t,u,o,n,rfl,e _ _ hc ha,hc,hd⟩
end
end L2
namespace L2
open PySem PySem.Spec PyProof.Rows PySem.W
section
variable {P:Program} {w:World} {A:Around} {E:Value->Shared->Prop} {s:Shared}
end
section
variable {X:Cx}
end
section
variable {X:Cx}
end
section
variable {X:Cx}
end
end L2
namespace L2
open PySem PyProof.Rows
section
variable {prog:Program} {w:World} {A:Around} {E:Value->Shared->Prop} {s:Shared}
end
section
variable {prog:Program} {w:World} {K:Type} [DecidableEq K] {knd:KeyKind prog w K} {A:Around} {R:Result->Shared->Prop}
end
section
variable {prog:Program} {w:World} {K:Type} [DecidableEq K] {knd:KeyKind prog w K} {A:Around} {E:Value->Shared->Prop} {s:Shared}
end
section
variable {X:Cx}
end
end L2
namespace L2
open PySem PySem.Spec PyProof.Rows
section
variable {P:Program} {w:World} {A:Around} {E:Value->Shared->Prop} {s:Shared} {a:Addr}
end
section
variable {X:Cx} {K:W.Frag} {P:Program} {w:World}
end
section
variable {X:Cx} {K:W.Frag} {e sx:Expr} {te ts:TE} {pos p2:Pos}
end
section
variable {X:Cx}
end
end L2
namespace L2
end L2
namespace L2
open PySem PySem.Spec PyProof.Rows
noncomputable def ExA (h:Heap) (x:Addr) (cls:Value) (od:Option Addr) (t:Option (Addr × Value)):Prop :=
 ∃ oe vs,h.get? x=some oe/\oe.cls=cls/\oe.dict=od/\oe.data=.fields vs/\match t with
  | none=>vs[1]? = some .none
  | some (T,fl)=>vs[1]? = some (.ref T)/\T≠x/\∃ oT ts,h.get? T=some oT/\oT.data=.fields ts/\ts[3]? = some fl
noncomputable def Sl (fs ch:List Addr) (h h':Heap):Prop:=∀ b o,h.get? b=some o->b∉ch->(b∉fs->h'.get? b=some o)/\∃ sl,h'.get? b=some { o with slots:=sl }
theorem Sl.trans {fs ch:List Addr} {h h1 h2:Heap} (a:Sl fs ch h h1) (b:Sl fs ch h1 h2):Sl fs ch h h2:=fun x o e n=>by
 obtain ⟨h3,sl,h4⟩:=a x o e n
 obtain ⟨_,sl2,h6⟩:=b x _ h4 n
 exact ⟨fun nf=>(b x o (h3 nf) n).1 nf,sl2,h6⟩
section
variable {M:Model} {A:Around} {E:Value->Shared->Prop} {s:Shared}
theorem Kj (h:Heap) (a:Addr) (f:Obj->Obj):(h.update a f).objs.size=h.objs.size:=by
 have:=(Heap.SameBut.update h a f).1
 exact this
theorem HB {base:Heap} {env:Env} {outer:List Env} {L x:Addr} {cls head:Value} {od:Option Addr} {oe:Obj} {vs:Array Value} {hadNext:Bool} {Q:Unit->Shared->Prop}
 (hfr:A.frames=some (env::outer)) (hl:s.heap.FunFrames base (env::outer)) (hf:env.frame=some L) (he:s.heap.get? x=some oe) (hc:oe.cls=cls) (ho:oe.dict=od) (hd:oe.data=.fields vs) (hsz:1 < vs.size)
 (k:∀ h' T,ExA h' x cls od (some (T,rawInt L))->s.heap.get? T=none->Sl (frs (env::outer)) [x] s.heap h'->Q () { s with heap:=h' }) :
 wpAny M A (do let a <- frameOf env;let pl <- entryPlaceOf L hadNext;let b <- EntryCells.newEntry head a .none (rawInt L) .none pl;setField (.ref x) 1 b) Q E s:=by
 have hxf:x∉frs (env::outer):=fun hm=>by
  obtain ⟨_,o,h1,h2⟩:=hl.mem hm
  rw [he] at h1
  cases h1
  exact h2 vs hd
 refine wpAny_bind (wpAny_frameOf_fun hfr hl hf fun g1 sg=>wpAny_bind (wpAny_entryPlaceOf fun pl hpl=>?_))
 obtain ⟨sz1,sm1,so1⟩:=sg
 unfold EntryCells.newEntry newFields
 refine wpAny_bind (wpAny_newObj_type ?_ (hpl.sizeOk5 _ _ _ _ _))
 have e1:g1.get? x=some oe:=by rw [sm1 x hxf];exact he
 generalize hob:({ cls:=.type "traceback",dict:=none,data:=.fields ([head,.ref L,.none,rawInt L,.none]++(if pl.isEmpty then List.replicate 6 Value.none else pl)).toArray }:Obj)=ob
 have e2:=Heap.get?_push_of_some ob e1
 refine wpAny_setField e2 hd hsz ?_
 have nT:g1.objs.size≠x:=Nat.ne_of_gt (Heap.lt_size e1)
 have obf:ob.isFreed=false:=by rw [<- hob];rfl
 have eT:=Heap.get?_push_size g1 obf
 have d3:=Obj.data_mapFields hd (·.setIfInBounds 1 (Value.ref g1.objs.size))
 refine k _ g1.objs.size ⟨_,_,Heap.get?_update_self _ e2 (Obj.isFreed_of_fields d3),(Obj.cls_mapFields ..).trans hc,?_,d3,by simp [hsz],nT,ob,_,?_,by rw [<- hob],?_⟩ (Heap.get?_none_of_le (by rw [sz1];exact Nat.le_refl _)) fun b o hb hn=>?_
 ·obtain ⟨c,d,dt,sl⟩:=oe
  cases dt <;> first | (cases hd;done) | exact ho
 ·rw [Heap.get?_update_other _ _ (Ne.symm nT)]
  exact eT
 ·first | (simp;done) | (rcases hpl with rfl | ⟨_,_,_,_,_,_,_,rfl⟩ <;> simp)
 ·have nb:b≠x:=fun z=>hn (by rw [z];exact List.mem_singleton.mpr rfl)
  refine ⟨fun nf=>?_,?_⟩
  ·rw [Heap.get?_update_other _ _ (Ne.symm nb)]
   exact Heap.get?_push_of_some _ (by rw [sm1 b nf];exact hb)
  ·obtain ⟨sl,e5⟩:=so1 b o hb
   exact ⟨sl,by rw [Heap.get?_update_other _ _ (Ne.symm nb)];exact Heap.get?_push_of_some _ e5⟩
theorem Hx {base:Heap} {env:Env} {outer:List Env} {L x:Addr} {cls:Value} {od:Option Addr} {t:Option (Addr × Value)} {Q:Unit->Shared->Prop}
 (hfr:A.frames=some (env::outer)) (hl:s.heap.FunFrames base (env::outer)) (hf:env.frame=some L) (he:ExA s.heap x cls od t) (ht:t=none\/∃ T,t=some (T,.none))
 (k:∀ h' T,ExA h' x cls od (some (T,rawInt L))->s.heap.get? T=none->Sl (frs (env::outer)) (x::(t.map (·.1)).toList) s.heap h'->Q () { s with heap:=h' }):wpAny M A (noteFrame (.ref x) env) Q E s:=by
 obtain ⟨oe,vs,e1,e2,e3,e4,e5⟩:=he
 unfold noteFrame
 simp only [hf]
 rcases ht with rfl | ⟨T0,rfl⟩
 ·refine wpAny_bind (wpAny_field e1 e4 e5 ?_)
  rw [if_neg (by decide)]
  exact HB hfr hl hf e1 e2 e3 e4 (Array.getElem?_eq_some_iff.mp e5).1 k
 ·obtain ⟨e5,nT,oT,ts,g1,g2,g3⟩:=e5
  refine wpAny_bind (wpAny_field e1 e4 e5 ?_)
  rw [if_pos (by simp)]
  refine wpAny_bind (wpAny_field g1 g2 g3 ?_)
  rw [if_neg (by simp [rawInt])]
  refine wpAny_bind (wpAny_setField g1 g2 (Array.getElem?_eq_some_iff.mp g3).1 ?_)
  have ot:∀ b,b≠T0->(s.heap.update T0 (Obj.mapFields (·.setIfInBounds 3 Value.none))).get? b=s.heap.get? b:=fun b hb=>Heap.get?_update_other _ _ (Ne.symm hb)
  have nf:∀ b o,s.heap.get? b=some o->(∀ vs,o.data≠.fields vs)->b≠T0:=fun b o hb h z=>by
   rw [z,g1] at hb
   cases hb
   exact h ts g2
  refine HB hfr (hl.of_keeps fun b o hb h=>⟨o,by rw [ot b (nf b o hb h)];exact hb,rfl⟩) hf (by rw [ot x (Ne.symm nT)];exact e1) e2 e3 e4 (Array.getElem?_eq_some_iff.mp e5).1 fun h' T a1 a2 a3=>k h' T a1 ?_ fun b o hb hn=>?_
  ·cases q:s.heap.get? T with
   | none=>rfl
   | some o =>
    by_cases z:T=T0
    ·have hf3:=Obj.data_mapFields g2 (·.setIfInBounds 3 Value.none)
     have:=Heap.get?_update_self (Obj.mapFields (·.setIfInBounds 3 Value.none)) g1 (Obj.isFreed_of_fields hf3)
     rw [z] at a2
     rw [this] at a2
     cases a2
    ·rw [ot T z,q] at a2
     cases a2
  ·have n1:b≠x:=fun z=>hn (by rw [z];exact List.mem_cons_self)
   have n2:b≠T0:=fun z=>hn (by rw [z];exact List.mem_cons_of_mem _ (List.mem_singleton.mpr rfl))
   exact a3 b o (by rw [ot b n2];exact hb) (fun z=>n1 (List.mem_singleton.mp z))
theorem E4 {x T:Addr} {cls fl:Value} {od:Option Addr} {Q:Unit->Shared->Prop} (he:ExA s.heap x cls od (some (T,fl)))
 (k:∀ h',ExA h' x cls od (some (T,.none))->(∀ b,b≠T->h'.get? b=s.heap.get? b)->h'.objs.size=s.heap.objs.size->Q () { s with heap:=h' }):wpAny M A (setFlight (.ref x) none) Q E s:=by
 obtain ⟨oe,vs,e1,e2,e3,e4,e5,nT,oT,ts,g1,g2,g3⟩:=he
 have z3:3 < ts.size:=(Array.getElem?_eq_some_iff.mp g3).1
 unfold setFlight
 refine wpAny_bind (wpAny_field e1 e4 e5 ?_)
 rw [if_pos (by simp)]
 refine wpAny_setField g1 g2 z3 (k _ ⟨oe,vs,?_,e2,e3,e4,e5,nT,_,_,Heap.get?_update_self _ g1 (Obj.isFreed_of_fields (Obj.data_mapFields g2 _)),Obj.data_mapFields g2 _,by simp [z3]⟩ (fun b hb=>Heap.get?_update_other _ _ (Ne.symm hb)) (Kj ..))
 rw [Heap.get?_update_other _ _ nT]
 exact e1
theorem Fb {base:Heap} {env:Env} {outer:List Env} {L x:Addr} {cls:Value} {od:Option Addr} {t:Option (Addr × Value)} {Q:Unit->Shared->Prop}
 (hfr:A.frames=some (env::outer)) (hl:s.heap.FunFrames base (env::outer)) (hf:env.frame=some L) (he:ExA s.heap x cls od t) (ht:t=none\/∃ T,t=some (T,.none))
 (k:∀ h' T,ExA h' x cls od (some (T,.none))->s.heap.get? T=none->Sl (frs (env::outer)) (x::(t.map (·.1)).toList) s.heap h'->Q () { s with heap:=h' }) :
 wpAny M A (noteFrame (.ref x) env) (fun _ s1=>wpAny M A (setFlight (.ref x) none) Q E s1) E s :=
 Hx hfr hl hf he ht fun h1 T a1 a2 a3=>E4 (s:={ s with heap:=h1 }) a1 fun h2 b1 b2 b3=>k h2 T b1 a2 fun b o hb hn=>by
  obtain ⟨c1,sl,c2⟩:=a3 b o hb hn
  have nT:b≠T:=fun z=>by rw [z,a2] at hb;cases hb
  exact ⟨fun nf=>(b2 b nT).trans (c1 nf),sl,(b2 b nT).trans c2⟩
theorem LM {base:Heap} {env:Env} {outer:List Env} {L x:Addr} {cls:Value} {od:Option Addr} {t:Option (Addr × Value)} {Q:Unit->Shared->Prop}
 (hfr:A.frames=some (env::outer)) (hl:s.heap.FunFrames base (env::outer)) (hf:env.frame=some L) (he:ExA s.heap x cls od t) (ht:t=none\/∃ T,t=some (T,.none))
 (k:∀ h' T,ExA h' x cls od (some (T,.none))->s.heap.get? T=none->Sl (frs (env::outer)) (x::(t.map (·.1)).toList) s.heap h'->Q () { s with heap:=h' }):wpAny M A (leaving env (.ref x)) Q E s:=by
 unfold leaving
 exact wpAny_bind (Fb hfr hl hf he ht k)
end
noncomputable def CXE (P:Program) (w:World):CXT:=fun outer H s E e s'=>∃ x cls od T H',e=.ref x/\s'.os=s.os/\AllBare s'.gens/\Un (frs outer) [] H H' s.heap s'.heap/\HOk P w H' s'.heap/\ExA s'.heap x cls od (some (T,.none))/\(s.heap.get? x=none/\s.heap.get? T=none)/\(H' x=none/\H' T=none)/\E cls od H'
theorem Fun.okE {P:Program} {w:World} {K:W.Frag} {mg:Str->Option Value} {base:Heap} {x qual:Str} {st:Stmt} {f:Addr} {fd:FuncData} {N ps:List Str} {k:Nat} {sp:Sp} (F:Fun K x qual st f fd) (S:FnScope N ps (AI st)) (len:∀ vs H Q E,sp vs H Q E->vs.length=ps.length)
 (hbody:∀ (cdv:Value) (A:Around) (outer:List Env) (s:Shared) (H:Hp) (vs:List V) (Q:VK) (E:XK),Room k (A.deeper (envOfC qual (AI st) s.heap.objs.size f cdv))->sp vs H Q E ->
   ∃ t,PSs (BQ (CXE P w) P w K mg base N qual (AI st) f cdv A outer s H E) (AV st) t/\t { nx:=fun _ H'=>Q .non H',rt:=Q } (BO N vs) H):FnOk P w K mg base (CXE P w) (k+1) f fd ps sp:=by
 obtain ⟨oc,od,kV,doc,pm,an,cdv,ct,osl,rfl,lk,hcd⟩:=F.ex
 exact Gg lk hcd S len fun A outer s H vs Q E hr hsp=>hbody cdv A outer s H vs Q E hr hsp
section
variable {X:Cx} {pins:List (Addr × Obj)} {σ:St} {H H':Hp} {s:Shared} {h':Heap}
theorem PS.nox {st:Stmt} {t:TS} (h:PS X.nox st t):PS X st t:=fun pins s σ H D I hw =>
 wpAny_mono (h pins s σ H D (I.wish _) hw) (fun _ _ q=>q.unwish) fun _ _ z=>False.elim z
theorem ObjOk.is {P:Program} {w:World} {h:Heap} {a:Addr} {o:HO} (x:ObjOk P w H h a o):∃ u,h.get? a=some u:=by
 cases o with
 | lst xs=>obtain ⟨_,_,_,_,e⟩:=x;exact ⟨_,e⟩
 | tup xs=>obtain ⟨_,_,_,o,e,_⟩:=x;exact ⟨_,e⟩
 | dK kvs=>obtain ⟨_,_,_,_,o,_,_,e,_⟩:=x;exact ⟨_,e⟩
 | dT kvs=>obtain ⟨_,_,_,_,o,_,_,e,_⟩:=x;exact ⟨_,e⟩
 | set S n=>obtain ⟨o,_,_,_,e,_⟩:=x;exact ⟨_,e⟩
 | ins C dx fs=>obtain ⟨_,_,_,e,_⟩:=x;exact ⟨_,e⟩
 | own y=>exact x
 | xd fs=>obtain ⟨_,⟨_,_,_,e,_⟩,_⟩:=x;exact ⟨_,e⟩
 | rng lo hi=>obtain ⟨_,_,_,e⟩:=x;exact ⟨_,e⟩
 | frz ob u=>obtain ⟨e,_⟩:=x;exact ⟨_,e⟩
 | tbl ps=>exact ⟨_,x⟩
 | met f y=>exact ⟨_,x⟩
 | ext φ=>obtain ⟨_,e,_⟩:=x;exact e
theorem Cq {P:Program} {w:World} {h:Heap} {a:Addr} (hok:HOk P w H h) (n:h.get? a=none):H a=none:=by
 cases e:H a with
 | none=>rfl
 | some o =>
  obtain ⟨u,q⟩:=(hok a o e).is
  rw [n] at q
  cases q
end
noncomputable abbrev Ek:List Value:=[.type "ValueError",.type "Exception",.type "BaseException",.type "object"]
section
variable {X:Cx} {C:Addr} {c:Str} {np cpos pos:Pos} {e:Expr} {es:List Expr} {ta:TA} {W:Hp->Prop}
end
noncomputable def Ee (x:Addr) (cls:Value) (od:Option Addr) (h:Heap):Prop:=∃ oe vs,h.get? x=some oe/\oe.cls=cls/\oe.dict=od/\oe.data=.fields vs
noncomputable abbrev BB (x:Addr) (cls:Value) (od:Option Addr):HO:=.ext (Ee x cls od)
theorem KH {P:Program} {w:World} {H:Hp} {h:Heap} {x:Addr} {cls:Value} {od:Option Addr} (e:Ee x cls od h):ObjOk P w H h x (BB x cls od) :=
 ⟨e,let ⟨oe,_,q,_⟩:=e;⟨oe,q⟩,fun _ _ ⟨oe,vs,q,r⟩ k=>⟨oe,vs,k oe q,r⟩⟩
theorem ExA.has {h:Heap} {x:Addr} {cls:Value} {od:Option Addr} {t:Option (Addr × Value)} (e:ExA h x cls od t):Ee x cls od h:=let ⟨oe,vs,a,b,c,d,_⟩:=e;⟨oe,vs,a,b,c,d⟩
noncomputable def Cx.hand (X:Cx) (e:Value):Cx:={ X with A:=X.A.mark (some e),calm:=false,xe:=fun _ _=>False }
section
variable {X:Cx} {pins:List (Addr × Obj)} {σ:St} {H H':Hp} {s s1:Shared} {h:Heap}
theorem Inv.hand (I:Inv X pins σ H s) (e:Value):Inv (X.hand e) pins σ H s :=
 ⟨⟨I.ok.mod,I.ok.kind,I.ok.glob,I.ok.blt,I.ok.above,I.ok.inj,I.ok.has,I.ok.cab,(fun z=>by cases z),I.ok.frames,I.ok.stk,I.ok.exf,I.ok.bs,I.ok.bsz,I.ok.noex,I.ok.exfs,I.ok.funs,I.ok.frf⟩,I.os,I.bare,I.base,I.loc,I.cell,I.free,I.freeC,I.pin,I.hok,I.len⟩
theorem Inv.unhand {e:Value} (J:Inv X pins σ H s) {pins':List (Addr × Obj)} {σ':St} {H1:Hp} {s2:Shared} (I:Inv (X.hand e) pins' σ' H1 s2):Inv X pins' σ' H1 s2 :=
 ⟨J.ok,I.os,I.bare,I.base,I.loc,I.cell,I.free,I.freeC,I.pin,I.hok,I.len⟩
theorem GJ {x T:Addr} {cls:Value} {od:Option Addr} {t:Option (Addr × Value)} (I:Inv X pins σ H s) (ho:s1.os=s.os) (hb:AllBare s1.gens) (u:Un (frs X.stack) [] H H' s.heap s1.heap) (hk:HOk X.prog X.w H' s1.heap)
 (nx:s.heap.get? x=none) (nT:s.heap.get? T=none) (fx:H' x=none) (fT:H' T=none) (c:Sl (frs X.stack) [x,T] s1.heap h) (ex:ExA h x cls od t):Inv X pins σ (upd H' x (BB x cls od)) { s1 with heap:=h }:=by
 have I1:Inv X pins σ H' s1:=I.call' ho u hk hb (ch:=[]) fun b z=>absurd z (by simp)
 have hxH:H x=none:=Cq I.hok nx
 have up:∀ b,b≠x->upd H' x (BB x cls od) b=H' b:=fun b n=>AD n
 have nin:∀ b o,s.heap.get? b=some o->b∉[x,T]:=fun b o e z=>by
  rcases List.mem_cons.mp z with rfl | z
  ·rw [nx] at e;cases e
  ·rw [List.mem_singleton.mp z,nT] at e;cases e
 refine I.call' (s':={ s1 with heap:=h }) (ch:=[]) ho ⟨fun b o e n nb hx=>?_,fun b o e n nb hx=>?_,fun b o e n hx=>?_,fun b o e hx=>?_,fun b xs e=>?_,fun b o v e=>?_,fun b ps e=>?_⟩ (fun b ob e=>?_) hb fun b z=>absurd z (by simp)
 ·exact (c b o (u.keep b o e n nb hx) (nin b o e)).1 nb
 ·obtain ⟨sl,e1⟩:=u.slot b o e n nb hx
  obtain ⟨sl2,e2⟩:=(c b _ e1 (nin b o e)).2
  exact ⟨sl2,e2⟩
 ·rw [up b fun z=>by rw [z,nx] at e;cases e]
  exact u.free b o e n hx
 ·obtain ⟨o1,e1⟩:=u.there b o e hx
  obtain ⟨sl2,e2⟩:=(c b _ e1 (nin b o e)).2
  exact ⟨_,e2⟩
 ·rw [up b fun z=>by rw [z,hxH] at e;cases e]
  exact u.tups b xs e
 ·rw [up b fun z=>by rw [z,hxH] at e;cases e]
  exact u.frzs b o v e
 ·rw [up b fun z=>by rw [z,hxH] at e;cases e]
  exact u.tbls b ps e
 ·by_cases z:b=x
  ·subst z
   rw [AE] at e
   cases e
   exact KH ex.has
  ·rw [up b z] at e
   have neq:∀ c2 o2,H' c2=some o2->c2≠x:=fun c2 o2 q z=>by rw [z,fx] at q;cases q
   refine (hk b ob e).stay (fun c2 v hc q=>?_) (fun c2 q=>by rw [up c2 (neq _ _ q)];exact q) fun c2 xs q=>by rw [up c2 (neq _ _ q)];exact q
   obtain ⟨o2,q2⟩:∃ o2,H' c2=some o2:=by
    rcases hc with rfl | hc
    ·exact ⟨_,e⟩
    ·exact ⟨_,hc⟩
   refine (c c2 v q fun m=>?_).1 fun m=>?_
   ·rcases List.mem_cons.mp m with z2 | z2
    ·exact neq _ _ q2 z2
    ·rw [List.mem_singleton.mp z2,fT] at q2;cases q2
   ·rw [I1.stkFree c2 m] at q2;cases q2
theorem C4 {M:Model} {A:Around} {E:Value->Shared->Prop} {i:Nat} {x:Str} {pos:Pos} {Q:Unit->Shared->Prop} (I:Inv X pins σ H s) (hN:X.N.Nodup) (hi:X.N[i]? = some x) (hk:X.env.kindOf x=some .local)
 (h:∀ s',Inv X pins (σ.set i none) H s'->Q () s'):wpAny M A (do bindName X.env x .none;unbindBehindTheSuite X.env x pos) Q E s:=by
 obtain ⟨m,hn,hl⟩:=id I.loc
 have hcls:(X.env.scope.kind == .class || (X.env.scope.kind == .module && X.env.locals != X.env.globals))=false:=by rw [I.ok.kind];rfl
 have hiσ:i < σ.length:=by rw [I.len];exact (List.getElem?_eq_some_iff.mp hi).1
 have cne:=I.cne
 refine wpAny_nameGoes_keeps hk hn hcls fun h' v hn' hs=>?_
 obtain ⟨oL,_,_,hoL,_⟩:=id hn
 refine h _ ⟨I.ok,I.os,I.bare,⟨fun b o e n hb hx=>?_,fun b o e n hb hx=>?_,I.base.free,fun b o e hx=>?_,I.base.tups,I.base.frzs,I.base.tbls⟩,⟨_,hn',fun j y v' e1 e2 e3=>?_⟩,fun y c e=>?_,I.free,I.freeC,fun p hp=>?_,fun b ob e=>?_,by simpa using I.len⟩
 ·exact (hs.2 b (Nat.ne_of_lt (Nat.lt_of_lt_of_le (Heap.lt_size e) I.ok.above))).trans (I.base.keep b o e n hb hx)
 ·obtain ⟨sl,e1⟩:=I.base.slot b o e n hb hx
  exact ⟨sl,(hs.2 b (Nat.ne_of_lt (Nat.lt_of_lt_of_le (Heap.lt_size e) I.ok.above))).trans e1⟩
 ·obtain ⟨o',e1⟩:=I.base.there b o e hx
  exact ⟨o',(hs.2 b (Nat.ne_of_lt (Nat.lt_of_lt_of_le (Heap.lt_size e) I.ok.above))).trans e1⟩
 ·by_cases hj:j=i
  ·subst hj
   rw [List.getElem?_set_self hiσ] at e2
   cases e2
  ·rw [List.getElem?_set_ne (Ne.symm hj)] at e2
   obtain ⟨u',r',q⟩:=hl j y v' e1 e2 e3
   refine ⟨u',r',?_⟩
   rcases q with ⟨k,e⟩ | ⟨k,c,e,z⟩
   ·refine .inl ⟨k,?_⟩
    have:y≠x:=fun e=>hj (D6 hN e1 (e ▸ hi))
    simp [this,e]
   ·exact .inr ⟨k,c,e,z.sameBut hs (cne y c e)⟩
 ·obtain ⟨w',z⟩:=I.cell y c e
  exact ⟨w',z.sameBut hs (cne y c e)⟩
 ·obtain ⟨e,n,ne,nf,d⟩:=I.pin p hp
  exact ⟨(hs.2 p.1 ne).trans e,n,ne,nf,d⟩
 ·refine (I.hok b ob e).stay (fun c w' hc q=>(hs.2 c ?_).trans q) (fun _ q=>q) fun _ _ q=>q
  rintro rfl
  rcases hc with rfl | hc
  ·rw [I.free] at e;cases e
  ·rw [I.free] at hc;cases hc
end
noncomputable abbrev TX:=St->Hp->VK->XK->Prop
noncomputable def PX (X:Cx) (e:Expr) (t:TX):Prop :=
 ∀ (pins:List (Addr × Obj)) (s:Shared) (σ:St) (H:Hp) (Q:VK) (E:XK),Inv X pins σ H s->t σ H Q E->wpAny (model X.prog X.w) X.A (eval e X.env) (EP X pins σ Q) (fun ev s'=>∃ H1 s1,Inv X pins σ H1 s1/\CXE X.prog X.w X.stack H1 s1 E ev s') s
noncomputable def K7 (sp:Sp) (dvs:List V) (t:TA):TX:=fun σ H Q E=>t σ H fun vs H1=>sp (vs++dvs) H1 Q E
noncomputable def Ends.off (D:Ends) (j:Nat):Ends:={ nx:=fun σ H=>D.nx (σ.set j none) H,rt:=D.rt,bk:=fun σ H=>D.bk (σ.set j none) H,ct:=fun σ H=>D.ct (σ.set j none) H }
noncomputable def Kr (K:W.Frag) (C:Addr) (i j:Nat) (tx:TX) (ts:TS):TS:=fun D σ H =>
 tx σ H (fun v H1=>D.nx (σ.set i (some v)) H1) fun cls od H1=>PySem.W.exmOne K cls (.ref C)=some true/\∀ x,H1 x=none->ts (D.off j) (σ.set j (some (.ref x))) (upd H1 x (BB x cls od))
section
variable {X:Cx} {k:Nat} {f C:Addr} {fd:FuncData} {ps:List Str} {sp:Sp} {dvs:List V} {ds:List Value} {x c y n:Str} {p p1 p2 p3 pos:Pos} {e:Expr} {es:List Expr} {t:TA} {tx:TX} {ts:TS} {i j:Nat} {b:Stmt} {bs:List Stmt}
theorem JJ (F:FnOk X.prog X.w X.K X.mg X.base (CXE X.prog X.w) k f fd ps sp) (hr:Room k X.A) (hg:Gl X x) (hm:X.mg x=some (.ref f)) (hk:PySem.W.keepIn X.K (.ref f)=true) (hb:Binds X.K fd ps ds) (hd:Vals dvs ds)
 (ha:PA X.nox (e::es) t) (hdb:(x == ("__debug__" : Str))=false:=by decide) (he:starEach (e::es) X.env=(false,eval e X.env)::starEach es X.env:=by rfl) (hpl:(backTo pos (starEach es X.env)).any (·.1)=false:=by rfl) :
 PX X (.Call (.Name x p) (e::es) [] pos) (K7 sp dvs t):=by
 intro pins s σ H Q E I h
 refine wpAny_Call_Name_kw (Ck I hg hm ?_ hdb)
 refine PySem.W.callWith_K (h₀:=X.base) I.ok.mod.kin hk (wpAny_mono (ha pos pins s σ H _ (I.wish _) h) (fun us s1 ⟨vs,H1,I1,r,q⟩=>⟨I1.kIn,?_⟩) fun _ _ z=>False.elim z) he hpl
 have I1:=I1.unwish
 have r2:Vals (vs++dvs) (us++ds):=r.append hd
 have hl:(us++ds).length=ps.length:=by rw [<- r2.length];exact F.len _ _ _ _ q
 refine wpAny_call (codeAny_mono (F.run X.A X.stack s1 H1 ⟨us,[]⟩ (us++ds) (vs++dvs) Q E hr I1.env0 (hb s1 us I1.kIn hl) r2 q) fun r s' hq=>?_)
 cases r with
 | error ev=>exact ⟨H1,s1,I1,hq⟩
 | ok fl =>
  cases fl with
  | ret u=>exact I1.after hq
  | next=>exact False.elim hq
  | brk=>exact False.elim hq
  | cont=>exact False.elim hq
theorem LC (hN:X.N.Nodup) (hi:X.N[i]? = some x) (hx:Loc X.env.scope x) (hj:X.N[j]? = some n) (hn:X.env.kindOf n=some .local) (hstk:X.stack=X.env::X.outer) (hfr:X.env.frame=some X.env.locals) (hg:Gl X c) (hm:X.mg c=some (.ref C))
 (he:PX X e tx) (hs:∀ a,PSs (X.hand (.ref a)) (b::bs) ts) (hsw:swapsWith e (some (.Name x p1)) p2.line X.env=pure false:=by rfl) (hf:X.fn x=true\/X.env.scope.names.lookup x=some .local:=by first | exact .inl rfl | exact .inr rfl | assumption)
 (hdb:(c == ("__debug__" : Str))=false:=by decide):PS X (.Try [.Assign [.Name x p1] e p2] [.ExceptHandler (some (.Name c p3)) (some n) (b::bs) p] [] [] pos) (Kr X.K C i j tx ts):=by
 intro pins s σ H D I h
 refine wpAny_Try_except (wpAny_execs_cons (wpAny_Assign_Name (wpAny_mono (he pins s σ H _ _ I h) (fun v s1 ⟨y,H1,I1,r1,q1⟩=>?_) fun ev s' ⟨H1,s1,I1,q⟩=>?_) hsw))
 ·exact Do I1 hN hi hx r1 (fun s2 I2=>wpAny_execs_nil (wpAny_execs_nil ⟨_,H1,I2,q1⟩)) hf
 obtain ⟨a,cls,od,T,H2,rfl,ho,hb,u,hk,ex,⟨n1,n2⟩,⟨f1,f2⟩,hex,ht⟩:=q
 have J:Inv X pins σ H2 s':=I1.call' ho u hk hb (ch:=[]) fun b z=>absurd z (by simp)
 refine Fb (base:=X.base) (outer:=X.outer) (L:=X.env.locals) (by rw [J.ok.frames,hstk]) (by have:=J.stack;rwa [hstk] at this) hfr ex (.inr ⟨T,rfl⟩) fun h2 T2 a1 a2 a3=>?_
 rw [<- hstk] at a3
 have I2:=GJ (h:=h2) I1 ho hb u hk n1 n2 f1 f2 a3 a1
 refine wpAny_handleBy_cons (codeAny_handlers_test (Ck (I2.hand (.ref a)) hg hm ?_ hdb)) (by intro q;cases q)
 have hob:=a1
 obtain ⟨oe,vs,o1,o2,_⟩:=hob
 subst o2
 have LT:PySem.W.Looks (model X.prog X.w) h2 (typeOf (.ref a)) oe.cls:=(PySem.W.Looks.ld o1).andThen .now
 refine (PySem.W.exm_one I2.kIn LT hex).here ?_
 refine codeAny_handlers_suite_as (E4 (s:={ s' with heap:=h2 }) a1 fun h3 b1 b2 b3=>?_)
 have I3:=GJ (h:=h3) I1 ho hb u hk n1 n2 f1 f2 (fun b o eb nb=>by
  have nT2:b≠T2:=fun z=>by rw [z,a2] at eb;cases eb
  obtain ⟨c1,sl,c2⟩:=a3 b o eb nb
  exact ⟨fun nf=>(b2 b nT2).trans (c1 nf),sl,(b2 b nT2).trans c2⟩) b1
 refine Do (X:=X.hand (.ref a)) (I3.hand (.ref a)) hN hj (.inl hn) (v:=.ref a) rfl (fun s4 I4=>?_) (.inr hn)
 refine wpAny_mono (hs a pins s4 _ _ _ I4 (ht a f1)) (fun fl s5 q=>?_) fun _ _ z=>False.elim z
 cases fl with
 | next=>obtain ⟨σ5,H5,I5,q⟩:=q;exact C4 (J.unhand I5) hN hj hn fun s6 I6=>⟨_,_,I6,q⟩
 | brk=>obtain ⟨σ5,H5,I5,q⟩:=q;exact C4 (J.unhand I5) hN hj hn fun s6 I6=>⟨_,_,I6,q⟩
 | cont=>obtain ⟨σ5,H5,I5,q⟩:=q;exact C4 (J.unhand I5) hN hj hn fun s6 I6=>⟨_,_,I6,q⟩
 | ret w=>obtain ⟨v5,σ5,H5,I5,r5,q⟩:=q;exact C4 (J.unhand I5) hN hj hn fun s6 I6=>⟨v5,_,_,I6,r5,q⟩
end
structure ExcC (K:W.Frag) (C:Addr):Prop where
 ga:PySem.W.findIn K (.ref C) "__getattribute__" = some (some (.builtin "BaseException.__getattribute__"))
 nga:PySem.W.findIn K (.ref C) "__getattr__" = some none
 mro:PySem.W.mroIn K C (.type "BaseException")=some true
 obj:PySem.W.mroIn K C (.type "object")=some true
 cl:PySem.W.findIn K (.ref C) "__class__" = some (some (.builtin "object.__class__"))
 ge:PySem.W.specialIn K (.builtin "object.__class__") "__get__" = some (some (.builtin "getset_descriptor.__get__"))
 tk:PySem.W.takesIn K (.builtin "object.__class__")=some true
section
variable {prog:Program} {w:World} {A:Around} {E:Value->Shared->Prop} {h:Heap} {g:Array GenState} {d:Drawn} {t:Nat} {os:OsState} {K:W.Frag} {x C:Addr} {ox:Obj} {od:Option Obj} {name:Str}
theorem Iu {M:Model} {nameV:Value} {Q:Unit->Shared->Prop} (X:K.In h) (I:PySem.W.InstAt h x ox C od) (Z:ExcC K C) (hq:Q () ⟨h,g,d,t,os⟩):wpAny M A (checkBuiltinCall "BaseException.__getattribute__" ⟨[.ref x,nameV],[]⟩) Q E ⟨h,g,d,t,os⟩:=by
 have hk:builtinKind "BaseException.__getattribute__" = some .slot:=by decide +kernel
 have hsplit:splitId "BaseException.__getattribute__" = some ("BaseException","__getattribute__"):=by decide +kernel
 have ha:=F.args_bexc_ga (.ref x) nameV
 have L:PySem.W.Looks M h (isInstance (.ref x) (.type "BaseException")) true:=(I.type (M:=M)).andThen (PySem.W.looks_mroIn X Z.mro)
 simp only [checkBuiltinCall,hk,hsplit]
 refine wpAny_bind (L.at ?_)
 repeat (first | assumption | wp_step)
theorem Gk {tk:Tok} {fill expr:Bool} {Q:Value->Shared->Prop} (X:K.In h) (I:PySem.W.InstAt h x ox C od) (Z:ExcC K C)
 (hq:∀ A':Around,wpAny (model prog w) A' (Builtin.«object.__getattribute__» ⟨[.ref x,.str name tk],[]⟩) (fun fin s'=>∃ v,fin=.done (.ret v)/\PySem.W.handedIn v=true/\Q v s') (fun _ _=>False) ⟨h,g,d,t,os⟩) :
 wpAny (model prog w) A (getAttrBy (.ref x) (.str name tk) fill expr) Q E ⟨h,g,d,t,os⟩:=by
 have hx:=I.at_
 have hc:=I.cls
 have f3:=F.excAttr_ValueError.ga.bind (.ref x)
 have hx0:(expr && onTheHeap (Value.builtin "BaseException.__getattribute__"))=false:=by cases expr <;> rfl
 have hx2:(Value.builtin "BaseException.__getattribute__" == Value.builtin "object.__getattribute__")=false:=by decide +kernel
 have hx1:(onTheHeap (Value.ref C) && Value.builtin "BaseException.__getattribute__" == Value.builtin "object.__getattribute__")=false:=by rw [hx2];rfl
 have L1:=PySem.W.looks_findIn (M:=model prog w) X Z.ga
 have L2:=PySem.W.looks_findIn (M:=model prog w) X Z.nga
 repeat (any_goals (first | assumption | (with_reducible refine wpAny_loadPart_at hx ?_;rw [hc]) | with_reducible refine L1.at ?_ | with_reducible refine L2.at ?_ | wp_step))
 refine codeAny_call_builtin F.excAttr_ValueError.ga.plain F.entry_bexc_ga (Iu X I Z (wpAny_mono (hq _) (fun fin s' z=>?_) fun _ _ z=>False.elim z))
 obtain ⟨v,rfl,hv,z⟩:=z
 repeat (any_goals (first | assumption | wp_step))
 show wpAny _ _ (handedOut v) _ _ _
 rw [PySem.W.handedOut_of hv]
 exact wpAny_pure z
theorem Js {v:Value} {tk:Tok} {fill expr:Bool} {Q:Value->Shared->Prop} (X:K.In h) (I:PySem.W.InstAt h x ox C od) (Z:ExcC K C) (hf:PySem.W.findObj K C od name=some (.value v)) (hv:PySem.W.handedIn v=true) (hq:Q v ⟨h,g,d,t,os⟩) :
 wpAny (model prog w) A (getAttrBy (.ref x) (.str name tk) fill expr) Q E ⟨h,g,d,t,os⟩:=by
 refine Gk X I Z fun A'=>?_
 have L0:=I.type (M:=model prog w)
 have L3:=PySem.W.looks_find (M:=model prog w) X I hf
 refine wpAny_bind (wpAny_pure (wpAny_bind (wpAny_pure (wpAny_bind (L0.at (wpAny_bind (L3.at ?_)))))))
 exact wpAny_pure ⟨v,rfl,hv,hq⟩
theorem Ih {tk:Tok} {fill expr:Bool} {Q:Value->Shared->Prop} (X:K.In h) (I:PySem.W.InstAt h x ox C od) (Z:ExcC K C) (hq:Q (.ref C) ⟨h,g,d,t,os⟩) :
 wpAny (model prog w) A (getAttrBy (.ref x) (.str "__class__" tk) fill expr) Q E ⟨h,g,d,t,os⟩:=by
 refine Gk X I Z fun A'=>?_
 have hf:PySem.W.findObj K C od "__class__" = some (.bind (.builtin "getset_descriptor.__get__") (.builtin "object.__class__")):=by
  have:=Z.obj
  unfold PySem.W.mroIn at this
  obtain ⟨cd,a,b⟩:=Option.bind_eq_some_iff.mp this
  unfold PySem.W.findObj
  rw [a,Z.cl]
  simp only [Option.bind_some,Z.ge,Z.tk]
 have L0:=I.type (M:=model prog w)
 have L3:=PySem.W.looks_find (M:=model prog w) X I hf
 refine wpAny_bind (wpAny_pure (wpAny_bind (wpAny_pure (wpAny_bind (L0.at (wpAny_bind (L3.at ?_)))))))
 unfold Builtin.ObjectAttr.bindTo
 repeat (any_goals (first | assumption | wp_step))
 exact PySem.W.class_get (s:=⟨h,g,d,t,os⟩) X I Z.obj (wpAny_pure ⟨_,rfl,rfl,hq⟩)
theorem Lu {Q:Option Value->Shared->Prop} {s:Shared} (X:K.In s.heap) (I:PySem.W.InstAt s.heap x ox C od) (Z:ExcC K C) (hq:Q (some (.ref C)) { s with toks:=s.toks+1 }):wpAny (model prog w) A (getAttr? (.ref x) "__class__") Q E s:=by
 obtain ⟨h,g,d,t,os⟩:=s
 unfold getAttr? getAttrBy?
 refine wpAny_bind (wpAny_mkText (wpAny_bind (wpAny_attempt (Ih X I Z ?_))))
 exact wpAny_pure hq
theorem Dz (Z:ExcC K C):PySem.W.KitX K (.ref x) (.ref C) (fun h=>∃ ox od,PySem.W.InstAt h x ox C od) where
 ty:=fun _ _ _ ⟨_,_,I⟩=>I.type
 it:=fun _ _ X _=>by
  have:=Z.obj
  unfold PySem.W.mroIn at this
  obtain ⟨cd,hcD,_⟩:=Option.bind_eq_some_iff.mp this
  unfold PySem.W.clsIn at hcD
  split at hcD
  ·rename_i c' d' cd' sl' ho
   intro A' Q' E' s' k q
   unfold isType loadHead
   exact wpAny_bind (wpAny_loadPart (k _ _ (X _ _ ho)) (wpAny_pure q))
  ·cases hcD
 ne:=fun h tp dd its n sl X htp=>by
  have:=Z.obj
  unfold PySem.W.mroIn at this
  obtain ⟨cd,hcD,_⟩:=Option.bind_eq_some_iff.mp this
  refine Bool.eq_false_iff.mpr fun q=>?_
  have e:C=tp:=Value.ref.inj (beq_iff_eq.mp q)
  subst e
  unfold PySem.W.clsIn at hcD
  split at hcD
  ·rename_i c' d' cd' sl' ho
   have z:=(X _ _ ho).symm.trans htp
   cases z
  ·cases hcD
 ca:=fun X ⟨_,_,I⟩ k=>Lu X I Z k
end
noncomputable def ExcAt (H:Hp) (x C:Addr) (od:Option Addr):Prop:=H x=some (BB x (.ref C) od)/\∀ d,od=some d->∃ o,H d=some o
noncomputable def IsC (K:W.Frag) (H:Hp) (t:Value) (b:Bool):V->Prop
 | .ty T=>PySem.W.kitOne K t (.type T)=some b
 | .ref p=>PySem.W.kitOne K t (.ref p)=some b\/∃ rs:List Addr,H p=some (.tup (rs.map V.ref))/\PySem.W.kitAny K t (rs.map Value.ref)=some b
 | _=>False
noncomputable def Fx (K:W.Frag):List V->Hp->VK->Prop:=fun xs H Q=>match xs with
 | [.ref x,c]=>∃ C od b,ExcAt H x C od/\ExcC K C/\IsC K H (.ref C) b c/\Q (.bl b) H
 | _=>False
theorem FY:∀ {rs:List Addr} {its:List Value},Vals (rs.map V.ref) its->its=rs.map Value.ref
 | [],_,.nil=>rfl
 | _::_,_,.cons r t=>by rw [FY t,(show _=Value.ref _ from r)];rfl
section
variable {X:Cx} {K:W.Frag} {pins:List (Addr × Obj)} {σ:St} {H:Hp} {s:Shared}
theorem ExcAt.inst {x C:Addr} {od:Option Addr} (e:ExcAt H x C od) (I:Inv X pins σ H s):∃ ox odo,PySem.W.InstAt s.heap x ox C odo:=by
 obtain ⟨⟨oe,vs,e1,e2,e3,e4⟩,_⟩:=(show ObjOk X.prog X.w H s.heap x (BB x (.ref C) od) from I.hok x _ e.1)
 have hn:PySem.W.notCls oe=true:=by unfold PySem.W.notCls;rw [e4]
 cases od with
 | none=>exact ⟨oe,none,e1,e2,hn,by rw [e3];trivial⟩
 | some dx =>
  obtain ⟨fs,hd⟩:=e.2 dx rfl
  obtain ⟨u,q⟩:=(I.hok dx _ hd).is
  exact ⟨oe,some u,e1,e2,hn,by rw [e3];exact q⟩
theorem Hc:CallR X (.builtin "isinstance") (Fx X.K):=by
 intro pins s σ H xs us Q I r q
 match xs,q with
 | [.ref x,c],q =>
  obtain ⟨C,od,b,h1,h2,h3,q⟩:=q
  obtain ⟨u,w',rfl,ru,rw'⟩:=DF r
  cases ru
  have fin:∀ tk,EP X pins σ Q (.bool b) { s with toks:=tk }:=fun tk=>⟨.bl b,H,I.tok _,rfl,q⟩
  match c,h3,rw' with
  | .ty T,h3,rw'=>cases rw';exact PySem.W.kia_one (Dz h2) I.kIn (h1.inst I) h3 (fun z=>nomatch z) fin
  | .ref p,h3,rw' =>
   cases rw'
   rcases h3 with h3 | ⟨rs,hp,h3⟩
   ·exact PySem.W.kia_one (Dz h2) I.kIn (h1.inst I) h3 (fun z=>nomatch z) fin
   ·obtain ⟨_,its,rv,o,g1,g2,⟨n,g3⟩,_⟩:=(show ObjOk X.prog X.w H s.heap p (.tup (rs.map V.ref)) from I.hok p _ hp)
    rw [FY rv] at g3
    obtain ⟨oc,od',da,sl⟩:=o
    cases g2
    cases g3
    exact PySem.W.kia_tup (Dz h2) I.kIn (h1.inst I) g1 h3 (fun z=>nomatch z) fin
theorem Bp (hK:X.K=K:=by rfl):CallR X (.builtin "isinstance") (Fx K):=hK ▸ Hc
end
section
variable {X:Cx} {K:W.Frag}
end
end L2
namespace L2
open PySem PySem.Spec PyProof.Rows PySem.W
end L2
namespace L2
open PySem PySem.Spec PyProof.Rows
noncomputable def CM (K:W.Frag) (C fI:Addr):Bool:=match K.lookup C with
 | some ⟨.type "type",_,.cls cd,sl⟩=>(match cd.mro,sl.toList with
  | .ref C'::bm,[_,_,_,_,some (.builtin n),_]=>C' == C && n == "ValueError.__new__" && !cd.hasDel && cd.hasDict && PySem.W.tailIn K Ek bm && PySem.W.nsOkIn K cd.ns && PySem.W.nsIn K cd.ns "__init__" == some (some (.ref fI))
  | _,_=>false)
 | _=>false
theorem Hy {K:W.Frag} {h:Heap} {N:Addr} {mg:Str->Option Value} {n:Str} {v:Value} (X:K.In h) (G:h.Ns N mg) (e:PySem.W.nsIn K N n=some (some v)):mg n=some v:=by
 obtain ⟨o,es,ep,ho,hd,_,hf⟩:=G
 unfold PySem.W.nsIn at e
 split at e
 ·rename_i c d es' n' sl q
  have z:=X _ _ q
  rw [ho] at z
  cases z
  cases hd
  split at e
  ·rename_i en he
   cases e
   rw [<- hf]
   unfold nsFind findBy
   rw [<- Array.find?_toList,he]
   rfl
  ·split at e <;> cases e
 ·cases e
theorem C6 {K:W.Frag} {h:Heap} {C fI:Addr} (X:K.In h) (q:CM K C fI=true):∃ (nm qn:Str) (N:Addr) (bs bm:List Value) (sn:List Str) (sub:List Value) (ab:Bool) (col:Option Bool) (dd:Option Addr) (k0 k1 k2 k3 k5:Option Value) (mN:Str->Option Value),
 h.get? C=some (excClassObj nm qn C N bs bm true sn sub ab col dd k0 k1 k2 k3 k5 "ValueError.__new__")/\h.Ns N mN/\mN "__init__" = some (.ref fI)/\OwnTail h Ek bm/\∃ cd,PySem.W.clsIn K C=some cd/\cd.mro=.ref C::bm/\cd.hasDict=true:=by
 unfold CM at q
 split at q
 case h_2=>cases q
 rename_i od cl sls hlk
 split at q
 case h_2=>cases q
 rename_i C2 rest a0 a1 a2 a3 nid a5 hmro hslots
 simp only [Bool.and_eq_true,beq_iff_eq,Bool.not_eq_true'] at q
 obtain ⟨⟨⟨⟨⟨⟨z1,z2⟩,z3⟩,z7⟩,z4⟩,z5⟩,z6⟩:=q
 subst z1
 subst z2
 have hcd:PySem.W.clsIn K C2=some cl:=by unfold PySem.W.clsIn;rw [hlk]
 cases cl with
 | mk nm bs mro ns qn hd sn sub ab col del =>
  have m1:mro=.ref C2::rest:=hmro
  have m2:del=false:=z3
  have m4:hd=true:=z7
  subst m1
  subst m2
  subst m4
  have m3:sls = #[a0,a1,a2,a3,some (.builtin "ValueError.__new__"),a5]:=by
   cases sls with
   | mk l=>exact congrArg Array.mk hslots
  subst m3
  have G:h.Ns ns (h.nsMap ns):=.of_isNs (PySem.W.isNs_of_in X z5)
  exact ⟨nm,qn,ns,bs,rest,sn,sub,ab,col,od,a0,a1,a2,a3,a5,h.nsMap ns,X _ _ hlk,G,Hy X G z6,PySem.W.tail_of_in X z4,_,hcd,rfl,rfl⟩
section
variable {prog:Program} {w:World} {A:Around} {E:Value->Shared->Prop} {h:Heap} {g:Array GenState} {d:Drawn} {t:Nat} {os:OsState}
 {nm q:Str} {C N:Addr} {bs bm bmB:List Value} {hdct:Bool} {sn:List Str} {sub:List Value} {ab:Bool} {col:Option Bool} {dd:Option Addr} {k0 k1 k2 k3 k5:Option Value} {B Bn newId nid initId inN:String} {bmN:List Value}
theorem MI (Fn:ExcBaseFacts Bn newId inN bmN) (hBn:bmB.contains (.type Bn)=true) (F:ExcBaseFacts B nid initId bmB) (T:OwnTail h bmB bm) {mN:Str->Option Value} {rest:List Value} {fI:Addr} {oI:Obj} {Q:Fin->Shared->Prop}
 (hC:h.get? C=some (excClassObj nm q C N bs bm hdct sn sub ab col dd k0 k1 k2 k3 k5 newId)) (hn:h.Ns N mN) (hi:mN "__init__" = some (.ref fI)) (hfI:h.get? fI=some oI) (hfc:oI.cls=.type "function") (hrest:rest.length<=sizeLine)
 (hq:∀ h' e,Heap.MadeExcOf h h' e (.ref C) rest->wpAny (model prog w) A (call (.ref fI) (.ref e::rest)) (fun r s'=>r=.none/\Q (.done (.ret (.ref e))) s') E ⟨h',g,d,t,os⟩) :
 wpAny (model prog w) A (Builtin.«type.__call__» ⟨.ref C::rest,[]⟩) Q E ⟨h,g,d,t,os⟩:=by
 repeat (first | with_reducible refine wpAny_loadPart_at hC ?_ | with_reducible refine wpAny_madeBy_exc hC ?_ | wp_step)
 refine codeAny_call_builtin_code (Code.quiet_builtin _ Fn.quiet) (wpAny_check_new_subU Fn hBn T hC ?_)
 refine codeAny_exc_new_subU Fn hBn F T hC ?_ hrest
 show wpAny _ _ _ _ _ _
 generalize ho1:({ cls:=.type "tuple",data:=.seq rest.toArray }:Obj)=o1
 generalize ho2:({ cls:=.ref C,data:=.fields #[.ref h.objs.size,.none,.none,.none,.bool false,.none] }:Obj)=o2
 have up:∀ b o,h.get? b=some o->((h.push o1).push o2).get? b=some o:=fun b o e=>Heap.get?_push_of_some _ (Heap.get?_push_of_some _ e)
 have g2:((h.push o1).push o2).get? (h.objs.size+1)=some o2:=by
  have:=Heap.get?_push_size (h.push o1) (o:=o2) (by rw [<- ho2];rfl)
  rwa [Heap.size_push] at this
 have g1:((h.push o1).push o2).get? h.objs.size=some o1:=Heap.get?_push_of_some _ (Heap.get?_push_size h (by rw [<- ho1];rfl))
 have c2:o2.cls=.ref C:=by rw [<- ho2]
 have hC1:=up _ _ hC
 have hn1:((h.push o1).push o2).Ns N mN:=let ⟨o,es,ep,e,r⟩:=hn;⟨o,es,ep,up _ _ e,r⟩
 have hcC:(Value.ref C::bm).contains (.ref C)=true:=by simp
 have T1:=T.keeps (h':=(h.push o1).push o2) up
 unfold isInstance
 repeat (first | (with_reducible refine wpAny_loadPart_at g2 ?_;rw [c2]) | (with_reducible refine wpAny_isSubtype_exc hC1 ?_;rw [hcC]) | wp_step)
 show wpAny _ _ (typeLookup (.ref C) _) _ _ _
 refine wpAny_typeLookup_tail hC1 hn1 T1 F.mroIs F.init.lookup ?_
 rw [hi]
 refine wpAny_holding (wpAny_bind ?_)
 unfold bindSpecial
 refine wpAny_bind (wpAny_typeOf (T:="function") ⟨_,up _ _ hfI,hfc⟩ ?_)
 rw [if_pos (by decide)]
 refine wpAny_pure (wpAny_bind (wpAny_mono (hq _ (h.objs.size+1) ⟨up,Heap.get?_none_of_le (Nat.le_succ _),h.objs.size,by rw [g2,ho2],Heap.get?_none_of_le (Nat.le_refl _),by rw [g1,ho1]⟩) (fun r s' hr=>?_) fun _ _ x=>x))
 obtain ⟨rfl,hQ⟩:=hr
 wp_walk
 exact hQ
theorem K4 (Fn:ExcBaseFacts Bn newId inN bmN) (hBn:bmB.contains (.type Bn)=true) (F:ExcBaseFacts B nid initId bmB) (T:OwnTail h bmB bm) {mN:Str->Option Value} {rest:List Value} {fI:Addr} {oI:Obj} {Q:Value->Shared->Prop}
 (hC:h.get? C=some (excClassObj nm q C N bs bm hdct sn sub ab col dd k0 k1 k2 k3 k5 newId)) (hn:h.Ns N mN) (hi:mN "__init__" = some (.ref fI)) (hfI:h.get? fI=some oI) (hfc:oI.cls=.type "function") (hrest:rest.length<=sizeLine)
 (hq:∀ h' e,Heap.MadeExcOf h h' e (.ref C) rest->wpAny (model prog w) (A.under (.builtin "type.__call__" ⟨.ref C::rest,[]⟩)) (call (.ref fI) (.ref e::rest)) (fun r s'=>r=.none/\Q (.ref e) s') E ⟨h',g,d,t,os⟩) :
 wpAny (model prog w) A (call (.ref C) rest) Q E ⟨h,g,d,t,os⟩:=by
 have f1:=tc_lookup
 have f2:=tc_bind (.ref C)
 have hT:(⟨h,g,d,t,os⟩:Shared).TypeIs (.ref C) "type":=⟨_,hC,rfl⟩
 refine wpAny_call (codeAny_of_tree ?_)
 show wpAny _ _ (callAny (.ref C) _) _ _ _
 repeat (any_goals (first | assumption | with_reducible refine wpAny_loadPart_at hC ?_ | wp_step))
 exact ⟨rfl,codeAny_call_builtin_at (Code.quiet_builtin _ (by decide +kernel)) entry_typeCall (wpAny_check_type_call_sub hC (MI Fn hBn F T hC hn hi hfI hfc hrest fun h' e hm=>hq h' e hm))⟩
theorem MC {M:Model} {env:Env} {s:Shared} {x:Sem Value} {Q:Flow->Shared->Prop} (hbase:bm.contains (.type "BaseException")=true) (hh:A.handled=none)
 (hx:wpAny M A x (fun v s1=>∃ e oe,v=.ref e/\s1.heap.get? C=some (excClassObj nm q C N bs bm hdct sn sub ab col dd k0 k1 k2 k3 k5 newId)/\s1.heap.get? e=some oe/\oe.cls=.ref C/\(∃ vs,oe.data=.fields vs/\vs[1]? = some .none)/\E (.ref e) s1) E s) :
 wpAny M A (raiseStmt env (some x) none) Q E s:=by
 have hcB:(Value.ref C::bm).contains (.type "BaseException")=true:=by rw [List.contains_cons,hbase,Bool.or_true]
 unfold raiseStmt
 refine wpAny_bind (wpAny_mono hx (fun v s1 h1=>?_) fun _ _ x=>x)
 obtain ⟨e,oe,rfl,hC,he,hc,⟨vs,hv,h1⟩,hE⟩:=h1
 obtain ⟨hp,g,d,tk,os⟩:=s1
 obtain ⟨oc,od,oda,osl⟩:=oe
 cases hc
 cases hv
 repeat (first | with_reducible refine wpAny_loadPart_at he ?_ | with_reducible refine wpAny_loadPart_at hC ?_ | (with_reducible refine wpAny_isSubtype_exc hC ?_;rw [hcB]) | wp_step)
 rw [h1]
 repeat (first | with_reducible refine wpAny_loadPart_at he ?_ | wp_step)
 exact wpAny_raiseNew_none hh hE
end
section
variable {prog:Program} {w:World} {A:Around} {E:Value->Shared->Prop} {s:Shared} {env:Env} {K:W.Frag} {C fI:Addr}
theorem Kd {x:Str} {np cpos pos:Pos} {args:List Expr} {Q:Flow->Shared->Prop} {h0:Heap} (X0:K.In h0) (q:CM K C fI=true) (hh:A.handled=none) (hplain:(backTo cpos (starEach args env)).any (·.1)=false)
 (hx:wpAny (model prog w) A (eval (.Name x np) env) (fun f s1=>f=.ref C/\wpAny (model prog w) A (evalArgs (.ref C) true (backTo cpos (starEach args env)) [])
   (fun a s2=>a.kw=[]/\a.pos.length<=sizeLine/\K.In s2.heap/\(∃ oI,s2.heap.get? fI=some oI/\oI.cls=.type "function") /\
     ∀ h' e,Heap.MadeExcOf s2.heap h' e (.ref C) a.pos->wpAny (model prog w) (A.under (.builtin "type.__call__" ⟨.ref C::a.pos,[]⟩)) (call (.ref fI) (.ref e::a.pos)) (fun r s3=>r=.none/\K.In s3.heap/\(∃ oe vs,s3.heap.get? e=some oe/\oe.cls=.ref C/\oe.data=.fields vs/\vs[1]? = some .none)/\E (.ref e) s3) E { s2 with heap:=h' }) E s1) E s) :
 wpAny (model prog w) A (exec (.Raise (some (.Call (.Name x np) args [] cpos)) none pos) env) Q E s:=by
 obtain ⟨nm,qn,N,bs,bm,sn,sub,ab,col,dd,k0,k1,k2,k3,k5,mN,hC0,hN0,hi0,TL0,cd,hcd,hmro,_⟩:=C6 X0 q
 have look:∀ {h:Heap},K.In h->h.get? C=some (excClassObj nm qn C N bs bm true sn sub ab col dd k0 k1 k2 k3 k5 "ValueError.__new__"):=fun {h} X=>by
  obtain ⟨nm',qn',N',bs',bm',sn',sub',ab',col',dd',k0',k1',k2',k3',k5',mN',hC',_,_,_,cd',hcd',hmro',_⟩:=C6 X q
  have e0:∃ o,K.lookup C=some o:=by
   unfold CM at q
   split at q
   ·rename_i hlk;exact ⟨_,hlk⟩
   ·cases q
  obtain ⟨o,e0⟩:=e0
  have e1:=X0 _ _ e0
  rw [hC0] at e1
  rw [X _ _ e0,<- e1]
 rw [arm_exec_Raise]
 have hbase:bm.contains (.type "BaseException")=true:=TL0.hasType (by decide)
 refine wpAny_bind (wpAny_standAt (MC (C:=C) (nm:=nm) (q:=qn) (N:=N) (bs:=bs) (bm:=bm) (hdct:=true) (sn:=sn) (sub:=sub) (ab:=ab) (col:=col) (dd:=dd) (k0:=k0) (k1:=k1) (k2:=k2) (k3:=k3) (k5:=k5) (newId:="ValueError.__new__") hbase hh (wpAny_bind (wpAny_mono (wpAny_Call_ofName (wpAny_mono hx (fun f s1 h1=>?_) fun _ _ x=>x)) (fun v s3 h3=>wpAny_bind (wpAny_standAt (wpAny_pure h3))) fun _ _ x=>x))))
 obtain ⟨rfl,h1⟩:=h1
 unfold callWith
 refine wpAny_bind (wpAny_holding (wpAny_mono h1 (fun a s2 h2=>wpAny_bind (wpAny_standAt ?_)) fun _ _ x=>x))
 obtain ⟨apos,akw⟩:=a
 obtain ⟨hkw,hlen,X2,⟨oI,hfI,hfc⟩,h2⟩:=h2
 obtain rfl:akw=[]:=hkw
 obtain ⟨nm',qn',N',bs',bm',sn',sub',ab',col',dd',k0',k1',k2',k3',k5',mN',hC',hN',hi',TL',_⟩:=C6 X2 q
 obtain ⟨hp,g,d,tk,os⟩:=s2
 simp only [hplain]
 refine wpAny_bind (wpAny_keeperOf_exc hC' ?_)
 refine wpAny_bind (K4 F.excBase_ValueError (by decide) F.excBase_ValueError TL' hC' hN' hi' hfI hfc hlen fun h' e hm=>?_)
 refine wpAny_mono (h2 h' e hm) (fun r s3 ⟨e1,X3,⟨oe,vs,g1,g2,g3,g4⟩,hE⟩=>⟨e1,wpAny_bind (wpAny_holding (wpAny_point (wpAny_pure ⟨e,oe,rfl,look X3,g1,g2,⟨vs,g3,g4⟩,hE⟩)))⟩) fun _ _ z=>z
end
end L2
namespace L2
open PySem PySem.Spec PyProof.Rows Builtin Builtin.ObjectAttr
theorem J0 {h:Heap} {l:List Value} (self:Value) (T:OwnTail h Ek l):refuseLoop self "__setattr__" l=pure ():=by
 induction T with
 | base=>exact PySem.F.store_ValueError.passes self
 | own _ _ _ _ ih=>rw [refuseLoop_ref];exact ih
structure ExcI (K:W.Frag) (C fI:Addr):Prop where
 ob:CM K C fI=true
 xc:ExcC K C
 sa:PySem.W.findIn K (.ref C) "__setattr__" = some (some (.builtin "object.__setattr__"))
 fn:PySem.W.isFn K (.ref fI)=true
section
variable {prog:Program} {w:World} {A:Around} {E:Value->Shared->Prop} {s:Shared} {K:W.Frag} {x C fI:Addr} {name:Str} {v:Value} {mA:Str->Option Value} {ns:List Str}
theorem Gp {Q:Unit->Shared->Prop} (X:K.In s.heap) (Z:ExcI K C fI) (n:Bq K C name) (I:s.heap.Inst x C mA) (hw:Within mA ns) (hsz:ns.length<=1000)
 (hq:∀ h' tk',h'.Inst x C (fun y=>if y=name then some v else mA y) ->
   (∀ b o,b≠x->(∀ o0 dx,s.heap.get? x=some o0->o0.dict=some dx->b≠dx)->s.heap.get? b=some o->h'.get? b=some o) ->
   (∀ o0,s.heap.get? x=some o0->∃ o1,h'.get? x=some o1/\o1.cls=o0.cls/\o1.data=o0.data/\(∀ dx,o0.dict=some dx->o1=o0)/\(o0.dict=none->o1.dict=some s.heap.objs.size))->Q () { s with heap:=h',toks:=tk' }) :
 wpAny (model prog w) A (setAttr (.ref x) name v) Q E s:=by
 obtain ⟨o,hx,hc,hnc,hd⟩:=I
 obtain ⟨nm,qn,N,bs,bm,sn,sub,ab,col,dd,k0,k1,k2,k3,k5,mN,hC,hN,hi,TL,cd,hcd,hmro,hdict⟩:=C6 X Z.ob
 have J:∃ od,PySem.W.InstAt s.heap x o C od:=by
  have hn:PySem.W.notCls o=true:=by
   unfold PySem.W.notCls
   split
   ·rename_i c e;exact absurd e (hnc c)
   ·rfl
  rcases hd with ⟨h1,_⟩ | ⟨dx,h1,_,⟨od,es,ep,e,r⟩⟩
  ·exact ⟨none,hx,hc,hn,by rw [h1];trivial⟩
  ·exact ⟨some od,hx,hc,hn,by rw [h1];exact e⟩
 obtain ⟨od,J⟩:=J
 refine PySem.W.set_plain X J Z.sa ?_
 have SF:=PySem.F.store_object
 have sub:PySem.W.Looks (model prog w) s.heap (isInstance (.ref x) (.type "object")) true:=J.type.andThen (PySem.W.looks_mroIn X Z.xc.obj)
 refine codeAny_call_builtin SF.slot.plain SF.entry (@PySem.W.check_slot (model prog w) _ _ { s with toks:=s.toks+1 } "object.__setattr__" "object" "__setattr__" (.ref x) [.str name s.toks,v] [] _ SF.kind SF.split sub (SF.args (.ref x) (.str name s.toks) v) ?_)
 have hm:PySem.W.Looks (model prog w) s.heap (mroOf (.ref C)) cd.mro:=(PySem.W.looks_clsIn X hcd).andThen .now
 rw [PySem.W.osa_eq,refuse_eq]
 refine wpAny_bind (wpAny_bind (J.type.here (s:={ s with toks:=s.toks+1 }) (wpAny_bind (hm.here (s:={ s with toks:=s.toks+1 }) ?_))))
 rw [hmro,refuseLoop_ref,J0 _ TL]
 refine wpAny_pure (wpAny_bind (J.type.here (s:={ s with toks:=s.toks+1 }) (wpAny_bind ((PySem.W.looks_findIn X n).here (s:={ s with toks:=s.toks+1 }) (wpAny_bind (PySem.W.Looks.here (s:={ s with toks:=s.toks+1 }) (r:=none) .now ?_))))))
 refine wpAny_bind (wpAny_pure (wpAny_bind (wpAny_bind (wpAny_loadPart hx ?_))))
 rw [hc]
 refine wpAny_bind (PySem.W.Looks.here (s:={ s with toks:=s.toks+1 }) (PySem.W.looks_clsIn X hcd) ?_)
 rw [hdict]
 rw [if_neg (by decide)]
 dsimp only
 rcases hd with ⟨hdn,hmA⟩ | ⟨dx,hdx,hne,hns⟩
 ·rw [hdn]
  dsimp only
  rw [if_neg (by simp [typeHasDict])]
  have hx1:(s.heap.push { cls:=.type "dict",data:=.dict #[] }).get? x=some o:=Heap.get?_push_of_some _ hx
  have hxs:x≠s.heap.objs.size:=Nat.ne_of_lt (Heap.lt_size hx)
  have hgd:((s.heap.push { cls:=.type "dict",data:=.dict #[] }).update x fun o=>{ cls:=o.cls,dict:=some s.heap.objs.size,data:=o.data,slots:=o.slots }).get? s.heap.objs.size=some { cls:=.type "dict",data:=.dict #[] } :=
   (Heap.get?_update_ne _ _ _ _ hxs.symm).trans (Heap.get?_push_at rfl rfl)
  have hnd:((s.heap.push { cls:=.type "dict",data:=.dict #[] }).update x fun o=>{ cls:=o.cls,dict:=some s.heap.objs.size,data:=o.data,slots:=o.slots }).Ns s.heap.objs.size (fun _=>none) :=
   ⟨_,#[],_,hgd,rfl,fun e he=>absurd he (by simp),fun _=>rfl⟩
  split
  ·rename_i c hcd'
   exact absurd hcd' (hnc c)
  ·refine wpAny_bind (wpAny_alloc' ?_)
   refine wpAny_bind (wpAny_update' hx1 ?_)
   refine wpAny_pure ?_
   show wpAny _ _ (storeInDict s.heap.objs.size (.str name s.toks) name v) _ _ _
   unfold storeInDict newKeyGuard
   refine wpAny_bind (wpAny_pure (wpAny_bind (wpAny_nsSet1 (Heap.Ns1.of_empty hnd) fun h' hn' hs=>?_)))
   obtain ⟨oD,esD,epD,hoD,hdD,hcD⟩:=hn'.count (Within.cons name v Within.nil)
   refine wpAny_bind (wpAny_lookBehind hoD (by rw [hdD];exact pastItsLine_dict (Nat.le_trans hcD (by rw [List.length_cons,List.length_nil,sizeLine_eq];lia))) ?_)
   have hx':h'.get? x=some { cls:=o.cls,dict:=some s.heap.objs.size,data:=o.data,slots:=o.slots }:=by
    refine (hs.2 x hxs).trans (Heap.get?_update_self _ hx1 ?_)
    have hfr:=(Heap.get?_some_iff.mp hx).2
    obtain ⟨oc,od,odt,osl⟩:=o
    cases odt <;> first | rfl | exact hfr
   refine wpAny_pure (hq h' _ ⟨{ cls:=o.cls,dict:=some s.heap.objs.size,data:=o.data,slots:=o.slots },hx',hc,hnc,.inr ⟨s.heap.objs.size,rfl,hxs.symm,?_⟩⟩ (fun b ob hbx _ hb=>?_)
    (fun o0 h0=>by obtain rfl:o=o0:=Option.some.inj (hx.symm.trans h0);exact ⟨_,hx',rfl,rfl,(fun dx e=>by rw [hdn] at e;cases e),fun _=>rfl⟩))
   ·obtain ⟨o',es,ep,e1,e2,e3,eu,e4⟩:=hn'
    exact ⟨o',es,ep,e1,e2,e3,eu,fun y=>by rw [e4 y];by_cases hy:y=name <;> simp [hy,hmA]⟩
   ·exact (hs.2 b (Nat.ne_of_lt (Heap.lt_size hb))).trans ((Heap.get?_update_ne _ _ _ _ hbx).trans (Heap.get?_push_of_some _ hb))
 ·rw [hdx]
  refine wpAny_pure ?_
  show wpAny _ _ (storeInDict dx (.str name s.toks) name v) _ _ _
  unfold storeInDict newKeyGuard
  refine wpAny_bind (wpAny_pure (wpAny_bind (wpAny_nsSet1 (s:={ s with toks:=s.toks+1 }) hns fun h' hn' hs=>?_)))
  obtain ⟨oD,esD,epD,hoD,hdD,hcD⟩:=hn'.count (Within.cons name v hw)
  refine wpAny_bind (wpAny_lookBehind hoD (by rw [hdD];exact pastItsLine_dict (Nat.le_trans hcD (by rw [List.length_cons,sizeLine_eq];lia))) ?_)
  refine wpAny_pure (hq h' _ ⟨o,(hs.2 x hne.symm).trans hx,hc,hnc,.inr ⟨dx,hdx,hne,hn'⟩⟩ (fun b ob _ hbd hb=>(hs.2 b (hbd o dx hx hdx)).trans hb)
   (fun o0 h0=>by obtain rfl:o=o0:=Option.some.inj (hx.symm.trans h0);exact ⟨o,(hs.2 x hne.symm).trans h0,rfl,rfl,(fun _ _=>rfl),fun e=>by rw [hdx] at e;cases e⟩))
end
end L2
namespace L2
open PySem PySem.Spec PyProof.Rows
noncomputable abbrev ExN (x:Addr) (cls:Value) (od:Option Addr):HO:=.ext (fun h=>ExA h x cls od none)
noncomputable def XdP (d:Addr) (fs:List (Str × V)) (h:Heap):Prop:=∃ mA,h.Ns1 d mA/\∀ f,RelO (fs.lookup f) (mA f)
noncomputable abbrev XdO (d:Addr) (fs:List (Str × V)):HO:=.ext (XdP d fs)
noncomputable def del (H:Hp) (x:Addr):Hp:=fun b=>if b=x then none else H b
theorem DM {H:Hp} {x b:Addr} (h:b≠x):del H x b=H b:=if_neg h
theorem FM {H:Hp} {x:Addr}:del H x x=none:=if_pos rfl
section
variable {P:Program} {w:World} {H H':Hp} {h h':Heap} {x d:Addr} {cls:Value} {od:Option Addr} {fs:List (Str × V)}
theorem FJ (e:ExA h x cls od none):ObjOk P w H h x (ExN x cls od) :=
 ⟨e,let ⟨oe,_,q,_⟩:=e;⟨oe,q⟩,fun _ _ ⟨oe,vs,q,r⟩ k=>⟨oe,vs,k oe q,r⟩⟩
theorem FO (e:XdP d fs h):ObjOk P w H h d (XdO d fs) :=
 ⟨e,let ⟨_,⟨o,_,_,q,_⟩,_⟩:=e;⟨o,q⟩,fun _ _ ⟨mA,n,r⟩ k=>⟨mA,n.at k,r⟩⟩
theorem Ku {mA:Str->Option Value} (r:∀ f,RelO (fs.lookup f) (mA f)):Within mA (fs.map (·.1)):=fun y hy=>by
 have z:=r y
 cases e:fs.lookup y with
 | none=>rw [e] at z;exact absurd (RelO.none_of z) hy
 | some v=>exact List.mem_map.mpr ⟨(y,v),mem_of_lookup e,rfl⟩
where mem_of_lookup:∀ {fs:List (Str × V)} {y:Str} {v:V},fs.lookup y=some v->(y,v)∈fs
 | [],_,_,e=>by cases e
 | (k,u)::r,y,v,e=>by
  rw [List.lookup_cons] at e
  split at e
  ·rename_i h;cases e;rw [eq_of_beq h];exact List.mem_cons_self
  ·exact List.mem_cons_of_mem _ (mem_of_lookup e)
end
section
variable {X:Cx} {pins:List (Addr × Obj)} {σ:St} {H H':Hp} {s:Shared} {h':Heap} {x C fI:Addr} {K:W.Frag}
theorem Inv.laidN {a:Addr} {o:HO} {t':Nat} (I:Inv X pins σ H s) (k:∀ b u,s.heap.get? b=some u->h'.get? b=some u) (nx:s.heap.get? a=none) (new:ObjOk X.prog X.w (upd H a o) h' a o):Inv X pins σ (upd H a o) { s with heap:=h',toks:=t' }:=by
 have hn:H a=none:=Cq I.hok nx
 have ne:∀ b u,s.heap.get? b=some u->b≠a:=fun b u e z=>by rw [z,nx] at e;cases e
 have nh:∀ b u,H b=some u->b≠a:=fun b u e z=>by rw [z,hn] at e;cases e
 refine I.un ⟨fun b u e _ _ _=>k b u e,fun b u e _ _ _=>⟨u.slots,k b u e⟩,fun b u e n _=>by rw [AD (ne b u e)];exact n,fun b u e _=>⟨u,k b u e⟩,fun b xs e=>by rw [AD (nh b _ e)];exact e,fun b u v e=>by rw [AD (nh b _ e)];exact e,fun b ps e=>⟨#[],by rw [AD (nh b _ e),e];simp⟩⟩ fun b u e=>?_
 by_cases z:b=a
 ·subst z;rw [AE] at e;cases e;exact new
 ·rw [AD z] at e
  exact (I.hok b u e).stay (fun c v _ q=>k c v q) (fun c q=>by rw [AD (nh c _ q)];exact q) fun c xs q=>by rw [AD (nh c _ q)];exact q
theorem IY {f:Str} {y:V} {u:Value} {A:Around} {E:Value->Shared->Prop} {Q:Unit->Shared->Prop} (I:Inv X pins σ H s) (Z:ExcI X.K C fI) (n:Bq X.K C f) (e:H x=some (ExN x (.ref C) none)) (ry:RelV y u)
 (hq:∀ d s',H d=none->Inv X pins σ (upd (upd H x (ExN x (.ref C) (some d))) d (XdO d [(f,y)])) s'->Q () s'):wpAny (model X.prog X.w) A (setAttr (.ref x) f u) Q E s:=by
 obtain ⟨⟨oe,vs,e1,e2,e3,e4,e5⟩,_⟩:=(show ObjOk X.prog X.w H s.heap x (ExN x (.ref C) none) from I.hok x _ e)
 refine Gp (mA:=fun _=>none) (ns:=[]) I.kIn Z n ⟨oe,e1,e2,(fun c z=>by rw [e4] at z;cases z),.inl ⟨e3,fun _=>rfl⟩⟩ (fun y z=>absurd rfl z) (Nat.zero_le _) fun h' tk' I' hk hs=>?_
 obtain ⟨o1,g1,g2,g3,_,g4⟩:=hs oe e1
 have g4:=g4 e3
 have hd:H s.heap.objs.size=none:=I.hok.fresh (Nat.le_refl _)
 have nd:s.heap.get? s.heap.objs.size=none:=Heap.get?_none_of_le (Nat.le_refl _)
 have xd:x≠s.heap.objs.size:=Nat.ne_of_lt (Heap.lt_size e1)
 have keep:∀ b o,b≠x->s.heap.get? b=some o->h'.get? b=some o:=fun b o nb q=>hk b o nb (fun o0 dx q0 q1=>by rw [e1] at q0;cases q0;rw [e3] at q1;cases q1) q
 have nH:∀ b,b≠x->b≠s.heap.objs.size->(upd (upd H x (ExN x (.ref C) (some s.heap.objs.size))) s.heap.objs.size (XdO s.heap.objs.size [(f,y)])) b=H b:=fun b n1 n2=>by rw [AD n2,AD n1]
 have bd:∀ b o,s.heap.get? b=some o->b≠s.heap.objs.size:=fun b o q=>Nat.ne_of_lt (Heap.lt_size q)
 have bh:∀ b o,H b=some o->b≠s.heap.objs.size:=fun b o q z=>by rw [z,hd] at q;cases q
 have XD:XdP s.heap.objs.size [(f,y)] h':=by
  obtain ⟨o2,q1,_,_,q3⟩:=I'
  rw [g1] at q1
  cases q1
  rcases q3 with ⟨q,_⟩ | ⟨dx,q,_,q4⟩
  ·rw [g4] at q;cases q
  ·rw [g4] at q
   cases q
   refine ⟨_,q4,fun z=>?_⟩
   show RelO (List.lookup z [(f,y)]) (if z=f then some u else none)
   rw [List.lookup_cons]
   by_cases hz:z=f
   ·rw [hz,if_pos rfl,beq_self_eq_true];exact ry
   ·rw [if_neg hz,beq_eq_false_iff_ne.mpr hz];exact True.intro
 refine hq _ _ hd (I.un ⟨fun b o q nb _ _=>?_,fun b o q nb _ _=>⟨o.slots,?_⟩,fun b o q nb _=>?_,fun b o q _=>?_,fun b xs q=>?_,fun b o v q=>?_,fun b ps q=>⟨#[],?_⟩⟩ fun b o q=>?_)
 ·exact keep b o (fun z=>by rw [z,e] at nb;cases nb) q
 ·exact keep b o (fun z=>by rw [z,e] at nb;cases nb) q
 ·rw [nH b (fun z=>by rw [z,e] at nb;cases nb) (bd b o q)];exact nb
 ·by_cases z:b=x
  ·rw [z];exact ⟨_,g1⟩
  ·exact ⟨_,keep b o z q⟩
 ·rw [nH b (fun z=>by rw [z,e] at q;cases q) (bh b _ q)];exact q
 ·rw [nH b (fun z=>by rw [z,e] at q;cases q) (bh b _ q)];exact q
 ·rw [nH b (fun z=>by rw [z,e] at q;cases q) (bh b _ q),q];simp
 ·by_cases z:b=s.heap.objs.size
  ·subst z;rw [AE] at q;cases q;exact FO XD
  ·rw [AD z] at q
   by_cases z2:b=x
   ·subst z2;rw [AE] at q;cases q
    exact FJ ⟨o1,vs,g1,by rw [g2,e2],g4,by rw [g3,e4],e5⟩
   ·rw [AD z2] at q
    refine (I.hok b o q).stay (fun c v hc r=>keep c v (fun z=>?_) r) (fun c r=>?_) fun c xs r=>?_
    ·rcases hc with hc | hc
     ·exact z2 (hc.symm.trans z)
     ·rw [z,e] at hc;cases hc
    ·rw [nH c (fun z=>by rw [z,e] at r;cases r) (bh c _ r)];exact r
    ·rw [nH c (fun z=>by rw [z,e] at r;cases r) (bh c _ r)];exact r
theorem MO {f:Str} {y:V} {u:Value} {d:Addr} {fs:List (Str × V)} {A:Around} {E:Value->Shared->Prop} {Q:Unit->Shared->Prop} (I:Inv X pins σ H s) (Z:ExcI X.K C fI) (n:Bq X.K C f) (e:H x=some (ExN x (.ref C) (some d))) (ed:H d=some (XdO d fs)) (hne:d≠x) (hl:fs.length<=1000) (ry:RelV y u)
 (hq:∀ s',Inv X pins σ (upd H d (XdO d (BE f y fs))) s'->Q () s'):wpAny (model X.prog X.w) A (setAttr (.ref x) f u) Q E s:=by
 obtain ⟨⟨oe,vs,e1,e2,e3,e4,e5⟩,_⟩:=(show ObjOk X.prog X.w H s.heap x (ExN x (.ref C) (some d)) from I.hok x _ e)
 obtain ⟨⟨mA,n1,r1⟩,_⟩:=(show ObjOk X.prog X.w H s.heap d (XdO d fs) from I.hok d _ ed)
 refine Gp (mA:=mA) (ns:=fs.map (·.1)) I.kIn Z n ⟨oe,e1,e2,(fun c z=>by rw [e4] at z;cases z),.inr ⟨d,e3,hne,n1⟩⟩ (Ku r1) (by rw [List.length_map];exact hl) fun h' tk' I' hk hs=>?_
 obtain ⟨o1,g1,g2,g3,g4,_⟩:=hs oe e1
 have g4:=g4 d e3
 subst g4
 obtain ⟨o2,q1,_,_,q3⟩:=I'
 rw [g1] at q1
 cases q1
 have nn:h'.Ns1 d (fun y=>if y=f then some u else mA y):=by
  rcases q3 with ⟨q,_⟩ | ⟨dx,q,_,q4⟩
  ·rw [e3] at q;cases q
  ·rw [e3] at q;cases q;exact q4
 refine hq _ (I.write (x:=d) (e:=d) (by rw [ed];exact True.intro) (.inl rfl) (fun b v nb q=>?_) (let ⟨o,_,_,q,_⟩:=nn;⟨o,q⟩) (FO ⟨_,nn,fun g=>?_⟩))
 ·by_cases z:b=x
  ·subst z;rw [e1] at q;cases q;exact g1
  ·exact hk b v z (fun o0 dx q0 q1=>by rw [e1] at q0;cases q0;rw [e3] at q1;cases q1;exact nb) q
 ·show RelO ((BE f y fs).lookup g) (if g=f then some u else mA g)
  rw [GQ]
  by_cases q:g=f
  ·rw [if_pos q,if_pos q];exact ry
  ·rw [if_neg q,if_neg q];exact r1 g
end
noncomputable def IP (C:Addr) (ta tv:TE) (f:Str):TS:=fun D σ H=>tv σ H fun y H1=>ta σ H1 fun v H2=>match v with
 | .ref x=>(H2 x=some (ExN x (.ref C) none)/\∀ d,H2 d=none->D.nx σ (upd (upd H2 x (ExN x (.ref C) (some d))) d (XdO d [(f,y)])))\/∃ d fs,H2 x=some (ExN x (.ref C) (some d))/\H2 d=some (XdO d fs)/\d≠x/\fs.length<=1000/\D.nx σ (upd H2 d (XdO d (BE f y fs)))
 | _=>False
noncomputable def Ls (K:W.Frag) (ta:TE) (f:Str):TE:=fun σ H Q=>ta σ H fun v H1=>match v with
 | .ref x=>∃ C d fs v,ExcAt H1 x C (some d)/\H1 d=some (XdO d fs)/\ExcC K C/\Bq K C f/\PySem.W.hasDictIn K C=true/\fs.lookup f=some v/\Q v H1
 | _=>False
noncomputable def Fh (C:Addr) (sp:Sp) (ta:TA) (W:St->Option Addr->Hp->Prop):TS:=fun _ σ H=>ta σ H fun vs H1=>vs.length<=1000/\∀ x,H1 x=none->sp (.ref x::vs) (upd H1 x (ExN x (.ref C) none)) (fun v H2=>v=.non/\∃ od,H2 x=some (ExN x (.ref C) od)/\W σ od (del H2 x)) E0
section
variable {X:Cx} {K:W.Frag} {C fI:Addr} {fd:FuncData} {ps:List Str} {sp:Sp} {k:Nat} {o e value:Expr} {es:List Expr} {f c:Str} {pos pos' np cpos:Pos} {ta tv:TE} {t:TA} {W:St->Option Addr->Hp->Prop}
theorem Fs (Z:ExcI K C fI) (n:Bq K C f) (ha:PE X o ta) (hv:PE X value tv) (hK:X.K=K:=by rfl) (hs:swapsWith value (some (.Attribute o f pos')) pos.line X.env=pure false:=by rfl):PS X (.Assign [.Attribute o f pos'] value pos) (IP C ta tv f):=by
 subst hK
 intro pins s σ H D I h
 refine plainObj_wpAny_Assign_Attribute (thn (hv pins s σ H _ I h) fun u s1 ⟨y,H1,I1,ry,q⟩=>thn (ha pins s1 σ H1 _ I1 q) fun ov s2 ⟨x,H2,I2,rx,q2⟩=>?_) hs
 cases x with
 | ref x =>
  obtain rfl:ov=Value.ref x:=rx
  rcases q2 with ⟨g1,q⟩ | ⟨d,fs,g1,g2,g3,g4,q⟩
  ·exact IY I2 Z n g1 ry fun d s' hd I'=>⟨σ,_,I',q d hd⟩
  ·exact MO I2 Z n g1 g2 g3 g4 ry fun s' I'=>⟨σ,_,I',q⟩
 | _=>exact False.elim q2
theorem Ev (he:PE X e ta) (hK:X.K=K:=by rfl) (hb:attributeBase e f X.env (eval e X.env)=eval e X.env:=by rfl):PE X (.Attribute e f pos) (Ls K ta f):=by
 subst hK
 intro pins s σ H Q I h
 refine Kp hb (thn (he pins s σ H _ I h) fun u s1 ⟨x,H1,I1,rx,q⟩=>?_)
 cases x with
 | ref x =>
  obtain rfl:u=Value.ref x:=rx
  obtain ⟨C,d,fs,v,⟨g1,_⟩,g2,Z,n,hd,l,q⟩:=q
  obtain ⟨⟨oe,vs,e1,e2,e3,e4⟩,_⟩:=(show ObjOk X.prog X.w H1 s1.heap x (BB x (.ref C) (some d)) from I1.hok x _ g1)
  obtain ⟨⟨mA,n1,r1⟩,_⟩:=(show ObjOk X.prog X.w H1 s1.heap d (XdO d fs) from I1.hok d _ g2)
  obtain ⟨u',hu,ru⟩:=RelO.some_of (v:=v) (o:=mA f) (by rw [<- l];exact r1 f)
  obtain ⟨od,ho,hl⟩:=Gw n1
  have hn:PySem.W.notCls oe=true:=by unfold PySem.W.notCls;rw [e4]
  have J:PySem.W.InstAt s1.heap x oe C (some od):=⟨e1,e2,hn,by rw [e3];exact ho⟩
  have ff:=PySem.W.findObj_own hd n rfl (by rw [hl,hu])
  unfold getAttr
  refine wpAny_bind (wpAny_mkText ?_)
  exact Js (v:=u') I1.kIn J Z ff (MD ru) ⟨v,H1,I1.tok _,ru,q⟩
 | _=>exact False.elim q
theorem MB (Z:ExcI K C fI) (F:FnOk X.prog X.w X.K X.mg X.base CX0 k fI fd ps sp) (hr:Room (k+1) X.A) (hb:Binds X.K fd ps [])
 (hx:∀ (pins:List (Addr × Obj)) (σ:St) (H:Hp) (s:Shared) (x:Addr) (od:Option Addr),Inv X pins σ H s->H x=some (ExN x (.ref C) od)->X.s₀.heap.get? x=none->W σ od (del H x)->X.xe (.ref x) s)
 (hex:X.ex=[]) (hc:X.calm=true) (hg:Gl X c) (hm:X.mg c=some (.ref C)) (ha:PA X (e::es) t) (hK:X.K=K:=by rfl) (hdb:(c == ("__debug__" : Str))=false:=by decide)
 (he:starEach (e::es) X.env=(false,eval e X.env)::starEach es X.env:=by rfl) (hpl:(backTo cpos (starEach es X.env)).any (·.1)=false:=by rfl) :
 PS X (.Raise (some (.Call (.Name c np) (e::es) [] cpos)) none pos) (Fh C sp t W):=by
 subst hK
 intro pins s σ H D I h
 refine Kd I.kIn Z.ob (I.ok.hd hc) (by rw [he];show (false || (backTo cpos (starEach es X.env)).any (·.1))=false;rw [hpl];rfl) (Ck I hg hm ⟨rfl,?_⟩ hdb)
 rw [he]
 refine PySem.Calls.evalArgs_plain ?_
 have ha1:=ha cpos pins s σ H _ I h
 rw [he] at ha1
 refine thn ha1 fun us s1 ⟨vs,H1,I1,r,hl,q⟩=>⟨rfl,by rw [<- r.length];exact AU hl,I1.kIn,?_,fun h1 x hm=>?_⟩
 ·have ft:=beq_iff_eq.mp Z.fn
  unfold PySem.W.typeIn at ft
  obtain ⟨oI,l1,l2⟩:=Option.map_eq_some_iff.mp ft
  exact ⟨oI,I1.kIn _ _ l1,l2⟩
 obtain ⟨tt,ht,htn,_⟩:=hm.there
 have nH:H1 x=none:=Cq I1.hok hm.new
 have I2:Inv X pins σ (upd H1 x (ExN x (.ref C) none)) { s1 with heap:=h1,toks:=s1.toks }:=I1.laidN (a:=x) (fun b u e=>hm.keeps b u e) hm.new (FJ ⟨_,_,ht,rfl,rfl,rfl,rfl⟩)
 have hq:=q x nH
 have r2:Vals (V.ref x::vs) (Value.ref x::us):=.cons rfl r
 have hl2:(Value.ref x::us++[]).length=ps.length:=by
  have e:=r2.length
  rw [F.len _ _ _ _ hq] at e
  rw [List.append_nil]
  exact e.symm
 have hx0:X.s₀.heap.get? x=none:=by
  cases e:X.s₀.heap.get? x with
  | none=>rfl
  | some o =>
   obtain ⟨o',e'⟩:=I1.base.there x o e (by rw [hex];simp)
   rw [hm.new] at e'
   cases e'
 have bb:=hb { s1 with heap:=h1,toks:=s1.toks } (Value.ref x::us) I2.kIn hl2
 rw [List.append_nil] at bb
 refine wpAny_call (codeAny_mono (F.run _ X.stack _ _ ⟨Value.ref x::us,[]⟩ (Value.ref x::us) _ _ E0 (hr.make C us []) (I2.env0.make C us []) bb r2 hq) fun rr s' hq'=>?_)
 cases rr with
 | error ev=>exact False.elim hq'
 | ok fl =>
  cases fl with
  | ret u =>
   obtain ⟨v,H',I3,rv,ev,od,g1,q3⟩:=I2.after hq'
   subst ev
   obtain ⟨⟨oe,vs',e1,e2,e3,e4,e5⟩,_⟩:=(show ObjOk X.prog X.w H' s'.heap x (ExN x (.ref C) od) from I3.hok x _ g1)
   exact ⟨rv,I3.kIn,⟨oe,vs',e1,e2,e4,e5⟩,hx pins σ H' s' x od I3 g1 hx0 q3⟩
  | next=>exact False.elim hq'
  | brk=>exact False.elim hq'
  | cont=>exact False.elim hq'
end
section
variable {X:Cx} {pins:List (Addr × Obj)} {σ:St} {H H':Hp} {s:Shared} {h':Heap} {ch:List Addr}
theorem Ij (I:Inv X pins σ H s) (hex:X.ex=[]) (c:Sl (frs X.stack) ch s.heap h') (h0:∀ b∈ch,X.s₀.heap.get? b=none) (hH:∀ b,b∉ch->H' b=H b) (hn:∀ b∈ch,H' b=none) (hc:∀ b∈ch,H b=none\/∃ φ,H b=some (.ext φ)) :
 Un X.fs [] X.H₀ H' X.s₀.heap h'/\HOk X.prog X.w H' h':=by
 have hx:∀ b:Addr,b∉X.ex:=fun b z=>by rw [hex] at z;cases z
 have nl:∀ b o,X.s₀.heap.get? b=some o->b≠X.env.locals:=fun b o e=>Nat.ne_of_lt (Nat.lt_of_lt_of_le (Heap.lt_size e) I.ok.above)
 have nc:∀ b o,X.s₀.heap.get? b=some o->b∉ch:=fun b o e z=>by rw [h0 b z] at e;cases e
 have tr:∀ b o,H b=some o->(∀ φ,o≠.ext φ)->b∉ch:=fun b o e n z=>by
  rcases hc b z with q | ⟨φ,q⟩
  ·rw [q] at e;cases e
  ·rw [q] at e;cases e;exact n φ rfl
 refine ⟨⟨fun b o e n nb _=>?_,fun b o e n nb _=>?_,fun b o e n _=>?_,fun b o e _=>?_,fun b xs e=>?_,fun b o v e=>?_,fun b ps e=>?_⟩,fun a o e=>?_⟩
 ·exact (c b o (I.base.keep b o e n nb (hx b)) (nc b o e)).1 fun z=>(List.mem_cons.mp (I.stkSub b z)).elim (nl b o e) nb
 ·obtain ⟨sl,e1⟩:=I.base.slot b o e n nb (hx b)
  obtain ⟨sl2,e2⟩:=(c b _ e1 (nc b o e)).2
  exact ⟨sl2,e2⟩
 ·rw [hH b (nc b o e)];exact I.base.free b o e n (hx b)
 ·obtain ⟨o1,e1⟩:=I.base.there b o e (hx b)
  obtain ⟨sl2,e2⟩:=(c b _ e1 (nc b o e)).2
  exact ⟨_,e2⟩
 ·have q:=I.base.tups b xs e
  rw [hH b (tr b _ q fun φ z=>by cases z)];exact q
 ·have q:=I.base.frzs b o v e
  rw [hH b (tr b _ q fun φ z=>by cases z)];exact q
 ·obtain ⟨m,q⟩:=I.base.tbls b ps e
  exact ⟨m,by rw [hH b (tr b _ q fun φ z=>by cases z)];exact q⟩
 ·have na:a∉ch:=fun z=>by rw [hn a z] at e;cases e
  rw [hH a na] at e
  refine (I.hok a o e).stay (fun b u hb q=>(c b u q fun z=>?_).1 fun z=>?_) (fun b q=>?_) fun b xs q=>?_
  ·rcases hb with rfl | hb
   ·exact na z
   ·exact tr b _ hb (fun φ z=>by cases z) z
  ·have:=I.stkFree b z
   rcases hb with rfl | hb
   ·rw [e] at this;cases this
   ·rw [hb] at this;cases this
  ·rw [hH b (tr b _ q fun φ z=>by cases z)];exact q
  ·rw [hH b (tr b _ q fun φ z=>by cases z)];exact q
theorem KO (I:Inv X pins σ H s) (hex:X.ex=[]) {b:Addr} (n:s.heap.get? b=none):X.s₀.heap.get? b=none:=by
 cases e:X.s₀.heap.get? b with
 | none=>rfl
 | some o =>
  obtain ⟨o',e'⟩:=I.base.there b o e (by rw [hex];simp)
  rw [n] at e'
  cases e'
end
section
variable {P:Program} {w:World} {K:W.Frag} {mg:Str->Option Value} {base:Heap} {N:List Str} {qual:Str} {sc:Scope} {f:Addr} {cd:Value} {A:Around} {outer:List Env} {s0:Shared} {H0:Hp} {E:XK}
theorem Jq {pins:List (Addr × Obj)} {σ:St} {H:Hp} {s:Shared} {x C:Addr} {od:Option Addr} (I:Inv (BQ (CXE P w) P w K mg base N qual sc f cd A outer s0 H0 E) pins σ H s) (e:H x=some (ExN x (.ref C) od)) (hx0:s0.heap.get? x=none) (q:E (.ref C) od (del H x)) :
 (BQ (CXE P w) P w K mg base N qual sc f cd A outer s0 H0 E).xe (.ref x) s:=by
 obtain ⟨ex,_⟩:=(show ObjOk P w H s.heap x (ExN x (.ref C) od) from I.hok x _ e)
 refine LM (base:=base) (L:=s0.heap.objs.size) (t:=none) I.ok.frames I.stack rfl ex (.inl rfl) fun h2 T a1 a2 a3=>?_
 have nT:=KO I rfl a2
 obtain ⟨u,hk⟩:=Ij (H':=del H x) I rfl a3 (fun b z=>by rw [List.mem_singleton.mp z];exact hx0) (fun b z=>DM fun r=>z (by rw [r];exact List.mem_singleton.mpr rfl)) (fun b z=>by rw [List.mem_singleton.mp z];exact FM) (fun b z=>by rw [List.mem_singleton.mp z];exact .inr ⟨_,e⟩)
 have xT:T≠x:=fun z=>by
  obtain ⟨_,_,g,_⟩:=ex
  rw [<- z,a2] at g
  cases g
 exact ⟨x,_,od,T,del H x,rfl,I.os,I.bare,u,hk,a1,⟨hx0,nT⟩,⟨FM,by rw [DM xT];exact Cq I.hok a2⟩,q⟩
end
theorem La {C:Addr} {sp:Sp} {ta:TA} {W:St->Option Addr->Hp->Prop}:Aw (Fh C sp ta W):=fun D D' σ H h q=>q
noncomputable def EO (C:Addr) (f g:Str):Sp:=fun vs H Q _=>match vs with
 | [.ref x,y,z]=>H x=some (ExN x (.ref C) none)/\∀ d,H d=none->Q .non (upd (upd (upd H x (ExN x (.ref C) (some d))) d (XdO d [(f,y)])) d (XdO d (BE g z [(f,y)])))
 | _=>False
noncomputable abbrev XW:=Addr->Addr->Option Addr->St->Hp->Prop
noncomputable abbrev TSX:=XW->St->Hp->Prop
section
variable {X:Cx} {K:W.Frag} {C fI:Addr} {fd:FuncData} {ps:List Str} {sp:Sp} {k:Nat} {e c:Expr} {es:List Expr} {cn n:Str} {pos np cpos p p3:Pos} {t:TA} {tc:TT} {ta tb:TSX} {sts rest:List Stmt} {b:Stmt} {bs:List Stmt} {ts:TS} {j:Nat}
end
theorem MY (l:Addr) (items:Array Value) (n:Nat) (dd:Option Addr) (sl:Array (Option Value)) (x:Value) (e:Value->Bool) (j:Nat) (hj:j < items.size) (hit:e items[j]=true) (hno:∀ m (hm:m < items.size),m < j->e items[m]=false) :
 Meets (Builtin.«tuple.index» ⟨[.ref l,x],[]⟩)
  (fun A R s=>s.heap.get? l=some { cls:=.type "tuple",dict:=dd,data:=.seq items n,slots:=sl } /\ (∀ y,y∈items->SeqAt.EqAt A.in1 s y x (e y))/\R (.ok (.ret (.int j s.toks))) { s with toks:=s.toks+1 }) :=
 .of_wp fun prog w A R s h=>by
  obtain ⟨hp,g,d,tk,os⟩:=s
  obtain ⟨hl,he,h⟩:=h
  wp_walk using wpAny_loadPart' hl
  show wpAny (model prog w) A.in1 (forIn ([0:min items.size items.size]:Std.Legacy.Range) ((none,()):Option Fin × Unit) (fun i (_:Option Fin × Unit)=>(match items[i]? with
   | some y=>do
    let b <- eqBool y x
    if b=true then do
     let r <- retInt (i:Nat)
     pure (ForInStep.done (some r,()))
    else pure (ForInStep.yield (none,()))
   | _=>pure (ForInStep.yield (none,())):Sem (ForInStep (Option Fin × Unit))))) _ _ _
  rw [Std.Legacy.Range.forIn_eq_forIn_range']
  simp only [Std.Legacy.Range.size,Nat.sub_zero,Nat.add_sub_cancel,Nat.div_one,Nat.min_self]
  refine wpAny_forIn_list _ (fun rest b s'=>s'=⟨hp,g,d,tk,os⟩/\∃ i,rest=List.range' i (items.size - i)/\i<=j) _ ?_ ?_ _ _ ⟨rfl,0,by simp,Nat.zero_le _⟩
  ·rintro y rest b s' ⟨rfl,i,hr,hi⟩
   obtain ⟨rfl,hrest⟩:y=i/\rest=List.range' (i+1) (items.size - (i+1)):=by
    have e:items.size - i=(items.size - (i+1))+1:=by lia
    rw [e,List.range'_succ] at hr
    injection hr with h1 h2
    exact ⟨h1,h2⟩
   have hy:y < items.size:=by lia
   rw [Array.getElem?_eq_getElem hy]
   refine wpAny_bind (he _ (Array.getElem_mem hy) prog w _ _ ?_)
   rcases Nat.lt_or_ge y j with z | z
   ·rw [hno y hy z]
    wp_walk
    exact ⟨rfl,y+1,hrest,by lia⟩
   ·have:y=j:=by lia
    subst this
    rw [hit]
    wp_walk
    exact ⟨_,rfl,h⟩
  ·rintro b s' ⟨rfl,i,hr,hi⟩
   have e:items.size - i=(items.size - (i+1))+1:=by lia
   rw [e,List.range'_succ] at hr
   cases hr
end L2
namespace L2
open PySem PyProof.Rows
section
variable {prog:Program} {w:World} {A:Around} {E:Value->Shared->Prop} {s:Shared} {kd:SortKind} {El:Keyed->Prop} {κ:Keyed->Int}
variable {a₀:Array Keyed} {lo:Nat} {pe:Array (Nat × Nat × Nat)}
end
end L2
namespace L2
open PySem PySem.Spec PyProof.Rows PySem.W PySem.Calls
section
variable {P:Program} {w:World} {A:Around} {E:Value->Shared->Prop} {s:Shared}
end
section
variable {X:Cx}
end
section
variable {X:Cx}
end
end L2
namespace L2
open PySem PySem.Spec PyProof.Rows
theorem PE.or {X:Cx} {e:Expr} {t u:TE} (h1:PE X e t) (h2:PE X e u):PE X e (fun σ H Q=>t σ H Q\/u σ H Q):=fun pins s σ H Q I h=>h.elim (h1 pins s σ H Q I) (h2 pins s σ H Q I)
theorem PI.or {X:Cx} {tg e:Expr} {t u:TI} (h1:PI X tg e t) (h2:PI X tg e u):PI X tg e (fun σ H R=>t σ H R\/u σ H R):=fun pins s σ H R I h=>h.elim (h1 pins s σ H R I) (h2 pins s σ H R I)
theorem Ix {t u:TE} (h1:AM t) (h2:AM u):AM (fun σ H Q=>t σ H Q\/u σ H Q):=fun σ H Q Q' k q=>q.elim (fun q=>.inl (h1 _ _ _ _ k q)) fun q=>.inr (h2 _ _ _ _ k q)
noncomputable def IxD (ds:List Dv) (d:Dv) (j:Nat):Prop:=(∃ e,ds[j]? = some e/\eqD e d=true)/\∀ (m:Nat) e,m < j->ds[m]? = some e->eqD e d=false
noncomputable def DA (K:W.Frag):V->List V->Hp->VK->Prop:=fun x vs H Q=>match x,vs with
 | .ref l,[y]=>∃ (xs:List V) (ds:List Dv) (d:Dv) (j:Nat),SqL K H l xs/\Reps K H ds xs/\Rep K H d y/\(∀ e∈ds,AF e<=50)/\IxD ds d j/\Q (.int j) H
 | _,_=>False
noncomputable def Dl (K:W.Frag):V->List V->Hp->VK->Prop:=fun x vs H Q=>match x,vs with
 | .ref l,[y]=>∃ (xs:List V) (ds:List Dv) (d:Dv) (j:Nat),SqT K H l xs/\Reps K H ds xs/\Rep K H d y/\(∀ e∈ds,AF e<=50)/\IxD ds d j/\Q (.int j) H
 | _,_=>False
section
variable {X:Cx} {K:W.Frag}
theorem HA {pins:List (Addr × Obj)} {σ:St} {H:Hp} {s:Shared} (I:Inv X pins σ H s) {ds:List Dv} {xs:List V} {its:List Value} {d:Dv} {j:Nat} (hR:Reps X.K H ds xs) (r:Vals xs its) (hi:IxD ds d j):∃ hj:j < its.toArray.size,eqD (AZ X.K H its.toArray[j]) d=true/\∀ m (hm:m < its.toArray.size),m < j->eqD (AZ X.K H its.toArray[m]) d=false:=by
 obtain ⟨⟨e,h1,h2⟩,h3⟩:=hi
 have lr:=r.length
 have lR:=hR.length
 have val:∀ (m:Nat) (hm:m < its.toArray.size) (f:Dv),ds[m]? = some f->AZ X.K H its.toArray[m]=f:=fun m hm f hf=>by
  obtain ⟨x,hx,rx⟩:=hR.get hf
  obtain ⟨w',q1,q2⟩:=r.get hx
  have e2:its.toArray[m]=w':=by
   rw [List.getElem_toArray]
   rw [List.getElem?_eq_getElem (by simpa using hm)] at q1
   exact Option.some.inj q1
  rw [e2]
  exact Ef I q2 rx
 have hj:j < its.toArray.size:=by
  have:=(List.getElem?_eq_some_iff.mp h1).1
  simp;lia
 refine ⟨hj,by rw [val j hj e h1];exact h2,fun m hm hmj=>?_⟩
 have hm2:m < ds.length:=by simp at hm;lia
 rw [val m hm _ (List.getElem?_eq_getElem hm2)]
 exact h3 m _ hmj (List.getElem?_eq_getElem hm2)
theorem Jk (hu:X.A.units+60 < cLine):MtR X "list.index" (DA X.K):=by
 intro pins s σ H x vs v us Q I rx rv q
 match x,vs,q with
 | .ref l,[y],⟨xs,ds,d,j,h1,h2,h3,h4,h5,q⟩ =>
 cases rx
 obtain ⟨u,rfl,ru⟩:=rv.one
 obtain ⟨its,r,pl,hz⟩:=I.list h1
 obtain ⟨⟨cls,dd,data,sl⟩,n,ho,hc,hd,hs⟩:=id pl
 simp only at hc hs
 subst hc hs
 obtain ⟨hj,e1,e2⟩:=HA I h2 r h5
 have lr:=r.length
 have line:=CB
 exact call_meets F.slot_list_index ⟨_,ho,rfl⟩ F.entry_list_index (F.args_list_index_2 _ _) (SeqAt.list_indexAt l its.toArray n dd sl u (fun y=>eqD (AZ X.K H y) d) j hj (by simp at hj;lia) e1 e2) ⟨ho,fun w hw=>B3 hu I ru h3 h2 r h4 w (by simpa using hw),.int _,H,I.tok _,⟨_,rfl⟩,q⟩
theorem K6 (hu:X.A.units+60 < cLine):MtR X "tuple.index" (Dl X.K):=by
 intro pins s σ H x vs v us Q I rx rv q
 match x,vs,q with
 | .ref l,[y],⟨xs,ds,d,j,h1,h2,h3,h4,h5,q⟩ =>
 cases rx
 obtain ⟨u,rfl,ru⟩:=rv.one
 obtain ⟨its,r,pl,hz⟩:=I.tuple h1
 obtain ⟨⟨cls,dd,data,sl⟩,ho,hc,n,hs⟩:=id pl
 simp only at hc hs
 subst hc hs
 obtain ⟨hj,e1,e2⟩:=HA I h2 r h5
 exact call_meets F.slot_tuple_index ⟨_,ho,rfl⟩ F.entry_tuple_index (F.args_tuple_index_2 _ _) (MY l its.toArray n dd sl u (fun y=>eqD (AZ X.K H y) d) j hj e1 e2) ⟨ho,fun w hw=>B3 hu I ru h3 h2 r h4 w (by simpa using hw),.int _,H,I.tok _,⟨_,rfl⟩,q⟩
end
noncomputable def tBT (K:W.Frag) (r:V->List V->Hp->VK->Prop) (to:TE) (t:TA):TE:=fun σ H Q=>to σ H fun x H1=>(∃ p xs,x=.ref p/\SqT K H1 p xs)/\t σ H1 fun xs H2=>r x xs H2 Q
theorem KL {K:W.Frag} {r:V->List V->Hp->VK->Prop} {to:TE} {t:TA} (h1:AM to) (h2:BA t) (h3:Bj r):AM (tBT K r to t):=fun σ H Q Q' h q=>h1 _ _ _ _ (fun _ _ q=>⟨q.1,h2 _ _ _ _ (fun _ _ q=>h3 _ _ _ _ _ h q) q.2⟩) q
section
variable {X:Cx} {K:W.Frag} {o e:Expr} {apos cpos:Pos} {to:TE} {t:TA}
theorem IG {r:V->List V->Hp->VK->Prop} {name:Str} {id:String} (slot:Slot "tuple" name id) (hty:typeOf (.builtin id)=pure (.type "method_descriptor")) (hm:MtR X id r) (ho:PE X o to) (ha:PA X [e] t)
 (hbase:attributeBase o name X.env (eval o X.env)=eval o X.env)
 (hfew:((backTo cpos (starEach [e] X.env)).all (fun x=>!x.1) && (backToKw cpos (keywordEach [] X.env)).all (fun x=>x.1.isSome)
   && decide ([e].length+([]:List Keyword).length+(if ([]:List Keyword).isEmpty then 0 else 1) < 30))=true)
 (hline:(apos.endLine == cpos.line)=true) (hs:starEach [e] X.env=(false,eval e X.env)::starEach [] X.env) (hplain:(backTo cpos (starEach [] X.env)).any (·.1)=false) :
 PE X (.Call (.Attribute o name apos) [e] [] cpos) (tBT X.K r to t):=by
 intro pins s σ H Q I h
 refine wpAny_Call_method_late hbase hfew hline rfl (thn (ho pins s σ H _ I h) fun v s1 ⟨x,H1,I1,r1,⟨p,xs,ex,ty⟩,q1⟩=>?_)
 subst ex
 cases r1
 obtain ⟨its,rv,⟨ob,g1,g2,⟨n,g3⟩,g4⟩,_⟩:=I1.tupleN ty
 refine ⟨"tuple",id,PySem.F.plainAttrs_tuple,slot,hty,⟨ob,g1,g2⟩,(fun a ea=>by cases ea;exact ⟨ob,g1,g4⟩),?_⟩
 have hA:=ha cpos pins s1 σ H1 _ I1 q1
 rw [hs] at hA ⊢
 refine Calls.callWith_builtin (by show (false || (backTo cpos (starEach [] X.env)).any (·.1))=false;rw [hplain] <;> rfl) (Calls.evalArgs_plain ?_)
 exact thn hA fun us s2 ⟨vs,H2,I2,r2,q2⟩=>hm pins s2 σ H2 (.ref p) vs (.ref p) us Q I2 rfl r2 q2
theorem G6 (hu:X.A.units+60 < cLine) (ho:PE X o to) (ha:PA X [e] t) (hbase:attributeBase o "index" X.env (eval o X.env)=eval o X.env:=by rfl)
 (hfew:((backTo cpos (starEach [e] X.env)).all (fun x=>!x.1) && (backToKw cpos (keywordEach [] X.env)).all (fun x=>x.1.isSome)
   && decide ([e].length+([]:List Keyword).length+(if ([]:List Keyword).isEmpty then 0 else 1) < 30))=true:=by rfl)
 (hline:(apos.endLine == cpos.line)=true:=by rfl) (hs:starEach [e] X.env=(false,eval e X.env)::starEach [] X.env:=by rfl) (hplain:(backTo cpos (starEach [] X.env)).any (·.1)=false:=by rfl) (hK:X.K=K:=by rfl) :
 PE X (.Call (.Attribute o "index" apos) [e] [] cpos) (fun σ H Q=>tBM K "list" (DA K) to t σ H Q\/tBT K (Dl K) to t σ H Q):=hK ▸ PE.or (Dg PySem.F.plainAttrs_list PySem.F.slot_list_index PySem.F.type_list_index (Jk hu) ho ha hbase hfew hline hs hplain) (IG PySem.F.slot_tuple_index PySem.F.type_tuple_index (K6 hu) ho ha hbase hfew hline hs hplain)
theorem JN:Bj (DA K):=fun x xs H Q Q' h q=>by
 unfold DA at *
 split at q
 ·obtain ⟨ys,j,z,a,b,c,d,e,f,q⟩:=q;exact ⟨ys,j,z,a,b,c,d,e,f,h _ _ q⟩
 ·exact q.elim
theorem Hs:Bj (Dl K):=fun x xs H Q Q' h q=>by
 unfold Dl at *
 split at q
 ·obtain ⟨ys,j,z,a,b,c,d,e,f,q⟩:=q;exact ⟨ys,j,z,a,b,c,d,e,f,h _ _ q⟩
 ·exact q.elim
end
end L2
namespace L2
open PySem PyProof.Rows
section
variable {prog:Program} {w:World} {A:Around} {E:Value->Shared->Prop} {s:Shared}
theorem Kb {R:Result->Shared->Prop} {r S:Addr} {a b c:Int} {t u v:Tok} {n:Nat} (hh:A.handled=none) (hr:IsRange s.heap r a b c t u v) (hsmall:Builtin.Range.small a b c=true) (hn:Builtin.Range.rangeSize a b c=n) (hlen:n<=2 ^ 24) (hS:s.heap.get? S=some { cls:=.type "list",data:=.seq #[] })
 (hR:∀ h' tk acc' c',(∀ b o,b≠S->s.heap.get? b=some o->h'.get? b=some o)->h'.get? S=some { cls:=.type "list",dict:=none,data:=.seq acc' c',slots:=#[] } -> ItemsOf (fun i v=>∃ t,v=.int (a+i * c) t) acc' n->R (.ok (.ret (.ref S))) { s with heap:=h',toks:=tk }) :
 codeAny (model prog w) A (.builtin "list.__iadd__" ⟨[.ref S,.ref r],[]⟩) R s:=codeAny_builtin F.entry_list_iadd (by
 rw [Around.under_plainId F.plain_list_iadd _]
 exact wpAny_extend_range (R:=R) hh hr hsmall hn hlen S (.ref S) 0 hS hR)
theorem Hr {Q:List Value->Shared->Prop} {r:Addr} {a b c:Int} {t u v:Tok} {n:Nat} (hh:A.handled=none) (hr:IsRange s.heap r a b c t u v) (hsmall:Builtin.Range.small a b c=true) (hn:Builtin.Range.rangeSize a b c=n) (hlen:n<=2 ^ 24)
 (hQ:∀ h' tk acc,(∀ b o,s.heap.get? b=some o->h'.get? b=some o)->ItemsOf (fun i v=>∃ t,v=.int (a+i * c) t) acc n->Q acc.toList { s with heap:=h',toks:=tk }):wpAny (model prog w) A (collect (.ref r)) Q E s:=by
 unfold collect
 refine wpAny_bind (wpAny_runValue (codeAny_builtin F.entry_proto_collect ?_))
 rw [Around.under_plainId F.plain_proto_collect _]
 show wpAny _ A.in1 (newList [] >>= fun l=>again (.builtin "list.__iadd__" ⟨[l,.ref r],[]⟩)) _ _ s
 refine wpAny_bind (wpAny_newObj_type ?_)
 refine wpAny_pure ⟨plainId_quiet F.plain_list_iadd _,Kb (s:={ s with heap:=s.heap.push { cls:=.type "list",data:=.seq ([]:List Value).toArray } }) (n:=n) hh (Heap.get?_push_of_some _ hr) hsmall hn hlen (Heap.get?_push_size _ rfl) fun h' tk acc c' hk hS hacc=>?_⟩
 show wpAny _ A (load s.heap.objs.size >>= _) _ _ _
 refine wpAny_bind (wpAny_load hS ?_)
 exact wpAny_pure (hQ h' tk acc (fun b o e=>hk b o (Nat.ne_of_lt (Heap.lt_size e)) (Heap.get?_push_of_some _ e)) hacc)
theorem L4 {Q:Value->Shared->Prop} {r:Addr} {a b c:Int} {t u v:Tok} {n:Nat} (hh:A.handled=none) (hr:IsRange s.heap r a b c t u v) (hsmall:Builtin.Range.small a b c=true) (hn:Builtin.Range.rangeSize a b c=n) (hlen:n<=1000)
 (h:∀ (h':Heap) (tk:Nat) (acc:Array Value),(∀ b o,s.heap.get? b=some o->h'.get? b=some o)->ItemsOf (fun i v=>∃ t,v=.int (a+i * c) t) acc n->Q (.ref h'.objs.size) { s with heap:=h'.push { cls:=.type "tuple",data:=.seq acc },toks:=tk }) :
 wpAny (model prog w) A (call (.type "tuple") [.ref r]) Q E s:=by
 have M:Meets (Builtin.«tuple.__new__» ⟨[.type "tuple",.ref r],[]⟩) (fun A R s=>A.handled=none/\IsRange s.heap r a b c t u v/\∀ (h':Heap) (tk:Nat) (acc:Array Value),(∀ b o,s.heap.get? b=some o->h'.get? b=some o)->ItemsOf (fun i v=>∃ t,v=.int (a+i * c) t) acc n ->
  R (.ok (.ret (.ref h'.objs.size))) { s with heap:=h'.push { cls:=.type "tuple",data:=.seq acc },toks:=tk }):=.of_wp fun prog w A R s h=>by
  obtain ⟨hh,hr,h⟩:=h
  have hsub:=sub_tuple_self
  have hinit:=init_tuple_lookup
  have hmh:=madeHere_tuple
  have hT:s.TypeIs (.ref r) "range":=⟨_,hr,rfl⟩
  have hh1:A.in1.handled=none:=hh
  wp_walk using wpAny_typeOf hT,Hr (n:=n) hh1 hr hsmall hn (by lia)
  intro h' tk acc hk hacc
  show wpAny _ _ (Builtin.Tuple.tupleExact acc.toList.toArray >>= fun v=>ret v) _ _ _
  unfold Builtin.Tuple.tupleExact
  refine wpAny_bind (wpAny_newObj_type ?_ (show acc.toList.toArray.size<=sizeLine by simp only [Array.toArray_toList];rw [hacc.1,sizeLine_eq];lia))
  refine wpAny_pure ⟨_,rfl,?_⟩
  have e:acc.toList.toArray=acc:=by simp
  rw [e]
  exact h h' tk acc hk hacc
 refine callType_new F.called_tuple (by decide) (F.typeCall_tuple_1 _) (F.newCall_tuple_1 _) (fun obj=>F.args_object_init_2 obj _) F.entry_tuple_new
  M ⟨hh,hr,fun h' tk acc hk hacc=>⟨⟨_,Heap.get?_push_size _ rfl,rfl⟩,h h' tk acc hk hacc⟩⟩
end
theorem KG {t u:TI} (h1:Ba t) (h2:Ba u):Ba (fun σ H R=>t σ H R\/u σ H R):=fun σ H Q Q' k q=>q.elim (fun q=>.inl (h1 _ _ _ _ k q)) fun q=>.inr (h2 _ _ _ _ k q)
noncomputable def tTR (ta:TA):TE:=fun σ H Q=>ta σ H fun vs H1=>match vs with
 | [.int j]=>∃ n:Nat,j=n/\n<=1000/\∀ p,H1 p=none->Q (.ref p) (upd H1 p (.tup ((List.range n).map fun (k:Nat)=>V.int (k:Int))))
 | _=>False
section
variable {X:Cx}
theorem Jl {a:Expr} {ta:TA} {p pos p2 pos2:Pos} (hc:X.calm=true) (hg:Gl X "tuple") (hm:X.mg "tuple" = none) (hg2:Gl X "range") (hm2:X.mg "range" = none) (ha:PA X [a] ta)
 (hs:starEach [a] X.env=[(false,eval a X.env)]:=by rfl)
 (hs3:starEach [.Call (.Name "range" p2) [a] [] pos2] X.env=[(false,eval (.Call (.Name "range" p2) [a] [] pos2) X.env)]:=by rfl) :
 PE X (.Call (.Name "tuple" p) [.Call (.Name "range" p2) [a] [] pos2] [] pos) (tTR ta):=by
 intro pins s σ H Q I h
 refine Call_ (BZ I hg hm (by rfl:bootBuiltins "tuple" = some (.type "tuple")) (PyProof.Rows.callWith_type1 ?_ (by rw [hs3];rfl) (by rfl)))
 rw [hs3]
 show wpAny _ _ (spliced ((false,eval (.Call (.Name "range" p2) [a] [] pos2) X.env)::[])) _ _ s
 refine Calls.spliced_cons ?_
 refine Call_ (BZ I hg2 hm2 (by rfl:bootBuiltins "range" = some (.type "range")) (PyProof.Rows.callWith_type1 (thn (ha pos2 pins s σ H _ I h) fun us s1 ⟨vs,H1,I1,r1,q1⟩=>?_) hs rfl))
 match vs,q1,r1 with
 | [.int j],⟨n,hj,hn,q⟩,r1 =>
 subst hj
 cases r1 with
 | cons r rr =>
 cases rr
 obtain ⟨t,rfl⟩:=r
 refine call_range_1 ?_
 refine Calls.spliced_nil ?_
 refine L4 (n:=n) (I.ok.hd hc) (IsRange.new ..) (small_one (by lia) (by lia) (by lia) (by lia)) ?_ hn fun h' tk acc hk hacc=>?_
 ·rw [rangeSize_one];split <;> lia
 have keep:∀ b u,s1.heap.get? b=some u->(h'.push { cls:=.type "tuple",data:=.seq acc }).get? b=some u:=fun b u e=>Heap.get?_push_of_some _ (hk b u (Heap.get?_push_of_some _ e))
 have nx:s1.heap.get? h'.objs.size=none:=by
  cases e:s1.heap.get? h'.objs.size with
  | none=>rfl
  | some o=>exact absurd (Heap.lt_size (hk _ _ (Heap.get?_push_of_some _ e))) (Nat.lt_irrefl _)
 refine ⟨.ref _,_,I1.laidN (t':=tk) (o:=.tup ((List.range n).map fun (k:Nat)=>V.int (k:Int))) keep nx ?_,rfl,q _ (Cq I1.hok nx)⟩
 refine ⟨by rw [List.length_map,List.length_range];exact AU hn,acc.toList,?_,⟨_,Heap.get?_push_size _ rfl,rfl,⟨_,by simp;rfl⟩,rfl⟩⟩
 rw [List.range_eq_range']
 refine Gi n 0 acc.toList (by rw [Array.length_toList];exact hacc.1) fun j v hj=>?_
 obtain ⟨t,e⟩:=hacc.2 j v (by rw [<- Array.getElem?_toList];exact hj)
 exact ⟨t,by rw [e];congr 1;lia⟩
end
end L2
namespace L2
open PySem PySem.Spec PyProof.Rows
theorem FnOk.calm {P:Program} {w:World} {K:W.Frag} {mg:Str->Option Value} {base:Heap} {k:Nat} {f:Addr} {fd:FuncData} {ps:List Str} {sp sp':Sp} (F:FnOk P w K mg base (CXE P w) k f fd ps sp) (h:∀ vs H Q E,sp' vs H Q E->sp vs H Q fun _ _ _=>False):FnOk P w K mg base CX0 k f fd ps sp' :=
 ⟨fun vs H Q E q=>F.len vs H Q _ (h _ _ _ _ q),fun A outer s H args us vs Q E hr he hb hv hs=>codeAny_mono (F.run A outer s H args us vs Q _ hr he hb hv (h _ _ _ _ hs)) fun r s' q=>by
  cases r with
  | error e=>obtain ⟨_,_,_,_,_,_,_,_,_,_,_,_,_,z⟩:=q;exact z.elim
  | ok fl=>cases fl <;> first | exact q | exact False.elim q⟩
end L2
namespace Mine
open PySem L2
noncomputable def top (i:Nat):Stmt:=PySem.Challenge.pw_flips_k39_games_of_classes.main.body.getD i (.Pass ⟨0,0,0,0⟩)
noncomputable abbrev By:Stmt:=J8 (top 3) 0
noncomputable abbrev Bx:Stmt:=top 10
noncomputable abbrev B4:Stmt:=top 12
noncomputable abbrev Bz:Stmt:=top 16
noncomputable abbrev CJ:Stmt:=top 17
noncomputable abbrev Bv:Stmt:=top 18
noncomputable abbrev CA:Stmt:=top 19
noncomputable abbrev CL:Stmt:=top 21
noncomputable abbrev CU:Stmt:=top 22
noncomputable abbrev B0:Stmt:=top 23
noncomputable abbrev B2:Stmt:=top 25
noncomputable abbrev B1:Stmt:=top 26
noncomputable abbrev CO:Stmt:=top 27
noncomputable abbrev B5:Stmt:=top 28
noncomputable abbrev BU:Stmt:=top 29
theorem Lz:FnScope ["self","one","other"] ["self","one","other"] (AI By):=by (exact ⟨rfl,rfl,rfl,by decide +kernel,rfl,by decide +kernel,by decide +kernel⟩)
theorem JV:FnScope ["thing"] ["thing"] (AI Bx):=by (exact ⟨rfl,rfl,rfl,by decide +kernel,rfl,by decide +kernel,by decide +kernel⟩)
theorem MZ:FnScope ["thing"] ["thing"] (AI B4):=by (exact ⟨rfl,rfl,rfl,by decide +kernel,rfl,by decide +kernel,by decide +kernel⟩)
theorem JI:FnScope ["thing"] ["thing"] (AI Bz):=by (exact ⟨rfl,rfl,rfl,by decide +kernel,rfl,by decide +kernel,by decide +kernel⟩)
theorem Jm:FnScope ["most","thing"] ["most","thing"] (AI CJ):=by (exact ⟨rfl,rfl,rfl,by decide +kernel,rfl,by decide +kernel,by decide +kernel⟩)
theorem Hd:FnScope ["things","thing"] ["things","thing"] (AI Bv):=by (exact ⟨rfl,rfl,rfl,by decide +kernel,rfl,by decide +kernel,by decide +kernel⟩)
theorem sc_z10:FnScope ["tables","other","table","one","rows"] ["tables"] (AI CA):=by (exact ⟨rfl,rfl,rfl,by decide +kernel,rfl,by decide +kernel,by decide +kernel⟩)
theorem JC:FnScope ["_law_script"] ["_law_script"] (AI CL):=by (exact ⟨rfl,rfl,rfl,by decide +kernel,rfl,by decide +kernel,by decide +kernel⟩)
theorem sc_z16:FnScope ["_law_feed_here","_law_many","_law_turn","_law_cell","_law_mixed","_law_digit"] ["_law_feed_here","_law_many"] (AI CU):=by (exact ⟨rfl,rfl,rfl,by decide +kernel,rfl,by decide +kernel,by decide +kernel⟩)
theorem sc_z11:FnScope ["_law_feed_here","_law_n","_law_many","_law_way","_law_place","_law_one","_law_answer"] ["_law_feed_here","_law_n"] (AI B0):=by (exact ⟨rfl,rfl,rfl,by decide +kernel,rfl,by decide +kernel,by decide +kernel⟩)
theorem sc_z13:FnScope ["_law_feed_here","_law_n","_law_many","_law_tables","_law_at","_law_k","_law_table_here"] ["_law_feed_here","_law_n","_law_many"] (AI B2):=by (exact ⟨rfl,rfl,rfl,by decide +kernel,rfl,by decide +kernel,by decide +kernel⟩)
theorem sc_z14:FnScope ["_law_tables","_law_found","e","_law_others"] ["_law_tables"] (AI B1):=by (exact ⟨rfl,rfl,rfl,by decide +kernel,rfl,by decide +kernel,by decide +kernel⟩)
theorem sc_z18:FnScope ["_law_tables","_law_other","_law_rows"] ["_law_tables"] (AI CO):=by (exact ⟨rfl,rfl,rfl,by decide +kernel,rfl,by decide +kernel,by decide +kernel⟩)
theorem sc_z12:FnScope ["_law_tables","_law_handed","_law_turn"] ["_law_tables"] (AI B5):=by (exact ⟨rfl,rfl,rfl,by decide +kernel,rfl,by decide +kernel,by decide +kernel⟩)
theorem sc_law:FnScope ["_law_script","_law_feed_here","_law_k","_law_n","_law_tables","_law_turn"] ["_law_script"] (AI BU):=by (exact ⟨rfl,rfl,rfl,by decide +kernel,rfl,by decide +kernel,by decide +kernel⟩)
set_option genInjectivity false
set_option genSizeOf false
structure Txt (K:W.Frag) (mg:Str->Option Value) where
 C_Alike:Addr
 mC_Alike:mg "Alike" = some (.ref C_Alike)
 C_FlipError:Addr
 mC_FlipError:mg "FlipError" = some (.ref C_FlipError)
 C_NoEnd:Addr
 mC_NoEnd:mg "NoEnd" = some (.ref C_NoEnd)
 C_NoName:Addr
 mC_NoName:mg "NoName" = some (.ref C_NoName)
 C_NoRow:Addr
 mC_NoRow:mg "NoRow" = some (.ref C_NoRow)
 C_NoTable:Addr
 mC_NoTable:mg "NoTable" = some (.ref C_NoTable)
 C_NoText:Addr
 mC_NoText:mg "NoText" = some (.ref C_NoText)
 C_NoThing:Addr
 mC_NoThing:mg "NoThing" = some (.ref C_NoThing)
 xc_Alike:ExcC K C_Alike
 hd_Alike:W.hasDictIn K C_Alike=true
 na_Alike_one:Bq K C_Alike "one"
 na_Alike_other:Bq K C_Alike "other"
 xm_Alike_FlipError:W.exmOne K (.ref C_Alike) (.ref C_FlipError)=some true
 kk_Alike_Alike:W.kitOne K (.ref C_Alike) (.ref C_Alike)=some true
 kk_Alike_NoEnd:W.kitOne K (.ref C_Alike) (.ref C_NoEnd)=some false
 kk_Alike_NoName:W.kitOne K (.ref C_Alike) (.ref C_NoName)=some false
 kk_Alike_NoRow:W.kitOne K (.ref C_Alike) (.ref C_NoRow)=some false
 kk_Alike_NoTable:W.kitOne K (.ref C_Alike) (.ref C_NoTable)=some false
 kk_Alike_NoText:W.kitOne K (.ref C_Alike) (.ref C_NoText)=some false
 kk_Alike_NoThing:W.kitOne K (.ref C_Alike) (.ref C_NoThing)=some false
 kk_Alike_ValueError:W.kitOne K (.ref C_Alike) (.type "ValueError")=some true
 f_z0:Addr
 d_z0:FuncData
 F_z0:Fun K "__init__" "Alike.__init__" By f_z0 d_z0
 b_z0:Binds K d_z0 ["self","one","other"] []
 me_z0:Meth K C_Alike "__init__" f_z0
 xI_Alike:ExcI K C_Alike f_z0
 f_z19:Addr
 d_z19:FuncData
 F_z19:Fun K "is_whole" "is_whole" Bx f_z19 d_z19
 b_z19:Binds K d_z19 ["thing"] []
 m_z19:mg "is_whole" = some (.ref f_z19)
 f_z20:Addr
 d_z20:FuncData
 F_z20:Fun K "is_pair" "is_pair" B4 f_z20 d_z20
 b_z20:Binds K d_z20 ["thing"] []
 m_z20:mg "is_pair" = some (.ref f_z20)
 f_z21:Addr
 d_z21:FuncData
 F_z21:Fun K "is_game" "is_game" Bz f_z21 d_z21
 b_z21:Binds K d_z21 ["thing"] []
 m_z21:mg "is_game" = some (.ref f_z21)
 f_z17:Addr
 d_z17:FuncData
 F_z17:Fun K "has_some" "has_some" CJ f_z17 d_z17
 b_z17:Binds K d_z17 ["most","thing"] []
 m_z17:mg "has_some" = some (.ref f_z17)
 f_z22:Addr
 d_z22:FuncData
 F_z22:Fun K "is_row" "is_row" Bv f_z22 d_z22
 b_z22:Binds K d_z22 ["things","thing"] []
 m_z22:mg "is_row" = some (.ref f_z22)
 f_z10:Addr
 d_z10:FuncData
 F_z10:Fun K "class_game" "class_game" CA f_z10 d_z10
 b_z10:Binds K d_z10 ["tables"] []
 m_z10:mg "class_game" = some (.ref f_z10)
 f_z15:Addr
 d_z15:FuncData
 F_z15:Fun K "_law_feed" "_law_feed" CL f_z15 d_z15
 b_z15:Binds K d_z15 ["_law_script"] []
 m_z15:mg "_law_feed" = some (.ref f_z15)
 f_z16:Addr
 d_z16:FuncData
 F_z16:Fun K "_law_draw" "_law_draw" CU f_z16 d_z16
 b_z16:Binds K d_z16 ["_law_feed_here","_law_many"] []
 m_z16:mg "_law_draw" = some (.ref f_z16)
 f_z11:Addr
 d_z11:FuncData
 F_z11:Fun K "_law_table" "_law_table" B0 f_z11 d_z11
 b_z11:Binds K d_z11 ["_law_feed_here","_law_n"] []
 m_z11:mg "_law_table" = some (.ref f_z11)
 f_z13:Addr
 d_z13:FuncData
 F_z13:Fun K "_law_class" "_law_class" B2 f_z13 d_z13
 b_z13:Binds K d_z13 ["_law_feed_here","_law_n","_law_many"] []
 m_z13:mg "_law_class" = some (.ref f_z13)
 f_z14:Addr
 d_z14:FuncData
 F_z14:Fun K "_law_said" "_law_said" B1 f_z14 d_z14
 b_z14:Binds K d_z14 ["_law_tables"] []
 m_z14:mg "_law_said" = some (.ref f_z14)
 f_z18:Addr
 d_z18:FuncData
 F_z18:Fun K "_law_due" "_law_due" CO f_z18 d_z18
 b_z18:Binds K d_z18 ["_law_tables"] []
 m_z18:mg "_law_due" = some (.ref f_z18)
 f_z12:Addr
 d_z12:FuncData
 F_z12:Fun K "_law_right" "_law_right" B5 f_z12 d_z12
 b_z12:Binds K d_z12 ["_law_tables"] []
 m_z12:mg "_law_right" = some (.ref f_z12)
 f_law:Addr
 d_law:FuncData
 F_law:Fun K "law" "law" BU f_law d_law
 b_law:Binds K d_law ["_law_script"] []
 m_law:mg "law" = some (.ref f_law)
 z_ValueError:mg "ValueError" = none
 z_all:mg "all" = none
 z_bool:mg "bool" = none
 z_enumerate:mg "enumerate" = none
 z_int:mg "int" = none
 z_isinstance:mg "isinstance" = none
 z_len:mg "len" = none
 z_list:mg "list" = none
 z_range:mg "range" = none
 z_repr:mg "repr" = none
 z_tuple:mg "tuple" = none
 t_MOST_THINGS:Tok
 c_MOST_THINGS:mg "MOST_THINGS" = some (.int 16 t_MOST_THINGS)
 t_MOST_ROWS:Tok
 c_MOST_ROWS:mg "MOST_ROWS" = some (.int 16 t_MOST_ROWS)
section
variable {P:Program} {w:World} {K:W.Frag} {mg:Str->Option Value} {base:Heap} (T:Txt K mg)
theorem IV:FnOk P w K mg base CX0 1 T.f_z15 T.d_z15 ["_law_script"] (Eo K):=by
 refine T.F_z15.ok JC (fun vs H Q E h=>by unfold Eo at h;split at h <;> first | rfl | exact h.elim) (fun cdv A outer s H vs Q E hr h=>?_)
 have hu:=Ax hr
 unfold Eo at h
 split at h
 rotate_left
 ·exact h.elim
 rename_i a
 obtain ⟨ns,hs,q⟩:=h
 refine ⟨_,(@AJ _ _ _ (@AQ _ _ _ _ (@Cd _ _ _ _ (AA (AL (BS (K:=K)) (Ay (EG (K:=K)) rfl T.z_list (by rfl) (AA (FB (K:=K) (vv 0) DP (DG AC)) AB)) (AL Bi (@Cd _ _ _ _ (AA AC AB)) (Ay MK rfl T.z_int (by rfl) (AA (Be (kEq (K:=K) hu) (vv 0) (@Cd _ _ _ _ AB)) AB)))) (AA AC (AA AC (AA AC AB))))))),?_⟩
 refine ⟨63,rfl,_,.inl ⟨hs,fun p hp=>?_⟩⟩
 have ecut:Al (ns.map V.int) none (some 63)=(ns.take (HT.sIx ns.length ns.length (some 63))).map V.int:=by
  unfold Al
  rw [List.length_map]
  simp [HT.sIx,List.map_take]
 rw [ecut]
 generalize hns:ns.take (HT.sIx ns.length ns.length (some 63))=ms
 have hms:ns≠[]->ms≠[]:=by
  intro hne
  rw [<- hns]
  cases ns with
  | nil=>exact absurd rfl hne
  | cons x xs =>
   have e:HT.sIx (x::xs).length (x::xs).length (some 63)=min 63 (xs.length+1):=HT.sIx_nat _ _ 63
   rw [e,show min 63 (xs.length+1)=(min 62 xs.length)+1 by lia,List.take_succ_cons]
   exact fun z=>nomatch z
 have hml:ms.length<=63:=by
  rw [<- hns,List.length_take]
  have e:HT.sIx ns.length ns.length (some 63)=min 63 ns.length:=HT.sIx_nat _ _ 63
  lia
 refine ⟨_,.inl (.of AE),fun p2 hp2=>?_⟩
 have s2:Same H (upd (upd H p (.lst (ms.map V.int))) p2 (.lst (ms.map V.int))):=(Same.upd hp).trans (Same.upd hp2)
 have g2:upd (upd H p (.lst (ms.map V.int))) p2 (.lst (ms.map V.int)) p2=some (.lst (ms.map V.int)):=AE
 generalize upd (upd H p (.lst (ms.map V.int))) p2 (.lst (ms.map V.int))=H2 at *
 refine ⟨AU (show 1<=1000 by decide),fun p3 hp3=>?_⟩
 have s3:Same H2 (upd H2 p3 (.lst [.int 0])):=Same.upd hp3
 have g3:upd H2 p3 (.lst [.int 0]) p3=some (.lst [.int 0]):=AE
 generalize upd H2 p3 (.lst [.int 0])=H3 at *
 refine ⟨AU (show 0<=1000 by decide),fun p4 hp4=>?_⟩
 have s4:Same H3 (upd H3 p4 (.lst [])):=Same.upd hp4
 have g4:upd H3 p4 (.lst []) p4=some (.lst []):=AE
 generalize upd H3 p4 (.lst [])=H4 at *
 have S4:=s2.trans (s3.trans s4)
 refine ⟨.lst (ns.map Dv.int),.lst [],?_,?_,?_,?_⟩
 ·unfold Rep;exact ⟨a,_,rfl,S4.sqL hs,FZ ns⟩
 ·unfold Rep;exact ⟨p4,_,rfl,.of g4,Aa⟩
 ·unfold AF;rw [Gc];lia
 have eb:eqD (.lst (ns.map Dv.int)) (.lst [])=decide (ns=[]):=by
  rw [D1]
  cases ns with
  | nil=>rfl
  | cons x xs=>rfl
 rw [eb]
 have fin:∀ (k:Nat),k<=1->(ns=[]->k=1)->∀ H5 p5,Same H4 H5->H5 p5=some (.lst (List.replicate k (V.int 0)))->∃ l b xs zs,V.ref p2=.ref l/\V.ref p5=.ref b/\H5 l=some (.lst xs)/\H5 b=some (.lst zs)/\xs.length+zs.length<=sizeLine/\∀ p6,H5 p6=none ->
  4<=sizeLine/\∀ p7,upd H5 p6 (.lst (xs++zs)) p7=none->Q (.ref p7) (upd (upd H5 p6 (.lst (xs++zs))) p7 (.lst [.ref p6,.int 0,.int 0,.int 0])):=by
  intro k hk hk1 H5 p5 s5 g5
  refine ⟨p2,p5,_,_,rfl,rfl,s5 _ _ (s4 _ _ (s3 _ _ g2)),g5,AU (by rw [List.length_map,List.length_replicate];lia),fun p6 hp6=>⟨AU (by decide),fun p7 hp7=>?_⟩⟩
  have S5:=S4.trans s5
  have S6:=S5.trans (Same.upd (o:=.lst (ms.map V.int++List.replicate k (V.int 0))) hp6)
  refine q p7 _ (S6.free hp7) (S6.trans (Same.upd hp7)) ⟨p6,0,0,0,ms++List.replicate k 0,by decide,by decide,by decide,by decide,AE,?_,?_,?_⟩
  ·exact fun e=>by rw [<- e,AE] at hp7;cases hp7
  ·rw [AD (fun e=>by rw [<- e,AE] at hp7;cases hp7),AE]
   rw [List.map_append,List.map_replicate]
  ·rw [List.length_append,List.length_replicate]
   by_cases hne:ns=[]
   ·rw [hk1 hne];lia
   ·have:=hms hne
    have:ms.length≠0:=fun z=>this (List.length_eq_zero_iff.mp z)
    lia
 by_cases hne:ns=[]
 ·rw [decide_eq_true hne]
  refine ⟨p3,1,_,rfl,rfl,s4 _ _ g3,by decide,by decide,AU (by decide),fun p5 hp5=>.inl ?_⟩
  exact fin 1 (by decide) (fun _=>rfl) _ p5 (Same.upd hp5) AE
 ·rw [decide_eq_false hne]
  refine ⟨p3,0,_,rfl,rfl,s4 _ _ g3,by decide,by decide,AU (by decide),fun p5 hp5=>.inl ?_⟩
  exact fin 0 (by decide) (fun z=>absurd z hne) _ p5 (Same.upd hp5) AE
theorem JX:FnOk P w K mg base CX0 1 T.f_z16 T.d_z16 ["_law_feed_here","_law_many"] Db:=by
 refine T.F_z16.ok sc_z16 (fun vs H Q E h=>by unfold Db at h;split at h <;> first | rfl | exact h.elim) (fun cdv A outer s H vs Q E hr h=>?_)
 have hu:=Ax hr
 match vs,h with
 | [.ref t,.int m],h =>
 obtain ⟨l,N,F,hN,hm,k⟩:=h
 obtain ⟨i,g,c,ns,i0,g0,c0,cN,ht,lt,hl,nl⟩:=F.at_
 have hm0:0 < m:=hm.1
 refine ⟨_,(@AH _ _ _ _ _ (@C9 _ _ _ _ _ _ (AL (BS (K:=K)) (kIx (K:=K) (vv 0) AC) AC) (DC (vv 0) AC DO) (by rfl) (by rfl) (by rfl)) (@AH _ _ _ _ _ (@AX _ _ 2 _ _ _ _ sc_z16.nd rfl (by (first | exact Or.inl rfl | exact Or.inr rfl)) (kIx (K:=K) (vv 0) AC) (by rfl) (by (first | exact .inl rfl | exact .inr rfl | assumption))) (@AH _ _ _ _ _ (@Ao _ _ _ _ _ _ _ _ (As (kEq (K:=K) hu) (kIx (K:=K) (vv 0) AC) AC) (@AH _ _ _ _ _ (@AX _ _ 3 _ _ _ _ sc_z16.nd rfl (by (first | exact Or.inl rfl | exact Or.inr rfl)) (kIx (K:=K) (kIx (K:=K) (vv 0) AC) (AL CC (kIx (K:=K) (vv 0) AC) (AK (Ar (K:=K)) rfl T.z_len (by rfl) (AA (kIx (K:=K) (vv 0) AC) AB)))) (by rfl) (by (first | exact .inl rfl | exact .inr rfl | assumption))) (@AH _ _ _ _ _ (@C9 _ _ _ _ _ _ (AL (BS (K:=K)) (kIx (K:=K) (vv 0) AC) AC) (DC (vv 0) AC DO) (by rfl) (by rfl) (by rfl)) (@AH _ _ _ _ _ (@Ao _ _ _ _ _ _ _ _ (As DB (vv 3) (AL J1 AC AC)) (@AH _ _ _ _ _ (@AX _ _ 4 _ _ _ _ sc_z16.nd rfl (by (first | exact Or.inl rfl | exact Or.inr rfl)) (AL (BS (K:=K)) (AL (BS (K:=K)) (AL (BS (K:=K)) (AL CC (vv 3) AC) (AL Bi (AL Bi AC (vv 2)) (vv 2))) (AL Bi AC (vv 2))) AC) (by rfl) (by (first | exact .inl rfl | exact .inr rfl | assumption))) (@AH _ _ _ _ _ (@AX _ _ 4 _ _ _ _ sc_z16.nd rfl (by (first | exact Or.inl rfl | exact Or.inr rfl)) (AL Bi (AL EF (AL CC (AL Bi (vv 4) AC) AC) AC) AC) (by rfl) (by (first | exact .inl rfl | exact .inr rfl | assumption))) (@AJ _ _ _ (@AQ _ _ _ _ (AL CC (AL EF (AL CC (vv 4) AC) AC) (vv 1)))))) Am) (@AJ _ _ _ (@C9 _ _ _ _ _ _ (vv 3) (DC (vv 0) AC DO) (by rfl) (by rfl) (by rfl)))))) Am) (@AH _ _ _ _ _ (@AX _ _ 5 _ _ _ _ sc_z16.nd rfl (by (first | exact Or.inl rfl | exact Or.inr rfl)) (AL CC (kIx (K:=K) (vv 0) AC) (vv 1)) (by rfl) (by (first | exact .inl rfl | exact .inr rfl | assumption))) (@AH _ _ _ _ _ (@C9 _ _ _ _ _ _ (AL EF (kIx (K:=K) (vv 0) AC) (vv 1)) (DC (vv 0) AC DO) (by rfl) (by rfl) (by rfl)) (@AJ _ _ _ (@AQ _ _ _ _ (vv 5)))))))),?_⟩
 refine Ak (fun σ' H1=>σ'=[some (.ref t),some (.int m),none,none,none,none]/\(∀ b,b≠t->H1 b=H b)/\H1 t=some (.lst [.ref l,.int i,.int g,.int (c+1)])) ?_ ?_ (by (repeat' with_reducible first | exact Hb | apply KU | apply IX | apply Jj | apply Iy | apply Mb | apply JU | exact JR | exact KQ | apply LP | apply Ko | apply K9 | apply Ie | apply Lm | apply MG | exact Hu | exact LH | exact Mc | exact LK | exact Hz | exact Ma | exact Iv | exact Ks | exact Mf | exact Io | apply Hv | apply ME | apply ML | apply Im | exact Jn | apply HW | exact Lj | exact Lb | apply He | apply K8 | exact JD | apply J9 | exact HZ | exact Lv | exact HN | exact Hq | apply IA | exact Iq | apply Lw | apply Ix | apply KG | apply KL | exact JN | exact Hs | exact JG | apply Kl | apply JT | exact JF | exact II | exact LU | exact La | apply Jx | apply Ji | exact K0 | apply J3 | assumption))
 ·exact ⟨_,_,.inl (.of ht),rfl,_,_,ht,rfl,rfl,fun b n=>AD n,AE⟩
 rintro σ' H1 ⟨rfl,f1,ht1⟩
 refine ⟨_,_,.inl (.of ht1),rfl,?_⟩
 have hl1:H1 l=some (.lst (ns.map V.int)):=by rw [f1 l lt];exact hl
 have pos:(0:Int) < (ns.length:Int):=by lia
 dsimp only [Ae]
 refine Ak (fun σ' H2=>∃ (z3 z4:Option V) (i2 g2:Int),σ'=[some (.ref t),some (.int m),some (.int (c+1)),z3,z4,none]/\(∀ b,b≠t->H2 b=H b)/\0<=i2/\0<=g2/\H2 t=some (.lst [.ref l,.int i2,.int g2,.int (c+1)])) ?_ ?_ (by (repeat' with_reducible first | exact Hb | apply KU | apply IX | apply Jj | apply Iy | apply Mb | apply JU | exact JR | exact KQ | apply LP | apply Ko | apply K9 | apply Ie | apply Lm | apply MG | exact Hu | exact LH | exact Mc | exact LK | exact Hz | exact Ma | exact Iv | exact Ks | exact Mf | exact Io | apply Hv | apply ME | apply ML | apply Im | exact Jn | apply HW | exact Lj | exact Lb | apply He | apply K8 | exact JD | apply J9 | exact HZ | exact Lv | exact HN | exact Hq | apply IA | exact Iq | apply Lw | apply Ix | apply KG | apply KL | exact JN | exact Hs | exact JG | apply Kl | apply JT | exact JF | exact II | exact LU | exact La | apply Jx | apply Ji | exact K0 | apply J3 | assumption))
 ·refine ⟨_,_,.inl (.of ht1),rfl,?_⟩
  refine Aj (fun e=>?_) (fun e=>⟨none,none,i,g,rfl,f1,i0,g0,ht1⟩)
  obtain ⟨z,hz⟩:=Hl (ns:=ns) (Int.emod_nonneg i (show (ns.length:Int)≠0 by lia)) (Int.emod_lt_of_pos i pos)
  refine Ak (fun σ' H2=>σ'=[some (.ref t),some (.int m),some (.int (c+1)),some (.int z),none,none]/\H1=H2) ?_ ?_ (by (repeat' with_reducible first | exact Hb | apply KU | apply IX | apply Jj | apply Iy | apply Mb | apply JU | exact JR | exact KQ | apply LP | apply Ko | apply K9 | apply Ie | apply Lm | apply MG | exact Hu | exact LH | exact Mc | exact LK | exact Hz | exact Ma | exact Iv | exact Ks | exact Mf | exact Io | apply Hv | apply ME | apply ML | apply Im | exact Jn | apply HW | exact Lj | exact Lb | apply He | apply K8 | exact JD | apply J9 | exact HZ | exact Lv | exact HN | exact Hq | apply IA | exact Iq | apply Lw | apply Ix | apply KG | apply KL | exact JN | exact Hs | exact JG | apply Kl | apply JT | exact JF | exact II | exact LU | exact La | apply Jx | apply Ji | exact K0 | apply J3 | assumption))
  ·exact ⟨_,_,.inl (.of ht1),rfl,_,_,.inl (.of ht1),rfl,_,_,.inl (.of ht1),rfl,ns.length,.inl ⟨_,.of hl1,by rw [List.length_map]⟩,pos,_,_,.inl (.of hl1),hz,rfl,rfl⟩
  rintro σ' _ ⟨rfl,rfl⟩
  refine Ak (fun σ' H2=>σ'=[some (.ref t),some (.int m),some (.int (c+1)),some (.int z),none,none]/\(∀ b,b≠t->H2 b=H b)/\H2 t=some (.lst [.ref l,.int (i+1),.int g,.int (c+1)])) ?_ ?_ (by (repeat' with_reducible first | exact Hb | apply KU | apply IX | apply Jj | apply Iy | apply Mb | apply JU | exact JR | exact KQ | apply LP | apply Ko | apply K9 | apply Ie | apply Lm | apply MG | exact Hu | exact LH | exact Mc | exact LK | exact Hz | exact Ma | exact Iv | exact Ks | exact Mf | exact Io | apply Hv | apply ME | apply ML | apply Im | exact Jn | apply HW | exact Lj | exact Lb | apply He | apply K8 | exact JD | apply J9 | exact HZ | exact Lv | exact HN | exact Hq | apply IA | exact Iq | apply Lw | apply Ix | apply KG | apply KL | exact JN | exact Hs | exact JG | apply Kl | apply JT | exact JF | exact II | exact LU | exact La | apply Jx | apply Ji | exact K0 | apply J3 | assumption))
  ·exact ⟨_,_,.inl (.of ht1),rfl,_,_,ht1,rfl,rfl,fun b n=>by rw [AD n];exact f1 b n,AE⟩
  rintro σ' H2 ⟨rfl,f2,ht2⟩
  refine Ak (fun σ' H3=>σ'=[some (.ref t),some (.int m),some (.int (c+1)),some (.int z),none,none]/\H2=H3/\¬ z < 1000000000000000000) ?_ ?_ (by (repeat' with_reducible first | exact Hb | apply KU | apply IX | apply Jj | apply Iy | apply Mb | apply JU | exact JR | exact KQ | apply LP | apply Ko | apply K9 | apply Ie | apply Lm | apply MG | exact Hu | exact LH | exact Mc | exact LK | exact Hz | exact Ma | exact Iv | exact Ks | exact Mf | exact Io | apply Hv | apply ME | apply ML | apply Im | exact Jn | apply HW | exact Lj | exact Lb | apply He | apply K8 | exact JD | apply J9 | exact HZ | exact Lv | exact HN | exact Hq | apply IA | exact Iq | apply Lw | apply Ix | apply KG | apply KL | exact JN | exact Hs | exact JG | apply Kl | apply JT | exact JF | exact II | exact LU | exact La | apply Jx | apply Ji | exact K0 | apply J3 | assumption))
  ·refine ⟨⟨by decide,by decide,by decide⟩,?_⟩
   refine Aj (fun e=>?_) (fun e=>⟨rfl,rfl,?_⟩)
   ·refine ⟨by decide,.inr (.inl ⟨by decide,by decide⟩),.inr (.inl ⟨by lia,by lia⟩),.inr (.inl ⟨by decide,by decide⟩),?_⟩
    refine ⟨.inr (.inr ⟨by decide,by decide⟩),by decide,A0 (by decide) (by decide),.inr (.inr ⟨by decide,by decide⟩),?_⟩
    refine ⟨by decide,A0 (by decide) (by decide),hm0,?_⟩
    exact k _ _ (Int.emod_nonneg _ (by lia)) (Int.emod_lt_of_pos _ hm0) ⟨i+1,g,c+1,ns,by lia,g0,by lia,by lia,ht2,lt,by rw [f2 l lt];exact hl,nl⟩ f2
   ·intro z'
    exact e (decide_eq_true z')
  rintro σ' _ ⟨rfl,rfl,hz2⟩
  exact ⟨_,_,ht2,rfl,_,_,_,_,rfl,fun b n=>by rw [AD n];exact f2 b n,show 0<=i+1 by lia,show 0<=z by lia,AE⟩
 rintro σ' H2 ⟨z3,z4,i2,g2,rfl,f2,i0',g0',ht2⟩
 refine ⟨_,_,.inl (.of ht2),rfl,hm0,?_⟩
 dsimp only [Ae]
 refine ⟨_,_,.inl (.of ht2),rfl,hm,_,_,ht2,rfl,?_⟩
 refine k _ _ (Int.emod_nonneg _ (by lia)) (Int.emod_lt_of_pos _ hm0) ⟨i2,g2 / m,c+1,ns,i0',Int.ediv_nonneg g0' (by lia),by lia,by lia,AE,lt,?_,nl⟩ (fun b n=>by rw [AD n];exact f2 b n)
 rw [AD lt,f2 l lt];exact hl
theorem Er:FnOk P w K mg base CX0 1 T.f_z16 T.d_z16 ["_law_feed_here","_law_many"] Co:=(JX T).imp Ii
noncomputable def Cb:Sp:=fun vs H Q _=>match vs with
 | [.ref t,.int n]=>∃ m N:Nat,GFeed H t N/\N<=900000000/\n=m/\1<=m/\m<=4/\∀ (bs:List Bool) p H',bs.length=2 ^ m->H p=none->H' p=some (.tup (bs.map V.bl))->GFeed H' t (N+18)->Frm t H H'->Q (.ref p) H'
 | _=>False
theorem IN:AW Cb:=fun vs H Q Q' E h q=>by
 unfold Cb at *
 split at q
 ·revert q;repeat' first | exact h _ _ | exact BG h | exact out_mono h | exact outT_mono h | (with_reducible first | refine Exists.imp fun _=>?_ | refine And.imp_right ?_ | refine forall_imp fun _=>?_)
 ·exact q.elim
theorem A9 {t:Addr} {H H':Hp} (h:∀ b,b≠t->H' b=H b):Frm t H H':=fun b o n e=>by rw [h b n];exact e
theorem IQ:FnOk P w K mg base CX0 2 T.f_z11 T.d_z11 ["_law_feed_here","_law_n"] Cb:=by
 have G_z16:=Er (P:=P) (w:=w) (base:=base) T
 refine T.F_z11.ok sc_z11 (fun vs H Q E h=>by unfold Cb at h;split at h <;> first | rfl | exact h.elim) (fun cdv A outer s H vs Q E hr h=>?_)
 have hu:=Ax hr
 have hr_z16:=hr.mono (show 1<=_ by decide)
 unfold Cb at h
 split at h
 rotate_left
 ·exact h.elim
 rename_i t n
 obtain ⟨m,N,F,hN,e1,m1,m4,q⟩:=h
 subst e1
 refine ⟨_,(@AH _ _ _ _ _ (@AX _ _ 2 _ _ _ _ sc_z11.nd rfl (by (first | exact Or.inl rfl | exact Or.inr rfl)) (AL E3 AC (vv 1)) (by rfl) (by (first | exact .inl rfl | exact .inr rfl | assumption))) (@AH _ _ _ _ _ (@AX _ _ 3 _ _ _ _ sc_z11.nd rfl (by (first | exact Or.inl rfl | exact Or.inr rfl)) (AO G_z16 hr_z16 rfl T.m_z16 T.F_z16.kp T.b_z16 .nil AN (AA (vv 0) (AA AC AB))) (by rfl) (by (first | exact .inl rfl | exact .inr rfl | assumption))) (@AH _ _ _ _ _ (@Ao _ _ _ _ _ _ _ _ (As DB (vv 3) AC) (@AJ _ _ _ (@AQ _ _ _ _ (Ay (BD (K:=K)) rfl T.z_tuple (by rfl) (AA (BF (N':=["_law_k","_law_feed_here"]) (own:=1) (ix:=[0]) rfl (A7 rfl T.z_range (AA (vv 2) AB)) (by kernel_rfl) rfl rfl (by kernel_rfl) (fun c=>Ah (i:=0) (show (["_law_k","_law_feed_here"]:List Str).Nodup by decide +kernel) rfl (by (first | exact Or.inl rfl | exact Or.inr rfl))) (A5 (by decide)) (fun c=>A8) (fun c=>(Be (kEq (K:=K) hu) (AO G_z16 hr_z16 rfl T.m_z16 T.F_z16.kp T.b_z16 .nil AN (AA (vv 1) (AA AC AB))) AC))) AB)))) Am) (@AH _ _ _ _ _ (@Ao _ _ _ _ _ _ _ _ (As (kEq (K:=K) hu) (vv 3) AC) (@AH _ _ _ _ _ (@AX _ _ 4 _ _ _ _ sc_z11.nd rfl (by (first | exact Or.inl rfl | exact Or.inr rfl)) (AO G_z16 hr_z16 rfl T.m_z16 T.F_z16.kp T.b_z16 .nil AN (AA (vv 0) (AA (vv 2) AB))) (by rfl) (by (first | exact .inl rfl | exact .inr rfl | assumption))) (@AJ _ _ _ (@AQ _ _ _ _ (Ay (BD (K:=K)) rfl T.z_tuple (by rfl) (AA (BF (N':=["_law_k","_law_place"]) (own:=1) (ix:=[4]) rfl (A7 rfl T.z_range (AA (vv 2) AB)) (by kernel_rfl) rfl rfl (by kernel_rfl) (fun c=>Ah (i:=0) (show (["_law_k","_law_place"]:List Str).Nodup by decide +kernel) rfl (by (first | exact Or.inl rfl | exact Or.inr rfl))) (A5 (by decide)) (fun c=>A8) (fun c=>(Be (kEq (K:=K) hu) (vv 0) (vv 1)))) AB))))) Am) (@AH _ _ _ _ _ (@Ao _ _ _ _ _ _ _ _ (As (kEq (K:=K) hu) (vv 3) AC) (@AH _ _ _ _ _ (@AX _ _ 5 _ _ _ _ sc_z11.nd rfl (by (first | exact Or.inl rfl | exact Or.inr rfl)) (AO G_z16 hr_z16 rfl T.m_z16 T.F_z16.kp T.b_z16 .nil AN (AA (vv 0) (AA (vv 1) AB))) (by rfl) (by (first | exact .inl rfl | exact .inr rfl | assumption))) (@AJ _ _ _ (@AQ _ _ _ _ (Ay (BD (K:=K)) rfl T.z_tuple (by rfl) (AA (BF (N':=["_law_k","_law_one"]) (own:=1) (ix:=[5]) rfl (A7 rfl T.z_range (AA (vv 2) AB)) (by kernel_rfl) rfl rfl (by kernel_rfl) (fun c=>Ah (i:=0) (show (["_law_k","_law_one"]:List Str).Nodup by decide +kernel) rfl (by (first | exact Or.inl rfl | exact Or.inr rfl))) (A5 (by decide)) (fun c=>A8) (fun c=>(Be (kEq (K:=K) hu) (AL JK (AL KM (vv 0) (vv 1)) AC) AC))) AB))))) Am) (@AH _ _ _ _ _ (@AX _ _ 6 _ _ _ _ sc_z11.nd rfl (by (first | exact Or.inl rfl | exact Or.inr rfl)) (Be (kEq (K:=K) hu) (AO G_z16 hr_z16 rfl T.m_z16 T.F_z16.kp T.b_z16 .nil AN (AA (vv 0) (AA AC AB))) AC) (by rfl) (by (first | exact .inl rfl | exact .inr rfl | assumption))) (@AJ _ _ _ (@AQ _ _ _ _ (Ay (BD (K:=K)) rfl T.z_tuple (by rfl) (AA (BF (N':=["_law_k","_law_answer"]) (own:=1) (ix:=[6]) rfl (A7 rfl T.z_range (AA (vv 2) AB)) (by kernel_rfl) rfl rfl (by kernel_rfl) (fun c=>Ah (i:=0) (show (["_law_k","_law_answer"]:List Str).Nodup by decide +kernel) rfl (by (first | exact Or.inl rfl | exact Or.inr rfl))) (A5 (by decide)) (fun c=>A8) (fun c=>(vv 1))) AB)))))))))),?_⟩
 have e2:(1:Int) * 2 ^ ((m:Int).toNat)=((2 ^ m:Nat):Int):=by rw [Int.toNat_natCast,Int.natCast_pow,Int.one_mul];rfl
 have h16:2 ^ m<=16:=Nat.pow_le_pow_right (n:=2) (by decide) m4
 have h2:2<=2 ^ m:=Nat.pow_le_pow_right (n:=2) (i:=1) (by decide) m1
 refine ⟨⟨by lia,by lia,by decide⟩,?_⟩
 rw [e2]
 generalize hM:2 ^ m=M at *
 have hMd:okDiv (M:Int):=A0 (by lia) (Int.le_trans (Int.ofNat_le.mpr h16) (by decide))
 have fin:∀ (N':Nat) (H1:Hp) (bs:List Bool) (l:Addr),GFeed H1 t N'->N'<=N+18->Frm t H H1->bs.length=M->H1 l=none->∃ ys,(SqL K (upd H1 l (.lst (bs.map V.bl))) l ys/\∀ p,upd H1 l (.lst (bs.map V.bl)) p=none->Q (.ref p) (upd (upd H1 l (.lst (bs.map V.bl))) p (.tup ys)))\/(SqT K (upd H1 l (.lst (bs.map V.bl))) l ys/\Q (.ref l) (upd H1 l (.lst (bs.map V.bl)))):=by
  intro N' H1 bs l F1 hN' fr hb hl
  refine ⟨_,.inl ⟨.of AE,fun p hp=>?_⟩⟩
  have f2:Frm t H (upd H1 l (.lst (bs.map V.bl))):=fr.trans (Frm.upd hl)
  have F2:=F1.upd (o:=.lst (bs.map V.bl)) hl
  exact q bs p _ hb (F2.free f2 hp) AE ((F2.upd hp).mono (by lia)) (f2.trans (Frm.upd hp))
 refine ⟨N,F,by lia,A0 (by decide) (by decide),fun way H2 w0 w1 F2 f2=>?_⟩
 dsimp only [Ae]
 refine Aj (fun e=>?_) (fun e=>?_)
 ·refine ⟨(M:Int),rfl,by lia,by lia,?_⟩
  refine Bh (fun i ys H'=>GFeed H' t (N+1+i)/\Frm t H H'/\∃ bs:List Bool,ys=bs.map V.bl/\bs.length=i) ⟨F2,A9 f2,[],rfl,rfl⟩ (fun i ys H' hi ⟨_,_,bs,e,el⟩=>by
   rw [e];exact Aq (by rw [List.length_map];lia)) ?_ ?_
  ·rintro i ys H' hi ⟨Fi,fi,bs,rfl,rfl⟩
   refine ⟨_,Fi,by lia,A0 (by decide) (by decide),fun d H3 _ _ F3 f3=>?_⟩
   exact ⟨F3.mono (by lia),fi.trans (A9 f3),bs++[(false ^^ (d == 1))],by rw [List.map_append];rfl,by rw [List.length_append];rfl⟩
  ·rintro ys H' ⟨Fi,fi,bs,rfl,hb⟩ l' hl
   exact fin _ _ bs l' Fi (by lia) fi (by lia) hl
 dsimp only [Bb]
 refine Aj (fun e=>?_) (fun e=>?_)
 ·refine ⟨_,F2,by lia,hMd,fun pl H3 p0 p1 F3 f3=>?_⟩
  dsimp only [Ae]
  refine ⟨(M:Int),rfl,by lia,by lia,?_⟩
  refine Bh (fun i ys H'=>H'=H3/\∃ bs:List Bool,ys=bs.map V.bl/\bs.length=i) ⟨rfl,[],rfl,rfl⟩ (fun i ys H' hi ⟨_,bs,e,el⟩=>by
   rw [e];exact Aq (by rw [List.length_map];lia)) ?_ ?_
  ·rintro i ys H' hi ⟨rfl,bs,rfl,rfl⟩
   exact ⟨rfl,bs++[(false ^^ ((0+(bs.length:Int)) == pl))],by rw [List.map_append];rfl,by rw [List.length_append];rfl⟩
  ·rintro ys H' ⟨rfl,bs,rfl,hb⟩ l' hl
   exact fin _ _ bs l' F3 (by lia) ((A9 f2).trans (A9 f3)) (by lia) hl
 dsimp only [Bb]
 refine Aj (fun e=>?_) (fun e=>?_)
 ·refine ⟨_,F2,by lia,A0 (by lia) (by lia),fun on H3 p0 p1 F3 f3=>?_⟩
  dsimp only [Ae]
  refine ⟨(M:Int),rfl,by lia,by lia,?_⟩
  refine Bh (fun i ys H'=>H'=H3/\∃ bs:List Bool,ys=bs.map V.bl/\bs.length=i) ⟨rfl,[],rfl,rfl⟩ (fun i ys H' hi ⟨_,bs,e,el⟩=>by
   rw [e];exact Aq (by rw [List.length_map];lia)) ?_ ?_
  ·rintro i ys H' hi ⟨rfl,bs,rfl,rfl⟩
   refine ⟨p0,?_⟩
   exact ⟨rfl,bs++[_],by rw [List.map_append];rfl,by rw [List.length_append];rfl⟩
  ·rintro ys H' ⟨rfl,bs,rfl,hb⟩ l' hl
   exact fin _ _ bs l' F3 (by lia) ((A9 f2).trans (A9 f3)) (by lia) hl
 dsimp only [Bb]
 refine ⟨_,F2,by lia,A0 (by decide) (by decide),fun an H3 p0 p1 F3 f3=>?_⟩
 dsimp only [Ae,mEq]
 refine ⟨(M:Int),rfl,by lia,by lia,?_⟩
 refine Bh (fun i ys H'=>H'=H3/\∃ bs:List Bool,ys=bs.map V.bl/\bs.length=i) ⟨rfl,[],rfl,rfl⟩ (fun i ys H' hi ⟨_,bs,e,el⟩=>by
  rw [e];exact Aq (by rw [List.length_map];lia)) ?_ ?_
 ·rintro i ys H' hi ⟨rfl,bs,rfl,rfl⟩
  exact ⟨rfl,bs++[_],by rw [List.map_append];rfl,by rw [List.length_append];rfl⟩
 ·rintro ys H' ⟨rfl,bs,rfl,hb⟩ l' hl
  exact fin _ _ bs l' F3 (by lia) ((A9 f2).trans (A9 f3)) (by lia) hl
noncomputable def AG (ts:List (List Bool)):List Dv:=ts.map fun b=>.tup (b.map Dv.bl)
structure Gm (ls:List Int) (rs:List (List Bool)):Prop where
 l1:1<=ls.length
 l16:ls.length<=16
 r1:1<=rs.length
 r16:rs.length<=16
 row:∀ r∈rs,r.length=ls.length
 sm:∀ x∈ls,x.natAbs<=100000000000000000000
theorem Bg:∀ ts:List (List Bool),An (AG ts)=true
 | []=>rfl
 | b::ts=>by
  show An (Dv.tup (b.map Dv.bl)::AG ts)=true
  unfold An BL
  rw [GX,Bg ts]
  rfl
theorem Cs (ts:List (List Bool)):(AG ts).length=ts.length:=List.length_map ..
theorem Dj {K:W.Frag} {H:Hp}:∀ (k:Nat) {ds:List Dv} {xs:List V},Reps K H ds xs->Reps K H (ds.take k) (xs.take k)
 | 0,_,_,_=>by simpa using Aa
 | k+1,[],xs,h=>by unfold Reps at h;subst h;simpa using Aa
 | k+1,d::ds,xs,h=>by
  unfold Reps at h
  obtain ⟨x,r,rfl,h1,h2⟩:=h
  simpa using AS h1 (Dj k h2)
theorem EL {K:W.Frag} {H:Hp}:∀ (k:Nat) {ds:List Dv} {xs:List V},Reps K H ds xs->Reps K H (ds.drop k) (xs.drop k)
 | 0,_,_,h=>by simpa using h
 | k+1,[],xs,h=>by unfold Reps at h;subst h;simpa using Aa
 | k+1,d::ds,xs,h=>by
  unfold Reps at h
  obtain ⟨x,r,rfl,h1,h2⟩:=h
  simpa using EL k h2
theorem FN (ts:List (List Bool)) (b:List Bool) (k:Nat):AG (ts.take k++b::ts.drop k)=(AG ts).take k++.tup (b.map Dv.bl)::(AG ts).drop k:=by
 unfold AG
 rw [List.map_append,List.map_cons,List.map_take,List.map_drop]
theorem HJ:∀ bs:List Bool,AR (bs.map Dv.bl)=0
 | []=>by simp [AR]
 | b::bs=>by
  show AR (Dv.bl b::bs.map Dv.bl)=_
  unfold AR
  rw [HJ bs]
  rfl
theorem Cv (ts:List (List Bool)):∀ e∈AG ts,AF e<=50:=by
 intro e he
 obtain ⟨b,_,rfl⟩:=List.mem_map.mp he
 unfold AF
 rw [HJ]
 lia
theorem Gn (xs:List V) (a:Nat) (h:a<=xs.length):Al xs none (some (a:Int))=xs.take a:=by
 unfold Al
 rw [HT.sIx_nat,HT.sIx_none,List.drop_zero,Nat.sub_zero,Nat.min_eq_left h]
theorem Ic (xs:List V) (a:Nat) (h:a<=xs.length):Al xs (some (a:Int)) none=xs.drop a:=by
 unfold Al
 rw [HT.sIx_nat,HT.sIx_none,Nat.min_eq_left h,List.take_of_length_le (by rw [List.length_drop];lia)]
theorem GI {K:W.Frag} {H:Hp} {ts:List (List Bool)} {xs:List V} (h:Reps K H (AG ts) xs):∀ ns:List Int,ns.length≠0->xs≠ns.map V.int:=by
 intro ns hn e
 cases ts with
 | nil =>
  have:xs=[]:=by simpa [AG,Reps] using h
  subst this
  cases ns with
  | nil=>exact hn rfl
  | cons _ _=>cases e
 | cons b ts =>
  have h':Reps K H (Dv.tup (b.map Dv.bl)::AG ts) xs:=h
  unfold Reps at h'
  obtain ⟨x,r,rfl,h1,_⟩:=h'
  unfold Rep at h1
  obtain ⟨a,zs,rfl,_⟩:=h1
  cases ns with
  | nil=>exact hn rfl
  | cons _ _=>cases e
theorem Fm {t p:Addr} {H0 H:Hp} {o:HO} (f:Frm t H0 H) (hp:H0 p=none):Frm t H0 (upd H p o):=fun b u n e=>by
 rw [AD (BW e hp)]
 exact f b u n e
noncomputable def Bt (K:W.Frag):Sp:=fun vs H Q _=>match vs with
 | [.ref t,.int n,.int y]=>∃ m M N:Nat,GFeed H t N/\N<=850000000/\n=m/\1<=m/\m<=4/\y=M/\2<=M/\M<=10/\∀ (ts:List (List Bool)) xs p H',2<=ts.length->ts.length<=M->(∀ b∈ts,b.length=2 ^ m)->ts.Nodup->H p=none->H' p=some (.lst xs)->Reps K H' (AG ts) xs->GFeed H' t (N+400)->Frm t H H'->Q (.ref p) H'
 | _=>False
theorem K5:AW (Bt K):=fun vs H Q Q' E h q=>by
 unfold Bt at *
 split at q
 ·revert q;repeat' first | exact h _ _ | exact BG h | exact out_mono h | exact outT_mono h | (with_reducible first | refine Exists.imp fun _=>?_ | refine And.imp_right ?_ | refine forall_imp fun _=>?_)
 ·exact q.elim
theorem Fj:∀ b c:List Bool,Ad (b.map Dv.bl) (c.map Dv.bl)=decide (b=c)
 | [],[]=>by simp [Ad]
 | [],_::_=>by simp [Ad]
 | _::_,[]=>by simp [Ad]
 | x::b,y::c=>by
  rw [List.map_cons,List.map_cons,Ad,Fj b c,eqD]
  by_cases e:x=y
  ·subst e;simp
  ·simp [e]
theorem C7 (b c:List Bool):eqD (.tup (b.map Dv.bl)) (.tup (c.map Dv.bl))=decide (b=c):=by rw [GF,Fj]
theorem G3 (ts:List (List Bool)) (c:List Bool):((AG ts).any fun e=>eqD e (.tup (c.map Dv.bl)))=decide (c∈ts):=by
 unfold AG
 rw [List.any_map,Bool.eq_iff_iff,List.any_eq_true,decide_eq_true_eq]
 constructor
 ·rintro ⟨b,hb,e⟩
  rw [Function.comp_apply,C7,decide_eq_true_eq] at e
  rw [<- e];exact hb
 ·intro h
  exact ⟨c,h,by rw [Function.comp_apply,C7];exact decide_eq_true rfl⟩
theorem Jt:FnOk P w K mg base CX0 3 T.f_z13 T.d_z13 ["_law_feed_here","_law_n","_law_many"] (Bt K):=by
 have G_z16:=Er (P:=P) (w:=w) (base:=base) T;have G_z11:=IQ (P:=P) (w:=w) (base:=base) T
 refine T.F_z13.ok sc_z13 (fun vs H Q E h=>by unfold Bt at h;split at h <;> first | rfl | exact h.elim) (fun cdv A outer s H vs Q E hr h=>?_)
 have hu:=Ax hr
 have hr_z16:=hr.mono (show 1<=_ by decide);have hr_z11:=hr.mono (show 2<=_ by decide)
 unfold Bt at h
 split at h
 rotate_left
 ·exact h.elim
 rename_i t n y
 obtain ⟨m,M,N,F,hN,e1,m1,m3,e2,M2,M6,q⟩:=h
 subst e1 e2
 refine ⟨_,(@AH _ _ _ _ _ (@AX _ _ 3 _ _ _ _ sc_z13.nd rfl (by (first | exact Or.inl rfl | exact Or.inr rfl)) (@Cd _ _ _ _ (AA (AO G_z11 hr_z11 rfl T.m_z11 T.F_z11.kp T.b_z11 .nil AN (AA (vv 0) (AA (vv 1) AB))) AB)) (by rfl) (by (first | exact .inl rfl | exact .inr rfl | assumption))) (@AH _ _ _ _ _ (@AX _ _ 4 _ _ _ _ sc_z13.nd rfl (by (first | exact Or.inl rfl | exact Or.inr rfl)) (AO G_z16 hr_z16 rfl T.m_z16 T.F_z16.kp T.b_z16 .nil AN (AA (vv 0) (AA (AL E3 AC (vv 1)) AB))) (by rfl) (by (first | exact .inl rfl | exact .inr rfl | assumption))) (@AH _ _ _ _ _ (@DW _ _ _ _ (MX (K:=K) (vv 3) (AA (AL (DN (K:=K)) (AL (DN (K:=K)) (Go (K:=K) (kIx (K:=K) (vv 3) AC) DP (DG (vv 4))) (BX (AA (G0 (kIx (K:=K) (kIx (K:=K) (vv 3) AC) (vv 4))) AB))) (Go (K:=K) (kIx (K:=K) (vv 3) AC) (DG (AL (DN (K:=K)) (vv 4) AC)) DP)) AB)) (by rfl)) (@AH _ _ _ _ _ (@Bw _ _ _ _ _ _ _ _ PassesOwn.never rfl (A7 rfl T.z_range (AA (AL Bi AC (vv 2)) AB)) (Ah (i:=5) sc_z13.nd rfl (by (first | exact Or.inl rfl | exact Or.inr rfl))) (@AH _ _ _ _ _ (@AX _ _ 6 _ _ _ _ sc_z13.nd rfl (by (first | exact Or.inl rfl | exact Or.inr rfl)) (AO G_z11 hr_z11 rfl T.m_z11 T.F_z11.kp T.b_z11 .nil AN (AA (vv 0) (AA (vv 1) AB))) (by rfl) (by (first | exact .inl rfl | exact .inr rfl | assumption))) (@AJ _ _ _ (@Ao _ _ _ _ _ _ _ _ (PW.pt (ER (As DB (AK (Ar (K:=K)) rfl T.z_len (by rfl) (AA (vv 3) AB)) (vv 2)) (GM (As (Ho (K:=K) hu) (vv 6) (vv 3))))) (@AJ _ _ _ (@DW _ _ _ _ (GN (K:=K) (vv 3) (AA (AO G_z16 hr_z16 rfl T.m_z16 T.F_z16.kp T.b_z16 .nil AN (AA (vv 0) (AA (AL (DN (K:=K)) (AK (Ar (K:=K)) rfl T.z_len (by rfl) (AA (vv 3) AB)) AC) AB))) (AA (vv 6) AB))) (by rfl))) Am))) (by intro _;rfl)) (@AJ _ _ _ (@AQ _ _ _ _ (vv 3))))))),?_⟩
 have hmo:=IN
 have h2:2<=2 ^ m:=Nat.pow_le_pow_right (n:=2) (i:=1) (by decide) m1
 have h8:2 ^ m<=16:=Nat.pow_le_pow_right (n:=2) (i:=m) (j:=4) (by decide) m3
 have em:(1:Int) * 2 ^ ((m:Int).toNat)=((2 ^ m:Nat):Int):=by rw [Int.toNat_natCast,Int.natCast_pow,Int.one_mul];rfl
 refine ⟨m,N,F,by lia,rfl,m1,by lia,fun bs p1 H1 hb hp1 g1 F1 f1=>?_⟩
 refine ⟨AU (show 1<=1000 by decide),fun l hl=>?_⟩
 have hlH:H l=none:=F1.free f1 hl
 have lt:l≠t:=F.neT hlH
 dsimp only [Ae]
 refine Ak (fun σ H'=>∃ a:Nat,a < 2 ^ m/\σ=[some (.ref t),some (.int m),some (.int M),some (.ref l),some (.int a),none,none]/\GFeed H' t (N+19)/\Frm t H H'/\H' l=some (.lst [.ref p1])/\H' p1=some (.tup (bs.map V.bl))) ?_ ?_ (by (repeat' with_reducible first | exact Hb | apply KU | apply IX | apply Jj | apply Iy | apply Mb | apply JU | exact JR | exact KQ | apply LP | apply Ko | apply K9 | apply Ie | apply Lm | apply MG | exact Hu | exact LH | exact Mc | exact LK | exact Hz | exact Ma | exact Iv | exact Ks | exact Mf | exact Io | apply Hv | apply ME | apply ML | apply Im | exact Jn | apply HW | exact Lj | exact Lb | apply He | apply K8 | exact JD | apply J9 | exact HZ | exact Lv | exact HN | exact Hq | apply IA | exact Iq | apply Lw | apply Ix | apply KG | apply KL | exact JN | exact Hs | exact JG | apply Kl | apply JT | exact JF | exact II | exact LU | exact La | apply Jx | apply Ji | exact K0 | apply J3 | assumption))
 ·refine ⟨⟨by lia,by lia,by decide⟩,?_⟩
  rw [em]
  have F2:=F1.upd (o:=.lst [.ref p1]) hl
  refine ⟨_,F2,by lia,A0 (by lia) (by lia),fun a H3 a0 a1 F3 f3=>?_⟩
  have f2:Frm t H1 (upd H1 l (.lst [.ref p1])):=Frm.upd hl
  have n1:p1≠t:=F.neT hp1
  have nl:p1≠l:=fun e=>by rw [e,hl] at g1;cases g1
  refine ⟨a.toNat,by lia,?_,F3,f1.trans (f2.trans (A9 f3)),by rw [f3 l lt,AE],by rw [f3 p1 n1,AD nl];exact g1⟩
  rw [Int.toNat_of_nonneg a0]
  rfl
 rintro σ H2 ⟨a,ha,rfl,F2,f2,gl2,gp2⟩
 have hbl:(bs.map V.bl).length=2 ^ m:=by rw [List.length_map];exact hb
 have hix:atI (bs.map V.bl) (a:Int)=some (.bl (bs.getD a false)):=BR rfl (by rw [List.getElem?_map,List.getD_eq_getElem?_getD,List.getElem?_eq_getElem (show a < bs.length by lia)];rfl)
 refine Ak (fun σ H'=>∃ (ts:List (List Bool)) (xs:List V) (z5 z6:Option V),σ=[some (.ref t),some (.int m),some (.int M),some (.ref l),some (.int a),z5,z6]/\2<=ts.length/\ts.length<=M/\(∀ b∈ts,b.length=2 ^ m)/\ts.Nodup/\H' l=some (.lst xs)/\Reps K H' (AG ts) xs/\GFeed H' t (N+19)/\Frm t H H') ?_ ?_ (by (repeat' with_reducible first | exact Hb | apply KU | apply IX | apply Jj | apply Iy | apply Mb | apply JU | exact JR | exact KQ | apply LP | apply Ko | apply K9 | apply Ie | apply Lm | apply MG | exact Hu | exact LH | exact Mc | exact LK | exact Hz | exact Ma | exact Iv | exact Ks | exact Mf | exact Io | apply Hv | apply ME | apply ML | apply Im | exact Jn | apply HW | exact Lj | exact Lb | apply He | apply K8 | exact JD | apply J9 | exact HZ | exact Lv | exact HN | exact Hq | apply IA | exact Iq | apply Lw | apply Ix | apply KG | apply KL | exact JN | exact Hs | exact JG | apply Kl | apply JT | exact JF | exact II | exact LU | exact La | apply Jx | apply Ji | exact K0 | apply J3 | assumption))
 ·refine ⟨.inl ⟨rfl,_,.of gl2⟩,?_⟩
  refine ⟨_,_,.inl (.of gl2),rfl,?_⟩
  refine ⟨(a:Int),rfl,_,.of gp2,fun q1 H3 S3 t3=>?_⟩
  rw [Gn _ a (by lia)] at t3
  refine ⟨_,_,.inl (.of (S3 _ _ gl2)),rfl,_,_,.inr (.of (S3 _ _ gp2)),hix,?_⟩
  refine ⟨AU (show 1<=1000 by decide),fun q2 hq2=>?_⟩
  have S4:Same H3 (upd H3 q2 (.tup [.bl (!bs.getD a false)])):=Same.upd hq2
  have t4:SqT K (upd H3 q2 (.tup [.bl (!bs.getD a false)])) q2 [.bl (!bs.getD a false)]:=.of AE
  generalize upd H3 q2 (.tup [.bl (!bs.getD a false)])=H4 at *
  refine .inr ⟨_,_,S4.sqT t3,t4,AU (by rw [List.length_take];show _+1<=1000;lia),fun q3 H5 S5 t5=>?_⟩
  have S25:=S3.trans (S4.trans S5)
  refine ⟨_,_,.inl (.of (S25 _ _ gl2)),rfl,?_⟩
  refine ⟨(a+1:Nat),rfl,_,.of (S25 _ _ gp2),fun q4 H6 S6 t6=>?_⟩
  rw [Ic _ (a+1) (by lia)] at t6
  refine .inr ⟨_,_,S6.sqT t5,t6,AU (by rw [List.length_append,List.length_take,List.length_drop];show _+1+_<=1000;lia),fun q5 H7 S7 t7=>?_⟩
  have S27:=S25.trans (S6.trans S7)
  generalize hcs:bs.take a++(!bs.getD a false)::bs.drop (a+1)=cs
  have ecs:(bs.map V.bl).take a++[V.bl (!bs.getD a false)]++(bs.map V.bl).drop (a+1)=cs.map V.bl:=by
   rw [<- hcs,List.map_append,List.map_cons,List.map_take,List.map_drop,List.append_assoc]
   rfl
  have hcl:cs.length=2 ^ m:=by
   rw [<- hcs,List.length_append,List.length_cons,List.length_take,List.length_drop]
   lia
  rw [ecs] at t7
  refine ⟨_,S27 _ _ gl2,Aq (show 1<=1000 by decide),?_⟩
  have fr:Frm l H7 (upd H7 l (.lst ([.ref p1]++[.ref q5]))):=Frm.updT
  have R7:Reps K H7 (AG [bs,cs]) [.ref p1,.ref q5]:=AS (A4 (S27 _ _ gp2) (Bf bs)) (AS (by unfold Rep;exact ⟨q5,_,rfl,t7,Bf cs⟩) Aa)
  refine ⟨[bs,cs],_,_,_,rfl,Nat.le_refl 2,M2,?_,?_,AE,Reps.frm fr ⟨_,S27 _ _ gl2⟩ _ _ (Bg _) R7,?_,?_⟩
  ·intro b hb'
   rcases List.mem_cons.mp hb' with rfl | hb'
   ·exact hb
   ·rcases List.mem_cons.mp hb' with rfl | hb'
    ·exact hcl
    ·cases hb'
  ·refine List.nodup_cons.mpr ⟨fun h=>?_,List.nodup_cons.mpr ⟨fun h=>(by cases h),List.nodup_nil⟩⟩
   have e:bs=cs:=List.mem_singleton.mp h
   have h1:=congrArg (fun l:List Bool=>l[a]?) e
   rw [<- hcs,List.getElem?_append_right (by rw [List.length_take];lia),List.length_take,Nat.min_eq_left (by lia),Nat.sub_self,List.getElem?_cons_zero,List.getElem?_eq_getElem (show a < bs.length by lia)] at h1
   have h2:bs.getD a false=bs[a]'(by lia):=by rw [List.getD_eq_getElem?_getD,List.getElem?_eq_getElem (show a < bs.length by lia)];rfl
   rw [h2] at h1
   cases hh:bs[a]'(by lia) <;> rw [hh] at h1 <;> cases h1
  ·exact (F2.same S27).put lt (S27 _ _ gl2) fun ns hn e=>by
    cases ns with
    | nil=>exact hn rfl
    | cons _ _=>cases e
  ·exact Fm (f2.trans fun b o _ e=>S27 b o e) hlH
 rintro σ H3 ⟨ts,xs,z5,z6,rfl,t2,tM,tb,nd,gl3,R3,F3,f3⟩
 refine Ak (fun σ H'=>∃ (ts:List (List Bool)) (xs:List V) (z5 z6:Option V),σ=[some (.ref t),some (.int m),some (.int M),some (.ref l),some (.int a),z5,z6]/\2<=ts.length/\ts.length<=M/\(∀ b∈ts,b.length=2 ^ m)/\ts.Nodup/\H' l=some (.lst xs)/\Reps K H' (AG ts) xs/\GFeed H' t (N+400)/\Frm t H H') ?_ ?_ (by (repeat' with_reducible first | exact Hb | apply KU | apply IX | apply Jj | apply Iy | apply Mb | apply JU | exact JR | exact KQ | apply LP | apply Ko | apply K9 | apply Ie | apply Lm | apply MG | exact Hu | exact LH | exact Mc | exact LK | exact Hz | exact Ma | exact Iv | exact Ks | exact Mf | exact Io | apply Hv | apply ME | apply ML | apply Im | exact Jn | apply HW | exact Lj | exact Lb | apply He | apply K8 | exact JD | apply J9 | exact HZ | exact Lv | exact HN | exact Hq | apply IA | exact Iq | apply Lw | apply Ix | apply KG | apply KL | exact JN | exact Hs | exact JG | apply Kl | apply JT | exact JF | exact II | exact LU | exact La | apply Jx | apply Ji | exact K0 | apply J3 | assumption))
 ·refine ⟨.inr (.inl ⟨by decide,by decide⟩),2 * (M:Int),rfl,by lia,by lia,?_⟩
  refine CZ (fun i σ H'=>∃ (ts:List (List Bool)) (xs:List V) (z5 z6:Option V),σ=[some (.ref t),some (.int m),some (.int M),some (.ref l),some (.int a),z5,z6]/\2<=ts.length/\ts.length<=M/\(∀ b∈ts,b.length=2 ^ m)/\ts.Nodup/\H' l=some (.lst xs)/\Reps K H' (AG ts) xs/\GFeed H' t (N+19+19 * i)/\Frm t H H') ⟨ts,xs,z5,z6,rfl,t2,tM,tb,nd,gl3,R3,F3,f3⟩ ?_ ?_
  ·rintro i σ H4 hi ⟨ts,xs,z5,z6,rfl,t2,tM,tb,nd,gl4,R4,F4,f4⟩
   have hxl:xs.length=ts.length:=by rw [<- R4.length,Cs]
   refine ⟨m,_,F4,by lia,rfl,m1,by lia,fun bs2 p2 H5 hb2 hp2 g2 F5 f5=>?_⟩
   have R5:Reps K H5 (AG ts) xs:=Reps.frm f5 F4.lst _ _ (Bg _) R4
   have gl5:H5 l=some (.lst xs):=f5 _ _ lt gl4
   dsimp only [Ae]
   have stay:∃ (ts:List (List Bool)) (xs:List V) (z5' z6':Option V),[some (V.ref t),some (.int m),some (.int M),some (.ref l),some (.int a),some (.int (0+i)),some (.ref p2)]=[some (.ref t),some (.int m),some (.int M),some (.ref l),some (.int a),z5',z6']/\2<=ts.length/\ts.length<=M/\(∀ b∈ts,b.length=2 ^ m)/\ts.Nodup/\H5 l=some (.lst xs)/\Reps K H5 (AG ts) xs/\GFeed H5 t (N+19+19 * (i+1))/\Frm t H H5 :=
    ⟨ts,xs,_,_,rfl,t2,tM,tb,nd,gl5,R5,F5.mono (by lia),f4.trans f5⟩
   have ep2:Rep K H5 (.tup (bs2.map Dv.bl)) (.ref p2):=A4 g2 (Bf bs2)
   refine ⟨_,.inl ⟨_,.of gl5,rfl⟩,?_⟩
   refine Aj (fun e=>?_) (fun e=>stay)
   have e':(xs.length:Int) < (M:Int):=of_decide_eq_true e
   refine ⟨_,_,_,.inl (.of gl5),R5,ep2,Cv ts,?_⟩
   refine Aj (fun e=>?_) (fun e=>stay)
   refine ⟨.inl ⟨rfl,_,.of gl5⟩,?_⟩
   refine ⟨_,.inl ⟨_,.of gl5,rfl⟩,?_⟩
   refine ⟨_,F5,by lia,A0 (by lia) (Int.le_trans (show (xs.length:Int)+1<=11 by lia) (by decide)),fun d H6 d0 d1 F6 f6=>?_⟩
   have gl6:H6 l=some (.lst xs):=by rw [f6 l lt];exact gl5
   refine ⟨xs,gl6,d0,by lia,by lia,?_⟩
   have R6:Reps K H6 (AG ts) xs:=Reps.frm (A9 f6) F5.lst _ _ (Bg _) R5
   have ep6:Reps K H6 [.tup (bs2.map Dv.bl)] [.ref p2]:=AS (A4 (by rw [f6 p2 (F4.neT hp2)];exact g2) (Bf bs2)) Aa
   have R7:Reps K H6 (AG (ts.take d.toNat++bs2::ts.drop d.toNat)) (xs.take d.toNat++.ref p2::xs.drop d.toNat):=by
    rw [FN]
    exact Reps.append (Dj _ R6) (Reps.append ep6 (EL _ R6))
   refine ⟨_,_,_,_,rfl,?_,?_,?_,?_,AE,Reps.frm Frm.updT ⟨_,gl6⟩ _ _ (Bg _) R7,(F6.put lt gl6 (GI R6)).mono (by lia),Fm (f4.trans (f5.trans (A9 f6))) hlH⟩
   ·rw [List.length_append,List.length_cons,List.length_take,List.length_drop];lia
   ·rw [List.length_append,List.length_cons,List.length_take,List.length_drop];lia
   ·intro b hb'
    rcases List.mem_append.mp hb' with h | h
    ·exact tb b (List.mem_of_mem_take h)
    ·rcases List.mem_cons.mp h with rfl | h
     ·exact hb2
     ·exact tb b (List.mem_of_mem_drop h)
   ·have nin:bs2∉ts:=fun h=>by
     have e:(true ^^ ((AG ts).any fun e=>eqD e (.tup (bs2.map Dv.bl))))=true:=e
     rw [G3,decide_eq_true h] at e
     cases e
    have pm:(ts.take d.toNat++bs2::ts.drop d.toNat).Perm (bs2::ts):=by
     have:=List.perm_middle (a:=bs2) (l₁:=ts.take d.toNat) (l₂:=ts.drop d.toNat)
     rwa [List.take_append_drop] at this
    exact pm.nodup_iff.mpr (List.nodup_cons.mpr ⟨nin,nd⟩)
  ·rintro σ H4 ⟨ts,xs,z5,z6,rfl,t2,tM,tb,nd,gl4,R4,F4,f4⟩
   exact ⟨ts,xs,z5,z6,rfl,t2,tM,tb,nd,gl4,R4,F4.mono (by lia),f4⟩
 rintro σ H4 ⟨ts,xs,z5,z6,rfl,t2,tM,tb,nd,gl4,R4,F4,f4⟩
 exact q ts xs l H4 t2 tM tb nd hlH gl4 R4 F4 f4
theorem JP:FnOk P w K mg base CX0 1 T.f_z0 T.d_z0 ["self","one","other"] (EO T.C_Alike "one" "other"):=by
 refine T.F_z0.ok Lz (fun vs H Q E h=>by unfold EO at h;split at h <;> first | rfl | exact h.elim) (fun cdv A outer s H vs Q E hr h=>?_)
 unfold EO at h
 split at h
 rotate_left
 ·exact h.elim
 rename_i x y z
 obtain ⟨g,q⟩:=h
 refine ⟨_,(@AH _ _ _ _ _ (Fs T.xI_Alike T.na_Alike_one (vv 0) (vv 1)) (@AJ _ _ _ (Fs T.xI_Alike T.na_Alike_other (vv 0) (vv 2)))),?_⟩
 refine .inl ⟨g,fun d hd=>.inr ⟨d,_,?_,AE,fun e=>?_,(show 1<=1000 by decide),q d hd⟩⟩
 ·rw [AD (fun e=>by rw [<- e,g] at hd;cases hd),AE]
 ·rw [e,g] at hd;cases hd
theorem Il {K:W.Frag} {l:Addr} {xs:List V} {g:TG} {tb:TS} {D:Ends} {σ:St} {H:Hp} (Pv:Nat->St->Hp->Prop) (h0:Pv 0 σ H) (hl:∀ i σ H,i<=xs.length->Pv i σ H->SqL K H l xs)
 (hs:∀ i x p σ H,xs[i]? = some x->Pv i σ H->H p=none->g (.ref p) σ (upd H p (.tup [.int (i:Nat),x])) fun σ2 H2=>tb { D with nx:=Pv (i+1),ct:=Pv (i+1),bk:=D.nx } σ2 H2) (hd:∀ σ H,Pv xs.length σ H->D.nx σ H) :
 ∃ W:Nat->Nat->St->Hp->Prop,(∃ m,W 0 m σ H)/\∀ i m σ H,W i m σ H ->
  ((Ite K l).stop i H/\D.nx σ H)\/((Ite K l).go i H/\∃ N:St->Hp->Prop,(∀ σ' H',N σ' H'->∃ m',m' < m/\W (i+1) m' σ' H')/\∀ x H',(Ite K l).yld i H x H'->g x σ H' fun σ2 H2=>tb { D with nx:=N,ct:=N,bk:=D.nx } σ2 H2):=by
 refine ⟨fun i m σ H=>m=xs.length - i/\i<=xs.length/\Pv i σ H,⟨xs.length,by simp,Nat.zero_le _,h0⟩,?_⟩
 rintro i m σ H ⟨rfl,hi,p⟩
 have q:=hl i σ H hi p
 by_cases hlt:i < xs.length
 ·refine .inr ⟨⟨xs,xs[i],q,by simp [hlt]⟩,Pv (i+1),fun σ' H' p'=>⟨xs.length - (i+1),by lia,rfl,hlt,p'⟩,fun x H' y=>?_⟩
  obtain ⟨pp,x,hp,rfl,rfl,k1⟩:=y
  exact hs i x pp σ H (k1 xs q) p hp
 ·have e:i=xs.length:=by lia
  subst e
  exact .inl ⟨⟨xs,q,Nat.le_refl _⟩,hd σ H p⟩
theorem KZ {K:W.Frag} {l:Addr} {xs:List V} {g:TG} {tb:TS} {D:Ends} {σ:St} {H:Hp} (Pv:Nat->St->Hp->Prop) (h0:Pv 0 σ H) (hl:∀ i σ H,i<=xs.length->Pv i σ H->SqT K H l xs)
 (hs:∀ i x p σ H,xs[i]? = some x->Pv i σ H->H p=none->g (.ref p) σ (upd H p (.tup [.int (i:Nat),x])) fun σ2 H2=>tb { D with nx:=Pv (i+1),ct:=Pv (i+1),bk:=D.nx } σ2 H2) (hd:∀ σ H,Pv xs.length σ H->D.nx σ H) :
 ∃ W:Nat->Nat->St->Hp->Prop,(∃ m,W 0 m σ H)/\∀ i m σ H,W i m σ H ->
  ((Ch K l).stop i H/\D.nx σ H)\/((Ch K l).go i H/\∃ N:St->Hp->Prop,(∀ σ' H',N σ' H'->∃ m',m' < m/\W (i+1) m' σ' H')/\∀ x H',(Ch K l).yld i H x H'->g x σ H' fun σ2 H2=>tb { D with nx:=N,ct:=N,bk:=D.nx } σ2 H2):=by
 refine ⟨fun i m σ H=>m=xs.length - i/\i<=xs.length/\Pv i σ H,⟨xs.length,by simp,Nat.zero_le _,h0⟩,?_⟩
 rintro i m σ H ⟨rfl,hi,p⟩
 have q:=hl i σ H hi p
 by_cases hlt:i < xs.length
 ·refine .inr ⟨⟨xs,xs[i],q,by simp [hlt]⟩,Pv (i+1),fun σ' H' p'=>⟨xs.length - (i+1),by lia,rfl,hlt,p'⟩,fun x H' y=>?_⟩
  obtain ⟨pp,x,hp,rfl,rfl,k1⟩:=y
  exact hs i x pp σ H (k1 xs q) p hp
 ·have e:i=xs.length:=by lia
  subst e
  exact .inl ⟨⟨xs,q,Nat.le_refl _⟩,hd σ H p⟩
structure Alk (ts:List (List Bool)) (i j:Nat):Prop where
 lt:i < j
 jl:j < ts.length
 eq:ts[i]? = ts[j]?
 fst:∀ k,k < i->ts[k]? ≠ ts[j]?
 nd:(ts.take j).Nodup
noncomputable def cgD (ts:List (List Bool)) (m:Nat):Dv:=.tup [.tup ((List.range ts.length).map fun (k:Nat)=>.int k),.tup ((List.range (2 ^ m)).map fun p=>.tup (ts.map fun b=>.bl (b.getD p false)))]
noncomputable def Dh (K:W.Frag) (C:Addr):Sp:=fun vs H Q E=>match vs with
 | [.ref l]=>∃ (m:Nat) (ts:List (List Bool)) (xs:List V),(SqL K H l xs\/SqT K H l xs)/\Reps K H (AG ts) xs/\1<=ts.length/\ts.length<=16/\m<=4/\(∀ b∈ts,b.length=2 ^ m)/\(ts.Nodup->∀ v H',Same H H'->Rep K H' (cgD ts m) v->Q v H') /\
  (∀ i j,Alk ts i j->∀ d H',Same H H'->H' d=some (XdO d (BE "other" (.int (j:Nat)) [("one",.int (i:Nat))]))->E (.ref C) (some d) H')
 | _=>False
theorem Bl {H:Hp} {ts:List (List Bool)} {xs:List V} {i:Nat} {x:V} (R:Reps K H (AG ts) xs) (hx:xs[i]? = some x):∃ b,ts[i]? = some b/\Rep K H (.tup (b.map Dv.bl)) x:=by
 have hl:=R.length
 have hi:=(List.getElem?_eq_some_iff.mp hx).1
 rw [Cs] at hl
 have e:(AG ts)[i]? = some (.tup ((ts[i]'(by lia)).map Dv.bl)):=by unfold AG;rw [List.getElem?_map,List.getElem?_eq_getElem (by lia)];rfl
 obtain ⟨y,h1,h2⟩:=R.get e
 rw [hx] at h1
 cases h1
 exact ⟨_,List.getElem?_eq_getElem (by lia),h2⟩
theorem FL {ts:List (List Bool)} {b:List Bool} (h:b∈ts):IxD (AG ts) (.tup (b.map Dv.bl)) (ts.idxOf b)/\ts[ts.idxOf b]? = some b/\∀ k,k < ts.idxOf b->ts[k]? ≠ some b:=by
 have hi:=List.idxOf_lt_length_of_mem h
 have e1:ts[ts.idxOf b]? = some b:=by rw [List.getElem?_eq_getElem hi];simp
 have e2:∀ k,k < ts.idxOf b->ts[k]? ≠ some b:=fun k hk e=>by
  have hkl:k < ts.length:=by lia
  rw [List.getElem?_eq_getElem hkl] at e
  have h2:=List.not_of_lt_findIdx (p:=(· == b)) (xs:=ts) (i:=k) hk
  rw [Option.some.inj e] at h2
  simp at h2
 refine ⟨⟨⟨_,by unfold AG;rw [List.getElem?_map,e1];rfl,by rw [C7];exact decide_eq_true rfl⟩,fun m e hm he=>?_⟩,e1,e2⟩
 unfold AG at he
 rw [List.getElem?_map] at he
 obtain ⟨c,hc,rfl⟩:=Option.map_eq_some_iff.mp he
 rw [C7]
 refine decide_eq_false fun z=>e2 m hm ?_
 rw [hc,z]
theorem FA {H:Hp}:∀ {b:List Bool} {ys:List V},Reps K H (b.map Dv.bl) ys->ys=b.map V.bl
 | [],ys,h=>by unfold Reps at h;exact h
 | x::b,ys,h=>by
  rw [List.map_cons] at h
  unfold Reps at h
  obtain ⟨y,r,rfl,h1,h2⟩:=h
  unfold Rep at h1
  rw [h1,FA h2]
  rfl
theorem C5 {H:Hp} {b:List Bool} {x:V} (h:Rep K H (.tup (b.map Dv.bl)) x):∃ p,x=.ref p/\SqT K H p (b.map V.bl):=by
 unfold Rep at h
 obtain ⟨p,ys,rfl,g,r⟩:=h
 rw [FA r] at g
 exact ⟨p,rfl,g⟩
theorem Ea {H:Hp}:∀ (bs:List Int),Reps K H (bs.map Dv.int) (bs.map V.int)
 | []=>Aa
 | b::bs=>AS Bd (Ea bs)
theorem Ds:FnOk P w K mg base (CXE P w) 3 T.f_z10 T.d_z10 ["tables"] (Dh K T.C_Alike):=by
 have G_z0:=JP (P:=P) (w:=w) (base:=base) T
 refine T.F_z10.okE sc_z10 (fun vs H Q E h=>by unfold Dh at h;split at h <;> first | rfl | exact h.elim) (fun cdv A outer s H vs Q E hr h=>?_)
 have hu:=Ax hr
 have hr_z0:=hr.mono (show 1<=_ by decide);have hr1_z0:=hr.mono (show 1+1<=_ by decide)
 unfold Dh at h
 split at h
 rotate_left
 ·exact h.elim
 rename_i l
 obtain ⟨m,ts,xs,hA,hR,t1,t16,m4,tb,q,qE⟩:=h
 have hxl:xs.length=ts.length:=by rw [<- hR.length,Cs]
 have h16:2 ^ m<=16:=Nat.pow_le_pow_right (n:=2) (j:=4) (by decide) m4
 have SA:∀ {H'},Same H H'->(SqL K H' l xs\/SqT K H' l xs):=fun s=>hA.imp (fun h=>s.sqL h) fun h=>Bu h s
 refine ⟨_,(@AH _ _ _ _ _ (@Bw _ _ _ _ _ _ _ _ PassesOwn.leaving rfl (PI.or (K1 (K:=K) rfl T.z_enumerate (AA (vv 0) AB)) (Jg (K:=K) rfl T.z_enumerate (AA (vv 0) AB))) (LL (K:=K) (n:=2) rfl (GL (Ah (i:=1) sc_z10.nd rfl (by (first | exact Or.inl rfl | exact Or.inr rfl))) (GL (Ah (i:=2) sc_z10.nd rfl (by (first | exact Or.inl rfl | exact Or.inr rfl))) Kw))) (@AH _ _ _ _ _ (PS.nox (@AX _ _ 3 _ _ _ _ sc_z10.nd rfl (by (first | exact Or.inl rfl | exact Or.inr rfl)) (G6 (K:=K) hu (vv 0) (AA (vv 2) AB)) (by rfl) (by (first | exact .inl rfl | exact .inr rfl | assumption)))) (@AJ _ _ _ (@Ao _ _ _ _ _ _ _ _ (PT.nox (As DB (vv 3) (vv 1))) (@AJ _ _ _ (MB (W:=fun _ od H=>E (.ref T.C_Alike) od H) T.xI_Alike G_z0 hr1_z0 T.b_z0 (fun _ _ _ _ _ _ I e h0 q=>Jq I e h0 q) rfl rfl rfl T.mC_Alike (AA (vv 3) (AA (vv 1) AB)))) Am))) (by intro _;rfl)) (@AH _ _ _ _ _ (PS.nox (Fu (N':=["place","tables"]) (own:=1) (ix:=[0]) (i:=4) rfl sc_z10.nd rfl rfl (A7 rfl T.z_range (AA (AK (Ar (K:=K)) rfl T.z_len (by rfl) (AA (kIx (K:=K) (vv 0) AC) AB)) AB)) (by kernel_rfl) rfl rfl (by kernel_rfl) (fun c=>Ah (i:=0) (show (["place","tables"]:List Str).Nodup by decide +kernel) rfl (by (first | exact Or.inl rfl | exact Or.inr rfl))) (A5 (by decide)) (fun c=>A8) (fun c=>(Ay (BD (K:=K)) rfl T.z_tuple (by rfl) (AA (BF (N':=["table","place"]) (own:=1) (ix:=[0]) rfl (Cg (K:=K) (vv 1)) (by kernel_rfl) rfl rfl (by kernel_rfl) (fun c=>Ah (i:=0) (show (["table","place"]:List Str).Nodup by decide +kernel) rfl (by (first | exact Or.inl rfl | exact Or.inr rfl))) (A5 (by decide)) (fun c=>A8) (fun c=>(kIx (K:=K) (vv 0) (vv 1)))) AB))) (by rfl))) (@AJ _ _ _ (PS.nox (@AQ _ _ _ _ (BX (AA (Jl rfl rfl T.z_tuple rfl T.z_range (AA (AK (Ar (K:=K)) rfl T.z_len (by rfl) (AA (vv 0) AB)) AB)) (AA (Ay (BD (K:=K)) rfl T.z_tuple (by rfl) (AA (vv 4) AB)) AB)))))))),?_⟩
 refine Ak (fun σ H'=>∃ z1 z2 z3,σ=[some (.ref l),z1,z2,z3,none]/\Same H H'/\ts.Nodup) ?_ ?_ (by (repeat' with_reducible first | exact Hb | apply KU | apply IX | apply Jj | apply Iy | apply Mb | apply JU | exact JR | exact KQ | apply LP | apply Ko | apply K9 | apply Ie | apply Lm | apply MG | exact Hu | exact LH | exact Mc | exact LK | exact Hz | exact Ma | exact Iv | exact Ks | exact Mf | exact Io | apply Hv | apply ME | apply ML | apply Im | exact Jn | apply HW | exact Lj | exact Lb | apply He | apply K8 | exact JD | apply J9 | exact HZ | exact Lv | exact HN | exact Hq | apply IA | exact Iq | apply Lw | apply Ix | apply KG | apply KL | exact JN | exact Hs | exact JG | apply Kl | apply JT | exact JF | exact II | exact LU | exact La | apply Jx | apply Ji | exact K0 | apply J3 | assumption))
 ·rcases hA with hB | hB
  case' inl=>refine .inl ⟨⟨_,hB⟩,Il (xs:=xs) (fun i σ H'=>∃ z1 z2 z3,σ=[some (.ref l),z1,z2,z3,none]/\Same H H'/\(ts.take i).Nodup) ⟨none,none,none,rfl,Same.refl _,List.nodup_nil⟩ (fun i σ H' _ ⟨_,_,_,_,s',_⟩=>s'.sqL hB) ?_ (fun σ H' ⟨z1,z2,z3,e,s',n⟩=>⟨z1,z2,z3,e,s',by rwa [List.take_of_length_le (by lia)] at n⟩)⟩
  case' inr=>refine .inr ⟨⟨_,hB⟩,KZ (xs:=xs) (fun i σ H'=>∃ z1 z2 z3,σ=[some (.ref l),z1,z2,z3,none]/\Same H H'/\(ts.take i).Nodup) ⟨none,none,none,rfl,Same.refl _,List.nodup_nil⟩ (fun i σ H' _ ⟨_,_,_,_,s',_⟩=>Bu hB s') ?_ (fun σ H' ⟨z1,z2,z3,e,s',n⟩=>⟨z1,z2,z3,e,s',by rwa [List.take_of_length_le (by lia)] at n⟩)⟩
  all_goals
   rintro i x p σ H1 hx ⟨z1,z2,z3,rfl,s1,nd1⟩ hp
   obtain ⟨b,hb,rb⟩:=Bl hR hx
   have s2:=s1.trans (Same.upd (o:=.tup [.int (i:Nat),x]) hp)
   refine ⟨_,.inr (.of AE),rfl,_,_,rfl,_,_,rfl,rfl,?_⟩
   generalize upd H1 p (.tup [.int (i:Nat),x])=H2 at *
   obtain ⟨ix,e1,e2⟩:=FL (List.mem_of_getElem? hb)
   have hji:ts.idxOf b<=i:=Decidable.byContradiction fun z=>e2 i (by lia) hb
   have hil:i < ts.length:=(List.getElem?_eq_some_iff.mp hb).1
   refine Ak (fun σ H'=>σ=[some (.ref l),some (.int (i:Nat)),some x,some (.int (ts.idxOf b:Nat)),none]/\H'=H2) ?_ ?_ (by (repeat' with_reducible first | exact Hb | apply KU | apply IX | apply Jj | apply Iy | apply Mb | apply JU | exact JR | exact KQ | apply LP | apply Ko | apply K9 | apply Ie | apply Lm | apply MG | exact Hu | exact LH | exact Mc | exact LK | exact Hz | exact Ma | exact Iv | exact Ks | exact Mf | exact Io | apply Hv | apply ME | apply ML | apply Im | exact Jn | apply HW | exact Lj | exact Lb | apply He | apply K8 | exact JD | apply J9 | exact HZ | exact Lv | exact HN | exact Hq | apply IA | exact Iq | apply Lw | apply Ix | apply KG | apply KL | exact JN | exact Hs | exact JG | apply Kl | apply JT | exact JF | exact II | exact LU | exact La | apply Jx | apply Ji | exact K0 | apply J3 | assumption))
   ·first
     | exact .inl ⟨.inl ⟨rfl,_,s2.sqL hB⟩,xs,AG ts,_,_,s2.sqL hB,Reps.same s2 _ _ hR,Rep.same s2 _ _ rb,Cv ts,ix,rfl,rfl⟩
     | exact .inr ⟨⟨_,_,rfl,Bu hB s2⟩,xs,AG ts,_,_,Bu hB s2,Reps.same s2 _ _ hR,Rep.same s2 _ _ rb,Cv ts,ix,rfl,rfl⟩
   rintro σ _ ⟨rfl,rfl⟩
   refine Aj (fun e=>?_) (fun e=>?_)
   ·have hlt:ts.idxOf b < i:=by have:=of_decide_eq_true e;lia
    refine ⟨(show 2<=1000 by decide),fun x0 hx0=>⟨AE,fun d hd=>?_⟩⟩
    have n0:d≠x0:=fun z=>by rw [z,AE] at hd;cases hd
    rw [AD n0] at hd
    refine ⟨rfl,some d,by rw [AD (Ne.symm n0),AD (Ne.symm n0),AE],?_⟩
    refine qE _ _ ⟨hlt,hil,by rw [e1,hb],fun k hk z=>e2 k hk (by rw [z,hb]),nd1⟩ d _ (fun c u hc=>?_) ?_
    ·have hc2:=s2 _ _ hc
     have n1:c≠x0:=fun z=>by rw [z,hx0] at hc2;cases hc2
     have n2:c≠d:=fun z=>by rw [z,hd] at hc2;cases hc2
     rw [DM n1,AD n2,AD n2,AD n1,AD n1]
     exact hc2
    ·rw [DM n0];exact AE
   ·have hge:ts.idxOf b=i:=by
     have:¬ (((ts.idxOf b:Nat):Int) < ((i:Nat):Int)):=fun z=>e (decide_eq_true z)
     lia
    refine ⟨_,_,_,rfl,s2,?_⟩
    rw [List.take_add_one,hb]
    refine List.nodup_append.mpr ⟨nd1,by simp,fun c hc c' hc' z=>?_⟩
    have:c'=b:=by simpa using hc'
    subst this
    subst z
    obtain ⟨k,hk,e3⟩:=List.getElem_of_mem hc
    rw [List.length_take] at hk
    rw [List.getElem_take] at e3
    exact e2 k (by lia) (by rw [List.getElem?_eq_getElem (by lia),e3])
 rintro σ H1 ⟨z1,z2,z3,rfl,s1,nd⟩
 have A1:=SA s1
 have R1:=Reps.same s1 _ _ hR
 obtain ⟨x0,hx0⟩:∃ x0,xs[0]? = some x0:=⟨_,List.getElem?_eq_getElem (by lia)⟩
 obtain ⟨b0,hb0,rb0⟩:=Bl R1 hx0
 have hbl0:b0.length=2 ^ m:=tb _ (List.mem_of_getElem? hb0)
 obtain ⟨p0,rfl,g0⟩:=C5 rb0
 refine Ak (fun σ H'=>∃ lr ys,σ=[some (.ref l),z1,z2,z3,some (.ref lr)]/\Same H1 H'/\H' lr=some (.lst ys)/\Reps K H' ((List.range (2 ^ m)).map fun p=>.tup (ts.map fun b=>.bl (b.getD p false))) ys) ?_ ?_ (by (repeat' with_reducible first | exact Hb | apply KU | apply IX | apply Jj | apply Iy | apply Mb | apply JU | exact JR | exact KQ | apply LP | apply Ko | apply K9 | apply Ie | apply Lm | apply MG | exact Hu | exact LH | exact Mc | exact LK | exact Hz | exact Ma | exact Iv | exact Ks | exact Mf | exact Io | apply Hv | apply ME | apply ML | apply Im | exact Jn | apply HW | exact Lj | exact Lb | apply He | apply K8 | exact JD | apply J9 | exact HZ | exact Lv | exact HN | exact Hq | apply IA | exact Iq | apply Lw | apply Ix | apply KG | apply KL | exact JN | exact Hs | exact JG | apply Kl | apply JT | exact JF | exact II | exact LU | exact La | apply Jx | apply Ji | exact K0 | apply J3 | assumption))
 ·refine ⟨_,_,A1,BR rfl hx0,b0.length,.inr ⟨_,g0,by rw [List.length_map]⟩,_,rfl,by lia,by lia,?_⟩
  refine Bh (fun k ys H'=>Same H1 H'/\Reps K H' ((List.range k).map fun p=>.tup (ts.map fun b=>.bl (b.getD p false))) ys) ⟨Same.refl _,Aa⟩ (fun k ys H' hk ⟨_,r⟩=>by
   have:=r.length
   rw [List.length_map,List.length_range] at this
   exact Aq (by lia)) ?_ ?_
  ·rintro k ys H2 hk ⟨s2,r2⟩
   rw [show (0:Int)+(k:Int)=(k:Int) from Int.zero_add _]
   have A2:=SA (s1.trans s2)
   have R2:=Reps.same s2 _ _ R1
   have fin:∀ lp,H2 lp=none->∀ p,upd H2 lp (.lst (ts.map fun b=>V.bl (b.getD k false))) p=none->Same H1 (upd (upd H2 lp (.lst (ts.map fun b=>V.bl (b.getD k false)))) p (.tup (ts.map fun b=>V.bl (b.getD k false))))/\Reps K (upd (upd H2 lp (.lst (ts.map fun b=>V.bl (b.getD k false)))) p (.tup (ts.map fun b=>V.bl (b.getD k false)))) ((List.range (k+1)).map fun p=>.tup (ts.map fun b=>.bl (b.getD p false))) (ys++[.ref p]):=fun lp hlp p hp=>by
    have s3:=(Same.upd (o:=.lst (ts.map fun b=>V.bl (b.getD k false))) hlp).trans (Same.upd (o:=.tup (ts.map fun b=>V.bl (b.getD k false))) hp)
    refine ⟨s2.trans s3,?_⟩
    rw [List.range_succ,List.map_append]
    refine Reps.append (Reps.same s3 _ _ r2) (AS (A4 AE ?_) Aa)
    have:=Bf (K:=K) (H:=upd (upd H2 lp (.lst (ts.map fun b=>V.bl (b.getD k false)))) p (.tup (ts.map fun b=>V.bl (b.getD k false)))) (ts.map fun b=>b.getD k false)
    rwa [List.map_map,List.map_map] at this
   have stp:∀ (j:Nat) (x:V),xs[j]? = some x->∃ p b,x=.ref p/\ts[j]? = some b/\SqT K H2 p (b.map V.bl)/\atI (b.map V.bl) (k:Int)=some (.bl (b.getD k false)):=fun j x hx=>by
    obtain ⟨b,hb,rb⟩:=Bl R2 hx
    obtain ⟨p,rfl,g⟩:=C5 rb
    have hbl:b.length=2 ^ m:=tb _ (List.mem_of_getElem? hb)
    refine ⟨p,b,rfl,hb,g,BR rfl ?_⟩
    rw [List.getElem?_map,List.getElem?_eq_getElem (by lia),List.getD_eq_getElem?_getD,List.getElem?_eq_getElem (by lia)]
    rfl
   rcases A2 with hB | hB
   case' inl=>refine .inl ⟨⟨_,hB⟩,Gd (xs:=xs) (fun j zs H'=>H'=H2/\zs=(ts.take j).map fun b=>V.bl (b.getD k false)) ⟨rfl,rfl⟩ (fun j zs H' _ ⟨e,_⟩=>by rw [e];exact hB) (fun j zs H' hj ⟨_,e⟩=>by rw [e,List.length_map,List.length_take];exact Aq (by lia)) ?_ ?_⟩
   case' inr=>refine .inr ⟨⟨_,hB⟩,Dc (xs:=xs) (fun j zs H'=>H'=H2/\zs=(ts.take j).map fun b=>V.bl (b.getD k false)) ⟨rfl,rfl⟩ (fun j zs H' _ ⟨e,_⟩=>by rw [e];exact hB) (fun j zs H' hj ⟨_,e⟩=>by rw [e,List.length_map,List.length_take];exact Aq (by lia)) ?_ ?_⟩
   all_goals first
    | (rintro j x zs H' hx ⟨rfl,rfl⟩
       obtain ⟨p,b,rfl,hb,g,ha⟩:=stp j x hx
       refine ⟨_,_,.inr g,ha,rfl,?_⟩
       rw [List.take_add_one,hb,List.map_append]
       rfl)
    | (rintro zs H' ⟨rfl,rfl⟩ lp hlp
       rw [List.take_of_length_le (by lia)]
       exact ⟨_,.inl ⟨.of AE,fun p hp=>fin lp hlp p hp⟩⟩)
  ·rintro ys H2 ⟨s2,r2⟩ lr hlr
   rw [Int.toNat_natCast,hbl0] at r2
   exact ⟨lr,ys,rfl,s2.trans (Same.upd hlr),AE,Reps.same (Same.upd hlr) _ _ r2⟩
 rintro σ H2 ⟨lr,ys,rfl,s2,g2,r2⟩
 have A2:=SA (s1.trans s2)
 refine ⟨xs.length,A2.imp (fun h=>⟨_,h,rfl⟩) (fun h=>⟨_,h,rfl⟩),xs.length,rfl,by lia,fun p1 h1=>?_⟩
 have s3:=Same.upd (o:=.tup ((List.range xs.length).map fun (k:Nat)=>V.int (k:Int))) h1
 refine ⟨_,.inl ⟨.of (s3 _ _ g2),fun p2 h2=>⟨AU (show 2<=1000 by decide),fun p3 h3=>?_⟩⟩⟩
 have s4:=s3.trans (Same.upd (o:=.tup ys) h2)
 have s5:=s4.trans (Same.upd (o:=.tup [.ref p1,.ref p2]) h3)
 refine q nd _ _ (s1.trans (s2.trans s5)) ?_
 refine A4 AE (AS (A4 (xs:=(List.range xs.length).map fun (k:Nat)=>V.int (k:Int)) (Same.upd h3 _ _ (Same.upd h2 _ _ AE)) ?_) (AS (A4 (xs:=ys) (Same.upd h3 _ _ AE) (Reps.same s5 _ _ r2)) Aa))
 rw [hxl]
 have:=Ea (K:=K) (H:=upd (upd (upd H2 p1 (.tup ((List.range xs.length).map fun (k:Nat)=>V.int (k:Int)))) p2 (.tup ys)) p3 (.tup [.ref p1,.ref p2])) ((List.range ts.length).map fun (k:Nat)=>(k:Int))
 rw [List.map_map,List.map_map,hxl] at this
 exact this
noncomputable def Cn (ts:List (List Bool)) (m:Nat) (D:Dv):Prop:=(ts.Nodup/\D=cgD ts m)\/∃ i j:Nat,Alk ts i j/\D=.tup [.str "alike",.int i,.int j]
theorem Cw {ts:List (List Bool)} {i j:Nat} (a:Alk ts i j) {n:Nat} (h:j < n):¬ (ts.take n).Nodup:=fun nd=>by
 have h1:=a.jl
 have h2:=a.lt
 have hi:i < (ts.take n).length:=by rw [List.length_take];lia
 have e:(ts.take n)[i]? = (ts.take n)[j]?:=by rw [List.getElem?_take_of_lt (by lia),List.getElem?_take_of_lt h];exact a.eq
 have:=(List.getElem?_inj hi nd).mp e
 lia
theorem Ga {ts:List (List Bool)} {m:Nat} {D D':Dv} (h:Cn ts m D) (h':Cn ts m D'):D=D':=by
 rcases h with ⟨nd,rfl⟩ | ⟨i,j,a,rfl⟩ <;> rcases h' with ⟨nd',rfl⟩ | ⟨i',j',a',rfl⟩
 ·rfl
 ·exact absurd (by rwa [List.take_of_length_le (Nat.le_refl _)]) (Cw a' a'.jl)
 ·exact absurd (by rwa [List.take_of_length_le (Nat.le_refl _)]) (Cw a a.jl)
 ·have ej:j=j':=by
   rcases Nat.lt_trichotomy j j' with z | z | z
   ·exact absurd a'.nd (Cw a z)
   ·exact z
   ·exact absurd a.nd (Cw a' z)
  subst ej
  have ei:i=i':=by
   rcases Nat.lt_trichotomy i i' with z | z | z
   ·exact absurd a.eq (a'.fst i z)
   ·exact z
   ·exact absurd a'.eq (a.fst i' z)
  rw [ei]
noncomputable def CD (K:W.Frag):Sp:=fun vs H Q _=>match vs with
 | [.ref l]=>∃ (m:Nat) (ts:List (List Bool)) (xs:List V),(SqL K H l xs\/SqT K H l xs)/\Reps K H (AG ts) xs/\1<=ts.length/\ts.length<=16/\m<=4/\(∀ b∈ts,b.length=2 ^ m)/\∀ D v H',Cn ts m D->Same H H'->Rep K H' D v->Q v H'
 | _=>False
theorem LX:AW (CD K):=fun vs H Q Q' E h q=>by
 unfold CD at *
 split at q
 ·revert q;repeat' first | exact h _ _ | exact BG h | exact out_mono h | exact outT_mono h | (with_reducible first | refine Exists.imp fun _=>?_ | refine And.imp_right ?_ | refine forall_imp fun _=>?_)
 ·exact q.elim
theorem Lo:FnOk P w K mg base CX0 4 T.f_z14 T.d_z14 ["_law_tables"] (CD K):=by
 have G_z10:=Ds (P:=P) (w:=w) (base:=base) T
 refine T.F_z14.ok sc_z14 (fun vs H Q E h=>by unfold CD at h;split at h <;> first | rfl | exact h.elim) (fun cdv A outer s H vs Q E hr h=>?_)
 have hu:=Ax hr
 have hr_z10:=hr.mono (show 3<=_ by decide)
 unfold CD at h
 split at h
 rotate_left
 ·exact h.elim
 rename_i l
 obtain ⟨m,ts,xs,hA,hR,t1,t16,m4,tb,q⟩:=h
 refine ⟨_,(@AH _ _ _ _ _ (@AX _ _ 1 _ _ _ _ sc_z14.nd rfl (by (first | exact Or.inl rfl | exact Or.inr rfl)) J4 (by rfl) (by (first | exact .inl rfl | exact .inr rfl | assumption))) (@AH _ _ _ _ _ (LC (i:=1) (j:=2) sc_z14.nd rfl (by (first | exact Or.inl rfl | exact Or.inr rfl)) rfl rfl rfl rfl rfl T.mC_FlipError (JJ G_z10 hr_z10 rfl T.m_z10 T.F_z10.kp T.b_z10 .nil (AA (vv 0) AB)) (fun _=>(@AH _ _ _ _ _ (@AX _ _ 1 _ _ _ _ sc_z14.nd rfl (by (first | exact Or.inl rfl | exact Or.inr rfl)) (BX (AA DJ (AA AC AB))) (by rfl) (by (first | exact .inl rfl | exact .inr rfl | assumption))) (@AH _ _ _ _ _ (@AX _ _ 3 _ _ _ _ sc_z14.nd rfl (by (first | exact Or.inl rfl | exact Or.inr rfl)) (@Cd _ _ _ _ (AA (AK (Bp (K:=K)) rfl T.z_isinstance (by rfl) (AA (vv 2) (AA (BK (v:=.ref T.C_NoEnd) rfl T.mC_NoEnd rfl) AB))) (AA (AK (Bp (K:=K)) rfl T.z_isinstance (by rfl) (AA (vv 2) (AA (BK (v:=.ref T.C_NoName) rfl T.mC_NoName rfl) AB))) (AA (AK (Bp (K:=K)) rfl T.z_isinstance (by rfl) (AA (vv 2) (AA (BK (v:=.ref T.C_NoRow) rfl T.mC_NoRow rfl) AB))) (AA (AK (Bp (K:=K)) rfl T.z_isinstance (by rfl) (AA (vv 2) (AA (BK (v:=.ref T.C_NoTable) rfl T.mC_NoTable rfl) AB))) AB))))) (by rfl) (by (first | exact .inl rfl | exact .inr rfl | assumption))) (@AJ _ _ _ (@Ao _ _ _ _ _ _ _ _ (PW.pt (ER (As (IM (K:=K)) BM (vv 3)) (ER (BI (AK (Bp (K:=K)) rfl T.z_isinstance (by rfl) (AA (vv 2) (AA (BK (v:=.ref T.C_Alike) rfl T.mC_Alike rfl) AB)))) (GM (BY (BI (AK (Bp (K:=K)) rfl T.z_isinstance (by rfl) (AA (vv 2) (AA (BX (AA (BK (v:=.ref T.C_NoText) rfl T.mC_NoText rfl) (AA (BK (v:=.ref T.C_NoThing) rfl T.mC_NoThing rfl) AB))) AB))))))))) (@AJ _ _ _ (@AX _ _ 1 _ _ _ _ sc_z14.nd rfl (by (first | exact Or.inl rfl | exact Or.inr rfl)) (Kn (BI (AK (Bp (K:=K)) rfl T.z_isinstance (by rfl) (AA (vv 2) (AA (Bm (v:=.ty "ValueError") rfl T.z_ValueError (by rfl) rfl) AB)))) (BX (AA DJ (AA (Ev (K:=K) (vv 2)) (AA (Ev (K:=K) (vv 2)) AB)))) (BX (AA DJ (AA AC AB)))) (by rfl) (by (first | exact .inl rfl | exact .inr rfl | assumption)))) Am)))))) (@AJ _ _ _ (@AQ _ _ _ _ (vv 1))))),?_⟩
 refine ⟨m,ts,xs,hA,hR,t1,t16,m4,tb,fun nd v H' s' r=>?_,fun i j ak d H' s' gd=>⟨T.xm_Alike_FlipError,fun x hx=>?_⟩⟩
 ·show Q v H'
  exact q _ v H' (.inl ⟨nd,rfl⟩) s' r
 have dx:d≠x:=fun z=>by rw [z,hx] at gd;cases gd
 have e0:ExcAt (upd H' x (BB x (.ref T.C_Alike) (some d))) x T.C_Alike (some d):=⟨AE,fun d' e=>by cases e;exact ⟨_,by rw [AD dx];exact gd⟩⟩
 have g0:upd H' x (BB x (.ref T.C_Alike) (some d)) d=some (XdO d (BE "other" (.int (j:Nat)) [("one",.int (i:Nat))])):=by rw [AD dx];exact gd
 have s0:=s'.trans (Same.upd (o:=BB x (.ref T.C_Alike) (some d)) hx)
 generalize upd H' x (BB x (.ref T.C_Alike) (some d))=H2 at *
 have es:∀ {H3},Same H2 H3->ExcAt H3 x T.C_Alike (some d):=fun s=>⟨s _ _ e0.1,fun d' e=>let ⟨o,g⟩:=e0.2 d' e;⟨o,s _ _ g⟩⟩
 refine ⟨AU (show 2<=1000 by decide),fun p1 h1=>?_⟩
 have s1:=Same.upd (o:=.tup [.str "odd",.int 0]) h1
 refine ⟨_,_,_,es s1,T.xc_Alike,.inl T.kk_Alike_NoEnd,_,_,_,es s1,T.xc_Alike,.inl T.kk_Alike_NoName,_,_,_,es s1,T.xc_Alike,.inl T.kk_Alike_NoRow,_,_,_,es s1,T.xc_Alike,.inl T.kk_Alike_NoTable,AU (show 4<=1000 by decide),fun lo hlo=>?_⟩
 have s2:=s1.trans (Same.upd (o:=.lst [.bl false,.bl false,.bl false,.bl false]) hlo)
 dsimp only [Ae]
 refine ⟨_,.inl (.of AE),rfl,rfl,?_⟩
 refine ⟨_,_,true,es s2,T.xc_Alike,.inl T.kk_Alike_Alike,?_⟩
 refine ⟨AU (show 2<=1000 by decide),fun p2 h2=>?_⟩
 have s3:=s2.trans (Same.upd (o:=.tup [.ref T.C_NoText,.ref T.C_NoThing]) h2)
 refine ⟨_,_,false,es s3,T.xc_Alike,.inr ⟨[T.C_NoText,T.C_NoThing],AE,?_⟩,?_⟩
 ·simp only [List.map,W.kitAny,T.kk_Alike_NoText,T.kk_Alike_NoThing]
 refine ⟨_,_,true,es s3,T.xc_Alike,T.kk_Alike_ValueError,?_⟩
 refine ⟨_,d,_,_,es s3,s3 _ _ g0,T.xc_Alike,T.na_Alike_one,T.hd_Alike,rfl,_,d,_,_,es s3,s3 _ _ g0,T.xc_Alike,T.na_Alike_other,T.hd_Alike,rfl,AU (show 3<=1000 by decide),fun p3 h3=>?_⟩
 have s4:=s3.trans (Same.upd (o:=.tup [.str "alike",.int (i:Nat),.int (j:Nat)]) h3)
 exact q _ _ _ (.inr ⟨i,j,ak,rfl⟩) (s0.trans s4) (A4 AE (AS HK (AS Bd (AS Bd Aa))))
noncomputable def CV (K:W.Frag):Sp:=fun vs H Q _=>match vs with
 | [.ref l]=>∃ (m:Nat) (ts:List (List Bool)) (xs:List V),SqL K H l xs/\Reps K H (AG ts) xs/\1<=ts.length/\ts.length<=16/\m<=4/\(∀ b∈ts,b.length=2 ^ m)/\∀ D v H',Cn ts m D->Same H H'->Rep K H' D v->Q v H'
 | _=>False
theorem KB:AW (CV K):=fun vs H Q Q' E h q=>by
 unfold CV at *
 split at q
 ·revert q;repeat' first | exact h _ _ | exact BG h | exact out_mono h | exact outT_mono h | (with_reducible first | refine Exists.imp fun _=>?_ | refine And.imp_right ?_ | refine forall_imp fun _=>?_)
 ·exact q.elim
theorem Ha (ts:List (List Bool)) (i:Nat):AG (ts.take i)=(AG ts).take i:=by unfold AG;rw [List.map_take]
theorem Ia:FnOk P w K mg base CX0 1 T.f_z18 T.d_z18 ["_law_tables"] (CV K):=by
 refine T.F_z18.ok sc_z18 (fun vs H Q E h=>by unfold CV at h;split at h <;> first | rfl | exact h.elim) (fun cdv A outer s H vs Q E hr h=>?_)
 have hu:=Ax hr
 unfold CV at h
 split at h
 rotate_left
 ·exact h.elim
 rename_i l
 obtain ⟨m,ts,xs,hA,hR,t1,t16,m4,tb,q⟩:=h
 have hxl:xs.length=ts.length:=by rw [<- hR.length,Cs]
 have h16:2 ^ m<=16:=Nat.pow_le_pow_right (n:=2) (j:=4) (by decide) m4
 refine ⟨_,(@AH _ _ _ _ _ (@Bw _ _ _ _ _ _ _ _ PassesOwn.never rfl (A7 rfl T.z_range (AA (AK (Ar (K:=K)) rfl T.z_len (by rfl) (AA (vv 0) AB)) AB)) (Ah (i:=1) sc_z18.nd rfl (by (first | exact Or.inl rfl | exact Or.inr rfl))) (@AJ _ _ _ (@Ao _ _ _ _ _ _ _ _ (As (HQ (K:=K) hu) (kIx (K:=K) (vv 0) (vv 1)) (FB (K:=K) (vv 0) DP (DG (vv 1)))) (@AJ _ _ _ (@AQ _ _ _ _ (BX (AA DJ (AA (G6 (K:=K) hu (Ay (EG (K:=K)) rfl T.z_list (by rfl) (AA (vv 0) AB)) (AA (kIx (K:=K) (vv 0) (vv 1)) AB)) (AA (vv 1) AB)))))) Am)) (by intro _;rfl)) (@AH _ _ _ _ _ (@Fu _ _ _ _ _ _ _ (["_law_k","_law_tables"]) 1 [0] _ _ _ _ 2 _ _ _ rfl sc_z18.nd rfl rfl (A7 rfl T.z_range (AA (AK (Ar (K:=K)) rfl T.z_len (by rfl) (AA (kIx (K:=K) (vv 0) AC) AB)) AB)) (by kernel_rfl) rfl rfl (by kernel_rfl) (fun c=>Ah (i:=0) (show (["_law_k","_law_tables"]:List Str).Nodup by decide +kernel) rfl (by (first | exact Or.inl rfl | exact Or.inr rfl))) (A5 (by decide)) (fun c=>A8) (fun c=>(Ay (BD (K:=K)) rfl T.z_tuple (by rfl) (AA (BF (N':=["_law_table_here","_law_k"]) (own:=1) (ix:=[0]) rfl (Cg (K:=K) (vv 1)) (by kernel_rfl) rfl rfl (by kernel_rfl) (fun c=>Ah (i:=0) (show (["_law_table_here","_law_k"]:List Str).Nodup by decide +kernel) rfl (by (first | exact Or.inl rfl | exact Or.inr rfl))) (A5 (by decide)) (fun c=>A8) (fun c=>(kIx (K:=K) (vv 0) (vv 1)))) AB))) (by rfl) (by intro _;rfl)) (@AJ _ _ _ (@AQ _ _ _ _ (BX (AA (Ay (BD (K:=K)) rfl T.z_tuple (by rfl) (AA (@BF _ _ _ _ _ _ _ ["_law_k"] 1 [] _ _ _ _ rfl (A7 rfl T.z_range (AA (AK (Ar (K:=K)) rfl T.z_len (by rfl) (AA (vv 0) AB)) AB)) (by kernel_rfl) rfl rfl (by kernel_rfl) (fun c=>Ah (i:=0) (show (["_law_k"]:List Str).Nodup by decide +kernel) rfl (by (first | exact Or.inl rfl | exact Or.inr rfl))) (A5 (by decide)) (fun c=>A8) (fun c=>(vv 0)) (by intro _;rfl)) AB)) (AA (Ay (BD (K:=K)) rfl T.z_tuple (by rfl) (AA (vv 2) AB)) AB))))))),?_⟩
 refine Ak (fun σ H'=>∃ z1,σ=[some (.ref l),z1,none]/\Same H H'/\ts.Nodup) ?_ ?_ (by (repeat' with_reducible first | exact Hb | apply KU | apply IX | apply Jj | apply Iy | apply Mb | apply JU | exact JR | exact KQ | apply LP | apply Ko | apply K9 | apply Ie | apply Lm | apply MG | exact Hu | exact LH | exact Mc | exact LK | exact Hz | exact Ma | exact Iv | exact Ks | exact Mf | exact Io | apply Hv | apply ME | apply ML | apply Im | exact Jn | apply HW | exact Lj | exact Lb | apply He | apply K8 | exact JD | apply J9 | exact HZ | exact Lv | exact HN | exact Hq | apply IA | exact Iq | apply Lw | apply Ix | apply KG | apply KL | exact JN | exact Hs | exact JG | apply Kl | apply JT | exact JF | exact II | exact LU | exact La | apply Jx | apply Ji | exact K0 | apply J3 | assumption))
 ·refine ⟨xs.length,.inl ⟨_,hA,rfl⟩,_,rfl,by lia,by lia,?_⟩
  refine CZ (fun i σ H'=>∃ z1,σ=[some (.ref l),z1,none]/\Same H H'/\(ts.take i).Nodup) ⟨none,rfl,Same.refl _,List.nodup_nil⟩ ?_ (fun σ H' ⟨z1,e,s',n⟩=>⟨z1,e,s',by rwa [Int.toNat_natCast,List.take_of_length_le (by lia)] at n⟩)
  rintro i σ H1 hi ⟨z1,rfl,s1,nd1⟩
  have hi:i < xs.length:=by lia
  rw [show (0:Int)+(i:Int)=(i:Int) from Int.zero_add _]
  obtain ⟨x,hx⟩:∃ x,xs[i]? = some x:=⟨_,List.getElem?_eq_getElem hi⟩
  obtain ⟨b,hb,rb⟩:=Bl hR hx
  refine ⟨_,_,.inl (s1.sqL hA),BR rfl hx,?_⟩
  refine ⟨(i:Int),rfl,xs,.inl ⟨s1.sqL hA,fun pc hpc=>?_⟩⟩
  rw [Gn _ i (by lia)]
  have s2:=s1.trans (Same.upd (o:=.lst (xs.take i)) hpc)
  have g2:=AE (H:=H1) (a:=pc) (o:=.lst (xs.take i))
  generalize upd H1 pc (.lst (xs.take i))=H2 at *
  have R2:=Reps.same s2 _ _ hR
  have rb2:=Rep.same s2 _ _ rb
  refine ⟨xs.take i,AG (ts.take i),_,.inl (.of g2),by rw [Ha];exact Dj _ R2,rb2,Cv _,?_⟩
  rw [G3]
  obtain ⟨ix,e1,e2⟩:=FL (List.mem_of_getElem? hb)
  have hji:ts.idxOf b<=i:=Decidable.byContradiction fun z=>e2 i (by lia) hb
  refine Aj (fun e=>?_) (fun e=>?_)
  ·have hm:b∈ts.take i:=by
    have e:(false ^^ decide (b∈ts.take i))=true:=e
    simpa using e
   have hlt:ts.idxOf b < i:=by
    obtain ⟨k,hk,e3⟩:=List.getElem_of_mem hm
    rw [List.length_take] at hk
    rw [List.getElem_take] at e3
    exact Decidable.byContradiction fun z=>e2 k (by lia) (by rw [List.getElem?_eq_getElem (by lia),e3])
   refine .inl ⟨xs,.inl (s2.sqL hA),fun lc hlc=>⟨.inl ⟨rfl,_,.of AE⟩,?_⟩⟩
   have s3:=s2.trans (Same.upd (o:=.lst xs) hlc)
   refine ⟨_,_,.inl (s3.sqL hA),BR rfl hx,?_⟩
   refine ⟨xs,AG ts,_,_,.of AE,Reps.same s3 _ _ hR,Rep.same s3 _ _ rb,Cv ts,ix,AU (show 3<=1000 by decide),fun p hp=>?_⟩
   exact q _ _ _ (.inr ⟨_,i,⟨hlt,by lia,by rw [e1,hb],fun k hk z=>e2 k hk (by rw [z,hb]),nd1⟩,rfl⟩) (s3.trans (Same.upd hp)) (A4 AE (AS HK (AS Bd (AS Bd Aa))))
  ·have hm:b∉ts.take i:=fun z=>e (by
    show (false ^^ decide (b∈ts.take i))=true
    simpa using z)
   refine ⟨_,rfl,s2,?_⟩
   rw [List.take_add_one,hb]
   refine List.nodup_append.mpr ⟨nd1,by simp,fun c hc c' hc' z=>?_⟩
   have:c'=b:=by simpa using hc'
   subst this
   subst z
   exact hm hc
 rintro σ H1 ⟨z1,rfl,s1,nd⟩
 have A1:=s1.sqL hA
 have R1:=Reps.same s1 _ _ hR
 obtain ⟨x0,hx0⟩:∃ x0,xs[0]? = some x0:=⟨_,List.getElem?_eq_getElem (by lia)⟩
 obtain ⟨b0,hb0,rb0⟩:=Bl R1 hx0
 have hbl0:b0.length=2 ^ m:=tb _ (List.mem_of_getElem? hb0)
 obtain ⟨p0,rfl,g0⟩:=C5 rb0
 refine Ak (fun σ H'=>∃ lr ys,σ=[some (.ref l),z1,some (.ref lr)]/\Same H1 H'/\H' lr=some (.lst ys)/\Reps K H' ((List.range (2 ^ m)).map fun p=>.tup (ts.map fun b=>.bl (b.getD p false))) ys) ?_ ?_ (by (repeat' with_reducible first | exact Hb | apply KU | apply IX | apply Jj | apply Iy | apply Mb | apply JU | exact JR | exact KQ | apply LP | apply Ko | apply K9 | apply Ie | apply Lm | apply MG | exact Hu | exact LH | exact Mc | exact LK | exact Hz | exact Ma | exact Iv | exact Ks | exact Mf | exact Io | apply Hv | apply ME | apply ML | apply Im | exact Jn | apply HW | exact Lj | exact Lb | apply He | apply K8 | exact JD | apply J9 | exact HZ | exact Lv | exact HN | exact Hq | apply IA | exact Iq | apply Lw | apply Ix | apply KG | apply KL | exact JN | exact Hs | exact JG | apply Kl | apply JT | exact JF | exact II | exact LU | exact La | apply Jx | apply Ji | exact K0 | apply J3 | assumption))
 ·refine ⟨_,_,.inl A1,BR rfl hx0,b0.length,.inr ⟨_,g0,by rw [List.length_map]⟩,_,rfl,by lia,by lia,?_⟩
  refine Bh (fun k ys H'=>Same H1 H'/\Reps K H' ((List.range k).map fun p=>.tup (ts.map fun b=>.bl (b.getD p false))) ys) ⟨Same.refl _,Aa⟩ (fun k ys H' hk ⟨_,r⟩=>by
   have:=r.length
   rw [List.length_map,List.length_range] at this
   exact Aq (by lia)) ?_ ?_
  ·rintro k ys H2 hk ⟨s2,r2⟩
   rw [show (0:Int)+(k:Int)=(k:Int) from Int.zero_add _]
   have hB:=s2.sqL A1
   have R2:=Reps.same s2 _ _ R1
   refine .inl ⟨⟨_,hB⟩,Gd (xs:=xs) (fun j zs H'=>H'=H2/\zs=(ts.take j).map fun b=>V.bl (b.getD k false)) ⟨rfl,rfl⟩ (fun j zs H' _ ⟨e,_⟩=>by rw [e];exact hB) (fun j zs H' hj ⟨_,e⟩=>by rw [e,List.length_map,List.length_take];exact Aq (by lia)) ?_ ?_⟩
   ·rintro j x zs H' hx ⟨rfl,rfl⟩
    obtain ⟨b,hb,rb⟩:=Bl R2 hx
    obtain ⟨p,rfl,g⟩:=C5 rb
    have hbl:b.length=2 ^ m:=tb _ (List.mem_of_getElem? hb)
    refine ⟨_,.bl (b.getD k false),.inr g,BR rfl ?_,rfl,?_⟩
    ·rw [List.getElem?_map,List.getElem?_eq_getElem (by lia),List.getD_eq_getElem?_getD,List.getElem?_eq_getElem (by lia)]
     rfl
    ·rw [List.take_add_one,hb,List.map_append]
     rfl
   ·rintro zs H' ⟨rfl,rfl⟩ lp hlp
    rw [List.take_of_length_le (by lia)]
    refine ⟨_,.inl ⟨.of AE,fun p hp=>?_⟩⟩
    have s3:=(Same.upd (o:=.lst (ts.map fun b=>V.bl (b.getD k false))) hlp).trans (Same.upd (o:=.tup (ts.map fun b=>V.bl (b.getD k false))) hp)
    refine ⟨s2.trans s3,?_⟩
    rw [List.range_succ,List.map_append]
    refine Reps.append (Reps.same s3 _ _ r2) (AS (A4 AE ?_) Aa)
    have:=Bf (K:=K) (H:=upd (upd H' lp (.lst (ts.map fun b=>V.bl (b.getD k false)))) p (.tup (ts.map fun b=>V.bl (b.getD k false)))) (ts.map fun b=>b.getD k false)
    rwa [List.map_map,List.map_map] at this
  ·rintro ys H2 ⟨s2,r2⟩ lr hlr
   rw [Int.toNat_natCast,hbl0] at r2
   exact ⟨lr,ys,rfl,s2.trans (Same.upd hlr),AE,Reps.same (Same.upd hlr) _ _ r2⟩
 rintro σ H2 ⟨lr,ys,rfl,s2,g2,r2⟩
 refine ⟨xs.length,.inl ⟨_,s2.sqL A1,rfl⟩,_,rfl,by lia,by lia,?_⟩
 refine Bh (fun k zs H'=>H'=H2/\zs=(List.range k).map fun (k:Nat)=>V.int (k:Int)) ⟨rfl,rfl⟩ (fun k zs H' hk ⟨_,e⟩=>by rw [e,List.length_map,List.length_range];exact Aq (by lia)) ?_ ?_
 ·rintro k zs H' hk ⟨rfl,rfl⟩
  rw [show (0:Int)+(k:Int)=(k:Int) from Int.zero_add _]
  refine ⟨rfl,?_⟩
  rw [List.range_succ,List.map_append]
  rfl
 rintro zs H' ⟨rfl,rfl⟩ lk hlk
 rw [Int.toNat_natCast,hxl]
 refine ⟨_,.inl ⟨.of AE,fun p1 h1=>?_⟩⟩
 have s3:=(Same.upd (o:=.lst ((List.range ts.length).map fun (k:Nat)=>V.int (k:Int))) hlk).trans (Same.upd (o:=.tup ((List.range ts.length).map fun (k:Nat)=>V.int (k:Int))) h1)
 refine ⟨_,.inl ⟨.of (s3 _ _ g2),fun p2 h2=>⟨AU (show 2<=1000 by decide),fun p3 h3=>?_⟩⟩⟩
 have s5:=s3.trans ((Same.upd (o:=.tup ys) h2).trans (Same.upd (o:=.tup [.ref p1,.ref p2]) h3))
 refine q _ _ _ (.inl ⟨nd,rfl⟩) (s1.trans (s2.trans s5)) ?_
 have R9:=Reps.same s5 _ _ r2
 have g1:=Same.upd (o:=.tup [.ref p1,.ref p2]) h3 _ _ (Same.upd (o:=.tup ys) h2 _ _ (AE (H:=upd H' lk (.lst ((List.range ts.length).map fun (k:Nat)=>V.int (k:Int)))) (a:=p1) (o:=.tup ((List.range ts.length).map fun (k:Nat)=>V.int (k:Int)))))
 have g3:=Same.upd (o:=.tup [.ref p1,.ref p2]) h3 _ _ (AE (H:=upd (upd H' lk (.lst ((List.range ts.length).map fun (k:Nat)=>V.int (k:Int)))) p1 (.tup ((List.range ts.length).map fun (k:Nat)=>V.int (k:Int)))) (a:=p2) (o:=.tup ys))
 refine A4 AE (AS (A4 g1 ?_) (AS (A4 g3 R9) Aa))
 have:=Ea (K:=K) (H:=upd (upd (upd (upd H' lk (.lst ((List.range ts.length).map fun (k:Nat)=>V.int (k:Int)))) p1 (.tup ((List.range ts.length).map fun (k:Nat)=>V.int (k:Int)))) p2 (.tup ys)) p3 (.tup [.ref p1,.ref p2])) ((List.range ts.length).map fun (k:Nat)=>(k:Int))
 rw [List.map_map,List.map_map] at this
 exact this
theorem De {α:Type} {f:α->Dv}:∀ {l:List α},(∀ a∈l,AY (f a)=true)->Ai (l.map f)=true
 | [],_=>by simp [Ai]
 | a::l,h=>by
  rw [List.map_cons,Ai,h a List.mem_cons_self,De fun b hb=>h b (List.mem_cons_of_mem _ hb)]
  rfl
theorem DZ {α:Type} {f:α->Dv} {c:Nat}:∀ {l:List α},(∀ a∈l,Ac (f a)<=c)->Ap (l.map f)<=l.length * (c+1)
 | [],_=>by simp [Ap]
 | a::l,h=>by
  rw [List.map_cons,Ap,List.length_cons,Nat.add_mul]
  have h1:=h a List.mem_cons_self
  have h2:=DZ (l:=l) fun b hb=>h b (List.mem_cons_of_mem _ hb)
  lia
theorem CG {α:Type} {f:α->Dv} {c:Nat}:∀ {l:List α},(∀ a∈l,AF (f a)<=c)->AR (l.map f)<=c
 | [],_=>by simp [AR]
 | a::l,h=>by
  rw [List.map_cons,AR]
  exact Nat.max_le.mpr ⟨h a List.mem_cons_self,CG fun b hb=>h b (List.mem_cons_of_mem _ hb)⟩
theorem Eg {k:Nat} (h:k<=16):DY (k:Int)=true:=by
 unfold DY
 refine decide_eq_true ?_
 have:k=0\/k≠0:=by lia
 rcases this with rfl | z
 ·decide
 ·exact Nat.lt_of_lt_of_le ((Nat.log2_lt (by lia)).mpr (show ((k:Nat):Int).natAbs < 2 ^ 5 by lia)) (by decide)
theorem FX {ts:List (List Bool)} {m:Nat} {D:Dv} (h:Cn ts m D) (t16:ts.length<=16) (m4:m<=4):AY D=true/\Ac D<=8000/\AF D<=60:=by
 have h16:2 ^ m<=16:=Nat.pow_le_pow_right (n:=2) (j:=4) (by decide) m4
 rcases h with ⟨_,rfl⟩ | ⟨i,j,a,rfl⟩
 ·unfold cgD
  have n1:Ai ((List.range ts.length).map fun (k:Nat)=>Dv.int k)=true:=De fun k hk=>by
   rw [AY];exact Eg (by have:=List.mem_range.mp hk;lia)
  have n2:Ai ((List.range (2 ^ m)).map fun p=>Dv.tup (ts.map fun b=>.bl (b.getD p false)))=true:=De fun k hk=>by
   rw [AY];exact De fun b _=>by rw [AY]
  have b1:Ap ((List.range ts.length).map fun (k:Nat)=>Dv.int k)<=ts.length * 1:=by
   have:=DZ (f:=fun (k:Nat)=>Dv.int k) (c:=0) (l:=List.range ts.length) fun k hk=>by simp [Ac]
   rwa [List.length_range] at this
  have b2:Ap ((List.range (2 ^ m)).map fun p=>Dv.tup (ts.map fun b=>.bl (b.getD p false)))<=2 ^ m * 17:=by
   have:=DZ (f:=fun p=>Dv.tup (ts.map fun b=>.bl (b.getD p false))) (c:=16) (l:=List.range (2 ^ m)) fun k hk=>by
    rw [Ac]
    have:=DZ (f:=fun b:List Bool=>Dv.bl (b.getD k false)) (c:=0) (l:=ts) fun b _=>by simp [Ac]
    lia
   rwa [List.length_range] at this
  have d1:AR ((List.range ts.length).map fun (k:Nat)=>Dv.int k)<=1:=CG fun k hk=>by simp [AF]
  have d2:AR ((List.range (2 ^ m)).map fun p=>Dv.tup (ts.map fun b=>.bl (b.getD p false)))<=2:=CG fun k hk=>by
   rw [AF]
   have:=CG (f:=fun b:List Bool=>Dv.bl (b.getD k false)) (c:=0) (l:=ts) fun b _=>by simp [AF]
   lia
  refine ⟨?_,?_,?_⟩
  ·rw [AY,Ai,Ai,Ai,AY,AY,n1,n2];rfl
  ·rw [Ac,Ap,Ap,Ap,Ac,Ac];lia
  ·rw [AF,AR,AR,AR,AF,AF];lia
 ·have h1:=a.lt
  have h2:=a.jl
  refine ⟨?_,?_,?_⟩
  ·rw [AY,Ai,Ai,Ai,Ai,AY,AY,AY,Eg (by lia),Eg (by lia)];decide
  ·have e:Ac (.tup [.str "alike",.int i,.int j])=(PySem.Str.ofString "alike").cps.size+3:=by simp [Ac,Ap]
   have:(PySem.Str.ofString "alike").cps.size=5:=by decide
   lia
  ·have e:AF (.tup [.str "alike",.int i,.int j])=1:=by simp [AF,AR]
   lia
theorem GT {H:Hp} {p:Addr} {xs:List V} {ds:List Dv} (h:SqL K H p xs) (r:Reps K H ds xs):Rep K H (.lst ds) (.ref p):=by unfold Rep;exact ⟨p,xs,rfl,h,r⟩
theorem Le (ts:List (List Bool)):AF (.lst (AG ts))<=60:=by
 rw [AF]
 have:AR (AG ts)<=1:=CG fun b _=>by
  rw [AF]
  have:=CG (f:=Dv.bl) (c:=0) (l:=b) fun c _=>by simp [AF]
  lia
 lia
noncomputable def CW (K:W.Frag):Sp:=fun vs H Q _=>match vs with
 | [.ref l]=>∃ (m:Nat) (ts:List (List Bool)) (xs:List V),H l=some (.lst xs)/\Reps K H (AG ts) xs/\1<=ts.length/\ts.length<=16/\m<=4/\(∀ b∈ts,b.length=2 ^ m)/\∀ H',Same H H'->Q (.bl true) H'
 | _=>False
theorem HX:AW (CW K):=fun vs H Q Q' E h q=>by
 unfold CW at *
 split at q
 ·revert q;repeat' first | exact h _ _ | exact BG h | exact out_mono h | exact outT_mono h | (with_reducible first | refine Exists.imp fun _=>?_ | refine And.imp_right ?_ | refine forall_imp fun _=>?_)
 ·exact q.elim
theorem HR:FnOk P w K mg base CX0 5 T.f_z12 T.d_z12 ["_law_tables"] (CW K):=by
 have G_z14:=Lo (P:=P) (w:=w) (base:=base) T;have G_z18:=Ia (P:=P) (w:=w) (base:=base) T
 refine T.F_z12.ok sc_z12 (fun vs H Q E h=>by unfold CW at h;split at h <;> first | rfl | exact h.elim) (fun cdv A outer s H vs Q E hr h=>?_)
 have hu:=Ax hr
 have mo1:AW (CD K):=LX
 have mo2:AW (CV K):=KB
 have hr_z14:=hr.mono (show 4<=_ by decide);have hr_z18:=hr.mono (show 1<=_ by decide)
 unfold CW at h
 split at h
 rotate_left
 ·exact h.elim
 rename_i l
 obtain ⟨m,ts,xs,hA,hR,t1,t16,m4,tb,q⟩:=h
 refine ⟨_,(@AH _ _ _ _ _ (@AX _ _ 1 _ _ _ _ sc_z12.nd rfl (by (first | exact Or.inl rfl | exact Or.inr rfl)) (Ay (EG (K:=K)) rfl T.z_list (by rfl) (AA (vv 0) AB)) (by rfl) (by (first | exact .inl rfl | exact .inr rfl | assumption))) (@AH _ _ _ _ _ (@Bw _ _ _ _ _ _ _ _ PassesOwn.never rfl (A7 rfl T.z_range (AA AC AB)) (Ah (i:=2) sc_z12.nd rfl (by (first | exact Or.inl rfl | exact Or.inr rfl))) (@AJ _ _ _ (@Ao _ _ _ _ _ _ _ _ (PW.pt (Cz (As (kNe (K:=K) hu) (AK (DE (K:=K) hr) rfl T.z_repr (by rfl) (AA (AO G_z14 hr_z14 rfl T.m_z14 T.F_z14.kp T.b_z14 .nil AN (AA (vv 1) AB)) AB)) (AK (DE (K:=K) hr) rfl T.z_repr (by rfl) (AA (AO G_z18 hr_z18 rfl T.m_z18 T.F_z18.kp T.b_z18 .nil AN (AA (vv 0) AB)) AB))) (Dm (As (kNe (K:=K) hu) (vv 1) (vv 0))))) (@AJ _ _ _ (@AQ _ _ _ _ BM)) Am)) (by intro _;rfl)) (@AJ _ _ _ (@AQ _ _ _ _ (Be (kEq (K:=K) hu) (AK (DE (K:=K) hr) rfl T.z_repr (by rfl) (AA (AO G_z14 hr_z14 rfl T.m_z14 T.F_z14.kp T.b_z14 .nil AN (AA (Ay (BD (K:=K)) rfl T.z_tuple (by rfl) (AA (vv 0) AB)) AB)) AB)) (AK (DE (K:=K) hr) rfl T.z_repr (by rfl) (AA (AO G_z18 hr_z18 rfl T.m_z18 T.F_z18.kp T.b_z18 .nil AN (AA (vv 0) AB)) AB))))))),?_⟩
 refine ⟨xs,.inl (.of hA),fun lh hlh=>?_⟩
 have s1:=Same.upd (o:=.lst xs) hlh
 have gh:=AE (H:=H) (a:=lh) (o:=.lst xs)
 generalize upd H lh (.lst xs)=H1 at *
 dsimp only [Ae]
 refine Ak (fun σ H'=>∃ z,σ=[some (.ref l),some (.ref lh),z]/\Same H1 H') ?_ ?_ (by (repeat' with_reducible first | exact Hb | apply KU | apply IX | apply Jj | apply Iy | apply Mb | apply JU | exact JR | exact KQ | apply LP | apply Ko | apply K9 | apply Ie | apply Lm | apply MG | exact Hu | exact LH | exact Mc | exact LK | exact Hz | exact Ma | exact Iv | exact Ks | exact Mf | exact Io | apply Hv | apply ME | apply ML | apply Im | exact Jn | apply HW | exact Lj | exact Lb | apply He | apply K8 | exact JD | apply J9 | exact HZ | exact Lv | exact HN | exact Hq | apply IA | exact Iq | apply Lw | apply Ix | apply KG | apply KL | exact JN | exact Hs | exact JG | apply Kl | apply JT | exact JF | exact II | exact LU | exact La | apply Jx | apply Ji | exact K0 | apply J3 | assumption))
 ·refine ⟨2,rfl,by decide,by decide,?_⟩
  refine CZ (fun i σ H'=>∃ z,σ=[some (.ref l),some (.ref lh),z]/\Same H1 H') ⟨_,rfl,Same.refl _⟩ ?_ (fun σ H' h=>h)
  rintro i σ H2 hi ⟨z,rfl,s2⟩
  have s12:=s1.trans s2
  refine ⟨m,ts,xs,.inl (.of (s2 _ _ gh)),Reps.same s12 _ _ hR,t1,t16,m4,tb,fun D v H3 hD s3 r3=>?_⟩
  obtain ⟨g1,g2,g3⟩:=FX hD t16 m4
  refine ⟨D,r3,g1,g2,g3,?_⟩
  have s13:=s12.trans s3
  refine ⟨m,ts,xs,.of (s13 _ _ hA),Reps.same s13 _ _ hR,t1,t16,m4,tb,fun D' v' H4 hD' s4 r4=>?_⟩
  obtain rfl:=Ga hD hD'
  refine ⟨D,r4,g1,g2,g3,?_⟩
  generalize Av D=sx
  have s14:=s13.trans s4
  show if (true ^^ (sx == sx))=true then _ else _
  refine Aj (fun e=>absurd e (by simp)) (fun _=>?_)
  refine ⟨_,_,GT (.of ((s2.trans (s3.trans s4)) _ _ gh)) (Reps.same s14 _ _ hR),GT (.of (s14 _ _ hA)) (Reps.same s14 _ _ hR),Le ts,?_⟩
  rw [C1]
  exact ⟨_,rfl,s2.trans (s3.trans s4)⟩
 rintro σ H2 ⟨z,rfl,s2⟩
 have s12:=s1.trans s2
 refine ⟨xs,.inl ⟨.of (s12 _ _ hA),fun pt hpt=>?_⟩⟩
 have s13:=s12.trans (Same.upd (o:=.tup xs) hpt)
 refine ⟨m,ts,xs,.inr (.of AE),Reps.same s13 _ _ hR,t1,t16,m4,tb,fun D v H3 hD s3 r3=>?_⟩
 obtain ⟨g1,g2,g3⟩:=FX hD t16 m4
 refine ⟨D,r3,g1,g2,g3,?_⟩
 have s14:=s13.trans s3
 refine ⟨m,ts,xs,.of (s14 _ _ hA),Reps.same s14 _ _ hR,t1,t16,m4,tb,fun D' v' H4 hD' s4 r4=>?_⟩
 obtain rfl:=Ga hD hD'
 refine ⟨D,r4,g1,g2,g3,?_⟩
 generalize Av D=sx
 show Q (.bl (false ^^ (sx == sx))) H4
 rw [beq_self_eq_true]
 exact q _ (s14.trans s4)
noncomputable def Au:Dv->Bool
 | .int _=>true
 | _=>false
noncomputable def Bc:Dv->Bool
 | .tup ds=>ds.length == 2
 | _=>false
noncomputable def hasSomeD (n:Nat):Dv->Bool
 | .tup ds=>decide (1<=ds.length) && decide (ds.length<=n)
 | _=>false
noncomputable def Bo:Dv->Bool
 | .bl _=>true
 | _=>false
noncomputable def BP (n:Nat):Dv->Bool
 | .tup ds=>ds.length == n && ds.all Bo
 | _=>false
noncomputable def CH:Dv->Bool
 | .tup [.tup ls,.tup rs]=>hasSomeD 16 (.tup ls) && hasSomeD 16 (.tup rs) && ls.all Au && rs.all (BP ls.length)
 | _=>false
noncomputable def BH (K:W.Frag) (f:Dv->Bool):Sp:=fun vs H Q _=>match vs with
 | [v]=>∃ d,Rep K H d v/\Q (.bl (f d)) H
 | _=>False
theorem E6 {f:Dv->Bool}:AW (BH K f):=fun vs H Q Q' E h q=>by
 unfold BH at *
 split at q
 ·revert q;repeat' first | exact h _ _ | exact BG h | exact out_mono h | exact outT_mono h | (with_reducible first | refine Exists.imp fun _=>?_ | refine And.imp_right ?_ | refine forall_imp fun _=>?_)
 ·exact q.elim
theorem LV:FnOk P w K mg base CX0 1 T.f_z19 T.d_z19 ["thing"] (BH K Au):=by
 refine T.F_z19.ok JV (fun vs H Q E h=>by unfold BH at h;split at h <;> first | rfl | exact h.elim) (fun cdv A outer s H vs Q E hr h=>?_)
 have hu:=Ax hr
 unfold BH at h
 split at h
 rotate_left
 ·exact h.elim
 rename_i v
 obtain ⟨d,hd,q⟩:=h
 refine ⟨_,(@AJ _ _ _ (@AQ _ _ _ _ (Ei (AK (B9 (K:=K)) rfl T.z_isinstance (by rfl) (AA (vv 0) (AA (Bm (v:=.ty "int") rfl T.z_int (by rfl) rfl) AB))) (Dx (G0 (AK (B9 (K:=K)) rfl T.z_isinstance (by rfl) (AA (vv 0) (AA (Bm (v:=.ty "bool") rfl T.z_bool (by rfl) rfl) AB)))))))),?_⟩
 refine ⟨by decide,d,hd,?_⟩
 refine Aj (fun e=>⟨by decide,d,hd,?_⟩) (fun e=>?_)
 ·have:Au d = !AT (tyD d) "bool":=by
   revert e
   cases d <;> intro e <;> first | rfl | (simp [AT,tyD] at e;done)
  rw [this] at q
  exact q
 ·have:Au d=false:=by
   revert e
   cases d <;> intro e <;> first | rfl | exact absurd (show AT _ _=true by simp [AT,tyD]) e
  rw [this] at q
  exact q
theorem LB:FnOk P w K mg base CX0 1 T.f_z20 T.d_z20 ["thing"] (BH K Bc):=by
 refine T.F_z20.ok MZ (fun vs H Q E h=>by unfold BH at h;split at h <;> first | rfl | exact h.elim) (fun cdv A outer s H vs Q E hr h=>?_)
 have hu:=Ax hr
 unfold BH at h
 split at h
 rotate_left
 ·exact h.elim
 rename_i v
 obtain ⟨d,hd,q⟩:=h
 refine ⟨_,(@AJ _ _ _ (@AQ _ _ _ _ (Ei (AK (B9 (K:=K)) rfl T.z_isinstance (by rfl) (AA (vv 0) (AA (Bm (v:=.ty "tuple") rfl T.z_tuple (by rfl) rfl) AB))) (Dx (Be (kEq (K:=K) hu) (AK (Ar (K:=K)) rfl T.z_len (by rfl) (AA (vv 0) AB)) AC))))),?_⟩
 refine ⟨by decide,d,hd,?_⟩
 refine Aj (fun e=>?_) (fun e=>?_)
 ·cases d with
  | tup ds =>
   obtain ⟨a,xs,rfl,hs,hx⟩:=CN hd
   refine ⟨ds.length,.inr ⟨xs,hs,hx.length⟩,?_⟩
   have:(false ^^ (((ds.length:Nat):Int) == 2))=(ds.length == 2):=by
    rw [Bool.false_xor,Bool.eq_iff_iff]
    simp only [beq_iff_eq]
    lia
   show Q (.bl (false ^^ (((ds.length:Nat):Int) == 2))) H
   rw [this]
   exact q
  | _=>simp [AT,tyD] at e
 ·have:Bc d=false:=by
   revert e
   cases d <;> intro e <;> first | rfl | exact absurd (show AT _ _=true by simp [AT,tyD]) e
  rw [this] at q
  exact q
noncomputable def CS (K:W.Frag) (f:Nat->Dv->Bool) (B:Nat):Sp:=fun vs H Q _=>match vs with
 | [.int k,v]=>∃ (n:Nat) (d:Dv),k=n/\n<=B/\Rep K H d v/\Q (.bl (f n d)) H
 | _=>False
theorem Ld {f:Nat->Dv->Bool} {B:Nat}:AW (CS K f B):=fun vs H Q Q' E h q=>by
 unfold CS at *
 split at q
 ·revert q;repeat' first | exact h _ _ | exact BG h | exact out_mono h | exact outT_mono h | (with_reducible first | refine Exists.imp fun _=>?_ | refine And.imp_right ?_ | refine forall_imp fun _=>?_)
 ·exact q.elim
theorem LN:FnOk P w K mg base CX0 1 T.f_z17 T.d_z17 ["most","thing"] (CS K hasSomeD 1000):=by
 refine T.F_z17.ok Jm (fun vs H Q E h=>by unfold CS at h;split at h <;> first | rfl | exact h.elim) (fun cdv A outer s H vs Q E hr h=>?_)
 have hu:=Ax hr
 unfold CS at h
 split at h
 rotate_left
 ·exact h.elim
 rename_i k v
 obtain ⟨n,d,e1,hn,hd,q⟩:=h
 subst e1
 refine ⟨_,(@AJ _ _ _ (@AQ _ _ _ _ (Ei (AK (B9 (K:=K)) rfl T.z_isinstance (by rfl) (AA (vv 1) (AA (Bm (v:=.ty "tuple") rfl T.z_tuple (by rfl) rfl) AB))) (Dx (MT HH HH AC (AK (Ar (K:=K)) rfl T.z_len (by rfl) (AA (vv 1) AB)) (vv 0)))))),?_⟩
 refine ⟨by decide,d,hd,?_⟩
 refine Aj (fun e=>?_) (fun e=>?_)
 ·cases d with
  | tup ds =>
   obtain ⟨a,xs,rfl,hs,hx⟩:=CN hd
   refine ⟨ds.length,.inr ⟨xs,hs,hx.length⟩,?_⟩
   refine Aj (fun e=>?_) (fun e=>?_)
   ·have h1:1<=ds.length:=by have:(1:Int)<=((ds.length:Nat):Int):=of_decide_eq_true e;lia
    have:decide (((ds.length:Nat):Int)<=(n:Int))=hasSomeD n (.tup ds):=by
     show _=(decide (1<=ds.length) && decide (ds.length<=n))
     rw [decide_eq_true h1,Bool.true_and,Bool.eq_iff_iff]
     simp only [decide_eq_true_eq]
     lia
    show Q (.bl (decide (((ds.length:Nat):Int)<=(n:Int)))) H
    rw [this]
    exact q
   ·have:hasSomeD n (.tup ds)=false:=by
     show (decide (1<=ds.length) && decide (ds.length<=n))=false
     rw [decide_eq_false (fun z=>e (decide_eq_true (show (1:Int)<=((ds.length:Nat):Int) by lia)))]
     rfl
    rw [this] at q
    exact q
  | _=>simp [AT,tyD] at e
 ·have:hasSomeD n d=false:=by
   revert e
   cases d <;> intro e <;> first | rfl | exact absurd (show AT _ _=true by simp [AT,tyD]) e
  rw [this] at q
  exact q
theorem D2 {f:Dv->Bool} {ds:List Dv} {i:Nat} {d:Dv} (h:ds[i]? = some d):(ds.take (i+1)).map f=(ds.take i).map f++[f d]:=by
 rw [List.take_add_one,h,List.map_append];rfl
theorem all_map {f:Dv->Bool} (ds:List Dv):(ds.map f).all id=ds.all f:=by rw [List.all_map];rfl
noncomputable def B7 (K:W.Frag):Sp:=fun vs H Q _=>match vs with
 | [.int k,v]=>∃ (n:Nat) (d:Dv),k=n/\n<=100/\Rep K H d v/\∀ H',Same H H'->Q (.bl (BP n d)) H'
 | _=>False
theorem MM:AW (B7 K):=fun vs H Q Q' E h q=>by
 unfold B7 at *
 split at q
 ·revert q;repeat' first | exact h _ _ | exact BG h | exact out_mono h | exact outT_mono h | (with_reducible first | refine Exists.imp fun _=>?_ | refine And.imp_right ?_ | refine forall_imp fun _=>?_)
 ·exact q.elim
theorem Jo:FnOk P w K mg base CX0 1 T.f_z22 T.d_z22 ["things","thing"] (B7 K):=by
 refine T.F_z22.ok Hd (fun vs H Q E h=>by unfold B7 at h;split at h <;> first | rfl | exact h.elim) (fun cdv A outer s H vs Q E hr h=>?_)
 have hu:=Ax hr
 unfold B7 at h
 split at h
 rotate_left
 ·exact h.elim
 rename_i k v
 obtain ⟨n,d,e1,hn,hd,q⟩:=h
 subst e1
 refine ⟨_,(@AH _ _ _ _ _ (@Ao _ _ _ _ _ _ _ _ (PW.pt (Cz (BY (BI (AK (B9 (K:=K)) rfl T.z_isinstance (by rfl) (AA (vv 1) (AA (Bm (v:=.ty "tuple") rfl T.z_tuple (by rfl) rfl) AB))))) (Dm (As (kNe (K:=K) hu) (AK (Ar (K:=K)) rfl T.z_len (by rfl) (AA (vv 1) AB)) (vv 0))))) (@AJ _ _ _ (@AQ _ _ _ _ BM)) Am) (@AJ _ _ _ (@AQ _ _ _ _ (AK (EN (K:=K) rfl) rfl T.z_all (by rfl) (AA (@BF _ _ _ _ _ _ _ ["answer"] 1 [] _ _ _ _ rfl (Cg (K:=K) (vv 1)) (by kernel_rfl) rfl rfl (by kernel_rfl) (fun c=>Ah (i:=0) (show (["answer"]:List Str).Nodup by decide +kernel) rfl (by (first | exact Or.inl rfl | exact Or.inr rfl))) (A5 (by decide)) (fun c=>A8) (fun c=>(AK (B9 (K:=K)) rfl T.z_isinstance (by rfl) (AA (vv 0) (AA (Bm (v:=.ty "bool") rfl T.z_bool (by rfl) rfl) AB)))) (by intro _;rfl)) AB))))),?_⟩
 have no:(∀ ds,d=.tup ds->ds.length≠n)->Q (.bl false) H:=fun hh=>by
  have:BP n d=false:=by
   cases d with
   | tup ds =>
    show (ds.length == n && ds.all Bo)=false
    rw [show (ds.length == n)=false by simpa using hh ds rfl]
    rfl
   | _=>rfl
  rw [this] at q
  exact q H (Same.refl _)
 by_cases ht:∃ ds,d=.tup ds
 ·obtain ⟨ds,rfl⟩:=ht
  obtain ⟨a,xs,rfl,hs,hx⟩:=CN hd
  have hxl:=hx.length
  refine Fl (!(ds.length == n)) (fun Q' q'=>?_) ?_
  ·refine ⟨by decide,_,hd,?_⟩
   show if (!AT "tuple" "tuple")=true then Q' true H else _
   rw [show (!AT "tuple" "tuple")=false by decide]
   refine ⟨ds.length,.inr ⟨xs,hs,hxl⟩,?_⟩
   have:(true ^^ (((ds.length:Nat):Int) == (n:Int))) = !(ds.length == n):=by
    rw [Bool.true_xor]
    congr 1
    rw [Bool.eq_iff_iff]
    simp only [beq_iff_eq]
    lia
   show Q' (true ^^ (((ds.length:Nat):Int) == (n:Int))) H
   rw [this]
   exact q'
  refine Aj (fun e=>?_) (fun e=>?_)
  ·refine no fun ds' e' z=>?_
   cases e'
   rw [z] at e
   simp at e
  dsimp only [Bb]
  have hl:ds.length=n:=by simpa using e
  refine .inr ⟨⟨_,hs⟩,?_⟩
  refine Dc (xs:=xs) (fun i ys H'=>H'=H/\ys=((ds.take i).map Bo).map V.bl) ⟨rfl,rfl⟩ (fun i ys H' _ ⟨e,_⟩=>by rw [e];exact hs) (fun i ys H' hi ⟨_,e⟩=>by
   rw [e,List.length_map,List.length_map,List.length_take];exact Aq (by lia)) ?_ ?_
  ·rintro i x ys H' hxi ⟨rfl,rfl⟩
   have hi:i < ds.length:=by
    have:=(List.getElem?_eq_some_iff.mp hxi).1
    lia
   obtain ⟨x',h1,h2⟩:=hx.get (List.getElem?_eq_getElem hi)
   rw [hxi] at h1;cases h1
   refine ⟨by decide,_,h2,rfl,?_⟩
   rw [D2 (List.getElem?_eq_getElem hi),List.map_append]
   have:AT (tyD ds[i]) "bool" = Bo ds[i]:=by cases ds[i] <;> simp [AT,tyD,Bo]
   rw [this]
   rfl
  ·rintro ys H' ⟨rfl,rfl⟩ l hl'
   rw [List.take_of_length_le (by lia)]
   refine ⟨_,.of AE,?_⟩
   rw [all_map]
   have:BP n (.tup ds)=ds.all Bo:=by show (ds.length == n && ds.all Bo)=_;rw [hl];simp
   rw [this] at q
   exact q _ (Same.upd hl')
 ·refine ⟨by decide,d,hd,?_⟩
  have e:(!AT (tyD d) "tuple")=true:=by
   cases d with
   | tup ds=>exact absurd ⟨ds,rfl⟩ ht
   | _=>simp [AT,tyD]
  show if (!AT (tyD d) "tuple")=true then _ else _
  rw [e]
  exact no fun ds e=>absurd ⟨ds,e⟩ ht
noncomputable def CK (K:W.Frag):Sp:=fun vs H Q _=>match vs with
 | [v]=>∃ d,Rep K H d v/\∀ H',Same H H'->Q (.bl (CH d)) H'
 | _=>False
theorem MN:AW (CK K):=fun vs H Q Q' E h q=>by
 unfold CK at *
 split at q
 ·revert q;repeat' first | exact h _ _ | exact BG h | exact out_mono h | exact outT_mono h | (with_reducible first | refine Exists.imp fun _=>?_ | refine And.imp_right ?_ | refine forall_imp fun _=>?_)
 ·exact q.elim
theorem LW:FnOk P w K mg base CX0 2 T.f_z21 T.d_z21 ["thing"] (CK K):=by
 have G_z20:=LB (P:=P) (w:=w) (base:=base) T;have G_z17:=LN (P:=P) (w:=w) (base:=base) T;have G_z22:=Jo (P:=P) (w:=w) (base:=base) T;have G_z19:=LV (P:=P) (w:=w) (base:=base) T
 refine T.F_z21.ok JI (fun vs H Q E h=>by unfold CK at h;split at h <;> first | rfl | exact h.elim) (fun cdv A outer s H vs Q E hr h=>?_)
 have hu:=Ax hr
 have mo1:AW (BH K Bc):=E6
 have mo2:AW (BH K Au):=E6
 have mo3:AW (CS K hasSomeD 1000):=Ld
 have mo4:AW (B7 K):=MM
 have hr_z20:=hr.mono (show 1<=_ by decide);have hr_z17:=hr.mono (show 1<=_ by decide);have hr_z22:=hr.mono (show 1<=_ by decide);have hr_z19:=hr.mono (show 1<=_ by decide)
 unfold CK at h
 split at h
 rotate_left
 ·exact h.elim
 rename_i v
 obtain ⟨d,hd,q⟩:=h
 refine ⟨_,(@AH _ _ _ _ _ (@Ao _ _ _ _ _ _ _ _ (PW.pt (Cz (BY (BI (AO G_z20 hr_z20 rfl T.m_z20 T.F_z20.kp T.b_z20 .nil AN (AA (vv 0) AB)))) (Cz (BY (BI (AO G_z17 hr_z17 rfl T.m_z17 T.F_z17.kp T.b_z17 .nil AN (AA (BK (v:=.int 16) rfl T.c_MOST_THINGS ⟨_,rfl⟩) (AA (kIx (K:=K) (vv 0) AC) AB))))) (Dm (BY (BI (AO G_z17 hr_z17 rfl T.m_z17 T.F_z17.kp T.b_z17 .nil AN (AA (BK (v:=.int 16) rfl T.c_MOST_ROWS ⟨_,rfl⟩) (AA (kIx (K:=K) (vv 0) AC) AB))))))))) (@AJ _ _ _ (@AQ _ _ _ _ BM)) Am) (@AH _ _ _ _ _ (@Ao _ _ _ _ _ _ _ _ (BY (BI (AK (EN (K:=K) rfl) rfl T.z_all (by rfl) (AA (@BF _ _ _ _ _ _ _ ["label"] 1 [] _ _ _ _ rfl (Cg (K:=K) (kIx (K:=K) (vv 0) AC)) (by kernel_rfl) rfl rfl (by kernel_rfl) (fun c=>Ah (i:=0) (show (["label"]:List Str).Nodup by decide +kernel) rfl (by (first | exact Or.inl rfl | exact Or.inr rfl))) (A5 (by decide)) (fun c=>A8) (fun c=>(AO G_z19 hr_z19 rfl T.m_z19 T.F_z19.kp T.b_z19 .nil AN (AA (vv 0) AB))) (by intro _;rfl)) AB)))) (@AJ _ _ _ (@AQ _ _ _ _ BM)) Am) (@AJ _ _ _ (@AQ _ _ _ _ (AK (EN (K:=K) rfl) rfl T.z_all (by rfl) (AA (BF (N':=["row","thing"]) (own:=1) (ix:=[0]) rfl (Cg (K:=K) (kIx (K:=K) (vv 0) AC)) (by kernel_rfl) rfl rfl (by kernel_rfl) (fun c=>Ah (i:=0) (show (["row","thing"]:List Str).Nodup by decide +kernel) rfl (by (first | exact Or.inl rfl | exact Or.inr rfl))) (A5 (by decide)) (fun c=>A8) (fun c=>(AO G_z22 hr_z22 rfl T.m_z22 T.F_z22.kp T.b_z22 .nil AN (AA (AK (Ar (K:=K)) rfl T.z_len (by rfl) (AA (kIx (K:=K) (vv 1) AC) AB)) (AA (vv 0) AB))))) AB)))))),?_⟩
 by_cases hp:∃ d1 d2,d=.tup [d1,d2]
 ·obtain ⟨d1,d2,rfl⟩:=hp
  obtain ⟨a,xs,rfl,hs,hx⟩:=CN hd
  obtain ⟨x1,r1,rfl,hx1,hx'⟩:=(show ∃ x r,xs=x::r/\Rep K H d1 x/\Reps K H [d2] r by unfold Reps at hx;exact hx)
  obtain ⟨x2,r2,rfl,hx2,hx''⟩:=(show ∃ x r,r1=x::r/\Rep K H d2 x/\Reps K H [] r by unfold Reps at hx';exact hx')
  obtain rfl:r2=[]:=by unfold Reps at hx'';exact hx''
  refine Ak (fun σ H'=>σ=[some (.ref a)]/\H=H'/\hasSomeD 16 d1=true/\hasSomeD 16 d2=true) ?_ ?_ (by (repeat' with_reducible first | exact Hb | apply KU | apply IX | apply Jj | apply Iy | apply Mb | apply JU | exact JR | exact KQ | apply LP | apply Ko | apply K9 | apply Ie | apply Lm | apply MG | exact Hu | exact LH | exact Mc | exact LK | exact Hz | exact Ma | exact Iv | exact Ks | exact Mf | exact Io | apply Hv | apply ME | apply ML | apply Im | exact Jn | apply HW | exact Lj | exact Lb | apply He | apply K8 | exact JD | apply J9 | exact HZ | exact Lv | exact HN | exact Hq | apply IA | exact Iq | apply Lw | apply Ix | apply KG | apply KL | exact JN | exact Hs | exact JG | apply Kl | apply JT | exact JF | exact II | exact LU | exact La | apply Jx | apply Ji | exact K0 | apply J3 | assumption))
  ·refine Fl (!hasSomeD 16 d1 || !hasSomeD 16 d2) (fun Q q=>?_) ?_
   ·refine ⟨_,hd,?_⟩
    show if (!Bc (.tup [d1,d2]))=true then Q true H else _
    rw [show (!Bc (.tup [d1,d2]))=false from rfl]
    refine ⟨_,x1,.inr hs,rfl,16,d1,rfl,by decide,hx1,?_⟩
    revert q
    cases hasSomeD 16 d1 with
    | false=>exact fun q=>q
    | true=>exact fun q=>⟨_,x2,.inr hs,rfl,16,d2,rfl,by decide,hx2,q⟩
   ·refine Aj (fun e=>?_) (fun e=>⟨rfl,rfl,?_⟩)
    ·have:CH (.tup [d1,d2])=false:=by
      cases d1 with
      | tup ls =>
       cases d2 with
       | tup rs =>
        show (hasSomeD 16 (.tup ls) && hasSomeD 16 (.tup rs) && ls.all Au && rs.all (BP ls.length))=false
        revert e
        cases hasSomeD 16 (.tup ls) <;> cases hasSomeD 16 (.tup rs) <;> intro e <;> first | rfl | exact absurd e (by decide)
       | _=>rfl
      | _=>rfl
     rw [this] at q
     exact q H (Same.refl _)
    ·revert e
     cases hasSomeD 16 d1 <;> cases hasSomeD 16 d2 <;> simp
  rintro σ _ ⟨rfl,rfl,e1,e2⟩
  cases d1 with
  | tup ls =>
   cases d2 with
   | tup rs =>
    obtain ⟨a1,ys1,rfl,hs1,hy1⟩:=CN hx1
    obtain ⟨a2,ys2,rfl,hs2,hy2⟩:=CN hx2
    have hl1:=hy1.length
    have hl2:=hy2.length
    have b1:ls.length<=16:=by replace e1:(decide (1<=ls.length) && decide (ls.length<=16))=true:=e1;rw [Bool.and_eq_true] at e1;exact of_decide_eq_true e1.2
    have b2:rs.length<=16:=by replace e2:(decide (1<=rs.length) && decide (rs.length<=16))=true:=e2;rw [Bool.and_eq_true] at e2;exact of_decide_eq_true e2.2
    have eg:CH (.tup [.tup ls,.tup rs])=(ls.all Au && rs.all (BP ls.length)):=by
     show (hasSomeD 16 (.tup ls) && hasSomeD 16 (.tup rs) && ls.all Au && rs.all (BP ls.length))=_
     rw [e1,e2];rfl
    rw [eg] at q
    refine ⟨_,.ref a1,.inr hs,rfl,.inr ⟨⟨_,hs1⟩,?_⟩⟩
    refine Dc (xs:=ys1) (fun i ys H'=>H'=H/\ys=((ls.take i).map Au).map V.bl) ⟨rfl,rfl⟩ (fun i ys H' _ ⟨e,_⟩=>by rw [e];exact hs1) (fun i ys H' hi ⟨_,e⟩=>by
     rw [e,List.length_map,List.length_map,List.length_take];exact Aq (by lia)) ?_ ?_
    ·rintro i x ys H' hxi ⟨rfl,rfl⟩
     have hi:i < ls.length:=by
      have:=(List.getElem?_eq_some_iff.mp hxi).1
      lia
     obtain ⟨x',h1,h2⟩:=hy1.get (List.getElem?_eq_getElem hi)
     rw [hxi] at h1;cases h1
     refine ⟨_,h2,rfl,?_⟩
     rw [D2 (List.getElem?_eq_getElem hi),List.map_append]
     rfl
    ·rintro ys H' ⟨rfl,rfl⟩ l hl'
     rw [List.take_of_length_le (by lia)]
     refine ⟨_,.of AE,?_⟩
     rw [all_map]
     have s1:=Same.upd (o:=.lst ((ls.map Au).map V.bl)) hl'
     generalize upd H' l (.lst ((ls.map Au).map V.bl))=H1 at *
     refine Aj (fun e=>?_) (fun e=>?_)
     ·have:ls.all Au=false:=by revert e;cases ls.all Au <;> simp
      rw [this] at q
      exact q _ s1
     have ew:ls.all Au=true:=by revert e;cases ls.all Au <;> simp
     rw [ew,Bool.true_and] at q
     dsimp only [Bb]
     refine ⟨_,.ref a2,.inr (s1.sqT hs),rfl,.inr ⟨⟨_,s1.sqT hs2⟩,?_⟩⟩
     refine Dc (xs:=ys2) (fun i ys H'=>Same H1 H'/\ys=((rs.take i).map (BP ls.length)).map V.bl) ⟨Same.refl _,rfl⟩ (fun i ys H' _ ⟨s,_⟩=>(s1.trans s).sqT hs2) (fun i ys H' hi ⟨_,e⟩=>by
      rw [e,List.length_map,List.length_map,List.length_take];exact Aq (by lia)) ?_ ?_
     ·rintro i x ys H2 hxi ⟨s2,rfl⟩
      have hi:i < rs.length:=by
       have:=(List.getElem?_eq_some_iff.mp hxi).1
       lia
      obtain ⟨x',h1,h2⟩:=hy2.get (List.getElem?_eq_getElem hi)
      rw [hxi] at h1;cases h1
      refine ⟨_,.ref a1,.inr ((s1.trans s2).sqT hs),rfl,ls.length,.inr ⟨_,(s1.trans s2).sqT hs1,hl1⟩,ls.length,_,rfl,by lia,Rep.same (s1.trans s2) _ _ h2,fun H3 s3=>⟨s2.trans s3,?_⟩⟩
      rw [D2 (List.getElem?_eq_getElem hi),List.map_append]
      rfl
     ·rintro ys H2 ⟨s2,rfl⟩ l2 hl2'
      rw [List.take_of_length_le (by lia)]
      refine ⟨_,.of AE,?_⟩
      rw [all_map]
      exact q _ (s1.trans (s2.trans (Same.upd hl2')))
   | _=>cases (show false=true from e2)
  | _=>cases (show false=true from e1)
 ·have e0:Bc d=false:=by
   cases d with
   | tup ds =>
    match ds,hp with
    | [],_=>rfl
    | [_],_=>rfl
    | [a,b],hp=>exact absurd ⟨a,b,rfl⟩ hp
    | a::b::c::r,_=>unfold Bc;simp
   | _=>rfl
  have e1:CH d=false:=by
   cases d with
   | tup ds =>
    match ds,hp with
    | [],_=>rfl
    | [x],_=>cases x <;> rfl
    | [a,b],hp=>exact absurd ⟨a,b,rfl⟩ hp
    | a::b::c::r,_=>cases a <;> cases b <;> rfl
   | _=>rfl
  refine ⟨_,hd,?_⟩
  rw [e0]
  rw [e1] at q
  exact q H (Same.refl _)
noncomputable def Ct (K:W.Frag):Sp:=fun vs H Q _=>match vs with
 | [.ref l]=>∃ (m:Nat) (ts:List (List Bool)) (xs:List V),(SqL K H l xs\/SqT K H l xs)/\Reps K H (AG ts) xs/\1<=ts.length/\ts.length<=16/\m<=4/\(∀ b∈ts,b.length=2 ^ m)/\ts.Nodup/\∀ v H',Same H H'->Rep K H' (cgD ts m) v->Q v H'
 | _=>False
theorem IW:AW (Ct K):=fun vs H Q Q' E h q=>by
 unfold Ct at *
 split at q
 ·revert q;repeat' first | exact h _ _ | exact BG h | exact out_mono h | exact outT_mono h | (with_reducible first | refine Exists.imp fun _=>?_ | refine And.imp_right ?_ | refine forall_imp fun _=>?_)
 ·exact q.elim
theorem Ig (vs:List V) (H:Hp) (Q:VK) (E:XK) (h:Ct K vs H Q E):Dh K T.C_Alike vs H Q fun _ _ _=>False:=by
 unfold Ct at h
 split at h
 ·obtain ⟨m,ts,xs,h1,h2,h3,h4,h5,h6,h7,q⟩:=h
  exact ⟨m,ts,xs,h1,h2,h3,h4,h5,h6,fun _=>q,fun i j a=>absurd (by rwa [List.take_of_length_le (Nat.le_refl _)]) (Cw a a.jl)⟩
 ·exact h.elim
theorem JA {ts:List (List Bool)} {m:Nat} (t1:1<=ts.length) (t16:ts.length<=16) (m1:1<=m) (m4:m<=4):CH (cgD ts m)=true:=by
 have h16:2 ^ m<=16:=Nat.pow_le_pow_right (n:=2) (j:=4) (by decide) m4
 have h0:=Nat.two_pow_pos m
 unfold cgD CH hasSomeD
 simp only [List.length_map,List.length_range,Bool.and_eq_true,decide_eq_true_eq,List.all_eq_true,List.mem_map]
 refine ⟨⟨⟨⟨t1,t16⟩,⟨h0,h16⟩⟩,?_⟩,?_⟩
 ·rintro d ⟨k,_,rfl⟩;rfl
 ·rintro d ⟨k,_,rfl⟩
  unfold BP
  simp only [List.length_map,beq_self_eq_true,Bool.true_and,List.all_eq_true,List.mem_map]
  rintro e ⟨b,_,rfl⟩;rfl
theorem GA {α β:Type} (f:α->β):∀ (l:List α) (k:Nat),(l.eraseIdx k).map f=(l.map f).eraseIdx k
 | [],k=>by simp
 | a::l,0=>by simp
 | a::l,k+1=>by simp [GA f l k]
theorem FC {H:Hp}:∀ {ds:List Dv} {xs:List V} (k:Nat),Reps K H ds xs->Reps K H (ds.eraseIdx k) (xs.eraseIdx k)
 | [],xs,k,h=>by unfold Reps at h;subst h;simpa using Aa
 | d::ds,xs,0,h=>by
  unfold Reps at h
  obtain ⟨x,r,rfl,_,h2⟩:=h
  simpa using h2
 | d::ds,xs,k+1,h=>by
  unfold Reps at h
  obtain ⟨x,r,rfl,h1,h2⟩:=h
  simpa using AS h1 (FC k h2)
structure Tl (K:W.Frag) (m:Nat) (t l:Addr) (N:Nat) (H:Hp) (ts:List (List Bool)) (xs:List V):Prop where
 fd:GFeed H t N
 ne:l≠t
 at_:H l=some (.lst xs)
 rp:Reps K H (AG ts) xs
 lo:2<=ts.length
 hi:ts.length<=10
 tb:∀ b∈ts,b.length=2 ^ m
theorem Tl.len {m:Nat} {t l:Addr} {N:Nat} {H:Hp} {ts:List (List Bool)} {xs:List V} (L:Tl K m t l N H ts xs):xs.length=ts.length:=by rw [<- L.rp.length,Cs]
theorem Tl.same {m:Nat} {t l:Addr} {N:Nat} {H H':Hp} {ts:List (List Bool)} {xs:List V} (L:Tl K m t l N H ts xs) (s:Same H H'):Tl K m t l N H' ts xs:=⟨L.fd.same s,L.ne,s _ _ L.at_,Reps.same s _ _ L.rp,L.lo,L.hi,L.tb⟩
theorem Tl.draw {m:Nat} {t l:Addr} {N:Nat} {H H':Hp} {ts:List (List Bool)} {xs:List V} (L:Tl K m t l N H ts xs) (F:GFeed H' t (N+1)) (f:∀ b,b≠t->H' b=H b):Tl K m t l (N+1) H' ts xs:=⟨F,L.ne,by rw [f l L.ne];exact L.at_,Reps.frm (A9 f) L.fd.lst _ _ (Bg _) L.rp,L.lo,L.hi,L.tb⟩
theorem Tl.put {m:Nat} {t l:Addr} {N:Nat} {H:Hp} {ts ts':List (List Bool)} {xs xs':List V} (L:Tl K m t l N H ts xs) (r:Reps K H (AG ts') xs') (lo:2<=ts'.length) (hi:ts'.length<=10) (tb:∀ b∈ts',b.length=2 ^ m):Tl K m t l N (upd H l (.lst xs')) ts' xs' :=
 ⟨L.fd.put L.ne L.at_ (GI L.rp),L.ne,AE,Reps.frm Frm.updT ⟨_,L.at_⟩ _ _ (Bg _) r,lo,hi,tb⟩
theorem J7:FnOk P w K mg base CX0 6 T.f_law T.d_law ["_law_script"] (Di K):=by
 have G_z15:=IV (P:=P) (w:=w) (base:=base) T;have G_z13:=Jt (P:=P) (w:=w) (base:=base) T;have G_z16:=Er (P:=P) (w:=w) (base:=base) T;have G_z12:=HR (P:=P) (w:=w) (base:=base) T;have G_z21:=LW (P:=P) (w:=w) (base:=base) T;have G_z10:=Ds (P:=P) (w:=w) (base:=base) T
 have G_z10:=(Ds (P:=P) (w:=w) (base:=base) T).calm (Ig T)
 refine T.F_law.ok sc_law (fun vs H Q E h=>by obtain ⟨a,ns,rfl,_⟩:=h;rfl) (fun cdv A outer s H vs Q E hr h=>?_)
 have hu:=Ax hr
 have mo1:AW (Bt K):=K5
 have mo2:AW (CW K):=HX
 have mo3:AW (Ct K):=IW
 have mo4:AW (CK K):=MN
 have hr_z15:=hr.mono (show 1<=_ by decide);have hr_z13:=hr.mono (show 3<=_ by decide);have hr_z16:=hr.mono (show 1<=_ by decide);have hr_z12:=hr.mono (show 5<=_ by decide);have hr_z21:=hr.mono (show 2<=_ by decide);have hr_z10:=hr.mono (show 3<=_ by decide)
 obtain ⟨a,ns,rfl,hsq,hlen,q⟩:=h
 refine ⟨_,(@AH _ _ _ _ _ (@AX _ _ 1 _ _ _ _ sc_law.nd rfl (by (first | exact Or.inl rfl | exact Or.inr rfl)) (AO G_z15 hr_z15 rfl T.m_z15 T.F_z15.kp T.b_z15 .nil AN (AA (vv 0) AB)) (by rfl) (by (first | exact .inl rfl | exact .inr rfl | assumption))) (@AH _ _ _ _ _ (@Bw _ _ _ _ _ _ _ _ PassesOwn.never rfl (A7 rfl T.z_range (AA AC AB)) (Ah (i:=2) sc_law.nd rfl (by (first | exact Or.inl rfl | exact Or.inr rfl))) (@AH _ _ _ _ _ (@AX _ _ 3 _ _ _ _ sc_law.nd rfl (by (first | exact Or.inl rfl | exact Or.inr rfl)) (AL (BS (K:=K)) AC (AO G_z16 hr_z16 rfl T.m_z16 T.F_z16.kp T.b_z16 .nil AN (AA (vv 1) (AA AC AB)))) (by rfl) (by (first | exact .inl rfl | exact .inr rfl | assumption))) (@AH _ _ _ _ _ (@AX _ _ 4 _ _ _ _ sc_law.nd rfl (by (first | exact Or.inl rfl | exact Or.inr rfl)) (AO G_z13 hr_z13 rfl T.m_z13 T.F_z13.kp T.b_z13 .nil AN (AA (vv 1) (AA (vv 3) (AA (AL (BS (K:=K)) AC (AO G_z16 hr_z16 rfl T.m_z16 T.F_z16.kp T.b_z16 .nil AN (AA (vv 1) (AA AC AB)))) AB)))) (by rfl) (by (first | exact .inl rfl | exact .inr rfl | assumption))) (@AH _ _ _ _ _ (@Ao _ _ _ _ _ _ _ _ (PW.pt (Cz (BY (BI (AO G_z12 hr_z12 rfl T.m_z12 T.F_z12.kp T.b_z12 .nil AN (AA (vv 4) AB)))) (Dm (As Mi (AO G_z21 hr_z21 rfl T.m_z21 T.F_z21.kp T.b_z21 .nil AN (AA (AO G_z10 hr_z10 rfl T.m_z10 T.F_z10.kp T.b_z10 .nil AN (AA (vv 4) AB)) AB)) BM)))) (@AJ _ _ _ (@AQ _ _ _ _ BM)) Am) (@AJ _ _ _ (@Bw _ _ _ _ _ _ _ _ PassesOwn.never rfl (A7 rfl T.z_range (AA AC AB)) (Ah (i:=5) sc_law.nd rfl (by (first | exact Or.inl rfl | exact Or.inr rfl))) (@AH _ _ _ _ _ (@Ao _ _ _ _ _ _ _ _ (As Hw (AK (Ar (K:=K)) rfl T.z_len (by rfl) (AA (vv 4) AB)) AC) (@AJ _ _ _ (@DW _ _ _ _ (IR (K:=K) (vv 4) (AA (AO G_z16 hr_z16 rfl T.m_z16 T.F_z16.kp T.b_z16 .nil AN (AA (vv 1) (AA AC AB))) AB)) (by rfl))) Am) (@AH _ _ _ _ _ (@DW _ _ _ _ (GN (K:=K) (vv 4) (AA (AO G_z16 hr_z16 rfl T.m_z16 T.F_z16.kp T.b_z16 .nil AN (AA (vv 1) (AA (AL (BS (K:=K)) (AK (Ar (K:=K)) rfl T.z_len (by rfl) (AA (vv 4) AB)) AC) AB))) (AA (kIx (K:=K) (vv 4) (AO G_z16 hr_z16 rfl T.m_z16 T.F_z16.kp T.b_z16 .nil AN (AA (vv 1) (AA (AK (Ar (K:=K)) rfl T.z_len (by rfl) (AA (vv 4) AB)) AB)))) AB))) (by rfl)) (@AJ _ _ _ (@Ao _ _ _ _ _ _ _ _ (BY (BI (AO G_z12 hr_z12 rfl T.m_z12 T.F_z12.kp T.b_z12 .nil AN (AA (vv 4) AB)))) (@AJ _ _ _ (@AQ _ _ _ _ BM)) Am)))) (by intro _;rfl)))))) (by intro _;rfl)) (@AJ _ _ _ (@AQ _ _ _ _ BM)))),?_⟩
 refine ⟨ns,hsq,fun t H1 ht S1 F1=>?_⟩
 dsimp only [Ae]
 refine ⟨6,rfl,by decide,by decide,?_⟩
 refine CZ (fun i σ H'=>∃ z2 z3 z4 z5:Option V,σ=[some (.ref a),some (.ref t),z2,z3,z4,z5]/\GFeed H' t (500 * i)) ⟨none,none,none,none,rfl,F1⟩ ?_ (fun σ H' _=>q H')
 rintro i σ H2 hi ⟨z2,z3,z4,z5,rfl,F2⟩
 have hi':i < 6:=hi
 refine ⟨_,F2,by lia,A0 (by decide) (by decide),fun d H3 d0 d1 F3 f3=>?_⟩
 obtain ⟨x,rfl⟩:=Int.eq_ofNat_of_zero_le d0
 have ex:(1:Int)+(x:Int)=((1+x:Nat):Int):=by lia
 dsimp only [Ae,CI]
 rw [ex]
 refine ⟨_,F3,by lia,A0 (by decide) (by decide),fun d2 H4 e0 e1 F4 f4=>?_⟩
 obtain ⟨y,rfl⟩:=Int.eq_ofNat_of_zero_le e0
 have ey:(2:Int)+(y:Int)=((2+y:Nat):Int):=by lia
 dsimp only [CI]
 rw [ey]
 refine ⟨1+x,2+y,_,F4,by lia,rfl,by lia,by lia,rfl,by lia,by lia,fun ts xs l H5 t2 tM tb nd hl gl R5 F5 f5=>?_⟩
 dsimp only [Ae]
 have lt:l≠t:=F4.neT hl
 have L5:Tl K (1+x) t l (500 * i+402) H5 ts xs:=⟨F5.mono (by lia),lt,gl,R5,t2,by lia,tb⟩
 refine Ak (fun σ H'=>σ=[some (.ref a),some (.ref t),some (.int (0+(i:Int))),some (.int ((1+x:Nat):Int)),some (.ref l),z5]/\Tl K (1+x) t l (500 * i+402) H' ts xs) ?_ ?_ (by (repeat' with_reducible first | exact Hb | apply KU | apply IX | apply Jj | apply Iy | apply Mb | apply JU | exact JR | exact KQ | apply LP | apply Ko | apply K9 | apply Ie | apply Lm | apply MG | exact Hu | exact LH | exact Mc | exact LK | exact Hz | exact Ma | exact Iv | exact Ks | exact Mf | exact Io | apply Hv | apply ME | apply ML | apply Im | exact Jn | apply HW | exact Lj | exact Lb | apply He | apply K8 | exact JD | apply J9 | exact HZ | exact Lv | exact HN | exact Hq | apply IA | exact Iq | apply Lw | apply Ix | apply KG | apply KL | exact JN | exact Hs | exact JG | apply Kl | apply JT | exact JF | exact II | exact LU | exact La | apply Jx | apply Ji | exact K0 | apply J3 | assumption))
 ·refine ⟨1+x,ts,xs,gl,R5,by lia,by lia,by lia,tb,fun H6 s6=>?_⟩
  have L6:=L5.same s6
  refine ⟨1+x,ts,xs,.inl (.of L6.at_),L6.rp,by lia,by lia,by lia,tb,nd,fun v H7 s7 r7=>⟨_,r7,fun H8 s8=>?_⟩⟩
  rw [JA (by lia) (by lia) (by lia) (by lia)]
  exact ⟨rfl,(L6.same s7).same s8⟩
 clear L5 gl R5 F5 f5 t2 tM tb nd
 rintro σ H6 ⟨rfl,L6⟩
 refine ⟨2,rfl,by decide,by decide,?_⟩
 refine CZ (fun j σ H'=>∃ (z5:Option V) (ts:List (List Bool)) (xs:List V),σ=[some (.ref a),some (.ref t),some (.int (0+(i:Int))),some (.int ((1+x:Nat):Int)),some (.ref l),z5]/\Tl K (1+x) t l (500 * i+402+3 * j) H' ts xs) ⟨z5,ts,xs,rfl,L6⟩ ?_ (fun σ H' ⟨z5,ts,xs,e,L⟩=>⟨_,_,_,_,e,L.fd.mono (by rw [show (2:Int).toNat=2 from rfl];lia)⟩)
 clear L6 ts xs
 rintro j σ H7 hj ⟨z5,ts,xs,rfl,L7⟩
 have hj:j < 2:=hj
 dsimp only [Ae]
 have hl7:=L7.len
 have h1:=L7.lo
 have h2:=L7.hi
 refine Ak (fun σ H'=>∃ (ts:List (List Bool)) (xs:List V),σ=[some (.ref a),some (.ref t),some (.int (0+(i:Int))),some (.int ((1+x:Nat):Int)),some (.ref l),some (.int (0+(j:Int)))]/\Tl K (1+x) t l (500 * i+402+3 * j+1) H' ts xs/\ts.length<=9) ?_ ?_ (by (repeat' with_reducible first | exact Hb | apply KU | apply IX | apply Jj | apply Iy | apply Mb | apply JU | exact JR | exact KQ | apply LP | apply Ko | apply K9 | apply Ie | apply Lm | apply MG | exact Hu | exact LH | exact Mc | exact LK | exact Hz | exact Ma | exact Iv | exact Ks | exact Mf | exact Io | apply Hv | apply ME | apply ML | apply Im | exact Jn | apply HW | exact Lj | exact Lb | apply He | apply K8 | exact JD | apply J9 | exact HZ | exact Lv | exact HN | exact Hq | apply IA | exact Iq | apply Lw | apply Ix | apply KG | apply KL | exact JN | exact Hs | exact JG | apply Kl | apply JT | exact JF | exact II | exact LU | exact La | apply Jx | apply Ji | exact K0 | apply J3 | assumption))
 ·refine ⟨_,.inl ⟨_,.of L7.at_,rfl⟩,?_⟩
  refine Aj (fun e=>?_) (fun e=>?_)
  ·have hg:9 < ts.length:=by have:=of_decide_eq_true e;lia
   refine ⟨.inl ⟨rfl,_,.of L7.at_⟩,_,L7.fd,by lia,A0 (by decide) (by decide),fun d H8 d0 d1 F8 f8=>?_⟩
   have L8:=L7.draw F8 f8
   have hd:d.toNat < xs.length:=by lia
   refine ⟨xs,xs[d.toNat],L8.at_,d0,by lia,List.getElem?_eq_getElem hd,?_⟩
   refine ⟨ts.eraseIdx d.toNat,_,rfl,L8.put ?_ ?_ ?_ ?_,?_⟩
   ·have:=FC d.toNat L8.rp
    unfold AG at this ⊢
    rwa [GA]
   ·rw [List.length_eraseIdx_of_lt (by lia)];lia
   ·rw [List.length_eraseIdx_of_lt (by lia)];lia
   ·exact fun b hb=>L8.tb b (List.mem_of_mem_eraseIdx hb)
   ·rw [List.length_eraseIdx_of_lt (by lia)];lia
  ·have hg:¬ 9 < ts.length:=fun z=>e (decide_eq_true (by lia))
   exact ⟨ts,xs,rfl,⟨L7.fd.mono (by lia),L7.ne,L7.at_,L7.rp,L7.lo,L7.hi,L7.tb⟩,by lia⟩
 clear L7 hl7 h1 h2 ts xs
 rintro σ H8 ⟨ts,xs,rfl,L8,t9⟩
 have hl8:=L8.len
 have h1:=L8.lo
 refine Ak (fun σ H'=>∃ (ts:List (List Bool)) (xs:List V),σ=[some (.ref a),some (.ref t),some (.int (0+(i:Int))),some (.int ((1+x:Nat):Int)),some (.ref l),some (.int (0+(j:Int)))]/\Tl K (1+x) t l (500 * i+402+3 * (j+1)) H' ts xs) ?_ ?_ (by (repeat' with_reducible first | exact Hb | apply KU | apply IX | apply Jj | apply Iy | apply Mb | apply JU | exact JR | exact KQ | apply LP | apply Ko | apply K9 | apply Ie | apply Lm | apply MG | exact Hu | exact LH | exact Mc | exact LK | exact Hz | exact Ma | exact Iv | exact Ks | exact Mf | exact Io | apply Hv | apply ME | apply ML | apply Im | exact Jn | apply HW | exact Lj | exact Lb | apply He | apply K8 | exact JD | apply J9 | exact HZ | exact Lv | exact HN | exact Hq | apply IA | exact Iq | apply Lw | apply Ix | apply KG | apply KL | exact JN | exact Hs | exact JG | apply Kl | apply JT | exact JF | exact II | exact LU | exact La | apply Jx | apply Ji | exact K0 | apply J3 | assumption))
 ·refine ⟨.inl ⟨rfl,_,.of L8.at_⟩,_,.inl ⟨_,.of L8.at_,rfl⟩,_,L8.fd,by lia,A0 (by lia) (Int.le_trans (show (xs.length:Int)+1<=11 by lia) (by decide)),fun d H9 d0 d1 F9 f9=>?_⟩
  have L9:=L8.draw F9 f9
  refine ⟨_,.inl ⟨_,.of L9.at_,rfl⟩,_,L9.fd,by lia,A0 (by lia) (Int.le_trans (show (xs.length:Int)<=11 by lia) (by decide)),fun e H10 e0 e1 F10 f10=>?_⟩
  have L10:=L9.draw F10 f10
  have he:e.toNat < xs.length:=by lia
  have ee:e=((e.toNat:Nat):Int):=by lia
  refine ⟨_,xs[e.toNat],.inl (.of L10.at_),BR ee (List.getElem?_eq_getElem he),?_⟩
  refine ⟨xs,L10.at_,d0,by lia,by lia,?_⟩
  obtain ⟨b,hb,rb⟩:=Bl L10.rp (List.getElem?_eq_getElem he)
  refine ⟨ts.take d.toNat++b::ts.drop d.toNat,xs.take d.toNat++xs[e.toNat]::xs.drop d.toNat,rfl,?_⟩
  have L11:Tl K (1+x) t l (500 * i+402+3 * j+1+1+1) (upd H10 l (.lst (xs.take d.toNat++xs[e.toNat]::xs.drop d.toNat))) (ts.take d.toNat++b::ts.drop d.toNat) (xs.take d.toNat++xs[e.toNat]::xs.drop d.toNat):=by
   refine L10.put ?_ ?_ ?_ ?_
   ·rw [FN]
    exact Reps.append (Dj _ L10.rp) (Reps.append (AS rb Aa) (EL _ L10.rp))
   ·rw [List.length_append,List.length_cons,List.length_take,List.length_drop];lia
   ·rw [List.length_append,List.length_cons,List.length_take,List.length_drop];lia
   ·intro c hc
    rcases List.mem_append.mp hc with h | h
    ·exact L10.tb c (List.mem_of_mem_take h)
    ·rcases List.mem_cons.mp h with rfl | h
     ·exact L10.tb _ (List.mem_of_getElem? hb)
     ·exact L10.tb c (List.mem_of_mem_drop h)
  rw [show 500 * i+402+3 * (j+1)=500 * i+402+3 * j+1+1+1 by lia]
  exact L11
 clear L8 hl8 h1 t9 ts xs
 rintro σ H9 ⟨ts,xs,rfl,L9⟩
 have h1:=L9.lo
 have h2:=L9.hi
 refine ⟨1+x,ts,xs,L9.at_,L9.rp,by lia,by lia,by lia,L9.tb,fun H10 s10=>?_⟩
 exact ⟨_,ts,xs,rfl,L9.same s10⟩
end
theorem all_mk {l:W.OpenLaw} {w:World} {K:W.Frag} {h:Heap} {mg:Str->Option Value} {fa:Addr} (X:K.In h) (G:h.Ns mainGlobals mg) (hfa:mg "law" = some (.ref fa))
 {C_Alike:Addr}
 {C_FlipError:Addr}
 {C_NoEnd:Addr}
 {C_NoName:Addr}
 {C_NoRow:Addr}
 {C_NoTable:Addr}
 {C_NoText:Addr}
 {C_NoThing:Addr}
 {f0 f1 f2 f3 f4 f5 f6 f7 f8 f9 f10 f11 f12 f13 f14:Addr} {oc0 kV0 dc0 pm0 cd0 ct0 oc1 kV1 dc1 pm1 cd1 ct1 oc2 kV2 dc2 pm2 cd2 ct2 oc3 kV3 dc3 pm3 cd3 ct3 oc4 kV4 dc4 pm4 cd4 ct4 oc5 kV5 dc5 pm5 cd5 ct5 oc6 kV6 dc6 pm6 cd6 ct6 oc7 kV7 dc7 pm7 cd7 ct7 oc8 kV8 dc8 pm8 cd8 ct8 oc9 kV9 dc9 pm9 cd9 ct9 oc10 kV10 dc10 pm10 cd10 ct10 oc11 kV11 dc11 pm11 cd11 ct11 oc12 kV12 dc12 pm12 cd12 ct12 oc13 kV13 dc13 pm13 cd13 ct13 oc14 kV14 dc14 pm14 cd14 ct14:Value} {od0 an0 od1 an1 od2 an2 od3 an3 od4 an4 od5 an5 od6 an6 od7 an7 od8 an8 od9 an9 od10 an10 od11 an11 od12 an12 od13 an13 od14 an14:Option Addr} {sl0 sl1 sl2 sl3 sl4 sl5 sl6 sl7 sl8 sl9 sl10 sl11 sl12 sl13 sl14:Array (Option Value)}
 {t_MOST_THINGS:Tok}
 {t_MOST_ROWS:Tok}
 (aC_Alike:W.nsIn K mainGlobals "Alike" = some (some (.ref C_Alike)))
 (aC_FlipError:W.nsIn K mainGlobals "FlipError" = some (some (.ref C_FlipError)))
 (aC_NoEnd:W.nsIn K mainGlobals "NoEnd" = some (some (.ref C_NoEnd)))
 (aC_NoName:W.nsIn K mainGlobals "NoName" = some (some (.ref C_NoName)))
 (aC_NoRow:W.nsIn K mainGlobals "NoRow" = some (some (.ref C_NoRow)))
 (aC_NoTable:W.nsIn K mainGlobals "NoTable" = some (some (.ref C_NoTable)))
 (aC_NoText:W.nsIn K mainGlobals "NoText" = some (some (.ref C_NoText)))
 (aC_NoThing:W.nsIn K mainGlobals "NoThing" = some (some (.ref C_NoThing)))
 (x1_Alike:W.findIn K (.ref C_Alike) "__getattribute__" = some (some (.builtin "BaseException.__getattribute__")))
 (x2_Alike:W.findIn K (.ref C_Alike) "__getattr__" = some none)
 (x3_Alike:W.mroIn K C_Alike (.type "BaseException")=some true)
 (x4_Alike:W.mroIn K C_Alike (.type "object")=some true)
 (x5_Alike:W.findIn K (.ref C_Alike) "__class__" = some (some (.builtin "object.__class__")))
 (x6_Alike:W.specialIn K (.builtin "object.__class__") "__get__" = some (some (.builtin "getset_descriptor.__get__")))
 (x7_Alike:W.takesIn K (.builtin "object.__class__")=some true)
 (xs_Alike:W.findIn K (.ref C_Alike) "__setattr__" = some (some (.builtin "object.__setattr__")))
 (hd_Alike:W.hasDictIn K C_Alike=true)
 (na_one_Alike:W.findIn K (.ref C_Alike) "one" = some none)
 (na_other_Alike:W.findIn K (.ref C_Alike) "other" = some none)
 (xm_Alike_FlipError:W.exmOne K (.ref C_Alike) (.ref C_FlipError)=some true)
 (kk_Alike_Alike:W.kitOne K (.ref C_Alike) (.ref C_Alike)=some true)
 (kk_Alike_NoEnd:W.kitOne K (.ref C_Alike) (.ref C_NoEnd)=some false)
 (kk_Alike_NoName:W.kitOne K (.ref C_Alike) (.ref C_NoName)=some false)
 (kk_Alike_NoRow:W.kitOne K (.ref C_Alike) (.ref C_NoRow)=some false)
 (kk_Alike_NoTable:W.kitOne K (.ref C_Alike) (.ref C_NoTable)=some false)
 (kk_Alike_NoText:W.kitOne K (.ref C_Alike) (.ref C_NoText)=some false)
 (kk_Alike_NoThing:W.kitOne K (.ref C_Alike) (.ref C_NoThing)=some false)
 (kk_Alike_ValueError:W.kitOne K (.ref C_Alike) (.type "ValueError")=some true)
 (a0:W.findIn K (.ref C_Alike) "__init__" = some (some (.ref f0)))
 (i0:W.isFn K (.ref f0)=true)
 (l0:K.lookup f0=some ⟨oc0,od0,.func (W.fnOf "__init__" "Alike.__init__" (Ab By) (AV By) (AI By) .none kV0 dc0 pm0 an0 cd0 ct0),sl0⟩)
 (c0:W.codeIn K cd0 "Alike.__init__" = true)
 (k0:W.keepIn K (.ref f0)=true)
 (a1:W.nsIn K mainGlobals "is_whole" = some (some (.ref f1)))
 (l1:K.lookup f1=some ⟨oc1,od1,.func (W.fnOf "is_whole" "is_whole" (Ab Bx) (AV Bx) (AI Bx) .none kV1 dc1 pm1 an1 cd1 ct1),sl1⟩)
 (c1:W.codeIn K cd1 "is_whole" = true)
 (k1:W.keepIn K (.ref f1)=true)
 (a2:W.nsIn K mainGlobals "is_pair" = some (some (.ref f2)))
 (l2:K.lookup f2=some ⟨oc2,od2,.func (W.fnOf "is_pair" "is_pair" (Ab B4) (AV B4) (AI B4) .none kV2 dc2 pm2 an2 cd2 ct2),sl2⟩)
 (c2:W.codeIn K cd2 "is_pair" = true)
 (k2:W.keepIn K (.ref f2)=true)
 (a3:W.nsIn K mainGlobals "is_game" = some (some (.ref f3)))
 (l3:K.lookup f3=some ⟨oc3,od3,.func (W.fnOf "is_game" "is_game" (Ab Bz) (AV Bz) (AI Bz) .none kV3 dc3 pm3 an3 cd3 ct3),sl3⟩)
 (c3:W.codeIn K cd3 "is_game" = true)
 (k3:W.keepIn K (.ref f3)=true)
 (a4:W.nsIn K mainGlobals "has_some" = some (some (.ref f4)))
 (l4:K.lookup f4=some ⟨oc4,od4,.func (W.fnOf "has_some" "has_some" (Ab CJ) (AV CJ) (AI CJ) .none kV4 dc4 pm4 an4 cd4 ct4),sl4⟩)
 (c4:W.codeIn K cd4 "has_some" = true)
 (k4:W.keepIn K (.ref f4)=true)
 (a5:W.nsIn K mainGlobals "is_row" = some (some (.ref f5)))
 (l5:K.lookup f5=some ⟨oc5,od5,.func (W.fnOf "is_row" "is_row" (Ab Bv) (AV Bv) (AI Bv) .none kV5 dc5 pm5 an5 cd5 ct5),sl5⟩)
 (c5:W.codeIn K cd5 "is_row" = true)
 (k5:W.keepIn K (.ref f5)=true)
 (a6:W.nsIn K mainGlobals "class_game" = some (some (.ref f6)))
 (l6:K.lookup f6=some ⟨oc6,od6,.func (W.fnOf "class_game" "class_game" (Ab CA) (AV CA) (AI CA) .none kV6 dc6 pm6 an6 cd6 ct6),sl6⟩)
 (c6:W.codeIn K cd6 "class_game" = true)
 (k6:W.keepIn K (.ref f6)=true)
 (a7:W.nsIn K mainGlobals "_law_feed" = some (some (.ref f7)))
 (l7:K.lookup f7=some ⟨oc7,od7,.func (W.fnOf "_law_feed" "_law_feed" (Ab CL) (AV CL) (AI CL) .none kV7 dc7 pm7 an7 cd7 ct7),sl7⟩)
 (c7:W.codeIn K cd7 "_law_feed" = true)
 (k7:W.keepIn K (.ref f7)=true)
 (a8:W.nsIn K mainGlobals "_law_draw" = some (some (.ref f8)))
 (l8:K.lookup f8=some ⟨oc8,od8,.func (W.fnOf "_law_draw" "_law_draw" (Ab CU) (AV CU) (AI CU) .none kV8 dc8 pm8 an8 cd8 ct8),sl8⟩)
 (c8:W.codeIn K cd8 "_law_draw" = true)
 (k8:W.keepIn K (.ref f8)=true)
 (a9:W.nsIn K mainGlobals "_law_table" = some (some (.ref f9)))
 (l9:K.lookup f9=some ⟨oc9,od9,.func (W.fnOf "_law_table" "_law_table" (Ab B0) (AV B0) (AI B0) .none kV9 dc9 pm9 an9 cd9 ct9),sl9⟩)
 (c9:W.codeIn K cd9 "_law_table" = true)
 (k9:W.keepIn K (.ref f9)=true)
 (a10:W.nsIn K mainGlobals "_law_class" = some (some (.ref f10)))
 (l10:K.lookup f10=some ⟨oc10,od10,.func (W.fnOf "_law_class" "_law_class" (Ab B2) (AV B2) (AI B2) .none kV10 dc10 pm10 an10 cd10 ct10),sl10⟩)
 (c10:W.codeIn K cd10 "_law_class" = true)
 (k10:W.keepIn K (.ref f10)=true)
 (a11:W.nsIn K mainGlobals "_law_said" = some (some (.ref f11)))
 (l11:K.lookup f11=some ⟨oc11,od11,.func (W.fnOf "_law_said" "_law_said" (Ab B1) (AV B1) (AI B1) .none kV11 dc11 pm11 an11 cd11 ct11),sl11⟩)
 (c11:W.codeIn K cd11 "_law_said" = true)
 (k11:W.keepIn K (.ref f11)=true)
 (a12:W.nsIn K mainGlobals "_law_due" = some (some (.ref f12)))
 (l12:K.lookup f12=some ⟨oc12,od12,.func (W.fnOf "_law_due" "_law_due" (Ab CO) (AV CO) (AI CO) .none kV12 dc12 pm12 an12 cd12 ct12),sl12⟩)
 (c12:W.codeIn K cd12 "_law_due" = true)
 (k12:W.keepIn K (.ref f12)=true)
 (a13:W.nsIn K mainGlobals "_law_right" = some (some (.ref f13)))
 (l13:K.lookup f13=some ⟨oc13,od13,.func (W.fnOf "_law_right" "_law_right" (Ab B5) (AV B5) (AI B5) .none kV13 dc13 pm13 an13 cd13 ct13),sl13⟩)
 (c13:W.codeIn K cd13 "_law_right" = true)
 (k13:W.keepIn K (.ref f13)=true)
 (a14:W.nsIn K mainGlobals "law" = some (some (.ref f14)))
 (l14:K.lookup f14=some ⟨oc14,od14,.func (W.fnOf "law" "law" (Ab BU) (AV BU) (AI BU) .none kV14 dc14 pm14 an14 cd14 ct14),sl14⟩)
 (c14:W.codeIn K cd14 "law" = true)
 (k14:W.keepIn K (.ref f14)=true)
 (z_ValueError:W.nsIn K mainGlobals "ValueError" = some none)
 (z_all:W.nsIn K mainGlobals "all" = some none)
 (z_bool:W.nsIn K mainGlobals "bool" = some none)
 (z_enumerate:W.nsIn K mainGlobals "enumerate" = some none)
 (z_int:W.nsIn K mainGlobals "int" = some none)
 (z_isinstance:W.nsIn K mainGlobals "isinstance" = some none)
 (z_len:W.nsIn K mainGlobals "len" = some none)
 (z_list:W.nsIn K mainGlobals "list" = some none)
 (z_range:W.nsIn K mainGlobals "range" = some none)
 (z_repr:W.nsIn K mainGlobals "repr" = some none)
 (z_tuple:W.nsIn K mainGlobals "tuple" = some none)
 (c_MOST_THINGS:W.nsIn K mainGlobals "MOST_THINGS" = some (some (.int 16 t_MOST_THINGS)))
 (c_MOST_ROWS:W.nsIn K mainGlobals "MOST_ROWS" = some (some (.int 16 t_MOST_ROWS)))
 (xj_Alike:CM K C_Alike f0=true) :
 ∃ fd:FuncData,(∀ (s:Shared) (v:Value),BindsTo s fd ⟨[v],[]⟩ [("_law_script",v)])/\∀ base:Heap,K.In base->base.Ns mainGlobals mg->FnOk l.prog w K mg base CX0 6 fa fd ["_law_script"] (Di K):=by
 have e:=hfa.symm.trans (W.mg_of X G a14)
 cases e
 have F0:=At (st:=By) l0 c0 k0
 have b0:=F0.binds (ps:=["self","one","other"]) fun _ _ _ _ _ _=>L2.on3 (fun _ _ _=>rfl)
 have F1:=At (st:=Bx) l1 c1 k1
 have b1:=F1.binds (ps:=["thing"]) fun _ _ _ _ _ _=>L2.on1 (fun _=>rfl)
 have F2:=At (st:=B4) l2 c2 k2
 have b2:=F2.binds (ps:=["thing"]) fun _ _ _ _ _ _=>L2.on1 (fun _=>rfl)
 have F3:=At (st:=Bz) l3 c3 k3
 have b3:=F3.binds (ps:=["thing"]) fun _ _ _ _ _ _=>L2.on1 (fun _=>rfl)
 have F4:=At (st:=CJ) l4 c4 k4
 have b4:=F4.binds (ps:=["most","thing"]) fun _ _ _ _ _ _=>L2.on2 (fun _ _=>rfl)
 have F5:=At (st:=Bv) l5 c5 k5
 have b5:=F5.binds (ps:=["things","thing"]) fun _ _ _ _ _ _=>L2.on2 (fun _ _=>rfl)
 have F6:=At (st:=CA) l6 c6 k6
 have b6:=F6.binds (ps:=["tables"]) fun _ _ _ _ _ _=>L2.on1 (fun _=>rfl)
 have F7:=At (st:=CL) l7 c7 k7
 have b7:=F7.binds (ps:=["_law_script"]) fun _ _ _ _ _ _=>L2.on1 (fun _=>rfl)
 have F8:=At (st:=CU) l8 c8 k8
 have b8:=F8.binds (ps:=["_law_feed_here","_law_many"]) fun _ _ _ _ _ _=>L2.on2 (fun _ _=>rfl)
 have F9:=At (st:=B0) l9 c9 k9
 have b9:=F9.binds (ps:=["_law_feed_here","_law_n"]) fun _ _ _ _ _ _=>L2.on2 (fun _ _=>rfl)
 have F10:=At (st:=B2) l10 c10 k10
 have b10:=F10.binds (ps:=["_law_feed_here","_law_n","_law_many"]) fun _ _ _ _ _ _=>L2.on3 (fun _ _ _=>rfl)
 have F11:=At (st:=B1) l11 c11 k11
 have b11:=F11.binds (ps:=["_law_tables"]) fun _ _ _ _ _ _=>L2.on1 (fun _=>rfl)
 have F12:=At (st:=CO) l12 c12 k12
 have b12:=F12.binds (ps:=["_law_tables"]) fun _ _ _ _ _ _=>L2.on1 (fun _=>rfl)
 have F13:=At (st:=B5) l13 c13 k13
 have b13:=F13.binds (ps:=["_law_tables"]) fun _ _ _ _ _ _=>L2.on1 (fun _=>rfl)
 have F14:=At (st:=BU) l14 c14 k14
 have b14:=F14.binds (ps:=["_law_script"]) fun _ _ _ _ _ _=>L2.on1 (fun _=>rfl)
 let T:Txt K mg:={ C_Alike:=C_Alike,mC_Alike:=W.mg_of X G aC_Alike,C_FlipError:=C_FlipError,mC_FlipError:=W.mg_of X G aC_FlipError,C_NoEnd:=C_NoEnd,mC_NoEnd:=W.mg_of X G aC_NoEnd,C_NoName:=C_NoName,mC_NoName:=W.mg_of X G aC_NoName,C_NoRow:=C_NoRow,mC_NoRow:=W.mg_of X G aC_NoRow,C_NoTable:=C_NoTable,mC_NoTable:=W.mg_of X G aC_NoTable,C_NoText:=C_NoText,mC_NoText:=W.mg_of X G aC_NoText,C_NoThing:=C_NoThing,mC_NoThing:=W.mg_of X G aC_NoThing,xc_Alike:=⟨x1_Alike,x2_Alike,x3_Alike,x4_Alike,x5_Alike,x6_Alike,x7_Alike⟩,hd_Alike:=hd_Alike,na_Alike_one:=na_one_Alike,na_Alike_other:=na_other_Alike,xm_Alike_FlipError:=xm_Alike_FlipError,kk_Alike_Alike:=kk_Alike_Alike,kk_Alike_NoEnd:=kk_Alike_NoEnd,kk_Alike_NoName:=kk_Alike_NoName,kk_Alike_NoRow:=kk_Alike_NoRow,kk_Alike_NoTable:=kk_Alike_NoTable,kk_Alike_NoText:=kk_Alike_NoText,kk_Alike_NoThing:=kk_Alike_NoThing,kk_Alike_ValueError:=kk_Alike_ValueError,f_z0:=f0,d_z0:=_,F_z0:=F0,b_z0:=b0,me_z0:=⟨a0,i0,k0⟩,xI_Alike:=⟨xj_Alike,⟨x1_Alike,x2_Alike,x3_Alike,x4_Alike,x5_Alike,x6_Alike,x7_Alike⟩,xs_Alike,i0⟩,f_z19:=f1,d_z19:=_,F_z19:=F1,b_z19:=b1,m_z19:=W.mg_of X G a1,f_z20:=f2,d_z20:=_,F_z20:=F2,b_z20:=b2,m_z20:=W.mg_of X G a2,f_z21:=f3,d_z21:=_,F_z21:=F3,b_z21:=b3,m_z21:=W.mg_of X G a3,f_z17:=f4,d_z17:=_,F_z17:=F4,b_z17:=b4,m_z17:=W.mg_of X G a4,f_z22:=f5,d_z22:=_,F_z22:=F5,b_z22:=b5,m_z22:=W.mg_of X G a5,f_z10:=f6,d_z10:=_,F_z10:=F6,b_z10:=b6,m_z10:=W.mg_of X G a6,f_z15:=f7,d_z15:=_,F_z15:=F7,b_z15:=b7,m_z15:=W.mg_of X G a7,f_z16:=f8,d_z16:=_,F_z16:=F8,b_z16:=b8,m_z16:=W.mg_of X G a8,f_z11:=f9,d_z11:=_,F_z11:=F9,b_z11:=b9,m_z11:=W.mg_of X G a9,f_z13:=f10,d_z13:=_,F_z13:=F10,b_z13:=b10,m_z13:=W.mg_of X G a10,f_z14:=f11,d_z14:=_,F_z14:=F11,b_z14:=b11,m_z14:=W.mg_of X G a11,f_z18:=f12,d_z18:=_,F_z18:=F12,b_z18:=b12,m_z18:=W.mg_of X G a12,f_z12:=f13,d_z12:=_,F_z12:=F13,b_z12:=b13,m_z12:=W.mg_of X G a13,f_law:=fa,d_law:=_,F_law:=F14,b_law:=b14,m_law:=W.mg_of X G a14,z_ValueError:=W.mg_none_of X G z_ValueError,z_all:=W.mg_none_of X G z_all,z_bool:=W.mg_none_of X G z_bool,z_enumerate:=W.mg_none_of X G z_enumerate,z_int:=W.mg_none_of X G z_int,z_isinstance:=W.mg_none_of X G z_isinstance,z_len:=W.mg_none_of X G z_len,z_list:=W.mg_none_of X G z_list,z_range:=W.mg_none_of X G z_range,z_repr:=W.mg_none_of X G z_repr,z_tuple:=W.mg_none_of X G z_tuple,t_MOST_THINGS:=t_MOST_THINGS,c_MOST_THINGS:=W.mg_of X G c_MOST_THINGS,t_MOST_ROWS:=t_MOST_ROWS,c_MOST_ROWS:=W.mg_of X G c_MOST_ROWS }
 exact ⟨W.fnOf "law" "law" (Ab BU) (AV BU) (AI BU) .none kV14 dc14 pm14 an14 cd14 ct14,fun s v=>.of_eq rfl,fun base _ _=>J7 T⟩
theorem walk {l:W.OpenLaw} {q:Program} {loose:List Str} {XP:(Str->Option Value)->Heap->Prop} {YP:World->Heap->Prop} {d:DefRec} {K:Params->W.Frag} (hn:l.most=some 63) (hdf:d.params.defaults=[])
 (hY:∀ (w:World) (h:Heap),YP w h->(K w.params).In h)
 (F:∀ (w:World) (mg:Str->Option Value) (fa:Addr) (h:Heap),(K w.params).In h->h.Ns mainGlobals mg->mg d.name=some (.ref fa) ->
   ∃ fd:FuncData,(∀ (s:Shared) (u:Value),BindsTo s fd ⟨[u],[]⟩ [("_law_script",u)])/\∀ base:Heap,(K w.params).In base->base.Ns mainGlobals mg->FnOk l.prog w (K w.params) mg base CX0 6 fa fd ["_law_script"] (Di (K w.params))) :
 W.WalkO q loose XP YP l.row.toRowW d [] (fun f vs=>PySem.call f vs) :=
 L2.walk_of (n:=63) (k:=6) (x:="_law_script") (CX:=fun _=>CX0) (sp:=fun w=>Di (K w.params)) hn (by decide) hdf ⟨rfl,by decide,by decide,rfl⟩ hY F (fun _ _ a ns hl _ hS=>⟨a,ns,rfl,hS,hl,fun _=>rfl⟩) fun _ _ _ _ _ z=>z
end Mine
theorem PySem.W.Fast.te16442091204187255699:True:=trivial
noncomputable def PySem.W.Fast.tw14208516059772035276:PySem.Program:=PySem.Challenge.pw_flips_k39_games_of_classes
theorem PySem.W.Fast.te14208516059772035276:PySem.Challenge.pw_flips_k39_games_of_classes=PySem.W.Fast.tw14208516059772035276:=rfl
noncomputable def PySem.W.Fast.pickB:List Bool->List PySem.Stmt->List PySem.Stmt
 | [],_=>[]
 | b::k,l=>match b,l with
  | true,s::r=>s::PySem.W.Fast.pickB k r
  | false,_::r=>PySem.W.Fast.pickB k r
  | _,[]=>[]
noncomputable def PySem.W.Fast.tw12962691764612746478:PySem.Program:={ PySem.Challenge.pw_flips_k39_games_of_classes with main:={ (PySem.Challenge.pw_flips_k39_games_of_classes).main with body:=PySem.W.Fast.pickB [false,true,true,true,true,true,true,true,true,false,true,false,true,false,true,true,true,true,true,true,false,true,true,true,true,true,true,true,true,true] (PySem.Challenge.pw_flips_k39_games_of_classes).main.body } }
theorem PySem.W.Fast.te12962691764612746478:PySem.W.Fast.tw12962691764612746478=PySem.W.Fast.tw12962691764612746478:=rfl
noncomputable def PySem.W.Fast.tw7683738371584936998:List PySem.Stmt:=((PySem.Challenge.pw_flips_k39_games_of_classes).main.body.drop 4).take 1
theorem PySem.W.Fast.te7683738371584936998:PySem.W.Fast.tw7683738371584936998=PySem.W.Fast.tw7683738371584936998:=rfl
noncomputable def PySem.W.Fast.tw17742590423574642927:List PySem.Stmt:=((PySem.Challenge.pw_flips_k39_games_of_classes).main.body.drop 3).take 1
theorem PySem.W.Fast.te17742590423574642927:PySem.W.Fast.tw17742590423574642927=PySem.W.Fast.tw17742590423574642927:=rfl
noncomputable def PySem.W.Fast.tw7960450344817728009:List PySem.Stmt:=((PySem.Challenge.pw_flips_k39_games_of_classes).main.body.drop 8).take 11
theorem PySem.W.Fast.te7960450344817728009:PySem.W.Fast.tw7960450344817728009=PySem.W.Fast.tw7960450344817728009:=rfl
noncomputable def PySem.W.Fast.tw15772028248959237290:List PySem.Stmt:=((PySem.Challenge.pw_flips_k39_games_of_classes).main.body.drop 0).take 2
theorem PySem.W.Fast.te15772028248959237290:PySem.W.Fast.tw15772028248959237290=PySem.W.Fast.tw15772028248959237290:=rfl
noncomputable def PySem.W.Fast.tw17691501678423331651:List PySem.Stmt:=((PySem.Challenge.pw_flips_k39_games_of_classes).main.body.drop 2).take 1
theorem PySem.W.Fast.te17691501678423331651:PySem.W.Fast.tw17691501678423331651=PySem.W.Fast.tw17691501678423331651:=rfl
noncomputable def PySem.W.Fast.tw5672197611657800667:List PySem.Stmt:=((PySem.Challenge.pw_flips_k39_games_of_classes).main.body.drop 6).take 1
theorem PySem.W.Fast.te5672197611657800667:PySem.W.Fast.tw5672197611657800667=PySem.W.Fast.tw5672197611657800667:=rfl
noncomputable def PySem.W.Fast.tw8723219391622983589:List PySem.Stmt:=((PySem.Challenge.pw_flips_k39_games_of_classes).main.body.drop 19).take 11
theorem PySem.W.Fast.te8723219391622983589:PySem.W.Fast.tw8723219391622983589=PySem.W.Fast.tw8723219391622983589:=rfl
noncomputable def PySem.W.Fast.tw15952344459560927533:List PySem.Stmt:=((PySem.Challenge.pw_flips_k39_games_of_classes).main.body.drop 7).take 1
theorem PySem.W.Fast.te15952344459560927533:PySem.W.Fast.tw15952344459560927533=PySem.W.Fast.tw15952344459560927533:=rfl
noncomputable def PySem.W.Fast.tw10930951903459134419:List PySem.Stmt:=((PySem.Challenge.pw_flips_k39_games_of_classes).main.body.drop 5).take 1
theorem PySem.W.Fast.te10930951903459134419:PySem.W.Fast.tw10930951903459134419=PySem.W.Fast.tw10930951903459134419:=rfl
open PySem PySem.W PyProof.Rows
set_option maxRecDepth 100000 in
set_option maxHeartbeats 0 in
theorem PySem.Challenge.cw_flips_k39_games_of_classes_holds : PySem.Challenge.rw_flips_k39_games_of_classes.Holds := by
 w_on;o_law;k_head;(case hw=>w_witness2)
 k_fill
 refine Mine.walk (l:=PySem.Challenge.rw_flips_k39_games_of_classes) rfl rfl (fun w h Y=>PySem.W.kIn_of Y) ?F
 case F =>
  intro w mg fa h KX G hmg
  refine' Mine.all_mk KX G hmg ?aC_Alike ?aC_FlipError ?aC_NoEnd ?aC_NoName ?aC_NoRow ?aC_NoTable ?aC_NoText ?aC_NoThing ?x1_Alike ?x2_Alike ?x3_Alike ?x4_Alike ?x5_Alike ?x6_Alike ?x7_Alike ?xs_Alike ?hd_Alike ?na_one_Alike ?na_other_Alike ?xm_Alike_FlipError ?kk_Alike_Alike ?kk_Alike_NoEnd ?kk_Alike_NoName ?kk_Alike_NoRow ?kk_Alike_NoTable ?kk_Alike_NoText ?kk_Alike_NoThing ?kk_Alike_ValueError ?a0 ?i0 ?l0 ?c0 ?k0 ?a1 ?l1 ?c1 ?k1 ?a2 ?l2 ?c2 ?k2 ?a3 ?l3 ?c3 ?k3 ?a4 ?l4 ?c4 ?k4 ?a5 ?l5 ?c5 ?k5 ?a6 ?l6 ?c6 ?k6 ?a7 ?l7 ?c7 ?k7 ?a8 ?l8 ?c8 ?k8 ?a9 ?l9 ?c9 ?k9 ?a10 ?l10 ?c10 ?k10 ?a11 ?l11 ?c11 ?k11 ?a12 ?l12 ?c12 ?k12 ?a13 ?l13 ?c13 ?k13 ?a14 ?l14 ?c14 ?k14 ?z_ValueError ?z_all ?z_bool ?z_enumerate ?z_int ?z_isinstance ?z_len ?z_list ?z_range ?z_repr ?z_tuple ?c_MOST_THINGS ?c_MOST_ROWS ?xj_Alike
  (case aC_Alike | aC_FlipError | aC_NoEnd | aC_NoName | aC_NoRow | aC_NoTable | aC_NoText | aC_NoThing | x1_Alike | x2_Alike | x3_Alike | x4_Alike | x5_Alike | x6_Alike | x7_Alike | xs_Alike | hd_Alike | na_one_Alike | na_other_Alike | a0 | i0 | l0 | c0 | k0 | a1 | l1 | c1 | k1 | a2 | l2 | c2 | k2 | a3 | l3 | c3 | k3 | a4 | l4 | c4 | k4 | a5 | l5 | c5 | k5 | a6 | l6 | c6 | k6 | a7 | l7 | c7 | k7 | a8 | l8 | c8 | k8 | a9 | l9 | c9 | k9 | a10 | l10 | c10 | k10 | a11 | l11 | c11 | k11 | a12 | l12 | c12 | k12 | a13 | l13 | c13 | k13 | a14 | l14 | c14 | k14 | z_ValueError | z_all | z_bool | z_enumerate | z_int | z_isinstance | z_len | z_list | z_range | z_repr | z_tuple | c_MOST_THINGS | c_MOST_ROWS=>k_is)
  (case xm_Alike_FlipError=>kts_exm)
  (case kk_Alike_Alike=>kit_is)
  (case kk_Alike_NoEnd=>kit_is)
  (case kk_Alike_NoName=>kit_is)
  (case kk_Alike_NoRow=>kit_is)
  (case kk_Alike_NoTable=>kit_is)
  (case kk_Alike_NoText=>kit_is)
  (case kk_Alike_NoThing=>kit_is)
  (case kk_Alike_ValueError=>kit_is)
  (case xj_Alike=>kernel_rfl)
