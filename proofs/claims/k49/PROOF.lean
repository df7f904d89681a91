import PyProof.Rows.All
import Wide.All
import OpenK.AllK
import Wide.FinOn
import Lean
import PyProof.EqAt
import PyProof.EqKinds
import PyProof.TupleCall
import PyProof.NeKinds
import PyProof.ReprRoads
import PyProof.ReprBulk
import PyProof.Draws
import PyProof.EnumMake
import KE.BitLaws
import PyProof.ListIndex
import PyProof.AttrMissHeap
import PyProof.DictUpdate
import KE.KDictOf
import PyProof.FactsAll.enumerate_1
import PyProof.FactsAll.tuple_2
import PyProof.ListMulRoad
import PyProof.ListRange
import PyProof.FactsAll.list_3
import PyProof.Rows.SortWalk
import PyProof.Rows.MinMaxN
import KE.KEqDict
import KE.KDictSum
import PyProof.WalksMore
import PyProof.Rows.SetFrom
import PyProof.SetRoads
import PyProof.FactsAll.set_1
import KE.KItemsList
import KE.KSortTup
import KE.KLam
import PyProof.FactsAll.dict_1
import PyProof.StrBlockH
import PyProof.StrLawsTight
import PyProof.StrLawsOccR
import PyProof.StrLawsJoin
import PyProof.StationsW
import PyProof.NsDelKeeps
import PyProof.RulesAs
import PyProof.ExcInit
import KE.KTryMore
import PyProof.ExcClass3
import PyProof.ExcBaseAll.ValueError
import OpenK.KOwn
import PyProof.ExcArgsOwn
import PyProof.InstStoreFacts
import PyProof.FactsAll.tuple_2
import PyProof.FactsAll.tuple_3
import PyProof.TupleOfStr
import KE.KMinKey
import PySem.Challenge.RW_flips_k49_whole_an_asking_finds
set_option Elab.async false
set_option linter.all false
set_option genInjectivity false
set_option genSizeOf false
set_option compiler.extract_closed false
set_option bootstrap.genMatcherCode false
set_option maxRecDepth 100000
set_option maxHeartbeats 0
-- CHANGE: your row's module here,as the last of these rows
namespace L2
open PySem PySem.Spec PyProof.Rows
noncomputable abbrev Key:=Sum Int Str
noncomputable def C2:Key->Value->Bool
 | .inl k,v=>Value.isInt k v
 | .inr x,v=>Value.isStrOf x v
noncomputable def PJ (w:World):Key->Int
 | .inl k=>hashInt k
 | .inr x=>hashStr w x
theorem keyIs_shape:∀ {k:Key} {v:Value},C2 k v=true->(∃ i t,k=Sum.inl i/\v=Value.int i t)\/(∃ x t,k=Sum.inr x/\v=Value.str x t)
 | .inl i,v,h=>by
  obtain ⟨t,e⟩:=Value.isInt_shape (k:=i) (v:=v) h
  exact .inl ⟨i,t,rfl,e⟩
 | .inr x,v,h=>by
  obtain ⟨t,e⟩:=Value.isStrOf_shape (x:=x) (v:=v) h
  exact .inr ⟨x,t,rfl,e⟩
theorem R0 (i:Int) (t:Tok):C2 (.inl i) (.int i t)=true:=by simp [C2,Value.isInt]
theorem On (x:Str) (t:Tok):C2 (.inr x) (.str x t)=true:=by simp [C2,Value.isStrOf]
theorem N6 (a b:Int):decide ((Sum.inl a:Key)=Sum.inl b)=(a == b):=by
 by_cases e:a=b
 ·subst e;simp
 ·have h:¬ (Sum.inl a:Key)=Sum.inl b:=fun q=>e (Sum.inl.inj q)
  rw [decide_eq_false h]
  exact (beq_eq_false_iff_ne.mpr e).symm
theorem Rl (a b:Str):decide ((Sum.inr a:Key)=Sum.inr b)=decide (a=b):=by
 by_cases e:a=b
 ·subst e;simp
 ·have h:¬ (Sum.inr a:Key)=Sum.inr b:=fun q=>e (Sum.inr.inj q)
  rw [decide_eq_false h,decide_eq_false e]
theorem Nu (a:Int) (b:Str):decide ((Sum.inl a:Key)=Sum.inr b)=false:=decide_eq_false (fun q=>nomatch q)
theorem TD (a:Str) (b:Int):decide ((Sum.inr a:Key)=Sum.inl b)=false:=decide_eq_false (fun q=>nomatch q)
noncomputable def BQ (prog:Program) (w:World):PySem.KeyKind prog w Key where
 is:=C2
 hash:=PJ w
 inj:=fun v a b ha hb=>by
  rcases keyIs_shape ha with ⟨i,t,rfl,rfl⟩ | ⟨x,t,rfl,rfl⟩
  ·rcases keyIs_shape hb with ⟨j,u,rfl,e⟩ | ⟨y,u,rfl,e⟩
   ·injection e with e1 _;rw [e1]
   ·exact nomatch e
  ·rcases keyIs_shape hb with ⟨j,u,rfl,e⟩ | ⟨y,u,rfl,e⟩
   ·exact nomatch e
   ·injection e with e1 _;rw [e1]
 byValue:=fun k v h=>by
  rcases keyIs_shape h with ⟨i,t,rfl,rfl⟩ | ⟨x,t,rfl,rfl⟩ <;> rfl
 pyHash:=fun hv h=>by
  rcases keyIs_shape hv with ⟨i,t,rfl,rfl⟩ | ⟨x,t,rfl,rfl⟩
  ·exact wpAny_pyHash_int h
  ·exact wpAny_pyHash_str h
 eqBool:=fun hu hv h=>by
  rcases keyIs_shape hu with ⟨i,t,rfl,rfl⟩ | ⟨x,t,rfl,rfl⟩
  ·rcases keyIs_shape hv with ⟨j,u,rfl,rfl⟩ | ⟨y,u,rfl,rfl⟩
   ·rw [N6] at h;exact wpAny_eqBool_int h
   ·rw [Nu] at h;exact SeqAt.EqAt.int_str i t y u _ _ _ _ h
  ·rcases keyIs_shape hv with ⟨j,u,rfl,rfl⟩ | ⟨y,u,rfl,rfl⟩
   ·rw [TD] at h;exact SeqAt.EqAt.str_int x t j u _ _ _ _ h
   ·rw [Rl] at h;exact wpAny_eqBool_str h
 «strs»:=fun k x t v h=>by
  rcases keyIs_shape h with ⟨i,u,rfl,e⟩ | ⟨y,u,rfl,e⟩
  ·exact nomatch e
  ·injection e with e1 _
   subst e1
   cases v <;> rfl
theorem Rt (prog:Program) (w:World) (i:Int) (t:Tok):(BQ prog w).is (.inl i) (.int i t)=true:=R0 i t
theorem SD (prog:Program) (w:World) (x:Str) (t:Tok):(BQ prog w).is (.inr x) (.str x t)=true:=On x t
inductive V where
 | non | bl (b:Bool) | int (i:Int) | str (x:Str) | byt (b:Array UInt8) | flt (b:UInt64) | ref (a:Addr) | ty (n:String)
 deriving DecidableEq
noncomputable def RelV:V->Value->Prop
 | .non,u=>u=Value.none
 | .bl b,u=>u=Value.bool b
 | .int i,u=>∃ t,u=Value.int i t
 | .str x,u=>∃ t,u=Value.str x t
 | .byt b,u=>∃ t,u=Value.bytes b t
 | .flt b,u=>∃ t,u=Value.float b t
 | .ref a,u=>u=Value.ref a
 | .ty n,u=>u=Value.type n
noncomputable abbrev Vals:List V->List Value->Prop:=Paired RelV
theorem Vals.length {xs:List V} {us:List Value} (r:Vals xs us):xs.length=us.length:=Paired.length r
theorem Vals.get:∀ {xs:List V} {us:List Value} {i:Nat} {x:V},Vals xs us->xs[i]? = some x->∃ u,us[i]? = some u/\RelV x u
 | _,_,_,_,.nil,e=>by simp at e
 | _,_,0,_,.cons r _,e=>by simp at e;subst e;exact ⟨_,rfl,r⟩
 | _,_,i+1,x,.cons _ t,e=>by
  obtain ⟨u,h1,h2⟩:=Vals.get (i:=i) (x:=x) t (by simpa using e)
  exact ⟨u,by simpa using h1,h2⟩
theorem Vals.set {x:V} {u:Value} (r:RelV x u):∀ {xs:List V} {us:List Value} (i:Nat),Vals xs us->Vals (xs.set i x) (us.set i u)
 | _,_,_,.nil=>.nil
 | _,_,0,.cons _ t=>.cons r t
 | _,_,i+1,.cons q t=>.cons q (Vals.set r i t)
theorem Vals.append:∀ {xs ys:List V} {us ws:List Value},Vals xs us->Vals ys ws->Vals (xs++ys) (us++ws)
 | _,_,_,_,.nil,s=>s
 | _,_,_,_,.cons r t,s=>.cons r (Vals.append t s)
theorem Vals.take:∀ {xs:List V} {us:List Value} (n:Nat),Vals xs us->Vals (xs.take n) (us.take n)
 | _,_,0,_=>.nil
 | _,_,_+1,.nil=>.nil
 | _,_,n+1,.cons r t=>.cons r (Vals.take n t)
theorem Vals.drop:∀ {xs:List V} {us:List Value} (n:Nat),Vals xs us->Vals (xs.drop n) (us.drop n)
 | _,_,0,r=>r
 | _,_,_+1,.nil=>.nil
 | _,_,n+1,.cons _ t=>Vals.drop n t
noncomputable def RelO:Option V->Option Value->Prop
 | some v,some u=>RelV v u
 | none,none=>True
 | _,_=>False
noncomputable def KV {κ:Type}:List (κ × V)->List (κ × Value)->Prop:=Paired fun (p:κ × V) (q:κ × Value)=>p.1=q.1/\RelV p.2 q.2
noncomputable def kV:Key->V
 | .inl i=>.int i
 | .inr x=>.str x
inductive HO where
 | lst (xs:List V)
 | tup (xs:List V)
 | dK (kvs:List (Key × V)) | dT (kvs:List (List Key × V))
 | set (S:Int->Bool) (n:Nat)
 | ins (C dx:Addr) (fs:List (Str × V))
 | own (x:Addr)
 | xd (fs:List (Str × V))
 | met (f x:Addr)
 | rng (lo hi:Int)
 | frz (o:Obj) (u:HO)
 | tbl (ps:Array Value)
 | ext (φ:Heap->Prop)
noncomputable abbrev Hp:=Addr->Option HO
noncomputable def upd (H:Hp) (a:Addr) (o:HO):Hp:=fun b=>if b=a then some o else H b
theorem AD {H:Hp} {a:Addr} {o:HO}:upd H a o a=some o:=by unfold upd;rw [if_pos rfl]
theorem AJ {H:Hp} {a b:Addr} {o:HO} (h:b≠a):upd H a o b=H b:=by unfold upd;rw [if_neg h]
theorem BA {H:Hp} {a b:Addr} {o u:HO} (h:H a=some o) (h':H b=some u) (d:o≠u):a≠b:=by
 intro e;subst e;rw [h] at h';exact d (Option.some.inj h')
theorem BL {H:Hp} {a b:Addr} {o:HO} (h:H a=some o) (h':H b=none):a≠b:=by
 intro e;subst e;rw [h] at h';cases h'
noncomputable def IsTupN (h:Heap) (a:Addr) (items:Array Value):Prop:=∃ o,h.get? a=some o/\o.cls=.type "tuple" /\ (∃ n,o.data=.seq items n)/\o.dict=none
theorem IsTupN.tup {h:Heap} {a:Addr} {items:Array Value} (x:IsTupN h a items):PyProof.Rows.IsTup h a items:=by
 obtain ⟨o,e,c,d,_⟩:=x
 exact ⟨o,e,c,d⟩
theorem IsTupN.new (h:Heap) (items:Array Value):IsTupN (h.push { cls:=.type "tuple",data:=.seq items }) h.objs.size items:=⟨_,Heap.get?_push_size _ rfl,rfl,⟨_,rfl⟩,rfl⟩
section
variable (P:Program) (w:World)
noncomputable def ObjOk (H:Hp) (h:Heap) (a:Addr):HO->Prop
 | .lst xs=>xs.length<=sizeLine/\∃ (its:List Value) (n:Nat),Vals xs its/\h.get? a=some { cls:=.type "list",data:=.seq its.toArray n }
 | .tup xs=>xs.length<=sizeLine/\∃ its:List Value,Vals xs its/\IsTupN h a its.toArray
 | .dK kvs=>kvs.length<=sizeLine/\(a == sysModules)=false/\∃ vs,KV kvs vs/\h.DictOf (BQ P w) a vs
 | .dT kvs=>kvs.length<=sizeLine/\(a == sysModules)=false/\∃ xs:List (List Key × Addr × Value),
  Paired (fun (p:List Key × V) (q:List Key × Addr × Value)=>p.1=q.1/\H q.2.1=some (.tup (p.1.map kV))/\RelV p.2 q.2.2) kvs xs /\
  ∃ o es ep,h.get? a=some o/\o.ExactDict/\o.data=.dict es ep/\es.toList=xs.map (entryOfKey (tupleKind (BQ P w)))/\(xs.map (·.1)).Nodup
 | .set S n=>h.SetOf (intKind P w) a S n
 | .ins C dx fs=>H dx=some (.own a)/\fs.length<=1000/\dx≠a/\h.get? a=some (PySem.W.instObj C dx) /\
  ∃ mA,h.Ns1 dx mA/\(∀ f,RelO (fs.lookup f) (mA f))/\PySem.Within mA (fs.map (·.1))
 | .own _=>∃ o,h.get? a=some o
 | .xd fs=>∃ mA,h.Ns1 a mA/\∀ f,RelO (fs.lookup f) (mA f)
 | .rng lo hi=>∃ t u v,h.get? a=some { cls:=.type "range",data:=.fields #[.int lo t,.int hi u,.int 1 v] }
 | .frz o u=>h.get? a=some o/\ObjOk H h a u
 | .tbl ps=>h.get? a=some { cls:=.none,data:=.fields ps }
 | .met f x=>h.get? a=some (PySem.W.methodObj (.ref f) (.ref x))
 | .ext φ=>φ h/\(∃ o,h.get? a=some o)/\∀ h1 h2:Heap,φ h1->(∀ o,h1.get? a=some o->h2.get? a=some o)->φ h2
noncomputable def HOk (H:Hp) (h:Heap):Prop:=∀ a o,H a=some o->ObjOk P w H h a o
end
section
variable {P:Program} {w:World} {H H':Hp} {h h':Heap} {a:Addr} {o:HO}
theorem ObjOk.lt (x:ObjOk P w H h a o):a < h.objs.size:=by
 cases o with
 | lst xs=>obtain ⟨_,_,_,_,e⟩:=x;exact Heap.lt_size e
 | tup xs=>obtain ⟨_,_,_,p⟩:=x;exact p.tup.lt
 | dK kvs=>obtain ⟨_,_,_,_,o,_,_,e,_⟩:=x;exact Heap.lt_size e
 | dT kvs=>obtain ⟨_,_,_,_,o,_,_,e,_⟩:=x;exact Heap.lt_size e
 | set S n=>obtain ⟨o,_,_,_,e,_⟩:=x;exact Heap.lt_size e
 | ins C dx fs=>obtain ⟨_,_,_,e,_⟩:=x;exact Heap.lt_size e
 | own y=>obtain ⟨_,e⟩:=x;exact Heap.lt_size e
 | xd fs=>obtain ⟨_,⟨_,_,_,e,_⟩,_⟩:=x;exact Heap.lt_size e
 | rng lo hi=>obtain ⟨_,_,_,e⟩:=x;exact Heap.lt_size e
 | frz ob u=>obtain ⟨e,_⟩:=x;exact Heap.lt_size e
 | tbl ps=>exact Heap.lt_size (show h.get? a=some _ from x)
 | met f y=>exact Heap.lt_size (show h.get? a=some _ from x)
 | ext φ=>obtain ⟨_,⟨_,e⟩,_⟩:=x;exact Heap.lt_size e
theorem Paired.mapP {α β:Type} {F G:α->β->Prop}:∀ {l₁:List α} {l₂:List β},Paired F l₁ l₂->(∀ a b,F a b->G a b)->Paired G l₁ l₂
 | _,_,.nil,_=>.nil
 | _,_,.cons r t,f=>.cons (f _ _ r) (Paired.mapP t f)
theorem ObjOk.stay (x:ObjOk P w H h a o) (k:∀ b u,(b=a\/H b=some (.own a))->h.get? b=some u->h'.get? b=some u)
 (ho:∀ b,H b=some (.own a)->H' b=some (.own a)) (ht:∀ b xs,H b=some (.tup xs)->H' b=some (.tup xs)):ObjOk P w H' h' a o:=by
 induction o with
 | lst xs=>obtain ⟨z,its,n,r,e⟩:=x;exact ⟨z,its,n,r,k _ _ (.inl rfl) e⟩
 | tup xs=>obtain ⟨z,its,r,ob,e,c⟩:=x;exact ⟨z,its,r,ob,k _ _ (.inl rfl) e,c⟩
 | dK kvs=>obtain ⟨z,y,vs,r,ob,es,ep,e,c⟩:=x;exact ⟨z,y,vs,r,ob,es,ep,k _ _ (.inl rfl) e,c⟩
 | dT kvs =>
  obtain ⟨z,y,xs,r,ob,es,ep,e,c⟩:=x
  exact ⟨z,y,xs,Paired.mapP r fun p q z=>⟨z.1,ht _ _ z.2.1,z.2.2⟩,ob,es,ep,k _ _ (.inl rfl) e,c⟩
 | set S n=>obtain ⟨ob,es,ep,t,e,c⟩:=x;exact ⟨ob,es,ep,t,k _ _ (.inl rfl) e,c⟩
 | ins C dx fs =>
  obtain ⟨d,z,ne,e,mA,⟨od,es,ep,e2,c⟩,r⟩:=x
  exact ⟨ho _ d,z,ne,k _ _ (.inl rfl) e,mA,⟨od,es,ep,k _ _ (.inr d) e2,c⟩,r⟩
 | own y=>obtain ⟨ob,e⟩:=x;exact ⟨ob,k _ _ (.inl rfl) e⟩
 | xd fs=>obtain ⟨mA,⟨od,es,ep,e,c⟩,r⟩:=x;exact ⟨mA,⟨od,es,ep,k _ _ (.inl rfl) e,c⟩,r⟩
 | rng lo hi=>obtain ⟨t,u,v,e⟩:=x;exact ⟨t,u,v,k _ _ (.inl rfl) e⟩
 | frz ob u ih=>obtain ⟨e,q⟩:=x;exact ⟨k _ _ (.inl rfl) e,ih q⟩
 | tbl ps =>
  have e:h.get? a=some { cls:=.none,data:=.fields ps }:=x
  show h'.get? a=some { cls:=.none,data:=.fields ps }
  exact k a _ (.inl rfl) e
 | met f y =>
  have e:h.get? a=some (PySem.W.methodObj (.ref f) (.ref y)):=x
  show h'.get? a=some (PySem.W.methodObj (.ref f) (.ref y))
  exact k a _ (.inl rfl) e
 | ext φ=>obtain ⟨p,⟨o,e⟩,st⟩:=x;exact ⟨st _ _ p fun o q=>k _ _ (.inl rfl) q,⟨o,k _ _ (.inl rfl) e⟩,st⟩
theorem HOk.lt (x:HOk P w H h) (e:H a=some o):a < h.objs.size:=(x a o e).lt
theorem HOk.fresh (x:HOk P w H h) (e:h.objs.size<=a):H a=none:=by
 cases q:H a with
 | none=>rfl
 | some u=>exact absurd (Nat.lt_of_lt_of_le (x.lt q) e) (Nat.lt_irrefl _)
theorem HOk.kept (x:HOk P w H h) (k:∀ b u,h.get? b=some u->h'.get? b=some u):HOk P w H h':=fun a o e =>
 (x a o e).stay (fun b u _ q=>k b u q) (fun _ q=>q) fun _ _ q=>q
theorem HOk.laid (x:HOk P w H h) (k:∀ b u,h.get? b=some u->h'.get? b=some u) (hp:h.objs.size<=a) (new:ObjOk P w (upd H a o) h' a o):HOk P w (upd H a o) h':=fun b u e=>by
 have hn:=x.fresh hp
 by_cases hb:b=a
 ·subst hb;rw [AD] at e;cases e;exact new
 ·rw [AJ hb] at e
  exact (x b u e).stay (fun c v _ q=>k c v q) (fun c q=>by rw [AJ (BL q hn)];exact q) fun c xs q=>by rw [AJ (BL q hn)];exact q
end
noncomputable def Rd (H:Hp) (a:Addr) (u:HO):Prop:=H a=some u\/∃ o,H a=some (.frz o u)
theorem Rd.of {H:Hp} {a:Addr} {u:HO} (h:H a=some u):Rd H a u:=.inl h
theorem Rd.ok {P:Program} {w:World} {H:Hp} {h:Heap} {a:Addr} {u:HO} (r:Rd H a u) (x:HOk P w H h):ObjOk P w H h a u:=by
 rcases r with r | ⟨o,r⟩
 ·exact x a u r
 ·obtain ⟨_,q⟩:=x a _ r
  exact q
noncomputable def Mut:Option HO->Prop
 | some (.lst _)=>True
 | some (.dK _)=>True
 | some (.dT _)=>True
 | some (.set _ _)=>True
 | some (.ins _ _ _)=>True
 | some (.ext _)=>True
 | _=>False
section
variable {P:Program} {w:World} {H:Hp} {h h':Heap} {x e:Addr} {o':HO}
theorem HOk.write (ok:HOk P w H h) (mu:Mut (H x)) (he:e=x\/H e=some (.own x)) (k:∀ b u,b≠e->h.get? b=some u->h'.get? b=some u) (heo:∃ u,h'.get? e=some u)
 (new:ObjOk P w (upd H x o') h' x o'):HOk P w (upd H x o') h':=fun b u q=>by
 have nown:∀ c y,H c=some (.own y)->c≠x:=fun c y r z=>by subst z;rw [r] at mu;exact mu
 have ntup:∀ c xs,H c=some (.tup xs)->c≠x:=fun c xs r z=>by subst z;rw [r] at mu;exact mu
 by_cases hb:b=x
 ·subst hb;rw [AD] at q;cases q;exact new
 ·rw [AJ hb] at q
  by_cases hbe:b=e
  ·have q':H b=some (.own x):=by
    rcases he with z | z
    ·exact absurd (hbe.trans z) hb
    ·rw [hbe];exact z
   rw [q] at q';cases q'
   obtain ⟨v,hv⟩:=heo
   exact ⟨v,by rw [hbe];exact hv⟩
  ·refine (ok b u q).stay (fun c v hc r=>k c v ?_ r) (fun c r=>by rw [AJ (nown c b r)];exact r) fun c xs r=>by rw [AJ (ntup c xs r)];exact r
   rcases hc with rfl | hc
   ·exact hbe
   ·rintro rfl
    rcases he with z | z
    ·exact nown c b hc z
    ·rw [hc] at z;cases z;exact hb rfl
end
structure Un (fs ex:List Addr) (H H':Hp) (h h':Heap):Prop where
 keep:∀ b o,h.get? b=some o->H b=none->b∉fs->b∉ex->h'.get? b=some o
 slot:∀ b o,h.get? b=some o->H b=none->b∈fs->b∉ex->∃ sl,h'.get? b=some { o with slots:=sl }
 free:∀ b o,h.get? b=some o->H b=none->b∉ex->H' b=none
 there:∀ b o,h.get? b=some o->b∉ex->∃ o',h'.get? b=some o'
 tups:∀ b xs,H b=some (.tup xs)->H' b=some (.tup xs)
 frzs:∀ b o u,H b=some (.frz o u)->H' b=some (.frz o u)
 tbls:∀ b ps,H b=some (.tbl ps)->∃ more,H' b=some (.tbl (ps++more))
section
variable {fs fs' ex ex':List Addr} {H H1 H2:Hp} {h h1 h2 h':Heap} {a x e:Addr} {o:HO}
theorem Un.any (u:Un fs ex H H1 h h1) {b:Addr} {ob:Obj} (q:h.get? b=some ob) (n:H b=none) (hx:b∉ex):∃ sl,h1.get? b=some { ob with slots:=sl }:=by
 by_cases hb:b∈fs
 ·exact u.slot b ob q n hb hx
 ·exact ⟨ob.slots,u.keep b ob q n hb hx⟩
theorem Un.trans (a:Un fs ex H H1 h h1) (b:Un fs ex H1 H2 h1 h2):Un fs ex H H2 h h2 where
 keep:=fun c ob q n hc hx=>b.keep c ob (a.keep c ob q n hc hx) (a.free c ob q n hx) hc hx
 slot:=fun c ob q n hc hx=>by
  obtain ⟨sl,e1⟩:=a.slot c ob q n hc hx
  obtain ⟨sl',e2⟩:=b.slot c _ e1 (a.free c ob q n hx) hc hx
  exact ⟨sl',e2⟩
 free:=fun c ob q n hx=>by
  obtain ⟨o',e1⟩:=a.there c ob q hx
  exact b.free c o' e1 (a.free c ob q n hx) hx
 there:=fun c ob q hx=>by
  obtain ⟨o',e1⟩:=a.there c ob q hx
  exact b.there c o' e1 hx
 tups:=fun c xs q=>b.tups c xs (a.tups c xs q)
 frzs:=fun c ob xs q=>b.frzs c ob xs (a.frzs c ob xs q)
 tbls:=fun c ps q=>by
  obtain ⟨m1,e1⟩:=a.tbls c ps q
  obtain ⟨m2,e2⟩:=b.tbls c _ e1
  exact ⟨m1++m2,by rw [e2,Array.append_assoc]⟩
theorem Un.kept (k:∀ b u,h.get? b=some u->h'.get? b=some u):Un fs ex H H h h' :=
 ⟨fun b ob q _ _ _=>k b ob q,fun b ob q _ _ _=>⟨ob.slots,k b ob q⟩,fun _ _ _ n _=>n,fun b ob q _=>⟨ob,k b ob q⟩,fun _ _ q=>q,fun _ _ _ q=>q,fun _ ps q=>⟨#[],by rw [q];simp⟩⟩
theorem Un.refl:Un fs ex H H h h:=Un.kept fun _ _ q=>q
theorem Un.laid (k:∀ b u,h.get? b=some u->h'.get? b=some u) (hp:h.objs.size<=a) (hn:H a=none):Un fs ex H (upd H a o) h h' where
 keep:=fun b u q _ _ _=>k b u q
 slot:=fun b u q _ _ _=>⟨u.slots,k b u q⟩
 free:=fun b u q n _=>by rw [AJ (Nat.ne_of_lt (Nat.lt_of_lt_of_le (Heap.lt_size q) hp))];exact n
 there:=fun b u q _=>⟨u,k b u q⟩
 tups:=fun b xs q=>by rw [AJ (BL q hn)];exact q
 frzs:=fun b u xs q=>by rw [AJ (BL q hn)];exact q
 tbls:=fun b ps q=>⟨#[],by rw [AJ (BL q hn),q];simp⟩
theorem Un.write (mu:Mut (H x)) (he:e=x\/H e=some (.own x)) (k:∀ b u,b≠e->h.get? b=some u->h'.get? b=some u) (heo:∃ u,h'.get? e=some u):Un fs ex H (upd H x o) h h':=by
 have hx:∀ b,H b=none->b≠x:=fun b n z=>by subst z;rw [n] at mu;exact mu
 have hb:∀ b,H b=none->b≠e:=fun b n z=>by
  subst z
  rcases he with r | r
  ·exact hx b n r
  ·rw [n] at r;cases r
 have hm:∀ b u,H b=some u->¬ Mut (some u)->b≠x:=fun b u q nm z=>by subst z;rw [q] at mu;exact nm mu
 refine ⟨fun b u q n _ _=>k b u (hb b n) q,fun b u q n _ _=>⟨u.slots,k b u (hb b n) q⟩,fun b u q n _=>by rw [AJ (hx b n)];exact n,fun b u q _=>?_,
  fun b xs q=>by rw [AJ (hm b _ q fun z=>z)];exact q,fun b u xs q=>by rw [AJ (hm b _ q fun z=>z)];exact q,fun b ps q=>⟨#[],by rw [AJ (hm b _ q fun z=>z),q];simp⟩⟩
 by_cases hbe:b=e
 ·subst hbe;exact heo
 ·exact ⟨u,k b u hbe q⟩
end
noncomputable def trk (h:Heap) (H:Hp):List Addr:=(List.range h.objs.size).filter fun a=>(H a).isSome
noncomputable def B8 (h:Heap) (H:Hp):Heap:=PySem.W.hideAll h (trk h H)
theorem IT (h:Heap) (H:Hp):(B8 h H).objs.size=h.objs.size:=PySem.W.hideAll_size _ _
theorem MM {h:Heap} {H:Hp} {b:Addr} {o:Obj} (e:h.get? b=some o) (n:H b=none):(B8 h H).get? b=some o :=
 PySem.W.hideAll_get _ e fun hm=>by
  have q:(H b).isSome=true:=(List.mem_filter.mp hm).2
  rw [n] at q;simp at q
theorem LN {h:Heap} {H:Hp} {b:Addr} {o:Obj} (e:(B8 h H).get? b=some o):h.get? b=some o/\H b=none:=by
 have e':h.get? b=some o:=PySem.W.of_hideAll (trk h H) e
 refine ⟨e',?_⟩
 cases q:H b with
 | none=>rfl
 | some x =>
  have hm:b∈trk h H:=List.mem_filter.mpr ⟨List.mem_range.mpr (Heap.lt_size e'),by simp [q]⟩
  have z:(B8 h H).get? b=none:=PySem.W.hideAll_none (trk h H) hm
  rw [z] at e;cases e
noncomputable def P1 (g h:Heap) (L:Addr):List (Addr × Obj):=(List.range h.objs.size).filterMap fun a=>if a=L\/(g.get? a).isSome=true then none else (h.get? a).map fun o=>(a,o)
noncomputable def rest (g h:Heap) (L d:Addr):List (Addr × Obj):=(P1 g h L).filter fun p=>decide (p.1≠d)
structure Mod (K:W.Frag) (mg:Str->Option Value) (base:Heap):Prop where
 kin:K.In base
 glob:base.Ns mainGlobals mg
 blt:∃ mb,base.Ns builtinsNs mb/\∀ x:Str,x ≠ "__name__" -> mb x=bootBuiltins x
 nolimit:base.NoLimit
structure Cx where
 prog:Program
 w:World
 K:W.Frag
 mg:Str->Option Value
 base:Heap
 A:Around
 N:List Str
 s₀:Shared
 H₀:Hp
 env:Env
 outer:List Env
 stack:List Env
 ex:List Addr
 fn:Str->Bool
 calm:Bool
 pn:List (Addr × Obj)
 xe:Value->Shared->Prop
noncomputable def frs (l:List Env):List Addr:=l.filterMap (·.frame)
noncomputable abbrev Cx.fs (X:Cx):List Addr:=frs X.outer
noncomputable def Vis (sc:Scope) (x:Str):Prop:=sc.names.lookup x=some .local\/sc.names.lookup x=some .cell\/sc.names.lookup x=some .free
noncomputable def Loc (sc:Scope) (x:Str):Prop:=sc.names.lookup x=some .local\/sc.names.lookup x=some .cell
noncomputable def TK (env:Env) (h:Heap) (m:Str->Option Value) (x:Str) (u:Value):Prop :=
 (env.kindOf x=some .local/\m x=some u)\/((env.kindOf x=some .cell\/env.kindOf x=some .free)/\∃ c,env.cells.lookup x=some c/\h.IsCell c (some u))
structure Cx.Ok (X:Cx):Prop where
 mod:Mod X.K X.mg X.base
 kind:X.env.scope.kind=.function
 glob:X.env.globals=mainGlobals
 blt:X.env.builtins=builtinsNs
 above:X.s₀.heap.objs.size<=X.env.locals
 inj:∀ x y c,X.env.cells.lookup x=some c->X.env.cells.lookup y=some c->x=y
 has:∀ x,(X.env.kindOf x=some .cell\/X.env.kindOf x=some .free)->∃ c,X.env.cells.lookup x=some c
 cab:∀ x c,X.fn x=true->X.env.cells.lookup x=some c->X.s₀.heap.objs.size<=c
 hd:X.calm=true->X.A.handled=none
 frames:X.A.frames=some X.stack
 stk:X.stack=X.outer\/(X.stack=X.env::X.outer/\X.env.frame=some X.env.locals)
 exf:∀ b∈X.ex,b≠X.env.locals/\∀ x c,X.env.cells.lookup x=some c->c≠b
 bs:∀ b o,X.base.get? b=some o->X.s₀.heap.get? b=some o/\X.H₀ b=none
 bsz:X.base.objs.size<=X.s₀.heap.objs.size
 noex:∀ b o,X.base.get? b=some o->b∉X.ex
 exfs:∀ b∈X.ex,b∉X.fs
 funs:X.s₀.heap.FunFrames X.base X.outer
 frf:∀ b∈X.fs,X.H₀ b=none
structure Inv (X:Cx) (pins:List (Addr × Obj)) (σ:List (Option V)) (H:Hp) (s:Shared):Prop where
 ok:X.Ok
 os:s.os=X.s₀.os
 bare:AllBare s.gens
 base:Un X.fs X.ex X.H₀ H X.s₀.heap s.heap
 loc:∃ m,s.heap.Ns X.env.locals m/\∀ (i:Nat) (x:Str) (v:V),X.N[i]? = some x->σ[i]? = some (some v)->Vis X.env.scope x->∃ u,RelV v u/\TK X.env s.heap m x u
 cell:∀ x c,X.env.cells.lookup x=some c->∃ v,s.heap.IsCell c v
 free:H X.env.locals=none
 freeC:∀ x c,X.env.cells.lookup x=some c->H c=none
 pin:∀ p∈X.pn++pins,s.heap.get? p.1=some p.2/\H p.1=none/\p.1≠X.env.locals/\p.1∉X.fs/\∀ v,p.2.data≠.cell v
 hok:HOk X.prog X.w H s.heap
 len:σ.length=X.N.length
section
variable {X:Cx} {pins:List (Addr × Obj)} {σ:List (Option V)} {H H':Hp} {s:Shared} {h':Heap}
theorem Cx.Ok.nofr (ok:X.Ok) {b:Addr} {o:Obj} (e:X.base.get? b=some o):b∉X.fs:=fun hb=>by
 have:=(ok.funs.mem hb).1
 rw [e] at this;cases this
theorem Inv.bs (I:Inv X pins σ H s):∀ b o,X.base.get? b=some o->s.heap.get? b=some o/\H b=none:=fun b o e =>
 ⟨I.base.keep b o (I.ok.bs b o e).1 (I.ok.bs b o e).2 (I.ok.nofr e) (I.ok.noex b o e),I.base.free b o (I.ok.bs b o e).1 (I.ok.bs b o e).2 (I.ok.noex b o e)⟩
theorem Inv.bk (I:Inv X pins σ H s):∀ b o,X.base.get? b=some o->s.heap.get? b=some o:=fun b o e=>(I.bs b o e).1
theorem Inv.mod (I:Inv X pins σ H s):Mod X.K X.mg X.base:=I.ok.mod
theorem Inv.kIn (I:Inv X pins σ H s):X.K.In s.heap:=I.ok.mod.kin.keeps I.bk
theorem Inv.lt (I:Inv X pins σ H s):X.env.locals < s.heap.objs.size:=let ⟨_,hn,_⟩:=I.loc;hn.lt
theorem Inv.sz (I:Inv X pins σ H s):X.s₀.heap.objs.size<=s.heap.objs.size:=Nat.le_trans I.ok.above (Nat.le_of_lt I.lt)
theorem Inv.nofs (I:Inv X pins σ H s) {a:Addr} (h:s.heap.objs.size<=a):a∉X.fs:=fun hb=>by
 obtain ⟨_,o,ho,_⟩:=I.ok.funs.mem hb
 exact absurd (Nat.lt_of_lt_of_le (Heap.lt_size ho) (Nat.le_trans I.sz h)) (Nat.lt_irrefl _)
theorem Inv.cne (I:Inv X pins σ H s):∀ x c,X.env.cells.lookup x=some c->c≠X.env.locals:=fun x c e z=>by
 obtain ⟨v,o,ho,hd⟩:=I.cell x c e
 obtain ⟨m,⟨o',es,ep,ho',hd',_⟩,_⟩:=I.loc
 rw [z,ho'] at ho;cases ho;rw [hd'] at hd;cases hd
theorem Inv.funs (I:Inv X pins σ H s):s.heap.FunFrames X.base X.outer:=by
 have all:∀ (l:List Env),(∀ b∈frs l,b∈X.fs)->X.s₀.heap.FunFrames X.base l->s.heap.FunFrames X.base l:=by
  intro l
  induction l with
  | nil=>intro _ _;trivial
  | cons env r ih =>
   intro hs hl
   obtain ⟨hk,⟨L,o,hf,hn,ho,hd⟩,hr⟩:=hl
   have hL:L∈X.fs:=hs L (by unfold frs;rw [List.filterMap_cons,hf];exact List.mem_cons_self)
   obtain ⟨sl,e⟩:=I.base.slot L o ho (I.ok.frf L hL) hL fun z=>I.ok.exfs L z hL
   exact ⟨hk,⟨L,_,hf,hn,e,hd⟩,ih (fun b hb=>hs b (by unfold frs;rw [List.filterMap_cons,hf];exact List.mem_cons_of_mem _ hb)) hr⟩
 exact all X.outer (fun _ hb=>hb) I.ok.funs
theorem Inv.stack (I:Inv X pins σ H s):s.heap.FunFrames X.base X.stack:=by
 rcases I.ok.stk with e | ⟨e,hf⟩
 ·rw [e];exact I.funs
 ·rw [e]
  obtain ⟨m,hn,_⟩:=I.loc
  refine .cons (by rw [I.ok.kind];decide) hf hn ?_ I.funs
  exact Heap.get?_none_of_le (Nat.le_trans I.ok.bsz I.ok.above)
theorem Inv.stkSub (I:Inv X pins σ H s):∀ b∈frs X.stack,b∈X.env.locals::X.fs:=fun b hb=>by
 rcases I.ok.stk with e | ⟨e,hf⟩
 ·rw [e] at hb;exact List.mem_cons_of_mem _ hb
 ·rw [e] at hb
  unfold frs at hb
  rw [List.filterMap_cons,hf] at hb
  exact hb
theorem Inv.stkFree (I:Inv X pins σ H s):∀ b∈frs X.stack,H b=none:=fun b hb=>by
 rcases List.mem_cons.mp (I.stkSub b hb) with e | hb
 ·rw [e];exact I.free
 ·obtain ⟨_,o,ho,_⟩:=I.ok.funs.mem hb
  exact I.base.free b o ho (I.ok.frf b hb) fun z=>I.ok.exfs b z hb
theorem Inv.step {g':Array GenState} {t':Nat} {d':Drawn} {ch:List Addr} (I:Inv X pins σ H s)
 (hch:∀ b∈ch,(b∈X.ex\/X.s₀.heap.objs.size<=b)/\b≠X.env.locals/\(∀ x c,X.env.cells.lookup x=some c->c≠b)/\∀ p∈X.pn++pins,p.1≠b)
 (keep:∀ b o,b≠X.env.locals->b∉X.fs->b∉ch->s.heap.get? b=some o->H b=none->h'.get? b=some o)
 (slot:∀ b o,b≠X.env.locals->b∈X.fs->b∉ch->s.heap.get? b=some o->H b=none->∃ sl,h'.get? b=some { o with slots:=sl }) (free:∀ b o,b∉ch->s.heap.get? b=some o->H b=none->H' b=none)
 (there:∀ b o,b∉ch->s.heap.get? b=some o->∃ o',h'.get? b=some o')
 (tups:∀ b xs,H b=some (.tup xs)->H' b=some (.tup xs)) (frzs:∀ b o u,H b=some (.frz o u)->H' b=some (.frz o u)) (tbls:∀ b ps,H b=some (.tbl ps)->∃ more,H' b=some (.tbl (ps++more)))
 (ns:∀ m,s.heap.Ns X.env.locals m->h'.Ns X.env.locals m) (hok:HOk X.prog X.w H' h') (hg:AllBare g') :
 Inv X pins σ H' { s with heap:=h',gens:=g',drawn:=d',toks:=t' }:=by
 have neL:∀ b o,X.s₀.heap.get? b=some o->b≠X.env.locals:=fun b o e=>Nat.ne_of_lt (Nat.lt_of_lt_of_le (Heap.lt_size e) I.ok.above)
 have neC:∀ b o,X.s₀.heap.get? b=some o->b∉X.ex->b∉ch:=fun b o e hx hb=>by
  rcases (hch b hb).1 with z | z
  ·exact hx z
  ·exact absurd (Nat.lt_of_lt_of_le (Heap.lt_size e) z) (Nat.lt_irrefl _)
 have cellK:∀ x c,X.env.cells.lookup x=some c->∀ v,s.heap.IsCell c v->h'.IsCell c v:=fun x c e v ⟨o,ho,hd⟩=>by
  have nch:c∉ch:=fun z=>(hch c z).2.2.1 x c e rfl
  by_cases hc:c∈X.fs
  ·obtain ⟨sl,q⟩:=slot c o (I.cne x c e) hc nch ho (I.freeC x c e)
   exact ⟨_,q,hd⟩
  ·exact ⟨o,keep c o (I.cne x c e) hc nch ho (I.freeC x c e),hd⟩
 refine ⟨I.ok,I.os,hg,⟨fun b o e n hb hx=>?_,fun b o e n hb hx=>?_,fun b o e n hx=>?_,fun b o e hx=>?_,fun b xs e=>tups b xs (I.base.tups b xs e),fun b o xs e=>frzs b o xs (I.base.frzs b o xs e),fun b ps e=>?_⟩,?_,fun x c e=>?_,?_,fun x c e=>?_,fun p hp=>?_,hok,I.len⟩
 ·exact keep b o (neL b o e) hb (neC b o e hx) (I.base.keep b o e n hb hx) (I.base.free b o e n hx)
 ·obtain ⟨sl,e1⟩:=I.base.slot b o e n hb hx
  obtain ⟨sl',e2⟩:=slot b _ (neL b o e) hb (neC b o e hx) e1 (I.base.free b o e n hx)
  exact ⟨sl',e2⟩
 ·obtain ⟨o',e1⟩:=I.base.there b o e hx
  exact free b o' (neC b o e hx) e1 (I.base.free b o e n hx)
 ·obtain ⟨o',e1⟩:=I.base.there b o e hx
  exact there b o' (neC b o e hx) e1
 ·obtain ⟨m1,e1⟩:=I.base.tbls b ps e
  obtain ⟨m2,e2⟩:=tbls b _ e1
  exact ⟨m1++m2,by rw [e2,Array.append_assoc]⟩
 ·obtain ⟨m,hn,hl⟩:=I.loc
  refine ⟨m,ns m hn,fun i x v e1 e2 e3=>?_⟩
  obtain ⟨u,r,l⟩:=hl i x v e1 e2 e3
  refine ⟨u,r,?_⟩
  rcases l with l | ⟨k,c,e,z⟩
  ·exact .inl l
  ·exact .inr ⟨k,c,e,cellK x c e _ z⟩
 ·obtain ⟨v,z⟩:=I.cell x c e
  exact ⟨v,cellK x c e v z⟩
 ·obtain ⟨m,⟨o,_,_,ho,_⟩,_⟩:=I.loc
  exact free _ o (fun z=>(hch _ z).2.1 rfl) ho I.free
 ·obtain ⟨v,o,ho,hd⟩:=I.cell x c e
  exact free c o (fun z=>(hch c z).2.2.1 x c e rfl) ho (I.freeC x c e)
 ·obtain ⟨e,n,ne,nf,d⟩:=I.pin p hp
  have nch:p.1∉ch:=fun z=>(hch p.1 z).2.2.2 p hp rfl
  exact ⟨keep p.1 p.2 ne nf nch e n,free p.1 p.2 nch e n,ne,nf,d⟩
theorem Inv.un {t':Nat} (I:Inv X pins σ H s) (u:Un X.fs [] H H' s.heap h') (hok:HOk X.prog X.w H' h'):Inv X pins σ H' { s with heap:=h',toks:=t' }:=by
 obtain ⟨m,⟨o,es,ep,ho,r⟩,_⟩:=id I.loc
 obtain ⟨sl,hL⟩:=u.any ho I.free (by simp)
 exact I.step (g':=s.gens) (d':=s.drawn) (ch:=[]) (fun _ z=>nomatch z) (fun b o _ hb _ e n=>u.keep b o e n hb (by simp)) (fun b o _ hb _ e n=>u.slot b o e n hb (by simp)) (fun b o _ e n=>u.free b o e n (by simp)) (fun b o _ e=>u.there b o e (by simp)) u.tups u.frzs u.tbls (fun m' hm=>by
  obtain ⟨o',es',ep',ho',r'⟩:=hm
  rw [ho] at ho';cases ho'
  exact ⟨_,es',ep',hL,r'⟩) hok I.bare
theorem Inv.call {g':Array GenState} {t':Nat} {d':Drawn} {ch:List Addr} (I:Inv X pins σ H s) (u:Un (frs X.stack) ch H H' s.heap h') (hok:HOk X.prog X.w H' h') (hg:AllBare g')
 (hch:∀ b∈ch,(b∈X.ex\/X.s₀.heap.objs.size<=b)/\b≠X.env.locals/\(∀ x c,X.env.cells.lookup x=some c->c≠b)/\∀ p∈X.pn++pins,p.1≠b) :
 Inv X pins σ H' { s with heap:=h',gens:=g',drawn:=d',toks:=t' }:=by
 obtain ⟨m,⟨o,es,ep,ho,r⟩,_⟩:=id I.loc
 obtain ⟨sl,hL⟩:=u.any ho I.free fun z=>(hch _ z).2.1 rfl
 exact I.step (ch:=ch) hch (fun b o hL hb hc e n=>u.keep b o e n (fun z=>(List.mem_cons.mp (I.stkSub b z)).elim hL hb) hc) (fun b o _ _ hc e n=>u.any e n hc) (fun b o hc e n=>u.free b o e n hc) (fun b o hc e=>u.there b o e hc) u.tups u.frzs u.tbls (fun m' hm=>by
  obtain ⟨o',es',ep',ho',r'⟩:=hm
  rw [ho] at ho';cases ho'
  exact ⟨_,es',ep',hL,r'⟩) hok hg
theorem Inv.turned {t':Nat} {it:Addr} (I:Inv X pins σ H s) (k:∀ b o,b≠it->s.heap.get? b=some o->h'.get? b=some o) (hn:H it=none) (hL:it≠X.env.locals)
 (h1:it∈X.ex\/X.s₀.heap.objs.size<=it) (h2:∀ x c,X.env.cells.lookup x=some c->c≠it) (h3:∀ p∈X.pn++pins,p.1≠it):Inv X pins σ H { s with heap:=h',toks:=t' }:=by
 have nit:∀ b u,H b=some u->b≠it:=fun b u e z=>by rw [z,hn] at e;cases e
 refine I.step (g':=s.gens) (d':=s.drawn) (ch:=[it]) (fun b hb=>?_) (fun b o _ _ hc e _=>k b o (fun z=>hc (by simp [z])) e) (fun b o _ _ hc e _=>⟨o.slots,k b o (fun z=>hc (by simp [z])) e⟩) (fun _ _ _ _ n=>n)
  (fun b o hc e=>⟨o,k b o (fun z=>hc (by simp [z])) e⟩) (fun _ _ e=>e) (fun _ _ _ e=>e) (fun b ps e=>⟨#[],by rw [e];simp⟩) (fun m hm=>?_) (fun b u e=>?_) I.bare
 ·have e:b=it:=by simpa using hb
  subst e
  exact ⟨h1,hL,h2,h3⟩
 ·obtain ⟨o,es,ep,ho,r⟩:=hm
  exact ⟨o,es,ep,k _ o (Ne.symm hL) ho,r⟩
 ·refine (I.hok b u e).stay (fun c v hc q=>k c v ?_ q) (fun _ q=>q) fun _ _ q=>q
  rcases hc with z | z
  ·rw [z];exact nit b u e
  ·exact nit c _ z
theorem Inv.tok (I:Inv X pins σ H s) (t:Nat):Inv X pins σ H { s with toks:=t }:=I.un (h':=s.heap) (t':=t) Un.refl I.hok
theorem Inv.kept {t':Nat} (I:Inv X pins σ H s) (k:∀ b u,s.heap.get? b=some u->h'.get? b=some u):Inv X pins σ H { s with heap:=h',toks:=t' }:=I.un (Un.kept k) (I.hok.kept k)
theorem Inv.laid {a:Addr} {o:HO} {t':Nat} (I:Inv X pins σ H s) (k:∀ b u,s.heap.get? b=some u->h'.get? b=some u) (hp:s.heap.objs.size<=a) (new:ObjOk X.prog X.w (upd H a o) h' a o) :
 Inv X pins σ (upd H a o) { s with heap:=h',toks:=t' }:=I.un (Un.laid k hp (I.hok.fresh hp)) (I.hok.laid k hp new)
theorem Inv.write {x e:Addr} {o:HO} {t':Nat} (I:Inv X pins σ H s) (mu:Mut (H x)) (he:e=x\/H e=some (.own x)) (k:∀ b u,b≠e->s.heap.get? b=some u->h'.get? b=some u) (heo:∃ u,h'.get? e=some u)
 (new:ObjOk X.prog X.w (upd H x o) h' x o):Inv X pins σ (upd H x o) { s with heap:=h',toks:=t' }:=I.un (Un.write mu he k heo) (I.hok.write mu he k heo new)
theorem Inv.weak {σ':List (Option V)} (I:Inv X pins σ H s) (hl:σ'.length=σ.length) (w:∀ (i:Nat) v,σ'[i]? = some (some v)->σ[i]? = some (some v)):Inv X pins σ' H s :=
 ⟨I.ok,I.os,I.bare,I.base,let ⟨m,hn,hl'⟩:=I.loc;⟨m,hn,fun i x v e1 e2 e3=>hl' i x v e1 (w i v e2) e3⟩,I.cell,I.free,I.freeC,I.pin,I.hok,hl.trans I.len⟩
theorem Inv.pins_of {pins':List (Addr × Obj)} (I:Inv X pins σ H s) (h:∀ p∈pins',s.heap.get? p.1=some p.2/\H p.1=none/\p.1≠X.env.locals/\p.1∉X.fs/\∀ v,p.2.data≠.cell v):Inv X pins' σ H s :=
 ⟨I.ok,I.os,I.bare,I.base,I.loc,I.cell,I.free,I.freeC,fun p hp=>(List.mem_append.mp hp).elim (fun z=>I.pin p (List.mem_append_left _ z)) (h p),I.hok,I.len⟩
theorem MP {N:List Str} (hN:N.Nodup) {i j:Nat} {x:Str} (a:N[i]? = some x) (b:N[j]? = some x):i=j:=by
 obtain ⟨h1,e1⟩:=List.getElem?_eq_some_iff.mp a
 obtain ⟨h2,e2⟩:=List.getElem?_eq_some_iff.mp b
 exact (List.getElem_inj hN).mp (e1.trans e2.symm)
theorem MN {M:Model} {A:Around} {E:Value->Shared->Prop} {i:Nat} {x:Str} {v:V} {u:Value} {Q:Unit->Shared->Prop} (I:Inv X pins σ H s) (hN:X.N.Nodup) (hi:X.N[i]? = some x) (hx:Loc X.env.scope x) (r:RelV v u)
 (h:∀ s',Inv X pins (σ.set i (some v)) H s'->(∃ a,Heap.SameBut a s.heap s'.heap/\(a=X.env.locals\/X.env.cells.lookup x=some a))->Q () s') (hf:X.fn x=true\/X.env.scope.names.lookup x=some .local:=by first | exact .inl rfl | exact .inr rfl | assumption):wpAny M A (storeName X.env x u) Q E s:=by
 obtain ⟨m,hn,hl⟩:=id I.loc
 have hcls:(X.env.scope.kind == .class || (X.env.scope.kind == .module && X.env.locals != X.env.globals))=false:=by rw [I.ok.kind];rfl
 have hiσ:i < σ.length:=by rw [I.len];exact (List.getElem?_eq_some_iff.mp hi).1
 have cne:=I.cne
 have tracked:∀ {a:Addr} {h':Heap},(∃ o,s.heap.get? a=some o/\H a=none)->Heap.SameBut a s.heap h'->HOk X.prog X.w H h':=fun {a h'} ha hs b ob e=>by
  obtain ⟨_,_,hfree⟩:=ha
  refine (I.hok b ob e).stay (fun c w' hc q=>(hs.2 c ?_).trans q) (fun _ q=>q) fun _ _ q=>q
  rintro rfl
  rcases hc with rfl | hc
  ·rw [hfree] at e;cases e
  ·rw [hfree] at hc;cases hc
 rcases hx with hk | hk
 ·refine wpAny_storeName_local hk hn (fun h' hn' hs=>?_) hcls
  obtain ⟨oL,_,_,hoL,_⟩:=id hn
  refine h _ ⟨I.ok,I.os,I.bare,⟨fun b o e n hb hx=>?_,fun b o e n hb hx=>?_,I.base.free,fun b o e hx=>?_,I.base.tups,I.base.frzs,I.base.tbls⟩,⟨_,hn',fun j y v' e1 e2 e3=>?_⟩,fun y c e=>?_,I.free,I.freeC,fun p hp=>?_,tracked ⟨oL,hoL,I.free⟩ hs,by simpa using I.len⟩ ⟨_,hs,.inl rfl⟩
  ·exact (hs.2 b (Nat.ne_of_lt (Nat.lt_of_lt_of_le (Heap.lt_size e) I.ok.above))).trans (I.base.keep b o e n hb hx)
  ·obtain ⟨sl,e1⟩:=I.base.slot b o e n hb hx
   exact ⟨sl,(hs.2 b (Nat.ne_of_lt (Nat.lt_of_lt_of_le (Heap.lt_size e) I.ok.above))).trans e1⟩
  ·obtain ⟨o',e1⟩:=I.base.there b o e hx
   exact ⟨o',(hs.2 b (Nat.ne_of_lt (Nat.lt_of_lt_of_le (Heap.lt_size e) I.ok.above))).trans e1⟩
  ·by_cases hj:j=i
   ·subst hj
    rw [hi] at e1;cases e1
    rw [List.getElem?_set_self hiσ] at e2
    cases e2
    exact ⟨u,r,.inl ⟨hk,by simp⟩⟩
   ·rw [List.getElem?_set_ne (Ne.symm hj)] at e2
    obtain ⟨u',r',q⟩:=hl j y v' e1 e2 e3
    refine ⟨u',r',?_⟩
    rcases q with ⟨k,e⟩ | ⟨k,c,e,z⟩
    ·refine .inl ⟨k,?_⟩
     have:y≠x:=fun e=>hj (MP hN e1 (e ▸ hi))
     simp [this,e]
    ·exact .inr ⟨k,c,e,z.sameBut hs (cne y c e)⟩
  ·obtain ⟨w',z⟩:=I.cell y c e
   exact ⟨w',z.sameBut hs (cne y c e)⟩
  ·obtain ⟨e,n,ne,nf,d⟩:=I.pin p hp
   exact ⟨(hs.2 p.1 ne).trans e,n,ne,nf,d⟩
 ·have hfn:X.fn x=true:=by
   rcases hf with z | z
   ·exact z
   ·rw [z] at hk;cases hk
  obtain ⟨c,hc⟩:=I.ok.has x (.inl hk)
  obtain ⟨w',z⟩:=I.cell x c hc
  refine wpAny_storeName_cell I.ok.kind hk hc z (fun h' hc' hs=>?_)
  obtain ⟨oc,hoc,hocd⟩:=id z
  refine h { s with heap:=h' } ⟨I.ok,I.os,I.bare,⟨fun b o e n hb hx=>?_,fun b o e n hb hx=>?_,I.base.free,fun b o e hx=>?_,I.base.tups,I.base.frzs,I.base.tbls⟩,⟨m,hn.sameBut hs (Ne.symm (cne x c hc)),fun j y v' e1 e2 e3=>?_⟩,fun y c' e=>?_,I.free,I.freeC,fun p hp=>?_,tracked ⟨oc,hoc,I.freeC x c hc⟩ hs,by simpa using I.len⟩ ⟨c,hs,.inr hc⟩
  ·exact (hs.2 b (Nat.ne_of_lt (Nat.lt_of_lt_of_le (Heap.lt_size e) (I.ok.cab x c hfn hc)))).trans (I.base.keep b o e n hb hx)
  ·obtain ⟨sl,e1⟩:=I.base.slot b o e n hb hx
   exact ⟨sl,(hs.2 b (Nat.ne_of_lt (Nat.lt_of_lt_of_le (Heap.lt_size e) (I.ok.cab x c hfn hc)))).trans e1⟩
  ·obtain ⟨o',e1⟩:=I.base.there b o e hx
   exact ⟨o',(hs.2 b (Nat.ne_of_lt (Nat.lt_of_lt_of_le (Heap.lt_size e) (I.ok.cab x c hfn hc)))).trans e1⟩
  ·by_cases hj:j=i
   ·subst hj
    rw [hi] at e1;cases e1
    rw [List.getElem?_set_self hiσ] at e2
    cases e2
    exact ⟨u,r,.inr ⟨.inl hk,c,hc,hc'⟩⟩
   ·rw [List.getElem?_set_ne (Ne.symm hj)] at e2
    obtain ⟨u',r',q⟩:=hl j y v' e1 e2 e3
    refine ⟨u',r',?_⟩
    rcases q with q | ⟨k,c',e,z'⟩
    ·exact .inl q
    ·refine .inr ⟨k,c',e,z'.sameBut hs ?_⟩
     rintro rfl
     exact hj (MP hN e1 (I.ok.inj _ _ _ e hc ▸ hi))
  ·by_cases hcc:c'=c
   ·subst hcc;exact ⟨_,hc'⟩
   ·obtain ⟨w2,z2⟩:=I.cell y c' e
    exact ⟨w2,z2.sameBut hs hcc⟩
  ·obtain ⟨e,n,ne,nf,d⟩:=I.pin p hp
   refine ⟨(hs.2 p.1 ?_).trans e,n,ne,nf,d⟩
   intro q
   rw [q,hoc] at e
   have q':oc=p.2:=Option.some.inj e
   exact d w' (by rw [<- q'];exact hocd)
theorem KN {M:Model} {A:Around} {E:Value->Shared->Prop} {i:Nat} {x:Str} {v:V} {u:Value} {Q:Unit->Shared->Prop} (I:Inv X pins σ H s) (hN:X.N.Nodup) (hi:X.N[i]? = some x) (hx:Loc X.env.scope x) (r:RelV v u)
 (h:∀ s',Inv X pins (σ.set i (some v)) H s'->Q () s') (hf:X.fn x=true\/X.env.scope.names.lookup x=some .local:=by first | exact .inl rfl | exact .inr rfl | assumption):wpAny M A (storeName X.env x u) Q E s :=
 MN I hN hi hx r (fun s' I' _=>h s' I') hf
theorem Inv.call' {s':Shared} {ch:List Addr} (I:Inv X pins σ H s) (ho:s'.os=s.os) (u:Un (frs X.stack) ch H H' s.heap s'.heap) (hok:HOk X.prog X.w H' s'.heap) (hg:AllBare s'.gens)
 (hch:∀ b∈ch,(b∈X.ex\/X.s₀.heap.objs.size<=b)/\b≠X.env.locals/\(∀ x c,X.env.cells.lookup x=some c->c≠b)/\∀ p∈X.pn++pins,p.1≠b):Inv X pins σ H' s':=by
 obtain ⟨h',g',d',t',o'⟩:=s'
 have e:o'=s.os:=ho
 subst e
 exact I.call (g':=g') (t':=t') (d':=d') u hok hg hch
end
noncomputable abbrev XK:=Value->Option Addr->Hp->Prop
noncomputable abbrev St:=List (Option V)
noncomputable abbrev VK:=V->Hp->Prop
noncomputable abbrev TE:=St->Hp->VK->Prop
noncomputable abbrev TT:=St->Hp->(Bool->Hp->Prop)->Prop
noncomputable abbrev TA:=St->Hp->(List V->Hp->Prop)->Prop
structure Ends where
 nx:St->Hp->Prop
 rt:VK
 bk:St->Hp->Prop:=fun _ _=>False
 ct:St->Hp->Prop:=fun _ _=>False
noncomputable abbrev TS:=Ends->St->Hp->Prop
noncomputable def EP (X:Cx) (pins:List (Addr × Obj)) (σ:St) (Q:VK) (u:Value) (s':Shared):Prop:=∃ v H',Inv X pins σ H' s'/\RelV v u/\Q v H'
noncomputable def TP (X:Cx) (pins:List (Addr × Obj)) (σ:St) (Q:Bool->Hp->Prop) (b:Bool) (s':Shared):Prop:=∃ H',Inv X pins σ H' s'/\Q b H'
noncomputable def AP (X:Cx) (pins:List (Addr × Obj)) (σ:St) (Q:List V->Hp->Prop) (us:List Value) (s':Shared):Prop:=∃ vs H',Inv X pins σ H' s'/\Vals vs us/\Q vs H'
noncomputable def SP (X:Cx) (pins:List (Addr × Obj)) (D:Ends) (f:Flow) (s':Shared):Prop :=
 match f with
 | .next=>∃ σ' H',Inv X pins σ' H' s'/\D.nx σ' H'
 | .brk=>∃ σ' H',Inv X pins σ' H' s'/\D.bk σ' H'
 | .cont=>∃ σ' H',Inv X pins σ' H' s'/\D.ct σ' H'
 | .ret u=>∃ v σ' H',Inv X pins σ' H' s'/\RelV v u/\D.rt v H'
noncomputable def PE (X:Cx) (e:Expr) (t:TE):Prop :=
 ∀ (pins:List (Addr × Obj)) (s:Shared) (σ:St) (H:Hp) (Q:VK),Inv X pins σ H s->t σ H Q->wpAny (model X.prog X.w) X.A (eval e X.env) (EP X pins σ Q) X.xe s
noncomputable def PT (X:Cx) (e:Expr) (t:TT):Prop :=
 ∀ (pins:List (Addr × Obj)) (s:Shared) (σ:St) (H:Hp) (Q:Bool->Hp->Prop),Inv X pins σ H s->t σ H Q->wpAny (model X.prog X.w) X.A (isTrue e X.env (eval e X.env)) (TP X pins σ Q) X.xe s
noncomputable def PW (X:Cx) (e:Expr) (t:TT):Prop :=
 ∀ (whole:Sem Value) (pins:List (Addr × Obj)) (s:Shared) (σ:St) (H:Hp) (Q:Bool->Hp->Prop),Inv X pins σ H s->t σ H Q->wpAny (model X.prog X.w) X.A (isTrue e X.env whole) (TP X pins σ Q) X.xe s
theorem PW.pt {X:Cx} {e:Expr} {t:TT} (h:PW X e t):PT X e t:=h _
noncomputable def PA (X:Cx) (es:List Expr) (t:TA):Prop :=
 ∀ (pos:Pos) (pins:List (Addr × Obj)) (s:Shared) (σ:St) (H:Hp) (Q:List V->Hp->Prop),Inv X pins σ H s->t σ H Q->wpAny (model X.prog X.w) X.A (spliced (backTo pos (starEach es X.env))) (AP X pins σ Q) X.xe s
noncomputable def PS (X:Cx) (st:Stmt) (t:TS):Prop :=
 ∀ (pins:List (Addr × Obj)) (s:Shared) (σ:St) (H:Hp) (D:Ends),Inv X pins σ H s->t D σ H->wpAny (model X.prog X.w) X.A (exec st X.env) (SP X pins D) X.xe s
noncomputable def PSs (X:Cx) (st:List Stmt) (t:TS):Prop :=
 ∀ (pins:List (Addr × Obj)) (s:Shared) (σ:St) (H:Hp) (D:Ends),Inv X pins σ H s->t D σ H->wpAny (model X.prog X.w) X.A (execs st X.env) (SP X pins D) X.xe s
theorem thn {α:Type} {t:Sem α} {Q Q':α->Shared->Prop} {M:Model} {A:Around} {E:Value->Shared->Prop} {s:Shared} (h:wpAny M A t Q E s) (hQ:∀ a s,Q a s->Q' a s):wpAny M A t Q' E s:=wpAny_mono h hQ fun _ _ x=>x
section
variable {X:Cx}
noncomputable def Pn (i:Nat):TE:=fun σ H Q=>∃ v,σ[i]? = some (some v)/\Q v H
noncomputable def tC (v:V):TE:=fun _ H Q=>Q v H
theorem Nc {i:Nat} {x:Str} {pos:Pos} (hN:X.N[i]? = some x) (hv:Vis X.env.scope x) (hd:(x == ("__debug__" : Str))=false:=by decide) (hcd:(x == ("__classdict__" : Str))=false:=by decide):PE X (.Name x pos) (Pn i):=by
 intro pins s σ H Q I h
 obtain ⟨v,e,h⟩:=h
 obtain ⟨m,hn,hl⟩:=I.loc
 obtain ⟨u,r,l⟩:=hl i x v hN e hv
 have fin:EP X pins σ Q u s:=⟨v,H,I,r,h⟩
 rcases l with ⟨hk,hm⟩ | ⟨hk,c,hc,hcell⟩
 ·exact wpAny_Name (wpAny_loadName_local I.ok.kind hk hn hm fin) hd
 ·rcases hk with hk | hk
  ·exact wpAny_Name (wpAny_loadName_cell I.ok.kind hk hc hcell fin) hd
  ·exact wpAny_Name (wpAny_loadName_free I.ok.kind hk hc hcell fin hcd) hd
theorem AC {i j pos}:PE X (.Constant (.int i) j pos) (tC (.int i)):=fun _ _ _ H _ I h=>wpAny_Constant_int ⟨.int i,H,I.tok _,⟨_,rfl⟩,h⟩
theorem Bm {b j pos}:PE X (.Constant (.bool b) j pos) (tC (.bl b)):=fun _ _ _ H _ I h=>Constant_bool ⟨.bl b,H,I,rfl,h⟩
theorem CN {j pos}:PE X (.Constant .none j pos) (tC .non):=fun _ _ _ H _ I h=>Constant_none ⟨.non,H,I,rfl,h⟩
theorem Ln {x j pos}:PE X (.Constant (.str x) j pos) (tC (.str x)):=fun _ _ _ H _ I h=>Calls.Constant_str ⟨.str x,H,I.tok _,⟨_,rfl⟩,h⟩
noncomputable def Gl (X:Cx) (x:Str):Prop:=X.env.kindOf x=some .globalImplicit
theorem KQ {E:Value->Shared->Prop} {pins:List (Addr × Obj)} {s:Shared} {σ:St} {H:Hp} {x:Str} {u:Value} {pos:Pos} {Q:Value->Shared->Prop} (I:Inv X pins σ H s) (hg:Gl X x) (hm:X.mg x=some u) (h:Q u s)
 (hd:(x == ("__debug__" : Str))=false:=by decide):wpAny (model X.prog X.w) X.A (eval (.Name x pos) X.env) Q E s :=
 Calls.Name_function_global I.ok.kind hg (Calls.loadGlobal_global (by rw [I.ok.glob];exact I.mod.glob.keeps I.bk) hm h) hd
theorem CP {E:Value->Shared->Prop} {pins:List (Addr × Obj)} {s:Shared} {σ:St} {H:Hp} {x:Str} {u:Value} {pos:Pos} {Q:Value->Shared->Prop} (I:Inv X pins σ H s) (hg:Gl X x) (hm:X.mg x=none) (hv:bootBuiltins x=some u) (h:Q u s)
 (hn:x ≠ "__name__":=by decide) (hd:(x == ("__debug__" : Str))=false:=by decide):wpAny (model X.prog X.w) X.A (eval (.Name x pos) X.env) Q E s:=by
 obtain ⟨mb,h1,h2⟩:=I.mod.blt
 exact Calls.Name_function_global I.ok.kind hg (Calls.loadGlobal_builtin (by rw [I.ok.glob];exact I.mod.glob.keeps I.bk) hm (by rw [I.ok.blt];exact h1.keeps I.bk) ((h2 x hn).trans hv) h) hd
variable {a b:Expr} {ta tb:TE} {pos:Pos}
theorem GH (b:Expr) {op:CmpOp} (h:op≠.In) (h2:op≠.NotIn):behindInMarks op b=false:=by
 have e1:(op == CmpOp.In)=false:=by cases op <;> first | rfl | exact absurd rfl h
 have e2:(op == CmpOp.NotIn)=false:=by cases op <;> first | rfl | exact absurd rfl h2
 cases b <;> simp [behindInMarks,e1,e2]
variable {tA tB':TT} {rest:List Expr}
noncomputable def Kr (t u:TT):TT:=fun σ H Q=>t σ H fun c H1=>if c=true then u σ H1 Q else Q false H1
noncomputable def tOr (t u:TT):TT:=fun σ H Q=>t σ H fun c H1=>if c=true then Q true H1 else u σ H1 Q
noncomputable def JO (t:TT):TT:=fun σ H Q=>t σ H fun c H1=>Q (!c) H1
theorem FO (ha:PT X a tA):PW X (.BoolOp .And [a] pos) tA:=by
 intro wh pins s σ H Q I h
 refine isTrue_and (thn (ha pins s σ H Q I h) fun c s1 e=>?_)
 cases c with
 | true=>exact isTrue_and_nil e
 | false=>exact e
theorem Kk (ha:PT X a tA):PW X (.BoolOp .Or [a] pos) tA:=by
 intro wh pins s σ H Q I h
 refine isTrue_or (thn (ha pins s σ H Q I h) fun c s1 e=>?_)
 cases c with
 | false=>exact isTrue_or_nil e
 | true=>exact e
theorem FM (ha:PT X a tA) (hb:PW X (.BoolOp .And (b::rest) pos) tB'):PW X (.BoolOp .And (a::b::rest) pos) (Kr tA tB'):=by
 intro wh pins s σ H Q I h
 refine isTrue_and (thn (ha pins s σ H _ I h) fun c s1 ⟨H1,I1,q1⟩=>?_)
 cases c with
 | true=>exact hb wh pins s1 σ H1 Q I1 q1
 | false=>exact ⟨H1,I1,q1⟩
theorem G3 (ha:PT X a tA) (hb:PW X (.BoolOp .Or (b::rest) pos) tB'):PW X (.BoolOp .Or (a::b::rest) pos) (tOr tA tB'):=by
 intro wh pins s σ H Q I h
 refine isTrue_or (thn (ha pins s σ H _ I h) fun c s1 ⟨H1,I1,q1⟩=>?_)
 cases c with
 | true=>exact ⟨H1,I1,q1⟩
 | false=>exact hb wh pins s1 σ H1 Q I1 q1
theorem JM (ha:PT X a tA):PT X (.UnaryOp .Not a pos) (JO tA):=by
 intro pins s σ H Q I h
 exact isTrue_not (ha pins s σ H (fun c H1=>Q (!c) H1) I h)
noncomputable def Td (ta tb:TE):TE:=fun σ H Q=>ta σ H fun x H1=>∃ c,x=.bl c/\if c=true then tb σ H1 Q else Q (.bl false) H1
noncomputable def ND (ta:TE):TE:=fun σ H Q=>ta σ H fun x H1=>∃ c,x=.bl c/\Q (.bl (!c)) H1
theorem Mf {op} {t:TE} (h:PE X a t):PE X (.BoolOp op [a] pos) t:=fun pins s σ H Q I hw=>BoolOp_one (h pins s σ H Q I hw)
theorem OW (ha:PE X a ta) (hb:PE X (.BoolOp .And (b::rest) pos) tb):PE X (.BoolOp .And (a::b::rest) pos) (Td ta tb):=by
 intro pins s σ H Q I h
 refine BoolOp_and (thn (ha pins s σ H _ I h) fun v s1 ⟨x,H1,I1,r1,q1⟩=>?_)
 obtain ⟨c,rfl,q1⟩:=q1
 cases r1
 refine wpAny_truthy_bool ?_
 cases c with
 | true=>exact hb pins s1 σ H1 Q I1 q1
 | false=>exact ⟨.bl false,H1,I1,rfl,q1⟩
theorem QU (ha:PE X a ta):PE X (.UnaryOp .Not a pos) (ND ta):=by
 intro pins s σ H Q I h
 refine UnaryOp_ (thn (ha pins s σ H _ I h) fun v s1 ⟨x,H1,I1,r1,q1⟩=>?_)
 obtain ⟨c,rfl,q1⟩:=q1
 cases r1
 exact not_of (wpAny_truthy_bool ⟨.bl (!c),H1,I1,rfl,q1⟩)
noncomputable def tIf (t:TT) (ta tb:TE):TE:=fun σ H Q=>t σ H fun c H1=>if c=true then ta σ H1 Q else tb σ H1 Q
theorem Ec {c:Expr} (hc:PT X c tA) (ha:PE X a ta) (hb:PE X b tb):PE X (.IfExp c a b pos) (tIf tA ta tb):=by
 intro pins s σ H Q I h
 refine wpAny_IfExp (thn (hc pins s σ H _ I h) fun d s1 ⟨H1,I1,q1⟩=>?_)
 cases d with
 | true=>exact ha pins s1 σ H1 Q I1 q1
 | false=>exact hb pins s1 σ H1 Q I1 q1
end
noncomputable def SqL (K:W.Frag) (H:Hp) (a:Addr) (xs:List V):Prop :=
 Rd H a (.lst xs) \/
  ∃ (o:Obj) (its:Array Value) (n:Nat),K.lookup a=some o/\o.cls=.type "list" /\ o.dict=none/\o.data=.seq its n/\its.size<=sizeLine/\Vals xs its.toList
noncomputable def SqT (K:W.Frag) (H:Hp) (a:Addr) (xs:List V):Prop :=
 Rd H a (.tup xs) \/
  ∃ (o:Obj) (its:Array Value) (n:Nat),K.lookup a=some o/\o.cls=.type "tuple" /\ o.dict=none/\o.data=.seq its n/\its.size<=sizeLine/\Vals xs its.toList
noncomputable def NJ:Value->Option V
 | .none=>some .non
 | .bool b=>some (.bl b)
 | .int i _=>some (.int i)
 | .str x _=>some (.str x)
 | .bytes b _=>some (.byt b)
 | .float b _=>some (.flt b)
 | .ref a=>some (.ref a)
 | .type n=>some (.ty n)
 | _=>none
theorem RelV.abs {x:V} {u:Value} (r:RelV x u):NJ u=some x:=by
 cases x with
 | non=>cases r;rfl
 | bl _=>cases r;rfl
 | int _=>obtain ⟨t,rfl⟩:=r;rfl
 | str _=>obtain ⟨t,rfl⟩:=r;rfl
 | byt _=>obtain ⟨t,rfl⟩:=r;rfl
 | flt _=>obtain ⟨t,rfl⟩:=r;rfl
 | ref _=>cases r;rfl
 | ty _=>cases r;rfl
theorem RelV.inj {x y:V} {u:Value} (r:RelV x u) (q:RelV y u):x=y:=Option.some.inj (r.abs.symm.trans q.abs)
theorem Vals.inj:∀ {xs ys:List V} {us:List Value},Vals xs us->Vals ys us->xs=ys
 | _,_,_,.nil,.nil=>rfl
 | _,_,_,.cons r t,.cons r' t'=>by rw [r.inj r',Vals.inj t t']
section
variable {X:Cx} {pins:List (Addr × Obj)} {σ:St} {H:Hp} {s:Shared} {a:Addr} {xs ys:List V}
theorem SqL.of {K:W.Frag} (h:H a=some (.lst xs)):SqL K H a xs:=.inl (.inl h)
theorem SqT.of {K:W.Frag} (h:H a=some (.tup xs)):SqT K H a xs:=.inl (.inl h)
theorem Inv.list (I:Inv X pins σ H s) (h:SqL X.K H a xs):∃ its:List Value,Vals xs its/\PlainL s.heap a its.toArray/\xs.length<=sizeLine:=by
 rcases h with h | ⟨o,its,n,hk,hc,hd,hs,hz,r⟩
 ·obtain ⟨z,its,n,r,e⟩:=h.ok I.hok
  exact ⟨its,r,⟨_,n,e,rfl,rfl,rfl⟩,z⟩
 ·refine ⟨its.toList,r,⟨o,n,I.kIn a o hk,hc,hd,by simpa using hs⟩,?_⟩
  have e:=r.length
  simp only [Array.length_toList] at e
  lia
theorem Inv.tuple (I:Inv X pins σ H s) (h:SqT X.K H a xs):∃ its:List Value,Vals xs its/\IsTup s.heap a its.toArray/\xs.length<=sizeLine:=by
 rcases h with h | ⟨o,its,n,hk,hc,hdd,hs,hz,r⟩
 ·obtain ⟨z,its,r,p⟩:=h.ok I.hok
  exact ⟨its,r,p.tup,z⟩
 ·refine ⟨its.toList,r,⟨o,I.kIn a o hk,hc,n,by simpa using hs⟩,?_⟩
  have e:=r.length
  simp only [Array.length_toList] at e
  lia
theorem Inv.tupleN (I:Inv X pins σ H s) (h:SqT X.K H a xs):∃ its:List Value,Vals xs its/\IsTupN s.heap a its.toArray/\xs.length<=sizeLine:=by
 rcases h with h | ⟨o,its,n,hk,hc,hdd,hs,hz,r⟩
 ·obtain ⟨z,its,r,p⟩:=h.ok I.hok
  exact ⟨its,r,p,z⟩
 ·refine ⟨its.toList,r,⟨o,I.kIn a o hk,hc,⟨n,by simpa using hs⟩,hdd⟩,?_⟩
  have e:=r.length
  simp only [Array.length_toList] at e
  lia
theorem Inv.list_inj (I:Inv X pins σ H s) (h:SqL X.K H a xs) (h':SqL X.K H a ys):xs=ys:=by
 obtain ⟨its,r,⟨o,n,e,_,_,d⟩,_⟩:=I.list h
 obtain ⟨its',r',⟨o',n',e',_,_,d'⟩,_⟩:=I.list h'
 rw [e] at e';cases e'
 rw [d] at d'
 injection d' with d1 _
 have:its=its':=by simpa using congrArg Array.toList d1
 subst this
 exact r.inj r'
theorem Inv.tuple_inj (I:Inv X pins σ H s) (h:SqT X.K H a xs) (h':SqT X.K H a ys):xs=ys:=by
 obtain ⟨its,r,⟨o,e,_,n,d⟩,_⟩:=I.tuple h
 obtain ⟨its',r',⟨o',e',_,n',d'⟩,_⟩:=I.tuple h'
 rw [e] at e';cases e'
 rw [d] at d'
 injection d' with d1 _
 have:its=its':=by simpa using congrArg Array.toList d1
 subst this
 exact r.inj r'
end
noncomputable abbrev Cx.wish (X:Cx) (E:Value->Shared->Prop):Cx:={ X with xe:=E }
noncomputable abbrev Cx.nox (X:Cx):Cx:=X.wish fun _ _=>False
theorem Cx.Ok.wish {X:Cx} (ok:X.Ok) (E:Value->Shared->Prop):(X.wish E).Ok :=
 ⟨ok.mod,ok.kind,ok.glob,ok.blt,ok.above,ok.inj,ok.has,ok.cab,ok.hd,ok.frames,ok.stk,ok.exf,ok.bs,ok.bsz,ok.noex,ok.exfs,ok.funs,ok.frf⟩
theorem Cx.Ok.unwish {X:Cx} {E:Value->Shared->Prop} (ok:(X.wish E).Ok):X.Ok :=
 ⟨ok.mod,ok.kind,ok.glob,ok.blt,ok.above,ok.inj,ok.has,ok.cab,ok.hd,ok.frames,ok.stk,ok.exf,ok.bs,ok.bsz,ok.noex,ok.exfs,ok.funs,ok.frf⟩
section
variable {X:Cx} {pins:List (Addr × Obj)} {σ:St} {H:Hp} {s:Shared} {E:Value->Shared->Prop}
theorem Inv.wish (I:Inv X pins σ H s) (E:Value->Shared->Prop):Inv (X.wish E) pins σ H s:=⟨I.ok.wish E,I.os,I.bare,I.base,I.loc,I.cell,I.free,I.freeC,I.pin,I.hok,I.len⟩
theorem Inv.unwish (I:Inv (X.wish E) pins σ H s):Inv X pins σ H s:=⟨I.ok.unwish,I.os,I.bare,I.base,I.loc,I.cell,I.free,I.freeC,I.pin,I.hok,I.len⟩
theorem SP.unwish {D:Ends} {f:Flow} {s':Shared} (h:SP (X.wish E) pins D f s'):SP X pins D f s':=by
 cases f with
 | next=>obtain ⟨σ',H',I,q⟩:=h;exact ⟨σ',H',I.unwish,q⟩
 | brk=>obtain ⟨σ',H',I,q⟩:=h;exact ⟨σ',H',I.unwish,q⟩
 | cont=>obtain ⟨σ',H',I,q⟩:=h;exact ⟨σ',H',I.unwish,q⟩
 | ret u=>obtain ⟨v,σ',H',I,r,q⟩:=h;exact ⟨v,σ',H',I.unwish,r,q⟩
theorem PSs.nox {st:List Stmt} {t:TS} (h:PSs X.nox st t):PSs X st t:=fun pins s σ H D I hw =>
 wpAny_mono (h pins s σ H D (I.wish _) hw) (fun _ _ q=>q.unwish) fun _ _ z=>False.elim z
end
section
variable {X:Cx} {st:Stmt} {rest:List Stmt} {t u:TS} {e:Expr} {te:TE} {pos:Pos}
noncomputable def Bj:TS:=fun D σ H=>D.nx σ H
noncomputable def GI (t u:TS):TS:=fun D σ H=>t { D with nx:=u D } σ H
theorem Av:PSs X [] Bj:=fun _ _ σ H _ I h=>wpAny_execs_nil ⟨σ,H,I,h⟩
theorem AG (h1:PS X st t) (h2:PSs X rest u):PSs X (st::rest) (GI t u):=by
 intro pins s σ H D I h
 refine wpAny_execs_cons (thn (h1 pins s σ H { D with nx:=u D } I h) fun f s1 q=>?_)
 cases f with
 | next =>
  obtain ⟨σ',H',I',q⟩:=q
  exact h2 pins s1 σ' H' D I' q
 | ret v=>exact q
 | brk=>exact q
 | cont=>exact q
theorem AI (h1:PS X st t):PSs X [st] t:=by
 intro pins s σ H D I h
 refine wpAny_execs_cons (thn (h1 pins s σ H D I h) fun f s1 q=>?_)
 cases f with
 | next=>exact wpAny_execs_nil q
 | ret v=>exact q
 | brk=>exact q
 | cont=>exact q
theorem Inv.quiet {pins:List (Addr × Obj)} {σ:St} {H:Hp} {s:Shared} (I:Inv X pins σ H s):interactive X.env=false:=by simp [interactive,I.ok.kind]
noncomputable def Hx (te:TE):TS:=fun D σ H=>te σ H fun _ H1=>D.nx σ H1
theorem CD (he:PE X e te) (hs:swapsWith e none pos.line X.env=pure false:=by rfl):PS X (.Expr e pos) (Hx te):=by
 intro pins s σ H D I h
 exact wpAny_Expr_any (thn (he pins s σ H _ I h) fun v s1 ⟨x,H1,I1,r1,q1⟩=>⟨σ,H1,I1,q1⟩) I.quiet hs
noncomputable def LU (te:TE):TS:=fun D σ H=>te σ H D.rt
theorem AN (he:PE X e te):PS X (.Return (some e) pos) (LU te):=by
 intro pins s σ H D I h
 exact wpAny_Return_some (thn (he pins s σ H _ I h) fun v s1 ⟨x,H1,I1,r1,q1⟩=>⟨x,σ,H1,I1,r1,q1⟩)
noncomputable def JQ (c:TT) (t u:TS):TS:=fun D σ H=>c σ H fun b H1=>if b=true then t D σ H1 else u D σ H1
theorem Aw {c:Expr} {a b:List Stmt} {tc:TT} (hc:PT X c tc) (ha:PSs X a t) (hb:PSs X b u):PS X (.If c a b pos) (JQ tc t u):=by
 intro pins s σ H D I h
 refine wpAny_If (thn (hc pins s σ H _ I h) fun d s1 ⟨H1,I1,q1⟩=>?_)
 cases d with
 | true=>exact ha pins s1 σ H1 D I1 q1
 | false=>exact hb pins s1 σ H1 D I1 q1
noncomputable def JB:TS:=fun _ _ _=>False
theorem Gx:PS X st JB:=fun _ _ _ _ _ _ h=>h.elim
end
noncomputable abbrev TG:=V->St->Hp->(St->Hp->Prop)->Prop
noncomputable abbrev TGs:=List V->St->Hp->(St->Hp->Prop)->Prop
noncomputable def PG (X:Cx) (target:Expr) (t:TG):Prop :=
 ∀ (pins:List (Addr × Obj)) (s:Shared) (σ:St) (H:Hp) (v:V) (u:Value) (Q:St->Hp->Prop),Inv X pins σ H s->RelV v u->t v σ H Q ->
  wpAny (model X.prog X.w) X.A (assign target X.env u) (fun _ s'=>∃ σ' H',Inv X pins σ' H' s'/\Q σ' H') X.xe s
noncomputable def PGs (X:Cx) (ts:List Expr) (t:TGs):Prop :=
 ∀ (pins:List (Addr × Obj)) (s:Shared) (σ:St) (H:Hp) (vs:List V) (us:List Value) (Q:St->Hp->Prop),Inv X pins σ H s->Vals vs us->t vs σ H Q ->
  wpAny (model X.prog X.w) X.A (assignInOrder ((assignEach ts X.env).map (·.2)) us) (fun _ s'=>∃ σ' H',Inv X pins σ' H' s'/\Q σ' H') X.xe s
noncomputable abbrev Dt:=V->V->V->Hp->(Hp->Prop)->Prop
noncomputable def He (X:Cx) (t:Dt):Prop :=
 ∀ (pins:List (Addr × Obj)) (s:Shared) (σ:St) (H:Hp) (o i v:V) (ov iv u:Value) (Q:Hp->Prop),Inv X pins σ H s->RelV o ov->RelV i iv->RelV v u->t o i v H Q ->
  wpAny (model X.prog X.w) X.A (setItem ov iv u) (fun _ s'=>∃ H',Inv X pins σ H' s'/\Q H') X.xe s
section
variable {X:Cx} {pos:Pos}
noncomputable def AR (i:Nat):TG:=fun v σ H Q=>Q (σ.set i (some v)) H
theorem AX {i:Nat} {x:Str} (hN:X.N.Nodup) (hi:X.N[i]? = some x) (hx:Loc X.env.scope x) (hf:X.fn x=true\/X.env.scope.names.lookup x=some .local:=by first | exact .inl rfl | exact .inr rfl | assumption):PG X (.Name x pos) (AR i):=by
 intro pins s σ H v u Q I r h
 exact wpAny_assign_Name (KN I hN hi hx r (fun s' I'=>⟨_,H,I',h⟩) hf)
noncomputable def IF:TGs:=fun vs σ H Q=>vs=[]/\Q σ H
noncomputable def Gb (t:TG) (u:TGs):TGs:=fun vs σ H Q=>∃ v r,vs=v::r/\t v σ H fun σ' H'=>u r σ' H' Q
theorem Ei:PGs X [] IF:=by
 intro pins s σ H vs us Q I r h
 obtain ⟨e,h⟩:=h
 subst e
 cases r
 exact assignInOrder_nil ⟨σ,H,I,h⟩
theorem CC {e:Expr} {es:List Expr} {t:TG} {u:TGs} (h1:PG X e t) (h2:PGs X es u)
 (hs:(assignEach (e::es) X.env).map (·.2)=assign e X.env::(assignEach es X.env).map (·.2):=by rfl):PGs X (e::es) (Gb t u):=by
 intro pins s σ H vs us Q I r h
 obtain ⟨v,vr,e1,h⟩:=h
 subst e1
 cases r with
 | cons r rr =>
  rw [hs]
  refine assignInOrder_cons (thn (h1 pins s σ H _ _ _ I r h) fun _ s1 ⟨σ1,H1,I1,q1⟩=>?_)
  exact h2 pins s1 σ1 H1 _ _ Q I1 rr q1
noncomputable def HB (K:W.Frag) (n:Nat) (t:TGs):TG:=fun v σ H Q=>∃ a xs,v=.ref a/\SqT K H a xs/\xs.length=n/\t xs σ H Q
theorem Lm {es:List Expr} {k:Nat} {t:TGs} {n:Nat} (hc:X.calm=true) (h:PGs X es t)
 (hn:(assignEach es X.env).length=n:=by rfl) (hst:(assignEach es X.env).findIdx? (·.1)=none:=by rfl):PG X (.Tuple es k pos) (HB X.K n t):=by
 intro pins s σ H v u Q I r hw
 obtain ⟨a,xs,e1,hq,hl,hw⟩:=hw
 subst e1
 cases r
 obtain ⟨its,rv,ht,hz⟩:=I.tuple hq
 refine assign_Tuple_tuple (I.ok.hd hc) ht (by simp [hn,<- hl,rv.length]) hst fun h' hx=>?_
 have I1:Inv X pins σ H { s with heap:=h' }:=I.kept (t':=s.toks) fun b o e=>hx b o (Nat.ne_of_lt (Heap.lt_size e)) e
 exact h pins _ σ H xs _ Q I1 (by simpa using rv) hw
noncomputable def MU (to ti:TE) (t:Dt):TG:=fun v σ H Q=>to σ H fun o H1=>ti σ H1 fun i H2=>t o i v H2 fun H3=>Q σ H3
theorem Dm {o i:Expr} {to ti:TE} {t:Dt} (ho:PE X o to) (hi:PE X i ti) (hs:He X t)
 (ha:∀ v,assign (.Subscript o i pos) X.env v=(do
   let ov <- holding [v] (eval o X.env)
   let iv <- holding [v,ov] (eval i X.env)
   standAt pos
   holding [v,ov,iv] (setItem ov iv v)
   release [v,ov,iv] []):=by intro _;rfl):PG X (.Subscript o i pos) (MU to ti t):=by
 intro pins s σ H v u Q I r h
 rw [ha]
 refine wpAny_bind (wpAny_holding (thn (ho pins s σ H _ I h) fun ov s1 ⟨x,H1,I1,r1,q1⟩=>?_))
 refine wpAny_bind (wpAny_holding (thn (hi pins s1 σ H1 _ I1 q1) fun iv s2 ⟨y,H2,I2,r2,q2⟩=>?_))
 refine wpAny_bind (wpAny_standAt (wpAny_bind (wpAny_holding (thn (hs pins s2 σ H2 x y v ov iv u _ I2 r1 r2 r q2) fun _ s3 ⟨H3,I3,q3⟩=>?_))))
 exact wpAny_release ⟨σ,H3,I3,q3⟩
noncomputable def Dg (te:TE) (g:TG):TS:=fun D σ H=>te σ H fun x H1=>g x σ H1 D.nx
theorem EJ {tg e:Expr} {te:TE} {g:TG} (he:PE X e te) (hg:PG X tg g) (hs:swapsWithSole [tg] e pos.line X.env=pure false:=by rfl) (hw:swappedStores [tg] e X.env=pure none:=by rfl)
 (h1:(assignEach [tg] X.env).map (·.2)=[assign tg X.env]:=by rfl):PS X (.Assign [tg] e pos) (Dg te g):=by
 intro pins s σ H D I h
 refine wpAny_Assign_stores (thn (he pins s σ H _ I h) fun v s1 ⟨x,H1,I1,r1,q1⟩=>?_) hs hw
 rw [h1]
 exact thn (hg pins s1 σ H1 x v _ I1 r1 q1) fun _ s2 q=>q
theorem AM {i:Nat} {x:Str} {e:Expr} {te:TE} {pos':Pos} (hN:X.N.Nodup) (hi:X.N[i]? = some x) (hx:Loc X.env.scope x) (he:PE X e te) (hs:swapsWith e (some (.Name x pos')) pos.line X.env=pure false:=by rfl) (hf:X.fn x=true\/X.env.scope.names.lookup x=some .local:=by first | exact .inl rfl | exact .inr rfl | assumption) :
 PS X (.Assign [.Name x pos'] e pos) (Dg te (AR i)):=by
 intro pins s σ H D I h
 refine wpAny_Assign_Name (thn (he pins s σ H _ I h) fun v s1 ⟨y,H1,I1,r1,q1⟩=>?_) hs
 exact KN I1 hN hi hx r1 (fun s2 I2=>⟨_,H1,I2,q1⟩) hf
end
section
variable {X:Cx} {pos:Pos}
end
structure It where
 go:Nat->Hp->Prop
 yld:Nat->Hp->V->Hp->Prop
 stop:Nat->Hp->Prop
noncomputable def BE (X:Cx) (pins:List (Addr × Obj)) (H:Hp) (b:Addr):Prop :=
 H b=none/\b≠X.env.locals/\b∉X.fs/\(b∈X.ex\/X.s₀.heap.objs.size<=b)/\(∀ x c,X.env.cells.lookup x=some c->c≠b)/\∀ p∈X.pn++pins,p.1≠b
theorem Inv.fpOk {X:Cx} {pins:List (Addr × Obj)} {σ:St} {H H':Hp} {s:Shared} {b:Addr} (I:Inv X pins σ H s) (hb:s.heap.objs.size<=b) (hn:H' b=none):BE X pins H' b:=by
 refine ⟨hn,Nat.ne_of_gt (Nat.lt_of_lt_of_le I.lt hb),I.nofs hb,.inr (Nat.le_trans I.sz hb),fun x c e z=>?_,fun p hp z=>?_⟩
 ·obtain ⟨v,q⟩:=I.cell x c e
  exact absurd (Nat.lt_of_lt_of_le q.lt (by rw [z];exact hb)) (Nat.lt_irrefl _)
 ·exact absurd (Nat.lt_of_lt_of_le (Heap.lt_size (I.pin p hp).1) (by rw [z];exact hb)) (Nat.lt_irrefl _)
structure Turn (P:Program) (w:World) (K:W.Frag) (tg:Expr) (J:It) (fp:List Addr) (it:Addr) (tn:Nat->Heap->Prop):Prop where
 mem:it∈fp
 obj:∀ i h,tn i h->∀ b∈fp,∃ o,h.get? b=some o/\∀ v,o.data≠.cell v
 keep:∀ i h h',tn i h->(∀ b∈fp,∀ o,h.get? b=some o->h'.get? b=some o)->tn i h'
 item:∀ (X:Cx),X.prog=P->X.w=w->X.K=K->X.calm=true->∀ (i:Nat) (pins:List (Addr × Obj)) (s:Shared) (σ:St) (H:Hp) (E:Value->Shared->Prop),Inv X pins σ H s->(∀ b∈fp,BE X pins H b)->tn i s.heap->J.go i H ->
  wpAny (model P w) X.A (pyNext (.ref it)) (fun r s1=>∃ u,r=some u /\
   wpAny (model P w) X.A (letOwnedTupleGo tg (.ref it) u) (fun _ s2=>∃ x H',Inv X pins σ H' s2/\RelV x u/\J.yld i H x H'/\tn (i+1) s2.heap/\∀ b∈fp,H' b=none) E s1) E s
 done:∀ (X:Cx),X.prog=P->X.w=w->X.K=K->X.calm=true->∀ (i:Nat) (pins:List (Addr × Obj)) (s:Shared) (σ:St) (H:Hp) (E:Value->Shared->Prop),Inv X pins σ H s->(∀ b∈fp,BE X pins H b)->tn i s.heap->J.stop i H ->
  wpAny (model P w) X.A (pyNext (.ref it)) (fun r s1=>r=none/\Inv X pins σ H s1) E s
 self:∀ (A:Around) (i:Nat) (s:Shared) (Q:Value->Shared->Prop) (E:Value->Shared->Prop),tn i s.heap->Q (.ref it) s->wpAny (model P w) A (pyIter (.ref it)) Q E s
noncomputable abbrev TI:=St->Hp->(It->Hp->Prop)->Prop
noncomputable def PIE (X:Cx) (pins:List (Addr × Obj)) (σ:St) (tg:Expr) (R:It->Hp->Prop) (itv:Value) (s2:Shared):Prop :=
 ∃ (it:Addr) (fp:List Addr) (tn:Nat->Heap->Prop) (J:It) (H':Hp),itv=.ref it/\Inv X pins σ H' s2/\Turn X.prog X.w X.K tg J fp it tn/\tn 0 s2.heap/\(∀ b∈fp,BE X pins H' b)/\R J H'
noncomputable def PI (X:Cx) (tg iter:Expr) (wi:TI):Prop :=
 ∀ (pins:List (Addr × Obj)) (s:Shared) (σ:St) (H:Hp) (R:It->Hp->Prop),Inv X pins σ H s->wi σ H R ->
  wpAny (model X.prog X.w) X.A (eval iter X.env) (fun v s1=>wpAny (model X.prog X.w) X.A (pyIter v) (PIE X pins σ tg R) X.xe s1) X.xe s
theorem Hl {M:Model} {A:Around} {E:Value->Shared->Prop} {s:Shared} {tg:Expr} {it:Addr} {u:Value} {o:Obj} {n:String} {vs:Array Value} {Q:Unit->Shared->Prop} (ho:s.heap.get? it=some o) (hc:o.cls=.type n) (hd:o.data=.fields vs)
 (hn:["enumerate","zip","dict_itemiterator","dict_reverseitemiterator","odict_iterator","itertools.zip_longest","itertools.pairwise"].contains n=false) (hQ:Q () s):wpAny M A (letOwnedTupleGo tg (.ref it) u) Q E s:=by
 unfold letOwnedTupleGo
 cases tg <;> first
  | exact wpAny_pure hQ
  | (cases u <;> first
      | exact wpAny_pure hQ
      | (refine wpAny_bind (wpAny_load ho ?_)
         rw [hc,hd]
         show wpAny M A (if (["enumerate","zip","dict_itemiterator","dict_reverseitemiterator","odict_iterator","itertools.zip_longest","itertools.pairwise"].contains n && vs[0]? == some (rawInt _))=true then _ else _) Q E s
         rw [if_neg (by intro h;rw [hn,Bool.false_and] at h;cases h)]
         exact wpAny_pure hQ))
noncomputable def Itl (K:W.Frag) (a:Addr):It :=
 ⟨fun i H=>∃ xs x,SqL K H a xs/\xs[i]? = some x,fun i H x H'=>H'=H/\∀ xs,SqL K H a xs->xs[i]? = some x,fun i H=>∃ xs,SqL K H a xs/\xs.length<=i⟩
noncomputable def Itt (K:W.Frag) (a:Addr):It :=
 ⟨fun i H=>∃ xs x,SqT K H a xs/\xs[i]? = some x,fun i H x H'=>H'=H/\∀ xs,SqT K H a xs->xs[i]? = some x,fun i H=>∃ xs,SqT K H a xs/\xs.length<=i⟩
noncomputable def Itr (lo:Int) (n:Nat):It:=⟨fun i _=>i < n,fun i H x H'=>H'=H/\x=.int (lo+i),fun i _=>n<=i⟩
theorem Pp {P:Program} {w:World} {K:W.Frag} {tg:Expr} (a it:Addr):Turn P w K tg (Itl K a) [it] it (fun i h=>h.IsListIter it a i) where
 mem:=by simp
 obj:=fun i h st b hb=>by
  have e:b=it:=by simpa using hb
  subst e
  obtain ⟨o,e,c,d⟩:=st
  exact ⟨o,e,fun v z=>by rw [d] at z;cases z⟩
 keep:=fun i h h' st k=>st.at fun o e=>k it (by simp) o e
 item:=by
  intro X hP hw hK hc i pins s σ H E I hf st hg
  subst hP hw hK
  obtain ⟨xs,x,hq,hx⟩:=hg
  obtain ⟨its,rv,p,hz⟩:=I.list hq
  obtain ⟨u,hu,ru⟩:=rv.get hx
  obtain ⟨f0,f1,f2,f3,f4,f5⟩:=hf it (by simp)
  refine wpAny_pyNext_list_item st p.isList (x:=u) (by simpa using hu) fun h' st' sb=>?_
  have I1:Inv X pins σ H { s with heap:=h' }:=I.turned (t':=s.toks) (fun b o hb e=>(sb.2 b hb).trans e) f0 f1 f3 f4 f5
  obtain ⟨o,e,c,d⟩:=id st'
  exact ⟨u,rfl,Hl (s:={ s with heap:=h' }) e c d (by decide) ⟨x,H,I1,ru,⟨rfl,fun ys hy=>by rw [I.list_inj hy hq];exact hx⟩,st',fun b hb=>(hf b hb).1⟩⟩
 done:=by
  intro X hP hw hK hc i pins s σ H E I hf st hg
  subst hP hw hK
  obtain ⟨xs,hq,hx⟩:=hg
  obtain ⟨its,rv,p,hz⟩:=I.list hq
  obtain ⟨f0,f1,f2,f3,f4,f5⟩:=hf it (by simp)
  have hl:=rv.length
  exact wpAny_pyNext_list_end (I.ok.hd hc) st p.isList (by simp;lia) fun h' eb=>⟨rfl,I.turned (t':=s.toks) (fun b o hb e=>eb b o hb e) f0 f1 f3 f4 f5⟩
 self:=fun _ _ _ _ _ st h=>wpAny_pyIter_listiter st h
theorem OZ {P:Program} {w:World} {K:W.Frag} {tg:Expr} (a it:Addr):Turn P w K tg (Itt K a) [it] it (fun i h=>h.IsTupleIter it a i) where
 mem:=by simp
 obj:=fun i h st b hb=>by
  have e:b=it:=by simpa using hb
  subst e
  obtain ⟨o,e,c,d⟩:=st
  exact ⟨o,e,fun v z=>by rw [d] at z;cases z⟩
 keep:=fun i h h' st k=>st.at fun o e=>k it (by simp) o e
 item:=by
  intro X hP hw hK hc i pins s σ H E I hf st hg
  subst hP hw hK
  obtain ⟨xs,x,hq,hx⟩:=hg
  obtain ⟨its,rv,p,hz⟩:=I.tuple hq
  obtain ⟨u,hu,ru⟩:=rv.get hx
  obtain ⟨f0,f1,f2,f3,f4,f5⟩:=hf it (by simp)
  refine wpAny_pyNext_tuple_item st (show s.heap.IsTuple a its.toArray from p) (x:=u) (by simpa using hu) fun h' st' sb=>?_
  have I1:Inv X pins σ H { s with heap:=h' }:=I.turned (t':=s.toks) (fun b o hb e=>(sb.2 b hb).trans e) f0 f1 f3 f4 f5
  obtain ⟨o,e,c,d⟩:=id st'
  exact ⟨u,rfl,Hl (s:={ s with heap:=h' }) e c d (by decide) ⟨x,H,I1,ru,⟨rfl,fun ys hy=>by rw [I.tuple_inj hy hq];exact hx⟩,st',fun b hb=>(hf b hb).1⟩⟩
 done:=by
  intro X hP hw hK hc i pins s σ H E I hf st hg
  subst hP hw hK
  obtain ⟨xs,hq,hx⟩:=hg
  obtain ⟨its,rv,p,hz⟩:=I.tuple hq
  obtain ⟨f0,f1,f2,f3,f4,f5⟩:=hf it (by simp)
  have hl:=rv.length
  exact wpAny_pyNext_tuple_end (I.ok.hd hc) st (show s.heap.IsTuple a its.toArray from p) (by simp;lia) fun h' eb=>⟨rfl,I.turned (t':=s.toks) (fun b o hb e=>eb b o hb e) f0 f1 f3 f4 f5⟩
 self:=fun _ _ _ _ _ st h=>wpAny_pyIter_tupleiter st h
theorem Om {P:Program} {w:World} {K:W.Frag} {tg:Expr} (it:Addr) (lo:Int) (n:Nat):Turn P w K tg (Itr lo n) [it] it (fun i h=>IsRangeIter h it (lo+(i:Nat) * 1) ((n:Int) - (i:Nat)) 1) where
 mem:=by simp
 obj:=fun i h st b hb=>by
  have e:b=it:=by simpa using hb
  subst e
  exact ⟨_,st,fun v z=>by
   have z':Data.fields _=Data.cell v:=z
   cases z'⟩
 keep:=fun i h h' st k=>k it (by simp) _ st
 item:=by
  intro X hP hw hK hc i pins s σ H E I hf st hg
  subst hP hw hK
  obtain ⟨f0,f1,f2,f3,f4,f5⟩:=hf it (by simp)
  have W:=Walks.range (prog:=X.prog) (w:=X.w) (I.ok.hd hc) it lo 1 n
  refine W.item i s _ _ hg st fun v h' tk hv st' kk=>?_
  obtain ⟨t,rfl⟩:=hv
  have I1:Inv X pins σ H { s with heap:=h',toks:=tk }:=I.turned (fun b o hb e=>kk b o (by simpa using hb) e) f0 f1 f3 f4 f5
  refine ⟨_,rfl,Hl (s:={ s with heap:=h',toks:=tk }) (n:="range_iterator") st' rfl rfl (by decide) ⟨.int (lo+i),H,I1,⟨t,?_⟩,⟨rfl,rfl⟩,st',fun b hb=>(hf b hb).1⟩⟩
  rw [Int.mul_one]
 done:=by
  intro X hP hw hK hc i pins s σ H E I hf st hg
  subst hP hw hK
  obtain ⟨f0,f1,f2,f3,f4,f5⟩:=hf it (by simp)
  exact wpAny_pyNext_range_end (I.ok.hd hc) st (by have:n<=i:=hg;lia) fun h' eb=>⟨rfl,I.turned (t':=s.toks) (fun b o hb e=>eb b o hb e) f0 f1 f3 f4 f5⟩
 self:=fun _ _ _ _ _ st h=>wpAny_pyIter_rangeiter st h
section
variable {X:Cx} {tg:Expr}
theorem Kq {pins:List (Addr × Obj)} {σ:St} {H:Hp} {s:Shared} {R:It->Hp->Prop} {E:Value->Shared->Prop} {lo hi:Int} {t u v:Tok} {tk:Nat} (I:Inv X pins σ H s) (h1 : -(2 ^ 62)<=lo) (h2:lo < 2 ^ 62) (h3 : -(2 ^ 62)<=hi) (h4:hi < 2 ^ 62)
 (q:R (Itr lo (hi - lo).toNat) H):wpAny (model X.prog X.w) X.A (pyIter (.ref s.heap.objs.size)) (PIE X pins σ tg R) E { s with heap:=s.heap.push { cls:=.type "range",data:=.fields #[.int lo t,.int hi u,.int 1 v] },toks:=tk }:=by
 refine wpAny_pyIter_range (IsRange.new ..) (small_one h1 h2 h3 h4) ?_
 have I1:Inv X pins σ H { s with heap:=s.heap.push { cls:=.type "range",data:=.fields #[.int lo t,.int hi u,.int 1 v] },toks:=tk }:=I.kept fun b o e=>Heap.get?_push_of_some _ e
 refine ⟨(s.heap.push { cls:=.type "range",data:=.fields #[.int lo t,.int hi u,.int 1 v] }).objs.size,[(s.heap.push { cls:=.type "range",data:=.fields #[.int lo t,.int hi u,.int 1 v] }).objs.size],_,_,H,rfl,
  I1.kept (t':=tk) fun b o e=>Heap.get?_push_of_some _ e,Om _ lo (hi - lo).toNat,?_,fun b hb=>?_,q⟩
 ·have e1:lo+((0:Nat):Int) * 1=lo:=by simp
  have e2:(((hi - lo).toNat:Nat):Int) - ((0:Nat):Int)=Builtin.Range.rangeSize lo hi 1:=by rw [rangeSize_one];split <;> lia
  show IsRangeIter _ _ (lo+((0:Nat):Int) * 1) ((((hi - lo).toNat:Nat):Int) - ((0:Nat):Int)) 1
  rw [e1,e2]
  exact Heap.get?_push_size _ rfl
 ·have e:b=(s.heap.push { cls:=.type "range",data:=.fields #[.int lo t,.int hi u,.int 1 v] }).objs.size:=by simpa using hb
  subst e
  exact I1.fpOk (Nat.le_refl _) (I1.hok.fresh (Nat.le_refl _))
noncomputable def LL (ta:TA):TI:=fun σ H R=>ta σ H fun vs H1=>∃ j:Int,vs=[.int j] /\ -(2 ^ 62)<=j/\j < 2 ^ 62/\R (Itr 0 j.toNat) H1
noncomputable def K6 (ta:TA):TI:=fun σ H R=>ta σ H fun vs H1=>∃ i j:Int,vs=[.int i,.int j]/\(-(2 ^ 62)<=i/\i < 2 ^ 62 /\ -(2 ^ 62)<=j/\j < 2 ^ 62)/\R (Itr i (j - i).toNat) H1
theorem Ay {a:Expr} {ta:TA} {p pos:Pos} (hg:Gl X "range") (hm:X.mg "range" = none) (ha:PA X [a] ta) (hs:starEach [a] X.env=[(false,eval a X.env)]:=by rfl):PI X tg (.Call (.Name "range" p) [a] [] pos) (LL ta):=by
 intro pins s σ H R I h
 refine Call_ (CP I hg hm boot_range (PyProof.Rows.callWith_type1 (thn (ha pos pins s σ H _ I h) fun us s1 ⟨vs,H1,I1,r1,q1⟩=>?_) hs rfl))
 obtain ⟨j,e,q1,q2,q⟩:=q1
 subst e
 cases r1 with
 | cons r rr =>
  cases rr
  obtain ⟨t,rfl⟩:=r
  exact call_range_1 (Kq I1 (by lia) (by lia) q1 q2 (by simpa using q))
theorem IC {a b:Expr} {ta:TA} {p pos:Pos} (hg:Gl X "range") (hm:X.mg "range" = none) (ha:PA X [a,b] ta) (hs:starEach [a,b] X.env=[(false,eval a X.env),(false,eval b X.env)]:=by rfl) (hs2:starEach [b] X.env=[(false,eval b X.env)]:=by rfl) :
 PI X tg (.Call (.Name "range" p) [a,b] [] pos) (K6 ta):=by
 intro pins s σ H R I h
 refine Call_ (CP I hg hm boot_range (PyProof.Rows.callWith_type1 (thn (ha pos pins s σ H _ I h) fun us s1 ⟨vs,H1,I1,r1,q1⟩=>?_) (by rw [hs,hs2]) (by rw [hs2];rfl)))
 obtain ⟨i,j,e,⟨q1,q2,q3,q4⟩,q⟩:=q1
 subst e
 cases r1 with
 | cons r rr =>
  cases rr with
  | cons r' rr =>
   cases rr
   obtain ⟨t,rfl⟩:=r
   obtain ⟨t',rfl⟩:=r'
   exact call_range_2 (Kq I1 q1 q2 q3 q4 q)
noncomputable def MK (wi:TI) (g:TG) (tb:TS):TS:=fun D σ H=>wi σ H fun J H1=>∃ W:Nat->Nat->St->Hp->Prop,(∃ m,W 0 m σ H1)/\∀ i m σ H,W i m σ H ->
 (J.stop i H/\D.nx σ H)\/(J.go i H/\∃ N:St->Hp->Prop,(∀ σ' H',N σ' H'->∃ m',m' < m/\W (i+1) m' σ' H')/\∀ x H',J.yld i H x H'->g x σ H' fun σ2 H2=>tb { D with nx:=N,ct:=N,bk:=D.nx } σ2 H2)
noncomputable def Br (fp:List Addr) (h:Heap):List (Addr × Obj):=fp.filterMap fun b=>(h.get? b).map fun o=>(b,o)
theorem CG {fp:List Addr} {h:Heap} {b:Addr} {o:Obj} (hb:b∈fp) (e:h.get? b=some o):(b,o)∈Br fp h:=List.mem_filterMap.mpr ⟨b,hb,by rw [e];rfl⟩
theorem Ga {fp:List Addr} {h:Heap} {p:Addr × Obj} (hp:p∈Br fp h):p.1∈fp/\h.get? p.1=some p.2:=by
 obtain ⟨b,hb,e⟩:=List.mem_filterMap.mp hp
 cases q:h.get? b with
 | none=>rw [q] at e;cases e
 | some o =>
  rw [q] at e
  have e':(b,o)=p:=Option.some.inj e
  subst e'
  exact ⟨hb,q⟩
theorem Inv.pinned {pins:List (Addr × Obj)} {σ:St} {H:Hp} {s:Shared} {fp:List Addr} (I:Inv X pins σ H s) (hf:∀ b∈fp,BE X pins H b) (ho:∀ b∈fp,∃ o,s.heap.get? b=some o/\∀ v,o.data≠.cell v):Inv X (pins++Br fp s.heap) σ H s :=
 I.pins_of fun p hp=>(List.mem_append.mp hp).elim (fun z=>I.pin p (List.mem_append_right _ z)) fun z=>by
  obtain ⟨hb,e⟩:=Ga z
  obtain ⟨f0,f1,f2,_⟩:=hf p.1 hb
  obtain ⟨o,e',d⟩:=ho p.1 hb
  rw [e] at e';cases e'
  exact ⟨e,f0,f1,f2,d⟩
theorem Inv.unpinned {pins pl:List (Addr × Obj)} {σ:St} {H:Hp} {s:Shared} (I:Inv X (pins++pl) σ H s):Inv X pins σ H s:=I.pins_of fun p hp=>I.pin p (List.mem_append_right _ (List.mem_append_left _ hp))
theorem Bk {iter:Expr} {body:List Stmt} {wi:TI} {g:TG} {tb:TS} {pos:Pos} (hp:PassesOwn (model X.prog X.w) X.A X.env X.xe) (hc:X.calm=true) (hi:PI X tg iter wi) (hg:PG X tg g) (hb:PSs X body tb)
 (hs:∀ x,foldedSetIterable iter X.env x=pure x:=by intro _;rfl):PS X (.For tg iter body [] pos) (MK wi g tb):=by
 intro pins s σ H D I h
 refine wpAny_For (thn (hi pins s σ H _ I h) fun v s1 h1=>thn h1 fun itv s2 h2=>?_) hs
 obtain ⟨it,fp,tn,J,H2,e,I2,T,st2,f2,W,⟨m0,w0⟩,turn⟩:=h2
 subst e
 -- what stays true of the iterator's objects through the loop
 have stat:∀ {H':Hp},(∀ b∈fp,H' b=none)->∀ b∈fp,BE X pins H' b:=fun hn b hb=>⟨hn b hb,(f2 b hb).2⟩
 refine codeAny_forLoop_any (fun n s'=>∃ i σ' H',Inv X pins σ' H' s'/\tn i s'.heap/\(∀ b∈fp,H' b=none)/\W i n σ' H') ?_ m0 ⟨0,σ,H2,I2,st2,fun b hb=>(f2 b hb).1,w0⟩
 rintro n s3 ⟨i,σ3,H3,I3,st3,fr3,w3⟩
 rcases turn i n σ3 H3 w3 with ⟨stop,qn⟩ | ⟨go,N,hN,step⟩
 ·refine wpAny_passesOwn hp (thn (T.done X rfl rfl rfl hc i pins s3 σ3 H3 X.xe I3 (stat fr3) st3 stop) fun r s4 ⟨hr,I4⟩=>?_)
  subst hr
  exact wpAny_execs_nil ⟨σ3,H3,I4,qn⟩
 ·refine wpAny_passesOwn hp (thn (T.item X rfl rfl rfl hc i pins s3 σ3 H3 X.xe I3 (stat fr3) st3 go) fun r s4 ⟨u,hr,h4⟩=>?_)
  subst hr
  refine wpAny_passesOwn hp (thn h4 fun _ s5 ⟨x,H5,I5,r5,y5,st5,fr5⟩=>?_)
  have I5':=I5.pinned (stat fr5) (T.obj _ _ st5)
  refine wpAny_passesOwn hp (thn (hg _ s5 σ3 H5 x u _ I5' r5 (step x H5 y5)) fun _ s6 ⟨σ6,H6,I6,q6⟩=>?_)
  refine wpAny_passesOwn hp (thn (hb _ s6 σ6 H6 _ I6 q6) fun f s7 q7=>?_)
  have again:∀ {σ7:St} {H7:Hp},Inv X (pins++Br fp s5.heap) σ7 H7 s7->N σ7 H7->∃ m,m < n/\∃ i σ' H',Inv X pins σ' H' s7/\tn i s7.heap/\(∀ b∈fp,H' b=none)/\W i m σ' H':=fun {σ7 H7} I7 n7=>by
   obtain ⟨m',hm,w7⟩:=hN σ7 H7 n7
   refine ⟨m',hm,i+1,σ7,H7,I7.unpinned,T.keep _ _ _ st5 fun b hb o e=>(I7.pin (b,o) (List.mem_append_right _ (List.mem_append_right _ (CG hb e)))).1,fun b hb=>?_,w7⟩
   obtain ⟨o,e,d⟩:=T.obj _ _ st5 b hb
   exact (I7.pin (b,o) (List.mem_append_right _ (List.mem_append_right _ (CG hb e)))).2.1
  cases f with
  | next=>obtain ⟨σ7,H7,I7,n7⟩:=q7;exact again I7 n7
  | cont=>obtain ⟨σ7,H7,I7,n7⟩:=q7;exact again I7 n7
  | brk=>obtain ⟨σ7,H7,I7,q7⟩:=q7;exact ⟨σ7,H7,I7.unpinned,q7⟩
  | ret v=>obtain ⟨x7,σ7,H7,I7,r7,q7⟩:=q7;exact ⟨x7,σ7,H7,I7.unpinned,r7,q7⟩
end
theorem Tk {K:W.Frag} {a:Addr} {xs:List V} {g:TG} {tb:TS} {D:Ends} {σ:St} {H:Hp} (Pv:Nat->St->Hp->Prop) (h0:Pv 0 σ H) (hl:∀ i σ H,i<=xs.length->Pv i σ H->SqL K H a xs)
 (hs:∀ i x σ H,xs[i]? = some x->Pv i σ H->g x σ H fun σ2 H2=>tb { D with nx:=Pv (i+1),ct:=Pv (i+1),bk:=D.nx } σ2 H2) (hd:∀ σ H,Pv xs.length σ H->D.nx σ H) :
 ∃ W:Nat->Nat->St->Hp->Prop,(∃ m,W 0 m σ H)/\∀ i m σ H,W i m σ H ->
  ((Itl K a).stop i H/\D.nx σ H)\/((Itl K a).go i H/\∃ N:St->Hp->Prop,(∀ σ' H',N σ' H'->∃ m',m' < m/\W (i+1) m' σ' H')/\∀ x H',(Itl K a).yld i H x H'->g x σ H' fun σ2 H2=>tb { D with nx:=N,ct:=N,bk:=D.nx } σ2 H2):=by
 refine ⟨fun i m σ H=>m=xs.length - i/\i<=xs.length/\Pv i σ H,⟨xs.length,by simp,Nat.zero_le _,h0⟩,?_⟩
 rintro i m σ H ⟨rfl,hi,p⟩
 have q:=hl i σ H hi p
 by_cases hlt:i < xs.length
 ·refine .inr ⟨⟨xs,xs[i],q,by simp [hlt]⟩,Pv (i+1),fun σ' H' p'=>⟨xs.length - (i+1),by lia,rfl,hlt,p'⟩,fun x H' y=>?_⟩
  obtain ⟨e,y⟩:=y
  subst e
  exact hs i x σ _ (y xs q) p
 ·have e:i=xs.length:=by lia
  subst e
  exact .inl ⟨⟨xs,q,Nat.le_refl _⟩,hd σ H p⟩
theorem B4 {lo:Int} {n:Nat} {g:TG} {tb:TS} {D:Ends} {σ:St} {H:Hp} (Pv:Nat->St->Hp->Prop) (h0:Pv 0 σ H)
 (hs:∀ i σ H,i < n->Pv i σ H->g (.int (lo+i)) σ H fun σ2 H2=>tb { D with nx:=Pv (i+1),ct:=Pv (i+1),bk:=D.nx } σ2 H2) (hd:∀ σ H,Pv n σ H->D.nx σ H) :
 ∃ W:Nat->Nat->St->Hp->Prop,(∃ m,W 0 m σ H)/\∀ i m σ H,W i m σ H ->
  ((Itr lo n).stop i H/\D.nx σ H)\/((Itr lo n).go i H/\∃ N:St->Hp->Prop,(∀ σ' H',N σ' H'->∃ m',m' < m/\W (i+1) m' σ' H')/\∀ x H',(Itr lo n).yld i H x H'->g x σ H' fun σ2 H2=>tb { D with nx:=N,ct:=N,bk:=D.nx } σ2 H2):=by
 refine ⟨fun i m σ H=>m=n - i/\i<=n/\Pv i σ H,⟨n,by simp,Nat.zero_le _,h0⟩,?_⟩
 rintro i m σ H ⟨rfl,hi,p⟩
 by_cases hlt:i < n
 ·refine .inr ⟨hlt,Pv (i+1),fun σ' H' p'=>⟨n - (i+1),by lia,rfl,hlt,p'⟩,fun x H' y=>?_⟩
  obtain ⟨e,y⟩:=y
  subst e y
  exact hs i σ _ hlt p
 ·have e:i=n:=by lia
  subst e
  exact .inl ⟨Nat.le_refl _,hd σ H p⟩
noncomputable abbrev R2:=V->V->Hp->VK->Prop
noncomputable def OpR (X:Cx) (f:Value->Value->Sem Value) (r:R2):Prop :=
 ∀ (pins:List (Addr × Obj)) (s:Shared) (σ:St) (H:Hp) (x y:V) (v u:Value) (Q:VK),Inv X pins σ H s->RelV x v->RelV y u->r x y H Q ->
  wpAny (model X.prog X.w) X.A (f v u) (EP X pins σ Q) X.xe s
noncomputable def UnR (X:Cx) (f:Value->Sem Value) (r:V->Hp->VK->Prop):Prop :=
 ∀ (pins:List (Addr × Obj)) (s:Shared) (σ:St) (H:Hp) (x:V) (v:Value) (Q:VK),Inv X pins σ H s->RelV x v->r x H Q ->
  wpAny (model X.prog X.w) X.A (f v) (EP X pins σ Q) X.xe s
noncomputable def CallR (X:Cx) (f:Value) (r:List V->Hp->VK->Prop):Prop :=
 ∀ (pins:List (Addr × Obj)) (s:Shared) (σ:St) (H:Hp) (xs:List V) (us:List Value) (Q:VK),Inv X pins σ H s->Vals xs us->r xs H Q ->
  wpAny (model X.prog X.w) X.A (call f us) (EP X pins σ Q) X.xe s
noncomputable def tOp (r:R2) (ta tb:TE):TE:=fun σ H Q=>ta σ H fun x H1=>tb σ H1 fun y H2=>r x y H2 Q
noncomputable def tUn (r:V->Hp->VK->Prop) (ta:TE):TE:=fun σ H Q=>ta σ H fun x H1=>r x H1 Q
noncomputable def rI (C:Int->Int->Prop) (g:Int->Int->V):R2:=fun x y H Q=>∃ i j,x=.int i/\y=.int j/\C i j/\Q (g i j) H
noncomputable def rI0 (g:Int->Int->V):R2:=fun x y H Q=>∃ i j,x=.int i/\y=.int j/\Q (g i j) H
noncomputable def rU (g:Int->V):V->Hp->VK->Prop:=fun x H Q=>∃ i,x=.int i/\Q (g i) H
section
variable {X:Cx} {a b c:Expr} {ta tb tc:TE} {pos:Pos}
theorem G6 (ha:PE X a ta) (hb:PE X b tb) {pins:List (Addr × Obj)} {s:Shared} {σ:St} {H:Hp} {R:V->V->Hp->Prop} (I:Inv X pins σ H s)
 (h:ta σ H fun x H1=>tb σ H1 fun y H2=>R x y H2) {Q:Value->Shared->Prop} {f:Value->Value->Sem Value}
 (hf:∀ v u s2 x y H2,Inv X pins σ H2 s2->RelV x v->RelV y u->R x y H2->wpAny (model X.prog X.w) X.A (f v u) Q X.xe s2) :
 wpAny (model X.prog X.w) X.A (eval a X.env) (fun v s₁=>wpAny (model X.prog X.w) X.A (eval b X.env) (fun u s₂=>wpAny (model X.prog X.w) X.A (f v u) Q X.xe s₂) X.xe s₁) X.xe s:=by
 refine thn (ha pins s σ H _ I h) fun v s1 ⟨x,H1,I1,r1,q1⟩=>?_
 refine thn (hb pins s1 σ H1 _ I1 q1) fun u s2 ⟨y,H2,I2,r2,q2⟩=>?_
 exact hf v u s2 x y H2 I2 r1 r2 q2
theorem AO {op:Operator} {r:R2} (ho:OpR X (binaryOp op) r) (ha:PE X a ta) (hb:PE X b tb):PE X (.BinOp a op b pos) (tOp r ta tb):=by
 intro pins s σ H Q I h
 exact wpAny_BinOp (G6 ha hb I h fun v u s2 x y H2 I2 rx ry q=>ho pins s2 σ H2 x y v u Q I2 rx ry q)
theorem TZ {op:UnaryOp} {r:V->Hp->VK->Prop} (ho:UnR X (unaryOp op) r) (ha:PE X a ta):PE X (.UnaryOp op a pos) (tUn r ta):=by
 intro pins s σ H Q I h
 exact UnaryOp_ (thn (ha pins s σ H _ I h) fun v s1 ⟨x,H1,I1,r1,q1⟩=>ho pins s1 σ H1 x v Q I1 r1 q1)
theorem opI {f:Value->Value->Sem Value} {C:Int->Int->Prop} {g:Int->Int->Int}
 (rule:∀ (i j:Int) (t u:Tok) (s:Shared) (Q:Value->Shared->Prop) (E:Value->Shared->Prop),C i j->Q (.int (g i j) s.toks) { s with toks:=s.toks+1 } -> wpAny (model X.prog X.w) X.A (f (.int i t) (.int j u)) Q E s) :
 OpR X f (rI C fun i j=>.int (g i j)):=by
 intro pins s σ H x y v u Q I rx ry h
 obtain ⟨i,j,rfl,rfl,hc,q⟩:=h
 obtain ⟨t,rfl⟩:=rx
 obtain ⟨t',rfl⟩:=ry
 exact rule i j t t' s _ _ hc ⟨.int (g i j),H,I.tok _,⟨_,rfl⟩,q⟩
theorem HS {f:Value->Value->Sem Value} {g:Int->Int->Int}
 (rule:∀ (i j:Int) (t u:Tok) (s:Shared) (Q:Value->Shared->Prop) (E:Value->Shared->Prop),Q (.int (g i j) s.toks) { s with toks:=s.toks+1 } -> wpAny (model X.prog X.w) X.A (f (.int i t) (.int j u)) Q E s) :
 OpR X f (rI0 fun i j=>.int (g i j)):=by
 intro pins s σ H x y v u Q I rx ry h
 obtain ⟨i,j,rfl,rfl,q⟩:=h
 obtain ⟨t,rfl⟩:=rx
 obtain ⟨t',rfl⟩:=ry
 exact rule i j t t' s _ _ ⟨.int (g i j),H,I.tok _,⟨_,rfl⟩,q⟩
theorem E8 {f:Value->Value->Sem Value} {g:Int->Int->Bool}
 (rule:∀ (i j:Int) (t u:Tok) (s:Shared) (Q:Value->Shared->Prop) (E:Value->Shared->Prop),Q (.bool (g i j)) s->wpAny (model X.prog X.w) X.A (f (.int i t) (.int j u)) Q E s) :
 OpR X f (rI0 fun i j=>.bl (g i j)):=by
 intro pins s σ H x y v u Q I rx ry h
 obtain ⟨i,j,rfl,rfl,q⟩:=h
 obtain ⟨t,rfl⟩:=rx
 obtain ⟨t',rfl⟩:=ry
 exact rule i j t t' s _ _ ⟨.bl (g i j),H,I,rfl,q⟩
noncomputable def Ez (i j:Int):Prop:=0<=j/\j<=1000000/\i.natAbs < 2 ^ 64
noncomputable def CMul (i j:Int):Prop:=(-(2 ^ 64) < i/\i < 2 ^ 64)\/(-(2 ^ 64) < j/\j < 2 ^ 64)
theorem CMul.ok {i j:Int} (h:CMul i j):IntMulOk i j:=by
 rcases h with ⟨h1,h2⟩ | ⟨h1,h2⟩
 ·exact .of_left (intBits_le_64 h1 h2)
 ·exact .of_right (intBits_le_64 h1 h2)
theorem To (k:Nat):(0:Int)<=2 ^ k:=by
 rw [two_pow_cast]
 exact Int.natCast_nonneg _
theorem Lf:OpR X (binaryOp .Add) (rI0 fun i j=>.int (i+j)):=HS fun _ _ _ _ _ _ _ q=>add_int q
theorem QD:OpR X (binaryOp .Sub) (rI0 fun i j=>.int (i - j)):=HS fun _ _ _ _ _ _ _ q=>sub_int q
theorem Pd:OpR X (binaryOp .Mod) (rI (fun _ j=>0 < j) fun i j=>.int (i % j)):=opI fun i j _ _ _ _ _ hc q=>by
 have h1:(0:Int) < j:=hc
 exact mod_int' (by lia) (by rw [Int.fmod_eq_emod_of_nonneg i (by lia)];exact q)
theorem SU:OpR X (binaryOp .Pow) (rI Ez fun i j=>.int (i ^ j.toNat)):=opI fun _ _ _ _ _ _ _ hc q=>pow_int_small hc.1 hc.2.1 hc.2.2 q
theorem NA:OpR X (binaryOp .LShift) (rI Ez fun i j=>.int (i * 2 ^ j.toNat)):=opI fun _ _ _ _ _ _ _ hc q=>lshift_int_small hc.1 hc.2.1 hc.2.2 q
theorem Mv:OpR X (binaryOp .RShift) (rI (fun _ j=>0<=j) fun i j=>.int (i / 2 ^ j.toNat)):=opI fun i j _ _ _ _ _ hc q =>
 rshift_int hc (by rw [Int.fdiv_eq_ediv_of_nonneg i (To _)];exact q)
theorem Rs:OpR X (binaryOp .BitAnd) (rI0 fun i j=>.int (Builtin.bitAnd i j)):=HS fun _ _ _ _ _ _ _ q=>and_int q
theorem unI {f:Value->Sem Value} {g:Int->Int}
 (rule:∀ (i:Int) (t:Tok) (s:Shared) (Q:Value->Shared->Prop) (E:Value->Shared->Prop),Q (.int (g i) s.toks) { s with toks:=s.toks+1 } -> wpAny (model X.prog X.w) X.A (f (.int i t)) Q E s) :
 UnR X f (rU fun i=>.int (g i)):=by
 intro pins s σ H x v Q I rx h
 obtain ⟨i,rfl,q⟩:=h
 obtain ⟨t,rfl⟩:=rx
 exact rule i t s _ _ ⟨.int (g i),H,I.tok _,⟨_,rfl⟩,q⟩
theorem Q5:UnR X (unaryOp .USub) (rU fun i=>.int (-i)):=unI fun _ _ _ _ _ q=>neg_int q
end
section
variable {X:Cx} {a b c:Expr} {ta tb tc:TE} {pos:Pos}
theorem MF {pins:List (Addr × Obj)} {σ:St} {H:Hp} {s:Shared} {Q:VK} {k k':Bool} (I:Inv X pins σ H s) (q:Q (.bl k) H) (e:k=k'):EP X pins σ Q (.bool k') s:=by
 subst e
 exact ⟨.bl k,H,I,rfl,q⟩
theorem Rc:OpR X (compareOp .Lt) (rI0 fun i j=>.bl (decide (i < j))):=E8 fun _ _ _ _ _ _ _ q=>lt_int q
theorem OP:OpR X (compareOp .LtE) (rI0 fun i j=>.bl (decide (i<=j))):=E8 fun _ _ _ _ _ _ _ q=>le_int q
theorem Nw:OpR X (compareOp .Gt) (rI0 fun i j=>.bl (decide (j < i))):=E8 fun _ _ _ _ _ _ _ q=>gt_int q
theorem Sq:OpR X (compareOp .GtE) (rI0 fun i j=>.bl (decide (j<=i))):=E8 fun _ _ _ _ _ _ _ q=>ge_int q
theorem Of:OpR X (compareOp .Is) (fun x y H Q=>y=.non/\Q (.bl (decide (x=.non))) H):=by
 intro pins s σ H x y v u Q I rx ry h
 obtain ⟨rfl,q⟩:=h
 cases ry
 refine is_none_gen (MF I q ?_)
 cases x <;> first
  | (cases rx;rfl)
  | (obtain ⟨t,rfl⟩:=rx;rfl)
theorem Mt:OpR X (compareOp .IsNot) (fun x y H Q=>y=.non/\Q (.bl (!decide (x=.non))) H):=by
 intro pins s σ H x y v u Q I rx ry h
 obtain ⟨rfl,q⟩:=h
 cases ry
 refine isnot_none_gen (MF I q ?_)
 cases x <;> first
  | (cases rx;rfl)
  | (obtain ⟨t,rfl⟩:=rx;rfl)
theorem PR {op:CmpOp} {r:R2} (ho:OpR X (compareOp op) r) (ha:PE X a ta) (hb:PE X b tb) (hm:behindInMarks op b=false):PE X (.Compare a [op] [b] pos) (tOp r ta tb):=by
 intro pins s σ H Q I h
 exact wpAny_Compare1 (G6 ha hb I h fun v u s2 x y H2 I2 rx ry q=>ho pins s2 σ H2 x y v u Q I2 rx ry q) hm
theorem D8:(sizeLine:Nat) < 2 ^ 63:=by rw [sizeLine_eq];decide
theorem Q7:OpR X (binaryOp .Add) (fun x y H Q=>∃ i j,x=.str i/\y=.str j/\i.length+j.length<=sizeLine/\Q (.str (i++j)) H):=by
 intro pins s σ H x y v u Q I rx ry h
 obtain ⟨i,j,rfl,rfl,hz,q⟩:=h
 obtain ⟨t,rfl⟩:=rx
 obtain ⟨t',rfl⟩:=ry
 exact add_str (fun t' tk=>⟨.str (i++j),H,I.tok _,⟨_,rfl⟩,q⟩) hz
theorem B2 {x:V} {us:List Value} (r:Vals [x] us):∃ u,us=[u]/\RelV x u:=by
 cases r with
 | cons r1 r2=>cases r2;exact ⟨_,rfl,r1⟩
theorem PK {x y:V} {us:List Value} (r:Vals [x,y] us):∃ u w',us=[u,w']/\RelV x u/\RelV y w':=by
 cases r with
 | cons r1 r2 =>
  cases r2 with
  | cons r3 r4=>cases r4;exact ⟨_,_,rfl,r1,r3⟩
theorem call_int1:CallR X (.type "int") (fun xs H Q=>(∃ i,xs=[.int i]/\Q (.int i) H)\/∃ k,xs=[.bl k]/\Q (.int (if k then 1 else 0)) H):=by
 intro pins s σ H xs us Q I r h
 rcases h with ⟨i,rfl,q⟩ | ⟨k,rfl,q⟩
 ·obtain ⟨u,rfl,t,rfl⟩:=B2 r
  exact call_int_int ⟨.int i,H,I,⟨_,rfl⟩,q⟩
 ·obtain ⟨u,rfl,r1⟩:=B2 r
  cases r1
  exact call_int_bool ⟨.int (if k then 1 else 0),H,I.tok _,⟨_,rfl⟩,q⟩
noncomputable def Jf (K:W.Frag) (x:V) (H:Hp) (n:Nat):Prop :=
 match x with
 | .str y=>y.length<=sizeLine/\n=y.length
 | .byt y=>y.size<=sizeLine/\n=y.size
 | .ref p=>(∃ xs,SqL K H p xs/\n=xs.length)\/∃ xs,SqT K H p xs/\n=xs.length
 | _=>False
theorem call_len:CallR X (.builtin "len") (fun xs H Q=>∃ x n,xs=[x]/\Jf X.K x H n/\Q (.int n) H):=by
 intro pins s σ H xs us Q I r h
 obtain ⟨x,n,rfl,e,q⟩:=h
 obtain ⟨u,rfl,rx⟩:=B2 r
 have hl:=D8
 have hs:sizeLine=16777216:=sizeLine_eq
 cases x with
 | str y =>
  obtain ⟨t,rfl⟩:=rx
  obtain ⟨hy,e'⟩:y.length<=sizeLine/\n=y.length:=e
  subst e'
  exact len_str (by lia) ⟨.int _,H,I.tok _,⟨_,rfl⟩,q⟩
 | byt y =>
  obtain ⟨t,rfl⟩:=rx
  obtain ⟨hy,e'⟩:y.size<=sizeLine/\n=y.size:=e
  subst e'
  exact PySem.W.len_bytes (by lia) ⟨.int _,H,I.tok _,⟨_,rfl⟩,q⟩
 | ref p =>
  cases rx
  have e':(∃ xs,SqL X.K H p xs/\n=xs.length)\/∃ xs,SqT X.K H p xs/\n=xs.length:=e
  rcases e' with ⟨xs,hx,e'⟩ | ⟨xs,hx,e'⟩
  ·subst e'
   obtain ⟨its,r',pl,hz⟩:=I.list hx
   have hlen:=r'.length
   exact Calls.call_len_list pl.isList (by simp only [List.size_toArray];lia) ⟨.int xs.length,H,I.tok _,⟨_,by simp only [List.size_toArray];rw [hlen]⟩,q⟩
  ·subst e'
   obtain ⟨its,r',pl,hz⟩:=I.tuple hx
   have hlen:=r'.length
   exact len_tuple pl (by simp only [List.size_toArray];lia) ⟨.int xs.length,H,I.tok _,⟨_,by simp only [List.size_toArray];rw [hlen]⟩,q⟩
 | _=>exact (show False from e).elim
end
structure ObjM (h:Heap) (x dx C:Addr) (mA:Str->Option Value):Prop where
 obj:h.get? x=some (PySem.W.instObj C dx)
 ns:h.Ns1 dx mA
 ne:dx≠x
theorem QK {h:Heap} {dx:Addr} {mA:Str->Option Value} (n:h.Ns1 dx mA):∃ od,h.get? dx=some od/\∀ name,PySem.W.lookIn name od=some (mA name):=by
 obtain ⟨o,es,ep,ho,hd,hk,_,hm⟩:=n
 refine ⟨o,ho,fun name=>?_⟩
 have e:=hm name
 unfold nsFind findBy at e
 rw [<- Array.find?_toList] at e
 unfold PySem.W.lookIn
 rw [hd]
 dsimp only
 split
 ·rename_i y q
  rw [q] at e
  exact congrArg some e
 ·rename_i q
  rw [q] at e
  have a:es.toList.any (·.refKey)=false:=by
   rw [List.any_eq_false]
   intro y hy
   obtain ⟨z,t,hkey⟩:=hk y (Array.mem_toList_iff.mp hy)
   simp [DictEntry.refKey,hkey]
  have a':¬ es.toList.any (·.refKey)=true:=by rw [a];exact Bool.false_ne_true
  rw [if_neg a']
  exact congrArg some e
theorem ObjM.look {h:Heap} {x dx C:Addr} {mA:Str->Option Value} (I:ObjM h x dx C mA):∃ od,PySem.W.InstAt h x (PySem.W.instObj C dx) C (some od)/\∀ name,PySem.W.lookIn name od=some (mA name) :=
 let ⟨od,ho,hl⟩:=QK I.ns
 ⟨od,⟨I.obj,rfl,rfl,ho⟩,hl⟩
section
variable {prog:Program} {w:World} {A:Around} {E:Value->Shared->Prop} {s:Shared} {K:W.Frag} {x dx C f:Addr} {mA:Str->Option Value} {name:Str} {v:Value}
theorem Sc {expr:Bool} {Q:Value->Shared->Prop} (X:K.In s.heap) (I:ObjM s.heap x dx C mA) (hg:PySem.W.plainGet K C name=true) (hh:PySem.W.hasDictIn K C=true)
 (ha:PySem.W.findIn K (.ref C) name=some none) (hv:mA name=some v) (hv':PySem.W.handedIn v=true) (h:Q v { s with toks:=s.toks+1 }) :
 wpAny (model prog w) A (getAttr (.ref x) name expr) Q E s:=by
 obtain ⟨od,J,hl⟩:=I.look
 exact PySem.W.get_value X J (PySem.W.plainGet_of hg).1 (PySem.W.findObj_own hh ha rfl (by rw [hl,hv])) hv' h
theorem Pw {pl:Sem Bool} {Q:Value × List Value->Shared->Prop} (X:K.In s.heap) (I:ObjM s.heap x dx C mA) (hg:PySem.W.plainGet K C name=true)
 (hf:PySem.W.findIn K (.ref C) name=some (some (.ref f))) (ht:PySem.W.isFn K (.ref f)=true) (hv:mA name=none) (h:Q (.ref f,[.ref x]) s) :
 wpAny (model prog w) A (getMethod (.ref x) name pl) Q E s:=by
 obtain ⟨od,J,hl⟩:=I.look
 exact PySem.W.method_fn X J (PySem.W.plainGet_of hg).1 (PySem.W.plainGet_of hg).2 hf (beq_iff_eq.mp ht) (by show (PySem.W.lookIn name od).map (·.isSome)=some false;rw [hl,hv];rfl) h
theorem T4 {ns:List Str} {Q:Unit->Shared->Prop} (X:K.In s.heap) (I:ObjM s.heap x dx C mA)
 (hs:PySem.W.findIn K (.ref C) "__setattr__" = some (some (.builtin "object.__setattr__"))) (hp:PySem.W.plainOver K C=true) (ht:PySem.W.takerIn K C name=some none) (hh:PySem.W.hasDictIn K C=true)
 (hw:PySem.Within mA ns) (hsz:ns.length<=sizeLine)
 (h:∀ h',ObjM h' x dx C (fun y=>if y=name then some v else mA y)->Heap.SameBut dx s.heap h'->Q () { s with heap:=h',toks:=s.toks+2 }) :
 wpAny (model prog w) A (setAttr (.ref x) name v) Q E s:=by
 obtain ⟨od,J,hl⟩:=I.look
 refine PySem.W.set_plain X J hs (PySem.W.osa_open (s:={ s with toks:=s.toks+1 }) (r:=none) X J hp ht fun b=>?_)
 obtain ⟨cd,hc,hd'⟩:=PySem.W.any_some hh
 have hx:s.heap.get? x=some ⟨.ref C,some dx,.plain,#[]⟩:=I.obj
 refine wpAny_bind (wpAny_pure (wpAny_bind (wpAny_bind (wpAny_loadPart hx (wpAny_bind (PySem.W.Looks.here (s:={ s with toks:=s.toks+1 }) (PySem.W.looks_clsIn X hc) ?_))))))
 rw [hd']
 refine wpAny_pure (a:=some dx) (wpAny_bind (wpAny_pure (wpAny_bind ?_)))
 refine wpAny_nsSet1 (s:={ s with toks:=s.toks+1 }) I.ns fun h' hn2 hs2=>?_
 obtain ⟨oD,esD,epD,hoD,hdD,hcD⟩:=hn2.count (PySem.Within.cons name v hw)
 refine wpAny_bind (wpAny_lookBehind hoD (by rw [hdD];exact pastItsLine_dict (Nat.le_trans hcD (by rw [List.length_cons];lia))) ?_)
 exact wpAny_pure (h _ ⟨(hs2.2 _ (Ne.symm I.ne)).trans I.obj,hn2,I.ne⟩ hs2)
theorem UL {R:Result->Shared->Prop} {vs:List Value} {kw:List (Str × Value)} (X:K.In s.heap) (hm:PySem.W.makesIn K C=true)
 (hi:PySem.W.findIn K (.ref C) "__init__" = some (some (.ref f))) (hf:PySem.W.typeIn K (.ref f)=some (.type "function"))
 (h:codeAny (model prog w) (A.under (.builtin "type.__call__" ⟨.ref C::vs,kw⟩)) (.call (.ref f) ⟨.ref (s.heap.objs.size+1)::vs,kw⟩) (PySem.W.InitBack (s.heap.objs.size+1) R)
   { s with heap:=(s.heap.push PySem.W.emptyDict).push (PySem.W.instObj C s.heap.objs.size) }) :
 codeAny (model prog w) A (.call (.ref C) ⟨vs,kw⟩) R s:=by
 obtain ⟨hh,g,d,t,os⟩:=s
 exact PySem.W.make_core (PySem.W.makes_of X hm) (PySem.W.looks_findIn X hi) (fun self=>PySem.W.bind_fn X self hf) (.inl rfl) h
end
noncomputable def Ad (f:Str) (v:V):List (Str × V)->List (Str × V)
 | []=>[(f,v)]
 | (g,x)::r=>if g=f then (g,v)::r else (g,x)::Ad f v r
theorem Jr (f g:Str) (v:V):∀ fs:List (Str × V),(Ad f v fs).lookup g=if g=f then some v else fs.lookup g
 | []=>by
  show List.lookup g [(f,v)]=_
  by_cases h:g=f
  ·have hb:(g == f)=true:=beq_iff_eq.mpr h
   simp only [List.lookup,hb,if_pos h]
  ·have hb:(g == f)=false:=beq_eq_false_iff_ne.mpr h
   simp only [List.lookup,hb,if_neg h]
 | (k,x)::r=>by
  have ih:=Jr f g v r
  rw [show Ad f v ((k,x)::r)=(if k=f then (k,v)::r else (k,x)::Ad f v r) from rfl]
  by_cases hk:k=f
  ·rw [if_pos hk]
   by_cases h:g=k
   ·have hb:(g == k)=true:=beq_iff_eq.mpr h
    simp only [List.lookup,hb,if_pos (h.trans hk)]
   ·have hb:(g == k)=false:=beq_eq_false_iff_ne.mpr h
    simp only [List.lookup,hb,if_neg (fun e:g=f=>h (e.trans hk.symm))]
  ·rw [if_neg hk]
   by_cases h:g=k
   ·have hb:(g == k)=true:=beq_iff_eq.mpr h
    simp only [List.lookup,hb,if_neg (fun e:g=f=>hk (h.symm.trans e))]
   ·have hb:(g == k)=false:=beq_eq_false_iff_ne.mpr h
    simp only [List.lookup,hb]
    exact ih
theorem Hy (f:Str) (v:V):∀ fs:List (Str × V),f∈(Ad f v fs).map (·.1)/\∀ g,g∈fs.map (·.1)->g∈(Ad f v fs).map (·.1)
 | []=>⟨by simp [Ad],fun g h=>by simp at h⟩
 | (k,x)::r=>by
  obtain ⟨i1,i2⟩:=Hy f v r
  rw [show Ad f v ((k,x)::r)=(if k=f then (k,v)::r else (k,x)::Ad f v r) from rfl]
  by_cases hk:k=f
  ·rw [if_pos hk]
   subst hk
   exact ⟨by simp,fun g h=>by simpa using h⟩
  ·rw [if_neg hk]
   refine ⟨?_,fun g h=>?_⟩
   ·rw [List.map_cons]
    exact List.mem_cons_of_mem _ i1
   ·rw [List.map_cons] at h ⊢
    rcases List.mem_cons.mp h with e | e
    ·exact List.mem_cons.mpr (.inl e)
    ·exact List.mem_cons_of_mem _ (i2 g e)
theorem Iq (f:Str) (v:V):∀ fs:List (Str × V),(Ad f v fs).length<=fs.length+1
 | []=>by simp [Ad]
 | (k,x)::r=>by
  have ih:=Iq f v r
  rw [show Ad f v ((k,x)::r)=(if k=f then (k,v)::r else (k,x)::Ad f v r) from rfl]
  by_cases hk:k=f
  ·rw [if_pos hk,List.length_cons,List.length_cons];lia
  ·rw [if_neg hk,List.length_cons,List.length_cons];lia
theorem RelO.some_of {v:V} {o:Option Value} (r:RelO (some v) o):∃ u,o=some u/\RelV v u:=by
 cases o with
 | none=>exact (show False from r).elim
 | some u=>exact ⟨u,rfl,r⟩
theorem RelO.none_of {o:Option Value} (r:RelO none o):o=none:=by
 cases o with
 | none=>rfl
 | some u=>exact (show False from r).elim
theorem NW {v:V} {u:Value} (r:RelV v u):PySem.W.handedIn u=true:=by
 cases v with
 | non=>cases (show u=Value.none from r);rfl
 | bl b=>cases (show u=Value.bool b from r);rfl
 | int i=>obtain ⟨t,e⟩:=(show ∃ t,u=Value.int i t from r);cases e;rfl
 | str x=>obtain ⟨t,e⟩:=(show ∃ t,u=Value.str x t from r);cases e;rfl
 | byt b=>obtain ⟨t,e⟩:=(show ∃ t,u=Value.bytes b t from r);cases e;rfl
 | flt b=>obtain ⟨t,e⟩:=(show ∃ t,u=Value.float b t from r);cases e;rfl
 | ref a=>cases (show u=Value.ref a from r);rfl
 | ty n=>cases (show u=Value.type n from r);rfl
section
variable {P:Program} {w:World} {H H':Hp} {h h':Heap} {a C dx:Addr} {fs fs':List (Str × V)}
theorem GQ (hok:HOk P w H h) (e:H a=some (.ins C dx fs)):∃ mA,ObjM h a dx C mA/\(∀ f,RelO (fs.lookup f) (mA f))/\PySem.Within mA (fs.map (·.1))/\fs.length<=1000/\H dx=some (.own a):=by
 obtain ⟨d,z,ne,ob,mA,n,r,q⟩:=(show ObjOk P w H h a (.ins C dx fs) from hok a _ e)
 exact ⟨mA,⟨ob,n,ne⟩,r,q,z,d⟩
end
structure Cls (K:W.Frag) (C:Addr):Prop where
 pg:PySem.W.plainGet K C Str.empty=true
 hd:PySem.W.hasDictIn K C=true
 po:PySem.W.plainOver K C=true
 sa:PySem.W.findIn K (.ref C) "__setattr__" = some (some (.builtin "object.__setattr__"))
theorem Cls.get {K:W.Frag} {C:Addr} (c:Cls K C) (f:Str):PySem.W.plainGet K C f=true:=c.pg
noncomputable def NoAttr (K:W.Frag) (C:Addr) (f:Str):Prop:=PySem.W.findIn K (.ref C) f=some none
theorem NoAttr.taker {K:W.Frag} {C:Addr} {f:Str} (n:NoAttr K C f):PySem.W.takerIn K C f=some none:=by
 unfold PySem.W.takerIn
 rw [show PySem.W.findIn K (.ref C) f=some none from n]
 rfl
structure Con (K:W.Frag) (C:Addr) (f:Str) (v:V) (u:Value):Prop where
 at_:PySem.W.findIn K (.ref C) f=some (some u)
 rel:RelV v u
 get:PySem.W.specialIn K u "__get__" = some none
 cp:PySem.W.copiedNames.contains f=false
structure Meth (K:W.Frag) (C:Addr) (m:Str) (f:Addr):Prop where
 at_:PySem.W.findIn K (.ref C) m=some (some (.ref f))
 fn:PySem.W.isFn K (.ref f)=true
 kp:PySem.W.keepIn K (.ref f)=true
section
variable {X:Cx} {pins:List (Addr × Obj)} {σ:St} {H:Hp} {s:Shared} {a C dx:Addr} {fs:List (Str × V)} {f:Str} {v:V} {A:Around} {E:Value->Shared->Prop}
theorem Pa {b:Bool} {Q:Value->Shared->Prop} (I:Inv X pins σ H s) (e:H a=some (.ins C dx fs)) (c:Cls X.K C) (n:NoAttr X.K C f) (l:fs.lookup f=some v)
 (h:∀ u s',Inv X pins σ H s'->RelV v u->Q u s'):wpAny (model X.prog X.w) A (getAttr (.ref a) f b) Q E s:=by
 obtain ⟨mA,O,r,_,_,_⟩:=GQ I.hok e
 obtain ⟨u,hu,ru⟩:=RelO.some_of (v:=v) (o:=mA f) (by rw [<- l];exact r f)
 exact Sc I.kIn O (c.get f) c.hd n hu (NW ru) (h u _ (I.tok _) ru)
theorem JA {m:Str} {g:Addr} {pl:Sem Bool} {Q:Value × List Value->Shared->Prop} (I:Inv X pins σ H s) (e:H a=some (.ins C dx fs)) (c:Cls X.K C) (k:Meth X.K C m g) (l:fs.lookup m=none)
 (h:Q (.ref g,[.ref a]) s):wpAny (model X.prog X.w) A (getMethod (.ref a) m pl) Q E s:=by
 obtain ⟨mA,O,r,_,_,_⟩:=GQ I.hok e
 have hn:mA m=none:=RelO.none_of (by rw [<- l];exact r m)
 exact Pw I.kIn O (c.get m) k.at_ k.fn hn h
theorem Qh {y:V} {u:Value} {Q:Unit->Shared->Prop} (I:Inv X pins σ H s) (e:H a=some (.ins C dx fs)) (c:Cls X.K C) (n:NoAttr X.K C f) (hl:fs.length < 1000) (ry:RelV y u)
 (h:∀ s',Inv X pins σ (upd H a (.ins C dx (Ad f y fs))) s'->Q () s'):wpAny (model X.prog X.w) A (setAttr (.ref a) f u) Q E s:=by
 obtain ⟨mA,O,r,wi,_,ho⟩:=GQ I.hok e
 have hz:(fs.map (·.1)).length<=sizeLine:=by rw [List.length_map,sizeLine_eq];lia
 refine T4 I.kIn O c.sa c.po n.taker c.hd wi hz fun h' O' sb=>h _ ?_
 have hd:∃ o,h'.get? dx=some o:=let ⟨o,_,_,e',_⟩:=O'.ns;⟨o,e'⟩
 refine I.write (x:=a) (e:=dx) (by rw [e];exact True.intro) (.inr ho) (fun b q hb z=>(sb.2 b hb).trans z) hd ?_
 refine ⟨by rw [AJ O.ne];exact ho,?_,O.ne,O'.obj,_,O'.ns,fun g=>?_,fun g hg=>?_⟩
 ·have:=Iq f y fs;lia
 ·show RelO ((Ad f y fs).lookup g) (if g=f then some u else mA g)
  rw [Jr]
  by_cases q:g=f
  ·rw [if_pos q,if_pos q];exact ry
  ·rw [if_neg q,if_neg q];exact r g
 ·by_cases q:g=f
  ·rw [q];exact (Hy f y fs).1
  ·refine (Hy f y fs).2 g (wi g fun z=>hg ?_)
   show (if g=f then some u else mA g)=none
   rw [if_neg q];exact z
theorem Inv.made (I:Inv X pins σ H s):Inv X pins σ (upd (upd H s.heap.objs.size (.own (s.heap.objs.size+1))) (s.heap.objs.size+1) (.ins C s.heap.objs.size []))
 { s with heap:=(s.heap.push PySem.W.emptyDict).push (PySem.W.instObj C s.heap.objs.size) }:=by
 have e1:(s.heap.push PySem.W.emptyDict).get? s.heap.objs.size=some PySem.W.emptyDict:=Heap.get?_push_size s.heap rfl
 have e2:((s.heap.push PySem.W.emptyDict).push (PySem.W.instObj C s.heap.objs.size)).get? (s.heap.objs.size+1)=some (PySem.W.instObj C s.heap.objs.size):=by
  have:=Heap.get?_push_size (s.heap.push PySem.W.emptyDict) (o:=PySem.W.instObj C s.heap.objs.size) rfl
  rwa [Heap.size_push] at this
 have e3:(s.heap.push PySem.W.emptyDict).Ns s.heap.objs.size (fun _=>none):=⟨PySem.W.emptyDict,#[],_,e1,rfl,(fun e he=>absurd he (by simp)),fun _=>rfl⟩
 have I1:=I.laid (a:=s.heap.objs.size) (o:=.own (s.heap.objs.size+1)) (h':=s.heap.push PySem.W.emptyDict) (t':=s.toks) (fun b u q=>Heap.get?_push_of_some _ q) (Nat.le_refl _) ⟨_,e1⟩
 refine I1.laid (a:=s.heap.objs.size+1) (o:=.ins C s.heap.objs.size []) (t':=s.toks) (fun b u q=>Heap.get?_push_of_some _ q) (Nat.le_of_eq (Heap.size_push _ _)) ?_
 have ne:s.heap.objs.size≠s.heap.objs.size+1:=Nat.ne_of_lt (Nat.lt_succ_self _)
 refine ⟨by rw [AJ ne,AD],Nat.zero_le _,ne,e2,fun _=>none,(Heap.Ns1.of_empty e3).at fun o q=>Heap.get?_push_of_some _ q,fun _=>True.intro,fun y hy=>absurd rfl hy⟩
theorem SW {prog:Program} {w:World} {env:Env} {e:Expr} {f:Str} {pos:Pos} {s:Shared} {Q:Value->Shared->Prop} (hb:attributeBase e f env (eval e env)=eval e env)
 (h:wpAny (model prog w) A (eval e env) (fun o s₁=>wpAny (model prog w) A (getAttr o f true) Q E s₁) E s):wpAny (model prog w) A (eval (.Attribute e f pos) env) Q E s :=
 Attribute_any_ h (by rw [arm_eval_Attribute,hb])
end
section
variable {X:Cx} {o e value:Expr} {f:Str} {pos pos' tpos:Pos} {ta tv:TE}
end
section
variable {X:Cx} {pins:List (Addr × Obj)} {σ:St} {H:Hp} {s:Shared} {A:Around} {E:Value->Shared->Prop} {Q:Value->Shared->Prop} {c:Value} {b:Bool}
inductive TyOf (K:W.Frag) (H:Hp):V->Value->Prop where
 | non:TyOf K H .non (.type "NoneType")
 | bl (x:Bool):TyOf K H (.bl x) (.type "bool")
 | int (i:Int):TyOf K H (.int i) (.type "int")
 | str (x:Str):TyOf K H (.str x) (.type "str")
 | flt (x:UInt64):TyOf K H (.flt x) (.type "float")
 | lst {a:Addr} {xs:List V} (e:H a=some (.lst xs)):TyOf K H (.ref a) (.type "list")
 | frz {a:Addr} {o:Obj} {xs:List V} (e:H a=some (.frz o (.lst xs))):TyOf K H (.ref a) (.type "list")
 | tup {a:Addr} {xs:List V} (e:H a=some (.tup xs)):TyOf K H (.ref a) (.type "tuple")
 | dK {a:Addr} {kvs:List (Key × V)} (e:H a=some (.dK kvs)):TyOf K H (.ref a) (.type "dict")
 | dT {a:Addr} {kvs:List (List Key × V)} (e:H a=some (.dT kvs)):TyOf K H (.ref a) (.type "dict")
 | ins {a C dx:Addr} {fs:List (Str × V)} (e:H a=some (.ins C dx fs)) (cl:Cls K C) (ha:PySem.W.findIn K (.ref C) "__class__" = some (some (.builtin "object.__class__")))
  (hn:PySem.W.specialIn K (.builtin "object.__class__") "__get__" = some (some (.builtin "getset_descriptor.__get__"))) (htk:PySem.W.takesIn K (.builtin "object.__class__")=some true)
  (hm:PySem.W.mroIn K C (.type "object")=some true):TyOf K H (.ref a) (.ref C)
end
structure Room (k:Nat) (A:Around):Prop where
 hd:A.handled=none
 dp:A.depth+3 * k+5 < recursionLimit
 un:A.units+16 * k+200 < cLine
 gd:A.guards=some []
theorem Room.mono {j k:Nat} {A:Around} (r:Room k A) (h:j<=k):Room j A:=⟨r.hd,by have:=r.dp;lia,by have:=r.un;lia,r.gd⟩
theorem Room.deeper {k:Nat} {A:Around} (r:Room (k+1) A) (env:Env):Room k (A.deeper env) :=
 ⟨r.hd,by have:=r.dp;show A.depth+1+3 * k+5 < _;lia,by have:=r.un;show A.units+3+16 * k+200 < _;lia,r.gd⟩
theorem Room.in1 {k:Nat} {A:Around} (r:Room (k+1) A):Room k A.in1 :=
 ⟨r.hd,by have:=r.dp;show A.depth+3 * k+5 < _;lia,by have:=r.un;show A.units+1+16 * k+200 < _;lia,r.gd⟩
theorem Nz {A:Around} {C:Addr} {us:List Value} {kw:List (Str × Value)}:(A.under (.builtin "type.__call__" ⟨.ref C::us,kw⟩)).depth=A.depth+1:=by
 first | rfl | simp [Around.under,Code.weight,Code.isCreation,Code.isGuard,Code.isCaller,Code.frames,Code.isFrame,guardIds]
theorem M3 {A:Around} {C:Addr} {us:List Value} {kw:List (Str × Value)}:(A.under (.builtin "type.__call__" ⟨.ref C::us,kw⟩)).units=A.units+1:=by
 first | rfl | simp [Around.under,Code.cUnits,Code.frames,Code.isFrame]
theorem Room.make {k:Nat} {A:Around} (r:Room (k+1) A) (C:Addr) (us:List Value) (kw:List (Str × Value)):Room k (A.under (.builtin "type.__call__" ⟨.ref C::us,kw⟩)) :=
 ⟨r.hd,by have:=r.dp;rw [Nz];lia,by have:=r.un;rw [M3];lia,by first | exact r.gd | (simpa [Around.under,Code.guards,Code.isGuard,guardIds,pushGuards] using r.gd)⟩
theorem Room.depth {k:Nat} {A:Around} (r:Room k A):A.depth < recursionLimit:=by have:=r.dp;lia
noncomputable def E3:TA:=fun _ H Q=>Q [] H
noncomputable def IG (ta:TE) (tr:TA):TA:=fun σ H Q=>ta σ H fun x H1=>tr σ H1 fun xs H2=>Q (x::xs) H2
section
variable {X:Cx} {e:Expr} {es:List Expr} {te:TE} {t:TA} {pos:Pos}
theorem AB:PA X [] E3:=fun _ _ _ _ H Q I h=>Calls.spliced_nil ⟨[],H,I,.nil,h⟩
theorem AA (ha:PE X e te) (hr:PA X es t) (hs:starEach (e::es) X.env=(false,eval e X.env)::starEach es X.env:=by rfl):PA X (e::es) (IG te t):=by
 intro pos pins s σ H Q I h
 rw [hs]
 show wpAny _ _ (spliced ((false,eval e X.env)::backTo pos (starEach es X.env))) _ _ s
 refine Calls.spliced_cons (thn (ha pins s σ H _ I h) fun u s1 ⟨x,H1,I1,r1,q1⟩=>?_)
 exact thn (hr pos pins s1 σ H1 _ I1 q1) fun us s2 ⟨xs,H2,I2,r2,q2⟩=>⟨x::xs,H2,I2,.cons r1 r2,q2⟩
noncomputable def Lu (t:TA):TE:=fun σ H Q=>t σ H fun xs H1=>xs.length<=sizeLine/\∀ p,H1 p=none->Q (.ref p) (upd H1 p (.tup xs))
noncomputable def Lp (t:TA):TE:=fun σ H Q=>t σ H fun xs H1=>xs.length<=sizeLine/\∀ p,H1 p=none->Q (.ref p) (upd H1 p (.lst xs))
theorem Ba {x1} (h:PA X es t):PE X (.Tuple es x1 pos) (Lu t):=by
 intro pins s σ H Q I hq
 refine wpAny_Tuple_spliced (thn (h pos pins s σ H _ I hq) fun us s1 ⟨xs,H1,I1,r,z,q⟩=>⟨by rw [<- r.length];exact z,?_⟩)
 have hf:H1 s1.heap.objs.size=none:=I1.hok.fresh (Nat.le_refl _)
 refine ⟨.ref s1.heap.objs.size,upd H1 s1.heap.objs.size (.tup xs),I1.laid (t':=s1.toks) (fun b u e=>Heap.get?_push_of_some _ e) (Nat.le_refl _) ?_,rfl,q _ hf⟩
 exact ⟨z,us,r,⟨_,Heap.get?_push_size _ rfl,rfl,⟨_,rfl⟩,rfl⟩⟩
theorem BY (h:PA X es t):PE X (.List es pos) (Lp t):=by
 intro pins s σ H Q I hq
 refine wpAny_List_spliced (thn (h pos pins s σ H _ I hq) fun us s1 ⟨xs,H1,I1,r,z,q⟩=>⟨by rw [<- r.length];exact z,?_⟩)
 have hf:H1 s1.heap.objs.size=none:=I1.hok.fresh (Nat.le_refl _)
 refine ⟨.ref s1.heap.objs.size,upd H1 s1.heap.objs.size (.lst xs),I1.laid (t':=s1.toks) (fun b u e=>Heap.get?_push_of_some _ e) (Nat.le_refl _) ?_,rfl,q _ hf⟩
 exact ⟨z,us,0,r,Heap.get?_push_size _ rfl⟩
end
noncomputable abbrev Sp:=List V->Hp->VK->XK->Prop
noncomputable abbrev CXT:=List Env->Hp->Shared->XK->Value->Shared->Prop
structure Env0 (P:Program) (w:World) (K:W.Frag) (mg:Str->Option Value) (base:Heap) (A:Around) (outer:List Env) (s:Shared) (H:Hp):Prop where
 frames:A.frames=some outer
 mod:Mod K mg base
 bs:∀ b o,base.get? b=some o->s.heap.get? b=some o/\H b=none
 bsz:base.objs.size<=s.heap.objs.size
 funs:s.heap.FunFrames base outer
 frf:∀ b∈frs outer,H b=none
 hok:HOk P w H s.heap
 bare:AllBare s.gens
noncomputable def CE (outer:List Env) (P:Program) (w:World) (H:Hp) (s:Shared) (Q:VK) (u:Value) (s':Shared):Prop :=
 ∃ v H',s'.os=s.os/\AllBare s'.gens/\Un (frs outer) [] H H' s.heap s'.heap/\HOk P w H' s'.heap/\RelV v u/\Q v H'
noncomputable def CR (CX:CXT) (outer:List Env) (P:Program) (w:World) (H:Hp) (s:Shared) (Q:VK) (E:XK) (r:Result) (s':Shared):Prop :=
 match r with
 | .ok (.ret u)=>CE outer P w H s Q u s'
 | .ok _=>False
 | .error e=>CX outer H s E e s'
structure FnOk (P:Program) (w:World) (K:W.Frag) (mg:Str->Option Value) (base:Heap) (CX:CXT) (k:Nat) (f:Addr) (fd:FuncData) (ps:List Str) (sp:Sp):Prop where
 len:∀ vs H Q E,sp vs H Q E->vs.length=ps.length
 run:∀ (A:Around) (outer:List Env) (s:Shared) (H:Hp) (args:Args) (us:List Value) (vs:List V) (Q:VK) (E:XK),Room k A->Env0 P w K mg base A outer s H->BindsTo s fd args (ps.zip us)->Vals vs us->sp vs H Q E ->
  codeAny (model P w) A (.call (.ref f) args) (CR CX outer P w H s Q E) s
theorem FnOk.imp {P:Program} {w:World} {K:W.Frag} {mg:Str->Option Value} {base:Heap} {CX:CXT} {k:Nat} {f:Addr} {fd:FuncData} {ps:List Str} {sp sp':Sp} (F:FnOk P w K mg base CX k f fd ps sp)
 (h:∀ vs H Q E,sp' vs H Q E->sp vs H Q E):FnOk P w K mg base CX k f fd ps sp' :=
 ⟨fun vs H Q E q=>F.len vs H Q E (h _ _ _ _ q),fun A outer s H args us vs Q E hr he hb hv hs=>F.run A outer s H args us vs Q E hr he hb hv (h _ _ _ _ hs)⟩
theorem Env0.make {P:Program} {w:World} {K:W.Frag} {mg:Str->Option Value} {base:Heap} {A:Around} {outer:List Env} {s:Shared} {H:Hp} (e:Env0 P w K mg base A outer s H) (C:Addr) (us:List Value) (kw:List (Str × Value)) :
 Env0 P w K mg base (A.under (.builtin "type.__call__" ⟨.ref C::us,kw⟩)) outer s H:=⟨by first | exact e.frames | (simpa [Around.under,Code.envs,Code.isFrame,pushEnvs] using e.frames),e.mod,e.bs,e.bsz,e.funs,e.frf,e.hok,e.bare⟩
theorem Env0.in1 {P:Program} {w:World} {K:W.Frag} {mg:Str->Option Value} {base:Heap} {A:Around} {outer:List Env} {s:Shared} {H:Hp} (e:Env0 P w K mg base A outer s H) :
 Env0 P w K mg base A.in1 outer s H:=⟨e.frames,e.mod,e.bs,e.bsz,e.funs,e.frf,e.hok,e.bare⟩
section
variable {X:Cx} {pins:List (Addr × Obj)} {σ:St} {H:Hp} {s s':Shared}
theorem Inv.env0 (I:Inv X pins σ H s):Env0 X.prog X.w X.K X.mg X.base X.A X.stack s H :=
 ⟨I.ok.frames,I.ok.mod,I.bs,Nat.le_trans I.ok.bsz I.sz,I.stack,I.stkFree,I.hok,I.bare⟩
theorem Inv.after {Q:VK} {u:Value} (I:Inv X pins σ H s) (h:CE X.stack X.prog X.w H s Q u s'):EP X pins σ Q u s':=by
 obtain ⟨v,H',os,bare,un,hok,r,q⟩:=h
 obtain ⟨hh,g,d,t,os'⟩:=s'
 obtain rfl:os'=s.os:=os
 exact ⟨v,H',I.call (h':=hh) (g':=g) (d':=d) (t':=t) (ch:=[]) un hok bare (fun b z=>absurd z (by simp)),r,q⟩
end
noncomputable def Kb (sp:Sp) (dvs:List V) (E:XK) (t:TA):TE:=fun σ H Q=>t σ H fun vs H1=>sp (vs++dvs) H1 Q E
noncomputable def Gs (C:Addr) (m:Str) (sp:Sp) (dvs:List V) (E:XK) (ta:TE) (t:TA):TE:=fun σ H Q=>ta σ H fun x H1=>∃ a dx fs,x=.ref a/\H1 a=some (.ins C dx fs)/\fs.lookup m=none /\
 t σ H1 fun vs H2=>sp (x::(vs++dvs)) H2 Q E
noncomputable def LM (C:Addr) (sp:Sp) (dvs:List V) (E:XK) (t:TA):TE:=fun σ H Q=>t σ H fun vs H1=>∀ x dx,H1 x=none->H1 dx=none->dx≠x ->
 sp (.ref x::(vs++dvs)) (upd (upd H1 dx (.own x)) x (.ins C dx [])) (fun v H2=>v=.non/\Q (.ref x) H2) E
noncomputable def Binds (K:W.Frag) (fd:FuncData) (ps:List Str) (ds:List Value):Prop :=
 ∀ (s:Shared) (us:List Value),K.In s.heap->(us++ds).length=ps.length->BindsTo s fd ⟨us,[]⟩ (ps.zip (us++ds))
theorem Binds.all {K:W.Frag} {fd:FuncData} {ps:List Str} (h:∀ us:List Value,us.length=ps.length->bindArgs fd ⟨us,[]⟩=pure (ps.zip us)):Binds K fd ps []:=fun s us _ hl=>by
 rw [List.append_nil] at hl ⊢
 exact .of_eq (h us hl)
noncomputable def C1 (CX:CXT) (X:Cx) (E:XK):Prop:=∀ (pins:List (Addr × Obj)) (σ:St) (H:Hp) (s:Shared) (e:Value) (s':Shared),Inv X pins σ H s->CX X.stack H s E e s'->X.xe e s'
section
variable {X:Cx} {CX:CXT} {k:Nat} {f C:Addr} {fd:FuncData} {ps:List Str} {sp:Sp} {dvs:List V} {ds:List Value} {E:XK} {x m:Str} {p pos apos:Pos} {e o:Expr} {es:List Expr} {ta:TE} {t:TA}
theorem Gj {pins:List (Addr × Obj)} {σ:St} {H:Hp} {s:Shared} {Q:VK} {us:List Value} {vs:List V} (F:FnOk X.prog X.w X.K X.mg X.base CX k f fd ps sp) (hr:Room k X.A) (hb:Binds X.K fd ps ds) (hd:Vals dvs ds) (hx:C1 CX X E)
 (I:Inv X pins σ H s) (r:Vals vs us) (h:sp (vs++dvs) H Q E):wpAny (model X.prog X.w) X.A (call (.ref f) us) (EP X pins σ Q) X.xe s:=by
 have r2:Vals (vs++dvs) (us++ds):=r.append hd
 have hl:(us++ds).length=ps.length:=by rw [<- r2.length];exact F.len _ _ _ _ h
 refine wpAny_call (codeAny_mono (F.run X.A X.stack s H ⟨us,[]⟩ (us++ds) (vs++dvs) Q E hr I.env0 (hb s us I.kIn hl) r2 h) fun r s' hq=>?_)
 cases r with
 | error e=>exact hx pins σ H s e s' I hq
 | ok fl =>
  cases fl with
  | ret u=>exact I.after hq
  | next=>exact False.elim hq
  | brk=>exact False.elim hq
  | cont=>exact False.elim hq
theorem AL (F:FnOk X.prog X.w X.K X.mg X.base CX k f fd ps sp) (hr:Room k X.A) (hg:Gl X x) (hm:X.mg x=some (.ref f)) (hk:PySem.W.keepIn X.K (.ref f)=true) (hb:Binds X.K fd ps ds) (hd:Vals dvs ds) (hx:C1 CX X E)
 (ha:PA X (e::es) t) (hdb:(x == ("__debug__" : Str))=false:=by decide) (he:starEach (e::es) X.env=(false,eval e X.env)::starEach es X.env:=by rfl) (hpl:(backTo pos (starEach es X.env)).any (·.1)=false:=by rfl) :
 PE X (.Call (.Name x p) (e::es) [] pos) (Kb sp dvs E t):=by
 intro pins s σ H Q I h
 refine wpAny_Call_Name_kw (KQ I hg hm ?_ hdb)
 refine PySem.W.callWith_K (h₀:=X.base) I.ok.mod.kin hk (thn (ha pos pins s σ H _ I h) fun us s1 ⟨vs,H1,I1,r,q⟩=>⟨I1.kIn,?_⟩) he hpl
 exact Gj F hr hb hd hx I1 r q
theorem Al {pl:Sem Bool} (he:PE X o ta) (c:Cls X.K C) (hm:Meth X.K C m f) (F:FnOk X.prog X.w X.K X.mg X.base CX k f fd ps sp) (hr:Room k X.A) (hb:Binds X.K fd ps ds) (hd:Vals dvs ds) (hx:C1 CX X E) (ha:PA X (e::es) t)
 (hst:starEach (e::es) X.env=(false,eval e X.env)::starEach es X.env:=by rfl) (hpl:(backTo pos (starEach es X.env)).any (·.1)=false:=by rfl)
 (ht:eval (.Call (.Attribute o m apos) (e::es) [] pos) X.env=(do
   let ov <- eval o X.env
   standAt apos.atName
   let (f,first) <- holding [ov] (getMethod ov m pl)
   callWith pos f first (backTo pos (starEach (e::es) X.env)) (backToKw pos (keywordEach [] X.env))):=by rfl) :
 PE X (.Call (.Attribute o m apos) (e::es) [] pos) (Gs C m sp dvs E ta t):=by
 intro pins s σ H Q I h
 refine PySem.W.methodCall_KW (pl:=pl) (thn (he pins s σ H _ I h) fun u s1 ⟨x,H1,I1,rx,a,dx,fs,ex,ea,l,q⟩=>?_) ht
 subst ex
 obtain rfl:u=Value.ref a:=rx
 refine JA I1 ea c hm l ?_
 refine PySem.W.callWith_K (first:=[.ref a]) (h₀:=X.base) I.ok.mod.kin hm.kp (thn (ha pos pins s1 σ H1 _ I1 q) fun us s2 ⟨vs,H2,I2,r,q2⟩=>⟨I2.kIn,?_⟩) hst hpl
 exact Gj (us:=.ref a::us) (vs:=.ref a::vs) F hr hb hd hx I2 (.cons rfl r) q2
theorem BZ {pl:Sem Bool} (he:PE X o ta) (c:Cls X.K C) (hm:Meth X.K C m f) (F:FnOk X.prog X.w X.K X.mg X.base CX k f fd ps sp) (hr:Room k X.A) (hb:Binds X.K fd ps ds) (hd:Vals dvs ds) (hx:C1 CX X E)
 (ht:eval (.Call (.Attribute o m apos) [] [] pos) X.env=(do
   let ov <- eval o X.env
   standAt apos.atName
   let (f,first) <- holding [ov] (getMethod ov m pl)
   callWith pos f first (backTo pos (starEach [] X.env)) (backToKw pos (keywordEach [] X.env))):=by rfl) :
 PE X (.Call (.Attribute o m apos) [] [] pos) (Gs C m sp dvs E ta E3):=by
 intro pins s σ H Q I h
 refine PySem.W.methodCall_KW (pl:=pl) (thn (he pins s σ H _ I h) fun u s1 ⟨x,H1,I1,rx,a,dx,fs,ex,ea,l,q⟩=>?_) ht
 subst ex
 obtain rfl:u=Value.ref a:=rx
 refine JA I1 ea c hm l ?_
 exact PySem.W.callWith_K0 (first:=[.ref a]) I1.kIn hm.kp (Gj (us:=[.ref a]) (vs:=[.ref a]) F hr hb hd hx I1 (.cons rfl .nil) q)
structure Mk (K:W.Frag) (C f:Addr):Prop where
 makes:PySem.W.makesIn K C=true
 init:PySem.W.findIn K (.ref C) "__init__" = some (some (.ref f))
 fn:PySem.W.isFn K (.ref f)=true
 kp:PySem.W.keepIn K (.ref C)=true
theorem NM {pins:List (Addr × Obj)} {σ:St} {H:Hp} {s:Shared} {Q:VK} {us:List Value} {vs:List V} (M:Mk X.K C f) (F:FnOk X.prog X.w X.K X.mg X.base CX k f fd ps sp) (hr:Room (k+1) X.A) (hb:Binds X.K fd ps ds) (hd:Vals dvs ds)
 (hx:C1 CX X E) (I:Inv X pins σ H s) (r:Vals vs us)
 (h:∀ x dx,H x=none->H dx=none->dx≠x->sp (.ref x::(vs++dvs)) (upd (upd H dx (.own x)) x (.ins C dx [])) (fun v H2=>v=.non/\Q (.ref x) H2) E) :
 wpAny (model X.prog X.w) X.A (call (.ref C) us) (EP X pins σ Q) X.xe s:=by
 have hq:=h (s.heap.objs.size+1) s.heap.objs.size (I.hok.fresh (Nat.le_succ _)) (I.hok.fresh (Nat.le_refl _)) (Nat.ne_of_lt (Nat.lt_succ_self _))
 have I2:=Inv.made (C:=C) I
 have r2:Vals (V.ref (s.heap.objs.size+1)::(vs++dvs)) (Value.ref (s.heap.objs.size+1)::(us++ds)):=.cons rfl (r.append hd)
 have hl:(Value.ref (s.heap.objs.size+1)::us++ds).length=ps.length:=by
  have e:=r2.length
  rw [F.len _ _ _ _ hq] at e
  exact e.symm
 refine wpAny_call (UL (f:=f) I.kIn M.makes M.init (beq_iff_eq.mp M.fn) (codeAny_mono (F.run _ X.stack _ _ ⟨Value.ref (s.heap.objs.size+1)::us,[]⟩ (Value.ref (s.heap.objs.size+1)::(us++ds)) _ _ E (hr.make C us [])
  (I2.env0.make C us []) (hb _ (Value.ref (s.heap.objs.size+1)::us) I2.kIn hl) r2 hq) fun r s' hq'=>?_))
 cases r with
 | error e=>exact hx pins σ _ _ e s' I2 hq'
 | ok fl =>
  cases fl with
  | ret u =>
   obtain ⟨v,H',I3,rv,ev,q3⟩:=I2.after hq'
   subst ev
   exact ⟨rv,⟨V.ref (s.heap.objs.size+1),H',I3,rfl,q3⟩⟩
  | next=>exact False.elim hq'
  | brk=>exact False.elim hq'
  | cont=>exact False.elim hq'
theorem Ex (M:Mk X.K C f) (F:FnOk X.prog X.w X.K X.mg X.base CX k f fd ps sp) (hr:Room (k+1) X.A) (hg:Gl X x) (hm:X.mg x=some (.ref C)) (hb:Binds X.K fd ps ds) (hd:Vals dvs ds) (hx:C1 CX X E)
 (ha:PA X (e::es) t) (hdb:(x == ("__debug__" : Str))=false:=by decide) (he:starEach (e::es) X.env=(false,eval e X.env)::starEach es X.env:=by rfl) (hpl:(backTo pos (starEach es X.env)).any (·.1)=false:=by rfl) :
 PE X (.Call (.Name x p) (e::es) [] pos) (LM C sp dvs E t):=by
 intro pins s σ H Q I h
 refine wpAny_Call_Name_kw (KQ I hg hm ?_ hdb)
 refine PySem.W.callWith_K (h₀:=X.base) I.ok.mod.kin M.kp (thn (ha pos pins s σ H _ I h) fun us s1 ⟨vs,H1,I1,r,q⟩=>⟨I1.kIn,?_⟩) he hpl
 exact NM M F hr hb hd hx I1 r q
end
section
variable {X:Cx} {CX:CXT} {k:Nat} {f C:Addr} {fd:FuncData} {ps ks:List Str} {sp:Sp} {E:XK} {x m:Str} {p pos apos kpos:Pos} {e o:Expr} {es:List Expr} {kws:List Keyword} {te ta:TE} {t tk:TA} {nm:Option Str}
structure KBinds (K:W.Frag) (fd:FuncData) (ps ks:List Str) (g:List Value->List Value->List Value) (gV:List V->List V->List V):Prop where
 to:∀ (s:Shared) (us ws:List Value),K.In s.heap->(g us ws).length=ps.length->BindsTo s fd ⟨us,ks.zip ws⟩ (ps.zip (g us ws))
 rel:∀ {vs:List V} {us:List Value} {zs:List V} {ws:List Value},Vals vs us->Vals zs ws->Vals (gV vs zs) (g us ws)
variable {g:List Value->List Value->List Value} {gV:List V->List V->List V}
end
structure FnScope (N P:List Str) (sc:Scope):Prop where
 kind:sc.kind=.function
 co:sc.isCoroutine=false
 gen:sc.isGenerator=false
 nd:N.Nodup
 pre:N.take P.length=P
 par:∀ x∈P,sc.names.lookup x=some .local\/sc.names.lookup x=some .cell
 nofree:∀ y∈sc.names,y.2≠.free
theorem MV {kindOf:Str->Option NameKind} {x:Str}:∀ {binds:List (Str × Value)} {m:Str->Option Value},(∀ v,(x,v)∉binds)->bindL kindOf binds m x=m x
 | [],_,_=>rfl
 | (n,v)::r,m,h=>by
  unfold bindL
  rw [MV fun w hw=>h w (List.mem_cons_of_mem _ hw)]
  split
  ·have:x≠n:=by rintro rfl;exact h v List.mem_cons_self
   simp [this]
  ·rfl
theorem Kg {kindOf:Str->Option NameKind} {x:Str}:∀ {binds:List (Str × Value)} {m:Str->Option Value},(∀ v,(x,v)∉binds)->bindC kindOf binds m x=m x
 | [],_,_=>rfl
 | (n,v)::r,m,h=>by
  unfold bindC
  rw [Kg fun w hw=>h w (List.mem_cons_of_mem _ hw)]
  split
  ·rfl
  ·have:x≠n:=by rintro rfl;exact h v List.mem_cons_self
   simp [this]
theorem K5 {kindOf:Str->Option NameKind} {x:Str} {v:Value}:∀ {P:List Str} {vs:List Value} {i:Nat} {m:Str->Option Value},P.Nodup->P[i]? = some x->vs[i]? = some v->kindOf x=some .local ->
 bindL kindOf (P.zip vs) m x=some v
 | [],_,_,_,_,h,_,_=>by simp at h
 | _::_,[],_,_,_,_,h,_=>by simp at h
 | p::P,w::vs,0,m,nd,h1,h2,hk=>by
  simp at h1 h2;subst h1;subst h2
  show bindL kindOf ((p,w)::P.zip vs) m p=_
  unfold bindL
  rw [MV fun v hv=>(List.nodup_cons.mp nd).1 (List.of_mem_zip hv).1,if_pos hk]
  simp
 | p::P,w::vs,i+1,m,nd,h1,h2,hk=>by
  show bindL kindOf ((p,w)::P.zip vs) m x=_
  unfold bindL
  exact K5 (i:=i) (List.nodup_cons.mp nd).2 (by simpa using h1) (by simpa using h2) hk
theorem LJ {kindOf:Str->Option NameKind} {x:Str} {v:Value}:∀ {P:List Str} {vs:List Value} {i:Nat} {m:Str->Option Value},P.Nodup->P[i]? = some x->vs[i]? = some v->kindOf x≠some .local ->
 bindC kindOf (P.zip vs) m x=some v
 | [],_,_,_,_,h,_,_=>by simp at h
 | _::_,[],_,_,_,_,h,_=>by simp at h
 | p::P,w::vs,0,m,nd,h1,h2,hk=>by
  simp at h1 h2;subst h1;subst h2
  show bindC kindOf ((p,w)::P.zip vs) m p=_
  unfold bindC
  rw [Kg fun v hv=>(List.nodup_cons.mp nd).1 (List.of_mem_zip hv).1,if_neg hk]
  simp
 | p::P,w::vs,i+1,m,nd,h1,h2,hk=>by
  show bindC kindOf ((p,w)::P.zip vs) m x=_
  unfold bindC
  exact LJ (i:=i) (List.nodup_cons.mp nd).2 (by simpa using h1) (by simpa using h2) hk
noncomputable def CO (N:List Str) (vs:List V):St:=vs.map some++List.replicate (N.length - vs.length) none
noncomputable def Cq (CX:CXT) (P:Program) (w:World) (K:W.Frag) (mg:Str->Option Value) (base:Heap) (N:List Str) (qual:Str) (scope:Scope) (f:Addr) (cd:Value) (A:Around) (outer:List Env) (s:Shared) (H:Hp) (E:XK):Cx where
 prog:=P
 w:=w
 K:=K
 mg:=mg
 base:=base
 A:=A.deeper (envOfC qual scope s.heap.objs.size f cd)
 N:=N
 s₀:=s
 H₀:=H
 env:=envOfC qual scope s.heap.objs.size f cd
 outer:=outer
 stack:=envOfC qual scope s.heap.objs.size f cd::outer
 ex:=[]
 calm:=true
 fn:=fun _=>true
 pn:=[]
 xe:=fun e s'=>wpAny (model P w) (A.deeper (envOfC qual scope s.heap.objs.size f cd)) (leaving (envOfC qual scope s.heap.objs.size f cd) e) (fun _ s''=>CX outer H s E e s'') (fun e' s''=>CX outer H s E e' s'') s'
theorem Iz {sc:Scope} {n:Nat} {x:Str} (h:sc.names.lookup x=some .cell):∃ c,(cellsFrom n sc.names []).lookup x=some c:=by
 have q:=PySem.W.cellsFrom_some sc.names n [] (.inl h)
 exact Option.isSome_iff_exists.mp q
theorem Pj {CX:CXT} {P:Program} {w:World} {K:W.Frag} {mg:Str->Option Value} {base:Heap} {N ps:List Str} {qual:Str} {scope:Scope} {f:Addr} {cd:Value} {A:Around} {outer:List Env} {s s1:Shared} {H:Hp} {E:XK} {us:List Value} {vs:List V}
 (S:FnScope N ps scope) (hd:A.handled=none) (e0:Env0 P w K mg base A outer s H) (hl:vs.length=ps.length) (r:Vals vs us)
 (x:InCallC s s.heap.objs.size (bindL (envOfC qual scope s.heap.objs.size f cd).kindOf (ps.zip us) fun _=>none) (cellsFrom (s.heap.objs.size+1) scope.names []) (bindC (envOfC qual scope s.heap.objs.size f cd).kindOf (ps.zip us) fun _=>none) s1) :
 Inv (Cq CX P w K mg base N qual scope f cd A outer s H E) [] (CO N vs) H s1:=by
 have hpl:ps.length<=N.length:=by have:=congrArg List.length S.pre;rw [List.length_take] at this;lia
 obtain ⟨h1,tk,rfl,hk⟩:=x.done
 have noA:∀ b:Addr,b∉(Cq CX P w K mg base N qual scope f cd A outer s H E).ex:=fun b z=>absurd (show b∈([]:List Addr) from z) (by simp)
 refine ⟨⟨e0.mod,S.kind,rfl,rfl,Nat.le_refl _,fun y z c h1 h2=>?_,fun y hy=>?_,fun y c _ h=>?_,fun _=>hd,Around.frames_deeper e0.frames,.inr ⟨rfl,rfl⟩,fun b z=>absurd z (noA b),e0.bs,e0.bsz,fun b _ _=>noA b,fun b z=>absurd z (noA b),e0.funs,e0.frf⟩,
  rfl,e0.bare,Un.kept hk,⟨_,x.toInCall.ns,fun i y v h1 h2 h3=>?_⟩,fun y c h=>⟨_,x.cell y c h⟩,e0.hok.fresh (Nat.le_refl _),fun y c h=>?_,fun p hp=>absurd (show p∈([]:List (Addr × Obj)) from hp) (by simp),e0.hok.kept hk,?_⟩
 ·exact name_of_addr x.apart (PySem.mem_of_lookup h1) (PySem.mem_of_lookup h2)
 ·have hy:scope.names.lookup y=some .cell\/scope.names.lookup y=some .free:=hy
  rcases hy with hy | hy
  ·exact Iz hy
  ·exact absurd rfl (S.nofree _ (PySem.mem_of_lookup hy))
 ·exact Nat.le_of_lt (x.above y c (PySem.mem_of_lookup h))
 ·have hi:i < vs.length:=by
   unfold CO at h2
   by_cases hi:i < vs.length
   ·exact hi
   ·rw [List.getElem?_append_right (by simpa using hi)] at h2
    rw [List.getElem?_replicate] at h2
    split at h2 <;> cases h2
  have ha:vs[i]? = some v:=by
   unfold CO at h2
   rw [List.getElem?_append_left (by simpa using hi),List.getElem?_map] at h2
   cases e:vs[i]? with
   | none=>rw [e] at h2;cases h2
   | some a=>rw [e] at h2;cases h2;rfl
  obtain ⟨u,hu,rv⟩:=r.get ha
  have hp:ps[i]? = some y:=by
   rw [<- S.pre,List.getElem?_take_of_lt (by lia)];exact h1
  have ndP:ps.Nodup:=by rw [<- S.pre];exact S.nd.sublist (List.take_sublist _ _)
  refine ⟨u,rv,?_⟩
  rcases S.par y (List.mem_of_getElem? hp) with k | k
  ·exact .inl ⟨k,K5 ndP hp hu k⟩
  ·obtain ⟨c,e⟩:=Iz (n:=s.heap.objs.size+1) k
   refine .inr ⟨.inl k,c,e,?_⟩
   have q:=x.cell y c e
   rw [LJ ndP hp hu (by show scope.names.lookup y≠_;rw [k];decide)] at q
   exact q
 ·exact e0.hok.fresh (Nat.le_of_lt (x.above y c (PySem.mem_of_lookup h)))
 ·unfold CO
  show _=N.length
  rw [List.length_append,List.length_map,List.length_replicate]
  lia
theorem Jk {CX:CXT} {P:Program} {w:World} {K:W.Frag} {mg:Str->Option Value} {base:Heap} {k:Nat} {f:Addr} {name qual:Str} {params:Arguments} {body:List Stmt} {scope:Scope} {dV kV doc pm cdv ct oc:Value} {an od:Option Addr}
 {osl:Array (Option Value)} {N ps:List Str} {sp:Sp} (lk:K.lookup f=some ⟨oc,od,.func (PySem.W.fnOf name qual params body scope dV kV doc pm an cdv ct),osl⟩) (hcd:PySem.W.codeIn K cdv qual=true) (S:FnScope N ps scope)
 (len:∀ vs H Q E,sp vs H Q E->vs.length=ps.length)
 (hbody:∀ (A:Around) (outer:List Env) (s:Shared) (H:Hp) (vs:List V) (Q:VK) (E:XK),Room k (A.deeper (envOfC qual scope s.heap.objs.size f cdv))->sp vs H Q E ->
   ∃ t,PSs (Cq CX P w K mg base N qual scope f cdv A outer s H E) body t/\t { nx:=fun _ H'=>Q .non H',rt:=Q } (CO N vs) H) :
 FnOk P w K mg base CX (k+1) f (PySem.W.fnOf name qual params body scope dV kV doc pm an cdv ct) ps sp:=by
 refine ⟨len,fun A outer s H args us vs Q E hr e0 hb r hsp=>?_⟩
 have hl:=len _ _ _ _ hsp
 have KX:K.In s.heap:=e0.mod.kin.keeps fun b o e=>(e0.bs b o e).1
 have lim:s.heap.NoLimit:=e0.mod.nolimit.keeps fun b o e=>(e0.bs b o e).1
 have hkind:∀ y∈ps.zip us,scope.names.lookup y.1=some .local\/(scope.names.lookup y.1=some .cell/\((cellsFrom (s.heap.objs.size+1) scope.names []).lookup y.1).isSome=true):=fun ⟨n,v⟩ hy=>by
  rcases S.par n (List.of_mem_zip hy).1 with q | q
  ·exact .inl q
  ·exact .inr ⟨q,PySem.W.cellsFrom_some _ _ _ (.inl q)⟩
 refine codeAny_call_function hr.depth (KX _ _ lk) rfl S.co S.gen rfl (PySem.W.codeRec_of KX hcd) (hb _ _ _ _ ?_)
 refine wpAny_newFunctionEnv_cells S.kind hkind fun env he s1 x=>?_
 subst he
 refine ⟨lim.keeps x.toInCall.keep,codeAny_func ?_⟩
 obtain ⟨t,ht,hq⟩:=hbody A outer s H vs Q E (hr.deeper _) hsp
 have I:Inv (Cq CX P w K mg base N qual scope f cdv A outer s H E) [] (CO N vs) H s1:=Pj S hr.hd e0 hl r x
 refine wpAny_mono (ht [] s1 (CO N vs) H _ I hq) (fun fl s' hs=>?_) fun e s' hs=>hs
 have fin:∀ {σ':St} {H':Hp} {v:V} {u:Value},Inv (Cq CX P w K mg base N qual scope f cdv A outer s H E) [] σ' H' s'->RelV v u->Q v H'->CE outer P w H s Q u s' :=
  fun {σ' H' v u} J rv q=>⟨v,H',J.os,J.bare,J.base,J.hok,rv,q⟩
 cases fl with
 | ret u =>
  obtain ⟨v,σ',H',J,rv,q⟩:=hs
  exact fin J rv q
 | next =>
  obtain ⟨σ',H',J,q⟩:=hs
  exact fin (v:=V.non) (u:=Value.none) J rfl q
 | brk =>
  obtain ⟨_,_,_,q⟩:=hs
  exact False.elim q
 | cont =>
  obtain ⟨_,_,_,q⟩:=hs
  exact False.elim q
section
variable {X:Cx} {x:Str} {p pos:Pos} {e:Expr} {es:List Expr} {t:TA} {id T:String} {r:List V->Hp->VK->Prop}
noncomputable def tCB (r:List V->Hp->VK->Prop) (t:TA):TE:=fun σ H Q=>t σ H fun vs H1=>r vs H1 Q
theorem Ar (hc:CallR X (.builtin id) r) (hg:Gl X x) (hm:X.mg x=none) (hv:bootBuiltins x=some (.builtin id)) (ha:PA X (e::es) t) (hn:x ≠ "__name__":=by decide) (hdb:(x == ("__debug__" : Str))=false:=by decide)
 (he:starEach (e::es) X.env=(false,eval e X.env)::starEach es X.env:=by rfl) (hpl:(backTo pos (starEach es X.env)).any (·.1)=false:=by rfl):PE X (.Call (.Name x p) (e::es) [] pos) (tCB r t):=by
 intro pins s σ H Q I h
 refine wpAny_Call_Name_kw (CP I hg hm hv ?_ hn hdb)
 exact PyProof.Rows.callWith_builtin1 (thn (ha pos pins s σ H _ I h) fun us s1 ⟨vs,H1,I1,r1,q1⟩=>hc pins s1 σ H1 vs us Q I1 r1 q1) he hpl
theorem As (hc:CallR X (.type T) r) (hg:Gl X x) (hm:X.mg x=none) (hv:bootBuiltins x=some (.type T)) (ha:PA X (e::es) t) (hn:x ≠ "__name__":=by decide) (hdb:(x == ("__debug__" : Str))=false:=by decide)
 (he:starEach (e::es) X.env=(false,eval e X.env)::starEach es X.env:=by rfl) (hpl:(backTo pos (starEach es X.env)).any (·.1)=false:=by rfl):PE X (.Call (.Name x p) (e::es) [] pos) (tCB r t):=by
 intro pins s σ H Q I h
 refine wpAny_Call_Name_kw (CP I hg hm hv ?_ hn hdb)
 exact PyProof.Rows.callWith_type1 (thn (ha pos pins s σ H _ I h) fun us s1 ⟨vs,H1,I1,r1,q1⟩=>hc pins s1 σ H1 vs us Q I1 r1 q1) he hpl
end
end L2
namespace HT
open PySem PyProof.Rows
section
open PySem.SeqAt
open PySem.AutoSeq1 (wpAny_loadPart')
open PySem.MeetsSeq PySem.MeetsSeq2 PySem.MeetsSeq3
end
section
variable {prog:Program} {w:World} {A:Around} {E:Value->Shared->Prop} {s:Shared}
theorem cat_tup {t b:Addr} {vs ws:List Value} {Q:Value->Shared->Prop} (ht:IsTup s.heap t vs.toArray) (hb:IsTup s.heap b ws.toArray) (hv:vs≠[])
 (h1:ws=[]->Q (.ref t) s) (h2:ws≠[]->Q (.ref s.heap.objs.size) { s with heap:=s.heap.push { cls:=.type "tuple",data:=.seq (vs++ws).toArray } })
 (hsz:vs.length+ws.length<=sizeLine):wpAny (model prog w) A (binaryOp .Add (.ref t) (.ref b)) Q E s:=by
 obtain ⟨⟨cls,dd,data,sl⟩,ho,hc,n,hd⟩:=id ht
 obtain ⟨⟨cls2,dd2,data2,sl2⟩,ho2,hc2,n2,hd2⟩:=id hb
 simp only at hc hd hc2 hd2
 subst hc hd hc2 hd2
 have e:vs.toArray++ws.toArray=(vs++ws).toArray:=by simp
 by_cases hw:ws=[]
 ·exact concat_meets ⟨_,ho,rfl⟩ ⟨_,ho2,rfl⟩ noFill_tuple_add seq_tuple_add PySem.F.slot_tuple_add PySem.F.entry_tuple_add (PySem.F.args_tuple_add_2 _ _)
   (tuple_addW1 t b vs.toArray ws.toArray n n2 dd dd2 sl sl2 (by simpa using hv) (by simp [hw])) ⟨ho,ho2,h1 hw⟩
 ·refine concat_meets ⟨_,ho,rfl⟩ ⟨_,ho2,rfl⟩ noFill_tuple_add seq_tuple_add PySem.F.slot_tuple_add PySem.F.entry_tuple_add (PySem.F.args_tuple_add_2 _ _)
   (tuple_addW2 t b vs.toArray ws.toArray n n2 dd dd2 sl sl2 (by simpa using hv) (by simpa using hw) (by rw [List.size_toArray,List.size_toArray];exact hsz)) ⟨ho,ho2,?_⟩
  rw [e]
  exact h2 hw
noncomputable def sIx (n d:Nat):Option Int->Nat
 | none=>d
 | some v=>if v < 0 then (v+(n:Int)).toNat else min v.toNat n
theorem sIx_none (n d:Nat):sIx n d none=d:=rfl
theorem sIx_nat (n d k:Nat):sIx n d (some (k:Int))=min k n:=by
 show (if (k:Int) < 0 then ((k:Int)+(n:Int)).toNat else min (k:Int).toNat n)=min k n
 rw [if_neg (by lia),Int.toNat_natCast]
theorem S8 (n d:Nat) (hd:d<=n) (o:Option Int):sIx n d o<=n:=by
 cases o with
 | none=>exact hd
 | some v =>
  show (if v < 0 then (v+(n:Int)).toNat else min v.toNat n)<=n
  by_cases hv:v < 0
  ·rw [if_pos hv];lia
  ·rw [if_neg hv];exact Nat.min_le_right _ _
theorem Ib (v:Int) (n d:Nat):(if v < 0 then max (v+(n:Int)) 0 else min v (n:Int))=((sIx n d (some v):Nat):Int):=by
 show (if v < 0 then max (v+(n:Int)) 0 else min v (n:Int))=(((if v < 0 then (v+(n:Int)).toNat else min v.toNat n):Nat):Int)
 by_cases hv:v < 0
 ·simp only [if_pos hv];lia
 ·simp only [if_neg hv];lia
theorem Rf (lo hi:Option Int) (n:Nat):Builtin.Slice.sliceAdjust lo hi 1 (n:Int)=(((sIx n 0 lo:Nat):Int),((sIx n n hi:Nat):Int)):=by
 have h1:¬ ((1:Int) < 0):=by lia
 unfold Builtin.Slice.sliceAdjust
 simp only [h1,if_false]
 refine Prod.ext ?_ ?_
 ·cases lo with
  | none=>rfl
  | some v=>exact Ib v n 0
 ·cases hi with
  | none=>rfl
  | some v=>exact Ib v n n
theorem UV (i j:Nat):Builtin.Slice.slicePlaces (i:Int) (j:Int) 1=j - i:=by
 unfold Builtin.Slice.slicePlaces
 have h1:(1:Int) > 0:=by lia
 simp only [h1,if_true,Int.ediv_one]
 split <;> lia
theorem KG {v:Value} {o:Option Int} {Q:Option Int->Shared->Prop} (p:IsPart v o) (h:Q o s):wpAny (model prog w) A (Builtin.Slice.slicePartIndex v) Q E s:=by
 cases p with
 | none=>exact slicePart_none h
 | int i t=>exact slicePart_int h
theorem Ju {sl:Addr} {vl vu:Value} {lo hi:Option Int} {n:Nat} {Q:Int × Int × Nat->Shared->Prop} (hs:s.heap.IsSliceOf sl vl vu .none) (pl:IsPart vl lo) (pu:IsPart vu hi)
 (h:Q (((sIx n 0 lo:Nat):Int),1,sIx n n hi - sIx n 0 lo) s):wpAny (model prog w) A (Builtin.Slice.sliceApplied (.ref sl) (pure (n:Int))) Q E s:=by
 obtain ⟨os,hos,hcs,hds⟩:=id hs
 unfold Builtin.Slice.sliceApplied Builtin.Slice.sliceFields
 refine wpAny_bind (wpAny_bind (wpAny_field hos hds (x:=vl) rfl (wpAny_bind (wpAny_field hos hds (x:=vu) rfl (wpAny_bind (wpAny_field hos hds (x:=.none) rfl (wpAny_pure ?_)))))))
 refine wpAny_bind (slicePart_none ?_)
 show wpAny _ _ (if ((1:Int) == 0)=true then _ else _) _ _ s
 rw [if_neg (by decide)]
 refine wpAny_bind (KG pl (wpAny_bind (KG pu (wpAny_bind (wpAny_pure ?_)))))
 show wpAny _ _ (match Builtin.Slice.sliceAdjust lo hi 1 (n:Int) with | (lo,hi)=>pure (lo,(1:Int),Builtin.Slice.slicePlaces lo hi 1)) _ _ s
 rw [Rf lo hi n]
 show wpAny _ _ (pure (((sIx n 0 lo:Nat):Int),(1:Int),Builtin.Slice.slicePlaces ((sIx n 0 lo:Nat):Int) ((sIx n n hi:Nat):Int) 1)) _ _ s
 rw [UV]
 exact wpAny_pure h
theorem Mq (xs:Array Value) (i k:Nat):((List.range k).filterMap fun (m:Nat)=>xs[((i:Int)+(m:Int) * 1).toNat]?).toArray=((xs.toList.drop i).take k).toArray:=by
 have e:(fun (m:Nat)=>xs[((i:Int)+(m:Int) * 1).toNat]?)=fun m=>xs[i+m]?:=by
  funext m
  have:((i:Int)+(m:Int) * 1).toNat=i+m:=by lia
  rw [this]
 rw [e]
 have:=pick_run xs i k
 rw [List.filterMap_map] at this
 have e2:((fun x=>xs[x]?) ∘ fun x=>i+x)=fun m=>xs[i+m]?:=rfl
 rw [e2] at this
 rw [this]
theorem getItem_tuple_cut {t sl:Addr} {items:Array Value} {vl vu:Value} {lo hi:Option Int} {Q:Value->Shared->Prop} (ht:IsTup s.heap t items) (hs:s.heap.IsSliceOf sl vl vu .none) (pl:IsPart vl lo) (pu:IsPart vu hi)
 (hw:¬ (sIx items.size 0 lo=0/\sIx items.size items.size hi=items.size))
 (h:Q (.ref s.heap.objs.size) { s with heap:=s.heap.push { cls:=.type "tuple",data:=.seq ((items.toList.drop (sIx items.size 0 lo)).take (sIx items.size items.size hi - sIx items.size 0 lo)).toArray } })
 (hsz:items.size<=sizeLine):wpAny (model prog w) A (getItem (.ref t) (.ref sl)) Q E s:=by
 have htake:sizeOk (.seq ((items.toList.drop (sIx items.size 0 lo)).take (sIx items.size items.size hi - sIx items.size 0 lo)).toArray):=by
  show ((items.toList.drop (sIx items.size 0 lo)).take (sIx items.size items.size hi - sIx items.size 0 lo)).toArray.size<=sizeLine
  rw [List.size_toArray,List.length_take,List.length_drop,Array.length_toList]
  lia
 have hj:sIx items.size items.size hi<=items.size:=S8 _ _ (Nat.le_refl _) hi
 obtain ⟨os,hos,hcs,hds⟩:=id hs
 have hTs:s.TypeIs (.ref sl) "slice":=⟨os,hos,hcs⟩
 unfold getItem
 try with_reducible refine wpAny_holding ?_
 first | refine wpAny_bind (wpAny_pure ?_) | skip
 refine wpAny_bind (wpAny_sequenceKey ht.typeIs (by decide) ?_)
 refine wpAny_bind (wpAny_callSpecial?_slot (name:=Str.ofString "__getitem__") ht.typeIs PyProof.Rows.slot_tuple_getitem
  (wpAny_call_entry PyProof.Rows.slot_tuple_getitem ht.typeIs entry_tuple_getitem ?_ (args_tuple_getitem _ _)))
 show wpAny _ _ (Builtin.Tuple.tupleItemsOf (.ref t) >>= _) _ _ s
 refine wpAny_bind (tupleItemsOf_ ht ?_)
 refine wpAny_bind (wpAny_typeOf hTs ?_)
 rw [if_pos (by decide)]
 refine wpAny_bind (Ju hs pl pu ?_)
 have hno:¬ ((((sIx items.size 0 lo:Nat):Int) == 0 && (1:Int) == 1 && (sIx items.size items.size hi - sIx items.size 0 lo) == items.size)=true):=by
  intro q
  rw [Bool.and_eq_true,Bool.and_eq_true] at q
  have q1:((sIx items.size 0 lo:Nat):Int)=0:=eq_of_beq q.1.1
  have q2:sIx items.size items.size hi - sIx items.size 0 lo=items.size:=eq_of_beq q.2
  exact hw ⟨by lia,by lia⟩
 show wpAny _ _ (if (((sIx items.size 0 lo:Nat):Int) == 0 && (1:Int) == 1 && (sIx items.size items.size hi - sIx items.size 0 lo) == items.size)=true then _ else _) _ _ s
 rw [if_neg hno,Mq]
 first
  | exact wpAny_bind (m:=Builtin.Tuple.tupleExact _) (wpAny_newObj_type (wpAny_pure ⟨_,rfl,wpAny_pure h⟩) htake)
  | exact wpAny_bind (m:=Builtin.Tuple.tupleExact _) (wpAny_newObj_type (wpAny_bind (wpAny_pure (wpAny_pure ⟨_,rfl,wpAny_pure h⟩))) htake)
  | exact wpAny_bind (wpAny_bind (m:=Builtin.Tuple.tupleExact _) (wpAny_newObj_type (wpAny_pure (wpAny_pure ⟨_,rfl,wpAny_pure h⟩)) htake))
  | exact wpAny_bind (wpAny_bind (m:=Builtin.Tuple.tupleExact _) (wpAny_newObj_type (wpAny_pure ⟨_,rfl,wpAny_pure h⟩) htake))
end
end HT
namespace L2
open PySem PySem.Spec PyProof.Rows
noncomputable abbrev TO:=St->Hp->(Option Int->Hp->Prop)->Prop
noncomputable def PO (X:Cx) (e:Option Expr) (t:TO):Prop :=
 ∀ (pins:List (Addr × Obj)) (s:Shared) (σ:St) (H:Hp) (Q:Option Int->Hp->Prop),Inv X pins σ H s->t σ H Q ->
  wpAny (model X.prog X.w) X.A (evalPart e X.env) (fun u s'=>∃ o H',Inv X pins σ H' s'/\IsPart u o/\Q o H') X.xe s
noncomputable def Kh:TO:=fun _ H Q=>Q none H
noncomputable def K7 (t:TE):TO:=fun σ H Q=>t σ H fun x H1=>∃ i,x=.int i/\Q (some i) H1
theorem HH {ns:List Int}:∀ {us:List Value},Vals (ns.map V.int) us->IntsAre us ns:=by
 induction ns with
 | nil=>intro us r;rw [List.map_nil] at r;cases r;exact .nil
 | cons n ns ih =>
  intro us r
  rw [List.map_cons] at r
  cases r with
  | cons r1 r2 =>
   obtain ⟨t,e⟩:=r1
   subst e
   exact .cons n t (ih r2)
section
variable {X:Cx} {e:Expr} {te:TE} {lo hi:Option Expr} {tl th:TO} {pos p2:Pos}
theorem Gf:PO X none Kh:=by
 intro pins s σ H Q I h
 rw [evalPart_none]
 exact wpAny_pure ⟨none,H,I,.none,h⟩
theorem HZ (h:PE X e te):PO X (some e) (K7 te):=by
 intro pins s σ H Q I hw
 rw [evalPart_some]
 refine thn (h pins s σ H _ I hw) fun u s1 ⟨x,H1,I1,r1,q1⟩=>?_
 obtain ⟨i,rfl,q⟩:=q1
 obtain ⟨t,rfl⟩:=r1
 exact ⟨some i,H1,I1,.int i t,q⟩
noncomputable def SlR (X:Cx) (r:V->Option Int->Option Int->Hp->VK->Prop):Prop :=
 ∀ (pins:List (Addr × Obj)) (s:Shared) (σ:St) (H:Hp) (x:V) (v vl vu:Value) (lo hi:Option Int) (sl:Addr) (Q:VK),Inv X pins σ H s->RelV x v->s.heap.IsSliceOf sl vl vu .none->IsPart vl lo->IsPart vu hi->r x lo hi H Q ->
  ∃ T id,typeLookup (.type T) "__getitem__" = pure (some (.builtin id))/\s.TypeIs v T/\wpAny (model X.prog X.w) X.A (getItem v (.ref sl)) (EP X pins σ Q) X.xe s
noncomputable def tSl (r:V->Option Int->Option Int->Hp->VK->Prop) (te:TE) (tl th:TO):TE:=fun σ H Q=>te σ H fun x H1=>tl σ H1 fun l H2=>th σ H2 fun u H3=>r x l u H3 Q
theorem LO {r:V->Option Int->Option Int->Hp->VK->Prop} (hr:SlR X r) (he:PE X e te) (hl:PO X lo tl) (hu:PO X hi th):PE X (.Subscript e (.Slice lo hi none p2) pos) (tSl r te tl th):=by
 intro pins s σ H Q I h
 refine Subscript_ (thn (he pins s σ H _ I h) fun v s1 ⟨x,H1,I1,r1,q1⟩=>?_)
 refine wpAny_Slice (thn (hl pins s1 σ H1 _ I1 q1) fun vl s2 ⟨l,H2,I2,pl,q2⟩=>thn (hu pins s2 σ H2 _ I2 q2) fun vu s3 ⟨u,H3,I3,pu,q3⟩=>?_)
 rw [evalPart_none]
 refine wpAny_pure ?_
 have I4:Inv X pins σ H3 { s3 with heap:=s3.heap.push { cls:=.type "slice",data:=.fields #[vl,vu,.none] } }:=I3.kept (t':=s3.toks) fun b ob q=>Heap.get?_push_of_some _ q
 obtain ⟨T,id,hT,ht,hg⟩:=hr pins { s3 with heap:=s3.heap.push { cls:=.type "slice",data:=.fields #[vl,vu,.none] } } σ H3 x v vl vu l u s3.heap.objs.size Q I4 r1 (Heap.IsSliceOf.new ..) pl pu q3
 show wpAny (model X.prog X.w) X.A (subscriptTail e (.Slice lo hi none p2) v (.ref s3.heap.objs.size)) (EP X pins σ Q) X.xe { s3 with heap:=s3.heap.push { cls:=.type "slice",data:=.fields #[vl,vu,.none] } }
 exact tail_any (ops:=[.ref s3.heap.objs.size,v]) ht hT hg (by with_unfolding_all rfl)
noncomputable def BR (xs:List V) (lo hi:Option Int):List V:=(xs.drop (HT.sIx xs.length 0 lo)).take (HT.sIx xs.length xs.length hi - HT.sIx xs.length 0 lo)
theorem JX (xs:List V) (lo hi:Option Int):(BR xs lo hi).length<=xs.length:=by
 unfold BR
 rw [List.length_take,List.length_drop]
 lia
noncomputable def Rm (K:W.Frag):V->Option Int->Option Int->Hp->VK->Prop:=fun x lo hi H Q=>∃ a xs,x=.ref a/\SqT K H a xs /\
 ¬ (HT.sIx xs.length 0 lo=0/\HT.sIx xs.length xs.length hi=xs.length)/\∀ p,H p=none->Q (.ref p) (upd H p (.tup (BR xs lo hi)))
theorem Jy:SlR X (Rm X.K):=by
 intro pins s σ H x v vl vu lo hi sl Q I rx hs pl pu h
 obtain ⟨a,xs,rfl,hx,hw,q⟩:=h
 cases rx
 obtain ⟨its,r,ht,hz⟩:=I.tuple hx
 have hlen:its.toArray.size=xs.length:=by rw [List.size_toArray];exact r.length.symm
 refine ⟨"tuple",_,PyProof.Rows.slot_tuple_getitem.lookup,ht.typeIs,?_⟩
 refine HT.getItem_tuple_cut ht hs pl pu (by rw [hlen];exact hw) ?_ (by rw [hlen];exact hz)
 rw [hlen]
 refine ⟨.ref s.heap.objs.size,_,I.laid (t':=s.toks) (o:=.tup (BR xs lo hi)) (fun b ob q=>Heap.get?_push_of_some _ q) (Nat.le_refl _) ?_,rfl,q _ (I.hok.fresh (Nat.le_refl _))⟩
 exact ⟨Nat.le_trans (JX xs lo hi) hz,_,(r.drop (HT.sIx xs.length 0 lo)).take (HT.sIx xs.length xs.length hi - HT.sIx xs.length 0 lo),IsTupN.new _ _⟩
noncomputable def Ks (K:W.Frag):R2:=fun x y H Q=>∃ a b xs ys,x=.ref a/\y=.ref b/\SqT K H a xs/\SqT K H b ys/\xs≠[]/\xs.length+ys.length<=sizeLine /\
 (ys=[]->Q (.ref a) H)/\(ys≠[]->∀ p,H p=none->Q (.ref p) (upd H p (.tup (xs++ys))))
theorem Vals.nil_iff {xs:List V} {us:List Value} (r:Vals xs us):us=[] ↔ xs=[]:=by
 cases r with
 | nil=>simp
 | cons _ _=>simp
theorem KC:OpR X (binaryOp .Add) (Ks X.K):=by
 intro pins s σ H x y v u Q I rx ry h
 obtain ⟨a,b,xs,ys,rfl,rfl,ha,hb,hx,hz,q1,q2⟩:=h
 cases rx
 cases ry
 obtain ⟨its,r1,p1,_⟩:=I.tuple ha
 obtain ⟨its2,r2,p2,_⟩:=I.tuple hb
 refine HT.cat_tup p1 p2 (fun z=>hx (r1.nil_iff.mp z)) (fun z=>⟨.ref a,H,I,rfl,q1 (r2.nil_iff.mp z)⟩) (fun z=>?_) (by rw [<- r1.length,<- r2.length];exact hz)
 refine ⟨.ref s.heap.objs.size,_,I.laid (t':=s.toks) (o:=.tup (xs++ys)) (fun b ob q=>Heap.get?_push_of_some _ q) (Nat.le_refl _) ?_,rfl,q2 (fun w=>z (r2.nil_iff.mpr w)) _ (I.hok.fresh (Nat.le_refl _))⟩
 exact ⟨by rw [List.length_append];exact hz,_,r1.append r2,IsTupN.new _ _⟩
end
noncomputable def ixN (n:Nat) (i:Int):Option Nat:=if 0<=i then (if i < n then some i.toNat else none) else if -(n:Int)<=i then some (i+n).toNat else none
noncomputable def atI {α:Type} (xs:List α) (i:Int):Option α:=(ixN xs.length i).bind fun j=>xs[j]?
theorem IP {n:Nat} {i:Int} {j:Nat} (h:ixN n i=some j):seqIndex? i n=some j/\j < n /\ -(n:Int)<=i/\i < n:=by
 unfold ixN at h
 by_cases h0:0<=i
 ·rw [if_pos h0] at h
  by_cases h1:i < n
  ·rw [if_pos h1] at h
   have e:i.toNat=j:=Option.some.inj h
   exact ⟨by rw [seqIndex_of h0 h1,e],by lia,by lia,h1⟩
  ·rw [if_neg h1] at h;cases h
 ·rw [if_neg h0] at h
  by_cases h1 : -(n:Int)<=i
  ·rw [if_pos h1] at h
   have e:(i+n).toNat=j:=Option.some.inj h
   exact ⟨by rw [seqIndex_neg (by lia) h1,e],by lia,h1,by lia⟩
  ·rw [if_neg h1] at h;cases h
theorem HL {α:Type} {xs:List α} {i:Int} {v:α} (h:atI xs i=some v):∃ j,seqIndex? i xs.length=some j/\xs[j]? = some v/\j < xs.length /\ -(xs.length:Int)<=i/\i < xs.length:=by
 unfold atI at h
 cases e:ixN xs.length i with
 | none=>rw [e] at h;cases h
 | some j =>
  rw [e] at h
  obtain ⟨h1,h2,h3,h4⟩:=IP e
  exact ⟨j,h1,h,h2,h3,h4⟩
noncomputable def IE (b:Expr):Prop:=∀ o i,subscripted b false o i=operate [o,i] (getItem o i)
noncomputable def IxR (X:Cx) (r:R2):Prop :=
 ∀ (value slice:Expr) (pins:List (Addr × Obj)) (s:Shared) (σ:St) (H:Hp) (x y:V) (v u:Value) (Q:VK),Inv X pins σ H s->RelV x v->RelV y u->r x y H Q ->
  subscripted slice false v u=operate [v,u] (getItem v u)->wpAny (model X.prog X.w) X.A (subscriptTail value slice v u) (EP X pins σ Q) X.xe s
noncomputable def MtR (X:Cx) (id:String) (r:V->List V->Hp->VK->Prop):Prop :=
 ∀ (pins:List (Addr × Obj)) (s:Shared) (σ:St) (H:Hp) (x:V) (xs:List V) (v:Value) (us:List Value) (Q:VK),Inv X pins σ H s->RelV x v->Vals xs us->r x xs H Q ->
  wpAny (model X.prog X.w) X.A (call (.builtin id) (v::us)) (EP X pins σ Q) X.xe s
section
variable {X:Cx} {a b:Expr} {ta tb:TE} {pos:Pos}
theorem IxR.or {r r':R2} (h:IxR X r) (h':IxR X r'):IxR X (fun x y H Q=>r x y H Q\/r' x y H Q):=by
 intro value slice pins s σ H x y v u Q I rx ry q hs
 rcases q with q | q
 ·exact h value slice pins s σ H x y v u Q I rx ry q hs
 ·exact h' value slice pins s σ H x y v u Q I rx ry q hs
theorem RD {r:R2} (hr:IxR X r) (ha:PE X a ta) (hb:PE X b tb) (hs:IE b):PE X (.Subscript a b pos) (tOp r ta tb):=by
 intro pins s σ H Q I h
 exact Subscript_ (G6 ha hb I h fun v u s2 x y H2 I2 rx ry q=>hr a b pins s2 σ H2 x y v u Q I2 rx ry q (hs _ _))
noncomputable def Ix (K:W.Frag):R2:=fun x y H Q=>∃ p xs i v,x=.ref p/\y=.int i/\SqL K H p xs/\atI xs i=some v/\Q v H
noncomputable def Ia (K:W.Frag):R2:=fun x y H Q=>∃ p xs i v,x=.ref p/\y=.int i/\SqT K H p xs/\atI xs i=some v/\Q v H
noncomputable def JH:R2:=fun x y H Q=>∃ z i c,x=.str z/\y=.int i/\z.length<=sizeLine/\atI z.cps.toList i=some c/\Q (.str ⟨#[c]⟩) H
theorem ix_list:IxR X (Ix X.K):=by
 intro value slice pins s σ H x y v u Q I rx ry h hs
 obtain ⟨p,xs,i,z,rfl,rfl,hq,he,q⟩:=h
 cases rx
 obtain ⟨t,rfl⟩:=ry
 obtain ⟨its,r,pl,hz⟩:=I.list hq
 obtain ⟨j,h1,h2,h3,h4,h5⟩:=HL he
 obtain ⟨w,ew,rw'⟩:=r.get h2
 have hl:=r.length
 have hn:=D8
 have fin:EP X pins σ Q w s:=⟨z,H,I,rw',q⟩
 by_cases h0:0<=i
 ·have hj:i.toNat=j:=by
   rw [seqIndex_of h0 h5] at h1
   exact Option.some.inj h1
  exact item_listR pl.isList h0 (by lia) (by rw [hj];simpa using ew) fin hs
 ·have hj:(i+(its.toArray.size:Int)).toNat=j:=by
   rw [seqIndex_neg (by lia) h4] at h1
   rw [List.size_toArray,<- hl]
   exact Option.some.inj h1
  exact subscriptTail_builtinR (x:=w) pl.isList.typeIs slot_list_getitem.lookup
   (wpAny_getItem_list_neg (Q:=fun r s'=>r=w/\EP X pins σ Q r s') pl.isList (by lia) (by rw [List.size_toArray] <;> lia) (by lia) (by rw [hj];simpa using ew) ⟨rfl,fin⟩) hs
theorem ix_tup:IxR X (Ia X.K):=by
 intro value slice pins s σ H x y v u Q I rx ry h hs
 obtain ⟨p,xs,i,z,rfl,rfl,hq,he,q⟩:=h
 cases rx
 obtain ⟨t,rfl⟩:=ry
 obtain ⟨its,r,pl,hz⟩:=I.tuple hq
 obtain ⟨j,h1,h2,h3,h4,h5⟩:=HL he
 obtain ⟨w,ew,rw'⟩:=r.get h2
 have hl:=r.length
 have hn:=D8
 have fin:EP X pins σ Q w s:=⟨z,H,I,rw',q⟩
 exact subscriptTail_builtinR (x:=w) pl.typeIs slot_tuple_getitem.lookup
  (getItem_tuple (j:=j) (Q:=fun r s'=>r=w/\EP X pins σ Q r s') pl (by lia) (by lia) (by rw [List.size_toArray,<- hl];exact h1) (by simpa using ew) ⟨rfl,fin⟩) hs
theorem Q6:IxR X JH:=by
 intro value slice pins s σ H x y v u Q I rx ry h hs
 obtain ⟨z,i,c,rfl,rfl,hz,he,q⟩:=h
 obtain ⟨t,rfl⟩:=rx
 obtain ⟨t',rfl⟩:=ry
 obtain ⟨j,h1,h2,h3,h4,h5⟩:=HL he
 have hl:z.cps.toList.length=z.length:=by simp [Str.length]
 rw [hl] at h1 h4 h5
 have hn:=D8
 exact tail_any (typeIs_str s z t) slot_str_getitem.lookup (getItem_str (c:=c) (by
  have e1:decide (i < -(2 ^ 63:Int))=false:=decide_eq_false (by lia)
  have e2:decide (i ≥ 2 ^ 63)=false:=decide_eq_false (by lia)
  rw [e1,e2,Bool.or_false]) (by rw [h1];simpa using h2) ⟨.str ⟨#[c]⟩,H,I.tok _,⟨_,rfl⟩,q⟩) hs
noncomputable def rIx (K:W.Frag):R2:=fun x y H Q=>Ix K x y H Q\/Ia K x y H Q\/JH x y H Q
theorem ix_seq:IxR X (rIx X.K):=ix_list.or (ix_tup.or Q6)
theorem Pz (its:List Value) (n j:Nat) (u:Value):Obj.mapSeq (·.setIfInBounds j u) { cls:=.type "list",data:=.seq its.toArray n } = { cls:=.type "list",data:=.seq (its.set j u).toArray n }:=by
 simp [Obj.mapSeq]
theorem Inv.lst {pins:List (Addr × Obj)} {σ:St} {H:Hp} {s:Shared} {p:Addr} {xs:List V} (I:Inv X pins σ H s) (h:H p=some (.lst xs)) :
 ∃ (its:List Value) (n:Nat),Vals xs its/\s.heap.get? p=some { cls:=.type "list",data:=.seq its.toArray n } /\ xs.length<=sizeLine:=by
 obtain ⟨z,its,n,r,e⟩:=I.hok p _ h
 exact ⟨its,n,r,e,z⟩
theorem Inv.lstUpd {pins:List (Addr × Obj)} {σ:St} {H:Hp} {s:Shared} {p:Addr} {xs ys:List V} {its its':List Value} {n n':Nat} {f:Obj->Obj} (I:Inv X pins σ H s) (h:H p=some (.lst xs))
 (ho:s.heap.get? p=some { cls:=.type "list",data:=.seq its.toArray n }) (hf:f { cls:=.type "list",data:=.seq its.toArray n } = { cls:=.type "list",data:=.seq its'.toArray n' }) (r:Vals ys its') (hz:ys.length<=sizeLine) (t:Nat) :
 Inv X pins σ (upd H p (.lst ys)) { s with heap:=s.heap.update p f,toks:=t }:=by
 have e:(s.heap.update p f).get? p=some { cls:=.type "list",data:=.seq its'.toArray n' }:=by
  rw [Heap.get?_update_self f ho (by rw [hf] <;> rfl),hf]
 refine I.write (x:=p) (e:=p) (by rw [h];trivial) (.inl rfl) (fun b u hb q=>(Heap.get?_update_other _ _ (Ne.symm hb)).trans q) ⟨_,e⟩ ?_
 exact ⟨hz,its',n',r,e⟩
noncomputable def O6:V->V->V->Hp->(Hp->Prop)->Prop:=fun o i v H Q=>∃ p xs k j,o=.ref p/\i=.int k/\H p=some (.lst xs)/\ixN xs.length k=some j/\Q (upd H p (.lst (xs.set j v)))
theorem Tt:He X O6:=by
 intro pins s σ H o i v ov iv u Q I ro ri rv h
 obtain ⟨p,xs,k,j,rfl,rfl,hp,hj,q⟩:=h
 cases ro
 obtain ⟨t,rfl⟩:=ri
 obtain ⟨its,n,r,ho,hz⟩:=I.lst hp
 obtain ⟨h1,h2,h3,h4⟩:=IP hj
 have hl:=r.length
 have hn:=D8
 have I':Inv X pins σ (upd H p (.lst (xs.set j v))) { s with heap:=s.heap.update p (Obj.mapSeq (·.setIfInBounds j u)) } :=
  I.lstUpd hp ho (Pz its n j u) (r.set rv j) (by rw [List.length_set];exact hz) s.toks
 by_cases h0:0<=k
 ·have hk:k.toNat=j:=by
   rw [seqIndex_of h0 h4] at h1
   exact Option.some.inj h1
  exact PySem.W.ki_setAt ho h0 (by lia) (by rw [List.size_toArray,<- hl];exact h4) (by rw [hk];exact ⟨_,I',q⟩)
 ·have hk:(k+(its.toArray.size:Int)).toNat=j:=by
   rw [seqIndex_neg (by lia) h3] at h1
   rw [List.size_toArray,<- hl]
   exact Option.some.inj h1
  exact PySem.W.ki_setBack ho (by lia) (by rw [List.size_toArray,<- hl];exact h3) (by lia) (by rw [hk];exact ⟨_,I',q⟩)
theorem SZ (lo hi:Option Int) (n:Nat):(sliceBounds lo hi none n).1=((HT.sIx n 0 lo:Nat):Int)/\(sliceBounds lo hi none n).2.1=((HT.sIx n n hi:Nat):Int)/\(sliceBounds lo hi none n).2.2=1:=by
 refine ⟨?_,?_,rfl⟩
 ·cases lo with
  | none=>simp [sliceBounds,HT.sIx]
  | some i =>
   simp only [sliceBounds,HT.sIx,Option.getD_none,show (1:Int) > 0 by decide,if_true]
   by_cases h:i < 0
   ·simp only [h,if_true] <;> lia
   ·simp only [h,if_false] <;> lia
 ·cases hi with
  | none=>simp [sliceBounds,HT.sIx]
  | some i =>
   simp only [sliceBounds,HT.sIx,Option.getD_none,show (1:Int) > 0 by decide,if_true]
   by_cases h:i < 0
   ·simp only [h,if_true] <;> lia
   ·simp only [h,if_false] <;> lia
theorem SC (its:List Value) (lo hi:Option Int):slicePick its.toArray lo hi none=((its.drop (HT.sIx its.length 0 lo)).take (HT.sIx its.length its.length hi - HT.sIx its.length 0 lo)).toArray:=by
 obtain ⟨h1,h2,h3⟩:=SZ lo hi its.toArray.size
 unfold slicePick
 rw [h1,h2,h3]
 simp only [sliceRange_one,pick_run,List.size_toArray] <;> rfl
noncomputable def RU (K:W.Frag):V->Option Int->Option Int->Hp->VK->Prop:=fun x lo hi H Q=>∃ a xs,x=.ref a/\SqL K H a xs/\∀ p,H p=none->Q (.ref p) (upd H p (.lst (BR xs lo hi)))
theorem Ph:SlR X (RU X.K):=by
 intro pins s σ H x v vl vu lo hi sl Q I rx hs pl pu h
 obtain ⟨a,xs,rfl,hx,q⟩:=h
 cases rx
 obtain ⟨its,r,ht,hz⟩:=I.list hx
 have hlen:=r.length
 refine ⟨"list",_,slot_list_getitem.lookup,ht.isList.typeIs,?_⟩
 refine wpAny_getItem_list_slice ht.isList hs pl pu .none (by simp) ?_ (by rw [List.size_toArray] <;> lia)
 rw [SC,<- hlen]
 refine ⟨.ref s.heap.objs.size,_,I.laid (t':=s.toks) (o:=.lst (BR xs lo hi)) (fun b ob q=>Heap.get?_push_of_some _ q) (Nat.le_refl _) ?_,rfl,q _ (I.hok.fresh (Nat.le_refl _))⟩
 exact ⟨Nat.le_trans (JX xs lo hi) hz,_,0,(r.drop (HT.sIx xs.length 0 lo)).take (HT.sIx xs.length xs.length hi - HT.sIx xs.length 0 lo),Heap.get?_push_size _ rfl⟩
noncomputable def B9:V->Bool
 | .non=>true
 | .bl _=>true
 | .int _=>true
 | .str _=>true
 | _=>false
noncomputable def eqV:V->V->Bool
 | .non,.non=>true
 | .bl a,.bl b=>a == b
 | .bl a,.int b=>(if a then 1 else 0) == b
 | .int a,.bl b=>a == (if b then 1 else 0)
 | .int a,.int b=>a == b
 | .str a,.str b=>a == b
 | _,_=>false
theorem UH {A:Around} {s:Shared} {y x:V} {u v:Value} (ry:RelV y u) (rx:RelV x v) (fy:B9 y=true) (fx:B9 x=true):SeqAt.EqAt A s u v (eqV y x):=by
 cases y with
 | non =>
  cases ry
  cases x with
  | non=>cases rx;exact SeqAt.EqAt.same _
  | bl b=>cases rx;exact SeqAt.EqAt.none_bool b
  | int b=>obtain ⟨t,rfl⟩:=rx;exact SeqAt.EqAt.none_int b t
  | str b=>obtain ⟨t,rfl⟩:=rx;exact SeqAt.EqAt.none_str b t
  | _=>exact absurd (show false=true from fx) Bool.false_ne_true
 | bl a =>
  cases ry
  cases x with
  | non=>cases rx;exact SeqAt.EqAt.bool_none a
  | bl b=>cases rx;exact SeqAt.EqAt.bool_bool a b
  | int b=>obtain ⟨t,rfl⟩:=rx;exact SeqAt.EqAt.bool_int a b t
  | str b=>obtain ⟨t,rfl⟩:=rx;exact SeqAt.EqAt.bool_str a b t
  | _=>exact absurd (show false=true from fx) Bool.false_ne_true
 | int a =>
  obtain ⟨t',rfl⟩:=ry
  cases x with
  | non=>cases rx;exact SeqAt.EqAt.int_none a t'
  | bl b=>cases rx;exact SeqAt.EqAt.int_bool a t' b
  | int b=>obtain ⟨t,rfl⟩:=rx;exact SeqAt.EqAt.int_int a t' b t
  | str b=>obtain ⟨t,rfl⟩:=rx;exact SeqAt.EqAt.int_str a t' b t
  | _=>exact absurd (show false=true from fx) Bool.false_ne_true
 | str a =>
  obtain ⟨t',rfl⟩:=ry
  cases x with
  | non=>cases rx;exact SeqAt.EqAt.str_none a t'
  | bl b=>cases rx;exact SeqAt.EqAt.str_bool a t' b
  | int b=>obtain ⟨t,rfl⟩:=rx;exact SeqAt.EqAt.str_int a t' b t
  | str b=>obtain ⟨t,rfl⟩:=rx;exact SeqAt.EqAt.str_str a t' b t
  | _=>exact absurd (show false=true from fx) Bool.false_ne_true
 | _=>exact absurd (show false=true from fy) Bool.false_ne_true
noncomputable def eqU (x:V) (u:Value):Bool:=match u with
 | .none=>eqV .non x
 | .bool b=>eqV (.bl b) x
 | .int i _=>eqV (.int i) x
 | .str z _=>eqV (.str z) x
 | _=>false
theorem Iy {x y:V} {u:Value} (r:RelV y u) (f:B9 y=true):eqU x u=eqV y x:=by
 cases y with
 | non=>cases r;rfl
 | bl b=>cases r;rfl
 | int i=>obtain ⟨t,rfl⟩:=r;rfl
 | str z=>obtain ⟨t,rfl⟩:=r;rfl
 | _=>exact absurd (show false=true from f) Bool.false_ne_true
theorem EL {x:V}:∀ {xs:List V} {us:List Value},Vals xs us->xs.all B9=true->us.any (eqU x)=xs.any fun y=>eqV y x
 | _,_,.nil,_=>rfl
 | y::xs,u::us,.cons r t,f=>by
  rw [List.all_cons,Bool.and_eq_true] at f
  rw [List.any_cons,List.any_cons,Iy r f.1,EL t f.2]
theorem Em {A:Around} {s:Shared} {x:V} {v:Value} (rx:RelV x v) (fx:B9 x=true):∀ {xs:List V} {us:List Value},Vals xs us->xs.all B9=true->∀ u∈us,SeqAt.EqAt A s u v (eqU x u)
 | _,_,.nil,_=>fun u hu=>by cases hu
 | y::xs,u::us,.cons r t,f=>fun u' hu=>by
  rw [List.all_cons,Bool.and_eq_true] at f
  rcases List.mem_cons.mp hu with rfl | hu
  ·rw [Iy r f.1];exact UH r rx f.1 fx
  ·exact Em rx fx t f.2 u' hu
noncomputable def inV (x:V) (xs:List V):Bool:=xs.any fun y=>eqV y x
noncomputable def rIn (K:W.Frag) (neg:Bool):R2:=fun x y H Q=>∃ p xs,y=.ref p/\(SqL K H p xs\/SqT K H p xs)/\B9 x=true/\xs.all B9=true/\Q (.bl (if neg then !inV x xs else inV x xs)) H
theorem Oc:OpR X (compareOp .In) (rIn X.K false):=by
 intro pins s σ H x y v u Q I rx ry h
 obtain ⟨p,xs,rfl,hq,fx,fs,q⟩:=h
 cases ry
 rcases hq with hq | hq
 ·obtain ⟨its,r,pl,hz⟩:=I.list hq
  refine SeqAt.in_listAt (eqU x) pl.isList (fun w hw=>Em rx fx r fs w (by simpa using hw)) ⟨.bl _,H,I,rfl,?_⟩
  rw [show its.toArray.any (eqU x)=its.any (eqU x) by simp,EL r fs]
  exact q
 ·obtain ⟨its,r,pl,hz⟩:=I.tuple hq
  refine SeqAt.in_tupleAt (eqU x) pl (fun w hw=>Em rx fx r fs w (by simpa using hw)) ⟨.bl _,H,I,rfl,?_⟩
  rw [show its.toArray.any (eqU x)=its.any (eqU x) by simp,EL r fs]
  exact q
theorem UB:OpR X (compareOp .NotIn) (rIn X.K true):=by
 intro pins s σ H x y v u Q I rx ry h
 obtain ⟨p,xs,rfl,hq,fx,fs,q⟩:=h
 cases ry
 rcases hq with hq | hq
 ·obtain ⟨its,r,pl,hz⟩:=I.list hq
  refine SeqAt.notIn_listAt (eqU x) pl.isList (fun w hw=>Em rx fx r fs w (by simpa using hw)) ⟨.bl _,H,I,rfl,?_⟩
  rw [show its.toArray.any (eqU x)=its.any (eqU x) by simp,EL r fs]
  exact q
 ·obtain ⟨its,r,pl,hz⟩:=I.tuple hq
  refine SeqAt.notIn_tupleAt (eqU x) pl (fun w hw=>Em rx fx r fs w (by simpa using hw)) ⟨.bl _,H,I,rfl,?_⟩
  rw [show its.toArray.any (eqU x)=its.any (eqU x) by simp,EL r fs]
  exact q
theorem call_list_of:CallR X (.type "list") (fun xs H Q=>∃ p ys,xs=[.ref p]/\(SqL X.K H p ys\/SqT X.K H p ys)/\∀ l,H l=none->Q (.ref l) (upd H l (.lst ys))):=by
 intro pins s σ H xs us Q I r h
 obtain ⟨p,ys,rfl,hq,q⟩:=h
 obtain ⟨u,rfl,rx⟩:=B2 r
 cases rx
 have fin:∀ (its:List Value),Vals ys its->ys.length<=sizeLine->∀ (h':Heap) (c':Nat),(∀ b o',s.heap.get? b=some o'->h'.get? b=some o') ->
  h'.get? s.heap.objs.size=some { cls:=.type "list",dict:=none,data:=.seq its.toArray c',slots:=#[] } -> EP X pins σ Q (.ref s.heap.objs.size) { s with heap:=h' }:=fun its r' hz h' c' kp e =>
  ⟨.ref s.heap.objs.size,_,I.laid (t':=s.toks) kp (Nat.le_refl _) (show ObjOk X.prog X.w _ h' _ (.lst ys) from ⟨hz,its,c',r',e⟩),rfl,q _ (I.hok.fresh (Nat.le_refl _))⟩
 rcases hq with hq | hq
 ·obtain ⟨its,r',pl,hz⟩:=I.list hq
  have hlen:=r'.length
  obtain ⟨o,ho,hc,n,hd⟩:=pl.isList
  exact call_list_seq p (.inl rfl) ho hc hd (fun h' c' kp e=>fin its r' hz h' c' kp e) (by simp only [List.size_toArray] <;> lia)
 ·obtain ⟨its,r',pl,hz⟩:=I.tuple hq
  have hlen:=r'.length
  obtain ⟨o,ho,hc,n,hd⟩:=pl
  exact call_list_seq p (.inr rfl) ho hc hd (fun h' c' kp e=>fin its r' hz h' c' kp e) (by simp only [List.size_toArray] <;> lia)
theorem call_tuple_of:CallR X (.type "tuple") (fun xs H Q=>∃ p ys,xs=[.ref p]/\((SqL X.K H p ys/\∀ l,H l=none->Q (.ref l) (upd H l (.tup ys)))\/(SqT X.K H p ys/\Q (.ref p) H))):=by
 intro pins s σ H xs us Q I r h
 obtain ⟨p,ys,rfl,h⟩:=h
 obtain ⟨u,rfl,rx⟩:=B2 r
 cases rx
 rcases h with ⟨hq,q⟩ | ⟨hq,q⟩
 ·obtain ⟨its,r',pl,hz⟩:=I.list hq
  have hlen:=r'.length
  refine call_tuple_list pl.isList (fun h' kp=>?_) (by simp only [List.size_toArray] <;> lia)
  have I1:Inv X pins σ H { s with heap:=h' }:=I.kept (t':=s.toks) kp
  have I2:Inv X pins σ (upd H h'.objs.size (.tup ys)) { s with heap:=h'.push { cls:=.type "tuple",data:=.seq its.toArray } } :=
   I1.laid (t':=s.toks) (fun b o e=>Heap.get?_push_of_some _ e) (Nat.le_refl _) (show ObjOk X.prog X.w _ _ _ (.tup ys) from ⟨hz,its,r',IsTupN.new _ _⟩)
  exact ⟨.ref h'.objs.size,_,I2,rfl,q _ (I1.hok.fresh (Nat.le_refl _))⟩
 ·obtain ⟨its,r',pl,hz⟩:=I.tuple hq
  exact call_tuple_same pl ⟨.ref p,H,I,rfl,q⟩
noncomputable def tyV (K:W.Frag) (T:String) (x:V) (H:Hp):Prop:=match x with
 | .str _=>T = "str"
 | .int _=>T = "int"
 | .ref p=>(T = "list" /\ ∃ xs,SqL K H p xs)\/(T = "tuple" /\ ∃ o,K.lookup p=some o/\o.cls=.type "tuple" /\ o.dict=none) \/
  (T = "dict" /\ ((∃ kvs,H p=some (.dK kvs))\/∃ kvs,H p=some (.dT kvs)))\/(T = "set" /\ ∃ S n,H p=some (.set S n))
 | _=>False
theorem KJ {pins:List (Addr × Obj)} {σ:St} {H:Hp} {s:Shared} {T:String} {x:V} {v:Value} (I:Inv X pins σ H s) (r:RelV x v) (ty:tyV X.K T x H) :
 s.TypeIs v T/\∀ a,v=.ref a->∃ ob,s.heap.get? a=some ob/\ob.dict=none:=by
 cases x with
 | str z =>
  obtain ⟨t,rfl⟩:=r
  cases (show T = "str" from ty)
  exact ⟨typeIs_str s z t,fun _ e=>nomatch e⟩
 | int i =>
  obtain ⟨t,rfl⟩:=r
  cases (show T = "int" from ty)
  exact ⟨typeIs_int s i t,fun _ e=>nomatch e⟩
 | ref p =>
  cases r
  rcases ty with ⟨rfl,xs,hq⟩ | ⟨rfl,o,hk,hc,hd⟩ | ⟨rfl,hk⟩ | ⟨rfl,S,n,hk⟩
  ·obtain ⟨its,_,pl,_⟩:=I.list hq
   refine ⟨pl.isList.typeIs,fun a e=>?_⟩
   cases e
   obtain ⟨o,n,e,c,hd,_⟩:=pl
   exact ⟨o,e,hd⟩
  ·refine ⟨⟨o,I.kIn p o hk,hc⟩,fun a e=>?_⟩
   cases e
   exact ⟨o,I.kIn _ o hk,hd⟩
  ·have z:∃ o,s.heap.get? p=some o/\o.ExactDict:=by
    rcases hk with ⟨kvs,hk⟩ | ⟨kvs,hk⟩
    ·obtain ⟨_,_,_,_,o,_,_,e,ex,_⟩:=I.hok p _ hk
     exact ⟨o,e,ex⟩
    ·obtain ⟨_,_,_,_,o,_,_,e,ex,_⟩:=I.hok p _ hk
     exact ⟨o,e,ex⟩
   obtain ⟨o,e,ex⟩:=z
   refine ⟨⟨o,e,ex.1⟩,fun a e2=>?_⟩
   cases e2
   exact ⟨o,e,ex.2.1⟩
  ·obtain ⟨o,_,_,_,e,ex,_⟩:=I.hok p _ hk
   refine ⟨⟨o,e,ex.1⟩,fun a e2=>?_⟩
   cases e2
   exact ⟨o,e,ex.2.1⟩
 | _=>exact False.elim ty
noncomputable def Kl (K:W.Frag) (T:String) (r:V->List V->Hp->VK->Prop) (to:TE):TE:=fun σ H Q=>to σ H fun x H1=>tyV K T x H1/\r x [] H1 Q
noncomputable def tBM (K:W.Frag) (T:String) (r:V->List V->Hp->VK->Prop) (to:TE) (t:TA):TE:=fun σ H Q=>to σ H fun x H1=>tyV K T x H1/\t σ H1 fun xs H2=>r x xs H2 Q
variable {o e:Expr} {es:List Expr} {to:TE} {t:TA} {name:Str} {apos cpos:Pos} {T id:String} {r:V->List V->Hp->VK->Prop}
theorem Sy (pa:PlainAttrs T) (slot:Slot T name id) (hty:typeOf (.builtin id)=pure (.type "method_descriptor")) (hm:MtR X id r) (ho:PE X o to)
 (hbase:attributeBase o name X.env (eval o X.env)=eval o X.env:=by rfl) (hline:(apos.endLine == cpos.line)=true:=by rfl):PE X (.Call (.Attribute o name apos) [] [] cpos) (Kl X.K T r to):=by
 intro pins s σ H Q I h
 refine wpAny_Call_method0_late hbase hline (thn (ho pins s σ H _ I h) fun v s1 ⟨x,H1,I1,r1,ty,q1⟩=>?_)
 obtain ⟨h1,h2⟩:=KJ I1 r1 ty
 exact ⟨T,id,pa,slot,hty,h1,h2,Calls.callWith_builtin rfl (PySem.evalArgs_none (hm pins s1 σ H1 x [] v [] Q I1 r1 .nil q1))⟩
theorem FU (pa:PlainAttrs T) (slot:Slot T name id) (hty:typeOf (.builtin id)=pure (.type "method_descriptor")) (hm:MtR X id r) (ho:PE X o to) (ha:PA X (e::es) t)
 (hbase:attributeBase o name X.env (eval o X.env)=eval o X.env:=by rfl)
 (hfew:((backTo cpos (starEach (e::es) X.env)).all (fun x=>!x.1) && (backToKw cpos (keywordEach [] X.env)).all (fun x=>x.1.isSome)
   && decide ((e::es).length+([]:List Keyword).length+(if ([]:List Keyword).isEmpty then 0 else 1) < 30))=true:=by rfl)
 (hline:(apos.endLine == cpos.line)=true:=by rfl) (hs:starEach (e::es) X.env=(false,eval e X.env)::starEach es X.env:=by rfl) (hplain:(backTo cpos (starEach es X.env)).any (·.1)=false:=by rfl) :
 PE X (.Call (.Attribute o name apos) (e::es) [] cpos) (tBM X.K T r to t):=by
 intro pins s σ H Q I h
 refine wpAny_Call_method_late hbase hfew hline rfl (thn (ho pins s σ H _ I h) fun v s1 ⟨x,H1,I1,r1,ty,q1⟩=>?_)
 obtain ⟨h1,h2⟩:=KJ I1 r1 ty
 refine ⟨T,id,pa,slot,hty,h1,h2,?_⟩
 have hA:=ha cpos pins s1 σ H1 _ I1 q1
 rw [hs] at hA ⊢
 refine Calls.callWith_builtin (by show (false || (backTo cpos (starEach es X.env)).any (·.1))=false;rw [hplain] <;> rfl) (Calls.evalArgs_plain ?_)
 exact thn hA fun us s2 ⟨vs,H2,I2,r2,q2⟩=>hm pins s2 σ H2 x vs v us Q I2 r1 r2 q2
end
noncomputable def MtM (X:Cx) (id:String) (r:V->List V->Hp->VK->Prop):Prop :=
 ∀ (pins:List (Addr × Obj)) (s:Shared) (σ:St) (H:Hp) (x:V) (xs:List V) (v:Value) (us:List Value) (Q:VK),Inv X pins σ H s->RelV x v->Vals xs us->r x xs H Q ->
  wpAny (model X.prog X.w) X.A (call (.builtin id) (v::us)) (EP X pins σ Q) X.xe s
theorem Vals.one:∀ {x:V} {us:List Value},Vals [x] us->∃ u,us=[u]/\RelV x u
 | _,_,.cons r .nil=>⟨_,rfl,r⟩
theorem Vals.zero:∀ {us:List Value},Vals [] us->us=[]
 | _,.nil=>rfl
theorem Vals.reverse {xs:List V} {us:List Value} (h:Vals xs us):Vals xs.reverse us.reverse:=by
 induction h with
 | nil=>exact .nil
 | cons r t ih=>rw [List.reverse_cons,List.reverse_cons];exact Vals.append ih (.cons r .nil)
theorem Vals.rep {xs:List V} {us:List Value} (h:Vals xs us):∀ k:Nat,Vals (List.replicate k xs).flatten (List.replicate k us).flatten
 | 0=>.nil
 | k+1=>by
  rw [List.replicate_succ,List.replicate_succ,List.flatten_cons,List.flatten_cons]
  exact Vals.append h (Vals.rep h k)
theorem Iv (its:List Value):∀ (k:Nat) (acc:List Value),
 List.foldl (fun x1 x2=>x1++x2) acc.toArray (List.replicate k its.toArray)=(acc++(List.replicate k its).flatten).toArray
 | 0,acc=>by simp
 | k+1,acc=>by
  have e:acc.toArray++its.toArray=(acc++its).toArray:=by simp
  have e2:(acc++its)++(List.replicate k its).flatten=acc++(List.replicate (k+1) its).flatten:=by
   rw [List.replicate_succ,List.flatten_cons,List.append_assoc]
  rw [<- e2,<- Iv its k (acc++its),<- e,List.replicate_succ,List.foldl_cons]
section
variable {X:Cx} {pins:List (Addr × Obj)} {σ:St} {H:Hp} {s:Shared} {l b:Addr} {xs ys zs:List V}
theorem Inv.lset {its its':List Value} {n:Nat} {f:Array Value->Array Value} {t':Nat} (I:Inv X pins σ H s) (hH:H l=some (.lst xs))
 (e:s.heap.get? l=some { cls:=.type "list",data:=.seq its.toArray n }) (hf:f its.toArray=its'.toArray) (hv:Vals ys its') (hz:ys.length<=sizeLine) :
 Inv X pins σ (upd H l (.lst ys)) { s with heap:=s.heap.update l (Obj.mapSeq f),toks:=t' }:=by
 have q:=PySem.IsL.update e f
 rw [hf] at q
 refine I.write (x:=l) (e:=l) (by rw [hH];exact trivial) (.inl rfl) (fun b' u hb hu=>(Heap.get?_update_other s.heap (Obj.mapSeq f) (Ne.symm hb)).trans hu) ⟨_,q⟩ ?_
 exact ⟨hz,its',_,hv,q⟩
theorem Inv.lnew {its:List Value} {t':Nat} (I:Inv X pins σ H s) (hv:Vals ys its) (hz:ys.length<=sizeLine) :
 Inv X pins σ (upd H s.heap.objs.size (.lst ys)) { s with heap:=s.heap.push { cls:=.type "list",data:=.seq its.toArray },toks:=t' } :=
 I.laid (fun _ _ q=>Heap.get?_push_of_some _ q) (Nat.le_refl _) ⟨hz,its,0,hv,Heap.get?_push_size _ rfl⟩
theorem Inv.fresh (I:Inv X pins σ H s):H s.heap.objs.size=none:=I.hok.fresh (Nat.le_refl _)
theorem Inv.lstM (I:Inv X pins σ H s) (hH:H l=some (.lst xs)):xs.length<=sizeLine/\∃ (its:List Value) (n:Nat),Vals xs its/\xs.length=its.length/\s.heap.get? l=some { cls:=.type "list",data:=.seq its.toArray n }:=by
 obtain ⟨z,its,n,r,e⟩:=I.hok l _ hH
 exact ⟨z,its,n,r,r.length,e⟩
theorem NK {n:Nat} (h:n<=sizeLine):Builtin.List.listTooLong n=false:=by
 unfold Builtin.List.listTooLong
 exact decide_eq_false (by lia)
end
section
variable {X:Cx}
noncomputable def Sd:V->List V->Hp->VK->Prop:=fun x vs H Q=>∃ l xs y,x=.ref l/\vs=[y]/\H l=some (.lst xs)/\xs.length < sizeLine/\Q .non (upd H l (.lst (xs++[y])))
theorem OO:MtM X "list.append" Sd:=by
 intro pins s σ H x vs v us Q I rx rv h
 obtain ⟨l,xs,y,rfl,rfl,hH,hz,q⟩:=h
 cases rx
 obtain ⟨u,rfl,ru⟩:=rv.one
 obtain ⟨z,its,n,r,hl,e⟩:=I.lstM hH
 refine call_meets F.slot_list_append ⟨_,e,rfl⟩ F.entry_list_append (F.args_list_append_2 _ _) (PySem.list_append l its.toArray n u (by rw [List.size_toArray];lia)) ⟨e,?_⟩
 refine ⟨.non,_,I.lset (its':=its++[u]) hH e (by simp) (r.append (.cons ru .nil)) ?_,rfl,q⟩
 rw [List.length_append,List.length_singleton]
 lia
noncomputable def GJ:R2:=fun x y H Q=>∃ l b xs zs,x=.ref l/\y=.ref b/\H l=some (.lst xs)/\H b=some (.lst zs)/\xs.length+zs.length<=sizeLine/\∀ p,H p=none->Q (.ref p) (upd H p (.lst (xs++zs)))
theorem Ly:OpR X (binaryOp .Add) GJ:=by
 intro pins s σ H x y v u Q I rx ry h
 obtain ⟨l,b,xs,zs,rfl,rfl,hH,hB,hz,q⟩:=h
 cases rx
 cases ry
 obtain ⟨z,its,n,r,hl,e⟩:=I.lstM hH
 obtain ⟨z2,its2,n2,r2,hl2,e2⟩:=I.lstM hB
 refine PySem.P.add_list e e2 ?_ (by rw [List.size_toArray,List.size_toArray];lia)
 have ea:its.toArray++its2.toArray=(its++its2).toArray:=by simp
 rw [ea]
 exact ⟨.ref _,_,I.lnew (t':=s.toks) (r.append r2) (by rw [List.length_append];lia),rfl,q _ I.fresh⟩
noncomputable def Kc:R2:=fun x y H Q=>∃ l k xs,x=.ref l/\y=.int k/\H l=some (.lst xs) /\ -(2 ^ 63)<=k/\k < 2 ^ 63/\xs.length * k.toNat<=sizeLine /\
 ∀ p,H p=none->Q (.ref p) (upd H p (.lst (List.replicate k.toNat xs).flatten))
theorem QP {α:Type} (xs:List α) (k:Nat):(List.replicate k xs).flatten.length=k * xs.length:=by
 induction k with
 | zero=>simp
 | succ k ih=>rw [List.replicate_succ,List.flatten_cons,List.length_append,ih,Nat.succ_mul,Nat.add_comm]
theorem Sh:OpR X (binaryOp .Mult) Kc:=by
 intro pins s σ H x y v u Q I rx ry h
 obtain ⟨l,k,xs,rfl,rfl,hH,h1,h2,hz,q⟩:=h
 cases rx
 obtain ⟨t,rfl⟩:=ry
 obtain ⟨z,its,n,r,hl,e⟩:=I.lstM hH
 have hlen:its.toArray.size * k.toNat<=sizeLine:=by rw [List.size_toArray,<- hl];exact hz
 have hcap:¬ its.toArray.size * k.toNat > (2 ^ 63 - 1) / 8:=by
  have:(sizeLine:Nat)<=(2 ^ 63 - 1) / 8:=by decide
  lia
 have hfit:¬ (!Builtin.List.listFitsIndex k)=true:=by
  rw [fitsIndex_both h1 h2]
  exact Bool.false_ne_true
 have hlong:¬ Builtin.List.listTooLong (its.toArray.size * k.toNat)=true:=by
  rw [NK hlen]
  exact Bool.false_ne_true
 have hnew:List.foldl (fun x1 x2=>x1++x2) #[] (List.replicate (if its.toArray.isEmpty=true then 0 else k.toNat) its.toArray)=(List.replicate k.toNat its).flatten.toArray:=by
  have f0:∀ m:Nat,List.foldl (fun x1 x2=>x1++x2) #[] (List.replicate m its.toArray)=(List.replicate m its).flatten.toArray:=fun m=>by
   have:=Iv its m []
   rw [List.nil_append] at this
   exact this
  rw [f0]
  cases its with
  | nil=>simp
  | cons a r'=>rw [if_neg (by simp)]
 refine wpAny_binaryOp_repeat_ref (T:="list") (U:="int") (by decide) ⟨_,e,rfl⟩ (fun s'=>typeIs_int s' k t) noFill_list_mul F.fills_int_mul F.slot_int_rmul repeat_list F.slot_int_index.lookup
  (call_meets F.slot_int_rmul (typeIs_int s k t) F.entry_int_rmul (F.args_int_rmul_2 _ _) (int___rmul___int_list k t l its.toArray n)
    ⟨e,rfl,⟨_,e,rfl⟩,call_meets F.slot_list_mul ⟨_,e,rfl⟩ F.entry_list_mul (F.args_list_mul_2 _ _) (AutoListH.list___mul___list_int_3 l its.toArray n k t hfit hcap hlong) ⟨e,?_⟩⟩)
 rw [hnew]
 exact ⟨.ref _,_,I.lnew (t':=s.toks) (r.rep k.toNat) (by rw [QP,Nat.mul_comm];exact hz),rfl,q _ I.fresh⟩
end
section
variable {prog:Program} {w:World} {A:Around} {E:Value->Shared->Prop} {s:Shared}
end
section
variable {X:Cx}
end
end L2
namespace Att
open PySem PySem.W PySem.Calls PyProof.Rows
theorem PZ {P:Params} {h:Heap}:∀ (ns:List Int) (vs:List Value),WellAll P h vs (ns.map WData.int)->IntsAre vs ns:=by
 intro ns
 induction ns with
 | nil =>
  intro vs w
  rw [List.map_nil] at w
  cases w
  exact .nil
 | cons n ns ih =>
  intro vs w
  rw [List.map_cons] at w
  cases w with
  | cons a b =>
   cases a
   exact .cons _ _ (ih _ b)
theorem Og {l:OpenLaw} {n:Nat} (hn:l.most=some n) {P:Params} {h:Heap} {args:List WData} {vals:List Value}
 (hpre:l.row.toRowW.claim.pre args=true) (hwl:WellAll P h vals args) :
 ∃ a vs ns,vals=[Value.ref a]/\args=[WData.list (ns.map WData.int)]/\h.get? a=some { cls:=.type "list",data:=.seq vs.toArray } /\ IntsAre vs ns/\ns.length<=n:=by
 have hsh:WShape.hasAll [] args [.list .int]=true:=(pre_splitW hpre).1
 have hc:l.pre.holds [] { args:=args } = true:=(pre_splitW hpre).2
 obtain ⟨d,r,rfl,h1,h2⟩:=hasAllW_cons hsh
 obtain rfl:=hasAllW_nil h2
 obtain ⟨xs,rfl,h3⟩:=hasW_list h1
 obtain ⟨ns,rfl⟩:=items_int h3
 have hlen:ns.length<=n:=by
  unfold OpenLaw.pre at hc
  have h4:(WTm.not (.lt (.lit (.int (n:Int))) (.len (.arg 0)))).holds [] { args:=[.list (ns.map .int)] } = true:=by
   have h4:=(holds_andW hc).1
   rw [hn] at h4
   exact h4
  have h5:=condW_of h4 (w_not (w_lt w_lit (w_len_list (w_arg rfl))))
  rw [List.length_map] at h5
  refine Nat.le_of_not_lt fun q=>?_
  have q':(n:Int) < ((ns.length:Nat):Int):=by lia
  first
   | (rw [decide_eq_true q'] at h5;exact absurd h5 (by decide))
   | (simp at h5;lia)
 cases hwl with
 | cons w1 w2 =>
  cases w2
  cases w1 with
  | list ho hall=>exact ⟨_,_,ns,rfl,rfl,ho,PZ ns _ hall,hlen⟩
theorem Qd (l:OpenLaw) (args:List WData):l.row.toRowW.claim.post args (.bool true) args=true :=
 postW_of (r:=l.row.toRowW) (X:=(true == true))
  (show WShape.has [] (.bool true) .bool=true by first | rfl | decide | simp [WShape.has,WShape.arms,WShape.armsAll])
  (show (WTm.eq .res (.lit (.bool true))).value [] { args:=args,res:=some (.bool true),after:=args } = some (.bool (true == true)) from w_eq_bool (w_res rfl) w_lit) rfl
theorem attach_call {l:OpenLaw} {n:Nat} {q:Program} {loose:List Str} {XP:(Str->Option Value)->Heap->Prop} {YP:World->Heap->Prop} {d:DefRec}
 (hn:l.most=some n) (hdf:d.params.defaults=[])
 (call:∀ (w:World) (s₀ s₁:Shared) (mg mb:Str->Option Value) (fa:Addr) (o:Obj) (pm cd doc:Value) (a:Addr) (vs:List Value) (ns:List Int),
   Ground q loose [] XP w s₀ mg mb s₁.heap->YP w s₁.heap ->
   s₁.heap.get? fa=some o->o.data=.func (docDef d.name d.params d.body d.scope pm cd doc)->s₁.heap.CodeRec cd d.name->mg d.name=some (.ref fa) ->
   s₁.heap.get? a=some { cls:=.type "list",data:=.seq vs.toArray } -> IntsAre vs ns->ns.length<=n->s₁.gens = #[] ->
   codeAny (model l.prog w) callerA (.call (.ref fa) ⟨[.ref a],[]⟩) (fun r s'=>r=.ok (.ret (.bool true))/\OldK s₁.heap s'.heap/\s'.os=s₁.os/\AllBare s'.gens) s₁) :
 WalkO q loose XP YP l.row.toRowW d [] (fun f vs=>PySem.call f vs):=by
 intro w s₀ s₁ mg mb G Y fa o pm cd doc dV kV ho hd hcd hD hmg hg args vals as hpre hlay hrd hwl hlo
 obtain rfl:dV=.none:=Dflts.none hD hdf
 obtain rfl:kV=.none:=Dflts.noKw hD
 obtain ⟨a,vs,ns,rfl,rfl,hobj,hints,hlen⟩:=Og hn hpre hwl
 refine enter_call (codeAny_mono (call w s₀ s₁ mg mb fa o pm cd doc a vs ns G Y ho (fd_plain hd) hcd hmg hobj hints hlen hg) fun r s' hq=>?_)
 obtain ⟨rfl,h2,h3,h4⟩:=hq
 exact ⟨.inl ⟨.bool true,.bool true,[],rfl,fun _=>rfl,.bool true,Qd l _,fun _=>⟨List.Pairwise.nil,fun _ hm=>(nomatch hm)⟩⟩,h2,h3,h4⟩
section
variable {prog:Program} {w:World} {A:Around} {E:Value->Shared->Prop} {s:Shared} {K:Frag}
noncomputable def Ep (h:Heap):Heap:={ h with objs:=#[] }
theorem LD (h:Heap) (b:Addr):(Ep h).get? b=none:=by
 cases e:(Ep h).get? b with
 | none=>rfl
 | some o=>exact absurd (Heap.lt_size e) (Nat.not_lt_zero _)
theorem Mr {h:Heap} {L:Addr} {m:Str->Option Value} (n:h.Ns L m):Fr (Ep h) L h m :=
 ⟨n,fun b o e=>(by rw [LD] at e;cases e),Nat.zero_le _⟩
end
end Att
namespace L2
open PySem PySem.Spec PyProof.Rows
theorem KB:∀ {vs:List Value} {ns:List Int},IntsAre vs ns->Vals (ns.map V.int) vs
 | _,_,.nil=>.nil
 | _,_,.cons n t h=>.cons ⟨t,rfl⟩ (KB h)
noncomputable def BO (s:Stmt) (j:Nat):Stmt:=match s with
 | .ClassDef _ _ _ body _ _ _ _ _ _ _=>body.getD j (.Pass ⟨0,0,0,0⟩)
 | _=>.Pass ⟨0,0,0,0⟩
noncomputable def AW (s:Stmt):Arguments:=match s with
 | .FunctionDef _ a _ _ _ _ _ _ _ _=>a
 | _=>{ posonlyargs:=[],args:=[],vararg:=none,kwonlyargs:=[],kw_defaults:=[],kwarg:=none,defaults:=[] }
noncomputable def AS (s:Stmt):List Stmt:=match s with
 | .FunctionDef _ _ b _ _ _ _ _ _ _=>b
 | _=>[]
noncomputable def AH (s:Stmt):Scope:=match s with
 | .FunctionDef _ _ _ _ _ _ sc _ _ _=>sc
 | _=>{ kind:=.function,names:=[],isGenerator:=false,isCoroutine:=false }
noncomputable abbrev CX0:CXT:=fun _ _ _ _ _ _=>False
noncomputable abbrev E0:XK:=fun _ _ _=>False
theorem AE {X:Cx}:C1 CX0 X E0:=fun _ _ _ _ _ _ _ h=>h.elim
structure Fun (K:W.Frag) (x qual:Str) (st:Stmt) (f:Addr) (fd:FuncData):Prop where
 ex:∃ (oc:Value) (od:Option Addr) (kV doc pm:Value) (an:Option Addr) (cdv ct:Value) (osl:Array (Option Value)),
  fd=PySem.W.fnOf x qual (AW st) (AS st) (AH st) .none kV doc pm an cdv ct/\K.lookup f=some ⟨oc,od,.func fd,osl⟩/\PySem.W.codeIn K cdv qual=true
 kp:PySem.W.keepIn K (.ref f)=true
section
variable {P:Program} {w:World} {K:W.Frag} {mg:Str->Option Value} {base:Heap}
theorem Fun.ok {x qual:Str} {st:Stmt} {f:Addr} {fd:FuncData} {N ps:List Str} {k:Nat} {sp:Sp} (F:Fun K x qual st f fd) (S:FnScope N ps (AH st)) (len:∀ vs H Q E,sp vs H Q E->vs.length=ps.length)
 (hbody:∀ (cdv:Value) (A:Around) (outer:List Env) (s:Shared) (H:Hp) (vs:List V) (Q:VK) (E:XK),Room k (A.deeper (envOfC qual (AH st) s.heap.objs.size f cdv))->sp vs H Q E ->
   ∃ t,PSs (Cq CX0 P w K mg base N qual (AH st) f cdv A outer s H E).nox (AS st) t/\t { nx:=fun _ H'=>Q .non H',rt:=Q } (CO N vs) H):FnOk P w K mg base CX0 (k+1) f fd ps sp:=by
 obtain ⟨oc,od,kV,doc,pm,an,cdv,ct,osl,rfl,lk,hcd⟩:=F.ex
 refine Jk lk hcd S len fun A outer s H vs Q E hr hsp=>?_
 obtain ⟨t,h,q⟩:=hbody cdv A outer s H vs Q E hr hsp
 exact ⟨t,h.nox,q⟩
theorem Fun.binds {x qual:Str} {st:Stmt} {f:Addr} {fd:FuncData} {ps:List Str} (F:Fun K x qual st f fd)
 (h:∀ (kV doc pm:Value) (an:Option Addr) (cdv ct:Value) (us:List Value),us.length=ps.length->bindArgs (PySem.W.fnOf x qual (AW st) (AS st) (AH st) .none kV doc pm an cdv ct) ⟨us,[]⟩=pure (ps.zip us)):Binds K fd ps []:=by
 obtain ⟨oc,od,kV,doc,pm,an,cdv,ct,osl,rfl,lk,hcd⟩:=F.ex
 exact .all (h kV doc pm an cdv ct)
theorem Aa {x qual:Str} {st:Stmt} {f:Addr} {oc:Value} {od an:Option Addr} {osl:Array (Option Value)} {kV doc pm cdv ct:Value} (l:K.lookup f=some ⟨oc,od,.func (PySem.W.fnOf x qual (AW st) (AS st) (AH st) .none kV doc pm an cdv ct),osl⟩)
 (c:PySem.W.codeIn K cdv qual=true) (k:PySem.W.keepIn K (.ref f)=true):Fun K x qual st f (PySem.W.fnOf x qual (AW st) (AS st) (AH st) .none kV doc pm an cdv ct):=⟨⟨oc,od,kV,doc,pm,an,cdv,ct,osl,rfl,l,c⟩,k⟩
end
theorem Aj {n:Nat} (h:n<=1000):n < sizeLine:=Nat.lt_of_le_of_lt h (by decide)
section
variable {X:Cx}
end
theorem An {c A B:Prop} [Decidable c] (h1:c->A) (h2:¬ c->B):if c then A else B:=by
 by_cases h:c
 ·rw [if_pos h]
  exact h1 h
 ·rw [if_neg h]
  exact h2 h
noncomputable def Same (H H':Hp):Prop:=∀ b o,H b=some o->H' b=some o
theorem Same.refl (H:Hp):Same H H:=fun _ _ h=>h
theorem Same.trans {H H1 H2:Hp} (a:Same H H1) (b:Same H1 H2):Same H H2:=fun c o h=>b c o (a c o h)
theorem Same.free {H H':Hp} (e:Same H H') {l:Addr} (h:H' l=Option.none):H l=Option.none:=by
 cases q:H l with
 | none=>rfl
 | some o =>
  rw [e l o q] at h
  cases h
theorem Same.seq {K:W.Frag} {H H':Hp} {a:Addr} {xs:List V} (e:Same H H') (h:SqL K H a xs):SqL K H' a xs:=by
 rcases h with (h | ⟨o,h⟩) | h
 ·exact .inl (.inl (e _ _ h))
 ·exact .inl (.inr ⟨o,e _ _ h⟩)
 ·exact .inr h
theorem DG:∀ (names:List (Str × NameKind)) (n:Nat) (acc:List (Str × Addr)),cellsFrom n names acc=cellsFrom n names []++acc
 | [],_,_=>rfl
 | (name,kind)::r,n,acc=>by
  unfold cellsFrom
  split
  ·rw [DG r (n+1) ((name,n)::acc),DG r (n+1) [(name,n)],List.append_assoc];rfl
  ·exact DG r n acc
theorem cellsFrom_kind:∀ (names:List (Str × NameKind)) (n:Nat) (acc:List (Str × Addr)) (x:Str) (c:Addr),(x,c)∈cellsFrom n names acc->(x,c)∈acc\/(x,NameKind.cell)∈names
 | [],_,_,_,_,h=>.inl h
 | (name,kind)::r,n,acc,x,c,h=>by
  unfold cellsFrom at h
  split at h
  ·rename_i hk
   rcases cellsFrom_kind r _ _ x c h with h | h
   ·rcases List.mem_cons.mp h with e | h
    ·cases e
     have:kind=.cell:=by simpa using hk
     subst this
     exact .inr List.mem_cons_self
    ·exact .inl h
   ·exact .inr (List.mem_cons_of_mem _ h)
  ·rcases cellsFrom_kind r _ _ x c h with h | h
   ·exact .inl h
   ·exact .inr (List.mem_cons_of_mem _ h)
theorem FI {α:Type} {x:Str}:∀ (l r:List (Str × α)),(l++r).lookup x=(match l.lookup x with | some c=>some c | none=>r.lookup x)
 | [],r=>rfl
 | (k,v)::l,r=>by
  show List.lookup x ((k,v)::(l++r))=_
  rw [List.lookup_cons,List.lookup_cons]
  cases x == k with
  | true=>rfl
  | false=>exact FI l r
theorem KR {α:Type} {x:Str}:∀ {l:List (Str × α)},(∀ c,(x,c)∉l)->l.lookup x=none
 | [],_=>rfl
 | (k,v)::l,h=>by
  rw [List.lookup_cons]
  cases hb:x == k with
  | true =>
   have:x=k:=by simpa using hb
   subst this
   exact absurd List.mem_cons_self (h v)
  | false=>exact KR fun c hc=>h c (List.mem_cons_of_mem _ hc)
noncomputable def BK (cells:List (Str × Addr)):List (Str × NameKind)->List (Str × Addr)->List (Str × Addr)
 | [],acc=>acc
 | (n,k)::r,acc=>if k == .free then BK cells r ((n,(cells.lookup n).getD 0)::acc) else BK cells r acc
theorem KU {scope:Scope} {env:Env} (h:∀ y∈scope.names,y.2=.free->∃ c,env.cells.lookup y.1=some c):closureFor scope env=pure (BK env.cells scope.names []):=by
 have all:∀ (names:List (Str × NameKind)) (acc:List (Str × Addr)),(∀ y∈names,y.2=.free->∃ c,env.cells.lookup y.1=some c) ->
  (forIn names acc fun (x:Str × NameKind) cs=>(if (x.2 == NameKind.free)=true then (do let a <- cellOf env x.1;pure (ForInStep.yield ((x.1,a)::cs))) else pure (ForInStep.yield cs):Sem (ForInStep (List (Str × Addr)))))=(pure (BK env.cells names acc):Sem _):=by
  intro names
  induction names with
  | nil=>intro acc _;rfl
  | cons y r ih =>
   intro acc hy
   obtain ⟨n,k⟩:=y
   rw [List.forIn_cons]
   have hr:∀ y∈r,y.2=.free->∃ c,env.cells.lookup y.1=some c:=fun y hm=>hy y (List.mem_cons_of_mem _ hm)
   unfold BK
   by_cases hk:(k == NameKind.free)=true
   ·obtain ⟨c,e⟩:=hy (n,k) List.mem_cons_self (by simpa using hk)
    rw [if_pos hk,if_pos hk]
    have e2:cellOf env n=pure c:=by unfold cellOf;rw [show env.cells.lookup n=some c from e]
    rw [e2]
    rw [show env.cells.lookup n=some c from e]
    exact ih _ hr
   ·rw [if_neg hk,if_neg hk]
    exact ih _ hr
 have q:=all scope.names [] h
 unfold closureFor
 refine Eq.trans ?_ (congrArg (fun t=>t >>= pure) q |>.trans (by rfl))
 congr 1
theorem clOf_mem {cells:List (Str × Addr)}:∀ (names:List (Str × NameKind)) (acc:List (Str × Addr)) (x:Str) (c:Addr),(∀ y∈names,y.2=.free->∃ c,cells.lookup y.1=some c)->(x,c)∈BK cells names acc->(x,c)∈acc\/((x,NameKind.free)∈names/\cells.lookup x=some c)
 | [],_,_,_,_,h=>.inl h
 | (n,k)::r,acc,x,c,hy,h=>by
  have hr:∀ y∈r,y.2=.free->∃ c,cells.lookup y.1=some c:=fun y hm=>hy y (List.mem_cons_of_mem _ hm)
  unfold BK at h
  split at h
  ·rename_i hk
   have hk':k=.free:=by simpa using hk
   subst hk'
   obtain ⟨d,e⟩:=hy (n,.free) List.mem_cons_self rfl
   rcases clOf_mem r _ x c hr h with h | ⟨h,h'⟩
   ·rcases List.mem_cons.mp h with e' | h
    ·obtain ⟨e1,e2⟩:=Prod.mk.inj e'
     rw [show cells.lookup n=some d from e] at e2
     subst e1
     exact .inr ⟨List.mem_cons_self,by rw [e2];exact e⟩
    ·exact .inl h
   ·exact .inr ⟨List.mem_cons_of_mem _ h,h'⟩
  ·rcases clOf_mem r _ x c hr h with h | ⟨h,h'⟩
   ·exact .inl h
   ·exact .inr ⟨List.mem_cons_of_mem _ h,h'⟩
theorem Hm {cells:List (Str × Addr)} {x:Str}:∀ (names:List (Str × NameKind)) (acc:List (Str × Addr)),(∃ c,(x,c)∈acc)->∃ c,(x,c)∈BK cells names acc
 | [],_,h=>h
 | (n,k)::r,acc,⟨c,h⟩=>by
  unfold BK
  split
  ·exact Hm r _ ⟨c,List.mem_cons_of_mem _ h⟩
  ·exact Hm r _ ⟨c,h⟩
theorem HI {cells:List (Str × Addr)} {x:Str}:∀ (names:List (Str × NameKind)) (acc:List (Str × Addr)),(x,NameKind.free)∈names->∃ c,(x,c)∈BK cells names acc
 | (n,k)::r,acc,h=>by
  unfold BK
  rcases List.mem_cons.mp h with e | h
  ·cases e
   rw [if_pos (by decide)]
   exact Hm r _ ⟨_,List.mem_cons_self⟩
  ·split
   ·exact HI r _ h
   ·exact HI r _ h
theorem KF {α:Type} {x:Str}:∀ {l:List (Str × α)},(∃ c,(x,c)∈l)->∃ c,l.lookup x=some c
 | (k,v)::l,⟨c,h⟩=>by
  rw [List.lookup_cons]
  cases hb:x == k with
  | true=>exact ⟨v,rfl⟩
  | false =>
   rcases List.mem_cons.mp h with e | h
   ·cases e;simp at hb
   ·exact KF ⟨c,h⟩
noncomputable def EY (scope sc:Scope):Scope :=
 { scope with names:=scope.names.map fun (n,k)=>if (k == .free && sc.kind == .function && sc.names.lookup n == some .cell) then (n,.cell) else (n,k) }
structure CompScope (scope sc:Scope):Prop where
 kind:scope.kind=.function
 nd:(scope.names.map (·.1)).Nodup
 fr:∀ y∈scope.names,y.2=.free->sc.names.lookup y.1=some .cell\/sc.names.lookup y.1=some .free
theorem C5 {α:Type}:∀ {l:List (Str × α)} {x:Str} {c:α},(l.map (·.1)).Nodup->(x,c)∈l->l.lookup x=some c
 | (k,v)::l,x,c,nd,h=>by
  obtain ⟨n1,n2⟩:=List.nodup_cons.mp (show (k::l.map (·.1)).Nodup from nd)
  rw [List.lookup_cons]
  rcases List.mem_cons.mp h with e | h
  ·cases e;simp
  ·have hne:¬ x=k:=fun e=>n1 (by rw [<- e];exact List.mem_map.mpr ⟨(x,c),h,rfl⟩)
   have:(x == k)=false:=by simpa using hne
   rw [this]
   exact C5 n2 h
theorem Jn {scope sc:Scope} {x:Str}:(EY scope sc).names.lookup x=(scope.names.lookup x).map fun k=>if (k == .free && sc.kind == .function && sc.names.lookup x == some .cell) then NameKind.cell else k:=by
 show (scope.names.map _).lookup x=_
 generalize scope.names=names
 induction names with
 | nil=>rfl
 | cons y r ih =>
  obtain ⟨n,k⟩:=y
  rw [List.map_cons]
  by_cases hc:(k == .free && sc.kind == .function && sc.names.lookup n == some .cell)=true
  ·show List.lookup x ((if (k == .free && sc.kind == .function && sc.names.lookup n == some .cell)=true then (n,NameKind.cell) else (n,k))::_)=_
   rw [if_pos hc,List.lookup_cons,List.lookup_cons]
   cases hb:x == n with
   | true =>
    have hx:x=n:=by simpa using hb
    subst hx
    show some NameKind.cell=some (if _ then _ else _)
    rw [if_pos hc]
   | false=>exact ih
  ·show List.lookup x ((if (k == .free && sc.kind == .function && sc.names.lookup n == some .cell)=true then (n,NameKind.cell) else (n,k))::_)=_
   rw [if_neg hc,List.lookup_cons,List.lookup_cons]
   cases hb:x == n with
   | true =>
    have hx:x=n:=by simpa using hb
    subst hx
    show some k=some (if _ then _ else _)
    rw [if_neg hc]
   | false=>exact ih
structure CArgs where
 pins:List (Addr × Obj)
 cells:List (Str × Addr)
 s:Shared
 H:Hp
 fp:List Addr
 C:Addr
noncomputable def Cx.comp (X:Cx) (scope:Scope) (N':List Str) (c:CArgs):Cx where
 prog:=X.prog
 w:=X.w
 K:=X.K
 mg:=X.mg
 base:=X.base
 A:=X.A
 N:=N'
 s₀:=c.s
 H₀:=c.H
 env:=compEnvC scope c.cells c.C X.env
 outer:=X.stack
 stack:=X.stack
 ex:=c.fp
 fn:=fun x=>scope.names.lookup x == some .cell
 calm:=X.calm
 pn:=X.pn++c.pins
 xe:=fun _ _=>False
noncomputable def cSt (own:Nat) (ix:List Nat) (σ:St):St:=List.replicate own none++ix.map fun i=>(σ[i]?).join
section
variable {X:Cx} {pins:List (Addr × Obj)} {σ:St} {H:Hp} {s s4:Shared} {fp:List Addr} {scope:Scope} {N':List Str} {own:Nat} {ix:List Nat}
theorem PU (I:Inv X pins σ H s) (f2:∀ b∈fp,BE X pins H b) (hob:∀ b∈fp,∃ o,s.heap.get? b=some o) (S:CompScope scope X.env.scope)
 (hlen:N'.length=own+ix.length) (hN:(N'.drop own).map some=ix.map (X.N[·]?)) (hfr:∀ x∈N'.drop own,scope.names.lookup x=some .free)
 {C:Addr} (hC:s.heap.objs.size < C) (k4:∀ b o,s.heap.get? b=some o->s4.heap.get? b=some o) (os4:s4.os=s.os) (g4:s4.gens=s.gens)
 (n4:∃ m,s4.heap.Ns C m) (own4:∀ x c,(x,c)∈cellsFrom (C+1) scope.names []->s4.heap.IsCell c none/\C+1<=c)
 (apart:(cellsFrom (C+1) scope.names []).Pairwise fun x y=>x.2≠y.2) :
 Inv (X.comp scope N' ⟨pins,cellsFrom (C+1) scope.names (BK X.env.cells scope.names []),s,H,fp,C⟩) [] (cSt own ix σ) H s4:=by
 have hfree:∀ y∈scope.names,y.2=.free->∃ c,X.env.cells.lookup y.1=some c:=fun y hy h=>I.ok.has y.1 (S.fr y hy h)
 -- a cell of the block
 have cases:∀ x c,(cellsFrom (C+1) scope.names (BK X.env.cells scope.names [])).lookup x=some c ->
  ((x,c)∈cellsFrom (C+1) scope.names []/\scope.names.lookup x=some .cell)\/((x,NameKind.free)∈scope.names/\X.env.cells.lookup x=some c):=fun x c h=>by
  rw [DG,FI] at h
  cases e:(cellsFrom (C+1) scope.names []).lookup x with
  | some d =>
   rw [e] at h
   cases h
   have m:=mem_of_lookup e
   rcases cellsFrom_kind _ _ _ _ _ m with z | z
   ·exact absurd z (by simp)
   ·exact .inl ⟨m,C5 S.nd z⟩
  | none =>
   rw [e] at h
   rcases clOf_mem _ _ _ _ hfree (mem_of_lookup h) with z | z
   ·exact absurd z (by simp)
   ·exact .inr z
 have oldlt:∀ x c,X.env.cells.lookup x=some c->c < s.heap.objs.size:=fun x c e=>let ⟨v,q⟩:=I.cell x c e;q.lt
 have kin:∀ x,(EY scope X.env.scope).names.lookup x=some .cell\/(EY scope X.env.scope).names.lookup x=some .free->(scope.names.lookup x=some .cell\/scope.names.lookup x=some .free):=fun x h=>by
  rw [Jn] at h
  cases e:scope.names.lookup x with
  | none=>rw [e] at h;simp at h
  | some k =>
   rw [e] at h
   cases k with
   | cell=>exact .inl rfl
   | free=>exact .inr rfl
   | _=>exact absurd h (by simp)
 have hCn:∀ b o,s.heap.get? b=some o->b≠C:=fun b o e z=>by have:=Heap.lt_size e;rw [z] at this;exact Nat.lt_irrefl _ (Nat.lt_trans this hC)
 have lk:∀ x,(x,NameKind.free)∈scope.names->∀ c,X.env.cells.lookup x=some c->(cellsFrom (C+1) scope.names (BK X.env.cells scope.names [])).lookup x=some c:=fun x hx c hc=>by
  have hl:scope.names.lookup x=some .free:=C5 S.nd hx
  rw [DG,FI,KR (l:=cellsFrom (C+1) scope.names []) fun d hd=>?_]
  ·obtain ⟨d,hd⟩:=KF (HI (cells:=X.env.cells) scope.names [] hx)
   rcases clOf_mem _ _ _ _ hfree (mem_of_lookup hd) with z | ⟨_,z⟩
   ·exact absurd z (by simp)
   ·rw [hc] at z;cases z;exact hd
  ·rcases cellsFrom_kind _ _ _ _ _ hd with z | z
   ·exact absurd z (by simp)
   ·rw [C5 S.nd z] at hl;cases hl
 refine ⟨⟨I.ok.mod,S.kind,I.ok.glob,I.ok.blt,Nat.le_of_lt hC,fun x y c hx hy=>?_,fun x hx=>?_,fun x c hf hx=>?_,I.ok.hd,I.ok.frames,.inl rfl,fun b hb=>⟨?_,fun x c hx=>?_⟩,fun b o e=>I.bs b o e,Nat.le_trans I.ok.bsz I.sz,fun b o e hb=>?_,fun b hb z=>?_,I.stack,I.stkFree⟩,
  os4,by rw [g4];exact I.bare,Un.kept k4,?_,fun x c hx=>?_,?_,fun x c hx=>?_,fun p hp=>?_,I.hok.kept k4,?_⟩
 ·-- inj
  rcases cases x c hx with ⟨m1,_⟩ | ⟨_,m1⟩ <;> rcases cases y c hy with ⟨m2,_⟩ | ⟨_,m2⟩
  ·exact name_of_addr apart m1 m2
  ·exact absurd (Nat.lt_of_lt_of_le (Nat.lt_trans (oldlt y c m2) hC) (Nat.le_of_succ_le (own4 x c m1).2)) (Nat.lt_irrefl _)
  ·exact absurd (Nat.lt_of_lt_of_le (Nat.lt_trans (oldlt x c m1) hC) (Nat.le_of_succ_le (own4 y c m2).2)) (Nat.lt_irrefl _)
  ·exact I.ok.inj x y c m1 m2
 ·-- has
  rcases kin x hx with h | h
  ·have q:=PySem.W.cellsFrom_some scope.names (C+1) (BK X.env.cells scope.names []) (.inl h)
   exact Option.isSome_iff_exists.mp q
  ·obtain ⟨c,e⟩:=hfree (x,.free) (mem_of_lookup h) rfl
   exact ⟨c,lk x (mem_of_lookup h) c e⟩
 ·-- cab
  rcases cases x c hx with ⟨m1,_⟩ | ⟨m1,_⟩
  ·exact Nat.le_of_lt (Nat.lt_of_lt_of_le hC (Nat.le_of_succ_le (own4 x c m1).2))
  ·have hl:=C5 S.nd m1
   have hf':(scope.names.lookup x == some NameKind.cell)=true:=hf
   rw [hl] at hf';cases hf'
 ·obtain ⟨o,e⟩:=hob b hb
  exact hCn b o e
 ·intro z
  obtain ⟨o,e⟩:=hob b hb
  have hlt:=Heap.lt_size e
  rcases cases x c hx with ⟨m1,_⟩ | ⟨_,m1⟩
  ·subst z;exact absurd (Nat.lt_of_lt_of_le (Nat.lt_trans hlt hC) (Nat.le_of_succ_le (own4 x c m1).2)) (Nat.lt_irrefl _)
  ·exact (f2 b hb).2.2.2.2.1 x c m1 z
 ·-- noex
  have e1:=(I.ok.bs b o e).1
  rcases (f2 b hb).2.2.2.1 with z | z
  ·exact I.ok.noex b o e z
  ·exact absurd (Nat.lt_of_lt_of_le (Heap.lt_size e1) z) (Nat.lt_irrefl _)
 ·-- exfs
  rcases List.mem_cons.mp (I.stkSub b z) with e | z
  ·exact (f2 b hb).2.1 e
  ·exact (f2 b hb).2.2.1 z
 ·-- loc
  obtain ⟨m,hm⟩:=n4
  obtain ⟨m0,hn0,hl0⟩:=I.loc
  refine ⟨m,hm,fun i x v h1 h2 h3=>?_⟩
  have h1:N'[i]? = some x:=h1
  unfold cSt at h2
  by_cases hi:i < own
  ·rw [List.getElem?_append_left (by simpa using hi),List.getElem?_replicate] at h2
   split at h2 <;> cases h2
  ·rw [List.getElem?_append_right (by simpa using hi),List.length_replicate,List.getElem?_map] at h2
   obtain ⟨j,hj⟩:∃ j,i=own+j:=⟨i - own,by lia⟩
   subst hj
   rw [Nat.add_sub_cancel_left] at h2
   cases e:ix[j]? with
   | none=>rw [e] at h2;cases h2
   | some q =>
    rw [e] at h2
    have h2:some (σ[q]?).join=some (some v):=h2
    have h2:(σ[q]?).join=some v:=Option.some.inj h2
    have hσ:σ[q]? = some (some v):=by
     cases eq:σ[q]? with
     | none=>rw [eq] at h2;cases h2
     | some z=>rw [eq] at h2;simp at h2;rw [h2]
    have hx:(N'.drop own)[j]? = some x:=by rw [List.getElem?_drop];exact h1
    have hNq:X.N[q]? = some x:=by
     have:=congrArg (·[j]?) hN
     simp only [List.getElem?_map,hx,e,Option.map_some] at this
     exact (Option.some.inj this).symm
    have hfx:=hfr x (List.mem_of_getElem? hx)
    have hmem:=mem_of_lookup hfx
    have kx:=S.fr (x,.free) hmem rfl
    have vis:Vis X.env.scope x:=.inr kx
    obtain ⟨u,r,l⟩:=hl0 q x v hNq hσ vis
    refine ⟨u,r,?_⟩
    rcases l with ⟨k,_⟩ | ⟨k,c,hc,z⟩
    ·exfalso
     have k':X.env.scope.names.lookup x=some .local:=k
     rcases kx with kx | kx
     ·rw [show X.env.scope.names.lookup x=some .cell from kx] at k';cases k'
     ·rw [show X.env.scope.names.lookup x=some .free from kx] at k';cases k'
    ·refine .inr ⟨?_,c,lk x hmem c hc,z.keeps k4⟩
     show (EY scope X.env.scope).names.lookup x=some .cell\/(EY scope X.env.scope).names.lookup x=some .free
     rw [Jn,hfx]
     by_cases hc:(NameKind.free == .free && X.env.scope.kind == .function && X.env.scope.names.lookup x == some .cell)=true
     ·exact .inl (by rw [Option.map_some,if_pos hc])
     ·exact .inr (by rw [Option.map_some,if_neg hc])
 ·rcases cases x c hx with ⟨m1,_⟩ | ⟨_,m1⟩
  ·exact ⟨_,(own4 x c m1).1⟩
  ·obtain ⟨v,q⟩:=I.cell x c m1
   exact ⟨v,q.keeps k4⟩
 ·exact I.hok.fresh (Nat.le_of_lt hC)
 ·rcases cases x c hx with ⟨m1,_⟩ | ⟨_,m1⟩
  ·exact I.hok.fresh (Nat.le_of_lt (Nat.lt_of_lt_of_le hC (Nat.le_of_succ_le (own4 x c m1).2)))
  ·exact I.freeC x c m1
 ·have hp:p∈X.pn++pins:=by
   have:p∈(X.pn++pins)++[]:=hp
   rwa [List.append_nil] at this
  obtain ⟨e,n,ne,nf,d⟩:=I.pin p hp
  refine ⟨k4 _ _ e,n,hCn _ _ e,fun z=>?_,d⟩
  rcases List.mem_cons.mp (I.stkSub _ z) with q | q
  ·exact ne q
  ·exact nf q
 ·unfold cSt
  rw [List.length_append,List.length_replicate,List.length_map]
  exact hlen.symm
end
section
variable {prog:Program} {w:World} {A:Around} {R:Result->Shared->Prop} {s:Shared}
theorem Ru {elt target iter:Expr} {ifs:List Expr} {scope:Scope} {pos:Pos} {it acc:Value} {env:Env} (I:Nat->Shared->Prop)
 (turn:∀ n s,I n s->wpAny (model prog w) A (pyNext it) (fun r s₁=>match r with
   | none=>R (.ok .next) s₁
   | some v=>wpAny (model prog w) A (letOwnedTupleGo target it v) (fun _ s₁'=>wpAny (model prog w) A (assign target env v) (fun _ s₂ =>
    wpAny (model prog w) A (forIn ifs true fun c r=>if r=true then do let ok <- isTrue c env (eval c env);pure (ForInStep.yield ok) else pure (ForInStep.yield r)) (fun ok s₃ =>
     if ok=true then wpAny (model prog w) A (eval elt env) (fun x s₄ =>
      wpAny (model prog w) A (call (.builtin "list.append") [acc,x]) (fun _ s₅=>∃ m,m < n/\I m s₅) (fun _ _=>False) s₄) (fun _ _=>False) s₃
     else ∃ m,m < n/\I m s₃) (fun _ _=>False) s₂) (fun _ _=>False) s₁') (fun _ _=>False) s₁) (fun _ _=>False) s)
 (n:Nat) (h:I n s) :
 codeAny (model prog w) A (.compLoop (.ListComp elt [⟨target,iter,ifs,0⟩] scope pos) 0 it acc env) R s:=by
 refine codeAny_loop rfl I (fun n s hI=>?_) n h
 show wpAny _ A ((compTurn (.ListComp elt [⟨target,iter,ifs,0⟩] scope pos) 0 it acc env).onRaise (fun x=>do noteFrame x env;theTreesLotGoes x)) _ _ s
 refine wpAny_noted ?_
 rw [compTurn_list]
 refine wpAny_bind (wpAny_standAt (wpAny_bind (wpAny_mono (turn n s hI) (fun r s₁ h₁=>?_) fun _ _ h'=>h'.elim)))
 cases r with
 | none=>exact wpAny_pure h₁
 | some v =>
  refine wpAny_bind (wpAny_mono h₁ (fun _ s₁' h₁'=>?_) fun _ _ h'=>h'.elim)
  refine wpAny_bind (wpAny_mono h₁' (fun _ s₂ h₂=>wpAny_bind (wpAny_mono h₂ (fun ok s₃ h₃=>?_) fun _ _ h'=>h'.elim)) fun _ _ h'=>h'.elim)
  cases ok with
  | false=>exact wpAny_pure ⟨rfl,h₃⟩
  | true =>
   exact wpAny_bind (wpAny_bind (wpAny_mono h₃ (fun x s₄ h₄=>wpAny_bind (wpAny_mono h₄ (fun _ s₅ h₅=>wpAny_pure (wpAny_pure ⟨rfl,h₅⟩)) fun _ _ h'=>h'.elim)) fun _ _ h'=>h'.elim))
end
noncomputable def PTs (X:Cx) (ifs:List Expr) (t:TT):Prop :=
 ∀ (pins:List (Addr × Obj)) (s:Shared) (σ:St) (H:Hp) (Q:Bool->Hp->Prop),Inv X pins σ H s->t σ H Q ->
  wpAny (model X.prog X.w) X.A (forIn ifs true fun c r=>if r=true then do let ok <- isTrue c X.env (eval c X.env);pure (ForInStep.yield ok) else pure (ForInStep.yield r)) (TP X pins σ Q) X.xe s
noncomputable def N3:TT:=fun _ H Q=>Q true H
theorem Au {X:Cx}:PTs X [] N3:=fun _ _ _ H _ I h=>wpAny_tests_nil ⟨H,I,h⟩
theorem FY {X:Cx} {c:Expr} {t:TT} (h:PT X c t):PTs X [c] t:=fun pins s σ H Q I hq=>wpAny_tests_one (h pins s σ H Q I hq)
noncomputable def Cm (own:Nat) (g:TG):Prop:=∀ x σ H Q,g x σ H Q->g x σ H fun σ' H'=>(σ'.length=σ.length/\∀ i,own<=i->σ'[i]? = σ[i]?)/\Q σ' H'
noncomputable def FA (own:Nat) (g:TGs):Prop:=∀ x σ H Q,g x σ H Q->g x σ H fun σ' H'=>(σ'.length=σ.length/\∀ i,own<=i->σ'[i]? = σ[i]?)/\Q σ' H'
theorem Ai {own i:Nat} (h:i < own):Cm own (AR i):=fun x σ H Q q =>
 ⟨⟨by simp,fun j hj=>by rw [List.getElem?_set_ne (by lia)]⟩,q⟩
theorem FS {own:Nat}:FA own IF:=fun x σ H Q ⟨e,q⟩=>⟨e,⟨rfl,fun _ _=>rfl⟩,q⟩
noncomputable def Cr (g:TG):Prop:=∀ x σ H (Q Q':St->Hp->Prop),(∀ σ H,Q σ H->Q' σ H)->g x σ H Q->g x σ H Q'
noncomputable def ER (g:TGs):Prop:=∀ x σ H (Q Q':St->Hp->Prop),(∀ σ H,Q σ H->Q' σ H)->g x σ H Q->g x σ H Q'
theorem Bp {i:Nat}:Cr (AR i):=fun _ _ _ _ _ h q=>h _ _ q
theorem CK:ER IF:=fun _ _ _ _ _ h ⟨e,q⟩=>⟨e,h _ _ q⟩
theorem EN {t:TG} {u:TGs} (h1:Cr t) (h2:ER u):ER (Gb t u):=fun _ _ _ _ _ h ⟨v,r,e,q⟩=>⟨v,r,e,h1 _ _ _ _ _ (fun _ _ q=>h2 _ _ _ _ _ h q) q⟩
theorem Ck {own:Nat} {t:TG} {u:TGs} (m:Cr t) (mu:ER u) (h1:Cm own t) (h2:FA own u):FA own (Gb t u):=fun x σ H Q ⟨v,r,e,q⟩ =>
 ⟨v,r,e,m _ _ _ _ _ (fun σ' H' ⟨⟨e1,e2⟩,q⟩=>mu _ _ _ _ _ (fun σ'' H'' ⟨⟨e3,e4⟩,q⟩=>⟨⟨e3.trans e1,fun i hi=>(e4 i hi).trans (e2 i hi)⟩,q⟩) (h2 r σ' H' Q q)) (h1 v σ H _ q)⟩
theorem E1 {own:Nat} {K:W.Frag} {n:Nat} {t:TGs} (h:FA own t):Cm own (HB K n t):=fun x σ H Q ⟨a,xs,e,s,l,q⟩=>⟨a,xs,e,s,l,h _ _ _ _ q⟩
theorem Ob {own:Nat} {ix:List Nat} {σ:St} {i:Nat} {v:V} (h:(cSt own ix σ)[i]? = some (some v)):own<=i:=by
 unfold cSt at h
 by_cases hi:i < own
 ·rw [List.getElem?_append_left (by simpa using hi),List.getElem?_replicate] at h
  split at h <;> cases h
 ·lia
noncomputable def CY (J:It) (g:TG) (tc:TT) (te:TE) (σc:St) (Q:VK) (H1:Hp):Prop :=
 ∃ W:Nat->Nat->List V->Hp->Prop,(∃ m,W 0 m [] H1)/\∀ i m ys H,W i m ys H ->
  (J.stop i H/\∀ p,H p=none->Q (.ref p) (upd H p (.lst ys))) \/
  (J.go i H/\ys.length < sizeLine/\∃ N:List V->Hp->Prop,(∀ ys' H',N ys' H'->∃ m',m' < m/\W (i+1) m' ys' H')/\∀ x H',J.yld i H x H'->g x σc H' fun σ4 H4=>tc σ4 H4 fun b H5 =>
    if b=true then te σ4 H5 fun y H6=>N (ys++[y]) H6 else N ys H5)
noncomputable def Eg (wi:TI) (own:Nat) (ix:List Nat) (g:TG) (tc:TT) (te:TE):TE:=fun σ H Q=>wi σ H fun J H1=>CY J g tc te (cSt own ix σ) Q H1
section
variable {X:Cx} {pins:List (Addr × Obj)} {σ:St} {H:Hp} {s:Shared} {fp:List Addr} {it:Addr} {tn:Nat->Heap->Prop} {J:It} {tg iter elt:Expr} {ifs:List Expr} {scope:Scope} {pos:Pos} {N':List Str} {own:Nat} {ix:List Nat} {g:TG} {tc:TT} {te:TE} {Q:VK} {E:Value->Shared->Prop}
theorem JK (I:Inv X pins σ H s) (T:Turn X.prog X.w X.K tg J fp it tn) (st:tn 0 s.heap) (f2:∀ b∈fp,BE X pins H b) (hc:X.calm=true) (S:CompScope scope X.env.scope)
 (hlen:N'.length=own+ix.length) (hN:(N'.drop own).map some=ix.map (X.N[·]?)) (hfr:∀ x∈N'.drop own,scope.names.lookup x=some .free)
 (hg:∀ c,PG (X.comp scope N' c) tg g) (hgo:Cm own g) (ht:∀ c,PTs (X.comp scope N' c) ifs tc) (he:∀ c,PE (X.comp scope N' c) elt te)
 (hq:CY J g tc te (cSt own ix σ) Q H) {RR:Value->Addr->Result->Shared->Prop}
 (fin:∀ (D C:Addr) (s':Shared) (H':Hp) (ys:List V) (its:List Value) (n:Nat),s'.os=s.os->AllBare s'.gens->Un (frs X.stack) fp H H' s.heap s'.heap->HOk X.prog X.w H' s'.heap->(∃ m,s'.heap.Ns C m)->H' C=none->s.heap.objs.size<=C ->
   H' D=none->s.heap.objs.size<=D->D≠C->s'.heap.get? D=some { cls:=.type "list",data:=.seq its.toArray n } -> Vals ys its->ys.length<=sizeLine->(∀ p,H' p=none->Q (.ref p) (upd H' p (.lst ys)))->RR (.ref D) C (.ok .next) s') :
 wpAny (model X.prog X.w) X.A (newList []) (fun acc s₃=>wpAny (model X.prog X.w) X.A (newFunctionEnv scope X.env.globals (BK X.env.cells scope.names []) [] X.env.qual none .none (some X.env)) (fun cenv s₄ =>
  codeAny (model X.prog X.w) X.A (.compStart (.ListComp elt [⟨tg,iter,ifs,0⟩] scope pos) 0 (.ref it) acc { cenv with scope:=relabel scope X.env }) (RR acc cenv.locals) s₄) E s₃) E s:=by
 obtain ⟨W,⟨m0,w0⟩,turn⟩:=hq
 have hob:∀ b∈fp,∃ o,s.heap.get? b=some o:=fun b hb=>let ⟨o,e,_⟩:=T.obj 0 _ st b hb;⟨o,e⟩
 refine wpAny_newObj_type ?_
 generalize hH1:s.heap.push { cls:=.type "list",dict:=none,data:=.seq ([]:List Value).toArray } = h1
 have hs1:h1.objs.size=s.heap.objs.size+1:=by rw [<- hH1,Heap.size_push]
 have k1:∀ b o,s.heap.get? b=some o->h1.get? b=some o:=fun b o e=>by rw [<- hH1];exact Heap.get?_push_of_some _ e
 have d1:h1.get? s.heap.objs.size=some { cls:=.type "list",data:=.seq ([]:List Value).toArray }:=by rw [<- hH1];exact Heap.get?_push_size _ rfl
 simp only [newFunctionEnv,Option.isSome_some,if_true]
 refine wpAny_bind (wpAny_alloc ?_)
 generalize hH2:(({ s with heap:=h1 }:Shared).heap.push { cls:=.type "dict",data:=.dict #[] })=h2
 have hH2':h1.push { cls:=.type "dict",data:=.dict #[] } = h2:=hH2
 have hs2:h2.objs.size=h1.objs.size+1:=by rw [<- hH2',Heap.size_push]
 have k2:∀ b o,h1.get? b=some o->h2.get? b=some o:=fun b o e=>by rw [<- hH2'];exact Heap.get?_push_of_some _ e
 have n2:h2.Ns h1.objs.size (fun _=>none):=by rw [<- hH2'];exact Heap.Ns.new h1 (.type "dict")
 refine wpAny_bind (wpAny_layCells _ (fun name kind cells=>by cases hkc:kind == NameKind.cell <;> simp [hkc]) _ _ _ _ ?_)
 have ok:=cellsFrom_ok scope.names h2 (h1.objs.size+1) [] ⟨fun _ _ hm=>(nomatch hm),List.Pairwise.nil⟩ (by rw [hs2];exact Nat.le_refl _)
 rw [hs2] at ok
 show wpAny _ _ (forIn ([]:List (Str × Value)) PUnit.unit _ >>= _) _ _ _
 rw [List.forIn_nil]
 refine wpAny_bind (wpAny_pure (wpAny_pure ?_))
 show codeAny _ _ (.compStart _ 0 (.ref it) (.ref s.heap.objs.size) (compEnvC scope (cellsFrom h2.objs.size scope.names (BK X.env.cells scope.names [])) h1.objs.size X.env)) (RR (.ref s.heap.objs.size) h1.objs.size) { s with heap:=pushCells h2 scope.names }
 rw [hs2]
 generalize hH3:pushCells h2 scope.names=h3 at ok ⊢
 have k3:∀ b o,h2.get? b=some o->h3.get? b=some o:=fun b o e=>by rw [<- hH3];exact pushCells_keeps _ _ b o e
 have kk:∀ b o,s.heap.get? b=some o->h3.get? b=some o:=fun b o e=>k3 b o (k2 b o (k1 b o e))
 have d3:h3.get? s.heap.objs.size=some { cls:=.type "list",data:=.seq ([]:List Value).toArray }:=k3 _ _ (k2 _ _ d1)
 have hC:s.heap.objs.size < h1.objs.size:=by rw [hs1];exact Nat.lt_succ_self _
 have I3:Inv (X.comp scope N' ⟨pins,cellsFrom (h1.objs.size+1) scope.names (BK X.env.cells scope.names []),s,H,fp,h1.objs.size⟩) [] (cSt own ix σ) H { s with heap:=h3 } :=
  PU (s4:={ s with heap:=h3 }) I f2 hob S hlen hN hfr hC kk rfl rfl ⟨_,n2.keeps k3⟩ (fun x c hm=>ok.empty x c hm) ok.apart
 generalize hcs:cellsFrom (h1.objs.size+1) scope.names (BK X.env.cells scope.names [])=cs at I3 ⊢
 generalize hCC:h1.objs.size=C at *
 generalize hDD:s.heap.objs.size=D at *
 have hY:=I3.ok
 -- what is fixed of the records
 have sD:D≠C/\(∀ x c,cs.lookup x=some c->c≠D)/\D∉frs X.stack/\∀ p∈X.pn++pins,p.1≠D:=by
  refine ⟨Nat.ne_of_lt hC,fun x c e z=>?_,fun z=>?_,fun p hp z=>?_⟩
  ·subst z
   have e':=e
   rw [<- hcs,DG,FI] at e'
   cases q:(cellsFrom (C+1) scope.names []).lookup x with
   | some d =>
    rw [q] at e';cases e'
    have:=(ok.empty x c (mem_of_lookup q)).2
    exact absurd (Nat.lt_of_lt_of_le hC (Nat.le_of_succ_le this)) (Nat.lt_irrefl _)
   | none =>
    rw [q] at e'
    have hfree:∀ y∈scope.names,y.2=.free->∃ c,X.env.cells.lookup y.1=some c:=fun y hy h=>I.ok.has y.1 (S.fr y hy h)
    rcases clOf_mem _ _ _ _ hfree (mem_of_lookup e') with z | ⟨_,z⟩
    ·exact absurd z (by simp)
    ·obtain ⟨v,q⟩:=I.cell x c z
     have:=q.lt
     rw [hDD] at this
     exact Nat.lt_irrefl _ this
  ·exact (I3.nofs (a:=D) (by exact absurd z (by
    intro z'
    obtain ⟨_,o,ho,_⟩:=(show s.heap.FunFrames X.base X.stack from I.stack).mem z'
    have:=Heap.lt_size ho
    rw [hDD] at this
    exact Nat.lt_irrefl _ this))) z
  ·have:=Heap.lt_size (I.pin p hp).1
   rw [z,hDD] at this
   exact Nat.lt_irrefl _ this
 have stat:∀ {H':Hp},(∀ b∈fp,H' b=none)->∀ b∈fp,BE (X.comp scope N' ⟨pins,cs,s,H,fp,C⟩) [] H' b:=fun {H'} hn b hb=>by
  refine ⟨hn b hb,(hY.exf b hb).1,hY.exfs b hb,.inl hb,(hY.exf b hb).2,fun p hp=>?_⟩
  have hp:p∈(X.pn++pins)++[]:=hp
  rw [List.append_nil] at hp
  exact (f2 b hb).2.2.2.2.2 p hp
 have statD:∀ {H':Hp},H' D=none->BE (X.comp scope N' ⟨pins,cs,s,H,fp,C⟩) [] H' D:=fun {H'} hn=>by
  refine ⟨hn,sD.1,sD.2.2.1,.inr (Nat.le_of_eq hDD),sD.2.1,fun p hp=>?_⟩
  have hp:p∈(X.pn++pins)++[]:=hp
  rw [List.append_nil] at hp
  exact sD.2.2.2 p hp
 have loop:codeAny (model X.prog X.w) X.A (.compLoop (.ListComp elt [⟨tg,iter,ifs,0⟩] scope pos) 0 (.ref it) (.ref D) (compEnvC scope cs C X.env)) (RR (.ref D) C) { s with heap:=h3 }:=by
  refine Ru (fun n s'=>∃ (i:Nat) (H':Hp) (ys:List V) (its:List Value) (k:Nat),Inv (X.comp scope N' ⟨pins,cs,s,H,fp,C⟩) [] (cSt own ix σ) H' s'/\tn i s'.heap/\(∀ b∈fp,H' b=none)/\H' D=none /\
   s'.heap.get? D=some { cls:=.type "list",data:=.seq its.toArray k } /\ Vals ys its/\ys.length<=sizeLine/\W i n ys H') ?_ m0
   ⟨0,H,[],[],0,I3,T.keep _ _ _ st fun b _ o e=>kk b o e,fun b hb=>(f2 b hb).1,I.hok.fresh (Nat.le_of_eq hDD),d3,.nil,Nat.zero_le _,w0⟩
  rintro n s4 ⟨i,H4,ys,its,k,I4,st4,fr4,dn4,d4,rv4,z4,w4⟩
  rcases turn i n ys H4 w4 with ⟨stop,qn⟩ | ⟨go,zl,N,hN2,step⟩
  ·have ID:=I4.pinned (fp:=[D]) (fun b hb=>by rw [List.mem_singleton.mp hb];exact statD dn4) (fun b hb=>by rw [List.mem_singleton.mp hb];exact ⟨_,d4,fun v z=>nomatch z⟩)
   have nD:∀ b∈fp,b≠D:=fun b hb z=>by
    obtain ⟨o,e⟩:=hob b hb
    have:=Heap.lt_size e
    rw [z,hDD] at this
    exact Nat.lt_irrefl _ this
   have stat':∀ b∈fp,BE (X.comp scope N' ⟨pins,cs,s,H,fp,C⟩) ([]++Br [D] s4.heap) H4 b:=fun b hb=>by
    obtain ⟨q1,q2,q3,q4,q5,q6⟩:=stat fr4 b hb
    refine ⟨q1,q2,q3,q4,q5,fun p hp=>?_⟩
    rcases List.mem_append.mp hp with z | z
    ·exact q6 p (List.mem_append_left _ z)
    ·have:=(Ga (by simpa using z:p∈Br [D] s4.heap)).1
     rw [List.mem_singleton.mp this]
     exact fun z=>nD b hb z.symm
   refine thn (T.done (X.comp scope N' ⟨pins,cs,s,H,fp,C⟩) rfl rfl rfl hc i _ s4 _ H4 (fun _ _=>False) ID stat' st4 stop) fun r s5 ⟨hr,I5⟩=>?_
   subst hr
   obtain ⟨m,hm,_⟩:=I5.loc
   refine fin D C s5 H4 ys its k I5.os I5.bare I5.base I5.hok ⟨m,hm⟩ I5.free (Nat.le_of_lt hC) dn4 (Nat.le_refl _) sD.1 ?_ rv4 z4 qn
   ·exact (I5.pin (D,_) (List.mem_append_right _ (List.mem_append_right _ (CG (List.mem_singleton.mpr rfl) d4)))).1
  ·have nD:∀ b∈fp,b≠D:=fun b hb z=>by
    obtain ⟨o,e⟩:=hob b hb
    have:=Heap.lt_size e
    rw [z,hDD] at this
    exact Nat.lt_irrefl _ this
   have ID:=I4.pinned (fp:=[D]) (fun b hb=>by rw [List.mem_singleton.mp hb];exact statD dn4) (fun b hb=>by rw [List.mem_singleton.mp hb];exact ⟨_,d4,fun v z=>nomatch z⟩)
   have statP:∀ {H':Hp},(∀ b∈fp,H' b=none)->∀ b∈fp,BE (X.comp scope N' ⟨pins,cs,s,H,fp,C⟩) ([]++Br [D] s4.heap) H' b:=fun {H'} hn b hb=>by
    obtain ⟨q1,q2,q3,q4,q5,q6⟩:=stat hn b hb
    refine ⟨q1,q2,q3,q4,q5,fun p hp=>?_⟩
    rcases List.mem_append.mp hp with z | z
    ·exact q6 p (List.mem_append_left _ z)
    ·have:=(Ga (by simpa using z:p∈Br [D] s4.heap)).1
     rw [List.mem_singleton.mp this]
     exact fun z=>nD b hb z.symm
   refine thn (T.item (X.comp scope N' ⟨pins,cs,s,H,fp,C⟩) rfl rfl rfl hc i _ s4 _ H4 (fun _ _=>False) ID (statP fr4) st4 go) fun r s5 ⟨u,hr,h5⟩=>?_
   subst hr
   refine thn h5 fun _ s6 ⟨x,H6,I6,r6,y6,st6,fr6⟩=>?_
   have I6':=I6.pinned (statP fr6) (T.obj _ _ st6)
   refine thn (hg _ _ s6 _ H6 x u _ I6' r6 (hgo _ _ _ _ (step x H6 y6))) fun _ s7 ⟨σ7,H7,I7,⟨e7,k7⟩,q7⟩=>?_
   have I7':Inv (X.comp scope N' ⟨pins,cs,s,H,fp,C⟩) ([]++Br [D] s4.heap++Br fp s6.heap) σ7 H7 s7:=I7
   refine thn (ht _ _ s7 σ7 H7 _ I7' q7) fun b s8 ⟨H8,I8,q8⟩=>?_
   -- what is kept through the turn
   have back:∀ {s9:Shared} {H9:Hp},Inv (X.comp scope N' ⟨pins,cs,s,H,fp,C⟩) ([]++Br [D] s4.heap++Br fp s6.heap) σ7 H9 s9 ->
    Inv (X.comp scope N' ⟨pins,cs,s,H,fp,C⟩) [] (cSt own ix σ) H9 s9/\tn (i+1) s9.heap/\(∀ b∈fp,H9 b=none)/\H9 D=none/\s9.heap.get? D=some { cls:=.type "list",data:=.seq its.toArray k }:=fun {s9 H9} I9=>by
    have pD:=I9.pin (D,_) (List.mem_append_right _ (List.mem_append_left _ (List.mem_append_right _ (CG (List.mem_singleton.mpr rfl) d4))))
    refine ⟨I9.unpinned.unpinned.weak (by rw [e7]) fun j v hj=>?_,T.keep _ _ _ st6 fun b hb o e=>(I9.pin (b,o) (List.mem_append_right _ (List.mem_append_right _ (CG hb e)))).1,fun b hb=>?_,pD.2.1,pD.1⟩
    ·rw [k7 j (Ob hj)];exact hj
    ·obtain ⟨o,e,_⟩:=T.obj _ _ st6 b hb
     exact (I9.pin (b,o) (List.mem_append_right _ (List.mem_append_right _ (CG hb e)))).2.1
   cases b with
   | false =>
    rw [if_neg Bool.false_ne_true] at q8
    obtain ⟨m',hm,w8⟩:=hN2 _ _ q8
    obtain ⟨b1,b2,b3,b4,b5⟩:=back I8
    exact ⟨m',hm,i+1,H8,ys,its,k,b1,b2,b3,b4,b5,rv4,z4,w8⟩
   | true =>
    rw [if_pos rfl] at q8
    rw [if_pos rfl]
    refine thn (he _ _ s8 σ7 H8 _ I8 q8) fun yv s9 ⟨y,H9,I9,r9,q9⟩=>?_
    obtain ⟨m',hm,w9⟩:=hN2 _ _ q9
    obtain ⟨b1,b2,b3,b4,b5⟩:=back I9
    have hl:=rv4.length
    refine call_meets F.slot_list_append ⟨_,b5,rfl⟩ F.entry_list_append (F.args_list_append_2 _ _) (PySem.list_append D its.toArray k yv (by rw [List.size_toArray];lia)) ⟨b5,?_⟩
    have up:=PySem.IsL.update b5 (fun a=>a.push yv)
    have keep:∀ b o,b≠D->s9.heap.get? b=some o->(s9.heap.update D (Obj.mapSeq fun a=>a.push yv)).get? b=some o:=fun b o hb q=>(Heap.get?_update_other _ _ (Ne.symm hb)).trans q
    obtain ⟨f0,f1,f2',f3,f4,f5⟩:=statD b4
    refine ⟨m',hm,i+1,H9,ys++[y],its++[yv],(if ((its.toArray.push yv).size == its.toArray.size)=true then k else k+1),b1.turned (t':=s9.toks) keep b4 f1 f3 f4 f5,?_,b3,b4,?_,rv4.append (.cons r9 .nil),?_,w9⟩
    ·exact T.keep _ _ _ b2 fun b hb o e=>keep b o (nD b hb) e
    ·have e2:(its.toArray.push yv)=(its++[yv]).toArray:=by simp
     rw [<- e2]
     exact up
    ·rw [List.length_append,List.length_singleton]
     lia
 exact codeAny_compStart_list loop (T.self X.A 0 _ _ _ (T.keep _ _ _ st fun b _ o e=>kk b o e) loop)
end
section
variable {X:Cx} {pins:List (Addr × Obj)} {σ:St} {H:Hp} {s:Shared} {fp:List Addr} {it:Addr} {tn:Nat->Heap->Prop} {J:It} {tg iter elt:Expr} {ifs:List Expr} {scope:Scope} {pos:Pos} {N':List Str} {own:Nat} {ix:List Nat} {g:TG} {tc:TT} {te:TE} {wi:TI} {E:Value->Shared->Prop}
theorem Kn {H':Hp} {s':Shared} {D:Addr} {ys:List V} {its:List Value} {n:Nat} (I:Inv X pins σ H s) (f2:∀ b∈fp,BE X pins H b) (ho:s'.os=s.os) (hg:AllBare s'.gens) (u:Un (frs X.stack) fp H H' s.heap s'.heap) (hok:HOk X.prog X.w H' s'.heap)
 (dn:H' D=none) (ds:s.heap.objs.size<=D) (d:s'.heap.get? D=some { cls:=.type "list",data:=.seq its.toArray n }) (rv:Vals ys its) (z:ys.length<=sizeLine):Inv X pins σ (upd H' D (.lst ys)) s':=by
 have nD:∀ b o,s.heap.get? b=some o->b≠D:=fun b o e q=>by rw [q,Heap.get?_none_of_le ds] at e;cases e
 have nH:∀ b o,H' b=some o->b≠D:=fun b o e q=>by rw [q,dn] at e;cases e
 refine I.call' (ch:=fp) ho ⟨u.keep,u.slot,fun b o e q hx=>?_,u.there,fun b xs e=>?_,fun b o v e=>?_,fun b ps e=>?_⟩ (fun b o e=>?_) hg fun b hb=>?_
 ·rw [AJ (nD b o e)];exact u.free b o e q hx
 ·have:=u.tups b xs e
  rw [AJ (nH _ _ this)];exact this
 ·have:=u.frzs b o v e
  rw [AJ (nH _ _ this)];exact this
 ·obtain ⟨more,q⟩:=u.tbls b ps e
  exact ⟨more,by rw [AJ (nH _ _ q)];exact q⟩
 ·by_cases hb:b=D
  ·subst hb
   rw [AD] at e
   cases e
   exact ⟨z,its,n,rv,d⟩
  ·rw [AJ hb] at e
   exact (hok b o e).stay (fun _ _ _ q=>q) (fun c q=>by rw [AJ (nH _ _ q)];exact q) fun c xs q=>by rw [AJ (nH _ _ q)];exact q
 ·obtain ⟨q1,q2,q3,q4,q5,q6⟩:=f2 b hb
  exact ⟨q4,q2,q5,q6⟩
theorem Inv.dictGone {s':Shared} {h':Heap} {C:Addr} {H':Hp} {σ':St} (I:Inv X pins σ H s) (J:Inv X pins σ' H' s') (hC:s.heap.objs.size<=C) (hn:H' C=none) (k:Heap.SameBut C s'.heap h'):Inv X pins σ' H' { s' with heap:=h' }:=by
 have hC0:=Heap.get?_none_of_le hC
 refine J.turned (t':=s'.toks) (fun b o hb e=>(k.2 b hb).trans e) hn (fun z=>?_) (.inr (Nat.le_trans I.sz hC)) (fun x c e z=>?_) fun p hp z=>?_
 ·obtain ⟨m,⟨o,_,_,ho,_⟩,_⟩:=I.loc
  rw [<- z,hC0] at ho;cases ho
 ·obtain ⟨v,o,ho,_⟩:=I.cell x c e
  rw [z,hC0] at ho;cases ho
 ·have:=(I.pin p hp).1
  rw [z,hC0] at this;cases this
theorem Oh (hc:X.calm=true) (hi:PI X tg iter wi) (S:CompScope scope X.env.scope)
 (hlen:N'.length=own+ix.length) (hN:(N'.drop own).map some=ix.map (X.N[·]?)) (hfr:∀ x∈N'.drop own,scope.names.lookup x=some .free)
 (hg:∀ c,PG (X.comp scope N' c) tg g) (hgo:Cm own g) (ht:∀ c,PTs (X.comp scope N' c) ifs tc) (he:∀ c,PE (X.comp scope N' c) elt te)
 (hs:∀ x,foldedSetIterable iter X.env x=pure x:=by intro _;rfl):PE X (.ListComp elt [⟨tg,iter,ifs,0⟩] scope pos) (Eg wi own ix g tc te):=by
 intro pins s σ H Q I h
 rw [eval_ListComp]
 have hfree:∀ y∈scope.names,y.2=.free->∃ c,X.env.cells.lookup y.1=some c:=fun y hy h=>I.ok.has y.1 (S.fr y hy h)
 refine wpAny_comprehension_free (use:=none) rfl hs (KU hfree) S.kind (fun y hy hl=>C5 S.nd (by rw [<- hl];exact hy)) ?_
 refine thn (hi pins s σ H _ I h) fun v s1 h1=>thn h1 fun itv s2 h2=>?_
 obtain ⟨it,fp,tn,J,H2,e,I2,T,st2,f2,q2⟩:=h2
 subst e
 refine JK (RR:=fun acc C=>compPost (model X.prog X.w) X.A X.xe none (EP X pins σ Q) acc C) I2 T st2 f2 hc S hlen hN hfr hg hgo ht he q2 ?_
 intro D C s' H' ys its n ho hgn u hok hm hC hCs hD hDs hDC d rv z q
 obtain ⟨m,hm⟩:=hm
 have I3:=Kn I2 f2 ho hgn u hok hD hDs d rv z
 refine ⟨m,hm,fun h' hs'=>?_⟩
 exact ⟨.ref D,_,I2.dictGone I3 hCs (by rw [AJ (Ne.symm hDC)];exact hC) hs',rfl,q D hD⟩
theorem SJ {i:Nat} {y:Str} {py spos:Pos} (hc:X.calm=true) (hnd:X.N.Nodup) (hiy:X.N[i]? = some y) (hy:X.env.scope.names.lookup y=some .local) (hi:PI X tg iter wi) (S:CompScope scope X.env.scope)
 (hlen:N'.length=own+ix.length) (hN:(N'.drop own).map some=ix.map (X.N[·]?)) (hfr:∀ x∈N'.drop own,scope.names.lookup x=some .free)
 (hg:∀ c,PG (X.comp scope N' c) tg g) (hgo:Cm own g) (ht:∀ c,PTs (X.comp scope N' c) ifs tc) (he:∀ c,PE (X.comp scope N' c) elt te)
 (hsw:swapsWith (.ListComp elt [⟨tg,iter,ifs,0⟩] scope pos) (some (.Name y py)) spos.line X.env=pure true)
 (hs:∀ x,foldedSetIterable iter X.env x=pure x:=by intro _;rfl):PS X (.Assign [.Name y py] (.ListComp elt [⟨tg,iter,ifs,0⟩] scope pos) spos) (Dg (Eg wi own ix g tc te) (AR i)):=by
 intro pins s σ H D I h
 rw [exec_Assign_Name_used _ _ _ _ hsw]
 refine wpAny_bind (wpAny_standAt (wpAny_bind ?_))
 show wpAny _ _ (do let _ <- comprehension (.ListComp elt [⟨tg,iter,ifs,0⟩] scope pos) scope X.env _ (newList []) false (eval iter X.env) (some (assign (.Name y py) X.env))) _ _ s
 have hfree:∀ y∈scope.names,y.2=.free->∃ c,X.env.cells.lookup y.1=some c:=fun y hy h=>I.ok.has y.1 (S.fr y hy h)
 refine wpAny_bind (wpAny_mono (wpAny_comprehension_free (use:=some (assign (.Name y py) X.env)) (Q:=fun _ s'=>SP X pins D .next s') rfl hs (KU hfree) S.kind (fun y hy hl=>C5 S.nd (by rw [<- hl];exact hy)) ?_) (fun _ s' hq=>wpAny_pure (wpAny_pure hq)) fun _ _ e=>e)
 refine thn (hi pins s σ H _ I h) fun v s1 h1=>thn h1 fun itv s2 h2=>?_
 obtain ⟨it,fp,tn,J,H2,e,I2,T,st2,f2,q2⟩:=h2
 subst e
 refine JK (RR:=fun acc C=>compPost (model X.prog X.w) X.A X.xe (some (assign (.Name y py) X.env)) (fun _ s'=>SP X pins D .next s') acc C) I2 T st2 f2 hc S hlen hN hfr hg hgo ht he q2 ?_
 intro d C s' H' ys its n ho hgn u hok hm hC hCs hD hDs hDC hd rv z q
 obtain ⟨m,hm⟩:=hm
 have I3:=Kn I2 f2 ho hgn u hok hD hDs hd rv z
 show wpAny _ _ (assign (.Name y py) X.env (.ref d)) _ _ s'
 have hCn:(upd H' d (.lst ys)) C=none:=by rw [AJ (Ne.symm hDC)];exact hC
 refine wpAny_assign_Name (MN I3 hnd hiy (.inl hy) (v:=.ref d) rfl (fun s3 I4 ⟨a,sb,ha⟩=>?_) (.inr hy))
 have ha':a≠C:=fun e=>by
  have hC0:=Heap.get?_none_of_le hCs
  rcases ha with z | z
  ·obtain ⟨m,⟨o,_,_,ho,_⟩,_⟩:=I2.loc
   rw [<- z,e,hC0] at ho;cases ho
  ·obtain ⟨v,o,ho,_⟩:=I2.cell y a z
   rw [e,hC0] at ho;cases ho
 refine ⟨m,hm.sameBut sb (Ne.symm ha'),fun h' hs'=>?_⟩
 exact ⟨_,_,I2.dictGone I4 hCs hCn hs',q d hD⟩
end
section
variable {X:Cx}
theorem PE.imp {e:Expr} {t t':TE} (h:PE X e t) (f:∀ σ H Q,t' σ H Q->t σ H Q):PE X e t':=fun pins s σ H Q I q=>h pins s σ H Q I (f σ H Q q)
theorem OpR.imp {f:Value->Value->Sem Value} {r r':R2} (h:OpR X f r) (g:∀ x y H Q,r' x y H Q->r x y H Q):OpR X f r':=fun pins s σ H x y v u Q I rx ry q=>h pins s σ H x y v u Q I rx ry (g _ _ _ _ q)
theorem CallR.imp {f:Value} {r r':List V->Hp->VK->Prop} (h:CallR X f r) (g:∀ x H Q,r' x H Q->r x H Q):CallR X f r':=fun pins s σ H xs us Q I r q=>h pins s σ H xs us Q I r (g _ _ _ q)
noncomputable def E2 (i:Nat):TE:=fun σ H Q=>match σ[i]? with
 | some (some v)=>Q v H
 | _=>False
theorem vv (i:Nat) {x:Str} {pos:Pos} (hN:X.N[i]? = some x:=by rfl) (hv:Vis X.env.scope x:=by first | exact Or.inl rfl | exact Or.inr (Or.inl rfl) | exact Or.inr (Or.inr rfl)) (hd:(x == ("__debug__" : Str))=false:=by decide)
 (hcd:(x == ("__classdict__" : Str))=false:=by decide):PE X (.Name x pos) (E2 i):=(Nc hN hv hd hcd).imp fun σ H Q q=>by
 unfold E2 at q
 split at q
 ·rename_i v e;exact ⟨v,e,q⟩
 ·exact q.elim
noncomputable def okMul (i j:Int):Prop:=(i.natAbs < 2 ^ 4096/\j.natAbs < 2 ^ 4096)\/(-(2 ^ 64) < i/\i < 2 ^ 64)\/(-(2 ^ 64) < j/\j < 2 ^ 64)
theorem Kv {i:Int} (h:i.natAbs < 2 ^ 4096):Builtin.Int.intBits i<=2 ^ 20:=by
 unfold Builtin.Int.intBits
 split
 ·exact Nat.zero_le _
 ·rename_i hz
  have hne:i.natAbs≠0:=by
   have:¬ i=0:=by simpa using hz
   lia
  have:=(Nat.log2_lt hne).mpr h
  have e:(2:Nat) ^ 20=1048576:=by decide
  lia
theorem okMul.ok {i j:Int} (h:okMul i j):IntMulOk i j:=by
 rcases h with ⟨h1,h2⟩ | h | h
 ·exact .of_bits (Kv h1) (Kv h2)
 ·exact CMul.ok (.inl h)
 ·exact CMul.ok (.inr h)
noncomputable def okDiv (j:Int):Prop:=0 < j/\j < 2 ^ 4096
theorem okDiv.ok {i j:Int} (h:okDiv j):Builtin.divisionGoesByPylong i j=false:=by
 refine PyProof.noPylong_of_log2 ?_
 obtain ⟨h1,h2⟩:=h
 have hne:j.natAbs≠0:=by lia
 have h3:j.natAbs < 2 ^ 4096:=by
  have e:((j.natAbs:Int))=j:=by lia
  have h2':((j.natAbs:Nat):Int) < ((2 ^ 4096:Nat):Int):=by rw [e,Int.natCast_pow];exact h2
  exact Int.ofNat_lt.mp h2'
 have:=(Nat.log2_lt hne).mpr h3
 lia
noncomputable def DT (K:W.Frag):R2:=fun x y H Q=>match x,y with
 | .int i,.int j=>Q (.int (i+j)) H
 | .str a,.str b=>a.length+b.length<=sizeLine/\Q (.str (a++b)) H
 | .ref a,.ref b=>GJ (.ref a) (.ref b) H Q\/Ks K (.ref a) (.ref b) H Q
 | _,_=>False
theorem SG:OpR X (binaryOp .Add) (DT X.K):=by
 intro pins s σ H x y v u Q I rx ry q
 cases x <;> cases y <;> first
  | exact False.elim q
  | exact Lf pins s σ H _ _ v u Q I rx ry ⟨_,_,rfl,rfl,q⟩
  | exact Q7 pins s σ H _ _ v u Q I rx ry ⟨_,_,rfl,rfl,q.1,q.2⟩
  | (rcases q with q | q
     ·exact Ly pins s σ H _ _ v u Q I rx ry q
     ·exact KC pins s σ H _ _ v u Q I rx ry q)
noncomputable def OQ:R2:=fun x y H Q=>match x,y with
 | .int i,.int j=>Q (.int (i - j)) H
 | _,_=>False
theorem MC:OpR X (binaryOp .Sub) OQ:=by
 intro pins s σ H x y v u Q I rx ry q
 cases x <;> cases y <;> first
  | exact False.elim q
  | exact QD pins s σ H _ _ v u Q I rx ry ⟨_,_,rfl,rfl,q⟩
noncomputable def Ge:R2:=fun x y H Q=>match x,y with
 | .int i,.int j=>okMul i j/\Q (.int (i * j)) H
 | .ref a,.int k=>Kc (.ref a) (.int k) H Q
 | _,_=>False
theorem CM:OpR X (binaryOp .Mult) Ge:=by
 have hI:OpR X (binaryOp .Mult) (rI okMul fun i j=>.int (i * j)):=opI fun _ _ _ _ _ _ _ hc q=>mul_int q hc.ok
 intro pins s σ H x y v u Q I rx ry q
 cases x <;> cases y <;> first
  | exact False.elim q
  | exact hI pins s σ H _ _ v u Q I rx ry ⟨_,_,rfl,rfl,q.1,q.2⟩
  | exact Sh pins s σ H _ _ v u Q I rx ry q
noncomputable def GX:R2:=fun x y H Q=>match x,y with
 | .int i,.int j=>okDiv j/\Q (.int (i / j)) H
 | _,_=>False
theorem Ej:OpR X (binaryOp .FloorDiv) GX:=by
 have hI:OpR X (binaryOp .FloorDiv) (rI (fun _ j=>okDiv j) fun i j=>.int (i / j)):=opI fun i j _ _ _ _ _ hc q=>by
  refine floordiv_int (by have:=hc.1;lia) ?_ (.inl hc.ok)
  rw [Int.fdiv_eq_ediv_of_nonneg i (by have:=hc.1;lia)]
  exact q
 intro pins s σ H x y v u Q I rx ry q
 cases x <;> cases y <;> first
  | exact False.elim q
  | exact hI pins s σ H _ _ v u Q I rx ry ⟨_,_,rfl,rfl,q.1,q.2⟩
noncomputable def GL:R2:=fun x y H Q=>match x,y with
 | .int i,.int j=>0 < j/\Q (.int (i % j)) H
 | _,_=>False
theorem Ci:OpR X (binaryOp .Mod) GL:=by
 intro pins s σ H x y v u Q I rx ry q
 cases x <;> cases y <;> first
  | exact False.elim q
  | exact Pd pins s σ H _ _ v u Q I rx ry ⟨_,_,rfl,rfl,q.1,q.2⟩
noncomputable def GV:R2:=fun x y H Q=>match x,y with
 | .int i,.int j=>Ez i j/\Q (.int (i ^ j.toNat)) H
 | _,_=>False
theorem J7:OpR X (binaryOp .Pow) GV:=by
 intro pins s σ H x y v u Q I rx ry q
 cases x <;> cases y <;> first
  | exact False.elim q
  | exact SU pins s σ H _ _ v u Q I rx ry ⟨_,_,rfl,rfl,q.1,q.2⟩
noncomputable def LW (f:Int->Int->Int):R2:=fun x y H Q=>match x,y with
 | .int i,.int j=>Q (.int (f i j)) H
 | _,_=>False
theorem FP:OpR X (binaryOp .BitAnd) (LW Builtin.bitAnd):=by
 intro pins s σ H x y v u Q I rx ry q
 cases x <;> cases y <;> first
  | exact False.elim q
  | exact Rs pins s σ H _ _ v u Q I rx ry ⟨_,_,rfl,rfl,q⟩
noncomputable def Oq:R2:=fun x y H Q=>match x,y with
 | .int i,.int j=>0<=j/\Q (.int (i / 2 ^ j.toNat)) H
 | _,_=>False
theorem Qf:OpR X (binaryOp .RShift) Oq:=by
 intro pins s σ H x y v u Q I rx ry q
 cases x <;> cases y <;> first
  | exact False.elim q
  | exact Mv pins s σ H _ _ v u Q I rx ry ⟨_,_,rfl,rfl,q.1,q.2⟩
noncomputable def IH:R2:=fun x y H Q=>match x,y with
 | .int i,.int j=>Ez i j/\Q (.int (i * 2 ^ j.toNat)) H
 | _,_=>False
theorem IR:OpR X (binaryOp .LShift) IH:=by
 intro pins s σ H x y v u Q I rx ry q
 cases x <;> cases y <;> first
  | exact False.elim q
  | exact NA pins s σ H _ _ v u Q I rx ry ⟨_,_,rfl,rfl,q.1,q.2⟩
noncomputable def GR:V->Hp->VK->Prop:=fun x H Q=>match x with
 | .int i=>Q (.int (-i)) H
 | _=>False
theorem QY:UnR X (unaryOp .USub) GR:=by
 intro pins s σ H x v Q I rx q
 cases x <;> first
  | exact False.elim q
  | exact Q5 pins s σ H _ v Q I rx ⟨_,rfl,q⟩
noncomputable def EB (p:Int->Int->Bool):R2:=fun x y H Q=>match x,y with
 | .int i,.int j=>Q (.bl (p i j)) H
 | _,_=>False
theorem Cd:OpR X (compareOp .Lt) (EB fun i j=>decide (i < j)):=by
 intro pins s σ H x y v u Q I rx ry q
 cases x <;> cases y <;> first
  | exact False.elim q
  | exact Rc pins s σ H _ _ v u Q I rx ry ⟨_,_,rfl,rfl,q⟩
theorem Tx:OpR X (compareOp .LtE) (EB fun i j=>decide (i<=j)):=by
 intro pins s σ H x y v u Q I rx ry q
 cases x <;> cases y <;> first
  | exact False.elim q
  | exact OP pins s σ H _ _ v u Q I rx ry ⟨_,_,rfl,rfl,q⟩
theorem EW:OpR X (compareOp .Gt) (EB fun i j=>decide (j < i)):=by
 intro pins s σ H x y v u Q I rx ry q
 cases x <;> cases y <;> first
  | exact False.elim q
  | exact Nw pins s σ H _ _ v u Q I rx ry ⟨_,_,rfl,rfl,q⟩
theorem HD:OpR X (compareOp .GtE) (EB fun i j=>decide (j<=i)):=by
 intro pins s σ H x y v u Q I rx ry q
 cases x <;> cases y <;> first
  | exact False.elim q
  | exact Sq pins s σ H _ _ v u Q I rx ry ⟨_,_,rfl,rfl,q⟩
end
inductive Dv where
 | non | bl (b:Bool) | int (i:Int) | str (x:Str) | tup (ds:List Dv) | lst (ds:List Dv)
mutual
noncomputable def Rep (K:W.Frag) (H:Hp):Dv->V->Prop
 | .non,v=>v=.non
 | .bl b,v=>v=.bl b
 | .int i,v=>v=.int i
 | .str x,v=>v=.str x
 | .tup ds,v=>∃ a xs,v=.ref a/\SqT K H a xs/\Reps K H ds xs
 | .lst ds,v=>∃ a xs,v=.ref a/\SqL K H a xs/\Reps K H ds xs
noncomputable def Reps (K:W.Frag) (H:Hp):List Dv->List V->Prop
 | [],xs=>xs=[]
 | d::ds,xs=>∃ x r,xs=x::r/\Rep K H d x/\Reps K H ds r
end
mutual
noncomputable def eqD:Dv->Dv->Bool
 | .non,.non=>true
 | .bl a,.bl b=>a == b
 | .bl a,.int b=>(if a then 1 else 0) == b
 | .int a,.bl b=>a == (if b then 1 else 0)
 | .int a,.int b=>a == b
 | .str a,.str b=>a == b
 | .tup ds,.tup es=>A0 ds es
 | .lst ds,.lst es=>A0 ds es
 | _,_=>false
noncomputable def A0:List Dv->List Dv->Bool
 | [],[]=>true
 | d::ds,e::es=>eqD d e && A0 ds es
 | _,_=>false
end
mutual
noncomputable def Ap:Dv->Nat
 | .tup ds=>Bu ds+1
 | .lst ds=>Bu ds+1
 | _=>0
noncomputable def Bu:List Dv->Nat
 | []=>0
 | d::ds=>max (Ap d) (Bu ds)
end
theorem LI (ds es:List Dv):eqD (.tup ds) (.tup es)=A0 ds es:=by rw [eqD]
theorem Eu (ds es:List Dv):eqD (.lst ds) (.lst es)=A0 ds es:=by rw [eqD]
theorem Reps.length {K:W.Frag} {H:Hp}:∀ {ds:List Dv} {xs:List V},Reps K H ds xs->ds.length=xs.length
 | [],xs,h=>by unfold Reps at h;subst h;rfl
 | d::ds,xs,h=>by
  unfold Reps at h
  obtain ⟨x,r,rfl,_,h⟩:=h
  rw [List.length_cons,List.length_cons,Reps.length h]
theorem Reps.get {K:W.Frag} {H:Hp}:∀ {ds:List Dv} {xs:List V} {i:Nat} {d:Dv},Reps K H ds xs->ds[i]? = some d->∃ x,xs[i]? = some x/\Rep K H d x
 | [],_,_,_,_,e=>by simp at e
 | d::ds,xs,0,_,h,e=>by
  unfold Reps at h
  obtain ⟨x,r,rfl,h1,_⟩:=h
  simp at e;subst e
  exact ⟨x,rfl,h1⟩
 | d::ds,xs,i+1,_,h,e=>by
  unfold Reps at h
  obtain ⟨x,r,rfl,_,h⟩:=h
  obtain ⟨y,h1,h2⟩:=Reps.get (i:=i) h (by simpa using e)
  exact ⟨y,by simpa using h1,h2⟩
theorem KM {ds:List Dv} {i:Nat} {d:Dv} (h:ds[i]? = some d):Ap d<=Bu ds:=by
 induction ds generalizing i with
 | nil=>simp at h
 | cons e es ih =>
  unfold Bu
  cases i with
  | zero=>simp at h;subst h;lia
  | succ i=>have:=ih (i:=i) (by simpa using h);lia
theorem IJ:∀ (ds es:List Dv),ds.length=es.length->A0 ds es=(List.range ds.length).all fun i=>match ds[i]?,es[i]? with | some d,some e=>eqD d e | _,_=>false
 | [],[],_=>by unfold A0;rfl
 | d::ds,e::es,h=>by
  unfold A0
  rw [List.length_cons,List.range_succ_eq_map,List.all_cons,List.all_map,IJ ds es (by simpa using h)]
  congr 1
 | [],e::es,h=>by simp at h
 | d::ds,[],h=>by simp at h
theorem IB:∀ (ds es:List Dv),ds.length≠es.length->A0 ds es=false
 | [],[],h=>absurd rfl h
 | [],_::_,_=>by unfold A0;rfl
 | _::_,[],_=>by unfold A0;rfl
 | d::ds,e::es,h=>by unfold A0;rw [IB ds es (fun z=>h (by simp [z])),Bool.and_false]
mutual
theorem Fv:∀ d:Dv,eqD d d=true
 | .non=>by unfold eqD;rfl
 | .bl b=>by unfold eqD;simp
 | .int i=>by unfold eqD;simp
 | .str x=>by unfold eqD;simp
 | .tup ds=>by unfold eqD;exact FH ds
 | .lst ds=>by unfold eqD;exact FH ds
theorem FH:∀ ds:List Dv,A0 ds ds=true
 | []=>by unfold A0;rfl
 | d::ds=>by unfold A0;rw [Fv d,FH ds];rfl
end
section
variable {X:Cx} {pins:List (Addr × Obj)} {σ:St} {H:Hp} {s:Shared}
theorem JT {a:Addr} {xs ys:List V} (I:Inv X pins σ H s) (h:SqL X.K H a xs) (h':SqT X.K H a ys):False:=by
 obtain ⟨its,_,⟨o,n,e,c,_⟩,_⟩:=I.list h
 obtain ⟨its',_,⟨o',e',c',_⟩,_⟩:=I.tuple h'
 rw [e] at e';cases e'
 rw [c] at c'
 exact absurd c' (by decide)
mutual
theorem FD (I:Inv X pins σ H s):∀ (d e:Dv) (x:V),Rep X.K H d x->Rep X.K H e x->d=e
 | .non,e,x,h,h'=>by
  unfold Rep at h;subst h
  cases e <;> unfold Rep at h' <;> first | rfl | (obtain ⟨a,xs,q,_⟩:=h';cases q;done) | (cases h';done)
 | .bl b,e,x,h,h'=>by
  unfold Rep at h;subst h
  cases e <;> unfold Rep at h' <;> first | (obtain ⟨a,xs,q,_⟩:=h';cases q;done) | (cases h';rfl) | (cases h';done)
 | .int b,e,x,h,h'=>by
  unfold Rep at h;subst h
  cases e <;> unfold Rep at h' <;> first | (obtain ⟨a,xs,q,_⟩:=h';cases q;done) | (cases h';rfl) | (cases h';done)
 | .str b,e,x,h,h'=>by
  unfold Rep at h;subst h
  cases e <;> unfold Rep at h' <;> first | (obtain ⟨a,xs,q,_⟩:=h';cases q;done) | (cases h';rfl) | (cases h';done)
 | .tup ds,e,x,h,h'=>by
  unfold Rep at h
  obtain ⟨a,xs,rfl,hs,hr⟩:=h
  cases e with
  | tup es =>
   unfold Rep at h'
   obtain ⟨b,ys,q,hs',hr'⟩:=h'
   cases q
   rw [I.tuple_inj hs' hs] at hr'
   rw [Hw I ds es xs hr hr']
  | lst es =>
   unfold Rep at h'
   obtain ⟨b,ys,q,hs',hr'⟩:=h'
   cases q
   exact (JT I hs' hs).elim
  | _=>unfold Rep at h';cases h'
 | .lst ds,e,x,h,h'=>by
  unfold Rep at h
  obtain ⟨a,xs,rfl,hs,hr⟩:=h
  cases e with
  | lst es =>
   unfold Rep at h'
   obtain ⟨b,ys,q,hs',hr'⟩:=h'
   cases q
   rw [I.list_inj hs' hs] at hr'
   rw [Hw I ds es xs hr hr']
  | tup es =>
   unfold Rep at h'
   obtain ⟨b,ys,q,hs',hr'⟩:=h'
   cases q
   exact (JT I hs hs').elim
  | _=>unfold Rep at h';cases h'
theorem Hw (I:Inv X pins σ H s):∀ (ds es:List Dv) (xs:List V),Reps X.K H ds xs->Reps X.K H es xs->ds=es
 | [],es,xs,h,h'=>by
  unfold Reps at h;subst h
  cases es with
  | nil=>rfl
  | cons e es=>unfold Reps at h';obtain ⟨x,r,q,_⟩:=h';cases q
 | d::ds,es,xs,h,h'=>by
  unfold Reps at h
  obtain ⟨x,r,rfl,h1,h2⟩:=h
  cases es with
  | nil=>unfold Reps at h';cases h'
  | cons e es =>
   unfold Reps at h'
   obtain ⟨y,r',q,h3,h4⟩:=h'
   cases q
   rw [FD I d e _ h1 h3,Hw I ds es _ h2 h4]
end
noncomputable abbrev Eq3 (A:Around) (s:Shared) (u v:Value) (b:Bool):Prop:=SeqAt.EqAt A s u v b/\SeqAt.RcAt A s u v b/\SeqAt.RcNeAt A s u v (!b)
theorem Qz {A:Around} {a b:Addr} {xs ys:List V} {ds es:List Dv} (I:Inv X pins σ H s) (hu:A.units < cLine) (ha:SqT X.K H a xs) (hb:SqT X.K H b ys) (hd:Reps X.K H ds xs) (he:Reps X.K H es ys)
 (ih:∀ (i:Nat) (d e:Dv) (x y:V) (u v:Value),ds[i]? = some d->es[i]? = some e->xs[i]? = some x->ys[i]? = some y->RelV x u->RelV y v->SeqAt.EqAt A.in1 s u v (eqD d e)):Eq3 A s (.ref a) (.ref b) (eqD (.tup ds) (.tup es)):=by
 obtain ⟨its,r1,p1,_⟩:=I.tuple ha
 obtain ⟨its2,r2,p2,_⟩:=I.tuple hb
 have l1:=hd.length;have l2:=he.length;have l3:=r1.length;have l4:=r2.length
 have hitem:∀ j (h1:j < its.toArray.size) (h2:j < its2.toArray.size),SeqAt.EqAt A.in1 s its.toArray[j] its2.toArray[j] (match ds[j]?,es[j]? with | some d,some e=>eqD d e | _,_=>false):=fun j h1 h2=>by
  rw [List.size_toArray] at h1 h2
  have e1:ds[j]? = some ds[j]:=List.getElem?_eq_getElem (by lia)
  have e2:es[j]? = some es[j]:=List.getElem?_eq_getElem (by lia)
  have e3:xs[j]? = some xs[j]:=List.getElem?_eq_getElem (by lia)
  have e4:ys[j]? = some ys[j]:=List.getElem?_eq_getElem (by lia)
  obtain ⟨u,q1,q2⟩:=r1.get e3
  obtain ⟨v,q3,q4⟩:=r2.get e4
  rw [e1,e2]
  have z1:its.toArray[j]=u:=by rw [List.getElem_toArray];rw [List.getElem?_eq_getElem h1] at q1;exact Option.some.inj q1
  have z2:its2.toArray[j]=v:=by rw [List.getElem_toArray];rw [List.getElem?_eq_getElem h2] at q3;exact Option.some.inj q3
  rw [z1,z2]
  exact ih j _ _ _ _ _ _ e1 e2 e3 e4 q2 q4
 have val:((List.range (min its.toArray.size its2.toArray.size)).all (fun j=>match ds[j]?,es[j]? with | some d,some e=>eqD d e | _,_=>false) && its.toArray.size == its2.toArray.size)=eqD (.tup ds) (.tup es):=by
  rw [List.size_toArray,List.size_toArray,<- l3,<- l4,<- l1,<- l2,LI]
  by_cases h:ds.length=es.length
  ·rw [h,Nat.min_self,<- h,IJ ds es h]
   simp
  ·rw [IB ds es h]
   have:(ds.length == es.length)=false:=by simpa using h
   rw [this,Bool.and_false]
 have R:=SeqAt.RcAt.tuples (A:=A) p1 p2 hu hitem
 have N:=SeqAt.RcNeAt.tuples (A:=A) p1 p2 hu hitem
 rw [val] at R N
 refine ⟨?_,R,N⟩
 by_cases hab:a=b
 ·subst hab
  have e:ds=es:=by
   have:=FD I (.tup ds) (.tup es) (.ref a) (by unfold Rep;exact ⟨a,xs,rfl,ha,hd⟩) (by unfold Rep;exact ⟨a,ys,rfl,hb,he⟩)
   cases this;rfl
  subst e
  rw [Fv]
  exact SeqAt.EqAt.same _
 ·exact .of_refs hab R
theorem RO {A:Around} {a b:Addr} {xs ys:List V} {ds es:List Dv} (I:Inv X pins σ H s) (hu:A.units < cLine) (ha:SqL X.K H a xs) (hb:SqL X.K H b ys) (hd:Reps X.K H ds xs) (he:Reps X.K H es ys)
 (ih:∀ (i:Nat) (d e:Dv) (x y:V) (u v:Value),ds[i]? = some d->es[i]? = some e->xs[i]? = some x->ys[i]? = some y->RelV x u->RelV y v->SeqAt.EqAt A.in1 s u v (eqD d e)):Eq3 A s (.ref a) (.ref b) (eqD (.lst ds) (.lst es)):=by
 obtain ⟨its,r1,p1,_⟩:=I.list ha
 obtain ⟨its2,r2,p2,_⟩:=I.list hb
 have l1:=hd.length;have l2:=he.length;have l3:=r1.length;have l4:=r2.length
 have hitem:∀ j (h1:j < its.toArray.size) (h2:j < its2.toArray.size),SeqAt.EqAt A.in1 s its.toArray[j] its2.toArray[j] (match ds[j]?,es[j]? with | some d,some e=>eqD d e | _,_=>false):=fun j h1 h2=>by
  rw [List.size_toArray] at h1 h2
  have e1:ds[j]? = some ds[j]:=List.getElem?_eq_getElem (by lia)
  have e2:es[j]? = some es[j]:=List.getElem?_eq_getElem (by lia)
  have e3:xs[j]? = some xs[j]:=List.getElem?_eq_getElem (by lia)
  have e4:ys[j]? = some ys[j]:=List.getElem?_eq_getElem (by lia)
  obtain ⟨u,q1,q2⟩:=r1.get e3
  obtain ⟨v,q3,q4⟩:=r2.get e4
  rw [e1,e2]
  have z1:its.toArray[j]=u:=by rw [List.getElem_toArray];rw [List.getElem?_eq_getElem h1] at q1;exact Option.some.inj q1
  have z2:its2.toArray[j]=v:=by rw [List.getElem_toArray];rw [List.getElem?_eq_getElem h2] at q3;exact Option.some.inj q3
  rw [z1,z2]
  exact ih j _ _ _ _ _ _ e1 e2 e3 e4 q2 q4
 have RN:SeqAt.RcAt A s (.ref a) (.ref b) (eqD (.lst ds) (.lst es))/\SeqAt.RcNeAt A s (.ref a) (.ref b) (!eqD (.lst ds) (.lst es)):=by
  by_cases h:ds.length=es.length
  ·have hsz:its.toArray.size=its2.toArray.size:=by rw [List.size_toArray,List.size_toArray];lia
   have val:(List.range its.toArray.size).all (fun j=>match ds[j]?,es[j]? with | some d,some e=>eqD d e | _,_=>false)=eqD (.lst ds) (.lst es):=by
    rw [Eu,List.size_toArray,<- l3,<- l1,IJ ds es h]
   have R:=SeqAt.RcAt.lists (A:=A) p1.isList p2.isList hsz hu hitem
   have N:=SeqAt.RcNeAt.lists (A:=A) p1.isList p2.isList hsz hu hitem
   rw [val] at R N
   exact ⟨R,N⟩
  ·have hsz:(its.toArray.size != its2.toArray.size)=true:=by rw [List.size_toArray,List.size_toArray];simp;lia
   have val:eqD (.lst ds) (.lst es)=false:=by rw [Eu];exact IB ds es h
   rw [val]
   exact ⟨SeqAt.RcAt.lists_lengths p1.isList p2.isList hsz hu,SeqAt.RcNeAt.lists_lengths p1.isList p2.isList hsz hu⟩
 refine ⟨?_,RN.1,RN.2⟩
 by_cases hab:a=b
 ·subst hab
  have e:ds=es:=by
   have:=FD I (.lst ds) (.lst es) (.ref a) (by unfold Rep;exact ⟨a,xs,rfl,ha,hd⟩) (by unfold Rep;exact ⟨a,ys,rfl,hb,he⟩)
   cases this;rfl
  subst e
  rw [Fv]
  exact SeqAt.EqAt.same _
 ·exact .of_refs hab RN.1
theorem Gv (I:Inv X pins σ H s):∀ (n:Nat) (A:Around) (d e:Dv) (x y:V) (u v:Value),Ap d<=n->A.units+n < cLine->Rep X.K H d x->Rep X.K H e y->RelV x u->RelV y v->Eq3 A s u v (eqD d e):=by
 intro n
 induction n with
 | zero =>
  intro A d e x y u v hd hu hx hy ru rv
  have hu':A.units < cLine:=by lia
  cases d with
  | tup ds=>unfold Ap at hd;lia
  | lst ds=>unfold Ap at hd;lia
  | non =>
   unfold Rep at hx;subst hx;cases ru
   cases e <;> unfold Rep at hy
   case non=>subst hy;cases rv;exact ⟨SeqAt.EqAt.same _,SeqAt.RcAt.none_none,SeqAt.RcNeAt.none_none⟩
   case bl=>subst hy;cases rv;exact ⟨.none_bool _,.none_bool _,.none_bool _⟩
   case int=>subst hy;obtain ⟨t,rfl⟩:=rv;exact ⟨.none_int _ _,.none_int _ _,.none_int _ _⟩
   case str=>subst hy;obtain ⟨t,rfl⟩:=rv;exact ⟨.none_str _ _,.none_str _ _,.none_str _ _⟩
   case tup=>obtain ⟨a,xs,rfl,ha,_⟩:=hy;cases rv;obtain ⟨its,_,p,_⟩:=I.tuple ha;exact ⟨.none_tuple p hu',.none_tuple p hu',.none_tuple p hu'⟩
   case lst=>obtain ⟨a,xs,rfl,ha,_⟩:=hy;cases rv;obtain ⟨its,_,p,_⟩:=I.list ha;exact ⟨.none_list p.isList hu',.none_list p.isList hu',.none_list p.isList hu'⟩
  | bl c =>
   unfold Rep at hx;subst hx;cases ru
   cases e <;> unfold Rep at hy
   case non=>subst hy;cases rv;exact ⟨.bool_none _,.bool_none _,.bool_none _⟩
   case bl=>subst hy;cases rv;unfold eqD;exact ⟨.bool_bool _ _,.bool_bool _ _,.bool_bool _ _⟩
   case int=>subst hy;obtain ⟨t,rfl⟩:=rv;unfold eqD;exact ⟨.bool_int _ _ _,.bool_int _ _ _,.bool_int _ _ _⟩
   case str=>subst hy;obtain ⟨t,rfl⟩:=rv;exact ⟨.bool_str _ _ _,.bool_str _ _ _,.bool_str _ _ _⟩
   case tup=>obtain ⟨a,xs,rfl,ha,_⟩:=hy;cases rv;obtain ⟨its,_,p,_⟩:=I.tuple ha;exact ⟨.bool_tuple _ p hu',.bool_tuple _ p hu',.bool_tuple _ p hu'⟩
   case lst=>obtain ⟨a,xs,rfl,ha,_⟩:=hy;cases rv;obtain ⟨its,_,p,_⟩:=I.list ha;exact ⟨.bool_list _ p.isList hu',.bool_list _ p.isList hu',.bool_list _ p.isList hu'⟩
  | int c =>
   unfold Rep at hx;subst hx;obtain ⟨t0,rfl⟩:=ru
   cases e <;> unfold Rep at hy
   case non=>subst hy;cases rv;exact ⟨.int_none _ _,.int_none _ _,.int_none _ _⟩
   case bl=>subst hy;cases rv;unfold eqD;exact ⟨.int_bool _ _ _,.int_bool _ _ _,.int_bool _ _ _⟩
   case int=>subst hy;obtain ⟨t,rfl⟩:=rv;unfold eqD;exact ⟨.int_int _ _ _ _,.int_int _ _ _ _,.int_int _ _ _ _⟩
   case str=>subst hy;obtain ⟨t,rfl⟩:=rv;exact ⟨.int_str _ _ _ _,.int_str _ _ _ _,.int_str _ _ _ _⟩
   case tup=>obtain ⟨a,xs,rfl,ha,_⟩:=hy;cases rv;obtain ⟨its,_,p,_⟩:=I.tuple ha;exact ⟨.int_tuple _ _ p hu',.int_tuple _ _ p hu',.int_tuple _ _ p hu'⟩
   case lst=>obtain ⟨a,xs,rfl,ha,_⟩:=hy;cases rv;obtain ⟨its,_,p,_⟩:=I.list ha;exact ⟨.int_list _ _ p.isList hu',.int_list _ _ p.isList hu',.int_list _ _ p.isList hu'⟩
  | str c =>
   unfold Rep at hx;subst hx;obtain ⟨t0,rfl⟩:=ru
   cases e <;> unfold Rep at hy
   case non=>subst hy;cases rv;exact ⟨.str_none _ _,.str_none _ _,.str_none _ _⟩
   case bl=>subst hy;cases rv;exact ⟨.str_bool _ _ _,.str_bool _ _ _,.str_bool _ _ _⟩
   case int=>subst hy;obtain ⟨t,rfl⟩:=rv;exact ⟨.str_int _ _ _ _,.str_int _ _ _ _,.str_int _ _ _ _⟩
   case str=>subst hy;obtain ⟨t,rfl⟩:=rv;unfold eqD;exact ⟨.str_str _ _ _ _,.str_str _ _ _ _,.str_str _ _ _ _⟩
   case tup=>obtain ⟨a,xs,rfl,ha,_⟩:=hy;cases rv;obtain ⟨its,_,p,_⟩:=I.tuple ha;exact ⟨.str_tuple _ _ p hu',.str_tuple _ _ p hu',.str_tuple _ _ p hu'⟩
   case lst=>obtain ⟨a,xs,rfl,ha,_⟩:=hy;cases rv;obtain ⟨its,_,p,_⟩:=I.list ha;exact ⟨.str_list _ _ p.isList hu',.str_list _ _ p.isList hu',.str_list _ _ p.isList hu'⟩
 | succ n ih =>
  intro A d e x y u v hd hu hx hy ru rv
  have hu':A.units < cLine:=by lia
  have hin:A.in1.units+n < cLine:=by show A.units+1+n < cLine;lia
  cases d with
  | tup ds =>
   unfold Ap at hd
   unfold Rep at hx
   obtain ⟨a,xs,rfl,ha,hr⟩:=hx
   cases ru
   cases e <;> unfold Rep at hy
   case tup es =>
    obtain ⟨b,ys,rfl,hb,hr'⟩:=hy
    cases rv
    refine Qz I hu' ha hb hr hr' fun i d e x y u v e1 e2 e3 e4 ru rv=>?_
    obtain ⟨x',q1,q2⟩:=hr.get e1
    obtain ⟨y',q3,q4⟩:=hr'.get e2
    rw [e3] at q1;cases q1
    rw [e4] at q3;cases q3
    exact (ih A.in1 d e x y u v (by have:=KM e1;lia) hin q2 q4 ru rv).1
   case non=>subst hy;cases rv;obtain ⟨its,_,p,_⟩:=I.tuple ha;exact ⟨.tuple_none p hu',.tuple_none p hu',.tuple_none p hu'⟩
   case bl=>subst hy;cases rv;obtain ⟨its,_,p,_⟩:=I.tuple ha;exact ⟨.tuple_bool _ p hu',.tuple_bool _ p hu',.tuple_bool _ p hu'⟩
   case int=>subst hy;obtain ⟨t,rfl⟩:=rv;obtain ⟨its,_,p,_⟩:=I.tuple ha;exact ⟨.tuple_int _ _ p hu',.tuple_int _ _ p hu',.tuple_int _ _ p hu'⟩
   case str=>subst hy;obtain ⟨t,rfl⟩:=rv;obtain ⟨its,_,p,_⟩:=I.tuple ha;exact ⟨.tuple_str _ _ p hu',.tuple_str _ _ p hu',.tuple_str _ _ p hu'⟩
   case lst=>obtain ⟨b,ys,rfl,hb,_⟩:=hy;cases rv;obtain ⟨its,_,p,_⟩:=I.tuple ha;obtain ⟨its2,_,p2,_⟩:=I.list hb;exact ⟨.tuple_list p p2.isList hu',.tuple_list p p2.isList hu',.tuple_list p p2.isList hu'⟩
  | lst ds =>
   unfold Ap at hd
   unfold Rep at hx
   obtain ⟨a,xs,rfl,ha,hr⟩:=hx
   cases ru
   cases e <;> unfold Rep at hy
   case lst es =>
    obtain ⟨b,ys,rfl,hb,hr'⟩:=hy
    cases rv
    refine RO I hu' ha hb hr hr' fun i d e x y u v e1 e2 e3 e4 ru rv=>?_
    obtain ⟨x',q1,q2⟩:=hr.get e1
    obtain ⟨y',q3,q4⟩:=hr'.get e2
    rw [e3] at q1;cases q1
    rw [e4] at q3;cases q3
    exact (ih A.in1 d e x y u v (by have:=KM e1;lia) hin q2 q4 ru rv).1
   case non=>subst hy;cases rv;obtain ⟨its,_,p,_⟩:=I.list ha;exact ⟨.list_none p.isList hu',.list_none p.isList hu',.list_none p.isList hu'⟩
   case bl=>subst hy;cases rv;obtain ⟨its,_,p,_⟩:=I.list ha;exact ⟨.list_bool _ p.isList hu',.list_bool _ p.isList hu',.list_bool _ p.isList hu'⟩
   case int=>subst hy;obtain ⟨t,rfl⟩:=rv;obtain ⟨its,_,p,_⟩:=I.list ha;exact ⟨.list_int _ _ p.isList hu',.list_int _ _ p.isList hu',.list_int _ _ p.isList hu'⟩
   case str=>subst hy;obtain ⟨t,rfl⟩:=rv;obtain ⟨its,_,p,_⟩:=I.list ha;exact ⟨.list_str _ _ p.isList hu',.list_str _ _ p.isList hu',.list_str _ _ p.isList hu'⟩
   case tup=>obtain ⟨b,ys,rfl,hb,_⟩:=hy;cases rv;obtain ⟨its,_,p,_⟩:=I.list ha;obtain ⟨its2,_,p2,_⟩:=I.tuple hb;exact ⟨.list_tuple p.isList p2 hu',.list_tuple p.isList p2 hu',.list_tuple p.isList p2 hu'⟩
  | non=>exact ih A .non e x y u v (by unfold Ap;lia) (by lia) hx hy ru rv
  | bl c=>exact ih A (.bl c) e x y u v (by unfold Ap;lia) (by lia) hx hy ru rv
  | int c=>exact ih A (.int c) e x y u v (by unfold Ap;lia) (by lia) hx hy ru rv
  | str c=>exact ih A (.str c) e x y u v (by unfold Ap;lia) (by lia) hx hy ru rv
end
section
variable {X:Cx}
noncomputable def mEq (neg:Bool) (K:W.Frag):R2:=fun x y H Q=>match x,y with
 | .non,.non=>Q (.bl (neg ^^ true)) H
 | .bl a,.bl b=>Q (.bl (neg ^^ (a == b))) H
 | .int a,.int b=>Q (.bl (neg ^^ (a == b))) H
 | .str a,.str b=>Q (.bl (neg ^^ (a == b))) H
 | x,y=>∃ d e,Rep K H d x/\Rep K H e y/\Ap d<=60/\Q (.bl (neg ^^ eqD d e)) H
theorem Ov (hu:X.A.units+60 < cLine):OpR X (compareOp .Eq) (fun x y H Q=>∃ d e,Rep X.K H d x/\Rep X.K H e y/\Ap d<=60/\Q (.bl (eqD d e)) H):=by
 intro pins s σ H x y v u Q I rx ry h
 obtain ⟨d,e,h1,h2,h3,q⟩:=h
 exact (Gv I 60 X.A d e x y v u h3 hu h1 h2 rx ry).2.1 X.prog X.w _ _ ⟨.bl _,H,I,rfl,q⟩
theorem Qs (hu:X.A.units+60 < cLine):OpR X (compareOp .NotEq) (fun x y H Q=>∃ d e,Rep X.K H d x/\Rep X.K H e y/\Ap d<=60/\Q (.bl (!eqD d e)) H):=by
 intro pins s σ H x y v u Q I rx ry h
 obtain ⟨d,e,h1,h2,h3,q⟩:=h
 exact (Gv I 60 X.A d e x y v u h3 hu h1 h2 rx ry).2.2 X.prog X.w _ _ ⟨.bl _,H,I,rfl,q⟩
theorem IU {neg:Bool} {K:W.Frag} {x y:V} {H:Hp} {Q:VK} (h:mEq neg K x y H Q):∃ d e,Rep K H d x/\Rep K H e y/\Ap d<=60/\Q (.bl (neg ^^ eqD d e)) H:=by
 unfold mEq at h
 split at h
 ·exact ⟨.non,.non,by unfold Rep;rfl,by unfold Rep;rfl,by unfold Ap;lia,by unfold eqD;exact h⟩
 ·rename_i a b;exact ⟨.bl a,.bl b,by unfold Rep;rfl,by unfold Rep;rfl,by unfold Ap;lia,by unfold eqD;exact h⟩
 ·rename_i a b;exact ⟨.int a,.int b,by unfold Rep;rfl,by unfold Rep;rfl,by unfold Ap;lia,by unfold eqD;exact h⟩
 ·rename_i a b;exact ⟨.str a,.str b,by unfold Rep;rfl,by unfold Rep;rfl,by unfold Ap;lia,by unfold eqD;exact h⟩
 ·exact h
theorem OM (hu:X.A.units+60 < cLine):OpR X (compareOp .Eq) (mEq false X.K):=(Ov hu).imp fun x y H Q h=>by
 obtain ⟨d,e,h1,h2,h3,q⟩:=IU h
 exact ⟨d,e,h1,h2,h3,by rw [Bool.false_xor] at q;exact q⟩
theorem Sf (hu:X.A.units+60 < cLine):OpR X (compareOp .NotEq) (mEq true X.K):=(Qs hu).imp fun x y H Q h=>by
 obtain ⟨d,e,h1,h2,h3,q⟩:=IU h
 exact ⟨d,e,h1,h2,h3,by rw [Bool.true_xor] at q;exact q⟩
end
section
variable {X:Cx} {a b c e:Expr} {es:List Expr} {ta tb tc te:TE} {tA tB':TT} {t:TA} {pos p:Pos} {x:Str}
noncomputable def isB (v:V) (Q:Bool->Prop):Prop:=match v with
 | .bl c=>Q c
 | _=>False
theorem Df {v:V} {Q:Bool->Prop} (h:isB v Q):∃ c,v=.bl c/\Q c:=by
 cases v <;> first | exact False.elim h | exact ⟨_,rfl,h⟩
noncomputable def AV (t:TE):Prop:=∀ σ H (Q Q':VK),(∀ v H,Q v H->Q' v H)->t σ H Q->t σ H Q'
noncomputable def uB (t:TE):TT:=fun σ H Q=>t σ H fun x H1=>isB x fun c=>Q c H1
theorem Ag {op:CmpOp} {r:R2} (ho:OpR X (compareOp op) r) (ha:PE X a ta) (hb:PE X b tb) (hm:behindInMarks op b=false:=by first | exact GH _ (by decide) (by decide) | rfl):PT X (.Compare a [op] [b] pos) (uB (tOp r ta tb)):=by
 intro pins s σ H Q I h
 refine wpAny_isTrue_Compare1 (thn (ha pins s σ H _ I h) fun v s1 ⟨x,H1,I1,r1,q1⟩=>thn (hb pins s1 σ H1 _ I1 q1) fun u s2 ⟨y,H2,I2,r2,q2⟩ =>
  thn (ho pins s2 σ H2 x y v u _ I2 r1 r2 q2) fun c s3 ⟨z,H3,I3,r3,q⟩=>?_) hm
 obtain ⟨k,e,q3⟩:=Df q
 subst e
 cases r3
 exact wpAny_truthy_bool ⟨H3,I3,q3⟩
theorem Bh {op:CmpOp} {r:R2} (ho:OpR X (compareOp op) r) (ha:PE X a ta) (hb:PE X b tb) (hm:behindInMarks op b=false:=by first | exact GH _ (by decide) (by decide) | rfl):PE X (.Compare a [op] [b] pos) (tOp r ta tb):=PR ho ha hb hm
theorem Cy (h:PE X e te) (he:∀ whole,isTrue e X.env whole=(do let v <- whole;standAt e.pos;holding [v] (truthy v)):=by intro _;rfl):PT X e (uB te):=by
 intro pins s σ H Q I hq
 refine isTrue_plain (thn (h pins s σ H _ I hq) fun v s1 ⟨x,H1,I1,r1,q1⟩=>?_) (he _)
 obtain ⟨k,e,q⟩:=Df q1
 subst e
 cases r1
 exact wpAny_truthy_bool ⟨H1,I1,q⟩
noncomputable def J8 (r r':R2) (ta tb tc:TE):TE:=fun σ H Q=>ta σ H fun x H1=>tb σ H1 fun y H2=>r x y H2 fun z H3=>isB z fun k =>
 (if k=true then tc σ H3 fun w' H4=>r' y w' H4 Q else Q (.bl false) H3)
theorem LK {op op':CmpOp} {r r':R2} (ho:OpR X (compareOp op) r) (ho':OpR X (compareOp op') r') (ha:PE X a ta) (hb:PE X b tb) (hc:PE X c tc)
 (hm:lastMarks [op,op'] [b,c]=false:=by with_unfolding_all rfl):PT X (.Compare a [op,op'] [b,c] pos) (uB (J8 r r' ta tb tc)):=by
 intro pins s σ H Q I h
 refine isTrue_chain (thn (ha pins s σ H _ I h) fun v s1 ⟨x,H1,I1,r1,q1⟩=>test_link (thn (hb pins s1 σ H1 _ I1 q1) fun u s2 ⟨y,H2,I2,r2,q2⟩ =>
  thn (ho pins s2 σ H2 x y v u _ I2 r1 r2 q2) fun d s3 ⟨z,H3,I3,r3,q⟩=>?_)) hm
 obtain ⟨k,e,q3⟩:=Df q
 subst e
 cases r3
 refine wpAny_truthy_bool ?_
 cases k with
 | false =>
  have q3:Q false H3:=q3
  exact ite_ff ⟨H3,I3,q3⟩
 | true =>
  refine ite_tt (test_last (thn (hc pins s3 σ H3 _ I3 q3) fun w' s4 ⟨z',H4,I4,r4,q4⟩=>thn (ho' pins s4 σ H4 y z' u w' _ I4 r2 r4 q4) fun d' s5 ⟨z2,H5,I5,r5,q5⟩=>?_))
  obtain ⟨k2,e2,q5⟩:=Df q5
  subst e2
  cases r5
  exact wpAny_truthy_bool ⟨H5,I5,q5⟩
noncomputable def Lv (ta tb:TE):TE:=fun σ H Q=>ta σ H fun x H1=>isB x fun c=>if c=true then tb σ H1 Q else Q (.bl false) H1
noncomputable def LY (ta:TE):TE:=fun σ H Q=>ta σ H fun x H1=>isB x fun c=>Q (.bl (!c)) H1
theorem Lg (ha:PE X a ta) (hb:PE X (.BoolOp .And (b::es) pos) tb):PE X (.BoolOp .And (a::b::es) pos) (Lv ta tb):=by
 have ha':PE X a (fun σ H Q=>ta σ H fun x H1=>isB x fun c=>Q (.bl c) H1):=fun pins s σ H Q I h=>thn (ha pins s σ H _ I h) fun v s1 ⟨x,H1,I1,r1,q1⟩=>by
  obtain ⟨c,e,q⟩:=Df q1
  subst e
  exact ⟨.bl c,H1,I1,r1,q⟩
 have h:=OW (pos:=pos) ha' hb
 exact h.imp fun σ H Q q=>by
  show ta σ H fun x H1=>isB x fun c=>∃ c',V.bl c=.bl c'/\if c'=true then tb σ H1 Q else Q (.bl false) H1
  have e:(fun (x:V) (H1:Hp)=>isB x fun c=>∃ c',V.bl c=.bl c'/\if c'=true then tb σ H1 Q else Q (.bl false) H1)=fun x H1=>isB x fun c=>if c=true then tb σ H1 Q else Q (.bl false) H1:=by
   funext x H1
   cases x <;> first | rfl | (apply propext;constructor;(rintro ⟨c',e,h⟩;cases e;exact h);(intro h;exact ⟨_,rfl,h⟩))
  rw [e]
  exact q
theorem P4 (ha:PE X a ta):PE X (.UnaryOp .Not a pos) (LY ta):=by
 have ha':PE X a (fun σ H Q=>ta σ H fun x H1=>isB x fun c=>Q (.bl c) H1):=fun pins s σ H Q I h=>thn (ha pins s σ H _ I h) fun v s1 ⟨x,H1,I1,r1,q1⟩=>by
  obtain ⟨c,e,q⟩:=Df q1
  subst e
  exact ⟨.bl c,H1,I1,r1,q⟩
 have h:=QU (pos:=pos) ha'
 exact h.imp fun σ H Q q=>by
  show ta σ H fun x H1=>isB x fun c=>∃ c',V.bl c=.bl c'/\Q (.bl (!c')) H1
  have e:(fun (x:V) (H1:Hp)=>isB x fun c=>∃ c',V.bl c=.bl c'/\Q (.bl (!c')) H1)=fun x H1=>isB x fun c=>Q (.bl (!c)) H1:=by
   funext x H1
   cases x <;> first | rfl | (apply propext;constructor;(rintro ⟨c',e,h⟩;cases e;exact h);(intro h;exact ⟨_,rfl,h⟩))
  rw [e]
  exact q
noncomputable def SqA (K:W.Frag) (H:Hp) (p:Addr) (xs:List V):Prop:=SqL K H p xs\/SqT K H p xs
noncomputable def mIx (K:W.Frag):R2:=fun x y H Q=>match x,y with
 | .ref p,.int i=>∃ xs v,SqA K H p xs/\atI xs i=some v/\Q v H
 | .str z,.int i=>∃ c,z.length<=sizeLine/\atI z.cps.toList i=some c/\Q (.str ⟨#[c]⟩) H
 | _,_=>False
theorem IxR.imp {r r':R2} (h:IxR X r) (g:∀ x y H Q,r' x y H Q->r x y H Q):IxR X r':=fun a b pins s σ H x y v u Q I rx ry q z=>h a b pins s σ H x y v u Q I rx ry (g _ _ _ _ q) z
theorem P9:IxR X (mIx X.K):=ix_seq.imp fun x y H Q q=>by
 cases x <;> cases y <;> first
  | exact False.elim q
  | (obtain ⟨xs,v,h | h,e,q⟩:=q
     ·exact .inl ⟨_,xs,_,v,rfl,rfl,h,e,q⟩
     ·exact .inr (.inl ⟨_,xs,_,v,rfl,rfl,h,e,q⟩))
  | (obtain ⟨c,hz,e,q⟩:=q
     exact .inr (.inr ⟨_,_,c,rfl,rfl,hz,e,q⟩))
theorem TQ (ha:PE X a ta) (hb:PE X b tb) (hs:IE b:=by intro _ _;rfl):PE X (.Subscript a b pos) (tOp (mIx X.K) ta tb):=RD P9 ha hb hs
noncomputable def Fq (K:W.Frag):List V->Hp->VK->Prop:=fun xs H Q=>match xs with
 | [x]=>∃ n,Jf K x H n/\Q (.int n) H
 | _=>False
theorem SR:CallR X (.builtin "len") (Fq X.K):=call_len.imp fun xs H Q q=>by
 match xs,q with
 | [x],⟨n,h,q⟩=>exact ⟨x,n,rfl,h,q⟩
noncomputable def Nr:List V->Hp->VK->Prop:=fun xs H Q=>match xs with
 | [.int i]=>Q (.int i) H
 | [.bl k]=>Q (.int (if k then 1 else 0)) H
 | _=>False
theorem KW:CallR X (.type "int") Nr:=call_int1.imp fun xs H Q q=>by
 match xs,q with
 | [.int i],q=>exact .inl ⟨i,rfl,q⟩
 | [.bl k],q=>exact .inr ⟨k,rfl,q⟩
noncomputable def FF (K:W.Frag):List V->Hp->VK->Prop:=fun xs H Q=>match xs with
 | [.ref p]=>∃ ys,(SqL K H p ys/\∀ l,H l=none->Q (.ref l) (upd H l (.tup ys)))\/(SqT K H p ys/\Q (.ref p) H)
 | _=>False
theorem SM:CallR X (.type "tuple") (FF X.K):=call_tuple_of.imp fun xs H Q q=>by
 match xs,q with
 | [.ref p],⟨ys,q⟩=>exact ⟨p,ys,rfl,q⟩
noncomputable def Jh (K:W.Frag):List V->Hp->VK->Prop:=fun xs H Q=>match xs with
 | [.ref p]=>∃ ys,SqA K H p ys/\∀ l,H l=none->Q (.ref l) (upd H l (.lst ys))
 | _=>False
theorem PH:CallR X (.type "list") (Jh X.K):=call_list_of.imp fun xs H Q q=>by
 match xs,q with
 | [.ref p],⟨ys,h,q⟩=>exact ⟨p,ys,rfl,h,q⟩
end
noncomputable def Fz (scope sc:Scope):Bool :=
 decide (scope.kind=.function) && decide (scope.names.map (·.1)).Nodup && scope.names.all fun y=>!(y.2 == .free) || (sc.names.lookup y.1 == some .cell || sc.names.lookup y.1 == some .free)
theorem CompScope.of {scope sc:Scope} (h:Fz scope sc=true):CompScope scope sc:=by
 unfold Fz at h
 rw [Bool.and_eq_true,Bool.and_eq_true] at h
 obtain ⟨⟨h1,h2⟩,h3⟩:=h
 refine ⟨of_decide_eq_true h1,of_decide_eq_true h2,fun y hy hf=>?_⟩
 have:=List.all_eq_true.mp h3 y hy
 rw [hf] at this
 rcases (Bool.or_eq_true _ _).mp this with z | z
 ·exact absurd z (by decide)
 ·rcases (Bool.or_eq_true _ _).mp z with z | z
  ·exact .inl (by simpa using z)
  ·exact .inr (by simpa using z)
section
variable {X:Cx} {tg iter elt:Expr} {ifs:List Expr} {scope:Scope} {pos:Pos} {N':List Str} {own:Nat} {ix:List Nat} {g:TG} {tc:TT} {te:TE} {wi:TI}
theorem frB {l:List Str} (h:(l.all fun x=>scope.names.lookup x == some .free)=true):∀ x∈l,scope.names.lookup x=some .free:=fun x hx=>by
 have:=List.all_eq_true.mp h x hx
 simpa using this
theorem A5 (hc:X.calm=true) (hi:PI X tg iter wi) (S:Fz scope X.env.scope=true)
 (hlen:N'.length=own+ix.length) (hN:(N'.drop own).map some=ix.map (X.N[·]?)) (hfr:((N'.drop own).all fun x=>scope.names.lookup x == some .free)=true)
 (hg:∀ c,PG (X.comp scope N' c) tg g) (hgo:Cm own g) (ht:∀ c,PTs (X.comp scope N' c) ifs tc) (he:∀ c,PE (X.comp scope N' c) elt te)
 (hs:∀ x,foldedSetIterable iter X.env x=pure x:=by intro _;rfl):PE X (.ListComp elt [⟨tg,iter,ifs,0⟩] scope pos) (Eg wi own ix g tc te) :=
 Oh hc hi (.of S) hlen hN (frB hfr) hg hgo ht he hs
theorem C3 {i:Nat} {y:Str} {py spos:Pos} (hc:X.calm=true) (hnd:X.N.Nodup) (hiy:X.N[i]? = some y) (hy:X.env.scope.names.lookup y=some .local) (hi:PI X tg iter wi) (S:Fz scope X.env.scope=true)
 (hlen:N'.length=own+ix.length) (hN:(N'.drop own).map some=ix.map (X.N[·]?)) (hfr:((N'.drop own).all fun x=>scope.names.lookup x == some .free)=true)
 (hg:∀ c,PG (X.comp scope N' c) tg g) (hgo:Cm own g) (ht:∀ c,PTs (X.comp scope N' c) ifs tc) (he:∀ c,PE (X.comp scope N' c) elt te)
 (hsw:swapsWith (.ListComp elt [⟨tg,iter,ifs,0⟩] scope pos) (some (.Name y py)) spos.line X.env=pure true)
 (hs:∀ x,foldedSetIterable iter X.env x=pure x:=by intro _;rfl):PS X (.Assign [.Name y py] (.ListComp elt [⟨tg,iter,ifs,0⟩] scope pos) spos) (Dg (Eg wi own ix g tc te) (AR i)) :=
 SJ hc hnd hiy hy hi (.of S) hlen hN (frB hfr) hg hgo ht he hsw hs
noncomputable def Hs (K:W.Frag) (tl:TE):TI:=fun σ H R=>tl σ H fun x H1=>match x with
 | .ref a=>((∃ xs,SqL K H1 a xs)/\R (Itl K a) H1)\/((∃ xs,SqT K H1 a xs)/\R (Itt K a) H1)
 | _=>False
theorem OK {l:Expr} {tl:TE} (hl:PE X l tl):PI X tg l (Hs X.K tl):=by
 intro pins s σ H R I h
 refine thn (hl pins s σ H _ I h) fun v s1 ⟨x,H1,I1,r1,q1⟩=>?_
 cases x with
 | ref a =>
  cases r1
  rcases q1 with ⟨⟨xs,hq⟩,q⟩ | ⟨⟨xs,hq⟩,q⟩
  ·obtain ⟨its,rv,p,hz⟩:=I1.list hq
   refine wpAny_pyIter_list p.isList ?_
   refine ⟨s1.heap.objs.size,[s1.heap.objs.size],_,_,H1,rfl,I1.kept (t':=s1.toks) fun b o e=>Heap.get?_push_of_some _ e,Pp a _,⟨_,Heap.get?_push_size _ rfl,rfl,rfl⟩,fun b hb=>?_,q⟩
   have e:b=s1.heap.objs.size:=by simpa using hb
   subst e
   exact I1.fpOk (Nat.le_refl _) (I1.hok.fresh (Nat.le_refl _))
  ·obtain ⟨its,rv,p,hz⟩:=I1.tuple hq
   refine wpAny_pyIter_tuple (show s1.heap.IsTuple a its.toArray from p) ?_
   refine ⟨s1.heap.objs.size,[s1.heap.objs.size],_,_,H1,rfl,I1.kept (t':=s1.toks) fun b o e=>Heap.get?_push_of_some _ e,OZ a _,⟨_,Heap.get?_push_size _ rfl,rfl,rfl⟩,fun b hb=>?_,q⟩
   have e:b=s1.heap.objs.size:=by simpa using hb
   subst e
   exact I1.fpOk (Nat.le_refl _) (I1.hok.fresh (Nat.le_refl _))
 | _=>exact False.elim q1
noncomputable def Gh:Dt:=fun o i v H Q=>match o,i with
 | .ref p,.int k=>∃ xs j,H p=some (.lst xs)/\ixN xs.length k=some j/\Q (upd H p (.lst (xs.set j v)))
 | _,_=>False
theorem ED:He X Gh:=by
 intro pins s σ H o i v ov iv u Q I ro ri rv h
 cases o <;> cases i <;> first
  | exact False.elim h
  | (obtain ⟨xs,j,h1,h2,q⟩:=h
     exact Tt pins s σ H _ _ v ov iv u Q I ro ri rv ⟨_,xs,_,j,rfl,rfl,h1,h2,q⟩)
theorem DK {K:W.Frag} {a:Addr} {xs:List V} {σc:St} {Q:VK} {H:Hp} (Pv:Nat->List V->Hp->Prop) (h0:Pv 0 [] H) (hl:∀ i ys H,i<=xs.length->Pv i ys H->SqL K H a xs) (hz:∀ i ys H,i < xs.length->Pv i ys H->ys.length < sizeLine)
 (hs:∀ i x ys H,xs[i]? = some x->Pv i ys H->g x σc H fun σ2 H2=>tc σ2 H2 fun b H3=>if b=true then te σ2 H3 fun y H4=>Pv (i+1) (ys++[y]) H4 else Pv (i+1) ys H3)
 (hd:∀ ys H,Pv xs.length ys H->∀ p,H p=none->Q (.ref p) (upd H p (.lst ys))):CY (Itl K a) g tc te σc Q H:=by
 refine ⟨fun i m ys H=>m=xs.length - i/\i<=xs.length/\Pv i ys H,⟨xs.length,by simp,Nat.zero_le _,h0⟩,?_⟩
 rintro i m ys H ⟨rfl,hi,p⟩
 have q:=hl i ys H hi p
 by_cases hlt:i < xs.length
 ·refine .inr ⟨⟨xs,xs[i],q,by simp [hlt]⟩,hz i ys H hlt p,Pv (i+1),fun ys' H' p'=>⟨xs.length - (i+1),by lia,rfl,hlt,p'⟩,fun x H' y=>?_⟩
  obtain ⟨e,y⟩:=y
  subst e
  exact hs i x ys _ (y xs q) p
 ·have e:i=xs.length:=by lia
  subst e
  exact .inl ⟨⟨xs,q,Nat.le_refl _⟩,hd ys H p⟩
theorem Ea {K:W.Frag} {a:Addr} {xs:List V} {σc:St} {Q:VK} {H:Hp} (Pv:Nat->List V->Hp->Prop) (h0:Pv 0 [] H) (hl:∀ i ys H,i<=xs.length->Pv i ys H->SqT K H a xs) (hz:∀ i ys H,i < xs.length->Pv i ys H->ys.length < sizeLine)
 (hs:∀ i x ys H,xs[i]? = some x->Pv i ys H->g x σc H fun σ2 H2=>tc σ2 H2 fun b H3=>if b=true then te σ2 H3 fun y H4=>Pv (i+1) (ys++[y]) H4 else Pv (i+1) ys H3)
 (hd:∀ ys H,Pv xs.length ys H->∀ p,H p=none->Q (.ref p) (upd H p (.lst ys))):CY (Itt K a) g tc te σc Q H:=by
 refine ⟨fun i m ys H=>m=xs.length - i/\i<=xs.length/\Pv i ys H,⟨xs.length,by simp,Nat.zero_le _,h0⟩,?_⟩
 rintro i m ys H ⟨rfl,hi,p⟩
 have q:=hl i ys H hi p
 by_cases hlt:i < xs.length
 ·refine .inr ⟨⟨xs,xs[i],q,by simp [hlt]⟩,hz i ys H hlt p,Pv (i+1),fun ys' H' p'=>⟨xs.length - (i+1),by lia,rfl,hlt,p'⟩,fun x H' y=>?_⟩
  obtain ⟨e,y⟩:=y
  subst e
  exact hs i x ys _ (y xs q) p
 ·have e:i=xs.length:=by lia
  subst e
  exact .inl ⟨⟨xs,q,Nat.le_refl _⟩,hd ys H p⟩
theorem BU {lo:Int} {n:Nat} {σc:St} {Q:VK} {H:Hp} (Pv:Nat->List V->Hp->Prop) (h0:Pv 0 [] H) (hz:∀ i ys H,i < n->Pv i ys H->ys.length < sizeLine)
 (hs:∀ i ys H,i < n->Pv i ys H->g (.int (lo+i)) σc H fun σ2 H2=>tc σ2 H2 fun b H3=>if b=true then te σ2 H3 fun y H4=>Pv (i+1) (ys++[y]) H4 else Pv (i+1) ys H3)
 (hd:∀ ys H,Pv n ys H->∀ p,H p=none->Q (.ref p) (upd H p (.lst ys))):CY (Itr lo n) g tc te σc Q H:=by
 refine ⟨fun i m ys H=>m=n - i/\i<=n/\Pv i ys H,⟨n,by simp,Nat.zero_le _,h0⟩,?_⟩
 rintro i m ys H ⟨rfl,hi,p⟩
 by_cases hlt:i < n
 ·refine .inr ⟨hlt,hz i ys H hlt p,Pv (i+1),fun ys' H' p'=>⟨n - (i+1),by lia,rfl,hlt,p'⟩,fun x H' y=>?_⟩
  obtain ⟨e,y⟩:=y
  subst e y
  exact hs i ys _ hlt p
 ·have e:i=n:=by lia
  subst e
  exact .inl ⟨Nat.le_refl _,hd ys H p⟩
noncomputable def Io (c:TT) (tb:TS):TS:=fun D σ H=>∃ W:Nat->St->Hp->Prop,(∃ m,W m σ H)/\∀ m σ H,W m σ H ->
 c σ H fun b H1=>if b=true then tb { D with nx:=fun σ' H'=>∃ m',m' < m/\W m' σ' H',ct:=fun σ' H'=>∃ m',m' < m/\W m' σ' H',bk:=D.nx } σ H1 else D.nx σ H1
theorem Gz {c:Expr} {body:List Stmt} {tc:TT} {tb:TS} (hp:PassesOwn (model X.prog X.w) X.A X.env X.xe) (hc:PT X c tc) (hb:PSs X body tb):PS X (.While c body [] pos) (Io tc tb):=by
 intro pins s σ H D I h
 obtain ⟨W,⟨m0,w0⟩,turn⟩:=h
 refine wpAny_While (codeAny_whileLoop (fun n s'=>∃ σ' H',Inv X pins σ' H' s'/\W n σ' H') ?_ m0 ⟨σ,H,I,w0⟩)
 rintro n s1 ⟨σ1,H1,I1,w1⟩
 refine wpAny_passesOwn hp (thn (hc pins s1 σ1 H1 _ I1 (turn n σ1 H1 w1)) fun b s2 ⟨H2,I2,q2⟩=>?_)
 cases b with
 | true =>
  rw [if_pos rfl] at q2
  rw [if_pos rfl]
  refine wpAny_passesOwn hp (thn (hb pins s2 σ1 H2 _ I2 q2) fun f s3 q3=>?_)
  cases f with
  | next =>
   obtain ⟨σ3,H3,I3,m',hm,w3⟩:=q3
   exact ⟨m',hm,σ3,H3,I3,w3⟩
  | cont =>
   obtain ⟨σ3,H3,I3,m',hm,w3⟩:=q3
   exact ⟨m',hm,σ3,H3,I3,w3⟩
  | brk=>exact q3
  | ret v=>exact q3
 | false =>
  rw [if_neg Bool.false_ne_true] at q2
  rw [if_neg Bool.false_ne_true]
  exact wpAny_execs_nil ⟨σ1,H2,I2,q2⟩
end
theorem AZ {A:Around} {k:Nat} (hr:Room k A):A.units+60 < cLine:=by have:=hr.un;lia
noncomputable def Frm (t:Addr) (H H':Hp):Prop:=∀ b o,b≠t->H b=some o->H' b=some o
theorem Frm.refl {t:Addr} {H:Hp}:Frm t H H:=fun _ _ _ h=>h
theorem Frm.trans {t:Addr} {H H1 H2:Hp} (a:Frm t H H1) (b:Frm t H1 H2):Frm t H H2:=fun c o n h=>b c o n (a c o n h)
theorem Frm.upd {t p:Addr} {H:Hp} {o:HO} (h:H p=none):Frm t H (upd H p o):=fun b u _ e=>by rw [AJ (BL e h)];exact e
theorem Frm.updT {t:Addr} {H:Hp} {o:HO}:Frm t H (L2.upd H t o):=fun b u n e=>by rw [AJ n];exact e
theorem Same.upd {p:Addr} {H:Hp} {o:HO} (h:H p=none):Same H (L2.upd H p o):=fun b u e=>by rw [AJ (BL e h)];exact e
theorem K4 {K:W.Frag} {H H':Hp} {a:Addr} {xs:List V} (h:SqL K H a xs) (k:∀ o,H a=some o->H' a=some o):SqL K H' a xs:=by
 rcases h with (h | ⟨o,h⟩) | h
 ·exact .inl (.inl (k _ h))
 ·exact .inl (.inr ⟨o,k _ h⟩)
 ·exact .inr h
theorem FW {K:W.Frag} {H H':Hp} {a:Addr} {xs:List V} (h:SqT K H a xs) (k:∀ o,H a=some o->H' a=some o):SqT K H' a xs:=by
 rcases h with (h | ⟨o,h⟩) | h
 ·exact .inl (.inl (k _ h))
 ·exact .inl (.inr ⟨o,k _ h⟩)
 ·exact .inr h
noncomputable def ScrAt (K:W.Frag) (H:Hp) (t a:Addr) (ns:List Int):Prop :=
 (Rd H a (.lst (ns.map V.int))/\a≠t)\/∃ (o:Obj) (its:Array Value) (n:Nat),K.lookup a=some o/\o.cls=.type "list" /\ o.dict=none/\o.data=.seq its n/\its.size<=sizeLine/\Vals (ns.map V.int) its.toList
theorem ScrAt.stay {K:W.Frag} {H H':Hp} {t a:Addr} {ns:List Int} (h:ScrAt K H t a ns) (k:∀ o,a≠t->H a=some o->H' a=some o):ScrAt K H' t a ns:=by
 rcases h with ⟨h | ⟨o,h⟩,n⟩ | h
 ·exact .inl ⟨.inl (k _ n h),n⟩
 ·exact .inl ⟨.inr ⟨o,k _ n h⟩,n⟩
 ·exact .inr h
theorem ScrAt.of {K:W.Frag} {H:Hp} {t a:Addr} {ns:List Int} (h:SqL K H a (ns.map V.int)) (ht:H t=none):ScrAt K H t a ns:=by
 rcases h with h | h
 ·refine .inl ⟨h,fun e=>?_⟩
  subst e
  rcases h with h | ⟨o,h⟩ <;> rw [ht] at h <;> cases h
 ·exact .inr h
structure Tape (K:W.Frag) (H:Hp) (t a:Addr) (ns:List Int):Prop where
 at_:∃ i r c:Int,0<=i/\0<=r/\H t=some (.lst [.ref a,.int i,.int r,.int c])
 scr:ScrAt K H t a ns
theorem Tape.same {K:W.Frag} {H H':Hp} {t a:Addr} {ns:List Int} (T:Tape K H t a ns) (h:Same H H'):Tape K H' t a ns:=by
 obtain ⟨i,r,c,h1,h2,h3⟩:=T.at_
 exact ⟨⟨i,r,c,h1,h2,h _ _ h3⟩,T.scr.stay fun o _ e=>h a o e⟩
theorem Tape.upd {K:W.Frag} {H:Hp} {t a p:Addr} {o:HO} {ns:List Int} (T:Tape K H t a ns) (h:H p=none):Tape K (L2.upd H p o) t a ns:=T.same (Same.upd h)
theorem Tape.free {K:W.Frag} {H H':Hp} {t a p:Addr} {ns:List Int} (T:Tape K H' t a ns) (h:Frm t H H') (hp:H' p=none):H p=none:=by
 cases e:H p with
 | none=>rfl
 | some o =>
  by_cases hpt:p=t
  ·subst hpt
   obtain ⟨i,r,c,_,_,h3⟩:=T.at_
   rw [h3] at hp;cases hp
  ·rw [h p o hpt e] at hp;cases hp
theorem BI {xs:List V} {i:Int} {n:Nat} {v:V} (h:i=(n:Int)) (hx:xs[n]? = some v):atI xs i=some v:=by
 subst h
 have hn:n < xs.length:=(List.getElem?_eq_some_iff.mp hx).1
 unfold atI ixN
 rw [if_pos (Int.natCast_nonneg n),if_pos (by lia)]
 simpa using hx
theorem Rv {ns:List Int} {i:Int} (h0:0<=i) (h1:i < ns.length):∃ z,atI (ns.map V.int) i=some (.int z):=by
 obtain ⟨n,rfl⟩:=Int.eq_ofNat_of_zero_le h0
 have hn:n < ns.length:=by lia
 exact ⟨ns[n],BI rfl (by rw [List.getElem?_map,List.getElem?_eq_getElem hn];rfl)⟩
theorem Am {j:Int} (h1:0 < j) (h2:j<=2 ^ 1000):okDiv j:=⟨h1,Int.lt_of_le_of_lt h2 (by decide)⟩
theorem Ae {n:Nat} (h:n<=1000):n<=sizeLine:=Nat.le_of_lt (Aj h)
noncomputable def Bx (t:TT):Prop:=∀ σ H (Q Q':Bool->Hp->Prop),(∀ b H,Q b H->Q' b H)->t σ H Q->t σ H Q'
noncomputable def Bg (t:TA):Prop:=∀ σ H (Q Q':List V->Hp->Prop),(∀ b H,Q b H->Q' b H)->t σ H Q->t σ H Q'
noncomputable def BS (r:R2):Prop:=∀ x y H (Q Q':VK),(∀ v H,Q v H->Q' v H)->r x y H Q->r x y H Q'
noncomputable def Il (r:V->Hp->VK->Prop):Prop:=∀ x H (Q Q':VK),(∀ v H,Q v H->Q' v H)->r x H Q->r x H Q'
noncomputable def GU (r:List V->Hp->VK->Prop):Prop:=∀ xs H (Q Q':VK),(∀ v H,Q v H->Q' v H)->r xs H Q->r xs H Q'
noncomputable def C6 (r:V->List V->Hp->VK->Prop):Prop:=∀ x xs H (Q Q':VK),(∀ v H,Q v H->Q' v H)->r x xs H Q->r x xs H Q'
noncomputable def Ac (sp:Sp):Prop:=∀ vs H (Q Q':VK) E,(∀ v H,Q v H->Q' v H)->sp vs H Q E->sp vs H Q' E
noncomputable def Du (t:TI):Prop:=∀ σ H (Q Q':It->Hp->Prop),(∀ J H,Q J H->Q' J H)->t σ H Q->t σ H Q'
noncomputable def Lk (t:Dt):Prop:=∀ o i v H (Q Q':Hp->Prop),(∀ H,Q H->Q' H)->t o i v H Q->t o i v H Q'
structure Ends.le (D D':Ends):Prop where
 nx:∀ σ H,D.nx σ H->D'.nx σ H
 rt:∀ v H,D.rt v H->D'.rt v H
 bk:∀ σ H,D.bk σ H->D'.bk σ H
 ct:∀ σ H,D.ct σ H->D'.ct σ H
noncomputable def BP (t:TS):Prop:=∀ D D' σ H,Ends.le D D'->t D σ H->t D' σ H
theorem Qj {i:Nat}:AV (E2 i):=fun σ H Q Q' h q=>by
 unfold E2 at *
 split at q
 ·exact h _ _ q
 ·exact q.elim
theorem T2 {v:V}:AV (tC v):=fun _ _ _ _ h q=>h _ _ q
theorem Pl {r:R2} {ta tb:TE} (hr:BS r) (ha:AV ta) (hb:AV tb):AV (tOp r ta tb):=fun σ H Q Q' h q=>ha _ _ _ _ (fun _ _ q=>hb _ _ _ _ (fun _ _ q=>hr _ _ _ _ _ h q) q) q
theorem T1 {r:V->Hp->VK->Prop} {ta:TE} (hr:Il r) (ha:AV ta):AV (tUn r ta):=fun σ H Q Q' h q=>ha _ _ _ _ (fun _ _ q=>hr _ _ _ _ h q) q
theorem Ni {K}:BS (DT K):=fun x y H Q Q' h q=>by
 unfold DT at *
 split at q
 ·exact h _ _ q
 ·exact ⟨q.1,h _ _ q.2⟩
 ·rcases q with ⟨l,b,xs,zs,e1,e2,h1,h2,h3,q⟩ | ⟨a,b,xs,ys,e1,e2,h1,h2,h3,h4,q1,q2⟩
  ·exact .inl ⟨l,b,xs,zs,e1,e2,h1,h2,h3,fun p hp=>h _ _ (q p hp)⟩
  ·exact .inr ⟨a,b,xs,ys,e1,e2,h1,h2,h3,h4,fun e=>h _ _ (q1 e),fun e p hp=>h _ _ (q2 e p hp)⟩
 ·exact q.elim
theorem Re:BS Ge:=fun x y H Q Q' h q=>by
 unfold Ge at *
 split at q
 ·exact ⟨q.1,h _ _ q.2⟩
 ·obtain ⟨l,k,xs,e1,e2,h1,h2,h3,h4,q⟩:=q
  exact ⟨l,k,xs,e1,e2,h1,h2,h3,h4,fun p hp=>h _ _ (q p hp)⟩
 ·exact q.elim
theorem SB:BS GX:=fun x y H Q Q' h q=>by unfold GX at *;split at q <;> first | exact ⟨q.1,h _ _ q.2⟩ | exact q.elim
theorem Mi:BS GL:=fun x y H Q Q' h q=>by unfold GL at *;split at q <;> first | exact ⟨q.1,h _ _ q.2⟩ | exact q.elim
theorem PQ:BS GV:=fun x y H Q Q' h q=>by unfold GV at *;split at q <;> first | exact ⟨q.1,h _ _ q.2⟩ | exact q.elim
theorem SK:BS IH:=fun x y H Q Q' h q=>by unfold IH at *;split at q <;> first | exact ⟨q.1,h _ _ q.2⟩ | exact q.elim
theorem Ta:Il GR:=fun x H Q Q' h q=>by unfold GR at *;split at q <;> first | exact h _ _ q | exact q.elim
theorem N1 {p}:BS (EB p):=fun x y H Q Q' h q=>by unfold EB at *;split at q <;> first | exact h _ _ q | exact q.elim
theorem SH {n K}:BS (mEq n K):=fun x y H Q Q' h q=>by
 unfold mEq at *
 split at q <;> first | exact h _ _ q | (obtain ⟨d,e,h1,h2,h3,q⟩:=q;exact ⟨d,e,h1,h2,h3,h _ _ q⟩)
theorem Te {K}:BS (mIx K):=fun x y H Q Q' h q=>by
 unfold mIx at *
 split at q
 ·obtain ⟨xs,v,h1,h2,q⟩:=q;exact ⟨xs,v,h1,h2,h _ _ q⟩
 ·obtain ⟨c,h1,h2,q⟩:=q;exact ⟨c,h1,h2,h _ _ q⟩
 ·exact q.elim
theorem FK {v:V} {Q Q':Bool->Prop} (h:∀ b,Q b->Q' b) (q:isB v Q):isB v Q':=by
 cases v <;> first | exact h _ q | exact q
theorem Si {t:TE} (h:AV t):Bx (uB t):=fun σ H Q Q' k q=>h _ _ _ _ (fun _ _ q=>FK (fun b q=>k b _ q) q) q
theorem PM {r r':R2} {ta tb tc:TE} (hr:BS r) (hr':BS r') (ha:AV ta) (hb:AV tb) (hc:AV tc):AV (J8 r r' ta tb tc):=fun σ H Q Q' h q =>
 ha _ _ _ _ (fun _ _ q=>hb _ _ _ _ (fun _ _ q=>hr _ _ _ _ _ (fun _ _ q=>FK (fun b q=>by
  split
  ·rename_i e;rw [if_pos e] at q;exact hc _ _ _ _ (fun _ _ q=>hr' _ _ _ _ _ h q) q
  ·rename_i e;rw [if_neg e] at q;exact h _ _ q) q) q) q) q
theorem Ry {ta tb:TE} (ha:AV ta) (hb:AV tb):AV (Lv ta tb):=fun σ H Q Q' h q=>ha _ _ _ _ (fun _ _ q=>FK (fun b q=>by
 split
 ·rename_i e;rw [if_pos e] at q;exact hb _ _ _ _ h q
 ·rename_i e;rw [if_neg e] at q;exact h _ _ q) q) q
theorem UI {ta:TE} (ha:AV ta):AV (LY ta):=fun σ H Q Q' h q=>ha _ _ _ _ (fun _ _ q=>FK (fun b q=>h _ _ q) q) q
theorem Oo {t:TT} {ta tb:TE} (ht:Bx t) (ha:AV ta) (hb:AV tb):AV (tIf t ta tb):=fun σ H Q Q' h q=>ht _ _ _ _ (fun b _ q=>by
 cases b with
 | true=>exact ha _ _ _ _ h q
 | false=>exact hb _ _ _ _ h q) q
theorem RJ {t u:TT} (ht:Bx t) (hu:Bx u):Bx (Kr t u):=fun σ H Q Q' h q=>ht _ _ _ _ (fun b _ q=>by
 cases b with
 | true=>exact hu _ _ _ _ h q
 | false=>exact h _ _ q) q
theorem QT {t u:TT} (ht:Bx t) (hu:Bx u):Bx (tOr t u):=fun σ H Q Q' h q=>ht _ _ _ _ (fun b _ q=>by
 cases b with
 | true=>exact h _ _ q
 | false=>exact hu _ _ _ _ h q) q
theorem RF {t:TT} (ht:Bx t):Bx (JO t):=fun σ H Q Q' h q=>ht _ _ _ _ (fun b _ q=>h _ _ q) q
theorem NE:Bg E3:=fun _ _ _ _ h q=>h _ _ q
theorem Rq {ta:TE} {t:TA} (ha:AV ta) (ht:Bg t):Bg (IG ta t):=fun σ H Q Q' h q=>ha _ _ _ _ (fun _ _ q=>ht _ _ _ _ (fun _ _ q=>h _ _ q) q) q
theorem SI {r} {t:TA} (hr:GU r) (ht:Bg t):AV (tCB r t):=fun σ H Q Q' h q=>ht _ _ _ _ (fun _ _ q=>hr _ _ _ _ h q) q
theorem Op {sp dvs E} {t:TA} (hs:Ac sp) (ht:Bg t):AV (Kb sp dvs E t):=fun σ H Q Q' h q=>ht _ _ _ _ (fun _ _ q=>hs _ _ _ _ _ h q) q
theorem Oy {t:TA} (ht:Bg t):AV (Lu t):=fun σ H Q Q' h q=>ht _ _ _ _ (fun _ _ q=>⟨q.1,fun p hp=>h _ _ (q.2 p hp)⟩) q
theorem QC {t:TA} (ht:Bg t):AV (Lp t):=fun σ H Q Q' h q=>ht _ _ _ _ (fun _ _ q=>⟨q.1,fun p hp=>h _ _ (q.2 p hp)⟩) q
theorem Ri {wi own ix g tc te} (hi:Du wi):AV (Eg wi own ix g tc te):=fun σ H Q Q' h q=>hi _ _ _ _ (fun J H1 q=>by
 obtain ⟨W,w0,turn⟩:=q
 refine ⟨W,w0,fun i m ys H w=>?_⟩
 rcases turn i m ys H w with ⟨a,b⟩ | r
 ·exact .inl ⟨a,fun p hp=>h _ _ (b p hp)⟩
 ·exact .inr r) q
theorem Rj {K}:GU (Fq K):=fun xs H Q Q' h q=>by unfold Fq at *;split at q <;> first | (obtain ⟨n,a,q⟩:=q;exact ⟨n,a,h _ _ q⟩) | exact q.elim
theorem UP {K}:GU (FF K):=fun xs H Q Q' h q=>by
 unfold FF at *
 split at q
 ·obtain ⟨ys,⟨a,q⟩ | ⟨a,q⟩⟩:=q
  ·exact ⟨ys,.inl ⟨a,fun l hl=>h _ _ (q l hl)⟩⟩
  ·exact ⟨ys,.inr ⟨a,h _ _ q⟩⟩
 ·exact q.elim
theorem Tj {K} {tl:TE} (h:AV tl):Du (Hs K tl):=fun σ H Q Q' k q=>h _ _ _ _ (fun v H1 q=>by
 cases v <;> first | exact q.elim | (rcases q with ⟨a,q⟩ | ⟨a,q⟩
                                     ·exact .inl ⟨a,k _ _ q⟩
                                     ·exact .inr ⟨a,k _ _ q⟩)) q
theorem P7 {ta:TA} (h:Bg ta):Du (LL ta):=fun σ H Q Q' k q=>h _ _ _ _ (fun _ _ ⟨j,e,a,b,q⟩=>⟨j,e,a,b,k _ _ q⟩) q
theorem OL {ta:TA} (h:Bg ta):Du (K6 ta):=fun σ H Q Q' k q=>h _ _ _ _ (fun _ _ ⟨i,j,e,a,q⟩=>⟨i,j,e,a,k _ _ q⟩) q
theorem ON:Lk Gh:=fun o i v H Q Q' h q=>by
 unfold Gh at *
 split at q
 ·obtain ⟨xs,j,a,b,q⟩:=q;exact ⟨xs,j,a,b,h _ q⟩
 ·exact q.elim
theorem Tg {to ti:TE} {t:Dt} (h1:AV to) (h2:AV ti) (h3:Lk t):Cr (MU to ti t):=fun v σ H Q Q' h q=>h1 _ _ _ _ (fun _ _ q=>h2 _ _ _ _ (fun _ _ q=>h3 _ _ _ _ _ _ (fun H q=>h _ _ q) q) q) q
theorem QA:BP Bj:=fun D D' σ H h q=>h.nx _ _ q
theorem US:BP JB:=fun D D' σ H h q=>q
theorem Qb {t u:TS} (h1:BP t) (h2:BP u):BP (GI t u):=fun D D' σ H h q=>h1 { D with nx:=u D } { D' with nx:=u D' } σ H ⟨fun σ H q=>h2 D D' σ H h q,h.rt,h.bk,h.ct⟩ q
theorem TN {te:TE} {g:TG} (h1:AV te) (h2:Cr g):BP (Dg te g):=fun D D' σ H h q=>h1 _ _ _ _ (fun _ _ q=>h2 _ _ _ _ _ h.nx q) q
theorem RM {te:TE} (h1:AV te):BP (LU te):=fun D D' σ H h q=>h1 _ _ _ _ h.rt q
theorem M0 {te:TE} (h1:AV te):BP (Hx te):=fun D D' σ H h q=>h1 _ _ _ _ (fun _ _ q=>h.nx _ _ q) q
theorem TY {c:TT} {t u:TS} (hc:Bx c) (h1:BP t) (h2:BP u):BP (JQ c t u):=fun D D' σ H h q=>hc _ _ _ _ (fun b _ q=>by
 cases b with
 | true=>exact h1 _ _ _ _ h q
 | false=>exact h2 _ _ _ _ h q) q
theorem UT {c:TT} {tb:TS} (hc:Bx c) (h1:BP tb):BP (Io c tb):=fun D D' σ H h q=>by
 obtain ⟨W,w0,turn⟩:=q
 refine ⟨W,w0,fun m σ H w=>hc _ _ _ _ (fun b H1 q=>?_) (turn m σ H w)⟩
 cases b with
 | true=>exact h1 { D with nx:=fun σ' H'=>∃ m',m' < m/\W m' σ' H',ct:=fun σ' H'=>∃ m',m' < m/\W m' σ' H',bk:=D.nx } _ _ _ ⟨fun _ _ q=>q,h.rt,h.nx,fun _ _ q=>q⟩ q
 | false=>exact h.nx _ _ q
theorem Sm {wi:TI} {g:TG} {tb:TS} (hi:Du wi) (hg:Cr g) (h1:BP tb):BP (MK wi g tb):=fun D D' σ H h q=>hi _ _ _ _ (fun J H1 q=>by
 obtain ⟨W,w0,turn⟩:=q
 refine ⟨W,w0,fun i m σ H w=>?_⟩
 rcases turn i m σ H w with ⟨a,b⟩ | ⟨a,N,hN,step⟩
 ·exact .inl ⟨a,h.nx _ _ b⟩
 ·exact .inr ⟨a,N,hN,fun x H' y=>hg _ _ _ _ _ (fun σ2 H2 q=>h1 { D with nx:=N,ct:=N,bk:=D.nx } _ _ _ ⟨fun _ _ q=>q,h.rt,h.nx,fun _ _ q=>q⟩ q) (step x H' y)⟩) q
theorem Ak {t u:TS} {D:Ends} {σ:St} {H:Hp} (J:St->Hp->Prop) (h1:t { D with nx:=J } σ H) (h2:∀ σ' H',J σ' H'->u D σ' H') (hm:BP t):GI t u D σ H :=
 hm { D with nx:=J } { D with nx:=u D } σ H ⟨h2,fun _ _ q=>q,fun _ _ q=>q,fun _ _ q=>q⟩ h1
section
variable {X:Cx} {K:W.Frag} {a b c e l tg:Expr} {es:List Expr} {ta tb tc te tl:TE} {pos p:Pos}
theorem BG (hK:X.K=K:=by rfl):OpR X (binaryOp .Add) (DT K):=hK ▸ SG
theorem kEq (hu:X.A.units+60 < cLine) (hK:X.K=K:=by rfl):OpR X (compareOp .Eq) (mEq false K):=hK ▸ OM hu
theorem kNe (hu:X.A.units+60 < cLine) (hK:X.K=K:=by rfl):OpR X (compareOp .NotEq) (mEq true K):=hK ▸ Sf hu
theorem kIx (ha:PE X a ta) (hb:PE X b tb) (hs:IE b:=by intro _ _;rfl) (hK:X.K=K:=by rfl):PE X (.Subscript a b pos) (tOp (mIx K) ta tb):=hK ▸ TQ ha hb hs
theorem Az (hK:X.K=K:=by rfl):CallR X (.builtin "len") (Fq K):=hK ▸ SR
theorem BB (hK:X.K=K:=by rfl):CallR X (.type "tuple") (FF K):=hK ▸ SM
theorem IS (hK:X.K=K:=by rfl):CallR X (.type "list") (Jh K):=hK ▸ PH
theorem B6 (hl:PE X l tl) (hK:X.K=K:=by rfl):PI X tg l (Hs K tl):=hK ▸ OK hl
theorem FR {es:List Expr} {k:Nat} {t:TGs} {n:Nat} (hc:X.calm=true) (h:PGs X es t)
 (hn:(assignEach es X.env).length=n:=by rfl) (hst:(assignEach es X.env).findIdx? (·.1)=none:=by rfl) (hK:X.K=K:=by rfl):PG X (.Tuple es k pos) (HB K n t):=hK ▸ Lm hc h hn hst
end
theorem Inv.turnedNew {X:Cx} {pins:List (Addr × Obj)} {σ:St} {H:Hp} {s:Shared} {h':Heap} {ch:List Addr} {T:Addr} {o:HO} (I:Inv X pins σ H s) (hf:∀ b∈ch,BE X pins H b) (hT:s.heap.objs.size<=T)
 (k:∀ b u,b∉ch->s.heap.get? b=some u->h'.get? b=some u) (new:ObjOk X.prog X.w (upd H T o) h' T o) (th:∀ b∈ch,∃ u,h'.get? b=some u):Inv X pins σ (upd H T o) { s with heap:=h' }:=by
 have hTn:H T=none:=I.hok.fresh hT
 have nT:∀ b u,H b=some u->b≠T:=fun b u e z=>by rw [z,hTn] at e;cases e
 have nc:∀ b u,H b=some u->b∉ch:=fun b u e z=>by rw [(hf b z).1] at e;cases e
 refine I.step (g':=s.gens) (d':=s.drawn) (t':=s.toks) (ch:=ch) (fun b hb=>?_) (fun b u _ _ hc e _=>k b u hc e) (fun b u _ _ hc e _=>⟨u.slots,k b u hc e⟩) (fun b u hc e n=>?_) (fun b u hc e=>⟨u,k b u hc e⟩)
  (fun b xs e=>by rw [AJ (nT _ _ e)];exact e) (fun b u v e=>by rw [AJ (nT _ _ e)];exact e) (fun b ps e=>⟨#[],by rw [AJ (nT _ _ e),e];simp⟩) (fun m hm=>?_) (fun b u e=>?_) I.bare
 ·obtain ⟨q1,q2,q3,q4,q5,q6⟩:=hf b hb
  exact ⟨q4,q2,q5,q6⟩
 ·rw [AJ (Nat.ne_of_lt (Nat.lt_of_lt_of_le (Heap.lt_size e) hT))];exact n
 ·obtain ⟨u,es,ep,ho,r⟩:=hm
  exact ⟨u,es,ep,k _ u (fun z=>(hf _ z).2.1 rfl) ho,r⟩
 ·by_cases hb:b=T
  ·subst hb;rw [AD] at e;cases e;exact new
  ·rw [AJ hb] at e
   refine (I.hok b u e).stay (fun c v hc q=>k c v ?_ q) (fun c q=>by rw [AJ (nT _ _ q)];exact q) fun c xs q=>by rw [AJ (nT _ _ q)];exact q
   rcases hc with z | z
   ·rw [z];exact nc b u e
   ·exact nc c _ z
section
variable {X:Cx}
end
section
variable {X:Cx} {K:W.Frag} {o e:Expr} {es:List Expr} {to:TE} {t:TA} {apos cpos:Pos}
noncomputable def Es:V->List V->Hp->VK->Prop:=fun x vs H Q=>match x,vs with
 | .ref l,[y]=>∃ xs,H l=some (.lst xs)/\xs.length < sizeLine/\Q .non (upd H l (.lst (xs++[y])))
 | _,_=>False
theorem UN:MtR X "list.append" Es:=by
 intro pins s σ H x vs v us Q I rx rv q
 match x,vs,q with
 | .ref l,[y],⟨xs,h1,h2,q⟩=>exact OO pins s σ H _ _ v us Q I rx rv ⟨l,xs,y,rfl,rfl,h1,h2,q⟩
theorem Gg (ho:PE X o to) (ha:PA X [e] t) (hbase:attributeBase o "append" X.env (eval o X.env)=eval o X.env:=by rfl)
 (hfew:((backTo cpos (starEach [e] X.env)).all (fun x=>!x.1) && (backToKw cpos (keywordEach [] X.env)).all (fun x=>x.1.isSome)
   && decide ([e].length+([]:List Keyword).length+(if ([]:List Keyword).isEmpty then 0 else 1) < 30))=true:=by rfl)
 (hline:(apos.endLine == cpos.line)=true:=by rfl) (hs:starEach [e] X.env=(false,eval e X.env)::starEach [] X.env:=by rfl) (hplain:(backTo cpos (starEach [] X.env)).any (·.1)=false:=by rfl) (hK:X.K=K:=by rfl) :
 PE X (.Call (.Attribute o "append" apos) [e] [] cpos) (tBM K "list" Es to t):=hK ▸ FU PySem.F.plainAttrs_list PySem.F.slot_list_append PySem.F.type_list_append UN ho ha hbase hfew hline hs hplain
theorem Ps {T:String} {r:V->List V->Hp->VK->Prop} (h1:AV to) (h2:Bg t) (h3:C6 r):AV (tBM K T r to t):=fun σ H Q Q' h q=>h1 _ _ _ _ (fun _ _ q=>⟨q.1,h2 _ _ _ _ (fun _ _ q=>h3 _ _ _ _ _ h q) q.2⟩) q
theorem Pk:C6 Es:=fun x xs H Q Q' h q=>by
 unfold Es at *
 split at q
 ·obtain ⟨ys,a,b,q⟩:=q;exact ⟨ys,a,b,h _ _ q⟩
 ·exact q.elim
noncomputable def K0 (K:W.Frag):List V->Hp->VK->Prop:=fun xs H Q=>match xs with
 | [.ref l]=>∃ ns:List Int,SqL K H l (ns.map V.int)/\Q (.int ns.sum) H
 | _=>False
theorem OS (hc:X.calm=true):CallR X (.builtin "sum") (K0 X.K):=by
 intro pins s σ H xs us Q I r q
 match xs,q with
 | [.ref l],q =>
 obtain ⟨ns,hl,q⟩:=q
 obtain ⟨u,rfl,ru⟩:=B2 r
 cases ru
 obtain ⟨its,rv,pl,hz⟩:=I.list hl
 have hi:IntsAre its ns:=by simpa using HH rv
 obtain ⟨zs,hzs⟩:=(hi.allInts).items
 have e:(numsOf its).sum=ns.sum:=by rw [hi.numsOf]
 have pl':=pl.isList
 rw [hzs] at pl'
 refine sum_intListG (I.ok.hd hc) pl' fun h' tk t' hk=>?_
 refine ⟨.int _,H,I.kept hk,⟨t',rfl⟩,?_⟩
 have e2:preSum (numAt zs) zs.size=ns.sum:=by
  rw [preSum_eq,List.take_of_length_le (by simp),<- e]
  rw [show its=its.toArray.toList by simp,hzs,nums_intItems]
 rw [e2]
 exact q
theorem Rk (hc:X.calm=true) (hK:X.K=K:=by rfl):CallR X (.builtin "sum") (K0 K):=hK ▸ OS hc
end
section
variable {prog:Program} {w:World} {A:Around} {E:Value->Shared->Prop} {s:Shared}
theorem Ma {it t:Addr} {items:Array Value} (hne:t≠it):∀ (n i:Nat) (s:Shared) (Q:List Value->Shared->Prop),s.heap.IsListIter it t i->s.heap.IsList t items->i+n<=items.size ->
 (∀ h',h'.IsListIter it t (i+n)->Heap.SameBut it s.heap h'->Q ((items.toList.drop i).take n) { s with heap:=h' })->wpAny (model prog w) A (draw (.ref it) n) Q E s
 | 0,i,s,Q,hit,_,_,hQ=>by
  show wpAny _ _ (pure []) Q E s
  exact wpAny_pure (by simpa using hQ s.heap hit (Heap.SameBut.refl ..))
 | n+1,i,s,Q,hit,ht,hle,hQ=>by
  have hlt:i < items.size:=by lia
  show wpAny _ _ (pyNext (.ref it) >>= _) Q E s
  refine wpAny_bind (wpAny_pyNext_list_item hit ht (x:=items[i]) (by simp [hlt]) fun h₁ hit₁ hs₁=>?_)
  refine wpAny_bind (wpAny_holding (Ma hne n (i+1) _ _ hit₁ (ht.extBut hs₁.extBut hne) (by lia) fun h₂ hit₂ hs₂=>wpAny_pure ?_))
  have hd:items.toList.drop i=items[i]::items.toList.drop (i+1):=by simp [List.drop_eq_getElem_cons,hlt]
  have:=hQ h₂ (by rw [show i+(n+1)=i+1+n by lia];exact hit₂) (hs₁.trans hs₂)
  rw [hd,List.take_succ_cons] at this
  exact this
theorem QR {t:Addr} {items:Array Value} {Q:List Value->Shared->Prop} (hh:A.handled=none) (ht:s.heap.IsList t items)
 (hQ:∀ h',Heap.ExtBut s.heap.objs.size s.heap h'->Q items.toList { s with heap:=h' }):wpAny (model prog w) A (unpackItems (.ref t) items.size none) Q E s:=by
 have hlt:t≠s.heap.objs.size:=by obtain ⟨o,ho,_⟩:=ht;exact Nat.ne_of_lt (Heap.lt_size ho)
 unfold unpackItems
 refine wpAny_bind ?_
 ·unfold notIterableAtAll
  refine wpAny_bind (wpAny_specialOf ht.typeIs slot_list_iter.lookup ?_)
  refine wpAny_pure ?_
  simp only [Bool.false_eq_true,if_false]
  refine wpAny_bind (wpAny_holding (wpAny_pyIter_list ht ?_))
  refine wpAny_bind (wpAny_holding (Ma hlt items.size 0 _ _ ⟨_,Heap.get?_push_size _ rfl,rfl,rfl⟩ (ht.at fun o e=>Heap.get?_push_of_some _ e) (by lia) fun h₁ hit₁ hs₁=>?_))
  have hall:List.take items.size (List.drop 0 items.toList)=items.toList:=by
   rw [List.drop_zero];exact List.take_of_length_le (by simp)
  rw [hall]
  rw [if_neg (by simp)]
  have ht₁:h₁.IsList t items:=(Heap.IsList.at ht fun o e=>Heap.get?_push_of_some _ e).extBut hs₁.extBut hlt
  refine wpAny_bind (wpAny_holding (wpAny_pyNext_list_end hh hit₁ ht₁ (by simp) fun h₂ he₂=>?_))
  simp only [Option.isSome_none,Bool.false_eq_true,if_false]
  refine wpAny_pure (hQ h₂ fun b o hb e=>he₂ b o hb (hs₁.extBut b o hb (Heap.get?_push_of_some _ e)))
theorem TR {env:Env} {elts:List Expr} {x1} {pos:Pos} {t:Addr} {items:Array Value} {Q:Unit->Shared->Prop} (hh:A.handled=none) (ht:s.heap.IsList t items)
 (hn:(assignEach elts env).length=items.size) (hstar:(assignEach elts env).findIdx? (·.1)=none)
 (h:∀ h',Heap.ExtBut s.heap.objs.size s.heap h'->wpAny (model prog w) A (assignInOrder ((assignEach elts env).map (·.2)) items.toList) Q E { s with heap:=h' }) :
 wpAny (model prog w) A (assign (.Tuple elts x1 pos) env (.ref t)) Q E s:=by
 rw [assign_Tuple]
 refine wpAny_bind (wpAny_standAt ?_)
 unfold unpack
 rw [hn,hstar]
 exact wpAny_bind (wpAny_holding (QR hh ht h))
end
section
variable {X:Cx} {K:W.Frag} {pos p2:Pos} {e:Expr} {lo hi:Option Expr} {te:TE} {tl th:TO}
noncomputable def MH (K:W.Frag) (n:Nat) (t:TGs):TG:=fun v σ H Q=>match v with
 | .ref a=>∃ xs,SqA K H a xs/\xs.length=n/\t xs σ H Q
 | _=>False
theorem Sw {es:List Expr} {k:Nat} {t:TGs} {n:Nat} (hc:X.calm=true) (h:PGs X es t)
 (hn:(assignEach es X.env).length=n:=by rfl) (hst:(assignEach es X.env).findIdx? (·.1)=none:=by rfl) (hK:X.K=K:=by rfl):PG X (.Tuple es k pos) (MH K n t):=by
 subst hK
 intro pins s σ H v u Q I r hw
 cases v with
 | ref a =>
  obtain ⟨xs,hq | hq,hl,hw⟩:=hw
  ·cases r
   obtain ⟨its,rv,ht,hz⟩:=I.list hq
   refine TR (I.ok.hd hc) ht.isList (by simp [hn,<- hl,rv.length]) hst fun h' hx=>?_
   have I1:Inv X pins σ H { s with heap:=h' }:=I.kept (t':=s.toks) fun b o e=>hx b o (Nat.ne_of_lt (Heap.lt_size e)) e
   exact h pins _ σ H xs _ Q I1 (by simpa using rv) hw
  ·exact Lm hc h hn hst pins s σ H _ u Q I r ⟨a,xs,rfl,hq,hl,hw⟩
 | _=>exact False.elim hw
theorem Pu {n:Nat} {t:TGs} (h:ER t):Cr (MH K n t):=fun v _ _ _ _ k q=>by
 cases v <;> first | exact False.elim q | (obtain ⟨xs,s,l,q⟩:=q;exact ⟨xs,s,l,h _ _ _ _ _ k q⟩)
noncomputable def LR (K:W.Frag):V->Option Int->Option Int->Hp->VK->Prop:=fun x lo hi H Q=>match x with
 | .ref a=>∃ xs,(SqL K H a xs/\∀ p,H p=none->Q (.ref p) (upd H p (.lst (BR xs lo hi)))) \/
  (SqT K H a xs/\¬ (HT.sIx xs.length 0 lo=0/\HT.sIx xs.length xs.length hi=xs.length)/\∀ p,H p=none->Q (.ref p) (upd H p (.tup (BR xs lo hi))))
 | _=>False
theorem NF:SlR X (LR X.K):=by
 intro pins s σ H x v vl vu lo hi sl Q I rx hs pl pu q
 cases x with
 | ref a =>
  obtain ⟨xs,⟨h,q⟩ | ⟨h,h2,q⟩⟩:=q
  ·exact Ph pins s σ H _ v vl vu lo hi sl Q I rx hs pl pu ⟨a,xs,rfl,h,q⟩
  ·exact Jy pins s σ H _ v vl vu lo hi sl Q I rx hs pl pu ⟨a,xs,rfl,h,h2,q⟩
 | _=>exact False.elim q
theorem O4 (he:PE X e te) (hl:PO X lo tl) (hu:PO X hi th) (hK:X.K=K:=by rfl):PE X (.Subscript e (.Slice lo hi none p2) pos) (tSl (LR K) te tl th):=hK ▸ LO NF he hl hu
noncomputable def Fd (t:TO):Prop:=∀ σ H (Q Q':Option Int->Hp->Prop),(∀ b H,Q b H->Q' b H)->t σ H Q->t σ H Q'
theorem Qa:Fd Kh:=fun _ _ _ _ h q=>h _ _ q
theorem Tm (h:AV te):Fd (K7 te):=fun σ H Q Q' k q=>h _ _ _ _ (fun _ _ ⟨i,e,q⟩=>⟨i,e,k _ _ q⟩) q
end
theorem IX {K:W.Frag} {H H':Hp} {a:Addr} {xs:List V} (h:SqT K H a xs) (s:Same H H'):SqT K H' a xs:=FW h fun o e=>s a o e
mutual
theorem Rep.same {K:W.Frag} {H H':Hp} (s:Same H H'):∀ (d:Dv) (v:V),Rep K H d v->Rep K H' d v
 | .non,v,h=>by unfold Rep at *;exact h
 | .bl b,v,h=>by unfold Rep at *;exact h
 | .int i,v,h=>by unfold Rep at *;exact h
 | .str x,v,h=>by unfold Rep at *;exact h
 | .tup ds,v,h=>by
  unfold Rep at *
  obtain ⟨a,xs,e,h1,h2⟩:=h
  exact ⟨a,xs,e,IX h1 s,Reps.same s ds xs h2⟩
 | .lst ds,v,h=>by
  unfold Rep at *
  obtain ⟨a,xs,e,h1,h2⟩:=h
  exact ⟨a,xs,e,K4 h1 fun o e=>s a o e,Reps.same s ds xs h2⟩
theorem Reps.same {K:W.Frag} {H H':Hp} (s:Same H H'):∀ (ds:List Dv) (xs:List V),Reps K H ds xs->Reps K H' ds xs
 | [],xs,h=>by unfold Reps at *;exact h
 | d::ds,xs,h=>by
  unfold Reps at *
  obtain ⟨x,r,e,h1,h2⟩:=h
  exact ⟨x,r,e,Rep.same s d x h1,Reps.same s ds r h2⟩
end
mutual
noncomputable def BW:Dv->Bool
 | .tup ds=>Aq ds
 | .lst _=>false
 | _=>true
noncomputable def Aq:List Dv->Bool
 | []=>true
 | d::ds=>BW d && Aq ds
end
mutual
theorem Rep.frm {K:W.Frag} {H H':Hp} {t:Addr} (s:Frm t H H') (ht:∃ zs,H t=some (.lst zs)):∀ (d:Dv) (v:V),BW d=true->Rep K H d v->Rep K H' d v
 | .non,v,_,h=>by unfold Rep at *;exact h
 | .bl b,v,_,h=>by unfold Rep at *;exact h
 | .int i,v,_,h=>by unfold Rep at *;exact h
 | .str x,v,_,h=>by unfold Rep at *;exact h
 | .tup ds,v,hd,h=>by
  unfold BW at hd
  unfold Rep at *
  obtain ⟨a,xs,e,h1,h2⟩:=h
  refine ⟨a,xs,e,?_,Reps.frm s ht ds xs hd h2⟩
  obtain ⟨zs,hz⟩:=ht
  rcases h1 with (h1 | ⟨o,h1⟩) | h1
  ·exact .inl (.inl (s a _ (fun q=>by rw [q,hz] at h1;cases h1) h1))
  ·exact .inl (.inr ⟨o,s a _ (fun q=>by rw [q,hz] at h1;cases h1) h1⟩)
  ·exact .inr h1
 | .lst ds,v,hd,h=>by unfold BW at hd;cases hd
theorem Reps.frm {K:W.Frag} {H H':Hp} {t:Addr} (s:Frm t H H') (ht:∃ zs,H t=some (.lst zs)):∀ (ds:List Dv) (xs:List V),Aq ds=true->Reps K H ds xs->Reps K H' ds xs
 | [],xs,_,h=>by unfold Reps at *;exact h
 | d::ds,xs,hd,h=>by
  unfold Aq at hd
  rw [Bool.and_eq_true] at hd
  unfold Reps at *
  obtain ⟨x,r,e,h1,h2⟩:=h
  exact ⟨x,r,e,Rep.frm s ht d x hd.1 h1,Reps.frm s ht ds r hd.2 h2⟩
end
theorem Tape.lst {K:W.Frag} {H:Hp} {t a:Addr} {ns:List Int} (T:Tape K H t a ns):∃ zs,H t=some (.lst zs):=by
 obtain ⟨i,r,c,_,_,h⟩:=T.at_
 exact ⟨_,h⟩
theorem BC {K:W.Frag} {H:Hp} {p:Addr} {xs:List V} {ds:List Dv} (h:H p=some (.tup xs)) (r:Reps K H ds xs):Rep K H (.tup ds) (.ref p):=by unfold Rep;exact ⟨p,xs,rfl,.of h,r⟩
theorem Af {K:W.Frag} {H:Hp}:Reps K H [] []:=by unfold Reps;rfl
theorem Ab {K:W.Frag} {H:Hp} {d:Dv} {ds:List Dv} {x:V} {xs:List V} (h:Rep K H d x) (r:Reps K H ds xs):Reps K H (d::ds) (x::xs):=by unfold Reps;exact ⟨x,xs,rfl,h,r⟩
theorem EV {K:W.Frag} {H:Hp} {x:Int}:Rep K H (.int x) (.int x):=by unfold Rep;rfl
theorem NP {K:W.Frag} {H:Hp} {x:Bool}:Rep K H (.bl x) (.bl x):=by unfold Rep;rfl
theorem Reps.append {K:W.Frag} {H:Hp}:∀ {ds es:List Dv} {xs ys:List V},Reps K H ds xs->Reps K H es ys->Reps K H (ds++es) (xs++ys)
 | [],es,xs,ys,h,h'=>by unfold Reps at h;subst h;exact h'
 | d::ds,es,xs,ys,h,h'=>by
  unfold Reps at h
  obtain ⟨x,r,rfl,h1,h2⟩:=h
  exact Ab h1 (Reps.append h2 h')
section
variable {κ:Type} [DecidableEq κ]
noncomputable def valV (kvs:List (κ × V)) (k:κ):Option V:=(kvs.find? fun kv=>decide (kv.1=k)).map (·.2)
noncomputable def BJ (kvs:List (κ × V)) (k:κ) (v:V):List (κ × V) :=
 if (kvs.any fun kv=>decide (kv.1=k))=true then kvs.map (fun kv=>if kv.1=k then (kv.1,v) else kv) else kvs++[(k,v)]
noncomputable def Im (kvs:List (κ × V)) (k:κ):List (κ × V):=kvs.filter fun kv=>decide (kv.1≠k)
theorem Bv {p:κ × V} {r:List (κ × V)} {k:κ} (e:p.1=k):valV (p::r) k=some p.2:=by simp [valV,List.find?_cons,e]
theorem B0 {p:κ × V} {r:List (κ × V)} {k:κ} (e:¬ p.1=k):valV (p::r) k=valV r k:=by simp [valV,List.find?_cons,e]
theorem Fm (k:κ):∀ kvs:List (κ × V),(kvs.any fun kv=>decide (kv.1=k))=(valV kvs k).isSome
 | []=>rfl
 | p::r=>by
  rw [List.any_cons]
  by_cases e:p.1=k
  ·simp only [Bv e,decide_eq_true e,Bool.true_or,Option.isSome_some]
  ·rw [B0 e,decide_eq_false e,Bool.false_or];exact Fm k r
theorem IY (k j:κ) (y:V):∀ kvs:List (κ × V),valV (kvs.map fun kv=>if kv.1=k then (kv.1,y) else kv) j=(valV kvs j).map fun x=>if j=k then y else x
 | []=>rfl
 | p::r=>by
  have ih:=IY k j y r
  rw [List.map_cons]
  by_cases h:p.1=k
  ·rw [if_pos h]
   by_cases e:p.1=j
   ·rw [Bv (p:=(p.1,y)) e,Bv e,Option.map_some,if_pos (e.symm.trans h)]
   ·rw [B0 (p:=(p.1,y)) e,B0 e,ih]
  ·rw [if_neg h]
   by_cases e:p.1=j
   ·rw [Bv (p:=p) e,Bv e,Option.map_some,if_neg (fun z=>h (e.trans z))]
   ·rw [B0 (p:=p) e,B0 e,ih]
theorem Kt (k j:κ) (y:V):∀ kvs:List (κ × V),valV kvs k=none->valV (kvs++[(k,y)]) j=if j=k then some y else valV kvs j
 | [],_=>by
  by_cases e:k=j
  ·rw [if_pos e.symm];exact Bv (p:=(k,y)) e
  ·rw [if_neg (fun z=>e z.symm)];exact B0 (p:=(k,y)) e
 | p::r,hn=>by
  rw [List.cons_append]
  have hk:¬ p.1=k:=fun z=>by rw [Bv z] at hn;cases hn
  rw [B0 hk] at hn
  have ih:=Kt k j y r hn
  by_cases e:p.1=j
  ·rw [Bv e,Bv e,if_neg (fun z=>hk (e.trans z))]
  ·rw [B0 e,B0 e,ih]
theorem Rp (kvs:List (κ × V)) (k j:κ) (y:V):valV (BJ kvs k y) j=if j=k then some y else valV kvs j:=by
 unfold BJ
 by_cases a:(kvs.any fun kv=>decide (kv.1=k))=true
 ·rw [if_pos a,IY]
  rw [Fm] at a
  by_cases e:j=k
  ·obtain ⟨x,hx⟩:=Option.isSome_iff_exists.mp a
   rw [if_pos e,e,hx,Option.map_some,if_pos rfl]
  ·rw [if_neg e]
   cases valV kvs j with
   | none=>rfl
   | some x=>rw [Option.map_some,if_neg e]
 ·rw [if_neg a]
  refine Kt k j y kvs ?_
  rw [Fm] at a
  cases q:valV kvs k with
  | none=>rfl
  | some x=>rw [q] at a;exact (a rfl).elim
theorem JG (kvs:List (κ × V)) (k:κ) (v:V):(BJ kvs k v).length<=kvs.length+1:=by
 unfold BJ
 split
 ·rw [List.length_map];lia
 ·rw [List.length_append,List.length_cons,List.length_nil];lia
theorem RelO.isSome_eq {o:Option V} {u:Option Value} (r:RelO o u):o.isSome=u.isSome:=by
 cases o with
 | none=>cases u with
  | none=>rfl
  | some _=>exact (show False from r).elim
 | some _=>cases u with
  | none=>exact (show False from r).elim
  | some _=>rfl
theorem KV.val {kvs:List (κ × V)} {vs:List (κ × Value)} (r:KV kvs vs) (k:κ):RelO (valV kvs k) (valueAt vs k):=by
 unfold KV at r
 induction r with
 | nil=>exact True.intro
 | @cons p q ps qs h t ih =>
  obtain ⟨h1,h2⟩:=h
  by_cases e:p.1=k
  ·have e':q.1=k:=h1.symm.trans e
   have b:valueAt (q::qs) k=some q.2:=by simp [valueAt,List.find?_cons,e']
   rw [Bv e,b];exact h2
  ·have e':¬ q.1=k:=fun z=>e (h1.trans z)
   have b:valueAt (q::qs) k=valueAt qs k:=by simp [valueAt,List.find?_cons,e']
   rw [B0 e,b];exact ih
theorem KV.any {kvs:List (κ × V)} {vs:List (κ × Value)} (r:KV kvs vs) (k:κ):(kvs.any fun kv=>decide (kv.1=k))=vs.any fun kv=>decide (kv.1=k):=by
 unfold KV at r
 induction r with
 | nil=>rfl
 | cons h t ih=>rw [List.any_cons,List.any_cons,ih,h.1]
theorem KV.repl {kvs:List (κ × V)} {vs:List (κ × Value)} (r:KV kvs vs) (k:κ) {y:V} {u:Value} (ry:RelV y u) :
 KV (kvs.map fun kv=>if kv.1=k then (kv.1,y) else kv) (vs.map fun kv=>if kv.1=k then (kv.1,u) else kv):=by
 unfold KV at r ⊢
 induction r with
 | nil=>exact .nil
 | @cons p q ps qs h t ih =>
  rw [List.map_cons,List.map_cons]
  refine .cons ?_ ih
  obtain ⟨h1,h2⟩:=h
  by_cases e:p.1=k
  ·rw [if_pos e,if_pos (h1.symm.trans e)];exact ⟨h1,ry⟩
  ·rw [if_neg e,if_neg (fun z=>e (h1.trans z))];exact ⟨h1,h2⟩
theorem KV.put {kvs:List (κ × V)} {vs:List (κ × Value)} (r:KV kvs vs) (k:κ) {y:V} {u:Value} (ry:RelV y u):KV (BJ kvs k y) (stored vs k u):=by
 unfold BJ stored
 rw [r.any k]
 by_cases e:(vs.any fun kv=>decide (kv.1=k))=true
 ·rw [if_pos e,if_pos e];exact r.repl k ry
 ·rw [if_neg e,if_neg e];exact Paired.snoc r ⟨rfl,ry⟩
theorem KV.drop {kvs:List (κ × V)} {vs:List (κ × Value)} (r:KV kvs vs) (k:κ):KV (Im kvs k) (without vs k):=by
 unfold KV at r ⊢
 unfold Im without
 induction r with
 | nil=>exact .nil
 | @cons p q ps qs h t ih =>
  obtain ⟨h1,h2⟩:=h
  rw [List.filter_cons,List.filter_cons]
  by_cases e:p.1=k
  ·have a:¬ decide (p.1≠k)=true:=by simp [e]
   have b:¬ decide (q.1≠k)=true:=by simp [h1.symm.trans e]
   rw [if_neg a,if_neg b];exact ih
  ·have e':¬ q.1=k:=fun z=>e (h1.trans z)
   have a:decide (p.1≠k)=true:=by simp [e]
   have b:decide (q.1≠k)=true:=by simp [e']
   rw [if_pos a,if_pos b];exact .cons ⟨h1,h2⟩ ih
theorem KV.length {kvs:List (κ × V)} {vs:List (κ × Value)} (r:KV kvs vs):kvs.length=vs.length:=Paired.length r
end
theorem Et {P:Program} {w:World} {k:Key} {u:Value} (r:RelV (kV k) u):(BQ P w).is k u=true:=by
 cases k with
 | inl i=>obtain ⟨t,e⟩:=(show ∃ t,u=Value.int i t from r);subst e;exact Rt P w i t
 | inr x=>obtain ⟨t,e⟩:=(show ∃ t,u=Value.str x t from r);subst e;exact SD P w x t
theorem Kx {P:Program} {w:World}:∀ {ks:List Key} {us:List Value},Vals (ks.map kV) us->ItemsAre (BQ P w) ks us
 | [],_,r=>by rw [List.map_nil] at r;cases r;exact .nil
 | k::ks,_,r=>by
  rw [List.map_cons] at r
  cases r with
  | cons h t=>exact .cons (Et h) (Kx t)
noncomputable abbrev KT (H:Hp):List (List Key × V)->List (List Key × Addr × Value)->Prop:=Paired fun p q=>p.1=q.1/\H q.2.1=some (.tup (p.1.map kV))/\RelV p.2 q.2.2
theorem KT.val {H:Hp} {kvs:List (List Key × V)} {xs:List (List Key × Addr × Value)} (r:KT H kvs xs) (k:List Key):RelO (valV kvs k) ((atKey xs k).map (·.2)):=by
 induction r with
 | nil=>exact True.intro
 | @cons p q ps qs h t ih =>
  obtain ⟨h1,_,h2⟩:=h
  by_cases e:p.1=k
  ·have e':q.1=k:=h1.symm.trans e
   have b:atKey (q::qs) k=some q.2:=by simp [atKey,List.find?_cons,e']
   rw [Bv e,b];exact h2
  ·have e':¬ q.1=k:=fun z=>e (h1.trans z)
   have b:atKey (q::qs) k=atKey qs k:=by simp [atKey,List.find?_cons,e']
   rw [B0 e,b];exact ih
theorem KT.repl {H:Hp} {kvs:List (List Key × V)} {xs:List (List Key × Addr × Value)} (r:KT H kvs xs) (k:List Key) {y:V} {u:Value} (ry:RelV y u) :
 KT H (kvs.map fun kv=>if kv.1=k then (kv.1,y) else kv) (xs.map (putAt k u)):=by
 induction r with
 | nil=>exact .nil
 | @cons p q ps qs h t ih =>
  rw [List.map_cons,List.map_cons]
  refine .cons ?_ ih
  obtain ⟨h1,h2,h3⟩:=h
  unfold putAt
  by_cases e:p.1=k
  ·rw [if_pos e,if_pos (h1.symm.trans e)];exact ⟨h1,h2,ry⟩
  ·rw [if_neg e,if_neg (fun z=>e (h1.trans z))];exact ⟨h1,h2,h3⟩
theorem KT.put {H:Hp} {kvs:List (List Key × V)} {xs:List (List Key × Addr × Value)} (r:KT H kvs xs) (k:List Key) {b:Addr} {y:V} {u:Value} (hb:H b=some (.tup (k.map kV))) (ry:RelV y u) :
 KT H (BJ kvs k y) (storedH xs k b u):=by
 have e:(kvs.any fun kv=>decide (kv.1=k))=(atKey xs k).isSome:=by
  rw [Fm,(r.val k).isSome_eq,Option.isSome_map]
 unfold BJ storedH
 rw [e]
 by_cases q:(atKey xs k).isSome=true
 ·rw [if_pos q,if_pos q];exact r.repl k ry
 ·rw [if_neg q,if_neg q];exact Paired.snoc r ⟨rfl,hb,ry⟩
theorem KT.keeps {H H':Hp} {kvs:List (List Key × V)} {xs:List (List Key × Addr × Value)} (r:KT H kvs xs) (ht:∀ b ys,H b=some (.tup ys)->H' b=some (.tup ys)):KT H' kvs xs :=
 Paired.mapP r fun _ _ z=>⟨z.1,ht _ _ z.2.1,z.2.2⟩
section
variable {P:Program} {w:World} {H:Hp} {h:Heap} {a:Addr}
theorem JL {u:HO} (ok:HOk P w H h) (e:Rd H a u):ObjOk P w H h a u:=e.ok ok
theorem Fl {kvs:List (Key × V)} (ok:HOk P w H h) (e:Rd H a (.dK kvs)):kvs.length<=sizeLine/\(a == sysModules)=false/\∃ vs,KV kvs vs/\h.DictOf (BQ P w) a vs :=
 show ObjOk P w H h a (.dK kvs) from JL ok e
theorem P6 {kvs:List (Key × V)} (ok:HOk P w H h) (e:H a=some (.dK kvs)):kvs.length<=sizeLine/\(a == sysModules)=false/\∃ vs,KV kvs vs/\h.DictOf (BQ P w) a vs:=Fl ok (.inl e)
theorem Fb {ks:List Key} (ok:HOk P w H h) (e:H a=some (.tup (ks.map kV))):(tupleKind (BQ P w)).is h ks a:=by
 obtain ⟨_,its,r,o,h1,h2,⟨n,h3⟩,_⟩:=(show ObjOk P w H h a (.tup (ks.map kV)) from ok a _ e)
 exact ⟨o,its.toArray,n,h1,h2,h3,by simpa using Kx r⟩
theorem Fg {kvs:List (List Key × V)} (ok:HOk P w H h) (e:Rd H a (.dT kvs)):kvs.length<=sizeLine/\(a == sysModules)=false /\
 ∃ xs,KT H kvs xs/\h.DictOfH (tupleKind (BQ P w)) a xs:=by
 obtain ⟨z,y,xs,r,o,es,ep,h1,h2,h3,h4,h5⟩:=(show ObjOk P w H h a (.dT kvs) from JL ok e)
 refine ⟨z,y,xs,r,o,es,ep,h1,h2,h3,h4,fun x hx=>?_,h5⟩
 have all:∀ {l:List (List Key × V)} {m:List (List Key × Addr × Value)},KT H l m->∀ x∈m,(tupleKind (BQ P w)).is h x.1 x.2.1:=by
  intro l m q
  induction q with
  | nil=>intro x hx;exact nomatch hx
  | @cons p q ps qs hq t ih =>
   intro x hx
   rcases List.mem_cons.mp hx with e | hx
   ·subst e
    exact Fb ok (by rw [<- hq.1];exact hq.2.1)
   ·exact ih x hx
 exact all r x hx
theorem Mm {kvs:List (List Key × V)} (ok:HOk P w H h) (e:H a=some (.dT kvs)):kvs.length<=sizeLine/\(a == sysModules)=false /\
 ∃ xs,KT H kvs xs/\h.DictOfH (tupleKind (BQ P w)) a xs:=Fg ok (.inl e)
end
noncomputable def DGet (H:Hp) (a:Addr) (y:V) (r:Option V):Prop :=
 (∃ kvs k,Rd H a (.dK kvs)/\y=kV k/\r=valV kvs k)\/∃ kvs k b,Rd H a (.dT kvs)/\y=.ref b/\H b=some (.tup (k.map kV))/\r=valV kvs k
noncomputable def DPut (H:Hp) (a:Addr) (y v:V) (H':Hp):Prop :=
 (∃ kvs k,H a=some (.dK kvs)/\y=kV k/\kvs.length < sizeLine/\H'=upd H a (.dK (BJ kvs k v))) \/
 ∃ kvs k b,H a=some (.dT kvs)/\y=.ref b/\H b=some (.tup (k.map kV))/\kvs.length < sizeLine/\H'=upd H a (.dT (BJ kvs k v))
theorem DGet.k {H:Hp} {a:Addr} {kvs:List (Key × V)} {k:Key} (e:H a=some (.dK kvs)):DGet H a (kV k) (valV kvs k):=.inl ⟨kvs,k,.inl e,rfl,rfl⟩
theorem DGet.t {H:Hp} {a b:Addr} {kvs:List (List Key × V)} {k:List Key} (e:H a=some (.dT kvs)) (eb:H b=some (.tup (k.map kV))):DGet H a (.ref b) (valV kvs k):=.inr ⟨kvs,k,b,.inl e,rfl,eb,rfl⟩
theorem DPut.k {H:Hp} {a:Addr} {kvs:List (Key × V)} {k:Key} {v:V} (e:H a=some (.dK kvs)) (hl:kvs.length < sizeLine):DPut H a (kV k) v (upd H a (.dK (BJ kvs k v))):=.inl ⟨kvs,k,e,rfl,hl,rfl⟩
theorem DPut.t {H:Hp} {a b:Addr} {kvs:List (List Key × V)} {k:List Key} {v:V} (e:H a=some (.dT kvs)) (eb:H b=some (.tup (k.map kV))) (hl:kvs.length < sizeLine) :
 DPut H a (.ref b) v (upd H a (.dT (BJ kvs k v))):=.inr ⟨kvs,k,b,e,rfl,eb,hl,rfl⟩
section
variable {X:Cx} {pins:List (Addr × Obj)} {σ:St} {H:Hp} {s:Shared} {a:Addr} {y v:V} {u r:Value} {o:Option V} {A:Around} {E:Value->Shared->Prop}
theorem Inv.big (I:Inv X pins σ H s):sysModules < s.heap.objs.size:=by
 have h:mainGlobals < s.heap.objs.size:=(I.mod.glob.keeps I.bk).lt
 exact Nat.lt_trans (by decide) h
theorem P8 {Q:Value->Shared->Prop} (hu:A.units+1 < cLine) (I:Inv X pins σ H s) (g:DGet H a y (some v)) (ry:RelV y u) (h:∀ w' s',Inv X pins σ H s'->RelV v w'->Q w' s') :
 wpAny (model X.prog X.w) A (getItem (.ref a) u) Q E s:=by
 rcases g with ⟨kvs,k,e,ey,l⟩ | ⟨kvs,k,b,e,ey,eb,l⟩
 ·subst ey
  obtain ⟨z,hd,vs,rel,dd⟩:=Fl I.hok e
  obtain ⟨w',hw,rw'⟩:=RelO.some_of (v:=v) (o:=valueAt vs k) (by rw [l];exact rel.val k)
  exact wpAny_getItem_of (Et ry) dd.mapOf hw (h w' _ (I.tok _) rw')
 ·subst ey
  cases (show u=Value.ref b from ry)
  obtain ⟨z,hd,xs,rel,dd⟩:=Fg I.hok e
  obtain ⟨w',hw,rw'⟩:=RelO.some_of (v:=v) (o:=(atKey xs k).map (·.2)) (by rw [l];exact rel.val k)
  obtain ⟨p,hp,hp2⟩:=Option.map_eq_some_iff.mp hw
  refine wpAny_getItem_heap (tupleKind_room_in1 hu) (Fb I.hok eb) dd hp ?_
  rw [hp2]
  exact h w' _ (I.tok _) rw'
theorem Mj {Q:Value->Shared->Prop} (hu:A.units+1 < cLine) (I:Inv X pins σ H s) (g:DGet H a y o) (ry:RelV y u) (h:∀ s',Inv X pins σ H s'->Q (.bool (!o.isSome)) s') :
 wpAny (model X.prog X.w) A (compareOp .NotIn u (.ref a)) Q E s:=by
 rcases g with ⟨kvs,k,e,ey,l⟩ | ⟨kvs,k,b,e,ey,eb,l⟩
 ·subst ey
  obtain ⟨z,hd,vs,rel,dd⟩:=Fl I.hok e
  refine wpAny_notIn_of (Et ry) hd dd.mapOf ?_
  rw [<- (rel.val k).isSome_eq,<- l]
  exact h _ (I.tok _)
 ·subst ey
  cases (show u=Value.ref b from ry)
  obtain ⟨z,hd,xs,rel,dd⟩:=Fg I.hok e
  refine wpAny_notIn_heap (tupleKind_room_in1 hu) (Fb I.hok eb) hd dd ?_
  have q:=(rel.val k).isSome_eq
  rw [Option.isSome_map] at q
  rw [<- q,<- l]
  exact h _ (I.tok _)
theorem JV {h':Heap} {t':Nat} {ob:HO} (I:Inv X pins σ H s) (mu:Mut (H a)) (hs:Heap.SameBut a s.heap h') (he:∃ q,h'.get? a=some q) (new:ObjOk X.prog X.w (upd H a ob) h' a ob) :
 Inv X pins σ (upd H a ob) { s with heap:=h',toks:=t' } :=
 I.write (x:=a) (e:=a) mu (.inl rfl) (fun b q hb z=>(hs.2 b hb).trans z) he new
theorem RQ {P:Program} {w:World} {H':Hp} {h':Heap} {kvs:List (Key × V)} {vs:List (Key × Value)} (z:kvs.length<=sizeLine) (hd:(a == sysModules)=false) (rel:KV kvs vs) (dd:h'.DictOf (BQ P w) a vs) :
 ObjOk P w H' h' a (.dK kvs):=⟨z,hd,vs,rel,dd⟩
theorem Qr {H':Hp} {Q:Unit->Shared->Prop} (hu:A.units+1 < cLine) (I:Inv X pins σ H s) (g:DPut H a y v H') (ry:RelV y u) (rv:RelV v r) (h:∀ s',Inv X pins σ H' s'->Q () s') :
 wpAny (model X.prog X.w) A (setItem (.ref a) u r) Q E s:=by
 rcases g with ⟨kvs,k,e,ey,l,eH⟩ | ⟨kvs,k,b,e,ey,eb,l,eH⟩
 ·subst ey eH
  obtain ⟨z,hd,vs,rel,dd⟩:=P6 I.hok e
  have hz:vs.length<=sizeLine:=by rw [<- rel.length];exact z
  have hl:(BJ kvs k v).length<=sizeLine:=by have:=JG kvs k v;lia
  refine wpAny_setItem_pairs (hsz:=hz) (Et ry) dd fun h' dd' hs=>h _ ?_
  have he:∃ q,h'.get? a=some q:=let ⟨q,_,_,hq,_⟩:=dd';⟨q,hq⟩
  exact JV I (by rw [e];exact True.intro) hs he (RQ hl hd (rel.put k rv) dd')
 ·subst ey eH
  cases (show u=Value.ref b from ry)
  obtain ⟨z,hd,xs,rel,dd⟩:=Mm I.hok e
  have hz:xs.length<=sizeLine:=by rw [<- Paired.length rel];exact z
  have hl:(BJ kvs k v).length<=sizeLine:=by have:=JG kvs k v;lia
  refine wpAny_setItem_heap (hsz:=hz) (tupleKind_room_in1 hu) (Fb I.hok eb) dd fun h' dd' hs=>h _ ?_
  obtain ⟨q,es,ep,hq,h2,h3,h4,_,h5⟩:=dd'
  refine JV I (by rw [e];exact True.intro) hs ⟨q,hq⟩ ⟨hl,hd,_,(rel.put k eb rv).keeps fun c ys ec=>?_,q,es,ep,hq,h2,h3,h4,h5⟩
  rw [AJ (BA ec e (fun z=>nomatch z))]
  exact ec
end
section
variable {X:Cx} {pins:List (Addr × Obj)} {σ:St} {H:Hp} {s:Shared} {a:Addr} {kvs:List (Key × V)} {k:Key} {u:Value} {A:Around} {E:Value->Shared->Prop}
end
noncomputable def J6 (i:Expr):Prop:=∀ ov iv,subscripted i false ov iv=operate [ov,iv] (getItem ov iv)
theorem Ng {prog:Program} {w:World} {A:Around} {E:Value->Shared->Prop} {s:Shared} {env:Env} {value slice:Expr} {pos:Pos} {T id:String} {Q:Value->Shared->Prop}
 (hl:typeLookup (.type T) "__getitem__" = pure (some (.builtin id))) (hs:J6 slice)
 (h:wpAny (model prog w) A (eval value env) (fun o s₁=>wpAny (model prog w) A (eval slice env) (fun i s₂=>s₂.TypeIs o T/\wpAny (model prog w) A (getItem o i) Q E s₂) E s₁) E s) :
 wpAny (model prog w) A (eval (.Subscript value slice pos) env) Q E s:=by
 refine Subscript_ (wpAny_mono h (fun o s₁ h₁=>wpAny_mono h₁ (fun i s₂ h₂=>?_) fun _ _ x=>x) fun _ _ x=>x)
 obtain ⟨hT,h₂⟩:=h₂
 unfold subscriptTail
 refine wpAny_bind ?_
 rw [getitemInPython_of_ne hT.not_modules]
 refine wpAny_bind (wpAny_specialOf hT hl ?_)
 have fin:wpAny (model prog w) A (subscripted slice false o i) (fun r s₃=>wpAny (model prog w) A (letTemporaryGo value o r >>= fun _=>pure r) Q E s₃) E s₂:=by
  rw [hs o i]
  exact wpAny_operating (wpAny_mono h₂ (fun r s₃ h₃=>wpAny_bind (wpAny_letTemporaryGo (wpAny_pure h₃))) fun _ _ x=>x)
 first
  | exact wpAny_pure (wpAny_bind fin)
  | exact wpAny_bind (wpAny_pure (wpAny_bind fin))
  | exact wpAny_bind fin
theorem N0 {X:Cx} {pins:List (Addr × Obj)} {σ:St} {H:Hp} {s:Shared} {a:Addr} {y:V} {o:Option V} (I:Inv X pins σ H s) (g:DGet H a y o):s.TypeIs (.ref a) "dict":=by
 rcases g with ⟨kvs,k,e,_,_⟩ | ⟨kvs,k,b,e,_,_,_⟩
 ·obtain ⟨_,_,vs,_,dd⟩:=Fl I.hok e
  exact dd.typeIs
 ·obtain ⟨_,_,xs,_,dd⟩:=Fg I.hok e
  exact dd.typeIs
noncomputable def QQ (td ty:TE):TE:=fun σ H Q=>td σ H fun x H1=>ty σ H1 fun y H2=>∃ a v,x=.ref a/\DGet H2 a y (some v)/\Q v H2
noncomputable def Iw (td ty tv:TE):TS:=fun D σ H=>tv σ H fun v H1=>td σ H1 fun x H2=>ty σ H2 fun y H3=>∃ a H4,x=.ref a/\DPut H3 a y v H4/\D.nx σ H4
section
variable {X:Cx} {o i e value:Expr} {pos pos' tpos:Pos} {td ty tv:TE}
theorem PB (hu:X.A.units+1 < cLine) (ho:PE X o td) (hi:PE X i ty) (hs:J6 i):PE X (.Subscript o i pos) (QQ td ty):=by
 intro pins s σ H Q I h
 refine Ng PySem.F.slot_dict_getitem.lookup hs (thn (ho pins s σ H _ I h) fun u s1 ⟨x,H1,I1,rx,q1⟩=>thn (hi pins s1 σ H1 _ I1 q1) fun iv s2 ⟨y,H2,I2,ry,a,v,ex,g,q2⟩=>?_)
 subst ex
 obtain rfl:u=Value.ref a:=rx
 exact ⟨N0 I2 g,P8 hu I2 g ry fun w' s3 I3 rw'=>⟨v,H2,I3,rw',q2⟩⟩
theorem K1 (hu:X.A.units+1 < cLine) (ho:PE X o td) (hi:PE X i ty) (hv:PE X value tv) (hs:swapsWith value (some (.Subscript o i pos')) pos.line X.env=pure false) :
 PS X (.Assign [.Subscript o i pos'] value pos) (Iw td ty tv):=by
 intro pins s σ H D I h
 refine wpAny_Assign_Subscript (thn (hv pins s σ H _ I h) fun r s1 ⟨v,H1,I1,rv,q1⟩=>thn (ho pins s1 σ H1 _ I1 q1) fun u s2 ⟨x,H2,I2,rx,q2⟩=>thn (hi pins s2 σ H2 _ I2 q2) fun iv s3 ⟨y,H3,I3,ry,a,H4,ex,g,q3⟩=>?_) hs
 subst ex
 obtain rfl:u=Value.ref a:=rx
 exact Qr hu I3 g ry rv fun s4 I4=>⟨σ,H4,I4,q3⟩
end
theorem O5 {P:Program} {w:World} {H:Hp} (h:Heap) (hb:sysModules < h.objs.size):ObjOk P w H (h.push { cls:=.type "dict",data:=.dict #[] }) h.objs.size (.dK []) :=
 ⟨Nat.zero_le _,beq_eq_false_iff_ne.mpr (Ne.symm (Nat.ne_of_lt hb)),[],.nil,Heap.DictOf.new h⟩
noncomputable def T7:TE:=fun _ H Q=>∀ p,H p=none->Q (.ref p) (upd H p (.dK []))
section
variable {X:Cx} {pos:Pos}
theorem Lc:PE X (.Dict [] [] pos) T7:=fun pins s σ H Q I h =>
 wpAny_Dict_empty ⟨.ref s.heap.objs.size,_,I.laid (a:=s.heap.objs.size) (o:=.dK []) (t':=s.toks) (fun _ _ q=>Heap.get?_push_of_some _ q) (Nat.le_refl _) (O5 s.heap I.big),rfl,h _ (I.hok.fresh (Nat.le_refl _))⟩
end
structure M1 (X:Cx) (o:Expr) (m:Str) (apos:Pos) (e:Expr) (cpos:Pos):Prop where
 base:attributeBase o m X.env (eval o X.env)=eval o X.env
 few:((backTo cpos (starEach [e] X.env)).all (fun x=>!x.1) && (backToKw cpos (keywordEach [] X.env)).all (fun x=>x.1.isSome)
  && decide (([e]:List Expr).length+([]:List Keyword).length+(if ([]:List Keyword).isEmpty then 0 else 1) < 30))=true
 line:(apos.endLine == cpos.line)=true
 trees:backTo cpos (starEach [e] X.env)=[(false,eval e X.env)]
structure M2 (X:Cx) (o:Expr) (m:Str) (apos:Pos) (e f:Expr) (cpos:Pos):Prop where
 base:attributeBase o m X.env (eval o X.env)=eval o X.env
 few:((backTo cpos (starEach [e,f] X.env)).all (fun x=>!x.1) && (backToKw cpos (keywordEach [] X.env)).all (fun x=>x.1.isSome)
  && decide (([e,f]:List Expr).length+([]:List Keyword).length+(if ([]:List Keyword).isEmpty then 0 else 1) < 30))=true
 line:(apos.endLine == cpos.line)=true
 trees:backTo cpos (starEach [e,f] X.env)=[(false,eval e X.env),(false,eval f X.env)]
section
variable {X:Cx} {pins:List (Addr × Obj)} {σ:St} {H:Hp} {s:Shared} {a:Addr} {y d:V} {u r:Value} {o:Option V} {A:Around} {E:Value->Shared->Prop}
end
section
variable {X:Cx} {o e f:Expr} {apos cpos:Pos} {td ty tx:TE}
end
section
variable {X:Cx} {pins:List (Addr × Obj)} {σ:St} {H:Hp} {s:Shared} {a:Addr} {kvs:List (Key × V)} {A:Around} {E:Value->Shared->Prop}
end
section
variable {X:Cx} {pins:List (Addr × Obj)} {σ:St} {H:Hp} {s:Shared} {a:Addr} {y:V} {u:Value} {A:Around} {E:Value->Shared->Prop}
end
theorem N9 {M:Model} {A:Around} {E:Value->Shared->Prop} {s:Shared} {b:Bool} {Q:Int->Shared->Prop} (h:Q (if b=true then 1 else 0) s):wpAny M A (Builtin.Int.intOfSelf (.bool b)) Q E s:=by
 unfold Builtin.Int.intOfSelf
 exact wpAny_pure h
theorem Qn {prog:Program} {w:World} {A:Around} {E:Value->Shared->Prop} {s:Shared} {b:Bool} {Q:Int->Shared->Prop} (h:Q (if b=true then 1 else 0) { s with toks:=s.toks+1 }):wpAny (model prog w) A (pyHash (.bool b)) Q E s:=by
 show wpAny _ _ (pyHashByItsType (.bool b)) _ _ _
 refine PySem.W.pyHash_slot (T:="bool") rfl PySem.F.slot_bool_hash PySem.F.entry_int_hash (PySem.F.args_int_hash_1 _) rfl (.inl rfl) ?_
 unfold Builtin.«int.__hash__» Builtin.Int.intSlot0
 refine wpAny_bind (wpAny_bind ?_)
 show wpAny _ _ (pure (Value.bool b,[])) _ _ _
 refine wpAny_pure (wpAny_bind (N9 (wpAny_pure ?_)))
 cases b with
 | true=>exact wpAny_bind (wpAny_mkInt (wpAny_pure ⟨_,_,rfl,h⟩))
 | false=>exact wpAny_bind (wpAny_mkInt (wpAny_pure ⟨_,_,rfl,h⟩))
noncomputable def Gr:Bool->Value->Bool
 | b,.bool c=>b == c
 | _,_=>false
theorem C4 {b:Bool} {v:Value} (h:Gr b v=true):v=.bool b:=by
 unfold Gr at h
 split at h
 ·rw [beq_iff_eq.mp h]
 ·cases h
noncomputable def Pq (prog:Program) (w:World):PySem.KeyKind prog w Bool where
 is:=Gr
 hash:=fun b=>if b=true then 1 else 0
 inj:=fun v a b ha hb=>by
  have e1:=C4 ha
  have e2:=C4 hb
  rw [e1] at e2
  injection e2
 byValue:=fun k v h=>by rw [C4 h];rfl
 pyHash:=fun hv h=>by rw [C4 hv];exact Qn h
 eqBool:=fun {A E s a b u v Q} hu hv h=>by
  rw [C4 hu,C4 hv]
  refine SeqAt.EqAt.bool_bool a b _ _ _ _ ?_
  have e:(a == b)=decide (a=b):=by cases a <;> cases b <;> rfl
  rw [e];exact h
 «strs»:=fun k x t v h=>by
  have:=C4 h
  cases this
section
variable {P:Program} {w:World} {H:Hp} {h:Heap} {a:Addr}
end
section
variable {X:Cx} {o i e value:Expr} {pos pos' tpos:Pos} {td ty tv:TE}
end
section
variable {X:Cx} {P:Program} {w:World} {o i:Expr} {pos:Pos} {td ty:TE}
end
section
variable {X:Cx} {K:W.Frag} {o:Expr} {to:TE} {apos cpos:Pos}
noncomputable def LS:V->List V->Hp->VK->Prop:=fun x vs H Q=>match x,vs with
 | .int i,[]=>Q (.int (Builtin.Int.intBits i:Nat)) H
 | _,_=>False
theorem TW:MtR X "int.bit_length" LS:=by
 intro pins s σ H x vs v us Q I rx rv q
 match x,vs,q with
 | .int i,[],q =>
  cases rv
  obtain ⟨t,rfl⟩:=(show ∃ t,v=Value.int i t from rx)
  exact PyProof.Rows.call_int_bit_length ⟨.int (Builtin.Int.intBits i:Nat),H,I.tok _,⟨_,rfl⟩,q⟩
theorem Sx (ho:PE X o to) (hbase:attributeBase o "bit_length" X.env (eval o X.env)=eval o X.env:=by rfl) (hline:(apos.endLine == cpos.line)=true:=by rfl) (hK:X.K=K:=by rfl) :
 PE X (.Call (.Attribute o "bit_length" apos) [] [] cpos) (Kl K "int" LS to):=hK ▸ Sy PySem.F.plainAttrs_int PySem.F.slot_int_bit_length PySem.F.type_int_bit_length TW ho hbase hline
end
noncomputable def Ite (K:W.Frag) (l:Addr):It :=
 ⟨fun i H=>∃ xs x,SqL K H l xs/\xs[i]? = some x,
  fun i H v H'=>∃ p x,H p=none/\v=.ref p/\H'=upd H p (.tup [.int i,x])/\∀ xs,SqL K H l xs->xs[i]? = some x,
  fun i H=>∃ xs,SqL K H l xs/\xs.length<=i⟩
theorem NB {P:Program} {w:World} {K:W.Frag} {es:List Expr} {kt:Nat} {tpos:Pos} {e it l:Addr} (hne:e≠it) :
 Turn P w K (.Tuple es kt tpos) (Ite K l) [e,it] e (fun i h=>(∃ old,IsEnum h e it (i:Int) old)/\h.IsListIter it l i) where
 mem:=by simp
 obj:=fun i h st b hb=>by
  obtain ⟨⟨old,hz⟩,⟨o1,e1,c1,d1⟩⟩:=st
  simp only [List.mem_cons,List.mem_nil_iff,or_false] at hb
  rcases hb with rfl | rfl
  ·exact ⟨_,hz,fun v q=>nomatch q⟩
  ·exact ⟨o1,e1,fun v q=>by rw [d1] at q;cases q⟩
 keep:=fun i h h' ⟨⟨old,hz⟩,h1⟩ k=>⟨⟨old,k e (by simp) _ hz⟩,h1.at fun o q=>k it (by simp) o q⟩
 item:=by
  intro X hP hw hK hc i pins s σ H E I hf st hg
  subst hP hw hK
  obtain ⟨xs,x,hq1,hx⟩:=hg
  obtain ⟨⟨old,hz⟩,h1⟩:=st
  obtain ⟨its,rv,p,_⟩:=I.list hq1
  obtain ⟨u,hu,ru⟩:=rv.get hx
  refine wpAny_pyNext_enum_item hz h1 p.isList (x:=u) (by simpa using hu) hne fun h' z1 z2 z3 z4 z5=>?_
  refine ⟨_,rfl,?_⟩
  have z5':∀ b v,b∉[e,it]->s.heap.get? b=some v->h'.get? b=some v:=fun b v hb q=>by
   simp only [List.mem_cons,List.mem_nil_iff,or_false,not_or] at hb
   exact z5 b v hb.1 hb.2 q
  have I1:Inv X pins σ (upd H s.heap.objs.size (.tup [.int i,x])) { s with heap:=h' }:=by
   refine I.turnedNew (ch:=[e,it]) (fun b hb=>hf b hb) (Nat.le_refl _) z5' ?_ fun b hb=>?_
   ·exact ⟨Ae (show 2<=1000 by decide),[.int i s.toks,u],.cons ⟨_,rfl⟩ (.cons ru .nil),⟨_,z3,rfl,⟨_,rfl⟩,rfl⟩⟩
   ·simp only [List.mem_cons,List.mem_nil_iff,or_false] at hb
    rcases hb with rfl | rfl
    ·exact ⟨_,z1⟩
    ·obtain ⟨o,q,_⟩:=z2;exact ⟨o,q⟩
  refine wpAny_letOwnedTupleGo_enum (s:={ s with heap:=h',toks:=s.toks+1 }) z1 fun h'' z8 z9=>?_
  have hfz:=hf e (by simp)
  have neT:∀ b,b∈[e,it]->b≠s.heap.objs.size:=fun b hb q=>by
   have st':∃ o,s.heap.get? b=some o:=by
    simp only [List.mem_cons,List.mem_nil_iff,or_false] at hb
    rcases hb with rfl | rfl
    ·exact ⟨_,hz⟩
    ·obtain ⟨o,q,_⟩:=h1;exact ⟨o,q⟩
   obtain ⟨o,ho⟩:=st'
   have:=Heap.lt_size ho
   rw [q] at this
   exact Nat.lt_irrefl _ this
  have hTH:∀ b∈[e,it],upd H s.heap.objs.size (.tup [.int i,x]) b=none:=fun b hb=>by rw [AJ (neT b hb)];exact (hf b hb).1
  have I2:Inv X pins σ (upd H s.heap.objs.size (.tup [.int i,x])) { s with heap:=h'',toks:=s.toks+1 } :=
   I1.turned (t':=s.toks+1) (fun b o hb q=>(z9.2 b hb).trans q) (hTH e (by simp)) hfz.2.1 hfz.2.2.2.1 hfz.2.2.2.2.1 hfz.2.2.2.2.2
  have up:∀ b o,b≠e->h'.get? b=some o->h''.get? b=some o:=fun b o hb q=>(z9.2 b hb).trans q
  exact ⟨.ref s.heap.objs.size,_,I2,rfl,⟨_,x,I.hok.fresh (Nat.le_refl _),rfl,rfl,fun xs' h=>by rw [I.list_inj h hq1];exact hx⟩,⟨⟨_,z8⟩,z2.at fun o q=>up _ o (Ne.symm hne) q⟩,hTH⟩
 done:=by
  intro X hP hw hK hc i pins s σ H E I hf st hg
  subst hP hw hK
  obtain ⟨xs,hq1,hl⟩:=hg
  obtain ⟨⟨old,hz⟩,h1⟩:=st
  obtain ⟨its,rv,p,_⟩:=I.list hq1
  have e1:=rv.length
  refine wpAny_pyNext_enum_end (I.ok.hd hc) hz h1 p.isList (by simp;lia) fun h' z7=>⟨rfl,?_⟩
  obtain ⟨f0,f1,f2,f3,f4,f5⟩:=hf it (by simp)
  exact I.turned (t':=s.toks) (fun b o hb q=>z7 b o hb q) f0 f1 f3 f4 f5
 self:=fun _ _ _ _ _ st h=>wpAny_pyIter_enum st.1.choose_spec h
section
variable {X:Cx}
noncomputable def MJ (K:W.Frag) (ta:TA):TI:=fun σ H R=>ta σ H fun vs H1=>match vs with
 | [.ref a]=>(∃ xs,SqL K H1 a xs)/\R (Ite K a) H1
 | _=>False
theorem MQ {K:W.Frag} {a:Expr} {ta:TA} {p pos:Pos} {es:List Expr} {kt:Nat} {tpos:Pos} (hg:Gl X "enumerate") (hm:X.mg "enumerate" = none) (ha:PA X [a] ta)
 (hs:starEach [a] X.env=[(false,eval a X.env)]:=by rfl) (hK:X.K=K:=by rfl) :
 PI X (.Tuple es kt tpos) (.Call (.Name "enumerate" p) [a] [] pos) (MJ K ta):=by
 subst hK
 intro pins s σ H R I h
 refine Call_ (CP I hg hm (by rfl:bootBuiltins "enumerate" = some (.type "enumerate")) (PyProof.Rows.callWith_type1 (thn (ha pos pins s σ H _ I h) fun us s1 ⟨vs,H1,I1,r1,q1⟩=>?_) (by rw [hs];rfl) (by rfl)))
 match vs,q1,r1 with
 | [.ref l1],⟨⟨xs,hx⟩,q⟩,r1 =>
 cases r1 with
 | cons r rr =>
 cases rr
 cases r
 obtain ⟨its,rv,p1,_⟩:=I1.list hx
 refine call_enumerate_list p1.isList fun h' z1 z2 z3 z4=>?_
 refine wpAny_pyIter_enum (s:={ s1 with heap:=h' }) z1 ?_
 have I2:Inv X pins σ H1 { s1 with heap:=h' }:=I1.kept (t':=s1.toks) z4
 refine ⟨_,_,_,_,H1,rfl,I2,NB (l:=l1) (it:=s1.heap.objs.size) (Nat.ne_of_gt (Nat.lt_succ_self _)),⟨⟨_,z1⟩,z2⟩,fun b hb=>?_,q⟩
 refine I1.fpOk ?_ (I1.hok.fresh ?_)
 all_goals
  simp only [List.mem_cons,List.mem_nil_iff,or_false] at hb
  rcases hb with rfl | rfl
  ·exact Nat.le_succ _
  ·exact Nat.le_refl _
theorem OD {K:W.Frag} {ta:TA} (h:Bg ta):Du (MJ K ta):=fun σ H Q Q' k q=>h _ _ _ _ (fun vs _ q=>by
 match vs,q with
 | [.ref a],⟨h1,q⟩=>exact ⟨h1,k _ _ q⟩) q
theorem Rn {K:W.Frag} {l:Addr} {xs:List V} {g:TG} {tc:TT} {te:TE} {σc:St} {Q:VK} {H:Hp} (Pv:Nat->List V->Hp->Prop) (h0:Pv 0 [] H) (hl:∀ i zs H,i<=xs.length->Pv i zs H->SqL K H l xs) (hz:∀ i zs H,i < xs.length->Pv i zs H->zs.length < sizeLine)
 (hs:∀ i x zs H p,xs[i]? = some x->Pv i zs H->H p=none->g (.ref p) σc (upd H p (.tup [.int (i:Nat),x])) fun σ2 H2=>tc σ2 H2 fun b H3=>if b=true then te σ2 H3 fun v H4=>Pv (i+1) (zs++[v]) H4 else Pv (i+1) zs H3)
 (hd:∀ zs H,Pv xs.length zs H->∀ p,H p=none->Q (.ref p) (upd H p (.lst zs))):CY (Ite K l) g tc te σc Q H:=by
 refine ⟨fun i m zs H=>m=xs.length - i/\i<=xs.length/\Pv i zs H,⟨xs.length,by simp,Nat.zero_le _,h0⟩,?_⟩
 rintro i m zs H ⟨rfl,hi,p⟩
 have q1:=hl i zs H hi p
 by_cases hlt:i < xs.length
 ·refine .inr ⟨⟨xs,xs[i],q1,by simp [hlt]⟩,hz i zs H hlt p,Pv (i+1),fun zs' H' p'=>⟨xs.length - (i+1),by lia,rfl,hlt,p'⟩,?_⟩
  rintro v H' ⟨pp,x,hp,rfl,rfl,k1⟩
  exact hs i x zs H pp (k1 xs q1) p hp
 ·have e:i=xs.length:=by lia
  subst e
  exact .inl ⟨⟨xs,q1,Nat.le_refl _⟩,hd zs H p⟩
end
section
variable {X:Cx} {K:W.Frag}
end
section
variable {X:Cx} {pins:List (Addr × Obj)} {σ:St} {H:Hp} {s:Shared}
end
section
variable {X:Cx} {K:W.Frag}
end
open AutoSeq1 (wpAny_loadPart')
section
variable {prog:Program} {w:World} {A:Around} {E:Value->Shared->Prop} {s:Shared}
theorem Qx {j tp:Addr} {k:Nat} {its:Array Value} {z:Value} {Q:Value->Shared->Prop} (hj:s.heap.IsTupleIter j tp k) (hp:s.heap.IsTuple tp its) (hz:its[k]? = some z)
 (q:∀ h',h'.IsTupleIter j tp (k+1)->Heap.SameBut j s.heap h'->Q z { s with heap:=h' }):wpAny (model prog w) A (Builtin.SmallTypes.nextOf (.ref j)) Q E s:=by
 obtain ⟨ob,g1,g2,g3⟩:=id hj
 obtain ⟨ol,k1,_,nl,k3⟩:=hp
 unfold Builtin.SmallTypes.nextOf
 refine wpAny_bind (wpAny_callSpecial?_slot (name:=Str.ofString "__next__") hj.typeIs F.slot_tuple_iterator_next (wpAny_call_entry F.slot_tuple_iterator_next hj.typeIs F.entry_tuple_iterator_next ?_ (F.args_tuple_iterator_next_1 _)))
 show wpAny _ _ (field (.ref j) 0 >>= _) _ _ s
 refine wpAny_bind (wpAny_field g1 g3 (x:=.ref tp) rfl ?_)
 show wpAny _ _ (if (Value.ref tp == Value.none)=true then _ else _) _ _ s
 rw [if_neg (c:=(Value.ref tp == Value.none)=true) (fun z=>Bool.false_ne_true z)]
 show wpAny _ _ (field (.ref j) 1 >>= _) _ _ s
 refine wpAny_bind (wpAny_field g1 g3 (x:=.int k 0) rfl ?_)
 show wpAny _ _ (seqItems? (.ref tp) >>= _) _ _ s
 refine wpAny_bind (wpAny_seqItems k1 k3 ?_)
 simp only [Int.toNat_natCast,hz]
 refine wpAny_bind (wpAny_setField g1 g3 (by simp) (wpAny_pure ⟨z,rfl,wpAny_pure (q _ ?_ (Heap.SameBut.update ..))⟩))
 refine ⟨_,Heap.get?_update_self _ g1 (Obj.isFreed_of_fields (Obj.data_mapFields g3 _)),(Obj.cls_mapFields ..).trans g2,?_⟩
 rw [Obj.data_mapFields g3]
 simp [rawInt]
theorem K2 {j tp:Addr} {k:Nat} {its:Array Value} {Q:Value->Shared->Prop} (hh:A.handled=none) (hj:s.heap.IsTupleIter j tp k) (hp:s.heap.IsTuple tp its) (hz:its[k]? = none)
 (q:∀ h' e,Heap.ExtBut j s.heap h'->(∃ o,h'.get? e=some o/\o.cls=.type "StopIteration")->E (.ref e) { s with heap:=h' }):wpAny (model prog w) A (Builtin.SmallTypes.nextOf (.ref j)) Q E s:=by
 obtain ⟨ob,g1,g2,g3⟩:=id hj
 obtain ⟨ol,k1,_,nl,k3⟩:=hp
 unfold Builtin.SmallTypes.nextOf
 refine wpAny_bind (wpAny_callSpecial?_slot (name:=Str.ofString "__next__") hj.typeIs F.slot_tuple_iterator_next (wpAny_call_entry F.slot_tuple_iterator_next hj.typeIs F.entry_tuple_iterator_next ?_ (F.args_tuple_iterator_next_1 _)))
 show wpAny _ _ (field (.ref j) 0 >>= _) _ _ s
 refine wpAny_bind (wpAny_field g1 g3 (x:=.ref tp) rfl ?_)
 show wpAny _ _ (if (Value.ref tp == Value.none)=true then _ else _) _ _ s
 rw [if_neg (c:=(Value.ref tp == Value.none)=true) (fun z=>Bool.false_ne_true z)]
 show wpAny _ _ (field (.ref j) 1 >>= _) _ _ s
 refine wpAny_bind (wpAny_field g1 g3 (x:=.int k 0) rfl ?_)
 show wpAny _ _ (seqItems? (.ref tp) >>= _) _ _ s
 refine wpAny_bind (wpAny_seqItems k1 k3 ?_)
 simp only [Int.toNat_natCast,hz]
 refine wpAny_bind (wpAny_rule (wpAny_bind (wpAny_setField g1 g3 (by simp) ?_)))
 show wpAny _ _ (newExc (.type "StopIteration") [] >>= fun z=>_) _ _ _
 refine wpAny_bind ?_
 simp only [newExc,newTuple]
 refine wpAny_bind (wpAny_newObj_type (hd:=by size_fits) ?_)
 refine wpAny_bind (m:=firstArgMember _ _) (wpAny_of_eq (a:=Value.none) (by first | (simp only [firstArgMember];rfl) | rfl) ?_)
 refine wpAny_newObj_type (hd:=by size_fits) ?_
 simp only [raiseNew]
 refine wpAny_bind (wpAny_handled ?_)
 first | rw [hh] | rw [show A.in1.handled=none from hh]
 refine wpAny_bind (wpAny_pure (wpAny_throw ?_))
 exact q _ _ (((Heap.SameBut.update ..).extBut.push _).push _) ⟨_,Heap.get?_push_size _ rfl,rfl⟩
theorem Nn (hh:A.handled=none) (j tp:Addr) (hne:tp≠j) (its:Array Value) :
 Draws prog w A j [j,tp] its.size (fun k v=>its[k]? = some v) (fun k h=>h.IsTupleIter j tp k/\h.IsTuple tp its) where
 live:=fun _ _ st=>by obtain ⟨⟨o,ho,_⟩,_⟩:=st;exact ⟨o,ho⟩
 frame:=fun _ _ _ st hk=>by
  obtain ⟨st1,o,h1,h2⟩:=st
  exact ⟨st1.at fun o e=>hk j (by simp) o e,o,hk tp (by simp) o h1,h2⟩
 item:=fun k s Q E hi st hQ=>by
  refine Qx st.1 st.2 (z:=its[k]) (by simp [hi]) fun h' h1 h2=>?_
  exact hQ _ h' s.toks (by simp [hi]) ⟨h1,st.2.extBut h2.extBut hne⟩ h2
 done:=fun s Q E st hE=>K2 hh st.1 st.2 (by simp) hE
theorem Os (tp:Addr) (its:Array Value) (n:Nat) (dct:Option Addr) (sl:Array (Option Value)) :
 Meets (Builtin.«enumerate.__new__» ⟨[.type "enumerate",.ref tp],[]⟩) (fun _ R s=>s.heap.get? tp=some { cls:=.type "tuple",dict:=dct,data:=.seq its n,slots:=sl } /\
  R (.ok (.ret (.ref (s.heap.push { cls:=.type "tuple_iterator",data:=.fields #[.ref tp,.int 0 0] }).objs.size)))
   { s with heap:=(s.heap.push { cls:=.type "tuple_iterator",data:=.fields #[.ref tp,.int 0 0] }).push { cls:=.type "enumerate",data:=.fields #[.none,.bool false,.ref s.heap.objs.size,rawInt 0,.none,.none] } }) :=
 .of_wp fun prog w A R s h=>by
  obtain ⟨hp,g,d,tk,os⟩:=s
  obtain ⟨hl,h⟩:=h
  have hsub:=sub_enumerate
  have ht:Heap.IsTuple (Shared.heap ⟨hp,g,d,tk,os⟩) tp its:=⟨_,hl,rfl,n,rfl⟩
  wp_walk using wpAny_loadPart' hl
  refine wpAny_stack_any fun st=>wpAny_pure ?_
  split
  ·rename_i c _ _ _ _ _
   cases (c == Value.type "enumerate") <;> (wp_walk using wpAny_loadPart' hl,wpAny_pyIter_tuple ht;exact ⟨_,rfl,h⟩)
  ·wp_walk using wpAny_loadPart' hl,wpAny_pyIter_tuple ht
   exact ⟨_,rfl,h⟩
theorem TC {tp:Addr} {its:Array Value} {Q:Value->Shared->Prop} (ht:s.heap.IsTuple tp its)
 (h:∀ h',IsEnum h' (s.heap.objs.size+1) s.heap.objs.size 0 .none->h'.IsTupleIter s.heap.objs.size tp 0->(∀ b o,s.heap.get? b=some o->h'.get? b=some o)->Q (.ref (s.heap.objs.size+1)) { s with heap:=h' }) :
 wpAny (model prog w) A (call (.type "enumerate") [.ref tp]) Q E s:=by
 obtain ⟨⟨c,dct,dt,sl⟩,hl,hc,n,hd⟩:=ht
 cases (show c=.type "tuple" from hc)
 cases (show dt=.seq its n from hd)
 refine callType_new F.called_enumerate (by decide) (F.typeCall_enumerate_1 _) (F.newCall_enumerate_1 _) (fun obj=>F.args_object_init_2 obj _) F.entry_enumerate_new (Os tp its n dct sl) ⟨hl,?_⟩
 have z1:(s.heap.push { cls:=.type "tuple_iterator",data:=.fields #[.ref tp,.int 0 0] }).objs.size=s.heap.objs.size+1:=Heap.size_push ..
 show _/\_
 rw [z1]
 have z2:=Heap.get?_push_size (s.heap.push { cls:=.type "tuple_iterator",data:=.fields #[.ref tp,.int 0 0] }) (o:={ cls:=.type "enumerate",data:=.fields #[.none,.bool false,.ref s.heap.objs.size,rawInt 0,.none,.none] }) rfl
 rw [z1] at z2
 have z3:IsEnum _ (s.heap.objs.size+1) s.heap.objs.size 0 .none:=z2
 exact ⟨⟨_,z2,rfl⟩,h _ z3 ⟨_,Heap.get?_push_of_some _ (Heap.get?_push_size _ rfl),rfl,rfl⟩ fun b o x=>Heap.get?_push_of_some _ (Heap.get?_push_of_some _ x)⟩
end
noncomputable def GE (K:W.Frag) (l:Addr):It :=
 ⟨fun i H=>∃ xs x,SqT K H l xs/\xs[i]? = some x,
  fun i H v H'=>∃ p x,H p=none/\v=.ref p/\H'=upd H p (.tup [.int i,x])/\∀ xs,SqT K H l xs->xs[i]? = some x,
  fun i H=>∃ xs,SqT K H l xs/\xs.length<=i⟩
theorem SF {P:Program} {w:World} {K:W.Frag} {es:List Expr} {kt:Nat} {tpos:Pos} {e it l:Addr} (hne:e≠it) :
 Turn P w K (.Tuple es kt tpos) (GE K l) [e,it] e (fun i h=>(∃ old,IsEnum h e it (i:Int) old)/\h.IsTupleIter it l i) where
 mem:=by simp
 obj:=fun i h st b hb=>by
  obtain ⟨⟨old,hz⟩,⟨o1,e1,c1,d1⟩⟩:=st
  simp only [List.mem_cons,List.mem_nil_iff,or_false] at hb
  rcases hb with rfl | rfl
  ·exact ⟨_,hz,fun v q=>nomatch q⟩
  ·exact ⟨o1,e1,fun v q=>by rw [d1] at q;cases q⟩
 keep:=fun i h h' ⟨⟨old,hz⟩,h1⟩ k=>⟨⟨old,k e (by simp) _ hz⟩,h1.at fun o q=>k it (by simp) o q⟩
 item:=by
  intro X hP hw hK hc i pins s σ H E I hf st hg
  subst hP hw hK
  obtain ⟨xs,x,hq1,hx⟩:=hg
  obtain ⟨⟨old,hz⟩,h1⟩:=st
  obtain ⟨its,rv,p,_⟩:=I.tuple hq1
  obtain ⟨u,hu,ru⟩:=rv.get hx
  have hp:s.heap.IsTuple l its.toArray:=p
  have le:l≠e:=fun q=>by obtain ⟨o,g1,g2,_⟩:=hp;rw [q] at g1;rw [show s.heap.get? e=_ from hz] at g1;cases g1;exact absurd (show Value.type "enumerate" = Value.type "tuple" from g2) (by decide)
  have li:l≠it:=fun q=>by obtain ⟨o,g1,g2,_⟩:=hp;obtain ⟨o',g3,g4,_⟩:=h1;rw [q,g3] at g1;cases g1;rw [g4] at g2;exact absurd g2 (by decide)
  refine wpAny_pyNext_enum_itemD (Nn (A:=X.A.in1) (show X.A.in1.handled=none from I.ok.hd hc) it l li its.toArray) hz ⟨h1,hp⟩ ?_ hne (by simp [hne,Ne.symm le]) fun y h' tk py z1 z2' z3 z4 z5=>?_
  ·have:=(List.getElem?_eq_some_iff.mp hu).1
   simpa using this
  obtain ⟨z2,_⟩:=z2'
  have ey:y=u:=by
   have:its.toArray[i]? = some u:=by simpa using hu
   rw [this] at py
   exact (Option.some.inj py).symm
  subst ey
  refine ⟨_,rfl,?_⟩
  have z5':∀ b v,b∉[e,it]->s.heap.get? b=some v->h'.get? b=some v:=fun b v hb q=>by
   simp only [List.mem_cons,List.mem_nil_iff,or_false,not_or] at hb
   exact z5 b v hb.1 hb.2 q
  have I1:Inv X pins σ (upd H s.heap.objs.size (.tup [.int i,x])) { s with heap:=h' }:=by
   refine I.turnedNew (ch:=[e,it]) (fun b hb=>hf b hb) (Nat.le_refl _) z5' ?_ fun b hb=>?_
   ·exact ⟨Ae (show 2<=1000 by decide),[.int i tk,y],.cons ⟨_,rfl⟩ (.cons ru .nil),⟨_,z3,rfl,⟨_,rfl⟩,rfl⟩⟩
   ·simp only [List.mem_cons,List.mem_nil_iff,or_false] at hb
    rcases hb with rfl | rfl
    ·exact ⟨_,z1⟩
    ·obtain ⟨o,q,_⟩:=z2;exact ⟨o,q⟩
  refine wpAny_letOwnedTupleGo_enum (s:={ s with heap:=h',toks:=tk+1 }) z1 fun h'' z8 z9=>?_
  have hfz:=hf e (by simp)
  have neT:∀ b,b∈[e,it]->b≠s.heap.objs.size:=fun b hb q=>by
   have st':∃ o,s.heap.get? b=some o:=by
    simp only [List.mem_cons,List.mem_nil_iff,or_false] at hb
    rcases hb with rfl | rfl
    ·exact ⟨_,hz⟩
    ·obtain ⟨o,q,_⟩:=h1;exact ⟨o,q⟩
   obtain ⟨o,ho⟩:=st'
   have:=Heap.lt_size ho
   rw [q] at this
   exact Nat.lt_irrefl _ this
  have hTH:∀ b∈[e,it],upd H s.heap.objs.size (.tup [.int i,x]) b=none:=fun b hb=>by rw [AJ (neT b hb)];exact (hf b hb).1
  have I2:Inv X pins σ (upd H s.heap.objs.size (.tup [.int i,x])) { s with heap:=h'',toks:=tk+1 } :=
   I1.turned (t':=tk+1) (fun b o hb q=>(z9.2 b hb).trans q) (hTH e (by simp)) hfz.2.1 hfz.2.2.2.1 hfz.2.2.2.2.1 hfz.2.2.2.2.2
  have up:∀ b o,b≠e->h'.get? b=some o->h''.get? b=some o:=fun b o hb q=>(z9.2 b hb).trans q
  exact ⟨.ref s.heap.objs.size,_,I2,rfl,⟨_,x,I.hok.fresh (Nat.le_refl _),rfl,rfl,fun xs' h=>by rw [I.tuple_inj h hq1];exact hx⟩,⟨⟨_,z8⟩,z2.at fun o q=>up _ o (Ne.symm hne) q⟩,hTH⟩
 done:=by
  intro X hP hw hK hc i pins s σ H E I hf st hg
  subst hP hw hK
  obtain ⟨xs,hq1,hl⟩:=hg
  obtain ⟨⟨old,hz⟩,h1⟩:=st
  obtain ⟨its,rv,p,_⟩:=I.tuple hq1
  have e1:=rv.length
  have hp:s.heap.IsTuple l its.toArray:=p
  have hT:s.TypeIs (.ref e) "enumerate":=⟨_,hz,rfl⟩
  unfold pyNext
  refine wpAny_bind (wpAny_attempt (wpAny_callSpecial?_slot (name:=Str.ofString "__next__") hT F.slot_enumerate_next (wpAny_call_entry F.slot_enumerate_next hT F.entry_enumerate_next ?_ (F.args_enumerate_next_1 _))))
  show wpAny _ _ (field (.ref e) 2 >>= fun z=>_) _ _ _
  refine wpAny_bind (wpAny_field hz rfl (x:=.ref it) rfl ?_)
  refine wpAny_bind (K2 (by first | exact I.ok.hd hc | simpa using I.ok.hd hc) h1 hp (by simp;lia) fun h' x z7 hx'=>?_)
  obtain ⟨o,ho,hcl⟩:=hx'
  refine wpAny_bind (wpAny_isInstance (T:="StopIteration") (b:=true) ⟨o,ho,hcl⟩ isSubtype_stop (wpAny_pure ⟨rfl,?_⟩))
  obtain ⟨f0,f1,f2,f3,f4,f5⟩:=hf it (by simp)
  exact I.turned (t':=s.toks) (fun b o hb q=>z7 b o hb q) f0 f1 f3 f4 f5
 self:=fun _ _ _ _ _ st h=>wpAny_pyIter_enum st.1.choose_spec h
section
variable {X:Cx}
noncomputable def QI (K:W.Frag) (ta:TA):TI:=fun σ H R=>ta σ H fun vs H1=>match vs with
 | [.ref a]=>(∃ xs,SqT K H1 a xs)/\R (GE K a) H1
 | _=>False
theorem Ll {K:W.Frag} {a:Expr} {ta:TA} {p pos:Pos} {es:List Expr} {kt:Nat} {tpos:Pos} (hg:Gl X "enumerate") (hm:X.mg "enumerate" = none) (ha:PA X [a] ta)
 (hs:starEach [a] X.env=[(false,eval a X.env)]:=by rfl) (hK:X.K=K:=by rfl) :
 PI X (.Tuple es kt tpos) (.Call (.Name "enumerate" p) [a] [] pos) (QI K ta):=by
 subst hK
 intro pins s σ H R I h
 refine Call_ (CP I hg hm (by rfl:bootBuiltins "enumerate" = some (.type "enumerate")) (PyProof.Rows.callWith_type1 (thn (ha pos pins s σ H _ I h) fun us s1 ⟨vs,H1,I1,r1,q1⟩=>?_) (by rw [hs];rfl) (by rfl)))
 match vs,q1,r1 with
 | [.ref l1],⟨⟨xs,hx⟩,q⟩,r1 =>
 cases r1 with
 | cons r rr =>
 cases rr
 cases r
 obtain ⟨its,rv,p1,_⟩:=I1.tuple hx
 refine TC (its:=its.toArray) p1 fun h' z1 z2 z4=>?_
 refine wpAny_pyIter_enum (s:={ s1 with heap:=h' }) z1 ?_
 have I2:Inv X pins σ H1 { s1 with heap:=h' }:=I1.kept (t':=s1.toks) z4
 refine ⟨_,_,_,_,H1,rfl,I2,SF (l:=l1) (it:=s1.heap.objs.size) (Nat.ne_of_gt (Nat.lt_succ_self _)),⟨⟨_,z1⟩,z2⟩,fun b hb=>?_,q⟩
 refine I1.fpOk ?_ (I1.hok.fresh ?_)
 all_goals
  simp only [List.mem_cons,List.mem_nil_iff,or_false] at hb
  rcases hb with rfl | rfl
  ·exact Nat.le_succ _
  ·exact Nat.le_refl _
theorem Jq {K:W.Frag} {l:Addr} {xs:List V} {g:TG} {tc:TT} {te:TE} {σc:St} {Q:VK} {H:Hp} (Pv:Nat->List V->Hp->Prop) (h0:Pv 0 [] H) (hl:∀ i zs H,i<=xs.length->Pv i zs H->SqT K H l xs) (hz:∀ i zs H,i < xs.length->Pv i zs H->zs.length < sizeLine)
 (hs:∀ i x zs H p,xs[i]? = some x->Pv i zs H->H p=none->g (.ref p) σc (upd H p (.tup [.int (i:Nat),x])) fun σ2 H2=>tc σ2 H2 fun b H3=>if b=true then te σ2 H3 fun v H4=>Pv (i+1) (zs++[v]) H4 else Pv (i+1) zs H3)
 (hd:∀ zs H,Pv xs.length zs H->∀ p,H p=none->Q (.ref p) (upd H p (.lst zs))):CY (GE K l) g tc te σc Q H:=by
 refine ⟨fun i m zs H=>m=xs.length - i/\i<=xs.length/\Pv i zs H,⟨xs.length,by simp,Nat.zero_le _,h0⟩,?_⟩
 rintro i m zs H ⟨rfl,hi,p⟩
 have q1:=hl i zs H hi p
 by_cases hlt:i < xs.length
 ·refine .inr ⟨⟨xs,xs[i],q1,by simp [hlt]⟩,hz i zs H hlt p,Pv (i+1),fun zs' H' p'=>⟨xs.length - (i+1),by lia,rfl,hlt,p'⟩,?_⟩
  rintro v H' ⟨pp,x,hp,rfl,rfl,k1⟩
  exact hs i x zs H pp (k1 xs q1) p hp
 ·have e:i=xs.length:=by lia
  subst e
  exact .inl ⟨⟨xs,q1,Nat.le_refl _⟩,hd zs H p⟩
end
structure Feed (H:Hp) (t:Addr):Prop where
 at_:∃ a b k c:Int,0<=a/\H t=some (.lst [.int a,.int b,.int k,.int c])
theorem Feed.same {H H':Hp} {t:Addr} (F:Feed H t) (h:Same H H'):Feed H' t:=by
 obtain ⟨a,b,k,c,h1,h2⟩:=F.at_
 exact ⟨a,b,k,c,h1,h _ _ h2⟩
theorem Feed.upd {H:Hp} {t p:Addr} {o:HO} (F:Feed H t) (h:H p=none):Feed (L2.upd H p o) t:=F.same (Same.upd h)
theorem Feed.free {H H':Hp} {t p:Addr} (F:Feed H' t) (h:Frm t H H') (hp:H' p=none):H p=none:=by
 cases e:H p with
 | none=>rfl
 | some o =>
  by_cases hpt:p=t
  ·subst hpt
   obtain ⟨a,b,k,c,_,h3⟩:=F.at_
   rw [h3] at hp;cases hp
  ·rw [h p o hpt e] at hp;cases hp
theorem Hh (a b:Nat):Builtin.bitAnd (a:Int) (b:Int)=((a &&& b:Nat):Int):=by
 unfold Builtin.bitAnd
 rw [decide_eq_true (Int.natCast_nonneg a),decide_eq_true (Int.natCast_nonneg b)]
 rfl
noncomputable def iL (xs:List Nat):List V:=xs.map fun i=>V.int (i:Nat)
noncomputable def iD (xs:List Nat):List Dv:=xs.map fun i=>Dv.int (i:Nat)
theorem At (xs:List Nat):(iL xs).length=xs.length:=by unfold iL;rw [List.length_map]
theorem CS (xs ys:List Nat):iL (xs++ys)=iL xs++iL ys:=by unfold iL;rw [List.map_append]
theorem Cu {xs:List Nat} {i:Nat} {v:V} (h:(iL xs)[i]? = some v):∃ x,xs[i]? = some x/\x∈xs/\v=.int (x:Nat):=by
 unfold iL at h
 rw [List.getElem?_map] at h
 cases e:xs[i]? with
 | none=>rw [e] at h;cases h
 | some x=>rw [e] at h;exact ⟨x,rfl,List.mem_of_getElem? e,(Option.some.inj h).symm⟩
theorem Kw {K:W.Frag} {H:Hp}:∀ xs:List Nat,Reps K H (iD xs) (iL xs)
 | []=>by unfold iD iL Reps;rfl
 | x::xs=>by
  show Reps K H (Dv.int (x:Nat)::iD xs) (V.int (x:Nat)::iL xs)
  unfold Reps
  exact ⟨_,_,rfl,by unfold Rep;rfl,Kw xs⟩
theorem Sj {H0 H:Hp} {t:Addr} {o:HO} (s:Same H0 H) (ht:H0 t=none):Same H0 (upd H t o):=fun b u e=>by
 rw [AJ (BL e ht)];exact s b u e
theorem Same.sqT {K:W.Frag} {H H':Hp} {a:Addr} {xs:List V} (e:Same H H') (h:SqT K H a xs):SqT K H' a xs:=FW h (fun o k=>e _ _ k)
theorem Same.sqL {K:W.Frag} {H H':Hp} {a:Addr} {xs:List V} (e:Same H H') (h:SqL K H a xs):SqL K H' a xs:=K4 h (fun o k=>e _ _ k)
noncomputable def JD (f:Nat->Int):Nat->Int
 | 0=>0
 | n+1=>JD f n+f n
noncomputable def chi:Nat->Nat->Nat->Int
 | 0,_,_=>1
 | n+1,a,b=>(if a % 2=1/\b % 2=1 then -1 else 1) * chi n (a / 2) (b / 2)
noncomputable def hs (v:Nat->Int) (s k:Nat):Int:=JD (fun j=>chi s (k % 2 ^ s) j * v (k / 2 ^ s * 2 ^ s+j)) (2 ^ s)
noncomputable def MG:Nat->Nat->Nat
 | 0,_=>0
 | f+1,x=>x % 2+MG f (x / 2)
@[irreducible] noncomputable def UW (x:Nat):Nat:=MG 64 x
noncomputable def MZ (q:Nat × Int):Dv:=.tup [.int q.1,.int q.2]
noncomputable def Ff (m:Nat) (ts:List (Nat × Int)):Dv:=.tup [.int m,.tup (ts.map MZ)]
structure SumAt (K:W.Frag) (H:Hp) (v:V) (m:Nat) (ts:List (Nat × Int)):Prop where
 at_:∃ (a b:Addr) (vs:List V),v=.ref a/\SqT K H a [.int m,.ref b]/\SqT K H b vs/\Reps K H (ts.map MZ) vs
theorem SumAt.of {K:W.Frag} {H:Hp} {v:V} {m:Nat} {ts:List (Nat × Int)} (h:Rep K H (Ff m ts) v):SumAt K H v m ts:=by
 unfold Ff Rep at h
 obtain ⟨a,xs,rfl,ha,hr⟩:=h
 unfold Reps at hr
 obtain ⟨x,r,rfl,h1,hr⟩:=hr
 unfold Rep at h1;subst h1
 unfold Reps at hr
 obtain ⟨x,r,rfl,h2,hr⟩:=hr
 unfold Reps at hr;subst hr
 unfold Rep at h2
 obtain ⟨b,vs,rfl,hb,hr⟩:=h2
 exact ⟨a,b,vs,rfl,ha,hb,hr⟩
theorem SumAt.rep {K:W.Frag} {H:Hp} {v:V} {m:Nat} {ts:List (Nat × Int)} (h:SumAt K H v m ts):Rep K H (Ff m ts) v:=by
 obtain ⟨a,b,vs,rfl,ha,hb,hr⟩:=h.at_
 unfold Ff Rep
 refine ⟨a,_,rfl,ha,Ab EV (Ab ?_ Af)⟩
 unfold Rep
 exact ⟨b,vs,rfl,hb,hr⟩
theorem SumAt.same {K:W.Frag} {H H':Hp} {v:V} {m:Nat} {ts:List (Nat × Int)} (h:SumAt K H v m ts) (s:Same H H'):SumAt K H' v m ts:=.of (Rep.same s _ _ h.rep)
noncomputable def gB (bs:List Bool) (i:Nat):Bool:=bs.getD i false
theorem Me {bs:List Bool} {i:Nat} (h:i < bs.length):gB bs i=bs[i]:=by unfold gB;rw [List.getD_eq_getElem?_getD,List.getElem?_eq_getElem h];rfl
theorem Hu {bs:List Bool} {i:Nat} (h:i < bs.length):atI (bs.map V.bl) ((i:Nat):Int)=some (.bl (gB bs i)):=by
 rw [Me h]
 exact BI rfl (by rw [List.getElem?_map,List.getElem?_eq_getElem h];rfl)
theorem Feed.lst {H:Hp} {t:Addr} (F:Feed H t):∃ zs,H t=some (.lst zs):=by
 obtain ⟨a,b,k,c,_,h⟩:=F.at_
 exact ⟨_,h⟩
section
variable {X:Cx} {K:W.Frag}
end
noncomputable def Nb (x:Int) (k:Nat):Prop:=x.natAbs < 2 ^ k
theorem Nb.mul {x y:Int} {a b:Nat} (hx:Nb x a) (hy:Nb y b):Nb (x * y) (a+b):=by
 unfold Nb at *
 rw [Int.natAbs_mul,Nat.pow_add]
 exact Nat.mul_lt_mul'' hx hy
theorem Nb.up {x:Int} {a b:Nat} (hx:Nb x a) (h:a<=b):Nb x b:=Nat.lt_of_lt_of_le hx (Nat.pow_le_pow_right (by decide) h)
theorem Nb.pow {x:Int} {a:Nat} (hx:Nb x a):∀ i,Nb (x ^ i) (a * i+1)
 | 0=>by unfold Nb;rw [Int.pow_zero];show 1 < 2 ^ (a * 0+1);rw [Nat.mul_zero];decide
 | i+1=>by
  rw [Int.pow_succ]
  have:=(hx.pow i).mul hx
  rw [show a * (i+1)+1=a * i+1+a by rw [Nat.mul_succ];lia]
  exact this
theorem Nb.okMul {x y:Int} (hx:Nb x 4000) (hy:Nb y 4000):okMul x y:=.inl ⟨hx.up (by decide),hy.up (by decide)⟩
noncomputable def Eb (H:Hp) (Q:VK) (xs:List V):Prop:=∀ p H',H p=none->Same H H'->H' p=some (.lst xs)->Q (.ref p) H'
theorem Be {H:Hp} {Q Q':VK} {xs:List V} (h:∀ v H,Q v H->Q' v H) (q:Eb H Q xs):Eb H Q' xs:=fun p H' a b c=>h _ _ (q p H' a b c)
theorem PX (f:Nat->Bool) (n:Nat):((List.range (n+1)).map f).map V.bl=((List.range n).map f).map V.bl++[V.bl (f n)]:=by
 rw [List.range_succ,List.map_append,List.map_append];rfl
theorem Pr {td ty tv:TE} (h1:AV td) (h2:AV ty) (h3:AV tv):BP (Iw td ty tv):=fun D D' σ H h q=>h3 _ _ _ _ (fun _ _ q=>h1 _ _ _ _ (fun _ _ q=>h2 _ _ _ _ (fun _ _ ⟨a,H4,e,g,q⟩=>⟨a,H4,e,g,h.nx _ _ q⟩) q) q) q
theorem FB {A:Around} (h:A.units+60 < cLine):A.units+1 < cLine:=by lia
end L2
namespace HT
open PySem PyProof.Rows
section
variable {prog:Program} {w:World} {A:Around} {E:Value->Shared->Prop} {s:Shared}
end
end HT
namespace L2
open PySem PySem.Spec PyProof.Rows
section
variable {X:Cx} {K:W.Frag} {e sx:Expr} {te ts:TE} {lo hi:Option Expr} {tl th:TO} {pos p2:Pos}
noncomputable def mIs (neg:Bool):R2:=fun x y H Q=>match x,y with
 | .bl a,.bl b=>Q (.bl (neg ^^ (a == b))) H
 | x,.non=>Q (.bl (neg ^^ decide (x=.non))) H
 | _,_=>False
theorem Je:OpR X (compareOp .Is) (mIs false):=by
 intro pins s σ H x y v u Q I rx ry h
 unfold mIs at h
 split at h
 ·cases rx;cases ry
  rename_i a b
  exact wpAny_of_eq (show compareOp .Is (.bool a) (.bool b)=pure (.bool (a == b)) by cases a <;> cases b <;> rfl) ⟨.bl (a == b),H,I,rfl,by rw [Bool.false_xor] at h;exact h⟩
 ·exact Of pins s σ H _ _ v u Q I rx ry ⟨rfl,by rw [Bool.false_xor] at h;exact h⟩
 ·exact h.elim
theorem Ho:OpR X (compareOp .IsNot) (mIs true):=by
 intro pins s σ H x y v u Q I rx ry h
 unfold mIs at h
 split at h
 ·cases rx;cases ry
  rename_i a b
  exact wpAny_of_eq (show compareOp .IsNot (.bool a) (.bool b)=pure (.bool (!(a == b))) by cases a <;> cases b <;> rfl) ⟨.bl (!(a == b)),H,I,rfl,by rw [Bool.true_xor] at h;exact h⟩
 ·exact Mt pins s σ H _ _ v u Q I rx ry ⟨rfl,by rw [Bool.true_xor] at h;exact h⟩
 ·exact h.elim
theorem RT {neg:Bool}:BS (mIs neg):=fun x y H Q Q' h q=>by
 unfold mIs at *
 split at q
 ·exact h _ _ q
 ·exact h _ _ q
 ·exact q.elim
end
structure GFeed (H:Hp) (t:Addr) (N:Nat):Prop where
 at_:∃ (l:Addr) (i g c:Int) (ns:List Int),0<=i/\0<=g/\0<=c/\c<=N/\H t=some (.lst [.ref l,.int i,.int g,.int c])/\l≠t/\H l=some (.lst (ns.map V.int))/\ns.length≠0
theorem GFeed.same {H H':Hp} {t:Addr} {N:Nat} (F:GFeed H t N) (h:Same H H'):GFeed H' t N:=by
 obtain ⟨l,i,g,c,ns,h1,h2,h3,h4,h5,h6,h7,h8⟩:=F.at_
 exact ⟨l,i,g,c,ns,h1,h2,h3,h4,h _ _ h5,h6,h _ _ h7,h8⟩
theorem GFeed.upd {H:Hp} {t p:Addr} {o:HO} {N:Nat} (F:GFeed H t N) (h:H p=none):GFeed (L2.upd H p o) t N:=F.same (Same.upd h)
theorem GFeed.mono {H:Hp} {t:Addr} {N N':Nat} (F:GFeed H t N) (h:N<=N'):GFeed H t N':=by
 obtain ⟨l,i,g,c,ns,h1,h2,h3,h4,h5⟩:=F.at_
 exact ⟨l,i,g,c,ns,h1,h2,h3,by lia,h5⟩
theorem GFeed.lst {H:Hp} {t:Addr} {N:Nat} (F:GFeed H t N):∃ zs,H t=some (.lst zs):=by
 obtain ⟨l,i,g,c,ns,h1,h2,h3,h4,h5,_⟩:=F.at_
 exact ⟨_,h5⟩
theorem GFeed.neT {H:Hp} {t p:Addr} {N:Nat} (F:GFeed H t N) (hp:H p=none):p≠t:=fun e=>by
 obtain ⟨zs,h⟩:=F.lst
 rw [e,h] at hp;cases hp
theorem GFeed.free {H H':Hp} {t p:Addr} {N:Nat} (F:GFeed H' t N) (h:Frm t H H') (hp:H' p=none):H p=none:=by
 cases e:H p with
 | none=>rfl
 | some o =>
  by_cases hpt:p=t
  ·subst hpt
   obtain ⟨zs,h3⟩:=F.lst
   rw [h3] at hp;cases hp
  ·rw [h p o hpt e] at hp;cases hp
noncomputable def Ef:Sp:=fun vs H Q _=>match vs with
 | [.ref t,.int m]=>∃ N,GFeed H t N/\N<=1000000000/\okDiv m/\∀ d H',0<=d->d < m->GFeed H' t (N+1)->(∀ b,b≠t->H' b=H b)->Q (.int d) H'
 | _=>False
theorem QN:Ac Ef:=fun vs H Q Q' E h q=>by
 unfold Ef at *
 split at q
 ·obtain ⟨N,h1,h2,h3,q⟩:=q;exact ⟨N,h1,h2,h3,fun d H' a b c e=>h _ _ (q d H' a b c e)⟩
 ·exact q.elim
noncomputable def G7 (K:W.Frag):Sp:=fun vs H Q _=>match vs with
 | [.ref a]=>∃ ns:List Int,SqL K H a (ns.map V.int)/\∀ t H',H t=none->Same H H'->GFeed H' t 0->Q (.ref t) H'
 | _=>False
theorem GD {K:W.Frag} {H:Hp}:∀ ns:List Int,Reps K H (ns.map Dv.int) (ns.map V.int)
 | []=>Af
 | n::ns=>Ab EV (GD ns)
theorem KO:∀ ns:List Int,Bu (ns.map Dv.int)=0
 | []=>by rw [List.map_nil];unfold Bu;rfl
 | n::ns=>by rw [List.map_cons];unfold Bu;rw [KO ns];unfold Ap;rfl
theorem Bt {K:W.Frag} {H:Hp}:∀ bs:List Bool,Reps K H (bs.map Dv.bl) (bs.map V.bl)
 | []=>Af
 | b::bs=>Ab NP (Bt bs)
theorem DL {K:W.Frag} {H:Hp} {ds:List Dv} {v:V} (h:Rep K H (.tup ds) v):∃ a xs,v=.ref a/\SqT K H a xs/\Reps K H ds xs:=by unfold Rep at h;exact h
theorem Cj {K:W.Frag} {H:Hp} {p:Addr} {xs:List V} {ds:List Dv} (h:SqT K H p xs) (r:Reps K H ds xs):Rep K H (.tup ds) (.ref p):=by unfold Rep;exact ⟨p,xs,rfl,h,r⟩
theorem Ja:∀ ds es:List Dv,Aq (ds++es)=(Aq ds && Aq es)
 | [],es=>by rw [List.nil_append];simp [Aq]
 | d::ds,es=>by
  rw [List.cons_append]
  show (BW d && Aq (ds++es))=(BW d && Aq ds && Aq es)
  rw [Ja ds es,Bool.and_assoc]
theorem Hv:∀ bs:List Bool,Aq (bs.map Dv.bl)=true
 | []=>rfl
 | b::bs=>by
  show (true && Aq (bs.map Dv.bl))=true
  rw [Hv bs];rfl
section
variable {X:Cx} {pins:List (Addr × Obj)} {σ:St} {H:Hp} {s:Shared}
theorem Inv.hold {d:Addr} {kvs:List (Key × V)} (I:Inv X pins σ H s) (h:H d=some (.dK kvs)):∃ o,s.heap.get? d=some o/\Inv X pins σ (upd H d (.frz o (.dK kvs))) s:=by
 obtain ⟨hl,hs,vs,r,dd⟩:=(show ObjOk X.prog X.w H s.heap d (.dK kvs) from I.hok d _ h)
 obtain ⟨o,es,ep,ho,rest⟩:=id dd
 refine ⟨o,ho,?_⟩
 have:=I.write (x:=d) (e:=d) (o:=.frz o (.dK kvs)) (h':=s.heap) (t':=s.toks) (by rw [h];exact True.intro) (.inl rfl) (fun b u _ q=>q) ⟨o,ho⟩ ⟨ho,hl,hs,vs,r,dd⟩
 exact this
theorem Inv.held {d:Addr} {o:Obj} {kvs:List (Key × V)} (I:Inv X pins σ H s) (h:H d=some (.frz o (.dK kvs))):s.heap.get? d=some o/\(d == sysModules)=false/\kvs.length<=sizeLine/\∃ vs,KV kvs vs/\s.heap.DictOf (BQ X.prog X.w) d vs:=by
 obtain ⟨ho,hl,hs,vs,r,dd⟩:=(show ObjOk X.prog X.w H s.heap d (.frz o (.dK kvs)) from I.hok d _ h)
 exact ⟨ho,hs,hl,vs,r,dd⟩
theorem KV.get {kvs:List (Key × V)} {vs:List (Key × Value)} (r:KV kvs vs):∀ {i:Nat} {q:Key × V},kvs[i]? = some q->∃ v,vs[i]? = some (q.1,v)/\RelV q.2 v:=by
 induction r with
 | nil=>intro i q e;simp at e
 | @cons a b l1 l2 h t ih =>
  intro i q e
  cases i with
  | zero =>
   simp at e;subst e
   obtain ⟨b1,b2⟩:=b
   obtain ⟨h1,h2⟩:=h
   exact ⟨b2,by simp;exact h1.symm,h2⟩
  | succ i =>
   obtain ⟨v,h1,h2⟩:=ih (i:=i) (q:=q) (by simpa using e)
   exact ⟨v,by simpa using h1,h2⟩
theorem KV.len {kvs:List (Key × V)} {vs:List (Key × Value)} (r:KV kvs vs):kvs.length=vs.length:=Paired.length r
theorem Qq {k:Key} {u:Value} (h:C2 k u=true):RelV (kV k) u:=by
 rcases keyIs_shape h with ⟨i,t,rfl,rfl⟩ | ⟨x,t,rfl,rfl⟩
 ·exact ⟨t,rfl⟩
 ·exact ⟨t,rfl⟩
end
noncomputable def Itm (d:Addr) (o:Obj):It :=
 ⟨fun i H=>∃ kvs q,H d=some (.frz o (.dK kvs))/\kvs[i]? = some q,
  fun i H v H'=>∃ p kvs q,H d=some (.frz o (.dK kvs))/\kvs[i]? = some q/\H p=none/\v=.ref p/\H'=upd H p (.tup [kV q.1,q.2]),
  fun i H=>∃ kvs,H d=some (.frz o (.dK kvs))/\kvs.length<=i⟩
theorem IL {P:Program} {w:World} {h:Heap} {d:Addr} {o:Obj} {es:Array DictEntry} {ep:Nat} {vs:List (Key × Value)} (ho:h.get? d=some o) (hd:o.data=.dict es ep) (dd:h.DictOf (BQ P w) d vs):h.DictAt (BQ P w) d vs ep/\es.size=vs.length:=by
 obtain ⟨o',es',ep',h1,h2,h3,h4,h5,h6⟩:=dd
 rw [ho] at h1;cases h1
 rw [hd] at h3;cases h3
 exact ⟨⟨o,es,ho,h2,hd,h4,h5,h6⟩,by rw [<- h5.length];simp⟩
theorem OT:entryFor table "dict_itemiterator.__iter__" = some Builtin.«dict_keyiterator.__iter__» :=
 entryFor_alias (id':="dict_keyiterator.__iter__") (by kernel_rfl) (by first | rfl | decide +kernel) (by decide +kernel) (by kernel_rfl)
theorem Nx {prog:Program} {w:World} {A:Around} {E:Value->Shared->Prop} {s:Shared} {it d:Addr} {i n ep:Nat} {ok ov:Value} {Q:Value->Shared->Prop} (hz:IsItemIter s.heap it d i n ep ok ov) (h:Q (.ref it) s):wpAny (model prog w) A (pyIter (.ref it)) Q E s:=by
 have hT:s.TypeIs (.ref it) "dict_itemiterator":=⟨_,hz,rfl⟩
 refine wpAny_pyIter_slot hT F.slot_dict_itemiterator_iter (wpAny_call_entry F.slot_dict_itemiterator_iter hT OT ?_ (F.args_dict_itemiterator_iter_1 _))
 show wpAny _ _ (ret (.ref it)) _ _ s
 exact wpAny_pure ⟨_,rfl,"dict_itemiterator",_,hT,F.slot_dict_itemiterator_next.lookup,h⟩
theorem SA {P:Program} {w:World} {K:W.Frag} {ts:List Expr} {kt:Nat} {tpos:Pos} {it d:Addr} {o:Obj} {es:Array DictEntry} {ep:Nat} (hdat:o.data=.dict es ep) :
 Turn P w K (.Tuple ts kt tpos) (Itm d o) [it] it (fun i h=>∃ ok ov,IsItemIter h it d i es.size ep ok ov) where
 mem:=by simp
 obj:=fun i h st b hb=>by
  obtain ⟨ok,ov,hz⟩:=st
  obtain rfl:b=it:=by simpa using hb
  exact ⟨_,hz,fun v q=>nomatch q⟩
 keep:=fun i h h' ⟨ok,ov,hz⟩ k=>⟨ok,ov,k it (by simp) _ hz⟩
 item:=by
  intro X hP hw hK hc i pins s σ H E I hf st hg
  subst hP hw hK
  obtain ⟨kvs,q,hq1,hx⟩:=hg
  obtain ⟨ok,ov,hz⟩:=st
  obtain ⟨ho,hs,hl,vs,rv,dd⟩:=I.held hq1
  obtain ⟨da,hsz⟩:=IL ho hdat dd
  obtain ⟨u,hu,ru⟩:=rv.get hx
  rw [hsz] at hz
  refine wpAny_pyNext_items_item hz da hu fun key h' z0 z1 z2 z3 z4=>?_
  refine ⟨_,rfl,?_⟩
  have z4':∀ b v,b∉[it]->s.heap.get? b=some v->h'.get? b=some v:=fun b v hb q=>z4 b v (by simpa using hb) q
  have I1:Inv X pins σ (upd H s.heap.objs.size (.tup [kV q.1,q.2])) { s with heap:=h' }:=by
   refine I.turnedNew (ch:=[it]) (fun b hb=>hf b hb) (Nat.le_refl _) z4' ?_ fun b hb=>?_
   ·exact ⟨Ae (show 2<=1000 by decide),[key,u],.cons (Qq z0) (.cons ru .nil),⟨_,z2,rfl,⟨_,rfl⟩,rfl⟩⟩
   ·obtain rfl:b=it:=by simpa using hb
    exact ⟨_,z1⟩
  refine wpAny_letOwnedTupleGo_items (s:={ s with heap:=h' }) z1 fun h'' z8 z9=>?_
  have hfz:=hf it (by simp)
  have neT:it≠s.heap.objs.size:=fun q=>by
   have:=Heap.lt_size hz
   rw [q] at this
   exact Nat.lt_irrefl _ this
  have hTH:∀ b∈[it],upd H s.heap.objs.size (.tup [kV q.1,q.2]) b=none:=fun b hb=>by
   obtain rfl:b=it:=by simpa using hb
   rw [AJ neT];exact hfz.1
  have I2:Inv X pins σ (upd H s.heap.objs.size (.tup [kV q.1,q.2])) { s with heap:=h'' } :=
   I1.turned (t':=s.toks) (fun b o hb q=>(z9.2 b hb).trans q) (hTH it (by simp)) hfz.2.1 hfz.2.2.2.1 hfz.2.2.2.2.1 hfz.2.2.2.2.2
  rw [<- hsz] at z8
  exact ⟨.ref s.heap.objs.size,_,I2,rfl,⟨_,kvs,q,hq1,hx,I.hok.fresh (Nat.le_refl _),rfl,rfl⟩,⟨_,_,z8⟩,hTH⟩
 done:=by
  intro X hP hw hK hc i pins s σ H E I hf st hg
  subst hP hw hK
  obtain ⟨kvs,hq1,hl⟩:=hg
  obtain ⟨ok,ov,hz⟩:=st
  obtain ⟨ho,hs,hl',vs,rv,dd⟩:=I.held hq1
  obtain ⟨da,hsz⟩:=IL ho hdat dd
  have e1:=rv.len
  rw [hsz] at hz
  refine wpAny_pyNext_items_end (I.ok.hd hc) hz da (by simp;lia) fun h' z7=>⟨rfl,?_⟩
  obtain ⟨f0,f1,f2,f3,f4,f5⟩:=hf it (by simp)
  exact I.turned (t':=s.toks) (fun b o hb q=>z7 b o hb q) f0 f1 f3 f4 f5
 self:=fun A i s Q E st h=>by
  obtain ⟨ok,ov,hz⟩:=st
  exact Nx hz h
noncomputable def KP (x:V) (H:Hp) (R:Addr->Obj->Hp->Prop):Prop:=match x with
 | .ref d=>(∃ kvs,H d=some (.dK kvs)/\∀ o,R d o (upd H d (.frz o (.dK kvs))))\/∃ kvs o,H d=some (.frz o (.dK kvs))/\R d o H
 | _=>False
theorem Ow {X:Cx} {pins:List (Addr × Obj)} {σ:St} {H:Hp} {s:Shared} {x:V} {v:Value} {R:Addr->Obj->Hp->Prop} (I:Inv X pins σ H s) (r:RelV x v) (h:KP x H R) :
 ∃ d kvs o H2,v=.ref d/\Inv X pins σ H2 s/\H2 d=some (.frz o (.dK kvs))/\R d o H2:=by
 cases x with
 | ref d =>
  cases r
  rcases h with ⟨kvs,e,q⟩ | ⟨kvs,o,e,q⟩
  ·obtain ⟨o,ho,I2⟩:=I.hold e
   exact ⟨d,kvs,o,_,rfl,I2,AD,q o⟩
  ·exact ⟨d,kvs,o,H,rfl,I,e,q⟩
 | _=>exact False.elim h
noncomputable def Ou (to:TE):TI:=fun σ H R=>to σ H fun x H1=>KP x H1 fun d o H2=>R (Itm d o) H2
section
variable {X:Cx} {K:W.Frag} {tg oe:Expr} {to:TE} {ts:List Expr} {kt:Nat} {tpos apos cpos:Pos}
theorem OI (ho:PE X oe to) (hbase:attributeBase oe "items" X.env (eval oe X.env)=eval oe X.env:=by rfl) (hline:(apos.endLine == cpos.line)=true:=by rfl) :
 PI X (.Tuple ts kt tpos) (.Call (.Attribute oe "items" apos) [] [] cpos) (Ou to):=by
 intro pins s σ H R I h
 refine wpAny_Call_method0_late hbase hline (thn (ho pins s σ H _ I h) fun v s1 ⟨x,H1,I1,r1,q1⟩=>?_)
 obtain ⟨d,kvs,o,H2,rfl,I2,hd2,q⟩:=Ow I1 r1 q1
 obtain ⟨ho',hs,hl,vs,rv,dd⟩:=I2.held hd2
 obtain ⟨o',es,ep,e1,e2,e3,_⟩:=id dd
 rw [ho'] at e1;cases e1
 refine ⟨"dict","dict.items",PySem.F.plainAttrs_dict,PySem.F.slot_dict_items,PySem.F.type_dict_items,dd.typeIs,fun a ea=>?_,Calls.callWith_builtin rfl (PySem.evalArgs_none ?_)⟩
 ·cases ea;exact ⟨o,ho',e2.2.1⟩
 refine call_meetsIn PySem.F.slot_dict_items dd.typeIs PySem.F.entry_dict_items (PySem.F.args_dict_items_1 _) (meets_dict_items (BQ X.prog X.w) d hs) ⟨⟨vs,dd⟩,?_⟩
 have I3:Inv X pins σ H2 { s1 with heap:=s1.heap.push { cls:=.type "dict_items",data:=.fields #[.ref d] } }:=I2.kept (t':=s1.toks) fun b u e=>Heap.get?_push_of_some _ e
 have hv:(s1.heap.push { cls:=.type "dict_items",data:=.fields #[.ref d] }).IsItemsView s1.heap.objs.size d:=⟨_,Heap.get?_push_size _ rfl,rfl,rfl⟩
 obtain ⟨ho3,_,_,vs3,rv3,dd3⟩:=I3.held hd2
 obtain ⟨da,hsz⟩:=IL ho3 e3 dd3
 refine wpAny_pyIter_items (s:={ s1 with heap:=s1.heap.push { cls:=.type "dict_items",data:=.fields #[.ref d] } }) hv da ?_
 generalize s1.heap.push { cls:=.type "dict_items",data:=.fields #[.ref d] } = h3 at *
 refine ⟨h3.objs.size,[h3.objs.size],_,_,H2,rfl,I3.kept (t':=s1.toks) fun b o e=>Heap.get?_push_of_some _ e,SA e3,⟨.none,.none,?_⟩,fun b hb=>?_,q⟩
 ·rw [hsz];exact Heap.get?_push_size _ rfl
 ·obtain rfl:b=h3.objs.size:=by simpa using hb
  exact I3.fpOk (Nat.le_refl _) (I3.hok.fresh (Nat.le_refl _))
end
end L2
namespace L2
open PySem PyProof.Rows
section
variable {prog:Program} {w:World} {A:Around} {E:Value->Shared->Prop} {s:Shared}
end
section
variable {X:Cx}
end
end L2
namespace L2
open PySem PySem.Spec PyProof.Rows
end L2
namespace L2
open PySem PySem.Spec PyProof.Rows PySem.W
open Att (Ep LD Mr)
noncomputable def CdO (a:Addr) (q:Str):HO:=.ext fun h=>h.CodeRec (.ref a) q
theorem Pb {P:Program} {w:World} {H:Hp} {h:Heap} {a:Addr} {q:Str} (r:h.CodeRec (.ref a) q):ObjOk P w H h a (CdO a q):=by
 refine ⟨r,?_,fun h1 h2 p k=>?_⟩
 ·obtain ⟨c,o,vs,t,e,g,_⟩:=r
  cases e
  exact ⟨o,g⟩
 ·obtain ⟨c,o,vs,t,e,g,z⟩:=p
  cases e
  exact ⟨_,o,vs,t,rfl,k o g,z⟩
noncomputable def Lam (Pt:Addr) (pos:Pos) (q:Str) (H:Hp):Prop :=
 ∃ ps:Array Value,H Pt=some (.tbl ps)/\TriplesOk ps.toList/\(codeAmong pos ps.toList=none\/∃ c',codeAmong pos ps.toList=some (.ref c')/\H c'=some (CdO c' q))
noncomputable def Grow (Pt:Addr) (H H':Hp):Prop:=∀ b o,b≠Pt->H b=some o->H' b=some o
theorem Grow.refl (Pt:Addr) (H:Hp):Grow Pt H H:=fun _ _ _ e=>e
theorem Grow.trans {Pt:Addr} {H H1 H2:Hp} (a:Grow Pt H H1) (b:Grow Pt H1 H2):Grow Pt H H2:=fun c o n e=>b c o n (a c o n e)
theorem Grow.same {Pt:Addr} {H H':Hp} (h:Same H H'):Grow Pt H H':=fun b o _ e=>h b o e
theorem Lam.same {Pt:Addr} {pos:Pos} {q:Str} {H H':Hp} (l:Lam Pt pos q H) (h:Same H H'):Lam Pt pos q H':=by
 obtain ⟨ps,a,b,c⟩:=l
 refine ⟨ps,h _ _ a,b,?_⟩
 rcases c with c | ⟨c',c,d⟩
 ·exact .inl c
 ·exact .inr ⟨c',c,h _ _ d⟩
theorem NH {K:W.Frag} {Pt:Addr} {ps:Array Value} {H H':Hp} {a:Addr} {xs:List V} (s:Grow Pt H H') (hz:H Pt=some (.tbl ps)) (h1:SqT K H a xs):SqT K H' a xs:=by
 rcases h1 with (h1 | ⟨o,h1⟩) | h1
 ·exact .inl (.inl (s a _ (fun q=>by rw [q,hz] at h1;cases h1) h1))
 ·exact .inl (.inr ⟨o,s a _ (fun q=>by rw [q,hz] at h1;cases h1) h1⟩)
 ·exact .inr h1
noncomputable def BMn (mg:Str->Option Value) (h:Heap):Prop:=∃ bm ob,mg "__builtins__" = some (.ref bm)/\bm≠builtinsNs/\h.get? bm=some ob/\ob.cls=.type "module" /\ ob.dict=some builtinsNs/\ob.data=.plain
section
variable {X:Cx} {pins:List (Addr × Obj)} {σ:List (Option V)} {H:Hp} {s:Shared} {h':Heap}
theorem Inv.grow {Pt c':Addr} {ps more:Array Value} {t':Nat} {q:Str} (I:Inv X pins σ H s) (hP:H Pt=some (.tbl ps)) (hx:Heap.ExtBut Pt s.heap h') (hP':h'.get? Pt=some (tabObj (ps++more)))
 (hc:s.heap.objs.size<=c') (hr:h'.CodeRec (.ref c') q):Inv X pins σ (upd (upd H Pt (.tbl (ps++more))) c' (CdO c' q)) { s with heap:=h',toks:=t' }:=by
 have hcn:H c'=none:=I.hok.fresh hc
 have hcP:c'≠Pt:=fun z=>by rw [z,hP] at hcn;cases hcn
 have hn:∀ b,H b=none->b≠Pt:=fun b e z=>by rw [z,hP] at e;cases e
 have hs:∀ b u,H b=some u->b≠c':=fun b u e z=>by rw [z,hcn] at e;cases e
 have up:∀ b,b≠c'->b≠Pt->upd (upd H Pt (.tbl (ps++more))) c' (CdO c' q) b=H b:=fun b n1 n2=>by rw [AJ n1,AJ n2]
 refine I.un ⟨fun b o e n _ _=>hx b o (hn b n) e,fun b o e n _ _=>⟨o.slots,hx b o (hn b n) e⟩,fun b o e n _=>?_,fun b o e _=>?_,fun b xs e=>?_,fun b o u e=>?_,fun b qs e=>?_⟩ fun b u e=>?_
 ·rw [up b (Nat.ne_of_lt (Nat.lt_of_lt_of_le (Heap.lt_size e) hc)) (hn b n)];exact n
 ·by_cases z:b=Pt
  ·subst z;exact ⟨_,hP'⟩
  ·exact ⟨o,hx b o z e⟩
 ·have z:b≠Pt:=fun z=>by rw [z,hP] at e;cases e
  rw [up b (hs b _ e) z];exact e
 ·have z:b≠Pt:=fun z=>by rw [z,hP] at e;cases e
  rw [up b (hs b _ e) z];exact e
 ·by_cases z:b=Pt
  ·subst z
   rw [hP] at e;cases e
   exact ⟨more,by rw [AJ (Ne.symm hcP),AD]⟩
  ·exact ⟨#[],by rw [up b (hs b _ e) z,e];simp⟩
 ·by_cases z:b=c'
  ·subst z
   rw [AD] at e;cases e
   exact Pb hr
  ·rw [AJ z] at e
   by_cases y:b=Pt
   ·subst y
    rw [AD] at e;cases e
    exact hP'
   ·rw [AJ y] at e
    refine (I.hok b u e).stay (fun c v hc' r=>hx c v ?_ r) (fun c r=>?_) fun c xs r=>?_
    ·rcases hc' with k | k
     ·rw [k];exact y
     ·rintro rfl;rw [hP] at k;cases k
    ·rw [up c (hs c _ r) (fun k=>by rw [k,hP] at r;cases r)];exact r
    ·rw [up c (hs c _ r) (fun k=>by rw [k,hP] at r;cases r)];exact r
end
section
variable {prog:Program} {w:World} {A:Around} {s:Shared}
end
section
variable {X:Cx} {Pt c:Addr} {e:Expr} {te:TE} {p pos kpos lpos np cp sp:Pos} {x qual:Str} {params:Arguments} {scope:Scope} {kd:Nat} {i:Int} {K:W.Frag}
end
theorem OR {P:Program} {w:World} {K:W.Frag} {mg mb:Str->Option Value} {CX:CXT} {k:Nat} {fa a:Addr} {fd:FuncData} {x:Str} {sp:Sp} {s₁:Shared} {vs:List Value} {ns:List Int} {ts:List (Addr × Addr)}
 (KX:K.In s₁.heap) (hns:s₁.heap.Ns mainGlobals mg) (hb:s₁.heap.Ns builtinsNs mb) (hbb:∀ x:Str,x ≠ "__name__" -> mb x=bootBuiltins x) (hlim:s₁.heap.NoLimit) (hg:s₁.gens = #[])
 (ha:s₁.heap.get? a=some { cls:=.type "list",data:=.seq vs.toArray }) (hi:IntsAre vs ns) (hl:ns.length<=sizeLine) (hr:Room k callerA) (hbm:BMn mg s₁.heap) (hT:TabsAt ts s₁.heap) (hnt:noTabs K=true)
 (F:∀ base:Heap,K.In base->base.Ns mainGlobals mg->BMn mg base->FnOk P w K mg base CX k fa fd [x] sp) (hbind:∀ (s:Shared) (u:Value),BindsTo s fd ⟨[u],[]⟩ [(x,u)])
 (hsp:∀ H:Hp,(∀ q∈ts,H q.2=some (.tbl #[]))->SqL K H a (ns.map V.int)->sp [.ref a] H (fun v _=>v=.bl true) fun _ _ _=>False)
 (hCX:∀ H e s',CX [] H s₁ (fun _ _ _=>False) e s'->False) :
 codeAny (model P w) callerA (.call (.ref fa) ⟨[.ref a],[]⟩) (fun r s'=>r=.ok (.ret (.bool true))/\OldK s₁.heap s'.heap/\s'.os=s₁.os/\AllBare s'.gens) s₁:=by
 have rv:=KB hi
 have lenV:=hi.length
 have tabK:∀ b,b∈ts.map (·.2)->K.lookup b=none:=fun b hb'=>by
  obtain ⟨q,hq,rfl⟩:=List.mem_map.mp hb'
  cases e:K.lookup q.2 with
  | none=>rfl
  | some o =>
   have e1:=KX _ _ e
   rw [(hT q hq).2] at e1
   cases e1
   have h2:=List.all_eq_true.mp hnt (q.2,tabObj #[]) (mem_of_lookupK e)
   exact absurd (show false=true from h2) Bool.false_ne_true
 have tabO:∀ b,b∈ts.map (·.2)->s₁.heap.get? b=some (tabObj #[]):=fun b hb'=>by
  obtain ⟨q,hq,rfl⟩:=List.mem_map.mp hb'
  exact (hT q hq).2
 have core:∀ H:Hp,(∀ b,H b=none\/(∃ o xs,H b=some (.frz o (.lst xs)))\/(b∈ts.map (·.2)/\H b=some (.tbl #[])))->(∀ q∈ts,H q.2=some (.tbl #[]))->SqL K H a (ns.map V.int)->HOk P w H s₁.heap->(∀ b,H b≠none->b=a\/b∈ts.map (·.2))->(H a≠none->K.lookup a=none) ->
  codeAny (model P w) callerA (.call (.ref fa) ⟨[.ref a],[]⟩) (fun r s'=>r=.ok (.ret (.bool true))/\OldK s₁.heap s'.heap/\s'.os=s₁.os/\AllBare s'.gens) s₁:=by
  intro H hO hTs hS hok hA hK
  have base_of:∀ {b:Addr} {o:Obj},s₁.heap.get? b=some o->H b=none->(B8 s₁.heap H).get? b=some o:=fun e n=>MM e n
  have noA:∀ {b:Addr} {o:Obj},s₁.heap.get? b=some o->(∀ as n,o.data≠.seq as n)->(∀ as,o.data≠.fields as)->H b=none:=fun {b o} e d d2=>by
   cases q:H b with
   | none=>rfl
   | some u =>
    rcases hA b (by rw [q];simp) with e' | e'
    ·subst e'
     rw [ha] at e;cases e
     exact absurd rfl (d _ _)
    ·rw [tabO b e'] at e;cases e
     exact absurd rfl (d2 _)
  have nsK:∀ {b:Addr} {m:Str->Option Value},s₁.heap.Ns b m->(B8 s₁.heap H).Ns b m:=fun {b m} ⟨o,es,ep,e,d,r⟩=>⟨o,es,ep,base_of e (noA e (fun _ _=>by rw [d];simp) (fun _=>by rw [d];simp)),d,r⟩
  have hKb:K.In (B8 s₁.heap H):=fun b o e=>base_of (KX b o e) (by
   cases q:H b with
   | none=>rfl
   | some u =>
    rcases hA b (by rw [q];simp) with e' | e'
    ·subst e'
     rw [hK (by rw [q];simp)] at e;cases e
    ·rw [tabK b e'] at e;cases e)
  have hM:Mod K mg (B8 s₁.heap H):=⟨hKb,nsK hns,⟨mb,nsK hb,hbb⟩,let ⟨mc,h1,h2⟩:=hlim;⟨mc,nsK h1,h2⟩⟩
  have hBb:BMn mg (B8 s₁.heap H):=by
   obtain ⟨bm,ob,b1,b2,b3,b4,b5,b6⟩:=hbm
   exact ⟨bm,ob,b1,b2,base_of b3 (noA b3 (fun _ _=>by rw [b6];simp) (fun _=>by rw [b6];simp)),b4,b5,b6⟩
  have e0:Env0 P w K mg (B8 s₁.heap H) callerA [] s₁ H:=⟨rfl,hM,fun b o e=>LN e,Nat.le_of_eq (IT _ _),trivial,fun b hb=>absurd (show b∈([]:List Addr) from hb) (by simp),hok,.of_eq hg⟩
  refine codeAny_mono ((F _ hKb (nsK hns) hBb).run callerA [] s₁ H ⟨[.ref a],[]⟩ [.ref a] [.ref a] _ _ hr e0 (hbind s₁ (.ref a)) (.cons rfl .nil) (hsp H hTs hS)) fun r s' h=>?_
  cases r with
  | error e=>exact (hCX H e s' h).elim
  | ok fl =>
   cases fl with
   | next=>exact False.elim h
   | brk=>exact False.elim h
   | cont=>exact False.elim h
   | ret u =>
    obtain ⟨v,H',os,bare,un,hok',r',q⟩:=h
    have q':v=.bl true:=q
    subst q'
    obtain rfl:u=Value.bool true:=r'
    have kk:∀ b o,s₁.heap.get? b=some o->b∉ts.map (·.2)->s'.heap.get? b=some o:=fun b o e nb=>by
     cases q:H b with
     | none=>exact un.keep b o e q (by intro z;exact absurd (show b∈([]:List Addr) from z) (by simp)) (by simp)
     | some u =>
      rcases hO b with z | ⟨ob,xs,z⟩ | ⟨z,_⟩
      ·rw [q] at z;cases z
      ·have z2:=un.frzs b ob _ z
       obtain ⟨e1,_⟩:=hok b _ z
       obtain ⟨e2,_⟩:=hok' b _ z2
       rw [e] at e1;cases e1
       exact e2
      ·exact absurd z nb
    have tt:∀ b,b∈ts.map (·.2)->∃ more,s'.heap.get? b=some (tabObj more):=fun b hb'=>by
     obtain ⟨q,hq,rfl⟩:=List.mem_map.mp hb'
     obtain ⟨more,e⟩:=un.tbls _ _ (hTs q hq)
     exact ⟨_,hok' _ _ e⟩
    refine ⟨rfl,⟨fun b o e=>?_,fun b o e=>?_⟩,os,bare⟩
    ·by_cases z:b∈ts.map (·.2)
     ·obtain ⟨more,e2⟩:=tt b z
      have e3:=tabO b z
      rw [e] at e3;cases e3
      obtain ⟨q,hq,rfl⟩:=List.mem_map.mp z
      refine .inr (.inl ⟨((hT q hq).1.tab (hT q hq).2).isCodeTable,rfl,#[],more,rfl,by rw [e2];simp⟩)
     ·exact .inl (kk b o e z)
    ·by_cases z:b∈ts.map (·.2)
     ·obtain ⟨more,e2⟩:=tt b z
      exact ⟨_,e2⟩
     ·exact ⟨o,kk b o e z⟩
 have aT:a∉ts.map (·.2):=fun z=>by
  have e:=tabO a z
  rw [ha] at e;cases e
 have tm:∀ q∈ts,q.2∈ts.map (·.2):=fun q hq=>List.mem_map_of_mem hq
 cases hk:K.lookup a with
 | some o =>
  have e:=KX a o hk
  rw [ha] at e
  cases e
  refine core (fun b=>if b∈ts.map (·.2) then some (.tbl #[]) else none) (fun b=>?_) (fun q hq=>if_pos (tm q hq)) (.inr ⟨_,vs.toArray,_,hk,rfl,rfl,rfl,by rw [List.size_toArray,lenV];exact hl,by simpa using rv⟩) (fun b u z=>?_) (fun b z=>?_) fun z=>absurd (if_neg aT) z
  ·by_cases z:b∈ts.map (·.2)
   ·exact .inr (.inr ⟨z,if_pos z⟩)
   ·exact .inl (if_neg z)
  ·by_cases y:b∈ts.map (·.2)
   ·have z':=(if_pos y).symm.trans z
    cases z'
    exact tabO b y
   ·have z':=(if_neg y).symm.trans z
    cases z'
  ·by_cases y:b∈ts.map (·.2)
   ·exact .inr y
   ·exact absurd (if_neg y) z
 | none =>
  refine core (fun b=>if b=a then some (.frz { cls:=.type "list",data:=.seq vs.toArray } (.lst (ns.map V.int))) else if b∈ts.map (·.2) then some (.tbl #[]) else none) (fun b=>?_) (fun q hq=>?_) (.inl (.inr ⟨{ cls:=.type "list",data:=.seq vs.toArray },if_pos rfl⟩)) (fun b u z=>?_) (fun b z=>?_) fun _=>hk
  ·by_cases hb:b=a
   ·exact .inr (.inl ⟨_,_,if_pos hb⟩)
   ·by_cases y:b∈ts.map (·.2)
    ·exact .inr (.inr ⟨y,(if_neg hb).trans (if_pos y)⟩)
    ·exact .inl ((if_neg hb).trans (if_neg y))
  ·have hb:q.2≠a:=fun z=>aT (z ▸ tm q hq)
   exact (if_neg hb).trans (if_pos (tm q hq))
  ·by_cases hb:b=a
   ·have z':=(if_pos hb).symm.trans z
    cases z'
    subst hb
    exact ⟨ha,by rw [List.length_map];exact hl,vs,_,rv,ha⟩
   ·by_cases y:b∈ts.map (·.2)
    ·have z':=((if_neg hb).trans (if_pos y)).symm.trans z
     cases z'
     exact tabO b y
    ·have z':=((if_neg hb).trans (if_neg y)).symm.trans z
     cases z'
  ·by_cases hb:b=a
   ·exact .inl hb
   ·by_cases y:b∈ts.map (·.2)
    ·exact .inr y
    ·exact absurd ((if_neg hb).trans (if_neg y)) z
theorem walk_ofT {l:PySem.W.OpenLaw} {n k:Nat} {q:Program} {loose:List Str} {XP:(Str->Option Value)->Heap->Prop} {YP:World->Heap->Prop} {d:DefRec} {K:Params->W.Frag} {sp:World->List Addr->Sp} {x:Str}
 (hn:l.most=some n) (hn2:n<=sizeLine) (hdf:d.params.defaults=[]) (hr:Room k callerA)
 (hY:∀ (w:World) (h:Heap),YP w h->(K w.params).In h)
 (F:∀ (w:World) (mg:Str->Option Value) (fa:Addr) (h:Heap),YP w h->(K w.params).In h->h.Ns mainGlobals mg->mg d.name=some (.ref fa) ->
   ∃ (fd:FuncData) (ts:List (Addr × Addr)),TabsAt ts h/\noTabs (K w.params)=true/\(∀ (s:Shared) (u:Value),BindsTo s fd ⟨[u],[]⟩ [(x,u)]) /\
    ∀ base:Heap,(K w.params).In base->base.Ns mainGlobals mg->BMn mg base->FnOk l.prog w (K w.params) mg base CX0 k fa fd [x] (sp w (ts.map (·.2))))
 (hsp:∀ (w:World) (H:Hp) (a:Addr) (ns:List Int) (ts:List Addr),ns.length<=n->(∀ Pt∈ts,H Pt=some (.tbl #[]))->SqL (K w.params) H a (ns.map V.int)->sp w ts [.ref a] H (fun v _=>v=.bl true) fun _ _ _=>False) :
 PySem.W.WalkO q loose XP YP l.row.toRowW d [] (fun f vs=>PySem.call f vs):=by
 refine Att.attach_call hn hdf fun w s₀ s₁ mg mb fa o pm cd doc a vs ns G Y ho hd hcd hmg hobj hints hlen hg=>?_
 have KX:=hY w _ Y
 obtain ⟨fd,ts,hT,hnt,hb,hF⟩:=F w mg fa _ Y KX G.T.g hmg
 exact OR KX G.T.g G.T.b G.T.builtins G.T.nolimit hg hobj hints (Nat.le_trans hlen hn2) hr G.T.bmain hT hnt hF hb (fun H hO hS=>hsp w H a ns _ hlen (fun Pt hP=>by
  obtain ⟨q,hq,rfl⟩:=List.mem_map.mp hP
  exact hO q hq) hS) fun H e s' z=>z
theorem Fun.okC {P:Program} {w:World} {K:W.Frag} {mg:Str->Option Value} {base:Heap} {x qual:Str} {st:Stmt} {f c:Addr} {fd:FuncData} {N ps:List Str} {k:Nat} {sp:Sp} (F:Fun K x qual st f fd) (hc:fd.code=.ref c) (S:FnScope N ps (AH st)) (len:∀ vs H Q E,sp vs H Q E->vs.length=ps.length)
 (hbody:∀ (A:Around) (outer:List Env) (s:Shared) (H:Hp) (vs:List V) (Q:VK) (E:XK),Room k (A.deeper (envOfC qual (AH st) s.heap.objs.size f (.ref c)))->sp vs H Q E ->
   ∃ t,PSs (Cq CX0 P w K mg base N qual (AH st) f (.ref c) A outer s H E).nox (AS st) t/\t { nx:=fun _ H'=>Q .non H',rt:=Q } (CO N vs) H):FnOk P w K mg base CX0 (k+1) f fd ps sp:=by
 obtain ⟨oc,od,kV,doc,pm,an,cdv,ct,osl,rfl,lk,hcd⟩:=F.ex
 cases hc
 refine Jk lk hcd S len fun A outer s H vs Q E hr hsp=>?_
 obtain ⟨t,h,q⟩:=hbody A outer s H vs Q E hr hsp
 exact ⟨t,h.nox,q⟩
end L2
namespace L2
open PySem
noncomputable def FV (K:W.Frag) (ts:List Addr):Sp:=fun vs H Q _=>∃ (a:Addr) (ns:List Int),vs=[.ref a]/\SqL K H a (ns.map V.int)/\ns.length<=63/\(∀ Pt∈ts,H Pt=some (.tbl #[]))/\∀ H',Q (.bl true) H'
theorem NX {Pt:Addr} {pos:Pos} {q:Str} {H:Hp} (h:H Pt=some (.tbl #[])):Lam Pt pos q H:=⟨#[],h,trivial,.inl rfl⟩
end L2
namespace L2
open PySem PySem.Spec PyProof.Rows
section
variable {X:Cx} {tg oe:Expr} {to:TE} {apos cpos:Pos}
end
noncomputable def mIn (K:W.Frag) (neg:Bool):R2:=fun x y H Q=>match y with
 | .ref p=>∃ xs,(SqL K H p xs\/SqT K H p xs)/\B9 x=true/\xs.all B9=true/\Q (.bl (neg ^^ inV x xs)) H
 | _=>False
section
variable {X:Cx} {K:W.Frag}
theorem kIn (hK:X.K=K:=by rfl):OpR X (compareOp .In) (mIn K false):=by
 subst hK
 intro pins s σ H x y v u Q I rx ry h
 cases y with
 | ref p =>
  obtain ⟨xs,h1,h2,h3,q⟩:=h
  exact Oc pins s σ H x _ v u Q I rx ry ⟨p,xs,rfl,h1,h2,h3,by simpa using q⟩
 | _=>exact False.elim h
theorem OE (hK:X.K=K:=by rfl):OpR X (compareOp .NotIn) (mIn K true):=by
 subst hK
 intro pins s σ H x y v u Q I rx ry h
 cases y with
 | ref p =>
  obtain ⟨xs,h1,h2,h3,q⟩:=h
  exact UB pins s σ H x _ v u Q I rx ry ⟨p,xs,rfl,h1,h2,h3,by simpa using q⟩
 | _=>exact False.elim h
end
theorem Qw {K:W.Frag} {neg:Bool}:BS (mIn K neg):=fun x y H Q Q' h q=>by
 cases y with
 | ref p=>obtain ⟨xs,h1,h2,h3,q⟩:=q;exact ⟨xs,h1,h2,h3,h _ _ q⟩
 | _=>exact False.elim q
section
variable {X:Cx} {K:W.Frag}
noncomputable def MA (K:W.Frag):List V->Hp->VK->Prop:=fun xs H Q=>match xs with
 | [.ref l]=>∃ bs:List Bool,SqL K H l (bs.map V.bl)/\Q (.bl (bs.any id)) H
 | _=>False
theorem TH (hc:X.calm=true):CallR X (.builtin "any") (MA X.K):=by
 intro pins s σ H xs us Q I r q
 match xs,q with
 | [.ref l],q =>
 obtain ⟨bs,hl,q⟩:=q
 obtain ⟨u,rfl,ru⟩:=B2 r
 cases ru
 obtain ⟨its,rv,pl,hz⟩:=I.list hl
 have hlen:=rv.length
 rw [List.length_map] at hlen
 obtain ⟨o1,n1,g1,_⟩:=id pl
 have hlt:=Heap.lt_size g1
 refine call_any_walk (wpAny_pyIter_list pl.isList ?_)
 have hne:l≠s.heap.objs.size:=Nat.ne_of_lt hlt
 refine ⟨_,_,_,_,_,_,fun i=>bs.getD i false,rfl,Walks.list (A:=X.A.in1) (I.ok.hd hc) s.heap.objs.size l hne its.toArray,?_,?_,fun h' tk hk=>?_⟩
 ·exact ⟨⟨_,Heap.get?_push_size _ rfl,rfl,rfl⟩,(show s.heap.IsList l its.toArray from pl.isList).at fun o e=>Heap.get?_push_of_some _ e⟩
 ·intro i v s' Q' E' hv hq
  have hv:its.toArray[i]? = some v:=hv
  have hi:i < its.length:=by
   have:=(Array.getElem?_eq_some_iff.mp hv).1
   simpa using this
  have hb:(bs.map V.bl)[i]? = some (.bl bs[i]):=by rw [List.getElem?_map,List.getElem?_eq_getElem (by lia)];rfl
  obtain ⟨w',q1,q2⟩:=rv.get hb
  have e:v=w':=by simp at hv;rw [q1] at hv;exact (Option.some.inj hv).symm
  subst e
  cases q2
  refine wpAny_truthy_bool ?_
  have e2:bs.getD i false=bs[i]:=by rw [List.getD_eq_getElem?_getD,List.getElem?_eq_getElem (by lia)];rfl
  have hq:Q' (bs.getD i false) s':=hq
  rw [e2] at hq
  exact hq
 ·refine ⟨.bl _,H,I.kept (fun b o e=>hk b o ?_ (Heap.get?_push_of_some _ e)),rfl,?_⟩
  ·simp only [List.mem_singleton]
   exact Nat.ne_of_lt (Heap.lt_size e)
  ·have e:(List.range its.toArray.size).any (fun i=>bs.getD i false)=bs.any id:=by
    rw [List.size_toArray,<- hlen]
    rw [Bool.eq_iff_iff,List.any_eq_true,List.any_eq_true]
    constructor
    ·rintro ⟨i,hi,e⟩
     have hi':=List.mem_range.mp hi
     rw [List.getD_eq_getElem?_getD,List.getElem?_eq_getElem hi'] at e
     exact ⟨_,List.getElem_mem hi',e⟩
    ·rintro ⟨b,hb,e⟩
     obtain ⟨i,hi,rfl⟩:=List.mem_iff_getElem.mp hb
     refine ⟨i,List.mem_range.mpr hi,?_⟩
     rw [List.getD_eq_getElem?_getD,List.getElem?_eq_getElem hi]
     exact e
   rw [e]
   exact q
theorem Oz (hc:X.calm=true) (hK:X.K=K:=by rfl):CallR X (.builtin "any") (MA K):=hK ▸ TH hc
end
end L2
namespace L2
theorem on1 {α:Type} {P:List α->Prop} (h:∀ a,P [a]):∀ us:List α,us.length=1->P us
 | [a],_=>h a
theorem on2 {α:Type} {P:List α->Prop} (h:∀ a b,P [a,b]):∀ us:List α,us.length=2->P us
 | [a,b],_=>h a b
theorem on3 {α:Type} {P:List α->Prop} (h:∀ a b c,P [a,b,c]):∀ us:List α,us.length=3->P us
 | [a,b,c],_=>h a b c
theorem on4 {α:Type} {P:List α->Prop} (h:∀ a b c d,P [a,b,c,d]):∀ us:List α,us.length=4->P us
 | [a,b,c,d],_=>h a b c d
open PySem in
theorem star_lst {xs es:List PySem.Expr} {p:Pos} {env:Env}:starEach (.List xs p::es) env=(false,eval (.List xs p) env)::starEach es env:=by rfl
end L2
namespace L2
open PySem
noncomputable def Jw:Expr->Bool
 | .ListComp ..=>true
 | .SetComp ..=>true
 | .DictComp ..=>true
 | _=>false
theorem T5 {e:Expr} {t:Option Expr} {l:Nat} {env:Env} (h:Jw e=false):swapsWith e t l env=pure false:=by
 cases e <;> first | rfl | cases h
theorem SS {X:Cx} {pos:Pos} {i:Nat} {x:Str} {e:Expr} {te:TE} {pos':Pos} (hN:X.N.Nodup) (hi:X.N[i]? = some x) (hx:Loc X.env.scope x) (he:PE X e te) (hs:Jw e=false) (hf:X.fn x=true\/X.env.scope.names.lookup x=some .local) :
 PS X (.Assign [.Name x pos'] e pos) (Dg te (AR i)):=AM hN hi hx he (T5 hs) hf
end L2
namespace L2
open PySem PyProof.Rows
section
variable {prog:Program} {w:World} {A:Around} {E:Value->Shared->Prop} {s:Shared}
end
section
variable {X:Cx}
end
noncomputable abbrev Sn (h:Heap) (z TI TO:Addr) (f0 bb:Value):Prop :=
 h.get? z=some { cls:=.type "zip",dict:=none,data:=.fields #[f0,bb,.bool false,.ref TI,.ref TO],slots:=#[] }
section
variable {prog:Program} {w:World} {A:Around} {E:Value->Shared->Prop} {s:Shared}
end
section
variable {prog:Program} {w:World} {A:Around} {E:Value->Shared->Prop} {s:Shared}
structure ZS (z TI TO i1 i2 l1 l2 T0:Addr) (xs ys:Array Value) (i:Nat) (h:Heap):Prop where
 zp:(i=0/\IsZip h z TI TO .none)\/(0 < i/\(∃ b,Sn h z TI TO (rawInt T0) b)/\∃ a b,IsPair h T0 a b)
 ti:IsPair h TI (.ref i1) (.ref i2)
 to:∃ a b,IsPair h TO a b
 a1:h.IsTupleIter i1 l1 i
 a2:h.IsTupleIter i2 l2 i
 t1:h.IsTuple l1 xs
 t2:h.IsTuple l2 ys
theorem ZS.keep {z TI TO i1 i2 l1 l2 T0 S:Addr} {xs ys:Array Value} {i c:Nat} {h h':Heap} {acc:Array Value} (Z:ZS z TI TO i1 i2 l1 l2 T0 xs ys i h) (hS:h.get? S=some { cls:=.type "list",dict:=none,data:=.seq acc c,slots:=#[] })
 (k:∀ b o,b≠S->h.get? b=some o->h'.get? b=some o):ZS z TI TO i1 i2 l1 l2 T0 xs ys i h':=by
 have kk:∀ b o,h.get? b=some o->o.cls≠.type "list" -> h'.get? b=some o:=fun b o e n=>k b o (fun q=>by subst q;rw [hS] at e;cases e;exact n rfl) e
 obtain ⟨zp,ti,⟨a,b,to⟩,⟨o1,e1,c1,d1⟩,⟨o2,e2,c2,d2⟩,⟨p1,x1,y1,w1⟩,⟨p2,x2,y2,w2⟩⟩:=Z
 refine ⟨?_,kk _ _ ti (by simp),⟨a,b,kk _ _ to (by simp)⟩,⟨o1,kk _ _ e1 (by rw [c1];simp),c1,d1⟩,⟨o2,kk _ _ e2 (by rw [c2];simp),c2,d2⟩,⟨p1,kk _ _ x1 (by rw [y1];simp),y1,w1⟩,⟨p2,kk _ _ x2 (by rw [y2];simp),y2,w2⟩⟩
 rcases zp with ⟨e,q⟩ | ⟨e,⟨b,q⟩,⟨x,y,r⟩⟩
 ·exact .inl ⟨e,kk _ _ q (by simp)⟩
 ·exact .inr ⟨e,⟨b,kk _ _ q (by simp)⟩,⟨x,y,kk _ _ r (by simp)⟩⟩
end
section
variable {prog:Program} {w:World} {A:Around} {R:Result->Shared->Prop}
end
section
variable {prog:Program} {w:World} {A:Around} {R:Result->Shared->Prop} {s:Shared}
end
section
variable {prog:Program} {w:World} {A:Around} {E:Value->Shared->Prop} {s:Shared}
end
section
variable {X:Cx}
end
end L2
namespace L2
open PySem
noncomputable def ins:Nat->Nat->Nat->Nat
 | 0,b,q=>2 * q+b
 | i+1,b,q=>2 * ins i b (q / 2)+q % 2
end L2
namespace L2
open PySem PyProof.Rows
section
variable {prog:Program} {w:World} {A:Around} {E:Value->Shared->Prop} {s:Shared}
end
section
variable {prog:Program} {w:World} {K:Type} [DecidableEq K] {knd:KeyKind prog w K} {A:Around} {R:Result->Shared->Prop}
end
section
variable {prog:Program} {w:World} {K:Type} [DecidableEq K] {knd:KeyKind prog w K} {A:Around} {E:Value->Shared->Prop} {s:Shared}
end
section
variable {X:Cx}
end
noncomputable abbrev EnB (h:Heap) (e it:Addr) (i:Int) (f0 bb old:Value):Prop :=
 h.get? e=some { cls:=.type "enumerate",dict:=none,data:=.fields #[f0,bb,.ref it,rawInt i,.none,old],slots:=#[] }
section
variable {prog:Program} {w:World} {A:Around} {E:Value->Shared->Prop} {s:Shared}
end
section
variable {prog:Program} {w:World} {A:Around} {E:Value->Shared->Prop} {s:Shared}
noncomputable def ES (e it:Addr) (i:Nat) (h:Heap):Prop:=(∃ old,IsEnum h e it i old)\/∃ (T0:Addr) (bb old a b:Value),EnB h e it i (rawInt T0) bb old/\IsPair h T0 a b
end
section
variable {prog:Program} {w:World} {K:Type} [DecidableEq K] {knd:KeyKind prog w K} {A:Around} {R:Result->Shared->Prop}
theorem ES.keep {e it d:Addr} {i:Nat} {h h':Heap} {od:Obj} (Z:ES e it i h) (hd:h.get? d=some od) (hc:od.cls=.type "dict") (k:∀ b o,b≠d->h.get? b=some o->h'.get? b=some o):ES e it i h':=by
 have kk:∀ b o,h.get? b=some o->o.cls≠.type "dict" -> h'.get? b=some o:=fun b o e n=>k b o (fun q=>by subst q;rw [hd] at e;cases e;exact n hc) e
 rcases Z with ⟨old,q⟩ | ⟨T0,bb,old,a,b,q,hT⟩
 ·exact .inl ⟨old,kk _ _ q (by simp)⟩
 ·exact .inr ⟨T0,bb,old,a,b,kk _ _ q (by simp),kk _ _ hT (by simp)⟩
end
section
variable {prog:Program} {w:World} {K:Type} [DecidableEq K] {knd:KeyKind prog w K} {A:Around} {E:Value->Shared->Prop} {s:Shared}
end
section
variable {X:Cx}
end
section
variable {X:Cx}
end
theorem Rb:∀ {ns:List Int} {us:List Value},IntsAre us ns->Vals (ns.map V.int) us:=by
 intro ns us h
 induction h with
 | nil=>exact .nil
 | cons _ _ _ ih=>exact .cons ⟨_,rfl⟩ ih
section
variable {X:Cx} {K:W.Frag}
end
noncomputable def Ev:V->List V->Hp->VK->Prop:=fun x vs H Q=>match x,vs with
 | .ref l,[.int i,y]=>∃ xs,H l=some (.lst xs)/\0<=i/\i<=xs.length/\xs.length < 1000/\Q .non (upd H l (.lst (xs.take i.toNat++y::xs.drop i.toNat)))
 | _,_=>False
theorem Ic:∀ {xs:List V} {us:List Value} {y:V} {u:Value} (k:Nat),Vals xs us->RelV y u->Vals (xs.take k++y::xs.drop k) (us.take k++u::us.drop k)
 | _,_,_,_,0,r,ry=>by simpa using Paired.cons ry r
 | _,_,_,_,k+1,.nil,ry=>by simpa using Paired.cons ry .nil
 | _,_,_,_,k+1,.cons r t,ry=>by simpa using Paired.cons r (Ic k t ry)
section
variable {X:Cx} {K:W.Frag} {o e e2:Expr} {to:TE} {t:TA} {apos cpos:Pos}
theorem Tv:MtR X "list.insert" Ev:=by
 intro pins s σ H x vs v us Q I rx rv q
 match x,vs,q with
 | .ref l,[.int i,y],⟨xs,hH,h1,h2,h3,q⟩ =>
 cases rx
 obtain ⟨u1,u,rfl,⟨tk,rfl⟩,ru⟩:=PK rv
 obtain ⟨z,its,n,r,hl,e⟩:=I.lstM hH
 have hi63:i < 2 ^ 63:=by lia
 have hfit:¬ (!Builtin.List.listFitsIndex i)=true:=by
  rw [fitsIndex_both (by lia) hi63]
  exact Bool.false_ne_true
 refine call_meets F.slot_list_insert ⟨_,e,rfl⟩ F.entry_list_insert (F.args_list_insert_3 _ _ _) (AutoListH.list_insert_list_int_val_1 l its.toArray n i tk u hfit (by rw [List.size_toArray];lia)) ⟨e,?_⟩
 refine ⟨.non,_,I.lset (its':=its.take i.toNat++u::its.drop i.toNat) hH e ?_ (Ic i.toNat r ru) ?_,rfl,q⟩
 ·have hm:min i.toNat its.length=i.toNat:=by lia
  show (have k:=if i < 0 then (i+((its.toArray.size:Nat):Int)).toNat else min i.toNat its.toArray.size;(its.toArray.extract 0 k).push u++its.toArray.extract k)=_
  rw [if_neg (by lia),List.size_toArray,hm]
  apply Array.toList_inj.mp
  simp
  exact List.take_of_length_le (by rw [List.length_drop];exact Nat.le_refl _)
 ·rw [List.length_append,List.length_cons,List.length_take,List.length_drop]
  exact Ae (by lia)
theorem Q8 (ho:PE X o to) (ha:PA X [e,e2] t) (hbase:attributeBase o "insert" X.env (eval o X.env)=eval o X.env:=by rfl)
 (hfew:((backTo cpos (starEach [e,e2] X.env)).all (fun x=>!x.1) && (backToKw cpos (keywordEach [] X.env)).all (fun x=>x.1.isSome)
   && decide ([e,e2].length+([]:List Keyword).length+(if ([]:List Keyword).isEmpty then 0 else 1) < 30))=true:=by rfl)
 (hline:(apos.endLine == cpos.line)=true:=by rfl) (hs:starEach [e,e2] X.env=(false,eval e X.env)::starEach [e2] X.env:=by rfl) (hplain:(backTo cpos (starEach [e2] X.env)).any (·.1)=false:=by rfl) (hK:X.K=K:=by rfl) :
 PE X (.Call (.Attribute o "insert" apos) [e,e2] [] cpos) (tBM K "list" Ev to t):=hK ▸ FU PySem.F.plainAttrs_list PySem.F.slot_list_insert PySem.F.type_list_insert Tv ho ha hbase hfew hline hs hplain
theorem UQ:C6 Ev:=fun x xs H Q Q' h q=>by
 unfold Ev at *
 split at q
 ·obtain ⟨ys,a,b,c,d,q⟩:=q;exact ⟨ys,a,b,c,d,h _ _ q⟩
 ·exact q.elim
end
end L2
namespace L2
open PySem PySem.Spec PyProof.Rows
section
variable {X:Cx} {K:W.Frag}
end
end L2
namespace L2
open PySem PyProof.Rows
theorem JP:∀ (n i:Nat) (us:List Value),us.length=n->(∀ (j:Nat) (v:Value),us[j]? = some v->∃ t,v=Value.int (((i+j:Nat):Int)) t)->Vals ((List.range' i n).map fun (k:Nat)=>V.int (k:Int)) us
 | 0,i,[],_,_=>.nil
 | 0,i,_::_,h,_=>by cases h
 | n+1,i,[],h,_=>by cases h
 | n+1,i,u::us,h,hu=>by
  obtain ⟨t,e⟩:=hu 0 u rfl
  have r:RelV (V.int ((i:Nat):Int)) u:=⟨t,by rw [e];rfl⟩
  rw [List.range'_succ,List.map_cons]
  refine .cons r (JP n (i+1) us (by simpa using h) fun j v hj=>?_)
  obtain ⟨t,e⟩:=hu (j+1) v (by simpa using hj)
  exact ⟨t,by rw [e];congr 1;lia⟩
section
variable {X:Cx}
end
section
variable {X:Cx}
end
section
variable {X:Cx} {K:W.Frag}
end
end L2
namespace HT
open PySem PyProof.Rows
section
variable {prog:Program} {w:World} {A:Around} {E:Value->Shared->Prop} {s:Shared}
theorem getItem_tuple_whole {t sl:Addr} {items:Array Value} {vl vu:Value} {lo hi:Option Int} {Q:Value->Shared->Prop} (ht:IsTup s.heap t items) (hs:s.heap.IsSliceOf sl vl vu .none) (pl:IsPart vl lo) (pu:IsPart vu hi)
 (hw:sIx items.size 0 lo=0/\sIx items.size items.size hi=items.size)
 (h:Q (.ref t) s):wpAny (model prog w) A (getItem (.ref t) (.ref sl)) Q E s:=by
 obtain ⟨os,hos,hcs,hds⟩:=id hs
 have hTs:s.TypeIs (.ref sl) "slice":=⟨os,hos,hcs⟩
 unfold getItem
 try with_reducible refine wpAny_holding ?_
 first | refine wpAny_bind (wpAny_pure ?_) | skip
 refine wpAny_bind (wpAny_sequenceKey ht.typeIs (by decide) ?_)
 refine wpAny_bind (wpAny_callSpecial?_slot (name:=Str.ofString "__getitem__") ht.typeIs PyProof.Rows.slot_tuple_getitem
  (wpAny_call_entry PyProof.Rows.slot_tuple_getitem ht.typeIs entry_tuple_getitem ?_ (args_tuple_getitem _ _)))
 show wpAny _ _ (Builtin.Tuple.tupleItemsOf (.ref t) >>= _) _ _ s
 refine wpAny_bind (tupleItemsOf_ ht ?_)
 refine wpAny_bind (wpAny_typeOf hTs ?_)
 rw [if_pos (by decide)]
 refine wpAny_bind (Ju hs pl pu ?_)
 rw [hw.1,hw.2]
 show wpAny _ _ (if (((0:Nat):Int) == 0 && (1:Int) == 1 && (items.size - 0) == items.size)=true then _ else _) _ _ s
 have hyes:(((0:Nat):Int) == 0 && (1:Int) == 1 && (items.size - 0) == items.size)=true:=by simp
 rw [if_pos hyes]
 unfold Builtin.Tuple.tupleIsExact
 refine wpAny_bind (wpAny_bind (wpAny_typeOf ht.typeIs (wpAny_pure ?_)))
 rw [if_pos (by decide)]
 refine wpAny_bind (wpAny_rule ?_)
 first
  | exact wpAny_bind (wpAny_pure ⟨_,rfl,wpAny_pure h⟩)
  | exact wpAny_pure ⟨_,rfl,wpAny_pure h⟩
  | exact wpAny_bind (wpAny_pure (wpAny_pure ⟨_,rfl,wpAny_pure h⟩))
  | exact wpAny_bind (wpAny_bind (wpAny_pure (wpAny_pure ⟨_,rfl,wpAny_pure h⟩)))
end
end HT
namespace L2
open PySem PySem.Spec PyProof.Rows
section
variable {X:Cx} {K:W.Frag} {e sx:Expr} {te ts:TE} {lo hi:Option Expr} {tl th:TO} {pos p2:Pos}
noncomputable def Go (K:W.Frag):V->Option Int->Option Int->Hp->VK->Prop:=fun x lo hi H Q=>match x with
 | .ref a=>∃ xs,SqT K H a xs/\∀ p H',Same H H'->SqT K H' p (BR xs lo hi)->Q (.ref p) H'
 | _=>False
theorem OG:SlR X (Go X.K):=by
 intro pins s σ H x v vl vu lo hi sl Q I rx hs pl pu q
 cases x with
 | ref a =>
  obtain ⟨xs,hx,q⟩:=q
  by_cases hw:HT.sIx xs.length 0 lo=0/\HT.sIx xs.length xs.length hi=xs.length
  ·cases rx
   obtain ⟨its,r,ht,hz⟩:=I.tuple hx
   have hlen:its.toArray.size=xs.length:=by rw [List.size_toArray];exact r.length.symm
   refine ⟨"tuple",_,PyProof.Rows.slot_tuple_getitem.lookup,ht.typeIs,?_⟩
   refine HT.getItem_tuple_whole ht hs pl pu (by rw [hlen];exact hw) ⟨.ref a,H,I,rfl,q a H (fun _ _ h=>h) ?_⟩
   have:BR xs lo hi=xs:=by
    unfold BR
    rw [hw.1,hw.2,List.drop_zero,List.take_of_length_le (by lia)]
   rw [this]
   exact hx
  ·exact Jy pins s σ H _ v vl vu lo hi sl Q I rx hs pl pu ⟨a,xs,rfl,hx,hw,fun p hp=>q p _ (Same.upd hp) (.of AD)⟩
 | _=>exact False.elim q
theorem Km (he:PE X e te) (hl:PO X lo tl) (hu:PO X hi th) (hK:X.K=K:=by rfl):PE X (.Subscript e (.Slice lo hi none p2) pos) (tSl (Go K) te tl th):=hK ▸ LO OG he hl hu
theorem Qy (h:AV te) (h1:Fd tl) (h2:Fd th):AV (tSl (Go K) te tl th):=fun σ H Q Q' k q=>h _ _ _ _ (fun v _ q=>h1 _ _ _ _ (fun _ _ q=>h2 _ _ _ _ (fun _ _ q=>by
 cases v <;> first | exact False.elim q | (obtain ⟨xs,a,q⟩:=q;exact ⟨xs,a,fun p H' s r=>k _ _ (q p H' s r)⟩)) q) q) q
end
end L2
namespace HT
open PySem PyProof.Rows
section
variable {prog:Program} {w:World} {A:Around} {E:Value->Shared->Prop} {s:Shared}
theorem cat_none {t b:Addr} {ws:List Value} {Q:Value->Shared->Prop} (ht:IsTup s.heap t #[]) (hb:IsTup s.heap b ws.toArray) (h:Q (.ref b) s) :
 wpAny (model prog w) A (binaryOp .Add (.ref t) (.ref b)) Q E s:=by
 obtain ⟨⟨cls,dd,data,sl⟩,ho,hc,n,hd⟩:=id ht
 obtain ⟨⟨cls2,dd2,data2,sl2⟩,ho2,hc2,n2,hd2⟩:=id hb
 simp only at hc hd hc2 hd2
 subst hc hd hc2 hd2
 exact concat_meets ⟨_,ho,rfl⟩ ⟨_,ho2,rfl⟩ noFill_tuple_add seq_tuple_add PySem.F.slot_tuple_add PySem.F.entry_tuple_add (PySem.F.args_tuple_add_2 _ _)
  (tuple_addW0 t b #[] ws.toArray n n2 dd dd2 sl sl2 rfl) ⟨ho,ho2,h⟩
end
end HT
namespace L2
open PySem PySem.Spec PyProof.Rows
section
variable {X:Cx} {K:W.Frag}
noncomputable def HP (K:W.Frag):R2:=fun x y H Q=>match x,y with
 | .int i,.int j=>Q (.int (i+j)) H
 | .ref a,.ref b=>GJ (.ref a) (.ref b) H Q\/∃ xs ys,SqT K H a xs/\SqT K H b ys/\xs.length+ys.length<=sizeLine/\∀ p H',Same H H'->SqT K H' p (xs++ys)->Q (.ref p) H'
 | _,_=>False
theorem Nt:OpR X (binaryOp .Add) (HP X.K):=by
 intro pins s σ H x y v u Q I rx ry q
 cases x <;> cases y <;> first
  | exact False.elim q
  | exact Lf pins s σ H _ _ v u Q I rx ry ⟨_,_,rfl,rfl,q⟩
  | skip
 rename_i a b
 rcases q with q | ⟨xs,ys,ha,hb,hz,q⟩
 ·exact Ly pins s σ H _ _ v u Q I rx ry q
 by_cases hx:xs=[]
 ·subst hx
  cases rx
  cases ry
  obtain ⟨its,r1,p1,_⟩:=I.tuple ha
  obtain ⟨its2,r2,p2,_⟩:=I.tuple hb
  cases r1
  exact HT.cat_none p1 p2 ⟨.ref b,H,I,rfl,q b H (fun _ _ h=>h) hb⟩
 ·exact KC pins s σ H _ _ v u Q I rx ry ⟨a,b,xs,ys,rfl,rfl,ha,hb,hx,hz,fun e=>q a H (fun _ _ h=>h) (by rw [e,List.append_nil];exact ha),fun _ p hp=>q p _ (Same.upd hp) (.of AD)⟩
theorem FN (hK:X.K=K:=by rfl):OpR X (binaryOp .Add) (HP K):=hK ▸ Nt
theorem TL:BS (HP K):=fun x y H Q Q' m q=>by
 cases x <;> cases y <;> first
  | exact False.elim q
  | exact m _ _ q
  | skip
 rcases q with ⟨l,b,xs,zs,h1,h2,h3,h4,h5,q⟩ | ⟨xs,ys,ha,hb,hz,q⟩
 ·exact .inl ⟨l,b,xs,zs,h1,h2,h3,h4,h5,fun p hp=>m _ _ (q p hp)⟩
 ·exact .inr ⟨xs,ys,ha,hb,hz,fun p H' a b=>m _ _ (q p H' a b)⟩
end
section
variable {X:Cx} {K:W.Frag}
noncomputable def JF (K:W.Frag):List V->Hp->VK->Prop:=fun xs H Q=>match xs with
 | [.ref l]=>∃ ns:List Int,SqL K H l (ns.map V.int)/\0 < ns.length/\∀ M,M∈ns->(∀ a∈ns,M<=a)->Q (.int M) H
 | _=>False
theorem Qi (hc:X.calm=true):CallR X (.builtin "min") (JF X.K):=by
 intro pins s σ H xs us Q I r q
 match xs,q with
 | [.ref l],q =>
 obtain ⟨ns,hl,hne,q⟩:=q
 obtain ⟨u,rfl,ru⟩:=B2 r
 cases ru
 obtain ⟨its,rv,pl,hz⟩:=I.list hl
 have hi:IntsAre its ns:=by simpa using HH rv
 obtain ⟨zs,hzs⟩:=(hi.allInts).items
 have pl':=pl.isList
 rw [hzs] at pl'
 have hns:ns=zs.toList.map (·.1):=by
  rw [<- hi.numsOf,<- nums_intItems,<- hzs]
 have hsz:0 < zs.size:=by
  rw [hns,List.length_map,Array.length_toList] at hne;exact hne
 refine min_intList (I.ok.hd hc) pl' hsz fun v h' tk hv hk=>?_
 obtain ⟨t,rfl⟩:=intItems_at hv
 obtain ⟨h1,h2⟩:=argBest_lt (numAt zs) (zs.size - 1)
 refine ⟨.int _,H,I.kept hk,⟨t,rfl⟩,q _ ?_ fun a ha=>?_⟩
 ·rw [hns,numAt_eq];exact getD_mem (by rw [List.length_map,Array.length_toList];lia)
 ·rw [hns] at ha
  obtain ⟨j,hj,rfl⟩:=mem_getD ha
  rw [List.length_map,Array.length_toList] at hj
  rw [<- numAt_eq];exact h2 j (by lia)
theorem N2 (hc:X.calm=true) (hK:X.K=K:=by rfl):CallR X (.builtin "min") (JF K):=hK ▸ Qi hc
end
section
variable {X:Cx} {K:W.Frag} {e sx:Expr} {te ts:TE} {lo hi:Option Expr} {tl th:TO} {pos p2:Pos}
end
noncomputable abbrev BV:=List (List Bool × Addr × V)
noncomputable abbrev BVr:BV->List (List Bool × Addr × Value)->Prop:=Paired fun p q=>p.1=q.1/\p.2.1=q.2.1/\RelV p.2.2 q.2.2
noncomputable def dV (P:Program) (w:World) (a:Addr) (kvs:BV):HO:=.ext fun h=>∃ xs o es ep,BVr kvs xs/\h.get? a=some o/\o.ExactDict/\o.data=.dict es ep/\es.toList=xs.map (entryOfKey (tupleKind (Pq P w)))/\(xs.map (·.1)).Nodup/\xs.length<=sizeLine/\(a == sysModules)=false
noncomputable def KeysV (H:Hp) (kvs:BV):Prop:=∀ q∈kvs,H q.2.1=some (.tup (q.1.map V.bl))
section
variable {P:Program} {w:World} {H:Hp} {h:Heap} {a:Addr}
end
theorem KeysV.same {H H':Hp} {kvs:BV} (h:KeysV H kvs) (s:∀ b ys,H b=some (.tup ys)->H' b=some (.tup ys)):KeysV H' kvs:=fun q hq=>s _ _ (h q hq)
theorem KeysV.upd {P:Program} {w:World} {H:Hp} {kvs k1:BV} {a:Addr} {o:HO} (h:KeysV H kvs) (e:H a=some (dV P w a k1)):KeysV (upd H a o) kvs:=fun q hq=>by
 have:=h q hq
 rw [AJ (fun z=>by rw [z,e] at this;exact nomatch Option.some.inj this)]
 exact this
section
variable {X:Cx} {o i e f value:Expr} {pos pos' tpos apos cpos:Pos} {td ty tx tv:TE}
end
section
variable {X:Cx} {P:Program} {w:World} {o i e f:Expr} {pos apos cpos:Pos} {td ty tx:TE}
end
section
variable {prog:Program} {w:World} {A:Around} {E:Value->Shared->Prop} {s:Shared} {d it:Addr} {o:Obj} {es:Array DictEntry} {ep i:Nat}
end
section
variable {X:Cx} {pins:List (Addr × Obj)} {σ:St} {H:Hp} {s:Shared}
theorem BVr.get {kvs:BV} {xs:List (List Bool × Addr × Value)} (r:BVr kvs xs):∀ {i:Nat} {q:List Bool × Addr × V},kvs[i]? = some q->∃ x,xs[i]? = some x/\x.2.1=q.2.1:=by
 induction r with
 | nil=>intro i q e;simp at e
 | @cons a b l1 l2 h t ih =>
  intro i q e
  cases i with
  | zero =>
   simp at e;subst e
   exact ⟨b,by simp,h.2.1.symm⟩
  | succ i =>
   obtain ⟨v,h1,h2⟩:=ih (i:=i) (q:=q) (by simpa using e)
   exact ⟨v,by simpa using h1,h2⟩
end
section
variable {X:Cx} {K:W.Frag}
end
section
variable {X:Cx} {K:W.Frag}
end
noncomputable def IN (K:W.Frag) (neg:Bool):R2:=fun x y H Q=>match y with
 | .ref p=>∃ (xs:List V) (ds:List Dv) (d:Dv),SqA K H p xs/\Reps K H ds xs/\Rep K H d x/\(∀ e∈ds,Ap e<=50)/\Q (.bl (neg ^^ ds.any fun e=>eqD e d)) H
 | _=>False
theorem Rg {x y:V} {u:Value} (h1:RelV x u) (h2:RelV y u):x=y:=by
 cases x <;> cases y <;> simp only [RelV] at h1 h2 <;> (first | (obtain ⟨t,rfl⟩:=h1) | subst h1) <;> (first | (obtain ⟨t',e⟩:=h2;cases e;done) | (obtain ⟨t',e⟩:=h2;cases e;rfl) | (cases h2;done) | (cases h2;rfl))
open Classical in
noncomputable def Bc (K:W.Frag) (H:Hp) (u:Value):Dv:=if h:∃ d x,RelV x u/\Rep K H d x then h.choose else .non
section
variable {X:Cx} {K:W.Frag} {pins:List (Addr × Obj)} {σ:St} {H:Hp} {s:Shared}
theorem HE (I:Inv X pins σ H s) {d:Dv} {x:V} {u:Value} (r:RelV x u) (h:Rep X.K H d x):Bc X.K H u=d:=by
 have hx:∃ d x,RelV x u/\Rep X.K H d x:=⟨d,x,r,h⟩
 unfold Bc
 rw [dif_pos hx]
 obtain ⟨y,r',h'⟩:=hx.choose_spec
 obtain rfl:=Rg r r'
 exact FD I _ _ _ h' h
theorem GP (I:Inv X pins σ H s) {d:Dv}:∀ {ds:List Dv} {xs:List V} {us:List Value},Reps X.K H ds xs->Vals xs us->us.any (fun u=>eqD (Bc X.K H u) d)=ds.any fun e=>eqD e d
 | [],_,_,h,r=>by
  unfold Reps at h
  subst h
  cases r
  rfl
 | e::ds,xs,us,h,r=>by
  unfold Reps at h
  obtain ⟨x,l,rfl,h1,h2⟩:=h
  cases r with
  | cons r1 r2=>rw [List.any_cons,List.any_cons,GP I h2 r2,HE I r1 h1]
theorem Jo {d:Dv}:∀ {ds:List Dv} {xs:List V} {us:List Value},Reps K H ds xs->Vals xs us->∀ u∈us,∃ e∈ds,∃ x,RelV x u/\Rep K H e x
 | [],_,_,h,r=>by
  unfold Reps at h
  subst h
  cases r
  intro u hu
  cases hu
 | e::ds,xs,us,h,r=>by
  unfold Reps at h
  obtain ⟨x,l,rfl,h1,h2⟩:=h
  cases r with
  | cons r1 r2 =>
   intro u hu
   rcases List.mem_cons.mp hu with rfl | hu
   ·exact ⟨e,List.mem_cons_self,x,r1,h1⟩
   ·obtain ⟨e',h3,h4⟩:=Jo (d:=d) h2 r2 u hu
    exact ⟨e',List.mem_cons_of_mem _ h3,h4⟩
theorem FG (hu:X.A.units+60 < cLine) (I:Inv X pins σ H s) {d:Dv} {x:V} {v:Value} {ds:List Dv} {xs:List V} {us:List Value} (rx:RelV x v) (hx:Rep X.K H d x) (hR:Reps X.K H ds xs) (r:Vals xs us) (hd:∀ e∈ds,Ap e<=50):∀ y,y∈us->SeqAt.EqAt X.A.in1 s y v (eqD (Bc X.K H y) d):=by
 intro y hy
 obtain ⟨e,he,z,r1,h1⟩:=Jo (d:=d) hR r y hy
 rw [HE I r1 h1]
 exact (Gv I 50 X.A.in1 e d z x y v (hd e he) (by show X.A.units+1+50 < cLine;lia) h1 hx r1 rx).1
theorem Rh (hu:X.A.units+60 < cLine):OpR X (compareOp .NotIn) (IN X.K true):=by
 intro pins s σ H x y v u Q I rx ry h
 cases y <;> first | exact False.elim h | skip
 obtain ⟨xs,ds,d,hq,hR,hx,hd,q⟩:=h
 cases ry
 rcases hq with hq | hq
 ·obtain ⟨its,r,pl,hz⟩:=I.list hq
  refine SeqAt.notIn_listAt (fun y=>eqD (Bc X.K H y) d) pl.isList (fun w hw=>FG hu I rx hx hR r hd w (by simpa using hw)) ⟨.bl _,H,I,rfl,?_⟩
  rw [show its.toArray.any (fun y=>eqD (Bc X.K H y) d)=its.any (fun y=>eqD (Bc X.K H y) d) by simp,GP I hR r]
  simpa using q
 ·obtain ⟨its,r,pl,hz⟩:=I.tuple hq
  refine SeqAt.notIn_tupleAt (fun y=>eqD (Bc X.K H y) d) pl (fun w hw=>FG hu I rx hx hR r hd w (by simpa using hw)) ⟨.bl _,H,I,rfl,?_⟩
  rw [show its.toArray.any (fun y=>eqD (Bc X.K H y) d)=its.any (fun y=>eqD (Bc X.K H y) d) by simp,GP I hR r]
  simpa using q
theorem QF (hu:X.A.units+60 < cLine) (hK:X.K=K:=by rfl):OpR X (compareOp .NotIn) (IN K true):=hK ▸ Rh hu
theorem QB {neg:Bool}:BS (IN K neg):=fun x y H Q Q' h q=>by
 cases y with
 | ref p=>obtain ⟨xs,ds,d,h1,h2,h3,h4,q⟩:=q;exact ⟨xs,ds,d,h1,h2,h3,h4,h _ _ q⟩
 | _=>exact False.elim q
end
structure GFd (H:Hp) (t l:Addr) (N:Nat):Prop where
 at_:∃ (i g c:Int) (ns:List Int),0<=i/\0<=g/\0<=c/\c<=N/\H t=some (.lst [.ref l,.int i,.int g,.int c])/\l≠t/\H l=some (.lst (ns.map V.int))/\ns.length≠0
theorem GFeed.told {H:Hp} {t:Addr} {N:Nat} (F:GFeed H t N):∃ l,GFd H t l N:=by
 obtain ⟨l,i,g,c,ns,h⟩:=F.at_
 exact ⟨l,i,g,c,ns,h⟩
theorem GFd.feed {H:Hp} {t l:Addr} {N:Nat} (F:GFd H t l N):GFeed H t N:=by
 obtain ⟨i,g,c,ns,h⟩:=F.at_
 exact ⟨l,i,g,c,ns,h⟩
theorem GFd.same {H H':Hp} {t l:Addr} {N:Nat} (F:GFd H t l N) (h:Same H H'):GFd H' t l N:=by
 obtain ⟨i,g,c,ns,h1,h2,h3,h4,h5,h6,h7,h8⟩:=F.at_
 exact ⟨i,g,c,ns,h1,h2,h3,h4,h _ _ h5,h6,h _ _ h7,h8⟩
theorem GFd.upd {H:Hp} {t l p:Addr} {o:HO} {N:Nat} (F:GFd H t l N) (h:H p=none):GFd (L2.upd H p o) t l N:=F.same (Same.upd h)
theorem GFd.ne {H:Hp} {t l p:Addr} {N:Nat} (F:GFd H t l N) (h:H p=none):p≠t/\p≠l:=by
 obtain ⟨i,g,c,ns,h1,h2,h3,h4,h5,h6,h7,h8⟩:=F.at_
 exact ⟨fun e=>(by rw [e,h5] at h;exact nomatch h),fun e=>(by rw [e,h7] at h;exact nomatch h)⟩
theorem GFd.put {H:Hp} {t l p:Addr} {o:HO} {N:Nat} (F:GFd H t l N) (h:p≠t/\p≠l):GFd (L2.upd H p o) t l N:=by
 obtain ⟨i,g,c,ns,h1,h2,h3,h4,h5,h6,h7,h8⟩:=F.at_
 exact ⟨i,g,c,ns,h1,h2,h3,h4,by rw [AJ (Ne.symm h.1)];exact h5,h6,by rw [AJ (Ne.symm h.2)];exact h7,h8⟩
theorem GFeed.put {H:Hp} {t p:Addr} {o:HO} {N:Nat} {xs:List V} (F:GFeed H t N) (hp:p≠t) (hx:H p=some (.lst xs)) (hn:∀ ns:List Int,ns.length≠0->xs≠ns.map V.int):GFeed (L2.upd H p o) t N:=by
 obtain ⟨l,i,g,c,ns,h1,h2,h3,h4,h5,h6,h7,h8⟩:=F.at_
 have:p≠l:=fun e=>by
  rw [e,h7] at hx
  cases hx
  exact hn ns h8 rfl
 exact ⟨l,i,g,c,ns,h1,h2,h3,h4,by rw [AJ (Ne.symm hp)];exact h5,h6,by rw [AJ (Ne.symm this)];exact h7,h8⟩
noncomputable def DQ:Sp:=fun vs H Q _=>match vs with
 | [.ref t,.int m]=>∃ l N,GFd H t l N/\N<=1000000000/\okDiv m/\∀ d H',0<=d->d < m->GFd H' t l (N+1)->(∀ b,b≠t->H' b=H b)->Q (.int d) H'
 | _=>False
theorem QE:Ac DQ:=fun vs H Q Q' E h q=>by
 unfold DQ at *
 split at q
 ·obtain ⟨l,N,h1,h2,h3,q⟩:=q;exact ⟨l,N,h1,h2,h3,fun d H' a b c e=>h _ _ (q d H' a b c e)⟩
 ·exact q.elim
theorem Mx (vs:List V) (H:Hp) (Q:VK) (E:XK) (h:Ef vs H Q E):DQ vs H Q E:=by
 unfold Ef at h
 unfold DQ
 split at h
 ·obtain ⟨N,F,h2,h3,q⟩:=h
  obtain ⟨l,F⟩:=F.told
  exact ⟨l,N,F,h2,h3,fun d H' a b c e=>q d H' a b c.feed e⟩
 ·exact h.elim
inductive Dw where
 | non | bl (b:Bool) | int (i:Int) | str (x:Str) | tup (ds:List Dw) | lst (ds:List Dw) | emp
noncomputable def Sa (a:Addr) (xs:List V):Heap->Prop:=fun h=>a≠sysModules/\∃ (its:List Value) (n:Nat),Vals xs its/\h.get? a=some { cls:=.type "list",data:=.seq its.toArray n }
mutual
noncomputable def RepW (K:W.Frag) (H:Hp):Dw->V->Prop
 | .non,v=>v=.non
 | .bl b,v=>v=.bl b
 | .int i,v=>v=.int i
 | .str x,v=>v=.str x
 | .tup ds,v=>∃ a xs,v=.ref a/\SqT K H a xs/\RepsW K H ds xs
 | .lst ds,v=>∃ a xs,v=.ref a/\H a=some (.ext (Sa a xs))/\RepsW K H ds xs
 | .emp,v=>∃ a,v=.ref a/\H a=some (.dK [])
noncomputable def RepsW (K:W.Frag) (H:Hp):List Dw->List V->Prop
 | [],xs=>xs=[]
 | d::ds,xs=>∃ x r,xs=x::r/\RepW K H d x/\RepsW K H ds r
end
theorem RepsW.length {K:W.Frag} {H:Hp}:∀ {ds:List Dw} {xs:List V},RepsW K H ds xs->ds.length=xs.length
 | [],xs,h=>by unfold RepsW at h;subst h;rfl
 | d::ds,xs,h=>by
  unfold RepsW at h
  obtain ⟨x,r,rfl,_,h⟩:=h
  rw [List.length_cons,List.length_cons,RepsW.length h]
theorem RepsW.get {K:W.Frag} {H:Hp}:∀ {ds:List Dw} {xs:List V} {i:Nat} {d:Dw},RepsW K H ds xs->ds[i]? = some d->∃ x,xs[i]? = some x/\RepW K H d x
 | [],_,_,_,_,e=>by simp at e
 | d::ds,xs,0,_,h,e=>by
  unfold RepsW at h
  obtain ⟨x,r,rfl,h1,_⟩:=h
  simp at e;subst e
  exact ⟨x,rfl,h1⟩
 | d::ds,xs,i+1,_,h,e=>by
  unfold RepsW at h
  obtain ⟨x,r,rfl,_,h⟩:=h
  obtain ⟨y,h1,h2⟩:=RepsW.get (i:=i) h (by simpa using e)
  exact ⟨y,by simpa using h1,h2⟩
theorem ET {K:W.Frag} {H:Hp}:RepsW K H [] []:=by unfold RepsW;rfl
theorem Hi {K:W.Frag} {H:Hp} {d:Dw} {ds:List Dw} {x:V} {xs:List V} (h:RepW K H d x) (r:RepsW K H ds xs):RepsW K H (d::ds) (x::xs):=by unfold RepsW;exact ⟨x,xs,rfl,h,r⟩
theorem RepsW.append {K:W.Frag} {H:Hp}:∀ {ds es:List Dw} {xs ys:List V},RepsW K H ds xs->RepsW K H es ys->RepsW K H (ds++es) (xs++ys)
 | [],es,xs,ys,h,h'=>by unfold RepsW at h;subst h;exact h'
 | d::ds,es,xs,ys,h,h'=>by
  unfold RepsW at h
  obtain ⟨x,r,rfl,h1,h2⟩:=h
  exact Hi h1 (RepsW.append h2 h')
theorem RepsW.take {K:W.Frag} {H:Hp}:∀ (k:Nat) {ds:List Dw} {xs:List V},RepsW K H ds xs->RepsW K H (ds.take k) (xs.take k)
 | 0,_,_,_=>by simpa using ET
 | k+1,[],xs,h=>by unfold RepsW at h;subst h;simpa using ET
 | k+1,d::ds,xs,h=>by
  unfold RepsW at h
  obtain ⟨x,r,rfl,h1,h2⟩:=h
  simpa using Hi h1 (RepsW.take k h2)
theorem RepsW.drop {K:W.Frag} {H:Hp}:∀ (k:Nat) {ds:List Dw} {xs:List V},RepsW K H ds xs->RepsW K H (ds.drop k) (xs.drop k)
 | 0,_,_,h=>by simpa using h
 | k+1,[],xs,h=>by unfold RepsW at h;subst h;simpa using ET
 | k+1,d::ds,xs,h=>by
  unfold RepsW at h
  obtain ⟨x,r,rfl,h1,h2⟩:=h
  simpa using RepsW.drop k h2
theorem RepsW.reverse {K:W.Frag} {H:Hp}:∀ {ds:List Dw} {xs:List V},RepsW K H ds xs->RepsW K H ds.reverse xs.reverse
 | [],xs,h=>by unfold RepsW at h;subst h;simpa using ET
 | d::ds,xs,h=>by
  unfold RepsW at h
  obtain ⟨x,r,rfl,h1,h2⟩:=h
  rw [List.reverse_cons,List.reverse_cons]
  exact RepsW.append (RepsW.reverse h2) (Hi h1 ET)
mutual
theorem RepW.same {K:W.Frag} {H H':Hp} (s:Same H H'):∀ (d:Dw) (v:V),RepW K H d v->RepW K H' d v
 | .non,v,h=>by unfold RepW at *;exact h
 | .bl b,v,h=>by unfold RepW at *;exact h
 | .int i,v,h=>by unfold RepW at *;exact h
 | .str x,v,h=>by unfold RepW at *;exact h
 | .emp,v,h=>by unfold RepW at *;obtain ⟨a,e,h⟩:=h;exact ⟨a,e,s _ _ h⟩
 | .tup ds,v,h=>by
  unfold RepW at *
  obtain ⟨a,xs,e,h1,h2⟩:=h
  exact ⟨a,xs,e,IX h1 s,RepsW.same s ds xs h2⟩
 | .lst ds,v,h=>by
  unfold RepW at *
  obtain ⟨a,xs,e,h1,h2⟩:=h
  exact ⟨a,xs,e,s _ _ h1,RepsW.same s ds xs h2⟩
theorem RepsW.same {K:W.Frag} {H H':Hp} (s:Same H H'):∀ (ds:List Dw) (xs:List V),RepsW K H ds xs->RepsW K H' ds xs
 | [],xs,h=>by unfold RepsW at *;exact h
 | d::ds,xs,h=>by
  unfold RepsW at *
  obtain ⟨x,r,e,h1,h2⟩:=h
  exact ⟨x,r,e,RepW.same s d x h1,RepsW.same s ds r h2⟩
end
section
variable {X:Cx} {K:W.Frag} {es:List Expr} {t:TA} {pos:Pos}
end
mutual
noncomputable def J9:Dw->Nat
 | .tup ds=>Hz ds+1
 | .lst ds=>Hz ds+1
 | .emp=>1
 | _=>0
noncomputable def Hz:List Dw->Nat
 | []=>0
 | d::ds=>max (J9 d) (Hz ds)
end
mutual
noncomputable def MB:Dw->Nat
 | .str x=>x.cps.size
 | .tup ds=>IA ds
 | .lst ds=>IA ds
 | _=>0
noncomputable def IA:List Dw->Nat
 | []=>0
 | d::ds=>MB d+1+IA ds
end
section
variable {X:Cx} {pins:List (Addr × Obj)} {σ:St} {H:Hp} {s:Shared}
end
section
variable {X:Cx} {K:W.Frag}
end
mutual
noncomputable def okW (n:Nat):Dw->Bool
 | .int i=>decide (i.natAbs<=n)
 | .str x=>x.cps.toList.all fun c=>decide (c < 16 ^ 8)
 | .tup ds=>HG n ds
 | .lst ds=>HG n ds
 | _=>true
noncomputable def HG (n:Nat):List Dw->Bool
 | []=>true
 | d::ds=>okW n d && HG n ds
end
structure Fit (n D B:Nat) (d:Dw):Prop where
 ok:okW n d=true
 dep:J9 d<=D
 bulk:MB d<=B
theorem KA (val:Nat->Int):∀ i,(firstMet val i).Nodup
 | 0=>by rw [firstMet_zero];exact List.nodup_nil
 | i+1=>by
  rw [firstMet_succ]
  unfold step_dedup
  have ih:=KA val i
  split
  ·exact ih
  ·rename_i h
   rw [List.nodup_append]
   refine ⟨ih,by simp,?_⟩
   intro a ha b hb e
   rw [List.mem_singleton.mp hb] at e
   exact h (List.any_eq_true.mpr ⟨a,ha,by rw [e];simp⟩)
theorem Sv (ns:List Int) (k:Int):k∈firstMet (fun i=>ns.getD i 0) ns.length ↔ k∈ns:=by
 have h:=firstMet_any (fun i=>ns.getD i 0) ns.length k
 have e:(List.range ns.length).map (fun i=>ns.getD i 0)=ns:=by
  apply List.ext_getElem
  ·simp
  ·intro i h1 h2
   simp
   rw [List.getElem?_eq_getElem h2];rfl
 rw [e] at h
 have a1:∀ l:List Int,l.any (· == k)=true ↔ k∈l:=fun l=>by simp
 rw [<- a1,<- a1,h]
section
variable {X:Cx} {K:W.Frag}
end
noncomputable def Ris (xs:Array Nat):Prop:=xs.toList.Pairwise (· < ·)
theorem Ris.lt {xs:Array Nat} (h:Ris xs) {i k:Nat} (hik:i < k) (hk:k < xs.size) (j:Nat):xs.getD i j < xs.getD k j:=by
 have hi:i < xs.size:=Nat.lt_trans hik hk
 have:=List.pairwise_iff_getElem.mp h i k (by simpa using hi) (by simpa using hk) hik
 simpa [Array.getD,hi,hk] using this
theorem Gi {xs:Array Nat} {j:Nat} (h:Ris xs):∀ (f lo hi:Nat),hi - lo<=f->lo<=hi->hi<=xs.size->(∀ i,i < lo->xs.getD i j < j)->(∀ i,hi<=i->i < xs.size->j<=xs.getD i j) ->
 SetTable.below.go xs j f lo hi<=xs.size/\(∀ i,i < SetTable.below.go xs j f lo hi->xs.getD i j < j)/\∀ i,SetTable.below.go xs j f lo hi<=i->i < xs.size->j<=xs.getD i j
 | 0,lo,hi,h1,h2,h3,h4,h5=>by
  have e:lo=hi:=by lia
  subst e
  exact ⟨h3,h4,h5⟩
 | f+1,lo,hi,h1,h2,h3,h4,h5=>by
  unfold SetTable.below.go
  by_cases hl:lo < hi
  ·rw [if_pos hl]
   dsimp only
   have hm:(lo+hi) / 2 < xs.size:=by lia
   by_cases hx:xs.getD ((lo+hi) / 2) j < j
   ·rw [if_pos hx]
    refine Gi h f _ _ (by lia) (by lia) h3 (fun i hi'=>?_) h5
    rcases Nat.lt_or_ge i ((lo+hi) / 2) with z | z
    ·exact Nat.lt_trans (h.lt z hm j) hx
    ·have:i=(lo+hi) / 2:=by lia
     rw [this];exact hx
   ·rw [if_neg hx]
    refine Gi h f _ _ (by lia) (by lia) (by lia) h4 (fun i hi' hs=>?_)
    rcases Nat.lt_or_ge ((lo+hi) / 2) i with z | z
    ·have:=h.lt z hs j;lia
    ·have:i=(lo+hi) / 2:=by lia
     rw [this];lia
  ·rw [if_neg hl]
   have e:lo=hi:=by lia
   subst e
   exact ⟨h3,h4,h5⟩
theorem GM {xs:Array Nat} (h:Ris xs) (j:Nat):SetTable.below xs j<=xs.size/\(∀ i,i < SetTable.below xs j->xs.getD i j < j)/\∀ i,SetTable.below xs j<=i->i < xs.size->j<=xs.getD i j :=
 Gi h _ _ _ (by lia) (by lia) (Nat.le_refl _) (fun i z=>by lia) (fun i z y=>by lia)
theorem QW {xs:Array Nat} (h:Ris xs) {k:Nat} (hk:k < xs.size):SetTable.below xs (xs.getD k 0+1)=k+1:=by
 obtain ⟨a,b,c⟩:=GM h (xs.getD k 0+1)
 generalize SetTable.below xs (xs.getD k 0+1)=r at a b c
 have e0:∀ i z,i < xs.size->xs.getD i z=xs.getD i 0:=fun i z hi=>by simp [Array.getD,hi]
 rcases Nat.lt_trichotomy r (k+1) with z | z | z
 ·have:=c k (by lia) hk
  rw [e0 k (xs.getD k 0+1) hk] at this;lia
 ·exact z
 ·have h1:=b (k+1) z
  have hs:k+1 < xs.size:=by lia
  have h2:=h.lt (Nat.lt_succ_self k) hs 0
  rw [e0 (k+1) (xs.getD k 0+1) hs] at h1
  have:xs.getD k 0 < xs.getD (k+1) 0:=h2
  lia
theorem Ts {xs:Array Nat} (h:Ris xs):SetTable.below xs 0=0:=by
 obtain ⟨a,b,c⟩:=GM h 0
 rcases Nat.eq_zero_or_pos (SetTable.below xs 0) with z | z
 ·exact z
 ·have:=b 0 z;lia
theorem M4 {xs:Array Nat} (h:Ris xs) {j:Nat} (hn:xs[SetTable.below xs j]? ≠ some j):Ris (SetTable.insertAt xs (SetTable.below xs j) j):=by
 obtain ⟨a,b,c⟩:=GM h j
 generalize SetTable.below xs j=r at a b c hn
 unfold Ris
 rw [SetTable.toList_insertAt,List.pairwise_append,List.pairwise_cons]
 have g:∀ i,i < xs.size->xs.toList[i]? = some (xs.getD i j):=fun i hi=>by simp [Array.getD,hi]
 have lo:∀ x∈xs.toList.take r,x < j:=fun x hx=>by
  obtain ⟨i,hi,e⟩:=List.getElem_of_mem hx
  rw [List.length_take] at hi
  rw [List.getElem_take] at e
  have hi2:i < xs.size:=by have:=(Nat.lt_min.mp hi).2;simpa using this
  have:=g i hi2
  rw [List.getElem?_eq_getElem (by simpa using hi2),e] at this
  cases this
  exact b i (Nat.lt_min.mp hi).1
 have hi:∀ x∈xs.toList.drop r,j < x:=fun x hx=>by
  obtain ⟨i,hi,e⟩:=List.getElem_of_mem hx
  rw [List.length_drop] at hi
  rw [List.getElem_drop] at e
  have hi2:r+i < xs.size:=by have:xs.toList.length=xs.size:=by simp
                             lia
  have e1:=g (r+i) hi2
  rw [List.getElem?_eq_getElem (by simpa using hi2),e] at e1
  have e2:=c (r+i) (Nat.le_add_right _ _) hi2
  have e3:x=xs.getD (r+i) j:=Option.some.inj e1
  rcases Nat.eq_zero_or_pos i with z | z
  ·subst z
   have:x≠j:=fun q=>hn (by rw [<- Array.getElem?_toList,g r hi2];rw [<- q];exact congrArg some (by rw [e3] at q;rw [e3];exact (by rw [q]:xs.getD (r+0) j=xs.getD (r+0) j) ▸ (by simp [Array.getD,show r < xs.size from hi2])))
   lia
  ·have h1:=h.lt (show r < r+i by lia) hi2 j
   have h2:=c r (Nat.le_refl _) (by lia)
   lia
 refine ⟨List.Pairwise.sublist (List.take_sublist _ _) h,⟨hi,List.Pairwise.sublist (List.drop_sublist _ _) h⟩,fun x hx y hy=>?_⟩
 rcases List.mem_cons.mp hy with rfl | hy2
 ·exact lo x hx
 ·exact Nat.lt_trans (lo x hx) (hi y hy2)
theorem Ie (t:SetTable) (p:SetTable.Probe):(t.advance p).dummy=p.dummy:=by
 unfold SetTable.advance
 split <;> rfl
noncomputable def EX (t:SetTable) (j:Nat):Prop:=t.place[SetTable.below t.place j]? ≠ some j
theorem MT {t:SetTable} {j:Nat} (h:∀ i,t.slot j≠.live i):EX t j:=fun e=>h _ (by unfold SetTable.slot;dsimp only;rw [if_pos (by rw [e];exact beq_self_eq_true _)])
theorem probe_go {t:SetTable} {g:Nat->Int} {h:Int} {j:Nat} {d:Option Nat}:∀ (f:Nat) (p:SetTable.Probe),(∀ x,p.dummy=some x->EX t x)->SetTable.probe.go t g h f p=some (.empty j d)->EX t j/\∀ x,d=some x->EX t x
 | 0,p,hp,e=>by unfold SetTable.probe.go at e;cases e
 | f+1,p,hp,e=>by
  unfold SetTable.probe.go at e
  split at e
  ·rename_i hs
   cases e
   exact ⟨MT (fun i z=>by rw [hs] at z;cases z),hp⟩
  ·rename_i hs
   refine probe_go f _ (fun x hx=>?_) e
   rw [Ie] at hx
   cases hx
   exact MT fun i z=>by rw [hs] at z;cases z
  ·split at e
   ·cases e
   ·exact probe_go f _ (fun x hx=>hp x (by rw [Ie] at hx;exact hx)) e
theorem Ra {t:SetTable} {h:Int} {j:Nat} {b:Bool} (e:t.freeSlot h=some (j,b)):EX t j:=by
 unfold SetTable.freeSlot at e
 split at e
 ·rename_i j' d hm
  cases e
  obtain ⟨a,c⟩:=probe_go _ _ (fun x hx=>by cases hx) (show SetTable.probe.go t _ h _ (t.probeStart h)=_ from hm)
  cases d with
  | none=>exact a
  | some x=>exact c x rfl
 ·cases e
structure TabG (w:World) (t:SetTable):Prop where
 led:t.led = !w.params.followText "set-order"
 ris:Ris t.place
theorem T6 (n:Nat):Ris (Array.range n):=by
 unfold Ris
 rw [Array.toList_range]
 exact List.pairwise_lt_range
theorem NC (w:World):TabG w (.fresh 0 0 (!w.params.followText "set-order")):=⟨rfl,List.Pairwise.nil⟩
theorem E5 {w:World} {t:SetTable} (g:TabG w t) (n:Nat):TabG w (t.standIn n):=⟨g.led,T6 n⟩
theorem tg_orStandIn {w:World} {t:SetTable} (g:TabG w t) (n:Nat):TabG w (t.orStandIn n):=by
 unfold SetTable.orStandIn
 split
 ·exact g
 ·exact E5 g n
theorem Sz {w:World} {t:SetTable} (g:TabG w t) (es:Array (Int × Value)) (h:Int) (x:Value):TabG w (layNew t es h x).2.1:=by
 unfold layNew
 split
 ·rename_i j b e
  exact tg_orStandIn (t:=(t.put j).1) ⟨g.led,M4 g.ris (Ra e)⟩ _
 ·exact E5 g _
theorem Pe {w:World} {t t':SetTable} (g:TabG w t) {hs:Array Int} {n:Nat} {o:Array Nat} (e:t.relaid hs n=some (t',o)):TabG w t':=by
 unfold SetTable.relaid SetTable.laid at e
 cases q:SetTable.layClean (SetTable.sizeAbove n - 1) hs with
 | none=>rw [q] at e;cases e
 | some ow =>
  rw [q] at e
  cases e
  refine ⟨g.led,?_⟩
  unfold Ris
  dsimp only
  rw [List.pairwise_map,List.pairwise_filterMap]
  refine List.Pairwise.imp (fun {a b} hab x hx y hy=>?_) List.pairwise_lt_range
  cases h1:ow.getD a none with
  | none=>rw [h1] at hx;cases hx
  | some u =>
   cases h2:ow.getD b none with
   | none=>rw [h2] at hy;cases hy
   | some v =>
    rw [h1] at hx;rw [h2] at hy
    cases hx;cases hy
    exact hab
theorem S9 {w:World} {t:SetTable} (g:TabG w t) (es:Array (Int × Value)) (n:Nat):TabG w (relayAll t es n).2.1:=by
 unfold relayAll
 split
 ·rename_i t' o e
  dsimp only
  split
  ·exact Pe g e
  ·exact E5 g _
 ·exact E5 g _
theorem Ql {w:World} {t:SetTable} (g:TabG w t) (b:Bool):TabG w { t with plain:=b }:=⟨g.led,g.ris⟩
noncomputable def SetW (P:Program) (w:World) (h:Heap) (a:Addr) (S:Int->Bool) (n:Nat):Prop :=
 ∃ o es ep t,h.get? a=some o/\o.ExactSet/\o.data=.set es ep t/\ElemsOf (intKind P w) es.toList/\(∀ k,S k=true ↔ ∃ e∈es.toList,(intKind P w).is k e.2=true)/\es.size < scanBound/\t.fits es.size=true/\es.size=n/\TabG w t
section
variable {P:Program} {w:World} {A:Around} {E:Value->Shared->Prop} {s:Shared} {a:Addr}
theorem SetW.at {h h':Heap} {S:Int->Bool} {n:Nat} (x:SetW P w h a S n) (k:∀ o,h.get? a=some o->h'.get? a=some o):SetW P w h' a S n:=by
 obtain ⟨o,es,ep,t,h1,r⟩:=x;exact ⟨o,es,ep,t,k _ h1,r⟩
theorem SetW.of {h:Heap} {S:Int->Bool} {n:Nat} (x:SetW P w h a S n):h.SetOf (intKind P w) a S n:=by
 obtain ⟨o,es,ep,t,h1,h2,h3,h4,h5,h6,h7,h8,_⟩:=x;exact ⟨o,es,ep,t,h1,h2,h3,h4,h5,h6,h7,h8⟩
theorem JJ {h:Heap} {o:Obj} {es es':Array (Int × Value)} {ep:Nat} {t t':SetTable} {S:Int->Bool} (h1:h.get? a=some o) (h2:o.ExactSet) (h3:o.data=.set es ep t) (h4:ElemsOf (intKind P w) es'.toList)
 (h5:∀ k,S k=true ↔ ∃ e∈es'.toList,(intKind P w).is k e.2=true) (h6:es'.size < scanBound) (h7:t'.fits es'.size=true) (g:TabG w t') :
 (h.update a (Obj.putSet es' t')).get? a=some { o with data:=.set es' (ep+1) t' } /\ SetW P w (h.update a (Obj.putSet es' t')) a S es'.size :=
 have q:=SetOf_store (knd:=intKind P w) h1 h2 h3 h4 h5 h6 h7
 ⟨q.1,_,es',ep+1,t',q.1,h2,rfl,h4,h5,h6,h7,rfl,g⟩
theorem SL {b:Bool} {Q:Unit->Shared->Prop} {s₁:Shared} (q:Q () s₁):wpAny (model P w) A (match b with | true=>rule "set.scan.the-table-gave-way" | false=>pure ()) Q E s₁:=by
 cases b with
 | true=>exact wpAny_rule q
 | false=>exact wpAny_pure q
theorem Ip {g:Bool->Sem Unit} (hg:∀ (b:Bool) (s₁:Shared) (Q:Unit->Shared->Prop),Q () s₁->wpAny (model P w) A (g b) Q E s₁) {o:Obj} {es es1:Array (Int × Value)} {ep:Nat} {t t2:SetTable} {S:Int->Bool} {wd:Bool} {R:Option Bool->Shared->Prop}
 (h1:s.heap.get? a=some o) (h2:o.ExactSet) (h3:o.data=.set es ep t) (h4:ElemsOf (intKind P w) es1.toList) (h5:∀ k,S k=true ↔ ∃ e∈es1.toList,(intKind P w).is k e.2=true) (h6:es1.size < scanBound) (h7:t2.fits es1.size=true) (gd:TabG w t2)
 (fin:∀ h',Heap.SameBut a s.heap h'->SetW P w h' a S es1.size->R (some true) { s with heap:=h' }) :
 wpAny (model P w) A (do
  storeSet a es1 t2
  if (!wd && t2.tooFull)=true then do
   g (relayAll t2 es1 (SetTable.grown es1.size)).2.2;storeSet a (relayAll t2 es1 (SetTable.grown es1.size)).1 (relayAll t2 es1 (SetTable.grown es1.size)).2.1
   pure (some true)
   else
    pure (some true)) R E s:=by
 obtain ⟨k1,k2⟩:=JJ h1 h2 h3 h4 h5 h6 h7 gd
 refine wpAny_bind (wpAny_storeSet_of h1 h3 ?_ (fits_of_scanBound h6))
 have sb:=Heap.SameBut.update s.heap a (Obj.putSet es1 t2)
 split
 ·have pm:=relayAll_perm t2 es1 (SetTable.grown es1.size)
  have ft:=relayAll_fits t2 es1 (SetTable.grown es1.size)
  have tg:=S9 gd es1 (SetTable.grown es1.size)
  generalize relayAll t2 es1 (SetTable.grown es1.size)=V at pm ft tg ⊢
  obtain ⟨e2,t3,gv⟩:=V
  dsimp only at pm ft tg ⊢
  have z:e2.size=es1.size:=by rw [<- Array.length_toList,pm.length_eq,Array.length_toList]
  obtain ⟨_,k4⟩:=JJ (S:=S) k1 h2 rfl (h4.perm pm) (fun k=>(h5 k).trans ⟨fun ⟨e,x,y⟩=>⟨e,pm.mem_iff.mpr x,y⟩,fun ⟨e,x,y⟩=>⟨e,pm.mem_iff.mp x,y⟩⟩) (by rw [z];exact h6) ft tg
  rw [z] at k4
  exact wpAny_bind (hg _ _ _ (wpAny_bind (wpAny_storeSet_of k1 rfl (wpAny_pure (fin _ (sb.trans (Heap.SameBut.update _ a _)) k4)) (fits_of_scanBound (by rw [z];exact h6)))))
 ·exact wpAny_pure (fin _ sb k2)
theorem SO {S:Int->Bool} {n:Nat} {k:Int} {x:Value} {Q:Bool->Shared->Prop} (hk:(intKind P w).is k x=true) (hx:x.scannable=true) (hS:SetW P w s.heap a S n) (hn:n+1 < scanBound)
 (fin:∀ h',Heap.SameBut a s.heap h'->SetW P w h' a (fun k'=>S k' || decide (k'=k)) (if S k then n else n+1)->Q (!S k) { s with heap:=h' }) :
 wpAny (model P w) A (setAddHashed a x ((intKind P w).hash k)) Q E s:=by
 obtain ⟨o,es,ep,t,h1,h2,h3,h4,h5,h6,h7,h8,gd⟩:=hS
 unfold setAddHashed setAddHashedIn;refine wpAny_holding (wpAny_bind (wpAny_setState_of h1 h3 h7 ?_));dsimp only
 rw [byScan_of hx h6 h4];simp only [↓reduceIte]
 unfold setAddByScan
 refine wpAny_bind (wpAny_bind (wpAny_rule (wpAny_bind (wpAny_setScan_of hk h1 h3 h7 h4 ?_))))
 cases hr:List.findIdx? (fun e=>(intKind P w).is k e.2) es.toList with
 | some j =>
  dsimp only
  obtain ⟨hj,hp,_⟩:=List.findIdx?_eq_some_iff_getElem.mp hr
  have sk:S k=true:=(h5 k).mpr ⟨es.toList[j],List.getElem_mem hj,hp⟩
  have q:=fin s.heap (Heap.SameBut.refl a s.heap) ⟨o,es,ep,t,h1,h2,h3,h4,(fun k'=>by
   rw [Bool.or_eq_true,decide_eq_true_eq,<- h5 k']
   exact ⟨fun z=>z.elim id (fun e=>e ▸ sk),.inl⟩),h6,h7,(by rw [sk];exact h8),gd⟩
  rw [sk] at q
  exact wpAny_pure (wpAny_pure q)
 | none =>
  dsimp only
  have sk:S k=false:=by
   cases z:S k with
   | false=>rfl
   | true =>
    obtain ⟨e,he,hp⟩:=(h5 k).mp z
    have:=List.findIdx?_eq_none_iff.mp hr e he;rw [hp] at this;cases this
  have pm:=layNew_perm t es ((intKind P w).hash k) x
  have ft:=layNew_fits t es ((intKind P w).hash k) x
  have tg:=Sz gd es ((intKind P w).hash k) x
  generalize layNew t es ((intKind P w).hash k) x=V at pm ft tg ⊢
  obtain ⟨e1,t1,wd,gv⟩:=V
  dsimp only at pm ft tg ⊢
  rw [Array.toList_push] at pm
  have z1:e1.size=n+1:=by rw [<- Array.length_toList,pm.length_eq,List.length_append,Array.length_toList,h8];rfl
  have c1:ElemsOf (intKind P w) e1.toList:=(h4.push hk hx).perm pm
  have c2:∀ k',(S k' || decide (k'=k))=true ↔ ∃ e∈e1.toList,(intKind P w).is k' e.2=true:=mem_push_iff hk h5 pm
  have en:∀ h',Heap.SameBut a s.heap h'->SetW P w h' a (fun k'=>S k' || decide (k'=k)) e1.size->Q true { s with heap:=h' }:=fun h' sb q=>by
   have r:=fin h' sb;rw [sk] at r;rw [z1] at q;exact r q
  have gw:∀ (b:Bool) (s₁:Shared) (Q':Unit->Shared->Prop),Q' () s₁->wpAny (model P w) A (match b with | true=>rule "set.scan.the-table-gave-way" | false=>pure ()) Q' E s₁:=fun b s₁ Q' q=>SL q
  refine wpAny_bind (gw _ _ _ ?_)
  split
  ·refine wpAny_bind ?_
   rw [hashByValue_scannable 8 hx]
   refine wpAny_pure (Ip gw h1 h2 h3 c1 c2 (by rw [z1];exact hn) ?_ ?_ fun h' sb q=>wpAny_pure (en h' sb q))
   ·split
    ·exact ft
    ·exact SetTable.fits_plain_off ft
   ·split
    ·exact tg
    ·exact Ql tg _
  ·refine wpAny_bind (wpAny_pure ?_);simp only [↓reduceIte]
   exact Ip gw h1 h2 h3 c1 c2 (by rw [z1];exact hn) ft tg fun h' sb q=>wpAny_pure (en h' sb q)
end
section
variable {P:Program} {w:World} {A:Around} {E:Value->Shared->Prop} {s:Shared} {a:Addr}
theorem SetW.congr {h:Heap} {S S':Int->Bool} {n n':Nat} (x:SetW P w h a S n) (e:∀ k,S k=S' k) (en:n=n'):SetW P w h a S' n':=by
 obtain rfl:S=S':=funext e
 subst en;exact x
noncomputable def EZ (P:Program) (w:World) (h:Heap) (a:Addr) (f:Nat->Int) (i:Nat):Prop:=SetW P w h a (fun k=>(firstMet f i).any (· == k)) (firstMet f i).length
theorem Ii {R:Result->Shared->Prop} {I:Addr} {fp wr:List Addr} {G:Array GenState->Array GenState->Prop} {n:Nat} {Pv:Nat->Value->Prop} {St:Nat->Shared->Prop} (W:WalksS P w A.in1 I fp wr G n Pv St) (ha:a∉fp)
 (f:Nat->Int) (hf:∀ i v,Pv i v->∃ t,v=.int (f i) t) (hb:n+1 < scanBound):∀ (k i:Nat) (s:Shared),n - i=k->i<=n->St i s->EZ P w s.heap a f i ->
  (∀ s',Moved (a::wr) G s s'->EZ P w s'.heap a f n->R (.ok (.ret .none)) s')->codeAny (model P w) A (.builtin "set.update.loop" ⟨[.ref a,.ref I],[]⟩) R s
 | 0,i,s,hk,hi,st,hS,hR=>by
  obtain rfl:i=n:=by lia
  refine codeAny_builtin PyProof.Rows.F.entry_set_update_loop ?_
  rw [Around.under_plainId PyProof.Rows.F.plain_set_update_loop _]
  show wpAny _ A.in1 (pyNext (.ref I) >>= _) _ _ s;refine wpAny_bind (W.done s _ _ st fun s' hm=>wpAny_pure (hR s' (hm.mono fun b hb=>List.mem_cons_of_mem _ hb) (hS.at fun o e=>hm.heap a o (fun z=>ha (W.sub _ z)) e)))
 | k+1,i,s,hk,hi,st,hS,hR=>by
  have hlt:i < n:=by lia
  refine codeAny_builtin PyProof.Rows.F.entry_set_update_loop ?_
  rw [Around.under_plainId PyProof.Rows.F.plain_set_update_loop _]
  show wpAny _ A.in1 (pyNext (.ref I) >>= _) _ _ s;refine wpAny_bind (W.item i s _ _ hlt st fun v s' hP st' hm=>?_)
  obtain ⟨t,rfl⟩:=hf i v hP
  have hS':EZ P w s'.heap a f i:=hS.at fun o e=>hm.heap a o (fun z=>ha (W.sub _ z)) e
  show wpAny _ A.in1 (holding [Value.int (f i) t] (setAdd a (.int (f i) t)) >>= _) _ _ s'
  refine wpAny_bind (wpAny_holding ?_);unfold setAdd
  refine wpAny_holding (wpAny_bind ((intKind P w).pyHash (k:=f i) (intKind_is _ _ _ _) ?_))
  refine SO (s:={ s' with toks:=s'.toks+1 }) (intKind_is _ _ _ _) rfl hS' (by have:=firstMet_length_le f i;lia) fun h' sb q=>?_
  refine wpAny_pure ⟨plainId_quiet PyProof.Rows.F.plain_set_update_loop _,Ii W ha f hf hb k (i+1) _ (by lia) hlt (W.frame _ s' _ _ st' (Nat.le_succ _) fun b hb' o e=>?_)
   (q.congr (fun k'=>by rw [firstMet_succ,step_any]) (by rw [firstMet_succ,step_length])) fun s'' hm2 hS2=>?_⟩
  ·rw [sb.2 b (fun z:b=a=>ha (by rw [<- z];exact hb'))];exact e
  ·refine hR s'' (Moved.trans W.gtrans ((hm.mono fun b hb=>List.mem_cons_of_mem _ hb).then_heap (Nat.le_succ _) fun b o hb' e=>?_) hm2) hS2
   rw [sb.2 b (fun z:b=a=>hb' (by rw [z];exact List.mem_cons_self))];exact e
theorem Po:isSubtype (.type "tuple") (.type "set")=pure false:=by rw [isSubtype_type];kernel_rfl
theorem No:isSubtype (.type "tuple") (.type "frozenset")=pure false:=by rw [isSubtype_type];kernel_rfl
theorem Pg (v:Value) {Q:Value->Shared->Prop} (h:Q (.ref s.heap.objs.size) { s with heap:=s.heap.push { cls:=.type "set",dict:=none,data:=.set #[] 0 (.fresh 0 0 (!w.params.followText "set-order")) } }) :
 codeAny (model P w) A (.call (.builtin "set.__new__") ⟨[.type "set",v],[]⟩) (wants Q E) s:=by
 refine codeAny_of_tree ?_
 show wpAny _ A.in1 (do checkBuiltinCall "set.__new__" ⟨[.type "set",v],[]⟩;again (.builtin "set.__new__" ⟨[.type "set",v],[]⟩)) _ _ s
 refine wpAny_bind (wpAny_of_eq (PySem.F.newCall_set_1 v) (wpAny_pure ⟨plainId_quiet PySem.F.plain_set_new _,codeAny_builtin PySem.F.entry_set_new ?_⟩))
 rw [Around.under_plainId PySem.F.plain_set_new _]
 unfold Builtin.«set.__new__» Builtin.Frozenset.newClass;have hsub:=PySem.sub_set_self
 obtain ⟨hp,g,d,tk,os⟩:=s;dsimp only;wp_walk
 refine wpAny_askSetting (wpAny_pure ?_);dsimp only;simp only [newObj]
 exact wpAny_bind (wpAny_alloc (wpAny_pure (wpAny_pure h)))
set_option maxHeartbeats 6400000 in
theorem RP {l:Addr} {its:Array Value} {ns:List Int} {Q:Value->Shared->Prop} (hh:A.handled=none) (hl:s.heap.IsTuple l its) (hi:IntsAre its.toList ns) (hb:its.size+1 < scanBound)
 (fin:∀ (h':Heap) (tk:Nat),EZ P w h' s.heap.objs.size (fun i=>ns.getD i 0) its.size->(∀ b o,b < s.heap.objs.size->s.heap.get? b=some o->h'.get? b=some o)->Q (.ref s.heap.objs.size) { s with heap:=h',toks:=tk }) :
 wpAny (model P w) A (call (.type "set") [.ref l]) Q E s:=by
 obtain ⟨c,tl,hmro⟩:=PySem.F.called_set.mro
 have hmade:=PySem.F.called_set.made
 have hsub:=PySem.F.called_set.sub
 refine wpAny_call (codeAny_of_tree ?_);show wpAny _ _ (callAny (.type "set") _) _ _ _
 refine wpAny_pure ⟨Code.quiet_builtin _ (by decide +kernel),codeAny_builtin PySem.F.entry_type_call ?_⟩
 rw [Around.under_plain (weight_type_call_type "set" [.ref l] []) rfl];have k1:=PySem.F.called_set.notType
 have k2:=PySem.F.called_set.canCreate
 have k3:=PySem.F.typeCall_set_1 (.ref l)
 (repeat (any_goals (first | assumption | wp_step)));refine codeAny_mono (Pg (.ref l) (E:=E) (Q:=fun v s₁=>v=.ref s.heap.objs.size/\s₁ = { s with heap:=s.heap.push { cls:=.type "set",dict:=none,data:=.set #[] 0 (.fresh 0 0 (!w.params.followText "set-order")) } }) ⟨rfl,rfl⟩) fun r s₁ hr=>?_
 cases r with
 | error e=>exact hr
 | ok fl =>
  cases fl with
  | ret ob =>
   obtain ⟨rfl,rfl⟩:=hr
   generalize hled:(!w.params.followText "set-order")=led
   have hS:(s.heap.push { cls:=.type "set",dict:=none,data:=.set #[] 0 (.fresh 0 0 led) }).get? s.heap.objs.size=some { cls:=.type "set",dict:=none,data:=.set #[] 0 (.fresh 0 0 led) }:=Heap.get?_push_size _ rfl;have hT:Shared.TypeIs { s with heap:=s.heap.push { cls:=.type "set",dict:=none,data:=.set #[] 0 (.fresh 0 0 led) } } (.ref s.heap.objs.size) "set":=⟨_,hS,rfl⟩
   have k4:=PySem.F.called_set.init.lookup
   have k5:=PySem.F.called_set.init.bind (.ref s.heap.objs.size)
   (repeat (any_goals (first | assumption | wp_step)));refine codeAny_mono (codeAny_call_builtin (R:=wants (fun r s₂=>r=.none/\∃ h' tk,s₂ = { s with heap:=h',toks:=tk } /\ EZ P w h' s.heap.objs.size (fun i=>ns.getD i 0) its.size /\
    (∀ b o,b < s.heap.objs.size->s.heap.get? b=some o->h'.get? b=some o)) E) PySem.F.called_set.init.plain PySem.F.entry_set_init (check_set_init_1 hT ?_)) fun r₂ s₂ hr₂=>?_
   ·obtain ⟨ol,hol,hcl,nl,hdl⟩:=hl;obtain ⟨ocls,odict,odata,oslots⟩:=ol
    simp only at hcl hdl
    subst hcl;subst hdl
    have hol':(s.heap.push { cls:=.type "set",dict:=none,data:=.set #[] 0 (.fresh 0 0 led) }).get? l=some { cls:=.type "tuple",dict:=odict,data:=.seq its nl,slots:=oslots }:=Heap.get?_push_of_some _ hol
    have s1:=Po
    have s2:=No
    have s3:(Value.type "tuple" == Value.type "dict")=false:=by decide
    have hl1:(s.heap.push { cls:=.type "set",dict:=none,data:=.set #[] 0 (.fresh 0 0 led) }).IsTuple l its:=⟨_,hol',rfl,nl,rfl⟩
    unfold Builtin.«set.__init__» noKeywords Builtin.Frozenset.updateFrom;generalize hPI:pyIter=PI
    wp_walk
    subst hPI
    refine wpAny_pyIter_tuple hl1 (wpAny_bind (wpAny_runValue ?_))
    have hlS:l < s.heap.objs.size:=Heap.lt_size hol;have z1:l≠(s.heap.push { cls:=.type "set",dict:=none,data:=.set #[] 0 (.fresh 0 0 led) }).objs.size:=by
     rw [Heap.size_push];exact (Nat.ne_of_lt (Nat.lt_succ_of_lt hlS))
    have z2:s.heap.objs.size∉[(s.heap.push { cls:=.type "set",dict:=none,data:=.set #[] 0 (.fresh 0 0 led) }).objs.size,l]:=by
     rw [Heap.size_push];simp only [List.mem_cons,List.mem_singleton,List.not_mem_nil,or_false,not_or];exact ⟨Nat.ne_of_lt (Nat.lt_succ_self _),Nat.ne_of_gt hlS⟩
    refine Ii ((Walks.tuple (A:=A.in1.in1.in1) (by simp [hh]) _ l z1 its).toS) z2 (fun i=>ns.getD i 0) (fun i v hv=>PyProof.Rows.IntsAre.int_at hi i v (by rw [Array.getElem?_toList];exact hv)) hb (its.size - 0) 0 _ (by lia) (Nat.zero_le _)
     ⟨⟨_,Heap.get?_push_size _ rfl,rfl,rfl⟩,(hl1.push _)⟩ ?b0 ?bR
    case b0 =>
     refine ⟨_,#[],0,_,Heap.get?_push_of_some _ hS,⟨rfl,rfl,rfl⟩,rfl,fun e he=>by simp at he,fun k=>by simp [firstMet],by decide,by rfl,rfl,?_⟩
     rw [<- hled];exact NC w
    case bR =>
     intro s' hm hS'
     obtain ⟨h',g',d',tk',os'⟩:=s';obtain rfl:g'=s.gens:=hm.gens
     obtain rfl:d'=s.drawn:=hm.drawn
     obtain rfl:os'=s.os:=hm.os
     refine wpAny_pure ?_
     show wpAny _ _ (ret Value.none) _ _ _;refine wpAny_pure ⟨rfl,h',tk',rfl,hS',fun b o hb e=>hm.heap b o ?_ (Heap.get?_push_of_some _ (Heap.get?_push_of_some _ e))⟩
     rw [Heap.size_push]
     simp only [List.mem_cons,List.mem_singleton,List.not_mem_nil,or_false,not_or]
     exact ⟨Nat.ne_of_lt hb,Nat.ne_of_lt (Nat.lt_succ_of_lt hb)⟩
   ·cases r₂ with
    | error e=>exact hr₂
    | ok fl₂ =>
     cases fl₂ with
     | ret r =>
      obtain ⟨rfl,h',tk,rfl,hS',hk'⟩:=hr₂;repeat (any_goals (first | assumption | wp_step))
      exact fin _ _ hS' hk'
     | _=>exact hr₂.elim
  | _=>exact hr.elim
end
namespace F
theorem slot_set_iterator_next:Slot "set_iterator" "__next__" "set_iterator.__next__" :=
 .of (owner:="set_iterator") (n:="__next__") (by rw [typeLookup_type,builtinLookup_eq_fast];kernel_rfl) (by decide +kernel) (by decide +kernel) (by decide +kernel) (by first | exact .inl (by decide +kernel) | exact .inr (by decide +kernel)) (by rw [isSubtype_type];kernel_rfl)
theorem slot_set_iterator_iter:Slot "set_iterator" "__iter__" "set_iterator.__iter__" :=
 .of (owner:="set_iterator") (n:="__iter__") (by rw [typeLookup_type,builtinLookup_eq_fast];kernel_rfl) (by decide +kernel) (by decide +kernel) (by decide +kernel) (by first | exact .inl (by decide +kernel) | exact .inr (by decide +kernel)) (by rw [isSubtype_type];kernel_rfl)
theorem entry_set_iterator_next:entryFor table "set_iterator.__next__" = some Builtin.«set_iterator.__next__»:=entryFor_of_tree (by kernel_rfl)
theorem entry_set_iterator_iter:entryFor table "set_iterator.__iter__" = some Builtin.«dict_keyiterator.__iter__»:=entryFor_alias (id':="dict_keyiterator.__iter__") (by kernel_rfl) (by first | rfl | decide +kernel | (unfold String.splitOn;simp +decide [String.splitOnAux])) (by decide +kernel) (by kernel_rfl)
theorem entry_set_iter:entryFor table "set.__iter__" = some Builtin.«frozenset.__iter__»:=entryFor_alias (id':="frozenset.__iter__") (by kernel_rfl) rfl (by decide +kernel) (by kernel_rfl)
theorem args_set_iterator_next (a:Value):argsOk "set_iterator.__next__" ⟨[a],[]⟩:=by unfold argsOk;kernel_rfl
theorem args_set_iterator_iter (a:Value):argsOk "set_iterator.__iter__" ⟨[a],[]⟩:=by unfold argsOk;kernel_rfl
end F
theorem QZ {M:Model} {A:Around} {E:Value->Shared->Prop} {s:Shared} {src:Source} {n:Nat} {Q:Nat->Shared->Prop} (hn:n≠0) (h:∀ i d,i < n->Q i { s with drawn:=d }):wpAny M A (choose src n) Q E s :=
 fun _ _ _=>⟨hn,h _ _ (Nat.mod_lt _ (Nat.pos_of_ne_zero hn))⟩
theorem Ij {α:Type} {l:List α} {i:Nat} (h:i < l.length):(l[i]::l.eraseIdx i).Perm l:=by
 rw [List.eraseIdx_eq_take_drop_succ]
 have e:l=l.take i++l[i]::l.drop (i+1):=by rw [<- List.drop_eq_getElem_cons h,List.take_append_drop]
 exact List.perm_middle.symm.trans (e ▸ .rfl)
theorem Ke {M:Model} {A:Around} {E:Value->Shared->Prop} {α:Type}:∀ (n:Nat) (xs:List α) (s:Shared) (Q:List α->Shared->Prop),xs.length=n->(∀ ys d,ys.Perm xs->Q ys { s with drawn:=d })->wpAny M A (drawOrder n xs) Q E s
 | 0,xs,s,Q,hl,h=>by
  obtain rfl:xs=[]:=List.length_eq_zero_iff.mp hl
  unfold drawOrder
  exact wpAny_pure (h [] s.drawn .nil)
 | n+1,[],s,Q,hl,h=>by cases hl
 | n+1,x0::r,s,Q,hl,h=>by
  unfold drawOrder
  refine wpAny_bind (QZ (by simp) fun i d hi=>?_)
  obtain ⟨x,hx⟩:∃ x,(x0::r)[i]? = some x:=⟨_,List.getElem?_eq_getElem hi⟩
  rw [hx]
  dsimp only
  refine wpAny_bind (Ke n _ _ _ (by rw [List.length_eraseIdx];simp only [hi,if_true];lia) fun ys d2 hp=>wpAny_pure ?_)
  refine h _ d2 ?_
  have e:(x0::r)[i]=x:=by rw [List.getElem?_eq_getElem hi] at hx;exact Option.some.inj hx
  exact (List.Perm.cons x hp).trans (e ▸ Ij hi)
theorem MW {α:Type} (nx:Nat->Nat):∀ (f k:Nat) (l:List α) (out:Array α),l.length=f->(pickOrder.go nx f k l out).toList.Perm (out.toList++l)
 | 0,k,l,out,hl=>by
  obtain rfl:l=[]:=List.length_eq_zero_iff.mp hl
  unfold pickOrder.go
  rw [List.append_nil]
 | f+1,k,l,out,hl=>by
  unfold pickOrder.go
  have hi:nx k % l.length < l.length:=Nat.mod_lt _ (by lia)
  rw [List.getElem?_eq_getElem hi]
  dsimp only
  refine (MW nx f (k+1) _ _ (by rw [List.length_eraseIdx];simp only [hi,if_true];lia)).trans ?_
  rw [Array.toList_push,List.append_assoc]
  exact List.Perm.append_left _ (Ij hi)
theorem Gd {α:Type} (nx:Nat->Nat) (xs:Array α):(pickOrder nx xs).toList.Perm xs.toList:=by
 have:=MW nx xs.size 0 xs.toList #[] (by simp)
 rw [List.nil_append] at this
 exact this
noncomputable def IsSetIter (h:Heap) (I:Addr) (f:Value) (i:Nat) (a:Addr) (n ep:Nat):Prop:=∃ o,h.get? I=some o/\o.cls=.type "set_iterator" /\ o.data=.fields #[f,.int i 0,.ref a,.int n 0,.int ep 0]
theorem IsSetIter.typeIs {s:Shared} {I a:Addr} {f:Value} {i n ep:Nat} (x:IsSetIter s.heap I f i a n ep):s.TypeIs (.ref I) "set_iterator":=let ⟨o,ho,hc,_⟩:=x;⟨o,ho,hc⟩
theorem IsSetIter.at {h h':Heap} {I a:Addr} {f:Value} {i n ep:Nat} (x:IsSetIter h I f i a n ep) (e:∀ o,h.get? I=some o->h'.get? I=some o):IsSetIter h' I f i a n ep:=let ⟨o,ho,r⟩:=x;⟨o,e _ ho,r⟩
section
variable {P:Program} {w:World} {A:Around} {E:Value->Shared->Prop} {s:Shared} {a I:Addr}
theorem Fj {h:Heap} {o:Obj} {vs:Array Value} (ho:h.get? I=some o) (hd:o.data=.fields vs) (k:Nat) (x:Value):∃ o',(h.update I (Obj.mapFields (·.setIfInBounds k x))).get? I=some o'/\o'.cls=o.cls/\o'.data=.fields (vs.setIfInBounds k x) :=
 ⟨_,Heap.get?_update_self _ ho (Obj.isFreed_of_fields (Obj.data_mapFields hd _)),Obj.cls_mapFields ..,Obj.data_mapFields hd _⟩
theorem LX {o:Obj} {es:Array (Int × Value)} {ep i slot nx:Nat} {t:SetTable} {x:Value} {Q:Option Value->Shared->Prop} (hit:IsSetIter s.heap I (.int slot 0) i a es.size ep) (h1:s.heap.get? a=some o) (h3:o.data=.set es ep t) (h7:t.fits es.size=true)
 (hn:∀ (A:Around) (E:Value->Shared->Prop) (Q:Option (Value × Nat)->Shared->Prop),Q (some (x,nx)) s->wpAny (model P w) A (setNext a slot i ep) Q E s)
 (hQ:∀ h',IsSetIter h' I (.int nx 0) (i+1) a es.size ep->Heap.SameBut I s.heap h'->Q (some x) { s with heap:=h' }):wpAny (model P w) A (pyNext (.ref I)) Q E s:=by
 obtain ⟨oi,ho,hc,hd⟩:=id hit
 unfold pyNext
 refine wpAny_bind (wpAny_attempt (wpAny_callSpecial?_slot (name:=Str.ofString "__next__") hit.typeIs F.slot_set_iterator_next (wpAny_call_entry F.slot_set_iterator_next hit.typeIs F.entry_set_iterator_next ?_ (F.args_set_iterator_next _))))
 show wpAny _ _ (fieldsOf (.ref I) >>= _) _ _ s
 refine wpAny_bind (wpAny_fieldsOf ho hd ?_);dsimp only
 refine wpAny_bind (wpAny_setEntries_of h1 h3 h7 ?_)
 refine wpAny_ite_split (fun hab=>absurd hab (by simp)) (fun _=>?_)
 refine wpAny_bind (hn _ _ _ ?_)
 dsimp only
 obtain ⟨o1,ho1,hc1,hd1⟩:=Fj ho hd 0 (rawInt nx)
 refine wpAny_bind (wpAny_setField ho hd (by simp) (wpAny_bind (wpAny_setField ho1 hd1 (by simp) (wpAny_pure ⟨x,rfl,wpAny_pure (hQ _ ?_ ((Heap.SameBut.update ..).trans (Heap.SameBut.update ..)))⟩))))
 obtain ⟨o2,ho2,hc2,hd2⟩:=Fj ho1 hd1 1 (rawInt (i+1))
 exact ⟨o2,ho2,hc2.trans (hc1.trans hc),by rw [hd2];simp [rawInt]⟩
theorem Jx {o:Obj} {es:Array (Int × Value)} {ep i slot:Nat} {t:SetTable} {Q:Option Value->Shared->Prop} (hh:A.handled=none) (hit:IsSetIter s.heap I (.int slot 0) i a es.size ep) (h1:s.heap.get? a=some o) (h3:o.data=.set es ep t) (h7:t.fits es.size=true)
 (hn:∀ (A:Around) (E:Value->Shared->Prop) (Q:Option (Value × Nat)->Shared->Prop),Q none s->wpAny (model P w) A (setNext a slot i ep) Q E s)
 (hQ:∀ h',Heap.ExtBut I s.heap h'->Q none { s with heap:=h' }):wpAny (model P w) A (pyNext (.ref I)) Q E s:=by
 obtain ⟨oi,ho,hc,hd⟩:=id hit
 unfold pyNext
 refine wpAny_bind (wpAny_attempt (wpAny_callSpecial?_slot (name:=Str.ofString "__next__") hit.typeIs F.slot_set_iterator_next (wpAny_call_entry F.slot_set_iterator_next hit.typeIs F.entry_set_iterator_next ?_ (F.args_set_iterator_next _))))
 show wpAny _ _ (fieldsOf (.ref I) >>= _) _ _ s
 refine wpAny_bind (wpAny_fieldsOf ho hd ?_);dsimp only
 refine wpAny_bind (wpAny_setEntries_of h1 h3 h7 ?_)
 refine wpAny_ite_split (fun hab=>absurd hab (by simp)) (fun _=>?_)
 refine wpAny_bind (hn _ _ _ ?_)
 dsimp only
 refine wpAny_bind (wpAny_setField ho hd (by simp) ?_);show wpAny _ _ (newExc (.type "StopIteration") [] >>= _) _ _ _
 refine wpAny_bind ?_
 simp only [newExc,newTuple]
 refine wpAny_bind (wpAny_newObj_type (wpAny_bind (m:=firstArgMember _ _) (wpAny_of_eq (a:=Value.none) (by first | rfl | (simp only [firstArgMember];rfl)) (wpAny_newObj_type ?_ (by size_fits)))) (by size_fits))
 simp only [raiseNew]
 refine wpAny_bind (wpAny_handled ?_);first | rw [show A.in1.handled=none from hh] | rw [hh]
 refine wpAny_bind (wpAny_pure (wpAny_throw ?st));refine wpAny_bind (wpAny_isInstance (T:="StopIteration") (b:=true) ⟨_,Heap.get?_push_size _ rfl,rfl⟩ isSubtype_stop ?_)
 exact wpAny_pure (hQ _ ((((Heap.SameBut.update ..)).extBut.push _).push _))
theorem T9 {o ot:Obj} {es:Array (Int × Value)} {ep i tp nt:Nat} {t:SetTable} {ps:Array Value} {p:Nat} {x:Int × Value} {Q:Option Value->Shared->Prop} (hit:IsSetIter s.heap I (.ref tp) i a es.size ep) (h1:s.heap.get? a=some o) (h3:o.data=.set es ep t) (h7:t.fits es.size=true)
 (ht:s.heap.get? tp=some ot) (hdt:ot.data=.seq ps nt) (hp:ps[i]? = some (.int p 0)) (hx:es[p]? = some x)
 (hQ:∀ h',IsSetIter h' I (.ref tp) (i+1) a es.size ep->Heap.SameBut I s.heap h'->Q (some x.2) { s with heap:=h' }):wpAny (model P w) A (pyNext (.ref I)) Q E s:=by
 obtain ⟨oi,ho,hc,hd⟩:=id hit
 unfold pyNext
 refine wpAny_bind (wpAny_attempt (wpAny_callSpecial?_slot (name:=Str.ofString "__next__") hit.typeIs F.slot_set_iterator_next (wpAny_call_entry F.slot_set_iterator_next hit.typeIs F.entry_set_iterator_next ?_ (F.args_set_iterator_next _))))
 show wpAny _ _ (fieldsOf (.ref I) >>= _) _ _ s
 refine wpAny_bind (wpAny_fieldsOf ho hd ?_);dsimp only
 refine wpAny_bind (wpAny_setEntries_of h1 h3 h7 ?_)
 refine wpAny_ite_split (fun hab=>absurd hab (by simp)) (fun _=>?_)
 refine wpAny_bind (wpAny_seqItems ht hdt ?_)
 simp only [Int.toNat_natCast,hp]
 unfold setNextDrawn
 refine wpAny_bind (wpAny_bind (wpAny_setState_of h1 h3 h7 ?_))
 dsimp only
 refine wpAny_ite_split (fun hab=>absurd hab (by simp)) (fun _=>?_)
 rw [hx]
 refine wpAny_pure (wpAny_bind (wpAny_setField ho hd (by simp) (wpAny_pure ⟨x.2,rfl,wpAny_pure (hQ _ ?_ (Heap.SameBut.update ..))⟩)))
 obtain ⟨o2,ho2,hc2,hd2⟩:=Fj ho hd 1 (rawInt (i+1))
 exact ⟨o2,ho2,hc2.trans hc,by rw [hd2];simp [rawInt]⟩
theorem Q2 {o ot:Obj} {es:Array (Int × Value)} {ep i tp nt:Nat} {t:SetTable} {ps:Array Value} {Q:Option Value->Shared->Prop} (hh:A.handled=none) (hit:IsSetIter s.heap I (.ref tp) i a es.size ep) (h1:s.heap.get? a=some o) (h3:o.data=.set es ep t) (h7:t.fits es.size=true)
 (ht:s.heap.get? tp=some ot) (hdt:ot.data=.seq ps nt) (hp:ps[i]? = none)
 (hQ:∀ h',Heap.ExtBut I s.heap h'->Q none { s with heap:=h' }):wpAny (model P w) A (pyNext (.ref I)) Q E s:=by
 obtain ⟨oi,ho,hc,hd⟩:=id hit
 unfold pyNext
 refine wpAny_bind (wpAny_attempt (wpAny_callSpecial?_slot (name:=Str.ofString "__next__") hit.typeIs F.slot_set_iterator_next (wpAny_call_entry F.slot_set_iterator_next hit.typeIs F.entry_set_iterator_next ?_ (F.args_set_iterator_next _))))
 show wpAny _ _ (fieldsOf (.ref I) >>= _) _ _ s
 refine wpAny_bind (wpAny_fieldsOf ho hd ?_);dsimp only
 refine wpAny_bind (wpAny_setEntries_of h1 h3 h7 ?_)
 refine wpAny_ite_split (fun hab=>absurd hab (by simp)) (fun _=>?_)
 refine wpAny_bind (wpAny_seqItems ht hdt ?_)
 simp only [Int.toNat_natCast,hp]
 obtain ⟨o1,ho1,hc1,hd1⟩:=Fj ho hd 0 (rawInt 0)
 refine wpAny_bind (wpAny_setField ho hd (by simp) (wpAny_bind (wpAny_setField ho1 hd1 (by simp) ?_)))
 show wpAny _ _ (newExc (.type "StopIteration") [] >>= _) _ _ _;refine wpAny_bind ?_
 simp only [newExc,newTuple]
 refine wpAny_bind (wpAny_newObj_type (wpAny_bind (m:=firstArgMember _ _) (wpAny_of_eq (a:=Value.none) (by first | rfl | (simp only [firstArgMember];rfl)) (wpAny_newObj_type ?_ (by size_fits)))) (by size_fits))
 simp only [raiseNew]
 refine wpAny_bind (wpAny_handled ?_);first | rw [show A.in1.handled=none from hh] | rw [hh]
 refine wpAny_bind (wpAny_pure (wpAny_throw ?st));refine wpAny_bind (wpAny_isInstance (T:="StopIteration") (b:=true) ⟨_,Heap.get?_push_size _ rfl,rfl⟩ isSubtype_stop ?_)
 exact wpAny_pure (hQ _ ((((Heap.SameBut.update ..).trans (Heap.SameBut.update ..)).extBut.push _).push _))
theorem HC {f:Value} {i n ep:Nat} {Q:Value->Shared->Prop} (hit:IsSetIter s.heap I f i a n ep) (h:Q (.ref I) s):wpAny (model P w) A (pyIter (.ref I)) Q E s:=by
 refine wpAny_pyIter_slot hit.typeIs F.slot_set_iterator_iter (wpAny_call_entry F.slot_set_iterator_iter hit.typeIs F.entry_set_iterator_iter ?_ (F.args_set_iterator_iter _))
 show wpAny _ _ (ret (.ref I)) _ _ s
 exact wpAny_pure ⟨_,rfl,"set_iterator",_,hit.typeIs,F.slot_set_iterator_next.lookup,h⟩
end
section
variable {P:Program} {w:World} {A:Around} {E:Value->Shared->Prop} {s:Shared} {a I:Addr}
theorem Lj {l:List (Int × Value)} (h:ElemsOf (intKind P w) l) {e:Int × Value} (he:e∈l):∃ t,e.2=.int (numOf e.2) t:=by
 obtain ⟨⟨k,hk,_⟩,_⟩:=h e he
 obtain ⟨t,et⟩:=Value.isInt_shape (show Value.isInt k e.2=true from hk)
 exact ⟨t,by rw [et];rfl⟩
theorem GB {l:List (Int × Value)} (h:ElemsOf (intKind P w) l) (k:Int):k∈l.map (fun (e:Int × Value)=>numOf e.2) ↔ ∃ e∈l,(intKind P w).is k e.2=true:=by
 rw [List.mem_map]
 constructor
 ·rintro ⟨e,he,rfl⟩
  obtain ⟨t,et⟩:=Lj h he
  exact ⟨e,he,by rw [et];exact intKind_is _ _ _ _⟩
 ·rintro ⟨e,he,hk⟩
  obtain ⟨t,et⟩:=Value.isInt_shape (show Value.isInt k e.2=true from hk)
  exact ⟨e,he,by rw [et];rfl⟩
theorem Ft {Q:Bool->Shared->Prop} (h:Q (w.params.followText "set-order") s):wpAny (model P w) A setsByText Q E s:=by
 unfold setsByText
 exact wpAny_bind (wpAny_askSetting (wpAny_pure h))
theorem Jp {o:Obj} {es:Array (Int × Value)} {ep i:Nat} {t:SetTable} (hx:w.params.followText "set-order" = true) (h1:s.heap.get? a=some o) (h3:o.data=.set es ep t) (h7:t.fits es.size=true) {Q:Option (Value × Nat)->Shared->Prop}
 (h:Q (((pickOrder (w.params.setOrder a ep) es)[i]?).map fun e=>(e.2,0)) s):wpAny (model P w) A (setNext a 0 i ep) Q E s:=by
 unfold setNext
 refine wpAny_bind (wpAny_setState_of h1 h3 h7 ?_);dsimp only
 refine wpAny_bind (Ft ?_);rw [hx];simp only [↓reduceIte]
 refine wpAny_ite_split (fun hab=>absurd hab (by simp)) (fun _=>?_)
 unfold setWalk
 refine wpAny_bind (wpAny_bind (wpAny_setState_of h1 h3 h7 ?_));dsimp only
 refine wpAny_bind (Ft ?_);rw [hx];simp only [↓reduceIte]
 exact wpAny_bind (wpAny_askSetting (wpAny_pure (wpAny_pure h)))
theorem Le {o:Obj} {es:Array (Int × Value)} {ep i sl:Nat} {t:SetTable} (hx:w.params.followText "set-order" = false) (h1:s.heap.get? a=some o) (h3:o.data=.set es ep t) (h7:t.fits es.size=true) (hl:t.led=true) (hd:(!t.plain && decide (es.size > 1))=false)
 {k:Nat} (hk:SetTable.below t.place sl=k) {Q:Option (Value × Nat)->Shared->Prop}
 (h:Q (match es[k]?,t.place[k]? with | some (_,x),some j=>some (x,j+1) | _,_=>none) s):wpAny (model P w) A (setNext a sl i ep) Q E s:=by
 unfold setNext
 refine wpAny_bind (wpAny_setState_of h1 h3 h7 ?_);dsimp only
 refine wpAny_bind (Ft ?_);rw [hx]
 refine wpAny_ite_split (fun hab=>absurd hab (by simp)) (fun _=>?_)
 refine wpAny_ite_split (fun hab=>absurd (show (!t.plain && decide (es.size > 1))=true from hab) (by rw [hd];simp)) (fun _=>?_)
 refine wpAny_bind ?_
 show wpAny _ _ (if (!t.led && !es.isEmpty)=true then unsupported "set:maker-not-led" else pure ()) _ _ _
 refine wpAny_ite_split (fun hab=>absurd hab (by rw [hl];simp)) (fun _=>wpAny_pure ?_)
 subst hk
 exact wpAny_pure h
noncomputable def E7 (L:List (Int × Value)) (i:Nat) (v:Value):Prop:=∃ t,v=.int ((L.map fun (e:Int × Value)=>numOf e.2).getD i 0) t
theorem HU {L:List (Int × Value)} (h:ElemsOf (intKind P w) L) {i:Nat} {e:Int × Value} (he:L[i]? = some e):E7 L i e.2:=by
 obtain ⟨t,et⟩:=Lj h (List.mem_of_getElem? he)
 refine ⟨t,?_⟩
 rw [List.getD_eq_getElem?_getD,List.getElem?_map,he]
 exact et
theorem OJ {o:Obj} {es:Array (Int × Value)} {ep:Nat} {t:SetTable} (hh:A.handled=none) (hne:a≠I) (hx:w.params.followText "set-order" = true) (h3:o.data=.set es ep t) (h4:ElemsOf (intKind P w) es.toList) (h7:t.fits es.size=true) :
 Walks P w A I [I,a] [I] es.size (E7 (pickOrder (w.params.setOrder a ep) es).toList) (fun i h=>IsSetIter h I (.int 0 0) i a es.size ep/\h.get? a=some o) where
 sub:=fun b hb=>by simp at hb;simp [hb]
 frame:=fun _ _ _ st hk=>⟨st.1.at fun o e=>hk I (by simp) o e,hk a (by simp) _ st.2⟩
 item:=fun i s Q E hi st hQ=>by
  have pm:=Gd (w.params.setOrder a ep) es
  have hl:i < (pickOrder (w.params.setOrder a ep) es).size:=by rw [<- Array.length_toList,pm.length_eq,Array.length_toList];exact hi
  refine LX (slot:=0) (nx:=0) (x:=(pickOrder (w.params.setOrder a ep) es)[i].2) st.1 st.2 h3 h7 (fun A E Q q=>Jp hx st.2 h3 h7 (by rw [Array.getElem?_eq_getElem hl];exact q)) fun h' hit' sb=>?_
  exact hQ _ h' s.toks (HU (h4.perm pm) (by rw [Array.getElem?_toList,Array.getElem?_eq_getElem hl])) ⟨hit',(sb.2 a hne).trans st.2⟩ fun b o hb e=>sb.extBut b o (fun h=>hb (by simp [h])) e
 done:=fun s Q E st hQ=>by
  have pm:=Gd (w.params.setOrder a ep) es
  refine Jx (slot:=0) hh st.1 st.2 h3 h7 (fun A E Q q=>Jp hx st.2 h3 h7 ?_) fun h' he'=>hQ h' s.toks fun b o hb e=>he' b o (fun h=>hb (by simp [h])) e
  rw [Array.getElem?_eq_none (by rw [<- Array.length_toList,pm.length_eq,Array.length_toList];exact Nat.le_refl _)]
  exact q
 self:=fun _ _ _ _ st hQ=>HC st.1 hQ
noncomputable def E6 (t:SetTable) (i:Nat):Nat:=match i with | 0=>0 | k+1=>t.place.getD k 0+1
theorem KH {t:SetTable} (g:Ris t.place) {i:Nat} (h:i<=t.place.size):SetTable.below t.place (E6 t i)=i:=by
 cases i with
 | zero=>exact Ts g
 | succ k=>exact QW g h
theorem Rw {o:Obj} {es:Array (Int × Value)} {ep:Nat} {t:SetTable} (hh:A.handled=none) (hne:a≠I) (hx:w.params.followText "set-order" = false) (hd:(!t.plain && decide (es.size > 1))=false) (h3:o.data=.set es ep t) (h4:ElemsOf (intKind P w) es.toList) (h7:t.fits es.size=true) (g:TabG w t) :
 Walks P w A I [I,a] [I] es.size (E7 es.toList) (fun i h=>IsSetIter h I (.int (E6 t i) 0) i a es.size ep/\h.get? a=some o) where
 sub:=fun b hb=>by simp at hb;simp [hb]
 frame:=fun _ _ _ st hk=>⟨st.1.at fun o e=>hk I (by simp) o e,hk a (by simp) _ st.2⟩
 item:=fun i s Q E hi st hQ=>by
  have hz:t.place.size=es.size:=by have:=h7;unfold SetTable.fits at this;simp at this;exact this.1
  have hl:t.led=true:=by rw [g.led,hx];rfl
  refine LX (nx:=E6 t (i+1)) (x:=es[i].2) st.1 st.2 h3 h7 (fun A E Q q=>Le hx st.2 h3 h7 hl hd (KH g.ris (by lia)) ?_) fun h' hit' sb=>?_
  ·rw [Array.getElem?_eq_getElem hi,Array.getElem?_eq_getElem (show i < t.place.size by lia)]
   have e:E6 t (i+1)=t.place[i]+1:=by show t.place.getD i 0+1=_;simp [Array.getD,show i < t.place.size by lia]
   rw [e] at q
   exact q
  ·exact hQ _ h' s.toks (HU h4 (by rw [Array.getElem?_toList,Array.getElem?_eq_getElem hi])) ⟨hit',(sb.2 a hne).trans st.2⟩ fun b o hb e=>sb.extBut b o (fun h=>hb (by simp [h])) e
 done:=fun s Q E st hQ=>by
  have hz:t.place.size=es.size:=by have:=h7;unfold SetTable.fits at this;simp at this;exact this.1
  have hl:t.led=true:=by rw [g.led,hx];rfl
  refine Jx hh st.1 st.2 h3 h7 (fun A E Q q=>Le hx st.2 h3 h7 hl hd (KH g.ris (by lia)) ?_) fun h' he'=>hQ h' s.toks fun b o hb e=>he' b o (fun h=>hb (by simp [h])) e
  rw [Array.getElem?_eq_none (Nat.le_refl _)]
  exact q
 self:=fun _ _ _ _ st hQ=>HC st.1 hQ
theorem Lo {α:Type} (es:Array α):∀ (l:List Nat),(∀ x∈l,x < es.size)->∀ i:Nat,(l.filterMap (es[·]?))[i]? = (l[i]?).bind (es[·]?)
 | [],_,i=>by simp
 | x::r,hx,i=>by
  have hx0:x < es.size:=hx x List.mem_cons_self
  rw [List.filterMap_cons,Array.getElem?_eq_getElem hx0]
  cases i with
  | zero=>simp [hx0]
  | succ j=>simpa using Lo es r (fun y hy=>hx y (List.mem_cons_of_mem _ hy)) j
theorem SX {o ot:Obj} {es:Array (Int × Value)} {ep tp nt:Nat} {t:SetTable} {ps:List Nat} (hh:A.handled=none) (hne:a≠I) (hnt:tp≠I) (h3:o.data=.set es ep t) (h4:ElemsOf (intKind P w) es.toList) (h7:t.fits es.size=true)
 (hdt:ot.data=.seq (ps.map fun (i:Nat)=>rawInt i).toArray nt) (hp:ps.Perm (List.range es.size)) :
 Walks P w A I [I,a,tp] [I] es.size (E7 (ps.filterMap (es[·]?))) (fun i h=>IsSetIter h I (.ref tp) i a es.size ep/\h.get? a=some o/\h.get? tp=some ot) where
 sub:=fun b hb=>by simp at hb;simp [hb]
 frame:=fun _ _ _ st hk=>⟨st.1.at fun o e=>hk I (by simp) o e,hk a (by simp) _ st.2.1,hk tp (by simp) _ st.2.2⟩
 item:=fun i s Q E hi st hQ=>by
  have hl:ps.length=es.size:=by rw [hp.length_eq,List.length_range]
  have hi':i < ps.length:=by lia
  have hpi:ps[i] < es.size:=List.mem_range.mp (hp.mem_iff.mp (List.getElem_mem hi'))
  have pm:(ps.filterMap (es[·]?)).Perm es.toList:=(hp.filterMap _).trans (by rw [filterMap_getElem?_range])
  refine T9 (p:=ps[i]) (x:=es[ps[i]]) st.1 st.2.1 h3 h7 st.2.2 hdt (by simp [hi',rawInt]) (Array.getElem?_eq_getElem hpi) fun h' hit' sb=>?_
  exact hQ _ h' s.toks (HU (h4.perm pm) (by rw [Lo es ps (fun x hx=>List.mem_range.mp (hp.mem_iff.mp hx)) i,List.getElem?_eq_getElem hi'];exact Array.getElem?_eq_getElem hpi)) ⟨hit',(sb.2 a hne).trans st.2.1,(sb.2 tp hnt).trans st.2.2⟩ fun b o hb e=>sb.extBut b o (fun h=>hb (by simp [h])) e
 done:=fun s Q E st hQ=>by
  have hl:ps.length=es.size:=by rw [hp.length_eq,List.length_range]
  exact Q2 hh st.1 st.2.1 h3 h7 st.2.2 hdt (by simp [hl]) fun h' he'=>hQ h' s.toks fun b o hb e=>he' b o (fun h=>hb (by simp [h])) e
 self:=fun _ _ _ _ st hQ=>HC st.1 hQ
theorem PN {S:Int->Bool} {n:Nat} {Q:Value->Shared->Prop} (hS:SetW P w s.heap a S n)
 (fin:∀ (h':Heap) d (I:Addr) (fp:List Addr) (St:Nat->Heap->Prop) (ms:List Int),ms.length=n->(∀ k,k∈ms ↔ S k=true)->(∀ b o,s.heap.get? b=some o->h'.get? b=some o)->s.heap.objs.size<=I->(∀ b∈fp,b=a\/s.heap.objs.size<=b) ->
   (∀ A:Around,A.handled=none->Walks P w A I fp [I] n (fun i v=>∃ t,v=.int (ms.getD i 0) t) St)->St 0 h'->Q (.ref I) { s with heap:=h',drawn:=d }):wpAny (model P w) A (pyIter (.ref a)) Q E s:=by
 obtain ⟨o,es,ep,t,h1,h2,h3,h4,h5,h6,h7,h8,g⟩:=hS
 have hT:s.TypeIs (.ref a) "set":=⟨o,h1,h2.1⟩
 have hlt:=Heap.lt_size h1
 subst h8
 refine wpAny_pyIter_slot hT PySem.F.slot_set_iter (wpAny_call_entry PySem.F.slot_set_iter hT F.entry_set_iter ?_ (PySem.F.args_set_iter_1 _))
 show wpAny _ _ (Builtin.Frozenset.sizeOf a >>= _) _ _ s
 refine wpAny_bind (wpAny_bind (wpAny_setEntries_of h1 h3 h7 (wpAny_pure ?_)))
 show wpAny _ _ (setDrawn a >>= _) _ _ s
 unfold setDrawn
 refine wpAny_bind (wpAny_bind (wpAny_setState_of h1 h3 h7 ?_));dsimp only
 refine wpAny_bind (Ft (wpAny_pure ?_))
 cases hx:w.params.followText "set-order" with
 | true =>
  refine wpAny_ite_split (fun hab=>absurd hab (by simp)) (fun _=>?_)
  refine wpAny_bind (wpAny_pure (wpAny_bind (wpAny_setEpoch_of h1 h3 h7 ?_)))
  have pm:=Gd (w.params.setOrder a ep) es
  refine wpAny_bind (wpAny_newObj_type (wpAny_pure ⟨_,rfl,"set_iterator",_,⟨_,Heap.get?_push_size _ rfl,rfl⟩,F.slot_set_iterator_next.lookup,?_⟩))
  refine fin _ s.drawn s.heap.objs.size [s.heap.objs.size,a] _ ((pickOrder (w.params.setOrder a ep) es).toList.map fun (e:Int × Value)=>numOf e.2) (by rw [List.length_map,pm.length_eq,Array.length_toList]) (fun k=>by rw [GB (h4.perm pm),h5 k];exact ⟨fun ⟨e,x,y⟩=>⟨e,pm.mem_iff.mp x,y⟩,fun ⟨e,x,y⟩=>⟨e,pm.mem_iff.mpr x,y⟩⟩) (fun b o e=>Heap.get?_push_of_some _ e) (Nat.le_refl _)
   (fun b hb=>by simp at hb;rcases hb with rfl | rfl <;> simp) (fun A hh=>OJ hh (Nat.ne_of_lt hlt) hx h3 h4 h7) ⟨⟨_,Heap.get?_push_size _ rfl,rfl,rfl⟩,Heap.get?_push_of_some _ h1⟩
 | false =>
  by_cases hd:(!t.plain && decide (es.size > 1))=true
  ·refine wpAny_ite_split (fun _=>?_) (fun hab=>absurd (show (!false && (!t.plain && decide (es.size > 1)))=true by rw [hd];rfl) hab)
   refine wpAny_bind (Ke es.size (List.range es.size) _ _ (by simp) fun ps d hp=>?_)
   refine wpAny_bind (wpAny_newTuple ?_ (by rw [List.length_map,hp.length_eq,List.length_range];exact fits_of_scanBound h6))
   refine wpAny_bind (wpAny_setEpoch_of (Heap.get?_push_of_some _ h1) h3 h7 ?_)
   have pm:(ps.filterMap (es[·]?)).Perm es.toList:=(hp.filterMap _).trans (by rw [filterMap_getElem?_range])
   refine wpAny_bind (wpAny_newObj_type (wpAny_pure ⟨_,rfl,"set_iterator",_,⟨_,Heap.get?_push_size _ rfl,rfl⟩,F.slot_set_iterator_next.lookup,?_⟩))
   refine fin _ d (s.heap.push { cls:=.type "tuple",data:=.seq (ps.map fun (i:Nat)=>rawInt i).toArray }).objs.size [(s.heap.push { cls:=.type "tuple",data:=.seq (ps.map fun (i:Nat)=>rawInt i).toArray }).objs.size,a,s.heap.objs.size] _ ((ps.filterMap (es[·]?)).map fun (e:Int × Value)=>numOf e.2) (by rw [List.length_map,pm.length_eq,Array.length_toList])
    (fun k=>by rw [GB (h4.perm pm),h5 k];exact ⟨fun ⟨e,x,y⟩=>⟨e,pm.mem_iff.mp x,y⟩,fun ⟨e,x,y⟩=>⟨e,pm.mem_iff.mpr x,y⟩⟩) (fun b o e=>Heap.get?_push_of_some _ (Heap.get?_push_of_some _ e)) (by rw [Heap.size_push];exact Nat.le_succ _)
    (fun b hb=>by rw [Heap.size_push] at hb;simp at hb;rcases hb with rfl | rfl | rfl <;> simp) (fun A hh=>SX hh (by rw [Heap.size_push];exact Nat.ne_of_lt (Nat.lt_succ_of_lt hlt)) (by rw [Heap.size_push];exact Nat.ne_of_lt (Nat.lt_succ_self _)) h3 h4 h7 rfl hp)
    ⟨⟨_,Heap.get?_push_size _ rfl,rfl,rfl⟩,Heap.get?_push_of_some _ (Heap.get?_push_of_some _ h1),Heap.get?_push_of_some _ (Heap.get?_push_size _ rfl)⟩
  ·have hd':(!t.plain && decide (es.size > 1))=false:=by simpa using hd
   refine wpAny_ite_split (fun hab=>absurd (show (!t.plain && decide (es.size > 1))=true from hab) (by rw [hd'];simp)) (fun _=>?_)
   refine wpAny_bind (wpAny_pure (wpAny_bind (wpAny_setEpoch_of h1 h3 h7 ?_)))
   refine wpAny_bind (wpAny_newObj_type (wpAny_pure ⟨_,rfl,"set_iterator",_,⟨_,Heap.get?_push_size _ rfl,rfl⟩,F.slot_set_iterator_next.lookup,?_⟩))
   refine fin _ s.drawn s.heap.objs.size [s.heap.objs.size,a] _ (es.toList.map fun (e:Int × Value)=>numOf e.2) (by rw [List.length_map,Array.length_toList]) (fun k=>by rw [GB h4,h5 k]) (fun b o e=>Heap.get?_push_of_some _ e) (Nat.le_refl _)
    (fun b hb=>by simp at hb;rcases hb with rfl | rfl <;> simp) (fun A hh=>Rw hh (Nat.ne_of_lt hlt) hx hd' h3 h4 h7 g) ⟨⟨_,Heap.get?_push_size _ rfl,rfl,rfl⟩,Heap.get?_push_of_some _ h1⟩
end
end L2
namespace L2
open PySem PySem.Spec PyProof.Rows PySem.W PySem.Calls
section
variable {P:Program} {w:World} {A:Around} {E:Value->Shared->Prop} {s:Shared} {a I:Addr}
theorem Qm {Q:Bool->Shared->Prop} (hT:s.TypeIs (.ref a) "set") (h:Q false s):wpAny (model P w) A (Builtin.List.listLengthHint (.ref a)) Q E s:=by
 unfold Builtin.List.listLengthHint
 refine wpAny_bind (wpAny_specialOf hT PySem.F.slot_set_len.lookup ?_)
 generalize hid:("set.__len__" : String)=id0
 wp_delta
 rw [show splitId id0=some ("set","__len__") from by subst hid;decide +kernel]
 subst hid
 refine wpAny_bind (wpAny_isInstance (T:="set") (b:=true) hT (by rw [isSubtype_type];kernel_rfl) ?_)
 refine wpAny_ite_split (fun hab=>absurd hab (by decide)) (fun _=>wpAny_ite_split (fun _=>wpAny_bind (wpAny_typeOf hT (wpAny_pure h))) (fun hab=>absurd (by decide +kernel) hab))
theorem T8 {R:Result->Shared->Prop} {S:Int->Bool} {n:Nat} {l:Addr} {c0:Nat} (hh:A.handled=none) (hS:SetW P w s.heap a S n) (hn:n<=sizeLine) (hl:s.heap.get? l=some { cls:=.type "list",data:=.seq #[] c0 }) (res:Value)
 (fin:∀ (h':Heap) d tk (acc:Array Value) (c:Nat) (ms:List Int),ms.length=n->(∀ k,k∈ms ↔ S k=true)->(∀ b o,b≠l->s.heap.get? b=some o->h'.get? b=some o)->h'.get? l=some { cls:=.type "list",dict:=none,data:=.seq acc c,slots:=#[] } ->
   ItemsOf (fun i v=>∃ t,v=.int (ms.getD i 0) t) acc n->R (.ok (.ret res)) { s with heap:=h',drawn:=d,toks:=tk }) :
 wpAny (model P w) A.in1 (Builtin.List.listExtendWith (.ref l) (.ref a) res)
  (fun fin s'=>match fin with | .done f=>R (.ok f) s' | .again c'=>c'.quiet=true/\codeAny (model P w) A c' R s') (fun e s'=>R (.error e) s') s:=by
 have hT:s.TypeIs (.ref a) "set":=hS.of.typeIs
 have hla:l≠a:=fun e=>by
  obtain ⟨o,es,ep,t,h1,h2,_⟩:=hS
  rw [<- e,hl] at h1;cases h1
  exact absurd h2.1 (show ¬ (Value.type "list" = Value.type "set") by decide)
 unfold Builtin.List.listExtendWith
 refine wpAny_bind (wpAny_typeOf (T:="set") hT ?_)
 have e1:Builtin.List.listSameRef (.ref l) (.ref a)=false:=by simp [Builtin.List.listSameRef,hla]
 have e2:(Value.type "set" == Value.type "list")=false:=by decide
 have e3:(Value.type "set" == Value.type "tuple")=false:=by decide
 simp only [e1,e2,e3,Bool.or_false,Bool.false_eq_true,if_false]
 refine wpAny_bind (PN hS fun h1 d I fp St ms hm1 hm2 hk hI hfp W st=>?_)
 have hlf:l∉fp:=fun z=>by
  rcases hfp l z with q | q
  ·exact hla q
  ·exact absurd (Heap.lt_size hl) (Nat.not_lt.mpr q)
 have key:∀ (h2:Heap) (c1 tk:Nat),St 0 h2->(∀ b o,b≠l->s.heap.get? b=some o->h2.get? b=some o)->h2.get? l=some { cls:=.type "list",data:=.seq #[] c1 } ->
  codeAny (model P w) A (.builtin "list.extend.loop" ⟨[.ref l,.ref I,res],[]⟩) R { s with heap:=h2,drawn:=d,toks:=tk }:=fun h2 c1 tk st2 hk2 hl2=>by
  refine codeAny_extend_loopS (W A.in1 hh).toS hn l hlf res n 0 _ #[] c1 rfl (Nat.zero_le _) st2 hl2 (ItemsOf.nil _) fun s' acc c hm hs' hacc=>?_
  rw [Moved.eq_with hm]
  refine fin s'.heap d s'.toks acc c ms hm1 hm2 (fun b o hb e=>hm.heap b o (fun z=>?_) (hk2 b o hb e)) hs' hacc
  rcases List.mem_cons.mp z with q | q
  ·exact hb q
  ·rw [List.mem_singleton] at q
   exact absurd (Heap.lt_size e) (by rw [q];exact Nat.not_lt.mpr hI)
 have hl1:=hk _ _ hl
 refine wpAny_bind (wpAny_holding (Qm (SetW.of (hS.at fun o e=>hk _ _ e)).typeIs ?_))
 refine wpAny_ite_split (fun _=>?_) (fun _=>wpAny_pure ⟨plainId_quiet PySem.F.plain_extend_loop _,key _ c0 _ st (fun b o _ e=>hk b o e) hl1⟩)
 refine wpAny_bind (wpAny_rule (wpAny_bind ?_))
 show wpAny _ _ (updateSeq l (·.push .none) >>= fun _=>updateSeq l (·.pop)) _ _ _
 have g1:=Heap.get?_update_self (Obj.mapSeq (·.push Value.none)) hl1 rfl
 have g2:=Heap.get?_update_self (Obj.mapSeq (·.pop)) g1 rfl
 refine wpAny_bind (wpAny_updateSeq hl1 rfl (wpAny_updateSeq (hz:=by seq_fits) g1 rfl (wpAny_pure ⟨plainId_quiet PySem.F.plain_extend_loop _,key _ _ _ ?_ (fun b o hb e=>?_) g2⟩)))
 ·refine (W A hh).frame 0 _ _ st fun b hb o e=>?_
  have hbl:b≠l:=fun h=>hlf (h ▸ hb)
  exact (Heap.get?_update_other _ _ (Ne.symm hbl)).trans ((Heap.get?_update_other _ _ (Ne.symm hbl)).trans e)
 ·exact (Heap.get?_update_other _ _ (Ne.symm hb)).trans ((Heap.get?_update_other _ _ (Ne.symm hb)).trans (hk b o e))
theorem QM {S:Int->Bool} {n:Nat} {R:List Value->Shared->Prop} (hh:A.handled=none) (hS:SetW P w s.heap a S n) (hn:n<=sizeLine)
 (fin:∀ (h':Heap) d tk (acc:Array Value) (ms:List Int),ms.length=n->(∀ k,k∈ms ↔ S k=true)->(∀ b o,s.heap.get? b=some o->h'.get? b=some o)->s.heap.objs.size < h'.objs.size->ItemsOf (fun i v=>∃ t,v=.int (ms.getD i 0) t) acc n->R acc.toList { s with heap:=h',drawn:=d,toks:=tk }) :
 wpAny (model P w) A (collect (.ref a)) R E s:=by
 unfold collect
 refine wpAny_bind (wpAny_runValue (codeAny_builtin entry_proto_collect' ?_))
 rw [Around.under_plainId PySem.F.plain_proto_collect _]
 show wpAny _ A.in1 (newList [] >>= fun l=>again (.builtin "list.__iadd__" ⟨[l,.ref a],[]⟩)) _ _ s
 refine wpAny_bind (wpAny_newObj_type (wpAny_pure ⟨plainId_quiet PySem.F.plain_list_iadd _,codeAny_builtin entry_list_iadd' ?_⟩))
 rw [Around.under_plainId PySem.F.plain_list_iadd _]
 have g1:(s.heap.push { cls:=.type "list",data:=.seq ([]:List Value).toArray }).get? s.heap.objs.size=some { cls:=.type "list",data:=.seq #[] }:=Heap.get?_push_size _ rfl
 show wpAny _ A.in1 (Builtin.List.listExtendWith (.ref s.heap.objs.size) (.ref a) (.ref s.heap.objs.size)) _ _ _
 refine wpAny_mono (T8 (A:=A) (s:={ s with heap:=s.heap.push { cls:=.type "list",data:=.seq ([]:List Value).toArray } })
  (R:=fun (q:Result) (s':Shared)=>∃ (h':Heap) (d:_) (tk:Nat) (acc:Array Value) (c:Nat) (ms:List Int),q=.ok (.ret (.ref s.heap.objs.size))/\s' = { s with heap:=h',drawn:=d,toks:=tk } /\ ms.length=n/\(∀ k,k∈ms ↔ S k=true) /\
    (∀ b o,s.heap.get? b=some o->h'.get? b=some o)/\h'.get? s.heap.objs.size=some { cls:=.type "list",dict:=none,data:=.seq acc c,slots:=#[] } /\ ItemsOf (fun i v=>∃ t,v=.int (ms.getD i 0) t) acc n)
  hh (hS.at fun o e=>Heap.get?_push_of_some _ e) hn g1 (.ref s.heap.objs.size) fun h' d tk acc c ms m1 m2 hk g2 hacc=>⟨h',d,tk,acc,c,ms,rfl,rfl,m1,m2,fun b o e=>hk b o (Nat.ne_of_lt (Heap.lt_size e)) (Heap.get?_push_of_some _ e),g2,hacc⟩) (fun fn s' x=>?_) fun e s' x=>?_
 ·cases fn with
  | done f =>
   obtain ⟨h',d,tk,acc,c,ms,e,rfl,m1,m2,hk,g2,hacc⟩:=x
   cases e
   show wpAny _ A (load s.heap.objs.size >>= _) _ _ _
   exact wpAny_bind (wpAny_load g2 (wpAny_pure (fin h' d tk acc ms m1 m2 hk (Heap.lt_size g2) hacc)))
  | again c₁ =>
   refine ⟨x.1,codeAny_mono x.2 fun q s₂ y=>?_⟩
   obtain ⟨h',d,tk,acc,c,ms,rfl,rfl,m1,m2,hk,g2,hacc⟩:=y
   show wpAny _ A (load s.heap.objs.size >>= _) _ _ _
   exact wpAny_bind (wpAny_load g2 (wpAny_pure (fin h' d tk acc ms m1 m2 hk (Heap.lt_size g2) hacc)))
 ·obtain ⟨_,_,_,_,_,_,e',_⟩:=x
  cases e'
theorem Qp {acc:Array Value} {ms:List Int} (h:ItemsOf (fun i v=>∃ t,v=.int (ms.getD i 0) t) acc ms.length):IntsAre acc.toList ms:=by
 have e:acc.toList.map numOf=ms:=by
  apply List.ext_getElem
  ·rw [List.length_map,Array.length_toList,h.1]
  ·intro i h1 h2
   rw [List.getElem_map]
   have h3:i < acc.size:=by rw [h.1];exact h2
   obtain ⟨t,et⟩:=h.2 i acc[i] (by simp [h3])
   rw [Array.getElem_toList,et]
   show ms.getD i 0=_
   rw [List.getD_eq_getElem?_getD,List.getElem?_eq_getElem h2];rfl
 have:=intsAre_map acc.toList (fun v hv=>by
  obtain ⟨i,hi,ei⟩:=List.getElem_of_mem hv
  obtain ⟨t,et⟩:=h.2 i v (by rw [<- Array.getElem?_toList,List.getElem?_eq_getElem hi,ei])
  exact ⟨_,t,et⟩)
 rw [e] at this
 exact this
theorem NT {S:Int->Bool} {n:Nat} {Q:Value->Shared->Prop} (hh:A.handled=none) (hS:SetW P w s.heap a S n) (h64:n < 64)
 (fin:∀ (h':Heap) d tk (p:Addr) (ms:List Int) (out:Array Value) (e:Nat),ms.length=n->(∀ k,k∈ms ↔ S k=true)->ms.Pairwise (· <= ·)->IntsAre out.toList ms->h'.get? p=some (seqObj "list" out e)->s.heap.objs.size<=p->(∀ b o,s.heap.get? b=some o->h'.get? b=some o)->Q (.ref p) { s with heap:=h',drawn:=d,toks:=tk }) :
 wpAny (model P w) A (call (.builtin "sorted") [.ref a]) Q E s:=by
 have hz:n<=sizeLine:=Nat.le_trans (Nat.le_of_lt h64) (by decide)
 refine call_function_entry kind_sorted plain_sorted entry_sorted (args_sorted1 _) ?_
 unfold Builtin.«sorted»
 refine wpAny_bind (m:=checkCount "sorted" 1 1 _) (wpAny_pure (wpAny_bind (QM (A:=A.in1) hh hS hz fun h' d tk acc ms m1 m2 hk hlt hacc=>?_)))
 subst m1
 have hI:=Qp hacc
 have hl:acc.toList.length=ms.length:=by rw [Array.length_toList,hacc.1]
 refine wpAny_bind (wpAny_newList ?_ (by rw [hl];exact hz))
 have hoL:(h'.push (seqObj "list" acc.toList.toArray 0)).get? h'.objs.size=some (seqObj "list" acc.toList.toArray 0):=Heap.get?_push_size _ rfl
 refine wpAny_bind (wpAny_holding (wpAny_call_entry slot_list_sort ⟨_,hoL,rfl⟩ entry_list_sort (list_sort_tree hoL hI (by lia) fun out ns' a1 a2 a3=>⟨_,rfl,?_⟩) (args_list_sort _)))
 obtain ⟨e,he⟩:=sortedHeap_at (out:=out) hoL
 refine wpAny_pure ⟨_,rfl,fin _ d tk h'.objs.size ns' out e (a2.length_eq) (fun k=>by rw [a2.mem_iff];exact m2 k) a3 a1 he (Nat.le_of_lt hlt) fun b o q=>?_⟩
 have hb:=hk b o q
 have hlt2:=Heap.lt_size hb
 rw [sortedHeap_old (Nat.ne_of_lt hlt2) (by rw [Heap.size_push];exact Nat.lt_succ_of_lt hlt2)]
 exact Heap.get?_push_of_some _ hb
end
end L2
namespace L2
open PySem PySem.Spec PyProof.Rows
noncomputable def CL (P:Program) (w:World) (a:Addr) (ds:List Int):Heap->Prop:=fun h=>SetW P w h a (fun k=>ds.any (· == k)) ds.length
theorem UE {P:Program} {w:World} {H:Hp} {h:Heap} {a:Addr} {ds:List Int} (x:CL P w a ds h):ObjOk P w H h a (.ext (CL P w a ds)) :=
 ⟨x,(by obtain ⟨o,_,_,_,e,_⟩:=x;exact ⟨o,e⟩),fun h1 h2 y k=>SetW.at y k⟩
noncomputable def Jl (K:W.Frag) (P:Program) (w:World):List V->Hp->VK->Prop:=fun xs H Q=>match xs with
 | [.ref p]=>∃ ns:List Int,SqT K H p (ns.map V.int)/\ns.length<=1000/\∀ (ds:List Int) q,ds.Nodup->(∀ k,k∈ds ↔ k∈ns)->H q=none->Q (.ref q) (upd H q (.ext (CL P w q ds)))
 | _=>False
noncomputable def ME (P:Program) (w:World):List V->Hp->VK->Prop:=fun xs H Q=>match xs with
 | [.ref p]=>∃ ds:List Int,H p=some (.ext (CL P w p ds))/\ds.length < 64/\∀ (ms:List Int) q,ms.length=ds.length->(∀ k,k∈ms ↔ k∈ds)->ms.Pairwise (· <= ·)->H q=none->Q (.ref q) (upd H q (.lst (ms.map V.int)))
 | _=>False
section
variable {X:Cx} {K:W.Frag} {P:Program} {w:World}
theorem Inv.drew {pins:List (Addr × Obj)} {σ:List (Option V)} {H:Hp} {s:Shared} (I:Inv X pins σ H s) (d:Drawn):Inv X pins σ H { s with drawn:=d }:=⟨I.ok,I.os,I.bare,I.base,I.loc,I.cell,I.free,I.freeC,I.pin,I.hok,I.len⟩
theorem Oe (hh:X.calm=true):CallR X (.type "set") (Jl X.K X.prog X.w):=by
 intro pins s σ H xs us Q I r h
 match xs,h with
 | [.ref p],h =>
 obtain ⟨ns,hq,hn,q⟩:=h
 obtain ⟨u,rfl,rx⟩:=B2 r
 cases rx
 obtain ⟨its,rv,pl,hz⟩:=I.tuple hq
 have hi:IntsAre its ns:=by simpa using HH rv
 have hlen:its.length=ns.length:=by rw [<- rv.length,List.length_map]
 refine RP (ns:=ns) (I.ok.hd hh) pl (by simpa using hi) (by rw [List.size_toArray,hlen];show ns.length+1 < 4096;lia) fun h' tk hs hk=>?_
 have hsz:its.toArray.size=ns.length:=by rw [List.size_toArray,hlen]
 rw [hsz] at hs
 exact ⟨.ref s.heap.objs.size,_,I.laid (t':=tk) (o:=.ext (CL X.prog X.w s.heap.objs.size (firstMet (fun i=>ns.getD i 0) ns.length))) (fun b o e=>hk b o (Heap.lt_size e) e) (Nat.le_refl _) (UE hs),rfl,q _ _ (KA _ _) (Sv ns) (I.hok.fresh (Nat.le_refl _))⟩
theorem Nf (hh:X.calm=true) (hK:X.K=K:=by rfl) (hP:X.prog=P:=by rfl) (hw:X.w=w:=by rfl):CallR X (.type "set") (Jl K P w):=by subst hK hP hw;exact Oe hh
theorem Tz (hh:X.calm=true):CallR X (.builtin "sorted") (ME X.prog X.w):=by
 intro pins s σ H xs us Q I r h
 match xs,h with
 | [.ref p],h =>
 obtain ⟨ds,hq,hn,q⟩:=h
 obtain ⟨u,rfl,rx⟩:=B2 r
 cases rx
 obtain ⟨hs,_⟩:=(show ObjOk X.prog X.w H s.heap p (.ext (CL X.prog X.w p ds)) from I.hok p _ hq)
 refine NT (I.ok.hd hh) hs hn fun h' d tk b ms out e m1 m2 m3 hi hb hp hk=>?_
 refine ⟨.ref b,_,(I.laid (t':=tk) (o:=.lst (ms.map V.int)) (fun b o e=>hk b o e) hp ?_).drew d,rfl,q ms _ m1 (fun k=>(m2 k).trans (by simp)) m3 (I.hok.fresh hp)⟩
 exact ⟨by rw [List.length_map,m1];exact Nat.le_trans (Nat.le_of_lt hn) (by decide),out.toList,e,Rb hi,hb⟩
theorem Nv (hh:X.calm=true) (hP:X.prog=P:=by rfl) (hw:X.w=w:=by rfl):CallR X (.builtin "sorted") (ME P w):=by subst hP hw;exact Tz hh
noncomputable def MX (C:Addr) (ta:TE) (f:Str):TE:=fun σ H Q=>ta σ H fun x H1=>match x with
 | .ref a=>∃ dx fs v,H1 a=some (.ins C dx fs)/\fs.lookup f=some v/\Q v H1
 | _=>False
noncomputable def RZ (C:Addr) (ta tv:TE) (f:Str):TS:=fun D σ H=>tv σ H fun y H1=>ta σ H1 fun x H2=>match x with
 | .ref a=>∃ dx fs,H2 a=some (.ins C dx fs)/\fs.length < 1000/\D.nx σ (upd H2 a (.ins C dx (Ad f y fs)))
 | _=>False
variable {C:Addr} {f:Str} {e o value:Expr} {ta tv td ty:TE} {pos pos':Pos}
theorem Ax (c:Cls K C) (n:NoAttr K C f) (he:PE X e ta) (hK:X.K=K:=by rfl) (hb:attributeBase e f X.env (eval e X.env)=eval e X.env:=by rfl):PE X (.Attribute e f pos) (MX C ta f):=by
 subst hK
 intro pins s σ H Q I h
 refine SW hb (thn (he pins s σ H _ I h) fun u s1 ⟨x,H1,I1,rx,q⟩=>?_)
 match x,q with
 | .ref a,⟨dx,fs,v,ea,l,q⟩ =>
 obtain rfl:u=Value.ref a:=rx
 exact Pa I1 ea c n l fun u' s2 I2 ru=>⟨v,H1,I2,ru,q⟩
theorem Cz (c:Cls K C) (n:NoAttr K C f) (ha:PE X o ta) (hv:PE X value tv) (hK:X.K=K:=by rfl) (hs:swapsWith value (some (.Attribute o f pos')) pos.line X.env=pure false:=by rfl):PS X (.Assign [.Attribute o f pos'] value pos) (RZ C ta tv f):=by
 subst hK
 intro pins s σ H D I h
 refine plainObj_wpAny_Assign_Attribute (thn (hv pins s σ H _ I h) fun u s1 ⟨y,H1,I1,ry,q⟩=>thn (ha pins s1 σ H1 _ I1 q) fun ov s2 ⟨x,H2,I2,rx,q2⟩=>?_) hs
 match x,q2 with
 | .ref a,⟨dx,fs,ea,l,q2⟩ =>
 obtain rfl:ov=Value.ref a:=rx
 exact Qh I2 ea c n l ry fun s3 I3=>⟨σ,_,I3,q2⟩
theorem Mz (h:AV ta):AV (MX C ta f):=fun σ H Q Q' k q=>h _ _ _ _ (fun v H1 q=>by
 cases v <;> first | exact q.elim | (obtain ⟨dx,fs,v,a,b,q⟩:=q;exact ⟨dx,fs,v,a,b,k _ _ q⟩)) q
theorem NQ {m:Str} {sp:Sp} {dvs:List V} {E:XK} {t:TA} (hs:Ac sp) (h1:AV ta) (h2:Bg t):AV (Gs C m sp dvs E ta t):=fun σ H Q Q' h q =>
 h1 _ _ _ _ (fun v H1 ⟨a,dx,fs,e1,e2,e3,q⟩=>⟨a,dx,fs,e1,e2,e3,h2 _ _ _ _ (fun _ _ q=>hs _ _ _ _ _ h q) q⟩) q
theorem QJ {sp:Sp} {dvs:List V} {E:XK} {t:TA} (hs:Ac sp) (h2:Bg t):AV (LM C sp dvs E t):=fun σ H Q Q' h q =>
 h2 _ _ _ _ (fun vs H1 q x dx a b c=>hs _ _ _ _ _ (fun v H2 ⟨e,q⟩=>⟨e,h _ _ q⟩) (q x dx a b c)) q
noncomputable def Gn (neg:Bool):R2:=fun y x H Q=>match x with
 | .ref a=>∃ o,DGet H a y o/\Q (.bl (xor neg o.isSome)) H
 | _=>False
theorem JE (hu:X.A.units+60 < cLine):OpR X (compareOp .NotIn) (Gn true):=by
 intro pins s σ H y x v u Q I ry rx q
 match x,q with
 | .ref a,⟨o,g,q⟩ =>
 obtain rfl:u=Value.ref a:=rx
 exact Mj (FB hu) I g ry fun s3 I3=>⟨.bl (!o.isSome),H,I3,rfl,(by cases o <;> exact q)⟩
theorem OH {b:Bool}:BS (Gn b):=fun x y H Q Q' h q=>by
 unfold Gn at *
 split at q
 ·obtain ⟨o,a,q⟩:=q;exact ⟨o,a,h _ _ q⟩
 ·exact q.elim
end
end L2
namespace L2
open PySem PySem.Spec PyProof.Rows PySem.W
end L2
namespace L2
open PySem PySem.Spec PyProof.Rows PySem.W PySem.Calls
section
variable {P:Program} {w:World} {A:Around} {E:Value->Shared->Prop} {s:Shared}
noncomputable def PairAt (h:Heap) (v:Value) (k x:Int):Prop:=∃ a t u,v=.ref a/\h.get? a=some { cls:=.type "tuple",data:=.seq #[.int k t,.int x u] }
theorem PairAt.keep {h h':Heap} {v:Value} {k x:Int} (p:PairAt h v k x) (e:∀ b o,o.cls=.type "tuple" -> h.get? b=some o->h'.get? b=some o):PairAt h' v k x:=by
 obtain ⟨a,t,u,rfl,ha⟩:=p
 exact ⟨a,t,u,rfl,e _ _ rfl ha⟩
end
end L2
namespace L2
open PySem PySem.Spec PyProof.Rows PySem.W
section
variable {P:Program} {w:World} {A:Around} {E:Value->Shared->Prop} {s:Shared}
end
section
variable {X:Cx}
end
section
variable {X:Cx} {k:Nat} {f:Addr} {fd:FuncData} {ps:List Str} {sp:Sp} {x:Str} {p pos:Pos} {e:Expr} {es:List Expr} {t:TA} {tn:TE}
end
section
variable {X:Cx} {pins:List (Addr × Obj)} {σ:St} {H:Hp} {s:Shared}
theorem Inv.pin1 (I:Inv X pins σ H s) {a:Addr} {o:Obj} (ha:s.heap.get? a=some o) (n:H a=none) (h1:a≠X.env.locals) (h2:a∉X.fs) (h3:∀ v,o.data≠.cell v):Inv X ((a,o)::pins) σ H s:=by
 refine ⟨I.ok,I.os,I.bare,I.base,I.loc,I.cell,I.free,I.freeC,fun p hp=>?_,I.hok,I.len⟩
 rcases List.mem_append.mp hp with z | z
 ·exact I.pin p (List.mem_append_left _ z)
 ·rcases List.mem_cons.mp z with rfl | z
  ·exact ⟨ha,n,h1,h2,h3⟩
  ·exact I.pin p (List.mem_append_right _ z)
theorem Inv.unpin1 {q:Addr × Obj} (I:Inv X (q::pins) σ H s):Inv X pins σ H s:=by
 refine ⟨I.ok,I.os,I.bare,I.base,I.loc,I.cell,I.free,I.freeC,fun p hp=>?_,I.hok,I.len⟩
 rcases List.mem_append.mp hp with z | z
 ·exact I.pin p (List.mem_append_left _ z)
 ·exact I.pin p (List.mem_append_right _ (List.mem_cons_of_mem _ z))
noncomputable def HX (X:Cx) (H:Hp):Hp:=fun b=>if b∈frs X.stack then some (.tup []) else H b
noncomputable def CJ (X:Cx) (H:Hp) (s:Shared):Heap:=B8 s.heap (HX X H)
theorem Fu {b:Addr} {o:Obj} (e:s.heap.get? b=some o) (n:H b=none) (f:b∉frs X.stack):(CJ X H s).get? b=some o:=MM e (by unfold HX;rw [if_neg f];exact n)
theorem II {b:Addr} {o:Obj} (e:(CJ X H s).get? b=some o):s.heap.get? b=some o/\H b=none/\b∉frs X.stack:=by
 obtain ⟨h1,h2⟩:=LN e
 unfold HX at h2
 by_cases f:b∈frs X.stack
 ·rw [if_pos f] at h2;cases h2
 ·rw [if_neg f] at h2;exact ⟨h1,h2,f⟩
theorem Jg {h base base':Heap}:∀ {l:List Env},h.FunFrames base l->(∀ b∈frs l,base'.get? b=none)->h.FunFrames base' l
 | [],_,_=>trivial
 | env::l,⟨a,⟨L,o,e1,_,e3,e4⟩,r⟩,hb=>by
  refine ⟨a,⟨L,o,e1,hb L ?_,e3,e4⟩,Jg r fun b hb'=>hb b ?_⟩
  ·rw [frs,List.filterMap_cons,e1];exact List.mem_cons_self ..
  ·rw [frs,List.filterMap_cons,e1];exact List.mem_cons_of_mem _ hb'
theorem JW (I:Inv X pins σ H s):∀ b o,X.base.get? b=some o->(CJ X H s).get? b=some o:=fun b o e =>
 Fu (I.bs b o e).1 (I.bs b o e).2 fun z=>by
  have:=(I.stack.mem z).1
  rw [e] at this;cases this
theorem Nk (I:Inv X pins σ H s):Env0 X.prog X.w X.K X.mg (CJ X H s) X.A X.stack s H:=by
 have sub:=JW I
 refine ⟨I.ok.frames,⟨I.ok.mod.kin.keeps sub,I.ok.mod.glob.keeps sub,let ⟨mb,h1,h2⟩:=I.ok.mod.blt;⟨mb,h1.keeps sub,h2⟩,I.ok.mod.nolimit.keeps sub⟩,fun b o e=>⟨(II e).1,(II e).2.1⟩,Nat.le_of_eq (IT _ _),Jg I.stack fun b hb=>?_,I.stkFree,I.hok,I.bare⟩
 cases e:(CJ X H s).get? b with
 | none=>rfl
 | some o=>exact absurd hb (II e).2.2
end
section
variable {X:Cx} {Pt c f:Addr} {fd:FuncData} {ps:List Str} {k i:Nat} {kn a:Str} {kp pos lpos:Pos} {params:Arguments} {body:Expr} {scope:Scope} {e:Expr} {es:List Expr} {t:TA} {qual:Str} {spK:Addr->Addr->V->Sp}
end
noncomputable def EU (c':Addr) (qual:Str) (spB:V->Hp->VK->Prop):Sp:=fun vs H Q _=>match vs with
 | [v]=>H c'=some (CdO c' qual)/\spB v H Q
 | _=>False
end L2
namespace L2
open PySem PyProof.Rows
section
variable {X:Cx} {K:W.Frag} {o e:Expr} {to:TE} {t:TA} {apos cpos:Pos}
end
end L2
namespace L2
open PySem PySem.Spec PyProof.Rows PySem.SeqAt
section
variable {X:Cx} {K:W.Frag}
end
end L2
namespace L2
open PySem PySem.Spec PyProof.Rows
section
variable {X:Cx} {K:W.Frag}
end
section
variable {X:Cx} {K:W.Frag} {e:Expr} {te:TE} {p pos kpos cp:Pos} {kd:Nat} {i:Int}
end
end L2
namespace L2
open PySem PyProof.Rows
noncomputable def En (K:W.Frag):V->List V->Hp->VK->Prop:=fun x vs H Q=>match x,vs with
 | .ref l,[.ref b]=>∃ xs ys,H l=some (.lst xs)/\SqL K H b ys/\b≠l/\xs.length+ys.length<=16000000/\Q .non (upd H l (.lst (xs++ys)))
 | _,_=>False
section
variable {X:Cx} {K:W.Frag} {o e:Expr} {to:TE} {t:TA} {apos cpos:Pos}
theorem O9:MtR X "list.extend" (En X.K):=by
 intro pins s σ H x vs v us Q I rx rv q
 match x,vs,q with
 | .ref l,[.ref b],⟨xs,ys,hH,hb,hne,h3,q⟩ =>
 cases rx
 obtain ⟨u,rfl,ru⟩:=B2 rv
 cases ru
 obtain ⟨z,its,n,r,hl,e⟩:=I.lstM hH
 obtain ⟨its2,r2,pl2,hz2⟩:=I.list hb
 obtain ⟨o2,e2,c2,n2,d2⟩:=pl2.isList
 have l1:=r.length
 have l2:=r2.length
 have hlb:l≠b:=Ne.symm hne
 refine wpAny_call_entry F.slot_list_extend ⟨_,e,rfl⟩ F.entry_list_extend ?_ (F.args_list_extend_2 _ _)
 show wpAny _ _ (Builtin.List.listExtendWith (.ref l) (.ref b) .none) _ _ s
 unfold Builtin.List.listExtendWith;refine wpAny_bind (wpAny_typeOf (T:="list") ⟨o2,e2,c2⟩ ?_)
 have h1:Builtin.List.listSameRef (.ref l) (.ref b)=false:=by simp [Builtin.List.listSameRef,hlb]
 have h2:(Value.type "list" == Value.type "list")=true:=by decide
 simp only [h1,h2,Bool.true_or,if_true]
 refine wpAny_bind (listItems_at e2 d2 (wpAny_bind (listItems_at e rfl ?_)))
 rw [if_neg (by
  rw [Bool.and_eq_true]
  rintro ⟨_,q⟩
  unfold Builtin.List.listTooLong at q
  simp [sizeLine_eq] at q
  lia)]
 refine wpAny_bind (listUpdate_at e rfl ?_ (by rw [List.size_toArray,sizeLine_eq];lia) (by rw [Array.size_append,List.size_toArray,List.size_toArray,sizeLine_eq];lia))
 refine wpAny_pure ⟨_,rfl,?_⟩;exact ⟨.non,_,I.lset (its':=its++its2) hH e (by simp) (r.append r2) (by rw [List.length_append,sizeLine_eq];lia),rfl,q⟩
theorem NR (ho:PE X o to) (ha:PA X [e] t) (hbase:attributeBase o "extend" X.env (eval o X.env)=eval o X.env:=by rfl)
 (hfew:((backTo cpos (starEach [e] X.env)).all (fun x=>!x.1) && (backToKw cpos (keywordEach [] X.env)).all (fun x=>x.1.isSome)
   && decide ([e].length+([]:List Keyword).length+(if ([]:List Keyword).isEmpty then 0 else 1) < 30))=true:=by rfl)
 (hline:(apos.endLine == cpos.line)=true:=by rfl) (hs:starEach [e] X.env=(false,eval e X.env)::starEach [] X.env:=by rfl) (hplain:(backTo cpos (starEach [] X.env)).any (·.1)=false:=by rfl) (hK:X.K=K:=by rfl) :
 PE X (.Call (.Attribute o "extend" apos) [e] [] cpos) (tBM K "list" (En K) to t):=hK ▸ FU PySem.F.plainAttrs_list PySem.F.slot_list_extend PySem.F.type_list_extend O9 ho ha hbase hfew hline hs hplain
theorem TF:C6 (En K):=fun x xs H Q Q' h q=>by
 unfold En at *
 split at q
 ·obtain ⟨a,b,c,d,n,e,q⟩:=q;exact ⟨a,b,c,d,n,e,h _ _ q⟩
 ·exact q.elim
end
theorem PC {d:Addr} {o:Obj} {kvs:List (Key × V)} {g:TG} {tc:TT} {te:TE} {σc:St} {Q:VK} {H:Hp} (Pv:Nat->List V->Hp->Prop) (h0:Pv 0 [] H) (hl:∀ i ys H,i<=kvs.length->Pv i ys H->H d=some (.frz o (.dK kvs))) (hz:∀ i ys H,i < kvs.length->Pv i ys H->ys.length < sizeLine)
 (hs:∀ i r p ys H,kvs[i]? = some r->Pv i ys H->H p=none->g (.ref p) σc (upd H p (.tup [kV r.1,r.2])) fun σ2 H2=>tc σ2 H2 fun b H3=>if b=true then te σ2 H3 fun y H4=>Pv (i+1) (ys++[y]) H4 else Pv (i+1) ys H3)
 (hd:∀ ys H,Pv kvs.length ys H->∀ p,H p=none->Q (.ref p) (upd H p (.lst ys))):CY (Itm d o) g tc te σc Q H:=by
 refine ⟨fun i m ys H=>m=kvs.length - i/\i<=kvs.length/\Pv i ys H,⟨kvs.length,by simp,Nat.zero_le _,h0⟩,?_⟩
 rintro i m ys H ⟨rfl,hi,p⟩
 have q:=hl i ys H hi p
 by_cases hlt:i < kvs.length
 ·refine .inr ⟨⟨kvs,kvs[i],q,by simp [hlt]⟩,hz i ys H hlt p,Pv (i+1),fun ys' H' p'=>⟨kvs.length - (i+1),by lia,rfl,hlt,p'⟩,fun x H' y=>?_⟩
  obtain ⟨pp,kvs',r,e1,e2,e3,rfl,rfl⟩:=y
  rw [q] at e1
  cases e1
  exact hs i r pp ys H e2 p e3
 ·have e:i=kvs.length:=by lia
  subst e
  exact .inl ⟨⟨kvs,q,Nat.le_refl _⟩,hd ys H p⟩
end L2
namespace L2
open PySem PySem.Spec PyProof.Rows
section
variable {X:Cx} {K:W.Frag} {e:Expr} {te:TE} {lo hi:Option Expr} {tl th:TO} {pos p2:Pos}
end
end L2
namespace L2
open PySem
section
variable {X:Cx} {pins:List (Addr × Obj)} {σ:St} {H:Hp} {s:Shared} {a:Addr}
variable {kvs:List (Key × V)} {i:Expr} {pos pos' apos:Pos} {ty:TE} {x:Str} {P:Program} {w:World} {K:W.Frag} {o:Expr} {td:TE}
end
end L2
namespace L2
open PySem Builtin Builtin.Str
section
variable {X:Cx} {a:Addr} {kvs:List (Key × V)} {o e:Expr} {ty to:TE} {t:TA} {apos cpos:Pos} {P:Program} {w:World} {K:W.Frag}
end
end L2
namespace L2
open PySem PyProof.Rows
section
variable {prog:Program} {w:World} {A:Around} {E:Value->Shared->Prop} {s:Shared}
structure Cmp (prog:Program) (w:World) (A:Around) (E:Value->Shared->Prop) (s:Shared) (kd:SortKind) (El:Keyed->Prop) (κ:Keyed->Int):Prop where
 lt:∀ (x y:Keyed) (st:SortSt) (Q:Option Bool->SortSt->Prop),El x->El y->kindOf st=kd->Q (some (decide (κ x < κ y))) st->wpS (model prog w) A E s (lt' x y) Q st
variable {kd:SortKind} {El:Keyed->Prop} {κ:Keyed->Int}
end
section
variable {κ:Keyed->Int}
noncomputable def Srt (κ:Keyed->Int) (l:List Keyed):Prop:=l.Pairwise fun x y=>κ x<=κ y
structure Mg (κ:Keyed->Int) (la lb o:List Keyed) (i j:Nat):Prop where
 il:i<=la.length
 jl:j<=lb.length
 perm:(o++(la.drop i++lb.drop j)).Perm (la++lb)
 srt:Srt κ o
 le:∀ x∈o,∀ y∈la.drop i++lb.drop j,κ x<=κ y
variable {la lb o:List Keyed} {i j n:Nat}
theorem FQ {a b:List Keyed} (h1:Srt κ a) (h2:Srt κ b) (h:∀ x∈a,∀ y∈b,κ x<=κ y):Srt κ (a++b):=List.pairwise_append.mpr ⟨h1,h2,h⟩
theorem Mg.a (m:Mg κ la lb o i j) (ha:Srt κ la) (hn:i+n<=la.length) (h:∀ x∈(la.drop i).take n,∀ y∈lb.drop j,κ x<=κ y):Mg κ la lb (o++(la.drop i).take n) (i+n) j:=by
 have hd:la.drop i=(la.drop i).take n++la.drop (i+n):=by
  rw [<- List.drop_drop,List.take_append_drop]
 have hs:Srt κ (la.drop i):=List.Pairwise.sublist (List.drop_sublist _ _) ha
 have hs2:=hs
 rw [hd] at hs2
 obtain ⟨s1,s2,s3⟩:=List.pairwise_append.mp hs2
 refine ⟨hn,m.jl,?_,FQ m.srt s1 fun x hx y hy=>m.le x hx y (List.mem_append_left _ (List.mem_of_mem_take hy)),fun x hx y hy=>?_⟩
 ·have:=m.perm
  rw [hd] at this
  rw [List.append_assoc]
  rw [List.append_assoc] at this
  exact this
 ·rcases List.mem_append.mp hx with hx | hx
  ·refine m.le x hx y ?_
   rcases List.mem_append.mp hy with hy | hy
   ·rw [hd];exact List.mem_append_left _ (List.mem_append_right _ hy)
   ·exact List.mem_append_right _ hy
  ·rcases List.mem_append.mp hy with hy | hy
   ·exact s3 x hx y hy
   ·exact h x hx y hy
theorem Mg.b (m:Mg κ la lb o i j) (hb:Srt κ lb) (hn:j+n<=lb.length) (h:∀ x∈(lb.drop j).take n,∀ y∈la.drop i,κ x<=κ y):Mg κ la lb (o++(lb.drop j).take n) i (j+n):=by
 have hd:lb.drop j=(lb.drop j).take n++lb.drop (j+n):=by
  rw [<- List.drop_drop,List.take_append_drop]
 have hs2:Srt κ (lb.drop j):=List.Pairwise.sublist (List.drop_sublist _ _) hb
 rw [hd] at hs2
 obtain ⟨s1,s2,s3⟩:=List.pairwise_append.mp hs2
 refine ⟨m.il,hn,?_,FQ m.srt s1 fun x hx y hy=>m.le x hx y (List.mem_append_right _ (List.mem_of_mem_take hy)),fun x hx y hy=>?_⟩
 ·have h1:=m.perm
  rw [hd] at h1
  refine List.Perm.trans ?_ h1
  rw [List.append_assoc]
  refine List.Perm.append_left _ ?_
  rw [<- List.append_assoc,<- List.append_assoc]
  exact List.Perm.append_right _ List.perm_append_comm
 ·rcases List.mem_append.mp hx with hx | hx
  ·refine m.le x hx y ?_
   rcases List.mem_append.mp hy with hy | hy
   ·exact List.mem_append_left _ hy
   ·rw [hd];exact List.mem_append_right _ (List.mem_append_right _ hy)
  ·rcases List.mem_append.mp hy with hy | hy
   ·exact h x hx y hy
   ·exact s3 x hx y hy
end
structure Sg (st st':SortSt):Prop where
 k:kindOf st'=kindOf st
 a:arrOf st'=arrOf st
 p:pendingOf st'=pendingOf st
 f:failedOf st'=failedOf st
theorem Sg.trans {a b c:SortSt} (x:Sg a b) (y:Sg b c):Sg a c:=⟨y.k.trans x.k,y.a.trans x.a,y.p.trans x.p,y.f.trans x.f⟩
section
variable {prog:Program} {w:World} {A:Around} {E:Value->Shared->Prop} {s:Shared} {kd:SortKind} {El:Keyed->Prop} {κ:Keyed->Int}
end
section
variable {κ:Keyed->Int}
structure Hg (κ:Keyed->Int) (la lb o:List Keyed) (na nb:Nat):Prop where
 il:na<=la.length
 jl:nb<=lb.length
 perm:(la.take na++lb.take nb++o.reverse).Perm (la++lb)
 srt:Srt κ o.reverse
 le:∀ y∈la.take na++lb.take nb,∀ x∈o,κ y<=κ x
variable {la lb o:List Keyed} {na nb n:Nat}
theorem LF {l:List Keyed} (h:n<=na):l.take na=l.take n++(l.take na).drop n:=by
 have:=List.take_append_drop n (l.take na)
 rw [List.take_take,Nat.min_eq_left h] at this
 exact this.symm
theorem Hg.a (m:Hg κ la lb o na nb) (ha:Srt κ la) (hn:n<=na) (h:∀ x∈(la.take na).drop n,∀ y∈lb.take nb,κ y<=κ x):Hg κ la lb (o++((la.take na).drop n).reverse) n nb:=by
 have hd:=LF (l:=la) hn
 have hs2:Srt κ (la.take na):=List.Pairwise.sublist (List.take_sublist _ _) ha
 rw [hd] at hs2
 obtain ⟨s1,s2,s3⟩:=List.pairwise_append.mp hs2
 have ml:=m.le
 have mp:=m.perm
 generalize (la.take na).drop n=D at *
 rw [hd] at ml mp
 refine ⟨Nat.le_trans hn m.il,m.jl,?_,?_,fun y hy x hx=>?_⟩
 ·rw [List.reverse_append,List.reverse_reverse]
  refine List.Perm.trans ?_ mp
  rw [<- List.append_assoc]
  refine List.Perm.append_right _ ?_
  rw [List.append_assoc,List.append_assoc]
  exact List.Perm.append_left _ List.perm_append_comm
 ·rw [List.reverse_append,List.reverse_reverse]
  exact FQ s2 m.srt fun x hx y hy=>ml x (by simp [hx]) y (List.mem_reverse.mp hy)
 ·rcases List.mem_append.mp hx with hx | hx
  ·refine ml y ?_ x hx
   rcases List.mem_append.mp hy with hy | hy
   ·simp [hy]
   ·simp [hy]
  ·replace hx:=List.mem_reverse.mp hx
   rcases List.mem_append.mp hy with hy | hy
   ·exact s3 y hy x hx
   ·exact h x hx y hy
theorem Hg.b (m:Hg κ la lb o na nb) (hb:Srt κ lb) (hn:n<=nb) (h:∀ x∈(lb.take nb).drop n,∀ y∈la.take na,κ y<=κ x):Hg κ la lb (o++((lb.take nb).drop n).reverse) na n:=by
 have hd:=LF (l:=lb) hn
 have hs2:Srt κ (lb.take nb):=List.Pairwise.sublist (List.take_sublist _ _) hb
 rw [hd] at hs2
 obtain ⟨s1,s2,s3⟩:=List.pairwise_append.mp hs2
 have ml:=m.le
 have mp:=m.perm
 generalize (lb.take nb).drop n=D at *
 rw [hd] at ml mp
 refine ⟨m.il,Nat.le_trans hn m.jl,?_,?_,fun y hy x hx=>?_⟩
 ·rw [List.reverse_append,List.reverse_reverse]
  simpa [List.append_assoc] using mp
 ·rw [List.reverse_append,List.reverse_reverse]
  exact FQ s2 m.srt fun x hx y hy=>ml x (by simp [hx]) y (List.mem_reverse.mp hy)
 ·rcases List.mem_append.mp hx with hx | hx
  ·refine ml y ?_ x hx
   rcases List.mem_append.mp hy with hy | hy
   ·simp [hy]
   ·simp [hy]
  ·replace hx:=List.mem_reverse.mp hx
   rcases List.mem_append.mp hy with hy | hy
   ·exact h x hx y hy
   ·exact s3 y hy x hx
end
section
variable {prog:Program} {w:World} {A:Around} {E:Value->Shared->Prop} {s:Shared} {kd:SortKind} {El:Keyed->Prop} {κ:Keyed->Int}
end
section
variable {prog:Program} {w:World} {A:Around} {E:Value->Shared->Prop} {s:Shared} {kd:SortKind} {El:Keyed->Prop} {κ:Keyed->Int}
end
section
variable {prog:Program} {w:World} {A:Around} {E:Value->Shared->Prop} {s:Shared} {kd:SortKind} {El:Keyed->Prop} {κ:Keyed->Int}
noncomputable def Kf (κ:Keyed->Int) (xs:Array Keyed) (i:Nat):Int:=match xs[i]? with
 | some p=>κ p
 | none=>0
structure Bs (kd:SortKind) (a₀:Array Keyed) (lo:Nat) (pe:Array (Nat × Nat × Nat)) (st:SortSt):Prop where
 perm:(arrOf st).Perm a₀
 kind:kindOf st=kd
 failed:failedOf st=none
 pend:pendingOf st=pe
 low:∀ i,i < lo->(arrOf st)[i]? = a₀[i]?
variable {a₀:Array Keyed} {lo:Nat} {pe:Array (Nat × Nat × Nat)}
theorem Bs.size {st:SortSt} (h:Bs kd a₀ lo pe st):(arrOf st).size=a₀.size:=h.perm.size_eq
theorem Bs.at {st:SortSt} (h:Bs kd a₀ lo pe st) (h0:∀ x∈a₀.toList,El x) {i:Nat} (hi:i < a₀.size):∃ x,(arrOf st)[i]? = some x/\El x/\Kf κ (arrOf st) i=κ x:=by
 have hi':i < (arrOf st).size:=by rw [h.size];exact hi
 have hm:(arrOf st)[i]∈a₀.toList:=(Array.perm_iff_toList_perm.mp h.perm).mem_iff.mp (by simp)
 have e:(arrOf st)[i]? = some (arrOf st)[i]:=getElem?_pos _ i hi'
 exact ⟨_,e,h0 _ hm,by unfold Kf;rw [e]⟩
end
section
variable {prog:Program} {w:World} {A:Around} {E:Value->Shared->Prop} {s:Shared} {kd:SortKind} {El:Keyed->Prop} {κ:Keyed->Int} {a₀:Array Keyed}
structure Dn (kd:SortKind) (κ:Keyed->Int) (a₀:Array Keyed) (st:SortSt):Prop where
 perm:(arrOf st).toList.Perm a₀.toList
 kind:kindOf st=kd
 failed:failedOf st=none
 pend:(pendingOf st).size<=1
 srt:Srt κ (arrOf st).toList
structure Tw (kd:SortKind) (κ:Keyed->Int) (a₀:Array Keyed) (n1 n2 pw:Nat) (st:SortSt):Prop where
 perm:(arrOf st).toList.Perm a₀.toList
 kind:kindOf st=kd
 failed:failedOf st=none
 pend:pendingOf st = #[(0,n1,pw),(n1,n2,0)]
 l1:0 < n1
 l2:0 < n2
 len:n1+n2=a₀.size
 s1:Srt κ ((arrOf st).toList.take n1)
 s2:Srt κ ((arrOf st).toList.drop n1)
end
section
variable {prog:Program} {w:World} {A:Around} {E:Value->Shared->Prop} {s:Shared}
end
end L2
namespace L2
open PySem PySem.Spec PyProof.Rows PySem.W
section
variable {P:Program} {w:World} {A:Around} {E:Value->Shared->Prop} {s:Shared} {a:Addr}
end
section
variable {X:Cx} {K:W.Frag} {P:Program} {w:World}
end
end L2
namespace L2
open PySem PySem.Spec PyProof.Rows PySem.W PySem.Calls
section
variable {P:Program} {w:World} {A:Around} {E:Value->Shared->Prop} {s:Shared}
noncomputable def PairV (h:Heap) (v:Value) (k:Int):Prop:=∃ a t y o n,v=.ref a/\h.get? a=some o/\o.cls=.type "tuple" /\ o.data=.seq #[.int k t,y] n
theorem PairV.keep {h h':Heap} {v:Value} {k:Int} (p:PairV h v k) (e:∀ b o,o.cls=.type "tuple" -> h.get? b=some o->h'.get? b=some o):PairV h' v k:=by
 obtain ⟨a,t,u,o,n,rfl,ha,hc,hd⟩:=p
 exact ⟨a,t,u,o,n,rfl,e _ _ hc ha,hc,hd⟩
end
end L2
namespace L2
open PySem PySem.Spec PyProof.Rows PySem.W
section
variable {P:Program} {w:World} {A:Around} {E:Value->Shared->Prop} {s:Shared}
end
section
variable {X:Cx}
end
section
variable {X:Cx}
end
section
variable {X:Cx}
end
end L2
namespace L2
open PySem PyProof.Rows
section
variable {prog:Program} {w:World} {A:Around} {E:Value->Shared->Prop} {s:Shared}
end
section
variable {prog:Program} {w:World} {K:Type} [DecidableEq K] {knd:KeyKind prog w K} {A:Around} {R:Result->Shared->Prop}
end
section
variable {prog:Program} {w:World} {K:Type} [DecidableEq K] {knd:KeyKind prog w K} {A:Around} {E:Value->Shared->Prop} {s:Shared}
end
section
variable {X:Cx}
end
end L2
namespace L2
open PySem PySem.Spec PyProof.Rows
section
variable {P:Program} {w:World} {A:Around} {E:Value->Shared->Prop} {s:Shared} {a:Addr}
end
section
variable {X:Cx} {K:W.Frag} {P:Program} {w:World}
end
section
variable {X:Cx} {K:W.Frag} {e sx:Expr} {te ts:TE} {pos p2:Pos}
end
section
variable {X:Cx}
end
end L2
namespace L2
end L2
namespace L2
open PySem PySem.Spec PyProof.Rows
noncomputable def Sl (fs ch:List Addr) (h h':Heap):Prop:=∀ b o,h.get? b=some o->b∉ch->(b∉fs->h'.get? b=some o)/\∃ sl,h'.get? b=some { o with slots:=sl }
theorem Sl.trans {fs ch:List Addr} {h h1 h2:Heap} (a:Sl fs ch h h1) (b:Sl fs ch h1 h2):Sl fs ch h h2:=fun x o e n=>by
 obtain ⟨h3,sl,h4⟩:=a x o e n
 obtain ⟨_,sl2,h6⟩:=b x _ h4 n
 exact ⟨fun nf=>(b x o (h3 nf) n).1 nf,sl2,h6⟩
section
variable {M:Model} {A:Around} {E:Value->Shared->Prop} {s:Shared}
end
section
variable {X:Cx} {pins:List (Addr × Obj)} {σ:St} {H H':Hp} {s:Shared} {h':Heap}
theorem ObjOk.is {P:Program} {w:World} {h:Heap} {a:Addr} {o:HO} (x:ObjOk P w H h a o):∃ u,h.get? a=some u:=by
 cases o with
 | lst xs=>obtain ⟨_,_,_,_,e⟩:=x;exact ⟨_,e⟩
 | tup xs=>obtain ⟨_,_,_,o,e,_⟩:=x;exact ⟨_,e⟩
 | dK kvs=>obtain ⟨_,_,_,_,o,_,_,e,_⟩:=x;exact ⟨_,e⟩
 | dT kvs=>obtain ⟨_,_,_,_,o,_,_,e,_⟩:=x;exact ⟨_,e⟩
 | set S n=>obtain ⟨o,_,_,_,e,_⟩:=x;exact ⟨_,e⟩
 | ins C dx fs=>obtain ⟨_,_,_,e,_⟩:=x;exact ⟨_,e⟩
 | own y=>exact x
 | xd fs=>obtain ⟨_,⟨_,_,_,e,_⟩,_⟩:=x;exact ⟨_,e⟩
 | rng lo hi=>obtain ⟨_,_,_,e⟩:=x;exact ⟨_,e⟩
 | frz ob u=>obtain ⟨e,_⟩:=x;exact ⟨_,e⟩
 | tbl ps=>exact ⟨_,x⟩
 | met f y=>exact ⟨_,x⟩
 | ext φ=>obtain ⟨_,e,_⟩:=x;exact e
theorem MR {P:Program} {w:World} {h:Heap} {a:Addr} (hok:HOk P w H h) (n:h.get? a=none):H a=none:=by
 cases e:H a with
 | none=>rfl
 | some o =>
  obtain ⟨u,q⟩:=(hok a o e).is
  rw [n] at q
  cases q
end
noncomputable abbrev Tb:List Value:=[.type "ValueError",.type "Exception",.type "BaseException",.type "object"]
section
variable {X:Cx} {C:Addr} {c:Str} {np cpos pos:Pos} {e:Expr} {es:List Expr} {ta:TA} {W:Hp->Prop}
end
section
variable {X:Cx} {pins:List (Addr × Obj)} {σ:St} {H H':Hp} {s s1:Shared} {h:Heap}
end
noncomputable abbrev TX:=St->Hp->VK->XK->Prop
section
variable {X:Cx} {k:Nat} {f C:Addr} {fd:FuncData} {ps:List Str} {sp:Sp} {dvs:List V} {ds:List Value} {x c y n:Str} {p p1 p2 p3 pos:Pos} {e:Expr} {es:List Expr} {t:TA} {tx:TX} {ts:TS} {i j:Nat} {b:Stmt} {bs:List Stmt}
end
structure ExcC (K:W.Frag) (C:Addr):Prop where
 ga:PySem.W.findIn K (.ref C) "__getattribute__" = some (some (.builtin "BaseException.__getattribute__"))
 nga:PySem.W.findIn K (.ref C) "__getattr__" = some none
 mro:PySem.W.mroIn K C (.type "BaseException")=some true
 obj:PySem.W.mroIn K C (.type "object")=some true
 cl:PySem.W.findIn K (.ref C) "__class__" = some (some (.builtin "object.__class__"))
 ge:PySem.W.specialIn K (.builtin "object.__class__") "__get__" = some (some (.builtin "getset_descriptor.__get__"))
 tk:PySem.W.takesIn K (.builtin "object.__class__")=some true
section
variable {prog:Program} {w:World} {A:Around} {E:Value->Shared->Prop} {h:Heap} {g:Array GenState} {d:Drawn} {t:Nat} {os:OsState} {K:W.Frag} {x C:Addr} {ox:Obj} {od:Option Obj} {name:Str}
end
section
variable {X:Cx} {K:W.Frag} {pins:List (Addr × Obj)} {σ:St} {H:Hp} {s:Shared}
end
section
variable {X:Cx} {K:W.Frag}
end
end L2
namespace L2
open PySem PySem.Spec PyProof.Rows PySem.W
end L2
namespace L2
open PySem PySem.Spec PyProof.Rows
noncomputable def NL (K:W.Frag) (C fI:Addr):Bool:=match K.lookup C with
 | some ⟨.type "type",_,.cls cd,sl⟩=>(match cd.mro,sl.toList with
  | .ref C'::bm,[_,_,_,_,some (.builtin n),_]=>C' == C && n == "ValueError.__new__" && !cd.hasDel && cd.hasDict && PySem.W.tailIn K Tb bm && PySem.W.nsOkIn K cd.ns && PySem.W.nsIn K cd.ns "__init__" == some (some (.ref fI))
  | _,_=>false)
 | _=>false
section
variable {prog:Program} {w:World} {A:Around} {E:Value->Shared->Prop} {h:Heap} {g:Array GenState} {d:Drawn} {t:Nat} {os:OsState}
 {nm q:Str} {C N:Addr} {bs bm bmB:List Value} {hdct:Bool} {sn:List Str} {sub:List Value} {ab:Bool} {col:Option Bool} {dd:Option Addr} {k0 k1 k2 k3 k5:Option Value} {B Bn newId nid initId inN:String} {bmN:List Value}
end
section
variable {prog:Program} {w:World} {A:Around} {E:Value->Shared->Prop} {s:Shared} {env:Env} {K:W.Frag} {C fI:Addr}
end
end L2
namespace L2
open PySem PySem.Spec PyProof.Rows Builtin Builtin.ObjectAttr
structure ExcI (K:W.Frag) (C fI:Addr):Prop where
 ob:NL K C fI=true
 xc:ExcC K C
 sa:PySem.W.findIn K (.ref C) "__setattr__" = some (some (.builtin "object.__setattr__"))
 fn:PySem.W.isFn K (.ref fI)=true
section
variable {prog:Program} {w:World} {A:Around} {E:Value->Shared->Prop} {s:Shared} {K:W.Frag} {x C fI:Addr} {name:Str} {v:Value} {mA:Str->Option Value} {ns:List Str}
end
end L2
namespace L2
open PySem PySem.Spec PyProof.Rows
section
variable {P:Program} {w:World} {H H':Hp} {h h':Heap} {x d:Addr} {cls:Value} {od:Option Addr} {fs:List (Str × V)}
end
section
variable {X:Cx} {pins:List (Addr × Obj)} {σ:St} {H H':Hp} {s:Shared} {h':Heap} {x C fI:Addr} {K:W.Frag}
theorem Inv.laidN {a:Addr} {o:HO} {t':Nat} (I:Inv X pins σ H s) (k:∀ b u,s.heap.get? b=some u->h'.get? b=some u) (nx:s.heap.get? a=none) (new:ObjOk X.prog X.w (upd H a o) h' a o):Inv X pins σ (upd H a o) { s with heap:=h',toks:=t' }:=by
 have hn:H a=none:=MR I.hok nx
 have ne:∀ b u,s.heap.get? b=some u->b≠a:=fun b u e z=>by rw [z,nx] at e;cases e
 have nh:∀ b u,H b=some u->b≠a:=fun b u e z=>by rw [z,hn] at e;cases e
 refine I.un ⟨fun b u e _ _ _=>k b u e,fun b u e _ _ _=>⟨u.slots,k b u e⟩,fun b u e n _=>by rw [AJ (ne b u e)];exact n,fun b u e _=>⟨u,k b u e⟩,fun b xs e=>by rw [AJ (nh b _ e)];exact e,fun b u v e=>by rw [AJ (nh b _ e)];exact e,fun b ps e=>⟨#[],by rw [AJ (nh b _ e),e];simp⟩⟩ fun b u e=>?_
 by_cases z:b=a
 ·subst z;rw [AD] at e;cases e;exact new
 ·rw [AJ z] at e
  exact (I.hok b u e).stay (fun c v _ q=>k c v q) (fun c q=>by rw [AJ (nh c _ q)];exact q) fun c xs q=>by rw [AJ (nh c _ q)];exact q
end
section
variable {X:Cx} {K:W.Frag} {C fI:Addr} {fd:FuncData} {ps:List Str} {sp:Sp} {k:Nat} {o e value:Expr} {es:List Expr} {f c:Str} {pos pos' np cpos:Pos} {ta tv:TE} {t:TA} {W:St->Option Addr->Hp->Prop}
end
section
variable {X:Cx} {pins:List (Addr × Obj)} {σ:St} {H H':Hp} {s:Shared} {h':Heap} {ch:List Addr}
end
section
variable {P:Program} {w:World} {K:W.Frag} {mg:Str->Option Value} {base:Heap} {N:List Str} {qual:Str} {sc:Scope} {f:Addr} {cd:Value} {A:Around} {outer:List Env} {s0:Shared} {H0:Hp} {E:XK}
end
noncomputable abbrev XW:=Addr->Addr->Option Addr->St->Hp->Prop
noncomputable abbrev TSX:=XW->St->Hp->Prop
section
variable {X:Cx} {K:W.Frag} {C fI:Addr} {fd:FuncData} {ps:List Str} {sp:Sp} {k:Nat} {e c:Expr} {es:List Expr} {cn n:Str} {pos np cpos p p3:Pos} {t:TA} {tc:TT} {ta tb:TSX} {sts rest:List Stmt} {b:Stmt} {bs:List Stmt} {ts:TS} {j:Nat}
end
theorem Tu (l:Addr) (items:Array Value) (n:Nat) (dd:Option Addr) (sl:Array (Option Value)) (x:Value) (e:Value->Bool) (j:Nat) (hj:j < items.size) (hit:e items[j]=true) (hno:∀ m (hm:m < items.size),m < j->e items[m]=false) :
 Meets (Builtin.«tuple.index» ⟨[.ref l,x],[]⟩)
  (fun A R s=>s.heap.get? l=some { cls:=.type "tuple",dict:=dd,data:=.seq items n,slots:=sl } /\ (∀ y,y∈items->SeqAt.EqAt A.in1 s y x (e y))/\R (.ok (.ret (.int j s.toks))) { s with toks:=s.toks+1 }) :=
 .of_wp fun prog w A R s h=>by
  obtain ⟨hp,g,d,tk,os⟩:=s
  obtain ⟨hl,he,h⟩:=h
  wp_walk using wpAny_loadPart' hl
  show wpAny (model prog w) A.in1 (forIn ([0:min items.size items.size]:Std.Legacy.Range) ((none,()):Option Fin × Unit) (fun i (_:Option Fin × Unit)=>(match items[i]? with
   | some y=>do
    let b <- eqBool y x
    if b=true then do
     let r <- retInt (i:Nat)
     pure (ForInStep.done (some r,()))
    else pure (ForInStep.yield (none,()))
   | _=>pure (ForInStep.yield (none,())):Sem (ForInStep (Option Fin × Unit))))) _ _ _
  rw [Std.Legacy.Range.forIn_eq_forIn_range']
  simp only [Std.Legacy.Range.size,Nat.sub_zero,Nat.add_sub_cancel,Nat.div_one,Nat.min_self]
  refine wpAny_forIn_list _ (fun rest b s'=>s'=⟨hp,g,d,tk,os⟩/\∃ i,rest=List.range' i (items.size - i)/\i<=j) _ ?_ ?_ _ _ ⟨rfl,0,by simp,Nat.zero_le _⟩
  ·rintro y rest b s' ⟨rfl,i,hr,hi⟩
   obtain ⟨rfl,hrest⟩:y=i/\rest=List.range' (i+1) (items.size - (i+1)):=by
    have e:items.size - i=(items.size - (i+1))+1:=by lia
    rw [e,List.range'_succ] at hr
    injection hr with h1 h2
    exact ⟨h1,h2⟩
   have hy:y < items.size:=by lia
   rw [Array.getElem?_eq_getElem hy]
   refine wpAny_bind (he _ (Array.getElem_mem hy) prog w _ _ ?_)
   rcases Nat.lt_or_ge y j with z | z
   ·rw [hno y hy z]
    wp_walk
    exact ⟨rfl,y+1,hrest,by lia⟩
   ·have:y=j:=by lia
    subst this
    rw [hit]
    wp_walk
    exact ⟨_,rfl,h⟩
  ·rintro b s' ⟨rfl,i,hr,hi⟩
   have e:items.size - i=(items.size - (i+1))+1:=by lia
   rw [e,List.range'_succ] at hr
   cases hr
end L2
namespace L2
open PySem PyProof.Rows
section
variable {prog:Program} {w:World} {A:Around} {E:Value->Shared->Prop} {s:Shared} {kd:SortKind} {El:Keyed->Prop} {κ:Keyed->Int}
variable {a₀:Array Keyed} {lo:Nat} {pe:Array (Nat × Nat × Nat)}
end
end L2
namespace L2
open PySem PySem.Spec PyProof.Rows PySem.W PySem.Calls
section
variable {P:Program} {w:World} {A:Around} {E:Value->Shared->Prop} {s:Shared}
end
section
variable {X:Cx}
end
section
variable {X:Cx}
end
end L2
namespace L2
open PySem PySem.Spec PyProof.Rows
theorem PE.or {X:Cx} {e:Expr} {t u:TE} (h1:PE X e t) (h2:PE X e u):PE X e (fun σ H Q=>t σ H Q\/u σ H Q):=fun pins s σ H Q I h=>h.elim (h1 pins s σ H Q I) (h2 pins s σ H Q I)
theorem M7 {t u:TE} (h1:AV t) (h2:AV u):AV (fun σ H Q=>t σ H Q\/u σ H Q):=fun σ H Q Q' k q=>q.elim (fun q=>.inl (h1 _ _ _ _ k q)) fun q=>.inr (h2 _ _ _ _ k q)
noncomputable def IxD (ds:List Dv) (d:Dv) (j:Nat):Prop:=(∃ e,ds[j]? = some e/\eqD e d=true)/\∀ (m:Nat) e,m < j->ds[m]? = some e->eqD e d=false
noncomputable def Fy (K:W.Frag):V->List V->Hp->VK->Prop:=fun x vs H Q=>match x,vs with
 | .ref l,[y]=>∃ (xs:List V) (ds:List Dv) (d:Dv) (j:Nat),SqL K H l xs/\Reps K H ds xs/\Rep K H d y/\(∀ e∈ds,Ap e<=50)/\IxD ds d j/\Q (.int j) H
 | _,_=>False
noncomputable def FC (K:W.Frag):V->List V->Hp->VK->Prop:=fun x vs H Q=>match x,vs with
 | .ref l,[y]=>∃ (xs:List V) (ds:List Dv) (d:Dv) (j:Nat),SqT K H l xs/\Reps K H ds xs/\Rep K H d y/\(∀ e∈ds,Ap e<=50)/\IxD ds d j/\Q (.int j) H
 | _,_=>False
section
variable {X:Cx} {K:W.Frag}
theorem Jt {pins:List (Addr × Obj)} {σ:St} {H:Hp} {s:Shared} (I:Inv X pins σ H s) {ds:List Dv} {xs:List V} {its:List Value} {d:Dv} {j:Nat} (hR:Reps X.K H ds xs) (r:Vals xs its) (hi:IxD ds d j):∃ hj:j < its.toArray.size,eqD (Bc X.K H its.toArray[j]) d=true/\∀ m (hm:m < its.toArray.size),m < j->eqD (Bc X.K H its.toArray[m]) d=false:=by
 obtain ⟨⟨e,h1,h2⟩,h3⟩:=hi
 have lr:=r.length
 have lR:=hR.length
 have val:∀ (m:Nat) (hm:m < its.toArray.size) (f:Dv),ds[m]? = some f->Bc X.K H its.toArray[m]=f:=fun m hm f hf=>by
  obtain ⟨x,hx,rx⟩:=hR.get hf
  obtain ⟨w',q1,q2⟩:=r.get hx
  have e2:its.toArray[m]=w':=by
   rw [List.getElem_toArray]
   rw [List.getElem?_eq_getElem (by simpa using hm)] at q1
   exact Option.some.inj q1
  rw [e2]
  exact HE I q2 rx
 have hj:j < its.toArray.size:=by
  have:=(List.getElem?_eq_some_iff.mp h1).1
  simp;lia
 refine ⟨hj,by rw [val j hj e h1];exact h2,fun m hm hmj=>?_⟩
 have hm2:m < ds.length:=by simp at hm;lia
 rw [val m hm _ (List.getElem?_eq_getElem hm2)]
 exact h3 m _ hmj (List.getElem?_eq_getElem hm2)
theorem T3 (hu:X.A.units+60 < cLine):MtR X "list.index" (Fy X.K):=by
 intro pins s σ H x vs v us Q I rx rv q
 match x,vs,q with
 | .ref l,[y],⟨xs,ds,d,j,h1,h2,h3,h4,h5,q⟩ =>
 cases rx
 obtain ⟨u,rfl,ru⟩:=rv.one
 obtain ⟨its,r,pl,hz⟩:=I.list h1
 obtain ⟨⟨cls,dd,data,sl⟩,n,ho,hc,hd,hs⟩:=id pl
 simp only at hc hs
 subst hc hs
 obtain ⟨hj,e1,e2⟩:=Jt I h2 r h5
 have lr:=r.length
 have line:=D8
 exact call_meets F.slot_list_index ⟨_,ho,rfl⟩ F.entry_list_index (F.args_list_index_2 _ _) (SeqAt.list_indexAt l its.toArray n dd sl u (fun y=>eqD (Bc X.K H y) d) j hj (by simp at hj;lia) e1 e2) ⟨ho,fun w hw=>FG hu I ru h3 h2 r h4 w (by simpa using hw),.int _,H,I.tok _,⟨_,rfl⟩,q⟩
theorem RI (hu:X.A.units+60 < cLine):MtR X "tuple.index" (FC X.K):=by
 intro pins s σ H x vs v us Q I rx rv q
 match x,vs,q with
 | .ref l,[y],⟨xs,ds,d,j,h1,h2,h3,h4,h5,q⟩ =>
 cases rx
 obtain ⟨u,rfl,ru⟩:=rv.one
 obtain ⟨its,r,pl,hz⟩:=I.tuple h1
 obtain ⟨⟨cls,dd,data,sl⟩,ho,hc,n,hs⟩:=id pl
 simp only at hc hs
 subst hc hs
 obtain ⟨hj,e1,e2⟩:=Jt I h2 r h5
 exact call_meets F.slot_tuple_index ⟨_,ho,rfl⟩ F.entry_tuple_index (F.args_tuple_index_2 _ _) (Tu l its.toArray n dd sl u (fun y=>eqD (Bc X.K H y) d) j hj e1 e2) ⟨ho,fun w hw=>FG hu I ru h3 h2 r h4 w (by simpa using hw),.int _,H,I.tok _,⟨_,rfl⟩,q⟩
end
noncomputable def tBT (K:W.Frag) (r:V->List V->Hp->VK->Prop) (to:TE) (t:TA):TE:=fun σ H Q=>to σ H fun x H1=>(∃ p xs,x=.ref p/\SqT K H1 p xs)/\t σ H1 fun xs H2=>r x xs H2 Q
theorem TB {K:W.Frag} {r:V->List V->Hp->VK->Prop} {to:TE} {t:TA} (h1:AV to) (h2:Bg t) (h3:C6 r):AV (tBT K r to t):=fun σ H Q Q' h q=>h1 _ _ _ _ (fun _ _ q=>⟨q.1,h2 _ _ _ _ (fun _ _ q=>h3 _ _ _ _ _ h q) q.2⟩) q
section
variable {X:Cx} {K:W.Frag} {o e:Expr} {apos cpos:Pos} {to:TE} {t:TA}
theorem RX {r:V->List V->Hp->VK->Prop} {name:Str} {id:String} (slot:Slot "tuple" name id) (hty:typeOf (.builtin id)=pure (.type "method_descriptor")) (hm:MtR X id r) (ho:PE X o to) (ha:PA X [e] t)
 (hbase:attributeBase o name X.env (eval o X.env)=eval o X.env)
 (hfew:((backTo cpos (starEach [e] X.env)).all (fun x=>!x.1) && (backToKw cpos (keywordEach [] X.env)).all (fun x=>x.1.isSome)
   && decide ([e].length+([]:List Keyword).length+(if ([]:List Keyword).isEmpty then 0 else 1) < 30))=true)
 (hline:(apos.endLine == cpos.line)=true) (hs:starEach [e] X.env=(false,eval e X.env)::starEach [] X.env) (hplain:(backTo cpos (starEach [] X.env)).any (·.1)=false) :
 PE X (.Call (.Attribute o name apos) [e] [] cpos) (tBT X.K r to t):=by
 intro pins s σ H Q I h
 refine wpAny_Call_method_late hbase hfew hline rfl (thn (ho pins s σ H _ I h) fun v s1 ⟨x,H1,I1,r1,⟨p,xs,ex,ty⟩,q1⟩=>?_)
 subst ex
 cases r1
 obtain ⟨its,rv,⟨ob,g1,g2,⟨n,g3⟩,g4⟩,_⟩:=I1.tupleN ty
 refine ⟨"tuple",id,PySem.F.plainAttrs_tuple,slot,hty,⟨ob,g1,g2⟩,(fun a ea=>by cases ea;exact ⟨ob,g1,g4⟩),?_⟩
 have hA:=ha cpos pins s1 σ H1 _ I1 q1
 rw [hs] at hA ⊢
 refine Calls.callWith_builtin (by show (false || (backTo cpos (starEach [] X.env)).any (·.1))=false;rw [hplain] <;> rfl) (Calls.evalArgs_plain ?_)
 exact thn hA fun us s2 ⟨vs,H2,I2,r2,q2⟩=>hm pins s2 σ H2 (.ref p) vs (.ref p) us Q I2 rfl r2 q2
theorem NU (hu:X.A.units+60 < cLine) (ho:PE X o to) (ha:PA X [e] t) (hbase:attributeBase o "index" X.env (eval o X.env)=eval o X.env:=by rfl)
 (hfew:((backTo cpos (starEach [e] X.env)).all (fun x=>!x.1) && (backToKw cpos (keywordEach [] X.env)).all (fun x=>x.1.isSome)
   && decide ([e].length+([]:List Keyword).length+(if ([]:List Keyword).isEmpty then 0 else 1) < 30))=true:=by rfl)
 (hline:(apos.endLine == cpos.line)=true:=by rfl) (hs:starEach [e] X.env=(false,eval e X.env)::starEach [] X.env:=by rfl) (hplain:(backTo cpos (starEach [] X.env)).any (·.1)=false:=by rfl) (hK:X.K=K:=by rfl) :
 PE X (.Call (.Attribute o "index" apos) [e] [] cpos) (fun σ H Q=>tBM K "list" (Fy K) to t σ H Q\/tBT K (FC K) to t σ H Q):=hK ▸ PE.or (FU PySem.F.plainAttrs_list PySem.F.slot_list_index PySem.F.type_list_index (T3 hu) ho ha hbase hfew hline hs hplain) (RX PySem.F.slot_tuple_index PySem.F.type_tuple_index (RI hu) ho ha hbase hfew hline hs hplain)
theorem OX:C6 (Fy K):=fun x xs H Q Q' h q=>by
 unfold Fy at *
 split at q
 ·obtain ⟨ys,j,z,a,b,c,d,e,f,q⟩:=q;exact ⟨ys,j,z,a,b,c,d,e,f,h _ _ q⟩
 ·exact q.elim
theorem RW:C6 (FC K):=fun x xs H Q Q' h q=>by
 unfold FC at *
 split at q
 ·obtain ⟨ys,j,z,a,b,c,d,e,f,q⟩:=q;exact ⟨ys,j,z,a,b,c,d,e,f,h _ _ q⟩
 ·exact q.elim
end
end L2
namespace L2
open PySem PyProof.Rows
section
variable {prog:Program} {w:World} {A:Around} {E:Value->Shared->Prop} {s:Shared}
theorem UK {R:Result->Shared->Prop} {r S:Addr} {a b c:Int} {t u v:Tok} {n:Nat} (hh:A.handled=none) (hr:IsRange s.heap r a b c t u v) (hsmall:Builtin.Range.small a b c=true) (hn:Builtin.Range.rangeSize a b c=n) (hlen:n<=2 ^ 24) (hS:s.heap.get? S=some { cls:=.type "list",data:=.seq #[] })
 (hR:∀ h' tk acc' c',(∀ b o,b≠S->s.heap.get? b=some o->h'.get? b=some o)->h'.get? S=some { cls:=.type "list",dict:=none,data:=.seq acc' c',slots:=#[] } -> ItemsOf (fun i v=>∃ t,v=.int (a+i * c) t) acc' n->R (.ok (.ret (.ref S))) { s with heap:=h',toks:=tk }) :
 codeAny (model prog w) A (.builtin "list.__iadd__" ⟨[.ref S,.ref r],[]⟩) R s:=codeAny_builtin F.entry_list_iadd (by
 rw [Around.under_plainId F.plain_list_iadd _]
 exact wpAny_extend_range (R:=R) hh hr hsmall hn hlen S (.ref S) 0 hS hR)
theorem Md {Q:List Value->Shared->Prop} {r:Addr} {a b c:Int} {t u v:Tok} {n:Nat} (hh:A.handled=none) (hr:IsRange s.heap r a b c t u v) (hsmall:Builtin.Range.small a b c=true) (hn:Builtin.Range.rangeSize a b c=n) (hlen:n<=2 ^ 24)
 (hQ:∀ h' tk acc,(∀ b o,s.heap.get? b=some o->h'.get? b=some o)->ItemsOf (fun i v=>∃ t,v=.int (a+i * c) t) acc n->Q acc.toList { s with heap:=h',toks:=tk }):wpAny (model prog w) A (collect (.ref r)) Q E s:=by
 unfold collect
 refine wpAny_bind (wpAny_runValue (codeAny_builtin F.entry_proto_collect ?_))
 rw [Around.under_plainId F.plain_proto_collect _]
 show wpAny _ A.in1 (newList [] >>= fun l=>again (.builtin "list.__iadd__" ⟨[l,.ref r],[]⟩)) _ _ s
 refine wpAny_bind (wpAny_newObj_type ?_)
 refine wpAny_pure ⟨plainId_quiet F.plain_list_iadd _,UK (s:={ s with heap:=s.heap.push { cls:=.type "list",data:=.seq ([]:List Value).toArray } }) (n:=n) hh (Heap.get?_push_of_some _ hr) hsmall hn hlen (Heap.get?_push_size _ rfl) fun h' tk acc c' hk hS hacc=>?_⟩
 show wpAny _ A (load s.heap.objs.size >>= _) _ _ _
 refine wpAny_bind (wpAny_load hS ?_)
 exact wpAny_pure (hQ h' tk acc (fun b o e=>hk b o (Nat.ne_of_lt (Heap.lt_size e)) (Heap.get?_push_of_some _ e)) hacc)
theorem Sk {Q:Value->Shared->Prop} {r:Addr} {a b c:Int} {t u v:Tok} {n:Nat} (hh:A.handled=none) (hr:IsRange s.heap r a b c t u v) (hsmall:Builtin.Range.small a b c=true) (hn:Builtin.Range.rangeSize a b c=n) (hlen:n<=1000)
 (h:∀ (h':Heap) (tk:Nat) (acc:Array Value),(∀ b o,s.heap.get? b=some o->h'.get? b=some o)->ItemsOf (fun i v=>∃ t,v=.int (a+i * c) t) acc n->Q (.ref h'.objs.size) { s with heap:=h'.push { cls:=.type "tuple",data:=.seq acc },toks:=tk }) :
 wpAny (model prog w) A (call (.type "tuple") [.ref r]) Q E s:=by
 have M:Meets (Builtin.«tuple.__new__» ⟨[.type "tuple",.ref r],[]⟩) (fun A R s=>A.handled=none/\IsRange s.heap r a b c t u v/\∀ (h':Heap) (tk:Nat) (acc:Array Value),(∀ b o,s.heap.get? b=some o->h'.get? b=some o)->ItemsOf (fun i v=>∃ t,v=.int (a+i * c) t) acc n ->
  R (.ok (.ret (.ref h'.objs.size))) { s with heap:=h'.push { cls:=.type "tuple",data:=.seq acc },toks:=tk }):=.of_wp fun prog w A R s h=>by
  obtain ⟨hh,hr,h⟩:=h
  have hsub:=sub_tuple_self
  have hinit:=init_tuple_lookup
  have hmh:=madeHere_tuple
  have hT:s.TypeIs (.ref r) "range":=⟨_,hr,rfl⟩
  have hh1:A.in1.handled=none:=hh
  wp_walk using wpAny_typeOf hT,Md (n:=n) hh1 hr hsmall hn (by lia)
  intro h' tk acc hk hacc
  show wpAny _ _ (Builtin.Tuple.tupleExact acc.toList.toArray >>= fun v=>ret v) _ _ _
  unfold Builtin.Tuple.tupleExact
  refine wpAny_bind (wpAny_newObj_type ?_ (show acc.toList.toArray.size<=sizeLine by simp only [Array.toArray_toList];rw [hacc.1,sizeLine_eq];lia))
  refine wpAny_pure ⟨_,rfl,?_⟩
  have e:acc.toList.toArray=acc:=by simp
  rw [e]
  exact h h' tk acc hk hacc
 refine callType_new F.called_tuple (by decide) (F.typeCall_tuple_1 _) (F.newCall_tuple_1 _) (fun obj=>F.args_object_init_2 obj _) F.entry_tuple_new
  M ⟨hh,hr,fun h' tk acc hk hacc=>⟨⟨_,Heap.get?_push_size _ rfl,rfl⟩,h h' tk acc hk hacc⟩⟩
end
noncomputable def tTR (ta:TA):TE:=fun σ H Q=>ta σ H fun vs H1=>match vs with
 | [.int j]=>∃ n:Nat,j=n/\n<=1000/\∀ p,H1 p=none->Q (.ref p) (upd H1 p (.tup ((List.range n).map fun (k:Nat)=>V.int (k:Int))))
 | _=>False
section
variable {X:Cx}
theorem TJ {a:Expr} {ta:TA} {p pos p2 pos2:Pos} (hc:X.calm=true) (hg:Gl X "tuple") (hm:X.mg "tuple" = none) (hg2:Gl X "range") (hm2:X.mg "range" = none) (ha:PA X [a] ta)
 (hs:starEach [a] X.env=[(false,eval a X.env)]:=by rfl)
 (hs3:starEach [.Call (.Name "range" p2) [a] [] pos2] X.env=[(false,eval (.Call (.Name "range" p2) [a] [] pos2) X.env)]:=by rfl) :
 PE X (.Call (.Name "tuple" p) [.Call (.Name "range" p2) [a] [] pos2] [] pos) (tTR ta):=by
 intro pins s σ H Q I h
 refine Call_ (CP I hg hm (by rfl:bootBuiltins "tuple" = some (.type "tuple")) (PyProof.Rows.callWith_type1 ?_ (by rw [hs3];rfl) (by rfl)))
 rw [hs3]
 show wpAny _ _ (spliced ((false,eval (.Call (.Name "range" p2) [a] [] pos2) X.env)::[])) _ _ s
 refine Calls.spliced_cons ?_
 refine Call_ (CP I hg2 hm2 (by rfl:bootBuiltins "range" = some (.type "range")) (PyProof.Rows.callWith_type1 (thn (ha pos2 pins s σ H _ I h) fun us s1 ⟨vs,H1,I1,r1,q1⟩=>?_) hs rfl))
 match vs,q1,r1 with
 | [.int j],⟨n,hj,hn,q⟩,r1 =>
 subst hj
 cases r1 with
 | cons r rr =>
 cases rr
 obtain ⟨t,rfl⟩:=r
 refine call_range_1 ?_
 refine Calls.spliced_nil ?_
 refine Sk (n:=n) (I.ok.hd hc) (IsRange.new ..) (small_one (by lia) (by lia) (by lia) (by lia)) ?_ hn fun h' tk acc hk hacc=>?_
 ·rw [rangeSize_one];split <;> lia
 have keep:∀ b u,s1.heap.get? b=some u->(h'.push { cls:=.type "tuple",data:=.seq acc }).get? b=some u:=fun b u e=>Heap.get?_push_of_some _ (hk b u (Heap.get?_push_of_some _ e))
 have nx:s1.heap.get? h'.objs.size=none:=by
  cases e:s1.heap.get? h'.objs.size with
  | none=>rfl
  | some o=>exact absurd (Heap.lt_size (hk _ _ (Heap.get?_push_of_some _ e))) (Nat.lt_irrefl _)
 refine ⟨.ref _,_,I1.laidN (t':=tk) (o:=.tup ((List.range n).map fun (k:Nat)=>V.int (k:Int))) keep nx ?_,rfl,q _ (MR I1.hok nx)⟩
 refine ⟨by rw [List.length_map,List.length_range];exact Ae hn,acc.toList,?_,⟨_,Heap.get?_push_size _ rfl,rfl,⟨_,by simp;rfl⟩,rfl⟩⟩
 rw [List.range_eq_range']
 refine JP n 0 acc.toList (by rw [Array.length_toList];exact hacc.1) fun j v hj=>?_
 obtain ⟨t,e⟩:=hacc.2 j v (by rw [<- Array.getElem?_toList];exact hj)
 exact ⟨t,by rw [e];congr 1;lia⟩
end
end L2
namespace L2
open PySem PySem.Spec PyProof.Rows
end L2
namespace L2
open PySem PySem.Spec PyProof.Rows PySem.W
section
variable {X:Cx} {pins:List (Addr × Obj)} {σ:St}
structure MinSt (X:Cx) (pins:List (Addr × Obj)) (σ:St) (l I S:Addr) (xs:List V) (J:Nat->Hp->Prop) (kf:Nat->Int) (j i:Nat) (vb:Value) (H:Hp) (s:Shared):Prop where
 inv:Inv X pins σ H s
 fI:BE X pins H I
 fS:BE X pins H S
 gS:∃ tb c,s.heap.get? S=some (seqObj "list" #[vb,.int (kf i) tb] c)
 it:s.heap.IsListIter I l (j+1)
 rb:∃ x,xs[i]? = some x/\RelV x vb
 at_:J (j+1) H
noncomputable abbrev LQ (X:Cx) (pins:List (Addr × Obj)) (σ:St) (q:Addr) (xs:List V) (J:Nat->Hp->Prop) (kf:Nat->Int):Prop :=
 ∀ (n:Nat) (x:V) (u:Value) (H:Hp) (s:Shared) (pl:List (Addr × Obj)),xs[n]? = some x->RelV x u->J n H->Inv X (pins++pl) σ H s ->
  wpAny (model X.prog X.w) X.A.in1 (call (.ref q) [u]) (fun y s'=>∃ H' t,y=.int (kf n) t/\Inv X (pins++pl) σ H' s'/\J (n+1) H') (fun _ _=>False) s
theorem My {q l I S:Addr} {xs:List V} {J:Nat->Hp->Prop} {kf:Nat->Int} {R:Result->Shared->Prop} (hc:X.calm=true) (hSI:S≠I) (hlI:l≠I)
 (hl:∀ n H,J n H->SqL X.K H l xs) (turn:LQ X pins σ q xs J kf)
 (hR:∀ i x v H s,xs[i]? = some x->RelV x v->(∀ j,j < xs.length->kf i<=kf j/\(j < i->kf i < kf j))->J xs.length H->Inv X pins σ H s->R (.ok (.ret v)) s) :
 ∀ (r j i:Nat) (vb:Value) (H:Hp) (s:Shared),xs.length - (j+1)=r->j+1<=xs.length->MinSt X pins σ l I S xs J kf j i vb H s->i<=j->(∀ j',j'<=j->kf i<=kf j'/\(j' < i->kf i < kf j')) ->
  codeAny (model X.prog X.w) X.A (.builtin "min.loop" ⟨[.ref I,.ref q,.ref S],[]⟩) R s:=by
 have hname:(toString "min" ++ toString ".loop" : String) = "min.loop":=by decide
 intro r
 induction r with
 | zero =>
  intro j i vb H s hr hj M hij hbest
  obtain ⟨tb,c,gS⟩:=M.gS
  obtain ⟨xb,hxb,rb⟩:=M.rb
  have hh:=M.inv.ok.hd hc
  obtain ⟨its,rv,pl,hz⟩:=M.inv.list (hl _ _ M.at_)
  have hlen:=rv.length
  have W:=Walks.list (prog:=X.prog) (w:=X.w) (A:=X.A.in1) hh I l hlI its.toArray
  have hsz:its.toArray.size=its.length:=List.size_toArray ..
  have hin:j+1=its.length:=by lia
  refine codeAny_builtin PySem.F.entry_min_loop ?_
  rw [Around.under_plainId PySem.F.plain_min_loop _]
  show wpAny _ X.A.in1 (seqItems? (.ref S) >>= _) _ _ _
  refine wpAny_bind (wpAny_seqItems gS rfl ?_)
  show wpAny _ X.A.in1 (tryCatch (pyNext (.ref I)) _ >>= _) _ _ _
  refine wpAny_bind (wpAny_tryCatch (W.done _ _ _ ⟨by rw [hsz,<- hin];exact M.it,pl.isList⟩ fun h' tk' hk'=>?_))
  have I1:Inv X pins σ H { s with heap:=h',toks:=tk' }:=M.inv.turned (fun b o n e=>hk' b o (by simpa using n) e) M.fI.1 M.fI.2.1 M.fI.2.2.2.1 M.fI.2.2.2.2.1 M.fI.2.2.2.2.2
  have hS':=hk' S _ (by simpa using hSI) gS
  have s1:=Heap.SameBut.update h' S (Obj.mapSeq fun _=>(#[]:Array Value))
  show wpAny _ X.A.in1 (updateSeq S (fun _=>#[]) >>= _) _ _ _
  refine wpAny_bind ?_
  refine wpAny_updateSeq hS' rfl (wpAny_bind (wpAny_letGo (wpAny_pure ?_)))
  have I2:=I1.turned (t':=tk') (h':=h'.update S (Obj.mapSeq fun _=>(#[]:Array Value))) (fun b o n e=>(s1.2 b n).trans e) M.fS.1 M.fS.2.1 M.fS.2.2.2.1 M.fS.2.2.2.2.1 M.fS.2.2.2.2.2
  exact hR i xb vb H _ hxb rb (fun j' hj'=>hbest j' (by lia)) (by rw [show xs.length=j+1 by lia];exact M.at_) I2
 | succ r ih =>
  intro j i vb H s hr hj M hij hbest
  obtain ⟨tb,c,gS⟩:=M.gS
  obtain ⟨xb,hxb,rb⟩:=M.rb
  have hh:=M.inv.ok.hd hc
  obtain ⟨its,rv,pl,hz⟩:=M.inv.list (hl _ _ M.at_)
  have hlen:=rv.length
  have W:=Walks.list (prog:=X.prog) (w:=X.w) (A:=X.A.in1) hh I l hlI its.toArray
  have hsz:its.toArray.size=its.length:=List.size_toArray ..
  have hlt:j+1 < xs.length:=by lia
  refine codeAny_builtin PySem.F.entry_min_loop ?_
  rw [Around.under_plainId PySem.F.plain_min_loop _]
  show wpAny _ X.A.in1 (seqItems? (.ref S) >>= _) _ _ _
  refine wpAny_bind (wpAny_seqItems gS rfl ?_)
  show wpAny _ X.A.in1 (tryCatch (pyNext (.ref I)) _ >>= _) _ _ _
  refine wpAny_bind (wpAny_tryCatch (W.item (j+1) _ _ _ (by rw [hsz];lia) ⟨M.it,pl.isList⟩ fun v h' tk' hP hst' hk'=>?_))
  have hv:its[j+1]? = some v:=by simpa using hP
  obtain ⟨x,hx⟩:∃ x,xs[j+1]? = some x:=⟨_,List.getElem?_eq_getElem hlt⟩
  obtain ⟨u,hu,ru⟩:=rv.get hx
  rw [hv] at hu
  cases hu
  have I1:Inv X pins σ H { s with heap:=h',toks:=tk' }:=M.inv.turned (fun b o n e=>hk' b o (by simpa using n) e) M.fI.1 M.fI.2.1 M.fI.2.2.2.1 M.fI.2.2.2.2.1 M.fI.2.2.2.2.2
  have gS1:=hk' S _ (by simpa using hSI) gS
  obtain ⟨oI',hoI',hoc,hod⟩:=id hst'.1
  have I2:=I1.pinned (fp:=[I,S]) (fun b hb=>by
   rcases List.mem_cons.mp hb with rfl | hb
   ·exact M.fI
   ·rw [List.mem_singleton.mp hb];exact M.fS) (fun b hb=>by
   rcases List.mem_cons.mp hb with rfl | hb
   ·exact ⟨oI',hoI',fun v z=>by rw [hod] at z;cases z⟩
   ·rw [List.mem_singleton.mp hb];exact ⟨_,gS1,fun v z=>by cases z⟩)
  show wpAny _ X.A.in1 (tryCatch (holding [v] (call (.ref q) [v])) _ >>= _) _ _ _
  refine wpAny_bind (wpAny_tryCatch (wpAny_holding (wpAny_mono (turn (j+1) x v H _ _ hx ru M.at_ I2) (fun y s2 he=>?_) fun _ _ hF=>hF.elim)))
  obtain ⟨H2,t2,rfl,I3,hJ2⟩:=he
  have pI:=I3.pin (I,oI') (List.mem_append_right _ (List.mem_append_right _ (CG (by simp) hoI')))
  have pS:=I3.pin (S,_) (List.mem_append_right _ (List.mem_append_right _ (CG (by simp) gS1)))
  have I4:=I3.unpinned
  have fI2:BE X pins H2 I:=⟨pI.2.1,M.fI.2⟩
  have fS2:BE X pins H2 S:=⟨pS.2.1,M.fS.2⟩
  show wpAny _ X.A.in1 (tryCatch (holding [v,.int (kf (j+1)) t2] (richCompare .Lt (.int (kf (j+1)) t2) (.int (kf i) tb) >>= _)) _ >>= _) _ _ _
  refine wpAny_bind (wpAny_tryCatch (wpAny_holding (wpAny_bind (CmpOf.ints_lt (prog:=X.prog) (w:=X.w) (A:=X.A.in1) (P:=fun i v=>∃ t,v=.int (kf i) t) kf (fun i v h=>h) (j+1) i _ _ _ _ _ ⟨t2,rfl⟩ ⟨tb,rfl⟩ ?_))))
  refine wpAny_bind (wpAny_holding (wpAny_truthy_bool ?_))
  refine wpAny_bind (wpAny_letGo (wpAny_pure ?_))
  by_cases hb':kf (j+1) < kf i
  ·have s1:=Heap.SameBut.update s2.heap S (Obj.mapSeq fun _=>#[v,.int (kf (j+1)) t2])
   obtain ⟨c2,hc2⟩:∃ c2,(s2.heap.update S (Obj.mapSeq fun _=>#[v,.int (kf (j+1)) t2])).get? S=some (seqObj "list" #[v,.int (kf (j+1)) t2] c2):=⟨_,get?_update_seq pS.1 fun _=>#[v,.int (kf (j+1)) t2]⟩
   simp only [hb',decide_true,if_true]
   refine wpAny_bind ?_
   refine wpAny_updateSeq pS.1 rfl (wpAny_bind (wpAny_letGo ?_))
   rw [hname]
   have I5:=I4.turned (t':=s2.toks) (h':=s2.heap.update S (Obj.mapSeq fun _=>#[v,.int (kf (j+1)) t2])) (fun b o n e=>(s1.2 b n).trans e) fS2.1 fS2.2.1 fS2.2.2.2.1 fS2.2.2.2.2.1 fS2.2.2.2.2.2
   refine wpAny_pure ⟨plainId_quiet PySem.F.plain_min_loop _,ih (j+1) (j+1) v H2 _ (by lia) hlt ⟨I5,fI2,fS2,⟨t2,c2,hc2⟩,⟨oI',(s1.2 I hSI.symm).trans pI.1,hoc,hod⟩,⟨x,hx,ru⟩,hJ2⟩ (Nat.le_refl _) fun j' hj'=>?_⟩
   by_cases e:j'=j+1
   ·subst e
    exact ⟨by lia,fun _=>by lia⟩
   ·have hb1:=hbest j' (by lia)
    have hb2:=hb1.1
    exact ⟨by lia,fun _=>by lia⟩
  ·simp only [hb',decide_false,Bool.false_eq_true,if_false]
   refine wpAny_bind (wpAny_letGo ?_)
   rw [hname]
   refine wpAny_pure ⟨plainId_quiet PySem.F.plain_min_loop _,ih (j+1) i vb H2 _ (by lia) hlt ⟨I4,fI2,fS2,⟨tb,c,pS.1⟩,⟨oI',pI.1,hoc,hod⟩,⟨xb,hxb,rb⟩,hJ2⟩ (by lia) fun j' hj'=>?_⟩
   by_cases e:j'=j+1
   ·subst e
    exact ⟨by lia,fun _=>by lia⟩
   ·exact hbest j' (by lia)
theorem Qo {q l:Addr} {xs:List V} {J:Nat->Hp->Prop} {kf:Nat->Int} {H:Hp} {s:Shared} {Q:VK} {E:Value->Shared->Prop} (hc:X.calm=true) (I0:Inv X pins σ H s) (hpos:0 < xs.length) (h0:J 0 H)
 (hl:∀ n H,J n H->SqL X.K H l xs) (turn:LQ X pins σ q xs J kf)
 (hQ:∀ i x H,xs[i]? = some x->(∀ j,j < xs.length->kf i<=kf j/\(j < i->kf i < kf j))->J xs.length H->Q x H) :
 wpAny (model X.prog X.w) X.A (call (.builtin "min") [.ref l] [(Str.ofString "key",.ref q)]) (EP X pins σ Q) E s:=by
 have hname:(toString "min" ++ toString ".loop" : String) = "min.loop":=by decide
 have hh:=I0.ok.hd hc
 obtain ⟨its,rv,pl,hz⟩:=I0.list (hl _ _ h0)
 have hlen:=rv.length
 obtain ⟨ol,_,hol,_⟩:=id pl
 have hll:l < s.heap.objs.size:=Heap.lt_size hol
 refine kmk_tree PySem.F.kind_min PySem.F.plain_min PySem.F.entry_min (kmk_min_key _ _) ?_
 show wpAny _ X.A.in1 (Builtin.Builtins.bindParams "min" ["key","default"] 0 ⟨[],[(Str.ofString "key",.ref q)]⟩ >>= _) _ _ s
 refine wpAny_bind (wpAny_of_eq (show Builtin.Builtins.bindParams "min" ["key","default"] 0 ⟨[],[(Str.ofString "key",.ref q)]⟩=pure [some (.ref q),none] from rfl) ?_)
 refine wpAny_bind (wpAny_pure ?_)
 refine wpAny_bind (wpAny_pyIter_list pl.isList ?_)
 refine wpAny_bind (wpAny_newList ?_ (Nat.zero_le _))
 rw [hname]
 refine wpAny_pure ⟨plainId_quiet PySem.F.plain_min_loop _,?_⟩
 generalize hI:s.heap.objs.size=I at *
 generalize hh1:s.heap.push { cls:=.type "list_iterator",data:=.fields #[.ref l,.int 0 0] } = h1 at *
 generalize hS:h1.objs.size=S at *
 have hSI':S=I+1:=by rw [<- hS,<- hh1,<- hI];exact size_push' ..
 have hSI:S≠I:=by lia
 have hlI:l≠I:=Nat.ne_of_lt hll
 have k1:∀ b o,s.heap.get? b=some o->(h1.push (seqObj "list" #[] 0)).get? b=some o:=fun b o e=>Heap.get?_push_of_some _ (by rw [<- hh1];exact Heap.get?_push_of_some _ e)
 have gI:(h1.push (seqObj "list" #[] 0)).get? I=some { cls:=.type "list_iterator",data:=.fields #[.ref l,.int 0 0] }:=Heap.get?_push_of_some _ (by rw [<- hh1,<- hI];exact Heap.get?_push_size _ rfl)
 have gS:(h1.push (seqObj "list" #[] 0)).get? S=some (seqObj "list" #[] 0):=by rw [<- hS];exact Heap.get?_push_size _ rfl
 have fI:BE X pins H I:=I0.fpOk (Nat.le_of_eq hI) (I0.hok.fresh (Nat.le_of_eq hI))
 have fS:BE X pins H S:=I0.fpOk (by lia) (I0.hok.fresh (by lia))
 have W:=Walks.list (prog:=X.prog) (w:=X.w) (A:=X.A.in1) hh I l hlI its.toArray
 have hsz:its.toArray.size=its.length:=List.size_toArray ..
 refine codeAny_builtin PySem.F.entry_min_loop ?_
 rw [Around.under_plainId PySem.F.plain_min_loop _]
 show wpAny _ X.A.in1 (seqItems? (.ref S) >>= _) _ _ _
 refine wpAny_bind (wpAny_seqItems gS rfl ?_)
 show wpAny _ X.A.in1 (tryCatch (pyNext (.ref I)) _ >>= _) _ _ _
 have pl1:(h1.push (seqObj "list" #[] 0)).IsList l its.toArray:=by
  obtain ⟨o,k,e,z⟩:=pl
  have pl':PlainL (h1.push (seqObj "list" #[] 0)) l its.toArray:=⟨o,k,k1 _ _ e,z⟩
  exact pl'.isList
 refine wpAny_bind (wpAny_tryCatch (W.item 0 _ _ _ (by rw [hsz];lia) ⟨⟨_,gI,rfl,rfl⟩,pl1⟩ fun v h' tk' hP hst' hk'=>?_))
 have hv:its[0]? = some v:=by simpa using hP
 obtain ⟨x,hx⟩:∃ x,xs[0]? = some x:=⟨_,List.getElem?_eq_getElem hpos⟩
 obtain ⟨u,hu,ru⟩:=rv.get hx
 rw [hv] at hu
 cases hu
 have I1:Inv X pins σ H { s with heap:=h',toks:=tk' }:=(I0.kept (t':=tk') k1).turned (t':=tk') (fun b o n e=>hk' b o (by simpa using n) e) fI.1 fI.2.1 fI.2.2.2.1 fI.2.2.2.2.1 fI.2.2.2.2.2
 have gS1:=hk' S _ (by simpa using hSI) gS
 obtain ⟨oI',hoI',hoc,hod⟩:=id hst'.1
 have I2:=I1.pinned (fp:=[I,S]) (fun b hb=>by
  rcases List.mem_cons.mp hb with rfl | hb
  ·exact fI
  ·rw [List.mem_singleton.mp hb];exact fS) (fun b hb=>by
  rcases List.mem_cons.mp hb with rfl | hb
  ·exact ⟨oI',hoI',fun v z=>by rw [hod] at z;cases z⟩
  ·rw [List.mem_singleton.mp hb];exact ⟨_,gS1,fun v z=>by cases z⟩)
 show wpAny _ X.A.in1 (tryCatch (holding [v] (call (.ref q) [v])) _ >>= _) _ _ _
 refine wpAny_bind (wpAny_tryCatch (wpAny_holding (wpAny_mono (turn 0 x v H _ _ hx ru h0 I2) (fun y s2 he=>?_) fun _ _ hF=>hF.elim)))
 obtain ⟨H2,t2,rfl,I3,hJ2⟩:=he
 have pI:=I3.pin (I,oI') (List.mem_append_right _ (List.mem_append_right _ (CG (by simp) hoI')))
 have pS:=I3.pin (S,_) (List.mem_append_right _ (List.mem_append_right _ (CG (by simp) gS1)))
 have I4:=I3.unpinned
 have fI2:BE X pins H2 I:=⟨pI.2.1,fI.2⟩
 have fS2:BE X pins H2 S:=⟨pS.2.1,fS.2⟩
 have s1:=Heap.SameBut.update s2.heap S (Obj.mapSeq fun _=>#[v,.int (kf 0) t2])
 obtain ⟨c2,hc2⟩:∃ c2,(s2.heap.update S (Obj.mapSeq fun _=>#[v,.int (kf 0) t2])).get? S=some (seqObj "list" #[v,.int (kf 0) t2] c2):=⟨_,get?_update_seq pS.1 fun _=>#[v,.int (kf 0) t2]⟩
 show wpAny _ X.A.in1 (updateSeq S (fun _=>#[v,.int (kf 0) t2]) >>= _) _ _ _
 refine wpAny_bind ?_
 refine wpAny_updateSeq pS.1 rfl ?_
 rw [hname]
 have I5:=I4.turned (t':=s2.toks) (h':=s2.heap.update S (Obj.mapSeq fun _=>#[v,.int (kf 0) t2])) (fun b o n e=>(s1.2 b n).trans e) fS2.1 fS2.2.1 fS2.2.2.2.1 fS2.2.2.2.2.1 fS2.2.2.2.2.2
 refine wpAny_pure ⟨plainId_quiet PySem.F.plain_min_loop _,My hc hSI hlI hl turn (fun i x v H s hi hr hb hJ hI=>⟨x,H,hI,hr,hQ i x H hi hb hJ⟩) _ 0 0 v H2 _ rfl hpos ⟨I5,fI2,fS2,⟨t2,c2,hc2⟩,⟨oI',(s1.2 I hSI.symm).trans pI.1,hoc,hod⟩,⟨x,hx,ru⟩,hJ2⟩ (Nat.le_refl _) fun j' hj'=>?_⟩
 have e:j'=0:=by lia
 subst e
 exact ⟨by lia,fun h=>absurd h (Nat.lt_irrefl _)⟩
end
noncomputable abbrev Fn (scope:Scope) (L:Addr) (a b:Str) (ca cb:Addr) (qual:Str) (lam c':Addr):Env:=newEnv scope L mainGlobals [(a,ca),(b,cb)] (qual ++ ".<locals>.") (some lam) (.ref c') none builtinsNs
noncomputable def GT (P:Program) (w:World) (K:W.Frag) (mg:Str->Option Value) (base:Heap) (scope:Scope) (a b x:Str) (ca cb:Addr) (qual:Str) (lam c':Addr) (A:Around) (outer:List Env) (s:Shared) (H:Hp):Cx where
 prog:=P
 w:=w
 K:=K
 mg:=mg
 base:=base
 A:=A.deeper (Fn scope s.heap.objs.size a b ca cb qual lam c')
 N:=[x,a,b]
 s₀:=s
 H₀:=H
 env:=Fn scope s.heap.objs.size a b ca cb qual lam c'
 outer:=outer
 stack:=Fn scope s.heap.objs.size a b ca cb qual lam c'::outer
 ex:=[]
 calm:=true
 fn:=fun _=>false
 pn:=[]
 xe:=fun _ _=>False
theorem look2 {a b y:Str} {ca cb c:Addr} (e:List.lookup y [(a,ca),(b,cb)]=some c):(y=a/\c=ca)\/(y=b/\c=cb):=by
 rw [List.lookup_cons] at e
 by_cases z:y=a
 ·subst z
  simp at e
  exact .inl ⟨rfl,e.symm⟩
 ·rw [beq_eq_false_iff_ne.mpr z] at e
  have e:List.lookup y [(b,cb)]=some c:=e
  rw [List.lookup_cons] at e
  by_cases z:y=b
  ·subst z
   simp at e
   exact .inr ⟨rfl,e.symm⟩
  ·rw [beq_eq_false_iff_ne.mpr z] at e
   cases e
theorem UC {P:Program} {w:World} {K:W.Frag} {mg:Str->Option Value} {base:Heap} {k:Nat} {lam ca cb c':Addr} {qual a b x:Str} {params:Arguments} {body:Expr} {scope:Scope} {pm ctv:Value} {spB:V->Hp->VK->Prop} {vA vB:V} {uA uB:Value}
 (hl:base.get? lam=some (kla_obj "<lambda>" qual params body scope [(a,ca),(b,cb)] pm c' ctv)) (hca:base.IsCell ca (some uA)) (rA:RelV vA uA) (hcb:base.IsCell cb (some uB)) (rB:RelV vB uB) (hab:a≠b) (hcab:ca≠cb)
 (hx:scope.names.lookup x=some .local) (ha:scope.names.lookup a=some .free) (hb:scope.names.lookup b=some .free) (hfr:∀ y,scope.names.lookup y=some .free->y=a\/y=b) (hco:scope.isCoroutine=false) (hgen:scope.isGenerator=false) (hkind:scope.kind=.function)
 (hcell:∀ y∈scope.names,y.2≠.cell)
 (hbody:∀ (A:Around) (outer:List Env) (s:Shared) (H:Hp) (v:V) (Q:VK),Room k (A.deeper (Fn scope s.heap.objs.size a b ca cb qual lam c'))->spB v H Q ->
   ∃ te,PE (GT P w K mg base scope a b x ca cb qual lam c' A outer s H) body te/\te [some v,some vA,some vB] H Q) :
 FnOk P w K mg base CX0 (k+1) lam (kla_fn "<lambda>" qual params body scope [(a,ca),(b,cb)] pm (.ref c') ctv) [x] (EU c' qual spB):=by
 refine ⟨fun vs H Q E h=>by unfold EU at h;split at h;rfl;exact h.elim,fun A outer s H args us vs Q E hr e0 hbd r hsp=>?_⟩
 match vs,hsp,r with
 | [v],⟨hcd,hq⟩,r =>
 obtain ⟨u,rfl,ru⟩:=B2 r
 have lim:s.heap.NoLimit:=e0.mod.nolimit.keeps fun b o e=>(e0.bs b o e).1
 obtain ⟨hcr,_⟩:=e0.hok _ _ hcd
 refine kla_callFunE hr.depth (e0.bs _ _ hl).1 rfl hco hgen rfl hcr (hbd _ _ _ _ ?_)
 refine wpAny_newFunctionEnv hcell (fun y hy=>by rw [List.mem_singleton.mp hy];exact hx) (fun h₁ hns hsb=>⟨lim.fresh _ hsb,?_⟩) hkind
 have hk₁:∀ b o,s.heap.get? b=some o->h₁.get? b=some o:=fun b o e=>hsb.extBut b o (Nat.ne_of_lt (Heap.lt_size e)) (Heap.get?_push_of_some _ e)
 refine kla_codeExpr ?_
 obtain ⟨te,ht,hte⟩:=hbody A outer s H v Q (hr.deeper _) hq
 have hca1:h₁.IsCell ca (some uA):=by
  obtain ⟨o,e,d⟩:=hca
  exact ⟨o,hk₁ _ _ (e0.bs _ _ e).1,d⟩
 have hcb1:h₁.IsCell cb (some uB):=by
  obtain ⟨o,e,d⟩:=hcb
  exact ⟨o,hk₁ _ _ (e0.bs _ _ e).1,d⟩
 have hcaH:H ca=none:=by
  obtain ⟨o,e,d⟩:=hca
  exact (e0.bs _ _ e).2
 have hcbH:H cb=none:=by
  obtain ⟨o,e,d⟩:=hcb
  exact (e0.bs _ _ e).2
 have noA:∀ b':Addr,b'∉(GT P w K mg base scope a b x ca cb qual lam c' A outer s H).ex:=fun b z=>absurd (show b∈([]:List Addr) from z) (by simp)
 have kindc:∀ y,scope.names.lookup y≠some .cell:=fun y z=>hcell _ (PySem.mem_of_lookup z) rfl
 have la:List.lookup a [(a,ca),(b,cb)]=some ca:=by simp
 have lb:List.lookup b [(a,ca),(b,cb)]=some cb:=by
  rw [List.lookup_cons,beq_eq_false_iff_ne.mpr (Ne.symm hab)];simp
 have I:Inv (GT P w K mg base scope a b x ca cb qual lam c' A outer s H) [] [some v,some vA,some vB] H { s with heap:=h₁,toks:=s.toks+[(x,u)].length }:=by
  refine ⟨⟨e0.mod,hkind,rfl,rfl,Nat.le_refl _,fun y z c h1 h2=>?_,fun y hy=>?_,fun y c hf _=>?_,fun _=>hr.hd,Around.frames_deeper e0.frames,.inr ⟨rfl,rfl⟩,fun b z=>absurd z (noA b),e0.bs,e0.bsz,fun b _ _=>noA b,fun b z=>absurd z (noA b),e0.funs,e0.frf⟩,
   rfl,e0.bare,Un.kept hk₁,⟨_,hns,fun i y z h1 h2 h3=>?_⟩,fun y c h=>?_,e0.hok.fresh (Nat.le_refl _),fun y c h=>?_,fun p hp=>absurd (show p∈([]:List (Addr × Obj)) from hp) (by simp),e0.hok.kept hk₁,rfl⟩
  ·rcases look2 h1 with ⟨e1,e2⟩ | ⟨e1,e2⟩ <;> rcases look2 h2 with ⟨e3,e4⟩ | ⟨e3,e4⟩
   ·rw [e1,e3]
   ·exact absurd (e2.symm.trans e4) hcab
   ·exact absurd (e4.symm.trans e2) hcab
   ·rw [e1,e3]
  ·have hy:scope.names.lookup y=some .cell\/scope.names.lookup y=some .free:=hy
   rcases hy with hy | hy
   ·exact absurd hy (kindc y)
   ·rcases hfr y hy with rfl | rfl
    ·exact ⟨ca,la⟩
    ·exact ⟨cb,lb⟩
  ·cases hf
  ·match i,h1,h2 with
   | 0,h1,h2 =>
    cases h1;cases h2
    exact ⟨u,ru,.inl ⟨hx,by simp⟩⟩
   | 1,h1,h2 =>
    cases h1;cases h2
    exact ⟨uA,rA,.inr ⟨.inr ha,ca,la,hca1⟩⟩
   | 2,h1,h2 =>
    cases h1;cases h2
    exact ⟨uB,rB,.inr ⟨.inr hb,cb,lb,hcb1⟩⟩
   | n+3,h1,h2=>cases h2
  ·rcases look2 h with ⟨_,rfl⟩ | ⟨_,rfl⟩
   ·exact ⟨_,hca1⟩
   ·exact ⟨_,hcb1⟩
  ·rcases look2 h with ⟨_,rfl⟩ | ⟨_,rfl⟩
   ·exact hcaH
   ·exact hcbH
 refine wpAny_mono (ht [] _ _ _ _ I hte) (fun u' s' hs=>?_) fun e s' hs=>False.elim hs
 obtain ⟨v',H',J,rv,q⟩:=hs
 exact ⟨v',H',J.os,J.bare,J.base,J.hok,rv,q⟩
section
variable {X:Cx} {pins:List (Addr × Obj)} {σ:St} {H:Hp} {s:Shared}
theorem PL {k:Nat} {f:Addr} {fd:FuncData} {ps:List Str} {sp:Sp} {us:List Value} {vs:List V} {Q:VK} {E:Value->Shared->Prop} (I:Inv X pins σ H s) (F:FnOk X.prog X.w X.K X.mg (CJ X H s) CX0 k f fd ps sp) (hr:Room k X.A.in1) (hb:BindsTo s fd ⟨us,[]⟩ (ps.zip us))
 (r:Vals vs us) (h:sp vs H Q E0):wpAny (model X.prog X.w) X.A.in1 (call (.ref f) us) (EP X pins σ Q) E s:=by
 refine wpAny_call (codeAny_mono (F.run X.A.in1 X.stack s H ⟨us,[]⟩ us vs Q E0 hr (Nk I).in1 hb r h) fun r s' hq=>?_)
 cases r with
 | error e=>exact False.elim hq
 | ok fl =>
  cases fl with
  | ret u=>exact I.after hq
  | next=>exact False.elim hq
  | brk=>exact False.elim hq
  | cont=>exact False.elim hq
end
section
variable {X:Cx} {Pt c:Addr} {k i j:Nat} {a b x:Str} {p pos kpos lpos:Pos} {params:Arguments} {body:Expr} {scope:Scope} {e:Expr} {te:TE} {qual:Str} {spB:V->V->V->Hp->VK->Prop}
noncomputable def N7 (K:W.Frag) (Pt:Addr) (lpos:Pos) (qual:Str) (i j:Nat) (spB:V->V->V->Hp->VK->Prop) (te:TE):TE:=fun σ H Q=>te σ H fun y H1=>∃ l xs vA vB,y=.ref l/\0 < xs.length/\σ[i]? = some (some vA)/\σ[j]? = some (some vB)/\Lam Pt lpos qual H1 /\
 ∀ c' H2,Grow Pt H1 H2->Lam Pt lpos qual H2->H2 c'=some (CdO c' qual)->∃ (J:Nat->Hp->Prop) (kf:Nat->Int),J 0 H2/\(∀ n H3,J n H3->SqL K H3 l xs/\H3 c'=some (CdO c' qual)) /\
  (∀ n v H3,xs[n]? = some v->J n H3->spB vA vB v H3 fun y H4=>y=.int (kf n)/\J (n+1) H4) /\
  ∀ n v H3,xs[n]? = some v->(∀ m,m < xs.length->kf n<=kf m/\(m < n->kf n < kf m))->J xs.length H3->Q v H3
theorem UU {K:W.Frag} (he:PE X e te) (hm:X.mg "min" = none) (hr:Room (k+1) X.A) (hc:X.calm=true) (hcode:X.env.code=.ref c) (hcK:codeHdIn X.K c Pt=true) (hbm:BMn X.mg X.base)
 (hq:X.env.qual ++ "<lambda>" = qual) (hdef:defaultsOf params X.env=([],[])) (hNi:X.N[i]? = some a) (hNj:X.N[j]? = some b)
 (hcl:∀ ca cb,X.env.cells.lookup a=some ca->X.env.cells.lookup b=some cb->closureFor scope X.env=pure [(a,ca),(b,cb)]) (hka:X.env.kindOf a=some .cell) (hkb:X.env.kindOf b=some .cell) (hfa:X.fn a=true) (hfb:X.fn b=true) (hab:a≠b)
 (hbind:∀ (u pm ctv:Value) (ca cb c':Addr),bindArgs (kla_fn "<lambda>" qual params body scope [(a,ca),(b,cb)] pm (.ref c') ctv) ⟨[u],[]⟩=pure [(x,u)])
 (hF:∀ (base':Heap) (lam ca cb c':Addr) (pm ctv uA uB:Value) (vA vB:V),(∀ b o,X.base.get? b=some o->base'.get? b=some o)->base'.get? lam=some (kla_obj "<lambda>" qual params body scope [(a,ca),(b,cb)] pm c' ctv)->ca≠cb ->
   base'.IsCell ca (some uA)->RelV vA uA->base'.IsCell cb (some uB)->RelV vB uB->FnOk X.prog X.w X.K X.mg base' CX0 k lam (kla_fn "<lambda>" qual params body scope [(a,ca),(b,cb)] pm (.ref c') ctv) [x] (EU c' qual (spB vA vB)))
 (hg:Gl X "min":=by rfl) (hK:X.K=K:=by rfl)
 (hst:starEach [e] X.env=(false,eval e X.env)::starEach [] X.env:=by rfl) :
 PE X (.Call (.Name "min" p) [e] [⟨some "key",.Lambda params body scope lpos,kpos⟩] pos) (N7 K Pt lpos qual i j spB te):=by
 intro pins s σ H Q I h
 subst hq hK
 refine wpAny_Call_Name_kw (CP I hg hm (show bootBuiltins "min" = some (.builtin "min") by kernel_rfl) ?_)
 refine callWith_kw (e:=e) (rest:=[]) (id:="min") ?_ (by rw [hst];rfl) (by rw [hst];rfl)
 refine thn ((AA he AB hst) pos pins s σ H (fun vs H1=>match vs with | [y]=>(∃ l xs vA vB,y=.ref l/\0 < xs.length/\σ[i]? = some (some vA)/\σ[j]? = some (some vB)/\Lam Pt lpos (X.env.qual ++ "<lambda>") H1 /\
  ∀ c' H2,Grow Pt H1 H2->Lam Pt lpos (X.env.qual ++ "<lambda>") H2->H2 c'=some (CdO c' (X.env.qual ++ "<lambda>"))->∃ (J:Nat->Hp->Prop) (kf:Nat->Int),J 0 H2/\(∀ n H3,J n H3->SqL X.K H3 l xs/\H3 c'=some (CdO c' (X.env.qual ++ "<lambda>"))) /\
   (∀ n v H3,xs[n]? = some v->J n H3->spB vA vB v H3 fun y H4=>y=.int (kf n)/\J (n+1) H4) /\
   ∀ n v H3,xs[n]? = some v->(∀ m,m < xs.length->kf n<=kf m/\(m < n->kf n < kf m))->J xs.length H3->Q v H3) | _=>False) I h) fun us s1 ⟨vs,H1,I1,r1,q1⟩=>?_
 match vs,r1,q1 with
 | [_],.cons rx .nil,⟨l,xs,vA,vB,ex,hpos,hvA,hvB,hL,hQ⟩ =>
 subst ex
 cases rx
 obtain ⟨ps,hP,htr,hcs⟩:=id hL
 have fin:∀ (H2:Hp) (s2:Shared) (lam c' ca cb:Addr) (pm ctv:Value),Inv X pins σ H2 s2->X.env.cells.lookup a=some ca->X.env.cells.lookup b=some cb->s2.heap.get? lam=some (kla_obj "<lambda>" (X.env.qual ++ "<lambda>") params body scope [(a,ca),(b,cb)] pm c' ctv) ->
  H2 lam=none->lam≠X.env.locals->lam∉X.fs->Grow Pt H1 H2->Lam Pt lpos (X.env.qual ++ "<lambda>") H2->H2 c'=some (CdO c' (X.env.qual ++ "<lambda>")) ->
  wpAny (model X.prog X.w) X.A (call (.builtin "min") [.ref l] [(Str.ofString "key",.ref lam)]) (EP X pins σ Q) X.xe s2:=by
  intro H2 s2 lam c' ca cb pm ctv I2 hla hlb hf hn hnl hnf hG hL2 hc'
  obtain ⟨J,kf,h0,hJ,hturn,hend⟩:=hQ c' H2 hG hL2 hc'
  have I3:=I2.pin1 hf hn hnl hnf (fun v z=>by cases z)
  have hcab:ca≠cb:=fun z=>hab (I2.ok.inj a b ca hla (by rw [hlb,z]))
  refine thn (Qo (J:=J) (kf:=kf) (E:=X.xe) hc I3 hpos h0 (fun n H h=>(hJ n H h).1) (fun n y u H s pl hy ru hj I4=>?_) (fun n y H hy hb hj=>hend n y H hy hb hj)) fun u s3 ⟨y,H3,I5,r5,q5⟩=>⟨y,H3,I5.unpin1,r5,q5⟩
  have hl3:=(I4.pin (lam,_) (List.mem_append_right _ (List.mem_append_left _ (List.mem_cons_self ..))))
  obtain ⟨m,hns,hloc⟩:=I4.loc
  obtain ⟨uA,rA,lookA⟩:=hloc i a vA hNi hvA (.inr (.inl hka))
  obtain ⟨uB,rB,lookB⟩:=hloc j b vB hNj hvB (.inr (.inl hkb))
  rcases lookA with ⟨z,_⟩ | ⟨_,ca',e1,e2⟩
  ·rw [hka] at z;cases z
  rcases lookB with ⟨z,_⟩ | ⟨_,cb',e3,e4⟩
  ·rw [hkb] at z;cases z
  rw [hla] at e1
  cases e1
  rw [hlb] at e3
  cases e3
  have lamS:lam∉frs X.stack:=fun z=>by
   rcases List.mem_cons.mp (I4.stkSub _ z) with z | z
   ·exact hl3.2.2.1 z
   ·exact hl3.2.2.2.1 z
  have cellS:∀ y c,X.fn y=true->X.env.cells.lookup y=some c->c∉frs X.stack:=fun y c hy hc z=>by
   rcases List.mem_cons.mp (I4.stkSub _ z) with z | z
   ·exact I4.cne _ _ hc z
   ·obtain ⟨_,o,ho,_⟩:=I4.ok.funs.mem z
    exact absurd (Nat.lt_of_lt_of_le (Heap.lt_size ho) (I4.ok.cab y c hy hc)) (Nat.lt_irrefl _)
  have cA:(CJ X H s).IsCell ca (some uA):=by
   obtain ⟨o,ho,hd'⟩:=e2
   exact ⟨o,Fu ho (I4.freeC _ _ hla) (cellS a ca hfa hla),hd'⟩
  have cB:(CJ X H s).IsCell cb (some uB):=by
   obtain ⟨o,ho,hd'⟩:=e4
   exact ⟨o,Fu ho (I4.freeC _ _ hlb) (cellS b cb hfb hlb),hd'⟩
  have F:=hF (CJ X H s) lam ca cb c' pm ctv uA uB vA vB (JW I4) (Fu hl3.1 hl3.2.1 lamS) hcab cA rA cB rB
  refine thn (PL (vs:=[y]) (us:=[u]) (Q:=fun v H4=>v=.int (kf n)/\J (n+1) H4) I4 F hr.in1 (.of_eq (hbind u pm ctv ca cb c')) (.cons ru .nil) ⟨(hJ n H hj).2,hturn n y H hy hj⟩) fun y2 s2 h2=>?_
  obtain ⟨y3,H4,I6,r6,q6,q7⟩:=h2
  subst q6
  obtain ⟨t,rfl⟩:=r6
  exact ⟨H4,t,rfl,I6,q7⟩
 show wpAny _ _ (evalAll ((do let v <- eval (.Lambda params body scope lpos) X.env;standAt pos;pure v)::[])) _ _ s1
 obtain ⟨ca,hla⟩:=I1.ok.has a (.inl hka)
 obtain ⟨cb,hlb⟩:=I1.ok.has b (.inl hkb)
 have hcl':=hcl ca cb hla hlb
 have gl:∀ {s:Shared} {H:Hp},Inv X pins σ H s->s.heap.Ns mainGlobals X.mg:=fun J=>J.mod.glob.keeps J.bk
 have C:CodeHd s1.heap c Pt:=codeHd_of_K I1.kIn hcK
 have hPt:s1.heap.get? Pt=some (tabObj ps):=I1.hok _ _ hP
 have gP:mainGlobals≠Pt:=fun z=>by
  obtain ⟨o,es,ep,e,hd,_⟩:=gl I1
  rw [z,hPt] at e;cases e;cases hd
 have hB:s1.heap.BuiltinsAt X.mg Pt:=by
  obtain ⟨bm,ob,b1,b2,b3,b4,b5,b6⟩:=hbm
  have e:=I1.bk _ _ b3
  refine ⟨bm,ob,b1,b2,fun z=>?_,fun z=>?_,e,b4,b5,b6⟩
  ·obtain ⟨o,es,ep,e',hd,_⟩:=gl I1
   rw [z,e'] at e;cases e;rw [hd] at b6;cases b6
  ·rw [z,hPt] at e;cases e;cases b4
 refine wpAny_evalAll_cons (wpAny_bind (kla_eval hdef ?_))
 rcases hcs with hnf | ⟨c',hf,hc'⟩
 ·refine kla_makeFunction hcl' I1.ok.glob (gl I1) hcode C hPt htr hnf gP hB fun c' ctv h' tk hx' hge hlt hrec htb=>?_
  refine wpAny_bind (wpAny_standAt (wpAny_pure (wpAny_evalAll_nil ?_)))
  have J:=I1.grow (t':=tk) hP hx' htb hge hrec
  have J':=J.kept (h':=h'.push _) (t':=tk) fun b' u e=>Heap.get?_push_of_some (kla_obj "<lambda>" (X.env.qual ++ "<lambda>") params body scope [(a,ca),(b,cb)] ((X.mg "__name__").getD .none) c' ctv) e
  have hcn:H1 c'=none:=I1.hok.fresh hge
  have hcP:c'≠Pt:=fun z=>by rw [z,hP] at hcn;cases hcn
  refine fin _ _ h'.objs.size c' ca cb _ ctv J' hla hlb (Heap.get?_push_size _ rfl) (J.hok.fresh (Nat.le_refl _)) (Nat.ne_of_gt J.lt) (J.nofs (Nat.le_refl _)) (fun b o n e=>?_) ⟨_,by rw [AJ (Ne.symm hcP),AD],?_,.inr ⟨c',?_,AD⟩⟩ AD
  ·have hbc:b≠c':=fun z=>by rw [z,hcn] at e;cases e
   rw [AJ hbc,AJ n];exact e
  ·rw [Array.toList_append]
   exact TriplesOk_snoc _ _ _ _ htr
  ·rw [Array.toList_append]
   exact codeAmong_snoc _ htr hnf
 ·refine kla_makeFunctionHit hcl' I1.ok.glob (gl I1) hcode C hPt htr hf hB fun ctv h' tk hk' hsz=>?_
  refine wpAny_bind (wpAny_standAt (wpAny_pure (wpAny_evalAll_nil ?_)))
  have J0:Inv X pins σ H1 { s1 with heap:=h',toks:=tk }:=I1.kept hk'
  have J:=I1.kept (h':=h'.push _) (t':=tk) fun b' u e=>Heap.get?_push_of_some (kla_obj "<lambda>" (X.env.qual ++ "<lambda>") params body scope [(a,ca),(b,cb)] ((X.mg "__name__").getD .none) c' ctv) (hk' b' u e)
  exact fin _ _ h'.objs.size c' ca cb _ ctv J hla hlb (Heap.get?_push_size _ rfl) (J0.hok.fresh (Nat.le_refl _)) (Nat.ne_of_gt J0.lt) (J0.nofs (Nat.le_refl _)) (Grow.refl _ _) hL hc'
end
end L2
namespace Mine
open PySem L2
noncomputable def top (i:Nat):Stmt:=PySem.Challenge.pw_flips_k49_whole_an_asking_finds.main.body.getD i (.Pass ⟨0,0,0,0⟩)
noncomputable abbrev D4:Stmt:=top 6
noncomputable abbrev D3:Stmt:=top 7
noncomputable abbrev D2:Stmt:=top 9
noncomputable abbrev EF:Stmt:=top 10
noncomputable abbrev Dy:Stmt:=top 11
noncomputable abbrev C8:Stmt:=top 12
noncomputable abbrev Dh:Stmt:=BO (top 14) 0
noncomputable abbrev DM:Stmt:=BO (top 14) 1
noncomputable abbrev DC:Stmt:=BO (top 14) 2
noncomputable abbrev DE:Stmt:=BO (top 14) 3
noncomputable abbrev Do:Stmt:=BO (top 14) 4
noncomputable abbrev DY:Stmt:=BO (top 14) 5
noncomputable abbrev Dk:Stmt:=BO (top 14) 6
noncomputable abbrev DU:Stmt:=BO (top 14) 7
noncomputable abbrev Dp:Stmt:=BO (top 14) 8
noncomputable abbrev EH:Stmt:=BO (top 14) 9
noncomputable abbrev DH:Stmt:=BO (top 14) 10
noncomputable abbrev CF:Stmt:=BO (top 14) 11
noncomputable abbrev DW:Stmt:=top 15
noncomputable abbrev DB:Stmt:=top 17
noncomputable abbrev Da:Stmt:=top 18
noncomputable abbrev DF:Stmt:=top 19
noncomputable abbrev Dc:Stmt:=BO (top 21) 0
noncomputable abbrev Dl:Stmt:=BO (top 21) 1
noncomputable abbrev De:Stmt:=BO (top 21) 2
noncomputable abbrev EE:Stmt:=BO (top 21) 3
noncomputable abbrev DJ:Stmt:=BO (top 21) 4
noncomputable abbrev D5:Stmt:=BO (top 21) 5
noncomputable abbrev DR:Stmt:=top 23
noncomputable abbrev DX:Stmt:=top 24
noncomputable abbrev D7:Stmt:=top 25
noncomputable abbrev Dd:Stmt:=top 27
noncomputable abbrev EG:Stmt:=top 28
noncomputable abbrev Dr:Stmt:=top 29
noncomputable abbrev EI:Stmt:=top 30
noncomputable abbrev Dx:Stmt:=top 31
noncomputable abbrev Dz:Stmt:=top 32
noncomputable abbrev C9:Stmt:=top 33
noncomputable abbrev Db:Stmt:=top 34
noncomputable abbrev DD:Stmt:=top 35
noncomputable abbrev Dq:Stmt:=top 36
noncomputable abbrev DA:Stmt:=top 37
noncomputable abbrev Ds:Stmt:=top 38
noncomputable abbrev CV:Stmt:=top 39
local macro_rules | `(tactic| walk_at "f")=>`(tactic| exact ⟨rfl,rfl,rfl,by decide +kernel,rfl,by decide +kernel,by decide +kernel⟩)
theorem RA:FnScope ["n"] ["n"] (AH D4):=by walk_at "f"
theorem sc_z49:FnScope ["base","times","power","step"] ["base","times"] (AH D3):=by walk_at "f"
theorem UA:FnScope ["place","switch"] ["place","switch"] (AH D2):=by walk_at "f"
theorem OF:FnScope ["subset","other"] ["subset","other"] (AH EF):=by walk_at "f"
theorem Qe:FnScope ["members"] ["members"] (AH Dy):=by walk_at "f"
theorem Pf:FnScope ["subset"] ["subset"] (AH C8):=by walk_at "f"
theorem UF:FnScope ["self","game"] ["self","game"] (AH Dh):=by walk_at "f"
theorem Mh:FnScope ["self"] ["self"] (AH DM):=by walk_at "f"
theorem Tc:FnScope ["self","things"] ["self","things"] (AH DC):=by walk_at "f"
theorem Nd:FnScope ["self","things"] ["self","things"] (AH DE):=by walk_at "f"
theorem sc_z21:FnScope ["self","things","question","answer","yes"] ["self","things","question","answer"] (AH Do):=by walk_at "f"
theorem QL:FnScope ["self","things"] ["self","things"] (AH DY):=by walk_at "f"
theorem Nj:FnScope ["self","things"] ["self","things"] (AH Dk):=by walk_at "f"
theorem Mw:FnScope ["self","things"] ["self","things"] (AH DU):=by walk_at "f"
theorem N5:FnScope ["self","things","question"] ["self","things","question"] (AH Dp):=by walk_at "f"
theorem sc_z17:FnScope ["self","things","question","no","yes"] ["self","things","question"] (AH EH):=by walk_at "f"
theorem Sr:FnScope ["self","things"] ["self","things"] (AH DH):=by walk_at "f"
theorem Qg:FnScope ["self","things"] ["self","things"] (AH CF):=by walk_at "f"
theorem RL:FnScope ["wanted","values"] ["wanted","values"] (AH DW):=by walk_at "f"
theorem sc_z41:FnScope ["tables","other","table","one","rows"] ["tables"] (AH DB):=by walk_at "f"
theorem sc_z20:FnScope ["game","found"] ["game"] (AH Da):=by walk_at "f"
theorem sc_z27:FnScope ["game","labels","answers","one","other"] ["game"] (AH DF):=by walk_at "f"
theorem P0:FnScope ["self","game"] ["self","game"] (AH Dc):=by walk_at "f"
theorem Rz:FnScope ["self"] ["self"] (AH Dl):=by walk_at "f"
theorem sc_z34:FnScope ["self","question","answer","fitting"] ["self","question","answer"] (AH De):=by walk_at "f"
theorem PD:FnScope ["self"] ["self"] (AH EE):=by walk_at "f"
theorem Rr:FnScope ["self"] ["self"] (AH DJ):=by walk_at "f"
theorem QG:FnScope ["self"] ["self"] (AH D5):=by walk_at "f"
theorem sc_z51:FnScope ["game","reckoner","things"] ["game"] (AH DR):=by walk_at "f"
theorem sc_z48:FnScope ["reckoner","things","question","no","yes"] ["reckoner","things"] (AH DX):=by walk_at "f"
theorem sc_z43:FnScope ["reckoner","things","entries","level","below","each","number"] ["reckoner","things"] (AH D7):=by walk_at "f"
theorem Ms:FnScope ["_law_script"] ["_law_script"] (AH Dd):=by walk_at "f"
theorem sc_z46:FnScope ["_law_feed_here","_law_many","_law_turn","_law_cell","_law_mixed","_law_digit"] ["_law_feed_here","_law_many"] (AH EG):=by walk_at "f"
theorem sc_z40:FnScope ["_law_feed_here","_law_n","_law_many","_law_way","_law_place","_law_one","_law_answer"] ["_law_feed_here","_law_n"] (AH Dr):=by walk_at "f"
theorem sc_z25:FnScope ["_law_table_here","_law_rows","_law_many"] ["_law_table_here"] (AH EI):=by walk_at "f"
theorem sc_z39:FnScope ["_law_feed_here","_law_n","_law_many","_law_tables","_law_at","_law_k","_law_table_here"] ["_law_feed_here","_law_n","_law_many"] (AH Dx):=by walk_at "f"
theorem sc_z24:FnScope ["_law_tables","_law_rows"] ["_law_tables"] (AH Dz):=by walk_at "f"
theorem sc_z42:FnScope ["_law_feed_here","_law_many","_law_first","_law_labels","_law_rows"] ["_law_feed_here"] (AH C9):=by walk_at "f"
theorem sc_z30:FnScope ["_law_feed_here","_law_many","_law_width","_law_names","_law_labels","_law_rows","_law_k"] ["_law_feed_here"] (AH Db):=by walk_at "f"
theorem sc_z44:FnScope ["_law_feed_here","_law_way"] ["_law_feed_here"] (AH DD):=by walk_at "f"
theorem sc_z45:FnScope ["_law_game_here","_law_answers","_law_one","_law_other"] ["_law_game_here"] (AH Dq):=by walk_at "f"
theorem sc_z35:FnScope ["_law_game_here","_law_labels","_law_pair_here"] ["_law_game_here"] (AH DA):=by walk_at "f"
theorem sc_z37:FnScope ["_law_asking","_law_game_here","_law_hidden","_law_many","_law_turn","_law_question","_law_ahead"] ["_law_asking","_law_game_here","_law_hidden"] (AH Ds):=by walk_at "f"
theorem sc_law:FnScope ["_law_script","_law_feed_here","_law_k","_law_game_here","_law_hidden","_law_asking","_law_turn","_law_question","_law_n","_law_tables","_law_place"] ["_law_script"] (AH CV):=by walk_at "f"
noncomputable def B3:Str:=PySem.Str.ofString "Reckoner.first_question" ++ PySem.Str.ofString ".<locals>." ++ PySem.Str.ofString "<lambda>"
noncomputable def EK:Pos:=⟨82,45,82,97⟩
set_option genInjectivity false
set_option genSizeOf false
structure Txt (K:W.Frag) (mg:Str->Option Value) where
 C_Asking:Addr
 mC_Asking:mg "Asking" = some (.ref C_Asking)
 cl_Asking:Cls K C_Asking
 na_Asking_reckoner:NoAttr K C_Asking "reckoner"
 na_Asking_fitting:NoAttr K C_Asking "fitting"
 C_Reckoner:Addr
 mC_Reckoner:mg "Reckoner" = some (.ref C_Reckoner)
 cl_Reckoner:Cls K C_Reckoner
 na_Reckoner_labels:NoAttr K C_Reckoner "labels"
 na_Reckoner_yeses:NoAttr K C_Reckoner "yeses"
 na_Reckoner_alike:NoAttr K C_Reckoner "alike"
 na_Reckoner_known:NoAttr K C_Reckoner "known"
 f_z50:Addr
 d_z50:FuncData
 F_z50:Fun K "two_to" "two_to" D4 f_z50 d_z50
 b_z50:Binds K d_z50 ["n"] []
 m_z50:mg "two_to" = some (.ref f_z50)
 f_z49:Addr
 d_z49:FuncData
 F_z49:Fun K "power_of" "power_of" D3 f_z49 d_z49
 b_z49:Binds K d_z49 ["base","times"] []
 m_z49:mg "power_of" = some (.ref f_z49)
 f_z53:Addr
 d_z53:FuncData
 F_z53:Fun K "is_on" "is_on" D2 f_z53 d_z53
 b_z53:Binds K d_z53 ["place","switch"] []
 m_z53:mg "is_on" = some (.ref f_z53)
 f_z52:Addr
 d_z52:FuncData
 F_z52:Fun K "within" "within" EF f_z52 d_z52
 b_z52:Binds K d_z52 ["subset","other"] []
 m_z52:mg "within" = some (.ref f_z52)
 f_z36:Addr
 d_z36:FuncData
 F_z36:Fun K "set_holding" "set_holding" Dy f_z36 d_z36
 b_z36:Binds K d_z36 ["members"] []
 m_z36:mg "set_holding" = some (.ref f_z36)
 f_z38:Addr
 d_z38:FuncData
 F_z38:Fun K "members_of" "members_of" C8 f_z38 d_z38
 b_z38:Binds K d_z38 ["subset"] []
 m_z38:mg "members_of" = some (.ref f_z38)
 f_z23:Addr
 d_z23:FuncData
 F_z23:Fun K "__init__" "Reckoner.__init__" Dh f_z23 d_z23
 b_z23:Binds K d_z23 ["self","game"] []
 me_z23:Meth K C_Reckoner "__init__" f_z23
 mk_Reckoner:Mk K C_Reckoner f_z23
 f_z18:Addr
 d_z18:FuncData
 F_z18:Fun K "everything" "Reckoner.everything" DM f_z18 d_z18
 b_z18:Binds K d_z18 ["self"] []
 me_z18:Meth K C_Reckoner "everything" f_z18
 f_z13:Addr
 d_z13:FuncData
 F_z13:Fun K "has_one_label" "Reckoner.has_one_label" DC f_z13 d_z13
 b_z13:Binds K d_z13 ["self","things"] []
 me_z13:Meth K C_Reckoner "has_one_label" f_z13
 f_z19:Addr
 d_z19:FuncData
 F_z19:Fun K "label_of" "Reckoner.label_of" DE f_z19 d_z19
 b_z19:Binds K d_z19 ["self","things"] []
 me_z19:Meth K C_Reckoner "label_of" f_z19
 f_z21:Addr
 d_z21:FuncData
 F_z21:Fun K "left_of" "Reckoner.left_of" Do f_z21 d_z21
 b_z21:Binds K d_z21 ["self","things","question","answer"] []
 me_z21:Meth K C_Reckoner "left_of" f_z21
 f_z15:Addr
 d_z15:FuncData
 F_z15:Fun K "fewest_among" "Reckoner.fewest_among" DY f_z15 d_z15
 b_z15:Binds K d_z15 ["self","things"] []
 me_z15:Meth K C_Reckoner "fewest_among" f_z15
 f_z11:Addr
 d_z11:FuncData
 F_z11:Fun K "fewest_reckoned" "Reckoner.fewest_reckoned" Dk f_z11 d_z11
 b_z11:Binds K d_z11 ["self","things"] []
 me_z11:Meth K C_Reckoner "fewest_reckoned" f_z11
 f_z22:Addr
 d_z22:FuncData
 F_z22:Fun K "parting" "Reckoner.parting" DU f_z22 d_z22
 b_z22:Binds K d_z22 ["self","things"] []
 me_z22:Meth K C_Reckoner "parting" f_z22
 f_z14:Addr
 d_z14:FuncData
 F_z14:Fun K "worst_behind" "Reckoner.worst_behind" Dp f_z14 d_z14
 b_z14:Binds K d_z14 ["self","things","question"] []
 me_z14:Meth K C_Reckoner "worst_behind" f_z14
 f_z17:Addr
 d_z17:FuncData
 F_z17:Fun K "harder_left" "Reckoner.harder_left" EH f_z17 d_z17
 b_z17:Binds K d_z17 ["self","things","question"] []
 me_z17:Meth K C_Reckoner "harder_left" f_z17
 f_z16:Addr
 d_z16:FuncData
 F_z16:Fun K "harder_lefts" "Reckoner.harder_lefts" DH f_z16 d_z16
 b_z16:Binds K d_z16 ["self","things"] []
 me_z16:Meth K C_Reckoner "harder_lefts" f_z16
 f_z12:Addr
 d_z12:FuncData
 F_z12:Fun K "first_question" "Reckoner.first_question" CF f_z12 d_z12
 b_z12:Binds K d_z12 ["self","things"] []
 me_z12:Meth K C_Reckoner "first_question" f_z12
 f_z29:Addr
 d_z29:FuncData
 F_z29:Fun K "members_where" "members_where" DW f_z29 d_z29
 b_z29:Binds K d_z29 ["wanted","values"] []
 m_z29:mg "members_where" = some (.ref f_z29)
 f_z41:Addr
 d_z41:FuncData
 F_z41:Fun K "class_game" "class_game" DB f_z41 d_z41
 b_z41:Binds K d_z41 ["tables"] []
 m_z41:mg "class_game" = some (.ref f_z41)
 f_z20:Addr
 d_z20:FuncData
 F_z20:Fun K "refuse_without_end" "refuse_without_end" Da f_z20 d_z20
 b_z20:Binds K d_z20 ["game"] []
 m_z20:mg "refuse_without_end" = some (.ref f_z20)
 f_z27:Addr
 d_z27:FuncData
 F_z27:Fun K "first_unparted" "first_unparted" DF f_z27 d_z27
 b_z27:Binds K d_z27 ["game"] []
 m_z27:mg "first_unparted" = some (.ref f_z27)
 f_z31:Addr
 d_z31:FuncData
 F_z31:Fun K "__init__" "Asking.__init__" Dc f_z31 d_z31
 b_z31:Binds K d_z31 ["self","game"] []
 me_z31:Meth K C_Asking "__init__" f_z31
 mk_Asking:Mk K C_Asking f_z31
 f_z33:Addr
 d_z33:FuncData
 F_z33:Fun K "ask" "Asking.ask" Dl f_z33 d_z33
 b_z33:Binds K d_z33 ["self"] []
 me_z33:Meth K C_Asking "ask" f_z33
 f_z34:Addr
 d_z34:FuncData
 F_z34:Fun K "say" "Asking.say" De f_z34 d_z34
 b_z34:Binds K d_z34 ["self","question","answer"] []
 me_z34:Meth K C_Asking "say" f_z34
 f_z32:Addr
 d_z32:FuncData
 F_z32:Fun K "left" "Asking.left" EE f_z32 d_z32
 b_z32:Binds K d_z32 ["self"] []
 me_z32:Meth K C_Asking "left" f_z32
 f_z26:Addr
 d_z26:FuncData
 F_z26:Fun K "label" "Asking.label" DJ f_z26 d_z26
 b_z26:Binds K d_z26 ["self"] []
 me_z26:Meth K C_Asking "label" f_z26
 f_z28:Addr
 d_z28:FuncData
 F_z28:Fun K "most" "Asking.most" D5 f_z28 d_z28
 b_z28:Binds K d_z28 ["self"] []
 me_z28:Meth K C_Asking "most" f_z28
 f_z51:Addr
 d_z51:FuncData
 F_z51:Fun K "fewest" "fewest" DR f_z51 d_z51
 b_z51:Binds K d_z51 ["game"] []
 m_z51:mg "fewest" = some (.ref f_z51)
 f_z48:Addr
 d_z48:FuncData
 F_z48:Fun K "best_tree" "best_tree" DX f_z48 d_z48
 b_z48:Binds K d_z48 ["reckoner","things"] []
 m_z48:mg "best_tree" = some (.ref f_z48)
 f_z43:Addr
 d_z43:FuncData
 F_z43:Fun K "hard_paper" "hard_paper" D7 f_z43 d_z43
 b_z43:Binds K d_z43 ["reckoner","things"] []
 m_z43:mg "hard_paper" = some (.ref f_z43)
 f_z47:Addr
 d_z47:FuncData
 F_z47:Fun K "_law_feed" "_law_feed" Dd f_z47 d_z47
 b_z47:Binds K d_z47 ["_law_script"] []
 m_z47:mg "_law_feed" = some (.ref f_z47)
 f_z46:Addr
 d_z46:FuncData
 F_z46:Fun K "_law_draw" "_law_draw" EG f_z46 d_z46
 b_z46:Binds K d_z46 ["_law_feed_here","_law_many"] []
 m_z46:mg "_law_draw" = some (.ref f_z46)
 f_z40:Addr
 d_z40:FuncData
 F_z40:Fun K "_law_table" "_law_table" Dr f_z40 d_z40
 b_z40:Binds K d_z40 ["_law_feed_here","_law_n"] []
 m_z40:mg "_law_table" = some (.ref f_z40)
 f_z25:Addr
 d_z25:FuncData
 F_z25:Fun K "_law_table_game" "_law_table_game" EI f_z25 d_z25
 b_z25:Binds K d_z25 ["_law_table_here"] []
 m_z25:mg "_law_table_game" = some (.ref f_z25)
 f_z39:Addr
 d_z39:FuncData
 F_z39:Fun K "_law_class" "_law_class" Dx f_z39 d_z39
 b_z39:Binds K d_z39 ["_law_feed_here","_law_n","_law_many"] []
 m_z39:mg "_law_class" = some (.ref f_z39)
 f_z24:Addr
 d_z24:FuncData
 F_z24:Fun K "_law_class_game" "_law_class_game" Dz f_z24 d_z24
 b_z24:Binds K d_z24 ["_law_tables"] []
 m_z24:mg "_law_class_game" = some (.ref f_z24)
 f_z42:Addr
 d_z42:FuncData
 F_z42:Fun K "_law_picks" "_law_picks" C9 f_z42 d_z42
 b_z42:Binds K d_z42 ["_law_feed_here"] []
 m_z42:mg "_law_picks" = some (.ref f_z42)
 f_z30:Addr
 d_z30:FuncData
 F_z30:Fun K "_law_any_game" "_law_any_game" Db f_z30 d_z30
 b_z30:Binds K d_z30 ["_law_feed_here"] []
 m_z30:mg "_law_any_game" = some (.ref f_z30)
 f_z44:Addr
 d_z44:FuncData
 F_z44:Fun K "_law_game" "_law_game" DD f_z44 d_z44
 b_z44:Binds K d_z44 ["_law_feed_here"] []
 m_z44:mg "_law_game" = some (.ref f_z44)
 f_z45:Addr
 d_z45:FuncData
 F_z45:Fun K "_law_pair" "_law_pair" Dq f_z45 d_z45
 b_z45:Binds K d_z45 ["_law_game_here"] []
 m_z45:mg "_law_pair" = some (.ref f_z45)
 f_z35:Addr
 d_z35:FuncData
 F_z35:Fun K "_law_ending" "_law_ending" DA f_z35 d_z35
 b_z35:Binds K d_z35 ["_law_game_here"] []
 m_z35:mg "_law_ending" = some (.ref f_z35)
 f_z37:Addr
 d_z37:FuncData
 F_z37:Fun K "_law_finds" "_law_finds" Ds f_z37 d_z37
 b_z37:Binds K d_z37 ["_law_asking","_law_game_here","_law_hidden"] []
 m_z37:mg "_law_finds" = some (.ref f_z37)
 f_law:Addr
 d_law:FuncData
 F_law:Fun K "law" "law" CV f_law d_law
 b_law:Binds K d_law ["_law_script"] []
 m_law:mg "law" = some (.ref f_law)
 g_z12:Addr
 p_z12:Addr
 gc_z12:d_z12.code=.ref g_z12
 gh_z12:W.codeHdIn K g_z12 p_z12=true
 z_any:mg "any" = none
 z_enumerate:mg "enumerate" = none
 z_int:mg "int" = none
 z_len:mg "len" = none
 z_list:mg "list" = none
 z_min:mg "min" = none
 z_range:mg "range" = none
 z_set:mg "set" = none
 z_sorted:mg "sorted" = none
 z_sum:mg "sum" = none
 z_tuple:mg "tuple" = none
section
variable {P:Program} {w:World} {K:W.Frag} {mg:Str->Option Value} {base:Heap} (T:Txt K mg)
local macro_rules | `(tactic| walk_at "sm")=>`(tactic| repeat' with_reducible first | exact QA | exact US | apply Qb | apply TN | apply RM | apply M0 | apply TY | apply UT | apply Sm | exact Qj | exact T2 | apply Pl | apply T1 | apply PM | apply Ry | apply UI | apply Oo | apply SI | apply Op | apply Oy | apply QC | apply Ri | exact Ni | exact TL | exact Re | exact SB | exact Mi | exact PQ | exact SK | exact Ta | exact N1 | exact SH | exact Te | apply Si | apply RJ | apply QT | apply RF | exact NE | apply Rq | exact Rj | exact UP | apply Tj | apply P7 | apply OL | apply Tg | exact Bp | apply EN | exact CK | exact ON | exact QN | exact QE | exact RT | apply Qy | apply Pr | apply M7 | apply TB | exact OX | exact RW | exact Qw | exact QB | apply OD | apply Ps | exact Pk | exact TF | exact UQ | apply Mz | apply NQ | apply QJ | exact OH | apply Pu | exact Qa | apply Tm | assumption)
theorem pa1 {X:Cx} {e:PySem.Expr} {te:TE} (ha:PE X e te) (hs:starEach [e] X.env=[(false,eval e X.env)]):PA X [e] (IG te E3):=AA ha AB hs
local macro_rules | `(tactic| walk_at "v")=>`(tactic| exact ⟨by rfl,by first | exact Or.inl rfl | exact Or.inr (Or.inl rfl) | exact Or.inr (Or.inr rfl),by decide,by decide⟩)
local macro_rules | `(tactic| walk_at "m")=>`(tactic| with_reducible first | refine Exists.imp fun _=>?_ | refine And.imp_right ?_ | refine forall_imp fun _=>?_)
local macro_rules | `(tactic| walk_at "o")=>`(tactic| first | exact Or.inl rfl | exact Or.inr (Or.inl rfl) | exact Or.inr (Or.inr rfl))
local macro_rules | `(tactic| symm)=>`(tactic| first | exact .inl rfl | exact .inr rfl | assumption)
local macro_rules | `(tactic| right)=>`(tactic| first | exact Or.inl rfl | exact Or.inr rfl)
local macro_rules | `(tactic| exfalso)=>`(tactic| first | exact GH _ (by decide) (by decide) | rfl)
theorem Tp:FnOk P w K mg base CX0 1 T.f_z47 T.d_z47 ["_law_script"] (G7 K):=by
 refine T.F_z47.ok Ms (fun vs H Q E h=>by unfold G7 at h;split at h <;> first | rfl | exact h.elim) (fun cdv A outer s H vs Q E hr h=>?_)
 have hu:=AZ hr
 unfold G7 at h
 split at h
 rotate_left
 ·exact h.elim
 rename_i a
 obtain ⟨ns,hs,q⟩:=h
 refine ⟨_,(@AI _ _ _ (@AN _ _ _ _ (@BY _ _ _ _ (AA (AO (BG (K:=K)) (As (IS (K:=K)) rfl T.z_list (by rfl) (AA (O4 (K:=K) (vv 0) Gf (HZ AC)) AB)) (AO CM (@BY _ _ _ _ (AA AC AB)) (As KW rfl T.z_int (by rfl) (AA (Bh (kEq (K:=K) hu) (vv 0) (@BY _ _ _ _ AB)) AB)))) (AA AC (AA AC (AA AC AB))))))),?_⟩
 refine ⟨63,rfl,_,.inl ⟨hs,fun p hp=>?_⟩⟩
 have ecut:BR (ns.map V.int) none (some 63)=(ns.take (HT.sIx ns.length ns.length (some 63))).map V.int:=by
  unfold BR
  rw [List.length_map]
  simp [HT.sIx,List.map_take]
 rw [ecut]
 generalize hns:ns.take (HT.sIx ns.length ns.length (some 63))=ms
 have hms:ns≠[]->ms≠[]:=by
  intro hne
  rw [<- hns]
  cases ns with
  | nil=>exact absurd rfl hne
  | cons x xs =>
   have e:HT.sIx (x::xs).length (x::xs).length (some 63)=min 63 (xs.length+1):=HT.sIx_nat _ _ 63
   rw [e,show min 63 (xs.length+1)=(min 62 xs.length)+1 by lia,List.take_succ_cons]
   exact fun z=>nomatch z
 have hml:ms.length<=63:=by
  rw [<- hns,List.length_take]
  have e:HT.sIx ns.length ns.length (some 63)=min 63 ns.length:=HT.sIx_nat _ _ 63
  lia
 refine ⟨_,.inl (.of AD),fun p2 hp2=>?_⟩
 have s2:Same H (upd (upd H p (.lst (ms.map V.int))) p2 (.lst (ms.map V.int))):=(Same.upd hp).trans (Same.upd hp2)
 have g2:upd (upd H p (.lst (ms.map V.int))) p2 (.lst (ms.map V.int)) p2=some (.lst (ms.map V.int)):=AD
 generalize upd (upd H p (.lst (ms.map V.int))) p2 (.lst (ms.map V.int))=H2 at *
 refine ⟨Ae (show 1<=1000 by decide),fun p3 hp3=>?_⟩
 have s3:Same H2 (upd H2 p3 (.lst [.int 0])):=Same.upd hp3
 have g3:upd H2 p3 (.lst [.int 0]) p3=some (.lst [.int 0]):=AD
 generalize upd H2 p3 (.lst [.int 0])=H3 at *
 refine ⟨Ae (show 0<=1000 by decide),fun p4 hp4=>?_⟩
 have s4:Same H3 (upd H3 p4 (.lst [])):=Same.upd hp4
 have g4:upd H3 p4 (.lst []) p4=some (.lst []):=AD
 generalize upd H3 p4 (.lst [])=H4 at *
 have S4:=s2.trans (s3.trans s4)
 refine ⟨.lst (ns.map Dv.int),.lst [],?_,?_,?_,?_⟩
 ·unfold Rep;exact ⟨a,_,rfl,S4.sqL hs,GD ns⟩
 ·unfold Rep;exact ⟨p4,_,rfl,.of g4,Af⟩
 ·unfold Ap;rw [KO];lia
 have eb:eqD (.lst (ns.map Dv.int)) (.lst [])=decide (ns=[]):=by
  rw [Eu]
  cases ns with
  | nil=>rfl
  | cons x xs=>rfl
 rw [eb]
 have fin:∀ (k:Nat),k<=1->(ns=[]->k=1)->∀ H5 p5,Same H4 H5->H5 p5=some (.lst (List.replicate k (V.int 0)))->∃ l b xs zs,V.ref p2=.ref l/\V.ref p5=.ref b/\H5 l=some (.lst xs)/\H5 b=some (.lst zs)/\xs.length+zs.length<=sizeLine/\∀ p6,H5 p6=none ->
  4<=sizeLine/\∀ p7,upd H5 p6 (.lst (xs++zs)) p7=none->Q (.ref p7) (upd (upd H5 p6 (.lst (xs++zs))) p7 (.lst [.ref p6,.int 0,.int 0,.int 0])):=by
  intro k hk hk1 H5 p5 s5 g5
  refine ⟨p2,p5,_,_,rfl,rfl,s5 _ _ (s4 _ _ (s3 _ _ g2)),g5,Ae (by rw [List.length_map,List.length_replicate];lia),fun p6 hp6=>⟨Ae (by decide),fun p7 hp7=>?_⟩⟩
  have S5:=S4.trans s5
  have S6:=S5.trans (Same.upd (o:=.lst (ms.map V.int++List.replicate k (V.int 0))) hp6)
  refine q p7 _ (S6.free hp7) (S6.trans (Same.upd hp7)) ⟨p6,0,0,0,ms++List.replicate k 0,by decide,by decide,by decide,by decide,AD,?_,?_,?_⟩
  ·exact fun e=>by rw [<- e,AD] at hp7;cases hp7
  ·rw [AJ (fun e=>by rw [<- e,AD] at hp7;cases hp7),AD]
   rw [List.map_append,List.map_replicate]
  ·rw [List.length_append,List.length_replicate]
   by_cases hne:ns=[]
   ·rw [hk1 hne];lia
   ·have:=hms hne
    have:ms.length≠0:=fun z=>this (List.length_eq_zero_iff.mp z)
    lia
 by_cases hne:ns=[]
 ·rw [decide_eq_true hne]
  refine ⟨p3,1,_,rfl,rfl,s4 _ _ g3,by decide,by decide,Ae (by decide),fun p5 hp5=>.inl ?_⟩
  exact fin 1 (by decide) (fun _=>rfl) _ p5 (Same.upd hp5) AD
 ·rw [decide_eq_false hne]
  refine ⟨p3,0,_,rfl,rfl,s4 _ _ g3,by decide,by decide,Ae (by decide),fun p5 hp5=>.inl ?_⟩
  exact fin 0 (by decide) (fun z=>absurd z hne) _ p5 (Same.upd hp5) AD
theorem LH:FnOk P w K mg base CX0 1 T.f_z46 T.d_z46 ["_law_feed_here","_law_many"] DQ:=by
 refine T.F_z46.ok sc_z46 (fun vs H Q E h=>by unfold DQ at h;split at h <;> first | rfl | exact h.elim) (fun cdv A outer s H vs Q E hr h=>?_)
 have hu:=AZ hr
 match vs,h with
 | [.ref t,.int m],h =>
 obtain ⟨l,N,F,hN,hm,k⟩:=h
 obtain ⟨i,g,c,ns,i0,g0,c0,cN,ht,lt,hl,nl⟩:=F.at_
 have hm0:0 < m:=hm.1
 refine ⟨_,(@AG _ _ _ _ _ (@EJ _ _ _ _ _ _ (AO (BG (K:=K)) (kIx (K:=K) (vv 0) AC) AC) (Dm (vv 0) AC ED) (by rfl) (by rfl) (by rfl)) (@AG _ _ _ _ _ (@AM _ _ 2 _ _ _ _ sc_z46.nd rfl (by right) (kIx (K:=K) (vv 0) AC) (by rfl) (by symm)) (@AG _ _ _ _ _ (@Aw _ _ _ _ _ _ _ _ (Ag (kEq (K:=K) hu) (kIx (K:=K) (vv 0) AC) AC) (@AG _ _ _ _ _ (@AM _ _ 3 _ _ _ _ sc_z46.nd rfl (by right) (kIx (K:=K) (kIx (K:=K) (vv 0) AC) (AO Ci (kIx (K:=K) (vv 0) AC) (Ar (Az (K:=K)) rfl T.z_len (by rfl) (AA (kIx (K:=K) (vv 0) AC) AB)))) (by rfl) (by symm)) (@AG _ _ _ _ _ (@EJ _ _ _ _ _ _ (AO (BG (K:=K)) (kIx (K:=K) (vv 0) AC) AC) (Dm (vv 0) AC ED) (by rfl) (by rfl) (by rfl)) (@AG _ _ _ _ _ (@Aw _ _ _ _ _ _ _ _ (Ag Cd (vv 3) (AO J7 AC AC)) (@AG _ _ _ _ _ (@AM _ _ 4 _ _ _ _ sc_z46.nd rfl (by right) (AO (BG (K:=K)) (AO (BG (K:=K)) (AO (BG (K:=K)) (AO Ci (vv 3) AC) (AO CM (AO CM AC (vv 2)) (vv 2))) (AO CM AC (vv 2))) AC) (by rfl) (by symm)) (@AG _ _ _ _ _ (@AM _ _ 4 _ _ _ _ sc_z46.nd rfl (by right) (AO CM (AO Ej (AO Ci (AO CM (vv 4) AC) AC) AC) AC) (by rfl) (by symm)) (@AI _ _ _ (@AN _ _ _ _ (AO Ci (AO Ej (AO Ci (vv 4) AC) AC) (vv 1)))))) Av) (@AI _ _ _ (@EJ _ _ _ _ _ _ (vv 3) (Dm (vv 0) AC ED) (by rfl) (by rfl) (by rfl)))))) Av) (@AG _ _ _ _ _ (@AM _ _ 5 _ _ _ _ sc_z46.nd rfl (by right) (AO Ci (kIx (K:=K) (vv 0) AC) (vv 1)) (by rfl) (by symm)) (@AG _ _ _ _ _ (@EJ _ _ _ _ _ _ (AO Ej (kIx (K:=K) (vv 0) AC) (vv 1)) (Dm (vv 0) AC ED) (by rfl) (by rfl) (by rfl)) (@AI _ _ _ (@AN _ _ _ _ (vv 5)))))))),?_⟩
 refine Ak (fun σ' H1=>σ'=[some (.ref t),some (.int m),none,none,none,none]/\(∀ b,b≠t->H1 b=H b)/\H1 t=some (.lst [.ref l,.int i,.int g,.int (c+1)])) ?_ ?_ (by walk_at "sm")
 ·exact ⟨_,_,.inl (.of ht),rfl,_,_,ht,rfl,rfl,fun b n=>AJ n,AD⟩
 rintro σ' H1 ⟨rfl,f1,ht1⟩
 refine ⟨_,_,.inl (.of ht1),rfl,?_⟩
 have hl1:H1 l=some (.lst (ns.map V.int)):=by rw [f1 l lt];exact hl
 have pos:(0:Int) < (ns.length:Int):=by lia
 dsimp only [AR]
 refine Ak (fun σ' H2=>∃ (z3 z4:Option V) (i2 g2:Int),σ'=[some (.ref t),some (.int m),some (.int (c+1)),z3,z4,none]/\(∀ b,b≠t->H2 b=H b)/\0<=i2/\0<=g2/\H2 t=some (.lst [.ref l,.int i2,.int g2,.int (c+1)])) ?_ ?_ (by walk_at "sm")
 ·refine ⟨_,_,.inl (.of ht1),rfl,?_⟩
  refine An (fun e=>?_) (fun e=>⟨none,none,i,g,rfl,f1,i0,g0,ht1⟩)
  obtain ⟨z,hz⟩:=Rv (ns:=ns) (Int.emod_nonneg i (show (ns.length:Int)≠0 by lia)) (Int.emod_lt_of_pos i pos)
  refine Ak (fun σ' H2=>σ'=[some (.ref t),some (.int m),some (.int (c+1)),some (.int z),none,none]/\H1=H2) ?_ ?_ (by walk_at "sm")
  ·exact ⟨_,_,.inl (.of ht1),rfl,_,_,.inl (.of ht1),rfl,_,_,.inl (.of ht1),rfl,ns.length,.inl ⟨_,.of hl1,by rw [List.length_map]⟩,pos,_,_,.inl (.of hl1),hz,rfl,rfl⟩
  rintro σ' _ ⟨rfl,rfl⟩
  refine Ak (fun σ' H2=>σ'=[some (.ref t),some (.int m),some (.int (c+1)),some (.int z),none,none]/\(∀ b,b≠t->H2 b=H b)/\H2 t=some (.lst [.ref l,.int (i+1),.int g,.int (c+1)])) ?_ ?_ (by walk_at "sm")
  ·exact ⟨_,_,.inl (.of ht1),rfl,_,_,ht1,rfl,rfl,fun b n=>by rw [AJ n];exact f1 b n,AD⟩
  rintro σ' H2 ⟨rfl,f2,ht2⟩
  refine Ak (fun σ' H3=>σ'=[some (.ref t),some (.int m),some (.int (c+1)),some (.int z),none,none]/\H2=H3/\¬ z < 1000000000000000000) ?_ ?_ (by walk_at "sm")
  ·refine ⟨⟨by decide,by decide,by decide⟩,?_⟩
   refine An (fun e=>?_) (fun e=>⟨rfl,rfl,?_⟩)
   ·refine ⟨by decide,.inr (.inl ⟨by decide,by decide⟩),.inr (.inl ⟨by lia,by lia⟩),.inr (.inl ⟨by decide,by decide⟩),?_⟩
    refine ⟨.inr (.inr ⟨by decide,by decide⟩),by decide,Am (by decide) (by decide),.inr (.inr ⟨by decide,by decide⟩),?_⟩
    refine ⟨by decide,Am (by decide) (by decide),hm0,?_⟩
    exact k _ _ (Int.emod_nonneg _ (by lia)) (Int.emod_lt_of_pos _ hm0) ⟨i+1,g,c+1,ns,by lia,g0,by lia,by lia,ht2,lt,by rw [f2 l lt];exact hl,nl⟩ f2
   ·intro z'
    exact e (decide_eq_true z')
  rintro σ' _ ⟨rfl,rfl,hz2⟩
  exact ⟨_,_,ht2,rfl,_,_,_,_,rfl,fun b n=>by rw [AJ n];exact f2 b n,show 0<=i+1 by lia,show 0<=z by lia,AD⟩
 rintro σ' H2 ⟨z3,z4,i2,g2,rfl,f2,i0',g0',ht2⟩
 refine ⟨_,_,.inl (.of ht2),rfl,hm0,?_⟩
 dsimp only [AR]
 refine ⟨_,_,.inl (.of ht2),rfl,hm,_,_,ht2,rfl,?_⟩
 refine k _ _ (Int.emod_nonneg _ (by lia)) (Int.emod_lt_of_pos _ hm0) ⟨i2,g2 / m,c+1,ns,i0',Int.ediv_nonneg g0' (by lia),by lia,by lia,AD,lt,?_,nl⟩ (fun b n=>by rw [AJ n];exact f2 b n)
 rw [AJ lt,f2 l lt];exact hl
theorem Di:FnOk P w K mg base CX0 1 T.f_z46 T.d_z46 ["_law_feed_here","_law_many"] Ef:=(LH T).imp Mx
noncomputable def One (L:Nat->Int) (S:Nat->Bool):Prop:=∀ i j,S i=true->S j=true->L i=L j
noncomputable def Can (L:Nat->Int) (Y:List (Nat->Bool)):Nat->(Nat->Bool)->Prop
 | 0,S=>One L S
 | n+1,S=>One L S\/∃ y∈Y,Can L Y n (fun k=>S k && y k)/\Can L Y n (fun k=>S k && !y k)
section
variable {L L':Nat->Int} {Y Y':List (Nat->Bool)} {S S':Nat->Bool} {n m a b c:Nat}
theorem Kz (h:∀ k,S' k=true->S k=true) (o:One L S):One L S':=fun i j x y=>o i j (h i x) (h j y)
theorem CH:∀ {n:Nat} {S S':Nat->Bool},(∀ k,S' k=true->S k=true)->Can L Y n S->Can L Y n S'
 | 0,_,_,h,o=>Kz h o
 | n+1,S,S',h,.inl o=>.inl (Kz h o)
 | n+1,S,S',h,.inr ⟨y,hy,p,q⟩=>.inr ⟨y,hy,CH (fun k z=>by simp only [Bool.and_eq_true] at z ⊢;exact ⟨h k z.1,z.2⟩) p,CH (fun k z=>by simp only [Bool.and_eq_true] at z ⊢;exact ⟨h k z.1,z.2⟩) q⟩
theorem GY:∀ {n:Nat} {S:Nat->Bool},Can L Y n S->Can L Y (n+1) S
 | 0,_,o=>.inl o
 | n+1,S,.inl o=>.inl o
 | n+1,S,.inr ⟨y,hy,p,q⟩=>.inr ⟨y,hy,GY p,GY q⟩
theorem Ee (h:n<=m) (p:Can L Y n S):Can L Y m S:=by
 induction h with
 | refl=>exact p
 | step _ ih=>exact GY ih
noncomputable def Ao (L:Nat->Int) (Y:List (Nat->Bool)) (S:Nat->Bool) (m:Nat):Prop:=Can L Y m S/\∀ n,Can L Y n S->m<=n
theorem GZ (x:Ao L Y S a) (y:Ao L Y S b):a=b:=Nat.le_antisymm (x.2 _ y.1) (y.2 _ x.1)
theorem Ro {y:Nat->Bool} (hy:y∈Y) (x:Ao L Y S a) (p:Ao L Y (fun k=>S k && y k) b) (q:Ao L Y (fun k=>S k && !y k) c):a<=1+max b c:=by
 rw [Nat.add_comm]
 exact x.2 (max b c+1) (.inr ⟨y,hy,Ee (Nat.le_max_left ..) p.1,Ee (Nat.le_max_right ..) q.1⟩)
noncomputable def BX (S y:Nat->Bool):Prop:=(∃ k,S k=true/\y k=true)/\∃ k,S k=true/\y k=false
theorem not_parts {y:Nat->Bool} (h:¬ BX S y):(∀ k,S k=true->(S k && y k)=true)\/∀ k,S k=true->(S k && !y k)=true:=by
 by_cases z:∃ k,S k=true/\y k=true
 ·refine .inl fun k hk=>?_
  rw [hk,Bool.true_and]
  cases e:y k with
  | true=>rfl
  | false=>exact absurd ⟨z,k,hk,e⟩ h
 ·refine .inr fun k hk=>?_
  rw [hk,Bool.true_and]
  cases e:y k with
  | false=>rfl
  | true=>exact absurd ⟨k,hk,e⟩ z
theorem HJ (ho:¬ One L S):∀ {n:Nat},Can L Y n S->∃ y∈Y,BX S y
 | 0,o=>absurd o ho
 | n+1,.inl o=>absurd o ho
 | n+1,.inr ⟨y,hy,p,q⟩=>by
  by_cases h:BX S y
  ·exact ⟨y,hy,h⟩
  ·rcases not_parts h with z | z
   ·exact HJ ho (CH z p)
   ·exact HJ ho (CH z q)
theorem LP (ho:¬ One L S) (h1:∃ y∈Y,BX S y/\∃ b c,Ao L Y (fun k=>S k && y k) b/\Ao L Y (fun k=>S k && !y k) c/\m=max b c)
 (h2:∀ y∈Y,BX S y->∃ b c,Ao L Y (fun k=>S k && y k) b/\Ao L Y (fun k=>S k && !y k) c/\m<=max b c):Ao L Y S (1+m):=by
 constructor
 ·obtain ⟨y,hy,hp,b,c,p,q,e⟩:=h1
  rw [Nat.add_comm]
  exact .inr ⟨y,hy,Ee (by rw [e];exact Nat.le_max_left ..) p.1,Ee (by rw [e];exact Nat.le_max_right ..) q.1⟩
 ·intro n
  induction n with
  | zero=>exact fun o=>absurd o ho
  | succ n ih =>
   rintro (o | ⟨y,hy,p,q⟩)
   ·exact absurd o ho
   ·by_cases h:BX S y
    ·obtain ⟨b,c,p',q',hm⟩:=h2 y hy h
     have x1:=p'.2 _ p
     have x2:=q'.2 _ q
     lia
    ·rcases not_parts h with z | z
     ·exact Nat.le_succ_of_le (ih (CH z p))
     ·exact Nat.le_succ_of_le (ih (CH z q))
noncomputable def Ah (N:Nat) (S:Nat->Bool):Nat:=((List.range N).filter S).length
theorem EQ (N:Nat) (S:Nat->Bool):Ah (N+1) S=Ah N S+if S N=true then 1 else 0:=by
 unfold Ah
 rw [List.range_succ,List.filter_append,List.length_append]
 cases h:S N <;> simp [h]
theorem GC (N:Nat) (S y:Nat->Bool):Ah N S=Ah N (fun k=>S k && y k)+Ah N (fun k=>S k && !y k):=by
 induction N with
 | zero=>rfl
 | succ N ih =>
  rw [EQ,EQ,EQ,ih]
  cases S N <;> cases y N <;> simp <;> lia
theorem Ek {N:Nat} {S:Nat->Bool} {k:Nat} (hk:k < N) (hs:S k=true):1<=Ah N S:=List.length_pos_of_mem (List.mem_filter.mpr ⟨List.mem_range.mpr hk,hs⟩)
theorem Qt {N:Nat} {S:Nat->Bool} {i j:Nat} (hi:i < N) (hj:j < N) (si:S i=true) (sj:S j=true) (ne:i≠j):2<=Ah N S:=by
 rw [GC N S (fun k=>k == i)]
 have:=Ek (S:=fun k=>S k && k == i) hi (by simp [si])
 have:=Ek (S:=fun k=>S k && !(k == i)) hj (by simp [sj,Ne.symm ne])
 lia
theorem HK {N:Nat} (hS:∀ k,S k=true->k < N) {y:Nat->Bool} (h:BX S y):Ah N (fun k=>S k && y k) < Ah N S/\Ah N (fun k=>S k && !y k) < Ah N S:=by
 obtain ⟨⟨i,hi,yi⟩,j,hj,yj⟩:=h
 have:=GC N S y
 have:=Ek (S:=fun k=>S k && y k) (hS i hi) (by simp [hi,yi])
 have:=Ek (S:=fun k=>S k && !y k) (hS j hj) (by simp [hj,yj])
 lia
theorem Pi {N:Nat} (he:∀ i j,i < N->j < N->(∀ y∈Y,y i=y j)->L i=L j):∀ (n:Nat) (S:Nat->Bool),(∀ k,S k=true->k < N)->Ah N S<=n+1->Can L Y n S:=by
 intro n
 induction n with
 | zero =>
  intro S hS hc i j hi hj
  by_cases e:i=j
  ·rw [e]
  ·have:=Qt (hS i hi) (hS j hj) hi hj e
   lia
 | succ n ih =>
  intro S hS hc
  by_cases o:One L S
  ·exact .inl o
  ·have:∃ i j,S i=true/\S j=true/\L i≠L j:=by
    refine Classical.byContradiction fun z=>o fun i j hi hj=>Classical.byContradiction fun q=>z ⟨i,j,hi,hj,q⟩
   obtain ⟨i,j,hi,hj,ne⟩:=this
   have:∃ y∈Y,y i≠y j:=by
    refine Classical.byContradiction fun z=>ne (he i j (hS i hi) (hS j hj) fun y hy=>Classical.byContradiction fun q=>z ⟨y,hy,q⟩)
   obtain ⟨y,hy,hne⟩:=this
   have hp:BX S y:=by
    cases yi:y i with
    | true =>
     refine ⟨⟨i,hi,yi⟩,j,hj,?_⟩
     cases yj:y j with
     | false=>rfl
     | true=>rw [yi,yj] at hne;exact absurd rfl hne
    | false =>
     refine ⟨⟨j,hj,?_⟩,i,hi,yi⟩
     cases yj:y j with
     | true=>rfl
     | false=>rw [yi,yj] at hne;exact absurd rfl hne
   obtain ⟨c1,c2⟩:=HK hS hp
   exact .inr ⟨y,hy,ih _ (fun k z=>hS k (by simp only [Bool.and_eq_true] at z;exact z.1)) (by lia),ih _ (fun k z=>hS k (by simp only [Bool.and_eq_true] at z;exact z.1)) (by lia)⟩
theorem Pm:∀ {n:Nat} {S:Nat->Bool},Can L Y n S->∃ m,Ao L Y S m:=by
 intro n S h
 induction n with
 | zero=>exact ⟨0,h,fun _ _=>Nat.zero_le _⟩
 | succ n ih =>
  by_cases z:Can L Y n S
  ·exact ih z
  ·exact ⟨n+1,h,fun k hk=>by
    rcases Nat.lt_or_ge k (n+1) with q | q
    ·exact absurd (Ee (by lia) hk) z
    ·exact q⟩
end
noncomputable def msk (ts:List Nat):Nat:=(ts.map (2 ^ ·)).sum
theorem FE (t:Nat) (ts:List Nat):msk (t::ts)=2 ^ t+msk ts:=by unfold msk;rw [List.map_cons,List.sum_cons]
theorem Mo (ts us:List Nat):msk (ts++us)=msk ts+msk us:=by unfold msk;rw [List.map_append,List.sum_append]
theorem Jm:∀ (ts:List Nat) (N:Nat),ts.Pairwise (fun a b=>b < a)->(∀ t∈ts,t < N)->msk ts < 2 ^ N/\∀ k,(msk ts).testBit k=decide (k∈ts)
 | [],N,_,_=>⟨Nat.two_pow_pos N,fun k=>by simp [msk]⟩
 | t::ts,N,hp,hl=>by
  obtain ⟨h1,h2⟩:=List.pairwise_cons.mp hp
  obtain ⟨i1,i2⟩:=Jm ts t h2 h1
  rw [FE]
  have ht:t < N:=hl t (by simp)
  have e2:2 ^ t+2 ^ t<=2 ^ N:=by rw [<- Nat.two_mul,Nat.mul_comm,<- Nat.pow_succ];exact Nat.pow_le_pow_right (by decide) ht
  refine ⟨by lia,fun k=>?_⟩
  rcases Nat.lt_trichotomy k t with z | z | z
  ·rw [Nat.testBit_two_pow_add_gt z,i2 k]
   simp only [List.mem_cons,show k≠t by lia,false_or]
  ·subst z
   rw [Nat.testBit_two_pow_add_eq,i2 k]
   have:k∉ts:=fun q=>Nat.lt_irrefl _ (h1 k q)
   simp [this]
  ·have:2 ^ t+msk ts < 2 ^ k:=by
    have:2 ^ (t+1)<=2 ^ k:=Nat.pow_le_pow_right (by decide) z
    rw [Nat.pow_succ] at this
    lia
   rw [Nat.testBit_lt_two_pow this]
   have h3:k∉ts:=fun q=>Nat.lt_irrefl _ (Nat.lt_trans z (h1 k q))
   simp [h3,show k≠t by lia]
theorem Sb (ts:List Nat):msk ts.reverse=msk ts:=by
 induction ts with
 | nil=>rfl
 | cons t ts ih=>rw [List.reverse_cons,Mo,ih,FE,FE];simp [msk];lia
theorem Jj {ts:List Nat} {N:Nat} (hp:ts.Pairwise (· < ·)) (hl:∀ t∈ts,t < N):msk ts < 2 ^ N/\∀ k,(msk ts).testBit k=decide (k∈ts):=by
 have:=Jm ts.reverse N (List.pairwise_reverse.mpr hp) (fun t ht=>hl t (List.mem_reverse.mp ht))
 rw [Sb] at this
 exact ⟨this.1,fun k=>by rw [this.2 k];simp⟩
theorem Fk (x y k:Nat):(x - (x &&& y)).testBit k=(x.testBit k && !y.testBit k):=by
 have e:x - (x &&& y)=x ^^^ (x &&& y):=by
  have h:∀ (n x y:Nat),x < 2 ^ n->(x ^^^ (x &&& y))+(x &&& y)=x:=by
   intro n
   induction n with
   | zero=>intro x y h;have:x=0:=by simpa using h
           subst this;simp
   | succ n ih =>
    intro x y h
    have i:=ih (x / 2) (y / 2) (by rw [Nat.pow_succ] at h;lia)
    have d1:(x ^^^ (x &&& y)) / 2=x / 2 ^^^ (x / 2 &&& y / 2):=by rw [Nat.xor_div_two,Nat.and_div_two]
    have d2:(x &&& y) / 2=x / 2 &&& y / 2:=Nat.and_div_two
    have m1:(x ^^^ (x &&& y)) % 2+(x &&& y) % 2=x % 2:=by
     have g:∀ z:Nat,z % 2=(z.testBit 0).toNat:=fun z=>by rw [Nat.toNat_testBit,Nat.pow_zero,Nat.div_one]
     rw [g,g (x &&& y),g x,Nat.testBit_xor,Nat.testBit_and]
     cases x.testBit 0 <;> cases y.testBit 0 <;> rfl
    lia
  have:=h x x y Nat.lt_two_pow_self
  lia
 rw [e,Nat.testBit_xor,Nat.testBit_and]
 cases x.testBit k <;> cases y.testBit k <;> rfl
theorem Cb (S y:Nat):(S &&& y).testBit=fun k=>S.testBit k && y.testBit k:=funext fun k=>Nat.testBit_and ..
theorem Ce (S y:Nat):(S - (S &&& y)).testBit=fun k=>S.testBit k && !y.testBit k:=funext fun k=>Fk ..
theorem CZ {S n k:Nat} (h:S < 2 ^ n) (hk:S.testBit k=true):k < n:=by
 rcases Nat.lt_or_ge k n with z | z
 ·exact z
 ·rw [Nat.testBit_lt_two_pow (Nat.lt_of_lt_of_le h (Nat.pow_le_pow_right (by decide) z))] at hk
  cases hk
noncomputable def Hj:Sp:=fun vs H Q _=>match vs with
 | [.int b,.int t]=>∃ m:Nat,t=m/\m<=64/\((-(2 ^ 64) < b/\b < 2 ^ 64)\/(Nb b 100/\m<=12))/\Q (.int (b ^ m)) H
 | _=>False
theorem OV:FnOk P w K mg base CX0 1 T.f_z49 T.d_z49 ["base","times"] Hj:=by
 refine T.F_z49.ok sc_z49 (fun vs H Q E h=>by unfold Hj at h;split at h <;> first | rfl | exact h.elim) (fun cdv A outer s H vs Q E hr h=>?_)
 have hu:=AZ hr
 unfold Hj at h
 split at h
 rotate_left
 ·exact h.elim
 rename_i b t
 obtain ⟨m,e1,h1,b1,q⟩:=h
 subst e1
 refine ⟨_,(@AG _ _ _ _ _ (@AM _ _ 2 _ _ _ _ sc_z49.nd rfl (by right) AC (by rfl) (by symm)) (@AG _ _ _ _ _ (@Bk _ _ _ _ _ _ _ _ PassesOwn.never rfl (Ay rfl T.z_range (AA (vv 1) AB)) (AX (i:=3) sc_z49.nd rfl (by right)) (@AI _ _ _ (@AM _ _ 2 _ _ _ _ sc_z49.nd rfl (by right) (AO CM (vv 2) (vv 0)) (by rfl) (by symm))) (by intro _;rfl)) (@AI _ _ _ (@AN _ _ _ _ (vv 2))))),?_⟩
 refine ⟨m,rfl,by lia,by lia,?_⟩
 refine B4 (fun i σ H'=>H'=H/\∃ z:Option V,σ=[some (.int b),some (.int m),some (.int (b ^ i)),z]) ⟨rfl,none,by rw [Int.pow_zero];rfl⟩ ?_ ?_
 ·rintro i σ H' hi ⟨rfl,z,rfl⟩
  have hi':i < m:=by lia
  have okm:okMul (b ^ i) b:=by
   rcases b1 with b1 | ⟨b1,b2⟩
   ·exact .inr (.inr b1)
   ·exact Nb.okMul ((b1.pow i).up (by lia)) (b1.up (by lia))
  refine ⟨okm,rfl,some (.int (0+(i:Int))),?_⟩
  rw [Int.pow_succ]
  rfl
 ·rintro σ H' ⟨rfl,z,rfl⟩
  have:(m:Int).toNat=m:=by lia
  rw [this]
  exact q
noncomputable def Hk:Sp:=fun vs H Q _=>match vs with
 | [.int n]=>∃ m:Nat,n=m/\m<=64/\Q (.int (2 ^ m:Nat)) H
 | _=>False
theorem G9:FnOk P w K mg base CX0 2 T.f_z50 T.d_z50 ["n"] Hk:=by
 have G_z49:=OV (P:=P) (w:=w) (base:=base) T
 refine T.F_z50.ok RA (fun vs H Q E h=>by unfold Hk at h;split at h <;> first | rfl | exact h.elim) (fun cdv A outer s H vs Q E hr h=>?_)
 have hu:=AZ hr
 have hr_z49:=hr.mono (show 1<=_ by decide)
 unfold Hk at h
 split at h
 rotate_left
 ·exact h.elim
 rename_i n
 obtain ⟨m,e1,h1,q⟩:=h
 subst e1
 refine ⟨_,(@AI _ _ _ (@AN _ _ _ _ (AL G_z49 hr_z49 rfl T.m_z49 T.F_z49.kp T.b_z49 .nil AE (AA AC (AA (vv 0) AB))))),?_⟩
 refine ⟨m,rfl,h1,.inl ⟨by decide,by decide⟩,?_⟩
 have e:(2:Int) ^ m=((2 ^ m:Nat):Int):=by rw [Int.natCast_pow];rfl
 rw [e]
 exact q
noncomputable def Gw:Sp:=fun vs H Q _=>match vs with
 | [.int x,.int y]=>∃ a b:Nat,x=a/\y=b/\Q (.bl (decide (a &&& b=a))) H
 | _=>False
theorem Qc:FnOk P w K mg base CX0 1 T.f_z52 T.d_z52 ["subset","other"] Gw:=by
 refine T.F_z52.ok OF (fun vs H Q E h=>by unfold Gw at h;split at h <;> first | rfl | exact h.elim) (fun cdv A outer s H vs Q E hr h=>?_)
 have hu:=AZ hr
 unfold Gw at h
 split at h
 rotate_left
 ·exact h.elim
 rename_i x y
 obtain ⟨a,b,e1,e2,q⟩:=h
 subst e1 e2
 refine ⟨_,(@AI _ _ _ (@AN _ _ _ _ (Bh (kEq (K:=K) hu) (AO FP (vv 0) (vv 1)) (vv 0)))),?_⟩
 have e:(false ^^ (Builtin.bitAnd (a:Int) (b:Int) == (a:Int)))=decide (a &&& b=a):=by
  rw [Hh,Bool.false_xor,Bool.eq_iff_iff]
  simp only [beq_iff_eq,decide_eq_true_eq]
  lia
 show Q (.bl (false ^^ (Builtin.bitAnd (a:Int) (b:Int) == (a:Int)))) H
 rw [e]
 exact q
noncomputable def whr (bs:List Bool) (n:Nat):List Nat:=(List.range n).filter (gB bs)
theorem KL (bs:List Bool) (n:Nat):whr bs (n+1)=whr bs n++(if gB bs n=true then [n] else []):=by
 unfold whr
 rw [List.range_succ,List.filter_append]
 cases h:gB bs n <;> simp [h]
theorem Ey (bs:List Bool) (n:Nat):(whr bs n).length<=n:=by
 have:=List.length_filter_le (gB bs) (List.range n)
 rw [List.length_range] at this
 exact this
theorem LA (bs:List Bool) (n:Nat):(whr bs n).Pairwise (· < ·):=List.Pairwise.filter _ List.pairwise_lt_range
theorem Fw {bs:List Bool} {n t:Nat} (h:t∈whr bs n):t < n:=List.mem_range.mp (List.mem_filter.mp h).1
theorem Kj {bs:List Bool} {n t:Nat}:t∈whr bs n ↔ t < n/\gB bs t=true:=by unfold whr;rw [List.mem_filter,List.mem_range]
noncomputable def GW (K:W.Frag):Sp:=fun vs H Q _=>match vs with
 | [.bl b,.ref p]=>∃ rb:List Bool,SqT K H p (rb.map V.bl)/\rb.length<=100/\Eb H Q (iL (whr (rb.map (· == b)) rb.length))
 | [.int z,.ref p]=>∃ ls:List Int,SqT K H p (ls.map V.int)/\ls.length<=100/\Eb H Q (iL (whr (ls.map (· == z)) ls.length))
 | _=>False
theorem FT {α:Type} {f:α->Bool} {l:List α} {i:Nat} {x:α} (h:l[i]? = some x):gB (l.map f) i=f x:=by
 unfold gB
 rw [List.getD_eq_getElem?_getD,List.getElem?_map,h]
 rfl
theorem OB:FnOk P w K mg base CX0 1 T.f_z29 T.d_z29 ["wanted","values"] (GW K):=by
 refine T.F_z29.ok RL (fun vs H Q E h=>by unfold GW at h;split at h <;> first | rfl | exact h.elim) (fun cdv A outer s H vs Q E hr h=>?_)
 have hu:=AZ hr
 unfold GW at h
 split at h
 ·rename_i b p
  obtain ⟨rb,hp,hl,q⟩:=h
  refine ⟨_,(@AI _ _ _ (@AN _ _ _ _ (@A5 _ _ _ _ _ _ _ (["member","each","wanted"]) 2 [0] _ _ _ _ rfl (Ll (K:=K) rfl T.z_enumerate (AA (vv 1) AB)) (by kernel_rfl) rfl rfl (by kernel_rfl) (fun c=>FR (K:=K) (n:=2) rfl (CC (AX (i:=0) (show (["member","each","wanted"]:List Str).Nodup by decide +kernel) rfl (by right)) (CC (AX (i:=1) (show (["member","each","wanted"]:List Str).Nodup by decide +kernel) rfl (by right)) Ei))) (E1 (Ck Bp (EN Bp CK) (Ai (by decide)) (Ck Bp CK (Ai (by decide)) FS))) (fun c=>FY (Ag (kEq (K:=K) hu) (vv 1) (vv 2))) (fun c=>(vv 0)) (by intro _;rfl)))),?_⟩
  refine ⟨⟨_,hp⟩,?_⟩
  refine Jq (xs:=rb.map V.bl) (fun i zs H'=>Same H H'/\zs=iL (whr (rb.map (· == b)) i)) ⟨Same.refl _,rfl⟩ (fun i zs H' _ ⟨s,_⟩=>s.sqT hp) (fun i zs H' hi ⟨_,e⟩=>by
   rw [List.length_map] at hi
   have:=Ey (rb.map (· == b)) i
   rw [e,At];exact Aj (by lia)) ?_ ?_
  ·rintro i x zs H2 pp hx ⟨s2,rfl⟩ hpp
   rw [List.getElem?_map] at hx
   cases e0:rb[i]? with
   | none=>rw [e0] at hx;cases hx
   | some r =>
    rw [e0] at hx
    cases hx
    have eg:gB (rb.map (· == b)) i=(r == b):=FT e0
    refine ⟨pp,_,rfl,.of AD,rfl,_,_,rfl,_,_,rfl,rfl,?_⟩
    rw [KL,CS,eg]
    refine An (fun e=>?_) (fun e=>?_)
    ·have e':(r == b)=true:=by rw [<- Bool.false_xor (r == b)];exact e
     rw [if_pos e']
     exact ⟨s2.trans (Same.upd hpp),rfl⟩
    ·have e':¬ (r == b)=true:=by rw [<- Bool.false_xor (r == b)];exact e
     rw [if_neg e']
     exact ⟨s2.trans (Same.upd hpp),by show _=_++[];rw [List.append_nil]⟩
  ·rintro zs H2 ⟨s2,rfl⟩ l hl
   rw [List.length_map]
   exact q l _ (s2.free hl) (s2.trans (Same.upd hl)) AD
 ·rename_i b p
  obtain ⟨rb,hp,hl,q⟩:=h
  refine ⟨_,(@AI _ _ _ (@AN _ _ _ _ (@A5 _ _ _ _ _ _ _ (["member","each","wanted"]) 2 [0] _ _ _ _ rfl (Ll (K:=K) rfl T.z_enumerate (AA (vv 1) AB)) (by kernel_rfl) rfl rfl (by kernel_rfl) (fun c=>FR (K:=K) (n:=2) rfl (CC (AX (i:=0) (show (["member","each","wanted"]:List Str).Nodup by decide +kernel) rfl (by right)) (CC (AX (i:=1) (show (["member","each","wanted"]:List Str).Nodup by decide +kernel) rfl (by right)) Ei))) (E1 (Ck Bp (EN Bp CK) (Ai (by decide)) (Ck Bp CK (Ai (by decide)) FS))) (fun c=>FY (Ag (kEq (K:=K) hu) (vv 1) (vv 2))) (fun c=>(vv 0)) (by intro _;rfl)))),?_⟩
  refine ⟨⟨_,hp⟩,?_⟩
  refine Jq (xs:=rb.map V.int) (fun i zs H'=>Same H H'/\zs=iL (whr (rb.map (· == b)) i)) ⟨Same.refl _,rfl⟩ (fun i zs H' _ ⟨s,_⟩=>s.sqT hp) (fun i zs H' hi ⟨_,e⟩=>by
   rw [List.length_map] at hi
   have:=Ey (rb.map (· == b)) i
   rw [e,At];exact Aj (by lia)) ?_ ?_
  ·rintro i x zs H2 pp hx ⟨s2,rfl⟩ hpp
   rw [List.getElem?_map] at hx
   cases e0:rb[i]? with
   | none=>rw [e0] at hx;cases hx
   | some r =>
    rw [e0] at hx
    cases hx
    have eg:gB (rb.map (· == b)) i=(r == b):=FT e0
    refine ⟨pp,_,rfl,.of AD,rfl,_,_,rfl,_,_,rfl,rfl,?_⟩
    rw [KL,CS,eg]
    refine An (fun e=>?_) (fun e=>?_)
    ·have e':(r == b)=true:=by rw [<- Bool.false_xor (r == b)];exact e
     rw [if_pos e']
     exact ⟨s2.trans (Same.upd hpp),rfl⟩
    ·have e':¬ (r == b)=true:=by rw [<- Bool.false_xor (r == b)];exact e
     rw [if_neg e']
     exact ⟨s2.trans (Same.upd hpp),by show _=_++[];rw [List.append_nil]⟩
  ·rintro zs H2 ⟨s2,rfl⟩ l hl
   rw [List.length_map]
   exact q l _ (s2.free hl) (s2.trans (Same.upd hl)) AD
 ·exact h.elim
noncomputable def SqI (K:W.Frag) (H:Hp) (p:Addr) (ts:List Nat):Prop:=SqL K H p (iL ts)\/SqT K H p (iL ts)
noncomputable def IM (K:W.Frag):Sp:=fun vs H Q _=>match vs with
 | [.ref p]=>∃ ts:List Nat,SqI K H p ts/\ts.length<=64/\(∀ t∈ts,t<=60)/\∀ H',Same H H'->Q (.int (msk ts:Nat)) H'
 | _=>False
theorem Ti (ts:List Nat):(ts.map fun t=>((2 ^ t:Nat):Int)).sum=(msk ts:Nat):=by
 induction ts with
 | nil=>rfl
 | cons t ts ih=>rw [List.map_cons,List.sum_cons,ih,FE];lia
theorem RY:FnOk P w K mg base CX0 3 T.f_z36 T.d_z36 ["members"] (IM K):=by
 have G_z50:=G9 (P:=P) (w:=w) (base:=base) T
 refine T.F_z36.ok Qe (fun vs H Q E h=>by unfold IM at h;split at h <;> first | rfl | exact h.elim) (fun cdv A outer s H vs Q E hr h=>?_)
 have hu:=AZ hr
 have hr_z50:=hr.mono (show 2<=_ by decide)
 unfold IM at h
 split at h
 rotate_left
 ·exact h.elim
 rename_i p
 obtain ⟨ts,hp,hl,hb,q⟩:=h
 refine ⟨_,(@AI _ _ _ (@AN _ _ _ _ (Ar (Rk (K:=K) rfl) rfl T.z_sum (by rfl) (AA (@A5 _ _ _ _ _ _ _ ["member"] 1 [] _ _ _ _ rfl (B6 (K:=K) (vv 0)) (by kernel_rfl) rfl rfl (by kernel_rfl) (fun c=>AX (i:=0) (show (["member"]:List Str).Nodup by decide +kernel) rfl (by right)) (Ai (by decide)) (fun c=>Au) (fun c=>(AL G_z50 hr_z50 rfl T.m_z50 T.F_z50.kp T.b_z50 .nil AE (AA (vv 0) AB))) (by intro _;rfl)) AB)))),?_⟩
 have turn:∀ (k:Nat) (x:V) (ys:List V) (H':Hp),(iL ts)[k]? = some x->(Same H H'/\ys=(ts.take k).map fun t=>V.int ((2 ^ t:Nat):Int))->∃ t:Nat,x=.int (t:Nat)/\t<=60/\(ts.take (k+1)).map (fun t=>V.int ((2 ^ t:Nat):Int))=ys++[V.int ((2 ^ t:Nat):Int)]:=by
  rintro k x ys H' hx ⟨_,rfl⟩
  obtain ⟨t,ht,hmem,rfl⟩:=Cu hx
  refine ⟨t,rfl,hb t hmem,?_⟩
  rw [List.take_add_one,ht,List.map_append]
  rfl
 have fin:∀ (ys:List V) (H':Hp),(Same H H'/\ys=(ts.take (iL ts).length).map fun t=>V.int ((2 ^ t:Nat):Int))->∀ l,H' l=none->∃ ns:List Int,SqL K (upd H' l (.lst ys)) l (ns.map V.int)/\Q (.int ns.sum) (upd H' l (.lst ys)):=by
  rintro ys H' ⟨s1,rfl⟩ l hl
  refine ⟨ts.map fun t=>((2 ^ t:Nat):Int),?_,?_⟩
  ·rw [List.map_map,At,List.take_length]
   exact .of AD
  ·rw [Ti]
   exact q _ (s1.trans (Same.upd hl))
 rcases hp with hp | hp
 ·refine .inl ⟨⟨_,hp⟩,?_⟩
  refine DK (xs:=iL ts) (fun k ys H'=>Same H H'/\ys=(ts.take k).map fun t=>V.int ((2 ^ t:Nat):Int)) ⟨Same.refl _,rfl⟩ (fun k ys H' _ ⟨s,_⟩=>s.sqL hp) (fun k ys H' hk ⟨_,e⟩=>by
   rw [At] at hk
   rw [e,List.length_map,List.length_take];exact Aj (by lia)) ?_ ?_
  ·intro k x ys H' hx hP
   obtain ⟨t,rfl,t60,e⟩:=turn k x ys H' hx hP
   refine ⟨t,rfl,by lia,?_⟩
   exact ⟨hP.1,e.symm⟩
  ·exact fin
 ·refine .inr ⟨⟨_,hp⟩,?_⟩
  refine Ea (xs:=iL ts) (fun k ys H'=>Same H H'/\ys=(ts.take k).map fun t=>V.int ((2 ^ t:Nat):Int)) ⟨Same.refl _,rfl⟩ (fun k ys H' _ ⟨s,_⟩=>s.sqT hp) (fun k ys H' hk ⟨_,e⟩=>by
   rw [At] at hk
   rw [e,List.length_map,List.length_take];exact Aj (by lia)) ?_ ?_
  ·intro k x ys H' hx hP
   obtain ⟨t,rfl,t60,e⟩:=turn k x ys H' hx hP
   refine ⟨t,rfl,by lia,?_⟩
   exact ⟨hP.1,e.symm⟩
  ·exact fin
noncomputable def AF (ls:List Int) (k:Nat):Int:=ls.getD k 0
noncomputable def AT (ys:List Nat):List (Nat->Bool):=ys.map Nat.testBit
noncomputable def BM (a b c d:V):List (Str × V):=[("labels",a),("yeses",b),("alike",c),("known",d)]
theorem lk1 (a b c d:V):(BM a b c d).lookup ("labels" : Str)=some a:=by rfl
theorem lk2 (a b c d:V):(BM a b c d).lookup ("yeses" : Str)=some b:=by rfl
theorem lk3 (a b c d:V):(BM a b c d).lookup ("alike" : Str)=some c:=by rfl
theorem lk4 (a b c d:V):(BM a b c d).lookup ("known" : Str)=some d:=by rfl
theorem ln1 (a b c d:V):(BM a b c d).lookup ("fewest_among" : Str)=none:=by rfl
theorem ln2 (a b c d:V):(BM a b c d).lookup ("fewest_reckoned" : Str)=none:=by rfl
theorem ln3 (a b c d:V):(BM a b c d).lookup ("has_one_label" : Str)=none:=by rfl
theorem ln4 (a b c d:V):(BM a b c d).lookup ("worst_behind" : Str)=none:=by rfl
theorem ln5 (a b c d:V):(BM a b c d).lookup ("parting" : Str)=none:=by rfl
theorem ln6 (a b c d:V):(BM a b c d).lookup ("harder_left" : Str)=none:=by rfl
theorem ln7 (a b c d:V):(BM a b c d).lookup ("left_of" : Str)=none:=by rfl
theorem pf1 (a:V):Ad "labels" a []=([("labels",a)]:List (Str × V)):=by rfl
theorem pf2 (a b:V):Ad "yeses" b [("labels",a)]=([("labels",a),("yeses",b)]:List (Str × V)):=by rfl
theorem pf3 (a b c:V):Ad "alike" c [("labels",a),("yeses",b)]=([("labels",a),("yeses",b),("alike",c)]:List (Str × V)):=by rfl
theorem pf4 (a b c d:V):Ad "known" d [("labels",a),("yeses",b),("alike",c)]=BM a b c d:=by rfl
structure Memo (ls:List Int) (ys:List Nat) (kvs:List (Key × V)):Prop where
 nd:(kvs.map (·.1)).Nodup
 ok:∀ e∈kvs,∃ S m:Nat,e=((Sum.inl (S:Int):Key),V.int (m:Int))/\S < 2 ^ ls.length/\Ao (AF ls) (AT ys) S.testBit m
theorem Gk:∀ (N:Nat) (l:List Nat),l.Nodup->(∀ x∈l,x < N)->l.length<=N
 | 0,l,_,h=>by
  cases l with
  | nil=>exact Nat.le_refl _
  | cons x r=>exact absurd (h x (by simp)) (by lia)
 | N+1,l,nd,h=>by
  have:=Gk N (l.erase N) (nd.erase N) (fun x hx=>by
   have h2:=(nd.mem_erase_iff).mp hx
   have:=h x h2.2
   have:=h2.1
   lia)
  by_cases z:N∈l
  ·have e:=List.length_erase_of_mem z
   lia
  ·have e:=List.erase_of_not_mem z
   rw [e] at this
   lia
theorem Memo.len {ls:List Int} {ys:List Nat} {kvs:List (Key × V)} (h:Memo ls ys kvs) (h16:ls.length<=16):kvs.length < 2 ^ 24:=by
 have hl:kvs.length<=2 ^ ls.length:=by
  have e:(kvs.map fun e=>match e.1 with | Sum.inl z=>z.toNat | Sum.inr _=>0).length=kvs.length:=List.length_map ..
  rw [<- e]
  apply Gk
  ·refine List.pairwise_map.mpr ?_
   have nd:=List.pairwise_map.mp h.nd
   refine List.Pairwise.imp_of_mem ?_ nd
   intro a b ha hb ne
   obtain ⟨S,m,ea,_⟩:=h.ok a ha
   obtain ⟨S',m',eb,_⟩:=h.ok b hb
   subst ea eb
   intro q
   apply ne
   have:(S:Int).toNat=(S':Int).toNat:=q
   have:S=S':=by lia
   rw [this]
  ·intro x hx
   obtain ⟨a,ha,rfl⟩:=List.mem_map.mp hx
   obtain ⟨S,m,ea,hs,_⟩:=h.ok a ha
   subst ea
   show (S:Int).toNat < _
   rw [Int.toNat_natCast]
   exact hs
 have:2 ^ ls.length<=2 ^ 16:=Nat.pow_le_pow_right (by decide) h16
 lia
theorem Ml {kvs:List (Key × V)} {k:Key} {v:V} (h:valV kvs k=some v):(k,v)∈kvs:=by
 unfold valV at h
 cases e:kvs.find? fun kv=>decide (kv.1=k) with
 | none=>rw [e] at h;cases h
 | some x =>
  rw [e] at h
  have h1:=List.find?_some e
  have h2:=List.mem_of_find?_eq_some e
  cases h
  have:x.1=k:=of_decide_eq_true h1
  rw [<- this]
  exact h2
theorem Memo.get {ls:List Int} {ys:List Nat} {kvs:List (Key × V)} (h:Memo ls ys kvs) {S:Nat} {v:V} (e:valV kvs (Sum.inl (S:Int):Key)=some v):∃ m:Nat,v=.int m/\Ao (AF ls) (AT ys) S.testBit m:=by
 obtain ⟨S',m,ee,_,hf⟩:=h.ok _ (Ml e)
 have e1:(Sum.inl (S:Int):Key)=Sum.inl (S':Int):=congrArg Prod.fst ee
 have e2:v=V.int m:=congrArg Prod.snd ee
 have:(S:Int)=S':=Sum.inl.inj e1
 have:S=S':=by lia
 subst this
 exact ⟨m,e2,hf⟩
theorem Memo.put {ls:List Int} {ys:List Nat} {kvs:List (Key × V)} (h:Memo ls ys kvs) {S m:Nat} (hs:S < 2 ^ ls.length) (hf:Ao (AF ls) (AT ys) S.testBit m):Memo ls ys (BJ kvs (Sum.inl (S:Int):Key) (V.int m)):=by
 unfold BJ
 split
 ·refine ⟨?_,?_⟩
  ·have e:(kvs.map (fun kv=>if kv.1=(Sum.inl (S:Int):Key) then (kv.1,V.int m) else kv)).map (·.1)=kvs.map (·.1):=by
    rw [List.map_map]
    apply List.map_congr_left
    intro a _
    simp only [Function.comp]
    split <;> rfl
   rw [e]
   exact h.nd
  ·intro e he
   obtain ⟨a,ha,rfl⟩:=List.mem_map.mp he
   split
   ·rename_i q
    exact ⟨S,m,by rw [q],hs,hf⟩
   ·exact h.ok a ha
 ·rename_i z
  refine ⟨?_,?_⟩
  ·rw [List.map_append,List.nodup_append]
   refine ⟨h.nd,by simp,?_⟩
   intro a ha b hb q
   have hb':b=(Sum.inl (S:Int):Key):=by simpa using hb
   obtain ⟨x,hx,rfl⟩:=List.mem_map.mp ha
   exact z (List.any_eq_true.mpr ⟨x,hx,decide_eq_true (q.trans hb')⟩)
  ·intro e he
   rcases List.mem_append.mp he with q | q
   ·exact h.ok e q
   ·rw [List.mem_singleton] at q
    exact ⟨S,m,q,hs,hf⟩
noncomputable def JR (ls:List Int) (as:List Nat):Prop:=∀ S,S < 2 ^ ls.length->(as.any (fun a=>decide (S &&& a=S))=true ↔ One (AF ls) S.testBit)
structure RkAt (K:W.Frag) (C:Addr) (ls:List Int) (ys:List Nat) (H:Hp) (p d:Addr):Prop where
 at_:∃ dx tl yl al as kvs,H p=some (.ins C dx (BM (.ref tl) (.ref yl) (.ref al) (.ref d)))/\SqT K H tl (ls.map V.int)/\H yl=some (.lst (iL ys))/\H al=some (.lst (iL as))/\H d=some (.dK kvs)/\as.length<=100/\JR ls as/\Memo ls ys kvs
 l16:ls.length<=16
 y16:ys.length<=16
theorem RkAt.same {K:W.Frag} {C p d:Addr} {ls:List Int} {ys:List Nat} {H H':Hp} (r:RkAt K C ls ys H p d) (s:Same H H'):RkAt K C ls ys H' p d:=by
 obtain ⟨dx,tl,yl,al,as,kvs,h1,h2,h3,h4,h5,h6,h7,h8⟩:=r.at_
 exact ⟨⟨dx,tl,yl,al,as,kvs,s _ _ h1,s.sqT h2,s _ _ h3,s _ _ h4,s _ _ h5,h6,h7,h8⟩,r.l16,r.y16⟩
noncomputable def Bq (o:HO):Prop:=(∀ xs,o≠.tup xs)/\∀ ob u,o≠.frz ob u
theorem Co {K:W.Frag} {d a:Addr} {H H':Hp} {xs:List V} {o:HO} (f:Frm d H H') (hd:H d=some o) (no:Bq o) (h:SqT K H a xs):SqT K H' a xs:=by
 by_cases e:a=d
 ·subst e
  rcases h with (h | ⟨ob,h⟩) | h
  ·rw [hd] at h;exact absurd (Option.some.inj h) (no.1 _)
  ·rw [hd] at h;exact absurd (Option.some.inj h) (no.2 _ _)
  ·exact .inr h
 ·exact FW h fun o k=>f _ _ e k
theorem GF {kvs:List (Key × V)}:Bq (.dK kvs):=⟨(fun _ z=>nomatch z),(fun _ _ z=>nomatch z)⟩
theorem DS {C dx:Addr} {fs:List (Str × V)}:Bq (.ins C dx fs):=⟨(fun _ z=>nomatch z),(fun _ _ z=>nomatch z)⟩
theorem RkAt.put {K:W.Frag} {C p d:Addr} {ls:List Int} {ys:List Nat} {H H':Hp} {kvs':List (Key × V)} (r:RkAt K C ls ys H p d) (f:Frm d H H') (hd:H' d=some (.dK kvs')) (m:Memo ls ys kvs'):RkAt K C ls ys H' p d:=by
 obtain ⟨dx,tl,yl,al,as,kvs,h1,h2,h3,h4,h5,h6,h7,h8⟩:=r.at_
 exact ⟨⟨dx,tl,yl,al,as,kvs',f _ _ (BA h1 h5 (by intro z;cases z)) h1,Co f h5 GF h2,f _ _ (BA h3 h5 (by intro z;cases z)) h3,f _ _ (BA h4 h5 (by intro z;cases z)) h4,hd,h6,h7,m⟩,r.l16,r.y16⟩
theorem Bd {t:Addr} {H H':Hp} (s:Same H H'):Frm t H H':=fun b o _ e=>s b o e
noncomputable def HN (K:W.Frag) (C:Addr):Sp:=fun vs H Q _=>match vs with
 | [.ref p,.int z]=>∃ ls ys d S,RkAt K C ls ys H p d/\z=(S:Nat)/\S < 2 ^ ls.length/\∀ b H',(b=true ↔ One (AF ls) S.testBit)->Same H H'->Q (.bl b) H'
 | _=>False
theorem GA:FnOk P w K mg base CX0 2 T.f_z13 T.d_z13 ["self","things"] (HN K T.C_Reckoner):=by
 have G_z52:=Qc (P:=P) (w:=w) (base:=base) T
 refine T.F_z13.ok Tc (fun vs H Q E h=>by unfold HN at h;split at h <;> first | rfl | exact h.elim) (fun cdv A outer s H vs Q E hr h=>?_)
 have hu:=AZ hr
 have hr_z52:=hr.mono (show 1<=_ by decide)
 unfold HN at h
 split at h
 rotate_left
 ·exact h.elim
 rename_i p z
 obtain ⟨ls,ys,d,S,R,e1,hS,q⟩:=h
 subst e1
 obtain ⟨dx,tl,yl,al,as,kvs,h1,h2,h3,h4,h5,h6,h7,h8⟩:=R.at_
 refine ⟨_,(@AI _ _ _ (@AN _ _ _ _ (Ar (Oz (K:=K) rfl) rfl T.z_any (by rfl) (AA (A5 (N':=["alike","things"]) (own:=1) (ix:=[1]) rfl (B6 (K:=K) (Ax T.cl_Reckoner T.na_Reckoner_alike (vv 0))) (by kernel_rfl) rfl rfl (by kernel_rfl) (fun c=>AX (i:=0) (show (["alike","things"]:List Str).Nodup by decide +kernel) rfl (by right)) (Ai (by decide)) (fun c=>Au) (fun c=>(AL G_z52 hr_z52 rfl T.m_z52 T.F_z52.kp T.b_z52 .nil AE (AA (vv 1) (AA (vv 0) AB))))) AB)))),?_⟩
 refine ⟨dx,_,_,h1,lk3 _ _ _ _,.inl ⟨⟨_,.of h4⟩,?_⟩⟩
 refine DK (xs:=iL as) (fun k zs H'=>Same H H'/\zs=((as.take k).map fun a=>decide (S &&& a=S)).map V.bl) ⟨Same.refl _,rfl⟩ (fun k zs H' _ ⟨s,_⟩=>s.sqL (.of h4)) (fun k zs H' hk ⟨_,e⟩=>by
  rw [At] at hk
  rw [e,List.length_map,List.length_map,List.length_take];exact Aj (by lia)) ?_ ?_
 ·rintro k x zs H' hx ⟨s1,rfl⟩
  obtain ⟨a,ha,_,rfl⟩:=Cu hx
  refine ⟨S,a,rfl,rfl,s1,?_⟩
  rw [List.take_add_one,ha,List.map_append,List.map_append]
  rfl
 ·rintro zs H' ⟨s1,rfl⟩ l hl
  rw [At,List.take_length]
  refine ⟨_,.of AD,q _ _ ?_ (s1.trans (Same.upd hl))⟩
  rw [List.any_map]
  exact h7 S hS
noncomputable def MD (K:W.Frag) (C:Addr):Sp:=fun vs H Q _=>match vs with
 | [.ref p,.int z,.int i,.bl ans]=>∃ ls ys d S j y,RkAt K C ls ys H p d/\z=(S:Nat)/\i=(j:Nat)/\ys[j]? = some y/\Q (.int ((if ans=true then S &&& y else S - (S &&& y):Nat):Int)) H
 | _=>False
theorem NG {ys:List Nat} {j y:Nat} (h:ys[j]? = some y):atI (iL ys) ((j:Nat):Int)=some (.int (y:Nat)):=BI rfl (by unfold iL;rw [List.getElem?_map,h];rfl)
theorem Fx:FnOk P w K mg base CX0 1 T.f_z21 T.d_z21 ["self","things","question","answer"] (MD K T.C_Reckoner):=by
 refine T.F_z21.ok sc_z21 (fun vs H Q E h=>by unfold MD at h;split at h <;> first | rfl | exact h.elim) (fun cdv A outer s H vs Q E hr h=>?_)
 have hu:=AZ hr
 match vs,h with
 | [.ref p,.int z,.int i,.bl ans],⟨ls,ys,d,S,j,y,R,e1,e2,hj,q⟩ =>
 subst e1 e2
 obtain ⟨dx,tl,yl,al,as,kvs,h1,h2,h3,h4,h5,h6,h7,h8⟩:=R.at_
 refine ⟨_,(@AG _ _ _ _ _ (@AM _ _ 4 _ _ _ _ sc_z21.nd rfl (by right) (AO FP (vv 1) (kIx (K:=K) (Ax T.cl_Reckoner T.na_Reckoner_yeses (vv 0)) (vv 2))) (by rfl) (by symm)) (@AI _ _ _ (@AN _ _ _ _ (Ec (Cy (vv 3)) (vv 4) (AO MC (vv 1) (vv 4)))))),?_⟩
 refine ⟨dx,_,_,h1,lk2 _ _ _ _,_,.int (y:Nat),.inl (.of h3),NG hj,?_⟩
 dsimp only [AR,LW]
 rw [Hh]
 cases ans with
 | true=>exact q
 | false =>
  have e:((S:Int) - ((S &&& y:Nat):Int))=((S - (S &&& y):Nat):Int):=by
   have:=Nat.and_le_left (n:=S) (m:=y)
   lia
  show Q (.int ((S:Int) - ((S &&& y:Nat):Int))) H
  rw [e]
  exact q
noncomputable def B1 (S y:Nat):Bool:=decide (0 < S &&& y) && decide (S &&& y < S)
noncomputable def BD (S:Nat) (ys:List Nat) (n:Nat):List Nat:=(List.range n).filter fun i=>B1 S (ys.getD i 0)
theorem Qk (S:Nat) (ys:List Nat) (n:Nat):BD S ys (n+1)=BD S ys n++(if B1 S (ys.getD n 0)=true then [n] else []):=by
 unfold BD
 rw [List.range_succ,List.filter_append]
 cases h:B1 S (ys.getD n 0) <;> simp only [List.filter_cons,List.filter_nil,h] <;> rfl
theorem ML (S:Nat) (ys:List Nat) (n:Nat):(BD S ys n).length<=n:=by
 have:=List.length_filter_le (fun i=>B1 S (ys.getD i 0)) (List.range n)
 rw [List.length_range] at this
 exact this
theorem FL (S y:Nat):B1 S y=true ↔ BX S.testBit y.testBit:=by
 unfold B1 BX
 rw [Bool.and_eq_true,decide_eq_true_eq,decide_eq_true_eq]
 have h1:0 < S &&& y ↔ ∃ k,S.testBit k=true/\y.testBit k=true:=by
  constructor
  ·intro h
   obtain ⟨k,hk⟩:=Nat.exists_testBit_of_ne_zero (Nat.pos_iff_ne_zero.mp h)
   rw [Nat.testBit_and,Bool.and_eq_true] at hk
   exact ⟨k,hk⟩
  ·rintro ⟨k,a,b⟩
   rcases Nat.eq_zero_or_pos (S &&& y) with z | z
   ·have:(S &&& y).testBit k=true:=by rw [Nat.testBit_and,a,b];rfl
    rw [z] at this
    simp at this
   ·exact z
 have h2:S &&& y < S ↔ ∃ k,S.testBit k=true/\y.testBit k=false:=by
  have hle:=Nat.and_le_left (n:=S) (m:=y)
  constructor
  ·intro h
   obtain ⟨k,hk⟩:=Nat.exists_testBit_of_ne_zero (show S - (S &&& y)≠0 by lia)
   rw [Fk,Bool.and_eq_true] at hk
   exact ⟨k,hk.1,by simpa using hk.2⟩
  ·rintro ⟨k,a,b⟩
   rcases Nat.lt_or_ge (S &&& y) S with z | z
   ·exact z
   ·have e:S &&& y=S:=by lia
    have:(S &&& y).testBit k=true:=by rw [e];exact a
    rw [Nat.testBit_and,b] at this
    simp at this
 rw [h1,h2]
noncomputable def GG (K:W.Frag) (C:Addr):Sp:=fun vs H Q _=>match vs with
 | [.ref p,.int z]=>∃ ls ys d S,RkAt K C ls ys H p d/\z=(S:Nat)/\Eb H Q (iL (BD S ys ys.length))
 | _=>False
theorem LG:FnOk P w K mg base CX0 1 T.f_z22 T.d_z22 ["self","things"] (GG K T.C_Reckoner):=by
 refine T.F_z22.ok Mw (fun vs H Q E h=>by unfold GG at h;split at h <;> first | rfl | exact h.elim) (fun cdv A outer s H vs Q E hr h=>?_)
 have hu:=AZ hr
 unfold GG at h
 split at h
 rotate_left
 ·exact h.elim
 rename_i p z
 obtain ⟨ls,ys,d,S,R,e1,q⟩:=h
 subst e1
 obtain ⟨dx,tl,yl,al,as,kvs,h1,h2,h3,h4,h5,h6,h7,h8⟩:=R.at_
 have y16:=R.y16
 refine ⟨_,(@AI _ _ _ (@AN _ _ _ _ (@A5 _ _ _ _ _ _ _ (["question","yes","things"]) 2 [1] _ _ _ _ rfl (MQ (K:=K) rfl T.z_enumerate (AA (Ax T.cl_Reckoner T.na_Reckoner_yeses (vv 0)) AB)) (by kernel_rfl) rfl rfl (by kernel_rfl) (fun c=>FR (K:=K) (n:=2) rfl (CC (AX (i:=0) (show (["question","yes","things"]:List Str).Nodup by decide +kernel) rfl (by right)) (CC (AX (i:=1) (show (["question","yes","things"]:List Str).Nodup by decide +kernel) rfl (by right)) Ei))) (E1 (Ck Bp (EN Bp CK) (Ai (by decide)) (Ck Bp CK (Ai (by decide)) FS))) (fun c=>FY (LK Cd Cd AC (AO FP (vv 2) (vv 1)) (vv 2))) (fun c=>(vv 0)) (by intro _;rfl)))),?_⟩
 refine ⟨dx,_,_,h1,lk2 _ _ _ _,⟨_,.of h3⟩,?_⟩
 refine Rn (xs:=iL ys) (fun i zs H'=>Same H H'/\zs=iL (BD S ys i)) ⟨Same.refl _,rfl⟩ (fun i zs H' _ ⟨s,_⟩=>s.sqL (.of h3)) (fun i zs H' hi ⟨_,e⟩=>by
  rw [At] at hi
  have:=ML S ys i
  rw [e,At];exact Aj (by lia)) ?_ ?_
 ·rintro i x zs H2 pp hx ⟨s2,rfl⟩ hpp
  obtain ⟨y,hy,_,rfl⟩:=Cu hx
  refine ⟨pp,_,rfl,.of AD,rfl,_,_,rfl,_,_,rfl,rfl,?_⟩
  have eg:ys.getD i 0=y:=by rw [List.getD_eq_getElem?_getD,hy];rfl
  rw [Qk,CS,eg]
  have s3:=s2.trans (Same.upd (o:=.tup [.int (i:Nat),.int (y:Nat)]) hpp)
  have eb:Builtin.bitAnd (S:Int) (y:Int)=((S &&& y:Nat):Int):=Hh ..
  refine An (fun e=>?_) (fun e=>?_)
  ·rw [eb] at e
   have e':0 < S &&& y:=by have:=of_decide_eq_true e;lia
   refine An (fun f=>?_) (fun f=>?_)
   ·rw [eb] at f
    have f':S &&& y < S:=by have:=of_decide_eq_true f;lia
    rw [if_pos (show B1 S y=true by unfold B1;rw [decide_eq_true e',decide_eq_true f'];rfl)]
    exact ⟨s3,rfl⟩
   ·rw [eb] at f
    have f':¬ S &&& y < S:=fun q=>f (decide_eq_true (by lia))
    rw [if_neg (show ¬ B1 S y=true by unfold B1;rw [decide_eq_false f',Bool.and_false];simp)]
    exact ⟨s3,by show _=_++[];rw [List.append_nil]⟩
  ·rw [eb] at e
   have e':¬ 0 < S &&& y:=fun q=>e (decide_eq_true (by lia))
   rw [if_neg (show ¬ B1 S y=true by unfold B1;rw [decide_eq_false e',Bool.false_and];simp)]
   exact ⟨s3,by show _=_++[];rw [List.append_nil]⟩
 ·rintro zs H2 ⟨s2,rfl⟩ l hl
  rw [At]
  exact q l _ (s2.free hl) (s2.trans (Same.upd hl)) AD
noncomputable def BN (K:W.Frag) (C:Addr) (c:Nat):Sp:=fun vs H Q _=>match vs with
 | [.ref p,.int z]=>∃ ls ys d S,RkAt K C ls ys H p d/\z=(S:Nat)/\S < 2 ^ ls.length/\(∃ n,Can (AF ls) (AT ys) n S.testBit)/\Ah ls.length S.testBit < c/\∀ (m:Nat) H',Ao (AF ls) (AT ys) S.testBit m->RkAt K C ls ys H' p d->Frm d H H'->Q (.int (m:Nat)) H'
 | _=>False
theorem Ji {C:Addr} {c:Nat}:Ac (BN K C c):=fun vs H Q Q' E h q=>by
 unfold BN at *
 split at q
 ·revert q;repeat' first | exact h _ _ | exact Be h | exact out_mono h | exact outT_mono h | walk_at "m"
 ·exact q.elim
noncomputable def Gc (K:W.Frag) (C:Addr) (c:Nat):Sp:=fun vs H Q _=>match vs with
 | [.ref p,.int z,.int i]=>∃ ls ys d S j y,RkAt K C ls ys H p d/\z=(S:Nat)/\S < 2 ^ ls.length/\(∃ n,Can (AF ls) (AT ys) n S.testBit)/\i=(j:Nat)/\ys[j]? = some y/\BX S.testBit y.testBit/\Ah ls.length S.testBit < c+1 /\
  ∀ (b e X:Nat) H',Ao (AF ls) (AT ys) (S &&& y).testBit b->Ao (AF ls) (AT ys) (S - (S &&& y)).testBit e->(X=S &&& y/\e < b\/X=S - (S &&& y)/\b<=e)->RkAt K C ls ys H' p d->Frm d H H'->Q (.int (X:Nat)) H'
 | _=>False
noncomputable def D6 (K:W.Frag) (C:Addr) (c:Nat):Sp:=fun vs H Q _=>match vs with
 | [.ref p,.int z,.int i]=>∃ ls ys d S j y,RkAt K C ls ys H p d/\z=(S:Nat)/\S < 2 ^ ls.length/\(∃ n,Can (AF ls) (AT ys) n S.testBit)/\i=(j:Nat)/\ys[j]? = some y/\BX S.testBit y.testBit/\Ah ls.length S.testBit < c+1 /\
  ∀ (b e:Nat) H',Ao (AF ls) (AT ys) (S &&& y).testBit b->Ao (AF ls) (AT ys) (S - (S &&& y)).testBit e->RkAt K C ls ys H' p d->Frm d H H'->Q (.int (max b e:Nat)) H'
 | _=>False
theorem Gu {ls:List Int} {ys:List Nat} {S y n c:Nat} (hS:S < 2 ^ ls.length) (hc:Can (AF ls) (AT ys) n S.testBit) (hp:BX S.testBit y.testBit) (hk:Ah ls.length S.testBit < c+1) :
 (S &&& y < 2 ^ ls.length/\Can (AF ls) (AT ys) n (S &&& y).testBit/\Ah ls.length (S &&& y).testBit < c)/\S - (S &&& y) < 2 ^ ls.length/\Can (AF ls) (AT ys) n (S - (S &&& y)).testBit/\Ah ls.length (S - (S &&& y)).testBit < c:=by
 obtain ⟨c1,c2⟩:=HK (fun k hk=>CZ hS hk) hp
 have hle:=Nat.and_le_left (n:=S) (m:=y)
 rw [Cb,Ce]
 exact ⟨⟨by lia,CH (fun k z=>by simp only [Bool.and_eq_true] at z;exact z.1) hc,by lia⟩,by lia,CH (fun k z=>by simp only [Bool.and_eq_true] at z;exact z.1) hc,by lia⟩
theorem Q3 (c:Nat) (G_z15:FnOk P w K mg base CX0 (4 * c+4) T.f_z15 T.d_z15 ["self","things"] (BN K T.C_Reckoner c)) :
 FnOk P w K mg base CX0 (4 * c+5) T.f_z17 T.d_z17 ["self","things","question"] (Gc K T.C_Reckoner c):=by
 have G_z21:=Fx (P:=P) (w:=w) (base:=base) T
 refine T.F_z17.ok sc_z17 (fun vs H Q E h=>by unfold Gc at h;split at h <;> first | rfl | exact h.elim) (fun cdv A outer s H vs Q E hr h=>?_)
 have hu:=AZ hr
 have hr_z21:=hr.mono (show 1<=4 * c+4 by lia)
 have hr_z15:=hr
 unfold Gc at h
 split at h
 rotate_left
 ·exact h.elim
 rename_i p z i
 obtain ⟨ls,ys,d,S,j,y,R,e1,hS,⟨n,hc⟩,e2,hj,hp,hk,q⟩:=h
 subst e1 e2
 obtain ⟨⟨a1,a2,a3⟩,b1,b2,b3⟩:=Gu hS hc hp hk
 obtain ⟨dx,tl,yl,al,as,kvs,h1,_⟩:=id R.at_
 refine ⟨_,(@AG _ _ _ _ _ (@AM _ _ 3 _ _ _ _ sc_z17.nd rfl (by right) (Al (vv 0) T.cl_Reckoner T.me_z21 G_z21 hr_z21 T.b_z21 .nil AE (AA (vv 1) (AA (vv 2) (AA Bm AB)))) (by rfl) (by symm)) (@AG _ _ _ _ _ (@AM _ _ 4 _ _ _ _ sc_z17.nd rfl (by right) (Al (vv 0) T.cl_Reckoner T.me_z21 G_z21 hr_z21 T.b_z21 .nil AE (AA (vv 1) (AA (vv 2) (AA Bm AB)))) (by rfl) (by symm)) (@AI _ _ _ (@AN _ _ _ _ (Ec (Ag EW (Al (vv 0) T.cl_Reckoner T.me_z15 G_z15 hr_z15 T.b_z15 .nil AE (AA (vv 4) AB)) (Al (vv 0) T.cl_Reckoner T.me_z15 G_z15 hr_z15 T.b_z15 .nil AE (AA (vv 3) AB))) (vv 4) (vv 3)))))),?_⟩
 refine ⟨p,dx,_,rfl,h1,ln7 _ _ _ _,ls,ys,d,S,j,y,R,rfl,rfl,hj,?_⟩
 dsimp only [AR]
 refine ⟨p,dx,_,rfl,h1,ln7 _ _ _ _,ls,ys,d,S,j,y,R,rfl,rfl,hj,?_⟩
 dsimp only [AR]
 refine ⟨p,dx,_,rfl,h1,ln1 _ _ _ _,ls,ys,d,S &&& y,R,rfl,a1,⟨n,a2⟩,a3,fun b H1 f1 R1 fr1=>?_⟩
 obtain ⟨dx1,tl1,yl1,al1,as1,kvs1,k1,_⟩:=id R1.at_
 refine ⟨p,dx1,_,rfl,k1,ln1 _ _ _ _,ls,ys,d,S - (S &&& y),R1,rfl,b1,⟨n,b2⟩,b3,fun e H2 f2 R2 fr2=>?_⟩
 refine An (fun x=>?_) (fun x=>?_)
 ·have x':e < b:=by have:=of_decide_eq_true x;lia
  exact q b e _ H2 f1 f2 (.inl ⟨rfl,x'⟩) R2 (fr1.trans fr2)
 ·have x':¬ e < b:=fun w=>x (decide_eq_true (by lia))
  exact q b e _ H2 f1 f2 (.inr ⟨rfl,by lia⟩) R2 (fr1.trans fr2)
theorem Iu (c:Nat) (G_z15:FnOk P w K mg base CX0 (4 * c+4) T.f_z15 T.d_z15 ["self","things"] (BN K T.C_Reckoner c)) :
 FnOk P w K mg base CX0 (4 * c+6) T.f_z14 T.d_z14 ["self","things","question"] (D6 K T.C_Reckoner c):=by
 have G_z17:=Q3 T c G_z15
 refine T.F_z14.ok N5 (fun vs H Q E h=>by unfold D6 at h;split at h <;> first | rfl | exact h.elim) (fun cdv A outer s H vs Q E hr h=>?_)
 have hu:=AZ hr
 have hr_z15:=hr.mono (show 4 * c+4<=4 * c+5 by lia)
 have hr_z17:=hr
 unfold D6 at h
 split at h
 rotate_left
 ·exact h.elim
 rename_i p z i
 obtain ⟨ls,ys,d,S,j,y,R,e1,hS,⟨n,hc⟩,e2,hj,hp,hk,q⟩:=h
 subst e1 e2
 obtain ⟨⟨a1,a2,a3⟩,b1,b2,b3⟩:=Gu hS hc hp hk
 obtain ⟨dx,tl,yl,al,as,kvs,h1,_⟩:=id R.at_
 refine ⟨_,(@AI _ _ _ (@AN _ _ _ _ (Al (vv 0) T.cl_Reckoner T.me_z15 G_z15 hr_z15 T.b_z15 .nil AE (AA (Al (vv 0) T.cl_Reckoner T.me_z17 G_z17 hr_z17 T.b_z17 .nil AE (AA (vv 1) (AA (vv 2) AB))) AB)))),?_⟩
 refine ⟨p,dx,_,rfl,h1,ln1 _ _ _ _,p,dx,_,rfl,h1,ln6 _ _ _ _,ls,ys,d,S,j,y,R,rfl,hS,⟨n,hc⟩,rfl,hj,hp,hk,fun b e X H1 f1 f2 hX R1 fr1=>?_⟩
 have X1:X < 2 ^ ls.length/\(∃ n,Can (AF ls) (AT ys) n X.testBit)/\Ah ls.length X.testBit < c/\∀ m,Ao (AF ls) (AT ys) X.testBit m->m=max b e:=by
  rcases hX with ⟨rfl,x⟩ | ⟨rfl,x⟩
  ·exact ⟨a1,⟨n,a2⟩,a3,fun m hm=>by rw [GZ hm f1];lia⟩
  ·exact ⟨b1,⟨n,b2⟩,b3,fun m hm=>by rw [GZ hm f2];lia⟩
 obtain ⟨x1,x2,x3,x4⟩:=X1
 refine ⟨ls,ys,d,X,R1,rfl,x1,x2,x3,fun m H2 hm R2 fr2=>?_⟩
 rw [x4 m hm]
 exact q b e H2 f1 f2 R2 (fr1.trans fr2)
noncomputable def E4 (ls:List Int) (ys:List Nat) (S:Nat) (qs ms:List Nat):Prop:=ms.length=qs.length/\∀ (t i:Nat),qs[t]? = some i->∃ b e,Ao (AF ls) (AT ys) (S &&& ys.getD i 0).testBit b/\Ao (AF ls) (AT ys) (S - (S &&& ys.getD i 0)).testBit e/\ms[t]? = some (max b e)
theorem Q0 {ls:List Int} {ys qs ms:List Nat} {S i b e:Nat} (h:E4 ls ys S qs ms) (f1:Ao (AF ls) (AT ys) (S &&& ys.getD i 0).testBit b) (f2:Ao (AF ls) (AT ys) (S - (S &&& ys.getD i 0)).testBit e):E4 ls ys S (qs++[i]) (ms++[max b e]):=by
 refine ⟨by rw [List.length_append,List.length_append,h.1];rfl,fun t i' ht=>?_⟩
 rcases Nat.lt_trichotomy t qs.length with z | z | z
 ·rw [List.getElem?_append_left z] at ht
  obtain ⟨b',e',g1,g2,g3⟩:=h.2 t i' ht
  exact ⟨b',e',g1,g2,by rw [List.getElem?_append_left (by rw [h.1];exact z)];exact g3⟩
 ·subst z
  rw [List.getElem?_append_right (Nat.le_refl _),Nat.sub_self] at ht
  cases ht
  exact ⟨b,e,f1,f2,by rw [<- h.1,List.getElem?_append_right (Nat.le_refl _),Nat.sub_self];rfl⟩
 ·rw [List.getElem?_append_right (Nat.le_of_lt z)] at ht
  rw [List.getElem?_eq_none (by simp;lia)] at ht
  cases ht
theorem DI {S i:Nat} {ys:List Nat} (h:i∈BD S ys ys.length):ys[i]? = some (ys.getD i 0)/\BX S.testBit (ys.getD i 0).testBit:=by
 obtain ⟨h1,h2⟩:=List.mem_filter.mp h
 have h1:=List.mem_range.mp h1
 refine ⟨?_,(FL _ _).mp h2⟩
 rw [List.getD_eq_getElem?_getD,List.getElem?_eq_getElem h1];rfl
theorem UM {ls:List Int} {ys ms:List Nat} {S M:Nat} (ho:¬ One (AF ls) S.testBit) (h:E4 ls ys S (BD S ys ys.length) ms) (h1:M∈ms) (h2:∀ a∈ms,M<=a):Ao (AF ls) (AT ys) S.testBit (1+M):=by
 refine LP ho ?_ ?_
 ·obtain ⟨t,ht,et⟩:=List.getElem_of_mem h1
  have ht':t < (BD S ys ys.length).length:=by rw [<- h.1];exact ht
  obtain ⟨b,e,g1,g2,g3⟩:=h.2 t _ (List.getElem?_eq_getElem ht')
  obtain ⟨y1,y2⟩:=DI (List.getElem_mem ht')
  rw [Cb] at g1
  rw [Ce] at g2
  refine ⟨_,List.mem_map.mpr ⟨_,List.mem_of_getElem? y1,rfl⟩,y2,b,e,g1,g2,?_⟩
  rw [List.getElem?_eq_getElem ht,et] at g3
  exact Option.some.inj g3
 ·intro f hf hp
  obtain ⟨y,hy,rfl⟩:=List.mem_map.mp hf
  obtain ⟨i,hi,ei⟩:=List.getElem_of_mem hy
  have eg:ys.getD i 0=y:=by rw [List.getD_eq_getElem?_getD,List.getElem?_eq_getElem hi,ei];rfl
  have him:i∈BD S ys ys.length:=List.mem_filter.mpr ⟨List.mem_range.mpr hi,(FL _ _).mpr (by rw [eg];exact hp)⟩
  obtain ⟨t,ht,et⟩:=List.getElem_of_mem him
  obtain ⟨b,e,g1,g2,g3⟩:=h.2 t i (by rw [List.getElem?_eq_getElem ht,et])
  rw [Cb,eg] at g1
  rw [Ce,eg] at g2
  exact ⟨b,e,g1,g2,h2 _ (List.mem_of_getElem? g3)⟩
theorem JC {ls:List Int} {ys:List Nat} {S n:Nat} (ho:¬ One (AF ls) S.testBit) (hc:Can (AF ls) (AT ys) n S.testBit):0 < (BD S ys ys.length).length:=by
 obtain ⟨f,hf,hp⟩:=HJ ho hc
 obtain ⟨y,hy,rfl⟩:=List.mem_map.mp hf
 obtain ⟨i,hi,ei⟩:=List.getElem_of_mem hy
 have eg:ys.getD i 0=y:=by rw [List.getD_eq_getElem?_getD,List.getElem?_eq_getElem hi,ei];rfl
 exact List.length_pos_of_mem (List.mem_filter.mpr ⟨List.mem_range.mpr hi,(FL _ _).mpr (by rw [eg];exact hp)⟩)
theorem QO (c:Nat) (G_z15:FnOk P w K mg base CX0 (4 * c+4) T.f_z15 T.d_z15 ["self","things"] (BN K T.C_Reckoner c)) :
 FnOk P w K mg base CX0 (4 * c+7) T.f_z11 T.d_z11 ["self","things"] (BN K T.C_Reckoner (c+1)):=by
 have G_z14:=Iu T c G_z15
 have G_z13:=GA (P:=P) (w:=w) (base:=base) T
 have G_z22:=LG (P:=P) (w:=w) (base:=base) T
 refine T.F_z11.ok Nj (fun vs H Q E h=>by unfold BN at h;split at h <;> first | rfl | exact h.elim) (fun cdv A outer s H vs Q E hr h=>?_)
 have hu:=AZ hr
 have hr_z14:=hr
 have hr_z13:=hr.mono (show 2<=4 * c+6 by lia)
 have hr_z22:=hr.mono (show 1<=4 * c+6 by lia)
 unfold BN at h
 split at h
 rotate_left
 ·exact h.elim
 rename_i p z
 obtain ⟨ls,ys,d,S,R,e1,hS,⟨n,hc⟩,hk,q⟩:=h
 subst e1
 obtain ⟨dx,tl,yl,al,as,kvs,h1,_,_,_,hd,_⟩:=id R.at_
 have l16:=R.l16
 have y16:=R.y16
 refine ⟨_,(@AG _ _ _ _ _ (@Aw _ _ _ _ _ _ _ _ (Cy (Al (vv 0) T.cl_Reckoner T.me_z13 G_z13 hr_z13 T.b_z13 .nil AE (AA (vv 1) AB))) (@AI _ _ _ (@AN _ _ _ _ AC)) Av) (@AI _ _ _ (@AN _ _ _ _ (AO (BG (K:=K)) AC (Ar (N2 (K:=K) rfl) rfl T.z_min (by rfl) (AA (A5 (N':=["question","self","things"]) (own:=1) (ix:=[0,1]) rfl (B6 (K:=K) (Al (vv 0) T.cl_Reckoner T.me_z22 G_z22 hr_z22 T.b_z22 .nil AE (AA (vv 1) AB))) (by kernel_rfl) rfl rfl (by kernel_rfl) (fun c=>AX (i:=0) (show (["question","self","things"]:List Str).Nodup by decide +kernel) rfl (by right)) (Ai (by decide)) (fun c=>Au) (fun c=>(Al (vv 1) T.cl_Reckoner T.me_z14 G_z14 hr_z14 T.b_z14 .nil AE (AA (vv 2) (AA (vv 0) AB))))) AB)))))),?_⟩
 refine ⟨p,dx,_,rfl,h1,ln3 _ _ _ _,ls,ys,d,S,R,rfl,hS,fun b H1 hb s1=>?_⟩
 have R1:=R.same s1
 have hd1:=s1 _ _ hd
 cases b with
 | true=>exact q 0 H1 ⟨hb.mp rfl,fun _ _=>Nat.zero_le _⟩ R1 (Bd s1)
 | false =>
  have ho:¬ One (AF ls) S.testBit:=fun o=>nomatch hb.mpr o
  refine ⟨p,dx,_,rfl,s1 _ _ h1,ln5 _ _ _ _,ls,ys,d,S,R1,rfl,fun l H2 hl s2 g2=>.inl ⟨⟨_,.of g2⟩,?_⟩⟩
  have R2:=R1.same s2
  have hd2:=s2 _ _ hd1
  have hld:l≠d:=BA g2 hd2 (by intro z;cases z)
  have hlen:=ML S ys ys.length
  refine DK (xs:=iL (BD S ys ys.length)) (fun k zs H'=>RkAt K T.C_Reckoner ls ys H' p d/\Frm d H2 H'/\∃ ms,zs=iL ms/\E4 ls ys S ((BD S ys ys.length).take k) ms) ⟨R2,Frm.refl,[],rfl,rfl,fun t i ht=>by simp at ht⟩ (fun k zs H' _ ⟨_,f,_⟩=>.of (f _ _ hld g2)) (fun k zs H' hk' ⟨_,_,ms,e,hw⟩=>by
   rw [At] at hk'
   rw [e,At,hw.1,List.length_take];exact Aj (by lia)) ?_ ?_
  ·rintro k x zs H' hx ⟨R',f',ms,rfl,hw⟩
   obtain ⟨i,hi,him,rfl⟩:=Cu hx
   obtain ⟨y1,y2⟩:=DI him
   obtain ⟨dx',tl',yl',al',as',kvs',k1,_⟩:=id R'.at_
   refine ⟨p,dx',_,rfl,k1,ln4 _ _ _ _,ls,ys,d,S,i,_,R',rfl,hS,⟨n,hc⟩,rfl,y1,y2,hk,fun b e H3 g1 g2' R3 f3=>?_⟩
   refine ⟨R3,f'.trans f3,ms++[max b e],by rw [CS];rfl,?_⟩
   rw [List.take_add_one,hi]
   exact Q0 hw g1 g2'
  ·rintro zs H' ⟨R',f',ms,rfl,hw⟩ l2 hl2
   rw [At,List.take_length] at hw
   refine ⟨ms.map fun m=>((m:Nat):Int),by rw [List.map_map];exact .of AD,by rw [List.length_map,hw.1];exact JC ho hc,fun M hM hle=>?_⟩
   obtain ⟨M',hM',rfl⟩:=List.mem_map.mp hM
   have fm:=UM ho hw hM' (fun a ha=>by have:=hle _ (List.mem_map.mpr ⟨a,ha,rfl⟩);lia)
   have sl:Same H' (upd H' l2 (.lst (iL ms))):=Same.upd hl2
   have e:(1:Int)+((M':Nat):Int)=((1+M':Nat):Int):=by lia
   show Q (.int (1+((M':Nat):Int))) _
   rw [e]
   exact q (1+M') _ fm (R'.same sl) ((Bd s1).trans ((Bd s2).trans (f'.trans (Bd sl))))
theorem RK (c:Nat) (G_z15:FnOk P w K mg base CX0 (4 * c+4) T.f_z15 T.d_z15 ["self","things"] (BN K T.C_Reckoner c)) :
 FnOk P w K mg base CX0 (4 * (c+1)+4) T.f_z15 T.d_z15 ["self","things"] (BN K T.C_Reckoner (c+1)):=by
 have G_z11:=QO T c G_z15
 refine T.F_z15.ok QL (fun vs H Q E h=>by unfold BN at h;split at h <;> first | rfl | exact h.elim) (fun cdv A outer s H vs Q E hr h=>?_)
 have hu:=AZ hr
 have hr_z11:=hr.mono (show 4 * c+7<=4 * (c+1)+3 by lia)
 unfold BN at h
 split at h
 rotate_left
 ·exact h.elim
 rename_i p z
 obtain ⟨ls,ys,d,S,R,e1,hS,hc,hk,q⟩:=h
 subst e1
 obtain ⟨dx,tl,yl,al,as,kvs,h1,h2,h3,h4,hd,h6,h7,h8⟩:=id R.at_
 have mono1:Ac (BN K T.C_Reckoner (c+1)):=Ji
 refine ⟨_,(@AG _ _ _ _ _ (@Aw _ _ _ _ _ _ _ _ (Ag (JE hu) (vv 1) (Ax T.cl_Reckoner T.na_Reckoner_known (vv 0))) (@AI _ _ _ (@K1 _ _ _ _ _ _ _ _ _ (FB hu) (Ax T.cl_Reckoner T.na_Reckoner_known (vv 0)) (vv 1) (Al (vv 0) T.cl_Reckoner T.me_z11 G_z11 hr_z11 T.b_z11 .nil AE (AA (vv 1) AB)) (by rfl))) Av) (@AI _ _ _ (@AN _ _ _ _ (PB (FB hu) (Ax T.cl_Reckoner T.na_Reckoner_known (vv 0)) (vv 1) (by intro _ _;rfl))))),?_⟩
 refine Ak (fun σ H1=>σ=[some (.ref p),some (.int (S:Nat))]/\RkAt K T.C_Reckoner ls ys H1 p d/\Frm d H H1/\∃ (kvs':List (Key × V)) (m:Nat),H1 d=some (.dK kvs')/\valV kvs' (Sum.inl (S:Int):Key)=some (.int m)/\Ao (AF ls) (AT ys) S.testBit m) ?_ ?_ (by walk_at "sm")
 ·refine ⟨dx,_,_,h1,lk4 _ _ _ _,valV kvs (Sum.inl (S:Int):Key),DGet.k (k:=Sum.inl (S:Int)) hd,?_⟩
  cases e:valV kvs (Sum.inl (S:Int):Key) with
  | some v =>
   obtain ⟨m,rfl,hm⟩:=h8.get e
   exact ⟨rfl,R,Frm.refl,kvs,m,hd,e,hm⟩
  | none =>
   refine ⟨p,dx,_,rfl,h1,ln2 _ _ _ _,ls,ys,d,S,R,rfl,hS,hc,hk,fun m H1 hm R1 f1=>?_⟩
   obtain ⟨dx1,tl1,yl1,al1,as1,kvs1,k1,_,_,_,k5,_,_,k8⟩:=id R1.at_
   refine ⟨dx1,_,_,k1,lk4 _ _ _ _,d,_,rfl,DPut.k (k:=Sum.inl (S:Int)) k5 (k8.len R.l16),?_⟩
   have fu:Frm d H1 (upd H1 d (.dK (BJ kvs1 (Sum.inl (S:Int):Key) (V.int m)))):=Frm.updT
   exact ⟨rfl,R1.put fu AD (k8.put hS hm),f1.trans fu,_,m,AD,by rw [Rp,if_pos rfl],hm⟩
 ·rintro σ H1 ⟨rfl,R1,f1,kvs',m,hd1,hv,hm⟩
  obtain ⟨dx1,tl1,yl1,al1,as1,kvs1,k1,_⟩:=id R1.at_
  refine ⟨dx1,_,_,k1,lk4 _ _ _ _,d,.int m,rfl,?_,q m H1 hm R1 f1⟩
  rw [<- hv]
  exact DGet.k (k:=Sum.inl (S:Int)) hd1
theorem GO:∀ c:Nat,FnOk P w K mg base CX0 (4 * c+4) T.f_z15 T.d_z15 ["self","things"] (BN K T.C_Reckoner c)
 | 0=>by
  have no:∀ vs H Q E,¬ BN K T.C_Reckoner 0 vs H Q E:=fun vs H Q E h=>by
   unfold BN at h
   split at h
   ·obtain ⟨ls,ys,d,S,_,_,_,_,z,_⟩:=h;exact absurd z (Nat.not_lt_zero _)
   ·exact h
  exact ⟨fun vs H Q E h=>(no _ _ _ _ h).elim,fun A outer s H args us vs Q E _ _ _ _ h=>(no _ _ _ _ h).elim⟩
 | c+1=>RK T c (GO c)
theorem FX:FnOk P w K mg base CX0 72 T.f_z15 T.d_z15 ["self","things"] (BN K T.C_Reckoner 17):=GO T 17
noncomputable def Eh:Sp:=fun vs H Q _=>match vs with
 | [.ref t,.int n]=>∃ m N:Nat,GFeed H t N/\N<=900000000/\n=m/\1<=m/\m<=4/\∀ (bs:List Bool) p H',bs.length=2 ^ m->H p=none->H' p=some (.tup (bs.map V.bl))->GFeed H' t (N+18)->Frm t H H'->Q (.ref p) H'
 | _=>False
theorem OC:Ac Eh:=fun vs H Q Q' E h q=>by
 unfold Eh at *
 split at q
 ·revert q;repeat' first | exact h _ _ | exact Be h | exact out_mono h | exact outT_mono h | walk_at "m"
 ·exact q.elim
theorem AY {t:Addr} {H H':Hp} (h:∀ b,b≠t->H' b=H b):Frm t H H':=fun b o n e=>by rw [h b n];exact e
theorem JY:FnOk P w K mg base CX0 2 T.f_z40 T.d_z40 ["_law_feed_here","_law_n"] Eh:=by
 have G_z46:=Di (P:=P) (w:=w) (base:=base) T
 refine T.F_z40.ok sc_z40 (fun vs H Q E h=>by unfold Eh at h;split at h <;> first | rfl | exact h.elim) (fun cdv A outer s H vs Q E hr h=>?_)
 have hu:=AZ hr
 have hr_z46:=hr.mono (show 1<=_ by decide)
 unfold Eh at h
 split at h
 rotate_left
 ·exact h.elim
 rename_i t n
 obtain ⟨m,N,F,hN,e1,m1,m4,q⟩:=h
 subst e1
 refine ⟨_,(@AG _ _ _ _ _ (@AM _ _ 2 _ _ _ _ sc_z40.nd rfl (by right) (AO IR AC (vv 1)) (by rfl) (by symm)) (@AG _ _ _ _ _ (@AM _ _ 3 _ _ _ _ sc_z40.nd rfl (by right) (AL G_z46 hr_z46 rfl T.m_z46 T.F_z46.kp T.b_z46 .nil AE (AA (vv 0) (AA AC AB))) (by rfl) (by symm)) (@AG _ _ _ _ _ (@Aw _ _ _ _ _ _ _ _ (Ag Cd (vv 3) AC) (@AI _ _ _ (@AN _ _ _ _ (As (BB (K:=K)) rfl T.z_tuple (by rfl) (AA (A5 (N':=["_law_k","_law_feed_here"]) (own:=1) (ix:=[0]) rfl (Ay rfl T.z_range (AA (vv 2) AB)) (by kernel_rfl) rfl rfl (by kernel_rfl) (fun c=>AX (i:=0) (show (["_law_k","_law_feed_here"]:List Str).Nodup by decide +kernel) rfl (by right)) (Ai (by decide)) (fun c=>Au) (fun c=>(Bh (kEq (K:=K) hu) (AL G_z46 hr_z46 rfl T.m_z46 T.F_z46.kp T.b_z46 .nil AE (AA (vv 1) (AA AC AB))) AC))) AB)))) Av) (@AG _ _ _ _ _ (@Aw _ _ _ _ _ _ _ _ (Ag (kEq (K:=K) hu) (vv 3) AC) (@AG _ _ _ _ _ (@AM _ _ 4 _ _ _ _ sc_z40.nd rfl (by right) (AL G_z46 hr_z46 rfl T.m_z46 T.F_z46.kp T.b_z46 .nil AE (AA (vv 0) (AA (vv 2) AB))) (by rfl) (by symm)) (@AI _ _ _ (@AN _ _ _ _ (As (BB (K:=K)) rfl T.z_tuple (by rfl) (AA (A5 (N':=["_law_k","_law_place"]) (own:=1) (ix:=[4]) rfl (Ay rfl T.z_range (AA (vv 2) AB)) (by kernel_rfl) rfl rfl (by kernel_rfl) (fun c=>AX (i:=0) (show (["_law_k","_law_place"]:List Str).Nodup by decide +kernel) rfl (by right)) (Ai (by decide)) (fun c=>Au) (fun c=>(Bh (kEq (K:=K) hu) (vv 0) (vv 1)))) AB))))) Av) (@AG _ _ _ _ _ (@Aw _ _ _ _ _ _ _ _ (Ag (kEq (K:=K) hu) (vv 3) AC) (@AG _ _ _ _ _ (@AM _ _ 5 _ _ _ _ sc_z40.nd rfl (by right) (AL G_z46 hr_z46 rfl T.m_z46 T.F_z46.kp T.b_z46 .nil AE (AA (vv 0) (AA (vv 1) AB))) (by rfl) (by symm)) (@AI _ _ _ (@AN _ _ _ _ (As (BB (K:=K)) rfl T.z_tuple (by rfl) (AA (A5 (N':=["_law_k","_law_one"]) (own:=1) (ix:=[5]) rfl (Ay rfl T.z_range (AA (vv 2) AB)) (by kernel_rfl) rfl rfl (by kernel_rfl) (fun c=>AX (i:=0) (show (["_law_k","_law_one"]:List Str).Nodup by decide +kernel) rfl (by right)) (Ai (by decide)) (fun c=>Au) (fun c=>(Bh (kEq (K:=K) hu) (AO FP (AO Qf (vv 0) (vv 1)) AC) AC))) AB))))) Av) (@AG _ _ _ _ _ (@AM _ _ 6 _ _ _ _ sc_z40.nd rfl (by right) (Bh (kEq (K:=K) hu) (AL G_z46 hr_z46 rfl T.m_z46 T.F_z46.kp T.b_z46 .nil AE (AA (vv 0) (AA AC AB))) AC) (by rfl) (by symm)) (@AI _ _ _ (@AN _ _ _ _ (As (BB (K:=K)) rfl T.z_tuple (by rfl) (AA (A5 (N':=["_law_k","_law_answer"]) (own:=1) (ix:=[6]) rfl (Ay rfl T.z_range (AA (vv 2) AB)) (by kernel_rfl) rfl rfl (by kernel_rfl) (fun c=>AX (i:=0) (show (["_law_k","_law_answer"]:List Str).Nodup by decide +kernel) rfl (by right)) (Ai (by decide)) (fun c=>Au) (fun c=>(vv 1))) AB)))))))))),?_⟩
 have e2:(1:Int) * 2 ^ ((m:Int).toNat)=((2 ^ m:Nat):Int):=by rw [Int.toNat_natCast,Int.natCast_pow,Int.one_mul];rfl
 have h16:2 ^ m<=16:=Nat.pow_le_pow_right (n:=2) (by decide) m4
 have h2:2<=2 ^ m:=Nat.pow_le_pow_right (n:=2) (i:=1) (by decide) m1
 refine ⟨⟨by lia,by lia,by decide⟩,?_⟩
 rw [e2]
 generalize hM:2 ^ m=M at *
 have hMd:okDiv (M:Int):=Am (by lia) (Int.le_trans (Int.ofNat_le.mpr h16) (by decide))
 have fin:∀ (N':Nat) (H1:Hp) (bs:List Bool) (l:Addr),GFeed H1 t N'->N'<=N+18->Frm t H H1->bs.length=M->H1 l=none->∃ ys,(SqL K (upd H1 l (.lst (bs.map V.bl))) l ys/\∀ p,upd H1 l (.lst (bs.map V.bl)) p=none->Q (.ref p) (upd (upd H1 l (.lst (bs.map V.bl))) p (.tup ys)))\/(SqT K (upd H1 l (.lst (bs.map V.bl))) l ys/\Q (.ref l) (upd H1 l (.lst (bs.map V.bl)))):=by
  intro N' H1 bs l F1 hN' fr hb hl
  refine ⟨_,.inl ⟨.of AD,fun p hp=>?_⟩⟩
  have f2:Frm t H (upd H1 l (.lst (bs.map V.bl))):=fr.trans (Frm.upd hl)
  have F2:=F1.upd (o:=.lst (bs.map V.bl)) hl
  exact q bs p _ hb (F2.free f2 hp) AD ((F2.upd hp).mono (by lia)) (f2.trans (Frm.upd hp))
 refine ⟨N,F,by lia,Am (by decide) (by decide),fun way H2 w0 w1 F2 f2=>?_⟩
 dsimp only [AR]
 refine An (fun e=>?_) (fun e=>?_)
 ·refine ⟨(M:Int),rfl,by lia,by lia,?_⟩
  refine BU (fun i ys H'=>GFeed H' t (N+1+i)/\Frm t H H'/\∃ bs:List Bool,ys=bs.map V.bl/\bs.length=i) ⟨F2,AY f2,[],rfl,rfl⟩ (fun i ys H' hi ⟨_,_,bs,e,el⟩=>by
   rw [e];exact Aj (by rw [List.length_map];lia)) ?_ ?_
  ·rintro i ys H' hi ⟨Fi,fi,bs,rfl,rfl⟩
   refine ⟨_,Fi,by lia,Am (by decide) (by decide),fun d H3 _ _ F3 f3=>?_⟩
   exact ⟨F3.mono (by lia),fi.trans (AY f3),bs++[(false ^^ (d == 1))],by rw [List.map_append];rfl,by rw [List.length_append];rfl⟩
  ·rintro ys H' ⟨Fi,fi,bs,rfl,hb⟩ l' hl
   exact fin _ _ bs l' Fi (by lia) fi (by lia) hl
 dsimp only [Bj]
 refine An (fun e=>?_) (fun e=>?_)
 ·refine ⟨_,F2,by lia,hMd,fun pl H3 p0 p1 F3 f3=>?_⟩
  dsimp only [AR]
  refine ⟨(M:Int),rfl,by lia,by lia,?_⟩
  refine BU (fun i ys H'=>H'=H3/\∃ bs:List Bool,ys=bs.map V.bl/\bs.length=i) ⟨rfl,[],rfl,rfl⟩ (fun i ys H' hi ⟨_,bs,e,el⟩=>by
   rw [e];exact Aj (by rw [List.length_map];lia)) ?_ ?_
  ·rintro i ys H' hi ⟨rfl,bs,rfl,rfl⟩
   exact ⟨rfl,bs++[(false ^^ ((0+(bs.length:Int)) == pl))],by rw [List.map_append];rfl,by rw [List.length_append];rfl⟩
  ·rintro ys H' ⟨rfl,bs,rfl,hb⟩ l' hl
   exact fin _ _ bs l' F3 (by lia) ((AY f2).trans (AY f3)) (by lia) hl
 dsimp only [Bj]
 refine An (fun e=>?_) (fun e=>?_)
 ·refine ⟨_,F2,by lia,Am (by lia) (by lia),fun on H3 p0 p1 F3 f3=>?_⟩
  dsimp only [AR]
  refine ⟨(M:Int),rfl,by lia,by lia,?_⟩
  refine BU (fun i ys H'=>H'=H3/\∃ bs:List Bool,ys=bs.map V.bl/\bs.length=i) ⟨rfl,[],rfl,rfl⟩ (fun i ys H' hi ⟨_,bs,e,el⟩=>by
   rw [e];exact Aj (by rw [List.length_map];lia)) ?_ ?_
  ·rintro i ys H' hi ⟨rfl,bs,rfl,rfl⟩
   refine ⟨p0,?_⟩
   exact ⟨rfl,bs++[_],by rw [List.map_append];rfl,by rw [List.length_append];rfl⟩
  ·rintro ys H' ⟨rfl,bs,rfl,hb⟩ l' hl
   exact fin _ _ bs l' F3 (by lia) ((AY f2).trans (AY f3)) (by lia) hl
 dsimp only [Bj]
 refine ⟨_,F2,by lia,Am (by decide) (by decide),fun an H3 p0 p1 F3 f3=>?_⟩
 dsimp only [AR,mEq]
 refine ⟨(M:Int),rfl,by lia,by lia,?_⟩
 refine BU (fun i ys H'=>H'=H3/\∃ bs:List Bool,ys=bs.map V.bl/\bs.length=i) ⟨rfl,[],rfl,rfl⟩ (fun i ys H' hi ⟨_,bs,e,el⟩=>by
  rw [e];exact Aj (by rw [List.length_map];lia)) ?_ ?_
 ·rintro i ys H' hi ⟨rfl,bs,rfl,rfl⟩
  exact ⟨rfl,bs++[_],by rw [List.map_append];rfl,by rw [List.length_append];rfl⟩
 ·rintro ys H' ⟨rfl,bs,rfl,hb⟩ l' hl
  exact fin _ _ bs l' F3 (by lia) ((AY f2).trans (AY f3)) (by lia) hl
noncomputable def Bl (m i:Nat):List Bool:=(List.range (2 ^ m)).map fun p=>p / 2 ^ i % 2 == 1
noncomputable def G5 (bs:List Bool):List Dv:=bs.map fun b=>Dv.int (if b then 1 else 0)
noncomputable def Bf (bs:List Bool):List V:=bs.map fun b=>V.int (if b then 1 else 0)
noncomputable def By (m n:Nat):List Dv:=(List.range n).map fun i=>.tup ((Bl m i).map Dv.bl)
noncomputable def HY (bs:List Bool) (m:Nat):Dv:=.tup [.tup (G5 bs),.tup (By m m)]
theorem Ot (m i:Nat):(Bl m i).length=2 ^ m:=by unfold Bl;simp
theorem LC (m n:Nat):By m (n+1)=By m n++[.tup ((Bl m n).map Dv.bl)]:=by unfold By;rw [List.range_succ,List.map_append];rfl
theorem Jb (m n:Nat):(By m n).length=n:=by unfold By;simp
theorem MI {K:W.Frag} {H:Hp}:∀ bs:List Bool,Reps K H (G5 bs) (Bf bs)
 | []=>Af
 | b::bs=>Ab EV (MI bs)
theorem PF (bs:List Bool):(Bf bs).length=bs.length:=by unfold Bf;simp
theorem QH (bs cs:List Bool):Bf (bs++cs)=Bf bs++Bf cs:=by unfold Bf;simp
theorem La (m:Nat):∀ n,Aq (By m n)=true
 | 0=>rfl
 | n+1=>by
  rw [LC,Ja,La m n]
  unfold Aq BW
  rw [Hv]
  rfl
noncomputable def Px (K:W.Frag) (H:Hp) (Q:VK) (d:Dv):Prop:=∀ u H',Same H H'->Rep K H' d u->Q u H'
noncomputable def G8 (K:W.Frag):Sp:=fun vs H Q _=>match vs with
 | [.ref p]=>∃ (bs:List Bool) (m:Nat),SqT K H p (bs.map V.bl)/\bs.length=2 ^ m/\1<=m/\m<=4/\Px K H Q (HY bs m)
 | _=>False
theorem PP:FnOk P w K mg base CX0 1 T.f_z25 T.d_z25 ["_law_table_here"] (G8 K):=by
 refine T.F_z25.ok sc_z25 (fun vs H Q E h=>by unfold G8 at h;split at h <;> first | rfl | exact h.elim) (fun cdv A outer s H vs Q E hr h=>?_)
 have hu:=AZ hr
 unfold G8 at h
 split at h
 rotate_left
 ·exact h.elim
 rename_i p
 obtain ⟨bs,m,hp,hb,m1,m4,q⟩:=h
 have h16:2 ^ m<=16:=Nat.pow_le_pow_right (n:=2) (by decide) m4
 have hbl:(bs.map V.bl).length=2 ^ m:=by rw [List.length_map];exact hb
 refine ⟨_,(@AG _ _ _ _ _ (@AM _ _ 1 _ _ _ _ sc_z25.nd rfl (by right) (@BY _ _ _ _ AB) (by rfl) (by symm)) (@AG _ _ _ _ _ (@AM _ _ 2 _ _ _ _ sc_z25.nd rfl (by right) AC (by rfl) (by symm)) (@AG _ _ _ _ _ (@Gz _ _ _ _ _ _ PassesOwn.never (Ag Cd (vv 2) (Ar (Az (K:=K)) rfl T.z_len (by rfl) (AA (vv 0) AB))) (@AG _ _ _ _ _ (@CD _ _ _ _ (Gg (K:=K) (vv 1) (AA (As (BB (K:=K)) rfl T.z_tuple (by rfl) (AA (A5 (N':=["_law_k","_law_many"]) (own:=1) (ix:=[2]) rfl (Ay rfl T.z_range (AA (Ar (Az (K:=K)) rfl T.z_len (by rfl) (AA (vv 0) AB)) AB)) (by kernel_rfl) rfl rfl (by kernel_rfl) (fun c=>AX (i:=0) (show (["_law_k","_law_many"]:List Str).Nodup by decide +kernel) rfl (by right)) (Ai (by decide)) (fun c=>Au) (fun c=>(Bh (kEq (K:=K) hu) (AO Ci (AO Ej (vv 0) (vv 1)) AC) AC))) AB)) AB)) (by rfl)) (@AI _ _ _ (@AM _ _ 2 _ _ _ _ sc_z25.nd rfl (by right) (AO CM AC (vv 2)) (by rfl) (by symm))))) (@AI _ _ _ (@AN _ _ _ _ (Ba (AA (As (BB (K:=K)) rfl T.z_tuple (by rfl) (AA (@A5 _ _ _ _ _ _ _ ["_law_answer"] 1 [] _ _ _ _ rfl (B6 (K:=K) (vv 0)) (by kernel_rfl) rfl rfl (by kernel_rfl) (fun c=>AX (i:=0) (show (["_law_answer"]:List Str).Nodup by decide +kernel) rfl (by right)) (Ai (by decide)) (fun c=>Au) (fun c=>(As KW rfl T.z_int (by rfl) (AA (vv 0) AB))) (by intro _;rfl)) AB)) (AA (As (BB (K:=K)) rfl T.z_tuple (by rfl) (AA (vv 1) AB)) AB)))))))),?_⟩
 refine ⟨Ae (show 0<=1000 by decide),fun l hl=>?_⟩
 dsimp only [AR]
 refine Ak (fun σ H'=>σ=[some (.ref p),some (.ref l),some (.int 1)]/\upd H l (.lst [])=H') ⟨rfl,rfl⟩ ?_ (by walk_at "sm")
 rintro σ _ ⟨rfl,rfl⟩
 refine Ak (fun σ H'=>∃ (z:Option V) (rs:List V),σ=[some (.ref p),some (.ref l),z]/\Same H H'/\H' l=some (.lst rs)/\Reps K H' (By m m) rs) ?_ ?_ (by walk_at "sm")
 ·refine ⟨fun μ σ H'=>∃ (i:Nat) (rs:List V),μ=m - i/\i<=m/\σ=[some (.ref p),some (.ref l),some (.int (2 ^ i:Nat))]/\Same H H'/\H' l=some (.lst rs)/\Reps K H' (By m i) rs,⟨m,0,[],by lia,by lia,rfl,Same.upd hl,AD,Af⟩,?_⟩
  rintro μ σ H1 ⟨i,rs,rfl,hi,rfl,S1,g1,R1⟩
  have hrl:rs.length=i:=by have:=R1.length;rw [Jb] at this;lia
  have hpi:(0:Nat) < 2 ^ i:=Nat.two_pow_pos i
  have hle:(2:Nat) ^ i<=2 ^ m:=Nat.pow_le_pow_right (by decide) hi
  refine ⟨2 ^ m,.inr ⟨_,S1.sqT hp,hbl.symm⟩,?_⟩
  refine An (fun e=>?_) (fun e=>?_)
  ·have him:i < m:=by
    have e':((2 ^ i:Nat):Int) < ((2 ^ m:Nat):Int):=of_decide_eq_true e
    rcases Nat.lt_or_ge i m with z | z
    ·exact z
    ·have:i=m:=by lia
     subst this;lia
   refine ⟨.inl ⟨rfl,_,.of g1⟩,?_⟩
   refine ⟨2 ^ m,.inr ⟨_,S1.sqT hp,hbl.symm⟩,((2 ^ m:Nat):Int),rfl,by lia,by lia,?_⟩
   refine BU (fun k ys H'=>H'=H1/\ys=((List.range k).map (fun q=>q / 2 ^ i % 2 == 1)).map V.bl) ⟨rfl,rfl⟩ (fun k ys H' hk ⟨_,e⟩=>by
    rw [e,List.length_map,List.length_map,List.length_range];exact Aj (by lia)) ?_ ?_
   ·rintro k ys H' hk ⟨rfl,rfl⟩
    refine ⟨Am (by lia) (Int.le_trans (Int.ofNat_le.mpr (Nat.le_trans hle h16)) (by decide)),by decide,rfl,?_⟩
    have ee:(false ^^ (((0:Int)+(k:Int)) / ((2 ^ i:Nat):Int) % 2 == 1))=(k / 2 ^ i % 2 == 1):=by
     rw [Bool.false_xor,Int.zero_add,<- Int.natCast_ediv,Bool.eq_iff_iff]
     simp only [beq_iff_eq]
     lia
    rw [PX,<- ee]
   ·rintro ys H' ⟨rfl,rfl⟩ k hk
    rw [Int.toNat_natCast]
    refine ⟨_,.inl ⟨.of AD,fun p3 hp3=>?_⟩⟩
    have erow:((List.range (2 ^ m)).map (fun q=>q / 2 ^ i % 2 == 1)).map V.bl=(Bl m i).map V.bl:=rfl
    rw [erow]
    have s3:=(Same.upd (o:=.lst ((Bl m i).map V.bl)) hk).trans (Same.upd (o:=.tup ((Bl m i).map V.bl)) hp3)
    have g3p:=AD (H:=upd H' k (.lst ((Bl m i).map V.bl))) (a:=p3) (o:=.tup ((Bl m i).map V.bl))
    have nl:p3≠l:=Ne.symm (BL (Same.upd (o:=.lst ((Bl m i).map V.bl)) hk _ _ g1) hp3)
    generalize upd (upd H' k (.lst ((Bl m i).map V.bl))) p3 (.tup ((Bl m i).map V.bl))=H3 at *
    refine ⟨_,s3 _ _ g1,Aj (by lia),?_⟩
    dsimp only [Bj,Hx,AR]
    refine ⟨.inr (.inl ⟨by decide,by decide⟩),?_⟩
    have R3:Reps K H3 (By m i) rs:=Reps.same s3 _ _ R1
    have fr:Frm l H3 (upd H3 l (.lst (rs++[.ref p3]))):=Frm.updT
    have R4:Reps K (upd H3 l (.lst (rs++[.ref p3]))) (By m (i+1)) (rs++[.ref p3]):=by
     rw [LC]
     refine Reps.append (Reps.frm fr ⟨_,s3 _ _ g1⟩ _ _ (La m i) R3) (Ab ?_ Af)
     exact BC (by rw [AJ nl];exact g3p) (Bt _)
    refine ⟨m - (i+1),by lia,i+1,_,rfl,him,?_,Sj (S1.trans s3) hl,AD,R4⟩
    have:(2:Int) * ((2 ^ i:Nat):Int)=((2 ^ (i+1):Nat):Int):=by rw [Nat.pow_succ];lia
    rw [<- this]
    rfl
  ·have him:i=m:=by
    rcases Nat.lt_or_ge i m with z | z
    ·exact absurd (decide_eq_true (show ((2 ^ i:Nat):Int) < ((2 ^ m:Nat):Int) from Int.ofNat_lt.mpr (Nat.pow_lt_pow_right (by decide) z))) e
    ·lia
   subst him
   exact ⟨_,rs,rfl,S1,g1,R1⟩
 rintro σ H1 ⟨z,rs,rfl,S1,g1,R1⟩
 have hrl:rs.length=m:=by have:=R1.length;rw [Jb] at this;lia
 refine .inr ⟨⟨_,S1.sqT hp⟩,?_⟩
 refine Ea (xs:=bs.map V.bl) (fun i ys H'=>H'=H1/\ys=Bf (bs.take i)) ⟨rfl,rfl⟩ (fun i ys H' _ ⟨e,_⟩=>by rw [e];exact S1.sqT hp) (fun i ys H' hi ⟨_,e⟩=>by
  rw [e,PF,List.length_take];exact Aj (by lia)) ?_ ?_
 ·rintro i x ys H' hx ⟨rfl,rfl⟩
  have hi:i < bs.length:=by
   have:=(List.getElem?_eq_some_iff.mp hx).1
   rwa [List.length_map] at this
  rw [List.getElem?_map,List.getElem?_eq_getElem hi] at hx
  cases hx
  refine ⟨rfl,?_⟩
  rw [List.take_add_one,List.getElem?_eq_getElem hi,QH]
  rfl
 ·rintro ys H' ⟨rfl,rfl⟩ k hk
  rw [List.take_of_length_le (by rw [List.length_map];exact Nat.le_refl _)]
  refine ⟨_,.inl ⟨.of AD,fun p3 hp3=>?_⟩⟩
  have s3:=(Same.upd (o:=.lst (Bf bs)) hk).trans (Same.upd (o:=.tup (Bf bs)) hp3)
  have g3p:=AD (H:=upd H' k (.lst (Bf bs))) (a:=p3) (o:=.tup (Bf bs))
  generalize upd (upd H' k (.lst (Bf bs))) p3 (.tup (Bf bs))=H3 at *
  refine ⟨_,.inl ⟨.of (s3 _ _ g1),fun p4 hp4=>?_⟩⟩
  refine ⟨Ae (show 2<=1000 by decide),fun p5 hp5=>?_⟩
  have s5:=(Same.upd (o:=.tup rs) hp4).trans (Same.upd (o:=.tup [.ref p3,.ref p4]) hp5)
  refine q _ _ (S1.trans (s3.trans s5)) ?_
  refine BC AD (Ab (BC (s5 _ _ g3p) (MI bs)) (Ab (BC (Same.upd hp5 _ _ AD) ?_) Af))
  exact Reps.same (s3.trans s5) _ _ R1
noncomputable def AQ (ts:List (List Bool)):List Dv:=ts.map fun b=>.tup (b.map Dv.bl)
noncomputable def gmD (ls:List Int) (rs:List (List Bool)):Dv:=.tup [.tup (ls.map Dv.int),.tup (AQ rs)]
structure Gm (ls:List Int) (rs:List (List Bool)):Prop where
 l1:1<=ls.length
 l16:ls.length<=16
 r1:1<=rs.length
 r16:rs.length<=16
 row:∀ r∈rs,r.length=ls.length
 sm:∀ x∈ls,x.natAbs<=100000000000000000000
theorem Bz:∀ ts:List (List Bool),Aq (AQ ts)=true
 | []=>rfl
 | b::ts=>by
  show Aq (Dv.tup (b.map Dv.bl)::AQ ts)=true
  unfold Aq BW
  rw [Hv,Bz ts]
  rfl
theorem Ca (ts:List (List Bool)):(AQ ts).length=ts.length:=List.length_map ..
theorem KS {K:W.Frag} {H:Hp}:∀ (k:Nat) {ds:List Dv} {xs:List V},Reps K H ds xs->Reps K H (ds.take k) (xs.take k)
 | 0,_,_,_=>by simpa using Af
 | k+1,[],xs,h=>by unfold Reps at h;subst h;simpa using Af
 | k+1,d::ds,xs,h=>by
  unfold Reps at h
  obtain ⟨x,r,rfl,h1,h2⟩:=h
  simpa using Ab h1 (KS k h2)
theorem Jc {K:W.Frag} {H:Hp}:∀ (k:Nat) {ds:List Dv} {xs:List V},Reps K H ds xs->Reps K H (ds.drop k) (xs.drop k)
 | 0,_,_,h=>by simpa using h
 | k+1,[],xs,h=>by unfold Reps at h;subst h;simpa using Af
 | k+1,d::ds,xs,h=>by
  unfold Reps at h
  obtain ⟨x,r,rfl,h1,h2⟩:=h
  simpa using Jc k h2
theorem OU (ts:List (List Bool)) (b:List Bool) (k:Nat):AQ (ts.take k++b::ts.drop k)=(AQ ts).take k++.tup (b.map Dv.bl)::(AQ ts).drop k:=by
 unfold AQ
 rw [List.map_append,List.map_cons,List.map_take,List.map_drop]
theorem Ed:∀ bs:List Bool,Bu (bs.map Dv.bl)=0
 | []=>by simp [Bu]
 | b::bs=>by
  show Bu (Dv.bl b::bs.map Dv.bl)=_
  unfold Bu
  rw [Ed bs]
  rfl
theorem JN (ts:List (List Bool)):∀ e∈AQ ts,Ap e<=50:=by
 intro e he
 obtain ⟨b,_,rfl⟩:=List.mem_map.mp he
 unfold Ap
 rw [Ed]
 lia
theorem Qv (xs:List V) (a:Nat) (h:a<=xs.length):BR xs none (some (a:Int))=xs.take a:=by
 unfold BR
 rw [HT.sIx_nat,HT.sIx_none,List.drop_zero,Nat.sub_zero,Nat.min_eq_left h]
theorem Ox (xs:List V) (a:Nat) (h:a<=xs.length):BR xs (some (a:Int)) none=xs.drop a:=by
 unfold BR
 rw [HT.sIx_nat,HT.sIx_none,Nat.min_eq_left h,List.take_of_length_le (by rw [List.length_drop];lia)]
theorem KD {K:W.Frag} {H:Hp} {ts:List (List Bool)} {xs:List V} (h:Reps K H (AQ ts) xs):∀ ns:List Int,ns.length≠0->xs≠ns.map V.int:=by
 intro ns hn e
 cases ts with
 | nil =>
  have:xs=[]:=by simpa [AQ,Reps] using h
  subst this
  cases ns with
  | nil=>exact hn rfl
  | cons _ _=>cases e
 | cons b ts =>
  have h':Reps K H (Dv.tup (b.map Dv.bl)::AQ ts) xs:=h
  unfold Reps at h'
  obtain ⟨x,r,rfl,h1,_⟩:=h'
  unfold Rep at h1
  obtain ⟨a,zs,rfl,_⟩:=h1
  cases ns with
  | nil=>exact hn rfl
  | cons _ _=>cases e
theorem FZ {t p:Addr} {H0 H:Hp} {o:HO} (f:Frm t H0 H) (hp:H0 p=none):Frm t H0 (upd H p o):=fun b u n e=>by
 rw [AJ (BL e hp)]
 exact f b u n e
noncomputable def KY (K:W.Frag):Sp:=fun vs H Q _=>match vs with
 | [.ref t,.int n,.int y]=>∃ m M N:Nat,GFeed H t N/\N<=850000000/\n=m/\1<=m/\m<=3/\y=M/\2<=M/\M<=6/\∀ (ts:List (List Bool)) xs p H',2<=ts.length->ts.length<=M->(∀ b∈ts,b.length=2 ^ m)->H p=none->H' p=some (.lst xs)->Reps K H' (AQ ts) xs->GFeed H' t (N+400)->Frm t H H'->Q (.ref p) H'
 | _=>False
noncomputable def Cg (K:W.Frag):Sp:=fun vs H Q _=>match vs with
 | [.ref t,.int n,.int y]=>∃ m M N:Nat,GFeed H t N/\N<=850000000/\n=m/\1<=m/\m<=4/\y=M/\2<=M/\M<=10/\∀ (ts:List (List Bool)) xs p H',2<=ts.length->ts.length<=M->(∀ b∈ts,b.length=2 ^ m)->ts.Nodup->H p=none->H' p=some (.lst xs)->Reps K H' (AQ ts) xs->GFeed H' t (N+400)->Frm t H H'->Q (.ref p) H'
 | _=>False
theorem Q4:Ac (Cg K):=fun vs H Q Q' E h q=>by
 unfold Cg at *
 split at q
 ·revert q;repeat' first | exact h _ _ | exact Be h | exact out_mono h | exact outT_mono h | walk_at "m"
 ·exact q.elim
theorem KZ:∀ b c:List Bool,A0 (b.map Dv.bl) (c.map Dv.bl)=decide (b=c)
 | [],[]=>by simp [A0]
 | [],_::_=>by simp [A0]
 | _::_,[]=>by simp [A0]
 | x::b,y::c=>by
  rw [List.map_cons,List.map_cons,A0,KZ b c,eqD]
  by_cases e:x=y
  ·subst e;simp
  ·simp [e]
theorem Fh (b c:List Bool):eqD (.tup (b.map Dv.bl)) (.tup (c.map Dv.bl))=decide (b=c):=by rw [LI,KZ]
theorem RH (ts:List (List Bool)) (c:List Bool):((AQ ts).any fun e=>eqD e (.tup (c.map Dv.bl)))=decide (c∈ts):=by
 unfold AQ
 rw [List.any_map,Bool.eq_iff_iff,List.any_eq_true,decide_eq_true_eq]
 constructor
 ·rintro ⟨b,hb,e⟩
  rw [Function.comp_apply,Fh,decide_eq_true_eq] at e
  rw [<- e];exact hb
 ·intro h
  exact ⟨c,h,by rw [Function.comp_apply,Fh];exact decide_eq_true rfl⟩
theorem J3:FnOk P w K mg base CX0 3 T.f_z39 T.d_z39 ["_law_feed_here","_law_n","_law_many"] (Cg K):=by
 have G_z46:=Di (P:=P) (w:=w) (base:=base) T;have G_z40:=JY (P:=P) (w:=w) (base:=base) T
 refine T.F_z39.ok sc_z39 (fun vs H Q E h=>by unfold Cg at h;split at h <;> first | rfl | exact h.elim) (fun cdv A outer s H vs Q E hr h=>?_)
 have hu:=AZ hr
 have hr_z46:=hr.mono (show 1<=_ by decide);have hr_z40:=hr.mono (show 2<=_ by decide)
 unfold Cg at h
 split at h
 rotate_left
 ·exact h.elim
 rename_i t n y
 obtain ⟨m,M,N,F,hN,e1,m1,m3,e2,M2,M6,q⟩:=h
 subst e1 e2
 refine ⟨_,(@AG _ _ _ _ _ (@AM _ _ 3 _ _ _ _ sc_z39.nd rfl (by right) (@BY _ _ _ _ (AA (AL G_z40 hr_z40 rfl T.m_z40 T.F_z40.kp T.b_z40 .nil AE (AA (vv 0) (AA (vv 1) AB))) AB)) (by rfl) (by symm)) (@AG _ _ _ _ _ (@AM _ _ 4 _ _ _ _ sc_z39.nd rfl (by right) (AL G_z46 hr_z46 rfl T.m_z46 T.F_z46.kp T.b_z46 .nil AE (AA (vv 0) (AA (AO IR AC (vv 1)) AB))) (by rfl) (by symm)) (@AG _ _ _ _ _ (@CD _ _ _ _ (Gg (K:=K) (vv 3) (AA (AO (FN (K:=K)) (AO (FN (K:=K)) (Km (K:=K) (kIx (K:=K) (vv 3) AC) Gf (HZ (vv 4))) (Ba (AA (P4 (kIx (K:=K) (kIx (K:=K) (vv 3) AC) (vv 4))) AB))) (Km (K:=K) (kIx (K:=K) (vv 3) AC) (HZ (AO (FN (K:=K)) (vv 4) AC)) Gf)) AB)) (by rfl)) (@AG _ _ _ _ _ (@Bk _ _ _ _ _ _ _ _ PassesOwn.never rfl (Ay rfl T.z_range (AA (AO CM AC (vv 2)) AB)) (AX (i:=5) sc_z39.nd rfl (by right)) (@AG _ _ _ _ _ (@AM _ _ 6 _ _ _ _ sc_z39.nd rfl (by right) (AL G_z40 hr_z40 rfl T.m_z40 T.F_z40.kp T.b_z40 .nil AE (AA (vv 0) (AA (vv 1) AB))) (by rfl) (by symm)) (@AI _ _ _ (@Aw _ _ _ _ _ _ _ _ (PW.pt (FM (Ag Cd (Ar (Az (K:=K)) rfl T.z_len (by rfl) (AA (vv 3) AB)) (vv 2)) (FO (Ag (QF (K:=K) hu) (vv 6) (vv 3))))) (@AI _ _ _ (@CD _ _ _ _ (Q8 (K:=K) (vv 3) (AA (AL G_z46 hr_z46 rfl T.m_z46 T.F_z46.kp T.b_z46 .nil AE (AA (vv 0) (AA (AO (FN (K:=K)) (Ar (Az (K:=K)) rfl T.z_len (by rfl) (AA (vv 3) AB)) AC) AB))) (AA (vv 6) AB))) (by rfl))) Av))) (by intro _;rfl)) (@AI _ _ _ (@AN _ _ _ _ (vv 3))))))),?_⟩
 have hmo:=OC
 have h2:2<=2 ^ m:=Nat.pow_le_pow_right (n:=2) (i:=1) (by decide) m1
 have h8:2 ^ m<=16:=Nat.pow_le_pow_right (n:=2) (i:=m) (j:=4) (by decide) m3
 have em:(1:Int) * 2 ^ ((m:Int).toNat)=((2 ^ m:Nat):Int):=by rw [Int.toNat_natCast,Int.natCast_pow,Int.one_mul];rfl
 refine ⟨m,N,F,by lia,rfl,m1,by lia,fun bs p1 H1 hb hp1 g1 F1 f1=>?_⟩
 refine ⟨Ae (show 1<=1000 by decide),fun l hl=>?_⟩
 have hlH:H l=none:=F1.free f1 hl
 have lt:l≠t:=F.neT hlH
 dsimp only [AR]
 refine Ak (fun σ H'=>∃ a:Nat,a < 2 ^ m/\σ=[some (.ref t),some (.int m),some (.int M),some (.ref l),some (.int a),none,none]/\GFeed H' t (N+19)/\Frm t H H'/\H' l=some (.lst [.ref p1])/\H' p1=some (.tup (bs.map V.bl))) ?_ ?_ (by walk_at "sm")
 ·refine ⟨⟨by lia,by lia,by decide⟩,?_⟩
  rw [em]
  have F2:=F1.upd (o:=.lst [.ref p1]) hl
  refine ⟨_,F2,by lia,Am (by lia) (by lia),fun a H3 a0 a1 F3 f3=>?_⟩
  have f2:Frm t H1 (upd H1 l (.lst [.ref p1])):=Frm.upd hl
  have n1:p1≠t:=F.neT hp1
  have nl:p1≠l:=fun e=>by rw [e,hl] at g1;cases g1
  refine ⟨a.toNat,by lia,?_,F3,f1.trans (f2.trans (AY f3)),by rw [f3 l lt,AD],by rw [f3 p1 n1,AJ nl];exact g1⟩
  rw [Int.toNat_of_nonneg a0]
  rfl
 rintro σ H2 ⟨a,ha,rfl,F2,f2,gl2,gp2⟩
 have hbl:(bs.map V.bl).length=2 ^ m:=by rw [List.length_map];exact hb
 have hix:atI (bs.map V.bl) (a:Int)=some (.bl (bs.getD a false)):=BI rfl (by rw [List.getElem?_map,List.getD_eq_getElem?_getD,List.getElem?_eq_getElem (show a < bs.length by lia)];rfl)
 refine Ak (fun σ H'=>∃ (ts:List (List Bool)) (xs:List V) (z5 z6:Option V),σ=[some (.ref t),some (.int m),some (.int M),some (.ref l),some (.int a),z5,z6]/\2<=ts.length/\ts.length<=M/\(∀ b∈ts,b.length=2 ^ m)/\ts.Nodup/\H' l=some (.lst xs)/\Reps K H' (AQ ts) xs/\GFeed H' t (N+19)/\Frm t H H') ?_ ?_ (by walk_at "sm")
 ·refine ⟨.inl ⟨rfl,_,.of gl2⟩,?_⟩
  refine ⟨_,_,.inl (.of gl2),rfl,?_⟩
  refine ⟨(a:Int),rfl,_,.of gp2,fun q1 H3 S3 t3=>?_⟩
  rw [Qv _ a (by lia)] at t3
  refine ⟨_,_,.inl (.of (S3 _ _ gl2)),rfl,_,_,.inr (.of (S3 _ _ gp2)),hix,?_⟩
  refine ⟨Ae (show 1<=1000 by decide),fun q2 hq2=>?_⟩
  have S4:Same H3 (upd H3 q2 (.tup [.bl (!bs.getD a false)])):=Same.upd hq2
  have t4:SqT K (upd H3 q2 (.tup [.bl (!bs.getD a false)])) q2 [.bl (!bs.getD a false)]:=.of AD
  generalize upd H3 q2 (.tup [.bl (!bs.getD a false)])=H4 at *
  refine .inr ⟨_,_,S4.sqT t3,t4,Ae (by rw [List.length_take];show _+1<=1000;lia),fun q3 H5 S5 t5=>?_⟩
  have S25:=S3.trans (S4.trans S5)
  refine ⟨_,_,.inl (.of (S25 _ _ gl2)),rfl,?_⟩
  refine ⟨(a+1:Nat),rfl,_,.of (S25 _ _ gp2),fun q4 H6 S6 t6=>?_⟩
  rw [Ox _ (a+1) (by lia)] at t6
  refine .inr ⟨_,_,S6.sqT t5,t6,Ae (by rw [List.length_append,List.length_take,List.length_drop];show _+1+_<=1000;lia),fun q5 H7 S7 t7=>?_⟩
  have S27:=S25.trans (S6.trans S7)
  generalize hcs:bs.take a++(!bs.getD a false)::bs.drop (a+1)=cs
  have ecs:(bs.map V.bl).take a++[V.bl (!bs.getD a false)]++(bs.map V.bl).drop (a+1)=cs.map V.bl:=by
   rw [<- hcs,List.map_append,List.map_cons,List.map_take,List.map_drop,List.append_assoc]
   rfl
  have hcl:cs.length=2 ^ m:=by
   rw [<- hcs,List.length_append,List.length_cons,List.length_take,List.length_drop]
   lia
  rw [ecs] at t7
  refine ⟨_,S27 _ _ gl2,Aj (show 1<=1000 by decide),?_⟩
  have fr:Frm l H7 (upd H7 l (.lst ([.ref p1]++[.ref q5]))):=Frm.updT
  have R7:Reps K H7 (AQ [bs,cs]) [.ref p1,.ref q5]:=Ab (BC (S27 _ _ gp2) (Bt bs)) (Ab (by unfold Rep;exact ⟨q5,_,rfl,t7,Bt cs⟩) Af)
  refine ⟨[bs,cs],_,_,_,rfl,Nat.le_refl 2,M2,?_,?_,AD,Reps.frm fr ⟨_,S27 _ _ gl2⟩ _ _ (Bz _) R7,?_,?_⟩
  ·intro b hb'
   rcases List.mem_cons.mp hb' with rfl | hb'
   ·exact hb
   ·rcases List.mem_cons.mp hb' with rfl | hb'
    ·exact hcl
    ·cases hb'
  ·refine List.nodup_cons.mpr ⟨fun h=>?_,List.nodup_cons.mpr ⟨fun h=>(by cases h),List.nodup_nil⟩⟩
   have e:bs=cs:=List.mem_singleton.mp h
   have h1:=congrArg (fun l:List Bool=>l[a]?) e
   rw [<- hcs,List.getElem?_append_right (by rw [List.length_take];lia),List.length_take,Nat.min_eq_left (by lia),Nat.sub_self,List.getElem?_cons_zero,List.getElem?_eq_getElem (show a < bs.length by lia)] at h1
   have h2:bs.getD a false=bs[a]'(by lia):=by rw [List.getD_eq_getElem?_getD,List.getElem?_eq_getElem (show a < bs.length by lia)];rfl
   rw [h2] at h1
   cases hh:bs[a]'(by lia) <;> rw [hh] at h1 <;> cases h1
  ·exact (F2.same S27).put lt (S27 _ _ gl2) fun ns hn e=>by
    cases ns with
    | nil=>exact hn rfl
    | cons _ _=>cases e
  ·exact FZ (f2.trans fun b o _ e=>S27 b o e) hlH
 rintro σ H3 ⟨ts,xs,z5,z6,rfl,t2,tM,tb,nd,gl3,R3,F3,f3⟩
 refine Ak (fun σ H'=>∃ (ts:List (List Bool)) (xs:List V) (z5 z6:Option V),σ=[some (.ref t),some (.int m),some (.int M),some (.ref l),some (.int a),z5,z6]/\2<=ts.length/\ts.length<=M/\(∀ b∈ts,b.length=2 ^ m)/\ts.Nodup/\H' l=some (.lst xs)/\Reps K H' (AQ ts) xs/\GFeed H' t (N+400)/\Frm t H H') ?_ ?_ (by walk_at "sm")
 ·refine ⟨.inr (.inl ⟨by decide,by decide⟩),2 * (M:Int),rfl,by lia,by lia,?_⟩
  refine B4 (fun i σ H'=>∃ (ts:List (List Bool)) (xs:List V) (z5 z6:Option V),σ=[some (.ref t),some (.int m),some (.int M),some (.ref l),some (.int a),z5,z6]/\2<=ts.length/\ts.length<=M/\(∀ b∈ts,b.length=2 ^ m)/\ts.Nodup/\H' l=some (.lst xs)/\Reps K H' (AQ ts) xs/\GFeed H' t (N+19+19 * i)/\Frm t H H') ⟨ts,xs,z5,z6,rfl,t2,tM,tb,nd,gl3,R3,F3,f3⟩ ?_ ?_
  ·rintro i σ H4 hi ⟨ts,xs,z5,z6,rfl,t2,tM,tb,nd,gl4,R4,F4,f4⟩
   have hxl:xs.length=ts.length:=by rw [<- R4.length,Ca]
   refine ⟨m,_,F4,by lia,rfl,m1,by lia,fun bs2 p2 H5 hb2 hp2 g2 F5 f5=>?_⟩
   have R5:Reps K H5 (AQ ts) xs:=Reps.frm f5 F4.lst _ _ (Bz _) R4
   have gl5:H5 l=some (.lst xs):=f5 _ _ lt gl4
   dsimp only [AR]
   have stay:∃ (ts:List (List Bool)) (xs:List V) (z5' z6':Option V),[some (V.ref t),some (.int m),some (.int M),some (.ref l),some (.int a),some (.int (0+i)),some (.ref p2)]=[some (.ref t),some (.int m),some (.int M),some (.ref l),some (.int a),z5',z6']/\2<=ts.length/\ts.length<=M/\(∀ b∈ts,b.length=2 ^ m)/\ts.Nodup/\H5 l=some (.lst xs)/\Reps K H5 (AQ ts) xs/\GFeed H5 t (N+19+19 * (i+1))/\Frm t H H5 :=
    ⟨ts,xs,_,_,rfl,t2,tM,tb,nd,gl5,R5,F5.mono (by lia),f4.trans f5⟩
   have ep2:Rep K H5 (.tup (bs2.map Dv.bl)) (.ref p2):=BC g2 (Bt bs2)
   refine ⟨_,.inl ⟨_,.of gl5,rfl⟩,?_⟩
   refine An (fun e=>?_) (fun e=>stay)
   have e':(xs.length:Int) < (M:Int):=of_decide_eq_true e
   refine ⟨_,_,_,.inl (.of gl5),R5,ep2,JN ts,?_⟩
   refine An (fun e=>?_) (fun e=>stay)
   refine ⟨.inl ⟨rfl,_,.of gl5⟩,?_⟩
   refine ⟨_,.inl ⟨_,.of gl5,rfl⟩,?_⟩
   refine ⟨_,F5,by lia,Am (by lia) (Int.le_trans (show (xs.length:Int)+1<=11 by lia) (by decide)),fun d H6 d0 d1 F6 f6=>?_⟩
   have gl6:H6 l=some (.lst xs):=by rw [f6 l lt];exact gl5
   refine ⟨xs,gl6,d0,by lia,by lia,?_⟩
   have R6:Reps K H6 (AQ ts) xs:=Reps.frm (AY f6) F5.lst _ _ (Bz _) R5
   have ep6:Reps K H6 [.tup (bs2.map Dv.bl)] [.ref p2]:=Ab (BC (by rw [f6 p2 (F4.neT hp2)];exact g2) (Bt bs2)) Af
   have R7:Reps K H6 (AQ (ts.take d.toNat++bs2::ts.drop d.toNat)) (xs.take d.toNat++.ref p2::xs.drop d.toNat):=by
    rw [OU]
    exact Reps.append (KS _ R6) (Reps.append ep6 (Jc _ R6))
   refine ⟨_,_,_,_,rfl,?_,?_,?_,?_,AD,Reps.frm Frm.updT ⟨_,gl6⟩ _ _ (Bz _) R7,(F6.put lt gl6 (KD R6)).mono (by lia),FZ (f4.trans (f5.trans (AY f6))) hlH⟩
   ·rw [List.length_append,List.length_cons,List.length_take,List.length_drop];lia
   ·rw [List.length_append,List.length_cons,List.length_take,List.length_drop];lia
   ·intro b hb'
    rcases List.mem_append.mp hb' with h | h
    ·exact tb b (List.mem_of_mem_take h)
    ·rcases List.mem_cons.mp h with rfl | h
     ·exact hb2
     ·exact tb b (List.mem_of_mem_drop h)
   ·have nin:bs2∉ts:=fun h=>by
     have e:(true ^^ ((AQ ts).any fun e=>eqD e (.tup (bs2.map Dv.bl))))=true:=e
     rw [RH,decide_eq_true h] at e
     cases e
    have pm:(ts.take d.toNat++bs2::ts.drop d.toNat).Perm (bs2::ts):=by
     have:=List.perm_middle (a:=bs2) (l₁:=ts.take d.toNat) (l₂:=ts.drop d.toNat)
     rwa [List.take_append_drop] at this
    exact pm.nodup_iff.mpr (List.nodup_cons.mpr ⟨nin,nd⟩)
  ·rintro σ H4 ⟨ts,xs,z5,z6,rfl,t2,tM,tb,nd,gl4,R4,F4,f4⟩
   exact ⟨ts,xs,z5,z6,rfl,t2,tM,tb,nd,gl4,R4,F4.mono (by lia),f4⟩
 rintro σ H4 ⟨ts,xs,z5,z6,rfl,t2,tM,tb,nd,gl4,R4,F4,f4⟩
 exact q ts xs l H4 t2 tM tb nd hlH gl4 R4 F4 f4
theorem Lq {K:W.Frag} {H:Hp}:∀ (cs:List Bool) (zs:List V),Reps K H (cs.map Dv.bl) zs->zs=cs.map V.bl
 | [],zs,h=>by
  have h':Reps K H [] zs:=h
  unfold Reps at h'
  exact h'
 | c::cs,zs,h=>by
  have h':Reps K H (Dv.bl c::cs.map Dv.bl) zs:=h
  unfold Reps at h'
  obtain ⟨x,r,rfl,h1,h2⟩:=h'
  unfold Rep at h1
  rw [h1,Lq cs r h2]
  rfl
theorem Fa {K:W.Frag} {H:Hp}:∀ ns:List Int,Reps K H (ns.map Dv.int) (ns.map V.int)
 | []=>Af
 | _::ns=>Ab EV (Fa ns)
noncomputable def HA (K:W.Frag):Sp:=fun vs H Q _=>match vs with
 | [.ref l]=>∃ (ts:List (List Bool)) (xs:List V) (M:Nat),H l=some (.lst xs)/\Reps K H (AQ ts) xs/\2<=ts.length/\ts.length<=6/\(∀ b∈ts,b.length=M)/\1<=M/\M<=8/\∀ ls rs u H',Gm ls rs->Same H H'->Rep K H' (gmD ls rs) u->Q u H'
 | _=>False
theorem Np:FnOk P w K mg base CX0 1 T.f_z24 T.d_z24 ["_law_tables"] (HA K):=by
 refine T.F_z24.ok sc_z24 (fun vs H Q E h=>by unfold HA at h;split at h <;> first | rfl | exact h.elim) (fun cdv A outer s H vs Q E hr h=>?_)
 have hu:=AZ hr
 unfold HA at h
 split at h
 rotate_left
 ·exact h.elim
 rename_i l
 obtain ⟨ts,xs,M,gl,R,t2,t6,tb,M1,M8,q⟩:=h
 refine ⟨_,(@AG _ _ _ _ _ (@C3 _ _ _ _ _ _ _ (["_law_k","_law_tables"]) 1 [0] _ _ _ _ 1 _ _ _ rfl sc_z24.nd rfl rfl (Ay rfl T.z_range (AA (Ar (Az (K:=K)) rfl T.z_len (by rfl) (AA (kIx (K:=K) (vv 0) AC) AB)) AB)) (by kernel_rfl) rfl rfl (by kernel_rfl) (fun c=>AX (i:=0) (show (["_law_k","_law_tables"]:List Str).Nodup by decide +kernel) rfl (by right)) (Ai (by decide)) (fun c=>Au) (fun c=>(As (BB (K:=K)) rfl T.z_tuple (by rfl) (AA (A5 (N':=["_law_table_here","_law_k"]) (own:=1) (ix:=[0]) rfl (B6 (K:=K) (vv 1)) (by kernel_rfl) rfl rfl (by kernel_rfl) (fun c=>AX (i:=0) (show (["_law_table_here","_law_k"]:List Str).Nodup by decide +kernel) rfl (by right)) (Ai (by decide)) (fun c=>Au) (fun c=>(kIx (K:=K) (vv 0) (vv 1)))) AB))) (by rfl) (by intro _;rfl)) (@AI _ _ _ (@AN _ _ _ _ (Ba (AA (As (BB (K:=K)) rfl T.z_tuple (by rfl) (AA (@A5 _ _ _ _ _ _ _ ["_law_k"] 1 [] _ _ _ _ rfl (Ay rfl T.z_range (AA (Ar (Az (K:=K)) rfl T.z_len (by rfl) (AA (vv 0) AB)) AB)) (by kernel_rfl) rfl rfl (by kernel_rfl) (fun c=>AX (i:=0) (show (["_law_k"]:List Str).Nodup by decide +kernel) rfl (by right)) (Ai (by decide)) (fun c=>Au) (fun c=>(vv 0)) (by intro _;rfl)) AB)) (AA (As (BB (K:=K)) rfl T.z_tuple (by rfl) (AA (vv 1) AB)) AB)))))),?_⟩
 have hxl:xs.length=ts.length:=by rw [<- R.length,Ca]
 have at_:∀ (j:Nat) (x:V),xs[j]? = some x->∃ (a:Addr) (bs:List Bool),x=.ref a/\SqT K H a (bs.map V.bl)/\bs.length=M:=by
  intro j x hx
  have hj:j < ts.length:=by have:=(List.getElem?_eq_some_iff.mp hx).1;lia
  obtain ⟨y,h1,h2⟩:=R.get (i:=j) (d:=.tup (ts[j].map Dv.bl)) (by unfold AQ;rw [List.getElem?_map,List.getElem?_eq_getElem hj];rfl)
  rw [hx] at h1
  cases h1
  unfold Rep at h2
  obtain ⟨a,zs,rfl,h3,h4⟩:=h2
  rw [Lq _ _ h4] at h3
  exact ⟨a,ts[j],rfl,h3,tb _ (List.getElem_mem hj)⟩
 obtain ⟨x0,hx0⟩:∃ x,xs[0]? = some x:=⟨_,List.getElem?_eq_getElem (show 0 < xs.length by lia)⟩
 obtain ⟨a0,bs0,rfl,q0,l0⟩:=at_ 0 _ hx0
 refine ⟨_,_,.inl (.of gl),BI (n:=0) rfl hx0,_,.inr ⟨_,q0,rfl⟩,?_⟩
 rw [List.length_map,l0]
 refine ⟨(M:Int),rfl,by lia,by lia,?_⟩
 refine BU (fun i ys H'=>Same H H'/\∃ rs:List (List Bool),rs.length=i/\(∀ r∈rs,r.length=ts.length)/\Reps K H' (AQ rs) ys) ⟨fun _ _ e=>e,[],rfl,nofun,Af⟩ (fun i ys H' hi ⟨_,rs,e,_,R'⟩=>by
  rw [<- R'.length,Ca];exact Aj (by lia)) ?_ ?_
 ·rintro i ys H1 hi ⟨S1,rs,rfl,hr1,R1⟩
  refine .inl ⟨⟨_,.of (S1 _ _ gl)⟩,?_⟩
  refine DK (xs:=xs) (fun j zs H'=>H'=H1/\∃ bs:List Bool,zs=bs.map V.bl/\bs.length=j) ⟨rfl,[],rfl,rfl⟩ (fun j zs H' _ ⟨e,_⟩=>by rw [e];exact .of (S1 _ _ gl)) (fun j zs H' hj ⟨_,bs,e,el⟩=>by
   rw [e,List.length_map,el];exact Aj (by lia)) ?_ ?_
  ·rintro j x zs H' hx ⟨rfl,bs,rfl,rfl⟩
   obtain ⟨a,cs,rfl,h1,h2⟩:=at_ _ _ hx
   refine ⟨_,_,.inr (S1.sqT h1),BI (n:=rs.length) (by lia) (by rw [List.getElem?_map,List.getElem?_eq_getElem (show rs.length < cs.length by lia)];rfl),?_⟩
   exact ⟨rfl,bs++[_],by rw [List.map_append];rfl,by rw [List.length_append];rfl⟩
  ·rintro zs H' ⟨rfl,bs,rfl,hb⟩ k hk
   refine ⟨_,.inl ⟨.of AD,fun p hp=>?_⟩⟩
   have s3:=(Same.upd (o:=.lst (bs.map V.bl)) hk).trans (Same.upd (o:=.tup (bs.map V.bl)) hp)
   refine ⟨S1.trans s3,rs++[bs],by rw [List.length_append];rfl,?_,?_⟩
   ·intro r hr'
    rcases List.mem_append.mp hr' with h | h
    ·exact hr1 r h
    ·rw [List.mem_singleton.mp h];lia
   ·have e:AQ (rs++[bs])=AQ rs++[.tup (bs.map Dv.bl)]:=by unfold AQ;rw [List.map_append];rfl
    rw [e]
    exact Reps.append (Reps.same s3 _ _ R1) (Ab (BC AD (Bt bs)) Af)
 ·rintro ys H1 ⟨S1,rs,hrl,hr1,R1⟩ k hk
  have s2:Same H1 (upd H1 k (.lst ys)):=Same.upd hk
  have g2:upd H1 k (.lst ys) k=some (.lst ys):=AD
  generalize upd H1 k (.lst ys)=H2 at *
  dsimp only [AR]
  refine ⟨_,.inl ⟨_,.of (s2 _ _ (S1 _ _ gl)),rfl⟩,(xs.length:Int),rfl,by lia,by lia,?_⟩
  refine BU (fun i ys H'=>H'=H2/\∃ ls:List Int,ys=ls.map V.int/\ls.length=i/\∀ x∈ls,x.natAbs<=6) ⟨rfl,[],rfl,rfl,nofun⟩ (fun i ys H' hi ⟨_,ls,e,el,_⟩=>by
   rw [e,List.length_map,el];exact Aj (by lia)) ?_ ?_
  ·rintro i ys H' hi ⟨rfl,ls,rfl,el,hs⟩
   refine ⟨rfl,ls++[0+(i:Int)],by rw [List.map_append];rfl,by rw [List.length_append,el];rfl,?_⟩
   intro x hx
   rcases List.mem_append.mp hx with h | h
   ·exact hs x h
   ·rw [List.mem_singleton.mp h];lia
  ·rintro ys' H' ⟨rfl,ls,rfl,el,hs⟩ k3 hk3
   refine ⟨_,.inl ⟨.of AD,fun p hp=>?_⟩⟩
   have s3:=(Same.upd (o:=.lst (ls.map V.int)) hk3).trans (Same.upd (o:=.tup (ls.map V.int)) hp)
   have g3:upd (upd H' k3 (.lst (ls.map V.int))) p (.tup (ls.map V.int)) p=some (.tup (ls.map V.int)):=AD
   generalize upd (upd H' k3 (.lst (ls.map V.int))) p (.tup (ls.map V.int))=H3 at *
   refine ⟨_,.inl ⟨.of (s3 _ _ g2),fun p4 hp4=>?_⟩⟩
   refine ⟨Ae (show 2<=1000 by decide),fun p5 hp5=>?_⟩
   have s5:=(Same.upd (o:=.tup ys) hp4).trans (Same.upd (o:=.tup [.ref p,.ref p4]) hp5)
   refine q ls rs _ _ ⟨by lia,by lia,by lia,by lia,fun r h=>by rw [hr1 r h];lia,fun x h=>Nat.le_trans (hs x h) (by decide)⟩ (S1.trans (s2.trans (s3.trans s5))) ?_
   exact BC AD (Ab (BC (s5 _ _ g3) (Fa ls)) (Ab (BC (Same.upd hp5 _ _ AD) (Reps.same (s2.trans (s3.trans s5)) _ _ R1)) Af))
noncomputable def Bw (K:W.Frag) (n b:Nat):Sp:=fun vs H Q _=>match vs with
 | [.ref t]=>∃ N:Nat,GFeed H t N/\N<=b/\∀ ls rs u H',Gm ls rs->Rep K H' (gmD ls rs) u->GFeed H' t (N+n)->Frm t H H'->Q u H'
 | _=>False
theorem Mn {n b:Nat}:Ac (Bw K n b):=fun vs H Q Q' E h q=>by
 unfold Bw at *
 split at q
 ·revert q;repeat' first | exact h _ _ | exact Be h | exact out_mono h | exact outT_mono h | walk_at "m"
 ·exact q.elim
theorem NZ:FnOk P w K mg base CX0 2 T.f_z42 T.d_z42 ["_law_feed_here"] (Bw K 10 850000000):=by
 have G_z46:=Di (P:=P) (w:=w) (base:=base) T
 have G_z46:=LH (P:=P) (w:=w) (base:=base) T
 refine T.F_z42.ok sc_z42 (fun vs H Q E h=>by unfold Bw at h;split at h <;> first | rfl | exact h.elim) (fun cdv A outer s H vs Q E hr h=>?_)
 have hu:=AZ hr
 have hr_z46:=hr.mono (show 1<=_ by decide)
 unfold Bw at h
 split at h
 rotate_left
 ·exact h.elim
 rename_i t
 obtain ⟨N,F,hN,q⟩:=h
 refine ⟨_,(@AG _ _ _ _ _ (@AM _ _ 1 _ _ _ _ sc_z42.nd rfl (by right) (AO (BG (K:=K)) AC (AL G_z46 hr_z46 rfl T.m_z46 T.F_z46.kp T.b_z46 .nil AE (AA (vv 0) (AA AC AB)))) (by rfl) (by symm)) (@AG _ _ _ _ _ (@AM _ _ 2 _ _ _ _ sc_z42.nd rfl (by right) (AL G_z46 hr_z46 rfl T.m_z46 T.F_z46.kp T.b_z46 .nil AE (AA (vv 0) (AA AC AB))) (by rfl) (by symm)) (@AG _ _ _ _ _ (@C3 _ _ _ _ _ _ _ ["_law_k"] 1 [] _ _ _ _ 3 _ _ _ rfl sc_z42.nd rfl rfl (Ay rfl T.z_range (AA (vv 1) AB)) (by kernel_rfl) rfl rfl (by kernel_rfl) (fun c=>AX (i:=0) (show (["_law_k"]:List Str).Nodup by decide +kernel) rfl (by right)) (Ai (by decide)) (fun c=>Au) (fun c=>(vv 0)) (by rfl) (by intro _;rfl)) (@AG _ _ _ _ _ (@Aw _ _ _ _ _ _ _ _ (Ag (kEq (K:=K) hu) (AL G_z46 hr_z46 rfl T.m_z46 T.F_z46.kp T.b_z46 .nil AE (AA (vv 0) (AA AC AB))) AC) (@AI _ _ _ (@EJ _ _ _ _ _ _ (AL G_z46 hr_z46 rfl T.m_z46 T.F_z46.kp T.b_z46 .nil AE (AA (vv 0) (AA (vv 1) AB))) (Dm (vv 3) (AL G_z46 hr_z46 rfl T.m_z46 T.F_z46.kp T.b_z46 .nil AE (AA (vv 0) (AA (vv 1) AB))) ED) (by rfl) (by rfl) (by rfl))) Av) (@AG _ _ _ _ _ (@C3 _ _ _ _ _ _ _ (["_law_one","_law_many"]) 1 [1] _ _ _ _ 4 _ _ _ rfl sc_z42.nd rfl rfl (IC rfl T.z_range (AA (vv 2) (AA (vv 1) AB))) (by kernel_rfl) rfl rfl (by kernel_rfl) (fun c=>AX (i:=0) (show (["_law_one","_law_many"]:List Str).Nodup by decide +kernel) rfl (by right)) (Ai (by decide)) (fun c=>Au) (fun c=>(As (BB (K:=K)) rfl T.z_tuple (by rfl) (AA (A5 (N':=["_law_k","_law_one"]) (own:=1) (ix:=[0]) rfl (Ay rfl T.z_range (AA (vv 1) AB)) (by kernel_rfl) rfl rfl (by kernel_rfl) (fun c=>AX (i:=0) (show (["_law_k","_law_one"]:List Str).Nodup by decide +kernel) rfl (by right)) (Ai (by decide)) (fun c=>Au) (fun c=>(Bh (kEq (K:=K) hu) (vv 0) (vv 1)))) AB))) (by rfl) (by intro _;rfl)) (@AI _ _ _ (@AN _ _ _ _ (Ba (AA (As (BB (K:=K)) rfl T.z_tuple (by rfl) (AA (vv 3) AB)) (AA (As (BB (K:=K)) rfl T.z_tuple (by rfl) (AA (vv 4) AB)) AB)))))))))),?_⟩
 obtain ⟨c,F⟩:=F.told
 refine ⟨c,N,F,by lia,Am (by decide) (by decide),fun d1 H1 a0 a1 F1 f1=>?_⟩
 dsimp only [AR,DT]
 obtain ⟨M,rfl⟩:∃ M:Nat,d1=M:=⟨d1.toNat,by lia⟩
 refine ⟨c,_,F1,by lia,Am (by decide) (by decide),fun d2 H2 b0 b1 F2 f2=>?_⟩
 dsimp only [AR]
 have f2':Frm t H H2:=(AY f1).trans (AY f2)
 refine Ak (fun σ H'=>∃ (l:Addr) (ls:List Int),σ=[some (.ref t),some (.int (2+M)),some (.int d2),some (.ref l),none]/\H l=none/\l≠t/\l≠c/\H' l=some (.lst (ls.map V.int))/\ls.length=M+2/\(∀ x∈ls,x.natAbs<=10)/\GFd H' t c (N+2)/\Frm t H H') ?_ ?_ (by walk_at "sm")
 ·refine ⟨(2+M:Int),rfl,by lia,by lia,?_⟩
  refine BU (fun i ys H'=>H'=H2/\∃ ls:List Int,ys=ls.map V.int/\ls.length=i/\∀ x∈ls,x.natAbs<=10) ⟨rfl,[],rfl,rfl,nofun⟩ (fun i ys H' hi ⟨_,ls,e,el,_⟩=>by
   rw [e,List.length_map,el];exact Aj (by lia)) ?_ ?_
  ·rintro i ys H' hi ⟨rfl,ls,rfl,el,hs⟩
   refine ⟨rfl,ls++[0+(i:Int)],by rw [List.map_append];rfl,by rw [List.length_append,el];rfl,?_⟩
   intro x hx
   rcases List.mem_append.mp hx with h | h
   ·exact hs x h
   ·rw [List.mem_singleton.mp h];lia
  ·rintro ys H' ⟨rfl,ls,rfl,el,hs⟩ l hl
   have hne:=F2.ne hl
   exact ⟨l,ls,rfl,F2.feed.free f2' hl,hne.1,hne.2,AD,by lia,hs,F2.upd hl,f2'.trans (Frm.upd hl)⟩
 rintro σ H3 ⟨l,ls,rfl,hl,lt,lc,gl3,ll,hs,F3,f3⟩
 refine Ak (fun σ H'=>∃ (ls:List Int),σ=[some (.ref t),some (.int (2+M)),some (.int d2),some (.ref l),none]/\H' l=some (.lst (ls.map V.int))/\ls.length=M+2/\(∀ x∈ls,x.natAbs<=10)/\GFeed H' t (N+10)/\Frm t H H') ?_ ?_ (by walk_at "sm")
 ·refine ⟨c,_,F3,by lia,Am (by decide) (by decide),fun d3 H4 _ _ F4 f4=>?_⟩
  have gl4:H4 l=some (.lst (ls.map V.int)):=by rw [f4 l lt];exact gl3
  refine An (fun e=>?_) (fun e=>⟨ls,rfl,gl4,ll,hs,F4.feed.mono (by lia),f3.trans (AY f4)⟩)
  refine ⟨c,_,F4,by lia,Am (by lia) (by lia),fun d4 H5 p0 p1 F5 f5=>?_⟩
  refine ⟨c,_,F5,by lia,Am (by lia) (by lia),fun d5 H6 q0 q1 F6 f6=>?_⟩
  have gl6:H6 l=some (.lst (ls.map V.int)):=by rw [f6 l lt,f5 l lt];exact gl4
  have hd5:ixN (ls.map V.int).length d5=some d5.toNat:=by
   rw [List.length_map]
   unfold ixN
   rw [if_pos (by lia),if_pos (by lia)]
  refine ⟨_,_,gl6,hd5,ls.set d5.toNat d4,rfl,by rw [AD,List.map_set],by rw [List.length_set];exact ll,?_,(F6.put ⟨lt,lc⟩).feed.mono (by lia),FZ (f3.trans ((AY f4).trans ((AY f5).trans (AY f6)))) hl⟩
  intro x hx
  rcases List.mem_or_eq_of_mem_set hx with h | h
  ·exact hs x h
  ·rw [h];lia
 rintro σ H4 ⟨ls,rfl,gl4,ll,hs,F4,f4⟩
 have n0:(0:Int)<=2+M - d2:=by lia
 refine ⟨d2,2+M,rfl,⟨by lia,by lia,by lia,by lia⟩,?_⟩
 obtain ⟨W,hW,w1,w7⟩:∃ W:Nat,(2+(M:Int) - d2).toNat=W/\1<=W/\W<=7:=⟨_,rfl,by lia,by lia⟩
 rw [hW]
 refine BU (fun i ys H'=>Same H4 H'/\∃ rs:List (List Bool),rs.length=i/\(∀ r∈rs,r.length=M+2)/\Reps K H' (AQ rs) ys) ⟨fun _ _ e=>e,[],rfl,nofun,Af⟩ (fun i ys H' hi ⟨_,rs,e,_,R'⟩=>by
  rw [<- R'.length,Ca];exact Aj (by lia)) ?_ ?_
 ·rintro i ys H1 hi ⟨S1,rs,rfl,hr1,R1⟩
  refine ⟨(2+M:Int),rfl,by lia,by lia,?_⟩
  refine BU (fun j zs H'=>H'=H1/\∃ bs:List Bool,zs=bs.map V.bl/\bs.length=j) ⟨rfl,[],rfl,rfl⟩ (fun j zs H' hj ⟨_,bs,e,el⟩=>by
   rw [e,List.length_map,el];exact Aj (by lia)) ?_ ?_
  ·rintro j zs H' hj ⟨rfl,bs,rfl,rfl⟩
   exact ⟨rfl,bs++[_],by rw [List.map_append];rfl,by rw [List.length_append];rfl⟩
  ·rintro zs H' ⟨rfl,bs,rfl,hb⟩ k hk
   refine ⟨_,.inl ⟨.of AD,fun p hp=>?_⟩⟩
   have s3:=(Same.upd (o:=.lst (bs.map V.bl)) hk).trans (Same.upd (o:=.tup (bs.map V.bl)) hp)
   refine ⟨S1.trans s3,rs++[bs],by rw [List.length_append];rfl,?_,?_⟩
   ·intro r hr'
    rcases List.mem_append.mp hr' with h | h
    ·exact hr1 r h
    ·rw [List.mem_singleton.mp h];lia
   ·have e:AQ (rs++[bs])=AQ rs++[.tup (bs.map Dv.bl)]:=by unfold AQ;rw [List.map_append];rfl
    rw [e]
    exact Reps.append (Reps.same s3 _ _ R1) (Ab (BC AD (Bt bs)) Af)
 ·rintro ys H1 ⟨S1,rs,hrl,hr1,R1⟩ k hk
  have s2:Same H1 (upd H1 k (.lst ys)):=Same.upd hk
  have g2:upd H1 k (.lst ys) k=some (.lst ys):=AD
  generalize upd H1 k (.lst ys)=H2' at *
  dsimp only [AR]
  refine ⟨_,.inl ⟨.of (s2 _ _ (S1 _ _ gl4)),fun p hp=>?_⟩⟩
  have s3:Same H2' (upd H2' p (.tup (ls.map V.int))):=Same.upd hp
  have g3:upd H2' p (.tup (ls.map V.int)) p=some (.tup (ls.map V.int)):=AD
  generalize upd H2' p (.tup (ls.map V.int))=H3' at *
  refine ⟨_,.inl ⟨.of (s3 _ _ g2),fun p4 hp4=>?_⟩⟩
  refine ⟨Ae (show 2<=1000 by decide),fun p5 hp5=>?_⟩
  have s5:=(Same.upd (o:=.tup ys) hp4).trans (Same.upd (o:=.tup [.ref p,.ref p4]) hp5)
  have S5:=S1.trans (s2.trans (s3.trans s5))
  refine q ls rs _ _ ⟨by lia,by lia,by lia,by lia,fun r h=>by rw [hr1 r h];lia,fun x h=>Nat.le_trans (hs x h) (by decide)⟩ ?_ (F4.same S5) (f4.trans fun b o _ e=>S5 b o e)
  exact BC AD (Ab (BC (s5 _ _ g3) (Fa ls)) (Ab (BC (Same.upd hp5 _ _ AD) (Reps.same (s2.trans (s3.trans s5)) _ _ R1)) Af))
theorem JZ {ns:List Int} {i lo hi:Int} (h0:0<=i) (h1:i < ns.length) (h:∀ x∈ns,lo<=x/\x<=hi):∃ z,atI (ns.map V.int) i=some (.int z)/\lo<=z/\z<=hi:=by
 have hi':i.toNat < ns.length:=by lia
 exact ⟨ns[i.toNat],BI (n:=i.toNat) (by lia) (by rw [List.getElem?_map,List.getElem?_eq_getElem hi'];rfl),h _ (List.getElem_mem hi')⟩
theorem Tn {a b c:V} {i:Int} (h0:0<=i) (h1:i < 3):∃ z,atI [a,b,c] i=some z/\(z=a\/z=b\/z=c):=by
 obtain ⟨n,rfl⟩:∃ n:Nat,i=n:=⟨i.toNat,by lia⟩
 match n,h1 with
 | 0,_=>exact ⟨a,rfl,.inl rfl⟩
 | 1,_=>exact ⟨b,rfl,.inr (.inl rfl)⟩
 | 2,_=>exact ⟨c,rfl,.inr (.inr rfl)⟩
 | n+3,h=>lia
theorem NV:FnOk P w K mg base CX0 2 T.f_z30 T.d_z30 ["_law_feed_here"] (Bw K 300 850000000):=by
 have G_z46:=Di (P:=P) (w:=w) (base:=base) T
 refine T.F_z30.ok sc_z30 (fun vs H Q E h=>by unfold Bw at h;split at h <;> first | rfl | exact h.elim) (fun cdv A outer s H vs Q E hr h=>?_)
 have hu:=AZ hr
 have hr_z46:=hr.mono (show 1<=_ by decide)
 unfold Bw at h
 split at h
 rotate_left
 ·exact h.elim
 rename_i t
 obtain ⟨N,F,hN,q⟩:=h
 refine ⟨_,(@AG _ _ _ _ _ (@AM _ _ 1 _ _ _ _ sc_z30.nd rfl (by right) (@BY _ _ _ _ (AA (AO (BG (K:=K)) AC (AL G_z46 hr_z46 rfl T.m_z46 T.F_z46.kp T.b_z46 .nil AE (AA (vv 0) (AA AC AB)))) (AA (AO (BG (K:=K)) AC (AL G_z46 hr_z46 rfl T.m_z46 T.F_z46.kp T.b_z46 .nil AE (AA (vv 0) (AA AC AB)))) (AA (AO (BG (K:=K)) AC (AL G_z46 hr_z46 rfl T.m_z46 T.F_z46.kp T.b_z46 .nil AE (AA (vv 0) (AA AC AB)))) (AA (AO (BG (K:=K)) AC (AL G_z46 hr_z46 rfl T.m_z46 T.F_z46.kp T.b_z46 .nil AE (AA (vv 0) (AA AC AB)))) AB))))) (by rfl) (by symm)) (@AG _ _ _ _ _ (@AM _ _ 1 _ _ _ _ sc_z30.nd rfl (by right) (kIx (K:=K) (vv 1) (AL G_z46 hr_z46 rfl T.m_z46 T.F_z46.kp T.b_z46 .nil AE (AA (vv 0) (AA AC AB)))) (by rfl) (by symm)) (@AG _ _ _ _ _ (@AM _ _ 2 _ _ _ _ sc_z30.nd rfl (by right) (kIx (K:=K) (@BY _ _ _ _ (AA (AO (BG (K:=K)) AC (AL G_z46 hr_z46 rfl T.m_z46 T.F_z46.kp T.b_z46 .nil AE (AA (vv 0) (AA AC AB)))) (AA (AO (BG (K:=K)) AC (AL G_z46 hr_z46 rfl T.m_z46 T.F_z46.kp T.b_z46 .nil AE (AA (vv 0) (AA AC AB)))) (AA (AO (BG (K:=K)) AC (AL G_z46 hr_z46 rfl T.m_z46 T.F_z46.kp T.b_z46 .nil AE (AA (vv 0) (AA AC AB)))) AB)))) (AL G_z46 hr_z46 rfl T.m_z46 T.F_z46.kp T.b_z46 .nil AE (AA (vv 0) (AA AC AB)))) (by rfl) (by symm)) (@AG _ _ _ _ _ (@SS _ _ 3 _ _ _ _ sc_z30.nd rfl (by right) (@kIx _ K _ _ _ _ _ (@BY _ _ _ _ (@AA _ _ _ _ _ (@BY _ _ _ _ (@AA _ _ _ _ _ AC (@pa1 _ _ _ AC (by rfl)) (by rfl))) (@AA _ _ _ _ _ (@BY _ _ _ _ (@AA _ _ _ _ _ (TZ QY AC) (@AA _ _ _ _ _ (AO J7 AC AC) (@pa1 _ _ _ AC (by rfl)) (by rfl)) (by rfl))) (@AA _ _ _ _ _ (@BY _ _ _ _ (@AA _ _ _ _ _ AC (@AA _ _ _ _ _ AC (@AA _ _ _ _ _ AC (@AA _ _ _ _ _ AC (@AA _ _ _ _ _ AC (@AA _ _ _ _ _ AC (@AA _ _ _ _ _ AC (@AA _ _ _ _ _ AC (@AA _ _ _ _ _ AC (@pa1 _ _ _ AC (by rfl)) (by rfl)) (by rfl)) (by rfl)) (by rfl)) (by rfl)) (by rfl)) (by rfl)) (by rfl)) (by rfl))) (@AB _) L2.star_lst) L2.star_lst) L2.star_lst)) (AL G_z46 hr_z46 rfl T.m_z46 T.F_z46.kp T.b_z46 .nil AE (AA (vv 0) (AA AC AB))) (by intro _ _;rfl) (by rfl)) rfl (by first | exact .inl rfl | exact .inr rfl)) (@AG _ _ _ _ _ (@C3 _ _ _ _ _ _ _ (["_law_k","_law_names","_law_feed_here"]) 1 ([3,0]) _ _ _ _ 4 _ _ _ rfl sc_z30.nd rfl rfl (Ay rfl T.z_range (AA (vv 1) AB)) (by kernel_rfl) rfl rfl (by kernel_rfl) (fun c=>AX (i:=0) (show (["_law_k","_law_names","_law_feed_here"]:List Str).Nodup by decide +kernel) rfl (by right)) (Ai (by decide)) (fun c=>Au) (fun c=>(kIx (K:=K) (vv 1) (AL G_z46 hr_z46 rfl T.m_z46 T.F_z46.kp T.b_z46 .nil AE (AA (vv 2) (AA (Ar (Az (K:=K)) rfl T.z_len (by rfl) (AA (vv 1) AB)) AB))))) (by rfl) (by intro _;rfl)) (@AG _ _ _ _ _ (@AM _ _ 5 _ _ _ _ sc_z30.nd rfl (by right) (@BY _ _ _ _ AB) (by rfl) (by symm)) (@AG _ _ _ _ _ (@Bk _ _ _ _ _ _ _ _ PassesOwn.never rfl (Ay rfl T.z_range (AA (vv 2) AB)) (AX (i:=6) sc_z30.nd rfl (by right)) (@AI _ _ _ (@CD _ _ _ _ (Gg (K:=K) (vv 5) (AA (As (BB (K:=K)) rfl T.z_tuple (by rfl) (AA (A5 (N':=["_law_thing","_law_feed_here"]) (own:=1) (ix:=[0]) rfl (Ay rfl T.z_range (AA (vv 1) AB)) (by kernel_rfl) rfl rfl (by kernel_rfl) (fun c=>AX (i:=0) (show (["_law_thing","_law_feed_here"]:List Str).Nodup by decide +kernel) rfl (by right)) (Ai (by decide)) (fun c=>Au) (fun c=>(Bh (kEq (K:=K) hu) (AL G_z46 hr_z46 rfl T.m_z46 T.F_z46.kp T.b_z46 .nil AE (AA (vv 1) (AA AC AB))) AC))) AB)) AB)) (by rfl))) (by intro _;rfl)) (@AI _ _ _ (@AN _ _ _ _ (Ba (AA (As (BB (K:=K)) rfl T.z_tuple (by rfl) (AA (vv 4) AB)) (AA (As (BB (K:=K)) rfl T.z_tuple (by rfl) (AA (vv 5) AB)) AB)))))))))))),?_⟩
 have d4:okDiv 4:=Am (by decide) (by decide)
 have d5:okDiv 5:=Am (by decide) (by decide)
 have d6:okDiv 6:=Am (by decide) (by decide)
 have d3:okDiv 3:=Am (by decide) (by decide)
 have d16:okDiv 16:=Am (by decide) (by decide)
 refine Ak (fun σ H'=>∃ (l:Addr) (a b c d:Int),σ=[some (.ref t),some (.ref l),none,none,none,none,none]/\H' l=some (.lst ([a,b,c,d].map V.int))/\l≠t/\(∀ x∈[a,b,c,d],1<=x/\x<=10)/\GFeed H' t (N+4)/\Frm t H H') ?_ ?_ (by walk_at "sm")
 ·refine ⟨_,F,by lia,d6,fun a H1 a0 a1 F1 f1=>?_⟩
  refine ⟨_,F1,by lia,d6,fun b H2 b0 b1 F2 f2=>?_⟩
  refine ⟨_,F2,by lia,d6,fun c H3 c0 c1 F3 f3=>?_⟩
  refine ⟨_,F3,by lia,d4,fun d H4 d0 d1 F4 f4=>?_⟩
  refine ⟨Ae (show 4<=1000 by decide),fun l hl=>?_⟩
  refine ⟨l,1+a,2+b,2+c,7+d,rfl,AD,F4.neT hl,?_,F4.upd hl,(((AY f1).trans (AY f2)).trans ((AY f3).trans (AY f4))).trans (Frm.upd hl)⟩
  simp only [List.mem_cons,List.not_mem_nil,or_false]
  lia
 rintro σ H1 ⟨l,a,b,c,d,rfl,gl,lt,hb,F1,f1⟩
 refine Ak (fun σ H'=>∃ M:Nat,σ=[some (.ref t),some (.int M),none,none,none,none,none]/\1<=M/\M<=10/\GFeed H' t (N+5)/\Frm t H H') ?_ ?_ (by walk_at "sm")
 ·refine ⟨_,F1,by lia,d4,fun i H2 i0 i1 F2 f2=>?_⟩
  obtain ⟨z,hz,z1,z2⟩:=JZ (ns:=[a,b,c,d]) i0 i1 hb
  refine ⟨_,_,.inl (.of (by rw [f2 l lt];exact gl)),hz,z.toNat,?_,by lia,by lia,F2,f1.trans (AY f2)⟩
  rw [Int.toNat_of_nonneg (by lia)]
  rfl
 clear gl lt hb F1 f1
 rintro σ H1 ⟨M,rfl,M1,M10,F1,f1⟩
 refine Ak (fun σ H'=>∃ W:Nat,σ=[some (.ref t),some (.int M),some (.int W),none,none,none,none]/\1<=W/\W<=16/\GFeed H' t (N+9)/\Frm t H H') ?_ ?_ (by walk_at "sm")
 ·refine ⟨_,F1,by lia,d5,fun a H2 a0 a1 F2 f2=>?_⟩
  refine ⟨_,F2,by lia,d4,fun b H3 b0 b1 F3 f3=>?_⟩
  refine ⟨_,F3,by lia,d16,fun c H4 c0 c1 F4 f4=>?_⟩
  refine ⟨Ae (show 3<=1000 by decide),fun l hl=>?_⟩
  have F5:=F4.upd (o:=.lst [.int (1+a),.int (2+b),.int (1+c)]) hl
  refine ⟨_,F5,by lia,d3,fun i H6 i0 i1 F6 f6=>?_⟩
  obtain ⟨z,hz,z1,z2⟩:=JZ (ns:=[1+a,2+b,1+c]) (lo:=1) (hi:=16) i0 i1 (by
   simp only [List.mem_cons,List.not_mem_nil,or_false]
   lia)
  refine ⟨_,_,.inl (.of (by rw [f6 l (F4.neT hl)];exact AD)),hz,z.toNat,?_,by lia,by lia,F6.mono (by lia),f1.trans (((AY f2).trans ((AY f3).trans (AY f4))).trans ((Frm.upd hl).trans (AY f6)))⟩
  rw [Int.toNat_of_nonneg (by lia)]
  rfl
 clear F1 f1
 rintro σ H1 ⟨W,rfl,W1,W16,F1,f1⟩
 refine Ak (fun σ H'=>∃ (l:Addr) (ns:List Int),σ=[some (.ref t),some (.int M),some (.int W),some (.ref l),none,none,none]/\H' l=some (.lst (ns.map V.int))/\l≠t/\1<=ns.length/\ns.length<=10/\(∀ x∈ns,x.natAbs<=100000000000000000000)/\GFeed H' t (N+10)/\Frm t H H') ?_ ?_ (by walk_at "sm")
 ·have bound:∀ (x:V) (l:Addr) (ns:List Int) (H':Hp),x=.ref l->H' l=some (.lst (ns.map V.int))->l≠t->1<=ns.length->ns.length<=10->(∀ x∈ns,x.natAbs<=100000000000000000000)->GFeed H' t (N+10)->Frm t H H'->∃ (l:Addr) (ns:List Int),[some (V.ref t),some (.int M),some (.int W),some x,none,none,none]=[some (.ref t),some (.int M),some (.int W),some (.ref l),none,none,none]/\H' l=some (.lst (ns.map V.int))/\l≠t/\1<=ns.length/\ns.length<=10/\(∀ x∈ns,x.natAbs<=100000000000000000000)/\GFeed H' t (N+10)/\Frm t H H' :=
   fun x l ns H' e h1 h2 h3 h4 h5 h6 h7=>⟨l,ns,by rw [e],h1,h2,h3,h4,h5,h6,h7⟩
  refine ⟨Ae (show 2<=1000 by decide),fun p hp=>?_⟩
  have sa:Same H1 (upd H1 p (.lst [.int 0,.int 1])):=Same.upd hp
  have ga:upd H1 p (.lst [.int 0,.int 1]) p=some (.lst [.int 0,.int 1]):=AD
  generalize upd H1 p (.lst [.int 0,.int 1])=Ha at *
  refine ⟨⟨by decide,by decide,by decide⟩,?_⟩
  refine ⟨Ae (show 3<=1000 by decide),fun p2 hp2=>?_⟩
  generalize hten:(10:Int) ^ Int.toNat 20=ten
  have sb:Same Ha (upd Ha p2 (.lst [.int (-7),.int ten,.int 3])):=Same.upd hp2
  have gb:upd Ha p2 (.lst [.int (-7),.int ten,.int 3]) p2=some (.lst [.int (-7),.int ten,.int 3]):=AD
  generalize upd Ha p2 (.lst [.int (-7),.int ten,.int 3])=Hb at *
  refine ⟨Ae (show 10<=1000 by decide),fun p3 hp3=>?_⟩
  have sc:Same Hb (upd Hb p3 (.lst ([5,1,4,2,3,0,7,6,8,9].map V.int))):=Same.upd hp3
  have gc:upd Hb p3 (.lst ([5,1,4,2,3,0,7,6,8,9].map V.int)) p3=some (.lst ([5,1,4,2,3,0,7,6,8,9].map V.int)):=AD
  refine (show ∀ Hc,Same Hb Hc->Hc p3=some (.lst ([5,1,4,2,3,0,7,6,8,9].map V.int))->_ from ?_) (upd Hb p3 (.lst ([5,1,4,2,3,0,7,6,8,9].map V.int))) sc gc
  clear sc gc
  intro Hc sc gc
  refine ⟨Ae (show 3<=1000 by decide),fun p4 hp4=>?_⟩
  have sd:Same Hc (upd Hc p4 (.lst [.ref p,.ref p2,.ref p3])):=Same.upd hp4
  have gd:upd Hc p4 (.lst [.ref p,.ref p2,.ref p3]) p4=some (.lst [.ref p,.ref p2,.ref p3]):=AD
  have Fc:=F1.same (sa.trans (sb.trans sc))
  have pt:p≠t:=F1.neT hp
  have pt2:p2≠t:=(F1.same sa).neT hp2
  have pt3:p3≠t:=(F1.same (sa.trans sb)).neT hp3
  have pt4:p4≠t:=Fc.neT hp4
  generalize upd Hc p4 (.lst [.ref p,.ref p2,.ref p3])=Hd at *
  have S:=sa.trans (sb.trans (sc.trans sd))
  refine ⟨_,F1.same S,by lia,d3,fun i H5 i0 i1 F5 f5=>?_⟩
  obtain ⟨z,hz,hz3⟩:=Tn (a:=V.ref p) (b:=V.ref p2) (c:=V.ref p3) i0 i1
  refine ⟨_,_,.inl (.of (by rw [f5 p4 pt4];exact gd)),hz,?_⟩
  have f:Frm t H H5:=f1.trans (Frm.trans (fun b o _ e=>S b o e) (AY f5))
  rcases hz3 with e | e | e
  ·exact bound z p [0,1] H5 e (by rw [f5 p pt];exact (sb.trans (sc.trans sd)) _ _ ga) pt (by decide) (by decide) (by decide) F5 f
  ·refine bound z p2 [-7,ten,3] H5 e (by rw [f5 p2 pt2];exact (sc.trans sd) _ _ gb) pt2 (show 1<=3 by decide) (show 3<=10 by decide) ?_ F5 f
   rw [<- hten]
   decide
  ·exact bound z p3 [5,1,4,2,3,0,7,6,8,9] H5 e (by rw [f5 p3 pt3];exact sd _ _ gc) pt3 (by decide) (by decide) (by decide) F5 f
 rintro σ H2 ⟨l,ns,rfl,gl,lt,n1,n10,hn,F2,f2⟩
 refine Ak (fun σ H'=>∃ (z:V) (k:Addr) (ls:List Int),σ=[some (.ref t),some (.int M),some (.int W),z,some (.ref k),none,none]/\H' k=some (.lst (ls.map V.int))/\k≠t/\ls.length=M/\(∀ x∈ls,x.natAbs<=100000000000000000000)/\GFeed H' t (N+10+M)/\Frm t H H') ?_ ?_ (by walk_at "sm")
 ·refine ⟨(M:Int),rfl,by lia,by lia,?_⟩
  refine BU (fun i ys H'=>GFeed H' t (N+10+i)/\Frm t H H'/\H' l=some (.lst (ns.map V.int))/\∃ ls:List Int,ys=ls.map V.int/\ls.length=i/\∀ x∈ls,x.natAbs<=100000000000000000000) ⟨F2,f2,gl,[],rfl,rfl,nofun⟩ (fun i ys H' hi ⟨_,_,_,ls,e,el,_⟩=>by
   rw [e,List.length_map,el];exact Aj (by lia)) ?_ ?_
  ·rintro i ys H3 hi ⟨F3,f3,gl3,ls,rfl,el,hs⟩
   refine ⟨_,.inl ⟨_,.of gl3,rfl⟩,?_⟩
   refine ⟨_,F3,by lia,Am (by rw [List.length_map];lia) (by rw [List.length_map];lia),fun d H4 x0 x1 F4 f4=>?_⟩
   rw [List.length_map] at x1
   have hd:d.toNat < ns.length:=by lia
   refine ⟨_,_,.inl (.of (by rw [f4 l lt];exact gl3)),BI (n:=d.toNat) (by lia) (by rw [List.getElem?_map,List.getElem?_eq_getElem hd];rfl),F4.mono (by lia),f3.trans (AY f4),by rw [f4 l lt];exact gl3,ls++[ns[d.toNat]],by rw [List.map_append];rfl,by rw [List.length_append,el];rfl,?_⟩
   intro x hx
   rcases List.mem_append.mp hx with h | h
   ·exact hs x h
   ·rw [List.mem_singleton.mp h];exact hn _ (List.getElem_mem hd)
  ·rintro ys H3 ⟨F3,f3,gl3,ls,rfl,el,hs⟩ k hk
   rw [Int.toNat_natCast] at el F3
   exact ⟨_,k,ls,rfl,AD,F3.neT hk,el,hs,F3.upd hk,f3.trans (Frm.upd hk)⟩
 clear F2 f2 gl
 rintro σ H2 ⟨z,k,ls,rfl,gk,kt,ll,hs,F2,f2⟩
 refine ⟨Ae (show 0<=1000 by decide),fun r hr'=>?_⟩
 have hrH:H r=none:=F2.free f2 hr'
 have rt:r≠t:=F2.neT hr'
 have rk:k≠r:=fun e=>by rw [e,hr'] at gk;cases gk
 dsimp only [AR]
 refine Ak (fun σ H'=>∃ (z6:Option V) (rs:List (List Bool)) (ys:List V),σ=[some (.ref t),some (.int M),some (.int W),z,some (.ref k),some (.ref r),z6]/\H' k=some (.lst (ls.map V.int))/\H' r=some (.lst ys)/\rs.length=W/\(∀ b∈rs,b.length=M)/\Reps K H' (AQ rs) ys/\GFeed H' t (N+300)/\Frm t H H') ?_ ?_ (by walk_at "sm")
 ·refine ⟨(W:Int),rfl,by lia,by lia,?_⟩
  refine B4 (fun i σ H'=>∃ (z6:Option V) (rs:List (List Bool)) (ys:List V),σ=[some (.ref t),some (.int M),some (.int W),z,some (.ref k),some (.ref r),z6]/\H' k=some (.lst (ls.map V.int))/\H' r=some (.lst ys)/\rs.length=i/\(∀ b∈rs,b.length=M)/\Reps K H' (AQ rs) ys/\GFeed H' t (N+10+M+M * i)/\Frm t H H') ⟨none,[],[],rfl,by rw [AJ rk];exact gk,AD,rfl,nofun,Af,F2.upd hr',f2.trans (Frm.upd hr')⟩ ?_ ?_
  ·rintro i σ H3 hi ⟨z6,rs,ys,rfl,gk3,gr3,rl,hb,R3,F3,f3⟩
   have hMi:M * i<=160:=Nat.le_trans (Nat.mul_le_mul M10 (show i<=16 by lia)) (by decide)
   have hyl:ys.length=i:=by rw [<- R3.length,Ca,rl]
   refine ⟨.inl ⟨rfl,_,.of gr3⟩,?_⟩
   refine ⟨(M:Int),rfl,by lia,by lia,?_⟩
   refine BU (fun j zs H'=>GFeed H' t (N+10+M+M * i+j)/\Frm t H3 H'/\∃ bs:List Bool,zs=bs.map V.bl/\bs.length=j) ⟨F3,Frm.refl,[],rfl,rfl⟩ (fun j zs H' hj ⟨_,_,bs,e,el⟩=>by
    rw [e,List.length_map,el];exact Aj (by lia)) ?_ ?_
   ·rintro j zs H4 hj ⟨F4,f4,bs,rfl,rfl⟩
    refine ⟨_,F4,by lia,Am (by decide) (by decide),fun d H5 _ _ F5 f5=>?_⟩
    exact ⟨F5.mono (by lia),f4.trans (AY f5),bs++[_],by rw [List.map_append];rfl,by rw [List.length_append];rfl⟩
   ·rintro zs H4 ⟨F4,f4,bs,rfl,el⟩ k4 hk4
    rw [Int.toNat_natCast] at el F4
    refine ⟨_,.inl ⟨.of AD,fun p hp=>?_⟩⟩
    have s5:=(Same.upd (o:=.lst (bs.map V.bl)) hk4).trans (Same.upd (o:=.tup (bs.map V.bl)) hp)
    have g5:=AD (H:=upd H4 k4 (.lst (bs.map V.bl))) (a:=p) (o:=.tup (bs.map V.bl))
    generalize upd (upd H4 k4 (.lst (bs.map V.bl))) p (.tup (bs.map V.bl))=H5 at *
    have f35:Frm t H3 H5:=f4.trans fun b o _ e=>s5 b o e
    have gr5:H5 r=some (.lst ys):=f35 _ _ rt gr3
    have R5:Reps K H5 (AQ (rs++[bs])) (ys++[.ref p]):=by
     have e:AQ (rs++[bs])=AQ rs++[.tup (bs.map Dv.bl)]:=by unfold AQ;rw [List.map_append];rfl
     rw [e]
     exact Reps.append (Reps.frm f35 F3.lst _ _ (Bz _) R3) (Ab (BC g5 (Bt bs)) Af)
    refine ⟨_,gr5,Aj (by lia),?_⟩
    refine ⟨_,rs++[bs],_,rfl,by rw [AJ rk];exact f35 _ _ kt gk3,AD,by rw [List.length_append,rl];rfl,?_,Reps.frm Frm.updT ⟨_,gr5⟩ _ _ (Bz _) R5,((F4.same s5).put rt gr5 (KD (Reps.frm f35 F3.lst _ _ (Bz _) R3))).mono (by rw [Nat.mul_succ];lia),FZ (f3.trans f35) hrH⟩
    intro b hb'
    rcases List.mem_append.mp hb' with h | h
    ·exact hb b h
    ·rw [List.mem_singleton.mp h];exact el
  ·rintro σ H3 ⟨z6,rs,ys,rfl,gk3,gr3,rl,hb,R3,F3,f3⟩
   rw [Int.toNat_natCast] at rl F3
   have hMi:M * W<=160:=Nat.le_trans (Nat.mul_le_mul M10 W16) (by decide)
   exact ⟨z6,rs,ys,rfl,gk3,gr3,rl,hb,R3,F3.mono (by lia),f3⟩
 rintro σ H3 ⟨z6,rs,ys,rfl,gk3,gr3,rl,hb,R3,F3,f3⟩
 refine ⟨_,.inl ⟨.of gk3,fun p hp=>?_⟩⟩
 have s4:Same H3 (upd H3 p (.tup (ls.map V.int))):=Same.upd hp
 have g4:upd H3 p (.tup (ls.map V.int)) p=some (.tup (ls.map V.int)):=AD
 generalize upd H3 p (.tup (ls.map V.int))=H4 at *
 refine ⟨_,.inl ⟨.of (s4 _ _ gr3),fun p4 hp4=>?_⟩⟩
 refine ⟨Ae (show 2<=1000 by decide),fun p5 hp5=>?_⟩
 have s5:=(Same.upd (o:=.tup ys) hp4).trans (Same.upd (o:=.tup [.ref p,.ref p4]) hp5)
 have S5:=s4.trans s5
 refine q ls rs _ _ ⟨by lia,by lia,by lia,by lia,fun r h=>by rw [hb r h];lia,hs⟩ ?_ (F3.same S5) (f3.trans fun b o _ e=>S5 b o e)
 exact BC AD (Ab (BC (s5 _ _ g4) (Fa ls)) (Ab (BC (Same.upd hp5 _ _ AD) (Reps.same S5 _ _ R3)) Af))
theorem TV:∀ vs H Q E,KY K vs H Q E->Cg K vs H Q E:=fun vs H Q E h=>by
 unfold KY at h
 unfold Cg
 split at h
 ·obtain ⟨m,M,N,h1,h2,h3,h4,h5,h6,h7,h8,q⟩:=h;exact ⟨m,M,N,h1,h2,h3,h4,by lia,h6,h7,by lia,fun ts xs p H' x1 x2 x3 _ x4 x5 x6 x7 x8=>q ts xs p H' x1 x2 x3 x4 x5 x6 x7 x8⟩
 ·exact h.elim
theorem Ol (bs:List Bool) (m:Nat) (h:bs.length=2 ^ m) (m1:1<=m) (m4:m<=4):∃ ls rs,HY bs m=gmD ls rs/\Gm ls rs:=by
 have h16:2 ^ m<=16:=Nat.pow_le_pow_right (n:=2) (j:=4) (by decide) m4
 have h2:2<=2 ^ m:=Nat.pow_le_pow_right (n:=2) (i:=1) (by decide) m1
 refine ⟨bs.map fun b=>if b then 1 else 0,(List.range m).map (Bl m),?_,?_⟩
 ·unfold HY gmD G5 By AQ
  rw [List.map_map,List.map_map]
  rfl
 ·refine ⟨by rw [List.length_map];lia,by rw [List.length_map];lia,by rw [List.length_map,List.length_range];lia,by rw [List.length_map,List.length_range];lia,?_,?_⟩
  ·intro r hr
   obtain ⟨i,_,rfl⟩:=List.mem_map.mp hr
   rw [Ot,List.length_map,h]
  ·intro x hx
   obtain ⟨b,_,rfl⟩:=List.mem_map.mp hx
   cases b <;> decide
theorem PY:FnOk P w K mg base CX0 4 T.f_z44 T.d_z44 ["_law_feed_here"] (Bw K 500 800000000):=by
 have G_z46:=Di (P:=P) (w:=w) (base:=base) T;have G_z25:=PP (P:=P) (w:=w) (base:=base) T;have G_z24:=Np (P:=P) (w:=w) (base:=base) T;have G_z42:=NZ (P:=P) (w:=w) (base:=base) T;have G_z30:=NV (P:=P) (w:=w) (base:=base) T;have G_z40:=JY (P:=P) (w:=w) (base:=base) T;have G_z39:=J3 (P:=P) (w:=w) (base:=base) T
 have G_z39:=G_z39.imp TV
 refine T.F_z44.ok sc_z44 (fun vs H Q E h=>by unfold Bw at h;split at h <;> first | rfl | exact h.elim) (fun cdv A outer s H vs Q E hr h=>?_)
 have hu:=AZ hr
 have hr_z46:=hr.mono (show 1<=_ by decide);have hr_z25:=hr.mono (show 1<=_ by decide);have hr_z24:=hr.mono (show 1<=_ by decide);have hr_z42:=hr.mono (show 2<=_ by decide);have hr_z30:=hr.mono (show 2<=_ by decide);have hr_z40:=hr.mono (show 2<=_ by decide);have hr_z39:=hr.mono (show 3<=_ by decide)
 unfold Bw at h
 split at h
 rotate_left
 ·exact h.elim
 rename_i t
 obtain ⟨N,F,hN,q⟩:=h
 refine ⟨_,(@AG _ _ _ _ _ (@AM _ _ 1 _ _ _ _ sc_z44.nd rfl (by right) (AL G_z46 hr_z46 rfl T.m_z46 T.F_z46.kp T.b_z46 .nil AE (AA (vv 0) (AA AC AB))) (by rfl) (by symm)) (@AG _ _ _ _ _ (@Aw _ _ _ _ _ _ _ _ (Ag (kEq (K:=K) hu) (vv 1) AC) (@AI _ _ _ (@AN _ _ _ _ (AL G_z25 hr_z25 rfl T.m_z25 T.F_z25.kp T.b_z25 .nil AE (AA (AL G_z40 hr_z40 rfl T.m_z40 T.F_z40.kp T.b_z40 .nil AE (AA (vv 0) (AA (AO (BG (K:=K)) AC (AL G_z46 hr_z46 rfl T.m_z46 T.F_z46.kp T.b_z46 .nil AE (AA (vv 0) (AA AC AB)))) AB))) AB)))) Av) (@AG _ _ _ _ _ (@Aw _ _ _ _ _ _ _ _ (Ag (kEq (K:=K) hu) (vv 1) AC) (@AI _ _ _ (@AN _ _ _ _ (AL G_z24 hr_z24 rfl T.m_z24 T.F_z24.kp T.b_z24 .nil AE (AA (AL G_z39 hr_z39 rfl T.m_z39 T.F_z39.kp T.b_z39 .nil AE (AA (vv 0) (AA (AO (BG (K:=K)) AC (AL G_z46 hr_z46 rfl T.m_z46 T.F_z46.kp T.b_z46 .nil AE (AA (vv 0) (AA AC AB)))) (AA (AO (BG (K:=K)) AC (AL G_z46 hr_z46 rfl T.m_z46 T.F_z46.kp T.b_z46 .nil AE (AA (vv 0) (AA AC AB)))) AB)))) AB)))) Av) (@AI _ _ _ (@AN _ _ _ _ (Ec (Ag (kEq (K:=K) hu) (vv 1) AC) (AL G_z42 hr_z42 rfl T.m_z42 T.F_z42.kp T.b_z42 .nil AE (AA (vv 0) AB)) (AL G_z30 hr_z30 rfl T.m_z30 T.F_z30.kp T.b_z30 .nil AE (AA (vv 0) AB)))))))),?_⟩
 have d4:okDiv 4:=Am (by decide) (by decide)
 have d5:okDiv 5:=Am (by decide) (by decide)
 have d6:okDiv 6:=Am (by decide) (by decide)
 have d3:okDiv 3:=Am (by decide) (by decide)
 refine ⟨_,F,by lia,d6,fun way H1 w0 w1 F1 f1=>?_⟩
 dsimp only [AR]
 refine An (fun e=>?_) (fun e=>?_)
 ·refine ⟨_,F1,by lia,d4,fun a H2 a0 a1 F2 f2=>?_⟩
  obtain ⟨m,hm⟩:∃ m:Nat,1+a=m:=⟨(1+a).toNat,by lia⟩
  rw [show DT K (V.int 1) (V.int a) H2=fun Q=>Q (.int (1+a)) H2 from rfl]
  rw [hm]
  refine ⟨m,_,F2,by lia,rfl,by lia,by lia,fun bs p H3 hb hp g3 F3 f3=>?_⟩
  refine ⟨bs,m,.of g3,hb,by lia,by lia,fun u H4 s4 r4=>?_⟩
  obtain ⟨ls,rs,e,g⟩:=Ol bs m hb (by lia) (by lia)
  rw [e] at r4
  exact q ls rs u H4 g r4 ((F3.same s4).mono (by lia)) ((AY f1).trans ((AY f2).trans (f3.trans fun b o _ e=>s4 b o e)))
 dsimp only [Bj]
 refine An (fun e=>?_) (fun e=>?_)
 ·refine ⟨_,F1,by lia,d3,fun a H2 a0 a1 F2 f2=>?_⟩
  refine ⟨_,F2,by lia,d5,fun b H3 b0 b1 F3 f3=>?_⟩
  obtain ⟨m,hm⟩:∃ m:Nat,1+a=m:=⟨(1+a).toNat,by lia⟩
  obtain ⟨M,hM⟩:∃ M:Nat,2+b=M:=⟨(2+b).toNat,by lia⟩
  refine ⟨m,M,_,F3,by lia,hm,by lia,by lia,hM,by lia,by lia,fun ts xs p H4 t2 tM tb hp g4 R4 F4 f4=>?_⟩
  have h8:2 ^ m<=8:=Nat.pow_le_pow_right (n:=2) (j:=3) (by decide) (by lia)
  refine ⟨ts,xs,2 ^ m,g4,R4,t2,by lia,tb,Nat.two_pow_pos m,h8,fun ls rs u H5 g s5 r5=>?_⟩
  exact q ls rs u H5 g r5 ((F4.same s5).mono (by lia)) ((AY f1).trans ((AY f2).trans ((AY f3).trans (f4.trans fun b o _ e=>s5 b o e))))
 dsimp only [Bj]
 refine An (fun e=>?_) (fun e=>?_)
 ·exact ⟨_,F1,by lia,fun ls rs u H2 g r2 F2 f2=>q ls rs u H2 g r2 (F2.mono (by lia)) ((AY f1).trans f2)⟩
 ·exact ⟨_,F1,by lia,fun ls rs u H2 g r2 F2 f2=>q ls rs u H2 g r2 (F2.mono (by lia)) ((AY f1).trans f2)⟩
theorem Ka {K:W.Frag} {H:Hp} {d1 d2:Dv} {v:V} (h:Rep K H (.tup [d1,d2]) v):∃ a x1 x2,v=.ref a/\SqT K H a [x1,x2]/\Rep K H d1 x1/\Rep K H d2 x2:=by
 obtain ⟨a,xs,rfl,hs,hx⟩:=DL h
 obtain ⟨x1,r1,rfl,hx1,hx'⟩:=(show ∃ x r,xs=x::r/\Rep K H d1 x/\Reps K H [d2] r by unfold Reps at hx;exact hx)
 obtain ⟨x2,r2,rfl,hx2,hx''⟩:=(show ∃ x r,r1=x::r/\Rep K H d2 x/\Reps K H [] r by unfold Reps at hx';exact hx')
 obtain rfl:r2=[]:=by unfold Reps at hx'';exact hx''
 exact ⟨a,x1,x2,rfl,hs,hx1,hx2⟩
theorem HF {K:W.Frag} {H:Hp}:∀ {bs:List Bool} {xs:List V},Reps K H (bs.map Dv.bl) xs->xs=bs.map V.bl
 | [],xs,h=>by unfold Reps at h;exact h
 | b::bs,xs,h=>by
  rw [List.map_cons] at h
  unfold Reps at h
  obtain ⟨x,r,rfl,h1,h2⟩:=h
  unfold Rep at h1
  rw [h1,HF h2]
  rfl
theorem HQ {K:W.Frag} {H:Hp}:∀ {bs:List Int} {xs:List V},Reps K H (bs.map Dv.int) xs->xs=bs.map V.int
 | [],xs,h=>by unfold Reps at h;exact h
 | b::bs,xs,h=>by
  rw [List.map_cons] at h
  unfold Reps at h
  obtain ⟨x,r,rfl,h1,h2⟩:=h
  unfold Rep at h1
  rw [h1,HQ h2]
  rfl
structure GmAt (K:W.Frag) (H:Hp) (ls:List Int) (rs:List (List Bool)) (a tl rl:Addr) (ps:List Addr):Prop where
 two:SqT K H a [.ref tl,.ref rl]
 lab:SqT K H tl (ls.map V.int)
 rows:SqT K H rl (ps.map V.ref)
 len:ps.length=rs.length
 row:∀ (i:Nat) (q:Addr) (r:List Bool),ps[i]? = some q->rs[i]? = some r->SqT K H q (r.map V.bl)
theorem MY {K:W.Frag} {H:Hp}:∀ {rs:List (List Bool)} {xs:List V},Reps K H (AQ rs) xs->∃ ps:List Addr,xs=ps.map V.ref/\ps.length=rs.length/\∀ (i:Nat) (q:Addr) (r:List Bool),ps[i]? = some q->rs[i]? = some r->SqT K H q (r.map V.bl)
 | [],xs,h=>by
  have:xs=[]:=by simpa [AQ,Reps] using h
  exact ⟨[],this,rfl,fun i q r z=>by simp at z⟩
 | r::rs,xs,h=>by
  have h':Reps K H (Dv.tup (r.map Dv.bl)::AQ rs) xs:=h
  unfold Reps at h'
  obtain ⟨x,ys,rfl,h1,h2⟩:=h'
  obtain ⟨a,zs,rfl,hs,hz⟩:=DL h1
  obtain rfl:=HF hz
  obtain ⟨ps,rfl,hl,hr⟩:=MY h2
  refine ⟨a::ps,rfl,by rw [List.length_cons,List.length_cons,hl],fun i q r' hi hr'=>?_⟩
  cases i with
  | zero=>cases hi;cases hr';exact hs
  | succ i=>exact hr i q r' hi hr'
theorem CT {K:W.Frag} {H:Hp} {ls:List Int} {rs:List (List Bool)} {v:V} (h:Rep K H (gmD ls rs) v):∃ a tl rl ps,v=.ref a/\GmAt K H ls rs a tl rl ps:=by
 obtain ⟨a,x1,x2,rfl,hs,h1,h2⟩:=Ka h
 obtain ⟨tl,zs,rfl,hl,hz⟩:=DL h1
 obtain rfl:=HQ hz
 obtain ⟨rl,ws,rfl,hr,hw⟩:=DL h2
 obtain ⟨ps,rfl,e,hp⟩:=MY hw
 exact ⟨a,tl,rl,ps,rfl,hs,hl,hr,e,hp⟩
theorem GmAt.same {K:W.Frag} {H H':Hp} {ls:List Int} {rs:List (List Bool)} {a tl rl:Addr} {ps:List Addr} (g:GmAt K H ls rs a tl rl ps) (s:Same H H'):GmAt K H' ls rs a tl rl ps :=
 ⟨s.sqT g.two,s.sqT g.lab,s.sqT g.rows,g.len,fun i q r x y=>s.sqT (g.row i q r x y)⟩
theorem GmAt.frm {K:W.Frag} {H H':Hp} {ls:List Int} {rs:List (List Bool)} {a tl rl t:Addr} {ps:List Addr} {o:HO} (g:GmAt K H ls rs a tl rl ps) (f:Frm t H H') (ht:H t=some o) (no:Bq o):GmAt K H' ls rs a tl rl ps :=
 ⟨Co f ht no g.two,Co f ht no g.lab,Co f ht no g.rows,g.len,fun i q r x y=>Co f ht no (g.row i q r x y)⟩
noncomputable def AU (r:List Bool):Nat:=msk (whr (r.map (· == true)) r.length)
noncomputable def Ch (ls:List Int) (z:Int):Nat:=msk (whr (ls.map (· == z)) ls.length)
theorem mskR_bit (r:List Bool) (k:Nat):(AU r).testBit k=gB r k:=by
 unfold AU
 rw [(Jj (LA _ _) (fun t ht=>Fw ht)).2 k,Bool.eq_iff_iff,decide_eq_true_eq,Kj]
 by_cases h:k < r.length
 ·have e:gB (r.map (· == true)) k=gB r k:=by
   rw [FT (x:=r[k]) (List.getElem?_eq_getElem h)]
   unfold gB
   rw [List.getD_eq_getElem?_getD,List.getElem?_eq_getElem h]
   simp
  rw [e]
  simp [h]
 ·have e:gB r k=false:=by unfold gB;rw [List.getD_eq_getElem?_getD,List.getElem?_eq_none (by lia)];rfl
  rw [e]
  simp [h]
theorem IZ (ls:List Int) (z:Int) (k:Nat):(Ch ls z).testBit k=(decide (k < ls.length) && decide (AF ls k=z)):=by
 unfold Ch
 rw [(Jj (LA _ _) (fun t ht=>Fw ht)).2 k,Bool.eq_iff_iff,decide_eq_true_eq,Kj]
 by_cases h:k < ls.length
 ·have e:gB (ls.map (· == z)) k=decide (AF ls k=z):=by
   rw [FT (x:=ls[k]) (List.getElem?_eq_getElem h)]
   unfold AF
   rw [List.getD_eq_getElem?_getD,List.getElem?_eq_getElem h]
   rfl
  rw [e]
  simp [h]
 ·simp [h]
theorem N8 (rs:List (List Bool)):AT (rs.map AU)=rs.map gB:=by
 unfold AT
 rw [List.map_map]
 apply List.map_congr_left
 intro r _
 funext k
 exact mskR_bit r k
theorem sub_bits {S m:Nat}:S &&& m=S ↔ ∀ k,S.testBit k=true->m.testBit k=true:=by
 constructor
 ·intro e k hk
  have:(S &&& m).testBit k=true:=by rw [e];exact hk
  rw [Nat.testBit_and,hk] at this
  simpa using this
 ·intro h
  apply Nat.eq_of_testBit_eq
  intro k
  rw [Nat.testBit_and]
  cases e:S.testBit k with
  | false=>rfl
  | true=>rw [h k e];rfl
theorem UJ {ls ms:List Int} (h1:1<=ls.length) (hm:∀ z,z∈ms ↔ z∈ls):JR ls (ms.map (Ch ls)):=by
 intro S hS
 rw [List.any_map,List.any_eq_true]
 constructor
 ·rintro ⟨z,hz,h⟩ i j hi hj
  have h:=sub_bits.mp (of_decide_eq_true h)
  have a:=h i hi
  have b:=h j hj
  rw [IZ,Bool.and_eq_true,decide_eq_true_eq,decide_eq_true_eq] at a b
  rw [a.2,b.2]
 ·intro o
  by_cases e:∃ k,S.testBit k=true
  ·obtain ⟨k,hk⟩:=e
   have hkl:=CZ hS hk
   refine ⟨AF ls k,(hm _).mpr ?_,decide_eq_true (sub_bits.mpr fun i hi=>?_)⟩
   ·unfold AF
    rw [List.getD_eq_getElem?_getD,List.getElem?_eq_getElem hkl]
    exact List.getElem_mem hkl
   ·rw [IZ,decide_eq_true (CZ hS hi),decide_eq_true (o i k hi hk)]
    rfl
  ·cases ls with
   | nil=>simp at h1
   | cons x r=>exact ⟨x,(hm _).mpr (by simp),decide_eq_true (sub_bits.mpr fun i hi=>absurd ⟨i,hi⟩ e)⟩
noncomputable def Hr (K:W.Frag) (C:Addr):Sp:=fun vs H Q _=>match vs with
 | [.ref p,v]=>∃ ls rs dx,H p=some (.ins C dx [])/\Rep K H (gmD ls rs) v/\Gm ls rs/\∀ d H',H d=none->RkAt K C ls (rs.map AU) H' p d->Frm p H H'->Q .non H'
 | _=>False
theorem J1 {α:Type} [DecidableEq α]:∀ {ds ls:List α},ds.Nodup->(∀ z∈ds,z∈ls)->ds.length<=ls.length
 | [],ls,_,_=>Nat.zero_le _
 | z::ds,ls,nd,h=>by
  obtain ⟨h1,h2⟩:=List.nodup_cons.mp nd
  have hz:z∈ls:=h z (by simp)
  have:=J1 (ds:=ds) (ls:=ls.erase z) h2 (fun x hx=>(List.mem_erase_of_ne (fun e:x=z=>h1 (e ▸ hx))).mpr (h x (List.mem_cons_of_mem _ hx)))
  have e:=List.length_erase_of_mem hz
  have:0 < ls.length:=List.length_pos_of_mem hz
  rw [List.length_cons]
  lia
theorem Lx:FnOk P w K mg base CX0 4 T.f_z23 T.d_z23 ["self","game"] (Hr K T.C_Reckoner):=by
 have G_z36:=RY (P:=P) (w:=w) (base:=base) T;have G_z29:=OB (P:=P) (w:=w) (base:=base) T
 refine T.F_z23.ok UF (fun vs H Q E h=>by unfold Hr at h;split at h <;> first | rfl | exact h.elim) (fun cdv A outer s H vs Q E hr h=>?_)
 have hu:=AZ hr
 have hr_z36:=hr.mono (show 3<=_ by decide);have hr_z29:=hr.mono (show 1<=_ by decide)
 unfold Hr at h
 split at h
 rotate_left
 ·exact h.elim
 rename_i p v
 obtain ⟨ls,rs,dx,hp,hv,G,q⟩:=h
 obtain ⟨a,tl,rl,ps,rfl,g⟩:=CT hv
 have l1:=G.l1
 have l16:=G.l16
 have r16:=G.r16
 have hpl:=g.len
 refine ⟨_,(@AG _ _ _ _ _ (Cz T.cl_Reckoner T.na_Reckoner_labels (vv 0) (As (BB (K:=K)) rfl T.z_tuple (by rfl) (AA (kIx (K:=K) (vv 1) AC) AB))) (@AG _ _ _ _ _ (Cz T.cl_Reckoner T.na_Reckoner_yeses (vv 0) (@A5 _ _ _ _ _ _ _ ["row"] 1 [] _ _ _ _ rfl (B6 (K:=K) (kIx (K:=K) (vv 1) AC)) (by kernel_rfl) rfl rfl (by kernel_rfl) (fun c=>AX (i:=0) (show (["row"]:List Str).Nodup by decide +kernel) rfl (by right)) (Ai (by decide)) (fun c=>Au) (fun c=>(AL G_z36 hr_z36 rfl T.m_z36 T.F_z36.kp T.b_z36 .nil AE (AA (AL G_z29 hr_z29 rfl T.m_z29 T.F_z29.kp T.b_z29 .nil AE (AA Bm (AA (vv 0) AB))) AB))) (by intro _;rfl))) (@AG _ _ _ _ _ (Cz T.cl_Reckoner T.na_Reckoner_alike (vv 0) (A5 (N':=["label","self"]) (own:=1) (ix:=[0]) rfl (B6 (K:=K) (Ar (Nv (P:=P) (w:=w) rfl) rfl T.z_sorted (by rfl) (AA (As (Nf (K:=K) (P:=P) (w:=w) rfl) rfl T.z_set (by rfl) (AA (Ax T.cl_Reckoner T.na_Reckoner_labels (vv 0)) AB)) AB))) (by kernel_rfl) rfl rfl (by kernel_rfl) (fun c=>AX (i:=0) (show (["label","self"]:List Str).Nodup by decide +kernel) rfl (by right)) (Ai (by decide)) (fun c=>Au) (fun c=>(AL G_z36 hr_z36 rfl T.m_z36 T.F_z36.kp T.b_z36 .nil AE (AA (AL G_z29 hr_z29 rfl T.m_z29 T.F_z29.kp T.b_z29 .nil AE (AA (vv 0) (AA (Ax T.cl_Reckoner T.na_Reckoner_labels (vv 1)) AB))) AB))))) (@AI _ _ _ (Cz T.cl_Reckoner T.na_Reckoner_known (vv 0) Lc))))),?_⟩
 refine ⟨_,.ref tl,.inr g.two,rfl,_,.inr ⟨g.lab,dx,_,hp,(show 0 < 1000 by decide),?_⟩⟩
 have f1:Frm p H (upd H p (.ins T.C_Reckoner dx (Ad "labels" (.ref tl) []))):=Frm.updT
 have hp1:upd H p (.ins T.C_Reckoner dx (Ad "labels" (.ref tl) [])) p=some (.ins T.C_Reckoner dx [("labels",.ref tl)]):=by rw [pf1];exact AD
 have g1:=g.frm f1 hp DS
 generalize upd H p (.ins T.C_Reckoner dx (Ad "labels" (.ref tl) []))=H1 at *
 -- the rows
 refine ⟨_,.ref rl,.inr g1.two,rfl,.inr ⟨⟨_,g1.rows⟩,?_⟩⟩
 refine Ea (xs:=ps.map V.ref) (fun k zs H'=>Same H1 H'/\zs=iL ((rs.take k).map AU)) ⟨Same.refl _,rfl⟩ (fun k zs H' _ ⟨s,_⟩=>s.sqT g1.rows) (fun k zs H' hk ⟨_,e⟩=>by
  rw [List.length_map] at hk
  rw [e,At,List.length_map,List.length_take];exact Aj (by lia)) ?_ ?_
 ·rintro k x zs H' hx ⟨s1,rfl⟩
  rw [List.getElem?_map] at hx
  cases e0:ps[k]? with
  | none=>rw [e0] at hx;cases hx
  | some b =>
   rw [e0] at hx
   cases hx
   have hk:k < rs.length:=by rw [<- hpl];exact (List.getElem?_eq_some_iff.mp e0).1
   have er:rs[k]? = some rs[k]:=List.getElem?_eq_getElem hk
   have hrow:=G.row _ (List.getElem_mem hk)
   refine ⟨rs[k],s1.sqT (g1.row k b _ e0 er),by lia,fun l H2 hl s2 g2=>?_⟩
   refine ⟨_,.inl (.of g2),by have:=Ey (rs[k].map (· == true)) rs[k].length;lia,fun t ht=>by have:=Fw ht;lia,fun H3 s3=>?_⟩
   refine ⟨s1.trans (s2.trans s3),?_⟩
   rw [List.take_add_one,er,List.map_append,CS]
   rfl
 rintro zs H2' ⟨s1,rfl⟩ yl hyl
 rw [List.length_map,hpl,List.take_length]
 have s2:Same H1 (upd H2' yl (.lst (iL (rs.map AU)))):=s1.trans (Same.upd hyl)
 have gy2:upd H2' yl (.lst (iL (rs.map AU))) yl=some (.lst (iL (rs.map AU))):=AD
 generalize upd H2' yl (.lst (iL (rs.map AU)))=H2 at *
 have hp2:=s2 _ _ hp1
 have ny:yl≠p:=BA gy2 hp2 (by intro z;cases z)
 refine ⟨dx,_,hp2,(show 1 < 1000 by decide),?_⟩
 have f3:Frm p H2 (upd H2 p (.ins T.C_Reckoner dx (Ad "yeses" (.ref yl) [("labels",.ref tl)]))):=Frm.updT
 have hp3:upd H2 p (.ins T.C_Reckoner dx (Ad "yeses" (.ref yl) [("labels",.ref tl)])) p=some (.ins T.C_Reckoner dx [("labels",.ref tl),("yeses",.ref yl)]):=by rw [pf2];exact AD
 have g3:=(g1.same s2).frm f3 hp2 DS
 have gy3:=f3 _ _ ny gy2
 have F3:Frm p H (upd H2 p (.ins T.C_Reckoner dx (Ad "yeses" (.ref yl) [("labels",.ref tl)]))):=f1.trans ((Bd s2).trans f3)
 generalize upd H2 p (.ins T.C_Reckoner dx (Ad "yeses" (.ref yl) [("labels",.ref tl)]))=H3 at *
 -- the labels
 refine ⟨dx,_,.ref tl,hp3,by rfl,ls,g3.lab,by lia,fun ds qs nd hmem hqs=>?_⟩
 have hdl:ds.length<=ls.length:=J1 nd fun z hz=>(hmem z).mp hz
 refine ⟨ds,AD,by lia,fun ms l2 hml hmm _ hl2=>.inl ⟨⟨_,.of AD⟩,?_⟩⟩
 have s4:Same H3 (upd (upd H3 qs (.ext (CL P w qs ds))) l2 (.lst (ms.map V.int))):=(Same.upd hqs).trans (Same.upd hl2)
 have gl4:upd (upd H3 qs (.ext (CL P w qs ds))) l2 (.lst (ms.map V.int)) l2=some (.lst (ms.map V.int)):=AD
 generalize upd (upd H3 qs (.ext (CL P w qs ds))) l2 (.lst (ms.map V.int))=H4 at *
 have g4:=g3.same s4
 have hp4:=s4 _ _ hp3
 refine DK (xs:=ms.map V.int) (fun k zs H'=>Same H4 H'/\zs=iL ((ms.take k).map (Ch ls))) ⟨Same.refl _,rfl⟩ (fun k zs H' _ ⟨s,_⟩=>s.sqL (.of gl4)) (fun k zs H' hk ⟨_,e⟩=>by
  rw [List.length_map] at hk
  rw [e,At,List.length_map,List.length_take];exact Aj (by lia)) ?_ ?_
 ·rintro k x zs H' hx ⟨s5,rfl⟩
  rw [List.getElem?_map] at hx
  cases e0:ms[k]? with
  | none=>rw [e0] at hx;cases hx
  | some z =>
   rw [e0] at hx
   cases hx
   refine ⟨dx,_,.ref tl,s5 _ _ hp4,by rfl,ls,s5.sqT g4.lab,by lia,fun l H2 hl s6 g2=>?_⟩
   refine ⟨_,.inl (.of g2),by have:=Ey (ls.map (· == z)) ls.length;lia,fun t ht=>by have:=Fw ht;lia,fun H3 s7=>?_⟩
   refine ⟨s5.trans (s6.trans s7),?_⟩
   rw [List.take_add_one,e0,List.map_append,CS]
   rfl
 rintro zs H5' ⟨s5,rfl⟩ al hal
 rw [List.length_map,List.take_length]
 have s6:Same H4 (upd H5' al (.lst (iL (ms.map (Ch ls))))):=s5.trans (Same.upd hal)
 have ga6:upd H5' al (.lst (iL (ms.map (Ch ls)))) al=some (.lst (iL (ms.map (Ch ls)))):=AD
 generalize upd H5' al (.lst (iL (ms.map (Ch ls))))=H6 at *
 have hp6:=s6 _ _ hp4
 have na:al≠p:=BA ga6 hp6 (by intro z;cases z)
 refine ⟨dx,_,hp6,(show 2 < 1000 by decide),?_⟩
 have f7:Frm p H6 (upd H6 p (.ins T.C_Reckoner dx (Ad "alike" (.ref al) [("labels",.ref tl),("yeses",.ref yl)]))):=Frm.updT
 have hp7:upd H6 p (.ins T.C_Reckoner dx (Ad "alike" (.ref al) [("labels",.ref tl),("yeses",.ref yl)])) p=some (.ins T.C_Reckoner dx [("labels",.ref tl),("yeses",.ref yl),("alike",.ref al)]):=by rw [pf3];exact AD
 have g7:=(g4.same s6).frm f7 hp6 DS
 have gy7:=f7 _ _ ny (s6 _ _ (s4 _ _ gy3))
 have ga7:=f7 _ _ na ga6
 have F7:Frm p H (upd H6 p (.ins T.C_Reckoner dx (Ad "alike" (.ref al) [("labels",.ref tl),("yeses",.ref yl)]))):=F3.trans ((Bd s4).trans ((Bd s6).trans f7))
 generalize upd H6 p (.ins T.C_Reckoner dx (Ad "alike" (.ref al) [("labels",.ref tl),("yeses",.ref yl)]))=H7 at *
 -- nothing known yet
 intro d hd
 have s8:Same H7 (upd H7 d (.dK [])):=Same.upd hd
 have nd8:d≠p:=fun e=>by rw [e,hp7] at hd;cases hd
 have gd8:upd H7 d (.dK []) d=some (.dK []):=AD
 have hd0:H d=none:=by
  cases e:H d with
  | none=>rfl
  | some o=>rw [F7 d o nd8 e] at hd;cases hd
 generalize upd H7 d (.dK [])=H8 at *
 have hp8:=s8 _ _ hp7
 refine ⟨dx,_,hp8,(show 3 < 1000 by decide),?_⟩
 have f9:Frm p H8 (upd H8 p (.ins T.C_Reckoner dx (Ad "known" (.ref d) [("labels",.ref tl),("yeses",.ref yl),("alike",.ref al)]))):=Frm.updT
 have hp9:upd H8 p (.ins T.C_Reckoner dx (Ad "known" (.ref d) [("labels",.ref tl),("yeses",.ref yl),("alike",.ref al)])) p=some (.ins T.C_Reckoner dx (BM (.ref tl) (.ref yl) (.ref al) (.ref d))):=by rw [pf4];exact AD
 refine q d _ hd0 ⟨⟨dx,tl,yl,al,_,[],hp9,((g7.same s8).frm f9 hp8 DS).lab,f9 _ _ ny (s8 _ _ gy7),f9 _ _ na (s8 _ _ ga7),f9 _ _ nd8 gd8,by rw [List.length_map];lia,UJ l1 (fun z=>by rw [hmm z,hmem z]),⟨by simp,fun e he=>by simp at he⟩⟩,l16,by rw [List.length_map];exact r16⟩ (F7.trans ((Bd s8).trans f9))
theorem SqI.same {K:W.Frag} {H H':Hp} {p:Addr} {ts:List Nat} (h:SqI K H p ts) (s:Same H H'):SqI K H' p ts:=by
 rcases h with h | h
 ·exact .inl (s.sqL h)
 ·exact .inr (s.sqT h)
theorem D9 (N:Nat) (S:Nat->Bool):Ah N S<=N:=by
 unfold Ah
 have:=List.length_filter_le S (List.range N)
 rw [List.length_range] at this
 exact this
noncomputable def Cv (rs:List (List Bool)) (k:Nat):List Bool:=rs.map fun r=>gB r k
noncomputable def B7 (rs:List (List Bool)) (n:Nat):List Dv:=(List.range n).map fun k=>.lst ((Cv rs k).map Dv.bl)
noncomputable def Bb (ls:List Int) (rs:List (List Bool)) (i j:Nat):Prop:=i < j/\j < ls.length/\AF ls i≠AF ls j/\Cv rs i=Cv rs j
noncomputable def Fs (ls:List Int) (rs:List (List Bool)) (i j:Nat):Prop:=Bb ls rs i j/\∀ i' j',Bb ls rs i' j'->i < i'\/i=i'/\j<=j'
noncomputable def Bo (ls:List Int) (rs:List (List Bool)):Prop:=∀ i j,¬ Bb ls rs i j
theorem JS:∀ as bs:List Bool,A0 (as.map Dv.bl) (bs.map Dv.bl)=true->as=bs
 | [],[],_=>rfl
 | [],u::us,h=>by simp [A0] at h
 | t::ts,[],h=>by simp [A0] at h
 | t::ts,u::us,h=>by
  rw [List.map_cons,List.map_cons,A0,eqD,Bool.and_eq_true,beq_iff_eq] at h
  rw [h.1,JS ts us h.2]
theorem JU (a b:List Bool):eqD (.lst (a.map Dv.bl)) (.lst (b.map Dv.bl))=decide (a=b):=by
 rw [Eu,Bool.eq_iff_iff,decide_eq_true_eq]
 exact ⟨JS a b,fun e=>by rw [e];exact FH _⟩
theorem Ku (rs:List (List Bool)) (n:Nat):B7 rs (n+1)=B7 rs n++[.lst ((Cv rs n).map Dv.bl)]:=by unfold B7;rw [List.range_succ,List.map_append];rfl
theorem FJ (rs:List (List Bool)) (n:Nat):(B7 rs n).length=n:=by unfold B7;rw [List.length_map,List.length_range]
theorem Eo (rs:List (List Bool)) {n k:Nat} (h:k < n):(B7 rs n)[k]? = some (.lst ((Cv rs k).map Dv.bl)):=by unfold B7;rw [List.getElem?_map,List.getElem?_range h];rfl
theorem Cp {ls:List Int} {i:Nat} (h:i < ls.length):atI (ls.map V.int) ((i:Nat):Int)=some (.int (AF ls i)):=by
 refine BI rfl ?_
 rw [List.getElem?_map,List.getElem?_eq_getElem h]
 unfold AF
 rw [List.getD_eq_getElem?_getD,List.getElem?_eq_getElem h]
 rfl
noncomputable def CW (K:W.Frag):Sp:=fun vs H Q _=>match vs with
 | [v]=>∃ ls rs,Rep K H (gmD ls rs) v/\Gm ls rs/\(∀ H',Same H H'->Bo ls rs->Q .non H')/\∀ (i j:Nat) t H',Fs ls rs i j->H t=none->Same H H'->H' t=some (.tup [.int (i:Nat),.int (j:Nat)])->Q (.ref t) H'
 | _=>False
theorem QS:Ac (CW K):=fun vs H Q Q' E h q=>by
 unfold CW at *
 split at q
 ·obtain ⟨ls,rs,h1,h2,q1,q2⟩:=q
  exact ⟨ls,rs,h1,h2,fun H' x y=>h _ _ (q1 H' x y),fun i j t H' x1 x2 x3 x4=>h _ _ (q2 i j t H' x1 x2 x3 x4)⟩
 ·exact q.elim
theorem Lz {K:W.Frag} {H:Hp} {ls:List Int} {rs:List (List Bool)} {a tl rl:Addr} {ps:List Addr} (g:GmAt K H ls rs a tl rl ps) (G:Gm ls rs) {k:Nat} (hk:k < ls.length) {j:Nat} {q:Addr} (hj:ps[j]? = some q) :
 ∃ r,rs[j]? = some r/\SqT K H q (r.map V.bl)/\atI (r.map V.bl) ((k:Nat):Int)=some (.bl (gB r k)):=by
 have hj':j < rs.length:=by rw [<- g.len];exact (List.getElem?_eq_some_iff.mp hj).1
 have er:rs[j]? = some rs[j]:=List.getElem?_eq_getElem hj'
 exact ⟨rs[j],er,g.row j q _ hj er,Hu (by rw [G.row _ (List.getElem_mem hj')];exact hk)⟩
theorem IV {ps:List Addr} {k:Nat} {x:V} (h:(ps.map V.ref)[k]? = some x):∃ q,ps[k]? = some q/\x=.ref q:=by
 rw [List.getElem?_map] at h
 cases e:ps[k]? with
 | none=>rw [e] at h;cases h
 | some q=>rw [e] at h;cases h;exact ⟨q,rfl,rfl⟩
theorem NY:FnOk P w K mg base CX0 1 T.f_z27 T.d_z27 ["game"] (CW K):=by
 refine T.F_z27.ok sc_z27 (fun vs H Q E h=>by unfold CW at h;split at h <;> first | rfl | exact h.elim) (fun cdv A outer s H vs Q E hr h=>?_)
 have hu:=AZ hr
 unfold CW at h
 split at h
 rotate_left
 ·exact h.elim
 rename_i v
 obtain ⟨ls,rs,hv,G,q1,q2⟩:=h
 obtain ⟨a,tl,rl,ps,rfl,g⟩:=CT hv
 have l16:=G.l16
 have r16:=G.r16
 refine ⟨_,(@AG _ _ _ _ _ (@AM _ _ 1 _ _ _ _ sc_z27.nd rfl (by right) (kIx (K:=K) (vv 0) AC) (by rfl) (by symm)) (@AG _ _ _ _ _ (@C3 _ _ _ _ _ _ _ (["thing","game"]) 1 [0] _ _ _ _ 2 _ _ _ rfl sc_z27.nd rfl rfl (Ay rfl T.z_range (AA (Ar (Az (K:=K)) rfl T.z_len (by rfl) (AA (vv 1) AB)) AB)) (by kernel_rfl) rfl rfl (by kernel_rfl) (fun c=>AX (i:=0) (show (["thing","game"]:List Str).Nodup by decide +kernel) rfl (by right)) (Ai (by decide)) (fun c=>Au) (fun c=>(@A5 _ _ _ _ _ _ _ (["row","thing"]) 1 [0] _ _ _ _ rfl (B6 (K:=K) (kIx (K:=K) (vv 1) AC)) (by kernel_rfl) rfl rfl (by kernel_rfl) (fun c=>AX (i:=0) (show (["row","thing"]:List Str).Nodup by decide +kernel) rfl (by right)) (Ai (by decide)) (fun c=>Au) (fun c=>(kIx (K:=K) (vv 0) (vv 1))) (by intro _;rfl))) (by rfl) (by intro _;rfl)) (@AG _ _ _ _ _ (@Bk _ _ _ _ _ _ _ _ PassesOwn.never rfl (Ay rfl T.z_range (AA (Ar (Az (K:=K)) rfl T.z_len (by rfl) (AA (vv 1) AB)) AB)) (AX (i:=3) sc_z27.nd rfl (by right)) (@AI _ _ _ (@Bk _ _ _ _ _ _ _ _ PassesOwn.never rfl (IC rfl T.z_range (AA (AO (BG (K:=K)) (vv 3) AC) (AA (Ar (Az (K:=K)) rfl T.z_len (by rfl) (AA (vv 1) AB)) AB))) (AX (i:=4) sc_z27.nd rfl (by right)) (@AI _ _ _ (@Aw _ _ _ _ _ _ _ _ (PW.pt (FM (Ag (kNe (K:=K) hu) (kIx (K:=K) (vv 1) (vv 3)) (kIx (K:=K) (vv 1) (vv 4))) (FO (Ag (kEq (K:=K) hu) (kIx (K:=K) (vv 2) (vv 3)) (kIx (K:=K) (vv 2) (vv 4)))))) (@AI _ _ _ (@AN _ _ _ _ (Ba (AA (vv 3) (AA (vv 4) AB))))) Av)) (by intro _;rfl))) (by intro _;rfl)) (@AI _ _ _ (@AN _ _ _ _ CN))))),?_⟩
 refine ⟨_,.ref tl,.inr g.two,rfl,?_⟩
 dsimp only [AR]
 refine Ak (fun σ H'=>∃ (l:Addr) (xs:List V),σ=[some (.ref a),some (.ref tl),some (.ref l),none,none]/\Same H H'/\H' l=some (.lst xs)/\Reps K H' (B7 rs ls.length) xs) ?_ ?_ (by walk_at "sm")
 ·refine ⟨ls.length,.inr ⟨_,g.lab,by rw [List.length_map]⟩,(ls.length:Int),rfl,by lia,by lia,?_⟩
  rw [Int.toNat_natCast]
  refine BU (fun k ys H'=>Same H H'/\Reps K H' (B7 rs k) ys) ⟨Same.refl _,Af⟩ (fun k ys H' hk ⟨_,R⟩=>by rw [<- R.length,FJ];exact Aj (by lia)) ?_ ?_
  ·rintro k ys H1 hk ⟨s1,R1⟩
   have g1:=g.same s1
   have e0:(0:Int)+(k:Int)=((k:Nat):Int):=by lia
   rw [e0]
   refine ⟨_,.ref rl,.inr g1.two,rfl,.inr ⟨⟨_,g1.rows⟩,?_⟩⟩
   refine Ea (xs:=ps.map V.ref) (fun j zs H'=>H'=H1/\zs=((rs.take j).map fun r=>gB r k).map V.bl) ⟨rfl,rfl⟩ (fun j zs H' _ ⟨e,_⟩=>by rw [e];exact g1.rows) (fun j zs H' hj ⟨_,e⟩=>by
    rw [List.length_map,g1.len] at hj
    rw [e,List.length_map,List.length_map,List.length_take];exact Aj (by lia)) ?_ ?_
   ·rintro j x zs H' hx ⟨rfl,rfl⟩
    obtain ⟨b,hb,rfl⟩:=IV hx
    obtain ⟨r,er,hs,ha⟩:=Lz g1 G hk hb
    refine ⟨_,.bl (gB r k),.inr hs,ha,rfl,?_⟩
    rw [List.take_add_one,er,List.map_append,List.map_append]
    rfl
   ·rintro zs H' ⟨rfl,rfl⟩ l hl
    rw [List.length_map,g1.len,List.take_length]
    have s2:Same H' (upd H' l (.lst ((rs.map fun r=>gB r k).map V.bl))):=Same.upd hl
    refine ⟨s1.trans s2,?_⟩
    rw [Ku]
    exact Reps.append (Reps.same s2 _ _ R1) (Ab (by unfold Rep;exact ⟨l,_,rfl,.of AD,Bt _⟩) Af)
  ·rintro ys H1 ⟨s1,R1⟩ l hl
   have s2:Same H1 (upd H1 l (.lst ys)):=Same.upd hl
   exact ⟨l,ys,rfl,s1.trans s2,AD,Reps.same s2 _ _ R1⟩
 rintro σ H1 ⟨l,xs,rfl,s1,gl,R⟩
 have g1:=g.same s1
 refine Ak (fun σ H'=>H'=H1/\(∃ x y,σ=[some (.ref a),some (.ref tl),some (.ref l),x,y])/\Bo ls rs) ?_ ?_ (by walk_at "sm")
 rotate_left
 ·rintro σ H' ⟨rfl,⟨x,y,rfl⟩,he⟩
  exact q1 _ s1 he
 refine ⟨ls.length,.inr ⟨_,g1.lab,by rw [List.length_map]⟩,(ls.length:Int),rfl,by lia,by lia,?_⟩
 rw [Int.toNat_natCast]
 refine B4 (fun k σ H'=>H'=H1/\(∃ x y,σ=[some (.ref a),some (.ref tl),some (.ref l),x,y])/\∀ i' j',i' < k->¬ Bb ls rs i' j') ⟨rfl,⟨none,none,rfl⟩,fun i' j' h=>absurd h (Nat.not_lt_zero _)⟩ ?_ ?_
 rotate_left
 ·rintro σ H' ⟨rfl,hσ,h⟩
  exact ⟨rfl,hσ,fun i j hb=>h i j (by have:=hb.1;have:=hb.2.1;lia) hb⟩
 rintro i σ H' hi ⟨rfl,⟨x,y,rfl⟩,hno⟩
 have e0:(0:Int)+(i:Int)=((i:Nat):Int):=by lia
 rw [e0]
 refine ⟨ls.length,.inr ⟨_,g1.lab,by rw [List.length_map]⟩,((i:Int)+1),(ls.length:Int),rfl,⟨by lia,by lia,by lia,by lia⟩,?_⟩
 obtain ⟨W,hW⟩:∃ W:Nat,((ls.length:Int) - ((i:Int)+1)).toNat=W:=⟨_,rfl⟩
 rw [hW]
 refine B4 (fun k σ H2=>H2=H'/\(∃ y,σ=[some (.ref a),some (.ref tl),some (.ref l),some (.int (i:Nat)),y])/\∀ j',j' < i+1+k->¬ Bb ls rs i j') ⟨rfl,⟨y,rfl⟩,fun j' h hb=>by have:=hb.1;lia⟩ ?_ ?_
 rotate_left
 ·rintro σ H2 ⟨rfl,⟨y,rfl⟩,h⟩
  refine ⟨rfl,⟨_,y,rfl⟩,fun i' j' hi' hb=>?_⟩
  rcases Nat.lt_or_ge i' i with z | z
  ·exact hno i' j' z hb
  ·have:i'=i:=by lia
   subst this
   exact h j' (by have:=hb.2.1;lia) hb
 rintro k σ H2 hk ⟨rfl,⟨y,rfl⟩,hno2⟩
 have e1:(i:Int)+1+(k:Int)=((i+1+k:Nat):Int):=by lia
 rw [e1]
 have hj:i+1+k < ls.length:=by lia
 have next:¬ Bb ls rs i (i+1+k)->∀ j',j' < i+1+(k+1)->¬ Bb ls rs i j':=fun h j' hj'=>by
  rcases Nat.lt_or_ge j' (i+1+k) with z | z
  ·exact hno2 j' z
  ·have:j'=i+1+k:=by lia
   rw [this];exact h
 refine ⟨_,.int (AF ls i),.inr g1.lab,Cp hi,_,.int (AF ls (i+1+k)),.inr g1.lab,Cp hj,?_⟩
 refine An (fun e=>?_) (fun e=>?_)
 ·have ne:AF ls i≠AF ls (i+1+k):=by simpa using e
  obtain ⟨x1,hx1,r1⟩:=R.get (Eo rs hi)
  obtain ⟨x2,hx2,r2⟩:=R.get (Eo rs hj)
  refine ⟨_,x1,.inl (.of gl),BI rfl hx1,_,x2,.inl (.of gl),BI rfl hx2,?_⟩
  have r1':=r1
  have r2':=r2
  unfold Rep at r1' r2'
  obtain ⟨b1,_,rfl,_⟩:=r1'
  obtain ⟨b2,_,rfl,_⟩:=r2'
  refine ⟨_,_,r1,r2,by unfold Ap;rw [Ed];lia,?_⟩
  rw [JU,Bool.false_xor]
  refine An (fun e2=>?_) (fun e2=>?_)
  ·have hb:Bb ls rs i (i+1+k):=⟨by lia,hj,ne,of_decide_eq_true e2⟩
   refine ⟨Ae (show 2<=1000 by decide),fun t ht=>?_⟩
   refine q2 i (i+1+k) t _ ⟨hb,fun i' j' hb'=>?_⟩ (s1.free ht) (s1.trans (Same.upd ht)) AD
   rcases Nat.lt_trichotomy i' i with z | z | z
   ·exact absurd hb' (hno i' j' z)
   ·subst z
    exact .inr ⟨rfl,Nat.le_of_not_lt fun w=>hno2 j' w hb'⟩
   ·exact .inl z
  ·exact ⟨rfl,⟨_,rfl⟩,next fun hb=>e2 (decide_eq_true hb.2.2.2)⟩
 ·have eq:AF ls i=AF ls (i+1+k):=by simpa using e
  exact ⟨rfl,⟨_,rfl⟩,next fun hb=>hb.2.2.1 eq⟩
theorem RS:FnOk P w K mg base CX0 1 T.f_z45 T.d_z45 ["_law_game_here"] (CW K):=by
 refine T.F_z45.ok sc_z45 (fun vs H Q E h=>by unfold CW at h;split at h <;> first | rfl | exact h.elim) (fun cdv A outer s H vs Q E hr h=>?_)
 have hu:=AZ hr
 unfold CW at h
 split at h
 rotate_left
 ·exact h.elim
 rename_i v
 obtain ⟨ls,rs,hv,G,q1,q2⟩:=h
 obtain ⟨a,tl,rl,ps,rfl,g⟩:=CT hv
 have l16:=G.l16
 have r16:=G.r16
 refine ⟨_,(@AG _ _ _ _ _ (@C3 _ _ _ _ _ _ _ (["_law_k","_law_game_here"]) 1 [0] _ _ _ _ 1 _ _ _ rfl sc_z45.nd rfl rfl (Ay rfl T.z_range (AA (Ar (Az (K:=K)) rfl T.z_len (by rfl) (AA (kIx (K:=K) (vv 0) AC) AB)) AB)) (by kernel_rfl) rfl rfl (by kernel_rfl) (fun c=>AX (i:=0) (show (["_law_k","_law_game_here"]:List Str).Nodup by decide +kernel) rfl (by right)) (Ai (by decide)) (fun c=>Au) (fun c=>(@A5 _ _ _ _ _ _ _ (["_law_row","_law_k"]) 1 [0] _ _ _ _ rfl (B6 (K:=K) (kIx (K:=K) (vv 1) AC)) (by kernel_rfl) rfl rfl (by kernel_rfl) (fun c=>AX (i:=0) (show (["_law_row","_law_k"]:List Str).Nodup by decide +kernel) rfl (by right)) (Ai (by decide)) (fun c=>Au) (fun c=>(kIx (K:=K) (vv 0) (vv 1))) (by intro _;rfl))) (by rfl) (by intro _;rfl)) (@AG _ _ _ _ _ (@Bk _ _ _ _ _ _ _ _ PassesOwn.never rfl (Ay rfl T.z_range (AA (Ar (Az (K:=K)) rfl T.z_len (by rfl) (AA (vv 1) AB)) AB)) (AX (i:=2) sc_z45.nd rfl (by right)) (@AI _ _ _ (@Bk _ _ _ _ _ _ _ _ PassesOwn.never rfl (IC rfl T.z_range (AA (AO (BG (K:=K)) (vv 2) AC) (AA (Ar (Az (K:=K)) rfl T.z_len (by rfl) (AA (vv 1) AB)) AB))) (AX (i:=3) sc_z45.nd rfl (by right)) (@AI _ _ _ (@Aw _ _ _ _ _ _ _ _ (PW.pt (FM (Ag (kEq (K:=K) hu) (kIx (K:=K) (vv 1) (vv 2)) (kIx (K:=K) (vv 1) (vv 3))) (FO (Ag (kNe (K:=K) hu) (kIx (K:=K) (kIx (K:=K) (vv 0) AC) (vv 2)) (kIx (K:=K) (kIx (K:=K) (vv 0) AC) (vv 3)))))) (@AI _ _ _ (@AN _ _ _ _ (Ba (AA (vv 2) (AA (vv 3) AB))))) Av)) (by intro _;rfl))) (by intro _;rfl)) (@AI _ _ _ (@AN _ _ _ _ CN)))),?_⟩
 refine Ak (fun σ H'=>∃ (l:Addr) (xs:List V),σ=[some (.ref a),some (.ref l),none,none]/\Same H H'/\H' l=some (.lst xs)/\Reps K H' (B7 rs ls.length) xs) ?_ ?_ (by walk_at "sm")
 ·refine ⟨_,.ref tl,.inr g.two,rfl,ls.length,.inr ⟨_,g.lab,by rw [List.length_map]⟩,(ls.length:Int),rfl,by lia,by lia,?_⟩
  rw [Int.toNat_natCast]
  refine BU (fun k ys H'=>Same H H'/\Reps K H' (B7 rs k) ys) ⟨Same.refl _,Af⟩ (fun k ys H' hk ⟨_,R⟩=>by rw [<- R.length,FJ];exact Aj (by lia)) ?_ ?_
  ·rintro k ys H1 hk ⟨s1,R1⟩
   have g1:=g.same s1
   have e0:(0:Int)+(k:Int)=((k:Nat):Int):=by lia
   rw [e0]
   refine ⟨_,.ref rl,.inr g1.two,rfl,.inr ⟨⟨_,g1.rows⟩,?_⟩⟩
   refine Ea (xs:=ps.map V.ref) (fun j zs H'=>H'=H1/\zs=((rs.take j).map fun r=>gB r k).map V.bl) ⟨rfl,rfl⟩ (fun j zs H' _ ⟨e,_⟩=>by rw [e];exact g1.rows) (fun j zs H' hj ⟨_,e⟩=>by
    rw [List.length_map,g1.len] at hj
    rw [e,List.length_map,List.length_map,List.length_take];exact Aj (by lia)) ?_ ?_
   ·rintro j x zs H' hx ⟨rfl,rfl⟩
    obtain ⟨b,hb,rfl⟩:=IV hx
    obtain ⟨r,er,hs,ha⟩:=Lz g1 G hk hb
    refine ⟨_,.bl (gB r k),.inr hs,ha,rfl,?_⟩
    rw [List.take_add_one,er,List.map_append,List.map_append]
    rfl
   ·rintro zs H' ⟨rfl,rfl⟩ l hl
    rw [List.length_map,g1.len,List.take_length]
    have s2:Same H' (upd H' l (.lst ((rs.map fun r=>gB r k).map V.bl))):=Same.upd hl
    refine ⟨s1.trans s2,?_⟩
    rw [Ku]
    exact Reps.append (Reps.same s2 _ _ R1) (Ab (by unfold Rep;exact ⟨l,_,rfl,.of AD,Bt _⟩) Af)
  ·rintro ys H1 ⟨s1,R1⟩ l hl
   have s2:Same H1 (upd H1 l (.lst ys)):=Same.upd hl
   exact ⟨l,ys,rfl,s1.trans s2,AD,Reps.same s2 _ _ R1⟩
 rintro σ H1 ⟨l,xs,rfl,s1,gl,R⟩
 have g1:=g.same s1
 refine Ak (fun σ H'=>H'=H1/\(∃ x y,σ=[some (.ref a),some (.ref l),x,y])/\Bo ls rs) ?_ ?_ (by walk_at "sm")
 rotate_left
 ·rintro σ H' ⟨rfl,⟨x,y,rfl⟩,he⟩
  exact q1 _ s1 he
 refine ⟨ls.length,.inl ⟨_,.of gl,by rw [<- R.length,FJ]⟩,(ls.length:Int),rfl,by lia,by lia,?_⟩
 rw [Int.toNat_natCast]
 refine B4 (fun k σ H'=>H'=H1/\(∃ x y,σ=[some (.ref a),some (.ref l),x,y])/\∀ i' j',i' < k->¬ Bb ls rs i' j') ⟨rfl,⟨none,none,rfl⟩,fun i' j' h=>absurd h (Nat.not_lt_zero _)⟩ ?_ ?_
 rotate_left
 ·rintro σ H' ⟨rfl,hσ,h⟩
  exact ⟨rfl,hσ,fun i j hb=>h i j (by have:=hb.1;have:=hb.2.1;lia) hb⟩
 rintro i σ H' hi ⟨rfl,⟨x,y,rfl⟩,hno⟩
 have e0:(0:Int)+(i:Int)=((i:Nat):Int):=by lia
 rw [e0]
 refine ⟨ls.length,.inl ⟨_,.of gl,by rw [<- R.length,FJ]⟩,((i:Int)+1),(ls.length:Int),rfl,⟨by lia,by lia,by lia,by lia⟩,?_⟩
 obtain ⟨W,hW⟩:∃ W:Nat,((ls.length:Int) - ((i:Int)+1)).toNat=W:=⟨_,rfl⟩
 rw [hW]
 refine B4 (fun k σ H2=>H2=H'/\(∃ y,σ=[some (.ref a),some (.ref l),some (.int (i:Nat)),y])/\∀ j',j' < i+1+k->¬ Bb ls rs i j') ⟨rfl,⟨y,rfl⟩,fun j' h hb=>by have:=hb.1;lia⟩ ?_ ?_
 rotate_left
 ·rintro σ H2 ⟨rfl,⟨y,rfl⟩,h⟩
  refine ⟨rfl,⟨_,y,rfl⟩,fun i' j' hi' hb=>?_⟩
  rcases Nat.lt_or_ge i' i with z | z
  ·exact hno i' j' z hb
  ·have:i'=i:=by lia
   subst this
   exact h j' (by have:=hb.2.1;lia) hb
 rintro k σ H2 hk ⟨rfl,⟨y,rfl⟩,hno2⟩
 have e1:(i:Int)+1+(k:Int)=((i+1+k:Nat):Int):=by lia
 rw [e1]
 have hj:i+1+k < ls.length:=by lia
 have next:¬ Bb ls rs i (i+1+k)->∀ j',j' < i+1+(k+1)->¬ Bb ls rs i j':=fun h j' hj'=>by
  rcases Nat.lt_or_ge j' (i+1+k) with z | z
  ·exact hno2 j' z
  ·have:j'=i+1+k:=by lia
   rw [this];exact h
 obtain ⟨x1,hx1,r1⟩:=R.get (Eo rs hi)
 obtain ⟨x2,hx2,r2⟩:=R.get (Eo rs hj)
 refine ⟨_,x1,.inl (.of gl),BI rfl hx1,_,x2,.inl (.of gl),BI rfl hx2,?_⟩
 have r1':=r1
 have r2':=r2
 unfold Rep at r1' r2'
 obtain ⟨b1,_,rfl,_⟩:=r1'
 obtain ⟨b2,_,rfl,_⟩:=r2'
 refine ⟨_,_,r1,r2,by unfold Ap;rw [Ed];lia,?_⟩
 rw [JU,Bool.false_xor]
 refine An (fun e2=>?_) (fun e2=>?_)
 ·refine ⟨_,.ref tl,.inr g1.two,rfl,_,.int (AF ls i),.inr g1.lab,Cp hi,_,.ref tl,.inr g1.two,rfl,_,.int (AF ls (i+1+k)),.inr g1.lab,Cp hj,?_⟩
  refine An (fun e=>?_) (fun e=>?_)
  ·have ne:AF ls i≠AF ls (i+1+k):=by simpa using e
   have hb:Bb ls rs i (i+1+k):=⟨by lia,hj,ne,of_decide_eq_true e2⟩
   refine ⟨Ae (show 2<=1000 by decide),fun t ht=>?_⟩
   refine q2 i (i+1+k) t _ ⟨hb,fun i' j' hb'=>?_⟩ (s1.free ht) (s1.trans (Same.upd ht)) AD
   rcases Nat.lt_trichotomy i' i with z | z | z
   ·exact absurd hb' (hno i' j' z)
   ·subst z
    exact .inr ⟨rfl,Nat.le_of_not_lt fun w=>hno2 j' w hb'⟩
   ·exact .inl z
  ·have eq:AF ls i=AF ls (i+1+k):=by simpa using e
   exact ⟨rfl,⟨_,rfl⟩,next fun hb=>hb.2.2.1 eq⟩
 ·exact ⟨rfl,⟨_,rfl⟩,next fun hb=>e2 (decide_eq_true hb.2.2.2)⟩
noncomputable def CB (ls:List Int) (rs:List (List Bool)):Nat->Bool:=fun j=>by classical exact decide (∃ i,Bb ls rs i j)
theorem badS_iff {ls:List Int} {rs:List (List Bool)} {j:Nat}:CB ls rs j=true ↔ ∃ i,Bb ls rs i j:=by unfold CB;simp
theorem Tl {N:Nat} {S S':Nat->Bool} (h:∀ k,S' k=true->S k=true):Ah N S'<=Ah N S:=by
 induction N with
 | zero=>exact Nat.le_refl _
 | succ N ih =>
  rw [EQ,EQ]
  cases e:S' N with
  | false=>simp;lia
  | true=>rw [h N e];simp;lia
theorem Od {ls:List Int} {j:Nat} (hj:j < ls.length) (x:Int) (k:Nat):AF (ls.set j x) k=if k=j then x else AF ls k:=by
 unfold AF
 rw [List.getD_eq_getElem?_getD,List.getD_eq_getElem?_getD,List.getElem?_set]
 by_cases e:j=k
 ·subst e;simp [hj]
 ·simp [e,Ne.symm e]
theorem Na {ls:List Int} {rs:List (List Bool)} {i j:Nat} (h:Fs ls rs i j):Ah ls.length (CB (ls.set j (AF ls i)) rs) < Ah ls.length (CB ls rs):=by
 obtain ⟨⟨h1,h2,h3,h4⟩,h5⟩:=h
 have hl:=Od h2 (AF ls i)
 have len:(ls.set j (AF ls i)).length=ls.length:=List.length_set
 have key:∀ j',CB (ls.set j (AF ls i)) rs j'=true->(CB ls rs j' && !(j' == j))=true:=by
  intro j' hb
  obtain ⟨i',b1,b2,b3,b4⟩:=badS_iff.mp hb
  rw [len] at b2
  rw [hl,hl] at b3
  have hne:j'≠j:=by
   intro e
   subst e
   rw [if_neg (show i'≠j' by lia),if_pos rfl] at b3
   rcases Nat.lt_trichotomy i' i with z | z | z
   ·rcases h5 i' i ⟨z,by lia,b3,b4.trans h4.symm⟩ with y | y
    ·lia
    ·lia
   ·subst z;exact b3 rfl
   ·rcases h5 i i' ⟨z,by lia,Ne.symm b3,h4.trans b4.symm⟩ with y | y
    ·lia
    ·lia
  rw [if_neg hne] at b3
  have:CB ls rs j'=true:=by
   by_cases e:i'=j
   ·subst e
    rw [if_pos rfl] at b3
    exact badS_iff.mpr ⟨i,by lia,b2,b3,h4.trans b4⟩
   ·rw [if_neg e] at b3
    exact badS_iff.mpr ⟨i',b1,b2,b3,b4⟩
  rw [this]
  simpa using hne
 have c1:=Tl (N:=ls.length) key
 have c2:=GC ls.length (CB ls rs) (fun k=>k == j)
 have c3:=Ek (S:=fun k=>CB ls rs k && k == j) h2 (by rw [badS_iff.mpr ⟨i,h1,h2,h3,h4⟩];simp)
 lia
theorem Gm.set {ls:List Int} {rs:List (List Bool)} (G:Gm ls rs) {i:Nat} (j:Nat) (hi:i < ls.length):Gm (ls.set j (AF ls i)) rs:=by
 refine ⟨by rw [List.length_set];exact G.l1,by rw [List.length_set];exact G.l16,G.r1,G.r16,fun r hr=>by rw [List.length_set];exact G.row r hr,fun x hx=>?_⟩
 rcases List.mem_or_eq_of_mem_set hx with h | h
 ·exact G.sm x h
 ·rw [h]
  unfold AF
  rw [List.getD_eq_getElem?_getD,List.getElem?_eq_getElem hi]
  exact G.sm _ (List.getElem_mem hi)
noncomputable def EC (K:W.Frag):Sp:=fun vs H Q _=>match vs with
 | [v]=>∃ ls rs,Rep K H (gmD ls rs) v/\Gm ls rs/\∀ ls' u H',Same H H'->Gm ls' rs->Bo ls' rs->Rep K H' (gmD ls' rs) u->Q u H'
 | _=>False
theorem Tf:Ac (EC K):=fun vs H Q Q' E h q=>by
 unfold EC at *
 split at q
 ·revert q;repeat' first | exact h _ _ | exact Be h | exact out_mono h | exact outT_mono h | walk_at "m"
 ·exact q.elim
theorem Ki {K:W.Frag} {H:Hp} {ls:List Int} {rs:List (List Bool)} {t tl:Addr} {x2:V} (h:H t=some (.tup [.ref tl,x2])) (h1:SqT K H tl (ls.map V.int)) (h2:Rep K H (.tup (AQ rs)) x2):Rep K H (gmD ls rs) (.ref t) :=
 Cj (.of h) (Ab (Cj h1 (GD ls)) (Ab h2 Af))
theorem RC:FnOk P w K mg base CX0 2 T.f_z35 T.d_z35 ["_law_game_here"] (EC K):=by
 have G_z45:=RS (P:=P) (w:=w) (base:=base) T
 refine T.F_z35.ok sc_z35 (fun vs H Q E h=>by unfold EC at h;split at h <;> first | rfl | exact h.elim) (fun cdv A outer s H vs Q E hr h=>?_)
 have hu:=AZ hr
 have hr_z45:=hr.mono (show 1<=_ by decide)
 unfold EC at h
 split at h
 rotate_left
 ·exact h.elim
 rename_i v
 obtain ⟨ls,rs,hv,G,q⟩:=h
 obtain ⟨a,x1,x2,rfl,hs2,hx1,hx2⟩:=Ka hv
 obtain ⟨tl,zs,rfl,hlab,hz⟩:=DL hx1
 obtain rfl:=HQ hz
 have mono1:Ac (CW K):=QS
 refine ⟨_,(@AG _ _ _ _ _ (@AM _ _ 1 _ _ _ _ sc_z35.nd rfl (by right) (As (IS (K:=K)) rfl T.z_list (by rfl) (AA (kIx (K:=K) (vv 0) AC) AB)) (by rfl) (by symm)) (@AG _ _ _ _ _ (@AM _ _ 2 _ _ _ _ sc_z35.nd rfl (by right) (AL G_z45 hr_z45 rfl T.m_z45 T.F_z45.kp T.b_z45 .nil AE (AA (vv 0) AB)) (by rfl) (by symm)) (@AG _ _ _ _ _ (@Gz _ _ _ _ _ _ PassesOwn.never (Ag Ho (vv 2) CN) (@AG _ _ _ _ _ (@EJ _ _ _ _ _ _ (kIx (K:=K) (vv 1) (kIx (K:=K) (vv 2) AC)) (Dm (vv 1) (kIx (K:=K) (vv 2) AC) ED) (by rfl) (by rfl) (by rfl)) (@AI _ _ _ (@AM _ _ 2 _ _ _ _ sc_z35.nd rfl (by right) (AL G_z45 hr_z45 rfl T.m_z45 T.F_z45.kp T.b_z45 .nil AE (AA (Ba (AA (As (BB (K:=K)) rfl T.z_tuple (by rfl) (AA (vv 1) AB)) (AA (kIx (K:=K) (vv 0) AC) AB))) AB)) (by rfl) (by symm))))) (@AI _ _ _ (@AN _ _ _ _ (Ba (AA (As (BB (K:=K)) rfl T.z_tuple (by rfl) (AA (vv 1) AB)) (AA (kIx (K:=K) (vv 0) AC) AB)))))))),?_⟩
 refine ⟨_,.ref tl,.inr hs2,rfl,_,.inr hlab,fun l hl=>?_⟩
 dsimp only [AR]
 have s1:Same H (upd H l (.lst (ls.map V.int))):=Same.upd hl
 have gl1:upd H l (.lst (ls.map V.int)) l=some (.lst (ls.map V.int)):=AD
 generalize upd H l (.lst (ls.map V.int))=H1 at *
 refine Ak (fun σ H2=>∃ u0,σ=[some (.ref a),some (.ref l),some u0]/\Same H H2/\H2 l=some (.lst (ls.map V.int))/\((u0=.non/\Bo ls rs)\/∃ (i j:Nat) (t:Addr),u0=.ref t/\Fs ls rs i j/\H2 t=some (.tup [.int (i:Nat),.int (j:Nat)]))) ?_ ?_ (by walk_at "sm")
 ·exact ⟨ls,rs,Rep.same s1 _ _ hv,G,fun H3 s3 he=>⟨_,rfl,s1.trans s3,s3 _ _ gl1,.inl ⟨rfl,he⟩⟩,fun i j t H3 hf ht s3 gt=>⟨_,rfl,s1.trans s3,s3 _ _ gl1,.inr ⟨i,j,t,rfl,hf,gt⟩⟩⟩
 rintro σ H2 ⟨u0,rfl,s2,gl2,hu2⟩
 refine Ak (fun σ H3=>∃ (ls1:List Int) (u:V),σ=[some (.ref a),some (.ref l),some u]/\Same H H3/\H3 l=some (.lst (ls1.map V.int))/\Gm ls1 rs/\Bo ls1 rs) ?_ ?_ (by walk_at "sm")
 ·refine ⟨fun m σ H3=>∃ (ls1:List Int) (u:V),σ=[some (.ref a),some (.ref l),some u]/\m=Ah ls.length (CB ls1 rs)/\Same H H3/\H3 l=some (.lst (ls1.map V.int))/\ls1.length=ls.length/\Gm ls1 rs /\
   ((u=.non/\Bo ls1 rs)\/∃ (i j:Nat) (t:Addr),u=.ref t/\Fs ls1 rs i j/\H3 t=some (.tup [.int (i:Nat),.int (j:Nat)])),⟨_,ls,u0,rfl,rfl,s2,gl2,rfl,G,hu2⟩,?_⟩
  rintro m σ H3 ⟨ls1,u,rfl,rfl,s3,gl3,ll,G1,hu3⟩
  rcases hu3 with ⟨rfl,he⟩ | ⟨i,j,t,rfl,hf,gt⟩
  ·exact ⟨ls1,_,rfl,s3,gl3,G1,he⟩
  ·obtain ⟨⟨b1,b2,_⟩,_⟩:=id hf
   refine ⟨_,.int (i:Nat),.inr (.of gt),rfl,_,.int (AF ls1 i),.inl (.of gl3),Cp (by lia),?_⟩
   refine ⟨_,.int (j:Nat),.inr (.of gt),rfl,_,j,gl3,by rw [List.length_map];unfold ixN;rw [if_pos (by lia),if_pos (by lia),Int.toNat_natCast],?_⟩
   rw [<- List.map_set]
   have s4:Same H (upd H3 l (.lst ((ls1.set j (AF ls1 i)).map V.int))):=fun b o e=>by
    rw [AJ (BL e hl)]
    exact s3 _ _ e
   have gl4:upd H3 l (.lst ((ls1.set j (AF ls1 i)).map V.int)) l=some (.lst ((ls1.set j (AF ls1 i)).map V.int)):=AD
   generalize upd H3 l (.lst ((ls1.set j (AF ls1 i)).map V.int))=H4 at *
   refine ⟨_,.inl ⟨.of gl4,fun t1 ht1=>?_⟩⟩
   have s5:Same H4 (upd H4 t1 (.tup ((ls1.set j (AF ls1 i)).map V.int))):=Same.upd ht1
   have g5:upd H4 t1 (.tup ((ls1.set j (AF ls1 i)).map V.int)) t1=some (.tup ((ls1.set j (AF ls1 i)).map V.int)):=AD
   generalize upd H4 t1 (.tup ((ls1.set j (AF ls1 i)).map V.int))=H5 at *
   refine ⟨_,x2,.inr ((s4.trans s5).sqT hs2),rfl,Ae (show 2<=1000 by decide),fun t2 ht2=>?_⟩
   have s6:Same H5 (upd H5 t2 (.tup [.ref t1,x2])):=Same.upd ht2
   have g6:upd H5 t2 (.tup [.ref t1,x2]) t2=some (.tup [.ref t1,x2]):=AD
   generalize upd H5 t2 (.tup [.ref t1,x2])=H6 at *
   have S6:=s4.trans (s5.trans s6)
   have G2:=G1.set j (show i < ls1.length by lia)
   have less:=Na hf
   rw [ll] at less
   exact ⟨_,rs,Ki g6 (.of (s6 _ _ g5)) (Rep.same S6 _ _ hx2),G2,fun H7 s7 he=>⟨_,less,_,_,rfl,rfl,S6.trans s7,s7 _ _ (s6 _ _ (s5 _ _ gl4)),by rw [List.length_set];exact ll,G2,.inl ⟨rfl,he⟩⟩,
    fun i' j' t' H7 hf' ht' s7 gt'=>⟨_,less,_,_,rfl,rfl,S6.trans s7,s7 _ _ (s6 _ _ (s5 _ _ gl4)),by rw [List.length_set];exact ll,G2,.inr ⟨i',j',t',rfl,hf',gt'⟩⟩⟩
 ·rintro σ H3 ⟨ls1,u,rfl,s3,gl3,G1,he⟩
  refine ⟨_,.inl ⟨.of gl3,fun t1 ht1=>?_⟩⟩
  have s5:Same H3 (upd H3 t1 (.tup (ls1.map V.int))):=Same.upd ht1
  have g5:upd H3 t1 (.tup (ls1.map V.int)) t1=some (.tup (ls1.map V.int)):=AD
  generalize upd H3 t1 (.tup (ls1.map V.int))=H5 at *
  refine ⟨_,x2,.inr ((s3.trans s5).sqT hs2),rfl,Ae (show 2<=1000 by decide),fun t2 ht2=>?_⟩
  have s6:Same H5 (upd H5 t2 (.tup [.ref t1,x2])):=Same.upd ht2
  have g6:upd H5 t2 (.tup [.ref t1,x2]) t2=some (.tup [.ref t1,x2]):=AD
  generalize upd H5 t2 (.tup [.ref t1,x2])=H6 at *
  have S6:=s3.trans (s5.trans s6)
  exact q ls1 _ H6 S6 G1 he (Ki g6 (.of (s6 _ _ g5)) (Rep.same S6 _ _ hx2))
noncomputable def FrX (X:List Addr) (H H':Hp):Prop:=∀ b o,b∉X->H b=some o->H' b=some o
theorem FrX.trans {X:List Addr} {H H1 H2:Hp} (a:FrX X H H1) (b:FrX X H1 H2):FrX X H H2:=fun c o n e=>b c o n (a c o n e)
theorem FrX.up {X Y:List Addr} {H H':Hp} (f:FrX X H H') (h:∀ a∈X,a∈Y):FrX Y H H':=fun b o n e=>f b o (fun z=>n (h b z)) e
theorem FrX.same {X:List Addr} {H H':Hp} (s:Same H H'):FrX X H H':=fun b o _ e=>s b o e
theorem FrX.frm {X:List Addr} {d:Addr} {H H':Hp} (f:Frm d H H') (h:d∈X):FrX X H H':=fun b o n e=>f b o (fun z=>n (z ▸ h)) e
theorem FrX.grow {X:List Addr} {d:Addr} {H H':Hp} (f:Grow d H H') (h:d∈X):FrX X H H':=fun b o n e=>f b o (fun z=>n (z ▸ h)) e
noncomputable def Oth (X:List Addr) (H:Hp):Prop:=∀ x∈X,∃ o,H x=some o/\Bq o/\∀ xs,o≠.lst xs
theorem FrX.lst {X:List Addr} {H H':Hp} (f:FrX X H H') (O:Oth X H) {b:Addr} {xs:List V} (e:H b=some (.lst xs)):H' b=some (.lst xs) :=
 f _ _ (fun z=>by obtain ⟨o,h1,_,h3⟩:=O b z;rw [e] at h1;exact h3 xs (Option.some.inj h1).symm) e
theorem FrX.sqT {K:W.Frag} {X:List Addr} {H H':Hp} (f:FrX X H H') (O:Oth X H) {b:Addr} {xs:List V} (e:SqT K H b xs):SqT K H' b xs:=by
 rcases e with (e | ⟨ob,e⟩) | e
 ·exact .inl (.inl (f _ _ (fun z=>by obtain ⟨o,h1,h2,_⟩:=O b z;rw [e] at h1;exact h2.1 xs (Option.some.inj h1).symm) e))
 ·exact .inl (.inr ⟨ob,f _ _ (fun z=>by obtain ⟨o,h1,h2,_⟩:=O b z;rw [e] at h1;exact h2.2 _ _ (Option.some.inj h1).symm) e⟩)
 ·exact .inr e
mutual
theorem Rep.mv {K:W.Frag} {H H':Hp} (s:∀ a xs,SqT K H a xs->SqT K H' a xs):∀ (d:Dv) (v:V),BW d=true->Rep K H d v->Rep K H' d v
 | .non,v,_,h=>by unfold Rep at *;exact h
 | .bl b,v,_,h=>by unfold Rep at *;exact h
 | .int i,v,_,h=>by unfold Rep at *;exact h
 | .str x,v,_,h=>by unfold Rep at *;exact h
 | .tup ds,v,hd,h=>by
  unfold BW at hd
  unfold Rep at *
  obtain ⟨a,xs,e,h1,h2⟩:=h
  exact ⟨a,xs,e,s _ _ h1,Reps.mv s ds xs hd h2⟩
 | .lst ds,v,hd,h=>by unfold BW at hd;cases hd
theorem Reps.mv {K:W.Frag} {H H':Hp} (s:∀ a xs,SqT K H a xs->SqT K H' a xs):∀ (ds:List Dv) (xs:List V),Aq ds=true->Reps K H ds xs->Reps K H' ds xs
 | [],xs,_,h=>by unfold Reps at *;exact h
 | d::ds,xs,hd,h=>by
  unfold Aq at hd
  rw [Bool.and_eq_true] at hd
  unfold Reps at *
  obtain ⟨x,r,e,h1,h2⟩:=h
  exact ⟨x,r,e,Rep.mv s d x hd.1 h1,Reps.mv s ds r hd.2 h2⟩
end
theorem FrX.rep {K:W.Frag} {X:List Addr} {H H':Hp} (f:FrX X H H') (O:Oth X H) {d:Dv} {v:V} (hd:BW d=true) (h:Rep K H d v):Rep K H' d v:=Rep.mv (fun _ _ e=>f.sqT O e) d v hd h
theorem FrX.feed {X:List Addr} {H H':Hp} {t:Addr} {N:Nat} (f:FrX X H H') (O:Oth X H) (F:GFeed H t N):GFeed H' t N:=by
 obtain ⟨l,i,gg,c,ns,h1,h2,h3,h4,h5,h6,h7,h8⟩:=F.at_
 exact ⟨l,i,gg,c,ns,h1,h2,h3,h4,f.lst O h5,h6,f.lst O h7,h8⟩
theorem K9 {K:W.Frag} {C:Addr} {ls:List Int} {ys:List Nat} {H:Hp} {p d:Addr} (r:RkAt K C ls ys H p d):∃ o,H d=some o/\Bq o/\∀ xs,o≠.lst xs:=by
 obtain ⟨dx,tl,yl,al,as,kvs,h1,h2,h3,h4,h5,h6,h7,h8⟩:=r.at_
 exact ⟨_,h5,GF,fun _ z=>nomatch z⟩
theorem J2 {Pt:Addr} {pos:Pos} {q:Str} {H:Hp} (l:Lam Pt pos q H):∃ o,H Pt=some o/\Bq o/\∀ xs,o≠.lst xs:=by
 obtain ⟨ps,a,_⟩:=l
 exact ⟨_,a,⟨(fun _ z=>nomatch z),(fun _ _ z=>nomatch z)⟩,fun _ z=>nomatch z⟩
theorem MO {a b:Addr} {H:Hp} (h1:∃ o,H a=some o/\Bq o/\∀ xs,o≠.lst xs) (h2:∃ o,H b=some o/\Bq o/\∀ xs,o≠.lst xs):Oth [a,b] H:=fun x hx=>by
 rcases List.mem_cons.mp hx with rfl | hx
 ·exact h1
 ·rw [List.mem_singleton.mp hx];exact h2
theorem N4 {Pt:Addr} {pos:Pos} {q:Str} {H H':Hp} (l:Lam Pt pos q H) (f:∀ b o,(∀ ps,o≠.tbl ps)\/b=Pt->(∀ xs,o≠.lst xs)->(∀ xs,o≠.dK xs)->(∀ c x fs,o≠.ins c x fs)->H b=some o->H' b=some o):Lam Pt pos q H':=by
 obtain ⟨ps,a,b,c⟩:=l
 refine ⟨ps,f _ _ (.inr rfl) (fun _ z=>nomatch z) (fun _ z=>nomatch z) (fun _ _ _ z=>nomatch z) a,b,?_⟩
 rcases c with c | ⟨c',c,d⟩
 ·exact .inl c
 ·exact .inr ⟨c',c,f _ _ (.inl fun _ z=>nomatch z) (fun _ z=>nomatch z) (fun _ z=>nomatch z) (fun _ _ _ z=>nomatch z) d⟩
theorem DP {Pt t:Addr} {pos:Pos} {q:Str} {H H':Hp} (l:Lam Pt pos q H) (f:Frm t H H') {o:HO} (ht:H t=some o) (h1:(∃ xs,o=.lst xs)\/(∃ xs,o=.dK xs)\/∃ c x fs,o=.ins c x fs):Lam Pt pos q H':=by
 refine N4 l fun b o' _ n1 n2 n3 e=>f b o' (fun z=>?_) e
 rw [z,ht] at e
 cases e
 rcases h1 with ⟨xs,rfl⟩ | ⟨xs,rfl⟩ | ⟨c,x,fs,rfl⟩
 ·exact n1 _ rfl
 ·exact n2 _ rfl
 ·exact n3 _ _ _ rfl
theorem Jz {K:W.Frag} {C p d Pt:Addr} {ls:List Int} {ys:List Nat} {H H':Hp} {ps:Array Value} (r:RkAt K C ls ys H p d) (g:Grow Pt H H') (hz:H Pt=some (.tbl ps)):RkAt K C ls ys H' p d:=by
 obtain ⟨dx,tl,yl,al,as,kvs,h1,h2,h3,h4,h5,h6,h7,h8⟩:=r.at_
 have st:∀ {b o},H b=some o->(∀ ps,o≠.tbl ps)->H' b=some o:=fun {b o} e n=>g b o (fun z=>by rw [z,hz] at e;cases e;exact n _ rfl) e
 exact ⟨⟨dx,tl,yl,al,as,kvs,st h1 (fun _ z=>nomatch z),NH g hz h2,st h3 (fun _ z=>nomatch z),st h4 (fun _ z=>nomatch z),st h5 (fun _ z=>nomatch z),h6,h7,h8⟩,r.l16,r.y16⟩
noncomputable def IK:Sp:=fun vs H Q _=>match vs with
 | [.int x,.int y]=>∃ p i:Nat,x=p/\y=i/\i<=64/\Q (.bl (p / 2 ^ i % 2 == 1)) H
 | _=>False
theorem QV:FnOk P w K mg base CX0 3 T.f_z53 T.d_z53 ["place","switch"] IK:=by
 have G_z50:=G9 (P:=P) (w:=w) (base:=base) T
 refine T.F_z53.ok UA (fun vs H Q E h=>by unfold IK at h;split at h <;> first | rfl | exact h.elim) (fun cdv A outer s H vs Q E hr h=>?_)
 have hu:=AZ hr
 have hr_z50:=hr.mono (show 2<=_ by decide)
 unfold IK at h
 split at h
 rotate_left
 ·exact h.elim
 rename_i x y
 obtain ⟨p,i,e1,e2,hi,q⟩:=h
 subst e1 e2
 refine ⟨_,(@AI _ _ _ (@AN _ _ _ _ (Bh (kEq (K:=K) hu) (AO Ci (AO Ej (vv 0) (AL G_z50 hr_z50 rfl T.m_z50 T.F_z50.kp T.b_z50 .nil AE (AA (vv 1) AB))) AC) AC))),?_⟩
 refine ⟨i,rfl,hi,?_⟩
 have hp:0 < 2 ^ i:=Nat.two_pow_pos i
 have hle:(2:Nat) ^ i<=2 ^ 64:=Nat.pow_le_pow_right (by decide) (by lia)
 refine ⟨Am (by lia) (Int.le_trans (Int.ofNat_le.mpr hle) (by decide)),by decide,?_⟩
 show Q (.bl (false ^^ (((p:Int) / ((2 ^ i:Nat):Int) % 2) == 1))) H
 have e:(false ^^ (((p:Int) / ((2 ^ i:Nat):Int) % 2) == 1))=(p / 2 ^ i % 2 == 1):=by
  rw [Bool.false_xor,<- Int.natCast_ediv,Bool.eq_iff_iff]
  simp only [beq_iff_eq]
  lia
 rw [e]
 exact q
noncomputable def BH (S:Nat):List Nat:=(List.range S).filter S.testBit
theorem mem_memS {S k:Nat}:k∈BH S ↔ S.testBit k=true:=by
 unfold BH
 rw [List.mem_filter,List.mem_range]
 refine ⟨fun h=>h.2,fun h=>⟨?_,h⟩⟩
 have h1:=Nat.ge_two_pow_of_testBit h
 exact Nat.lt_of_lt_of_le Nat.lt_two_pow_self h1
theorem HM (S:Nat):∀ (j n:Nat),S < 2 ^ n->(List.range (n+j)).filter S.testBit=(List.range n).filter S.testBit
 | 0,n,_=>rfl
 | j+1,n,h=>by
  rw [<- Nat.add_assoc,List.range_succ,List.filter_append,HM S j n h]
  have:S.testBit (n+j)=false:=Nat.testBit_lt_two_pow (Nat.lt_of_lt_of_le h (Nat.pow_le_pow_right (by decide) (by lia)))
  simp [this]
theorem IW {S n:Nat} (h:S < 2 ^ n):(List.range n).filter S.testBit=BH S:=by
 unfold BH
 rcases Nat.le_total n S with z | z
 ·have:=HM S (S - n) n h
  rw [show n+(S - n)=S by lia] at this
  exact this.symm
 ·have:=HM S (n - S) S Nat.lt_two_pow_self
  rw [show S+(n - S)=n by lia] at this
  exact this
theorem LB {S n:Nat} (h:S < 2 ^ n):(BH S).length=Ah n S.testBit:=by rw [<- IW h];rfl
theorem NS (S:Nat):S < 2 ^ Builtin.Int.intBits (S:Int):=by
 unfold Builtin.Int.intBits
 by_cases e:S=0
 ·subst e;decide
 ·rw [if_neg (by simpa using e),Int.natAbs_natCast]
  exact Nat.lt_log2_self
theorem OA {S n:Nat} (h:S < 2 ^ n):Builtin.Int.intBits (S:Int)<=n:=by
 unfold Builtin.Int.intBits
 by_cases e:S=0
 ·subst e;simp
 ·rw [if_neg (by simpa using e),Int.natAbs_natCast]
  exact (Nat.log2_lt e).mpr h
noncomputable def DO (K:W.Frag):Sp:=fun vs H Q _=>match vs with
 | [.int z]=>∃ S:Nat,z=S/\S < 2 ^ 60/\∀ p H',H p=none->Same H H'->H' p=some (.tup (iL (BH S)))->Q (.ref p) H'
 | _=>False
theorem RG:Ac (DO K):=fun vs H Q Q' E h q=>by
 unfold DO at *
 split at q
 ·revert q;repeat' first | exact h _ _ | exact Be h | exact out_mono h | exact outT_mono h | walk_at "m"
 ·exact q.elim
theorem Gq:FnOk P w K mg base CX0 4 T.f_z38 T.d_z38 ["subset"] (DO K):=by
 have G_z53:=QV (P:=P) (w:=w) (base:=base) T
 refine T.F_z38.ok Pf (fun vs H Q E h=>by unfold DO at h;split at h <;> first | rfl | exact h.elim) (fun cdv A outer s H vs Q E hr h=>?_)
 have hu:=AZ hr
 have hr_z53:=hr.mono (show 3<=_ by decide)
 unfold DO at h
 split at h
 rotate_left
 ·exact h.elim
 rename_i z
 obtain ⟨S,e1,hS,q⟩:=h
 subst e1
 have hb:=OA hS
 have hb2:=NS S
 refine ⟨_,(@AI _ _ _ (@AN _ _ _ _ (As (BB (K:=K)) rfl T.z_tuple (by rfl) (AA (A5 (N':=["member","subset"]) (own:=1) (ix:=[0]) rfl (Ay rfl T.z_range (AA (Sx (K:=K) (vv 0)) AB)) (by kernel_rfl) rfl rfl (by kernel_rfl) (fun c=>AX (i:=0) (show (["member","subset"]:List Str).Nodup by decide +kernel) rfl (by right)) (Ai (by decide)) (fun c=>FY (Cy (AL G_z53 hr_z53 rfl T.m_z53 T.F_z53.kp T.b_z53 .nil AE (AA (vv 1) (AA (vv 0) AB))))) (fun c=>(vv 0))) AB)))),?_⟩
 refine ⟨rfl,((Builtin.Int.intBits (S:Int):Nat):Int),rfl,by lia,by lia,?_⟩
 rw [Int.toNat_natCast]
 generalize Builtin.Int.intBits (S:Int)=n at *
 refine BU (fun k zs H'=>H'=H/\zs=iL ((List.range k).filter S.testBit)) ⟨rfl,rfl⟩ (fun k zs H' hk ⟨_,e⟩=>by
  have:=List.length_filter_le S.testBit (List.range k)
  rw [List.length_range] at this
  rw [e,At];exact Aj (by lia)) ?_ ?_
 ·rintro k zs H' hk ⟨rfl,rfl⟩
  have e0:(0:Int)+(k:Int)=((k:Nat):Int):=by lia
  rw [e0]
  refine ⟨S,k,rfl,rfl,by lia,?_⟩
  have eb:(S / 2 ^ k % 2 == 1)=S.testBit k:=by rw [Nat.testBit_eq_decide_div_mod_eq];rfl
  rw [eb,List.range_succ,List.filter_append]
  cases e:S.testBit k with
  | true=>exact ⟨rfl,by simp [e,CS];rfl⟩
  | false=>exact ⟨rfl,by simp [e]⟩
 ·rintro zs H' ⟨rfl,rfl⟩ l hl
  rw [IW hb2]
  have s1:Same H' (upd H' l (.lst (iL (BH S)))):=Same.upd hl
  refine ⟨_,.inl ⟨.of AD,fun t ht=>?_⟩⟩
  exact q t _ (s1.free ht) (s1.trans (Same.upd ht)) AD
noncomputable def Gp (K:W.Frag) (C:Addr):Sp:=fun vs H Q _=>match vs with
 | [.ref p]=>∃ ls ys d,RkAt K C ls ys H p d/\Q (.int ((2 ^ ls.length - 1:Nat):Int)) H
 | _=>False
theorem LZ:FnOk P w K mg base CX0 3 T.f_z18 T.d_z18 ["self"] (Gp K T.C_Reckoner):=by
 have G_z50:=G9 (P:=P) (w:=w) (base:=base) T
 refine T.F_z18.ok Mh (fun vs H Q E h=>by unfold Gp at h;split at h <;> first | rfl | exact h.elim) (fun cdv A outer s H vs Q E hr h=>?_)
 have hu:=AZ hr
 have hr_z50:=hr.mono (show 2<=_ by decide)
 unfold Gp at h
 split at h
 rotate_left
 ·exact h.elim
 rename_i p
 obtain ⟨ls,ys,d,R,q⟩:=h
 have l16:=R.l16
 obtain ⟨dx,tl,yl,al,as,kvs,h1,h2,h3,h4,h5,h6,h7,h8⟩:=id R.at_
 refine ⟨_,(@AI _ _ _ (@AN _ _ _ _ (AO MC (AL G_z50 hr_z50 rfl T.m_z50 T.F_z50.kp T.b_z50 .nil AE (AA (Ar (Az (K:=K)) rfl T.z_len (by rfl) (AA (Ax T.cl_Reckoner T.na_Reckoner_labels (vv 0)) AB)) AB)) AC))),?_⟩
 refine ⟨dx,_,_,h1,lk1 _ _ _ _,ls.length,.inr ⟨_,h2,by rw [List.length_map]⟩,ls.length,rfl,by lia,?_⟩
 have e:(((2 ^ ls.length:Nat):Int) - 1)=((2 ^ ls.length - 1:Nat):Int):=by
  have:=Nat.two_pow_pos ls.length
  lia
 show Q (.int (((2 ^ ls.length:Nat):Int) - 1)) H
 rw [e]
 exact q
noncomputable def Hq (K:W.Frag) (C:Addr):Sp:=fun vs H Q _=>match vs with
 | [.ref p,.int z]=>∃ ls ys d S,RkAt K C ls ys H p d/\z=(S:Nat)/\S < 2 ^ ls.length/\S≠0/\∀ k H',S.testBit k=true->Same H H'->Q (.int (AF ls k)) H'
 | _=>False
theorem Nq {S:Nat} (h:S≠0):∃ k,S.testBit k=true/\atI (iL (BH S)) 0=some (.int (k:Nat)):=by
 obtain ⟨i,hi⟩:=Nat.exists_testBit_of_ne_zero h
 have hm:=mem_memS.mpr hi
 cases e:BH S with
 | nil=>rw [e] at hm;cases hm
 | cons k r=>exact ⟨k,mem_memS.mp (by rw [e];exact List.mem_cons_self ..),BI (n:=0) rfl rfl⟩
theorem KI:FnOk P w K mg base CX0 5 T.f_z19 T.d_z19 ["self","things"] (Hq K T.C_Reckoner):=by
 have G_z38:=Gq (P:=P) (w:=w) (base:=base) T
 refine T.F_z19.ok Nd (fun vs H Q E h=>by unfold Hq at h;split at h <;> first | rfl | exact h.elim) (fun cdv A outer s H vs Q E hr h=>?_)
 have hu:=AZ hr
 have hr_z38:=hr.mono (show 4<=_ by decide)
 unfold Hq at h
 split at h
 rotate_left
 ·exact h.elim
 rename_i p z
 obtain ⟨ls,ys,d,S,R,e1,hS,h0,q⟩:=h
 subst e1
 have l16:=R.l16
 obtain ⟨dx,tl,yl,al,as,kvs,h1,h2,h3,h4,h5,h6,h7,h8⟩:=id R.at_
 have hle:2 ^ ls.length<=2 ^ 60:=Nat.pow_le_pow_right (by decide) (by lia)
 obtain ⟨k,hk,ha⟩:=Nq h0
 refine ⟨_,(@AI _ _ _ (@AN _ _ _ _ (kIx (K:=K) (Ax T.cl_Reckoner T.na_Reckoner_labels (vv 0)) (kIx (K:=K) (AL G_z38 hr_z38 rfl T.m_z38 T.F_z38.kp T.b_z38 .nil AE (AA (vv 1) AB)) AC)))),?_⟩
 exact ⟨dx,_,_,h1,lk1 _ _ _ _,S,rfl,by lia,fun t H1 ht s1 g1=>⟨_,_,.inr (.of g1),ha,_,_,.inr (s1.sqT h2),Cp (CZ hS hk),q k H1 hk s1⟩⟩
noncomputable def need (ls:List Int) (ys:List Nat) (S:Nat):Nat:=by classical exact if h:∃ m,Ao (AF ls) (AT ys) S.testBit m then h.choose else 0
theorem CU {ls:List Int} {ys:List Nat} {S m:Nat} (h:Ao (AF ls) (AT ys) S.testBit m):need ls ys S=m:=by
 have z:∃ m,Ao (AF ls) (AT ys) S.testBit m:=⟨m,h⟩
 unfold need
 rw [dif_pos z]
 exact GZ z.choose_spec h
theorem Cf {ls:List Int} {ys:List Nat} {S n:Nat} (h:Can (AF ls) (AT ys) n S.testBit):Ao (AF ls) (AT ys) S.testBit (need ls ys S):=by
 obtain ⟨m,hm⟩:=Pm h
 rw [CU hm]
 exact hm
noncomputable def wst (ls:List Int) (ys:List Nat) (S j:Nat):Nat:=max (need ls ys (S &&& ys.getD j 0)) (need ls ys (S - (S &&& ys.getD j 0)))
structure FirstQ (ls:List Int) (ys:List Nat) (S j:Nat):Prop where
 mem:j∈BD S ys ys.length
 le:∀ i∈BD S ys ys.length,wst ls ys S j<=wst ls ys S i
 lt:∀ i∈BD S ys ys.length,i < j->wst ls ys S j < wst ls ys S i
theorem EM {ls:List Int} {ys:List Nat} {S n:Nat} (y:Nat) (h:Can (AF ls) (AT ys) n S.testBit):Can (AF ls) (AT ys) n (S &&& y).testBit/\Can (AF ls) (AT ys) n (S - (S &&& y)).testBit:=by
 rw [Cb,Ce]
 exact ⟨CH (fun k z=>by simp only [Bool.and_eq_true] at z;exact z.1) h,CH (fun k z=>by simp only [Bool.and_eq_true] at z;exact z.1) h⟩
theorem PV {ls:List Int} {ys:List Nat} {S n j:Nat} (ho:¬ One (AF ls) S.testBit) (hc:Can (AF ls) (AT ys) n S.testBit) (h:FirstQ ls ys S j):Ao (AF ls) (AT ys) S.testBit (1+wst ls ys S j):=by
 refine LP ho ?_ ?_
 ·obtain ⟨y1,y2⟩:=DI h.mem
  obtain ⟨c1,c2⟩:=EM (ys.getD j 0) hc
  have c1:=Cf c1
  have c2:=Cf c2
  unfold wst
  generalize need ls ys (S &&& ys.getD j 0)=b at *
  generalize need ls ys (S - (S &&& ys.getD j 0))=e at *
  rw [Cb] at c1
  rw [Ce] at c2
  exact ⟨_,List.mem_map.mpr ⟨_,List.mem_of_getElem? y1,rfl⟩,y2,_,_,c1,c2,rfl⟩
 ·intro f hf hp
  obtain ⟨y,hy,rfl⟩:=List.mem_map.mp hf
  obtain ⟨i,hi,ei⟩:=List.getElem_of_mem hy
  have eg:ys.getD i 0=y:=by rw [List.getD_eq_getElem?_getD,List.getElem?_eq_getElem hi,ei];rfl
  have him:i∈BD S ys ys.length:=List.mem_filter.mpr ⟨List.mem_range.mpr hi,(FL _ _).mpr (by rw [eg];exact hp)⟩
  have hle:=h.le i him
  obtain ⟨c1,c2⟩:=EM (ys.getD i 0) hc
  have c1:=Cf c1
  have c2:=Cf c2
  have hw:wst ls ys S i=max (need ls ys (S &&& ys.getD i 0)) (need ls ys (S - (S &&& ys.getD i 0))):=rfl
  generalize need ls ys (S &&& ys.getD i 0)=b at *
  generalize need ls ys (S - (S &&& ys.getD i 0))=e at *
  rw [Cb,eg] at c1
  rw [Ce,eg] at c2
  exact ⟨b,e,c1,c2,by lia⟩
theorem Mp {ls:List Int} {ys:List Nat} {S n j:Nat} (ho:¬ One (AF ls) S.testBit) (hc:Can (AF ls) (AT ys) n S.testBit) (h:FirstQ ls ys S j):need ls ys S=1+wst ls ys S j:=CU (PV ho hc h)
theorem Rx:FnOk P w K mg base CX0 74 T.f_z14 T.d_z14 ["self","things","question"] (D6 K T.C_Reckoner 17):=Iu T 17 (GO T 17)
noncomputable def Nm (b:List Stmt):Expr:=match b with
 | [.Return (some (.Call _ _ (k::_) _)) _]=>k.value
 | _=>.Name "" ⟨0,0,0,0⟩
noncomputable def Ew (e:Expr):Arguments:=match e with
 | .Lambda p _ _ _=>p
 | _=>{ posonlyargs:=[],args:=[],vararg:=none,kwonlyargs:=[],kw_defaults:=[],kwarg:=none,defaults:=[] }
noncomputable def Fo (e:Expr):Expr:=match e with
 | .Lambda _ b _ _=>b
 | e=>e
noncomputable def DZ (e:Expr):Scope:=match e with
 | .Lambda _ _ s _=>s
 | _=>{ kind:=.function,names:=[],isGenerator:=false,isCoroutine:=false }
noncomputable def Bi:Expr:=Nm (AS CF)
noncomputable def HW (K:W.Frag) (C:Addr) (vA vB v:V) (H:Hp) (Q:VK):Prop:=D6 K C 17 [vB,vA,v] H Q E0
theorem Mu (T:Txt K mg) {lam ca cb c':Addr} {pm ctv uA uB:Value} {vA vB:V} (hl:base.get? lam=some (W.kla_obj "<lambda>" B3 (Ew Bi) (Fo Bi) (DZ Bi) [("things",ca),("self",cb)] pm c' ctv)) (hcab:ca≠cb)
 (hca:base.IsCell ca (some uA)) (rA:RelV vA uA) (hcb:base.IsCell cb (some uB)) (rB:RelV vB uB) :
 FnOk P w K mg base CX0 75 lam (W.kla_fn "<lambda>" B3 (Ew Bi) (Fo Bi) (DZ Bi) [("things",ca),("self",cb)] pm (.ref c') ctv) ["question"] (EU c' B3 (HW K T.C_Reckoner vA vB)):=by
 have G_z14:=Rx (P:=P) (w:=w) (base:=base) T
 refine UC (k:=74) hl hca rA hcb rB (by decide) hcab rfl rfl rfl ?_ rfl rfl rfl ?_ fun A outer s H v Q hr h=>?_
 ·intro y hy
  have h:=List.all_eq_true.mp (show (DZ Bi).names.all (fun p=>p.2 != .free || p.1 == "things" || p.1 == "self")=true by decide +kernel) _ (PySem.mem_of_lookup hy)
  simpa [or_assoc] using h
 ·decide +kernel
 have hr_z14:=hr
 unfold HW D6 at h
 split at h
 rotate_left
 ·exact h.elim
 rename_i p z i ee
 cases ee
 obtain ⟨ls,ys,d,S,j,y,R,e1,hS,hc,e2,hj,hp,hk,q⟩:=h
 subst e1 e2
 obtain ⟨dx,tl,yl,al,as,kvs,h1,_⟩:=id R.at_
 refine ⟨_,(Al (vv 2) T.cl_Reckoner T.me_z14 G_z14 hr_z14 T.b_z14 .nil AE (AA (vv 1) (AA (vv 0) AB))),?_⟩
 exact ⟨p,dx,_,rfl,h1,ln4 _ _ _ _,ls,ys,d,S,j,y,R,rfl,hS,hc,rfl,hj,hp,hk,q⟩
noncomputable def Hn (K:W.Frag) (C Pt:Addr):Sp:=fun vs H Q _=>match vs with
 | [.ref p,.int z]=>∃ ls ys d S,RkAt K C ls ys H p d/\z=(S:Nat)/\S < 2 ^ ls.length/\(∃ n,Can (AF ls) (AT ys) n S.testBit)/\¬ One (AF ls) S.testBit/\Lam Pt EK B3 H /\
  ∀ (j:Nat) H',FirstQ ls ys S j->RkAt K C ls ys H' p d->FrX [d,Pt] H H'->Lam Pt EK B3 H'->Q (.int (j:Nat)) H'
 | _=>False
theorem Kp (B:BMn mg base):FnOk P w K mg base CX0 77 T.f_z12 T.d_z12 ["self","things"] (Hn K T.C_Reckoner T.p_z12):=by
 have G_z22:=LG (P:=P) (w:=w) (base:=base) T
 refine T.F_z12.okC T.gc_z12 Qg (fun vs H Q E h=>by unfold Hn at h;split at h <;> first | rfl | exact h.elim) (fun A outer s H vs Q E hr h=>?_)
 have hu:=AZ hr
 have hr_z22:=hr.mono (show 1<=_ by decide)
 have hrL:=hr
 unfold Hn at h
 split at h
 rotate_left
 ·exact h.elim
 rename_i p z
 obtain ⟨ls,ys,d,S,R,e1,hS,⟨n,hc⟩,ho,hL,q⟩:=h
 subst e1
 obtain ⟨dx,tl,yl,al,as,kvs,h1,_⟩:=id R.at_
 have l16:=R.l16
 let spB:V->V->V->Hp->VK->Prop:=HW K T.C_Reckoner
 have hFL:∀ (base':Heap) (lam ca cb c':Addr) (pm ctv uA uB:Value) (vA vB:V),(∀ b o,base.get? b=some o->base'.get? b=some o)->base'.get? lam=some (W.kla_obj "<lambda>" B3 (Ew Bi) (Fo Bi) (DZ Bi) [("things",ca),("self",cb)] pm c' ctv)->ca≠cb->base'.IsCell ca (some uA)->RelV vA uA->base'.IsCell cb (some uB)->RelV vB uB ->
  FnOk P w K mg base' CX0 75 lam (W.kla_fn "<lambda>" B3 (Ew Bi) (Fo Bi) (DZ Bi) [("things",ca),("self",cb)] pm (.ref c') ctv) ["question"] (EU c' B3 (spB vA vB)) :=
  fun base' lam ca cb c' pm ctv uA uB vA vB _ hl hab hca rA hcb rB=>Mu (base:=base') T hl hab hca rA hcb rB
 have hclL:∀ ca cb,(PyProof.Rows.envOfC "Reckoner.first_question" (AH CF) s.heap.objs.size T.f_z12 (.ref T.g_z12)).cells.lookup (PySem.Str.ofString "things")=some ca->(PyProof.Rows.envOfC "Reckoner.first_question" (AH CF) s.heap.objs.size T.f_z12 (.ref T.g_z12)).cells.lookup (PySem.Str.ofString "self")=some cb ->
  closureFor (DZ Bi) (PyProof.Rows.envOfC "Reckoner.first_question" (AH CF) s.heap.objs.size T.f_z12 (.ref T.g_z12))=pure [((PySem.Str.ofString "things" : Str),ca),((PySem.Str.ofString "self" : Str),cb)]:=fun ca cb h1 h2=>by
  have e1:some (s.heap.objs.size+2)=some ca:=h1
  have e2:some (s.heap.objs.size+1)=some cb:=h2
  cases e1
  cases e2
  rfl
 refine ⟨_,(@AI _ _ _ (@AN _ _ _ _ (UU (c:=T.g_z12) (Pt:=T.p_z12) (qual:=B3) (i:=1) (j:=0) (a:="things") (b:="self") (spB:=spB) (Al (vv 0) T.cl_Reckoner T.me_z22 G_z22 hr_z22 T.b_z22 .nil AE (AA (vv 1) AB)) T.z_min hrL rfl rfl T.gh_z12 B rfl rfl rfl rfl hclL rfl rfl rfl rfl (by decide) (fun _ _ _ _ _ _=>rfl) hFL))),?_⟩
 refine ⟨p,dx,_,rfl,h1,ln5 _ _ _ _,ls,ys,d,S,R,rfl,fun l H1 nl s1 g1=>?_⟩
 have L1:=hL.same s1
 have R1:=R.same s1
 refine ⟨l,_,_,_,rfl,by rw [At];exact JC ho hc,rfl,rfl,L1,fun c' H2 gr2 L2' hc2=>?_⟩
 obtain ⟨pz,hP,_⟩:=id L1
 have R2:=Jz R1 gr2 hP
 have g2:H2 l=_:=gr2 _ _ (fun z=>by rw [z,hP] at g1;cases g1) g1
 obtain ⟨dx2,tl2,yl2,al2,as2,kvs2,k1,_,_,_,k5,_⟩:=id R2.at_
 have hld:l≠d:=BA g2 k5 (by intro z;cases z)
 have hcd:c'≠d:=BA hc2 k5 (by intro z;cases z)
 refine ⟨fun _ H3=>RkAt K T.C_Reckoner ls ys H3 p d/\Frm d H2 H3,fun n=>(wst ls ys S ((BD S ys ys.length).getD n 0):Nat),⟨R2,Frm.refl⟩,fun n H3 ⟨_,f3⟩=>⟨.of (f3 _ _ hld g2),f3 _ _ hcd hc2⟩,?_,?_⟩
 ·rintro m v H3 hv ⟨R3,f3⟩
  obtain ⟨i,hi,him,rfl⟩:=Cu hv
  obtain ⟨y1,y2⟩:=DI him
  have eg:(BD S ys ys.length).getD m 0=i:=by rw [List.getD_eq_getElem?_getD,hi];rfl
  refine ⟨ls,ys,d,S,i,_,R3,rfl,hS,⟨n,hc⟩,rfl,y1,y2,by have:=D9 ls.length S.testBit;lia,fun b e H4 f1 f2 R4 f4=>?_⟩
  refine ⟨?_,R4,f3.trans f4⟩
  dsimp only
  rw [eg]
  unfold wst
  rw [CU f1,CU f2]
 ·rintro m v H3 hv hmin ⟨R3,f3⟩
  obtain ⟨i,hi,him,rfl⟩:=Cu hv
  have eg:(BD S ys ys.length).getD m 0=i:=by rw [List.getD_eq_getElem?_getD,hi];rfl
  have fr:FrX [d,T.p_z12] H H3:=(FrX.same s1).trans ((FrX.grow gr2 (by simp)).trans (FrX.frm f3 (by simp)))
  refine q i H3 ⟨him,fun i' hi'=>?_,fun i' hi' hlt=>?_⟩ R3 fr (DP L2' f3 k5 (.inr (.inl ⟨_,rfl⟩)))
  ·obtain ⟨m',hm',em'⟩:=List.getElem_of_mem hi'
   have h3:=(hmin m' (by rw [At];exact hm')).1
   have eg':(BD S ys ys.length).getD m' 0=i':=by rw [List.getD_eq_getElem?_getD,List.getElem?_eq_getElem hm',em'];rfl
   dsimp only at h3
   rw [eg,eg'] at h3
   lia
  ·obtain ⟨m',hm',em'⟩:=List.getElem_of_mem hi'
   have hmm:=(List.getElem?_eq_some_iff.mp hi)
   obtain ⟨hm,em⟩:=hmm
   have hrise:(BD S ys ys.length).Pairwise (· < ·):=List.Pairwise.filter _ List.pairwise_lt_range
   have hlt':m' < m:=by
    rcases Nat.lt_trichotomy m' m with z | z | z
    ·exact z
    ·subst z;lia
    ·have:=List.pairwise_iff_getElem.mp hrise m m' hm hm' z
     lia
   have h3:=(hmin m' (by rw [At];exact hm')).2 hlt'
   have eg':(BD S ys ys.length).getD m' 0=i':=by rw [List.getD_eq_getElem?_getD,List.getElem?_eq_getElem hm',em'];rfl
   dsimp only at h3
   rw [eg,eg'] at h3
   lia
inductive Tr where
 | say (i:Int)
 | ask (q:Nat) (n y:Tr)
noncomputable def Tr.dv:Tr->Dv
 | .say i=>.tup [.str (Str.ofString "say"),.int i]
 | .ask q n y=>.tup [.str (Str.ofString "ask"),.int (q:Int),n.dv,y.dv]
noncomputable def Tr.size:Tr->Nat
 | .say _=>1
 | .ask _ n y=>1+n.size+y.size
theorem Tr.tups:∀ t:Tr,BW t.dv=true
 | .say i=>rfl
 | .ask q n y=>by
  unfold Tr.dv BW Aq Aq Aq Aq Aq
  rw [Tr.tups n,Tr.tups y]
  rfl
theorem ln8 (a b c d:V):(BM a b c d).lookup ("label_of" : Str)=none:=by rfl
theorem ln9 (a b c d:V):(BM a b c d).lookup ("first_question" : Str)=none:=by rfl
theorem lnA (a b c d:V):(BM a b c d).lookup ("harder_lefts" : Str)=none:=by rfl
theorem lnB (a b c d:V):(BM a b c d).lookup ("everything" : Str)=none:=by rfl
noncomputable def Er (ls:List Int) (ys:List Nat):Tr->Nat->Prop
 | .say i,S=>One (AF ls) S.testBit/\∃ k,S.testBit k=true/\i=AF ls k
 | .ask q n y,S=>¬ One (AF ls) S.testBit/\FirstQ ls ys S q/\Er ls ys n (S - (S &&& ys.getD q 0))/\Er ls ys y (S &&& ys.getD q 0)
noncomputable def Cc (K:W.Frag) (C Pt:Addr) (c:Nat):Sp:=fun vs H Q _=>match vs with
 | [.ref p,.int z]=>∃ ls ys d S,RkAt K C ls ys H p d/\z=(S:Nat)/\S < 2 ^ ls.length/\S≠0/\(∃ n,Can (AF ls) (AT ys) n S.testBit)/\Ah ls.length S.testBit < c/\Lam Pt EK B3 H /\
  ∀ (t:Tr) v H',Er ls ys t S->Rep K H' t.dv v->RkAt K C ls ys H' p d->FrX [d,Pt] H H'->Lam Pt EK B3 H'->Q v H'
 | _=>False
theorem UR {S y:Nat} (h:BX S.testBit y.testBit):S &&& y≠0/\S - (S &&& y)≠0:=by
 obtain ⟨⟨i,h1,h2⟩,j,h3,h4⟩:=h
 constructor
 ·intro z
  have:(S &&& y).testBit i=true:=by rw [Nat.testBit_and,h1,h2];rfl
  rw [z] at this
  simp at this
 ·intro z
  have:(S - (S &&& y)).testBit j=true:=by rw [Fk,h3,h4];rfl
  rw [z] at this
  simp at this
theorem Oa (B:BMn mg base) (c:Nat) (G_z48:FnOk P w K mg base CX0 (78+c) T.f_z48 T.d_z48 ["reckoner","things"] (Cc K T.C_Reckoner T.p_z12 c)) :
 FnOk P w K mg base CX0 (78+(c+1)) T.f_z48 T.d_z48 ["reckoner","things"] (Cc K T.C_Reckoner T.p_z12 (c+1)):=by
 have G_z13:=GA (P:=P) (w:=w) (base:=base) T
 have G_z19:=KI (P:=P) (w:=w) (base:=base) T
 have G_z21:=Fx (P:=P) (w:=w) (base:=base) T
 have G_z12:=Kp (P:=P) (w:=w) (base:=base) T B
 refine T.F_z48.ok sc_z48 (fun vs H Q E h=>by unfold Cc at h;split at h <;> first | rfl | exact h.elim) (fun cdv A outer s H vs Q E hr h=>?_)
 have hu:=AZ hr
 have hr_z13:=hr.mono (show 2<=78+c by lia)
 have hr_z19:=hr.mono (show 5<=78+c by lia)
 have hr_z21:=hr.mono (show 1<=78+c by lia)
 have hr_z12:=hr.mono (show 77<=78+c by lia)
 have hr_z48:=hr
 unfold Cc at h
 split at h
 rotate_left
 ·exact h.elim
 rename_i p z
 obtain ⟨ls,ys,d,S,R,e1,hS,h0,⟨n,hc⟩,hk,hL,q⟩:=h
 subst e1
 obtain ⟨dx,tl,yl,al,as,kvs,h1,_⟩:=id R.at_
 refine ⟨_,(@AG _ _ _ _ _ (@Aw _ _ _ _ _ _ _ _ (Cy (Al (vv 0) T.cl_Reckoner T.me_z13 G_z13 hr_z13 T.b_z13 .nil AE (AA (vv 1) AB))) (@AI _ _ _ (@AN _ _ _ _ (Ba (AA Ln (AA (Al (vv 0) T.cl_Reckoner T.me_z19 G_z19 hr_z19 T.b_z19 .nil AE (AA (vv 1) AB)) AB))))) Av) (@AG _ _ _ _ _ (@AM _ _ 2 _ _ _ _ sc_z48.nd rfl (by right) (Al (vv 0) T.cl_Reckoner T.me_z12 G_z12 hr_z12 T.b_z12 .nil AE (AA (vv 1) AB)) (by rfl) (by symm)) (@AG _ _ _ _ _ (@AM _ _ 3 _ _ _ _ sc_z48.nd rfl (by right) (AL G_z48 hr_z48 rfl T.m_z48 T.F_z48.kp T.b_z48 .nil AE (AA (vv 0) (AA (Al (vv 0) T.cl_Reckoner T.me_z21 G_z21 hr_z21 T.b_z21 .nil AE (AA (vv 1) (AA (vv 2) (AA Bm AB)))) AB))) (by rfl) (by symm)) (@AG _ _ _ _ _ (@AM _ _ 4 _ _ _ _ sc_z48.nd rfl (by right) (AL G_z48 hr_z48 rfl T.m_z48 T.F_z48.kp T.b_z48 .nil AE (AA (vv 0) (AA (Al (vv 0) T.cl_Reckoner T.me_z21 G_z21 hr_z21 T.b_z21 .nil AE (AA (vv 1) (AA (vv 2) (AA Bm AB)))) AB))) (by rfl) (by symm)) (@AI _ _ _ (@AN _ _ _ _ (Ba (AA Ln (AA (vv 2) (AA (vv 3) (AA (vv 4) AB))))))))))),?_⟩
 refine ⟨p,dx,_,rfl,h1,ln3 _ _ _ _,ls,ys,d,S,R,rfl,hS,fun b H1 hb s1=>?_⟩
 have R1:=R.same s1
 have h11:=s1 _ _ h1
 have L1:=hL.same s1
 cases b with
 | true =>
  refine ⟨p,dx,_,rfl,h11,ln8 _ _ _ _,ls,ys,d,S,R1,rfl,hS,h0,fun k H2 hk2 s2=>⟨Ae (show 2<=1000 by decide),fun t ht=>?_⟩⟩
  have s3:Same H2 (upd H2 t (.tup [.str (Str.ofString "say"),.int (AF ls k)])):=Same.upd ht
  exact q (.say (AF ls k)) _ _ ⟨hb.mp rfl,k,hk2,rfl⟩ (Cj (.of AD) (Ab (by unfold Rep;rfl) (Ab (by unfold Rep;rfl) Af))) ((R1.same s2).same s3) (.same (s1.trans (s2.trans s3))) ((L1.same s2).same s3)
 | false =>
  have ho:¬ One (AF ls) S.testBit:=fun o=>nomatch hb.mpr o
  dsimp only [Bj]
  refine ⟨p,dx,_,rfl,h11,ln9 _ _ _ _,ls,ys,d,S,R1,rfl,hS,⟨n,hc⟩,ho,L1,fun j H2 hj R2 f2 L2'=>?_⟩
  dsimp only [AR]
  obtain ⟨y1,y2⟩:=DI hj.mem
  obtain ⟨⟨a1,a2,a3⟩,b1,b2,b3⟩:=Gu hS hc y2 hk
  obtain ⟨n1,n2⟩:=UR y2
  obtain ⟨dx2,tl2,yl2,al2,as2,kvs2,k2,_⟩:=id R2.at_
  refine ⟨p,dx2,_,rfl,k2,ln7 _ _ _ _,ls,ys,d,S,j,_,R2,rfl,rfl,y1,?_⟩
  refine ⟨ls,ys,d,_,R2,rfl,b1,n2,⟨n,b2⟩,b3,L2',fun tn vn H3 bt3 rp3 R3 f3 L3=>?_⟩
  dsimp only [AR]
  obtain ⟨dx3,tl3,yl3,al3,as3,kvs3,k3,_⟩:=id R3.at_
  refine ⟨p,dx3,_,rfl,k3,ln7 _ _ _ _,ls,ys,d,S,j,_,R3,rfl,rfl,y1,?_⟩
  refine ⟨ls,ys,d,_,R3,rfl,a1,n1,⟨n,a2⟩,a3,L3,fun ty vy H4 bt4 rp4 R4 f4 L4=>⟨Ae (show 4<=1000 by decide),fun t ht=>?_⟩⟩
  have O3:=MO (K9 R3) (J2 L3)
  have s5:Same H4 (upd H4 t (.tup [.str (Str.ofString "ask"),.int (j:Nat),vn,vy])):=Same.upd ht
  refine q (.ask j tn ty) _ _ ⟨ho,hj,bt3,bt4⟩ ?_ (R4.same s5) ((FrX.same s1).trans (f2.trans (f3.trans (f4.trans (.same s5))))) (L4.same s5)
  exact Cj (.of AD) (Ab (by unfold Rep;rfl) (Ab (by unfold Rep;rfl) (Ab (Rep.same s5 _ _ (f4.rep O3 tn.tups rp3)) (Ab (Rep.same s5 _ _ rp4) Af))))
theorem Lh (B:BMn mg base):∀ c:Nat,FnOk P w K mg base CX0 (78+c) T.f_z48 T.d_z48 ["reckoner","things"] (Cc K T.C_Reckoner T.p_z12 c)
 | 0=>by
  have no:∀ vs H Q E,¬ Cc K T.C_Reckoner T.p_z12 0 vs H Q E:=fun vs H Q E h=>by
   unfold Cc at h
   split at h
   ·obtain ⟨ls,ys,d,S,_,_,_,_,_,z,_⟩:=h;exact absurd z (Nat.not_lt_zero _)
   ·exact h
  exact ⟨fun vs H Q E h=>(no _ _ _ _ h).elim,fun A outer s H args us vs Q E _ _ _ _ h=>(no _ _ _ _ h).elim⟩
 | c+1=>Oa T B c (Lh B c)
theorem M5 (B:BMn mg base):FnOk P w K mg base CX0 95 T.f_z48 T.d_z48 ["reckoner","things"] (Cc K T.C_Reckoner T.p_z12 17):=Lh T B 17
noncomputable def B5 (ls:List Int) (ys:List Nat) (S j X:Nat):Prop :=
 (X=S &&& ys.getD j 0/\need ls ys (S - (S &&& ys.getD j 0)) < need ls ys (S &&& ys.getD j 0))\/(X=S - (S &&& ys.getD j 0)/\need ls ys (S &&& ys.getD j 0)<=need ls ys (S - (S &&& ys.getD j 0)))
section
variable {ls:List Int} {ys:List Nat} {S X Y j n:Nat}
theorem UD (a:B5 ls ys S j X) (b:B5 ls ys S j Y):X=Y:=by
 rcases a with ⟨e,a⟩ | ⟨e,a⟩ <;> rcases b with ⟨f,b⟩ | ⟨f,b⟩ <;> lia
theorem Ss (h:B5 ls ys S j X):need ls ys X=wst ls ys S j:=by
 unfold wst
 rcases h with ⟨rfl,h⟩ | ⟨rfl,h⟩ <;> lia
theorem So (h:B5 ls ys S j X) (hS:S < 2 ^ n):X < 2 ^ n:=by
 have:=Nat.and_le_left (n:=S) (m:=ys.getD j 0)
 rcases h with ⟨e,_⟩ | ⟨e,_⟩ <;> lia
theorem SQ (h:B5 ls ys S j X) (hc:Can (AF ls) (AT ys) n S.testBit):Can (AF ls) (AT ys) n X.testBit:=by
 obtain ⟨c1,c2⟩:=EM (ys.getD j 0) hc
 rcases h with ⟨rfl,_⟩ | ⟨rfl,_⟩
 ·exact c1
 ·exact c2
theorem RB (hj:j < ys.length) (hc:Can (AF ls) (AT ys) n S.testBit):need ls ys S<=1+wst ls ys S j:=by
 obtain ⟨c1,c2⟩:=EM (ys.getD j 0) hc
 have c0:=Cf hc
 have c1:=Cf c1
 have c2:=Cf c2
 unfold wst
 generalize need ls ys (S &&& ys.getD j 0)=b at *
 generalize need ls ys (S - (S &&& ys.getD j 0))=e at *
 rw [Cb] at c1
 rw [Ce] at c2
 refine Ro (y:=(ys.getD j 0).testBit) (List.mem_map.mpr ⟨_,?_,rfl⟩) c0 c1 c2
 rw [List.getD_eq_getElem?_getD,List.getElem?_eq_getElem hj]
 exact List.getElem_mem hj
end
noncomputable def Ht (K:W.Frag) (C:Addr):Sp:=fun vs H Q _=>match vs with
 | [.ref p,.int z,.int i]=>∃ ls ys d S j,RkAt K C ls ys H p d/\z=(S:Nat)/\S < 2 ^ ls.length/\(∃ n,Can (AF ls) (AT ys) n S.testBit)/\i=(j:Nat)/\j < ys.length /\
  ∀ (X:Nat) H',B5 ls ys S j X->RkAt K C ls ys H' p d->Frm d H H'->Q (.int (X:Nat)) H'
 | _=>False
theorem Th:FnOk P w K mg base CX0 73 T.f_z17 T.d_z17 ["self","things","question"] (Ht K T.C_Reckoner):=by
 have G_z21:=Fx (P:=P) (w:=w) (base:=base) T
 have G_z15:=FX (P:=P) (w:=w) (base:=base) T
 refine T.F_z17.ok sc_z17 (fun vs H Q E h=>by unfold Ht at h;split at h <;> first | rfl | exact h.elim) (fun cdv A outer s H vs Q E hr h=>?_)
 have hu:=AZ hr
 have hr_z21:=hr.mono (show 1<=_ by decide)
 have hr_z15:=hr.mono (show 72<=_ by decide)
 unfold Ht at h
 split at h
 rotate_left
 ·exact h.elim
 rename_i p z i
 obtain ⟨ls,ys,d,S,j,R,e1,hS,⟨n,hc⟩,e2,hj,q⟩:=h
 subst e1 e2
 have l16:=R.l16
 have hy:ys[j]? = some (ys.getD j 0):=by rw [List.getD_eq_getElem?_getD,List.getElem?_eq_getElem hj];rfl
 obtain ⟨c1,c2⟩:=EM (ys.getD j 0) hc
 have hle:=Nat.and_le_left (n:=S) (m:=ys.getD j 0)
 have cd:∀ U:Nat,Ah ls.length U.testBit < 17:=fun U=>by have:=D9 ls.length U.testBit;lia
 obtain ⟨dx,tl,yl,al,as,kvs,h1,_⟩:=id R.at_
 refine ⟨_,(@AG _ _ _ _ _ (@AM _ _ 3 _ _ _ _ sc_z17.nd rfl (by right) (Al (vv 0) T.cl_Reckoner T.me_z21 G_z21 hr_z21 T.b_z21 .nil AE (AA (vv 1) (AA (vv 2) (AA Bm AB)))) (by rfl) (by symm)) (@AG _ _ _ _ _ (@AM _ _ 4 _ _ _ _ sc_z17.nd rfl (by right) (Al (vv 0) T.cl_Reckoner T.me_z21 G_z21 hr_z21 T.b_z21 .nil AE (AA (vv 1) (AA (vv 2) (AA Bm AB)))) (by rfl) (by symm)) (@AI _ _ _ (@AN _ _ _ _ (Ec (Ag EW (Al (vv 0) T.cl_Reckoner T.me_z15 G_z15 hr_z15 T.b_z15 .nil AE (AA (vv 4) AB)) (Al (vv 0) T.cl_Reckoner T.me_z15 G_z15 hr_z15 T.b_z15 .nil AE (AA (vv 3) AB))) (vv 4) (vv 3)))))),?_⟩
 refine ⟨p,dx,_,rfl,h1,ln7 _ _ _ _,ls,ys,d,S,j,_,R,rfl,rfl,hy,?_⟩
 dsimp only [AR]
 refine ⟨p,dx,_,rfl,h1,ln7 _ _ _ _,ls,ys,d,S,j,_,R,rfl,rfl,hy,?_⟩
 dsimp only [AR]
 refine ⟨p,dx,_,rfl,h1,ln1 _ _ _ _,ls,ys,d,S &&& ys.getD j 0,R,rfl,by lia,⟨n,c1⟩,cd _,fun b H1 f1 R1 fr1=>?_⟩
 obtain ⟨dx1,tl1,yl1,al1,as1,kvs1,k1,_⟩:=id R1.at_
 refine ⟨p,dx1,_,rfl,k1,ln1 _ _ _ _,ls,ys,d,S - (S &&& ys.getD j 0),R1,rfl,by lia,⟨n,c2⟩,cd _,fun e H2 f2 R2 fr2=>?_⟩
 have e1:=CU f1
 have e2:=CU f2
 refine An (fun x=>?_) (fun x=>?_)
 ·have x':e < b:=by have:=of_decide_eq_true x;lia
  exact q _ H2 (.inl ⟨rfl,by lia⟩) R2 (fr1.trans fr2)
 ·have x':¬ e < b:=fun w=>x (decide_eq_true (by lia))
  exact q _ H2 (.inr ⟨rfl,by lia⟩) R2 (fr1.trans fr2)
noncomputable def D1 (K:W.Frag) (C:Addr):Sp:=fun vs H Q _=>match vs with
 | [.ref p,.int z]=>∃ ls ys d S,RkAt K C ls ys H p d/\z=(S:Nat)/\S < 2 ^ ls.length/\(∃ n,Can (AF ls) (AT ys) n S.testBit) /\
  ∀ (Xs:List Nat) l H',Xs.length=ys.length->(∀ j X,Xs[j]? = some X->B5 ls ys S j X)->RkAt K C ls ys H' p d->Frm d H H'->H l=none->H' l=some (.lst (iL Xs))->Q (.ref l) H'
 | _=>False
theorem Q1 {C:Addr}:Ac (D1 K C):=fun vs H Q Q' E h q=>by
 unfold D1 at *
 split at q
 ·revert q;repeat' first | exact h _ _ | exact Be h | exact out_mono h | exact outT_mono h | walk_at "m"
 ·exact q.elim
theorem LV {d l:Addr} {H H':Hp} {o:HO} (f:Frm d H H') (hd:H' d=some o) (h:H' l=none):H l=none:=by
 cases e:H l with
 | none=>rfl
 | some u =>
  have hl:l≠d:=fun z=>by rw [z,hd] at h;cases h
  rw [f l u hl e] at h
  cases h
theorem Oi:FnOk P w K mg base CX0 74 T.f_z16 T.d_z16 ["self","things"] (D1 K T.C_Reckoner):=by
 have G_z17:=Th (P:=P) (w:=w) (base:=base) T
 refine T.F_z16.ok Sr (fun vs H Q E h=>by unfold D1 at h;split at h <;> first | rfl | exact h.elim) (fun cdv A outer s H vs Q E hr h=>?_)
 have hu:=AZ hr
 have hr_z17:=hr.mono (show 73<=_ by decide)
 unfold D1 at h
 split at h
 rotate_left
 ·exact h.elim
 rename_i p z
 obtain ⟨ls,ys,d,S,R,e1,hS,hc,q⟩:=h
 subst e1
 have y16:=R.y16
 obtain ⟨dx,tl,yl,al,as,kvs,h1,h2,h3,_⟩:=id R.at_
 refine ⟨_,(@AI _ _ _ (@AN _ _ _ _ (@A5 _ _ _ _ _ _ _ (["question","self","things"]) 1 ([0,1]) _ _ _ _ rfl (Ay rfl T.z_range (AA (Ar (Az (K:=K)) rfl T.z_len (by rfl) (AA (Ax T.cl_Reckoner T.na_Reckoner_yeses (vv 0)) AB)) AB)) (by kernel_rfl) rfl rfl (by kernel_rfl) (fun c=>AX (i:=0) (show (["question","self","things"]:List Str).Nodup by decide +kernel) rfl (by right)) (Ai (by decide)) (fun c=>Au) (fun c=>(Al (vv 1) T.cl_Reckoner T.me_z17 G_z17 hr_z17 T.b_z17 .nil AE (AA (vv 2) (AA (vv 0) AB)))) (by intro _;rfl)))),?_⟩
 refine ⟨dx,_,_,h1,lk2 _ _ _ _,ys.length,.inl ⟨_,.of h3,by rw [At]⟩,ys.length,rfl,by lia,by lia,?_⟩
 rw [Int.toNat_natCast]
 refine BU (fun k zs H'=>RkAt K T.C_Reckoner ls ys H' p d/\Frm d H H'/\∃ Xs:List Nat,zs=iL Xs/\Xs.length=k/\∀ j X,Xs[j]? = some X->B5 ls ys S j X) ⟨R,Frm.refl,[],rfl,rfl,fun j X z=>by simp at z⟩ (fun k zs H' hk ⟨_,_,Xs,e,hl,_⟩=>by rw [e,At,hl];exact Aj (by lia)) ?_ ?_
 ·rintro k zs H1 hk ⟨R1,f1,Xs,rfl,hl,hX⟩
  have e0:(0:Int)+(k:Int)=((k:Nat):Int):=by lia
  rw [e0]
  obtain ⟨dx1,tl1,yl1,al1,as1,kvs1,k1,_⟩:=id R1.at_
  refine ⟨p,dx1,_,rfl,k1,ln6 _ _ _ _,ls,ys,d,S,k,R1,rfl,hS,hc,rfl,hk,fun X H2 hx R2 f2=>?_⟩
  refine ⟨R2,f1.trans f2,Xs++[X],by rw [CS];rfl,by rw [List.length_append,hl];rfl,fun j Y hj=>?_⟩
  rcases Nat.lt_trichotomy j Xs.length with z | z | z
  ·rw [List.getElem?_append_left z] at hj
   exact hX j Y hj
  ·subst z
   rw [List.getElem?_append_right (Nat.le_refl _),Nat.sub_self] at hj
   cases hj
   rw [hl];exact hx
  ·rw [List.getElem?_eq_none (by rw [List.length_append];show Xs.length+1<=j;lia)] at hj
   cases hj
 ·rintro zs H1 ⟨R1,f1,Xs,rfl,hl,hX⟩ l nl
  obtain ⟨dx1,tl1,yl1,al1,as1,kvs1,_,_,_,_,k5,_⟩:=id R1.at_
  have s2:Same H1 (upd H1 l (.lst (iL Xs))):=Same.upd nl
  exact q Xs l _ hl hX (R1.same s2) (f1.trans (Bd s2)) (LV f1 k5 nl) AD
noncomputable def kvE (es:List (Nat × Nat)):List (Key × V):=es.map fun e=>((Sum.inl (e.1:Int):Key),V.int (e.2:Int))
theorem K3:∀ (es:List (Nat × Nat)) (S:Nat),(valV (kvE es) (Sum.inl (S:Int):Key)).isSome=decide (S∈es.map (·.1))
 | [],S=>rfl
 | e::es,S=>by
  by_cases z:e.1=S
  ·have:valV (kvE (e::es)) (Sum.inl (S:Int):Key)=some (V.int (e.2:Int)):=Bv (by rw [<- z])
   rw [this]
   simp [z]
  ·have:valV (kvE (e::es)) (Sum.inl (S:Int):Key)=valV (kvE es) (Sum.inl (S:Int):Key):=B0 (fun q=>z (by injection q with q;lia))
   rw [this,K3 es S]
   simp [Ne.symm z]
theorem NN {es:List (Nat × Nat)} {S m:Nat} (h:S∉es.map (·.1)):BJ (kvE es) (Sum.inl (S:Int):Key) (V.int (m:Int))=kvE (es++[(S,m)]):=by
 unfold BJ
 rw [if_neg]
 ·unfold kvE;rw [List.map_append];rfl
 ·intro z
  obtain ⟨x,hx,e⟩:=List.any_eq_true.mp z
  obtain ⟨a,ha,rfl⟩:=List.mem_map.mp hx
  have e:(Sum.inl (a.1:Int):Key)=Sum.inl (S:Int):=of_decide_eq_true e
  injection e with e
  exact h (List.mem_map.mpr ⟨a,ha,by lia⟩)
structure PInv (ls:List Int) (ys:List Nat) (n S0:Nat) (es:List (Nat × Nat)) (pd:List Nat):Prop where
 nd:(es.map (·.1)).Nodup
 ok:∀ e∈es,e.1 < 2 ^ ls.length/\Can (AF ls) (AT ys) n e.1.testBit/\0 < e.2/\e.2=need ls ys e.1
 cl:∀ e∈es,1 < e.2->∀ j X,j < ys.length->B5 ls ys e.1 j X->X∈es.map (·.1)\/X∈pd
 pe:∀ X∈pd,X < 2 ^ ls.length/\Can (AF ls) (AT ys) n X.testBit
 top:S0∈es.map (·.1)\/S0∈pd\/need ls ys S0=0
section
variable {ls:List Int} {ys:List Nat} {n S0 X:Nat} {es:List (Nat × Nat)} {pd more:List Nat}
theorem PInv.skip (h:PInv ls ys n S0 es (X::pd)) (hx:X∈es.map (·.1)\/need ls ys X=0):PInv ls ys n S0 es pd:=by
 refine ⟨h.nd,h.ok,fun e he h1 j Y hj hY=>?_,fun Y hY=>h.pe Y (List.mem_cons_of_mem _ hY),?_⟩
 ·rcases h.cl e he h1 j Y hj hY with z | z
  ·exact .inl z
  ·rcases List.mem_cons.mp z with z | z
   ·subst z
    rcases hx with hx | hx
    ·exact .inl hx
    ·obtain ⟨_,c2,_,c4⟩:=h.ok e he
     have a1:=RB hj c2
     have a2:=Ss hY
     lia
   ·exact .inr z
 ·rcases h.top with z | z | z
  ·exact .inl z
  ·rcases List.mem_cons.mp z with z | z
   ·subst z
    rcases hx with hx | hx
    ·exact .inl hx
    ·exact .inr (.inr hx)
   ·exact .inr (.inl z)
  ·exact .inr (.inr z)
theorem PInv.enter (h:PInv ls ys n S0 es (X::pd)) (hx:X∉es.map (·.1)) (h0:0 < need ls ys X) (h1:1 < need ls ys X->∀ j Y,j < ys.length->B5 ls ys X j Y->Y∈more) (h2:∀ Y∈more,Y < 2 ^ ls.length/\Can (AF ls) (AT ys) n Y.testBit):PInv ls ys n S0 (es++[(X,need ls ys X)]) (pd++more):=by
 have hX:=h.pe X (List.mem_cons_self ..)
 have em:(es++[(X,need ls ys X)]).map (·.1)=es.map (·.1)++[X]:=by rw [List.map_append];rfl
 have old:∀ {Y},Y∈es.map (·.1)\/Y∈X::pd->Y∈es.map (·.1)++[X]\/Y∈pd++more:=fun {Y} z=>by
  rcases z with z | z
  ·exact .inl (List.mem_append_left _ z)
  ·rcases List.mem_cons.mp z with z | z
   ·exact .inl (List.mem_append_right _ (by rw [z];exact List.mem_singleton.mpr rfl))
   ·exact .inr (List.mem_append_left _ z)
 refine ⟨?_,fun e he=>?_,fun e he e1 j Y hj hY=>?_,fun Y hY=>?_,?_⟩
 ·rw [em,List.nodup_append]
  refine ⟨h.nd,by simp,fun a ha b hb q=>?_⟩
  rw [List.mem_singleton.mp hb] at q
  exact hx (q ▸ ha)
 ·rcases List.mem_append.mp he with z | z
  ·exact h.ok e z
  ·rw [List.mem_singleton.mp z]
   exact ⟨hX.1,hX.2,h0,rfl⟩
 ·rw [em]
  rcases List.mem_append.mp he with z | z
  ·exact old (h.cl e z e1 j Y hj hY)
  ·rw [List.mem_singleton.mp z] at e1 hY
   exact .inr (List.mem_append_right _ (h1 e1 j Y hj hY))
 ·rcases List.mem_append.mp hY with z | z
  ·exact h.pe Y (List.mem_cons_of_mem _ z)
  ·exact h2 Y z
 ·rw [em]
  rcases h.top with z | z | z
  ·exact .inl (List.mem_append_left _ z)
  ·rcases old (.inr z) with z | z
   ·exact .inl z
   ·exact .inr (.inl z)
  ·exact .inr (.inr z)
theorem PInv.len (h:PInv ls ys n S0 es pd) (h16:ls.length<=16):es.length<=65536:=by
 have:=Gk (2 ^ ls.length) (es.map (·.1)) h.nd (fun x hx=>by
  obtain ⟨e,he,rfl⟩:=List.mem_map.mp hx
  exact (h.ok e he).1)
 rw [List.length_map] at this
 have h2:2 ^ ls.length<=2 ^ 16:=Nat.pow_le_pow_right (by decide) h16
 have h3:(2:Nat) ^ 16=65536:=by decide
 lia
end
theorem Kd {C p d b:Addr} {ls:List Int} {ys:List Nat} {H H' H2:Hp} (R:RkAt K C ls ys H p d) (R':RkAt K C ls ys H' p d) (f:Frm d H H') (nb:H b=none) (a:∀ c,c≠b->H2 c=H' c):RkAt K C ls ys H2 p d:=by
 obtain ⟨dx,tl,yl,al,as,kvs,h1,h2,h3,h4,h5,_⟩:=R.at_
 obtain ⟨dx',tl',yl',al',as',kvs',k1,k2,k3,k4,k5,k6,k7,k8⟩:=R'.at_
 have e:=f _ _ (BA h1 h5 (by intro z;cases z)) h1
 rw [k1] at e
 have e:=Option.some.inj e
 injection e with _ e1 e2
 have g1:some (V.ref tl')=some (V.ref tl):=by rw [<- lk1 (.ref tl') (.ref yl') (.ref al') (.ref d),e2,lk1]
 have g2:some (V.ref yl')=some (V.ref yl):=by rw [<- lk2 (.ref tl') (.ref yl') (.ref al') (.ref d),e2,lk2]
 have g3:some (V.ref al')=some (V.ref al):=by rw [<- lk3 (.ref tl') (.ref yl') (.ref al') (.ref d),e2,lk3]
 cases g1
 cases g2
 cases g3
 have st:∀ {c:Addr} {u v:HO},H c=some u->H' c=some v->H2 c=some v:=fun {c u v} e1 e2=>by
  rw [a c (BL e1 nb)]
  exact e2
 refine ⟨⟨dx',tl,yl,al,as',kvs',st h1 k1,?_,st h3 k3,st h4 k4,st h5 k5,k6,k7,k8⟩,R.l16,R.y16⟩
 have go:H tl≠none->SqT K H2 tl (ls.map V.int):=fun hn=>by
  have hne:tl≠b:=fun z=>hn (by rw [z];exact nb)
  exact FW k2 fun u e=>by rw [a _ hne];exact e
 rcases h2 with (h2 | ⟨_,h2⟩) | h2
 ·exact go (by rw [h2];simp)
 ·exact go (by rw [h2];simp)
 ·exact .inr h2
theorem Js {C p d b:Addr} {ls:List Int} {ys:List Nat} {H H':Hp} {o:HO} (R:RkAt K C ls ys H p d) (R':RkAt K C ls ys H' p d) (f:Frm d H H') (nb:H b=none):RkAt K C ls ys (upd H' b o) p d:=Kd R R' f nb fun c h=>AJ h
theorem Jd {d b:Addr} {H H':Hp} {o:HO} (f:Frm d H H') (nb:H b=none):Frm d H (upd H' b o):=fun c u n e=>by
 rw [AJ (BL e nb)]
 exact f c u n e
noncomputable def Ih (e:Nat × Nat):Dv:=.tup [.tup (iD (BH e.1)),.int (e.2:Nat)]
noncomputable def K8 (es:List (Nat × Nat)):Dv:=.tup (es.map Ih)
noncomputable def GK (K:W.Frag) (C:Addr):Sp:=fun vs H Q _=>match vs with
 | [.ref p,.int z]=>∃ ls ys d S n,RkAt K C ls ys H p d/\z=(S:Nat)/\S < 2 ^ ls.length/\Can (AF ls) (AT ys) n S.testBit /\
  ∀ es v H',PInv ls ys n S es []->Rep K H' (K8 es) v->RkAt K C ls ys H' p d->Frm d H H'->Q v H'
 | _=>False
theorem RE:FnOk P w K mg base CX0 75 T.f_z43 T.d_z43 ["reckoner","things"] (GK K T.C_Reckoner):=by
 have G_z15:=FX (P:=P) (w:=w) (base:=base) T;have G_z38:=Gq (P:=P) (w:=w) (base:=base) T;have G_z16:=Oi (P:=P) (w:=w) (base:=base) T
 refine T.F_z43.ok sc_z43 (fun vs H Q E h=>by unfold GK at h;split at h <;> first | rfl | exact h.elim) (fun cdv A outer s H vs Q E hr h=>?_)
 have hu:=AZ hr
 have hr_z38:=hr.mono (show 4<=_ by decide)
 have hr_z15:=hr.mono (show 72<=_ by decide)
 have hr_z16:=hr.mono (show 74<=_ by decide)
 have mo1:Ac (BN K T.C_Reckoner 17):=Ji
 have mo2:Ac (D1 K T.C_Reckoner):=Q1
 have mo3:Ac (DO K):=RG
 unfold GK at h
 split at h
 rotate_left
 ·exact h.elim
 rename_i p z
 obtain ⟨ls,ys,d,S,n,R,e1,hS,hc,q⟩:=h
 subst e1
 have l16:=R.l16
 have y16:=R.y16
 obtain ⟨dx,tl,yl,al,as,kvs,h1,_,_,_,hd0,_⟩:=id R.at_
 have h60:2 ^ ls.length<=2 ^ 60:=Nat.pow_le_pow_right (by decide) (by lia)
 have cd:∀ U:Nat,Ah ls.length U.testBit < 17:=fun U=>by have:=D9 ls.length U.testBit;lia
 refine ⟨_,(@AG _ _ _ _ _ (@AM _ _ 2 _ _ _ _ sc_z43.nd rfl (by right) Lc (by rfl) (by symm)) (@AG _ _ _ _ _ (@AM _ _ 3 _ _ _ _ sc_z43.nd rfl (by right) (@BY _ _ _ _ (AA (vv 1) AB)) (by rfl) (by symm)) (@AG _ _ _ _ _ (@Gz _ _ _ _ _ _ PassesOwn.never (Ag EW (Ar (Az (K:=K)) rfl T.z_len (by rfl) (AA (vv 3) AB)) AC) (@AG _ _ _ _ _ (@AM _ _ 4 _ _ _ _ sc_z43.nd rfl (by right) (@BY _ _ _ _ AB) (by rfl) (by symm)) (@AG _ _ _ _ _ (@Bk _ _ _ _ _ _ _ _ PassesOwn.never rfl (B6 (K:=K) (vv 3)) (AX (i:=5) sc_z43.nd rfl (by right)) (@AG _ _ _ _ _ (@AM _ _ 6 _ _ _ _ sc_z43.nd rfl (by right) (Al (vv 0) T.cl_Reckoner T.me_z15 G_z15 hr_z15 T.b_z15 .nil AE (AA (vv 5) AB)) (by rfl) (by symm)) (@AI _ _ _ (@Aw _ _ _ _ _ _ _ _ (PW.pt (FM (Ag EW (vv 6) AC) (FO (Ag (JE hu) (vv 5) (vv 2))))) (@AG _ _ _ _ _ (@K1 _ _ _ _ _ _ _ _ _ (FB hu) (vv 2) (vv 5) (vv 6) (by rfl)) (@AI _ _ _ (@CD _ _ _ _ (NR (K:=K) (vv 4) (AA (Ec (Ag EW (vv 6) AC) (Al (vv 0) T.cl_Reckoner T.me_z16 G_z16 hr_z16 T.b_z16 .nil AE (AA (vv 5) AB)) (@BY _ _ _ _ AB)) AB)) (by rfl)))) Av))) (by intro _;rfl)) (@AI _ _ _ (@AM _ _ 3 _ _ _ _ sc_z43.nd rfl (by right) (vv 4) (by rfl) (by symm)))))) (@AI _ _ _ (@AN _ _ _ _ (As (BB (K:=K)) rfl T.z_tuple (by rfl) (AA (A5 (N':=["each","number"]) (own:=2) (ix:=[]) rfl (OI (vv 2)) (by kernel_rfl) rfl rfl (by kernel_rfl) (fun c=>FR (K:=K) (n:=2) rfl (CC (AX (i:=0) (show (["each","number"]:List Str).Nodup by decide +kernel) rfl (by right)) (CC (AX (i:=1) (show (["each","number"]:List Str).Nodup by decide +kernel) rfl (by right)) Ei))) (E1 (Ck Bp (EN Bp CK) (Ai (by decide)) (Ck Bp CK (Ai (by decide)) FS))) (fun c=>Au) (fun c=>(Ba (AA (AL G_z38 hr_z38 rfl T.m_z38 T.F_z38.kp T.b_z38 .nil AE (AA (vv 0) AB)) (AA (vv 1) AB))))) AB))))))),?_⟩
 intro E' nE
 dsimp only [AR]
 have s1:Same H (upd H E' (.dK [])):=Same.upd nE
 have gE1:upd H E' (.dK []) E'=some (.dK (kvE [])):=AD
 generalize upd H E' (.dK [])=H1 at *
 refine ⟨Ae (show 1<=1000 by decide),fun l nl=>?_⟩
 dsimp only [AR]
 have nl0:H l=none:=s1.free nl
 have s2:Same H1 (upd H1 l (.lst [.int (S:Int)])):=Same.upd nl
 have gl2:upd H1 l (.lst [.int (S:Int)]) l=some (.lst (iL [S])):=AD
 have gE2:=s2 _ _ gE1
 have S2:=s1.trans s2
 generalize upd H1 l (.lst [.int (S:Int)])=H2 at *
 have P2:PInv ls ys n S [] [S]:=⟨List.nodup_nil,(fun e he=>by cases he),(fun e he=>by cases he),fun X hX=>by rw [List.mem_singleton.mp hX];exact ⟨hS,hc⟩,.inr (.inl (List.mem_singleton.mpr rfl))⟩
 have R2:=R.same S2
 have neD:∀ {b:Addr},H b=none->b≠d:=fun {b} nb z=>by rw [z,hd0] at nb;cases nb
 refine Ak (fun σ H'=>∃ (es:List (Nat × Nat)) (z3 z4 z5 z6:Option V),σ=[some (.ref p),some (.int (S:Nat)),some (.ref E'),z3,z4,z5,z6]/\RkAt K T.C_Reckoner ls ys H' p d/\Frm d H H'/\H' E'=some (.dK (kvE es))/\PInv ls ys n S es []) ?_ ?_ (by walk_at "sm")
 ·refine ⟨fun mm σ H'=>∃ (es:List (Nat × Nat)) (Ls:List Nat) (l:Addr) (z4 z5 z6:Option V),mm=(65536 - es.length) * 2+(if Ls=[] then 0 else 1)/\σ=[some (.ref p),some (.int (S:Nat)),some (.ref E'),some (.ref l),z4,z5,z6]/\RkAt K T.C_Reckoner ls ys H' p d/\Frm d H H'/\H' E'=some (.dK (kvE es))/\H l=none/\H' l=some (.lst (iL Ls))/\PInv ls ys n S es Ls,
   ⟨_,[],[S],l,none,none,none,rfl,rfl,R2,Bd S2,gE2,nl0,gl2,P2⟩,?_⟩
  rintro mm σ H3 ⟨es,Ls,l,z4,z5,z6,rfl,rfl,R3,f3,gE3,nl,gl3,P3⟩
  have hE3:=P3.len l16
  refine ⟨Ls.length,.inl ⟨_,.of gl3,by rw [At]⟩,?_⟩
  refine An (fun e=>?_) (fun e=>?_)
  rotate_left
  ·have hz:Ls=[]:=by
    have:¬ (0:Int) < (Ls.length:Int):=fun z=>e (decide_eq_true z)
    exact List.eq_nil_of_length_eq_zero (by lia)
   subst hz
   exact ⟨es,_,_,_,_,rfl,R3,f3,gE3,P3⟩
  have hpos:Ls≠[]:=fun z=>by
   have:(0:Int) < (Ls.length:Int):=of_decide_eq_true e
   rw [z] at this
   simp at this
  refine ⟨Nat.zero_le _,fun b nb=>?_⟩
  dsimp only [AR]
  obtain ⟨_,_,_,_,_,_,_,_,_,_,hd3,_⟩:=id R3.at_
  have nb0:H b=none:=LV f3 hd3 nb
  have s4:Same H3 (upd H3 b (.lst [])):=Same.upd nb
  have gb4:upd H3 b (.lst []) b=some (.lst (iL [])):=AD
  have hbl:b≠l:=fun z=>by rw [z,gl3] at nb;cases nb
  have hbE:b≠E':=fun z=>by rw [z,gE3] at nb;cases nb
  have hlE:l≠E':=BA gl3 gE3 (by intro z;cases z)
  have R4:=R3.same s4
  have f4:Frm d H (upd H3 b (.lst [])):=f3.trans (Bd s4)
  have gE4:=s4 _ _ gE3
  have gl4:=s4 _ _ gl3
  generalize upd H3 b (.lst [])=H4 at *
  refine Ak (fun σ H'=>∃ (es':List (Nat × Nat)) (Bs:List Nat) (z5 z6:Option V),σ=[some (.ref p),some (.int (S:Nat)),some (.ref E'),some (.ref l),some (.ref b),z5,z6]/\RkAt K T.C_Reckoner ls ys H' p d/\Frm d H H'/\H' E'=some (.dK (kvE es'))/\H' b=some (.lst (iL Bs))/\PInv ls ys n S es' Bs/\es.length<=es'.length/\(Bs≠[]->es.length < es'.length)) ?_ ?_ (by walk_at "sm")
  rotate_left
  ·rintro σ H5 ⟨es',Bs,z5',z6',rfl,R5,f5,gE5,gb5,P5,h5,h6⟩
   have hE5:=P5.len l16
   refine ⟨_,?_,es',Bs,b,_,_,_,rfl,rfl,R5,f5,gE5,nb0,gb5,P5⟩
   rw [if_neg hpos]
   by_cases zb:Bs=[]
   ·rw [if_pos zb];lia
   ·rw [if_neg zb];have:=h6 zb;lia
  refine .inl ⟨⟨_,.inl (.of gl4)⟩,?_⟩
  refine Tk (xs:=iL Ls) (fun k σ H'=>∃ (es':List (Nat × Nat)) (Bs:List Nat) (z5 z6:Option V),σ=[some (.ref p),some (.int (S:Nat)),some (.ref E'),some (.ref l),some (.ref b),z5,z6]/\RkAt K T.C_Reckoner ls ys H' p d/\Frm d H H'/\H' E'=some (.dK (kvE es'))/\H' l=some (.lst (iL Ls))/\H' b=some (.lst (iL Bs))/\PInv ls ys n S es' (Ls.drop k++Bs)/\es.length<=es'.length/\(Bs≠[]->es.length < es'.length)/\Bs.length<=16 * es'.length)
   ⟨es,[],_,_,rfl,R4,f4,gE4,gl4,gb4,by rw [List.drop_zero,List.append_nil];exact P3,Nat.le_refl _,fun z=>absurd rfl z,Nat.zero_le _⟩ (fun k σ H' _ ⟨_,_,_,_,_,_,_,_,g,_⟩=>.inl (.of g)) ?_ ?_
  rotate_left
  ·rintro σ H5 ⟨es',Bs,z5',z6',rfl,R5,f5,gE5,_,gb5,P5,h5,h6,_⟩
   rw [At,List.drop_length,List.nil_append] at P5
   exact ⟨es',Bs,_,_,rfl,R5,f5,gE5,gb5,P5,h5,h6⟩
  rintro k xv σ H5 hxk ⟨es',Bs,z5',z6',rfl,R5,f5,gE5,gl5,gb5,P5,h5,h6,h7⟩
  obtain ⟨X,hX,_,rfl⟩:=Cu hxk
  have hk:=(List.getElem?_eq_some_iff.mp hX).1
  have ed:Ls.drop k++Bs=X::(Ls.drop (k+1)++Bs):=by
   rw [List.drop_eq_getElem_cons hk,(List.getElem?_eq_some_iff.mp hX).2]
   rfl
  rw [ed] at P5
  obtain ⟨hX1,hX2⟩:=P5.pe X (List.mem_cons_self ..)
  obtain ⟨dx5,tl5,yl5,al5,as5,kvs5,k1,_,_,_,k5,_⟩:=id R5.at_
  dsimp only [AR]
  refine ⟨p,dx5,_,rfl,k1,ln1 _ _ _ _,ls,ys,d,X,R5,rfl,hX1,⟨n,hX2⟩,cd X,fun m H6 hm R6 fr6=>?_⟩
  dsimp only [AR]
  have em:=CU hm
  have f6:Frm d H H6:=f5.trans fr6
  have gE6:=fr6 _ _ (neD nE) gE5
  have gl6:=fr6 _ _ (neD nl) gl5
  have gb6:=fr6 _ _ (neD nb0) gb5
  clear k1 k5 fr6
  refine An (fun e1=>?_) (fun e1=>?_)
  rotate_left
  ·have m0:m=0:=by
    have:¬ (0:Int) < (m:Int):=fun z=>e1 (decide_eq_true z)
    lia
   exact ⟨es',Bs,_,_,rfl,R6,f6,gE6,gl6,gb6,P5.skip (.inr (by lia)),h5,h6,h7⟩
  have m0:0 < m:=by
   have:(0:Int) < (m:Int):=of_decide_eq_true e1
   lia
  have hsome:=K3 es' X
  refine ⟨valV (kvE es') (Sum.inl (X:Int):Key),DGet.k (k:=Sum.inl (X:Int)) gE6,?_⟩
  cases e2:valV (kvE es') (Sum.inl (X:Int):Key) with
  | some v =>
   rw [e2] at hsome
   have hin:X∈es'.map (·.1):=of_decide_eq_true hsome.symm
   exact ⟨es',Bs,_,_,rfl,R6,f6,gE6,gl6,gb6,P5.skip (.inl hin),h5,h6,h7⟩
  | none =>
   rw [e2] at hsome
   have hnin:X∉es'.map (·.1):=of_decide_eq_false hsome.symm
   have hE6:=P5.len l16
   refine ⟨E',_,rfl,DPut.k (k:=Sum.inl (X:Int)) gE6 (by unfold kvE;rw [List.length_map,sizeLine_eq];lia),?_⟩
   rw [NN hnin]
   have R7:=Js R R6 f6 nE (o:=.dK (kvE (es'++[(X,m)])))
   have f7:=Jd f6 nE (o:=.dK (kvE (es'++[(X,m)])))
   have gE7:upd H6 E' (.dK (kvE (es'++[(X,m)]))) E'=some (.dK (kvE (es'++[(X,m)]))):=AD
   have gl7:upd H6 E' (.dK (kvE (es'++[(X,m)]))) l=_:=(AJ hlE).trans gl6
   have gb7:upd H6 E' (.dK (kvE (es'++[(X,m)]))) b=_:=(AJ hbE).trans gb6
   generalize upd H6 E' (.dK (kvE (es'++[(X,m)])))=H7 at *
   have len1:(es'++[(X,m)]).length=es'.length+1:=by rw [List.length_append];rfl
   refine ⟨.inl ⟨rfl,_,.of gb7⟩,?_⟩
   have fin:∀ (Xs:List Nat) (l2:Addr) (H8:Hp),Xs.length<=16->(1 < m->∀ j Y,j < ys.length->B5 ls ys X j Y->Y∈Xs)->(∀ Y∈Xs,Y < 2 ^ ls.length/\Can (AF ls) (AT ys) n Y.testBit)->RkAt K T.C_Reckoner ls ys H8 p d->Frm d H7 H8->H7 l2=none->H8 l2=some (.lst (iL Xs)) ->
    En K (.ref b) [.ref l2] H8 fun _ H9=>∃ (es':List (Nat × Nat)) (Bs:List Nat) (z5 z6:Option V),[some (V.ref p),some (.int (S:Nat)),some (.ref E'),some (.ref l),some (.ref b),some (.int (X:Nat)),some (.int (m:Nat))]=[some (.ref p),some (.int (S:Nat)),some (.ref E'),some (.ref l),some (.ref b),z5,z6]/\RkAt K T.C_Reckoner ls ys H9 p d/\Frm d H H9/\H9 E'=some (.dK (kvE es'))/\H9 l=some (.lst (iL Ls))/\H9 b=some (.lst (iL Bs))/\PInv ls ys n S es' (Ls.drop (k+1)++Bs)/\es.length<=es'.length/\(Bs≠[]->es.length < es'.length)/\Bs.length<=16 * es'.length:=by
    intro Xs l2 H8 hl2 hx1 hx2 R8 fr8 n2 g2
    have f8:Frm d H H8:=f7.trans fr8
    have gE8:=fr8 _ _ (neD nE) gE7
    have gl8:=fr8 _ _ (neD nl) gl7
    have gb8:=fr8 _ _ (neD nb0) gb7
    refine ⟨iL Bs,iL Xs,gb8,.of g2,(fun z=>by rw [z,gb7] at n2;cases n2),by rw [At,At];lia,es'++[(X,m)],Bs++Xs,_,_,rfl,Js R R8 f8 nb0,Jd f8 nb0,?_,?_,?_,?_,by lia,fun _=>by lia,by rw [List.length_append];lia⟩
    ·rw [AJ (Ne.symm hbE)];exact gE8
    ·rw [AJ (Ne.symm hbl)];exact gl8
    ·rw [AD,CS]
    ·rw [<- List.append_assoc,<- em]
     exact P5.enter hnin (by lia) (by rw [em];exact hx1) hx2
   refine An (fun e3=>?_) (fun e3=>?_)
   ·have m1:1 < m:=by
     have:(1:Int) < (m:Int):=of_decide_eq_true e3
     lia
    obtain ⟨dx7,tl7,yl7,al7,as7,kvs7,k1,_⟩:=id R7.at_
    refine ⟨p,dx7,_,rfl,k1,lnA _ _ _ _,ls,ys,d,X,R7,rfl,hX1,⟨n,hX2⟩,fun Xs l2 H8 hl2 hXs R8 fr8 n2 g2=>?_⟩
    refine fin Xs l2 H8 (by lia) (fun _ j Y hj hY=>?_) (fun Y hY=>?_) R8 fr8 n2 g2
    ·have hj':j < Xs.length:=by lia
     rw [UD hY (hXs j _ (List.getElem?_eq_getElem hj'))]
     exact List.getElem_mem hj'
    ·obtain ⟨j,hj,ej⟩:=List.getElem_of_mem hY
     have hh:=hXs j Y (by rw [List.getElem?_eq_getElem hj,ej])
     exact ⟨So hh hX1,SQ hh hX2⟩
   ·have m1:¬ 1 < m:=fun z=>e3 (decide_eq_true (by lia))
    refine ⟨Nat.zero_le _,fun l2 n2=>?_⟩
    have s8:Same H7 (upd H7 l2 (.lst [])):=Same.upd n2
    exact fin [] l2 _ (Nat.zero_le _) (fun z=>absurd z m1) (fun Y hY=>by cases hY) (R7.same s8) (Bd s8) n2 AD
 rintro σ H3 ⟨es,z3,z4,z5,z6,rfl,R3,f3,gE3,P3⟩
 have hE3:=P3.len l16
 refine .inl ⟨kvE es,gE3,fun o=>?_⟩
 have a1:upd H3 E' (.frz o (.dK (kvE es))) E'=some (.frz o (.dK (kvE es))):=AD
 have a2:∀ b,b≠E'->upd H3 E' (.frz o (.dK (kvE es))) b=H3 b:=fun b hb=>AJ hb
 generalize upd H3 E' (.frz o (.dK (kvE es)))=H4 at *
 have f4:Frm d H H4:=fun c u n e=>by rw [a2 c (BL e nE)];exact f3 c u n e
 have R4:=Kd R R3 f3 nE a2
 refine PC (kvs:=kvE es) (fun j zs H'=>Same H4 H'/\Reps K H' ((es.take j).map Ih) zs) ⟨Same.refl _,Af⟩ (fun j zs H' _ ⟨s5,_⟩=>s5 _ _ a1) (fun j zs H' hj ⟨_,r⟩=>by
  unfold kvE at hj
  rw [List.length_map] at hj
  rw [<- r.length,List.length_map,List.length_take,sizeLine_eq];lia) ?_ ?_
 ·rintro j r pp zs H5 hr5 ⟨s5,r5⟩ npp
  unfold kvE at hr5
  rw [List.getElem?_map] at hr5
  obtain ⟨e,he,rfl⟩:=Option.map_eq_some_iff.mp hr5
  have hb:=(P3.ok e (List.mem_of_getElem? he)).1
  refine ⟨pp,_,rfl,.of AD,rfl,_,_,rfl,_,_,rfl,rfl,?_⟩
  refine ⟨e.1,rfl,by lia,fun t H6 nt s6 g6=>⟨Ae (show 2<=1000 by decide),fun t2 n2=>?_⟩⟩
  have s7:Same H6 (upd H6 t2 (.tup [.ref t,.int (e.2:Nat)])):=Same.upd n2
  have s0:=Same.upd (o:=.tup [kV (Sum.inl (e.1:Int):Key),V.int (e.2:Int)]) npp
  have S7:=s0.trans (s6.trans s7)
  refine ⟨s5.trans S7,?_⟩
  rw [List.take_add_one,he,List.map_append]
  exact Reps.append (Reps.same S7 _ _ r5) (Ab (Cj (.of AD) (Ab (Cj (.of (s7 _ _ g6)) (Kw _)) (Ab (by unfold Rep;rfl) Af))) Af)
 ·rintro zs H5 ⟨s5,r5⟩ l2 nl2
  have s6:Same H5 (upd H5 l2 (.lst zs)):=Same.upd nl2
  refine ⟨_,.inl ⟨.of AD,fun t nt=>?_⟩⟩
  have S7:=s6.trans (Same.upd (o:=.tup zs) nt)
  rw [show (kvE es).length=es.length by unfold kvE;rw [List.length_map],List.take_length] at r5
  exact q es _ _ P3 (Cj (.of AD) (Reps.same S7 _ _ r5)) (R4.same (s5.trans S7)) (f4.trans (Bd (s5.trans S7)))
theorem SN {ls:List Int} {rs:List (List Bool)} (he:Bo ls rs):∀ i j,i < ls.length->j < ls.length->(∀ y∈rs.map gB,y i=y j)->AF ls i=AF ls j:=by
 have key:∀ i j,i < j->j < ls.length->(∀ y∈rs.map gB,y i=y j)->AF ls i=AF ls j:=fun i j hij hj h =>
  Classical.byContradiction fun ne=>he i j ⟨hij,hj,ne,by
   unfold Cv
   apply List.map_congr_left
   intro r hr
   exact h _ (List.mem_map.mpr ⟨r,hr,rfl⟩)⟩
 intro i j hi hj h
 rcases Nat.lt_trichotomy i j with z | z | z
 ·exact key i j z hj h
 ·rw [z]
 ·exact (key j i z hi fun y hy=>(h y hy).symm).symm
noncomputable def Gy (K:W.Frag):Sp:=fun vs H Q _=>match vs with
 | [v]=>∃ ls rs,Rep K H (gmD ls rs) v/\Gm ls rs/\Bo ls rs/\∀ H',Same H H'->Q .non H'
 | _=>False
theorem Ld:FnOk P w K mg base CX0 2 T.f_z20 T.d_z20 ["game"] (Gy K):=by
 have G_z27:=NY (P:=P) (w:=w) (base:=base) T
 refine T.F_z20.ok sc_z20 (fun vs H Q E h=>by unfold Gy at h;split at h <;> first | rfl | exact h.elim) (fun cdv A outer s H vs Q E hr h=>?_)
 have hu:=AZ hr
 have hr_z27:=hr.mono (show 1<=_ by decide)
 unfold Gy at h
 split at h
 rotate_left
 ·exact h.elim
 rename_i v
 obtain ⟨ls,rs,hv,G,he,q⟩:=h
 refine ⟨_,(@AG _ _ _ _ _ (@AM _ _ 1 _ _ _ _ sc_z20.nd rfl (by right) (AL G_z27 hr_z27 rfl T.m_z27 T.F_z27.kp T.b_z27 .nil AE (AA (vv 0) AB)) (by rfl) (by symm)) (@AI _ _ _ (@Aw _ _ _ _ _ _ _ _ (Ag Ho (vv 1) CN) (@AI _ _ _ Gx) Av))),?_⟩
 exact ⟨ls,rs,hv,G,fun H1 s1 _=>q H1 s1,fun i j t H1 hf _ _ _=>absurd hf.1 (he i j)⟩
theorem J5 {ls:List Int} {rs:List (List Bool)} (he:Bo ls rs):∀ X,X < 2 ^ ls.length->Can (AF ls) (AT (rs.map AU)) ls.length X.testBit:=fun X hX=>by
 rw [N8]
 exact Pi (SN he) _ _ (fun k hk=>CZ hX hk) (by have:=D9 ls.length X.testBit;lia)
noncomputable abbrev BF (Pt:Addr) (H:Hp):Prop:=Lam Pt EK B3 H
noncomputable def D0 (K:W.Frag) (Pt:Addr):Sp:=fun vs H Q _=>match vs with
 | [v]=>∃ ls rs,Rep K H (gmD ls rs) v/\Gm ls rs/\Bo ls rs/\BF Pt H /\
  ∀ t es u H',Er ls (rs.map AU) t (2 ^ ls.length - 1)->PInv ls (rs.map AU) ls.length (2 ^ ls.length - 1) es []->Rep K H' (.tup [.int (need ls (rs.map AU) (2 ^ ls.length - 1):Nat),t.dv,K8 es]) u->Grow Pt H H'->BF Pt H'->Q u H'
 | _=>False
theorem Pc {Pt:Addr}:Ac (D0 K Pt):=fun vs H Q Q' E h q=>by
 unfold D0 at *
 split at q
 ·revert q;repeat' first | exact h _ _ | exact Be h | exact out_mono h | exact outT_mono h | walk_at "m"
 ·exact q.elim
theorem Su (B:BMn mg base):FnOk P w K mg base CX0 96 T.f_z51 T.d_z51 ["game"] (D0 K T.p_z12):=by
 have G_z20:=Ld (P:=P) (w:=w) (base:=base) T;have G_z23:=Lx (P:=P) (w:=w) (base:=base) T;have G_z18:=LZ (P:=P) (w:=w) (base:=base) T;have G_z15:=FX (P:=P) (w:=w) (base:=base) T;have G_z48:=M5 (P:=P) (w:=w) (base:=base) T B;have G_z43:=RE (P:=P) (w:=w) (base:=base) T
 refine T.F_z51.ok sc_z51 (fun vs H Q E h=>by unfold D0 at h;split at h <;> first | rfl | exact h.elim) (fun cdv A outer s H vs Q E hr h=>?_)
 have hu:=AZ hr
 have hr_z20:=hr.mono (show 2<=_ by decide);have hr_z23:=hr.mono (show 4<=_ by decide);have hr1_z23:=hr.mono (show 4+1<=_ by decide);have hr_z18:=hr.mono (show 3<=_ by decide);have hr_z15:=hr.mono (show 72<=_ by decide);have hr_z48:=hr.mono (show 95<=_ by decide);have hr_z43:=hr.mono (show 75<=_ by decide)
 unfold D0 at h
 split at h
 rotate_left
 ·exact h.elim
 rename_i v
 obtain ⟨ls,rs,hv,G,he,hL,q⟩:=h
 have l1:=G.l1
 have l16:=G.l16
 have cd:∀ U:Nat,Ah ls.length U.testBit < 17:=fun U=>by have:=D9 ls.length U.testBit;lia
 have hp2:=Nat.two_pow_pos ls.length
 have hp3:2 ^ 1<=2 ^ ls.length:=Nat.pow_le_pow_right (by decide) l1
 have hS:2 ^ ls.length - 1 < 2 ^ ls.length:=by lia
 have hc:=J5 he _ hS
 refine ⟨_,(@AG _ _ _ _ _ (@CD _ _ _ _ (AL G_z20 hr_z20 rfl T.m_z20 T.F_z20.kp T.b_z20 .nil AE (AA (vv 0) AB)) (by rfl)) (@AG _ _ _ _ _ (@AM _ _ 1 _ _ _ _ sc_z51.nd rfl (by right) (Ex T.mk_Reckoner G_z23 hr1_z23 rfl T.mC_Reckoner T.b_z23 .nil AE (AA (vv 0) AB)) (by rfl) (by symm)) (@AG _ _ _ _ _ (@AM _ _ 2 _ _ _ _ sc_z51.nd rfl (by right) (BZ (vv 1) T.cl_Reckoner T.me_z18 G_z18 hr_z18 T.b_z18 .nil AE) (by rfl) (by symm)) (@AI _ _ _ (@AN _ _ _ _ (Ba (AA (Al (vv 1) T.cl_Reckoner T.me_z15 G_z15 hr_z15 T.b_z15 .nil AE (AA (vv 2) AB)) (AA (AL G_z48 hr_z48 rfl T.m_z48 T.F_z48.kp T.b_z48 .nil AE (AA (vv 1) (AA (vv 2) AB))) (AA (AL G_z43 hr_z43 rfl T.m_z43 T.F_z43.kp T.b_z43 .nil AE (AA (vv 1) (AA (vv 2) AB))) AB))))))))),?_⟩
 refine ⟨ls,rs,hv,G,he,fun H0 s0=>?_⟩
 intro x dx hx hdx hne
 have s1:Same H0 (upd (upd H0 dx (.own x)) x (.ins T.C_Reckoner dx [])):=(Same.upd (o:=.own x) hdx).trans (fun b o e=>by
  have:b≠x:=fun z=>by
   rw [z,AJ (Ne.symm hne),hx] at e
   cases e
  rw [AJ this];exact e)
 have hx1:upd (upd H0 dx (.own x)) x (.ins T.C_Reckoner dx []) x=some (.ins T.C_Reckoner dx []):=AD
 generalize upd (upd H0 dx (.own x)) x (.ins T.C_Reckoner dx [])=H1 at *
 have S1:=s0.trans s1
 refine ⟨ls,rs,dx,hx1,hv.same S1,G,fun d H2 hd R f2=>⟨rfl,?_⟩⟩
 dsimp only [AR]
 have hd0:H d=none:=S1.free hd
 have nx0:H x=none:=s0.free hx
 have s2:Same H H2:=fun b o e=>f2 b o (BL e nx0) (S1 _ _ e)
 have L2':=hL.same s2
 generalize hys:rs.map AU=ys at *
 obtain ⟨dx2,tl2,yl2,al2,as2,kvs2,k1,_,_,_,k5,_⟩:=id R.at_
 refine ⟨x,dx2,_,rfl,k1,lnB _ _ _ _,ls,ys,d,R,?_⟩
 dsimp only [AR]
 generalize hSS:2 ^ ls.length - 1=S at *
 have h0:S≠0:=by lia
 refine ⟨x,dx2,_,rfl,k1,ln1 _ _ _ _,ls,ys,d,S,R,rfl,hS,⟨_,hc⟩,cd S,fun m H3 hm R3 f3=>?_⟩
 have L3:=DP L2' f3 k5 (.inr (.inl ⟨_,rfl⟩))
 refine ⟨ls,ys,d,S,R3,rfl,hS,h0,⟨_,hc⟩,cd S,L3,fun t vt H4 bt rp R4 f4 L4=>?_⟩
 obtain ⟨_,_,_,_,_,_,_,_,_,_,d4,_⟩:=id R4.at_
 refine ⟨ls,ys,d,S,_,R4,rfl,hS,hc,fun es ve H5 P5 r5 R5 f5=>⟨Ae (show 3<=1000 by decide),fun u nu=>?_⟩⟩
 have L5:=DP L4 f5 d4 (.inr (.inl ⟨_,rfl⟩))
 have s6:Same H5 (upd H5 u (.tup [.int (m:Nat),vt,ve])):=Same.upd nu
 have rp5:Rep K H5 t.dv vt:=Rep.mv (fun a xs h=>Co f5 d4 GF h) _ _ t.tups rp
 rw [CU hm] at q
 refine q t es _ _ bt P5 (Cj (.of AD) (Ab (by unfold Rep;rfl) (Ab (Rep.same s6 _ _ rp5) (Ab (Rep.same s6 _ _ r5) Af)))) (fun b o hb e=>?_) (L5.same s6)
 have hbd:b≠d:=BL e hd0
 exact s6 _ _ (f5 _ _ hbd (f4 _ _ (by simp [hbd,hb]) (f3 _ _ hbd (s2 _ _ e))))
noncomputable def akF (r:Addr) (S:Nat):List (Str × V):=[("reckoner",.ref r),("fitting",.int (S:Int))]
theorem la1 (r:Addr) (S:Nat):(akF r S).lookup ("reckoner" : Str)=some (.ref r):=by rfl
theorem la2 (r:Addr) (S:Nat):(akF r S).lookup ("fitting" : Str)=some (.int (S:Int)):=by rfl
theorem na1 (r:Addr) (S:Nat):(akF r S).lookup ("ask" : Str)=none:=by rfl
theorem na2 (r:Addr) (S:Nat):(akF r S).lookup ("say" : Str)=none:=by rfl
theorem na3 (r:Addr) (S:Nat):(akF r S).lookup ("left" : Str)=none:=by rfl
theorem na4 (r:Addr) (S:Nat):(akF r S).lookup ("label" : Str)=none:=by rfl
theorem na5 (r:Addr) (S:Nat):(akF r S).lookup ("most" : Str)=none:=by rfl
theorem pk1 (r:Addr):Ad "reckoner" (.ref r) []=([("reckoner",.ref r)]:List (Str × V)):=by rfl
theorem pk2 (r:Addr) (S:Nat):Ad "fitting" (.int (S:Int)) [("reckoner",.ref r)]=akF r S:=by rfl
theorem pk3 (r:Addr) (S S':Nat):Ad "fitting" (.int (S':Int)) (akF r S)=akF r S':=by rfl
structure AkAt (K:W.Frag) (CA CR:Addr) (ls:List Int) (ys:List Nat) (H:Hp) (p r d:Addr) (S:Nat):Prop where
 ob:∃ dx,H p=some (.ins CA dx (akF r S))
 rk:RkAt K CR ls ys H r d
 ne:r≠p
 lt:S < 2 ^ ls.length
 s0:S≠0
 can:∀ X,X < 2 ^ ls.length->Can (AF ls) (AT ys) ls.length X.testBit
theorem AkAt.same {CA CR p r d:Addr} {ls:List Int} {ys:List Nat} {S:Nat} {H H':Hp} (a:AkAt K CA CR ls ys H p r d S) (s:Same H H'):AkAt K CA CR ls ys H' p r d S:=by
 obtain ⟨dx,h⟩:=a.ob
 exact ⟨⟨dx,s _ _ h⟩,a.rk.same s,a.ne,a.lt,a.s0,a.can⟩
theorem GN {C C' p x d dx:Addr} {fs:List (Str × V)} {ls:List Int} {ys:List Nat} {H H':Hp} (R:RkAt K C ls ys H x d) (f:Frm p H H') (hp:H p=some (.ins C' dx fs)) (hx:x≠p):RkAt K C ls ys H' x d:=by
 obtain ⟨dx,tl,yl,al,as,kvs,h1,h2,h3,h4,h5,h6,h7,h8⟩:=R.at_
 exact ⟨⟨dx,tl,yl,al,as,kvs,f _ _ hx h1,Co f hp DS h2,f _ _ (BA h3 hp (by intro z;cases z)) h3,f _ _ (BA h4 hp (by intro z;cases z)) h4,f _ _ (BA h5 hp (by intro z;cases z)) h5,h6,h7,h8⟩,R.l16,R.y16⟩
noncomputable def Dj (K:W.Frag) (CA CR:Addr):Sp:=fun vs H Q _=>match vs with
 | [.ref p,v]=>∃ ls rs dx,H p=some (.ins CA dx [])/\Rep K H (gmD ls rs) v/\Gm ls rs/\Bo ls rs/\∀ r d H',H r=none->H d=none->AkAt K CA CR ls (rs.map AU) H' p r d (2 ^ ls.length - 1)->Frm p H H'->Q .non H'
 | _=>False
theorem OY {CA CR:Addr}:Ac (Dj K CA CR):=fun vs H Q Q' E h q=>by
 unfold Dj at *
 split at q
 ·revert q;repeat' first | exact h _ _ | exact Be h | exact out_mono h | exact outT_mono h | walk_at "m"
 ·exact q.elim
theorem Nh:FnOk P w K mg base CX0 6 T.f_z31 T.d_z31 ["self","game"] (Dj K T.C_Asking T.C_Reckoner):=by
 have G_z20:=Ld (P:=P) (w:=w) (base:=base) T;have G_z23:=Lx (P:=P) (w:=w) (base:=base) T;have G_z18:=LZ (P:=P) (w:=w) (base:=base) T
 refine T.F_z31.ok P0 (fun vs H Q E h=>by unfold Dj at h;split at h <;> first | rfl | exact h.elim) (fun cdv A outer s H vs Q E hr h=>?_)
 have hu:=AZ hr
 have hr_z20:=hr.mono (show 2<=_ by decide);have hr_z23:=hr.mono (show 4<=_ by decide);have hr1_z23:=hr.mono (show 4+1<=_ by decide);have hr_z18:=hr.mono (show 3<=_ by decide)
 unfold Dj at h
 split at h
 rotate_left
 ·exact h.elim
 rename_i p v
 obtain ⟨ls,rs,dp,hp,hv,G,he,q⟩:=h
 have l1:=G.l1
 have hp3:2 ^ 1<=2 ^ ls.length:=Nat.pow_le_pow_right (by decide) l1
 refine ⟨_,(@AG _ _ _ _ _ (@CD _ _ _ _ (AL G_z20 hr_z20 rfl T.m_z20 T.F_z20.kp T.b_z20 .nil AE (AA (vv 1) AB)) (by rfl)) (@AG _ _ _ _ _ (Cz T.cl_Asking T.na_Asking_reckoner (vv 0) (Ex T.mk_Reckoner G_z23 hr1_z23 rfl T.mC_Reckoner T.b_z23 .nil AE (AA (vv 1) AB))) (@AI _ _ _ (Cz T.cl_Asking T.na_Asking_fitting (vv 0) (BZ (Ax T.cl_Asking T.na_Asking_reckoner (vv 0)) T.cl_Reckoner T.me_z18 G_z18 hr_z18 T.b_z18 .nil AE))))),?_⟩
 refine ⟨ls,rs,hv,G,he,fun H0 s0=>?_⟩
 intro x dx hx hdx hne
 have s1:Same H0 (upd (upd H0 dx (.own x)) x (.ins T.C_Reckoner dx [])):=(Same.upd (o:=.own x) hdx).trans (fun b o e=>by
  have:b≠x:=fun z=>by
   rw [z,AJ (Ne.symm hne),hx] at e
   cases e
  rw [AJ this];exact e)
 have hx1:upd (upd H0 dx (.own x)) x (.ins T.C_Reckoner dx []) x=some (.ins T.C_Reckoner dx []):=AD
 generalize upd (upd H0 dx (.own x)) x (.ins T.C_Reckoner dx [])=H1 at *
 have S1:=s0.trans s1
 refine ⟨ls,rs,dx,hx1,hv.same S1,G,fun d H2 hd R f2=>⟨rfl,?_⟩⟩
 have hd0:H d=none:=S1.free hd
 have nx0:H x=none:=s0.free hx
 have s2:Same H H2:=fun b o e=>f2 b o (BL e nx0) (S1 _ _ e)
 have hxp:x≠p:=fun z=>by rw [z,hp] at nx0;cases nx0
 have hp2:=s2 _ _ hp
 refine ⟨dp,_,hp2,(show 0 < 1000 by decide),?_⟩
 have f3:Frm p H2 (upd H2 p (.ins T.C_Asking dp (Ad "reckoner" (.ref x) []))):=Frm.updT
 have hp3':upd H2 p (.ins T.C_Asking dp (Ad "reckoner" (.ref x) [])) p=some (.ins T.C_Asking dp [("reckoner",.ref x)]):=by rw [pk1];exact AD
 have R3:=GN R f3 hp2 hxp
 have F3:Frm p H _:=(Bd s2).trans f3
 generalize upd H2 p (.ins T.C_Asking dp (Ad "reckoner" (.ref x) []))=H3 at *
 obtain ⟨dx3,tl3,yl3,al3,as3,kvs3,k1,_⟩:=id R3.at_
 refine ⟨dp,_,_,hp3',by rfl,x,dx3,_,rfl,k1,lnB _ _ _ _,ls,_,d,R3,dp,_,hp3',(show 1 < 1000 by decide),?_⟩
 rw [pk2]
 have f4:Frm p H3 (upd H3 p (.ins T.C_Asking dp (akF x (2 ^ ls.length - 1)))):=Frm.updT
 exact q x d _ nx0 hd0 ⟨⟨dp,AD⟩,GN R3 f4 hp3' hxp,hxp,by lia,by lia,J5 he⟩ (F3.trans f4)
noncomputable def Ct (K:W.Frag) (CA CR Pt:Addr):Sp:=fun vs H Q _=>match vs with
 | [.ref p]=>∃ ls ys r d S,AkAt K CA CR ls ys H p r d S/\BF Pt H/\(One (AF ls) S.testBit->∀ H',Same H H'->Q .non H') /\
  (¬ One (AF ls) S.testBit->∀ (j:Nat) H',FirstQ ls ys S j->AkAt K CA CR ls ys H' p r d S->FrX [d,Pt] H H'->BF Pt H'->Q (.int (j:Nat)) H')
 | _=>False
theorem Ir {CA CR Pt:Addr}:Ac (Ct K CA CR Pt):=fun vs H Q Q' E h q=>by
 unfold Ct at *
 split at q
 ·obtain ⟨ls,ys,r,d,S,h1,h2,q1,q2⟩:=q
  exact ⟨ls,ys,r,d,S,h1,h2,fun o H' x=>h _ _ (q1 o H' x),fun o j H' x1 x2 x3 x4=>h _ _ (q2 o j H' x1 x2 x3 x4)⟩
 ·exact q.elim
theorem Tq {CA CR p r d Pt:Addr} {ls:List Int} {ys:List Nat} {S:Nat} {H H':Hp} (a:AkAt K CA CR ls ys H p r d S) (L:BF Pt H) (f:FrX [d,Pt] H H') (R:RkAt K CR ls ys H' r d):AkAt K CA CR ls ys H' p r d S:=by
 obtain ⟨dx,h⟩:=a.ob
 obtain ⟨_,_,_,_,_,_,_,_,_,_,k5,_⟩:=a.rk.at_
 obtain ⟨ps,hP,_⟩:=L
 refine ⟨⟨dx,f _ _ ?_ h⟩,R,a.ne,a.lt,a.s0,a.can⟩
 simp only [List.mem_cons,List.not_mem_nil,or_false,not_or]
 exact ⟨BA h k5 (by intro z;cases z),BA h hP (by intro z;cases z)⟩
theorem Mc (B:BMn mg base):FnOk P w K mg base CX0 78 T.f_z33 T.d_z33 ["self"] (Ct K T.C_Asking T.C_Reckoner T.p_z12):=by
 have G_z13:=GA (P:=P) (w:=w) (base:=base) T;have G_z12:=Kp (P:=P) (w:=w) (base:=base) T B
 refine T.F_z33.ok Rz (fun vs H Q E h=>by unfold Ct at h;split at h <;> first | rfl | exact h.elim) (fun cdv A outer s H vs Q E hr h=>?_)
 have hu:=AZ hr
 have hr_z13:=hr.mono (show 2<=_ by decide);have hr_z12:=hr.mono (show 77<=_ by decide)
 unfold Ct at h
 split at h
 rotate_left
 ·exact h.elim
 rename_i p
 obtain ⟨ls,ys,r,d,S,AK,L,q1,q2⟩:=h
 obtain ⟨dp,hp⟩:=AK.ob
 obtain ⟨dx,tl,yl,al,as,kvs,k1,_⟩:=id AK.rk.at_
 refine ⟨_,(@AG _ _ _ _ _ (@Aw _ _ _ _ _ _ _ _ (Cy (Al (Ax T.cl_Asking T.na_Asking_reckoner (vv 0)) T.cl_Reckoner T.me_z13 G_z13 hr_z13 T.b_z13 .nil AE (AA (Ax T.cl_Asking T.na_Asking_fitting (vv 0)) AB))) (@AI _ _ _ (@AN _ _ _ _ CN)) Av) (@AI _ _ _ (@AN _ _ _ _ (Al (Ax T.cl_Asking T.na_Asking_reckoner (vv 0)) T.cl_Reckoner T.me_z12 G_z12 hr_z12 T.b_z12 .nil AE (AA (Ax T.cl_Asking T.na_Asking_fitting (vv 0)) AB))))),?_⟩
 refine ⟨dp,_,_,hp,la1 _ _,r,dx,_,rfl,k1,ln3 _ _ _ _,dp,_,_,hp,la2 _ _,ls,ys,d,S,AK.rk,rfl,AK.lt,fun b H1 hb s1=>?_⟩
 cases b with
 | true=>exact q1 (hb.mp rfl) H1 s1
 | false =>
  have ho:¬ One (AF ls) S.testBit:=fun o=>nomatch hb.mpr o
  have A1:=AK.same s1
  dsimp only [Bj]
  refine ⟨dp,_,_,s1 _ _ hp,la1 _ _,r,dx,_,rfl,s1 _ _ k1,ln9 _ _ _ _,dp,_,_,s1 _ _ hp,la2 _ _,ls,ys,d,S,A1.rk,rfl,AK.lt,⟨_,AK.can _ AK.lt⟩,ho,L.same s1,fun j H2 hj R2 f2 L2'=>?_⟩
  exact q2 ho j H2 hj (Tq A1 (L.same s1) f2 R2) ((FrX.same s1).trans f2) L2'
noncomputable def Cw (K:W.Frag) (CA CR:Addr):Sp:=fun vs H Q _=>match vs with
 | [.ref p,.int i,.bl ans]=>∃ ls ys r d S j,AkAt K CA CR ls ys H p r d S/\i=(j:Nat)/\j < ys.length/\(if ans=true then S &&& ys.getD j 0 else S - (S &&& ys.getD j 0))≠0 /\
  ∀ H',AkAt K CA CR ls ys H' p r d (if ans=true then S &&& ys.getD j 0 else S - (S &&& ys.getD j 0))->Frm p H H'->Q .non H'
 | _=>False
theorem Li {CA CR:Addr}:Ac (Cw K CA CR):=fun vs H Q Q' E h q=>by
 unfold Cw at *
 split at q
 ·revert q;repeat' first | exact h _ _ | exact Be h | exact out_mono h | exact outT_mono h | walk_at "m"
 ·exact q.elim
theorem Mb:FnOk P w K mg base CX0 2 T.f_z34 T.d_z34 ["self","question","answer"] (Cw K T.C_Asking T.C_Reckoner):=by
 have G_z21:=Fx (P:=P) (w:=w) (base:=base) T
 refine T.F_z34.ok sc_z34 (fun vs H Q E h=>by unfold Cw at h;split at h <;> first | rfl | exact h.elim) (fun cdv A outer s H vs Q E hr h=>?_)
 have hu:=AZ hr
 have hr_z21:=hr.mono (show 1<=_ by decide)
 unfold Cw at h
 split at h
 rotate_left
 ·exact h.elim
 rename_i p i ans
 obtain ⟨ls,ys,r,d,S,j,AK,e1,hj,h0,q⟩:=h
 subst e1
 have hy:ys[j]? = some (ys.getD j 0):=by rw [List.getD_eq_getElem?_getD,List.getElem?_eq_getElem hj];rfl
 have hle:=Nat.and_le_left (n:=S) (m:=ys.getD j 0)
 have hlt:=AK.lt
 obtain ⟨dp,hp⟩:=AK.ob
 obtain ⟨dx,tl,yl,al,as,kvs,k1,_⟩:=id AK.rk.at_
 refine ⟨_,(@AG _ _ _ _ _ (@AM _ _ 3 _ _ _ _ sc_z34.nd rfl (by right) (Al (Ax T.cl_Asking T.na_Asking_reckoner (vv 0)) T.cl_Reckoner T.me_z21 G_z21 hr_z21 T.b_z21 .nil AE (AA (Ax T.cl_Asking T.na_Asking_fitting (vv 0)) (AA (vv 1) (AA (vv 2) AB)))) (by rfl) (by symm)) (@AG _ _ _ _ _ (@Aw _ _ _ _ _ _ _ _ (Ag (kEq (K:=K) hu) (vv 3) AC) (@AI _ _ _ Gx) Av) (@AI _ _ _ (Cz T.cl_Asking T.na_Asking_fitting (vv 0) (vv 3))))),?_⟩
 refine ⟨dp,_,_,hp,la1 _ _,r,dx,_,rfl,k1,ln7 _ _ _ _,dp,_,_,hp,la2 _ _,ls,ys,d,S,j,_,AK.rk,rfl,rfl,hy,?_⟩
 dsimp only [AR]
 have hlt2:(if ans=true then S &&& ys.getD j 0 else S - (S &&& ys.getD j 0)) < 2 ^ ls.length:=by split <;> lia
 generalize (if ans=true then S &&& ys.getD j 0 else S - (S &&& ys.getD j 0))=S' at *
 have e0:(false ^^ ((S':Int) == 0))=false:=by
  rw [Bool.false_xor,beq_eq_false_iff_ne]
  lia
 refine An (fun e=>absurd (e0 ▸ e) (by decide)) (fun _=>?_)
 dsimp only [Bj]
 refine ⟨dp,_,hp,(show 2 < 1000 by decide),?_⟩
 rw [pk3]
 have f4:Frm p H (upd H p (.ins T.C_Asking dp (akF r S'))):=Frm.updT
 exact q _ ⟨⟨dp,AD⟩,GN AK.rk f4 hp AK.ne,AK.ne,hlt2,h0,AK.can⟩ f4
noncomputable def DN (K:W.Frag) (CA CR:Addr):Sp:=fun vs H Q _=>match vs with
 | [.ref p]=>∃ ls ys r d S,AkAt K CA CR ls ys H p r d S/\∀ t H',H t=none->Same H H'->H' t=some (.tup (iL (BH S)))->Q (.ref t) H'
 | _=>False
theorem Qu {CA CR:Addr}:Ac (DN K CA CR):=fun vs H Q Q' E h q=>by
 unfold DN at *
 split at q
 ·revert q;repeat' first | exact h _ _ | exact Be h | exact out_mono h | exact outT_mono h | walk_at "m"
 ·exact q.elim
theorem TM:FnOk P w K mg base CX0 5 T.f_z32 T.d_z32 ["self"] (DN K T.C_Asking T.C_Reckoner):=by
 have G_z38:=Gq (P:=P) (w:=w) (base:=base) T
 refine T.F_z32.ok PD (fun vs H Q E h=>by unfold DN at h;split at h <;> first | rfl | exact h.elim) (fun cdv A outer s H vs Q E hr h=>?_)
 have hu:=AZ hr
 have hr_z38:=hr.mono (show 4<=_ by decide)
 unfold DN at h
 split at h
 rotate_left
 ·exact h.elim
 rename_i p
 obtain ⟨ls,ys,r,d,S,AK,q⟩:=h
 obtain ⟨dp,hp⟩:=AK.ob
 have l16:=AK.rk.l16
 have hlt:=AK.lt
 have h60:2 ^ ls.length<=2 ^ 60:=Nat.pow_le_pow_right (by decide) (by lia)
 refine ⟨_,(@AI _ _ _ (@AN _ _ _ _ (AL G_z38 hr_z38 rfl T.m_z38 T.F_z38.kp T.b_z38 .nil AE (AA (Ax T.cl_Asking T.na_Asking_fitting (vv 0)) AB)))),?_⟩
 exact ⟨dp,_,_,hp,la2 _ _,S,rfl,by lia,q⟩
noncomputable def Cs (K:W.Frag) (CA CR:Addr):Sp:=fun vs H Q _=>match vs with
 | [.ref p]=>∃ ls ys r d S,AkAt K CA CR ls ys H p r d S/\(One (AF ls) S.testBit->∀ k H',S.testBit k=true->Same H H'->Q (.int (AF ls k)) H')/\(¬ One (AF ls) S.testBit->∀ H',Same H H'->Q .non H')
 | _=>False
theorem Lw {CA CR:Addr}:Ac (Cs K CA CR):=fun vs H Q Q' E h q=>by
 unfold Cs at *
 split at q
 ·obtain ⟨ls,ys,r,d,S,h1,q1,q2⟩:=q
  exact ⟨ls,ys,r,d,S,h1,fun o k H' x1 x2=>h _ _ (q1 o k H' x1 x2),fun o H' x1=>h _ _ (q2 o H' x1)⟩
 ·exact q.elim
theorem Ig:FnOk P w K mg base CX0 6 T.f_z26 T.d_z26 ["self"] (Cs K T.C_Asking T.C_Reckoner):=by
 have G_z13:=GA (P:=P) (w:=w) (base:=base) T;have G_z19:=KI (P:=P) (w:=w) (base:=base) T
 refine T.F_z26.ok Rr (fun vs H Q E h=>by unfold Cs at h;split at h <;> first | rfl | exact h.elim) (fun cdv A outer s H vs Q E hr h=>?_)
 have hu:=AZ hr
 have hr_z13:=hr.mono (show 2<=_ by decide);have hr_z19:=hr.mono (show 5<=_ by decide)
 unfold Cs at h
 split at h
 rotate_left
 ·exact h.elim
 rename_i p
 obtain ⟨ls,ys,r,d,S,AK,q1,q2⟩:=h
 obtain ⟨dp,hp⟩:=AK.ob
 obtain ⟨dx,tl,yl,al,as,kvs,k1,_⟩:=id AK.rk.at_
 refine ⟨_,(@AG _ _ _ _ _ (@Aw _ _ _ _ _ _ _ _ (Cy (Al (Ax T.cl_Asking T.na_Asking_reckoner (vv 0)) T.cl_Reckoner T.me_z13 G_z13 hr_z13 T.b_z13 .nil AE (AA (Ax T.cl_Asking T.na_Asking_fitting (vv 0)) AB))) (@AI _ _ _ (@AN _ _ _ _ (Al (Ax T.cl_Asking T.na_Asking_reckoner (vv 0)) T.cl_Reckoner T.me_z19 G_z19 hr_z19 T.b_z19 .nil AE (AA (Ax T.cl_Asking T.na_Asking_fitting (vv 0)) AB)))) Av) (@AI _ _ _ (@AN _ _ _ _ CN))),?_⟩
 refine ⟨dp,_,_,hp,la1 _ _,r,dx,_,rfl,k1,ln3 _ _ _ _,dp,_,_,hp,la2 _ _,ls,ys,d,S,AK.rk,rfl,AK.lt,fun b H1 hb s1=>?_⟩
 cases b with
 | true =>
  refine ⟨dp,_,_,s1 _ _ hp,la1 _ _,r,dx,_,rfl,s1 _ _ k1,ln8 _ _ _ _,dp,_,_,s1 _ _ hp,la2 _ _,ls,ys,d,S,AK.rk.same s1,rfl,AK.lt,AK.s0,fun k H2 hk s2=>?_⟩
  exact q1 (hb.mp rfl) k H2 hk (s1.trans s2)
 | false=>exact q2 (fun o=>nomatch hb.mpr o) H1 s1
noncomputable def C0 (K:W.Frag) (CA CR:Addr):Sp:=fun vs H Q _=>match vs with
 | [.ref p]=>∃ ls ys r d S,AkAt K CA CR ls ys H p r d S/\∀ H',AkAt K CA CR ls ys H' p r d S->Frm d H H'->Q (.int (need ls ys S:Nat)) H'
 | _=>False
theorem JI {CA CR:Addr}:Ac (C0 K CA CR):=fun vs H Q Q' E h q=>by
 unfold C0 at *
 split at q
 ·revert q;repeat' first | exact h _ _ | exact Be h | exact out_mono h | exact outT_mono h | walk_at "m"
 ·exact q.elim
theorem SV {CA CR p r d:Addr} {ls:List Int} {ys:List Nat} {S:Nat} {H H':Hp} (a:AkAt K CA CR ls ys H p r d S) (f:Frm d H H') (R:RkAt K CR ls ys H' r d):AkAt K CA CR ls ys H' p r d S:=by
 obtain ⟨dx,h⟩:=a.ob
 obtain ⟨_,_,_,_,_,_,_,_,_,_,k5,_⟩:=a.rk.at_
 exact ⟨⟨dx,f _ _ (BA h k5 (by intro z;cases z)) h⟩,R,a.ne,a.lt,a.s0,a.can⟩
theorem Lb:FnOk P w K mg base CX0 73 T.f_z28 T.d_z28 ["self"] (C0 K T.C_Asking T.C_Reckoner):=by
 have G_z15:=FX (P:=P) (w:=w) (base:=base) T
 refine T.F_z28.ok QG (fun vs H Q E h=>by unfold C0 at h;split at h <;> first | rfl | exact h.elim) (fun cdv A outer s H vs Q E hr h=>?_)
 have hu:=AZ hr
 have hr_z15:=hr.mono (show 72<=_ by decide)
 unfold C0 at h
 split at h
 rotate_left
 ·exact h.elim
 rename_i p
 obtain ⟨ls,ys,r,d,S,AK,q⟩:=h
 obtain ⟨dp,hp⟩:=AK.ob
 have l16:=AK.rk.l16
 obtain ⟨dx,tl,yl,al,as,kvs,k1,_⟩:=id AK.rk.at_
 refine ⟨_,(@AI _ _ _ (@AN _ _ _ _ (Al (Ax T.cl_Asking T.na_Asking_reckoner (vv 0)) T.cl_Reckoner T.me_z15 G_z15 hr_z15 T.b_z15 .nil AE (AA (Ax T.cl_Asking T.na_Asking_fitting (vv 0)) AB)))),?_⟩
 refine ⟨dp,_,_,hp,la1 _ _,r,dx,_,rfl,k1,ln1 _ _ _ _,dp,_,_,hp,la2 _ _,ls,ys,d,S,AK.rk,rfl,AK.lt,⟨_,AK.can _ AK.lt⟩,by have:=D9 ls.length S.testBit;lia,fun m H1 hm R1 f1=>?_⟩
 rw [<- CU hm]
 exact q H1 (SV AK f1 R1) f1
theorem Nl {a b c:Addr} {H:Hp} (h1:∃ o,H a=some o/\Bq o/\∀ xs,o≠.lst xs) (h2:∃ o,H b=some o/\Bq o/\∀ xs,o≠.lst xs) (h3:∃ o,H c=some o/\Bq o/\∀ xs,o≠.lst xs):Oth [a,b,c] H:=fun x hx=>by
 rcases List.mem_cons.mp hx with rfl | hx
 ·exact h1
 ·exact MO h2 h3 x hx
theorem UG {CA CR p r d:Addr} {ls:List Int} {ys:List Nat} {S:Nat} {H:Hp} (a:AkAt K CA CR ls ys H p r d S):∃ o,H p=some o/\Bq o/\∀ xs,o≠.lst xs:=by
 obtain ⟨dx,h⟩:=a.ob
 exact ⟨_,h,DS,fun _ z=>nomatch z⟩
theorem CQ {CA CR p r d Pt:Addr} {ls:List Int} {ys:List Nat} {S:Nat} {H:Hp} (a:AkAt K CA CR ls ys H p r d S) (L:BF Pt H):Oth [p,d,Pt] H:=Nl (UG a) (K9 a.rk) (J2 L)
theorem MS {p d Pt:Addr} {H H':Hp} (f:FrX [d,Pt] H H'):FrX [p,d,Pt] H H':=f.up fun a h=>List.mem_cons_of_mem _ h
theorem Fp {p d Pt:Addr} {H H':Hp} (f:Frm d H H'):FrX [p,d,Pt] H H':=.frm f (by simp)
theorem HR {p d Pt:Addr} {H H':Hp} (f:Frm p H H'):FrX [p,d,Pt] H H':=.frm f (by simp)
theorem E9 {CA CR p r d Pt:Addr} {ls:List Int} {ys:List Nat} {S:Nat} {H H':Hp} (a:AkAt K CA CR ls ys H p r d S) (L:BF Pt H) (f:Frm d H H'):BF Pt H':=by
 obtain ⟨_,_,_,_,_,_,_,_,_,_,k5,_⟩:=a.rk.at_
 exact DP L f k5 (.inr (.inl ⟨_,rfl⟩))
theorem G4 {CA CR p r d Pt:Addr} {ls:List Int} {ys:List Nat} {S:Nat} {H H':Hp} (a:AkAt K CA CR ls ys H p r d S) (L:BF Pt H) (f:Frm p H H'):BF Pt H':=by
 obtain ⟨dx,h⟩:=a.ob
 exact DP L f h (.inr (.inr ⟨_,_,_,rfl⟩))
noncomputable def lfS (S y k:Nat):Nat:=if y.testBit k=true then S &&& y else S - (S &&& y)
theorem HV {S y k:Nat} (h:S.testBit k=true):(lfS S y k).testBit k=true:=by
 unfold lfS
 cases e:y.testBit k with
 | true=>rw [if_pos rfl,Nat.testBit_and,h,e];rfl
 | false=>rw [if_neg (by simp),Fk,h,e];rfl
theorem Hf {S k:Nat} (h:S.testBit k=true):S≠0:=fun z=>by rw [z] at h;simp at h
theorem J4 {ls:List Int} {ys:List Nat} {S j k n:Nat} (hS:S < 2 ^ ls.length) (ho:¬ One (AF ls) S.testBit) (hc:Can (AF ls) (AT ys) n S.testBit) (h:FirstQ ls ys S j):need ls ys (lfS S (ys.getD j 0) k) < need ls ys S/\Ah ls.length (lfS S (ys.getD j 0) k).testBit < Ah ls.length S.testBit:=by
 have e:=Mp ho hc h
 obtain ⟨y1,y2⟩:=DI h.mem
 obtain ⟨c1,c2⟩:=HK (fun i hi=>CZ hS hi) y2
 unfold wst at e
 unfold lfS
 cases e2:(ys.getD j 0).testBit k with
 | true=>rw [if_pos rfl];exact ⟨by lia,by rw [Cb];exact c1⟩
 | false=>rw [if_neg (by simp)];exact ⟨by lia,by rw [Ce];exact c2⟩
theorem Ky {ls:List Int} {ys:List Nat} {S n:Nat} (h:Can (AF ls) (AT ys) n S.testBit):need ls ys S<=n:=(Cf h).2 _ h
theorem QX {rs:List (List Bool)} {j:Nat} (h:j < rs.length):(rs.map AU).getD j 0=AU (rs.getD j []):=by
 rw [List.getD_eq_getElem?_getD,List.getElem?_map,List.getElem?_eq_getElem h,List.getD_eq_getElem?_getD,List.getElem?_eq_getElem h]
 rfl
noncomputable def C7 (K:W.Frag) (CA CR Pt:Addr):Sp:=fun vs H Q _=>match vs with
 | [.ref p,v,.int z]=>∃ ls rs r d S k,AkAt K CA CR ls (rs.map AU) H p r d S/\Rep K H (gmD ls rs) v/\Gm ls rs/\z=(k:Nat)/\S.testBit k=true/\BF Pt H/\∀ H',FrX [p,d,Pt] H H'->BF Pt H'->Q (.bl true) H'
 | _=>False
theorem SE {CA CR Pt:Addr}:Ac (C7 K CA CR Pt):=fun vs H Q Q' E h q=>by
 unfold C7 at *
 split at q
 ·revert q;repeat' first | exact h _ _ | exact Be h | exact out_mono h | exact outT_mono h | walk_at "m"
 ·exact q.elim
theorem Lr (ks:List Nat):(iL ks).all B9=true:=by
 unfold iL
 rw [List.all_map,List.all_eq_true]
 intro x _
 rfl
theorem in_iN (ks:List Nat) (k:Nat):inV (.int (k:Int)) (iL ks)=ks.contains k:=by
 unfold inV iL
 rw [List.any_map,Bool.eq_iff_iff,List.any_eq_true,List.contains_iff_mem]
 constructor
 ·rintro ⟨x,hx,e⟩
  have e:((x:Int) == (k:Int))=true:=e
  have:x=k:=by have:(x:Int)=(k:Int):=by simpa using e
               lia
  exact this ▸ hx
 ·intro h
  exact ⟨k,h,by show ((k:Int) == (k:Int))=true;simp⟩
theorem CI (ls:List Int) (rs:List (List Bool)):BW (gmD ls rs)=true:=by
 have h1:∀ ls:List Int,Aq (ls.map Dv.int)=true:=by
  intro ls
  induction ls with
  | nil=>rfl
  | cons i ls ih =>
   show (true && Aq (ls.map Dv.int))=true
   rw [ih];rfl
 show (Aq (ls.map Dv.int) && (Aq (AQ rs) && true))=true
 rw [h1,Bz]
 rfl
theorem Ik {S k:Nat}:inV (.int (k:Int)) (iL (BH S))=S.testBit k:=by
 rw [in_iN,Bool.eq_iff_iff,List.contains_iff_mem]
 exact mem_memS
theorem IQ {H:Hp} {ls:List Int} {rs:List (List Bool)} {a tl rl:Addr} {ps:List Addr} (g:GmAt K H ls rs a tl rl ps) (G:Gm ls rs) {j k:Nat} (hj:j < rs.length) (hk:k < ls.length) :
 ∃ q xs,atI (ps.map V.ref) ((j:Nat):Int)=some (.ref q)/\SqT K H q xs/\atI xs ((k:Nat):Int)=some (.bl (((rs.map AU).getD j 0).testBit k)):=by
 have hj2:j < ps.length:=by rw [g.len];exact hj
 refine ⟨ps[j],_,BI rfl (by rw [List.getElem?_map,List.getElem?_eq_getElem hj2];rfl),g.row j _ rs[j] (List.getElem?_eq_getElem hj2) (List.getElem?_eq_getElem hj),?_⟩
 rw [QX hj,mskR_bit,List.getD_eq_getElem?_getD,List.getElem?_eq_getElem hj]
 exact Hu (by rw [G.row _ (List.getElem_mem hj)];exact hk)
theorem O1 (B:BMn mg base):FnOk P w K mg base CX0 79 T.f_z37 T.d_z37 ["_law_asking","_law_game_here","_law_hidden"] (C7 K T.C_Asking T.C_Reckoner T.p_z12):=by
 have G_z28:=Lb (P:=P) (w:=w) (base:=base) T;have G_z33:=Mc (P:=P) (w:=w) (base:=base) T B;have G_z34:=Mb (P:=P) (w:=w) (base:=base) T;have G_z32:=TM (P:=P) (w:=w) (base:=base) T;have G_z26:=Ig (P:=P) (w:=w) (base:=base) T
 refine T.F_z37.ok sc_z37 (fun vs H Q E h=>by unfold C7 at h;split at h <;> first | rfl | exact h.elim) (fun cdv A outer s H vs Q E hr h=>?_)
 have hu:=AZ hr
 have hr_z28:=hr.mono (show 73<=_ by decide);have hr_z33:=hr.mono (show 78<=_ by decide);have hr_z34:=hr.mono (show 2<=_ by decide);have hr_z32:=hr.mono (show 5<=_ by decide);have hr_z26:=hr.mono (show 6<=_ by decide)
 have mo1:Ac (Ct K T.C_Asking T.C_Reckoner T.p_z12):=Ir
 have mo2:Ac (C0 K T.C_Asking T.C_Reckoner):=JI
 have mo3:Ac (DN K T.C_Asking T.C_Reckoner):=Qu
 have mo4:Ac (Cs K T.C_Asking T.C_Reckoner):=Lw
 have mo5:Ac (Cw K T.C_Asking T.C_Reckoner):=Li
 unfold C7 at h
 split at h
 rotate_left
 ·exact h.elim
 rename_i p v z
 obtain ⟨ls,rs,r,d,S,k,AK,hv,G,e1,hk,L,q⟩:=h
 subst e1
 have l16:=G.l16
 obtain ⟨dp,hp⟩:=AK.ob
 have hkl:=CZ AK.lt hk
 have n16:=Ky (AK.can S AK.lt)
 refine ⟨_,(@AG _ _ _ _ _ (@AM _ _ 3 _ _ _ _ sc_z37.nd rfl (by right) (BZ (vv 0) T.cl_Asking T.me_z28 G_z28 hr_z28 T.b_z28 .nil AE) (by rfl) (by symm)) (@AG _ _ _ _ _ (@Bk _ _ _ _ _ _ _ _ PassesOwn.never rfl (Ay rfl T.z_range (AA AC AB)) (AX (i:=4) sc_z37.nd rfl (by right)) (@AG _ _ _ _ _ (@AM _ _ 5 _ _ _ _ sc_z37.nd rfl (by right) (BZ (vv 0) T.cl_Asking T.me_z33 G_z33 hr_z33 T.b_z33 .nil AE) (by rfl) (by symm)) (@AG _ _ _ _ _ (@Aw _ _ _ _ _ _ _ _ (Ag Je (vv 5) CN) (@AI _ _ _ (@AN _ _ _ _ (Lg (Bh (kEq (K:=K) hu) (BZ (vv 0) T.cl_Asking T.me_z26 G_z26 hr_z26 T.b_z26 .nil AE) (kIx (K:=K) (kIx (K:=K) (vv 1) AC) (vv 2))) (Lg (Bh HD (vv 3) (vv 4)) (Mf (Bh (kIn (K:=K)) (vv 2) (BZ (vv 0) T.cl_Asking T.me_z32 G_z32 hr_z32 T.b_z32 .nil AE))))))) Av) (@AG _ _ _ _ _ (@AM _ _ 6 _ _ _ _ sc_z37.nd rfl (by right) (Ba (AA (BZ (vv 0) T.cl_Asking T.me_z28 G_z28 hr_z28 T.b_z28 .nil AE) (AA (Ar (Az (K:=K)) rfl T.z_len (by rfl) (AA (BZ (vv 0) T.cl_Asking T.me_z32 G_z32 hr_z32 T.b_z32 .nil AE) AB)) AB))) (by rfl) (by symm)) (@AG _ _ _ _ _ (@Aw _ _ _ _ _ _ _ _ (PW.pt (G3 (Ag Ho (BZ (vv 0) T.cl_Asking T.me_z26 G_z26 hr_z26 T.b_z26 .nil AE) CN) (Kk (JM (LK Tx Cd AC (vv 5) (Ar (Az (K:=K)) rfl T.z_len (by rfl) (AA (kIx (K:=K) (vv 1) AC) AB))))))) (@AI _ _ _ (@AN _ _ _ _ Bm)) Av) (@AG _ _ _ _ _ (@CD _ _ _ _ (Al (vv 0) T.cl_Asking T.me_z34 G_z34 hr_z34 T.b_z34 .nil AE (AA (vv 5) (AA (kIx (K:=K) (kIx (K:=K) (kIx (K:=K) (vv 1) AC) (vv 5)) (vv 2)) AB))) (by rfl)) (@AI _ _ _ (@Aw _ _ _ _ _ _ _ _ (PW.pt (G3 (Ag (OE (K:=K)) (vv 2) (BZ (vv 0) T.cl_Asking T.me_z32 G_z32 hr_z32 T.b_z32 .nil AE)) (G3 (Ag HD (Ar (Az (K:=K)) rfl T.z_len (by rfl) (AA (BZ (vv 0) T.cl_Asking T.me_z32 G_z32 hr_z32 T.b_z32 .nil AE) AB)) (kIx (K:=K) (vv 6) AC)) (Kk (Ag HD (BZ (vv 0) T.cl_Asking T.me_z28 G_z28 hr_z28 T.b_z28 .nil AE) (kIx (K:=K) (vv 6) AC)))))) (@AI _ _ _ (@AN _ _ _ _ Bm)) Av))))))) (by intro _;rfl)) (@AI _ _ _ (@AN _ _ _ _ Bm)))),?_⟩
 refine ⟨p,dp,_,rfl,hp,na5 _ _,ls,_,r,d,S,AK,fun H1 A1 f1=>?_⟩
 dsimp only [AR]
 have L1:=E9 AK L f1
 have F1:FrX [p,d,T.p_z12] H H1:=Fp f1
 have O0:=CQ AK L
 generalize hM0:need ls (rs.map AU) S=M at *
 refine Ak (fun σ H'=>False) ?_ (fun _ _ z=>z.elim) (by walk_at "sm")
 refine ⟨20,rfl,by decide,by decide,?_⟩
 refine B4 (fun i σ H'=>(∃ z4 z5 z6:Option V,σ=[some (.ref p),some v,some (.int (k:Nat)),some (.int (M:Nat)),z4,z5,z6])/\∃ S,AkAt K T.C_Asking T.C_Reckoner ls (rs.map AU) H' p r d S/\S.testBit k=true/\FrX [p,d,T.p_z12] H H'/\BF T.p_z12 H'/\need ls (rs.map AU) S+i<=M) ⟨⟨none,none,none,rfl⟩,S,A1,hk,F1,L1,by lia⟩ ?_ ?_
 rotate_left
 ·rintro σ H2 ⟨_,S2,A2,_,_,_,hM⟩
  have:(20:Int).toNat=20:=by decide
  lia
 clear hp A1 f1 F1 L1 hk hM0 AK S H1 L
 rintro i σ H2 hi ⟨⟨z4,z5,z6,rfl⟩,S,AK,hk,F2,L,hM⟩
 obtain ⟨dp,hp⟩:=AK.ob
 have rv:=F2.rep O0 (CI ls rs) hv
 dsimp only [AR]
 refine ⟨p,dp,_,rfl,hp,na1 _ _,ls,_,r,d,S,AK,L,fun ho H3 s3=>?_,fun ho j H3 hj A3 f3 L3=>?_⟩
 ·have A3:=AK.same s3
  obtain ⟨ga,tl,rl,ps,rfl,g⟩:=CT (rv.same s3)
  refine ⟨p,dp,_,rfl,s3 _ _ hp,na4 _ _,ls,_,r,d,S,A3,fun _ k' H4 hk' s4=>?_,fun no=>absurd ho no⟩
  have g4:=g.same s4
  refine ⟨_,.ref tl,.inr g4.two,rfl,_,.int (AF ls k),.inr g4.lab,Cp hkl,?_⟩
  rw [ho k' k hk' hk]
  generalize AF ls k=z
  refine An (fun _=>?_) (fun e=>absurd (show (false ^^ (z == z))=true by simp) e)
  refine An (fun _=>?_) (fun e=>absurd (decide_eq_true (by lia)) e)
  have A4:=A3.same s4
  refine ⟨p,dp,_,rfl,s4 _ _ (s3 _ _ hp),na3 _ _,ls,_,r,d,S,A4,fun t5 H5 n5 s5 g5=>⟨_,.inr (.of g5),rfl,Lr _,?_⟩⟩
  rw [Ik,hk]
  exact q H5 (F2.trans (.same (s3.trans (s4.trans s5)))) ((L.same s3).same (s4.trans s5))
 ·dsimp only [AR]
  have O2:=CQ AK L
  have F3:FrX [p,d,T.p_z12] H2 H3:=MS f3
  have rv3:=F3.rep O2 (CI ls rs) rv
  obtain ⟨ga,tl,rl,ps,rfl,g⟩:=CT rv3
  obtain ⟨dp3,hp3⟩:=A3.ob
  have hjl:j < rs.length:=by
   have:=List.mem_range.mp (List.mem_filter.mp hj.mem).1
   rw [List.length_map] at this
   exact this
  obtain ⟨hlt1,hlt2⟩:=J4 (k:=k) AK.lt ho (AK.can _ AK.lt) hj
  have ecs:(BH S).length=Ah ls.length S.testBit:=LB AK.lt
  refine ⟨p,dp3,_,rfl,hp3,na5 _ _,ls,_,r,d,S,A3,fun H4 A4 f4=>?_⟩
  have O3:=CQ A3 L3
  have F4:FrX [p,d,T.p_z12] H3 H4:=Fp f4
  have L4:=E9 A3 L3 f4
  obtain ⟨dp4,hp4⟩:=A4.ob
  refine ⟨p,dp4,_,rfl,hp4,na3 _ _,ls,_,r,d,S,A4,fun t5 H5 n5 s5 g5=>⟨(BH S).length,.inr ⟨_,.of g5,by rw [At]⟩,Ae (show 2<=1000 by decide),fun t6 n6=>?_⟩⟩
  dsimp only [AR]
  have s6:Same H5 (upd H5 t6 (.tup [.int (need ls (rs.map AU) S:Nat),.int ((BH S).length:Nat)])):=Same.upd n6
  have g6:upd H5 t6 (.tup [.int (need ls (rs.map AU) S:Nat),.int ((BH S).length:Nat)]) t6=some (.tup [.int (need ls (rs.map AU) S:Nat),.int ((BH S).length:Nat)]):=AD
  generalize upd H5 t6 (.tup [.int (need ls (rs.map AU) S:Nat),.int ((BH S).length:Nat)])=H6 at *
  have S6:=s5.trans s6
  have A6:=A4.same S6
  have L6:=L4.same S6
  have r6:=Rep.same S6 _ _ (F4.rep O3 (CI ls rs) rv3)
  have F6:FrX [p,d,T.p_z12] H H6:=F2.trans (F3.trans (F4.trans (.same S6)))
  clear s5 s6 S6 n6 g5 n5 A4 L4 F4 O3 f4 hp4 g A3 L3 hp3 F3 rv3 f3 O2 rv hp AK L F2 H5 H4
  obtain ⟨dp6,hp6⟩:=A6.ob
  refine ⟨p,dp6,_,rfl,hp6,na4 _ _,ls,_,r,d,S,A6,fun o=>absurd o ho,fun _ H7 s7=>?_⟩
  obtain ⟨ga',tl7,rl7,ps7,ea,g7⟩:=CT (r6.same s7)
  cases ea
  have A7:=A6.same s7
  have L7:=L6.same s7
  have g67:=s7 _ _ g6
  have F7:FrX [p,d,T.p_z12] H H7:=F6.trans (.same s7)
  clear A6 L6 g6 F6 r6 hp6
  refine ⟨_,.ref rl7,.inr g7.two,rfl,rs.length,.inr ⟨_,g7.rows,by rw [List.length_map,g7.len]⟩,?_⟩
  have e0:decide ((j:Int) < (rs.length:Int))=true:=decide_eq_true (by lia)
  refine An (fun e=>absurd (show (!decide ((j:Int) < (rs.length:Int)))=true from e) (by rw [e0];decide)) (fun _=>?_)
  dsimp only [Bj]
  obtain ⟨q7,xs7,hq1,hq2,hq3⟩:=IQ g7 G hjl hkl
  obtain ⟨dp7,hp7⟩:=A7.ob
  have hb:=HV (y:=(rs.map AU).getD j 0) hk
  refine ⟨p,dp7,_,rfl,hp7,na2 _ _,_,.ref rl7,.inr g7.two,rfl,_,.ref q7,.inr g7.rows,hq1,_,_,.inr hq2,hq3,ls,_,r,d,S,j,A7,rfl,by rw [List.length_map];exact hjl,Hf hb,fun H8 A8 f8=>?_⟩
  have A8:AkAt K T.C_Asking T.C_Reckoner ls (rs.map AU) H8 p r d (lfS S ((rs.map AU).getD j 0) k):=A8
  have L8:=G4 A7 L7 f8
  have g68:=f8 _ _ (BA g67 hp7 (by intro z;cases z)) g67
  have F8:FrX [p,d,T.p_z12] H H8:=F7.trans (HR f8)
  have ecs2:(BH (lfS S ((rs.map AU).getD j 0) k)).length=Ah ls.length (lfS S ((rs.map AU).getD j 0) k).testBit:=LB A8.lt
  generalize lfS S ((rs.map AU).getD j 0) k=S' at *
  clear A7 L7 g67 F7 hp7 f8 g7 hq1 hq2 hq3
  obtain ⟨dp8,hp8⟩:=A8.ob
  refine ⟨p,dp8,_,rfl,hp8,na3 _ _,ls,_,r,d,S',A8,fun t9 H9 n9 s9 g9=>⟨_,.inr (.of g9),rfl,Lr _,?_⟩⟩
  rw [Ik,hb]
  refine ⟨p,dp8,_,rfl,s9 _ _ hp8,na3 _ _,ls,_,r,d,S',A8.same s9,fun t10 H10 n10 s10 g10=>⟨(BH S').length,.inr ⟨_,.of g10,by rw [At]⟩,_,.int ((BH S).length:Nat),.inr (.of (s10 _ _ (s9 _ _ g68))),rfl,?_⟩⟩
  refine An (fun e=>absurd (of_decide_eq_true e) (by lia)) (fun _=>?_)
  have S10:=s9.trans s10
  have A10:=A8.same S10
  obtain ⟨_,_,_,_,_,_,_,_,_,_,k10,_⟩:=id A10.rk.at_
  refine ⟨p,dp8,_,rfl,S10 _ _ hp8,na5 _ _,ls,_,r,d,S',A10,fun H11 A11 f11=>⟨_,.int (need ls (rs.map AU) S:Nat),.inr (.of (f11 _ _ (BA (S10 _ _ g68) k10 (by intro z;cases z)) (S10 _ _ g68))),rfl,?_⟩⟩
  refine An (fun e=>absurd (of_decide_eq_true e) (by lia)) (fun _=>?_)
  exact ⟨⟨_,_,_,rfl⟩,S',A11,hb,F8.trans ((FrX.same S10).trans (Fp f11)),E9 A10 (L8.same S10) f11,by lia⟩
theorem SY {K:W.Frag} {l:Addr} {xs:List V} {g:TG} {tb:TS} {D:Ends} {σ:St} {H:Hp} (Pv:Nat->St->Hp->Prop) (h0:Pv 0 σ H) (hl:∀ i σ H,i<=xs.length->Pv i σ H->SqL K H l xs)
 (hs:∀ i x p σ H,xs[i]? = some x->Pv i σ H->H p=none->g (.ref p) σ (upd H p (.tup [.int (i:Nat),x])) fun σ2 H2=>tb { D with nx:=Pv (i+1),ct:=Pv (i+1),bk:=D.nx } σ2 H2) (hd:∀ σ H,Pv xs.length σ H->D.nx σ H) :
 ∃ W:Nat->Nat->St->Hp->Prop,(∃ m,W 0 m σ H)/\∀ i m σ H,W i m σ H ->
  ((Ite K l).stop i H/\D.nx σ H)\/((Ite K l).go i H/\∃ N:St->Hp->Prop,(∀ σ' H',N σ' H'->∃ m',m' < m/\W (i+1) m' σ' H')/\∀ x H',(Ite K l).yld i H x H'->g x σ H' fun σ2 H2=>tb { D with nx:=N,ct:=N,bk:=D.nx } σ2 H2):=by
 refine ⟨fun i m σ H=>m=xs.length - i/\i<=xs.length/\Pv i σ H,⟨xs.length,by simp,Nat.zero_le _,h0⟩,?_⟩
 rintro i m σ H ⟨rfl,hi,p⟩
 have q:=hl i σ H hi p
 by_cases hlt:i < xs.length
 ·refine .inr ⟨⟨xs,xs[i],q,by simp [hlt]⟩,Pv (i+1),fun σ' H' p'=>⟨xs.length - (i+1),by lia,rfl,hlt,p'⟩,fun x H' y=>?_⟩
  obtain ⟨pp,x,hp,rfl,rfl,k1⟩:=y
  exact hs i x pp σ H (k1 xs q) p hp
 ·have e:i=xs.length:=by lia
  subst e
  exact .inl ⟨⟨xs,q,Nat.le_refl _⟩,hd σ H p⟩
noncomputable def cgD (ts:List (List Bool)) (m:Nat):Dv:=.tup [.tup ((List.range ts.length).map fun (k:Nat)=>.int k),.tup ((List.range (2 ^ m)).map fun p=>.tup (ts.map fun b=>.bl (b.getD p false)))]
noncomputable def EA (K:W.Frag):Sp:=fun vs H Q _=>match vs with
 | [.ref l]=>∃ (m:Nat) (ts:List (List Bool)) (xs:List V),SqL K H l xs/\Reps K H (AQ ts) xs/\1<=ts.length/\ts.length<=16/\m<=4/\(∀ b∈ts,b.length=2 ^ m)/\ts.Nodup/\∀ v H',Same H H'->Rep K H' (cgD ts m) v->Q v H'
 | _=>False
theorem M9:Ac (EA K):=fun vs H Q Q' E h q=>by
 unfold EA at *
 split at q
 ·revert q;repeat' first | exact h _ _ | exact Be h | exact out_mono h | exact outT_mono h | walk_at "m"
 ·exact q.elim
theorem DV {H:Hp} {ts:List (List Bool)} {xs:List V} {i:Nat} {x:V} (R:Reps K H (AQ ts) xs) (hx:xs[i]? = some x):∃ b,ts[i]? = some b/\Rep K H (.tup (b.map Dv.bl)) x:=by
 have hl:=R.length
 have hi:=(List.getElem?_eq_some_iff.mp hx).1
 rw [Ca] at hl
 have e:(AQ ts)[i]? = some (.tup ((ts[i]'(by lia)).map Dv.bl)):=by unfold AQ;rw [List.getElem?_map,List.getElem?_eq_getElem (by lia)];rfl
 obtain ⟨y,h1,h2⟩:=R.get e
 rw [hx] at h1
 cases h1
 exact ⟨_,List.getElem?_eq_getElem (by lia),h2⟩
theorem Q9 {ts:List (List Bool)} {b:List Bool} (h:b∈ts):IxD (AQ ts) (.tup (b.map Dv.bl)) (ts.idxOf b)/\ts[ts.idxOf b]? = some b/\∀ k,k < ts.idxOf b->ts[k]? ≠ some b:=by
 have hi:=List.idxOf_lt_length_of_mem h
 have e1:ts[ts.idxOf b]? = some b:=by rw [List.getElem?_eq_getElem hi];simp
 have e2:∀ k,k < ts.idxOf b->ts[k]? ≠ some b:=fun k hk e=>by
  have hkl:k < ts.length:=by lia
  rw [List.getElem?_eq_getElem hkl] at e
  have h2:=List.not_of_lt_findIdx (p:=(· == b)) (xs:=ts) (i:=k) hk
  rw [Option.some.inj e] at h2
  simp at h2
 refine ⟨⟨⟨_,by unfold AQ;rw [List.getElem?_map,e1];rfl,by rw [Fh];exact decide_eq_true rfl⟩,fun m e hm he=>?_⟩,e1,e2⟩
 unfold AQ at he
 rw [List.getElem?_map] at he
 obtain ⟨c,hc,rfl⟩:=Option.map_eq_some_iff.mp he
 rw [Fh]
 refine decide_eq_false fun z=>e2 m hm ?_
 rw [hc,z]
theorem Fe {H:Hp} {b:List Bool} {x:V} (h:Rep K H (.tup (b.map Dv.bl)) x):∃ p,x=.ref p/\SqT K H p (b.map V.bl):=by
 unfold Rep at h
 obtain ⟨p,ys,rfl,g,r⟩:=h
 rw [HF r] at g
 exact ⟨p,rfl,g⟩
theorem Jv {H:Hp}:∀ (bs:List Int),Reps K H (bs.map Dv.int) (bs.map V.int)
 | []=>Af
 | b::bs=>Ab EV (Jv bs)
theorem NI:FnOk P w K mg base CX0 1 T.f_z41 T.d_z41 ["tables"] (EA K):=by
 skip
 refine T.F_z41.ok sc_z41 (fun vs H Q E h=>by unfold EA at h;split at h <;> first | rfl | exact h.elim) (fun cdv A outer s H vs Q E hr h=>?_)
 have hu:=AZ hr
 skip
 unfold EA at h
 split at h
 rotate_left
 ·exact h.elim
 rename_i l
 obtain ⟨m,ts,xs,hB,hR,t1,t16,m4,tb,nd,q⟩:=h
 have hxl:xs.length=ts.length:=by rw [<- hR.length,Ca]
 have h16:2 ^ m<=16:=Nat.pow_le_pow_right (n:=2) (j:=4) (by decide) m4
 refine ⟨_,(@AG _ _ _ _ _ (@Bk _ _ _ _ _ _ _ _ PassesOwn.never rfl (MQ (K:=K) rfl T.z_enumerate (AA (vv 0) AB)) (Sw (K:=K) (n:=2) rfl (CC (AX (i:=1) sc_z41.nd rfl (by right)) (CC (AX (i:=2) sc_z41.nd rfl (by right)) Ei))) (@AG _ _ _ _ _ (@AM _ _ 3 _ _ _ _ sc_z41.nd rfl (by right) (NU (K:=K) hu (vv 0) (AA (vv 2) AB)) (by rfl) (by symm)) (@AI _ _ _ (@Aw _ _ _ _ _ _ _ _ (Ag Cd (vv 3) (vv 1)) (@AI _ _ _ Gx) Av))) (by intro _;rfl)) (@AG _ _ _ _ _ (@C3 _ _ _ _ _ _ _ (["place","tables"]) 1 [0] _ _ _ _ 4 _ _ _ rfl sc_z41.nd rfl rfl (Ay rfl T.z_range (AA (Ar (Az (K:=K)) rfl T.z_len (by rfl) (AA (kIx (K:=K) (vv 0) AC) AB)) AB)) (by kernel_rfl) rfl rfl (by kernel_rfl) (fun c=>AX (i:=0) (show (["place","tables"]:List Str).Nodup by decide +kernel) rfl (by right)) (Ai (by decide)) (fun c=>Au) (fun c=>(As (BB (K:=K)) rfl T.z_tuple (by rfl) (AA (A5 (N':=["table","place"]) (own:=1) (ix:=[0]) rfl (B6 (K:=K) (vv 1)) (by kernel_rfl) rfl rfl (by kernel_rfl) (fun c=>AX (i:=0) (show (["table","place"]:List Str).Nodup by decide +kernel) rfl (by right)) (Ai (by decide)) (fun c=>Au) (fun c=>(kIx (K:=K) (vv 0) (vv 1)))) AB))) (by rfl) (by intro _;rfl)) (@AI _ _ _ (@AN _ _ _ _ (Ba (AA (TJ rfl rfl T.z_tuple rfl T.z_range (AA (Ar (Az (K:=K)) rfl T.z_len (by rfl) (AA (vv 0) AB)) AB)) (AA (As (BB (K:=K)) rfl T.z_tuple (by rfl) (AA (vv 4) AB)) AB))))))),?_⟩
 refine Ak (fun σ H'=>∃ z1 z2 z3,σ=[some (.ref l),z1,z2,z3,none]/\Same H H') ?_ ?_ (by walk_at "sm")
 ·refine ⟨⟨_,hB⟩,SY (xs:=xs) (fun i σ H'=>∃ z1 z2 z3,σ=[some (.ref l),z1,z2,z3,none]/\Same H H') ⟨none,none,none,rfl,Same.refl _⟩ (fun i σ H' _ ⟨_,_,_,_,s'⟩=>s'.sqL hB) ?_ (fun σ H' ⟨z1,z2,z3,e,s'⟩=>⟨z1,z2,z3,e,s'⟩)⟩
  rintro i x p σ H1 hx ⟨z1,z2,z3,rfl,s1⟩ hp
  obtain ⟨b,hb,rb⟩:=DV hR hx
  have s2:=s1.trans (Same.upd (o:=.tup [.int (i:Nat),x]) hp)
  refine ⟨_,.inr (.of AD),rfl,_,_,rfl,_,_,rfl,rfl,?_⟩
  generalize upd H1 p (.tup [.int (i:Nat),x])=H2 at *
  obtain ⟨ix,e1,e2⟩:=Q9 (List.mem_of_getElem? hb)
  have hil:i < ts.length:=(List.getElem?_eq_some_iff.mp hb).1
  have hji:ts.idxOf b=i:=by
   have hb':=(List.getElem?_eq_some_iff.mp hb).2
   rw [<- hb']
   exact nd.idxOf_getElem i hil
  refine Ak (fun σ H'=>σ=[some (.ref l),some (.int (i:Nat)),some x,some (.int (ts.idxOf b:Nat)),none]/\H'=H2) ?_ ?_ (by walk_at "sm")
  ·exact .inl ⟨.inl ⟨rfl,_,s2.sqL hB⟩,xs,AQ ts,_,_,s2.sqL hB,Reps.same s2 _ _ hR,Rep.same s2 _ _ rb,JN ts,ix,rfl,rfl⟩
  rintro σ _ ⟨rfl,rfl⟩
  refine An (fun e=>absurd (of_decide_eq_true e) (by lia)) (fun e=>?_)
  exact ⟨_,_,_,rfl,s2⟩
 rintro σ H1 ⟨z1,z2,z3,rfl,s1⟩
 have A1:=s1.sqL hB
 have R1:=Reps.same s1 _ _ hR
 obtain ⟨x0,hx0⟩:∃ x0,xs[0]? = some x0:=⟨_,List.getElem?_eq_getElem (by lia)⟩
 obtain ⟨b0,hb0,rb0⟩:=DV R1 hx0
 have hbl0:b0.length=2 ^ m:=tb _ (List.mem_of_getElem? hb0)
 obtain ⟨p0,rfl,g0⟩:=Fe rb0
 refine Ak (fun σ H'=>∃ lr ys,σ=[some (.ref l),z1,z2,z3,some (.ref lr)]/\Same H1 H'/\H' lr=some (.lst ys)/\Reps K H' ((List.range (2 ^ m)).map fun p=>.tup (ts.map fun b=>.bl (b.getD p false))) ys) ?_ ?_ (by walk_at "sm")
 ·refine ⟨_,_,.inl A1,BI rfl hx0,b0.length,.inr ⟨_,g0,by rw [List.length_map]⟩,_,rfl,by lia,by lia,?_⟩
  refine BU (fun k ys H'=>Same H1 H'/\Reps K H' ((List.range k).map fun p=>.tup (ts.map fun b=>.bl (b.getD p false))) ys) ⟨Same.refl _,Af⟩ (fun k ys H' hk ⟨_,r⟩=>by
   have:=r.length
   rw [List.length_map,List.length_range] at this
   exact Aj (by lia)) ?_ ?_
  ·rintro k ys H2 hk ⟨s2,r2⟩
   rw [show (0:Int)+(k:Int)=(k:Int) from Int.zero_add _]
   have A2:=(s1.trans s2).sqL hB
   have R2:=Reps.same s2 _ _ R1
   have fin:∀ lp,H2 lp=none->∀ p,upd H2 lp (.lst (ts.map fun b=>V.bl (b.getD k false))) p=none->Same H1 (upd (upd H2 lp (.lst (ts.map fun b=>V.bl (b.getD k false)))) p (.tup (ts.map fun b=>V.bl (b.getD k false))))/\Reps K (upd (upd H2 lp (.lst (ts.map fun b=>V.bl (b.getD k false)))) p (.tup (ts.map fun b=>V.bl (b.getD k false)))) ((List.range (k+1)).map fun p=>.tup (ts.map fun b=>.bl (b.getD p false))) (ys++[.ref p]):=fun lp hlp p hp=>by
    have s3:=(Same.upd (o:=.lst (ts.map fun b=>V.bl (b.getD k false))) hlp).trans (Same.upd (o:=.tup (ts.map fun b=>V.bl (b.getD k false))) hp)
    refine ⟨s2.trans s3,?_⟩
    rw [List.range_succ,List.map_append]
    refine Reps.append (Reps.same s3 _ _ r2) (Ab (BC AD ?_) Af)
    have:=Bt (K:=K) (H:=upd (upd H2 lp (.lst (ts.map fun b=>V.bl (b.getD k false)))) p (.tup (ts.map fun b=>V.bl (b.getD k false)))) (ts.map fun b=>b.getD k false)
    rwa [List.map_map,List.map_map] at this
   have stp:∀ (j:Nat) (x:V),xs[j]? = some x->∃ p b,x=.ref p/\ts[j]? = some b/\SqT K H2 p (b.map V.bl)/\atI (b.map V.bl) (k:Int)=some (.bl (b.getD k false)):=fun j x hx=>by
    obtain ⟨b,hb,rb⟩:=DV R2 hx
    obtain ⟨p,rfl,g⟩:=Fe rb
    have hbl:b.length=2 ^ m:=tb _ (List.mem_of_getElem? hb)
    refine ⟨p,b,rfl,hb,g,BI rfl ?_⟩
    rw [List.getElem?_map,List.getElem?_eq_getElem (by lia),List.getD_eq_getElem?_getD,List.getElem?_eq_getElem (by lia)]
    rfl
   refine .inl ⟨⟨_,A2⟩,DK (xs:=xs) (fun j zs H'=>H'=H2/\zs=(ts.take j).map fun b=>V.bl (b.getD k false)) ⟨rfl,rfl⟩ (fun j zs H' _ ⟨e,_⟩=>by rw [e];exact A2) (fun j zs H' hj ⟨_,e⟩=>by rw [e,List.length_map,List.length_take];exact Aj (by lia)) ?_ ?_⟩
   ·rintro j x zs H' hx ⟨rfl,rfl⟩
    obtain ⟨p,b,rfl,hb,g,ha⟩:=stp j x hx
    refine ⟨_,_,.inr g,ha,rfl,?_⟩
    rw [List.take_add_one,hb,List.map_append]
    rfl
   ·rintro zs H' ⟨rfl,rfl⟩ lp hlp
    rw [List.take_of_length_le (by lia)]
    exact ⟨_,.inl ⟨.of AD,fun p hp=>fin lp hlp p hp⟩⟩
  ·rintro ys H2 ⟨s2,r2⟩ lr hlr
   rw [Int.toNat_natCast,hbl0] at r2
   exact ⟨lr,ys,rfl,s2.trans (Same.upd hlr),AD,Reps.same (Same.upd hlr) _ _ r2⟩
 rintro σ H2 ⟨lr,ys,rfl,s2,g2,r2⟩
 have A2:=(s1.trans s2).sqL hB
 refine ⟨xs.length,.inl ⟨_,A2,rfl⟩,xs.length,rfl,by lia,fun p1 h1=>?_⟩
 have s3:=Same.upd (o:=.tup ((List.range xs.length).map fun (k:Nat)=>V.int (k:Int))) h1
 refine ⟨_,.inl ⟨.of (s3 _ _ g2),fun p2 h2=>⟨Ae (show 2<=1000 by decide),fun p3 h3=>?_⟩⟩⟩
 have s4:=s3.trans (Same.upd (o:=.tup ys) h2)
 have s5:=s4.trans (Same.upd (o:=.tup [.ref p1,.ref p2]) h3)
 refine q _ _ (s1.trans (s2.trans s5)) ?_
 refine BC AD (Ab (BC (xs:=(List.range xs.length).map fun (k:Nat)=>V.int (k:Int)) (Same.upd h3 _ _ (Same.upd h2 _ _ AD)) ?_) (Ab (BC (xs:=ys) (Same.upd h3 _ _ AD) (Reps.same s5 _ _ r2)) Af))
 rw [hxl]
 have:=Jv (K:=K) (H:=upd (upd (upd H2 p1 (.tup ((List.range xs.length).map fun (k:Nat)=>V.int (k:Int)))) p2 (.tup ys)) p3 (.tup [.ref p1,.ref p2])) ((List.range ts.length).map fun (k:Nat)=>(k:Int))
 rw [List.map_map,List.map_map,hxl] at this
 exact this
theorem NO {C p d t:Addr} {N:Nat} {ls:List Int} {ys:List Nat} {H H':Hp} (R:RkAt K C ls ys H p d) (F:GFeed H t N) (f:Frm t H H'):RkAt K C ls ys H' p d:=by
 obtain ⟨dx,tl,yl,al,as,kvs,h1,h2,h3,h4,h5,h6,h7,h8⟩:=R.at_
 obtain ⟨l,i,gg,c,ns,_,_,_,_,ht,_⟩:=F.at_
 have nl:∀ {b:Addr} {xs:List Nat},H b=some (.lst (iL xs))->b≠t:=fun {b xs} e z=>by
  rw [z,ht] at e
  have e:=Option.some.inj e
  injection e with e
  cases xs with
  | nil=>cases e
  | cons y r=>cases e
 exact ⟨⟨dx,tl,yl,al,as,kvs,f _ _ (BA h1 ht (by intro z;cases z)) h1,Co f ht ⟨(fun _ z=>nomatch z),(fun _ _ z=>nomatch z)⟩ h2,f _ _ (nl h3) h3,f _ _ (nl h4) h4,f _ _ (BA h5 ht (by intro z;cases z)) h5,h6,h7,h8⟩,R.l16,R.y16⟩
theorem GS {CA CR p r d t:Addr} {N S:Nat} {ls:List Int} {ys:List Nat} {H H':Hp} (a:AkAt K CA CR ls ys H p r d S) (F:GFeed H t N) (f:Frm t H H'):AkAt K CA CR ls ys H' p r d S:=by
 obtain ⟨dx,h⟩:=a.ob
 obtain ⟨zs,ht⟩:=F.lst
 exact ⟨⟨dx,f _ _ (BA h ht (by intro z;cases z)) h⟩,NO a.rk F f,a.ne,a.lt,a.s0,a.can⟩
theorem Cn {t Pt:Addr} {N:Nat} {H H':Hp} (L:BF Pt H) (F:GFeed H t N) (f:Frm t H H'):BF Pt H':=by
 obtain ⟨zs,ht⟩:=F.lst
 exact DP L f ht (.inl ⟨_,rfl⟩)
theorem Ko {n k:Nat} (h:k < n):(2 ^ n - 1).testBit k=true:=by rw [Nat.testBit_two_pow_sub_one];exact decide_eq_true h
noncomputable def clL (ts:List (List Bool)):List Int:=(List.range ts.length).map fun (k:Nat)=>(k:Int)
noncomputable def clR (ts:List (List Bool)) (m:Nat):List (List Bool):=(List.range (2 ^ m)).map fun p=>ts.map fun b=>b.getD p false
theorem RV (ts:List (List Bool)) (m:Nat):cgD ts m=gmD (clL ts) (clR ts m):=by
 have e1:((List.range ts.length).map fun (k:Nat)=>Dv.int k)=(clL ts).map Dv.int:=by unfold clL;rw [List.map_map];rfl
 have e2:((List.range (2 ^ m)).map fun p=>Dv.tup (ts.map fun b=>.bl (b.getD p false)))=AQ (clR ts m):=by
  unfold AQ clR
  rw [List.map_map]
  apply List.map_congr_left
  intro p _
  simp only [Function.comp_apply,List.map_map]
  rfl
 unfold cgD gmD
 rw [e1,e2]
theorem Oj {CA CR p r d Pt:Addr} {ls:List Int} {ys:List Nat} {S:Nat} {H H':Hp} (a:AkAt K CA CR ls ys H p r d S) (L:BF Pt H) (g:Grow Pt H H'):AkAt K CA CR ls ys H' p r d S:=by
 obtain ⟨dx,h⟩:=a.ob
 obtain ⟨ps,hP,_⟩:=L
 exact ⟨⟨dx,g _ _ (BA h hP (by intro z;cases z)) h⟩,Jz a.rk g hP,a.ne,a.lt,a.s0,a.can⟩
theorem Se {ts:List (List Bool)} {k:Nat} (h:k < ts.length):AF (clL ts) k=k:=by
 unfold AF clL
 rw [List.getD_eq_getElem?_getD,List.getElem?_map,List.getElem?_range h]
 rfl
theorem EO (ts:List (List Bool)):(clL ts).length=ts.length:=by unfold clL;rw [List.length_map,List.length_range]
theorem Ny {ts:List (List Bool)} {m:Nat} (t1:1<=ts.length) (t16:ts.length<=16) (m4:m<=4):Gm (clL ts) (clR ts m):=by
 have h16:2 ^ m<=16:=Nat.pow_le_pow_right (n:=2) (j:=4) (by decide) m4
 have hp:=Nat.two_pow_pos m
 have hr:(clR ts m).length=2 ^ m:=by unfold clR;rw [List.length_map,List.length_range]
 refine ⟨by rw [EO];exact t1,by rw [EO];exact t16,by lia,by lia,fun r h=>?_,fun x h=>?_⟩
 ·unfold clR at h
  obtain ⟨p,_,rfl⟩:=List.mem_map.mp h
  rw [List.length_map,EO]
 ·unfold clL at h
  obtain ⟨k,hk,rfl⟩:=List.mem_map.mp h
  have:=List.mem_range.mp hk
  lia
theorem UO {ts:List (List Bool)} {m p k:Nat} (hp:p < 2 ^ m) {b:List Bool} (hb:ts[k]? = some b):((clR ts m).map AU).getD p 0=AU (ts.map fun b=>b.getD p false)/\(((clR ts m).map AU).getD p 0).testBit k=b.getD p false:=by
 have e:((clR ts m).map AU).getD p 0=AU (ts.map fun b=>b.getD p false):=by
  unfold clR
  rw [List.getD_eq_getElem?_getD,List.getElem?_map,List.getElem?_map,List.getElem?_range hp]
  rfl
 refine ⟨e,?_⟩
 rw [e,mskR_bit]
 unfold gB
 rw [List.getD_eq_getElem?_getD,List.getElem?_map,hb]
 rfl
theorem TU {ts:List (List Bool)} {m:Nat} (nd:ts.Nodup) (tb:∀ b∈ts,b.length=2 ^ m):Bo (clL ts) (clR ts m):=by
 rintro i j ⟨h1,h2,_,h4⟩
 rw [EO] at h2
 have hi:i < ts.length:=by lia
 have key:ts[i]=ts[j]:=by
  have l1:=tb _ (List.getElem_mem hi)
  have l2:=tb _ (List.getElem_mem h2)
  refine List.ext_getElem (by lia) fun p hp hp'=>?_
  unfold Cv clR at h4
  rw [List.map_map,List.map_map] at h4
  have h5:=List.map_inj_left.mp h4 p (List.mem_range.mpr (by lia))
  simp only [Function.comp_apply] at h5
  unfold gB at h5
  rw [List.getD_eq_getElem?_getD,List.getD_eq_getElem?_getD,List.getElem?_map,List.getElem?_map,List.getElem?_eq_getElem hi,List.getElem?_eq_getElem h2] at h5
  simp only [Option.map_some,Option.getD_some] at h5
  rw [List.getD_eq_getElem?_getD,List.getD_eq_getElem?_getD,List.getElem?_eq_getElem hp,List.getElem?_eq_getElem hp'] at h5
  exact h5
 exact List.pairwise_iff_getElem.mp nd i j hi h2 h1 key
theorem Py (B:BMn mg base):FnOk P w K mg base CX0 97 T.f_law T.d_law ["_law_script"] (FV K [T.p_z12]):=by
 have G_z47:=Tp (P:=P) (w:=w) (base:=base) T;have G_z39:=J3 (P:=P) (w:=w) (base:=base) T;have G_z31:=Nh (P:=P) (w:=w) (base:=base) T;have G_z35:=RC (P:=P) (w:=w) (base:=base) T;have G_z46:=Di (P:=P) (w:=w) (base:=base) T;have G_z41:=NI (P:=P) (w:=w) (base:=base) T;have G_z33:=Mc (P:=P) (w:=w) (base:=base) T B;have G_z34:=Mb (P:=P) (w:=w) (base:=base) T;have G_z44:=PY (P:=P) (w:=w) (base:=base) T;have G_z28:=Lb (P:=P) (w:=w) (base:=base) T;have G_z37:=O1 (P:=P) (w:=w) (base:=base) T B;have G_z51:=Su (P:=P) (w:=w) (base:=base) T B;have G_z26:=Ig (P:=P) (w:=w) (base:=base) T
 refine T.F_law.ok sc_law (fun vs H Q E h=>by obtain ⟨a,ns,rfl,_⟩:=h;rfl) (fun cdv A outer s H vs Q E hr h=>?_)
 have hu:=AZ hr
 have hr_z47:=hr.mono (show 1<=_ by decide);have hr_z39:=hr.mono (show 3<=_ by decide);have hr_z31:=hr.mono (show 6<=_ by decide);have hr1_z31:=hr.mono (show 6+1<=_ by decide);have hr_z35:=hr.mono (show 2<=_ by decide);have hr_z46:=hr.mono (show 1<=_ by decide);have hr_z41:=hr.mono (show 1<=_ by decide);have hr_z33:=hr.mono (show 78<=_ by decide);have hr_z34:=hr.mono (show 2<=_ by decide);have hr_z44:=hr.mono (show 4<=_ by decide);have hr_z28:=hr.mono (show 73<=_ by decide);have hr_z37:=hr.mono (show 79<=_ by decide);have hr_z51:=hr.mono (show 96<=_ by decide);have hr_z26:=hr.mono (show 6<=_ by decide)
 obtain ⟨a,ns,rfl,hS,hlen,hPt,q⟩:=h
 refine ⟨_,(@AG _ _ _ _ _ (@AM _ _ 1 _ _ _ _ sc_law.nd rfl (by right) (AL G_z47 hr_z47 rfl T.m_z47 T.F_z47.kp T.b_z47 .nil AE (AA (vv 0) AB)) (by rfl) (by symm)) (@AG _ _ _ _ _ (@Bk _ _ _ _ _ _ _ _ PassesOwn.never rfl (Ay rfl T.z_range (AA AC AB)) (AX (i:=2) sc_law.nd rfl (by right)) (@AG _ _ _ _ _ (@AM _ _ 3 _ _ _ _ sc_law.nd rfl (by right) (AL G_z35 hr_z35 rfl T.m_z35 T.F_z35.kp T.b_z35 .nil AE (AA (AL G_z44 hr_z44 rfl T.m_z44 T.F_z44.kp T.b_z44 .nil AE (AA (vv 1) AB)) AB)) (by rfl) (by symm)) (@AG _ _ _ _ _ (@AM _ _ 4 _ _ _ _ sc_law.nd rfl (by right) (AL G_z46 hr_z46 rfl T.m_z46 T.F_z46.kp T.b_z46 .nil AE (AA (vv 1) (AA (Ar (Az (K:=K)) rfl T.z_len (by rfl) (AA (kIx (K:=K) (vv 3) AC) AB)) AB))) (by rfl) (by symm)) (@AG _ _ _ _ _ (@AM _ _ 5 _ _ _ _ sc_law.nd rfl (by right) (Ex T.mk_Asking G_z31 hr1_z31 rfl T.mC_Asking T.b_z31 .nil AE (AA (vv 3) AB)) (by rfl) (by symm)) (@AG _ _ _ _ _ (@Aw _ _ _ _ _ _ _ _ (Ag (kNe (K:=K) hu) (BZ (vv 5) T.cl_Asking T.me_z28 G_z28 hr_z28 T.b_z28 .nil AE) (kIx (K:=K) (AL G_z51 hr_z51 rfl T.m_z51 T.F_z51.kp T.b_z51 .nil AE (AA (vv 3) AB)) AC)) (@AI _ _ _ (@AN _ _ _ _ Bm)) Av) (@AG _ _ _ _ _ (@Bk _ _ _ _ _ _ _ _ PassesOwn.never rfl (Ay rfl T.z_range (AA (AL G_z46 hr_z46 rfl T.m_z46 T.F_z46.kp T.b_z46 .nil AE (AA (vv 1) (AA AC AB))) AB)) (AX (i:=6) sc_law.nd rfl (by right)) (@AG _ _ _ _ _ (@AM _ _ 7 _ _ _ _ sc_law.nd rfl (by right) (AL G_z46 hr_z46 rfl T.m_z46 T.F_z46.kp T.b_z46 .nil AE (AA (vv 1) (AA (Ar (Az (K:=K)) rfl T.z_len (by rfl) (AA (kIx (K:=K) (vv 3) AC) AB)) AB))) (by rfl) (by symm)) (@AI _ _ _ (@CD _ _ _ _ (Al (vv 5) T.cl_Asking T.me_z34 G_z34 hr_z34 T.b_z34 .nil AE (AA (vv 7) (AA (kIx (K:=K) (kIx (K:=K) (kIx (K:=K) (vv 3) AC) (vv 7)) (vv 4)) AB))) (by rfl)))) (by intro _;rfl)) (@AI _ _ _ (@Aw _ _ _ _ _ _ _ _ (JM (Cy (AL G_z37 hr_z37 rfl T.m_z37 T.F_z37.kp T.b_z37 .nil AE (AA (vv 5) (AA (vv 3) (AA (vv 4) AB)))))) (@AI _ _ _ (@AN _ _ _ _ Bm)) Av))))))) (by intro _;rfl)) (@AG _ _ _ _ _ (@AM _ _ 8 _ _ _ _ sc_law.nd rfl (by right) (AO (BG (K:=K)) AC (AL G_z46 hr_z46 rfl T.m_z46 T.F_z46.kp T.b_z46 .nil AE (AA (vv 1) (AA AC AB)))) (by rfl) (by symm)) (@AG _ _ _ _ _ (@AM _ _ 9 _ _ _ _ sc_law.nd rfl (by right) (AL G_z39 hr_z39 rfl T.m_z39 T.F_z39.kp T.b_z39 .nil AE (AA (vv 1) (AA (vv 8) (AA (AO (BG (K:=K)) AC (AL G_z46 hr_z46 rfl T.m_z46 T.F_z46.kp T.b_z46 .nil AE (AA (vv 1) (AA AC AB)))) AB)))) (by rfl) (by symm)) (@AG _ _ _ _ _ (@AM _ _ 5 _ _ _ _ sc_law.nd rfl (by right) (Ex T.mk_Asking G_z31 hr1_z31 rfl T.mC_Asking T.b_z31 .nil AE (AA (AL G_z41 hr_z41 rfl T.m_z41 T.F_z41.kp T.b_z41 .nil AE (AA (vv 9) AB)) AB)) (by rfl) (by symm)) (@AG _ _ _ _ _ (@AM _ _ 4 _ _ _ _ sc_law.nd rfl (by right) (kIx (K:=K) (vv 9) (AL G_z46 hr_z46 rfl T.m_z46 T.F_z46.kp T.b_z46 .nil AE (AA (vv 1) (AA (Ar (Az (K:=K)) rfl T.z_len (by rfl) (AA (vv 9) AB)) AB)))) (by rfl) (by symm)) (@AG _ _ _ _ _ (@Bk _ _ _ _ _ _ _ _ PassesOwn.never rfl (Ay rfl T.z_range (AA AC AB)) (AX (i:=6) sc_law.nd rfl (by right)) (@AG _ _ _ _ _ (@AM _ _ 10 _ _ _ _ sc_law.nd rfl (by right) (BZ (vv 5) T.cl_Asking T.me_z33 G_z33 hr_z33 T.b_z33 .nil AE) (by rfl) (by symm)) (@AG _ _ _ _ _ (@Aw _ _ _ _ _ _ _ _ (Ag Je (vv 10) CN) (@AI _ _ _ (@AN _ _ _ _ (Bh (kEq (K:=K) hu) (kIx (K:=K) (vv 9) (BZ (vv 5) T.cl_Asking T.me_z26 G_z26 hr_z26 T.b_z26 .nil AE)) (vv 4)))) Av) (@AI _ _ _ (@CD _ _ _ _ (Al (vv 5) T.cl_Asking T.me_z34 G_z34 hr_z34 T.b_z34 .nil AE (AA (vv 10) (AA (kIx (K:=K) (vv 4) (vv 10)) AB))) (by rfl))))) (by intro _;rfl)) (@AI _ _ _ (@AN _ _ _ _ Bm))))))))),?_⟩
 have mo1:Ac (Bw K 500 800000000):=Mn
 have mo2:Ac (EC K):=Tf
 have mo3:Ac (Dj K T.C_Asking T.C_Reckoner):=OY
 have mo4:Ac (C0 K T.C_Asking T.C_Reckoner):=JI
 have mo5:Ac (Cw K T.C_Asking T.C_Reckoner):=Li
 have mo6:Ac (D0 K T.p_z12):=Pc
 have mo7:Ac (C7 K T.C_Asking T.C_Reckoner T.p_z12):=SE
 have mo8:Ac (Cg K):=Q4
 have mo9:Ac (EA K):=M9
 have moA:Ac (Ct K T.C_Asking T.C_Reckoner T.p_z12):=Ir
 have moB:Ac (Cs K T.C_Asking T.C_Reckoner):=Lw
 have L0:BF T.p_z12 H:=NX (hPt _ (List.mem_singleton.mpr rfl))
 refine ⟨ns,hS,fun t H1 ht s1 F1=>?_⟩
 dsimp only [AR]
 have L1:=L0.same s1
 refine Ak (fun σ H'=>(∃ z2 z3 z4 z5 z6 z7 z8 z9 z10:Option V,σ=[some (.ref a),some (.ref t),z2,z3,z4,z5,z6,z7,z8,z9,z10])/\GFeed H' t 4000/\BF T.p_z12 H') ?_ ?_ (by walk_at "sm")
 ·refine ⟨4,rfl,by decide,by decide,?_⟩
  refine B4 (fun i σ H'=>(∃ z2 z3 z4 z5 z6 z7 z8 z9 z10:Option V,σ=[some (.ref a),some (.ref t),z2,z3,z4,z5,z6,z7,z8,z9,z10])/\GFeed H' t (1000 * i)/\BF T.p_z12 H') ⟨⟨none,none,none,none,none,none,none,none,none,rfl⟩,F1,L1⟩ ?_ (fun σ H' ⟨z,F,L⟩=>⟨z,F,L⟩)
  clear F1 L1 L0 s1 ht H1
  rintro i σ H2 hi ⟨⟨z2,z3,z4,z5,z6,z7,z8,z9,z10,rfl⟩,F2,L2'⟩
  have hi4:i < 4:=hi
  refine ⟨_,F2,by lia,fun ls0 rs u0 H3 G0 r3 F3 f3=>⟨ls0,rs,r3,G0,fun ls u H4 s4 G he r4=>?_⟩⟩
  dsimp only [AR]
  have L4:=(Cn L2' F2 f3).same s4
  have F4:=F3.same s4
  have l1:=G.l1
  have l16:=G.l16
  have r1:=G.r1
  have r16:=G.r16
  obtain ⟨ga,tl,rl,ps,rfl,g⟩:=CT r4
  refine ⟨_,.ref tl,.inr g.two,rfl,ls.length,.inr ⟨_,g.lab,by rw [List.length_map]⟩,_,F4,by lia,Am (by lia) (by lia),fun y H5 y0 y1 F5 f5=>?_⟩
  obtain ⟨k,rfl⟩:=Int.eq_ofNat_of_zero_le y0
  dsimp only [AR]
  have L5:=Cn L4 F4 (AY f5)
  have r5:=Rep.frm (AY f5) F4.lst _ _ (CI ls rs) r4
  clear L4 F4 r4 g s4 F3 f3 r3 L2' F2 f5 H4 H3 G0 H2
  intro x dx hx hdx hne
  have s6:Same H5 (upd (upd H5 dx (.own x)) x (.ins T.C_Asking dx [])):=(Same.upd (o:=.own x) hdx).trans (fun b o e=>by
   have:b≠x:=fun z=>by
    rw [z,AJ (Ne.symm hne),hx] at e
    cases e
   rw [AJ this];exact e)
  have hx6:upd (upd H5 dx (.own x)) x (.ins T.C_Asking dx []) x=some (.ins T.C_Asking dx []):=AD
  generalize upd (upd H5 dx (.own x)) x (.ins T.C_Asking dx [])=H6 at *
  refine ⟨ls,rs,dx,hx6,r5.same s6,G,he,fun r d H7 nr nd A7 f7=>⟨rfl,?_⟩⟩
  dsimp only [AR]
  have s7:Same H5 H7:=fun b o e=>f7 b o (BL e hx) (s6 _ _ e)
  have F7:=F5.same s7
  have L7:=L5.same s7
  have r7:=Rep.same s7 _ _ r5
  have hk7:(2 ^ ls.length - 1).testBit k=true:=Ko (by lia)
  clear F5 L5 r5 f7 nr nd s6 s7 hx6 hx hdx H6 H5
  obtain ⟨dp7,hp7⟩:=A7.ob
  refine ⟨x,dp7,_,rfl,hp7,na5 _ _,ls,_,r,d,_,A7,fun H8 A8 f8=>?_⟩
  have O7:=CQ A7 L7
  have L8:=E9 A7 L7 f8
  have fx8:FrX [x,d,T.p_z12] H7 H8:=Fp f8
  have F8:=fx8.feed O7 F7
  have r8:=fx8.rep O7 (CI ls rs) r7
  refine ⟨ls,rs,r8,G,he,L8,fun tr es u9 H9 _ _ rp gr9 L9=>?_⟩
  obtain ⟨p9,xs9,rfl,hs9,hx9⟩:=DL rp
  unfold Reps at hx9
  obtain ⟨v0,l0,rfl,e9,_⟩:=hx9
  unfold Rep at e9
  subst e9
  refine ⟨_,_,.inr hs9,BI (n:=0) rfl rfl,?_⟩
  refine An (fun e=>absurd e (by simp)) (fun _=>?_)
  dsimp only [Bj]
  have O8:=CQ A8 L8
  have fx9:FrX [x,d,T.p_z12] H8 H9:=.grow gr9 (by simp)
  have A9:=Oj A8 L8 gr9
  have F9:=fx9.feed O8 F8
  have r9:=fx9.rep O8 (CI ls rs) r8
  clear hs9 rp O8 fx9 gr9 F8 r8 A8 L8 fx8 O7 f8 F7 r7 A7 L7 hp7 H7 H8
  refine Ak (fun σ H'=>(∃ z6 z7,σ=[some (.ref a),some (.ref t),some (.int (0+(i:Int))),some (.ref ga),some (.int (k:Nat)),some (.ref x),z6,z7,z8,z9,z10])/\GFeed H' t (1000 * i+900)/\BF T.p_z12 H'/\Rep K H' (gmD ls rs) (.ref ga)/\∃ S,AkAt K T.C_Asking T.C_Reckoner ls (rs.map AU) H' x r d S/\S.testBit k=true) ?_ ?_ (by walk_at "sm")
  ·refine ⟨_,F9,by lia,Am (by decide) (by decide),fun y10 H10 w0 w1 F10 f10=>?_⟩
   obtain ⟨W,rfl⟩:=Int.eq_ofNat_of_zero_le w0
   refine ⟨(W:Int),rfl,by lia,by lia,?_⟩
   rw [Int.toNat_natCast]
   refine B4 (fun j σ H'=>(∃ z6 z7,σ=[some (.ref a),some (.ref t),some (.int (0+(i:Int))),some (.ref ga),some (.int (k:Nat)),some (.ref x),z6,z7,z8,z9,z10])/\GFeed H' t (1000 * i+600+j)/\BF T.p_z12 H'/\Rep K H' (gmD ls rs) (.ref ga)/\∃ S,AkAt K T.C_Asking T.C_Reckoner ls (rs.map AU) H' x r d S/\S.testBit k=true)
    ⟨⟨z6,z7,rfl⟩,F10.mono (by lia),Cn L9 F9 (AY f10),Rep.frm (AY f10) F9.lst _ _ (CI ls rs) r9,_,GS A9 F9 (AY f10),hk7⟩ ?_ (fun σ H' ⟨z,F,h⟩=>⟨z,F.mono (by lia),h⟩)
   clear F10 f10 H10 A9 F9 r9 L9 hk7
   rintro j σ H10 hj ⟨⟨z6,z7,rfl⟩,F10,L10,r10,S,A10,hk⟩
   dsimp only [AR]
   obtain ⟨ga',tl,rl,ps,ea,g⟩:=CT r10
   cases ea
   refine ⟨_,.ref rl,.inr g.two,rfl,rs.length,.inr ⟨_,g.rows,by rw [List.length_map,g.len]⟩,_,F10,by lia,Am (by lia) (by lia),fun y11 H11 v0 v1 F11 f11=>?_⟩
   obtain ⟨qn,rfl⟩:=Int.eq_ofNat_of_zero_le v0
   dsimp only [AR]
   have A11:=GS A10 F10 (AY f11)
   have L11:=Cn L10 F10 (AY f11)
   have r11:=Rep.frm (AY f11) F10.lst _ _ (CI ls rs) r10
   obtain ⟨ga',tl1,rl1,ps1,ea,g1⟩:=CT r11
   cases ea
   have hql:qn < rs.length:=by lia
   have hkl:k < ls.length:=CZ A10.lt hk
   obtain ⟨q7,xs7,hq1,hq2,hq3⟩:=IQ g1 G hql hkl
   obtain ⟨dp,hp⟩:=A11.ob
   have hb:=HV (y:=(rs.map AU).getD qn 0) hk
   refine ⟨x,dp,_,rfl,hp,na2 _ _,_,.ref rl1,.inr g1.two,rfl,_,.ref q7,.inr g1.rows,hq1,_,_,.inr hq2,hq3,ls,_,r,d,S,qn,A11,rfl,by rw [List.length_map];exact hql,Hf hb,fun H12 A12 f12=>?_⟩
   have O11:=CQ A11 L11
   have fx12:FrX [x,d,T.p_z12] H11 H12:=HR f12
   exact ⟨⟨_,_,rfl⟩,(fx12.feed O11 F11).mono (by lia),G4 A11 L11 f12,fx12.rep O11 (CI ls rs) r11,_,A12,hb⟩
  ·rintro σ H10 ⟨⟨z6,z7,rfl⟩,F10,L10,r10,S,A10,hk⟩
   have O10:=CQ A10 L10
   refine ⟨ls,rs,r,d,S,k,A10,r10,G,rfl,hk,L10,fun H11 f11 L11=>?_⟩
   exact ⟨⟨_,_,_,_,_,_,_,_,_,rfl⟩,(f11.feed O10 F10).mono (by lia),L11⟩
 ·clear F1 L1 L0 s1 ht H1
  rintro σ H2 ⟨⟨z2,z3,z4,z5,z6,z7,z8,z9,z10,rfl⟩,F2,L2'⟩
  refine ⟨_,F2,by lia,Am (by decide) (by decide),fun y3 H3 a0 a1 F3 f3=>?_⟩
  obtain ⟨m,hm⟩:∃ m:Nat,1+y3=m:=⟨(1+y3).toNat,by lia⟩
  dsimp only [AR]
  refine ⟨_,F3,by lia,Am (by decide) (by decide),fun y4 H4 b0 b1 F4 f4=>?_⟩
  obtain ⟨M,hM⟩:∃ M:Nat,2+y4=M:=⟨(2+y4).toNat,by lia⟩
  refine ⟨m,M,_,F4,by lia,hm,by lia,by lia,hM,by lia,by lia,fun ts xs p H5 t2 tM tb nd np g5 R5 F5 f5=>?_⟩
  dsimp only [AR]
  have L5:=Cn (Cn (Cn L2' F2 (AY f3)) F3 (AY f4)) F4 f5
  have hpt:p≠t:=F4.neT np
  have hm4:m<=4:=by lia
  have hM8:M<=8:=by lia
  clear L2' F2 f3 F3 f4 F4 f5 np
  refine ⟨m,ts,xs,.of g5,R5,by lia,by lia,hm4,tb,nd,fun v H6 s6 r6=>?_⟩
  rw [RV] at r6
  have G:=Ny (m:=m) (show 1<=ts.length by lia) (by lia) hm4
  have he:=TU (m:=m) nd tb
  have hll:=EO ts
  intro x dx hx hdx hne
  have s7:Same H6 (upd (upd H6 dx (.own x)) x (.ins T.C_Asking dx [])):=(Same.upd (o:=.own x) hdx).trans (fun b o e=>by
   have:b≠x:=fun z=>by
    rw [z,AJ (Ne.symm hne),hx] at e
    cases e
   rw [AJ this];exact e)
  have hx7:upd (upd H6 dx (.own x)) x (.ins T.C_Asking dx []) x=some (.ins T.C_Asking dx []):=AD
  generalize upd (upd H6 dx (.own x)) x (.ins T.C_Asking dx [])=H7 at *
  refine ⟨clL ts,clR ts m,dx,hx7,r6.same s7,G,he,fun r d H8 nr nd' A8 f8=>⟨rfl,?_⟩⟩
  dsimp only [AR]
  have s8:Same H5 H8:=s6.trans fun b o e=>f8 b o (BL e hx) (s7 _ _ e)
  have F8:=F5.same s8
  have L8:=L5.same s8
  have g8:=s8 _ _ g5
  have R8:=Reps.same s8 _ _ R5
  have hxl:xs.length=ts.length:=by rw [<- R5.length,Ca]
  clear F5 L5 g5 R5 f8 nr nd' s6 s7 s8 hx7 hx hdx r6 H7 H6 H5
  refine ⟨xs.length,.inl ⟨_,.of g8,rfl⟩,_,F8,by lia,Am (by lia) (by lia),fun y9 H9 y0 y1 F9 f9=>?_⟩
  obtain ⟨k,rfl⟩:=Int.eq_ofNat_of_zero_le y0
  have hkl:k < ts.length:=by lia
  have A9:=GS A8 F8 (AY f9)
  have L9:=Cn L8 F8 (AY f9)
  have g9:H9 p=some (.lst xs):=(f9 p hpt).trans g8
  have R9:=Reps.frm (AY f9) F8.lst _ _ (Bz ts) R8
  obtain ⟨xk,hxk⟩:∃ xk,xs[k]? = some xk:=⟨_,List.getElem?_eq_getElem (by lia)⟩
  obtain ⟨b,hb,rb9⟩:=DV R9 hxk
  obtain ⟨pb,rfl,_⟩:=Fe rb9
  refine ⟨_,_,.inl (.of g9),BI rfl hxk,?_⟩
  dsimp only [AR]
  have n16:=Ky (A9.can _ A9.lt)
  have hk9:(2 ^ (clL ts).length - 1).testBit k=true:=Ko (by lia)
  have hb2:=tb b (List.mem_of_getElem? hb)
  clear R8 g8 L8 A8 F8 f9 F9 rb9 H8
  refine Ak (fun σ H'=>False) ?_ (fun _ _ z=>z.elim) (by walk_at "sm")
  refine ⟨20,rfl,by decide,by decide,?_⟩
  refine B4 (fun i σ H'=>(∃ z6 z10,σ=[some (.ref a),some (.ref t),z2,z3,some (.ref pb),some (.ref x),z6,z7,some (.int (1+y3)),some (.ref p),z10])/\∃ S,AkAt K T.C_Asking T.C_Reckoner (clL ts) ((clR ts m).map AU) H' x r d S/\S.testBit k=true/\BF T.p_z12 H'/\H' p=some (.lst xs)/\Reps K H' (AQ ts) xs/\need (clL ts) ((clR ts m).map AU) S+i<=16) ⟨⟨z6,z10,rfl⟩,_,A9,hk9,L9,g9,R9,by lia⟩ ?_ ?_
  rotate_left
  ·rintro σ H10 ⟨_,S,_,_,_,_,_,hM⟩
   have:(20:Int).toNat=20:=by decide
   lia
  clear A9 L9 g9 R9 n16 hk9
  rintro i σ H10 hi ⟨⟨z6,z10,rfl⟩,S,A10,hk,L10,g10,R10,hM⟩
  obtain ⟨dp,hp⟩:=A10.ob
  dsimp only [AR]
  refine ⟨x,dp,_,rfl,hp,na1 _ _,clL ts,_,r,d,S,A10,L10,fun ho H11 s11=>?_,fun ho j H11 hj A11 f11 L11=>?_⟩
  ·refine ⟨x,dp,_,rfl,s11 _ _ hp,na4 _ _,clL ts,_,r,d,S,A10.same s11,fun _ k' H12 hk' s12=>?_,fun no=>absurd ho no⟩
   have S12:=s11.trans s12
   rw [ho k' k hk' hk,Se hkl]
   obtain ⟨b',hb',rb⟩:=DV (Reps.same S12 _ _ R10) hxk
   refine ⟨_,.ref pb,.inl (.of (S12 _ _ g10)),BI rfl hxk,_,_,rb,rb,?_,?_⟩
   ·unfold Ap;rw [Ed];lia
   ·rw [Fv]
    exact q H12
  ·have O10:=CQ A10 L10
   have fx11:FrX [x,d,T.p_z12] H10 H11:=MS f11
   have g11:=fx11.lst O10 g10
   have R11:=Reps.mv (fun _ _ e=>fx11.sqT O10 e) _ _ (Bz ts) R10
   obtain ⟨hl1,_⟩:=J4 (k:=k) A10.lt ho (A10.can _ A10.lt) hj
   have hjl:j < ((clR ts m).map AU).length:=List.mem_range.mp (List.mem_filter.mp hj.mem).1
   have hjm:j < 2 ^ m:=by unfold clR at hjl;rw [List.length_map,List.length_map,List.length_range] at hjl;exact hjl
   obtain ⟨_,eb⟩:=UO hjm hb
   obtain ⟨b',hb',rb⟩:=DV R11 hxk
   rw [hb] at hb'
   cases hb'
   obtain ⟨pb',ep,gb⟩:=Fe rb
   cases ep
   obtain ⟨dp1,hp1⟩:=A11.ob
   have hbit:=HV (y:=((clR ts m).map AU).getD j 0) hk
   have hat:atI (b.map V.bl) ((j:Nat):Int)=some (.bl ((((clR ts m).map AU).getD j 0).testBit k)):=by
    rw [eb]
    exact Hu (by lia)
   refine ⟨x,dp1,_,rfl,hp1,na2 _ _,_,_,.inr gb,hat,clL ts,_,r,d,S,j,A11,rfl,hjl,Hf hbit,fun H12 A12 f12=>?_⟩
   have O11:=CQ A11 L11
   have fx12:FrX [x,d,T.p_z12] H11 H12:=HR f12
   exact ⟨⟨_,_,rfl⟩,_,A12,hbit,G4 A11 L11 f12,fx12.lst O11 g11,Reps.mv (fun _ _ e=>fx12.sqT O11 e) _ _ (Bz ts) R11,by
    have h3:need (clL ts) ((clR ts m).map AU) (lfS S (((clR ts m).map AU).getD j 0) k) < need (clL ts) ((clR ts m).map AU) S:=hl1
    show need (clL ts) ((clR ts m).map AU) (lfS S (((clR ts m).map AU).getD j 0) k)+(i+1)<=16
    lia⟩
end
theorem all_mk {l:W.OpenLaw} {w:World} {K:W.Frag} {h:Heap} {mg:Str->Option Value} {fa:Addr} (X:K.In h) (G:h.Ns mainGlobals mg) (hfa:mg "law" = some (.ref fa))
 {C_Asking:Addr}
 {C_Reckoner:Addr}
 {f0 f1 f2 f3 f4 f5 f6 f7 f8 f9 f10 f11 f12 f13 f14 f15 f16 f18 f19 f20 f21 f22 f23 f24 f25 f26 f27 f28 f29 f30 f31 f32 f33 f34 f35 f36 f37 f38 f39 f40 f41 f42 f43:Addr} {oc0 kV0 dc0 pm0 cd0 ct0 oc1 kV1 dc1 pm1 cd1 ct1 oc2 kV2 dc2 pm2 cd2 ct2 oc3 kV3 dc3 pm3 cd3 ct3 oc4 kV4 dc4 pm4 cd4 ct4 oc5 kV5 dc5 pm5 cd5 ct5 oc6 kV6 dc6 pm6 cd6 ct6 oc7 kV7 dc7 pm7 cd7 ct7 oc8 kV8 dc8 pm8 cd8 ct8 oc9 kV9 dc9 pm9 cd9 ct9 oc10 kV10 dc10 pm10 cd10 ct10 oc11 kV11 dc11 pm11 cd11 ct11 oc12 kV12 dc12 pm12 cd12 ct12 oc13 kV13 dc13 pm13 cd13 ct13 oc14 kV14 dc14 pm14 cd14 ct14 oc15 kV15 dc15 pm15 cd15 ct15 oc16 kV16 dc16 pm16 cd16 ct16 oc18 kV18 dc18 pm18 cd18 ct18 oc19 kV19 dc19 pm19 cd19 ct19 oc20 kV20 dc20 pm20 cd20 ct20 oc21 kV21 dc21 pm21 cd21 ct21 oc22 kV22 dc22 pm22 cd22 ct22 oc23 kV23 dc23 pm23 cd23 ct23 oc24 kV24 dc24 pm24 cd24 ct24 oc25 kV25 dc25 pm25 cd25 ct25 oc26 kV26 dc26 pm26 cd26 ct26 oc27 kV27 dc27 pm27 cd27 ct27 oc28 kV28 dc28 pm28 cd28 ct28 oc29 kV29 dc29 pm29 cd29 ct29 oc30 kV30 dc30 pm30 cd30 ct30 oc31 kV31 dc31 pm31 cd31 ct31 oc32 kV32 dc32 pm32 cd32 ct32 oc33 kV33 dc33 pm33 cd33 ct33 oc34 kV34 dc34 pm34 cd34 ct34 oc35 kV35 dc35 pm35 cd35 ct35 oc36 kV36 dc36 pm36 cd36 ct36 oc37 kV37 dc37 pm37 cd37 ct37 oc38 kV38 dc38 pm38 cd38 ct38 oc39 kV39 dc39 pm39 cd39 ct39 oc40 kV40 dc40 pm40 cd40 ct40 oc41 kV41 dc41 pm41 cd41 ct41 oc42 kV42 dc42 pm42 cd42 ct42 oc43 kV43 dc43 pm43 cd43 ct43:Value} {od0 an0 od1 an1 od2 an2 od3 an3 od4 an4 od5 an5 od6 an6 od7 an7 od8 an8 od9 an9 od10 an10 od11 an11 od12 an12 od13 an13 od14 an14 od15 an15 od16 an16 od18 an18 od19 an19 od20 an20 od21 an21 od22 an22 od23 an23 od24 an24 od25 an25 od26 an26 od27 an27 od28 an28 od29 an29 od30 an30 od31 an31 od32 an32 od33 an33 od34 an34 od35 an35 od36 an36 od37 an37 od38 an38 od39 an39 od40 an40 od41 an41 od42 an42 od43 an43:Option Addr} {sl0 sl1 sl2 sl3 sl4 sl5 sl6 sl7 sl8 sl9 sl10 sl11 sl12 sl13 sl14 sl15 sl16 sl18 sl19 sl20 sl21 sl22 sl23 sl24 sl25 sl26 sl27 sl28 sl29 sl30 sl31 sl32 sl33 sl34 sl35 sl36 sl37 sl38 sl39 sl40 sl41 sl42 sl43:Array (Option Value)}
 {f17:Addr} {oc17 kV17 dc17 pm17 ct17:Value} {od17 an17:Option Addr} {sl17:Array (Option Value)} {g17 p17:Addr} {cvs17:Array Value} {cod17:Option Addr} {csl17:Array (Option Value)}
 (aC_Asking:W.nsIn K mainGlobals "Asking" = some (some (.ref C_Asking)))
 (pg_Asking:W.plainGet K C_Asking Str.empty=true)
 (hd_Asking:W.hasDictIn K C_Asking=true)
 (po_Asking:W.plainOver K C_Asking=true)
 (sa_Asking:W.findIn K (.ref C_Asking) "__setattr__" = some (some (.builtin "object.__setattr__")))
 (mk_Asking:W.makesIn K C_Asking=true)
 (kc_Asking:W.keepIn K (.ref C_Asking)=true)
 (na_reckoner_Asking:W.findIn K (.ref C_Asking) "reckoner" = some none)
 (na_fitting_Asking:W.findIn K (.ref C_Asking) "fitting" = some none)
 (aC_Reckoner:W.nsIn K mainGlobals "Reckoner" = some (some (.ref C_Reckoner)))
 (pg_Reckoner:W.plainGet K C_Reckoner Str.empty=true)
 (hd_Reckoner:W.hasDictIn K C_Reckoner=true)
 (po_Reckoner:W.plainOver K C_Reckoner=true)
 (sa_Reckoner:W.findIn K (.ref C_Reckoner) "__setattr__" = some (some (.builtin "object.__setattr__")))
 (mk_Reckoner:W.makesIn K C_Reckoner=true)
 (kc_Reckoner:W.keepIn K (.ref C_Reckoner)=true)
 (na_labels_Reckoner:W.findIn K (.ref C_Reckoner) "labels" = some none)
 (na_yeses_Reckoner:W.findIn K (.ref C_Reckoner) "yeses" = some none)
 (na_alike_Reckoner:W.findIn K (.ref C_Reckoner) "alike" = some none)
 (na_known_Reckoner:W.findIn K (.ref C_Reckoner) "known" = some none)
 (a0:W.nsIn K mainGlobals "two_to" = some (some (.ref f0)))
 (l0:K.lookup f0=some ⟨oc0,od0,.func (W.fnOf "two_to" "two_to" (AW D4) (AS D4) (AH D4) .none kV0 dc0 pm0 an0 cd0 ct0),sl0⟩)
 (c0:W.codeIn K cd0 "two_to" = true)
 (k0:W.keepIn K (.ref f0)=true)
 (a1:W.nsIn K mainGlobals "power_of" = some (some (.ref f1)))
 (l1:K.lookup f1=some ⟨oc1,od1,.func (W.fnOf "power_of" "power_of" (AW D3) (AS D3) (AH D3) .none kV1 dc1 pm1 an1 cd1 ct1),sl1⟩)
 (c1:W.codeIn K cd1 "power_of" = true)
 (k1:W.keepIn K (.ref f1)=true)
 (a2:W.nsIn K mainGlobals "is_on" = some (some (.ref f2)))
 (l2:K.lookup f2=some ⟨oc2,od2,.func (W.fnOf "is_on" "is_on" (AW D2) (AS D2) (AH D2) .none kV2 dc2 pm2 an2 cd2 ct2),sl2⟩)
 (c2:W.codeIn K cd2 "is_on" = true)
 (k2:W.keepIn K (.ref f2)=true)
 (a3:W.nsIn K mainGlobals "within" = some (some (.ref f3)))
 (l3:K.lookup f3=some ⟨oc3,od3,.func (W.fnOf "within" "within" (AW EF) (AS EF) (AH EF) .none kV3 dc3 pm3 an3 cd3 ct3),sl3⟩)
 (c3:W.codeIn K cd3 "within" = true)
 (k3:W.keepIn K (.ref f3)=true)
 (a4:W.nsIn K mainGlobals "set_holding" = some (some (.ref f4)))
 (l4:K.lookup f4=some ⟨oc4,od4,.func (W.fnOf "set_holding" "set_holding" (AW Dy) (AS Dy) (AH Dy) .none kV4 dc4 pm4 an4 cd4 ct4),sl4⟩)
 (c4:W.codeIn K cd4 "set_holding" = true)
 (k4:W.keepIn K (.ref f4)=true)
 (a5:W.nsIn K mainGlobals "members_of" = some (some (.ref f5)))
 (l5:K.lookup f5=some ⟨oc5,od5,.func (W.fnOf "members_of" "members_of" (AW C8) (AS C8) (AH C8) .none kV5 dc5 pm5 an5 cd5 ct5),sl5⟩)
 (c5:W.codeIn K cd5 "members_of" = true)
 (k5:W.keepIn K (.ref f5)=true)
 (a6:W.findIn K (.ref C_Reckoner) "__init__" = some (some (.ref f6)))
 (i6:W.isFn K (.ref f6)=true)
 (l6:K.lookup f6=some ⟨oc6,od6,.func (W.fnOf "__init__" "Reckoner.__init__" (AW Dh) (AS Dh) (AH Dh) .none kV6 dc6 pm6 an6 cd6 ct6),sl6⟩)
 (c6:W.codeIn K cd6 "Reckoner.__init__" = true)
 (k6:W.keepIn K (.ref f6)=true)
 (a7:W.findIn K (.ref C_Reckoner) "everything" = some (some (.ref f7)))
 (i7:W.isFn K (.ref f7)=true)
 (l7:K.lookup f7=some ⟨oc7,od7,.func (W.fnOf "everything" "Reckoner.everything" (AW DM) (AS DM) (AH DM) .none kV7 dc7 pm7 an7 cd7 ct7),sl7⟩)
 (c7:W.codeIn K cd7 "Reckoner.everything" = true)
 (k7:W.keepIn K (.ref f7)=true)
 (a8:W.findIn K (.ref C_Reckoner) "has_one_label" = some (some (.ref f8)))
 (i8:W.isFn K (.ref f8)=true)
 (l8:K.lookup f8=some ⟨oc8,od8,.func (W.fnOf "has_one_label" "Reckoner.has_one_label" (AW DC) (AS DC) (AH DC) .none kV8 dc8 pm8 an8 cd8 ct8),sl8⟩)
 (c8:W.codeIn K cd8 "Reckoner.has_one_label" = true)
 (k8:W.keepIn K (.ref f8)=true)
 (a9:W.findIn K (.ref C_Reckoner) "label_of" = some (some (.ref f9)))
 (i9:W.isFn K (.ref f9)=true)
 (l9:K.lookup f9=some ⟨oc9,od9,.func (W.fnOf "label_of" "Reckoner.label_of" (AW DE) (AS DE) (AH DE) .none kV9 dc9 pm9 an9 cd9 ct9),sl9⟩)
 (c9:W.codeIn K cd9 "Reckoner.label_of" = true)
 (k9:W.keepIn K (.ref f9)=true)
 (a10:W.findIn K (.ref C_Reckoner) "left_of" = some (some (.ref f10)))
 (i10:W.isFn K (.ref f10)=true)
 (l10:K.lookup f10=some ⟨oc10,od10,.func (W.fnOf "left_of" "Reckoner.left_of" (AW Do) (AS Do) (AH Do) .none kV10 dc10 pm10 an10 cd10 ct10),sl10⟩)
 (c10:W.codeIn K cd10 "Reckoner.left_of" = true)
 (k10:W.keepIn K (.ref f10)=true)
 (a11:W.findIn K (.ref C_Reckoner) "fewest_among" = some (some (.ref f11)))
 (i11:W.isFn K (.ref f11)=true)
 (l11:K.lookup f11=some ⟨oc11,od11,.func (W.fnOf "fewest_among" "Reckoner.fewest_among" (AW DY) (AS DY) (AH DY) .none kV11 dc11 pm11 an11 cd11 ct11),sl11⟩)
 (c11:W.codeIn K cd11 "Reckoner.fewest_among" = true)
 (k11:W.keepIn K (.ref f11)=true)
 (a12:W.findIn K (.ref C_Reckoner) "fewest_reckoned" = some (some (.ref f12)))
 (i12:W.isFn K (.ref f12)=true)
 (l12:K.lookup f12=some ⟨oc12,od12,.func (W.fnOf "fewest_reckoned" "Reckoner.fewest_reckoned" (AW Dk) (AS Dk) (AH Dk) .none kV12 dc12 pm12 an12 cd12 ct12),sl12⟩)
 (c12:W.codeIn K cd12 "Reckoner.fewest_reckoned" = true)
 (k12:W.keepIn K (.ref f12)=true)
 (a13:W.findIn K (.ref C_Reckoner) "parting" = some (some (.ref f13)))
 (i13:W.isFn K (.ref f13)=true)
 (l13:K.lookup f13=some ⟨oc13,od13,.func (W.fnOf "parting" "Reckoner.parting" (AW DU) (AS DU) (AH DU) .none kV13 dc13 pm13 an13 cd13 ct13),sl13⟩)
 (c13:W.codeIn K cd13 "Reckoner.parting" = true)
 (k13:W.keepIn K (.ref f13)=true)
 (a14:W.findIn K (.ref C_Reckoner) "worst_behind" = some (some (.ref f14)))
 (i14:W.isFn K (.ref f14)=true)
 (l14:K.lookup f14=some ⟨oc14,od14,.func (W.fnOf "worst_behind" "Reckoner.worst_behind" (AW Dp) (AS Dp) (AH Dp) .none kV14 dc14 pm14 an14 cd14 ct14),sl14⟩)
 (c14:W.codeIn K cd14 "Reckoner.worst_behind" = true)
 (k14:W.keepIn K (.ref f14)=true)
 (a15:W.findIn K (.ref C_Reckoner) "harder_left" = some (some (.ref f15)))
 (i15:W.isFn K (.ref f15)=true)
 (l15:K.lookup f15=some ⟨oc15,od15,.func (W.fnOf "harder_left" "Reckoner.harder_left" (AW EH) (AS EH) (AH EH) .none kV15 dc15 pm15 an15 cd15 ct15),sl15⟩)
 (c15:W.codeIn K cd15 "Reckoner.harder_left" = true)
 (k15:W.keepIn K (.ref f15)=true)
 (a16:W.findIn K (.ref C_Reckoner) "harder_lefts" = some (some (.ref f16)))
 (i16:W.isFn K (.ref f16)=true)
 (l16:K.lookup f16=some ⟨oc16,od16,.func (W.fnOf "harder_lefts" "Reckoner.harder_lefts" (AW DH) (AS DH) (AH DH) .none kV16 dc16 pm16 an16 cd16 ct16),sl16⟩)
 (c16:W.codeIn K cd16 "Reckoner.harder_lefts" = true)
 (k16:W.keepIn K (.ref f16)=true)
 (a17:W.findIn K (.ref C_Reckoner) "first_question" = some (some (.ref f17)))
 (i17:W.isFn K (.ref f17)=true)
 (l17:K.lookup f17=some ⟨oc17,od17,.func (W.fnOf "first_question" "Reckoner.first_question" (AW CF) (AS CF) (AH CF) .none kV17 dc17 pm17 an17 (.ref g17) ct17),sl17⟩)
 (c17:W.codeIn K (.ref g17) "Reckoner.first_question" = true)
 (k17:W.keepIn K (.ref f17)=true)
 (lc17:K.lookup g17=some ⟨.type "code",cod17,.fields cvs17,csl17⟩)
 (pv17:cvs17[11]? = some (.ref p17))
 (gh17:W.codeHdIn K g17 p17=true)
 (gt17:h.get? p17=some (W.tabObj #[]))
 (a18:W.nsIn K mainGlobals "members_where" = some (some (.ref f18)))
 (l18:K.lookup f18=some ⟨oc18,od18,.func (W.fnOf "members_where" "members_where" (AW DW) (AS DW) (AH DW) .none kV18 dc18 pm18 an18 cd18 ct18),sl18⟩)
 (c18:W.codeIn K cd18 "members_where" = true)
 (k18:W.keepIn K (.ref f18)=true)
 (a19:W.nsIn K mainGlobals "class_game" = some (some (.ref f19)))
 (l19:K.lookup f19=some ⟨oc19,od19,.func (W.fnOf "class_game" "class_game" (AW DB) (AS DB) (AH DB) .none kV19 dc19 pm19 an19 cd19 ct19),sl19⟩)
 (c19:W.codeIn K cd19 "class_game" = true)
 (k19:W.keepIn K (.ref f19)=true)
 (a20:W.nsIn K mainGlobals "refuse_without_end" = some (some (.ref f20)))
 (l20:K.lookup f20=some ⟨oc20,od20,.func (W.fnOf "refuse_without_end" "refuse_without_end" (AW Da) (AS Da) (AH Da) .none kV20 dc20 pm20 an20 cd20 ct20),sl20⟩)
 (c20:W.codeIn K cd20 "refuse_without_end" = true)
 (k20:W.keepIn K (.ref f20)=true)
 (a21:W.nsIn K mainGlobals "first_unparted" = some (some (.ref f21)))
 (l21:K.lookup f21=some ⟨oc21,od21,.func (W.fnOf "first_unparted" "first_unparted" (AW DF) (AS DF) (AH DF) .none kV21 dc21 pm21 an21 cd21 ct21),sl21⟩)
 (c21:W.codeIn K cd21 "first_unparted" = true)
 (k21:W.keepIn K (.ref f21)=true)
 (a22:W.findIn K (.ref C_Asking) "__init__" = some (some (.ref f22)))
 (i22:W.isFn K (.ref f22)=true)
 (l22:K.lookup f22=some ⟨oc22,od22,.func (W.fnOf "__init__" "Asking.__init__" (AW Dc) (AS Dc) (AH Dc) .none kV22 dc22 pm22 an22 cd22 ct22),sl22⟩)
 (c22:W.codeIn K cd22 "Asking.__init__" = true)
 (k22:W.keepIn K (.ref f22)=true)
 (a23:W.findIn K (.ref C_Asking) "ask" = some (some (.ref f23)))
 (i23:W.isFn K (.ref f23)=true)
 (l23:K.lookup f23=some ⟨oc23,od23,.func (W.fnOf "ask" "Asking.ask" (AW Dl) (AS Dl) (AH Dl) .none kV23 dc23 pm23 an23 cd23 ct23),sl23⟩)
 (c23:W.codeIn K cd23 "Asking.ask" = true)
 (k23:W.keepIn K (.ref f23)=true)
 (a24:W.findIn K (.ref C_Asking) "say" = some (some (.ref f24)))
 (i24:W.isFn K (.ref f24)=true)
 (l24:K.lookup f24=some ⟨oc24,od24,.func (W.fnOf "say" "Asking.say" (AW De) (AS De) (AH De) .none kV24 dc24 pm24 an24 cd24 ct24),sl24⟩)
 (c24:W.codeIn K cd24 "Asking.say" = true)
 (k24:W.keepIn K (.ref f24)=true)
 (a25:W.findIn K (.ref C_Asking) "left" = some (some (.ref f25)))
 (i25:W.isFn K (.ref f25)=true)
 (l25:K.lookup f25=some ⟨oc25,od25,.func (W.fnOf "left" "Asking.left" (AW EE) (AS EE) (AH EE) .none kV25 dc25 pm25 an25 cd25 ct25),sl25⟩)
 (c25:W.codeIn K cd25 "Asking.left" = true)
 (k25:W.keepIn K (.ref f25)=true)
 (a26:W.findIn K (.ref C_Asking) "label" = some (some (.ref f26)))
 (i26:W.isFn K (.ref f26)=true)
 (l26:K.lookup f26=some ⟨oc26,od26,.func (W.fnOf "label" "Asking.label" (AW DJ) (AS DJ) (AH DJ) .none kV26 dc26 pm26 an26 cd26 ct26),sl26⟩)
 (c26:W.codeIn K cd26 "Asking.label" = true)
 (k26:W.keepIn K (.ref f26)=true)
 (a27:W.findIn K (.ref C_Asking) "most" = some (some (.ref f27)))
 (i27:W.isFn K (.ref f27)=true)
 (l27:K.lookup f27=some ⟨oc27,od27,.func (W.fnOf "most" "Asking.most" (AW D5) (AS D5) (AH D5) .none kV27 dc27 pm27 an27 cd27 ct27),sl27⟩)
 (c27:W.codeIn K cd27 "Asking.most" = true)
 (k27:W.keepIn K (.ref f27)=true)
 (a28:W.nsIn K mainGlobals "fewest" = some (some (.ref f28)))
 (l28:K.lookup f28=some ⟨oc28,od28,.func (W.fnOf "fewest" "fewest" (AW DR) (AS DR) (AH DR) .none kV28 dc28 pm28 an28 cd28 ct28),sl28⟩)
 (c28:W.codeIn K cd28 "fewest" = true)
 (k28:W.keepIn K (.ref f28)=true)
 (a29:W.nsIn K mainGlobals "best_tree" = some (some (.ref f29)))
 (l29:K.lookup f29=some ⟨oc29,od29,.func (W.fnOf "best_tree" "best_tree" (AW DX) (AS DX) (AH DX) .none kV29 dc29 pm29 an29 cd29 ct29),sl29⟩)
 (c29:W.codeIn K cd29 "best_tree" = true)
 (k29:W.keepIn K (.ref f29)=true)
 (a30:W.nsIn K mainGlobals "hard_paper" = some (some (.ref f30)))
 (l30:K.lookup f30=some ⟨oc30,od30,.func (W.fnOf "hard_paper" "hard_paper" (AW D7) (AS D7) (AH D7) .none kV30 dc30 pm30 an30 cd30 ct30),sl30⟩)
 (c30:W.codeIn K cd30 "hard_paper" = true)
 (k30:W.keepIn K (.ref f30)=true)
 (a31:W.nsIn K mainGlobals "_law_feed" = some (some (.ref f31)))
 (l31:K.lookup f31=some ⟨oc31,od31,.func (W.fnOf "_law_feed" "_law_feed" (AW Dd) (AS Dd) (AH Dd) .none kV31 dc31 pm31 an31 cd31 ct31),sl31⟩)
 (c31:W.codeIn K cd31 "_law_feed" = true)
 (k31:W.keepIn K (.ref f31)=true)
 (a32:W.nsIn K mainGlobals "_law_draw" = some (some (.ref f32)))
 (l32:K.lookup f32=some ⟨oc32,od32,.func (W.fnOf "_law_draw" "_law_draw" (AW EG) (AS EG) (AH EG) .none kV32 dc32 pm32 an32 cd32 ct32),sl32⟩)
 (c32:W.codeIn K cd32 "_law_draw" = true)
 (k32:W.keepIn K (.ref f32)=true)
 (a33:W.nsIn K mainGlobals "_law_table" = some (some (.ref f33)))
 (l33:K.lookup f33=some ⟨oc33,od33,.func (W.fnOf "_law_table" "_law_table" (AW Dr) (AS Dr) (AH Dr) .none kV33 dc33 pm33 an33 cd33 ct33),sl33⟩)
 (c33:W.codeIn K cd33 "_law_table" = true)
 (k33:W.keepIn K (.ref f33)=true)
 (a34:W.nsIn K mainGlobals "_law_table_game" = some (some (.ref f34)))
 (l34:K.lookup f34=some ⟨oc34,od34,.func (W.fnOf "_law_table_game" "_law_table_game" (AW EI) (AS EI) (AH EI) .none kV34 dc34 pm34 an34 cd34 ct34),sl34⟩)
 (c34:W.codeIn K cd34 "_law_table_game" = true)
 (k34:W.keepIn K (.ref f34)=true)
 (a35:W.nsIn K mainGlobals "_law_class" = some (some (.ref f35)))
 (l35:K.lookup f35=some ⟨oc35,od35,.func (W.fnOf "_law_class" "_law_class" (AW Dx) (AS Dx) (AH Dx) .none kV35 dc35 pm35 an35 cd35 ct35),sl35⟩)
 (c35:W.codeIn K cd35 "_law_class" = true)
 (k35:W.keepIn K (.ref f35)=true)
 (a36:W.nsIn K mainGlobals "_law_class_game" = some (some (.ref f36)))
 (l36:K.lookup f36=some ⟨oc36,od36,.func (W.fnOf "_law_class_game" "_law_class_game" (AW Dz) (AS Dz) (AH Dz) .none kV36 dc36 pm36 an36 cd36 ct36),sl36⟩)
 (c36:W.codeIn K cd36 "_law_class_game" = true)
 (k36:W.keepIn K (.ref f36)=true)
 (a37:W.nsIn K mainGlobals "_law_picks" = some (some (.ref f37)))
 (l37:K.lookup f37=some ⟨oc37,od37,.func (W.fnOf "_law_picks" "_law_picks" (AW C9) (AS C9) (AH C9) .none kV37 dc37 pm37 an37 cd37 ct37),sl37⟩)
 (c37:W.codeIn K cd37 "_law_picks" = true)
 (k37:W.keepIn K (.ref f37)=true)
 (a38:W.nsIn K mainGlobals "_law_any_game" = some (some (.ref f38)))
 (l38:K.lookup f38=some ⟨oc38,od38,.func (W.fnOf "_law_any_game" "_law_any_game" (AW Db) (AS Db) (AH Db) .none kV38 dc38 pm38 an38 cd38 ct38),sl38⟩)
 (c38:W.codeIn K cd38 "_law_any_game" = true)
 (k38:W.keepIn K (.ref f38)=true)
 (a39:W.nsIn K mainGlobals "_law_game" = some (some (.ref f39)))
 (l39:K.lookup f39=some ⟨oc39,od39,.func (W.fnOf "_law_game" "_law_game" (AW DD) (AS DD) (AH DD) .none kV39 dc39 pm39 an39 cd39 ct39),sl39⟩)
 (c39:W.codeIn K cd39 "_law_game" = true)
 (k39:W.keepIn K (.ref f39)=true)
 (a40:W.nsIn K mainGlobals "_law_pair" = some (some (.ref f40)))
 (l40:K.lookup f40=some ⟨oc40,od40,.func (W.fnOf "_law_pair" "_law_pair" (AW Dq) (AS Dq) (AH Dq) .none kV40 dc40 pm40 an40 cd40 ct40),sl40⟩)
 (c40:W.codeIn K cd40 "_law_pair" = true)
 (k40:W.keepIn K (.ref f40)=true)
 (a41:W.nsIn K mainGlobals "_law_ending" = some (some (.ref f41)))
 (l41:K.lookup f41=some ⟨oc41,od41,.func (W.fnOf "_law_ending" "_law_ending" (AW DA) (AS DA) (AH DA) .none kV41 dc41 pm41 an41 cd41 ct41),sl41⟩)
 (c41:W.codeIn K cd41 "_law_ending" = true)
 (k41:W.keepIn K (.ref f41)=true)
 (a42:W.nsIn K mainGlobals "_law_finds" = some (some (.ref f42)))
 (l42:K.lookup f42=some ⟨oc42,od42,.func (W.fnOf "_law_finds" "_law_finds" (AW Ds) (AS Ds) (AH Ds) .none kV42 dc42 pm42 an42 cd42 ct42),sl42⟩)
 (c42:W.codeIn K cd42 "_law_finds" = true)
 (k42:W.keepIn K (.ref f42)=true)
 (a43:W.nsIn K mainGlobals "law" = some (some (.ref f43)))
 (l43:K.lookup f43=some ⟨oc43,od43,.func (W.fnOf "law" "law" (AW CV) (AS CV) (AH CV) .none kV43 dc43 pm43 an43 cd43 ct43),sl43⟩)
 (c43:W.codeIn K cd43 "law" = true)
 (k43:W.keepIn K (.ref f43)=true)
 (z_any:W.nsIn K mainGlobals "any" = some none)
 (z_enumerate:W.nsIn K mainGlobals "enumerate" = some none)
 (z_int:W.nsIn K mainGlobals "int" = some none)
 (z_len:W.nsIn K mainGlobals "len" = some none)
 (z_list:W.nsIn K mainGlobals "list" = some none)
 (z_min:W.nsIn K mainGlobals "min" = some none)
 (z_range:W.nsIn K mainGlobals "range" = some none)
 (z_set:W.nsIn K mainGlobals "set" = some none)
 (z_sorted:W.nsIn K mainGlobals "sorted" = some none)
 (z_sum:W.nsIn K mainGlobals "sum" = some none)
 (z_tuple:W.nsIn K mainGlobals "tuple" = some none)
 (hnt:W.noTabs K=true) :
 ∃ (fd:FuncData) (ts:List (Addr × Addr)),W.TabsAt ts h/\W.noTabs K=true/\(∀ (s:Shared) (v:Value),BindsTo s fd ⟨[v],[]⟩ [("_law_script",v)])/\∀ base:Heap,K.In base->base.Ns mainGlobals mg->BMn mg base->FnOk l.prog w K mg base CX0 97 fa fd ["_law_script"] (FV K (ts.map (·.2))):=by
 have e:=hfa.symm.trans (W.mg_of X G a43)
 cases e
 have F0:=Aa (st:=D4) l0 c0 k0
 have b0:=F0.binds (ps:=["n"]) fun _ _ _ _ _ _=>L2.on1 (fun _=>rfl)
 have F1:=Aa (st:=D3) l1 c1 k1
 have b1:=F1.binds (ps:=["base","times"]) fun _ _ _ _ _ _=>L2.on2 (fun _ _=>rfl)
 have F2:=Aa (st:=D2) l2 c2 k2
 have b2:=F2.binds (ps:=["place","switch"]) fun _ _ _ _ _ _=>L2.on2 (fun _ _=>rfl)
 have F3:=Aa (st:=EF) l3 c3 k3
 have b3:=F3.binds (ps:=["subset","other"]) fun _ _ _ _ _ _=>L2.on2 (fun _ _=>rfl)
 have F4:=Aa (st:=Dy) l4 c4 k4
 have b4:=F4.binds (ps:=["members"]) fun _ _ _ _ _ _=>L2.on1 (fun _=>rfl)
 have F5:=Aa (st:=C8) l5 c5 k5
 have b5:=F5.binds (ps:=["subset"]) fun _ _ _ _ _ _=>L2.on1 (fun _=>rfl)
 have F6:=Aa (st:=Dh) l6 c6 k6
 have b6:=F6.binds (ps:=["self","game"]) fun _ _ _ _ _ _=>L2.on2 (fun _ _=>rfl)
 have F7:=Aa (st:=DM) l7 c7 k7
 have b7:=F7.binds (ps:=["self"]) fun _ _ _ _ _ _=>L2.on1 (fun _=>rfl)
 have F8:=Aa (st:=DC) l8 c8 k8
 have b8:=F8.binds (ps:=["self","things"]) fun _ _ _ _ _ _=>L2.on2 (fun _ _=>rfl)
 have F9:=Aa (st:=DE) l9 c9 k9
 have b9:=F9.binds (ps:=["self","things"]) fun _ _ _ _ _ _=>L2.on2 (fun _ _=>rfl)
 have F10:=Aa (st:=Do) l10 c10 k10
 have b10:=F10.binds (ps:=["self","things","question","answer"]) fun _ _ _ _ _ _=>L2.on4 (fun _ _ _ _=>rfl)
 have F11:=Aa (st:=DY) l11 c11 k11
 have b11:=F11.binds (ps:=["self","things"]) fun _ _ _ _ _ _=>L2.on2 (fun _ _=>rfl)
 have F12:=Aa (st:=Dk) l12 c12 k12
 have b12:=F12.binds (ps:=["self","things"]) fun _ _ _ _ _ _=>L2.on2 (fun _ _=>rfl)
 have F13:=Aa (st:=DU) l13 c13 k13
 have b13:=F13.binds (ps:=["self","things"]) fun _ _ _ _ _ _=>L2.on2 (fun _ _=>rfl)
 have F14:=Aa (st:=Dp) l14 c14 k14
 have b14:=F14.binds (ps:=["self","things","question"]) fun _ _ _ _ _ _=>L2.on3 (fun _ _ _=>rfl)
 have F15:=Aa (st:=EH) l15 c15 k15
 have b15:=F15.binds (ps:=["self","things","question"]) fun _ _ _ _ _ _=>L2.on3 (fun _ _ _=>rfl)
 have F16:=Aa (st:=DH) l16 c16 k16
 have b16:=F16.binds (ps:=["self","things"]) fun _ _ _ _ _ _=>L2.on2 (fun _ _=>rfl)
 have F17:=Aa (st:=CF) l17 c17 k17
 have b17:=F17.binds (ps:=["self","things"]) fun _ _ _ _ _ _=>L2.on2 (fun _ _=>rfl)
 have F18:=Aa (st:=DW) l18 c18 k18
 have b18:=F18.binds (ps:=["wanted","values"]) fun _ _ _ _ _ _=>L2.on2 (fun _ _=>rfl)
 have F19:=Aa (st:=DB) l19 c19 k19
 have b19:=F19.binds (ps:=["tables"]) fun _ _ _ _ _ _=>L2.on1 (fun _=>rfl)
 have F20:=Aa (st:=Da) l20 c20 k20
 have b20:=F20.binds (ps:=["game"]) fun _ _ _ _ _ _=>L2.on1 (fun _=>rfl)
 have F21:=Aa (st:=DF) l21 c21 k21
 have b21:=F21.binds (ps:=["game"]) fun _ _ _ _ _ _=>L2.on1 (fun _=>rfl)
 have F22:=Aa (st:=Dc) l22 c22 k22
 have b22:=F22.binds (ps:=["self","game"]) fun _ _ _ _ _ _=>L2.on2 (fun _ _=>rfl)
 have F23:=Aa (st:=Dl) l23 c23 k23
 have b23:=F23.binds (ps:=["self"]) fun _ _ _ _ _ _=>L2.on1 (fun _=>rfl)
 have F24:=Aa (st:=De) l24 c24 k24
 have b24:=F24.binds (ps:=["self","question","answer"]) fun _ _ _ _ _ _=>L2.on3 (fun _ _ _=>rfl)
 have F25:=Aa (st:=EE) l25 c25 k25
 have b25:=F25.binds (ps:=["self"]) fun _ _ _ _ _ _=>L2.on1 (fun _=>rfl)
 have F26:=Aa (st:=DJ) l26 c26 k26
 have b26:=F26.binds (ps:=["self"]) fun _ _ _ _ _ _=>L2.on1 (fun _=>rfl)
 have F27:=Aa (st:=D5) l27 c27 k27
 have b27:=F27.binds (ps:=["self"]) fun _ _ _ _ _ _=>L2.on1 (fun _=>rfl)
 have F28:=Aa (st:=DR) l28 c28 k28
 have b28:=F28.binds (ps:=["game"]) fun _ _ _ _ _ _=>L2.on1 (fun _=>rfl)
 have F29:=Aa (st:=DX) l29 c29 k29
 have b29:=F29.binds (ps:=["reckoner","things"]) fun _ _ _ _ _ _=>L2.on2 (fun _ _=>rfl)
 have F30:=Aa (st:=D7) l30 c30 k30
 have b30:=F30.binds (ps:=["reckoner","things"]) fun _ _ _ _ _ _=>L2.on2 (fun _ _=>rfl)
 have F31:=Aa (st:=Dd) l31 c31 k31
 have b31:=F31.binds (ps:=["_law_script"]) fun _ _ _ _ _ _=>L2.on1 (fun _=>rfl)
 have F32:=Aa (st:=EG) l32 c32 k32
 have b32:=F32.binds (ps:=["_law_feed_here","_law_many"]) fun _ _ _ _ _ _=>L2.on2 (fun _ _=>rfl)
 have F33:=Aa (st:=Dr) l33 c33 k33
 have b33:=F33.binds (ps:=["_law_feed_here","_law_n"]) fun _ _ _ _ _ _=>L2.on2 (fun _ _=>rfl)
 have F34:=Aa (st:=EI) l34 c34 k34
 have b34:=F34.binds (ps:=["_law_table_here"]) fun _ _ _ _ _ _=>L2.on1 (fun _=>rfl)
 have F35:=Aa (st:=Dx) l35 c35 k35
 have b35:=F35.binds (ps:=["_law_feed_here","_law_n","_law_many"]) fun _ _ _ _ _ _=>L2.on3 (fun _ _ _=>rfl)
 have F36:=Aa (st:=Dz) l36 c36 k36
 have b36:=F36.binds (ps:=["_law_tables"]) fun _ _ _ _ _ _=>L2.on1 (fun _=>rfl)
 have F37:=Aa (st:=C9) l37 c37 k37
 have b37:=F37.binds (ps:=["_law_feed_here"]) fun _ _ _ _ _ _=>L2.on1 (fun _=>rfl)
 have F38:=Aa (st:=Db) l38 c38 k38
 have b38:=F38.binds (ps:=["_law_feed_here"]) fun _ _ _ _ _ _=>L2.on1 (fun _=>rfl)
 have F39:=Aa (st:=DD) l39 c39 k39
 have b39:=F39.binds (ps:=["_law_feed_here"]) fun _ _ _ _ _ _=>L2.on1 (fun _=>rfl)
 have F40:=Aa (st:=Dq) l40 c40 k40
 have b40:=F40.binds (ps:=["_law_game_here"]) fun _ _ _ _ _ _=>L2.on1 (fun _=>rfl)
 have F41:=Aa (st:=DA) l41 c41 k41
 have b41:=F41.binds (ps:=["_law_game_here"]) fun _ _ _ _ _ _=>L2.on1 (fun _=>rfl)
 have F42:=Aa (st:=Ds) l42 c42 k42
 have b42:=F42.binds (ps:=["_law_asking","_law_game_here","_law_hidden"]) fun _ _ _ _ _ _=>L2.on3 (fun _ _ _=>rfl)
 have F43:=Aa (st:=CV) l43 c43 k43
 have b43:=F43.binds (ps:=["_law_script"]) fun _ _ _ _ _ _=>L2.on1 (fun _=>rfl)
 let T:Txt K mg:={ C_Asking:=C_Asking,mC_Asking:=W.mg_of X G aC_Asking,cl_Asking:=⟨pg_Asking,hd_Asking,po_Asking,sa_Asking⟩,na_Asking_reckoner:=na_reckoner_Asking,na_Asking_fitting:=na_fitting_Asking,C_Reckoner:=C_Reckoner,mC_Reckoner:=W.mg_of X G aC_Reckoner,cl_Reckoner:=⟨pg_Reckoner,hd_Reckoner,po_Reckoner,sa_Reckoner⟩,na_Reckoner_labels:=na_labels_Reckoner,na_Reckoner_yeses:=na_yeses_Reckoner,na_Reckoner_alike:=na_alike_Reckoner,na_Reckoner_known:=na_known_Reckoner,f_z50:=f0,d_z50:=_,F_z50:=F0,b_z50:=b0,m_z50:=W.mg_of X G a0,f_z49:=f1,d_z49:=_,F_z49:=F1,b_z49:=b1,m_z49:=W.mg_of X G a1,f_z53:=f2,d_z53:=_,F_z53:=F2,b_z53:=b2,m_z53:=W.mg_of X G a2,f_z52:=f3,d_z52:=_,F_z52:=F3,b_z52:=b3,m_z52:=W.mg_of X G a3,f_z36:=f4,d_z36:=_,F_z36:=F4,b_z36:=b4,m_z36:=W.mg_of X G a4,f_z38:=f5,d_z38:=_,F_z38:=F5,b_z38:=b5,m_z38:=W.mg_of X G a5,f_z23:=f6,d_z23:=_,F_z23:=F6,b_z23:=b6,me_z23:=⟨a6,i6,k6⟩,mk_Reckoner:=⟨mk_Reckoner,a6,i6,kc_Reckoner⟩,f_z18:=f7,d_z18:=_,F_z18:=F7,b_z18:=b7,me_z18:=⟨a7,i7,k7⟩,f_z13:=f8,d_z13:=_,F_z13:=F8,b_z13:=b8,me_z13:=⟨a8,i8,k8⟩,f_z19:=f9,d_z19:=_,F_z19:=F9,b_z19:=b9,me_z19:=⟨a9,i9,k9⟩,f_z21:=f10,d_z21:=_,F_z21:=F10,b_z21:=b10,me_z21:=⟨a10,i10,k10⟩,f_z15:=f11,d_z15:=_,F_z15:=F11,b_z15:=b11,me_z15:=⟨a11,i11,k11⟩,f_z11:=f12,d_z11:=_,F_z11:=F12,b_z11:=b12,me_z11:=⟨a12,i12,k12⟩,f_z22:=f13,d_z22:=_,F_z22:=F13,b_z22:=b13,me_z22:=⟨a13,i13,k13⟩,f_z14:=f14,d_z14:=_,F_z14:=F14,b_z14:=b14,me_z14:=⟨a14,i14,k14⟩,f_z17:=f15,d_z17:=_,F_z17:=F15,b_z17:=b15,me_z17:=⟨a15,i15,k15⟩,f_z16:=f16,d_z16:=_,F_z16:=F16,b_z16:=b16,me_z16:=⟨a16,i16,k16⟩,g_z12:=g17,p_z12:=p17,gc_z12:=rfl,gh_z12:=gh17,f_z12:=f17,d_z12:=_,F_z12:=F17,b_z12:=b17,me_z12:=⟨a17,i17,k17⟩,f_z29:=f18,d_z29:=_,F_z29:=F18,b_z29:=b18,m_z29:=W.mg_of X G a18,f_z41:=f19,d_z41:=_,F_z41:=F19,b_z41:=b19,m_z41:=W.mg_of X G a19,f_z20:=f20,d_z20:=_,F_z20:=F20,b_z20:=b20,m_z20:=W.mg_of X G a20,f_z27:=f21,d_z27:=_,F_z27:=F21,b_z27:=b21,m_z27:=W.mg_of X G a21,f_z31:=f22,d_z31:=_,F_z31:=F22,b_z31:=b22,me_z31:=⟨a22,i22,k22⟩,mk_Asking:=⟨mk_Asking,a22,i22,kc_Asking⟩,f_z33:=f23,d_z33:=_,F_z33:=F23,b_z33:=b23,me_z33:=⟨a23,i23,k23⟩,f_z34:=f24,d_z34:=_,F_z34:=F24,b_z34:=b24,me_z34:=⟨a24,i24,k24⟩,f_z32:=f25,d_z32:=_,F_z32:=F25,b_z32:=b25,me_z32:=⟨a25,i25,k25⟩,f_z26:=f26,d_z26:=_,F_z26:=F26,b_z26:=b26,me_z26:=⟨a26,i26,k26⟩,f_z28:=f27,d_z28:=_,F_z28:=F27,b_z28:=b27,me_z28:=⟨a27,i27,k27⟩,f_z51:=f28,d_z51:=_,F_z51:=F28,b_z51:=b28,m_z51:=W.mg_of X G a28,f_z48:=f29,d_z48:=_,F_z48:=F29,b_z48:=b29,m_z48:=W.mg_of X G a29,f_z43:=f30,d_z43:=_,F_z43:=F30,b_z43:=b30,m_z43:=W.mg_of X G a30,f_z47:=f31,d_z47:=_,F_z47:=F31,b_z47:=b31,m_z47:=W.mg_of X G a31,f_z46:=f32,d_z46:=_,F_z46:=F32,b_z46:=b32,m_z46:=W.mg_of X G a32,f_z40:=f33,d_z40:=_,F_z40:=F33,b_z40:=b33,m_z40:=W.mg_of X G a33,f_z25:=f34,d_z25:=_,F_z25:=F34,b_z25:=b34,m_z25:=W.mg_of X G a34,f_z39:=f35,d_z39:=_,F_z39:=F35,b_z39:=b35,m_z39:=W.mg_of X G a35,f_z24:=f36,d_z24:=_,F_z24:=F36,b_z24:=b36,m_z24:=W.mg_of X G a36,f_z42:=f37,d_z42:=_,F_z42:=F37,b_z42:=b37,m_z42:=W.mg_of X G a37,f_z30:=f38,d_z30:=_,F_z30:=F38,b_z30:=b38,m_z30:=W.mg_of X G a38,f_z44:=f39,d_z44:=_,F_z44:=F39,b_z44:=b39,m_z44:=W.mg_of X G a39,f_z45:=f40,d_z45:=_,F_z45:=F40,b_z45:=b40,m_z45:=W.mg_of X G a40,f_z35:=f41,d_z35:=_,F_z35:=F41,b_z35:=b41,m_z35:=W.mg_of X G a41,f_z37:=f42,d_z37:=_,F_z37:=F42,b_z37:=b42,m_z37:=W.mg_of X G a42,f_law:=fa,d_law:=_,F_law:=F43,b_law:=b43,m_law:=W.mg_of X G a43,z_any:=W.mg_none_of X G z_any,z_enumerate:=W.mg_none_of X G z_enumerate,z_int:=W.mg_none_of X G z_int,z_len:=W.mg_none_of X G z_len,z_list:=W.mg_none_of X G z_list,z_min:=W.mg_none_of X G z_min,z_range:=W.mg_none_of X G z_range,z_set:=W.mg_none_of X G z_set,z_sorted:=W.mg_none_of X G z_sorted,z_sum:=W.mg_none_of X G z_sum,z_tuple:=W.mg_none_of X G z_tuple }
 exact ⟨W.fnOf "law" "law" (AW CV) (AS CV) (AH CV) .none kV43 dc43 pm43 an43 cd43 ct43,[(g17,p17)],List.forall_mem_cons.mpr ⟨⟨W.codeHd_of_K X gh17,gt17⟩,fun _ z=>nomatch z⟩,hnt,fun s v=>.of_eq rfl,fun base _ _ B=>Py T B⟩
theorem walk {l:W.OpenLaw} {q:Program} {loose:List Str} {XP:(Str->Option Value)->Heap->Prop} {YP:World->Heap->Prop} {d:DefRec} {K:Params->W.Frag} (hn:l.most=some 63) (hdf:d.params.defaults=[])
 (hY:∀ (w:World) (h:Heap),YP w h->(K w.params).In h)
 (F:∀ (w:World) (mg:Str->Option Value) (fa:Addr) (h:Heap),YP w h->(K w.params).In h->h.Ns mainGlobals mg->mg d.name=some (.ref fa) ->
   ∃ (fd:FuncData) (ts:List (Addr × Addr)),W.TabsAt ts h/\W.noTabs (K w.params)=true/\(∀ (s:Shared) (u:Value),BindsTo s fd ⟨[u],[]⟩ [("_law_script",u)])/\∀ base:Heap,(K w.params).In base->base.Ns mainGlobals mg->BMn mg base->FnOk l.prog w (K w.params) mg base CX0 97 fa fd ["_law_script"] (FV (K w.params) (ts.map (·.2)))) :
 W.WalkO q loose XP YP l.row.toRowW d [] (fun f vs=>PySem.call f vs) :=
 L2.walk_ofT (n:=63) (k:=97) (x:="_law_script") (sp:=fun w ts=>FV (K w.params) ts) hn (by decide) hdf ⟨rfl,by decide,by decide,rfl⟩ hY F (fun _ _ a ns ts hl hO hS=>⟨a,ns,rfl,hS,hl,hO,fun _=>rfl⟩)
end Mine
namespace PySem.W.Fast
theorem tw5683070594916983838:0=0:=rfl
theorem tw5855496511997551114:0=0:=rfl
theorem tw9039776222017777447:0=0:=rfl
theorem tw17462663303089106993:0=0:=rfl
theorem tw1689228641683456750:0=0:=rfl
theorem tw3560482788098311613:0=0:=rfl
theorem tw17332832786646509391:0=0:=rfl
theorem tw13778599578571628411:0=0:=rfl
theorem tw6294774702033356928:0=0:=rfl
theorem tw1932730283181516623:0=0:=rfl
theorem tw7878366984261345661:0=0:=rfl
theorem tw13482724290280184380:0=0:=rfl
theorem tw7595787844443754073:0=0:=rfl
theorem tw13086097781695426115:0=0:=rfl
theorem tw1165275436765787167:0=0:=rfl
theorem tw9353525242963729423:0=0:=rfl
theorem tw882941270182972044:0=0:=rfl
theorem tw3504405663718924493:0=0:=rfl
theorem tw5073999159497969677:0=0:=rfl
theorem tw17717685241805841229:0=0:=rfl
theorem tw9661187396271317375:0=0:=rfl
theorem tw17065263866779137439:0=0:=rfl
theorem tw7808840122028080659:0=0:=rfl
theorem tw17758157545208135477:0=0:=rfl
theorem tw3389695619443116631:0=0:=rfl
theorem tw16812900904514347734:0=0:=rfl
theorem tw12391478231878616961:0=0:=rfl
theorem tw2373468834468047944:0=0:=rfl
theorem tw18003277302551733934:0=0:=rfl
theorem tw14051991262348882410:0=0:=rfl
theorem tw1971440467266831214:0=0:=rfl
theorem tw14167941479336719860:0=0:=rfl
theorem tw3810853744891034275:0=0:=rfl
theorem tw1670080530982134480:0=0:=rfl
theorem tw16522405162592042646:0=0:=rfl
theorem tw5086372864032080610:0=0:=rfl
theorem tw13946054832484657587:0=0:=rfl
theorem tw1107386833996572621:0=0:=rfl
theorem tw4947440838022892018:0=0:=rfl
theorem tw11704430944709338392:0=0:=rfl
theorem tw17653750608758558620:0=0:=rfl
theorem tw6408166127981511139:0=0:=rfl
theorem tw16550659936406531106:0=0:=rfl
theorem tw11085933792235478753:0=0:=rfl
theorem tw2541158365479029017:0=0:=rfl
theorem tw6465735846943285959:0=0:=rfl
theorem tw5606102811528853978:0=0:=rfl
theorem tw1178202212509181851:0=0:=rfl
theorem tw11528471127361037368:0=0:=rfl
theorem tw18091331467772991174:0=0:=rfl
theorem tw3364099552998251012:0=0:=rfl
theorem tw3849728854405702186:0=0:=rfl
theorem tw1390143318364846919:0=0:=rfl
theorem tw10696396388895076910:0=0:=rfl
theorem tw11094701727488797096:0=0:=rfl
theorem tw3779916839260378193:0=0:=rfl
theorem tw2520313444179106175:0=0:=rfl
theorem tw11077781397940800396:0=0:=rfl
theorem tw14829737710258659858:0=0:=rfl
theorem tw1212536947183959464:0=0:=rfl
theorem tw9801341461618914616:0=0:=rfl
theorem tw16905108085049990227:0=0:=rfl
theorem tw1804904518589027600:0=0:=rfl
theorem tw2573362343225776563:0=0:=rfl
theorem tw15773149805452186134:0=0:=rfl
theorem tw1842006853760918089:0=0:=rfl
theorem tw41118495491214853:0=0:=rfl
theorem tw15130944906984072750:0=0:=rfl
theorem tw15209090239165003486:0=0:=rfl
theorem tw10931947137236584241:0=0:=rfl
theorem tw16185195638175390365:0=0:=rfl
theorem tw10478951422058022701:0=0:=rfl
theorem tw12899877762349911280:0=0:=rfl
theorem tw8089848952042100990:0=0:=rfl
theorem tw7432739945891394285:0=0:=rfl
theorem tw492411820711399967:0=0:=rfl
theorem tw10139618174617218525:0=0:=rfl
theorem tw18064013219021135169:0=0:=rfl
theorem tw10258766003021837477:0=0:=rfl
theorem tw452150001001628460:0=0:=rfl
theorem tw16346016616264724382:0=0:=rfl
theorem tw13355914282741009502:0=0:=rfl
theorem tw10890496436898439068:0=0:=rfl
theorem tw1306611128235994079:0=0:=rfl
theorem tw11217991367637338501:0=0:=rfl
theorem tw6182823814499872654:0=0:=rfl
theorem tw16483713059054061019:0=0:=rfl
theorem tw14379998104569057329:0=0:=rfl
theorem tw9565816099300282457:0=0:=rfl
theorem tw12137986014350314296:0=0:=rfl
theorem tw5255157277396333944:0=0:=rfl
theorem tw265024835867358653:0=0:=rfl
theorem tw13974589075475249172:0=0:=rfl
theorem tw14190921358196858293:0=0:=rfl
theorem tw12137111103117941550:0=0:=rfl
theorem tw2897045514141267488:0=0:=rfl
theorem tw13290530978422636037:0=0:=rfl
theorem tw4416329601641407106:0=0:=rfl
theorem tw3884677241210955860:0=0:=rfl
theorem tw13700853028155599765:0=0:=rfl
theorem tw6911597924350745941:0=0:=rfl
theorem tw5574941838296835516:0=0:=rfl
theorem tw11467788625574263909:0=0:=rfl
theorem tw12215868407458765097:0=0:=rfl
theorem tw279224231318888681:0=0:=rfl
theorem tw14022172642366248645:0=0:=rfl
theorem tw2367444357220285983:0=0:=rfl
theorem tw4170024691303407733:0=0:=rfl
theorem tw17042430282195820179:0=0:=rfl
theorem tw7401179865627265332:0=0:=rfl
theorem tw1971553402678474574:0=0:=rfl
theorem tw7862279925853045862:0=0:=rfl
theorem tw17222387402935333514:0=0:=rfl
theorem tw15752482465849047878:0=0:=rfl
theorem tw2176971744947140499:0=0:=rfl
theorem tw5715750123514562589:0=0:=rfl
theorem tw9252237720318110950:0=0:=rfl
theorem tw17984581174367266042:0=0:=rfl
theorem tw4404131445897006729:0=0:=rfl
theorem tw7202351010093854143:0=0:=rfl
theorem tw5675527341693791293:0=0:=rfl
theorem tw14203104153509631294:0=0:=rfl
theorem tw12267194374398329143:0=0:=rfl
theorem tw17483907912547088052:0=0:=rfl
theorem tw15326565428616587667:0=0:=rfl
theorem tw3140281912656212379:0=0:=rfl
theorem tw7737918509851272278:0=0:=rfl
theorem tw7217882677782548527:0=0:=rfl
theorem tw15847818266754923711:0=0:=rfl
theorem tw12524811914163639188:0=0:=rfl
theorem tw1328495132920811159:0=0:=rfl
theorem tw9647345418583296606:0=0:=rfl
theorem tw16701854652060142391:0=0:=rfl
theorem tw12403960905559344364:0=0:=rfl
theorem tw18328884915739502888:0=0:=rfl
theorem tw1069511895386190372:0=0:=rfl
theorem tw14220606234122659910:0=0:=rfl
theorem tw13526143652837448199:0=0:=rfl
theorem tw16857906006957727641:0=0:=rfl
theorem tw8758299165446395177:0=0:=rfl
theorem tw18315741238720892894:0=0:=rfl
theorem tw3308663561777917657:0=0:=rfl
theorem tw5347717772005988152:0=0:=rfl
theorem tw3409533822436877110:0=0:=rfl
theorem tw6423941551284112007:0=0:=rfl
theorem tw5390449120821105332:0=0:=rfl
theorem tw3800730094481908133:0=0:=rfl
theorem tw13300028270795741023:0=0:=rfl
theorem tw8633442163355583284:0=0:=rfl
theorem tw12138045324775118063:0=0:=rfl
theorem tw9844200784339166593:0=0:=rfl
theorem tw2550803970010148374:0=0:=rfl
theorem tw116851757351304647:0=0:=rfl
theorem tw11913976372280803924:0=0:=rfl
theorem tw8460068489461522591:0=0:=rfl
theorem tw6987018922544660555:0=0:=rfl
theorem tw16416114256912567703:0=0:=rfl
theorem tw4253416492234257065:0=0:=rfl
theorem tw8900050662991815874:0=0:=rfl
theorem tw12845814688737199016:0=0:=rfl
theorem tw17368216784813298804:0=0:=rfl
theorem tw10317162641986627278:0=0:=rfl
theorem tw13568237423985762972:0=0:=rfl
theorem tw1788093131208095428:0=0:=rfl
theorem tw3637367654589663475:0=0:=rfl
theorem tw16441907429630693119:0=0:=rfl
theorem tw8465636934854791908:0=0:=rfl
theorem tw11767094752546791990:0=0:=rfl
theorem tw14540838177107345625:0=0:=rfl
theorem tw16437543645404746179:0=0:=rfl
theorem tw2305900821050919022:0=0:=rfl
theorem tw17758561978793483789:0=0:=rfl
theorem tw8037162294321608749:0=0:=rfl
theorem tw16719443581353518057:0=0:=rfl
theorem tw15149810088945286048:0=0:=rfl
theorem tw11994539562012662719:0=0:=rfl
theorem tw9007632469663322816:0=0:=rfl
theorem tw8188023660751085329:0=0:=rfl
theorem tw15040762665957582126:0=0:=rfl
theorem tw6150955732323271350:0=0:=rfl
theorem tw9717112566396311640:0=0:=rfl
theorem tw8652763287539943530:0=0:=rfl
theorem tw9532629876459081726:0=0:=rfl
theorem tw13148058874612570174:0=0:=rfl
theorem tw8746544252036364696:0=0:=rfl
end PySem.W.Fast
open PySem PySem.W PyProof.Rows
set_option maxRecDepth 100000 in
set_option maxHeartbeats 0 in
theorem PySem.Challenge.cw_flips_k49_whole_an_asking_finds_holds : PySem.Challenge.rw_flips_k49_whole_an_asking_finds.Holds := by
 w_on;o_law;k_head;(case hw=>w_witness2)
 k_fill
 refine Mine.walk (l:=PySem.Challenge.rw_flips_k49_whole_an_asking_finds) rfl rfl (fun w h Y=>PySem.W.km_in_of Y) ?F
 case F =>
  intro w mg fa h Y KX G hmg
  refine' Mine.all_mk KX G hmg ?aC_Asking ?pg_Asking ?hd_Asking ?po_Asking ?sa_Asking ?mk_Asking ?kc_Asking ?na_reckoner_Asking ?na_fitting_Asking ?aC_Reckoner ?pg_Reckoner ?hd_Reckoner ?po_Reckoner ?sa_Reckoner ?mk_Reckoner ?kc_Reckoner ?na_labels_Reckoner ?na_yeses_Reckoner ?na_alike_Reckoner ?na_known_Reckoner ?a0 ?l0 ?c0 ?k0 ?a1 ?l1 ?c1 ?k1 ?a2 ?l2 ?c2 ?k2 ?a3 ?l3 ?c3 ?k3 ?a4 ?l4 ?c4 ?k4 ?a5 ?l5 ?c5 ?k5 ?a6 ?i6 ?l6 ?c6 ?k6 ?a7 ?i7 ?l7 ?c7 ?k7 ?a8 ?i8 ?l8 ?c8 ?k8 ?a9 ?i9 ?l9 ?c9 ?k9 ?a10 ?i10 ?l10 ?c10 ?k10 ?a11 ?i11 ?l11 ?c11 ?k11 ?a12 ?i12 ?l12 ?c12 ?k12 ?a13 ?i13 ?l13 ?c13 ?k13 ?a14 ?i14 ?l14 ?c14 ?k14 ?a15 ?i15 ?l15 ?c15 ?k15 ?a16 ?i16 ?l16 ?c16 ?k16 ?a17 ?i17 ?l17 ?c17 ?k17 ?lc17 ?pv17 ?gh17 ?gt17 ?a18 ?l18 ?c18 ?k18 ?a19 ?l19 ?c19 ?k19 ?a20 ?l20 ?c20 ?k20 ?a21 ?l21 ?c21 ?k21 ?a22 ?i22 ?l22 ?c22 ?k22 ?a23 ?i23 ?l23 ?c23 ?k23 ?a24 ?i24 ?l24 ?c24 ?k24 ?a25 ?i25 ?l25 ?c25 ?k25 ?a26 ?i26 ?l26 ?c26 ?k26 ?a27 ?i27 ?l27 ?c27 ?k27 ?a28 ?l28 ?c28 ?k28 ?a29 ?l29 ?c29 ?k29 ?a30 ?l30 ?c30 ?k30 ?a31 ?l31 ?c31 ?k31 ?a32 ?l32 ?c32 ?k32 ?a33 ?l33 ?c33 ?k33 ?a34 ?l34 ?c34 ?k34 ?a35 ?l35 ?c35 ?k35 ?a36 ?l36 ?c36 ?k36 ?a37 ?l37 ?c37 ?k37 ?a38 ?l38 ?c38 ?k38 ?a39 ?l39 ?c39 ?k39 ?a40 ?l40 ?c40 ?k40 ?a41 ?l41 ?c41 ?k41 ?a42 ?l42 ?c42 ?k42 ?a43 ?l43 ?c43 ?k43 ?z_any ?z_enumerate ?z_int ?z_len ?z_list ?z_min ?z_range ?z_set ?z_sorted ?z_sum ?z_tuple ?hnt
  (case aC_Asking | pg_Asking | hd_Asking | po_Asking | sa_Asking | mk_Asking | kc_Asking | na_reckoner_Asking | na_fitting_Asking | aC_Reckoner | pg_Reckoner | hd_Reckoner | po_Reckoner | sa_Reckoner | mk_Reckoner | kc_Reckoner | na_labels_Reckoner | na_yeses_Reckoner | na_alike_Reckoner | na_known_Reckoner | a0 | l0 | c0 | k0 | a1 | l1 | c1 | k1 | a2 | l2 | c2 | k2 | a3 | l3 | c3 | k3 | a4 | l4 | c4 | k4 | a5 | l5 | c5 | k5 | a6 | i6 | l6 | c6 | k6 | a7 | i7 | l7 | c7 | k7 | a8 | i8 | l8 | c8 | k8 | a9 | i9 | l9 | c9 | k9 | a10 | i10 | l10 | c10 | k10 | a11 | i11 | l11 | c11 | k11 | a12 | i12 | l12 | c12 | k12 | a13 | i13 | l13 | c13 | k13 | a14 | i14 | l14 | c14 | k14 | a15 | i15 | l15 | c15 | k15 | a16 | i16 | l16 | c16 | k16 | a17 | i17 | l17 | c17 | k17 | lc17 | a18 | l18 | c18 | k18 | a19 | l19 | c19 | k19 | a20 | l20 | c20 | k20 | a21 | l21 | c21 | k21 | a22 | i22 | l22 | c22 | k22 | a23 | i23 | l23 | c23 | k23 | a24 | i24 | l24 | c24 | k24 | a25 | i25 | l25 | c25 | k25 | a26 | i26 | l26 | c26 | k26 | a27 | i27 | l27 | c27 | k27 | a28 | l28 | c28 | k28 | a29 | l29 | c29 | k29 | a30 | l30 | c30 | k30 | a31 | l31 | c31 | k31 | a32 | l32 | c32 | k32 | a33 | l33 | c33 | k33 | a34 | l34 | c34 | k34 | a35 | l35 | c35 | k35 | a36 | l36 | c36 | k36 | a37 | l37 | c37 | k37 | a38 | l38 | c38 | k38 | a39 | l39 | c39 | k39 | a40 | l40 | c40 | k40 | a41 | l41 | c41 | k41 | a42 | l42 | c42 | k42 | a43 | l43 | c43 | k43 | z_any | z_enumerate | z_int | z_len | z_list | z_min | z_range | z_set | z_sorted | z_sum | z_tuple=>k_is)
  (case pv17=>rfl)
  (case gh17=>kernel_rfl)
  (case gt17=>exact PySem.W.km_tabs_of Y _ (by k_mem))
  (case hnt=>kernel_rfl)
