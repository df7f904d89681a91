import PyProof.Rows.All
import Wide.All
import OpenK.AllK
import Wide.FinOn
import Lean
import PyProof.EqAt
import PyProof.EqKinds
import PyProof.TupleCall
import PyProof.NeKinds
import PyProof.ReprRoads
import PyProof.ReprBulk
import PyProof.Draws
import PyProof.EnumMake
import KE.BitLaws
import PyProof.ListIndex
import PyProof.AttrMissHeap
import PyProof.DictUpdate
import KE.KDictOf
import PyProof.FactsAll.enumerate_1
import PyProof.FactsAll.tuple_2
import PyProof.ListMulRoad
import PyProof.ListRange
import PyProof.FactsAll.list_3
import PyProof.Rows.SortWalk
import PyProof.Rows.MinMaxN
import KE.KEqDict
import KE.KDictSum
import PyProof.WalksMore
import PyProof.Rows.SetFrom
import PyProof.SetRoads
import PyProof.FactsAll.set_1
import KE.KItemsList
import KE.KSortTup
import KE.KLam
import PyProof.FactsAll.dict_1
import PyProof.StrBlockH
import PyProof.StrLawsTight
import PyProof.StrLawsOccR
import PyProof.StrLawsJoin
import PySem.Challenge.RW_flips_k35_what_glances_tell
set_option Elab.async false
set_option linter.all false
set_option genInjectivity false
set_option genSizeOf false
set_option compiler.extract_closed false
set_option bootstrap.genMatcherCode false
set_option maxRecDepth 100000
set_option maxHeartbeats 0
-- CHANGE: your row's module here,as the last of these rows
namespace L2
open PySem PySem.Spec PyProof.Rows
noncomputable abbrev Key:=Sum Int Str
noncomputable def DR:Key->Value->Bool
 | .inl k,v=>Value.isInt k v
 | .inr x,v=>Value.isStrOf x v
noncomputable def Oz (w:World):Key->Int
 | .inl k=>hashInt k
 | .inr x=>hashStr w x
theorem keyIs_shape:∀ {k:Key} {v:Value},DR k v=true->(∃ i t,k=Sum.inl i/\v=Value.int i t)\/(∃ x t,k=Sum.inr x/\v=Value.str x t)
 | .inl i,v,h=>by
  obtain ⟨t,e⟩:=Value.isInt_shape (k:=i) (v:=v) h
  exact .inl ⟨i,t,rfl,e⟩
 | .inr x,v,h=>by
  obtain ⟨t,e⟩:=Value.isStrOf_shape (x:=x) (v:=v) h
  exact .inr ⟨x,t,rfl,e⟩
theorem QZ (i:Int) (t:Tok):DR (.inl i) (.int i t)=true:=by simp [DR,Value.isInt]
theorem Qd (x:Str) (t:Tok):DR (.inr x) (.str x t)=true:=by simp [DR,Value.isStrOf]
theorem N7 (a b:Int):decide ((Sum.inl a:Key)=Sum.inl b)=(a == b):=by
 by_cases e:a=b
 ·subst e;simp
 ·have h:¬ (Sum.inl a:Key)=Sum.inl b:=fun q=>e (Sum.inl.inj q)
  rw [decide_eq_false h]
  exact (beq_eq_false_iff_ne.mpr e).symm
theorem LX (a b:Str):decide ((Sum.inr a:Key)=Sum.inr b)=decide (a=b):=by
 by_cases e:a=b
 ·subst e;simp
 ·have h:¬ (Sum.inr a:Key)=Sum.inr b:=fun q=>e (Sum.inr.inj q)
  rw [decide_eq_false h,decide_eq_false e]
theorem MT (a:Int) (b:Str):decide ((Sum.inl a:Key)=Sum.inr b)=false:=decide_eq_false (fun q=>nomatch q)
theorem Qn (a:Str) (b:Int):decide ((Sum.inr a:Key)=Sum.inl b)=false:=decide_eq_false (fun q=>nomatch q)
noncomputable def Be (prog:Program) (w:World):PySem.KeyKind prog w Key where
 is:=DR
 hash:=Oz w
 inj:=fun v a b ha hb=>by
  rcases keyIs_shape ha with ⟨i,t,rfl,rfl⟩ | ⟨x,t,rfl,rfl⟩
  ·rcases keyIs_shape hb with ⟨j,u,rfl,e⟩ | ⟨y,u,rfl,e⟩
   ·injection e with e1 _;rw [e1]
   ·exact nomatch e
  ·rcases keyIs_shape hb with ⟨j,u,rfl,e⟩ | ⟨y,u,rfl,e⟩
   ·exact nomatch e
   ·injection e with e1 _;rw [e1]
 byValue:=fun k v h=>by
  rcases keyIs_shape h with ⟨i,t,rfl,rfl⟩ | ⟨x,t,rfl,rfl⟩ <;> rfl
 pyHash:=fun hv h=>by
  rcases keyIs_shape hv with ⟨i,t,rfl,rfl⟩ | ⟨x,t,rfl,rfl⟩
  ·exact wpAny_pyHash_int h
  ·exact wpAny_pyHash_str h
 eqBool:=fun hu hv h=>by
  rcases keyIs_shape hu with ⟨i,t,rfl,rfl⟩ | ⟨x,t,rfl,rfl⟩
  ·rcases keyIs_shape hv with ⟨j,u,rfl,rfl⟩ | ⟨y,u,rfl,rfl⟩
   ·rw [N7] at h;exact wpAny_eqBool_int h
   ·rw [MT] at h;exact SeqAt.EqAt.int_str i t y u _ _ _ _ h
  ·rcases keyIs_shape hv with ⟨j,u,rfl,rfl⟩ | ⟨y,u,rfl,rfl⟩
   ·rw [Qn] at h;exact SeqAt.EqAt.str_int x t j u _ _ _ _ h
   ·rw [LX] at h;exact wpAny_eqBool_str h
 «strs»:=fun k x t v h=>by
  rcases keyIs_shape h with ⟨i,u,rfl,e⟩ | ⟨y,u,rfl,e⟩
  ·exact nomatch e
  ·injection e with e1 _
   subst e1
   cases v <;> rfl
theorem LF (prog:Program) (w:World) (i:Int) (t:Tok):(Be prog w).is (.inl i) (.int i t)=true:=QZ i t
theorem Og (prog:Program) (w:World) (x:Str) (t:Tok):(Be prog w).is (.inr x) (.str x t)=true:=Qd x t
inductive V where
 | non | bl (b:Bool) | int (i:Int) | str (x:Str) | byt (b:Array UInt8) | flt (b:UInt64) | ref (a:Addr) | ty (n:String)
 deriving DecidableEq
noncomputable def RelV:V->Value->Prop
 | .non,u=>u=Value.none
 | .bl b,u=>u=Value.bool b
 | .int i,u=>∃ t,u=Value.int i t
 | .str x,u=>∃ t,u=Value.str x t
 | .byt b,u=>∃ t,u=Value.bytes b t
 | .flt b,u=>∃ t,u=Value.float b t
 | .ref a,u=>u=Value.ref a
 | .ty n,u=>u=Value.type n
noncomputable abbrev Vals:List V->List Value->Prop:=Paired RelV
theorem Vals.length {xs:List V} {us:List Value} (r:Vals xs us):xs.length=us.length:=Paired.length r
theorem Vals.get:∀ {xs:List V} {us:List Value} {i:Nat} {x:V},Vals xs us->xs[i]? = some x->∃ u,us[i]? = some u/\RelV x u
 | _,_,_,_,.nil,e=>by simp at e
 | _,_,0,_,.cons r _,e=>by simp at e;subst e;exact ⟨_,rfl,r⟩
 | _,_,i+1,x,.cons _ t,e=>by
  obtain ⟨u,h1,h2⟩:=Vals.get (i:=i) (x:=x) t (by simpa using e)
  exact ⟨u,by simpa using h1,h2⟩
theorem Vals.set {x:V} {u:Value} (r:RelV x u):∀ {xs:List V} {us:List Value} (i:Nat),Vals xs us->Vals (xs.set i x) (us.set i u)
 | _,_,_,.nil=>.nil
 | _,_,0,.cons _ t=>.cons r t
 | _,_,i+1,.cons q t=>.cons q (Vals.set r i t)
theorem Vals.append:∀ {xs ys:List V} {us ws:List Value},Vals xs us->Vals ys ws->Vals (xs++ys) (us++ws)
 | _,_,_,_,.nil,s=>s
 | _,_,_,_,.cons r t,s=>.cons r (Vals.append t s)
theorem Vals.take:∀ {xs:List V} {us:List Value} (n:Nat),Vals xs us->Vals (xs.take n) (us.take n)
 | _,_,0,_=>.nil
 | _,_,_+1,.nil=>.nil
 | _,_,n+1,.cons r t=>.cons r (Vals.take n t)
theorem Vals.drop:∀ {xs:List V} {us:List Value} (n:Nat),Vals xs us->Vals (xs.drop n) (us.drop n)
 | _,_,0,r=>r
 | _,_,_+1,.nil=>.nil
 | _,_,n+1,.cons _ t=>Vals.drop n t
noncomputable def RelO:Option V->Option Value->Prop
 | some v,some u=>RelV v u
 | none,none=>True
 | _,_=>False
noncomputable def KV {κ:Type}:List (κ × V)->List (κ × Value)->Prop:=Paired fun (p:κ × V) (q:κ × Value)=>p.1=q.1/\RelV p.2 q.2
noncomputable def kV:Key->V
 | .inl i=>.int i
 | .inr x=>.str x
inductive HO where
 | lst (xs:List V)
 | tup (xs:List V)
 | dK (kvs:List (Key × V)) | dT (kvs:List (List Key × V))
 | set (S:Int->Bool) (n:Nat)
 | ins (C dx:Addr) (fs:List (Str × V))
 | own (x:Addr)
 | xd (fs:List (Str × V))
 | met (f x:Addr)
 | rng (lo hi:Int)
 | frz (o:Obj) (u:HO)
 | tbl (ps:Array Value)
 | ext (φ:Heap->Prop)
noncomputable abbrev Hp:=Addr->Option HO
noncomputable def upd (H:Hp) (a:Addr) (o:HO):Hp:=fun b=>if b=a then some o else H b
theorem AH {H:Hp} {a:Addr} {o:HO}:upd H a o a=some o:=by unfold upd;rw [if_pos rfl]
theorem AX {H:Hp} {a b:Addr} {o:HO} (h:b≠a):upd H a o b=H b:=by unfold upd;rw [if_neg h]
theorem Bo {H:Hp} {a b:Addr} {o:HO} (h:H a=some o) (h':H b=none):a≠b:=by
 intro e;subst e;rw [h] at h';cases h'
noncomputable def IsTupN (h:Heap) (a:Addr) (items:Array Value):Prop:=∃ o,h.get? a=some o/\o.cls=.type "tuple" /\ (∃ n,o.data=.seq items n)/\o.dict=none
theorem IsTupN.tup {h:Heap} {a:Addr} {items:Array Value} (x:IsTupN h a items):PyProof.Rows.IsTup h a items:=by
 obtain ⟨o,e,c,d,_⟩:=x
 exact ⟨o,e,c,d⟩
theorem IsTupN.new (h:Heap) (items:Array Value):IsTupN (h.push { cls:=.type "tuple",data:=.seq items }) h.objs.size items:=⟨_,Heap.get?_push_size _ rfl,rfl,⟨_,rfl⟩,rfl⟩
section
variable (P:Program) (w:World)
noncomputable def ObjOk (H:Hp) (h:Heap) (a:Addr):HO->Prop
 | .lst xs=>xs.length<=sizeLine/\∃ (its:List Value) (n:Nat),Vals xs its/\h.get? a=some { cls:=.type "list",data:=.seq its.toArray n }
 | .tup xs=>xs.length<=sizeLine/\∃ its:List Value,Vals xs its/\IsTupN h a its.toArray
 | .dK kvs=>kvs.length<=sizeLine/\(a == sysModules)=false/\∃ vs,KV kvs vs/\h.DictOf (Be P w) a vs
 | .dT kvs=>kvs.length<=sizeLine/\(a == sysModules)=false/\∃ xs:List (List Key × Addr × Value),
  Paired (fun (p:List Key × V) (q:List Key × Addr × Value)=>p.1=q.1/\H q.2.1=some (.tup (p.1.map kV))/\RelV p.2 q.2.2) kvs xs /\
  ∃ o es ep,h.get? a=some o/\o.ExactDict/\o.data=.dict es ep/\es.toList=xs.map (entryOfKey (tupleKind (Be P w)))/\(xs.map (·.1)).Nodup
 | .set S n=>h.SetOf (intKind P w) a S n
 | .ins C dx fs=>H dx=some (.own a)/\fs.length<=1000/\dx≠a/\h.get? a=some (PySem.W.instObj C dx) /\
  ∃ mA,h.Ns1 dx mA/\(∀ f,RelO (fs.lookup f) (mA f))/\PySem.Within mA (fs.map (·.1))
 | .own _=>∃ o,h.get? a=some o
 | .xd fs=>∃ mA,h.Ns1 a mA/\∀ f,RelO (fs.lookup f) (mA f)
 | .rng lo hi=>∃ t u v,h.get? a=some { cls:=.type "range",data:=.fields #[.int lo t,.int hi u,.int 1 v] }
 | .frz o u=>h.get? a=some o/\ObjOk H h a u
 | .tbl ps=>h.get? a=some { cls:=.none,data:=.fields ps }
 | .met f x=>h.get? a=some (PySem.W.methodObj (.ref f) (.ref x))
 | .ext φ=>φ h/\(∃ o,h.get? a=some o)/\∀ h1 h2:Heap,φ h1->(∀ o,h1.get? a=some o->h2.get? a=some o)->φ h2
noncomputable def HOk (H:Hp) (h:Heap):Prop:=∀ a o,H a=some o->ObjOk P w H h a o
end
section
variable {P:Program} {w:World} {H H':Hp} {h h':Heap} {a:Addr} {o:HO}
theorem ObjOk.lt (x:ObjOk P w H h a o):a < h.objs.size:=by
 cases o with
 | lst xs=>obtain ⟨_,_,_,_,e⟩:=x;exact Heap.lt_size e
 | tup xs=>obtain ⟨_,_,_,p⟩:=x;exact p.tup.lt
 | dK kvs=>obtain ⟨_,_,_,_,o,_,_,e,_⟩:=x;exact Heap.lt_size e
 | dT kvs=>obtain ⟨_,_,_,_,o,_,_,e,_⟩:=x;exact Heap.lt_size e
 | set S n=>obtain ⟨o,_,_,_,e,_⟩:=x;exact Heap.lt_size e
 | ins C dx fs=>obtain ⟨_,_,_,e,_⟩:=x;exact Heap.lt_size e
 | own y=>obtain ⟨_,e⟩:=x;exact Heap.lt_size e
 | xd fs=>obtain ⟨_,⟨_,_,_,e,_⟩,_⟩:=x;exact Heap.lt_size e
 | rng lo hi=>obtain ⟨_,_,_,e⟩:=x;exact Heap.lt_size e
 | frz ob u=>obtain ⟨e,_⟩:=x;exact Heap.lt_size e
 | tbl ps=>exact Heap.lt_size (show h.get? a=some _ from x)
 | met f y=>exact Heap.lt_size (show h.get? a=some _ from x)
 | ext φ=>obtain ⟨_,⟨_,e⟩,_⟩:=x;exact Heap.lt_size e
theorem Paired.mapP {α β:Type} {F G:α->β->Prop}:∀ {l₁:List α} {l₂:List β},Paired F l₁ l₂->(∀ a b,F a b->G a b)->Paired G l₁ l₂
 | _,_,.nil,_=>.nil
 | _,_,.cons r t,f=>.cons (f _ _ r) (Paired.mapP t f)
theorem ObjOk.stay (x:ObjOk P w H h a o) (k:∀ b u,(b=a\/H b=some (.own a))->h.get? b=some u->h'.get? b=some u)
 (ho:∀ b,H b=some (.own a)->H' b=some (.own a)) (ht:∀ b xs,H b=some (.tup xs)->H' b=some (.tup xs)):ObjOk P w H' h' a o:=by
 induction o with
 | lst xs=>obtain ⟨z,its,n,r,e⟩:=x;exact ⟨z,its,n,r,k _ _ (.inl rfl) e⟩
 | tup xs=>obtain ⟨z,its,r,ob,e,c⟩:=x;exact ⟨z,its,r,ob,k _ _ (.inl rfl) e,c⟩
 | dK kvs=>obtain ⟨z,y,vs,r,ob,es,ep,e,c⟩:=x;exact ⟨z,y,vs,r,ob,es,ep,k _ _ (.inl rfl) e,c⟩
 | dT kvs =>
  obtain ⟨z,y,xs,r,ob,es,ep,e,c⟩:=x
  exact ⟨z,y,xs,Paired.mapP r fun p q z=>⟨z.1,ht _ _ z.2.1,z.2.2⟩,ob,es,ep,k _ _ (.inl rfl) e,c⟩
 | set S n=>obtain ⟨ob,es,ep,t,e,c⟩:=x;exact ⟨ob,es,ep,t,k _ _ (.inl rfl) e,c⟩
 | ins C dx fs =>
  obtain ⟨d,z,ne,e,mA,⟨od,es,ep,e2,c⟩,r⟩:=x
  exact ⟨ho _ d,z,ne,k _ _ (.inl rfl) e,mA,⟨od,es,ep,k _ _ (.inr d) e2,c⟩,r⟩
 | own y=>obtain ⟨ob,e⟩:=x;exact ⟨ob,k _ _ (.inl rfl) e⟩
 | xd fs=>obtain ⟨mA,⟨od,es,ep,e,c⟩,r⟩:=x;exact ⟨mA,⟨od,es,ep,k _ _ (.inl rfl) e,c⟩,r⟩
 | rng lo hi=>obtain ⟨t,u,v,e⟩:=x;exact ⟨t,u,v,k _ _ (.inl rfl) e⟩
 | frz ob u ih=>obtain ⟨e,q⟩:=x;exact ⟨k _ _ (.inl rfl) e,ih q⟩
 | tbl ps =>
  have e:h.get? a=some { cls:=.none,data:=.fields ps }:=x
  show h'.get? a=some { cls:=.none,data:=.fields ps }
  exact k a _ (.inl rfl) e
 | met f y =>
  have e:h.get? a=some (PySem.W.methodObj (.ref f) (.ref y)):=x
  show h'.get? a=some (PySem.W.methodObj (.ref f) (.ref y))
  exact k a _ (.inl rfl) e
 | ext φ=>obtain ⟨p,⟨o,e⟩,st⟩:=x;exact ⟨st _ _ p fun o q=>k _ _ (.inl rfl) q,⟨o,k _ _ (.inl rfl) e⟩,st⟩
theorem HOk.lt (x:HOk P w H h) (e:H a=some o):a < h.objs.size:=(x a o e).lt
theorem HOk.fresh (x:HOk P w H h) (e:h.objs.size<=a):H a=none:=by
 cases q:H a with
 | none=>rfl
 | some u=>exact absurd (Nat.lt_of_lt_of_le (x.lt q) e) (Nat.lt_irrefl _)
theorem HOk.kept (x:HOk P w H h) (k:∀ b u,h.get? b=some u->h'.get? b=some u):HOk P w H h':=fun a o e =>
 (x a o e).stay (fun b u _ q=>k b u q) (fun _ q=>q) fun _ _ q=>q
theorem HOk.laid (x:HOk P w H h) (k:∀ b u,h.get? b=some u->h'.get? b=some u) (hp:h.objs.size<=a) (new:ObjOk P w (upd H a o) h' a o):HOk P w (upd H a o) h':=fun b u e=>by
 have hn:=x.fresh hp
 by_cases hb:b=a
 ·subst hb;rw [AH] at e;cases e;exact new
 ·rw [AX hb] at e
  exact (x b u e).stay (fun c v _ q=>k c v q) (fun c q=>by rw [AX (Bo q hn)];exact q) fun c xs q=>by rw [AX (Bo q hn)];exact q
end
noncomputable def Rd (H:Hp) (a:Addr) (u:HO):Prop:=H a=some u\/∃ o,H a=some (.frz o u)
theorem Rd.ok {P:Program} {w:World} {H:Hp} {h:Heap} {a:Addr} {u:HO} (r:Rd H a u) (x:HOk P w H h):ObjOk P w H h a u:=by
 rcases r with r | ⟨o,r⟩
 ·exact x a u r
 ·obtain ⟨_,q⟩:=x a _ r
  exact q
noncomputable def Mut:Option HO->Prop
 | some (.lst _)=>True
 | some (.dK _)=>True
 | some (.dT _)=>True
 | some (.set _ _)=>True
 | some (.ins _ _ _)=>True
 | some (.ext _)=>True
 | _=>False
section
variable {P:Program} {w:World} {H:Hp} {h h':Heap} {x e:Addr} {o':HO}
theorem HOk.write (ok:HOk P w H h) (mu:Mut (H x)) (he:e=x\/H e=some (.own x)) (k:∀ b u,b≠e->h.get? b=some u->h'.get? b=some u) (heo:∃ u,h'.get? e=some u)
 (new:ObjOk P w (upd H x o') h' x o'):HOk P w (upd H x o') h':=fun b u q=>by
 have nown:∀ c y,H c=some (.own y)->c≠x:=fun c y r z=>by subst z;rw [r] at mu;exact mu
 have ntup:∀ c xs,H c=some (.tup xs)->c≠x:=fun c xs r z=>by subst z;rw [r] at mu;exact mu
 by_cases hb:b=x
 ·subst hb;rw [AH] at q;cases q;exact new
 ·rw [AX hb] at q
  by_cases hbe:b=e
  ·have q':H b=some (.own x):=by
    rcases he with z | z
    ·exact absurd (hbe.trans z) hb
    ·rw [hbe];exact z
   rw [q] at q';cases q'
   obtain ⟨v,hv⟩:=heo
   exact ⟨v,by rw [hbe];exact hv⟩
  ·refine (ok b u q).stay (fun c v hc r=>k c v ?_ r) (fun c r=>by rw [AX (nown c b r)];exact r) fun c xs r=>by rw [AX (ntup c xs r)];exact r
   rcases hc with rfl | hc
   ·exact hbe
   ·rintro rfl
    rcases he with z | z
    ·exact nown c b hc z
    ·rw [hc] at z;cases z;exact hb rfl
end
structure Un (fs ex:List Addr) (H H':Hp) (h h':Heap):Prop where
 keep:∀ b o,h.get? b=some o->H b=none->b∉fs->b∉ex->h'.get? b=some o
 slot:∀ b o,h.get? b=some o->H b=none->b∈fs->b∉ex->∃ sl,h'.get? b=some { o with slots:=sl }
 free:∀ b o,h.get? b=some o->H b=none->b∉ex->H' b=none
 there:∀ b o,h.get? b=some o->b∉ex->∃ o',h'.get? b=some o'
 tups:∀ b xs,H b=some (.tup xs)->H' b=some (.tup xs)
 frzs:∀ b o u,H b=some (.frz o u)->H' b=some (.frz o u)
 tbls:∀ b ps,H b=some (.tbl ps)->∃ more,H' b=some (.tbl (ps++more))
section
variable {fs fs' ex ex':List Addr} {H H1 H2:Hp} {h h1 h2 h':Heap} {a x e:Addr} {o:HO}
theorem Un.any (u:Un fs ex H H1 h h1) {b:Addr} {ob:Obj} (q:h.get? b=some ob) (n:H b=none) (hx:b∉ex):∃ sl,h1.get? b=some { ob with slots:=sl }:=by
 by_cases hb:b∈fs
 ·exact u.slot b ob q n hb hx
 ·exact ⟨ob.slots,u.keep b ob q n hb hx⟩
theorem Un.trans (a:Un fs ex H H1 h h1) (b:Un fs ex H1 H2 h1 h2):Un fs ex H H2 h h2 where
 keep:=fun c ob q n hc hx=>b.keep c ob (a.keep c ob q n hc hx) (a.free c ob q n hx) hc hx
 slot:=fun c ob q n hc hx=>by
  obtain ⟨sl,e1⟩:=a.slot c ob q n hc hx
  obtain ⟨sl',e2⟩:=b.slot c _ e1 (a.free c ob q n hx) hc hx
  exact ⟨sl',e2⟩
 free:=fun c ob q n hx=>by
  obtain ⟨o',e1⟩:=a.there c ob q hx
  exact b.free c o' e1 (a.free c ob q n hx) hx
 there:=fun c ob q hx=>by
  obtain ⟨o',e1⟩:=a.there c ob q hx
  exact b.there c o' e1 hx
 tups:=fun c xs q=>b.tups c xs (a.tups c xs q)
 frzs:=fun c ob xs q=>b.frzs c ob xs (a.frzs c ob xs q)
 tbls:=fun c ps q=>by
  obtain ⟨m1,e1⟩:=a.tbls c ps q
  obtain ⟨m2,e2⟩:=b.tbls c _ e1
  exact ⟨m1++m2,by rw [e2,Array.append_assoc]⟩
theorem Un.kept (k:∀ b u,h.get? b=some u->h'.get? b=some u):Un fs ex H H h h' :=
 ⟨fun b ob q _ _ _=>k b ob q,fun b ob q _ _ _=>⟨ob.slots,k b ob q⟩,fun _ _ _ n _=>n,fun b ob q _=>⟨ob,k b ob q⟩,fun _ _ q=>q,fun _ _ _ q=>q,fun _ ps q=>⟨#[],by rw [q];simp⟩⟩
theorem Un.refl:Un fs ex H H h h:=Un.kept fun _ _ q=>q
theorem Un.laid (k:∀ b u,h.get? b=some u->h'.get? b=some u) (hp:h.objs.size<=a) (hn:H a=none):Un fs ex H (upd H a o) h h' where
 keep:=fun b u q _ _ _=>k b u q
 slot:=fun b u q _ _ _=>⟨u.slots,k b u q⟩
 free:=fun b u q n _=>by rw [AX (Nat.ne_of_lt (Nat.lt_of_lt_of_le (Heap.lt_size q) hp))];exact n
 there:=fun b u q _=>⟨u,k b u q⟩
 tups:=fun b xs q=>by rw [AX (Bo q hn)];exact q
 frzs:=fun b u xs q=>by rw [AX (Bo q hn)];exact q
 tbls:=fun b ps q=>⟨#[],by rw [AX (Bo q hn),q];simp⟩
theorem Un.write (mu:Mut (H x)) (he:e=x\/H e=some (.own x)) (k:∀ b u,b≠e->h.get? b=some u->h'.get? b=some u) (heo:∃ u,h'.get? e=some u):Un fs ex H (upd H x o) h h':=by
 have hx:∀ b,H b=none->b≠x:=fun b n z=>by subst z;rw [n] at mu;exact mu
 have hb:∀ b,H b=none->b≠e:=fun b n z=>by
  subst z
  rcases he with r | r
  ·exact hx b n r
  ·rw [n] at r;cases r
 have hm:∀ b u,H b=some u->¬ Mut (some u)->b≠x:=fun b u q nm z=>by subst z;rw [q] at mu;exact nm mu
 refine ⟨fun b u q n _ _=>k b u (hb b n) q,fun b u q n _ _=>⟨u.slots,k b u (hb b n) q⟩,fun b u q n _=>by rw [AX (hx b n)];exact n,fun b u q _=>?_,
  fun b xs q=>by rw [AX (hm b _ q fun z=>z)];exact q,fun b u xs q=>by rw [AX (hm b _ q fun z=>z)];exact q,fun b ps q=>⟨#[],by rw [AX (hm b _ q fun z=>z),q];simp⟩⟩
 by_cases hbe:b=e
 ·subst hbe;exact heo
 ·exact ⟨u,k b u hbe q⟩
end
noncomputable def trk (h:Heap) (H:Hp):List Addr:=(List.range h.objs.size).filter fun a=>(H a).isSome
noncomputable def CK (h:Heap) (H:Hp):Heap:=PySem.W.hideAll h (trk h H)
theorem Li (h:Heap) (H:Hp):(CK h H).objs.size=h.objs.size:=PySem.W.hideAll_size _ _
theorem MN {h:Heap} {H:Hp} {b:Addr} {o:Obj} (e:h.get? b=some o) (n:H b=none):(CK h H).get? b=some o :=
 PySem.W.hideAll_get _ e fun hm=>by
  have q:(H b).isSome=true:=(List.mem_filter.mp hm).2
  rw [n] at q;simp at q
theorem MS {h:Heap} {H:Hp} {b:Addr} {o:Obj} (e:(CK h H).get? b=some o):h.get? b=some o/\H b=none:=by
 have e':h.get? b=some o:=PySem.W.of_hideAll (trk h H) e
 refine ⟨e',?_⟩
 cases q:H b with
 | none=>rfl
 | some x =>
  have hm:b∈trk h H:=List.mem_filter.mpr ⟨List.mem_range.mpr (Heap.lt_size e'),by simp [q]⟩
  have z:(CK h H).get? b=none:=PySem.W.hideAll_none (trk h H) hm
  rw [z] at e;cases e
noncomputable def Nz (g h:Heap) (L:Addr):List (Addr × Obj):=(List.range h.objs.size).filterMap fun a=>if a=L\/(g.get? a).isSome=true then none else (h.get? a).map fun o=>(a,o)
noncomputable def rest (g h:Heap) (L d:Addr):List (Addr × Obj):=(Nz g h L).filter fun p=>decide (p.1≠d)
structure Mod (K:W.Frag) (mg:Str->Option Value) (base:Heap):Prop where
 kin:K.In base
 glob:base.Ns mainGlobals mg
 blt:∃ mb,base.Ns builtinsNs mb/\∀ x:Str,x ≠ "__name__" -> mb x=bootBuiltins x
 nolimit:base.NoLimit
structure Cx where
 prog:Program
 w:World
 K:W.Frag
 mg:Str->Option Value
 base:Heap
 A:Around
 N:List Str
 s₀:Shared
 H₀:Hp
 env:Env
 outer:List Env
 stack:List Env
 ex:List Addr
 fn:Str->Bool
 calm:Bool
 pn:List (Addr × Obj)
 xe:Value->Shared->Prop
noncomputable def frs (l:List Env):List Addr:=l.filterMap (·.frame)
noncomputable abbrev Cx.fs (X:Cx):List Addr:=frs X.outer
noncomputable def Vis (sc:Scope) (x:Str):Prop:=sc.names.lookup x=some .local\/sc.names.lookup x=some .cell\/sc.names.lookup x=some .free
noncomputable def Loc (sc:Scope) (x:Str):Prop:=sc.names.lookup x=some .local\/sc.names.lookup x=some .cell
noncomputable def Q8 (env:Env) (h:Heap) (m:Str->Option Value) (x:Str) (u:Value):Prop :=
 (env.kindOf x=some .local/\m x=some u)\/((env.kindOf x=some .cell\/env.kindOf x=some .free)/\∃ c,env.cells.lookup x=some c/\h.IsCell c (some u))
structure Cx.Ok (X:Cx):Prop where
 mod:Mod X.K X.mg X.base
 kind:X.env.scope.kind=.function
 glob:X.env.globals=mainGlobals
 blt:X.env.builtins=builtinsNs
 above:X.s₀.heap.objs.size<=X.env.locals
 inj:∀ x y c,X.env.cells.lookup x=some c->X.env.cells.lookup y=some c->x=y
 has:∀ x,(X.env.kindOf x=some .cell\/X.env.kindOf x=some .free)->∃ c,X.env.cells.lookup x=some c
 cab:∀ x c,X.fn x=true->X.env.cells.lookup x=some c->X.s₀.heap.objs.size<=c
 hd:X.calm=true->X.A.handled=none
 frames:X.A.frames=some X.stack
 stk:X.stack=X.outer\/(X.stack=X.env::X.outer/\X.env.frame=some X.env.locals)
 exf:∀ b∈X.ex,b≠X.env.locals/\∀ x c,X.env.cells.lookup x=some c->c≠b
 bs:∀ b o,X.base.get? b=some o->X.s₀.heap.get? b=some o/\X.H₀ b=none
 bsz:X.base.objs.size<=X.s₀.heap.objs.size
 noex:∀ b o,X.base.get? b=some o->b∉X.ex
 exfs:∀ b∈X.ex,b∉X.fs
 funs:X.s₀.heap.FunFrames X.base X.outer
 frf:∀ b∈X.fs,X.H₀ b=none
structure Inv (X:Cx) (pins:List (Addr × Obj)) (σ:List (Option V)) (H:Hp) (s:Shared):Prop where
 ok:X.Ok
 os:s.os=X.s₀.os
 bare:AllBare s.gens
 base:Un X.fs X.ex X.H₀ H X.s₀.heap s.heap
 loc:∃ m,s.heap.Ns X.env.locals m/\∀ (i:Nat) (x:Str) (v:V),X.N[i]? = some x->σ[i]? = some (some v)->Vis X.env.scope x->∃ u,RelV v u/\Q8 X.env s.heap m x u
 cell:∀ x c,X.env.cells.lookup x=some c->∃ v,s.heap.IsCell c v
 free:H X.env.locals=none
 freeC:∀ x c,X.env.cells.lookup x=some c->H c=none
 pin:∀ p∈X.pn++pins,s.heap.get? p.1=some p.2/\H p.1=none/\p.1≠X.env.locals/\p.1∉X.fs/\∀ v,p.2.data≠.cell v
 hok:HOk X.prog X.w H s.heap
 len:σ.length=X.N.length
section
variable {X:Cx} {pins:List (Addr × Obj)} {σ:List (Option V)} {H H':Hp} {s:Shared} {h':Heap}
theorem Cx.Ok.nofr (ok:X.Ok) {b:Addr} {o:Obj} (e:X.base.get? b=some o):b∉X.fs:=fun hb=>by
 have:=(ok.funs.mem hb).1
 rw [e] at this;cases this
theorem Inv.bs (I:Inv X pins σ H s):∀ b o,X.base.get? b=some o->s.heap.get? b=some o/\H b=none:=fun b o e =>
 ⟨I.base.keep b o (I.ok.bs b o e).1 (I.ok.bs b o e).2 (I.ok.nofr e) (I.ok.noex b o e),I.base.free b o (I.ok.bs b o e).1 (I.ok.bs b o e).2 (I.ok.noex b o e)⟩
theorem Inv.bk (I:Inv X pins σ H s):∀ b o,X.base.get? b=some o->s.heap.get? b=some o:=fun b o e=>(I.bs b o e).1
theorem Inv.mod (I:Inv X pins σ H s):Mod X.K X.mg X.base:=I.ok.mod
theorem Inv.kIn (I:Inv X pins σ H s):X.K.In s.heap:=I.ok.mod.kin.keeps I.bk
theorem Inv.fr (I:Inv X pins σ H s):∃ m,Fr X.base X.env.locals s.heap m :=
 let ⟨m,hn,_⟩:=I.loc
 ⟨m,hn,I.bk,Nat.le_trans I.ok.bsz I.ok.above⟩
theorem Inv.lt (I:Inv X pins σ H s):X.env.locals < s.heap.objs.size:=let ⟨_,hn,_⟩:=I.loc;hn.lt
theorem Inv.sz (I:Inv X pins σ H s):X.s₀.heap.objs.size<=s.heap.objs.size:=Nat.le_trans I.ok.above (Nat.le_of_lt I.lt)
theorem Inv.nofs (I:Inv X pins σ H s) {a:Addr} (h:s.heap.objs.size<=a):a∉X.fs:=fun hb=>by
 obtain ⟨_,o,ho,_⟩:=I.ok.funs.mem hb
 exact absurd (Nat.lt_of_lt_of_le (Heap.lt_size ho) (Nat.le_trans I.sz h)) (Nat.lt_irrefl _)
theorem Inv.cne (I:Inv X pins σ H s):∀ x c,X.env.cells.lookup x=some c->c≠X.env.locals:=fun x c e z=>by
 obtain ⟨v,o,ho,hd⟩:=I.cell x c e
 obtain ⟨m,⟨o',es,ep,ho',hd',_⟩,_⟩:=I.loc
 rw [z,ho'] at ho;cases ho;rw [hd'] at hd;cases hd
theorem Inv.funs (I:Inv X pins σ H s):s.heap.FunFrames X.base X.outer:=by
 have all:∀ (l:List Env),(∀ b∈frs l,b∈X.fs)->X.s₀.heap.FunFrames X.base l->s.heap.FunFrames X.base l:=by
  intro l
  induction l with
  | nil=>intro _ _;trivial
  | cons env r ih =>
   intro hs hl
   obtain ⟨hk,⟨L,o,hf,hn,ho,hd⟩,hr⟩:=hl
   have hL:L∈X.fs:=hs L (by unfold frs;rw [List.filterMap_cons,hf];exact List.mem_cons_self)
   obtain ⟨sl,e⟩:=I.base.slot L o ho (I.ok.frf L hL) hL fun z=>I.ok.exfs L z hL
   exact ⟨hk,⟨L,_,hf,hn,e,hd⟩,ih (fun b hb=>hs b (by unfold frs;rw [List.filterMap_cons,hf];exact List.mem_cons_of_mem _ hb)) hr⟩
 exact all X.outer (fun _ hb=>hb) I.ok.funs
theorem Inv.stack (I:Inv X pins σ H s):s.heap.FunFrames X.base X.stack:=by
 rcases I.ok.stk with e | ⟨e,hf⟩
 ·rw [e];exact I.funs
 ·rw [e]
  obtain ⟨m,hn,_⟩:=I.loc
  refine .cons (by rw [I.ok.kind];decide) hf hn ?_ I.funs
  exact Heap.get?_none_of_le (Nat.le_trans I.ok.bsz I.ok.above)
theorem Inv.stkSub (I:Inv X pins σ H s):∀ b∈frs X.stack,b∈X.env.locals::X.fs:=fun b hb=>by
 rcases I.ok.stk with e | ⟨e,hf⟩
 ·rw [e] at hb;exact List.mem_cons_of_mem _ hb
 ·rw [e] at hb
  unfold frs at hb
  rw [List.filterMap_cons,hf] at hb
  exact hb
theorem Inv.stkFree (I:Inv X pins σ H s):∀ b∈frs X.stack,H b=none:=fun b hb=>by
 rcases List.mem_cons.mp (I.stkSub b hb) with e | hb
 ·rw [e];exact I.free
 ·obtain ⟨_,o,ho,_⟩:=I.ok.funs.mem hb
  exact I.base.free b o ho (I.ok.frf b hb) fun z=>I.ok.exfs b z hb
theorem Inv.step {g':Array GenState} {t':Nat} {d':Drawn} {ch:List Addr} (I:Inv X pins σ H s)
 (hch:∀ b∈ch,(b∈X.ex\/X.s₀.heap.objs.size<=b)/\b≠X.env.locals/\(∀ x c,X.env.cells.lookup x=some c->c≠b)/\∀ p∈X.pn++pins,p.1≠b)
 (keep:∀ b o,b≠X.env.locals->b∉X.fs->b∉ch->s.heap.get? b=some o->H b=none->h'.get? b=some o)
 (slot:∀ b o,b≠X.env.locals->b∈X.fs->b∉ch->s.heap.get? b=some o->H b=none->∃ sl,h'.get? b=some { o with slots:=sl }) (free:∀ b o,b∉ch->s.heap.get? b=some o->H b=none->H' b=none)
 (there:∀ b o,b∉ch->s.heap.get? b=some o->∃ o',h'.get? b=some o')
 (tups:∀ b xs,H b=some (.tup xs)->H' b=some (.tup xs)) (frzs:∀ b o u,H b=some (.frz o u)->H' b=some (.frz o u)) (tbls:∀ b ps,H b=some (.tbl ps)->∃ more,H' b=some (.tbl (ps++more)))
 (ns:∀ m,s.heap.Ns X.env.locals m->h'.Ns X.env.locals m) (hok:HOk X.prog X.w H' h') (hg:AllBare g') :
 Inv X pins σ H' { s with heap:=h',gens:=g',drawn:=d',toks:=t' }:=by
 have neL:∀ b o,X.s₀.heap.get? b=some o->b≠X.env.locals:=fun b o e=>Nat.ne_of_lt (Nat.lt_of_lt_of_le (Heap.lt_size e) I.ok.above)
 have neC:∀ b o,X.s₀.heap.get? b=some o->b∉X.ex->b∉ch:=fun b o e hx hb=>by
  rcases (hch b hb).1 with z | z
  ·exact hx z
  ·exact absurd (Nat.lt_of_lt_of_le (Heap.lt_size e) z) (Nat.lt_irrefl _)
 have cellK:∀ x c,X.env.cells.lookup x=some c->∀ v,s.heap.IsCell c v->h'.IsCell c v:=fun x c e v ⟨o,ho,hd⟩=>by
  have nch:c∉ch:=fun z=>(hch c z).2.2.1 x c e rfl
  by_cases hc:c∈X.fs
  ·obtain ⟨sl,q⟩:=slot c o (I.cne x c e) hc nch ho (I.freeC x c e)
   exact ⟨_,q,hd⟩
  ·exact ⟨o,keep c o (I.cne x c e) hc nch ho (I.freeC x c e),hd⟩
 refine ⟨I.ok,I.os,hg,⟨fun b o e n hb hx=>?_,fun b o e n hb hx=>?_,fun b o e n hx=>?_,fun b o e hx=>?_,fun b xs e=>tups b xs (I.base.tups b xs e),fun b o xs e=>frzs b o xs (I.base.frzs b o xs e),fun b ps e=>?_⟩,?_,fun x c e=>?_,?_,fun x c e=>?_,fun p hp=>?_,hok,I.len⟩
 ·exact keep b o (neL b o e) hb (neC b o e hx) (I.base.keep b o e n hb hx) (I.base.free b o e n hx)
 ·obtain ⟨sl,e1⟩:=I.base.slot b o e n hb hx
  obtain ⟨sl',e2⟩:=slot b _ (neL b o e) hb (neC b o e hx) e1 (I.base.free b o e n hx)
  exact ⟨sl',e2⟩
 ·obtain ⟨o',e1⟩:=I.base.there b o e hx
  exact free b o' (neC b o e hx) e1 (I.base.free b o e n hx)
 ·obtain ⟨o',e1⟩:=I.base.there b o e hx
  exact there b o' (neC b o e hx) e1
 ·obtain ⟨m1,e1⟩:=I.base.tbls b ps e
  obtain ⟨m2,e2⟩:=tbls b _ e1
  exact ⟨m1++m2,by rw [e2,Array.append_assoc]⟩
 ·obtain ⟨m,hn,hl⟩:=I.loc
  refine ⟨m,ns m hn,fun i x v e1 e2 e3=>?_⟩
  obtain ⟨u,r,l⟩:=hl i x v e1 e2 e3
  refine ⟨u,r,?_⟩
  rcases l with l | ⟨k,c,e,z⟩
  ·exact .inl l
  ·exact .inr ⟨k,c,e,cellK x c e _ z⟩
 ·obtain ⟨v,z⟩:=I.cell x c e
  exact ⟨v,cellK x c e v z⟩
 ·obtain ⟨m,⟨o,_,_,ho,_⟩,_⟩:=I.loc
  exact free _ o (fun z=>(hch _ z).2.1 rfl) ho I.free
 ·obtain ⟨v,o,ho,hd⟩:=I.cell x c e
  exact free c o (fun z=>(hch c z).2.2.1 x c e rfl) ho (I.freeC x c e)
 ·obtain ⟨e,n,ne,nf,d⟩:=I.pin p hp
  have nch:p.1∉ch:=fun z=>(hch p.1 z).2.2.2 p hp rfl
  exact ⟨keep p.1 p.2 ne nf nch e n,free p.1 p.2 nch e n,ne,nf,d⟩
theorem Inv.un {t':Nat} (I:Inv X pins σ H s) (u:Un X.fs [] H H' s.heap h') (hok:HOk X.prog X.w H' h'):Inv X pins σ H' { s with heap:=h',toks:=t' }:=by
 obtain ⟨m,⟨o,es,ep,ho,r⟩,_⟩:=id I.loc
 obtain ⟨sl,hL⟩:=u.any ho I.free (by simp)
 exact I.step (g':=s.gens) (d':=s.drawn) (ch:=[]) (fun _ z=>nomatch z) (fun b o _ hb _ e n=>u.keep b o e n hb (by simp)) (fun b o _ hb _ e n=>u.slot b o e n hb (by simp)) (fun b o _ e n=>u.free b o e n (by simp)) (fun b o _ e=>u.there b o e (by simp)) u.tups u.frzs u.tbls (fun m' hm=>by
  obtain ⟨o',es',ep',ho',r'⟩:=hm
  rw [ho] at ho';cases ho'
  exact ⟨_,es',ep',hL,r'⟩) hok I.bare
theorem Inv.call {g':Array GenState} {t':Nat} {d':Drawn} {ch:List Addr} (I:Inv X pins σ H s) (u:Un (frs X.stack) ch H H' s.heap h') (hok:HOk X.prog X.w H' h') (hg:AllBare g')
 (hch:∀ b∈ch,(b∈X.ex\/X.s₀.heap.objs.size<=b)/\b≠X.env.locals/\(∀ x c,X.env.cells.lookup x=some c->c≠b)/\∀ p∈X.pn++pins,p.1≠b) :
 Inv X pins σ H' { s with heap:=h',gens:=g',drawn:=d',toks:=t' }:=by
 obtain ⟨m,⟨o,es,ep,ho,r⟩,_⟩:=id I.loc
 obtain ⟨sl,hL⟩:=u.any ho I.free fun z=>(hch _ z).2.1 rfl
 exact I.step (ch:=ch) hch (fun b o hL hb hc e n=>u.keep b o e n (fun z=>(List.mem_cons.mp (I.stkSub b z)).elim hL hb) hc) (fun b o _ _ hc e n=>u.any e n hc) (fun b o hc e n=>u.free b o e n hc) (fun b o hc e=>u.there b o e hc) u.tups u.frzs u.tbls (fun m' hm=>by
  obtain ⟨o',es',ep',ho',r'⟩:=hm
  rw [ho] at ho';cases ho'
  exact ⟨_,es',ep',hL,r'⟩) hok hg
theorem Inv.turned {t':Nat} {it:Addr} (I:Inv X pins σ H s) (k:∀ b o,b≠it->s.heap.get? b=some o->h'.get? b=some o) (hn:H it=none) (hL:it≠X.env.locals)
 (h1:it∈X.ex\/X.s₀.heap.objs.size<=it) (h2:∀ x c,X.env.cells.lookup x=some c->c≠it) (h3:∀ p∈X.pn++pins,p.1≠it):Inv X pins σ H { s with heap:=h',toks:=t' }:=by
 have nit:∀ b u,H b=some u->b≠it:=fun b u e z=>by rw [z,hn] at e;cases e
 refine I.step (g':=s.gens) (d':=s.drawn) (ch:=[it]) (fun b hb=>?_) (fun b o _ _ hc e _=>k b o (fun z=>hc (by simp [z])) e) (fun b o _ _ hc e _=>⟨o.slots,k b o (fun z=>hc (by simp [z])) e⟩) (fun _ _ _ _ n=>n)
  (fun b o hc e=>⟨o,k b o (fun z=>hc (by simp [z])) e⟩) (fun _ _ e=>e) (fun _ _ _ e=>e) (fun b ps e=>⟨#[],by rw [e];simp⟩) (fun m hm=>?_) (fun b u e=>?_) I.bare
 ·have e:b=it:=by simpa using hb
  subst e
  exact ⟨h1,hL,h2,h3⟩
 ·obtain ⟨o,es,ep,ho,r⟩:=hm
  exact ⟨o,es,ep,k _ o (Ne.symm hL) ho,r⟩
 ·refine (I.hok b u e).stay (fun c v hc q=>k c v ?_ q) (fun _ q=>q) fun _ _ q=>q
  rcases hc with z | z
  ·rw [z];exact nit b u e
  ·exact nit c _ z
theorem Inv.tok (I:Inv X pins σ H s) (t:Nat):Inv X pins σ H { s with toks:=t }:=I.un (h':=s.heap) (t':=t) Un.refl I.hok
theorem Inv.kept {t':Nat} (I:Inv X pins σ H s) (k:∀ b u,s.heap.get? b=some u->h'.get? b=some u):Inv X pins σ H { s with heap:=h',toks:=t' }:=I.un (Un.kept k) (I.hok.kept k)
theorem Inv.laid {a:Addr} {o:HO} {t':Nat} (I:Inv X pins σ H s) (k:∀ b u,s.heap.get? b=some u->h'.get? b=some u) (hp:s.heap.objs.size<=a) (new:ObjOk X.prog X.w (upd H a o) h' a o) :
 Inv X pins σ (upd H a o) { s with heap:=h',toks:=t' }:=I.un (Un.laid k hp (I.hok.fresh hp)) (I.hok.laid k hp new)
theorem Inv.write {x e:Addr} {o:HO} {t':Nat} (I:Inv X pins σ H s) (mu:Mut (H x)) (he:e=x\/H e=some (.own x)) (k:∀ b u,b≠e->s.heap.get? b=some u->h'.get? b=some u) (heo:∃ u,h'.get? e=some u)
 (new:ObjOk X.prog X.w (upd H x o) h' x o):Inv X pins σ (upd H x o) { s with heap:=h',toks:=t' }:=I.un (Un.write mu he k heo) (I.hok.write mu he k heo new)
theorem Inv.weak {σ':List (Option V)} (I:Inv X pins σ H s) (hl:σ'.length=σ.length) (w:∀ (i:Nat) v,σ'[i]? = some (some v)->σ[i]? = some (some v)):Inv X pins σ' H s :=
 ⟨I.ok,I.os,I.bare,I.base,let ⟨m,hn,hl'⟩:=I.loc;⟨m,hn,fun i x v e1 e2 e3=>hl' i x v e1 (w i v e2) e3⟩,I.cell,I.free,I.freeC,I.pin,I.hok,hl.trans I.len⟩
theorem Inv.pins_of {pins':List (Addr × Obj)} (I:Inv X pins σ H s) (h:∀ p∈pins',s.heap.get? p.1=some p.2/\H p.1=none/\p.1≠X.env.locals/\p.1∉X.fs/\∀ v,p.2.data≠.cell v):Inv X pins' σ H s :=
 ⟨I.ok,I.os,I.bare,I.base,I.loc,I.cell,I.free,I.freeC,fun p hp=>(List.mem_append.mp hp).elim (fun z=>I.pin p (List.mem_append_left _ z)) (h p),I.hok,I.len⟩
theorem JX {N:List Str} (hN:N.Nodup) {i j:Nat} {x:Str} (a:N[i]? = some x) (b:N[j]? = some x):i=j:=by
 obtain ⟨h1,e1⟩:=List.getElem?_eq_some_iff.mp a
 obtain ⟨h2,e2⟩:=List.getElem?_eq_some_iff.mp b
 exact (List.getElem_inj hN).mp (e1.trans e2.symm)
theorem KD {M:Model} {A:Around} {E:Value->Shared->Prop} {i:Nat} {x:Str} {v:V} {u:Value} {Q:Unit->Shared->Prop} (I:Inv X pins σ H s) (hN:X.N.Nodup) (hi:X.N[i]? = some x) (hx:Loc X.env.scope x) (r:RelV v u)
 (h:∀ s',Inv X pins (σ.set i (some v)) H s'->(∃ a,Heap.SameBut a s.heap s'.heap/\(a=X.env.locals\/X.env.cells.lookup x=some a))->Q () s') (hf:X.fn x=true\/X.env.scope.names.lookup x=some .local:=by first | exact .inl rfl | exact .inr rfl | assumption):wpAny M A (storeName X.env x u) Q E s:=by
 obtain ⟨m,hn,hl⟩:=id I.loc
 have hcls:(X.env.scope.kind == .class || (X.env.scope.kind == .module && X.env.locals != X.env.globals))=false:=by rw [I.ok.kind];rfl
 have hiσ:i < σ.length:=by rw [I.len];exact (List.getElem?_eq_some_iff.mp hi).1
 have cne:=I.cne
 have tracked:∀ {a:Addr} {h':Heap},(∃ o,s.heap.get? a=some o/\H a=none)->Heap.SameBut a s.heap h'->HOk X.prog X.w H h':=fun {a h'} ha hs b ob e=>by
  obtain ⟨_,_,hfree⟩:=ha
  refine (I.hok b ob e).stay (fun c w' hc q=>(hs.2 c ?_).trans q) (fun _ q=>q) fun _ _ q=>q
  rintro rfl
  rcases hc with rfl | hc
  ·rw [hfree] at e;cases e
  ·rw [hfree] at hc;cases hc
 rcases hx with hk | hk
 ·refine wpAny_storeName_local hk hn (fun h' hn' hs=>?_) hcls
  obtain ⟨oL,_,_,hoL,_⟩:=id hn
  refine h _ ⟨I.ok,I.os,I.bare,⟨fun b o e n hb hx=>?_,fun b o e n hb hx=>?_,I.base.free,fun b o e hx=>?_,I.base.tups,I.base.frzs,I.base.tbls⟩,⟨_,hn',fun j y v' e1 e2 e3=>?_⟩,fun y c e=>?_,I.free,I.freeC,fun p hp=>?_,tracked ⟨oL,hoL,I.free⟩ hs,by simpa using I.len⟩ ⟨_,hs,.inl rfl⟩
  ·exact (hs.2 b (Nat.ne_of_lt (Nat.lt_of_lt_of_le (Heap.lt_size e) I.ok.above))).trans (I.base.keep b o e n hb hx)
  ·obtain ⟨sl,e1⟩:=I.base.slot b o e n hb hx
   exact ⟨sl,(hs.2 b (Nat.ne_of_lt (Nat.lt_of_lt_of_le (Heap.lt_size e) I.ok.above))).trans e1⟩
  ·obtain ⟨o',e1⟩:=I.base.there b o e hx
   exact ⟨o',(hs.2 b (Nat.ne_of_lt (Nat.lt_of_lt_of_le (Heap.lt_size e) I.ok.above))).trans e1⟩
  ·by_cases hj:j=i
   ·subst hj
    rw [hi] at e1;cases e1
    rw [List.getElem?_set_self hiσ] at e2
    cases e2
    exact ⟨u,r,.inl ⟨hk,by simp⟩⟩
   ·rw [List.getElem?_set_ne (Ne.symm hj)] at e2
    obtain ⟨u',r',q⟩:=hl j y v' e1 e2 e3
    refine ⟨u',r',?_⟩
    rcases q with ⟨k,e⟩ | ⟨k,c,e,z⟩
    ·refine .inl ⟨k,?_⟩
     have:y≠x:=fun e=>hj (JX hN e1 (e ▸ hi))
     simp [this,e]
    ·exact .inr ⟨k,c,e,z.sameBut hs (cne y c e)⟩
  ·obtain ⟨w',z⟩:=I.cell y c e
   exact ⟨w',z.sameBut hs (cne y c e)⟩
  ·obtain ⟨e,n,ne,nf,d⟩:=I.pin p hp
   exact ⟨(hs.2 p.1 ne).trans e,n,ne,nf,d⟩
 ·have hfn:X.fn x=true:=by
   rcases hf with z | z
   ·exact z
   ·rw [z] at hk;cases hk
  obtain ⟨c,hc⟩:=I.ok.has x (.inl hk)
  obtain ⟨w',z⟩:=I.cell x c hc
  refine wpAny_storeName_cell I.ok.kind hk hc z (fun h' hc' hs=>?_)
  obtain ⟨oc,hoc,hocd⟩:=id z
  refine h { s with heap:=h' } ⟨I.ok,I.os,I.bare,⟨fun b o e n hb hx=>?_,fun b o e n hb hx=>?_,I.base.free,fun b o e hx=>?_,I.base.tups,I.base.frzs,I.base.tbls⟩,⟨m,hn.sameBut hs (Ne.symm (cne x c hc)),fun j y v' e1 e2 e3=>?_⟩,fun y c' e=>?_,I.free,I.freeC,fun p hp=>?_,tracked ⟨oc,hoc,I.freeC x c hc⟩ hs,by simpa using I.len⟩ ⟨c,hs,.inr hc⟩
  ·exact (hs.2 b (Nat.ne_of_lt (Nat.lt_of_lt_of_le (Heap.lt_size e) (I.ok.cab x c hfn hc)))).trans (I.base.keep b o e n hb hx)
  ·obtain ⟨sl,e1⟩:=I.base.slot b o e n hb hx
   exact ⟨sl,(hs.2 b (Nat.ne_of_lt (Nat.lt_of_lt_of_le (Heap.lt_size e) (I.ok.cab x c hfn hc)))).trans e1⟩
  ·obtain ⟨o',e1⟩:=I.base.there b o e hx
   exact ⟨o',(hs.2 b (Nat.ne_of_lt (Nat.lt_of_lt_of_le (Heap.lt_size e) (I.ok.cab x c hfn hc)))).trans e1⟩
  ·by_cases hj:j=i
   ·subst hj
    rw [hi] at e1;cases e1
    rw [List.getElem?_set_self hiσ] at e2
    cases e2
    exact ⟨u,r,.inr ⟨.inl hk,c,hc,hc'⟩⟩
   ·rw [List.getElem?_set_ne (Ne.symm hj)] at e2
    obtain ⟨u',r',q⟩:=hl j y v' e1 e2 e3
    refine ⟨u',r',?_⟩
    rcases q with q | ⟨k,c',e,z'⟩
    ·exact .inl q
    ·refine .inr ⟨k,c',e,z'.sameBut hs ?_⟩
     rintro rfl
     exact hj (JX hN e1 (I.ok.inj _ _ _ e hc ▸ hi))
  ·by_cases hcc:c'=c
   ·subst hcc;exact ⟨_,hc'⟩
   ·obtain ⟨w2,z2⟩:=I.cell y c' e
    exact ⟨w2,z2.sameBut hs hcc⟩
  ·obtain ⟨e,n,ne,nf,d⟩:=I.pin p hp
   refine ⟨(hs.2 p.1 ?_).trans e,n,ne,nf,d⟩
   intro q
   rw [q,hoc] at e
   have q':oc=p.2:=Option.some.inj e
   exact d w' (by rw [<- q'];exact hocd)
theorem II {M:Model} {A:Around} {E:Value->Shared->Prop} {i:Nat} {x:Str} {v:V} {u:Value} {Q:Unit->Shared->Prop} (I:Inv X pins σ H s) (hN:X.N.Nodup) (hi:X.N[i]? = some x) (hx:Loc X.env.scope x) (r:RelV v u)
 (h:∀ s',Inv X pins (σ.set i (some v)) H s'->Q () s') (hf:X.fn x=true\/X.env.scope.names.lookup x=some .local:=by first | exact .inl rfl | exact .inr rfl | assumption):wpAny M A (storeName X.env x u) Q E s :=
 KD I hN hi hx r (fun s' I' _=>h s' I') hf
theorem Inv.call' {s':Shared} {ch:List Addr} (I:Inv X pins σ H s) (ho:s'.os=s.os) (u:Un (frs X.stack) ch H H' s.heap s'.heap) (hok:HOk X.prog X.w H' s'.heap) (hg:AllBare s'.gens)
 (hch:∀ b∈ch,(b∈X.ex\/X.s₀.heap.objs.size<=b)/\b≠X.env.locals/\(∀ x c,X.env.cells.lookup x=some c->c≠b)/\∀ p∈X.pn++pins,p.1≠b):Inv X pins σ H' s':=by
 obtain ⟨h',g',d',t',o'⟩:=s'
 have e:o'=s.os:=ho
 subst e
 exact I.call (g':=g') (t':=t') (d':=d') u hok hg hch
end
noncomputable abbrev XK:=Value->Option Addr->Hp->Prop
noncomputable abbrev St:=List (Option V)
noncomputable abbrev VK:=V->Hp->Prop
noncomputable abbrev TE:=St->Hp->VK->Prop
noncomputable abbrev TT:=St->Hp->(Bool->Hp->Prop)->Prop
noncomputable abbrev TA:=St->Hp->(List V->Hp->Prop)->Prop
structure Ends where
 nx:St->Hp->Prop
 rt:VK
 bk:St->Hp->Prop:=fun _ _=>False
 ct:St->Hp->Prop:=fun _ _=>False
noncomputable abbrev TS:=Ends->St->Hp->Prop
noncomputable def EP (X:Cx) (pins:List (Addr × Obj)) (σ:St) (Q:VK) (u:Value) (s':Shared):Prop:=∃ v H',Inv X pins σ H' s'/\RelV v u/\Q v H'
noncomputable def TP (X:Cx) (pins:List (Addr × Obj)) (σ:St) (Q:Bool->Hp->Prop) (b:Bool) (s':Shared):Prop:=∃ H',Inv X pins σ H' s'/\Q b H'
noncomputable def AP (X:Cx) (pins:List (Addr × Obj)) (σ:St) (Q:List V->Hp->Prop) (us:List Value) (s':Shared):Prop:=∃ vs H',Inv X pins σ H' s'/\Vals vs us/\Q vs H'
noncomputable def SP (X:Cx) (pins:List (Addr × Obj)) (D:Ends) (f:Flow) (s':Shared):Prop :=
 match f with
 | .next=>∃ σ' H',Inv X pins σ' H' s'/\D.nx σ' H'
 | .brk=>∃ σ' H',Inv X pins σ' H' s'/\D.bk σ' H'
 | .cont=>∃ σ' H',Inv X pins σ' H' s'/\D.ct σ' H'
 | .ret u=>∃ v σ' H',Inv X pins σ' H' s'/\RelV v u/\D.rt v H'
noncomputable def PE (X:Cx) (e:Expr) (t:TE):Prop :=
 ∀ (pins:List (Addr × Obj)) (s:Shared) (σ:St) (H:Hp) (Q:VK),Inv X pins σ H s->t σ H Q->wpAny (model X.prog X.w) X.A (eval e X.env) (EP X pins σ Q) X.xe s
noncomputable def PT (X:Cx) (e:Expr) (t:TT):Prop :=
 ∀ (pins:List (Addr × Obj)) (s:Shared) (σ:St) (H:Hp) (Q:Bool->Hp->Prop),Inv X pins σ H s->t σ H Q->wpAny (model X.prog X.w) X.A (isTrue e X.env (eval e X.env)) (TP X pins σ Q) X.xe s
noncomputable def PW (X:Cx) (e:Expr) (t:TT):Prop :=
 ∀ (whole:Sem Value) (pins:List (Addr × Obj)) (s:Shared) (σ:St) (H:Hp) (Q:Bool->Hp->Prop),Inv X pins σ H s->t σ H Q->wpAny (model X.prog X.w) X.A (isTrue e X.env whole) (TP X pins σ Q) X.xe s
theorem PW.pt {X:Cx} {e:Expr} {t:TT} (h:PW X e t):PT X e t:=h _
noncomputable def PA (X:Cx) (es:List Expr) (t:TA):Prop :=
 ∀ (pos:Pos) (pins:List (Addr × Obj)) (s:Shared) (σ:St) (H:Hp) (Q:List V->Hp->Prop),Inv X pins σ H s->t σ H Q->wpAny (model X.prog X.w) X.A (spliced (backTo pos (starEach es X.env))) (AP X pins σ Q) X.xe s
noncomputable def PS (X:Cx) (st:Stmt) (t:TS):Prop :=
 ∀ (pins:List (Addr × Obj)) (s:Shared) (σ:St) (H:Hp) (D:Ends),Inv X pins σ H s->t D σ H->wpAny (model X.prog X.w) X.A (exec st X.env) (SP X pins D) X.xe s
noncomputable def PSs (X:Cx) (st:List Stmt) (t:TS):Prop :=
 ∀ (pins:List (Addr × Obj)) (s:Shared) (σ:St) (H:Hp) (D:Ends),Inv X pins σ H s->t D σ H->wpAny (model X.prog X.w) X.A (execs st X.env) (SP X pins D) X.xe s
theorem thn {α:Type} {t:Sem α} {Q Q':α->Shared->Prop} {M:Model} {A:Around} {E:Value->Shared->Prop} {s:Shared} (h:wpAny M A t Q E s) (hQ:∀ a s,Q a s->Q' a s):wpAny M A t Q' E s:=wpAny_mono h hQ fun _ _ x=>x
section
variable {X:Cx}
theorem bin {a b:Expr} {ta tb:TE} (ha:PE X a ta) (hb:PE X b tb) {pins:List (Addr × Obj)} {s:Shared} {σ:St} {H:Hp} {R:V->V->Hp->Prop} (I:Inv X pins σ H s) (h:ta σ H fun x H1=>tb σ H1 fun y H2=>R x y H2)
 {α:Type} {Q:α->Shared->Prop} {f:Value->Value->Sem α}
 (hf:∀ v u s2 x y H2,Inv X pins σ H2 s2->RelV x v->RelV y u->R x y H2->wpAny (model X.prog X.w) X.A (f v u) Q X.xe s2) :
 wpAny (model X.prog X.w) X.A (eval a X.env) (fun v s₁=>wpAny (model X.prog X.w) X.A (eval b X.env) (fun u s₂=>wpAny (model X.prog X.w) X.A (f v u) Q X.xe s₂) X.xe s₁) X.xe s:=by
 refine thn (ha pins s σ H _ I h) fun v s1 ⟨x,H1,I1,r1,q1⟩=>?_
 refine thn (hb pins s1 σ H1 _ I1 q1) fun u s2 ⟨y,H2,I2,r2,q2⟩=>?_
 exact hf v u s2 x y H2 I2 r1 r2 q2
noncomputable def Qm (i:Nat):TE:=fun σ H Q=>∃ v,σ[i]? = some (some v)/\Q v H
noncomputable def tC (v:V):TE:=fun _ H Q=>Q v H
theorem M0 {i:Nat} {x:Str} {pos:Pos} (hN:X.N[i]? = some x) (hv:Vis X.env.scope x) (hd:(x == ("__debug__" : Str))=false:=by decide) (hcd:(x == ("__classdict__" : Str))=false:=by decide):PE X (.Name x pos) (Qm i):=by
 intro pins s σ H Q I h
 obtain ⟨v,e,h⟩:=h
 obtain ⟨m,hn,hl⟩:=I.loc
 obtain ⟨u,r,l⟩:=hl i x v hN e hv
 have fin:EP X pins σ Q u s:=⟨v,H,I,r,h⟩
 rcases l with ⟨hk,hm⟩ | ⟨hk,c,hc,hcell⟩
 ·exact wpAny_Name (wpAny_loadName_local I.ok.kind hk hn hm fin) hd
 ·rcases hk with hk | hk
  ·exact wpAny_Name (wpAny_loadName_cell I.ok.kind hk hc hcell fin) hd
  ·exact wpAny_Name (wpAny_loadName_free I.ok.kind hk hc hcell fin hcd) hd
theorem AC {i j pos}:PE X (.Constant (.int i) j pos) (tC (.int i)):=fun _ _ _ H _ I h=>wpAny_Constant_int ⟨.int i,H,I.tok _,⟨_,rfl⟩,h⟩
theorem C0 {b j pos}:PE X (.Constant (.bool b) j pos) (tC (.bl b)):=fun _ _ _ H _ I h=>Constant_bool ⟨.bl b,H,I,rfl,h⟩
theorem Q7 {j pos}:PE X (.Constant .none j pos) (tC .non):=fun _ _ _ H _ I h=>Constant_none ⟨.non,H,I,rfl,h⟩
noncomputable def Gl (X:Cx) (x:Str):Prop:=X.env.kindOf x=some .globalImplicit
theorem OW {E:Value->Shared->Prop} {pins:List (Addr × Obj)} {s:Shared} {σ:St} {H:Hp} {x:Str} {u:Value} {pos:Pos} {Q:Value->Shared->Prop} (I:Inv X pins σ H s) (hg:Gl X x) (hm:X.mg x=some u) (h:Q u s)
 (hd:(x == ("__debug__" : Str))=false:=by decide):wpAny (model X.prog X.w) X.A (eval (.Name x pos) X.env) Q E s :=
 Calls.Name_function_global I.ok.kind hg (Calls.loadGlobal_global (by rw [I.ok.glob];exact I.mod.glob.keeps I.bk) hm h) hd
theorem Da {E:Value->Shared->Prop} {pins:List (Addr × Obj)} {s:Shared} {σ:St} {H:Hp} {x:Str} {u:Value} {pos:Pos} {Q:Value->Shared->Prop} (I:Inv X pins σ H s) (hg:Gl X x) (hm:X.mg x=none) (hv:bootBuiltins x=some u) (h:Q u s)
 (hn:x ≠ "__name__":=by decide) (hd:(x == ("__debug__" : Str))=false:=by decide):wpAny (model X.prog X.w) X.A (eval (.Name x pos) X.env) Q E s:=by
 obtain ⟨mb,h1,h2⟩:=I.mod.blt
 exact Calls.Name_function_global I.ok.kind hg (Calls.loadGlobal_builtin (by rw [I.ok.glob];exact I.mod.glob.keeps I.bk) hm (by rw [I.ok.blt];exact h1.keeps I.bk) ((h2 x hn).trans hv) h) hd
variable {a b:Expr} {ta tb:TE} {pos:Pos}
theorem HJ (b:Expr) {op:CmpOp} (h:op≠.In) (h2:op≠.NotIn):behindInMarks op b=false:=by
 have e1:(op == CmpOp.In)=false:=by cases op <;> first | rfl | exact absurd rfl h
 have e2:(op == CmpOp.NotIn)=false:=by cases op <;> first | rfl | exact absurd rfl h2
 cases b <;> simp [behindInMarks,e1,e2]
variable {tA tB':TT} {rest:List Expr}
noncomputable def Ib (t u:TT):TT:=fun σ H Q=>t σ H fun c H1=>if c=true then u σ H1 Q else Q false H1
noncomputable def tOr (t u:TT):TT:=fun σ H Q=>t σ H fun c H1=>if c=true then Q true H1 else u σ H1 Q
theorem KF (ha:PT X a tA):PW X (.BoolOp .And [a] pos) tA:=by
 intro wh pins s σ H Q I h
 refine isTrue_and (thn (ha pins s σ H Q I h) fun c s1 e=>?_)
 cases c with
 | true=>exact isTrue_and_nil e
 | false=>exact e
theorem Ir (ha:PT X a tA):PW X (.BoolOp .Or [a] pos) tA:=by
 intro wh pins s σ H Q I h
 refine isTrue_or (thn (ha pins s σ H Q I h) fun c s1 e=>?_)
 cases c with
 | false=>exact isTrue_or_nil e
 | true=>exact e
theorem Kc (ha:PT X a tA) (hb:PW X (.BoolOp .And (b::rest) pos) tB'):PW X (.BoolOp .And (a::b::rest) pos) (Ib tA tB'):=by
 intro wh pins s σ H Q I h
 refine isTrue_and (thn (ha pins s σ H _ I h) fun c s1 ⟨H1,I1,q1⟩=>?_)
 cases c with
 | true=>exact hb wh pins s1 σ H1 Q I1 q1
 | false=>exact ⟨H1,I1,q1⟩
theorem LH (ha:PT X a tA) (hb:PW X (.BoolOp .Or (b::rest) pos) tB'):PW X (.BoolOp .Or (a::b::rest) pos) (tOr tA tB'):=by
 intro wh pins s σ H Q I h
 refine isTrue_or (thn (ha pins s σ H _ I h) fun c s1 ⟨H1,I1,q1⟩=>?_)
 cases c with
 | true=>exact ⟨H1,I1,q1⟩
 | false=>exact hb wh pins s1 σ H1 Q I1 q1
noncomputable def NE (ta:TE):TE:=fun σ H Q=>ta σ H fun x H1=>∃ c,x=.bl c/\Q (.bl (!c)) H1
theorem Pq (ha:PE X a ta):PE X (.UnaryOp .Not a pos) (NE ta):=by
 intro pins s σ H Q I h
 refine UnaryOp_ (thn (ha pins s σ H _ I h) fun v s1 ⟨x,H1,I1,r1,q1⟩=>?_)
 obtain ⟨c,rfl,q1⟩:=q1
 cases r1
 exact not_of (wpAny_truthy_bool ⟨.bl (!c),H1,I1,rfl,q1⟩)
noncomputable def tIf (t:TT) (ta tb:TE):TE:=fun σ H Q=>t σ H fun c H1=>if c=true then ta σ H1 Q else tb σ H1 Q
theorem IX {c:Expr} (hc:PT X c tA) (ha:PE X a ta) (hb:PE X b tb):PE X (.IfExp c a b pos) (tIf tA ta tb):=by
 intro pins s σ H Q I h
 refine wpAny_IfExp (thn (hc pins s σ H _ I h) fun d s1 ⟨H1,I1,q1⟩=>?_)
 cases d with
 | true=>exact ha pins s1 σ H1 Q I1 q1
 | false=>exact hb pins s1 σ H1 Q I1 q1
end
noncomputable def SqL (K:W.Frag) (H:Hp) (a:Addr) (xs:List V):Prop :=
 Rd H a (.lst xs) \/
  ∃ (o:Obj) (its:Array Value) (n:Nat),K.lookup a=some o/\o.cls=.type "list" /\ o.dict=none/\o.data=.seq its n/\its.size<=sizeLine/\Vals xs its.toList
noncomputable def SqT (K:W.Frag) (H:Hp) (a:Addr) (xs:List V):Prop :=
 Rd H a (.tup xs) \/
  ∃ (o:Obj) (its:Array Value) (n:Nat),K.lookup a=some o/\o.cls=.type "tuple" /\ o.dict=none/\o.data=.seq its n/\its.size<=sizeLine/\Vals xs its.toList
noncomputable def Mi:Value->Option V
 | .none=>some .non
 | .bool b=>some (.bl b)
 | .int i _=>some (.int i)
 | .str x _=>some (.str x)
 | .bytes b _=>some (.byt b)
 | .float b _=>some (.flt b)
 | .ref a=>some (.ref a)
 | .type n=>some (.ty n)
 | _=>none
theorem RelV.abs {x:V} {u:Value} (r:RelV x u):Mi u=some x:=by
 cases x with
 | non=>cases r;rfl
 | bl _=>cases r;rfl
 | int _=>obtain ⟨t,rfl⟩:=r;rfl
 | str _=>obtain ⟨t,rfl⟩:=r;rfl
 | byt _=>obtain ⟨t,rfl⟩:=r;rfl
 | flt _=>obtain ⟨t,rfl⟩:=r;rfl
 | ref _=>cases r;rfl
 | ty _=>cases r;rfl
theorem RelV.inj {x y:V} {u:Value} (r:RelV x u) (q:RelV y u):x=y:=Option.some.inj (r.abs.symm.trans q.abs)
theorem Vals.inj:∀ {xs ys:List V} {us:List Value},Vals xs us->Vals ys us->xs=ys
 | _,_,_,.nil,.nil=>rfl
 | _,_,_,.cons r t,.cons r' t'=>by rw [r.inj r',Vals.inj t t']
section
variable {X:Cx} {pins:List (Addr × Obj)} {σ:St} {H:Hp} {s:Shared} {a:Addr} {xs ys:List V}
theorem SqL.of {K:W.Frag} (h:H a=some (.lst xs)):SqL K H a xs:=.inl (.inl h)
theorem SqT.of {K:W.Frag} (h:H a=some (.tup xs)):SqT K H a xs:=.inl (.inl h)
theorem Inv.list (I:Inv X pins σ H s) (h:SqL X.K H a xs):∃ its:List Value,Vals xs its/\PlainL s.heap a its.toArray/\xs.length<=sizeLine:=by
 rcases h with h | ⟨o,its,n,hk,hc,hd,hs,hz,r⟩
 ·obtain ⟨z,its,n,r,e⟩:=h.ok I.hok
  exact ⟨its,r,⟨_,n,e,rfl,rfl,rfl⟩,z⟩
 ·refine ⟨its.toList,r,⟨o,n,I.kIn a o hk,hc,hd,by simpa using hs⟩,?_⟩
  have e:=r.length
  simp only [Array.length_toList] at e
  lia
theorem Inv.tuple (I:Inv X pins σ H s) (h:SqT X.K H a xs):∃ its:List Value,Vals xs its/\IsTup s.heap a its.toArray/\xs.length<=sizeLine:=by
 rcases h with h | ⟨o,its,n,hk,hc,hdd,hs,hz,r⟩
 ·obtain ⟨z,its,r,p⟩:=h.ok I.hok
  exact ⟨its,r,p.tup,z⟩
 ·refine ⟨its.toList,r,⟨o,I.kIn a o hk,hc,n,by simpa using hs⟩,?_⟩
  have e:=r.length
  simp only [Array.length_toList] at e
  lia
theorem Inv.tupleN (I:Inv X pins σ H s) (h:SqT X.K H a xs):∃ its:List Value,Vals xs its/\IsTupN s.heap a its.toArray/\xs.length<=sizeLine:=by
 rcases h with h | ⟨o,its,n,hk,hc,hdd,hs,hz,r⟩
 ·obtain ⟨z,its,r,p⟩:=h.ok I.hok
  exact ⟨its,r,p,z⟩
 ·refine ⟨its.toList,r,⟨o,I.kIn a o hk,hc,⟨n,by simpa using hs⟩,hdd⟩,?_⟩
  have e:=r.length
  simp only [Array.length_toList] at e
  lia
theorem Inv.list_inj (I:Inv X pins σ H s) (h:SqL X.K H a xs) (h':SqL X.K H a ys):xs=ys:=by
 obtain ⟨its,r,⟨o,n,e,_,_,d⟩,_⟩:=I.list h
 obtain ⟨its',r',⟨o',n',e',_,_,d'⟩,_⟩:=I.list h'
 rw [e] at e';cases e'
 rw [d] at d'
 injection d' with d1 _
 have:its=its':=by simpa using congrArg Array.toList d1
 subst this
 exact r.inj r'
theorem Inv.tuple_inj (I:Inv X pins σ H s) (h:SqT X.K H a xs) (h':SqT X.K H a ys):xs=ys:=by
 obtain ⟨its,r,⟨o,e,_,n,d⟩,_⟩:=I.tuple h
 obtain ⟨its',r',⟨o',e',_,n',d'⟩,_⟩:=I.tuple h'
 rw [e] at e';cases e'
 rw [d] at d'
 injection d' with d1 _
 have:its=its':=by simpa using congrArg Array.toList d1
 subst this
 exact r.inj r'
end
noncomputable abbrev Cx.wish (X:Cx) (E:Value->Shared->Prop):Cx:={ X with xe:=E }
noncomputable abbrev Cx.nox (X:Cx):Cx:=X.wish fun _ _=>False
theorem Cx.Ok.wish {X:Cx} (ok:X.Ok) (E:Value->Shared->Prop):(X.wish E).Ok :=
 ⟨ok.mod,ok.kind,ok.glob,ok.blt,ok.above,ok.inj,ok.has,ok.cab,ok.hd,ok.frames,ok.stk,ok.exf,ok.bs,ok.bsz,ok.noex,ok.exfs,ok.funs,ok.frf⟩
theorem Cx.Ok.unwish {X:Cx} {E:Value->Shared->Prop} (ok:(X.wish E).Ok):X.Ok :=
 ⟨ok.mod,ok.kind,ok.glob,ok.blt,ok.above,ok.inj,ok.has,ok.cab,ok.hd,ok.frames,ok.stk,ok.exf,ok.bs,ok.bsz,ok.noex,ok.exfs,ok.funs,ok.frf⟩
section
variable {X:Cx} {pins:List (Addr × Obj)} {σ:St} {H:Hp} {s:Shared} {E:Value->Shared->Prop}
theorem Inv.wish (I:Inv X pins σ H s) (E:Value->Shared->Prop):Inv (X.wish E) pins σ H s:=⟨I.ok.wish E,I.os,I.bare,I.base,I.loc,I.cell,I.free,I.freeC,I.pin,I.hok,I.len⟩
theorem Inv.unwish (I:Inv (X.wish E) pins σ H s):Inv X pins σ H s:=⟨I.ok.unwish,I.os,I.bare,I.base,I.loc,I.cell,I.free,I.freeC,I.pin,I.hok,I.len⟩
theorem SP.unwish {D:Ends} {f:Flow} {s':Shared} (h:SP (X.wish E) pins D f s'):SP X pins D f s':=by
 cases f with
 | next=>obtain ⟨σ',H',I,q⟩:=h;exact ⟨σ',H',I.unwish,q⟩
 | brk=>obtain ⟨σ',H',I,q⟩:=h;exact ⟨σ',H',I.unwish,q⟩
 | cont=>obtain ⟨σ',H',I,q⟩:=h;exact ⟨σ',H',I.unwish,q⟩
 | ret u=>obtain ⟨v,σ',H',I,r,q⟩:=h;exact ⟨v,σ',H',I.unwish,r,q⟩
theorem PSs.nox {st:List Stmt} {t:TS} (h:PSs X.nox st t):PSs X st t:=fun pins s σ H D I hw =>
 wpAny_mono (h pins s σ H D (I.wish _) hw) (fun _ _ q=>q.unwish) fun _ _ z=>False.elim z
end
section
variable {X:Cx} {st:Stmt} {rest:List Stmt} {t u:TS} {e:Expr} {te:TE} {pos:Pos}
noncomputable def E7:TS:=fun D σ H=>D.nx σ H
noncomputable def GZ (t u:TS):TS:=fun D σ H=>t { D with nx:=u D } σ H
theorem Ax:PSs X [] E7:=fun _ _ σ H _ I h=>wpAny_execs_nil ⟨σ,H,I,h⟩
theorem AE (h1:PS X st t) (h2:PSs X rest u):PSs X (st::rest) (GZ t u):=by
 intro pins s σ H D I h
 refine wpAny_execs_cons (thn (h1 pins s σ H { D with nx:=u D } I h) fun f s1 q=>?_)
 cases f with
 | next =>
  obtain ⟨σ',H',I',q⟩:=q
  exact h2 pins s1 σ' H' D I' q
 | ret v=>exact q
 | brk=>exact q
 | cont=>exact q
theorem AL (h1:PS X st t):PSs X [st] t:=by
 intro pins s σ H D I h
 refine wpAny_execs_cons (thn (h1 pins s σ H D I h) fun f s1 q=>?_)
 cases f with
 | next=>exact wpAny_execs_nil q
 | ret v=>exact q
 | brk=>exact q
 | cont=>exact q
theorem Inv.quiet {pins:List (Addr × Obj)} {σ:St} {H:Hp} {s:Shared} (I:Inv X pins σ H s):interactive X.env=false:=by simp [interactive,I.ok.kind]
noncomputable def Jz (te:TE):TS:=fun D σ H=>te σ H fun _ H1=>D.nx σ H1
theorem QL (he:PE X e te) (hs:swapsWith e none pos.line X.env=pure false:=by rfl):PS X (.Expr e pos) (Jz te):=by
 intro pins s σ H D I h
 exact wpAny_Expr_any (thn (he pins s σ H _ I h) fun v s1 ⟨x,H1,I1,r1,q1⟩=>⟨σ,H1,I1,q1⟩) I.quiet hs
noncomputable def Ik (te:TE):TS:=fun D σ H=>te σ H D.rt
theorem AO (he:PE X e te):PS X (.Return (some e) pos) (Ik te):=by
 intro pins s σ H D I h
 exact wpAny_Return_some (thn (he pins s σ H _ I h) fun v s1 ⟨x,H1,I1,r1,q1⟩=>⟨x,σ,H1,I1,r1,q1⟩)
noncomputable def GA (c:TT) (t u:TS):TS:=fun D σ H=>c σ H fun b H1=>if b=true then t D σ H1 else u D σ H1
theorem Ay {c:Expr} {a b:List Stmt} {tc:TT} (hc:PT X c tc) (ha:PSs X a t) (hb:PSs X b u):PS X (.If c a b pos) (GA tc t u):=by
 intro pins s σ H D I h
 refine wpAny_If (thn (hc pins s σ H _ I h) fun d s1 ⟨H1,I1,q1⟩=>?_)
 cases d with
 | true=>exact ha pins s1 σ H1 D I1 q1
 | false=>exact hb pins s1 σ H1 D I1 q1
end
noncomputable abbrev TG:=V->St->Hp->(St->Hp->Prop)->Prop
noncomputable abbrev TGs:=List V->St->Hp->(St->Hp->Prop)->Prop
noncomputable def PG (X:Cx) (target:Expr) (t:TG):Prop :=
 ∀ (pins:List (Addr × Obj)) (s:Shared) (σ:St) (H:Hp) (v:V) (u:Value) (Q:St->Hp->Prop),Inv X pins σ H s->RelV v u->t v σ H Q ->
  wpAny (model X.prog X.w) X.A (assign target X.env u) (fun _ s'=>∃ σ' H',Inv X pins σ' H' s'/\Q σ' H') X.xe s
noncomputable def PGs (X:Cx) (ts:List Expr) (t:TGs):Prop :=
 ∀ (pins:List (Addr × Obj)) (s:Shared) (σ:St) (H:Hp) (vs:List V) (us:List Value) (Q:St->Hp->Prop),Inv X pins σ H s->Vals vs us->t vs σ H Q ->
  wpAny (model X.prog X.w) X.A (assignInOrder ((assignEach ts X.env).map (·.2)) us) (fun _ s'=>∃ σ' H',Inv X pins σ' H' s'/\Q σ' H') X.xe s
noncomputable abbrev EI:=V->V->V->Hp->(Hp->Prop)->Prop
noncomputable def GV (X:Cx) (t:EI):Prop :=
 ∀ (pins:List (Addr × Obj)) (s:Shared) (σ:St) (H:Hp) (o i v:V) (ov iv u:Value) (Q:Hp->Prop),Inv X pins σ H s->RelV o ov->RelV i iv->RelV v u->t o i v H Q ->
  wpAny (model X.prog X.w) X.A (setItem ov iv u) (fun _ s'=>∃ H',Inv X pins σ H' s'/\Q H') X.xe s
section
variable {X:Cx} {pos:Pos}
noncomputable def AQ (i:Nat):TG:=fun v σ H Q=>Q (σ.set i (some v)) H
theorem AN {i:Nat} {x:Str} (hN:X.N.Nodup) (hi:X.N[i]? = some x) (hx:Loc X.env.scope x) (hf:X.fn x=true\/X.env.scope.names.lookup x=some .local:=by first | exact .inl rfl | exact .inr rfl | assumption):PG X (.Name x pos) (AQ i):=by
 intro pins s σ H v u Q I r h
 exact wpAny_assign_Name (II I hN hi hx r (fun s' I'=>⟨_,H,I',h⟩) hf)
noncomputable def HB:TGs:=fun vs σ H Q=>vs=[]/\Q σ H
noncomputable def Gu (t:TG) (u:TGs):TGs:=fun vs σ H Q=>∃ v r,vs=v::r/\t v σ H fun σ' H'=>u r σ' H' Q
theorem Bw:PGs X [] HB:=by
 intro pins s σ H vs us Q I r h
 obtain ⟨e,h⟩:=h
 subst e
 cases r
 exact assignInOrder_nil ⟨σ,H,I,h⟩
theorem A1 {e:Expr} {es:List Expr} {t:TG} {u:TGs} (h1:PG X e t) (h2:PGs X es u)
 (hs:(assignEach (e::es) X.env).map (·.2)=assign e X.env::(assignEach es X.env).map (·.2):=by rfl):PGs X (e::es) (Gu t u):=by
 intro pins s σ H vs us Q I r h
 obtain ⟨v,vr,e1,h⟩:=h
 subst e1
 cases r with
 | cons r rr =>
  rw [hs]
  refine assignInOrder_cons (thn (h1 pins s σ H _ _ _ I r h) fun _ s1 ⟨σ1,H1,I1,q1⟩=>?_)
  exact h2 pins s1 σ1 H1 _ _ Q I1 rr q1
noncomputable def GG (K:W.Frag) (n:Nat) (t:TGs):TG:=fun v σ H Q=>∃ a xs,v=.ref a/\SqT K H a xs/\xs.length=n/\t xs σ H Q
theorem JW {es:List Expr} {k:Nat} {t:TGs} {n:Nat} (hc:X.calm=true) (h:PGs X es t)
 (hn:(assignEach es X.env).length=n:=by rfl) (hst:(assignEach es X.env).findIdx? (·.1)=none:=by rfl):PG X (.Tuple es k pos) (GG X.K n t):=by
 intro pins s σ H v u Q I r hw
 obtain ⟨a,xs,e1,hq,hl,hw⟩:=hw
 subst e1
 cases r
 obtain ⟨its,rv,ht,hz⟩:=I.tuple hq
 refine assign_Tuple_tuple (I.ok.hd hc) ht (by simp [hn,<- hl,rv.length]) hst fun h' hx=>?_
 have I1:Inv X pins σ H { s with heap:=h' }:=I.kept (t':=s.toks) fun b o e=>hx b o (Nat.ne_of_lt (Heap.lt_size e)) e
 exact h pins _ σ H xs _ Q I1 (by simpa using rv) hw
noncomputable def Hz (to ti:TE) (t:EI):TG:=fun v σ H Q=>to σ H fun o H1=>ti σ H1 fun i H2=>t o i v H2 fun H3=>Q σ H3
theorem Cd {o i:Expr} {to ti:TE} {t:EI} (ho:PE X o to) (hi:PE X i ti) (hs:GV X t)
 (ha:∀ v,assign (.Subscript o i pos) X.env v=(do
   let ov <- holding [v] (eval o X.env)
   let iv <- holding [v,ov] (eval i X.env)
   standAt pos
   holding [v,ov,iv] (setItem ov iv v)
   release [v,ov,iv] []):=by intro _;rfl):PG X (.Subscript o i pos) (Hz to ti t):=by
 intro pins s σ H v u Q I r h
 rw [ha]
 refine wpAny_bind (wpAny_holding (thn (ho pins s σ H _ I h) fun ov s1 ⟨x,H1,I1,r1,q1⟩=>?_))
 refine wpAny_bind (wpAny_holding (thn (hi pins s1 σ H1 _ I1 q1) fun iv s2 ⟨y,H2,I2,r2,q2⟩=>?_))
 refine wpAny_bind (wpAny_standAt (wpAny_bind (wpAny_holding (thn (hs pins s2 σ H2 x y v ov iv u _ I2 r1 r2 r q2) fun _ s3 ⟨H3,I3,q3⟩=>?_))))
 exact wpAny_release ⟨σ,H3,I3,q3⟩
noncomputable def Eb (te:TE) (g:TG):TS:=fun D σ H=>te σ H fun x H1=>g x σ H1 D.nx
theorem CN {tg e:Expr} {te:TE} {g:TG} (he:PE X e te) (hg:PG X tg g) (hs:swapsWithSole [tg] e pos.line X.env=pure false:=by rfl) (hw:swappedStores [tg] e X.env=pure none:=by rfl)
 (h1:(assignEach [tg] X.env).map (·.2)=[assign tg X.env]:=by rfl):PS X (.Assign [tg] e pos) (Eb te g):=by
 intro pins s σ H D I h
 refine wpAny_Assign_stores (thn (he pins s σ H _ I h) fun v s1 ⟨x,H1,I1,r1,q1⟩=>?_) hs hw
 rw [h1]
 exact thn (hg pins s1 σ H1 x v _ I1 r1 q1) fun _ s2 q=>q
theorem AI {i:Nat} {x:Str} {e:Expr} {te:TE} {pos':Pos} (hN:X.N.Nodup) (hi:X.N[i]? = some x) (hx:Loc X.env.scope x) (he:PE X e te) (hs:swapsWith e (some (.Name x pos')) pos.line X.env=pure false:=by rfl) (hf:X.fn x=true\/X.env.scope.names.lookup x=some .local:=by first | exact .inl rfl | exact .inr rfl | assumption) :
 PS X (.Assign [.Name x pos'] e pos) (Eb te (AQ i)):=by
 intro pins s σ H D I h
 refine wpAny_Assign_Name (thn (he pins s σ H _ I h) fun v s1 ⟨y,H1,I1,r1,q1⟩=>?_) hs
 exact II I1 hN hi hx r1 (fun s2 I2=>⟨_,H1,I2,q1⟩) hf
end
section
variable {X:Cx} {pos:Pos}
end
structure It where
 go:Nat->Hp->Prop
 yld:Nat->Hp->V->Hp->Prop
 stop:Nat->Hp->Prop
noncomputable def BZ (X:Cx) (pins:List (Addr × Obj)) (H:Hp) (b:Addr):Prop :=
 H b=none/\b≠X.env.locals/\b∉X.fs/\(b∈X.ex\/X.s₀.heap.objs.size<=b)/\(∀ x c,X.env.cells.lookup x=some c->c≠b)/\∀ p∈X.pn++pins,p.1≠b
theorem Inv.fpOk {X:Cx} {pins:List (Addr × Obj)} {σ:St} {H H':Hp} {s:Shared} {b:Addr} (I:Inv X pins σ H s) (hb:s.heap.objs.size<=b) (hn:H' b=none):BZ X pins H' b:=by
 refine ⟨hn,Nat.ne_of_gt (Nat.lt_of_lt_of_le I.lt hb),I.nofs hb,.inr (Nat.le_trans I.sz hb),fun x c e z=>?_,fun p hp z=>?_⟩
 ·obtain ⟨v,q⟩:=I.cell x c e
  exact absurd (Nat.lt_of_lt_of_le q.lt (by rw [z];exact hb)) (Nat.lt_irrefl _)
 ·exact absurd (Nat.lt_of_lt_of_le (Heap.lt_size (I.pin p hp).1) (by rw [z];exact hb)) (Nat.lt_irrefl _)
structure Turn (P:Program) (w:World) (K:W.Frag) (tg:Expr) (J:It) (fp:List Addr) (it:Addr) (tn:Nat->Heap->Prop):Prop where
 mem:it∈fp
 obj:∀ i h,tn i h->∀ b∈fp,∃ o,h.get? b=some o/\∀ v,o.data≠.cell v
 keep:∀ i h h',tn i h->(∀ b∈fp,∀ o,h.get? b=some o->h'.get? b=some o)->tn i h'
 item:∀ (X:Cx),X.prog=P->X.w=w->X.K=K->X.calm=true->∀ (i:Nat) (pins:List (Addr × Obj)) (s:Shared) (σ:St) (H:Hp) (E:Value->Shared->Prop),Inv X pins σ H s->(∀ b∈fp,BZ X pins H b)->tn i s.heap->J.go i H ->
  wpAny (model P w) X.A (pyNext (.ref it)) (fun r s1=>∃ u,r=some u /\
   wpAny (model P w) X.A (letOwnedTupleGo tg (.ref it) u) (fun _ s2=>∃ x H',Inv X pins σ H' s2/\RelV x u/\J.yld i H x H'/\tn (i+1) s2.heap/\∀ b∈fp,H' b=none) E s1) E s
 done:∀ (X:Cx),X.prog=P->X.w=w->X.K=K->X.calm=true->∀ (i:Nat) (pins:List (Addr × Obj)) (s:Shared) (σ:St) (H:Hp) (E:Value->Shared->Prop),Inv X pins σ H s->(∀ b∈fp,BZ X pins H b)->tn i s.heap->J.stop i H ->
  wpAny (model P w) X.A (pyNext (.ref it)) (fun r s1=>r=none/\Inv X pins σ H s1) E s
 self:∀ (A:Around) (i:Nat) (s:Shared) (Q:Value->Shared->Prop) (E:Value->Shared->Prop),tn i s.heap->Q (.ref it) s->wpAny (model P w) A (pyIter (.ref it)) Q E s
noncomputable abbrev TI:=St->Hp->(It->Hp->Prop)->Prop
noncomputable def PIE (X:Cx) (pins:List (Addr × Obj)) (σ:St) (tg:Expr) (R:It->Hp->Prop) (itv:Value) (s2:Shared):Prop :=
 ∃ (it:Addr) (fp:List Addr) (tn:Nat->Heap->Prop) (J:It) (H':Hp),itv=.ref it/\Inv X pins σ H' s2/\Turn X.prog X.w X.K tg J fp it tn/\tn 0 s2.heap/\(∀ b∈fp,BZ X pins H' b)/\R J H'
noncomputable def PI (X:Cx) (tg iter:Expr) (wi:TI):Prop :=
 ∀ (pins:List (Addr × Obj)) (s:Shared) (σ:St) (H:Hp) (R:It->Hp->Prop),Inv X pins σ H s->wi σ H R ->
  wpAny (model X.prog X.w) X.A (eval iter X.env) (fun v s1=>wpAny (model X.prog X.w) X.A (pyIter v) (PIE X pins σ tg R) X.xe s1) X.xe s
theorem Ho {M:Model} {A:Around} {E:Value->Shared->Prop} {s:Shared} {tg:Expr} {it:Addr} {u:Value} {o:Obj} {n:String} {vs:Array Value} {Q:Unit->Shared->Prop} (ho:s.heap.get? it=some o) (hc:o.cls=.type n) (hd:o.data=.fields vs)
 (hn:["enumerate","zip","dict_itemiterator","dict_reverseitemiterator","odict_iterator","itertools.zip_longest","itertools.pairwise"].contains n=false) (hQ:Q () s):wpAny M A (letOwnedTupleGo tg (.ref it) u) Q E s:=by
 unfold letOwnedTupleGo
 cases tg <;> first
  | exact wpAny_pure hQ
  | (cases u <;> first
      | exact wpAny_pure hQ
      | (refine wpAny_bind (wpAny_load ho ?_)
         rw [hc,hd]
         show wpAny M A (if (["enumerate","zip","dict_itemiterator","dict_reverseitemiterator","odict_iterator","itertools.zip_longest","itertools.pairwise"].contains n && vs[0]? == some (rawInt _))=true then _ else _) Q E s
         rw [if_neg (by intro h;rw [hn,Bool.false_and] at h;cases h)]
         exact wpAny_pure hQ))
noncomputable def Itl (K:W.Frag) (a:Addr):It :=
 ⟨fun i H=>∃ xs x,SqL K H a xs/\xs[i]? = some x,fun i H x H'=>H'=H/\∀ xs,SqL K H a xs->xs[i]? = some x,fun i H=>∃ xs,SqL K H a xs/\xs.length<=i⟩
noncomputable def Itt (K:W.Frag) (a:Addr):It :=
 ⟨fun i H=>∃ xs x,SqT K H a xs/\xs[i]? = some x,fun i H x H'=>H'=H/\∀ xs,SqT K H a xs->xs[i]? = some x,fun i H=>∃ xs,SqT K H a xs/\xs.length<=i⟩
noncomputable def Itr (lo:Int) (n:Nat):It:=⟨fun i _=>i < n,fun i H x H'=>H'=H/\x=.int (lo+i),fun i _=>n<=i⟩
theorem Pg {P:Program} {w:World} {K:W.Frag} {tg:Expr} (a it:Addr):Turn P w K tg (Itl K a) [it] it (fun i h=>h.IsListIter it a i) where
 mem:=by simp
 obj:=fun i h st b hb=>by
  have e:b=it:=by simpa using hb
  subst e
  obtain ⟨o,e,c,d⟩:=st
  exact ⟨o,e,fun v z=>by rw [d] at z;cases z⟩
 keep:=fun i h h' st k=>st.at fun o e=>k it (by simp) o e
 item:=by
  intro X hP hw hK hc i pins s σ H E I hf st hg
  subst hP hw hK
  obtain ⟨xs,x,hq,hx⟩:=hg
  obtain ⟨its,rv,p,hz⟩:=I.list hq
  obtain ⟨u,hu,ru⟩:=rv.get hx
  obtain ⟨f0,f1,f2,f3,f4,f5⟩:=hf it (by simp)
  refine wpAny_pyNext_list_item st p.isList (x:=u) (by simpa using hu) fun h' st' sb=>?_
  have I1:Inv X pins σ H { s with heap:=h' }:=I.turned (t':=s.toks) (fun b o hb e=>(sb.2 b hb).trans e) f0 f1 f3 f4 f5
  obtain ⟨o,e,c,d⟩:=id st'
  exact ⟨u,rfl,Ho (s:={ s with heap:=h' }) e c d (by decide) ⟨x,H,I1,ru,⟨rfl,fun ys hy=>by rw [I.list_inj hy hq];exact hx⟩,st',fun b hb=>(hf b hb).1⟩⟩
 done:=by
  intro X hP hw hK hc i pins s σ H E I hf st hg
  subst hP hw hK
  obtain ⟨xs,hq,hx⟩:=hg
  obtain ⟨its,rv,p,hz⟩:=I.list hq
  obtain ⟨f0,f1,f2,f3,f4,f5⟩:=hf it (by simp)
  have hl:=rv.length
  exact wpAny_pyNext_list_end (I.ok.hd hc) st p.isList (by simp;lia) fun h' eb=>⟨rfl,I.turned (t':=s.toks) (fun b o hb e=>eb b o hb e) f0 f1 f3 f4 f5⟩
 self:=fun _ _ _ _ _ st h=>wpAny_pyIter_listiter st h
theorem Pz {P:Program} {w:World} {K:W.Frag} {tg:Expr} (a it:Addr):Turn P w K tg (Itt K a) [it] it (fun i h=>h.IsTupleIter it a i) where
 mem:=by simp
 obj:=fun i h st b hb=>by
  have e:b=it:=by simpa using hb
  subst e
  obtain ⟨o,e,c,d⟩:=st
  exact ⟨o,e,fun v z=>by rw [d] at z;cases z⟩
 keep:=fun i h h' st k=>st.at fun o e=>k it (by simp) o e
 item:=by
  intro X hP hw hK hc i pins s σ H E I hf st hg
  subst hP hw hK
  obtain ⟨xs,x,hq,hx⟩:=hg
  obtain ⟨its,rv,p,hz⟩:=I.tuple hq
  obtain ⟨u,hu,ru⟩:=rv.get hx
  obtain ⟨f0,f1,f2,f3,f4,f5⟩:=hf it (by simp)
  refine wpAny_pyNext_tuple_item st (show s.heap.IsTuple a its.toArray from p) (x:=u) (by simpa using hu) fun h' st' sb=>?_
  have I1:Inv X pins σ H { s with heap:=h' }:=I.turned (t':=s.toks) (fun b o hb e=>(sb.2 b hb).trans e) f0 f1 f3 f4 f5
  obtain ⟨o,e,c,d⟩:=id st'
  exact ⟨u,rfl,Ho (s:={ s with heap:=h' }) e c d (by decide) ⟨x,H,I1,ru,⟨rfl,fun ys hy=>by rw [I.tuple_inj hy hq];exact hx⟩,st',fun b hb=>(hf b hb).1⟩⟩
 done:=by
  intro X hP hw hK hc i pins s σ H E I hf st hg
  subst hP hw hK
  obtain ⟨xs,hq,hx⟩:=hg
  obtain ⟨its,rv,p,hz⟩:=I.tuple hq
  obtain ⟨f0,f1,f2,f3,f4,f5⟩:=hf it (by simp)
  have hl:=rv.length
  exact wpAny_pyNext_tuple_end (I.ok.hd hc) st (show s.heap.IsTuple a its.toArray from p) (by simp;lia) fun h' eb=>⟨rfl,I.turned (t':=s.toks) (fun b o hb e=>eb b o hb e) f0 f1 f3 f4 f5⟩
 self:=fun _ _ _ _ _ st h=>wpAny_pyIter_tupleiter st h
theorem O9 {P:Program} {w:World} {K:W.Frag} {tg:Expr} (it:Addr) (lo:Int) (n:Nat):Turn P w K tg (Itr lo n) [it] it (fun i h=>IsRangeIter h it (lo+(i:Nat) * 1) ((n:Int) - (i:Nat)) 1) where
 mem:=by simp
 obj:=fun i h st b hb=>by
  have e:b=it:=by simpa using hb
  subst e
  exact ⟨_,st,fun v z=>by
   have z':Data.fields _=Data.cell v:=z
   cases z'⟩
 keep:=fun i h h' st k=>k it (by simp) _ st
 item:=by
  intro X hP hw hK hc i pins s σ H E I hf st hg
  subst hP hw hK
  obtain ⟨f0,f1,f2,f3,f4,f5⟩:=hf it (by simp)
  have W:=Walks.range (prog:=X.prog) (w:=X.w) (I.ok.hd hc) it lo 1 n
  refine W.item i s _ _ hg st fun v h' tk hv st' kk=>?_
  obtain ⟨t,rfl⟩:=hv
  have I1:Inv X pins σ H { s with heap:=h',toks:=tk }:=I.turned (fun b o hb e=>kk b o (by simpa using hb) e) f0 f1 f3 f4 f5
  refine ⟨_,rfl,Ho (s:={ s with heap:=h',toks:=tk }) (n:="range_iterator") st' rfl rfl (by decide) ⟨.int (lo+i),H,I1,⟨t,?_⟩,⟨rfl,rfl⟩,st',fun b hb=>(hf b hb).1⟩⟩
  rw [Int.mul_one]
 done:=by
  intro X hP hw hK hc i pins s σ H E I hf st hg
  subst hP hw hK
  obtain ⟨f0,f1,f2,f3,f4,f5⟩:=hf it (by simp)
  exact wpAny_pyNext_range_end (I.ok.hd hc) st (by have:n<=i:=hg;lia) fun h' eb=>⟨rfl,I.turned (t':=s.toks) (fun b o hb e=>eb b o hb e) f0 f1 f3 f4 f5⟩
 self:=fun _ _ _ _ _ st h=>wpAny_pyIter_rangeiter st h
section
variable {X:Cx} {tg:Expr}
theorem QW {pins:List (Addr × Obj)} {σ:St} {H:Hp} {s:Shared} {R:It->Hp->Prop} {E:Value->Shared->Prop} {lo hi:Int} {t u v:Tok} {tk:Nat} (I:Inv X pins σ H s) (h1 : -(2 ^ 62)<=lo) (h2:lo < 2 ^ 62) (h3 : -(2 ^ 62)<=hi) (h4:hi < 2 ^ 62)
 (q:R (Itr lo (hi - lo).toNat) H):wpAny (model X.prog X.w) X.A (pyIter (.ref s.heap.objs.size)) (PIE X pins σ tg R) E { s with heap:=s.heap.push { cls:=.type "range",data:=.fields #[.int lo t,.int hi u,.int 1 v] },toks:=tk }:=by
 refine wpAny_pyIter_range (IsRange.new ..) (small_one h1 h2 h3 h4) ?_
 have I1:Inv X pins σ H { s with heap:=s.heap.push { cls:=.type "range",data:=.fields #[.int lo t,.int hi u,.int 1 v] },toks:=tk }:=I.kept fun b o e=>Heap.get?_push_of_some _ e
 refine ⟨(s.heap.push { cls:=.type "range",data:=.fields #[.int lo t,.int hi u,.int 1 v] }).objs.size,[(s.heap.push { cls:=.type "range",data:=.fields #[.int lo t,.int hi u,.int 1 v] }).objs.size],_,_,H,rfl,
  I1.kept (t':=tk) fun b o e=>Heap.get?_push_of_some _ e,O9 _ lo (hi - lo).toNat,?_,fun b hb=>?_,q⟩
 ·have e1:lo+((0:Nat):Int) * 1=lo:=by simp
  have e2:(((hi - lo).toNat:Nat):Int) - ((0:Nat):Int)=Builtin.Range.rangeSize lo hi 1:=by rw [rangeSize_one];split <;> lia
  show IsRangeIter _ _ (lo+((0:Nat):Int) * 1) ((((hi - lo).toNat:Nat):Int) - ((0:Nat):Int)) 1
  rw [e1,e2]
  exact Heap.get?_push_size _ rfl
 ·have e:b=(s.heap.push { cls:=.type "range",data:=.fields #[.int lo t,.int hi u,.int 1 v] }).objs.size:=by simpa using hb
  subst e
  exact I1.fpOk (Nat.le_refl _) (I1.hok.fresh (Nat.le_refl _))
noncomputable def Jn (ta:TA):TI:=fun σ H R=>ta σ H fun vs H1=>∃ j:Int,vs=[.int j] /\ -(2 ^ 62)<=j/\j < 2 ^ 62/\R (Itr 0 j.toNat) H1
theorem A9 {a:Expr} {ta:TA} {p pos:Pos} (hg:Gl X "range") (hm:X.mg "range" = none) (ha:PA X [a] ta) (hs:starEach [a] X.env=[(false,eval a X.env)]:=by rfl):PI X tg (.Call (.Name "range" p) [a] [] pos) (Jn ta):=by
 intro pins s σ H R I h
 refine Call_ (Da I hg hm boot_range (PyProof.Rows.callWith_type1 (thn (ha pos pins s σ H _ I h) fun us s1 ⟨vs,H1,I1,r1,q1⟩=>?_) hs rfl))
 obtain ⟨j,e,q1,q2,q⟩:=q1
 subst e
 cases r1 with
 | cons r rr =>
  cases rr
  obtain ⟨t,rfl⟩:=r
  exact call_range_1 (QW I1 (by lia) (by lia) q1 q2 (by simpa using q))
noncomputable def Ko (wi:TI) (g:TG) (tb:TS):TS:=fun D σ H=>wi σ H fun J H1=>∃ W:Nat->Nat->St->Hp->Prop,(∃ m,W 0 m σ H1)/\∀ i m σ H,W i m σ H ->
 (J.stop i H/\D.nx σ H)\/(J.go i H/\∃ N:St->Hp->Prop,(∀ σ' H',N σ' H'->∃ m',m' < m/\W (i+1) m' σ' H')/\∀ x H',J.yld i H x H'->g x σ H' fun σ2 H2=>tb { D with nx:=N,ct:=N,bk:=D.nx } σ2 H2)
noncomputable def Bn (fp:List Addr) (h:Heap):List (Addr × Obj):=fp.filterMap fun b=>(h.get? b).map fun o=>(b,o)
theorem DU {fp:List Addr} {h:Heap} {b:Addr} {o:Obj} (hb:b∈fp) (e:h.get? b=some o):(b,o)∈Bn fp h:=List.mem_filterMap.mpr ⟨b,hb,by rw [e];rfl⟩
theorem Gm {fp:List Addr} {h:Heap} {p:Addr × Obj} (hp:p∈Bn fp h):p.1∈fp/\h.get? p.1=some p.2:=by
 obtain ⟨b,hb,e⟩:=List.mem_filterMap.mp hp
 cases q:h.get? b with
 | none=>rw [q] at e;cases e
 | some o =>
  rw [q] at e
  have e':(b,o)=p:=Option.some.inj e
  subst e'
  exact ⟨hb,q⟩
theorem Inv.pinned {pins:List (Addr × Obj)} {σ:St} {H:Hp} {s:Shared} {fp:List Addr} (I:Inv X pins σ H s) (hf:∀ b∈fp,BZ X pins H b) (ho:∀ b∈fp,∃ o,s.heap.get? b=some o/\∀ v,o.data≠.cell v):Inv X (pins++Bn fp s.heap) σ H s :=
 I.pins_of fun p hp=>(List.mem_append.mp hp).elim (fun z=>I.pin p (List.mem_append_right _ z)) fun z=>by
  obtain ⟨hb,e⟩:=Gm z
  obtain ⟨f0,f1,f2,_⟩:=hf p.1 hb
  obtain ⟨o,e',d⟩:=ho p.1 hb
  rw [e] at e';cases e'
  exact ⟨e,f0,f1,f2,d⟩
theorem Inv.unpinned {pins pl:List (Addr × Obj)} {σ:St} {H:Hp} {s:Shared} (I:Inv X (pins++pl) σ H s):Inv X pins σ H s:=I.pins_of fun p hp=>I.pin p (List.mem_append_right _ (List.mem_append_left _ hp))
theorem Bm {iter:Expr} {body:List Stmt} {wi:TI} {g:TG} {tb:TS} {pos:Pos} (hp:PassesOwn (model X.prog X.w) X.A X.env X.xe) (hc:X.calm=true) (hi:PI X tg iter wi) (hg:PG X tg g) (hb:PSs X body tb)
 (hs:∀ x,foldedSetIterable iter X.env x=pure x:=by intro _;rfl):PS X (.For tg iter body [] pos) (Ko wi g tb):=by
 intro pins s σ H D I h
 refine wpAny_For (thn (hi pins s σ H _ I h) fun v s1 h1=>thn h1 fun itv s2 h2=>?_) hs
 obtain ⟨it,fp,tn,J,H2,e,I2,T,st2,f2,W,⟨m0,w0⟩,turn⟩:=h2
 subst e
 -- what stays true of the iterator's objects through the loop
 have stat:∀ {H':Hp},(∀ b∈fp,H' b=none)->∀ b∈fp,BZ X pins H' b:=fun hn b hb=>⟨hn b hb,(f2 b hb).2⟩
 refine codeAny_forLoop_any (fun n s'=>∃ i σ' H',Inv X pins σ' H' s'/\tn i s'.heap/\(∀ b∈fp,H' b=none)/\W i n σ' H') ?_ m0 ⟨0,σ,H2,I2,st2,fun b hb=>(f2 b hb).1,w0⟩
 rintro n s3 ⟨i,σ3,H3,I3,st3,fr3,w3⟩
 rcases turn i n σ3 H3 w3 with ⟨stop,qn⟩ | ⟨go,N,hN,step⟩
 ·refine wpAny_passesOwn hp (thn (T.done X rfl rfl rfl hc i pins s3 σ3 H3 X.xe I3 (stat fr3) st3 stop) fun r s4 ⟨hr,I4⟩=>?_)
  subst hr
  exact wpAny_execs_nil ⟨σ3,H3,I4,qn⟩
 ·refine wpAny_passesOwn hp (thn (T.item X rfl rfl rfl hc i pins s3 σ3 H3 X.xe I3 (stat fr3) st3 go) fun r s4 ⟨u,hr,h4⟩=>?_)
  subst hr
  refine wpAny_passesOwn hp (thn h4 fun _ s5 ⟨x,H5,I5,r5,y5,st5,fr5⟩=>?_)
  have I5':=I5.pinned (stat fr5) (T.obj _ _ st5)
  refine wpAny_passesOwn hp (thn (hg _ s5 σ3 H5 x u _ I5' r5 (step x H5 y5)) fun _ s6 ⟨σ6,H6,I6,q6⟩=>?_)
  refine wpAny_passesOwn hp (thn (hb _ s6 σ6 H6 _ I6 q6) fun f s7 q7=>?_)
  have again:∀ {σ7:St} {H7:Hp},Inv X (pins++Bn fp s5.heap) σ7 H7 s7->N σ7 H7->∃ m,m < n/\∃ i σ' H',Inv X pins σ' H' s7/\tn i s7.heap/\(∀ b∈fp,H' b=none)/\W i m σ' H':=fun {σ7 H7} I7 n7=>by
   obtain ⟨m',hm,w7⟩:=hN σ7 H7 n7
   refine ⟨m',hm,i+1,σ7,H7,I7.unpinned,T.keep _ _ _ st5 fun b hb o e=>(I7.pin (b,o) (List.mem_append_right _ (List.mem_append_right _ (DU hb e)))).1,fun b hb=>?_,w7⟩
   obtain ⟨o,e,d⟩:=T.obj _ _ st5 b hb
   exact (I7.pin (b,o) (List.mem_append_right _ (List.mem_append_right _ (DU hb e)))).2.1
  cases f with
  | next=>obtain ⟨σ7,H7,I7,n7⟩:=q7;exact again I7 n7
  | cont=>obtain ⟨σ7,H7,I7,n7⟩:=q7;exact again I7 n7
  | brk=>obtain ⟨σ7,H7,I7,q7⟩:=q7;exact ⟨σ7,H7,I7.unpinned,q7⟩
  | ret v=>obtain ⟨x7,σ7,H7,I7,r7,q7⟩:=q7;exact ⟨x7,σ7,H7,I7.unpinned,r7,q7⟩
end
theorem FE {K:W.Frag} {a:Addr} {xs:List V} {g:TG} {tb:TS} {D:Ends} {σ:St} {H:Hp} (Pv:Nat->St->Hp->Prop) (h0:Pv 0 σ H) (hl:∀ i σ H,i<=xs.length->Pv i σ H->SqL K H a xs)
 (hs:∀ i x σ H,xs[i]? = some x->Pv i σ H->g x σ H fun σ2 H2=>tb { D with nx:=Pv (i+1),ct:=Pv (i+1),bk:=D.nx } σ2 H2) (hd:∀ σ H,Pv xs.length σ H->D.nx σ H) :
 ∃ W:Nat->Nat->St->Hp->Prop,(∃ m,W 0 m σ H)/\∀ i m σ H,W i m σ H ->
  ((Itl K a).stop i H/\D.nx σ H)\/((Itl K a).go i H/\∃ N:St->Hp->Prop,(∀ σ' H',N σ' H'->∃ m',m' < m/\W (i+1) m' σ' H')/\∀ x H',(Itl K a).yld i H x H'->g x σ H' fun σ2 H2=>tb { D with nx:=N,ct:=N,bk:=D.nx } σ2 H2):=by
 refine ⟨fun i m σ H=>m=xs.length - i/\i<=xs.length/\Pv i σ H,⟨xs.length,by simp,Nat.zero_le _,h0⟩,?_⟩
 rintro i m σ H ⟨rfl,hi,p⟩
 have q:=hl i σ H hi p
 by_cases hlt:i < xs.length
 ·refine .inr ⟨⟨xs,xs[i],q,by simp [hlt]⟩,Pv (i+1),fun σ' H' p'=>⟨xs.length - (i+1),by lia,rfl,hlt,p'⟩,fun x H' y=>?_⟩
  obtain ⟨e,y⟩:=y
  subst e
  exact hs i x σ _ (y xs q) p
 ·have e:i=xs.length:=by lia
  subst e
  exact .inl ⟨⟨xs,q,Nat.le_refl _⟩,hd σ H p⟩
theorem Jm {K:W.Frag} {a:Addr} {xs:List V} {g:TG} {tb:TS} {D:Ends} {σ:St} {H:Hp} (Pv:Nat->St->Hp->Prop) (h0:Pv 0 σ H) (hl:∀ i σ H,i<=xs.length->Pv i σ H->SqT K H a xs)
 (hs:∀ i x σ H,xs[i]? = some x->Pv i σ H->g x σ H fun σ2 H2=>tb { D with nx:=Pv (i+1),ct:=Pv (i+1),bk:=D.nx } σ2 H2) (hd:∀ σ H,Pv xs.length σ H->D.nx σ H) :
 ∃ W:Nat->Nat->St->Hp->Prop,(∃ m,W 0 m σ H)/\∀ i m σ H,W i m σ H ->
  ((Itt K a).stop i H/\D.nx σ H)\/((Itt K a).go i H/\∃ N:St->Hp->Prop,(∀ σ' H',N σ' H'->∃ m',m' < m/\W (i+1) m' σ' H')/\∀ x H',(Itt K a).yld i H x H'->g x σ H' fun σ2 H2=>tb { D with nx:=N,ct:=N,bk:=D.nx } σ2 H2):=by
 refine ⟨fun i m σ H=>m=xs.length - i/\i<=xs.length/\Pv i σ H,⟨xs.length,by simp,Nat.zero_le _,h0⟩,?_⟩
 rintro i m σ H ⟨rfl,hi,p⟩
 have q:=hl i σ H hi p
 by_cases hlt:i < xs.length
 ·refine .inr ⟨⟨xs,xs[i],q,by simp [hlt]⟩,Pv (i+1),fun σ' H' p'=>⟨xs.length - (i+1),by lia,rfl,hlt,p'⟩,fun x H' y=>?_⟩
  obtain ⟨e,y⟩:=y
  subst e
  exact hs i x σ _ (y xs q) p
 ·have e:i=xs.length:=by lia
  subst e
  exact .inl ⟨⟨xs,q,Nat.le_refl _⟩,hd σ H p⟩
theorem EA {lo:Int} {n:Nat} {g:TG} {tb:TS} {D:Ends} {σ:St} {H:Hp} (Pv:Nat->St->Hp->Prop) (h0:Pv 0 σ H)
 (hs:∀ i σ H,i < n->Pv i σ H->g (.int (lo+i)) σ H fun σ2 H2=>tb { D with nx:=Pv (i+1),ct:=Pv (i+1),bk:=D.nx } σ2 H2) (hd:∀ σ H,Pv n σ H->D.nx σ H) :
 ∃ W:Nat->Nat->St->Hp->Prop,(∃ m,W 0 m σ H)/\∀ i m σ H,W i m σ H ->
  ((Itr lo n).stop i H/\D.nx σ H)\/((Itr lo n).go i H/\∃ N:St->Hp->Prop,(∀ σ' H',N σ' H'->∃ m',m' < m/\W (i+1) m' σ' H')/\∀ x H',(Itr lo n).yld i H x H'->g x σ H' fun σ2 H2=>tb { D with nx:=N,ct:=N,bk:=D.nx } σ2 H2):=by
 refine ⟨fun i m σ H=>m=n - i/\i<=n/\Pv i σ H,⟨n,by simp,Nat.zero_le _,h0⟩,?_⟩
 rintro i m σ H ⟨rfl,hi,p⟩
 by_cases hlt:i < n
 ·refine .inr ⟨hlt,Pv (i+1),fun σ' H' p'=>⟨n - (i+1),by lia,rfl,hlt,p'⟩,fun x H' y=>?_⟩
  obtain ⟨e,y⟩:=y
  subst e y
  exact hs i σ _ hlt p
 ·have e:i=n:=by lia
  subst e
  exact .inl ⟨Nat.le_refl _,hd σ H p⟩
noncomputable abbrev R2:=V->V->Hp->VK->Prop
noncomputable def OpR (X:Cx) (f:Value->Value->Sem Value) (r:R2):Prop :=
 ∀ (pins:List (Addr × Obj)) (s:Shared) (σ:St) (H:Hp) (x y:V) (v u:Value) (Q:VK),Inv X pins σ H s->RelV x v->RelV y u->r x y H Q ->
  wpAny (model X.prog X.w) X.A (f v u) (EP X pins σ Q) X.xe s
noncomputable def UnR (X:Cx) (f:Value->Sem Value) (r:V->Hp->VK->Prop):Prop :=
 ∀ (pins:List (Addr × Obj)) (s:Shared) (σ:St) (H:Hp) (x:V) (v:Value) (Q:VK),Inv X pins σ H s->RelV x v->r x H Q ->
  wpAny (model X.prog X.w) X.A (f v) (EP X pins σ Q) X.xe s
noncomputable def CallR (X:Cx) (f:Value) (r:List V->Hp->VK->Prop):Prop :=
 ∀ (pins:List (Addr × Obj)) (s:Shared) (σ:St) (H:Hp) (xs:List V) (us:List Value) (Q:VK),Inv X pins σ H s->Vals xs us->r xs H Q ->
  wpAny (model X.prog X.w) X.A (call f us) (EP X pins σ Q) X.xe s
noncomputable def tOp (r:R2) (ta tb:TE):TE:=fun σ H Q=>ta σ H fun x H1=>tb σ H1 fun y H2=>r x y H2 Q
noncomputable def tUn (r:V->Hp->VK->Prop) (ta:TE):TE:=fun σ H Q=>ta σ H fun x H1=>r x H1 Q
noncomputable def rI (C:Int->Int->Prop) (g:Int->Int->V):R2:=fun x y H Q=>∃ i j,x=.int i/\y=.int j/\C i j/\Q (g i j) H
noncomputable def rI0 (g:Int->Int->V):R2:=fun x y H Q=>∃ i j,x=.int i/\y=.int j/\Q (g i j) H
noncomputable def rU (g:Int->V):V->Hp->VK->Prop:=fun x H Q=>∃ i,x=.int i/\Q (g i) H
section
variable {X:Cx} {a b c:Expr} {ta tb tc:TE} {pos:Pos}
theorem GE (ha:PE X a ta) (hb:PE X b tb) {pins:List (Addr × Obj)} {s:Shared} {σ:St} {H:Hp} {R:V->V->Hp->Prop} (I:Inv X pins σ H s)
 (h:ta σ H fun x H1=>tb σ H1 fun y H2=>R x y H2) {Q:Value->Shared->Prop} {f:Value->Value->Sem Value}
 (hf:∀ v u s2 x y H2,Inv X pins σ H2 s2->RelV x v->RelV y u->R x y H2->wpAny (model X.prog X.w) X.A (f v u) Q X.xe s2) :
 wpAny (model X.prog X.w) X.A (eval a X.env) (fun v s₁=>wpAny (model X.prog X.w) X.A (eval b X.env) (fun u s₂=>wpAny (model X.prog X.w) X.A (f v u) Q X.xe s₂) X.xe s₁) X.xe s:=by
 refine thn (ha pins s σ H _ I h) fun v s1 ⟨x,H1,I1,r1,q1⟩=>?_
 refine thn (hb pins s1 σ H1 _ I1 q1) fun u s2 ⟨y,H2,I2,r2,q2⟩=>?_
 exact hf v u s2 x y H2 I2 r1 r2 q2
theorem AD {op:Operator} {r:R2} (ho:OpR X (binaryOp op) r) (ha:PE X a ta) (hb:PE X b tb):PE X (.BinOp a op b pos) (tOp r ta tb):=by
 intro pins s σ H Q I h
 exact wpAny_BinOp (GE ha hb I h fun v u s2 x y H2 I2 rx ry q=>ho pins s2 σ H2 x y v u Q I2 rx ry q)
theorem Ex {op:UnaryOp} {r:V->Hp->VK->Prop} (ho:UnR X (unaryOp op) r) (ha:PE X a ta):PE X (.UnaryOp op a pos) (tUn r ta):=by
 intro pins s σ H Q I h
 exact UnaryOp_ (thn (ha pins s σ H _ I h) fun v s1 ⟨x,H1,I1,r1,q1⟩=>ho pins s1 σ H1 x v Q I1 r1 q1)
theorem opI {f:Value->Value->Sem Value} {C:Int->Int->Prop} {g:Int->Int->Int}
 (rule:∀ (i j:Int) (t u:Tok) (s:Shared) (Q:Value->Shared->Prop) (E:Value->Shared->Prop),C i j->Q (.int (g i j) s.toks) { s with toks:=s.toks+1 } -> wpAny (model X.prog X.w) X.A (f (.int i t) (.int j u)) Q E s) :
 OpR X f (rI C fun i j=>.int (g i j)):=by
 intro pins s σ H x y v u Q I rx ry h
 obtain ⟨i,j,rfl,rfl,hc,q⟩:=h
 obtain ⟨t,rfl⟩:=rx
 obtain ⟨t',rfl⟩:=ry
 exact rule i j t t' s _ _ hc ⟨.int (g i j),H,I.tok _,⟨_,rfl⟩,q⟩
theorem HC {f:Value->Value->Sem Value} {g:Int->Int->Int}
 (rule:∀ (i j:Int) (t u:Tok) (s:Shared) (Q:Value->Shared->Prop) (E:Value->Shared->Prop),Q (.int (g i j) s.toks) { s with toks:=s.toks+1 } -> wpAny (model X.prog X.w) X.A (f (.int i t) (.int j u)) Q E s) :
 OpR X f (rI0 fun i j=>.int (g i j)):=by
 intro pins s σ H x y v u Q I rx ry h
 obtain ⟨i,j,rfl,rfl,q⟩:=h
 obtain ⟨t,rfl⟩:=rx
 obtain ⟨t',rfl⟩:=ry
 exact rule i j t t' s _ _ ⟨.int (g i j),H,I.tok _,⟨_,rfl⟩,q⟩
theorem FC {f:Value->Value->Sem Value} {g:Int->Int->Bool}
 (rule:∀ (i j:Int) (t u:Tok) (s:Shared) (Q:Value->Shared->Prop) (E:Value->Shared->Prop),Q (.bool (g i j)) s->wpAny (model X.prog X.w) X.A (f (.int i t) (.int j u)) Q E s) :
 OpR X f (rI0 fun i j=>.bl (g i j)):=by
 intro pins s σ H x y v u Q I rx ry h
 obtain ⟨i,j,rfl,rfl,q⟩:=h
 obtain ⟨t,rfl⟩:=rx
 obtain ⟨t',rfl⟩:=ry
 exact rule i j t t' s _ _ ⟨.bl (g i j),H,I,rfl,q⟩
noncomputable def C3 (i j:Int):Prop:=0<=j/\j<=1000000/\i.natAbs < 2 ^ 64
noncomputable def CMul (i j:Int):Prop:=(-(2 ^ 64) < i/\i < 2 ^ 64)\/(-(2 ^ 64) < j/\j < 2 ^ 64)
theorem CMul.ok {i j:Int} (h:CMul i j):IntMulOk i j:=by
 rcases h with ⟨h1,h2⟩ | ⟨h1,h2⟩
 ·exact .of_left (intBits_le_64 h1 h2)
 ·exact .of_right (intBits_le_64 h1 h2)
theorem Ju:OpR X (binaryOp .Add) (rI0 fun i j=>.int (i+j)):=HC fun _ _ _ _ _ _ _ q=>add_int q
theorem LU:OpR X (binaryOp .Sub) (rI0 fun i j=>.int (i - j)):=HC fun _ _ _ _ _ _ _ q=>sub_int q
theorem QT:OpR X (binaryOp .Mod) (rI (fun _ j=>0 < j) fun i j=>.int (i % j)):=opI fun i j _ _ _ _ _ hc q=>by
 have h1:(0:Int) < j:=hc
 exact mod_int' (by lia) (by rw [Int.fmod_eq_emod_of_nonneg i (by lia)];exact q)
theorem Mm:OpR X (binaryOp .Pow) (rI C3 fun i j=>.int (i ^ j.toNat)):=opI fun _ _ _ _ _ _ _ hc q=>pow_int_small hc.1 hc.2.1 hc.2.2 q
theorem RG:OpR X (binaryOp .LShift) (rI C3 fun i j=>.int (i * 2 ^ j.toNat)):=opI fun _ _ _ _ _ _ _ hc q=>lshift_int_small hc.1 hc.2.1 hc.2.2 q
theorem Lv:OpR X (binaryOp .BitAnd) (rI0 fun i j=>.int (Builtin.bitAnd i j)):=HC fun _ _ _ _ _ _ _ q=>and_int q
theorem unI {f:Value->Sem Value} {g:Int->Int}
 (rule:∀ (i:Int) (t:Tok) (s:Shared) (Q:Value->Shared->Prop) (E:Value->Shared->Prop),Q (.int (g i) s.toks) { s with toks:=s.toks+1 } -> wpAny (model X.prog X.w) X.A (f (.int i t)) Q E s) :
 UnR X f (rU fun i=>.int (g i)):=by
 intro pins s σ H x v Q I rx h
 obtain ⟨i,rfl,q⟩:=h
 obtain ⟨t,rfl⟩:=rx
 exact rule i t s _ _ ⟨.int (g i),H,I.tok _,⟨_,rfl⟩,q⟩
theorem Ou:UnR X (unaryOp .USub) (rU fun i=>.int (-i)):=unI fun _ _ _ _ _ q=>neg_int q
end
section
variable {X:Cx} {a b c:Expr} {ta tb tc:TE} {pos:Pos}
theorem NK:OpR X (compareOp .Lt) (rI0 fun i j=>.bl (decide (i < j))):=FC fun _ _ _ _ _ _ _ q=>lt_int q
theorem RQ:OpR X (compareOp .LtE) (rI0 fun i j=>.bl (decide (i<=j))):=FC fun _ _ _ _ _ _ _ q=>le_int q
theorem Mx:OpR X (compareOp .Gt) (rI0 fun i j=>.bl (decide (j < i))):=FC fun _ _ _ _ _ _ _ q=>gt_int q
theorem RJ:OpR X (compareOp .GtE) (rI0 fun i j=>.bl (decide (j<=i))):=FC fun _ _ _ _ _ _ _ q=>ge_int q
theorem Lm {op:CmpOp} {r:R2} (ho:OpR X (compareOp op) r) (ha:PE X a ta) (hb:PE X b tb) (hm:behindInMarks op b=false):PE X (.Compare a [op] [b] pos) (tOp r ta tb):=by
 intro pins s σ H Q I h
 exact wpAny_Compare1 (GE ha hb I h fun v u s2 x y H2 I2 rx ry q=>ho pins s2 σ H2 x y v u Q I2 rx ry q) hm
theorem E3:(sizeLine:Nat) < 2 ^ 63:=by rw [sizeLine_eq];decide
theorem NF:OpR X (binaryOp .Add) (fun x y H Q=>∃ i j,x=.str i/\y=.str j/\i.length+j.length<=sizeLine/\Q (.str (i++j)) H):=by
 intro pins s σ H x y v u Q I rx ry h
 obtain ⟨i,j,rfl,rfl,hz,q⟩:=h
 obtain ⟨t,rfl⟩:=rx
 obtain ⟨t',rfl⟩:=ry
 exact add_str (fun t' tk=>⟨.str (i++j),H,I.tok _,⟨_,rfl⟩,q⟩) hz
theorem Bd {x:V} {us:List Value} (r:Vals [x] us):∃ u,us=[u]/\RelV x u:=by
 cases r with
 | cons r1 r2=>cases r2;exact ⟨_,rfl,r1⟩
theorem Km {x y:V} {us:List Value} (r:Vals [x,y] us):∃ u w',us=[u,w']/\RelV x u/\RelV y w':=by
 cases r with
 | cons r1 r2 =>
  cases r2 with
  | cons r3 r4=>cases r4;exact ⟨_,_,rfl,r1,r3⟩
theorem call_abs:CallR X (.builtin "abs") (fun xs H Q=>∃ i,xs=[.int i]/\Q (.int (if i < 0 then -i else i)) H):=by
 intro pins s σ H xs us Q I r h
 obtain ⟨i,rfl,q⟩:=h
 obtain ⟨u,rfl,t,rfl⟩:=Bd r
 exact call_abs_int fun u tk=>⟨.int (if i < 0 then -i else i),H,I.tok _,⟨_,rfl⟩,q⟩
theorem Ng (hc:X.calm=true):CallR X (.builtin "max") (fun xs H Q=>∃ i j,xs=[.int i,.int j]/\Q (.int (if j > i then j else i)) H):=by
 intro pins s σ H xs us Q I r h
 obtain ⟨i,j,rfl,q⟩:=h
 obtain ⟨u,w',rfl,⟨t,rfl⟩,⟨t',rfl⟩⟩:=Km r
 refine max_two_ints (I.ok.hd hc) fun h' tk k=>⟨_,H,I.kept k,?_,q⟩
 by_cases hj:j > i
 ·rw [if_pos hj,if_pos hj];exact ⟨_,rfl⟩
 ·rw [if_neg hj,if_neg hj];exact ⟨_,rfl⟩
theorem Mv (hc:X.calm=true):CallR X (.builtin "min") (fun xs H Q=>∃ i j,xs=[.int i,.int j]/\Q (.int (if j < i then j else i)) H):=by
 intro pins s σ H xs us Q I r h
 obtain ⟨i,j,rfl,q⟩:=h
 obtain ⟨u,w',rfl,⟨t,rfl⟩,⟨t',rfl⟩⟩:=Km r
 refine min_two_ints (I.ok.hd hc) fun h' tk k=>⟨_,H,I.kept k,?_,q⟩
 by_cases hj:j < i
 ·rw [if_pos hj,if_pos hj];exact ⟨_,rfl⟩
 ·rw [if_neg hj,if_neg hj];exact ⟨_,rfl⟩
theorem call_int1:CallR X (.type "int") (fun xs H Q=>(∃ i,xs=[.int i]/\Q (.int i) H)\/∃ k,xs=[.bl k]/\Q (.int (if k then 1 else 0)) H):=by
 intro pins s σ H xs us Q I r h
 rcases h with ⟨i,rfl,q⟩ | ⟨k,rfl,q⟩
 ·obtain ⟨u,rfl,t,rfl⟩:=Bd r
  exact call_int_int ⟨.int i,H,I,⟨_,rfl⟩,q⟩
 ·obtain ⟨u,rfl,r1⟩:=Bd r
  cases r1
  exact call_int_bool ⟨.int (if k then 1 else 0),H,I.tok _,⟨_,rfl⟩,q⟩
noncomputable def KS (K:W.Frag) (x:V) (H:Hp) (n:Nat):Prop :=
 match x with
 | .str y=>y.length<=sizeLine/\n=y.length
 | .byt y=>y.size<=sizeLine/\n=y.size
 | .ref p=>(∃ xs,SqL K H p xs/\n=xs.length)\/∃ xs,SqT K H p xs/\n=xs.length
 | _=>False
theorem call_len:CallR X (.builtin "len") (fun xs H Q=>∃ x n,xs=[x]/\KS X.K x H n/\Q (.int n) H):=by
 intro pins s σ H xs us Q I r h
 obtain ⟨x,n,rfl,e,q⟩:=h
 obtain ⟨u,rfl,rx⟩:=Bd r
 have hl:=E3
 have hs:sizeLine=16777216:=sizeLine_eq
 cases x with
 | str y =>
  obtain ⟨t,rfl⟩:=rx
  obtain ⟨hy,e'⟩:y.length<=sizeLine/\n=y.length:=e
  subst e'
  exact len_str (by lia) ⟨.int _,H,I.tok _,⟨_,rfl⟩,q⟩
 | byt y =>
  obtain ⟨t,rfl⟩:=rx
  obtain ⟨hy,e'⟩:y.size<=sizeLine/\n=y.size:=e
  subst e'
  exact PySem.W.len_bytes (by lia) ⟨.int _,H,I.tok _,⟨_,rfl⟩,q⟩
 | ref p =>
  cases rx
  have e':(∃ xs,SqL X.K H p xs/\n=xs.length)\/∃ xs,SqT X.K H p xs/\n=xs.length:=e
  rcases e' with ⟨xs,hx,e'⟩ | ⟨xs,hx,e'⟩
  ·subst e'
   obtain ⟨its,r',pl,hz⟩:=I.list hx
   have hlen:=r'.length
   exact Calls.call_len_list pl.isList (by simp only [List.size_toArray];lia) ⟨.int xs.length,H,I.tok _,⟨_,by simp only [List.size_toArray];rw [hlen]⟩,q⟩
  ·subst e'
   obtain ⟨its,r',pl,hz⟩:=I.tuple hx
   have hlen:=r'.length
   exact len_tuple pl (by simp only [List.size_toArray];lia) ⟨.int xs.length,H,I.tok _,⟨_,by simp only [List.size_toArray];rw [hlen]⟩,q⟩
 | _=>exact (show False from e).elim
end
structure ObjM (h:Heap) (x dx C:Addr) (mA:Str->Option Value):Prop where
 obj:h.get? x=some (PySem.W.instObj C dx)
 ns:h.Ns1 dx mA
 ne:dx≠x
section
variable {prog:Program} {w:World} {A:Around} {E:Value->Shared->Prop} {s:Shared} {K:W.Frag} {x dx C f:Addr} {mA:Str->Option Value} {name:Str} {v:Value}
end
section
variable {P:Program} {w:World} {H H':Hp} {h h':Heap} {a C dx:Addr} {fs fs':List (Str × V)}
end
structure Cls (K:W.Frag) (C:Addr):Prop where
 pg:PySem.W.plainGet K C Str.empty=true
 hd:PySem.W.hasDictIn K C=true
 po:PySem.W.plainOver K C=true
 sa:PySem.W.findIn K (.ref C) "__setattr__" = some (some (.builtin "object.__setattr__"))
theorem Cls.get {K:W.Frag} {C:Addr} (c:Cls K C) (f:Str):PySem.W.plainGet K C f=true:=c.pg
structure Con (K:W.Frag) (C:Addr) (f:Str) (v:V) (u:Value):Prop where
 at_:PySem.W.findIn K (.ref C) f=some (some u)
 rel:RelV v u
 get:PySem.W.specialIn K u "__get__" = some none
 cp:PySem.W.copiedNames.contains f=false
structure Meth (K:W.Frag) (C:Addr) (m:Str) (f:Addr):Prop where
 at_:PySem.W.findIn K (.ref C) m=some (some (.ref f))
 fn:PySem.W.isFn K (.ref f)=true
 kp:PySem.W.keepIn K (.ref f)=true
section
variable {X:Cx} {pins:List (Addr × Obj)} {σ:St} {H:Hp} {s:Shared} {a C dx:Addr} {fs:List (Str × V)} {f:Str} {v:V} {A:Around} {E:Value->Shared->Prop}
end
section
variable {X:Cx} {o e value:Expr} {f:Str} {pos pos' tpos:Pos} {ta tv:TE}
end
section
variable {X:Cx} {pins:List (Addr × Obj)} {σ:St} {H:Hp} {s:Shared} {A:Around} {E:Value->Shared->Prop} {Q:Value->Shared->Prop} {c:Value} {b:Bool}
inductive TyOf (K:W.Frag) (H:Hp):V->Value->Prop where
 | non:TyOf K H .non (.type "NoneType")
 | bl (x:Bool):TyOf K H (.bl x) (.type "bool")
 | int (i:Int):TyOf K H (.int i) (.type "int")
 | str (x:Str):TyOf K H (.str x) (.type "str")
 | flt (x:UInt64):TyOf K H (.flt x) (.type "float")
 | lst {a:Addr} {xs:List V} (e:H a=some (.lst xs)):TyOf K H (.ref a) (.type "list")
 | frz {a:Addr} {o:Obj} {xs:List V} (e:H a=some (.frz o (.lst xs))):TyOf K H (.ref a) (.type "list")
 | tup {a:Addr} {xs:List V} (e:H a=some (.tup xs)):TyOf K H (.ref a) (.type "tuple")
 | dK {a:Addr} {kvs:List (Key × V)} (e:H a=some (.dK kvs)):TyOf K H (.ref a) (.type "dict")
 | dT {a:Addr} {kvs:List (List Key × V)} (e:H a=some (.dT kvs)):TyOf K H (.ref a) (.type "dict")
 | ins {a C dx:Addr} {fs:List (Str × V)} (e:H a=some (.ins C dx fs)) (cl:Cls K C) (ha:PySem.W.findIn K (.ref C) "__class__" = some (some (.builtin "object.__class__")))
  (hn:PySem.W.specialIn K (.builtin "object.__class__") "__get__" = some (some (.builtin "getset_descriptor.__get__"))) (htk:PySem.W.takesIn K (.builtin "object.__class__")=some true)
  (hm:PySem.W.mroIn K C (.type "object")=some true):TyOf K H (.ref a) (.ref C)
end
structure Room (k:Nat) (A:Around):Prop where
 hd:A.handled=none
 dp:A.depth+3 * k+5 < recursionLimit
 un:A.units+16 * k+200 < cLine
 gd:A.guards=some []
theorem Room.mono {j k:Nat} {A:Around} (r:Room k A) (h:j<=k):Room j A:=⟨r.hd,by have:=r.dp;lia,by have:=r.un;lia,r.gd⟩
theorem Room.deeper {k:Nat} {A:Around} (r:Room (k+1) A) (env:Env):Room k (A.deeper env) :=
 ⟨r.hd,by have:=r.dp;show A.depth+1+3 * k+5 < _;lia,by have:=r.un;show A.units+3+16 * k+200 < _;lia,r.gd⟩
theorem Room.depth {k:Nat} {A:Around} (r:Room k A):A.depth < recursionLimit:=by have:=r.dp;lia
noncomputable def Jr:TA:=fun _ H Q=>Q [] H
noncomputable def Ij (ta:TE) (tr:TA):TA:=fun σ H Q=>ta σ H fun x H1=>tr σ H1 fun xs H2=>Q (x::xs) H2
section
variable {X:Cx} {e:Expr} {es:List Expr} {te:TE} {t:TA} {pos:Pos}
theorem AB:PA X [] Jr:=fun _ _ _ _ H Q I h=>Calls.spliced_nil ⟨[],H,I,.nil,h⟩
theorem AA (ha:PE X e te) (hr:PA X es t) (hs:starEach (e::es) X.env=(false,eval e X.env)::starEach es X.env:=by rfl):PA X (e::es) (Ij te t):=by
 intro pos pins s σ H Q I h
 rw [hs]
 show wpAny _ _ (spliced ((false,eval e X.env)::backTo pos (starEach es X.env))) _ _ s
 refine Calls.spliced_cons (thn (ha pins s σ H _ I h) fun u s1 ⟨x,H1,I1,r1,q1⟩=>?_)
 exact thn (hr pos pins s1 σ H1 _ I1 q1) fun us s2 ⟨xs,H2,I2,r2,q2⟩=>⟨x::xs,H2,I2,.cons r1 r2,q2⟩
noncomputable def Jb (t:TA):TE:=fun σ H Q=>t σ H fun xs H1=>xs.length<=sizeLine/\∀ p,H1 p=none->Q (.ref p) (upd H1 p (.tup xs))
noncomputable def LN (t:TA):TE:=fun σ H Q=>t σ H fun xs H1=>xs.length<=sizeLine/\∀ p,H1 p=none->Q (.ref p) (upd H1 p (.lst xs))
theorem BD {x1} (h:PA X es t):PE X (.Tuple es x1 pos) (Jb t):=by
 intro pins s σ H Q I hq
 refine wpAny_Tuple_spliced (thn (h pos pins s σ H _ I hq) fun us s1 ⟨xs,H1,I1,r,z,q⟩=>⟨by rw [<- r.length];exact z,?_⟩)
 have hf:H1 s1.heap.objs.size=none:=I1.hok.fresh (Nat.le_refl _)
 refine ⟨.ref s1.heap.objs.size,upd H1 s1.heap.objs.size (.tup xs),I1.laid (t':=s1.toks) (fun b u e=>Heap.get?_push_of_some _ e) (Nat.le_refl _) ?_,rfl,q _ hf⟩
 exact ⟨z,us,r,⟨_,Heap.get?_push_size _ rfl,rfl,⟨_,rfl⟩,rfl⟩⟩
theorem Bq (h:PA X es t):PE X (.List es pos) (LN t):=by
 intro pins s σ H Q I hq
 refine wpAny_List_spliced (thn (h pos pins s σ H _ I hq) fun us s1 ⟨xs,H1,I1,r,z,q⟩=>⟨by rw [<- r.length];exact z,?_⟩)
 have hf:H1 s1.heap.objs.size=none:=I1.hok.fresh (Nat.le_refl _)
 refine ⟨.ref s1.heap.objs.size,upd H1 s1.heap.objs.size (.lst xs),I1.laid (t':=s1.toks) (fun b u e=>Heap.get?_push_of_some _ e) (Nat.le_refl _) ?_,rfl,q _ hf⟩
 exact ⟨z,us,0,r,Heap.get?_push_size _ rfl⟩
end
noncomputable abbrev Sp:=List V->Hp->VK->XK->Prop
noncomputable abbrev CXT:=List Env->Hp->Shared->XK->Value->Shared->Prop
structure Env0 (P:Program) (w:World) (K:W.Frag) (mg:Str->Option Value) (base:Heap) (A:Around) (outer:List Env) (s:Shared) (H:Hp):Prop where
 frames:A.frames=some outer
 mod:Mod K mg base
 bs:∀ b o,base.get? b=some o->s.heap.get? b=some o/\H b=none
 bsz:base.objs.size<=s.heap.objs.size
 funs:s.heap.FunFrames base outer
 frf:∀ b∈frs outer,H b=none
 hok:HOk P w H s.heap
 bare:AllBare s.gens
noncomputable def CE (outer:List Env) (P:Program) (w:World) (H:Hp) (s:Shared) (Q:VK) (u:Value) (s':Shared):Prop :=
 ∃ v H',s'.os=s.os/\AllBare s'.gens/\Un (frs outer) [] H H' s.heap s'.heap/\HOk P w H' s'.heap/\RelV v u/\Q v H'
noncomputable def CR (CX:CXT) (outer:List Env) (P:Program) (w:World) (H:Hp) (s:Shared) (Q:VK) (E:XK) (r:Result) (s':Shared):Prop :=
 match r with
 | .ok (.ret u)=>CE outer P w H s Q u s'
 | .ok _=>False
 | .error e=>CX outer H s E e s'
structure FnOk (P:Program) (w:World) (K:W.Frag) (mg:Str->Option Value) (base:Heap) (CX:CXT) (k:Nat) (f:Addr) (fd:FuncData) (ps:List Str) (sp:Sp):Prop where
 len:∀ vs H Q E,sp vs H Q E->vs.length=ps.length
 run:∀ (A:Around) (outer:List Env) (s:Shared) (H:Hp) (args:Args) (us:List Value) (vs:List V) (Q:VK) (E:XK),Room k A->Env0 P w K mg base A outer s H->BindsTo s fd args (ps.zip us)->Vals vs us->sp vs H Q E ->
  codeAny (model P w) A (.call (.ref f) args) (CR CX outer P w H s Q E) s
section
variable {X:Cx} {pins:List (Addr × Obj)} {σ:St} {H:Hp} {s s':Shared}
theorem Inv.env0 (I:Inv X pins σ H s):Env0 X.prog X.w X.K X.mg X.base X.A X.stack s H :=
 ⟨I.ok.frames,I.ok.mod,I.bs,Nat.le_trans I.ok.bsz I.sz,I.stack,I.stkFree,I.hok,I.bare⟩
theorem Inv.after {Q:VK} {u:Value} (I:Inv X pins σ H s) (h:CE X.stack X.prog X.w H s Q u s'):EP X pins σ Q u s':=by
 obtain ⟨v,H',os,bare,un,hok,r,q⟩:=h
 obtain ⟨hh,g,d,t,os'⟩:=s'
 obtain rfl:os'=s.os:=os
 exact ⟨v,H',I.call (h':=hh) (g':=g) (d':=d) (t':=t) (ch:=[]) un hok bare (fun b z=>absurd z (by simp)),r,q⟩
end
noncomputable def KA (sp:Sp) (dvs:List V) (E:XK) (t:TA):TE:=fun σ H Q=>t σ H fun vs H1=>sp (vs++dvs) H1 Q E
noncomputable def Binds (K:W.Frag) (fd:FuncData) (ps:List Str) (ds:List Value):Prop :=
 ∀ (s:Shared) (us:List Value),K.In s.heap->(us++ds).length=ps.length->BindsTo s fd ⟨us,[]⟩ (ps.zip (us++ds))
theorem Binds.all {K:W.Frag} {fd:FuncData} {ps:List Str} (h:∀ us:List Value,us.length=ps.length->bindArgs fd ⟨us,[]⟩=pure (ps.zip us)):Binds K fd ps []:=fun s us _ hl=>by
 rw [List.append_nil] at hl ⊢
 exact .of_eq (h us hl)
noncomputable def GU (CX:CXT) (X:Cx) (E:XK):Prop:=∀ (pins:List (Addr × Obj)) (σ:St) (H:Hp) (s:Shared) (e:Value) (s':Shared),Inv X pins σ H s->CX X.stack H s E e s'->X.xe e s'
section
variable {X:Cx} {CX:CXT} {k:Nat} {f C:Addr} {fd:FuncData} {ps:List Str} {sp:Sp} {dvs:List V} {ds:List Value} {E:XK} {x m:Str} {p pos apos:Pos} {e o:Expr} {es:List Expr} {ta:TE} {t:TA}
theorem Ol {pins:List (Addr × Obj)} {σ:St} {H:Hp} {s:Shared} {Q:VK} {us:List Value} {vs:List V} (F:FnOk X.prog X.w X.K X.mg X.base CX k f fd ps sp) (hr:Room k X.A) (hb:Binds X.K fd ps ds) (hd:Vals dvs ds) (hx:GU CX X E)
 (I:Inv X pins σ H s) (r:Vals vs us) (h:sp (vs++dvs) H Q E):wpAny (model X.prog X.w) X.A (call (.ref f) us) (EP X pins σ Q) X.xe s:=by
 have r2:Vals (vs++dvs) (us++ds):=r.append hd
 have hl:(us++ds).length=ps.length:=by rw [<- r2.length];exact F.len _ _ _ _ h
 refine wpAny_call (codeAny_mono (F.run X.A X.stack s H ⟨us,[]⟩ (us++ds) (vs++dvs) Q E hr I.env0 (hb s us I.kIn hl) r2 h) fun r s' hq=>?_)
 cases r with
 | error e=>exact hx pins σ H s e s' I hq
 | ok fl =>
  cases fl with
  | ret u=>exact I.after hq
  | next=>exact False.elim hq
  | brk=>exact False.elim hq
  | cont=>exact False.elim hq
theorem AF (F:FnOk X.prog X.w X.K X.mg X.base CX k f fd ps sp) (hr:Room k X.A) (hg:Gl X x) (hm:X.mg x=some (.ref f)) (hk:PySem.W.keepIn X.K (.ref f)=true) (hb:Binds X.K fd ps ds) (hd:Vals dvs ds) (hx:GU CX X E)
 (ha:PA X (e::es) t) (hdb:(x == ("__debug__" : Str))=false:=by decide) (he:starEach (e::es) X.env=(false,eval e X.env)::starEach es X.env:=by rfl) (hpl:(backTo pos (starEach es X.env)).any (·.1)=false:=by rfl) :
 PE X (.Call (.Name x p) (e::es) [] pos) (KA sp dvs E t):=by
 intro pins s σ H Q I h
 refine wpAny_Call_Name_kw (OW I hg hm ?_ hdb)
 refine PySem.W.callWith_K (h₀:=X.base) I.ok.mod.kin hk (thn (ha pos pins s σ H _ I h) fun us s1 ⟨vs,H1,I1,r,q⟩=>⟨I1.kIn,?_⟩) he hpl
 exact Ol F hr hb hd hx I1 r q
structure Mk (K:W.Frag) (C f:Addr):Prop where
 makes:PySem.W.makesIn K C=true
 init:PySem.W.findIn K (.ref C) "__init__" = some (some (.ref f))
 fn:PySem.W.isFn K (.ref f)=true
 kp:PySem.W.keepIn K (.ref C)=true
end
section
variable {X:Cx} {CX:CXT} {k:Nat} {f C:Addr} {fd:FuncData} {ps ks:List Str} {sp:Sp} {E:XK} {x m:Str} {p pos apos kpos:Pos} {e o:Expr} {es:List Expr} {kws:List Keyword} {te ta:TE} {t tk:TA} {nm:Option Str}
structure KBinds (K:W.Frag) (fd:FuncData) (ps ks:List Str) (g:List Value->List Value->List Value) (gV:List V->List V->List V):Prop where
 to:∀ (s:Shared) (us ws:List Value),K.In s.heap->(g us ws).length=ps.length->BindsTo s fd ⟨us,ks.zip ws⟩ (ps.zip (g us ws))
 rel:∀ {vs:List V} {us:List Value} {zs:List V} {ws:List Value},Vals vs us->Vals zs ws->Vals (gV vs zs) (g us ws)
variable {g:List Value->List Value->List Value} {gV:List V->List V->List V}
end
structure FnScope (N P:List Str) (sc:Scope):Prop where
 kind:sc.kind=.function
 co:sc.isCoroutine=false
 gen:sc.isGenerator=false
 nd:N.Nodup
 pre:N.take P.length=P
 par:∀ x∈P,sc.names.lookup x=some .local\/sc.names.lookup x=some .cell
 nofree:∀ y∈sc.names,y.2≠.free
theorem JG {kindOf:Str->Option NameKind} {x:Str}:∀ {binds:List (Str × Value)} {m:Str->Option Value},(∀ v,(x,v)∉binds)->bindL kindOf binds m x=m x
 | [],_,_=>rfl
 | (n,v)::r,m,h=>by
  unfold bindL
  rw [JG fun w hw=>h w (List.mem_cons_of_mem _ hw)]
  split
  ·have:x≠n:=by rintro rfl;exact h v List.mem_cons_self
   simp [this]
  ·rfl
theorem Im {kindOf:Str->Option NameKind} {x:Str}:∀ {binds:List (Str × Value)} {m:Str->Option Value},(∀ v,(x,v)∉binds)->bindC kindOf binds m x=m x
 | [],_,_=>rfl
 | (n,v)::r,m,h=>by
  unfold bindC
  rw [Im fun w hw=>h w (List.mem_cons_of_mem _ hw)]
  split
  ·rfl
  ·have:x≠n:=by rintro rfl;exact h v List.mem_cons_self
   simp [this]
theorem Jo {kindOf:Str->Option NameKind} {x:Str} {v:Value}:∀ {P:List Str} {vs:List Value} {i:Nat} {m:Str->Option Value},P.Nodup->P[i]? = some x->vs[i]? = some v->kindOf x=some .local ->
 bindL kindOf (P.zip vs) m x=some v
 | [],_,_,_,_,h,_,_=>by simp at h
 | _::_,[],_,_,_,_,h,_=>by simp at h
 | p::P,w::vs,0,m,nd,h1,h2,hk=>by
  simp at h1 h2;subst h1;subst h2
  show bindL kindOf ((p,w)::P.zip vs) m p=_
  unfold bindL
  rw [JG fun v hv=>(List.nodup_cons.mp nd).1 (List.of_mem_zip hv).1,if_pos hk]
  simp
 | p::P,w::vs,i+1,m,nd,h1,h2,hk=>by
  show bindL kindOf ((p,w)::P.zip vs) m x=_
  unfold bindL
  exact Jo (i:=i) (List.nodup_cons.mp nd).2 (by simpa using h1) (by simpa using h2) hk
theorem J5 {kindOf:Str->Option NameKind} {x:Str} {v:Value}:∀ {P:List Str} {vs:List Value} {i:Nat} {m:Str->Option Value},P.Nodup->P[i]? = some x->vs[i]? = some v->kindOf x≠some .local ->
 bindC kindOf (P.zip vs) m x=some v
 | [],_,_,_,_,h,_,_=>by simp at h
 | _::_,[],_,_,_,_,h,_=>by simp at h
 | p::P,w::vs,0,m,nd,h1,h2,hk=>by
  simp at h1 h2;subst h1;subst h2
  show bindC kindOf ((p,w)::P.zip vs) m p=_
  unfold bindC
  rw [Im fun v hv=>(List.nodup_cons.mp nd).1 (List.of_mem_zip hv).1,if_neg hk]
  simp
 | p::P,w::vs,i+1,m,nd,h1,h2,hk=>by
  show bindC kindOf ((p,w)::P.zip vs) m x=_
  unfold bindC
  exact J5 (i:=i) (List.nodup_cons.mp nd).2 (by simpa using h1) (by simpa using h2) hk
noncomputable def start (N:List Str) (vs:List V):St:=vs.map some++List.replicate (N.length - vs.length) none
noncomputable def EB (CX:CXT) (P:Program) (w:World) (K:W.Frag) (mg:Str->Option Value) (base:Heap) (N:List Str) (qual:Str) (scope:Scope) (f:Addr) (cd:Value) (A:Around) (outer:List Env) (s:Shared) (H:Hp) (E:XK):Cx where
 prog:=P
 w:=w
 K:=K
 mg:=mg
 base:=base
 A:=A.deeper (envOfC qual scope s.heap.objs.size f cd)
 N:=N
 s₀:=s
 H₀:=H
 env:=envOfC qual scope s.heap.objs.size f cd
 outer:=outer
 stack:=envOfC qual scope s.heap.objs.size f cd::outer
 ex:=[]
 calm:=true
 fn:=fun _=>true
 pn:=[]
 xe:=fun e s'=>wpAny (model P w) (A.deeper (envOfC qual scope s.heap.objs.size f cd)) (leaving (envOfC qual scope s.heap.objs.size f cd) e) (fun _ s''=>CX outer H s E e s'') (fun e' s''=>CX outer H s E e' s'') s'
theorem J4 {sc:Scope} {n:Nat} {x:Str} (h:sc.names.lookup x=some .cell):∃ c,(cellsFrom n sc.names []).lookup x=some c:=by
 have q:=PySem.W.cellsFrom_some sc.names n [] (.inl h)
 exact Option.isSome_iff_exists.mp q
theorem Na {CX:CXT} {P:Program} {w:World} {K:W.Frag} {mg:Str->Option Value} {base:Heap} {N ps:List Str} {qual:Str} {scope:Scope} {f:Addr} {cd:Value} {A:Around} {outer:List Env} {s s1:Shared} {H:Hp} {E:XK} {us:List Value} {vs:List V}
 (S:FnScope N ps scope) (hd:A.handled=none) (e0:Env0 P w K mg base A outer s H) (hl:vs.length=ps.length) (r:Vals vs us)
 (x:InCallC s s.heap.objs.size (bindL (envOfC qual scope s.heap.objs.size f cd).kindOf (ps.zip us) fun _=>none) (cellsFrom (s.heap.objs.size+1) scope.names []) (bindC (envOfC qual scope s.heap.objs.size f cd).kindOf (ps.zip us) fun _=>none) s1) :
 Inv (EB CX P w K mg base N qual scope f cd A outer s H E) [] (start N vs) H s1:=by
 have hpl:ps.length<=N.length:=by have:=congrArg List.length S.pre;rw [List.length_take] at this;lia
 obtain ⟨h1,tk,rfl,hk⟩:=x.done
 have noA:∀ b:Addr,b∉(EB CX P w K mg base N qual scope f cd A outer s H E).ex:=fun b z=>absurd (show b∈([]:List Addr) from z) (by simp)
 refine ⟨⟨e0.mod,S.kind,rfl,rfl,Nat.le_refl _,fun y z c h1 h2=>?_,fun y hy=>?_,fun y c _ h=>?_,fun _=>hd,Around.frames_deeper e0.frames,.inr ⟨rfl,rfl⟩,fun b z=>absurd z (noA b),e0.bs,e0.bsz,fun b _ _=>noA b,fun b z=>absurd z (noA b),e0.funs,e0.frf⟩,
  rfl,e0.bare,Un.kept hk,⟨_,x.toInCall.ns,fun i y v h1 h2 h3=>?_⟩,fun y c h=>⟨_,x.cell y c h⟩,e0.hok.fresh (Nat.le_refl _),fun y c h=>?_,fun p hp=>absurd (show p∈([]:List (Addr × Obj)) from hp) (by simp),e0.hok.kept hk,?_⟩
 ·exact name_of_addr x.apart (PySem.mem_of_lookup h1) (PySem.mem_of_lookup h2)
 ·have hy:scope.names.lookup y=some .cell\/scope.names.lookup y=some .free:=hy
  rcases hy with hy | hy
  ·exact J4 hy
  ·exact absurd rfl (S.nofree _ (PySem.mem_of_lookup hy))
 ·exact Nat.le_of_lt (x.above y c (PySem.mem_of_lookup h))
 ·have hi:i < vs.length:=by
   unfold start at h2
   by_cases hi:i < vs.length
   ·exact hi
   ·rw [List.getElem?_append_right (by simpa using hi)] at h2
    rw [List.getElem?_replicate] at h2
    split at h2 <;> cases h2
  have ha:vs[i]? = some v:=by
   unfold start at h2
   rw [List.getElem?_append_left (by simpa using hi),List.getElem?_map] at h2
   cases e:vs[i]? with
   | none=>rw [e] at h2;cases h2
   | some a=>rw [e] at h2;cases h2;rfl
  obtain ⟨u,hu,rv⟩:=r.get ha
  have hp:ps[i]? = some y:=by
   rw [<- S.pre,List.getElem?_take_of_lt (by lia)];exact h1
  have ndP:ps.Nodup:=by rw [<- S.pre];exact S.nd.sublist (List.take_sublist _ _)
  refine ⟨u,rv,?_⟩
  rcases S.par y (List.mem_of_getElem? hp) with k | k
  ·exact .inl ⟨k,Jo ndP hp hu k⟩
  ·obtain ⟨c,e⟩:=J4 (n:=s.heap.objs.size+1) k
   refine .inr ⟨.inl k,c,e,?_⟩
   have q:=x.cell y c e
   rw [J5 ndP hp hu (by show scope.names.lookup y≠_;rw [k];decide)] at q
   exact q
 ·exact e0.hok.fresh (Nat.le_of_lt (x.above y c (PySem.mem_of_lookup h)))
 ·unfold start
  show _=N.length
  rw [List.length_append,List.length_map,List.length_replicate]
  lia
theorem MX {CX:CXT} {P:Program} {w:World} {K:W.Frag} {mg:Str->Option Value} {base:Heap} {k:Nat} {f:Addr} {name qual:Str} {params:Arguments} {body:List Stmt} {scope:Scope} {dV kV doc pm cdv ct oc:Value} {an od:Option Addr}
 {osl:Array (Option Value)} {N ps:List Str} {sp:Sp} (lk:K.lookup f=some ⟨oc,od,.func (PySem.W.fnOf name qual params body scope dV kV doc pm an cdv ct),osl⟩) (hcd:PySem.W.codeIn K cdv qual=true) (S:FnScope N ps scope)
 (len:∀ vs H Q E,sp vs H Q E->vs.length=ps.length)
 (hbody:∀ (A:Around) (outer:List Env) (s:Shared) (H:Hp) (vs:List V) (Q:VK) (E:XK),Room k (A.deeper (envOfC qual scope s.heap.objs.size f cdv))->sp vs H Q E ->
   ∃ t,PSs (EB CX P w K mg base N qual scope f cdv A outer s H E) body t/\t { nx:=fun _ H'=>Q .non H',rt:=Q } (start N vs) H) :
 FnOk P w K mg base CX (k+1) f (PySem.W.fnOf name qual params body scope dV kV doc pm an cdv ct) ps sp:=by
 refine ⟨len,fun A outer s H args us vs Q E hr e0 hb r hsp=>?_⟩
 have hl:=len _ _ _ _ hsp
 have KX:K.In s.heap:=e0.mod.kin.keeps fun b o e=>(e0.bs b o e).1
 have lim:s.heap.NoLimit:=e0.mod.nolimit.keeps fun b o e=>(e0.bs b o e).1
 have hkind:∀ y∈ps.zip us,scope.names.lookup y.1=some .local\/(scope.names.lookup y.1=some .cell/\((cellsFrom (s.heap.objs.size+1) scope.names []).lookup y.1).isSome=true):=fun ⟨n,v⟩ hy=>by
  rcases S.par n (List.of_mem_zip hy).1 with q | q
  ·exact .inl q
  ·exact .inr ⟨q,PySem.W.cellsFrom_some _ _ _ (.inl q)⟩
 refine codeAny_call_function hr.depth (KX _ _ lk) rfl S.co S.gen rfl (PySem.W.codeRec_of KX hcd) (hb _ _ _ _ ?_)
 refine wpAny_newFunctionEnv_cells S.kind hkind fun env he s1 x=>?_
 subst he
 refine ⟨lim.keeps x.toInCall.keep,codeAny_func ?_⟩
 obtain ⟨t,ht,hq⟩:=hbody A outer s H vs Q E (hr.deeper _) hsp
 have I:Inv (EB CX P w K mg base N qual scope f cdv A outer s H E) [] (start N vs) H s1:=Na S hr.hd e0 hl r x
 refine wpAny_mono (ht [] s1 (start N vs) H _ I hq) (fun fl s' hs=>?_) fun e s' hs=>hs
 have fin:∀ {σ':St} {H':Hp} {v:V} {u:Value},Inv (EB CX P w K mg base N qual scope f cdv A outer s H E) [] σ' H' s'->RelV v u->Q v H'->CE outer P w H s Q u s' :=
  fun {σ' H' v u} J rv q=>⟨v,H',J.os,J.bare,J.base,J.hok,rv,q⟩
 cases fl with
 | ret u =>
  obtain ⟨v,σ',H',J,rv,q⟩:=hs
  exact fin J rv q
 | next =>
  obtain ⟨σ',H',J,q⟩:=hs
  exact fin (v:=V.non) (u:=Value.none) J rfl q
 | brk =>
  obtain ⟨_,_,_,q⟩:=hs
  exact False.elim q
 | cont =>
  obtain ⟨_,_,_,q⟩:=hs
  exact False.elim q
section
variable {X:Cx} {x:Str} {p pos:Pos} {e:Expr} {es:List Expr} {t:TA} {id T:String} {r:List V->Hp->VK->Prop}
noncomputable def tCB (r:List V->Hp->VK->Prop) (t:TA):TE:=fun σ H Q=>t σ H fun vs H1=>r vs H1 Q
theorem Aa (hc:CallR X (.builtin id) r) (hg:Gl X x) (hm:X.mg x=none) (hv:bootBuiltins x=some (.builtin id)) (ha:PA X (e::es) t) (hn:x ≠ "__name__":=by decide) (hdb:(x == ("__debug__" : Str))=false:=by decide)
 (he:starEach (e::es) X.env=(false,eval e X.env)::starEach es X.env:=by rfl) (hpl:(backTo pos (starEach es X.env)).any (·.1)=false:=by rfl):PE X (.Call (.Name x p) (e::es) [] pos) (tCB r t):=by
 intro pins s σ H Q I h
 refine wpAny_Call_Name_kw (Da I hg hm hv ?_ hn hdb)
 exact PyProof.Rows.callWith_builtin1 (thn (ha pos pins s σ H _ I h) fun us s1 ⟨vs,H1,I1,r1,q1⟩=>hc pins s1 σ H1 vs us Q I1 r1 q1) he hpl
theorem CD (hc:CallR X (.type T) r) (hg:Gl X x) (hm:X.mg x=none) (hv:bootBuiltins x=some (.type T)) (ha:PA X (e::es) t) (hn:x ≠ "__name__":=by decide) (hdb:(x == ("__debug__" : Str))=false:=by decide)
 (he:starEach (e::es) X.env=(false,eval e X.env)::starEach es X.env:=by rfl) (hpl:(backTo pos (starEach es X.env)).any (·.1)=false:=by rfl):PE X (.Call (.Name x p) (e::es) [] pos) (tCB r t):=by
 intro pins s σ H Q I h
 refine wpAny_Call_Name_kw (Da I hg hm hv ?_ hn hdb)
 exact PyProof.Rows.callWith_type1 (thn (ha pos pins s σ H _ I h) fun us s1 ⟨vs,H1,I1,r1,q1⟩=>hc pins s1 σ H1 vs us Q I1 r1 q1) he hpl
end
end L2
namespace HT
open PySem PyProof.Rows
section
open PySem.SeqAt
open PySem.AutoSeq1 (wpAny_loadPart')
open PySem.MeetsSeq PySem.MeetsSeq2 PySem.MeetsSeq3
end
section
variable {prog:Program} {w:World} {A:Around} {E:Value->Shared->Prop} {s:Shared}
theorem cat_tup {t b:Addr} {vs ws:List Value} {Q:Value->Shared->Prop} (ht:IsTup s.heap t vs.toArray) (hb:IsTup s.heap b ws.toArray) (hv:vs≠[])
 (h1:ws=[]->Q (.ref t) s) (h2:ws≠[]->Q (.ref s.heap.objs.size) { s with heap:=s.heap.push { cls:=.type "tuple",data:=.seq (vs++ws).toArray } })
 (hsz:vs.length+ws.length<=sizeLine):wpAny (model prog w) A (binaryOp .Add (.ref t) (.ref b)) Q E s:=by
 obtain ⟨⟨cls,dd,data,sl⟩,ho,hc,n,hd⟩:=id ht
 obtain ⟨⟨cls2,dd2,data2,sl2⟩,ho2,hc2,n2,hd2⟩:=id hb
 simp only at hc hd hc2 hd2
 subst hc hd hc2 hd2
 have e:vs.toArray++ws.toArray=(vs++ws).toArray:=by simp
 by_cases hw:ws=[]
 ·exact concat_meets ⟨_,ho,rfl⟩ ⟨_,ho2,rfl⟩ noFill_tuple_add seq_tuple_add PySem.F.slot_tuple_add PySem.F.entry_tuple_add (PySem.F.args_tuple_add_2 _ _)
   (tuple_addW1 t b vs.toArray ws.toArray n n2 dd dd2 sl sl2 (by simpa using hv) (by simp [hw])) ⟨ho,ho2,h1 hw⟩
 ·refine concat_meets ⟨_,ho,rfl⟩ ⟨_,ho2,rfl⟩ noFill_tuple_add seq_tuple_add PySem.F.slot_tuple_add PySem.F.entry_tuple_add (PySem.F.args_tuple_add_2 _ _)
   (tuple_addW2 t b vs.toArray ws.toArray n n2 dd dd2 sl sl2 (by simpa using hv) (by simpa using hw) (by rw [List.size_toArray,List.size_toArray];exact hsz)) ⟨ho,ho2,?_⟩
  rw [e]
  exact h2 hw
noncomputable def sIx (n d:Nat):Option Int->Nat
 | none=>d
 | some v=>if v < 0 then (v+(n:Int)).toNat else min v.toNat n
theorem sIx_none (n d:Nat):sIx n d none=d:=rfl
theorem sIx_nat (n d k:Nat):sIx n d (some (k:Int))=min k n:=by
 show (if (k:Int) < 0 then ((k:Int)+(n:Int)).toNat else min (k:Int).toNat n)=min k n
 rw [if_neg (by lia),Int.toNat_natCast]
theorem Pj (n d:Nat) (hd:d<=n) (o:Option Int):sIx n d o<=n:=by
 cases o with
 | none=>exact hd
 | some v =>
  show (if v < 0 then (v+(n:Int)).toNat else min v.toNat n)<=n
  by_cases hv:v < 0
  ·rw [if_pos hv];lia
  ·rw [if_neg hv];exact Nat.min_le_right _ _
theorem KR (v:Int) (n d:Nat):(if v < 0 then max (v+(n:Int)) 0 else min v (n:Int))=((sIx n d (some v):Nat):Int):=by
 show (if v < 0 then max (v+(n:Int)) 0 else min v (n:Int))=(((if v < 0 then (v+(n:Int)).toNat else min v.toNat n):Nat):Int)
 by_cases hv:v < 0
 ·simp only [if_pos hv];lia
 ·simp only [if_neg hv];lia
theorem OT (lo hi:Option Int) (n:Nat):Builtin.Slice.sliceAdjust lo hi 1 (n:Int)=(((sIx n 0 lo:Nat):Int),((sIx n n hi:Nat):Int)):=by
 have h1:¬ ((1:Int) < 0):=by lia
 unfold Builtin.Slice.sliceAdjust
 simp only [h1,if_false]
 refine Prod.ext ?_ ?_
 ·cases lo with
  | none=>rfl
  | some v=>exact KR v n 0
 ·cases hi with
  | none=>rfl
  | some v=>exact KR v n n
theorem L6 (i j:Nat):Builtin.Slice.slicePlaces (i:Int) (j:Int) 1=j - i:=by
 unfold Builtin.Slice.slicePlaces
 have h1:(1:Int) > 0:=by lia
 simp only [h1,if_true,Int.ediv_one]
 split <;> lia
theorem JN {v:Value} {o:Option Int} {Q:Option Int->Shared->Prop} (p:IsPart v o) (h:Q o s):wpAny (model prog w) A (Builtin.Slice.slicePartIndex v) Q E s:=by
 cases p with
 | none=>exact slicePart_none h
 | int i t=>exact slicePart_int h
theorem IG {sl:Addr} {vl vu:Value} {lo hi:Option Int} {n:Nat} {Q:Int × Int × Nat->Shared->Prop} (hs:s.heap.IsSliceOf sl vl vu .none) (pl:IsPart vl lo) (pu:IsPart vu hi)
 (h:Q (((sIx n 0 lo:Nat):Int),1,sIx n n hi - sIx n 0 lo) s):wpAny (model prog w) A (Builtin.Slice.sliceApplied (.ref sl) (pure (n:Int))) Q E s:=by
 obtain ⟨os,hos,hcs,hds⟩:=id hs
 unfold Builtin.Slice.sliceApplied Builtin.Slice.sliceFields
 refine wpAny_bind (wpAny_bind (wpAny_field hos hds (x:=vl) rfl (wpAny_bind (wpAny_field hos hds (x:=vu) rfl (wpAny_bind (wpAny_field hos hds (x:=.none) rfl (wpAny_pure ?_)))))))
 refine wpAny_bind (slicePart_none ?_)
 show wpAny _ _ (if ((1:Int) == 0)=true then _ else _) _ _ s
 rw [if_neg (by decide)]
 refine wpAny_bind (JN pl (wpAny_bind (JN pu (wpAny_bind (wpAny_pure ?_)))))
 show wpAny _ _ (match Builtin.Slice.sliceAdjust lo hi 1 (n:Int) with | (lo,hi)=>pure (lo,(1:Int),Builtin.Slice.slicePlaces lo hi 1)) _ _ s
 rw [OT lo hi n]
 show wpAny _ _ (pure (((sIx n 0 lo:Nat):Int),(1:Int),Builtin.Slice.slicePlaces ((sIx n 0 lo:Nat):Int) ((sIx n n hi:Nat):Int) 1)) _ _ s
 rw [L6]
 exact wpAny_pure h
theorem Lf (xs:Array Value) (i k:Nat):((List.range k).filterMap fun (m:Nat)=>xs[((i:Int)+(m:Int) * 1).toNat]?).toArray=((xs.toList.drop i).take k).toArray:=by
 have e:(fun (m:Nat)=>xs[((i:Int)+(m:Int) * 1).toNat]?)=fun m=>xs[i+m]?:=by
  funext m
  have:((i:Int)+(m:Int) * 1).toNat=i+m:=by lia
  rw [this]
 rw [e]
 have:=pick_run xs i k
 rw [List.filterMap_map] at this
 have e2:((fun x=>xs[x]?) ∘ fun x=>i+x)=fun m=>xs[i+m]?:=rfl
 rw [e2] at this
 rw [this]
theorem getItem_tuple_cut {t sl:Addr} {items:Array Value} {vl vu:Value} {lo hi:Option Int} {Q:Value->Shared->Prop} (ht:IsTup s.heap t items) (hs:s.heap.IsSliceOf sl vl vu .none) (pl:IsPart vl lo) (pu:IsPart vu hi)
 (hw:¬ (sIx items.size 0 lo=0/\sIx items.size items.size hi=items.size))
 (h:Q (.ref s.heap.objs.size) { s with heap:=s.heap.push { cls:=.type "tuple",data:=.seq ((items.toList.drop (sIx items.size 0 lo)).take (sIx items.size items.size hi - sIx items.size 0 lo)).toArray } })
 (hsz:items.size<=sizeLine):wpAny (model prog w) A (getItem (.ref t) (.ref sl)) Q E s:=by
 have htake:sizeOk (.seq ((items.toList.drop (sIx items.size 0 lo)).take (sIx items.size items.size hi - sIx items.size 0 lo)).toArray):=by
  show ((items.toList.drop (sIx items.size 0 lo)).take (sIx items.size items.size hi - sIx items.size 0 lo)).toArray.size<=sizeLine
  rw [List.size_toArray,List.length_take,List.length_drop,Array.length_toList]
  lia
 have hj:sIx items.size items.size hi<=items.size:=Pj _ _ (Nat.le_refl _) hi
 obtain ⟨os,hos,hcs,hds⟩:=id hs
 have hTs:s.TypeIs (.ref sl) "slice":=⟨os,hos,hcs⟩
 unfold getItem
 try with_reducible refine wpAny_holding ?_
 first | refine wpAny_bind (wpAny_pure ?_) | skip
 refine wpAny_bind (wpAny_sequenceKey ht.typeIs (by decide) ?_)
 refine wpAny_bind (wpAny_callSpecial?_slot (name:=Str.ofString "__getitem__") ht.typeIs PyProof.Rows.slot_tuple_getitem
  (wpAny_call_entry PyProof.Rows.slot_tuple_getitem ht.typeIs entry_tuple_getitem ?_ (args_tuple_getitem _ _)))
 show wpAny _ _ (Builtin.Tuple.tupleItemsOf (.ref t) >>= _) _ _ s
 refine wpAny_bind (tupleItemsOf_ ht ?_)
 refine wpAny_bind (wpAny_typeOf hTs ?_)
 rw [if_pos (by decide)]
 refine wpAny_bind (IG hs pl pu ?_)
 have hno:¬ ((((sIx items.size 0 lo:Nat):Int) == 0 && (1:Int) == 1 && (sIx items.size items.size hi - sIx items.size 0 lo) == items.size)=true):=by
  intro q
  rw [Bool.and_eq_true,Bool.and_eq_true] at q
  have q1:((sIx items.size 0 lo:Nat):Int)=0:=eq_of_beq q.1.1
  have q2:sIx items.size items.size hi - sIx items.size 0 lo=items.size:=eq_of_beq q.2
  exact hw ⟨by lia,by lia⟩
 show wpAny _ _ (if (((sIx items.size 0 lo:Nat):Int) == 0 && (1:Int) == 1 && (sIx items.size items.size hi - sIx items.size 0 lo) == items.size)=true then _ else _) _ _ s
 rw [if_neg hno,Lf]
 first
  | exact wpAny_bind (m:=Builtin.Tuple.tupleExact _) (wpAny_newObj_type (wpAny_pure ⟨_,rfl,wpAny_pure h⟩) htake)
  | exact wpAny_bind (m:=Builtin.Tuple.tupleExact _) (wpAny_newObj_type (wpAny_bind (wpAny_pure (wpAny_pure ⟨_,rfl,wpAny_pure h⟩))) htake)
  | exact wpAny_bind (wpAny_bind (m:=Builtin.Tuple.tupleExact _) (wpAny_newObj_type (wpAny_pure (wpAny_pure ⟨_,rfl,wpAny_pure h⟩)) htake))
  | exact wpAny_bind (wpAny_bind (m:=Builtin.Tuple.tupleExact _) (wpAny_newObj_type (wpAny_pure ⟨_,rfl,wpAny_pure h⟩) htake))
end
end HT
namespace L2
open PySem PySem.Spec PyProof.Rows
noncomputable abbrev TO:=St->Hp->(Option Int->Hp->Prop)->Prop
noncomputable def PO (X:Cx) (e:Option Expr) (t:TO):Prop :=
 ∀ (pins:List (Addr × Obj)) (s:Shared) (σ:St) (H:Hp) (Q:Option Int->Hp->Prop),Inv X pins σ H s->t σ H Q ->
  wpAny (model X.prog X.w) X.A (evalPart e X.env) (fun u s'=>∃ o H',Inv X pins σ H' s'/\IsPart u o/\Q o H') X.xe s
noncomputable def IN:TO:=fun _ H Q=>Q none H
noncomputable def LB (t:TE):TO:=fun σ H Q=>t σ H fun x H1=>∃ i,x=.int i/\Q (some i) H1
theorem Ec {ns:List Int}:∀ {us:List Value},Vals (ns.map V.int) us->IntsAre us ns:=by
 induction ns with
 | nil=>intro us r;rw [List.map_nil] at r;cases r;exact .nil
 | cons n ns ih =>
  intro us r
  rw [List.map_cons] at r
  cases r with
  | cons r1 r2 =>
   obtain ⟨t,e⟩:=r1
   subst e
   exact .cons n t (ih r2)
section
variable {X:Cx} {e:Expr} {te:TE} {lo hi:Option Expr} {tl th:TO} {pos p2:Pos}
theorem Gb:PO X none IN:=by
 intro pins s σ H Q I h
 rw [evalPart_none]
 exact wpAny_pure ⟨none,H,I,.none,h⟩
theorem Hq (h:PE X e te):PO X (some e) (LB te):=by
 intro pins s σ H Q I hw
 rw [evalPart_some]
 refine thn (h pins s σ H _ I hw) fun u s1 ⟨x,H1,I1,r1,q1⟩=>?_
 obtain ⟨i,rfl,q⟩:=q1
 obtain ⟨t,rfl⟩:=r1
 exact ⟨some i,H1,I1,.int i t,q⟩
noncomputable def SlR (X:Cx) (r:V->Option Int->Option Int->Hp->VK->Prop):Prop :=
 ∀ (pins:List (Addr × Obj)) (s:Shared) (σ:St) (H:Hp) (x:V) (v vl vu:Value) (lo hi:Option Int) (sl:Addr) (Q:VK),Inv X pins σ H s->RelV x v->s.heap.IsSliceOf sl vl vu .none->IsPart vl lo->IsPart vu hi->r x lo hi H Q ->
  ∃ T id,typeLookup (.type T) "__getitem__" = pure (some (.builtin id))/\s.TypeIs v T/\wpAny (model X.prog X.w) X.A (getItem v (.ref sl)) (EP X pins σ Q) X.xe s
noncomputable def tSl (r:V->Option Int->Option Int->Hp->VK->Prop) (te:TE) (tl th:TO):TE:=fun σ H Q=>te σ H fun x H1=>tl σ H1 fun l H2=>th σ H2 fun u H3=>r x l u H3 Q
theorem Ji {r:V->Option Int->Option Int->Hp->VK->Prop} (hr:SlR X r) (he:PE X e te) (hl:PO X lo tl) (hu:PO X hi th):PE X (.Subscript e (.Slice lo hi none p2) pos) (tSl r te tl th):=by
 intro pins s σ H Q I h
 refine Subscript_ (thn (he pins s σ H _ I h) fun v s1 ⟨x,H1,I1,r1,q1⟩=>?_)
 refine wpAny_Slice (thn (hl pins s1 σ H1 _ I1 q1) fun vl s2 ⟨l,H2,I2,pl,q2⟩=>thn (hu pins s2 σ H2 _ I2 q2) fun vu s3 ⟨u,H3,I3,pu,q3⟩=>?_)
 rw [evalPart_none]
 refine wpAny_pure ?_
 have I4:Inv X pins σ H3 { s3 with heap:=s3.heap.push { cls:=.type "slice",data:=.fields #[vl,vu,.none] } }:=I3.kept (t':=s3.toks) fun b ob q=>Heap.get?_push_of_some _ q
 obtain ⟨T,id,hT,ht,hg⟩:=hr pins { s3 with heap:=s3.heap.push { cls:=.type "slice",data:=.fields #[vl,vu,.none] } } σ H3 x v vl vu l u s3.heap.objs.size Q I4 r1 (Heap.IsSliceOf.new ..) pl pu q3
 show wpAny (model X.prog X.w) X.A (subscriptTail e (.Slice lo hi none p2) v (.ref s3.heap.objs.size)) (EP X pins σ Q) X.xe { s3 with heap:=s3.heap.push { cls:=.type "slice",data:=.fields #[vl,vu,.none] } }
 exact tail_any (ops:=[.ref s3.heap.objs.size,v]) ht hT hg (by with_unfolding_all rfl)
noncomputable def BB (xs:List V) (lo hi:Option Int):List V:=(xs.drop (HT.sIx xs.length 0 lo)).take (HT.sIx xs.length xs.length hi - HT.sIx xs.length 0 lo)
theorem Eo (xs:List V) (lo hi:Option Int):(BB xs lo hi).length<=xs.length:=by
 unfold BB
 rw [List.length_take,List.length_drop]
 lia
noncomputable def M5 (K:W.Frag):V->Option Int->Option Int->Hp->VK->Prop:=fun x lo hi H Q=>∃ a xs,x=.ref a/\SqT K H a xs /\
 ¬ (HT.sIx xs.length 0 lo=0/\HT.sIx xs.length xs.length hi=xs.length)/\∀ p,H p=none->Q (.ref p) (upd H p (.tup (BB xs lo hi)))
theorem Iz:SlR X (M5 X.K):=by
 intro pins s σ H x v vl vu lo hi sl Q I rx hs pl pu h
 obtain ⟨a,xs,rfl,hx,hw,q⟩:=h
 cases rx
 obtain ⟨its,r,ht,hz⟩:=I.tuple hx
 have hlen:its.toArray.size=xs.length:=by rw [List.size_toArray];exact r.length.symm
 refine ⟨"tuple",_,PyProof.Rows.slot_tuple_getitem.lookup,ht.typeIs,?_⟩
 refine HT.getItem_tuple_cut ht hs pl pu (by rw [hlen];exact hw) ?_ (by rw [hlen];exact hz)
 rw [hlen]
 refine ⟨.ref s.heap.objs.size,_,I.laid (t':=s.toks) (o:=.tup (BB xs lo hi)) (fun b ob q=>Heap.get?_push_of_some _ q) (Nat.le_refl _) ?_,rfl,q _ (I.hok.fresh (Nat.le_refl _))⟩
 exact ⟨Nat.le_trans (Eo xs lo hi) hz,_,(r.drop (HT.sIx xs.length 0 lo)).take (HT.sIx xs.length xs.length hi - HT.sIx xs.length 0 lo),IsTupN.new _ _⟩
noncomputable def IQ (K:W.Frag):R2:=fun x y H Q=>∃ a b xs ys,x=.ref a/\y=.ref b/\SqT K H a xs/\SqT K H b ys/\xs≠[]/\xs.length+ys.length<=sizeLine /\
 (ys=[]->Q (.ref a) H)/\(ys≠[]->∀ p,H p=none->Q (.ref p) (upd H p (.tup (xs++ys))))
theorem Vals.nil_iff {xs:List V} {us:List Value} (r:Vals xs us):us=[] ↔ xs=[]:=by
 cases r with
 | nil=>simp
 | cons _ _=>simp
theorem Ii:OpR X (binaryOp .Add) (IQ X.K):=by
 intro pins s σ H x y v u Q I rx ry h
 obtain ⟨a,b,xs,ys,rfl,rfl,ha,hb,hx,hz,q1,q2⟩:=h
 cases rx
 cases ry
 obtain ⟨its,r1,p1,_⟩:=I.tuple ha
 obtain ⟨its2,r2,p2,_⟩:=I.tuple hb
 refine HT.cat_tup p1 p2 (fun z=>hx (r1.nil_iff.mp z)) (fun z=>⟨.ref a,H,I,rfl,q1 (r2.nil_iff.mp z)⟩) (fun z=>?_) (by rw [<- r1.length,<- r2.length];exact hz)
 refine ⟨.ref s.heap.objs.size,_,I.laid (t':=s.toks) (o:=.tup (xs++ys)) (fun b ob q=>Heap.get?_push_of_some _ q) (Nat.le_refl _) ?_,rfl,q2 (fun w=>z (r2.nil_iff.mpr w)) _ (I.hok.fresh (Nat.le_refl _))⟩
 exact ⟨by rw [List.length_append];exact hz,_,r1.append r2,IsTupN.new _ _⟩
end
noncomputable def ixN (n:Nat) (i:Int):Option Nat:=if 0<=i then (if i < n then some i.toNat else none) else if -(n:Int)<=i then some (i+n).toNat else none
noncomputable def atI {α:Type} (xs:List α) (i:Int):Option α:=(ixN xs.length i).bind fun j=>xs[j]?
theorem Jj {n:Nat} {i:Int} {j:Nat} (h:ixN n i=some j):seqIndex? i n=some j/\j < n /\ -(n:Int)<=i/\i < n:=by
 unfold ixN at h
 by_cases h0:0<=i
 ·rw [if_pos h0] at h
  by_cases h1:i < n
  ·rw [if_pos h1] at h
   have e:i.toNat=j:=Option.some.inj h
   exact ⟨by rw [seqIndex_of h0 h1,e],by lia,by lia,h1⟩
  ·rw [if_neg h1] at h;cases h
 ·rw [if_neg h0] at h
  by_cases h1 : -(n:Int)<=i
  ·rw [if_pos h1] at h
   have e:(i+n).toNat=j:=Option.some.inj h
   exact ⟨by rw [seqIndex_neg (by lia) h1,e],by lia,h1,by lia⟩
  ·rw [if_neg h1] at h;cases h
theorem Gx {α:Type} {xs:List α} {i:Int} {v:α} (h:atI xs i=some v):∃ j,seqIndex? i xs.length=some j/\xs[j]? = some v/\j < xs.length /\ -(xs.length:Int)<=i/\i < xs.length:=by
 unfold atI at h
 cases e:ixN xs.length i with
 | none=>rw [e] at h;cases h
 | some j =>
  rw [e] at h
  obtain ⟨h1,h2,h3,h4⟩:=Jj e
  exact ⟨j,h1,h,h2,h3,h4⟩
theorem Pc {α:Type} (xs:List α) (v:α):atI (xs++[v]) (-1)=some v:=by
 have hl:(xs++[v]).length=xs.length+1:=by simp
 have e:ixN (xs++[v]).length (-1)=some xs.length:=by
  unfold ixN
  rw [hl,if_neg (by decide),if_pos (by lia)]
  congr 1
  lia
 unfold atI
 rw [e]
 show (xs++[v])[xs.length]? = some v
 simp
noncomputable def HG (b:Expr):Prop:=∀ o i,subscripted b false o i=operate [o,i] (getItem o i)
noncomputable def IxR (X:Cx) (r:R2):Prop :=
 ∀ (value slice:Expr) (pins:List (Addr × Obj)) (s:Shared) (σ:St) (H:Hp) (x y:V) (v u:Value) (Q:VK),Inv X pins σ H s->RelV x v->RelV y u->r x y H Q ->
  subscripted slice false v u=operate [v,u] (getItem v u)->wpAny (model X.prog X.w) X.A (subscriptTail value slice v u) (EP X pins σ Q) X.xe s
noncomputable def MtR (X:Cx) (id:String) (r:V->List V->Hp->VK->Prop):Prop :=
 ∀ (pins:List (Addr × Obj)) (s:Shared) (σ:St) (H:Hp) (x:V) (xs:List V) (v:Value) (us:List Value) (Q:VK),Inv X pins σ H s->RelV x v->Vals xs us->r x xs H Q ->
  wpAny (model X.prog X.w) X.A (call (.builtin id) (v::us)) (EP X pins σ Q) X.xe s
section
variable {X:Cx} {a b:Expr} {ta tb:TE} {pos:Pos}
theorem IxR.or {r r':R2} (h:IxR X r) (h':IxR X r'):IxR X (fun x y H Q=>r x y H Q\/r' x y H Q):=by
 intro value slice pins s σ H x y v u Q I rx ry q hs
 rcases q with q | q
 ·exact h value slice pins s σ H x y v u Q I rx ry q hs
 ·exact h' value slice pins s σ H x y v u Q I rx ry q hs
theorem RB {r:R2} (hr:IxR X r) (ha:PE X a ta) (hb:PE X b tb) (hs:HG b):PE X (.Subscript a b pos) (tOp r ta tb):=by
 intro pins s σ H Q I h
 exact Subscript_ (GE ha hb I h fun v u s2 x y H2 I2 rx ry q=>hr a b pins s2 σ H2 x y v u Q I2 rx ry q (hs _ _))
noncomputable def J3 (K:W.Frag):R2:=fun x y H Q=>∃ p xs i v,x=.ref p/\y=.int i/\SqL K H p xs/\atI xs i=some v/\Q v H
noncomputable def LG (K:W.Frag):R2:=fun x y H Q=>∃ p xs i v,x=.ref p/\y=.int i/\SqT K H p xs/\atI xs i=some v/\Q v H
noncomputable def Ky:R2:=fun x y H Q=>∃ z i c,x=.str z/\y=.int i/\z.length<=sizeLine/\atI z.cps.toList i=some c/\Q (.str ⟨#[c]⟩) H
theorem ix_list:IxR X (J3 X.K):=by
 intro value slice pins s σ H x y v u Q I rx ry h hs
 obtain ⟨p,xs,i,z,rfl,rfl,hq,he,q⟩:=h
 cases rx
 obtain ⟨t,rfl⟩:=ry
 obtain ⟨its,r,pl,hz⟩:=I.list hq
 obtain ⟨j,h1,h2,h3,h4,h5⟩:=Gx he
 obtain ⟨w,ew,rw'⟩:=r.get h2
 have hl:=r.length
 have hn:=E3
 have fin:EP X pins σ Q w s:=⟨z,H,I,rw',q⟩
 by_cases h0:0<=i
 ·have hj:i.toNat=j:=by
   rw [seqIndex_of h0 h5] at h1
   exact Option.some.inj h1
  exact item_listR pl.isList h0 (by lia) (by rw [hj];simpa using ew) fin hs
 ·have hj:(i+(its.toArray.size:Int)).toNat=j:=by
   rw [seqIndex_neg (by lia) h4] at h1
   rw [List.size_toArray,<- hl]
   exact Option.some.inj h1
  exact subscriptTail_builtinR (x:=w) pl.isList.typeIs slot_list_getitem.lookup
   (wpAny_getItem_list_neg (Q:=fun r s'=>r=w/\EP X pins σ Q r s') pl.isList (by lia) (by rw [List.size_toArray] <;> lia) (by lia) (by rw [hj];simpa using ew) ⟨rfl,fin⟩) hs
theorem ix_tup:IxR X (LG X.K):=by
 intro value slice pins s σ H x y v u Q I rx ry h hs
 obtain ⟨p,xs,i,z,rfl,rfl,hq,he,q⟩:=h
 cases rx
 obtain ⟨t,rfl⟩:=ry
 obtain ⟨its,r,pl,hz⟩:=I.tuple hq
 obtain ⟨j,h1,h2,h3,h4,h5⟩:=Gx he
 obtain ⟨w,ew,rw'⟩:=r.get h2
 have hl:=r.length
 have hn:=E3
 have fin:EP X pins σ Q w s:=⟨z,H,I,rw',q⟩
 exact subscriptTail_builtinR (x:=w) pl.typeIs slot_tuple_getitem.lookup
  (getItem_tuple (j:=j) (Q:=fun r s'=>r=w/\EP X pins σ Q r s') pl (by lia) (by lia) (by rw [List.size_toArray,<- hl];exact h1) (by simpa using ew) ⟨rfl,fin⟩) hs
theorem Le:IxR X Ky:=by
 intro value slice pins s σ H x y v u Q I rx ry h hs
 obtain ⟨z,i,c,rfl,rfl,hz,he,q⟩:=h
 obtain ⟨t,rfl⟩:=rx
 obtain ⟨t',rfl⟩:=ry
 obtain ⟨j,h1,h2,h3,h4,h5⟩:=Gx he
 have hl:z.cps.toList.length=z.length:=by simp [Str.length]
 rw [hl] at h1 h4 h5
 have hn:=E3
 exact tail_any (typeIs_str s z t) slot_str_getitem.lookup (getItem_str (c:=c) (by
  have e1:decide (i < -(2 ^ 63:Int))=false:=decide_eq_false (by lia)
  have e2:decide (i ≥ 2 ^ 63)=false:=decide_eq_false (by lia)
  rw [e1,e2,Bool.or_false]) (by rw [h1];simpa using h2) ⟨.str ⟨#[c]⟩,H,I.tok _,⟨_,rfl⟩,q⟩) hs
noncomputable def rIx (K:W.Frag):R2:=fun x y H Q=>J3 K x y H Q\/LG K x y H Q\/Ky x y H Q
theorem ix_seq:IxR X (rIx X.K):=ix_list.or (ix_tup.or Le)
theorem Lp (its:List Value) (n j:Nat) (u:Value):Obj.mapSeq (·.setIfInBounds j u) { cls:=.type "list",data:=.seq its.toArray n } = { cls:=.type "list",data:=.seq (its.set j u).toArray n }:=by
 simp [Obj.mapSeq]
theorem Inv.lst {pins:List (Addr × Obj)} {σ:St} {H:Hp} {s:Shared} {p:Addr} {xs:List V} (I:Inv X pins σ H s) (h:H p=some (.lst xs)) :
 ∃ (its:List Value) (n:Nat),Vals xs its/\s.heap.get? p=some { cls:=.type "list",data:=.seq its.toArray n } /\ xs.length<=sizeLine:=by
 obtain ⟨z,its,n,r,e⟩:=I.hok p _ h
 exact ⟨its,n,r,e,z⟩
theorem Inv.lstUpd {pins:List (Addr × Obj)} {σ:St} {H:Hp} {s:Shared} {p:Addr} {xs ys:List V} {its its':List Value} {n n':Nat} {f:Obj->Obj} (I:Inv X pins σ H s) (h:H p=some (.lst xs))
 (ho:s.heap.get? p=some { cls:=.type "list",data:=.seq its.toArray n }) (hf:f { cls:=.type "list",data:=.seq its.toArray n } = { cls:=.type "list",data:=.seq its'.toArray n' }) (r:Vals ys its') (hz:ys.length<=sizeLine) (t:Nat) :
 Inv X pins σ (upd H p (.lst ys)) { s with heap:=s.heap.update p f,toks:=t }:=by
 have e:(s.heap.update p f).get? p=some { cls:=.type "list",data:=.seq its'.toArray n' }:=by
  rw [Heap.get?_update_self f ho (by rw [hf] <;> rfl),hf]
 refine I.write (x:=p) (e:=p) (by rw [h];trivial) (.inl rfl) (fun b u hb q=>(Heap.get?_update_other _ _ (Ne.symm hb)).trans q) ⟨_,e⟩ ?_
 exact ⟨hz,its',n',r,e⟩
noncomputable def Qx:V->V->V->Hp->(Hp->Prop)->Prop:=fun o i v H Q=>∃ p xs k j,o=.ref p/\i=.int k/\H p=some (.lst xs)/\ixN xs.length k=some j/\Q (upd H p (.lst (xs.set j v)))
theorem P3:GV X Qx:=by
 intro pins s σ H o i v ov iv u Q I ro ri rv h
 obtain ⟨p,xs,k,j,rfl,rfl,hp,hj,q⟩:=h
 cases ro
 obtain ⟨t,rfl⟩:=ri
 obtain ⟨its,n,r,ho,hz⟩:=I.lst hp
 obtain ⟨h1,h2,h3,h4⟩:=Jj hj
 have hl:=r.length
 have hn:=E3
 have I':Inv X pins σ (upd H p (.lst (xs.set j v))) { s with heap:=s.heap.update p (Obj.mapSeq (·.setIfInBounds j u)) } :=
  I.lstUpd hp ho (Lp its n j u) (r.set rv j) (by rw [List.length_set];exact hz) s.toks
 by_cases h0:0<=k
 ·have hk:k.toNat=j:=by
   rw [seqIndex_of h0 h4] at h1
   exact Option.some.inj h1
  exact PySem.W.ki_setAt ho h0 (by lia) (by rw [List.size_toArray,<- hl];exact h4) (by rw [hk];exact ⟨_,I',q⟩)
 ·have hk:(k+(its.toArray.size:Int)).toNat=j:=by
   rw [seqIndex_neg (by lia) h3] at h1
   rw [List.size_toArray,<- hl]
   exact Option.some.inj h1
  exact PySem.W.ki_setBack ho (by lia) (by rw [List.size_toArray,<- hl];exact h3) (by lia) (by rw [hk];exact ⟨_,I',q⟩)
theorem Ma (lo hi:Option Int) (n:Nat):(sliceBounds lo hi none n).1=((HT.sIx n 0 lo:Nat):Int)/\(sliceBounds lo hi none n).2.1=((HT.sIx n n hi:Nat):Int)/\(sliceBounds lo hi none n).2.2=1:=by
 refine ⟨?_,?_,rfl⟩
 ·cases lo with
  | none=>simp [sliceBounds,HT.sIx]
  | some i =>
   simp only [sliceBounds,HT.sIx,Option.getD_none,show (1:Int) > 0 by decide,if_true]
   by_cases h:i < 0
   ·simp only [h,if_true] <;> lia
   ·simp only [h,if_false] <;> lia
 ·cases hi with
  | none=>simp [sliceBounds,HT.sIx]
  | some i =>
   simp only [sliceBounds,HT.sIx,Option.getD_none,show (1:Int) > 0 by decide,if_true]
   by_cases h:i < 0
   ·simp only [h,if_true] <;> lia
   ·simp only [h,if_false] <;> lia
theorem Ni (its:List Value) (lo hi:Option Int):slicePick its.toArray lo hi none=((its.drop (HT.sIx its.length 0 lo)).take (HT.sIx its.length its.length hi - HT.sIx its.length 0 lo)).toArray:=by
 obtain ⟨h1,h2,h3⟩:=Ma lo hi its.toArray.size
 unfold slicePick
 rw [h1,h2,h3]
 simp only [sliceRange_one,pick_run,List.size_toArray] <;> rfl
noncomputable def Ln (K:W.Frag):V->Option Int->Option Int->Hp->VK->Prop:=fun x lo hi H Q=>∃ a xs,x=.ref a/\SqL K H a xs/\∀ p,H p=none->Q (.ref p) (upd H p (.lst (BB xs lo hi)))
theorem OJ:SlR X (Ln X.K):=by
 intro pins s σ H x v vl vu lo hi sl Q I rx hs pl pu h
 obtain ⟨a,xs,rfl,hx,q⟩:=h
 cases rx
 obtain ⟨its,r,ht,hz⟩:=I.list hx
 have hlen:=r.length
 refine ⟨"list",_,slot_list_getitem.lookup,ht.isList.typeIs,?_⟩
 refine wpAny_getItem_list_slice ht.isList hs pl pu .none (by simp) ?_ (by rw [List.size_toArray] <;> lia)
 rw [Ni,<- hlen]
 refine ⟨.ref s.heap.objs.size,_,I.laid (t':=s.toks) (o:=.lst (BB xs lo hi)) (fun b ob q=>Heap.get?_push_of_some _ q) (Nat.le_refl _) ?_,rfl,q _ (I.hok.fresh (Nat.le_refl _))⟩
 exact ⟨Nat.le_trans (Eo xs lo hi) hz,_,0,(r.drop (HT.sIx xs.length 0 lo)).take (HT.sIx xs.length xs.length hi - HT.sIx xs.length 0 lo),Heap.get?_push_size _ rfl⟩
noncomputable def Bz:V->Bool
 | .non=>true
 | .bl _=>true
 | .int _=>true
 | .str _=>true
 | _=>false
noncomputable def eqV:V->V->Bool
 | .non,.non=>true
 | .bl a,.bl b=>a == b
 | .bl a,.int b=>(if a then 1 else 0) == b
 | .int a,.bl b=>a == (if b then 1 else 0)
 | .int a,.int b=>a == b
 | .str a,.str b=>a == b
 | _,_=>false
theorem Pe {A:Around} {s:Shared} {y x:V} {u v:Value} (ry:RelV y u) (rx:RelV x v) (fy:Bz y=true) (fx:Bz x=true):SeqAt.EqAt A s u v (eqV y x):=by
 cases y with
 | non =>
  cases ry
  cases x with
  | non=>cases rx;exact SeqAt.EqAt.same _
  | bl b=>cases rx;exact SeqAt.EqAt.none_bool b
  | int b=>obtain ⟨t,rfl⟩:=rx;exact SeqAt.EqAt.none_int b t
  | str b=>obtain ⟨t,rfl⟩:=rx;exact SeqAt.EqAt.none_str b t
  | _=>exact absurd (show false=true from fx) Bool.false_ne_true
 | bl a =>
  cases ry
  cases x with
  | non=>cases rx;exact SeqAt.EqAt.bool_none a
  | bl b=>cases rx;exact SeqAt.EqAt.bool_bool a b
  | int b=>obtain ⟨t,rfl⟩:=rx;exact SeqAt.EqAt.bool_int a b t
  | str b=>obtain ⟨t,rfl⟩:=rx;exact SeqAt.EqAt.bool_str a b t
  | _=>exact absurd (show false=true from fx) Bool.false_ne_true
 | int a =>
  obtain ⟨t',rfl⟩:=ry
  cases x with
  | non=>cases rx;exact SeqAt.EqAt.int_none a t'
  | bl b=>cases rx;exact SeqAt.EqAt.int_bool a t' b
  | int b=>obtain ⟨t,rfl⟩:=rx;exact SeqAt.EqAt.int_int a t' b t
  | str b=>obtain ⟨t,rfl⟩:=rx;exact SeqAt.EqAt.int_str a t' b t
  | _=>exact absurd (show false=true from fx) Bool.false_ne_true
 | str a =>
  obtain ⟨t',rfl⟩:=ry
  cases x with
  | non=>cases rx;exact SeqAt.EqAt.str_none a t'
  | bl b=>cases rx;exact SeqAt.EqAt.str_bool a t' b
  | int b=>obtain ⟨t,rfl⟩:=rx;exact SeqAt.EqAt.str_int a t' b t
  | str b=>obtain ⟨t,rfl⟩:=rx;exact SeqAt.EqAt.str_str a t' b t
  | _=>exact absurd (show false=true from fx) Bool.false_ne_true
 | _=>exact absurd (show false=true from fy) Bool.false_ne_true
noncomputable def eqU (x:V) (u:Value):Bool:=match u with
 | .none=>eqV .non x
 | .bool b=>eqV (.bl b) x
 | .int i _=>eqV (.int i) x
 | .str z _=>eqV (.str z) x
 | _=>false
theorem Kd {x y:V} {u:Value} (r:RelV y u) (f:Bz y=true):eqU x u=eqV y x:=by
 cases y with
 | non=>cases r;rfl
 | bl b=>cases r;rfl
 | int i=>obtain ⟨t,rfl⟩:=r;rfl
 | str z=>obtain ⟨t,rfl⟩:=r;rfl
 | _=>exact absurd (show false=true from f) Bool.false_ne_true
theorem E2 {x:V}:∀ {xs:List V} {us:List Value},Vals xs us->xs.all Bz=true->us.any (eqU x)=xs.any fun y=>eqV y x
 | _,_,.nil,_=>rfl
 | y::xs,u::us,.cons r t,f=>by
  rw [List.all_cons,Bool.and_eq_true] at f
  rw [List.any_cons,List.any_cons,Kd r f.1,E2 t f.2]
theorem Ei {A:Around} {s:Shared} {x:V} {v:Value} (rx:RelV x v) (fx:Bz x=true):∀ {xs:List V} {us:List Value},Vals xs us->xs.all Bz=true->∀ u∈us,SeqAt.EqAt A s u v (eqU x u)
 | _,_,.nil,_=>fun u hu=>by cases hu
 | y::xs,u::us,.cons r t,f=>fun u' hu=>by
  rw [List.all_cons,Bool.and_eq_true] at f
  rcases List.mem_cons.mp hu with rfl | hu
  ·rw [Kd r f.1];exact Pe r rx f.1 fx
  ·exact Ei rx fx t f.2 u' hu
noncomputable def inV (x:V) (xs:List V):Bool:=xs.any fun y=>eqV y x
noncomputable def rIn (K:W.Frag) (neg:Bool):R2:=fun x y H Q=>∃ p xs,y=.ref p/\(SqL K H p xs\/SqT K H p xs)/\Bz x=true/\xs.all Bz=true/\Q (.bl (if neg then !inV x xs else inV x xs)) H
theorem NT:OpR X (compareOp .In) (rIn X.K false):=by
 intro pins s σ H x y v u Q I rx ry h
 obtain ⟨p,xs,rfl,hq,fx,fs,q⟩:=h
 cases ry
 rcases hq with hq | hq
 ·obtain ⟨its,r,pl,hz⟩:=I.list hq
  refine SeqAt.in_listAt (eqU x) pl.isList (fun w hw=>Ei rx fx r fs w (by simpa using hw)) ⟨.bl _,H,I,rfl,?_⟩
  rw [show its.toArray.any (eqU x)=its.any (eqU x) by simp,E2 r fs]
  exact q
 ·obtain ⟨its,r,pl,hz⟩:=I.tuple hq
  refine SeqAt.in_tupleAt (eqU x) pl (fun w hw=>Ei rx fx r fs w (by simpa using hw)) ⟨.bl _,H,I,rfl,?_⟩
  rw [show its.toArray.any (eqU x)=its.any (eqU x) by simp,E2 r fs]
  exact q
theorem Pr:OpR X (compareOp .NotIn) (rIn X.K true):=by
 intro pins s σ H x y v u Q I rx ry h
 obtain ⟨p,xs,rfl,hq,fx,fs,q⟩:=h
 cases ry
 rcases hq with hq | hq
 ·obtain ⟨its,r,pl,hz⟩:=I.list hq
  refine SeqAt.notIn_listAt (eqU x) pl.isList (fun w hw=>Ei rx fx r fs w (by simpa using hw)) ⟨.bl _,H,I,rfl,?_⟩
  rw [show its.toArray.any (eqU x)=its.any (eqU x) by simp,E2 r fs]
  exact q
 ·obtain ⟨its,r,pl,hz⟩:=I.tuple hq
  refine SeqAt.notIn_tupleAt (eqU x) pl (fun w hw=>Ei rx fx r fs w (by simpa using hw)) ⟨.bl _,H,I,rfl,?_⟩
  rw [show its.toArray.any (eqU x)=its.any (eqU x) by simp,E2 r fs]
  exact q
theorem call_list_of:CallR X (.type "list") (fun xs H Q=>∃ p ys,xs=[.ref p]/\(SqL X.K H p ys\/SqT X.K H p ys)/\∀ l,H l=none->Q (.ref l) (upd H l (.lst ys))):=by
 intro pins s σ H xs us Q I r h
 obtain ⟨p,ys,rfl,hq,q⟩:=h
 obtain ⟨u,rfl,rx⟩:=Bd r
 cases rx
 have fin:∀ (its:List Value),Vals ys its->ys.length<=sizeLine->∀ (h':Heap) (c':Nat),(∀ b o',s.heap.get? b=some o'->h'.get? b=some o') ->
  h'.get? s.heap.objs.size=some { cls:=.type "list",dict:=none,data:=.seq its.toArray c',slots:=#[] } -> EP X pins σ Q (.ref s.heap.objs.size) { s with heap:=h' }:=fun its r' hz h' c' kp e =>
  ⟨.ref s.heap.objs.size,_,I.laid (t':=s.toks) kp (Nat.le_refl _) (show ObjOk X.prog X.w _ h' _ (.lst ys) from ⟨hz,its,c',r',e⟩),rfl,q _ (I.hok.fresh (Nat.le_refl _))⟩
 rcases hq with hq | hq
 ·obtain ⟨its,r',pl,hz⟩:=I.list hq
  have hlen:=r'.length
  obtain ⟨o,ho,hc,n,hd⟩:=pl.isList
  exact call_list_seq p (.inl rfl) ho hc hd (fun h' c' kp e=>fin its r' hz h' c' kp e) (by simp only [List.size_toArray] <;> lia)
 ·obtain ⟨its,r',pl,hz⟩:=I.tuple hq
  have hlen:=r'.length
  obtain ⟨o,ho,hc,n,hd⟩:=pl
  exact call_list_seq p (.inr rfl) ho hc hd (fun h' c' kp e=>fin its r' hz h' c' kp e) (by simp only [List.size_toArray] <;> lia)
theorem call_tuple_of:CallR X (.type "tuple") (fun xs H Q=>∃ p ys,xs=[.ref p]/\((SqL X.K H p ys/\∀ l,H l=none->Q (.ref l) (upd H l (.tup ys)))\/(SqT X.K H p ys/\Q (.ref p) H))):=by
 intro pins s σ H xs us Q I r h
 obtain ⟨p,ys,rfl,h⟩:=h
 obtain ⟨u,rfl,rx⟩:=Bd r
 cases rx
 rcases h with ⟨hq,q⟩ | ⟨hq,q⟩
 ·obtain ⟨its,r',pl,hz⟩:=I.list hq
  have hlen:=r'.length
  refine call_tuple_list pl.isList (fun h' kp=>?_) (by simp only [List.size_toArray] <;> lia)
  have I1:Inv X pins σ H { s with heap:=h' }:=I.kept (t':=s.toks) kp
  have I2:Inv X pins σ (upd H h'.objs.size (.tup ys)) { s with heap:=h'.push { cls:=.type "tuple",data:=.seq its.toArray } } :=
   I1.laid (t':=s.toks) (fun b o e=>Heap.get?_push_of_some _ e) (Nat.le_refl _) (show ObjOk X.prog X.w _ _ _ (.tup ys) from ⟨hz,its,r',IsTupN.new _ _⟩)
  exact ⟨.ref h'.objs.size,_,I2,rfl,q _ (I1.hok.fresh (Nat.le_refl _))⟩
 ·obtain ⟨its,r',pl,hz⟩:=I.tuple hq
  exact call_tuple_same pl ⟨.ref p,H,I,rfl,q⟩
noncomputable def tyV (K:W.Frag) (T:String) (x:V) (H:Hp):Prop:=match x with
 | .str _=>T = "str"
 | .int _=>T = "int"
 | .ref p=>(T = "list" /\ ∃ xs,SqL K H p xs)\/(T = "tuple" /\ ∃ o,K.lookup p=some o/\o.cls=.type "tuple" /\ o.dict=none) \/
  (T = "dict" /\ ((∃ kvs,H p=some (.dK kvs))\/∃ kvs,H p=some (.dT kvs)))\/(T = "set" /\ ∃ S n,H p=some (.set S n))
 | _=>False
theorem Hu {pins:List (Addr × Obj)} {σ:St} {H:Hp} {s:Shared} {T:String} {x:V} {v:Value} (I:Inv X pins σ H s) (r:RelV x v) (ty:tyV X.K T x H) :
 s.TypeIs v T/\∀ a,v=.ref a->∃ ob,s.heap.get? a=some ob/\ob.dict=none:=by
 cases x with
 | str z =>
  obtain ⟨t,rfl⟩:=r
  cases (show T = "str" from ty)
  exact ⟨typeIs_str s z t,fun _ e=>nomatch e⟩
 | int i =>
  obtain ⟨t,rfl⟩:=r
  cases (show T = "int" from ty)
  exact ⟨typeIs_int s i t,fun _ e=>nomatch e⟩
 | ref p =>
  cases r
  rcases ty with ⟨rfl,xs,hq⟩ | ⟨rfl,o,hk,hc,hd⟩ | ⟨rfl,hk⟩ | ⟨rfl,S,n,hk⟩
  ·obtain ⟨its,_,pl,_⟩:=I.list hq
   refine ⟨pl.isList.typeIs,fun a e=>?_⟩
   cases e
   obtain ⟨o,n,e,c,hd,_⟩:=pl
   exact ⟨o,e,hd⟩
  ·refine ⟨⟨o,I.kIn p o hk,hc⟩,fun a e=>?_⟩
   cases e
   exact ⟨o,I.kIn _ o hk,hd⟩
  ·have z:∃ o,s.heap.get? p=some o/\o.ExactDict:=by
    rcases hk with ⟨kvs,hk⟩ | ⟨kvs,hk⟩
    ·obtain ⟨_,_,_,_,o,_,_,e,ex,_⟩:=I.hok p _ hk
     exact ⟨o,e,ex⟩
    ·obtain ⟨_,_,_,_,o,_,_,e,ex,_⟩:=I.hok p _ hk
     exact ⟨o,e,ex⟩
   obtain ⟨o,e,ex⟩:=z
   refine ⟨⟨o,e,ex.1⟩,fun a e2=>?_⟩
   cases e2
   exact ⟨o,e,ex.2.1⟩
  ·obtain ⟨o,_,_,_,e,ex,_⟩:=I.hok p _ hk
   refine ⟨⟨o,e,ex.1⟩,fun a e2=>?_⟩
   cases e2
   exact ⟨o,e,ex.2.1⟩
 | _=>exact False.elim ty
noncomputable def GX (K:W.Frag) (T:String) (r:V->List V->Hp->VK->Prop) (to:TE):TE:=fun σ H Q=>to σ H fun x H1=>tyV K T x H1/\r x [] H1 Q
noncomputable def tBM (K:W.Frag) (T:String) (r:V->List V->Hp->VK->Prop) (to:TE) (t:TA):TE:=fun σ H Q=>to σ H fun x H1=>tyV K T x H1/\t σ H1 fun xs H2=>r x xs H2 Q
variable {o e:Expr} {es:List Expr} {to:TE} {t:TA} {name:Str} {apos cpos:Pos} {T id:String} {r:V->List V->Hp->VK->Prop}
theorem N9 (pa:PlainAttrs T) (slot:Slot T name id) (hty:typeOf (.builtin id)=pure (.type "method_descriptor")) (hm:MtR X id r) (ho:PE X o to)
 (hbase:attributeBase o name X.env (eval o X.env)=eval o X.env:=by rfl) (hline:(apos.endLine == cpos.line)=true:=by rfl):PE X (.Call (.Attribute o name apos) [] [] cpos) (GX X.K T r to):=by
 intro pins s σ H Q I h
 refine wpAny_Call_method0_late hbase hline (thn (ho pins s σ H _ I h) fun v s1 ⟨x,H1,I1,r1,ty,q1⟩=>?_)
 obtain ⟨h1,h2⟩:=Hu I1 r1 ty
 exact ⟨T,id,pa,slot,hty,h1,h2,Calls.callWith_builtin rfl (PySem.evalArgs_none (hm pins s1 σ H1 x [] v [] Q I1 r1 .nil q1))⟩
theorem PM (pa:PlainAttrs T) (slot:Slot T name id) (hty:typeOf (.builtin id)=pure (.type "method_descriptor")) (hm:MtR X id r) (ho:PE X o to) (ha:PA X (e::es) t)
 (hbase:attributeBase o name X.env (eval o X.env)=eval o X.env:=by rfl)
 (hfew:((backTo cpos (starEach (e::es) X.env)).all (fun x=>!x.1) && (backToKw cpos (keywordEach [] X.env)).all (fun x=>x.1.isSome)
   && decide ((e::es).length+([]:List Keyword).length+(if ([]:List Keyword).isEmpty then 0 else 1) < 30))=true:=by rfl)
 (hline:(apos.endLine == cpos.line)=true:=by rfl) (hs:starEach (e::es) X.env=(false,eval e X.env)::starEach es X.env:=by rfl) (hplain:(backTo cpos (starEach es X.env)).any (·.1)=false:=by rfl) :
 PE X (.Call (.Attribute o name apos) (e::es) [] cpos) (tBM X.K T r to t):=by
 intro pins s σ H Q I h
 refine wpAny_Call_method_late hbase hfew hline rfl (thn (ho pins s σ H _ I h) fun v s1 ⟨x,H1,I1,r1,ty,q1⟩=>?_)
 obtain ⟨h1,h2⟩:=Hu I1 r1 ty
 refine ⟨T,id,pa,slot,hty,h1,h2,?_⟩
 have hA:=ha cpos pins s1 σ H1 _ I1 q1
 rw [hs] at hA ⊢
 refine Calls.callWith_builtin (by show (false || (backTo cpos (starEach es X.env)).any (·.1))=false;rw [hplain] <;> rfl) (Calls.evalArgs_plain ?_)
 exact thn hA fun us s2 ⟨vs,H2,I2,r2,q2⟩=>hm pins s2 σ H2 x vs v us Q I2 r1 r2 q2
end
noncomputable def MtM (X:Cx) (id:String) (r:V->List V->Hp->VK->Prop):Prop :=
 ∀ (pins:List (Addr × Obj)) (s:Shared) (σ:St) (H:Hp) (x:V) (xs:List V) (v:Value) (us:List Value) (Q:VK),Inv X pins σ H s->RelV x v->Vals xs us->r x xs H Q ->
  wpAny (model X.prog X.w) X.A (call (.builtin id) (v::us)) (EP X pins σ Q) X.xe s
theorem Vals.one:∀ {x:V} {us:List Value},Vals [x] us->∃ u,us=[u]/\RelV x u
 | _,_,.cons r .nil=>⟨_,rfl,r⟩
theorem Vals.zero:∀ {us:List Value},Vals [] us->us=[]
 | _,.nil=>rfl
theorem Vals.eraseIdx:∀ {xs:List V} {us:List Value} (i:Nat),Vals xs us->Vals (xs.eraseIdx i) (us.eraseIdx i)
 | _,_,_,.nil=>.nil
 | _,_,0,.cons _ t=>t
 | _,_,i+1,.cons r t=>.cons r (Vals.eraseIdx i t)
theorem Vals.rep {xs:List V} {us:List Value} (h:Vals xs us):∀ k:Nat,Vals (List.replicate k xs).flatten (List.replicate k us).flatten
 | 0=>.nil
 | k+1=>by
  rw [List.replicate_succ,List.replicate_succ,List.flatten_cons,List.flatten_cons]
  exact Vals.append h (Vals.rep h k)
theorem I0 {α:Type}:∀ (l:List α) (i:Nat),(l.eraseIdx i).length<=l.length
 | [],_=>Nat.le_refl _
 | _::_,0=>Nat.le_succ _
 | _::r,i+1=>Nat.succ_le_succ (I0 r i)
theorem JZ (its:List Value):∀ (k:Nat) (acc:List Value),
 List.foldl (fun x1 x2=>x1++x2) acc.toArray (List.replicate k its.toArray)=(acc++(List.replicate k its).flatten).toArray
 | 0,acc=>by simp
 | k+1,acc=>by
  have e:acc.toArray++its.toArray=(acc++its).toArray:=by simp
  have e2:(acc++its)++(List.replicate k its).flatten=acc++(List.replicate (k+1) its).flatten:=by
   rw [List.replicate_succ,List.flatten_cons,List.append_assoc]
  rw [<- e2,<- JZ its k (acc++its),<- e,List.replicate_succ,List.foldl_cons]
section
variable {X:Cx} {pins:List (Addr × Obj)} {σ:St} {H:Hp} {s:Shared} {l b:Addr} {xs ys zs:List V}
theorem Inv.lset {its its':List Value} {n:Nat} {f:Array Value->Array Value} {t':Nat} (I:Inv X pins σ H s) (hH:H l=some (.lst xs))
 (e:s.heap.get? l=some { cls:=.type "list",data:=.seq its.toArray n }) (hf:f its.toArray=its'.toArray) (hv:Vals ys its') (hz:ys.length<=sizeLine) :
 Inv X pins σ (upd H l (.lst ys)) { s with heap:=s.heap.update l (Obj.mapSeq f),toks:=t' }:=by
 have q:=PySem.IsL.update e f
 rw [hf] at q
 refine I.write (x:=l) (e:=l) (by rw [hH];exact trivial) (.inl rfl) (fun b' u hb hu=>(Heap.get?_update_other s.heap (Obj.mapSeq f) (Ne.symm hb)).trans hu) ⟨_,q⟩ ?_
 exact ⟨hz,its',_,hv,q⟩
theorem Inv.lnew {its:List Value} {t':Nat} (I:Inv X pins σ H s) (hv:Vals ys its) (hz:ys.length<=sizeLine) :
 Inv X pins σ (upd H s.heap.objs.size (.lst ys)) { s with heap:=s.heap.push { cls:=.type "list",data:=.seq its.toArray },toks:=t' } :=
 I.laid (fun _ _ q=>Heap.get?_push_of_some _ q) (Nat.le_refl _) ⟨hz,its,0,hv,Heap.get?_push_size _ rfl⟩
theorem Inv.fresh (I:Inv X pins σ H s):H s.heap.objs.size=none:=I.hok.fresh (Nat.le_refl _)
theorem Inv.lstM (I:Inv X pins σ H s) (hH:H l=some (.lst xs)):xs.length<=sizeLine/\∃ (its:List Value) (n:Nat),Vals xs its/\xs.length=its.length/\s.heap.get? l=some { cls:=.type "list",data:=.seq its.toArray n }:=by
 obtain ⟨z,its,n,r,e⟩:=I.hok l _ hH
 exact ⟨z,its,n,r,r.length,e⟩
theorem N0 {n:Nat} (h:n<=sizeLine):Builtin.List.listTooLong n=false:=by
 unfold Builtin.List.listTooLong
 exact decide_eq_false (by lia)
end
section
variable {X:Cx}
noncomputable def O4:V->List V->Hp->VK->Prop:=fun x vs H Q=>∃ l xs i k y,x=.ref l/\vs=[.int i]/\H l=some (.lst xs) /\ -(2 ^ 63)<=i/\i < 2 ^ 63/\seqIndex? i xs.length=some k/\xs[k]? = some y/\Q y (upd H l (.lst (xs.eraseIdx k)))
theorem Ml:MtM X "list.pop" O4:=by
 intro pins s σ H x vs v us Q I rx rv h
 obtain ⟨l,xs,i,k,y,rfl,rfl,hH,h1,h2,hk,hy,q⟩:=h
 cases rx
 obtain ⟨u,rfl,ru⟩:=rv.one
 obtain ⟨t,rfl⟩:=ru
 obtain ⟨z,its,n,r,hl,e⟩:=I.lstM hH
 obtain ⟨w,hw,rw'⟩:=r.get hy
 refine call_meets F.slot_list_pop ⟨_,e,rfl⟩ F.entry_list_pop (F.args_list_pop_2 _ _)
  (MeetsSeq.list_pop_at l its.toArray n i t k w (fitsIndex_both h1 h2) (by rw [List.size_toArray,<- hl];exact hk) (by rw [<- Array.getElem?_toList];exact hw) (by rw [List.size_toArray];lia)) ⟨e,?_⟩
 refine ⟨y,_,I.lset (its':=its.eraseIdx k) hH e ?_ (r.eraseIdx k) ?_,rw',q⟩
 ·show its.toArray.eraseIdxIfInBounds k=(its.eraseIdx k).toArray
  rw [List.eraseIdxIfInBounds_toArray]
 ·have:=I0 xs k
  lia
noncomputable def G1:R2:=fun x y H Q=>∃ l b xs zs,x=.ref l/\y=.ref b/\H l=some (.lst xs)/\H b=some (.lst zs)/\xs.length+zs.length<=sizeLine/\∀ p,H p=none->Q (.ref p) (upd H p (.lst (xs++zs)))
theorem Kx:OpR X (binaryOp .Add) G1:=by
 intro pins s σ H x y v u Q I rx ry h
 obtain ⟨l,b,xs,zs,rfl,rfl,hH,hB,hz,q⟩:=h
 cases rx
 cases ry
 obtain ⟨z,its,n,r,hl,e⟩:=I.lstM hH
 obtain ⟨z2,its2,n2,r2,hl2,e2⟩:=I.lstM hB
 refine PySem.P.add_list e e2 ?_ (by rw [List.size_toArray,List.size_toArray];lia)
 have ea:its.toArray++its2.toArray=(its++its2).toArray:=by simp
 rw [ea]
 exact ⟨.ref _,_,I.lnew (t':=s.toks) (r.append r2) (by rw [List.length_append];lia),rfl,q _ I.fresh⟩
noncomputable def Jw:R2:=fun x y H Q=>∃ l k xs,x=.ref l/\y=.int k/\H l=some (.lst xs) /\ -(2 ^ 63)<=k/\k < 2 ^ 63/\xs.length * k.toNat<=sizeLine /\
 ∀ p,H p=none->Q (.ref p) (upd H p (.lst (List.replicate k.toNat xs).flatten))
theorem Oa {α:Type} (xs:List α) (k:Nat):(List.replicate k xs).flatten.length=k * xs.length:=by
 induction k with
 | zero=>simp
 | succ k ih=>rw [List.replicate_succ,List.flatten_cons,List.length_append,ih,Nat.succ_mul,Nat.add_comm]
theorem Np:OpR X (binaryOp .Mult) Jw:=by
 intro pins s σ H x y v u Q I rx ry h
 obtain ⟨l,k,xs,rfl,rfl,hH,h1,h2,hz,q⟩:=h
 cases rx
 obtain ⟨t,rfl⟩:=ry
 obtain ⟨z,its,n,r,hl,e⟩:=I.lstM hH
 have hlen:its.toArray.size * k.toNat<=sizeLine:=by rw [List.size_toArray,<- hl];exact hz
 have hcap:¬ its.toArray.size * k.toNat > (2 ^ 63 - 1) / 8:=by
  have:(sizeLine:Nat)<=(2 ^ 63 - 1) / 8:=by decide
  lia
 have hfit:¬ (!Builtin.List.listFitsIndex k)=true:=by
  rw [fitsIndex_both h1 h2]
  exact Bool.false_ne_true
 have hlong:¬ Builtin.List.listTooLong (its.toArray.size * k.toNat)=true:=by
  rw [N0 hlen]
  exact Bool.false_ne_true
 have hnew:List.foldl (fun x1 x2=>x1++x2) #[] (List.replicate (if its.toArray.isEmpty=true then 0 else k.toNat) its.toArray)=(List.replicate k.toNat its).flatten.toArray:=by
  have f0:∀ m:Nat,List.foldl (fun x1 x2=>x1++x2) #[] (List.replicate m its.toArray)=(List.replicate m its).flatten.toArray:=fun m=>by
   have:=JZ its m []
   rw [List.nil_append] at this
   exact this
  rw [f0]
  cases its with
  | nil=>simp
  | cons a r'=>rw [if_neg (by simp)]
 refine wpAny_binaryOp_repeat_ref (T:="list") (U:="int") (by decide) ⟨_,e,rfl⟩ (fun s'=>typeIs_int s' k t) noFill_list_mul F.fills_int_mul F.slot_int_rmul repeat_list F.slot_int_index.lookup
  (call_meets F.slot_int_rmul (typeIs_int s k t) F.entry_int_rmul (F.args_int_rmul_2 _ _) (int___rmul___int_list k t l its.toArray n)
    ⟨e,rfl,⟨_,e,rfl⟩,call_meets F.slot_list_mul ⟨_,e,rfl⟩ F.entry_list_mul (F.args_list_mul_2 _ _) (AutoListH.list___mul___list_int_3 l its.toArray n k t hfit hcap hlong) ⟨e,?_⟩⟩)
 rw [hnew]
 exact ⟨.ref _,_,I.lnew (t':=s.toks) (r.rep k.toNat) (by rw [Oa,Nat.mul_comm];exact hz),rfl,q _ I.fresh⟩
end
section
variable {prog:Program} {w:World} {A:Around} {E:Value->Shared->Prop} {s:Shared}
end
section
variable {X:Cx}
end
end L2
namespace Att
open PySem PySem.W PySem.Calls PyProof.Rows
theorem M8 {P:Params} {h:Heap}:∀ (ns:List Int) (vs:List Value),WellAll P h vs (ns.map WData.int)->IntsAre vs ns:=by
 intro ns
 induction ns with
 | nil =>
  intro vs w
  rw [List.map_nil] at w
  cases w
  exact .nil
 | cons n ns ih =>
  intro vs w
  rw [List.map_cons] at w
  cases w with
  | cons a b =>
   cases a
   exact .cons _ _ (ih _ b)
theorem Mu {l:OpenLaw} {n:Nat} (hn:l.most=some n) {P:Params} {h:Heap} {args:List WData} {vals:List Value}
 (hpre:l.row.toRowW.claim.pre args=true) (hwl:WellAll P h vals args) :
 ∃ a vs ns,vals=[Value.ref a]/\args=[WData.list (ns.map WData.int)]/\h.get? a=some { cls:=.type "list",data:=.seq vs.toArray } /\ IntsAre vs ns/\ns.length<=n:=by
 have hsh:WShape.hasAll [] args [.list .int]=true:=(pre_splitW hpre).1
 have hc:l.pre.holds [] { args:=args } = true:=(pre_splitW hpre).2
 obtain ⟨d,r,rfl,h1,h2⟩:=hasAllW_cons hsh
 obtain rfl:=hasAllW_nil h2
 obtain ⟨xs,rfl,h3⟩:=hasW_list h1
 obtain ⟨ns,rfl⟩:=items_int h3
 have hlen:ns.length<=n:=by
  unfold OpenLaw.pre at hc
  have h4:(WTm.not (.lt (.lit (.int (n:Int))) (.len (.arg 0)))).holds [] { args:=[.list (ns.map .int)] } = true:=by
   have h4:=(holds_andW hc).1
   rw [hn] at h4
   exact h4
  have h5:=condW_of h4 (w_not (w_lt w_lit (w_len_list (w_arg rfl))))
  rw [List.length_map] at h5
  refine Nat.le_of_not_lt fun q=>?_
  have q':(n:Int) < ((ns.length:Nat):Int):=by lia
  first
   | (rw [decide_eq_true q'] at h5;exact absurd h5 (by decide))
   | (simp at h5;lia)
 cases hwl with
 | cons w1 w2 =>
  cases w2
  cases w1 with
  | list ho hall=>exact ⟨_,_,ns,rfl,rfl,ho,M8 ns _ hall,hlen⟩
theorem Qa (l:OpenLaw) (args:List WData):l.row.toRowW.claim.post args (.bool true) args=true :=
 postW_of (r:=l.row.toRowW) (X:=(true == true))
  (show WShape.has [] (.bool true) .bool=true by first | rfl | decide | simp [WShape.has,WShape.arms,WShape.armsAll])
  (show (WTm.eq .res (.lit (.bool true))).value [] { args:=args,res:=some (.bool true),after:=args } = some (.bool (true == true)) from w_eq_bool (w_res rfl) w_lit) rfl
theorem attach_call {l:OpenLaw} {n:Nat} {q:Program} {loose:List Str} {XP:(Str->Option Value)->Heap->Prop} {YP:World->Heap->Prop} {d:DefRec}
 (hn:l.most=some n) (hdf:d.params.defaults=[])
 (call:∀ (w:World) (s₀ s₁:Shared) (mg mb:Str->Option Value) (fa:Addr) (o:Obj) (pm cd doc:Value) (a:Addr) (vs:List Value) (ns:List Int),
   Ground q loose [] XP w s₀ mg mb s₁.heap->YP w s₁.heap ->
   s₁.heap.get? fa=some o->o.data=.func (docDef d.name d.params d.body d.scope pm cd doc)->s₁.heap.CodeRec cd d.name->mg d.name=some (.ref fa) ->
   s₁.heap.get? a=some { cls:=.type "list",data:=.seq vs.toArray } -> IntsAre vs ns->ns.length<=n->s₁.gens = #[] ->
   codeAny (model l.prog w) callerA (.call (.ref fa) ⟨[.ref a],[]⟩) (fun r s'=>r=.ok (.ret (.bool true))/\OldK s₁.heap s'.heap/\s'.os=s₁.os/\AllBare s'.gens) s₁) :
 WalkO q loose XP YP l.row.toRowW d [] (fun f vs=>PySem.call f vs):=by
 intro w s₀ s₁ mg mb G Y fa o pm cd doc dV kV ho hd hcd hD hmg hg args vals as hpre hlay hrd hwl hlo
 obtain rfl:dV=.none:=Dflts.none hD hdf
 obtain rfl:kV=.none:=Dflts.noKw hD
 obtain ⟨a,vs,ns,rfl,rfl,hobj,hints,hlen⟩:=Mu hn hpre hwl
 refine enter_call (codeAny_mono (call w s₀ s₁ mg mb fa o pm cd doc a vs ns G Y ho (fd_plain hd) hcd hmg hobj hints hlen hg) fun r s' hq=>?_)
 obtain ⟨rfl,h2,h3,h4⟩:=hq
 exact ⟨.inl ⟨.bool true,.bool true,[],rfl,fun _=>rfl,.bool true,Qa l _,fun _=>⟨List.Pairwise.nil,fun _ hm=>(nomatch hm)⟩⟩,h2,h3,h4⟩
section
variable {prog:Program} {w:World} {A:Around} {E:Value->Shared->Prop} {s:Shared} {K:Frag}
noncomputable def Fx (h:Heap):Heap:={ h with objs:=#[] }
theorem Ia (h:Heap) (b:Addr):(Fx h).get? b=none:=by
 cases e:(Fx h).get? b with
 | none=>rfl
 | some o=>exact absurd (Heap.lt_size e) (Nat.not_lt_zero _)
theorem Mt {h:Heap} {L:Addr} {m:Str->Option Value} (n:h.Ns L m):Fr (Fx h) L h m :=
 ⟨n,fun b o e=>(by rw [Ia] at e;cases e),Nat.zero_le _⟩
end
end Att
namespace L2
open PySem PySem.Spec PyProof.Rows
theorem JI:∀ {vs:List Value} {ns:List Int},IntsAre vs ns->Vals (ns.map V.int) vs
 | _,_,.nil=>.nil
 | _,_,.cons n t h=>.cons ⟨t,rfl⟩ (JI h)
noncomputable def HX (H:Hp):Prop:=∀ b,H b=none\/∃ o xs,H b=some (.frz o (.lst xs))
theorem Mw {P:Program} {w:World} {K:W.Frag} {mg mb:Str->Option Value} {CX:CXT} {k:Nat} {fa a:Addr} {fd:FuncData} {x:Str} {sp:Sp} {s₁:Shared} {vs:List Value} {ns:List Int}
 (KX:K.In s₁.heap) (hns:s₁.heap.Ns mainGlobals mg) (hb:s₁.heap.Ns builtinsNs mb) (hbb:∀ x:Str,x ≠ "__name__" -> mb x=bootBuiltins x) (hlim:s₁.heap.NoLimit) (hg:s₁.gens = #[])
 (ha:s₁.heap.get? a=some { cls:=.type "list",data:=.seq vs.toArray }) (hi:IntsAre vs ns) (hl:ns.length<=sizeLine) (hr:Room k callerA)
 (F:∀ base:Heap,K.In base->base.Ns mainGlobals mg->FnOk P w K mg base CX k fa fd [x] sp) (hbind:∀ (s:Shared) (u:Value),BindsTo s fd ⟨[u],[]⟩ [(x,u)])
 (hsp:∀ H:Hp,HX H->SqL K H a (ns.map V.int)->sp [.ref a] H (fun v _=>v=.bl true) fun _ _ _=>False)
 (hCX:∀ H e s',CX [] H s₁ (fun _ _ _=>False) e s'->False) :
 codeAny (model P w) callerA (.call (.ref fa) ⟨[.ref a],[]⟩) (fun r s'=>r=.ok (.ret (.bool true))/\OldK s₁.heap s'.heap/\s'.os=s₁.os/\AllBare s'.gens) s₁:=by
 have rv:=JI hi
 have lenV:=hi.length
 -- from an abstract heap in which nothing but the script may be tracked
 have core:∀ H:Hp,HX H->SqL K H a (ns.map V.int)->HOk P w H s₁.heap->(∀ b,H b≠none->b=a)->(H a≠none->K.lookup a=none) ->
  codeAny (model P w) callerA (.call (.ref fa) ⟨[.ref a],[]⟩) (fun r s'=>r=.ok (.ret (.bool true))/\OldK s₁.heap s'.heap/\s'.os=s₁.os/\AllBare s'.gens) s₁:=by
  intro H hO hS hok hA hK
  have base_of:∀ {b:Addr} {o:Obj},s₁.heap.get? b=some o->H b=none->(CK s₁.heap H).get? b=some o:=fun e n=>MN e n
  have noA:∀ {b:Addr} {o:Obj} {es:Array DictEntry} {ep:Nat},s₁.heap.get? b=some o->o.data=.dict es ep->H b=none:=fun {b o es ep} e d=>by
   cases q:H b with
   | none=>rfl
   | some u =>
    have e':b=a:=hA b (by rw [q];simp)
    subst e'
    rw [ha] at e;cases e
    have d':Data.seq vs.toArray _=Data.dict es ep:=d
    cases d'
  have nsK:∀ {b:Addr} {m:Str->Option Value},s₁.heap.Ns b m->(CK s₁.heap H).Ns b m:=fun {b m} ⟨o,es,ep,e,d,r⟩=>⟨o,es,ep,base_of e (noA e d),d,r⟩
  have hKb:K.In (CK s₁.heap H):=fun b o e=>base_of (KX b o e) (by
   cases q:H b with
   | none=>rfl
   | some u =>
    have e':b=a:=hA b (by rw [q];simp)
    subst e'
    rw [hK (by rw [q];simp)] at e;cases e)
  have hM:Mod K mg (CK s₁.heap H):=⟨hKb,nsK hns,⟨mb,nsK hb,hbb⟩,let ⟨mc,h1,h2⟩:=hlim;⟨mc,nsK h1,h2⟩⟩
  have e0:Env0 P w K mg (CK s₁.heap H) callerA [] s₁ H:=⟨rfl,hM,fun b o e=>MS e,Nat.le_of_eq (Li _ _),trivial,fun b hb=>absurd (show b∈([]:List Addr) from hb) (by simp),hok,.of_eq hg⟩
  refine codeAny_mono ((F _ hKb (nsK hns)).run callerA [] s₁ H ⟨[.ref a],[]⟩ [.ref a] [.ref a] _ _ hr e0 (hbind s₁ (.ref a)) (.cons rfl .nil) (hsp H hO hS)) fun r s' h=>?_
  cases r with
  | error e=>exact (hCX H e s' h).elim
  | ok fl =>
   cases fl with
   | next=>exact False.elim h
   | brk=>exact False.elim h
   | cont=>exact False.elim h
   | ret u =>
    obtain ⟨v,H',os,bare,un,hok',r',q⟩:=h
    have q':v=.bl true:=q
    subst q'
    obtain rfl:u=Value.bool true:=r'
    refine ⟨rfl,OldK.of_keep fun b o e=>?_,os,bare⟩
    cases q:H b with
    | none=>exact un.keep b o e q (by intro z;exact absurd (show b∈([]:List Addr) from z) (by simp)) (by simp)
    | some u =>
     rcases hO b with z | ⟨ob,xs,z⟩
     ·rw [q] at z;cases z
     ·have z2:=un.frzs b ob _ z
      obtain ⟨e1,_⟩:=hok b _ z
      obtain ⟨e2,_⟩:=hok' b _ z2
      rw [e] at e1;cases e1
      exact e2
 cases hk:K.lookup a with
 | some o =>
  -- the script is one of the module's own objects
  have e:=KX a o hk
  rw [ha] at e
  cases e
  refine core (fun _=>none) (fun _=>.inl rfl) (.inr ⟨_,vs.toArray,_,hk,rfl,rfl,rfl,by rw [List.size_toArray,lenV];exact hl,by simpa using rv⟩) (fun b u z=>by have z':(none:Option HO)=some u:=z;cases z') (fun b z=>absurd rfl z) fun z=>absurd rfl z
 | none =>
  refine core (fun b=>if b=a then some (.frz { cls:=.type "list",data:=.seq vs.toArray } (.lst (ns.map V.int))) else none) (fun b=>?_) (.inl (.inr ⟨{ cls:=.type "list",data:=.seq vs.toArray },if_pos rfl⟩)) (fun b u z=>?_) (fun b z=>?_) fun _=>hk
  ·by_cases hb:b=a
   ·exact .inr ⟨_,_,if_pos hb⟩
   ·exact .inl (if_neg hb)
  ·by_cases hb:b=a
   ·have z':=(if_pos hb).symm.trans z
    cases z'
    subst hb
    exact ⟨ha,by rw [List.length_map];exact hl,vs,_,rv,ha⟩
   ·have z':=(if_neg hb).symm.trans z
    cases z'
  ·by_cases hb:b=a
   ·exact hb
   ·exact absurd (if_neg hb) z
theorem walk_of {l:PySem.W.OpenLaw} {n k:Nat} {q:Program} {loose:List Str} {XP:(Str->Option Value)->Heap->Prop} {YP:World->Heap->Prop} {d:DefRec} {K:Params->W.Frag} {CX:World->CXT} {sp:World->Sp} {x:Str}
 (hn:l.most=some n) (hn2:n<=sizeLine) (hdf:d.params.defaults=[]) (hr:Room k callerA)
 (hY:∀ (w:World) (h:Heap),YP w h->(K w.params).In h)
 (F:∀ (w:World) (mg:Str->Option Value) (fa:Addr) (h:Heap),(K w.params).In h->h.Ns mainGlobals mg->mg d.name=some (.ref fa) ->
   ∃ fd:FuncData,(∀ (s:Shared) (u:Value),BindsTo s fd ⟨[u],[]⟩ [(x,u)]) /\
    ∀ base:Heap,(K w.params).In base->base.Ns mainGlobals mg->FnOk l.prog w (K w.params) mg base (CX w) k fa fd [x] (sp w))
 (hsp:∀ (w:World) (H:Hp) (a:Addr) (ns:List Int),ns.length<=n->HX H->SqL (K w.params) H a (ns.map V.int)->sp w [.ref a] H (fun v _=>v=.bl true) fun _ _ _=>False)
 (hCX:∀ (w:World) (H:Hp) (s:Shared) (e:Value) (s':Shared),CX w [] H s (fun _ _ _=>False) e s'->False) :
 PySem.W.WalkO q loose XP YP l.row.toRowW d [] (fun f vs=>PySem.call f vs):=by
 refine Att.attach_call hn hdf fun w s₀ s₁ mg mb fa o pm cd doc a vs ns G Y ho hd hcd hmg hobj hints hlen hg=>?_
 have KX:=hY w _ Y
 obtain ⟨fd,hb,hF⟩:=F w mg fa _ KX G.T.g hmg
 exact Mw KX G.T.g G.T.b G.T.builtins G.T.nolimit hg hobj hints (Nat.le_trans hlen hn2) hr hF hb (fun H hO hS=>hsp w H a ns hlen hO hS) fun H e s'=>hCX w H s₁ e s'
noncomputable def AU (s:Stmt):Arguments:=match s with
 | .FunctionDef _ a _ _ _ _ _ _ _ _=>a
 | _=>{ posonlyargs:=[],args:=[],vararg:=none,kwonlyargs:=[],kw_defaults:=[],kwarg:=none,defaults:=[] }
noncomputable def AS (s:Stmt):List Stmt:=match s with
 | .FunctionDef _ _ b _ _ _ _ _ _ _=>b
 | _=>[]
noncomputable def AJ (s:Stmt):Scope:=match s with
 | .FunctionDef _ _ _ _ _ _ sc _ _ _=>sc
 | _=>{ kind:=.function,names:=[],isGenerator:=false,isCoroutine:=false }
noncomputable abbrev CX0:CXT:=fun _ _ _ _ _ _=>False
noncomputable abbrev E0:XK:=fun _ _ _=>False
theorem AG {X:Cx}:GU CX0 X E0:=fun _ _ _ _ _ _ _ h=>h.elim
structure Fun (K:W.Frag) (x qual:Str) (st:Stmt) (f:Addr) (fd:FuncData):Prop where
 ex:∃ (oc:Value) (od:Option Addr) (kV doc pm:Value) (an:Option Addr) (cdv ct:Value) (osl:Array (Option Value)),
  fd=PySem.W.fnOf x qual (AU st) (AS st) (AJ st) .none kV doc pm an cdv ct/\K.lookup f=some ⟨oc,od,.func fd,osl⟩/\PySem.W.codeIn K cdv qual=true
 kp:PySem.W.keepIn K (.ref f)=true
section
variable {P:Program} {w:World} {K:W.Frag} {mg:Str->Option Value} {base:Heap}
theorem Fun.ok {x qual:Str} {st:Stmt} {f:Addr} {fd:FuncData} {N ps:List Str} {k:Nat} {sp:Sp} (F:Fun K x qual st f fd) (S:FnScope N ps (AJ st)) (len:∀ vs H Q E,sp vs H Q E->vs.length=ps.length)
 (hbody:∀ (cdv:Value) (A:Around) (outer:List Env) (s:Shared) (H:Hp) (vs:List V) (Q:VK) (E:XK),Room k (A.deeper (envOfC qual (AJ st) s.heap.objs.size f cdv))->sp vs H Q E ->
   ∃ t,PSs (EB CX0 P w K mg base N qual (AJ st) f cdv A outer s H E).nox (AS st) t/\t { nx:=fun _ H'=>Q .non H',rt:=Q } (start N vs) H):FnOk P w K mg base CX0 (k+1) f fd ps sp:=by
 obtain ⟨oc,od,kV,doc,pm,an,cdv,ct,osl,rfl,lk,hcd⟩:=F.ex
 refine MX lk hcd S len fun A outer s H vs Q E hr hsp=>?_
 obtain ⟨t,h,q⟩:=hbody cdv A outer s H vs Q E hr hsp
 exact ⟨t,h.nox,q⟩
theorem Fun.binds {x qual:Str} {st:Stmt} {f:Addr} {fd:FuncData} {ps:List Str} (F:Fun K x qual st f fd)
 (h:∀ (kV doc pm:Value) (an:Option Addr) (cdv ct:Value) (us:List Value),us.length=ps.length->bindArgs (PySem.W.fnOf x qual (AU st) (AS st) (AJ st) .none kV doc pm an cdv ct) ⟨us,[]⟩=pure (ps.zip us)):Binds K fd ps []:=by
 obtain ⟨oc,od,kV,doc,pm,an,cdv,ct,osl,rfl,lk,hcd⟩:=F.ex
 exact .all (h kV doc pm an cdv ct)
theorem AZ {x qual:Str} {st:Stmt} {f:Addr} {oc:Value} {od an:Option Addr} {osl:Array (Option Value)} {kV doc pm cdv ct:Value} (l:K.lookup f=some ⟨oc,od,.func (PySem.W.fnOf x qual (AU st) (AS st) (AJ st) .none kV doc pm an cdv ct),osl⟩)
 (c:PySem.W.codeIn K cdv qual=true) (k:PySem.W.keepIn K (.ref f)=true):Fun K x qual st f (PySem.W.fnOf x qual (AU st) (AS st) (AJ st) .none kV doc pm an cdv ct):=⟨⟨oc,od,kV,doc,pm,an,cdv,ct,osl,rfl,l,c⟩,k⟩
end
theorem Ag {n:Nat} (h:n<=1000):n < sizeLine:=Nat.lt_of_le_of_lt h (by decide)
section
variable {X:Cx}
end
theorem ite2 {c A B:Prop} [Decidable c] (h1:c->A) (h2:¬ c->B):if c then A else B:=by
 by_cases h:c
 ·rw [if_pos h]
  exact h1 h
 ·rw [if_neg h]
  exact h2 h
noncomputable def Same (H H':Hp):Prop:=∀ b o,H b=some o->H' b=some o
theorem Same.refl (H:Hp):Same H H:=fun _ _ h=>h
theorem Same.trans {H H1 H2:Hp} (a:Same H H1) (b:Same H1 H2):Same H H2:=fun c o h=>b c o (a c o h)
theorem Same.free {H H':Hp} (e:Same H H') {l:Addr} (h:H' l=Option.none):H l=Option.none:=by
 cases q:H l with
 | none=>rfl
 | some o =>
  rw [e l o q] at h
  cases h
theorem Same.seq {K:W.Frag} {H H':Hp} {a:Addr} {xs:List V} (e:Same H H') (h:SqL K H a xs):SqL K H' a xs:=by
 rcases h with (h | ⟨o,h⟩) | h
 ·exact .inl (.inl (e _ _ h))
 ·exact .inl (.inr ⟨o,e _ _ h⟩)
 ·exact .inr h
theorem DF:∀ (names:List (Str × NameKind)) (n:Nat) (acc:List (Str × Addr)),cellsFrom n names acc=cellsFrom n names []++acc
 | [],_,_=>rfl
 | (name,kind)::r,n,acc=>by
  unfold cellsFrom
  split
  ·rw [DF r (n+1) ((name,n)::acc),DF r (n+1) [(name,n)],List.append_assoc];rfl
  ·exact DF r n acc
theorem cellsFrom_kind:∀ (names:List (Str × NameKind)) (n:Nat) (acc:List (Str × Addr)) (x:Str) (c:Addr),(x,c)∈cellsFrom n names acc->(x,c)∈acc\/(x,NameKind.cell)∈names
 | [],_,_,_,_,h=>.inl h
 | (name,kind)::r,n,acc,x,c,h=>by
  unfold cellsFrom at h
  split at h
  ·rename_i hk
   rcases cellsFrom_kind r _ _ x c h with h | h
   ·rcases List.mem_cons.mp h with e | h
    ·cases e
     have:kind=.cell:=by simpa using hk
     subst this
     exact .inr List.mem_cons_self
    ·exact .inl h
   ·exact .inr (List.mem_cons_of_mem _ h)
  ·rcases cellsFrom_kind r _ _ x c h with h | h
   ·exact .inl h
   ·exact .inr (List.mem_cons_of_mem _ h)
theorem FS {α:Type} {x:Str}:∀ (l r:List (Str × α)),(l++r).lookup x=(match l.lookup x with | some c=>some c | none=>r.lookup x)
 | [],r=>rfl
 | (k,v)::l,r=>by
  show List.lookup x ((k,v)::(l++r))=_
  rw [List.lookup_cons,List.lookup_cons]
  cases x == k with
  | true=>rfl
  | false=>exact FS l r
theorem LJ {α:Type} {x:Str}:∀ {l:List (Str × α)},(∀ c,(x,c)∉l)->l.lookup x=none
 | [],_=>rfl
 | (k,v)::l,h=>by
  rw [List.lookup_cons]
  cases hb:x == k with
  | true =>
   have:x=k:=by simpa using hb
   subst this
   exact absurd List.mem_cons_self (h v)
  | false=>exact LJ fun c hc=>h c (List.mem_cons_of_mem _ hc)
noncomputable def BC (cells:List (Str × Addr)):List (Str × NameKind)->List (Str × Addr)->List (Str × Addr)
 | [],acc=>acc
 | (n,k)::r,acc=>if k == .free then BC cells r ((n,(cells.lookup n).getD 0)::acc) else BC cells r acc
theorem Kn {scope:Scope} {env:Env} (h:∀ y∈scope.names,y.2=.free->∃ c,env.cells.lookup y.1=some c):closureFor scope env=pure (BC env.cells scope.names []):=by
 have all:∀ (names:List (Str × NameKind)) (acc:List (Str × Addr)),(∀ y∈names,y.2=.free->∃ c,env.cells.lookup y.1=some c) ->
  (forIn names acc fun (x:Str × NameKind) cs=>(if (x.2 == NameKind.free)=true then (do let a <- cellOf env x.1;pure (ForInStep.yield ((x.1,a)::cs))) else pure (ForInStep.yield cs):Sem (ForInStep (List (Str × Addr)))))=(pure (BC env.cells names acc):Sem _):=by
  intro names
  induction names with
  | nil=>intro acc _;rfl
  | cons y r ih =>
   intro acc hy
   obtain ⟨n,k⟩:=y
   rw [List.forIn_cons]
   have hr:∀ y∈r,y.2=.free->∃ c,env.cells.lookup y.1=some c:=fun y hm=>hy y (List.mem_cons_of_mem _ hm)
   unfold BC
   by_cases hk:(k == NameKind.free)=true
   ·obtain ⟨c,e⟩:=hy (n,k) List.mem_cons_self (by simpa using hk)
    rw [if_pos hk,if_pos hk]
    have e2:cellOf env n=pure c:=by unfold cellOf;rw [show env.cells.lookup n=some c from e]
    rw [e2]
    rw [show env.cells.lookup n=some c from e]
    exact ih _ hr
   ·rw [if_neg hk,if_neg hk]
    exact ih _ hr
 have q:=all scope.names [] h
 unfold closureFor
 refine Eq.trans ?_ (congrArg (fun t=>t >>= pure) q |>.trans (by rfl))
 congr 1
theorem clOf_mem {cells:List (Str × Addr)}:∀ (names:List (Str × NameKind)) (acc:List (Str × Addr)) (x:Str) (c:Addr),(∀ y∈names,y.2=.free->∃ c,cells.lookup y.1=some c)->(x,c)∈BC cells names acc->(x,c)∈acc\/((x,NameKind.free)∈names/\cells.lookup x=some c)
 | [],_,_,_,_,h=>.inl h
 | (n,k)::r,acc,x,c,hy,h=>by
  have hr:∀ y∈r,y.2=.free->∃ c,cells.lookup y.1=some c:=fun y hm=>hy y (List.mem_cons_of_mem _ hm)
  unfold BC at h
  split at h
  ·rename_i hk
   have hk':k=.free:=by simpa using hk
   subst hk'
   obtain ⟨d,e⟩:=hy (n,.free) List.mem_cons_self rfl
   rcases clOf_mem r _ x c hr h with h | ⟨h,h'⟩
   ·rcases List.mem_cons.mp h with e' | h
    ·obtain ⟨e1,e2⟩:=Prod.mk.inj e'
     rw [show cells.lookup n=some d from e] at e2
     subst e1
     exact .inr ⟨List.mem_cons_self,by rw [e2];exact e⟩
    ·exact .inl h
   ·exact .inr ⟨List.mem_cons_of_mem _ h,h'⟩
  ·rcases clOf_mem r _ x c hr h with h | ⟨h,h'⟩
   ·exact .inl h
   ·exact .inr ⟨List.mem_cons_of_mem _ h,h'⟩
theorem Gv {cells:List (Str × Addr)} {x:Str}:∀ (names:List (Str × NameKind)) (acc:List (Str × Addr)),(∃ c,(x,c)∈acc)->∃ c,(x,c)∈BC cells names acc
 | [],_,h=>h
 | (n,k)::r,acc,⟨c,h⟩=>by
  unfold BC
  split
  ·exact Gv r _ ⟨c,List.mem_cons_of_mem _ h⟩
  ·exact Gv r _ ⟨c,h⟩
theorem Hl {cells:List (Str × Addr)} {x:Str}:∀ (names:List (Str × NameKind)) (acc:List (Str × Addr)),(x,NameKind.free)∈names->∃ c,(x,c)∈BC cells names acc
 | (n,k)::r,acc,h=>by
  unfold BC
  rcases List.mem_cons.mp h with e | h
  ·cases e
   rw [if_pos (by decide)]
   exact Gv r _ ⟨_,List.mem_cons_self⟩
  ·split
   ·exact Hl r _ h
   ·exact Hl r _ h
theorem KB {α:Type} {x:Str}:∀ {l:List (Str × α)},(∃ c,(x,c)∈l)->∃ c,l.lookup x=some c
 | (k,v)::l,⟨c,h⟩=>by
  rw [List.lookup_cons]
  cases hb:x == k with
  | true=>exact ⟨v,rfl⟩
  | false =>
   rcases List.mem_cons.mp h with e | h
   ·cases e;simp at hb
   ·exact KB ⟨c,h⟩
noncomputable def Ed (scope sc:Scope):Scope :=
 { scope with names:=scope.names.map fun (n,k)=>if (k == .free && sc.kind == .function && sc.names.lookup n == some .cell) then (n,.cell) else (n,k) }
structure CompScope (scope sc:Scope):Prop where
 kind:scope.kind=.function
 nd:(scope.names.map (·.1)).Nodup
 fr:∀ y∈scope.names,y.2=.free->sc.names.lookup y.1=some .cell\/sc.names.lookup y.1=some .free
theorem Cy {α:Type}:∀ {l:List (Str × α)} {x:Str} {c:α},(l.map (·.1)).Nodup->(x,c)∈l->l.lookup x=some c
 | (k,v)::l,x,c,nd,h=>by
  obtain ⟨n1,n2⟩:=List.nodup_cons.mp (show (k::l.map (·.1)).Nodup from nd)
  rw [List.lookup_cons]
  rcases List.mem_cons.mp h with e | h
  ·cases e;simp
  ·have hne:¬ x=k:=fun e=>n1 (by rw [<- e];exact List.mem_map.mpr ⟨(x,c),h,rfl⟩)
   have:(x == k)=false:=by simpa using hne
   rw [this]
   exact Cy n2 h
theorem JD {scope sc:Scope} {x:Str}:(Ed scope sc).names.lookup x=(scope.names.lookup x).map fun k=>if (k == .free && sc.kind == .function && sc.names.lookup x == some .cell) then NameKind.cell else k:=by
 show (scope.names.map _).lookup x=_
 generalize scope.names=names
 induction names with
 | nil=>rfl
 | cons y r ih =>
  obtain ⟨n,k⟩:=y
  rw [List.map_cons]
  by_cases hc:(k == .free && sc.kind == .function && sc.names.lookup n == some .cell)=true
  ·show List.lookup x ((if (k == .free && sc.kind == .function && sc.names.lookup n == some .cell)=true then (n,NameKind.cell) else (n,k))::_)=_
   rw [if_pos hc,List.lookup_cons,List.lookup_cons]
   cases hb:x == n with
   | true =>
    have hx:x=n:=by simpa using hb
    subst hx
    show some NameKind.cell=some (if _ then _ else _)
    rw [if_pos hc]
   | false=>exact ih
  ·show List.lookup x ((if (k == .free && sc.kind == .function && sc.names.lookup n == some .cell)=true then (n,NameKind.cell) else (n,k))::_)=_
   rw [if_neg hc,List.lookup_cons,List.lookup_cons]
   cases hb:x == n with
   | true =>
    have hx:x=n:=by simpa using hb
    subst hx
    show some k=some (if _ then _ else _)
    rw [if_neg hc]
   | false=>exact ih
structure CArgs where
 pins:List (Addr × Obj)
 cells:List (Str × Addr)
 s:Shared
 H:Hp
 fp:List Addr
 C:Addr
noncomputable def Cx.comp (X:Cx) (scope:Scope) (N':List Str) (c:CArgs):Cx where
 prog:=X.prog
 w:=X.w
 K:=X.K
 mg:=X.mg
 base:=X.base
 A:=X.A
 N:=N'
 s₀:=c.s
 H₀:=c.H
 env:=compEnvC scope c.cells c.C X.env
 outer:=X.stack
 stack:=X.stack
 ex:=c.fp
 fn:=fun x=>scope.names.lookup x == some .cell
 calm:=X.calm
 pn:=X.pn++c.pins
 xe:=fun _ _=>False
noncomputable def cSt (own:Nat) (ix:List Nat) (σ:St):St:=List.replicate own none++ix.map fun i=>(σ[i]?).join
section
variable {X:Cx} {pins:List (Addr × Obj)} {σ:St} {H:Hp} {s s4:Shared} {fp:List Addr} {scope:Scope} {N':List Str} {own:Nat} {ix:List Nat}
theorem N1 (I:Inv X pins σ H s) (f2:∀ b∈fp,BZ X pins H b) (hob:∀ b∈fp,∃ o,s.heap.get? b=some o) (S:CompScope scope X.env.scope)
 (hlen:N'.length=own+ix.length) (hN:(N'.drop own).map some=ix.map (X.N[·]?)) (hfr:∀ x∈N'.drop own,scope.names.lookup x=some .free)
 {C:Addr} (hC:s.heap.objs.size < C) (k4:∀ b o,s.heap.get? b=some o->s4.heap.get? b=some o) (os4:s4.os=s.os) (g4:s4.gens=s.gens)
 (n4:∃ m,s4.heap.Ns C m) (own4:∀ x c,(x,c)∈cellsFrom (C+1) scope.names []->s4.heap.IsCell c none/\C+1<=c)
 (apart:(cellsFrom (C+1) scope.names []).Pairwise fun x y=>x.2≠y.2) :
 Inv (X.comp scope N' ⟨pins,cellsFrom (C+1) scope.names (BC X.env.cells scope.names []),s,H,fp,C⟩) [] (cSt own ix σ) H s4:=by
 have hfree:∀ y∈scope.names,y.2=.free->∃ c,X.env.cells.lookup y.1=some c:=fun y hy h=>I.ok.has y.1 (S.fr y hy h)
 -- a cell of the block
 have cases:∀ x c,(cellsFrom (C+1) scope.names (BC X.env.cells scope.names [])).lookup x=some c ->
  ((x,c)∈cellsFrom (C+1) scope.names []/\scope.names.lookup x=some .cell)\/((x,NameKind.free)∈scope.names/\X.env.cells.lookup x=some c):=fun x c h=>by
  rw [DF,FS] at h
  cases e:(cellsFrom (C+1) scope.names []).lookup x with
  | some d =>
   rw [e] at h
   cases h
   have m:=mem_of_lookup e
   rcases cellsFrom_kind _ _ _ _ _ m with z | z
   ·exact absurd z (by simp)
   ·exact .inl ⟨m,Cy S.nd z⟩
  | none =>
   rw [e] at h
   rcases clOf_mem _ _ _ _ hfree (mem_of_lookup h) with z | z
   ·exact absurd z (by simp)
   ·exact .inr z
 have oldlt:∀ x c,X.env.cells.lookup x=some c->c < s.heap.objs.size:=fun x c e=>let ⟨v,q⟩:=I.cell x c e;q.lt
 have kin:∀ x,(Ed scope X.env.scope).names.lookup x=some .cell\/(Ed scope X.env.scope).names.lookup x=some .free->(scope.names.lookup x=some .cell\/scope.names.lookup x=some .free):=fun x h=>by
  rw [JD] at h
  cases e:scope.names.lookup x with
  | none=>rw [e] at h;simp at h
  | some k =>
   rw [e] at h
   cases k with
   | cell=>exact .inl rfl
   | free=>exact .inr rfl
   | _=>exact absurd h (by simp)
 have hCn:∀ b o,s.heap.get? b=some o->b≠C:=fun b o e z=>by have:=Heap.lt_size e;rw [z] at this;exact Nat.lt_irrefl _ (Nat.lt_trans this hC)
 have lk:∀ x,(x,NameKind.free)∈scope.names->∀ c,X.env.cells.lookup x=some c->(cellsFrom (C+1) scope.names (BC X.env.cells scope.names [])).lookup x=some c:=fun x hx c hc=>by
  have hl:scope.names.lookup x=some .free:=Cy S.nd hx
  rw [DF,FS,LJ (l:=cellsFrom (C+1) scope.names []) fun d hd=>?_]
  ·obtain ⟨d,hd⟩:=KB (Hl (cells:=X.env.cells) scope.names [] hx)
   rcases clOf_mem _ _ _ _ hfree (mem_of_lookup hd) with z | ⟨_,z⟩
   ·exact absurd z (by simp)
   ·rw [hc] at z;cases z;exact hd
  ·rcases cellsFrom_kind _ _ _ _ _ hd with z | z
   ·exact absurd z (by simp)
   ·rw [Cy S.nd z] at hl;cases hl
 refine ⟨⟨I.ok.mod,S.kind,I.ok.glob,I.ok.blt,Nat.le_of_lt hC,fun x y c hx hy=>?_,fun x hx=>?_,fun x c hf hx=>?_,I.ok.hd,I.ok.frames,.inl rfl,fun b hb=>⟨?_,fun x c hx=>?_⟩,fun b o e=>I.bs b o e,Nat.le_trans I.ok.bsz I.sz,fun b o e hb=>?_,fun b hb z=>?_,I.stack,I.stkFree⟩,
  os4,by rw [g4];exact I.bare,Un.kept k4,?_,fun x c hx=>?_,?_,fun x c hx=>?_,fun p hp=>?_,I.hok.kept k4,?_⟩
 ·-- inj
  rcases cases x c hx with ⟨m1,_⟩ | ⟨_,m1⟩ <;> rcases cases y c hy with ⟨m2,_⟩ | ⟨_,m2⟩
  ·exact name_of_addr apart m1 m2
  ·exact absurd (Nat.lt_of_lt_of_le (Nat.lt_trans (oldlt y c m2) hC) (Nat.le_of_succ_le (own4 x c m1).2)) (Nat.lt_irrefl _)
  ·exact absurd (Nat.lt_of_lt_of_le (Nat.lt_trans (oldlt x c m1) hC) (Nat.le_of_succ_le (own4 y c m2).2)) (Nat.lt_irrefl _)
  ·exact I.ok.inj x y c m1 m2
 ·-- has
  rcases kin x hx with h | h
  ·have q:=PySem.W.cellsFrom_some scope.names (C+1) (BC X.env.cells scope.names []) (.inl h)
   exact Option.isSome_iff_exists.mp q
  ·obtain ⟨c,e⟩:=hfree (x,.free) (mem_of_lookup h) rfl
   exact ⟨c,lk x (mem_of_lookup h) c e⟩
 ·-- cab
  rcases cases x c hx with ⟨m1,_⟩ | ⟨m1,_⟩
  ·exact Nat.le_of_lt (Nat.lt_of_lt_of_le hC (Nat.le_of_succ_le (own4 x c m1).2))
  ·have hl:=Cy S.nd m1
   have hf':(scope.names.lookup x == some NameKind.cell)=true:=hf
   rw [hl] at hf';cases hf'
 ·obtain ⟨o,e⟩:=hob b hb
  exact hCn b o e
 ·intro z
  obtain ⟨o,e⟩:=hob b hb
  have hlt:=Heap.lt_size e
  rcases cases x c hx with ⟨m1,_⟩ | ⟨_,m1⟩
  ·subst z;exact absurd (Nat.lt_of_lt_of_le (Nat.lt_trans hlt hC) (Nat.le_of_succ_le (own4 x c m1).2)) (Nat.lt_irrefl _)
  ·exact (f2 b hb).2.2.2.2.1 x c m1 z
 ·-- noex
  have e1:=(I.ok.bs b o e).1
  rcases (f2 b hb).2.2.2.1 with z | z
  ·exact I.ok.noex b o e z
  ·exact absurd (Nat.lt_of_lt_of_le (Heap.lt_size e1) z) (Nat.lt_irrefl _)
 ·-- exfs
  rcases List.mem_cons.mp (I.stkSub b z) with e | z
  ·exact (f2 b hb).2.1 e
  ·exact (f2 b hb).2.2.1 z
 ·-- loc
  obtain ⟨m,hm⟩:=n4
  obtain ⟨m0,hn0,hl0⟩:=I.loc
  refine ⟨m,hm,fun i x v h1 h2 h3=>?_⟩
  have h1:N'[i]? = some x:=h1
  unfold cSt at h2
  by_cases hi:i < own
  ·rw [List.getElem?_append_left (by simpa using hi),List.getElem?_replicate] at h2
   split at h2 <;> cases h2
  ·rw [List.getElem?_append_right (by simpa using hi),List.length_replicate,List.getElem?_map] at h2
   obtain ⟨j,hj⟩:∃ j,i=own+j:=⟨i - own,by lia⟩
   subst hj
   rw [Nat.add_sub_cancel_left] at h2
   cases e:ix[j]? with
   | none=>rw [e] at h2;cases h2
   | some q =>
    rw [e] at h2
    have h2:some (σ[q]?).join=some (some v):=h2
    have h2:(σ[q]?).join=some v:=Option.some.inj h2
    have hσ:σ[q]? = some (some v):=by
     cases eq:σ[q]? with
     | none=>rw [eq] at h2;cases h2
     | some z=>rw [eq] at h2;simp at h2;rw [h2]
    have hx:(N'.drop own)[j]? = some x:=by rw [List.getElem?_drop];exact h1
    have hNq:X.N[q]? = some x:=by
     have:=congrArg (·[j]?) hN
     simp only [List.getElem?_map,hx,e,Option.map_some] at this
     exact (Option.some.inj this).symm
    have hfx:=hfr x (List.mem_of_getElem? hx)
    have hmem:=mem_of_lookup hfx
    have kx:=S.fr (x,.free) hmem rfl
    have vis:Vis X.env.scope x:=.inr kx
    obtain ⟨u,r,l⟩:=hl0 q x v hNq hσ vis
    refine ⟨u,r,?_⟩
    rcases l with ⟨k,_⟩ | ⟨k,c,hc,z⟩
    ·exfalso
     have k':X.env.scope.names.lookup x=some .local:=k
     rcases kx with kx | kx
     ·rw [show X.env.scope.names.lookup x=some .cell from kx] at k';cases k'
     ·rw [show X.env.scope.names.lookup x=some .free from kx] at k';cases k'
    ·refine .inr ⟨?_,c,lk x hmem c hc,z.keeps k4⟩
     show (Ed scope X.env.scope).names.lookup x=some .cell\/(Ed scope X.env.scope).names.lookup x=some .free
     rw [JD,hfx]
     by_cases hc:(NameKind.free == .free && X.env.scope.kind == .function && X.env.scope.names.lookup x == some .cell)=true
     ·exact .inl (by rw [Option.map_some,if_pos hc])
     ·exact .inr (by rw [Option.map_some,if_neg hc])
 ·rcases cases x c hx with ⟨m1,_⟩ | ⟨_,m1⟩
  ·exact ⟨_,(own4 x c m1).1⟩
  ·obtain ⟨v,q⟩:=I.cell x c m1
   exact ⟨v,q.keeps k4⟩
 ·exact I.hok.fresh (Nat.le_of_lt hC)
 ·rcases cases x c hx with ⟨m1,_⟩ | ⟨_,m1⟩
  ·exact I.hok.fresh (Nat.le_of_lt (Nat.lt_of_lt_of_le hC (Nat.le_of_succ_le (own4 x c m1).2)))
  ·exact I.freeC x c m1
 ·have hp:p∈X.pn++pins:=by
   have:p∈(X.pn++pins)++[]:=hp
   rwa [List.append_nil] at this
  obtain ⟨e,n,ne,nf,d⟩:=I.pin p hp
  refine ⟨k4 _ _ e,n,hCn _ _ e,fun z=>?_,d⟩
  rcases List.mem_cons.mp (I.stkSub _ z) with q | q
  ·exact ne q
  ·exact nf q
 ·unfold cSt
  rw [List.length_append,List.length_replicate,List.length_map]
  exact hlen.symm
end
section
variable {prog:Program} {w:World} {A:Around} {R:Result->Shared->Prop} {s:Shared}
theorem O8 {elt target iter:Expr} {ifs:List Expr} {scope:Scope} {pos:Pos} {it acc:Value} {env:Env} (I:Nat->Shared->Prop)
 (turn:∀ n s,I n s->wpAny (model prog w) A (pyNext it) (fun r s₁=>match r with
   | none=>R (.ok .next) s₁
   | some v=>wpAny (model prog w) A (letOwnedTupleGo target it v) (fun _ s₁'=>wpAny (model prog w) A (assign target env v) (fun _ s₂ =>
    wpAny (model prog w) A (forIn ifs true fun c r=>if r=true then do let ok <- isTrue c env (eval c env);pure (ForInStep.yield ok) else pure (ForInStep.yield r)) (fun ok s₃ =>
     if ok=true then wpAny (model prog w) A (eval elt env) (fun x s₄ =>
      wpAny (model prog w) A (call (.builtin "list.append") [acc,x]) (fun _ s₅=>∃ m,m < n/\I m s₅) (fun _ _=>False) s₄) (fun _ _=>False) s₃
     else ∃ m,m < n/\I m s₃) (fun _ _=>False) s₂) (fun _ _=>False) s₁') (fun _ _=>False) s₁) (fun _ _=>False) s)
 (n:Nat) (h:I n s) :
 codeAny (model prog w) A (.compLoop (.ListComp elt [⟨target,iter,ifs,0⟩] scope pos) 0 it acc env) R s:=by
 refine codeAny_loop rfl I (fun n s hI=>?_) n h
 show wpAny _ A ((compTurn (.ListComp elt [⟨target,iter,ifs,0⟩] scope pos) 0 it acc env).onRaise (fun x=>do noteFrame x env;theTreesLotGoes x)) _ _ s
 refine wpAny_noted ?_
 rw [compTurn_list]
 refine wpAny_bind (wpAny_standAt (wpAny_bind (wpAny_mono (turn n s hI) (fun r s₁ h₁=>?_) fun _ _ h'=>h'.elim)))
 cases r with
 | none=>exact wpAny_pure h₁
 | some v =>
  refine wpAny_bind (wpAny_mono h₁ (fun _ s₁' h₁'=>?_) fun _ _ h'=>h'.elim)
  refine wpAny_bind (wpAny_mono h₁' (fun _ s₂ h₂=>wpAny_bind (wpAny_mono h₂ (fun ok s₃ h₃=>?_) fun _ _ h'=>h'.elim)) fun _ _ h'=>h'.elim)
  cases ok with
  | false=>exact wpAny_pure ⟨rfl,h₃⟩
  | true =>
   exact wpAny_bind (wpAny_bind (wpAny_mono h₃ (fun x s₄ h₄=>wpAny_bind (wpAny_mono h₄ (fun _ s₅ h₅=>wpAny_pure (wpAny_pure ⟨rfl,h₅⟩)) fun _ _ h'=>h'.elim)) fun _ _ h'=>h'.elim))
end
noncomputable def PTs (X:Cx) (ifs:List Expr) (t:TT):Prop :=
 ∀ (pins:List (Addr × Obj)) (s:Shared) (σ:St) (H:Hp) (Q:Bool->Hp->Prop),Inv X pins σ H s->t σ H Q ->
  wpAny (model X.prog X.w) X.A (forIn ifs true fun c r=>if r=true then do let ok <- isTrue c X.env (eval c X.env);pure (ForInStep.yield ok) else pure (ForInStep.yield r)) (TP X pins σ Q) X.xe s
noncomputable def Ll:TT:=fun _ H Q=>Q true H
theorem Az {X:Cx}:PTs X [] Ll:=fun _ _ _ H _ I h=>wpAny_tests_nil ⟨H,I,h⟩
theorem Bi {X:Cx} {c:Expr} {t:TT} (h:PT X c t):PTs X [c] t:=fun pins s σ H Q I hq=>wpAny_tests_one (h pins s σ H Q I hq)
noncomputable def CY (own:Nat) (g:TG):Prop:=∀ x σ H Q,g x σ H Q->g x σ H fun σ' H'=>(σ'.length=σ.length/\∀ i,own<=i->σ'[i]? = σ[i]?)/\Q σ' H'
noncomputable def FT (own:Nat) (g:TGs):Prop:=∀ x σ H Q,g x σ H Q->g x σ H fun σ' H'=>(σ'.length=σ.length/\∀ i,own<=i->σ'[i]? = σ[i]?)/\Q σ' H'
theorem AW {own i:Nat} (h:i < own):CY own (AQ i):=fun x σ H Q q =>
 ⟨⟨by simp,fun j hj=>by rw [List.getElem?_set_ne (by lia)]⟩,q⟩
theorem Ck {own:Nat}:FT own HB:=fun x σ H Q ⟨e,q⟩=>⟨e,⟨rfl,fun _ _=>rfl⟩,q⟩
noncomputable def Dj (g:TG):Prop:=∀ x σ H (Q Q':St->Hp->Prop),(∀ σ H,Q σ H->Q' σ H)->g x σ H Q->g x σ H Q'
noncomputable def Fp (g:TGs):Prop:=∀ x σ H (Q Q':St->Hp->Prop),(∀ σ H,Q σ H->Q' σ H)->g x σ H Q->g x σ H Q'
theorem As {i:Nat}:Dj (AQ i):=fun _ _ _ _ _ h q=>h _ _ q
theorem BI:Fp HB:=fun _ _ _ _ _ h ⟨e,q⟩=>⟨e,h _ _ q⟩
theorem CL {t:TG} {u:TGs} (h1:Dj t) (h2:Fp u):Fp (Gu t u):=fun _ _ _ _ _ h ⟨v,r,e,q⟩=>⟨v,r,e,h1 _ _ _ _ _ (fun _ _ q=>h2 _ _ _ _ _ h q) q⟩
theorem BM {own:Nat} {t:TG} {u:TGs} (m:Dj t) (mu:Fp u) (h1:CY own t) (h2:FT own u):FT own (Gu t u):=fun x σ H Q ⟨v,r,e,q⟩ =>
 ⟨v,r,e,m _ _ _ _ _ (fun σ' H' ⟨⟨e1,e2⟩,q⟩=>mu _ _ _ _ _ (fun σ'' H'' ⟨⟨e3,e4⟩,q⟩=>⟨⟨e3.trans e1,fun i hi=>(e4 i hi).trans (e2 i hi)⟩,q⟩) (h2 r σ' H' Q q)) (h1 v σ H _ q)⟩
theorem Cm {own:Nat} {K:W.Frag} {n:Nat} {t:TGs} (h:FT own t):CY own (GG K n t):=fun x σ H Q ⟨a,xs,e,s,l,q⟩=>⟨a,xs,e,s,l,h _ _ _ _ q⟩
theorem Mb {own:Nat} {ix:List Nat} {σ:St} {i:Nat} {v:V} (h:(cSt own ix σ)[i]? = some (some v)):own<=i:=by
 unfold cSt at h
 by_cases hi:i < own
 ·rw [List.getElem?_append_left (by simpa using hi),List.getElem?_replicate] at h
  split at h <;> cases h
 ·lia
noncomputable def D3 (J:It) (g:TG) (tc:TT) (te:TE) (σc:St) (Q:VK) (H1:Hp):Prop :=
 ∃ W:Nat->Nat->List V->Hp->Prop,(∃ m,W 0 m [] H1)/\∀ i m ys H,W i m ys H ->
  (J.stop i H/\∀ p,H p=none->Q (.ref p) (upd H p (.lst ys))) \/
  (J.go i H/\ys.length < sizeLine/\∃ N:List V->Hp->Prop,(∀ ys' H',N ys' H'->∃ m',m' < m/\W (i+1) m' ys' H')/\∀ x H',J.yld i H x H'->g x σc H' fun σ4 H4=>tc σ4 H4 fun b H5 =>
    if b=true then te σ4 H5 fun y H6=>N (ys++[y]) H6 else N ys H5)
noncomputable def Et (wi:TI) (own:Nat) (ix:List Nat) (g:TG) (tc:TT) (te:TE):TE:=fun σ H Q=>wi σ H fun J H1=>D3 J g tc te (cSt own ix σ) Q H1
section
variable {X:Cx} {pins:List (Addr × Obj)} {σ:St} {H:Hp} {s:Shared} {fp:List Addr} {it:Addr} {tn:Nat->Heap->Prop} {J:It} {tg iter elt:Expr} {ifs:List Expr} {scope:Scope} {pos:Pos} {N':List Str} {own:Nat} {ix:List Nat} {g:TG} {tc:TT} {te:TE} {Q:VK} {E:Value->Shared->Prop}
theorem JQ (I:Inv X pins σ H s) (T:Turn X.prog X.w X.K tg J fp it tn) (st:tn 0 s.heap) (f2:∀ b∈fp,BZ X pins H b) (hc:X.calm=true) (S:CompScope scope X.env.scope)
 (hlen:N'.length=own+ix.length) (hN:(N'.drop own).map some=ix.map (X.N[·]?)) (hfr:∀ x∈N'.drop own,scope.names.lookup x=some .free)
 (hg:∀ c,PG (X.comp scope N' c) tg g) (hgo:CY own g) (ht:∀ c,PTs (X.comp scope N' c) ifs tc) (he:∀ c,PE (X.comp scope N' c) elt te)
 (hq:D3 J g tc te (cSt own ix σ) Q H) {RR:Value->Addr->Result->Shared->Prop}
 (fin:∀ (D C:Addr) (s':Shared) (H':Hp) (ys:List V) (its:List Value) (n:Nat),s'.os=s.os->AllBare s'.gens->Un (frs X.stack) fp H H' s.heap s'.heap->HOk X.prog X.w H' s'.heap->(∃ m,s'.heap.Ns C m)->H' C=none->s.heap.objs.size<=C ->
   H' D=none->s.heap.objs.size<=D->D≠C->s'.heap.get? D=some { cls:=.type "list",data:=.seq its.toArray n } -> Vals ys its->ys.length<=sizeLine->(∀ p,H' p=none->Q (.ref p) (upd H' p (.lst ys)))->RR (.ref D) C (.ok .next) s') :
 wpAny (model X.prog X.w) X.A (newList []) (fun acc s₃=>wpAny (model X.prog X.w) X.A (newFunctionEnv scope X.env.globals (BC X.env.cells scope.names []) [] X.env.qual none .none (some X.env)) (fun cenv s₄ =>
  codeAny (model X.prog X.w) X.A (.compStart (.ListComp elt [⟨tg,iter,ifs,0⟩] scope pos) 0 (.ref it) acc { cenv with scope:=relabel scope X.env }) (RR acc cenv.locals) s₄) E s₃) E s:=by
 obtain ⟨W,⟨m0,w0⟩,turn⟩:=hq
 have hob:∀ b∈fp,∃ o,s.heap.get? b=some o:=fun b hb=>let ⟨o,e,_⟩:=T.obj 0 _ st b hb;⟨o,e⟩
 refine wpAny_newObj_type ?_
 generalize hH1:s.heap.push { cls:=.type "list",dict:=none,data:=.seq ([]:List Value).toArray } = h1
 have hs1:h1.objs.size=s.heap.objs.size+1:=by rw [<- hH1,Heap.size_push]
 have k1:∀ b o,s.heap.get? b=some o->h1.get? b=some o:=fun b o e=>by rw [<- hH1];exact Heap.get?_push_of_some _ e
 have d1:h1.get? s.heap.objs.size=some { cls:=.type "list",data:=.seq ([]:List Value).toArray }:=by rw [<- hH1];exact Heap.get?_push_size _ rfl
 simp only [newFunctionEnv,Option.isSome_some,if_true]
 refine wpAny_bind (wpAny_alloc ?_)
 generalize hH2:(({ s with heap:=h1 }:Shared).heap.push { cls:=.type "dict",data:=.dict #[] })=h2
 have hH2':h1.push { cls:=.type "dict",data:=.dict #[] } = h2:=hH2
 have hs2:h2.objs.size=h1.objs.size+1:=by rw [<- hH2',Heap.size_push]
 have k2:∀ b o,h1.get? b=some o->h2.get? b=some o:=fun b o e=>by rw [<- hH2'];exact Heap.get?_push_of_some _ e
 have n2:h2.Ns h1.objs.size (fun _=>none):=by rw [<- hH2'];exact Heap.Ns.new h1 (.type "dict")
 refine wpAny_bind (wpAny_layCells _ (fun name kind cells=>by cases hkc:kind == NameKind.cell <;> simp [hkc]) _ _ _ _ ?_)
 have ok:=cellsFrom_ok scope.names h2 (h1.objs.size+1) [] ⟨fun _ _ hm=>(nomatch hm),List.Pairwise.nil⟩ (by rw [hs2];exact Nat.le_refl _)
 rw [hs2] at ok
 show wpAny _ _ (forIn ([]:List (Str × Value)) PUnit.unit _ >>= _) _ _ _
 rw [List.forIn_nil]
 refine wpAny_bind (wpAny_pure (wpAny_pure ?_))
 show codeAny _ _ (.compStart _ 0 (.ref it) (.ref s.heap.objs.size) (compEnvC scope (cellsFrom h2.objs.size scope.names (BC X.env.cells scope.names [])) h1.objs.size X.env)) (RR (.ref s.heap.objs.size) h1.objs.size) { s with heap:=pushCells h2 scope.names }
 rw [hs2]
 generalize hH3:pushCells h2 scope.names=h3 at ok ⊢
 have k3:∀ b o,h2.get? b=some o->h3.get? b=some o:=fun b o e=>by rw [<- hH3];exact pushCells_keeps _ _ b o e
 have kk:∀ b o,s.heap.get? b=some o->h3.get? b=some o:=fun b o e=>k3 b o (k2 b o (k1 b o e))
 have d3:h3.get? s.heap.objs.size=some { cls:=.type "list",data:=.seq ([]:List Value).toArray }:=k3 _ _ (k2 _ _ d1)
 have hC:s.heap.objs.size < h1.objs.size:=by rw [hs1];exact Nat.lt_succ_self _
 have I3:Inv (X.comp scope N' ⟨pins,cellsFrom (h1.objs.size+1) scope.names (BC X.env.cells scope.names []),s,H,fp,h1.objs.size⟩) [] (cSt own ix σ) H { s with heap:=h3 } :=
  N1 (s4:={ s with heap:=h3 }) I f2 hob S hlen hN hfr hC kk rfl rfl ⟨_,n2.keeps k3⟩ (fun x c hm=>ok.empty x c hm) ok.apart
 generalize hcs:cellsFrom (h1.objs.size+1) scope.names (BC X.env.cells scope.names [])=cs at I3 ⊢
 generalize hCC:h1.objs.size=C at *
 generalize hDD:s.heap.objs.size=D at *
 have hY:=I3.ok
 -- what is fixed of the records
 have sD:D≠C/\(∀ x c,cs.lookup x=some c->c≠D)/\D∉frs X.stack/\∀ p∈X.pn++pins,p.1≠D:=by
  refine ⟨Nat.ne_of_lt hC,fun x c e z=>?_,fun z=>?_,fun p hp z=>?_⟩
  ·subst z
   have e':=e
   rw [<- hcs,DF,FS] at e'
   cases q:(cellsFrom (C+1) scope.names []).lookup x with
   | some d =>
    rw [q] at e';cases e'
    have:=(ok.empty x c (mem_of_lookup q)).2
    exact absurd (Nat.lt_of_lt_of_le hC (Nat.le_of_succ_le this)) (Nat.lt_irrefl _)
   | none =>
    rw [q] at e'
    have hfree:∀ y∈scope.names,y.2=.free->∃ c,X.env.cells.lookup y.1=some c:=fun y hy h=>I.ok.has y.1 (S.fr y hy h)
    rcases clOf_mem _ _ _ _ hfree (mem_of_lookup e') with z | ⟨_,z⟩
    ·exact absurd z (by simp)
    ·obtain ⟨v,q⟩:=I.cell x c z
     have:=q.lt
     rw [hDD] at this
     exact Nat.lt_irrefl _ this
  ·exact (I3.nofs (a:=D) (by exact absurd z (by
    intro z'
    obtain ⟨_,o,ho,_⟩:=(show s.heap.FunFrames X.base X.stack from I.stack).mem z'
    have:=Heap.lt_size ho
    rw [hDD] at this
    exact Nat.lt_irrefl _ this))) z
  ·have:=Heap.lt_size (I.pin p hp).1
   rw [z,hDD] at this
   exact Nat.lt_irrefl _ this
 have stat:∀ {H':Hp},(∀ b∈fp,H' b=none)->∀ b∈fp,BZ (X.comp scope N' ⟨pins,cs,s,H,fp,C⟩) [] H' b:=fun {H'} hn b hb=>by
  refine ⟨hn b hb,(hY.exf b hb).1,hY.exfs b hb,.inl hb,(hY.exf b hb).2,fun p hp=>?_⟩
  have hp:p∈(X.pn++pins)++[]:=hp
  rw [List.append_nil] at hp
  exact (f2 b hb).2.2.2.2.2 p hp
 have statD:∀ {H':Hp},H' D=none->BZ (X.comp scope N' ⟨pins,cs,s,H,fp,C⟩) [] H' D:=fun {H'} hn=>by
  refine ⟨hn,sD.1,sD.2.2.1,.inr (Nat.le_of_eq hDD),sD.2.1,fun p hp=>?_⟩
  have hp:p∈(X.pn++pins)++[]:=hp
  rw [List.append_nil] at hp
  exact sD.2.2.2 p hp
 have loop:codeAny (model X.prog X.w) X.A (.compLoop (.ListComp elt [⟨tg,iter,ifs,0⟩] scope pos) 0 (.ref it) (.ref D) (compEnvC scope cs C X.env)) (RR (.ref D) C) { s with heap:=h3 }:=by
  refine O8 (fun n s'=>∃ (i:Nat) (H':Hp) (ys:List V) (its:List Value) (k:Nat),Inv (X.comp scope N' ⟨pins,cs,s,H,fp,C⟩) [] (cSt own ix σ) H' s'/\tn i s'.heap/\(∀ b∈fp,H' b=none)/\H' D=none /\
   s'.heap.get? D=some { cls:=.type "list",data:=.seq its.toArray k } /\ Vals ys its/\ys.length<=sizeLine/\W i n ys H') ?_ m0
   ⟨0,H,[],[],0,I3,T.keep _ _ _ st fun b _ o e=>kk b o e,fun b hb=>(f2 b hb).1,I.hok.fresh (Nat.le_of_eq hDD),d3,.nil,Nat.zero_le _,w0⟩
  rintro n s4 ⟨i,H4,ys,its,k,I4,st4,fr4,dn4,d4,rv4,z4,w4⟩
  rcases turn i n ys H4 w4 with ⟨stop,qn⟩ | ⟨go,zl,N,hN2,step⟩
  ·have ID:=I4.pinned (fp:=[D]) (fun b hb=>by rw [List.mem_singleton.mp hb];exact statD dn4) (fun b hb=>by rw [List.mem_singleton.mp hb];exact ⟨_,d4,fun v z=>nomatch z⟩)
   have nD:∀ b∈fp,b≠D:=fun b hb z=>by
    obtain ⟨o,e⟩:=hob b hb
    have:=Heap.lt_size e
    rw [z,hDD] at this
    exact Nat.lt_irrefl _ this
   have stat':∀ b∈fp,BZ (X.comp scope N' ⟨pins,cs,s,H,fp,C⟩) ([]++Bn [D] s4.heap) H4 b:=fun b hb=>by
    obtain ⟨q1,q2,q3,q4,q5,q6⟩:=stat fr4 b hb
    refine ⟨q1,q2,q3,q4,q5,fun p hp=>?_⟩
    rcases List.mem_append.mp hp with z | z
    ·exact q6 p (List.mem_append_left _ z)
    ·have:=(Gm (by simpa using z:p∈Bn [D] s4.heap)).1
     rw [List.mem_singleton.mp this]
     exact fun z=>nD b hb z.symm
   refine thn (T.done (X.comp scope N' ⟨pins,cs,s,H,fp,C⟩) rfl rfl rfl hc i _ s4 _ H4 (fun _ _=>False) ID stat' st4 stop) fun r s5 ⟨hr,I5⟩=>?_
   subst hr
   obtain ⟨m,hm,_⟩:=I5.loc
   refine fin D C s5 H4 ys its k I5.os I5.bare I5.base I5.hok ⟨m,hm⟩ I5.free (Nat.le_of_lt hC) dn4 (Nat.le_refl _) sD.1 ?_ rv4 z4 qn
   ·exact (I5.pin (D,_) (List.mem_append_right _ (List.mem_append_right _ (DU (List.mem_singleton.mpr rfl) d4)))).1
  ·have nD:∀ b∈fp,b≠D:=fun b hb z=>by
    obtain ⟨o,e⟩:=hob b hb
    have:=Heap.lt_size e
    rw [z,hDD] at this
    exact Nat.lt_irrefl _ this
   have ID:=I4.pinned (fp:=[D]) (fun b hb=>by rw [List.mem_singleton.mp hb];exact statD dn4) (fun b hb=>by rw [List.mem_singleton.mp hb];exact ⟨_,d4,fun v z=>nomatch z⟩)
   have statP:∀ {H':Hp},(∀ b∈fp,H' b=none)->∀ b∈fp,BZ (X.comp scope N' ⟨pins,cs,s,H,fp,C⟩) ([]++Bn [D] s4.heap) H' b:=fun {H'} hn b hb=>by
    obtain ⟨q1,q2,q3,q4,q5,q6⟩:=stat hn b hb
    refine ⟨q1,q2,q3,q4,q5,fun p hp=>?_⟩
    rcases List.mem_append.mp hp with z | z
    ·exact q6 p (List.mem_append_left _ z)
    ·have:=(Gm (by simpa using z:p∈Bn [D] s4.heap)).1
     rw [List.mem_singleton.mp this]
     exact fun z=>nD b hb z.symm
   refine thn (T.item (X.comp scope N' ⟨pins,cs,s,H,fp,C⟩) rfl rfl rfl hc i _ s4 _ H4 (fun _ _=>False) ID (statP fr4) st4 go) fun r s5 ⟨u,hr,h5⟩=>?_
   subst hr
   refine thn h5 fun _ s6 ⟨x,H6,I6,r6,y6,st6,fr6⟩=>?_
   have I6':=I6.pinned (statP fr6) (T.obj _ _ st6)
   refine thn (hg _ _ s6 _ H6 x u _ I6' r6 (hgo _ _ _ _ (step x H6 y6))) fun _ s7 ⟨σ7,H7,I7,⟨e7,k7⟩,q7⟩=>?_
   have I7':Inv (X.comp scope N' ⟨pins,cs,s,H,fp,C⟩) ([]++Bn [D] s4.heap++Bn fp s6.heap) σ7 H7 s7:=I7
   refine thn (ht _ _ s7 σ7 H7 _ I7' q7) fun b s8 ⟨H8,I8,q8⟩=>?_
   -- what is kept through the turn
   have back:∀ {s9:Shared} {H9:Hp},Inv (X.comp scope N' ⟨pins,cs,s,H,fp,C⟩) ([]++Bn [D] s4.heap++Bn fp s6.heap) σ7 H9 s9 ->
    Inv (X.comp scope N' ⟨pins,cs,s,H,fp,C⟩) [] (cSt own ix σ) H9 s9/\tn (i+1) s9.heap/\(∀ b∈fp,H9 b=none)/\H9 D=none/\s9.heap.get? D=some { cls:=.type "list",data:=.seq its.toArray k }:=fun {s9 H9} I9=>by
    have pD:=I9.pin (D,_) (List.mem_append_right _ (List.mem_append_left _ (List.mem_append_right _ (DU (List.mem_singleton.mpr rfl) d4))))
    refine ⟨I9.unpinned.unpinned.weak (by rw [e7]) fun j v hj=>?_,T.keep _ _ _ st6 fun b hb o e=>(I9.pin (b,o) (List.mem_append_right _ (List.mem_append_right _ (DU hb e)))).1,fun b hb=>?_,pD.2.1,pD.1⟩
    ·rw [k7 j (Mb hj)];exact hj
    ·obtain ⟨o,e,_⟩:=T.obj _ _ st6 b hb
     exact (I9.pin (b,o) (List.mem_append_right _ (List.mem_append_right _ (DU hb e)))).2.1
   cases b with
   | false =>
    rw [if_neg Bool.false_ne_true] at q8
    obtain ⟨m',hm,w8⟩:=hN2 _ _ q8
    obtain ⟨b1,b2,b3,b4,b5⟩:=back I8
    exact ⟨m',hm,i+1,H8,ys,its,k,b1,b2,b3,b4,b5,rv4,z4,w8⟩
   | true =>
    rw [if_pos rfl] at q8
    rw [if_pos rfl]
    refine thn (he _ _ s8 σ7 H8 _ I8 q8) fun yv s9 ⟨y,H9,I9,r9,q9⟩=>?_
    obtain ⟨m',hm,w9⟩:=hN2 _ _ q9
    obtain ⟨b1,b2,b3,b4,b5⟩:=back I9
    have hl:=rv4.length
    refine call_meets F.slot_list_append ⟨_,b5,rfl⟩ F.entry_list_append (F.args_list_append_2 _ _) (PySem.list_append D its.toArray k yv (by rw [List.size_toArray];lia)) ⟨b5,?_⟩
    have up:=PySem.IsL.update b5 (fun a=>a.push yv)
    have keep:∀ b o,b≠D->s9.heap.get? b=some o->(s9.heap.update D (Obj.mapSeq fun a=>a.push yv)).get? b=some o:=fun b o hb q=>(Heap.get?_update_other _ _ (Ne.symm hb)).trans q
    obtain ⟨f0,f1,f2',f3,f4,f5⟩:=statD b4
    refine ⟨m',hm,i+1,H9,ys++[y],its++[yv],(if ((its.toArray.push yv).size == its.toArray.size)=true then k else k+1),b1.turned (t':=s9.toks) keep b4 f1 f3 f4 f5,?_,b3,b4,?_,rv4.append (.cons r9 .nil),?_,w9⟩
    ·exact T.keep _ _ _ b2 fun b hb o e=>keep b o (nD b hb) e
    ·have e2:(its.toArray.push yv)=(its++[yv]).toArray:=by simp
     rw [<- e2]
     exact up
    ·rw [List.length_append,List.length_singleton]
     lia
 exact codeAny_compStart_list loop (T.self X.A 0 _ _ _ (T.keep _ _ _ st fun b _ o e=>kk b o e) loop)
end
section
variable {X:Cx} {pins:List (Addr × Obj)} {σ:St} {H:Hp} {s:Shared} {fp:List Addr} {it:Addr} {tn:Nat->Heap->Prop} {J:It} {tg iter elt:Expr} {ifs:List Expr} {scope:Scope} {pos:Pos} {N':List Str} {own:Nat} {ix:List Nat} {g:TG} {tc:TT} {te:TE} {wi:TI} {E:Value->Shared->Prop}
theorem KJ {H':Hp} {s':Shared} {D:Addr} {ys:List V} {its:List Value} {n:Nat} (I:Inv X pins σ H s) (f2:∀ b∈fp,BZ X pins H b) (ho:s'.os=s.os) (hg:AllBare s'.gens) (u:Un (frs X.stack) fp H H' s.heap s'.heap) (hok:HOk X.prog X.w H' s'.heap)
 (dn:H' D=none) (ds:s.heap.objs.size<=D) (d:s'.heap.get? D=some { cls:=.type "list",data:=.seq its.toArray n }) (rv:Vals ys its) (z:ys.length<=sizeLine):Inv X pins σ (upd H' D (.lst ys)) s':=by
 have nD:∀ b o,s.heap.get? b=some o->b≠D:=fun b o e q=>by rw [q,Heap.get?_none_of_le ds] at e;cases e
 have nH:∀ b o,H' b=some o->b≠D:=fun b o e q=>by rw [q,dn] at e;cases e
 refine I.call' (ch:=fp) ho ⟨u.keep,u.slot,fun b o e q hx=>?_,u.there,fun b xs e=>?_,fun b o v e=>?_,fun b ps e=>?_⟩ (fun b o e=>?_) hg fun b hb=>?_
 ·rw [AX (nD b o e)];exact u.free b o e q hx
 ·have:=u.tups b xs e
  rw [AX (nH _ _ this)];exact this
 ·have:=u.frzs b o v e
  rw [AX (nH _ _ this)];exact this
 ·obtain ⟨more,q⟩:=u.tbls b ps e
  exact ⟨more,by rw [AX (nH _ _ q)];exact q⟩
 ·by_cases hb:b=D
  ·subst hb
   rw [AH] at e
   cases e
   exact ⟨z,its,n,rv,d⟩
  ·rw [AX hb] at e
   exact (hok b o e).stay (fun _ _ _ q=>q) (fun c q=>by rw [AX (nH _ _ q)];exact q) fun c xs q=>by rw [AX (nH _ _ q)];exact q
 ·obtain ⟨q1,q2,q3,q4,q5,q6⟩:=f2 b hb
  exact ⟨q4,q2,q5,q6⟩
theorem Inv.dictGone {s':Shared} {h':Heap} {C:Addr} {H':Hp} {σ':St} (I:Inv X pins σ H s) (J:Inv X pins σ' H' s') (hC:s.heap.objs.size<=C) (hn:H' C=none) (k:Heap.SameBut C s'.heap h'):Inv X pins σ' H' { s' with heap:=h' }:=by
 have hC0:=Heap.get?_none_of_le hC
 refine J.turned (t':=s'.toks) (fun b o hb e=>(k.2 b hb).trans e) hn (fun z=>?_) (.inr (Nat.le_trans I.sz hC)) (fun x c e z=>?_) fun p hp z=>?_
 ·obtain ⟨m,⟨o,_,_,ho,_⟩,_⟩:=I.loc
  rw [<- z,hC0] at ho;cases ho
 ·obtain ⟨v,o,ho,_⟩:=I.cell x c e
  rw [z,hC0] at ho;cases ho
 ·have:=(I.pin p hp).1
  rw [z,hC0] at this;cases this
theorem RI (hc:X.calm=true) (hi:PI X tg iter wi) (S:CompScope scope X.env.scope)
 (hlen:N'.length=own+ix.length) (hN:(N'.drop own).map some=ix.map (X.N[·]?)) (hfr:∀ x∈N'.drop own,scope.names.lookup x=some .free)
 (hg:∀ c,PG (X.comp scope N' c) tg g) (hgo:CY own g) (ht:∀ c,PTs (X.comp scope N' c) ifs tc) (he:∀ c,PE (X.comp scope N' c) elt te)
 (hs:∀ x,foldedSetIterable iter X.env x=pure x:=by intro _;rfl):PE X (.ListComp elt [⟨tg,iter,ifs,0⟩] scope pos) (Et wi own ix g tc te):=by
 intro pins s σ H Q I h
 rw [eval_ListComp]
 have hfree:∀ y∈scope.names,y.2=.free->∃ c,X.env.cells.lookup y.1=some c:=fun y hy h=>I.ok.has y.1 (S.fr y hy h)
 refine wpAny_comprehension_free (use:=none) rfl hs (Kn hfree) S.kind (fun y hy hl=>Cy S.nd (by rw [<- hl];exact hy)) ?_
 refine thn (hi pins s σ H _ I h) fun v s1 h1=>thn h1 fun itv s2 h2=>?_
 obtain ⟨it,fp,tn,J,H2,e,I2,T,st2,f2,q2⟩:=h2
 subst e
 refine JQ (RR:=fun acc C=>compPost (model X.prog X.w) X.A X.xe none (EP X pins σ Q) acc C) I2 T st2 f2 hc S hlen hN hfr hg hgo ht he q2 ?_
 intro D C s' H' ys its n ho hgn u hok hm hC hCs hD hDs hDC d rv z q
 obtain ⟨m,hm⟩:=hm
 have I3:=KJ I2 f2 ho hgn u hok hD hDs d rv z
 refine ⟨m,hm,fun h' hs'=>?_⟩
 exact ⟨.ref D,_,I2.dictGone I3 hCs (by rw [AX (Ne.symm hDC)];exact hC) hs',rfl,q D hD⟩
theorem PB {i:Nat} {y:Str} {py spos:Pos} (hc:X.calm=true) (hnd:X.N.Nodup) (hiy:X.N[i]? = some y) (hy:X.env.scope.names.lookup y=some .local) (hi:PI X tg iter wi) (S:CompScope scope X.env.scope)
 (hlen:N'.length=own+ix.length) (hN:(N'.drop own).map some=ix.map (X.N[·]?)) (hfr:∀ x∈N'.drop own,scope.names.lookup x=some .free)
 (hg:∀ c,PG (X.comp scope N' c) tg g) (hgo:CY own g) (ht:∀ c,PTs (X.comp scope N' c) ifs tc) (he:∀ c,PE (X.comp scope N' c) elt te)
 (hsw:swapsWith (.ListComp elt [⟨tg,iter,ifs,0⟩] scope pos) (some (.Name y py)) spos.line X.env=pure true)
 (hs:∀ x,foldedSetIterable iter X.env x=pure x:=by intro _;rfl):PS X (.Assign [.Name y py] (.ListComp elt [⟨tg,iter,ifs,0⟩] scope pos) spos) (Eb (Et wi own ix g tc te) (AQ i)):=by
 intro pins s σ H D I h
 rw [exec_Assign_Name_used _ _ _ _ hsw]
 refine wpAny_bind (wpAny_standAt (wpAny_bind ?_))
 show wpAny _ _ (do let _ <- comprehension (.ListComp elt [⟨tg,iter,ifs,0⟩] scope pos) scope X.env _ (newList []) false (eval iter X.env) (some (assign (.Name y py) X.env))) _ _ s
 have hfree:∀ y∈scope.names,y.2=.free->∃ c,X.env.cells.lookup y.1=some c:=fun y hy h=>I.ok.has y.1 (S.fr y hy h)
 refine wpAny_bind (wpAny_mono (wpAny_comprehension_free (use:=some (assign (.Name y py) X.env)) (Q:=fun _ s'=>SP X pins D .next s') rfl hs (Kn hfree) S.kind (fun y hy hl=>Cy S.nd (by rw [<- hl];exact hy)) ?_) (fun _ s' hq=>wpAny_pure (wpAny_pure hq)) fun _ _ e=>e)
 refine thn (hi pins s σ H _ I h) fun v s1 h1=>thn h1 fun itv s2 h2=>?_
 obtain ⟨it,fp,tn,J,H2,e,I2,T,st2,f2,q2⟩:=h2
 subst e
 refine JQ (RR:=fun acc C=>compPost (model X.prog X.w) X.A X.xe (some (assign (.Name y py) X.env)) (fun _ s'=>SP X pins D .next s') acc C) I2 T st2 f2 hc S hlen hN hfr hg hgo ht he q2 ?_
 intro d C s' H' ys its n ho hgn u hok hm hC hCs hD hDs hDC hd rv z q
 obtain ⟨m,hm⟩:=hm
 have I3:=KJ I2 f2 ho hgn u hok hD hDs hd rv z
 show wpAny _ _ (assign (.Name y py) X.env (.ref d)) _ _ s'
 have hCn:(upd H' d (.lst ys)) C=none:=by rw [AX (Ne.symm hDC)];exact hC
 refine wpAny_assign_Name (KD I3 hnd hiy (.inl hy) (v:=.ref d) rfl (fun s3 I4 ⟨a,sb,ha⟩=>?_) (.inr hy))
 have ha':a≠C:=fun e=>by
  have hC0:=Heap.get?_none_of_le hCs
  rcases ha with z | z
  ·obtain ⟨m,⟨o,_,_,ho,_⟩,_⟩:=I2.loc
   rw [<- z,e,hC0] at ho;cases ho
  ·obtain ⟨v,o,ho,_⟩:=I2.cell y a z
   rw [e,hC0] at ho;cases ho
 refine ⟨m,hm.sameBut sb (Ne.symm ha'),fun h' hs'=>?_⟩
 exact ⟨_,_,I2.dictGone I4 hCs hCn hs',q d hD⟩
end
section
variable {X:Cx}
theorem PE.imp {e:Expr} {t t':TE} (h:PE X e t) (f:∀ σ H Q,t' σ H Q->t σ H Q):PE X e t':=fun pins s σ H Q I q=>h pins s σ H Q I (f σ H Q q)
theorem OpR.imp {f:Value->Value->Sem Value} {r r':R2} (h:OpR X f r) (g:∀ x y H Q,r' x y H Q->r x y H Q):OpR X f r':=fun pins s σ H x y v u Q I rx ry q=>h pins s σ H x y v u Q I rx ry (g _ _ _ _ q)
theorem CallR.imp {f:Value} {r r':List V->Hp->VK->Prop} (h:CallR X f r) (g:∀ x H Q,r' x H Q->r x H Q):CallR X f r':=fun pins s σ H xs us Q I r q=>h pins s σ H xs us Q I r (g _ _ _ q)
noncomputable def FI (i:Nat):TE:=fun σ H Q=>match σ[i]? with
 | some (some v)=>Q v H
 | _=>False
theorem vv (i:Nat) {x:Str} {pos:Pos} (hN:X.N[i]? = some x:=by rfl) (hv:Vis X.env.scope x:=by first | exact Or.inl rfl | exact Or.inr (Or.inl rfl) | exact Or.inr (Or.inr rfl)) (hd:(x == ("__debug__" : Str))=false:=by decide)
 (hcd:(x == ("__classdict__" : Str))=false:=by decide):PE X (.Name x pos) (FI i):=(M0 hN hv hd hcd).imp fun σ H Q q=>by
 unfold FI at q
 split at q
 ·rename_i v e;exact ⟨v,e,q⟩
 ·exact q.elim
noncomputable def okMul (i j:Int):Prop:=(i.natAbs < 2 ^ 4096/\j.natAbs < 2 ^ 4096)\/(-(2 ^ 64) < i/\i < 2 ^ 64)\/(-(2 ^ 64) < j/\j < 2 ^ 64)
theorem IF {i:Int} (h:i.natAbs < 2 ^ 4096):Builtin.Int.intBits i<=2 ^ 20:=by
 unfold Builtin.Int.intBits
 split
 ·exact Nat.zero_le _
 ·rename_i hz
  have hne:i.natAbs≠0:=by
   have:¬ i=0:=by simpa using hz
   lia
  have:=(Nat.log2_lt hne).mpr h
  have e:(2:Nat) ^ 20=1048576:=by decide
  lia
theorem okMul.ok {i j:Int} (h:okMul i j):IntMulOk i j:=by
 rcases h with ⟨h1,h2⟩ | h | h
 ·exact .of_bits (IF h1) (IF h2)
 ·exact CMul.ok (.inl h)
 ·exact CMul.ok (.inr h)
noncomputable def okDiv (j:Int):Prop:=0 < j/\j < 2 ^ 4096
theorem okDiv.ok {i j:Int} (h:okDiv j):Builtin.divisionGoesByPylong i j=false:=by
 refine PyProof.noPylong_of_log2 ?_
 obtain ⟨h1,h2⟩:=h
 have hne:j.natAbs≠0:=by lia
 have h3:j.natAbs < 2 ^ 4096:=by
  have e:((j.natAbs:Int))=j:=by lia
  have h2':((j.natAbs:Nat):Int) < ((2 ^ 4096:Nat):Int):=by rw [e,Int.natCast_pow];exact h2
  exact Int.ofNat_lt.mp h2'
 have:=(Nat.log2_lt hne).mpr h3
 lia
noncomputable def Ca (K:W.Frag):R2:=fun x y H Q=>match x,y with
 | .int i,.int j=>Q (.int (i+j)) H
 | .str a,.str b=>a.length+b.length<=sizeLine/\Q (.str (a++b)) H
 | .ref a,.ref b=>G1 (.ref a) (.ref b) H Q\/IQ K (.ref a) (.ref b) H Q
 | _,_=>False
theorem Q3:OpR X (binaryOp .Add) (Ca X.K):=by
 intro pins s σ H x y v u Q I rx ry q
 cases x <;> cases y <;> first
  | exact False.elim q
  | exact Ju pins s σ H _ _ v u Q I rx ry ⟨_,_,rfl,rfl,q⟩
  | exact NF pins s σ H _ _ v u Q I rx ry ⟨_,_,rfl,rfl,q.1,q.2⟩
  | (rcases q with q | q
     ·exact Kx pins s σ H _ _ v u Q I rx ry q
     ·exact Ii pins s σ H _ _ v u Q I rx ry q)
noncomputable def C4:R2:=fun x y H Q=>match x,y with
 | .int i,.int j=>Q (.int (i - j)) H
 | _,_=>False
theorem BW:OpR X (binaryOp .Sub) C4:=by
 intro pins s σ H x y v u Q I rx ry q
 cases x <;> cases y <;> first
  | exact False.elim q
  | exact LU pins s σ H _ _ v u Q I rx ry ⟨_,_,rfl,rfl,q⟩
noncomputable def G0:R2:=fun x y H Q=>match x,y with
 | .int i,.int j=>okMul i j/\Q (.int (i * j)) H
 | .ref a,.int k=>Jw (.ref a) (.int k) H Q
 | _,_=>False
theorem AR:OpR X (binaryOp .Mult) G0:=by
 have hI:OpR X (binaryOp .Mult) (rI okMul fun i j=>.int (i * j)):=opI fun _ _ _ _ _ _ _ hc q=>mul_int q hc.ok
 intro pins s σ H x y v u Q I rx ry q
 cases x <;> cases y <;> first
  | exact False.elim q
  | exact hI pins s σ H _ _ v u Q I rx ry ⟨_,_,rfl,rfl,q.1,q.2⟩
  | exact Np pins s σ H _ _ v u Q I rx ry q
noncomputable def G6:R2:=fun x y H Q=>match x,y with
 | .int i,.int j=>okDiv j/\Q (.int (i / j)) H
 | _,_=>False
theorem CB:OpR X (binaryOp .FloorDiv) G6:=by
 have hI:OpR X (binaryOp .FloorDiv) (rI (fun _ j=>okDiv j) fun i j=>.int (i / j)):=opI fun i j _ _ _ _ _ hc q=>by
  refine floordiv_int (by have:=hc.1;lia) ?_ (.inl hc.ok)
  rw [Int.fdiv_eq_ediv_of_nonneg i (by have:=hc.1;lia)]
  exact q
 intro pins s σ H x y v u Q I rx ry q
 cases x <;> cases y <;> first
  | exact False.elim q
  | exact hI pins s σ H _ _ v u Q I rx ry ⟨_,_,rfl,rfl,q.1,q.2⟩
noncomputable def Gq:R2:=fun x y H Q=>match x,y with
 | .int i,.int j=>0 < j/\Q (.int (i % j)) H
 | _,_=>False
theorem BQ:OpR X (binaryOp .Mod) Gq:=by
 intro pins s σ H x y v u Q I rx ry q
 cases x <;> cases y <;> first
  | exact False.elim q
  | exact QT pins s σ H _ _ v u Q I rx ry ⟨_,_,rfl,rfl,q.1,q.2⟩
noncomputable def Q2:R2:=fun x y H Q=>match x,y with
 | .int i,.int j=>C3 i j/\Q (.int (i ^ j.toNat)) H
 | _,_=>False
theorem JK:OpR X (binaryOp .Pow) Q2:=by
 intro pins s σ H x y v u Q I rx ry q
 cases x <;> cases y <;> first
  | exact False.elim q
  | exact Mm pins s σ H _ _ v u Q I rx ry ⟨_,_,rfl,rfl,q.1,q.2⟩
noncomputable def Oj (f:Int->Int->Int):R2:=fun x y H Q=>match x,y with
 | .int i,.int j=>Q (.int (f i j)) H
 | _,_=>False
theorem CI:OpR X (binaryOp .BitAnd) (Oj Builtin.bitAnd):=by
 intro pins s σ H x y v u Q I rx ry q
 cases x <;> cases y <;> first
  | exact False.elim q
  | exact Lv pins s σ H _ _ v u Q I rx ry ⟨_,_,rfl,rfl,q⟩
noncomputable def ON:R2:=fun x y H Q=>match x,y with
 | .int i,.int j=>C3 i j/\Q (.int (i * 2 ^ j.toNat)) H
 | _,_=>False
theorem CC:OpR X (binaryOp .LShift) ON:=by
 intro pins s σ H x y v u Q I rx ry q
 cases x <;> cases y <;> first
  | exact False.elim q
  | exact RG pins s σ H _ _ v u Q I rx ry ⟨_,_,rfl,rfl,q.1,q.2⟩
noncomputable def Gk:V->Hp->VK->Prop:=fun x H Q=>match x with
 | .int i=>Q (.int (-i)) H
 | _=>False
theorem Ez:UnR X (unaryOp .USub) Gk:=by
 intro pins s σ H x v Q I rx q
 cases x <;> first
  | exact False.elim q
  | exact Ou pins s σ H _ v Q I rx ⟨_,rfl,q⟩
noncomputable def Dc (p:Int->Int->Bool):R2:=fun x y H Q=>match x,y with
 | .int i,.int j=>Q (.bl (p i j)) H
 | _,_=>False
theorem Ef:OpR X (compareOp .Lt) (Dc fun i j=>decide (i < j)):=by
 intro pins s σ H x y v u Q I rx ry q
 cases x <;> cases y <;> first
  | exact False.elim q
  | exact NK pins s σ H _ _ v u Q I rx ry ⟨_,_,rfl,rfl,q⟩
theorem Nu:OpR X (compareOp .LtE) (Dc fun i j=>decide (i<=j)):=by
 intro pins s σ H x y v u Q I rx ry q
 cases x <;> cases y <;> first
  | exact False.elim q
  | exact RQ pins s σ H _ _ v u Q I rx ry ⟨_,_,rfl,rfl,q⟩
theorem Ct:OpR X (compareOp .Gt) (Dc fun i j=>decide (j < i)):=by
 intro pins s σ H x y v u Q I rx ry q
 cases x <;> cases y <;> first
  | exact False.elim q
  | exact Mx pins s σ H _ _ v u Q I rx ry ⟨_,_,rfl,rfl,q⟩
theorem KG:OpR X (compareOp .GtE) (Dc fun i j=>decide (j<=i)):=by
 intro pins s σ H x y v u Q I rx ry q
 cases x <;> cases y <;> first
  | exact False.elim q
  | exact RJ pins s σ H _ _ v u Q I rx ry ⟨_,_,rfl,rfl,q⟩
end
inductive Dv where
 | non | bl (b:Bool) | int (i:Int) | str (x:Str) | tup (ds:List Dv) | lst (ds:List Dv)
mutual
noncomputable def Rep (K:W.Frag) (H:Hp):Dv->V->Prop
 | .non,v=>v=.non
 | .bl b,v=>v=.bl b
 | .int i,v=>v=.int i
 | .str x,v=>v=.str x
 | .tup ds,v=>∃ a xs,v=.ref a/\SqT K H a xs/\Reps K H ds xs
 | .lst ds,v=>∃ a xs,v=.ref a/\SqL K H a xs/\Reps K H ds xs
noncomputable def Reps (K:W.Frag) (H:Hp):List Dv->List V->Prop
 | [],xs=>xs=[]
 | d::ds,xs=>∃ x r,xs=x::r/\Rep K H d x/\Reps K H ds r
end
mutual
noncomputable def eqD:Dv->Dv->Bool
 | .non,.non=>true
 | .bl a,.bl b=>a == b
 | .bl a,.int b=>(if a then 1 else 0) == b
 | .int a,.bl b=>a == (if b then 1 else 0)
 | .int a,.int b=>a == b
 | .str a,.str b=>a == b
 | .tup ds,.tup es=>BS ds es
 | .lst ds,.lst es=>BS ds es
 | _,_=>false
noncomputable def BS:List Dv->List Dv->Bool
 | [],[]=>true
 | d::ds,e::es=>eqD d e && BS ds es
 | _,_=>false
end
mutual
noncomputable def AY:Dv->Nat
 | .tup ds=>A6 ds+1
 | .lst ds=>A6 ds+1
 | _=>0
noncomputable def A6:List Dv->Nat
 | []=>0
 | d::ds=>max (AY d) (A6 ds)
end
theorem QQ (ds es:List Dv):eqD (.tup ds) (.tup es)=BS ds es:=by rw [eqD]
theorem JO (ds es:List Dv):eqD (.lst ds) (.lst es)=BS ds es:=by rw [eqD]
theorem Reps.length {K:W.Frag} {H:Hp}:∀ {ds:List Dv} {xs:List V},Reps K H ds xs->ds.length=xs.length
 | [],xs,h=>by unfold Reps at h;subst h;rfl
 | d::ds,xs,h=>by
  unfold Reps at h
  obtain ⟨x,r,rfl,_,h⟩:=h
  rw [List.length_cons,List.length_cons,Reps.length h]
theorem Reps.get {K:W.Frag} {H:Hp}:∀ {ds:List Dv} {xs:List V} {i:Nat} {d:Dv},Reps K H ds xs->ds[i]? = some d->∃ x,xs[i]? = some x/\Rep K H d x
 | [],_,_,_,_,e=>by simp at e
 | d::ds,xs,0,_,h,e=>by
  unfold Reps at h
  obtain ⟨x,r,rfl,h1,_⟩:=h
  simp at e;subst e
  exact ⟨x,rfl,h1⟩
 | d::ds,xs,i+1,_,h,e=>by
  unfold Reps at h
  obtain ⟨x,r,rfl,_,h⟩:=h
  obtain ⟨y,h1,h2⟩:=Reps.get (i:=i) h (by simpa using e)
  exact ⟨y,by simpa using h1,h2⟩
theorem Hv {ds:List Dv} {i:Nat} {d:Dv} (h:ds[i]? = some d):AY d<=A6 ds:=by
 induction ds generalizing i with
 | nil=>simp at h
 | cons e es ih =>
  unfold A6
  cases i with
  | zero=>simp at h;subst h;lia
  | succ i=>have:=ih (i:=i) (by simpa using h);lia
theorem GQ:∀ (ds es:List Dv),ds.length=es.length->BS ds es=(List.range ds.length).all fun i=>match ds[i]?,es[i]? with | some d,some e=>eqD d e | _,_=>false
 | [],[],_=>by unfold BS;rfl
 | d::ds,e::es,h=>by
  unfold BS
  rw [List.length_cons,List.range_succ_eq_map,List.all_cons,List.all_map,GQ ds es (by simpa using h)]
  congr 1
 | [],e::es,h=>by simp at h
 | d::ds,[],h=>by simp at h
theorem Gc:∀ (ds es:List Dv),ds.length≠es.length->BS ds es=false
 | [],[],h=>absurd rfl h
 | [],_::_,_=>by unfold BS;rfl
 | _::_,[],_=>by unfold BS;rfl
 | d::ds,e::es,h=>by unfold BS;rw [Gc ds es (fun z=>h (by simp [z])),Bool.and_false]
mutual
theorem Fa:∀ d:Dv,eqD d d=true
 | .non=>by unfold eqD;rfl
 | .bl b=>by unfold eqD;simp
 | .int i=>by unfold eqD;simp
 | .str x=>by unfold eqD;simp
 | .tup ds=>by unfold eqD;exact G5 ds
 | .lst ds=>by unfold eqD;exact G5 ds
theorem G5:∀ ds:List Dv,BS ds ds=true
 | []=>by unfold BS;rfl
 | d::ds=>by unfold BS;rw [Fa d,G5 ds];rfl
end
section
variable {X:Cx} {pins:List (Addr × Obj)} {σ:St} {H:Hp} {s:Shared}
theorem JV {a:Addr} {xs ys:List V} (I:Inv X pins σ H s) (h:SqL X.K H a xs) (h':SqT X.K H a ys):False:=by
 obtain ⟨its,_,⟨o,n,e,c,_⟩,_⟩:=I.list h
 obtain ⟨its',_,⟨o',e',c',_⟩,_⟩:=I.tuple h'
 rw [e] at e';cases e'
 rw [c] at c'
 exact absurd c' (by decide)
mutual
theorem Ge (I:Inv X pins σ H s):∀ (d e:Dv) (x:V),Rep X.K H d x->Rep X.K H e x->d=e
 | .non,e,x,h,h'=>by
  unfold Rep at h;subst h
  cases e <;> unfold Rep at h' <;> first | rfl | (obtain ⟨a,xs,q,_⟩:=h';cases q;done) | (cases h';done)
 | .bl b,e,x,h,h'=>by
  unfold Rep at h;subst h
  cases e <;> unfold Rep at h' <;> first | (obtain ⟨a,xs,q,_⟩:=h';cases q;done) | (cases h';rfl) | (cases h';done)
 | .int b,e,x,h,h'=>by
  unfold Rep at h;subst h
  cases e <;> unfold Rep at h' <;> first | (obtain ⟨a,xs,q,_⟩:=h';cases q;done) | (cases h';rfl) | (cases h';done)
 | .str b,e,x,h,h'=>by
  unfold Rep at h;subst h
  cases e <;> unfold Rep at h' <;> first | (obtain ⟨a,xs,q,_⟩:=h';cases q;done) | (cases h';rfl) | (cases h';done)
 | .tup ds,e,x,h,h'=>by
  unfold Rep at h
  obtain ⟨a,xs,rfl,hs,hr⟩:=h
  cases e with
  | tup es =>
   unfold Rep at h'
   obtain ⟨b,ys,q,hs',hr'⟩:=h'
   cases q
   rw [I.tuple_inj hs' hs] at hr'
   rw [Gi I ds es xs hr hr']
  | lst es =>
   unfold Rep at h'
   obtain ⟨b,ys,q,hs',hr'⟩:=h'
   cases q
   exact (JV I hs' hs).elim
  | _=>unfold Rep at h';cases h'
 | .lst ds,e,x,h,h'=>by
  unfold Rep at h
  obtain ⟨a,xs,rfl,hs,hr⟩:=h
  cases e with
  | lst es =>
   unfold Rep at h'
   obtain ⟨b,ys,q,hs',hr'⟩:=h'
   cases q
   rw [I.list_inj hs' hs] at hr'
   rw [Gi I ds es xs hr hr']
  | tup es =>
   unfold Rep at h'
   obtain ⟨b,ys,q,hs',hr'⟩:=h'
   cases q
   exact (JV I hs hs').elim
  | _=>unfold Rep at h';cases h'
theorem Gi (I:Inv X pins σ H s):∀ (ds es:List Dv) (xs:List V),Reps X.K H ds xs->Reps X.K H es xs->ds=es
 | [],es,xs,h,h'=>by
  unfold Reps at h;subst h
  cases es with
  | nil=>rfl
  | cons e es=>unfold Reps at h';obtain ⟨x,r,q,_⟩:=h';cases q
 | d::ds,es,xs,h,h'=>by
  unfold Reps at h
  obtain ⟨x,r,rfl,h1,h2⟩:=h
  cases es with
  | nil=>unfold Reps at h';cases h'
  | cons e es =>
   unfold Reps at h'
   obtain ⟨y,r',q,h3,h4⟩:=h'
   cases q
   rw [Ge I d e _ h1 h3,Gi I ds es _ h2 h4]
end
noncomputable abbrev Eq3 (A:Around) (s:Shared) (u v:Value) (b:Bool):Prop:=SeqAt.EqAt A s u v b/\SeqAt.RcAt A s u v b/\SeqAt.RcNeAt A s u v (!b)
theorem Ls {A:Around} {a b:Addr} {xs ys:List V} {ds es:List Dv} (I:Inv X pins σ H s) (hu:A.units < cLine) (ha:SqT X.K H a xs) (hb:SqT X.K H b ys) (hd:Reps X.K H ds xs) (he:Reps X.K H es ys)
 (ih:∀ (i:Nat) (d e:Dv) (x y:V) (u v:Value),ds[i]? = some d->es[i]? = some e->xs[i]? = some x->ys[i]? = some y->RelV x u->RelV y v->SeqAt.EqAt A.in1 s u v (eqD d e)):Eq3 A s (.ref a) (.ref b) (eqD (.tup ds) (.tup es)):=by
 obtain ⟨its,r1,p1,_⟩:=I.tuple ha
 obtain ⟨its2,r2,p2,_⟩:=I.tuple hb
 have l1:=hd.length;have l2:=he.length;have l3:=r1.length;have l4:=r2.length
 have hitem:∀ j (h1:j < its.toArray.size) (h2:j < its2.toArray.size),SeqAt.EqAt A.in1 s its.toArray[j] its2.toArray[j] (match ds[j]?,es[j]? with | some d,some e=>eqD d e | _,_=>false):=fun j h1 h2=>by
  rw [List.size_toArray] at h1 h2
  have e1:ds[j]? = some ds[j]:=List.getElem?_eq_getElem (by lia)
  have e2:es[j]? = some es[j]:=List.getElem?_eq_getElem (by lia)
  have e3:xs[j]? = some xs[j]:=List.getElem?_eq_getElem (by lia)
  have e4:ys[j]? = some ys[j]:=List.getElem?_eq_getElem (by lia)
  obtain ⟨u,q1,q2⟩:=r1.get e3
  obtain ⟨v,q3,q4⟩:=r2.get e4
  rw [e1,e2]
  have z1:its.toArray[j]=u:=by rw [List.getElem_toArray];rw [List.getElem?_eq_getElem h1] at q1;exact Option.some.inj q1
  have z2:its2.toArray[j]=v:=by rw [List.getElem_toArray];rw [List.getElem?_eq_getElem h2] at q3;exact Option.some.inj q3
  rw [z1,z2]
  exact ih j _ _ _ _ _ _ e1 e2 e3 e4 q2 q4
 have val:((List.range (min its.toArray.size its2.toArray.size)).all (fun j=>match ds[j]?,es[j]? with | some d,some e=>eqD d e | _,_=>false) && its.toArray.size == its2.toArray.size)=eqD (.tup ds) (.tup es):=by
  rw [List.size_toArray,List.size_toArray,<- l3,<- l4,<- l1,<- l2,QQ]
  by_cases h:ds.length=es.length
  ·rw [h,Nat.min_self,<- h,GQ ds es h]
   simp
  ·rw [Gc ds es h]
   have:(ds.length == es.length)=false:=by simpa using h
   rw [this,Bool.and_false]
 have R:=SeqAt.RcAt.tuples (A:=A) p1 p2 hu hitem
 have N:=SeqAt.RcNeAt.tuples (A:=A) p1 p2 hu hitem
 rw [val] at R N
 refine ⟨?_,R,N⟩
 by_cases hab:a=b
 ·subst hab
  have e:ds=es:=by
   have:=Ge I (.tup ds) (.tup es) (.ref a) (by unfold Rep;exact ⟨a,xs,rfl,ha,hd⟩) (by unfold Rep;exact ⟨a,ys,rfl,hb,he⟩)
   cases this;rfl
  subst e
  rw [Fa]
  exact SeqAt.EqAt.same _
 ·exact .of_refs hab R
theorem QM {A:Around} {a b:Addr} {xs ys:List V} {ds es:List Dv} (I:Inv X pins σ H s) (hu:A.units < cLine) (ha:SqL X.K H a xs) (hb:SqL X.K H b ys) (hd:Reps X.K H ds xs) (he:Reps X.K H es ys)
 (ih:∀ (i:Nat) (d e:Dv) (x y:V) (u v:Value),ds[i]? = some d->es[i]? = some e->xs[i]? = some x->ys[i]? = some y->RelV x u->RelV y v->SeqAt.EqAt A.in1 s u v (eqD d e)):Eq3 A s (.ref a) (.ref b) (eqD (.lst ds) (.lst es)):=by
 obtain ⟨its,r1,p1,_⟩:=I.list ha
 obtain ⟨its2,r2,p2,_⟩:=I.list hb
 have l1:=hd.length;have l2:=he.length;have l3:=r1.length;have l4:=r2.length
 have hitem:∀ j (h1:j < its.toArray.size) (h2:j < its2.toArray.size),SeqAt.EqAt A.in1 s its.toArray[j] its2.toArray[j] (match ds[j]?,es[j]? with | some d,some e=>eqD d e | _,_=>false):=fun j h1 h2=>by
  rw [List.size_toArray] at h1 h2
  have e1:ds[j]? = some ds[j]:=List.getElem?_eq_getElem (by lia)
  have e2:es[j]? = some es[j]:=List.getElem?_eq_getElem (by lia)
  have e3:xs[j]? = some xs[j]:=List.getElem?_eq_getElem (by lia)
  have e4:ys[j]? = some ys[j]:=List.getElem?_eq_getElem (by lia)
  obtain ⟨u,q1,q2⟩:=r1.get e3
  obtain ⟨v,q3,q4⟩:=r2.get e4
  rw [e1,e2]
  have z1:its.toArray[j]=u:=by rw [List.getElem_toArray];rw [List.getElem?_eq_getElem h1] at q1;exact Option.some.inj q1
  have z2:its2.toArray[j]=v:=by rw [List.getElem_toArray];rw [List.getElem?_eq_getElem h2] at q3;exact Option.some.inj q3
  rw [z1,z2]
  exact ih j _ _ _ _ _ _ e1 e2 e3 e4 q2 q4
 have RN:SeqAt.RcAt A s (.ref a) (.ref b) (eqD (.lst ds) (.lst es))/\SeqAt.RcNeAt A s (.ref a) (.ref b) (!eqD (.lst ds) (.lst es)):=by
  by_cases h:ds.length=es.length
  ·have hsz:its.toArray.size=its2.toArray.size:=by rw [List.size_toArray,List.size_toArray];lia
   have val:(List.range its.toArray.size).all (fun j=>match ds[j]?,es[j]? with | some d,some e=>eqD d e | _,_=>false)=eqD (.lst ds) (.lst es):=by
    rw [JO,List.size_toArray,<- l3,<- l1,GQ ds es h]
   have R:=SeqAt.RcAt.lists (A:=A) p1.isList p2.isList hsz hu hitem
   have N:=SeqAt.RcNeAt.lists (A:=A) p1.isList p2.isList hsz hu hitem
   rw [val] at R N
   exact ⟨R,N⟩
  ·have hsz:(its.toArray.size != its2.toArray.size)=true:=by rw [List.size_toArray,List.size_toArray];simp;lia
   have val:eqD (.lst ds) (.lst es)=false:=by rw [JO];exact Gc ds es h
   rw [val]
   exact ⟨SeqAt.RcAt.lists_lengths p1.isList p2.isList hsz hu,SeqAt.RcNeAt.lists_lengths p1.isList p2.isList hsz hu⟩
 refine ⟨?_,RN.1,RN.2⟩
 by_cases hab:a=b
 ·subst hab
  have e:ds=es:=by
   have:=Ge I (.lst ds) (.lst es) (.ref a) (by unfold Rep;exact ⟨a,xs,rfl,ha,hd⟩) (by unfold Rep;exact ⟨a,ys,rfl,hb,he⟩)
   cases this;rfl
  subst e
  rw [Fa]
  exact SeqAt.EqAt.same _
 ·exact .of_refs hab RN.1
theorem JT (I:Inv X pins σ H s):∀ (n:Nat) (A:Around) (d e:Dv) (x y:V) (u v:Value),AY d<=n->A.units+n < cLine->Rep X.K H d x->Rep X.K H e y->RelV x u->RelV y v->Eq3 A s u v (eqD d e):=by
 intro n
 induction n with
 | zero =>
  intro A d e x y u v hd hu hx hy ru rv
  have hu':A.units < cLine:=by lia
  cases d with
  | tup ds=>unfold AY at hd;lia
  | lst ds=>unfold AY at hd;lia
  | non =>
   unfold Rep at hx;subst hx;cases ru
   cases e <;> unfold Rep at hy
   case non=>subst hy;cases rv;exact ⟨SeqAt.EqAt.same _,SeqAt.RcAt.none_none,SeqAt.RcNeAt.none_none⟩
   case bl=>subst hy;cases rv;exact ⟨.none_bool _,.none_bool _,.none_bool _⟩
   case int=>subst hy;obtain ⟨t,rfl⟩:=rv;exact ⟨.none_int _ _,.none_int _ _,.none_int _ _⟩
   case str=>subst hy;obtain ⟨t,rfl⟩:=rv;exact ⟨.none_str _ _,.none_str _ _,.none_str _ _⟩
   case tup=>obtain ⟨a,xs,rfl,ha,_⟩:=hy;cases rv;obtain ⟨its,_,p,_⟩:=I.tuple ha;exact ⟨.none_tuple p hu',.none_tuple p hu',.none_tuple p hu'⟩
   case lst=>obtain ⟨a,xs,rfl,ha,_⟩:=hy;cases rv;obtain ⟨its,_,p,_⟩:=I.list ha;exact ⟨.none_list p.isList hu',.none_list p.isList hu',.none_list p.isList hu'⟩
  | bl c =>
   unfold Rep at hx;subst hx;cases ru
   cases e <;> unfold Rep at hy
   case non=>subst hy;cases rv;exact ⟨.bool_none _,.bool_none _,.bool_none _⟩
   case bl=>subst hy;cases rv;unfold eqD;exact ⟨.bool_bool _ _,.bool_bool _ _,.bool_bool _ _⟩
   case int=>subst hy;obtain ⟨t,rfl⟩:=rv;unfold eqD;exact ⟨.bool_int _ _ _,.bool_int _ _ _,.bool_int _ _ _⟩
   case str=>subst hy;obtain ⟨t,rfl⟩:=rv;exact ⟨.bool_str _ _ _,.bool_str _ _ _,.bool_str _ _ _⟩
   case tup=>obtain ⟨a,xs,rfl,ha,_⟩:=hy;cases rv;obtain ⟨its,_,p,_⟩:=I.tuple ha;exact ⟨.bool_tuple _ p hu',.bool_tuple _ p hu',.bool_tuple _ p hu'⟩
   case lst=>obtain ⟨a,xs,rfl,ha,_⟩:=hy;cases rv;obtain ⟨its,_,p,_⟩:=I.list ha;exact ⟨.bool_list _ p.isList hu',.bool_list _ p.isList hu',.bool_list _ p.isList hu'⟩
  | int c =>
   unfold Rep at hx;subst hx;obtain ⟨t0,rfl⟩:=ru
   cases e <;> unfold Rep at hy
   case non=>subst hy;cases rv;exact ⟨.int_none _ _,.int_none _ _,.int_none _ _⟩
   case bl=>subst hy;cases rv;unfold eqD;exact ⟨.int_bool _ _ _,.int_bool _ _ _,.int_bool _ _ _⟩
   case int=>subst hy;obtain ⟨t,rfl⟩:=rv;unfold eqD;exact ⟨.int_int _ _ _ _,.int_int _ _ _ _,.int_int _ _ _ _⟩
   case str=>subst hy;obtain ⟨t,rfl⟩:=rv;exact ⟨.int_str _ _ _ _,.int_str _ _ _ _,.int_str _ _ _ _⟩
   case tup=>obtain ⟨a,xs,rfl,ha,_⟩:=hy;cases rv;obtain ⟨its,_,p,_⟩:=I.tuple ha;exact ⟨.int_tuple _ _ p hu',.int_tuple _ _ p hu',.int_tuple _ _ p hu'⟩
   case lst=>obtain ⟨a,xs,rfl,ha,_⟩:=hy;cases rv;obtain ⟨its,_,p,_⟩:=I.list ha;exact ⟨.int_list _ _ p.isList hu',.int_list _ _ p.isList hu',.int_list _ _ p.isList hu'⟩
  | str c =>
   unfold Rep at hx;subst hx;obtain ⟨t0,rfl⟩:=ru
   cases e <;> unfold Rep at hy
   case non=>subst hy;cases rv;exact ⟨.str_none _ _,.str_none _ _,.str_none _ _⟩
   case bl=>subst hy;cases rv;exact ⟨.str_bool _ _ _,.str_bool _ _ _,.str_bool _ _ _⟩
   case int=>subst hy;obtain ⟨t,rfl⟩:=rv;exact ⟨.str_int _ _ _ _,.str_int _ _ _ _,.str_int _ _ _ _⟩
   case str=>subst hy;obtain ⟨t,rfl⟩:=rv;unfold eqD;exact ⟨.str_str _ _ _ _,.str_str _ _ _ _,.str_str _ _ _ _⟩
   case tup=>obtain ⟨a,xs,rfl,ha,_⟩:=hy;cases rv;obtain ⟨its,_,p,_⟩:=I.tuple ha;exact ⟨.str_tuple _ _ p hu',.str_tuple _ _ p hu',.str_tuple _ _ p hu'⟩
   case lst=>obtain ⟨a,xs,rfl,ha,_⟩:=hy;cases rv;obtain ⟨its,_,p,_⟩:=I.list ha;exact ⟨.str_list _ _ p.isList hu',.str_list _ _ p.isList hu',.str_list _ _ p.isList hu'⟩
 | succ n ih =>
  intro A d e x y u v hd hu hx hy ru rv
  have hu':A.units < cLine:=by lia
  have hin:A.in1.units+n < cLine:=by show A.units+1+n < cLine;lia
  cases d with
  | tup ds =>
   unfold AY at hd
   unfold Rep at hx
   obtain ⟨a,xs,rfl,ha,hr⟩:=hx
   cases ru
   cases e <;> unfold Rep at hy
   case tup es =>
    obtain ⟨b,ys,rfl,hb,hr'⟩:=hy
    cases rv
    refine Ls I hu' ha hb hr hr' fun i d e x y u v e1 e2 e3 e4 ru rv=>?_
    obtain ⟨x',q1,q2⟩:=hr.get e1
    obtain ⟨y',q3,q4⟩:=hr'.get e2
    rw [e3] at q1;cases q1
    rw [e4] at q3;cases q3
    exact (ih A.in1 d e x y u v (by have:=Hv e1;lia) hin q2 q4 ru rv).1
   case non=>subst hy;cases rv;obtain ⟨its,_,p,_⟩:=I.tuple ha;exact ⟨.tuple_none p hu',.tuple_none p hu',.tuple_none p hu'⟩
   case bl=>subst hy;cases rv;obtain ⟨its,_,p,_⟩:=I.tuple ha;exact ⟨.tuple_bool _ p hu',.tuple_bool _ p hu',.tuple_bool _ p hu'⟩
   case int=>subst hy;obtain ⟨t,rfl⟩:=rv;obtain ⟨its,_,p,_⟩:=I.tuple ha;exact ⟨.tuple_int _ _ p hu',.tuple_int _ _ p hu',.tuple_int _ _ p hu'⟩
   case str=>subst hy;obtain ⟨t,rfl⟩:=rv;obtain ⟨its,_,p,_⟩:=I.tuple ha;exact ⟨.tuple_str _ _ p hu',.tuple_str _ _ p hu',.tuple_str _ _ p hu'⟩
   case lst=>obtain ⟨b,ys,rfl,hb,_⟩:=hy;cases rv;obtain ⟨its,_,p,_⟩:=I.tuple ha;obtain ⟨its2,_,p2,_⟩:=I.list hb;exact ⟨.tuple_list p p2.isList hu',.tuple_list p p2.isList hu',.tuple_list p p2.isList hu'⟩
  | lst ds =>
   unfold AY at hd
   unfold Rep at hx
   obtain ⟨a,xs,rfl,ha,hr⟩:=hx
   cases ru
   cases e <;> unfold Rep at hy
   case lst es =>
    obtain ⟨b,ys,rfl,hb,hr'⟩:=hy
    cases rv
    refine QM I hu' ha hb hr hr' fun i d e x y u v e1 e2 e3 e4 ru rv=>?_
    obtain ⟨x',q1,q2⟩:=hr.get e1
    obtain ⟨y',q3,q4⟩:=hr'.get e2
    rw [e3] at q1;cases q1
    rw [e4] at q3;cases q3
    exact (ih A.in1 d e x y u v (by have:=Hv e1;lia) hin q2 q4 ru rv).1
   case non=>subst hy;cases rv;obtain ⟨its,_,p,_⟩:=I.list ha;exact ⟨.list_none p.isList hu',.list_none p.isList hu',.list_none p.isList hu'⟩
   case bl=>subst hy;cases rv;obtain ⟨its,_,p,_⟩:=I.list ha;exact ⟨.list_bool _ p.isList hu',.list_bool _ p.isList hu',.list_bool _ p.isList hu'⟩
   case int=>subst hy;obtain ⟨t,rfl⟩:=rv;obtain ⟨its,_,p,_⟩:=I.list ha;exact ⟨.list_int _ _ p.isList hu',.list_int _ _ p.isList hu',.list_int _ _ p.isList hu'⟩
   case str=>subst hy;obtain ⟨t,rfl⟩:=rv;obtain ⟨its,_,p,_⟩:=I.list ha;exact ⟨.list_str _ _ p.isList hu',.list_str _ _ p.isList hu',.list_str _ _ p.isList hu'⟩
   case tup=>obtain ⟨b,ys,rfl,hb,_⟩:=hy;cases rv;obtain ⟨its,_,p,_⟩:=I.list ha;obtain ⟨its2,_,p2,_⟩:=I.tuple hb;exact ⟨.list_tuple p.isList p2 hu',.list_tuple p.isList p2 hu',.list_tuple p.isList p2 hu'⟩
  | non=>exact ih A .non e x y u v (by unfold AY;lia) (by lia) hx hy ru rv
  | bl c=>exact ih A (.bl c) e x y u v (by unfold AY;lia) (by lia) hx hy ru rv
  | int c=>exact ih A (.int c) e x y u v (by unfold AY;lia) (by lia) hx hy ru rv
  | str c=>exact ih A (.str c) e x y u v (by unfold AY;lia) (by lia) hx hy ru rv
end
section
variable {X:Cx}
noncomputable def mEq (neg:Bool) (K:W.Frag):R2:=fun x y H Q=>match x,y with
 | .non,.non=>Q (.bl (neg ^^ true)) H
 | .bl a,.bl b=>Q (.bl (neg ^^ (a == b))) H
 | .int a,.int b=>Q (.bl (neg ^^ (a == b))) H
 | .str a,.str b=>Q (.bl (neg ^^ (a == b))) H
 | x,y=>∃ d e,Rep K H d x/\Rep K H e y/\AY d<=60/\Q (.bl (neg ^^ eqD d e)) H
theorem Op (hu:X.A.units+60 < cLine):OpR X (compareOp .Eq) (fun x y H Q=>∃ d e,Rep X.K H d x/\Rep X.K H e y/\AY d<=60/\Q (.bl (eqD d e)) H):=by
 intro pins s σ H x y v u Q I rx ry h
 obtain ⟨d,e,h1,h2,h3,q⟩:=h
 exact (JT I 60 X.A d e x y v u h3 hu h1 h2 rx ry).2.1 X.prog X.w _ _ ⟨.bl _,H,I,rfl,q⟩
theorem MQ (hu:X.A.units+60 < cLine):OpR X (compareOp .NotEq) (fun x y H Q=>∃ d e,Rep X.K H d x/\Rep X.K H e y/\AY d<=60/\Q (.bl (!eqD d e)) H):=by
 intro pins s σ H x y v u Q I rx ry h
 obtain ⟨d,e,h1,h2,h3,q⟩:=h
 exact (JT I 60 X.A d e x y v u h3 hu h1 h2 rx ry).2.2 X.prog X.w _ _ ⟨.bl _,H,I,rfl,q⟩
theorem Jl {neg:Bool} {K:W.Frag} {x y:V} {H:Hp} {Q:VK} (h:mEq neg K x y H Q):∃ d e,Rep K H d x/\Rep K H e y/\AY d<=60/\Q (.bl (neg ^^ eqD d e)) H:=by
 unfold mEq at h
 split at h
 ·exact ⟨.non,.non,by unfold Rep;rfl,by unfold Rep;rfl,by unfold AY;lia,by unfold eqD;exact h⟩
 ·rename_i a b;exact ⟨.bl a,.bl b,by unfold Rep;rfl,by unfold Rep;rfl,by unfold AY;lia,by unfold eqD;exact h⟩
 ·rename_i a b;exact ⟨.int a,.int b,by unfold Rep;rfl,by unfold Rep;rfl,by unfold AY;lia,by unfold eqD;exact h⟩
 ·rename_i a b;exact ⟨.str a,.str b,by unfold Rep;rfl,by unfold Rep;rfl,by unfold AY;lia,by unfold eqD;exact h⟩
 ·exact h
theorem L1 (hu:X.A.units+60 < cLine):OpR X (compareOp .Eq) (mEq false X.K):=(Op hu).imp fun x y H Q h=>by
 obtain ⟨d,e,h1,h2,h3,q⟩:=Jl h
 exact ⟨d,e,h1,h2,h3,by rw [Bool.false_xor] at q;exact q⟩
theorem RO (hu:X.A.units+60 < cLine):OpR X (compareOp .NotEq) (mEq true X.K):=(MQ hu).imp fun x y H Q h=>by
 obtain ⟨d,e,h1,h2,h3,q⟩:=Jl h
 exact ⟨d,e,h1,h2,h3,by rw [Bool.true_xor] at q;exact q⟩
end
section
variable {X:Cx} {a b c e:Expr} {es:List Expr} {ta tb tc te:TE} {tA tB':TT} {t:TA} {pos p:Pos} {x:Str}
noncomputable def isB (v:V) (Q:Bool->Prop):Prop:=match v with
 | .bl c=>Q c
 | _=>False
theorem HF {v:V} {Q:Bool->Prop} (h:isB v Q):∃ c,v=.bl c/\Q c:=by
 cases v <;> first | exact False.elim h | exact ⟨_,rfl,h⟩
noncomputable def Ad (t:TE):Prop:=∀ σ H (Q Q':VK),(∀ v H,Q v H->Q' v H)->t σ H Q->t σ H Q'
noncomputable def uB (t:TE):TT:=fun σ H Q=>t σ H fun x H1=>isB x fun c=>Q c H1
theorem AV {op:CmpOp} {r:R2} (ho:OpR X (compareOp op) r) (ha:PE X a ta) (hb:PE X b tb) (hm:behindInMarks op b=false:=by first | exact HJ _ (by decide) (by decide) | rfl):PT X (.Compare a [op] [b] pos) (uB (tOp r ta tb)):=by
 intro pins s σ H Q I h
 refine wpAny_isTrue_Compare1 (thn (ha pins s σ H _ I h) fun v s1 ⟨x,H1,I1,r1,q1⟩=>thn (hb pins s1 σ H1 _ I1 q1) fun u s2 ⟨y,H2,I2,r2,q2⟩ =>
  thn (ho pins s2 σ H2 x y v u _ I2 r1 r2 q2) fun c s3 ⟨z,H3,I3,r3,q⟩=>?_) hm
 obtain ⟨k,e,q3⟩:=HF q
 subst e
 cases r3
 exact wpAny_truthy_bool ⟨H3,I3,q3⟩
theorem C2 {op:CmpOp} {r:R2} (ho:OpR X (compareOp op) r) (ha:PE X a ta) (hb:PE X b tb) (hm:behindInMarks op b=false:=by first | exact HJ _ (by decide) (by decide) | rfl):PE X (.Compare a [op] [b] pos) (tOp r ta tb):=Lm ho ha hb hm
theorem Fo (h:PE X e te) (he:∀ whole,isTrue e X.env whole=(do let v <- whole;standAt e.pos;holding [v] (truthy v)):=by intro _;rfl):PT X e (uB te):=by
 intro pins s σ H Q I hq
 refine isTrue_plain (thn (h pins s σ H _ I hq) fun v s1 ⟨x,H1,I1,r1,q1⟩=>?_) (he _)
 obtain ⟨k,e,q⟩:=HF q1
 subst e
 cases r1
 exact wpAny_truthy_bool ⟨H1,I1,q⟩
noncomputable def Ic (ta:TE):TE:=fun σ H Q=>ta σ H fun x H1=>isB x fun c=>Q (.bl (!c)) H1
theorem RH (ha:PE X a ta):PE X (.UnaryOp .Not a pos) (Ic ta):=by
 have ha':PE X a (fun σ H Q=>ta σ H fun x H1=>isB x fun c=>Q (.bl c) H1):=fun pins s σ H Q I h=>thn (ha pins s σ H _ I h) fun v s1 ⟨x,H1,I1,r1,q1⟩=>by
  obtain ⟨c,e,q⟩:=HF q1
  subst e
  exact ⟨.bl c,H1,I1,r1,q⟩
 have h:=Pq (pos:=pos) ha'
 exact h.imp fun σ H Q q=>by
  show ta σ H fun x H1=>isB x fun c=>∃ c',V.bl c=.bl c'/\Q (.bl (!c')) H1
  have e:(fun (x:V) (H1:Hp)=>isB x fun c=>∃ c',V.bl c=.bl c'/\Q (.bl (!c')) H1)=fun x H1=>isB x fun c=>Q (.bl (!c)) H1:=by
   funext x H1
   cases x <;> first | rfl | (apply propext;constructor;(rintro ⟨c',e,h⟩;cases e;exact h);(intro h;exact ⟨_,rfl,h⟩))
  rw [e]
  exact q
noncomputable def SqA (K:W.Frag) (H:Hp) (p:Addr) (xs:List V):Prop:=SqL K H p xs\/SqT K H p xs
noncomputable def mIx (K:W.Frag):R2:=fun x y H Q=>match x,y with
 | .ref p,.int i=>∃ xs v,SqA K H p xs/\atI xs i=some v/\Q v H
 | .str z,.int i=>∃ c,z.length<=sizeLine/\atI z.cps.toList i=some c/\Q (.str ⟨#[c]⟩) H
 | _,_=>False
theorem IxR.imp {r r':R2} (h:IxR X r) (g:∀ x y H Q,r' x y H Q->r x y H Q):IxR X r':=fun a b pins s σ H x y v u Q I rx ry q z=>h a b pins s σ H x y v u Q I rx ry (g _ _ _ _ q) z
theorem QP:IxR X (mIx X.K):=ix_seq.imp fun x y H Q q=>by
 cases x <;> cases y <;> first
  | exact False.elim q
  | (obtain ⟨xs,v,h | h,e,q⟩:=q
     ·exact .inl ⟨_,xs,_,v,rfl,rfl,h,e,q⟩
     ·exact .inr (.inl ⟨_,xs,_,v,rfl,rfl,h,e,q⟩))
  | (obtain ⟨c,hz,e,q⟩:=q
     exact .inr (.inr ⟨_,_,c,rfl,rfl,hz,e,q⟩))
theorem Pb (ha:PE X a ta) (hb:PE X b tb) (hs:HG b:=by intro _ _;rfl):PE X (.Subscript a b pos) (tOp (mIx X.K) ta tb):=RB QP ha hb hs
noncomputable def Fq (K:W.Frag):List V->Hp->VK->Prop:=fun xs H Q=>match xs with
 | [x]=>∃ n,KS K x H n/\Q (.int n) H
 | _=>False
theorem Od:CallR X (.builtin "len") (Fq X.K):=call_len.imp fun xs H Q q=>by
 match xs,q with
 | [x],⟨n,h,q⟩=>exact ⟨x,n,rfl,h,q⟩
noncomputable def P1:List V->Hp->VK->Prop:=fun xs H Q=>match xs with
 | [.int i]=>Q (.int (i.natAbs:Int)) H
 | _=>False
theorem HR:CallR X (.builtin "abs") P1:=call_abs.imp fun xs H Q q=>by
 match xs,q with
 | [.int i],q =>
  refine ⟨i,rfl,?_⟩
  have e:(if i < 0 then -i else i)=(i.natAbs:Int):=by split <;> lia
  rw [e]
  exact q
noncomputable def GC:List V->Hp->VK->Prop:=fun xs H Q=>match xs with
 | [.int i,.int j]=>Q (.int (max i j)) H
 | _=>False
theorem IV (hc:X.calm=true):CallR X (.builtin "max") GC:=(Ng hc).imp fun xs H Q q=>by
 match xs,q with
 | [.int i,.int j],q =>
  refine ⟨i,j,rfl,?_⟩
  have e:(if j > i then j else i)=max i j:=by split <;> lia
  rw [e]
  exact q
noncomputable def Ga:List V->Hp->VK->Prop:=fun xs H Q=>match xs with
 | [.int i,.int j]=>Q (.int (min i j)) H
 | _=>False
theorem PK (hc:X.calm=true):CallR X (.builtin "min") Ga:=(Mv hc).imp fun xs H Q q=>by
 match xs,q with
 | [.int i,.int j],q =>
  refine ⟨i,j,rfl,?_⟩
  have e:(if j < i then j else i)=min i j:=by split <;> lia
  rw [e]
  exact q
noncomputable def Nq:List V->Hp->VK->Prop:=fun xs H Q=>match xs with
 | [.int i]=>Q (.int i) H
 | [.bl k]=>Q (.int (if k then 1 else 0)) H
 | _=>False
theorem KZ:CallR X (.type "int") Nq:=call_int1.imp fun xs H Q q=>by
 match xs,q with
 | [.int i],q=>exact .inl ⟨i,rfl,q⟩
 | [.bl k],q=>exact .inr ⟨k,rfl,q⟩
noncomputable def LL (K:W.Frag):List V->Hp->VK->Prop:=fun xs H Q=>match xs with
 | [.ref p]=>∃ ys,(SqL K H p ys/\∀ l,H l=none->Q (.ref l) (upd H l (.tup ys)))\/(SqT K H p ys/\Q (.ref p) H)
 | _=>False
theorem P6:CallR X (.type "tuple") (LL X.K):=call_tuple_of.imp fun xs H Q q=>by
 match xs,q with
 | [.ref p],⟨ys,q⟩=>exact ⟨p,ys,rfl,q⟩
noncomputable def J1 (K:W.Frag):List V->Hp->VK->Prop:=fun xs H Q=>match xs with
 | [.ref p]=>∃ ys,SqA K H p ys/\∀ l,H l=none->Q (.ref l) (upd H l (.lst ys))
 | _=>False
theorem OO:CallR X (.type "list") (J1 X.K):=call_list_of.imp fun xs H Q q=>by
 match xs,q with
 | [.ref p],⟨ys,h,q⟩=>exact ⟨p,ys,rfl,h,q⟩
end
noncomputable def FX (scope sc:Scope):Bool :=
 decide (scope.kind=.function) && decide (scope.names.map (·.1)).Nodup && scope.names.all fun y=>!(y.2 == .free) || (sc.names.lookup y.1 == some .cell || sc.names.lookup y.1 == some .free)
theorem CompScope.of {scope sc:Scope} (h:FX scope sc=true):CompScope scope sc:=by
 unfold FX at h
 rw [Bool.and_eq_true,Bool.and_eq_true] at h
 obtain ⟨⟨h1,h2⟩,h3⟩:=h
 refine ⟨of_decide_eq_true h1,of_decide_eq_true h2,fun y hy hf=>?_⟩
 have:=List.all_eq_true.mp h3 y hy
 rw [hf] at this
 rcases (Bool.or_eq_true _ _).mp this with z | z
 ·exact absurd z (by decide)
 ·rcases (Bool.or_eq_true _ _).mp z with z | z
  ·exact .inl (by simpa using z)
  ·exact .inr (by simpa using z)
section
variable {X:Cx} {tg iter elt:Expr} {ifs:List Expr} {scope:Scope} {pos:Pos} {N':List Str} {own:Nat} {ix:List Nat} {g:TG} {tc:TT} {te:TE} {wi:TI}
theorem frB {l:List Str} (h:(l.all fun x=>scope.names.lookup x == some .free)=true):∀ x∈l,scope.names.lookup x=some .free:=fun x hx=>by
 have:=List.all_eq_true.mp h x hx
 simpa using this
theorem Aw (hc:X.calm=true) (hi:PI X tg iter wi) (S:FX scope X.env.scope=true)
 (hlen:N'.length=own+ix.length) (hN:(N'.drop own).map some=ix.map (X.N[·]?)) (hfr:((N'.drop own).all fun x=>scope.names.lookup x == some .free)=true)
 (hg:∀ c,PG (X.comp scope N' c) tg g) (hgo:CY own g) (ht:∀ c,PTs (X.comp scope N' c) ifs tc) (he:∀ c,PE (X.comp scope N' c) elt te)
 (hs:∀ x,foldedSetIterable iter X.env x=pure x:=by intro _;rfl):PE X (.ListComp elt [⟨tg,iter,ifs,0⟩] scope pos) (Et wi own ix g tc te) :=
 RI hc hi (.of S) hlen hN (frB hfr) hg hgo ht he hs
theorem Br {i:Nat} {y:Str} {py spos:Pos} (hc:X.calm=true) (hnd:X.N.Nodup) (hiy:X.N[i]? = some y) (hy:X.env.scope.names.lookup y=some .local) (hi:PI X tg iter wi) (S:FX scope X.env.scope=true)
 (hlen:N'.length=own+ix.length) (hN:(N'.drop own).map some=ix.map (X.N[·]?)) (hfr:((N'.drop own).all fun x=>scope.names.lookup x == some .free)=true)
 (hg:∀ c,PG (X.comp scope N' c) tg g) (hgo:CY own g) (ht:∀ c,PTs (X.comp scope N' c) ifs tc) (he:∀ c,PE (X.comp scope N' c) elt te)
 (hsw:swapsWith (.ListComp elt [⟨tg,iter,ifs,0⟩] scope pos) (some (.Name y py)) spos.line X.env=pure true)
 (hs:∀ x,foldedSetIterable iter X.env x=pure x:=by intro _;rfl):PS X (.Assign [.Name y py] (.ListComp elt [⟨tg,iter,ifs,0⟩] scope pos) spos) (Eb (Et wi own ix g tc te) (AQ i)) :=
 PB hc hnd hiy hy hi (.of S) hlen hN (frB hfr) hg hgo ht he hsw hs
noncomputable def Hf (K:W.Frag) (tl:TE):TI:=fun σ H R=>tl σ H fun x H1=>match x with
 | .ref a=>((∃ xs,SqL K H1 a xs)/\R (Itl K a) H1)\/((∃ xs,SqT K H1 a xs)/\R (Itt K a) H1)
 | _=>False
theorem Pd {l:Expr} {tl:TE} (hl:PE X l tl):PI X tg l (Hf X.K tl):=by
 intro pins s σ H R I h
 refine thn (hl pins s σ H _ I h) fun v s1 ⟨x,H1,I1,r1,q1⟩=>?_
 cases x with
 | ref a =>
  cases r1
  rcases q1 with ⟨⟨xs,hq⟩,q⟩ | ⟨⟨xs,hq⟩,q⟩
  ·obtain ⟨its,rv,p,hz⟩:=I1.list hq
   refine wpAny_pyIter_list p.isList ?_
   refine ⟨s1.heap.objs.size,[s1.heap.objs.size],_,_,H1,rfl,I1.kept (t':=s1.toks) fun b o e=>Heap.get?_push_of_some _ e,Pg a _,⟨_,Heap.get?_push_size _ rfl,rfl,rfl⟩,fun b hb=>?_,q⟩
   have e:b=s1.heap.objs.size:=by simpa using hb
   subst e
   exact I1.fpOk (Nat.le_refl _) (I1.hok.fresh (Nat.le_refl _))
  ·obtain ⟨its,rv,p,hz⟩:=I1.tuple hq
   refine wpAny_pyIter_tuple (show s1.heap.IsTuple a its.toArray from p) ?_
   refine ⟨s1.heap.objs.size,[s1.heap.objs.size],_,_,H1,rfl,I1.kept (t':=s1.toks) fun b o e=>Heap.get?_push_of_some _ e,Pz a _,⟨_,Heap.get?_push_size _ rfl,rfl,rfl⟩,fun b hb=>?_,q⟩
   have e:b=s1.heap.objs.size:=by simpa using hb
   subst e
   exact I1.fpOk (Nat.le_refl _) (I1.hok.fresh (Nat.le_refl _))
 | _=>exact False.elim q1
noncomputable def HD:EI:=fun o i v H Q=>match o,i with
 | .ref p,.int k=>∃ xs j,H p=some (.lst xs)/\ixN xs.length k=some j/\Q (upd H p (.lst (xs.set j v)))
 | _,_=>False
theorem Cb:GV X HD:=by
 intro pins s σ H o i v ov iv u Q I ro ri rv h
 cases o <;> cases i <;> first
  | exact False.elim h
  | (obtain ⟨xs,j,h1,h2,q⟩:=h
     exact P3 pins s σ H _ _ v ov iv u Q I ro ri rv ⟨_,xs,_,j,rfl,rfl,h1,h2,q⟩)
theorem CQ {K:W.Frag} {a:Addr} {xs:List V} {σc:St} {Q:VK} {H:Hp} (Pv:Nat->List V->Hp->Prop) (h0:Pv 0 [] H) (hl:∀ i ys H,i<=xs.length->Pv i ys H->SqL K H a xs) (hz:∀ i ys H,i < xs.length->Pv i ys H->ys.length < sizeLine)
 (hs:∀ i x ys H,xs[i]? = some x->Pv i ys H->g x σc H fun σ2 H2=>tc σ2 H2 fun b H3=>if b=true then te σ2 H3 fun y H4=>Pv (i+1) (ys++[y]) H4 else Pv (i+1) ys H3)
 (hd:∀ ys H,Pv xs.length ys H->∀ p,H p=none->Q (.ref p) (upd H p (.lst ys))):D3 (Itl K a) g tc te σc Q H:=by
 refine ⟨fun i m ys H=>m=xs.length - i/\i<=xs.length/\Pv i ys H,⟨xs.length,by simp,Nat.zero_le _,h0⟩,?_⟩
 rintro i m ys H ⟨rfl,hi,p⟩
 have q:=hl i ys H hi p
 by_cases hlt:i < xs.length
 ·refine .inr ⟨⟨xs,xs[i],q,by simp [hlt]⟩,hz i ys H hlt p,Pv (i+1),fun ys' H' p'=>⟨xs.length - (i+1),by lia,rfl,hlt,p'⟩,fun x H' y=>?_⟩
  obtain ⟨e,y⟩:=y
  subst e
  exact hs i x ys _ (y xs q) p
 ·have e:i=xs.length:=by lia
  subst e
  exact .inl ⟨⟨xs,q,Nat.le_refl _⟩,hd ys H p⟩
theorem Bv {K:W.Frag} {a:Addr} {xs:List V} {σc:St} {Q:VK} {H:Hp} (Pv:Nat->List V->Hp->Prop) (h0:Pv 0 [] H) (hl:∀ i ys H,i<=xs.length->Pv i ys H->SqT K H a xs) (hz:∀ i ys H,i < xs.length->Pv i ys H->ys.length < sizeLine)
 (hs:∀ i x ys H,xs[i]? = some x->Pv i ys H->g x σc H fun σ2 H2=>tc σ2 H2 fun b H3=>if b=true then te σ2 H3 fun y H4=>Pv (i+1) (ys++[y]) H4 else Pv (i+1) ys H3)
 (hd:∀ ys H,Pv xs.length ys H->∀ p,H p=none->Q (.ref p) (upd H p (.lst ys))):D3 (Itt K a) g tc te σc Q H:=by
 refine ⟨fun i m ys H=>m=xs.length - i/\i<=xs.length/\Pv i ys H,⟨xs.length,by simp,Nat.zero_le _,h0⟩,?_⟩
 rintro i m ys H ⟨rfl,hi,p⟩
 have q:=hl i ys H hi p
 by_cases hlt:i < xs.length
 ·refine .inr ⟨⟨xs,xs[i],q,by simp [hlt]⟩,hz i ys H hlt p,Pv (i+1),fun ys' H' p'=>⟨xs.length - (i+1),by lia,rfl,hlt,p'⟩,fun x H' y=>?_⟩
  obtain ⟨e,y⟩:=y
  subst e
  exact hs i x ys _ (y xs q) p
 ·have e:i=xs.length:=by lia
  subst e
  exact .inl ⟨⟨xs,q,Nat.le_refl _⟩,hd ys H p⟩
theorem Ba {lo:Int} {n:Nat} {σc:St} {Q:VK} {H:Hp} (Pv:Nat->List V->Hp->Prop) (h0:Pv 0 [] H) (hz:∀ i ys H,i < n->Pv i ys H->ys.length < sizeLine)
 (hs:∀ i ys H,i < n->Pv i ys H->g (.int (lo+i)) σc H fun σ2 H2=>tc σ2 H2 fun b H3=>if b=true then te σ2 H3 fun y H4=>Pv (i+1) (ys++[y]) H4 else Pv (i+1) ys H3)
 (hd:∀ ys H,Pv n ys H->∀ p,H p=none->Q (.ref p) (upd H p (.lst ys))):D3 (Itr lo n) g tc te σc Q H:=by
 refine ⟨fun i m ys H=>m=n - i/\i<=n/\Pv i ys H,⟨n,by simp,Nat.zero_le _,h0⟩,?_⟩
 rintro i m ys H ⟨rfl,hi,p⟩
 by_cases hlt:i < n
 ·refine .inr ⟨hlt,hz i ys H hlt p,Pv (i+1),fun ys' H' p'=>⟨n - (i+1),by lia,rfl,hlt,p'⟩,fun x H' y=>?_⟩
  obtain ⟨e,y⟩:=y
  subst e y
  exact hs i ys _ hlt p
 ·have e:i=n:=by lia
  subst e
  exact .inl ⟨Nat.le_refl _,hd ys H p⟩
noncomputable def Ja (c:TT) (tb:TS):TS:=fun D σ H=>∃ W:Nat->St->Hp->Prop,(∃ m,W m σ H)/\∀ m σ H,W m σ H ->
 c σ H fun b H1=>if b=true then tb { D with nx:=fun σ' H'=>∃ m',m' < m/\W m' σ' H',ct:=fun σ' H'=>∃ m',m' < m/\W m' σ' H',bk:=D.nx } σ H1 else D.nx σ H1
theorem EN {c:Expr} {body:List Stmt} {tc:TT} {tb:TS} (hp:PassesOwn (model X.prog X.w) X.A X.env X.xe) (hc:PT X c tc) (hb:PSs X body tb):PS X (.While c body [] pos) (Ja tc tb):=by
 intro pins s σ H D I h
 obtain ⟨W,⟨m0,w0⟩,turn⟩:=h
 refine wpAny_While (codeAny_whileLoop (fun n s'=>∃ σ' H',Inv X pins σ' H' s'/\W n σ' H') ?_ m0 ⟨σ,H,I,w0⟩)
 rintro n s1 ⟨σ1,H1,I1,w1⟩
 refine wpAny_passesOwn hp (thn (hc pins s1 σ1 H1 _ I1 (turn n σ1 H1 w1)) fun b s2 ⟨H2,I2,q2⟩=>?_)
 cases b with
 | true =>
  rw [if_pos rfl] at q2
  rw [if_pos rfl]
  refine wpAny_passesOwn hp (thn (hb pins s2 σ1 H2 _ I2 q2) fun f s3 q3=>?_)
  cases f with
  | next =>
   obtain ⟨σ3,H3,I3,m',hm,w3⟩:=q3
   exact ⟨m',hm,σ3,H3,I3,w3⟩
  | cont =>
   obtain ⟨σ3,H3,I3,m',hm,w3⟩:=q3
   exact ⟨m',hm,σ3,H3,I3,w3⟩
  | brk=>exact q3
  | ret v=>exact q3
 | false =>
  rw [if_neg Bool.false_ne_true] at q2
  rw [if_neg Bool.false_ne_true]
  exact wpAny_execs_nil ⟨σ1,H2,I2,q2⟩
end
theorem Ab {A:Around} {k:Nat} (hr:Room k A):A.units+60 < cLine:=by have:=hr.un;lia
noncomputable def Frm (t:Addr) (H H':Hp):Prop:=∀ b o,b≠t->H b=some o->H' b=some o
theorem Frm.refl {t:Addr} {H:Hp}:Frm t H H:=fun _ _ _ h=>h
theorem Frm.trans {t:Addr} {H H1 H2:Hp} (a:Frm t H H1) (b:Frm t H1 H2):Frm t H H2:=fun c o n h=>b c o n (a c o n h)
theorem Frm.upd {t p:Addr} {H:Hp} {o:HO} (h:H p=none):Frm t H (upd H p o):=fun b u _ e=>by rw [AX (Bo e h)];exact e
theorem Same.upd {p:Addr} {H:Hp} {o:HO} (h:H p=none):Same H (L2.upd H p o):=fun b u e=>by rw [AX (Bo e h)];exact e
theorem Same.frm {t:Addr} {H H':Hp} (h:Same H H'):Frm t H H':=fun b o _ e=>h b o e
theorem Iw {K:W.Frag} {H H':Hp} {a:Addr} {xs:List V} (h:SqL K H a xs) (k:∀ o,H a=some o->H' a=some o):SqL K H' a xs:=by
 rcases h with (h | ⟨o,h⟩) | h
 ·exact .inl (.inl (k _ h))
 ·exact .inl (.inr ⟨o,k _ h⟩)
 ·exact .inr h
theorem IU {K:W.Frag} {H H':Hp} {a:Addr} {xs:List V} (h:SqT K H a xs) (k:∀ o,H a=some o->H' a=some o):SqT K H' a xs:=by
 rcases h with (h | ⟨o,h⟩) | h
 ·exact .inl (.inl (k _ h))
 ·exact .inl (.inr ⟨o,k _ h⟩)
 ·exact .inr h
noncomputable def ScrAt (K:W.Frag) (H:Hp) (t a:Addr) (ns:List Int):Prop :=
 (Rd H a (.lst (ns.map V.int))/\a≠t)\/∃ (o:Obj) (its:Array Value) (n:Nat),K.lookup a=some o/\o.cls=.type "list" /\ o.dict=none/\o.data=.seq its n/\its.size<=sizeLine/\Vals (ns.map V.int) its.toList
theorem ScrAt.stay {K:W.Frag} {H H':Hp} {t a:Addr} {ns:List Int} (h:ScrAt K H t a ns) (k:∀ o,a≠t->H a=some o->H' a=some o):ScrAt K H' t a ns:=by
 rcases h with ⟨h | ⟨o,h⟩,n⟩ | h
 ·exact .inl ⟨.inl (k _ n h),n⟩
 ·exact .inl ⟨.inr ⟨o,k _ n h⟩,n⟩
 ·exact .inr h
structure Tape (K:W.Frag) (H:Hp) (t a:Addr) (ns:List Int):Prop where
 at_:∃ i r c:Int,0<=i/\0<=r/\H t=some (.lst [.ref a,.int i,.int r,.int c])
 scr:ScrAt K H t a ns
theorem Tape.frm {K:W.Frag} {H H':Hp} {t a:Addr} {ns:List Int} (T:Tape K H t a ns) (h:Frm t H H') (ht:H' t=H t):Tape K H' t a ns :=
 ⟨by rw [ht];exact T.at_,T.scr.stay fun o n e=>h a o n e⟩
theorem Tape.same {K:W.Frag} {H H':Hp} {t a:Addr} {ns:List Int} (T:Tape K H t a ns) (h:Same H H'):Tape K H' t a ns:=by
 obtain ⟨i,r,c,h1,h2,h3⟩:=T.at_
 exact ⟨⟨i,r,c,h1,h2,h _ _ h3⟩,T.scr.stay fun o _ e=>h a o e⟩
theorem Tape.upd {K:W.Frag} {H:Hp} {t a p:Addr} {o:HO} {ns:List Int} (T:Tape K H t a ns) (h:H p=none):Tape K (L2.upd H p o) t a ns:=T.same (Same.upd h)
theorem Tape.free {K:W.Frag} {H H':Hp} {t a p:Addr} {ns:List Int} (T:Tape K H' t a ns) (h:Frm t H H') (hp:H' p=none):H p=none:=by
 cases e:H p with
 | none=>rfl
 | some o =>
  by_cases hpt:p=t
  ·subst hpt
   obtain ⟨i,r,c,_,_,h3⟩:=T.at_
   rw [h3] at hp;cases hp
  ·rw [h p o hpt e] at hp;cases hp
noncomputable def Fm (K:W.Frag):Sp:=fun vs H Q _=>∃ (a:Addr) (ns:List Int),vs=[.ref a]/\SqL K H a (ns.map V.int)/\ns.length<=63/\∀ H',Q (.bl true) H'
theorem Dh {xs:List V} {i:Int} {n:Nat} {v:V} (h:i=(n:Int)) (hx:xs[n]? = some v):atI xs i=some v:=by
 subst h
 have hn:n < xs.length:=(List.getElem?_eq_some_iff.mp hx).1
 unfold atI ixN
 rw [if_pos (Int.natCast_nonneg n),if_pos (by lia)]
 simpa using hx
theorem NS {ns:List Int} {i:Int} (h0:0<=i) (h1:i < ns.length):∃ z,atI (ns.map V.int) i=some (.int z):=by
 obtain ⟨n,rfl⟩:=Int.eq_ofNat_of_zero_le h0
 have hn:n < ns.length:=by lia
 exact ⟨ns[n],Dh rfl (by rw [List.getElem?_map,List.getElem?_eq_getElem hn];rfl)⟩
theorem Al {j:Int} (h1:0 < j) (h2:j<=2 ^ 1000):okDiv j:=⟨h1,Int.lt_of_le_of_lt h2 (by decide)⟩
theorem Ac {n:Nat} (h:n<=1000):n<=sizeLine:=Nat.le_of_lt (Ag h)
noncomputable def B1 (t:TT):Prop:=∀ σ H (Q Q':Bool->Hp->Prop),(∀ b H,Q b H->Q' b H)->t σ H Q->t σ H Q'
noncomputable def Bt (t:TA):Prop:=∀ σ H (Q Q':List V->Hp->Prop),(∀ b H,Q b H->Q' b H)->t σ H Q->t σ H Q'
noncomputable def By (r:R2):Prop:=∀ x y H (Q Q':VK),(∀ v H,Q v H->Q' v H)->r x y H Q->r x y H Q'
noncomputable def LI (r:V->Hp->VK->Prop):Prop:=∀ x H (Q Q':VK),(∀ v H,Q v H->Q' v H)->r x H Q->r x H Q'
noncomputable def B8 (r:List V->Hp->VK->Prop):Prop:=∀ xs H (Q Q':VK),(∀ v H,Q v H->Q' v H)->r xs H Q->r xs H Q'
noncomputable def FG (r:V->List V->Hp->VK->Prop):Prop:=∀ x xs H (Q Q':VK),(∀ v H,Q v H->Q' v H)->r x xs H Q->r x xs H Q'
noncomputable def AK (sp:Sp):Prop:=∀ vs H (Q Q':VK) E,(∀ v H,Q v H->Q' v H)->sp vs H Q E->sp vs H Q' E
noncomputable def EZ (t:TI):Prop:=∀ σ H (Q Q':It->Hp->Prop),(∀ J H,Q J H->Q' J H)->t σ H Q->t σ H Q'
noncomputable def IZ (t:EI):Prop:=∀ o i v H (Q Q':Hp->Prop),(∀ H,Q H->Q' H)->t o i v H Q->t o i v H Q'
structure Ends.le (D D':Ends):Prop where
 nx:∀ σ H,D.nx σ H->D'.nx σ H
 rt:∀ v H,D.rt v H->D'.rt v H
 bk:∀ σ H,D.bk σ H->D'.bk σ H
 ct:∀ σ H,D.ct σ H->D'.ct σ H
noncomputable def BP (t:TS):Prop:=∀ D D' σ H,Ends.le D D'->t D σ H->t D' σ H
theorem Qg {i:Nat}:Ad (FI i):=fun σ H Q Q' h q=>by
 unfold FI at *
 split at q
 ·exact h _ _ q
 ·exact q.elim
theorem MY {v:V}:Ad (tC v):=fun _ _ _ _ h q=>h _ _ q
theorem Mh {r:R2} {ta tb:TE} (hr:By r) (ha:Ad ta) (hb:Ad tb):Ad (tOp r ta tb):=fun σ H Q Q' h q=>ha _ _ _ _ (fun _ _ q=>hb _ _ _ _ (fun _ _ q=>hr _ _ _ _ _ h q) q) q
theorem Of {r:V->Hp->VK->Prop} {ta:TE} (hr:LI r) (ha:Ad ta):Ad (tUn r ta):=fun σ H Q Q' h q=>ha _ _ _ _ (fun _ _ q=>hr _ _ _ _ h q) q
theorem Qc {K}:By (Ca K):=fun x y H Q Q' h q=>by
 unfold Ca at *
 split at q
 ·exact h _ _ q
 ·exact ⟨q.1,h _ _ q.2⟩
 ·rcases q with ⟨l,b,xs,zs,e1,e2,h1,h2,h3,q⟩ | ⟨a,b,xs,ys,e1,e2,h1,h2,h3,h4,q1,q2⟩
  ·exact .inl ⟨l,b,xs,zs,e1,e2,h1,h2,h3,fun p hp=>h _ _ (q p hp)⟩
  ·exact .inr ⟨a,b,xs,ys,e1,e2,h1,h2,h3,h4,fun e=>h _ _ (q1 e),fun e p hp=>h _ _ (q2 e p hp)⟩
 ·exact q.elim
theorem QE:By C4:=fun x y H Q Q' h q=>by unfold C4 at *;split at q <;> first | exact h _ _ q | exact q.elim
theorem P4:By G0:=fun x y H Q Q' h q=>by
 unfold G0 at *
 split at q
 ·exact ⟨q.1,h _ _ q.2⟩
 ·obtain ⟨l,k,xs,e1,e2,h1,h2,h3,h4,q⟩:=q
  exact ⟨l,k,xs,e1,e2,h1,h2,h3,h4,fun p hp=>h _ _ (q p hp)⟩
 ·exact q.elim
theorem L7:By G6:=fun x y H Q Q' h q=>by unfold G6 at *;split at q <;> first | exact ⟨q.1,h _ _ q.2⟩ | exact q.elim
theorem MJ:By Gq:=fun x y H Q Q' h q=>by unfold Gq at *;split at q <;> first | exact ⟨q.1,h _ _ q.2⟩ | exact q.elim
theorem Lh:LI Gk:=fun x H Q Q' h q=>by unfold Gk at *;split at q <;> first | exact h _ _ q | exact q.elim
theorem MC {p}:By (Dc p):=fun x y H Q Q' h q=>by unfold Dc at *;split at q <;> first | exact h _ _ q | exact q.elim
theorem L3 {n K}:By (mEq n K):=fun x y H Q Q' h q=>by
 unfold mEq at *
 split at q <;> first | exact h _ _ q | (obtain ⟨d,e,h1,h2,h3,q⟩:=q;exact ⟨d,e,h1,h2,h3,h _ _ q⟩)
theorem Lw {K}:By (mIx K):=fun x y H Q Q' h q=>by
 unfold mIx at *
 split at q
 ·obtain ⟨xs,v,h1,h2,q⟩:=q;exact ⟨xs,v,h1,h2,h _ _ q⟩
 ·obtain ⟨c,h1,h2,q⟩:=q;exact ⟨c,h1,h2,h _ _ q⟩
 ·exact q.elim
theorem Io {v:V} {Q Q':Bool->Prop} (h:∀ b,Q b->Q' b) (q:isB v Q):isB v Q':=by
 cases v <;> first | exact h _ q | exact q
theorem Nl {t:TE} (h:Ad t):B1 (uB t):=fun σ H Q Q' k q=>h _ _ _ _ (fun _ _ q=>Io (fun b q=>k b _ q) q) q
theorem Pk {ta:TE} (ha:Ad ta):Ad (Ic ta):=fun σ H Q Q' h q=>ha _ _ _ _ (fun _ _ q=>Io (fun b q=>h _ _ q) q) q
theorem Pf {t:TT} {ta tb:TE} (ht:B1 t) (ha:Ad ta) (hb:Ad tb):Ad (tIf t ta tb):=fun σ H Q Q' h q=>ht _ _ _ _ (fun b _ q=>by
 cases b with
 | true=>exact ha _ _ _ _ h q
 | false=>exact hb _ _ _ _ h q) q
theorem Oc {t u:TT} (ht:B1 t) (hu:B1 u):B1 (Ib t u):=fun σ H Q Q' h q=>ht _ _ _ _ (fun b _ q=>by
 cases b with
 | true=>exact hu _ _ _ _ h q
 | false=>exact h _ _ q) q
theorem OX {t u:TT} (ht:B1 t) (hu:B1 u):B1 (tOr t u):=fun σ H Q Q' h q=>ht _ _ _ _ (fun b _ q=>by
 cases b with
 | true=>exact h _ _ q
 | false=>exact hu _ _ _ _ h q) q
theorem Qb:Bt Jr:=fun _ _ _ _ h q=>h _ _ q
theorem P2 {ta:TE} {t:TA} (ha:Ad ta) (ht:Bt t):Bt (Ij ta t):=fun σ H Q Q' h q=>ha _ _ _ _ (fun _ _ q=>ht _ _ _ _ (fun _ _ q=>h _ _ q) q) q
theorem Ny {r} {t:TA} (hr:B8 r) (ht:Bt t):Ad (tCB r t):=fun σ H Q Q' h q=>ht _ _ _ _ (fun _ _ q=>hr _ _ _ _ h q) q
theorem OC {sp dvs E} {t:TA} (hs:AK sp) (ht:Bt t):Ad (KA sp dvs E t):=fun σ H Q Q' h q=>ht _ _ _ _ (fun _ _ q=>hs _ _ _ _ _ h q) q
theorem OY {t:TA} (ht:Bt t):Ad (Jb t):=fun σ H Q Q' h q=>ht _ _ _ _ (fun _ _ q=>⟨q.1,fun p hp=>h _ _ (q.2 p hp)⟩) q
theorem M3 {t:TA} (ht:Bt t):Ad (LN t):=fun σ H Q Q' h q=>ht _ _ _ _ (fun _ _ q=>⟨q.1,fun p hp=>h _ _ (q.2 p hp)⟩) q
theorem Qz {wi own ix g tc te} (hi:EZ wi):Ad (Et wi own ix g tc te):=fun σ H Q Q' h q=>hi _ _ _ _ (fun J H1 q=>by
 obtain ⟨W,w0,turn⟩:=q
 refine ⟨W,w0,fun i m ys H w=>?_⟩
 rcases turn i m ys H w with ⟨a,b⟩ | r
 ·exact .inl ⟨a,fun p hp=>h _ _ (b p hp)⟩
 ·exact .inr r) q
theorem PZ {K}:B8 (Fq K):=fun xs H Q Q' h q=>by unfold Fq at *;split at q <;> first | (obtain ⟨n,a,q⟩:=q;exact ⟨n,a,h _ _ q⟩) | exact q.elim
theorem Qr:B8 GC:=fun xs H Q Q' h q=>by unfold GC at *;split at q <;> first | exact h _ _ q | exact q.elim
theorem O3:B8 Ga:=fun xs H Q Q' h q=>by unfold Ga at *;split at q <;> first | exact h _ _ q | exact q.elim
theorem Oy {K} {tl:TE} (h:Ad tl):EZ (Hf K tl):=fun σ H Q Q' k q=>h _ _ _ _ (fun v H1 q=>by
 cases v <;> first | exact q.elim | (rcases q with ⟨a,q⟩ | ⟨a,q⟩
                                     ·exact .inl ⟨a,k _ _ q⟩
                                     ·exact .inr ⟨a,k _ _ q⟩)) q
theorem Qo {ta:TA} (h:Bt ta):EZ (Jn ta):=fun σ H Q Q' k q=>h _ _ _ _ (fun _ _ ⟨j,e,a,b,q⟩=>⟨j,e,a,b,k _ _ q⟩) q
theorem Py:IZ HD:=fun o i v H Q Q' h q=>by
 unfold HD at *
 split at q
 ·obtain ⟨xs,j,a,b,q⟩:=q;exact ⟨xs,j,a,b,h _ q⟩
 ·exact q.elim
theorem Pp {to ti:TE} {t:EI} (h1:Ad to) (h2:Ad ti) (h3:IZ t):Dj (Hz to ti t):=fun v σ H Q Q' h q=>h1 _ _ _ _ (fun _ _ q=>h2 _ _ _ _ (fun _ _ q=>h3 _ _ _ _ _ _ (fun H q=>h _ _ q) q) q) q
theorem Q5:BP E7:=fun D D' σ H h q=>h.nx _ _ q
theorem RK {t u:TS} (h1:BP t) (h2:BP u):BP (GZ t u):=fun D D' σ H h q=>h1 { D with nx:=u D } { D' with nx:=u D' } σ H ⟨fun σ H q=>h2 D D' σ H h q,h.rt,h.bk,h.ct⟩ q
theorem QB {te:TE} {g:TG} (h1:Ad te) (h2:Dj g):BP (Eb te g):=fun D D' σ H h q=>h1 _ _ _ _ (fun _ _ q=>h2 _ _ _ _ _ h.nx q) q
theorem Mz {te:TE} (h1:Ad te):BP (Ik te):=fun D D' σ H h q=>h1 _ _ _ _ h.rt q
theorem RP {te:TE} (h1:Ad te):BP (Jz te):=fun D D' σ H h q=>h1 _ _ _ _ (fun _ _ q=>h.nx _ _ q) q
theorem Lo {c:TT} {t u:TS} (hc:B1 c) (h1:BP t) (h2:BP u):BP (GA c t u):=fun D D' σ H h q=>hc _ _ _ _ (fun b _ q=>by
 cases b with
 | true=>exact h1 _ _ _ _ h q
 | false=>exact h2 _ _ _ _ h q) q
theorem MG {c:TT} {tb:TS} (hc:B1 c) (h1:BP tb):BP (Ja c tb):=fun D D' σ H h q=>by
 obtain ⟨W,w0,turn⟩:=q
 refine ⟨W,w0,fun m σ H w=>hc _ _ _ _ (fun b H1 q=>?_) (turn m σ H w)⟩
 cases b with
 | true=>exact h1 { D with nx:=fun σ' H'=>∃ m',m' < m/\W m' σ' H',ct:=fun σ' H'=>∃ m',m' < m/\W m' σ' H',bk:=D.nx } _ _ _ ⟨fun _ _ q=>q,h.rt,h.nx,fun _ _ q=>q⟩ q
 | false=>exact h.nx _ _ q
theorem QK {wi:TI} {g:TG} {tb:TS} (hi:EZ wi) (hg:Dj g) (h1:BP tb):BP (Ko wi g tb):=fun D D' σ H h q=>hi _ _ _ _ (fun J H1 q=>by
 obtain ⟨W,w0,turn⟩:=q
 refine ⟨W,w0,fun i m σ H w=>?_⟩
 rcases turn i m σ H w with ⟨a,b⟩ | ⟨a,N,hN,step⟩
 ·exact .inl ⟨a,h.nx _ _ b⟩
 ·exact .inr ⟨a,N,hN,fun x H' y=>hg _ _ _ _ _ (fun σ2 H2 q=>h1 { D with nx:=N,ct:=N,bk:=D.nx } _ _ _ ⟨fun _ _ q=>q,h.rt,h.nx,fun _ _ q=>q⟩ q) (step x H' y)⟩) q
theorem AT {t u:TS} {D:Ends} {σ:St} {H:Hp} (J:St->Hp->Prop) (h1:t { D with nx:=J } σ H) (h2:∀ σ' H',J σ' H'->u D σ' H') (hm:BP t):GZ t u D σ H :=
 hm { D with nx:=J } { D with nx:=u D } σ H ⟨h2,fun _ _ q=>q,fun _ _ q=>q,fun _ _ q=>q⟩ h1
section
variable {X:Cx} {K:W.Frag} {a b c e l tg:Expr} {es:List Expr} {ta tb tc te tl:TE} {pos p:Pos}
theorem Aj (hK:X.K=K:=by rfl):OpR X (binaryOp .Add) (Ca K):=hK ▸ Q3
theorem kEq (hu:X.A.units+60 < cLine) (hK:X.K=K:=by rfl):OpR X (compareOp .Eq) (mEq false K):=hK ▸ L1 hu
theorem kNe (hu:X.A.units+60 < cLine) (hK:X.K=K:=by rfl):OpR X (compareOp .NotEq) (mEq true K):=hK ▸ RO hu
theorem kIx (ha:PE X a ta) (hb:PE X b tb) (hs:HG b:=by intro _ _;rfl) (hK:X.K=K:=by rfl):PE X (.Subscript a b pos) (tOp (mIx K) ta tb):=hK ▸ Pb ha hb hs
theorem Bu (hK:X.K=K:=by rfl):CallR X (.builtin "len") (Fq K):=hK ▸ Od
theorem E6 (hK:X.K=K:=by rfl):CallR X (.type "tuple") (LL K):=hK ▸ P6
theorem N5 (hK:X.K=K:=by rfl):CallR X (.type "list") (J1 K):=hK ▸ OO
theorem Ap (hl:PE X l tl) (hK:X.K=K:=by rfl):PI X tg l (Hf K tl):=hK ▸ Pd hl
theorem Cf {es:List Expr} {k:Nat} {t:TGs} {n:Nat} (hc:X.calm=true) (h:PGs X es t)
 (hn:(assignEach es X.env).length=n:=by rfl) (hst:(assignEach es X.env).findIdx? (·.1)=none:=by rfl) (hK:X.K=K:=by rfl):PG X (.Tuple es k pos) (GG K n t):=hK ▸ JW hc h hn hst
end
theorem Inv.turnedNew {X:Cx} {pins:List (Addr × Obj)} {σ:St} {H:Hp} {s:Shared} {h':Heap} {ch:List Addr} {T:Addr} {o:HO} (I:Inv X pins σ H s) (hf:∀ b∈ch,BZ X pins H b) (hT:s.heap.objs.size<=T)
 (k:∀ b u,b∉ch->s.heap.get? b=some u->h'.get? b=some u) (new:ObjOk X.prog X.w (upd H T o) h' T o) (th:∀ b∈ch,∃ u,h'.get? b=some u):Inv X pins σ (upd H T o) { s with heap:=h' }:=by
 have hTn:H T=none:=I.hok.fresh hT
 have nT:∀ b u,H b=some u->b≠T:=fun b u e z=>by rw [z,hTn] at e;cases e
 have nc:∀ b u,H b=some u->b∉ch:=fun b u e z=>by rw [(hf b z).1] at e;cases e
 refine I.step (g':=s.gens) (d':=s.drawn) (t':=s.toks) (ch:=ch) (fun b hb=>?_) (fun b u _ _ hc e _=>k b u hc e) (fun b u _ _ hc e _=>⟨u.slots,k b u hc e⟩) (fun b u hc e n=>?_) (fun b u hc e=>⟨u,k b u hc e⟩)
  (fun b xs e=>by rw [AX (nT _ _ e)];exact e) (fun b u v e=>by rw [AX (nT _ _ e)];exact e) (fun b ps e=>⟨#[],by rw [AX (nT _ _ e),e];simp⟩) (fun m hm=>?_) (fun b u e=>?_) I.bare
 ·obtain ⟨q1,q2,q3,q4,q5,q6⟩:=hf b hb
  exact ⟨q4,q2,q5,q6⟩
 ·rw [AX (Nat.ne_of_lt (Nat.lt_of_lt_of_le (Heap.lt_size e) hT))];exact n
 ·obtain ⟨u,es,ep,ho,r⟩:=hm
  exact ⟨u,es,ep,k _ u (fun z=>(hf _ z).2.1 rfl) ho,r⟩
 ·by_cases hb:b=T
  ·subst hb;rw [AH] at e;cases e;exact new
  ·rw [AX hb] at e
   refine (I.hok b u e).stay (fun c v hc q=>k c v ?_ q) (fun c q=>by rw [AX (nT _ _ q)];exact q) fun c xs q=>by rw [AX (nT _ _ q)];exact q
   rcases hc with z | z
   ·rw [z];exact nc b u e
   ·exact nc c _ z
section
variable {X:Cx}
end
section
variable {X:Cx} {K:W.Frag} {o e:Expr} {es:List Expr} {to:TE} {t:TA} {apos cpos:Pos}
theorem OR {T:String} {r:V->List V->Hp->VK->Prop} (h1:Ad to) (h2:Bt t) (h3:FG r):Ad (tBM K T r to t):=fun σ H Q Q' h q=>h1 _ _ _ _ (fun _ _ q=>⟨q.1,h2 _ _ _ _ (fun _ _ q=>h3 _ _ _ _ _ h q) q.2⟩) q
noncomputable def FR (K:W.Frag):List V->Hp->VK->Prop:=fun xs H Q=>match xs with
 | [.ref l]=>∃ ns:List Int,SqL K H l (ns.map V.int)/\Q (.int ns.sum) H
 | _=>False
theorem Po (hc:X.calm=true):CallR X (.builtin "sum") (FR X.K):=by
 intro pins s σ H xs us Q I r q
 match xs,q with
 | [.ref l],q =>
 obtain ⟨ns,hl,q⟩:=q
 obtain ⟨u,rfl,ru⟩:=Bd r
 cases ru
 obtain ⟨its,rv,pl,hz⟩:=I.list hl
 have hi:IntsAre its ns:=by simpa using Ec rv
 obtain ⟨zs,hzs⟩:=(hi.allInts).items
 have e:(numsOf its).sum=ns.sum:=by rw [hi.numsOf]
 have pl':=pl.isList
 rw [hzs] at pl'
 refine sum_intListG (I.ok.hd hc) pl' fun h' tk t' hk=>?_
 refine ⟨.int _,H,I.kept hk,⟨t',rfl⟩,?_⟩
 have e2:preSum (numAt zs) zs.size=ns.sum:=by
  rw [preSum_eq,List.take_of_length_le (by simp),<- e]
  rw [show its=its.toArray.toList by simp,hzs,nums_intItems]
 rw [e2]
 exact q
theorem Ch (hc:X.calm=true) (hK:X.K=K:=by rfl):CallR X (.builtin "sum") (FR K):=hK ▸ Po hc
theorem Pw:B8 (FR K):=fun xs H Q Q' h q=>by
 unfold FR at *
 split at q
 ·obtain ⟨ns,a,q⟩:=q;exact ⟨ns,a,h _ _ q⟩
 ·exact q.elim
end
section
variable {prog:Program} {w:World} {A:Around} {E:Value->Shared->Prop} {s:Shared}
theorem IJ {it t:Addr} {items:Array Value} (hne:t≠it):∀ (n i:Nat) (s:Shared) (Q:List Value->Shared->Prop),s.heap.IsListIter it t i->s.heap.IsList t items->i+n<=items.size ->
 (∀ h',h'.IsListIter it t (i+n)->Heap.SameBut it s.heap h'->Q ((items.toList.drop i).take n) { s with heap:=h' })->wpAny (model prog w) A (draw (.ref it) n) Q E s
 | 0,i,s,Q,hit,_,_,hQ=>by
  show wpAny _ _ (pure []) Q E s
  exact wpAny_pure (by simpa using hQ s.heap hit (Heap.SameBut.refl ..))
 | n+1,i,s,Q,hit,ht,hle,hQ=>by
  have hlt:i < items.size:=by lia
  show wpAny _ _ (pyNext (.ref it) >>= _) Q E s
  refine wpAny_bind (wpAny_pyNext_list_item hit ht (x:=items[i]) (by simp [hlt]) fun h₁ hit₁ hs₁=>?_)
  refine wpAny_bind (wpAny_holding (IJ hne n (i+1) _ _ hit₁ (ht.extBut hs₁.extBut hne) (by lia) fun h₂ hit₂ hs₂=>wpAny_pure ?_))
  have hd:items.toList.drop i=items[i]::items.toList.drop (i+1):=by simp [List.drop_eq_getElem_cons,hlt]
  have:=hQ h₂ (by rw [show i+(n+1)=i+1+n by lia];exact hit₂) (hs₁.trans hs₂)
  rw [hd,List.take_succ_cons] at this
  exact this
theorem Nv {t:Addr} {items:Array Value} {Q:List Value->Shared->Prop} (hh:A.handled=none) (ht:s.heap.IsList t items)
 (hQ:∀ h',Heap.ExtBut s.heap.objs.size s.heap h'->Q items.toList { s with heap:=h' }):wpAny (model prog w) A (unpackItems (.ref t) items.size none) Q E s:=by
 have hlt:t≠s.heap.objs.size:=by obtain ⟨o,ho,_⟩:=ht;exact Nat.ne_of_lt (Heap.lt_size ho)
 unfold unpackItems
 refine wpAny_bind ?_
 ·unfold notIterableAtAll
  refine wpAny_bind (wpAny_specialOf ht.typeIs slot_list_iter.lookup ?_)
  refine wpAny_pure ?_
  simp only [Bool.false_eq_true,if_false]
  refine wpAny_bind (wpAny_holding (wpAny_pyIter_list ht ?_))
  refine wpAny_bind (wpAny_holding (IJ hlt items.size 0 _ _ ⟨_,Heap.get?_push_size _ rfl,rfl,rfl⟩ (ht.at fun o e=>Heap.get?_push_of_some _ e) (by lia) fun h₁ hit₁ hs₁=>?_))
  have hall:List.take items.size (List.drop 0 items.toList)=items.toList:=by
   rw [List.drop_zero];exact List.take_of_length_le (by simp)
  rw [hall]
  rw [if_neg (by simp)]
  have ht₁:h₁.IsList t items:=(Heap.IsList.at ht fun o e=>Heap.get?_push_of_some _ e).extBut hs₁.extBut hlt
  refine wpAny_bind (wpAny_holding (wpAny_pyNext_list_end hh hit₁ ht₁ (by simp) fun h₂ he₂=>?_))
  simp only [Option.isSome_none,Bool.false_eq_true,if_false]
  refine wpAny_pure (hQ h₂ fun b o hb e=>he₂ b o hb (hs₁.extBut b o hb (Heap.get?_push_of_some _ e)))
theorem Oo {env:Env} {elts:List Expr} {x1} {pos:Pos} {t:Addr} {items:Array Value} {Q:Unit->Shared->Prop} (hh:A.handled=none) (ht:s.heap.IsList t items)
 (hn:(assignEach elts env).length=items.size) (hstar:(assignEach elts env).findIdx? (·.1)=none)
 (h:∀ h',Heap.ExtBut s.heap.objs.size s.heap h'->wpAny (model prog w) A (assignInOrder ((assignEach elts env).map (·.2)) items.toList) Q E { s with heap:=h' }) :
 wpAny (model prog w) A (assign (.Tuple elts x1 pos) env (.ref t)) Q E s:=by
 rw [assign_Tuple]
 refine wpAny_bind (wpAny_standAt ?_)
 unfold unpack
 rw [hn,hstar]
 exact wpAny_bind (wpAny_holding (Nv hh ht h))
end
section
variable {X:Cx} {K:W.Frag} {pos p2:Pos} {e:Expr} {lo hi:Option Expr} {te:TE} {tl th:TO}
noncomputable def OZ (K:W.Frag) (n:Nat) (t:TGs):TG:=fun v σ H Q=>match v with
 | .ref a=>∃ xs,SqA K H a xs/\xs.length=n/\t xs σ H Q
 | _=>False
theorem Go {es:List Expr} {k:Nat} {t:TGs} {n:Nat} (hc:X.calm=true) (h:PGs X es t)
 (hn:(assignEach es X.env).length=n:=by rfl) (hst:(assignEach es X.env).findIdx? (·.1)=none:=by rfl) (hK:X.K=K:=by rfl):PG X (.Tuple es k pos) (OZ K n t):=by
 subst hK
 intro pins s σ H v u Q I r hw
 cases v with
 | ref a =>
  obtain ⟨xs,hq | hq,hl,hw⟩:=hw
  ·cases r
   obtain ⟨its,rv,ht,hz⟩:=I.list hq
   refine Oo (I.ok.hd hc) ht.isList (by simp [hn,<- hl,rv.length]) hst fun h' hx=>?_
   have I1:Inv X pins σ H { s with heap:=h' }:=I.kept (t':=s.toks) fun b o e=>hx b o (Nat.ne_of_lt (Heap.lt_size e)) e
   exact h pins _ σ H xs _ Q I1 (by simpa using rv) hw
  ·exact JW hc h hn hst pins s σ H _ u Q I r ⟨a,xs,rfl,hq,hl,hw⟩
 | _=>exact False.elim hw
noncomputable def Gf (K:W.Frag):V->Option Int->Option Int->Hp->VK->Prop:=fun x lo hi H Q=>match x with
 | .ref a=>∃ xs,(SqL K H a xs/\∀ p,H p=none->Q (.ref p) (upd H p (.lst (BB xs lo hi)))) \/
  (SqT K H a xs/\¬ (HT.sIx xs.length 0 lo=0/\HT.sIx xs.length xs.length hi=xs.length)/\∀ p,H p=none->Q (.ref p) (upd H p (.tup (BB xs lo hi))))
 | _=>False
theorem Ow:SlR X (Gf X.K):=by
 intro pins s σ H x v vl vu lo hi sl Q I rx hs pl pu q
 cases x with
 | ref a =>
  obtain ⟨xs,⟨h,q⟩ | ⟨h,h2,q⟩⟩:=q
  ·exact OJ pins s σ H _ v vl vu lo hi sl Q I rx hs pl pu ⟨a,xs,rfl,h,q⟩
  ·exact Iz pins s σ H _ v vl vu lo hi sl Q I rx hs pl pu ⟨a,xs,rfl,h,h2,q⟩
 | _=>exact False.elim q
theorem MW (he:PE X e te) (hl:PO X lo tl) (hu:PO X hi th) (hK:X.K=K:=by rfl):PE X (.Subscript e (.Slice lo hi none p2) pos) (tSl (Gf K) te tl th):=hK ▸ Ji Ow he hl hu
noncomputable def D9 (t:TO):Prop:=∀ σ H (Q Q':Option Int->Hp->Prop),(∀ b H,Q b H->Q' b H)->t σ H Q->t σ H Q'
theorem Nx:D9 IN:=fun _ _ _ _ h q=>h _ _ q
theorem OS (h:Ad te):D9 (LB te):=fun σ H Q Q' k q=>h _ _ _ _ (fun _ _ ⟨i,e,q⟩=>⟨i,e,k _ _ q⟩) q
theorem PV (h:Ad te) (h1:D9 tl) (h2:D9 th):Ad (tSl (Gf K) te tl th):=fun σ H Q Q' k q=>h _ _ _ _ (fun v _ q=>h1 _ _ _ _ (fun _ _ q=>h2 _ _ _ _ (fun _ _ q=>by
 cases v <;> first | exact False.elim q | (obtain ⟨xs,⟨a,q⟩ | ⟨a,b,q⟩⟩:=q
                                           ·exact ⟨xs,.inl ⟨a,fun p hp=>k _ _ (q p hp)⟩⟩
                                           ·exact ⟨xs,.inr ⟨a,b,fun p hp=>k _ _ (q p hp)⟩⟩)) q) q) q
end
theorem Bl {K:W.Frag} {H H':Hp} {a:Addr} {xs:List V} (h:SqT K H a xs) (s:Same H H'):SqT K H' a xs:=IU h fun o e=>s a o e
mutual
theorem Rep.same {K:W.Frag} {H H':Hp} (s:Same H H'):∀ (d:Dv) (v:V),Rep K H d v->Rep K H' d v
 | .non,v,h=>by unfold Rep at *;exact h
 | .bl b,v,h=>by unfold Rep at *;exact h
 | .int i,v,h=>by unfold Rep at *;exact h
 | .str x,v,h=>by unfold Rep at *;exact h
 | .tup ds,v,h=>by
  unfold Rep at *
  obtain ⟨a,xs,e,h1,h2⟩:=h
  exact ⟨a,xs,e,Bl h1 s,Reps.same s ds xs h2⟩
 | .lst ds,v,h=>by
  unfold Rep at *
  obtain ⟨a,xs,e,h1,h2⟩:=h
  exact ⟨a,xs,e,Iw h1 fun o e=>s a o e,Reps.same s ds xs h2⟩
theorem Reps.same {K:W.Frag} {H H':Hp} (s:Same H H'):∀ (ds:List Dv) (xs:List V),Reps K H ds xs->Reps K H' ds xs
 | [],xs,h=>by unfold Reps at *;exact h
 | d::ds,xs,h=>by
  unfold Reps at *
  obtain ⟨x,r,e,h1,h2⟩:=h
  exact ⟨x,r,e,Rep.same s d x h1,Reps.same s ds r h2⟩
end
mutual
noncomputable def Ce:Dv->Bool
 | .tup ds=>Bp ds
 | .lst _=>false
 | _=>true
noncomputable def Bp:List Dv->Bool
 | []=>true
 | d::ds=>Ce d && Bp ds
end
mutual
theorem Rep.frm {K:W.Frag} {H H':Hp} {t:Addr} (s:Frm t H H') (ht:∃ zs,H t=some (.lst zs)):∀ (d:Dv) (v:V),Ce d=true->Rep K H d v->Rep K H' d v
 | .non,v,_,h=>by unfold Rep at *;exact h
 | .bl b,v,_,h=>by unfold Rep at *;exact h
 | .int i,v,_,h=>by unfold Rep at *;exact h
 | .str x,v,_,h=>by unfold Rep at *;exact h
 | .tup ds,v,hd,h=>by
  unfold Ce at hd
  unfold Rep at *
  obtain ⟨a,xs,e,h1,h2⟩:=h
  refine ⟨a,xs,e,?_,Reps.frm s ht ds xs hd h2⟩
  obtain ⟨zs,hz⟩:=ht
  rcases h1 with (h1 | ⟨o,h1⟩) | h1
  ·exact .inl (.inl (s a _ (fun q=>by rw [q,hz] at h1;cases h1) h1))
  ·exact .inl (.inr ⟨o,s a _ (fun q=>by rw [q,hz] at h1;cases h1) h1⟩)
  ·exact .inr h1
 | .lst ds,v,hd,h=>by unfold Ce at hd;cases hd
theorem Reps.frm {K:W.Frag} {H H':Hp} {t:Addr} (s:Frm t H H') (ht:∃ zs,H t=some (.lst zs)):∀ (ds:List Dv) (xs:List V),Bp ds=true->Reps K H ds xs->Reps K H' ds xs
 | [],xs,_,h=>by unfold Reps at *;exact h
 | d::ds,xs,hd,h=>by
  unfold Bp at hd
  rw [Bool.and_eq_true] at hd
  unfold Reps at *
  obtain ⟨x,r,e,h1,h2⟩:=h
  exact ⟨x,r,e,Rep.frm s ht d x hd.1 h1,Reps.frm s ht ds r hd.2 h2⟩
end
theorem Tape.lst {K:W.Frag} {H:Hp} {t a:Addr} {ns:List Int} (T:Tape K H t a ns):∃ zs,H t=some (.lst zs):=by
 obtain ⟨i,r,c,_,_,h⟩:=T.at_
 exact ⟨_,h⟩
theorem BJ {K:W.Frag} {H:Hp} {p:Addr} {xs:List V} {ds:List Dv} (h:H p=some (.tup xs)) (r:Reps K H ds xs):Rep K H (.tup ds) (.ref p):=by unfold Rep;exact ⟨p,xs,rfl,.of h,r⟩
theorem At {K:W.Frag} {H:Hp}:Reps K H [] []:=by unfold Reps;rfl
theorem Ae {K:W.Frag} {H:Hp} {d:Dv} {ds:List Dv} {x:V} {xs:List V} (h:Rep K H d x) (r:Reps K H ds xs):Reps K H (d::ds) (x::xs):=by unfold Reps;exact ⟨x,xs,rfl,h,r⟩
theorem BK {K:W.Frag} {H:Hp} {x:Int}:Rep K H (.int x) (.int x):=by unfold Rep;rfl
theorem Reps.append {K:W.Frag} {H:Hp}:∀ {ds es:List Dv} {xs ys:List V},Reps K H ds xs->Reps K H es ys->Reps K H (ds++es) (xs++ys)
 | [],es,xs,ys,h,h'=>by unfold Reps at h;subst h;exact h'
 | d::ds,es,xs,ys,h,h'=>by
  unfold Reps at h
  obtain ⟨x,r,rfl,h1,h2⟩:=h
  exact Ae h1 (Reps.append h2 h')
section
variable {κ:Type} [DecidableEq κ]
noncomputable def BA (kvs:List (κ × V)) (k:κ):Option V:=(kvs.find? fun kv=>decide (kv.1=k)).map (·.2)
noncomputable def Ff (kvs:List (κ × V)) (k:κ) (v:V):List (κ × V) :=
 if (kvs.any fun kv=>decide (kv.1=k))=true then kvs.map (fun kv=>if kv.1=k then (kv.1,v) else kv) else kvs++[(k,v)]
theorem Er {p:κ × V} {r:List (κ × V)} {k:κ} (e:p.1=k):BA (p::r) k=some p.2:=by simp [BA,List.find?_cons,e]
theorem Ee {p:κ × V} {r:List (κ × V)} {k:κ} (e:¬ p.1=k):BA (p::r) k=BA r k:=by simp [BA,List.find?_cons,e]
theorem RelO.getD {o:Option V} {u:Option Value} {d:V} {d':Value} (r:RelO o u) (rd:RelV d d'):RelV (o.getD d) (u.getD d'):=by
 cases o with
 | none=>cases u with
  | none=>exact rd
  | some _=>exact (show False from r).elim
 | some _=>cases u with
  | none=>exact (show False from r).elim
  | some _=>exact r
theorem KV.val {kvs:List (κ × V)} {vs:List (κ × Value)} (r:KV kvs vs) (k:κ):RelO (BA kvs k) (valueAt vs k):=by
 unfold KV at r
 induction r with
 | nil=>exact True.intro
 | @cons p q ps qs h t ih =>
  obtain ⟨h1,h2⟩:=h
  by_cases e:p.1=k
  ·have e':q.1=k:=h1.symm.trans e
   have b:valueAt (q::qs) k=some q.2:=by simp [valueAt,List.find?_cons,e']
   rw [Er e,b];exact h2
  ·have e':¬ q.1=k:=fun z=>e (h1.trans z)
   have b:valueAt (q::qs) k=valueAt qs k:=by simp [valueAt,List.find?_cons,e']
   rw [Ee e,b];exact ih
theorem KV.any {kvs:List (κ × V)} {vs:List (κ × Value)} (r:KV kvs vs) (k:κ):(kvs.any fun kv=>decide (kv.1=k))=vs.any fun kv=>decide (kv.1=k):=by
 unfold KV at r
 induction r with
 | nil=>rfl
 | cons h t ih=>rw [List.any_cons,List.any_cons,ih,h.1]
theorem KV.length {kvs:List (κ × V)} {vs:List (κ × Value)} (r:KV kvs vs):kvs.length=vs.length:=Paired.length r
end
theorem Ks {P:Program} {w:World} {k:Key} {u:Value} (r:RelV (kV k) u):(Be P w).is k u=true:=by
 cases k with
 | inl i=>obtain ⟨t,e⟩:=(show ∃ t,u=Value.int i t from r);subst e;exact LF P w i t
 | inr x=>obtain ⟨t,e⟩:=(show ∃ t,u=Value.str x t from r);subst e;exact Og P w x t
theorem KL {P:Program} {w:World}:∀ {ks:List Key} {us:List Value},Vals (ks.map kV) us->ItemsAre (Be P w) ks us
 | [],_,r=>by rw [List.map_nil] at r;cases r;exact .nil
 | k::ks,_,r=>by
  rw [List.map_cons] at r
  cases r with
  | cons h t=>exact .cons (Ks h) (KL t)
noncomputable abbrev KT (H:Hp):List (List Key × V)->List (List Key × Addr × Value)->Prop:=Paired fun p q=>p.1=q.1/\H q.2.1=some (.tup (p.1.map kV))/\RelV p.2 q.2.2
theorem KT.val {H:Hp} {kvs:List (List Key × V)} {xs:List (List Key × Addr × Value)} (r:KT H kvs xs) (k:List Key):RelO (BA kvs k) ((atKey xs k).map (·.2)):=by
 induction r with
 | nil=>exact True.intro
 | @cons p q ps qs h t ih =>
  obtain ⟨h1,_,h2⟩:=h
  by_cases e:p.1=k
  ·have e':q.1=k:=h1.symm.trans e
   have b:atKey (q::qs) k=some q.2:=by simp [atKey,List.find?_cons,e']
   rw [Er e,b];exact h2
  ·have e':¬ q.1=k:=fun z=>e (h1.trans z)
   have b:atKey (q::qs) k=atKey qs k:=by simp [atKey,List.find?_cons,e']
   rw [Ee e,b];exact ih
section
variable {P:Program} {w:World} {H:Hp} {h:Heap} {a:Addr}
theorem Jp {u:HO} (ok:HOk P w H h) (e:Rd H a u):ObjOk P w H h a u:=e.ok ok
theorem LK {kvs:List (Key × V)} (ok:HOk P w H h) (e:Rd H a (.dK kvs)):kvs.length<=sizeLine/\(a == sysModules)=false/\∃ vs,KV kvs vs/\h.DictOf (Be P w) a vs :=
 show ObjOk P w H h a (.dK kvs) from Jp ok e
theorem Hr {ks:List Key} (ok:HOk P w H h) (e:H a=some (.tup (ks.map kV))):(tupleKind (Be P w)).is h ks a:=by
 obtain ⟨_,its,r,o,h1,h2,⟨n,h3⟩,_⟩:=(show ObjOk P w H h a (.tup (ks.map kV)) from ok a _ e)
 exact ⟨o,its.toArray,n,h1,h2,h3,by simpa using KL r⟩
theorem IB {kvs:List (List Key × V)} (ok:HOk P w H h) (e:Rd H a (.dT kvs)):kvs.length<=sizeLine/\(a == sysModules)=false /\
 ∃ xs,KT H kvs xs/\h.DictOfH (tupleKind (Be P w)) a xs:=by
 obtain ⟨z,y,xs,r,o,es,ep,h1,h2,h3,h4,h5⟩:=(show ObjOk P w H h a (.dT kvs) from Jp ok e)
 refine ⟨z,y,xs,r,o,es,ep,h1,h2,h3,h4,fun x hx=>?_,h5⟩
 have all:∀ {l:List (List Key × V)} {m:List (List Key × Addr × Value)},KT H l m->∀ x∈m,(tupleKind (Be P w)).is h x.1 x.2.1:=by
  intro l m q
  induction q with
  | nil=>intro x hx;exact nomatch hx
  | @cons p q ps qs hq t ih =>
   intro x hx
   rcases List.mem_cons.mp hx with e | hx
   ·subst e
    exact Hr ok (by rw [<- hq.1];exact hq.2.1)
   ·exact ih x hx
 exact all r x hx
end
noncomputable def DGet (H:Hp) (a:Addr) (y:V) (r:Option V):Prop :=
 (∃ kvs k,Rd H a (.dK kvs)/\y=kV k/\r=BA kvs k)\/∃ kvs k b,Rd H a (.dT kvs)/\y=.ref b/\H b=some (.tup (k.map kV))/\r=BA kvs k
noncomputable def DPut (H:Hp) (a:Addr) (y v:V) (H':Hp):Prop :=
 (∃ kvs k,H a=some (.dK kvs)/\y=kV k/\kvs.length < sizeLine/\H'=upd H a (.dK (Ff kvs k v))) \/
 ∃ kvs k b,H a=some (.dT kvs)/\y=.ref b/\H b=some (.tup (k.map kV))/\kvs.length < sizeLine/\H'=upd H a (.dT (Ff kvs k v))
theorem DGet.k {H:Hp} {a:Addr} {kvs:List (Key × V)} {k:Key} (e:H a=some (.dK kvs)):DGet H a (kV k) (BA kvs k):=.inl ⟨kvs,k,.inl e,rfl,rfl⟩
theorem DGet.t {H:Hp} {a b:Addr} {kvs:List (List Key × V)} {k:List Key} (e:H a=some (.dT kvs)) (eb:H b=some (.tup (k.map kV))):DGet H a (.ref b) (BA kvs k):=.inr ⟨kvs,k,b,.inl e,rfl,eb,rfl⟩
theorem DPut.k {H:Hp} {a:Addr} {kvs:List (Key × V)} {k:Key} {v:V} (e:H a=some (.dK kvs)) (hl:kvs.length < sizeLine):DPut H a (kV k) v (upd H a (.dK (Ff kvs k v))):=.inl ⟨kvs,k,e,rfl,hl,rfl⟩
theorem DPut.t {H:Hp} {a b:Addr} {kvs:List (List Key × V)} {k:List Key} {v:V} (e:H a=some (.dT kvs)) (eb:H b=some (.tup (k.map kV))) (hl:kvs.length < sizeLine) :
 DPut H a (.ref b) v (upd H a (.dT (Ff kvs k v))):=.inr ⟨kvs,k,b,e,rfl,eb,hl,rfl⟩
section
variable {X:Cx} {pins:List (Addr × Obj)} {σ:St} {H:Hp} {s:Shared} {a:Addr} {y v:V} {u r:Value} {o:Option V} {A:Around} {E:Value->Shared->Prop}
theorem Inv.big (I:Inv X pins σ H s):sysModules < s.heap.objs.size:=by
 have h:mainGlobals < s.heap.objs.size:=(I.mod.glob.keeps I.bk).lt
 exact Nat.lt_trans (by decide) h
end
section
variable {X:Cx} {pins:List (Addr × Obj)} {σ:St} {H:Hp} {s:Shared} {a:Addr} {kvs:List (Key × V)} {k:Key} {u:Value} {A:Around} {E:Value->Shared->Prop}
end
section
variable {X:Cx} {o i e value:Expr} {pos pos' tpos:Pos} {td ty tv:TE}
end
section
variable {X:Cx} {pos:Pos}
end
structure M1 (X:Cx) (o:Expr) (m:Str) (apos:Pos) (e:Expr) (cpos:Pos):Prop where
 base:attributeBase o m X.env (eval o X.env)=eval o X.env
 few:((backTo cpos (starEach [e] X.env)).all (fun x=>!x.1) && (backToKw cpos (keywordEach [] X.env)).all (fun x=>x.1.isSome)
  && decide (([e]:List Expr).length+([]:List Keyword).length+(if ([]:List Keyword).isEmpty then 0 else 1) < 30))=true
 line:(apos.endLine == cpos.line)=true
 trees:backTo cpos (starEach [e] X.env)=[(false,eval e X.env)]
structure M2 (X:Cx) (o:Expr) (m:Str) (apos:Pos) (e f:Expr) (cpos:Pos):Prop where
 base:attributeBase o m X.env (eval o X.env)=eval o X.env
 few:((backTo cpos (starEach [e,f] X.env)).all (fun x=>!x.1) && (backToKw cpos (keywordEach [] X.env)).all (fun x=>x.1.isSome)
  && decide (([e,f]:List Expr).length+([]:List Keyword).length+(if ([]:List Keyword).isEmpty then 0 else 1) < 30))=true
 line:(apos.endLine == cpos.line)=true
 trees:backTo cpos (starEach [e,f] X.env)=[(false,eval e X.env),(false,eval f X.env)]
noncomputable def IsD (H:Hp) (a:Addr):Prop:=(∃ kvs,Rd H a (.dK kvs))\/∃ kvs,Rd H a (.dT kvs)
theorem QG {X:Cx} {pins:List (Addr × Obj)} {σ:St} {H:Hp} {s:Shared} {a:Addr} (I:Inv X pins σ H s) (d:IsD H a) :
 s.TypeIs (.ref a) "dict" /\ (∀ b,Value.ref a=.ref b->∃ ob,s.heap.get? b=some ob/\ob.dict=none)/\(a == sysModules)=false:=by
 rcases d with ⟨kvs,e⟩ | ⟨kvs,e⟩
 ·obtain ⟨_,hd,vs,_,dd⟩:=LK I.hok e
  refine ⟨dd.typeIs,fun b q=>?_,hd⟩
  cases q
  obtain ⟨ob,_,_,h1,h2,_⟩:=dd
  exact ⟨ob,h1,h2.2.1⟩
 ·obtain ⟨_,hd,xs,_,dd⟩:=IB I.hok e
  refine ⟨dd.typeIs,fun b q=>?_,hd⟩
  cases q
  obtain ⟨ob,_,_,h1,h2,_⟩:=dd
  exact ⟨ob,h1,h2.2.1⟩
section
variable {X:Cx} {pins:List (Addr × Obj)} {σ:St} {H:Hp} {s:Shared} {a:Addr} {y d:V} {u r:Value} {o:Option V} {A:Around} {E:Value->Shared->Prop}
theorem Ot {Q:Value->Shared->Prop} (hu:A.units+1 < cLine) (I:Inv X pins σ H s) (g:DGet H a y o) (ry:RelV y u) (rd:RelV d r) (h:∀ w' s',Inv X pins σ H s'->RelV (o.getD d) w'->Q w' s') :
 wpAny (model X.prog X.w) A (call (.builtin "dict.get") [.ref a,u,r]) Q E s:=by
 rcases g with ⟨kvs,k,e,ey,l⟩ | ⟨kvs,k,b,e,ey,eb,l⟩
 ·subst ey
  obtain ⟨z,hd,vs,rel,dd⟩:=LK I.hok e
  refine call_meetsIn PySem.F.slot_dict_get dd.typeIs PySem.F.entry_dict_get (PySem.F.args_dict_get_3 _ _ _) (meets_dict_get_default (Be X.prog X.w) a (Ks ry) hd r) ⟨_,dd.mapOf,h _ _ (I.tok _) ?_⟩
  rw [l]
  exact (rel.val k).getD rd
 ·subst ey
  cases (show u=Value.ref b from ry)
  obtain ⟨z,hd,xs,rel,dd⟩:=IB I.hok e
  refine call_meetsIn PySem.F.slot_dict_get dd.typeIs PySem.F.entry_dict_get (PySem.F.args_dict_get_3 _ _ _) (meetsH_dict_get_default (tupleKind (Be X.prog X.w)) a b hd r) ⟨tupleKind_room_in1 hu,k,xs,Hr I.hok eb,dd,h _ _ (I.tok _) ?_⟩
  rw [l]
  exact (rel.val k).getD rd
end
noncomputable def Px (td ty tx:TE):TE:=fun σ H Q=>td σ H fun x H1=>∃ a,x=.ref a/\IsD H1 a/\ty σ H1 fun y H2=>tx σ H2 fun z H3=>∃ o,DGet H3 a y o/\Q (o.getD z) H3
section
variable {X:Cx} {o e f:Expr} {apos cpos:Pos} {td ty tx:TE}
theorem M6 (hu:X.A.units+1 < cLine) (ho:PE X o td) (he:PE X e ty) (hf:PE X f tx) (m:M2 X o "get" apos e f cpos):PE X (.Call (.Attribute o "get" apos) [e,f] [] cpos) (Px td ty tx):=by
 intro pins s σ H Q I h
 refine wpAny_Call_method m.base m.few m.line PySem.F.plainAttrs_dict PySem.F.slot_dict_get PySem.F.type_dict_get (thn (ho pins s σ H _ I h) fun u s1 ⟨x,H1,I1,rx,a,ex,d,q1⟩=>?_)
 subst ex
 obtain rfl:u=Value.ref a:=rx
 obtain ⟨t1,t2,_⟩:=QG I1 d
 refine ⟨t1,t2,?_⟩
 rw [m.trees]
 refine Calls.callWith_builtin rfl (Calls.evalArgs_plain (Calls.spliced_cons (thn (he pins s1 σ H1 _ I1 q1) fun iv s2 ⟨y,H2,I2,ry,q2⟩ =>
  Calls.spliced_cons (thn (hf pins s2 σ H2 _ I2 q2) fun fv s3 ⟨z,H3,I3,rz,ov,g,q3⟩=>Calls.spliced_nil ?_))))
 exact Ot hu I3 g ry rz fun w' s4 I4 rw'=>⟨_,H3,I4,rw',q3⟩
end
section
variable {X:Cx} {pins:List (Addr × Obj)} {σ:St} {H:Hp} {s:Shared} {a:Addr} {kvs:List (Key × V)} {A:Around} {E:Value->Shared->Prop}
end
section
variable {X:Cx} {pins:List (Addr × Obj)} {σ:St} {H:Hp} {s:Shared} {a:Addr} {y:V} {u:Value} {A:Around} {E:Value->Shared->Prop}
end
theorem OG {M:Model} {A:Around} {E:Value->Shared->Prop} {s:Shared} {b:Bool} {Q:Int->Shared->Prop} (h:Q (if b=true then 1 else 0) s):wpAny M A (Builtin.Int.intOfSelf (.bool b)) Q E s:=by
 unfold Builtin.Int.intOfSelf
 exact wpAny_pure h
theorem QC {prog:Program} {w:World} {A:Around} {E:Value->Shared->Prop} {s:Shared} {b:Bool} {Q:Int->Shared->Prop} (h:Q (if b=true then 1 else 0) { s with toks:=s.toks+1 }):wpAny (model prog w) A (pyHash (.bool b)) Q E s:=by
 show wpAny _ _ (pyHashByItsType (.bool b)) _ _ _
 refine PySem.W.pyHash_slot (T:="bool") rfl PySem.F.slot_bool_hash PySem.F.entry_int_hash (PySem.F.args_int_hash_1 _) rfl (.inl rfl) ?_
 unfold Builtin.«int.__hash__» Builtin.Int.intSlot0
 refine wpAny_bind (wpAny_bind ?_)
 show wpAny _ _ (pure (Value.bool b,[])) _ _ _
 refine wpAny_pure (wpAny_bind (OG (wpAny_pure ?_)))
 cases b with
 | true=>exact wpAny_bind (wpAny_mkInt (wpAny_pure ⟨_,_,rfl,h⟩))
 | false=>exact wpAny_bind (wpAny_mkInt (wpAny_pure ⟨_,_,rfl,h⟩))
noncomputable def HZ:Bool->Value->Bool
 | b,.bool c=>b == c
 | _,_=>false
theorem C1 {b:Bool} {v:Value} (h:HZ b v=true):v=.bool b:=by
 unfold HZ at h
 split at h
 ·rw [beq_iff_eq.mp h]
 ·cases h
noncomputable def Oq (prog:Program) (w:World):PySem.KeyKind prog w Bool where
 is:=HZ
 hash:=fun b=>if b=true then 1 else 0
 inj:=fun v a b ha hb=>by
  have e1:=C1 ha
  have e2:=C1 hb
  rw [e1] at e2
  injection e2
 byValue:=fun k v h=>by rw [C1 h];rfl
 pyHash:=fun hv h=>by rw [C1 hv];exact QC h
 eqBool:=fun {A E s a b u v Q} hu hv h=>by
  rw [C1 hu,C1 hv]
  refine SeqAt.EqAt.bool_bool a b _ _ _ _ ?_
  have e:(a == b)=decide (a=b):=by cases a <;> cases b <;> rfl
  rw [e];exact h
 «strs»:=fun k x t v h=>by
  have:=C1 h
  cases this
section
variable {P:Program} {w:World} {H:Hp} {h:Heap} {a:Addr}
end
section
variable {X:Cx} {o i e value:Expr} {pos pos' tpos:Pos} {td ty tv:TE}
end
section
variable {X:Cx} {P:Program} {w:World} {o i:Expr} {pos:Pos} {td ty:TE}
end
section
variable {X:Cx} {K:W.Frag} {o:Expr} {to:TE} {apos cpos:Pos}
noncomputable def Dq:V->List V->Hp->VK->Prop:=fun x vs H Q=>match x,vs with
 | .int i,[]=>Q (.int (Builtin.Int.intBits i:Nat)) H
 | _,_=>False
theorem NL:MtR X "int.bit_length" Dq:=by
 intro pins s σ H x vs v us Q I rx rv q
 match x,vs,q with
 | .int i,[],q =>
  cases rv
  obtain ⟨t,rfl⟩:=(show ∃ t,v=Value.int i t from rx)
  exact PyProof.Rows.call_int_bit_length ⟨.int (Builtin.Int.intBits i:Nat),H,I.tok _,⟨_,rfl⟩,q⟩
theorem Iy (ho:PE X o to) (hbase:attributeBase o "bit_length" X.env (eval o X.env)=eval o X.env:=by rfl) (hline:(apos.endLine == cpos.line)=true:=by rfl) (hK:X.K=K:=by rfl) :
 PE X (.Call (.Attribute o "bit_length" apos) [] [] cpos) (GX K "int" Dq to):=hK ▸ N9 PySem.F.plainAttrs_int PySem.F.slot_int_bit_length PySem.F.type_int_bit_length NL ho hbase hline
end
theorem NG:FG Dq:=fun x xs H Q Q' h q=>by
 unfold Dq at *
 split at q
 ·exact h _ _ q
 ·exact q.elim
theorem OD {K:W.Frag} {T:String} {r:V->List V->Hp->VK->Prop} {to:TE} (h1:Ad to) (h3:FG r):Ad (GX K T r to):=fun σ H Q Q' h q=>h1 _ _ _ _ (fun _ _ q=>⟨q.1,h3 _ _ _ _ _ h q.2⟩) q
noncomputable def Ite (K:W.Frag) (l:Addr):It :=
 ⟨fun i H=>∃ xs x,SqL K H l xs/\xs[i]? = some x,
  fun i H v H'=>∃ p x,H p=none/\v=.ref p/\H'=upd H p (.tup [.int i,x])/\∀ xs,SqL K H l xs->xs[i]? = some x,
  fun i H=>∃ xs,SqL K H l xs/\xs.length<=i⟩
theorem NB {P:Program} {w:World} {K:W.Frag} {es:List Expr} {kt:Nat} {tpos:Pos} {e it l:Addr} (hne:e≠it) :
 Turn P w K (.Tuple es kt tpos) (Ite K l) [e,it] e (fun i h=>(∃ old,IsEnum h e it (i:Int) old)/\h.IsListIter it l i) where
 mem:=by simp
 obj:=fun i h st b hb=>by
  obtain ⟨⟨old,hz⟩,⟨o1,e1,c1,d1⟩⟩:=st
  simp only [List.mem_cons,List.mem_nil_iff,or_false] at hb
  rcases hb with rfl | rfl
  ·exact ⟨_,hz,fun v q=>nomatch q⟩
  ·exact ⟨o1,e1,fun v q=>by rw [d1] at q;cases q⟩
 keep:=fun i h h' ⟨⟨old,hz⟩,h1⟩ k=>⟨⟨old,k e (by simp) _ hz⟩,h1.at fun o q=>k it (by simp) o q⟩
 item:=by
  intro X hP hw hK hc i pins s σ H E I hf st hg
  subst hP hw hK
  obtain ⟨xs,x,hq1,hx⟩:=hg
  obtain ⟨⟨old,hz⟩,h1⟩:=st
  obtain ⟨its,rv,p,_⟩:=I.list hq1
  obtain ⟨u,hu,ru⟩:=rv.get hx
  refine wpAny_pyNext_enum_item hz h1 p.isList (x:=u) (by simpa using hu) hne fun h' z1 z2 z3 z4 z5=>?_
  refine ⟨_,rfl,?_⟩
  have z5':∀ b v,b∉[e,it]->s.heap.get? b=some v->h'.get? b=some v:=fun b v hb q=>by
   simp only [List.mem_cons,List.mem_nil_iff,or_false,not_or] at hb
   exact z5 b v hb.1 hb.2 q
  have I1:Inv X pins σ (upd H s.heap.objs.size (.tup [.int i,x])) { s with heap:=h' }:=by
   refine I.turnedNew (ch:=[e,it]) (fun b hb=>hf b hb) (Nat.le_refl _) z5' ?_ fun b hb=>?_
   ·exact ⟨Ac (show 2<=1000 by decide),[.int i s.toks,u],.cons ⟨_,rfl⟩ (.cons ru .nil),⟨_,z3,rfl,⟨_,rfl⟩,rfl⟩⟩
   ·simp only [List.mem_cons,List.mem_nil_iff,or_false] at hb
    rcases hb with rfl | rfl
    ·exact ⟨_,z1⟩
    ·obtain ⟨o,q,_⟩:=z2;exact ⟨o,q⟩
  refine wpAny_letOwnedTupleGo_enum (s:={ s with heap:=h',toks:=s.toks+1 }) z1 fun h'' z8 z9=>?_
  have hfz:=hf e (by simp)
  have neT:∀ b,b∈[e,it]->b≠s.heap.objs.size:=fun b hb q=>by
   have st':∃ o,s.heap.get? b=some o:=by
    simp only [List.mem_cons,List.mem_nil_iff,or_false] at hb
    rcases hb with rfl | rfl
    ·exact ⟨_,hz⟩
    ·obtain ⟨o,q,_⟩:=h1;exact ⟨o,q⟩
   obtain ⟨o,ho⟩:=st'
   have:=Heap.lt_size ho
   rw [q] at this
   exact Nat.lt_irrefl _ this
  have hTH:∀ b∈[e,it],upd H s.heap.objs.size (.tup [.int i,x]) b=none:=fun b hb=>by rw [AX (neT b hb)];exact (hf b hb).1
  have I2:Inv X pins σ (upd H s.heap.objs.size (.tup [.int i,x])) { s with heap:=h'',toks:=s.toks+1 } :=
   I1.turned (t':=s.toks+1) (fun b o hb q=>(z9.2 b hb).trans q) (hTH e (by simp)) hfz.2.1 hfz.2.2.2.1 hfz.2.2.2.2.1 hfz.2.2.2.2.2
  have up:∀ b o,b≠e->h'.get? b=some o->h''.get? b=some o:=fun b o hb q=>(z9.2 b hb).trans q
  exact ⟨.ref s.heap.objs.size,_,I2,rfl,⟨_,x,I.hok.fresh (Nat.le_refl _),rfl,rfl,fun xs' h=>by rw [I.list_inj h hq1];exact hx⟩,⟨⟨_,z8⟩,z2.at fun o q=>up _ o (Ne.symm hne) q⟩,hTH⟩
 done:=by
  intro X hP hw hK hc i pins s σ H E I hf st hg
  subst hP hw hK
  obtain ⟨xs,hq1,hl⟩:=hg
  obtain ⟨⟨old,hz⟩,h1⟩:=st
  obtain ⟨its,rv,p,_⟩:=I.list hq1
  have e1:=rv.length
  refine wpAny_pyNext_enum_end (I.ok.hd hc) hz h1 p.isList (by simp;lia) fun h' z7=>⟨rfl,?_⟩
  obtain ⟨f0,f1,f2,f3,f4,f5⟩:=hf it (by simp)
  exact I.turned (t':=s.toks) (fun b o hb q=>z7 b o hb q) f0 f1 f3 f4 f5
 self:=fun _ _ _ _ _ st h=>wpAny_pyIter_enum st.1.choose_spec h
section
variable {X:Cx}
noncomputable def JA (K:W.Frag) (ta:TA):TI:=fun σ H R=>ta σ H fun vs H1=>match vs with
 | [.ref a]=>(∃ xs,SqL K H1 a xs)/\R (Ite K a) H1
 | _=>False
theorem NH {K:W.Frag} {a:Expr} {ta:TA} {p pos:Pos} {es:List Expr} {kt:Nat} {tpos:Pos} (hg:Gl X "enumerate") (hm:X.mg "enumerate" = none) (ha:PA X [a] ta)
 (hs:starEach [a] X.env=[(false,eval a X.env)]:=by rfl) (hK:X.K=K:=by rfl) :
 PI X (.Tuple es kt tpos) (.Call (.Name "enumerate" p) [a] [] pos) (JA K ta):=by
 subst hK
 intro pins s σ H R I h
 refine Call_ (Da I hg hm (by rfl:bootBuiltins "enumerate" = some (.type "enumerate")) (PyProof.Rows.callWith_type1 (thn (ha pos pins s σ H _ I h) fun us s1 ⟨vs,H1,I1,r1,q1⟩=>?_) (by rw [hs];rfl) (by rfl)))
 match vs,q1,r1 with
 | [.ref l1],⟨⟨xs,hx⟩,q⟩,r1 =>
 cases r1 with
 | cons r rr =>
 cases rr
 cases r
 obtain ⟨its,rv,p1,_⟩:=I1.list hx
 refine call_enumerate_list p1.isList fun h' z1 z2 z3 z4=>?_
 refine wpAny_pyIter_enum (s:={ s1 with heap:=h' }) z1 ?_
 have I2:Inv X pins σ H1 { s1 with heap:=h' }:=I1.kept (t':=s1.toks) z4
 refine ⟨_,_,_,_,H1,rfl,I2,NB (l:=l1) (it:=s1.heap.objs.size) (Nat.ne_of_gt (Nat.lt_succ_self _)),⟨⟨_,z1⟩,z2⟩,fun b hb=>?_,q⟩
 refine I1.fpOk ?_ (I1.hok.fresh ?_)
 all_goals
  simp only [List.mem_cons,List.mem_nil_iff,or_false] at hb
  rcases hb with rfl | rfl
  ·exact Nat.le_succ _
  ·exact Nat.le_refl _
theorem LQ {K:W.Frag} {ta:TA} (h:Bt ta):EZ (JA K ta):=fun σ H Q Q' k q=>h _ _ _ _ (fun vs _ q=>by
 match vs,q with
 | [.ref a],⟨h1,q⟩=>exact ⟨h1,k _ _ q⟩) q
theorem PL {K:W.Frag} {l:Addr} {xs:List V} {g:TG} {tc:TT} {te:TE} {σc:St} {Q:VK} {H:Hp} (Pv:Nat->List V->Hp->Prop) (h0:Pv 0 [] H) (hl:∀ i zs H,i<=xs.length->Pv i zs H->SqL K H l xs) (hz:∀ i zs H,i < xs.length->Pv i zs H->zs.length < sizeLine)
 (hs:∀ i x zs H p,xs[i]? = some x->Pv i zs H->H p=none->g (.ref p) σc (upd H p (.tup [.int (i:Nat),x])) fun σ2 H2=>tc σ2 H2 fun b H3=>if b=true then te σ2 H3 fun v H4=>Pv (i+1) (zs++[v]) H4 else Pv (i+1) zs H3)
 (hd:∀ zs H,Pv xs.length zs H->∀ p,H p=none->Q (.ref p) (upd H p (.lst zs))):D3 (Ite K l) g tc te σc Q H:=by
 refine ⟨fun i m zs H=>m=xs.length - i/\i<=xs.length/\Pv i zs H,⟨xs.length,by simp,Nat.zero_le _,h0⟩,?_⟩
 rintro i m zs H ⟨rfl,hi,p⟩
 have q1:=hl i zs H hi p
 by_cases hlt:i < xs.length
 ·refine .inr ⟨⟨xs,xs[i],q1,by simp [hlt]⟩,hz i zs H hlt p,Pv (i+1),fun zs' H' p'=>⟨xs.length - (i+1),by lia,rfl,hlt,p'⟩,?_⟩
  rintro v H' ⟨pp,x,hp,rfl,rfl,k1⟩
  exact hs i x zs H pp (k1 xs q1) p hp
 ·have e:i=xs.length:=by lia
  subst e
  exact .inl ⟨⟨xs,q1,Nat.le_refl _⟩,hd zs H p⟩
end
theorem Kz:∀ m < 7,(Builtin.Int.intBits ((2 ^ m:Nat):Int):Nat)=m+1:=by decide +kernel
section
variable {X:Cx} {K:W.Frag}
end
mutual
noncomputable def pyD:Dv->PyData
 | .non=>.none
 | .bl b=>.bool b
 | .int i=>.int i
 | .str x=>.str x
 | .tup ds=>.tuple (BE ds)
 | .lst ds=>.list (BE ds)
noncomputable def BE:List Dv->List PyData
 | []=>[]
 | d::ds=>pyD d::BE ds
end
noncomputable def CT (i:Int):Bool:=decide (i.natAbs.log2 < 1900)
mutual
noncomputable def Ai:Dv->Bool
 | .non=>true
 | .bl _=>true
 | .int i=>CT i
 | .str _=>false
 | .tup ds=>A7 ds
 | .lst ds=>A7 ds
noncomputable def A7:List Dv->Bool
 | []=>true
 | d::ds=>Ai d && A7 ds
end
mutual
noncomputable def A5:Dv->Nat
 | .tup ds=>BO ds
 | .lst ds=>BO ds
 | _=>0
noncomputable def BO:List Dv->Nat
 | []=>0
 | d::ds=>A5 d+1+BO ds
end
mutual
theorem Jq:∀ d:Dv,(pyD d).depth=AY d
 | .non=>by simp [pyD,AY,PyData.depth]
 | .bl _=>by simp [pyD,AY,PyData.depth]
 | .int _=>by simp [pyD,AY,PyData.depth]
 | .str _=>by simp [pyD,AY,PyData.depth]
 | .tup ds=>by simp [pyD,AY,PyData.depth,HE ds]
 | .lst ds=>by simp [pyD,AY,PyData.depth,HE ds]
theorem HE:∀ ds:List Dv,PyData.depthAll (BE ds)=A6 ds
 | []=>by simp [BE,A6,PyData.depthAll]
 | d::ds=>by simp [BE,A6,PyData.depthAll,Jq d,HE ds]
end
mutual
theorem JP:∀ d:Dv,(pyD d).hasDict=false
 | .non=>by simp [pyD,PyData.hasDict]
 | .bl _=>by simp [pyD,PyData.hasDict]
 | .int _=>by simp [pyD,PyData.hasDict]
 | .str _=>by simp [pyD,PyData.hasDict]
 | .tup ds=>by simp [pyD,PyData.hasDict,GD ds]
 | .lst ds=>by simp [pyD,PyData.hasDict,GD ds]
theorem GD:∀ ds:List Dv,PyData.hasDictAll (BE ds)=false
 | []=>by simp [BE,PyData.hasDictAll]
 | d::ds=>by simp [BE,PyData.hasDictAll,JP d,GD ds]
end
mutual
theorem K9:∀ d:Dv,Ai d=true->(pyD d).bulk=A5 d
 | .non,_=>by simp [pyD,PyData.bulk,A5]
 | .bl _,_=>by simp [pyD,PyData.bulk,A5]
 | .int _,_=>by simp [pyD,PyData.bulk,A5]
 | .str _,h=>by simp [Ai] at h
 | .tup ds,h=>by simp [pyD,PyData.bulk,A5,HW ds (by simpa [Ai] using h)]
 | .lst ds,h=>by simp [pyD,PyData.bulk,A5,HW ds (by simpa [Ai] using h)]
theorem HW:∀ ds:List Dv,A7 ds=true->PyData.bulkAll (BE ds)=BO ds
 | [],_=>by simp [BE,PyData.bulkAll,BO]
 | d::ds,h=>by
  have h':Ai d=true/\A7 ds=true:=by simpa [A7] using h
  simp [BE,PyData.bulkAll,BO,K9 d h'.1,HW ds h'.2]
end
mutual
theorem GR:∀ d:Dv,Ai d=true->(pyD d).showable=true/\(pyD d).leavesShort 1921=true
 | .non,_=>by simp [pyD,PyData.showable,PyData.leavesShort]
 | .bl _,_=>by simp [pyD,PyData.showable,PyData.leavesShort]
 | .int i,h=>by
  have h1:i.natAbs.log2 < 1900:=by simpa [Ai,CT] using h
  have h2:i.natAbs.log2 < 1920:=by lia
  refine ⟨by simpa [pyD,PyData.showable] using h2,?_⟩
  simp only [pyD,PyData.leavesShort,decide_eq_true_eq,PyData.shown]
  exact decide_eq_true (PyProof.Rows.int_text_len_1921 h2)
 | .str _,h=>by simp [Ai] at h
 | .tup ds,h=>by
  have h':=HV ds (by simpa [Ai] using h)
  simpa [pyD,PyData.showable,PyData.leavesShort] using h'
 | .lst ds,h=>by
  have h':=HV ds (by simpa [Ai] using h)
  simpa [pyD,PyData.showable,PyData.leavesShort] using h'
theorem HV:∀ ds:List Dv,A7 ds=true->PyData.showableAll (BE ds)=true/\PyData.leavesShortAll 1921 (BE ds)=true
 | [],_=>by simp [BE,PyData.showableAll,PyData.leavesShortAll]
 | d::ds,h=>by
  have h':Ai d=true/\A7 ds=true:=by simpa [A7] using h
  have h1:=GR d h'.1
  have h2:=HV ds h'.2
  simp [BE,PyData.showableAll,PyData.leavesShortAll,h1,h2]
end
noncomputable def Bx (d:Dv):Str:=(pyD d).shown
theorem PF {d:Dv} (h:Ai d=true) (hb:A5 d<=8000):(Bx d).length<=sizeLine:=by
 have h1:=PyData.shown_le_bulk 1921 (by decide) (pyD d) (GR d h).2
 rw [K9 d h] at h1
 have e:sizeLine=16777216:=by decide
 unfold Bx
 rw [e]
 lia
section
variable {X:Cx} {pins:List (Addr × Obj)} {σ:St} {H:Hp} {s:Shared}
mutual
theorem Kl (I:Inv X pins σ H s):∀ (d:Dv) (x:V) (u:Value),Rep X.K H d x->RelV x u->∃ as,Reads s.heap u (pyD d) as
 | .non,x,u,h,r=>by unfold Rep at h;subst h;cases r;exact ⟨_,by rw [pyD];exact .none⟩
 | .bl b,x,u,h,r=>by unfold Rep at h;subst h;cases r;exact ⟨_,by rw [pyD];exact .bool b⟩
 | .int i,x,u,h,r=>by unfold Rep at h;subst h;obtain ⟨t,rfl⟩:=r;exact ⟨_,by rw [pyD];exact .int i t⟩
 | .str y,x,u,h,r=>by unfold Rep at h;subst h;obtain ⟨t,rfl⟩:=r;exact ⟨_,by rw [pyD];exact .str y t⟩
 | .tup ds,x,u,h,r=>by
  unfold Rep at h
  obtain ⟨a,xs,rfl,hs,hr⟩:=h
  cases r
  obtain ⟨its,rv,⟨o,h1,h2,n,h3⟩,_⟩:=I.tuple hs
  obtain ⟨as,ha⟩:=HS I ds xs its hr rv
  exact ⟨as,by rw [pyD];exact .tuple h1 h2 h3 ha⟩
 | .lst ds,x,u,h,r=>by
  unfold Rep at h
  obtain ⟨a,xs,rfl,hs,hr⟩:=h
  cases r
  obtain ⟨its,rv,p,_⟩:=I.list hs
  obtain ⟨o,h1,h2,n,h3⟩:=p.isList
  obtain ⟨as,ha⟩:=HS I ds xs its hr rv
  exact ⟨_,by rw [pyD];exact .list h1 h2 h3 ha⟩
theorem HS (I:Inv X pins σ H s):∀ (ds:List Dv) (xs:List V) (us:List Value),Reps X.K H ds xs->Vals xs us->∃ as,ReadsAll s.heap us (BE ds) as
 | [],xs,us,h,r=>by unfold Reps at h;subst h;cases r;exact ⟨_,by rw [BE];exact .nil⟩
 | d::ds,xs,us,h,r=>by
  unfold Reps at h
  obtain ⟨x,l,rfl,h1,h2⟩:=h
  cases r with
  | cons r1 r2 =>
  obtain ⟨as,ha⟩:=Kl I d x _ h1 r1
  obtain ⟨bs,hb⟩:=HS I ds l _ h2 r2
  exact ⟨_,by rw [BE];exact .cons ha hb⟩
end
end
noncomputable def FB (K:W.Frag):List V->Hp->VK->Prop:=fun xs H Q=>match xs with
 | [x]=>∃ d,Rep K H d x/\Ai d=true/\A5 d<=8000/\AY d<=60/\Q (.str (Bx d)) H
 | _=>False
section
variable {X:Cx} {K:W.Frag}
theorem MB (hg:X.A.guards=some []) (hu:X.A.units+62 < cLine):CallR X (.builtin "repr") (FB X.K):=by
 intro pins s σ H xs us Q I r q
 match xs,q with
 | [x],q =>
  obtain ⟨d,hd,hn,hb,hp,q⟩:=q
  cases r with
  | cons r1 r2 =>
  cases r2
  rename_i u
  have fits:=PF hn hb
  have shw:=(GR d hn).1
  have done:∀ (h':Heap) (t tk:Nat),(∀ b o,s.heap.get? b=some o->h'.get? b=some o)->EP X pins σ Q (.str (Bx d) t) { s with heap:=h',toks:=tk }:=fun h' t tk hk =>
   ⟨.str (Bx d),H,I.kept (t':=tk) hk,⟨t,rfl⟩,q⟩
  obtain ⟨as,hr⟩:=Kl I d x u hd r1
  cases hx:u with
  | ref a =>
   rw [hx] at hr
   refine PySem.repr_of_reads' hr shw (PyData.noDict_hsm (JP d)) hg ?_ (fun _ _ e=>e) (fun h' t tk hk=>done h' t tk hk) fits
   rw [Jq];lia
  | none =>
   rw [hx] at hr
   generalize hp:pyD d=p at hr
   cases hr
   have e:Bx d=("None" : Str):=by unfold Bx;rw [hp,PyData.shown_none]
   refine PySem.P.repr_of_none ?_
   rw [<- e];exact done s.heap _ _ (fun _ _ e=>e)
  | bool b =>
   rw [hx] at hr
   generalize hp:pyD d=p at hr
   cases hr
   have e:Bx d=((if b then "True" else "False" : Str)):=by unfold Bx;rw [hp,PyData.shown_bool]
   refine PySem.P.repr_of_bool ?_
   rw [<- e];exact done s.heap _ _ (fun _ _ e=>e)
  | int i t =>
   rw [hx] at hr
   generalize hp:pyD d=p at hr
   cases hr
   have e:Bx d=((toString i:String):Str):=by unfold Bx;rw [hp,PyData.shown_int]
   rw [hp] at shw
   refine PySem.P.repr_of_int (by simpa [PyData.showable] using shw) ?_
   rw [<- e];exact done s.heap _ _ (fun _ _ e=>e)
  | str y t =>
   rw [hx] at hr
   generalize hp:pyD d=p at hr
   cases hr
   cases d <;> simp [pyD,Ai] at hp hn
  | _=>rw [hx] at hr;cases hr
theorem CU {k:Nat} (hr:Room k X.A) (hK:X.K=K:=by rfl):CallR X (.builtin "repr") (FB K):=hK ▸ MB hr.gd (by have:=hr.un;lia)
end
theorem NC {K}:B8 (FB K):=fun xs H Q Q' h q=>by
 unfold FB at *
 split at q
 ·obtain ⟨d,a,b,c,e,q⟩:=q;exact ⟨d,a,b,c,e,h _ _ q⟩
 ·exact q.elim
theorem Fj {i:Int} (h:i.natAbs < 2 ^ 64):CT i=true:=by
 unfold CT
 rw [decide_eq_true_eq]
 by_cases h0:i.natAbs=0
 ·rw [h0];decide
 ·have:=(Nat.log2_lt h0).mpr h
  lia
open AutoSeq1 (wpAny_loadPart')
section
variable {prog:Program} {w:World} {A:Around} {E:Value->Shared->Prop} {s:Shared}
end
section
variable {X:Cx}
end
structure Feed (H:Hp) (t:Addr):Prop where
 at_:∃ a b k c:Int,0<=a/\H t=some (.lst [.int a,.int b,.int k,.int c])
theorem Feed.same {H H':Hp} {t:Addr} (F:Feed H t) (h:Same H H'):Feed H' t:=by
 obtain ⟨a,b,k,c,h1,h2⟩:=F.at_
 exact ⟨a,b,k,c,h1,h _ _ h2⟩
theorem Feed.upd {H:Hp} {t p:Addr} {o:HO} (F:Feed H t) (h:H p=none):Feed (L2.upd H p o) t:=F.same (Same.upd h)
theorem Feed.neT {H:Hp} {t p:Addr} (F:Feed H t) (hp:H p=none):p≠t:=fun e=>by
 obtain ⟨a,b,k,c,_,h3⟩:=F.at_
 rw [e,h3] at hp;cases hp
theorem Feed.free {H H':Hp} {t p:Addr} (F:Feed H' t) (h:Frm t H H') (hp:H' p=none):H p=none:=by
 cases e:H p with
 | none=>rfl
 | some o =>
  by_cases hpt:p=t
  ·subst hpt
   obtain ⟨a,b,k,c,_,h3⟩:=F.at_
   rw [h3] at hp;cases hp
  ·rw [h p o hpt e] at hp;cases hp
noncomputable def Eg:Sp:=fun vs H Q _=>match vs with
 | [.ref t,.int m]=>Feed H t/\okDiv m/\∀ d H',0<=d->d < m->Feed H' t->(∀ b,b≠t->H' b=H b)->Q (.int d) H'
 | _=>False
theorem QF:AK Eg:=fun vs H Q Q' E h q=>by
 unfold Eg at *
 split at q
 ·exact ⟨q.1,q.2.1,fun d H' a b c e=>h _ _ (q.2.2 d H' a b c e)⟩
 ·exact q.elim
noncomputable def G8 (K:W.Frag):Sp:=fun vs H Q _=>match vs with
 | [.ref a,.int k]=>∃ ns:List Int,SqL K H a (ns.map V.int)/\∀ p H',H p=none->Feed H' p->(∀ b,b≠p->H' b=H b)->Q (.ref p) H'
 | _=>False
theorem OE (a b:Nat):(a &&& b) / 2=a / 2 &&& b / 2:=by
 have:=Nat.and_div_two_pow (a:=a) (b:=b) (n:=1)
 simpa using this
theorem GL (a b:Nat):(a ^^^ b) / 2=a / 2 ^^^ b / 2:=by
 have:=Nat.xor_div_two_pow (a:=a) (b:=b) (n:=1)
 simpa using this
theorem FK (a b:Nat):(a &&& b) % 2=a % 2 * (b % 2)/\(a ^^^ b) % 2=(a % 2+b % 2) % 2/\(a ||| b) % 2=a % 2+b % 2 - a % 2 * (b % 2):=by
 have h1:=Nat.and_mod_two_pow (a:=a) (b:=b) (n:=1)
 have h2:=Nat.xor_mod_two_pow (a:=a) (b:=b) (n:=1)
 have h3:=Nat.or_mod_two_pow (a:=a) (b:=b) (n:=1)
 rw [Nat.pow_one] at h1 h2 h3
 rw [h1,h2,h3]
 have ha:a % 2=0\/a % 2=1:=by lia
 have hb:b % 2=0\/b % 2=1:=by lia
 rcases ha with ha | ha <;> rcases hb with hb | hb <;> rw [ha,hb] <;> decide
theorem CZ (a b:Nat):Builtin.bitAnd (a:Int) (b:Int)=((a &&& b:Nat):Int):=by
 unfold Builtin.bitAnd
 rw [decide_eq_true (Int.natCast_nonneg a),decide_eq_true (Int.natCast_nonneg b)]
 rfl
noncomputable def iL (xs:List Nat):List V:=xs.map fun i=>V.int (i:Nat)
noncomputable def iD (xs:List Nat):List Dv:=xs.map fun i=>Dv.int (i:Nat)
theorem Ak (xs:List Nat):(iL xs).length=xs.length:=by unfold iL;rw [List.length_map]
theorem CP (xs ys:List Nat):iL (xs++ys)=iL xs++iL ys:=by unfold iL;rw [List.map_append]
theorem CG {xs:List Nat} {i:Nat} {v:V} (h:(iL xs)[i]? = some v):∃ x,xs[i]? = some x/\x∈xs/\v=.int (x:Nat):=by
 unfold iL at h
 rw [List.getElem?_map] at h
 cases e:xs[i]? with
 | none=>rw [e] at h;cases h
 | some x=>rw [e] at h;exact ⟨x,rfl,List.mem_of_getElem? e,(Option.some.inj h).symm⟩
theorem Fz {K:W.Frag} {H:Hp}:∀ xs:List Nat,Reps K H (iD xs) (iL xs)
 | []=>by unfold iD iL Reps;rfl
 | x::xs=>by
  show Reps K H (Dv.int (x:Nat)::iD xs) (V.int (x:Nat)::iL xs)
  unfold Reps
  exact ⟨_,_,rfl,by unfold Rep;rfl,Fz xs⟩
theorem Kp {H0 H H':Hp} {t:Addr} (s:Same H0 H) (ht:H0 t=none) (f:∀ b,b≠t->H' b=H b):Same H0 H':=fun b o e=>by
 rw [f b (Bo e ht)];exact s b o e
theorem Cv {H0 H H':Hp} {t:Addr} (s:Same H0 H) (ht:H0 t=none) (f:Frm t H H'):Same H0 H':=fun b o e=>f b o (Bo e ht) (s b o e)
theorem E5 {H0 H:Hp} {t:Addr} {o:HO} (s:Same H0 H) (ht:H0 t=none):Same H0 (upd H t o):=fun b u e=>by
 rw [AX (Bo e ht)];exact s b u e
theorem Same.sqT {K:W.Frag} {H H':Hp} {a:Addr} {xs:List V} (e:Same H H') (h:SqT K H a xs):SqT K H' a xs:=IU h (fun o k=>e _ _ k)
theorem Same.sqL {K:W.Frag} {H H':Hp} {a:Addr} {xs:List V} (e:Same H H') (h:SqL K H a xs):SqL K H' a xs:=Iw h (fun o k=>e _ _ k)
theorem Fl {x:Str} (h:(true ^^ (x == x))=true):False:=by simp at h
noncomputable def sumTo (f:Nat->Int):Nat->Int
 | 0=>0
 | n+1=>sumTo f n+f n
theorem Ar {f g:Nat->Int}:∀ {n:Nat},(∀ j,j < n->f j=g j)->sumTo f n=sumTo g n
 | 0,_=>rfl
 | n+1,h=>by
  show sumTo f n+f n=sumTo g n+g n
  rw [Ar fun j hj=>h j (Nat.lt_succ_of_lt hj),h n (Nat.lt_succ_self n)]
theorem IK (f:Nat->Int) (a:Nat):∀ b,sumTo f (a+b)=sumTo f a+sumTo (fun j=>f (a+j)) b
 | 0=>by show sumTo f a=sumTo f a+0;lia
 | b+1=>by
  show sumTo f (a+b)+f (a+b)=sumTo f a+(sumTo (fun j=>f (a+j)) b+f (a+b))
  rw [IK f a b];lia
theorem E1 (f g:Nat->Int):∀ n,sumTo f n+sumTo g n=sumTo (fun j=>f j+g j) n
 | 0=>rfl
 | n+1=>by
  show sumTo f n+f n+(sumTo g n+g n)=sumTo (fun j=>f j+g j) n+(f n+g n)
  rw [<- E1 f g n];lia
theorem Kj (f g:Nat->Int):∀ n,sumTo f n - sumTo g n=sumTo (fun j=>f j - g j) n
 | 0=>rfl
 | n+1=>by
  show sumTo f n+f n - (sumTo g n+g n)=sumTo (fun j=>f j - g j) n+(f n - g n)
  rw [<- Kj f g n];lia
theorem Cu (c:Int) (f:Nat->Int):∀ n,c * sumTo f n=sumTo (fun j=>c * f j) n
 | 0=>by show c * 0=0;lia
 | n+1=>by
  show c * (sumTo f n+f n)=sumTo (fun j=>c * f j) n+c * f n
  rw [<- Cu c f n,Int.mul_add]
theorem KY (c:Int) (f:Nat->Int) (n:Nat):sumTo f n * c=sumTo (fun j=>f j * c) n:=by
 rw [Int.mul_comm,Cu]
 exact Ar fun j _=>Int.mul_comm _ _
theorem Gy:∀ n,sumTo (fun _=>0) n=0
 | 0=>rfl
 | n+1=>by show sumTo (fun _=>0) n+0=0;rw [Gy n];rfl
theorem K4 (c:Int):∀ n,sumTo (fun _=>c) n=n * c
 | 0=>by show (0:Int)=((0:Nat):Int) * c;simp
 | n+1=>by
  show sumTo (fun _=>c) n+c=_
  rw [K4 c n,Int.natCast_add,Int.add_mul];simp
theorem Hm (f:Nat->Nat->Int) (m:Nat):∀ n,sumTo (fun i=>sumTo (fun j=>f i j) m) n=sumTo (fun j=>sumTo (fun i=>f i j) n) m
 | 0=>by show (0:Int)=sumTo (fun _=>0) m;rw [Gy]
 | n+1=>by
  show sumTo (fun i=>sumTo (fun j=>f i j) m) n+sumTo (fun j=>f n j) m=sumTo (fun j=>sumTo (fun i=>f i j) n+f n j) m
  rw [Hm f m n,E1]
theorem Ep (g:Nat->Int) (x:Nat):∀ n,sumTo (fun y=>if x=y then g y else 0) n=if x < n then g x else 0
 | 0=>by simp [sumTo]
 | n+1=>by
  show sumTo (fun y=>if x=y then g y else 0) n+(if x=n then g n else 0)=_
  rw [Ep g x n]
  by_cases h:x=n
  ·subst h;rw [if_neg (by lia),if_pos rfl,if_pos (by lia)];lia
  ·by_cases h2:x < n
   ·rw [if_pos h2,if_neg h,if_pos (by lia)];lia
   ·rw [if_neg h2,if_neg h,if_neg (by lia)];rfl
theorem Fy (f:Nat->Int):∀ m,sumTo f (2 * m)=sumTo (fun j=>f (2 * j)+f (2 * j+1)) m
 | 0=>rfl
 | m+1=>by
  show sumTo f (2 * m)+f (2 * m)+f (2 * m+1)=sumTo (fun j=>f (2 * j)+f (2 * j+1)) m+(f (2 * m)+f (2 * m+1))
  rw [Fy f m];lia
noncomputable def chi:Nat->Nat->Nat->Int
 | 0,_,_=>1
 | n+1,a,b=>(if a % 2=1/\b % 2=1 then -1 else 1) * chi n (a / 2) (b / 2)
theorem GT:∀ n a b c,chi n a (b ^^^ c)=chi n a b * chi n a c
 | 0,_,_,_=>rfl
 | n+1,a,b,c=>by
  show _ * chi n (a / 2) ((b ^^^ c) / 2)=(_ * chi n (a / 2) (b / 2)) * (_ * chi n (a / 2) (c / 2))
  rw [GL,GT n]
  generalize chi n (a / 2) (b / 2)=x
  generalize chi n (a / 2) (c / 2)=y
  have e:=(FK b c).2.1
  have ha:a % 2=0\/a % 2=1:=by lia
  have hb:b % 2=0\/b % 2=1:=by lia
  have hc:c % 2=0\/c % 2=1:=by lia
  rw [e]
  rcases ha with ha | ha <;> rcases hb with hb | hb <;> rcases hc with hc | hc <;> rw [ha,hb,hc] <;> simp [Int.mul_neg,Int.neg_mul]
theorem chi_one:∀ n a b,chi n a b=1\/chi n a b = -1
 | 0,_,_=>.inl rfl
 | n+1,a,b=>by
  show _ * chi n (a / 2) (b / 2)=1\/_ * chi n (a / 2) (b / 2) = -1
  rcases chi_one n (a / 2) (b / 2) with h | h <;> rw [h] <;> by_cases g:a % 2=1/\b % 2=1 <;> simp [g]
theorem NX (n a b:Nat):chi n a b * chi n a b=1:=by
 rcases chi_one n a b with h | h <;> rw [h] <;> rfl
theorem IP:∀ n a,chi n a 0=1
 | 0,_=>rfl
 | n+1,a=>by
  show (if a % 2=1/\0 % 2=1 then -1 else 1) * chi n (a / 2) (0 / 2)=1
  rw [if_neg (by lia),Nat.zero_div,IP n];rfl
theorem JH:∀ n b,b < 2 ^ n->sumTo (fun a=>chi n a b) (2 ^ n)=if b=0 then ((2 ^ n:Nat):Int) else 0
 | 0,b,h=>by
  have:b=0:=by simpa using h
  subst this;rfl
 | n+1,b,h=>by
  rw [Nat.pow_succ,Nat.mul_comm,Fy]
  have e:∀ j,chi (n+1) (2 * j) b+chi (n+1) (2 * j+1) b=(if b % 2=1 then 0 else 2) * chi n j (b / 2):=fun j=>by
   show (if 2 * j % 2=1/\b % 2=1 then -1 else 1) * chi n (2 * j / 2) (b / 2)+(if (2 * j+1) % 2=1/\b % 2=1 then -1 else 1) * chi n ((2 * j+1) / 2) (b / 2)=_
   rw [show 2 * j / 2=j by lia,show (2 * j+1) / 2=j by lia,if_neg (by lia)]
   by_cases hb:b % 2=1
   ·rw [if_pos ⟨by lia,hb⟩,if_pos hb];lia
   ·rw [if_neg (fun z=>hb z.2),if_neg hb];lia
  rw [Ar (g:=fun j=>(if b % 2=1 then 0 else 2) * chi n j (b / 2)) fun j _=>e j,<- Cu,JH n (b / 2) (by rw [Nat.pow_succ] at h;lia)]
  by_cases hb:b % 2=1
  ·rw [if_pos hb,Int.zero_mul,if_neg (by lia)]
  ·rw [if_neg hb]
   by_cases h0:b=0
   ·subst h0;simp [Int.natCast_mul]
   ·rw [if_neg (by lia),if_neg h0];rfl
theorem xor_eq_zero {a b:Nat}:a ^^^ b=0 ↔ a=b:=by
 constructor
 ·intro h
  have:=congrArg (fun z=>z ^^^ b) h
  simpa [Nat.xor_assoc] using this
 ·intro h;subst h;exact Nat.xor_self a
noncomputable def wt (n:Nat) (v:Nat->Int) (s:Nat):Int:=sumTo (fun p=>chi n s p * v p) (2 ^ n)
theorem IC (n:Nat) (a b:Nat->Int):sumTo (fun s=>wt n a s * wt n b s) (2 ^ n)=((2 ^ n:Nat):Int) * sumTo (fun x=>a x * b x) (2 ^ n):=by
 have e1:∀ s,wt n a s * wt n b s=sumTo (fun x=>sumTo (fun y=>(a x * b y) * chi n s (x ^^^ y)) (2 ^ n)) (2 ^ n):=fun s=>by
  unfold wt
  rw [KY]
  refine Ar fun x _=>?_
  rw [Cu]
  refine Ar fun y _=>?_
  rw [GT]
  ac_rfl
 rw [Ar fun s _=>e1 s,Hm,Cu]
 refine Ar fun x hx=>?_
 rw [Hm]
 have e2:∀ y,y < 2 ^ n->sumTo (fun s=>a x * b y * chi n s (x ^^^ y)) (2 ^ n)=if x=y then ((2 ^ n:Nat):Int) * (a x * b y) else 0:=fun y hy=>by
  rw [<- Cu,JH n _ (Nat.xor_lt_two_pow hx hy)]
  by_cases h:x=y
  ·rw [if_pos (xor_eq_zero.mpr h),if_pos h,Int.mul_comm]
  ·rw [if_neg (fun z=>h (xor_eq_zero.mp z)),if_neg h,Int.mul_zero]
 rw [Ar e2,Ep (fun y=>((2 ^ n:Nat):Int) * (a x * b y)),if_pos hx]
theorem K0:∀ (n:Nat) (f:Nat->Int) (t:Nat),t < 2 ^ n->sumTo (fun x=>f (x ^^^ t)) (2 ^ n)=sumTo f (2 ^ n)
 | 0,f,t,h=>by
  have:t=0:=by simpa using h
  subst this
  exact Ar fun j _=>by rw [Nat.xor_zero]
 | n+1,f,t,h=>by
  rw [Nat.pow_succ,Nat.mul_comm,Fy,Fy]
  have ih:=K0 n (fun j=>f (2 * j)+f (2 * j+1)) (t / 2) (by rw [Nat.pow_succ] at h;lia)
  rw [<- ih]
  refine Ar fun j _=>?_
  have k1:=GL (2 * j) t
  have k2:=GL (2 * j+1) t
  have l1:=(FK (2 * j) t).2.1
  have l2:=(FK (2 * j+1) t).2.1
  rw [show 2 * j / 2=j by lia] at k1
  rw [show (2 * j+1) / 2=j by lia] at k2
  have ht:t % 2=0\/t % 2=1:=by lia
  rcases ht with ht | ht
  ·have e1:2 * j ^^^ t=2 * (j ^^^ t / 2):=by lia
   have e2:2 * j+1 ^^^ t=2 * (j ^^^ t / 2)+1:=by lia
   rw [e1,e2]
  ·have e1:2 * j ^^^ t=2 * (j ^^^ t / 2)+1:=by lia
   have e2:2 * j+1 ^^^ t=2 * (j ^^^ t / 2):=by lia
   rw [e1,e2,Int.add_comm]
theorem NI (n:Nat) (v:Nat->Int) (s t:Nat) (ht:t < 2 ^ n):chi n s t * wt n v s=wt n (fun x=>v (x ^^^ t)) s:=by
 unfold wt
 rw [<- K0 n (fun p=>chi n s p * v p) t ht,Cu]
 refine Ar fun x _=>?_
 rw [GT,<- Int.mul_assoc,Int.mul_comm (chi n s x),<- Int.mul_assoc,NX,Int.one_mul]
theorem LC (n:Nat) (v:Nat->Int) (t:Nat) (ht:t < 2 ^ n):sumTo (fun s=>chi n s t * (wt n v s * wt n v s)) (2 ^ n)=((2 ^ n:Nat):Int) * sumTo (fun x=>v (x ^^^ t) * v x) (2 ^ n):=by
 rw [<- IC n (fun x=>v (x ^^^ t)) v]
 refine Ar fun s _=>?_
 rw [<- Int.mul_assoc,NI n v s t ht]
theorem HQ:∀ {s b r c j:Nat},r < 2 ^ s->j < 2 ^ s->b < 2->c < 2->chi (s+1) (b * 2 ^ s+r) (c * 2 ^ s+j)=chi s r j * (if b=1/\c=1 then -1 else 1)
 | 0,b,r,c,j,hr,hj,hb,hc=>by
  have r0:r=0:=by simpa using hr
  have j0:j=0:=by simpa using hj
  subst r0 j0
  have eb:b=0\/b=1:=by lia
  have ec:c=0\/c=1:=by lia
  rcases eb with rfl | rfl <;> rcases ec with rfl | rfl <;> rfl
 | s+1,b,r,c,j,hr,hj,hb,hc=>by
  have d1:∀ x:Nat,x * 2 ^ (s+1)=2 * (x * 2 ^ s):=fun x=>by rw [Nat.pow_succ,Nat.mul_comm (2 ^ s),<- Nat.mul_assoc,Nat.mul_comm x 2,Nat.mul_assoc]
  have k1:(b * 2 ^ (s+1)+r) % 2=r % 2:=by rw [d1];lia
  have k2:(c * 2 ^ (s+1)+j) % 2=j % 2:=by rw [d1];lia
  have k3:(b * 2 ^ (s+1)+r) / 2=b * 2 ^ s+r / 2:=by rw [d1];lia
  have k4:(c * 2 ^ (s+1)+j) / 2=c * 2 ^ s+j / 2:=by rw [d1];lia
  have e1:chi (s+1+1) (b * 2 ^ (s+1)+r) (c * 2 ^ (s+1)+j)=(if r % 2=1/\j % 2=1 then -1 else 1) * chi (s+1) (b * 2 ^ s+r / 2) (c * 2 ^ s+j / 2):=by
   show (if (b * 2 ^ (s+1)+r) % 2=1/\(c * 2 ^ (s+1)+j) % 2=1 then -1 else 1) * chi (s+1) ((b * 2 ^ (s+1)+r) / 2) ((c * 2 ^ (s+1)+j) / 2)=_
   rw [k1,k2,k3,k4]
  rw [e1,HQ (s:=s) (by rw [Nat.pow_succ] at hr;lia) (by rw [Nat.pow_succ] at hj;lia) hb hc,<- Int.mul_assoc]
  rfl
noncomputable def B7 (v:Nat->Int) (s k:Nat):Int:=if k / s % 2=1 then v (k - s) - v k else v k+v (k+s)
noncomputable def Bc (v:Nat->Int):Nat->Nat->Int
 | 0=>v
 | s+1=>B7 (Bc v s) (2 ^ s)
noncomputable def hs (v:Nat->Int) (s k:Nat):Int:=sumTo (fun j=>chi s (k % 2 ^ s) j * v (k / 2 ^ s * 2 ^ s+j)) (2 ^ s)
theorem DX {v:Nat->Int} {s q r:Nat} (h:r < 2 ^ s):hs v s (q * 2 ^ s+r)=sumTo (fun j=>chi s r j * v (q * 2 ^ s+j)) (2 ^ s):=by
 unfold hs
 have e1:(q * 2 ^ s+r) % 2 ^ s=r:=by rw [Nat.mul_comm,Nat.mul_add_mod,Nat.mod_eq_of_lt h]
 have e2:(q * 2 ^ s+r) / 2 ^ s=q:=by rw [Nat.mul_comm,Nat.mul_add_div (Nat.two_pow_pos s),Nat.div_eq_of_lt h,Nat.add_zero]
 rw [e1,e2]
theorem Mr {v:Nat->Int} {s:Nat} (q b r:Nat) (hr:r < 2 ^ s) (hb:b < 2) :
 B7 (hs v s) (2 ^ s) (q * 2 ^ (s+1)+(b * 2 ^ s+r))=hs v (s+1) (q * 2 ^ (s+1)+(b * 2 ^ s+r)):=by
 have hB:2 ^ (s+1)=2 ^ s+2 ^ s:=by rw [Nat.pow_succ];lia
 have hrr:b * 2 ^ s+r < 2 ^ (s+1):=by
  rw [hB]
  have:b=0\/b=1:=by lia
  rcases this with e | e <;> subst e <;> lia
 rw [DX hrr,hB,IK]
 have low:∀ j,j < 2 ^ s->chi (s+1) (b * 2 ^ s+r) j=chi s r j:=fun j hj=>by
  have:=HQ (c:=0) hr hj hb (by decide)
  rw [Nat.zero_mul,Nat.zero_add,if_neg (by lia),Int.mul_one] at this
  exact this
 have high:∀ j,j < 2 ^ s->chi (s+1) (b * 2 ^ s+r) (2 ^ s+j)=chi s r j * (if b=1 then -1 else 1):=fun j hj=>by
  have:=HQ (c:=1) hr hj hb (by decide)
  rw [Nat.one_mul] at this
  rw [this]
  simp
 have e0:q * (2 ^ s+2 ^ s)+(b * 2 ^ s+r)=(2 * q+b) * 2 ^ s+r:=by
  rw [Nat.add_mul,Nat.mul_comm 2 q,Nat.mul_assoc,Nat.two_mul];lia
 have eq0:q * (2 ^ s+2 ^ s)=(2 * q) * 2 ^ s:=by rw [Nat.mul_comm 2 q,Nat.mul_assoc,Nat.two_mul]
 have eq1:q * (2 ^ s+2 ^ s)+2 ^ s=(2 * q+1) * 2 ^ s:=by rw [Nat.add_mul,Nat.one_mul,eq0]
 unfold B7
 rw [e0]
 have et:((2 * q+b) * 2 ^ s+r) / 2 ^ s % 2=b:=by
  rw [Nat.mul_comm,Nat.mul_add_div (Nat.two_pow_pos s),Nat.div_eq_of_lt hr];lia
 rw [et]
 have:b=0\/b=1:=by lia
 rcases this with e | e <;> subst e
 ·rw [if_neg (by decide)]
  have ek:(2 * q+0) * 2 ^ s+r+2 ^ s=(2 * q+1) * 2 ^ s+r:=by rw [Nat.add_zero,Nat.add_mul,Nat.one_mul];lia
  rw [ek,DX hr,DX hr]
  congr 1
  ·refine Ar fun j hj=>?_
   rw [low j hj,eq0];rfl
  ·refine Ar fun j hj=>?_
   show chi s r j * v ((2 * q+1) * 2 ^ s+j)=chi (s+1) (0 * 2 ^ s+r) (2 ^ s+j) * v (q * (2 ^ s+2 ^ s)+(2 ^ s+j))
   rw [high j hj,if_neg (by decide),Int.mul_one,<- Nat.add_assoc,eq1]
 ·rw [if_pos rfl]
  have ek:(2 * q+1) * 2 ^ s+r - 2 ^ s=(2 * q) * 2 ^ s+r:=by rw [Nat.add_mul,Nat.one_mul];lia
  rw [ek,DX hr,DX hr,Int.sub_eq_add_neg]
  congr 1
  ·refine Ar fun j hj=>?_
   rw [low j hj,eq0]
  ·have neg:∀ (f:Nat->Int) n,- sumTo f n=sumTo (fun j=>- f j) n:=fun f n=>by
    induction n with
    | zero=>rfl
    | succ n ih=>show -(sumTo f n+f n)=sumTo (fun j=>- f j) n + - f n;rw [<- ih];lia
   rw [neg]
   refine Ar fun j hj=>?_
   show -(chi s r j * v ((2 * q+1) * 2 ^ s+j))=chi (s+1) (1 * 2 ^ s+r) (2 ^ s+j) * v (q * (2 ^ s+2 ^ s)+(2 ^ s+j))
   rw [high j hj,if_pos rfl,<- Nat.add_assoc,eq1,Int.mul_neg,Int.mul_one,Int.neg_mul]
theorem LV (s k:Nat):∃ q b r,k=q * 2 ^ (s+1)+(b * 2 ^ s+r)/\r < 2 ^ s/\b < 2:=by
 refine ⟨k / 2 ^ s / 2,k / 2 ^ s % 2,k % 2 ^ s,?_,Nat.mod_lt _ (Nat.two_pow_pos s),Nat.mod_lt _ (by decide)⟩
 have h1:=Nat.div_add_mod k (2 ^ s)
 have h2:=Nat.div_add_mod (k / 2 ^ s) 2
 rw [Nat.pow_succ]
 generalize k % 2 ^ s=r at *
 generalize hd:k / 2 ^ s=d at *
 rw [<- Nat.add_assoc,Nat.mul_comm (2 ^ s) 2,<- Nat.mul_assoc,<- Nat.add_mul,Nat.mul_comm (d / 2) 2,h2,Nat.mul_comm]
 exact h1.symm
theorem Ih (v:Nat->Int):∀ s k,Bc v s k=hs v s k
 | 0,k=>by
  show v k=sumTo (fun j=>chi 0 (k % 2 ^ 0) j * v (k / 2 ^ 0 * 2 ^ 0+j)) 1
  show v k=0+chi 0 (k % 2 ^ 0) 0 * v (k / 2 ^ 0 * 2 ^ 0+0)
  have:chi 0 (k % 2 ^ 0) 0=1:=rfl
  rw [this,Int.one_mul,Int.zero_add]
  simp
 | s+1,k=>by
  have e:Bc v s=hs v s:=funext fun k=>Ih v s k
  show B7 (Bc v s) (2 ^ s) k=_
  rw [e]
  obtain ⟨q,b,r,rfl,hr,hb⟩:=LV s k
  exact Mr q b r hr hb
theorem O0 {v:Nat->Int} {m k:Nat} (h:k < 2 ^ m):Bc v m k=sumTo (fun j=>chi m k j * v j) (2 ^ m):=by
 rw [Ih]
 have:=DX (v:=v) (s:=m) (q:=0) h
 rw [Nat.zero_mul,Nat.zero_add] at this
 rw [this]
 refine Ar fun j _=>?_
 rw [Nat.zero_add]
theorem M4 {v:Nat->Int} {m k:Nat} (h:k < 2 ^ m):Bc v m k=wt m v k:=O0 h
noncomputable def manyF:Nat->Nat->Nat
 | 0,_=>0
 | f+1,x=>x % 2+manyF f (x / 2)
@[irreducible] noncomputable def Bj (x:Nat):Nat:=manyF 64 x
theorem DN:∀ f,manyF f 0=0
 | 0=>rfl
 | f+1=>by
  show 0 % 2+manyF f (0 / 2)=0
  rw [Nat.zero_div,DN f]
theorem IR:∀ (f g x:Nat),x < 2 ^ f->f<=g->manyF g x=manyF f x
 | 0,g,x,h,_=>by
  have:x=0:=by simpa using h
  subst this
  rw [DN,DN]
 | f+1,0,x,_,h=>by lia
 | f+1,g+1,x,h,hg=>by
  show x % 2+manyF g (x / 2)=x % 2+manyF f (x / 2)
  rw [IR f g (x / 2) (by rw [Nat.pow_succ] at h;lia) (by lia)]
theorem Cw {n x:Nat} (h:x < 2 ^ n) (hn:n<=64):Bj x=manyF n x:=by
 unfold Bj
 exact IR n 64 x h hn
theorem Co:∀ n x,manyF n x<=n
 | 0,_=>Nat.le_refl _
 | n+1,x=>by
  show x % 2+manyF n (x / 2)<=n+1
  have:=Co n (x / 2)
  lia
theorem Jc:∀ n a b,chi n a b=if manyF n (a &&& b) % 2=1 then -1 else 1
 | 0,_,_=>rfl
 | n+1,a,b=>by
  show (if a % 2=1/\b % 2=1 then -1 else 1) * chi n (a / 2) (b / 2)=if ((a &&& b) % 2+manyF n ((a &&& b) / 2)) % 2=1 then -1 else 1
  rw [Jc n,OE,(FK a b).1]
  generalize manyF n (a / 2 &&& b / 2)=k
  have ha:a % 2=0\/a % 2=1:=by lia
  have hb:b % 2=0\/b % 2=1:=by lia
  have hk:k % 2=0\/k % 2=1:=by lia
  rcases ha with ha | ha <;> rcases hb with hb | hb <;> rcases hk with hk | hk <;> rw [ha,hb] <;> simp [hk,Nat.add_mod]
theorem G4 {n a b:Nat} (h:a < 2 ^ n) (hn:n<=64):chi n a b=if Bj (a &&& b) % 2=1 then -1 else 1:=by
 rw [Cw (Nat.lt_of_le_of_lt Nat.and_le_left h) hn,Jc]
noncomputable def ixL (g:Nat->Int) (M:Nat):List V:=(List.range M).map fun i=>V.int (g i)
theorem ixL_len {g:Nat->Int} {M:Nat}:(ixL g M).length=M:=by unfold ixL;simp
theorem E4 {g:Nat->Int} {M k:Nat} (h:k < M):(ixL g M)[k]? = some (.int (g k)):=by unfold ixL;rw [List.getElem?_map,List.getElem?_range h];rfl
theorem B5 {g:Nat->Int} {M k:Nat} (h:k < M):atI (ixL g M) (k:Int)=some (.int (g k)):=Dh rfl (E4 h)
theorem Es (g:Nat->Int) (M:Nat):ixL g (M+1)=ixL g M++[V.int (g M)]:=by unfold ixL;rw [List.range_succ,List.map_append];rfl
theorem Ci {f g:Nat->Int} {M:Nat} (h:∀ k,k < M->f k=g k):ixL f M=ixL g M:=by
 unfold ixL
 exact List.map_congr_left fun k hk=>by rw [h k (List.mem_range.mp hk)]
theorem Ev {g:Nat->Int} {M i:Nat} {z:Int}:(ixL g M).set i (.int z)=ixL (fun k=>if k=i then z else g k) M:=by
 refine List.ext_getElem? fun k=>?_
 rw [List.getElem?_set,ixL_len]
 by_cases hk:k < M
 ·rw [E4 hk]
  by_cases e:i=k
  ·subst e;rw [if_pos rfl,if_pos hk,E4 hk,if_pos rfl]
  ·rw [if_neg e,E4 hk,if_neg (Ne.symm e)]
 ·have n1:(ixL g M)[k]? = none:=List.getElem?_eq_none (by rw [ixL_len];lia)
  have n2:(ixL (fun k=>if k=i then z else g k) M)[k]? = none:=List.getElem?_eq_none (by rw [ixL_len];lia)
  rw [n1,n2]
  split
  ·split
   ·lia
   ·rfl
  ·rfl
noncomputable def Dd (b:Bool):Int:=if b=true then -1 else 1
noncomputable def AM (bs:List Bool) (p:Nat):Int:=Dd (bs.getD p false)
noncomputable def Ah (g:Nat->Int):Nat->List (Nat × Int)
 | 0=>[]
 | i+1=>Ah g i++(if g i=0 then [] else [(i,g i)])
theorem Iv (g:Nat->Int):∀ n,(Ah g n).length<=n
 | 0=>Nat.le_refl _
 | n+1=>by
  unfold Ah
  rw [List.length_append]
  have:=Iv g n
  split
  ·rw [List.length_nil];lia
  ·rw [List.length_singleton];lia
theorem HL {g:Nat->Int}:∀ {n:Nat} {q:Nat × Int},q∈Ah g n->q.1 < n/\q.2=g q.1/\q.2≠0
 | 0,q,h=>by cases h
 | n+1,q,h=>by
  rcases List.mem_append.mp h with h | h
  ·have:=HL h;exact ⟨by lia,this.2⟩
  ·split at h
   ·cases h
   ·rename_i hn
    rw [List.mem_singleton.mp h]
    exact ⟨Nat.lt_succ_self n,rfl,hn⟩
noncomputable def A8 (q:Nat × Int):Dv:=.tup [.int q.1,.int q.2]
noncomputable def BY (m:Nat) (ts:List (Nat × Int)):Dv:=.tup [.int m,.tup (ts.map A8)]
noncomputable def Am (f:Nat->Int->Int):List (Nat × Int)->Int
 | []=>0
 | q::ts=>f q.1 q.2+Am f ts
theorem Jk (f:Nat->Int->Int):∀ xs ys,Am f (xs++ys)=Am f xs+Am f ys
 | [],ys=>by show Am f ys=0+Am f ys;lia
 | x::xs,ys=>by
  show f x.1 x.2+Am f (xs++ys)=f x.1 x.2+Am f xs+Am f ys
  rw [Jk f xs ys];lia
structure SumAt (K:W.Frag) (H:Hp) (v:V) (m:Nat) (ts:List (Nat × Int)):Prop where
 at_:∃ (a b:Addr) (vs:List V),v=.ref a/\SqT K H a [.int m,.ref b]/\SqT K H b vs/\Reps K H (ts.map A8) vs
theorem SumAt.of {K:W.Frag} {H:Hp} {v:V} {m:Nat} {ts:List (Nat × Int)} (h:Rep K H (BY m ts) v):SumAt K H v m ts:=by
 unfold BY Rep at h
 obtain ⟨a,xs,rfl,ha,hr⟩:=h
 unfold Reps at hr
 obtain ⟨x,r,rfl,h1,hr⟩:=hr
 unfold Rep at h1;subst h1
 unfold Reps at hr
 obtain ⟨x,r,rfl,h2,hr⟩:=hr
 unfold Reps at hr;subst hr
 unfold Rep at h2
 obtain ⟨b,vs,rfl,hb,hr⟩:=h2
 exact ⟨a,b,vs,rfl,ha,hb,hr⟩
theorem SumAt.rep {K:W.Frag} {H:Hp} {v:V} {m:Nat} {ts:List (Nat × Int)} (h:SumAt K H v m ts):Rep K H (BY m ts) v:=by
 obtain ⟨a,b,vs,rfl,ha,hb,hr⟩:=h.at_
 unfold BY Rep
 refine ⟨a,_,rfl,ha,Ae BK (Ae ?_ At)⟩
 unfold Rep
 exact ⟨b,vs,rfl,hb,hr⟩
theorem SumAt.same {K:W.Frag} {H H':Hp} {v:V} {m:Nat} {ts:List (Nat × Int)} (h:SumAt K H v m ts) (s:Same H H'):SumAt K H' v m ts:=.of (Rep.same s _ _ h.rep)
theorem BU {K:W.Frag} {H:Hp} {ts:List (Nat × Int)} {vs:List V} {i:Nat} {v:V} (h:Reps K H (ts.map A8) vs) (e:vs[i]? = some v):∃ q c,ts[i]? = some q/\v=.ref c/\SqT K H c [.int q.1,.int q.2]:=by
 have hl:=h.length
 have hi:i < ts.length:=by
  have:=(List.getElem?_eq_some_iff.mp e).1
  rw [List.length_map] at hl;lia
 have e1:(ts.map A8)[i]? = some (A8 ts[i]):=by rw [List.getElem?_map,List.getElem?_eq_getElem hi];rfl
 obtain ⟨x,e2,hx⟩:=h.get e1
 rw [e] at e2
 cases e2
 unfold A8 Rep at hx
 obtain ⟨c,xs,rfl,hc,hr⟩:=hx
 unfold Reps at hr
 obtain ⟨x,r,rfl,h1,hr⟩:=hr
 unfold Rep at h1;subst h1
 unfold Reps at hr
 obtain ⟨x,r,rfl,h2,hr⟩:=hr
 unfold Rep at h2;subst h2
 unfold Reps at hr;subst hr
 exact ⟨ts[i],c,List.getElem?_eq_getElem hi,rfl,hc⟩
noncomputable def shT (a b:Int):Int:=a / (a.gcd b:Int)
noncomputable def shB (a b:Int):Int:=b / (a.gcd b:Int)
noncomputable def shD (a b:Int):Dv:=.tup [.int (shT a b),.int (shB a b)]
theorem Ke {x y:Int} (hx:0<=x) (hy:0<=y):Int.gcd y (x % y)=Int.gcd y x:=by
 unfold Int.gcd
 rw [Int.natAbs_emod_of_nonneg hx,Nat.gcd_comm,<- Nat.gcd_rec]
theorem FO {a b:Int} {N:Nat} (ha:a.natAbs < N) (hb:b.natAbs < N) (h0:0 < b):(shT a b).natAbs < N/\(shB a b).natAbs < N/\0 < (a.gcd b:Int)/\(a.gcd b:Int)<=b:=by
 have hg:0 < a.gcd b:=Int.gcd_pos_of_ne_zero_right a (by lia)
 have hle:(a.gcd b:Int)<=b:=Int.le_of_dvd h0 (Int.gcd_dvd_right ..)
 have k:∀ z:Int,(z / (a.gcd b:Int)).natAbs<=z.natAbs:=fun z=>Int.natAbs_ediv_le_natAbs z _
 exact ⟨Nat.lt_of_le_of_lt (k a) ha,Nat.lt_of_le_of_lt (k b) hb,by lia,hle⟩
noncomputable def Dg:Sp:=fun vs H Q _=>match vs with
 | [.int a,.int b]=>0<=a/\0<=b/\Q (.int (Int.gcd a b)) H
 | _=>False
theorem LZ:AK Dg:=fun vs H Q Q' E h q=>by
 unfold Dg at *
 split at q
 ·exact ⟨q.1,q.2.1,h _ _ q.2.2⟩
 ·exact q.elim
noncomputable def Bk:Sp:=fun vs H Q _=>match vs with
 | [.int a,.int b]=>0 < b/\a.natAbs < 2 ^ 1000/\b.natAbs < 2 ^ 1000/\∀ p,H p=none->Q (.ref p) (upd H p (.tup [.int (shT a b),.int (shB a b)]))
 | _=>False
theorem FU:AK Bk:=fun vs H Q Q' E h q=>by
 unfold Bk at *
 split at q
 ·exact ⟨q.1,q.2.1,q.2.2.1,fun p hp=>h _ _ (q.2.2.2 p hp)⟩
 ·exact q.elim
theorem B0 {K:W.Frag} {H:Hp} {p:Addr} {a b:Int} (h:H p=some (.tup [.int (shT a b),.int (shB a b)])):Rep K H (shD a b) (.ref p):=BJ h (Ae BK (Ae BK At))
theorem Kg {i:Int} (h:i.natAbs < 2 ^ 1000):CT i=true:=by
 unfold CT
 rw [decide_eq_true_eq]
 by_cases h0:i.natAbs=0
 ·rw [h0];decide
 ·have:=(Nat.log2_lt h0).mpr h
  lia
theorem GK {a b:Int} (ha:a.natAbs < 2 ^ 1000) (hb:b.natAbs < 2 ^ 1000) (h0:0 < b):Ai (shD a b)=true:=by
 obtain ⟨h1,h2,_⟩:=FO ha hb h0
 unfold shD Ai A7 Ai A7 Ai A7
 rw [Kg h1,Kg h2]
 rfl
theorem Kr {a b:Int}:A5 (shD a b)=2:=by
 unfold shD A5 BO A5 BO A5 BO
 rfl
theorem Jv {a b:Int}:AY (shD a b)=1:=by
 unfold shD AY A6 AY A6 AY A6
 rfl
noncomputable def BF (st i:Nat):Nat:=if i / st % 2=1 then i - st else i
noncomputable def BL (f:Nat->Int) (st P i:Nat):Int:=if BF st i < P then B7 f st i else f i
theorem FW {p st:Nat} (h:0 < st):(p+st) / st=p / st+1:=by rw [Nat.add_div_right _ h]
theorem Pn {i st:Nat} (h:0 < st) (hi:st<=i):(i - st) / st=i / st - 1:=by
 have:=FW (p:=i - st) h
 rw [Nat.sub_add_cancel hi] at this
 generalize (i - st) / st=x at *
 lia
theorem Mc {st i:Nat} (h:0 < st):BF st i / st % 2=0:=by
 unfold BF
 by_cases e:i / st % 2=1
 ·rw [if_pos e]
  have hi:st<=i:=by
   rcases Nat.lt_or_ge i st with z | z
   ·rw [Nat.div_eq_of_lt z] at e;cases e
   ·exact z
  rw [Pn h hi];lia
 ·rw [if_neg e];lia
theorem QU (f:Nat->Int) (st i:Nat):BL f st 0 i=f i:=by unfold BL;rw [if_neg (Nat.not_lt_zero _)]
theorem My {f:Nat->Int} {st p:Nat} (h:0 < st) (hp:¬ p / st % 2=0) (i:Nat):BL f st (p+1) i=BL f st p i:=by
 unfold BL
 have ne:BF st i≠p:=fun e=>hp (e ▸ Mc h)
 by_cases hl:BF st i < p
 ·rw [if_pos hl,if_pos (by lia)]
 ·rw [if_neg hl,if_neg (by lia)]
theorem NP {f:Nat->Int} {st p:Nat} (h:0 < st) (hp:p / st % 2=0):BL f st p p=f p/\BL f st p (p+st)=f (p+st):=by
 have l1:BF st p=p:=by unfold BF;rw [if_neg (by lia)]
 have l2:BF st (p+st)=p:=by unfold BF;rw [FW h,if_pos (by lia)];lia
 unfold BL
 rw [l1,l2,if_neg (Nat.lt_irrefl _),if_neg (Nat.lt_irrefl _)]
 exact ⟨rfl,rfl⟩
theorem Ox {f:Nat->Int} {st p:Nat} (h:0 < st) (hp:p / st % 2=0) (i:Nat) :
 BL f st (p+1) i=if i=p+st then f p - f (p+st) else if i=p then f p+f (p+st) else BL f st p i:=by
 have l1:BF st p=p:=by unfold BF;rw [if_neg (by lia)]
 have l2:BF st (p+st)=p:=by unfold BF;rw [FW h,if_pos (by lia)];lia
 by_cases e1:i=p+st
 ·subst e1
  rw [if_pos rfl]
  unfold BL B7
  rw [l2,if_pos (Nat.lt_succ_self p),FW h,if_pos (by lia),Nat.add_sub_cancel]
 ·rw [if_neg e1]
  by_cases e2:i=p
  ·subst e2
   rw [if_pos rfl]
   unfold BL B7
   rw [l1,if_pos (Nat.lt_succ_self i),if_neg (by lia)]
  ·rw [if_neg e2]
   unfold BL
   have ne:BF st i≠p:=fun e=>by
    unfold BF at e
    by_cases o:i / st % 2=1
    ·rw [if_pos o] at e
     have hi:st<=i:=by
      rcases Nat.lt_or_ge i st with z | z
      ·rw [Nat.div_eq_of_lt z] at o;cases o
      ·exact z
     lia
    ·rw [if_neg o] at e;exact e2 e
   by_cases hl:BF st i < p
   ·rw [if_pos hl,if_pos (by lia)]
   ·rw [if_neg hl,if_neg (by lia)]
theorem Nh {f:Nat->Int} {st M i:Nat} (hi:i < M):BL f st M i=B7 f st i:=by
 unfold BL
 have:BF st i<=i:=by unfold BF;split <;> lia
 rw [if_pos (by lia)]
theorem Ql:∀ m < 7,∀ s < m,∀ k < 2 ^ m,k / 2 ^ s % 2≠1->k+2 ^ s < 2 ^ m:=by decide +kernel
theorem Lk {bs:List Bool} {i:Nat} (h:i < bs.length):AM bs i=Dd bs[i]:=by
 unfold AM
 rw [List.getD_eq_getElem?_getD,List.getElem?_eq_getElem h]
 rfl
noncomputable def Cr (K:W.Frag):Sp:=fun vs H Q _=>match vs with
 | [.ref p]=>∃ (m:Nat) (bs:List Bool),1<=m/\m<=6/\bs.length=2 ^ m/\SqT K H p (bs.map V.bl)/\∀ v H',Same H H'->SumAt K H' v m (Ah (wt m (AM bs)) (2 ^ m))->Q v H'
 | _=>False
theorem Is {K:W.Frag}:AK (Cr K):=fun vs H Q Q' E h q=>by
 unfold Cr at *
 split at q
 ·obtain ⟨m,bs,h1,h2,h3,h4,q⟩:=q;exact ⟨m,bs,h1,h2,h3,h4,fun v H' x1 x2=>h _ _ (q v H' x1 x2)⟩
 ·exact q.elim
noncomputable def gB (bs:List Bool) (i:Nat):Bool:=bs.getD i false
noncomputable def Cs (bs:List Bool) (s i:Nat):Bool:=gB bs (i ^^^ s) != gB bs i
noncomputable def B4 (bs:List Bool) (s n:Nat):List Nat:=(List.range n).filter (Cs bs s)
theorem Hw (bs:List Bool) (s n:Nat):B4 bs s (n+1)=B4 bs s n++(if Cs bs s n=true then [n] else []):=by
 unfold B4
 rw [List.range_succ,List.filter_append]
 congr 1
 by_cases h:Cs bs s n=true
 ·rw [if_pos h,List.filter_cons_of_pos h];rfl
 ·rw [if_neg h,List.filter_cons_of_neg h];rfl
theorem Mn (bs:List Bool) (s i:Nat):AM bs (i ^^^ s) * AM bs i=1 - 2 * (if Cs bs s i=true then 1 else 0):=by
 unfold AM Cs gB Dd
 cases bs.getD (i ^^^ s) false <;> cases bs.getD i false <;> decide
theorem K2 (bs:List Bool) (s:Nat):∀ n,sumTo (fun i=>AM bs (i ^^^ s) * AM bs i) n=(n:Int) - 2 * ((B4 bs s n).length:Int)
 | 0=>rfl
 | n+1=>by
  show sumTo _ n+AM bs (n ^^^ s) * AM bs n=_
  rw [K2 bs s n,Mn,Hw,List.length_append]
  by_cases h:Cs bs s n=true
  ·rw [if_pos h,if_pos h,List.length_singleton];lia
  ·rw [if_neg h,if_neg h,List.length_nil];lia
theorem J2 (bs:List Bool):∀ n,B4 bs 0 n=[]
 | 0=>rfl
 | n+1=>by
  rw [Hw,J2 bs n,if_neg]
  ·rfl
  ·unfold Cs;rw [Nat.xor_zero];simp
noncomputable def FN (m:Nat) (g:Nat->Int) (t:Nat):Int:=sumTo (fun s=>if chi m s t = -1 then g s * g s else 0) (2 ^ m)
theorem RU (m:Nat) (bs:List Bool) (t:Nat) (ht:t < 2 ^ m):FN m (wt m (AM bs)) t=((2 ^ m:Nat):Int) * ((B4 bs t (2 ^ m)).length:Int):=by
 have a1:=LC m (AM bs) t ht
 have a0:=LC m (AM bs) 0 (Nat.two_pow_pos m)
 rw [K2] at a1 a0
 rw [J2] at a0
 have e:∀ s,(if chi m s t = -1 then wt m (AM bs) s * wt m (AM bs) s else 0) * 2=chi m s 0 * (wt m (AM bs) s * wt m (AM bs) s) - chi m s t * (wt m (AM bs) s * wt m (AM bs) s):=fun s=>by
  rw [IP]
  rcases chi_one m s t with h | h
  ·rw [h,if_neg (by decide)];lia
  ·rw [h,if_pos rfl];lia
 have k:FN m (wt m (AM bs)) t * 2=((2 ^ m:Nat):Int) * (((2 ^ m:Nat):Int) - 2 * (([]:List Nat).length:Int)) - ((2 ^ m:Nat):Int) * (((2 ^ m:Nat):Int) - 2 * ((B4 bs t (2 ^ m)).length:Int)):=by
  unfold FN
  rw [KY,Ar fun s _=>e s,<- Kj,a0,a1]
 have z:((([]:List Nat).length:Nat):Int)=0:=rfl
 rw [z,Int.mul_zero,Int.sub_zero,Int.mul_sub] at k
 have k2:((2 ^ m:Nat):Int) * (2 * ((B4 bs t (2 ^ m)).length:Int))=2 * (((2 ^ m:Nat):Int) * ((B4 bs t (2 ^ m)).length:Int)):=by ac_rfl
 rw [k2] at k
 generalize ((2 ^ m:Nat):Int) * ((B4 bs t (2 ^ m)).length:Int)=y at *
 generalize ((2 ^ m:Nat):Int) * ((2 ^ m:Nat):Int)=u at *
 generalize FN m (wt m (AM bs)) t=x at *
 lia
theorem Ka {f:Nat->Int}:∀ {n:Nat},(∀ j,j < n->f j=1\/f j = -1) -> -(n:Int)<=sumTo f n/\sumTo f n<=n
 | 0,_=>⟨Int.le_refl _,Int.le_refl _⟩
 | n+1,h=>by
  have i:=Ka fun j hj=>h j (Nat.lt_succ_of_lt hj)
  show -((n+1:Nat):Int)<=sumTo f n+f n/\sumTo f n+f n<=((n+1:Nat):Int)
  rcases h n (Nat.lt_succ_self n) with e | e <;> rw [e] <;> lia
theorem O1 (m:Nat) (bs:List Bool) (s:Nat) : -((2 ^ m:Nat):Int)<=wt m (AM bs) s/\wt m (AM bs) s<=((2 ^ m:Nat):Int):=by
 unfold wt
 refine Ka fun j _=>?_
 rcases chi_one m s j with h | h <;> rw [h] <;> unfold AM Dd <;> cases bs.getD j false <;> decide
noncomputable def O5 (g:Nat->Int):Prop:=∀ k,-64<=g k/\g k<=64
theorem Js {m:Nat} (m6:m<=6) (bs:List Bool):O5 (wt m (AM bs)):=fun k=>by
 have:=O1 m bs k
 have h64:2 ^ m<=64:=Nat.pow_le_pow_right (n:=2) (by decide) m6
 lia
theorem K1 {a b:Int} (ha : -64<=a/\a<=64):okMul a b:=.inr (.inl ⟨by lia,by lia⟩)
theorem L0 {a:Int} (h : -64<=a/\a<=64):0<=a * a/\a * a<=4096:=by
 have h1:a * a=((a.natAbs * a.natAbs:Nat):Int):=by rw [Int.natCast_mul,Int.natAbs_mul_self' a]
 have h2:a.natAbs<=64:=by lia
 have h3:a.natAbs * a.natAbs<=64 * 64:=Nat.mul_le_mul h2 h2
 lia
noncomputable def BH (f:Nat->Int->List Int):List (Nat × Int)->List Int
 | []=>[]
 | q::ts=>f q.1 q.2++BH f ts
theorem JJ (f:Nat->Int->List Int):∀ xs ys,BH f (xs++ys)=BH f xs++BH f ys
 | [],ys=>rfl
 | x::xs,ys=>by
  show f x.1 x.2++BH f (xs++ys)=f x.1 x.2++BH f xs++BH f ys
  rw [JJ f xs ys,List.append_assoc]
theorem C5 {f:Nat->Int->List Int} {ts:List (Nat × Int)} {i:Nat} {q:Nat × Int} (h:ts[i]? = some q):BH f (ts.take (i+1))=BH f (ts.take i)++f q.1 q.2:=by
 rw [List.take_add_one,h,JJ]
 show _++(f q.1 q.2++[])=_
 rw [List.append_nil]
theorem Ek (f:Nat->Int->List Int):∀ ts,(BH f ts).sum=Am (fun k w=>(f k w).sum) ts
 | []=>rfl
 | q::ts=>by
  show (f q.1 q.2++BH f ts).sum=_
  rw [List.sum_append,Ek f ts]
  rfl
theorem Ea {f:Nat->Int->List Int} (h:∀ k w,(f k w).length<=1):∀ ts,(BH f ts).length<=ts.length
 | []=>Nat.le_refl _
 | q::ts=>by
  show (f q.1 q.2++BH f ts).length<=ts.length+1
  rw [List.length_append]
  have:=h q.1 q.2
  have:=Ea h ts
  lia
theorem IW:∀ ts:List (Nat × Int),Bp (ts.map A8)=true
 | []=>by unfold Bp;rfl
 | q::ts=>by
  rw [List.map_cons]
  unfold Bp
  rw [IW ts]
  unfold A8 Ce Bp Ce Bp Ce Bp
  rfl
theorem Feed.lst {H:Hp} {t:Addr} (F:Feed H t):∃ zs,H t=some (.lst zs):=by
 obtain ⟨a,b,k,c,_,h⟩:=F.at_
 exact ⟨_,h⟩
theorem SumAt.frm {K:W.Frag} {H H':Hp} {t:Addr} {v:V} {m:Nat} {ts:List (Nat × Int)} (S:SumAt K H v m ts) (F:Feed H t) (f:Frm t H H'):SumAt K H' v m ts:=by
 refine .of (Rep.frm f F.lst _ _ ?_ S.rep)
 have e:=IW ts
 simp [BY,Ce,Bp,e]
section
variable {X:Cx} {K:W.Frag}
end
noncomputable def lvT (m:Nat) (ts:List (Nat × Int)) (j:Nat):Int:=Am (fun s w=>if manyF m s=j then w * w else 0) ts
theorem Q1 {m:Nat} {ts:List (Nat × Int)} {i:Nat} {q:Nat × Int} (h:ts[i]? = some q) (j:Nat):lvT m (ts.take (i+1)) j=if j=manyF m q.1 then lvT m (ts.take i) j+q.2 * q.2 else lvT m (ts.take i) j:=by
 unfold lvT
 rw [List.take_add_one,h,Jk]
 show Am _ _+((if manyF m q.1=j then q.2 * q.2 else 0)+0)=_
 by_cases e:j=manyF m q.1
 ·rw [if_pos e,if_pos e.symm,Int.add_zero]
 ·rw [if_neg e,if_neg (Ne.symm e)];lia
noncomputable def Nb (x:Int) (k:Nat):Prop:=x.natAbs < 2 ^ k
theorem Nb.mul {x y:Int} {a b:Nat} (hx:Nb x a) (hy:Nb y b):Nb (x * y) (a+b):=by
 unfold Nb at *
 rw [Int.natAbs_mul,Nat.pow_add]
 exact Nat.mul_lt_mul'' hx hy
theorem Nb.up {x:Int} {a b:Nat} (hx:Nb x a) (h:a<=b):Nb x b:=Nat.lt_of_lt_of_le hx (Nat.pow_le_pow_right (by decide) h)
theorem Nb.pow {x:Int} {a:Nat} (hx:Nb x a):∀ i,Nb (x ^ i) (a * i+1)
 | 0=>by unfold Nb;rw [Int.pow_zero];show 1 < 2 ^ (a * 0+1);rw [Nat.mul_zero];decide
 | i+1=>by
  rw [Int.pow_succ]
  have:=(hx.pow i).mul hx
  rw [show a * (i+1)+1=a * i+1+a by rw [Nat.mul_succ];lia]
  exact this
theorem Nb.add {x y:Int} {a:Nat} (hx:Nb x a) (hy:Nb y a):Nb (x+y) (a+1):=by
 unfold Nb at *
 rw [Nat.pow_succ]
 have:=Int.natAbs_add_le x y
 lia
theorem Nb.okMul {x y:Int} (hx:Nb x 4000) (hy:Nb y 4000):okMul x y:=.inl ⟨hx.up (by decide),hy.up (by decide)⟩
theorem Nb.sum {f:Nat->Int} {a:Nat}:∀ {n:Nat},(∀ j,j < n->Nb (f j) a)->Nb (sumTo f n) (a+n)
 | 0,_=>by unfold Nb;exact Nat.two_pow_pos _
 | n+1,h=>by
  have i:=Nb.sum fun j hj=>h j (Nat.lt_succ_of_lt hj)
  exact i.add ((h n (Nat.lt_succ_self n)).up (by lia))
theorem K6 {x:Int} {k:Nat} (h1 : -(2 ^ k:Nat) < x) (h2:x < (2 ^ k:Nat)):Nb x k:=by unfold Nb;lia
noncomputable def Bf:List (Nat × Int)->(Nat->Int)->Nat->Int
 | [],f=>f
 | q::ts,f=>Bf ts fun j=>if j=q.1 then q.2 else f j
theorem Gr:∀ (xs ys:List (Nat × Int)) (f:Nat->Int),Bf (xs++ys) f=Bf ys (Bf xs f)
 | [],_,_=>rfl
 | x::xs,ys,f=>Gr xs ys _
theorem QO {ts:List (Nat × Int)} {i:Nat} {q:Nat × Int} {f:Nat->Int} (h:ts[i]? = some q):Bf (ts.take (i+1)) f=fun j=>if j=q.1 then q.2 else Bf (ts.take i) f j:=by
 rw [List.take_add_one,h,Gr]
 rfl
theorem Hh (g:Nat->Int):∀ (n j:Nat),Bf (Ah g n) (fun _=>0) j=if j < n then g j else 0
 | 0,j=>by simp [Ah,Bf]
 | n+1,j=>by
  show Bf (Ah g n++(if g n=0 then [] else [(n,g n)])) (fun _=>0) j=_
  rw [Gr]
  by_cases h:g n=0
  ·rw [if_pos h]
   show Bf (Ah g n) (fun _=>0) j=_
   rw [Hh g n j]
   by_cases e:j=n
   ·subst e;rw [if_neg (by lia),if_pos (by lia),h]
   ·by_cases l:j < n
    ·rw [if_pos l,if_pos (by lia)]
    ·rw [if_neg l,if_neg (by lia)]
  ·rw [if_neg h]
   show (if j=n then g n else Bf (Ah g n) (fun _=>0) j)=_
   by_cases e:j=n
   ·subst e;rw [if_pos rfl,if_pos (by lia)]
   ·rw [if_neg e,Hh g n j]
    by_cases l:j < n
    ·rw [if_pos l,if_pos (by lia)]
    ·rw [if_neg l,if_neg (by lia)]
noncomputable def Ey (H:Hp) (Q:VK) (xs:List V):Prop:=∀ p H',H p=none->Same H H'->H' p=some (.lst xs)->Q (.ref p) H'
theorem A4 {H:Hp} {Q Q':VK} {xs:List V} (h:∀ v H,Q v H->Q' v H) (q:Ey H Q xs):Ey H Q' xs:=fun p H' a b c=>h _ _ (q p H' a b c)
theorem OU (n:Nat):(List.replicate n [V.int 0]).flatten=ixL (fun _=>0) n:=by
 induction n with
 | zero=>rfl
 | succ n ih=>rw [List.replicate_succ',List.flatten_append,ih,Es];rfl
theorem NO {A:Around} (h:A.units+60 < cLine):A.units+1 < cLine:=by lia
end L2
namespace HT
open PySem PyProof.Rows
section
variable {prog:Program} {w:World} {A:Around} {E:Value->Shared->Prop} {s:Shared}
end
end HT
namespace L2
open PySem PySem.Spec PyProof.Rows
section
variable {X:Cx} {K:W.Frag} {e sx:Expr} {te ts:TE} {lo hi:Option Expr} {tl th:TO} {pos p2:Pos}
end
structure GFeed (H:Hp) (t:Addr) (N:Nat):Prop where
 at_:∃ (l:Addr) (i g c:Int) (ns:List Int),0<=i/\0<=g/\0<=c/\c<=N/\H t=some (.lst [.ref l,.int i,.int g,.int c])/\l≠t/\H l=some (.lst (ns.map V.int))/\ns.length≠0
theorem GFeed.same {H H':Hp} {t:Addr} {N:Nat} (F:GFeed H t N) (h:Same H H'):GFeed H' t N:=by
 obtain ⟨l,i,g,c,ns,h1,h2,h3,h4,h5,h6,h7,h8⟩:=F.at_
 exact ⟨l,i,g,c,ns,h1,h2,h3,h4,h _ _ h5,h6,h _ _ h7,h8⟩
theorem GFeed.upd {H:Hp} {t p:Addr} {o:HO} {N:Nat} (F:GFeed H t N) (h:H p=none):GFeed (L2.upd H p o) t N:=F.same (Same.upd h)
theorem GFeed.lst {H:Hp} {t:Addr} {N:Nat} (F:GFeed H t N):∃ zs,H t=some (.lst zs):=by
 obtain ⟨l,i,g,c,ns,h1,h2,h3,h4,h5,_⟩:=F.at_
 exact ⟨_,h5⟩
theorem GFeed.free {H H':Hp} {t p:Addr} {N:Nat} (F:GFeed H' t N) (h:Frm t H H') (hp:H' p=none):H p=none:=by
 cases e:H p with
 | none=>rfl
 | some o =>
  by_cases hpt:p=t
  ·subst hpt
   obtain ⟨zs,h3⟩:=F.lst
   rw [h3] at hp;cases hp
  ·rw [h p o hpt e] at hp;cases hp
section
variable {X:Cx} {pins:List (Addr × Obj)} {σ:St} {H:Hp} {s:Shared}
theorem KV.get {kvs:List (Key × V)} {vs:List (Key × Value)} (r:KV kvs vs):∀ {i:Nat} {q:Key × V},kvs[i]? = some q->∃ v,vs[i]? = some (q.1,v)/\RelV q.2 v:=by
 induction r with
 | nil=>intro i q e;simp at e
 | @cons a b l1 l2 h t ih =>
  intro i q e
  cases i with
  | zero =>
   simp at e;subst e
   obtain ⟨b1,b2⟩:=b
   obtain ⟨h1,h2⟩:=h
   exact ⟨b2,by simp;exact h1.symm,h2⟩
  | succ i =>
   obtain ⟨v,h1,h2⟩:=ih (i:=i) (q:=q) (by simpa using e)
   exact ⟨v,by simpa using h1,h2⟩
end
section
variable {X:Cx} {K:W.Frag} {tg oe:Expr} {to:TE} {ts:List Expr} {kt:Nat} {tpos apos cpos:Pos}
end
end L2
namespace L2
open PySem PyProof.Rows
section
variable {prog:Program} {w:World} {A:Around} {E:Value->Shared->Prop} {s:Shared}
end
section
variable {X:Cx}
end
end L2
namespace L2
open PySem PySem.Spec PyProof.Rows
end L2
namespace L2
open PySem PySem.Spec PyProof.Rows PySem.W
open Att (Fx Ia Mt)
noncomputable def CdO (a:Addr) (q:Str):HO:=.ext fun h=>h.CodeRec (.ref a) q
noncomputable def Lam (Pt:Addr) (pos:Pos) (q:Str) (H:Hp):Prop :=
 ∃ ps:Array Value,H Pt=some (.tbl ps)/\TriplesOk ps.toList/\(codeAmong pos ps.toList=none\/∃ c',codeAmong pos ps.toList=some (.ref c')/\H c'=some (CdO c' q))
noncomputable def Grow (Pt:Addr) (H H':Hp):Prop:=∀ b o,b≠Pt->H b=some o->H' b=some o
theorem Grow.trans {Pt:Addr} {H H1 H2:Hp} (a:Grow Pt H H1) (b:Grow Pt H1 H2):Grow Pt H H2:=fun c o n e=>b c o n (a c o n e)
theorem Grow.same {Pt:Addr} {H H':Hp} (h:Same H H'):Grow Pt H H':=fun b o _ e=>h b o e
theorem Lam.same {Pt:Addr} {pos:Pos} {q:Str} {H H':Hp} (l:Lam Pt pos q H) (h:Same H H'):Lam Pt pos q H':=by
 obtain ⟨ps,a,b,c⟩:=l
 refine ⟨ps,h _ _ a,b,?_⟩
 rcases c with c | ⟨c',c,d⟩
 ·exact .inl c
 ·exact .inr ⟨c',c,h _ _ d⟩
section
variable {X:Cx} {pins:List (Addr × Obj)} {σ:List (Option V)} {H:Hp} {s:Shared} {h':Heap}
end
section
variable {prog:Program} {w:World} {A:Around} {s:Shared}
end
section
variable {X:Cx} {Pt c:Addr} {e:Expr} {te:TE} {p pos kpos lpos np cp sp:Pos} {x qual:Str} {params:Arguments} {scope:Scope} {kd:Nat} {i:Int} {K:W.Frag}
end
end L2
namespace L2
open PySem
end L2
namespace L2
open PySem PySem.Spec PyProof.Rows
section
variable {X:Cx} {tg oe:Expr} {to:TE} {apos cpos:Pos}
end
noncomputable def mIn (K:W.Frag) (neg:Bool):R2:=fun x y H Q=>match y with
 | .ref p=>∃ xs,(SqL K H p xs\/SqT K H p xs)/\Bz x=true/\xs.all Bz=true/\Q (.bl (neg ^^ inV x xs)) H
 | _=>False
section
variable {X:Cx} {K:W.Frag}
theorem kIn (hK:X.K=K:=by rfl):OpR X (compareOp .In) (mIn K false):=by
 subst hK
 intro pins s σ H x y v u Q I rx ry h
 cases y with
 | ref p =>
  obtain ⟨xs,h1,h2,h3,q⟩:=h
  exact NT pins s σ H x _ v u Q I rx ry ⟨p,xs,rfl,h1,h2,h3,by simpa using q⟩
 | _=>exact False.elim h
theorem Il (hK:X.K=K:=by rfl):OpR X (compareOp .NotIn) (mIn K true):=by
 subst hK
 intro pins s σ H x y v u Q I rx ry h
 cases y with
 | ref p =>
  obtain ⟨xs,h1,h2,h3,q⟩:=h
  exact Pr pins s σ H x _ v u Q I rx ry ⟨p,xs,rfl,h1,h2,h3,by simpa using q⟩
 | _=>exact False.elim h
end
theorem Qp {K:W.Frag} {neg:Bool}:By (mIn K neg):=fun x y H Q Q' h q=>by
 cases y with
 | ref p=>obtain ⟨xs,h1,h2,h3,q⟩:=q;exact ⟨xs,h1,h2,h3,h _ _ q⟩
 | _=>exact False.elim q
theorem KI (bs:List Bool):inV (.bl true) (bs.map V.bl)=bs.any id:=by
 unfold inV
 rw [List.any_map]
 congr 1
 funext b
 cases b <;> rfl
section
variable {X:Cx} {K:W.Frag}
noncomputable def FV (K:W.Frag):List V->Hp->VK->Prop:=fun xs H Q=>match xs with
 | [.ref l]=>∃ bs:List Bool,SqL K H l (bs.map V.bl)/\Q (.bl (bs.any id)) H
 | _=>False
theorem MK (hc:X.calm=true):CallR X (.builtin "any") (FV X.K):=by
 intro pins s σ H xs us Q I r q
 match xs,q with
 | [.ref l],q =>
 obtain ⟨bs,hl,q⟩:=q
 obtain ⟨u,rfl,ru⟩:=Bd r
 cases ru
 obtain ⟨its,rv,pl,hz⟩:=I.list hl
 have hlen:=rv.length
 rw [List.length_map] at hlen
 obtain ⟨o1,n1,g1,_⟩:=id pl
 have hlt:=Heap.lt_size g1
 refine call_any_walk (wpAny_pyIter_list pl.isList ?_)
 have hne:l≠s.heap.objs.size:=Nat.ne_of_lt hlt
 refine ⟨_,_,_,_,_,_,fun i=>bs.getD i false,rfl,Walks.list (A:=X.A.in1) (I.ok.hd hc) s.heap.objs.size l hne its.toArray,?_,?_,fun h' tk hk=>?_⟩
 ·exact ⟨⟨_,Heap.get?_push_size _ rfl,rfl,rfl⟩,(show s.heap.IsList l its.toArray from pl.isList).at fun o e=>Heap.get?_push_of_some _ e⟩
 ·intro i v s' Q' E' hv hq
  have hv:its.toArray[i]? = some v:=hv
  have hi:i < its.length:=by
   have:=(Array.getElem?_eq_some_iff.mp hv).1
   simpa using this
  have hb:(bs.map V.bl)[i]? = some (.bl bs[i]):=by rw [List.getElem?_map,List.getElem?_eq_getElem (by lia)];rfl
  obtain ⟨w',q1,q2⟩:=rv.get hb
  have e:v=w':=by simp at hv;rw [q1] at hv;exact (Option.some.inj hv).symm
  subst e
  cases q2
  refine wpAny_truthy_bool ?_
  have e2:bs.getD i false=bs[i]:=by rw [List.getD_eq_getElem?_getD,List.getElem?_eq_getElem (by lia)];rfl
  have hq:Q' (bs.getD i false) s':=hq
  rw [e2] at hq
  exact hq
 ·refine ⟨.bl _,H,I.kept (fun b o e=>hk b o ?_ (Heap.get?_push_of_some _ e)),rfl,?_⟩
  ·simp only [List.mem_singleton]
   exact Nat.ne_of_lt (Heap.lt_size e)
  ·have e:(List.range its.toArray.size).any (fun i=>bs.getD i false)=bs.any id:=by
    rw [List.size_toArray,<- hlen]
    rw [Bool.eq_iff_iff,List.any_eq_true,List.any_eq_true]
    constructor
    ·rintro ⟨i,hi,e⟩
     have hi':=List.mem_range.mp hi
     rw [List.getD_eq_getElem?_getD,List.getElem?_eq_getElem hi'] at e
     exact ⟨_,List.getElem_mem hi',e⟩
    ·rintro ⟨b,hb,e⟩
     obtain ⟨i,hi,rfl⟩:=List.mem_iff_getElem.mp hb
     refine ⟨i,List.mem_range.mpr hi,?_⟩
     rw [List.getD_eq_getElem?_getD,List.getElem?_eq_getElem hi]
     exact e
   rw [e]
   exact q
theorem Jh (hc:X.calm=true) (hK:X.K=K:=by rfl):CallR X (.builtin "any") (FV K):=hK ▸ MK hc
theorem Nk:B8 (FV K):=fun xs H Q Q' h q=>by
 unfold FV at *
 split at q
 ·obtain ⟨ns,a,q⟩:=q;exact ⟨ns,a,h _ _ q⟩
 ·exact q.elim
end
end L2
namespace L2
theorem on1 {α:Type} {P:List α->Prop} (h:∀ a,P [a]):∀ us:List α,us.length=1->P us
 | [a],_=>h a
theorem on2 {α:Type} {P:List α->Prop} (h:∀ a b,P [a,b]):∀ us:List α,us.length=2->P us
 | [a,b],_=>h a b
theorem on3 {α:Type} {P:List α->Prop} (h:∀ a b c,P [a,b,c]):∀ us:List α,us.length=3->P us
 | [a,b,c],_=>h a b c
open PySem in
theorem RT {xs es:List PySem.Expr} {p:Pos} {env:Env}:starEach (.List xs p::es) env=(false,eval (.List xs p) env)::starEach es env:=by rfl
end L2
namespace L2
open PySem
end L2
namespace L2
open PySem PyProof.Rows
section
variable {prog:Program} {w:World} {A:Around} {E:Value->Shared->Prop} {s:Shared}
end
section
variable {X:Cx}
end
noncomputable abbrev NM (h:Heap) (z TI TO:Addr) (f0 bb:Value):Prop :=
 h.get? z=some { cls:=.type "zip",dict:=none,data:=.fields #[f0,bb,.bool false,.ref TI,.ref TO],slots:=#[] }
section
variable {prog:Program} {w:World} {A:Around} {E:Value->Shared->Prop} {s:Shared}
end
section
variable {prog:Program} {w:World} {A:Around} {E:Value->Shared->Prop} {s:Shared}
structure ZS (z TI TO i1 i2 l1 l2 T0:Addr) (xs ys:Array Value) (i:Nat) (h:Heap):Prop where
 zp:(i=0/\IsZip h z TI TO .none)\/(0 < i/\(∃ b,NM h z TI TO (rawInt T0) b)/\∃ a b,IsPair h T0 a b)
 ti:IsPair h TI (.ref i1) (.ref i2)
 to:∃ a b,IsPair h TO a b
 a1:h.IsTupleIter i1 l1 i
 a2:h.IsTupleIter i2 l2 i
 t1:h.IsTuple l1 xs
 t2:h.IsTuple l2 ys
theorem ZS.keep {z TI TO i1 i2 l1 l2 T0 S:Addr} {xs ys:Array Value} {i c:Nat} {h h':Heap} {acc:Array Value} (Z:ZS z TI TO i1 i2 l1 l2 T0 xs ys i h) (hS:h.get? S=some { cls:=.type "list",dict:=none,data:=.seq acc c,slots:=#[] })
 (k:∀ b o,b≠S->h.get? b=some o->h'.get? b=some o):ZS z TI TO i1 i2 l1 l2 T0 xs ys i h':=by
 have kk:∀ b o,h.get? b=some o->o.cls≠.type "list" -> h'.get? b=some o:=fun b o e n=>k b o (fun q=>by subst q;rw [hS] at e;cases e;exact n rfl) e
 obtain ⟨zp,ti,⟨a,b,to⟩,⟨o1,e1,c1,d1⟩,⟨o2,e2,c2,d2⟩,⟨p1,x1,y1,w1⟩,⟨p2,x2,y2,w2⟩⟩:=Z
 refine ⟨?_,kk _ _ ti (by simp),⟨a,b,kk _ _ to (by simp)⟩,⟨o1,kk _ _ e1 (by rw [c1];simp),c1,d1⟩,⟨o2,kk _ _ e2 (by rw [c2];simp),c2,d2⟩,⟨p1,kk _ _ x1 (by rw [y1];simp),y1,w1⟩,⟨p2,kk _ _ x2 (by rw [y2];simp),y2,w2⟩⟩
 rcases zp with ⟨e,q⟩ | ⟨e,⟨b,q⟩,⟨x,y,r⟩⟩
 ·exact .inl ⟨e,kk _ _ q (by simp)⟩
 ·exact .inr ⟨e,⟨b,kk _ _ q (by simp)⟩,⟨x,y,kk _ _ r (by simp)⟩⟩
end
section
variable {prog:Program} {w:World} {A:Around} {R:Result->Shared->Prop}
end
section
variable {prog:Program} {w:World} {A:Around} {R:Result->Shared->Prop} {s:Shared}
end
section
variable {prog:Program} {w:World} {A:Around} {E:Value->Shared->Prop} {s:Shared}
end
section
variable {X:Cx}
end
end L2
namespace L2
open PySem
noncomputable def ins:Nat->Nat->Nat->Nat
 | 0,b,q=>2 * q+b
 | i+1,b,q=>2 * ins i b (q / 2)+q % 2
end L2
namespace L2
open PySem PyProof.Rows
theorem P0:typeLookup (.type "tuple") "keys" = pure none:=by rw [typeLookup_type,builtinLookup_eq_fast];kernel_rfl
section
variable {prog:Program} {w:World} {A:Around} {E:Value->Shared->Prop} {s:Shared}
set_option maxRecDepth 8000 in
theorem Nn {a:Addr} {o:Obj} {xs:Array Value} {k:Nat} {Q:Option Value->Shared->Prop}
 (hx:s.heap.get? a=some o) (hc:o.cls=.type "tuple") (hdat:o.data=.seq xs k) (hd:o.dict=none) (hA:A.handled=none)
 (h:∀ h' tk e,Heap.NewExcOf s.heap h' e "AttributeError" -> Q none { s with heap:=h',toks:=tk }) :
 wpAny (model prog w) A (getAttr? (.ref a) "keys") Q E s:=by
 obtain ⟨c,dct,dat,sl⟩:=o
 simp only at hc hdat hd
 subst hc hdat hd
 obtain ⟨hp,g,d,tk,os⟩:=s
 have hT:∀ tk',(⟨hp,g,d,tk',os⟩:Shared).TypeIs (.ref a) "tuple":=fun _=>⟨_,hx,rfl⟩
 have f1:=sub_AttributeError
 have f3:=F.slot_tuple_getattribute.lookup
 have f4:=F.slot_tuple_getattribute.bind (.ref a)
 have f5:=am_tuple_getattr_none
 unfold getAttr? getAttrBy? getAttrBy
 repeat (any_goals (first | assumption | exact hT _ | ((with_reducible show wpAny _ _ (call (Value.builtin "tuple.__getattribute__") _ _) _ _ _);refine call_meets F.slot_tuple_getattribute (hT _) am_entry_tuple_getattribute (F.args_tuple_getattribute_2 _ _) (meets_getattribute_miss_tuple a xs k sl "keys" _ P0 (by decide +kernel) (by size_fits)) ⟨hx,hA,fun h' tk' e hx'=>?_⟩) | wp_step))
 obtain ⟨t',u',he⟩:=hx'.there
 show wpAny _ _ (getattributeRaised _ _ _ _ _ _ _) _ _ _
 unfold getattributeRaised
 repeat (any_goals (first | assumption | wp_step))
 exact h _ _ _ hx'.of
theorem KO:entryFor table "dict.update.loop" = some Builtin.«dict.update.loop»:=entryFor_of_tree (by kernel_rfl)
theorem Fs:plainId "dict.update.loop" = true:=by decide +kernel
end
section
variable {prog:Program} {w:World} {K:Type} [DecidableEq K] {knd:KeyKind prog w K} {A:Around} {R:Result->Shared->Prop}
theorem M7 {E:Value->Shared->Prop} {s:Shared} {d:Addr} {kvs:List (K × Value)} {k:K} {key v:Value} {Q:Unit->Shared->Prop} (hkey:knd.is k key=true) (hm:s.heap.DictOf knd d kvs)
 (hQ:∀ h' tk,h'.DictOf knd d (stored kvs k v)->Heap.SameBut d s.heap h'->Q () { s with heap:=h',toks:=tk }) (hsz:kvs.length<=sizeLine) :
 wpAny (model prog w) A (dictSet d key v) Q E s:=by
 unfold dictSet
 refine wpAny_holding (wpAny_bind (knd.pyHash hkey ?_))
 exact wpAny_dictSetHashed_pairs (s:={ s with toks:=s.toks+1 }) hkey hm (fun h' a b=>hQ h' _ a b) hsz
theorem MZ {d it tp:Addr} {items:Array Value} {n:Nat} {res:Value} (hh:A.handled=none) (more:List (K × Value)) (c:Nat->Addr) (ky:Nat->Value) (hn:more.length=n) (hn1:n<=1000) (his:items.size=n)
 (hit0:∀ j,j < n->items[j]? = some (.ref (c j))) (hmo:∀ j,j < n->∃ k v,more[j]? = some (k,v)/\knd.is k (ky j)=true) :
 ∀ (k i:Nat) (s:Shared),n - i=k->i<=n->s.heap.IsTupleIter it tp i->s.heap.IsTuple tp items->(∀ j,j < n->∀ kv,more[j]? = some kv->s.heap.IsTuple (c j) #[ky j,kv.2])->s.heap.DictOf knd d (merged [] (more.take i)) ->
 (∀ h' tk,h'.DictOf knd d (merged [] more)->(∀ b o,b≠d->b≠it->s.heap.get? b=some o->h'.get? b=some o)->R (.ok (.ret res)) { s with heap:=h',toks:=tk }) ->
 codeAny (model prog w) A (.builtin "dict.update.loop" ⟨[.ref d,.ref it,rawInt i,res],[]⟩) R s:=by
 have hsl:sizeLine=2 ^ 24:=by rw [sizeLine_eq]
 intro k
 induction k with
 | zero =>
  intro i s hk hi hit ht hp hd hR
  have hin:i=n:=by lia
  subst hin
  refine codeAny_builtin KO ?_
  rw [Around.under_plainId Fs _]
  show wpAny _ A.in1 (pyNext (.ref it) >>= _) _ _ s
  have hdi:d≠it:=fun e=>by
   obtain ⟨o,_,_,ho,hc,_⟩:=id hd
   obtain ⟨o2,ho2,hc2,_⟩:=id hit
   rw [e,ho2] at ho
   cases ho
   have:=hc.1
   rw [hc2] at this
   simp at this
  refine wpAny_bind (wpAny_pyNext_tuple_end (A:=A.in1) hh hit ht (by rw [Array.getElem?_eq_none_iff];lia) fun h' hk'=>?_)
  show wpAny _ _ (Builtin.Dict.addKeywords d [] >>= fun _=>ret res) _ _ _
  refine wpAny_bind (wpAny_pure (wpAny_pure ?_))
  have hd':h'.DictOf knd d (merged [] (more.take i)):=Heap.DictOf.at hd fun o e=>hk' _ _ hdi e
  rw [List.take_of_length_le (by lia)] at hd'
  exact hR h' s.toks hd' fun b o _ hb e=>hk' b o hb e
 | succ k ih =>
  intro i s hk hi hit ht hp hd hR
  have hlt:i < n:=by lia
  obtain ⟨kk,v,hmi,hkey⟩:=hmo i hlt
  refine codeAny_builtin KO ?_
  rw [Around.under_plainId Fs _]
  show wpAny _ A.in1 (pyNext (.ref it) >>= _) _ _ s
  obtain ⟨od,_,_,hod,hcd,_⟩:=id hd
  have hcd1:=hcd.1
  obtain ⟨oi,hoi,hci,_⟩:=id hit
  obtain ⟨ot,hot,hct,_⟩:=id ht
  have cls:∀ {b c:Addr} {o o':Obj},s.heap.get? b=some o->s.heap.get? c=some o'->o.cls≠o'.cls->b≠c:=fun {b c o o'} x y n q=>by subst q;rw [x] at y;cases y;exact n rfl
  have hdi:d≠it:=cls hod hoi (by rw [hcd1,hci];simp)
  have hti:tp≠it:=cls hot hoi (by rw [hct,hci];simp)
  have htd:tp≠d:=cls hot hod (by rw [hct,hcd1];simp)
  have hci2:∀ j,j < n->c j≠it/\c j≠d:=fun j hj=>by
   obtain ⟨k2,v2,hm2,_⟩:=hmo j hj
   obtain ⟨o3,ho3,hc3,_⟩:=hp j hj _ hm2
   exact ⟨cls ho3 hoi (by rw [hc3,hci];simp),cls ho3 hod (by rw [hc3,hcd1];simp)⟩
  refine wpAny_bind (wpAny_pyNext_tuple_item (A:=A.in1) hit ht (hit0 i hlt) fun h₁ hit₁ hs₁=>?_)
  have hp1:∀ j,j < n->∀ kv,more[j]? = some kv->h₁.IsTuple (c j) #[ky j,kv.2]:=fun j hj kv hkv=>(hp j hj kv hkv).extBut hs₁.extBut (hci2 j hj).1
  have hd1:h₁.DictOf knd d (merged [] (more.take i)):=hd.sameBut hs₁ hdi
  have ht1:h₁.IsTuple tp items:=ht.extBut hs₁.extBut hti
  obtain ⟨oc,hoc,hcc,nc,hdc⟩:=id (hp1 i hlt _ hmi)
  show wpAny _ A.in1 (holding [Value.ref (c i)] _ >>= _) _ _ _
  refine wpAny_bind (wpAny_holding ?_)
  refine wpAny_bind (wpAny_tryCatch ?_)
  unfold Builtin.Dict.pairItems
  refine wpAny_bind (wpAny_typeOf (T:="tuple") ⟨oc,hoc,hcc⟩ ?_)
  have e1:(Value.type "tuple" == Value.type "list" || Value.type "tuple" == Value.type "tuple")=true:=by decide
  rw [if_pos e1]
  refine wpAny_bind (wpAny_seqItems hoc hdc (wpAny_pure ?_))
  show wpAny _ A.in1 (holding [ky i,v] (dictSet d (ky i) v)) _ _ _
  refine wpAny_holding (M7 hkey hd1 (fun h₂ tk hd₂ hs₂=>?_) ?_)
  ·refine wpAny_pure ⟨plainId_quiet Fs _,?_⟩
   have hI2:h₂.IsTupleIter it tp (i+1):=hit₁.extBut hs₂.extBut (Ne.symm hdi)
   have hd₂':h₂.DictOf knd d (merged [] (more.take (i+1))):=by
    rw [merged_take_succ [] more i (kk,v) hmi]
    exact hd₂
   have:=ih (i+1) { s with heap:=h₂,toks:=tk } (by lia) hlt hI2 (ht1.extBut hs₂.extBut htd) (fun j hj kv hkv=>(hp1 j hj kv hkv).extBut hs₂.extBut (hci2 j hj).2) hd₂' fun h' tk' a1 a2=>hR h' tk' a1 fun b o b1 b2 e=>a2 b o b1 b2 (hs₂.extBut _ _ b1 (hs₁.extBut _ _ b2 e))
   exact this
  ·have:=merged_length_le [] (more.take i)
   rw [List.length_take] at this
   simp only [List.length_nil] at this
   lia
end
section
variable {prog:Program} {w:World} {K:Type} [DecidableEq K] {knd:KeyKind prog w K} {A:Around} {E:Value->Shared->Prop} {s:Shared}
theorem MD {tp:Addr} {o:Obj} {items:Array Value} {k0 n:Nat} {Q:Value->Shared->Prop} (hh:A.handled=none) (more:List (K × Value)) (c:Nat->Addr) (ky:Nat->Value) (hn:more.length=n) (hn1:n<=1000) (his:items.size=n)
 (hit0:∀ j,j < n->items[j]? = some (.ref (c j))) (hmo:∀ j,j < n->∃ k v,more[j]? = some (k,v)/\knd.is k (ky j)=true)
 (hx:s.heap.get? tp=some o) (hc:o.cls=.type "tuple") (hdat:o.data=.seq items k0) (hd:o.dict=none) (hp:∀ j,j < n->∀ kv,more[j]? = some kv->s.heap.IsTuple (c j) #[ky j,kv.2]) (hnd:(more.map (·.1)).Nodup)
 (h:∀ h' tk,h'.DictOf knd s.heap.objs.size more->(∀ b o,s.heap.get? b=some o->h'.get? b=some o)->Q (.ref s.heap.objs.size) { s with heap:=h',toks:=tk }) :
 wpAny (model prog w) A (call (.type "dict") [.ref tp]) Q E s:=by
 refine callType_codes (Q₁:=fun obj s₁=>obj=.ref s.heap.objs.size/\s₁ = { s with heap:=s.heap.push { cls:=.type "dict",data:=.dict #[] } }) F.kt_called_dict (F.kt_typeCall_dict_1 _) F.entry_dict_init (kt_code_dict_new _ ⟨rfl,rfl⟩) ?_
 rintro obj s₁ ⟨rfl,rfl⟩
 have hnew:(s.heap.push { cls:=.type "dict",data:=.dict #[] }).DictOf knd s.heap.objs.size []:=Heap.DictOf.new s.heap
 have hx1:(s.heap.push { cls:=.type "dict",data:=.dict #[] }).get? tp=some o:=Heap.get?_push_of_some _ hx
 refine ⟨hnew.typeIs,F.args_dict_init_2 _ _,?_⟩
 unfold Builtin.«dict.__init__»
 refine wpAny_bind ?_
 unfold Builtin.Dict.selfAndRest
 refine wpAny_bind (wpAny_notOrdered_dict hnew.typeIs ?_)
 show wpAny _ _ (pure (s.heap.objs.size,[Value.ref tp])) _ _ _
 refine wpAny_pure ?_
 show wpAny _ _ (Builtin.Dict.updateFrom "dict.__init__" s.heap.objs.size (.ref tp) [] .none) _ _ _
 unfold Builtin.Dict.updateFrom
 refine wpAny_bind (wpAny_typeOf (T:="tuple") ⟨o,hx1,hc⟩ ?_)
 rw [if_pos (by decide)]
 refine wpAny_bind (Nn (A:=A.in1.in1) hx1 hc hdat hd hh fun h₁ tk₁ e he=>?_)
 simp only [Option.isNone_none,if_true]
 refine wpAny_bind (wpAny_rule ?_)
 have ht1:h₁.IsTuple tp items:=⟨o,he.keeps _ _ hx1,hc,k0,hdat⟩
 have keep1:∀ b o,s.heap.get? b=some o->h₁.get? b=some o:=fun b o q=>he.keeps _ _ (Heap.get?_push_of_some _ q)
 refine wpAny_bind (wpAny_pyIter_tuple (s:={ s with heap:=h₁,toks:=tk₁ }) ht1 ?_)
 have up:∀ b o,h₁.get? b=some o->(h₁.push { cls:=.type "tuple_iterator",data:=.fields #[.ref tp,.int 0 0] }).get? b=some o:=fun b o q=>Heap.get?_push_of_some _ q
 refine wpAny_pure ⟨plainId_quiet Fs _,MZ (A:=A.in1) (knd:=knd) hh more c ky hn hn1 his hit0 hmo n 0 _ (Nat.sub_zero _) (Nat.zero_le _) ⟨_,Heap.get?_push_size _ rfl,rfl,rfl⟩ ⟨o,up _ _ (he.keeps _ _ hx1),hc,k0,hdat⟩ (fun j hj kv hkv=>?_) ?_ fun h' tk a1 a2=>?_⟩
 ·obtain ⟨o2,e2,r2⟩:=hp j hj kv hkv
  exact ⟨o2,up _ _ (keep1 _ _ e2),r2⟩
 ·exact Heap.DictOf.at hnew fun o q=>up _ _ (he.keeps _ _ q)
 ·rw [merged_nil_of_nodup more hnd] at a1
  refine ⟨rfl,h h' tk a1 fun b o q=>a2 b o (Nat.ne_of_lt (Heap.lt_size q)) (Nat.ne_of_lt (Heap.lt_size (keep1 _ _ q))) (up _ _ (keep1 _ _ q))⟩
end
section
variable {X:Cx}
noncomputable def FM (K:W.Frag):List V->Hp->VK->Prop:=fun xs H Q=>match xs with
 | [.ref p]=>∃ (us:List V) (kvs:List (Int × Int)),SqT K H p us/\us.length=kvs.length/\kvs.length<=1000/\(∀ (j:Nat) kv,kvs[j]? = some kv->∃ c,us[j]? = some (.ref c)/\SqT K H c [.int kv.1,.int kv.2])/\(kvs.map (·.1)).Nodup /\
  ∀ d,H d=none->Q (.ref d) (upd H d (.dK (kvs.map fun kv=>(Sum.inl kv.1,V.int kv.2))))
 | _=>False
theorem PN (hc:X.calm=true):CallR X (.type "dict") (FM X.K):=by
 intro pins s σ H xs us Q I r q
 match xs,q with
 | [.ref p],⟨ts,kvs,hp,hl,h1000,hkv,hnd,q⟩ =>
 cases r with
 | cons r rr =>
 cases rr
 cases r
 obtain ⟨its,rv,⟨o,ho,hcl,⟨n0,hdat⟩,hdn⟩,_⟩:=I.tupleN hp
 have e1:=rv.length
 -- the pairs as they stand
 have pr:∀ j,j < kvs.length->∃ c t1 t2,its[j]? = some (Value.ref c)/\s.heap.IsTuple c #[.int (kvs.getD j (0,0)).1 t1,.int (kvs.getD j (0,0)).2 t2]:=fun j hj=>by
  have hg:kvs[j]? = some (kvs.getD j (0,0)):=by simp [List.getD_eq_getElem?_getD,hj]
  obtain ⟨c,hc1,hc2⟩:=hkv j _ hg
  obtain ⟨u,hu,ru⟩:=rv.get hc1
  cases ru
  obtain ⟨its2,rv2,p2,_⟩:=I.tuple hc2
  cases rv2 with
  | cons a1 a2 =>
  cases a2 with
  | cons a3 a4 =>
  cases a4
  obtain ⟨t1,rfl⟩:=a1
  obtain ⟨t2,rfl⟩:=a3
  exact ⟨c,t1,t2,hu,p2⟩
 have cf:∃ (c:Nat->Addr) (t1 t2:Nat->Tok),∀ j,j < kvs.length->its[j]? = some (Value.ref (c j))/\s.heap.IsTuple (c j) #[.int (kvs.getD j (0,0)).1 (t1 j),.int (kvs.getD j (0,0)).2 (t2 j)]:=by
  have pr':∀ j,∃ c t1 t2,j < kvs.length->its[j]? = some (Value.ref c)/\s.heap.IsTuple c #[.int (kvs.getD j (0,0)).1 t1,.int (kvs.getD j (0,0)).2 t2]:=fun j=>by
   by_cases hj:j < kvs.length
   ·obtain ⟨c,t1,t2,h⟩:=pr j hj
    exact ⟨c,t1,t2,fun _=>h⟩
   ·exact ⟨0,0,0,fun z=>absurd z hj⟩
  exact ⟨fun j=>(pr' j).choose,fun j=>(pr' j).choose_spec.choose,fun j=>(pr' j).choose_spec.choose_spec.choose,fun j hj=>(pr' j).choose_spec.choose_spec.choose_spec hj⟩
 obtain ⟨c,t1,t2,hcf⟩:=cf
 let more:List (Key × Value):=(List.range kvs.length).map fun j=>(Sum.inl (kvs.getD j (0,0)).1,Value.int (kvs.getD j (0,0)).2 (t2 j))
 have hml:more.length=kvs.length:=by simp [more]
 have hmg:∀ j,j < kvs.length->more[j]? = some (Sum.inl (kvs.getD j (0,0)).1,Value.int (kvs.getD j (0,0)).2 (t2 j)):=fun j hj=>by simp [more,hj]
 have hrng:(List.range kvs.length).map (fun j=>kvs.getD j (0,0))=kvs:=by
  refine List.ext_getElem? fun j=>?_
  rw [List.getElem?_map]
  by_cases hj:j < kvs.length
  ·rw [List.getElem?_range hj];simp [List.getD_eq_getElem?_getD,hj]
  ·rw [List.getElem?_eq_none (by simp;lia),List.getElem?_eq_none (by lia)];rfl
 have hmk:more.map (·.1)=(kvs.map (·.1)).map Sum.inl:=by
  have:more.map (·.1)=((List.range kvs.length).map (fun j=>kvs.getD j (0,0))).map (fun kv=>(Sum.inl kv.1:Key)):=by simp [more]
  rw [this,hrng,List.map_map]
  rfl
 have hrel:∀ m,KV (((List.range m).map fun j=>kvs.getD j (0,0)).map fun kv=>((Sum.inl kv.1:Key),V.int kv.2)) ((List.range m).map fun j=>((Sum.inl (kvs.getD j (0,0)).1:Key),Value.int (kvs.getD j (0,0)).2 (t2 j))):=fun m=>by
  rw [List.map_map]
  generalize List.range m=L
  induction L with
  | nil=>exact .nil
  | cons j L ih=>exact .cons ⟨rfl,⟨_,rfl⟩⟩ ih
 refine MD (knd:=Be X.prog X.w) (n:=kvs.length) (I.ok.hd hc) more c (fun j=>.int (kvs.getD j (0,0)).1 (t1 j)) hml h1000 (by simp;lia) (fun j hj=>by have:=(hcf j hj).1;simpa using this) (fun j hj=>⟨_,_,hmg j hj,LF _ _ _ _⟩) ho hcl hdat hdn (fun j hj kv hkv2=>?_) ?_ fun h' tk a1 a2=>?_
 ·rw [hmg j hj] at hkv2
  cases hkv2
  exact (hcf j hj).2
 ·rw [hmk]
  have nd:∀ l:List Int,l.Nodup->(l.map (Sum.inl:Int->Key)).Nodup:=fun l=>by
   induction l with
   | nil=>intro _;exact List.nodup_nil
   | cons x l ih =>
    intro h
    rw [List.nodup_cons] at h
    rw [List.map_cons,List.nodup_cons]
    refine ⟨fun hm=>?_,ih h.2⟩
    obtain ⟨y,hy,e⟩:=List.mem_map.mp hm
    have:y=x:=by simpa using e
    exact h.1 (this ▸ hy)
  exact nd _ hnd
 ·refine ⟨.ref s.heap.objs.size,_,I.laid (t':=tk) (o:=.dK (kvs.map fun kv=>(Sum.inl kv.1,V.int kv.2))) a2 (Nat.le_refl _) ?_,rfl,q _ (I.hok.fresh (Nat.le_refl _))⟩
  refine ⟨by rw [List.length_map];exact Ac h1000,beq_eq_false_iff_ne.mpr (Ne.symm (Nat.ne_of_lt I.big)),more,?_,a1⟩
  have:=hrel kvs.length
  rw [hrng] at this
  exact this
theorem OQ {K:W.Frag} (hc:X.calm=true) (hK:X.K=K:=by rfl):CallR X (.type "dict") (FM K):=hK ▸ PN hc
theorem Lz {K:W.Frag}:B8 (FM K):=fun xs H Q Q' h q=>by
 unfold FM at *
 split at q
 ·obtain ⟨us,kvs,h1,h2,h3,h4,h5,q⟩:=q;exact ⟨us,kvs,h1,h2,h3,h4,h5,fun d hd=>h _ _ (q d hd)⟩
 ·exact q.elim
end
noncomputable abbrev EnB (h:Heap) (e it:Addr) (i:Int) (f0 bb old:Value):Prop :=
 h.get? e=some { cls:=.type "enumerate",dict:=none,data:=.fields #[f0,bb,.ref it,rawInt i,.none,old],slots:=#[] }
section
variable {prog:Program} {w:World} {A:Around} {E:Value->Shared->Prop} {s:Shared}
end
section
variable {prog:Program} {w:World} {A:Around} {E:Value->Shared->Prop} {s:Shared}
noncomputable def ES (e it:Addr) (i:Nat) (h:Heap):Prop:=(∃ old,IsEnum h e it i old)\/∃ (T0:Addr) (bb old a b:Value),EnB h e it i (rawInt T0) bb old/\IsPair h T0 a b
end
section
variable {prog:Program} {w:World} {K:Type} [DecidableEq K] {knd:KeyKind prog w K} {A:Around} {R:Result->Shared->Prop}
theorem ES.keep {e it d:Addr} {i:Nat} {h h':Heap} {od:Obj} (Z:ES e it i h) (hd:h.get? d=some od) (hc:od.cls=.type "dict") (k:∀ b o,b≠d->h.get? b=some o->h'.get? b=some o):ES e it i h':=by
 have kk:∀ b o,h.get? b=some o->o.cls≠.type "dict" -> h'.get? b=some o:=fun b o e n=>k b o (fun q=>by subst q;rw [hd] at e;cases e;exact n hc) e
 rcases Z with ⟨old,q⟩ | ⟨T0,bb,old,a,b,q,hT⟩
 ·exact .inl ⟨old,kk _ _ q (by simp)⟩
 ·exact .inr ⟨T0,bb,old,a,b,kk _ _ q (by simp),kk _ _ hT (by simp)⟩
end
section
variable {prog:Program} {w:World} {K:Type} [DecidableEq K] {knd:KeyKind prog w K} {A:Around} {E:Value->Shared->Prop} {s:Shared}
end
section
variable {X:Cx}
end
section
variable {X:Cx}
end
theorem IT:∀ {ns:List Int} {us:List Value},IntsAre us ns->Vals (ns.map V.int) us:=by
 intro ns us h
 induction h with
 | nil=>exact .nil
 | cons _ _ _ ih=>exact .cons ⟨_,rfl⟩ ih
section
variable {X:Cx} {K:W.Frag}
end
section
variable {X:Cx} {K:W.Frag} {o e e2:Expr} {to:TE} {t:TA} {apos cpos:Pos}
noncomputable def Fn:V->List V->Hp->VK->Prop:=fun x vs H Q=>match x,vs with
 | .ref l,[.int i]=>∃ xs y,H l=some (.lst xs)/\0<=i/\i < 2 ^ 63/\xs[i.toNat]? = some y/\Q y (upd H l (.lst (xs.eraseIdx i.toNat)))
 | _,_=>False
theorem ML:MtR X "list.pop" Fn:=by
 intro pins s σ H x vs v us Q I rx rv q
 match x,vs,q with
 | .ref l,[.int i],⟨xs,y,h1,h2,h3,h4,q⟩ =>
 refine Ml pins s σ H _ _ v us Q I rx rv ⟨l,xs,i,i.toNat,y,rfl,rfl,h1,by lia,h3,?_,h4,q⟩
 have hn:i.toNat < xs.length:=(List.getElem?_eq_some_iff.mp h4).1
 unfold seqIndex?
 have hi:¬ i < 0:=by lia
 have hb:(decide (0<=i) && decide (i < (xs.length:Int)))=true:=by
  rw [decide_eq_true h2,decide_eq_true (by lia)]
  rfl
 simp only [if_neg hi,hb]
 rfl
theorem LR (ho:PE X o to) (ha:PA X [e] t) (hbase:attributeBase o "pop" X.env (eval o X.env)=eval o X.env:=by rfl)
 (hfew:((backTo cpos (starEach [e] X.env)).all (fun x=>!x.1) && (backToKw cpos (keywordEach [] X.env)).all (fun x=>x.1.isSome)
   && decide ([e].length+([]:List Keyword).length+(if ([]:List Keyword).isEmpty then 0 else 1) < 30))=true:=by rfl)
 (hline:(apos.endLine == cpos.line)=true:=by rfl) (hs:starEach [e] X.env=(false,eval e X.env)::starEach [] X.env:=by rfl) (hplain:(backTo cpos (starEach [] X.env)).any (·.1)=false:=by rfl) (hK:X.K=K:=by rfl) :
 PE X (.Call (.Attribute o "pop" apos) [e] [] cpos) (tBM K "list" Fn to t):=hK ▸ PM PySem.F.plainAttrs_list PySem.F.slot_list_pop PySem.F.type_list_pop ML ho ha hbase hfew hline hs hplain
theorem QD:FG Fn:=fun x xs H Q Q' h q=>by
 unfold Fn at *
 split at q
 ·obtain ⟨ys,y,a,b,c,d,q⟩:=q;exact ⟨ys,y,a,b,c,d,h _ _ q⟩
 ·exact q.elim
end
end L2
namespace L2
open PySem PySem.Spec PyProof.Rows
section
variable {X:Cx} {K:W.Frag}
end
end L2
namespace L2
open PySem PyProof.Rows
theorem Ip:∀ (n i:Nat) (us:List Value),us.length=n->(∀ (j:Nat) (v:Value),us[j]? = some v->∃ t,v=Value.int (((i+j:Nat):Int)) t)->Vals ((List.range' i n).map fun (k:Nat)=>V.int (k:Int)) us
 | 0,i,[],_,_=>.nil
 | 0,i,_::_,h,_=>by cases h
 | n+1,i,[],h,_=>by cases h
 | n+1,i,u::us,h,hu=>by
  obtain ⟨t,e⟩:=hu 0 u rfl
  have r:RelV (V.int ((i:Nat):Int)) u:=⟨t,by rw [e];rfl⟩
  rw [List.range'_succ,List.map_cons]
  refine .cons r (Ip n (i+1) us (by simpa using h) fun j v hj=>?_)
  obtain ⟨t,e⟩:=hu (j+1) v (by simpa using hj)
  exact ⟨t,by rw [e];congr 1;lia⟩
noncomputable def tLR (ta:TA):TE:=fun σ H Q=>ta σ H fun vs H1=>match vs with
 | [.int j]=>∃ n:Nat,j=n/\n<=1000/\∀ p,H1 p=none->Q (.ref p) (upd H1 p (.lst ((List.range n).map fun (k:Nat)=>V.int (k:Int))))
 | _=>False
theorem Lu {ta:TA} (h:Bt ta):Ad (tLR ta):=fun σ H Q Q' k q=>h _ _ _ _ (fun vs _ q=>by
 match vs,q with
 | [.int j],⟨n,h1,h2,q⟩=>exact ⟨n,h1,h2,fun d hd=>k _ _ (q d hd)⟩) q
section
variable {X:Cx}
theorem Os {a:Expr} {ta:TA} {p pos p2 pos2:Pos} (hc:X.calm=true) (hg:Gl X "list") (hm:X.mg "list" = none) (hg2:Gl X "range") (hm2:X.mg "range" = none) (ha:PA X [a] ta)
 (hs:starEach [a] X.env=[(false,eval a X.env)]:=by rfl)
 (hs3:starEach [.Call (.Name "range" p2) [a] [] pos2] X.env=[(false,eval (.Call (.Name "range" p2) [a] [] pos2) X.env)]:=by rfl) :
 PE X (.Call (.Name "list" p) [.Call (.Name "range" p2) [a] [] pos2] [] pos) (tLR ta):=by
 intro pins s σ H Q I h
 refine Call_ (Da I hg hm (by rfl:bootBuiltins "list" = some (.type "list")) (PyProof.Rows.callWith_type1 ?_ (by rw [hs3];rfl) (by rfl)))
 rw [hs3]
 show wpAny _ _ (spliced ((false,eval (.Call (.Name "range" p2) [a] [] pos2) X.env)::[])) _ _ s
 refine Calls.spliced_cons ?_
 refine Call_ (Da I hg2 hm2 (by rfl:bootBuiltins "range" = some (.type "range")) (PyProof.Rows.callWith_type1 (thn (ha pos2 pins s σ H _ I h) fun us s1 ⟨vs,H1,I1,r1,q1⟩=>?_) hs rfl))
 match vs,q1,r1 with
 | [.int j],⟨n,hj,hn,q⟩,r1 =>
 subst hj
 cases r1 with
 | cons r rr =>
 cases rr
 obtain ⟨t,rfl⟩:=r
 refine call_range_1 ?_
 refine Calls.spliced_nil ?_
 refine call_list_range (n:=n) (I.ok.hd hc) (IsRange.new ..) (small_one (by lia) (by lia) (by lia) (by lia)) ?_ (by lia) fun h' tk acc c' hk hS hacc=>?_
 ·rw [rangeSize_one];split <;> lia
 have keep:∀ b u,s1.heap.get? b=some u->h'.get? b=some u:=fun b u e=>hk b u (Heap.get?_push_of_some _ e)
 have hsz:(s1.heap.push { cls:=.type "range",data:=.fields #[.int 0 s1.toks,.int (n:Int) t,.int 1 (s1.toks+1)] }).objs.size=s1.heap.objs.size+1:=by simp [Heap.push]
 have hle:s1.heap.objs.size<=(s1.heap.push { cls:=.type "range",data:=.fields #[.int 0 s1.toks,.int (n:Int) t,.int 1 (s1.toks+1)] }).objs.size:=by rw [hsz];exact Nat.le_succ _
 refine ⟨.ref _,_,I1.laid (t':=tk) (o:=.lst ((List.range n).map fun (k:Nat)=>V.int (k:Int))) keep hle ?_,rfl,q _ (I1.hok.fresh hle)⟩
 refine ⟨by rw [List.length_map,List.length_range];exact Ac hn,acc.toList,c',?_,hS⟩
 rw [List.range_eq_range']
 refine Ip n 0 acc.toList (by rw [Array.length_toList];exact hacc.1) fun j v hj=>?_
 obtain ⟨t,e⟩:=hacc.2 j v (by rw [<- Array.getElem?_toList];exact hj)
 exact ⟨t,by rw [e];congr 1;lia⟩
end
section
variable {X:Cx}
end
section
variable {X:Cx} {K:W.Frag}
end
end L2
namespace HT
open PySem PyProof.Rows
section
variable {prog:Program} {w:World} {A:Around} {E:Value->Shared->Prop} {s:Shared}
theorem getItem_tuple_whole {t sl:Addr} {items:Array Value} {vl vu:Value} {lo hi:Option Int} {Q:Value->Shared->Prop} (ht:IsTup s.heap t items) (hs:s.heap.IsSliceOf sl vl vu .none) (pl:IsPart vl lo) (pu:IsPart vu hi)
 (hw:sIx items.size 0 lo=0/\sIx items.size items.size hi=items.size)
 (h:Q (.ref t) s):wpAny (model prog w) A (getItem (.ref t) (.ref sl)) Q E s:=by
 obtain ⟨os,hos,hcs,hds⟩:=id hs
 have hTs:s.TypeIs (.ref sl) "slice":=⟨os,hos,hcs⟩
 unfold getItem
 try with_reducible refine wpAny_holding ?_
 first | refine wpAny_bind (wpAny_pure ?_) | skip
 refine wpAny_bind (wpAny_sequenceKey ht.typeIs (by decide) ?_)
 refine wpAny_bind (wpAny_callSpecial?_slot (name:=Str.ofString "__getitem__") ht.typeIs PyProof.Rows.slot_tuple_getitem
  (wpAny_call_entry PyProof.Rows.slot_tuple_getitem ht.typeIs entry_tuple_getitem ?_ (args_tuple_getitem _ _)))
 show wpAny _ _ (Builtin.Tuple.tupleItemsOf (.ref t) >>= _) _ _ s
 refine wpAny_bind (tupleItemsOf_ ht ?_)
 refine wpAny_bind (wpAny_typeOf hTs ?_)
 rw [if_pos (by decide)]
 refine wpAny_bind (IG hs pl pu ?_)
 rw [hw.1,hw.2]
 show wpAny _ _ (if (((0:Nat):Int) == 0 && (1:Int) == 1 && (items.size - 0) == items.size)=true then _ else _) _ _ s
 have hyes:(((0:Nat):Int) == 0 && (1:Int) == 1 && (items.size - 0) == items.size)=true:=by simp
 rw [if_pos hyes]
 unfold Builtin.Tuple.tupleIsExact
 refine wpAny_bind (wpAny_bind (wpAny_typeOf ht.typeIs (wpAny_pure ?_)))
 rw [if_pos (by decide)]
 refine wpAny_bind (wpAny_rule ?_)
 first
  | exact wpAny_bind (wpAny_pure ⟨_,rfl,wpAny_pure h⟩)
  | exact wpAny_pure ⟨_,rfl,wpAny_pure h⟩
  | exact wpAny_bind (wpAny_pure (wpAny_pure ⟨_,rfl,wpAny_pure h⟩))
  | exact wpAny_bind (wpAny_bind (wpAny_pure (wpAny_pure ⟨_,rfl,wpAny_pure h⟩)))
end
end HT
namespace L2
open PySem PySem.Spec PyProof.Rows
section
variable {X:Cx} {K:W.Frag} {e sx:Expr} {te ts:TE} {lo hi:Option Expr} {tl th:TO} {pos p2:Pos}
theorem Vals.rev:∀ {xs:List V} {us:List Value},Vals xs us->Vals xs.reverse us.reverse
 | _,_,.nil=>.nil
 | _,_,.cons h r=>by
  rw [List.reverse_cons,List.reverse_cons]
  exact (Vals.rev r).append (.cons h .nil)
noncomputable def Gw (K:W.Frag):V->Option Int->Option Int->Hp->VK->Prop:=fun x lo hi H Q=>match x with
 | .ref a=>∃ xs,SqT K H a xs/\∀ p H',Same H H'->SqT K H' p (BB xs lo hi)->Q (.ref p) H'
 | _=>False
theorem O6:SlR X (Gw X.K):=by
 intro pins s σ H x v vl vu lo hi sl Q I rx hs pl pu q
 cases x with
 | ref a =>
  obtain ⟨xs,hx,q⟩:=q
  by_cases hw:HT.sIx xs.length 0 lo=0/\HT.sIx xs.length xs.length hi=xs.length
  ·cases rx
   obtain ⟨its,r,ht,hz⟩:=I.tuple hx
   have hlen:its.toArray.size=xs.length:=by rw [List.size_toArray];exact r.length.symm
   refine ⟨"tuple",_,PyProof.Rows.slot_tuple_getitem.lookup,ht.typeIs,?_⟩
   refine HT.getItem_tuple_whole ht hs pl pu (by rw [hlen];exact hw) ⟨.ref a,H,I,rfl,q a H (fun _ _ h=>h) ?_⟩
   have:BB xs lo hi=xs:=by
    unfold BB
    rw [hw.1,hw.2,List.drop_zero,List.take_of_length_le (by lia)]
   rw [this]
   exact hx
  ·exact Iz pins s σ H _ v vl vu lo hi sl Q I rx hs pl pu ⟨a,xs,rfl,hx,hw,fun p hp=>q p _ (Same.upd hp) (.of AH)⟩
 | _=>exact False.elim q
theorem Iq (he:PE X e te) (hl:PO X lo tl) (hu:PO X hi th) (hK:X.K=K:=by rfl):PE X (.Subscript e (.Slice lo hi none p2) pos) (tSl (Gw K) te tl th):=hK ▸ Ji O6 he hl hu
theorem Nm (h:Ad te) (h1:D9 tl) (h2:D9 th):Ad (tSl (Gw K) te tl th):=fun σ H Q Q' k q=>h _ _ _ _ (fun v _ q=>h1 _ _ _ _ (fun _ _ q=>h2 _ _ _ _ (fun _ _ q=>by
 cases v <;> first | exact False.elim q | (obtain ⟨xs,a,q⟩:=q;exact ⟨xs,a,fun p H' s r=>k _ _ (q p H' s r)⟩)) q) q) q
end
end L2
namespace HT
open PySem PyProof.Rows
section
variable {prog:Program} {w:World} {A:Around} {E:Value->Shared->Prop} {s:Shared}
theorem cat_none {t b:Addr} {ws:List Value} {Q:Value->Shared->Prop} (ht:IsTup s.heap t #[]) (hb:IsTup s.heap b ws.toArray) (h:Q (.ref b) s) :
 wpAny (model prog w) A (binaryOp .Add (.ref t) (.ref b)) Q E s:=by
 obtain ⟨⟨cls,dd,data,sl⟩,ho,hc,n,hd⟩:=id ht
 obtain ⟨⟨cls2,dd2,data2,sl2⟩,ho2,hc2,n2,hd2⟩:=id hb
 simp only at hc hd hc2 hd2
 subst hc hd hc2 hd2
 exact concat_meets ⟨_,ho,rfl⟩ ⟨_,ho2,rfl⟩ noFill_tuple_add seq_tuple_add PySem.F.slot_tuple_add PySem.F.entry_tuple_add (PySem.F.args_tuple_add_2 _ _)
  (tuple_addW0 t b #[] ws.toArray n n2 dd dd2 sl sl2 rfl) ⟨ho,ho2,h⟩
end
end HT
namespace L2
open PySem PySem.Spec PyProof.Rows
section
variable {X:Cx} {K:W.Frag}
noncomputable def He (K:W.Frag):R2:=fun x y H Q=>match x,y with
 | .int i,.int j=>Q (.int (i+j)) H
 | .ref a,.ref b=>G1 (.ref a) (.ref b) H Q\/∃ xs ys,SqT K H a xs/\SqT K H b ys/\xs.length+ys.length<=sizeLine/\∀ p H',Same H H'->SqT K H' p (xs++ys)->Q (.ref p) H'
 | _,_=>False
theorem RD:OpR X (binaryOp .Add) (He X.K):=by
 intro pins s σ H x y v u Q I rx ry q
 cases x <;> cases y <;> first
  | exact False.elim q
  | exact Ju pins s σ H _ _ v u Q I rx ry ⟨_,_,rfl,rfl,q⟩
  | skip
 rename_i a b
 rcases q with q | ⟨xs,ys,ha,hb,hz,q⟩
 ·exact Kx pins s σ H _ _ v u Q I rx ry q
 by_cases hx:xs=[]
 ·subst hx
  cases rx
  cases ry
  obtain ⟨its,r1,p1,_⟩:=I.tuple ha
  obtain ⟨its2,r2,p2,_⟩:=I.tuple hb
  cases r1
  exact HT.cat_none p1 p2 ⟨.ref b,H,I,rfl,q b H (fun _ _ h=>h) hb⟩
 ·exact Ii pins s σ H _ _ v u Q I rx ry ⟨a,b,xs,ys,rfl,rfl,ha,hb,hx,hz,fun e=>q a H (fun _ _ h=>h) (by rw [e,List.append_nil];exact ha),fun _ p hp=>q p _ (Same.upd hp) (.of AH)⟩
theorem Ej (hK:X.K=K:=by rfl):OpR X (binaryOp .Add) (He K):=hK ▸ RD
theorem Ph:By (He K):=fun x y H Q Q' m q=>by
 cases x <;> cases y <;> first
  | exact False.elim q
  | exact m _ _ q
  | skip
 rcases q with ⟨l,b,xs,zs,h1,h2,h3,h4,h5,q⟩ | ⟨xs,ys,ha,hb,hz,q⟩
 ·exact .inl ⟨l,b,xs,zs,h1,h2,h3,h4,h5,fun p hp=>m _ _ (q p hp)⟩
 ·exact .inr ⟨xs,ys,ha,hb,hz,fun p H' a b=>m _ _ (q p H' a b)⟩
end
section
variable {X:Cx} {K:W.Frag}
noncomputable def KM (K:W.Frag):List V->Hp->VK->Prop:=fun xs H Q=>match xs with
 | [.ref l]=>∃ ns:List Int,SqL K H l (ns.map V.int)/\0 < ns.length/\∀ M,M∈ns->(∀ a∈ns,M<=a)->Q (.int M) H
 | _=>False
theorem LS (hc:X.calm=true):CallR X (.builtin "min") (KM X.K):=by
 intro pins s σ H xs us Q I r q
 match xs,q with
 | [.ref l],q =>
 obtain ⟨ns,hl,hne,q⟩:=q
 obtain ⟨u,rfl,ru⟩:=Bd r
 cases ru
 obtain ⟨its,rv,pl,hz⟩:=I.list hl
 have hi:IntsAre its ns:=by simpa using Ec rv
 obtain ⟨zs,hzs⟩:=(hi.allInts).items
 have pl':=pl.isList
 rw [hzs] at pl'
 have hns:ns=zs.toList.map (·.1):=by
  rw [<- hi.numsOf,<- nums_intItems,<- hzs]
 have hsz:0 < zs.size:=by
  rw [hns,List.length_map,Array.length_toList] at hne;exact hne
 refine min_intList (I.ok.hd hc) pl' hsz fun v h' tk hv hk=>?_
 obtain ⟨t,rfl⟩:=intItems_at hv
 obtain ⟨h1,h2⟩:=argBest_lt (numAt zs) (zs.size - 1)
 refine ⟨.int _,H,I.kept hk,⟨t,rfl⟩,q _ ?_ fun a ha=>?_⟩
 ·rw [hns,numAt_eq];exact getD_mem (by rw [List.length_map,Array.length_toList];lia)
 ·rw [hns] at ha
  obtain ⟨j,hj,rfl⟩:=mem_getD ha
  rw [List.length_map,Array.length_toList] at hj
  rw [<- numAt_eq];exact h2 j (by lia)
theorem Mp (hc:X.calm=true) (hK:X.K=K:=by rfl):CallR X (.builtin "min") (KM K):=hK ▸ LS hc
end
section
variable {X:Cx} {K:W.Frag} {e sx:Expr} {te ts:TE} {lo hi:Option Expr} {tl th:TO} {pos p2:Pos}
end
noncomputable abbrev BV:=List (List Bool × Addr × V)
noncomputable abbrev BVr:BV->List (List Bool × Addr × Value)->Prop:=Paired fun p q=>p.1=q.1/\p.2.1=q.2.1/\RelV p.2.2 q.2.2
noncomputable def dV (P:Program) (w:World) (a:Addr) (kvs:BV):HO:=.ext fun h=>∃ xs o es ep,BVr kvs xs/\h.get? a=some o/\o.ExactDict/\o.data=.dict es ep/\es.toList=xs.map (entryOfKey (tupleKind (Oq P w)))/\(xs.map (·.1)).Nodup/\xs.length<=sizeLine/\(a == sysModules)=false
noncomputable def KeysV (H:Hp) (kvs:BV):Prop:=∀ q∈kvs,H q.2.1=some (.tup (q.1.map V.bl))
section
variable {P:Program} {w:World} {H:Hp} {h:Heap} {a:Addr}
end
theorem KeysV.same {H H':Hp} {kvs:BV} (h:KeysV H kvs) (s:∀ b ys,H b=some (.tup ys)->H' b=some (.tup ys)):KeysV H' kvs:=fun q hq=>s _ _ (h q hq)
theorem KeysV.upd {P:Program} {w:World} {H:Hp} {kvs k1:BV} {a:Addr} {o:HO} (h:KeysV H kvs) (e:H a=some (dV P w a k1)):KeysV (upd H a o) kvs:=fun q hq=>by
 have:=h q hq
 rw [AX (fun z=>by rw [z,e] at this;exact nomatch Option.some.inj this)]
 exact this
section
variable {X:Cx} {o i e f value:Expr} {pos pos' tpos apos cpos:Pos} {td ty tx tv:TE}
end
section
variable {X:Cx} {P:Program} {w:World} {o i e f:Expr} {pos apos cpos:Pos} {td ty tx:TE}
end
section
variable {prog:Program} {w:World} {A:Around} {E:Value->Shared->Prop} {s:Shared} {d it:Addr} {o:Obj} {es:Array DictEntry} {ep i:Nat}
end
section
variable {X:Cx} {pins:List (Addr × Obj)} {σ:St} {H:Hp} {s:Shared}
theorem BVr.get {kvs:BV} {xs:List (List Bool × Addr × Value)} (r:BVr kvs xs):∀ {i:Nat} {q:List Bool × Addr × V},kvs[i]? = some q->∃ x,xs[i]? = some x/\x.2.1=q.2.1:=by
 induction r with
 | nil=>intro i q e;simp at e
 | @cons a b l1 l2 h t ih =>
  intro i q e
  cases i with
  | zero =>
   simp at e;subst e
   exact ⟨b,by simp,h.2.1.symm⟩
  | succ i =>
   obtain ⟨v,h1,h2⟩:=ih (i:=i) (q:=q) (by simpa using e)
   exact ⟨v,by simpa using h1,h2⟩
end
section
variable {X:Cx} {K:W.Frag}
end
section
variable {X:Cx} {K:W.Frag}
noncomputable def Fv (K:W.Frag):List V->Hp->VK->Prop:=fun xs H Q=>match xs with
 | [.ref l]=>∃ ns:List Int,SqL K H l (ns.map V.int)/\0 < ns.length/\∀ M,M∈ns->(∀ a∈ns,a<=M)->Q (.int M) H
 | _=>False
theorem NW (hc:X.calm=true):CallR X (.builtin "max") (Fv X.K):=by
 intro pins s σ H xs us Q I r q
 match xs,q with
 | [.ref l],q =>
 obtain ⟨ns,hl,hne,q⟩:=q
 obtain ⟨u,rfl,ru⟩:=Bd r
 cases ru
 obtain ⟨its,rv,pl,hz⟩:=I.list hl
 have hi:IntsAre its ns:=by simpa using Ec rv
 obtain ⟨zs,hzs⟩:=(hi.allInts).items
 have pl':=pl.isList
 rw [hzs] at pl'
 have hns:ns=zs.toList.map (·.1):=by
  rw [<- hi.numsOf,<- nums_intItems,<- hzs]
 have hsz:0 < zs.size:=by
  rw [hns,List.length_map,Array.length_toList] at hne;exact hne
 refine max_intList (I.ok.hd hc) pl' hsz fun v h' tk hv hk=>?_
 obtain ⟨t,rfl⟩:=intItems_at hv
 obtain ⟨h1,h2⟩:=argBest_gt (numAt zs) (zs.size - 1)
 refine ⟨.int _,H,I.kept hk,⟨t,rfl⟩,q _ ?_ fun a ha=>?_⟩
 ·rw [hns,numAt_eq];exact getD_mem (by rw [List.length_map,Array.length_toList];lia)
 ·rw [hns] at ha
  obtain ⟨j,hj,rfl⟩:=mem_getD ha
  rw [List.length_map,Array.length_toList] at hj
  rw [<- numAt_eq];exact h2 j (by lia)
theorem KN (hc:X.calm=true) (hK:X.K=K:=by rfl):CallR X (.builtin "max") (Fv K):=hK ▸ NW hc
theorem Q9:B8 (Fv K):=fun xs H Q Q' h q=>by
 unfold Fv at *
 split at q
 ·obtain ⟨ns,a,b,q⟩:=q;exact ⟨ns,a,b,fun M x y=>h _ _ (q M x y)⟩
 ·exact q.elim
end
open Classical in
noncomputable def RV (K:W.Frag) (H:Hp) (u:Value):Dv:=if h:∃ d x,RelV x u/\Rep K H d x then h.choose else .non
section
variable {X:Cx} {K:W.Frag} {pins:List (Addr × Obj)} {σ:St} {H:Hp} {s:Shared}
end
structure GFd (H:Hp) (t l:Addr) (N:Nat):Prop where
 at_:∃ (i g c:Int) (ns:List Int),0<=i/\0<=g/\0<=c/\c<=N/\H t=some (.lst [.ref l,.int i,.int g,.int c])/\l≠t/\H l=some (.lst (ns.map V.int))/\ns.length≠0
theorem GFd.same {H H':Hp} {t l:Addr} {N:Nat} (F:GFd H t l N) (h:Same H H'):GFd H' t l N:=by
 obtain ⟨i,g,c,ns,h1,h2,h3,h4,h5,h6,h7,h8⟩:=F.at_
 exact ⟨i,g,c,ns,h1,h2,h3,h4,h _ _ h5,h6,h _ _ h7,h8⟩
theorem GFd.upd {H:Hp} {t l p:Addr} {o:HO} {N:Nat} (F:GFd H t l N) (h:H p=none):GFd (L2.upd H p o) t l N:=F.same (Same.upd h)
theorem GFd.ne {H:Hp} {t l p:Addr} {N:Nat} (F:GFd H t l N) (h:H p=none):p≠t/\p≠l:=by
 obtain ⟨i,g,c,ns,h1,h2,h3,h4,h5,h6,h7,h8⟩:=F.at_
 exact ⟨fun e=>(by rw [e,h5] at h;exact nomatch h),fun e=>(by rw [e,h7] at h;exact nomatch h)⟩
inductive Dw where
 | non | bl (b:Bool) | int (i:Int) | str (x:Str) | tup (ds:List Dw) | lst (ds:List Dw) | emp
noncomputable def QI (a:Addr) (xs:List V):Heap->Prop:=fun h=>a≠sysModules/\∃ (its:List Value) (n:Nat),Vals xs its/\h.get? a=some { cls:=.type "list",data:=.seq its.toArray n }
mutual
noncomputable def RepW (K:W.Frag) (H:Hp):Dw->V->Prop
 | .non,v=>v=.non
 | .bl b,v=>v=.bl b
 | .int i,v=>v=.int i
 | .str x,v=>v=.str x
 | .tup ds,v=>∃ a xs,v=.ref a/\SqT K H a xs/\RepsW K H ds xs
 | .lst ds,v=>∃ a xs,v=.ref a/\H a=some (.ext (QI a xs))/\RepsW K H ds xs
 | .emp,v=>∃ a,v=.ref a/\H a=some (.dK [])
noncomputable def RepsW (K:W.Frag) (H:Hp):List Dw->List V->Prop
 | [],xs=>xs=[]
 | d::ds,xs=>∃ x r,xs=x::r/\RepW K H d x/\RepsW K H ds r
end
theorem RepsW.length {K:W.Frag} {H:Hp}:∀ {ds:List Dw} {xs:List V},RepsW K H ds xs->ds.length=xs.length
 | [],xs,h=>by unfold RepsW at h;subst h;rfl
 | d::ds,xs,h=>by
  unfold RepsW at h
  obtain ⟨x,r,rfl,_,h⟩:=h
  rw [List.length_cons,List.length_cons,RepsW.length h]
theorem RepsW.get {K:W.Frag} {H:Hp}:∀ {ds:List Dw} {xs:List V} {i:Nat} {d:Dw},RepsW K H ds xs->ds[i]? = some d->∃ x,xs[i]? = some x/\RepW K H d x
 | [],_,_,_,_,e=>by simp at e
 | d::ds,xs,0,_,h,e=>by
  unfold RepsW at h
  obtain ⟨x,r,rfl,h1,_⟩:=h
  simp at e;subst e
  exact ⟨x,rfl,h1⟩
 | d::ds,xs,i+1,_,h,e=>by
  unfold RepsW at h
  obtain ⟨x,r,rfl,_,h⟩:=h
  obtain ⟨y,h1,h2⟩:=RepsW.get (i:=i) h (by simpa using e)
  exact ⟨y,by simpa using h1,h2⟩
mutual
theorem RepW.same {K:W.Frag} {H H':Hp} (s:Same H H'):∀ (d:Dw) (v:V),RepW K H d v->RepW K H' d v
 | .non,v,h=>by unfold RepW at *;exact h
 | .bl b,v,h=>by unfold RepW at *;exact h
 | .int i,v,h=>by unfold RepW at *;exact h
 | .str x,v,h=>by unfold RepW at *;exact h
 | .emp,v,h=>by unfold RepW at *;obtain ⟨a,e,h⟩:=h;exact ⟨a,e,s _ _ h⟩
 | .tup ds,v,h=>by
  unfold RepW at *
  obtain ⟨a,xs,e,h1,h2⟩:=h
  exact ⟨a,xs,e,Bl h1 s,RepsW.same s ds xs h2⟩
 | .lst ds,v,h=>by
  unfold RepW at *
  obtain ⟨a,xs,e,h1,h2⟩:=h
  exact ⟨a,xs,e,s _ _ h1,RepsW.same s ds xs h2⟩
theorem RepsW.same {K:W.Frag} {H H':Hp} (s:Same H H'):∀ (ds:List Dw) (xs:List V),RepsW K H ds xs->RepsW K H' ds xs
 | [],xs,h=>by unfold RepsW at *;exact h
 | d::ds,xs,h=>by
  unfold RepsW at *
  obtain ⟨x,r,e,h1,h2⟩:=h
  exact ⟨x,r,e,RepW.same s d x h1,RepsW.same s ds r h2⟩
end
mutual
theorem RepW.frm {K:W.Frag} {H H':Hp} {t:Addr} (s:Frm t H H') (ht:∃ zs,H t=some (.lst zs)):∀ (d:Dw) (v:V),RepW K H d v->RepW K H' d v
 | .non,v,h=>by unfold RepW at *;exact h
 | .bl b,v,h=>by unfold RepW at *;exact h
 | .int i,v,h=>by unfold RepW at *;exact h
 | .str x,v,h=>by unfold RepW at *;exact h
 | .emp,v,h=>by
  unfold RepW at *
  obtain ⟨a,e,h⟩:=h
  obtain ⟨zs,hz⟩:=ht
  exact ⟨a,e,s a _ (fun q=>by rw [q,hz] at h;cases h) h⟩
 | .tup ds,v,h=>by
  unfold RepW at *
  obtain ⟨a,xs,e,h1,h2⟩:=h
  refine ⟨a,xs,e,?_,RepsW.frm s ht ds xs h2⟩
  obtain ⟨zs,hz⟩:=ht
  rcases h1 with (h1 | ⟨o,h1⟩) | h1
  ·exact .inl (.inl (s a _ (fun q=>by rw [q,hz] at h1;cases h1) h1))
  ·exact .inl (.inr ⟨o,s a _ (fun q=>by rw [q,hz] at h1;cases h1) h1⟩)
  ·exact .inr h1
 | .lst ds,v,h=>by
  unfold RepW at *
  obtain ⟨a,xs,e,h1,h2⟩:=h
  obtain ⟨zs,hz⟩:=id ht
  exact ⟨a,xs,e,s a _ (fun q=>by rw [q,hz] at h1;cases h1) h1,RepsW.frm s ht ds xs h2⟩
theorem RepsW.frm {K:W.Frag} {H H':Hp} {t:Addr} (s:Frm t H H') (ht:∃ zs,H t=some (.lst zs)):∀ (ds:List Dw) (xs:List V),RepsW K H ds xs->RepsW K H' ds xs
 | [],xs,h=>by unfold RepsW at *;exact h
 | d::ds,xs,h=>by
  unfold RepsW at *
  obtain ⟨x,r,e,h1,h2⟩:=h
  exact ⟨x,r,e,RepW.frm s ht d x h1,RepsW.frm s ht ds r h2⟩
end
section
variable {X:Cx} {K:W.Frag} {es:List Expr} {t:TA} {pos:Pos}
end
mutual
noncomputable def Kk:Dw->Nat
 | .tup ds=>G3 ds+1
 | .lst ds=>G3 ds+1
 | .emp=>1
 | _=>0
noncomputable def G3:List Dw->Nat
 | []=>0
 | d::ds=>max (Kk d) (G3 ds)
end
mutual
noncomputable def IA:Dw->Nat
 | .str x=>x.cps.size
 | .tup ds=>HP ds
 | .lst ds=>HP ds
 | _=>0
noncomputable def HP:List Dw->Nat
 | []=>0
 | d::ds=>IA d+1+HP ds
end
section
variable {X:Cx} {pins:List (Addr × Obj)} {σ:St} {H:Hp} {s:Shared}
end
section
variable {X:Cx} {K:W.Frag}
end
mutual
noncomputable def okW (n:Nat):Dw->Bool
 | .int i=>decide (i.natAbs<=n)
 | .str x=>x.cps.toList.all fun c=>decide (c < 16 ^ 8)
 | .tup ds=>GY n ds
 | .lst ds=>GY n ds
 | _=>true
noncomputable def GY (n:Nat):List Dw->Bool
 | []=>true
 | d::ds=>okW n d && GY n ds
end
structure Fit (n D B:Nat) (d:Dw):Prop where
 ok:okW n d=true
 dep:Kk d<=D
 bulk:IA d<=B
theorem J7 (val:Nat->Int):∀ i,(firstMet val i).Nodup
 | 0=>by rw [firstMet_zero];exact List.nodup_nil
 | i+1=>by
  rw [firstMet_succ]
  unfold step_dedup
  have ih:=J7 val i
  split
  ·exact ih
  ·rename_i h
   rw [List.nodup_append]
   refine ⟨ih,by simp,?_⟩
   intro a ha b hb e
   rw [List.mem_singleton.mp hb] at e
   exact h (List.any_eq_true.mpr ⟨a,ha,by rw [e];simp⟩)
theorem MO (ns:List Int) (k:Int):k∈firstMet (fun i=>ns.getD i 0) ns.length ↔ k∈ns:=by
 have h:=firstMet_any (fun i=>ns.getD i 0) ns.length k
 have e:(List.range ns.length).map (fun i=>ns.getD i 0)=ns:=by
  apply List.ext_getElem
  ·simp
  ·intro i h1 h2
   simp
   rw [List.getElem?_eq_getElem h2];rfl
 rw [e] at h
 have a1:∀ l:List Int,l.any (· == k)=true ↔ k∈l:=fun l=>by simp
 rw [<- a1,<- a1,h]
section
variable {X:Cx} {K:W.Frag}
end
noncomputable def Ris (xs:Array Nat):Prop:=xs.toList.Pairwise (· < ·)
theorem Ris.lt {xs:Array Nat} (h:Ris xs) {i k:Nat} (hik:i < k) (hk:k < xs.size) (j:Nat):xs.getD i j < xs.getD k j:=by
 have hi:i < xs.size:=Nat.lt_trans hik hk
 have:=List.pairwise_iff_getElem.mp h i k (by simpa using hi) (by simpa using hk) hik
 simpa [Array.getD,hi,hk] using this
theorem GN {xs:Array Nat} {j:Nat} (h:Ris xs):∀ (f lo hi:Nat),hi - lo<=f->lo<=hi->hi<=xs.size->(∀ i,i < lo->xs.getD i j < j)->(∀ i,hi<=i->i < xs.size->j<=xs.getD i j) ->
 SetTable.below.go xs j f lo hi<=xs.size/\(∀ i,i < SetTable.below.go xs j f lo hi->xs.getD i j < j)/\∀ i,SetTable.below.go xs j f lo hi<=i->i < xs.size->j<=xs.getD i j
 | 0,lo,hi,h1,h2,h3,h4,h5=>by
  have e:lo=hi:=by lia
  subst e
  exact ⟨h3,h4,h5⟩
 | f+1,lo,hi,h1,h2,h3,h4,h5=>by
  unfold SetTable.below.go
  by_cases hl:lo < hi
  ·rw [if_pos hl]
   dsimp only
   have hm:(lo+hi) / 2 < xs.size:=by lia
   by_cases hx:xs.getD ((lo+hi) / 2) j < j
   ·rw [if_pos hx]
    refine GN h f _ _ (by lia) (by lia) h3 (fun i hi'=>?_) h5
    rcases Nat.lt_or_ge i ((lo+hi) / 2) with z | z
    ·exact Nat.lt_trans (h.lt z hm j) hx
    ·have:i=(lo+hi) / 2:=by lia
     rw [this];exact hx
   ·rw [if_neg hx]
    refine GN h f _ _ (by lia) (by lia) (by lia) h4 (fun i hi' hs=>?_)
    rcases Nat.lt_or_ge ((lo+hi) / 2) i with z | z
    ·have:=h.lt z hs j;lia
    ·have:i=(lo+hi) / 2:=by lia
     rw [this];lia
  ·rw [if_neg hl]
   have e:lo=hi:=by lia
   subst e
   exact ⟨h3,h4,h5⟩
theorem Gn {xs:Array Nat} (h:Ris xs) (j:Nat):SetTable.below xs j<=xs.size/\(∀ i,i < SetTable.below xs j->xs.getD i j < j)/\∀ i,SetTable.below xs j<=i->i < xs.size->j<=xs.getD i j :=
 GN h _ _ _ (by lia) (by lia) (Nat.le_refl _) (fun i z=>by lia) (fun i z y=>by lia)
theorem Mf {xs:Array Nat} (h:Ris xs) {k:Nat} (hk:k < xs.size):SetTable.below xs (xs.getD k 0+1)=k+1:=by
 obtain ⟨a,b,c⟩:=Gn h (xs.getD k 0+1)
 generalize SetTable.below xs (xs.getD k 0+1)=r at a b c
 have e0:∀ i z,i < xs.size->xs.getD i z=xs.getD i 0:=fun i z hi=>by simp [Array.getD,hi]
 rcases Nat.lt_trichotomy r (k+1) with z | z | z
 ·have:=c k (by lia) hk
  rw [e0 k (xs.getD k 0+1) hk] at this;lia
 ·exact z
 ·have h1:=b (k+1) z
  have hs:k+1 < xs.size:=by lia
  have h2:=h.lt (Nat.lt_succ_self k) hs 0
  rw [e0 (k+1) (xs.getD k 0+1) hs] at h1
  have:xs.getD k 0 < xs.getD (k+1) 0:=h2
  lia
theorem OK {xs:Array Nat} (h:Ris xs):SetTable.below xs 0=0:=by
 obtain ⟨a,b,c⟩:=Gn h 0
 rcases Nat.eq_zero_or_pos (SetTable.below xs 0) with z | z
 ·exact z
 ·have:=b 0 z;lia
theorem NU {xs:Array Nat} (h:Ris xs) {j:Nat} (hn:xs[SetTable.below xs j]? ≠ some j):Ris (SetTable.insertAt xs (SetTable.below xs j) j):=by
 obtain ⟨a,b,c⟩:=Gn h j
 generalize SetTable.below xs j=r at a b c hn
 unfold Ris
 rw [SetTable.toList_insertAt,List.pairwise_append,List.pairwise_cons]
 have g:∀ i,i < xs.size->xs.toList[i]? = some (xs.getD i j):=fun i hi=>by simp [Array.getD,hi]
 have lo:∀ x∈xs.toList.take r,x < j:=fun x hx=>by
  obtain ⟨i,hi,e⟩:=List.getElem_of_mem hx
  rw [List.length_take] at hi
  rw [List.getElem_take] at e
  have hi2:i < xs.size:=by have:=(Nat.lt_min.mp hi).2;simpa using this
  have:=g i hi2
  rw [List.getElem?_eq_getElem (by simpa using hi2),e] at this
  cases this
  exact b i (Nat.lt_min.mp hi).1
 have hi:∀ x∈xs.toList.drop r,j < x:=fun x hx=>by
  obtain ⟨i,hi,e⟩:=List.getElem_of_mem hx
  rw [List.length_drop] at hi
  rw [List.getElem_drop] at e
  have hi2:r+i < xs.size:=by have:xs.toList.length=xs.size:=by simp
                             lia
  have e1:=g (r+i) hi2
  rw [List.getElem?_eq_getElem (by simpa using hi2),e] at e1
  have e2:=c (r+i) (Nat.le_add_right _ _) hi2
  have e3:x=xs.getD (r+i) j:=Option.some.inj e1
  rcases Nat.eq_zero_or_pos i with z | z
  ·subst z
   have:x≠j:=fun q=>hn (by rw [<- Array.getElem?_toList,g r hi2];rw [<- q];exact congrArg some (by rw [e3] at q;rw [e3];exact (by rw [q]:xs.getD (r+0) j=xs.getD (r+0) j) ▸ (by simp [Array.getD,show r < xs.size from hi2])))
   lia
  ·have h1:=h.lt (show r < r+i by lia) hi2 j
   have h2:=c r (Nat.le_refl _) (by lia)
   lia
 refine ⟨List.Pairwise.sublist (List.take_sublist _ _) h,⟨hi,List.Pairwise.sublist (List.drop_sublist _ _) h⟩,fun x hx y hy=>?_⟩
 rcases List.mem_cons.mp hy with rfl | hy2
 ·exact lo x hx
 ·exact Nat.lt_trans (lo x hx) (hi y hy2)
theorem Kv (t:SetTable) (p:SetTable.Probe):(t.advance p).dummy=p.dummy:=by
 unfold SetTable.advance
 split <;> rfl
noncomputable def EU (t:SetTable) (j:Nat):Prop:=t.place[SetTable.below t.place j]? ≠ some j
theorem K3 {t:SetTable} {j:Nat} (h:∀ i,t.slot j≠.live i):EU t j:=fun e=>h _ (by unfold SetTable.slot;dsimp only;rw [if_pos (by rw [e];exact beq_self_eq_true _)])
theorem probe_go {t:SetTable} {g:Nat->Int} {h:Int} {j:Nat} {d:Option Nat}:∀ (f:Nat) (p:SetTable.Probe),(∀ x,p.dummy=some x->EU t x)->SetTable.probe.go t g h f p=some (.empty j d)->EU t j/\∀ x,d=some x->EU t x
 | 0,p,hp,e=>by unfold SetTable.probe.go at e;cases e
 | f+1,p,hp,e=>by
  unfold SetTable.probe.go at e
  split at e
  ·rename_i hs
   cases e
   exact ⟨K3 (fun i z=>by rw [hs] at z;cases z),hp⟩
  ·rename_i hs
   refine probe_go f _ (fun x hx=>?_) e
   rw [Kv] at hx
   cases hx
   exact K3 fun i z=>by rw [hs] at z;cases z
  ·split at e
   ·cases e
   ·exact probe_go f _ (fun x hx=>hp x (by rw [Kv] at hx;exact hx)) e
theorem OV {t:SetTable} {h:Int} {j:Nat} {b:Bool} (e:t.freeSlot h=some (j,b)):EU t j:=by
 unfold SetTable.freeSlot at e
 split at e
 ·rename_i j' d hm
  cases e
  obtain ⟨a,c⟩:=probe_go _ _ (fun x hx=>by cases hx) (show SetTable.probe.go t _ h _ (t.probeStart h)=_ from hm)
  cases d with
  | none=>exact a
  | some x=>exact c x rfl
 ·cases e
structure TabG (w:World) (t:SetTable):Prop where
 led:t.led = !w.params.followText "set-order"
 ris:Ris t.place
theorem O2 (n:Nat):Ris (Array.range n):=by
 unfold Ris
 rw [Array.toList_range]
 exact List.pairwise_lt_range
theorem PY (w:World):TabG w (.fresh 0 0 (!w.params.followText "set-order")):=⟨rfl,List.Pairwise.nil⟩
theorem FF {w:World} {t:SetTable} (g:TabG w t) (n:Nat):TabG w (t.standIn n):=⟨g.led,O2 n⟩
theorem tg_orStandIn {w:World} {t:SetTable} (g:TabG w t) (n:Nat):TabG w (t.orStandIn n):=by
 unfold SetTable.orStandIn
 split
 ·exact g
 ·exact FF g n
theorem LW {w:World} {t:SetTable} (g:TabG w t) (es:Array (Int × Value)) (h:Int) (x:Value):TabG w (layNew t es h x).2.1:=by
 unfold layNew
 split
 ·rename_i j b e
  exact tg_orStandIn (t:=(t.put j).1) ⟨g.led,NU g.ris (OV e)⟩ _
 ·exact FF g _
theorem Nw {w:World} {t t':SetTable} (g:TabG w t) {hs:Array Int} {n:Nat} {o:Array Nat} (e:t.relaid hs n=some (t',o)):TabG w t':=by
 unfold SetTable.relaid SetTable.laid at e
 cases q:SetTable.layClean (SetTable.sizeAbove n - 1) hs with
 | none=>rw [q] at e;cases e
 | some ow =>
  rw [q] at e
  cases e
  refine ⟨g.led,?_⟩
  unfold Ris
  dsimp only
  rw [List.pairwise_map,List.pairwise_filterMap]
  refine List.Pairwise.imp (fun {a b} hab x hx y hy=>?_) List.pairwise_lt_range
  cases h1:ow.getD a none with
  | none=>rw [h1] at hx;cases hx
  | some u =>
   cases h2:ow.getD b none with
   | none=>rw [h2] at hy;cases hy
   | some v =>
    rw [h1] at hx;rw [h2] at hy
    cases hx;cases hy
    exact hab
theorem RS {w:World} {t:SetTable} (g:TabG w t) (es:Array (Int × Value)) (n:Nat):TabG w (relayAll t es n).2.1:=by
 unfold relayAll
 split
 ·rename_i t' o e
  dsimp only
  split
  ·exact Nw g e
  ·exact FF g _
 ·exact FF g _
theorem L8 {w:World} {t:SetTable} (g:TabG w t) (b:Bool):TabG w { t with plain:=b }:=⟨g.led,g.ris⟩
noncomputable def SetW (P:Program) (w:World) (h:Heap) (a:Addr) (S:Int->Bool) (n:Nat):Prop :=
 ∃ o es ep t,h.get? a=some o/\o.ExactSet/\o.data=.set es ep t/\ElemsOf (intKind P w) es.toList/\(∀ k,S k=true ↔ ∃ e∈es.toList,(intKind P w).is k e.2=true)/\es.size < scanBound/\t.fits es.size=true/\es.size=n/\TabG w t
section
variable {P:Program} {w:World} {A:Around} {E:Value->Shared->Prop} {s:Shared} {a:Addr}
theorem SetW.at {h h':Heap} {S:Int->Bool} {n:Nat} (x:SetW P w h a S n) (k:∀ o,h.get? a=some o->h'.get? a=some o):SetW P w h' a S n:=by
 obtain ⟨o,es,ep,t,h1,r⟩:=x;exact ⟨o,es,ep,t,k _ h1,r⟩
theorem SetW.of {h:Heap} {S:Int->Bool} {n:Nat} (x:SetW P w h a S n):h.SetOf (intKind P w) a S n:=by
 obtain ⟨o,es,ep,t,h1,h2,h3,h4,h5,h6,h7,h8,_⟩:=x;exact ⟨o,es,ep,t,h1,h2,h3,h4,h5,h6,h7,h8⟩
theorem Kw {h:Heap} {o:Obj} {es es':Array (Int × Value)} {ep:Nat} {t t':SetTable} {S:Int->Bool} (h1:h.get? a=some o) (h2:o.ExactSet) (h3:o.data=.set es ep t) (h4:ElemsOf (intKind P w) es'.toList)
 (h5:∀ k,S k=true ↔ ∃ e∈es'.toList,(intKind P w).is k e.2=true) (h6:es'.size < scanBound) (h7:t'.fits es'.size=true) (g:TabG w t') :
 (h.update a (Obj.putSet es' t')).get? a=some { o with data:=.set es' (ep+1) t' } /\ SetW P w (h.update a (Obj.putSet es' t')) a S es'.size :=
 have q:=SetOf_store (knd:=intKind P w) h1 h2 h3 h4 h5 h6 h7
 ⟨q.1,_,es',ep+1,t',q.1,h2,rfl,h4,h5,h6,h7,rfl,g⟩
theorem Pm {b:Bool} {Q:Unit->Shared->Prop} {s₁:Shared} (q:Q () s₁):wpAny (model P w) A (match b with | true=>rule "set.scan.the-table-gave-way" | false=>pure ()) Q E s₁:=by
 cases b with
 | true=>exact wpAny_rule q
 | false=>exact wpAny_pure q
theorem JU {g:Bool->Sem Unit} (hg:∀ (b:Bool) (s₁:Shared) (Q:Unit->Shared->Prop),Q () s₁->wpAny (model P w) A (g b) Q E s₁) {o:Obj} {es es1:Array (Int × Value)} {ep:Nat} {t t2:SetTable} {S:Int->Bool} {wd:Bool} {R:Option Bool->Shared->Prop}
 (h1:s.heap.get? a=some o) (h2:o.ExactSet) (h3:o.data=.set es ep t) (h4:ElemsOf (intKind P w) es1.toList) (h5:∀ k,S k=true ↔ ∃ e∈es1.toList,(intKind P w).is k e.2=true) (h6:es1.size < scanBound) (h7:t2.fits es1.size=true) (gd:TabG w t2)
 (fin:∀ h',Heap.SameBut a s.heap h'->SetW P w h' a S es1.size->R (some true) { s with heap:=h' }) :
 wpAny (model P w) A (do
  storeSet a es1 t2
  if (!wd && t2.tooFull)=true then do
   g (relayAll t2 es1 (SetTable.grown es1.size)).2.2;storeSet a (relayAll t2 es1 (SetTable.grown es1.size)).1 (relayAll t2 es1 (SetTable.grown es1.size)).2.1
   pure (some true)
   else
    pure (some true)) R E s:=by
 obtain ⟨k1,k2⟩:=Kw h1 h2 h3 h4 h5 h6 h7 gd
 refine wpAny_bind (wpAny_storeSet_of h1 h3 ?_ (fits_of_scanBound h6))
 have sb:=Heap.SameBut.update s.heap a (Obj.putSet es1 t2)
 split
 ·have pm:=relayAll_perm t2 es1 (SetTable.grown es1.size)
  have ft:=relayAll_fits t2 es1 (SetTable.grown es1.size)
  have tg:=RS gd es1 (SetTable.grown es1.size)
  generalize relayAll t2 es1 (SetTable.grown es1.size)=V at pm ft tg ⊢
  obtain ⟨e2,t3,gv⟩:=V
  dsimp only at pm ft tg ⊢
  have z:e2.size=es1.size:=by rw [<- Array.length_toList,pm.length_eq,Array.length_toList]
  obtain ⟨_,k4⟩:=Kw (S:=S) k1 h2 rfl (h4.perm pm) (fun k=>(h5 k).trans ⟨fun ⟨e,x,y⟩=>⟨e,pm.mem_iff.mpr x,y⟩,fun ⟨e,x,y⟩=>⟨e,pm.mem_iff.mp x,y⟩⟩) (by rw [z];exact h6) ft tg
  rw [z] at k4
  exact wpAny_bind (hg _ _ _ (wpAny_bind (wpAny_storeSet_of k1 rfl (wpAny_pure (fin _ (sb.trans (Heap.SameBut.update _ a _)) k4)) (fits_of_scanBound (by rw [z];exact h6)))))
 ·exact wpAny_pure (fin _ sb k2)
theorem Ps {S:Int->Bool} {n:Nat} {k:Int} {x:Value} {Q:Bool->Shared->Prop} (hk:(intKind P w).is k x=true) (hx:x.scannable=true) (hS:SetW P w s.heap a S n) (hn:n+1 < scanBound)
 (fin:∀ h',Heap.SameBut a s.heap h'->SetW P w h' a (fun k'=>S k' || decide (k'=k)) (if S k then n else n+1)->Q (!S k) { s with heap:=h' }) :
 wpAny (model P w) A (setAddHashed a x ((intKind P w).hash k)) Q E s:=by
 obtain ⟨o,es,ep,t,h1,h2,h3,h4,h5,h6,h7,h8,gd⟩:=hS
 unfold setAddHashed setAddHashedIn;refine wpAny_holding (wpAny_bind (wpAny_setState_of h1 h3 h7 ?_));dsimp only
 rw [byScan_of hx h6 h4];simp only [↓reduceIte]
 unfold setAddByScan
 refine wpAny_bind (wpAny_bind (wpAny_rule (wpAny_bind (wpAny_setScan_of hk h1 h3 h7 h4 ?_))))
 cases hr:List.findIdx? (fun e=>(intKind P w).is k e.2) es.toList with
 | some j =>
  dsimp only
  obtain ⟨hj,hp,_⟩:=List.findIdx?_eq_some_iff_getElem.mp hr
  have sk:S k=true:=(h5 k).mpr ⟨es.toList[j],List.getElem_mem hj,hp⟩
  have q:=fin s.heap (Heap.SameBut.refl a s.heap) ⟨o,es,ep,t,h1,h2,h3,h4,(fun k'=>by
   rw [Bool.or_eq_true,decide_eq_true_eq,<- h5 k']
   exact ⟨fun z=>z.elim id (fun e=>e ▸ sk),.inl⟩),h6,h7,(by rw [sk];exact h8),gd⟩
  rw [sk] at q
  exact wpAny_pure (wpAny_pure q)
 | none =>
  dsimp only
  have sk:S k=false:=by
   cases z:S k with
   | false=>rfl
   | true =>
    obtain ⟨e,he,hp⟩:=(h5 k).mp z
    have:=List.findIdx?_eq_none_iff.mp hr e he;rw [hp] at this;cases this
  have pm:=layNew_perm t es ((intKind P w).hash k) x
  have ft:=layNew_fits t es ((intKind P w).hash k) x
  have tg:=LW gd es ((intKind P w).hash k) x
  generalize layNew t es ((intKind P w).hash k) x=V at pm ft tg ⊢
  obtain ⟨e1,t1,wd,gv⟩:=V
  dsimp only at pm ft tg ⊢
  rw [Array.toList_push] at pm
  have z1:e1.size=n+1:=by rw [<- Array.length_toList,pm.length_eq,List.length_append,Array.length_toList,h8];rfl
  have c1:ElemsOf (intKind P w) e1.toList:=(h4.push hk hx).perm pm
  have c2:∀ k',(S k' || decide (k'=k))=true ↔ ∃ e∈e1.toList,(intKind P w).is k' e.2=true:=mem_push_iff hk h5 pm
  have en:∀ h',Heap.SameBut a s.heap h'->SetW P w h' a (fun k'=>S k' || decide (k'=k)) e1.size->Q true { s with heap:=h' }:=fun h' sb q=>by
   have r:=fin h' sb;rw [sk] at r;rw [z1] at q;exact r q
  have gw:∀ (b:Bool) (s₁:Shared) (Q':Unit->Shared->Prop),Q' () s₁->wpAny (model P w) A (match b with | true=>rule "set.scan.the-table-gave-way" | false=>pure ()) Q' E s₁:=fun b s₁ Q' q=>Pm q
  refine wpAny_bind (gw _ _ _ ?_)
  split
  ·refine wpAny_bind ?_
   rw [hashByValue_scannable 8 hx]
   refine wpAny_pure (JU gw h1 h2 h3 c1 c2 (by rw [z1];exact hn) ?_ ?_ fun h' sb q=>wpAny_pure (en h' sb q))
   ·split
    ·exact ft
    ·exact SetTable.fits_plain_off ft
   ·split
    ·exact tg
    ·exact L8 tg _
  ·refine wpAny_bind (wpAny_pure ?_);simp only [↓reduceIte]
   exact JU gw h1 h2 h3 c1 c2 (by rw [z1];exact hn) ft tg fun h' sb q=>wpAny_pure (en h' sb q)
end
section
variable {P:Program} {w:World} {A:Around} {E:Value->Shared->Prop} {s:Shared} {a:Addr}
theorem SetW.congr {h:Heap} {S S':Int->Bool} {n n':Nat} (x:SetW P w h a S n) (e:∀ k,S k=S' k) (en:n=n'):SetW P w h a S' n':=by
 obtain rfl:S=S':=funext e
 subst en;exact x
noncomputable def EV (P:Program) (w:World) (h:Heap) (a:Addr) (f:Nat->Int) (i:Nat):Prop:=SetW P w h a (fun k=>(firstMet f i).any (· == k)) (firstMet f i).length
theorem JS {R:Result->Shared->Prop} {I:Addr} {fp wr:List Addr} {G:Array GenState->Array GenState->Prop} {n:Nat} {Pv:Nat->Value->Prop} {St:Nat->Shared->Prop} (W:WalksS P w A.in1 I fp wr G n Pv St) (ha:a∉fp)
 (f:Nat->Int) (hf:∀ i v,Pv i v->∃ t,v=.int (f i) t) (hb:n+1 < scanBound):∀ (k i:Nat) (s:Shared),n - i=k->i<=n->St i s->EV P w s.heap a f i ->
  (∀ s',Moved (a::wr) G s s'->EV P w s'.heap a f n->R (.ok (.ret .none)) s')->codeAny (model P w) A (.builtin "set.update.loop" ⟨[.ref a,.ref I],[]⟩) R s
 | 0,i,s,hk,hi,st,hS,hR=>by
  obtain rfl:i=n:=by lia
  refine codeAny_builtin PyProof.Rows.F.entry_set_update_loop ?_
  rw [Around.under_plainId PyProof.Rows.F.plain_set_update_loop _]
  show wpAny _ A.in1 (pyNext (.ref I) >>= _) _ _ s;refine wpAny_bind (W.done s _ _ st fun s' hm=>wpAny_pure (hR s' (hm.mono fun b hb=>List.mem_cons_of_mem _ hb) (hS.at fun o e=>hm.heap a o (fun z=>ha (W.sub _ z)) e)))
 | k+1,i,s,hk,hi,st,hS,hR=>by
  have hlt:i < n:=by lia
  refine codeAny_builtin PyProof.Rows.F.entry_set_update_loop ?_
  rw [Around.under_plainId PyProof.Rows.F.plain_set_update_loop _]
  show wpAny _ A.in1 (pyNext (.ref I) >>= _) _ _ s;refine wpAny_bind (W.item i s _ _ hlt st fun v s' hP st' hm=>?_)
  obtain ⟨t,rfl⟩:=hf i v hP
  have hS':EV P w s'.heap a f i:=hS.at fun o e=>hm.heap a o (fun z=>ha (W.sub _ z)) e
  show wpAny _ A.in1 (holding [Value.int (f i) t] (setAdd a (.int (f i) t)) >>= _) _ _ s'
  refine wpAny_bind (wpAny_holding ?_);unfold setAdd
  refine wpAny_holding (wpAny_bind ((intKind P w).pyHash (k:=f i) (intKind_is _ _ _ _) ?_))
  refine Ps (s:={ s' with toks:=s'.toks+1 }) (intKind_is _ _ _ _) rfl hS' (by have:=firstMet_length_le f i;lia) fun h' sb q=>?_
  refine wpAny_pure ⟨plainId_quiet PyProof.Rows.F.plain_set_update_loop _,JS W ha f hf hb k (i+1) _ (by lia) hlt (W.frame _ s' _ _ st' (Nat.le_succ _) fun b hb' o e=>?_)
   (q.congr (fun k'=>by rw [firstMet_succ,step_any]) (by rw [firstMet_succ,step_length])) fun s'' hm2 hS2=>?_⟩
  ·rw [sb.2 b (fun z:b=a=>ha (by rw [<- z];exact hb'))];exact e
  ·refine hR s'' (Moved.trans W.gtrans ((hm.mono fun b hb=>List.mem_cons_of_mem _ hb).then_heap (Nat.le_succ _) fun b o hb' e=>?_) hm2) hS2
   rw [sb.2 b (fun z:b=a=>hb' (by rw [z];exact List.mem_cons_self))];exact e
theorem Lr (v:Value) {Q:Value->Shared->Prop} (h:Q (.ref s.heap.objs.size) { s with heap:=s.heap.push { cls:=.type "set",dict:=none,data:=.set #[] 0 (.fresh 0 0 (!w.params.followText "set-order")) } }) :
 codeAny (model P w) A (.call (.builtin "set.__new__") ⟨[.type "set",v],[]⟩) (wants Q E) s:=by
 refine codeAny_of_tree ?_
 show wpAny _ A.in1 (do checkBuiltinCall "set.__new__" ⟨[.type "set",v],[]⟩;again (.builtin "set.__new__" ⟨[.type "set",v],[]⟩)) _ _ s
 refine wpAny_bind (wpAny_of_eq (PySem.F.newCall_set_1 v) (wpAny_pure ⟨plainId_quiet PySem.F.plain_set_new _,codeAny_builtin PySem.F.entry_set_new ?_⟩))
 rw [Around.under_plainId PySem.F.plain_set_new _]
 unfold Builtin.«set.__new__» Builtin.Frozenset.newClass;have hsub:=PySem.sub_set_self
 obtain ⟨hp,g,d,tk,os⟩:=s;dsimp only;wp_walk
 refine wpAny_askSetting (wpAny_pure ?_);dsimp only;simp only [newObj]
 exact wpAny_bind (wpAny_alloc (wpAny_pure (wpAny_pure h)))
end
namespace F
theorem slot_set_iterator_next:Slot "set_iterator" "__next__" "set_iterator.__next__" :=
 .of (owner:="set_iterator") (n:="__next__") (by rw [typeLookup_type,builtinLookup_eq_fast];kernel_rfl) (by decide +kernel) (by decide +kernel) (by decide +kernel) (by first | exact .inl (by decide +kernel) | exact .inr (by decide +kernel)) (by rw [isSubtype_type];kernel_rfl)
theorem slot_set_iterator_iter:Slot "set_iterator" "__iter__" "set_iterator.__iter__" :=
 .of (owner:="set_iterator") (n:="__iter__") (by rw [typeLookup_type,builtinLookup_eq_fast];kernel_rfl) (by decide +kernel) (by decide +kernel) (by decide +kernel) (by first | exact .inl (by decide +kernel) | exact .inr (by decide +kernel)) (by rw [isSubtype_type];kernel_rfl)
theorem entry_set_iterator_next:entryFor table "set_iterator.__next__" = some Builtin.«set_iterator.__next__»:=entryFor_of_tree (by kernel_rfl)
theorem entry_set_iterator_iter:entryFor table "set_iterator.__iter__" = some Builtin.«dict_keyiterator.__iter__»:=entryFor_alias (id':="dict_keyiterator.__iter__") (by kernel_rfl) (by first | rfl | decide +kernel | (unfold String.splitOn;simp +decide [String.splitOnAux])) (by decide +kernel) (by kernel_rfl)
theorem entry_set_iter:entryFor table "set.__iter__" = some Builtin.«frozenset.__iter__»:=entryFor_alias (id':="frozenset.__iter__") (by kernel_rfl) rfl (by decide +kernel) (by kernel_rfl)
theorem args_set_iterator_next (a:Value):argsOk "set_iterator.__next__" ⟨[a],[]⟩:=by unfold argsOk;kernel_rfl
theorem args_set_iterator_iter (a:Value):argsOk "set_iterator.__iter__" ⟨[a],[]⟩:=by unfold argsOk;kernel_rfl
end F
theorem Lg {M:Model} {A:Around} {E:Value->Shared->Prop} {s:Shared} {src:Source} {n:Nat} {Q:Nat->Shared->Prop} (hn:n≠0) (h:∀ i d,i < n->Q i { s with drawn:=d }):wpAny M A (choose src n) Q E s :=
 fun _ _ _=>⟨hn,h _ _ (Nat.mod_lt _ (Nat.pos_of_ne_zero hn))⟩
theorem IE {α:Type} {l:List α} {i:Nat} (h:i < l.length):(l[i]::l.eraseIdx i).Perm l:=by
 rw [List.eraseIdx_eq_take_drop_succ]
 have e:l=l.take i++l[i]::l.drop (i+1):=by rw [<- List.drop_eq_getElem_cons h,List.take_append_drop]
 exact List.perm_middle.symm.trans (e ▸ .rfl)
theorem Hx {M:Model} {A:Around} {E:Value->Shared->Prop} {α:Type}:∀ (n:Nat) (xs:List α) (s:Shared) (Q:List α->Shared->Prop),xs.length=n->(∀ ys d,ys.Perm xs->Q ys { s with drawn:=d })->wpAny M A (drawOrder n xs) Q E s
 | 0,xs,s,Q,hl,h=>by
  obtain rfl:xs=[]:=List.length_eq_zero_iff.mp hl
  unfold drawOrder
  exact wpAny_pure (h [] s.drawn .nil)
 | n+1,[],s,Q,hl,h=>by cases hl
 | n+1,x0::r,s,Q,hl,h=>by
  unfold drawOrder
  refine wpAny_bind (Lg (by simp) fun i d hi=>?_)
  obtain ⟨x,hx⟩:∃ x,(x0::r)[i]? = some x:=⟨_,List.getElem?_eq_getElem hi⟩
  rw [hx]
  dsimp only
  refine wpAny_bind (Hx n _ _ _ (by rw [List.length_eraseIdx];simp only [hi,if_true];lia) fun ys d2 hp=>wpAny_pure ?_)
  refine h _ d2 ?_
  have e:(x0::r)[i]=x:=by rw [List.getElem?_eq_getElem hi] at hx;exact Option.some.inj hx
  exact (List.Perm.cons x hp).trans (e ▸ IE hi)
theorem IH {α:Type} (nx:Nat->Nat):∀ (f k:Nat) (l:List α) (out:Array α),l.length=f->(pickOrder.go nx f k l out).toList.Perm (out.toList++l)
 | 0,k,l,out,hl=>by
  obtain rfl:l=[]:=List.length_eq_zero_iff.mp hl
  unfold pickOrder.go
  rw [List.append_nil]
 | f+1,k,l,out,hl=>by
  unfold pickOrder.go
  have hi:nx k % l.length < l.length:=Nat.mod_lt _ (by lia)
  rw [List.getElem?_eq_getElem hi]
  dsimp only
  refine (IH nx f (k+1) _ _ (by rw [List.length_eraseIdx];simp only [hi,if_true];lia)).trans ?_
  rw [Array.toList_push,List.append_assoc]
  exact List.Perm.append_left _ (IE hi)
theorem HN {α:Type} (nx:Nat->Nat) (xs:Array α):(pickOrder nx xs).toList.Perm xs.toList:=by
 have:=IH nx xs.size 0 xs.toList #[] (by simp)
 rw [List.nil_append] at this
 exact this
noncomputable def IsSetIter (h:Heap) (I:Addr) (f:Value) (i:Nat) (a:Addr) (n ep:Nat):Prop:=∃ o,h.get? I=some o/\o.cls=.type "set_iterator" /\ o.data=.fields #[f,.int i 0,.ref a,.int n 0,.int ep 0]
theorem IsSetIter.typeIs {s:Shared} {I a:Addr} {f:Value} {i n ep:Nat} (x:IsSetIter s.heap I f i a n ep):s.TypeIs (.ref I) "set_iterator":=let ⟨o,ho,hc,_⟩:=x;⟨o,ho,hc⟩
theorem IsSetIter.at {h h':Heap} {I a:Addr} {f:Value} {i n ep:Nat} (x:IsSetIter h I f i a n ep) (e:∀ o,h.get? I=some o->h'.get? I=some o):IsSetIter h' I f i a n ep:=let ⟨o,ho,r⟩:=x;⟨o,e _ ho,r⟩
section
variable {P:Program} {w:World} {A:Around} {E:Value->Shared->Prop} {s:Shared} {a I:Addr}
theorem FA {h:Heap} {o:Obj} {vs:Array Value} (ho:h.get? I=some o) (hd:o.data=.fields vs) (k:Nat) (x:Value):∃ o',(h.update I (Obj.mapFields (·.setIfInBounds k x))).get? I=some o'/\o'.cls=o.cls/\o'.data=.fields (vs.setIfInBounds k x) :=
 ⟨_,Heap.get?_update_self _ ho (Obj.isFreed_of_fields (Obj.data_mapFields hd _)),Obj.cls_mapFields ..,Obj.data_mapFields hd _⟩
theorem Ht {o:Obj} {es:Array (Int × Value)} {ep i slot nx:Nat} {t:SetTable} {x:Value} {Q:Option Value->Shared->Prop} (hit:IsSetIter s.heap I (.int slot 0) i a es.size ep) (h1:s.heap.get? a=some o) (h3:o.data=.set es ep t) (h7:t.fits es.size=true)
 (hn:∀ (A:Around) (E:Value->Shared->Prop) (Q:Option (Value × Nat)->Shared->Prop),Q (some (x,nx)) s->wpAny (model P w) A (setNext a slot i ep) Q E s)
 (hQ:∀ h',IsSetIter h' I (.int nx 0) (i+1) a es.size ep->Heap.SameBut I s.heap h'->Q (some x) { s with heap:=h' }):wpAny (model P w) A (pyNext (.ref I)) Q E s:=by
 obtain ⟨oi,ho,hc,hd⟩:=id hit
 unfold pyNext
 refine wpAny_bind (wpAny_attempt (wpAny_callSpecial?_slot (name:=Str.ofString "__next__") hit.typeIs F.slot_set_iterator_next (wpAny_call_entry F.slot_set_iterator_next hit.typeIs F.entry_set_iterator_next ?_ (F.args_set_iterator_next _))))
 show wpAny _ _ (fieldsOf (.ref I) >>= _) _ _ s
 refine wpAny_bind (wpAny_fieldsOf ho hd ?_);dsimp only
 refine wpAny_bind (wpAny_setEntries_of h1 h3 h7 ?_)
 refine wpAny_ite_split (fun hab=>absurd hab (by simp)) (fun _=>?_)
 refine wpAny_bind (hn _ _ _ ?_)
 dsimp only
 obtain ⟨o1,ho1,hc1,hd1⟩:=FA ho hd 0 (rawInt nx)
 refine wpAny_bind (wpAny_setField ho hd (by simp) (wpAny_bind (wpAny_setField ho1 hd1 (by simp) (wpAny_pure ⟨x,rfl,wpAny_pure (hQ _ ?_ ((Heap.SameBut.update ..).trans (Heap.SameBut.update ..)))⟩))))
 obtain ⟨o2,ho2,hc2,hd2⟩:=FA ho1 hd1 1 (rawInt (i+1))
 exact ⟨o2,ho2,hc2.trans (hc1.trans hc),by rw [hd2];simp [rawInt]⟩
theorem LM {o:Obj} {es:Array (Int × Value)} {ep i slot:Nat} {t:SetTable} {Q:Option Value->Shared->Prop} (hh:A.handled=none) (hit:IsSetIter s.heap I (.int slot 0) i a es.size ep) (h1:s.heap.get? a=some o) (h3:o.data=.set es ep t) (h7:t.fits es.size=true)
 (hn:∀ (A:Around) (E:Value->Shared->Prop) (Q:Option (Value × Nat)->Shared->Prop),Q none s->wpAny (model P w) A (setNext a slot i ep) Q E s)
 (hQ:∀ h',Heap.ExtBut I s.heap h'->Q none { s with heap:=h' }):wpAny (model P w) A (pyNext (.ref I)) Q E s:=by
 obtain ⟨oi,ho,hc,hd⟩:=id hit
 unfold pyNext
 refine wpAny_bind (wpAny_attempt (wpAny_callSpecial?_slot (name:=Str.ofString "__next__") hit.typeIs F.slot_set_iterator_next (wpAny_call_entry F.slot_set_iterator_next hit.typeIs F.entry_set_iterator_next ?_ (F.args_set_iterator_next _))))
 show wpAny _ _ (fieldsOf (.ref I) >>= _) _ _ s
 refine wpAny_bind (wpAny_fieldsOf ho hd ?_);dsimp only
 refine wpAny_bind (wpAny_setEntries_of h1 h3 h7 ?_)
 refine wpAny_ite_split (fun hab=>absurd hab (by simp)) (fun _=>?_)
 refine wpAny_bind (hn _ _ _ ?_)
 dsimp only
 refine wpAny_bind (wpAny_setField ho hd (by simp) ?_);show wpAny _ _ (newExc (.type "StopIteration") [] >>= _) _ _ _
 refine wpAny_bind ?_
 simp only [newExc,newTuple]
 refine wpAny_bind (wpAny_newObj_type (wpAny_bind (m:=firstArgMember _ _) (wpAny_of_eq (a:=Value.none) (by first | rfl | (simp only [firstArgMember];rfl)) (wpAny_newObj_type ?_ (by size_fits)))) (by size_fits))
 simp only [raiseNew]
 refine wpAny_bind (wpAny_handled ?_);first | rw [show A.in1.handled=none from hh] | rw [hh]
 refine wpAny_bind (wpAny_pure (wpAny_throw ?st));refine wpAny_bind (wpAny_isInstance (T:="StopIteration") (b:=true) ⟨_,Heap.get?_push_size _ rfl,rfl⟩ isSubtype_stop ?_)
 exact wpAny_pure (hQ _ ((((Heap.SameBut.update ..)).extBut.push _).push _))
theorem Qq {o ot:Obj} {es:Array (Int × Value)} {ep i tp nt:Nat} {t:SetTable} {ps:Array Value} {p:Nat} {x:Int × Value} {Q:Option Value->Shared->Prop} (hit:IsSetIter s.heap I (.ref tp) i a es.size ep) (h1:s.heap.get? a=some o) (h3:o.data=.set es ep t) (h7:t.fits es.size=true)
 (ht:s.heap.get? tp=some ot) (hdt:ot.data=.seq ps nt) (hp:ps[i]? = some (.int p 0)) (hx:es[p]? = some x)
 (hQ:∀ h',IsSetIter h' I (.ref tp) (i+1) a es.size ep->Heap.SameBut I s.heap h'->Q (some x.2) { s with heap:=h' }):wpAny (model P w) A (pyNext (.ref I)) Q E s:=by
 obtain ⟨oi,ho,hc,hd⟩:=id hit
 unfold pyNext
 refine wpAny_bind (wpAny_attempt (wpAny_callSpecial?_slot (name:=Str.ofString "__next__") hit.typeIs F.slot_set_iterator_next (wpAny_call_entry F.slot_set_iterator_next hit.typeIs F.entry_set_iterator_next ?_ (F.args_set_iterator_next _))))
 show wpAny _ _ (fieldsOf (.ref I) >>= _) _ _ s
 refine wpAny_bind (wpAny_fieldsOf ho hd ?_);dsimp only
 refine wpAny_bind (wpAny_setEntries_of h1 h3 h7 ?_)
 refine wpAny_ite_split (fun hab=>absurd hab (by simp)) (fun _=>?_)
 refine wpAny_bind (wpAny_seqItems ht hdt ?_)
 simp only [Int.toNat_natCast,hp]
 unfold setNextDrawn
 refine wpAny_bind (wpAny_bind (wpAny_setState_of h1 h3 h7 ?_))
 dsimp only
 refine wpAny_ite_split (fun hab=>absurd hab (by simp)) (fun _=>?_)
 rw [hx]
 refine wpAny_pure (wpAny_bind (wpAny_setField ho hd (by simp) (wpAny_pure ⟨x.2,rfl,wpAny_pure (hQ _ ?_ (Heap.SameBut.update ..))⟩)))
 obtain ⟨o2,ho2,hc2,hd2⟩:=FA ho hd 1 (rawInt (i+1))
 exact ⟨o2,ho2,hc2.trans hc,by rw [hd2];simp [rawInt]⟩
theorem OH {o ot:Obj} {es:Array (Int × Value)} {ep i tp nt:Nat} {t:SetTable} {ps:Array Value} {Q:Option Value->Shared->Prop} (hh:A.handled=none) (hit:IsSetIter s.heap I (.ref tp) i a es.size ep) (h1:s.heap.get? a=some o) (h3:o.data=.set es ep t) (h7:t.fits es.size=true)
 (ht:s.heap.get? tp=some ot) (hdt:ot.data=.seq ps nt) (hp:ps[i]? = none)
 (hQ:∀ h',Heap.ExtBut I s.heap h'->Q none { s with heap:=h' }):wpAny (model P w) A (pyNext (.ref I)) Q E s:=by
 obtain ⟨oi,ho,hc,hd⟩:=id hit
 unfold pyNext
 refine wpAny_bind (wpAny_attempt (wpAny_callSpecial?_slot (name:=Str.ofString "__next__") hit.typeIs F.slot_set_iterator_next (wpAny_call_entry F.slot_set_iterator_next hit.typeIs F.entry_set_iterator_next ?_ (F.args_set_iterator_next _))))
 show wpAny _ _ (fieldsOf (.ref I) >>= _) _ _ s
 refine wpAny_bind (wpAny_fieldsOf ho hd ?_);dsimp only
 refine wpAny_bind (wpAny_setEntries_of h1 h3 h7 ?_)
 refine wpAny_ite_split (fun hab=>absurd hab (by simp)) (fun _=>?_)
 refine wpAny_bind (wpAny_seqItems ht hdt ?_)
 simp only [Int.toNat_natCast,hp]
 obtain ⟨o1,ho1,hc1,hd1⟩:=FA ho hd 0 (rawInt 0)
 refine wpAny_bind (wpAny_setField ho hd (by simp) (wpAny_bind (wpAny_setField ho1 hd1 (by simp) ?_)))
 show wpAny _ _ (newExc (.type "StopIteration") [] >>= _) _ _ _;refine wpAny_bind ?_
 simp only [newExc,newTuple]
 refine wpAny_bind (wpAny_newObj_type (wpAny_bind (m:=firstArgMember _ _) (wpAny_of_eq (a:=Value.none) (by first | rfl | (simp only [firstArgMember];rfl)) (wpAny_newObj_type ?_ (by size_fits)))) (by size_fits))
 simp only [raiseNew]
 refine wpAny_bind (wpAny_handled ?_);first | rw [show A.in1.handled=none from hh] | rw [hh]
 refine wpAny_bind (wpAny_pure (wpAny_throw ?st));refine wpAny_bind (wpAny_isInstance (T:="StopIteration") (b:=true) ⟨_,Heap.get?_push_size _ rfl,rfl⟩ isSubtype_stop ?_)
 exact wpAny_pure (hQ _ ((((Heap.SameBut.update ..).trans (Heap.SameBut.update ..)).extBut.push _).push _))
theorem G9 {f:Value} {i n ep:Nat} {Q:Value->Shared->Prop} (hit:IsSetIter s.heap I f i a n ep) (h:Q (.ref I) s):wpAny (model P w) A (pyIter (.ref I)) Q E s:=by
 refine wpAny_pyIter_slot hit.typeIs F.slot_set_iterator_iter (wpAny_call_entry F.slot_set_iterator_iter hit.typeIs F.entry_set_iterator_iter ?_ (F.args_set_iterator_iter _))
 show wpAny _ _ (ret (.ref I)) _ _ s
 exact wpAny_pure ⟨_,rfl,"set_iterator",_,hit.typeIs,F.slot_set_iterator_next.lookup,h⟩
end
section
variable {P:Program} {w:World} {A:Around} {E:Value->Shared->Prop} {s:Shared} {a I:Addr}
theorem KC {l:List (Int × Value)} (h:ElemsOf (intKind P w) l) {e:Int × Value} (he:e∈l):∃ t,e.2=.int (numOf e.2) t:=by
 obtain ⟨⟨k,hk,_⟩,_⟩:=h e he
 obtain ⟨t,et⟩:=Value.isInt_shape (show Value.isInt k e.2=true from hk)
 exact ⟨t,by rw [et];rfl⟩
theorem Hn {l:List (Int × Value)} (h:ElemsOf (intKind P w) l) (k:Int):k∈l.map (fun (e:Int × Value)=>numOf e.2) ↔ ∃ e∈l,(intKind P w).is k e.2=true:=by
 rw [List.mem_map]
 constructor
 ·rintro ⟨e,he,rfl⟩
  obtain ⟨t,et⟩:=KC h he
  exact ⟨e,he,by rw [et];exact intKind_is _ _ _ _⟩
 ·rintro ⟨e,he,hk⟩
  obtain ⟨t,et⟩:=Value.isInt_shape (show Value.isInt k e.2=true from hk)
  exact ⟨e,he,by rw [et];rfl⟩
theorem Fe {Q:Bool->Shared->Prop} (h:Q (w.params.followText "set-order") s):wpAny (model P w) A setsByText Q E s:=by
 unfold setsByText
 exact wpAny_bind (wpAny_askSetting (wpAny_pure h))
theorem J6 {o:Obj} {es:Array (Int × Value)} {ep i:Nat} {t:SetTable} (hx:w.params.followText "set-order" = true) (h1:s.heap.get? a=some o) (h3:o.data=.set es ep t) (h7:t.fits es.size=true) {Q:Option (Value × Nat)->Shared->Prop}
 (h:Q (((pickOrder (w.params.setOrder a ep) es)[i]?).map fun e=>(e.2,0)) s):wpAny (model P w) A (setNext a 0 i ep) Q E s:=by
 unfold setNext
 refine wpAny_bind (wpAny_setState_of h1 h3 h7 ?_);dsimp only
 refine wpAny_bind (Fe ?_);rw [hx];simp only [↓reduceIte]
 refine wpAny_ite_split (fun hab=>absurd hab (by simp)) (fun _=>?_)
 unfold setWalk
 refine wpAny_bind (wpAny_bind (wpAny_setState_of h1 h3 h7 ?_));dsimp only
 refine wpAny_bind (Fe ?_);rw [hx];simp only [↓reduceIte]
 exact wpAny_bind (wpAny_askSetting (wpAny_pure (wpAny_pure h)))
theorem K8 {o:Obj} {es:Array (Int × Value)} {ep i sl:Nat} {t:SetTable} (hx:w.params.followText "set-order" = false) (h1:s.heap.get? a=some o) (h3:o.data=.set es ep t) (h7:t.fits es.size=true) (hl:t.led=true) (hd:(!t.plain && decide (es.size > 1))=false)
 {k:Nat} (hk:SetTable.below t.place sl=k) {Q:Option (Value × Nat)->Shared->Prop}
 (h:Q (match es[k]?,t.place[k]? with | some (_,x),some j=>some (x,j+1) | _,_=>none) s):wpAny (model P w) A (setNext a sl i ep) Q E s:=by
 unfold setNext
 refine wpAny_bind (wpAny_setState_of h1 h3 h7 ?_);dsimp only
 refine wpAny_bind (Fe ?_);rw [hx]
 refine wpAny_ite_split (fun hab=>absurd hab (by simp)) (fun _=>?_)
 refine wpAny_ite_split (fun hab=>absurd (show (!t.plain && decide (es.size > 1))=true from hab) (by rw [hd];simp)) (fun _=>?_)
 refine wpAny_bind ?_
 show wpAny _ _ (if (!t.led && !es.isEmpty)=true then unsupported "set:maker-not-led" else pure ()) _ _ _
 refine wpAny_ite_split (fun hab=>absurd hab (by rw [hl];simp)) (fun _=>wpAny_pure ?_)
 subst hk
 exact wpAny_pure h
noncomputable def FQ (L:List (Int × Value)) (i:Nat) (v:Value):Prop:=∃ t,v=.int ((L.map fun (e:Int × Value)=>numOf e.2).getD i 0) t
theorem GW {L:List (Int × Value)} (h:ElemsOf (intKind P w) L) {i:Nat} {e:Int × Value} (he:L[i]? = some e):FQ L i e.2:=by
 obtain ⟨t,et⟩:=KC h (List.mem_of_getElem? he)
 refine ⟨t,?_⟩
 rw [List.getD_eq_getElem?_getD,List.getElem?_map,he]
 exact et
theorem NZ {o:Obj} {es:Array (Int × Value)} {ep:Nat} {t:SetTable} (hh:A.handled=none) (hne:a≠I) (hx:w.params.followText "set-order" = true) (h3:o.data=.set es ep t) (h4:ElemsOf (intKind P w) es.toList) (h7:t.fits es.size=true) :
 Walks P w A I [I,a] [I] es.size (FQ (pickOrder (w.params.setOrder a ep) es).toList) (fun i h=>IsSetIter h I (.int 0 0) i a es.size ep/\h.get? a=some o) where
 sub:=fun b hb=>by simp at hb;simp [hb]
 frame:=fun _ _ _ st hk=>⟨st.1.at fun o e=>hk I (by simp) o e,hk a (by simp) _ st.2⟩
 item:=fun i s Q E hi st hQ=>by
  have pm:=HN (w.params.setOrder a ep) es
  have hl:i < (pickOrder (w.params.setOrder a ep) es).size:=by rw [<- Array.length_toList,pm.length_eq,Array.length_toList];exact hi
  refine Ht (slot:=0) (nx:=0) (x:=(pickOrder (w.params.setOrder a ep) es)[i].2) st.1 st.2 h3 h7 (fun A E Q q=>J6 hx st.2 h3 h7 (by rw [Array.getElem?_eq_getElem hl];exact q)) fun h' hit' sb=>?_
  exact hQ _ h' s.toks (GW (h4.perm pm) (by rw [Array.getElem?_toList,Array.getElem?_eq_getElem hl])) ⟨hit',(sb.2 a hne).trans st.2⟩ fun b o hb e=>sb.extBut b o (fun h=>hb (by simp [h])) e
 done:=fun s Q E st hQ=>by
  have pm:=HN (w.params.setOrder a ep) es
  refine LM (slot:=0) hh st.1 st.2 h3 h7 (fun A E Q q=>J6 hx st.2 h3 h7 ?_) fun h' he'=>hQ h' s.toks fun b o hb e=>he' b o (fun h=>hb (by simp [h])) e
  rw [Array.getElem?_eq_none (by rw [<- Array.length_toList,pm.length_eq,Array.length_toList];exact Nat.le_refl _)]
  exact q
 self:=fun _ _ _ _ st hQ=>G9 st.1 hQ
noncomputable def FP (t:SetTable) (i:Nat):Nat:=match i with | 0=>0 | k+1=>t.place.getD k 0+1
theorem Hy {t:SetTable} (g:Ris t.place) {i:Nat} (h:i<=t.place.size):SetTable.below t.place (FP t i)=i:=by
 cases i with
 | zero=>exact OK g
 | succ k=>exact Mf g h
theorem QJ {o:Obj} {es:Array (Int × Value)} {ep:Nat} {t:SetTable} (hh:A.handled=none) (hne:a≠I) (hx:w.params.followText "set-order" = false) (hd:(!t.plain && decide (es.size > 1))=false) (h3:o.data=.set es ep t) (h4:ElemsOf (intKind P w) es.toList) (h7:t.fits es.size=true) (g:TabG w t) :
 Walks P w A I [I,a] [I] es.size (FQ es.toList) (fun i h=>IsSetIter h I (.int (FP t i) 0) i a es.size ep/\h.get? a=some o) where
 sub:=fun b hb=>by simp at hb;simp [hb]
 frame:=fun _ _ _ st hk=>⟨st.1.at fun o e=>hk I (by simp) o e,hk a (by simp) _ st.2⟩
 item:=fun i s Q E hi st hQ=>by
  have hz:t.place.size=es.size:=by have:=h7;unfold SetTable.fits at this;simp at this;exact this.1
  have hl:t.led=true:=by rw [g.led,hx];rfl
  refine Ht (nx:=FP t (i+1)) (x:=es[i].2) st.1 st.2 h3 h7 (fun A E Q q=>K8 hx st.2 h3 h7 hl hd (Hy g.ris (by lia)) ?_) fun h' hit' sb=>?_
  ·rw [Array.getElem?_eq_getElem hi,Array.getElem?_eq_getElem (show i < t.place.size by lia)]
   have e:FP t (i+1)=t.place[i]+1:=by show t.place.getD i 0+1=_;simp [Array.getD,show i < t.place.size by lia]
   rw [e] at q
   exact q
  ·exact hQ _ h' s.toks (GW h4 (by rw [Array.getElem?_toList,Array.getElem?_eq_getElem hi])) ⟨hit',(sb.2 a hne).trans st.2⟩ fun b o hb e=>sb.extBut b o (fun h=>hb (by simp [h])) e
 done:=fun s Q E st hQ=>by
  have hz:t.place.size=es.size:=by have:=h7;unfold SetTable.fits at this;simp at this;exact this.1
  have hl:t.led=true:=by rw [g.led,hx];rfl
  refine LM hh st.1 st.2 h3 h7 (fun A E Q q=>K8 hx st.2 h3 h7 hl hd (Hy g.ris (by lia)) ?_) fun h' he'=>hQ h' s.toks fun b o hb e=>he' b o (fun h=>hb (by simp [h])) e
  rw [Array.getElem?_eq_none (Nat.le_refl _)]
  exact q
 self:=fun _ _ _ _ st hQ=>G9 st.1 hQ
theorem Ku {α:Type} (es:Array α):∀ (l:List Nat),(∀ x∈l,x < es.size)->∀ i:Nat,(l.filterMap (es[·]?))[i]? = (l[i]?).bind (es[·]?)
 | [],_,i=>by simp
 | x::r,hx,i=>by
  have hx0:x < es.size:=hx x List.mem_cons_self
  rw [List.filterMap_cons,Array.getElem?_eq_getElem hx0]
  cases i with
  | zero=>simp [hx0]
  | succ j=>simpa using Ku es r (fun y hy=>hx y (List.mem_cons_of_mem _ hy)) j
theorem Nj {o ot:Obj} {es:Array (Int × Value)} {ep tp nt:Nat} {t:SetTable} {ps:List Nat} (hh:A.handled=none) (hne:a≠I) (hnt:tp≠I) (h3:o.data=.set es ep t) (h4:ElemsOf (intKind P w) es.toList) (h7:t.fits es.size=true)
 (hdt:ot.data=.seq (ps.map fun (i:Nat)=>rawInt i).toArray nt) (hp:ps.Perm (List.range es.size)) :
 Walks P w A I [I,a,tp] [I] es.size (FQ (ps.filterMap (es[·]?))) (fun i h=>IsSetIter h I (.ref tp) i a es.size ep/\h.get? a=some o/\h.get? tp=some ot) where
 sub:=fun b hb=>by simp at hb;simp [hb]
 frame:=fun _ _ _ st hk=>⟨st.1.at fun o e=>hk I (by simp) o e,hk a (by simp) _ st.2.1,hk tp (by simp) _ st.2.2⟩
 item:=fun i s Q E hi st hQ=>by
  have hl:ps.length=es.size:=by rw [hp.length_eq,List.length_range]
  have hi':i < ps.length:=by lia
  have hpi:ps[i] < es.size:=List.mem_range.mp (hp.mem_iff.mp (List.getElem_mem hi'))
  have pm:(ps.filterMap (es[·]?)).Perm es.toList:=(hp.filterMap _).trans (by rw [filterMap_getElem?_range])
  refine Qq (p:=ps[i]) (x:=es[ps[i]]) st.1 st.2.1 h3 h7 st.2.2 hdt (by simp [hi',rawInt]) (Array.getElem?_eq_getElem hpi) fun h' hit' sb=>?_
  exact hQ _ h' s.toks (GW (h4.perm pm) (by rw [Ku es ps (fun x hx=>List.mem_range.mp (hp.mem_iff.mp hx)) i,List.getElem?_eq_getElem hi'];exact Array.getElem?_eq_getElem hpi)) ⟨hit',(sb.2 a hne).trans st.2.1,(sb.2 tp hnt).trans st.2.2⟩ fun b o hb e=>sb.extBut b o (fun h=>hb (by simp [h])) e
 done:=fun s Q E st hQ=>by
  have hl:ps.length=es.size:=by rw [hp.length_eq,List.length_range]
  exact OH hh st.1 st.2.1 h3 h7 st.2.2 hdt (by simp [hl]) fun h' he'=>hQ h' s.toks fun b o hb e=>he' b o (fun h=>hb (by simp [h])) e
 self:=fun _ _ _ _ st hQ=>G9 st.1 hQ
theorem MP {S:Int->Bool} {n:Nat} {Q:Value->Shared->Prop} (hS:SetW P w s.heap a S n)
 (fin:∀ (h':Heap) d (I:Addr) (fp:List Addr) (St:Nat->Heap->Prop) (ms:List Int),ms.length=n->(∀ k,k∈ms ↔ S k=true)->(∀ b o,s.heap.get? b=some o->h'.get? b=some o)->s.heap.objs.size<=I->(∀ b∈fp,b=a\/s.heap.objs.size<=b) ->
   (∀ A:Around,A.handled=none->Walks P w A I fp [I] n (fun i v=>∃ t,v=.int (ms.getD i 0) t) St)->St 0 h'->Q (.ref I) { s with heap:=h',drawn:=d }):wpAny (model P w) A (pyIter (.ref a)) Q E s:=by
 obtain ⟨o,es,ep,t,h1,h2,h3,h4,h5,h6,h7,h8,g⟩:=hS
 have hT:s.TypeIs (.ref a) "set":=⟨o,h1,h2.1⟩
 have hlt:=Heap.lt_size h1
 subst h8
 refine wpAny_pyIter_slot hT PySem.F.slot_set_iter (wpAny_call_entry PySem.F.slot_set_iter hT F.entry_set_iter ?_ (PySem.F.args_set_iter_1 _))
 show wpAny _ _ (Builtin.Frozenset.sizeOf a >>= _) _ _ s
 refine wpAny_bind (wpAny_bind (wpAny_setEntries_of h1 h3 h7 (wpAny_pure ?_)))
 show wpAny _ _ (setDrawn a >>= _) _ _ s
 unfold setDrawn
 refine wpAny_bind (wpAny_bind (wpAny_setState_of h1 h3 h7 ?_));dsimp only
 refine wpAny_bind (Fe (wpAny_pure ?_))
 cases hx:w.params.followText "set-order" with
 | true =>
  refine wpAny_ite_split (fun hab=>absurd hab (by simp)) (fun _=>?_)
  refine wpAny_bind (wpAny_pure (wpAny_bind (wpAny_setEpoch_of h1 h3 h7 ?_)))
  have pm:=HN (w.params.setOrder a ep) es
  refine wpAny_bind (wpAny_newObj_type (wpAny_pure ⟨_,rfl,"set_iterator",_,⟨_,Heap.get?_push_size _ rfl,rfl⟩,F.slot_set_iterator_next.lookup,?_⟩))
  refine fin _ s.drawn s.heap.objs.size [s.heap.objs.size,a] _ ((pickOrder (w.params.setOrder a ep) es).toList.map fun (e:Int × Value)=>numOf e.2) (by rw [List.length_map,pm.length_eq,Array.length_toList]) (fun k=>by rw [Hn (h4.perm pm),h5 k];exact ⟨fun ⟨e,x,y⟩=>⟨e,pm.mem_iff.mp x,y⟩,fun ⟨e,x,y⟩=>⟨e,pm.mem_iff.mpr x,y⟩⟩) (fun b o e=>Heap.get?_push_of_some _ e) (Nat.le_refl _)
   (fun b hb=>by simp at hb;rcases hb with rfl | rfl <;> simp) (fun A hh=>NZ hh (Nat.ne_of_lt hlt) hx h3 h4 h7) ⟨⟨_,Heap.get?_push_size _ rfl,rfl,rfl⟩,Heap.get?_push_of_some _ h1⟩
 | false =>
  by_cases hd:(!t.plain && decide (es.size > 1))=true
  ·refine wpAny_ite_split (fun _=>?_) (fun hab=>absurd (show (!false && (!t.plain && decide (es.size > 1)))=true by rw [hd];rfl) hab)
   refine wpAny_bind (Hx es.size (List.range es.size) _ _ (by simp) fun ps d hp=>?_)
   refine wpAny_bind (wpAny_newTuple ?_ (by rw [List.length_map,hp.length_eq,List.length_range];exact fits_of_scanBound h6))
   refine wpAny_bind (wpAny_setEpoch_of (Heap.get?_push_of_some _ h1) h3 h7 ?_)
   have pm:(ps.filterMap (es[·]?)).Perm es.toList:=(hp.filterMap _).trans (by rw [filterMap_getElem?_range])
   refine wpAny_bind (wpAny_newObj_type (wpAny_pure ⟨_,rfl,"set_iterator",_,⟨_,Heap.get?_push_size _ rfl,rfl⟩,F.slot_set_iterator_next.lookup,?_⟩))
   refine fin _ d (s.heap.push { cls:=.type "tuple",data:=.seq (ps.map fun (i:Nat)=>rawInt i).toArray }).objs.size [(s.heap.push { cls:=.type "tuple",data:=.seq (ps.map fun (i:Nat)=>rawInt i).toArray }).objs.size,a,s.heap.objs.size] _ ((ps.filterMap (es[·]?)).map fun (e:Int × Value)=>numOf e.2) (by rw [List.length_map,pm.length_eq,Array.length_toList])
    (fun k=>by rw [Hn (h4.perm pm),h5 k];exact ⟨fun ⟨e,x,y⟩=>⟨e,pm.mem_iff.mp x,y⟩,fun ⟨e,x,y⟩=>⟨e,pm.mem_iff.mpr x,y⟩⟩) (fun b o e=>Heap.get?_push_of_some _ (Heap.get?_push_of_some _ e)) (by rw [Heap.size_push];exact Nat.le_succ _)
    (fun b hb=>by rw [Heap.size_push] at hb;simp at hb;rcases hb with rfl | rfl | rfl <;> simp) (fun A hh=>Nj hh (by rw [Heap.size_push];exact Nat.ne_of_lt (Nat.lt_succ_of_lt hlt)) (by rw [Heap.size_push];exact Nat.ne_of_lt (Nat.lt_succ_self _)) h3 h4 h7 rfl hp)
    ⟨⟨_,Heap.get?_push_size _ rfl,rfl,rfl⟩,Heap.get?_push_of_some _ (Heap.get?_push_of_some _ h1),Heap.get?_push_of_some _ (Heap.get?_push_size _ rfl)⟩
  ·have hd':(!t.plain && decide (es.size > 1))=false:=by simpa using hd
   refine wpAny_ite_split (fun hab=>absurd (show (!t.plain && decide (es.size > 1))=true from hab) (by rw [hd'];simp)) (fun _=>?_)
   refine wpAny_bind (wpAny_pure (wpAny_bind (wpAny_setEpoch_of h1 h3 h7 ?_)))
   refine wpAny_bind (wpAny_newObj_type (wpAny_pure ⟨_,rfl,"set_iterator",_,⟨_,Heap.get?_push_size _ rfl,rfl⟩,F.slot_set_iterator_next.lookup,?_⟩))
   refine fin _ s.drawn s.heap.objs.size [s.heap.objs.size,a] _ (es.toList.map fun (e:Int × Value)=>numOf e.2) (by rw [List.length_map,Array.length_toList]) (fun k=>by rw [Hn h4,h5 k]) (fun b o e=>Heap.get?_push_of_some _ e) (Nat.le_refl _)
    (fun b hb=>by simp at hb;rcases hb with rfl | rfl <;> simp) (fun A hh=>QJ hh (Nat.ne_of_lt hlt) hx hd' h3 h4 h7 g) ⟨⟨_,Heap.get?_push_size _ rfl,rfl,rfl⟩,Heap.get?_push_of_some _ h1⟩
end
end L2
namespace L2
open PySem PySem.Spec PyProof.Rows PySem.W PySem.Calls
section
variable {P:Program} {w:World} {A:Around} {E:Value->Shared->Prop} {s:Shared} {a I:Addr}
theorem OA {Q:Bool->Shared->Prop} (hT:s.TypeIs (.ref a) "set") (h:Q false s):wpAny (model P w) A (Builtin.List.listLengthHint (.ref a)) Q E s:=by
 unfold Builtin.List.listLengthHint
 refine wpAny_bind (wpAny_specialOf hT PySem.F.slot_set_len.lookup ?_)
 generalize hid:("set.__len__" : String)=id0
 wp_delta
 rw [show splitId id0=some ("set","__len__") from by subst hid;decide +kernel]
 subst hid
 refine wpAny_bind (wpAny_isInstance (T:="set") (b:=true) hT (by rw [isSubtype_type];kernel_rfl) ?_)
 refine wpAny_ite_split (fun hab=>absurd hab (by decide)) (fun _=>wpAny_ite_split (fun _=>wpAny_bind (wpAny_typeOf hT (wpAny_pure h))) (fun hab=>absurd (by decide +kernel) hab))
theorem P7 {R:Result->Shared->Prop} {S:Int->Bool} {n:Nat} {l:Addr} {c0:Nat} (hh:A.handled=none) (hS:SetW P w s.heap a S n) (hn:n<=sizeLine) (hl:s.heap.get? l=some { cls:=.type "list",data:=.seq #[] c0 }) (res:Value)
 (fin:∀ (h':Heap) d tk (acc:Array Value) (c:Nat) (ms:List Int),ms.length=n->(∀ k,k∈ms ↔ S k=true)->(∀ b o,b≠l->s.heap.get? b=some o->h'.get? b=some o)->h'.get? l=some { cls:=.type "list",dict:=none,data:=.seq acc c,slots:=#[] } ->
   ItemsOf (fun i v=>∃ t,v=.int (ms.getD i 0) t) acc n->R (.ok (.ret res)) { s with heap:=h',drawn:=d,toks:=tk }) :
 wpAny (model P w) A.in1 (Builtin.List.listExtendWith (.ref l) (.ref a) res)
  (fun fin s'=>match fin with | .done f=>R (.ok f) s' | .again c'=>c'.quiet=true/\codeAny (model P w) A c' R s') (fun e s'=>R (.error e) s') s:=by
 have hT:s.TypeIs (.ref a) "set":=hS.of.typeIs
 have hla:l≠a:=fun e=>by
  obtain ⟨o,es,ep,t,h1,h2,_⟩:=hS
  rw [<- e,hl] at h1;cases h1
  exact absurd h2.1 (show ¬ (Value.type "list" = Value.type "set") by decide)
 unfold Builtin.List.listExtendWith
 refine wpAny_bind (wpAny_typeOf (T:="set") hT ?_)
 have e1:Builtin.List.listSameRef (.ref l) (.ref a)=false:=by simp [Builtin.List.listSameRef,hla]
 have e2:(Value.type "set" == Value.type "list")=false:=by decide
 have e3:(Value.type "set" == Value.type "tuple")=false:=by decide
 simp only [e1,e2,e3,Bool.or_false,Bool.false_eq_true,if_false]
 refine wpAny_bind (MP hS fun h1 d I fp St ms hm1 hm2 hk hI hfp W st=>?_)
 have hlf:l∉fp:=fun z=>by
  rcases hfp l z with q | q
  ·exact hla q
  ·exact absurd (Heap.lt_size hl) (Nat.not_lt.mpr q)
 have key:∀ (h2:Heap) (c1 tk:Nat),St 0 h2->(∀ b o,b≠l->s.heap.get? b=some o->h2.get? b=some o)->h2.get? l=some { cls:=.type "list",data:=.seq #[] c1 } ->
  codeAny (model P w) A (.builtin "list.extend.loop" ⟨[.ref l,.ref I,res],[]⟩) R { s with heap:=h2,drawn:=d,toks:=tk }:=fun h2 c1 tk st2 hk2 hl2=>by
  refine codeAny_extend_loopS (W A.in1 hh).toS hn l hlf res n 0 _ #[] c1 rfl (Nat.zero_le _) st2 hl2 (ItemsOf.nil _) fun s' acc c hm hs' hacc=>?_
  rw [Moved.eq_with hm]
  refine fin s'.heap d s'.toks acc c ms hm1 hm2 (fun b o hb e=>hm.heap b o (fun z=>?_) (hk2 b o hb e)) hs' hacc
  rcases List.mem_cons.mp z with q | q
  ·exact hb q
  ·rw [List.mem_singleton] at q
   exact absurd (Heap.lt_size e) (by rw [q];exact Nat.not_lt.mpr hI)
 have hl1:=hk _ _ hl
 refine wpAny_bind (wpAny_holding (OA (SetW.of (hS.at fun o e=>hk _ _ e)).typeIs ?_))
 refine wpAny_ite_split (fun _=>?_) (fun _=>wpAny_pure ⟨plainId_quiet PySem.F.plain_extend_loop _,key _ c0 _ st (fun b o _ e=>hk b o e) hl1⟩)
 refine wpAny_bind (wpAny_rule (wpAny_bind ?_))
 show wpAny _ _ (updateSeq l (·.push .none) >>= fun _=>updateSeq l (·.pop)) _ _ _
 have g1:=Heap.get?_update_self (Obj.mapSeq (·.push Value.none)) hl1 rfl
 have g2:=Heap.get?_update_self (Obj.mapSeq (·.pop)) g1 rfl
 refine wpAny_bind (wpAny_updateSeq hl1 rfl (wpAny_updateSeq (hz:=by seq_fits) g1 rfl (wpAny_pure ⟨plainId_quiet PySem.F.plain_extend_loop _,key _ _ _ ?_ (fun b o hb e=>?_) g2⟩)))
 ·refine (W A hh).frame 0 _ _ st fun b hb o e=>?_
  have hbl:b≠l:=fun h=>hlf (h ▸ hb)
  exact (Heap.get?_update_other _ _ (Ne.symm hbl)).trans ((Heap.get?_update_other _ _ (Ne.symm hbl)).trans e)
 ·exact (Heap.get?_update_other _ _ (Ne.symm hb)).trans ((Heap.get?_update_other _ _ (Ne.symm hb)).trans (hk b o e))
theorem Oh {S:Int->Bool} {n:Nat} {R:List Value->Shared->Prop} (hh:A.handled=none) (hS:SetW P w s.heap a S n) (hn:n<=sizeLine)
 (fin:∀ (h':Heap) d tk (acc:Array Value) (ms:List Int),ms.length=n->(∀ k,k∈ms ↔ S k=true)->(∀ b o,s.heap.get? b=some o->h'.get? b=some o)->s.heap.objs.size < h'.objs.size->ItemsOf (fun i v=>∃ t,v=.int (ms.getD i 0) t) acc n->R acc.toList { s with heap:=h',drawn:=d,toks:=tk }) :
 wpAny (model P w) A (collect (.ref a)) R E s:=by
 unfold collect
 refine wpAny_bind (wpAny_runValue (codeAny_builtin entry_proto_collect' ?_))
 rw [Around.under_plainId PySem.F.plain_proto_collect _]
 show wpAny _ A.in1 (newList [] >>= fun l=>again (.builtin "list.__iadd__" ⟨[l,.ref a],[]⟩)) _ _ s
 refine wpAny_bind (wpAny_newObj_type (wpAny_pure ⟨plainId_quiet PySem.F.plain_list_iadd _,codeAny_builtin entry_list_iadd' ?_⟩))
 rw [Around.under_plainId PySem.F.plain_list_iadd _]
 have g1:(s.heap.push { cls:=.type "list",data:=.seq ([]:List Value).toArray }).get? s.heap.objs.size=some { cls:=.type "list",data:=.seq #[] }:=Heap.get?_push_size _ rfl
 show wpAny _ A.in1 (Builtin.List.listExtendWith (.ref s.heap.objs.size) (.ref a) (.ref s.heap.objs.size)) _ _ _
 refine wpAny_mono (P7 (A:=A) (s:={ s with heap:=s.heap.push { cls:=.type "list",data:=.seq ([]:List Value).toArray } })
  (R:=fun (q:Result) (s':Shared)=>∃ (h':Heap) (d:_) (tk:Nat) (acc:Array Value) (c:Nat) (ms:List Int),q=.ok (.ret (.ref s.heap.objs.size))/\s' = { s with heap:=h',drawn:=d,toks:=tk } /\ ms.length=n/\(∀ k,k∈ms ↔ S k=true) /\
    (∀ b o,s.heap.get? b=some o->h'.get? b=some o)/\h'.get? s.heap.objs.size=some { cls:=.type "list",dict:=none,data:=.seq acc c,slots:=#[] } /\ ItemsOf (fun i v=>∃ t,v=.int (ms.getD i 0) t) acc n)
  hh (hS.at fun o e=>Heap.get?_push_of_some _ e) hn g1 (.ref s.heap.objs.size) fun h' d tk acc c ms m1 m2 hk g2 hacc=>⟨h',d,tk,acc,c,ms,rfl,rfl,m1,m2,fun b o e=>hk b o (Nat.ne_of_lt (Heap.lt_size e)) (Heap.get?_push_of_some _ e),g2,hacc⟩) (fun fn s' x=>?_) fun e s' x=>?_
 ·cases fn with
  | done f =>
   obtain ⟨h',d,tk,acc,c,ms,e,rfl,m1,m2,hk,g2,hacc⟩:=x
   cases e
   show wpAny _ A (load s.heap.objs.size >>= _) _ _ _
   exact wpAny_bind (wpAny_load g2 (wpAny_pure (fin h' d tk acc ms m1 m2 hk (Heap.lt_size g2) hacc)))
  | again c₁ =>
   refine ⟨x.1,codeAny_mono x.2 fun q s₂ y=>?_⟩
   obtain ⟨h',d,tk,acc,c,ms,rfl,rfl,m1,m2,hk,g2,hacc⟩:=y
   show wpAny _ A (load s.heap.objs.size >>= _) _ _ _
   exact wpAny_bind (wpAny_load g2 (wpAny_pure (fin h' d tk acc ms m1 m2 hk (Heap.lt_size g2) hacc)))
 ·obtain ⟨_,_,_,_,_,_,e',_⟩:=x
  cases e'
theorem L5 {acc:Array Value} {ms:List Int} (h:ItemsOf (fun i v=>∃ t,v=.int (ms.getD i 0) t) acc ms.length):IntsAre acc.toList ms:=by
 have e:acc.toList.map numOf=ms:=by
  apply List.ext_getElem
  ·rw [List.length_map,Array.length_toList,h.1]
  ·intro i h1 h2
   rw [List.getElem_map]
   have h3:i < acc.size:=by rw [h.1];exact h2
   obtain ⟨t,et⟩:=h.2 i acc[i] (by simp [h3])
   rw [Array.getElem_toList,et]
   show ms.getD i 0=_
   rw [List.getD_eq_getElem?_getD,List.getElem?_eq_getElem h2];rfl
 have:=intsAre_map acc.toList (fun v hv=>by
  obtain ⟨i,hi,ei⟩:=List.getElem_of_mem hv
  obtain ⟨t,et⟩:=h.2 i v (by rw [<- Array.getElem?_toList,List.getElem?_eq_getElem hi,ei])
  exact ⟨_,t,et⟩)
 rw [e] at this
 exact this
end
end L2
namespace L2
open PySem PySem.Spec PyProof.Rows
noncomputable def CH (P:Program) (w:World) (a:Addr) (ds:List Int):Heap->Prop:=fun h=>SetW P w h a (fun k=>ds.any (· == k)) ds.length
theorem Q0 {P:Program} {w:World} {H:Hp} {h:Heap} {a:Addr} {ds:List Int} (x:CH P w a ds h):ObjOk P w H h a (.ext (CH P w a ds)) :=
 ⟨x,(by obtain ⟨o,_,_,_,e,_⟩:=x;exact ⟨o,e⟩),fun h1 h2 y k=>SetW.at y k⟩
section
variable {X:Cx} {K:W.Frag} {P:Program} {w:World}
theorem Inv.drew {pins:List (Addr × Obj)} {σ:List (Option V)} {H:Hp} {s:Shared} (I:Inv X pins σ H s) (d:Drawn):Inv X pins σ H { s with drawn:=d }:=⟨I.ok,I.os,I.bare,I.base,I.loc,I.cell,I.free,I.freeC,I.pin,I.hok,I.len⟩
variable {C:Addr} {f:Str} {e o value:Expr} {ta tv td ty:TE} {pos pos':Pos}
end
end L2
namespace L2
open PySem PySem.Spec PyProof.Rows PySem.W
end L2
namespace L2
open PySem PySem.Spec PyProof.Rows PySem.W PySem.Calls
section
variable {P:Program} {w:World} {A:Around} {E:Value->Shared->Prop} {s:Shared}
noncomputable def PairAt (h:Heap) (v:Value) (k x:Int):Prop:=∃ a t u,v=.ref a/\h.get? a=some { cls:=.type "tuple",data:=.seq #[.int k t,.int x u] }
theorem PairAt.keep {h h':Heap} {v:Value} {k x:Int} (p:PairAt h v k x) (e:∀ b o,o.cls=.type "tuple" -> h.get? b=some o->h'.get? b=some o):PairAt h' v k x:=by
 obtain ⟨a,t,u,rfl,ha⟩:=p
 exact ⟨a,t,u,rfl,e _ _ rfl ha⟩
end
end L2
namespace L2
open PySem PySem.Spec PyProof.Rows PySem.W
section
variable {P:Program} {w:World} {A:Around} {E:Value->Shared->Prop} {s:Shared}
end
section
variable {X:Cx}
end
section
variable {X:Cx} {k:Nat} {f:Addr} {fd:FuncData} {ps:List Str} {sp:Sp} {x:Str} {p pos:Pos} {e:Expr} {es:List Expr} {t:TA} {tn:TE}
end
section
variable {X:Cx} {pins:List (Addr × Obj)} {σ:St} {H:Hp} {s:Shared}
end
section
variable {X:Cx} {Pt c f:Addr} {fd:FuncData} {ps:List Str} {k i:Nat} {kn a:Str} {kp pos lpos:Pos} {params:Arguments} {body:Expr} {scope:Scope} {e:Expr} {es:List Expr} {t:TA} {qual:Str} {spK:Addr->Addr->V->Sp}
end
end L2
namespace L2
open PySem PyProof.Rows
section
variable {X:Cx} {K:W.Frag} {o e:Expr} {to:TE} {t:TA} {apos cpos:Pos}
end
end L2
namespace L2
open PySem PySem.Spec PyProof.Rows PySem.SeqAt
section
variable {X:Cx} {K:W.Frag}
end
end L2
namespace L2
open PySem PySem.Spec PyProof.Rows
section
variable {X:Cx} {K:W.Frag}
end
section
variable {X:Cx} {K:W.Frag} {e:Expr} {te:TE} {p pos kpos cp:Pos} {kd:Nat} {i:Int}
end
end L2
namespace L2
open PySem PyProof.Rows
section
variable {X:Cx} {K:W.Frag} {o e:Expr} {to:TE} {t:TA} {apos cpos:Pos}
end
end L2
namespace L2
open PySem PySem.Spec PyProof.Rows
section
variable {X:Cx} {K:W.Frag} {e:Expr} {te:TE} {lo hi:Option Expr} {tl th:TO} {pos p2:Pos}
end
end L2
namespace L2
open PySem
section
variable {X:Cx} {pins:List (Addr × Obj)} {σ:St} {H:Hp} {s:Shared} {a:Addr}
variable {kvs:List (Key × V)} {i:Expr} {pos pos' apos:Pos} {ty:TE} {x:Str} {P:Program} {w:World} {K:W.Frag} {o:Expr} {td:TE}
end
end L2
namespace L2
open PySem Builtin Builtin.Str
section
variable {X:Cx} {a:Addr} {kvs:List (Key × V)} {o e:Expr} {ty to:TE} {t:TA} {apos cpos:Pos} {P:Program} {w:World} {K:W.Frag}
end
end L2
namespace L2
open PySem PyProof.Rows
noncomputable def gal:Bool->Keyed->Array Keyed->Nat->Nat->Nat->StateT SortSt Sem (Option Nat):=sortPriv% PySem.Builtin.gallop
noncomputable def mLo:Array Keyed->Array Keyed->StateT SortSt Sem (Array Keyed):=sortPriv% PySem.Builtin.mergeLo
noncomputable def mHi:Array Keyed->Array Keyed->StateT SortSt Sem (Array Keyed):=sortPriv% PySem.Builtin.mergeHi
section
variable {prog:Program} {w:World} {A:Around} {E:Value->Shared->Prop} {s:Shared}
structure Cmp (prog:Program) (w:World) (A:Around) (E:Value->Shared->Prop) (s:Shared) (kd:SortKind) (El:Keyed->Prop) (κ:Keyed->Int):Prop where
 lt:∀ (x y:Keyed) (st:SortSt) (Q:Option Bool->SortSt->Prop),El x->El y->kindOf st=kd->Q (some (decide (κ x < κ y))) st->wpS (model prog w) A E s (lt' x y) Q st
variable {kd:SortKind} {El:Keyed->Prop} {κ:Keyed->Int}
theorem A0 {arr:Array Keyed} {i:Nat} {x:Keyed} {st:SortSt} {Q:Keyed->SortSt->Prop} (h:arr[i]? = some x) (q:Q x st):wpS (model prog w) A E s (elem' arr i) Q st:=by
 rw [elem'_eq,h]
 exact wpS_pure q
theorem NN {G:Prop} {β:Type} (P:(Nat->Nat->β)->Prop) (Z:Nat->Nat->β) (h1:P Z->G) (h2:P Z):G:=h1 h2
noncomputable def byd (κ:Keyed->Int) (left:Bool) (key x:Keyed):Bool:=if left=true then decide (κ x < κ key) else !decide (κ key < κ x)
theorem EE (C:Cmp prog w A E s kd El κ) {left:Bool} {key:Keyed} {arr:Array Keyed} {base n hint:Nat} {st:SortSt} {Q:Option Nat->SortSt->Prop} (hk:kindOf st=kd) (he:El key) (hh:hint < n)
 (f:Nat->Keyed) (hf:∀ i,i < n->arr[base+i]? = some (f i)/\El (f i)) (hs:∀ i j,i<=j->j < n->κ (f i)<=κ (f j))
 (q:∀ k,k<=n->(∀ i,i < k->if left=true then κ (f i) < κ key else ¬ κ key < κ (f i))->(∀ i,k<=i->i < n->¬ (if left=true then κ (f i) < κ key else ¬ κ key < κ (f i)))->Q (some k) st) :
 wpS (model prog w) A E s (gal left key arr base n hint) Q st:=by
 have mono:∀ i j,i<=j->j < n->byd κ left key (f j)=true->byd κ left key (f i)=true:=fun i j h1 h2 h3=>by
  have:=hs i j h1 h2
  unfold byd at *
  cases left
  ·simp only [Bool.false_eq_true,if_false,Bool.not_eq_true',decide_eq_false_iff_not] at *;lia
  ·simp only [if_true,decide_eq_true_eq] at *;lia
 have q':∀ k,k<=n->(∀ i,i < k->byd κ left key (f i)=true)->(∀ i,k<=i->i < n->byd κ left key (f i)=false)->Q (some k) st:=fun k h1 h2 h3=>by
  refine q k h1 (fun i hi=>?_) (fun i h4 h5=>?_)
  ·have:=h2 i hi
   unfold byd at this
   cases left
   ·simpa using this
   ·simpa using this
  ·have:=h3 i h4 h5
   unfold byd at this
   cases left
   ·simpa using this
   ·simpa using this
 have by_ok:∀ i,i < n->∀ Q':Option Bool->SortSt->Prop,Q' (some (byd κ left key (f i))) st->wpS (model prog w) A E s (do let x <- elem' arr (base+i);if left=true then lt' x key else do let r <- lt' key x;pure (r.map (!·))) Q' st:=fun i hi Q' h=>by
  refine wpS_bind (A0 (hf i hi).1 ?_)
  unfold byd at h
  cases left
  ·simp only [Bool.false_eq_true,if_false] at h ⊢
   exact wpS_bind (C.lt _ _ _ _ he (hf i hi).2 hk (wpS_pure h))
  ·simp only [if_true] at h ⊢
   exact C.lt _ _ _ _ (hf i hi).2 he hk h
 clear q
 generalize byd κ left key=B at *
 apply NN (fun (Z:Nat->Nat->StateT SortSt Sem (Option Nat))=>∀ l r,(∀ i,i < l->B (f i)=true)->(∀ i,r<=i->i < n->B (f i)=false)->l<=r->r<=n->wpS (model prog w) A E s (Z l r) Q st)
 case h1 =>
  intro bin
  delta gal
  refine wpS_bind ?_
  refine by_ok hint hh _ ?_
  dsimp only
  cases hbh:B (f hint)
  ·rw [if_neg (by decide)]
   refine wpS_bind (wpS_mono (wpS_forRange (I:=fun x c st'=>st'=st/\∃ lo of',c=(none,lo,of')/\lo<=hint/\lo < of'/\x < of'/\B (f (hint - lo))=false)
    (Q:=fun c st'=>st'=st/\∃ lo of',c=(none,lo,of')/\lo<=hint/\lo < of'/\B (f (hint - lo))=false/\(of'<=hint->B (f (hint - of'))=true)) ?step ?fin ⟨rfl,0,1,rfl,Nat.zero_le _,by decide,by decide,hbh⟩) ?post)
   case fin =>
    rintro c st' ⟨rfl,lo,of',rfl,h1,h2,h3,h4⟩
    exact ⟨rfl,lo,of',rfl,h1,h2,h4,fun z=>by lia⟩
   case step =>
    rintro x c st' _ hx ⟨rfl,lo,of',rfl,h1,h2,h3,h4⟩
    dsimp only
    by_cases hge:of' ≥ hint+1
    ·rw [if_pos hge]
     exact wpS_pure ⟨rfl,lo,of',rfl,h1,h2,h4,fun z=>by lia⟩
    ·rw [if_neg hge]
     refine wpS_bind (by_ok (hint - of') (by lia) _ ?_)
     dsimp only
     cases hb:B (f (hint - of'))
     ·rw [if_neg (by decide)]
      exact wpS_pure ⟨rfl,of',2 * of'+1,rfl,by lia,by lia,by lia,hb⟩
     ·rw [if_pos rfl]
      exact wpS_pure ⟨rfl,lo,of',rfl,h1,h2,h4,fun _=>hb⟩
   case post =>
    rintro c st' ⟨rfl,lo,of',rfl,h1,h2,h4,h5⟩
    dsimp only
    have a1:∀ i,i < hint+1 - min of' (hint+1)->B (f i)=true:=fun i hi=>mono i (hint - of') (by lia) (by lia) (h5 (by lia))
    have a2:∀ i,hint - lo<=i->i < n->B (f i)=false:=fun i hi hn=>by
     cases hb:B (f i)
     ·rfl
     ·rw [mono _ _ hi hn hb] at h4;cases h4
    have a3:hint+1 - min of' (hint+1)<=hint - lo:=by lia
    have a4:hint - lo<=n:=by lia
    generalize hint+1 - min of' (hint+1)=l0 at *
    generalize hint - lo=r0 at *
    exact bin l0 r0 a1 a2 a3 a4
  ·rw [if_pos rfl]
   refine wpS_bind (wpS_mono (wpS_forRange (I:=fun x c st'=>st'=st/\∃ lo of',c=(none,lo,of')/\hint+lo < n/\lo < of'/\x < of'/\B (f (hint+lo))=true)
    (Q:=fun c st'=>st'=st/\∃ lo of',c=(none,lo,of')/\hint+lo < n/\lo < of'/\B (f (hint+lo))=true/\(hint+of' < n->B (f (hint+of'))=false)) ?step ?fin ⟨rfl,0,1,rfl,by lia,by decide,by decide,hbh⟩) ?post)
   case fin =>
    rintro c st' ⟨rfl,lo,of',rfl,h1,h2,h3,h4⟩
    exact ⟨rfl,lo,of',rfl,h1,h2,h4,fun z=>by lia⟩
   case step =>
    rintro x c st' _ hx ⟨rfl,lo,of',rfl,h1,h2,h3,h4⟩
    dsimp only
    by_cases hge:of' ≥ n - hint
    ·rw [if_pos hge]
     exact wpS_pure ⟨rfl,lo,of',rfl,h1,h2,h4,fun z=>by lia⟩
    ·rw [if_neg hge]
     refine wpS_bind (by_ok (hint+of') (by lia) _ ?_)
     dsimp only
     cases hb:B (f (hint+of'))
     ·rw [if_pos (show (!false)=true from rfl)]
      exact wpS_pure ⟨rfl,lo,of',rfl,h1,h2,h4,fun _=>hb⟩
     ·rw [if_neg (by decide)]
      exact wpS_pure ⟨rfl,of',2 * of'+1,rfl,by lia,by lia,by lia,hb⟩
   case post =>
    rintro c st' ⟨rfl,lo,of',rfl,h1,h2,h4,h5⟩
    dsimp only
    have a1:∀ i,i < hint+lo+1->B (f i)=true:=fun i hi=>mono i (hint+lo) (by lia) (by lia) h4
    have a2:∀ i,hint+min of' (n - hint)<=i->i < n->B (f i)=false:=fun i hi hn=>by
     cases hb:B (f i)
     ·rfl
     ·have:=mono (hint+of') i (by lia) hn hb
      rw [h5 (by lia)] at this;cases this
    have a3:hint+lo+1<=hint+min of' (n - hint):=by lia
    have a4:hint+min of' (n - hint)<=n:=by lia
    generalize hint+lo+1=l0 at *
    generalize hint+min of' (n - hint)=r0 at *
    exact bin l0 r0 a1 a2 a3 a4
 intro l r a1 a2 a3 a4
 refine wpS_bind (wpS_mono (wpS_forRange (I:=fun x c st'=>st'=st/\∃ l r,c=(none,l,r)/\(∀ i,i < l->B (f i)=true)/\(∀ i,r<=i->i < n->B (f i)=false)/\l<=r/\r<=n/\r - l<=n - x)
  (Q:=fun c st'=>st'=st/\∃ l,c=(none,l,l)/\(∀ i,i < l->B (f i)=true)/\(∀ i,l<=i->i < n->B (f i)=false)/\l<=n) ?step ?fin ⟨rfl,l,r,rfl,a1,a2,a3,a4,by lia⟩) ?post)
 case fin =>
  rintro c st' ⟨rfl,l,r,rfl,h1,h2,h3,h4,h5⟩
  have:l=r:=by lia
  subst this
  exact ⟨rfl,l,rfl,h1,h2,h4⟩
 case step =>
  rintro x c st' _ hx ⟨rfl,l,r,rfl,h1,h2,h3,h4,h5⟩
  dsimp only
  by_cases hge:l ≥ r
  ·rw [if_pos hge]
   have:l=r:=by lia
   subst this
   exact wpS_pure ⟨rfl,l,rfl,h1,h2,h4⟩
  ·rw [if_neg hge]
   refine wpS_bind (by_ok (l+(r - l) / 2) (by lia) _ ?_)
   dsimp only
   cases hb:B (f (l+(r - l) / 2))
   ·rw [if_neg (by decide)]
    refine wpS_pure ⟨rfl,l,l+(r - l) / 2,rfl,h1,fun i hi hn=>?_,by lia,by lia,by lia⟩
    cases hb2:B (f i)
    ·rfl
    ·rw [mono _ _ hi hn hb2] at hb;cases hb
   ·rw [if_pos rfl]
    exact wpS_pure ⟨rfl,l+(r - l) / 2+1,r,rfl,fun i hi=>mono i _ (by lia) (by lia) hb,h2,by lia,h4,by lia⟩
 case post =>
  rintro c st' ⟨rfl,l,rfl,h1,h2,h4⟩
  dsimp only
  exact wpS_pure (q' l h4 h1 h2)
end
section
variable {κ:Keyed->Int}
noncomputable def Srt (κ:Keyed->Int) (l:List Keyed):Prop:=l.Pairwise fun x y=>κ x<=κ y
structure Mg (κ:Keyed->Int) (la lb o:List Keyed) (i j:Nat):Prop where
 il:i<=la.length
 jl:j<=lb.length
 perm:(o++(la.drop i++lb.drop j)).Perm (la++lb)
 srt:Srt κ o
 le:∀ x∈o,∀ y∈la.drop i++lb.drop j,κ x<=κ y
variable {la lb o:List Keyed} {i j n:Nat}
theorem Bg {a b:List Keyed} (h1:Srt κ a) (h2:Srt κ b) (h:∀ x∈a,∀ y∈b,κ x<=κ y):Srt κ (a++b):=List.pairwise_append.mpr ⟨h1,h2,h⟩
theorem Mg.a (m:Mg κ la lb o i j) (ha:Srt κ la) (hn:i+n<=la.length) (h:∀ x∈(la.drop i).take n,∀ y∈lb.drop j,κ x<=κ y):Mg κ la lb (o++(la.drop i).take n) (i+n) j:=by
 have hd:la.drop i=(la.drop i).take n++la.drop (i+n):=by
  rw [<- List.drop_drop,List.take_append_drop]
 have hs:Srt κ (la.drop i):=List.Pairwise.sublist (List.drop_sublist _ _) ha
 have hs2:=hs
 rw [hd] at hs2
 obtain ⟨s1,s2,s3⟩:=List.pairwise_append.mp hs2
 refine ⟨hn,m.jl,?_,Bg m.srt s1 fun x hx y hy=>m.le x hx y (List.mem_append_left _ (List.mem_of_mem_take hy)),fun x hx y hy=>?_⟩
 ·have:=m.perm
  rw [hd] at this
  rw [List.append_assoc]
  rw [List.append_assoc] at this
  exact this
 ·rcases List.mem_append.mp hx with hx | hx
  ·refine m.le x hx y ?_
   rcases List.mem_append.mp hy with hy | hy
   ·rw [hd];exact List.mem_append_left _ (List.mem_append_right _ hy)
   ·exact List.mem_append_right _ hy
  ·rcases List.mem_append.mp hy with hy | hy
   ·exact s3 x hx y hy
   ·exact h x hx y hy
theorem Mg.b (m:Mg κ la lb o i j) (hb:Srt κ lb) (hn:j+n<=lb.length) (h:∀ x∈(lb.drop j).take n,∀ y∈la.drop i,κ x<=κ y):Mg κ la lb (o++(lb.drop j).take n) i (j+n):=by
 have hd:lb.drop j=(lb.drop j).take n++lb.drop (j+n):=by
  rw [<- List.drop_drop,List.take_append_drop]
 have hs2:Srt κ (lb.drop j):=List.Pairwise.sublist (List.drop_sublist _ _) hb
 rw [hd] at hs2
 obtain ⟨s1,s2,s3⟩:=List.pairwise_append.mp hs2
 refine ⟨m.il,hn,?_,Bg m.srt s1 fun x hx y hy=>m.le x hx y (List.mem_append_right _ (List.mem_of_mem_take hy)),fun x hx y hy=>?_⟩
 ·have h1:=m.perm
  rw [hd] at h1
  refine List.Perm.trans ?_ h1
  rw [List.append_assoc]
  refine List.Perm.append_left _ ?_
  rw [<- List.append_assoc,<- List.append_assoc]
  exact List.Perm.append_right _ List.perm_append_comm
 ·rcases List.mem_append.mp hx with hx | hx
  ·refine m.le x hx y ?_
   rcases List.mem_append.mp hy with hy | hy
   ·exact List.mem_append_left _ hy
   ·rw [hd];exact List.mem_append_right _ (List.mem_append_right _ hy)
  ·rcases List.mem_append.mp hy with hy | hy
   ·exact h x hx y hy
   ·exact s3 x hx y hy
theorem Mg.end (m:Mg κ la lb o i j) (ha:Srt κ la) (h:lb.length<=j):(o++la.drop i++lb.drop j).Perm (la++lb)/\Srt κ (o++la.drop i++lb.drop j):=by
 have e:lb.drop j=[]:=List.drop_eq_nil_of_le h
 have h1:=m.perm
 rw [e,List.append_nil] at *
 exact ⟨h1,Bg m.srt (List.Pairwise.sublist (List.drop_sublist _ _) ha) fun x hx y hy=>m.le x hx y (List.mem_append_left _ hy)⟩
theorem Mg.end2 (m:Mg κ la lb o i j) (ha:Srt κ la) (hb:Srt κ lb) (h:∀ x∈lb.drop j,∀ y∈la.drop i,κ x<=κ y):(o++lb.drop j++la.drop i).Perm (la++lb)/\Srt κ (o++lb.drop j++la.drop i):=by
 refine ⟨?_,?_⟩
 ·refine List.Perm.trans ?_ m.perm
  rw [List.append_assoc]
  exact List.Perm.append_left _ List.perm_append_comm
 ·rw [List.append_assoc]
  refine Bg m.srt (Bg (List.Pairwise.sublist (List.drop_sublist _ _) hb) (List.Pairwise.sublist (List.drop_sublist _ _) ha) h) fun x hx y hy=>m.le x hx y ?_
  rcases List.mem_append.mp hy with hy | hy
  ·exact List.mem_append_right _ hy
  ·exact List.mem_append_left _ hy
theorem Mg.start (ha:Srt κ la) (hb:Srt κ lb):Mg κ la lb [] 0 0:=⟨Nat.zero_le _,Nat.zero_le _,List.Perm.refl _,List.Pairwise.nil,fun x hx=>by cases hx⟩
end
structure Sg (st st':SortSt):Prop where
 k:kindOf st'=kindOf st
 a:arrOf st'=arrOf st
 p:pendingOf st'=pendingOf st
 f:failedOf st'=failedOf st
theorem Sg.refl {st:SortSt}:Sg st st:=⟨rfl,rfl,rfl,rfl⟩
theorem Sg.trans {a b c:SortSt} (x:Sg a b) (y:Sg b c):Sg a c:=⟨y.k.trans x.k,y.a.trans x.a,y.p.trans x.p,y.f.trans x.f⟩
section
variable {prog:Program} {w:World} {A:Around} {E:Value->Shared->Prop} {s:Shared} {kd:SortKind} {El:Keyed->Prop} {κ:Keyed->Int}
theorem An {xs:Array Keyed} {i:Nat} (h:i < xs.toList.length):xs[i]? = some (xs.toList[i]):=by
 rw [<- Array.getElem?_toList,List.getElem?_eq_getElem h]
theorem Kt {M:Model} {α:Type} {m:StateT SortSt Sem α} {R:α->SortSt->Prop} {st:SortSt} {φ:Type} (P:φ->(α->SortSt->Prop)->SortSt->Prop) (Z:φ) (h1:P Z R st->wpS M A E s m R st) (h2:P Z R st):wpS M A E s m R st:=h1 h2
theorem G2 {xs:Array Keyed} (i k:Nat):(xs.extract i (i+k)).toList=(xs.toList.drop i).take k:=by
 rw [Array.toList_extract,List.extract_eq_take_drop,Nat.add_sub_cancel_left]
theorem FH {xs:Array Keyed} (i:Nat):(xs.extract i xs.size).toList=xs.toList.drop i:=by
 rw [Array.toList_extract,List.extract_eq_take_drop,List.take_of_length_le (by rw [List.length_drop,Array.length_toList];lia)]
theorem B3 {l:List Keyed} {i:Nat} (h:i < l.length):(l.drop i).take 1=[l[i]]:=by
 rw [List.drop_eq_getElem_cons h]
 rfl
theorem CJ {l:List Keyed} {i:Nat} {x:Keyed} (h:x∈l.drop i):∃ t,∃ ht:i+t < l.length,x=l[i+t]:=by
 obtain ⟨t,ht,rfl⟩:=List.getElem_of_mem h
 rw [List.length_drop] at ht
 exact ⟨t,by lia,by rw [List.getElem_drop]⟩
theorem GF {l:List Keyed} {i n:Nat} {x:Keyed} (h:x∈(l.drop i).take n):∃ t,t < n/\∃ ht:i+t < l.length,x=l[i+t]:=by
 obtain ⟨t,ht,rfl⟩:=List.getElem_of_mem h
 rw [List.length_take,List.length_drop] at ht
 exact ⟨t,by lia,by lia,by rw [List.getElem_take,List.getElem_drop]⟩
theorem BG {l:List Keyed} (h:Srt κ l) {i j:Nat} (hij:i<=j) (hj:j < l.length):κ (l[i]'(by lia))<=κ l[j]:=by
 rcases Nat.eq_or_lt_of_le hij with e | e
 ·subst e;exact Int.le_refl _
 ·exact List.pairwise_iff_getElem.mp h i j (by lia) hj e
theorem hideP {G:Prop} (h:∀ R:Prop,(G->R)->R):G:=h G id
theorem Oe (C:Cmp prog w A E s kd El κ) {a b:Array Keyed} {st:SortSt} {Q:Array Keyed->SortSt->Prop} (hk:kindOf st=kd) (ha:Srt κ a.toList) (hb:Srt κ b.toList) (hea:∀ x∈a.toList,El x) (heb:∀ x∈b.toList,El x)
 (la1:0 < a.toList.length) (lb1:0 < b.toList.length) (h0:κ b.toList[0] < κ a.toList[0]) (hl:∀ x∈b.toList,κ x < κ (a.toList[a.toList.length - 1]))
 (q:∀ (o:Array Keyed) st',Sg st st'->o.toList.Perm (a.toList++b.toList)->Srt κ o.toList->Q o st'):wpS (model prog w) A E s (mLo a b) Q st:=by
 have m0:=Mg.start ha hb
 have m1:=m0.b (n:=1) hb (by lia) (fun x hx y hy=>by
  have:x=b.toList[0]:=by
   rw [List.drop_zero,List.take_one] at hx
   simpa [List.head?_eq_getElem?,List.getElem?_eq_getElem lb1] using hx
  subst this
  rw [List.drop_zero] at hy
  obtain ⟨i,hi,rfl⟩:=List.getElem_of_mem hy
  rcases Nat.eq_zero_or_pos i with z | z
  ·subst z;lia
  ·have:=List.pairwise_iff_getElem.mp ha 0 i (by lia) hi z
   lia)
 have sa:a.size=a.toList.length:=Array.length_toList.symm
 have sb:b.size=b.toList.length:=Array.length_toList.symm
 have fd:∀ (o:Array Keyed) i j st',Sg st st'->Mg κ a.toList b.toList o.toList i j->(b.toList.length<=j\/a.toList.length<=i)->Q (o++a.extract i a.size++b.extract j b.size) st':=fun o i j st' hs m hj=>by
  have e:(o++a.extract i a.size++b.extract j b.size).toList=o.toList++a.toList.drop i++b.toList.drop j:=by
   rw [Array.toList_append,Array.toList_append,FH,FH]
  rcases hj with hj | hj
  ·obtain ⟨h1,h2⟩:=m.end ha hj
   exact q _ st' hs (by rw [e];exact h1) (by rw [e];exact h2)
  ·have e0:a.toList.drop i=[]:=List.drop_eq_nil_of_le hj
   obtain ⟨h1,h2⟩:=m.end2 ha hb (by rw [e0];intro x _ y hy;cases hy)
   rw [e0,List.append_nil] at h1 h2
   exact q _ st' hs (by rw [e,e0,List.append_nil];exact h1) (by rw [e,e0,List.append_nil];exact h2)
 have fl:∀ (o:Array Keyed) i j st',Sg st st'->Mg κ a.toList b.toList o.toList i j->i+1=a.toList.length->Q (o++b.extract j b.size++a.extract i a.size) st':=fun o i j st' hs m hi=>by
  obtain ⟨h1,h2⟩:=m.end2 ha hb (fun x hx y hy=>by
   obtain ⟨t,ht,rfl⟩:=CJ hy
   have h3:=hl x (List.mem_of_mem_drop hx)
   have:i+t=a.toList.length - 1:=by lia
   simp only [this]
   lia)
  have e:(o++b.extract j b.size++a.extract i a.size).toList=o.toList++b.toList.drop j++a.toList.drop i:=by
   rw [Array.toList_append,Array.toList_append,FH,FH]
  exact q _ st' hs (by rw [e];exact h1) (by rw [e];exact h2)
 clear q
 delta mLo
 refine wpS_bind (wpS_lift (wpAny_rule ⟨rfl,?_⟩))
 refine wpS_bind (A0 (An lb1) ?_)
 have m1':Mg κ a.toList b.toList (#[b.toList[0]]:Array Keyed).toList 0 1:=by
  have:=m1
  rw [B3 lb1] at this
  exact this
 by_cases c1:1=b.size
 ·rw [if_pos (by simpa using c1)]
  exact wpS_pure (fd _ 0 1 st Sg.refl m1' (.inl (by lia)))
 rw [if_neg (by simpa using c1)]
 by_cases c2:0+1=a.size
 ·rw [if_pos (by simpa using c2)]
  exact wpS_pure (fl _ 0 1 st Sg.refl m1' (by lia))
 rw [if_neg (by simpa using c2)]
 refine wpS_bind (wpS_get ?_)
 refine wpS_bind (wpS_mono (wpS_forRange (I:=fun x c st'=>Sg st st'/\∃ o i j mg,c=(none,o,i,j,mg)/\Mg κ a.toList b.toList o.toList i j/\i+1 < a.toList.length/\j < b.toList.length/\x < i+j)
  (Q:=fun c st'=>∃ r,c.1=some r/\Q r st') ?step ?fin ⟨Sg.refl,_,0,1,_,rfl,m1',by lia,by lia,by lia⟩) ?post)
 case fin =>
  intro c st' hI2
  refine hideP fun _ hR1=>?_
  obtain ⟨hs,o,i,j,mg,rfl,m,h1,h2,h3⟩:=hI2 <;> refine hR1 ?_
  lia
 case post =>
  intro hI0 st' hI2
  refine hideP fun _ hR2=>?_
  obtain ⟨r,o,i,j,mg⟩:=hI0 <;> obtain ⟨r',e,h⟩:=hI2 <;> refine hR2 ?_
  cases e
  exact wpS_pure h
 case step =>
  intro X c st1 _ hX hI5
  refine hideP fun _ hR3=>?_
  obtain ⟨hs1,o,i,j,mg,rfl,m,h1,h2,h3⟩:=hI5 <;> refine hR3 ?_
  refine wpS_bind (wpS_mono (wpS_forRange (I:=fun x c st2=>st2=st1/\∃ o' i' j' ac bc,c=(none,o',i',j',ac,bc)/\Mg κ a.toList b.toList o'.toList i' j'/\i'+1 < a.toList.length/\j' < b.toList.length/\i+j+x<=i'+j')
   (Q:=fun c st2=>st2=st1/\((∃ r,c.1=some r/\Q r st1)\/∃ o' i' j' ac bc,c=(none,o',i',j',ac,bc)/\Mg κ a.toList b.toList o'.toList i' j'/\i'+1 < a.toList.length/\j' < b.toList.length/\i+j+1<=i'+j')) ?istep ?ifin ⟨rfl,o,i,j,0,0,rfl,m,h1,h2,Nat.le_refl _⟩) ?ipost)
  case ifin =>
   intro c st2 hI2
   refine hideP fun _ hR4=>?_
   obtain ⟨rfl,o',i',j',ac,bc,rfl,m',h1',h2',h3'⟩:=hI2 <;> refine hR4 ?_
   exact ⟨rfl,.inr ⟨o',i',j',ac,bc,rfl,m',h1',h2',by lia⟩⟩
  case istep =>
   intro x c st2 _ hx hI5
   refine hideP fun _ hR5=>?_
   obtain ⟨rfl,o',i',j',ac,bc,rfl,m',h1',h2',h3'⟩:=hI5 <;> refine hR5 ?_
   have hi':i' < a.toList.length:=by lia
   refine wpS_bind (A0 (An h2') (wpS_bind (A0 (An hi') ?_)))
   refine wpS_bind (C.lt _ _ _ _ (heb _ (List.getElem_mem h2')) (hea _ (List.getElem_mem hi')) (hs1.k.trans hk) ?_)
   dsimp only
   by_cases hw:κ b.toList[j'] < κ a.toList[i']
   ·rw [if_pos (decide_eq_true hw)]
    have m2:=m'.b (n:=1) hb (by lia) (fun x hx y hy=>by
     rw [B3 h2',List.mem_singleton] at hx
     subst hx
     obtain ⟨t,ht,rfl⟩:=CJ hy
     have:=BG ha (show i'<=i'+t by lia) ht
     lia)
    rw [B3 h2',<- Array.toList_push] at m2
    refine wpS_bind (A0 (An h2') ?_)
    by_cases c3:j'+1=b.size
    ·rw [if_pos (by simpa using c3)]
     exact wpS_pure ⟨rfl,.inl ⟨_,rfl,fd _ _ _ _ hs1 m2 (.inl (by lia))⟩⟩
    ·rw [if_neg (by simpa using c3)]
     by_cases c4:bc+1 ≥ mg
     ·rw [if_pos c4]
      exact wpS_pure ⟨rfl,.inr ⟨_,_,_,_,_,rfl,m2,h1',by lia,by lia⟩⟩
     ·rw [if_neg c4]
      exact wpS_pure ⟨rfl,_,_,_,_,_,rfl,m2,h1',by lia,by lia⟩
   ·rw [if_neg (fun z=>hw (of_decide_eq_true z))]
    have m2:=m'.a (n:=1) ha (by lia) (fun x hx y hy=>by
     rw [B3 hi',List.mem_singleton] at hx
     subst hx
     obtain ⟨t,ht,rfl⟩:=CJ hy
     have:=BG hb (show j'<=j'+t by lia) ht
     lia)
    rw [B3 hi',<- Array.toList_push] at m2
    refine wpS_bind (A0 (An hi') ?_)
    by_cases c3:i'+1+1=a.size
    ·rw [if_pos (by simpa using c3)]
     exact wpS_pure ⟨rfl,.inl ⟨_,rfl,fl _ _ _ _ hs1 m2 (by lia)⟩⟩
    ·rw [if_neg (by simpa using c3)]
     by_cases c4:ac+1 ≥ mg
     ·rw [if_pos c4]
      exact wpS_pure ⟨rfl,.inr ⟨_,_,_,_,_,rfl,m2,by lia,h2',by lia⟩⟩
     ·rw [if_neg c4]
      exact wpS_pure ⟨rfl,_,_,_,_,_,rfl,m2,by lia,h2',by lia⟩
  case ipost =>
   intro hI0 st2 hI2
   refine hideP fun _ hR6=>?_
   obtain ⟨r,o1,i1,j1,ac1,bc1⟩:=hI0 <;> obtain ⟨rfl,⟨r',e,h⟩ | ⟨o',i',j',ac,bc,e,m',h1',h2',h3'⟩⟩:=hI2 <;> refine hR6 ?_
   ·cases e
    exact wpS_pure ⟨_,rfl,h⟩
   cases e
   refine wpS_bind (wpS_lift (wpAny_rule ⟨rfl,?_⟩))
   refine wpS_bind (wpS_mono (wpS_forRange (I:=fun x c st3=>Sg st st3/\∃ o' i' j' mg ac bc,c=(none,o',i',j',mg,ac,bc)/\Mg κ a.toList b.toList o'.toList i' j'/\i'+1 < a.toList.length/\j' < b.toList.length/\i+j+1<=i'+j')
    (Q:=fun c st3=>Sg st st3/\((∃ r,c.1=some r/\Q r st3)\/∃ o' i' j' mg ac bc,c=(none,o',i',j',mg,ac,bc)/\Mg κ a.toList b.toList o'.toList i' j'/\i'+1 < a.toList.length/\j' < b.toList.length/\i+j+1<=i'+j')) ?gstep ?gfin ⟨hs1,_,_,_,_,_,_,rfl,m',h1',h2',h3'⟩) ?gpost)
   case gfin =>
    rintro c st3 ⟨hs3,h⟩
    exact ⟨hs3,.inr h⟩
   case gpost =>
    intro hI0 st3 hI2
    refine hideP fun _ hR7=>?_
    obtain ⟨r,o2,i2,j2,mg2,ac2,bc2⟩:=hI0 <;> obtain ⟨hs3,⟨r',e,h⟩ | ⟨o',i',j',mg',ac,bc,e,m',h1',h2',h3'⟩⟩:=hI2 <;> refine hR7 ?_
    ·cases e
     exact wpS_pure ⟨_,rfl,h⟩
    cases e
    dsimp only
    refine wpS_bind (wpS_modify (wpS_pure ⟨hs3.trans ⟨rfl,rfl,rfl,rfl⟩,_,_,_,_,rfl,m',h1',h2',by lia⟩))
   case gstep =>
    clear m' h1' h2' h3'
    intro x c st3 _ hx hI5
    refine hideP fun _ hR8=>?_
    obtain ⟨hs3,o',i',j',mg',ac,bc,rfl,m',h1',h2',h3'⟩:=hI5 <;> refine hR8 ?_
    dsimp only
    have hi':i' < a.toList.length:=by lia
    apply Kt (fun (Z:Nat->StateT SortSt Sem (ForInStep (Option (Array Keyed) × Array Keyed × Nat × Nat × Nat × Nat × Nat))) R st4=>∀ m,wpS (model prog w) A E s (Z m) R st4)
    case h1 =>
     intro zz
     by_cases hm:mg' > 1
     ·rw [if_pos hm]
      generalize mg' - 1=m2
      exact zz m2
     ·rw [if_neg hm]
      generalize mg'=m2
      exact zz m2
    case h2 =>
     intro m2
     refine wpS_bind (wpS_modify ?_)
     have hs4:=hs3.trans (⟨rfl,rfl,rfl,rfl⟩:Sg st3 (SortSt.mk' (kindOf st3) (arrOf st3) (pendingOf st3) m2 (failedOf st3)))
     refine wpS_bind (A0 (An h2') ?_)
     have fa:∀ t,t < a.size - i'->∃ ht:i'+t < a.toList.length,a.toList.getD (i'+t) a.toList[i']=a.toList[i'+t]:=fun t ht=>⟨by lia,by rw [List.getD_eq_getElem?_getD,List.getElem?_eq_getElem (by lia)];rfl⟩
     refine wpS_bind (EE C (hs4.k.trans hk) (heb _ (List.getElem_mem h2')) (by lia) (fun t=>a.toList.getD (i'+t) a.toList[i']) (fun t ht=>?_) (fun t t' h h'=>?_) fun k hkn hk1 hk2=>?_)
     ·obtain ⟨h5,h6⟩:=fa t ht
      rw [h6]
      exact ⟨An h5,hea _ (List.getElem_mem h5)⟩
     ·obtain ⟨h5,h6⟩:=fa t (by lia)
      obtain ⟨h7,h8⟩:=fa t' h'
      rw [h6,h8]
      exact BG ha (by lia) h7
     dsimp only
     simp only [Bool.false_eq_true,if_false,Decidable.not_not] at hk1 hk2
     have hlast:=hl _ (List.getElem_mem h2')
     have hkn':k < a.size - i':=by
      rcases Nat.lt_or_ge k (a.size - i') with z | z
      ·exact z
      ·have h5:=hk1 (a.size - i' - 1) (by lia)
       obtain ⟨h6,h7⟩:=fa (a.size - i' - 1) (by lia)
       rw [h7] at h5
       have e:i'+(a.size - i' - 1)=a.toList.length - 1:=by lia
       simp only [e] at h5
       lia
     have mk:=m'.a (n:=k) ha (by lia) (fun x hx y hy=>by
      obtain ⟨t,ht,h5,rfl⟩:=GF hx
      obtain ⟨t',h6,rfl⟩:=CJ hy
      have h7:=hk1 t ht
      obtain ⟨h8,h9⟩:=fa t (by lia)
      rw [h9] at h7
      have:=BG hb (show j'<=j'+t' by lia) h6
      lia)
     have hnx:∃ h9:i'+k < a.toList.length,κ b.toList[j'] < κ a.toList[i'+k]:=by
      obtain ⟨h8,h9⟩:=fa k hkn'
      have h7:=hk2 k (Nat.le_refl _) hkn'
      rw [h9] at h7
      exact ⟨h8,h7⟩
     have hdr0:∀ y∈a.toList.drop (i'+k),κ b.toList[j']<=κ y:=fun y hy=>by
      obtain ⟨t,ht,rfl⟩:=CJ hy
      obtain ⟨h8,h9⟩:=hnx
      have:=BG ha (show i'+k<=i'+k+t by lia) ht
      lia
     obtain ⟨o2,i2,hc,mo2,hi2,hdr,hii⟩:∃ (o2:Array Keyed) (i2:Nat),((k > 0/\o'++a.extract i' (i'+k)=o2/\i'+k=i2)\/(¬ k > 0/\o'=o2/\i'=i2))/\Mg κ a.toList b.toList o2.toList i2 j'/\(i2+1 < a.toList.length\/k > 0/\i2+1=a.toList.length)/\(∀ y∈a.toList.drop i2,κ b.toList[j']<=κ y)/\i'<=i2:=by
      by_cases k0:k > 0
      ·rw [<- G2,<- Array.toList_append] at mk
       exact ⟨_,_,.inl ⟨k0,rfl,rfl⟩,mk,by lia,hdr0,by lia⟩
      ·have e0:k=0:=by lia
       rw [e0,Nat.add_zero] at hdr0
       exact ⟨_,_,.inr ⟨k0,rfl,rfl⟩,m',.inl h1',hdr0,Nat.le_refl _⟩
     rcases hc with ⟨k0,e1,e2⟩ | ⟨k0,e1,e2⟩
     case' inl =>
      rw [if_pos k0,e1,e2]
      by_cases c5:i2+1=a.size
      ·rw [if_pos (by simpa using c5)]
       exact wpS_pure ⟨hs4,.inl ⟨_,rfl,fl _ _ _ _ hs4 mo2 (by lia)⟩⟩
      rw [if_neg (by simpa using c5),if_neg (by simp;lia)]
      replace hi2:i2+1 < a.toList.length:=by lia
     case' inr =>
      rw [if_neg k0,e1,e2]
      replace hi2:i2+1 < a.toList.length:=by lia
     all_goals
      clear hdr0 e1 e2 k0 mk hnx
      have hi2':i2 < a.toList.length:=by lia
      refine wpS_bind (A0 (An h2') ?_)
      have m3:=mo2.b (n:=1) hb (by lia) (fun x hx y hy=>by
       rw [B3 h2',List.mem_singleton] at hx
       subst hx
       exact hdr y hy)
      rw [B3 h2',<- Array.toList_push] at m3
      by_cases c6:j'+1=b.size
      ·rw [if_pos (by simpa using c6)]
       exact wpS_pure ⟨hs4,.inl ⟨_,rfl,fd _ _ _ _ hs4 m3 (.inl (by lia))⟩⟩
      rw [if_neg (by simpa using c6)]
      refine wpS_bind (A0 (An hi2') ?_)
      have hj1:j'+1 < b.toList.length:=by lia
      have fb:∀ t,t < b.size - (j'+1)->∃ ht:j'+1+t < b.toList.length,b.toList.getD (j'+1+t) b.toList[j']=b.toList[j'+1+t]:=fun t ht=>⟨by lia,by rw [List.getD_eq_getElem?_getD,List.getElem?_eq_getElem (by lia)];rfl⟩
      refine wpS_bind (EE C (hs4.k.trans hk) (hea _ (List.getElem_mem hi2')) (by lia) (fun t=>b.toList.getD (j'+1+t) b.toList[j']) (fun t ht=>?_) (fun t t' h h'=>?_) fun k2 hkn2 hk3 hk4=>?_)
      ·obtain ⟨h5,h6⟩:=fb t ht
       rw [h6]
       exact ⟨An h5,heb _ (List.getElem_mem h5)⟩
      ·obtain ⟨h5,h6⟩:=fb t (by lia)
       obtain ⟨h7,h8⟩:=fb t' h'
       rw [h6,h8]
       exact BG hb (by lia) h7
      dsimp only
      simp only [if_true] at hk3 hk4
      have mk2:=m3.b (n:=k2) hb (by lia) (fun x hx y hy=>by
       obtain ⟨t,ht,h5,rfl⟩:=GF hx
       obtain ⟨t',h6,rfl⟩:=CJ hy
       have h7:=hk3 t ht
       obtain ⟨h8,h9⟩:=fb t (by lia)
       rw [h9] at h7
       have:=BG ha (show i2<=i2+t' by lia) h6
       lia)
      have hdb:∀ y∈b.toList.drop (j'+1+k2),κ a.toList[i2]<=κ y:=fun y hy=>by
       obtain ⟨t,ht,rfl⟩:=CJ hy
       obtain ⟨h8,h9⟩:=fb (k2+t) (by lia)
       have h7:=hk4 (k2+t) (by lia) (by lia)
       rw [h9] at h7
       have e:j'+1+(k2+t)=j'+1+k2+t:=by lia
       simp only [e] at h7
       lia
      obtain ⟨o3,j3,hc,mo3,hj3,hdb',hjj⟩:∃ (o3:Array Keyed) (j3:Nat),((k2 > 0/\o2.push b.toList[j']++b.extract (j'+1) (j'+1+k2)=o3/\j'+1+k2=j3)\/(¬ k2 > 0/\o2.push b.toList[j']=o3/\j'+1=j3))/\Mg κ a.toList b.toList o3.toList i2 j3/\(j3 < b.toList.length\/k2 > 0/\j3=b.toList.length)/\(∀ y∈b.toList.drop j3,κ a.toList[i2]<=κ y)/\j'+1<=j3:=by
       by_cases k0:k2 > 0
       ·rw [<- G2,<- Array.toList_append] at mk2
        exact ⟨_,_,.inl ⟨k0,rfl,rfl⟩,mk2,by lia,hdb,by lia⟩
       ·have e0:k2=0:=by lia
        rw [e0,Nat.add_zero] at hdb
        exact ⟨_,_,.inr ⟨k0,rfl,rfl⟩,m3,.inl hj1,hdb,Nat.le_refl _⟩
      rcases hc with ⟨k0,e1,e2⟩ | ⟨k0,e1,e2⟩
      case' inl =>
       rw [if_pos k0,e1,e2]
       by_cases c7:j3=b.size
       ·rw [if_pos (by simpa using c7)]
        exact wpS_pure ⟨hs4,.inl ⟨_,rfl,fd _ _ _ _ hs4 mo3 (.inl (by lia))⟩⟩
       rw [if_neg (by simpa using c7)]
       replace hj3:j3 < b.toList.length:=by lia
      case' inr =>
       rw [if_neg k0,e1,e2]
       replace hj3:j3 < b.toList.length:=by lia
      all_goals
       refine wpS_bind (A0 (An hi2') ?_)
       have m4:=mo3.a (n:=1) ha (by lia) (fun x hx y hy=>by
        rw [B3 hi2',List.mem_singleton] at hx
        subst hx
        exact hdb' y hy)
       rw [B3 hi2',<- Array.toList_push] at m4
       by_cases c8:i2+1+1=a.size
       ·rw [if_pos (by simpa using c8)]
        exact wpS_pure ⟨hs4,.inl ⟨_,rfl,fl _ _ _ _ hs4 m4 (by lia)⟩⟩
       rw [if_neg (by simpa using c8)]
       by_cases c9:(decide (k < 7) && decide (k2 < 7))=true
       ·rw [if_pos c9]
        exact wpS_pure ⟨hs4,.inr ⟨_,_,_,_,_,_,rfl,m4,by lia,hj3,by lia⟩⟩
       ·rw [if_neg c9]
        exact wpS_pure ⟨hs4,_,_,_,_,_,_,rfl,m4,by lia,hj3,by lia⟩
end
section
variable {κ:Keyed->Int}
structure Hg (κ:Keyed->Int) (la lb o:List Keyed) (na nb:Nat):Prop where
 il:na<=la.length
 jl:nb<=lb.length
 perm:(la.take na++lb.take nb++o.reverse).Perm (la++lb)
 srt:Srt κ o.reverse
 le:∀ y∈la.take na++lb.take nb,∀ x∈o,κ y<=κ x
variable {la lb o:List Keyed} {na nb n:Nat}
theorem Gp {l:List Keyed} (h:n<=na):l.take na=l.take n++(l.take na).drop n:=by
 have:=List.take_append_drop n (l.take na)
 rw [List.take_take,Nat.min_eq_left h] at this
 exact this.symm
theorem Hg.a (m:Hg κ la lb o na nb) (ha:Srt κ la) (hn:n<=na) (h:∀ x∈(la.take na).drop n,∀ y∈lb.take nb,κ y<=κ x):Hg κ la lb (o++((la.take na).drop n).reverse) n nb:=by
 have hd:=Gp (l:=la) hn
 have hs2:Srt κ (la.take na):=List.Pairwise.sublist (List.take_sublist _ _) ha
 rw [hd] at hs2
 obtain ⟨s1,s2,s3⟩:=List.pairwise_append.mp hs2
 have ml:=m.le
 have mp:=m.perm
 generalize (la.take na).drop n=D at *
 rw [hd] at ml mp
 refine ⟨Nat.le_trans hn m.il,m.jl,?_,?_,fun y hy x hx=>?_⟩
 ·rw [List.reverse_append,List.reverse_reverse]
  refine List.Perm.trans ?_ mp
  rw [<- List.append_assoc]
  refine List.Perm.append_right _ ?_
  rw [List.append_assoc,List.append_assoc]
  exact List.Perm.append_left _ List.perm_append_comm
 ·rw [List.reverse_append,List.reverse_reverse]
  exact Bg s2 m.srt fun x hx y hy=>ml x (by simp [hx]) y (List.mem_reverse.mp hy)
 ·rcases List.mem_append.mp hx with hx | hx
  ·refine ml y ?_ x hx
   rcases List.mem_append.mp hy with hy | hy
   ·simp [hy]
   ·simp [hy]
  ·replace hx:=List.mem_reverse.mp hx
   rcases List.mem_append.mp hy with hy | hy
   ·exact s3 y hy x hx
   ·exact h x hx y hy
theorem Hg.b (m:Hg κ la lb o na nb) (hb:Srt κ lb) (hn:n<=nb) (h:∀ x∈(lb.take nb).drop n,∀ y∈la.take na,κ y<=κ x):Hg κ la lb (o++((lb.take nb).drop n).reverse) na n:=by
 have hd:=Gp (l:=lb) hn
 have hs2:Srt κ (lb.take nb):=List.Pairwise.sublist (List.take_sublist _ _) hb
 rw [hd] at hs2
 obtain ⟨s1,s2,s3⟩:=List.pairwise_append.mp hs2
 have ml:=m.le
 have mp:=m.perm
 generalize (lb.take nb).drop n=D at *
 rw [hd] at ml mp
 refine ⟨m.il,Nat.le_trans hn m.jl,?_,?_,fun y hy x hx=>?_⟩
 ·rw [List.reverse_append,List.reverse_reverse]
  simpa [List.append_assoc] using mp
 ·rw [List.reverse_append,List.reverse_reverse]
  exact Bg s2 m.srt fun x hx y hy=>ml x (by simp [hx]) y (List.mem_reverse.mp hy)
 ·rcases List.mem_append.mp hx with hx | hx
  ·refine ml y ?_ x hx
   rcases List.mem_append.mp hy with hy | hy
   ·simp [hy]
   ·simp [hy]
  ·replace hx:=List.mem_reverse.mp hx
   rcases List.mem_append.mp hy with hy | hy
   ·exact h x hx y hy
   ·exact s3 y hy x hx
theorem Hg.end (m:Hg κ la lb o na nb) (hb:Srt κ lb) (h:na=0):(la.take na++lb.take nb++o.reverse).Perm (la++lb)/\Srt κ (la.take na++lb.take nb++o.reverse):=by
 refine ⟨m.perm,Bg ?_ m.srt fun x hx y hy=>m.le x hx y (List.mem_reverse.mp hy)⟩
 subst h
 rw [List.take_zero,List.nil_append]
 exact List.Pairwise.sublist (List.take_sublist _ _) hb
theorem Hg.end2 (m:Hg κ la lb o na nb) (ha:Srt κ la) (hb:Srt κ lb) (h:∀ x∈lb.take nb,∀ y∈la.take na,κ x<=κ y):(lb.take nb++la.take na++o.reverse).Perm (la++lb)/\Srt κ (lb.take nb++la.take na++o.reverse):=by
 refine ⟨List.Perm.trans (List.Perm.append_right _ List.perm_append_comm) m.perm,Bg (Bg (List.Pairwise.sublist (List.take_sublist _ _) hb) (List.Pairwise.sublist (List.take_sublist _ _) ha) h) m.srt fun x hx y hy=>m.le x ?_ y (List.mem_reverse.mp hy)⟩
 rcases List.mem_append.mp hx with hx | hx
 ·exact List.mem_append_right _ hx
 ·exact List.mem_append_left _ hx
theorem Hg.start:Hg κ la lb [] la.length lb.length:=⟨Nat.le_refl _,Nat.le_refl _,by simp,List.Pairwise.nil,fun y _ x hx=>by cases hx⟩
end
section
variable {prog:Program} {w:World} {A:Around} {E:Value->Shared->Prop} {s:Shared} {kd:SortKind} {El:Keyed->Prop} {κ:Keyed->Int}
theorem Fw {xs:Array Keyed} (n:Nat):(xs.extract 0 n).toList=xs.toList.take n:=by
 rw [Array.toList_extract,List.extract_eq_take_drop,List.drop_zero,Nat.sub_zero]
theorem Ie {xs:Array Keyed} (i n:Nat):(xs.extract i n).reverse.toList=((xs.toList.take n).drop i).reverse:=by
 rw [Array.toList_reverse,Array.toList_extract,List.extract_eq_take_drop,List.drop_take]
theorem DH {l:List Keyed} {n:Nat} (h:n - 1 < l.length) (h0:0 < n):(l.take n).drop (n - 1)=[l[n - 1]]:=by
 rw [List.drop_take,show n - (n - 1)=1 by lia,B3 h]
theorem B6 {l:List Keyed} {n:Nat} {x:Keyed} (h:x∈l.take n):∃ t,∃ ht:t < l.length,t < n/\x=l[t]:=by
 obtain ⟨t,ht,rfl⟩:=List.getElem_of_mem h
 rw [List.length_take] at ht
 exact ⟨t,by lia,by lia,by rw [List.getElem_take]⟩
theorem Hk {l:List Keyed} {i n:Nat} {x:Keyed} (h:x∈(l.take n).drop i):∃ t,∃ ht:t < l.length,i<=t/\t < n/\x=l[t]:=by
 obtain ⟨t,ht,rfl⟩:=CJ h
 rw [List.length_take] at ht
 exact ⟨i+t,by lia,by lia,by lia,by rw [List.getElem_take]⟩
theorem N8 (C:Cmp prog w A E s kd El κ) {a b:Array Keyed} {st:SortSt} {Q:Array Keyed->SortSt->Prop} (hk:kindOf st=kd) (ha:Srt κ a.toList) (hb:Srt κ b.toList) (hea:∀ x∈a.toList,El x) (heb:∀ x∈b.toList,El x)
 (la1:0 < a.toList.length) (lb1:0 < b.toList.length) (h0:κ b.toList[0] < κ a.toList[0]) (hl:∀ x∈b.toList,κ x < κ (a.toList[a.toList.length - 1]))
 (q:∀ (o:Array Keyed) st',Sg st st'->o.toList.Perm (a.toList++b.toList)->Srt κ o.toList->Q o st'):wpS (model prog w) A E s (mHi a b) Q st:=by
 have sa:a.size=a.toList.length:=Array.length_toList.symm
 have sb:b.size=b.toList.length:=Array.length_toList.symm
 have lla:a.size - 1 < a.toList.length:=by lia
 have m1':Hg κ a.toList b.toList (#[a.toList[a.size - 1]]:Array Keyed).toList (a.size - 1) b.size:=by
  have m0:Hg κ a.toList b.toList [] a.size b.size:=by rw [sa,sb];exact Hg.start
  have m1:=m0.a (n:=a.size - 1) ha (by lia) (fun x hx y hy=>by
   rw [DH lla (by lia),List.mem_singleton] at hx
   subst hx
   have:=hl y (List.mem_of_mem_take hy)
   simp only [<- sa] at this
   lia)
  rw [DH lla (by lia)] at m1
  exact m1
 have fd:∀ (o:Array Keyed) na nb st',Sg st st'->Hg κ a.toList b.toList o.toList na nb->na=0->Q (a.extract 0 na++b.extract 0 nb++o.reverse) st':=fun o na nb st' hs m hj=>by
  have e:(a.extract 0 na++b.extract 0 nb++o.reverse).toList=a.toList.take na++b.toList.take nb++o.toList.reverse:=by
   rw [Array.toList_append,Array.toList_append,Fw,Fw,Array.toList_reverse]
  obtain ⟨h1,h2⟩:=m.end hb hj
  exact q _ st' hs (by rw [e];exact h1) (by rw [e];exact h2)
 have fl:∀ (o:Array Keyed) na nb st',Sg st st'->Hg κ a.toList b.toList o.toList na nb->nb=1->Q (b.extract 0 nb++a.extract 0 na++o.reverse) st':=fun o na nb st' hs m hi=>by
  obtain ⟨h1,h2⟩:=m.end2 ha hb (fun x hx y hy=>by
   obtain ⟨t,ht,h5,rfl⟩:=B6 hx
   obtain ⟨u,hu,h6,rfl⟩:=B6 hy
   have e0:t=0:=by lia
   subst e0
   have:=BG ha (Nat.zero_le u) hu
   lia)
  have e:(b.extract 0 nb++a.extract 0 na++o.reverse).toList=b.toList.take nb++a.toList.take na++o.toList.reverse:=by
   rw [Array.toList_append,Array.toList_append,Fw,Fw,Array.toList_reverse]
  exact q _ st' hs (by rw [e];exact h1) (by rw [e];exact h2)
 have ta:∀ {o:Array Keyed} {na nb:Nat},Hg κ a.toList b.toList o.toList na nb->(h1:na - 1 < a.toList.length)->0 < na->(∀ y∈b.toList.take nb,κ y<=κ a.toList[na - 1])->Hg κ a.toList b.toList (o.push a.toList[na - 1]).toList (na - 1) nb:=fun {o na nb} m h1 h2 h3=>by
  have m2:=m.a (n:=na - 1) ha (by lia) (fun x hx y hy=>by
   rw [DH h1 h2,List.mem_singleton] at hx
   subst hx
   exact h3 y hy)
  rw [DH h1 h2] at m2
  rw [Array.toList_push]
  exact m2
 have tb:∀ {o:Array Keyed} {na nb:Nat},Hg κ a.toList b.toList o.toList na nb->(h1:nb - 1 < b.toList.length)->0 < nb->(∀ y∈a.toList.take na,κ y<=κ b.toList[nb - 1])->Hg κ a.toList b.toList (o.push b.toList[nb - 1]).toList na (nb - 1):=fun {o na nb} m h1 h2 h3=>by
  have m2:=m.b (n:=nb - 1) hb (by lia) (fun x hx y hy=>by
   rw [DH h1 h2,List.mem_singleton] at hx
   subst hx
   exact h3 y hy)
  rw [DH h1 h2] at m2
  rw [Array.toList_push]
  exact m2
 clear q
 delta mHi
 refine wpS_bind (wpS_lift (wpAny_rule ⟨rfl,?_⟩))
 refine wpS_bind (A0 (An lla) ?_)
 by_cases c1:a.size - 1=0
 ·rw [if_pos (by simpa using c1)]
  exact wpS_pure (fd _ _ _ st Sg.refl m1' c1)
 rw [if_neg (by simpa using c1)]
 by_cases c2:b.size=1
 ·rw [if_pos (by simpa using c2)]
  exact wpS_pure (fl _ _ _ st Sg.refl m1' c2)
 rw [if_neg (by simpa using c2)]
 refine wpS_bind (wpS_get ?_)
 refine wpS_bind (wpS_mono (wpS_forRange (I:=fun x c st'=>Sg st st'/\∃ na nb o mg,c=(none,na,nb,o,mg)/\Hg κ a.toList b.toList o.toList na nb/\0 < na/\1 < nb/\x+na+nb < a.size+b.size)
  (Q:=fun c st'=>∃ r,c.1=some r/\Q r st') ?step ?fin ⟨Sg.refl,_,_,_,_,rfl,m1',by lia,by lia,by lia⟩) ?post)
 case fin =>
  intro c st' hI2
  refine hideP fun _ hR1=>?_
  obtain ⟨hs,na,nb,o,mg,rfl,m,h1,h2,h3⟩:=hI2 <;> refine hR1 ?_
  lia
 case post =>
  intro hI0 st' hI2
  refine hideP fun _ hR2=>?_
  obtain ⟨r,na,nb,o,mg⟩:=hI0 <;> obtain ⟨r',e,h⟩:=hI2 <;> refine hR2 ?_
  cases e
  exact wpS_pure h
 case step =>
  intro X c st1 _ hX hI5
  refine hideP fun _ hR3=>?_
  obtain ⟨hs1,na,nb,o,mg,rfl,m,h1,h2,h3⟩:=hI5 <;> refine hR3 ?_
  refine wpS_bind (wpS_mono (wpS_forRange (I:=fun x c st2=>st2=st1/\∃ na' nb' o' ac bc,c=(none,na',nb',o',ac,bc)/\Hg κ a.toList b.toList o'.toList na' nb'/\0 < na'/\1 < nb'/\x+na'+nb'<=na+nb)
   (Q:=fun c st2=>st2=st1/\((∃ r,c.1=some r/\Q r st1)\/∃ na' nb' o' ac bc,c=(none,na',nb',o',ac,bc)/\Hg κ a.toList b.toList o'.toList na' nb'/\0 < na'/\1 < nb'/\1+na'+nb'<=na+nb)) ?istep ?ifin ⟨rfl,na,nb,o,0,0,rfl,m,h1,h2,by lia⟩) ?ipost)
  case ifin =>
   intro c st2 hI2
   refine hideP fun _ hR4=>?_
   obtain ⟨rfl,na',nb',o',ac,bc,rfl,m',h1',h2',h3'⟩:=hI2 <;> refine hR4 ?_
   exact ⟨rfl,.inr ⟨na',nb',o',ac,bc,rfl,m',h1',h2',by lia⟩⟩
  case istep =>
   intro x c st2 _ hx hI5
   refine hideP fun _ hR5=>?_
   obtain ⟨rfl,na',nb',o',ac,bc,rfl,m',h1',h2',h3'⟩:=hI5 <;> refine hR5 ?_
   have hi':na' - 1 < a.toList.length:=by have:=m'.il;lia
   have hj':nb' - 1 < b.toList.length:=by have:=m'.jl;lia
   refine wpS_bind (A0 (An hj') (wpS_bind (A0 (An hi') ?_)))
   refine wpS_bind (C.lt _ _ _ _ (heb _ (List.getElem_mem hj')) (hea _ (List.getElem_mem hi')) (hs1.k.trans hk) ?_)
   dsimp only
   by_cases hw:κ b.toList[nb' - 1] < κ a.toList[na' - 1]
   ·rw [if_pos (decide_eq_true hw)]
    have m2:=ta m' hi' h1' (fun y hy=>by
     obtain ⟨t,ht,h5,rfl⟩:=B6 hy
     have:=BG hb (show t<=nb' - 1 by lia) hj'
     lia)
    refine wpS_bind (A0 (An hi') ?_)
    by_cases c3:na' - 1=0
    ·rw [if_pos (by simpa using c3)]
     exact wpS_pure ⟨rfl,.inl ⟨_,rfl,fd _ _ _ _ hs1 m2 c3⟩⟩
    ·rw [if_neg (by simpa using c3)]
     by_cases c4:ac+1 ≥ mg
     ·rw [if_pos c4]
      exact wpS_pure ⟨rfl,.inr ⟨_,_,_,_,_,rfl,m2,by lia,h2',by lia⟩⟩
     ·rw [if_neg c4]
      exact wpS_pure ⟨rfl,_,_,_,_,_,rfl,m2,by lia,h2',by lia⟩
   ·rw [if_neg (fun z=>hw (of_decide_eq_true z))]
    have m2:=tb m' hj' (by lia) (fun y hy=>by
     obtain ⟨t,ht,h5,rfl⟩:=B6 hy
     have:=BG ha (show t<=na' - 1 by lia) hi'
     lia)
    refine wpS_bind (A0 (An hj') ?_)
    by_cases c3:nb' - 1=1
    ·rw [if_pos (by simpa using c3)]
     exact wpS_pure ⟨rfl,.inl ⟨_,rfl,fl _ _ _ _ hs1 m2 c3⟩⟩
    ·rw [if_neg (by simpa using c3)]
     by_cases c4:bc+1 ≥ mg
     ·rw [if_pos c4]
      exact wpS_pure ⟨rfl,.inr ⟨_,_,_,_,_,rfl,m2,h1',by lia,by lia⟩⟩
     ·rw [if_neg c4]
      exact wpS_pure ⟨rfl,_,_,_,_,_,rfl,m2,h1',by lia,by lia⟩
  case ipost =>
   intro hI0 st2 hI2
   refine hideP fun _ hR6=>?_
   obtain ⟨r,na1,nb1,o1,ac1,bc1⟩:=hI0 <;> obtain ⟨rfl,⟨r',e,h⟩ | ⟨na',nb',o',ac,bc,e,m',h1',h2',h3'⟩⟩:=hI2 <;> refine hR6 ?_
   ·cases e
    exact wpS_pure ⟨_,rfl,h⟩
   cases e
   refine wpS_bind (wpS_lift (wpAny_rule ⟨rfl,?_⟩))
   refine wpS_bind (wpS_mono (wpS_forRange (I:=fun x c st3=>Sg st st3/\∃ na' nb' o' mg ac bc,c=(none,na',nb',o',mg,ac,bc)/\Hg κ a.toList b.toList o'.toList na' nb'/\0 < na'/\1 < nb'/\1+na'+nb'<=na+nb)
    (Q:=fun c st3=>Sg st st3/\((∃ r,c.1=some r/\Q r st3)\/∃ na' nb' o' mg ac bc,c=(none,na',nb',o',mg,ac,bc)/\Hg κ a.toList b.toList o'.toList na' nb'/\0 < na'/\1 < nb'/\1+na'+nb'<=na+nb)) ?gstep ?gfin ⟨hs1,_,_,_,_,_,_,rfl,m',h1',h2',h3'⟩) ?gpost)
   case gfin =>
    rintro c st3 ⟨hs3,h⟩
    exact ⟨hs3,.inr h⟩
   case gpost =>
    intro hI0 st3 hI2
    refine hideP fun _ hR7=>?_
    obtain ⟨r,na2,nb2,o2,mg2,ac2,bc2⟩:=hI0 <;> obtain ⟨hs3,⟨r',e,h⟩ | ⟨na',nb',o',mg',ac,bc,e,m',h1',h2',h3'⟩⟩:=hI2 <;> refine hR7 ?_
    ·cases e
     exact wpS_pure ⟨_,rfl,h⟩
    cases e
    dsimp only
    refine wpS_bind (wpS_modify (wpS_pure ⟨hs3.trans ⟨rfl,rfl,rfl,rfl⟩,_,_,_,_,rfl,m',h1',h2',by lia⟩))
   case gstep =>
    clear m' h1' h2' h3'
    intro x c st3 _ hx hI5
    refine hideP fun _ hR8=>?_
    obtain ⟨hs3,na',nb',o',mg',ac,bc,rfl,m',h1',h2',h3'⟩:=hI5 <;> refine hR8 ?_
    dsimp only
    apply Kt (fun (Z:Nat->StateT SortSt Sem (ForInStep (Option (Array Keyed) × Nat × Nat × Array Keyed × Nat × Nat × Nat))) R st4=>∀ m,wpS (model prog w) A E s (Z m) R st4)
    case h1 =>
     intro zz
     by_cases hm:mg' > 1
     ·rw [if_pos hm]
      generalize mg' - 1=m2
      exact zz m2
     ·rw [if_neg hm]
      generalize mg'=m2
      exact zz m2
    case h2 =>
     intro m2
     refine wpS_bind (wpS_modify ?_)
     have hs4:=hs3.trans (⟨rfl,rfl,rfl,rfl⟩:Sg st3 (SortSt.mk' (kindOf st3) (arrOf st3) (pendingOf st3) m2 (failedOf st3)))
     have hi':na'<=a.toList.length:=m'.il
     have hj':nb' - 1 < b.toList.length:=by have:=m'.jl;lia
     refine wpS_bind (A0 (An hj') ?_)
     have fa:∀ t,t < na'->∃ ht:t < a.toList.length,a.toList.getD t a.toList[0]=a.toList[t]:=fun t ht=>⟨by lia,by rw [List.getD_eq_getElem?_getD,List.getElem?_eq_getElem (by lia)];rfl⟩
     refine wpS_bind (EE C (hs4.k.trans hk) (heb _ (List.getElem_mem hj')) (by lia) (fun t=>a.toList.getD t a.toList[0]) (fun t ht=>?_) (fun t t' h h'=>?_) fun k hkn hk1 hk2=>?_)
     ·obtain ⟨h5,h6⟩:=fa t ht
      rw [h6,Nat.zero_add]
      exact ⟨An h5,hea _ (List.getElem_mem h5)⟩
     ·obtain ⟨h5,h6⟩:=fa t (by lia)
      obtain ⟨h7,h8⟩:=fa t' h'
      rw [h6,h8]
      exact BG ha h h7
     dsimp only
     simp only [Bool.false_eq_true,if_false,Decidable.not_not] at hk1 hk2
     have mk:=m'.a (n:=k) ha hkn (fun x hx y hy=>by
      obtain ⟨t,ht,h5,h6,rfl⟩:=Hk hx
      obtain ⟨t',ht',h7,rfl⟩:=B6 hy
      have h8:=hk2 t h5 h6
      obtain ⟨h9,h10⟩:=fa t h6
      rw [h10] at h8
      have:=BG hb (show t'<=nb' - 1 by lia) hj'
      lia)
     have hdr0:∀ y∈a.toList.take k,κ y<=κ b.toList[nb' - 1]:=fun y hy=>by
      obtain ⟨t,ht,h5,rfl⟩:=B6 hy
      have h8:=hk1 t h5
      obtain ⟨h9,h10⟩:=fa t (by lia)
      rw [h10] at h8
      lia
     obtain ⟨o2,n2,hc,mo2,hdr,hii,hn0⟩:∃ (o2:Array Keyed) (n2:Nat),((na' - k > 0/\o'++(a.extract k na').reverse=o2/\k=n2)\/(¬ na' - k > 0/\o'=o2/\na'=n2))/\Hg κ a.toList b.toList o2.toList n2 nb'/\(∀ y∈a.toList.take n2,κ y<=κ b.toList[nb' - 1])/\n2<=na'/\(na' - k > 0\/0 < n2):=by
      by_cases k0:na' - k > 0
      ·rw [<- Ie,<- Array.toList_append] at mk
       exact ⟨_,_,.inl ⟨k0,rfl,rfl⟩,mk,hdr0,hkn,.inl k0⟩
      ·have e0:k=na':=by lia
       rw [e0] at hdr0
       exact ⟨_,_,.inr ⟨k0,rfl,rfl⟩,m',hdr0,Nat.le_refl _,.inr h1'⟩
     rcases hc with ⟨k0,e1,e2⟩ | ⟨k0,e1,e2⟩
     case' inl =>
      rw [if_pos k0,e1,e2]
      by_cases c5:n2=0
      ·rw [if_pos (by simpa using c5)]
       exact wpS_pure ⟨hs4,.inl ⟨_,rfl,fd _ _ _ _ hs4 mo2 c5⟩⟩
      rw [if_neg (by simpa using c5)]
      replace hn0:0 < n2:=by lia
     case' inr =>
      rw [if_neg k0,e1,e2]
      replace hn0:0 < n2:=by lia
     all_goals
      have hi2:n2 - 1 < a.toList.length:=by lia
      refine wpS_bind (A0 (An hj') ?_)
      have m3:=tb mo2 hj' (by lia) hdr
      by_cases c6:nb' - 1=1
      ·rw [if_pos (by simpa using c6)]
       exact wpS_pure ⟨hs4,.inl ⟨_,rfl,fl _ _ _ _ hs4 m3 c6⟩⟩
      rw [if_neg (by simpa using c6)]
      refine wpS_bind (A0 (An hi2) ?_)
      have fb:∀ t,t < nb' - 1->∃ ht:t < b.toList.length,b.toList.getD t b.toList[0]=b.toList[t]:=fun t ht=>⟨by lia,by rw [List.getD_eq_getElem?_getD,List.getElem?_eq_getElem (by lia)];rfl⟩
      refine wpS_bind (EE C (hs4.k.trans hk) (hea _ (List.getElem_mem hi2)) (by lia) (fun t=>b.toList.getD t b.toList[0]) (fun t ht=>?_) (fun t t' h h'=>?_) fun k2 hkn2 hk3 hk4=>?_)
      ·obtain ⟨h5,h6⟩:=fb t ht
       rw [h6,Nat.zero_add]
       exact ⟨An h5,heb _ (List.getElem_mem h5)⟩
      ·obtain ⟨h5,h6⟩:=fb t (by lia)
       obtain ⟨h7,h8⟩:=fb t' h'
       rw [h6,h8]
       exact BG hb h h7
      dsimp only
      simp only [if_true] at hk3 hk4
      have hz:0 < k2:=by
       rcases Nat.eq_zero_or_pos k2 with z | z
       ·exfalso
        have h8:=hk4 0 (by lia) (by lia)
        obtain ⟨h9,h10⟩:=fb 0 (by lia)
        rw [h10] at h8
        have:=BG ha (Nat.zero_le (n2 - 1)) hi2
        lia
       ·exact z
      have mk2:=m3.b (n:=k2) hb hkn2 (fun x hx y hy=>by
       obtain ⟨t,ht,h5,h6,rfl⟩:=Hk hx
       obtain ⟨t',ht',h7,rfl⟩:=B6 hy
       have h8:=hk4 t h5 h6
       obtain ⟨h9,h10⟩:=fb t h6
       rw [h10] at h8
       have:=BG ha (show t'<=n2 - 1 by lia) hi2
       lia)
      have hdb0:∀ y∈b.toList.take k2,κ y<=κ a.toList[n2 - 1]:=fun y hy=>by
       obtain ⟨t,ht,h5,rfl⟩:=B6 hy
       have h8:=hk3 t h5
       obtain ⟨h9,h10⟩:=fb t (by lia)
       rw [h10] at h8
       lia
      obtain ⟨o3,n3,hc,mo3,hdb,hjj,hn1⟩:∃ (o3:Array Keyed) (n3:Nat),((nb' - 1 - k2 > 0/\o2.push b.toList[nb' - 1]++(b.extract k2 (nb' - 1)).reverse=o3/\k2=n3)\/(¬ nb' - 1 - k2 > 0/\o2.push b.toList[nb' - 1]=o3/\nb' - 1=n3))/\Hg κ a.toList b.toList o3.toList n2 n3/\(∀ y∈b.toList.take n3,κ y<=κ a.toList[n2 - 1])/\n3<=nb' - 1/\0 < n3:=by
       by_cases k0:nb' - 1 - k2 > 0
       ·rw [<- Ie,<- Array.toList_append] at mk2
        exact ⟨_,_,.inl ⟨k0,rfl,rfl⟩,mk2,hdb0,hkn2,hz⟩
       ·have e0:k2=nb' - 1:=by lia
        rw [e0] at hdb0
        exact ⟨_,_,.inr ⟨k0,rfl,rfl⟩,m3,hdb0,Nat.le_refl _,by lia⟩
      rcases hc with ⟨l0,e3,e4⟩ | ⟨l0,e3,e4⟩
      case' inl =>
       rw [if_pos l0,e3,e4]
       by_cases c7:n3=1
       ·rw [if_pos (by simpa using c7)]
        exact wpS_pure ⟨hs4,.inl ⟨_,rfl,fl _ _ _ _ hs4 mo3 c7⟩⟩
       rw [if_neg (by simpa using c7),if_neg (by simp;lia)]
       replace hn1:1 < n3:=by lia
      case' inr =>
       rw [if_neg l0,e3,e4]
       replace hn1:1 < n3:=by lia
      all_goals
       refine wpS_bind (A0 (An hi2) ?_)
       have m4:=ta mo3 hi2 hn0 hdb
       by_cases c8:n2 - 1=0
       ·rw [if_pos (by simpa using c8)]
        exact wpS_pure ⟨hs4,.inl ⟨_,rfl,fd _ _ _ _ hs4 m4 c8⟩⟩
       rw [if_neg (by simpa using c8)]
       split
       ·exact wpS_pure ⟨hs4,.inr ⟨_,_,_,_,_,_,rfl,m4,by lia,hn1,by lia⟩⟩
       ·exact wpS_pure ⟨hs4,_,_,_,_,_,_,rfl,m4,by lia,hn1,by lia⟩
end
theorem MM (sa:Nat) (l:List Keyed):∀ (m:Nat) (arr:Array Keyed),sa+m+l.length<=arr.size ->
 ((l.zipIdx m).foldl (fun a (p:Keyed × Nat)=>a.setIfInBounds (sa+p.2) p.1) arr).toList=arr.toList.take (sa+m)++l++arr.toList.drop (sa+m+l.length):=by
 induction l with
 | nil=>intro m arr h;simp
 | cons x l ih =>
  intro m arr h
  rw [List.length_cons] at h
  rw [List.zipIdx_cons,List.foldl_cons]
  dsimp only
  rw [ih (m+1) (arr.setIfInBounds (sa+m) x) (by rw [Array.size_setIfInBounds];lia),Array.toList_setIfInBounds]
  have h1:sa+m < arr.toList.length:=by rw [Array.length_toList];lia
  have e1:(arr.toList.set (sa+m) x).take (sa+(m+1))=arr.toList.take (sa+m)++[x]:=by
   rw [show sa+(m+1)=sa+m+1 by lia,List.take_add_one,List.take_set_of_le (Nat.le_refl _),List.getElem?_set_self h1]
   rfl
  rw [e1,List.drop_set_of_lt (by lia),List.length_cons,show sa+(m+1)+l.length=sa+m+(l.length+1) by lia]
  simp
section
variable {prog:Program} {w:World} {A:Around} {E:Value->Shared->Prop} {s:Shared} {kd:SortKind} {El:Keyed->Prop} {κ:Keyed->Int}
theorem QA {st st':SortSt} {Q:PUnit->SortSt->Prop} (h:Q ⟨⟩ st'):wpS (model prog w) A E s (set st':StateT SortSt Sem PUnit) Q st:=wpS_modify (f:=fun _=>st') h
theorem Qe (C:Cmp prog w A E s kd El κ) {st:SortSt} {Q:Bool->SortSt->Prop} {n1 n2 pw:Nat} (hk:kindOf st=kd) (hf:failedOf st=none) (hp:pendingOf st = #[(0,n1,pw),(n1,n2,0)]) (h1:0 < n1) (h2:0 < n2) (hs:(arrOf st).toList.length=n1+n2) (hel:∀ x∈(arrOf st).toList,El x) (sa:Srt κ ((arrOf st).toList.take n1)) (sb:Srt κ ((arrOf st).toList.drop n1))
 (q:∀ st',kindOf st'=kd->failedOf st'=none->pendingOf st' = #[(0,n1+n2,pw)]->(arrOf st').toList.Perm (arrOf st).toList->Srt κ (arrOf st').toList->Q true st'):wpS (model prog w) A E s (mergeAt' 0) Q st:=by
 obtain ⟨kk,arr,p,g,f⟩:=st
 replace hk:kk=kd:=hk
 replace hf:f=none:=hf
 replace hp:p = #[(0,n1,pw),(n1,n2,0)]:=hp
 subst hk hf hp
 replace hs:arr.toList.length=n1+n2:=hs
 replace hel:∀ x∈arr.toList,El x:=hel
 replace sa:Srt κ (arr.toList.take n1):=sa
 replace sb:Srt κ (arr.toList.drop n1):=sb
 have q':∀ st',kindOf st'=kk->failedOf st'=none->pendingOf st' = #[(0,n1+n2,pw)]->(arrOf st').toList.Perm arr.toList->Srt κ (arrOf st').toList->Q true st':=q
 clear q
 delta mergeAt'
 refine wpS_bind (wpS_get ?_)
 have e0:(#[(0,n1,pw),(n1,n2,0)]:Array (Nat × Nat × Nat))[0]? = some (0,n1,pw):=rfl
 have e1:(#[(0,n1,pw),(n1,n2,0)]:Array (Nat × Nat × Nat))[0+1]? = some (n1,n2,0):=rfl
 dsimp only
 rw [e0,e1]
 dsimp only
 refine wpS_bind (QA ?_)
 have hpe:((#[(0,n1,pw),(n1,n2,0)]:Array (Nat × Nat × Nat)).setIfInBounds 0 (0,n1+n2,pw)).eraseIdxIfInBounds (0+1) = #[(0,n1+n2,pw)]:=by simp [Array.eraseIdxIfInBounds]
 rw [hpe]
 refine (fun z:∀ st2:SortSt,SortSt.mk' kk arr #[(0,n1+n2,pw)] g none=st2->wpS (model prog w) A E s _ Q st2=>z _ rfl) ?_
 intro st2 hst
 have k2:kindOf st2=kk:=by rw [<- hst]
 have f2:failedOf st2=none:=by rw [<- hst]
 have p2:pendingOf st2 = #[(0,n1+n2,pw)]:=by rw [<- hst]
 have a2:arrOf st2=arr:=by rw [<- hst]
 have q:Srt κ arr.toList->Q true st2:=fun z=>q' st2 k2 f2 p2 (by rw [a2]) (by rw [a2];exact z)
 have l1:n1 < arr.toList.length:=by lia
 have l2:n1 - 1 < arr.toList.length:=by lia
 have ea:∀ i j,(hij:i<=j)->(hj:j < n1)->κ (arr.toList[i]'(by lia))<=κ (arr.toList[j]'(by lia)):=fun i j hij hj=>by
  have:=BG sa hij (show j < (arr.toList.take n1).length by rw [List.length_take];lia)
  simpa using this
 have eb:∀ i j,(hn:n1<=i)->(hij:i<=j)->(hj:j < arr.toList.length)->κ (arr.toList[i]'(by lia))<=κ (arr.toList[j]'hj):=fun i j hn hij hj=>by
  have:=BG sb (show i - n1<=j - n1 by lia) (show j - n1 < (arr.toList.drop n1).length by rw [List.length_drop];lia)
  rw [List.getElem_drop,List.getElem_drop] at this
  simpa only [show n1+(i - n1)=i by lia,show n1+(j - n1)=j by lia] using this
 have srtI:∀ l:List Keyed,(∀ i j,(hij:i < j)->(hj:j < l.length)->κ (l[i]'(by lia))<=κ (l[j]'hj))->Srt κ l:=fun l h=>List.pairwise_iff_getElem.mpr fun i j hi hj hij=>h i j hij hj
 refine wpS_bind (A0 (An l1) ?_)
 have fa:∀ t,t < arr.toList.length->∃ ht:t < arr.toList.length,arr.toList.getD t arr.toList[n1]=arr.toList[t]:=fun t ht=>⟨ht,by rw [List.getD_eq_getElem?_getD,List.getElem?_eq_getElem ht];rfl⟩
 refine wpS_bind (EE C k2 (hel _ (List.getElem_mem l1)) h1 (fun t=>arr.toList.getD t arr.toList[n1]) (fun t ht=>?_) (fun t t' h h'=>?_) fun k hkn hk1 hk2=>?_)
 ·obtain ⟨h5,h6⟩:=fa t (by lia)
  rw [h6,Nat.zero_add]
  exact ⟨An h5,hel _ (List.getElem_mem h5)⟩
 ·obtain ⟨h5,h6⟩:=fa t (by lia)
  obtain ⟨h7,h8⟩:=fa t' (by lia)
  rw [h6,h8]
  exact ea t t' h h'
 dsimp only
 simp only [Bool.false_eq_true,if_false,Decidable.not_not] at hk1 hk2
 replace hk1:∀ i,(hi:i < k)->κ (arr.toList[i]'(by lia))<=κ arr.toList[n1]:=fun i hi=>by
  have:=hk1 i hi
  obtain ⟨h5,h6⟩:=fa i (by lia)
  rw [h6] at this
  lia
 replace hk2:∀ i,k<=i->(hi:i < n1)->κ arr.toList[n1] < κ (arr.toList[i]'(by lia)):=fun i hi hi'=>by
  have:=hk2 i hi hi'
  obtain ⟨h5,h6⟩:=fa i (by lia)
  rwa [h6] at this
 by_cases c1:n1 - k=0
 ·rw [if_pos (by simpa using c1)]
  refine wpS_pure (q (srtI _ fun i j hij hj=>?_))
  rcases Nat.lt_or_ge j n1 with z | z
  ·exact ea i j (by lia) z
  ·rcases Nat.lt_or_ge i n1 with y | y
   ·exact Int.le_trans (hk1 i (by lia)) (eb n1 j (Nat.le_refl _) z hj)
   ·exact eb i j y (by lia) hj
 rw [if_neg (by simpa using c1)]
 have ei:0+k+(n1 - k) - 1=n1 - 1:=by lia
 rw [ei]
 refine wpS_bind (A0 (An l2) ?_)
 refine wpS_bind (EE C k2 (hel _ (List.getElem_mem l2)) (by lia) (fun t=>arr.toList.getD (n1+t) arr.toList[n1]) (fun t ht=>?_) (fun t t' h h'=>?_) fun nb hnb hk3 hk4=>?_)
 ·obtain ⟨h5,h6⟩:=fa (n1+t) (by lia)
  rw [h6]
  exact ⟨An h5,hel _ (List.getElem_mem h5)⟩
 ·obtain ⟨h5,h6⟩:=fa (n1+t) (by lia)
  obtain ⟨h7,h8⟩:=fa (n1+t') (by lia)
  rw [h6,h8]
  exact eb _ _ (by lia) (by lia) h7
 dsimp only
 simp only [if_true] at hk3 hk4
 replace hk3:∀ i,n1<=i->(hi:i < n1+nb)->κ (arr.toList[i]'(by lia)) < κ arr.toList[n1 - 1]:=fun i hi hi'=>by
  have:=hk3 (i - n1) (by lia)
  obtain ⟨h5,h6⟩:=fa (n1+(i - n1)) (by lia)
  rw [h6] at this
  simpa only [show n1+(i - n1)=i by lia] using this
 replace hk4:∀ i,n1+nb<=i->(hi:i < arr.toList.length)->κ arr.toList[n1 - 1]<=κ (arr.toList[i]'hi):=fun i hi hi'=>by
  have:=hk4 (i - n1) (by lia) (by lia)
  obtain ⟨h5,h6⟩:=fa (n1+(i - n1)) (by lia)
  rw [h6] at this
  have e:n1+(i - n1)=i:=by lia
  simp only [e] at this
  lia
 by_cases c2:nb=0
 ·rw [if_pos (by simpa using c2)]
  refine wpS_pure (q (srtI _ fun i j hij hj=>?_))
  rcases Nat.lt_or_ge j n1 with z | z
  ·exact ea i j (by lia) z
  ·rcases Nat.lt_or_ge i n1 with y | y
   ·exact Int.le_trans (ea i (n1 - 1) (by lia) (by lia)) (hk4 j (by lia) hj)
   ·exact eb i j y (by lia) hj
 rw [if_neg (by simpa using c2),Nat.zero_add]
 have ex:(arr.extract k n1).toList=(arr.toList.take n1).drop k:=by rw [Array.toList_extract,List.extract_eq_take_drop,List.drop_take]
 have ey:(arr.extract n1 (n1+nb)).toList=(arr.toList.drop n1).take nb:=G2 _ _
 have hx:∀ x∈(arr.toList.take n1).drop k,∃ t,∃ ht:t < arr.toList.length,k<=t/\t < n1/\x=arr.toList[t]:=fun x hx=>Hk hx
 have hy:∀ y∈(arr.toList.drop n1).take nb,∃ t,∃ ht:t < arr.toList.length,n1<=t/\t < n1+nb/\y=arr.toList[t]:=fun y hy=>by
  obtain ⟨t,ht,h5,e⟩:=GF hy
  exact ⟨n1+t,h5,by lia,by lia,e⟩
 have sx:Srt κ ((arr.toList.take n1).drop k):=List.Pairwise.sublist (List.drop_sublist _ _) sa
 have sy:Srt κ ((arr.toList.drop n1).take nb):=List.Pairwise.sublist (List.take_sublist _ _) sb
 have lx:((arr.toList.take n1).drop k).length=n1 - k:=by rw [List.length_drop,List.length_take];lia
 have ly:((arr.toList.drop n1).take nb).length=nb:=by rw [List.length_take,List.length_drop];lia
 have eL:arr.toList=arr.toList.take k++((arr.toList.take n1).drop k++(arr.toList.drop n1).take nb)++arr.toList.drop (n1+nb):=by
  have h5:=Gp (l:=arr.toList) (n:=k) (na:=n1) (by lia)
  have h6:(arr.toList.drop n1).take nb++arr.toList.drop (n1+nb)=arr.toList.drop n1:=by rw [<- List.drop_drop,List.take_append_drop]
  have h7:=List.take_append_drop n1 arr.toList
  rw [<- h6] at h7
  conv=>lhs;rw [<- h7,h5]
  simp only [List.append_assoc]
 have fin:∀ (o:Array Keyed) st',Sg st2 st'->o.toList.Perm ((arr.toList.take n1).drop k++(arr.toList.drop n1).take nb)->Srt κ o.toList->Q (failedOf st').isNone (setArr st' (List.foldl (fun a (x:Keyed × Nat)=>a.setIfInBounds (k+x.2) x.1) (arrOf st') o.toList.zipIdx)):=fun o st' hs' hp ho=>by
  have hlen:o.toList.length=n1 - k+nb:=by rw [hp.length_eq,List.length_append,lx,ly]
  rw [hs'.f,f2,hs'.a,a2]
  have e:=MM k o.toList 0 arr (by rw [<- Array.length_toList];lia)
  rw [Nat.add_zero,show k+o.toList.length=n1+nb by lia] at e
  refine q' _ (hs'.k.trans k2) (hs'.f.trans f2) (hs'.p.trans p2) ?_ ?_
  ·show (List.foldl _ arr o.toList.zipIdx).toList.Perm _
   rw [e]
   conv=>rhs;rw [eL]
   exact List.Perm.append_right _ (List.Perm.append_left _ hp)
  ·show Srt κ (List.foldl _ arr o.toList.zipIdx).toList
   rw [e]
   have mo:∀ x∈o.toList,∃ t,∃ ht:t < arr.toList.length,k<=t/\t < n1+nb/\x=arr.toList[t]:=fun x h=>by
    rcases List.mem_append.mp (hp.mem_iff.mp h) with h | h
    ·obtain ⟨t,ht,h5,h6,e⟩:=hx x h
     exact ⟨t,ht,h5,by lia,e⟩
    ·obtain ⟨t,ht,h5,h6,e⟩:=hy x h
     exact ⟨t,ht,by lia,h6,e⟩
   have lo:∀ t,(ht:t < k)->∀ u,k<=u->(hu:u < arr.toList.length)->κ (arr.toList[t]'(by lia))<=κ (arr.toList[u]'hu):=fun t ht u h5 hu=>by
    rcases Nat.lt_or_ge u n1 with z | z
    ·exact ea t u (by lia) z
    ·exact Int.le_trans (hk1 t ht) (eb n1 u (Nat.le_refl _) z hu)
   have hi:∀ t,k<=t->(ht:t < n1+nb)->∀ u,n1+nb<=u->(hu:u < arr.toList.length)->κ (arr.toList[t]'(by lia))<=κ (arr.toList[u]'hu):=fun t h5 ht u h6 hu=>by
    rcases Nat.lt_or_ge t n1 with z | z
    ·exact Int.le_trans (ea t (n1 - 1) (by lia) (by lia)) (hk4 u h6 hu)
    ·exact eb t u z (by lia) hu
   refine Bg (Bg ?_ ho fun x h y h'=>?_) (List.Pairwise.sublist (by rw [<- List.drop_drop];exact List.drop_sublist _ _) sb) fun x h y h'=>?_
   ·have:=List.Pairwise.sublist (List.take_sublist k _) sa
    rwa [List.take_take,Nat.min_eq_left (by lia)] at this
   ·obtain ⟨t,ht,h5,rfl⟩:=B6 h
    obtain ⟨u,hu,h6,h7,rfl⟩:=mo y h'
    exact lo t h5 u h6 hu
   ·obtain ⟨u,hu,rfl⟩:=CJ h'
    rcases List.mem_append.mp h with h | h
    ·obtain ⟨t,ht,h5,rfl⟩:=B6 h
     exact lo t h5 _ (by lia) hu
    ·obtain ⟨t,ht,h6,h7,rfl⟩:=mo x h
     exact hi t h6 h7 _ (by lia) hu
 have h0:∀ (e1:0 < (arr.extract k n1).toList.length) (e2:0 < (arr.extract n1 (n1+nb)).toList.length),κ (arr.extract n1 (n1+nb)).toList[0] < κ (arr.extract k n1).toList[0]:=fun e1 e2=>by
  have:=hk2 k (Nat.le_refl _) (by lia)
  simp only [ex,ey,List.getElem_take,List.getElem_drop,Nat.add_zero]
  exact this
 have hl:∀ (e1:0 < (arr.extract k n1).toList.length),∀ x∈(arr.extract n1 (n1+nb)).toList,κ x < κ ((arr.extract k n1).toList[(arr.extract k n1).toList.length - 1]'(by lia)):=fun e1 x h=>by
  rw [ey] at h
  obtain ⟨t,ht,h5,h6,rfl⟩:=hy x h
  have:=hk3 t h5 h6
  simp only [ex,lx,List.getElem_take,List.getElem_drop]
  simpa only [show k+(n1 - k - 1)=n1 - 1 by lia] using this
 have e1:0 < (arr.extract k n1).toList.length:=by rw [ex,lx];lia
 have e2:0 < (arr.extract n1 (n1+nb)).toList.length:=by rw [ey,ly];lia
 have hea:∀ x∈(arr.extract k n1).toList,El x:=fun x h=>by
  rw [ex] at h
  obtain ⟨t,ht,_,_,rfl⟩:=hx x h
  exact hel _ (List.getElem_mem ht)
 have heb:∀ x∈(arr.extract n1 (n1+nb)).toList,El x:=fun x h=>by
  rw [ey] at h
  obtain ⟨t,ht,_,_,rfl⟩:=hy x h
  exact hel _ (List.getElem_mem ht)
 by_cases c3:n1 - k<=nb
 ·rw [if_pos c3]
  refine wpS_bind (Oe C k2 (by rw [ex];exact sx) (by rw [ey];exact sy) hea heb e1 e2 (h0 e1 e2) (hl e1) fun o st' hs' hp ho=>?_)
  rw [ex,ey] at hp
  exact wpS_bind (wpS_modify (wpS_bind (wpS_get (wpS_pure (fin o st' hs' hp ho)))))
 ·rw [if_neg c3]
  refine wpS_bind (N8 C k2 (by rw [ex];exact sx) (by rw [ey];exact sy) hea heb e1 e2 (h0 e1 e2) (hl e1) fun o st' hs' hp ho=>?_)
  rw [ex,ey] at hp
  exact wpS_bind (wpS_modify (wpS_bind (wpS_get (wpS_pure (fin o st' hs' hp ho)))))
end
section
variable {prog:Program} {w:World} {A:Around} {E:Value->Shared->Prop} {s:Shared} {kd:SortKind} {El:Keyed->Prop} {κ:Keyed->Int}
noncomputable def Kf (κ:Keyed->Int) (xs:Array Keyed) (i:Nat):Int:=match xs[i]? with
 | some p=>κ p
 | none=>0
theorem Cp {xs ys:Array Keyed} {i j:Nat} (h:xs[i]? = ys[j]?):Kf κ xs i=Kf κ ys j:=by unfold Kf;rw [h]
noncomputable def Seg (κ:Keyed->Int) (lo:Nat) (xs:Array Keyed) (k:Nat):Prop:=∀ i j,lo<=i->i<=j->j < lo+k->Kf κ xs i<=Kf κ xs j
noncomputable def Dsc (κ:Keyed->Int) (lo:Nat) (xs:Array Keyed) (k:Nat):Prop:=∀ i j,lo<=i->i<=j->j < lo+k->Kf κ xs j<=Kf κ xs i
structure Bs (kd:SortKind) (a₀:Array Keyed) (lo:Nat) (pe:Array (Nat × Nat × Nat)) (st:SortSt):Prop where
 perm:(arrOf st).Perm a₀
 kind:kindOf st=kd
 failed:failedOf st=none
 pend:pendingOf st=pe
 low:∀ i,i < lo->(arrOf st)[i]? = a₀[i]?
variable {a₀:Array Keyed} {lo:Nat} {pe:Array (Nat × Nat × Nat)}
theorem Bs.size {st:SortSt} (h:Bs kd a₀ lo pe st):(arrOf st).size=a₀.size:=h.perm.size_eq
theorem Bs.put {st:SortSt} (h:Bs kd a₀ lo pe st) {xs:Array Keyed} (hp:xs.Perm (arrOf st)) (hl:∀ i,i < lo->xs[i]? = (arrOf st)[i]?):Bs kd a₀ lo pe (setArr st xs) :=
 ⟨hp.trans h.perm,h.kind,h.failed,h.pend,fun i hi=>(hl i hi).trans (h.low i hi)⟩
theorem Bs.at {st:SortSt} (h:Bs kd a₀ lo pe st) (h0:∀ x∈a₀.toList,El x) {i:Nat} (hi:i < a₀.size):∃ x,(arrOf st)[i]? = some x/\El x/\Kf κ (arrOf st) i=κ x:=by
 have hi':i < (arrOf st).size:=by rw [h.size];exact hi
 have hm:(arrOf st)[i]∈a₀.toList:=(Array.perm_iff_toList_perm.mp h.perm).mem_iff.mp (by simp)
 have e:(arrOf st)[i]? = some (arrOf st)[i]:=getElem?_pos _ i hi'
 exact ⟨_,e,h0 _ hm,by unfold Kf;rw [e]⟩
theorem C9 (C:Cmp prog w A E s kd El κ) {st:SortSt} {i j:Nat} {Q:Option Bool->SortSt->Prop} (hB:Bs kd a₀ lo pe st) (h0:∀ x∈a₀.toList,El x) (hi:i < a₀.size) (hj:j < a₀.size)
 (h:Q (some (decide (Kf κ (arrOf st) i < Kf κ (arrOf st) j))) st):wpS (model prog w) A E s (ltAt' i j) Q st:=by
 obtain ⟨x,e1,x1,k1⟩:=hB.at (κ:=κ) h0 hi
 obtain ⟨y,e2,y1,k2⟩:=hB.at (κ:=κ) h0 hj
 rw [k1,k2] at h
 delta ltAt'
 refine wpS_bind (wpS_get ?_)
 refine wpS_bind (A0 e1 (wpS_bind (A0 e2 ?_)))
 exact C.lt _ _ _ _ x1 y1 hB.kind h
theorem LP {xs:Array Keyed} {src d:Nat} (hs:src < xs.size) (hd:d<=src) (k:Nat) :
 Kf κ (bubble xs src d) k=if k=src - d then Kf κ xs src else if src - d < k/\k<=src then Kf κ xs (k - 1) else Kf κ xs k:=by
 have e:=getElem?_bubble hs d hd k
 by_cases h1:k=src - d
 ·rw [if_pos h1] at e ⊢;exact Cp e
 ·rw [if_neg h1] at e ⊢
  by_cases h2:src - d < k/\k<=src
  ·rw [if_pos h2] at e ⊢;exact Cp e
  ·rw [if_neg h2] at e ⊢;exact Cp e
theorem Hi {xs:Array Keyed} {i j:Nat} (hj:j<=xs.size) (k:Nat) :
 Kf κ (mirror xs i j ((j - i) / 2)) k=if i<=k/\k < j then Kf κ xs (i+j - 1 - k) else Kf κ xs k:=by
 have e:=getElem?_mirror_all (i:=i) hj k
 by_cases h1:i<=k/\k < j
 ·rw [if_pos h1] at e ⊢;exact Cp e
 ·rw [if_neg h1] at e ⊢;exact Cp e
theorem CV {xs:Array Keyed} {i j:Nat} (hj:j<=xs.size) (heq:∀ k,i<=k->k < j->Kf κ xs k=Kf κ xs (j - 1)) (k:Nat) :
 Kf κ (mirror xs i j ((j - i) / 2)) k=Kf κ xs k:=by
 rw [Hi hj]
 split
 ·rw [heq _ (by lia) (by lia),heq k (by lia) (by lia)]
 ·rfl
theorem Ft {st:SortSt} {i j:Nat} {Q:Unit->SortSt->Prop} (hB:Bs kd a₀ lo pe st) (hi:lo<=i) (hj:j<=a₀.size) (h:Bs kd a₀ lo pe (setArr st (mirror (arrOf st) i j ((j - i) / 2)))->Q () (setArr st (mirror (arrOf st) i j ((j - i) / 2)))) :
 wpS (model prog w) A E s (reverseSlice' i j) Q st:=by
 refine wpS_reverse (h (hB.put (mirror_perm _ _ _ _) fun k hk=>?_))
 rw [getElem?_mirror_all (by rw [hB.size];exact hj),if_neg (by lia)]
theorem J9 (C:Cmp prog w A E s kd El κ) {st:SortSt} {n ok:Nat} {Q:Bool->SortSt->Prop} (h0:∀ x∈a₀.toList,El x) (hn:lo+n<=a₀.size) (hok:ok<=n) (hB:Bs kd a₀ lo pe st) (hs:Seg κ lo (arrOf st) ok)
 (h:∀ st',Bs kd a₀ lo pe st'->Seg κ lo (arrOf st') n->Q true st'):wpS (model prog w) A E s (binarySort' lo n ok) Q st:=by
 rw [binarySort'_eq]
 refine wpS_bind (wpS_mono (wpS_forRange (I:=fun k c st'=>c=(none,())/\Bs kd a₀ lo pe st'/\Seg κ lo (arrOf st') (min k n))
  (Q:=fun c st'=>c=(none,())/\Bs kd a₀ lo pe st'/\Seg κ lo (arrOf st') n) ?step ?fin ?init) ?post)
 case post =>
  rintro c st' ⟨rfl,hB',hs'⟩
  exact wpS_pure (h st' hB' hs')
 case init =>
  refine ⟨rfl,hB,fun i j hl hij hj=>?_⟩
  by_cases h1:ok=0
  ·have:i=j:=by lia
   subst this;exact Int.le_refl _
  ·exact hs i j hl hij (by lia)
 case fin =>
  rintro c st' ⟨hc,hB',hs'⟩
  refine ⟨hc,hB',?_⟩
  rwa [show min (max (max ok 1) n) n=n by lia] at hs'
 case step =>
  rintro k c st' hak hkn ⟨rfl,hB',hs'⟩
  rw [show min k n=k by lia] at hs'
  have hk:lo+k < a₀.size:=by lia
  refine wpS_bind (wpS_mono (wpS_forRange (I:=fun x c st''=>st''=st'/\∃ l r,c=(none,l,r)/\l<=r/\r<=k/\r - l<=k - x /\
   (∀ i,lo<=i->i < lo+l->Kf κ (arrOf st') i<=Kf κ (arrOf st') (lo+k))/\(∀ i,lo+r<=i->i < lo+k->Kf κ (arrOf st') (lo+k) < Kf κ (arrOf st') i))
   (Q:=fun c st''=>st''=st'/\∃ l r,c=(none,l,r)/\l<=k /\
     (∀ i,lo<=i->i < lo+l->Kf κ (arrOf st') i<=Kf κ (arrOf st') (lo+k))/\(∀ i,lo+l<=i->i < lo+k->Kf κ (arrOf st') (lo+k) < Kf κ (arrOf st') i)) ?istep ?ifin ?iinit) ?ipost)
  case iinit=>exact ⟨rfl,0,k,rfl,by lia,by lia,by lia,fun i _ hi=>by lia,fun i h1 h2=>by lia⟩
  case ifin =>
   rintro c st'' ⟨rfl,l,r,rfl,hlr,hrk,hm,hlo,hhi⟩
   have:l=r:=by lia
   subst this
   exact ⟨rfl,l,l,rfl,hrk,hlo,hhi⟩
  case istep =>
   rintro x c st'' _ hxk ⟨rfl,l,r,rfl,hlr,hrk,hm,hlo,hhi⟩
   dsimp only
   by_cases hge:l ≥ r
   ·rw [if_pos hge]
    have:l=r:=by lia
    subst this
    exact wpS_pure ⟨rfl,l,l,rfl,hrk,hlo,hhi⟩
   ·rw [if_neg hge]
    refine wpS_bind (C9 C hB' h0 hk (by lia) ?_)
    by_cases hless:Kf κ (arrOf st'') (lo+k) < Kf κ (arrOf st'') (lo+(l+r) / 2)
    ·simp only [hless,decide_true,if_true]
     refine wpS_pure ⟨rfl,l,(l+r) / 2,rfl,by lia,by lia,by lia,hlo,fun i h1 h2=>?_⟩
     exact Int.lt_of_lt_of_le hless (hs' _ _ (by lia) h1 h2)
    ·simp only [hless,decide_false,Bool.false_eq_true,if_false]
     refine wpS_pure ⟨rfl,(l+r) / 2+1,r,rfl,by lia,by lia,by lia,fun i h0' h1=>?_,hhi⟩
     exact Int.le_trans (hs' i (lo+(l+r) / 2) h0' (by lia) (by lia)) (Int.not_lt.mp hless)
  case ipost =>
   rintro c st'' ⟨rfl,l,r,rfl,hlk,hlo,hhi⟩
   show wpS _ _ _ _ (do moveDown' (lo+k) (lo+l);pure (ForInStep.yield (none,()))) _ _
   rw [moveDown'_eq]
   have hks:lo+k < (arrOf st'').size:=by rw [hB'.size];exact hk
   refine wpS_bind (wpS_modify (wpS_pure ⟨rfl,hB'.put (bubble_perm _ _ _) (fun i hi=>?_),?_⟩))
   ·show (bubble (arrOf st'') (lo+k) (lo+k - (lo+l)))[i]? = _
    rw [getElem?_bubble hks _ (by lia),if_neg (by lia),if_neg (by lia)]
   rw [show min (k+1) n=k+1 by lia]
   intro i j hl hij hj
   show Kf κ (bubble (arrOf st'') (lo+k) (lo+k - (lo+l))) i<=Kf κ (bubble (arrOf st'') (lo+k) (lo+k - (lo+l))) j
   rw [LP hks (by lia),LP hks (by lia),show lo+k - (lo+k - (lo+l))=lo+l by lia]
   repeat' split
   all_goals first
    | (exfalso;lia)
    | exact Int.le_refl _
    | exact hlo _ (by lia) (by lia)
    | exact Int.le_of_lt (hhi _ (by lia) (by lia))
    | exact hs' _ _ (by lia) (by lia) (by lia)
theorem JY {M:Model} {α:Type} {m:StateT SortSt Sem α} {R:α->SortSt->Prop} {st:SortSt} (P:SortSt->Prop) (Z:StateT SortSt Sem α) (h1:(∀ st',P st'->wpS M A E s Z R st')->wpS M A E s m R st) (h2:∀ st',P st'->wpS M A E s Z R st'):wpS M A E s m R st:=h1 h2
theorem Qu {xs:Array Keyed}:Seg κ lo xs 1:=fun i j h1 h2 h3=>by
 have:i=j:=by lia
 subst this
 exact Int.le_refl _
theorem Seg.more {xs:Array Keyed} {x:Nat} (h:Seg κ lo xs x) (h1:1<=x) (hl:¬ Kf κ xs (lo+x) < Kf κ xs (lo+x - 1)):Seg κ lo xs (x+1):=fun i j h2 hij hj=>by
 by_cases hjx:j < lo+x
 ·exact h i j h2 hij hjx
 ·have e:j=lo+x:=by lia
  subst e
  by_cases e2:i=lo+x
  ·subst e2;exact Int.le_refl _
  ·exact Int.le_trans (h i (lo+x - 1) h2 (by lia) (by lia)) (Int.not_lt.mp hl)
theorem Dsc.more {xs:Array Keyed} {x:Nat} (h:Dsc κ lo xs x) (h1:1<=x) (hl:Kf κ xs (lo+x)<=Kf κ xs (lo+x - 1)):Dsc κ lo xs (x+1):=fun i j h2 hij hj=>by
 by_cases hjx:j < lo+x
 ·exact h i j h2 hij hjx
 ·have e:j=lo+x:=by lia
  subst e
  by_cases e2:i=lo+x
  ·subst e2;exact Int.le_refl _
  ·exact Int.le_trans hl (h i (lo+x - 1) h2 (by lia) (by lia))
theorem JL (C:Cmp prog w A E s kd El κ) {st:SortSt} {nrem:Nat} {Q:Option Nat->SortSt->Prop} (h0:∀ x∈a₀.toList,El x) (hn:lo+nrem<=a₀.size) (h1:1<=nrem) (hB:Bs kd a₀ lo pe st)
 (h:∀ m st',Bs kd a₀ lo pe st'->1<=m->m<=nrem->Seg κ lo (arrOf st') m->Q (some m) st'):wpS (model prog w) A E s (countRun' lo nrem) Q st:=by
 delta countRun'
 refine wpS_bind (wpS_mono (wpS_forRange (I:=fun x c st'=>st'=st/\c=(none,x)/\Seg κ lo (arrOf st) x)
  (Q:=fun c st'=>st'=st/\∃ n,c=(none,n)/\1<=n/\n<=nrem/\Seg κ lo (arrOf st) n/\(n=nrem\/Kf κ (arrOf st) (lo+n) < Kf κ (arrOf st) (lo+n - 1))) ?step ?fin ⟨rfl,rfl,Qu⟩) ?post)
 case fin =>
  rintro c st' ⟨rfl,rfl,hs'⟩
  rw [show max 1 nrem=nrem by lia] at hs' ⊢
  exact ⟨rfl,nrem,rfl,h1,Nat.le_refl _,hs',.inl rfl⟩
 case step =>
  rintro x c st' hax hxn ⟨rfl,rfl,hs'⟩
  dsimp only
  refine wpS_bind (C9 C hB h0 (by lia) (by lia) ?_)
  by_cases hless:Kf κ (arrOf st') (lo+x) < Kf κ (arrOf st') (lo+x - 1)
  ·simp only [hless,decide_true,if_true]
   exact wpS_pure ⟨rfl,x,rfl,hax,by lia,hs',.inr hless⟩
  ·simp only [hless,decide_false,Bool.false_eq_true,if_false]
   exact wpS_pure ⟨rfl,rfl,hs'.more hax hless⟩
 case post =>
  rintro c st' ⟨rfl,n,rfl,hn1,hn2,hsn,hor⟩
  dsimp only
  by_cases hnn:n=nrem
  ·rw [if_pos (by simpa using hnn)]
   exact wpS_pure (h n _ hB hn1 hn2 hsn)
  rw [if_neg (by simpa using hnn)]
  have hlt:=hor.resolve_left hnn
  apply JY (fun st'=>Bs kd a₀ lo pe st'/\Dsc κ lo (arrOf st') (n+1))
  case h1 =>
   intro zz
   by_cases hgt:n > 1
   ·rw [if_pos hgt]
    refine wpS_bind (C9 C hB h0 (by lia) (by lia) ?_)
    by_cases hrose:Kf κ (arrOf st') lo < Kf κ (arrOf st') (lo+n - 1)
    ·simp only [hrose,decide_true,if_true]
     exact wpS_pure (h n _ hB hn1 hn2 hsn)
    ·simp only [hrose,decide_false,Bool.false_eq_true,if_false]
     have hsz:lo+n<=(arrOf st').size:=by rw [hB.size];lia
     have hall:∀ k,lo<=k->k < lo+n->Kf κ (arrOf st') k=Kf κ (arrOf st') (lo+n - 1):=fun k hk1 hk2=>by
      have a1:=hsn lo k (Nat.le_refl _) hk1 hk2
      have a2:=hsn k (lo+n - 1) hk1 (by lia) (by lia)
      lia
     refine wpS_bind (Ft hB (Nat.le_refl _) (by lia) fun hB2=>zz _ ⟨hB2,Dsc.more (fun i j hi hij hj=>?_) hn1 ?_⟩)
     ·show Kf κ (mirror (arrOf st') _ _ _) j<=Kf κ (mirror (arrOf st') _ _ _) i
      rw [CV hsz hall,CV hsz hall,hall i (by lia) (by lia),hall j (by lia) (by lia)]
      exact Int.le_refl _
     ·show Kf κ (mirror (arrOf st') _ _ _) _<=Kf κ (mirror (arrOf st') _ _ _) _
      rw [CV hsz hall,CV hsz hall]
      exact Int.le_of_lt hlt
   ·rw [if_neg hgt]
    have e:n=1:=by lia
    exact zz _ ⟨hB,Dsc.more (fun i j hi hij hj=>by
     have:i=j:=by lia
     subst this
     exact Int.le_refl _) hn1 (Int.le_of_lt hlt)⟩
  case h2 =>
   clear hB hsn hor hlt
   rintro st2 ⟨hB,hd⟩
   refine wpS_bind (wpS_lift (wpAny_rule ⟨rfl,?_⟩))
   refine wpS_bind (wpS_mono (wpS_forRange (I:=fun x c st'=>∃ neq,c=(none,x,neq)/\Bs kd a₀ lo pe st'/\Dsc κ lo (arrOf st') x/\neq+1<=x/\(∀ i,lo+x - (neq+1)<=i->i < lo+x->Kf κ (arrOf st') i=Kf κ (arrOf st') (lo+x - 1)))
    (Q:=fun c st'=>∃ x neq,c=(none,x,neq)/\Bs kd a₀ lo pe st'/\1<=x/\x<=nrem/\Dsc κ lo (arrOf st') x/\neq+1<=x/\(∀ i,lo+x - (neq+1)<=i->i < lo+x->Kf κ (arrOf st') i=Kf κ (arrOf st') (lo+x - 1))) ?dstep ?dfin ⟨0,rfl,hB,hd,by lia,fun i h1 h2=>by congr 1;lia⟩) ?dpost)
   case dfin =>
    rintro c st' ⟨neq,rfl,hB',hs',hq,he⟩
    rw [show max (n+1) nrem=nrem by lia] at hs' hq he ⊢
    exact ⟨_,_,rfl,hB',h1,Nat.le_refl _,hs',hq,he⟩
   case dstep =>
    rintro x c st' hax hxn ⟨neq,rfl,hB',hs',hq,he⟩
    dsimp only
    have hsz:lo+x<=(arrOf st').size:=by rw [hB'.size];lia
    refine wpS_bind (C9 C hB' h0 (by lia) (by lia) ?_)
    by_cases hless:Kf κ (arrOf st') (lo+x) < Kf κ (arrOf st') (lo+x - 1)
    ·simp only [hless,decide_true,if_true]
     have hm:=hs'.more (by lia) (Int.le_of_lt hless)
     by_cases hneq:neq > 0
     ·rw [if_pos hneq]
      refine wpS_bind (Ft hB' (by lia) (by lia) fun hB2=>wpS_pure ⟨0,rfl,hB2,fun i j hi hij hj=>?_,by lia,fun i h1 h2=>by congr 1;lia⟩)
      show Kf κ (mirror (arrOf st') _ _ _) j<=Kf κ (mirror (arrOf st') _ _ _) i
      rw [CV hsz he,CV hsz he]
      exact hm i j hi hij hj
     ·rw [if_neg hneq]
      exact wpS_pure ⟨0,rfl,hB',hm,by lia,fun i h1 h2=>by congr 1;lia⟩
    ·simp only [hless,decide_false,Bool.false_eq_true,if_false]
     refine wpS_bind (C9 C hB' h0 (by lia) (by lia) ?_)
     by_cases hlarger:Kf κ (arrOf st') (lo+x - 1) < Kf κ (arrOf st') (lo+x)
     ·simp only [hlarger,decide_true,if_true]
      exact wpS_pure ⟨_,_,rfl,hB',by lia,by lia,hs',hq,he⟩
     ·simp only [hlarger,decide_false,Bool.false_eq_true,if_false]
      have heqx:Kf κ (arrOf st') (lo+x)=Kf κ (arrOf st') (lo+x - 1):=by lia
      refine wpS_pure ⟨neq+1,rfl,hB',hs'.more (by lia) (by lia),by lia,fun i h1 h2=>?_⟩
      rw [show lo+(x+1) - 1=lo+x by lia]
      by_cases hix:i=lo+x
      ·subst hix;rfl
      ·rw [heqx];exact he i (by lia) (by lia)
   case dpost =>
    rintro c st3 ⟨x,neq,rfl,hB3,hx1,hx2,hs3,hq,he⟩
    dsimp only
    have hsz:lo+x<=(arrOf st3).size:=by rw [hB3.size];lia
    apply JY (fun st'=>Bs kd a₀ lo pe st'/\Dsc κ lo (arrOf st') x)
    case h1 =>
     intro zz
     by_cases hneq:neq > 0
     ·rw [if_pos hneq]
      refine wpS_bind (Ft hB3 (by lia) (by lia) fun hB2=>zz _ ⟨hB2,fun i j hi hij hj=>?_⟩)
      show Kf κ (mirror (arrOf st3) _ _ _) j<=Kf κ (mirror (arrOf st3) _ _ _) i
      rw [CV hsz he,CV hsz he]
      exact hs3 i j hi hij hj
     ·rw [if_neg hneq]
      exact zz _ ⟨hB3,hs3⟩
    case h2 =>
     clear hB3 hs3 he hsz
     rintro st4 ⟨hB4,hs4⟩
     have hsz:lo+x<=(arrOf st4).size:=by rw [hB4.size];lia
     refine wpS_bind (Ft hB4 (Nat.le_refl _) (by lia) fun hB5=>?_)
     have hsg:Seg κ lo (arrOf (setArr st4 (mirror (arrOf st4) lo (lo+x) ((lo+x - lo) / 2)))) x:=fun i j hi hij hj=>by
      show Kf κ (mirror (arrOf st4) _ _ _) i<=Kf κ (mirror (arrOf st4) _ _ _) j
      rw [Hi hsz,Hi hsz,if_pos (by lia),if_pos (by lia)]
      exact hs4 _ _ (by lia) (by lia) (by lia)
     generalize setArr st4 (mirror (arrOf st4) lo (lo+x) ((lo+x - lo) / 2))=st5 at hB5 hsg ⊢
     refine wpS_bind (wpS_mono (wpS_forRange (I:=fun x c st'=>st'=st5/\c=(none,x)/\Seg κ lo (arrOf st5) x)
      (Q:=fun c st'=>st'=st5/\∃ n,c=(none,n)/\1<=n/\n<=nrem/\Seg κ lo (arrOf st5) n) ?step ?fin ⟨rfl,rfl,hsg⟩) ?post)
     case fin =>
      rintro c st' ⟨rfl,rfl,hs'⟩
      rw [show max x nrem=nrem by lia] at hs' ⊢
      exact ⟨rfl,nrem,rfl,h1,Nat.le_refl _,hs'⟩
     case step =>
      rintro y c st' hax hxn ⟨rfl,rfl,hs'⟩
      dsimp only
      refine wpS_bind (C9 C hB5 h0 (by lia) (by lia) ?_)
      by_cases hless:Kf κ (arrOf st') (lo+y) < Kf κ (arrOf st') (lo+y - 1)
      ·simp only [hless,decide_true,if_true]
       exact wpS_pure ⟨rfl,y,rfl,by lia,by lia,hs'⟩
      ·simp only [hless,decide_false,Bool.false_eq_true,if_false]
       exact wpS_pure ⟨rfl,rfl,hs'.more (by lia) hless⟩
     case post =>
      rintro c st' ⟨rfl,m,rfl,hm1,hm2,hsm⟩
      exact wpS_pure (h m _ hB5 hm1 hm2 hsm)
end
section
variable {prog:Program} {w:World} {A:Around} {E:Value->Shared->Prop} {s:Shared} {kd:SortKind} {El:Keyed->Prop} {κ:Keyed->Int} {a₀:Array Keyed}
theorem Dp {xs:Array Keyed} {i:Nat} (h:i < xs.toList.length):Kf κ xs i=κ xs.toList[i]:=by
 unfold Kf
 rw [An h]
theorem Kq {xs:Array Keyed} {n:Nat} (h:Seg κ 0 xs n):Srt κ (xs.toList.take n):=List.pairwise_iff_getElem.mpr fun i j hi hj hij=>by
 rw [List.length_take] at hi hj
 have:=h i j (Nat.zero_le _) (by lia) (by lia)
 rw [Dp (by lia),Dp (by lia)] at this
 simpa using this
theorem QN {xs:Array Keyed} {n m:Nat} (h:Seg κ n xs m) (hs:xs.toList.length=n+m):Srt κ (xs.toList.drop n):=List.pairwise_iff_getElem.mpr fun i j hi hj hij=>by
 rw [List.length_drop] at hi hj
 have:=h (n+i) (n+j) (by lia) (by lia) (by lia)
 rw [Dp (by lia),Dp (by lia)] at this
 rw [List.getElem_drop,List.getElem_drop]
 exact this
structure Dn (kd:SortKind) (κ:Keyed->Int) (a₀:Array Keyed) (st:SortSt):Prop where
 perm:(arrOf st).toList.Perm a₀.toList
 kind:kindOf st=kd
 failed:failedOf st=none
 pend:(pendingOf st).size<=1
 srt:Srt κ (arrOf st).toList
structure Tw (kd:SortKind) (κ:Keyed->Int) (a₀:Array Keyed) (n1 n2 pw:Nat) (st:SortSt):Prop where
 perm:(arrOf st).toList.Perm a₀.toList
 kind:kindOf st=kd
 failed:failedOf st=none
 pend:pendingOf st = #[(0,n1,pw),(n1,n2,0)]
 l1:0 < n1
 l2:0 < n2
 len:n1+n2=a₀.size
 s1:Srt κ ((arrOf st).toList.take n1)
 s2:Srt κ ((arrOf st).toList.drop n1)
theorem O7 {n:Nat} (h1:1<=n) (h:n < 64):minRun' n n 0=n:=by
 obtain ⟨f,hf⟩:∃ f,n=f+1:=⟨n - 1,by lia⟩
 have:minRun' (f+1) n 0=n:=by rw [minRun'_succ,if_pos h];rfl
 rwa [<- hf] at this
theorem N3:minRun' 64 64 0=32:=rfl
theorem P8 (C:Cmp prog w A E s kd El κ) {st:SortSt} {Q:Unit->SortSt->Prop} (h0:∀ x∈a₀.toList,El x) (hB:Bs kd a₀ 0 #[] st) (h2:2<=a₀.size) (h64:a₀.size<=64)
 (h:∀ st',(arrOf st').toList.Perm a₀.toList->failedOf st'=none->Srt κ (arrOf st').toList->Q () st'):wpS (model prog w) A E s sortRuns' Q st:=by
 have hlen:∀ {st'},(arrOf st').toList.Perm a₀.toList->(arrOf st').toList.length=a₀.size:=fun hp=>by rw [hp.length_eq,Array.length_toList]
 have hmr:minRun' a₀.size a₀.size 0=a₀.size/\a₀.size < 64\/minRun' a₀.size a₀.size 0=32/\a₀.size=64:=by
  rcases Nat.lt_or_ge a₀.size 64 with z | z
  ·exact .inl ⟨O7 (by lia) z,z⟩
  ·have:a₀.size=64:=by lia
   exact .inr ⟨by rw [this];exact N3,this⟩
 rw [sortRuns'_eq]
 refine wpS_bind (wpS_get ?_)
 dsimp only
 rw [hB.size]
 generalize minRun' a₀.size a₀.size 0=mr at hmr ⊢
 refine wpS_bind (wpS_mono (wpS_forRange
  (I:=fun x c st'=>(x=0/\c=(none,0)/\Bs kd a₀ 0 #[] st')\/(1<=x/\c=(none,a₀.size)/\(Dn kd κ a₀ st'\/∃ n1 n2 pw,Tw kd κ a₀ n1 n2 pw st'))\/(x=1/\a₀.size=64/\mr=32/\∃ n1,c=(none,n1)/\32<=n1/\n1 < 64/\Bs kd a₀ 0 #[(0,n1,0)] st'/\Seg κ 0 (arrOf st') n1))
  (Q:=fun c st'=>c=(none,a₀.size)/\(Dn kd κ a₀ st'\/∃ n1 n2 pw,Tw kd κ a₀ n1 n2 pw st')) ?step ?fin (.inl ⟨rfl,rfl,hB⟩)) ?post)
 case fin =>
  rintro c st' (⟨hx,_,_⟩ | ⟨_,hc,hD⟩ | ⟨hx,_,_⟩)
  ·lia
  ·exact ⟨hc,hD⟩
  ·lia
 case step =>
  rintro x c st' _ hx (⟨rfl,rfl,hB'⟩ | ⟨hx1,rfl,hD⟩ | ⟨rfl,e64,rfl,n1,rfl,h32,hn1,hB',hs'⟩)
  ·dsimp only
   rw [if_neg (by lia),Nat.sub_zero]
   refine wpS_bind (JL C h0 (by lia) (by lia) hB' fun m st2 hB2 hm1 hm2 hs2=>?_)
   dsimp only
   have fin:∀ n st3,Bs kd a₀ 0 #[] st3->Seg κ 0 (arrOf st3) n->mr<=n->n<=a₀.size->(n=a₀.size/\Dn kd κ a₀ (setPending st3 ((pendingOf st3).push (0,n,0))))\/(a₀.size=64/\mr=32/\32<=n/\n < 64/\Bs kd a₀ 0 #[(0,n,0)] (setPending st3 ((pendingOf st3).push (0,n,0)))/\Seg κ 0 (arrOf st3) n):=fun n st3 hB3 hs3 hn1 hn2=>by
    by_cases e:n=a₀.size
    ·refine .inl ⟨e,Array.perm_iff_toList_perm.mp hB3.perm,hB3.kind,hB3.failed,?_,?_⟩
     ·show ((pendingOf st3).push _).size<=1
      rw [hB3.pend]
      exact Nat.le_refl _
     ·show Srt κ (arrOf st3).toList
      have:=Kq hs3
      rwa [List.take_of_length_le (by rw [hlen (Array.perm_iff_toList_perm.mp hB3.perm)];lia)] at this
    ·rcases hmr with ⟨z1,z2⟩ | ⟨z1,z2⟩
     ·lia
     ·refine .inr ⟨z2,z1,by lia,by lia,⟨hB3.perm,hB3.kind,hB3.failed,?_,fun i hi=>by lia⟩,hs3⟩
      show (pendingOf st3).push _=_
      rw [hB3.pend]
      rfl
   by_cases hlt:m < mr
   ·rw [if_pos hlt]
    refine wpS_bind (wpS_lift (wpAny_rule ⟨rfl,?_⟩))
    have hmin:min a₀.size mr=mr:=by lia
    rw [hmin]
    refine wpS_bind (J9 C h0 (by lia) (by lia) hB2 hs2 fun st3 hB3 hs3=>?_)
    simp only [Bool.not_true,Bool.false_eq_true,if_false]
    refine wpS_bind (wpS_get ?_)
    have hb:(pendingOf st3).back? = none:=by rw [hB3.pend];rfl
    rw [hb]
    dsimp only
    refine wpS_bind (wpS_modify (wpS_pure ?_))
    rcases fin mr st3 hB3 hs3 (Nat.le_refl _) (by lia) with ⟨e,d⟩ | ⟨e1,e2,e3,e4,e5,e6⟩
    ·exact .inr (.inl ⟨by lia,by rw [Nat.zero_add,e],.inl d⟩)
    ·exact .inr (.inr ⟨by first | trivial | rfl,e1,e2,mr,by rw [Nat.zero_add],e3,e4,e5,e6⟩)
   ·rw [if_neg hlt]
    refine wpS_bind (wpS_get ?_)
    have hb:(pendingOf st2).back? = none:=by rw [hB2.pend];rfl
    rw [hb]
    dsimp only
    refine wpS_bind (wpS_modify (wpS_pure ?_))
    rcases fin m st2 hB2 hs2 (by lia) hm2 with ⟨e,d⟩ | ⟨e1,e2,e3,e4,e5,e6⟩
    ·exact .inr (.inl ⟨by lia,by rw [Nat.zero_add,e],.inl d⟩)
    ·exact .inr (.inr ⟨by first | trivial | rfl,e1,e2,m,by rw [Nat.zero_add],e3,e4,e5,e6⟩)
  ·dsimp only
   rw [if_pos (Nat.le_refl _)]
   exact wpS_pure ⟨rfl,hD⟩
  ·dsimp only
   rw [if_neg (by lia)]
   have hsz:(arrOf st').size=a₀.size:=hB'.size
   have h0':∀ x∈(arrOf st').toList,El x:=fun x hx=>h0 x ((Array.perm_iff_toList_perm.mp hB'.perm).mem_iff.mp hx)
   have hB1:Bs kd (arrOf st') n1 #[(0,n1,0)] st':=⟨Array.Perm.refl _,hB'.kind,hB'.failed,hB'.pend,fun _ _=>rfl⟩
   refine wpS_bind (JL C h0' (by lia) (by lia) hB1 fun m st2 hB2 hm1 hm2 hs2=>?_)
   dsimp only
   have fin:∀ st3,Bs kd (arrOf st') n1 #[(0,n1,0)] st3->Seg κ n1 (arrOf st3) (a₀.size - n1)->∀ pw,Tw kd κ a₀ n1 (a₀.size - n1) pw (setPending (setPending st3 #[(0,n1,pw)]) #[(0,n1,pw),(n1,a₀.size - n1,0)]):=fun st3 hB3 hs3 pw=>by
    have hp:(arrOf st3).toList.Perm a₀.toList:=(Array.perm_iff_toList_perm.mp hB3.perm).trans (Array.perm_iff_toList_perm.mp hB'.perm)
    refine ⟨hp,hB3.kind,hB3.failed,rfl,by lia,by lia,by lia,?_,?_⟩
    ·refine Kq fun i j hi hij hj=>?_
     show Kf κ (arrOf st3) i<=Kf κ (arrOf st3) j
     rw [Cp (hB3.low i (by lia)),Cp (hB3.low j (by lia))]
     exact hs' i j hi hij hj
    ·exact QN (xs:=arrOf st3) hs3 (by rw [hlen hp];lia)
   have fin2:∀ st3,Bs kd (arrOf st') n1 #[(0,n1,0)] st3->Seg κ n1 (arrOf st3) (a₀.size - n1)->∀ pw,Tw kd κ a₀ n1 (a₀.size - n1) pw (setPending (setPending st3 ((pendingOf st3).modify ((pendingOf st3).size - 1) fun (st,len,_)=>(st,len,pw))) ((pendingOf (setPending st3 ((pendingOf st3).modify ((pendingOf st3).size - 1) fun (st,len,_)=>(st,len,pw)))).push (n1,a₀.size - n1,0))):=fun st3 hB3 hs3 pw=>by
    have e:(pendingOf st3).modify ((pendingOf st3).size - 1) (fun (st,len,_)=>(st,len,pw)) = #[(0,n1,pw)]:=by
     rw [hB3.pend]
     simp [Array.modify,Array.modifyM,Id.run]
     try rfl
    rw [e]
    exact fin st3 hB3 hs3 pw
   have e32:∀ m,¬ m < 32->m<=a₀.size - n1->m=a₀.size - n1:=fun m _ _=>by lia
   by_cases hlt:m < 32
   case' pos =>
    rw [if_pos hlt]
    refine wpS_bind (wpS_lift (wpAny_rule ⟨rfl,?_⟩))
    have hmin:min (a₀.size - n1) 32=a₀.size - n1:=by lia
    rw [hmin]
    refine wpS_bind (J9 C h0' (by lia) (by lia) hB2 hs2 fun st3 hB3 hs3=>?_)
    simp only [Bool.not_true,Bool.false_eq_true,if_false]
   case' neg =>
    rw [if_neg hlt]
    have hs3:=hs2
    have hB3:=hB2
    rw [e32 m hlt hm2] at hs3 ⊢
    refine (fun z:∀ st3,Bs kd (arrOf st') n1 #[(0,n1,0)] st3->Seg κ n1 (arrOf st3) (a₀.size - n1)->wpS (model prog w) A E s _ _ st3=>z st2 hB3 hs3) ?_
    clear hs3 hB3
    intro st3 hB3 hs3
   all_goals
    refine wpS_bind (wpS_get ?_)
    have hb:(pendingOf st3).back? = some (0,n1,0):=by rw [hB3.pend];rfl
    rw [hb]
    dsimp only
    generalize power' _ _ _ _=pw
    refine wpS_bind (wpS_mono (wpS_forRange (I:=fun _ c st4=>c=(none,())/\st4=st3) (Q:=fun c st4=>c=(none,())/\st4=st3) ?_ (fun _ _ hh=>hh) ⟨rfl,rfl⟩) ?_)
    ·rintro y c st4 _ _ ⟨rfl,rfl⟩
     refine wpS_bind (wpS_get ?_)
     rw [hB3.pend,if_neg (by simp)]
     exact wpS_pure ⟨rfl,rfl⟩
    ·rintro c st4 ⟨rfl,rfl⟩
     dsimp only
     refine wpS_bind (wpS_modify (wpS_bind (wpS_modify (wpS_pure (.inr (.inl ⟨by lia,by rw [show n1+(a₀.size - n1)=a₀.size by lia],.inr ⟨n1,a₀.size - n1,pw,?_⟩⟩))))))
     exact fin2 st4 hB3 hs3 pw
 case post =>
  rintro c st' ⟨rfl,hD⟩
  dsimp only
  refine wpS_bind (wpS_mono (wpS_forRange (I:=fun x c st''=>c=(none,())/\(Dn kd κ a₀ st''\/x=0/\∃ n1 n2 pw,Tw kd κ a₀ n1 n2 pw st'')) (Q:=fun c st''=>c=(none,())/\Dn kd κ a₀ st'') ?_ ?_ ⟨rfl,hD.imp id fun z=>⟨rfl,z⟩⟩) ?_)
  ·rintro x c st2 _ _ ⟨rfl,hD⟩
   refine wpS_bind (wpS_get ?_)
   rcases hD with hD | ⟨rfl,n1,n2,pw,hT⟩
   ·rw [if_pos hD.pend]
    exact wpS_pure ⟨rfl,hD⟩
   ·rw [hT.pend,if_neg (by simp)]
    have h0':∀ x∈(arrOf st2).toList,El x:=fun x hx=>h0 x (hT.perm.mem_iff.mp hx)
    refine wpS_bind (Qe C hT.kind hT.failed hT.pend hT.l1 hT.l2 (by rw [hlen hT.perm,hT.len]) h0' hT.s1 hT.s2 fun st3 k3 f3 p3 perm3 srt3=>?_)
    exact wpS_pure ⟨rfl,.inl ⟨perm3.trans hT.perm,k3,f3,by rw [p3];exact Nat.le_refl _,srt3⟩⟩
  ·rintro c st2 ⟨rfl,hD | ⟨z,_⟩⟩
   ·exact ⟨rfl,hD⟩
   ·lia
  ·rintro c st2 ⟨rfl,hD⟩
   exact wpS_pure (h _ hD.perm hD.failed hD.srt)
end
section
variable {prog:Program} {w:World} {A:Around} {E:Value->Shared->Prop} {s:Shared}
noncomputable abbrev nκ (p:Keyed):Int:=numOf p.1
theorem Lb:Cmp prog w A E s oneType' (fun p=>∃ n t,p.1=.int n t) nκ:=⟨fun x y st Q hx hy hk h=>by
 obtain ⟨a,t,ea⟩:=hx
 obtain ⟨b,u,eb⟩:=hy
 rw [lt'_eq]
 refine wpS_bind (wpS_get ?_)
 rw [hk,keyLt'_oneType,ea,eb]
 refine wpS_bind (wpS_lift (wpAny_attempt (oneLt_int ⟨rfl,?_⟩)))
 unfold nκ at h
 rw [ea,eb] at h
 exact wpS_pure h⟩
theorem Pi {xs:Array Keyed} (h:Srt nκ xs.toList) {n:Nat} (hn:n=xs.size):SortedTo xs n:=fun i j hij hj=>by
 have h2:j < xs.toList.length:=by rw [Array.length_toList];lia
 have e:∀ i,K xs i=Kf nκ xs i:=fun i=>rfl
 rw [e,e,Dp (by lia),Dp h2]
 exact BG h hij h2
theorem LD {a:Addr} {vs:List Value} {ns:List Int} {n:Nat} {P:PySem.Fin->Shared->Prop} (ho:s.heap.get? a=some (seqObj "list" vs.toArray n))
 (hI:IntsAre vs ns) (h64:vs.length<=64)
 (h:∀ (out:Array Value) (ns':List Int),IntsAre out.toList ns'->ns'.Perm ns->ns'.Pairwise (· <= ·)->P (.done (.ret .none)) { s with heap:=sortedHeap s.heap a vs out }) :
 wpAny (model prog w) A (Builtin.«list.sort» ⟨[.ref a],[]⟩) P E s:=by
 rcases Nat.lt_or_ge vs.length 64 with hlt | hge
 ·exact list_sort_tree ho hI hlt h
 rw [list_sort_plain]
 have ha:a < s.heap.objs.size:=Heap.lt_size ho
 refine wpAny_bind (listItems_at ho rfl ?_)
 refine wpAny_bind (listUpdate_at ho rfl ?_ (by rw [List.size_toArray,sizeLine_eq];lia))
 obtain ⟨e1,ho1⟩:∃ e1,(s.heap.update a (Obj.mapSeq fun _=>#[])).get? a=some (seqObj "list" #[] e1):=⟨_,get?_update_seq ho (fun _=>#[])⟩
 refine wpAny_bind (seqEpoch_at ho1 rfl ?_)
 refine wpAny_bind (wpAny_newTuple ?_ (by rw [sizeLine_eq,show vs.toArray.toList=vs from rfl];lia))
 refine wpAny_bind (wpAny_newList ?_)
 refine wpAny_holding ?_
 have ho6:(((s.heap.update a (Obj.mapSeq fun _=>#[])).push (seqObj "tuple" vs.toArray 0)).push (seqObj "list" #[] 0)).get? a=some (seqObj "list" #[] e1):=by
  rw [Heap.get?_push_ne _ _ _ (by rw [size_push',Heap.size_update];exact Nat.ne_of_lt (Nat.lt_succ_of_lt ha)),Heap.get?_push_ne _ _ _ (by rw [Heap.size_update];exact Nat.ne_of_lt ha)]
  exact ho1
 show wpAny (model prog w) A _ P E { s with heap:=((s.heap.update a (Obj.mapSeq fun _=>#[])).push (seqObj "tuple" vs.toArray 0)).push (seqObj "list" #[] 0) }
 dsimp only
 have h2:¬ vs.toArray.size < 2:=by rw [List.size_toArray];lia
 rw [if_neg h2,if_neg h2]
 have ek:keyKind' vs.toArray=pure oneType':=by
  match vs,hge,hI with
  | v₁::v₂::rest,_,hI=>exact keyKind_ints hI
 rw [ek]
 refine wpAny_bind (wpAny_pure ?_)
 refine wpAny_bind (wpAny_mono (P8 (a₀:=pairsOf vs) Lb (st:=SortSt.mk' oneType' (vs.toArray.zip vs.toArray) #[] 7 none)
  (Q:=fun _ st'=>(arrOf st').toList.Perm (pairsOf vs).toList/\failedOf st'=none/\Srt nκ (arrOf st').toList)
  (fun x hx=>hI.intKeys x hx) ⟨Array.Perm.refl _,rfl,rfl,rfl,fun _ _=>rfl⟩ (by rw [pairsOf_size];lia) (by rw [pairsOf_size];exact h64) fun st' a1 a2 a3=>⟨a1,a2,a3⟩) ?_ fun _ _ e=>e)
 rintro ⟨⟨⟩,st'⟩ s' ⟨rfl,hp,hf,hs⟩
 dsimp only
 have hp':=Array.perm_iff_toList_perm.mpr hp
 refine wpAny_bind (seqEpoch_at ho6 rfl ?_)
 refine wpAny_bind (listUpdate_at ho6 rfl ?_ (hsz2:=by refine Nat.le_trans (Nat.le_of_eq ((Array.size_map ..).trans (hp'.size_eq.trans (pairsOf_size _)))) ?_;rw [sizeLine_eq];lia))
 rw [hf]
 simp only [bne_self_eq_false,Bool.false_eq_true,if_false]
 obtain ⟨ns',b1,b2,b3⟩:=sorted_out hI hp' (Pi hs hp'.size_eq.symm)
 exact wpAny_pure (h _ ns' b1 b2 b3)
theorem OF {l:Addr} {vs:List Value} {ns:List Int} {Q:Value->Shared->Prop} (hl:s.heap.IsList l vs.toArray) (hI:IntsAre vs ns) (h64:vs.length<=64)
 (h:∀ (out:Array Value) (ns':List Int),IntsAre out.toList ns'->ns'.Perm ns->ns'.Pairwise (· <= ·)->Q (.ref (s.heap.objs.size+1)) { s with heap:=sortedAll s.heap vs out }) :
 wpAny (model prog w) A (call (.builtin "sorted") [.ref l]) Q E s:=by
 have hz:vs.length<=sizeLine:=by rw [sizeLine_eq];lia
 refine Calls.call_function_entry kind_sorted plain_sorted entry_sorted (args_sorted1 _) ?_
 unfold Builtin.«sorted»
 refine wpAny_bind (m:=checkCount "sorted" 1 1 _) (wpAny_pure ?_)
 refine wpAny_bind (collect_list hl ?_ hz)
 refine wpAny_bind (wpAny_newList ?_ hz)
 have hsz:((s.heap.push (seqObj "list" #[] 0)).update s.heap.objs.size (Obj.mapSeq (· ++ vs.toArray))).objs.size=s.heap.objs.size+1:=by
  rw [Heap.size_update,size_push']
 have hoL:(((s.heap.push (seqObj "list" #[] 0)).update s.heap.objs.size (Obj.mapSeq (· ++ vs.toArray))).push (seqObj "list" vs.toArray 0)).get? (s.heap.objs.size+1)=some (seqObj "list" vs.toArray 0):=by
  rw [<- hsz];exact Heap.get?_push_size _ rfl
 show wpAny _ _ _ _ _ { s with heap:=((s.heap.push (seqObj "list" #[] 0)).update s.heap.objs.size (Obj.mapSeq (· ++ vs.toArray))).push (seqObj "list" vs.toArray 0) }
 rw [hsz]
 refine wpAny_bind (wpAny_holding (wpAny_call_entry slot_list_sort ⟨_,hoL,rfl⟩ entry_list_sort (LD hoL hI h64 fun out ns' a1 a2 a3=>⟨_,rfl,?_⟩) (args_list_sort _)))
 exact wpAny_pure ⟨_,rfl,h out ns' a1 a2 a3⟩
end
end L2
namespace L2
open PySem PySem.Spec PyProof.Rows PySem.W
noncomputable def FD (K:W.Frag):List V->Hp->VK->Prop:=fun xs H Q=>match xs with
 | [.ref l]=>∃ ns:List Int,SqL K H l (ns.map V.int)/\ns.length<=64/\∀ (ms:List Int) p,ms.Perm ns->ms.Pairwise (· <= ·)->H p=none->Q (.ref p) (upd H p (.lst (ms.map V.int)))
 | _=>False
noncomputable def KQ (P:Program) (w:World):List V->Hp->VK->Prop:=fun xs H Q=>match xs with
 | [.ref p]=>∃ ds:List Int,H p=some (.ext (CH P w p ds))/\ds.length<=64/\∀ (ms:List Int) q,ms.length=ds.length->(∀ k,k∈ms ↔ k∈ds)->ms.Pairwise (· <= ·)->H q=none->Q (.ref q) (upd H q (.lst (ms.map V.int)))
 | _=>False
section
variable {P:Program} {w:World} {A:Around} {E:Value->Shared->Prop} {s:Shared} {a:Addr}
theorem QH {S:Int->Bool} {n:Nat} {Q:Value->Shared->Prop} (hh:A.handled=none) (hS:SetW P w s.heap a S n) (h64:n<=64)
 (fin:∀ (h':Heap) d tk (p:Addr) (ms:List Int) (out:Array Value) (e:Nat),ms.length=n->(∀ k,k∈ms ↔ S k=true)->ms.Pairwise (· <= ·)->IntsAre out.toList ms->h'.get? p=some (seqObj "list" out e)->s.heap.objs.size<=p->(∀ b o,s.heap.get? b=some o->h'.get? b=some o)->Q (.ref p) { s with heap:=h',drawn:=d,toks:=tk }) :
 wpAny (model P w) A (call (.builtin "sorted") [.ref a]) Q E s:=by
 have hz:n<=sizeLine:=Nat.le_trans h64 (by decide)
 refine Calls.call_function_entry kind_sorted plain_sorted entry_sorted (args_sorted1 _) ?_
 unfold Builtin.«sorted»
 refine wpAny_bind (m:=checkCount "sorted" 1 1 _) (wpAny_pure (wpAny_bind (Oh (A:=A.in1) hh hS hz fun h' d tk acc ms m1 m2 hk hlt hacc=>?_)))
 subst m1
 have hI:=L5 hacc
 have hl:acc.toList.length=ms.length:=by rw [Array.length_toList,hacc.1]
 refine wpAny_bind (wpAny_newList ?_ (by rw [hl];exact hz))
 have hoL:(h'.push (seqObj "list" acc.toList.toArray 0)).get? h'.objs.size=some (seqObj "list" acc.toList.toArray 0):=Heap.get?_push_size _ rfl
 refine wpAny_bind (wpAny_holding (wpAny_call_entry slot_list_sort ⟨_,hoL,rfl⟩ entry_list_sort (LD hoL hI (by lia) fun out ns' a1 a2 a3=>⟨_,rfl,?_⟩) (args_list_sort _)))
 obtain ⟨e,he⟩:=sortedHeap_at (out:=out) hoL
 refine wpAny_pure ⟨_,rfl,fin _ d tk h'.objs.size ns' out e (a2.length_eq) (fun k=>by rw [a2.mem_iff];exact m2 k) a3 a1 he (Nat.le_of_lt hlt) fun b o q=>?_⟩
 have hb:=hk b o q
 have hlt2:=Heap.lt_size hb
 rw [sortedHeap_old (Nat.ne_of_lt hlt2) (by rw [Heap.size_push];exact Nat.lt_succ_of_lt hlt2)]
 exact Heap.get?_push_of_some _ hb
end
section
variable {X:Cx} {K:W.Frag} {P:Program} {w:World}
theorem RC:CallR X (.builtin "sorted") (FD X.K):=by
 intro pins s σ H xs us Q I r q
 match xs,q with
 | [.ref l],q =>
 obtain ⟨ns,hl,h64,q⟩:=q
 obtain ⟨u,rfl,ru⟩:=Bd r
 cases ru
 obtain ⟨its,rv,pl,hz⟩:=I.list hl
 have hi:IntsAre its ns:=by simpa using Ec rv
 have hlen:its.length=ns.length:=by rw [<- rv.length,List.length_map]
 refine OF pl.isList hi (by lia) fun out ms a1 a2 a3=>?_
 obtain ⟨e,he⟩:=sortedAll_at s.heap its out
 have hp:s.heap.objs.size<=s.heap.objs.size+1:=Nat.le_succ _
 refine ⟨.ref (s.heap.objs.size+1),_,I.laid (t':=s.toks) (o:=.lst (ms.map V.int)) (fun b o e=>sortedAll_old e) hp ?_,rfl,q ms _ a2 a3 (I.hok.fresh hp)⟩
 refine ⟨?_,out.toList,e,IT a1,he⟩
 rw [List.length_map,a2.length_eq]
 exact Nat.le_trans h64 (by decide)
theorem P5 (hK:X.K=K:=by rfl):CallR X (.builtin "sorted") (FD K):=hK ▸ RC
theorem OI:B8 (FD K):=fun xs H Q Q' h q=>by
 unfold FD at *
 split at q
 ·obtain ⟨ns,a,b,q⟩:=q;exact ⟨ns,a,b,fun ms p x1 x2 x3=>h _ _ (q ms p x1 x2 x3)⟩
 ·exact q.elim
theorem MI (hh:X.calm=true):CallR X (.builtin "sorted") (KQ X.prog X.w):=by
 intro pins s σ H xs us Q I r h
 match xs,h with
 | [.ref p],h =>
 obtain ⟨ds,hq,hn,q⟩:=h
 obtain ⟨u,rfl,rx⟩:=Bd r
 cases rx
 obtain ⟨hs,_⟩:=(show ObjOk X.prog X.w H s.heap p (.ext (CH X.prog X.w p ds)) from I.hok p _ hq)
 refine QH (I.ok.hd hh) hs hn fun h' d tk b ms out e m1 m2 m3 hi hb hp hk=>?_
 refine ⟨.ref b,_,(I.laid (t':=tk) (o:=.lst (ms.map V.int)) (fun b o e=>hk b o e) hp ?_).drew d,rfl,q ms _ m1 (fun k=>(m2 k).trans (by simp)) m3 (I.hok.fresh hp)⟩
 exact ⟨by rw [List.length_map,m1];exact Nat.le_trans hn (by decide),out.toList,e,IT hi,hb⟩
theorem NA (hh:X.calm=true) (hP:X.prog=P:=by rfl) (hw:X.w=w:=by rfl):CallR X (.builtin "sorted") (KQ P w):=by subst hP hw;exact MI hh
end
end L2
namespace L2
open PySem PySem.Spec PyProof.Rows PySem.W PySem.Calls
section
variable {P:Program} {w:World} {A:Around} {E:Value->Shared->Prop} {s:Shared}
noncomputable def PairV (h:Heap) (v:Value) (k:Int):Prop:=∃ a t y o n,v=.ref a/\h.get? a=some o/\o.cls=.type "tuple" /\ o.data=.seq #[.int k t,y] n
theorem PairV.keep {h h':Heap} {v:Value} {k:Int} (p:PairV h v k) (e:∀ b o,o.cls=.type "tuple" -> h.get? b=some o->h'.get? b=some o):PairV h' v k:=by
 obtain ⟨a,t,u,o,n,rfl,ha,hc,hd⟩:=p
 exact ⟨a,t,u,o,n,rfl,e _ _ hc ha,hc,hd⟩
end
end L2
namespace L2
open PySem PySem.Spec PyProof.Rows PySem.W
section
variable {P:Program} {w:World} {A:Around} {E:Value->Shared->Prop} {s:Shared}
end
section
variable {X:Cx}
end
section
variable {X:Cx}
end
section
variable {X:Cx}
end
end L2
namespace L2
open PySem PyProof.Rows
section
variable {prog:Program} {w:World} {A:Around} {E:Value->Shared->Prop} {s:Shared}
end
section
variable {prog:Program} {w:World} {K:Type} [DecidableEq K] {knd:KeyKind prog w K} {A:Around} {R:Result->Shared->Prop}
end
section
variable {prog:Program} {w:World} {K:Type} [DecidableEq K] {knd:KeyKind prog w K} {A:Around} {E:Value->Shared->Prop} {s:Shared}
end
section
variable {X:Cx}
end
end L2
namespace L2
open PySem PySem.Spec PyProof.Rows
section
variable {P:Program} {w:World} {A:Around} {E:Value->Shared->Prop} {s:Shared} {a:Addr}
theorem MA:isSubtype (.type "list") (.type "set")=pure false:=by rw [isSubtype_type];kernel_rfl
theorem M9:isSubtype (.type "list") (.type "frozenset")=pure false:=by rw [isSubtype_type];kernel_rfl
set_option maxHeartbeats 6400000 in
theorem Qw {l:Addr} {its:Array Value} {ns:List Int} {Q:Value->Shared->Prop} (hh:A.handled=none) (hl:s.heap.IsList l its) (hi:IntsAre its.toList ns) (hb:its.size+1 < scanBound)
 (fin:∀ (h':Heap) (tk:Nat),EV P w h' s.heap.objs.size (fun i=>ns.getD i 0) its.size->(∀ b o,b < s.heap.objs.size->s.heap.get? b=some o->h'.get? b=some o)->Q (.ref s.heap.objs.size) { s with heap:=h',toks:=tk }) :
 wpAny (model P w) A (call (.type "set") [.ref l]) Q E s:=by
 obtain ⟨c,tl,hmro⟩:=PySem.F.called_set.mro
 have hmade:=PySem.F.called_set.made
 have hsub:=PySem.F.called_set.sub
 refine wpAny_call (codeAny_of_tree ?_);show wpAny _ _ (callAny (.type "set") _) _ _ _
 refine wpAny_pure ⟨Code.quiet_builtin _ (by decide +kernel),codeAny_builtin PySem.F.entry_type_call ?_⟩
 rw [Around.under_plain (weight_type_call_type "set" [.ref l] []) rfl];have k1:=PySem.F.called_set.notType
 have k2:=PySem.F.called_set.canCreate
 have k3:=PySem.F.typeCall_set_1 (.ref l)
 (repeat (any_goals (first | assumption | wp_step)));refine codeAny_mono (Lr (.ref l) (E:=E) (Q:=fun v s₁=>v=.ref s.heap.objs.size/\s₁ = { s with heap:=s.heap.push { cls:=.type "set",dict:=none,data:=.set #[] 0 (.fresh 0 0 (!w.params.followText "set-order")) } }) ⟨rfl,rfl⟩) fun r s₁ hr=>?_
 cases r with
 | error e=>exact hr
 | ok fl =>
  cases fl with
  | ret ob =>
   obtain ⟨rfl,rfl⟩:=hr
   generalize hled:(!w.params.followText "set-order")=led
   have hS:(s.heap.push { cls:=.type "set",dict:=none,data:=.set #[] 0 (.fresh 0 0 led) }).get? s.heap.objs.size=some { cls:=.type "set",dict:=none,data:=.set #[] 0 (.fresh 0 0 led) }:=Heap.get?_push_size _ rfl;have hT:Shared.TypeIs { s with heap:=s.heap.push { cls:=.type "set",dict:=none,data:=.set #[] 0 (.fresh 0 0 led) } } (.ref s.heap.objs.size) "set":=⟨_,hS,rfl⟩
   have k4:=PySem.F.called_set.init.lookup
   have k5:=PySem.F.called_set.init.bind (.ref s.heap.objs.size)
   (repeat (any_goals (first | assumption | wp_step)));refine codeAny_mono (codeAny_call_builtin (R:=wants (fun r s₂=>r=.none/\∃ h' tk,s₂ = { s with heap:=h',toks:=tk } /\ EV P w h' s.heap.objs.size (fun i=>ns.getD i 0) its.size /\
    (∀ b o,b < s.heap.objs.size->s.heap.get? b=some o->h'.get? b=some o)) E) PySem.F.called_set.init.plain PySem.F.entry_set_init (check_set_init_1 hT ?_)) fun r₂ s₂ hr₂=>?_
   ·obtain ⟨ol,hol,hcl,nl,hdl⟩:=hl;obtain ⟨ocls,odict,odata,oslots⟩:=ol
    simp only at hcl hdl
    subst hcl;subst hdl
    have hol':(s.heap.push { cls:=.type "set",dict:=none,data:=.set #[] 0 (.fresh 0 0 led) }).get? l=some { cls:=.type "list",dict:=odict,data:=.seq its nl,slots:=oslots }:=Heap.get?_push_of_some _ hol
    have s1:=MA
    have s2:=M9
    have s3:(Value.type "list" == Value.type "dict")=false:=by decide
    have hl1:(s.heap.push { cls:=.type "set",dict:=none,data:=.set #[] 0 (.fresh 0 0 led) }).IsList l its:=⟨_,hol',rfl,nl,rfl⟩
    unfold Builtin.«set.__init__» noKeywords Builtin.Frozenset.updateFrom;generalize hPI:pyIter=PI
    wp_walk
    subst hPI
    refine wpAny_pyIter_list hl1 (wpAny_bind (wpAny_runValue ?_))
    have hlS:l < s.heap.objs.size:=Heap.lt_size hol;have z1:l≠(s.heap.push { cls:=.type "set",dict:=none,data:=.set #[] 0 (.fresh 0 0 led) }).objs.size:=by
     rw [Heap.size_push];exact (Nat.ne_of_lt (Nat.lt_succ_of_lt hlS))
    have z2:s.heap.objs.size∉[(s.heap.push { cls:=.type "set",dict:=none,data:=.set #[] 0 (.fresh 0 0 led) }).objs.size,l]:=by
     rw [Heap.size_push];simp only [List.mem_cons,List.mem_singleton,List.not_mem_nil,or_false,not_or];exact ⟨Nat.ne_of_lt (Nat.lt_succ_self _),Nat.ne_of_gt hlS⟩
    refine JS ((Walks.list (A:=A.in1.in1.in1) (by simp [hh]) _ l z1 its).toS) z2 (fun i=>ns.getD i 0) (fun i v hv=>PyProof.Rows.IntsAre.int_at hi i v (by rw [Array.getElem?_toList];exact hv)) hb (its.size - 0) 0 _ (by lia) (Nat.zero_le _)
     ⟨⟨_,Heap.get?_push_size _ rfl,rfl,rfl⟩,(hl1.push _)⟩ ?b0 ?bR
    case b0 =>
     refine ⟨_,#[],0,_,Heap.get?_push_of_some _ hS,⟨rfl,rfl,rfl⟩,rfl,fun e he=>by simp at he,fun k=>by simp [firstMet],by decide,by rfl,rfl,?_⟩
     rw [<- hled];exact PY w
    case bR =>
     intro s' hm hS'
     obtain ⟨h',g',d',tk',os'⟩:=s';obtain rfl:g'=s.gens:=hm.gens
     obtain rfl:d'=s.drawn:=hm.drawn
     obtain rfl:os'=s.os:=hm.os
     refine wpAny_pure ?_
     show wpAny _ _ (ret Value.none) _ _ _;refine wpAny_pure ⟨rfl,h',tk',rfl,hS',fun b o hb e=>hm.heap b o ?_ (Heap.get?_push_of_some _ (Heap.get?_push_of_some _ e))⟩
     rw [Heap.size_push]
     simp only [List.mem_cons,List.mem_singleton,List.not_mem_nil,or_false,not_or]
     exact ⟨Nat.ne_of_lt hb,Nat.ne_of_lt (Nat.lt_succ_of_lt hb)⟩
   ·cases r₂ with
    | error e=>exact hr₂
    | ok fl₂ =>
     cases fl₂ with
     | ret r =>
      obtain ⟨rfl,h',tk,rfl,hS',hk'⟩:=hr₂;repeat (any_goals (first | assumption | wp_step))
      exact fin _ _ hS' hk'
     | _=>exact hr₂.elim
  | _=>exact hr.elim
end
noncomputable def Jy (K:W.Frag) (P:Program) (w:World):List V->Hp->VK->Prop:=fun xs H Q=>match xs with
 | [.ref p]=>∃ ns:List Int,SqL K H p (ns.map V.int)/\ns.length<=1000/\∀ (ds:List Int) q,ds.Nodup->(∀ k,k∈ds ↔ k∈ns)->H q=none->Q (.ref q) (upd H q (.ext (CH P w q ds)))
 | _=>False
section
variable {X:Cx} {K:W.Frag} {P:Program} {w:World}
theorem Qk (hh:X.calm=true):CallR X (.type "set") (Jy X.K X.prog X.w):=by
 intro pins s σ H xs us Q I r h
 match xs,h with
 | [.ref p],h =>
 obtain ⟨ns,hq,hn,q⟩:=h
 obtain ⟨u,rfl,rx⟩:=Bd r
 cases rx
 obtain ⟨its,rv,pl,hz⟩:=I.list hq
 have hi:IntsAre its ns:=by simpa using Ec rv
 have hlen:its.length=ns.length:=by rw [<- rv.length,List.length_map]
 refine Qw (ns:=ns) (I.ok.hd hh) pl.isList (by simpa using hi) (by rw [List.size_toArray,hlen];show ns.length+1 < 4096;lia) fun h' tk hs hk=>?_
 have hsz:its.toArray.size=ns.length:=by rw [List.size_toArray,hlen]
 rw [hsz] at hs
 exact ⟨.ref s.heap.objs.size,_,I.laid (t':=tk) (o:=.ext (CH X.prog X.w s.heap.objs.size (firstMet (fun i=>ns.getD i 0) ns.length))) (fun b o e=>hk b o (Heap.lt_size e) e) (Nat.le_refl _) (Q0 hs),rfl,q _ _ (J7 _ _) (MO ns) (I.hok.fresh (Nat.le_refl _))⟩
theorem N2 (hh:X.calm=true) (hK:X.K=K:=by rfl) (hP:X.prog=P:=by rfl) (hw:X.w=w:=by rfl):CallR X (.type "set") (Jy K P w):=by subst hK hP hw;exact Qk hh
end
section
variable {X:Cx} {K:W.Frag} {e sx:Expr} {te ts:TE} {pos p2:Pos}
noncomputable def Hs (K:W.Frag):V->Hp->VK->Prop:=fun x H Q=>match x with
 | .ref a=>∃ xs,SqL K H a xs/\∀ p,H p=none->Q (.ref p) (upd H p (.lst xs.reverse))
 | _=>False
noncomputable def Kh (K:W.Frag) (te ts:TE):TE:=fun σ H Q=>te σ H fun x H1=>ts σ H1 fun k H4=>k=.int (-1)/\Hs K x H4 Q
theorem N6 (he:PE X e te) (hs:PE X sx ts) (hK:X.K=K:=by rfl):PE X (.Subscript e (.Slice none none (some sx) p2) pos) (Kh K te ts):=by
 subst hK
 intro pins s σ H Q I h
 refine Subscript_ (thn (he pins s σ H _ I h) fun v s1 ⟨x,H1,I1,r1,q1⟩=>?_)
 refine wpAny_Slice ?_
 refine wpAny_pure (wpAny_pure ?_)
 rw [evalPart_some]
 refine thn (hs pins s1 σ H1 _ I1 q1) fun vk s4 ⟨z,H4,I4,r4,q4⟩=>?_
 obtain ⟨rfl,q4⟩:=q4
 have I5:Inv X pins σ H4 { s4 with heap:=s4.heap.push { cls:=.type "slice",data:=.fields #[.none,.none,vk] } }:=I4.kept (t':=s4.toks) fun b ob q=>Heap.get?_push_of_some _ q
 cases x with
 | ref a =>
  cases r1
  obtain ⟨tk,rfl⟩:=r4
  obtain ⟨xs,hx,q⟩:=q4
  obtain ⟨its,r,ht,hz⟩:=I5.list hx
  have hlen:=r.length
  show wpAny (model X.prog X.w) X.A (subscriptTail e (.Slice none none (some sx) p2) (.ref a) (.ref s4.heap.objs.size)) (EP X pins σ Q) X.xe { s4 with heap:=s4.heap.push { cls:=.type "slice",data:=.fields #[.none,.none,.int (-1) tk] } }
  refine tail_any (ops:=[.ref a,.ref s4.heap.objs.size]) ht.isList.typeIs slot_list_getitem.lookup ?_ (by with_unfolding_all rfl)
  refine wpAny_getItem_list_slice (lo:=none) (hi:=none) ht.isList (Heap.IsSliceOf.new ..) .none .none (.int (-1) tk) (by simp) ?_ (by rw [List.size_toArray] <;> lia)
  rw [PySem.W.krv_pick]
  generalize s4.heap.push { cls:=.type "slice",data:=.fields #[.none,.none,.int (-1) tk] } = h5 at *
  refine ⟨.ref h5.objs.size,_,I5.laid (t':=s4.toks) (o:=.lst xs.reverse) (fun b ob q=>Heap.get?_push_of_some _ q) (Nat.le_refl _) ?_,rfl,q _ (I5.hok.fresh (Nat.le_refl _))⟩
  exact ⟨by rw [List.length_reverse];exact hz,its.reverse,0,r.rev,Heap.get?_push_size _ rfl⟩
 | _=>exact False.elim q4
theorem Lq (h:Ad te) (h3:Ad ts):Ad (Kh K te ts):=fun σ H Q Q' k q=>h _ _ _ _ (fun v _ q=>h3 _ _ _ _ (fun z _ ⟨e,q⟩=>⟨e,by
 unfold Hs at *
 split at q
 ·obtain ⟨xs,a,q⟩:=q;exact ⟨xs,a,fun p hp=>k _ _ (q p hp)⟩
 ·exact q.elim⟩) q) q
end
section
variable {X:Cx}
end
end L2
namespace L2
theorem DP {J G:St->Hp->Prop} (h:∀ R:St->Hp->Prop,(∀ σ H,G σ H->R σ H)->∀ σ H,J σ H->R σ H):∀ σ H,J σ H->G σ H:=h G fun _ _ x=>x
end L2
namespace Mine
open PySem L2
noncomputable def top (i:Nat):Stmt:=PySem.Challenge.pw_flips_k35_what_glances_tell.main.body.getD i (.Pass ⟨0,0,0,0⟩)
noncomputable abbrev EQ:Stmt:=top 1
noncomputable abbrev DV:Stmt:=top 2
noncomputable abbrev DQ:Stmt:=top 4
noncomputable abbrev Dk:Stmt:=top 5
noncomputable abbrev DG:Stmt:=top 6
noncomputable abbrev Dm:Stmt:=top 7
noncomputable abbrev D0:Stmt:=top 9
noncomputable abbrev EL:Stmt:=top 10
noncomputable abbrev EF:Stmt:=top 12
noncomputable abbrev Ds:Stmt:=top 13
noncomputable abbrev ER:Stmt:=top 14
noncomputable abbrev DM:Stmt:=top 15
noncomputable abbrev Dr:Stmt:=top 17
noncomputable abbrev EJ:Stmt:=top 19
noncomputable abbrev D1:Stmt:=top 20
noncomputable abbrev D5:Stmt:=top 22
noncomputable abbrev ET:Stmt:=top 23
noncomputable abbrev D4:Stmt:=top 24
noncomputable abbrev Di:Stmt:=top 25
noncomputable abbrev DA:Stmt:=top 26
noncomputable abbrev Du:Stmt:=top 27
noncomputable abbrev C8:Stmt:=top 28
noncomputable abbrev D2:Stmt:=top 29
noncomputable abbrev EH:Stmt:=top 31
noncomputable abbrev DB:Stmt:=top 32
noncomputable abbrev Dl:Stmt:=top 33
noncomputable abbrev DW:Stmt:=top 34
noncomputable abbrev Dt:Stmt:=top 35
noncomputable abbrev DY:Stmt:=top 36
noncomputable abbrev EM:Stmt:=top 37
noncomputable abbrev DO:Stmt:=top 38
noncomputable abbrev DI:Stmt:=top 39
noncomputable abbrev DC:Stmt:=top 40
noncomputable abbrev C7:Stmt:=top 41
noncomputable abbrev De:Stmt:=top 42
noncomputable abbrev EC:Stmt:=top 43
noncomputable abbrev Db:Stmt:=top 44
noncomputable abbrev EG:Stmt:=top 45
noncomputable abbrev Do:Stmt:=top 46
noncomputable abbrev CO:Stmt:=top 47
theorem RL:FnScope ["n"] ["n"] (AJ EQ):=by (exact ⟨rfl,rfl,rfl,by decide +kernel,rfl,by decide +kernel,by decide +kernel⟩)
theorem sc_z40:FnScope ["base","times","power","step"] ["base","times"] (AJ DV):=by (exact ⟨rfl,rfl,rfl,by decide +kernel,rfl,by decide +kernel,by decide +kernel⟩)
theorem QR:FnScope ["subset","place"] ["subset","place"] (AJ DQ):=by (exact ⟨rfl,rfl,rfl,by decide +kernel,rfl,by decide +kernel,by decide +kernel⟩)
theorem PD:FnScope ["subset","other"] ["subset","other"] (AJ Dk):=by (exact ⟨rfl,rfl,rfl,by decide +kernel,rfl,by decide +kernel,by decide +kernel⟩)
theorem sc_z45:FnScope ["subset","many","rest"] ["subset"] (AJ DG):=by (exact ⟨rfl,rfl,rfl,by decide +kernel,rfl,by decide +kernel,by decide +kernel⟩)
theorem sc_z46:FnScope ["n","k","many"] ["n","k"] (AJ Dm):=by (exact ⟨rfl,rfl,rfl,by decide +kernel,rfl,by decide +kernel,by decide +kernel⟩)
theorem sc_z41:FnScope ["top","bottom","divisor"] ["top","bottom"] (AJ D0):=by (exact ⟨rfl,rfl,rfl,by decide +kernel,rfl,by decide +kernel,by decide +kernel⟩)
theorem sc_z18:FnScope ["one","other","greater","less","rest"] ["one","other"] (AJ EL):=by (exact ⟨rfl,rfl,rfl,by decide +kernel,rfl,by decide +kernel,by decide +kernel⟩)
theorem Nc:FnScope ["one","subset"] ["one","subset"] (AJ EF):=by (exact ⟨rfl,rfl,rfl,by decide +kernel,rfl,by decide +kernel,by decide +kernel⟩)
theorem Ms:FnScope ["one","other"] ["one","other"] (AJ Ds):=by (exact ⟨rfl,rfl,rfl,by decide +kernel,rfl,by decide +kernel,by decide +kernel⟩)
theorem sc_z15:FnScope ["one","found","subset","weight","many"] ["one"] (AJ ER):=by (exact ⟨rfl,rfl,rfl,by decide +kernel,rfl,by decide +kernel,by decide +kernel⟩)
theorem Qf:FnScope ["one","squares"] ["one","squares"] (AJ DM):=by (exact ⟨rfl,rfl,rfl,by decide +kernel,rfl,by decide +kernel,by decide +kernel⟩)
theorem sc_z44:FnScope ["n","squares","share","bottom","less","parts","whole"] ["n","squares","share"] (AJ Dr):=by (exact ⟨rfl,rfl,rfl,by decide +kernel,rfl,by decide +kernel,by decide +kernel⟩)
theorem Nt:FnScope ["one"] ["one"] (AJ EJ):=by (exact ⟨rfl,rfl,rfl,by decide +kernel,rfl,by decide +kernel,by decide +kernel⟩)
theorem sc_z30:FnScope ["one","weights","subset","weight"] ["one"] (AJ D1):=by (exact ⟨rfl,rfl,rfl,by decide +kernel,rfl,by decide +kernel,by decide +kernel⟩)
theorem sc_z37:FnScope ["one","sets","weights"] ["one","sets"] (AJ D5):=by (exact ⟨rfl,rfl,rfl,by decide +kernel,rfl,by decide +kernel,by decide +kernel⟩)
theorem Pa:FnScope ["glance"] ["glance"] (AJ ET):=by (exact ⟨rfl,rfl,rfl,by decide +kernel,rfl,by decide +kernel,by decide +kernel⟩)
theorem sc_z23:FnScope ["glance","seen"] ["glance"] (AJ D4):=by (exact ⟨rfl,rfl,rfl,by decide +kernel,rfl,by decide +kernel,by decide +kernel⟩)
theorem sc_z19:FnScope ["glance","subset","low","may_be_more","high"] ["glance","subset"] (AJ Di):=by (exact ⟨rfl,rfl,rfl,by decide +kernel,rfl,by decide +kernel,by decide +kernel⟩)
theorem sc_z21:FnScope ["glance","share","untold","alone"] ["glance","share"] (AJ DA):=by (exact ⟨rfl,rfl,rfl,by decide +kernel,rfl,by decide +kernel,by decide +kernel⟩)
theorem sc_z17:FnScope ["glance","many","share","by_level"] ["glance","many","share"] (AJ Du):=by (exact ⟨rfl,rfl,rfl,by decide +kernel,rfl,by decide +kernel,by decide +kernel⟩)
theorem sc_z16:FnScope ["glance","k","greatest","lead","d"] ["glance","k"] (AJ C8):=by (exact ⟨rfl,rfl,rfl,by decide +kernel,rfl,by decide +kernel,by decide +kernel⟩)
theorem sc_z14:FnScope ["glance","outer","seen"] ["glance","outer"] (AJ D2):=by (exact ⟨rfl,rfl,rfl,by decide +kernel,rfl,by decide +kernel,by decide +kernel⟩)
theorem sc_z33:FnScope ["_law_script","_law_k","_law_cell"] ["_law_script","_law_k"] (AJ EH):=by (exact ⟨rfl,rfl,rfl,by decide +kernel,rfl,by decide +kernel,by decide +kernel⟩)
theorem sc_z34:FnScope ["_law_feed_here","_law_many_here","_law_figure","_law_number"] ["_law_feed_here","_law_many_here"] (AJ DB):=by (exact ⟨rfl,rfl,rfl,by decide +kernel,rfl,by decide +kernel,by decide +kernel⟩)
theorem Nd:FnScope ["_law_feed_here"] ["_law_feed_here"] (AJ Dl):=by (exact ⟨rfl,rfl,rfl,by decide +kernel,rfl,by decide +kernel,by decide +kernel⟩)
theorem sc_z39:FnScope ["_law_number","_law_found"] ["_law_number"] (AJ DW):=by (exact ⟨rfl,rfl,rfl,by decide +kernel,rfl,by decide +kernel,by decide +kernel⟩)
theorem sc_z32:FnScope ["_law_feed_here","_law_n_here","_law_size","_law_way","_law_some","_law_answers","_law_table_here","_law_least","_law_k","_law_p"] ["_law_feed_here","_law_n_here"] (AJ Dt):=by (exact ⟨rfl,rfl,rfl,by decide +kernel,rfl,by decide +kernel,by decide +kernel⟩)
theorem sc_z42:FnScope ["_law_table_here","_law_weights","_law_step","_law_p","_law_one","_law_other","_law_terms"] ["_law_table_here"] (AJ DY):=by (exact ⟨rfl,rfl,rfl,by decide +kernel,rfl,by decide +kernel,by decide +kernel⟩)
theorem sc_z31:FnScope ["_law_top","_law_bottom","_law_one","_law_other","_law_rest_here"] ["_law_top","_law_bottom"] (AJ EM):=by (exact ⟨rfl,rfl,rfl,by decide +kernel,rfl,by decide +kernel,by decide +kernel⟩)
theorem sc_z20:FnScope ["_law_feed_here","_law_part","_law_bottom"] ["_law_feed_here","_law_part"] (AJ DO):=by (exact ⟨rfl,rfl,rfl,by decide +kernel,rfl,by decide +kernel,by decide +kernel⟩)
theorem sc_z29:FnScope ["_law_base","_law_times","_law_found","_law_k"] ["_law_base","_law_times"] (AJ DI):=by (exact ⟨rfl,rfl,rfl,by decide +kernel,rfl,by decide +kernel,by decide +kernel⟩)
theorem NY:FnScope ["_law_n_here","_law_k"] ["_law_n_here","_law_k"] (AJ DC):=by (exact ⟨rfl,rfl,rfl,by decide +kernel,rfl,by decide +kernel,by decide +kernel⟩)
theorem sc_z25:FnScope ["_law_feed_here","_law_table_here","_law_size","_law_n_here","_law_weights","_law_part","_law_way","_law_sets_here"] ["_law_feed_here","_law_table_here"] (AJ C7):=by (exact ⟨rfl,rfl,rfl,by decide +kernel,rfl,by decide +kernel,by decide +kernel⟩)
theorem sc_z35:FnScope ["_law_glance_here","_law_known"] ["_law_glance_here"] (AJ De):=by (exact ⟨rfl,rfl,rfl,by decide +kernel,rfl,by decide +kernel,by decide +kernel⟩)
theorem Md:FnScope ["_law_glance_here"] ["_law_glance_here"] (AJ EC):=by (exact ⟨rfl,rfl,rfl,by decide +kernel,rfl,by decide +kernel,by decide +kernel⟩)
theorem sc_z22:FnScope ["_law_glance_here","_law_some","_law_low","_law_high"] ["_law_glance_here","_law_some"] (AJ Db):=by (exact ⟨rfl,rfl,rfl,by decide +kernel,rfl,by decide +kernel,by decide +kernel⟩)
theorem sc_z28:FnScope ["_law_glance_here","_law_share_here","_law_n_here","_law_top","_law_bottom","_law_parts","_law_whole","_law_there","_law_sizes","_law_low","_law_high"] ["_law_glance_here","_law_share_here"] (AJ EG):=by (exact ⟨rfl,rfl,rfl,by decide +kernel,rfl,by decide +kernel,by decide +kernel⟩)
theorem sc_z24:FnScope ["_law_glance_here","_law_k","_law_greatest","_law_some","_law_there","_law_differences","_law_agreed"] ["_law_glance_here","_law_k"] (AJ Do):=by (exact ⟨rfl,rfl,rfl,by decide +kernel,rfl,by decide +kernel,by decide +kernel⟩)
theorem sc_law:FnScope ["_law_script","_law_k","_law_feed_here","_law_table_here","_law_size","_law_glance_here","_law_sets_here","_law_kept","_law_at","_law_one","_law_less","_law_some","_law_share_here","_law_few"] ["_law_script"] (AJ CO):=by (exact ⟨rfl,rfl,rfl,by decide +kernel,rfl,by decide +kernel,by decide +kernel⟩)
set_option genInjectivity false
set_option genSizeOf false
structure Txt (K:W.Frag) (mg:Str->Option Value) where
 f_z51:Addr
 d_z51:FuncData
 F_z51:Fun K "two_to" "two_to" EQ f_z51 d_z51
 b_z51:Binds K d_z51 ["n"] []
 m_z51:mg "two_to" = some (.ref f_z51)
 f_z40:Addr
 d_z40:FuncData
 F_z40:Fun K "power_of" "power_of" DV f_z40 d_z40
 b_z40:Binds K d_z40 ["base","times"] []
 m_z40:mg "power_of" = some (.ref f_z40)
 f_z52:Addr
 d_z52:FuncData
 F_z52:Fun K "sign" "sign" DQ f_z52 d_z52
 b_z52:Binds K d_z52 ["subset","place"] []
 m_z52:mg "sign" = some (.ref f_z52)
 f_z50:Addr
 d_z50:FuncData
 F_z50:Fun K "within" "within" Dk f_z50 d_z50
 b_z50:Binds K d_z50 ["subset","other"] []
 m_z50:mg "within" = some (.ref f_z50)
 f_z45:Addr
 d_z45:FuncData
 F_z45:Fun K "many_in" "many_in" DG f_z45 d_z45
 b_z45:Binds K d_z45 ["subset"] []
 m_z45:mg "many_in" = some (.ref f_z45)
 f_z46:Addr
 d_z46:FuncData
 F_z46:Fun K "sets_of" "sets_of" Dm f_z46 d_z46
 b_z46:Binds K d_z46 ["n","k"] []
 m_z46:mg "sets_of" = some (.ref f_z46)
 f_z41:Addr
 d_z41:FuncData
 F_z41:Fun K "share_of" "share_of" D0 f_z41 d_z41
 b_z41:Binds K d_z41 ["top","bottom"] []
 m_z41:mg "share_of" = some (.ref f_z41)
 f_z18:Addr
 d_z18:FuncData
 F_z18:Fun K "common_divisor" "common_divisor" EL f_z18 d_z18
 b_z18:Binds K d_z18 ["one","other"] []
 m_z18:mg "common_divisor" = some (.ref f_z18)
 f_z26:Addr
 d_z26:FuncData
 F_z26:Fun K "odd_squares" "odd_squares" EF f_z26 d_z26
 b_z26:Binds K d_z26 ["one","subset"] []
 m_z26:mg "odd_squares" = some (.ref f_z26)
 f_z27:Addr
 d_z27:FuncData
 F_z27:Fun K "is_odd_with" "is_odd_with" Ds f_z27 d_z27
 b_z27:Binds K d_z27 ["one","other"] []
 m_z27:mg "is_odd_with" = some (.ref f_z27)
 f_z15:Addr
 d_z15:FuncData
 F_z15:Fun K "squares_by_level" "squares_by_level" ER f_z15 d_z15
 b_z15:Binds K d_z15 ["one"] []
 m_z15:mg "squares_by_level" = some (.ref f_z15)
 f_z43:Addr
 d_z43:FuncData
 F_z43:Fun K "over_all" "over_all" DM f_z43 d_z43
 b_z43:Binds K d_z43 ["one","squares"] []
 m_z43:mg "over_all" = some (.ref f_z43)
 f_z44:Addr
 d_z44:FuncData
 F_z44:Fun K "stays_by" "stays_by" Dr f_z44 d_z44
 b_z44:Binds K d_z44 ["n","squares","share"] []
 m_z44:mg "stays_by" = some (.ref f_z44)
 f_z48:Addr
 d_z48:FuncData
 F_z48:Fun K "squares" "squares" EJ f_z48 d_z48
 b_z48:Binds K d_z48 ["one"] []
 m_z48:mg "squares" = some (.ref f_z48)
 f_z30:Addr
 d_z30:FuncData
 F_z30:Fun K "weights_of" "weights_of" D1 f_z30 d_z30
 b_z30:Binds K d_z30 ["one"] []
 m_z30:mg "weights_of" = some (.ref f_z30)
 f_z37:Addr
 d_z37:FuncData
 F_z37:Fun K "glance_of" "glance_of" D5 f_z37 d_z37
 b_z37:Binds K d_z37 ["one","sets"] []
 m_z37:mg "glance_of" = some (.ref f_z37)
 f_z47:Addr
 d_z47:FuncData
 F_z47:Fun K "rest_of" "rest_of" ET f_z47 d_z47
 b_z47:Binds K d_z47 ["glance"] []
 m_z47:mg "rest_of" = some (.ref f_z47)
 f_z23:Addr
 d_z23:FuncData
 F_z23:Fun K "untold_sets" "untold_sets" D4 f_z23 d_z23
 b_z23:Binds K d_z23 ["glance"] []
 m_z23:mg "untold_sets" = some (.ref f_z23)
 f_z19:Addr
 d_z19:FuncData
 F_z19:Fun K "matters_within" "matters_within" Di f_z19 d_z19
 b_z19:Binds K d_z19 ["glance","subset"] []
 m_z19:mg "matters_within" = some (.ref f_z19)
 f_z21:Addr
 d_z21:FuncData
 F_z21:Fun K "stays_within" "stays_within" DA f_z21 d_z21
 b_z21:Binds K d_z21 ["glance","share"] []
 m_z21:mg "stays_within" = some (.ref f_z21)
 f_z17:Addr
 d_z17:FuncData
 F_z17:Fun K "stays_with_rest" "stays_with_rest" Du f_z17 d_z17
 b_z17:Binds K d_z17 ["glance","many","share"] []
 m_z17:mg "stays_with_rest" = some (.ref f_z17)
 f_z16:Addr
 d_z16:FuncData
 F_z16:Fun K "differ_at_least" "differ_at_least" C8 f_z16 d_z16
 b_z16:Binds K d_z16 ["glance","k"] []
 m_z16:mg "differ_at_least" = some (.ref f_z16)
 f_z14:Addr
 d_z14:FuncData
 F_z14:Fun K "most_squares_within" "most_squares_within" D2 f_z14 d_z14
 b_z14:Binds K d_z14 ["glance","outer"] []
 m_z14:mg "most_squares_within" = some (.ref f_z14)
 f_z33:Addr
 d_z33:FuncData
 F_z33:Fun K "_law_feed" "_law_feed" EH f_z33 d_z33
 b_z33:Binds K d_z33 ["_law_script","_law_k"] []
 m_z33:mg "_law_feed" = some (.ref f_z33)
 f_z34:Addr
 d_z34:FuncData
 F_z34:Fun K "_law_draw" "_law_draw" DB f_z34 d_z34
 b_z34:Binds K d_z34 ["_law_feed_here","_law_many_here"] []
 m_z34:mg "_law_draw" = some (.ref f_z34)
 f_z49:Addr
 d_z49:FuncData
 F_z49:Fun K "_law_n" "_law_n" Dl f_z49 d_z49
 b_z49:Binds K d_z49 ["_law_feed_here"] []
 m_z49:mg "_law_n" = some (.ref f_z49)
 f_z39:Addr
 d_z39:FuncData
 F_z39:Fun K "_law_many" "_law_many" DW f_z39 d_z39
 b_z39:Binds K d_z39 ["_law_number"] []
 m_z39:mg "_law_many" = some (.ref f_z39)
 f_z32:Addr
 d_z32:FuncData
 F_z32:Fun K "_law_table" "_law_table" Dt f_z32 d_z32
 b_z32:Binds K d_z32 ["_law_feed_here","_law_n_here"] []
 m_z32:mg "_law_table" = some (.ref f_z32)
 f_z42:Addr
 d_z42:FuncData
 F_z42:Fun K "_law_sum" "_law_sum" DY f_z42 d_z42
 b_z42:Binds K d_z42 ["_law_table_here"] []
 m_z42:mg "_law_sum" = some (.ref f_z42)
 f_z31:Addr
 d_z31:FuncData
 F_z31:Fun K "_law_share" "_law_share" EM f_z31 d_z31
 b_z31:Binds K d_z31 ["_law_top","_law_bottom"] []
 m_z31:mg "_law_share" = some (.ref f_z31)
 f_z20:Addr
 d_z20:FuncData
 F_z20:Fun K "_law_shaking" "_law_shaking" DO f_z20 d_z20
 b_z20:Binds K d_z20 ["_law_feed_here","_law_part"] []
 m_z20:mg "_law_shaking" = some (.ref f_z20)
 f_z29:Addr
 d_z29:FuncData
 F_z29:Fun K "_law_power" "_law_power" DI f_z29 d_z29
 b_z29:Binds K d_z29 ["_law_base","_law_times"] []
 m_z29:mg "_law_power" = some (.ref f_z29)
 f_z38:Addr
 d_z38:FuncData
 F_z38:Fun K "_law_sets" "_law_sets" DC f_z38 d_z38
 b_z38:Binds K d_z38 ["_law_n_here","_law_k"] []
 m_z38:mg "_law_sets" = some (.ref f_z38)
 f_z25:Addr
 d_z25:FuncData
 F_z25:Fun K "_law_glance" "_law_glance" C7 f_z25 d_z25
 b_z25:Binds K d_z25 ["_law_feed_here","_law_table_here"] []
 m_z25:mg "_law_glance" = some (.ref f_z25)
 f_z35:Addr
 d_z35:FuncData
 F_z35:Fun K "_law_dark" "_law_dark" De f_z35 d_z35
 b_z35:Binds K d_z35 ["_law_glance_here"] []
 m_z35:mg "_law_dark" = some (.ref f_z35)
 f_z36:Addr
 d_z36:FuncData
 F_z36:Fun K "_law_rest" "_law_rest" EC f_z36 d_z36
 b_z36:Binds K d_z36 ["_law_glance_here"] []
 m_z36:mg "_law_rest" = some (.ref f_z36)
 f_z22:Addr
 d_z22:FuncData
 F_z22:Fun K "_law_matters" "_law_matters" Db f_z22 d_z22
 b_z22:Binds K d_z22 ["_law_glance_here","_law_some"] []
 m_z22:mg "_law_matters" = some (.ref f_z22)
 f_z28:Addr
 d_z28:FuncData
 F_z28:Fun K "_law_stays" "_law_stays" EG f_z28 d_z28
 b_z28:Binds K d_z28 ["_law_glance_here","_law_share_here"] []
 m_z28:mg "_law_stays" = some (.ref f_z28)
 f_z24:Addr
 d_z24:FuncData
 F_z24:Fun K "_law_differ" "_law_differ" Do f_z24 d_z24
 b_z24:Binds K d_z24 ["_law_glance_here","_law_k"] []
 m_z24:mg "_law_differ" = some (.ref f_z24)
 f_law:Addr
 d_law:FuncData
 F_law:Fun K "law" "law" CO f_law d_law
 b_law:Binds K d_law ["_law_script"] []
 m_law:mg "law" = some (.ref f_law)
 z_abs:mg "abs" = none
 z_any:mg "any" = none
 z_dict:mg "dict" = none
 z_enumerate:mg "enumerate" = none
 z_int:mg "int" = none
 z_len:mg "len" = none
 z_list:mg "list" = none
 z_max:mg "max" = none
 z_min:mg "min" = none
 z_range:mg "range" = none
 z_repr:mg "repr" = none
 z_set:mg "set" = none
 z_sorted:mg "sorted" = none
 z_sum:mg "sum" = none
 z_tuple:mg "tuple" = none
section
variable {P:Program} {w:World} {K:W.Frag} {mg:Str->Option Value} {base:Heap} (T:Txt K mg)
noncomputable def BN:Sp:=fun vs H Q _=>match vs with
 | [.int x]=>∃ a:Nat,x=a/\a < 2 ^ 64/\Q (.int (Bj a)) H
 | _=>False
theorem Cc:AK BN:=fun vs H Q Q' E h q=>by
 unfold BN at *
 split at q
 ·revert q;repeat' first | exact h _ _ | exact A4 h | exact out_mono h | exact outT_mono h | (with_reducible first | refine Exists.imp fun _=>?_ | refine And.imp_right ?_ | refine forall_imp fun _=>?_)
 ·exact q.elim
theorem EW:FnOk P w K mg base CX0 1 T.f_z39 T.d_z39 ["_law_number"] BN:=by
 refine T.F_z39.ok sc_z39 (fun vs H Q E h=>by unfold BN at h;split at h <;> first | rfl | exact h.elim) (fun cdv A outer s H vs Q E hr h=>?_)
 have hu:=Ab hr
 unfold BN at h
 split at h
 rotate_left
 ·exact h.elim
 rename_i x
 obtain ⟨a,e1,h1,q⟩:=h
 subst e1
 refine ⟨_,(@AE _ _ _ _ _ (@AI _ _ 1 _ _ _ _ sc_z39.nd rfl (by (first | exact Or.inl rfl | exact Or.inr rfl)) AC (by rfl) (by (first | exact .inl rfl | exact .inr rfl | assumption))) (@AE _ _ _ _ _ (@EN _ _ _ _ _ _ PassesOwn.never (AV Ct (vv 0) AC) (@AE _ _ _ _ _ (@AI _ _ 1 _ _ _ _ sc_z39.nd rfl (by (first | exact Or.inl rfl | exact Or.inr rfl)) (AD (Aj (K:=K)) (vv 1) (AD BQ (vv 0) AC)) (by rfl) (by (first | exact .inl rfl | exact .inr rfl | assumption))) (@AL _ _ _ (@AI _ _ 0 _ _ _ _ sc_z39.nd rfl (by (first | exact Or.inl rfl | exact Or.inr rfl)) (AD CB (vv 0) AC) (by rfl) (by (first | exact .inl rfl | exact .inr rfl | assumption)))))) (@AL _ _ _ (@AO _ _ _ _ (vv 1))))),?_⟩
 refine ⟨fun f σ H'=>H'=H/\∃ m r:Nat,σ=[some (.int r),some (.int m)]/\r < 2 ^ f/\m+manyF f r=Bj a,⟨64,rfl,0,a,rfl,h1,by unfold Bj;exact Nat.zero_add _⟩,?_⟩
 rintro f σ H' ⟨rfl,m,r,rfl,hr1,hm⟩
 refine ite2 (fun e=>?_) (fun e=>?_)
 ·have r0:0 < r:=by have:(0:Int) < (r:Int):=of_decide_eq_true e;lia
  cases f with
  | zero=>simp at hr1;lia
  | succ f =>
   refine ⟨by decide,Al (by decide) (by decide),?_⟩
   refine ⟨f,Nat.lt_succ_self _,rfl,m+r % 2,r / 2,?_,?_,?_⟩
   ·show [some (V.int ((r:Int) / 2)),some (V.int ((m:Int)+(r:Int) % 2))]=_
    rw [Int.natCast_add,Int.natCast_emod,Int.natCast_ediv]
    rfl
   ·rw [Nat.pow_succ] at hr1;lia
   ·rw [<- hm]
    show m+r % 2+manyF f (r / 2)=m+(r % 2+manyF f (r / 2))
    lia
 ·have r0:r=0:=by
   have:¬ (0:Int) < (r:Int):=fun z=>e (decide_eq_true z)
   lia
  subst r0
  rw [DN,Nat.add_zero] at hm
  rw [<- hm] at q
  exact q
theorem Pu:FnOk P w K mg base CX0 1 T.f_z33 T.d_z33 ["_law_script","_law_k"] (G8 K):=by
 refine T.F_z33.ok sc_z33 (fun vs H Q E h=>by unfold G8 at h;split at h <;> first | rfl | exact h.elim) (fun cdv A outer s H vs Q E hr h=>?_)
 have hu:=Ab hr
 unfold G8 at h
 split at h
 rotate_left
 ·exact h.elim
 rename_i a k
 obtain ⟨ns,hs,q⟩:=h
 refine ⟨_,(@AE _ _ _ _ _ (@Ay _ _ _ _ _ _ _ _ (AV (kEq (K:=K) hu) (Aa (Bu (K:=K)) rfl T.z_len (by rfl) (AA (vv 0) AB)) AC) (@AL _ _ _ (@AO _ _ _ _ (@Bq _ _ _ _ (AA AC (AA AC (AA (vv 1) (AA AC AB))))))) Ax) (@AE _ _ _ _ _ (@AI _ _ 2 _ _ _ _ sc_z33.nd rfl (by (first | exact Or.inl rfl | exact Or.inr rfl)) (kIx (K:=K) (vv 0) (AD BQ (vv 1) (Aa (Bu (K:=K)) rfl T.z_len (by rfl) (AA (vv 0) AB)))) (by rfl) (by (first | exact .inl rfl | exact .inr rfl | assumption))) (@AL _ _ _ (@AO _ _ _ _ (@Bq _ _ _ _ (AA (Aa (IV rfl) rfl T.z_max (by rfl) (AA AC (AA (AD BW (vv 2) (AD JK AC AC)) AB))) (AA (vv 2) (AA (vv 1) (AA AC AB))))))))),?_⟩
 refine ⟨ns.length,.inl ⟨_,hs,by rw [List.length_map]⟩,?_⟩
 refine ite2 (fun e=>?_) (fun e=>?_)
 ·refine ⟨Ac (show 4<=1000 by decide),fun p hp=>q p _ hp ⟨0,0,k,0,Int.le_refl _,AH⟩ (fun b n=>AX n)⟩
 ·have hpos:0 < (ns.length:Int):=by
   have:¬ (ns.length:Int)=0:=fun z=>e (by rw [z];rfl)
   lia
  obtain ⟨z,hz⟩:=NS (ns:=ns) (Int.emod_nonneg k (show (ns.length:Int)≠0 by lia)) (Int.emod_lt_of_pos k hpos)
  refine ⟨ns.length,.inl ⟨_,hs,by rw [List.length_map]⟩,hpos,_,_,.inl hs,hz,⟨by decide,by decide,by decide⟩,?_⟩
  refine ⟨Ac (show 4<=1000 by decide),fun p hp=>q p _ hp ⟨_,_,_,_,?_,AH⟩ (fun b n=>AX n)⟩
  exact Int.le_max_left _ _
theorem EY:FnOk P w K mg base CX0 1 T.f_z34 T.d_z34 ["_law_feed_here","_law_many_here"] Eg:=by
 refine T.F_z34.ok sc_z34 (fun vs H Q E h=>by unfold Eg at h;split at h <;> first | rfl | exact h.elim) (fun cdv A outer s H vs Q E hr h=>?_)
 have hu:=Ab hr
 unfold Eg at h
 split at h
 rotate_left
 ·exact h.elim
 rename_i t m
 obtain ⟨F,hm,k⟩:=h
 obtain ⟨a,b,kk,c,ha,ht⟩:=F.at_
 have hm0:0 < m:=hm.1
 refine ⟨_,(@AE _ _ _ _ _ (@CN _ _ _ _ _ _ (AD (Aj (K:=K)) (kIx (K:=K) (vv 0) AC) AC) (Cd (vv 0) AC Cb) (by rfl) (by rfl) (by rfl)) (@AE _ _ _ _ _ (@Ay _ _ _ _ _ _ _ _ (AV Ct (kIx (K:=K) (vv 0) AC) AC) (@AE _ _ _ _ _ (@AI _ _ 2 _ _ _ _ sc_z34.nd rfl (by (first | exact Or.inl rfl | exact Or.inr rfl)) (AD BQ (kIx (K:=K) (vv 0) AC) (vv 1)) (by rfl) (by (first | exact .inl rfl | exact .inr rfl | assumption))) (@AE _ _ _ _ _ (@CN _ _ _ _ _ _ (AD CB (kIx (K:=K) (vv 0) AC) (vv 1)) (Cd (vv 0) AC Cb) (by rfl) (by rfl) (by rfl)) (@AL _ _ _ (@AO _ _ _ _ (vv 2))))) Ax) (@AE _ _ _ _ _ (@AI _ _ 3 _ _ _ _ sc_z34.nd rfl (by (first | exact Or.inl rfl | exact Or.inr rfl)) (AD BQ (AD (Aj (K:=K)) (AD (Aj (K:=K)) (kIx (K:=K) (vv 0) AC) (AD AR AC (kIx (K:=K) (vv 0) AC))) (AD AR AC (kIx (K:=K) (vv 0) AC))) AC) (by rfl) (by (first | exact .inl rfl | exact .inr rfl | assumption))) (@AE _ _ _ _ _ (@AI _ _ 3 _ _ _ _ sc_z34.nd rfl (by (first | exact Or.inl rfl | exact Or.inr rfl)) (AD BQ (AD (Aj (K:=K)) (AD (Aj (K:=K)) (AD AR (vv 3) (vv 3)) (AD AR AC (vv 3))) (kIx (K:=K) (vv 0) AC)) AC) (by rfl) (by (first | exact .inl rfl | exact .inr rfl | assumption))) (@AE _ _ _ _ _ (@AI _ _ 3 _ _ _ _ sc_z34.nd rfl (by (first | exact Or.inl rfl | exact Or.inr rfl)) (AD BQ (AD (Aj (K:=K)) (AD (Aj (K:=K)) (AD AR (vv 3) (vv 3)) (AD AR AC (vv 3))) (kIx (K:=K) (vv 0) AC)) AC) (by rfl) (by (first | exact .inl rfl | exact .inr rfl | assumption))) (@AL _ _ _ (@AO _ _ _ _ (AD BQ (vv 3) (vv 1))))))))),?_⟩
 refine AT (fun σ' H1=>σ'=[some (.ref t),some (.int m),none,none]/\(∀ b,b≠t->H1 b=H b)/\∃ a b k c:Int,0<=a/\H1 t=some (.lst [.int a,.int b,.int k,.int c])) ?_ ?_ (by (repeat' with_reducible first | exact Q5 | apply RK | apply QB | apply Mz | apply RP | apply Lo | apply MG | apply QK | exact Qg | exact MY | apply Mh | apply Of | apply Pk | apply Pf | apply Ny | apply OC | apply OY | apply M3 | apply Qz | exact Qc | exact Ph | exact QE | exact P4 | exact L7 | exact MJ | exact Lh | exact MC | exact L3 | exact Lw | apply Nl | apply Oc | apply OX | exact Qb | apply P2 | exact PZ | exact Qr | exact O3 | exact Q9 | exact Lz | apply Oy | apply Qo | apply Pp | exact As | apply CL | exact BI | exact Py | exact QF | apply Lq | apply Nm | exact NC | apply Lu | exact Qp | apply LQ | apply OD | exact NG | apply OR | exact QD | exact OI | exact Pw | exact Nk | apply PV | exact Nx | apply OS | assumption))
 ·exact ⟨_,_,.inl (.of ht),rfl,_,_,ht,rfl,rfl,fun b n=>AX n,a,b,kk,c+1,ha,AH⟩
 clear ht ha a b kk c
 rintro σ' H1 ⟨rfl,f1,a,b,kk,c,ha,ht1⟩
 refine ⟨_,_,.inl (.of ht1),rfl,?_⟩
 refine ite2 (fun e=>?_) (fun e=>?_)
 ·refine ⟨_,_,.inl (.of ht1),rfl,hm0,_,_,.inl (.of ht1),rfl,hm,_,_,ht1,rfl,?_⟩
  exact k _ _ (Int.emod_nonneg _ (by lia)) (Int.emod_lt_of_pos _ hm0) ⟨_,_,_,_,Int.ediv_nonneg ha (by lia),AH⟩ (fun b n=>by rw [AX n];exact f1 b n)
 dsimp only [E7]
 have F1:Feed H1 t:=⟨a,b,kk,c,ha,ht1⟩
 refine AT (fun σ' H2=>H2=H1/\∃ z:Int,σ'=[some (.ref t),some (.int m),none,some (.int z)]/\0<=z/\z < 2147483629) ?_ ?_ (by (repeat' with_reducible first | exact Q5 | apply RK | apply QB | apply Mz | apply RP | apply Lo | apply MG | apply QK | exact Qg | exact MY | apply Mh | apply Of | apply Pk | apply Pf | apply Ny | apply OC | apply OY | apply M3 | apply Qz | exact Qc | exact Ph | exact QE | exact P4 | exact L7 | exact MJ | exact Lh | exact MC | exact L3 | exact Lw | apply Nl | apply Oc | apply OX | exact Qb | apply P2 | exact PZ | exact Qr | exact O3 | exact Q9 | exact Lz | apply Oy | apply Qo | apply Pp | exact As | apply CL | exact BI | exact Py | exact QF | apply Lq | apply Nm | exact NC | apply Lu | exact Qp | apply LQ | apply OD | exact NG | apply OR | exact QD | exact OI | exact Pw | exact Nk | apply PV | exact Nx | apply OS | assumption))
 ·refine ⟨_,_,.inl (.of ht1),rfl,_,_,.inl (.of ht1),rfl,.inr (.inl ⟨by decide,by decide⟩),_,_,.inl (.of ht1),rfl,.inr (.inl ⟨by decide,by decide⟩),by decide,rfl,_,rfl,Int.emod_nonneg _ (by decide),Int.emod_lt_of_pos _ (by decide)⟩
 rintro σ' H2 ⟨rfl,z,rfl,z0,z1⟩
 refine AT (fun σ' H2'=>H2'=H2/\∃ z:Int,σ'=[some (.ref t),some (.int m),none,some (.int z)]/\0<=z/\z < 2147483629) ?_ ?_ (by (repeat' with_reducible first | exact Q5 | apply RK | apply QB | apply Mz | apply RP | apply Lo | apply MG | apply QK | exact Qg | exact MY | apply Mh | apply Of | apply Pk | apply Pf | apply Ny | apply OC | apply OY | apply M3 | apply Qz | exact Qc | exact Ph | exact QE | exact P4 | exact L7 | exact MJ | exact Lh | exact MC | exact L3 | exact Lw | apply Nl | apply Oc | apply OX | exact Qb | apply P2 | exact PZ | exact Qr | exact O3 | exact Q9 | exact Lz | apply Oy | apply Qo | apply Pp | exact As | apply CL | exact BI | exact Py | exact QF | apply Lq | apply Nm | exact NC | apply Lu | exact Qp | apply LQ | apply OD | exact NG | apply OR | exact QD | exact OI | exact Pw | exact Nk | apply PV | exact Nx | apply OS | assumption))
 ·refine ⟨.inr (.inl ⟨by lia,by lia⟩),.inr (.inl ⟨by decide,by decide⟩),_,_,.inl (.of ht1),rfl,by decide,rfl,_,rfl,Int.emod_nonneg _ (by decide),Int.emod_lt_of_pos _ (by decide)⟩
 rintro σ' H3 ⟨rfl,z,rfl,z0,z1⟩
 refine ⟨.inr (.inl ⟨by lia,by lia⟩),.inr (.inl ⟨by decide,by decide⟩),_,_,.inl (.of ht1),rfl,by decide,?_⟩
 refine ⟨hm0,?_⟩
 exact k _ _ (Int.emod_nonneg _ (by lia)) (Int.emod_lt_of_pos _ hm0) F1 f1
noncomputable def EO:Sp:=fun vs H Q _=>match vs with
 | [.ref t]=>Feed H t/\∀ (n:Nat) H',1<=n->n<=6->Feed H' t->(∀ b,b≠t->H' b=H b)->Q (.int n) H'
 | _=>False
theorem MH:AK EO:=fun vs H Q Q' E h q=>by
 unfold EO at *
 split at q
 ·exact ⟨q.1,fun n H' a b c d=>h _ _ (q.2 n H' a b c d)⟩
 ·exact q.elim
theorem PR:FnOk P w K mg base CX0 2 T.f_z49 T.d_z49 ["_law_feed_here"] EO:=by
 have G_z34:=EY (P:=P) (w:=w) (base:=base) T
 refine T.F_z49.ok Nd (fun vs H Q E h=>by unfold EO at h;split at h <;> first | rfl | exact h.elim) (fun cdv A outer s H vs Q E hr h=>?_)
 have hu:=Ab hr
 have hr_z34:=hr.mono (show 1<=_ by decide)
 unfold EO at h
 split at h
 rotate_left
 ·exact h.elim
 rename_i t
 obtain ⟨F,k⟩:=h
 refine ⟨_,(@AE _ _ _ _ _ (@Ay _ _ _ _ _ _ _ _ (AV (kEq (K:=K) hu) (AF G_z34 hr_z34 rfl T.m_z34 T.F_z34.kp T.b_z34 .nil AG (AA (vv 0) (AA AC AB))) AC) (@AL _ _ _ (@AO _ _ _ _ AC)) Ax) (@AL _ _ _ (@AO _ _ _ _ (AD (Aj (K:=K)) AC (AF G_z34 hr_z34 rfl T.m_z34 T.F_z34.kp T.b_z34 .nil AG (AA (vv 0) (AA AC AB))))))),?_⟩
 refine ⟨F,Al (by decide) (by decide),fun d H2 d0 d1 F2 f2=>?_⟩
 refine ite2 (fun e=>?_) (fun e=>?_)
 ·exact k 6 H2 (by decide) (by decide) F2 f2
 ·refine ⟨F2,Al (by decide) (by decide),fun d' H3 d0' d1' F3 f3=>?_⟩
  obtain ⟨x,rfl⟩:=Int.eq_ofNat_of_zero_le d0'
  have e:(1:Int)+(x:Int)=((1+x:Nat):Int):=by lia
  dsimp only [Ca]
  rw [e]
  exact k (1+x) H3 (by lia) (by lia) F3 (fun b n=>by rw [f3 b n,f2 b n])
noncomputable def DD:Sp:=fun vs H Q _=>match vs with
 | [.ref t,.int n]=>∃ m:Nat,Feed H t/\n=m/\1<=m/\m<=6/\∀ (bs:List Bool) p H',bs.length=2 ^ m->H p=none->H' p=some (.tup (bs.map V.bl))->Feed H' t->Frm t H H'->Q (.ref p) H'
 | _=>False
theorem PP:AK DD:=fun vs H Q Q' E h q=>by
 unfold DD at *
 split at q
 ·revert q;repeat' first | exact h _ _ | exact A4 h | exact out_mono h | exact outT_mono h | (with_reducible first | refine Exists.imp fun _=>?_ | refine And.imp_right ?_ | refine forall_imp fun _=>?_)
 ·exact q.elim
theorem Aq {t:Addr} {H H':Hp} (h:∀ b,b≠t->H' b=H b):Frm t H H':=fun b o n e=>by rw [h b n];exact e
theorem KU {t p:Addr} {H0 H:Hp} {o:HO} (f:Frm t H0 H) (hp:H0 p=none):Frm t H0 (upd H p o):=fun b u n e=>by
 rw [AX (Bo e hp)];exact f b u n e
structure FL (H0:Hp) (t:Addr) (M:Nat) (l:Addr) (H:Hp):Prop where
 fd:Feed H t
 fr:Frm t H0 H
 new:H0 l=none
 at_:∃ bs:List Bool,H l=some (.lst (bs.map V.bl))/\bs.length=M
theorem FL.same {H0 H H':Hp} {t:Addr} {M:Nat} {l:Addr} (L:FL H0 t M l H) (s:Same H H'):FL H0 t M l H' :=
 ⟨L.fd.same s,L.fr.trans s.frm,L.new,let ⟨bs,h,e⟩:=L.at_;⟨bs,s _ _ h,e⟩⟩
theorem FL.draw {H0 H H':Hp} {t:Addr} {M:Nat} {l:Addr} (L:FL H0 t M l H) (F0:Feed H0 t) (F1:Feed H' t) (f:∀ b,b≠t->H' b=H b):FL H0 t M l H' :=
 ⟨F1,L.fr.trans (Aq f),L.new,let ⟨bs,h,e⟩:=L.at_;⟨bs,by rw [f l (F0.neT L.new)];exact h,e⟩⟩
theorem FL.put {H0 H:Hp} {t:Addr} {M:Nat} {l:Addr} {bs:List Bool} (L:FL H0 t M l H) (F0:Feed H0 t) (hb:bs.length=M):FL H0 t M l (upd H l (.lst (bs.map V.bl))):=by
 obtain ⟨a,b,k,c,h1,h3⟩:=L.fd.at_
 exact ⟨⟨a,b,k,c,h1,by rw [AX (Ne.symm (F0.neT L.new))];exact h3⟩,KU L.fr L.new,L.new,bs,AH,hb⟩
theorem FL.mk' {H0 H:Hp} {t:Addr} {M:Nat} {l:Addr} {bs:List Bool} (F:Feed H t) (fr:Frm t H0 H) (hl:H l=none) (hb:bs.length=M):FL H0 t M l (upd H l (.lst (bs.map V.bl))) :=
 ⟨F.upd hl,fr.trans (Frm.upd hl),F.free fr hl,bs,AH,hb⟩
theorem DL {n i:Nat} (h:i < n):ixN n ((i:Nat):Int)=some i:=by
 unfold ixN
 rw [if_pos (Int.natCast_nonneg i),if_pos (by lia)]
 simp
theorem MU (bs:List Bool) (i:Nat) (b:Bool):(bs.map V.bl).set i (.bl b)=(bs.set i b).map V.bl:=by
 rw [List.map_set]
theorem Fk {bs:List Bool} {i:Nat} (h:i < bs.length):atI (bs.map V.bl) ((i:Nat):Int)=some (.bl bs[i]) :=
 Dh rfl (by rw [List.getElem?_map,List.getElem?_eq_getElem h];rfl)
noncomputable def FJ (H0:Hp) (t:Addr) (m M:Nat):St->Hp->Prop:=fun σ H=>∃ (la l:Addr) (way:Int) (y:Nat) (z7 z8 z9:Option V),
 σ=[some (.ref t),some (.int m),some (.int M),some (.int way),some (.int y),some (.ref la),some (.ref l),z7,z8,z9]/\y < M/\FL H0 t M la H/\FL H0 t M l H
noncomputable def FJ2 (H0:Hp) (t:Addr) (m M:Nat):St->Hp->Prop:=fun σ H=>∃ (l:Addr) (z3 z4 z5 z7 z8 z9:Option V),
 σ=[some (.ref t),some (.int m),some (.int M),z3,z4,z5,some (.ref l),z7,z8,z9]/\FL H0 t M l H
theorem PC:FnOk P w K mg base CX0 2 T.f_z32 T.d_z32 ["_law_feed_here","_law_n_here"] DD:=by
 have G_z34:=EY (P:=P) (w:=w) (base:=base) T;have G_z39:=EW (P:=P) (w:=w) (base:=base) T
 refine T.F_z32.ok sc_z32 (fun vs H Q E h=>by unfold DD at h;split at h <;> first | rfl | exact h.elim) (fun cdv A outer s H vs Q E hr h=>?_)
 have hu:=Ab hr
 have mo1:AK BN:=Cc
 have hr_z34:=hr.mono (show 1<=_ by decide);have hr_z39:=hr.mono (show 1<=_ by decide)
 unfold DD at h
 split at h
 rotate_left
 ·exact h.elim
 rename_i t n
 obtain ⟨m,F,e1,m1,m6,q⟩:=h
 subst e1
 refine ⟨_,(@AE _ _ _ _ _ (@AI _ _ 2 _ _ _ _ sc_z32.nd rfl (by (first | exact Or.inl rfl | exact Or.inr rfl)) (AD CC AC (vv 1)) (by rfl) (by (first | exact .inl rfl | exact .inr rfl | assumption))) (@AE _ _ _ _ _ (@AI _ _ 3 _ _ _ _ sc_z32.nd rfl (by (first | exact Or.inl rfl | exact Or.inr rfl)) (AF G_z34 hr_z34 rfl T.m_z34 T.F_z34.kp T.b_z34 .nil AG (AA (vv 0) (AA AC AB))) (by rfl) (by (first | exact .inl rfl | exact .inr rfl | assumption))) (@AE _ _ _ _ _ (@AI _ _ 4 _ _ _ _ sc_z32.nd rfl (by (first | exact Or.inl rfl | exact Or.inr rfl)) (AF G_z34 hr_z34 rfl T.m_z34 T.F_z34.kp T.b_z34 .nil AG (AA (vv 0) (AA (vv 2) AB))) (by rfl) (by (first | exact .inl rfl | exact .inr rfl | assumption))) (@AE _ _ _ _ _ (@AI _ _ 5 _ _ _ _ sc_z32.nd rfl (by (first | exact Or.inl rfl | exact Or.inr rfl)) (@Aw _ _ _ _ _ _ _ (["_law_p","_law_feed_here"]) 1 [0] _ _ _ _ rfl (A9 rfl T.z_range (AA (vv 2) AB)) (by kernel_rfl) rfl rfl (by kernel_rfl) (fun c=>AN (i:=0) (show (["_law_p","_law_feed_here"]:List Str).Nodup by decide +kernel) rfl (by (first | exact Or.inl rfl | exact Or.inr rfl))) (AW (by decide)) (fun c=>Az) (fun c=>(C2 (kEq (K:=K) hu) (AF G_z34 hr_z34 rfl T.m_z34 T.F_z34.kp T.b_z34 .nil AG (AA (vv 1) (AA AC AB))) AC)) (by intro _;rfl)) (by rfl) (by (first | exact .inl rfl | exact .inr rfl | assumption))) (@AE _ _ _ _ _ (@Ay _ _ _ _ _ _ _ _ (AV (kEq (K:=K) hu) (vv 3) AC) (@AL _ _ _ (@AO _ _ _ _ (CD (E6 (K:=K)) rfl T.z_tuple (by rfl) (AA (vv 5) AB)))) Ax) (@AE _ _ _ _ _ (@Br _ _ _ _ _ _ _ (["_law_p","_law_answers","_law_some"]) 1 ([5,4]) _ _ _ _ 6 _ _ _ rfl sc_z32.nd rfl rfl (A9 rfl T.z_range (AA (vv 2) AB)) (by kernel_rfl) rfl rfl (by kernel_rfl) (fun c=>AN (i:=0) (show (["_law_p","_law_answers","_law_some"]:List Str).Nodup by decide +kernel) rfl (by (first | exact Or.inl rfl | exact Or.inr rfl))) (AW (by decide)) (fun c=>Az) (fun c=>(kIx (K:=K) (vv 1) (AD CI (vv 0) (vv 2)))) (by rfl) (by intro _;rfl)) (@AE _ _ _ _ _ (@Ay _ _ _ _ _ _ _ _ (AV (kEq (K:=K) hu) (vv 3) AC) (@AL _ _ _ (@Br _ _ _ _ _ _ _ (["_law_p","_law_answers"]) 1 [5] _ _ _ _ 6 _ _ _ rfl sc_z32.nd rfl rfl (A9 rfl T.z_range (AA (vv 2) AB)) (by kernel_rfl) rfl rfl (by kernel_rfl) (fun c=>AN (i:=0) (show (["_law_p","_law_answers"]:List Str).Nodup by decide +kernel) rfl (by (first | exact Or.inl rfl | exact Or.inr rfl))) (AW (by decide)) (fun c=>Az) (fun c=>(kIx (K:=K) (vv 1) AC)) (by rfl) (by intro _;rfl))) Ax) (@AE _ _ _ _ _ (@Ay _ _ _ _ _ _ _ _ (AV (kEq (K:=K) hu) (vv 3) AC) (@AL _ _ _ (@Br _ _ _ _ _ _ _ (["_law_p","_law_some","_law_answers"]) 1 ([4,5]) _ _ _ _ 6 _ _ _ rfl sc_z32.nd rfl rfl (A9 rfl T.z_range (AA (vv 2) AB)) (by kernel_rfl) rfl rfl (by kernel_rfl) (fun c=>AN (i:=0) (show (["_law_p","_law_some","_law_answers"]:List Str).Nodup by decide +kernel) rfl (by (first | exact Or.inl rfl | exact Or.inr rfl))) (AW (by decide)) (fun c=>Az) (fun c=>(C2 (kEq (K:=K) hu) (AD BQ (AF G_z39 hr_z39 rfl T.m_z39 T.F_z39.kp T.b_z39 .nil AG (AA (AD CI (vv 0) (vv 1)) AB)) AC) (CD KZ rfl T.z_int (by rfl) (AA (kIx (K:=K) (vv 2) AC) AB)))) (by rfl) (by intro _;rfl))) Ax) (@AE _ _ _ _ _ (@Ay _ _ _ _ _ _ _ _ (AV (kEq (K:=K) hu) (vv 3) AC) (@AE _ _ _ _ _ (@AI _ _ 7 _ _ _ _ sc_z32.nd rfl (by (first | exact Or.inl rfl | exact Or.inr rfl)) (AD (Aj (K:=K)) AC (AF G_z34 hr_z34 rfl T.m_z34 T.F_z34.kp T.b_z34 .nil AG (AA (vv 0) (AA AC AB)))) (by rfl) (by (first | exact .inl rfl | exact .inr rfl | assumption))) (@AL _ _ _ (@Br _ _ _ _ _ _ _ (["_law_p","_law_some","_law_least"]) 1 ([4,7]) _ _ _ _ 6 _ _ _ rfl sc_z32.nd rfl rfl (A9 rfl T.z_range (AA (vv 2) AB)) (by kernel_rfl) rfl rfl (by kernel_rfl) (fun c=>AN (i:=0) (show (["_law_p","_law_some","_law_least"]:List Str).Nodup by decide +kernel) rfl (by (first | exact Or.inl rfl | exact Or.inr rfl))) (AW (by decide)) (fun c=>Az) (fun c=>(C2 KG (AF G_z39 hr_z39 rfl T.m_z39 T.F_z39.kp T.b_z39 .nil AG (AA (AD CI (vv 0) (vv 1)) AB)) (vv 2))) (by rfl) (by intro _;rfl)))) Ax) (@AE _ _ _ _ _ (@Bm _ _ _ _ _ _ _ _ PassesOwn.never rfl (A9 rfl T.z_range (AA (AD AR (AF G_z34 hr_z34 rfl T.m_z34 T.F_z34.kp T.b_z34 .nil AG (AA (vv 0) (AA AC AB))) (AF G_z34 hr_z34 rfl T.m_z34 T.F_z34.kp T.b_z34 .nil AG (AA (vv 0) (AA AC AB)))) AB)) (AN (i:=8) sc_z32.nd rfl (by (first | exact Or.inl rfl | exact Or.inr rfl))) (@AE _ _ _ _ _ (@AI _ _ 9 _ _ _ _ sc_z32.nd rfl (by (first | exact Or.inl rfl | exact Or.inr rfl)) (AF G_z34 hr_z34 rfl T.m_z34 T.F_z34.kp T.b_z34 .nil AG (AA (vv 0) (AA (vv 2) AB))) (by rfl) (by (first | exact .inl rfl | exact .inr rfl | assumption))) (@AL _ _ _ (@CN _ _ _ _ _ _ (RH (kIx (K:=K) (vv 6) (vv 9))) (Cd (vv 6) (vv 9) Cb) (by rfl) (by rfl) (by rfl)))) (by intro _;rfl)) (@AL _ _ _ (@AO _ _ _ _ (CD (E6 (K:=K)) rfl T.z_tuple (by rfl) (AA (vv 6) AB)))))))))))))),?_⟩
 have e2:(1:Int) * 2 ^ ((m:Int).toNat)=((2 ^ m:Nat):Int):=by rw [Int.toNat_natCast,Int.natCast_pow,Int.one_mul];rfl
 have h64:2 ^ m<=64:=Nat.pow_le_pow_right (n:=2) (by decide) m6
 have h2:2<=2 ^ m:=Nat.pow_le_pow_right (n:=2) (i:=1) (by decide) m1
 refine ⟨⟨by lia,by lia,by decide⟩,?_⟩
 rw [e2]
 generalize hM:2 ^ m=M at *
 have hMd:okDiv (M:Int):=Al (by lia) (Int.le_trans (Int.ofNat_le.mpr h64) (by decide))
 refine ⟨F,Al (by decide) (by decide),fun way H2 w0 w1 F2 f2=>⟨F2,hMd,fun y' H3 y0 y1 F3 f3=>?_⟩⟩
 obtain ⟨y,rfl⟩:=Int.eq_ofNat_of_zero_le y0
 have hy:y < M:=by lia
 have fr3:Frm t H H3:=(Aq f2).trans (Aq f3)
 dsimp only [AQ]
 refine AT (fun σ Ha=>∃ la:Addr,σ=[some (.ref t),some (.int m),some (.int M),some (.int way),some (.int y),some (.ref la),none,none,none,none]/\FL H t M la Ha) ?_ ?_ (by (repeat' with_reducible first | exact Q5 | apply RK | apply QB | apply Mz | apply RP | apply Lo | apply MG | apply QK | exact Qg | exact MY | apply Mh | apply Of | apply Pk | apply Pf | apply Ny | apply OC | apply OY | apply M3 | apply Qz | exact Qc | exact Ph | exact QE | exact P4 | exact L7 | exact MJ | exact Lh | exact MC | exact L3 | exact Lw | apply Nl | apply Oc | apply OX | exact Qb | apply P2 | exact PZ | exact Qr | exact O3 | exact Q9 | exact Lz | apply Oy | apply Qo | apply Pp | exact As | apply CL | exact BI | exact Py | exact QF | apply Lq | apply Nm | exact NC | apply Lu | exact Qp | apply LQ | apply OD | exact NG | apply OR | exact QD | exact OI | exact Pw | exact Nk | apply PV | exact Nx | apply OS | assumption))
 ·refine ⟨(M:Int),rfl,by lia,by lia,?_⟩
  refine Ba (fun i ys H'=>Feed H' t/\Frm t H H'/\∃ bs:List Bool,ys=bs.map V.bl/\bs.length=i) ⟨F3,fr3,[],rfl,rfl⟩ (fun i ys H' hi ⟨_,_,bs,e,el⟩=>by
   rw [e];exact Ag (by rw [List.length_map];lia)) ?_ ?_
  ·rintro i ys H' hi ⟨Fi,fi,bs,rfl,rfl⟩
   refine ⟨Fi,Al (by decide) (by decide),fun d H2 _ _ F2 f2=>?_⟩
   exact ⟨F2,fi.trans (Aq f2),bs++[(false ^^ (d == 1))],by rw [List.map_append];rfl,by rw [List.length_append];rfl⟩
  ·rintro ys H' ⟨Fi,fi,bs,rfl,hb⟩ l' hl
   exact ⟨l',rfl,FL.mk' Fi fi hl (by lia)⟩
 rintro σ Ha ⟨la,rfl,La⟩
 refine ite2 (fun e=>?_) (fun e=>?_)
 ·obtain ⟨bs,hbs,hbl⟩:=La.at_
  refine ⟨_,.inl ⟨.of hbs,fun p hp=>?_⟩⟩
  exact q bs p _ hbl (La.fd.free La.fr hp) AH (La.fd.upd hp) (La.fr.trans (Frm.upd hp))
 dsimp only [E7]
 refine AT (FJ H t m M) ?_ ?_ (by (repeat' with_reducible first | exact Q5 | apply RK | apply QB | apply Mz | apply RP | apply Lo | apply MG | apply QK | exact Qg | exact MY | apply Mh | apply Of | apply Pk | apply Pf | apply Ny | apply OC | apply OY | apply M3 | apply Qz | exact Qc | exact Ph | exact QE | exact P4 | exact L7 | exact MJ | exact Lh | exact MC | exact L3 | exact Lw | apply Nl | apply Oc | apply OX | exact Qb | apply P2 | exact PZ | exact Qr | exact O3 | exact Q9 | exact Lz | apply Oy | apply Qo | apply Pp | exact As | apply CL | exact BI | exact Py | exact QF | apply Lq | apply Nm | exact NC | apply Lu | exact Qp | apply LQ | apply OD | exact NG | apply OR | exact QD | exact OI | exact Pw | exact Nk | apply PV | exact Nx | apply OS | assumption))
 ·obtain ⟨as,has,hal⟩:=La.at_
  refine ⟨(M:Int),rfl,by lia,by lia,?_⟩
  refine Ba (fun i ys H'=>H'=Ha/\∃ bs:List Bool,ys=bs.map V.bl/\bs.length=i) ⟨rfl,[],rfl,rfl⟩ (fun i ys H' hi ⟨_,bs,e,el⟩=>by
   rw [e];exact Ag (by rw [List.length_map];lia)) ?_ ?_
  ·rintro i ys H' hi ⟨rfl,bs,rfl,rfl⟩
   have hlt:bs.length &&& y < as.length:=by
    have:=Nat.and_le_right (n:=bs.length) (m:=y)
    lia
   have e0:Builtin.bitAnd ((0:Int)+(bs.length:Int)) (y:Int)=((bs.length &&& y:Nat):Int):=by rw [Int.zero_add,CZ]
   refine ⟨_,.bl as[bs.length &&& y],.inl (.of has),?_,rfl,bs++[as[bs.length &&& y]],by rw [List.map_append];rfl,by rw [List.length_append];rfl⟩
   rw [e0];exact Fk hlt
  ·rintro ys H' ⟨rfl,bs,rfl,hb⟩ l' hl
   exact ⟨la,l',way,y,none,none,none,rfl,hy,La.same (Same.upd hl),FL.mk' La.fd La.fr hl (by lia)⟩
 clear La
 rintro σ Ha ⟨la,l,way,y,z7,z8,z9,rfl,hy,La,L⟩
 refine AT (FJ H t m M) ?_ ?_ (by (repeat' with_reducible first | exact Q5 | apply RK | apply QB | apply Mz | apply RP | apply Lo | apply MG | apply QK | exact Qg | exact MY | apply Mh | apply Of | apply Pk | apply Pf | apply Ny | apply OC | apply OY | apply M3 | apply Qz | exact Qc | exact Ph | exact QE | exact P4 | exact L7 | exact MJ | exact Lh | exact MC | exact L3 | exact Lw | apply Nl | apply Oc | apply OX | exact Qb | apply P2 | exact PZ | exact Qr | exact O3 | exact Q9 | exact Lz | apply Oy | apply Qo | apply Pp | exact As | apply CL | exact BI | exact Py | exact QF | apply Lq | apply Nm | exact NC | apply Lu | exact Qp | apply LQ | apply OD | exact NG | apply OR | exact QD | exact OI | exact Pw | exact Nk | apply PV | exact Nx | apply OS | assumption))
 ·refine ite2 (fun e=>?_) (fun e=>⟨la,l,way,y,z7,z8,z9,rfl,hy,La,L⟩)
  obtain ⟨as,has,hal⟩:=La.at_
  have h0:0 < as.length:=by lia
  refine ⟨(M:Int),rfl,by lia,by lia,?_⟩
  refine Ba (fun i ys H'=>H'=Ha/\∃ bs:List Bool,ys=bs.map V.bl/\bs.length=i) ⟨rfl,[],rfl,rfl⟩ (fun i ys H' hi ⟨_,bs,e,el⟩=>by
   rw [e];exact Ag (by rw [List.length_map];lia)) ?_ ?_
  ·rintro i ys H' hi ⟨rfl,bs,rfl,rfl⟩
   exact ⟨_,.bl as[0],.inl (.of has),Fk (i:=0) h0,rfl,bs++[as[0]],by rw [List.map_append];rfl,by rw [List.length_append];rfl⟩
  ·rintro ys H' ⟨rfl,bs,rfl,hb⟩ l' hl
   exact ⟨la,l',way,y,z7,z8,z9,rfl,hy,La.same (Same.upd hl),FL.mk' La.fd La.fr hl (by lia)⟩
 clear La L
 rintro σ Ha ⟨la,l,way,y,z7,z8,z9,rfl,hy,La,L⟩
 refine AT (FJ H t m M) ?_ ?_ (by (repeat' with_reducible first | exact Q5 | apply RK | apply QB | apply Mz | apply RP | apply Lo | apply MG | apply QK | exact Qg | exact MY | apply Mh | apply Of | apply Pk | apply Pf | apply Ny | apply OC | apply OY | apply M3 | apply Qz | exact Qc | exact Ph | exact QE | exact P4 | exact L7 | exact MJ | exact Lh | exact MC | exact L3 | exact Lw | apply Nl | apply Oc | apply OX | exact Qb | apply P2 | exact PZ | exact Qr | exact O3 | exact Q9 | exact Lz | apply Oy | apply Qo | apply Pp | exact As | apply CL | exact BI | exact Py | exact QF | apply Lq | apply Nm | exact NC | apply Lu | exact Qp | apply LQ | apply OD | exact NG | apply OR | exact QD | exact OI | exact Pw | exact Nk | apply PV | exact Nx | apply OS | assumption))
 ·refine ite2 (fun e=>?_) (fun e=>⟨la,l,way,y,z7,z8,z9,rfl,hy,La,L⟩)
  obtain ⟨as,has,hal⟩:=La.at_
  have h0:0 < as.length:=by lia
  refine ⟨(M:Int),rfl,by lia,by lia,?_⟩
  refine Ba (fun i ys H'=>H'=Ha/\∃ bs:List Bool,ys=bs.map V.bl/\bs.length=i) ⟨rfl,[],rfl,rfl⟩ (fun i ys H' hi ⟨_,bs,e,el⟩=>by
   rw [e];exact Ag (by rw [List.length_map];lia)) ?_ ?_
  ·rintro i ys H' hi ⟨rfl,bs,rfl,rfl⟩
   have e0:Builtin.bitAnd ((0:Int)+(bs.length:Int)) (y:Int)=((bs.length &&& y:Nat):Int):=by rw [Int.zero_add,CZ]
   have hlt:bs.length &&& y < 2 ^ 64:=by
    have:=Nat.and_le_right (n:=bs.length) (m:=y)
    lia
   refine ⟨bs.length &&& y,e0,hlt,by decide,_,.bl as[0],.inl (.of has),Fk (i:=0) h0,?_⟩
   exact ⟨rfl,bs++[_],by rw [List.map_append];rfl,by rw [List.length_append];rfl⟩
  ·rintro ys H' ⟨rfl,bs,rfl,hb⟩ l' hl
   exact ⟨la,l',way,y,z7,z8,z9,rfl,hy,La.same (Same.upd hl),FL.mk' La.fd La.fr hl (by lia)⟩
 clear La L
 rintro σ Ha ⟨la,l,way,y,z7,z8,z9,rfl,hy,La,L⟩
 refine AT (FJ H t m M) ?_ ?_ (by (repeat' with_reducible first | exact Q5 | apply RK | apply QB | apply Mz | apply RP | apply Lo | apply MG | apply QK | exact Qg | exact MY | apply Mh | apply Of | apply Pk | apply Pf | apply Ny | apply OC | apply OY | apply M3 | apply Qz | exact Qc | exact Ph | exact QE | exact P4 | exact L7 | exact MJ | exact Lh | exact MC | exact L3 | exact Lw | apply Nl | apply Oc | apply OX | exact Qb | apply P2 | exact PZ | exact Qr | exact O3 | exact Q9 | exact Lz | apply Oy | apply Qo | apply Pp | exact As | apply CL | exact BI | exact Py | exact QF | apply Lq | apply Nm | exact NC | apply Lu | exact Qp | apply LQ | apply OD | exact NG | apply OR | exact QD | exact OI | exact Pw | exact Nk | apply PV | exact Nx | apply OS | assumption))
 ·refine ite2 (fun e=>?_) (fun e=>⟨la,l,way,y,z7,z8,z9,rfl,hy,La,L⟩)
  refine ⟨L.fd,Al (by decide) (by decide),fun d Hb d0 d1 Fb fb=>?_⟩
  have La:=La.draw F Fb fb
  have L:=L.draw F Fb fb
  refine ⟨(M:Int),rfl,by lia,by lia,?_⟩
  refine Ba (fun i ys H'=>H'=Hb/\∃ bs:List Bool,ys=bs.map V.bl/\bs.length=i) ⟨rfl,[],rfl,rfl⟩ (fun i ys H' hi ⟨_,bs,e,el⟩=>by
   rw [e];exact Ag (by rw [List.length_map];lia)) ?_ ?_
  ·rintro i ys H' hi ⟨rfl,bs,rfl,rfl⟩
   have e0:Builtin.bitAnd ((0:Int)+(bs.length:Int)) (y:Int)=((bs.length &&& y:Nat):Int):=by rw [Int.zero_add,CZ]
   have hlt:bs.length &&& y < 2 ^ 64:=by
    have:=Nat.and_le_right (n:=bs.length) (m:=y)
    lia
   refine ⟨bs.length &&& y,e0,hlt,?_⟩
   exact ⟨rfl,bs++[_],by rw [List.map_append];rfl,by rw [List.length_append];rfl⟩
  ·rintro ys H' ⟨rfl,bs,rfl,hb⟩ l' hl
   exact ⟨la,l',way,y,some (.int (1+d)),z8,z9,rfl,hy,La.same (Same.upd hl),FL.mk' La.fd La.fr hl (by lia)⟩
 clear La L
 rintro σ Ha ⟨la,l,way,y,z7,z8,z9,rfl,hy,La,L⟩
 refine AT (FJ2 H t m M) ?_ ?_ (by (repeat' with_reducible first | exact Q5 | apply RK | apply QB | apply Mz | apply RP | apply Lo | apply MG | apply QK | exact Qg | exact MY | apply Mh | apply Of | apply Pk | apply Pf | apply Ny | apply OC | apply OY | apply M3 | apply Qz | exact Qc | exact Ph | exact QE | exact P4 | exact L7 | exact MJ | exact Lh | exact MC | exact L3 | exact Lw | apply Nl | apply Oc | apply OX | exact Qb | apply P2 | exact PZ | exact Qr | exact O3 | exact Q9 | exact Lz | apply Oy | apply Qo | apply Pp | exact As | apply CL | exact BI | exact Py | exact QF | apply Lq | apply Nm | exact NC | apply Lu | exact Qp | apply LQ | apply OD | exact NG | apply OR | exact QD | exact OI | exact Pw | exact Nk | apply PV | exact Nx | apply OS | assumption))
 ·refine ⟨L.fd,Al (by decide) (by decide),fun d Hb d0 d1 Fb fb=>⟨Fb,Al (by decide) (by decide),fun d' Hc d0' d1' Fc fc=>?_⟩⟩
  have Lc:=(L.draw F Fb fb).draw F Fc fc
  obtain ⟨N,hN,hN2⟩:∃ N:Nat,d * d'=(N:Int)/\N<=3:=by
   have:d=0\/d=1:=by lia
   rcases this with rfl | rfl
   ·exact ⟨0,by rw [Int.zero_mul];rfl,by lia⟩
   ·exact ⟨d'.toNat,by rw [Int.one_mul];lia,by lia⟩
  refine ⟨.inr (.inl ⟨by lia,by lia⟩),(N:Int),congrArg (fun z=>[V.int z]) hN,by lia,by lia,?_⟩
  refine EA (fun _=>FJ2 H t m M) ⟨l,_,_,_,z7,z8,z9,rfl,Lc⟩ ?_ (fun σ H' h=>h)
  rintro i σ Hc hi ⟨l,z3,z4,z5,z7,z8,z9,rfl,Lc⟩
  refine ⟨Lc.fd,hMd,fun k' Hd k0 k1 Fd fd=>?_⟩
  obtain ⟨k,rfl⟩:=Int.eq_ofNat_of_zero_le k0
  have Ld:=Lc.draw F Fd fd
  obtain ⟨bs,hbs,hbl⟩:=Ld.at_
  have hk:k < bs.length:=by lia
  refine ⟨_,.bl bs[k],.inl (.of hbs),Fk hk,_,k,hbs,DL (by rw [List.length_map];lia),?_⟩
  rw [MU]
  exact ⟨l,z3,z4,z5,z7,some (.int (0+(i:Int))),some (.int k),rfl,Ld.put F (by rw [List.length_set];exact hbl)⟩
 clear La L
 rintro σ Ha ⟨l,z3,z4,z5,z7,z8,z9,rfl,L⟩
 obtain ⟨bs,hbs,hbl⟩:=L.at_
 refine ⟨_,.inl ⟨.of hbs,fun p hp=>?_⟩⟩
 exact q bs p _ hbl (L.fd.free L.fr hp) AH (L.fd.upd hp) (L.fr.trans (Frm.upd hp))
theorem KP:FnOk P w K mg base CX0 1 T.f_z42 T.d_z42 ["_law_table_here"] (Cr K):=by
 refine T.F_z42.ok sc_z42 (fun vs H Q E h=>by unfold Cr at h;split at h <;> first | rfl | exact h.elim) (fun cdv A outer s H vs Q E hr h=>?_)
 have hu:=Ab hr
 unfold Cr at h
 split at h
 rotate_left
 ·exact h.elim
 rename_i p
 obtain ⟨m,bs,m1,m6,hb,hp,q⟩:=h
 refine ⟨_,(@AE _ _ _ _ _ (@AI _ _ 1 _ _ _ _ sc_z42.nd rfl (by (first | exact Or.inl rfl | exact Or.inr rfl)) (@Aw _ _ _ _ _ _ _ ["_law_answer"] 1 [] _ _ _ _ rfl (Ap (K:=K) (vv 0)) (by kernel_rfl) rfl rfl (by kernel_rfl) (fun c=>AN (i:=0) (show (["_law_answer"]:List Str).Nodup by decide +kernel) rfl (by (first | exact Or.inl rfl | exact Or.inr rfl))) (AW (by decide)) (fun c=>Az) (fun c=>(AD BW AC (AD AR AC (CD KZ rfl T.z_int (by rfl) (AA (vv 0) AB))))) (by intro _;rfl)) (by rfl) (by (first | exact .inl rfl | exact .inr rfl | assumption))) (@AE _ _ _ _ _ (@AI _ _ 2 _ _ _ _ sc_z42.nd rfl (by (first | exact Or.inl rfl | exact Or.inr rfl)) AC (by rfl) (by (first | exact .inl rfl | exact .inr rfl | assumption))) (@AE _ _ _ _ _ (@EN _ _ _ _ _ _ PassesOwn.never (AV Ef (vv 2) (Aa (Bu (K:=K)) rfl T.z_len (by rfl) (AA (vv 0) AB))) (@AE _ _ _ _ _ (@Bm _ _ _ _ _ _ _ _ PassesOwn.never rfl (A9 rfl T.z_range (AA (Aa (Bu (K:=K)) rfl T.z_len (by rfl) (AA (vv 0) AB)) AB)) (AN (i:=3) sc_z42.nd rfl (by (first | exact Or.inl rfl | exact Or.inr rfl))) (@AL _ _ _ (@Ay _ _ _ _ _ _ _ _ (AV (kEq (K:=K) hu) (AD BQ (AD CB (vv 3) (vv 2)) AC) AC) (@AE _ _ _ _ _ (@AI _ _ 4 _ _ _ _ sc_z42.nd rfl (by (first | exact Or.inl rfl | exact Or.inr rfl)) (kIx (K:=K) (vv 1) (vv 3)) (by rfl) (by (first | exact .inl rfl | exact .inr rfl | assumption))) (@AE _ _ _ _ _ (@AI _ _ 5 _ _ _ _ sc_z42.nd rfl (by (first | exact Or.inl rfl | exact Or.inr rfl)) (kIx (K:=K) (vv 1) (AD (Aj (K:=K)) (vv 3) (vv 2))) (by rfl) (by (first | exact .inl rfl | exact .inr rfl | assumption))) (@AE _ _ _ _ _ (@CN _ _ _ _ _ _ (AD (Aj (K:=K)) (vv 4) (vv 5)) (Cd (vv 1) (vv 3) Cb) (by rfl) (by rfl) (by rfl)) (@AL _ _ _ (@CN _ _ _ _ _ _ (AD BW (vv 4) (vv 5)) (Cd (vv 1) (AD (Aj (K:=K)) (vv 3) (vv 2)) Cb) (by rfl) (by rfl) (by rfl)))))) Ax)) (by intro _;rfl)) (@AL _ _ _ (@AI _ _ 2 _ _ _ _ sc_z42.nd rfl (by (first | exact Or.inl rfl | exact Or.inr rfl)) (AD AR AC (vv 2)) (by rfl) (by (first | exact .inl rfl | exact .inr rfl | assumption)))))) (@AE _ _ _ _ _ (@Br _ _ _ _ _ _ _ (["_law_some","_law_weights"]) 1 [1] _ _ _ _ 6 _ _ _ rfl sc_z42.nd rfl rfl (A9 rfl T.z_range (AA (Aa (Bu (K:=K)) rfl T.z_len (by rfl) (AA (vv 1) AB)) AB)) (by kernel_rfl) rfl rfl (by kernel_rfl) (fun c=>AN (i:=0) (show (["_law_some","_law_weights"]:List Str).Nodup by decide +kernel) rfl (by (first | exact Or.inl rfl | exact Or.inr rfl))) (AW (by decide)) (fun c=>Bi (AV (kNe (K:=K) hu) (kIx (K:=K) (vv 1) (vv 0)) AC)) (fun c=>(BD (AA (vv 0) (AA (kIx (K:=K) (vv 1) (vv 0)) AB)))) (by rfl) (by intro _;rfl)) (@AL _ _ _ (@AO _ _ _ _ (BD (AA (AD BW (Iy (K:=K) (Aa (Bu (K:=K)) rfl T.z_len (by rfl) (AA (vv 0) AB))) AC) (AA (CD (E6 (K:=K)) rfl T.z_tuple (by rfl) (AA (vv 6) AB)) AB))))))))),?_⟩
 have h64:2 ^ m<=64:=Nat.pow_le_pow_right (n:=2) (by decide) m6
 have hin:=Ql m (by lia)
 have hpow:∀ s,s < m->2 ^ s < 2 ^ m:=fun s hs=>Nat.pow_lt_pow_right (by decide) hs
 have hpos:∀ s:Nat,0 < 2 ^ s:=fun s=>Nat.two_pow_pos s
 have hbits:=Kz m (by lia)
 have ew:∀ k,k < 2 ^ m->Bc (AM bs) m k=wt m (AM bs) k:=fun k hk=>M4 hk
 generalize hM:2 ^ m=M at *
 refine AT (fun σ H'=>∃ l:Addr,σ=[some (.ref p),some (.ref l),none,none,none,none,none]/\Same H H'/\H l=none/\H' l=some (.lst (ixL (Bc (AM bs) 0) M))) ?_ ?_ (by (repeat' with_reducible first | exact Q5 | apply RK | apply QB | apply Mz | apply RP | apply Lo | apply MG | apply QK | exact Qg | exact MY | apply Mh | apply Of | apply Pk | apply Pf | apply Ny | apply OC | apply OY | apply M3 | apply Qz | exact Qc | exact Ph | exact QE | exact P4 | exact L7 | exact MJ | exact Lh | exact MC | exact L3 | exact Lw | apply Nl | apply Oc | apply OX | exact Qb | apply P2 | exact PZ | exact Qr | exact O3 | exact Q9 | exact Lz | apply Oy | apply Qo | apply Pp | exact As | apply CL | exact BI | exact Py | exact QF | apply Lq | apply Nm | exact NC | apply Lu | exact Qp | apply LQ | apply OD | exact NG | apply OR | exact QD | exact OI | exact Pw | exact Nk | apply PV | exact Nx | apply OS | assumption))
 ·refine .inr ⟨⟨_,hp⟩,?_⟩
  refine Bv (xs:=bs.map V.bl) (fun i ys H'=>H'=H/\ys=ixL (AM bs) i) ⟨rfl,rfl⟩ (fun i ys H' _ ⟨e,_⟩=>by rw [e];exact hp) (fun i ys H' hi ⟨_,e⟩=>by
   rw [List.length_map] at hi
   rw [e,ixL_len];exact Ag (by lia)) ?_ ?_
  ·rintro i x ys H' hx ⟨rfl,rfl⟩
   have hi:i < bs.length:=by
    have:=(List.getElem?_eq_some_iff.mp hx).1
    rwa [List.length_map] at this
   have ex:x=.bl bs[i]:=by
    rw [List.getElem?_map,List.getElem?_eq_getElem hi] at hx
    exact (Option.some.inj hx).symm
   subst ex
   refine ⟨.inr (.inl ⟨by decide,by decide⟩),rfl,?_⟩
   rw [Es,Lk hi]
   unfold Dd
   cases bs[i] <;> rfl
  ·rintro ys H' ⟨rfl,rfl⟩ l hl
   rw [List.length_map,hb]
   exact ⟨l,rfl,Same.upd hl,hl,AH⟩
 rintro σ H1 ⟨l,rfl,s1,hl,g1⟩
 refine AT (fun σ H'=>σ=[some (.ref p),some (.ref l),some (.int (2 ^ 0:Nat)),none,none,none,none]/\H1=H') ⟨rfl,rfl⟩ ?_ (by (repeat' with_reducible first | exact Q5 | apply RK | apply QB | apply Mz | apply RP | apply Lo | apply MG | apply QK | exact Qg | exact MY | apply Mh | apply Of | apply Pk | apply Pf | apply Ny | apply OC | apply OY | apply M3 | apply Qz | exact Qc | exact Ph | exact QE | exact P4 | exact L7 | exact MJ | exact Lh | exact MC | exact L3 | exact Lw | apply Nl | apply Oc | apply OX | exact Qb | apply P2 | exact PZ | exact Qr | exact O3 | exact Q9 | exact Lz | apply Oy | apply Qo | apply Pp | exact As | apply CL | exact BI | exact Py | exact QF | apply Lq | apply Nm | exact NC | apply Lu | exact Qp | apply LQ | apply OD | exact NG | apply OR | exact QD | exact OI | exact Pw | exact Nk | apply PV | exact Nx | apply OS | assumption))
 rintro σ _ ⟨rfl,rfl⟩
 refine AT (fun σ H'=>∃ z2 z3 z4 z5:Option V,σ=[some (.ref p),some (.ref l),z2,z3,z4,z5,none]/\Same H H'/\H' l=some (.lst (ixL (Bc (AM bs) m) M))) ?_ ?_ (by (repeat' with_reducible first | exact Q5 | apply RK | apply QB | apply Mz | apply RP | apply Lo | apply MG | apply QK | exact Qg | exact MY | apply Mh | apply Of | apply Pk | apply Pf | apply Ny | apply OC | apply OY | apply M3 | apply Qz | exact Qc | exact Ph | exact QE | exact P4 | exact L7 | exact MJ | exact Lh | exact MC | exact L3 | exact Lw | apply Nl | apply Oc | apply OX | exact Qb | apply P2 | exact PZ | exact Qr | exact O3 | exact Q9 | exact Lz | apply Oy | apply Qo | apply Pp | exact As | apply CL | exact BI | exact Py | exact QF | apply Lq | apply Nm | exact NC | apply Lu | exact Qp | apply LQ | apply OD | exact NG | apply OR | exact QD | exact OI | exact Pw | exact Nk | apply PV | exact Nx | apply OS | assumption))
 ·refine ⟨fun f σ H'=>∃ (s:Nat) (z3 z4 z5:Option V),s<=m/\f=m - s/\σ=[some (.ref p),some (.ref l),some (.int (2 ^ s:Nat)),z3,z4,z5,none]/\Same H H'/\H' l=some (.lst (ixL (Bc (AM bs) s) M)),⟨m,0,none,none,none,Nat.zero_le _,rfl,rfl,s1,g1⟩,?_⟩
  clear g1 s1
  rintro f σ H1 ⟨s,z3,z4,z5,hs,rfl,rfl,s1,g1⟩
  refine ⟨M,.inr ⟨_,s1.sqT hp,by rw [List.length_map,hb]⟩,?_⟩
  refine ite2 (fun e=>?_) (fun e=>?_)
  ·have hlt:2 ^ s < M:=by have:((2 ^ s:Nat):Int) < (M:Int):=of_decide_eq_true e;lia
   have hsm:s < m:=by
    rcases Nat.lt_or_ge s m with z | z
    ·exact z
    ·have:s=m:=by lia
     subst this;lia
   have hin:=hin s hsm
   have hps:=hpos s
   have e2:((2 ^ (s+1):Nat):Int)=2 * ((2 ^ s:Nat):Int):=by rw [Nat.pow_succ,Nat.mul_comm,Int.natCast_mul];rfl
   have ehad:Bc (AM bs) (s+1)=B7 (Bc (AM bs) s) (2 ^ s):=rfl
   generalize Bc (AM bs) s=g at *
   generalize 2 ^ s=st at *
   refine AT (fun σ H'=>∃ z3 z4 z5:Option V,σ=[some (.ref p),some (.ref l),some (.int (st:Nat)),z3,z4,z5,none]/\Same H H'/\H' l=some (.lst (ixL (B7 g st) M))) ?_ ?_ (by (repeat' with_reducible first | exact Q5 | apply RK | apply QB | apply Mz | apply RP | apply Lo | apply MG | apply QK | exact Qg | exact MY | apply Mh | apply Of | apply Pk | apply Pf | apply Ny | apply OC | apply OY | apply M3 | apply Qz | exact Qc | exact Ph | exact QE | exact P4 | exact L7 | exact MJ | exact Lh | exact MC | exact L3 | exact Lw | apply Nl | apply Oc | apply OX | exact Qb | apply P2 | exact PZ | exact Qr | exact O3 | exact Q9 | exact Lz | apply Oy | apply Qo | apply Pp | exact As | apply CL | exact BI | exact Py | exact QF | apply Lq | apply Nm | exact NC | apply Lu | exact Qp | apply LQ | apply OD | exact NG | apply OR | exact QD | exact OI | exact Pw | exact Nk | apply PV | exact Nx | apply OS | assumption))
   ·refine ⟨M,.inr ⟨_,s1.sqT hp,by rw [List.length_map,hb]⟩,(M:Int),rfl,by lia,by lia,?_⟩
    refine EA (fun i σ H'=>∃ z3 z4 z5:Option V,σ=[some (.ref p),some (.ref l),some (.int (st:Nat)),z3,z4,z5,none]/\Same H H'/\H' l=some (.lst (ixL (BL g st i) M))) ⟨z3,z4,z5,rfl,s1,by rw [g1,Ci fun k _=>(QU g st k).symm]⟩ ?_ ?_
    ·rintro i σ H2 hi ⟨z3,z4,z5,rfl,s2,g2⟩
     have hi':i < M:=by lia
     rw [show (0:Int)+(i:Int)=(i:Int) from Int.zero_add _]
     dsimp only [AQ]
     refine ⟨Al (by lia) (Int.le_trans (Int.ofNat_le.mpr (show st<=64 by lia)) (by decide)),by decide,?_⟩
     have ed:((i:Int) / (st:Int) % 2 == 0)=decide (i / st % 2=0):=by
      rw [<- Int.natCast_ediv]
      generalize i / st=d
      rw [Bool.eq_iff_iff]
      simp only [beq_iff_eq,decide_eq_true_eq]
      lia
     refine ite2 (fun e=>?_) (fun e=>?_)
     ·have e':i / st % 2=0:=by
       have:((i:Int) / (st:Int) % 2 == 0)=true:=by simpa using e
       rw [ed] at this
       exact of_decide_eq_true this
      have hj:i+st < M:=hin i hi' (by lia)
      obtain ⟨o1,o2⟩:=NP (f:=g) hps e'
      have c1:(i:Int)+(st:Int)=((i+st:Nat):Int):=by lia
      refine ⟨_,_,.inl (.of g2),B5 hi',_,.int (BL g st i (i+st)),.inl (.of g2),by rw [c1];exact B5 hj,?_⟩
      dsimp only [AQ]
      rw [o1,o2]
      refine ⟨_,i,g2,by rw [ixL_len];exact DL hi',?_⟩
      refine ⟨_,i+st,AH,by rw [c1,List.length_set,ixL_len];exact DL hj,?_⟩
      refine ⟨some (.int i),some (.int (g i)),some (.int (g (i+st))),rfl,E5 (E5 s2 hl) hl,?_⟩
      rw [AH,Ev,Ev]
      congr 2
      exact Ci fun k hk=>(Ox hps e' k).symm
     ·have e':¬ i / st % 2=0:=fun z=>by
       rw [<- decide_eq_true_iff (p:=i / st % 2=0),<- ed] at z
       exact e (by simpa using z)
      refine ⟨some (.int i),z4,z5,rfl,s2,?_⟩
      rw [g2,Ci fun k _=>(My hps e' k).symm]
    ·rintro σ H2 ⟨z3,z4,z5,rfl,s2,g2⟩
     refine ⟨z3,z4,z5,rfl,s2,?_⟩
     rw [g2,Int.toNat_natCast,Ci fun k hk=>Nh hk]
   clear g1 s1
   rintro σ H1 ⟨z3,z4,z5,rfl,s1,g1⟩
   refine ⟨.inr (.inl ⟨by decide,by decide⟩),m - (s+1),by lia,s+1,z3,z4,z5,hsm,rfl,?_,s1,?_⟩
   ·rw [e2];rfl
   ·rw [ehad];exact g1
  ·have hsm:s=m:=by
    rcases Nat.lt_or_ge s m with z | z
    ·have:=hpow s z
     exact (e (decide_eq_true (by lia))).elim
    ·lia
   subst hsm
   exact ⟨_,z3,z4,z5,rfl,s1,g1⟩
 clear g1 s1
 rintro σ H1 ⟨z2,z3,z4,z5,rfl,s1,g1⟩
 rw [Ci ew] at g1
 generalize wt m (AM bs)=g at *
 refine AT (fun σ H'=>∃ (t:Addr) (zs:List V),σ=[some (.ref p),some (.ref l),z2,z3,z4,z5,some (.ref t)]/\Same H H'/\H' t=some (.lst zs)/\Reps K H' ((Ah g M).map A8) zs) ?_ ?_ (by (repeat' with_reducible first | exact Q5 | apply RK | apply QB | apply Mz | apply RP | apply Lo | apply MG | apply QK | exact Qg | exact MY | apply Mh | apply Of | apply Pk | apply Pf | apply Ny | apply OC | apply OY | apply M3 | apply Qz | exact Qc | exact Ph | exact QE | exact P4 | exact L7 | exact MJ | exact Lh | exact MC | exact L3 | exact Lw | apply Nl | apply Oc | apply OX | exact Qb | apply P2 | exact PZ | exact Qr | exact O3 | exact Q9 | exact Lz | apply Oy | apply Qo | apply Pp | exact As | apply CL | exact BI | exact Py | exact QF | apply Lq | apply Nm | exact NC | apply Lu | exact Qp | apply LQ | apply OD | exact NG | apply OR | exact QD | exact OI | exact Pw | exact Nk | apply PV | exact Nx | apply OS | assumption))
 ·refine ⟨M,.inl ⟨_,.of g1,ixL_len.symm⟩,(M:Int),rfl,by lia,by lia,?_⟩
  refine Ba (fun i zs H'=>Same H1 H'/\Reps K H' ((Ah g i).map A8) zs/\zs.length<=i) ⟨Same.refl _,At,Nat.le_refl _⟩ (fun i zs H' hi ⟨_,_,e⟩=>Ag (by lia)) ?_ ?_
  ·rintro i zs H2 hi ⟨s2,r2,l2⟩
   have hi':i < M:=by lia
   rw [show (0:Int)+(i:Int)=(i:Int) from Int.zero_add _]
   have et:Ah g (i+1)=Ah g i++(if g i=0 then [] else [(i,g i)]):=rfl
   rw [et]
   have gi:SqL K H2 l (ixL g M):=s2.sqL (.of g1)
   refine ⟨_,_,.inl gi,B5 hi',?_⟩
   refine ite2 (fun e=>?_) (fun e=>?_)
   ·have w0:¬ g i=0:=by simpa using e
    rw [if_neg w0,List.map_append]
    refine ⟨_,_,.inl gi,B5 hi',Ac (show 2<=1000 by decide),fun k hk=>⟨s2.trans (Same.upd hk),?_,by rw [List.length_append];exact Nat.succ_le_succ l2⟩⟩
    exact Reps.append (Reps.same (Same.upd hk) _ _ r2) (Ae (BJ (xs:=[.int i,.int (g i)]) AH (Ae BK (Ae BK At))) At)
   ·have w0:g i=0:=by simpa using e
    rw [if_pos w0,List.append_nil]
    exact ⟨s2,r2,Nat.le_succ_of_le l2⟩
  ·rintro zs H2 ⟨s2,r2,l2⟩ t ht
   rw [Int.toNat_natCast] at r2
   exact ⟨t,zs,rfl,s1.trans (s2.trans (Same.upd ht)),AH,Reps.same (Same.upd ht) _ _ r2⟩
 clear g1 s1
 rintro σ H1 ⟨t,zs,rfl,s1,g1,r1⟩
 refine ⟨M,.inr ⟨_,s1.sqT hp,by rw [List.length_map,hb]⟩,rfl,?_⟩
 dsimp only [Dq,tC,C4]
 rw [hbits]
 have:((m+1:Nat):Int) - 1=(m:Int):=by lia
 rw [this]
 refine ⟨_,.inl ⟨.of g1,fun k hk=>⟨Ac (show 2<=1000 by decide),fun k2 hk2=>?_⟩⟩⟩
 have S:=(Same.upd (o:=.tup zs) hk).trans (Same.upd (o:=.tup [.int m,.ref k]) hk2)
 refine q _ _ (s1.trans S) (.of (BJ AH (Ae BK (Ae (BJ ?_ (Reps.same S _ _ r1)) At))))
 exact Same.upd hk2 _ _ AH
theorem OM:FnOk P w K mg base CX0 1 T.f_z18 T.d_z18 ["one","other"] Dg:=by
 refine T.F_z18.ok sc_z18 (fun vs H Q E h=>by unfold Dg at h;split at h <;> first | rfl | exact h.elim) (fun cdv A outer s H vs Q E hr h=>?_)
 have hu:=Ab hr
 unfold Dg at h
 split at h
 rotate_left
 ·exact h.elim
 rename_i a b
 obtain ⟨h1,h2,k⟩:=h
 refine ⟨_,(@AE _ _ _ _ _ (@AI _ _ 2 _ _ _ _ sc_z18.nd rfl (by (first | exact Or.inl rfl | exact Or.inr rfl)) (vv 0) (by rfl) (by (first | exact .inl rfl | exact .inr rfl | assumption))) (@AE _ _ _ _ _ (@AI _ _ 3 _ _ _ _ sc_z18.nd rfl (by (first | exact Or.inl rfl | exact Or.inr rfl)) (vv 1) (by rfl) (by (first | exact .inl rfl | exact .inr rfl | assumption))) (@AE _ _ _ _ _ (@EN _ _ _ _ _ _ PassesOwn.never (AV Ct (vv 3) AC) (@AE _ _ _ _ _ (@AI _ _ 4 _ _ _ _ sc_z18.nd rfl (by (first | exact Or.inl rfl | exact Or.inr rfl)) (AD BQ (vv 2) (vv 3)) (by rfl) (by (first | exact .inl rfl | exact .inr rfl | assumption))) (@AE _ _ _ _ _ (@AI _ _ 2 _ _ _ _ sc_z18.nd rfl (by (first | exact Or.inl rfl | exact Or.inr rfl)) (vv 3) (by rfl) (by (first | exact .inl rfl | exact .inr rfl | assumption))) (@AL _ _ _ (@AI _ _ 3 _ _ _ _ sc_z18.nd rfl (by (first | exact Or.inl rfl | exact Or.inr rfl)) (vv 4) (by rfl) (by (first | exact .inl rfl | exact .inr rfl | assumption))))))) (@AL _ _ _ (@AO _ _ _ _ (vv 2)))))),?_⟩
 refine ⟨fun m σ H'=>∃ (x y:Int) (z:Option V),σ=[some (.int a),some (.int b),some (.int x),some (.int y),z]/\H'=H/\0<=x/\0<=y/\Int.gcd x y=Int.gcd a b/\m=y.toNat,⟨_,a,b,none,rfl,rfl,h1,h2,rfl,rfl⟩,?_⟩
 rintro m σ H' ⟨x,y,z,rfl,rfl,hx,hy,hg,rfl⟩
 show if decide (0 < y)=true then _ else _
 refine ite2 (fun h=>?_) (fun h=>?_)
 ·have hy0:0 < y:=of_decide_eq_true h
  refine ⟨hy0,?_⟩
  have h3:=Int.emod_nonneg x (show y≠0 by lia)
  have h4:=Int.emod_lt_of_pos x hy0
  refine ⟨(x % y).toNat,by lia,y,x % y,_,rfl,rfl,hy,h3,?_,rfl⟩
  rw [<- hg,Int.gcd_comm x y]
  exact Ke hx hy
 ·have hy0:y=0:=by
   have:¬ 0 < y:=fun z=>h (decide_eq_true z)
   lia
  subst hy0
  show Q (.int x) H'
  rw [Int.gcd_zero_right] at hg
  have e:x=((a.gcd b:Nat):Int):=by rw [<- hg];lia
  rw [e]
  exact k
theorem JE:FnOk P w K mg base CX0 2 T.f_z41 T.d_z41 ["top","bottom"] Bk:=by
 have G_z18:=OM (P:=P) (w:=w) (base:=base) T
 refine T.F_z41.ok sc_z41 (fun vs H Q E h=>by unfold Bk at h;split at h <;> first | rfl | exact h.elim) (fun cdv A outer s H vs Q E hr h=>?_)
 have hu:=Ab hr
 have hr_z18:=hr.mono (show 1<=_ by decide)
 have mo1:AK Dg:=LZ
 unfold Bk at h
 split at h
 rotate_left
 ·exact h.elim
 rename_i a b
 obtain ⟨hb,sa,sb,k⟩:=h
 refine ⟨_,(@AE _ _ _ _ _ (@AI _ _ 2 _ _ _ _ sc_z41.nd rfl (by (first | exact Or.inl rfl | exact Or.inr rfl)) (AF G_z18 hr_z18 rfl T.m_z18 T.F_z18.kp T.b_z18 .nil AG (AA (Aa HR rfl T.z_abs (by rfl) (AA (vv 0) AB)) (AA (Aa HR rfl T.z_abs (by rfl) (AA (vv 1) AB)) AB))) (by rfl) (by (first | exact .inl rfl | exact .inr rfl | assumption))) (@AE _ _ _ _ _ (@Ay _ _ _ _ _ _ _ _ (AV Ef (vv 1) AC) (@AL _ _ _ (@AI _ _ 2 _ _ _ _ sc_z41.nd rfl (by (first | exact Or.inl rfl | exact Or.inr rfl)) (Ex Ez (vv 2)) (by rfl) (by (first | exact .inl rfl | exact .inr rfl | assumption)))) Ax) (@AL _ _ _ (@AO _ _ _ _ (BD (AA (AD CB (vv 0) (vv 2)) (AA (AD CB (vv 1) (vv 2)) AB))))))),?_⟩
 have eg:(Int.gcd (a.natAbs:Int) (b.natAbs:Int))=a.gcd b:=by unfold Int.gcd;simp
 obtain ⟨_,_,g0,g1⟩:=FO sa sb hb
 refine ⟨by lia,by lia,?_⟩
 dsimp only [AQ]
 rw [eg]
 refine ite2 (fun e=>?_) (fun e=>?_)
 ·have hb0:b < 0:=of_decide_eq_true e
  lia
 have okd:okDiv ((a.gcd b:Nat):Int):=by
  refine ⟨g0,Int.lt_of_le_of_lt g1 ?_⟩
  have e1:b=((b.natAbs:Nat):Int):=by lia
  have e2:((b.natAbs:Nat):Int) < ((2 ^ 1000:Nat):Int):=Int.ofNat_lt.mpr sb
  have e3:((2 ^ 1000:Nat):Int)<=2 ^ 4096:=by decide +kernel
  lia
 refine ⟨okd,okd,Ac (show 2<=1000 by decide),fun p hp=>?_⟩
 exact k p hp
theorem HH:FnOk P w K mg base CX0 1 T.f_z31 T.d_z31 ["_law_top","_law_bottom"] Bk:=by
 refine T.F_z31.ok sc_z31 (fun vs H Q E h=>by unfold Bk at h;split at h <;> first | rfl | exact h.elim) (fun cdv A outer s H vs Q E hr h=>?_)
 have hu:=Ab hr
 unfold Bk at h
 split at h
 rotate_left
 ·exact h.elim
 rename_i a b
 obtain ⟨hb,sa,sb,k⟩:=h
 refine ⟨_,(@AE _ _ _ _ _ (@AI _ _ 2 _ _ _ _ sc_z31.nd rfl (by (first | exact Or.inl rfl | exact Or.inr rfl)) (vv 1) (by rfl) (by (first | exact .inl rfl | exact .inr rfl | assumption))) (@AE _ _ _ _ _ (@AI _ _ 3 _ _ _ _ sc_z31.nd rfl (by (first | exact Or.inl rfl | exact Or.inr rfl)) (Aa HR rfl T.z_abs (by rfl) (AA (vv 0) AB)) (by rfl) (by (first | exact .inl rfl | exact .inr rfl | assumption))) (@AE _ _ _ _ _ (@EN _ _ _ _ _ _ PassesOwn.never (AV Ct (vv 3) AC) (@AE _ _ _ _ _ (@AI _ _ 4 _ _ _ _ sc_z31.nd rfl (by (first | exact Or.inl rfl | exact Or.inr rfl)) (AD BQ (vv 2) (vv 3)) (by rfl) (by (first | exact .inl rfl | exact .inr rfl | assumption))) (@AE _ _ _ _ _ (@AI _ _ 2 _ _ _ _ sc_z31.nd rfl (by (first | exact Or.inl rfl | exact Or.inr rfl)) (vv 3) (by rfl) (by (first | exact .inl rfl | exact .inr rfl | assumption))) (@AL _ _ _ (@AI _ _ 3 _ _ _ _ sc_z31.nd rfl (by (first | exact Or.inl rfl | exact Or.inr rfl)) (vv 4) (by rfl) (by (first | exact .inl rfl | exact .inr rfl | assumption))))))) (@AL _ _ _ (@AO _ _ _ _ (BD (AA (AD CB (vv 0) (vv 2)) (AA (AD CB (vv 1) (vv 2)) AB)))))))),?_⟩
 obtain ⟨_,_,g0,g1⟩:=FO sa sb hb
 have okd:okDiv ((a.gcd b:Nat):Int):=by
  refine ⟨g0,Int.lt_of_le_of_lt g1 ?_⟩
  have e1:b=((b.natAbs:Nat):Int):=by lia
  have e2:((b.natAbs:Nat):Int) < ((2 ^ 1000:Nat):Int):=Int.ofNat_lt.mpr sb
  have e3:((2 ^ 1000:Nat):Int)<=2 ^ 4096:=by decide +kernel
  lia
 refine ⟨fun m σ H'=>∃ (x y:Int) (z:Option V),σ=[some (.int a),some (.int b),some (.int x),some (.int y),z]/\H'=H/\0<=x/\0<=y/\Int.gcd x y=Int.gcd a b/\m=y.toNat,⟨_,b,(a.natAbs:Int),none,rfl,rfl,by lia,by lia,?_,rfl⟩,?_⟩
 ·rw [Int.gcd_comm];unfold Int.gcd;simp
 rintro m σ H' ⟨x,y,z,rfl,rfl,hx,hy,hg,rfl⟩
 show if decide (0 < y)=true then _ else _
 refine ite2 (fun h=>?_) (fun h=>?_)
 ·have hy0:0 < y:=of_decide_eq_true h
  refine ⟨hy0,?_⟩
  have h3:=Int.emod_nonneg x (show y≠0 by lia)
  have h4:=Int.emod_lt_of_pos x hy0
  refine ⟨(x % y).toNat,by lia,y,x % y,_,rfl,rfl,hy,h3,?_,rfl⟩
  rw [<- hg,Int.gcd_comm x y]
  exact Ke hx hy
 ·have hy0:y=0:=by
   have:¬ 0 < y:=fun z=>h (decide_eq_true z)
   lia
  subst hy0
  rw [Int.gcd_zero_right] at hg
  have e:x=((a.gcd b:Nat):Int):=by rw [<- hg];lia
  subst e
  exact ⟨okd,okd,Ac (show 2<=1000 by decide),fun p hp=>k p hp⟩
noncomputable def B2:Sp:=fun vs H Q _=>match vs with
 | [.int b,.int t]=>∃ m:Nat,t=m/\m<=64/\((-(2 ^ 64) < b/\b < 2 ^ 64)\/(Nb b 100/\m<=12))/\Q (.int (b ^ m)) H
 | _=>False
theorem Ig:AK B2:=fun vs H Q Q' E h q=>by
 unfold B2 at *
 split at q
 ·revert q;repeat' first | exact h _ _ | exact A4 h | exact out_mono h | exact outT_mono h | (with_reducible first | refine Exists.imp fun _=>?_ | refine And.imp_right ?_ | refine forall_imp fun _=>?_)
 ·exact q.elim
theorem Kb:FnOk P w K mg base CX0 1 T.f_z40 T.d_z40 ["base","times"] B2:=by
 refine T.F_z40.ok sc_z40 (fun vs H Q E h=>by unfold B2 at h;split at h <;> first | rfl | exact h.elim) (fun cdv A outer s H vs Q E hr h=>?_)
 have hu:=Ab hr
 unfold B2 at h
 split at h
 rotate_left
 ·exact h.elim
 rename_i b t
 obtain ⟨m,e1,h1,b1,q⟩:=h
 subst e1
 refine ⟨_,(@AE _ _ _ _ _ (@AI _ _ 2 _ _ _ _ sc_z40.nd rfl (by (first | exact Or.inl rfl | exact Or.inr rfl)) AC (by rfl) (by (first | exact .inl rfl | exact .inr rfl | assumption))) (@AE _ _ _ _ _ (@Bm _ _ _ _ _ _ _ _ PassesOwn.never rfl (A9 rfl T.z_range (AA (vv 1) AB)) (AN (i:=3) sc_z40.nd rfl (by (first | exact Or.inl rfl | exact Or.inr rfl))) (@AL _ _ _ (@AI _ _ 2 _ _ _ _ sc_z40.nd rfl (by (first | exact Or.inl rfl | exact Or.inr rfl)) (AD AR (vv 2) (vv 0)) (by rfl) (by (first | exact .inl rfl | exact .inr rfl | assumption)))) (by intro _;rfl)) (@AL _ _ _ (@AO _ _ _ _ (vv 2))))),?_⟩
 refine ⟨m,rfl,by lia,by lia,?_⟩
 refine EA (fun i σ H'=>H'=H/\∃ z:Option V,σ=[some (.int b),some (.int m),some (.int (b ^ i)),z]) ⟨rfl,none,by rw [Int.pow_zero];rfl⟩ ?_ ?_
 ·rintro i σ H' hi ⟨rfl,z,rfl⟩
  have hi':i < m:=by lia
  have okm:okMul (b ^ i) b:=by
   rcases b1 with b1 | ⟨b1,b2⟩
   ·exact .inr (.inr b1)
   ·exact Nb.okMul ((b1.pow i).up (by lia)) (b1.up (by lia))
  refine ⟨okm,rfl,some (.int (0+(i:Int))),?_⟩
  rw [Int.pow_succ]
  rfl
 ·rintro σ H' ⟨rfl,z,rfl⟩
  have:(m:Int).toNat=m:=by lia
  rw [this]
  exact q
noncomputable def Cn:Sp:=fun vs H Q _=>match vs with
 | [.int n]=>∃ m:Nat,n=m/\m<=64/\Q (.int (2 ^ m:Nat)) H
 | _=>False
theorem GP:AK Cn:=fun vs H Q Q' E h q=>by
 unfold Cn at *
 split at q
 ·revert q;repeat' first | exact h _ _ | exact A4 h | exact out_mono h | exact outT_mono h | (with_reducible first | refine Exists.imp fun _=>?_ | refine And.imp_right ?_ | refine forall_imp fun _=>?_)
 ·exact q.elim
theorem Cz:FnOk P w K mg base CX0 2 T.f_z51 T.d_z51 ["n"] Cn:=by
 have G_z40:=Kb (P:=P) (w:=w) (base:=base) T
 refine T.F_z51.ok RL (fun vs H Q E h=>by unfold Cn at h;split at h <;> first | rfl | exact h.elim) (fun cdv A outer s H vs Q E hr h=>?_)
 have hu:=Ab hr
 have hr_z40:=hr.mono (show 1<=_ by decide)
 unfold Cn at h
 split at h
 rotate_left
 ·exact h.elim
 rename_i n
 obtain ⟨m,e1,h1,q⟩:=h
 subst e1
 refine ⟨_,(@AL _ _ _ (@AO _ _ _ _ (AF G_z40 hr_z40 rfl T.m_z40 T.F_z40.kp T.b_z40 .nil AG (AA AC (AA (vv 0) AB))))),?_⟩
 refine ⟨m,rfl,h1,.inl ⟨by decide,by decide⟩,?_⟩
 have e:(2:Int) ^ m=((2 ^ m:Nat):Int):=by rw [Int.natCast_pow];rfl
 rw [e]
 exact q
theorem Lx:FnOk P w K mg base CX0 1 T.f_z29 T.d_z29 ["_law_base","_law_times"] B2:=by
 refine T.F_z29.ok sc_z29 (fun vs H Q E h=>by unfold B2 at h;split at h <;> first | rfl | exact h.elim) (fun cdv A outer s H vs Q E hr h=>?_)
 have hu:=Ab hr
 unfold B2 at h
 split at h
 rotate_left
 ·exact h.elim
 rename_i b t
 obtain ⟨m,e1,h1,b1,q⟩:=h
 subst e1
 refine ⟨_,(@AE _ _ _ _ _ (@AI _ _ 2 _ _ _ _ sc_z29.nd rfl (by (first | exact Or.inl rfl | exact Or.inr rfl)) AC (by rfl) (by (first | exact .inl rfl | exact .inr rfl | assumption))) (@AE _ _ _ _ _ (@Bm _ _ _ _ _ _ _ _ PassesOwn.never rfl (A9 rfl T.z_range (AA (vv 1) AB)) (AN (i:=3) sc_z29.nd rfl (by (first | exact Or.inl rfl | exact Or.inr rfl))) (@AL _ _ _ (@AI _ _ 2 _ _ _ _ sc_z29.nd rfl (by (first | exact Or.inl rfl | exact Or.inr rfl)) (AD AR (vv 2) (vv 0)) (by rfl) (by (first | exact .inl rfl | exact .inr rfl | assumption)))) (by intro _;rfl)) (@AL _ _ _ (@AO _ _ _ _ (vv 2))))),?_⟩
 refine ⟨m,rfl,by lia,by lia,?_⟩
 refine EA (fun i σ H'=>H'=H/\∃ z:Option V,σ=[some (.int b),some (.int m),some (.int (b ^ i)),z]) ⟨rfl,none,by rw [Int.pow_zero];rfl⟩ ?_ ?_
 ·rintro i σ H' hi ⟨rfl,z,rfl⟩
  have hi':i < m:=by lia
  have okm:okMul (b ^ i) b:=by
   rcases b1 with b1 | ⟨b1,b2⟩
   ·exact .inr (.inr b1)
   ·exact Nb.okMul ((b1.pow i).up (by lia)) (b1.up (by lia))
  refine ⟨okm,rfl,some (.int (0+(i:Int))),?_⟩
  rw [Int.pow_succ]
  rfl
 ·rintro σ H' ⟨rfl,z,rfl⟩
  have:(m:Int).toNat=m:=by lia
  rw [this]
  exact q
theorem Fh:FnOk P w K mg base CX0 1 T.f_z45 T.d_z45 ["subset"] BN:=by
 refine T.F_z45.ok sc_z45 (fun vs H Q E h=>by unfold BN at h;split at h <;> first | rfl | exact h.elim) (fun cdv A outer s H vs Q E hr h=>?_)
 have hu:=Ab hr
 unfold BN at h
 split at h
 rotate_left
 ·exact h.elim
 rename_i x
 obtain ⟨a,e1,h1,q⟩:=h
 subst e1
 refine ⟨_,(@AE _ _ _ _ _ (@AI _ _ 1 _ _ _ _ sc_z45.nd rfl (by (first | exact Or.inl rfl | exact Or.inr rfl)) AC (by rfl) (by (first | exact .inl rfl | exact .inr rfl | assumption))) (@AE _ _ _ _ _ (@AI _ _ 2 _ _ _ _ sc_z45.nd rfl (by (first | exact Or.inl rfl | exact Or.inr rfl)) (vv 0) (by rfl) (by (first | exact .inl rfl | exact .inr rfl | assumption))) (@AE _ _ _ _ _ (@EN _ _ _ _ _ _ PassesOwn.never (AV Ct (vv 2) AC) (@AE _ _ _ _ _ (@AI _ _ 1 _ _ _ _ sc_z45.nd rfl (by (first | exact Or.inl rfl | exact Or.inr rfl)) (AD (Aj (K:=K)) (vv 1) (AD BQ (vv 2) AC)) (by rfl) (by (first | exact .inl rfl | exact .inr rfl | assumption))) (@AL _ _ _ (@AI _ _ 2 _ _ _ _ sc_z45.nd rfl (by (first | exact Or.inl rfl | exact Or.inr rfl)) (AD CB (vv 2) AC) (by rfl) (by (first | exact .inl rfl | exact .inr rfl | assumption)))))) (@AL _ _ _ (@AO _ _ _ _ (vv 1)))))),?_⟩
 refine ⟨fun f σ H'=>H'=H/\∃ m r:Nat,σ=[some (.int a),some (.int m),some (.int r)]/\r < 2 ^ f/\m+manyF f r=Bj a,⟨64,rfl,0,a,rfl,h1,by unfold Bj;exact Nat.zero_add _⟩,?_⟩
 rintro f σ H' ⟨rfl,m,r,rfl,hr1,hm⟩
 refine ite2 (fun e=>?_) (fun e=>?_)
 ·have r0:0 < r:=by have:(0:Int) < (r:Int):=of_decide_eq_true e;lia
  cases f with
  | zero=>simp at hr1;lia
  | succ f =>
   refine ⟨by decide,Al (by decide) (by decide),?_⟩
   refine ⟨f,Nat.lt_succ_self _,rfl,m+r % 2,r / 2,?_,?_,?_⟩
   ·show [some (V.int (a:Int)),some (V.int ((m:Int)+(r:Int) % 2)),some (V.int ((r:Int) / 2))]=_
    rw [Int.natCast_add,Int.natCast_emod,Int.natCast_ediv]
    rfl
   ·rw [Nat.pow_succ] at hr1;lia
   ·rw [<- hm]
    show m+r % 2+manyF f (r / 2)=m+(r % 2+manyF f (r / 2))
    lia
 ·have r0:r=0:=by
   have:¬ (0:Int) < (r:Int):=fun z=>e (decide_eq_true z)
   lia
  subst r0
  rw [DN,Nat.add_zero] at hm
  rw [<- hm] at q
  exact q
noncomputable def Cj (a b:Nat):Int:=if Bj (a &&& b) % 2=1 then -1 else 1
noncomputable def Gh:Sp:=fun vs H Q _=>match vs with
 | [.int x,.int y]=>∃ a b:Nat,x=a/\y=b/\a < 2 ^ 64/\Q (.int (Cj a b)) H
 | _=>False
theorem Ov:FnOk P w K mg base CX0 2 T.f_z52 T.d_z52 ["subset","place"] Gh:=by
 have G_z45:=Fh (P:=P) (w:=w) (base:=base) T
 refine T.F_z52.ok QR (fun vs H Q E h=>by unfold Gh at h;split at h <;> first | rfl | exact h.elim) (fun cdv A outer s H vs Q E hr h=>?_)
 have hu:=Ab hr
 have hr_z45:=hr.mono (show 1<=_ by decide)
 unfold Gh at h
 split at h
 rotate_left
 ·exact h.elim
 rename_i x y
 obtain ⟨a,b,e1,e2,h1,q⟩:=h
 subst e1 e2
 refine ⟨_,(@AL _ _ _ (@AO _ _ _ _ (IX (AV (kEq (K:=K) hu) (AD BQ (AF G_z45 hr_z45 rfl T.m_z45 T.F_z45.kp T.b_z45 .nil AG (AA (AD CI (vv 0) (vv 1)) AB)) AC) AC) (Ex Ez AC) AC))),?_⟩
 refine ⟨a &&& b,CZ a b,Nat.lt_of_le_of_lt Nat.and_le_left h1,by decide,?_⟩
 unfold Cj at q
 generalize Bj (a &&& b)=m at q ⊢
 have e:((m:Int) % 2 == 1)=decide (m % 2=1):=by
  rw [Bool.eq_iff_iff]
  simp only [beq_iff_eq,decide_eq_true_eq]
  lia
 show if (false ^^ ((m:Int) % 2 == 1))=true then Q (.int (-1)) H else Q (.int 1) H
 rw [e]
 refine ite2 (fun z=>?_) (fun z=>?_)
 ·rw [if_pos (by simpa using z)] at q
  exact q
 ·rw [if_neg (by simpa using z)] at q
  exact q
noncomputable def DJ (K:W.Frag):Sp:=fun vs H Q _=>match vs with
 | [v,.int z]=>∃ (m:Nat) (ts:List (Nat × Int)),SumAt K H v m ts/\m<=6/\z.natAbs < 2 ^ 1000/\∀ p,H p=none->Q (.ref p) (upd H p (.tup [.int (shT z ((2 ^ (2 * m):Nat):Int)),.int (shB z ((2 ^ (2 * m):Nat):Int))]))
 | _=>False
theorem Qs:AK (DJ K):=fun vs H Q Q' E h q=>by
 unfold DJ at *
 split at q
 ·revert q;repeat' first | exact h _ _ | exact A4 h | exact out_mono h | exact outT_mono h | (with_reducible first | refine Exists.imp fun _=>?_ | refine And.imp_right ?_ | refine forall_imp fun _=>?_)
 ·exact q.elim
theorem PH {m:Nat} (m6:m<=6):(((2 ^ (2 * m):Nat):Int)).natAbs < 2 ^ 1000:=by
 have h1:2 ^ (2 * m)<=2 ^ 12:=Nat.pow_le_pow_right (by decide) (by lia)
 have h2:(2:Nat) ^ 12 < 2 ^ 1000:=Nat.pow_lt_pow_right (by decide) (by decide)
 rw [Int.natAbs_natCast]
 exact Nat.lt_of_le_of_lt h1 h2
theorem NV (m:Nat):((2 ^ (2 * m):Nat):Int)=((2 ^ m:Nat):Int) * ((2 ^ m:Nat):Int):=by
 rw [<- Int.natCast_mul,<- Nat.pow_add,Nat.two_mul]
theorem QY:FnOk P w K mg base CX0 3 T.f_z43 T.d_z43 ["one","squares"] (DJ K):=by
 have G_z41:=JE (P:=P) (w:=w) (base:=base) T;have G_z51:=Cz (P:=P) (w:=w) (base:=base) T
 refine T.F_z43.ok Qf (fun vs H Q E h=>by unfold DJ at h;split at h <;> first | rfl | exact h.elim) (fun cdv A outer s H vs Q E hr h=>?_)
 have hu:=Ab hr
 have hr_z41:=hr.mono (show 2<=_ by decide);have hr_z51:=hr.mono (show 2<=_ by decide)
 unfold DJ at h
 split at h
 rotate_left
 ·exact h.elim
 rename_i v z
 obtain ⟨m,ts,S,m6,hz,q⟩:=h
 obtain ⟨a,b,vs,rfl,ha,hb,hr'⟩:=S.at_
 refine ⟨_,(@AL _ _ _ (@AO _ _ _ _ (AF G_z41 hr_z41 rfl T.m_z41 T.F_z41.kp T.b_z41 .nil AG (AA (vv 1) (AA (AF G_z51 hr_z51 rfl T.m_z51 T.F_z51.kp T.b_z51 .nil AG (AA (AD AR AC (kIx (K:=K) (vv 0) AC)) AB)) AB))))),?_⟩
 refine ⟨_,.int m,.inr ha,rfl,.inr (.inl ⟨by decide,by decide⟩),2 * m,by lia,by lia,?_⟩
 have h0:=Nat.two_pow_pos (2 * m)
 exact ⟨by lia,hz,PH m6,q⟩
noncomputable def Df:Sp:=fun vs H Q _=>match vs with
 | [.int x,.int y]=>∃ a b:Nat,x=a/\y=b/\a < 2 ^ 64/\Q (.bl (decide (Cj a b = -1))) H
 | _=>False
theorem PX:AK Df:=fun vs H Q Q' E h q=>by
 unfold Df at *
 split at q
 ·revert q;repeat' first | exact h _ _ | exact A4 h | exact out_mono h | exact outT_mono h | (with_reducible first | refine Exists.imp fun _=>?_ | refine And.imp_right ?_ | refine forall_imp fun _=>?_)
 ·exact q.elim
theorem J0:FnOk P w K mg base CX0 3 T.f_z27 T.d_z27 ["one","other"] Df:=by
 have G_z52:=Ov (P:=P) (w:=w) (base:=base) T
 refine T.F_z27.ok Ms (fun vs H Q E h=>by unfold Df at h;split at h <;> first | rfl | exact h.elim) (fun cdv A outer s H vs Q E hr h=>?_)
 have hu:=Ab hr
 have hr_z52:=hr.mono (show 2<=_ by decide)
 unfold Df at h
 split at h
 rotate_left
 ·exact h.elim
 rename_i x y
 obtain ⟨a,b,e1,e2,h1,q⟩:=h
 subst e1 e2
 refine ⟨_,(@AL _ _ _ (@AO _ _ _ _ (C2 (kEq (K:=K) hu) (AF G_z52 hr_z52 rfl T.m_z52 T.F_z52.kp T.b_z52 .nil AG (AA (vv 0) (AA (vv 1) AB))) (Ex Ez AC)))),?_⟩
 refine ⟨a,b,rfl,rfl,h1,?_⟩
 have e:(false ^^ (Cj a b == -1))=decide (Cj a b = -1):=by
  rw [Bool.false_xor,Bool.eq_iff_iff]
  simp only [beq_iff_eq,decide_eq_true_eq]
 show Q (.bl (false ^^ (Cj a b == -1))) H
 rw [e]
 exact q
noncomputable def Av (m:Nat) (ts:List (Nat × Int)) (t:Nat):Int:=Am (fun k w=>if chi m k t = -1 then w * w else 0) ts
noncomputable def ED (K:W.Frag):Sp:=fun vs H Q _=>match vs with
 | [v,.int z]=>∃ (m t:Nat) (ts:List (Nat × Int)),SumAt K H v m ts/\m<=6/\ts.length<=64/\(∀ q∈ts,q.1 < 2 ^ m /\ -64<=q.2/\q.2<=64)/\z=t/\∀ H',Same H H'->Q (.int (Av m ts t)) H'
 | _=>False
theorem MF:AK (ED K):=fun vs H Q Q' E h q=>by
 unfold ED at *
 split at q
 ·revert q;repeat' first | exact h _ _ | exact A4 h | exact out_mono h | exact outT_mono h | (with_reducible first | refine Exists.imp fun _=>?_ | refine And.imp_right ?_ | refine forall_imp fun _=>?_)
 ·exact q.elim
theorem Qv:FnOk P w K mg base CX0 4 T.f_z26 T.d_z26 ["one","subset"] (ED K):=by
 have G_z27:=J0 (P:=P) (w:=w) (base:=base) T
 refine T.F_z26.ok Nc (fun vs H Q E h=>by unfold ED at h;split at h <;> first | rfl | exact h.elim) (fun cdv A outer s H vs Q E hr h=>?_)
 have hu:=Ab hr
 have hr_z27:=hr.mono (show 3<=_ by decide)
 unfold ED at h
 split at h
 rotate_left
 ·exact h.elim
 rename_i v z
 obtain ⟨m,t,ts,S,m6,tl,ht,e1,q⟩:=h
 subst e1
 obtain ⟨a,b,vs,rfl,ha,hb,hr'⟩:=id S.at_
 have h64:2 ^ m<=64:=Nat.pow_le_pow_right (n:=2) (by decide) m6
 refine ⟨_,(@AL _ _ _ (@AO _ _ _ _ (Aa (Ch (K:=K) rfl) rfl T.z_sum (by rfl) (AA (Aw (N':=["each","weight","subset"]) (own:=2) (ix:=[1]) rfl (Ap (K:=K) (kIx (K:=K) (vv 0) AC)) (by kernel_rfl) rfl rfl (by kernel_rfl) (fun c=>Cf (K:=K) (n:=2) rfl (A1 (AN (i:=0) (show (["each","weight","subset"]:List Str).Nodup by decide +kernel) rfl (by (first | exact Or.inl rfl | exact Or.inr rfl))) (A1 (AN (i:=1) (show (["each","weight","subset"]:List Str).Nodup by decide +kernel) rfl (by (first | exact Or.inl rfl | exact Or.inr rfl))) Bw))) (Cm (BM As (CL As BI) (AW (by decide)) (BM As BI (AW (by decide)) Ck))) (fun c=>Bi (Fo (AF G_z27 hr_z27 rfl T.m_z27 T.F_z27.kp T.b_z27 .nil AG (AA (vv 0) (AA (vv 2) AB))))) (fun c=>(AD AR (vv 1) (vv 1)))) AB)))),?_⟩
 refine ⟨_,.ref b,.inr ha,rfl,.inr ⟨⟨_,hb⟩,?_⟩⟩
 have hvl:vs.length=ts.length:=by have:=hr'.length;rw [List.length_map] at this;lia
 let f:Nat->Int->List Int:=fun k w=>if chi m k t = -1 then [w * w] else []
 have fl:∀ k w,(f k w).length<=1:=fun k w=>by show (if chi m k t = -1 then [w * w] else []).length<=1;split <;> simp
 refine Bv (xs:=vs) (fun i ys H'=>H'=H/\ys=(BH f (ts.take i)).map V.int) ⟨rfl,rfl⟩ (fun i ys H' _ ⟨e,_⟩=>by rw [e];exact hb) (fun i ys H' hi ⟨_,e⟩=>by
  have:=Ea fl (ts.take i)
  rw [List.length_take] at this
  rw [e,List.length_map];exact Ag (by lia)) ?_ ?_
 ·rintro i x ys H' hx ⟨rfl,rfl⟩
  obtain ⟨⟨k,wgt⟩,c,hq,rfl,hc⟩:=BU hr' hx
  have hm:=ht _ (List.mem_of_getElem? hq)
  have hk:k < 2 ^ m:=hm.1
  refine ⟨c,_,rfl,hc,rfl,_,_,rfl,_,_,rfl,rfl,?_⟩
  refine ⟨k,t,rfl,rfl,by lia,?_⟩
  have ec:Cj k t=chi m k t:=(G4 hk (by lia)).symm
  rw [C5 hq,List.map_append]
  refine ite2 (fun e=>?_) (fun e=>?_)
  ·have e':chi m k t = -1:=by rw [<- ec];exact of_decide_eq_true e
   refine ⟨K1 hm.2,rfl,?_⟩
   show _=_++(f k wgt).map V.int
   show _=_++((if chi m k t = -1 then [wgt * wgt] else []):List Int).map V.int
   rw [if_pos e'];rfl
  ·have e':¬ chi m k t = -1:=by rw [<- ec];exact fun z=>e (decide_eq_true z)
   refine ⟨rfl,?_⟩
   show _=_++((if chi m k t = -1 then [wgt * wgt] else []):List Int).map V.int
   rw [if_neg e',List.map_nil,List.append_nil]
 ·rintro ys H' ⟨rfl,rfl⟩ l hl
  rw [List.take_of_length_le (by lia)]
  refine ⟨_,.of AH,?_⟩
  have es:(BH f ts).sum=Av m ts t:=by
   rw [Ek]
   unfold Av
   congr 1
   funext k w
   show ((if chi m k t = -1 then [w * w] else []):List Int).sum=_
   split <;> simp
  rw [es]
  exact q _ (Same.upd hl)
structure Gl (m:Nat) (ts:List (Nat × Int)):Prop where
 m6:1<=m/\m<=6
 len:ts.length<=64
 ok:∀ q∈ts,q.1 < 2 ^ m /\ -64<=q.2/\q.2<=64
noncomputable def BR (ts:List (Nat × Int)):Int:=Am (fun _ w=>w * w) ts
theorem CW (f:Nat->Int->Int):∀ ts:List (Nat × Int),Am f ts=(ts.map fun q=>f q.1 q.2).sum
 | []=>rfl
 | q::ts=>by
  show f q.1 q.2+Am f ts=_
  rw [CW f ts,List.map_cons,List.sum_cons]
theorem Eh {w:Int} (h : -64<=w/\w<=64):0<=w * w/\w * w<=4096:=L0 h
theorem Em {f:Nat->Int->Int}:∀ {ts:List (Nat × Int)},(∀ q∈ts,0<=f q.1 q.2/\f q.1 q.2<=4096)->0<=Am f ts/\Am f ts<=ts.length * 4096
 | [],_=>⟨Int.le_refl _,by show (0:Int)<=0 * 4096;decide⟩
 | q::ts,h=>by
  have h1:=h q List.mem_cons_self
  have h2:=Em fun x hx=>h x (List.mem_cons_of_mem _ hx)
  show 0<=f q.1 q.2+Am f ts/\f q.1 q.2+Am f ts<=((ts.length+1:Nat):Int) * 4096
  lia
theorem Gl.sq {m:Nat} {ts:List (Nat × Int)} (G:Gl m ts):0<=BR ts/\BR ts<=262144:=by
 have h:=Em (f:=fun _ w=>w * w) (ts:=ts) fun q hq=>Eh (G.ok q hq).2
 have:=G.len
 unfold BR
 lia
theorem Gl.lv {m:Nat} {ts:List (Nat × Int)} (G:Gl m ts) (j:Nat):0<=lvT m ts j/\lvT m ts j<=262144:=by
 have h:=Em (f:=fun s w=>if manyF m s=j then w * w else 0) (ts:=ts) fun q hq=>by
  have:=Eh (G.ok q hq).2
  show 0<=(if manyF m q.1=j then q.2 * q.2 else 0)/\(if manyF m q.1=j then q.2 * q.2 else 0)<=4096
  split <;> lia
 have:=G.len
 unfold lvT
 lia
theorem Gl.odd {m:Nat} {ts:List (Nat × Int)} (G:Gl m ts) (t:Nat):0<=Av m ts t/\Av m ts t<=262144:=by
 have h:=Em (f:=fun k w=>if chi m k t = -1 then w * w else 0) (ts:=ts) fun q hq=>by
  have:=Eh (G.ok q hq).2
  show 0<=(if chi m q.1 t = -1 then q.2 * q.2 else 0)/\(if chi m q.1 t = -1 then q.2 * q.2 else 0)<=4096
  split <;> lia
 have:=G.len
 unfold Av
 lia
noncomputable def Au (m:Nat):Int:=((2 ^ (2 * m):Nat):Int)
theorem GH {m:Nat} (m6:m<=6):1<=Au m/\Au m<=4096:=by
 have h1:2 ^ (2 * m)<=2 ^ 12:=Nat.pow_le_pow_right (by decide) (by lia)
 have h2:=Nat.two_pow_pos (2 * m)
 unfold Au
 lia
noncomputable def A2 (m:Nat) (ts:List (Nat × Int)):Int:=Au m - BR ts
theorem Gl.rest {m:Nat} {ts:List (Nat × Int)} (G:Gl m ts) : -262144<=A2 m ts/\A2 m ts<=4096:=by
 have:=G.sq
 have:=GH G.m6.2
 unfold A2
 lia
noncomputable def Af (m:Nat) (ts:List (Nat × Int)) (n:Nat):List Nat:=(List.range n).filter fun k=>!(ts.map (·.1)).contains k
theorem Cg (m:Nat) (ts:List (Nat × Int)) (n:Nat):(Af m ts n).length<=n:=by
 unfold Af
 exact Nat.le_trans (List.length_filter_le _ _) (by rw [List.length_range];exact Nat.le_refl _)
theorem darkL_mem {m:Nat} {ts:List (Nat × Int)} {n k:Nat}:k∈Af m ts n ↔ k < n/\¬ k∈ts.map (·.1):=by
 unfold Af
 rw [List.mem_filter,List.mem_range]
 simp
theorem Eu (m:Nat) (ts:List (Nat × Int)) (n:Nat):Af m ts (n+1)=Af m ts n++(if (ts.map (·.1)).contains n=true then [] else [n]):=by
 unfold Af
 rw [List.range_succ,List.filter_append]
 congr 1
 by_cases c:(ts.map (·.1)).contains n=true
 ·rw [if_pos c,List.filter_cons_of_neg (by rw [c];decide)];rfl
 ·rw [if_neg c,List.filter_cons_of_pos (by simpa using c)];rfl
theorem HI (fs:List Nat):iL fs=(fs.map fun (r:Nat)=>(r:Int)).map V.int:=by unfold iL;rw [List.map_map];rfl
noncomputable def Cq (K:W.Frag):Sp:=fun vs H Q _=>match vs with
 | [v]=>∃ (m:Nat) (ts:List (Nat × Int)),SumAt K H v m ts/\Gl m ts/\∀ l H',H l=none->Same H H'->H' l=some (.lst (ixL (lvT m ts) (m+1)))->Q (.ref l) H'
 | _=>False
theorem Ki:AK (Cq K):=fun vs H Q Q' E h q=>by
 unfold Cq at *
 split at q
 ·revert q;repeat' first | exact h _ _ | exact A4 h | exact out_mono h | exact outT_mono h | (with_reducible first | refine Exists.imp fun _=>?_ | refine And.imp_right ?_ | refine forall_imp fun _=>?_)
 ·exact q.elim
theorem L4 (n:Nat):(List.replicate n [V.int 0]).flatten=ixL (fun _=>0) n:=by
 induction n with
 | zero=>rfl
 | succ n ih=>rw [List.replicate_succ',List.flatten_append,ih,Es];rfl
theorem JR:FnOk P w K mg base CX0 2 T.f_z15 T.d_z15 ["one"] (Cq K):=by
 have G_z45:=Fh (P:=P) (w:=w) (base:=base) T
 refine T.F_z15.ok sc_z15 (fun vs H Q E h=>by unfold Cq at h;split at h <;> first | rfl | exact h.elim) (fun cdv A outer s H vs Q E hr h=>?_)
 have hu:=Ab hr
 have mo1:AK BN:=Cc
 have hr_z45:=hr.mono (show 1<=_ by decide)
 unfold Cq at h
 split at h
 rotate_left
 ·exact h.elim
 rename_i v
 obtain ⟨m,ts,S,G,q⟩:=h
 have m6:=G.m6.2
 have tl:=G.len
 obtain ⟨a,b,vs,rfl,ha,hb,hr'⟩:=id S.at_
 have h64:2 ^ m<=64:=Nat.pow_le_pow_right (n:=2) (by decide) m6
 have hvl:vs.length=ts.length:=by have:=hr'.length;rw [List.length_map] at this;lia
 refine ⟨_,(@AE _ _ _ _ _ (@AI _ _ 1 _ _ _ _ sc_z15.nd rfl (by (first | exact Or.inl rfl | exact Or.inr rfl)) (AD AR (@Bq _ _ _ _ (AA AC AB)) (AD (Aj (K:=K)) (kIx (K:=K) (vv 0) AC) AC)) (by rfl) (by (first | exact .inl rfl | exact .inr rfl | assumption))) (@AE _ _ _ _ _ (@Bm _ _ _ _ _ _ _ _ PassesOwn.never rfl (Ap (K:=K) (kIx (K:=K) (vv 0) AC)) (Go (K:=K) (n:=2) rfl (A1 (AN (i:=2) sc_z15.nd rfl (by (first | exact Or.inl rfl | exact Or.inr rfl))) (A1 (AN (i:=3) sc_z15.nd rfl (by (first | exact Or.inl rfl | exact Or.inr rfl))) Bw))) (@AE _ _ _ _ _ (@AI _ _ 4 _ _ _ _ sc_z15.nd rfl (by (first | exact Or.inl rfl | exact Or.inr rfl)) (AF G_z45 hr_z45 rfl T.m_z45 T.F_z45.kp T.b_z45 .nil AG (AA (vv 2) AB)) (by rfl) (by (first | exact .inl rfl | exact .inr rfl | assumption))) (@AL _ _ _ (@CN _ _ _ _ _ _ (AD (Aj (K:=K)) (kIx (K:=K) (vv 1) (vv 4)) (AD AR (vv 3) (vv 3))) (Cd (vv 1) (vv 4) Cb) (by rfl) (by rfl) (by rfl)))) (by intro _;rfl)) (@AL _ _ _ (@AO _ _ _ _ (vv 1))))),?_⟩
 -- found=[0] * (n+1)
 refine ⟨Ac (show 1<=1000 by decide),fun p0 hp0=>?_⟩
 have ha1:=Bl ha (Same.upd (o:=.lst [.int 0]) hp0)
 refine ⟨_,.int m,.inr ha1,rfl,p0,(m:Int)+1,_,rfl,rfl,AH,by lia,by lia,Ac (by show 1 * ((m:Int)+1).toNat<=1000;lia),fun l hl=>?_⟩
 have en:((m:Int)+1).toNat=m+1:=by lia
 rw [en,L4]
 dsimp only [AQ]
 have s1:=(Same.upd (o:=.lst [.int 0]) hp0).trans (Same.upd (o:=.lst (ixL (fun _=>0) (m+1))) hl)
 have hl0:H l=none:=(Same.upd (o:=.lst [.int 0]) hp0).free hl
 have g1:upd (upd H p0 (.lst [.int 0])) l (.lst (ixL (fun _=>0) (m+1))) l=some (.lst (ixL (lvT m (ts.take 0)) (m+1))):=AH
 generalize upd (upd H p0 (.lst [.int 0])) l (.lst (ixL (fun _=>0) (m+1)))=H1 at *
 refine ⟨_,.ref b,.inr (Bl ha s1),rfl,.inr ⟨⟨_,Bl hb s1⟩,?_⟩⟩
 refine Jm (xs:=vs) (fun i σ H'=>∃ z2 z3 z4:Option V,σ=[some (.ref a),some (.ref l),z2,z3,z4]/\Same H H'/\H' l=some (.lst (ixL (lvT m (ts.take i)) (m+1)))) ⟨none,none,none,rfl,s1,g1⟩ (fun i σ H' _ ⟨_,_,_,_,s,_⟩=>Bl hb s) ?_ ?_
 ·rintro i x σ H2 hx ⟨z2,z3,z4,rfl,s2,g2⟩
  obtain ⟨⟨k,wgt⟩,c,hq,rfl,hc⟩:=BU hr' hx
  have hm:=G.ok _ (List.mem_of_getElem? hq)
  have hk:k < 2 ^ m:=hm.1
  have h1 : -64<=wgt/\wgt<=64:=hm.2
  have h2:=Co m k
  refine ⟨_,.inr (Bl hc s2),rfl,_,_,rfl,_,_,rfl,rfl,?_⟩
  refine ⟨k,rfl,by lia,?_⟩
  rw [Cw hk (by lia)]
  refine ⟨_,_,.inl (.of g2),B5 (show manyF m k < m+1 by lia),K1 h1,_,manyF m k,g2,by rw [ixL_len];exact DL (by lia),?_⟩
  refine ⟨_,_,_,rfl,E5 s2 hl0,?_⟩
  rw [AH,Ev]
  congr 2
  exact Ci fun j _=>by
   rw [Q1 hq]
   by_cases e:j=manyF m k
   ·rw [if_pos e,if_pos e,e]
   ·rw [if_neg e,if_neg e]
 ·rintro σ H2 ⟨z2,z3,z4,rfl,s2,g2⟩
  rw [List.take_of_length_le (by lia)] at g2
  exact q l H2 hl0 s2 g2
noncomputable def D8 (K:W.Frag):Sp:=fun vs H Q _=>match vs with
 | [v]=>∃ (m:Nat) (g:Nat->Int),SumAt K H v m (Ah g (2 ^ m))/\m<=6/\Ey H Q (ixL g (2 ^ m))
 | _=>False
theorem RE:AK (D8 K):=fun vs H Q Q' E h q=>by
 unfold D8 at *
 split at q
 ·revert q;repeat' first | exact h _ _ | exact A4 h | exact out_mono h | exact outT_mono h | (with_reducible first | refine Exists.imp fun _=>?_ | refine And.imp_right ?_ | refine forall_imp fun _=>?_)
 ·exact q.elim
theorem Om:FnOk P w K mg base CX0 3 T.f_z30 T.d_z30 ["one"] (D8 K):=by
 have G_z51:=Cz (P:=P) (w:=w) (base:=base) T
 refine T.F_z30.ok sc_z30 (fun vs H Q E h=>by unfold D8 at h;split at h <;> first | rfl | exact h.elim) (fun cdv A outer s H vs Q E hr h=>?_)
 have hu:=Ab hr
 have mo1:AK Cn:=GP
 have hr_z51:=hr.mono (show 2<=_ by decide)
 unfold D8 at h
 split at h
 rotate_left
 ·exact h.elim
 rename_i v
 obtain ⟨m,g,S,m6,q⟩:=h
 obtain ⟨a,b,vs,rfl,ha,hb,hr'⟩:=id S.at_
 have h64:2 ^ m<=64:=Nat.pow_le_pow_right (n:=2) (by decide) m6
 have i0:(0:Int)<=((2 ^ m:Nat):Int):=Int.natCast_nonneg _
 have i1:((2 ^ m:Nat):Int)<=64:=Int.ofNat_le.mpr h64
 have hvl:vs.length=(Ah g (2 ^ m)).length:=by have:=hr'.length;rw [List.length_map] at this;lia
 refine ⟨_,(@AE _ _ _ _ _ (@AI _ _ 1 _ _ _ _ sc_z30.nd rfl (by (first | exact Or.inl rfl | exact Or.inr rfl)) (AD AR (@Bq _ _ _ _ (AA AC AB)) (AF G_z51 hr_z51 rfl T.m_z51 T.F_z51.kp T.b_z51 .nil AG (AA (kIx (K:=K) (vv 0) AC) AB))) (by rfl) (by (first | exact .inl rfl | exact .inr rfl | assumption))) (@AE _ _ _ _ _ (@Bm _ _ _ _ _ _ _ _ PassesOwn.never rfl (Ap (K:=K) (kIx (K:=K) (vv 0) AC)) (Go (K:=K) (n:=2) rfl (A1 (AN (i:=2) sc_z30.nd rfl (by (first | exact Or.inl rfl | exact Or.inr rfl))) (A1 (AN (i:=3) sc_z30.nd rfl (by (first | exact Or.inl rfl | exact Or.inr rfl))) Bw))) (@AL _ _ _ (@CN _ _ _ _ _ _ (vv 3) (Cd (vv 1) (vv 2) Cb) (by rfl) (by rfl) (by rfl))) (by intro _;rfl)) (@AL _ _ _ (@AO _ _ _ _ (vv 1))))),?_⟩
 refine ⟨Ac (show 1<=1000 by decide),fun p0 hp0=>?_⟩
 have s0:=Same.upd (o:=.lst [.int 0]) hp0
 refine ⟨_,.int m,.inr (Bl ha s0),rfl,m,rfl,by lia,p0,((2 ^ m:Nat):Int),_,rfl,rfl,AH,by lia,by lia,Ac (by show 1 * ((2 ^ m:Nat):Int).toNat<=1000;lia),fun l hl=>?_⟩
 rw [Int.toNat_natCast,OU]
 dsimp only [AQ]
 have s1:=s0.trans (Same.upd (o:=.lst (ixL (fun _=>0) (2 ^ m))) hl)
 have hl0:H l=none:=s0.free hl
 have g1:upd (upd H p0 (.lst [.int 0])) l (.lst (ixL (fun _=>0) (2 ^ m))) l=some (.lst (ixL (Bf ((Ah g (2 ^ m)).take 0) (fun _=>0)) (2 ^ m))):=AH
 generalize upd (upd H p0 (.lst [.int 0])) l (.lst (ixL (fun _=>0) (2 ^ m)))=H1 at *
 refine ⟨_,.ref b,.inr (Bl ha s1),rfl,.inr ⟨⟨_,Bl hb s1⟩,?_⟩⟩
 refine Jm (xs:=vs) (fun i σ H'=>∃ z2 z3:Option V,σ=[some (.ref a),some (.ref l),z2,z3]/\Same H H'/\H' l=some (.lst (ixL (Bf ((Ah g (2 ^ m)).take i) (fun _=>0)) (2 ^ m)))) ⟨none,none,rfl,s1,g1⟩ (fun i σ H' _ ⟨_,_,_,s,_⟩=>Bl hb s) ?_ ?_
 ·rintro i x σ H2 hx ⟨z2,z3,rfl,s2,g2⟩
  obtain ⟨⟨k,wgt⟩,c,hq,rfl,hc⟩:=BU hr' hx
  have hk:k < 2 ^ m:=(HL (List.mem_of_getElem? hq)).1
  refine ⟨_,.inr (Bl hc s2),rfl,_,_,rfl,_,_,rfl,rfl,?_⟩
  refine ⟨_,k,g2,by rw [ixL_len];exact DL hk,?_⟩
  refine ⟨_,_,rfl,E5 s2 hl0,?_⟩
  rw [AH,Ev,QO hq]
 ·rintro σ H2 ⟨z2,z3,rfl,s2,g2⟩
  rw [List.take_of_length_le (by lia),Ci (g:=g) fun j hj=>by rw [Hh,if_pos hj]] at g2
  exact q l H2 hl0 s2 g2
noncomputable def DT (K:W.Frag):Sp:=fun vs H Q _=>match vs with
 | [x]=>∃ (m:Nat) (ts:List (Nat × Int)),SumAt K H x m ts/\Gl m ts/\∀ H',Same H H'->Q (.int (BR ts)) H'
 | _=>False
theorem QS:AK (DT K):=fun vs H Q Q' E h q=>by
 unfold DT at *
 split at q
 ·revert q;repeat' first | exact h _ _ | exact A4 h | exact out_mono h | exact outT_mono h | (with_reducible first | refine Exists.imp fun _=>?_ | refine And.imp_right ?_ | refine forall_imp fun _=>?_)
 ·exact q.elim
theorem No:FnOk P w K mg base CX0 1 T.f_z48 T.d_z48 ["one"] (DT K):=by
 skip
 refine T.F_z48.ok Nt (fun vs H Q E h=>by unfold DT at h;split at h <;> first | rfl | exact h.elim) (fun cdv A outer s H vs Q E hr h=>?_)
 have hu:=Ab hr
 skip
 unfold DT at h
 split at h
 rotate_left
 ·exact h.elim
 rename_i x
 obtain ⟨m,ts,S,G,q⟩:=h
 obtain ⟨a,b,us,rfl,ha,hb,hR⟩:=id S.at_
 have hul:us.length=ts.length:=by have:=hR.length;rw [List.length_map] at this;lia
 have htl:=G.len
 refine ⟨_,(@AL _ _ _ (@AO _ _ _ _ (Aa (Ch (K:=K) rfl) rfl T.z_sum (by rfl) (AA (Aw (N':=["subset","weight"]) (own:=2) (ix:=[]) rfl (Ap (K:=K) (kIx (K:=K) (vv 0) AC)) (by kernel_rfl) rfl rfl (by kernel_rfl) (fun c=>Cf (K:=K) (n:=2) rfl (A1 (AN (i:=0) (show (["subset","weight"]:List Str).Nodup by decide +kernel) rfl (by (first | exact Or.inl rfl | exact Or.inr rfl))) (A1 (AN (i:=1) (show (["subset","weight"]:List Str).Nodup by decide +kernel) rfl (by (first | exact Or.inl rfl | exact Or.inr rfl))) Bw))) (Cm (BM As (CL As BI) (AW (by decide)) (BM As BI (AW (by decide)) Ck))) (fun c=>Az) (fun c=>(AD AR (vv 1) (vv 1)))) AB)))),?_⟩
 refine ⟨_,.ref b,.inr ha,rfl,.inr ⟨⟨_,hb⟩,?_⟩⟩
 refine Bv (xs:=us) (fun i ys H'=>H'=H/\ys=((ts.take i).map fun t=>t.2 * t.2).map V.int) ⟨rfl,rfl⟩ (fun i ys H' _ ⟨e,_⟩=>by rw [e];exact hb) (fun i ys H' hi ⟨_,e⟩=>by
  rw [e,List.length_map,List.length_map,List.length_take];exact Ag (by lia)) ?_ ?_
 ·rintro i x ys H' hx ⟨rfl,rfl⟩
  obtain ⟨⟨k,wgt⟩,c,hq,rfl,hc⟩:=BU hR hx
  have hgk : -64<=wgt/\wgt<=64:=(G.ok _ (List.mem_of_getElem? hq)).2
  refine ⟨c,_,rfl,hc,rfl,_,_,rfl,_,_,rfl,rfl,.inr (.inl ⟨by lia,by lia⟩),rfl,?_⟩
  rw [List.take_add_one,hq,List.map_append,List.map_append]
  rfl
 ·rintro ys H' ⟨rfl,rfl⟩ lp hlp
  rw [List.take_of_length_le (by lia)]
  have:=q _ (Same.upd (o:=.lst ((ts.map fun t=>t.2 * t.2).map V.int)) hlp)
  unfold BR at this
  rw [CW] at this
  exact ⟨_,.of AH,this⟩
noncomputable def BX (K:W.Frag):Sp:=fun vs H Q _=>match vs with
 | [x]=>∃ (m:Nat) (ts:List (Nat × Int)),SumAt K H x m ts/\Gl m ts/\∀ H',Same H H'->Q (.int (A2 m ts)) H'
 | _=>False
theorem D7:AK (BX K):=fun vs H Q Q' E h q=>by
 unfold BX at *
 split at q
 ·revert q;repeat' first | exact h _ _ | exact A4 h | exact out_mono h | exact outT_mono h | (with_reducible first | refine Exists.imp fun _=>?_ | refine And.imp_right ?_ | refine forall_imp fun _=>?_)
 ·exact q.elim
theorem GI:FnOk P w K mg base CX0 3 T.f_z47 T.d_z47 ["glance"] (BX K):=by
 have G_z51:=Cz (P:=P) (w:=w) (base:=base) T;have G_z48:=No (P:=P) (w:=w) (base:=base) T
 refine T.F_z47.ok Pa (fun vs H Q E h=>by unfold BX at h;split at h <;> first | rfl | exact h.elim) (fun cdv A outer s H vs Q E hr h=>?_)
 have hu:=Ab hr
 have mo1:AK (DT K):=QS
 have hr_z51:=hr.mono (show 2<=_ by decide);have hr_z48:=hr.mono (show 1<=_ by decide)
 unfold BX at h
 split at h
 rotate_left
 ·exact h.elim
 rename_i x
 obtain ⟨m,ts,S,G,q⟩:=h
 obtain ⟨a,b,us,rfl,ha,hb,hR⟩:=id S.at_
 have hm:=G.m6
 refine ⟨_,(@AL _ _ _ (@AO _ _ _ _ (AD BW (AF G_z51 hr_z51 rfl T.m_z51 T.F_z51.kp T.b_z51 .nil AG (AA (AD AR AC (kIx (K:=K) (vv 0) AC)) AB)) (AF G_z48 hr_z48 rfl T.m_z48 T.F_z48.kp T.b_z48 .nil AG (AA (vv 0) AB))))),?_⟩
 refine ⟨_,.int m,.inr ha,rfl,.inr (.inl ⟨by decide,by decide⟩),2 * m,by lia,by lia,?_⟩
 exact ⟨m,ts,S,G,q⟩
theorem K5 (ks:List Nat):(iL ks).all Bz=true:=by
 unfold iL
 rw [List.all_map,List.all_eq_true]
 intro x _
 rfl
theorem in_iL (ks:List Nat) (k:Nat):inV (.int (k:Int)) (iL ks)=ks.contains k:=by
 unfold inV iL
 rw [List.any_map,Bool.eq_iff_iff,List.any_eq_true,List.contains_iff_mem]
 constructor
 ·rintro ⟨x,hx,e⟩
  have e:((x:Int) == (k:Int))=true:=e
  have:x=k:=by have:(x:Int)=(k:Int):=by simpa using e
               lia
  exact this ▸ hx
 ·intro h
  exact ⟨k,h,by show ((k:Int) == (k:Int))=true;simp⟩
noncomputable def Bb (K:W.Frag):Sp:=fun vs H Q _=>match vs with
 | [x]=>∃ (m:Nat) (ts:List (Nat × Int)),SumAt K H x m ts/\Gl m ts/\Ey H Q (iL (Af m ts (2 ^ m)))
 | _=>False
theorem DS:AK (Bb K):=fun vs H Q Q' E h q=>by
 unfold Bb at *
 split at q
 ·revert q;repeat' first | exact h _ _ | exact A4 h | exact out_mono h | exact outT_mono h | (with_reducible first | refine Exists.imp fun _=>?_ | refine And.imp_right ?_ | refine forall_imp fun _=>?_)
 ·exact q.elim
theorem GB:FnOk P w K mg base CX0 3 T.f_z23 T.d_z23 ["glance"] (Bb K):=by
 have G_z51:=Cz (P:=P) (w:=w) (base:=base) T
 refine T.F_z23.ok sc_z23 (fun vs H Q E h=>by unfold Bb at h;split at h <;> first | rfl | exact h.elim) (fun cdv A outer s H vs Q E hr h=>?_)
 have hu:=Ab hr
 have hr_z51:=hr.mono (show 2<=_ by decide)
 unfold Bb at h
 split at h
 rotate_left
 ·exact h.elim
 rename_i x
 obtain ⟨m,ts,S,G,q⟩:=h
 obtain ⟨a,b,us,rfl,ha,hb,hR⟩:=id S.at_
 have hul:us.length=ts.length:=by have:=hR.length;rw [List.length_map] at this;lia
 have htl:=G.len
 have hm:=G.m6
 have h64:2 ^ m<=64:=Nat.pow_le_pow_right (n:=2) (by decide) hm.2
 have i1:((2 ^ m:Nat):Int)<=64:=Int.ofNat_le.mpr h64
 have i0:(0:Int)<=((2 ^ m:Nat):Int):=Int.natCast_nonneg _
 refine ⟨_,(@AE _ _ _ _ _ (@AI _ _ 1 _ _ _ _ sc_z23.nd rfl (by (first | exact Or.inl rfl | exact Or.inr rfl)) (@Aw _ _ _ _ _ _ _ (["subset","weight"]) 2 [] _ _ _ _ rfl (Ap (K:=K) (kIx (K:=K) (vv 0) AC)) (by kernel_rfl) rfl rfl (by kernel_rfl) (fun c=>Cf (K:=K) (n:=2) rfl (A1 (AN (i:=0) (show (["subset","weight"]:List Str).Nodup by decide +kernel) rfl (by (first | exact Or.inl rfl | exact Or.inr rfl))) (A1 (AN (i:=1) (show (["subset","weight"]:List Str).Nodup by decide +kernel) rfl (by (first | exact Or.inl rfl | exact Or.inr rfl))) Bw))) (Cm (BM As (CL As BI) (AW (by decide)) (BM As BI (AW (by decide)) Ck))) (fun c=>Az) (fun c=>(vv 0)) (by intro _;rfl)) (by rfl) (by (first | exact .inl rfl | exact .inr rfl | assumption))) (@AL _ _ _ (@AO _ _ _ _ (@Aw _ _ _ _ _ _ _ (["subset","seen"]) 1 [1] _ _ _ _ rfl (A9 rfl T.z_range (AA (AF G_z51 hr_z51 rfl T.m_z51 T.F_z51.kp T.b_z51 .nil AG (AA (kIx (K:=K) (vv 0) AC) AB)) AB)) (by kernel_rfl) rfl rfl (by kernel_rfl) (fun c=>AN (i:=0) (show (["subset","seen"]:List Str).Nodup by decide +kernel) rfl (by (first | exact Or.inl rfl | exact Or.inr rfl))) (AW (by decide)) (fun c=>Bi (AV (Il (K:=K)) (vv 0) (vv 1))) (fun c=>(vv 0)) (by intro _;rfl))))),?_⟩
 refine ⟨_,.ref b,.inr ha,rfl,.inr ⟨⟨_,hb⟩,?_⟩⟩
 refine Bv (xs:=us) (fun i ys H'=>H'=H/\ys=iL ((ts.take i).map (·.1))) ⟨rfl,rfl⟩ (fun i ys H' _ ⟨e,_⟩=>by rw [e];exact hb) (fun i ys H' hi ⟨_,e⟩=>by
  rw [e,Ak,List.length_map,List.length_take];exact Ag (by lia)) ?_ ?_
 ·rintro i x ys H' hx ⟨rfl,rfl⟩
  obtain ⟨⟨k,wgt⟩,c,hq,rfl,hc⟩:=BU hR hx
  refine ⟨c,_,rfl,hc,rfl,_,_,rfl,_,_,rfl,rfl,rfl,?_⟩
  rw [List.take_add_one,hq,List.map_append,CP]
  rfl
 rintro ys H' ⟨rfl,rfl⟩ l hl
 rw [List.take_of_length_le (by lia)]
 have s1:=Same.upd (o:=.lst (iL (ts.map (·.1)))) hl
 have g1:=AH (H:=H') (a:=l) (o:=.lst (iL (ts.map (·.1))))
 generalize upd H' l (.lst (iL (ts.map (·.1))))=H1 at *
 dsimp only [AQ]
 refine ⟨_,.int m,.inr (s1.sqT ha),rfl,m,rfl,by lia,((2 ^ m:Nat):Int),rfl,by lia,by lia,?_⟩
 refine Ba (fun i ys H'=>H'=H1/\ys=iL (Af m ts i)) ⟨rfl,rfl⟩ (fun i ys H' hi ⟨_,e⟩=>by
  have:=Cg m ts i
  rw [e,Ak];exact Ag (by lia)) ?_ ?_
 ·rintro i ys H' hi ⟨rfl,rfl⟩
  rw [show (0:Int)+(i:Int)=(i:Int) from Int.zero_add _]
  refine ⟨_,.inl (.of g1),rfl,K5 _,?_⟩
  rw [in_iL]
  refine ite2 (fun e=>?_) (fun e=>?_)
  ·have e':¬ (ts.map (·.1)).contains i=true:=by simpa using e
   refine ⟨rfl,?_⟩
   rw [Eu,if_neg e',CP]
   rfl
  ·have e':(ts.map (·.1)).contains i=true:=by simpa using e
   refine ⟨rfl,?_⟩
   rw [Eu,if_pos e',List.append_nil]
 ·rintro ys H2 ⟨rfl,rfl⟩ lp hlp
  rw [Int.toNat_natCast]
  exact q lp _ (s1.free hlp) (s1.trans (Same.upd hlp)) AH
theorem Q6 {m a b:Nat} (m6:m<=6) (h:a < 2 ^ m):Cj a b=chi m a b:=by
 rw [G4 h (by lia)]
 rfl
noncomputable def Dy (m:Nat) (ts:List (Nat × Int)) (t:Nat):Bool:=(Af m ts (2 ^ m)).any fun k=>decide (chi m k t = -1)
noncomputable def highT (m:Nat) (ts:List (Nat × Int)) (t:Nat):Int:=if Dy m ts t=true then Av m ts t+A2 m ts else Av m ts t
noncomputable def EX (m:Nat) (ts:List (Nat × Int)) (t:Nat):Dv:=.tup [shD (Av m ts t) (Au m),shD (highT m ts t) (Au m)]
theorem CA {x:Int} (h1 : -1000000<=x) (h2:x<=1000000):x.natAbs < 2 ^ 1000:=Nat.lt_of_lt_of_le (show x.natAbs < 2 ^ 20 by lia) (Nat.pow_le_pow_right (by decide) (by decide))
noncomputable def CF (K:W.Frag):Sp:=fun vs H Q _=>match vs with
 | [x,.int z]=>∃ (m t:Nat) (ts:List (Nat × Int)),SumAt K H x m ts/\Gl m ts/\z=t/\∀ v H',Same H H'->Rep K H' (EX m ts t) v->Q v H'
 | _=>False
theorem RF:AK (CF K):=fun vs H Q Q' E h q=>by
 unfold CF at *
 split at q
 ·revert q;repeat' first | exact h _ _ | exact A4 h | exact out_mono h | exact outT_mono h | (with_reducible first | refine Exists.imp fun _=>?_ | refine And.imp_right ?_ | refine forall_imp fun _=>?_)
 ·exact q.elim
theorem Q4:FnOk P w K mg base CX0 5 T.f_z19 T.d_z19 ["glance","subset"] (CF K):=by
 have G_z26:=Qv (P:=P) (w:=w) (base:=base) T;have G_z43:=QY (P:=P) (w:=w) (base:=base) T;have G_z27:=J0 (P:=P) (w:=w) (base:=base) T;have G_z47:=GI (P:=P) (w:=w) (base:=base) T;have G_z23:=GB (P:=P) (w:=w) (base:=base) T
 refine T.F_z19.ok sc_z19 (fun vs H Q E h=>by unfold CF at h;split at h <;> first | rfl | exact h.elim) (fun cdv A outer s H vs Q E hr h=>?_)
 have hu:=Ab hr
 have mo1:AK (BX K):=D7
 have mo2:AK (Bb K):=DS
 have mo3:AK (ED K):=MF
 have mo4:AK Df:=PX
 have mo5:AK (DJ K):=Qs
 have hr_z26:=hr.mono (show 4<=_ by decide);have hr_z43:=hr.mono (show 3<=_ by decide);have hr_z27:=hr.mono (show 3<=_ by decide);have hr_z47:=hr.mono (show 3<=_ by decide);have hr_z23:=hr.mono (show 3<=_ by decide)
 unfold CF at h
 split at h
 rotate_left
 ·exact h.elim
 rename_i x z
 obtain ⟨m,t,ts,S,G,e1,q⟩:=h
 subst e1
 obtain ⟨a,b,us,rfl,ha,hb,hR⟩:=id S.at_
 have hm:=G.m6
 have h64:2 ^ m<=64:=Nat.pow_le_pow_right (n:=2) (by decide) hm.2
 have ho:=G.odd t
 have hr':=G.rest
 have hdl:=Cg m ts (2 ^ m)
 refine ⟨_,(@AE _ _ _ _ _ (@AI _ _ 2 _ _ _ _ sc_z19.nd rfl (by (first | exact Or.inl rfl | exact Or.inr rfl)) (AF G_z26 hr_z26 rfl T.m_z26 T.F_z26.kp T.b_z26 .nil AG (AA (vv 0) (AA (vv 1) AB))) (by rfl) (by (first | exact .inl rfl | exact .inr rfl | assumption))) (@AE _ _ _ _ _ (@AI _ _ 3 _ _ _ _ sc_z19.nd rfl (by (first | exact Or.inl rfl | exact Or.inr rfl)) (Aa (Jh (K:=K) rfl) rfl T.z_any (by rfl) (AA (Aw (N':=["each","subset"]) (own:=1) (ix:=[1]) rfl (Ap (K:=K) (AF G_z23 hr_z23 rfl T.m_z23 T.F_z23.kp T.b_z23 .nil AG (AA (vv 0) AB))) (by kernel_rfl) rfl rfl (by kernel_rfl) (fun c=>AN (i:=0) (show (["each","subset"]:List Str).Nodup by decide +kernel) rfl (by (first | exact Or.inl rfl | exact Or.inr rfl))) (AW (by decide)) (fun c=>Az) (fun c=>(AF G_z27 hr_z27 rfl T.m_z27 T.F_z27.kp T.b_z27 .nil AG (AA (vv 0) (AA (vv 1) AB))))) AB)) (by rfl) (by (first | exact .inl rfl | exact .inr rfl | assumption))) (@AE _ _ _ _ _ (@AI _ _ 4 _ _ _ _ sc_z19.nd rfl (by (first | exact Or.inl rfl | exact Or.inr rfl)) (IX (Fo (vv 3)) (AD (Aj (K:=K)) (vv 2) (AF G_z47 hr_z47 rfl T.m_z47 T.F_z47.kp T.b_z47 .nil AG (AA (vv 0) AB))) (vv 2)) (by rfl) (by (first | exact .inl rfl | exact .inr rfl | assumption))) (@AL _ _ _ (@AO _ _ _ _ (BD (AA (AF G_z43 hr_z43 rfl T.m_z43 T.F_z43.kp T.b_z43 .nil AG (AA (vv 0) (AA (vv 2) AB))) (AA (AF G_z43 hr_z43 rfl T.m_z43 T.F_z43.kp T.b_z43 .nil AG (AA (vv 0) (AA (vv 4) AB))) AB)))))))),?_⟩
 refine ⟨m,t,ts,S,hm.2,G.len,G.ok,rfl,fun H1 s1=>?_⟩
 dsimp only [AQ]
 refine AT (fun σ H'=>σ=[some (.ref a),some (.int (t:Int)),some (.int (Av m ts t)),some (.bl (Dy m ts t)),none]/\Same H H') ?_ ?_ (by (repeat' with_reducible first | exact Q5 | apply RK | apply QB | apply Mz | apply RP | apply Lo | apply MG | apply QK | exact Qg | exact MY | apply Mh | apply Of | apply Pk | apply Pf | apply Ny | apply OC | apply OY | apply M3 | apply Qz | exact Qc | exact Ph | exact QE | exact P4 | exact L7 | exact MJ | exact Lh | exact MC | exact L3 | exact Lw | apply Nl | apply Oc | apply OX | exact Qb | apply P2 | exact PZ | exact Qr | exact O3 | exact Q9 | exact Lz | apply Oy | apply Qo | apply Pp | exact As | apply CL | exact BI | exact Py | exact QF | apply Lq | apply Nm | exact NC | apply Lu | exact Qp | apply LQ | apply OD | exact NG | apply OR | exact QD | exact OI | exact Pw | exact Nk | apply PV | exact Nx | apply OS | assumption))
 ·refine ⟨m,ts,S.same s1,G,fun l H2 nl s2 g2=>.inl ⟨⟨_,.of g2⟩,?_⟩⟩
  have hmem:=fun {k:Nat} (h:k∈Af m ts (2 ^ m))=>(darkL_mem.mp h).1
  unfold Dy
  generalize Af m ts (2 ^ m)=ds at *
  refine CQ (xs:=iL ds) (fun i ys H'=>H'=H2/\ys=((ds.take i).map fun k=>decide (chi m k t = -1)).map V.bl) ⟨rfl,rfl⟩ (fun i ys H' _ ⟨e,_⟩=>by rw [e];exact .of g2) (fun i ys H' hi ⟨_,e⟩=>by
   rw [Ak] at hi
   rw [e,List.length_map,List.length_map,List.length_take];exact Ag (by lia)) ?_ ?_
  ·rintro i x ys H' hx ⟨rfl,rfl⟩
   obtain ⟨k,hk,hkm,rfl⟩:=CG hx
   have hk2:=hmem hkm
   refine ⟨k,t,rfl,rfl,Nat.lt_of_lt_of_le (show k < 64 by lia) (by decide),rfl,?_⟩
   rw [Q6 hm.2 hk2,List.take_add_one,hk,List.map_append,List.map_append]
   rfl
  ·rintro ys H' ⟨rfl,rfl⟩ lp hlp
   rw [Ak,List.take_length]
   refine ⟨_,.of AH,?_⟩
   rw [List.any_map]
   exact ⟨rfl,s1.trans (s2.trans (Same.upd hlp))⟩
 rintro σ H2 ⟨rfl,s2⟩
 refine AT (fun σ H'=>σ=[some (.ref a),some (.int (t:Int)),some (.int (Av m ts t)),some (.bl (Dy m ts t)),some (.int (highT m ts t))]/\Same H H') ?_ ?_ (by (repeat' with_reducible first | exact Q5 | apply RK | apply QB | apply Mz | apply RP | apply Lo | apply MG | apply QK | exact Qg | exact MY | apply Mh | apply Of | apply Pk | apply Pf | apply Ny | apply OC | apply OY | apply M3 | apply Qz | exact Qc | exact Ph | exact QE | exact P4 | exact L7 | exact MJ | exact Lh | exact MC | exact L3 | exact Lw | apply Nl | apply Oc | apply OX | exact Qb | apply P2 | exact PZ | exact Qr | exact O3 | exact Q9 | exact Lz | apply Oy | apply Qo | apply Pp | exact As | apply CL | exact BI | exact Py | exact QF | apply Lq | apply Nm | exact NC | apply Lu | exact Qp | apply LQ | apply OD | exact NG | apply OR | exact QD | exact OI | exact Pw | exact Nk | apply PV | exact Nx | apply OS | assumption))
 ·unfold highT
  refine ite2 (fun e=>?_) (fun e=>?_)
  ·refine ⟨m,ts,S.same s2,G,fun H3 s3=>?_⟩
   rw [if_pos e]
   exact ⟨rfl,s2.trans s3⟩
  ·rw [if_neg e]
   exact ⟨rfl,s2⟩
 rintro σ H3 ⟨rfl,s3⟩
 have hh : -1000000<=highT m ts t/\highT m ts t<=1000000:=by unfold highT;split <;> lia
 refine ⟨m,ts,S.same s3,hm.2,CA (by lia) (by lia),fun p1 n1=>?_⟩
 have s4:=Same.upd (o:=.tup [.int (shT (Av m ts t) (Au m)),.int (shB (Av m ts t) (Au m))]) n1
 have g4:=AH (H:=H3) (a:=p1) (o:=.tup [.int (shT (Av m ts t) (Au m)),.int (shB (Av m ts t) (Au m))])
 refine ⟨m,ts,S.same (s3.trans s4),hm.2,CA hh.1 hh.2,fun p2 n2=>?_⟩
 have s5:=Same.upd (o:=.tup [.int (shT (highT m ts t) (Au m)),.int (shB (highT m ts t) (Au m))]) n2
 refine ⟨Ac (show 2<=1000 by decide),fun p3 n3=>?_⟩
 have s6:=Same.upd (o:=.tup [.ref p1,.ref p2]) n3
 exact q _ _ (s3.trans (s4.trans (s5.trans s6))) (BJ AH (Ae (B0 ((s5.trans s6) _ _ g4)) (Ae (B0 (s6 _ _ AH)) At)))
noncomputable def stW (m:Nat) (y:Int):Int:=((2 ^ (2 * m):Nat):Int) * y ^ m
theorem Gg {m:Nat} {y:Int} (h:0 < y):0 < stW m y:=Int.mul_pos (by have:=Nat.two_pow_pos (2 * m);lia) (Int.pow_pos h)
theorem E9 {m:Nat} {y:Int} (m6:m<=6) (h:Nb y 66):Nb (stW m y) 500:=by
 have h1:Nb ((2 ^ (2 * m):Nat):Int) 13:=by
  unfold Nb
  rw [Int.natAbs_natCast]
  exact Nat.pow_lt_pow_right (by decide) (by lia)
 exact (h1.mul (h.pow m)).up (by lia)
theorem Ew {x y:Int} (hx:Nb x 66) (hy:Nb y 66):Nb (y - 2 * x) 69:=by
 unfold Nb at *
 lia
noncomputable def Ao (m:Nat) (f:Nat->Int) (x y:Int) (n:Nat):Int:=sumTo (fun j=>f j * (y - 2 * x) ^ j * y ^ (m - j)) n
theorem HK {m:Nat} {f:Nat->Int} {x y:Int} (m6:m<=6) (hf:∀ j,j < m+1->Nb (f j) 20) (hx:Nb x 66) (hy:Nb y 66) (j:Nat) (hj:j < m+1):Nb (f j * (y - 2 * x) ^ j) 500/\Nb (y ^ (m - j)) 500/\Nb (f j * (y - 2 * x) ^ j * y ^ (m - j)) 900:=by
 have h1:Nb (f j * (y - 2 * x) ^ j) 440:=((hf j hj).mul ((Ew hx hy).pow j)).up (by lia)
 have h2:Nb (y ^ (m - j)) 440:=(hy.pow (m - j)).up (by lia)
 exact ⟨h1.up (by lia),h2.up (by lia),(h1.mul h2).up (by lia)⟩
noncomputable def C6 (K:W.Frag):Sp:=fun vs H Q _=>match vs with
 | [.int z,.ref l0,.ref ps]=>∃ (m:Nat) (f:Nat->Int) (x y:Int),z=m/\m<=6/\(∀ j,j < m+1->Nb (f j) 20)/\SqL K H l0 (ixL f (m+1))/\SqT K H ps [.int x,.int y]/\0 < y/\Nb x 66/\Nb y 66/\∀ p H',H p=none->Same H H'->H' p=some (.tup [.int (shT (stW m y+Ao m f x y (m+1)) (2 * stW m y)),.int (shB (stW m y+Ao m f x y (m+1)) (2 * stW m y))])->Q (.ref p) H'
 | _=>False
theorem Je:AK (C6 K):=fun vs H Q Q' E h q=>by
 unfold C6 at *
 split at q
 ·revert q;repeat' first | exact h _ _ | exact A4 h | exact out_mono h | exact outT_mono h | (with_reducible first | refine Exists.imp fun _=>?_ | refine And.imp_right ?_ | refine forall_imp fun _=>?_)
 ·exact q.elim
theorem Jg:FnOk P w K mg base CX0 3 T.f_z44 T.d_z44 ["n","squares","share"] (C6 K):=by
 have G_z41:=JE (P:=P) (w:=w) (base:=base) T;have G_z51:=Cz (P:=P) (w:=w) (base:=base) T;have G_z40:=Kb (P:=P) (w:=w) (base:=base) T
 refine T.F_z44.ok sc_z44 (fun vs H Q E h=>by unfold C6 at h;split at h <;> first | rfl | exact h.elim) (fun cdv A outer s H vs Q E hr h=>?_)
 have hu:=Ab hr
 have mo2:AK B2:=Ig
 have mo3:AK Cn:=GP
 have mo4:AK Bk:=FU
 have hr_z41:=hr.mono (show 2<=_ by decide);have hr_z51:=hr.mono (show 2<=_ by decide);have hr_z40:=hr.mono (show 1<=_ by decide)
 unfold C6 at h
 split at h
 rotate_left
 ·exact h.elim
 rename_i z l0 ps
 obtain ⟨m,f,x,y,e1,m6,hf,g1,hps,y0,hx,hy,q⟩:=h
 subst e1
 refine ⟨_,(@AE _ _ _ _ _ (@AI _ _ 3 _ _ _ _ sc_z44.nd rfl (by (first | exact Or.inl rfl | exact Or.inr rfl)) (kIx (K:=K) (vv 2) AC) (by rfl) (by (first | exact .inl rfl | exact .inr rfl | assumption))) (@AE _ _ _ _ _ (@AI _ _ 4 _ _ _ _ sc_z44.nd rfl (by (first | exact Or.inl rfl | exact Or.inr rfl)) (AD BW (vv 3) (AD AR AC (kIx (K:=K) (vv 2) AC))) (by rfl) (by (first | exact .inl rfl | exact .inr rfl | assumption))) (@AE _ _ _ _ _ (@Br _ _ _ _ _ _ _ (["many","level","less","bottom","n"]) 2 ([4,3,0]) _ _ _ _ 5 _ _ _ rfl sc_z44.nd rfl rfl (NH (K:=K) rfl T.z_enumerate (AA (vv 1) AB)) (by kernel_rfl) rfl rfl (by kernel_rfl) (fun c=>Cf (K:=K) (n:=2) rfl (A1 (AN (i:=0) (show (["many","level","less","bottom","n"]:List Str).Nodup by decide +kernel) rfl (by (first | exact Or.inl rfl | exact Or.inr rfl))) (A1 (AN (i:=1) (show (["many","level","less","bottom","n"]:List Str).Nodup by decide +kernel) rfl (by (first | exact Or.inl rfl | exact Or.inr rfl))) Bw))) (Cm (BM As (CL As BI) (AW (by decide)) (BM As BI (AW (by decide)) Ck))) (fun c=>Az) (fun c=>(AD AR (AD AR (vv 1) (AF G_z40 hr_z40 rfl T.m_z40 T.F_z40.kp T.b_z40 .nil AG (AA (vv 2) (AA (vv 0) AB)))) (AF G_z40 hr_z40 rfl T.m_z40 T.F_z40.kp T.b_z40 .nil AG (AA (vv 3) (AA (AD BW (vv 4) (vv 0)) AB))))) (by rfl) (by intro _;rfl)) (@AE _ _ _ _ _ (@AI _ _ 6 _ _ _ _ sc_z44.nd rfl (by (first | exact Or.inl rfl | exact Or.inr rfl)) (AD AR (AF G_z51 hr_z51 rfl T.m_z51 T.F_z51.kp T.b_z51 .nil AG (AA (AD AR AC (vv 0)) AB)) (AF G_z40 hr_z40 rfl T.m_z40 T.F_z40.kp T.b_z40 .nil AG (AA (vv 3) (AA (vv 0) AB)))) (by rfl) (by (first | exact .inl rfl | exact .inr rfl | assumption))) (@AL _ _ _ (@AO _ _ _ _ (AF G_z41 hr_z41 rfl T.m_z41 T.F_z41.kp T.b_z41 .nil AG (AA (AD (Aj (K:=K)) (vv 6) (Aa (Ch (K:=K) rfl) rfl T.z_sum (by rfl) (AA (vv 5) AB))) (AA (AD AR AC (vv 6)) AB))))))))),?_⟩
 refine ⟨_,.int y,.inr hps,rfl,?_⟩
 dsimp only [AQ]
 refine ⟨_,.int x,.inr hps,rfl,.inr (.inl ⟨by decide,by decide⟩),?_⟩
 dsimp only [AQ,C4]
 refine AT (fun σ H'=>∃ l:Addr,σ=[some (.int m),some (.ref l0),some (.ref ps),some (.int y),some (.int (y - 2 * x)),some (.ref l),none]/\Same H H'/\H' l=some (.lst (ixL (fun j=>f j * (y - 2 * x) ^ j * y ^ (m - j)) (m+1)))) ?_ ?_ (by (repeat' with_reducible first | exact Q5 | apply RK | apply QB | apply Mz | apply RP | apply Lo | apply MG | apply QK | exact Qg | exact MY | apply Mh | apply Of | apply Pk | apply Pf | apply Ny | apply OC | apply OY | apply M3 | apply Qz | exact Qc | exact Ph | exact QE | exact P4 | exact L7 | exact MJ | exact Lh | exact MC | exact L3 | exact Lw | apply Nl | apply Oc | apply OX | exact Qb | apply P2 | exact PZ | exact Qr | exact O3 | exact Q9 | exact Lz | apply Oy | apply Qo | apply Pp | exact As | apply CL | exact BI | exact Py | exact QF | apply Lq | apply Nm | exact NC | apply Lu | exact Qp | apply LQ | apply OD | exact NG | apply OR | exact QD | exact OI | exact Pw | exact Nk | apply PV | exact Nx | apply OS | assumption))
 ·refine ⟨⟨_,g1⟩,?_⟩
  refine PL (xs:=ixL f (m+1)) (fun i zs H'=>Same H H'/\zs=ixL (fun j=>f j * (y - 2 * x) ^ j * y ^ (m - j)) i) ⟨Same.refl _,rfl⟩ (fun i zs H' _ ⟨s,_⟩=>s.sqL g1) (fun i zs H' hi ⟨_,e⟩=>by rw [ixL_len] at hi;rw [e,ixL_len];exact Ag (by lia)) ?_ ?_
  ·rintro i z zs H2 pp hz ⟨s2,rfl⟩ hpp
   have hi:i < m+1:=by
    have:=(List.getElem?_eq_some_iff.mp hz).1
    rwa [ixL_len] at this
   rw [E4 hi] at hz
   cases hz
   obtain ⟨n1,n2,n3⟩:=HK m6 hf hx hy i hi
   refine ⟨pp,_,rfl,.of AH,rfl,_,_,rfl,_,_,rfl,rfl,?_⟩
   refine ⟨i,rfl,by lia,.inr ⟨(Ew hx hy).up (by lia),by lia⟩,Nb.okMul ((hf i hi).up (by lia)) (((Ew hx hy).pow i).up (by lia)),?_⟩
   refine ⟨m - i,by lia,by lia,.inr ⟨hy.up (by lia),by lia⟩,Nb.okMul (n1.up (by lia)) (n2.up (by lia)),s2.trans (Same.upd hpp),?_⟩
   rw [Es]
  ·rintro zs H2 ⟨s2,rfl⟩ l hl
   rw [ixL_len]
   exact ⟨l,rfl,s2.trans (Same.upd hl),AH⟩
 rintro σ H1 ⟨l,rfl,s1,g1⟩
 refine ⟨.inr (.inl ⟨by decide,by decide⟩),2 * m,by lia,by lia,?_⟩
 have n13:Nb ((2 ^ (2 * m):Nat):Int) 13:=by
  unfold Nb
  rw [Int.natAbs_natCast]
  exact Nat.pow_lt_pow_right (by decide) (by lia)
 refine ⟨m,rfl,by lia,.inr ⟨hy.up (by lia),by lia⟩,Nb.okMul (n13.up (by lia)) ((hy.pow m).up (by lia)),?_⟩
 dsimp only [AQ]
 have es:∀ n,((List.range n).map (fun j=>f j * (y - 2 * x) ^ j * y ^ (m - j))).sum=Ao m f x y n:=fun n=>by
  induction n with
  | zero=>rfl
  | succ n ih=>rw [List.range_succ,List.map_append,List.sum_append,ih];simp [Ao,L2.sumTo]
 refine ⟨(List.range (m+1)).map (fun j=>f j * (y - 2 * x) ^ j * y ^ (m - j)),by rw [List.map_map];exact .of g1,?_⟩
 dsimp only [Ca]
 rw [es]
 have w0:=Gg (m:=m) y0
 have wn:=E9 m6 hy
 have pn:Nb (Ao m f x y (m+1)) 910:=(Nb.sum (f:=fun j=>f j * (y - 2 * x) ^ j * y ^ (m - j)) (a:=900) (n:=m+1) fun j hj=>(HK m6 hf hx hy j hj).2.2).up (by lia)
 have e2:Nb (2 * stW m y) 510:=by
  have two:Nb 2 2:=by unfold Nb;decide
  exact (two.mul wn).up (by lia)
 refine ⟨.inr (.inl ⟨by decide,by decide⟩),Int.mul_pos (by decide) w0,((wn.up (show 500<=910 by lia)).add pn).up (by lia),e2.up (by lia),fun p hp=>?_⟩
 exact q p _ (s1.free hp) (s1.trans (Same.upd hp)) AH
noncomputable def lvR (m:Nat) (ts:List (Nat × Int)) (k j:Nat):Int:=if j=k then lvT m ts j+A2 m ts else lvT m ts j
noncomputable def DK (m:Nat) (f:Nat->Int) (x y:Int):Dv:=shD (stW m y+Ao m f x y (m+1)) (2 * stW m y)
theorem E8 {m:Nat} {ts:List (Nat × Int)} (G:Gl m ts) (k j:Nat):Nb (lvR m ts k j) 20:=by
 have h1:=G.lv j
 have h2:=G.rest
 unfold lvR Nb
 split <;> lia
theorem Fg {m:Nat} {ts:List (Nat × Int)} (G:Gl m ts) (j:Nat):Nb (lvT m ts j) 20:=by
 have h1:=G.lv j
 unfold Nb
 lia
noncomputable def DZ (K:W.Frag):Sp:=fun vs H Q _=>match vs with
 | [x0,.int z,.ref ps]=>∃ (m k:Nat) (ts:List (Nat × Int)) (x y:Int),SumAt K H x0 m ts/\Gl m ts/\z=k/\k<=m/\SqT K H ps [.int x,.int y]/\0 < y/\Nb x 66/\Nb y 66/\∀ v H',Same H H'->Rep K H' (DK m (lvR m ts k) x y) v->Q v H'
 | _=>False
theorem Mo:AK (DZ K):=fun vs H Q Q' E h q=>by
 unfold DZ at *
 split at q
 ·revert q;repeat' first | exact h _ _ | exact A4 h | exact out_mono h | exact outT_mono h | (with_reducible first | refine Exists.imp fun _=>?_ | refine And.imp_right ?_ | refine forall_imp fun _=>?_)
 ·exact q.elim
theorem ND:FnOk P w K mg base CX0 4 T.f_z17 T.d_z17 ["glance","many","share"] (DZ K):=by
 have G_z15:=JR (P:=P) (w:=w) (base:=base) T;have G_z44:=Jg (P:=P) (w:=w) (base:=base) T;have G_z47:=GI (P:=P) (w:=w) (base:=base) T
 refine T.F_z17.ok sc_z17 (fun vs H Q E h=>by unfold DZ at h;split at h <;> first | rfl | exact h.elim) (fun cdv A outer s H vs Q E hr h=>?_)
 have hu:=Ab hr
 have mo1:AK (BX K):=D7
 have mo2:AK (Cq K):=Ki
 have mo3:AK (C6 K):=Je
 have hr_z15:=hr.mono (show 2<=_ by decide);have hr_z44:=hr.mono (show 3<=_ by decide);have hr_z47:=hr.mono (show 3<=_ by decide)
 unfold DZ at h
 split at h
 rotate_left
 ·exact h.elim
 rename_i x0 z ps
 obtain ⟨m,k,ts,x,y,S,G,e1,hk,hps,y0,hx,hy,q⟩:=h
 subst e1
 obtain ⟨a,b,us,rfl,ha,hb,hR⟩:=id S.at_
 have hm:=G.m6
 refine ⟨_,(@AE _ _ _ _ _ (@AI _ _ 3 _ _ _ _ sc_z17.nd rfl (by (first | exact Or.inl rfl | exact Or.inr rfl)) (AF G_z15 hr_z15 rfl T.m_z15 T.F_z15.kp T.b_z15 .nil AG (AA (vv 0) AB)) (by rfl) (by (first | exact .inl rfl | exact .inr rfl | assumption))) (@AE _ _ _ _ _ (@CN _ _ _ _ _ _ (AD (Aj (K:=K)) (kIx (K:=K) (vv 3) (vv 1)) (AF G_z47 hr_z47 rfl T.m_z47 T.F_z47.kp T.b_z47 .nil AG (AA (vv 0) AB))) (Cd (vv 3) (vv 1) Cb) (by rfl) (by rfl) (by rfl)) (@AL _ _ _ (@AO _ _ _ _ (AF G_z44 hr_z44 rfl T.m_z44 T.F_z44.kp T.b_z44 .nil AG (AA (kIx (K:=K) (vv 0) AC) (AA (vv 3) (AA (vv 2) AB)))))))),?_⟩
 refine ⟨m,ts,S,G,fun l H1 nl s1 g1=>?_⟩
 dsimp only [AQ]
 refine ⟨_,.int (lvT m ts k),.inl (.of g1),B5 (show k < m+1 by lia),m,ts,S.same s1,G,fun H2 s2=>⟨_,k,s2 _ _ g1,by rw [ixL_len];exact DL (by lia),?_⟩⟩
 have gl:(ixL (lvT m ts) (m+1)).set k (.int (lvT m ts k+A2 m ts))=ixL (lvR m ts k) (m+1):=by
  rw [Ev]
  refine Ci fun j _=>?_
  unfold lvR
  by_cases e:j=k
  ·rw [if_pos e,if_pos e,e]
  ·rw [if_neg e,if_neg e]
 rw [gl]
 have s3:=E5 (o:=.lst (ixL (lvR m ts k) (m+1))) (s1.trans s2) nl
 refine ⟨_,.int m,.inr (s3.sqT ha),rfl,m,lvR m ts k,x,y,rfl,hm.2,fun j _=>E8 G k j,.of AH,s3.sqT hps,y0,hx,hy,fun p H' np s4 g4=>q _ _ (s3.trans s4) (B0 g4)⟩
noncomputable def StW (m:Nat) (ts:List (Nat × Int)) (x y:Int) (d1 d2:Dv):Prop :=
 (Af m ts (2 ^ m)=[]/\d1=DK m (lvT m ts) x y/\d2=DK m (lvT m ts) x y) \/
 ∃ k1 k2:Nat,k1∈(Af m ts (2 ^ m)).map (manyF m)/\k2∈(Af m ts (2 ^ m)).map (manyF m)/\(∀ k∈Af m ts (2 ^ m),k2<=manyF m k/\manyF m k<=k1)/\d1=DK m (lvR m ts k1) x y/\d2=DK m (lvR m ts k2) x y
noncomputable def CS (K:W.Frag):Sp:=fun vs H Q _=>match vs with
 | [x0,.ref ps]=>∃ (m:Nat) (ts:List (Nat × Int)) (x y:Int),SumAt K H x0 m ts/\Gl m ts/\SqT K H ps [.int x,.int y]/\0 < y/\Nb x 66/\Nb y 66/\∀ v d1 d2 H',Same H H'->Rep K H' (.tup [d1,d2]) v->StW m ts x y d1 d2->Q v H'
 | _=>False
theorem Nf:AK (CS K):=fun vs H Q Q' E h q=>by
 unfold CS at *
 split at q
 ·revert q;repeat' first | exact h _ _ | exact A4 h | exact out_mono h | exact outT_mono h | (with_reducible first | refine Exists.imp fun _=>?_ | refine And.imp_right ?_ | refine forall_imp fun _=>?_)
 ·exact q.elim
theorem Qj:FnOk P w K mg base CX0 5 T.f_z21 T.d_z21 ["glance","share"] (CS K):=by
 have G_z45:=Fh (P:=P) (w:=w) (base:=base) T;have G_z44:=Jg (P:=P) (w:=w) (base:=base) T;have G_z17:=ND (P:=P) (w:=w) (base:=base) T;have G_z23:=GB (P:=P) (w:=w) (base:=base) T;have G_z15:=JR (P:=P) (w:=w) (base:=base) T
 refine T.F_z21.ok sc_z21 (fun vs H Q E h=>by unfold CS at h;split at h <;> first | rfl | exact h.elim) (fun cdv A outer s H vs Q E hr h=>?_)
 have hu:=Ab hr
 have mo1:AK (DZ K):=Mo
 have mo2:AK (Cq K):=Ki
 have mo3:AK (C6 K):=Je
 have mo4:AK (Bb K):=DS
 have mo5:AK BN:=Cc
 have hr_z45:=hr.mono (show 1<=_ by decide);have hr_z44:=hr.mono (show 3<=_ by decide);have hr_z17:=hr.mono (show 4<=_ by decide);have hr_z23:=hr.mono (show 3<=_ by decide);have hr_z15:=hr.mono (show 2<=_ by decide)
 unfold CS at h
 split at h
 rotate_left
 ·exact h.elim
 rename_i x0 ps
 obtain ⟨m,ts,x,y,S,G,hps,y0,hx,hy,q⟩:=h
 obtain ⟨a,b,us,rfl,ha,hb,hR⟩:=id S.at_
 have hm:=G.m6
 have h64:2 ^ m<=64:=Nat.pow_le_pow_right (n:=2) (by decide) hm.2
 have hdl:=Cg m ts (2 ^ m)
 refine ⟨_,(@AE _ _ _ _ _ (@Br _ _ _ _ _ _ _ ["subset"] 1 [] _ _ _ _ 2 _ _ _ rfl sc_z21.nd rfl rfl (Ap (K:=K) (AF G_z23 hr_z23 rfl T.m_z23 T.F_z23.kp T.b_z23 .nil AG (AA (vv 0) AB))) (by kernel_rfl) rfl rfl (by kernel_rfl) (fun c=>AN (i:=0) (show (["subset"]:List Str).Nodup by decide +kernel) rfl (by (first | exact Or.inl rfl | exact Or.inr rfl))) (AW (by decide)) (fun c=>Az) (fun c=>(AF G_z45 hr_z45 rfl T.m_z45 T.F_z45.kp T.b_z45 .nil AG (AA (vv 0) AB))) (by rfl) (by intro _;rfl)) (@AE _ _ _ _ _ (@Ay _ _ _ _ _ _ _ _ (AV (kEq (K:=K) hu) (Aa (Bu (K:=K)) rfl T.z_len (by rfl) (AA (vv 2) AB)) AC) (@AE _ _ _ _ _ (@AI _ _ 3 _ _ _ _ sc_z21.nd rfl (by (first | exact Or.inl rfl | exact Or.inr rfl)) (AF G_z44 hr_z44 rfl T.m_z44 T.F_z44.kp T.b_z44 .nil AG (AA (kIx (K:=K) (vv 0) AC) (AA (AF G_z15 hr_z15 rfl T.m_z15 T.F_z15.kp T.b_z15 .nil AG (AA (vv 0) AB)) (AA (vv 1) AB)))) (by rfl) (by (first | exact .inl rfl | exact .inr rfl | assumption))) (@AL _ _ _ (@AO _ _ _ _ (BD (AA (vv 3) (AA (vv 3) AB)))))) Ax) (@AL _ _ _ (@AO _ _ _ _ (BD (AA (AF G_z17 hr_z17 rfl T.m_z17 T.F_z17.kp T.b_z17 .nil AG (AA (vv 0) (AA (Aa (KN (K:=K) rfl) rfl T.z_max (by rfl) (AA (vv 2) AB)) (AA (vv 1) AB)))) (AA (AF G_z17 hr_z17 rfl T.m_z17 T.F_z17.kp T.b_z17 .nil AG (AA (vv 0) (AA (Aa (Mp (K:=K) rfl) rfl T.z_min (by rfl) (AA (vv 2) AB)) (AA (vv 1) AB)))) AB))))))),?_⟩
 unfold StW at q
 refine AT (fun σ H'=>∃ l:Addr,σ=[some (.ref a),some (.ref ps),some (.ref l),none]/\Same H H'/\H' l=some (.lst (iL ((Af m ts (2 ^ m)).map (manyF m))))) ?_ ?_ (by (repeat' with_reducible first | exact Q5 | apply RK | apply QB | apply Mz | apply RP | apply Lo | apply MG | apply QK | exact Qg | exact MY | apply Mh | apply Of | apply Pk | apply Pf | apply Ny | apply OC | apply OY | apply M3 | apply Qz | exact Qc | exact Ph | exact QE | exact P4 | exact L7 | exact MJ | exact Lh | exact MC | exact L3 | exact Lw | apply Nl | apply Oc | apply OX | exact Qb | apply P2 | exact PZ | exact Qr | exact O3 | exact Q9 | exact Lz | apply Oy | apply Qo | apply Pp | exact As | apply CL | exact BI | exact Py | exact QF | apply Lq | apply Nm | exact NC | apply Lu | exact Qp | apply LQ | apply OD | exact NG | apply OR | exact QD | exact OI | exact Pw | exact Nk | apply PV | exact Nx | apply OS | assumption))
 ·refine ⟨m,ts,S,G,fun l H2 nl s2 g2=>.inl ⟨⟨_,.of g2⟩,?_⟩⟩
  have hmem:=fun {k:Nat} (h:k∈Af m ts (2 ^ m))=>(darkL_mem.mp h).1
  generalize Af m ts (2 ^ m)=ds at *
  refine CQ (xs:=iL ds) (fun i ys H'=>H'=H2/\ys=iL ((ds.take i).map (manyF m))) ⟨rfl,rfl⟩ (fun i ys H' _ ⟨e,_⟩=>by rw [e];exact .of g2) (fun i ys H' hi ⟨_,e⟩=>by
   rw [Ak] at hi
   rw [e,Ak,List.length_map,List.length_take];exact Ag (by lia)) ?_ ?_
  ·rintro i x ys H' hx ⟨rfl,rfl⟩
   obtain ⟨k,hk,hkm,rfl⟩:=CG hx
   have hk2:=hmem hkm
   refine ⟨k,rfl,Nat.lt_of_lt_of_le (show k < 64 by lia) (by decide),rfl,?_⟩
   rw [Cw hk2 (by lia),List.take_add_one,hk,List.map_append,CP]
   rfl
  ·rintro ys H' ⟨rfl,rfl⟩ lp hlp
   rw [Ak,List.take_length]
   exact ⟨lp,rfl,s2.trans (Same.upd hlp),AH⟩
 rintro σ H1 ⟨l,rfl,s1,g1⟩
 have hmem:=fun {k:Nat} (h:k∈Af m ts (2 ^ m))=>(darkL_mem.mp h).1
 generalize Af m ts (2 ^ m)=ds at *
 by_cases c:ds=[]
 ·refine ⟨ds.length,.inl ⟨_,.of g1,by rw [Ak,List.length_map]⟩,?_⟩
  refine ite2 (fun _=>?_) (fun e=>absurd (by rw [c];rfl) e)
  refine ⟨_,.int m,.inr (s1.sqT ha),rfl,m,ts,S.same s1,G,fun l2 H2 nl2 s2 g2=>?_⟩
  have s12:=s1.trans s2
  refine ⟨m,lvT m ts,x,y,rfl,hm.2,fun j _=>Fg G j,.of g2,s12.sqT hps,y0,hx,hy,fun p H3 np s3 g3=>?_⟩
  dsimp only [AQ]
  refine ⟨Ac (show 2<=1000 by decide),fun p2 n2=>?_⟩
  have s4:=Same.upd (o:=.tup [.ref p,.ref p]) n2
  exact q _ _ _ _ (s12.trans (s3.trans s4)) (BJ AH (Ae (B0 (s4 _ _ g3)) (Ae (B0 (s4 _ _ g3)) At))) (.inl ⟨c,rfl,rfl⟩)
 ·have hpos:0 < (ds.map (manyF m)).length:=by rw [List.length_map];exact List.length_pos_iff.mpr c
  have ei:iL (ds.map (manyF m))=((ds.map (manyF m)).map fun (r:Nat)=>(r:Int)).map V.int:=HI _
  refine ⟨ds.length,.inl ⟨_,.of g1,by rw [Ak,List.length_map]⟩,?_⟩
  refine ite2 (fun e=>?_) (fun _=>?_)
  ·have e:((ds.length:Nat):Int)=0:=by simpa using e
   rw [List.length_map] at hpos
   lia
  have hbd:∀ k∈ds.map (manyF m),k<=m:=fun k hk=>by
   obtain ⟨z,_,rfl⟩:=List.mem_map.mp hk
   exact Co m z
  refine ⟨_,by rw [<- ei];exact .of g1,by rw [List.length_map];exact hpos,fun M hM hmax=>?_⟩
  obtain ⟨k1,hk1,rfl⟩:=List.mem_map.mp hM
  refine ⟨m,k1,ts,x,y,S.same s1,G,rfl,hbd k1 hk1,s1.sqT hps,y0,hx,hy,fun v1 H2 s2 r1=>?_⟩
  refine ⟨_,by rw [<- ei];exact .of (s2 _ _ g1),by rw [List.length_map];exact hpos,fun M hM hmin=>?_⟩
  obtain ⟨k2,hk2,rfl⟩:=List.mem_map.mp hM
  have s12:=s1.trans s2
  refine ⟨m,k2,ts,x,y,S.same s12,G,rfl,hbd k2 hk2,s12.sqT hps,y0,hx,hy,fun v2 H3 s3 r2=>?_⟩
  refine ⟨Ac (show 2<=1000 by decide),fun p2 n2=>?_⟩
  have s4:=Same.upd (o:=.tup [v1,v2]) n2
  refine q _ _ _ _ (s12.trans (s3.trans s4)) (BJ AH (Ae (Rep.same (s3.trans s4) _ _ r1) (Ae (Rep.same s4 _ _ r2) At))) (.inr ⟨k1,k2,hk1,hk2,fun k hk=>?_,rfl,rfl⟩)
  have h1:=hmax _ (List.mem_map.mpr ⟨_,List.mem_map.mpr ⟨k,hk,rfl⟩,rfl⟩)
  have h2:=hmin _ (List.mem_map.mpr ⟨_,List.mem_map.mpr ⟨k,hk,rfl⟩,rfl⟩)
  lia
noncomputable def EK:Sp:=fun vs H Q _=>match vs with
 | [.int x,.int y]=>∃ a b:Nat,x=a/\y=b/\Q (.bl (decide (a &&& b=a))) H
 | _=>False
theorem MV:AK EK:=fun vs H Q Q' E h q=>by
 unfold EK at *
 split at q
 ·revert q;repeat' first | exact h _ _ | exact A4 h | exact out_mono h | exact outT_mono h | (with_reducible first | refine Exists.imp fun _=>?_ | refine And.imp_right ?_ | refine forall_imp fun _=>?_)
 ·exact q.elim
theorem PU:FnOk P w K mg base CX0 1 T.f_z50 T.d_z50 ["subset","other"] EK:=by
 refine T.F_z50.ok PD (fun vs H Q E h=>by unfold EK at h;split at h <;> first | rfl | exact h.elim) (fun cdv A outer s H vs Q E hr h=>?_)
 have hu:=Ab hr
 unfold EK at h
 split at h
 rotate_left
 ·exact h.elim
 rename_i x y
 obtain ⟨a,b,e1,e2,q⟩:=h
 subst e1 e2
 refine ⟨_,(@AL _ _ _ (@AO _ _ _ _ (C2 (kEq (K:=K) hu) (AD CI (vv 0) (vv 1)) (vv 0)))),?_⟩
 have e:(false ^^ (Builtin.bitAnd (a:Int) (b:Int) == (a:Int)))=decide (a &&& b=a):=by
  rw [CZ,Bool.false_xor,Bool.eq_iff_iff]
  simp only [beq_iff_eq,decide_eq_true_eq]
  lia
 show Q (.bl (false ^^ (Builtin.bitAnd (a:Int) (b:Int) == (a:Int)))) H
 rw [e]
 exact q
noncomputable def Jx (v:Nat->Int) (o i r:Nat):Int:=sumTo (fun q=>if q &&& o=r then v q else 0) i
structure CntAt (v:Nat->Int) (o i:Nat) (kvs:List (Key × V)):Prop where
 len:kvs.length<=i
 all:∀ r:Nat,BA kvs (.inl (r:Int))=none/\Jx v o i r=0\/BA kvs (.inl (r:Int))=some (.int (Jx v o i r))
 has:∀ q,q < i->BA kvs (.inl ((q &&& o:Nat):Int))≠none
noncomputable def A3 (m k n:Nat):List Nat:=(List.range n).filter fun s=>decide (manyF m s=k)
theorem En (m k n:Nat):A3 m k (n+1)=A3 m k n++(if manyF m n=k then [n] else []):=by
 unfold A3
 rw [List.range_succ,List.filter_append]
 congr 1
 by_cases h:manyF m n=k
 ·rw [if_pos h];simp [h]
 ·rw [if_neg h];simp [h]
theorem FZ (m k n:Nat):(A3 m k n).length<=n:=by
 unfold A3
 exact Nat.le_trans (List.length_filter_le _ _) (by rw [List.length_range];exact Nat.le_refl _)
noncomputable def B9:Sp:=fun vs H Q _=>match vs with
 | [.int x,.int y]=>∃ m k:Nat,x=m/\y=k/\m<=6/\Ey H Q (iL (A3 m (min m k) (2 ^ m)))
 | _=>False
theorem J8:AK B9:=fun vs H Q Q' E h q=>by
 unfold B9 at *
 split at q
 ·revert q;repeat' first | exact h _ _ | exact A4 h | exact out_mono h | exact outT_mono h | (with_reducible first | refine Exists.imp fun _=>?_ | refine And.imp_right ?_ | refine forall_imp fun _=>?_)
 ·exact q.elim
theorem OL:FnOk P w K mg base CX0 3 T.f_z46 T.d_z46 ["n","k"] B9:=by
 have G_z51:=Cz (P:=P) (w:=w) (base:=base) T;have G_z45:=Fh (P:=P) (w:=w) (base:=base) T
 refine T.F_z46.ok sc_z46 (fun vs H Q E h=>by unfold B9 at h;split at h <;> first | rfl | exact h.elim) (fun cdv A outer s H vs Q E hr h=>?_)
 have hu:=Ab hr
 have mo1:AK Cn:=GP
 have mo2:AK BN:=Cc
 have hr_z51:=hr.mono (show 2<=_ by decide);have hr_z45:=hr.mono (show 1<=_ by decide)
 unfold B9 at h
 split at h
 rotate_left
 ·exact h.elim
 rename_i x y
 obtain ⟨m,k,e1,e2,m6,q⟩:=h
 subst e1 e2
 have h64:2 ^ m<=64:=Nat.pow_le_pow_right (n:=2) (by decide) m6
 have i0:(0:Int)<=((2 ^ m:Nat):Int):=Int.natCast_nonneg _
 have i1:((2 ^ m:Nat):Int)<=64:=Int.ofNat_le.mpr h64
 refine ⟨_,(@AE _ _ _ _ _ (@AI _ _ 2 _ _ _ _ sc_z46.nd rfl (by (first | exact Or.inl rfl | exact Or.inr rfl)) (Aa (PK rfl) rfl T.z_min (by rfl) (AA (vv 0) (AA (vv 1) AB))) (by rfl) (by (first | exact .inl rfl | exact .inr rfl | assumption))) (@AL _ _ _ (@AO _ _ _ _ (@Aw _ _ _ _ _ _ _ (["subset","many"]) 1 [2] _ _ _ _ rfl (A9 rfl T.z_range (AA (AF G_z51 hr_z51 rfl T.m_z51 T.F_z51.kp T.b_z51 .nil AG (AA (vv 0) AB)) AB)) (by kernel_rfl) rfl rfl (by kernel_rfl) (fun c=>AN (i:=0) (show (["subset","many"]:List Str).Nodup by decide +kernel) rfl (by (first | exact Or.inl rfl | exact Or.inr rfl))) (AW (by decide)) (fun c=>Bi (AV (kEq (K:=K) hu) (AF G_z45 hr_z45 rfl T.m_z45 T.F_z45.kp T.b_z45 .nil AG (AA (vv 0) AB)) (vv 1))) (fun c=>(vv 0)) (by intro _;rfl))))),?_⟩
 have em:min (m:Int) (k:Int)=((min m k:Nat):Int):=by lia
 refine AT (fun σ H'=>σ=[some (.int m),some (.int k),some (.int ((min m k:Nat):Int))]/\H=H') ?_ ?_ (by (repeat' with_reducible first | exact Q5 | apply RK | apply QB | apply Mz | apply RP | apply Lo | apply MG | apply QK | exact Qg | exact MY | apply Mh | apply Of | apply Pk | apply Pf | apply Ny | apply OC | apply OY | apply M3 | apply Qz | exact Qc | exact Ph | exact QE | exact P4 | exact L7 | exact MJ | exact Lh | exact MC | exact L3 | exact Lw | apply Nl | apply Oc | apply OX | exact Qb | apply P2 | exact PZ | exact Qr | exact O3 | exact Q9 | exact Lz | apply Oy | apply Qo | apply Pp | exact As | apply CL | exact BI | exact Py | exact QF | apply Lq | apply Nm | exact NC | apply Lu | exact Qp | apply LQ | apply OD | exact NG | apply OR | exact QD | exact OI | exact Pw | exact Nk | apply PV | exact Nx | apply OS | assumption))
 ·exact ⟨by rw [<- em];rfl,rfl⟩
 rintro σ _ ⟨rfl,rfl⟩
 refine ⟨m,rfl,by lia,((2 ^ m:Nat):Int),rfl,by lia,by lia,?_⟩
 refine Ba (fun i ys H'=>H'=H/\ys=iL (A3 m (min m k) i)) ⟨rfl,rfl⟩ (fun i ys H' hi ⟨_,e⟩=>by
  have:=FZ m (min m k) i
  rw [e,Ak];exact Ag (by lia)) ?_ ?_
 ·rintro i ys H' hi ⟨rfl,rfl⟩
  have hi':i < 2 ^ m:=by lia
  rw [show (0:Int)+(i:Int)=(i:Int) from Int.zero_add _]
  refine ⟨i,rfl,by lia,?_⟩
  rw [Cw hi' (by lia)]
  have eb:(false ^^ (((manyF m i:Nat):Int) == ((min m k:Nat):Int)))=decide (manyF m i=min m k):=by
   rw [Bool.false_xor,Bool.eq_iff_iff]
   simp only [beq_iff_eq,decide_eq_true_eq]
   lia
  refine ite2 (fun e=>?_) (fun e=>?_)
  ·have e':manyF m i=min m k:=of_decide_eq_true (eb ▸ e)
   refine ⟨rfl,?_⟩
   rw [En,if_pos e',CP]
   rfl
  ·have e':¬ manyF m i=min m k:=fun z=>e (eb.symm ▸ decide_eq_true z)
   refine ⟨rfl,?_⟩
   rw [En,if_neg e',List.append_nil]
 ·rintro ys H' ⟨rfl,rfl⟩ l hl
  rw [Int.toNat_natCast]
  exact q l _ hl (Same.upd hl) AH
theorem KH:∀ m j,j<=m->∃ s,s < 2 ^ m/\manyF m s=j
 | 0,j,h=>⟨0,by decide,by have:j=0:=by lia
                          subst this;rfl⟩
 | m+1,0,_=>⟨0,Nat.two_pow_pos _,DN _⟩
 | m+1,j+1,h=>by
  obtain ⟨s,h1,h2⟩:=KH m j (by lia)
  refine ⟨2 * s+1,by rw [Nat.pow_succ];lia,?_⟩
  show (2 * s+1) % 2+manyF m ((2 * s+1) / 2)=j+1
  rw [show (2 * s+1) / 2=s by lia,h2]
  lia
theorem HM:∀ m s,s < 2 ^ m->(manyF m s=m ↔ s=2 ^ m - 1)
 | 0,s,h=>by
  have:s=0:=by rw [Nat.pow_zero] at h;lia
  subst this
  exact ⟨fun _=>rfl,fun _=>rfl⟩
 | m+1,s,h=>by
  have hp:2 ^ (m+1)=2 * 2 ^ m:=by rw [Nat.pow_succ];lia
  have h0:=Nat.two_pow_pos m
  have ih:=HM m (s / 2) (by lia)
  have hl:=Co m (s / 2)
  show s % 2+manyF m (s / 2)=m+1 ↔ _
  rw [hp] at *
  generalize 2 ^ m=M at *
  constructor
  ·intro e
   have:=ih.mp (by lia)
   lia
  ·intro e
   have:=ih.mpr (by lia)
   lia
theorem QV (m:Nat):A3 m m (2 ^ m)=[2 ^ m - 1]:=by
 have h0:=Nat.two_pow_pos m
 have e:A3 m m (2 ^ m - 1)=[]:=by
  unfold A3
  rw [List.filter_eq_nil_iff]
  intro x hx
  have hx:=List.mem_range.mp hx
  have:=(HM m x (by lia))
  simp only [decide_eq_true_eq]
  lia
 have e2:A3 m m (2 ^ m - 1+1)=[2 ^ m - 1]:=by
  rw [En,e,if_pos ((HM m _ (by lia)).mpr rfl)]
  rfl
 rw [show 2 ^ m - 1+1=2 ^ m by lia] at e2
 exact e2
theorem Ix (m k:Nat):0 < (A3 m (min m k) (2 ^ m)).length:=by
 obtain ⟨s,h1,h2⟩:=KH m (min m k) (by lia)
 refine List.length_pos_of_mem (a:=s) ?_
 unfold A3
 exact List.mem_filter.mpr ⟨List.mem_range.mpr h1,decide_eq_true h2⟩
theorem MR:FnOk P w K mg base CX0 2 T.f_z38 T.d_z38 ["_law_n_here","_law_k"] B9:=by
 have G_z39:=EW (P:=P) (w:=w) (base:=base) T
 refine T.F_z38.ok NY (fun vs H Q E h=>by unfold B9 at h;split at h <;> first | rfl | exact h.elim) (fun cdv A outer s H vs Q E hr h=>?_)
 have hu:=Ab hr
 have mo2:AK BN:=Cc
 have hr_z39:=hr.mono (show 1<=_ by decide)
 unfold B9 at h
 split at h
 rotate_left
 ·exact h.elim
 rename_i x y
 obtain ⟨m,k,e1,e2,m6,q⟩:=h
 subst e1 e2
 have h64:2 ^ m<=64:=Nat.pow_le_pow_right (n:=2) (by decide) m6
 have i1:((2 ^ m:Nat):Int)<=64:=Int.ofNat_le.mpr h64
 have i0:(0:Int)<=((2 ^ m:Nat):Int):=Int.natCast_nonneg _
 have esh:(1:Int) * 2 ^ ((m:Int)).toNat=((2 ^ m:Nat):Int):=by rw [Int.one_mul,Int.toNat_natCast,Int.natCast_pow];rfl
 have hsh:C3 1 (m:Int):=⟨by lia,by lia,by decide⟩
 refine ⟨_,(@AE _ _ _ _ _ (@Ay _ _ _ _ _ _ _ _ (AV KG (vv 1) (vv 0)) (@AL _ _ _ (@AO _ _ _ _ (@Bq _ _ _ _ (AA (AD BW (AD CC AC (vv 0)) AC) AB)))) Ax) (@AL _ _ _ (@AO _ _ _ _ (@Aw _ _ _ _ _ _ _ (["_law_some","_law_k"]) 1 [1] _ _ _ _ rfl (A9 rfl T.z_range (AA (AD CC AC (vv 0)) AB)) (by kernel_rfl) rfl rfl (by kernel_rfl) (fun c=>AN (i:=0) (show (["_law_some","_law_k"]:List Str).Nodup by decide +kernel) rfl (by (first | exact Or.inl rfl | exact Or.inr rfl))) (AW (by decide)) (fun c=>Bi (AV (kEq (K:=K) hu) (AF G_z39 hr_z39 rfl T.m_z39 T.F_z39.kp T.b_z39 .nil AG (AA (vv 0) AB)) (vv 1))) (fun c=>(vv 0)) (by intro _;rfl))))),?_⟩
 refine ite2 (fun e=>?_) (fun e=>?_)
 ·have hk:m<=k:=by have:(m:Int)<=(k:Int):=of_decide_eq_true e;lia
  refine ⟨hsh,Ac (show 1<=1000 by decide),fun p hp=>q p _ hp (Same.upd hp) ?_⟩
  rw [AH,esh,Nat.min_eq_left hk,QV]
  have h0:=Nat.two_pow_pos m
  generalize 2 ^ m=M at *
  have:(M:Int) - 1=((M - 1:Nat):Int):=by lia
  rw [this]
  rfl
 ·have hk:k < m:=by
   have:¬ (m:Int)<=(k:Int):=fun z=>e (decide_eq_true z)
   lia
  rw [Nat.min_eq_right (Nat.le_of_lt hk)] at q
  dsimp only [E7]
  refine ⟨hsh,?_⟩
  rw [esh]
  refine ⟨_,rfl,by lia,by lia,?_⟩
  refine Ba (fun i ys H'=>H'=H/\ys=iL (A3 m k i)) ⟨rfl,rfl⟩ (fun i ys H' hi ⟨_,e⟩=>by
   have:=FZ m k i
   rw [e,Ak];exact Ag (by lia)) ?_ ?_
  ·rintro i ys H' hi ⟨rfl,rfl⟩
   have hi':i < 2 ^ m:=by lia
   rw [show (0:Int)+(i:Int)=(i:Int) from Int.zero_add _]
   refine ⟨i,rfl,by lia,?_⟩
   rw [Cw hi' (by lia)]
   have eb:(false ^^ (((manyF m i:Nat):Int) == (k:Int)))=decide (manyF m i=k):=by
    rw [Bool.false_xor,Bool.eq_iff_iff]
    simp only [beq_iff_eq,decide_eq_true_eq]
    lia
   refine ite2 (fun e=>?_) (fun e=>?_)
   ·have e':manyF m i=k:=of_decide_eq_true (eb ▸ e)
    refine ⟨rfl,?_⟩
    rw [En,if_pos e',CP]
    rfl
   ·have e':¬ manyF m i=k:=fun z=>e (eb.symm ▸ decide_eq_true z)
    refine ⟨rfl,?_⟩
    rw [En,if_neg e',List.append_nil]
  ·rintro ys H' ⟨rfl,rfl⟩ l hl
   rw [Int.toNat_natCast]
   exact q l _ hl (Same.upd hl) AH
structure RsAt (o i:Nat) (rs:List Nat):Prop where
 nd:rs.Nodup
 has:∀ p,p < i->(p &&& o)∈rs
 only:∀ r∈rs,∃ p,p < i/\p &&& o=r
 len:rs.length<=i
theorem GO {c:TT} {t u:TS} {D:Ends} {σ:St} {H:Hp} (b:Bool) (hc:∀ Q:Bool->Hp->Prop,(∀ H',Same H H'->Q b H')->c σ H Q) (h:∀ H',Same H H'->if b=true then t D σ H' else u D σ H'):GA c t u D σ H:=hc _ h
noncomputable def Bh (ts:List (Nat × Int)) (o:Nat):Int:=Am (fun k w=>if k &&& o=k then w * w else 0) ts
noncomputable def inO (m:Nat) (ts:List (Nat × Int)) (o:Nat):Bool:=(Af m ts (2 ^ m)).any fun k=>decide (k &&& o=k)
noncomputable def mostT (m:Nat) (ts:List (Nat × Int)) (o:Nat):Int:=if inO m ts o=true then Bh ts o+A2 m ts else Bh ts o
theorem Gl.seen {m:Nat} {ts:List (Nat × Int)} (G:Gl m ts) (o:Nat):0<=Bh ts o/\Bh ts o<=262144:=by
 have h:=Em (f:=fun k w=>if k &&& o=k then w * w else 0) (ts:=ts) fun q hq=>by
  have:=Eh (G.ok q hq).2
  show 0<=(if q.1 &&& o=q.1 then q.2 * q.2 else 0)/\(if q.1 &&& o=q.1 then q.2 * q.2 else 0)<=4096
  split <;> lia
 have:=G.len
 unfold Bh
 lia
noncomputable def DE (K:W.Frag):Sp:=fun vs H Q _=>match vs with
 | [x0,.int z]=>∃ (m o:Nat) (ts:List (Nat × Int)),SumAt K H x0 m ts/\Gl m ts/\z=o/\∀ H',Same H H'->Q (.int (mostT m ts o)) H'
 | _=>False
theorem OP:AK (DE K):=fun vs H Q Q' E h q=>by
 unfold DE at *
 split at q
 ·revert q;repeat' first | exact h _ _ | exact A4 h | exact out_mono h | exact outT_mono h | (with_reducible first | refine Exists.imp fun _=>?_ | refine And.imp_right ?_ | refine forall_imp fun _=>?_)
 ·exact q.elim
theorem NJ:FnOk P w K mg base CX0 4 T.f_z14 T.d_z14 ["glance","outer"] (DE K):=by
 have G_z50:=PU (P:=P) (w:=w) (base:=base) T;have G_z47:=GI (P:=P) (w:=w) (base:=base) T;have G_z23:=GB (P:=P) (w:=w) (base:=base) T
 refine T.F_z14.ok sc_z14 (fun vs H Q E h=>by unfold DE at h;split at h <;> first | rfl | exact h.elim) (fun cdv A outer s H vs Q E hr h=>?_)
 have hu:=Ab hr
 have mo1:AK (BX K):=D7
 have mo2:AK (Bb K):=DS
 have mo3:AK EK:=MV
 have hr_z50:=hr.mono (show 1<=_ by decide);have hr_z47:=hr.mono (show 3<=_ by decide);have hr_z23:=hr.mono (show 3<=_ by decide)
 unfold DE at h
 split at h
 rotate_left
 ·exact h.elim
 rename_i x0 z
 obtain ⟨m,o,ts,S,G,e1,q⟩:=h
 subst e1
 obtain ⟨a,b,us,rfl,ha,hb,hR⟩:=id S.at_
 have hul:us.length=ts.length:=by have:=hR.length;rw [List.length_map] at this;lia
 have htl:=G.len
 have hm:=G.m6
 have h64:2 ^ m<=64:=Nat.pow_le_pow_right (n:=2) (by decide) hm.2
 have hdl:=Cg m ts (2 ^ m)
 refine ⟨_,(@AE _ _ _ _ _ (@AI _ _ 2 _ _ _ _ sc_z14.nd rfl (by (first | exact Or.inl rfl | exact Or.inr rfl)) (Aa (Ch (K:=K) rfl) rfl T.z_sum (by rfl) (AA (Aw (N':=["subset","weight","outer"]) (own:=2) (ix:=[1]) rfl (Ap (K:=K) (kIx (K:=K) (vv 0) AC)) (by kernel_rfl) rfl rfl (by kernel_rfl) (fun c=>Cf (K:=K) (n:=2) rfl (A1 (AN (i:=0) (show (["subset","weight","outer"]:List Str).Nodup by decide +kernel) rfl (by (first | exact Or.inl rfl | exact Or.inr rfl))) (A1 (AN (i:=1) (show (["subset","weight","outer"]:List Str).Nodup by decide +kernel) rfl (by (first | exact Or.inl rfl | exact Or.inr rfl))) Bw))) (Cm (BM As (CL As BI) (AW (by decide)) (BM As BI (AW (by decide)) Ck))) (fun c=>Bi (Fo (AF G_z50 hr_z50 rfl T.m_z50 T.F_z50.kp T.b_z50 .nil AG (AA (vv 0) (AA (vv 2) AB))))) (fun c=>(AD AR (vv 1) (vv 1)))) AB)) (by rfl) (by (first | exact .inl rfl | exact .inr rfl | assumption))) (@AE _ _ _ _ _ (@Ay _ _ _ _ _ _ _ _ (Fo (Aa (Jh (K:=K) rfl) rfl T.z_any (by rfl) (AA (Aw (N':=["subset","outer"]) (own:=1) (ix:=[1]) rfl (Ap (K:=K) (AF G_z23 hr_z23 rfl T.m_z23 T.F_z23.kp T.b_z23 .nil AG (AA (vv 0) AB))) (by kernel_rfl) rfl rfl (by kernel_rfl) (fun c=>AN (i:=0) (show (["subset","outer"]:List Str).Nodup by decide +kernel) rfl (by (first | exact Or.inl rfl | exact Or.inr rfl))) (AW (by decide)) (fun c=>Az) (fun c=>(AF G_z50 hr_z50 rfl T.m_z50 T.F_z50.kp T.b_z50 .nil AG (AA (vv 0) (AA (vv 1) AB))))) AB))) (@AL _ _ _ (@AO _ _ _ _ (AD (Aj (K:=K)) (vv 2) (AF G_z47 hr_z47 rfl T.m_z47 T.F_z47.kp T.b_z47 .nil AG (AA (vv 0) AB))))) Ax) (@AL _ _ _ (@AO _ _ _ _ (vv 2))))),?_⟩
 refine AT (fun σ H'=>σ=[some (.ref a),some (.int (o:Int)),some (.int (Bh ts o))]/\Same H H') ?_ ?_ (by (repeat' with_reducible first | exact Q5 | apply RK | apply QB | apply Mz | apply RP | apply Lo | apply MG | apply QK | exact Qg | exact MY | apply Mh | apply Of | apply Pk | apply Pf | apply Ny | apply OC | apply OY | apply M3 | apply Qz | exact Qc | exact Ph | exact QE | exact P4 | exact L7 | exact MJ | exact Lh | exact MC | exact L3 | exact Lw | apply Nl | apply Oc | apply OX | exact Qb | apply P2 | exact PZ | exact Qr | exact O3 | exact Q9 | exact Lz | apply Oy | apply Qo | apply Pp | exact As | apply CL | exact BI | exact Py | exact QF | apply Lq | apply Nm | exact NC | apply Lu | exact Qp | apply LQ | apply OD | exact NG | apply OR | exact QD | exact OI | exact Pw | exact Nk | apply PV | exact Nx | apply OS | assumption))
 ·refine ⟨_,.ref b,.inr ha,rfl,.inr ⟨⟨_,hb⟩,?_⟩⟩
  let f:Nat->Int->List Int:=fun k w=>if k &&& o=k then [w * w] else []
  have fl:∀ k w,(f k w).length<=1:=fun k w=>by show (if k &&& o=k then [w * w] else []).length<=1;split <;> simp
  refine Bv (xs:=us) (fun i ys H'=>H'=H/\ys=(BH f (ts.take i)).map V.int) ⟨rfl,rfl⟩ (fun i ys H' _ ⟨e,_⟩=>by rw [e];exact hb) (fun i ys H' hi ⟨_,e⟩=>by
   have:=Ea fl (ts.take i)
   rw [List.length_take] at this
   rw [e,List.length_map];exact Ag (by lia)) ?_ ?_
  ·rintro i x ys H' hx ⟨rfl,rfl⟩
   obtain ⟨⟨k,wgt⟩,c,hq,rfl,hc⟩:=BU hR hx
   have hgk : -64<=wgt/\wgt<=64:=(G.ok _ (List.mem_of_getElem? hq)).2
   refine ⟨c,_,rfl,hc,rfl,_,_,rfl,_,_,rfl,rfl,k,o,rfl,rfl,?_⟩
   refine ite2 (fun e=>?_) (fun e=>?_)
   ·have e:=of_decide_eq_true e
    refine ⟨.inr (.inl ⟨by lia,by lia⟩),rfl,?_⟩
    rw [C5 hq,List.map_append]
    show _=_++(if k &&& o=k then [wgt * wgt] else []).map V.int
    rw [if_pos e]
    rfl
   ·have e:¬ k &&& o=k:=fun z=>e (decide_eq_true z)
    refine ⟨rfl,?_⟩
    rw [C5 hq,List.map_append]
    show _=_++(if k &&& o=k then [wgt * wgt] else []).map V.int
    rw [if_neg e,List.map_nil,List.append_nil]
  ·rintro ys H' ⟨rfl,rfl⟩ lp hlp
   rw [List.take_of_length_le (by lia)]
   refine ⟨_,.of AH,?_⟩
   rw [Ek]
   have es:Am (fun k w=>(f k w).sum) ts=Bh ts o:=by
    unfold Bh
    congr 1
    funext k w
    show ((if k &&& o=k then [w * w] else []):List Int).sum=_
    split <;> simp
   rw [es]
   exact ⟨rfl,Same.upd hlp⟩
 rintro σ H1 ⟨rfl,s1⟩
 unfold mostT at q
 refine AT (fun σ H'=>σ=[some (.ref a),some (.int (o:Int)),some (.int (Bh ts o))]/\Same H H'/\inO m ts o=false) ?_ ?_ (by (repeat' with_reducible first | exact Q5 | apply RK | apply QB | apply Mz | apply RP | apply Lo | apply MG | apply QK | exact Qg | exact MY | apply Mh | apply Of | apply Pk | apply Pf | apply Ny | apply OC | apply OY | apply M3 | apply Qz | exact Qc | exact Ph | exact QE | exact P4 | exact L7 | exact MJ | exact Lh | exact MC | exact L3 | exact Lw | apply Nl | apply Oc | apply OX | exact Qb | apply P2 | exact PZ | exact Qr | exact O3 | exact Q9 | exact Lz | apply Oy | apply Qo | apply Pp | exact As | apply CL | exact BI | exact Py | exact QF | apply Lq | apply Nm | exact NC | apply Lu | exact Qp | apply LQ | apply OD | exact NG | apply OR | exact QD | exact OI | exact Pw | exact Nk | apply PV | exact Nx | apply OS | assumption))
 ·refine GO (inO m ts o) ?_ ?_
  ·intro Q q
   refine ⟨m,ts,S.same s1,G,fun l H2 nl s2 g2=>.inl ⟨⟨_,.of g2⟩,?_⟩⟩
   have hmem:=fun {k:Nat} (h:k∈Af m ts (2 ^ m))=>(darkL_mem.mp h).1
   unfold inO at q
   generalize Af m ts (2 ^ m)=ds at *
   refine CQ (xs:=iL ds) (fun i ys H'=>H'=H2/\ys=((ds.take i).map fun k=>decide (k &&& o=k)).map V.bl) ⟨rfl,rfl⟩ (fun i ys H' _ ⟨e,_⟩=>by rw [e];exact .of g2) (fun i ys H' hi ⟨_,e⟩=>by
    rw [Ak] at hi
    rw [e,List.length_map,List.length_map,List.length_take];exact Ag (by lia)) ?_ ?_
   ·rintro i x ys H' hx ⟨rfl,rfl⟩
    obtain ⟨k,hk,hkm,rfl⟩:=CG hx
    refine ⟨k,o,rfl,rfl,rfl,?_⟩
    rw [List.take_add_one,hk,List.map_append,List.map_append]
    rfl
   ·rintro ys H' ⟨rfl,rfl⟩ lp hlp
    rw [Ak,List.take_length]
    refine ⟨_,.of AH,?_⟩
    rw [List.any_map]
    exact q _ (s2.trans (Same.upd hlp))
  ·intro H2 s2
   refine ite2 (fun e=>?_) (fun e=>⟨rfl,s1.trans s2,by simpa using e⟩)
   rw [e] at q
   exact ⟨m,ts,S.same (s1.trans s2),G,fun H3 s3=>q _ ((s1.trans s2).trans s3)⟩
 rintro σ H2 ⟨rfl,s2,e⟩
 rw [e] at q
 exact q _ s2
theorem Gl.most {m:Nat} {ts:List (Nat × Int)} (G:Gl m ts) (hr:0<=A2 m ts) (o:Nat):0<=mostT m ts o:=by
 have:=G.seen o
 unfold mostT
 split <;> lia
noncomputable def CM (K:W.Frag):Sp:=fun vs H Q _=>match vs with
 | [x0,.int z]=>∃ (m k:Nat) (ts:List (Nat × Int)),SumAt K H x0 m ts/\Gl m ts/\0<=A2 m ts/\z=k/\∀ (d:Nat) (gr:Int) H',Same H H'->(∀ o∈A3 m (min m k) (2 ^ m),mostT m ts o<=gr)->(∃ o∈A3 m (min m k) (2 ^ m),mostT m ts o=gr)->(∀ d':Nat,d' < d->gr < (((2 ^ m:Nat):Int) - 2 * d') * (((2 ^ m:Nat):Int) - 2 * d'))->(((2 ^ m:Nat):Int) - 2 * d) * (((2 ^ m:Nat):Int) - 2 * d)<=gr->2 * d<=2 ^ m->Q (.int d) H'
 | _=>False
theorem Lj:AK (CM K):=fun vs H Q Q' E h q=>by
 unfold CM at *
 split at q
 ·revert q;repeat' first | exact h _ _ | exact A4 h | exact out_mono h | exact outT_mono h | (with_reducible first | refine Exists.imp fun _=>?_ | refine And.imp_right ?_ | refine forall_imp fun _=>?_)
 ·exact q.elim
theorem Mq:FnOk P w K mg base CX0 5 T.f_z16 T.d_z16 ["glance","k"] (CM K):=by
 have G_z51:=Cz (P:=P) (w:=w) (base:=base) T;have G_z14:=NJ (P:=P) (w:=w) (base:=base) T;have G_z46:=OL (P:=P) (w:=w) (base:=base) T
 refine T.F_z16.ok sc_z16 (fun vs H Q E h=>by unfold CM at h;split at h <;> first | rfl | exact h.elim) (fun cdv A outer s H vs Q E hr h=>?_)
 have hu:=Ab hr
 have mo1:AK (DE K):=OP
 have mo2:AK B9:=J8
 have hr_z51:=hr.mono (show 2<=_ by decide);have hr_z14:=hr.mono (show 4<=_ by decide);have hr_z46:=hr.mono (show 3<=_ by decide)
 unfold CM at h
 split at h
 rotate_left
 ·exact h.elim
 rename_i x0 z
 obtain ⟨m,k,ts,S,G,hr0,e1,q⟩:=h
 subst e1
 obtain ⟨a,b,us,rfl,ha,hb,hR⟩:=id S.at_
 have hm:=G.m6
 have h64:2 ^ m<=64:=Nat.pow_le_pow_right (n:=2) (by decide) hm.2
 have i1:((2 ^ m:Nat):Int)<=64:=Int.ofNat_le.mpr h64
 have hsl:=FZ m (min m k) (2 ^ m)
 have hsn:=Ix m k
 have hev:2 ^ m % 2=0:=by
  obtain ⟨j,rfl⟩:∃ j,m=j+1:=⟨m - 1,by lia⟩
  rw [Nat.pow_succ]
  lia
 refine ⟨_,(@AE _ _ _ _ _ (@AI _ _ 2 _ _ _ _ sc_z16.nd rfl (by (first | exact Or.inl rfl | exact Or.inr rfl)) (Aa (KN (K:=K) rfl) rfl T.z_max (by rfl) (AA (Aw (N':=["outer","glance"]) (own:=1) (ix:=[0]) rfl (Ap (K:=K) (AF G_z46 hr_z46 rfl T.m_z46 T.F_z46.kp T.b_z46 .nil AG (AA (kIx (K:=K) (vv 0) AC) (AA (vv 1) AB)))) (by kernel_rfl) rfl rfl (by kernel_rfl) (fun c=>AN (i:=0) (show (["outer","glance"]:List Str).Nodup by decide +kernel) rfl (by (first | exact Or.inl rfl | exact Or.inr rfl))) (AW (by decide)) (fun c=>Az) (fun c=>(AF G_z14 hr_z14 rfl T.m_z14 T.F_z14.kp T.b_z14 .nil AG (AA (vv 1) (AA (vv 0) AB))))) AB)) (by rfl) (by (first | exact .inl rfl | exact .inr rfl | assumption))) (@AE _ _ _ _ _ (@AI _ _ 3 _ _ _ _ sc_z16.nd rfl (by (first | exact Or.inl rfl | exact Or.inr rfl)) (AF G_z51 hr_z51 rfl T.m_z51 T.F_z51.kp T.b_z51 .nil AG (AA (kIx (K:=K) (vv 0) AC) AB)) (by rfl) (by (first | exact .inl rfl | exact .inr rfl | assumption))) (@AE _ _ _ _ _ (@AI _ _ 4 _ _ _ _ sc_z16.nd rfl (by (first | exact Or.inl rfl | exact Or.inr rfl)) AC (by rfl) (by (first | exact .inl rfl | exact .inr rfl | assumption))) (@AE _ _ _ _ _ (@EN _ _ _ _ _ _ PassesOwn.never (AV Ct (AD AR (vv 3) (vv 3)) (vv 2)) (@AE _ _ _ _ _ (@AI _ _ 3 _ _ _ _ sc_z16.nd rfl (by (first | exact Or.inl rfl | exact Or.inr rfl)) (AD BW (vv 3) AC) (by rfl) (by (first | exact .inl rfl | exact .inr rfl | assumption))) (@AL _ _ _ (@AI _ _ 4 _ _ _ _ sc_z16.nd rfl (by (first | exact Or.inl rfl | exact Or.inr rfl)) (AD (Aj (K:=K)) (vv 4) AC) (by rfl) (by (first | exact .inl rfl | exact .inr rfl | assumption)))))) (@AL _ _ _ (@AO _ _ _ _ (vv 4))))))),?_⟩
 refine AT (fun σ H'=>∃ gr:Int,σ=[some (.ref a),some (.int (k:Int)),some (.int gr),none,none]/\Same H H'/\(∀ o∈A3 m (min m k) (2 ^ m),mostT m ts o<=gr)/\∃ o∈A3 m (min m k) (2 ^ m),mostT m ts o=gr) ?_ ?_ (by (repeat' with_reducible first | exact Q5 | apply RK | apply QB | apply Mz | apply RP | apply Lo | apply MG | apply QK | exact Qg | exact MY | apply Mh | apply Of | apply Pk | apply Pf | apply Ny | apply OC | apply OY | apply M3 | apply Qz | exact Qc | exact Ph | exact QE | exact P4 | exact L7 | exact MJ | exact Lh | exact MC | exact L3 | exact Lw | apply Nl | apply Oc | apply OX | exact Qb | apply P2 | exact PZ | exact Qr | exact O3 | exact Q9 | exact Lz | apply Oy | apply Qo | apply Pp | exact As | apply CL | exact BI | exact Py | exact QF | apply Lq | apply Nm | exact NC | apply Lu | exact Qp | apply LQ | apply OD | exact NG | apply OR | exact QD | exact OI | exact Pw | exact Nk | apply PV | exact Nx | apply OS | assumption))
 ·refine ⟨_,.int m,.inr ha,rfl,m,k,rfl,rfl,hm.2,fun ls H1 hls s1 g1=>.inl ⟨⟨_,.of g1⟩,?_⟩⟩
  generalize A3 m (min m k) (2 ^ m)=ss at *
  refine CQ (xs:=iL ss) (fun i ys H'=>Same H1 H'/\ys=((ss.take i).map (mostT m ts)).map V.int) ⟨Same.refl _,rfl⟩ (fun i ys H' _ ⟨s,_⟩=>.of (s _ _ g1)) (fun i ys H' hi ⟨_,e⟩=>by
   rw [Ak] at hi
   rw [e,List.length_map,List.length_map,List.length_take];exact Ag (by lia)) ?_ ?_
  ·rintro i x ys H' hx ⟨s2,rfl⟩
   obtain ⟨o,ho,hom,rfl⟩:=CG hx
   refine ⟨m,o,ts,S.same (s1.trans s2),G,rfl,fun H3 s3=>⟨s2.trans s3,?_⟩⟩
   rw [List.take_add_one,ho,List.map_append,List.map_append]
   rfl
  ·rintro ys H' ⟨s2,rfl⟩ lp hlp
   rw [Ak,List.take_length]
   refine ⟨_,.of AH,by rw [List.length_map];exact hsn,fun M hM hmax=>⟨M,rfl,s1.trans (s2.trans (Same.upd hlp)),fun o ho=>hmax _ (List.mem_map.mpr ⟨o,ho,rfl⟩),?_⟩⟩
   obtain ⟨o,ho,e⟩:=List.mem_map.mp hM
   exact ⟨o,ho,e⟩
 rintro σ H1 ⟨gr,rfl,s1,hgr,o,ho,eo⟩
 have hg0:0<=gr:=by rw [<- eo];exact G.most hr0 o
 refine ⟨_,.int m,.inr (s1.sqT ha),rfl,m,rfl,by lia,?_⟩
 dsimp only [AQ]
 refine AT (fun σ H'=>σ=[some (.ref a),some (.int (k:Int)),some (.int gr),some (.int ((2 ^ m:Nat):Int)),some (.int 0)]/\H1=H') ⟨rfl,rfl⟩ ?_ (by (repeat' with_reducible first | exact Q5 | apply RK | apply QB | apply Mz | apply RP | apply Lo | apply MG | apply QK | exact Qg | exact MY | apply Mh | apply Of | apply Pk | apply Pf | apply Ny | apply OC | apply OY | apply M3 | apply Qz | exact Qc | exact Ph | exact QE | exact P4 | exact L7 | exact MJ | exact Lh | exact MC | exact L3 | exact Lw | apply Nl | apply Oc | apply OX | exact Qb | apply P2 | exact PZ | exact Qr | exact O3 | exact Q9 | exact Lz | apply Oy | apply Qo | apply Pp | exact As | apply CL | exact BI | exact Py | exact QF | apply Lq | apply Nm | exact NC | apply Lu | exact Qp | apply LQ | apply OD | exact NG | apply OR | exact QD | exact OI | exact Pw | exact Nk | apply PV | exact Nx | apply OS | assumption))
 rintro σ _ ⟨rfl,rfl⟩
 refine ⟨fun n σ H'=>∃ d:Nat,σ=[some (.ref a),some (.int (k:Int)),some (.int gr),some (.int (((2 ^ m:Nat):Int) - 2 * d)),some (.int d)]/\H'=H1/\2 * d<=2 ^ m/\(∀ d':Nat,d' < d->gr < (((2 ^ m:Nat):Int) - 2 * d') * (((2 ^ m:Nat):Int) - 2 * d'))/\n=2 ^ m - 2 * d,⟨_,0,by simp,rfl,by lia,fun d' h=>by lia,rfl⟩,?_⟩
 rintro n σ H' ⟨d,rfl,rfl,hd,hall,rfl⟩
 refine ⟨.inr (.inl ⟨by lia,by lia⟩),?_⟩
 refine ite2 (fun e=>?_) (fun e=>?_)
 ·have e:gr < (((2 ^ m:Nat):Int) - 2 * d) * (((2 ^ m:Nat):Int) - 2 * d):=of_decide_eq_true e
  have hlt:2 * d < 2 ^ m:=by
   rcases Nat.lt_or_ge (2 * d) (2 ^ m) with z | z
   ·exact z
   ·have z0:((2 ^ m:Nat):Int) - 2 * d=0:=by lia
    rw [z0] at e
    lia
  have e1:((2 ^ m:Nat):Int) - 2 * (d:Int) - 2=((2 ^ m:Nat):Int) - 2 * ((d+1:Nat):Int):=by lia
  refine ⟨2 ^ m - 2 * (d+1),by lia,d+1,?_,rfl,by lia,fun d' hd'=>?_,rfl⟩
  ·rw [<- e1]
   rfl
  ·rcases Nat.lt_or_ge d' d with z | z
   ·exact hall d' z
   ·have:d'=d:=by lia
    subst this
    exact e
 ·have e:¬ gr < (((2 ^ m:Nat):Int) - 2 * d) * (((2 ^ m:Nat):Int) - 2 * d):=fun z=>e (decide_eq_true z)
  exact q d gr _ s1 hgr ⟨o,ho,eo⟩ hall (by lia) hd
theorem QX {x y:Int} (hy:0 < y):shT x y * y=x * shB x y/\0 < shB x y:=by
 have hg:0 < (x.gcd y:Int):=by
  have:x.gcd y≠0:=fun e=>by
   have:=(Int.gcd_eq_zero_iff.mp e).2
   lia
  lia
 obtain ⟨a,ea⟩:=Int.gcd_dvd_left (a:=x) (b:=y)
 obtain ⟨b,eb⟩:=Int.gcd_dvd_right (a:=x) (b:=y)
 have e1:shT x y=a:=by
  unfold shT
  conv=>lhs;lhs;rw [ea]
  exact Int.mul_ediv_cancel_left _ (by lia)
 have e2:shB x y=b:=by
  unfold shB
  conv=>lhs;lhs;rw [eb]
  exact Int.mul_ediv_cancel_left _ (by lia)
 rw [e1,e2]
 generalize (x.gcd y:Int)=g at *
 refine ⟨by rw [eb,ea];ac_rfl,?_⟩
 rw [eb] at hy
 exact Int.pos_of_mul_pos_right hy (by lia)
theorem Ly (n:Nat) (bs:List Bool):sumTo (fun j=>wt n (AM bs) j * wt n (AM bs) j) (2 ^ n)=((2 ^ n:Nat):Int) * ((2 ^ n:Nat):Int):=by
 rw [IC]
 congr 1
 rw [Ar (g:=fun _=>1) fun x _=>by unfold AM Dd;cases bs.getD x false <;> rfl,K4,Int.mul_one]
theorem IY {N:Nat} (h:Nat->Int):∀ ks:List Nat,ks.Nodup->(∀ k∈ks,k < N)->sumTo h N=(ks.map h).sum+sumTo (fun k=>if k∈ks then 0 else h k) N
 | [],_,_=>by
  rw [List.map_nil,List.sum_nil,Int.zero_add]
  exact Ar fun k _=>by rw [if_neg (by simp)]
 | x::ks,nd,hk=>by
  obtain ⟨n1,n2⟩:=List.nodup_cons.mp nd
  rw [IY h ks n2 fun k hk'=>hk k (List.mem_cons_of_mem _ hk'),List.map_cons,List.sum_cons]
  have e:sumTo (fun k=>if k∈ks then 0 else h k) N=h x+sumTo (fun k=>if k∈x::ks then 0 else h k) N:=by
   have hp:=Ep (fun _=>h x) x N
   rw [if_pos (hk x List.mem_cons_self)] at hp
   rw [<- hp,E1]
   refine Ar fun k _=>?_
   by_cases c:x=k
   ·subst c
    rw [if_neg n1,if_pos rfl,if_pos List.mem_cons_self,Int.add_zero]
   ·rw [if_neg c,Int.zero_add]
    by_cases d:k∈ks
    ·rw [if_pos d,if_pos (List.mem_cons_of_mem _ d)]
    ·rw [if_neg d,if_neg (fun z=>(List.mem_cons.mp z).elim (fun z=>c z.symm) d)]
  rw [e]
  lia
theorem JB (m:Nat) (ts:List (Nat × Int)) (h:Nat->Int):∀ N,sumTo (fun k=>if k∈ts.map (·.1) then 0 else h k) N=((Af m ts N).map h).sum
 | 0=>rfl
 | N+1=>by
  show sumTo _ N+(if N∈ts.map (·.1) then 0 else h N)=_
  rw [JB m ts h N,Eu,List.map_append,List.sum_append]
  by_cases c:N∈ts.map (·.1)
  ·rw [if_pos c,if_pos (List.contains_iff_mem.mpr c)]
   rfl
  ·rw [if_neg c,if_neg (fun z=>c (List.contains_iff_mem.mp z))]
   simp
structure Has (m:Nat) (ts:List (Nat × Int)) (g:Nat->Int):Prop where
 nd:(ts.map (·.1)).Nodup
 hl:∀ q∈ts,q.1 < 2 ^ m
 hw:∀ q∈ts,g q.1=q.2
theorem Has.sum {m:Nat} {ts:List (Nat × Int)} {g:Nat->Int} (S:Has m ts g) (f:Nat->Int):sumTo (fun k=>f k * (g k * g k)) (2 ^ m)=Am (fun k w=>f k * (w * w)) ts+((Af m ts (2 ^ m)).map fun k=>f k * (g k * g k)).sum:=by
 rw [IY (fun k=>f k * (g k * g k)) (ts.map (·.1)) S.nd fun k hk=>by
  obtain ⟨q,hq,rfl⟩:=List.mem_map.mp hk
  exact S.hl q hq,JB m,CW,List.map_map]
 congr 2
 refine List.map_congr_left fun q hq=>?_
 show f q.1 * (g q.1 * g q.1)=f q.1 * (q.2 * q.2)
 rw [S.hw q hq]
theorem IS {f:Nat->Int}:∀ ks:List Nat,(∀ k∈ks,0<=f k)->0<=(ks.map f).sum
 | [],_=>Int.le_refl _
 | k::ks,h=>by
  have h1:=h k List.mem_cons_self
  have h2:=IS ks fun x hx=>h x (List.mem_cons_of_mem _ hx)
  rw [List.map_cons,List.sum_cons]
  lia
theorem NQ (x:Int):0<=x * x:=by
 rcases Int.le_total 0 x with h | h
 ·exact Int.mul_nonneg h h
 ·exact Int.mul_nonneg_of_nonpos_of_nonpos h h
theorem Has.rest {m:Nat} {ts:List (Nat × Int)} {bs:List Bool} (S:Has m ts (wt m (AM bs))):((Af m ts (2 ^ m)).map fun k=>wt m (AM bs) k * wt m (AM bs) k).sum=A2 m ts:=by
 have h:=S.sum fun _=>1
 have h1:=Ly m bs
 have e1:sumTo (fun k=>(1:Int) * (wt m (AM bs) k * wt m (AM bs) k)) (2 ^ m)=Au m:=by
  unfold Au
  rw [NV,<- h1]
  exact Ar fun k _=>Int.one_mul _
 have e2:Am (fun _ w=>(1:Int) * (w * w)) ts=BR ts:=by
  unfold BR
  congr 1
  funext _ w
  exact Int.one_mul _
 have e3:(Af m ts (2 ^ m)).map (fun k=>(1:Int) * (wt m (AM bs) k * wt m (AM bs) k))=(Af m ts (2 ^ m)).map fun k=>wt m (AM bs) k * wt m (AM bs) k:=List.map_congr_left fun k _=>Int.one_mul _
 rw [e1,e2,e3] at h
 unfold A2
 lia
theorem Has.rest0 {m:Nat} {ts:List (Nat × Int)} {bs:List Bool} (S:Has m ts (wt m (AM bs))):0<=A2 m ts:=by
 rw [<- S.rest]
 exact IS _ fun k _=>NQ _
theorem Gs (g:Nat->Int):∀ N,((Ah g N).map fun t=>(t.1:Int)).Nodup
 | 0=>List.nodup_nil
 | N+1=>by
  show ((Ah g N++(if g N=0 then [] else [(N,g N)])).map fun t=>(t.1:Int)).Nodup
  by_cases e:g N=0
  ·rw [if_pos e,List.append_nil];exact Gs g N
  ·rw [if_neg e,List.map_append,List.nodup_append]
   refine ⟨Gs g N,by simp,fun a h1 b h2=>?_⟩
   obtain ⟨t,ht,rfl⟩:=List.mem_map.mp h1
   simp only [List.map_cons,List.map_nil,List.mem_singleton] at h2
   have:=(HL ht).1
   subst h2
   lia
noncomputable def dkT (ts:List (Nat × Int)):List (Key × V):=ts.map fun t=>((Sum.inl (t.1:Int):Key),V.int t.2)
theorem ME (g:Nat->Int) (k:Nat):∀ N,k < N->((BA (dkT (Ah g N)) (Sum.inl (k:Int))).getD (.int 0))=.int (g k):=fun N hk=>by
 have ap:∀ (l1 l2:List (Nat × Int)),BA (dkT (l1++l2)) (Sum.inl (k:Int))=match BA (dkT l1) (Sum.inl (k:Int)) with | some v=>some v | none=>BA (dkT l2) (Sum.inl (k:Int)):=fun l1 l2=>by
  induction l1 with
  | nil=>rfl
  | cons t l1 ih =>
   by_cases e:((Sum.inl (t.1:Int):Key))=Sum.inl (k:Int)
   ·rw [show dkT (t::l1++l2)=((Sum.inl (t.1:Int):Key),V.int t.2)::dkT (l1++l2) from rfl,Er (p:=((Sum.inl (t.1:Int):Key),V.int t.2)) e,show dkT (t::l1)=((Sum.inl (t.1:Int):Key),V.int t.2)::dkT l1 from rfl,Er (p:=((Sum.inl (t.1:Int):Key),V.int t.2)) e]
   ·rw [show dkT (t::l1++l2)=((Sum.inl (t.1:Int):Key),V.int t.2)::dkT (l1++l2) from rfl,Ee (p:=((Sum.inl (t.1:Int):Key),V.int t.2)) e,show dkT (t::l1)=((Sum.inl (t.1:Int):Key),V.int t.2)::dkT l1 from rfl,Ee (p:=((Sum.inl (t.1:Int):Key),V.int t.2)) e,ih]
 have key:∀ N,BA (dkT (Ah g N)) (Sum.inl (k:Int))=if k < N/\g k≠0 then some (.int (g k)) else none:=fun N=>by
  induction N with
  | zero=>rw [if_neg (by lia)];rfl
  | succ N ih =>
   have last:BA (dkT (if g N=0 then [] else [(N,g N)])) (Sum.inl (k:Int))=if N=k/\g N≠0 then some (V.int (g N)) else none:=by
    by_cases e:g N=0
    ·rw [if_pos e,if_neg (fun h=>h.2 e)];rfl
    ·rw [if_neg e]
     by_cases c:N=k
     ·rw [if_pos ⟨c,e⟩]
      exact Er (p:=((Sum.inl (N:Int):Key),V.int (g N))) (by rw [c])
     ·rw [if_neg (fun h=>c h.1)]
      exact Ee (p:=((Sum.inl (N:Int):Key),V.int (g N))) (fun h=>by simp at h;lia)
   rw [show Ah g (N+1)=Ah g N++(if g N=0 then [] else [(N,g N)]) from rfl,ap,ih,last]
   by_cases h1:k < N/\g k≠0
   ·rw [if_pos h1]
    show some (V.int (g k))=_
    rw [if_pos ⟨by lia,h1.2⟩]
   ·rw [if_neg h1]
    show (if N=k/\g N≠0 then some (V.int (g N)) else none)=_
    by_cases h2:N=k/\g N≠0
    ·obtain ⟨rfl,z⟩:=h2
     rw [if_pos ⟨rfl,z⟩,if_pos ⟨by lia,z⟩]
    ·rw [if_neg h2,if_neg]
     rintro ⟨c1,c2⟩
     by_cases c:k < N
     ·exact h1 ⟨c,c2⟩
     ·have:N=k:=by lia
      subst this
      exact h2 ⟨rfl,c2⟩
 rw [key N]
 by_cases z:g k=0
 ·rw [if_neg (fun h=>h.2 z),z];rfl
 ·rw [if_pos ⟨hk,z⟩];rfl
structure GS (H0:Hp) (t:Addr) (M:Nat) (l:Addr) (H:Hp):Prop where
 fd:Feed H t
 fr:Frm t H0 H
 ne:l≠t
 at_:∃ ks:List Nat,H l=some (.lst (iL ks))/\ks.length<=M/\(∀ k∈ks,k < M)/\ks.Pairwise (· < ·)
theorem GS.mk' {H0 H:Hp} {t:Addr} {M:Nat} {l:Addr} {ks:List Nat} (F:Feed H t) (fr:Frm t H0 H) (hl:H l=none) (h1:ks.length<=M) (h2:∀ k∈ks,k < M) (h3:ks.Pairwise (· < ·)):GS H0 t M l (upd H l (.lst (iL ks))) :=
 ⟨F.upd hl,fr.trans (Frm.upd hl),F.neT hl,ks,AH,h1,h2,h3⟩
theorem HA (ks:List Nat) (k:Nat):iL (ks++[k])=iL ks++[V.int k]:=by unfold iL;rw [List.map_append];rfl
theorem HU {ks:List Nat} {k:Nat} (h:(∀ x∈ks,x < k)/\ks.Pairwise (· < ·)):(∀ x∈ks++[k],x < k+1)/\(ks++[k]).Pairwise (· < ·):=by
 refine ⟨fun x hx=>?_,?_⟩
 ·rcases List.mem_append.mp hx with h' | h'
  ·exact Nat.lt_succ_of_lt (h.1 x h')
  ·rw [List.mem_singleton] at h';lia
 ·rw [List.pairwise_append]
  refine ⟨h.2,by simp,fun a ha b hb=>?_⟩
  rw [List.mem_singleton] at hb
  have:=h.1 a ha
  lia
theorem Gj {ks:List Nat} {k:Nat} (h:(∀ x∈ks,x < k)/\ks.Pairwise (· < ·)):(∀ x∈ks,x < k+1)/\ks.Pairwise (· < ·):=⟨fun x hx=>Nat.lt_succ_of_lt (h.1 x hx),h.2⟩
noncomputable def GJ (H0:Hp) (t p:Addr) (m M:Nat) (kvs:List (Key × V)):St->Hp->Prop:=fun σ H=>∃ (d l:Addr) (part:Nat) (way:Int),σ=[some (.ref t),some (.ref p),some (.int M),some (.int m),some (.ref d),some (.int part),some (.int way),some (.ref l)]/\1<=part/\part<=4/\GS H0 t M l H/\d≠t/\H d=some (.dK kvs)
theorem GS.upd {H0 H:Hp} {t q:Addr} {M:Nat} {l:Addr} {o:HO} (L:GS H0 t M l H) (hq:H q=none):GS H0 t M l (L2.upd H q o) :=
 let ⟨ks,h1,h2,h3⟩:=L.at_
 ⟨L.fd.upd hq,L.fr.trans (Frm.upd hq),L.ne,ks,Same.upd hq _ _ h1,h2,h3⟩
noncomputable def Dz (K:W.Frag):Sp:=fun vs H Q _=>match vs with
 | [.ref t,.ref p]=>∃ (m:Nat) (bs:List Bool),Feed H t/\1<=m/\m<=6/\bs.length=2 ^ m/\H p=some (.tup (bs.map V.bl)) /\
  ∀ v (ks:List Nat) H',Feed H' t->Frm t H H'->SumAt K H' v m (ks.map fun k=>(k,wt m (AM bs) k))->ks.length<=64->ks.Pairwise (· < ·)->(∀ k∈ks,k < 2 ^ m)->Q v H'
 | _=>False
theorem NR:AK (Dz K):=fun vs H Q Q' E h q=>by
 unfold Dz at *
 split at q
 ·revert q;repeat' first | exact h _ _ | exact A4 h | exact out_mono h | exact outT_mono h | (with_reducible first | refine Exists.imp fun _=>?_ | refine And.imp_right ?_ | refine forall_imp fun _=>?_)
 ·exact q.elim
theorem N4:FnOk P w K mg base CX0 2 T.f_z25 T.d_z25 ["_law_feed_here","_law_table_here"] (Dz K):=by
 have G_z34:=EY (P:=P) (w:=w) (base:=base) T;have G_z42:=KP (P:=P) (w:=w) (base:=base) T;have G_z39:=EW (P:=P) (w:=w) (base:=base) T
 refine T.F_z25.ok sc_z25 (fun vs H Q E h=>by unfold Dz at h;split at h <;> first | rfl | exact h.elim) (fun cdv A outer s H vs Q E hr h=>?_)
 have hu:=Ab hr
 have mo1:AK BN:=Cc
 have mo2:AK (Cr K):=Is
 have hr_z34:=hr.mono (show 1<=_ by decide);have hr_z42:=hr.mono (show 1<=_ by decide);have hr_z39:=hr.mono (show 1<=_ by decide)
 unfold Dz at h
 split at h
 rotate_left
 ·exact h.elim
 rename_i t p
 obtain ⟨m,bs,F,m1,m6,hb,hp,q⟩:=h
 refine ⟨_,(@AE _ _ _ _ _ (@AI _ _ 2 _ _ _ _ sc_z25.nd rfl (by (first | exact Or.inl rfl | exact Or.inr rfl)) (Aa (Bu (K:=K)) rfl T.z_len (by rfl) (AA (vv 1) AB)) (by rfl) (by (first | exact .inl rfl | exact .inr rfl | assumption))) (@AE _ _ _ _ _ (@AI _ _ 3 _ _ _ _ sc_z25.nd rfl (by (first | exact Or.inl rfl | exact Or.inr rfl)) (AD BW (Iy (K:=K) (vv 2)) AC) (by rfl) (by (first | exact .inl rfl | exact .inr rfl | assumption))) (@AE _ _ _ _ _ (@AI _ _ 4 _ _ _ _ sc_z25.nd rfl (by (first | exact Or.inl rfl | exact Or.inr rfl)) (CD (OQ (K:=K) rfl) rfl T.z_dict (by rfl) (AA (kIx (K:=K) (AF G_z42 hr_z42 rfl T.m_z42 T.F_z42.kp T.b_z42 .nil AG (AA (vv 1) AB)) AC) AB)) (by rfl) (by (first | exact .inl rfl | exact .inr rfl | assumption))) (@AE _ _ _ _ _ (@AI _ _ 5 _ _ _ _ sc_z25.nd rfl (by (first | exact Or.inl rfl | exact Or.inr rfl)) (AD (Aj (K:=K)) AC (AF G_z34 hr_z34 rfl T.m_z34 T.F_z34.kp T.b_z34 .nil AG (AA (vv 0) (AA AC AB)))) (by rfl) (by (first | exact .inl rfl | exact .inr rfl | assumption))) (@AE _ _ _ _ _ (@AI _ _ 6 _ _ _ _ sc_z25.nd rfl (by (first | exact Or.inl rfl | exact Or.inr rfl)) (AF G_z34 hr_z34 rfl T.m_z34 T.F_z34.kp T.b_z34 .nil AG (AA (vv 0) (AA AC AB))) (by rfl) (by (first | exact .inl rfl | exact .inr rfl | assumption))) (@AE _ _ _ _ _ (@Br _ _ _ _ _ _ _ (["_law_some","_law_feed_here","_law_part"]) 1 ([0,5]) _ _ _ _ 7 _ _ _ rfl sc_z25.nd rfl rfl (A9 rfl T.z_range (AA (vv 2) AB)) (by kernel_rfl) rfl rfl (by kernel_rfl) (fun c=>AN (i:=0) (show (["_law_some","_law_feed_here","_law_part"]:List Str).Nodup by decide +kernel) rfl (by (first | exact Or.inl rfl | exact Or.inr rfl))) (AW (by decide)) (fun c=>Bi (AV (kEq (K:=K) hu) (AF G_z34 hr_z34 rfl T.m_z34 T.F_z34.kp T.b_z34 .nil AG (AA (vv 1) (AA (vv 2) AB))) AC)) (fun c=>(vv 0)) (by rfl) (by intro _;rfl)) (@AE _ _ _ _ _ (@Ay _ _ _ _ _ _ _ _ (AV (kEq (K:=K) hu) (vv 6) AC) (@AL _ _ _ (@Br _ _ _ _ _ _ _ (["_law_some","_law_part"]) 1 [5] _ _ _ _ 7 _ _ _ rfl sc_z25.nd rfl rfl (A9 rfl T.z_range (AA (vv 2) AB)) (by kernel_rfl) rfl rfl (by kernel_rfl) (fun c=>AN (i:=0) (show (["_law_some","_law_part"]:List Str).Nodup by decide +kernel) rfl (by (first | exact Or.inl rfl | exact Or.inr rfl))) (AW (by decide)) (fun c=>Bi (AV Ef (AF G_z39 hr_z39 rfl T.m_z39 T.F_z39.kp T.b_z39 .nil AG (AA (vv 0) AB)) (vv 1))) (fun c=>(vv 0)) (by rfl) (by intro _;rfl))) Ax) (@AE _ _ _ _ _ (@Ay _ _ _ _ _ _ _ _ (AV (kEq (K:=K) hu) (vv 6) AC) (@AE _ _ _ _ _ (@AI _ _ 7 _ _ _ _ sc_z25.nd rfl (by (first | exact Or.inl rfl | exact Or.inr rfl)) (Os rfl rfl T.z_list rfl T.z_range (AA (vv 2) AB)) (by rfl) (by (first | exact .inl rfl | exact .inr rfl | assumption))) (@AL _ _ _ (@QL _ _ _ _ (LR (K:=K) (vv 7) (AA (AF G_z34 hr_z34 rfl T.m_z34 T.F_z34.kp T.b_z34 .nil AG (AA (vv 0) (AA (vv 2) AB))) AB)) (by rfl)))) Ax) (@AE _ _ _ _ _ (@Ay _ _ _ _ _ _ _ _ (PW.pt (Kc (AV (kEq (K:=K) hu) (vv 6) AC) (KF (AV Ef (vv 5) AC)))) (@AL _ _ _ (@Br _ _ _ _ _ _ _ (["_law_some","_law_part"]) 1 [5] _ _ _ _ 7 _ _ _ rfl sc_z25.nd rfl rfl (A9 rfl T.z_range (AA (vv 2) AB)) (by kernel_rfl) rfl rfl (by kernel_rfl) (fun c=>AN (i:=0) (show (["_law_some","_law_part"]:List Str).Nodup by decide +kernel) rfl (by (first | exact Or.inl rfl | exact Or.inr rfl))) (AW (by decide)) (fun c=>Bi (AV (kEq (K:=K) hu) (vv 1) AC)) (fun c=>(vv 0)) (by rfl) (by intro _;rfl))) Ax) (@AL _ _ _ (@AO _ _ _ _ (BD (AA (vv 3) (AA (CD (E6 (K:=K)) rfl T.z_tuple (by rfl) (AA (Aw (N':=["_law_some","_law_weights"]) (own:=1) (ix:=[4]) rfl (Ap (K:=K) (vv 7)) (by kernel_rfl) rfl rfl (by kernel_rfl) (fun c=>AN (i:=0) (show (["_law_some","_law_weights"]:List Str).Nodup by decide +kernel) rfl (by (first | exact Or.inl rfl | exact Or.inr rfl))) (AW (by decide)) (fun c=>Az) (fun c=>(BD (AA (vv 0) (AA (M6 (NO hu) (vv 1) (vv 0) AC ⟨by rfl,by rfl,by rfl,by rfl⟩) AB))))) AB)) AB)))))))))))))),?_⟩
 have h64:2 ^ m<=64:=Nat.pow_le_pow_right (n:=2) (by decide) m6
 have hbits:=Kz m (by lia)
 have hpo:=Nat.two_pow_pos m
 have hL:=Js m6 bs
 have npt:p≠t:=fun e=>by obtain ⟨a,b,c,d,_,h⟩:=F.at_;rw [e,h] at hp;cases hp
 refine ⟨2 ^ m,.inr ⟨_,.of hp,by rw [List.length_map,hb]⟩,?_⟩
 dsimp only [AQ]
 refine AT (fun σ H'=>σ=[some (.ref t),some (.ref p),some (.int ((2 ^ m:Nat):Int)),some (.int m),none,none,none,none]/\H=H') ?_ ?_ (by (repeat' with_reducible first | exact Q5 | apply RK | apply QB | apply Mz | apply RP | apply Lo | apply MG | apply QK | exact Qg | exact MY | apply Mh | apply Of | apply Pk | apply Pf | apply Ny | apply OC | apply OY | apply M3 | apply Qz | exact Qc | exact Ph | exact QE | exact P4 | exact L7 | exact MJ | exact Lh | exact MC | exact L3 | exact Lw | apply Nl | apply Oc | apply OX | exact Qb | apply P2 | exact PZ | exact Qr | exact O3 | exact Q9 | exact Lz | apply Oy | apply Qo | apply Pp | exact As | apply CL | exact BI | exact Py | exact QF | apply Lq | apply Nm | exact NC | apply Lu | exact Qp | apply LQ | apply OD | exact NG | apply OR | exact QD | exact OI | exact Pw | exact Nk | apply PV | exact Nx | apply OS | assumption))
 ·refine ⟨rfl,?_⟩
  dsimp only [Dq,tC,C4]
  rw [hbits,show ((m+1:Nat):Int) - 1=(m:Int) by lia]
  exact ⟨rfl,rfl⟩
 rintro σ _ ⟨rfl,rfl⟩
 have htl:=Iv (wt m (AM bs)) (2 ^ m)
 refine AT (fun σ H'=>∃ d:Addr,σ=[some (.ref t),some (.ref p),some (.int ((2 ^ m:Nat):Int)),some (.int m),some (.ref d),none,none,none]/\Same H H'/\d≠t/\H' d=some (.dK (dkT (Ah (wt m (AM bs)) (2 ^ m))))) ?_ ?_ (by (repeat' with_reducible first | exact Q5 | apply RK | apply QB | apply Mz | apply RP | apply Lo | apply MG | apply QK | exact Qg | exact MY | apply Mh | apply Of | apply Pk | apply Pf | apply Ny | apply OC | apply OY | apply M3 | apply Qz | exact Qc | exact Ph | exact QE | exact P4 | exact L7 | exact MJ | exact Lh | exact MC | exact L3 | exact Lw | apply Nl | apply Oc | apply OX | exact Qb | apply P2 | exact PZ | exact Qr | exact O3 | exact Q9 | exact Lz | apply Oy | apply Qo | apply Pp | exact As | apply CL | exact BI | exact Py | exact QF | apply Lq | apply Nm | exact NC | apply Lu | exact Qp | apply LQ | apply OD | exact NG | apply OR | exact QD | exact OI | exact Pw | exact Nk | apply PV | exact Nx | apply OS | assumption))
 ·refine ⟨m,bs,m1,m6,hb,.of hp,fun v H1 s1 S=>?_⟩
  obtain ⟨a,b,us,rfl,ha,hbb,hR⟩:=S.at_
  have hul:us.length=(Ah (wt m (AM bs)) (2 ^ m)).length:=by have:=hR.length;rw [List.length_map] at this;lia
  refine ⟨_,_,.inr ha,rfl,us,(Ah (wt m (AM bs)) (2 ^ m)).map fun t=>((t.1:Int),t.2),hbb,by rw [List.length_map];exact hul,by rw [List.length_map];lia,fun j kv hkv=>?_,?_,fun d hd=>?_⟩
  ·rw [List.getElem?_map] at hkv
   cases et:(Ah (wt m (AM bs)) (2 ^ m))[j]? with
   | none=>rw [et] at hkv;cases hkv
   | some t =>
    rw [et] at hkv
    cases hkv
    have hj:j < us.length:=by rw [hul];exact (List.getElem?_eq_some_iff.mp et).1
    obtain ⟨t',c,h1,h2,h3⟩:=BU hR (List.getElem?_eq_getElem hj)
    rw [et] at h1
    cases h1
    exact ⟨c,by rw [List.getElem?_eq_getElem hj,h2],h3⟩
  ·rw [List.map_map]
   exact Gs _ _
  ·dsimp only [AQ]
   rw [List.map_map]
   have ed:(Ah (wt m (AM bs)) (2 ^ m)).map ((fun kv=>((Sum.inl kv.1:Key),V.int kv.2)) ∘ fun t=>((t.1:Int),t.2))=dkT (Ah (wt m (AM bs)) (2 ^ m)):=rfl
   rw [ed]
   exact ⟨d,rfl,s1.trans (Same.upd hd),(F.same s1).neT hd,AH⟩
 rintro σ H1 ⟨d,rfl,s1,nd,gd⟩
 have F1:=F.same s1
 have hg:=fun k hk=>ME (wt m (AM bs)) k (2 ^ m) hk
 generalize dkT (Ah (wt m (AM bs)) (2 ^ m))=kvs at *
 generalize hM:2 ^ m=M at *
 have okM:okDiv (M:Int):=Al (by lia) (Int.le_trans (Int.ofNat_le.mpr h64) (by decide))
 refine ⟨F1,Al (by decide) (by decide),fun p1 H2 p0 p4 F2 f2=>?_⟩
 obtain ⟨pn,rfl⟩:=Int.eq_ofNat_of_zero_le p0
 dsimp only [tC,Ca,AQ]
 rw [show (1:Int)+(pn:Int)=((pn+1:Nat):Int) by lia]
 refine ⟨F2,Al (by decide) (by decide),fun way H3 _ _ F3 f3=>?_⟩
 have gd3:H3 d=some (.dK kvs):=by rw [f3 d nd,f2 d nd];exact gd
 have fr3:Frm t H H3:=s1.frm.trans ((Aq f2).trans (Aq f3))
 dsimp only [AQ]
 refine AT (GJ H t p m M kvs) ?_ ?_ (by (repeat' with_reducible first | exact Q5 | apply RK | apply QB | apply Mz | apply RP | apply Lo | apply MG | apply QK | exact Qg | exact MY | apply Mh | apply Of | apply Pk | apply Pf | apply Ny | apply OC | apply OY | apply M3 | apply Qz | exact Qc | exact Ph | exact QE | exact P4 | exact L7 | exact MJ | exact Lh | exact MC | exact L3 | exact Lw | apply Nl | apply Oc | apply OX | exact Qb | apply P2 | exact PZ | exact Qr | exact O3 | exact Q9 | exact Lz | apply Oy | apply Qo | apply Pp | exact As | apply CL | exact BI | exact Py | exact QF | apply Lq | apply Nm | exact NC | apply Lu | exact Qp | apply LQ | apply OD | exact NG | apply OR | exact QD | exact OI | exact Pw | exact Nk | apply PV | exact Nx | apply OS | assumption))
 ·refine ⟨(M:Int),rfl,by lia,by lia,?_⟩
  refine Ba (n:=((M:Int)).toNat) (fun i ys H'=>Feed H' t/\Frm t H H'/\H' d=some (.dK kvs)/\∃ ks:List Nat,ys=iL ks/\ks.length<=i/\(∀ k∈ks,k < i)/\ks.Pairwise (· < ·)) ⟨F3,fr3,gd3,[],rfl,Nat.le_refl _,(fun k hk=>by cases hk),.nil⟩ (fun i ys H' hi ⟨_,_,_,ks,e,e',_⟩=>by
   rw [e];unfold iL;rw [List.length_map];exact Ag (by lia)) ?_ ?_
  ·rintro i ys H' hi ⟨Fi,fi,gi,ks,rfl,hk1,hk2⟩
   refine ⟨Fi,Al (by lia) (Int.le_trans (Int.ofNat_le.mpr (show pn+1<=64 by lia)) (by decide)),fun x H4 _ _ F4 f4=>?_⟩
   have g4:H4 d=some (.dK kvs):=by rw [f4 d nd];exact gi
   refine ite2 (fun e=>⟨F4,fi.trans (Aq f4),g4,ks++[i],?_,by rw [List.length_append];exact Nat.succ_le_succ hk1,HU hk2⟩) (fun e=>⟨F4,fi.trans (Aq f4),g4,ks,rfl,by lia,Gj hk2⟩)
   rw [HA,Int.zero_add]
  ·rintro ys H' ⟨Fi,fi,gi,ks,rfl,hk1,hk2⟩ l hl
   exact ⟨d,l,pn+1,way,rfl,by lia,by lia,GS.mk' Fi fi hl (by lia) (fun k hk=>by have:=hk2.1 k hk;lia) hk2.2,nd,Same.upd hl _ _ gi⟩
 clear gd3 fr3 F3 f3 f2 F2 gd nd F1 s1
 rintro σ Ha ⟨d,l,part,way,rfl,pp1,pp2,L,nd,gd⟩
 refine AT (GJ H t p m M kvs) ?_ ?_ (by (repeat' with_reducible first | exact Q5 | apply RK | apply QB | apply Mz | apply RP | apply Lo | apply MG | apply QK | exact Qg | exact MY | apply Mh | apply Of | apply Pk | apply Pf | apply Ny | apply OC | apply OY | apply M3 | apply Qz | exact Qc | exact Ph | exact QE | exact P4 | exact L7 | exact MJ | exact Lh | exact MC | exact L3 | exact Lw | apply Nl | apply Oc | apply OX | exact Qb | apply P2 | exact PZ | exact Qr | exact O3 | exact Q9 | exact Lz | apply Oy | apply Qo | apply Pp | exact As | apply CL | exact BI | exact Py | exact QF | apply Lq | apply Nm | exact NC | apply Lu | exact Qp | apply LQ | apply OD | exact NG | apply OR | exact QD | exact OI | exact Pw | exact Nk | apply PV | exact Nx | apply OS | assumption))
 ·refine ite2 (fun e=>?_) (fun e=>⟨d,l,part,way,rfl,pp1,pp2,L,nd,gd⟩)
  refine ⟨(M:Int),rfl,by lia,by lia,?_⟩
  refine Ba (n:=((M:Int)).toNat) (fun i ys H'=>H'=Ha/\∃ ks:List Nat,ys=iL ks/\ks.length<=i/\(∀ k∈ks,k < i)/\ks.Pairwise (· < ·)) ⟨rfl,[],rfl,Nat.le_refl _,(fun k hk=>by cases hk),.nil⟩ (fun i ys H' hi ⟨_,ks,e,e',_⟩=>by
   rw [e];unfold iL;rw [List.length_map];exact Ag (by lia)) ?_ ?_
  ·rintro i ys H' hi ⟨rfl,ks,rfl,hk1,hk2⟩
   refine ⟨i,Int.zero_add _,Nat.lt_of_lt_of_le (show i < 64 by lia) (by decide),?_⟩
   refine ite2 (fun e=>⟨rfl,ks++[i],?_,by rw [List.length_append];exact Nat.succ_le_succ hk1,HU hk2⟩) (fun e=>⟨rfl,ks,rfl,by lia,Gj hk2⟩)
   rw [HA,Int.zero_add]
  ·rintro ys H' ⟨rfl,ks,rfl,hk1,hk2⟩ l hl
   exact ⟨d,l,part,way,rfl,pp1,pp2,GS.mk' L.fd L.fr hl (by lia) (fun k hk=>by have:=hk2.1 k hk;lia) hk2.2,nd,Same.upd hl _ _ gd⟩
 clear L nd gd pp1 pp2
 rintro σ Ha ⟨d,l,part,way,rfl,pp1,pp2,L,nd,gd⟩
 refine AT (GJ H t p m M kvs) ?_ ?_ (by (repeat' with_reducible first | exact Q5 | apply RK | apply QB | apply Mz | apply RP | apply Lo | apply MG | apply QK | exact Qg | exact MY | apply Mh | apply Of | apply Pk | apply Pf | apply Ny | apply OC | apply OY | apply M3 | apply Qz | exact Qc | exact Ph | exact QE | exact P4 | exact L7 | exact MJ | exact Lh | exact MC | exact L3 | exact Lw | apply Nl | apply Oc | apply OX | exact Qb | apply P2 | exact PZ | exact Qr | exact O3 | exact Q9 | exact Lz | apply Oy | apply Qo | apply Pp | exact As | apply CL | exact BI | exact Py | exact QF | apply Lq | apply Nm | exact NC | apply Lu | exact Qp | apply LQ | apply OD | exact NG | apply OR | exact QD | exact OI | exact Pw | exact Nk | apply PV | exact Nx | apply OS | assumption))
 ·refine ite2 (fun e=>?_) (fun e=>⟨d,l,part,way,rfl,pp1,pp2,L,nd,gd⟩)
  refine ⟨M,rfl,by lia,fun l2 hl2=>?_⟩
  have g2:=AH (H:=Ha) (a:=l2) (o:=.lst ((List.range M).map fun (k:Nat)=>V.int (k:Int)))
  have s2:=Same.upd (o:=.lst ((List.range M).map fun (k:Nat)=>V.int (k:Int))) hl2
  have n2:=L.fd.neT hl2
  have nld:d≠l2:=Bo gd hl2
  dsimp only [AQ]
  generalize L2.upd Ha l2 (.lst ((List.range M).map fun (k:Nat)=>V.int (k:Int)))=Hb at *
  have Fb:=L.fd.same s2
  refine ⟨.inl ⟨rfl,_,.of g2⟩,Fb,okM,fun x H4 x0 x1 F4 f4=>?_⟩
  obtain ⟨xn,rfl⟩:=Int.eq_ofNat_of_zero_le x0
  have g4:H4 l2=some (.lst (iL (List.range M))):=by rw [f4 l2 n2];exact g2
  have hxn:xn < M:=by lia
  refine ⟨iL (List.range M),.int xn,g4,by lia,by lia,?_,?_⟩
  ·rw [Int.toNat_natCast];unfold iL;rw [List.getElem?_map,List.getElem?_range hxn];rfl
  have n4:∃ zs,H4 t=some (.lst zs):=F4.lst
  have er:(iL (List.range M)).eraseIdx ((xn:Int)).toNat=iL ((List.range M).eraseIdx xn):=by
   unfold iL;rw [Int.toNat_natCast,List.eraseIdx_eq_take_drop_succ,List.eraseIdx_eq_take_drop_succ,List.map_append,List.map_take,List.map_drop]
  have nda:H4 d=some (.dK kvs):=by rw [f4 d nd];exact s2 _ _ gd
  refine ⟨d,l2,part,way,rfl,pp1,pp2,⟨?_,?_,n2,_,(by rw [er];exact AH),?_,?_,?_⟩,nd,(by rw [AX nld];exact nda)⟩
  ·obtain ⟨a,b,c,e,h1,h2⟩:=F4.at_
   exact ⟨a,b,c,e,h1,by rw [AX (Ne.symm n2)];exact h2⟩
  ·exact KU (L.fr.trans (s2.frm.trans (Aq f4))) (L.fd.free L.fr hl2)
  ·have:=List.length_eraseIdx_le (List.range M) xn
   rw [List.length_range] at this
   exact this
  ·intro k hk
   exact List.mem_range.mp (List.mem_of_mem_eraseIdx hk)
  ·exact List.Pairwise.sublist (List.eraseIdx_sublist ..) List.pairwise_lt_range
 clear L nd gd pp1 pp2
 rintro σ Ha ⟨d,l,part,way,rfl,pp1,pp2,L,nd,gd⟩
 refine AT (GJ H t p m M kvs) ?_ ?_ (by (repeat' with_reducible first | exact Q5 | apply RK | apply QB | apply Mz | apply RP | apply Lo | apply MG | apply QK | exact Qg | exact MY | apply Mh | apply Of | apply Pk | apply Pf | apply Ny | apply OC | apply OY | apply M3 | apply Qz | exact Qc | exact Ph | exact QE | exact P4 | exact L7 | exact MJ | exact Lh | exact MC | exact L3 | exact Lw | apply Nl | apply Oc | apply OX | exact Qb | apply P2 | exact PZ | exact Qr | exact O3 | exact Q9 | exact Lz | apply Oy | apply Qo | apply Pp | exact As | apply CL | exact BI | exact Py | exact QF | apply Lq | apply Nm | exact NC | apply Lu | exact Qp | apply LQ | apply OD | exact NG | apply OR | exact QD | exact OI | exact Pw | exact Nk | apply PV | exact Nx | apply OS | assumption))
 ·have done:GJ H t p m M kvs [some (.ref t),some (.ref p),some (.int M),some (.int m),some (.ref d),some (.int part),some (.int way),some (.ref l)] Ha:=⟨d,l,part,way,rfl,pp1,pp2,L,nd,gd⟩
  refine ite2 (fun e=>?_) (fun e=>?_)
  ·refine ite2 (fun e=>?_) (fun e=>done)
   refine ⟨(M:Int),rfl,by lia,by lia,?_⟩
   refine Ba (n:=((M:Int)).toNat) (fun i ys H'=>H'=Ha/\∃ ks:List Nat,ys=iL ks/\ks.length<=i/\(∀ k∈ks,k < i)/\ks.Pairwise (· < ·)) ⟨rfl,[],rfl,Nat.le_refl _,(fun k hk=>by cases hk),.nil⟩ (fun i ys H' hi ⟨_,ks,e,e',_⟩=>by
    rw [e];unfold iL;rw [List.length_map];exact Ag (by lia)) ?_ ?_
   ·rintro i ys H' hi ⟨rfl,ks,rfl,hk1,hk2⟩
    refine ite2 (fun e=>⟨rfl,ks++[i],?_,by rw [List.length_append];exact Nat.succ_le_succ hk1,HU hk2⟩) (fun e=>⟨rfl,ks,rfl,by lia,Gj hk2⟩)
    rw [HA,Int.zero_add]
   ·rintro ys H' ⟨rfl,ks,rfl,hk1,hk2⟩ l hl
    exact ⟨d,l,part,way,rfl,pp1,pp2,GS.mk' L.fd L.fr hl (by lia) (fun k hk=>by have:=hk2.1 k hk;lia) hk2.2,nd,Same.upd hl _ _ gd⟩
  ·exact done
 clear L nd gd pp1 pp2
 rintro σ Ha ⟨d,l,part,way,rfl,pp1,pp2,L,nd,gd⟩
 obtain ⟨ks,hks,hk1,hk2,hnd⟩:=L.at_
 refine .inl ⟨⟨_,.of hks⟩,?_⟩
 refine CQ (xs:=iL ks) (fun i ys H'=>Same Ha H'/\Reps K H' ((ks.take i).map fun k=>A8 (k,wt m (AM bs) k)) ys) ⟨fun _ _ h=>h,At⟩ (fun i ys H' _ ⟨e,_⟩=>.of (e _ _ hks)) (fun i ys H' hi ⟨_,e⟩=>by
  have:=e.length
  rw [List.length_map,List.length_take] at this
  rw [<- this];exact Ag (by lia)) ?_ ?_
 ·rintro i x ys H' hx ⟨s',r'⟩
  have hi:i < ks.length:=by
   have:=(List.getElem?_eq_some_iff.mp hx).1
   unfold iL at this
   rwa [List.length_map] at this
  have ex:x=.int (ks[i]:Nat):=by
   unfold iL at hx
   rw [List.getElem?_map,List.getElem?_eq_getElem hi] at hx
   exact (Option.some.inj hx).symm
  subst ex
  have hk:=hk2 _ (List.getElem_mem hi)
  refine ⟨d,rfl,.inl ⟨_,.inl (s' _ _ gd)⟩,_,DGet.k (k:=.inl (ks[i]:Int)) (s' _ _ gd),?_⟩
  rw [hg _ hk]
  refine ⟨Ac (show 2<=1000 by decide),fun c hc=>⟨s'.trans (Same.upd hc),?_⟩⟩
  rw [List.take_add_one,List.getElem?_eq_getElem hi,List.map_append]
  exact (Reps.same (Same.upd hc) _ _ r').append (Ae (BJ AH (Ae BK (Ae BK At))) At)
 ·rintro ys H' ⟨s',r'⟩ lp hlp
  have hk0:=hk2
  have el:(iL ks).length=ks.length:=by unfold iL;rw [List.length_map]
  rw [el,List.take_of_length_le (Nat.le_refl _)] at r'
  refine ⟨_,.inl ⟨.of AH,fun k hk=>⟨Ac (show 2<=1000 by decide),fun k2 hk2=>?_⟩⟩⟩
  have S:=(Same.upd (o:=.lst ys) hlp).trans ((Same.upd (o:=.tup ys) hk).trans (Same.upd (o:=.tup [.int m,.ref k]) hk2))
  refine q _ ks _ (L.fd.same (s'.trans S)) (L.fr.trans (s'.trans S).frm) (.of (BJ AH (Ae BK (Ae (BJ ?_ (ds:=(ks.map fun k=>(k,wt m (AM bs) k)).map A8) (by rw [List.map_map];exact Reps.same S _ _ r')) At)))) (by lia) hnd hk0
  exact Same.upd hk2 _ _ AH
noncomputable def Dx:Sp:=fun vs H Q _=>match vs with
 | [.ref t,.int part]=>Feed H t/\(part=1\/part=2)/\∀ (x y:Int) p H',0<=x->part * x<=y->0 < y->Nb x 66->Nb y 66->H p=none->H' p=some (.tup [.int x,.int y])->Feed H' t->Frm t H H'->Q (.ref p) H'
 | _=>False
theorem On:AK Dx:=fun vs H Q Q' E h q=>by
 unfold Dx at *
 split at q
 ·exact ⟨q.1,q.2.1,fun x y p H' a0 a1 a b c d e f g=>h _ _ (q.2.2 x y p H' a0 a1 a b c d e f g)⟩
 ·exact q.elim
theorem Nr:FnOk P w K mg base CX0 2 T.f_z20 T.d_z20 ["_law_feed_here","_law_part"] Dx:=by
 have G_z31:=HH (P:=P) (w:=w) (base:=base) T;have G_z34:=EY (P:=P) (w:=w) (base:=base) T
 refine T.F_z20.ok sc_z20 (fun vs H Q E h=>by unfold Dx at h;split at h <;> first | rfl | exact h.elim) (fun cdv A outer s H vs Q E hr h=>?_)
 have hu:=Ab hr
 have mo1:AK Bk:=FU
 have hr_z31:=hr.mono (show 1<=_ by decide);have hr_z34:=hr.mono (show 1<=_ by decide)
 unfold Dx at h
 split at h
 rotate_left
 ·exact h.elim
 rename_i t part
 obtain ⟨F,hpart,q⟩:=h
 refine ⟨_,(@AE _ _ _ _ _ (@AI _ _ 2 _ _ _ _ sc_z20.nd rfl (by (first | exact Or.inl rfl | exact Or.inr rfl)) (AD AR (vv 1) (AD (Aj (K:=K)) AC (AF G_z34 hr_z34 rfl T.m_z34 T.F_z34.kp T.b_z34 .nil AG (AA (vv 0) (AA (kIx (K:=K) (@Bq _ _ _ _ (AA AC (AA AC (AA AC (AA (AD JK AC AC) AB))))) (AF G_z34 hr_z34 rfl T.m_z34 T.F_z34.kp T.b_z34 .nil AG (AA (vv 0) (AA AC AB)))) AB))))) (by rfl) (by (first | exact .inl rfl | exact .inr rfl | assumption))) (@AL _ _ _ (@AO _ _ _ _ (AF G_z31 hr_z31 rfl T.m_z31 T.F_z31.kp T.b_z31 .nil AG (AA (AF G_z34 hr_z34 rfl T.m_z34 T.F_z34.kp T.b_z34 .nil AG (AA (vv 0) (AA (AD (Aj (K:=K)) (AD CB (vv 2) (vv 1)) AC) AB))) (AA (vv 2) AB)))))),?_⟩
 have p1:1<=part/\part<=2:=by rcases hpart with rfl | rfl <;> decide
 refine ⟨⟨by decide,by decide,by decide⟩,Ac (show 4<=1000 by decide),fun p0 hp0=>⟨F.upd hp0,Al (by decide) (by decide),fun d H1 d0 d1 F1 f1=>?_⟩⟩
 have g1:H1 p0=some (.lst [.int 1,.int 4,.int 9,.int (10 ^ 19)]):=by rw [f1 p0 (F.neT hp0)];exact AH
 obtain ⟨z,hz,z0,z1⟩:∃ z:Int,atI [V.int 1,.int 4,.int 9,.int (10 ^ 19)] d=some (.int z)/\0 < z/\z<=10 ^ 19:=by
  have:d=0\/d=1\/d=2\/d=3:=by lia
  rcases this with e | e | e | e <;> subst e
  ·exact ⟨1,rfl,by decide,by decide⟩
  ·exact ⟨4,rfl,by decide,by decide⟩
  ·exact ⟨9,rfl,by decide,by decide⟩
  ·exact ⟨10 ^ 19,rfl,by decide,by decide⟩
 refine ⟨_,_,.inl (.of g1),hz,F1,Al z0 (Int.le_trans z1 (by decide)),fun d2 H2 d20 d21 F2 f2=>?_⟩
 refine ⟨.inr (.inl ⟨by lia,by lia⟩),?_⟩
 have b0:0 < part * (1+d2):=Int.mul_pos (by lia) (by lia)
 have b1:part * (1+d2)<=2 * 10 ^ 19:=by
  rcases hpart with rfl | rfl <;> lia
 have bd:0<=part * (1+d2) / part/\part * (1+d2) / part<=part * (1+d2)/\part * (part * (1+d2) / part)<=part * (1+d2):=by
  rcases hpart with rfl | rfl <;> lia
 generalize part * (1+d2)=bot at *
 dsimp only [AQ]
 refine ⟨Al (by lia) (by lia),F2,Al (by lia) (Int.le_trans (show bot / part+1<=2 * 10 ^ 19+1 by lia) (by decide)),fun d3 H3 d30 d31 F3 f3=>?_⟩
 have p66:((2 ^ 66:Nat):Int)=73786976294838206464:=by decide
 have n1:Nb d3 66:=K6 (by rw [p66];lia) (by rw [p66];lia)
 have n2:Nb bot 66:=K6 (by rw [p66];lia) (by rw [p66];lia)
 obtain ⟨s1,s2,s3,s4⟩:=FO n1 n2 b0
 refine ⟨b0,n1.up (by decide),n2.up (by decide),fun p hp=>?_⟩
 have fr:Frm t H H3:=(Frm.upd hp0).trans ((Aq f1).trans ((Aq f2).trans (Aq f3)))
 obtain ⟨k1,k2⟩:=QX (x:=d3) b0
 refine q (shT d3 bot) (shB d3 bot) p _ ?_ ?_ k2 s1 s2 (F3.free fr hp) AH (F3.upd hp) (fr.trans (Frm.upd hp))
 ·exact Int.ediv_nonneg d30 (by lia)
 ·have e1:part * d3<=bot:=Int.le_trans (Int.mul_le_mul_of_nonneg_left (show d3<=bot / part by lia) (by lia)) bd.2.2
  have e2:part * d3 * shB d3 bot<=bot * shB d3 bot:=Int.mul_le_mul_of_nonneg_right e1 (by lia)
  have e3:part * shT d3 bot * bot<=shB d3 bot * bot:=by
   rw [Int.mul_assoc,k1,<- Int.mul_assoc,Int.mul_comm (shB d3 bot)]
   exact e2
  exact Int.le_of_mul_le_mul_right e3 b0
theorem GM (m:Nat):(1:Int) * 2 ^ ((m:Int)).toNat=((2 ^ m:Nat):Int):=by rw [Int.one_mul,Int.toNat_natCast,Int.natCast_pow];rfl
theorem FY (m:Nat):(1:Int) * 2 ^ (2 * (m:Int)).toNat=Au m:=by
 have e:(2 * (m:Int)).toNat=2 * m:=by lia
 rw [Int.one_mul,e]
 unfold Au
 rw [Int.natCast_pow]
 rfl
theorem HY:FnOk P w K mg base CX0 1 T.f_z35 T.d_z35 ["_law_glance_here"] (Bb K):=by
 refine T.F_z35.ok sc_z35 (fun vs H Q E h=>by unfold Bb at h;split at h <;> first | rfl | exact h.elim) (fun cdv A outer s H vs Q E hr h=>?_)
 have hu:=Ab hr
 unfold Bb at h
 split at h
 rotate_left
 ·exact h.elim
 rename_i x
 obtain ⟨m,ts,S,G,q⟩:=h
 obtain ⟨a,b,us,rfl,ha,hb,hR⟩:=id S.at_
 have hul:us.length=ts.length:=by have:=hR.length;rw [List.length_map] at this;lia
 have htl:=G.len
 have hm:=G.m6
 have h64:2 ^ m<=64:=Nat.pow_le_pow_right (n:=2) (by decide) hm.2
 have i1:((2 ^ m:Nat):Int)<=64:=Int.ofNat_le.mpr h64
 have i0:(0:Int)<=((2 ^ m:Nat):Int):=Int.natCast_nonneg _
 have hsh:C3 1 (m:Int):=⟨by lia,by lia,by decide⟩
 refine ⟨_,(@AE _ _ _ _ _ (@AI _ _ 1 _ _ _ _ sc_z35.nd rfl (by (first | exact Or.inl rfl | exact Or.inr rfl)) (@Aw _ _ _ _ _ _ _ ["_law_one"] 1 [] _ _ _ _ rfl (Ap (K:=K) (kIx (K:=K) (vv 0) AC)) (by kernel_rfl) rfl rfl (by kernel_rfl) (fun c=>AN (i:=0) (show (["_law_one"]:List Str).Nodup by decide +kernel) rfl (by (first | exact Or.inl rfl | exact Or.inr rfl))) (AW (by decide)) (fun c=>Az) (fun c=>(kIx (K:=K) (vv 0) AC)) (by intro _;rfl)) (by rfl) (by (first | exact .inl rfl | exact .inr rfl | assumption))) (@AL _ _ _ (@AO _ _ _ _ (@Aw _ _ _ _ _ _ _ (["_law_some","_law_known"]) 1 [1] _ _ _ _ rfl (A9 rfl T.z_range (AA (AD CC AC (kIx (K:=K) (vv 0) AC)) AB)) (by kernel_rfl) rfl rfl (by kernel_rfl) (fun c=>AN (i:=0) (show (["_law_some","_law_known"]:List Str).Nodup by decide +kernel) rfl (by (first | exact Or.inl rfl | exact Or.inr rfl))) (AW (by decide)) (fun c=>Bi (AV (Il (K:=K)) (vv 0) (vv 1))) (fun c=>(vv 0)) (by intro _;rfl))))),?_⟩
 refine ⟨_,.ref b,.inr ha,rfl,.inr ⟨⟨_,hb⟩,?_⟩⟩
 refine Bv (xs:=us) (fun i ys H'=>H'=H/\ys=iL ((ts.take i).map (·.1))) ⟨rfl,rfl⟩ (fun i ys H' _ ⟨e,_⟩=>by rw [e];exact hb) (fun i ys H' hi ⟨_,e⟩=>by
  rw [e,Ak,List.length_map,List.length_take];exact Ag (by lia)) ?_ ?_
 ·rintro i x ys H' hx ⟨rfl,rfl⟩
  obtain ⟨⟨k,wgt⟩,c,hq,rfl,hc⟩:=BU hR hx
  refine ⟨_,.int k,.inr hc,rfl,rfl,?_⟩
  rw [List.take_add_one,hq,List.map_append,CP]
  rfl
 rintro ys H' ⟨rfl,rfl⟩ l hl
 rw [List.take_of_length_le (by lia)]
 have s1:=Same.upd (o:=.lst (iL (ts.map (·.1)))) hl
 have g1:=AH (H:=H') (a:=l) (o:=.lst (iL (ts.map (·.1))))
 generalize upd H' l (.lst (iL (ts.map (·.1))))=H1 at *
 dsimp only [AQ]
 refine ⟨_,.int m,.inr (s1.sqT ha),rfl,hsh,?_⟩
 rw [GM]
 refine ⟨_,rfl,by lia,by lia,?_⟩
 refine Ba (fun i ys H'=>H'=H1/\ys=iL (Af m ts i)) ⟨rfl,rfl⟩ (fun i ys H' hi ⟨_,e⟩=>by
  have:=Cg m ts i
  rw [e,Ak];exact Ag (by lia)) ?_ ?_
 ·rintro i ys H' hi ⟨rfl,rfl⟩
  rw [show (0:Int)+(i:Int)=(i:Int) from Int.zero_add _]
  refine ⟨_,.inl (.of g1),rfl,K5 _,?_⟩
  rw [in_iL]
  refine ite2 (fun e=>?_) (fun e=>?_)
  ·have e':¬ (ts.map (·.1)).contains i=true:=by simpa using e
   refine ⟨rfl,?_⟩
   rw [Eu,if_neg e',CP]
   rfl
  ·have e':(ts.map (·.1)).contains i=true:=by simpa using e
   refine ⟨rfl,?_⟩
   rw [Eu,if_pos e',List.append_nil]
 ·rintro ys H2 ⟨rfl,rfl⟩ lp hlp
  rw [Int.toNat_natCast]
  exact q lp _ (s1.free hlp) (s1.trans (Same.upd hlp)) AH
theorem G7:FnOk P w K mg base CX0 1 T.f_z36 T.d_z36 ["_law_glance_here"] (BX K):=by
 refine T.F_z36.ok Md (fun vs H Q E h=>by unfold BX at h;split at h <;> first | rfl | exact h.elim) (fun cdv A outer s H vs Q E hr h=>?_)
 have hu:=Ab hr
 unfold BX at h
 split at h
 rotate_left
 ·exact h.elim
 rename_i x
 obtain ⟨m,ts,S,G,q⟩:=h
 obtain ⟨a,b,us,rfl,ha,hb,hR⟩:=id S.at_
 have hul:us.length=ts.length:=by have:=hR.length;rw [List.length_map] at this;lia
 have htl:=G.len
 have hm:=G.m6
 refine ⟨_,(@AL _ _ _ (@AO _ _ _ _ (AD BW (AD CC AC (AD AR AC (kIx (K:=K) (vv 0) AC))) (Aa (Ch (K:=K) rfl) rfl T.z_sum (by rfl) (AA (@Aw _ _ _ _ _ _ _ ["_law_one"] 1 [] _ _ _ _ rfl (Ap (K:=K) (kIx (K:=K) (vv 0) AC)) (by kernel_rfl) rfl rfl (by kernel_rfl) (fun c=>AN (i:=0) (show (["_law_one"]:List Str).Nodup by decide +kernel) rfl (by (first | exact Or.inl rfl | exact Or.inr rfl))) (AW (by decide)) (fun c=>Az) (fun c=>(AD AR (kIx (K:=K) (vv 0) AC) (kIx (K:=K) (vv 0) AC))) (by intro _;rfl)) AB))))),?_⟩
 refine ⟨_,.int m,.inr ha,rfl,.inr (.inl ⟨by decide,by decide⟩),⟨by lia,by lia,by decide⟩,_,.ref b,.inr ha,rfl,.inr ⟨⟨_,hb⟩,?_⟩⟩
 refine Bv (xs:=us) (fun i ys H'=>H'=H/\ys=((ts.take i).map fun t=>t.2 * t.2).map V.int) ⟨rfl,rfl⟩ (fun i ys H' _ ⟨e,_⟩=>by rw [e];exact hb) (fun i ys H' hi ⟨_,e⟩=>by
  rw [e,List.length_map,List.length_map,List.length_take];exact Ag (by lia)) ?_ ?_
 ·rintro i x ys H' hx ⟨rfl,rfl⟩
  obtain ⟨⟨k,wgt⟩,c,hq,rfl,hc⟩:=BU hR hx
  have hgk : -64<=wgt/\wgt<=64:=(G.ok _ (List.mem_of_getElem? hq)).2
  refine ⟨_,.int wgt,.inr hc,rfl,_,.int wgt,.inr hc,rfl,.inr (.inl ⟨by lia,by lia⟩),rfl,?_⟩
  rw [List.take_add_one,hq,List.map_append,List.map_append]
  rfl
 ·rintro ys H' ⟨rfl,rfl⟩ lp hlp
  rw [List.take_of_length_le (by lia)]
  have:=q _ (Same.upd (o:=.lst ((ts.map fun t=>t.2 * t.2).map V.int)) hlp)
  unfold A2 BR at this
  rw [CW,<- FY] at this
  exact ⟨_,.of AH,this⟩
theorem KW {m k t:Nat} (m6:m<=6) (h:k < 2 ^ m):(false ^^ (((Bj (k &&& t):Nat):Int) % 2 == 1))=decide (chi m k t = -1):=by
 rw [G4 h (by lia),Bool.false_xor,Bool.eq_iff_iff]
 simp only [beq_iff_eq,decide_eq_true_eq]
 split <;> lia
theorem Jt {k t m:Nat} (m6:m<=6) (h:k < 2 ^ m):k &&& t < 2 ^ 64:=by
 have h64:2 ^ m<=64:=Nat.pow_le_pow_right (n:=2) (by decide) m6
 exact Nat.lt_of_le_of_lt Nat.and_le_left (Nat.lt_of_lt_of_le (show k < 64 by lia) (by decide))
theorem LY:FnOk P w K mg base CX0 2 T.f_z22 T.d_z22 ["_law_glance_here","_law_some"] (CF K):=by
 have G_z31:=HH (P:=P) (w:=w) (base:=base) T;have G_z36:=G7 (P:=P) (w:=w) (base:=base) T;have G_z35:=HY (P:=P) (w:=w) (base:=base) T;have G_z39:=EW (P:=P) (w:=w) (base:=base) T
 refine T.F_z22.ok sc_z22 (fun vs H Q E h=>by unfold CF at h;split at h <;> first | rfl | exact h.elim) (fun cdv A outer s H vs Q E hr h=>?_)
 have hu:=Ab hr
 have mo1:AK (BX K):=D7
 have mo2:AK (Bb K):=DS
 have mo3:AK BN:=Cc
 have mo4:AK Bk:=FU
 have hr_z31:=hr.mono (show 1<=_ by decide);have hr_z36:=hr.mono (show 1<=_ by decide);have hr_z35:=hr.mono (show 1<=_ by decide);have hr_z39:=hr.mono (show 1<=_ by decide)
 unfold CF at h
 split at h
 rotate_left
 ·exact h.elim
 rename_i x z
 obtain ⟨m,t,ts,S,G,e1,q⟩:=h
 subst e1
 obtain ⟨a,b,us,rfl,ha,hb,hR⟩:=id S.at_
 have hul:us.length=ts.length:=by have:=hR.length;rw [List.length_map] at this;lia
 have htl:=G.len
 have hm:=G.m6
 have h64:2 ^ m<=64:=Nat.pow_le_pow_right (n:=2) (by decide) hm.2
 have ho:=G.odd t
 have hr':=G.rest
 have hdl:=Cg m ts (2 ^ m)
 refine ⟨_,(@AE _ _ _ _ _ (@AI _ _ 2 _ _ _ _ sc_z22.nd rfl (by (first | exact Or.inl rfl | exact Or.inr rfl)) (Aa (Ch (K:=K) rfl) rfl T.z_sum (by rfl) (AA (Aw (N':=["_law_one","_law_weight","_law_some"]) (own:=2) (ix:=[1]) rfl (Ap (K:=K) (kIx (K:=K) (vv 0) AC)) (by kernel_rfl) rfl rfl (by kernel_rfl) (fun c=>Cf (K:=K) (n:=2) rfl (A1 (AN (i:=0) (show (["_law_one","_law_weight","_law_some"]:List Str).Nodup by decide +kernel) rfl (by (first | exact Or.inl rfl | exact Or.inr rfl))) (A1 (AN (i:=1) (show (["_law_one","_law_weight","_law_some"]:List Str).Nodup by decide +kernel) rfl (by (first | exact Or.inl rfl | exact Or.inr rfl))) Bw))) (Cm (BM As (CL As BI) (AW (by decide)) (BM As BI (AW (by decide)) Ck))) (fun c=>Bi (AV (kEq (K:=K) hu) (AD BQ (AF G_z39 hr_z39 rfl T.m_z39 T.F_z39.kp T.b_z39 .nil AG (AA (AD CI (vv 0) (vv 2)) AB)) AC) AC)) (fun c=>(AD AR (vv 1) (vv 1)))) AB)) (by rfl) (by (first | exact .inl rfl | exact .inr rfl | assumption))) (@AE _ _ _ _ _ (@AI _ _ 3 _ _ _ _ sc_z22.nd rfl (by (first | exact Or.inl rfl | exact Or.inr rfl)) (vv 2) (by rfl) (by (first | exact .inl rfl | exact .inr rfl | assumption))) (@AE _ _ _ _ _ (@Ay _ _ _ _ _ _ _ _ (AV (kIn (K:=K)) C0 (Aw (N':=["_law_one","_law_some"]) (own:=1) (ix:=[1]) rfl (Ap (K:=K) (AF G_z35 hr_z35 rfl T.m_z35 T.F_z35.kp T.b_z35 .nil AG (AA (vv 0) AB))) (by kernel_rfl) rfl rfl (by kernel_rfl) (fun c=>AN (i:=0) (show (["_law_one","_law_some"]:List Str).Nodup by decide +kernel) rfl (by (first | exact Or.inl rfl | exact Or.inr rfl))) (AW (by decide)) (fun c=>Az) (fun c=>(C2 (kEq (K:=K) hu) (AD BQ (AF G_z39 hr_z39 rfl T.m_z39 T.F_z39.kp T.b_z39 .nil AG (AA (AD CI (vv 0) (vv 1)) AB)) AC) AC)))) (@AL _ _ _ (@AI _ _ 3 _ _ _ _ sc_z22.nd rfl (by (first | exact Or.inl rfl | exact Or.inr rfl)) (AD (Aj (K:=K)) (vv 2) (AF G_z36 hr_z36 rfl T.m_z36 T.F_z36.kp T.b_z36 .nil AG (AA (vv 0) AB))) (by rfl) (by (first | exact .inl rfl | exact .inr rfl | assumption)))) Ax) (@AL _ _ _ (@AO _ _ _ _ (BD (AA (AF G_z31 hr_z31 rfl T.m_z31 T.F_z31.kp T.b_z31 .nil AG (AA (vv 2) (AA (AD CC AC (AD AR AC (kIx (K:=K) (vv 0) AC))) AB))) (AA (AF G_z31 hr_z31 rfl T.m_z31 T.F_z31.kp T.b_z31 .nil AG (AA (vv 3) (AA (AD CC AC (AD AR AC (kIx (K:=K) (vv 0) AC))) AB))) AB)))))))),?_⟩
 refine AT (fun σ H'=>σ=[some (.ref a),some (.int (t:Int)),some (.int (Av m ts t)),none]/\Same H H') ?_ ?_ (by (repeat' with_reducible first | exact Q5 | apply RK | apply QB | apply Mz | apply RP | apply Lo | apply MG | apply QK | exact Qg | exact MY | apply Mh | apply Of | apply Pk | apply Pf | apply Ny | apply OC | apply OY | apply M3 | apply Qz | exact Qc | exact Ph | exact QE | exact P4 | exact L7 | exact MJ | exact Lh | exact MC | exact L3 | exact Lw | apply Nl | apply Oc | apply OX | exact Qb | apply P2 | exact PZ | exact Qr | exact O3 | exact Q9 | exact Lz | apply Oy | apply Qo | apply Pp | exact As | apply CL | exact BI | exact Py | exact QF | apply Lq | apply Nm | exact NC | apply Lu | exact Qp | apply LQ | apply OD | exact NG | apply OR | exact QD | exact OI | exact Pw | exact Nk | apply PV | exact Nx | apply OS | assumption))
 ·refine ⟨_,.ref b,.inr ha,rfl,.inr ⟨⟨_,hb⟩,?_⟩⟩
  let f:Nat->Int->List Int:=fun k w=>if chi m k t = -1 then [w * w] else []
  have fl:∀ k w,(f k w).length<=1:=fun k w=>by show (if chi m k t = -1 then [w * w] else []).length<=1;split <;> simp
  refine Bv (xs:=us) (fun i ys H'=>H'=H/\ys=(BH f (ts.take i)).map V.int) ⟨rfl,rfl⟩ (fun i ys H' _ ⟨e,_⟩=>by rw [e];exact hb) (fun i ys H' hi ⟨_,e⟩=>by
   have:=Ea fl (ts.take i)
   rw [List.length_take] at this
   rw [e,List.length_map];exact Ag (by lia)) ?_ ?_
  ·rintro i x ys H' hx ⟨rfl,rfl⟩
   obtain ⟨⟨k,wgt⟩,c,hq,rfl,hc⟩:=BU hR hx
   have hg:=G.ok _ (List.mem_of_getElem? hq)
   have hgk : -64<=wgt/\wgt<=64:=hg.2
   have hk:k < 2 ^ m:=hg.1
   refine ⟨c,_,rfl,hc,rfl,_,_,rfl,_,_,rfl,rfl,k &&& t,CZ ..,Jt hm.2 hk,by decide,?_⟩
   have eb:=KW (t:=t) hm.2 hk
   refine ite2 (fun e=>?_) (fun e=>?_)
   ·have e:=of_decide_eq_true (eb ▸ e)
    refine ⟨.inr (.inl ⟨by lia,by lia⟩),rfl,?_⟩
    rw [C5 hq,List.map_append]
    show _=_++(if chi m k t = -1 then [wgt * wgt] else []).map V.int
    rw [if_pos e]
    rfl
   ·have e:¬ chi m k t = -1:=fun z=>e (eb.symm ▸ decide_eq_true z)
    refine ⟨rfl,?_⟩
    rw [C5 hq,List.map_append]
    show _=_++(if chi m k t = -1 then [wgt * wgt] else []).map V.int
    rw [if_neg e,List.map_nil,List.append_nil]
  ·rintro ys H' ⟨rfl,rfl⟩ lp hlp
   rw [List.take_of_length_le (by lia)]
   refine ⟨_,.of AH,?_⟩
   rw [Ek]
   have es:Am (fun k w=>(f k w).sum) ts=Av m ts t:=by
    unfold Av
    congr 1
    funext k w
    show ((if chi m k t = -1 then [w * w] else []):List Int).sum=_
    split <;> simp
   rw [es]
   exact ⟨rfl,Same.upd hlp⟩
 rintro σ H1 ⟨rfl,s1⟩
 refine AT (fun σ H'=>σ=[some (.ref a),some (.int (t:Int)),some (.int (Av m ts t)),some (.int (Av m ts t))]/\H1=H') ⟨rfl,rfl⟩ ?_ (by (repeat' with_reducible first | exact Q5 | apply RK | apply QB | apply Mz | apply RP | apply Lo | apply MG | apply QK | exact Qg | exact MY | apply Mh | apply Of | apply Pk | apply Pf | apply Ny | apply OC | apply OY | apply M3 | apply Qz | exact Qc | exact Ph | exact QE | exact P4 | exact L7 | exact MJ | exact Lh | exact MC | exact L3 | exact Lw | apply Nl | apply Oc | apply OX | exact Qb | apply P2 | exact PZ | exact Qr | exact O3 | exact Q9 | exact Lz | apply Oy | apply Qo | apply Pp | exact As | apply CL | exact BI | exact Py | exact QF | apply Lq | apply Nm | exact NC | apply Lu | exact Qp | apply LQ | apply OD | exact NG | apply OR | exact QD | exact OI | exact Pw | exact Nk | apply PV | exact Nx | apply OS | assumption))
 rintro σ _ ⟨rfl,rfl⟩
 refine AT (fun σ H'=>σ=[some (.ref a),some (.int (t:Int)),some (.int (Av m ts t)),some (.int (highT m ts t))]/\Same H H') ?_ ?_ (by (repeat' with_reducible first | exact Q5 | apply RK | apply QB | apply Mz | apply RP | apply Lo | apply MG | apply QK | exact Qg | exact MY | apply Mh | apply Of | apply Pk | apply Pf | apply Ny | apply OC | apply OY | apply M3 | apply Qz | exact Qc | exact Ph | exact QE | exact P4 | exact L7 | exact MJ | exact Lh | exact MC | exact L3 | exact Lw | apply Nl | apply Oc | apply OX | exact Qb | apply P2 | exact PZ | exact Qr | exact O3 | exact Q9 | exact Lz | apply Oy | apply Qo | apply Pp | exact As | apply CL | exact BI | exact Py | exact QF | apply Lq | apply Nm | exact NC | apply Lu | exact Qp | apply LQ | apply OD | exact NG | apply OR | exact QD | exact OI | exact Pw | exact Nk | apply PV | exact Nx | apply OS | assumption))
 ·refine GO (Dy m ts t) ?_ ?_
  ·intro Q q
   refine ⟨m,ts,S.same s1,G,fun l H2 nl s2 g2=>.inl ⟨⟨_,.of g2⟩,?_⟩⟩
   have hmem:=fun {k:Nat} (h:k∈Af m ts (2 ^ m))=>(darkL_mem.mp h).1
   unfold Dy at q
   generalize Af m ts (2 ^ m)=ds at *
   refine CQ (xs:=iL ds) (fun i ys H'=>H'=H2/\ys=((ds.take i).map fun k=>decide (chi m k t = -1)).map V.bl) ⟨rfl,rfl⟩ (fun i ys H' _ ⟨e,_⟩=>by rw [e];exact .of g2) (fun i ys H' hi ⟨_,e⟩=>by
    rw [Ak] at hi
    rw [e,List.length_map,List.length_map,List.length_take];exact Ag (by lia)) ?_ ?_
   ·rintro i x ys H' hx ⟨rfl,rfl⟩
    obtain ⟨k,hk,hkm,rfl⟩:=CG hx
    have hk2:=hmem hkm
    refine ⟨k &&& t,CZ ..,Jt hm.2 hk2,by decide,rfl,?_⟩
    rw [List.take_add_one,hk,List.map_append,List.map_append]
    show _++[V.bl (false ^^ (((Bj (k &&& t):Nat):Int) % 2 == 1))]=_
    rw [KW hm.2 hk2]
    rfl
   ·rintro ys H' ⟨rfl,rfl⟩ lp hlp
    rw [Ak,List.take_length]
    refine ⟨_,.inl (.of AH),rfl,by rw [List.all_map,List.all_eq_true];intro _ _;rfl,?_⟩
    rw [KI,List.any_map,Bool.false_xor]
    exact q _ (s2.trans (Same.upd hlp))
  ·intro H2 s2
   unfold highT
   refine ite2 (fun e=>?_) (fun e=>?_)
   ·refine ⟨m,ts,S.same (s1.trans s2),G,fun H3 s3=>?_⟩
    rw [if_pos e]
    exact ⟨rfl,(s1.trans s2).trans s3⟩
   ·rw [if_neg e]
    exact ⟨rfl,s1.trans s2⟩
 rintro σ H3 ⟨rfl,s3⟩
 have hh : -1000000<=highT m ts t/\highT m ts t<=1000000:=by unfold highT;split <;> lia
 have h4:=GH hm.2
 refine ⟨_,.int m,.inr (s3.sqT ha),rfl,.inr (.inl ⟨by decide,by decide⟩),⟨by lia,by lia,by decide⟩,?_⟩
 rw [FY]
 refine ⟨by lia,CA (by lia) (by lia),CA (by lia) (by lia),fun p1 n1=>?_⟩
 have s4:=Same.upd (o:=.tup [.int (shT (Av m ts t) (Au m)),.int (shB (Av m ts t) (Au m))]) n1
 have g4:=AH (H:=H3) (a:=p1) (o:=.tup [.int (shT (Av m ts t) (Au m)),.int (shB (Av m ts t) (Au m))])
 refine ⟨_,.int m,.inr (s4.sqT (s3.sqT ha)),rfl,.inr (.inl ⟨by decide,by decide⟩),⟨by lia,by lia,by decide⟩,?_⟩
 rw [FY]
 refine ⟨by lia,CA hh.1 hh.2,CA (by lia) (by lia),fun p2 n2=>?_⟩
 have s5:=Same.upd (o:=.tup [.int (shT (highT m ts t) (Au m)),.int (shB (highT m ts t) (Au m))]) n2
 refine ⟨Ac (show 2<=1000 by decide),fun p3 n3=>?_⟩
 have s6:=Same.upd (o:=.tup [.ref p1,.ref p2]) n3
 exact q _ _ (s3.trans (s4.trans (s5.trans s6))) (BJ AH (Ae (B0 ((s5.trans s6) _ _ g4)) (Ae (B0 (s6 _ _ AH)) At)))
noncomputable def ptS (m:Nat) (x y:Int) (j:Nat):Int:=(y - 2 * x) ^ j * y ^ (m - j)
theorem Fu {m:Nat} {x y:Int} (m6:m<=6) (hx:Nb x 66) (hy:Nb y 66) {j:Nat} (hj:j<=m):Nb ((y - 2 * x) ^ j) 420/\Nb (y ^ (m - j)) 420/\Nb (ptS m x y j) 840:=by
 have h1:Nb ((y - 2 * x) ^ j) 420:=((Ew hx hy).pow j).up (by lia)
 have h2:Nb (y ^ (m - j)) 420:=(hy.pow (m - j)).up (by lia)
 exact ⟨h1,h2,(h1.mul h2).up (by lia)⟩
theorem IM {m:Nat} {x y:Int}:∀ (ts:List (Nat × Int)),(∀ q∈ts,manyF m q.1 < m+1)->Ao m (lvT m ts) x y (m+1)=Am (fun s w=>w * w * ptS m x y (manyF m s)) ts
 | [],_=>by
  unfold Ao
  rw [Ar (g:=fun _=>0) fun j _=>by show (0:Int) * _ * _=0;rw [Int.zero_mul,Int.zero_mul],Gy]
  rfl
 | q::ts,h=>by
  have ih:=IM (x:=x) (y:=y) ts fun z hz=>h z (List.mem_cons_of_mem _ hz)
  have hq:=h q List.mem_cons_self
  show _=q.2 * q.2 * ptS m x y (manyF m q.1)+Am (fun s w=>w * w * ptS m x y (manyF m s)) ts
  rw [<- ih]
  have hp:=Ep (fun j=>q.2 * q.2 * ptS m x y j) (manyF m q.1) (m+1)
  rw [if_pos hq] at hp
  rw [<- hp]
  unfold Ao
  rw [E1]
  refine Ar fun j _=>?_
  show ((if manyF m q.1=j then q.2 * q.2 else 0)+lvT m ts j) * _ * _=(if manyF m q.1=j then q.2 * q.2 * ptS m x y j else 0)+_
  unfold ptS
  split
  ·rw [Int.add_mul,Int.add_mul,Int.mul_assoc (q.2 * q.2)]
  ·rw [Int.zero_add,Int.zero_add]
theorem LO {m:Nat} {x y:Int} (ts:List (Nat × Int)) {k:Nat} (hk:k<=m):Ao m (lvR m ts k) x y (m+1)=Ao m (lvT m ts) x y (m+1)+A2 m ts * ptS m x y k:=by
 have hp:=Ep (fun j=>A2 m ts * ptS m x y j) k (m+1)
 rw [if_pos (by lia)] at hp
 rw [<- hp]
 unfold Ao
 rw [E1]
 refine Ar fun j _=>?_
 unfold lvR ptS
 by_cases e:j=k
 ·rw [if_pos e,if_pos e.symm,Int.add_mul,Int.add_mul,Int.mul_assoc (A2 m ts)]
 ·rw [if_neg e,if_neg (fun z=>e z.symm),Int.add_zero]
theorem K7 {m:Nat} {f:Nat->Int} {x y:Int} (m6:m<=6) (hf:∀ j,j < m+1->Nb (f j) 20) (hx:Nb x 66) (hy:Nb y 66):Nb (stW m y+Ao m f x y (m+1)) 1000:=by
 have wn:=E9 m6 hy
 have pn:Nb (Ao m f x y (m+1)) 910:=(Nb.sum (f:=fun j=>f j * (y - 2 * x) ^ j * y ^ (m - j)) (a:=900) (n:=m+1) fun j hj=>(HK m6 hf hx hy j hj).2.2).up (by lia)
 exact ((wn.up (show 500<=910 by lia)).add pn).up (by lia)
theorem PQ {ms:List Int} (h:ms.Pairwise (· <= ·)) (hne:ms≠[]):∃ lo hi,atI (ms.map V.int) 0=some (.int lo)/\atI (ms.map V.int) (-1)=some (.int hi)/\lo∈ms/\hi∈ms/\∀ z∈ms,lo<=z/\z<=hi:=by
 cases ms with
 | nil=>exact absurd rfl hne
 | cons lo r =>
  rcases List.eq_nil_or_concat (lo::r) with e | ⟨ys,hi,e⟩
  ·cases e
  rw [List.concat_eq_append] at e
  refine ⟨lo,hi,Dh (n:=0) rfl rfl,?_,List.mem_cons_self,by rw [e];exact List.mem_append_right _ (List.mem_singleton.mpr rfl),fun z hz=>⟨?_,?_⟩⟩
  ·rw [e,List.map_append]
   exact Pc _ _
  ·rcases List.mem_cons.mp hz with rfl | hz
   ·exact Int.le_refl _
   ·exact (List.pairwise_cons.mp h).1 z hz
  ·rw [e] at h hz
   rcases List.mem_append.mp hz with hz | hz
   ·exact (List.pairwise_append.mp h).2.2 z hz hi (List.mem_singleton.mpr rfl)
   ·rw [List.mem_singleton.mp hz]
    exact Int.le_refl _
theorem JC {H:Hp}:∀ ms:List Int,Reps K H (ms.map Dv.int) (ms.map V.int)
 | []=>At
 | z::ms=>Ae BK (JC ms)
theorem Jf {H:Hp} {l:Addr} {ms:List Int} (h:H l=some (.lst (ms.map V.int))):Rep K H (.lst (ms.map Dv.int)) (.ref l):=by
 unfold Rep
 exact ⟨l,_,rfl,.of h,JC ms⟩
theorem Hj:∀ ms:List Int,A6 (ms.map Dv.int)=0
 | []=>rfl
 | z::ms=>by
  show max (AY (.int z)) (A6 (ms.map Dv.int))=0
  rw [Hj ms]
  rfl
theorem Qh:FnOk P w K mg base CX0 2 T.f_z28 T.d_z28 ["_law_glance_here","_law_share_here"] (CS K):=by
 have G_z29:=Lx (P:=P) (w:=w) (base:=base) T;have G_z31:=HH (P:=P) (w:=w) (base:=base) T;have G_z39:=EW (P:=P) (w:=w) (base:=base) T;have G_z36:=G7 (P:=P) (w:=w) (base:=base) T;have G_z35:=HY (P:=P) (w:=w) (base:=base) T
 refine T.F_z28.ok sc_z28 (fun vs H Q E h=>by unfold CS at h;split at h <;> first | rfl | exact h.elim) (fun cdv A outer s H vs Q E hr h=>?_)
 have hu:=Ab hr
 have mo1:AK (BX K):=D7
 have mo2:AK (Bb K):=DS
 have mo3:AK BN:=Cc
 have mo4:AK Bk:=FU
 have mo5:AK B2:=Ig
 have hr_z29:=hr.mono (show 1<=_ by decide);have hr_z31:=hr.mono (show 1<=_ by decide);have hr_z39:=hr.mono (show 1<=_ by decide);have hr_z36:=hr.mono (show 1<=_ by decide);have hr_z35:=hr.mono (show 1<=_ by decide)
 unfold CS at h
 split at h
 rotate_left
 ·exact h.elim
 rename_i x0 ps
 obtain ⟨m,ts,x,y,S,G,hps,y0,hx,hy,q⟩:=h
 obtain ⟨a,b,us,rfl,ha,hb,hR⟩:=id S.at_
 have hul:us.length=ts.length:=by have:=hR.length;rw [List.length_map] at this;lia
 have htl:=G.len
 have hm:=G.m6
 have m6:=hm.2
 have h64:2 ^ m<=64:=Nat.pow_le_pow_right (n:=2) (by decide) hm.2
 have hdl:=Cg m ts (2 ^ m)
 have hmy:∀ q∈ts,manyF m q.1 < m+1:=fun q _=>Nat.lt_succ_of_le (Co m q.1)
 refine ⟨_,(@AE _ _ _ _ _ (@AI _ _ 2 _ _ _ _ sc_z28.nd rfl (by (first | exact Or.inl rfl | exact Or.inr rfl)) (kIx (K:=K) (vv 0) AC) (by rfl) (by (first | exact .inl rfl | exact .inr rfl | assumption))) (@AE _ _ _ _ _ (@CN _ _ _ _ _ _ (vv 1) (Go (K:=K) (n:=2) rfl (A1 (AN (i:=3) sc_z28.nd rfl (by (first | exact Or.inl rfl | exact Or.inr rfl))) (A1 (AN (i:=4) sc_z28.nd rfl (by (first | exact Or.inl rfl | exact Or.inr rfl))) Bw))) (by rfl) (by rfl) (by rfl)) (@AE _ _ _ _ _ (@AI _ _ 5 _ _ _ _ sc_z28.nd rfl (by (first | exact Or.inl rfl | exact Or.inr rfl)) (@Aw _ _ _ _ _ _ _ (["_law_j","_law_bottom","_law_top","_law_n_here"]) 1 ([4,3,2]) _ _ _ _ rfl (A9 rfl T.z_range (AA (AD (Aj (K:=K)) (vv 2) AC) AB)) (by kernel_rfl) rfl rfl (by kernel_rfl) (fun c=>AN (i:=0) (show (["_law_j","_law_bottom","_law_top","_law_n_here"]:List Str).Nodup by decide +kernel) rfl (by (first | exact Or.inl rfl | exact Or.inr rfl))) (AW (by decide)) (fun c=>Az) (fun c=>(AD AR (AF G_z29 hr_z29 rfl T.m_z29 T.F_z29.kp T.b_z29 .nil AG (AA (AD BW (vv 1) (AD AR AC (vv 2))) (AA (vv 0) AB))) (AF G_z29 hr_z29 rfl T.m_z29 T.F_z29.kp T.b_z29 .nil AG (AA (vv 1) (AA (AD BW (vv 3) (vv 0)) AB))))) (by intro _;rfl)) (by rfl) (by (first | exact .inl rfl | exact .inr rfl | assumption))) (@AE _ _ _ _ _ (@AI _ _ 6 _ _ _ _ sc_z28.nd rfl (by (first | exact Or.inl rfl | exact Or.inr rfl)) (AD AR (AF G_z29 hr_z29 rfl T.m_z29 T.F_z29.kp T.b_z29 .nil AG (AA (vv 4) (AA (vv 2) AB))) (AD CC AC (AD AR AC (vv 2)))) (by rfl) (by (first | exact .inl rfl | exact .inr rfl | assumption))) (@AE _ _ _ _ _ (@AI _ _ 7 _ _ _ _ sc_z28.nd rfl (by (first | exact Or.inl rfl | exact Or.inr rfl)) (AD (Aj (K:=K)) (vv 6) (Aa (Ch (K:=K) rfl) rfl T.z_sum (by rfl) (AA (Aw (N':=["_law_one","_law_weight","_law_parts"]) (own:=2) (ix:=[5]) rfl (Ap (K:=K) (kIx (K:=K) (vv 0) AC)) (by kernel_rfl) rfl rfl (by kernel_rfl) (fun c=>Cf (K:=K) (n:=2) rfl (A1 (AN (i:=0) (show (["_law_one","_law_weight","_law_parts"]:List Str).Nodup by decide +kernel) rfl (by (first | exact Or.inl rfl | exact Or.inr rfl))) (A1 (AN (i:=1) (show (["_law_one","_law_weight","_law_parts"]:List Str).Nodup by decide +kernel) rfl (by (first | exact Or.inl rfl | exact Or.inr rfl))) Bw))) (Cm (BM As (CL As BI) (AW (by decide)) (BM As BI (AW (by decide)) Ck))) (fun c=>Az) (fun c=>(AD AR (AD AR (vv 1) (vv 1)) (kIx (K:=K) (vv 2) (AF G_z39 hr_z39 rfl T.m_z39 T.F_z39.kp T.b_z39 .nil AG (AA (vv 0) AB)))))) AB))) (by rfl) (by (first | exact .inl rfl | exact .inr rfl | assumption))) (@AE _ _ _ _ _ (@AI _ _ 8 _ _ _ _ sc_z28.nd rfl (by (first | exact Or.inl rfl | exact Or.inr rfl)) (Aa (P5 (K:=K)) rfl T.z_sorted (by rfl) (AA (@Aw _ _ _ _ _ _ _ ["_law_one"] 1 [] _ _ _ _ rfl (Ap (K:=K) (AF G_z35 hr_z35 rfl T.m_z35 T.F_z35.kp T.b_z35 .nil AG (AA (vv 0) AB))) (by kernel_rfl) rfl rfl (by kernel_rfl) (fun c=>AN (i:=0) (show (["_law_one"]:List Str).Nodup by decide +kernel) rfl (by (first | exact Or.inl rfl | exact Or.inr rfl))) (AW (by decide)) (fun c=>Az) (fun c=>(AF G_z39 hr_z39 rfl T.m_z39 T.F_z39.kp T.b_z39 .nil AG (AA (vv 0) AB))) (by intro _;rfl)) AB)) (by rfl) (by (first | exact .inl rfl | exact .inr rfl | assumption))) (@AE _ _ _ _ _ (@Ay _ _ _ _ _ _ _ _ (AV (kEq (K:=K) hu) (vv 8) (@Bq _ _ _ _ AB)) (@AL _ _ _ (@AO _ _ _ _ (BD (AA (AF G_z31 hr_z31 rfl T.m_z31 T.F_z31.kp T.b_z31 .nil AG (AA (vv 7) (AA (AD AR AC (vv 6)) AB))) (AA (AF G_z31 hr_z31 rfl T.m_z31 T.F_z31.kp T.b_z31 .nil AG (AA (vv 7) (AA (AD AR AC (vv 6)) AB))) AB))))) Ax) (@AE _ _ _ _ _ (@AI _ _ 9 _ _ _ _ sc_z28.nd rfl (by (first | exact Or.inl rfl | exact Or.inr rfl)) (AD (Aj (K:=K)) (vv 7) (AD AR (AF G_z36 hr_z36 rfl T.m_z36 T.F_z36.kp T.b_z36 .nil AG (AA (vv 0) AB)) (kIx (K:=K) (vv 5) (kIx (K:=K) (vv 8) (Ex Ez AC))))) (by rfl) (by (first | exact .inl rfl | exact .inr rfl | assumption))) (@AE _ _ _ _ _ (@AI _ _ 10 _ _ _ _ sc_z28.nd rfl (by (first | exact Or.inl rfl | exact Or.inr rfl)) (AD (Aj (K:=K)) (vv 7) (AD AR (AF G_z36 hr_z36 rfl T.m_z36 T.F_z36.kp T.b_z36 .nil AG (AA (vv 0) AB)) (kIx (K:=K) (vv 5) (kIx (K:=K) (vv 8) AC)))) (by rfl) (by (first | exact .inl rfl | exact .inr rfl | assumption))) (@AL _ _ _ (@AO _ _ _ _ (BD (AA (AF G_z31 hr_z31 rfl T.m_z31 T.F_z31.kp T.b_z31 .nil AG (AA (vv 9) (AA (AD AR AC (vv 6)) AB))) (AA (AF G_z31 hr_z31 rfl T.m_z31 T.F_z31.kp T.b_z31 .nil AG (AA (vv 10) (AA (AD AR AC (vv 6)) AB))) AB)))))))))))))),?_⟩
 refine ⟨_,.int m,.inr ha,rfl,?_⟩
 dsimp only [AQ]
 refine ⟨_,.inr hps,rfl,_,_,rfl,_,_,rfl,rfl,?_⟩
 dsimp only [AQ]
 refine AT (fun σ H'=>∃ l:Addr,σ=[some (.ref a),some (.ref ps),some (.int m),some (.int x),some (.int y),some (.ref l),none,none,none,none,none]/\Same H H'/\H' l=some (.lst (ixL (ptS m x y) (m+1)))) ?_ ?_ (by (repeat' with_reducible first | exact Q5 | apply RK | apply QB | apply Mz | apply RP | apply Lo | apply MG | apply QK | exact Qg | exact MY | apply Mh | apply Of | apply Pk | apply Pf | apply Ny | apply OC | apply OY | apply M3 | apply Qz | exact Qc | exact Ph | exact QE | exact P4 | exact L7 | exact MJ | exact Lh | exact MC | exact L3 | exact Lw | apply Nl | apply Oc | apply OX | exact Qb | apply P2 | exact PZ | exact Qr | exact O3 | exact Q9 | exact Lz | apply Oy | apply Qo | apply Pp | exact As | apply CL | exact BI | exact Py | exact QF | apply Lq | apply Nm | exact NC | apply Lu | exact Qp | apply LQ | apply OD | exact NG | apply OR | exact QD | exact OI | exact Pw | exact Nk | apply PV | exact Nx | apply OS | assumption))
 ·refine ⟨_,rfl,by lia,by lia,?_⟩
  refine Ba (n:=((m:Int)+1).toNat) (fun i zs H'=>H'=H/\zs=ixL (ptS m x y) i) ⟨rfl,rfl⟩ (fun i zs H' hi ⟨_,e⟩=>by rw [e,ixL_len];exact Ag (by lia)) ?_ ?_
  ·rintro i zs H' hi ⟨rfl,rfl⟩
   rw [show (0:Int)+(i:Int)=(i:Int) from Int.zero_add _]
   have hi':i<=m:=by lia
   obtain ⟨n1,n2,n3⟩:=Fu m6 hx hy hi'
   refine ⟨.inr (.inl ⟨by decide,by decide⟩),i,rfl,by lia,.inr ⟨(Ew hx hy).up (by lia),by lia⟩,m - i,by lia,by lia,.inr ⟨hy.up (by lia),by lia⟩,Nb.okMul (n1.up (by lia)) (n2.up (by lia)),rfl,?_⟩
   rw [Es]
   rfl
  ·rintro zs H' ⟨rfl,rfl⟩ l hl
   have e:((m:Int)+1).toNat=m+1:=by lia
   rw [e]
   exact ⟨l,rfl,Same.upd hl,AH⟩
 rintro σ H1 ⟨l,rfl,s1,g1⟩
 refine ⟨m,rfl,by lia,.inr ⟨hy.up (by lia),by lia⟩,.inr (.inl ⟨by decide,by decide⟩),⟨by lia,by lia,by decide⟩,?_⟩
 rw [FY]
 have n13:Nb (Au m) 13:=by
  unfold Nb Au
  rw [Int.natAbs_natCast]
  exact Nat.pow_lt_pow_right (by decide) (by lia)
 have ew:y ^ m * Au m=stW m y:=Int.mul_comm _ _
 refine ⟨Nb.okMul ((hy.pow m).up (by lia)) (n13.up (by lia)),?_⟩
 rw [ew]
 dsimp only [AQ]
 refine AT (fun σ H'=>σ=[some (.ref a),some (.ref ps),some (.int m),some (.int x),some (.int y),some (.ref l),some (.int (stW m y)),some (.int (stW m y+Ao m (lvT m ts) x y (m+1))),none,none,none]/\Same H1 H') ?_ ?_ (by (repeat' with_reducible first | exact Q5 | apply RK | apply QB | apply Mz | apply RP | apply Lo | apply MG | apply QK | exact Qg | exact MY | apply Mh | apply Of | apply Pk | apply Pf | apply Ny | apply OC | apply OY | apply M3 | apply Qz | exact Qc | exact Ph | exact QE | exact P4 | exact L7 | exact MJ | exact Lh | exact MC | exact L3 | exact Lw | apply Nl | apply Oc | apply OX | exact Qb | apply P2 | exact PZ | exact Qr | exact O3 | exact Q9 | exact Lz | apply Oy | apply Qo | apply Pp | exact As | apply CL | exact BI | exact Py | exact QF | apply Lq | apply Nm | exact NC | apply Lu | exact Qp | apply LQ | apply OD | exact NG | apply OR | exact QD | exact OI | exact Pw | exact Nk | apply PV | exact Nx | apply OS | assumption))
 ·refine ⟨_,.ref b,.inr (s1.sqT ha),rfl,.inr ⟨⟨_,s1.sqT hb⟩,?_⟩⟩
  refine Bv (xs:=us) (fun i ys H'=>H'=H1/\ys=((ts.take i).map fun t=>t.2 * t.2 * ptS m x y (manyF m t.1)).map V.int) ⟨rfl,rfl⟩ (fun i ys H' _ ⟨e,_⟩=>by rw [e];exact s1.sqT hb) (fun i ys H' hi ⟨_,e⟩=>by
   rw [e,List.length_map,List.length_map,List.length_take];exact Ag (by lia)) ?_ ?_
  ·rintro i x' ys H' hx' ⟨rfl,rfl⟩
   obtain ⟨⟨k,wgt⟩,c,hq,rfl,hc⟩:=BU (Reps.same s1 _ _ hR) hx'
   have hg:=G.ok _ (List.mem_of_getElem? hq)
   have hgk : -64<=wgt/\wgt<=64:=hg.2
   have hk:k < 2 ^ m:=hg.1
   have hml:=Co m k
   have nw:Nb (wgt * wgt) 13:=by have:=Eh hgk;unfold Nb;lia
   refine ⟨c,_,rfl,hc,rfl,_,_,rfl,_,_,rfl,rfl,.inr (.inl ⟨by lia,by lia⟩),k,rfl,Nat.lt_of_lt_of_le (show k < 64 by lia) (by decide),?_⟩
   rw [Cw hk (by lia)]
   refine ⟨_,.int (ptS m x y (manyF m k)),.inl (.of g1),B5 (by lia),Nb.okMul (nw.up (by lia)) ((Fu m6 hx hy hml).2.2.up (by lia)),rfl,?_⟩
   rw [List.take_add_one,hq,List.map_append,List.map_append]
   rfl
  ·rintro ys H' ⟨rfl,rfl⟩ lp hlp
   rw [List.take_of_length_le (by lia)]
   refine ⟨_,.of AH,?_⟩
   rw [IM ts hmy,CW]
   exact ⟨rfl,Same.upd hlp⟩
 rintro σ H2 ⟨rfl,s2⟩
 have s02:=s1.trans s2
 refine AT (fun σ H'=>∃ (l2:Addr) (ms:List Int),σ=[some (.ref a),some (.ref ps),some (.int m),some (.int x),some (.int y),some (.ref l),some (.int (stW m y)),some (.int (stW m y+Ao m (lvT m ts) x y (m+1))),some (.ref l2),none,none]/\Same H2 H'/\H' l2=some (.lst (ms.map V.int))/\ms.Perm ((Af m ts (2 ^ m)).map fun k=>((manyF m k:Nat):Int))/\ms.Pairwise (· <= ·)) ?_ ?_ (by (repeat' with_reducible first | exact Q5 | apply RK | apply QB | apply Mz | apply RP | apply Lo | apply MG | apply QK | exact Qg | exact MY | apply Mh | apply Of | apply Pk | apply Pf | apply Ny | apply OC | apply OY | apply M3 | apply Qz | exact Qc | exact Ph | exact QE | exact P4 | exact L7 | exact MJ | exact Lh | exact MC | exact L3 | exact Lw | apply Nl | apply Oc | apply OX | exact Qb | apply P2 | exact PZ | exact Qr | exact O3 | exact Q9 | exact Lz | apply Oy | apply Qo | apply Pp | exact As | apply CL | exact BI | exact Py | exact QF | apply Lq | apply Nm | exact NC | apply Lu | exact Qp | apply LQ | apply OD | exact NG | apply OR | exact QD | exact OI | exact Pw | exact Nk | apply PV | exact Nx | apply OS | assumption))
 ·refine ⟨m,ts,S.same s02,G,fun l3 H3 nl s3 g3=>.inl ⟨⟨_,.of g3⟩,?_⟩⟩
  have hmem:=fun {k:Nat} (h:k∈Af m ts (2 ^ m))=>(darkL_mem.mp h).1
  generalize Af m ts (2 ^ m)=ds at *
  refine CQ (xs:=iL ds) (fun i ys H'=>H'=H3/\ys=((ds.take i).map fun k=>((manyF m k:Nat):Int)).map V.int) ⟨rfl,rfl⟩ (fun i ys H' _ ⟨e,_⟩=>by rw [e];exact .of g3) (fun i ys H' hi ⟨_,e⟩=>by
   rw [Ak] at hi
   rw [e,List.length_map,List.length_map,List.length_take];exact Ag (by lia)) ?_ ?_
  ·rintro i x ys H' hx ⟨rfl,rfl⟩
   obtain ⟨k,hk,hkm,rfl⟩:=CG hx
   have hk2:=hmem hkm
   refine ⟨k,rfl,Nat.lt_of_lt_of_le (show k < 64 by lia) (by decide),rfl,?_⟩
   rw [Cw hk2 (by lia),List.take_add_one,hk,List.map_append,List.map_append]
   rfl
  ·rintro ys H' ⟨rfl,rfl⟩ lp hlp
   rw [Ak,List.take_length]
   refine ⟨_,.of AH,by rw [List.length_map];lia,fun ms p hperm hs hp=>⟨p,ms,rfl,s3.trans ((Same.upd hlp).trans (Same.upd hp)),AH,hperm,hs⟩⟩
 rintro σ H3 ⟨l2,ms,rfl,s3,g3,hperm,hsort⟩
 have s03:=s02.trans s3
 have w0:=Gg (m:=m) y0
 have wn:=E9 m6 hy
 have e2:Nb (2 * stW m y) 510:=by
  have two:Nb 2 2:=by unfold Nb;decide
  exact (two.mul wn).up (by lia)
 have shr:∀ (f:Nat->Int),(∀ j,j < m+1->Nb (f j) 20)->0 < 2 * stW m y/\(stW m y+Ao m f x y (m+1)).natAbs < 2 ^ 1000/\(2 * stW m y).natAbs < 2 ^ 1000:=fun f hf=>⟨Int.mul_pos (by decide) w0,K7 m6 hf hx hy,e2.up (by lia)⟩
 refine AT (fun σ H'=>σ=[some (.ref a),some (.ref ps),some (.int m),some (.int x),some (.int y),some (.ref l),some (.int (stW m y)),some (.int (stW m y+Ao m (lvT m ts) x y (m+1))),some (.ref l2),none,none]/\Same H3 H'/\ms≠[]) ?_ ?_ (by (repeat' with_reducible first | exact Q5 | apply RK | apply QB | apply Mz | apply RP | apply Lo | apply MG | apply QK | exact Qg | exact MY | apply Mh | apply Of | apply Pk | apply Pf | apply Ny | apply OC | apply OY | apply M3 | apply Qz | exact Qc | exact Ph | exact QE | exact P4 | exact L7 | exact MJ | exact Lh | exact MC | exact L3 | exact Lw | apply Nl | apply Oc | apply OX | exact Qb | apply P2 | exact PZ | exact Qr | exact O3 | exact Q9 | exact Lz | apply Oy | apply Qo | apply Pp | exact As | apply CL | exact BI | exact Py | exact QF | apply Lq | apply Nm | exact NC | apply Lu | exact Qp | apply LQ | apply OD | exact NG | apply OR | exact QD | exact OI | exact Pw | exact Nk | apply PV | exact Nx | apply OS | assumption))
 ·refine ⟨Ac (show 0<=1000 by decide),fun le nle=>?_⟩
  have t1:=Same.upd (o:=.lst []) nle
  refine ⟨.lst (ms.map Dv.int),.lst [],Jf (t1 _ _ g3),Jf (ms:=[]) AH,by show A6 (ms.map Dv.int)+1<=60;rw [Hj];decide,?_⟩
  cases ms with
  | cons z ms=>exact ⟨rfl,t1,by simp⟩
  | nil =>
   have hd:Af m ts (2 ^ m)=[]:=by
    have:=hperm.length_eq
    rw [List.length_map] at this
    exact List.length_eq_zero_iff.mp this.symm
   obtain ⟨c1,c2,c3⟩:=shr (lvT m ts) fun j _=>Fg G j
   refine ⟨.inr (.inl ⟨by decide,by decide⟩),c1,c2,c3,fun p1 n1=>⟨.inr (.inl ⟨by decide,by decide⟩),c1,c2,c3,fun p2 n2=>⟨Ac (show 2<=1000 by decide),fun p3 n3=>?_⟩⟩⟩
   have t2:=Same.upd (o:=.tup [.int (shT (stW m y+Ao m (lvT m ts) x y (m+1)) (2 * stW m y)),.int (shB (stW m y+Ao m (lvT m ts) x y (m+1)) (2 * stW m y))]) n1
   have t3:=Same.upd (o:=.tup [.int (shT (stW m y+Ao m (lvT m ts) x y (m+1)) (2 * stW m y)),.int (shB (stW m y+Ao m (lvT m ts) x y (m+1)) (2 * stW m y))]) n2
   have t4:=Same.upd (o:=.tup [.ref p1,.ref p2]) n3
   exact q _ _ _ _ (s03.trans (t1.trans (t2.trans (t3.trans t4)))) (BJ AH (Ae (B0 ((t3.trans t4) _ _ AH)) (Ae (B0 (t4 _ _ AH)) At))) (.inl ⟨hd,rfl,rfl⟩)
 rintro σ H4 ⟨rfl,s4,hne⟩
 have s04:=s03.trans s4
 obtain ⟨lo,hi,hlo,hhi,mlo,mhi,hall⟩:=PQ hsort hne
 obtain ⟨klo,mklo,rfl⟩:=List.mem_map.mp (hperm.mem_iff.mp mlo)
 obtain ⟨khi,mkhi,rfl⟩:=List.mem_map.mp (hperm.mem_iff.mp mhi)
 have hr':=G.rest
 have nr:Nb (A2 m ts) 20:=by unfold Nb;lia
 have g4:H4 l2=some (.lst (ms.map V.int)):=s4 _ _ g3
 have g4l:H4 l=some (.lst (ixL (ptS m x y) (m+1))):=s4 _ _ (s3 _ _ (s2 _ _ g1))
 have bl:=Co m klo
 have bh:=Co m khi
 refine ⟨m,ts,S.same s04,G,fun H5 s5=>⟨_,_,.inl (.of (s5 _ _ g4)),hhi,_,.int (ptS m x y (manyF m khi)),.inl (.of (s5 _ _ g4l)),B5 (by lia),Nb.okMul (nr.up (by lia)) ((Fu m6 hx hy bh).2.2.up (by lia)),?_⟩⟩
 dsimp only [AQ]
 refine ⟨m,ts,S.same (s04.trans s5),G,fun H6 s6=>⟨_,_,.inl (.of (s6 _ _ (s5 _ _ g4))),hlo,_,.int (ptS m x y (manyF m klo)),.inl (.of (s6 _ _ (s5 _ _ g4l))),B5 (by lia),Nb.okMul (nr.up (by lia)) ((Fu m6 hx hy bl).2.2.up (by lia)),?_⟩⟩
 dsimp only [AQ,Ca]
 rw [Int.add_assoc,<- LO ts bh,Int.add_assoc,<- LO ts bl]
 have s06:=s04.trans (s5.trans s6)
 obtain ⟨c1,c2,c3⟩:=shr (lvR m ts (manyF m khi)) fun j _=>E8 G _ j
 obtain ⟨d1,d2,d3⟩:=shr (lvR m ts (manyF m klo)) fun j _=>E8 G _ j
 refine ⟨.inr (.inl ⟨by decide,by decide⟩),c1,c2,c3,fun p1 n1=>⟨.inr (.inl ⟨by decide,by decide⟩),d1,d2,d3,fun p2 n2=>⟨Ac (show 2<=1000 by decide),fun p3 n3=>?_⟩⟩⟩
 have t1:=Same.upd (o:=.tup [.int (shT (stW m y+Ao m (lvR m ts (manyF m khi)) x y (m+1)) (2 * stW m y)),.int (shB (stW m y+Ao m (lvR m ts (manyF m khi)) x y (m+1)) (2 * stW m y))]) n1
 have t2:=Same.upd (o:=.tup [.int (shT (stW m y+Ao m (lvR m ts (manyF m klo)) x y (m+1)) (2 * stW m y)),.int (shB (stW m y+Ao m (lvR m ts (manyF m klo)) x y (m+1)) (2 * stW m y))]) n2
 have t3:=Same.upd (o:=.tup [.ref p1,.ref p2]) n3
 refine q _ _ _ _ (s06.trans (t1.trans (t2.trans t3))) (BJ AH (Ae (B0 ((t2.trans t3) _ _ AH)) (Ae (B0 (t3 _ _ AH)) At))) (.inr ⟨manyF m khi,manyF m klo,List.mem_map.mpr ⟨khi,mkhi,rfl⟩,List.mem_map.mpr ⟨klo,mklo,rfl⟩,fun k hk=>?_,rfl,rfl⟩)
 have:=hall _ (hperm.mem_iff.mpr (List.mem_map.mpr ⟨k,hk,rfl⟩))
 lia
theorem JM (k o:Nat):(false ^^ (Builtin.bitAnd (k:Int) (o:Int) == (k:Int)))=decide (k &&& o=k):=by
 rw [CZ,Bool.false_xor,Bool.eq_iff_iff]
 simp only [beq_iff_eq,decide_eq_true_eq]
 lia
theorem Ob:FnOk P w K mg base CX0 3 T.f_z24 T.d_z24 ["_law_glance_here","_law_k"] (CM K):=by
 have G_z38:=MR (P:=P) (w:=w) (base:=base) T;have G_z36:=G7 (P:=P) (w:=w) (base:=base) T;have G_z35:=HY (P:=P) (w:=w) (base:=base) T
 refine T.F_z24.ok sc_z24 (fun vs H Q E h=>by unfold CM at h;split at h <;> first | rfl | exact h.elim) (fun cdv A outer s H vs Q E hr h=>?_)
 have hu:=Ab hr
 have mo1:AK (BX K):=D7
 have mo2:AK (Bb K):=DS
 have mo3:AK B9:=J8
 have hr_z38:=hr.mono (show 2<=_ by decide);have hr_z36:=hr.mono (show 1<=_ by decide);have hr_z35:=hr.mono (show 1<=_ by decide)
 unfold CM at h
 split at h
 rotate_left
 ·exact h.elim
 rename_i x0 z
 obtain ⟨m,k,ts,S,G,hr0,e1,q⟩:=h
 subst e1
 obtain ⟨a,b,us,rfl,ha,hb,hR⟩:=id S.at_
 have hul:us.length=ts.length:=by have:=hR.length;rw [List.length_map] at this;lia
 have htl:=G.len
 have hm:=G.m6
 have h64:2 ^ m<=64:=Nat.pow_le_pow_right (n:=2) (by decide) hm.2
 have i1:((2 ^ m:Nat):Int)<=64:=Int.ofNat_le.mpr h64
 have hdl:=Cg m ts (2 ^ m)
 have hsl:=FZ m (min m k) (2 ^ m)
 have hsn:=Ix m k
 have hsh:C3 1 (m:Int):=⟨by lia,by lia,by decide⟩
 have hev:2 ^ m % 2=0:=by
  obtain ⟨j,rfl⟩:∃ j,m=j+1:=⟨m - 1,by lia⟩
  rw [Nat.pow_succ]
  lia
 refine ⟨_,(@AE _ _ _ _ _ (@AI _ _ 2 _ _ _ _ sc_z24.nd rfl (by (first | exact Or.inl rfl | exact Or.inr rfl)) AC (by rfl) (by (first | exact .inl rfl | exact .inr rfl | assumption))) (@AE _ _ _ _ _ (@Bm _ _ _ _ _ _ _ _ PassesOwn.never rfl (Ap (K:=K) (AF G_z38 hr_z38 rfl T.m_z38 T.F_z38.kp T.b_z38 .nil AG (AA (kIx (K:=K) (vv 0) AC) (AA (vv 1) AB)))) (AN (i:=3) sc_z24.nd rfl (by (first | exact Or.inl rfl | exact Or.inr rfl))) (@AE _ _ _ _ _ (@AI _ _ 4 _ _ _ _ sc_z24.nd rfl (by (first | exact Or.inl rfl | exact Or.inr rfl)) (Aa (Ch (K:=K) rfl) rfl T.z_sum (by rfl) (AA (Aw (N':=["_law_one","_law_weight","_law_some"]) (own:=2) (ix:=[3]) rfl (Ap (K:=K) (kIx (K:=K) (vv 0) AC)) (by kernel_rfl) rfl rfl (by kernel_rfl) (fun c=>Cf (K:=K) (n:=2) rfl (A1 (AN (i:=0) (show (["_law_one","_law_weight","_law_some"]:List Str).Nodup by decide +kernel) rfl (by (first | exact Or.inl rfl | exact Or.inr rfl))) (A1 (AN (i:=1) (show (["_law_one","_law_weight","_law_some"]:List Str).Nodup by decide +kernel) rfl (by (first | exact Or.inl rfl | exact Or.inr rfl))) Bw))) (Cm (BM As (CL As BI) (AW (by decide)) (BM As BI (AW (by decide)) Ck))) (fun c=>Bi (AV (kEq (K:=K) hu) (AD CI (vv 0) (vv 2)) (vv 0))) (fun c=>(AD AR (vv 1) (vv 1)))) AB)) (by rfl) (by (first | exact .inl rfl | exact .inr rfl | assumption))) (@AE _ _ _ _ _ (@Ay _ _ _ _ _ _ _ _ (AV (kIn (K:=K)) C0 (Aw (N':=["_law_one","_law_some"]) (own:=1) (ix:=[3]) rfl (Ap (K:=K) (AF G_z35 hr_z35 rfl T.m_z35 T.F_z35.kp T.b_z35 .nil AG (AA (vv 0) AB))) (by kernel_rfl) rfl rfl (by kernel_rfl) (fun c=>AN (i:=0) (show (["_law_one","_law_some"]:List Str).Nodup by decide +kernel) rfl (by (first | exact Or.inl rfl | exact Or.inr rfl))) (AW (by decide)) (fun c=>Az) (fun c=>(C2 (kEq (K:=K) hu) (AD CI (vv 0) (vv 1)) (vv 0))))) (@AL _ _ _ (@AI _ _ 4 _ _ _ _ sc_z24.nd rfl (by (first | exact Or.inl rfl | exact Or.inr rfl)) (AD (Aj (K:=K)) (vv 4) (AF G_z36 hr_z36 rfl T.m_z36 T.F_z36.kp T.b_z36 .nil AG (AA (vv 0) AB))) (by rfl) (by (first | exact .inl rfl | exact .inr rfl | assumption)))) Ax) (@AL _ _ _ (@AI _ _ 2 _ _ _ _ sc_z24.nd rfl (by (first | exact Or.inl rfl | exact Or.inr rfl)) (Aa (IV rfl) rfl T.z_max (by rfl) (AA (vv 2) (AA (vv 4) AB))) (by rfl) (by (first | exact .inl rfl | exact .inr rfl | assumption)))))) (by intro _;rfl)) (@AE _ _ _ _ _ (@Bm _ _ _ _ _ _ _ _ PassesOwn.never rfl (A9 rfl T.z_range (AA (AD CC AC (kIx (K:=K) (vv 0) AC)) AB)) (AN (i:=5) sc_z24.nd rfl (by (first | exact Or.inl rfl | exact Or.inr rfl))) (@AE _ _ _ _ _ (@AI _ _ 6 _ _ _ _ sc_z24.nd rfl (by (first | exact Or.inl rfl | exact Or.inr rfl)) (AD BW (AD CC AC (kIx (K:=K) (vv 0) AC)) (AD AR AC (vv 5))) (by rfl) (by (first | exact .inl rfl | exact .inr rfl | assumption))) (@AL _ _ _ (@Ay _ _ _ _ _ _ _ _ (PW.pt (LH (AV Ef (vv 6) AC) (Ir (AV Nu (AD AR (vv 6) (vv 6)) (vv 2))))) (@AL _ _ _ (@AO _ _ _ _ (vv 5))) Ax))) (by intro _;rfl)) (@AL _ _ _ (@AO _ _ _ _ Q7))))),?_⟩
 refine AT (fun σ H'=>σ=[some (.ref a),some (.int (k:Int)),some (.int 0),none,none,none,none]/\H=H') ⟨rfl,rfl⟩ ?_ (by (repeat' with_reducible first | exact Q5 | apply RK | apply QB | apply Mz | apply RP | apply Lo | apply MG | apply QK | exact Qg | exact MY | apply Mh | apply Of | apply Pk | apply Pf | apply Ny | apply OC | apply OY | apply M3 | apply Qz | exact Qc | exact Ph | exact QE | exact P4 | exact L7 | exact MJ | exact Lh | exact MC | exact L3 | exact Lw | apply Nl | apply Oc | apply OX | exact Qb | apply P2 | exact PZ | exact Qr | exact O3 | exact Q9 | exact Lz | apply Oy | apply Qo | apply Pp | exact As | apply CL | exact BI | exact Py | exact QF | apply Lq | apply Nm | exact NC | apply Lu | exact Qp | apply LQ | apply OD | exact NG | apply OR | exact QD | exact OI | exact Pw | exact Nk | apply PV | exact Nx | apply OS | assumption))
 rintro σ _ ⟨rfl,rfl⟩
 refine AT (fun σ H'=>∃ (gr:Int) (z3 z4:Option V),σ=[some (.ref a),some (.int (k:Int)),some (.int gr),z3,z4,none,none]/\Same H H'/\(∀ o∈A3 m (min m k) (2 ^ m),mostT m ts o<=gr)/\0<=gr/\∃ o∈A3 m (min m k) (2 ^ m),mostT m ts o=gr) ?_ ?_ (by (repeat' with_reducible first | exact Q5 | apply RK | apply QB | apply Mz | apply RP | apply Lo | apply MG | apply QK | exact Qg | exact MY | apply Mh | apply Of | apply Pk | apply Pf | apply Ny | apply OC | apply OY | apply M3 | apply Qz | exact Qc | exact Ph | exact QE | exact P4 | exact L7 | exact MJ | exact Lh | exact MC | exact L3 | exact Lw | apply Nl | apply Oc | apply OX | exact Qb | apply P2 | exact PZ | exact Qr | exact O3 | exact Q9 | exact Lz | apply Oy | apply Qo | apply Pp | exact As | apply CL | exact BI | exact Py | exact QF | apply Lq | apply Nm | exact NC | apply Lu | exact Qp | apply LQ | apply OD | exact NG | apply OR | exact QD | exact OI | exact Pw | exact Nk | apply PV | exact Nx | apply OS | assumption))
 ·refine ⟨_,.int m,.inr ha,rfl,m,k,rfl,rfl,hm.2,fun ls H1 hls s1 g1=>.inl ⟨⟨_,.of g1⟩,?_⟩⟩
  generalize A3 m (min m k) (2 ^ m)=ss at *
  refine FE (xs:=iL ss) (fun i σ H'=>∃ (gr:Int) (z3 z4:Option V),σ=[some (.ref a),some (.int (k:Int)),some (.int gr),z3,z4,none,none]/\Same H1 H'/\(∀ o∈ss.take i,mostT m ts o<=gr)/\0<=gr/\(gr=0\/∃ o∈ss,mostT m ts o=gr)) ⟨0,none,none,rfl,Same.refl _,(fun o ho=>by simp at ho),Int.le_refl _,.inl rfl⟩ (fun i σ H' _ ⟨_,_,_,_,s,_⟩=>.of (s _ _ g1)) ?_ ?_
  ·rintro i x σ H2 hx ⟨gr,z3,z4,rfl,s2,hall,h0,hgr⟩
   obtain ⟨o,ho,hom,rfl⟩:=CG hx
   dsimp only [AQ]
   have s12:=s1.trans s2
   refine AT (fun σ H'=>σ=[some (.ref a),some (.int (k:Int)),some (.int gr),some (.int (o:Int)),some (.int (Bh ts o)),none,none]/\Same H2 H') ?_ ?_ (by (repeat' with_reducible first | exact Q5 | apply RK | apply QB | apply Mz | apply RP | apply Lo | apply MG | apply QK | exact Qg | exact MY | apply Mh | apply Of | apply Pk | apply Pf | apply Ny | apply OC | apply OY | apply M3 | apply Qz | exact Qc | exact Ph | exact QE | exact P4 | exact L7 | exact MJ | exact Lh | exact MC | exact L3 | exact Lw | apply Nl | apply Oc | apply OX | exact Qb | apply P2 | exact PZ | exact Qr | exact O3 | exact Q9 | exact Lz | apply Oy | apply Qo | apply Pp | exact As | apply CL | exact BI | exact Py | exact QF | apply Lq | apply Nm | exact NC | apply Lu | exact Qp | apply LQ | apply OD | exact NG | apply OR | exact QD | exact OI | exact Pw | exact Nk | apply PV | exact Nx | apply OS | assumption))
   ·refine ⟨_,.ref b,.inr (s12.sqT ha),rfl,.inr ⟨⟨_,s12.sqT hb⟩,?_⟩⟩
    let f:Nat->Int->List Int:=fun k w=>if k &&& o=k then [w * w] else []
    have fl:∀ k w,(f k w).length<=1:=fun k w=>by show (if k &&& o=k then [w * w] else []).length<=1;split <;> simp
    refine Bv (xs:=us) (fun i ys H'=>H'=H2/\ys=(BH f (ts.take i)).map V.int) ⟨rfl,rfl⟩ (fun i ys H' _ ⟨e,_⟩=>by rw [e];exact s12.sqT hb) (fun i ys H' hi ⟨_,e⟩=>by
     have:=Ea fl (ts.take i)
     rw [List.length_take] at this
     rw [e,List.length_map];exact Ag (by lia)) ?_ ?_
    ·rintro i x ys H' hx ⟨rfl,rfl⟩
     obtain ⟨⟨k,wgt⟩,c,hq,rfl,hc⟩:=BU (Reps.same s12 _ _ hR) hx
     have hgk : -64<=wgt/\wgt<=64:=(G.ok _ (List.mem_of_getElem? hq)).2
     refine ⟨c,_,rfl,hc,rfl,_,_,rfl,_,_,rfl,rfl,?_⟩
     have eb:=JM k o
     refine ite2 (fun e=>?_) (fun e=>?_)
     ·have e:=of_decide_eq_true (eb ▸ e)
      refine ⟨.inr (.inl ⟨by lia,by lia⟩),rfl,?_⟩
      rw [C5 hq,List.map_append]
      show _=_++(if k &&& o=k then [wgt * wgt] else []).map V.int
      rw [if_pos e]
      rfl
     ·have e:¬ k &&& o=k:=fun z=>e (eb.symm ▸ decide_eq_true z)
      refine ⟨rfl,?_⟩
      rw [C5 hq,List.map_append]
      show _=_++(if k &&& o=k then [wgt * wgt] else []).map V.int
      rw [if_neg e,List.map_nil,List.append_nil]
    ·rintro ys H' ⟨rfl,rfl⟩ lp hlp
     rw [List.take_of_length_le (by lia)]
     refine ⟨_,.of AH,?_⟩
     rw [Ek]
     have es:Am (fun k w=>(f k w).sum) ts=Bh ts o:=by
      unfold Bh
      congr 1
      funext k w
      show ((if k &&& o=k then [w * w] else []):List Int).sum=_
      split <;> simp
     rw [es]
     exact ⟨rfl,Same.upd hlp⟩
   rintro σ H3 ⟨rfl,s3⟩
   have s13:=s12.trans s3
   refine AT (fun σ H'=>σ=[some (.ref a),some (.int (k:Int)),some (.int gr),some (.int (o:Int)),some (.int (mostT m ts o)),none,none]/\Same H2 H') ?_ ?_ (by (repeat' with_reducible first | exact Q5 | apply RK | apply QB | apply Mz | apply RP | apply Lo | apply MG | apply QK | exact Qg | exact MY | apply Mh | apply Of | apply Pk | apply Pf | apply Ny | apply OC | apply OY | apply M3 | apply Qz | exact Qc | exact Ph | exact QE | exact P4 | exact L7 | exact MJ | exact Lh | exact MC | exact L3 | exact Lw | apply Nl | apply Oc | apply OX | exact Qb | apply P2 | exact PZ | exact Qr | exact O3 | exact Q9 | exact Lz | apply Oy | apply Qo | apply Pp | exact As | apply CL | exact BI | exact Py | exact QF | apply Lq | apply Nm | exact NC | apply Lu | exact Qp | apply LQ | apply OD | exact NG | apply OR | exact QD | exact OI | exact Pw | exact Nk | apply PV | exact Nx | apply OS | assumption))
   ·refine GO (inO m ts o) ?_ ?_
    ·intro Q q
     refine ⟨m,ts,S.same s13,G,fun l H4 nl s4 g4=>.inl ⟨⟨_,.of g4⟩,?_⟩⟩
     unfold inO at q
     generalize Af m ts (2 ^ m)=ds at *
     refine CQ (xs:=iL ds) (fun i ys H'=>H'=H4/\ys=((ds.take i).map fun k=>decide (k &&& o=k)).map V.bl) ⟨rfl,rfl⟩ (fun i ys H' _ ⟨e,_⟩=>by rw [e];exact .of g4) (fun i ys H' hi ⟨_,e⟩=>by
      rw [Ak] at hi
      rw [e,List.length_map,List.length_map,List.length_take];exact Ag (by lia)) ?_ ?_
     ·rintro i x ys H' hx ⟨rfl,rfl⟩
      obtain ⟨k,hk,hkm,rfl⟩:=CG hx
      refine ⟨rfl,?_⟩
      rw [List.take_add_one,hk,List.map_append,List.map_append]
      show _++[V.bl (false ^^ (Builtin.bitAnd (k:Int) (o:Int) == (k:Int)))]=_
      rw [JM]
      rfl
     ·rintro ys H' ⟨rfl,rfl⟩ lp hlp
      rw [Ak,List.take_length]
      refine ⟨_,.inl (.of AH),rfl,by rw [List.all_map,List.all_eq_true];intro _ _;rfl,?_⟩
      rw [KI,List.any_map,Bool.false_xor]
      exact q _ (s4.trans (Same.upd hlp))
    ·intro H4 s4
     unfold mostT
     refine ite2 (fun e=>?_) (fun e=>?_)
     ·refine ⟨m,ts,S.same (s13.trans s4),G,fun H5 s5=>?_⟩
      rw [if_pos e]
      exact ⟨rfl,s3.trans (s4.trans s5)⟩
     ·rw [if_neg e]
      exact ⟨rfl,s3.trans s4⟩
   rintro σ H4 ⟨rfl,s4⟩
   have hmo:=G.most hr0 o
   refine ⟨max gr (mostT m ts o),_,_,rfl,s2.trans s4,fun o' ho'=>?_,by lia,?_⟩
   ·rw [List.take_add_one,ho] at ho'
    rcases List.mem_append.mp ho' with h | h
    ·have:=hall o' h;lia
    ·have:o'=o:=by simpa using h
     subst this
     lia
   ·rcases Int.le_total (mostT m ts o) gr with z | z
    ·rw [Int.max_eq_left z];exact hgr
    ·rw [Int.max_eq_right z];exact .inr ⟨o,hom,rfl⟩
  ·rintro σ H2 ⟨gr,z3,z4,rfl,s2,hall,h0,hgr⟩
   rw [Ak,List.take_length] at hall
   refine ⟨gr,z3,z4,rfl,s1.trans s2,hall,h0,?_⟩
   rcases hgr with z | h
   ·obtain ⟨o,ho⟩:=List.exists_mem_of_length_pos hsn
    refine ⟨o,ho,?_⟩
    have h1:=hall o ho
    have h2:=G.most hr0 o
    lia
   ·exact h
 rintro σ H1 ⟨gr,z3,z4,rfl,s1,hall,g0,hex⟩
 refine ⟨_,.int m,.inr (s1.sqT ha),rfl,hsh,?_⟩
 rw [GM]
 refine ⟨_,rfl,by lia,by lia,?_⟩
 refine EA (fun i σ H'=>∃ z5 z6:Option V,σ=[some (.ref a),some (.int (k:Int)),some (.int gr),z3,z4,z5,z6]/\H'=H1/\∀ d:Nat,d < i->2 * d<=2 ^ m/\gr < (((2 ^ m:Nat):Int) - 2 * d) * (((2 ^ m:Nat):Int) - 2 * d)) ⟨_,_,rfl,rfl,fun d hd=>by lia⟩ ?_ ?_
 ·rintro i σ H2 hi ⟨z5,z6,rfl,rfl,hd⟩
  rw [show (0:Int)+(i:Int)=(i:Int) from Int.zero_add _]
  have hi':i < 2 ^ m:=by lia
  dsimp only [AQ]
  refine ⟨_,.int m,.inr (s1.sqT ha),rfl,hsh,.inr (.inl ⟨by decide,by decide⟩),?_⟩
  rw [GM]
  dsimp only [AQ,C4]
  have h2i:2 * i<=2 ^ m:=by
   rcases Nat.eq_zero_or_pos i with z | z
   ·lia
   ·obtain ⟨h1,h2⟩:=hd (i - 1) (by lia)
    rcases Nat.lt_or_ge (2 * (i - 1)) (2 ^ m) with z2 | z2
    ·lia
    ·have e0:((2 ^ m:Nat):Int) - 2 * ((i - 1:Nat):Int)=0:=by lia
     rw [e0] at h2
     lia
  have hnn:(0:Int)<=((2 ^ m:Nat):Int) - 2 * (i:Int):=by lia
  refine ite2 (fun e=>absurd (of_decide_eq_true e) (by lia)) (fun _=>?_)
  refine ⟨.inr (.inl ⟨by lia,by lia⟩),?_⟩
  refine ite2 (fun e=>?_) (fun e=>?_)
  ·have e:(((2 ^ m:Nat):Int) - 2 * i) * (((2 ^ m:Nat):Int) - 2 * i)<=gr:=of_decide_eq_true e
   exact q i gr _ s1 hall hex (fun d' hd'=>(hd d' hd').2) e h2i
  ·have e:¬ (((2 ^ m:Nat):Int) - 2 * i) * (((2 ^ m:Nat):Int) - 2 * i)<=gr:=fun z=>e (decide_eq_true z)
   refine ⟨_,_,rfl,rfl,fun d hd'=>?_⟩
   rcases Nat.lt_or_ge d i with z | z
   ·exact hd d z
   ·have:d=i:=by lia
    subst this
    exact ⟨h2i,by lia⟩
 ·rintro σ H2 ⟨z5,z6,rfl,rfl,hd⟩
  have hp:=Nat.two_pow_pos m
  have h2:=(hd (2 ^ m / 2) (by rw [Int.toNat_natCast];lia)).2
  have e0:((2 ^ m:Nat):Int) - 2 * ((2 ^ m / 2:Nat):Int)=0:=by lia
  rw [e0] at h2
  lia
theorem Gz {α:Type} [DecidableEq α]:∀ {ds ls:List α},ds.Nodup->(∀ z∈ds,z∈ls)->ds.length<=ls.length
 | [],ls,_,_=>Nat.zero_le _
 | z::ds,ls,nd,h=>by
  obtain ⟨h1,h2⟩:=List.nodup_cons.mp nd
  have hz:z∈ls:=h z (by simp)
  have:=Gz (ds:=ds) (ls:=ls.erase z) h2 (fun x hx=>(List.mem_erase_of_ne (fun e:x=z=>h1 (e ▸ hx))).mpr (h x (List.mem_cons_of_mem _ hx)))
  have e:=List.length_erase_of_mem hz
  have:0 < ls.length:=List.length_pos_of_mem hz
  rw [List.length_cons]
  lia
theorem JF {α:Type} [DecidableEq α]:∀ {ms ds:List α},ds.Nodup->(∀ z∈ds,z∈ms)->ms.length<=ds.length->ms.Nodup
 | [],_,_,_,_=>List.nodup_nil
 | z::ms,ds,nd,h,hl=>by
  rw [List.length_cons] at hl
  have hz:z∉ms:=fun hz=>by
   have:=Gz (ls:=ms) nd fun x hx=>by
    rcases List.mem_cons.mp (h x hx) with e | e
    ·rw [e];exact hz
    ·exact e
   lia
  refine List.nodup_cons.mpr ⟨hz,JF (ds:=ds.erase z) (nd.erase z) (fun x hx=>?_) ?_⟩
  ·have h1:=(List.Nodup.mem_erase_iff nd).mp hx
   exact (List.mem_cons.mp (h x h1.2)).resolve_left h1.1
  ·have:ds.length - 1<=(ds.erase z).length:=by
    rw [List.length_erase]
    split <;> lia
   lia
theorem RA {ls:List Nat} {ds ms:List Int} (nd:ds.Nodup) (h1:∀ k,k∈ds ↔ k∈ls.map fun (r:Nat)=>(r:Int)) (hl:ms.length=ds.length) (h2:∀ k,k∈ms ↔ k∈ds) (hs:ms.Pairwise (· <= ·)):∃ ks:List Nat,ms=ks.map (fun (r:Nat)=>(r:Int))/\ks.Pairwise (· < ·)/\∀ k,k∈ks ↔ k∈ls:=by
 have hn:ms.Nodup:=JF nd (fun z hz=>(h2 z).mpr hz) (by lia)
 have hz:∀ z∈ms,∃ k∈ls,((k:Nat):Int)=z:=fun z hz=>List.mem_map.mp ((h1 z).mp ((h2 z).mp hz))
 have e:ms=(ms.map Int.toNat).map (fun (r:Nat)=>(r:Int)):=by
  rw [List.map_map]
  have e0:ms.map id=ms:=List.map_id _
  conv=>lhs;rw [<- e0]
  refine List.map_congr_left fun z hz'=>?_
  obtain ⟨k,_,rfl⟩:=hz z hz'
  rfl
 refine ⟨ms.map Int.toNat,e,?_,fun k=>?_⟩
 ·rw [List.pairwise_map]
  refine List.Pairwise.imp_of_mem (fun {a b} ha hb h=>?_) (hs.and hn)
  obtain ⟨k,_,rfl⟩:=hz a ha
  obtain ⟨j,_,rfl⟩:=hz b hb
  have h1:=h.1
  have h2:=h.2
  show ((k:Int)).toNat < ((j:Int)).toNat
  lia
 ·have h3:k∈ms.map Int.toNat ↔ ((k:Nat):Int)∈ms:=by
   constructor
   ·intro h
    obtain ⟨z,hz',rfl⟩:=List.mem_map.mp h
    obtain ⟨j,_,rfl⟩:=hz z hz'
    exact hz'
   ·intro h
    exact List.mem_map.mpr ⟨_,h,rfl⟩
  rw [h3,h2,h1,List.mem_map]
  constructor
  ·rintro ⟨j,hj,e⟩
   have:j=k:=by lia
   exact this ▸ hj
  ·exact fun h=>⟨k,h,rfl⟩
noncomputable def D6 (K:W.Frag):Sp:=fun vs H Q _=>match vs with
 | [v,.ref l]=>∃ (m:Nat) (g:Nat->Int) (ls:List Nat),SumAt K H v m (Ah g (2 ^ m))/\m<=6/\SqL K H l (iL ls)/\ls.length<=1000/\(∀ k∈ls,k < 2 ^ m)/\∀ v' (ks:List Nat) H',Same H H'->ks.Pairwise (· < ·)->(∀ k,k∈ks ↔ k∈ls)->Rep K H' (BY m (ks.map fun k=>(k,g k))) v'->Q v' H'
 | _=>False
theorem OB:AK (D6 K):=fun vs H Q Q' E h q=>by
 unfold D6 at *
 split at q
 ·revert q;repeat' first | exact h _ _ | exact A4 h | exact out_mono h | exact outT_mono h | (with_reducible first | refine Exists.imp fun _=>?_ | refine And.imp_right ?_ | refine forall_imp fun _=>?_)
 ·exact q.elim
theorem Oi:FnOk P w K mg base CX0 4 T.f_z37 T.d_z37 ["one","sets"] (D6 K):=by
 have G_z30:=Om (P:=P) (w:=w) (base:=base) T
 refine T.F_z37.ok sc_z37 (fun vs H Q E h=>by unfold D6 at h;split at h <;> first | rfl | exact h.elim) (fun cdv A outer s H vs Q E hr h=>?_)
 have hu:=Ab hr
 have mo1:AK (D8 K):=RE
 have hr_z30:=hr.mono (show 3<=_ by decide)
 unfold D6 at h
 split at h
 rotate_left
 ·exact h.elim
 rename_i v l
 obtain ⟨m,g,ls,S,m6,hl,hll,hlt,q⟩:=h
 obtain ⟨a,b,us,rfl,ha,hb,hR⟩:=id S.at_
 have h64:2 ^ m<=64:=Nat.pow_le_pow_right (n:=2) (by decide) m6
 refine ⟨_,(@AE _ _ _ _ _ (@AI _ _ 2 _ _ _ _ sc_z37.nd rfl (by (first | exact Or.inl rfl | exact Or.inr rfl)) (AF G_z30 hr_z30 rfl T.m_z30 T.F_z30.kp T.b_z30 .nil AG (AA (vv 0) AB)) (by rfl) (by (first | exact .inl rfl | exact .inr rfl | assumption))) (@AL _ _ _ (@AO _ _ _ _ (BD (AA (kIx (K:=K) (vv 0) AC) (AA (CD (E6 (K:=K)) rfl T.z_tuple (by rfl) (AA (Aw (N':=["subset","weights"]) (own:=1) (ix:=[2]) rfl (Ap (K:=K) (Aa (NA (P:=P) (w:=w) rfl) rfl T.z_sorted (by rfl) (AA (CD (N2 (K:=K) (P:=P) (w:=w) rfl) rfl T.z_set (by rfl) (AA (vv 1) AB)) AB))) (by kernel_rfl) rfl rfl (by kernel_rfl) (fun c=>AN (i:=0) (show (["subset","weights"]:List Str).Nodup by decide +kernel) rfl (by (first | exact Or.inl rfl | exact Or.inr rfl))) (AW (by decide)) (fun c=>Az) (fun c=>(BD (AA (vv 0) (AA (kIx (K:=K) (vv 1) (vv 0)) AB))))) AB)) AB)))))),?_⟩
 refine ⟨m,g,S,m6,fun p1 H1 np1 s1 g1=>?_⟩
 dsimp only [AQ]
 refine ⟨_,.int m,.inr (s1.sqT ha),rfl,_,by rw [<- HI];exact s1.sqL hl,by rw [List.length_map];exact hll,fun ds p2 nd hds np2=>?_⟩
 have s2:=Same.upd (o:=.ext (CH P w p2 ds)) np2
 have hdl:ds.length<=64:=by
  have:=Gz (ls:=(List.range (2 ^ m)).map fun (r:Nat)=>(r:Int)) nd fun z hz=>by
   obtain ⟨k,hk,rfl⟩:=List.mem_map.mp ((hds z).mp hz)
   exact List.mem_map.mpr ⟨k,List.mem_range.mpr (hlt k hk),rfl⟩
  rw [List.length_map,List.length_range] at this
  lia
 refine ⟨ds,AH,hdl,fun ms p3 hml hms hsort np3=>?_⟩
 obtain ⟨ks,rfl,hks,hkm⟩:=RA nd hds hml hms hsort
 rw [<- HI]
 rw [List.length_map] at hml
 have s3:=s2.trans (Same.upd (o:=.lst (iL ks)) np3)
 have g3:=AH (H:=upd H1 p2 (.ext (CH P w p2 ds))) (a:=p3) (o:=.lst (iL ks))
 generalize upd (upd H1 p2 (.ext (CH P w p2 ds))) p3 (.lst (iL ks))=H3 at *
 refine .inl ⟨⟨_,.of g3⟩,?_⟩
 have g31:=s3 _ _ g1
 refine CQ (xs:=iL ks) (fun i ys H'=>Same H3 H'/\Reps K H' ((ks.take i).map fun k=>A8 (k,g k)) ys) ⟨Same.refl _,At⟩ (fun i ys H' _ ⟨e,_⟩=>.of (e _ _ g3)) (fun i ys H' hi ⟨_,e⟩=>by
  have:=e.length
  rw [List.length_map,List.length_take] at this
  rw [<- this];exact Ag (by lia)) ?_ ?_
 ·rintro i x ys H' hx ⟨s',r'⟩
  obtain ⟨k,hk,hkk,rfl⟩:=CG hx
  have hk2:=hlt k ((hkm k).mp hkk)
  refine ⟨_,.int (g k),.inl (.of (s' _ _ g31)),B5 hk2,Ac (show 2<=1000 by decide),fun c hc=>⟨s'.trans (Same.upd hc),?_⟩⟩
  rw [List.take_add_one,hk,List.map_append]
  exact (Reps.same (Same.upd hc) _ _ r').append (Ae (BJ AH (Ae BK (Ae BK At))) At)
 ·rintro ys H' ⟨s',r'⟩ lp hlp
  rw [Ak,List.take_length] at r'
  refine ⟨_,.inl ⟨.of AH,fun k hk=>⟨Ac (show 2<=1000 by decide),fun k2 hk2=>?_⟩⟩⟩
  have S:=(Same.upd (o:=.lst ys) hlp).trans ((Same.upd (o:=.tup ys) hk).trans (Same.upd (o:=.tup [.int m,.ref k]) hk2))
  refine q _ ks _ (s1.trans (s3.trans (s'.trans S))) hks hkm (BJ AH (Ae BK (Ae (BJ (Same.upd hk2 _ _ AH) (ds:=(ks.map fun k=>(k,g k)).map A8) (by rw [List.map_map];exact Reps.same S _ _ r')) At)))
theorem Pl (ts:List (Nat × Int)) (h:∀ t∈ts,t.1<=64 /\ -64<=t.2/\t.2<=64):A7 (ts.map A8)=true/\BO (ts.map A8)=3 * ts.length:=by
 induction ts with
 | nil=>simp [A7,BO]
 | cons t ts ih =>
  obtain ⟨i1,i2⟩:=ih fun x hx=>h x (List.mem_cons_of_mem _ hx)
  obtain ⟨h1,h2,h3⟩:=h t List.mem_cons_self
  have n1:CT (t.1:Int)=true:=Fj (by lia)
  have n2:CT t.2=true:=Fj (by lia)
  rw [List.map_cons]
  unfold A7 BO
  rw [i1,i2,List.length_cons]
  simp [A8,Ai,A7,A5,BO,n1,n2]
  lia
theorem Qt (m:Nat) (ts:List (Nat × Int)):AY (BY m ts)<=3:=by
 have h1:∀ ts:List (Nat × Int),A6 (ts.map A8)<=1:=fun ts=>by
  induction ts with
  | nil=>simp [A6]
  | cons t ts ih =>
   rw [List.map_cons]
   unfold A6
   have:AY (A8 t)=1:=by simp [A8,AY,A6]
   lia
 have:=h1 ts
 simp only [BY,AY,A6]
 lia
theorem Gl.nice {m:Nat} {ts:List (Nat × Int)} (G:Gl m ts):Ai (BY m ts)=true/\A5 (BY m ts)<=8000/\AY (BY m ts)<=60:=by
 have hm:=G.m6
 have h64:2 ^ m<=64:=Nat.pow_le_pow_right (n:=2) (by decide) hm.2
 obtain ⟨h1,h2⟩:=Pl ts fun t ht=>by
  have:=G.ok t ht
  exact ⟨by lia,this.2.1,this.2.2⟩
 have hl:=G.len
 have hn:CT (m:Int)=true:=Fj (by lia)
 have hd:=Qt m ts
 refine ⟨?_,?_,by lia⟩
 ·simp [BY,Ai,A7,h1,hn]
 ·simp [BY,A5,BO,h2];lia
theorem Gd {a b c e:Int} (h1:Ai (shD a b)=true) (h2:Ai (shD c e)=true):Ai (.tup [shD a b,shD c e])=true/\A5 (.tup [shD a b,shD c e])<=8000/\AY (.tup [shD a b,shD c e])<=60:=by
 refine ⟨?_,?_,?_⟩
 ·unfold Ai A7 A7 A7
  rw [h1,h2]
  rfl
 ·have e1:=Kr (a:=a) (b:=b)
  have e2:=Kr (a:=c) (b:=e)
  simp [A5,BO,e1,e2]
 ·have e1:=Jv (a:=a) (b:=b)
  have e2:=Jv (a:=c) (b:=e)
  simp [AY,A6,e1,e2]
theorem PJ {m:Nat} {ts:List (Nat × Int)} (G:Gl m ts) (t:Nat):Ai (EX m ts t)=true/\A5 (EX m ts t)<=8000/\AY (EX m ts t)<=60:=by
 have ho:=G.odd t
 have hr':=G.rest
 have h4:=GH G.m6.2
 have hh : -1000000<=highT m ts t/\highT m ts t<=1000000:=by unfold highT;split <;> lia
 exact Gd (GK (CA (by lia) (by lia)) (CA (by lia) (by lia)) (by lia)) (GK (CA hh.1 hh.2) (CA (by lia) (by lia)) (by lia))
theorem Qy {m:Nat} {ts:List (Nat × Int)} {x y:Int} {d1 d2:Dv} (G:Gl m ts) (y0:0 < y) (hx:Nb x 66) (hy:Nb y 66) (h:StW m ts x y d1 d2):Ai (.tup [d1,d2])=true/\A5 (.tup [d1,d2])<=8000/\AY (.tup [d1,d2])<=60:=by
 have m6:=G.m6.2
 have w0:=Gg (m:=m) y0
 have e2:Nb (2 * stW m y) 510:=by
  have two:Nb 2 2:=by unfold Nb;decide
  exact (two.mul (E9 m6 hy)).up (by lia)
 have nn:∀ f,(∀ j,j < m+1->Nb (f j) 20)->Ai (DK m f x y)=true:=fun f hf=>GK (K7 m6 hf hx hy) (e2.up (show 510<=1000 by lia)) (Int.mul_pos (by decide) w0)
 rcases h with ⟨_,rfl,rfl⟩ | ⟨k1,k2,_,_,_,rfl,rfl⟩
 ·exact Gd (nn _ fun j _=>Fg G j) (nn _ fun j _=>Fg G j)
 ·exact Gd (nn _ fun j _=>E8 G k1 j) (nn _ fun j _=>E8 G k2 j)
theorem P9 {m:Nat} {ts:List (Nat × Int)} {x y:Int} {d1 d2 e1 e2:Dv} (h:StW m ts x y d1 d2) (h':StW m ts x y e1 e2):d1=e1/\d2=e2:=by
 rcases h with ⟨h0,rfl,rfl⟩ | ⟨k1,k2,m1,m2,hall,rfl,rfl⟩
 ·rcases h' with ⟨_,rfl,rfl⟩ | ⟨j1,j2,n1,n2,hall',rfl,rfl⟩
  ·exact ⟨rfl,rfl⟩
  ·rw [h0] at n1;cases n1
 ·rcases h' with ⟨h0,rfl,rfl⟩ | ⟨j1,j2,n1,n2,hall',rfl,rfl⟩
  ·rw [h0] at m1;cases m1
  ·obtain ⟨a1,b1,rfl⟩:=List.mem_map.mp m1
   obtain ⟨a2,b2,rfl⟩:=List.mem_map.mp m2
   obtain ⟨c1,e1,rfl⟩:=List.mem_map.mp n1
   obtain ⟨c2,e2,rfl⟩:=List.mem_map.mp n2
   have p1:=hall c1 e1
   have p2:=hall' a1 b1
   have p3:=hall c2 e2
   have p4:=hall' a2 b2
   have q1:manyF m a1=manyF m c1:=by lia
   have q2:manyF m a2=manyF m c2:=by lia
   rw [q1,q2]
   exact ⟨rfl,rfl⟩
theorem Qi {M:Int} {gr gr':Int} {d d':Nat} {ss:List Nat} {f:Nat->Int} (h1:∀ o∈ss,f o<=gr) (h2:∃ o∈ss,f o=gr) (h3:∀ o∈ss,f o<=gr') (h4:∃ o∈ss,f o=gr') (a1:∀ j:Nat,j < d->gr < (M - 2 * j) * (M - 2 * j)) (a2:(M - 2 * d) * (M - 2 * d)<=gr) (b1:∀ j:Nat,j < d'->gr' < (M - 2 * j) * (M - 2 * j)) (b2:(M - 2 * d') * (M - 2 * d')<=gr'):d=d':=by
 obtain ⟨o,ho,e⟩:=h2
 obtain ⟨o',ho',e'⟩:=h4
 have c1:=h1 o' ho'
 have c2:=h3 o ho
 have:gr=gr':=by lia
 subst this
 rcases Nat.lt_trichotomy d d' with z | z | z
 ·have:=b1 d z;lia
 ·exact z
 ·have:=a1 d' z;lia
theorem Mj {w c:Int} (hw : -64<=w/\w<=64) (hc:2<=c) : -64<=w / c/\w / c<=64/\w / c * (w / c)<=w * w:=by
 have h1:(w / c).natAbs<=w.natAbs:=by
  rcases Int.le_total 0 w with z | z
  ·have p1:=Int.ediv_nonneg z (show 0<=c by lia)
   have p2:=Int.ediv_le_self c z
   lia
  ·have p1:w / c<=0:=Int.ediv_nonpos_of_nonpos_of_neg z (by lia)
   have p2:w<=w / c:=Int.le_ediv_of_mul_le (by lia) (by
    have h0:=Int.mul_nonneg (show 0 <= -w by lia) (show 0<=c - 1 by lia)
    rw [Int.neg_mul,Int.mul_sub,Int.mul_one] at h0
    lia)
   lia
 refine ⟨by lia,by lia,?_⟩
 have h2:=Nat.mul_le_mul h1 h1
 have e1:=Int.natAbs_mul_self' (w / c)
 have e2:=Int.natAbs_mul_self' w
 have h3:(((w / c).natAbs * (w / c).natAbs:Nat):Int)<=((w.natAbs * w.natAbs:Nat):Int):=Int.ofNat_le.mpr h2
 rw [Int.natCast_mul,Int.natCast_mul] at h3
 lia
theorem Me {m:Nat} {ts:List (Nat × Int)} (G:Gl m ts) (hr:0<=A2 m ts) {i:Nat} {q:Nat × Int} (hq:ts[i]? = some q) {c:Int} (hc:2<=c):Gl m (ts.take i++(q.1,q.2 / c)::ts.drop (i+1))/\0<=A2 m (ts.take i++(q.1,q.2 / c)::ts.drop (i+1)):=by
 have hi:=(List.getElem?_eq_some_iff.mp hq).1
 have hgk:=G.ok q (List.mem_of_getElem? hq)
 obtain ⟨d1,d2,d3⟩:=Mj hgk.2 hc
 have ets:ts=ts.take i++q::ts.drop (i+1):=by
  have h1:ts.drop i=q::ts.drop (i+1):=by
   rw [List.drop_eq_getElem_cons hi]
   congr 1
   exact (List.getElem?_eq_some_iff.mp hq).2
  rw [<- h1,List.take_append_drop]
 refine ⟨⟨G.m6,?_,fun z hz=>?_⟩,?_⟩
 ·have:=G.len
  rw [List.length_append,List.length_cons,List.length_take,List.length_drop]
  lia
 ·rcases List.mem_append.mp hz with h | h
  ·exact G.ok z (List.mem_of_mem_take h)
  ·rcases List.mem_cons.mp h with rfl | h
   ·exact ⟨hgk.1,d1,d2⟩
   ·exact G.ok z (List.mem_of_mem_drop h)
 ·have e1:BR ts=BR (ts.take i++q::ts.drop (i+1)):=by rw [<- ets]
  unfold A2 at *
  have f1:∀ A B:List (Nat × Int),∀ q:Nat × Int,BR (A++q::B)=BR A+(q.2 * q.2+BR B):=fun A B q=>by
   unfold BR
   rw [CW,CW,CW,List.map_append,List.sum_append,List.map_cons,List.sum_cons]
  rw [f1] at e1
  rw [f1]
  show 0<=_ - (_+(q.2 / c * (q.2 / c)+_))
  lia
theorem Jd:∀ (l m:List Nat),l.Pairwise (· < ·)->m.Pairwise (· < ·)->(∀ k,k∈l ↔ k∈m)->l=m
 | [],[],_,_,_=>rfl
 | [],b::m,_,_,h=>absurd ((h b).mpr (by simp)) (by simp)
 | a::l,[],_,_,h=>absurd ((h a).mp (by simp)) (by simp)
 | a::l,b::m,h1,h2,h=>by
  obtain ⟨p1,p2⟩:=List.pairwise_cons.mp h1
  obtain ⟨q1,q2⟩:=List.pairwise_cons.mp h2
  have e:a=b:=by
   rcases List.mem_cons.mp ((h a).mp (by simp)) with x | x
   ·exact x
   ·rcases List.mem_cons.mp ((h b).mpr (by simp)) with y | y
    ·exact y.symm
    ·have:=q1 a x
     have:=p1 b y
     lia
  subst e
  rw [Jd l m p2 q2 fun k=>?_]
  constructor
  ·intro hk
   rcases List.mem_cons.mp ((h k).mp (List.mem_cons_of_mem _ hk)) with x | x
   ·have:=p1 k hk;lia
   ·exact x
  ·intro hk
   rcases List.mem_cons.mp ((h k).mpr (List.mem_cons_of_mem _ hk)) with x | x
   ·have:=q1 k hk;lia
   ·exact x
theorem LA {H:Hp}:∀ (n:Nat) {ds:List Dv} {us:List V},Reps K H ds us->Reps K H (ds.drop n) (us.drop n)
 | 0,_,_,h=>h
 | n+1,[],us,h=>by unfold Reps at h;subst h;exact At
 | n+1,d::ds,us,h=>by
  unfold Reps at h
  obtain ⟨x,l,rfl,_,h⟩:=h
  exact LA n h
theorem Iu {H:Hp}:∀ (n:Nat) {ds:List Dv} {us:List V},Reps K H ds us->Reps K H (ds.take n) (us.take n)
 | 0,_,_,_=>by rw [List.take_zero,List.take_zero];exact At
 | n+1,[],us,h=>by unfold Reps at h;subst h;exact At
 | n+1,d::ds,us,h=>by
  unfold Reps at h
  obtain ⟨x,l,rfl,r,h⟩:=h
  exact Ae r (Iu n h)
theorem RM {xs:List V} {i:Int} (h0:0<=i) (h1:i < xs.length):∃ z,atI xs i=some z/\z∈xs:=by
 obtain ⟨n,rfl⟩:=Int.eq_ofNat_of_zero_le h0
 have hn:n < xs.length:=by lia
 exact ⟨xs[n],Dh rfl (List.getElem?_eq_getElem hn),List.getElem_mem hn⟩
noncomputable def ShA (K:W.Frag) (H:Hp) (v:V):Prop:=∃ (pr:Addr) (x y:Int),v=.ref pr/\SqT K H pr [.int x,.int y]/\0 < y/\Nb x 66/\Nb y 66
noncomputable def IL (a:Addr) (H:Hp) (σ:St) (H':Hp):Prop:=∃ z1 z2 z3 z4 z5 z6 z7 z8 z9 z10 z11 z12 z13:Option V,σ=[some (.ref a),z1,z2,z3,z4,z5,z6,z7,z8,z9,z10,z11,z12,z13]/\Same H H'
theorem L9:FnOk P w K mg base CX0 6 T.f_law T.d_law ["_law_script"] (Fm K):=by
 have G_z33:=Pu (P:=P) (w:=w) (base:=base) T;have G_z32:=PC (P:=P) (w:=w) (base:=base) T;have G_z25:=N4 (P:=P) (w:=w) (base:=base) T;have G_z49:=PR (P:=P) (w:=w) (base:=base) T;have G_z34:=EY (P:=P) (w:=w) (base:=base) T;have G_z20:=Nr (P:=P) (w:=w) (base:=base) T;have G_z37:=Oi (P:=P) (w:=w) (base:=base) T;have G_z19:=Q4 (P:=P) (w:=w) (base:=base) T;have G_z22:=LY (P:=P) (w:=w) (base:=base) T;have G_z21:=Qj (P:=P) (w:=w) (base:=base) T;have G_z28:=Qh (P:=P) (w:=w) (base:=base) T;have G_z16:=Mq (P:=P) (w:=w) (base:=base) T;have G_z24:=Ob (P:=P) (w:=w) (base:=base) T;have G_z42:=KP (P:=P) (w:=w) (base:=base) T
 refine T.F_law.ok sc_law (fun vs H Q E h=>by obtain ⟨a,ns,rfl,_⟩:=h;rfl) (fun cdv A outer s H vs Q E hr h=>?_)
 have hu:=Ab hr
 have mo0:AK Dx:=On
 have mo1:AK (Dz K):=NR
 have mo2:AK EO:=MH
 have mo3:AK DD:=PP
 have mo4:AK (CF K):=RF
 have mo5:AK (CS K):=Nf
 have mo6:AK (CM K):=Lj
 have mo7:AK (D6 K):=OB
 have mo8:AK (Cr K):=Is
 have hr_z33:=hr.mono (show 1<=_ by decide);have hr_z32:=hr.mono (show 2<=_ by decide);have hr_z25:=hr.mono (show 2<=_ by decide);have hr_z49:=hr.mono (show 2<=_ by decide);have hr_z34:=hr.mono (show 1<=_ by decide);have hr_z20:=hr.mono (show 2<=_ by decide);have hr_z37:=hr.mono (show 4<=_ by decide);have hr_z19:=hr.mono (show 5<=_ by decide);have hr_z22:=hr.mono (show 2<=_ by decide);have hr_z21:=hr.mono (show 5<=_ by decide);have hr_z28:=hr.mono (show 2<=_ by decide);have hr_z16:=hr.mono (show 5<=_ by decide);have hr_z24:=hr.mono (show 3<=_ by decide);have hr_z42:=hr.mono (show 1<=_ by decide)
 obtain ⟨a,ns,rfl,hsq,hlen,q⟩:=h
 refine ⟨_,(@AE _ _ _ _ _ (@Bm _ _ _ _ _ _ _ _ PassesOwn.never rfl (A9 rfl T.z_range (AA AC AB)) (AN (i:=1) sc_law.nd rfl (by (first | exact Or.inl rfl | exact Or.inr rfl))) (@AE _ _ _ _ _ (@AI _ _ 2 _ _ _ _ sc_law.nd rfl (by (first | exact Or.inl rfl | exact Or.inr rfl)) (AF G_z33 hr_z33 rfl T.m_z33 T.F_z33.kp T.b_z33 .nil AG (AA (vv 0) (AA (vv 1) AB))) (by rfl) (by (first | exact .inl rfl | exact .inr rfl | assumption))) (@AE _ _ _ _ _ (@AI _ _ 3 _ _ _ _ sc_law.nd rfl (by (first | exact Or.inl rfl | exact Or.inr rfl)) (AF G_z32 hr_z32 rfl T.m_z32 T.F_z32.kp T.b_z32 .nil AG (AA (vv 2) (AA (AF G_z49 hr_z49 rfl T.m_z49 T.F_z49.kp T.b_z49 .nil AG (AA (vv 2) AB)) AB))) (by rfl) (by (first | exact .inl rfl | exact .inr rfl | assumption))) (@AE _ _ _ _ _ (@AI _ _ 4 _ _ _ _ sc_law.nd rfl (by (first | exact Or.inl rfl | exact Or.inr rfl)) (Aa (Bu (K:=K)) rfl T.z_len (by rfl) (AA (vv 3) AB)) (by rfl) (by (first | exact .inl rfl | exact .inr rfl | assumption))) (@AE _ _ _ _ _ (@AI _ _ 5 _ _ _ _ sc_law.nd rfl (by (first | exact Or.inl rfl | exact Or.inr rfl)) (AF G_z25 hr_z25 rfl T.m_z25 T.F_z25.kp T.b_z25 .nil AG (AA (vv 2) (AA (vv 3) AB))) (by rfl) (by (first | exact .inl rfl | exact .inr rfl | assumption))) (@AE _ _ _ _ _ (@Br _ _ _ _ _ _ _ ["_law_one"] 1 [] _ _ _ _ 6 _ _ _ rfl sc_law.nd rfl rfl (Ap (K:=K) (kIx (K:=K) (vv 5) AC)) (by kernel_rfl) rfl rfl (by kernel_rfl) (fun c=>AN (i:=0) (show (["_law_one"]:List Str).Nodup by decide +kernel) rfl (by (first | exact Or.inl rfl | exact Or.inr rfl))) (AW (by decide)) (fun c=>Az) (fun c=>(kIx (K:=K) (vv 0) AC)) (by rfl) (by intro _;rfl)) (@AE _ _ _ _ _ (@AI _ _ 6 _ _ _ _ sc_law.nd rfl (by (first | exact Or.inl rfl | exact Or.inr rfl)) (AD (Ej (K:=K)) (N6 (K:=K) (vv 6) (Ex Ez AC)) (MW (K:=K) (vv 6) Gb (Hq (AF G_z34 hr_z34 rfl T.m_z34 T.F_z34.kp T.b_z34 .nil AG (AA (vv 2) (AA AC AB)))))) (by rfl) (by (first | exact .inl rfl | exact .inr rfl | assumption))) (@AE _ _ _ _ _ (@AI _ _ 7 _ _ _ _ sc_law.nd rfl (by (first | exact Or.inl rfl | exact Or.inr rfl)) (CD (N5 (K:=K)) rfl T.z_list (by rfl) (AA (vv 6) AB)) (by rfl) (by (first | exact .inl rfl | exact .inr rfl | assumption))) (@AE _ _ _ _ _ (@Ay _ _ _ _ _ _ _ _ (PW.pt (LH (AV (kNe (K:=K) hu) (Aa (CU (K:=K) hr) rfl T.z_repr (by rfl) (AA (AF G_z37 hr_z37 rfl T.m_z37 T.F_z37.kp T.b_z37 .nil AG (AA (AF G_z42 hr_z42 rfl T.m_z42 T.F_z42.kp T.b_z42 .nil AG (AA (vv 3) AB)) (AA (vv 6) AB))) AB)) (Aa (CU (K:=K) hr) rfl T.z_repr (by rfl) (AA (vv 5) AB))) (Ir (AV (kNe (K:=K) hu) (vv 6) (vv 7))))) (@AL _ _ _ (@AO _ _ _ _ C0)) Ax) (@AE _ _ _ _ _ (@Ay _ _ _ _ _ _ _ _ (PW.pt (Kc (AV Ct (Aa (Bu (K:=K)) rfl T.z_len (by rfl) (AA (vv 6) AB)) AC) (KF (AV (kEq (K:=K) hu) (AF G_z34 hr_z34 rfl T.m_z34 T.F_z34.kp T.b_z34 .nil AG (AA (vv 2) (AA AC AB))) AC)))) (@AE _ _ _ _ _ (@AI _ _ 8 _ _ _ _ sc_law.nd rfl (by (first | exact Or.inl rfl | exact Or.inr rfl)) (AF G_z34 hr_z34 rfl T.m_z34 T.F_z34.kp T.b_z34 .nil AG (AA (vv 2) (AA (Aa (Bu (K:=K)) rfl T.z_len (by rfl) (AA (kIx (K:=K) (vv 5) AC) AB)) AB))) (by rfl) (by (first | exact .inl rfl | exact .inr rfl | assumption))) (@AE _ _ _ _ _ (@AI _ _ 9 _ _ _ _ sc_law.nd rfl (by (first | exact Or.inl rfl | exact Or.inr rfl)) (kIx (K:=K) (kIx (K:=K) (vv 5) AC) (vv 8)) (by rfl) (by (first | exact .inl rfl | exact .inr rfl | assumption))) (@AE _ _ _ _ _ (@AI _ _ 10 _ _ _ _ sc_law.nd rfl (by (first | exact Or.inl rfl | exact Or.inr rfl)) (BD (AA (kIx (K:=K) (vv 9) AC) (AA (AD CB (kIx (K:=K) (vv 9) AC) (AD (Ej (K:=K)) AC (AF G_z34 hr_z34 rfl T.m_z34 T.F_z34.kp T.b_z34 .nil AG (AA (vv 2) (AA AC AB))))) AB))) (by rfl) (by (first | exact .inl rfl | exact .inr rfl | assumption))) (@AL _ _ _ (@AI _ _ 5 _ _ _ _ sc_law.nd rfl (by (first | exact Or.inl rfl | exact Or.inr rfl)) (BD (AA (kIx (K:=K) (vv 5) AC) (AA (AD (Ej (K:=K)) (AD (Ej (K:=K)) (Iq (K:=K) (kIx (K:=K) (vv 5) AC) Gb (Hq (vv 8))) (BD (AA (vv 10) AB))) (Iq (K:=K) (kIx (K:=K) (vv 5) AC) (Hq (AD (Ej (K:=K)) (vv 8) AC)) Gb)) AB))) (by rfl) (by (first | exact .inl rfl | exact .inr rfl | assumption))))))) Ax) (@AE _ _ _ _ _ (@Bm _ _ _ _ _ _ _ _ PassesOwn.never rfl (Ap (K:=K) (@Bq _ _ _ _ (AA (AF G_z34 hr_z34 rfl T.m_z34 T.F_z34.kp T.b_z34 .nil AG (AA (vv 2) (AA (vv 4) AB))) (AA (AF G_z34 hr_z34 rfl T.m_z34 T.F_z34.kp T.b_z34 .nil AG (AA (vv 2) (AA (vv 4) AB))) (AA AC AB))))) (AN (i:=11) sc_law.nd rfl (by (first | exact Or.inl rfl | exact Or.inr rfl))) (@AL _ _ _ (@Ay _ _ _ _ _ _ _ _ (AV (kNe (K:=K) hu) (Aa (CU (K:=K) hr) rfl T.z_repr (by rfl) (AA (AF G_z19 hr_z19 rfl T.m_z19 T.F_z19.kp T.b_z19 .nil AG (AA (vv 5) (AA (vv 11) AB))) AB)) (Aa (CU (K:=K) hr) rfl T.z_repr (by rfl) (AA (AF G_z22 hr_z22 rfl T.m_z22 T.F_z22.kp T.b_z22 .nil AG (AA (vv 5) (AA (vv 11) AB))) AB))) (@AL _ _ _ (@AO _ _ _ _ C0)) Ax)) (by intro _;rfl)) (@AE _ _ _ _ _ (@Bm _ _ _ _ _ _ _ _ PassesOwn.never rfl (Ap (K:=K) (@Bq _ _ _ _ (AA (AF G_z20 hr_z20 rfl T.m_z20 T.F_z20.kp T.b_z20 .nil AG (AA (vv 2) (AA AC AB))) (AA (kIx (K:=K) (@Bq _ _ _ _ (AA (BD (AA AC (AA AC AB))) (AA (BD (AA AC (AA AC AB))) AB))) (AF G_z34 hr_z34 rfl T.m_z34 T.F_z34.kp T.b_z34 .nil AG (AA (vv 2) (AA AC AB)))) AB)))) (AN (i:=12) sc_law.nd rfl (by (first | exact Or.inl rfl | exact Or.inr rfl))) (@AL _ _ _ (@Ay _ _ _ _ _ _ _ _ (AV (kNe (K:=K) hu) (Aa (CU (K:=K) hr) rfl T.z_repr (by rfl) (AA (AF G_z21 hr_z21 rfl T.m_z21 T.F_z21.kp T.b_z21 .nil AG (AA (vv 5) (AA (vv 12) AB))) AB)) (Aa (CU (K:=K) hr) rfl T.z_repr (by rfl) (AA (AF G_z28 hr_z28 rfl T.m_z28 T.F_z28.kp T.b_z28 .nil AG (AA (vv 5) (AA (vv 12) AB))) AB))) (@AL _ _ _ (@AO _ _ _ _ C0)) Ax)) (by intro _;rfl)) (@AL _ _ _ (@Bm _ _ _ _ _ _ _ _ PassesOwn.never rfl (Ap (K:=K) (@Bq _ _ _ _ (AA (AF G_z34 hr_z34 rfl T.m_z34 T.F_z34.kp T.b_z34 .nil AG (AA (vv 2) (AA AC AB))) (AA (AF G_z34 hr_z34 rfl T.m_z34 T.F_z34.kp T.b_z34 .nil AG (AA (vv 2) (AA AC AB))) AB)))) (AN (i:=13) sc_law.nd rfl (by (first | exact Or.inl rfl | exact Or.inr rfl))) (@AL _ _ _ (@Ay _ _ _ _ _ _ _ _ (AV (kNe (K:=K) hu) (Aa (CU (K:=K) hr) rfl T.z_repr (by rfl) (AA (AF G_z16 hr_z16 rfl T.m_z16 T.F_z16.kp T.b_z16 .nil AG (AA (vv 5) (AA (vv 13) AB))) AB)) (Aa (CU (K:=K) hr) rfl T.z_repr (by rfl) (AA (AF G_z24 hr_z24 rfl T.m_z24 T.F_z24.kp T.b_z24 .nil AG (AA (vv 5) (AA (vv 13) AB))) AB))) (@AL _ _ _ (@AO _ _ _ _ C0)) Ax)) (by intro _;rfl)))))))))))))) (by intro _;rfl)) (@AL _ _ _ (@AO _ _ _ _ C0))),?_⟩
 refine ⟨3,rfl,by decide,by decide,?_⟩
 refine EA (fun i=>IL a H) ⟨none,none,none,none,none,none,none,none,none,none,none,none,none,rfl,Same.refl _⟩ ?_ (fun σ H' _=>q H')
 rintro i σ H0 hi ⟨z1,z2,z3,z4,z5,z6,z7,z8,z9,z10,z11,z12,z13,rfl,S0⟩
 dsimp only [AQ]
 refine ⟨ns,S0.sqL hsq,fun t H1 ht F1 f1=>?_⟩
 have S1:Same H0 H1:=Kp (Same.refl _) ht f1
 dsimp only [AQ]
 refine ⟨F1,fun m H2 m1 m6 F2 f2=>⟨m,F2,rfl,m1,m6,fun bs tb H3 hb n3 g3 F3 fr3=>?_⟩⟩
 have S2:Same H0 H2:=Kp S1 ht f2
 have S3:Same H0 H3:=Cv S2 ht fr3
 have nt:tb≠t:=F2.neT n3
 have h64:2 ^ m<=64:=Nat.pow_le_pow_right (n:=2) (by decide) m6
 have i1:((2 ^ m:Nat):Int)<=64:=Int.ofNat_le.mpr h64
 have h2:2<=2 ^ m:=Nat.pow_le_pow_right (n:=2) (i:=1) (by decide) m1
 have hMd:okDiv ((2 ^ m:Nat):Int):=Al (by lia) (Int.le_trans i1 (by decide))
 dsimp only [AQ]
 refine ⟨2 ^ m,.inr ⟨_,.of g3,by rw [List.length_map,hb]⟩,?_⟩
 dsimp only [AQ]
 refine ⟨m,bs,F3,m1,m6,hb,g3,fun gv ks H4 F4 fr4 SV kl knd klt=>?_⟩
 dsimp only [AQ]
 have g4:=fr4 _ _ nt g3
 have S4:=Cv S3 ht fr4
 have hG:Gl m (ks.map fun k=>(k,wt m (AM bs) k)):=⟨⟨m1,m6⟩,by rw [List.length_map];exact kl,fun x hx=>by
  obtain ⟨k,hk,rfl⟩:=List.mem_map.mp hx
  exact ⟨klt k hk,Js m6 bs k⟩⟩
 have hid:ks.map ((fun x:Nat × Int=>x.1) ∘ fun k=>(k,wt m (AM bs) k))=ks:=List.map_id' ks
 have hHas:Has m (ks.map fun k=>(k,wt m (AM bs) k)) (wt m (AM bs)):=⟨by
  rw [List.map_map,hid]
  exact knd.imp fun h=>Nat.ne_of_lt h,fun x hx=>(hG.ok x hx).1,fun x hx=>by
  obtain ⟨k,hk,rfl⟩:=List.mem_map.mp hx
  rfl⟩
 have hrest:=hHas.rest0
 obtain ⟨ga,gb,gus,rfl,hga,hgb,hgR⟩:=id SV.at_
 have hul:gus.length=ks.length:=by have:=hgR.length;rw [List.length_map,List.length_map] at this;lia
 clear S1 S2 S3 fr3 f1 f2 F1 F2 F3 n3 g3 fr4
 refine AT (fun σ H'=>∃ l:Addr,σ=[some (.ref a),some (.int (0+(i:Int))),some (.ref t),some (.ref tb),some (.int ((2 ^ m:Nat):Int)),some (.ref ga),some (.ref l),z7,z8,z9,z10,z11,z12,z13]/\Same H4 H'/\l≠t/\H' l=some (.lst (iL ks))) ?_ ?_ (by (repeat' with_reducible first | exact Q5 | apply RK | apply QB | apply Mz | apply RP | apply Lo | apply MG | apply QK | exact Qg | exact MY | apply Mh | apply Of | apply Pk | apply Pf | apply Ny | apply OC | apply OY | apply M3 | apply Qz | exact Qc | exact Ph | exact QE | exact P4 | exact L7 | exact MJ | exact Lh | exact MC | exact L3 | exact Lw | apply Nl | apply Oc | apply OX | exact Qb | apply P2 | exact PZ | exact Qr | exact O3 | exact Q9 | exact Lz | apply Oy | apply Qo | apply Pp | exact As | apply CL | exact BI | exact Py | exact QF | apply Lq | apply Nm | exact NC | apply Lu | exact Qp | apply LQ | apply OD | exact NG | apply OR | exact QD | exact OI | exact Pw | exact Nk | apply PV | exact Nx | apply OS | assumption))
 ·refine ⟨_,.ref gb,.inr hga,rfl,.inr ⟨⟨_,hgb⟩,?_⟩⟩
  refine Bv (xs:=gus) (fun i ys H'=>H'=H4/\ys=iL (ks.take i)) ⟨rfl,rfl⟩ (fun i ys H' _ ⟨e,_⟩=>by rw [e];exact hgb) (fun i ys H' hi ⟨_,e⟩=>by
   rw [e,Ak,List.length_take];exact Ag (by lia)) ?_ ?_
  ·rintro i x ys H' hx ⟨rfl,rfl⟩
   obtain ⟨⟨k,wgt⟩,c,hq,rfl,hc⟩:=BU hgR hx
   have hk:ks[i]? = some k:=by
    rw [List.getElem?_map] at hq
    cases e:ks[i]? with
    | none=>rw [e] at hq;cases hq
    | some k'=>rw [e] at hq;cases hq;rfl
   refine ⟨_,.int k,.inr hc,rfl,rfl,?_⟩
   rw [List.take_add_one,hk,CP]
   rfl
  ·rintro ys H' ⟨rfl,rfl⟩ lp hlp
   rw [List.take_of_length_le (by lia)]
   exact ⟨lp,rfl,Same.upd hlp,F4.neT hlp,AH⟩
 refine DP fun _ hR=>?_
 rintro σ H5 ⟨l,rfl,s5,nlt,g5⟩
 refine hR _ _ ?_
 refine AT (fun σ H'=>∃ (l:Addr) (ls:List Nat),σ=[some (.ref a),some (.int (0+(i:Int))),some (.ref t),some (.ref tb),some (.int ((2 ^ m:Nat):Int)),some (.ref ga),some (.ref l),z7,z8,z9,z10,z11,z12,z13]/\Feed H' t/\Frm t H4 H'/\l≠t/\H' l=some (.lst (iL ls))/\ls.length<=200/\∀ k,k∈ls ↔ k∈ks) ?_ ?_ (by (repeat' with_reducible first | exact Q5 | apply RK | apply QB | apply Mz | apply RP | apply Lo | apply MG | apply QK | exact Qg | exact MY | apply Mh | apply Of | apply Pk | apply Pf | apply Ny | apply OC | apply OY | apply M3 | apply Qz | exact Qc | exact Ph | exact QE | exact P4 | exact L7 | exact MJ | exact Lh | exact MC | exact L3 | exact Lw | apply Nl | apply Oc | apply OX | exact Qb | apply P2 | exact PZ | exact Qr | exact O3 | exact Q9 | exact Lz | apply Oy | apply Qo | apply Pp | exact As | apply CL | exact BI | exact Py | exact QF | apply Lq | apply Nm | exact NC | apply Lu | exact Qp | apply LQ | apply OD | exact NG | apply OR | exact QD | exact OI | exact Pw | exact Nk | apply PV | exact Nx | apply OS | assumption))
 ·refine ⟨rfl,_,.of g5,fun l2 nl2=>?_⟩
  have F5:=F4.same s5
  have t2:=Same.upd (o:=.lst (iL ks).reverse) nl2
  have n2t:=F5.neT nl2
  refine ⟨F5.same t2,Al (by decide) (by decide),fun d H6 d0 d1 F6 f6=>?_⟩
  have g6:H6 l=some (.lst (iL ks)):=by rw [f6 l nlt];exact t2 _ _ g5
  have g62:H6 l2=some (.lst (iL ks).reverse):=by rw [f6 l2 n2t];exact AH
  refine ⟨d,rfl,iL ks,.inl ⟨.of g6,fun p np=>.inl ⟨l2,p,_,_,rfl,rfl,Same.upd np _ _ g62,AH,?_,fun r nr=>?_⟩⟩⟩
  ·have:=Eo (iL ks) none (some d)
   rw [Ak] at this
   rw [List.length_reverse,Ak]
   exact Ac (by lia)
  have ec:∃ n,BB (iL ks) none (some d)=iL (ks.take n):=⟨HT.sIx (iL ks).length (iL ks).length (some d) - 0,by
   unfold BB
   rw [HT.sIx_none,List.drop_zero]
   unfold iL
   rw [List.map_take]⟩
  obtain ⟨n,ec⟩:=ec
  have t6:=(Same.upd (o:=.lst (BB (iL ks) none (some d))) np).trans (Same.upd (o:=.lst ((iL ks).reverse++BB (iL ks) none (some d))) nr)
  refine ⟨r,ks.reverse++ks.take n,rfl,F6.same t6,(s5.trans t2).frm.trans ((Aq f6).trans t6.frm),?_,?_,?_,fun k=>?_⟩
  ·exact (F6.upd np).neT nr
  ·rw [AH,ec,CP]
   unfold iL
   rw [List.map_reverse]
  ·rw [List.length_append,List.length_reverse,List.length_take]
   lia
  ·rw [List.mem_append,List.mem_reverse]
   exact ⟨fun h=>h.elim id fun h=>List.mem_of_mem_take h,.inl⟩
 clear g5 nlt s5
 refine DP fun _ hR=>?_
 rintro σ H5 ⟨l,ls,rfl,F5,fr5,nlt,g5,hll,hlm⟩
 refine hR _ _ ?_
 have g5t:=fr5 _ _ nt g4
 have SV5:=SV.frm F4 fr5
 have S5:=Cv S4 ht fr5
 refine ⟨_,.inl (.of g5),fun kp nkp=>?_⟩
 have t5:=Same.upd (o:=.lst (iL ls)) nkp
 dsimp only [AQ]
 have nkt:=F5.neT nkp
 refine AT (fun σ H'=>σ=[some (.ref a),some (.int (0+(i:Int))),some (.ref t),some (.ref tb),some (.int ((2 ^ m:Nat):Int)),some (.ref ga),some (.ref l),some (.ref kp),z8,z9,z10,z11,z12,z13]/\Same H5 H') ?_ ?_ (by (repeat' with_reducible first | exact Q5 | apply RK | apply QB | apply Mz | apply RP | apply Lo | apply MG | apply QK | exact Qg | exact MY | apply Mh | apply Of | apply Pk | apply Pf | apply Ny | apply OC | apply OY | apply M3 | apply Qz | exact Qc | exact Ph | exact QE | exact P4 | exact L7 | exact MJ | exact Lh | exact MC | exact L3 | exact Lw | apply Nl | apply Oc | apply OX | exact Qb | apply P2 | exact PZ | exact Qr | exact O3 | exact Q9 | exact Lz | apply Oy | apply Qo | apply Pp | exact As | apply CL | exact BI | exact Py | exact QF | apply Lq | apply Nm | exact NC | apply Lu | exact Qp | apply LQ | apply OD | exact NG | apply OR | exact QD | exact OI | exact Pw | exact Nk | apply PV | exact Nx | apply OS | assumption))
 ·refine ⟨m,bs,m1,m6,hb,.of (t5 _ _ g5t),fun v6 H6 s6 SV6=>?_⟩
  refine ⟨m,_,ls,SV6,m6,.of (s6 _ _ (t5 _ _ g5)),by lia,fun k hk=>klt k ((hlm k).mp hk),fun v7 ks7 H7 s7 hr7 hm7 r7=>?_⟩
  have ek:ks7=ks:=Jd _ _ hr7 knd fun k=>(hm7 k).trans (hlm k)
  rw [ek] at r7
  obtain ⟨n1,n2,n3⟩:=hG.nice
  have r8:=(SV5.same (t5.trans (s6.trans s7))).rep
  generalize BY m (ks.map fun k=>(k,wt m (AM bs) k))=D at r7 r8 n1 n2 n3
  refine ⟨D,r7,n1,n2,n3,D,r8,n1,n2,n3,?_⟩
  refine ite2 (fun e=>(Fl e).elim) (fun _=>?_)
  have t7:=t5.trans (s6.trans s7)
  refine ⟨.lst (iD ls),.lst (iD ls),by unfold Rep;exact ⟨l,_,rfl,.of (t7 _ _ g5),Fz ls⟩,by unfold Rep;exact ⟨kp,_,rfl,.of ((s6.trans s7) _ _ AH),Fz ls⟩,?_,?_⟩
  ·have e0:=Hj (ls.map fun (r:Nat)=>(r:Int))
   rw [List.map_map] at e0
   show A6 (iD ls)+1<=60
   have e1:A6 (iD ls)=0:=e0
   lia
  ·rw [Fa]
   exact ⟨rfl,t7⟩
 refine DP fun _ hR=>?_
 rintro σ H6 ⟨rfl,s6⟩
 refine hR _ _ ?_
 have F6:=F5.same s6
 have SV6:=SV5.same s6
 have g6:=s6 _ _ g5
 refine AT (fun σ H'=>∃ (gv:V) (ts:List (Nat × Int)) (z8 z9 z10:Option V),σ=[some (.ref a),some (.int (0+(i:Int))),some (.ref t),some (.ref tb),some (.int ((2 ^ m:Nat):Int)),some gv,some (.ref l),some (.ref kp),z8,z9,z10,z11,z12,z13]/\Feed H' t/\Frm t H6 H'/\SumAt K H' gv m ts/\Gl m ts/\0<=A2 m ts) ?_ ?_ (by (repeat' with_reducible first | exact Q5 | apply RK | apply QB | apply Mz | apply RP | apply Lo | apply MG | apply QK | exact Qg | exact MY | apply Mh | apply Of | apply Pk | apply Pf | apply Ny | apply OC | apply OY | apply M3 | apply Qz | exact Qc | exact Ph | exact QE | exact P4 | exact L7 | exact MJ | exact Lh | exact MC | exact L3 | exact Lw | apply Nl | apply Oc | apply OX | exact Qb | apply P2 | exact PZ | exact Qr | exact O3 | exact Q9 | exact Lz | apply Oy | apply Qo | apply Pp | exact As | apply CL | exact BI | exact Py | exact QF | apply Lq | apply Nm | exact NC | apply Lu | exact Qp | apply LQ | apply OD | exact NG | apply OR | exact QD | exact OI | exact Pw | exact Nk | apply PV | exact Nx | apply OS | assumption))
 ·refine ⟨ls.length,.inl ⟨_,.of g6,by rw [Ak]⟩,?_⟩
  refine ite2 (fun e=>?_) (fun e=>⟨_,_,z8,z9,z10,rfl,F6,Frm.refl,SV6,hG,hrest⟩)
  refine ⟨F6,Al (by decide) (by decide),fun d H7 d0 d1 F7 f7=>?_⟩
  have SV7:=SV6.frm F6 (Aq f7)
  refine ite2 (fun _=>?_) (fun _=>⟨_,_,z8,z9,z10,rfl,F7,Aq f7,SV7,hG,hrest⟩)
  have hlp:0 < ls.length:=by have:(0:Int) < (ls.length:Int):=of_decide_eq_true e;lia
  have hkp:0 < ks.length:=by
   obtain ⟨k,hk⟩:=List.exists_mem_of_length_pos hlp
   exact List.length_pos_of_mem ((hlm k).mp hk)
  have htl:((ks.map fun k=>(k,wt m (AM bs) k)).length)=ks.length:=List.length_map _
  generalize (ks.map fun k=>(k,wt m (AM bs) k))=ts at *
  obtain ⟨ga',gb,gus,eg,hga,hgb,hgR⟩:=id SV7.at_
  cases eg
  have hul:gus.length=ts.length:=by have:=hgR.length;rw [List.length_map] at this;lia
  refine ⟨_,.ref gb,.inr hga,rfl,gus.length,.inr ⟨_,hgb,rfl⟩,F7,Al (by lia) (Int.le_trans (Int.ofNat_le.mpr (show gus.length<=64 by lia)) (by decide)),fun at_ H8 a0 a1 F8 f8=>?_⟩
  obtain ⟨at_,rfl⟩:=Int.eq_ofNat_of_zero_le a0
  have SV8:=SV7.frm F7 (Aq f8)
  clear hga hgb hgR
  obtain ⟨ga',gb',gus',eg,hga,hgb,hgR⟩:=id SV8.at_
  cases eg
  have hat:at_ < gus'.length:=by have:=hgR.length;rw [List.length_map] at this;lia
  obtain ⟨⟨k,wgt⟩,c,hq,hc1,hc⟩:=BU hgR (List.getElem?_eq_getElem hat)
  dsimp only [AQ]
  refine ⟨_,.ref gb',.inr hga,rfl,_,.ref c,.inr hgb,Dh rfl (by rw [List.getElem?_eq_getElem hat,hc1]),?_⟩
  dsimp only [AQ]
  refine ⟨_,.int k,.inr hc,rfl,_,.int wgt,.inr hc,rfl,F8,Al (by decide) (by decide),fun d3 H9 d30 d31 F9 f9=>⟨Al (by lia) (Int.le_trans (show 2+d3<=10 by lia) (by decide)),Ac (show 2<=1000 by decide),fun pl npl=>?_⟩⟩
  have t9:=Same.upd (o:=.tup [.int k,.int (wgt / (2+d3))]) npl
  have SV9:=(SV8.frm F8 (Aq f9)).same t9
  have F9':=F9.same t9
  have g9:=AH (H:=H9) (a:=pl) (o:=.tup [.int k,.int (wgt / (2+d3))])
  have fr9:Frm t H6 (upd H9 pl (.tup [.int k,.int (wgt / (2+d3))])):=(Aq f7).trans ((Aq f8).trans ((Aq f9).trans t9.frm))
  generalize upd H9 pl (.tup [.int k,.int (wgt / (2+d3))])=Hb at *
  clear hga hgb hgR hc hc1
  obtain ⟨ga',gb,gus,eg,hga,hgb,hgR⟩:=id SV9.at_
  cases eg
  have hul:gus.length=ts.length:=by have:=hgR.length;rw [List.length_map] at this;lia
  dsimp only [AQ]
  have hat:at_ < gus.length:=by
   have:=(List.getElem?_eq_some_iff.mp hq).1
   lia
  refine ⟨_,.int m,.inr hga,rfl,_,.ref gb,.inr hga,rfl,at_,rfl,gus,hgb,fun p1 H10 s10 h10=>⟨Ac (show 1<=1000 by decide),fun p2 np2=>?_⟩⟩
  have t10:=s10.trans (Same.upd (o:=.tup [.ref pl]) np2)
  have l1:=Eo gus none (some (at_:Int))
  have l2:=Eo gus (some ((at_:Int)+1)) none
  refine .inr ⟨_,_,(Same.upd np2).sqT h10,.of AH,Ac (by rw [List.length_singleton];lia),fun p3 H11 s11 h11=>?_⟩
  have t11:=t10.trans s11
  refine ⟨_,.ref gb,.inr (t11.sqT hga),rfl,(at_:Int)+1,rfl,gus,t11.sqT hgb,fun p4 H12 s12 h12=>.inr ⟨_,_,s12.sqT h11,h12,Ac (by rw [List.length_append,List.length_singleton];lia),fun p5 H13 s13 h13=>⟨Ac (show 2<=1000 by decide),fun p6 np6=>?_⟩⟩⟩
  have t13:=t11.trans (s12.trans s13)
  have t14:=t13.trans (Same.upd (o:=.tup [.int m,.ref p5]) np6)
  obtain ⟨lo1,lo2⟩:=Me hG hrest hq (c:=2+d3) (by lia)
  have e1:BB gus none (some (at_:Int))=gus.take at_:=by
   unfold BB
   rw [HT.sIx_none,HT.sIx_nat,List.drop_zero,Nat.sub_zero,Nat.min_eq_left (Nat.le_of_lt hat)]
  have e2:BB gus (some ((at_:Int)+1)) none=gus.drop (at_+1):=by
   unfold BB
   have:=HT.sIx_nat gus.length 0 (at_+1)
   rw [Int.natCast_add] at this
   rw [HT.sIx_none,show ((at_:Int)+1)=(at_:Int)+((1:Nat):Int) from rfl,this,Nat.min_eq_left hat,List.take_of_length_le (by rw [List.length_drop];exact Nat.le_refl _)]
  refine ⟨_,ts.take at_++(k,wgt / (2+d3))::ts.drop (at_+1),_,_,_,rfl,F9'.same t14,fr9.trans t14.frm,⟨p6,p5,_,rfl,.of AH,(Same.upd np6).sqT h13,?_⟩,lo1,lo2⟩
  rw [e1,e2,List.map_append,List.map_cons,List.append_assoc]
  have r14:=Reps.same t14 _ _ hgR
  rw [List.map_take,List.map_drop]
  exact (Iu at_ r14).append (Ae (BJ (t14 _ _ g9) (Ae BK (Ae BK At))) (LA (at_+1) r14))
 clear SV6 SV5 SV g6 g5 F6 F5 F4 g5t hG hrest hHas hid hlm
 refine DP fun _ hR=>?_
 rintro σ H7 ⟨gv,ts,z8,z9,z10,rfl,F7,fr7,SV7,G,hr0⟩
 refine hR _ _ ?_
 have S7:=Cv (S5.trans s6) ht fr7
 refine AT (fun σ H'=>∃ z11:Option V,σ=[some (.ref a),some (.int (0+(i:Int))),some (.ref t),some (.ref tb),some (.int ((2 ^ m:Nat):Int)),some gv,some (.ref l),some (.ref kp),z8,z9,z10,z11,z12,z13]/\Feed H' t/\Frm t H7 H') ?_ ?_ (by (repeat' with_reducible first | exact Q5 | apply RK | apply QB | apply Mz | apply RP | apply Lo | apply MG | apply QK | exact Qg | exact MY | apply Mh | apply Of | apply Pk | apply Pf | apply Ny | apply OC | apply OY | apply M3 | apply Qz | exact Qc | exact Ph | exact QE | exact P4 | exact L7 | exact MJ | exact Lh | exact MC | exact L3 | exact Lw | apply Nl | apply Oc | apply OX | exact Qb | apply P2 | exact PZ | exact Qr | exact O3 | exact Q9 | exact Lz | apply Oy | apply Qo | apply Pp | exact As | apply CL | exact BI | exact Py | exact QF | apply Lq | apply Nm | exact NC | apply Lu | exact Qp | apply LQ | apply OD | exact NG | apply OR | exact QD | exact OI | exact Pw | exact Nk | apply PV | exact Nx | apply OS | assumption))
 ·refine ⟨F7,hMd,fun x1 H8 a0 a1 F8 f8=>⟨F8,hMd,fun x2 H9 b0 b1 F9 f9=>⟨Ac (show 3<=1000 by decide),fun l3 nl3=>?_⟩⟩⟩
  obtain ⟨x1,rfl⟩:=Int.eq_ofNat_of_zero_le a0
  obtain ⟨x2,rfl⟩:=Int.eq_ofNat_of_zero_le b0
  have t9:=Same.upd (o:=.lst [.int (x1:Int),.int (x2:Int),.int 0]) nl3
  have g9:=AH (H:=H9) (a:=l3) (o:=.lst [.int (x1:Int),.int (x2:Int),.int 0])
  have fr9:Frm t H7 (upd H9 l3 (.lst [.int (x1:Int),.int (x2:Int),.int 0])):=(Aq f8).trans ((Aq f9).trans t9.frm)
  have F9':=F9.same t9
  have SV9:=SV7.frm F7 fr9
  generalize upd H9 l3 (.lst [.int (x1:Int),.int (x2:Int),.int 0])=Hb at *
  refine .inl ⟨⟨_,.of g9⟩,?_⟩
  refine FE (xs:=[.int (x1:Int),.int (x2:Int),.int 0]) (fun j σ H'=>∃ z11:Option V,σ=[some (.ref a),some (.int (0+(i:Int))),some (.ref t),some (.ref tb),some (.int ((2 ^ m:Nat):Int)),some gv,some (.ref l),some (.ref kp),z8,z9,z10,z11,z12,z13]/\Same Hb H') ⟨_,rfl,Same.refl _⟩ (fun j σ H' _ ⟨_,_,s'⟩=>.of (s' _ _ g9)) ?_ (fun σ H' ⟨z,e,s'⟩=>⟨z,e,F9'.same s',fr9.trans s'.frm⟩)
  rintro j x σ H' hx ⟨z11,rfl,s'⟩
  obtain ⟨so,rfl⟩:∃ so:Nat,x=.int so:=by
   have:=List.mem_of_getElem? hx
   simp only [List.mem_cons,List.mem_nil_iff,or_false] at this
   rcases this with rfl | rfl | rfl
   ·exact ⟨x1,rfl⟩
   ·exact ⟨x2,rfl⟩
   ·exact ⟨0,rfl⟩
  dsimp only [AQ]
  obtain ⟨n1,n2,n3⟩:=PJ G so
  refine ⟨m,so,ts,SV9.same s',G,rfl,fun v1 H10 s10 r10=>⟨_,r10,n1,n2,n3,m,so,ts,(SV9.same s').same s10,G,rfl,fun v2 H11 s11 r11=>⟨_,r11,n1,n2,n3,?_⟩⟩⟩
  generalize EX m ts so=D at *
  exact ite2 (fun e=>(Fl e).elim) (fun _=>⟨_,rfl,s'.trans (s10.trans s11)⟩)
 clear z11
 refine DP fun _ hR=>?_
 rintro σ H8 ⟨z11,rfl,F8,fr8⟩
 refine hR _ _ ?_
 have SV8:=SV7.frm F7 fr8
 refine AT (fun σ H'=>∃ z12:Option V,σ=[some (.ref a),some (.int (0+(i:Int))),some (.ref t),some (.ref tb),some (.int ((2 ^ m:Nat):Int)),some gv,some (.ref l),some (.ref kp),z8,z9,z10,z11,z12,z13]/\Feed H' t/\Frm t H8 H') ?_ ?_ (by (repeat' with_reducible first | exact Q5 | apply RK | apply QB | apply Mz | apply RP | apply Lo | apply MG | apply QK | exact Qg | exact MY | apply Mh | apply Of | apply Pk | apply Pf | apply Ny | apply OC | apply OY | apply M3 | apply Qz | exact Qc | exact Ph | exact QE | exact P4 | exact L7 | exact MJ | exact Lh | exact MC | exact L3 | exact Lw | apply Nl | apply Oc | apply OX | exact Qb | apply P2 | exact PZ | exact Qr | exact O3 | exact Q9 | exact Lz | apply Oy | apply Qo | apply Pp | exact As | apply CL | exact BI | exact Py | exact QF | apply Lq | apply Nm | exact NC | apply Lu | exact Qp | apply LQ | apply OD | exact NG | apply OR | exact QD | exact OI | exact Pw | exact Nk | apply PV | exact Nx | apply OS | assumption))
 ·refine ⟨F8,.inr rfl,fun x y ps H9 x0 x2 y0 nx ny nps g9 F9 fr9=>?_⟩
  have nps:=F8.neT nps
  refine ⟨Ac (show 2<=1000 by decide),fun c1 nc1=>⟨Ac (show 2<=1000 by decide),fun c2 nc2=>⟨Ac (show 2<=1000 by decide),fun lc nlc=>?_⟩⟩⟩
  have u1:=Same.upd (o:=.tup [.int 0,.int 1]) nc1
  have u2:=Same.upd (o:=.tup [.int 1,.int 2]) nc2
  have u3:=Same.upd (o:=.lst [.ref c1,.ref c2]) nlc
  have n1t:=F9.neT nc1
  have n2t:=(F9.same u1).neT nc2
  have n3t:=((F9.same u1).same u2).neT nlc
  have q1:=(u2.trans u3) _ _ (AH (H:=H9) (a:=c1) (o:=.tup [.int 0,.int 1]))
  have q2:=u3 _ _ (AH (H:=upd H9 c1 (.tup [.int 0,.int 1])) (a:=c2) (o:=.tup [.int 1,.int 2]))
  have q3:=AH (H:=upd (upd H9 c1 (.tup [.int 0,.int 1])) c2 (.tup [.int 1,.int 2])) (a:=lc) (o:=.lst [.ref c1,.ref c2])
  have u:=u1.trans (u2.trans u3)
  generalize upd (upd (upd H9 c1 (.tup [.int 0,.int 1])) c2 (.tup [.int 1,.int 2])) lc (.lst [.ref c1,.ref c2])=Ha at *
  refine ⟨F9.same u,Al (by decide) (by decide),fun d H10 d0 d1 F10 f10=>?_⟩
  have g10:H10 lc=some (.lst [.ref c1,.ref c2]):=by rw [f10 lc n3t];exact q3
  obtain ⟨z,hz,hm⟩:=RM (xs:=[V.ref c1,.ref c2]) d0 d1
  have b1:Nb 1 66:=(show Nb 1 1 by unfold Nb;decide).up (by decide)
  have b2:Nb 2 66:=(show Nb 2 2 by unfold Nb;decide).up (by decide)
  have b0:Nb 0 66:=(show Nb 0 1 by unfold Nb;decide).up (by decide)
  have hz2:ShA K H10 z:=by
   simp only [List.mem_cons,List.mem_nil_iff,or_false] at hm
   rcases hm with rfl | rfl
   ·exact ⟨c1,0,1,rfl,.of (by rw [f10 c1 n1t];exact q1),by decide,b0,b1⟩
   ·exact ⟨c2,1,2,rfl,.of (by rw [f10 c2 n2t];exact q2),by decide,b1,b2⟩
  have hp2:ShA K H10 (.ref ps):=⟨ps,x,y,rfl,.of (by rw [f10 ps nps];exact u _ _ g9),y0,nx,ny⟩
  refine ⟨_,z,.inl (.of g10),hz,Ac (show 2<=1000 by decide),fun l3 nl3=>?_⟩
  have t10:=Same.upd (o:=.lst [.ref ps,z]) nl3
  have fr10:Frm t H8 (upd H10 l3 (.lst [.ref ps,z])):=fr9.trans (u.frm.trans ((Aq f10).trans t10.frm))
  have g11:=AH (H:=H10) (a:=l3) (o:=.lst [.ref ps,z])
  have F11:=F10.same t10
  have SV11:=SV8.frm F8 fr10
  have hall:∀ v∈[.ref ps,z],ShA K (upd H10 l3 (.lst [.ref ps,z])) v:=fun v hv=>by
   have go:∀ v,ShA K H10 v->ShA K (upd H10 l3 (.lst [.ref ps,z])) v:=fun v ⟨pr,x,y,e,h,r⟩=>⟨pr,x,y,e,t10.sqT h,r⟩
   simp only [List.mem_cons,List.mem_nil_iff,or_false] at hv
   rcases hv with rfl | rfl
   ·exact go _ hp2
   ·exact go _ hz2
  generalize upd H10 l3 (.lst [.ref ps,z])=Hb at *
  refine .inl ⟨⟨_,.of g11⟩,?_⟩
  refine FE (xs:=[.ref ps,z]) (fun j σ H'=>∃ z12:Option V,σ=[some (.ref a),some (.int (0+(i:Int))),some (.ref t),some (.ref tb),some (.int ((2 ^ m:Nat):Int)),some gv,some (.ref l),some (.ref kp),z8,z9,z10,z11,z12,z13]/\Same Hb H') ⟨_,rfl,Same.refl _⟩ (fun j σ H' _ ⟨_,_,s'⟩=>.of (s' _ _ g11)) ?_ (fun σ H' ⟨z,e,s'⟩=>⟨z,e,F11.same s',fr10.trans s'.frm⟩)
  rintro j v σ H' hv ⟨z12,rfl,s'⟩
  obtain ⟨pr,x,y,rfl,hpr,y0,nx,ny⟩:=hall v (List.mem_of_getElem? hv)
  dsimp only [AQ]
  refine ⟨m,ts,x,y,SV11.same s',G,s'.sqT hpr,y0,nx,ny,fun v1 d1 d2 H12 s12 r12 w1=>?_⟩
  obtain ⟨n1,n2,n3⟩:=Qy G y0 nx ny w1
  refine ⟨_,r12,n1,n2,n3,m,ts,x,y,(SV11.same s').same s12,G,s12.sqT (s'.sqT hpr),y0,nx,ny,fun v2 e1 e2 H13 s13 r13 w2=>?_⟩
  obtain ⟨rfl,rfl⟩:=P9 w1 w2
  refine ⟨_,r13,n1,n2,n3,?_⟩
  generalize Dv.tup [d1,d2]=D at *
  exact ite2 (fun e=>(Fl e).elim) (fun _=>⟨_,rfl,s'.trans (s12.trans s13)⟩)
 clear z12
 refine DP fun _ hR=>?_
 rintro σ H9 ⟨z12,rfl,F9,fr9⟩
 refine hR _ _ ?_
 have SV9:=SV8.frm F8 fr9
 have S9:=Cv (Cv S7 ht fr8) ht fr9
 refine ⟨F9,Al (by decide) (by decide),fun x1 H10 a0 a1 F10 f10=>⟨F10,Al (by decide) (by decide),fun x2 H11 b0 b1 F11 f11=>⟨Ac (show 2<=1000 by decide),fun l3 nl3=>?_⟩⟩⟩
 obtain ⟨x1,rfl⟩:=Int.eq_ofNat_of_zero_le a0
 obtain ⟨x2,rfl⟩:=Int.eq_ofNat_of_zero_le b0
 have t11:=Same.upd (o:=.lst [.int (x1:Int),.int (x2:Int)]) nl3
 have g11:=AH (H:=H11) (a:=l3) (o:=.lst [.int (x1:Int),.int (x2:Int)])
 have fr11:Frm t H9 (upd H11 l3 (.lst [.int (x1:Int),.int (x2:Int)])):=(Aq f10).trans ((Aq f11).trans t11.frm)
 have SV11:=SV9.frm F9 fr11
 have S11:=Cv S9 ht fr11
 generalize upd H11 l3 (.lst [.int (x1:Int),.int (x2:Int)])=Hb at *
 refine .inl ⟨⟨_,.of g11⟩,?_⟩
 refine FE (xs:=[.int (x1:Int),.int (x2:Int)]) (fun j σ H'=>∃ z13:Option V,σ=[some (.ref a),some (.int (0+(i:Int))),some (.ref t),some (.ref tb),some (.int ((2 ^ m:Nat):Int)),some gv,some (.ref l),some (.ref kp),z8,z9,z10,z11,z12,z13]/\Same Hb H') ⟨_,rfl,Same.refl _⟩ (fun j σ H' _ ⟨_,_,s'⟩=>.of (s' _ _ g11)) ?_ (fun σ H' ⟨z,e,s'⟩=>⟨_,_,_,_,_,_,_,_,_,_,_,_,_,e,S0.trans (S11.trans s')⟩)
 rintro j v σ H' hv ⟨z13,rfl,s'⟩
 obtain ⟨fw,rfl⟩:∃ fw:Nat,v=.int fw:=by
  have:=List.mem_of_getElem? hv
  simp only [List.mem_cons,List.mem_nil_iff,or_false] at this
  rcases this with rfl | rfl
  ·exact ⟨x1,rfl⟩
  ·exact ⟨x2,rfl⟩
 dsimp only [AQ]
 refine ⟨m,fw,ts,SV11.same s',G,hr0,rfl,fun d gr H12 s12 c1 c2 c3 c4 c5=>?_⟩
 have n1:Ai (.int (d:Int))=true:=by unfold Ai;exact Fj (by lia)
 refine ⟨.int d,BK,n1,(by simp [A5]),(by show (0:Nat)<=60;decide),m,fw,ts,(SV11.same s').same s12,G,hr0,rfl,fun d' gr' H13 s13 e1 e2 e3 e4 e5=>?_⟩
 obtain rfl:d=d':=Qi c1 c2 e1 e2 c3 c4 e3 e4
 refine ⟨.int d,BK,n1,(by simp [A5]),(by show (0:Nat)<=60;decide),?_⟩
 generalize Dv.int (d:Int)=D at *
 exact ite2 (fun e=>(Fl e).elim) (fun _=>⟨_,rfl,s'.trans (s12.trans s13)⟩)
end
theorem all_mk {l:W.OpenLaw} {w:World} {K:W.Frag} {h:Heap} {mg:Str->Option Value} {fa:Addr} (X:K.In h) (G:h.Ns mainGlobals mg) (hfa:mg "law" = some (.ref fa))
 {f0 f1 f2 f3 f4 f5 f6 f7 f8 f9 f10 f11 f12 f13 f14 f15 f16 f17 f18 f19 f20 f21 f22 f23 f24 f25 f26 f27 f28 f29 f30 f31 f32 f33 f34 f35 f36 f37 f38 f39:Addr} {oc0 kV0 dc0 pm0 cd0 ct0 oc1 kV1 dc1 pm1 cd1 ct1 oc2 kV2 dc2 pm2 cd2 ct2 oc3 kV3 dc3 pm3 cd3 ct3 oc4 kV4 dc4 pm4 cd4 ct4 oc5 kV5 dc5 pm5 cd5 ct5 oc6 kV6 dc6 pm6 cd6 ct6 oc7 kV7 dc7 pm7 cd7 ct7 oc8 kV8 dc8 pm8 cd8 ct8 oc9 kV9 dc9 pm9 cd9 ct9 oc10 kV10 dc10 pm10 cd10 ct10 oc11 kV11 dc11 pm11 cd11 ct11 oc12 kV12 dc12 pm12 cd12 ct12 oc13 kV13 dc13 pm13 cd13 ct13 oc14 kV14 dc14 pm14 cd14 ct14 oc15 kV15 dc15 pm15 cd15 ct15 oc16 kV16 dc16 pm16 cd16 ct16 oc17 kV17 dc17 pm17 cd17 ct17 oc18 kV18 dc18 pm18 cd18 ct18 oc19 kV19 dc19 pm19 cd19 ct19 oc20 kV20 dc20 pm20 cd20 ct20 oc21 kV21 dc21 pm21 cd21 ct21 oc22 kV22 dc22 pm22 cd22 ct22 oc23 kV23 dc23 pm23 cd23 ct23 oc24 kV24 dc24 pm24 cd24 ct24 oc25 kV25 dc25 pm25 cd25 ct25 oc26 kV26 dc26 pm26 cd26 ct26 oc27 kV27 dc27 pm27 cd27 ct27 oc28 kV28 dc28 pm28 cd28 ct28 oc29 kV29 dc29 pm29 cd29 ct29 oc30 kV30 dc30 pm30 cd30 ct30 oc31 kV31 dc31 pm31 cd31 ct31 oc32 kV32 dc32 pm32 cd32 ct32 oc33 kV33 dc33 pm33 cd33 ct33 oc34 kV34 dc34 pm34 cd34 ct34 oc35 kV35 dc35 pm35 cd35 ct35 oc36 kV36 dc36 pm36 cd36 ct36 oc37 kV37 dc37 pm37 cd37 ct37 oc38 kV38 dc38 pm38 cd38 ct38 oc39 kV39 dc39 pm39 cd39 ct39:Value} {od0 an0 od1 an1 od2 an2 od3 an3 od4 an4 od5 an5 od6 an6 od7 an7 od8 an8 od9 an9 od10 an10 od11 an11 od12 an12 od13 an13 od14 an14 od15 an15 od16 an16 od17 an17 od18 an18 od19 an19 od20 an20 od21 an21 od22 an22 od23 an23 od24 an24 od25 an25 od26 an26 od27 an27 od28 an28 od29 an29 od30 an30 od31 an31 od32 an32 od33 an33 od34 an34 od35 an35 od36 an36 od37 an37 od38 an38 od39 an39:Option Addr} {sl0 sl1 sl2 sl3 sl4 sl5 sl6 sl7 sl8 sl9 sl10 sl11 sl12 sl13 sl14 sl15 sl16 sl17 sl18 sl19 sl20 sl21 sl22 sl23 sl24 sl25 sl26 sl27 sl28 sl29 sl30 sl31 sl32 sl33 sl34 sl35 sl36 sl37 sl38 sl39:Array (Option Value)}
 (a0:W.nsIn K mainGlobals "two_to" = some (some (.ref f0)))
 (l0:K.lookup f0=some ⟨oc0,od0,.func (W.fnOf "two_to" "two_to" (AU EQ) (AS EQ) (AJ EQ) .none kV0 dc0 pm0 an0 cd0 ct0),sl0⟩)
 (c0:W.codeIn K cd0 "two_to" = true)
 (k0:W.keepIn K (.ref f0)=true)
 (a1:W.nsIn K mainGlobals "power_of" = some (some (.ref f1)))
 (l1:K.lookup f1=some ⟨oc1,od1,.func (W.fnOf "power_of" "power_of" (AU DV) (AS DV) (AJ DV) .none kV1 dc1 pm1 an1 cd1 ct1),sl1⟩)
 (c1:W.codeIn K cd1 "power_of" = true)
 (k1:W.keepIn K (.ref f1)=true)
 (a2:W.nsIn K mainGlobals "sign" = some (some (.ref f2)))
 (l2:K.lookup f2=some ⟨oc2,od2,.func (W.fnOf "sign" "sign" (AU DQ) (AS DQ) (AJ DQ) .none kV2 dc2 pm2 an2 cd2 ct2),sl2⟩)
 (c2:W.codeIn K cd2 "sign" = true)
 (k2:W.keepIn K (.ref f2)=true)
 (a3:W.nsIn K mainGlobals "within" = some (some (.ref f3)))
 (l3:K.lookup f3=some ⟨oc3,od3,.func (W.fnOf "within" "within" (AU Dk) (AS Dk) (AJ Dk) .none kV3 dc3 pm3 an3 cd3 ct3),sl3⟩)
 (c3:W.codeIn K cd3 "within" = true)
 (k3:W.keepIn K (.ref f3)=true)
 (a4:W.nsIn K mainGlobals "many_in" = some (some (.ref f4)))
 (l4:K.lookup f4=some ⟨oc4,od4,.func (W.fnOf "many_in" "many_in" (AU DG) (AS DG) (AJ DG) .none kV4 dc4 pm4 an4 cd4 ct4),sl4⟩)
 (c4:W.codeIn K cd4 "many_in" = true)
 (k4:W.keepIn K (.ref f4)=true)
 (a5:W.nsIn K mainGlobals "sets_of" = some (some (.ref f5)))
 (l5:K.lookup f5=some ⟨oc5,od5,.func (W.fnOf "sets_of" "sets_of" (AU Dm) (AS Dm) (AJ Dm) .none kV5 dc5 pm5 an5 cd5 ct5),sl5⟩)
 (c5:W.codeIn K cd5 "sets_of" = true)
 (k5:W.keepIn K (.ref f5)=true)
 (a6:W.nsIn K mainGlobals "share_of" = some (some (.ref f6)))
 (l6:K.lookup f6=some ⟨oc6,od6,.func (W.fnOf "share_of" "share_of" (AU D0) (AS D0) (AJ D0) .none kV6 dc6 pm6 an6 cd6 ct6),sl6⟩)
 (c6:W.codeIn K cd6 "share_of" = true)
 (k6:W.keepIn K (.ref f6)=true)
 (a7:W.nsIn K mainGlobals "common_divisor" = some (some (.ref f7)))
 (l7:K.lookup f7=some ⟨oc7,od7,.func (W.fnOf "common_divisor" "common_divisor" (AU EL) (AS EL) (AJ EL) .none kV7 dc7 pm7 an7 cd7 ct7),sl7⟩)
 (c7:W.codeIn K cd7 "common_divisor" = true)
 (k7:W.keepIn K (.ref f7)=true)
 (a8:W.nsIn K mainGlobals "odd_squares" = some (some (.ref f8)))
 (l8:K.lookup f8=some ⟨oc8,od8,.func (W.fnOf "odd_squares" "odd_squares" (AU EF) (AS EF) (AJ EF) .none kV8 dc8 pm8 an8 cd8 ct8),sl8⟩)
 (c8:W.codeIn K cd8 "odd_squares" = true)
 (k8:W.keepIn K (.ref f8)=true)
 (a9:W.nsIn K mainGlobals "is_odd_with" = some (some (.ref f9)))
 (l9:K.lookup f9=some ⟨oc9,od9,.func (W.fnOf "is_odd_with" "is_odd_with" (AU Ds) (AS Ds) (AJ Ds) .none kV9 dc9 pm9 an9 cd9 ct9),sl9⟩)
 (c9:W.codeIn K cd9 "is_odd_with" = true)
 (k9:W.keepIn K (.ref f9)=true)
 (a10:W.nsIn K mainGlobals "squares_by_level" = some (some (.ref f10)))
 (l10:K.lookup f10=some ⟨oc10,od10,.func (W.fnOf "squares_by_level" "squares_by_level" (AU ER) (AS ER) (AJ ER) .none kV10 dc10 pm10 an10 cd10 ct10),sl10⟩)
 (c10:W.codeIn K cd10 "squares_by_level" = true)
 (k10:W.keepIn K (.ref f10)=true)
 (a11:W.nsIn K mainGlobals "over_all" = some (some (.ref f11)))
 (l11:K.lookup f11=some ⟨oc11,od11,.func (W.fnOf "over_all" "over_all" (AU DM) (AS DM) (AJ DM) .none kV11 dc11 pm11 an11 cd11 ct11),sl11⟩)
 (c11:W.codeIn K cd11 "over_all" = true)
 (k11:W.keepIn K (.ref f11)=true)
 (a12:W.nsIn K mainGlobals "stays_by" = some (some (.ref f12)))
 (l12:K.lookup f12=some ⟨oc12,od12,.func (W.fnOf "stays_by" "stays_by" (AU Dr) (AS Dr) (AJ Dr) .none kV12 dc12 pm12 an12 cd12 ct12),sl12⟩)
 (c12:W.codeIn K cd12 "stays_by" = true)
 (k12:W.keepIn K (.ref f12)=true)
 (a13:W.nsIn K mainGlobals "squares" = some (some (.ref f13)))
 (l13:K.lookup f13=some ⟨oc13,od13,.func (W.fnOf "squares" "squares" (AU EJ) (AS EJ) (AJ EJ) .none kV13 dc13 pm13 an13 cd13 ct13),sl13⟩)
 (c13:W.codeIn K cd13 "squares" = true)
 (k13:W.keepIn K (.ref f13)=true)
 (a14:W.nsIn K mainGlobals "weights_of" = some (some (.ref f14)))
 (l14:K.lookup f14=some ⟨oc14,od14,.func (W.fnOf "weights_of" "weights_of" (AU D1) (AS D1) (AJ D1) .none kV14 dc14 pm14 an14 cd14 ct14),sl14⟩)
 (c14:W.codeIn K cd14 "weights_of" = true)
 (k14:W.keepIn K (.ref f14)=true)
 (a15:W.nsIn K mainGlobals "glance_of" = some (some (.ref f15)))
 (l15:K.lookup f15=some ⟨oc15,od15,.func (W.fnOf "glance_of" "glance_of" (AU D5) (AS D5) (AJ D5) .none kV15 dc15 pm15 an15 cd15 ct15),sl15⟩)
 (c15:W.codeIn K cd15 "glance_of" = true)
 (k15:W.keepIn K (.ref f15)=true)
 (a16:W.nsIn K mainGlobals "rest_of" = some (some (.ref f16)))
 (l16:K.lookup f16=some ⟨oc16,od16,.func (W.fnOf "rest_of" "rest_of" (AU ET) (AS ET) (AJ ET) .none kV16 dc16 pm16 an16 cd16 ct16),sl16⟩)
 (c16:W.codeIn K cd16 "rest_of" = true)
 (k16:W.keepIn K (.ref f16)=true)
 (a17:W.nsIn K mainGlobals "untold_sets" = some (some (.ref f17)))
 (l17:K.lookup f17=some ⟨oc17,od17,.func (W.fnOf "untold_sets" "untold_sets" (AU D4) (AS D4) (AJ D4) .none kV17 dc17 pm17 an17 cd17 ct17),sl17⟩)
 (c17:W.codeIn K cd17 "untold_sets" = true)
 (k17:W.keepIn K (.ref f17)=true)
 (a18:W.nsIn K mainGlobals "matters_within" = some (some (.ref f18)))
 (l18:K.lookup f18=some ⟨oc18,od18,.func (W.fnOf "matters_within" "matters_within" (AU Di) (AS Di) (AJ Di) .none kV18 dc18 pm18 an18 cd18 ct18),sl18⟩)
 (c18:W.codeIn K cd18 "matters_within" = true)
 (k18:W.keepIn K (.ref f18)=true)
 (a19:W.nsIn K mainGlobals "stays_within" = some (some (.ref f19)))
 (l19:K.lookup f19=some ⟨oc19,od19,.func (W.fnOf "stays_within" "stays_within" (AU DA) (AS DA) (AJ DA) .none kV19 dc19 pm19 an19 cd19 ct19),sl19⟩)
 (c19:W.codeIn K cd19 "stays_within" = true)
 (k19:W.keepIn K (.ref f19)=true)
 (a20:W.nsIn K mainGlobals "stays_with_rest" = some (some (.ref f20)))
 (l20:K.lookup f20=some ⟨oc20,od20,.func (W.fnOf "stays_with_rest" "stays_with_rest" (AU Du) (AS Du) (AJ Du) .none kV20 dc20 pm20 an20 cd20 ct20),sl20⟩)
 (c20:W.codeIn K cd20 "stays_with_rest" = true)
 (k20:W.keepIn K (.ref f20)=true)
 (a21:W.nsIn K mainGlobals "differ_at_least" = some (some (.ref f21)))
 (l21:K.lookup f21=some ⟨oc21,od21,.func (W.fnOf "differ_at_least" "differ_at_least" (AU C8) (AS C8) (AJ C8) .none kV21 dc21 pm21 an21 cd21 ct21),sl21⟩)
 (c21:W.codeIn K cd21 "differ_at_least" = true)
 (k21:W.keepIn K (.ref f21)=true)
 (a22:W.nsIn K mainGlobals "most_squares_within" = some (some (.ref f22)))
 (l22:K.lookup f22=some ⟨oc22,od22,.func (W.fnOf "most_squares_within" "most_squares_within" (AU D2) (AS D2) (AJ D2) .none kV22 dc22 pm22 an22 cd22 ct22),sl22⟩)
 (c22:W.codeIn K cd22 "most_squares_within" = true)
 (k22:W.keepIn K (.ref f22)=true)
 (a23:W.nsIn K mainGlobals "_law_feed" = some (some (.ref f23)))
 (l23:K.lookup f23=some ⟨oc23,od23,.func (W.fnOf "_law_feed" "_law_feed" (AU EH) (AS EH) (AJ EH) .none kV23 dc23 pm23 an23 cd23 ct23),sl23⟩)
 (c23:W.codeIn K cd23 "_law_feed" = true)
 (k23:W.keepIn K (.ref f23)=true)
 (a24:W.nsIn K mainGlobals "_law_draw" = some (some (.ref f24)))
 (l24:K.lookup f24=some ⟨oc24,od24,.func (W.fnOf "_law_draw" "_law_draw" (AU DB) (AS DB) (AJ DB) .none kV24 dc24 pm24 an24 cd24 ct24),sl24⟩)
 (c24:W.codeIn K cd24 "_law_draw" = true)
 (k24:W.keepIn K (.ref f24)=true)
 (a25:W.nsIn K mainGlobals "_law_n" = some (some (.ref f25)))
 (l25:K.lookup f25=some ⟨oc25,od25,.func (W.fnOf "_law_n" "_law_n" (AU Dl) (AS Dl) (AJ Dl) .none kV25 dc25 pm25 an25 cd25 ct25),sl25⟩)
 (c25:W.codeIn K cd25 "_law_n" = true)
 (k25:W.keepIn K (.ref f25)=true)
 (a26:W.nsIn K mainGlobals "_law_many" = some (some (.ref f26)))
 (l26:K.lookup f26=some ⟨oc26,od26,.func (W.fnOf "_law_many" "_law_many" (AU DW) (AS DW) (AJ DW) .none kV26 dc26 pm26 an26 cd26 ct26),sl26⟩)
 (c26:W.codeIn K cd26 "_law_many" = true)
 (k26:W.keepIn K (.ref f26)=true)
 (a27:W.nsIn K mainGlobals "_law_table" = some (some (.ref f27)))
 (l27:K.lookup f27=some ⟨oc27,od27,.func (W.fnOf "_law_table" "_law_table" (AU Dt) (AS Dt) (AJ Dt) .none kV27 dc27 pm27 an27 cd27 ct27),sl27⟩)
 (c27:W.codeIn K cd27 "_law_table" = true)
 (k27:W.keepIn K (.ref f27)=true)
 (a28:W.nsIn K mainGlobals "_law_sum" = some (some (.ref f28)))
 (l28:K.lookup f28=some ⟨oc28,od28,.func (W.fnOf "_law_sum" "_law_sum" (AU DY) (AS DY) (AJ DY) .none kV28 dc28 pm28 an28 cd28 ct28),sl28⟩)
 (c28:W.codeIn K cd28 "_law_sum" = true)
 (k28:W.keepIn K (.ref f28)=true)
 (a29:W.nsIn K mainGlobals "_law_share" = some (some (.ref f29)))
 (l29:K.lookup f29=some ⟨oc29,od29,.func (W.fnOf "_law_share" "_law_share" (AU EM) (AS EM) (AJ EM) .none kV29 dc29 pm29 an29 cd29 ct29),sl29⟩)
 (c29:W.codeIn K cd29 "_law_share" = true)
 (k29:W.keepIn K (.ref f29)=true)
 (a30:W.nsIn K mainGlobals "_law_shaking" = some (some (.ref f30)))
 (l30:K.lookup f30=some ⟨oc30,od30,.func (W.fnOf "_law_shaking" "_law_shaking" (AU DO) (AS DO) (AJ DO) .none kV30 dc30 pm30 an30 cd30 ct30),sl30⟩)
 (c30:W.codeIn K cd30 "_law_shaking" = true)
 (k30:W.keepIn K (.ref f30)=true)
 (a31:W.nsIn K mainGlobals "_law_power" = some (some (.ref f31)))
 (l31:K.lookup f31=some ⟨oc31,od31,.func (W.fnOf "_law_power" "_law_power" (AU DI) (AS DI) (AJ DI) .none kV31 dc31 pm31 an31 cd31 ct31),sl31⟩)
 (c31:W.codeIn K cd31 "_law_power" = true)
 (k31:W.keepIn K (.ref f31)=true)
 (a32:W.nsIn K mainGlobals "_law_sets" = some (some (.ref f32)))
 (l32:K.lookup f32=some ⟨oc32,od32,.func (W.fnOf "_law_sets" "_law_sets" (AU DC) (AS DC) (AJ DC) .none kV32 dc32 pm32 an32 cd32 ct32),sl32⟩)
 (c32:W.codeIn K cd32 "_law_sets" = true)
 (k32:W.keepIn K (.ref f32)=true)
 (a33:W.nsIn K mainGlobals "_law_glance" = some (some (.ref f33)))
 (l33:K.lookup f33=some ⟨oc33,od33,.func (W.fnOf "_law_glance" "_law_glance" (AU C7) (AS C7) (AJ C7) .none kV33 dc33 pm33 an33 cd33 ct33),sl33⟩)
 (c33:W.codeIn K cd33 "_law_glance" = true)
 (k33:W.keepIn K (.ref f33)=true)
 (a34:W.nsIn K mainGlobals "_law_dark" = some (some (.ref f34)))
 (l34:K.lookup f34=some ⟨oc34,od34,.func (W.fnOf "_law_dark" "_law_dark" (AU De) (AS De) (AJ De) .none kV34 dc34 pm34 an34 cd34 ct34),sl34⟩)
 (c34:W.codeIn K cd34 "_law_dark" = true)
 (k34:W.keepIn K (.ref f34)=true)
 (a35:W.nsIn K mainGlobals "_law_rest" = some (some (.ref f35)))
 (l35:K.lookup f35=some ⟨oc35,od35,.func (W.fnOf "_law_rest" "_law_rest" (AU EC) (AS EC) (AJ EC) .none kV35 dc35 pm35 an35 cd35 ct35),sl35⟩)
 (c35:W.codeIn K cd35 "_law_rest" = true)
 (k35:W.keepIn K (.ref f35)=true)
 (a36:W.nsIn K mainGlobals "_law_matters" = some (some (.ref f36)))
 (l36:K.lookup f36=some ⟨oc36,od36,.func (W.fnOf "_law_matters" "_law_matters" (AU Db) (AS Db) (AJ Db) .none kV36 dc36 pm36 an36 cd36 ct36),sl36⟩)
 (c36:W.codeIn K cd36 "_law_matters" = true)
 (k36:W.keepIn K (.ref f36)=true)
 (a37:W.nsIn K mainGlobals "_law_stays" = some (some (.ref f37)))
 (l37:K.lookup f37=some ⟨oc37,od37,.func (W.fnOf "_law_stays" "_law_stays" (AU EG) (AS EG) (AJ EG) .none kV37 dc37 pm37 an37 cd37 ct37),sl37⟩)
 (c37:W.codeIn K cd37 "_law_stays" = true)
 (k37:W.keepIn K (.ref f37)=true)
 (a38:W.nsIn K mainGlobals "_law_differ" = some (some (.ref f38)))
 (l38:K.lookup f38=some ⟨oc38,od38,.func (W.fnOf "_law_differ" "_law_differ" (AU Do) (AS Do) (AJ Do) .none kV38 dc38 pm38 an38 cd38 ct38),sl38⟩)
 (c38:W.codeIn K cd38 "_law_differ" = true)
 (k38:W.keepIn K (.ref f38)=true)
 (a39:W.nsIn K mainGlobals "law" = some (some (.ref f39)))
 (l39:K.lookup f39=some ⟨oc39,od39,.func (W.fnOf "law" "law" (AU CO) (AS CO) (AJ CO) .none kV39 dc39 pm39 an39 cd39 ct39),sl39⟩)
 (c39:W.codeIn K cd39 "law" = true)
 (k39:W.keepIn K (.ref f39)=true)
 (z_abs:W.nsIn K mainGlobals "abs" = some none)
 (z_any:W.nsIn K mainGlobals "any" = some none)
 (z_dict:W.nsIn K mainGlobals "dict" = some none)
 (z_enumerate:W.nsIn K mainGlobals "enumerate" = some none)
 (z_int:W.nsIn K mainGlobals "int" = some none)
 (z_len:W.nsIn K mainGlobals "len" = some none)
 (z_list:W.nsIn K mainGlobals "list" = some none)
 (z_max:W.nsIn K mainGlobals "max" = some none)
 (z_min:W.nsIn K mainGlobals "min" = some none)
 (z_range:W.nsIn K mainGlobals "range" = some none)
 (z_repr:W.nsIn K mainGlobals "repr" = some none)
 (z_set:W.nsIn K mainGlobals "set" = some none)
 (z_sorted:W.nsIn K mainGlobals "sorted" = some none)
 (z_sum:W.nsIn K mainGlobals "sum" = some none)
 (z_tuple:W.nsIn K mainGlobals "tuple" = some none) :
 ∃ fd:FuncData,(∀ (s:Shared) (v:Value),BindsTo s fd ⟨[v],[]⟩ [("_law_script",v)])/\∀ base:Heap,K.In base->base.Ns mainGlobals mg->FnOk l.prog w K mg base CX0 6 fa fd ["_law_script"] (Fm K):=by
 have e:=hfa.symm.trans (W.mg_of X G a39)
 cases e
 have F0:=AZ (st:=EQ) l0 c0 k0
 have b0:=F0.binds (ps:=["n"]) fun _ _ _ _ _ _=>L2.on1 (fun _=>rfl)
 have F1:=AZ (st:=DV) l1 c1 k1
 have b1:=F1.binds (ps:=["base","times"]) fun _ _ _ _ _ _=>L2.on2 (fun _ _=>rfl)
 have F2:=AZ (st:=DQ) l2 c2 k2
 have b2:=F2.binds (ps:=["subset","place"]) fun _ _ _ _ _ _=>L2.on2 (fun _ _=>rfl)
 have F3:=AZ (st:=Dk) l3 c3 k3
 have b3:=F3.binds (ps:=["subset","other"]) fun _ _ _ _ _ _=>L2.on2 (fun _ _=>rfl)
 have F4:=AZ (st:=DG) l4 c4 k4
 have b4:=F4.binds (ps:=["subset"]) fun _ _ _ _ _ _=>L2.on1 (fun _=>rfl)
 have F5:=AZ (st:=Dm) l5 c5 k5
 have b5:=F5.binds (ps:=["n","k"]) fun _ _ _ _ _ _=>L2.on2 (fun _ _=>rfl)
 have F6:=AZ (st:=D0) l6 c6 k6
 have b6:=F6.binds (ps:=["top","bottom"]) fun _ _ _ _ _ _=>L2.on2 (fun _ _=>rfl)
 have F7:=AZ (st:=EL) l7 c7 k7
 have b7:=F7.binds (ps:=["one","other"]) fun _ _ _ _ _ _=>L2.on2 (fun _ _=>rfl)
 have F8:=AZ (st:=EF) l8 c8 k8
 have b8:=F8.binds (ps:=["one","subset"]) fun _ _ _ _ _ _=>L2.on2 (fun _ _=>rfl)
 have F9:=AZ (st:=Ds) l9 c9 k9
 have b9:=F9.binds (ps:=["one","other"]) fun _ _ _ _ _ _=>L2.on2 (fun _ _=>rfl)
 have F10:=AZ (st:=ER) l10 c10 k10
 have b10:=F10.binds (ps:=["one"]) fun _ _ _ _ _ _=>L2.on1 (fun _=>rfl)
 have F11:=AZ (st:=DM) l11 c11 k11
 have b11:=F11.binds (ps:=["one","squares"]) fun _ _ _ _ _ _=>L2.on2 (fun _ _=>rfl)
 have F12:=AZ (st:=Dr) l12 c12 k12
 have b12:=F12.binds (ps:=["n","squares","share"]) fun _ _ _ _ _ _=>L2.on3 (fun _ _ _=>rfl)
 have F13:=AZ (st:=EJ) l13 c13 k13
 have b13:=F13.binds (ps:=["one"]) fun _ _ _ _ _ _=>L2.on1 (fun _=>rfl)
 have F14:=AZ (st:=D1) l14 c14 k14
 have b14:=F14.binds (ps:=["one"]) fun _ _ _ _ _ _=>L2.on1 (fun _=>rfl)
 have F15:=AZ (st:=D5) l15 c15 k15
 have b15:=F15.binds (ps:=["one","sets"]) fun _ _ _ _ _ _=>L2.on2 (fun _ _=>rfl)
 have F16:=AZ (st:=ET) l16 c16 k16
 have b16:=F16.binds (ps:=["glance"]) fun _ _ _ _ _ _=>L2.on1 (fun _=>rfl)
 have F17:=AZ (st:=D4) l17 c17 k17
 have b17:=F17.binds (ps:=["glance"]) fun _ _ _ _ _ _=>L2.on1 (fun _=>rfl)
 have F18:=AZ (st:=Di) l18 c18 k18
 have b18:=F18.binds (ps:=["glance","subset"]) fun _ _ _ _ _ _=>L2.on2 (fun _ _=>rfl)
 have F19:=AZ (st:=DA) l19 c19 k19
 have b19:=F19.binds (ps:=["glance","share"]) fun _ _ _ _ _ _=>L2.on2 (fun _ _=>rfl)
 have F20:=AZ (st:=Du) l20 c20 k20
 have b20:=F20.binds (ps:=["glance","many","share"]) fun _ _ _ _ _ _=>L2.on3 (fun _ _ _=>rfl)
 have F21:=AZ (st:=C8) l21 c21 k21
 have b21:=F21.binds (ps:=["glance","k"]) fun _ _ _ _ _ _=>L2.on2 (fun _ _=>rfl)
 have F22:=AZ (st:=D2) l22 c22 k22
 have b22:=F22.binds (ps:=["glance","outer"]) fun _ _ _ _ _ _=>L2.on2 (fun _ _=>rfl)
 have F23:=AZ (st:=EH) l23 c23 k23
 have b23:=F23.binds (ps:=["_law_script","_law_k"]) fun _ _ _ _ _ _=>L2.on2 (fun _ _=>rfl)
 have F24:=AZ (st:=DB) l24 c24 k24
 have b24:=F24.binds (ps:=["_law_feed_here","_law_many_here"]) fun _ _ _ _ _ _=>L2.on2 (fun _ _=>rfl)
 have F25:=AZ (st:=Dl) l25 c25 k25
 have b25:=F25.binds (ps:=["_law_feed_here"]) fun _ _ _ _ _ _=>L2.on1 (fun _=>rfl)
 have F26:=AZ (st:=DW) l26 c26 k26
 have b26:=F26.binds (ps:=["_law_number"]) fun _ _ _ _ _ _=>L2.on1 (fun _=>rfl)
 have F27:=AZ (st:=Dt) l27 c27 k27
 have b27:=F27.binds (ps:=["_law_feed_here","_law_n_here"]) fun _ _ _ _ _ _=>L2.on2 (fun _ _=>rfl)
 have F28:=AZ (st:=DY) l28 c28 k28
 have b28:=F28.binds (ps:=["_law_table_here"]) fun _ _ _ _ _ _=>L2.on1 (fun _=>rfl)
 have F29:=AZ (st:=EM) l29 c29 k29
 have b29:=F29.binds (ps:=["_law_top","_law_bottom"]) fun _ _ _ _ _ _=>L2.on2 (fun _ _=>rfl)
 have F30:=AZ (st:=DO) l30 c30 k30
 have b30:=F30.binds (ps:=["_law_feed_here","_law_part"]) fun _ _ _ _ _ _=>L2.on2 (fun _ _=>rfl)
 have F31:=AZ (st:=DI) l31 c31 k31
 have b31:=F31.binds (ps:=["_law_base","_law_times"]) fun _ _ _ _ _ _=>L2.on2 (fun _ _=>rfl)
 have F32:=AZ (st:=DC) l32 c32 k32
 have b32:=F32.binds (ps:=["_law_n_here","_law_k"]) fun _ _ _ _ _ _=>L2.on2 (fun _ _=>rfl)
 have F33:=AZ (st:=C7) l33 c33 k33
 have b33:=F33.binds (ps:=["_law_feed_here","_law_table_here"]) fun _ _ _ _ _ _=>L2.on2 (fun _ _=>rfl)
 have F34:=AZ (st:=De) l34 c34 k34
 have b34:=F34.binds (ps:=["_law_glance_here"]) fun _ _ _ _ _ _=>L2.on1 (fun _=>rfl)
 have F35:=AZ (st:=EC) l35 c35 k35
 have b35:=F35.binds (ps:=["_law_glance_here"]) fun _ _ _ _ _ _=>L2.on1 (fun _=>rfl)
 have F36:=AZ (st:=Db) l36 c36 k36
 have b36:=F36.binds (ps:=["_law_glance_here","_law_some"]) fun _ _ _ _ _ _=>L2.on2 (fun _ _=>rfl)
 have F37:=AZ (st:=EG) l37 c37 k37
 have b37:=F37.binds (ps:=["_law_glance_here","_law_share_here"]) fun _ _ _ _ _ _=>L2.on2 (fun _ _=>rfl)
 have F38:=AZ (st:=Do) l38 c38 k38
 have b38:=F38.binds (ps:=["_law_glance_here","_law_k"]) fun _ _ _ _ _ _=>L2.on2 (fun _ _=>rfl)
 have F39:=AZ (st:=CO) l39 c39 k39
 have b39:=F39.binds (ps:=["_law_script"]) fun _ _ _ _ _ _=>L2.on1 (fun _=>rfl)
 let T:Txt K mg:={ f_z51:=f0,d_z51:=_,F_z51:=F0,b_z51:=b0,m_z51:=W.mg_of X G a0,f_z40:=f1,d_z40:=_,F_z40:=F1,b_z40:=b1,m_z40:=W.mg_of X G a1,f_z52:=f2,d_z52:=_,F_z52:=F2,b_z52:=b2,m_z52:=W.mg_of X G a2,f_z50:=f3,d_z50:=_,F_z50:=F3,b_z50:=b3,m_z50:=W.mg_of X G a3,f_z45:=f4,d_z45:=_,F_z45:=F4,b_z45:=b4,m_z45:=W.mg_of X G a4,f_z46:=f5,d_z46:=_,F_z46:=F5,b_z46:=b5,m_z46:=W.mg_of X G a5,f_z41:=f6,d_z41:=_,F_z41:=F6,b_z41:=b6,m_z41:=W.mg_of X G a6,f_z18:=f7,d_z18:=_,F_z18:=F7,b_z18:=b7,m_z18:=W.mg_of X G a7,f_z26:=f8,d_z26:=_,F_z26:=F8,b_z26:=b8,m_z26:=W.mg_of X G a8,f_z27:=f9,d_z27:=_,F_z27:=F9,b_z27:=b9,m_z27:=W.mg_of X G a9,f_z15:=f10,d_z15:=_,F_z15:=F10,b_z15:=b10,m_z15:=W.mg_of X G a10,f_z43:=f11,d_z43:=_,F_z43:=F11,b_z43:=b11,m_z43:=W.mg_of X G a11,f_z44:=f12,d_z44:=_,F_z44:=F12,b_z44:=b12,m_z44:=W.mg_of X G a12,f_z48:=f13,d_z48:=_,F_z48:=F13,b_z48:=b13,m_z48:=W.mg_of X G a13,f_z30:=f14,d_z30:=_,F_z30:=F14,b_z30:=b14,m_z30:=W.mg_of X G a14,f_z37:=f15,d_z37:=_,F_z37:=F15,b_z37:=b15,m_z37:=W.mg_of X G a15,f_z47:=f16,d_z47:=_,F_z47:=F16,b_z47:=b16,m_z47:=W.mg_of X G a16,f_z23:=f17,d_z23:=_,F_z23:=F17,b_z23:=b17,m_z23:=W.mg_of X G a17,f_z19:=f18,d_z19:=_,F_z19:=F18,b_z19:=b18,m_z19:=W.mg_of X G a18,f_z21:=f19,d_z21:=_,F_z21:=F19,b_z21:=b19,m_z21:=W.mg_of X G a19,f_z17:=f20,d_z17:=_,F_z17:=F20,b_z17:=b20,m_z17:=W.mg_of X G a20,f_z16:=f21,d_z16:=_,F_z16:=F21,b_z16:=b21,m_z16:=W.mg_of X G a21,f_z14:=f22,d_z14:=_,F_z14:=F22,b_z14:=b22,m_z14:=W.mg_of X G a22,f_z33:=f23,d_z33:=_,F_z33:=F23,b_z33:=b23,m_z33:=W.mg_of X G a23,f_z34:=f24,d_z34:=_,F_z34:=F24,b_z34:=b24,m_z34:=W.mg_of X G a24,f_z49:=f25,d_z49:=_,F_z49:=F25,b_z49:=b25,m_z49:=W.mg_of X G a25,f_z39:=f26,d_z39:=_,F_z39:=F26,b_z39:=b26,m_z39:=W.mg_of X G a26,f_z32:=f27,d_z32:=_,F_z32:=F27,b_z32:=b27,m_z32:=W.mg_of X G a27,f_z42:=f28,d_z42:=_,F_z42:=F28,b_z42:=b28,m_z42:=W.mg_of X G a28,f_z31:=f29,d_z31:=_,F_z31:=F29,b_z31:=b29,m_z31:=W.mg_of X G a29,f_z20:=f30,d_z20:=_,F_z20:=F30,b_z20:=b30,m_z20:=W.mg_of X G a30,f_z29:=f31,d_z29:=_,F_z29:=F31,b_z29:=b31,m_z29:=W.mg_of X G a31,f_z38:=f32,d_z38:=_,F_z38:=F32,b_z38:=b32,m_z38:=W.mg_of X G a32,f_z25:=f33,d_z25:=_,F_z25:=F33,b_z25:=b33,m_z25:=W.mg_of X G a33,f_z35:=f34,d_z35:=_,F_z35:=F34,b_z35:=b34,m_z35:=W.mg_of X G a34,f_z36:=f35,d_z36:=_,F_z36:=F35,b_z36:=b35,m_z36:=W.mg_of X G a35,f_z22:=f36,d_z22:=_,F_z22:=F36,b_z22:=b36,m_z22:=W.mg_of X G a36,f_z28:=f37,d_z28:=_,F_z28:=F37,b_z28:=b37,m_z28:=W.mg_of X G a37,f_z24:=f38,d_z24:=_,F_z24:=F38,b_z24:=b38,m_z24:=W.mg_of X G a38,f_law:=fa,d_law:=_,F_law:=F39,b_law:=b39,m_law:=W.mg_of X G a39,z_abs:=W.mg_none_of X G z_abs,z_any:=W.mg_none_of X G z_any,z_dict:=W.mg_none_of X G z_dict,z_enumerate:=W.mg_none_of X G z_enumerate,z_int:=W.mg_none_of X G z_int,z_len:=W.mg_none_of X G z_len,z_list:=W.mg_none_of X G z_list,z_max:=W.mg_none_of X G z_max,z_min:=W.mg_none_of X G z_min,z_range:=W.mg_none_of X G z_range,z_repr:=W.mg_none_of X G z_repr,z_set:=W.mg_none_of X G z_set,z_sorted:=W.mg_none_of X G z_sorted,z_sum:=W.mg_none_of X G z_sum,z_tuple:=W.mg_none_of X G z_tuple }
 exact ⟨W.fnOf "law" "law" (AU CO) (AS CO) (AJ CO) .none kV39 dc39 pm39 an39 cd39 ct39,fun s v=>.of_eq rfl,fun base _ _=>L9 T⟩
theorem walk {l:W.OpenLaw} {q:Program} {loose:List Str} {XP:(Str->Option Value)->Heap->Prop} {YP:World->Heap->Prop} {d:DefRec} {K:Params->W.Frag} (hn:l.most=some 63) (hdf:d.params.defaults=[])
 (hY:∀ (w:World) (h:Heap),YP w h->(K w.params).In h)
 (F:∀ (w:World) (mg:Str->Option Value) (fa:Addr) (h:Heap),(K w.params).In h->h.Ns mainGlobals mg->mg d.name=some (.ref fa) ->
   ∃ fd:FuncData,(∀ (s:Shared) (u:Value),BindsTo s fd ⟨[u],[]⟩ [("_law_script",u)])/\∀ base:Heap,(K w.params).In base->base.Ns mainGlobals mg->FnOk l.prog w (K w.params) mg base CX0 6 fa fd ["_law_script"] (Fm (K w.params))) :
 W.WalkO q loose XP YP l.row.toRowW d [] (fun f vs=>PySem.call f vs) :=
 L2.walk_of (n:=63) (k:=6) (x:="_law_script") (CX:=fun _=>CX0) (sp:=fun w=>Fm (K w.params)) hn (by decide) hdf ⟨rfl,by decide,by decide,rfl⟩ hY F (fun _ _ a ns hl _ hS=>⟨a,ns,rfl,hS,hl,fun _=>rfl⟩) fun _ _ _ _ _ z=>z
end Mine
theorem PySem.W.Fast.te16677423783567611585:True:=trivial
noncomputable def PySem.W.Fast.tw11562143840393804523:PySem.Program:=PySem.Challenge.pw_flips_k35_what_glances_tell
theorem PySem.W.Fast.te11562143840393804523:PySem.Challenge.pw_flips_k35_what_glances_tell=PySem.W.Fast.tw11562143840393804523:=rfl
noncomputable def PySem.W.Fast.pickB:List Bool->List PySem.Stmt->List PySem.Stmt
 | [],_=>[]
 | b::k,l=>match b,l with
  | true,s::r=>s::PySem.W.Fast.pickB k r
  | false,_::r=>PySem.W.Fast.pickB k r
  | _,[]=>[]
noncomputable def PySem.W.Fast.tw8606343228309783100:PySem.Program:={ PySem.Challenge.pw_flips_k35_what_glances_tell with main:={ (PySem.Challenge.pw_flips_k35_what_glances_tell).main with body:=PySem.W.Fast.pickB [false,true,true,false,true,true,true,true,false,true,true,false,true,true,true,true,false,true,false,true,true,false,true,true,true,true,true,true,true,true,false,true,true,true,true,true,true,true,true,true,true,true,true,true,true,true,true,true] (PySem.Challenge.pw_flips_k35_what_glances_tell).main.body } }
theorem PySem.W.Fast.te8606343228309783100:PySem.W.Fast.tw8606343228309783100=PySem.W.Fast.tw8606343228309783100:=rfl
noncomputable def PySem.W.Fast.tw13897880613627282904:List PySem.Stmt:=((PySem.Challenge.pw_flips_k35_what_glances_tell).main.body.drop 0).take 16
theorem PySem.W.Fast.te13897880613627282904:PySem.W.Fast.tw13897880613627282904=PySem.W.Fast.tw13897880613627282904:=rfl
noncomputable def PySem.W.Fast.tw7062107267762593670:List PySem.Stmt:=((PySem.Challenge.pw_flips_k35_what_glances_tell).main.body.drop 47).take 1
theorem PySem.W.Fast.te7062107267762593670:PySem.W.Fast.tw7062107267762593670=PySem.W.Fast.tw7062107267762593670:=rfl
noncomputable def PySem.W.Fast.tw14860338414918862911:List PySem.Stmt:=((PySem.Challenge.pw_flips_k35_what_glances_tell).main.body.drop 33).take 14
theorem PySem.W.Fast.te14860338414918862911:PySem.W.Fast.tw14860338414918862911=PySem.W.Fast.tw14860338414918862911:=rfl
noncomputable def PySem.W.Fast.tw10156407556810471025:List PySem.Stmt:=((PySem.Challenge.pw_flips_k35_what_glances_tell).main.body.drop 16).take 17
theorem PySem.W.Fast.te10156407556810471025:PySem.W.Fast.tw10156407556810471025=PySem.W.Fast.tw10156407556810471025:=rfl
open PySem PySem.W PyProof.Rows
set_option maxRecDepth 100000 in
set_option maxHeartbeats 0 in
theorem PySem.Challenge.cw_flips_k35_what_glances_tell_holds : PySem.Challenge.rw_flips_k35_what_glances_tell.Holds := by
 w_on;o_law;k_head;(case hw=>w_witness2)
 k_fill
 refine Mine.walk (l:=PySem.Challenge.rw_flips_k35_what_glances_tell) rfl rfl (fun w h Y=>PySem.W.kIn_of Y) ?F
 case F =>
  intro w mg fa h KX G hmg
  refine' Mine.all_mk KX G hmg ?a0 ?l0 ?c0 ?k0 ?a1 ?l1 ?c1 ?k1 ?a2 ?l2 ?c2 ?k2 ?a3 ?l3 ?c3 ?k3 ?a4 ?l4 ?c4 ?k4 ?a5 ?l5 ?c5 ?k5 ?a6 ?l6 ?c6 ?k6 ?a7 ?l7 ?c7 ?k7 ?a8 ?l8 ?c8 ?k8 ?a9 ?l9 ?c9 ?k9 ?a10 ?l10 ?c10 ?k10 ?a11 ?l11 ?c11 ?k11 ?a12 ?l12 ?c12 ?k12 ?a13 ?l13 ?c13 ?k13 ?a14 ?l14 ?c14 ?k14 ?a15 ?l15 ?c15 ?k15 ?a16 ?l16 ?c16 ?k16 ?a17 ?l17 ?c17 ?k17 ?a18 ?l18 ?c18 ?k18 ?a19 ?l19 ?c19 ?k19 ?a20 ?l20 ?c20 ?k20 ?a21 ?l21 ?c21 ?k21 ?a22 ?l22 ?c22 ?k22 ?a23 ?l23 ?c23 ?k23 ?a24 ?l24 ?c24 ?k24 ?a25 ?l25 ?c25 ?k25 ?a26 ?l26 ?c26 ?k26 ?a27 ?l27 ?c27 ?k27 ?a28 ?l28 ?c28 ?k28 ?a29 ?l29 ?c29 ?k29 ?a30 ?l30 ?c30 ?k30 ?a31 ?l31 ?c31 ?k31 ?a32 ?l32 ?c32 ?k32 ?a33 ?l33 ?c33 ?k33 ?a34 ?l34 ?c34 ?k34 ?a35 ?l35 ?c35 ?k35 ?a36 ?l36 ?c36 ?k36 ?a37 ?l37 ?c37 ?k37 ?a38 ?l38 ?c38 ?k38 ?a39 ?l39 ?c39 ?k39 ?z_abs ?z_any ?z_dict ?z_enumerate ?z_int ?z_len ?z_list ?z_max ?z_min ?z_range ?z_repr ?z_set ?z_sorted ?z_sum ?z_tuple
  (case a0 | l0 | c0 | k0 | a1 | l1 | c1 | k1 | a2 | l2 | c2 | k2 | a3 | l3 | c3 | k3 | a4 | l4 | c4 | k4 | a5 | l5 | c5 | k5 | a6 | l6 | c6 | k6 | a7 | l7 | c7 | k7 | a8 | l8 | c8 | k8 | a9 | l9 | c9 | k9 | a10 | l10 | c10 | k10 | a11 | l11 | c11 | k11 | a12 | l12 | c12 | k12 | a13 | l13 | c13 | k13 | a14 | l14 | c14 | k14 | a15 | l15 | c15 | k15 | a16 | l16 | c16 | k16 | a17 | l17 | c17 | k17 | a18 | l18 | c18 | k18 | a19 | l19 | c19 | k19 | a20 | l20 | c20 | k20 | a21 | l21 | c21 | k21 | a22 | l22 | c22 | k22 | a23 | l23 | c23 | k23 | a24 | l24 | c24 | k24 | a25 | l25 | c25 | k25 | a26 | l26 | c26 | k26 | a27 | l27 | c27 | k27 | a28 | l28 | c28 | k28 | a29 | l29 | c29 | k29 | a30 | l30 | c30 | k30 | a31 | l31 | c31 | k31 | a32 | l32 | c32 | k32 | a33 | l33 | c33 | k33 | a34 | l34 | c34 | k34 | a35 | l35 | c35 | k35 | a36 | l36 | c36 | k36 | a37 | l37 | c37 | k37 | a38 | l38 | c38 | k38 | a39 | l39 | c39 | k39 | z_abs | z_any | z_dict | z_enumerate | z_int | z_len | z_list | z_max | z_min | z_range | z_repr | z_set | z_sorted | z_sum | z_tuple=>k_is)
