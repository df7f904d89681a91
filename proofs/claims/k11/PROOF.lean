import PyProof.Rows.All
import Wide.All
import OpenK.AllK
import Wide.FinOn
import Lean
import PyProof.EqAt
import PyProof.EqKinds
import PyProof.TupleCall
import PyProof.NeKinds
import PyProof.ReprRoads
import PyProof.ReprBulk
import PyProof.Draws
import PyProof.EnumMake
import KE.BitLaws
import PyProof.ListIndex
import PyProof.AttrMissHeap
import PyProof.DictUpdate
import KE.KDictOf
import PyProof.FactsAll.enumerate_1
import PyProof.FactsAll.tuple_2
import PyProof.ListMulRoad
import PyProof.ListRange
import PyProof.FactsAll.list_3
import PyProof.Rows.SortWalk
import PyProof.Rows.MinMaxN
import KE.KEqDict
import KE.KDictSum
import PyProof.WalksMore
import PyProof.Rows.SetFrom
import PyProof.SetRoads
import PyProof.FactsAll.set_1
import KE.KItemsList
import KE.KSortTup
import KE.KLam
import PyProof.FactsAll.dict_1
import PyProof.StrBlockH
import PyProof.StrLawsTight
import PyProof.StrLawsOccR
import PyProof.StrLawsJoin
import PySem.Challenge.RW_flips_k11_whole_times_itself
set_option Elab.async false
set_option linter.all false
set_option maxRecDepth 100000
set_option maxHeartbeats 0
-- CHANGE: your row's module here,as the last of these rows
namespace L2
open PySem PySem.Spec PyProof.Rows
abbrev Key:=Sum Int Str
def Br:Key->Value->Bool
 | .inl k,v=>Value.isInt k v
 | .inr x,v=>Value.isStrOf x v
def Jf (w:World):Key->Int
 | .inl k=>hashInt k
 | .inr x=>hashStr w x
theorem keyIs_shape:∀ {k:Key} {v:Value},Br k v=true->(∃ i t,k=Sum.inl i/\v=Value.int i t)\/(∃ x t,k=Sum.inr x/\v=Value.str x t)
 | .inl i,v,h=>by
  obtain ⟨t,e⟩:=Value.isInt_shape (k:=i) (v:=v) h
  exact .inl ⟨i,t,rfl,e⟩
 | .inr x,v,h=>by
  obtain ⟨t,e⟩:=Value.isStrOf_shape (x:=x) (v:=v) h
  exact .inr ⟨x,t,rfl,e⟩
theorem LH (i:Int) (t:Tok):Br (.inl i) (.int i t)=true:=by simp [Br,Value.isInt]
theorem OQ (x:Str) (t:Tok):Br (.inr x) (.str x t)=true:=by simp [Br,Value.isStrOf]
theorem Mv (a b:Int):decide ((Sum.inl a:Key)=Sum.inl b)=(a == b):=by
 by_cases e:a=b
 ·subst e;simp
 ·have h:¬ (Sum.inl a:Key)=Sum.inl b:=fun q=>e (Sum.inl.inj q)
  rw [decide_eq_false h]
  exact (beq_eq_false_iff_ne.mpr e).symm
theorem J6 (a b:Str):decide ((Sum.inr a:Key)=Sum.inr b)=decide (a=b):=by
 by_cases e:a=b
 ·subst e;simp
 ·have h:¬ (Sum.inr a:Key)=Sum.inr b:=fun q=>e (Sum.inr.inj q)
  rw [decide_eq_false h,decide_eq_false e]
theorem Kj (a:Int) (b:Str):decide ((Sum.inl a:Key)=Sum.inr b)=false:=decide_eq_false (fun q=>nomatch q)
theorem Nd (a:Str) (b:Int):decide ((Sum.inr a:Key)=Sum.inl b)=false:=decide_eq_false (fun q=>nomatch q)
def AY (prog:Program) (w:World):PySem.KeyKind prog w Key where
 is:=Br
 hash:=Jf w
 inj:=fun v a b ha hb=>by
  rcases keyIs_shape ha with ⟨i,t,rfl,rfl⟩ | ⟨x,t,rfl,rfl⟩
  ·rcases keyIs_shape hb with ⟨j,u,rfl,e⟩ | ⟨y,u,rfl,e⟩
   ·injection e with e1 _;rw [e1]
   ·exact nomatch e
  ·rcases keyIs_shape hb with ⟨j,u,rfl,e⟩ | ⟨y,u,rfl,e⟩
   ·exact nomatch e
   ·injection e with e1 _;rw [e1]
 byValue:=fun k v h=>by
  rcases keyIs_shape h with ⟨i,t,rfl,rfl⟩ | ⟨x,t,rfl,rfl⟩ <;> rfl
 pyHash:=fun hv h=>by
  rcases keyIs_shape hv with ⟨i,t,rfl,rfl⟩ | ⟨x,t,rfl,rfl⟩
  ·exact wpAny_pyHash_int h
  ·exact wpAny_pyHash_str h
 eqBool:=fun hu hv h=>by
  rcases keyIs_shape hu with ⟨i,t,rfl,rfl⟩ | ⟨x,t,rfl,rfl⟩
  ·rcases keyIs_shape hv with ⟨j,u,rfl,rfl⟩ | ⟨y,u,rfl,rfl⟩
   ·rw [Mv] at h;exact wpAny_eqBool_int h
   ·rw [Kj] at h;exact SeqAt.EqAt.int_str i t y u _ _ _ _ h
  ·rcases keyIs_shape hv with ⟨j,u,rfl,rfl⟩ | ⟨y,u,rfl,rfl⟩
   ·rw [Nd] at h;exact SeqAt.EqAt.str_int x t j u _ _ _ _ h
   ·rw [J6] at h;exact wpAny_eqBool_str h
 «strs»:=fun k x t v h=>by
  rcases keyIs_shape h with ⟨i,u,rfl,e⟩ | ⟨y,u,rfl,e⟩
  ·exact nomatch e
  ·injection e with e1 _
   subst e1
   cases v <;> rfl
theorem FJ (prog:Program) (w:World) (i:Int) (t:Tok):(AY prog w).is (.inl i) (.int i t)=true:=LH i t
theorem Lv (prog:Program) (w:World) (x:Str) (t:Tok):(AY prog w).is (.inr x) (.str x t)=true:=OQ x t
inductive V where
 | non | bl (b:Bool) | int (i:Int) | str (x:Str) | byt (b:Array UInt8) | flt (b:UInt64) | ref (a:Addr) | ty (n:String)
 deriving DecidableEq
def RelV:V->Value->Prop
 | .non,u=>u=Value.none
 | .bl b,u=>u=Value.bool b
 | .int i,u=>∃ t,u=Value.int i t
 | .str x,u=>∃ t,u=Value.str x t
 | .byt b,u=>∃ t,u=Value.bytes b t
 | .flt b,u=>∃ t,u=Value.float b t
 | .ref a,u=>u=Value.ref a
 | .ty n,u=>u=Value.type n
abbrev Vals:List V->List Value->Prop:=Paired RelV
theorem Vals.length {xs:List V} {us:List Value} (r:Vals xs us):xs.length=us.length:=Paired.length r
theorem Vals.get:∀ {xs:List V} {us:List Value} {i:Nat} {x:V},Vals xs us->xs[i]? = some x->∃ u,us[i]? = some u/\RelV x u
 | _,_,_,_,.nil,e=>by simp at e
 | _,_,0,_,.cons r _,e=>by simp at e;subst e;exact ⟨_,rfl,r⟩
 | _,_,i+1,x,.cons _ t,e=>by
  obtain ⟨u,h1,h2⟩:=Vals.get (i:=i) (x:=x) t (by simpa using e)
  exact ⟨u,by simpa using h1,h2⟩
theorem Vals.set {x:V} {u:Value} (r:RelV x u):∀ {xs:List V} {us:List Value} (i:Nat),Vals xs us->Vals (xs.set i x) (us.set i u)
 | _,_,_,.nil=>.nil
 | _,_,0,.cons _ t=>.cons r t
 | _,_,i+1,.cons q t=>.cons q (Vals.set r i t)
theorem Vals.append:∀ {xs ys:List V} {us ws:List Value},Vals xs us->Vals ys ws->Vals (xs++ys) (us++ws)
 | _,_,_,_,.nil,s=>s
 | _,_,_,_,.cons r t,s=>.cons r (Vals.append t s)
theorem Vals.take:∀ {xs:List V} {us:List Value} (n:Nat),Vals xs us->Vals (xs.take n) (us.take n)
 | _,_,0,_=>.nil
 | _,_,_+1,.nil=>.nil
 | _,_,n+1,.cons r t=>.cons r (Vals.take n t)
theorem Vals.drop:∀ {xs:List V} {us:List Value} (n:Nat),Vals xs us->Vals (xs.drop n) (us.drop n)
 | _,_,0,r=>r
 | _,_,_+1,.nil=>.nil
 | _,_,n+1,.cons _ t=>Vals.drop n t
def RelO:Option V->Option Value->Prop
 | some v,some u=>RelV v u
 | none,none=>True
 | _,_=>False
def KV {κ:Type}:List (κ × V)->List (κ × Value)->Prop:=Paired fun (p:κ × V) (q:κ × Value)=>p.1=q.1/\RelV p.2 q.2
def kV:Key->V
 | .inl i=>.int i
 | .inr x=>.str x
inductive HO where
 | lst (xs:List V)
 | tup (xs:List V)
 | dK (kvs:List (Key × V)) | dT (kvs:List (List Key × V))
 | set (S:Int->Bool) (n:Nat)
 | ins (C dx:Addr) (fs:List (Str × V))
 | own (x:Addr)
 | xd (fs:List (Str × V))
 | met (f x:Addr)
 | rng (lo hi:Int)
 | frz (o:Obj) (u:HO)
 | tbl (ps:Array Value)
 | ext (φ:Heap->Prop)
abbrev Hp:=Addr->Option HO
def upd (H:Hp) (a:Addr) (o:HO):Hp:=fun b=>if b=a then some o else H b
theorem AD {H:Hp} {a:Addr} {o:HO}:upd H a o a=some o:=by unfold upd;rw [if_pos rfl]
theorem AG {H:Hp} {a b:Addr} {o:HO} (h:b≠a):upd H a o b=H b:=by unfold upd;rw [if_neg h]
theorem EN {H:Hp} {a b:Addr} {o u:HO} (h:H a=some o) (h':H b=some u) (d:o≠u):a≠b:=by
 intro e;subst e;rw [h] at h';exact d (Option.some.inj h')
theorem BG {H:Hp} {a b:Addr} {o:HO} (h:H a=some o) (h':H b=none):a≠b:=by
 intro e;subst e;rw [h] at h';cases h'
def IsTupN (h:Heap) (a:Addr) (items:Array Value):Prop:=∃ o,h.get? a=some o/\o.cls=.type "tuple" /\ (∃ n,o.data=.seq items n)/\o.dict=none
theorem IsTupN.tup {h:Heap} {a:Addr} {items:Array Value} (x:IsTupN h a items):PyProof.Rows.IsTup h a items:=by
 obtain ⟨o,e,c,d,_⟩:=x
 exact ⟨o,e,c,d⟩
theorem IsTupN.new (h:Heap) (items:Array Value):IsTupN (h.push { cls:=.type "tuple",data:=.seq items }) h.objs.size items:=⟨_,Heap.get?_push_size _ rfl,rfl,⟨_,rfl⟩,rfl⟩
section
variable (P:Program) (w:World)
def ObjOk (H:Hp) (h:Heap) (a:Addr):HO->Prop
 | .lst xs=>xs.length<=sizeLine/\∃ (its:List Value) (n:Nat),Vals xs its/\h.get? a=some { cls:=.type "list",data:=.seq its.toArray n }
 | .tup xs=>xs.length<=sizeLine/\∃ its:List Value,Vals xs its/\IsTupN h a its.toArray
 | .dK kvs=>kvs.length<=sizeLine/\(a == sysModules)=false/\∃ vs,KV kvs vs/\h.DictOf (AY P w) a vs
 | .dT kvs=>kvs.length<=sizeLine/\(a == sysModules)=false/\∃ xs:List (List Key × Addr × Value),
  Paired (fun (p:List Key × V) (q:List Key × Addr × Value)=>p.1=q.1/\H q.2.1=some (.tup (p.1.map kV))/\RelV p.2 q.2.2) kvs xs /\
  ∃ o es ep,h.get? a=some o/\o.ExactDict/\o.data=.dict es ep/\es.toList=xs.map (entryOfKey (tupleKind (AY P w)))/\(xs.map (·.1)).Nodup
 | .set S n=>h.SetOf (intKind P w) a S n
 | .ins C dx fs=>H dx=some (.own a)/\fs.length<=1000/\dx≠a/\h.get? a=some (PySem.W.instObj C dx) /\
  ∃ mA,h.Ns1 dx mA/\(∀ f,RelO (fs.lookup f) (mA f))/\PySem.Within mA (fs.map (·.1))
 | .own _=>∃ o,h.get? a=some o
 | .xd fs=>∃ mA,h.Ns1 a mA/\∀ f,RelO (fs.lookup f) (mA f)
 | .rng lo hi=>∃ t u v,h.get? a=some { cls:=.type "range",data:=.fields #[.int lo t,.int hi u,.int 1 v] }
 | .frz o u=>h.get? a=some o/\ObjOk H h a u
 | .tbl ps=>h.get? a=some { cls:=.none,data:=.fields ps }
 | .met f x=>h.get? a=some (PySem.W.methodObj (.ref f) (.ref x))
 | .ext φ=>φ h/\(∃ o,h.get? a=some o)/\∀ h1 h2:Heap,φ h1->(∀ o,h1.get? a=some o->h2.get? a=some o)->φ h2
def HOk (H:Hp) (h:Heap):Prop:=∀ a o,H a=some o->ObjOk P w H h a o
end
section
variable {P:Program} {w:World} {H H':Hp} {h h':Heap} {a:Addr} {o:HO}
theorem ObjOk.lt (x:ObjOk P w H h a o):a < h.objs.size:=by
 cases o with
 | lst xs=>obtain ⟨_,_,_,_,e⟩:=x;exact Heap.lt_size e
 | tup xs=>obtain ⟨_,_,_,p⟩:=x;exact p.tup.lt
 | dK kvs=>obtain ⟨_,_,_,_,o,_,_,e,_⟩:=x;exact Heap.lt_size e
 | dT kvs=>obtain ⟨_,_,_,_,o,_,_,e,_⟩:=x;exact Heap.lt_size e
 | set S n=>obtain ⟨o,_,_,_,e,_⟩:=x;exact Heap.lt_size e
 | ins C dx fs=>obtain ⟨_,_,_,e,_⟩:=x;exact Heap.lt_size e
 | own y=>obtain ⟨_,e⟩:=x;exact Heap.lt_size e
 | xd fs=>obtain ⟨_,⟨_,_,_,e,_⟩,_⟩:=x;exact Heap.lt_size e
 | rng lo hi=>obtain ⟨_,_,_,e⟩:=x;exact Heap.lt_size e
 | frz ob u=>obtain ⟨e,_⟩:=x;exact Heap.lt_size e
 | tbl ps=>exact Heap.lt_size (show h.get? a=some _ from x)
 | met f y=>exact Heap.lt_size (show h.get? a=some _ from x)
 | ext φ=>obtain ⟨_,⟨_,e⟩,_⟩:=x;exact Heap.lt_size e
theorem Paired.mapP {α β:Type} {F G:α->β->Prop}:∀ {l₁:List α} {l₂:List β},Paired F l₁ l₂->(∀ a b,F a b->G a b)->Paired G l₁ l₂
 | _,_,.nil,_=>.nil
 | _,_,.cons r t,f=>.cons (f _ _ r) (Paired.mapP t f)
theorem ObjOk.stay (x:ObjOk P w H h a o) (k:∀ b u,(b=a\/H b=some (.own a))->h.get? b=some u->h'.get? b=some u)
 (ho:∀ b,H b=some (.own a)->H' b=some (.own a)) (ht:∀ b xs,H b=some (.tup xs)->H' b=some (.tup xs)):ObjOk P w H' h' a o:=by
 induction o with
 | lst xs=>obtain ⟨z,its,n,r,e⟩:=x;exact ⟨z,its,n,r,k _ _ (.inl rfl) e⟩
 | tup xs=>obtain ⟨z,its,r,ob,e,c⟩:=x;exact ⟨z,its,r,ob,k _ _ (.inl rfl) e,c⟩
 | dK kvs=>obtain ⟨z,y,vs,r,ob,es,ep,e,c⟩:=x;exact ⟨z,y,vs,r,ob,es,ep,k _ _ (.inl rfl) e,c⟩
 | dT kvs =>
  obtain ⟨z,y,xs,r,ob,es,ep,e,c⟩:=x
  exact ⟨z,y,xs,Paired.mapP r fun p q z=>⟨z.1,ht _ _ z.2.1,z.2.2⟩,ob,es,ep,k _ _ (.inl rfl) e,c⟩
 | set S n=>obtain ⟨ob,es,ep,t,e,c⟩:=x;exact ⟨ob,es,ep,t,k _ _ (.inl rfl) e,c⟩
 | ins C dx fs =>
  obtain ⟨d,z,ne,e,mA,⟨od,es,ep,e2,c⟩,r⟩:=x
  exact ⟨ho _ d,z,ne,k _ _ (.inl rfl) e,mA,⟨od,es,ep,k _ _ (.inr d) e2,c⟩,r⟩
 | own y=>obtain ⟨ob,e⟩:=x;exact ⟨ob,k _ _ (.inl rfl) e⟩
 | xd fs=>obtain ⟨mA,⟨od,es,ep,e,c⟩,r⟩:=x;exact ⟨mA,⟨od,es,ep,k _ _ (.inl rfl) e,c⟩,r⟩
 | rng lo hi=>obtain ⟨t,u,v,e⟩:=x;exact ⟨t,u,v,k _ _ (.inl rfl) e⟩
 | frz ob u ih=>obtain ⟨e,q⟩:=x;exact ⟨k _ _ (.inl rfl) e,ih q⟩
 | tbl ps =>
  have e:h.get? a=some { cls:=.none,data:=.fields ps }:=x
  show h'.get? a=some { cls:=.none,data:=.fields ps }
  exact k a _ (.inl rfl) e
 | met f y =>
  have e:h.get? a=some (PySem.W.methodObj (.ref f) (.ref y)):=x
  show h'.get? a=some (PySem.W.methodObj (.ref f) (.ref y))
  exact k a _ (.inl rfl) e
 | ext φ=>obtain ⟨p,⟨o,e⟩,st⟩:=x;exact ⟨st _ _ p fun o q=>k _ _ (.inl rfl) q,⟨o,k _ _ (.inl rfl) e⟩,st⟩
theorem HOk.lt (x:HOk P w H h) (e:H a=some o):a < h.objs.size:=(x a o e).lt
theorem HOk.fresh (x:HOk P w H h) (e:h.objs.size<=a):H a=none:=by
 cases q:H a with
 | none=>rfl
 | some u=>exact absurd (Nat.lt_of_lt_of_le (x.lt q) e) (Nat.lt_irrefl _)
theorem HOk.kept (x:HOk P w H h) (k:∀ b u,h.get? b=some u->h'.get? b=some u):HOk P w H h':=fun a o e =>
 (x a o e).stay (fun b u _ q=>k b u q) (fun _ q=>q) fun _ _ q=>q
theorem HOk.laid (x:HOk P w H h) (k:∀ b u,h.get? b=some u->h'.get? b=some u) (hp:h.objs.size<=a) (new:ObjOk P w (upd H a o) h' a o):HOk P w (upd H a o) h':=fun b u e=>by
 have hn:=x.fresh hp
 by_cases hb:b=a
 ·subst hb;rw [AD] at e;cases e;exact new
 ·rw [AG hb] at e
  exact (x b u e).stay (fun c v _ q=>k c v q) (fun c q=>by rw [AG (BG q hn)];exact q) fun c xs q=>by rw [AG (BG q hn)];exact q
end
def Rd (H:Hp) (a:Addr) (u:HO):Prop:=H a=some u\/∃ o,H a=some (.frz o u)
theorem Rd.ok {P:Program} {w:World} {H:Hp} {h:Heap} {a:Addr} {u:HO} (r:Rd H a u) (x:HOk P w H h):ObjOk P w H h a u:=by
 rcases r with r | ⟨o,r⟩
 ·exact x a u r
 ·obtain ⟨_,q⟩:=x a _ r
  exact q
def Mut:Option HO->Prop
 | some (.lst _)=>True
 | some (.dK _)=>True
 | some (.dT _)=>True
 | some (.set _ _)=>True
 | some (.ins _ _ _)=>True
 | some (.ext _)=>True
 | _=>False
section
variable {P:Program} {w:World} {H:Hp} {h h':Heap} {x e:Addr} {o':HO}
theorem HOk.write (ok:HOk P w H h) (mu:Mut (H x)) (he:e=x\/H e=some (.own x)) (k:∀ b u,b≠e->h.get? b=some u->h'.get? b=some u) (heo:∃ u,h'.get? e=some u)
 (new:ObjOk P w (upd H x o') h' x o'):HOk P w (upd H x o') h':=fun b u q=>by
 have nown:∀ c y,H c=some (.own y)->c≠x:=fun c y r z=>by subst z;rw [r] at mu;exact mu
 have ntup:∀ c xs,H c=some (.tup xs)->c≠x:=fun c xs r z=>by subst z;rw [r] at mu;exact mu
 by_cases hb:b=x
 ·subst hb;rw [AD] at q;cases q;exact new
 ·rw [AG hb] at q
  by_cases hbe:b=e
  ·have q':H b=some (.own x):=by
    rcases he with z | z
    ·exact absurd (hbe.trans z) hb
    ·rw [hbe];exact z
   rw [q] at q';cases q'
   obtain ⟨v,hv⟩:=heo
   exact ⟨v,by rw [hbe];exact hv⟩
  ·refine (ok b u q).stay (fun c v hc r=>k c v ?_ r) (fun c r=>by rw [AG (nown c b r)];exact r) fun c xs r=>by rw [AG (ntup c xs r)];exact r
   rcases hc with rfl | hc
   ·exact hbe
   ·rintro rfl
    rcases he with z | z
    ·exact nown c b hc z
    ·rw [hc] at z;cases z;exact hb rfl
end
structure Un (fs ex:List Addr) (H H':Hp) (h h':Heap):Prop where
 keep:∀ b o,h.get? b=some o->H b=none->b∉fs->b∉ex->h'.get? b=some o
 slot:∀ b o,h.get? b=some o->H b=none->b∈fs->b∉ex->∃ sl,h'.get? b=some { o with slots:=sl }
 free:∀ b o,h.get? b=some o->H b=none->b∉ex->H' b=none
 there:∀ b o,h.get? b=some o->b∉ex->∃ o',h'.get? b=some o'
 tups:∀ b xs,H b=some (.tup xs)->H' b=some (.tup xs)
 frzs:∀ b o u,H b=some (.frz o u)->H' b=some (.frz o u)
 tbls:∀ b ps,H b=some (.tbl ps)->∃ more,H' b=some (.tbl (ps++more))
section
variable {fs fs' ex ex':List Addr} {H H1 H2:Hp} {h h1 h2 h':Heap} {a x e:Addr} {o:HO}
theorem Un.any (u:Un fs ex H H1 h h1) {b:Addr} {ob:Obj} (q:h.get? b=some ob) (n:H b=none) (hx:b∉ex):∃ sl,h1.get? b=some { ob with slots:=sl }:=by
 by_cases hb:b∈fs
 ·exact u.slot b ob q n hb hx
 ·exact ⟨ob.slots,u.keep b ob q n hb hx⟩
theorem Un.kept (k:∀ b u,h.get? b=some u->h'.get? b=some u):Un fs ex H H h h' :=
 ⟨fun b ob q _ _ _=>k b ob q,fun b ob q _ _ _=>⟨ob.slots,k b ob q⟩,fun _ _ _ n _=>n,fun b ob q _=>⟨ob,k b ob q⟩,fun _ _ q=>q,fun _ _ _ q=>q,fun _ ps q=>⟨#[],by rw [q];simp⟩⟩
theorem Un.refl:Un fs ex H H h h:=Un.kept fun _ _ q=>q
theorem Un.laid (k:∀ b u,h.get? b=some u->h'.get? b=some u) (hp:h.objs.size<=a) (hn:H a=none):Un fs ex H (upd H a o) h h' where
 keep:=fun b u q _ _ _=>k b u q
 slot:=fun b u q _ _ _=>⟨u.slots,k b u q⟩
 free:=fun b u q n _=>by rw [AG (Nat.ne_of_lt (Nat.lt_of_lt_of_le (Heap.lt_size q) hp))];exact n
 there:=fun b u q _=>⟨u,k b u q⟩
 tups:=fun b xs q=>by rw [AG (BG q hn)];exact q
 frzs:=fun b u xs q=>by rw [AG (BG q hn)];exact q
 tbls:=fun b ps q=>⟨#[],by rw [AG (BG q hn),q];simp⟩
theorem Un.write (mu:Mut (H x)) (he:e=x\/H e=some (.own x)) (k:∀ b u,b≠e->h.get? b=some u->h'.get? b=some u) (heo:∃ u,h'.get? e=some u):Un fs ex H (upd H x o) h h':=by
 have hx:∀ b,H b=none->b≠x:=fun b n z=>by subst z;rw [n] at mu;exact mu
 have hb:∀ b,H b=none->b≠e:=fun b n z=>by
  subst z
  rcases he with r | r
  ·exact hx b n r
  ·rw [n] at r;cases r
 have hm:∀ b u,H b=some u->¬ Mut (some u)->b≠x:=fun b u q nm z=>by subst z;rw [q] at mu;exact nm mu
 refine ⟨fun b u q n _ _=>k b u (hb b n) q,fun b u q n _ _=>⟨u.slots,k b u (hb b n) q⟩,fun b u q n _=>by rw [AG (hx b n)];exact n,fun b u q _=>?_,
  fun b xs q=>by rw [AG (hm b _ q fun z=>z)];exact q,fun b u xs q=>by rw [AG (hm b _ q fun z=>z)];exact q,fun b ps q=>⟨#[],by rw [AG (hm b _ q fun z=>z),q];simp⟩⟩
 by_cases hbe:b=e
 ·subst hbe;exact heo
 ·exact ⟨u,k b u hbe q⟩
end
def trk (h:Heap) (H:Hp):List Addr:=(List.range h.objs.size).filter fun a=>(H a).isSome
def Bq (h:Heap) (H:Hp):Heap:=PySem.W.hideAll h (trk h H)
theorem MV (h:Heap) (H:Hp):(Bq h H).objs.size=h.objs.size:=PySem.W.hideAll_size _ _
theorem Ju {h:Heap} {H:Hp} {b:Addr} {o:Obj} (e:h.get? b=some o) (n:H b=none):(Bq h H).get? b=some o :=
 PySem.W.hideAll_get _ e fun hm=>by
  have q:(H b).isSome=true:=(List.mem_filter.mp hm).2
  rw [n] at q;simp at q
theorem LU {h:Heap} {H:Hp} {b:Addr} {o:Obj} (e:(Bq h H).get? b=some o):h.get? b=some o/\H b=none:=by
 have e':h.get? b=some o:=PySem.W.of_hideAll (trk h H) e
 refine ⟨e',?_⟩
 cases q:H b with
 | none=>rfl
 | some x =>
  have hm:b∈trk h H:=List.mem_filter.mpr ⟨List.mem_range.mpr (Heap.lt_size e'),by simp [q]⟩
  have z:(Bq h H).get? b=none:=PySem.W.hideAll_none (trk h H) hm
  rw [z] at e;cases e
def Nv (g h:Heap) (L:Addr):List (Addr × Obj):=(List.range h.objs.size).filterMap fun a=>if a=L\/(g.get? a).isSome=true then none else (h.get? a).map fun o=>(a,o)
def rest (g h:Heap) (L d:Addr):List (Addr × Obj):=(Nv g h L).filter fun p=>decide (p.1≠d)
structure Mod (K:W.Frag) (mg:Str->Option Value) (base:Heap):Prop where
 kin:K.In base
 glob:base.Ns mainGlobals mg
 blt:∃ mb,base.Ns builtinsNs mb/\∀ x:Str,x ≠ "__name__" -> mb x=bootBuiltins x
 nolimit:base.NoLimit
structure Cx where
 prog:Program
 w:World
 K:W.Frag
 mg:Str->Option Value
 base:Heap
 A:Around
 N:List Str
 s₀:Shared
 H₀:Hp
 env:Env
 outer:List Env
 stack:List Env
 ex:List Addr
 fn:Str->Bool
 calm:Bool
 pn:List (Addr × Obj)
 xe:Value->Shared->Prop
def frs (l:List Env):List Addr:=l.filterMap (·.frame)
abbrev Cx.fs (X:Cx):List Addr:=frs X.outer
def Vis (sc:Scope) (x:Str):Prop:=sc.names.lookup x=some .local\/sc.names.lookup x=some .cell\/sc.names.lookup x=some .free
def Loc (sc:Scope) (x:Str):Prop:=sc.names.lookup x=some .local\/sc.names.lookup x=some .cell
def Mj (env:Env) (h:Heap) (m:Str->Option Value) (x:Str) (u:Value):Prop :=
 (env.kindOf x=some .local/\m x=some u)\/((env.kindOf x=some .cell\/env.kindOf x=some .free)/\∃ c,env.cells.lookup x=some c/\h.IsCell c (some u))
structure Cx.Ok (X:Cx):Prop where
 mod:Mod X.K X.mg X.base
 kind:X.env.scope.kind=.function
 glob:X.env.globals=mainGlobals
 blt:X.env.builtins=builtinsNs
 above:X.s₀.heap.objs.size<=X.env.locals
 inj:∀ x y c,X.env.cells.lookup x=some c->X.env.cells.lookup y=some c->x=y
 has:∀ x,(X.env.kindOf x=some .cell\/X.env.kindOf x=some .free)->∃ c,X.env.cells.lookup x=some c
 cab:∀ x c,X.fn x=true->X.env.cells.lookup x=some c->X.s₀.heap.objs.size<=c
 hd:X.calm=true->X.A.handled=none
 frames:X.A.frames=some X.stack
 stk:X.stack=X.outer\/(X.stack=X.env::X.outer/\X.env.frame=some X.env.locals)
 exf:∀ b∈X.ex,b≠X.env.locals/\∀ x c,X.env.cells.lookup x=some c->c≠b
 bs:∀ b o,X.base.get? b=some o->X.s₀.heap.get? b=some o/\X.H₀ b=none
 bsz:X.base.objs.size<=X.s₀.heap.objs.size
 noex:∀ b o,X.base.get? b=some o->b∉X.ex
 exfs:∀ b∈X.ex,b∉X.fs
 funs:X.s₀.heap.FunFrames X.base X.outer
 frf:∀ b∈X.fs,X.H₀ b=none
structure Inv (X:Cx) (pins:List (Addr × Obj)) (σ:List (Option V)) (H:Hp) (s:Shared):Prop where
 ok:X.Ok
 os:s.os=X.s₀.os
 bare:AllBare s.gens
 base:Un X.fs X.ex X.H₀ H X.s₀.heap s.heap
 loc:∃ m,s.heap.Ns X.env.locals m/\∀ (i:Nat) (x:Str) (v:V),X.N[i]? = some x->σ[i]? = some (some v)->Vis X.env.scope x->∃ u,RelV v u/\Mj X.env s.heap m x u
 cell:∀ x c,X.env.cells.lookup x=some c->∃ v,s.heap.IsCell c v
 free:H X.env.locals=none
 freeC:∀ x c,X.env.cells.lookup x=some c->H c=none
 pin:∀ p∈X.pn++pins,s.heap.get? p.1=some p.2/\H p.1=none/\p.1≠X.env.locals/\p.1∉X.fs/\∀ v,p.2.data≠.cell v
 hok:HOk X.prog X.w H s.heap
 len:σ.length=X.N.length
section
variable {X:Cx} {pins:List (Addr × Obj)} {σ:List (Option V)} {H H':Hp} {s:Shared} {h':Heap}
theorem Cx.Ok.nofr (ok:X.Ok) {b:Addr} {o:Obj} (e:X.base.get? b=some o):b∉X.fs:=fun hb=>by
 have:=(ok.funs.mem hb).1
 rw [e] at this;cases this
theorem Inv.bs (I:Inv X pins σ H s):∀ b o,X.base.get? b=some o->s.heap.get? b=some o/\H b=none:=fun b o e =>
 ⟨I.base.keep b o (I.ok.bs b o e).1 (I.ok.bs b o e).2 (I.ok.nofr e) (I.ok.noex b o e),I.base.free b o (I.ok.bs b o e).1 (I.ok.bs b o e).2 (I.ok.noex b o e)⟩
theorem Inv.bk (I:Inv X pins σ H s):∀ b o,X.base.get? b=some o->s.heap.get? b=some o:=fun b o e=>(I.bs b o e).1
theorem Inv.mod (I:Inv X pins σ H s):Mod X.K X.mg X.base:=I.ok.mod
theorem Inv.kIn (I:Inv X pins σ H s):X.K.In s.heap:=I.ok.mod.kin.keeps I.bk
theorem Inv.lt (I:Inv X pins σ H s):X.env.locals < s.heap.objs.size:=let ⟨_,hn,_⟩:=I.loc;hn.lt
theorem Inv.sz (I:Inv X pins σ H s):X.s₀.heap.objs.size<=s.heap.objs.size:=Nat.le_trans I.ok.above (Nat.le_of_lt I.lt)
theorem Inv.nofs (I:Inv X pins σ H s) {a:Addr} (h:s.heap.objs.size<=a):a∉X.fs:=fun hb=>by
 obtain ⟨_,o,ho,_⟩:=I.ok.funs.mem hb
 exact absurd (Nat.lt_of_lt_of_le (Heap.lt_size ho) (Nat.le_trans I.sz h)) (Nat.lt_irrefl _)
theorem Inv.cne (I:Inv X pins σ H s):∀ x c,X.env.cells.lookup x=some c->c≠X.env.locals:=fun x c e z=>by
 obtain ⟨v,o,ho,hd⟩:=I.cell x c e
 obtain ⟨m,⟨o',es,ep,ho',hd',_⟩,_⟩:=I.loc
 rw [z,ho'] at ho;cases ho;rw [hd'] at hd;cases hd
theorem Inv.funs (I:Inv X pins σ H s):s.heap.FunFrames X.base X.outer:=by
 have all:∀ (l:List Env),(∀ b∈frs l,b∈X.fs)->X.s₀.heap.FunFrames X.base l->s.heap.FunFrames X.base l:=by
  intro l
  induction l with
  | nil=>intro _ _;trivial
  | cons env r ih =>
   intro hs hl
   obtain ⟨hk,⟨L,o,hf,hn,ho,hd⟩,hr⟩:=hl
   have hL:L∈X.fs:=hs L (by unfold frs;rw [List.filterMap_cons,hf];exact List.mem_cons_self)
   obtain ⟨sl,e⟩:=I.base.slot L o ho (I.ok.frf L hL) hL fun z=>I.ok.exfs L z hL
   exact ⟨hk,⟨L,_,hf,hn,e,hd⟩,ih (fun b hb=>hs b (by unfold frs;rw [List.filterMap_cons,hf];exact List.mem_cons_of_mem _ hb)) hr⟩
 exact all X.outer (fun _ hb=>hb) I.ok.funs
theorem Inv.stack (I:Inv X pins σ H s):s.heap.FunFrames X.base X.stack:=by
 rcases I.ok.stk with e | ⟨e,hf⟩
 ·rw [e];exact I.funs
 ·rw [e]
  obtain ⟨m,hn,_⟩:=I.loc
  refine .cons (by rw [I.ok.kind];decide) hf hn ?_ I.funs
  exact Heap.get?_none_of_le (Nat.le_trans I.ok.bsz I.ok.above)
theorem Inv.stkSub (I:Inv X pins σ H s):∀ b∈frs X.stack,b∈X.env.locals::X.fs:=fun b hb=>by
 rcases I.ok.stk with e | ⟨e,hf⟩
 ·rw [e] at hb;exact List.mem_cons_of_mem _ hb
 ·rw [e] at hb
  unfold frs at hb
  rw [List.filterMap_cons,hf] at hb
  exact hb
theorem Inv.stkFree (I:Inv X pins σ H s):∀ b∈frs X.stack,H b=none:=fun b hb=>by
 rcases List.mem_cons.mp (I.stkSub b hb) with e | hb
 ·rw [e];exact I.free
 ·obtain ⟨_,o,ho,_⟩:=I.ok.funs.mem hb
  exact I.base.free b o ho (I.ok.frf b hb) fun z=>I.ok.exfs b z hb
theorem Inv.step {g':Array GenState} {t':Nat} {d':Drawn} {ch:List Addr} (I:Inv X pins σ H s)
 (hch:∀ b∈ch,(b∈X.ex\/X.s₀.heap.objs.size<=b)/\b≠X.env.locals/\(∀ x c,X.env.cells.lookup x=some c->c≠b)/\∀ p∈X.pn++pins,p.1≠b)
 (keep:∀ b o,b≠X.env.locals->b∉X.fs->b∉ch->s.heap.get? b=some o->H b=none->h'.get? b=some o)
 (slot:∀ b o,b≠X.env.locals->b∈X.fs->b∉ch->s.heap.get? b=some o->H b=none->∃ sl,h'.get? b=some { o with slots:=sl }) (free:∀ b o,b∉ch->s.heap.get? b=some o->H b=none->H' b=none)
 (there:∀ b o,b∉ch->s.heap.get? b=some o->∃ o',h'.get? b=some o')
 (tups:∀ b xs,H b=some (.tup xs)->H' b=some (.tup xs)) (frzs:∀ b o u,H b=some (.frz o u)->H' b=some (.frz o u)) (tbls:∀ b ps,H b=some (.tbl ps)->∃ more,H' b=some (.tbl (ps++more)))
 (ns:∀ m,s.heap.Ns X.env.locals m->h'.Ns X.env.locals m) (hok:HOk X.prog X.w H' h') (hg:AllBare g') :
 Inv X pins σ H' { s with heap:=h',gens:=g',drawn:=d',toks:=t' }:=by
 have neL:∀ b o,X.s₀.heap.get? b=some o->b≠X.env.locals:=fun b o e=>Nat.ne_of_lt (Nat.lt_of_lt_of_le (Heap.lt_size e) I.ok.above)
 have neC:∀ b o,X.s₀.heap.get? b=some o->b∉X.ex->b∉ch:=fun b o e hx hb=>by
  rcases (hch b hb).1 with z | z
  ·exact hx z
  ·exact absurd (Nat.lt_of_lt_of_le (Heap.lt_size e) z) (Nat.lt_irrefl _)
 have cellK:∀ x c,X.env.cells.lookup x=some c->∀ v,s.heap.IsCell c v->h'.IsCell c v:=fun x c e v ⟨o,ho,hd⟩=>by
  have nch:c∉ch:=fun z=>(hch c z).2.2.1 x c e rfl
  by_cases hc:c∈X.fs
  ·obtain ⟨sl,q⟩:=slot c o (I.cne x c e) hc nch ho (I.freeC x c e)
   exact ⟨_,q,hd⟩
  ·exact ⟨o,keep c o (I.cne x c e) hc nch ho (I.freeC x c e),hd⟩
 refine ⟨I.ok,I.os,hg,⟨fun b o e n hb hx=>?_,fun b o e n hb hx=>?_,fun b o e n hx=>?_,fun b o e hx=>?_,fun b xs e=>tups b xs (I.base.tups b xs e),fun b o xs e=>frzs b o xs (I.base.frzs b o xs e),fun b ps e=>?_⟩,?_,fun x c e=>?_,?_,fun x c e=>?_,fun p hp=>?_,hok,I.len⟩
 ·exact keep b o (neL b o e) hb (neC b o e hx) (I.base.keep b o e n hb hx) (I.base.free b o e n hx)
 ·obtain ⟨sl,e1⟩:=I.base.slot b o e n hb hx
  obtain ⟨sl',e2⟩:=slot b _ (neL b o e) hb (neC b o e hx) e1 (I.base.free b o e n hx)
  exact ⟨sl',e2⟩
 ·obtain ⟨o',e1⟩:=I.base.there b o e hx
  exact free b o' (neC b o e hx) e1 (I.base.free b o e n hx)
 ·obtain ⟨o',e1⟩:=I.base.there b o e hx
  exact there b o' (neC b o e hx) e1
 ·obtain ⟨m1,e1⟩:=I.base.tbls b ps e
  obtain ⟨m2,e2⟩:=tbls b _ e1
  exact ⟨m1++m2,by rw [e2,Array.append_assoc]⟩
 ·obtain ⟨m,hn,hl⟩:=I.loc
  refine ⟨m,ns m hn,fun i x v e1 e2 e3=>?_⟩
  obtain ⟨u,r,l⟩:=hl i x v e1 e2 e3
  refine ⟨u,r,?_⟩
  rcases l with l | ⟨k,c,e,z⟩
  ·exact .inl l
  ·exact .inr ⟨k,c,e,cellK x c e _ z⟩
 ·obtain ⟨v,z⟩:=I.cell x c e
  exact ⟨v,cellK x c e v z⟩
 ·obtain ⟨m,⟨o,_,_,ho,_⟩,_⟩:=I.loc
  exact free _ o (fun z=>(hch _ z).2.1 rfl) ho I.free
 ·obtain ⟨v,o,ho,hd⟩:=I.cell x c e
  exact free c o (fun z=>(hch c z).2.2.1 x c e rfl) ho (I.freeC x c e)
 ·obtain ⟨e,n,ne,nf,d⟩:=I.pin p hp
  have nch:p.1∉ch:=fun z=>(hch p.1 z).2.2.2 p hp rfl
  exact ⟨keep p.1 p.2 ne nf nch e n,free p.1 p.2 nch e n,ne,nf,d⟩
theorem Inv.un {t':Nat} (I:Inv X pins σ H s) (u:Un X.fs [] H H' s.heap h') (hok:HOk X.prog X.w H' h'):Inv X pins σ H' { s with heap:=h',toks:=t' }:=by
 obtain ⟨m,⟨o,es,ep,ho,r⟩,_⟩:=id I.loc
 obtain ⟨sl,hL⟩:=u.any ho I.free (by simp)
 exact I.step (g':=s.gens) (d':=s.drawn) (ch:=[]) (fun _ z=>nomatch z) (fun b o _ hb _ e n=>u.keep b o e n hb (by simp)) (fun b o _ hb _ e n=>u.slot b o e n hb (by simp)) (fun b o _ e n=>u.free b o e n (by simp)) (fun b o _ e=>u.there b o e (by simp)) u.tups u.frzs u.tbls (fun m' hm=>by
  obtain ⟨o',es',ep',ho',r'⟩:=hm
  rw [ho] at ho';cases ho'
  exact ⟨_,es',ep',hL,r'⟩) hok I.bare
theorem Inv.call {g':Array GenState} {t':Nat} {d':Drawn} {ch:List Addr} (I:Inv X pins σ H s) (u:Un (frs X.stack) ch H H' s.heap h') (hok:HOk X.prog X.w H' h') (hg:AllBare g')
 (hch:∀ b∈ch,(b∈X.ex\/X.s₀.heap.objs.size<=b)/\b≠X.env.locals/\(∀ x c,X.env.cells.lookup x=some c->c≠b)/\∀ p∈X.pn++pins,p.1≠b) :
 Inv X pins σ H' { s with heap:=h',gens:=g',drawn:=d',toks:=t' }:=by
 obtain ⟨m,⟨o,es,ep,ho,r⟩,_⟩:=id I.loc
 obtain ⟨sl,hL⟩:=u.any ho I.free fun z=>(hch _ z).2.1 rfl
 exact I.step (ch:=ch) hch (fun b o hL hb hc e n=>u.keep b o e n (fun z=>(List.mem_cons.mp (I.stkSub b z)).elim hL hb) hc) (fun b o _ _ hc e n=>u.any e n hc) (fun b o hc e n=>u.free b o e n hc) (fun b o hc e=>u.there b o e hc) u.tups u.frzs u.tbls (fun m' hm=>by
  obtain ⟨o',es',ep',ho',r'⟩:=hm
  rw [ho] at ho';cases ho'
  exact ⟨_,es',ep',hL,r'⟩) hok hg
theorem Inv.turned {t':Nat} {it:Addr} (I:Inv X pins σ H s) (k:∀ b o,b≠it->s.heap.get? b=some o->h'.get? b=some o) (hn:H it=none) (hL:it≠X.env.locals)
 (h1:it∈X.ex\/X.s₀.heap.objs.size<=it) (h2:∀ x c,X.env.cells.lookup x=some c->c≠it) (h3:∀ p∈X.pn++pins,p.1≠it):Inv X pins σ H { s with heap:=h',toks:=t' }:=by
 have nit:∀ b u,H b=some u->b≠it:=fun b u e z=>by rw [z,hn] at e;cases e
 refine I.step (g':=s.gens) (d':=s.drawn) (ch:=[it]) (fun b hb=>?_) (fun b o _ _ hc e _=>k b o (fun z=>hc (by simp [z])) e) (fun b o _ _ hc e _=>⟨o.slots,k b o (fun z=>hc (by simp [z])) e⟩) (fun _ _ _ _ n=>n)
  (fun b o hc e=>⟨o,k b o (fun z=>hc (by simp [z])) e⟩) (fun _ _ e=>e) (fun _ _ _ e=>e) (fun b ps e=>⟨#[],by rw [e];simp⟩) (fun m hm=>?_) (fun b u e=>?_) I.bare
 ·have e:b=it:=by simpa using hb
  subst e
  exact ⟨h1,hL,h2,h3⟩
 ·obtain ⟨o,es,ep,ho,r⟩:=hm
  exact ⟨o,es,ep,k _ o (Ne.symm hL) ho,r⟩
 ·refine (I.hok b u e).stay (fun c v hc q=>k c v ?_ q) (fun _ q=>q) fun _ _ q=>q
  rcases hc with z | z
  ·rw [z];exact nit b u e
  ·exact nit c _ z
theorem Inv.tok (I:Inv X pins σ H s) (t:Nat):Inv X pins σ H { s with toks:=t }:=I.un (h':=s.heap) (t':=t) Un.refl I.hok
theorem Inv.kept {t':Nat} (I:Inv X pins σ H s) (k:∀ b u,s.heap.get? b=some u->h'.get? b=some u):Inv X pins σ H { s with heap:=h',toks:=t' }:=I.un (Un.kept k) (I.hok.kept k)
theorem Inv.laid {a:Addr} {o:HO} {t':Nat} (I:Inv X pins σ H s) (k:∀ b u,s.heap.get? b=some u->h'.get? b=some u) (hp:s.heap.objs.size<=a) (new:ObjOk X.prog X.w (upd H a o) h' a o) :
 Inv X pins σ (upd H a o) { s with heap:=h',toks:=t' }:=I.un (Un.laid k hp (I.hok.fresh hp)) (I.hok.laid k hp new)
theorem Inv.write {x e:Addr} {o:HO} {t':Nat} (I:Inv X pins σ H s) (mu:Mut (H x)) (he:e=x\/H e=some (.own x)) (k:∀ b u,b≠e->s.heap.get? b=some u->h'.get? b=some u) (heo:∃ u,h'.get? e=some u)
 (new:ObjOk X.prog X.w (upd H x o) h' x o):Inv X pins σ (upd H x o) { s with heap:=h',toks:=t' }:=I.un (Un.write mu he k heo) (I.hok.write mu he k heo new)
theorem Inv.weak {σ':List (Option V)} (I:Inv X pins σ H s) (hl:σ'.length=σ.length) (w:∀ (i:Nat) v,σ'[i]? = some (some v)->σ[i]? = some (some v)):Inv X pins σ' H s :=
 ⟨I.ok,I.os,I.bare,I.base,let ⟨m,hn,hl'⟩:=I.loc;⟨m,hn,fun i x v e1 e2 e3=>hl' i x v e1 (w i v e2) e3⟩,I.cell,I.free,I.freeC,I.pin,I.hok,hl.trans I.len⟩
theorem Inv.pins_of {pins':List (Addr × Obj)} (I:Inv X pins σ H s) (h:∀ p∈pins',s.heap.get? p.1=some p.2/\H p.1=none/\p.1≠X.env.locals/\p.1∉X.fs/\∀ v,p.2.data≠.cell v):Inv X pins' σ H s :=
 ⟨I.ok,I.os,I.bare,I.base,I.loc,I.cell,I.free,I.freeC,fun p hp=>(List.mem_append.mp hp).elim (fun z=>I.pin p (List.mem_append_left _ z)) (h p),I.hok,I.len⟩
theorem GZ {N:List Str} (hN:N.Nodup) {i j:Nat} {x:Str} (a:N[i]? = some x) (b:N[j]? = some x):i=j:=by
 obtain ⟨h1,e1⟩:=List.getElem?_eq_some_iff.mp a
 obtain ⟨h2,e2⟩:=List.getElem?_eq_some_iff.mp b
 exact (List.getElem_inj hN).mp (e1.trans e2.symm)
theorem Hl {M:Model} {A:Around} {E:Value->Shared->Prop} {i:Nat} {x:Str} {v:V} {u:Value} {Q:Unit->Shared->Prop} (I:Inv X pins σ H s) (hN:X.N.Nodup) (hi:X.N[i]? = some x) (hx:Loc X.env.scope x) (r:RelV v u)
 (h:∀ s',Inv X pins (σ.set i (some v)) H s'->(∃ a,Heap.SameBut a s.heap s'.heap/\(a=X.env.locals\/X.env.cells.lookup x=some a))->Q () s') (hf:X.fn x=true\/X.env.scope.names.lookup x=some .local:=by first | exact .inl rfl | exact .inr rfl | assumption):wpAny M A (storeName X.env x u) Q E s:=by
 obtain ⟨m,hn,hl⟩:=id I.loc
 have hcls:(X.env.scope.kind == .class || (X.env.scope.kind == .module && X.env.locals != X.env.globals))=false:=by rw [I.ok.kind];rfl
 have hiσ:i < σ.length:=by rw [I.len];exact (List.getElem?_eq_some_iff.mp hi).1
 have cne:=I.cne
 have tracked:∀ {a:Addr} {h':Heap},(∃ o,s.heap.get? a=some o/\H a=none)->Heap.SameBut a s.heap h'->HOk X.prog X.w H h':=fun {a h'} ha hs b ob e=>by
  obtain ⟨_,_,hfree⟩:=ha
  refine (I.hok b ob e).stay (fun c w' hc q=>(hs.2 c ?_).trans q) (fun _ q=>q) fun _ _ q=>q
  rintro rfl
  rcases hc with rfl | hc
  ·rw [hfree] at e;cases e
  ·rw [hfree] at hc;cases hc
 rcases hx with hk | hk
 ·refine wpAny_storeName_local hk hn (fun h' hn' hs=>?_) hcls
  obtain ⟨oL,_,_,hoL,_⟩:=id hn
  refine h _ ⟨I.ok,I.os,I.bare,⟨fun b o e n hb hx=>?_,fun b o e n hb hx=>?_,I.base.free,fun b o e hx=>?_,I.base.tups,I.base.frzs,I.base.tbls⟩,⟨_,hn',fun j y v' e1 e2 e3=>?_⟩,fun y c e=>?_,I.free,I.freeC,fun p hp=>?_,tracked ⟨oL,hoL,I.free⟩ hs,by simpa using I.len⟩ ⟨_,hs,.inl rfl⟩
  ·exact (hs.2 b (Nat.ne_of_lt (Nat.lt_of_lt_of_le (Heap.lt_size e) I.ok.above))).trans (I.base.keep b o e n hb hx)
  ·obtain ⟨sl,e1⟩:=I.base.slot b o e n hb hx
   exact ⟨sl,(hs.2 b (Nat.ne_of_lt (Nat.lt_of_lt_of_le (Heap.lt_size e) I.ok.above))).trans e1⟩
  ·obtain ⟨o',e1⟩:=I.base.there b o e hx
   exact ⟨o',(hs.2 b (Nat.ne_of_lt (Nat.lt_of_lt_of_le (Heap.lt_size e) I.ok.above))).trans e1⟩
  ·by_cases hj:j=i
   ·subst hj
    rw [hi] at e1;cases e1
    rw [List.getElem?_set_self hiσ] at e2
    cases e2
    exact ⟨u,r,.inl ⟨hk,by simp⟩⟩
   ·rw [List.getElem?_set_ne (Ne.symm hj)] at e2
    obtain ⟨u',r',q⟩:=hl j y v' e1 e2 e3
    refine ⟨u',r',?_⟩
    rcases q with ⟨k,e⟩ | ⟨k,c,e,z⟩
    ·refine .inl ⟨k,?_⟩
     have:y≠x:=fun e=>hj (GZ hN e1 (e ▸ hi))
     simp [this,e]
    ·exact .inr ⟨k,c,e,z.sameBut hs (cne y c e)⟩
  ·obtain ⟨w',z⟩:=I.cell y c e
   exact ⟨w',z.sameBut hs (cne y c e)⟩
  ·obtain ⟨e,n,ne,nf,d⟩:=I.pin p hp
   exact ⟨(hs.2 p.1 ne).trans e,n,ne,nf,d⟩
 ·have hfn:X.fn x=true:=by
   rcases hf with z | z
   ·exact z
   ·rw [z] at hk;cases hk
  obtain ⟨c,hc⟩:=I.ok.has x (.inl hk)
  obtain ⟨w',z⟩:=I.cell x c hc
  refine wpAny_storeName_cell I.ok.kind hk hc z (fun h' hc' hs=>?_)
  obtain ⟨oc,hoc,hocd⟩:=id z
  refine h { s with heap:=h' } ⟨I.ok,I.os,I.bare,⟨fun b o e n hb hx=>?_,fun b o e n hb hx=>?_,I.base.free,fun b o e hx=>?_,I.base.tups,I.base.frzs,I.base.tbls⟩,⟨m,hn.sameBut hs (Ne.symm (cne x c hc)),fun j y v' e1 e2 e3=>?_⟩,fun y c' e=>?_,I.free,I.freeC,fun p hp=>?_,tracked ⟨oc,hoc,I.freeC x c hc⟩ hs,by simpa using I.len⟩ ⟨c,hs,.inr hc⟩
  ·exact (hs.2 b (Nat.ne_of_lt (Nat.lt_of_lt_of_le (Heap.lt_size e) (I.ok.cab x c hfn hc)))).trans (I.base.keep b o e n hb hx)
  ·obtain ⟨sl,e1⟩:=I.base.slot b o e n hb hx
   exact ⟨sl,(hs.2 b (Nat.ne_of_lt (Nat.lt_of_lt_of_le (Heap.lt_size e) (I.ok.cab x c hfn hc)))).trans e1⟩
  ·obtain ⟨o',e1⟩:=I.base.there b o e hx
   exact ⟨o',(hs.2 b (Nat.ne_of_lt (Nat.lt_of_lt_of_le (Heap.lt_size e) (I.ok.cab x c hfn hc)))).trans e1⟩
  ·by_cases hj:j=i
   ·subst hj
    rw [hi] at e1;cases e1
    rw [List.getElem?_set_self hiσ] at e2
    cases e2
    exact ⟨u,r,.inr ⟨.inl hk,c,hc,hc'⟩⟩
   ·rw [List.getElem?_set_ne (Ne.symm hj)] at e2
    obtain ⟨u',r',q⟩:=hl j y v' e1 e2 e3
    refine ⟨u',r',?_⟩
    rcases q with q | ⟨k,c',e,z'⟩
    ·exact .inl q
    ·refine .inr ⟨k,c',e,z'.sameBut hs ?_⟩
     rintro rfl
     exact hj (GZ hN e1 (I.ok.inj _ _ _ e hc ▸ hi))
  ·by_cases hcc:c'=c
   ·subst hcc;exact ⟨_,hc'⟩
   ·obtain ⟨w2,z2⟩:=I.cell y c' e
    exact ⟨w2,z2.sameBut hs hcc⟩
  ·obtain ⟨e,n,ne,nf,d⟩:=I.pin p hp
   refine ⟨(hs.2 p.1 ?_).trans e,n,ne,nf,d⟩
   intro q
   rw [q,hoc] at e
   have q':oc=p.2:=Option.some.inj e
   exact d w' (by rw [<- q'];exact hocd)
theorem HR {M:Model} {A:Around} {E:Value->Shared->Prop} {i:Nat} {x:Str} {v:V} {u:Value} {Q:Unit->Shared->Prop} (I:Inv X pins σ H s) (hN:X.N.Nodup) (hi:X.N[i]? = some x) (hx:Loc X.env.scope x) (r:RelV v u)
 (h:∀ s',Inv X pins (σ.set i (some v)) H s'->Q () s') (hf:X.fn x=true\/X.env.scope.names.lookup x=some .local:=by first | exact .inl rfl | exact .inr rfl | assumption):wpAny M A (storeName X.env x u) Q E s :=
 Hl I hN hi hx r (fun s' I' _=>h s' I') hf
theorem Inv.call' {s':Shared} {ch:List Addr} (I:Inv X pins σ H s) (ho:s'.os=s.os) (u:Un (frs X.stack) ch H H' s.heap s'.heap) (hok:HOk X.prog X.w H' s'.heap) (hg:AllBare s'.gens)
 (hch:∀ b∈ch,(b∈X.ex\/X.s₀.heap.objs.size<=b)/\b≠X.env.locals/\(∀ x c,X.env.cells.lookup x=some c->c≠b)/\∀ p∈X.pn++pins,p.1≠b):Inv X pins σ H' s':=by
 obtain ⟨h',g',d',t',o'⟩:=s'
 have e:o'=s.os:=ho
 subst e
 exact I.call (g':=g') (t':=t') (d':=d') u hok hg hch
end
abbrev XK:=Value->Option Addr->Hp->Prop
abbrev St:=List (Option V)
abbrev VK:=V->Hp->Prop
abbrev TE:=St->Hp->VK->Prop
abbrev TT:=St->Hp->(Bool->Hp->Prop)->Prop
abbrev TA:=St->Hp->(List V->Hp->Prop)->Prop
structure Ends where
 nx:St->Hp->Prop
 rt:VK
 bk:St->Hp->Prop:=fun _ _=>False
 ct:St->Hp->Prop:=fun _ _=>False
abbrev TS:=Ends->St->Hp->Prop
def EP (X:Cx) (pins:List (Addr × Obj)) (σ:St) (Q:VK) (u:Value) (s':Shared):Prop:=∃ v H',Inv X pins σ H' s'/\RelV v u/\Q v H'
def TP (X:Cx) (pins:List (Addr × Obj)) (σ:St) (Q:Bool->Hp->Prop) (b:Bool) (s':Shared):Prop:=∃ H',Inv X pins σ H' s'/\Q b H'
def AP (X:Cx) (pins:List (Addr × Obj)) (σ:St) (Q:List V->Hp->Prop) (us:List Value) (s':Shared):Prop:=∃ vs H',Inv X pins σ H' s'/\Vals vs us/\Q vs H'
def SP (X:Cx) (pins:List (Addr × Obj)) (D:Ends) (f:Flow) (s':Shared):Prop :=
 match f with
 | .next=>∃ σ' H',Inv X pins σ' H' s'/\D.nx σ' H'
 | .brk=>∃ σ' H',Inv X pins σ' H' s'/\D.bk σ' H'
 | .cont=>∃ σ' H',Inv X pins σ' H' s'/\D.ct σ' H'
 | .ret u=>∃ v σ' H',Inv X pins σ' H' s'/\RelV v u/\D.rt v H'
def PE (X:Cx) (e:Expr) (t:TE):Prop :=
 ∀ (pins:List (Addr × Obj)) (s:Shared) (σ:St) (H:Hp) (Q:VK),Inv X pins σ H s->t σ H Q->wpAny (model X.prog X.w) X.A (eval e X.env) (EP X pins σ Q) X.xe s
def PT (X:Cx) (e:Expr) (t:TT):Prop :=
 ∀ (pins:List (Addr × Obj)) (s:Shared) (σ:St) (H:Hp) (Q:Bool->Hp->Prop),Inv X pins σ H s->t σ H Q->wpAny (model X.prog X.w) X.A (isTrue e X.env (eval e X.env)) (TP X pins σ Q) X.xe s
def PW (X:Cx) (e:Expr) (t:TT):Prop :=
 ∀ (whole:Sem Value) (pins:List (Addr × Obj)) (s:Shared) (σ:St) (H:Hp) (Q:Bool->Hp->Prop),Inv X pins σ H s->t σ H Q->wpAny (model X.prog X.w) X.A (isTrue e X.env whole) (TP X pins σ Q) X.xe s
theorem PW.pt {X:Cx} {e:Expr} {t:TT} (h:PW X e t):PT X e t:=h _
def PA (X:Cx) (es:List Expr) (t:TA):Prop :=
 ∀ (pos:Pos) (pins:List (Addr × Obj)) (s:Shared) (σ:St) (H:Hp) (Q:List V->Hp->Prop),Inv X pins σ H s->t σ H Q->wpAny (model X.prog X.w) X.A (spliced (backTo pos (starEach es X.env))) (AP X pins σ Q) X.xe s
def PS (X:Cx) (st:Stmt) (t:TS):Prop :=
 ∀ (pins:List (Addr × Obj)) (s:Shared) (σ:St) (H:Hp) (D:Ends),Inv X pins σ H s->t D σ H->wpAny (model X.prog X.w) X.A (exec st X.env) (SP X pins D) X.xe s
def PSs (X:Cx) (st:List Stmt) (t:TS):Prop :=
 ∀ (pins:List (Addr × Obj)) (s:Shared) (σ:St) (H:Hp) (D:Ends),Inv X pins σ H s->t D σ H->wpAny (model X.prog X.w) X.A (execs st X.env) (SP X pins D) X.xe s
theorem thn {α:Type} {t:Sem α} {Q Q':α->Shared->Prop} {M:Model} {A:Around} {E:Value->Shared->Prop} {s:Shared} (h:wpAny M A t Q E s) (hQ:∀ a s,Q a s->Q' a s):wpAny M A t Q' E s:=wpAny_mono h hQ fun _ _ x=>x
section
variable {X:Cx}
theorem bin {a b:Expr} {ta tb:TE} (ha:PE X a ta) (hb:PE X b tb) {pins:List (Addr × Obj)} {s:Shared} {σ:St} {H:Hp} {R:V->V->Hp->Prop} (I:Inv X pins σ H s) (h:ta σ H fun x H1=>tb σ H1 fun y H2=>R x y H2)
 {α:Type} {Q:α->Shared->Prop} {f:Value->Value->Sem α}
 (hf:∀ v u s2 x y H2,Inv X pins σ H2 s2->RelV x v->RelV y u->R x y H2->wpAny (model X.prog X.w) X.A (f v u) Q X.xe s2) :
 wpAny (model X.prog X.w) X.A (eval a X.env) (fun v s₁=>wpAny (model X.prog X.w) X.A (eval b X.env) (fun u s₂=>wpAny (model X.prog X.w) X.A (f v u) Q X.xe s₂) X.xe s₁) X.xe s:=by
 refine thn (ha pins s σ H _ I h) fun v s1 ⟨x,H1,I1,r1,q1⟩=>?_
 refine thn (hb pins s1 σ H1 _ I1 q1) fun u s2 ⟨y,H2,I2,r2,q2⟩=>?_
 exact hf v u s2 x y H2 I2 r1 r2 q2
def OM (i:Nat):TE:=fun σ H Q=>∃ v,σ[i]? = some (some v)/\Q v H
def tC (v:V):TE:=fun _ H Q=>Q v H
theorem Ir {i:Nat} {x:Str} {pos:Pos} (hN:X.N[i]? = some x) (hv:Vis X.env.scope x) (hd:(x == ("__debug__" : Str))=false:=by decide) (hcd:(x == ("__classdict__" : Str))=false:=by decide):PE X (.Name x pos) (OM i):=by
 intro pins s σ H Q I h
 obtain ⟨v,e,h⟩:=h
 obtain ⟨m,hn,hl⟩:=I.loc
 obtain ⟨u,r,l⟩:=hl i x v hN e hv
 have fin:EP X pins σ Q u s:=⟨v,H,I,r,h⟩
 rcases l with ⟨hk,hm⟩ | ⟨hk,c,hc,hcell⟩
 ·exact wpAny_Name (wpAny_loadName_local I.ok.kind hk hn hm fin) hd
 ·rcases hk with hk | hk
  ·exact wpAny_Name (wpAny_loadName_cell I.ok.kind hk hc hcell fin) hd
  ·exact wpAny_Name (wpAny_loadName_free I.ok.kind hk hc hcell fin hcd) hd
theorem AB {i j pos}:PE X (.Constant (.int i) j pos) (tC (.int i)):=fun _ _ _ H _ I h=>wpAny_Constant_int ⟨.int i,H,I.tok _,⟨_,rfl⟩,h⟩
theorem DH {b j pos}:PE X (.Constant (.bool b) j pos) (tC (.bl b)):=fun _ _ _ H _ I h=>Constant_bool ⟨.bl b,H,I,rfl,h⟩
def Gl (X:Cx) (x:Str):Prop:=X.env.kindOf x=some .globalImplicit
theorem Kl {E:Value->Shared->Prop} {pins:List (Addr × Obj)} {s:Shared} {σ:St} {H:Hp} {x:Str} {u:Value} {pos:Pos} {Q:Value->Shared->Prop} (I:Inv X pins σ H s) (hg:Gl X x) (hm:X.mg x=some u) (h:Q u s)
 (hd:(x == ("__debug__" : Str))=false:=by decide):wpAny (model X.prog X.w) X.A (eval (.Name x pos) X.env) Q E s :=
 Calls.Name_function_global I.ok.kind hg (Calls.loadGlobal_global (by rw [I.ok.glob];exact I.mod.glob.keeps I.bk) hm h) hd
theorem Cv {E:Value->Shared->Prop} {pins:List (Addr × Obj)} {s:Shared} {σ:St} {H:Hp} {x:Str} {u:Value} {pos:Pos} {Q:Value->Shared->Prop} (I:Inv X pins σ H s) (hg:Gl X x) (hm:X.mg x=none) (hv:bootBuiltins x=some u) (h:Q u s)
 (hn:x ≠ "__name__":=by decide) (hd:(x == ("__debug__" : Str))=false:=by decide):wpAny (model X.prog X.w) X.A (eval (.Name x pos) X.env) Q E s:=by
 obtain ⟨mb,h1,h2⟩:=I.mod.blt
 exact Calls.Name_function_global I.ok.kind hg (Calls.loadGlobal_builtin (by rw [I.ok.glob];exact I.mod.glob.keeps I.bk) hm (by rw [I.ok.blt];exact h1.keeps I.bk) ((h2 x hn).trans hv) h) hd
theorem Lf {x:Str} {v:V} {u:Value} {pos:Pos} (hg:Gl X x) (hm:X.mg x=none) (hv:bootBuiltins x=some u) (r:RelV v u) (hn:x ≠ "__name__":=by decide) (hd:(x == ("__debug__" : Str))=false:=by decide):PE X (.Name x pos) (tC v) :=
 fun _ _ _ H _ I h=>Cv I hg hm hv ⟨v,H,I,r,h⟩ hn hd
variable {a b:Expr} {ta tb:TE} {pos:Pos}
theorem E7 (b:Expr) {op:CmpOp} (h:op≠.In) (h2:op≠.NotIn):behindInMarks op b=false:=by
 have e1:(op == CmpOp.In)=false:=by cases op <;> first | rfl | exact absurd rfl h
 have e2:(op == CmpOp.NotIn)=false:=by cases op <;> first | rfl | exact absurd rfl h2
 cases b <;> simp [behindInMarks,e1,e2]
variable {tA tB':TT} {rest:List Expr}
def IN (t u:TT):TT:=fun σ H Q=>t σ H fun c H1=>if c=true then u σ H1 Q else Q false H1
def tOr (t u:TT):TT:=fun σ H Q=>t σ H fun c H1=>if c=true then Q true H1 else u σ H1 Q
def J3 (t:TT):TT:=fun σ H Q=>t σ H fun c H1=>Q (!c) H1
theorem LZ (ha:PT X a tA):PW X (.BoolOp .And [a] pos) tA:=by
 intro wh pins s σ H Q I h
 refine isTrue_and (thn (ha pins s σ H Q I h) fun c s1 e=>?_)
 cases c with
 | true=>exact isTrue_and_nil e
 | false=>exact e
theorem Jo (ha:PT X a tA):PW X (.BoolOp .Or [a] pos) tA:=by
 intro wh pins s σ H Q I h
 refine isTrue_or (thn (ha pins s σ H Q I h) fun c s1 e=>?_)
 cases c with
 | false=>exact isTrue_or_nil e
 | true=>exact e
theorem JV (ha:PT X a tA) (hb:PW X (.BoolOp .And (b::rest) pos) tB'):PW X (.BoolOp .And (a::b::rest) pos) (IN tA tB'):=by
 intro wh pins s σ H Q I h
 refine isTrue_and (thn (ha pins s σ H _ I h) fun c s1 ⟨H1,I1,q1⟩=>?_)
 cases c with
 | true=>exact hb wh pins s1 σ H1 Q I1 q1
 | false=>exact ⟨H1,I1,q1⟩
theorem JO (ha:PT X a tA) (hb:PW X (.BoolOp .Or (b::rest) pos) tB'):PW X (.BoolOp .Or (a::b::rest) pos) (tOr tA tB'):=by
 intro wh pins s σ H Q I h
 refine isTrue_or (thn (ha pins s σ H _ I h) fun c s1 ⟨H1,I1,q1⟩=>?_)
 cases c with
 | true=>exact ⟨H1,I1,q1⟩
 | false=>exact hb wh pins s1 σ H1 Q I1 q1
theorem KP (ha:PT X a tA):PT X (.UnaryOp .Not a pos) (J3 tA):=by
 intro pins s σ H Q I h
 exact isTrue_not (ha pins s σ H (fun c H1=>Q (!c) H1) I h)
def LD (ta tb:TE):TE:=fun σ H Q=>ta σ H fun x H1=>∃ c,x=.bl c/\if c=true then tb σ H1 Q else Q (.bl false) H1
def KW (ta:TE):TE:=fun σ H Q=>ta σ H fun x H1=>∃ c,x=.bl c/\Q (.bl (!c)) H1
theorem FI {op} {t:TE} (h:PE X a t):PE X (.BoolOp op [a] pos) t:=fun pins s σ H Q I hw=>BoolOp_one (h pins s σ H Q I hw)
theorem JD (ha:PE X a ta) (hb:PE X (.BoolOp .And (b::rest) pos) tb):PE X (.BoolOp .And (a::b::rest) pos) (LD ta tb):=by
 intro pins s σ H Q I h
 refine BoolOp_and (thn (ha pins s σ H _ I h) fun v s1 ⟨x,H1,I1,r1,q1⟩=>?_)
 obtain ⟨c,rfl,q1⟩:=q1
 cases r1
 refine wpAny_truthy_bool ?_
 cases c with
 | true=>exact hb pins s1 σ H1 Q I1 q1
 | false=>exact ⟨.bl false,H1,I1,rfl,q1⟩
theorem JI (ha:PE X a ta):PE X (.UnaryOp .Not a pos) (KW ta):=by
 intro pins s σ H Q I h
 refine UnaryOp_ (thn (ha pins s σ H _ I h) fun v s1 ⟨x,H1,I1,r1,q1⟩=>?_)
 obtain ⟨c,rfl,q1⟩:=q1
 cases r1
 exact not_of (wpAny_truthy_bool ⟨.bl (!c),H1,I1,rfl,q1⟩)
def tIf (t:TT) (ta tb:TE):TE:=fun σ H Q=>t σ H fun c H1=>if c=true then ta σ H1 Q else tb σ H1 Q
theorem MB {c:Expr} (hc:PT X c tA) (ha:PE X a ta) (hb:PE X b tb):PE X (.IfExp c a b pos) (tIf tA ta tb):=by
 intro pins s σ H Q I h
 refine wpAny_IfExp (thn (hc pins s σ H _ I h) fun d s1 ⟨H1,I1,q1⟩=>?_)
 cases d with
 | true=>exact ha pins s1 σ H1 Q I1 q1
 | false=>exact hb pins s1 σ H1 Q I1 q1
end
def SqL (K:W.Frag) (H:Hp) (a:Addr) (xs:List V):Prop :=
 Rd H a (.lst xs) \/
  ∃ (o:Obj) (its:Array Value) (n:Nat),K.lookup a=some o/\o.cls=.type "list" /\ o.dict=none/\o.data=.seq its n/\its.size<=sizeLine/\Vals xs its.toList
def SqT (K:W.Frag) (H:Hp) (a:Addr) (xs:List V):Prop :=
 Rd H a (.tup xs) \/
  ∃ (o:Obj) (its:Array Value) (n:Nat),K.lookup a=some o/\o.cls=.type "tuple" /\ o.dict=none/\o.data=.seq its n/\its.size<=sizeLine/\Vals xs its.toList
def Ly:Value->Option V
 | .none=>some .non
 | .bool b=>some (.bl b)
 | .int i _=>some (.int i)
 | .str x _=>some (.str x)
 | .bytes b _=>some (.byt b)
 | .float b _=>some (.flt b)
 | .ref a=>some (.ref a)
 | .type n=>some (.ty n)
 | _=>none
theorem RelV.abs {x:V} {u:Value} (r:RelV x u):Ly u=some x:=by
 cases x with
 | non=>cases r;rfl
 | bl _=>cases r;rfl
 | int _=>obtain ⟨t,rfl⟩:=r;rfl
 | str _=>obtain ⟨t,rfl⟩:=r;rfl
 | byt _=>obtain ⟨t,rfl⟩:=r;rfl
 | flt _=>obtain ⟨t,rfl⟩:=r;rfl
 | ref _=>cases r;rfl
 | ty _=>cases r;rfl
theorem RelV.inj {x y:V} {u:Value} (r:RelV x u) (q:RelV y u):x=y:=Option.some.inj (r.abs.symm.trans q.abs)
theorem Vals.inj:∀ {xs ys:List V} {us:List Value},Vals xs us->Vals ys us->xs=ys
 | _,_,_,.nil,.nil=>rfl
 | _,_,_,.cons r t,.cons r' t'=>by rw [r.inj r',Vals.inj t t']
section
variable {X:Cx} {pins:List (Addr × Obj)} {σ:St} {H:Hp} {s:Shared} {a:Addr} {xs ys:List V}
theorem SqL.of {K:W.Frag} (h:H a=some (.lst xs)):SqL K H a xs:=.inl (.inl h)
theorem SqT.of {K:W.Frag} (h:H a=some (.tup xs)):SqT K H a xs:=.inl (.inl h)
theorem Inv.list (I:Inv X pins σ H s) (h:SqL X.K H a xs):∃ its:List Value,Vals xs its/\PlainL s.heap a its.toArray/\xs.length<=sizeLine:=by
 rcases h with h | ⟨o,its,n,hk,hc,hd,hs,hz,r⟩
 ·obtain ⟨z,its,n,r,e⟩:=h.ok I.hok
  exact ⟨its,r,⟨_,n,e,rfl,rfl,rfl⟩,z⟩
 ·refine ⟨its.toList,r,⟨o,n,I.kIn a o hk,hc,hd,by simpa using hs⟩,?_⟩
  have e:=r.length
  simp only [Array.length_toList] at e
  lia
theorem Inv.tuple (I:Inv X pins σ H s) (h:SqT X.K H a xs):∃ its:List Value,Vals xs its/\IsTup s.heap a its.toArray/\xs.length<=sizeLine:=by
 rcases h with h | ⟨o,its,n,hk,hc,hdd,hs,hz,r⟩
 ·obtain ⟨z,its,r,p⟩:=h.ok I.hok
  exact ⟨its,r,p.tup,z⟩
 ·refine ⟨its.toList,r,⟨o,I.kIn a o hk,hc,n,by simpa using hs⟩,?_⟩
  have e:=r.length
  simp only [Array.length_toList] at e
  lia
theorem Inv.tupleN (I:Inv X pins σ H s) (h:SqT X.K H a xs):∃ its:List Value,Vals xs its/\IsTupN s.heap a its.toArray/\xs.length<=sizeLine:=by
 rcases h with h | ⟨o,its,n,hk,hc,hdd,hs,hz,r⟩
 ·obtain ⟨z,its,r,p⟩:=h.ok I.hok
  exact ⟨its,r,p,z⟩
 ·refine ⟨its.toList,r,⟨o,I.kIn a o hk,hc,⟨n,by simpa using hs⟩,hdd⟩,?_⟩
  have e:=r.length
  simp only [Array.length_toList] at e
  lia
theorem Inv.list_inj (I:Inv X pins σ H s) (h:SqL X.K H a xs) (h':SqL X.K H a ys):xs=ys:=by
 obtain ⟨its,r,⟨o,n,e,_,_,d⟩,_⟩:=I.list h
 obtain ⟨its',r',⟨o',n',e',_,_,d'⟩,_⟩:=I.list h'
 rw [e] at e';cases e'
 rw [d] at d'
 injection d' with d1 _
 have:its=its':=by simpa using congrArg Array.toList d1
 subst this
 exact r.inj r'
theorem Inv.tuple_inj (I:Inv X pins σ H s) (h:SqT X.K H a xs) (h':SqT X.K H a ys):xs=ys:=by
 obtain ⟨its,r,⟨o,e,_,n,d⟩,_⟩:=I.tuple h
 obtain ⟨its',r',⟨o',e',_,n',d'⟩,_⟩:=I.tuple h'
 rw [e] at e';cases e'
 rw [d] at d'
 injection d' with d1 _
 have:its=its':=by simpa using congrArg Array.toList d1
 subst this
 exact r.inj r'
end
abbrev Cx.wish (X:Cx) (E:Value->Shared->Prop):Cx:={ X with xe:=E }
abbrev Cx.nox (X:Cx):Cx:=X.wish fun _ _=>False
theorem Cx.Ok.wish {X:Cx} (ok:X.Ok) (E:Value->Shared->Prop):(X.wish E).Ok :=
 ⟨ok.mod,ok.kind,ok.glob,ok.blt,ok.above,ok.inj,ok.has,ok.cab,ok.hd,ok.frames,ok.stk,ok.exf,ok.bs,ok.bsz,ok.noex,ok.exfs,ok.funs,ok.frf⟩
theorem Cx.Ok.unwish {X:Cx} {E:Value->Shared->Prop} (ok:(X.wish E).Ok):X.Ok :=
 ⟨ok.mod,ok.kind,ok.glob,ok.blt,ok.above,ok.inj,ok.has,ok.cab,ok.hd,ok.frames,ok.stk,ok.exf,ok.bs,ok.bsz,ok.noex,ok.exfs,ok.funs,ok.frf⟩
section
variable {X:Cx} {pins:List (Addr × Obj)} {σ:St} {H:Hp} {s:Shared} {E:Value->Shared->Prop}
theorem Inv.wish (I:Inv X pins σ H s) (E:Value->Shared->Prop):Inv (X.wish E) pins σ H s:=⟨I.ok.wish E,I.os,I.bare,I.base,I.loc,I.cell,I.free,I.freeC,I.pin,I.hok,I.len⟩
theorem Inv.unwish (I:Inv (X.wish E) pins σ H s):Inv X pins σ H s:=⟨I.ok.unwish,I.os,I.bare,I.base,I.loc,I.cell,I.free,I.freeC,I.pin,I.hok,I.len⟩
theorem SP.unwish {D:Ends} {f:Flow} {s':Shared} (h:SP (X.wish E) pins D f s'):SP X pins D f s':=by
 cases f with
 | next=>obtain ⟨σ',H',I,q⟩:=h;exact ⟨σ',H',I.unwish,q⟩
 | brk=>obtain ⟨σ',H',I,q⟩:=h;exact ⟨σ',H',I.unwish,q⟩
 | cont=>obtain ⟨σ',H',I,q⟩:=h;exact ⟨σ',H',I.unwish,q⟩
 | ret u=>obtain ⟨v,σ',H',I,r,q⟩:=h;exact ⟨v,σ',H',I.unwish,r,q⟩
theorem PSs.nox {st:List Stmt} {t:TS} (h:PSs X.nox st t):PSs X st t:=fun pins s σ H D I hw =>
 wpAny_mono (h pins s σ H D (I.wish _) hw) (fun _ _ q=>q.unwish) fun _ _ z=>False.elim z
end
section
variable {X:Cx} {st:Stmt} {rest:List Stmt} {t u:TS} {e:Expr} {te:TE} {pos:Pos}
def EX:TS:=fun D σ H=>D.nx σ H
def EU (t u:TS):TS:=fun D σ H=>t { D with nx:=u D } σ H
theorem Au:PSs X [] EX:=fun _ _ σ H _ I h=>wpAny_execs_nil ⟨σ,H,I,h⟩
theorem AF (h1:PS X st t) (h2:PSs X rest u):PSs X (st::rest) (EU t u):=by
 intro pins s σ H D I h
 refine wpAny_execs_cons (thn (h1 pins s σ H { D with nx:=u D } I h) fun f s1 q=>?_)
 cases f with
 | next =>
  obtain ⟨σ',H',I',q⟩:=q
  exact h2 pins s1 σ' H' D I' q
 | ret v=>exact q
 | brk=>exact q
 | cont=>exact q
theorem AL (h1:PS X st t):PSs X [st] t:=by
 intro pins s σ H D I h
 refine wpAny_execs_cons (thn (h1 pins s σ H D I h) fun f s1 q=>?_)
 cases f with
 | next=>exact wpAny_execs_nil q
 | ret v=>exact q
 | brk=>exact q
 | cont=>exact q
theorem Inv.quiet {pins:List (Addr × Obj)} {σ:St} {H:Hp} {s:Shared} (I:Inv X pins σ H s):interactive X.env=false:=by simp [interactive,I.ok.kind]
def GA (te:TE):TS:=fun D σ H=>te σ H fun _ H1=>D.nx σ H1
theorem FC (he:PE X e te) (hs:swapsWith e none pos.line X.env=pure false:=by rfl):PS X (.Expr e pos) (GA te):=by
 intro pins s σ H D I h
 exact wpAny_Expr_any (thn (he pins s σ H _ I h) fun v s1 ⟨x,H1,I1,r1,q1⟩=>⟨σ,H1,I1,q1⟩) I.quiet hs
def Hx (te:TE):TS:=fun D σ H=>te σ H D.rt
theorem AZ (he:PE X e te):PS X (.Return (some e) pos) (Hx te):=by
 intro pins s σ H D I h
 exact wpAny_Return_some (thn (he pins s σ H _ I h) fun v s1 ⟨x,H1,I1,r1,q1⟩=>⟨x,σ,H1,I1,r1,q1⟩)
def GJ (c:TT) (t u:TS):TS:=fun D σ H=>c σ H fun b H1=>if b=true then t D σ H1 else u D σ H1
theorem At {c:Expr} {a b:List Stmt} {tc:TT} (hc:PT X c tc) (ha:PSs X a t) (hb:PSs X b u):PS X (.If c a b pos) (GJ tc t u):=by
 intro pins s σ H D I h
 refine wpAny_If (thn (hc pins s σ H _ I h) fun d s1 ⟨H1,I1,q1⟩=>?_)
 cases d with
 | true=>exact ha pins s1 σ H1 D I1 q1
 | false=>exact hb pins s1 σ H1 D I1 q1
end
abbrev TG:=V->St->Hp->(St->Hp->Prop)->Prop
abbrev TGs:=List V->St->Hp->(St->Hp->Prop)->Prop
def PG (X:Cx) (target:Expr) (t:TG):Prop :=
 ∀ (pins:List (Addr × Obj)) (s:Shared) (σ:St) (H:Hp) (v:V) (u:Value) (Q:St->Hp->Prop),Inv X pins σ H s->RelV v u->t v σ H Q ->
  wpAny (model X.prog X.w) X.A (assign target X.env u) (fun _ s'=>∃ σ' H',Inv X pins σ' H' s'/\Q σ' H') X.xe s
def PGs (X:Cx) (ts:List Expr) (t:TGs):Prop :=
 ∀ (pins:List (Addr × Obj)) (s:Shared) (σ:St) (H:Hp) (vs:List V) (us:List Value) (Q:St->Hp->Prop),Inv X pins σ H s->Vals vs us->t vs σ H Q ->
  wpAny (model X.prog X.w) X.A (assignInOrder ((assignEach ts X.env).map (·.2)) us) (fun _ s'=>∃ σ' H',Inv X pins σ' H' s'/\Q σ' H') X.xe s
abbrev CD:=V->V->V->Hp->(Hp->Prop)->Prop
def C3 (X:Cx) (t:CD):Prop :=
 ∀ (pins:List (Addr × Obj)) (s:Shared) (σ:St) (H:Hp) (o i v:V) (ov iv u:Value) (Q:Hp->Prop),Inv X pins σ H s->RelV o ov->RelV i iv->RelV v u->t o i v H Q ->
  wpAny (model X.prog X.w) X.A (setItem ov iv u) (fun _ s'=>∃ H',Inv X pins σ H' s'/\Q H') X.xe s
section
variable {X:Cx} {pos:Pos}
def AS (i:Nat):TG:=fun v σ H Q=>Q (σ.set i (some v)) H
theorem AQ {i:Nat} {x:Str} (hN:X.N.Nodup) (hi:X.N[i]? = some x) (hx:Loc X.env.scope x) (hf:X.fn x=true\/X.env.scope.names.lookup x=some .local:=by first | exact .inl rfl | exact .inr rfl | assumption):PG X (.Name x pos) (AS i):=by
 intro pins s σ H v u Q I r h
 exact wpAny_assign_Name (HR I hN hi hx r (fun s' I'=>⟨_,H,I',h⟩) hf)
def Es:TGs:=fun vs σ H Q=>vs=[]/\Q σ H
def Ep (t:TG) (u:TGs):TGs:=fun vs σ H Q=>∃ v r,vs=v::r/\t v σ H fun σ' H'=>u r σ' H' Q
theorem CG:PGs X [] Es:=by
 intro pins s σ H vs us Q I r h
 obtain ⟨e,h⟩:=h
 subst e
 cases r
 exact assignInOrder_nil ⟨σ,H,I,h⟩
theorem As {e:Expr} {es:List Expr} {t:TG} {u:TGs} (h1:PG X e t) (h2:PGs X es u)
 (hs:(assignEach (e::es) X.env).map (·.2)=assign e X.env::(assignEach es X.env).map (·.2):=by rfl):PGs X (e::es) (Ep t u):=by
 intro pins s σ H vs us Q I r h
 obtain ⟨v,vr,e1,h⟩:=h
 subst e1
 cases r with
 | cons r rr =>
  rw [hs]
  refine assignInOrder_cons (thn (h1 pins s σ H _ _ _ I r h) fun _ s1 ⟨σ1,H1,I1,q1⟩=>?_)
  exact h2 pins s1 σ1 H1 _ _ Q I1 rr q1
def Ey (K:W.Frag) (n:Nat) (t:TGs):TG:=fun v σ H Q=>∃ a xs,v=.ref a/\SqT K H a xs/\xs.length=n/\t xs σ H Q
theorem IC {es:List Expr} {k:Nat} {t:TGs} {n:Nat} (hc:X.calm=true) (h:PGs X es t)
 (hn:(assignEach es X.env).length=n:=by rfl) (hst:(assignEach es X.env).findIdx? (·.1)=none:=by rfl):PG X (.Tuple es k pos) (Ey X.K n t):=by
 intro pins s σ H v u Q I r hw
 obtain ⟨a,xs,e1,hq,hl,hw⟩:=hw
 subst e1
 cases r
 obtain ⟨its,rv,ht,hz⟩:=I.tuple hq
 refine assign_Tuple_tuple (I.ok.hd hc) ht (by simp [hn,<- hl,rv.length]) hst fun h' hx=>?_
 have I1:Inv X pins σ H { s with heap:=h' }:=I.kept (t':=s.toks) fun b o e=>hx b o (Nat.ne_of_lt (Heap.lt_size e)) e
 exact h pins _ σ H xs _ Q I1 (by simpa using rv) hw
def IY (to ti:TE) (t:CD):TG:=fun v σ H Q=>to σ H fun o H1=>ti σ H1 fun i H2=>t o i v H2 fun H3=>Q σ H3
theorem BO {o i:Expr} {to ti:TE} {t:CD} (ho:PE X o to) (hi:PE X i ti) (hs:C3 X t)
 (ha:∀ v,assign (.Subscript o i pos) X.env v=(do
   let ov <- holding [v] (eval o X.env)
   let iv <- holding [v,ov] (eval i X.env)
   standAt pos
   holding [v,ov,iv] (setItem ov iv v)
   release [v,ov,iv] []):=by intro _;rfl):PG X (.Subscript o i pos) (IY to ti t):=by
 intro pins s σ H v u Q I r h
 rw [ha]
 refine wpAny_bind (wpAny_holding (thn (ho pins s σ H _ I h) fun ov s1 ⟨x,H1,I1,r1,q1⟩=>?_))
 refine wpAny_bind (wpAny_holding (thn (hi pins s1 σ H1 _ I1 q1) fun iv s2 ⟨y,H2,I2,r2,q2⟩=>?_))
 refine wpAny_bind (wpAny_standAt (wpAny_bind (wpAny_holding (thn (hs pins s2 σ H2 x y v ov iv u _ I2 r1 r2 r q2) fun _ s3 ⟨H3,I3,q3⟩=>?_))))
 exact wpAny_release ⟨σ,H3,I3,q3⟩
def Cq (te:TE) (g:TG):TS:=fun D σ H=>te σ H fun x H1=>g x σ H1 D.nx
theorem BH {tg e:Expr} {te:TE} {g:TG} (he:PE X e te) (hg:PG X tg g) (hs:swapsWithSole [tg] e pos.line X.env=pure false:=by rfl) (hw:swappedStores [tg] e X.env=pure none:=by rfl)
 (h1:(assignEach [tg] X.env).map (·.2)=[assign tg X.env]:=by rfl):PS X (.Assign [tg] e pos) (Cq te g):=by
 intro pins s σ H D I h
 refine wpAny_Assign_stores (thn (he pins s σ H _ I h) fun v s1 ⟨x,H1,I1,r1,q1⟩=>?_) hs hw
 rw [h1]
 exact thn (hg pins s1 σ H1 x v _ I1 r1 q1) fun _ s2 q=>q
theorem AO {i:Nat} {x:Str} {e:Expr} {te:TE} {pos':Pos} (hN:X.N.Nodup) (hi:X.N[i]? = some x) (hx:Loc X.env.scope x) (he:PE X e te) (hs:swapsWith e (some (.Name x pos')) pos.line X.env=pure false:=by rfl) (hf:X.fn x=true\/X.env.scope.names.lookup x=some .local:=by first | exact .inl rfl | exact .inr rfl | assumption) :
 PS X (.Assign [.Name x pos'] e pos) (Cq te (AS i)):=by
 intro pins s σ H D I h
 refine wpAny_Assign_Name (thn (he pins s σ H _ I h) fun v s1 ⟨y,H1,I1,r1,q1⟩=>?_) hs
 exact HR I1 hN hi hx r1 (fun s2 I2=>⟨_,H1,I2,q1⟩) hf
end
section
variable {X:Cx} {pos:Pos}
end
structure It where
 go:Nat->Hp->Prop
 yld:Nat->Hp->V->Hp->Prop
 stop:Nat->Hp->Prop
def A4 (X:Cx) (pins:List (Addr × Obj)) (H:Hp) (b:Addr):Prop :=
 H b=none/\b≠X.env.locals/\b∉X.fs/\(b∈X.ex\/X.s₀.heap.objs.size<=b)/\(∀ x c,X.env.cells.lookup x=some c->c≠b)/\∀ p∈X.pn++pins,p.1≠b
theorem Inv.fpOk {X:Cx} {pins:List (Addr × Obj)} {σ:St} {H H':Hp} {s:Shared} {b:Addr} (I:Inv X pins σ H s) (hb:s.heap.objs.size<=b) (hn:H' b=none):A4 X pins H' b:=by
 refine ⟨hn,Nat.ne_of_gt (Nat.lt_of_lt_of_le I.lt hb),I.nofs hb,.inr (Nat.le_trans I.sz hb),fun x c e z=>?_,fun p hp z=>?_⟩
 ·obtain ⟨v,q⟩:=I.cell x c e
  exact absurd (Nat.lt_of_lt_of_le q.lt (by rw [z];exact hb)) (Nat.lt_irrefl _)
 ·exact absurd (Nat.lt_of_lt_of_le (Heap.lt_size (I.pin p hp).1) (by rw [z];exact hb)) (Nat.lt_irrefl _)
structure Turn (P:Program) (w:World) (K:W.Frag) (tg:Expr) (J:It) (fp:List Addr) (it:Addr) (tn:Nat->Heap->Prop):Prop where
 mem:it∈fp
 obj:∀ i h,tn i h->∀ b∈fp,∃ o,h.get? b=some o/\∀ v,o.data≠.cell v
 keep:∀ i h h',tn i h->(∀ b∈fp,∀ o,h.get? b=some o->h'.get? b=some o)->tn i h'
 item:∀ (X:Cx),X.prog=P->X.w=w->X.K=K->X.calm=true->∀ (i:Nat) (pins:List (Addr × Obj)) (s:Shared) (σ:St) (H:Hp) (E:Value->Shared->Prop),Inv X pins σ H s->(∀ b∈fp,A4 X pins H b)->tn i s.heap->J.go i H ->
  wpAny (model P w) X.A (pyNext (.ref it)) (fun r s1=>∃ u,r=some u /\
   wpAny (model P w) X.A (letOwnedTupleGo tg (.ref it) u) (fun _ s2=>∃ x H',Inv X pins σ H' s2/\RelV x u/\J.yld i H x H'/\tn (i+1) s2.heap/\∀ b∈fp,H' b=none) E s1) E s
 done:∀ (X:Cx),X.prog=P->X.w=w->X.K=K->X.calm=true->∀ (i:Nat) (pins:List (Addr × Obj)) (s:Shared) (σ:St) (H:Hp) (E:Value->Shared->Prop),Inv X pins σ H s->(∀ b∈fp,A4 X pins H b)->tn i s.heap->J.stop i H ->
  wpAny (model P w) X.A (pyNext (.ref it)) (fun r s1=>r=none/\Inv X pins σ H s1) E s
 self:∀ (A:Around) (i:Nat) (s:Shared) (Q:Value->Shared->Prop) (E:Value->Shared->Prop),tn i s.heap->Q (.ref it) s->wpAny (model P w) A (pyIter (.ref it)) Q E s
abbrev TI:=St->Hp->(It->Hp->Prop)->Prop
def PIE (X:Cx) (pins:List (Addr × Obj)) (σ:St) (tg:Expr) (R:It->Hp->Prop) (itv:Value) (s2:Shared):Prop :=
 ∃ (it:Addr) (fp:List Addr) (tn:Nat->Heap->Prop) (J:It) (H':Hp),itv=.ref it/\Inv X pins σ H' s2/\Turn X.prog X.w X.K tg J fp it tn/\tn 0 s2.heap/\(∀ b∈fp,A4 X pins H' b)/\R J H'
def PI (X:Cx) (tg iter:Expr) (wi:TI):Prop :=
 ∀ (pins:List (Addr × Obj)) (s:Shared) (σ:St) (H:Hp) (R:It->Hp->Prop),Inv X pins σ H s->wi σ H R ->
  wpAny (model X.prog X.w) X.A (eval iter X.env) (fun v s1=>wpAny (model X.prog X.w) X.A (pyIter v) (PIE X pins σ tg R) X.xe s1) X.xe s
theorem Dj {M:Model} {A:Around} {E:Value->Shared->Prop} {s:Shared} {tg:Expr} {it:Addr} {u:Value} {o:Obj} {n:String} {vs:Array Value} {Q:Unit->Shared->Prop} (ho:s.heap.get? it=some o) (hc:o.cls=.type n) (hd:o.data=.fields vs)
 (hn:["enumerate","zip","dict_itemiterator","dict_reverseitemiterator","odict_iterator","itertools.zip_longest","itertools.pairwise"].contains n=false) (hQ:Q () s):wpAny M A (letOwnedTupleGo tg (.ref it) u) Q E s:=by
 unfold letOwnedTupleGo
 cases tg <;> first
  | exact wpAny_pure hQ
  | (cases u <;> first
      | exact wpAny_pure hQ
      | (refine wpAny_bind (wpAny_load ho ?_)
         rw [hc,hd]
         show wpAny M A (if (["enumerate","zip","dict_itemiterator","dict_reverseitemiterator","odict_iterator","itertools.zip_longest","itertools.pairwise"].contains n && vs[0]? == some (rawInt _))=true then _ else _) Q E s
         rw [if_neg (by intro h;rw [hn,Bool.false_and] at h;cases h)]
         exact wpAny_pure hQ))
def Itl (K:W.Frag) (a:Addr):It :=
 ⟨fun i H=>∃ xs x,SqL K H a xs/\xs[i]? = some x,fun i H x H'=>H'=H/\∀ xs,SqL K H a xs->xs[i]? = some x,fun i H=>∃ xs,SqL K H a xs/\xs.length<=i⟩
def Itt (K:W.Frag) (a:Addr):It :=
 ⟨fun i H=>∃ xs x,SqT K H a xs/\xs[i]? = some x,fun i H x H'=>H'=H/\∀ xs,SqT K H a xs->xs[i]? = some x,fun i H=>∃ xs,SqT K H a xs/\xs.length<=i⟩
def Itr (lo:Int) (n:Nat):It:=⟨fun i _=>i < n,fun i H x H'=>H'=H/\x=.int (lo+i),fun i _=>n<=i⟩
theorem JC {P:Program} {w:World} {K:W.Frag} {tg:Expr} (a it:Addr):Turn P w K tg (Itl K a) [it] it (fun i h=>h.IsListIter it a i) where
 mem:=by simp
 obj:=fun i h st b hb=>by
  have e:b=it:=by simpa using hb
  subst e
  obtain ⟨o,e,c,d⟩:=st
  exact ⟨o,e,fun v z=>by rw [d] at z;cases z⟩
 keep:=fun i h h' st k=>st.at fun o e=>k it (by simp) o e
 item:=by
  intro X hP hw hK hc i pins s σ H E I hf st hg
  subst hP hw hK
  obtain ⟨xs,x,hq,hx⟩:=hg
  obtain ⟨its,rv,p,hz⟩:=I.list hq
  obtain ⟨u,hu,ru⟩:=rv.get hx
  obtain ⟨f0,f1,f2,f3,f4,f5⟩:=hf it (by simp)
  refine wpAny_pyNext_list_item st p.isList (x:=u) (by simpa using hu) fun h' st' sb=>?_
  have I1:Inv X pins σ H { s with heap:=h' }:=I.turned (t':=s.toks) (fun b o hb e=>(sb.2 b hb).trans e) f0 f1 f3 f4 f5
  obtain ⟨o,e,c,d⟩:=id st'
  exact ⟨u,rfl,Dj (s:={ s with heap:=h' }) e c d (by decide) ⟨x,H,I1,ru,⟨rfl,fun ys hy=>by rw [I.list_inj hy hq];exact hx⟩,st',fun b hb=>(hf b hb).1⟩⟩
 done:=by
  intro X hP hw hK hc i pins s σ H E I hf st hg
  subst hP hw hK
  obtain ⟨xs,hq,hx⟩:=hg
  obtain ⟨its,rv,p,hz⟩:=I.list hq
  obtain ⟨f0,f1,f2,f3,f4,f5⟩:=hf it (by simp)
  have hl:=rv.length
  exact wpAny_pyNext_list_end (I.ok.hd hc) st p.isList (by simp;lia) fun h' eb=>⟨rfl,I.turned (t':=s.toks) (fun b o hb e=>eb b o hb e) f0 f1 f3 f4 f5⟩
 self:=fun _ _ _ _ _ st h=>wpAny_pyIter_listiter st h
theorem Iq {P:Program} {w:World} {K:W.Frag} {tg:Expr} (a it:Addr):Turn P w K tg (Itt K a) [it] it (fun i h=>h.IsTupleIter it a i) where
 mem:=by simp
 obj:=fun i h st b hb=>by
  have e:b=it:=by simpa using hb
  subst e
  obtain ⟨o,e,c,d⟩:=st
  exact ⟨o,e,fun v z=>by rw [d] at z;cases z⟩
 keep:=fun i h h' st k=>st.at fun o e=>k it (by simp) o e
 item:=by
  intro X hP hw hK hc i pins s σ H E I hf st hg
  subst hP hw hK
  obtain ⟨xs,x,hq,hx⟩:=hg
  obtain ⟨its,rv,p,hz⟩:=I.tuple hq
  obtain ⟨u,hu,ru⟩:=rv.get hx
  obtain ⟨f0,f1,f2,f3,f4,f5⟩:=hf it (by simp)
  refine wpAny_pyNext_tuple_item st (show s.heap.IsTuple a its.toArray from p) (x:=u) (by simpa using hu) fun h' st' sb=>?_
  have I1:Inv X pins σ H { s with heap:=h' }:=I.turned (t':=s.toks) (fun b o hb e=>(sb.2 b hb).trans e) f0 f1 f3 f4 f5
  obtain ⟨o,e,c,d⟩:=id st'
  exact ⟨u,rfl,Dj (s:={ s with heap:=h' }) e c d (by decide) ⟨x,H,I1,ru,⟨rfl,fun ys hy=>by rw [I.tuple_inj hy hq];exact hx⟩,st',fun b hb=>(hf b hb).1⟩⟩
 done:=by
  intro X hP hw hK hc i pins s σ H E I hf st hg
  subst hP hw hK
  obtain ⟨xs,hq,hx⟩:=hg
  obtain ⟨its,rv,p,hz⟩:=I.tuple hq
  obtain ⟨f0,f1,f2,f3,f4,f5⟩:=hf it (by simp)
  have hl:=rv.length
  exact wpAny_pyNext_tuple_end (I.ok.hd hc) st (show s.heap.IsTuple a its.toArray from p) (by simp;lia) fun h' eb=>⟨rfl,I.turned (t':=s.toks) (fun b o hb e=>eb b o hb e) f0 f1 f3 f4 f5⟩
 self:=fun _ _ _ _ _ st h=>wpAny_pyIter_tupleiter st h
theorem N4 {P:Program} {w:World} {K:W.Frag} {tg:Expr} (it:Addr) (lo:Int) (n:Nat):Turn P w K tg (Itr lo n) [it] it (fun i h=>IsRangeIter h it (lo+(i:Nat) * 1) ((n:Int) - (i:Nat)) 1) where
 mem:=by simp
 obj:=fun i h st b hb=>by
  have e:b=it:=by simpa using hb
  subst e
  exact ⟨_,st,fun v z=>by
   have z':Data.fields _=Data.cell v:=z
   cases z'⟩
 keep:=fun i h h' st k=>k it (by simp) _ st
 item:=by
  intro X hP hw hK hc i pins s σ H E I hf st hg
  subst hP hw hK
  obtain ⟨f0,f1,f2,f3,f4,f5⟩:=hf it (by simp)
  have W:=Walks.range (prog:=X.prog) (w:=X.w) (I.ok.hd hc) it lo 1 n
  refine W.item i s _ _ hg st fun v h' tk hv st' kk=>?_
  obtain ⟨t,rfl⟩:=hv
  have I1:Inv X pins σ H { s with heap:=h',toks:=tk }:=I.turned (fun b o hb e=>kk b o (by simpa using hb) e) f0 f1 f3 f4 f5
  refine ⟨_,rfl,Dj (s:={ s with heap:=h',toks:=tk }) (n:="range_iterator") st' rfl rfl (by decide) ⟨.int (lo+i),H,I1,⟨t,?_⟩,⟨rfl,rfl⟩,st',fun b hb=>(hf b hb).1⟩⟩
  rw [Int.mul_one]
 done:=by
  intro X hP hw hK hc i pins s σ H E I hf st hg
  subst hP hw hK
  obtain ⟨f0,f1,f2,f3,f4,f5⟩:=hf it (by simp)
  exact wpAny_pyNext_range_end (I.ok.hd hc) st (by have:n<=i:=hg;lia) fun h' eb=>⟨rfl,I.turned (t':=s.toks) (fun b o hb e=>eb b o hb e) f0 f1 f3 f4 f5⟩
 self:=fun _ _ _ _ _ st h=>wpAny_pyIter_rangeiter st h
section
variable {X:Cx} {tg:Expr}
theorem Ml {pins:List (Addr × Obj)} {σ:St} {H:Hp} {s:Shared} {R:It->Hp->Prop} {E:Value->Shared->Prop} {lo hi:Int} {t u v:Tok} {tk:Nat} (I:Inv X pins σ H s) (h1 : -(2 ^ 62)<=lo) (h2:lo < 2 ^ 62) (h3 : -(2 ^ 62)<=hi) (h4:hi < 2 ^ 62)
 (q:R (Itr lo (hi - lo).toNat) H):wpAny (model X.prog X.w) X.A (pyIter (.ref s.heap.objs.size)) (PIE X pins σ tg R) E { s with heap:=s.heap.push { cls:=.type "range",data:=.fields #[.int lo t,.int hi u,.int 1 v] },toks:=tk }:=by
 refine wpAny_pyIter_range (IsRange.new ..) (small_one h1 h2 h3 h4) ?_
 have I1:Inv X pins σ H { s with heap:=s.heap.push { cls:=.type "range",data:=.fields #[.int lo t,.int hi u,.int 1 v] },toks:=tk }:=I.kept fun b o e=>Heap.get?_push_of_some _ e
 refine ⟨(s.heap.push { cls:=.type "range",data:=.fields #[.int lo t,.int hi u,.int 1 v] }).objs.size,[(s.heap.push { cls:=.type "range",data:=.fields #[.int lo t,.int hi u,.int 1 v] }).objs.size],_,_,H,rfl,
  I1.kept (t':=tk) fun b o e=>Heap.get?_push_of_some _ e,N4 _ lo (hi - lo).toNat,?_,fun b hb=>?_,q⟩
 ·have e1:lo+((0:Nat):Int) * 1=lo:=by simp
  have e2:(((hi - lo).toNat:Nat):Int) - ((0:Nat):Int)=Builtin.Range.rangeSize lo hi 1:=by rw [rangeSize_one];split <;> lia
  show IsRangeIter _ _ (lo+((0:Nat):Int) * 1) ((((hi - lo).toNat:Nat):Int) - ((0:Nat):Int)) 1
  rw [e1,e2]
  exact Heap.get?_push_size _ rfl
 ·have e:b=(s.heap.push { cls:=.type "range",data:=.fields #[.int lo t,.int hi u,.int 1 v] }).objs.size:=by simpa using hb
  subst e
  exact I1.fpOk (Nat.le_refl _) (I1.hok.fresh (Nat.le_refl _))
def IT (ta:TA):TI:=fun σ H R=>ta σ H fun vs H1=>∃ j:Int,vs=[.int j] /\ -(2 ^ 62)<=j/\j < 2 ^ 62/\R (Itr 0 j.toNat) H1
theorem Ar {a:Expr} {ta:TA} {p pos:Pos} (hg:Gl X "range") (hm:X.mg "range" = none) (ha:PA X [a] ta) (hs:starEach [a] X.env=[(false,eval a X.env)]:=by rfl):PI X tg (.Call (.Name "range" p) [a] [] pos) (IT ta):=by
 intro pins s σ H R I h
 refine Call_ (Cv I hg hm boot_range (PyProof.Rows.callWith_type1 (thn (ha pos pins s σ H _ I h) fun us s1 ⟨vs,H1,I1,r1,q1⟩=>?_) hs rfl))
 obtain ⟨j,e,q1,q2,q⟩:=q1
 subst e
 cases r1 with
 | cons r rr =>
  cases rr
  obtain ⟨t,rfl⟩:=r
  exact call_range_1 (Ml I1 (by lia) (by lia) q1 q2 (by simpa using q))
def Gy (wi:TI) (g:TG) (tb:TS):TS:=fun D σ H=>wi σ H fun J H1=>∃ W:Nat->Nat->St->Hp->Prop,(∃ m,W 0 m σ H1)/\∀ i m σ H,W i m σ H ->
 (J.stop i H/\D.nx σ H)\/(J.go i H/\∃ N:St->Hp->Prop,(∀ σ' H',N σ' H'->∃ m',m' < m/\W (i+1) m' σ' H')/\∀ x H',J.yld i H x H'->g x σ H' fun σ2 H2=>tb { D with nx:=N,ct:=N,bk:=D.nx } σ2 H2)
def BF (fp:List Addr) (h:Heap):List (Addr × Obj):=fp.filterMap fun b=>(h.get? b).map fun o=>(b,o)
theorem Ca {fp:List Addr} {h:Heap} {b:Addr} {o:Obj} (hb:b∈fp) (e:h.get? b=some o):(b,o)∈BF fp h:=List.mem_filterMap.mpr ⟨b,hb,by rw [e];rfl⟩
theorem FG {fp:List Addr} {h:Heap} {p:Addr × Obj} (hp:p∈BF fp h):p.1∈fp/\h.get? p.1=some p.2:=by
 obtain ⟨b,hb,e⟩:=List.mem_filterMap.mp hp
 cases q:h.get? b with
 | none=>rw [q] at e;cases e
 | some o =>
  rw [q] at e
  have e':(b,o)=p:=Option.some.inj e
  subst e'
  exact ⟨hb,q⟩
theorem Inv.pinned {pins:List (Addr × Obj)} {σ:St} {H:Hp} {s:Shared} {fp:List Addr} (I:Inv X pins σ H s) (hf:∀ b∈fp,A4 X pins H b) (ho:∀ b∈fp,∃ o,s.heap.get? b=some o/\∀ v,o.data≠.cell v):Inv X (pins++BF fp s.heap) σ H s :=
 I.pins_of fun p hp=>(List.mem_append.mp hp).elim (fun z=>I.pin p (List.mem_append_right _ z)) fun z=>by
  obtain ⟨hb,e⟩:=FG z
  obtain ⟨f0,f1,f2,_⟩:=hf p.1 hb
  obtain ⟨o,e',d⟩:=ho p.1 hb
  rw [e] at e';cases e'
  exact ⟨e,f0,f1,f2,d⟩
theorem Inv.unpinned {pins pl:List (Addr × Obj)} {σ:St} {H:Hp} {s:Shared} (I:Inv X (pins++pl) σ H s):Inv X pins σ H s:=I.pins_of fun p hp=>I.pin p (List.mem_append_right _ (List.mem_append_left _ hp))
theorem BK {iter:Expr} {body:List Stmt} {wi:TI} {g:TG} {tb:TS} {pos:Pos} (hp:PassesOwn (model X.prog X.w) X.A X.env X.xe) (hc:X.calm=true) (hi:PI X tg iter wi) (hg:PG X tg g) (hb:PSs X body tb)
 (hs:∀ x,foldedSetIterable iter X.env x=pure x:=by intro _;rfl):PS X (.For tg iter body [] pos) (Gy wi g tb):=by
 intro pins s σ H D I h
 refine wpAny_For (thn (hi pins s σ H _ I h) fun v s1 h1=>thn h1 fun itv s2 h2=>?_) hs
 obtain ⟨it,fp,tn,J,H2,e,I2,T,st2,f2,W,⟨m0,w0⟩,turn⟩:=h2
 subst e
 -- what stays true of the iterator's objects through the loop
 have stat:∀ {H':Hp},(∀ b∈fp,H' b=none)->∀ b∈fp,A4 X pins H' b:=fun hn b hb=>⟨hn b hb,(f2 b hb).2⟩
 refine codeAny_forLoop_any (fun n s'=>∃ i σ' H',Inv X pins σ' H' s'/\tn i s'.heap/\(∀ b∈fp,H' b=none)/\W i n σ' H') ?_ m0 ⟨0,σ,H2,I2,st2,fun b hb=>(f2 b hb).1,w0⟩
 rintro n s3 ⟨i,σ3,H3,I3,st3,fr3,w3⟩
 rcases turn i n σ3 H3 w3 with ⟨stop,qn⟩ | ⟨go,N,hN,step⟩
 ·refine wpAny_passesOwn hp (thn (T.done X rfl rfl rfl hc i pins s3 σ3 H3 X.xe I3 (stat fr3) st3 stop) fun r s4 ⟨hr,I4⟩=>?_)
  subst hr
  exact wpAny_execs_nil ⟨σ3,H3,I4,qn⟩
 ·refine wpAny_passesOwn hp (thn (T.item X rfl rfl rfl hc i pins s3 σ3 H3 X.xe I3 (stat fr3) st3 go) fun r s4 ⟨u,hr,h4⟩=>?_)
  subst hr
  refine wpAny_passesOwn hp (thn h4 fun _ s5 ⟨x,H5,I5,r5,y5,st5,fr5⟩=>?_)
  have I5':=I5.pinned (stat fr5) (T.obj _ _ st5)
  refine wpAny_passesOwn hp (thn (hg _ s5 σ3 H5 x u _ I5' r5 (step x H5 y5)) fun _ s6 ⟨σ6,H6,I6,q6⟩=>?_)
  refine wpAny_passesOwn hp (thn (hb _ s6 σ6 H6 _ I6 q6) fun f s7 q7=>?_)
  have again:∀ {σ7:St} {H7:Hp},Inv X (pins++BF fp s5.heap) σ7 H7 s7->N σ7 H7->∃ m,m < n/\∃ i σ' H',Inv X pins σ' H' s7/\tn i s7.heap/\(∀ b∈fp,H' b=none)/\W i m σ' H':=fun {σ7 H7} I7 n7=>by
   obtain ⟨m',hm,w7⟩:=hN σ7 H7 n7
   refine ⟨m',hm,i+1,σ7,H7,I7.unpinned,T.keep _ _ _ st5 fun b hb o e=>(I7.pin (b,o) (List.mem_append_right _ (List.mem_append_right _ (Ca hb e)))).1,fun b hb=>?_,w7⟩
   obtain ⟨o,e,d⟩:=T.obj _ _ st5 b hb
   exact (I7.pin (b,o) (List.mem_append_right _ (List.mem_append_right _ (Ca hb e)))).2.1
  cases f with
  | next=>obtain ⟨σ7,H7,I7,n7⟩:=q7;exact again I7 n7
  | cont=>obtain ⟨σ7,H7,I7,n7⟩:=q7;exact again I7 n7
  | brk=>obtain ⟨σ7,H7,I7,q7⟩:=q7;exact ⟨σ7,H7,I7.unpinned,q7⟩
  | ret v=>obtain ⟨x7,σ7,H7,I7,r7,q7⟩:=q7;exact ⟨x7,σ7,H7,I7.unpinned,r7,q7⟩
end
theorem L8 {K:W.Frag} {a:Addr} {xs:List V} {g:TG} {tb:TS} {D:Ends} {σ:St} {H:Hp} (Pv:Nat->St->Hp->Prop) (h0:Pv 0 σ H) (hl:∀ i σ H,i<=xs.length->Pv i σ H->SqL K H a xs)
 (hs:∀ i x σ H,xs[i]? = some x->Pv i σ H->g x σ H fun σ2 H2=>tb { D with nx:=Pv (i+1),ct:=Pv (i+1),bk:=D.nx } σ2 H2) (hd:∀ σ H,Pv xs.length σ H->D.nx σ H) :
 ∃ W:Nat->Nat->St->Hp->Prop,(∃ m,W 0 m σ H)/\∀ i m σ H,W i m σ H ->
  ((Itl K a).stop i H/\D.nx σ H)\/((Itl K a).go i H/\∃ N:St->Hp->Prop,(∀ σ' H',N σ' H'->∃ m',m' < m/\W (i+1) m' σ' H')/\∀ x H',(Itl K a).yld i H x H'->g x σ H' fun σ2 H2=>tb { D with nx:=N,ct:=N,bk:=D.nx } σ2 H2):=by
 refine ⟨fun i m σ H=>m=xs.length - i/\i<=xs.length/\Pv i σ H,⟨xs.length,by simp,Nat.zero_le _,h0⟩,?_⟩
 rintro i m σ H ⟨rfl,hi,p⟩
 have q:=hl i σ H hi p
 by_cases hlt:i < xs.length
 ·refine .inr ⟨⟨xs,xs[i],q,by simp [hlt]⟩,Pv (i+1),fun σ' H' p'=>⟨xs.length - (i+1),by lia,rfl,hlt,p'⟩,fun x H' y=>?_⟩
  obtain ⟨e,y⟩:=y
  subst e
  exact hs i x σ _ (y xs q) p
 ·have e:i=xs.length:=by lia
  subst e
  exact .inl ⟨⟨xs,q,Nat.le_refl _⟩,hd σ H p⟩
theorem Nt {K:W.Frag} {a:Addr} {xs:List V} {g:TG} {tb:TS} {D:Ends} {σ:St} {H:Hp} (Pv:Nat->St->Hp->Prop) (h0:Pv 0 σ H) (hl:∀ i σ H,i<=xs.length->Pv i σ H->SqT K H a xs)
 (hs:∀ i x σ H,xs[i]? = some x->Pv i σ H->g x σ H fun σ2 H2=>tb { D with nx:=Pv (i+1),ct:=Pv (i+1),bk:=D.nx } σ2 H2) (hd:∀ σ H,Pv xs.length σ H->D.nx σ H) :
 ∃ W:Nat->Nat->St->Hp->Prop,(∃ m,W 0 m σ H)/\∀ i m σ H,W i m σ H ->
  ((Itt K a).stop i H/\D.nx σ H)\/((Itt K a).go i H/\∃ N:St->Hp->Prop,(∀ σ' H',N σ' H'->∃ m',m' < m/\W (i+1) m' σ' H')/\∀ x H',(Itt K a).yld i H x H'->g x σ H' fun σ2 H2=>tb { D with nx:=N,ct:=N,bk:=D.nx } σ2 H2):=by
 refine ⟨fun i m σ H=>m=xs.length - i/\i<=xs.length/\Pv i σ H,⟨xs.length,by simp,Nat.zero_le _,h0⟩,?_⟩
 rintro i m σ H ⟨rfl,hi,p⟩
 have q:=hl i σ H hi p
 by_cases hlt:i < xs.length
 ·refine .inr ⟨⟨xs,xs[i],q,by simp [hlt]⟩,Pv (i+1),fun σ' H' p'=>⟨xs.length - (i+1),by lia,rfl,hlt,p'⟩,fun x H' y=>?_⟩
  obtain ⟨e,y⟩:=y
  subst e
  exact hs i x σ _ (y xs q) p
 ·have e:i=xs.length:=by lia
  subst e
  exact .inl ⟨⟨xs,q,Nat.le_refl _⟩,hd σ H p⟩
theorem Bc {lo:Int} {n:Nat} {g:TG} {tb:TS} {D:Ends} {σ:St} {H:Hp} (Pv:Nat->St->Hp->Prop) (h0:Pv 0 σ H)
 (hs:∀ i σ H,i < n->Pv i σ H->g (.int (lo+i)) σ H fun σ2 H2=>tb { D with nx:=Pv (i+1),ct:=Pv (i+1),bk:=D.nx } σ2 H2) (hd:∀ σ H,Pv n σ H->D.nx σ H) :
 ∃ W:Nat->Nat->St->Hp->Prop,(∃ m,W 0 m σ H)/\∀ i m σ H,W i m σ H ->
  ((Itr lo n).stop i H/\D.nx σ H)\/((Itr lo n).go i H/\∃ N:St->Hp->Prop,(∀ σ' H',N σ' H'->∃ m',m' < m/\W (i+1) m' σ' H')/\∀ x H',(Itr lo n).yld i H x H'->g x σ H' fun σ2 H2=>tb { D with nx:=N,ct:=N,bk:=D.nx } σ2 H2):=by
 refine ⟨fun i m σ H=>m=n - i/\i<=n/\Pv i σ H,⟨n,by simp,Nat.zero_le _,h0⟩,?_⟩
 rintro i m σ H ⟨rfl,hi,p⟩
 by_cases hlt:i < n
 ·refine .inr ⟨hlt,Pv (i+1),fun σ' H' p'=>⟨n - (i+1),by lia,rfl,hlt,p'⟩,fun x H' y=>?_⟩
  obtain ⟨e,y⟩:=y
  subst e y
  exact hs i σ _ hlt p
 ·have e:i=n:=by lia
  subst e
  exact .inl ⟨Nat.le_refl _,hd σ H p⟩
abbrev R2:=V->V->Hp->VK->Prop
def OpR (X:Cx) (f:Value->Value->Sem Value) (r:R2):Prop :=
 ∀ (pins:List (Addr × Obj)) (s:Shared) (σ:St) (H:Hp) (x y:V) (v u:Value) (Q:VK),Inv X pins σ H s->RelV x v->RelV y u->r x y H Q ->
  wpAny (model X.prog X.w) X.A (f v u) (EP X pins σ Q) X.xe s
def UnR (X:Cx) (f:Value->Sem Value) (r:V->Hp->VK->Prop):Prop :=
 ∀ (pins:List (Addr × Obj)) (s:Shared) (σ:St) (H:Hp) (x:V) (v:Value) (Q:VK),Inv X pins σ H s->RelV x v->r x H Q ->
  wpAny (model X.prog X.w) X.A (f v) (EP X pins σ Q) X.xe s
def CallR (X:Cx) (f:Value) (r:List V->Hp->VK->Prop):Prop :=
 ∀ (pins:List (Addr × Obj)) (s:Shared) (σ:St) (H:Hp) (xs:List V) (us:List Value) (Q:VK),Inv X pins σ H s->Vals xs us->r xs H Q ->
  wpAny (model X.prog X.w) X.A (call f us) (EP X pins σ Q) X.xe s
def tOp (r:R2) (ta tb:TE):TE:=fun σ H Q=>ta σ H fun x H1=>tb σ H1 fun y H2=>r x y H2 Q
def tUn (r:V->Hp->VK->Prop) (ta:TE):TE:=fun σ H Q=>ta σ H fun x H1=>r x H1 Q
def rI (C:Int->Int->Prop) (g:Int->Int->V):R2:=fun x y H Q=>∃ i j,x=.int i/\y=.int j/\C i j/\Q (g i j) H
def rI0 (g:Int->Int->V):R2:=fun x y H Q=>∃ i j,x=.int i/\y=.int j/\Q (g i j) H
def rU (g:Int->V):V->Hp->VK->Prop:=fun x H Q=>∃ i,x=.int i/\Q (g i) H
section
variable {X:Cx} {a b c:Expr} {ta tb tc:TE} {pos:Pos}
theorem Fh (ha:PE X a ta) (hb:PE X b tb) {pins:List (Addr × Obj)} {s:Shared} {σ:St} {H:Hp} {R:V->V->Hp->Prop} (I:Inv X pins σ H s)
 (h:ta σ H fun x H1=>tb σ H1 fun y H2=>R x y H2) {Q:Value->Shared->Prop} {f:Value->Value->Sem Value}
 (hf:∀ v u s2 x y H2,Inv X pins σ H2 s2->RelV x v->RelV y u->R x y H2->wpAny (model X.prog X.w) X.A (f v u) Q X.xe s2) :
 wpAny (model X.prog X.w) X.A (eval a X.env) (fun v s₁=>wpAny (model X.prog X.w) X.A (eval b X.env) (fun u s₂=>wpAny (model X.prog X.w) X.A (f v u) Q X.xe s₂) X.xe s₁) X.xe s:=by
 refine thn (ha pins s σ H _ I h) fun v s1 ⟨x,H1,I1,r1,q1⟩=>?_
 refine thn (hb pins s1 σ H1 _ I1 q1) fun u s2 ⟨y,H2,I2,r2,q2⟩=>?_
 exact hf v u s2 x y H2 I2 r1 r2 q2
theorem AN {op:Operator} {r:R2} (ho:OpR X (binaryOp op) r) (ha:PE X a ta) (hb:PE X b tb):PE X (.BinOp a op b pos) (tOp r ta tb):=by
 intro pins s σ H Q I h
 exact wpAny_BinOp (Fh ha hb I h fun v u s2 x y H2 I2 rx ry q=>ho pins s2 σ H2 x y v u Q I2 rx ry q)
theorem CF {op:UnaryOp} {r:V->Hp->VK->Prop} (ho:UnR X (unaryOp op) r) (ha:PE X a ta):PE X (.UnaryOp op a pos) (tUn r ta):=by
 intro pins s σ H Q I h
 exact UnaryOp_ (thn (ha pins s σ H _ I h) fun v s1 ⟨x,H1,I1,r1,q1⟩=>ho pins s1 σ H1 x v Q I1 r1 q1)
theorem opI {f:Value->Value->Sem Value} {C:Int->Int->Prop} {g:Int->Int->Int}
 (rule:∀ (i j:Int) (t u:Tok) (s:Shared) (Q:Value->Shared->Prop) (E:Value->Shared->Prop),C i j->Q (.int (g i j) s.toks) { s with toks:=s.toks+1 } -> wpAny (model X.prog X.w) X.A (f (.int i t) (.int j u)) Q E s) :
 OpR X f (rI C fun i j=>.int (g i j)):=by
 intro pins s σ H x y v u Q I rx ry h
 obtain ⟨i,j,rfl,rfl,hc,q⟩:=h
 obtain ⟨t,rfl⟩:=rx
 obtain ⟨t',rfl⟩:=ry
 exact rule i j t t' s _ _ hc ⟨.int (g i j),H,I.tok _,⟨_,rfl⟩,q⟩
theorem EZ {f:Value->Value->Sem Value} {g:Int->Int->Int}
 (rule:∀ (i j:Int) (t u:Tok) (s:Shared) (Q:Value->Shared->Prop) (E:Value->Shared->Prop),Q (.int (g i j) s.toks) { s with toks:=s.toks+1 } -> wpAny (model X.prog X.w) X.A (f (.int i t) (.int j u)) Q E s) :
 OpR X f (rI0 fun i j=>.int (g i j)):=by
 intro pins s σ H x y v u Q I rx ry h
 obtain ⟨i,j,rfl,rfl,q⟩:=h
 obtain ⟨t,rfl⟩:=rx
 obtain ⟨t',rfl⟩:=ry
 exact rule i j t t' s _ _ ⟨.int (g i j),H,I.tok _,⟨_,rfl⟩,q⟩
theorem G6 {f:Value->Value->Sem Value} {g:Int->Int->Bool}
 (rule:∀ (i j:Int) (t u:Tok) (s:Shared) (Q:Value->Shared->Prop) (E:Value->Shared->Prop),Q (.bool (g i j)) s->wpAny (model X.prog X.w) X.A (f (.int i t) (.int j u)) Q E s) :
 OpR X f (rI0 fun i j=>.bl (g i j)):=by
 intro pins s σ H x y v u Q I rx ry h
 obtain ⟨i,j,rfl,rfl,q⟩:=h
 obtain ⟨t,rfl⟩:=rx
 obtain ⟨t',rfl⟩:=ry
 exact rule i j t t' s _ _ ⟨.bl (g i j),H,I,rfl,q⟩
def IE (i j:Int):Prop:=0<=j/\j<=1000000/\i.natAbs < 2 ^ 64
def CMul (i j:Int):Prop:=(-(2 ^ 64) < i/\i < 2 ^ 64)\/(-(2 ^ 64) < j/\j < 2 ^ 64)
theorem CMul.ok {i j:Int} (h:CMul i j):IntMulOk i j:=by
 rcases h with ⟨h1,h2⟩ | ⟨h1,h2⟩
 ·exact .of_left (intBits_le_64 h1 h2)
 ·exact .of_right (intBits_le_64 h1 h2)
theorem KD:OpR X (binaryOp .Add) (rI0 fun i j=>.int (i+j)):=EZ fun _ _ _ _ _ _ _ q=>add_int q
theorem MO:OpR X (binaryOp .Sub) (rI0 fun i j=>.int (i - j)):=EZ fun _ _ _ _ _ _ _ q=>sub_int q
theorem Ih:OpR X (binaryOp .Mod) (rI (fun _ j=>0 < j) fun i j=>.int (i % j)):=opI fun i j _ _ _ _ _ hc q=>by
 have h1:(0:Int) < j:=hc
 exact mod_int' (by lia) (by rw [Int.fmod_eq_emod_of_nonneg i (by lia)];exact q)
theorem JR:OpR X (binaryOp .Pow) (rI IE fun i j=>.int (i ^ j.toNat)):=opI fun _ _ _ _ _ _ _ hc q=>pow_int_small hc.1 hc.2.1 hc.2.2 q
theorem Mc:OpR X (binaryOp .BitXor) (rI0 fun i j=>.int (Builtin.bitXor i j)):=EZ fun _ _ _ _ _ _ _ q=>xor_int q
theorem unI {f:Value->Sem Value} {g:Int->Int}
 (rule:∀ (i:Int) (t:Tok) (s:Shared) (Q:Value->Shared->Prop) (E:Value->Shared->Prop),Q (.int (g i) s.toks) { s with toks:=s.toks+1 } -> wpAny (model X.prog X.w) X.A (f (.int i t)) Q E s) :
 UnR X f (rU fun i=>.int (g i)):=by
 intro pins s σ H x v Q I rx h
 obtain ⟨i,rfl,q⟩:=h
 obtain ⟨t,rfl⟩:=rx
 exact rule i t s _ _ ⟨.int (g i),H,I.tok _,⟨_,rfl⟩,q⟩
theorem LB:UnR X (unaryOp .USub) (rU fun i=>.int (-i)):=unI fun _ _ _ _ _ q=>neg_int q
end
section
variable {X:Cx} {a b c:Expr} {ta tb tc:TE} {pos:Pos}
theorem Ii:OpR X (compareOp .Lt) (rI0 fun i j=>.bl (decide (i < j))):=G6 fun _ _ _ _ _ _ _ q=>lt_int q
theorem N8:OpR X (compareOp .Gt) (rI0 fun i j=>.bl (decide (j < i))):=G6 fun _ _ _ _ _ _ _ q=>gt_int q
theorem Ni {op:CmpOp} {r:R2} (ho:OpR X (compareOp op) r) (ha:PE X a ta) (hb:PE X b tb) (hm:behindInMarks op b=false):PE X (.Compare a [op] [b] pos) (tOp r ta tb):=by
 intro pins s σ H Q I h
 exact wpAny_Compare1 (Fh ha hb I h fun v u s2 x y H2 I2 rx ry q=>ho pins s2 σ H2 x y v u Q I2 rx ry q) hm
theorem DE:(sizeLine:Nat) < 2 ^ 63:=by rw [sizeLine_eq];decide
theorem ON:OpR X (binaryOp .Add) (fun x y H Q=>∃ i j,x=.str i/\y=.str j/\i.length+j.length<=sizeLine/\Q (.str (i++j)) H):=by
 intro pins s σ H x y v u Q I rx ry h
 obtain ⟨i,j,rfl,rfl,hz,q⟩:=h
 obtain ⟨t,rfl⟩:=rx
 obtain ⟨t',rfl⟩:=ry
 exact add_str (fun t' tk=>⟨.str (i++j),H,I.tok _,⟨_,rfl⟩,q⟩) hz
theorem Bk {x:V} {us:List Value} (r:Vals [x] us):∃ u,us=[u]/\RelV x u:=by
 cases r with
 | cons r1 r2=>cases r2;exact ⟨_,rfl,r1⟩
theorem Fl {x y:V} {us:List Value} (r:Vals [x,y] us):∃ u w',us=[u,w']/\RelV x u/\RelV y w':=by
 cases r with
 | cons r1 r2 =>
  cases r2 with
  | cons r3 r4=>cases r4;exact ⟨_,_,rfl,r1,r3⟩
theorem call_abs:CallR X (.builtin "abs") (fun xs H Q=>∃ i,xs=[.int i]/\Q (.int (if i < 0 then -i else i)) H):=by
 intro pins s σ H xs us Q I r h
 obtain ⟨i,rfl,q⟩:=h
 obtain ⟨u,rfl,t,rfl⟩:=Bk r
 exact call_abs_int fun u tk=>⟨.int (if i < 0 then -i else i),H,I.tok _,⟨_,rfl⟩,q⟩
theorem Nj (hc:X.calm=true):CallR X (.builtin "max") (fun xs H Q=>∃ i j,xs=[.int i,.int j]/\Q (.int (if j > i then j else i)) H):=by
 intro pins s σ H xs us Q I r h
 obtain ⟨i,j,rfl,q⟩:=h
 obtain ⟨u,w',rfl,⟨t,rfl⟩,⟨t',rfl⟩⟩:=Fl r
 refine max_two_ints (I.ok.hd hc) fun h' tk k=>⟨_,H,I.kept k,?_,q⟩
 by_cases hj:j > i
 ·rw [if_pos hj,if_pos hj];exact ⟨_,rfl⟩
 ·rw [if_neg hj,if_neg hj];exact ⟨_,rfl⟩
theorem Jy (hc:X.calm=true):CallR X (.builtin "min") (fun xs H Q=>∃ i j,xs=[.int i,.int j]/\Q (.int (if j < i then j else i)) H):=by
 intro pins s σ H xs us Q I r h
 obtain ⟨i,j,rfl,q⟩:=h
 obtain ⟨u,w',rfl,⟨t,rfl⟩,⟨t',rfl⟩⟩:=Fl r
 refine min_two_ints (I.ok.hd hc) fun h' tk k=>⟨_,H,I.kept k,?_,q⟩
 by_cases hj:j < i
 ·rw [if_pos hj,if_pos hj];exact ⟨_,rfl⟩
 ·rw [if_neg hj,if_neg hj];exact ⟨_,rfl⟩
theorem call_int1:CallR X (.type "int") (fun xs H Q=>(∃ i,xs=[.int i]/\Q (.int i) H)\/∃ k,xs=[.bl k]/\Q (.int (if k then 1 else 0)) H):=by
 intro pins s σ H xs us Q I r h
 rcases h with ⟨i,rfl,q⟩ | ⟨k,rfl,q⟩
 ·obtain ⟨u,rfl,t,rfl⟩:=Bk r
  exact call_int_int ⟨.int i,H,I,⟨_,rfl⟩,q⟩
 ·obtain ⟨u,rfl,r1⟩:=Bk r
  cases r1
  exact call_int_bool ⟨.int (if k then 1 else 0),H,I.tok _,⟨_,rfl⟩,q⟩
def GE (K:W.Frag) (x:V) (H:Hp) (n:Nat):Prop :=
 match x with
 | .str y=>y.length<=sizeLine/\n=y.length
 | .byt y=>y.size<=sizeLine/\n=y.size
 | .ref p=>(∃ xs,SqL K H p xs/\n=xs.length)\/∃ xs,SqT K H p xs/\n=xs.length
 | _=>False
theorem call_len:CallR X (.builtin "len") (fun xs H Q=>∃ x n,xs=[x]/\GE X.K x H n/\Q (.int n) H):=by
 intro pins s σ H xs us Q I r h
 obtain ⟨x,n,rfl,e,q⟩:=h
 obtain ⟨u,rfl,rx⟩:=Bk r
 have hl:=DE
 have hs:sizeLine=16777216:=sizeLine_eq
 cases x with
 | str y =>
  obtain ⟨t,rfl⟩:=rx
  obtain ⟨hy,e'⟩:y.length<=sizeLine/\n=y.length:=e
  subst e'
  exact len_str (by lia) ⟨.int _,H,I.tok _,⟨_,rfl⟩,q⟩
 | byt y =>
  obtain ⟨t,rfl⟩:=rx
  obtain ⟨hy,e'⟩:y.size<=sizeLine/\n=y.size:=e
  subst e'
  exact PySem.W.len_bytes (by lia) ⟨.int _,H,I.tok _,⟨_,rfl⟩,q⟩
 | ref p =>
  cases rx
  have e':(∃ xs,SqL X.K H p xs/\n=xs.length)\/∃ xs,SqT X.K H p xs/\n=xs.length:=e
  rcases e' with ⟨xs,hx,e'⟩ | ⟨xs,hx,e'⟩
  ·subst e'
   obtain ⟨its,r',pl,hz⟩:=I.list hx
   have hlen:=r'.length
   exact Calls.call_len_list pl.isList (by simp only [List.size_toArray];lia) ⟨.int xs.length,H,I.tok _,⟨_,by simp only [List.size_toArray];rw [hlen]⟩,q⟩
  ·subst e'
   obtain ⟨its,r',pl,hz⟩:=I.tuple hx
   have hlen:=r'.length
   exact len_tuple pl (by simp only [List.size_toArray];lia) ⟨.int xs.length,H,I.tok _,⟨_,by simp only [List.size_toArray];rw [hlen]⟩,q⟩
 | _=>exact (show False from e).elim
end
structure ObjM (h:Heap) (x dx C:Addr) (mA:Str->Option Value):Prop where
 obj:h.get? x=some (PySem.W.instObj C dx)
 ns:h.Ns1 dx mA
 ne:dx≠x
theorem J8 {h:Heap} {dx:Addr} {mA:Str->Option Value} (n:h.Ns1 dx mA):∃ od,h.get? dx=some od/\∀ name,PySem.W.lookIn name od=some (mA name):=by
 obtain ⟨o,es,ep,ho,hd,hk,_,hm⟩:=n
 refine ⟨o,ho,fun name=>?_⟩
 have e:=hm name
 unfold nsFind findBy at e
 rw [<- Array.find?_toList] at e
 unfold PySem.W.lookIn
 rw [hd]
 dsimp only
 split
 ·rename_i y q
  rw [q] at e
  exact congrArg some e
 ·rename_i q
  rw [q] at e
  have a:es.toList.any (·.refKey)=false:=by
   rw [List.any_eq_false]
   intro y hy
   obtain ⟨z,t,hkey⟩:=hk y (Array.mem_toList_iff.mp hy)
   simp [DictEntry.refKey,hkey]
  have a':¬ es.toList.any (·.refKey)=true:=by rw [a];exact Bool.false_ne_true
  rw [if_neg a']
  exact congrArg some e
theorem ObjM.look {h:Heap} {x dx C:Addr} {mA:Str->Option Value} (I:ObjM h x dx C mA):∃ od,PySem.W.InstAt h x (PySem.W.instObj C dx) C (some od)/\∀ name,PySem.W.lookIn name od=some (mA name) :=
 let ⟨od,ho,hl⟩:=J8 I.ns
 ⟨od,⟨I.obj,rfl,rfl,ho⟩,hl⟩
section
variable {prog:Program} {w:World} {A:Around} {E:Value->Shared->Prop} {s:Shared} {K:W.Frag} {x dx C f:Addr} {mA:Str->Option Value} {name:Str} {v:Value}
end
theorem RelO.some_of {v:V} {o:Option Value} (r:RelO (some v) o):∃ u,o=some u/\RelV v u:=by
 cases o with
 | none=>exact (show False from r).elim
 | some u=>exact ⟨u,rfl,r⟩
section
variable {P:Program} {w:World} {H H':Hp} {h h':Heap} {a C dx:Addr} {fs fs':List (Str × V)}
theorem Lq (hok:HOk P w H h) (e:H a=some (.ins C dx fs)):∃ mA,ObjM h a dx C mA/\(∀ f,RelO (fs.lookup f) (mA f))/\PySem.Within mA (fs.map (·.1))/\fs.length<=1000/\H dx=some (.own a):=by
 obtain ⟨d,z,ne,ob,mA,n,r,q⟩:=(show ObjOk P w H h a (.ins C dx fs) from hok a _ e)
 exact ⟨mA,⟨ob,n,ne⟩,r,q,z,d⟩
end
structure Cls (K:W.Frag) (C:Addr):Prop where
 pg:PySem.W.plainGet K C Str.empty=true
 hd:PySem.W.hasDictIn K C=true
 po:PySem.W.plainOver K C=true
 sa:PySem.W.findIn K (.ref C) "__setattr__" = some (some (.builtin "object.__setattr__"))
theorem Cls.get {K:W.Frag} {C:Addr} (c:Cls K C) (f:Str):PySem.W.plainGet K C f=true:=c.pg
structure Con (K:W.Frag) (C:Addr) (f:Str) (v:V) (u:Value):Prop where
 at_:PySem.W.findIn K (.ref C) f=some (some u)
 rel:RelV v u
 get:PySem.W.specialIn K u "__get__" = some none
 cp:PySem.W.copiedNames.contains f=false
structure Meth (K:W.Frag) (C:Addr) (m:Str) (f:Addr):Prop where
 at_:PySem.W.findIn K (.ref C) m=some (some (.ref f))
 fn:PySem.W.isFn K (.ref f)=true
 kp:PySem.W.keepIn K (.ref f)=true
section
variable {X:Cx} {pins:List (Addr × Obj)} {σ:St} {H:Hp} {s:Shared} {a C dx:Addr} {fs:List (Str × V)} {f:Str} {v:V} {A:Around} {E:Value->Shared->Prop}
end
section
variable {X:Cx} {o e value:Expr} {f:Str} {pos pos' tpos:Pos} {ta tv:TE}
end
section
variable {X:Cx} {pins:List (Addr × Obj)} {σ:St} {H:Hp} {s:Shared} {A:Around} {E:Value->Shared->Prop} {Q:Value->Shared->Prop} {c:Value} {b:Bool}
inductive TyOf (K:W.Frag) (H:Hp):V->Value->Prop where
 | non:TyOf K H .non (.type "NoneType")
 | bl (x:Bool):TyOf K H (.bl x) (.type "bool")
 | int (i:Int):TyOf K H (.int i) (.type "int")
 | str (x:Str):TyOf K H (.str x) (.type "str")
 | flt (x:UInt64):TyOf K H (.flt x) (.type "float")
 | lst {a:Addr} {xs:List V} (e:H a=some (.lst xs)):TyOf K H (.ref a) (.type "list")
 | frz {a:Addr} {o:Obj} {xs:List V} (e:H a=some (.frz o (.lst xs))):TyOf K H (.ref a) (.type "list")
 | tup {a:Addr} {xs:List V} (e:H a=some (.tup xs)):TyOf K H (.ref a) (.type "tuple")
 | dK {a:Addr} {kvs:List (Key × V)} (e:H a=some (.dK kvs)):TyOf K H (.ref a) (.type "dict")
 | dT {a:Addr} {kvs:List (List Key × V)} (e:H a=some (.dT kvs)):TyOf K H (.ref a) (.type "dict")
 | ins {a C dx:Addr} {fs:List (Str × V)} (e:H a=some (.ins C dx fs)) (cl:Cls K C) (ha:PySem.W.findIn K (.ref C) "__class__" = some (some (.builtin "object.__class__")))
  (hn:PySem.W.specialIn K (.builtin "object.__class__") "__get__" = some (some (.builtin "getset_descriptor.__get__"))) (htk:PySem.W.takesIn K (.builtin "object.__class__")=some true)
  (hm:PySem.W.mroIn K C (.type "object")=some true):TyOf K H (.ref a) (.ref C)
theorem KB {x:V} {u t:Value} (I:Inv X pins σ H s) (rx:RelV x u) (ty:TyOf X.K H x t) (e:PySem.W.kitOne X.K t c=some b) (h:∀ tk,Q (.bool b) { s with toks:=tk }) :
 wpAny (model X.prog X.w) A (call (.builtin "isinstance") [u,c]) Q E s:=by
 cases ty with
 | non=>cases (show u=Value.none from rx);exact PySem.W.kia_one PySem.W.kitx_none I.kIn True.intro e (fun z=>nomatch z) h
 | bl y=>cases (show u=Value.bool y from rx);exact PySem.W.kia_one PySem.W.kitx_bool I.kIn True.intro e (fun z=>nomatch z) h
 | int i=>obtain ⟨t,q⟩:=(show ∃ t,u=Value.int i t from rx);cases q;exact PySem.W.kia_one PySem.W.kitx_int I.kIn True.intro e (fun z=>nomatch z) h
 | str y=>obtain ⟨t,q⟩:=(show ∃ t,u=Value.str y t from rx);cases q;exact PySem.W.kia_one PySem.W.kitx_str I.kIn True.intro e (fun z=>nomatch z) h
 | flt y=>obtain ⟨t,q⟩:=(show ∃ t,u=Value.float y t from rx);cases q;exact PySem.W.kia_one PySem.W.kitx_float I.kIn True.intro e (fun z=>nomatch z) h
 | @lst a xs ea =>
  cases (show u=Value.ref a from rx)
  obtain ⟨_,_,n,_,h1⟩:=(show ObjOk X.prog X.w H s.heap a (.lst xs) from I.hok a _ ea)
  exact PySem.W.kia_one PySem.W.kitx_list I.kIn ⟨_,h1,rfl⟩ e (fun z=>nomatch z) h
 | @frz a ob xs ea =>
  cases (show u=Value.ref a from rx)
  obtain ⟨_,_,_,n,_,h1⟩:=(show ObjOk X.prog X.w H s.heap a (.frz ob (.lst xs)) from I.hok a _ ea)
  exact PySem.W.kia_one PySem.W.kitx_list I.kIn ⟨_,h1,rfl⟩ e (fun z=>nomatch z) h
 | @tup a xs ea =>
  cases (show u=Value.ref a from rx)
  obtain ⟨_,_,_,p⟩:=(show ObjOk X.prog X.w H s.heap a (.tup xs) from I.hok a _ ea)
  obtain ⟨o,h1,h2,_⟩:=p
  exact PySem.W.kia_one PySem.W.kitx_tuple I.kIn ⟨o,h1,h2⟩ e (fun z=>nomatch z) h
 | @dK a kvs ea =>
  cases (show u=Value.ref a from rx)
  obtain ⟨_,_,vs,_,p⟩:=(show ObjOk X.prog X.w H s.heap a (.dK kvs) from I.hok a _ ea)
  obtain ⟨o,es,ep,h1,h2,_⟩:=p
  exact PySem.W.kia_one PySem.W.kitx_dict I.kIn ⟨o,h1,h2.1⟩ e (fun z=>nomatch z) h
 | @dT a kvs ea =>
  cases (show u=Value.ref a from rx)
  obtain ⟨_,_,xs,_,o,es,ep,h1,h2,_⟩:=(show ObjOk X.prog X.w H s.heap a (.dT kvs) from I.hok a _ ea)
  exact PySem.W.kia_one PySem.W.kitx_dict I.kIn ⟨o,h1,h2.1⟩ e (fun z=>nomatch z) h
 | @ins a C dx fs ea cl ha hn htk hm =>
  cases (show u=Value.ref a from rx)
  obtain ⟨mA,O,_⟩:=Lq I.hok ea
  obtain ⟨od,J,_⟩:=O.look
  exact PySem.W.kia_one (PySem.W.kitx_own (cl.get _) cl.hd ha hn htk hm) I.kIn J e (fun z=>nomatch z) h
end
structure Room (k:Nat) (A:Around):Prop where
 hd:A.handled=none
 dp:A.depth+3 * k+5 < recursionLimit
 un:A.units+16 * k+200 < cLine
 gd:A.guards=some []
theorem Room.mono {j k:Nat} {A:Around} (r:Room k A) (h:j<=k):Room j A:=⟨r.hd,by have:=r.dp;lia,by have:=r.un;lia,r.gd⟩
theorem Room.deeper {k:Nat} {A:Around} (r:Room (k+1) A) (env:Env):Room k (A.deeper env) :=
 ⟨r.hd,by have:=r.dp;show A.depth+1+3 * k+5 < _;lia,by have:=r.un;show A.units+3+16 * k+200 < _;lia,r.gd⟩
theorem Room.depth {k:Nat} {A:Around} (r:Room k A):A.depth < recursionLimit:=by have:=r.dp;lia
def Fb:TA:=fun _ H Q=>Q [] H
def Ec (ta:TE) (tr:TA):TA:=fun σ H Q=>ta σ H fun x H1=>tr σ H1 fun xs H2=>Q (x::xs) H2
section
variable {X:Cx} {e:Expr} {es:List Expr} {te:TE} {t:TA} {pos:Pos}
theorem AC:PA X [] Fb:=fun _ _ _ _ H Q I h=>Calls.spliced_nil ⟨[],H,I,.nil,h⟩
theorem AA (ha:PE X e te) (hr:PA X es t) (hs:starEach (e::es) X.env=(false,eval e X.env)::starEach es X.env:=by rfl):PA X (e::es) (Ec te t):=by
 intro pos pins s σ H Q I h
 rw [hs]
 show wpAny _ _ (spliced ((false,eval e X.env)::backTo pos (starEach es X.env))) _ _ s
 refine Calls.spliced_cons (thn (ha pins s σ H _ I h) fun u s1 ⟨x,H1,I1,r1,q1⟩=>?_)
 exact thn (hr pos pins s1 σ H1 _ I1 q1) fun us s2 ⟨xs,H2,I2,r2,q2⟩=>⟨x::xs,H2,I2,.cons r1 r2,q2⟩
def GU (t:TA):TE:=fun σ H Q=>t σ H fun xs H1=>xs.length<=sizeLine/\∀ p,H1 p=none->Q (.ref p) (upd H1 p (.tup xs))
def HX (t:TA):TE:=fun σ H Q=>t σ H fun xs H1=>xs.length<=sizeLine/\∀ p,H1 p=none->Q (.ref p) (upd H1 p (.lst xs))
theorem BY {x1} (h:PA X es t):PE X (.Tuple es x1 pos) (GU t):=by
 intro pins s σ H Q I hq
 refine wpAny_Tuple_spliced (thn (h pos pins s σ H _ I hq) fun us s1 ⟨xs,H1,I1,r,z,q⟩=>⟨by rw [<- r.length];exact z,?_⟩)
 have hf:H1 s1.heap.objs.size=none:=I1.hok.fresh (Nat.le_refl _)
 refine ⟨.ref s1.heap.objs.size,upd H1 s1.heap.objs.size (.tup xs),I1.laid (t':=s1.toks) (fun b u e=>Heap.get?_push_of_some _ e) (Nat.le_refl _) ?_,rfl,q _ hf⟩
 exact ⟨z,us,r,⟨_,Heap.get?_push_size _ rfl,rfl,⟨_,rfl⟩,rfl⟩⟩
theorem A3 (h:PA X es t):PE X (.List es pos) (HX t):=by
 intro pins s σ H Q I hq
 refine wpAny_List_spliced (thn (h pos pins s σ H _ I hq) fun us s1 ⟨xs,H1,I1,r,z,q⟩=>⟨by rw [<- r.length];exact z,?_⟩)
 have hf:H1 s1.heap.objs.size=none:=I1.hok.fresh (Nat.le_refl _)
 refine ⟨.ref s1.heap.objs.size,upd H1 s1.heap.objs.size (.lst xs),I1.laid (t':=s1.toks) (fun b u e=>Heap.get?_push_of_some _ e) (Nat.le_refl _) ?_,rfl,q _ hf⟩
 exact ⟨z,us,0,r,Heap.get?_push_size _ rfl⟩
end
abbrev Sp:=List V->Hp->VK->XK->Prop
abbrev CXT:=List Env->Hp->Shared->XK->Value->Shared->Prop
structure Env0 (P:Program) (w:World) (K:W.Frag) (mg:Str->Option Value) (base:Heap) (A:Around) (outer:List Env) (s:Shared) (H:Hp):Prop where
 frames:A.frames=some outer
 mod:Mod K mg base
 bs:∀ b o,base.get? b=some o->s.heap.get? b=some o/\H b=none
 bsz:base.objs.size<=s.heap.objs.size
 funs:s.heap.FunFrames base outer
 frf:∀ b∈frs outer,H b=none
 hok:HOk P w H s.heap
 bare:AllBare s.gens
def CE (outer:List Env) (P:Program) (w:World) (H:Hp) (s:Shared) (Q:VK) (u:Value) (s':Shared):Prop :=
 ∃ v H',s'.os=s.os/\AllBare s'.gens/\Un (frs outer) [] H H' s.heap s'.heap/\HOk P w H' s'.heap/\RelV v u/\Q v H'
def CR (CX:CXT) (outer:List Env) (P:Program) (w:World) (H:Hp) (s:Shared) (Q:VK) (E:XK) (r:Result) (s':Shared):Prop :=
 match r with
 | .ok (.ret u)=>CE outer P w H s Q u s'
 | .ok _=>False
 | .error e=>CX outer H s E e s'
structure FnOk (P:Program) (w:World) (K:W.Frag) (mg:Str->Option Value) (base:Heap) (CX:CXT) (k:Nat) (f:Addr) (fd:FuncData) (ps:List Str) (sp:Sp):Prop where
 len:∀ vs H Q E,sp vs H Q E->vs.length=ps.length
 run:∀ (A:Around) (outer:List Env) (s:Shared) (H:Hp) (args:Args) (us:List Value) (vs:List V) (Q:VK) (E:XK),Room k A->Env0 P w K mg base A outer s H->BindsTo s fd args (ps.zip us)->Vals vs us->sp vs H Q E ->
  codeAny (model P w) A (.call (.ref f) args) (CR CX outer P w H s Q E) s
section
variable {X:Cx} {pins:List (Addr × Obj)} {σ:St} {H:Hp} {s s':Shared}
theorem Inv.env0 (I:Inv X pins σ H s):Env0 X.prog X.w X.K X.mg X.base X.A X.stack s H :=
 ⟨I.ok.frames,I.ok.mod,I.bs,Nat.le_trans I.ok.bsz I.sz,I.stack,I.stkFree,I.hok,I.bare⟩
theorem Inv.after {Q:VK} {u:Value} (I:Inv X pins σ H s) (h:CE X.stack X.prog X.w H s Q u s'):EP X pins σ Q u s':=by
 obtain ⟨v,H',os,bare,un,hok,r,q⟩:=h
 obtain ⟨hh,g,d,t,os'⟩:=s'
 obtain rfl:os'=s.os:=os
 exact ⟨v,H',I.call (h':=hh) (g':=g) (d':=d) (t':=t) (ch:=[]) un hok bare (fun b z=>absurd z (by simp)),r,q⟩
end
def HC (sp:Sp) (dvs:List V) (E:XK) (t:TA):TE:=fun σ H Q=>t σ H fun vs H1=>sp (vs++dvs) H1 Q E
def Binds (K:W.Frag) (fd:FuncData) (ps:List Str) (ds:List Value):Prop :=
 ∀ (s:Shared) (us:List Value),K.In s.heap->(us++ds).length=ps.length->BindsTo s fd ⟨us,[]⟩ (ps.zip (us++ds))
theorem Binds.all {K:W.Frag} {fd:FuncData} {ps:List Str} (h:∀ us:List Value,us.length=ps.length->bindArgs fd ⟨us,[]⟩=pure (ps.zip us)):Binds K fd ps []:=fun s us _ hl=>by
 rw [List.append_nil] at hl ⊢
 exact .of_eq (h us hl)
def Eg (CX:CXT) (X:Cx) (E:XK):Prop:=∀ (pins:List (Addr × Obj)) (σ:St) (H:Hp) (s:Shared) (e:Value) (s':Shared),Inv X pins σ H s->CX X.stack H s E e s'->X.xe e s'
section
variable {X:Cx} {CX:CXT} {k:Nat} {f C:Addr} {fd:FuncData} {ps:List Str} {sp:Sp} {dvs:List V} {ds:List Value} {E:XK} {x m:Str} {p pos apos:Pos} {e o:Expr} {es:List Expr} {ta:TE} {t:TA}
theorem N2 {pins:List (Addr × Obj)} {σ:St} {H:Hp} {s:Shared} {Q:VK} {us:List Value} {vs:List V} (F:FnOk X.prog X.w X.K X.mg X.base CX k f fd ps sp) (hr:Room k X.A) (hb:Binds X.K fd ps ds) (hd:Vals dvs ds) (hx:Eg CX X E)
 (I:Inv X pins σ H s) (r:Vals vs us) (h:sp (vs++dvs) H Q E):wpAny (model X.prog X.w) X.A (call (.ref f) us) (EP X pins σ Q) X.xe s:=by
 have r2:Vals (vs++dvs) (us++ds):=r.append hd
 have hl:(us++ds).length=ps.length:=by rw [<- r2.length];exact F.len _ _ _ _ h
 refine wpAny_call (codeAny_mono (F.run X.A X.stack s H ⟨us,[]⟩ (us++ds) (vs++dvs) Q E hr I.env0 (hb s us I.kIn hl) r2 h) fun r s' hq=>?_)
 cases r with
 | error e=>exact hx pins σ H s e s' I hq
 | ok fl =>
  cases fl with
  | ret u=>exact I.after hq
  | next=>exact False.elim hq
  | brk=>exact False.elim hq
  | cont=>exact False.elim hq
theorem AI (F:FnOk X.prog X.w X.K X.mg X.base CX k f fd ps sp) (hr:Room k X.A) (hg:Gl X x) (hm:X.mg x=some (.ref f)) (hk:PySem.W.keepIn X.K (.ref f)=true) (hb:Binds X.K fd ps ds) (hd:Vals dvs ds) (hx:Eg CX X E)
 (ha:PA X (e::es) t) (hdb:(x == ("__debug__" : Str))=false:=by decide) (he:starEach (e::es) X.env=(false,eval e X.env)::starEach es X.env:=by rfl) (hpl:(backTo pos (starEach es X.env)).any (·.1)=false:=by rfl) :
 PE X (.Call (.Name x p) (e::es) [] pos) (HC sp dvs E t):=by
 intro pins s σ H Q I h
 refine wpAny_Call_Name_kw (Kl I hg hm ?_ hdb)
 refine PySem.W.callWith_K (h₀:=X.base) I.ok.mod.kin hk (thn (ha pos pins s σ H _ I h) fun us s1 ⟨vs,H1,I1,r,q⟩=>⟨I1.kIn,?_⟩) he hpl
 exact N2 F hr hb hd hx I1 r q
structure Mk (K:W.Frag) (C f:Addr):Prop where
 makes:PySem.W.makesIn K C=true
 init:PySem.W.findIn K (.ref C) "__init__" = some (some (.ref f))
 fn:PySem.W.isFn K (.ref f)=true
 kp:PySem.W.keepIn K (.ref C)=true
end
section
variable {X:Cx} {CX:CXT} {k:Nat} {f C:Addr} {fd:FuncData} {ps ks:List Str} {sp:Sp} {E:XK} {x m:Str} {p pos apos kpos:Pos} {e o:Expr} {es:List Expr} {kws:List Keyword} {te ta:TE} {t tk:TA} {nm:Option Str}
structure KBinds (K:W.Frag) (fd:FuncData) (ps ks:List Str) (g:List Value->List Value->List Value) (gV:List V->List V->List V):Prop where
 to:∀ (s:Shared) (us ws:List Value),K.In s.heap->(g us ws).length=ps.length->BindsTo s fd ⟨us,ks.zip ws⟩ (ps.zip (g us ws))
 rel:∀ {vs:List V} {us:List Value} {zs:List V} {ws:List Value},Vals vs us->Vals zs ws->Vals (gV vs zs) (g us ws)
variable {g:List Value->List Value->List Value} {gV:List V->List V->List V}
end
structure FnScope (N P:List Str) (sc:Scope):Prop where
 kind:sc.kind=.function
 co:sc.isCoroutine=false
 gen:sc.isGenerator=false
 nd:N.Nodup
 pre:N.take P.length=P
 par:∀ x∈P,sc.names.lookup x=some .local\/sc.names.lookup x=some .cell
 nofree:∀ y∈sc.names,y.2≠.free
theorem HZ {kindOf:Str->Option NameKind} {x:Str}:∀ {binds:List (Str × Value)} {m:Str->Option Value},(∀ v,(x,v)∉binds)->bindL kindOf binds m x=m x
 | [],_,_=>rfl
 | (n,v)::r,m,h=>by
  unfold bindL
  rw [HZ fun w hw=>h w (List.mem_cons_of_mem _ hw)]
  split
  ·have:x≠n:=by rintro rfl;exact h v List.mem_cons_self
   simp [this]
  ·rfl
theorem HA {kindOf:Str->Option NameKind} {x:Str}:∀ {binds:List (Str × Value)} {m:Str->Option Value},(∀ v,(x,v)∉binds)->bindC kindOf binds m x=m x
 | [],_,_=>rfl
 | (n,v)::r,m,h=>by
  unfold bindC
  rw [HA fun w hw=>h w (List.mem_cons_of_mem _ hw)]
  split
  ·rfl
  ·have:x≠n:=by rintro rfl;exact h v List.mem_cons_self
   simp [this]
theorem Hz {kindOf:Str->Option NameKind} {x:Str} {v:Value}:∀ {P:List Str} {vs:List Value} {i:Nat} {m:Str->Option Value},P.Nodup->P[i]? = some x->vs[i]? = some v->kindOf x=some .local ->
 bindL kindOf (P.zip vs) m x=some v
 | [],_,_,_,_,h,_,_=>by simp at h
 | _::_,[],_,_,_,_,h,_=>by simp at h
 | p::P,w::vs,0,m,nd,h1,h2,hk=>by
  simp at h1 h2;subst h1;subst h2
  show bindL kindOf ((p,w)::P.zip vs) m p=_
  unfold bindL
  rw [HZ fun v hv=>(List.nodup_cons.mp nd).1 (List.of_mem_zip hv).1,if_pos hk]
  simp
 | p::P,w::vs,i+1,m,nd,h1,h2,hk=>by
  show bindL kindOf ((p,w)::P.zip vs) m x=_
  unfold bindL
  exact Hz (i:=i) (List.nodup_cons.mp nd).2 (by simpa using h1) (by simpa using h2) hk
theorem Fo {kindOf:Str->Option NameKind} {x:Str} {v:Value}:∀ {P:List Str} {vs:List Value} {i:Nat} {m:Str->Option Value},P.Nodup->P[i]? = some x->vs[i]? = some v->kindOf x≠some .local ->
 bindC kindOf (P.zip vs) m x=some v
 | [],_,_,_,_,h,_,_=>by simp at h
 | _::_,[],_,_,_,_,h,_=>by simp at h
 | p::P,w::vs,0,m,nd,h1,h2,hk=>by
  simp at h1 h2;subst h1;subst h2
  show bindC kindOf ((p,w)::P.zip vs) m p=_
  unfold bindC
  rw [HA fun v hv=>(List.nodup_cons.mp nd).1 (List.of_mem_zip hv).1,if_neg hk]
  simp
 | p::P,w::vs,i+1,m,nd,h1,h2,hk=>by
  show bindC kindOf ((p,w)::P.zip vs) m x=_
  unfold bindC
  exact Fo (i:=i) (List.nodup_cons.mp nd).2 (by simpa using h1) (by simpa using h2) hk
def start (N:List Str) (vs:List V):St:=vs.map some++List.replicate (N.length - vs.length) none
def CV (CX:CXT) (P:Program) (w:World) (K:W.Frag) (mg:Str->Option Value) (base:Heap) (N:List Str) (qual:Str) (scope:Scope) (f:Addr) (cd:Value) (A:Around) (outer:List Env) (s:Shared) (H:Hp) (E:XK):Cx where
 prog:=P
 w:=w
 K:=K
 mg:=mg
 base:=base
 A:=A.deeper (envOfC qual scope s.heap.objs.size f cd)
 N:=N
 s₀:=s
 H₀:=H
 env:=envOfC qual scope s.heap.objs.size f cd
 outer:=outer
 stack:=envOfC qual scope s.heap.objs.size f cd::outer
 ex:=[]
 calm:=true
 fn:=fun _=>true
 pn:=[]
 xe:=fun e s'=>wpAny (model P w) (A.deeper (envOfC qual scope s.heap.objs.size f cd)) (leaving (envOfC qual scope s.heap.objs.size f cd) e) (fun _ s''=>CX outer H s E e s'') (fun e' s''=>CX outer H s E e' s'') s'
theorem Gp {sc:Scope} {n:Nat} {x:Str} (h:sc.names.lookup x=some .cell):∃ c,(cellsFrom n sc.names []).lookup x=some c:=by
 have q:=PySem.W.cellsFrom_some sc.names n [] (.inl h)
 exact Option.isSome_iff_exists.mp q
theorem Iy {CX:CXT} {P:Program} {w:World} {K:W.Frag} {mg:Str->Option Value} {base:Heap} {N ps:List Str} {qual:Str} {scope:Scope} {f:Addr} {cd:Value} {A:Around} {outer:List Env} {s s1:Shared} {H:Hp} {E:XK} {us:List Value} {vs:List V}
 (S:FnScope N ps scope) (hd:A.handled=none) (e0:Env0 P w K mg base A outer s H) (hl:vs.length=ps.length) (r:Vals vs us)
 (x:InCallC s s.heap.objs.size (bindL (envOfC qual scope s.heap.objs.size f cd).kindOf (ps.zip us) fun _=>none) (cellsFrom (s.heap.objs.size+1) scope.names []) (bindC (envOfC qual scope s.heap.objs.size f cd).kindOf (ps.zip us) fun _=>none) s1) :
 Inv (CV CX P w K mg base N qual scope f cd A outer s H E) [] (start N vs) H s1:=by
 have hpl:ps.length<=N.length:=by have:=congrArg List.length S.pre;rw [List.length_take] at this;lia
 obtain ⟨h1,tk,rfl,hk⟩:=x.done
 have noA:∀ b:Addr,b∉(CV CX P w K mg base N qual scope f cd A outer s H E).ex:=fun b z=>absurd (show b∈([]:List Addr) from z) (by simp)
 refine ⟨⟨e0.mod,S.kind,rfl,rfl,Nat.le_refl _,fun y z c h1 h2=>?_,fun y hy=>?_,fun y c _ h=>?_,fun _=>hd,Around.frames_deeper e0.frames,.inr ⟨rfl,rfl⟩,fun b z=>absurd z (noA b),e0.bs,e0.bsz,fun b _ _=>noA b,fun b z=>absurd z (noA b),e0.funs,e0.frf⟩,
  rfl,e0.bare,Un.kept hk,⟨_,x.toInCall.ns,fun i y v h1 h2 h3=>?_⟩,fun y c h=>⟨_,x.cell y c h⟩,e0.hok.fresh (Nat.le_refl _),fun y c h=>?_,fun p hp=>absurd (show p∈([]:List (Addr × Obj)) from hp) (by simp),e0.hok.kept hk,?_⟩
 ·exact name_of_addr x.apart (PySem.mem_of_lookup h1) (PySem.mem_of_lookup h2)
 ·have hy:scope.names.lookup y=some .cell\/scope.names.lookup y=some .free:=hy
  rcases hy with hy | hy
  ·exact Gp hy
  ·exact absurd rfl (S.nofree _ (PySem.mem_of_lookup hy))
 ·exact Nat.le_of_lt (x.above y c (PySem.mem_of_lookup h))
 ·have hi:i < vs.length:=by
   unfold start at h2
   by_cases hi:i < vs.length
   ·exact hi
   ·rw [List.getElem?_append_right (by simpa using hi)] at h2
    rw [List.getElem?_replicate] at h2
    split at h2 <;> cases h2
  have ha:vs[i]? = some v:=by
   unfold start at h2
   rw [List.getElem?_append_left (by simpa using hi),List.getElem?_map] at h2
   cases e:vs[i]? with
   | none=>rw [e] at h2;cases h2
   | some a=>rw [e] at h2;cases h2;rfl
  obtain ⟨u,hu,rv⟩:=r.get ha
  have hp:ps[i]? = some y:=by
   rw [<- S.pre,List.getElem?_take_of_lt (by lia)];exact h1
  have ndP:ps.Nodup:=by rw [<- S.pre];exact S.nd.sublist (List.take_sublist _ _)
  refine ⟨u,rv,?_⟩
  rcases S.par y (List.mem_of_getElem? hp) with k | k
  ·exact .inl ⟨k,Hz ndP hp hu k⟩
  ·obtain ⟨c,e⟩:=Gp (n:=s.heap.objs.size+1) k
   refine .inr ⟨.inl k,c,e,?_⟩
   have q:=x.cell y c e
   rw [Fo ndP hp hu (by show scope.names.lookup y≠_;rw [k];decide)] at q
   exact q
 ·exact e0.hok.fresh (Nat.le_of_lt (x.above y c (PySem.mem_of_lookup h)))
 ·unfold start
  show _=N.length
  rw [List.length_append,List.length_map,List.length_replicate]
  lia
theorem M6 {CX:CXT} {P:Program} {w:World} {K:W.Frag} {mg:Str->Option Value} {base:Heap} {k:Nat} {f:Addr} {name qual:Str} {params:Arguments} {body:List Stmt} {scope:Scope} {dV kV doc pm cdv ct oc:Value} {an od:Option Addr}
 {osl:Array (Option Value)} {N ps:List Str} {sp:Sp} (lk:K.lookup f=some ⟨oc,od,.func (PySem.W.fnOf name qual params body scope dV kV doc pm an cdv ct),osl⟩) (hcd:PySem.W.codeIn K cdv qual=true) (S:FnScope N ps scope)
 (len:∀ vs H Q E,sp vs H Q E->vs.length=ps.length)
 (hbody:∀ (A:Around) (outer:List Env) (s:Shared) (H:Hp) (vs:List V) (Q:VK) (E:XK),Room k (A.deeper (envOfC qual scope s.heap.objs.size f cdv))->sp vs H Q E ->
   ∃ t,PSs (CV CX P w K mg base N qual scope f cdv A outer s H E) body t/\t { nx:=fun _ H'=>Q .non H',rt:=Q } (start N vs) H) :
 FnOk P w K mg base CX (k+1) f (PySem.W.fnOf name qual params body scope dV kV doc pm an cdv ct) ps sp:=by
 refine ⟨len,fun A outer s H args us vs Q E hr e0 hb r hsp=>?_⟩
 have hl:=len _ _ _ _ hsp
 have KX:K.In s.heap:=e0.mod.kin.keeps fun b o e=>(e0.bs b o e).1
 have lim:s.heap.NoLimit:=e0.mod.nolimit.keeps fun b o e=>(e0.bs b o e).1
 have hkind:∀ y∈ps.zip us,scope.names.lookup y.1=some .local\/(scope.names.lookup y.1=some .cell/\((cellsFrom (s.heap.objs.size+1) scope.names []).lookup y.1).isSome=true):=fun ⟨n,v⟩ hy=>by
  rcases S.par n (List.of_mem_zip hy).1 with q | q
  ·exact .inl q
  ·exact .inr ⟨q,PySem.W.cellsFrom_some _ _ _ (.inl q)⟩
 refine codeAny_call_function hr.depth (KX _ _ lk) rfl S.co S.gen rfl (PySem.W.codeRec_of KX hcd) (hb _ _ _ _ ?_)
 refine wpAny_newFunctionEnv_cells S.kind hkind fun env he s1 x=>?_
 subst he
 refine ⟨lim.keeps x.toInCall.keep,codeAny_func ?_⟩
 obtain ⟨t,ht,hq⟩:=hbody A outer s H vs Q E (hr.deeper _) hsp
 have I:Inv (CV CX P w K mg base N qual scope f cdv A outer s H E) [] (start N vs) H s1:=Iy S hr.hd e0 hl r x
 refine wpAny_mono (ht [] s1 (start N vs) H _ I hq) (fun fl s' hs=>?_) fun e s' hs=>hs
 have fin:∀ {σ':St} {H':Hp} {v:V} {u:Value},Inv (CV CX P w K mg base N qual scope f cdv A outer s H E) [] σ' H' s'->RelV v u->Q v H'->CE outer P w H s Q u s' :=
  fun {σ' H' v u} J rv q=>⟨v,H',J.os,J.bare,J.base,J.hok,rv,q⟩
 cases fl with
 | ret u =>
  obtain ⟨v,σ',H',J,rv,q⟩:=hs
  exact fin J rv q
 | next =>
  obtain ⟨σ',H',J,q⟩:=hs
  exact fin (v:=V.non) (u:=Value.none) J rfl q
 | brk =>
  obtain ⟨_,_,_,q⟩:=hs
  exact False.elim q
 | cont =>
  obtain ⟨_,_,_,q⟩:=hs
  exact False.elim q
section
variable {X:Cx} {x:Str} {p pos:Pos} {e:Expr} {es:List Expr} {t:TA} {id T:String} {r:List V->Hp->VK->Prop}
def tCB (r:List V->Hp->VK->Prop) (t:TA):TE:=fun σ H Q=>t σ H fun vs H1=>r vs H1 Q
theorem Ap (hc:CallR X (.builtin id) r) (hg:Gl X x) (hm:X.mg x=none) (hv:bootBuiltins x=some (.builtin id)) (ha:PA X (e::es) t) (hn:x ≠ "__name__":=by decide) (hdb:(x == ("__debug__" : Str))=false:=by decide)
 (he:starEach (e::es) X.env=(false,eval e X.env)::starEach es X.env:=by rfl) (hpl:(backTo pos (starEach es X.env)).any (·.1)=false:=by rfl):PE X (.Call (.Name x p) (e::es) [] pos) (tCB r t):=by
 intro pins s σ H Q I h
 refine wpAny_Call_Name_kw (Cv I hg hm hv ?_ hn hdb)
 exact PyProof.Rows.callWith_builtin1 (thn (ha pos pins s σ H _ I h) fun us s1 ⟨vs,H1,I1,r1,q1⟩=>hc pins s1 σ H1 vs us Q I1 r1 q1) he hpl
theorem Ba (hc:CallR X (.type T) r) (hg:Gl X x) (hm:X.mg x=none) (hv:bootBuiltins x=some (.type T)) (ha:PA X (e::es) t) (hn:x ≠ "__name__":=by decide) (hdb:(x == ("__debug__" : Str))=false:=by decide)
 (he:starEach (e::es) X.env=(false,eval e X.env)::starEach es X.env:=by rfl) (hpl:(backTo pos (starEach es X.env)).any (·.1)=false:=by rfl):PE X (.Call (.Name x p) (e::es) [] pos) (tCB r t):=by
 intro pins s σ H Q I h
 refine wpAny_Call_Name_kw (Cv I hg hm hv ?_ hn hdb)
 exact PyProof.Rows.callWith_type1 (thn (ha pos pins s σ H _ I h) fun us s1 ⟨vs,H1,I1,r1,q1⟩=>hc pins s1 σ H1 vs us Q I1 r1 q1) he hpl
end
end L2
namespace HT
open PySem PyProof.Rows
section
open PySem.SeqAt
open PySem.AutoSeq1 (wpAny_loadPart')
open PySem.MeetsSeq PySem.MeetsSeq2 PySem.MeetsSeq3
end
section
variable {prog:Program} {w:World} {A:Around} {E:Value->Shared->Prop} {s:Shared}
theorem cat_tup {t b:Addr} {vs ws:List Value} {Q:Value->Shared->Prop} (ht:IsTup s.heap t vs.toArray) (hb:IsTup s.heap b ws.toArray) (hv:vs≠[])
 (h1:ws=[]->Q (.ref t) s) (h2:ws≠[]->Q (.ref s.heap.objs.size) { s with heap:=s.heap.push { cls:=.type "tuple",data:=.seq (vs++ws).toArray } })
 (hsz:vs.length+ws.length<=sizeLine):wpAny (model prog w) A (binaryOp .Add (.ref t) (.ref b)) Q E s:=by
 obtain ⟨⟨cls,dd,data,sl⟩,ho,hc,n,hd⟩:=id ht
 obtain ⟨⟨cls2,dd2,data2,sl2⟩,ho2,hc2,n2,hd2⟩:=id hb
 simp only at hc hd hc2 hd2
 subst hc hd hc2 hd2
 have e:vs.toArray++ws.toArray=(vs++ws).toArray:=by simp
 by_cases hw:ws=[]
 ·exact concat_meets ⟨_,ho,rfl⟩ ⟨_,ho2,rfl⟩ noFill_tuple_add seq_tuple_add PySem.F.slot_tuple_add PySem.F.entry_tuple_add (PySem.F.args_tuple_add_2 _ _)
   (tuple_addW1 t b vs.toArray ws.toArray n n2 dd dd2 sl sl2 (by simpa using hv) (by simp [hw])) ⟨ho,ho2,h1 hw⟩
 ·refine concat_meets ⟨_,ho,rfl⟩ ⟨_,ho2,rfl⟩ noFill_tuple_add seq_tuple_add PySem.F.slot_tuple_add PySem.F.entry_tuple_add (PySem.F.args_tuple_add_2 _ _)
   (tuple_addW2 t b vs.toArray ws.toArray n n2 dd dd2 sl sl2 (by simpa using hv) (by simpa using hw) (by rw [List.size_toArray,List.size_toArray];exact hsz)) ⟨ho,ho2,?_⟩
  rw [e]
  exact h2 hw
def sIx (n d:Nat):Option Int->Nat
 | none=>d
 | some v=>if v < 0 then (v+(n:Int)).toNat else min v.toNat n
theorem sIx_none (n d:Nat):sIx n d none=d:=rfl
theorem sIx_nat (n d k:Nat):sIx n d (some (k:Int))=min k n:=by
 show (if (k:Int) < 0 then ((k:Int)+(n:Int)).toNat else min (k:Int).toNat n)=min k n
 rw [if_neg (by lia),Int.toNat_natCast]
theorem Jc (n d:Nat) (hd:d<=n) (o:Option Int):sIx n d o<=n:=by
 cases o with
 | none=>exact hd
 | some v =>
  show (if v < 0 then (v+(n:Int)).toNat else min v.toNat n)<=n
  by_cases hv:v < 0
  ·rw [if_pos hv];lia
  ·rw [if_neg hv];exact Nat.min_le_right _ _
theorem HL (v:Int) (n d:Nat):(if v < 0 then max (v+(n:Int)) 0 else min v (n:Int))=((sIx n d (some v):Nat):Int):=by
 show (if v < 0 then max (v+(n:Int)) 0 else min v (n:Int))=(((if v < 0 then (v+(n:Int)).toNat else min v.toNat n):Nat):Int)
 by_cases hv:v < 0
 ·simp only [if_pos hv];lia
 ·simp only [if_neg hv];lia
theorem OD (lo hi:Option Int) (n:Nat):Builtin.Slice.sliceAdjust lo hi 1 (n:Int)=(((sIx n 0 lo:Nat):Int),((sIx n n hi:Nat):Int)):=by
 have h1:¬ ((1:Int) < 0):=by lia
 unfold Builtin.Slice.sliceAdjust
 simp only [h1,if_false]
 refine Prod.ext ?_ ?_
 ·cases lo with
  | none=>rfl
  | some v=>exact HL v n 0
 ·cases hi with
  | none=>rfl
  | some v=>exact HL v n n
theorem NG (i j:Nat):Builtin.Slice.slicePlaces (i:Int) (j:Int) 1=j - i:=by
 unfold Builtin.Slice.slicePlaces
 have h1:(1:Int) > 0:=by lia
 simp only [h1,if_true,Int.ediv_one]
 split <;> lia
theorem Fx {v:Value} {o:Option Int} {Q:Option Int->Shared->Prop} (p:IsPart v o) (h:Q o s):wpAny (model prog w) A (Builtin.Slice.slicePartIndex v) Q E s:=by
 cases p with
 | none=>exact slicePart_none h
 | int i t=>exact slicePart_int h
theorem Mf {sl:Addr} {vl vu:Value} {lo hi:Option Int} {n:Nat} {Q:Int × Int × Nat->Shared->Prop} (hs:s.heap.IsSliceOf sl vl vu .none) (pl:IsPart vl lo) (pu:IsPart vu hi)
 (h:Q (((sIx n 0 lo:Nat):Int),1,sIx n n hi - sIx n 0 lo) s):wpAny (model prog w) A (Builtin.Slice.sliceApplied (.ref sl) (pure (n:Int))) Q E s:=by
 obtain ⟨os,hos,hcs,hds⟩:=id hs
 unfold Builtin.Slice.sliceApplied Builtin.Slice.sliceFields
 refine wpAny_bind (wpAny_bind (wpAny_field hos hds (x:=vl) rfl (wpAny_bind (wpAny_field hos hds (x:=vu) rfl (wpAny_bind (wpAny_field hos hds (x:=.none) rfl (wpAny_pure ?_)))))))
 refine wpAny_bind (slicePart_none ?_)
 show wpAny _ _ (if ((1:Int) == 0)=true then _ else _) _ _ s
 rw [if_neg (by decide)]
 refine wpAny_bind (Fx pl (wpAny_bind (Fx pu (wpAny_bind (wpAny_pure ?_)))))
 show wpAny _ _ (match Builtin.Slice.sliceAdjust lo hi 1 (n:Int) with | (lo,hi)=>pure (lo,(1:Int),Builtin.Slice.slicePlaces lo hi 1)) _ _ s
 rw [OD lo hi n]
 show wpAny _ _ (pure (((sIx n 0 lo:Nat):Int),(1:Int),Builtin.Slice.slicePlaces ((sIx n 0 lo:Nat):Int) ((sIx n n hi:Nat):Int) 1)) _ _ s
 rw [NG]
 exact wpAny_pure h
theorem Jm (xs:Array Value) (i k:Nat):((List.range k).filterMap fun (m:Nat)=>xs[((i:Int)+(m:Int) * 1).toNat]?).toArray=((xs.toList.drop i).take k).toArray:=by
 have e:(fun (m:Nat)=>xs[((i:Int)+(m:Int) * 1).toNat]?)=fun m=>xs[i+m]?:=by
  funext m
  have:((i:Int)+(m:Int) * 1).toNat=i+m:=by lia
  rw [this]
 rw [e]
 have:=pick_run xs i k
 rw [List.filterMap_map] at this
 have e2:((fun x=>xs[x]?) ∘ fun x=>i+x)=fun m=>xs[i+m]?:=rfl
 rw [e2] at this
 rw [this]
theorem getItem_tuple_cut {t sl:Addr} {items:Array Value} {vl vu:Value} {lo hi:Option Int} {Q:Value->Shared->Prop} (ht:IsTup s.heap t items) (hs:s.heap.IsSliceOf sl vl vu .none) (pl:IsPart vl lo) (pu:IsPart vu hi)
 (hw:¬ (sIx items.size 0 lo=0/\sIx items.size items.size hi=items.size))
 (h:Q (.ref s.heap.objs.size) { s with heap:=s.heap.push { cls:=.type "tuple",data:=.seq ((items.toList.drop (sIx items.size 0 lo)).take (sIx items.size items.size hi - sIx items.size 0 lo)).toArray } })
 (hsz:items.size<=sizeLine):wpAny (model prog w) A (getItem (.ref t) (.ref sl)) Q E s:=by
 have htake:sizeOk (.seq ((items.toList.drop (sIx items.size 0 lo)).take (sIx items.size items.size hi - sIx items.size 0 lo)).toArray):=by
  show ((items.toList.drop (sIx items.size 0 lo)).take (sIx items.size items.size hi - sIx items.size 0 lo)).toArray.size<=sizeLine
  rw [List.size_toArray,List.length_take,List.length_drop,Array.length_toList]
  lia
 have hj:sIx items.size items.size hi<=items.size:=Jc _ _ (Nat.le_refl _) hi
 obtain ⟨os,hos,hcs,hds⟩:=id hs
 have hTs:s.TypeIs (.ref sl) "slice":=⟨os,hos,hcs⟩
 unfold getItem
 try with_reducible refine wpAny_holding ?_
 first | refine wpAny_bind (wpAny_pure ?_) | skip
 refine wpAny_bind (wpAny_sequenceKey ht.typeIs (by decide) ?_)
 refine wpAny_bind (wpAny_callSpecial?_slot (name:=Str.ofString "__getitem__") ht.typeIs PyProof.Rows.slot_tuple_getitem
  (wpAny_call_entry PyProof.Rows.slot_tuple_getitem ht.typeIs entry_tuple_getitem ?_ (args_tuple_getitem _ _)))
 show wpAny _ _ (Builtin.Tuple.tupleItemsOf (.ref t) >>= _) _ _ s
 refine wpAny_bind (tupleItemsOf_ ht ?_)
 refine wpAny_bind (wpAny_typeOf hTs ?_)
 rw [if_pos (by decide)]
 refine wpAny_bind (Mf hs pl pu ?_)
 have hno:¬ ((((sIx items.size 0 lo:Nat):Int) == 0 && (1:Int) == 1 && (sIx items.size items.size hi - sIx items.size 0 lo) == items.size)=true):=by
  intro q
  rw [Bool.and_eq_true,Bool.and_eq_true] at q
  have q1:((sIx items.size 0 lo:Nat):Int)=0:=eq_of_beq q.1.1
  have q2:sIx items.size items.size hi - sIx items.size 0 lo=items.size:=eq_of_beq q.2
  exact hw ⟨by lia,by lia⟩
 show wpAny _ _ (if (((sIx items.size 0 lo:Nat):Int) == 0 && (1:Int) == 1 && (sIx items.size items.size hi - sIx items.size 0 lo) == items.size)=true then _ else _) _ _ s
 rw [if_neg hno,Jm]
 first
  | exact wpAny_bind (m:=Builtin.Tuple.tupleExact _) (wpAny_newObj_type (wpAny_pure ⟨_,rfl,wpAny_pure h⟩) htake)
  | exact wpAny_bind (m:=Builtin.Tuple.tupleExact _) (wpAny_newObj_type (wpAny_bind (wpAny_pure (wpAny_pure ⟨_,rfl,wpAny_pure h⟩))) htake)
  | exact wpAny_bind (wpAny_bind (m:=Builtin.Tuple.tupleExact _) (wpAny_newObj_type (wpAny_pure (wpAny_pure ⟨_,rfl,wpAny_pure h⟩)) htake))
  | exact wpAny_bind (wpAny_bind (m:=Builtin.Tuple.tupleExact _) (wpAny_newObj_type (wpAny_pure ⟨_,rfl,wpAny_pure h⟩) htake))
end
end HT
namespace L2
open PySem PySem.Spec PyProof.Rows
abbrev TO:=St->Hp->(Option Int->Hp->Prop)->Prop
def PO (X:Cx) (e:Option Expr) (t:TO):Prop :=
 ∀ (pins:List (Addr × Obj)) (s:Shared) (σ:St) (H:Hp) (Q:Option Int->Hp->Prop),Inv X pins σ H s->t σ H Q ->
  wpAny (model X.prog X.w) X.A (evalPart e X.env) (fun u s'=>∃ o H',Inv X pins σ H' s'/\IsPart u o/\Q o H') X.xe s
def Ky:TO:=fun _ H Q=>Q none H
def LM (t:TE):TO:=fun σ H Q=>t σ H fun x H1=>∃ i,x=.int i/\Q (some i) H1
theorem Kc {ns:List Int}:∀ {us:List Value},Vals (ns.map V.int) us->IntsAre us ns:=by
 induction ns with
 | nil=>intro us r;rw [List.map_nil] at r;cases r;exact .nil
 | cons n ns ih =>
  intro us r
  rw [List.map_cons] at r
  cases r with
  | cons r1 r2 =>
   obtain ⟨t,e⟩:=r1
   subst e
   exact .cons n t (ih r2)
section
variable {X:Cx} {e:Expr} {te:TE} {lo hi:Option Expr} {tl th:TO} {pos p2:Pos}
theorem M0:PO X none Ky:=by
 intro pins s σ H Q I h
 rw [evalPart_none]
 exact wpAny_pure ⟨none,H,I,.none,h⟩
theorem JH (h:PE X e te):PO X (some e) (LM te):=by
 intro pins s σ H Q I hw
 rw [evalPart_some]
 refine thn (h pins s σ H _ I hw) fun u s1 ⟨x,H1,I1,r1,q1⟩=>?_
 obtain ⟨i,rfl,q⟩:=q1
 obtain ⟨t,rfl⟩:=r1
 exact ⟨some i,H1,I1,.int i t,q⟩
def SlR (X:Cx) (r:V->Option Int->Option Int->Hp->VK->Prop):Prop :=
 ∀ (pins:List (Addr × Obj)) (s:Shared) (σ:St) (H:Hp) (x:V) (v vl vu:Value) (lo hi:Option Int) (sl:Addr) (Q:VK),Inv X pins σ H s->RelV x v->s.heap.IsSliceOf sl vl vu .none->IsPart vl lo->IsPart vu hi->r x lo hi H Q ->
  ∃ T id,typeLookup (.type T) "__getitem__" = pure (some (.builtin id))/\s.TypeIs v T/\wpAny (model X.prog X.w) X.A (getItem v (.ref sl)) (EP X pins σ Q) X.xe s
def tSl (r:V->Option Int->Option Int->Hp->VK->Prop) (te:TE) (tl th:TO):TE:=fun σ H Q=>te σ H fun x H1=>tl σ H1 fun l H2=>th σ H2 fun u H3=>r x l u H3 Q
theorem JZ {r:V->Option Int->Option Int->Hp->VK->Prop} (hr:SlR X r) (he:PE X e te) (hl:PO X lo tl) (hu:PO X hi th):PE X (.Subscript e (.Slice lo hi none p2) pos) (tSl r te tl th):=by
 intro pins s σ H Q I h
 refine Subscript_ (thn (he pins s σ H _ I h) fun v s1 ⟨x,H1,I1,r1,q1⟩=>?_)
 refine wpAny_Slice (thn (hl pins s1 σ H1 _ I1 q1) fun vl s2 ⟨l,H2,I2,pl,q2⟩=>thn (hu pins s2 σ H2 _ I2 q2) fun vu s3 ⟨u,H3,I3,pu,q3⟩=>?_)
 rw [evalPart_none]
 refine wpAny_pure ?_
 have I4:Inv X pins σ H3 { s3 with heap:=s3.heap.push { cls:=.type "slice",data:=.fields #[vl,vu,.none] } }:=I3.kept (t':=s3.toks) fun b ob q=>Heap.get?_push_of_some _ q
 obtain ⟨T,id,hT,ht,hg⟩:=hr pins { s3 with heap:=s3.heap.push { cls:=.type "slice",data:=.fields #[vl,vu,.none] } } σ H3 x v vl vu l u s3.heap.objs.size Q I4 r1 (Heap.IsSliceOf.new ..) pl pu q3
 show wpAny (model X.prog X.w) X.A (subscriptTail e (.Slice lo hi none p2) v (.ref s3.heap.objs.size)) (EP X pins σ Q) X.xe { s3 with heap:=s3.heap.push { cls:=.type "slice",data:=.fields #[vl,vu,.none] } }
 exact tail_any (ops:=[.ref s3.heap.objs.size,v]) ht hT hg (by with_unfolding_all rfl)
def BS (xs:List V) (lo hi:Option Int):List V:=(xs.drop (HT.sIx xs.length 0 lo)).take (HT.sIx xs.length xs.length hi - HT.sIx xs.length 0 lo)
theorem HU (xs:List V) (lo hi:Option Int):(BS xs lo hi).length<=xs.length:=by
 unfold BS
 rw [List.length_take,List.length_drop]
 lia
def JX (K:W.Frag):V->Option Int->Option Int->Hp->VK->Prop:=fun x lo hi H Q=>∃ a xs,x=.ref a/\SqT K H a xs /\
 ¬ (HT.sIx xs.length 0 lo=0/\HT.sIx xs.length xs.length hi=xs.length)/\∀ p,H p=none->Q (.ref p) (upd H p (.tup (BS xs lo hi)))
theorem NB:SlR X (JX X.K):=by
 intro pins s σ H x v vl vu lo hi sl Q I rx hs pl pu h
 obtain ⟨a,xs,rfl,hx,hw,q⟩:=h
 cases rx
 obtain ⟨its,r,ht,hz⟩:=I.tuple hx
 have hlen:its.toArray.size=xs.length:=by rw [List.size_toArray];exact r.length.symm
 refine ⟨"tuple",_,PyProof.Rows.slot_tuple_getitem.lookup,ht.typeIs,?_⟩
 refine HT.getItem_tuple_cut ht hs pl pu (by rw [hlen];exact hw) ?_ (by rw [hlen];exact hz)
 rw [hlen]
 refine ⟨.ref s.heap.objs.size,_,I.laid (t':=s.toks) (o:=.tup (BS xs lo hi)) (fun b ob q=>Heap.get?_push_of_some _ q) (Nat.le_refl _) ?_,rfl,q _ (I.hok.fresh (Nat.le_refl _))⟩
 exact ⟨Nat.le_trans (HU xs lo hi) hz,_,(r.drop (HT.sIx xs.length 0 lo)).take (HT.sIx xs.length xs.length hi - HT.sIx xs.length 0 lo),IsTupN.new _ _⟩
def IB (K:W.Frag):R2:=fun x y H Q=>∃ a b xs ys,x=.ref a/\y=.ref b/\SqT K H a xs/\SqT K H b ys/\xs≠[]/\xs.length+ys.length<=sizeLine /\
 (ys=[]->Q (.ref a) H)/\(ys≠[]->∀ p,H p=none->Q (.ref p) (upd H p (.tup (xs++ys))))
theorem Vals.nil_iff {xs:List V} {us:List Value} (r:Vals xs us):us=[] ↔ xs=[]:=by
 cases r with
 | nil=>simp
 | cons _ _=>simp
theorem Nq:OpR X (binaryOp .Add) (IB X.K):=by
 intro pins s σ H x y v u Q I rx ry h
 obtain ⟨a,b,xs,ys,rfl,rfl,ha,hb,hx,hz,q1,q2⟩:=h
 cases rx
 cases ry
 obtain ⟨its,r1,p1,_⟩:=I.tuple ha
 obtain ⟨its2,r2,p2,_⟩:=I.tuple hb
 refine HT.cat_tup p1 p2 (fun z=>hx (r1.nil_iff.mp z)) (fun z=>⟨.ref a,H,I,rfl,q1 (r2.nil_iff.mp z)⟩) (fun z=>?_) (by rw [<- r1.length,<- r2.length];exact hz)
 refine ⟨.ref s.heap.objs.size,_,I.laid (t':=s.toks) (o:=.tup (xs++ys)) (fun b ob q=>Heap.get?_push_of_some _ q) (Nat.le_refl _) ?_,rfl,q2 (fun w=>z (r2.nil_iff.mpr w)) _ (I.hok.fresh (Nat.le_refl _))⟩
 exact ⟨by rw [List.length_append];exact hz,_,r1.append r2,IsTupN.new _ _⟩
end
def ixN (n:Nat) (i:Int):Option Nat:=if 0<=i then (if i < n then some i.toNat else none) else if -(n:Int)<=i then some (i+n).toNat else none
def atI {α:Type} (xs:List α) (i:Int):Option α:=(ixN xs.length i).bind fun j=>xs[j]?
theorem GD {n:Nat} {i:Int} {j:Nat} (h:ixN n i=some j):seqIndex? i n=some j/\j < n /\ -(n:Int)<=i/\i < n:=by
 unfold ixN at h
 by_cases h0:0<=i
 ·rw [if_pos h0] at h
  by_cases h1:i < n
  ·rw [if_pos h1] at h
   have e:i.toNat=j:=Option.some.inj h
   exact ⟨by rw [seqIndex_of h0 h1,e],by lia,by lia,h1⟩
  ·rw [if_neg h1] at h;cases h
 ·rw [if_neg h0] at h
  by_cases h1 : -(n:Int)<=i
  ·rw [if_pos h1] at h
   have e:(i+n).toNat=j:=Option.some.inj h
   exact ⟨by rw [seqIndex_neg (by lia) h1,e],by lia,h1,by lia⟩
  ·rw [if_neg h1] at h;cases h
theorem Er {α:Type} {xs:List α} {i:Int} {v:α} (h:atI xs i=some v):∃ j,seqIndex? i xs.length=some j/\xs[j]? = some v/\j < xs.length /\ -(xs.length:Int)<=i/\i < xs.length:=by
 unfold atI at h
 cases e:ixN xs.length i with
 | none=>rw [e] at h;cases h
 | some j =>
  rw [e] at h
  obtain ⟨h1,h2,h3,h4⟩:=GD e
  exact ⟨j,h1,h,h2,h3,h4⟩
def EY (b:Expr):Prop:=∀ o i,subscripted b false o i=operate [o,i] (getItem o i)
def IxR (X:Cx) (r:R2):Prop :=
 ∀ (value slice:Expr) (pins:List (Addr × Obj)) (s:Shared) (σ:St) (H:Hp) (x y:V) (v u:Value) (Q:VK),Inv X pins σ H s->RelV x v->RelV y u->r x y H Q ->
  subscripted slice false v u=operate [v,u] (getItem v u)->wpAny (model X.prog X.w) X.A (subscriptTail value slice v u) (EP X pins σ Q) X.xe s
def MtR (X:Cx) (id:String) (r:V->List V->Hp->VK->Prop):Prop :=
 ∀ (pins:List (Addr × Obj)) (s:Shared) (σ:St) (H:Hp) (x:V) (xs:List V) (v:Value) (us:List Value) (Q:VK),Inv X pins σ H s->RelV x v->Vals xs us->r x xs H Q ->
  wpAny (model X.prog X.w) X.A (call (.builtin id) (v::us)) (EP X pins σ Q) X.xe s
section
variable {X:Cx} {a b:Expr} {ta tb:TE} {pos:Pos}
theorem IxR.or {r r':R2} (h:IxR X r) (h':IxR X r'):IxR X (fun x y H Q=>r x y H Q\/r' x y H Q):=by
 intro value slice pins s σ H x y v u Q I rx ry q hs
 rcases q with q | q
 ·exact h value slice pins s σ H x y v u Q I rx ry q hs
 ·exact h' value slice pins s σ H x y v u Q I rx ry q hs
theorem JY {r:R2} (hr:IxR X r) (ha:PE X a ta) (hb:PE X b tb) (hs:EY b):PE X (.Subscript a b pos) (tOp r ta tb):=by
 intro pins s σ H Q I h
 exact Subscript_ (Fh ha hb I h fun v u s2 x y H2 I2 rx ry q=>hr a b pins s2 σ H2 x y v u Q I2 rx ry q (hs _ _))
def Gw (K:W.Frag):R2:=fun x y H Q=>∃ p xs i v,x=.ref p/\y=.int i/\SqL K H p xs/\atI xs i=some v/\Q v H
def GW (K:W.Frag):R2:=fun x y H Q=>∃ p xs i v,x=.ref p/\y=.int i/\SqT K H p xs/\atI xs i=some v/\Q v H
def HG:R2:=fun x y H Q=>∃ z i c,x=.str z/\y=.int i/\z.length<=sizeLine/\atI z.cps.toList i=some c/\Q (.str ⟨#[c]⟩) H
theorem ix_list:IxR X (Gw X.K):=by
 intro value slice pins s σ H x y v u Q I rx ry h hs
 obtain ⟨p,xs,i,z,rfl,rfl,hq,he,q⟩:=h
 cases rx
 obtain ⟨t,rfl⟩:=ry
 obtain ⟨its,r,pl,hz⟩:=I.list hq
 obtain ⟨j,h1,h2,h3,h4,h5⟩:=Er he
 obtain ⟨w,ew,rw'⟩:=r.get h2
 have hl:=r.length
 have hn:=DE
 have fin:EP X pins σ Q w s:=⟨z,H,I,rw',q⟩
 by_cases h0:0<=i
 ·have hj:i.toNat=j:=by
   rw [seqIndex_of h0 h5] at h1
   exact Option.some.inj h1
  exact item_listR pl.isList h0 (by lia) (by rw [hj];simpa using ew) fin hs
 ·have hj:(i+(its.toArray.size:Int)).toNat=j:=by
   rw [seqIndex_neg (by lia) h4] at h1
   rw [List.size_toArray,<- hl]
   exact Option.some.inj h1
  exact subscriptTail_builtinR (x:=w) pl.isList.typeIs slot_list_getitem.lookup
   (wpAny_getItem_list_neg (Q:=fun r s'=>r=w/\EP X pins σ Q r s') pl.isList (by lia) (by rw [List.size_toArray] <;> lia) (by lia) (by rw [hj];simpa using ew) ⟨rfl,fin⟩) hs
theorem ix_tup:IxR X (GW X.K):=by
 intro value slice pins s σ H x y v u Q I rx ry h hs
 obtain ⟨p,xs,i,z,rfl,rfl,hq,he,q⟩:=h
 cases rx
 obtain ⟨t,rfl⟩:=ry
 obtain ⟨its,r,pl,hz⟩:=I.tuple hq
 obtain ⟨j,h1,h2,h3,h4,h5⟩:=Er he
 obtain ⟨w,ew,rw'⟩:=r.get h2
 have hl:=r.length
 have hn:=DE
 have fin:EP X pins σ Q w s:=⟨z,H,I,rw',q⟩
 exact subscriptTail_builtinR (x:=w) pl.typeIs slot_tuple_getitem.lookup
  (getItem_tuple (j:=j) (Q:=fun r s'=>r=w/\EP X pins σ Q r s') pl (by lia) (by lia) (by rw [List.size_toArray,<- hl];exact h1) (by simpa using ew) ⟨rfl,fin⟩) hs
theorem MW:IxR X HG:=by
 intro value slice pins s σ H x y v u Q I rx ry h hs
 obtain ⟨z,i,c,rfl,rfl,hz,he,q⟩:=h
 obtain ⟨t,rfl⟩:=rx
 obtain ⟨t',rfl⟩:=ry
 obtain ⟨j,h1,h2,h3,h4,h5⟩:=Er he
 have hl:z.cps.toList.length=z.length:=by simp [Str.length]
 rw [hl] at h1 h4 h5
 have hn:=DE
 exact tail_any (typeIs_str s z t) slot_str_getitem.lookup (getItem_str (c:=c) (by
  have e1:decide (i < -(2 ^ 63:Int))=false:=decide_eq_false (by lia)
  have e2:decide (i ≥ 2 ^ 63)=false:=decide_eq_false (by lia)
  rw [e1,e2,Bool.or_false]) (by rw [h1];simpa using h2) ⟨.str ⟨#[c]⟩,H,I.tok _,⟨_,rfl⟩,q⟩) hs
def rIx (K:W.Frag):R2:=fun x y H Q=>Gw K x y H Q\/GW K x y H Q\/HG x y H Q
theorem ix_seq:IxR X (rIx X.K):=ix_list.or (ix_tup.or MW)
theorem L1 (its:List Value) (n j:Nat) (u:Value):Obj.mapSeq (·.setIfInBounds j u) { cls:=.type "list",data:=.seq its.toArray n } = { cls:=.type "list",data:=.seq (its.set j u).toArray n }:=by
 simp [Obj.mapSeq]
theorem Inv.lst {pins:List (Addr × Obj)} {σ:St} {H:Hp} {s:Shared} {p:Addr} {xs:List V} (I:Inv X pins σ H s) (h:H p=some (.lst xs)) :
 ∃ (its:List Value) (n:Nat),Vals xs its/\s.heap.get? p=some { cls:=.type "list",data:=.seq its.toArray n } /\ xs.length<=sizeLine:=by
 obtain ⟨z,its,n,r,e⟩:=I.hok p _ h
 exact ⟨its,n,r,e,z⟩
theorem Inv.lstUpd {pins:List (Addr × Obj)} {σ:St} {H:Hp} {s:Shared} {p:Addr} {xs ys:List V} {its its':List Value} {n n':Nat} {f:Obj->Obj} (I:Inv X pins σ H s) (h:H p=some (.lst xs))
 (ho:s.heap.get? p=some { cls:=.type "list",data:=.seq its.toArray n }) (hf:f { cls:=.type "list",data:=.seq its.toArray n } = { cls:=.type "list",data:=.seq its'.toArray n' }) (r:Vals ys its') (hz:ys.length<=sizeLine) (t:Nat) :
 Inv X pins σ (upd H p (.lst ys)) { s with heap:=s.heap.update p f,toks:=t }:=by
 have e:(s.heap.update p f).get? p=some { cls:=.type "list",data:=.seq its'.toArray n' }:=by
  rw [Heap.get?_update_self f ho (by rw [hf] <;> rfl),hf]
 refine I.write (x:=p) (e:=p) (by rw [h];trivial) (.inl rfl) (fun b u hb q=>(Heap.get?_update_other _ _ (Ne.symm hb)).trans q) ⟨_,e⟩ ?_
 exact ⟨hz,its',n',r,e⟩
def Iu:V->V->V->Hp->(Hp->Prop)->Prop:=fun o i v H Q=>∃ p xs k j,o=.ref p/\i=.int k/\H p=some (.lst xs)/\ixN xs.length k=some j/\Q (upd H p (.lst (xs.set j v)))
theorem NY:C3 X Iu:=by
 intro pins s σ H o i v ov iv u Q I ro ri rv h
 obtain ⟨p,xs,k,j,rfl,rfl,hp,hj,q⟩:=h
 cases ro
 obtain ⟨t,rfl⟩:=ri
 obtain ⟨its,n,r,ho,hz⟩:=I.lst hp
 obtain ⟨h1,h2,h3,h4⟩:=GD hj
 have hl:=r.length
 have hn:=DE
 have I':Inv X pins σ (upd H p (.lst (xs.set j v))) { s with heap:=s.heap.update p (Obj.mapSeq (·.setIfInBounds j u)) } :=
  I.lstUpd hp ho (L1 its n j u) (r.set rv j) (by rw [List.length_set];exact hz) s.toks
 by_cases h0:0<=k
 ·have hk:k.toNat=j:=by
   rw [seqIndex_of h0 h4] at h1
   exact Option.some.inj h1
  exact PySem.W.ki_setAt ho h0 (by lia) (by rw [List.size_toArray,<- hl];exact h4) (by rw [hk];exact ⟨_,I',q⟩)
 ·have hk:(k+(its.toArray.size:Int)).toNat=j:=by
   rw [seqIndex_neg (by lia) h3] at h1
   rw [List.size_toArray,<- hl]
   exact Option.some.inj h1
  exact PySem.W.ki_setBack ho (by lia) (by rw [List.size_toArray,<- hl];exact h3) (by lia) (by rw [hk];exact ⟨_,I',q⟩)
theorem Jg (lo hi:Option Int) (n:Nat):(sliceBounds lo hi none n).1=((HT.sIx n 0 lo:Nat):Int)/\(sliceBounds lo hi none n).2.1=((HT.sIx n n hi:Nat):Int)/\(sliceBounds lo hi none n).2.2=1:=by
 refine ⟨?_,?_,rfl⟩
 ·cases lo with
  | none=>simp [sliceBounds,HT.sIx]
  | some i =>
   simp only [sliceBounds,HT.sIx,Option.getD_none,show (1:Int) > 0 by decide,if_true]
   by_cases h:i < 0
   ·simp only [h,if_true] <;> lia
   ·simp only [h,if_false] <;> lia
 ·cases hi with
  | none=>simp [sliceBounds,HT.sIx]
  | some i =>
   simp only [sliceBounds,HT.sIx,Option.getD_none,show (1:Int) > 0 by decide,if_true]
   by_cases h:i < 0
   ·simp only [h,if_true] <;> lia
   ·simp only [h,if_false] <;> lia
theorem Ls (its:List Value) (lo hi:Option Int):slicePick its.toArray lo hi none=((its.drop (HT.sIx its.length 0 lo)).take (HT.sIx its.length its.length hi - HT.sIx its.length 0 lo)).toArray:=by
 obtain ⟨h1,h2,h3⟩:=Jg lo hi its.toArray.size
 unfold slicePick
 rw [h1,h2,h3]
 simp only [sliceRange_one,pick_run,List.size_toArray] <;> rfl
def L0 (K:W.Frag):V->Option Int->Option Int->Hp->VK->Prop:=fun x lo hi H Q=>∃ a xs,x=.ref a/\SqL K H a xs/\∀ p,H p=none->Q (.ref p) (upd H p (.lst (BS xs lo hi)))
theorem LX:SlR X (L0 X.K):=by
 intro pins s σ H x v vl vu lo hi sl Q I rx hs pl pu h
 obtain ⟨a,xs,rfl,hx,q⟩:=h
 cases rx
 obtain ⟨its,r,ht,hz⟩:=I.list hx
 have hlen:=r.length
 refine ⟨"list",_,slot_list_getitem.lookup,ht.isList.typeIs,?_⟩
 refine wpAny_getItem_list_slice ht.isList hs pl pu .none (by simp) ?_ (by rw [List.size_toArray] <;> lia)
 rw [Ls,<- hlen]
 refine ⟨.ref s.heap.objs.size,_,I.laid (t':=s.toks) (o:=.lst (BS xs lo hi)) (fun b ob q=>Heap.get?_push_of_some _ q) (Nat.le_refl _) ?_,rfl,q _ (I.hok.fresh (Nat.le_refl _))⟩
 exact ⟨Nat.le_trans (HU xs lo hi) hz,_,0,(r.drop (HT.sIx xs.length 0 lo)).take (HT.sIx xs.length xs.length hi - HT.sIx xs.length 0 lo),Heap.get?_push_size _ rfl⟩
def Ao:V->Bool
 | .non=>true
 | .bl _=>true
 | .int _=>true
 | .str _=>true
 | _=>false
def eqV:V->V->Bool
 | .non,.non=>true
 | .bl a,.bl b=>a == b
 | .bl a,.int b=>(if a then 1 else 0) == b
 | .int a,.bl b=>a == (if b then 1 else 0)
 | .int a,.int b=>a == b
 | .str a,.str b=>a == b
 | _,_=>false
theorem KS {A:Around} {s:Shared} {y x:V} {u v:Value} (ry:RelV y u) (rx:RelV x v) (fy:Ao y=true) (fx:Ao x=true):SeqAt.EqAt A s u v (eqV y x):=by
 cases y with
 | non =>
  cases ry
  cases x with
  | non=>cases rx;exact SeqAt.EqAt.same _
  | bl b=>cases rx;exact SeqAt.EqAt.none_bool b
  | int b=>obtain ⟨t,rfl⟩:=rx;exact SeqAt.EqAt.none_int b t
  | str b=>obtain ⟨t,rfl⟩:=rx;exact SeqAt.EqAt.none_str b t
  | _=>exact absurd (show false=true from fx) Bool.false_ne_true
 | bl a =>
  cases ry
  cases x with
  | non=>cases rx;exact SeqAt.EqAt.bool_none a
  | bl b=>cases rx;exact SeqAt.EqAt.bool_bool a b
  | int b=>obtain ⟨t,rfl⟩:=rx;exact SeqAt.EqAt.bool_int a b t
  | str b=>obtain ⟨t,rfl⟩:=rx;exact SeqAt.EqAt.bool_str a b t
  | _=>exact absurd (show false=true from fx) Bool.false_ne_true
 | int a =>
  obtain ⟨t',rfl⟩:=ry
  cases x with
  | non=>cases rx;exact SeqAt.EqAt.int_none a t'
  | bl b=>cases rx;exact SeqAt.EqAt.int_bool a t' b
  | int b=>obtain ⟨t,rfl⟩:=rx;exact SeqAt.EqAt.int_int a t' b t
  | str b=>obtain ⟨t,rfl⟩:=rx;exact SeqAt.EqAt.int_str a t' b t
  | _=>exact absurd (show false=true from fx) Bool.false_ne_true
 | str a =>
  obtain ⟨t',rfl⟩:=ry
  cases x with
  | non=>cases rx;exact SeqAt.EqAt.str_none a t'
  | bl b=>cases rx;exact SeqAt.EqAt.str_bool a t' b
  | int b=>obtain ⟨t,rfl⟩:=rx;exact SeqAt.EqAt.str_int a t' b t
  | str b=>obtain ⟨t,rfl⟩:=rx;exact SeqAt.EqAt.str_str a t' b t
  | _=>exact absurd (show false=true from fx) Bool.false_ne_true
 | _=>exact absurd (show false=true from fy) Bool.false_ne_true
def eqU (x:V) (u:Value):Bool:=match u with
 | .none=>eqV .non x
 | .bool b=>eqV (.bl b) x
 | .int i _=>eqV (.int i) x
 | .str z _=>eqV (.str z) x
 | _=>false
theorem Du {x y:V} {u:Value} (r:RelV y u) (f:Ao y=true):eqU x u=eqV y x:=by
 cases y with
 | non=>cases r;rfl
 | bl b=>cases r;rfl
 | int i=>obtain ⟨t,rfl⟩:=r;rfl
 | str z=>obtain ⟨t,rfl⟩:=r;rfl
 | _=>exact absurd (show false=true from f) Bool.false_ne_true
theorem Ea {x:V}:∀ {xs:List V} {us:List Value},Vals xs us->xs.all Ao=true->us.any (eqU x)=xs.any fun y=>eqV y x
 | _,_,.nil,_=>rfl
 | y::xs,u::us,.cons r t,f=>by
  rw [List.all_cons,Bool.and_eq_true] at f
  rw [List.any_cons,List.any_cons,Du r f.1,Ea t f.2]
theorem DK {A:Around} {s:Shared} {x:V} {v:Value} (rx:RelV x v) (fx:Ao x=true):∀ {xs:List V} {us:List Value},Vals xs us->xs.all Ao=true->∀ u∈us,SeqAt.EqAt A s u v (eqU x u)
 | _,_,.nil,_=>fun u hu=>by cases hu
 | y::xs,u::us,.cons r t,f=>fun u' hu=>by
  rw [List.all_cons,Bool.and_eq_true] at f
  rcases List.mem_cons.mp hu with rfl | hu
  ·rw [Du r f.1];exact KS r rx f.1 fx
  ·exact DK rx fx t f.2 u' hu
def inV (x:V) (xs:List V):Bool:=xs.any fun y=>eqV y x
def rIn (K:W.Frag) (neg:Bool):R2:=fun x y H Q=>∃ p xs,y=.ref p/\(SqL K H p xs\/SqT K H p xs)/\Ao x=true/\xs.all Ao=true/\Q (.bl (if neg then !inV x xs else inV x xs)) H
theorem M7:OpR X (compareOp .In) (rIn X.K false):=by
 intro pins s σ H x y v u Q I rx ry h
 obtain ⟨p,xs,rfl,hq,fx,fs,q⟩:=h
 cases ry
 rcases hq with hq | hq
 ·obtain ⟨its,r,pl,hz⟩:=I.list hq
  refine SeqAt.in_listAt (eqU x) pl.isList (fun w hw=>DK rx fx r fs w (by simpa using hw)) ⟨.bl _,H,I,rfl,?_⟩
  rw [show its.toArray.any (eqU x)=its.any (eqU x) by simp,Ea r fs]
  exact q
 ·obtain ⟨its,r,pl,hz⟩:=I.tuple hq
  refine SeqAt.in_tupleAt (eqU x) pl (fun w hw=>DK rx fx r fs w (by simpa using hw)) ⟨.bl _,H,I,rfl,?_⟩
  rw [show its.toArray.any (eqU x)=its.any (eqU x) by simp,Ea r fs]
  exact q
theorem call_tuple_of:CallR X (.type "tuple") (fun xs H Q=>∃ p ys,xs=[.ref p]/\((SqL X.K H p ys/\∀ l,H l=none->Q (.ref l) (upd H l (.tup ys)))\/(SqT X.K H p ys/\Q (.ref p) H))):=by
 intro pins s σ H xs us Q I r h
 obtain ⟨p,ys,rfl,h⟩:=h
 obtain ⟨u,rfl,rx⟩:=Bk r
 cases rx
 rcases h with ⟨hq,q⟩ | ⟨hq,q⟩
 ·obtain ⟨its,r',pl,hz⟩:=I.list hq
  have hlen:=r'.length
  refine call_tuple_list pl.isList (fun h' kp=>?_) (by simp only [List.size_toArray] <;> lia)
  have I1:Inv X pins σ H { s with heap:=h' }:=I.kept (t':=s.toks) kp
  have I2:Inv X pins σ (upd H h'.objs.size (.tup ys)) { s with heap:=h'.push { cls:=.type "tuple",data:=.seq its.toArray } } :=
   I1.laid (t':=s.toks) (fun b o e=>Heap.get?_push_of_some _ e) (Nat.le_refl _) (show ObjOk X.prog X.w _ _ _ (.tup ys) from ⟨hz,its,r',IsTupN.new _ _⟩)
  exact ⟨.ref h'.objs.size,_,I2,rfl,q _ (I1.hok.fresh (Nat.le_refl _))⟩
 ·obtain ⟨its,r',pl,hz⟩:=I.tuple hq
  exact call_tuple_same pl ⟨.ref p,H,I,rfl,q⟩
def tyV (K:W.Frag) (T:String) (x:V) (H:Hp):Prop:=match x with
 | .str _=>T = "str"
 | .int _=>T = "int"
 | .ref p=>(T = "list" /\ ∃ xs,SqL K H p xs)\/(T = "tuple" /\ ∃ o,K.lookup p=some o/\o.cls=.type "tuple" /\ o.dict=none) \/
  (T = "dict" /\ ((∃ kvs,H p=some (.dK kvs))\/∃ kvs,H p=some (.dT kvs)))\/(T = "set" /\ ∃ S n,H p=some (.set S n))
 | _=>False
theorem OJ {pins:List (Addr × Obj)} {σ:St} {H:Hp} {s:Shared} {T:String} {x:V} {v:Value} (I:Inv X pins σ H s) (r:RelV x v) (ty:tyV X.K T x H) :
 s.TypeIs v T/\∀ a,v=.ref a->∃ ob,s.heap.get? a=some ob/\ob.dict=none:=by
 cases x with
 | str z =>
  obtain ⟨t,rfl⟩:=r
  cases (show T = "str" from ty)
  exact ⟨typeIs_str s z t,fun _ e=>nomatch e⟩
 | int i =>
  obtain ⟨t,rfl⟩:=r
  cases (show T = "int" from ty)
  exact ⟨typeIs_int s i t,fun _ e=>nomatch e⟩
 | ref p =>
  cases r
  rcases ty with ⟨rfl,xs,hq⟩ | ⟨rfl,o,hk,hc,hd⟩ | ⟨rfl,hk⟩ | ⟨rfl,S,n,hk⟩
  ·obtain ⟨its,_,pl,_⟩:=I.list hq
   refine ⟨pl.isList.typeIs,fun a e=>?_⟩
   cases e
   obtain ⟨o,n,e,c,hd,_⟩:=pl
   exact ⟨o,e,hd⟩
  ·refine ⟨⟨o,I.kIn p o hk,hc⟩,fun a e=>?_⟩
   cases e
   exact ⟨o,I.kIn _ o hk,hd⟩
  ·have z:∃ o,s.heap.get? p=some o/\o.ExactDict:=by
    rcases hk with ⟨kvs,hk⟩ | ⟨kvs,hk⟩
    ·obtain ⟨_,_,_,_,o,_,_,e,ex,_⟩:=I.hok p _ hk
     exact ⟨o,e,ex⟩
    ·obtain ⟨_,_,_,_,o,_,_,e,ex,_⟩:=I.hok p _ hk
     exact ⟨o,e,ex⟩
   obtain ⟨o,e,ex⟩:=z
   refine ⟨⟨o,e,ex.1⟩,fun a e2=>?_⟩
   cases e2
   exact ⟨o,e,ex.2.1⟩
  ·obtain ⟨o,_,_,_,e,ex,_⟩:=I.hok p _ hk
   refine ⟨⟨o,e,ex.1⟩,fun a e2=>?_⟩
   cases e2
   exact ⟨o,e,ex.2.1⟩
 | _=>exact False.elim ty
def tBM (K:W.Frag) (T:String) (r:V->List V->Hp->VK->Prop) (to:TE) (t:TA):TE:=fun σ H Q=>to σ H fun x H1=>tyV K T x H1/\t σ H1 fun xs H2=>r x xs H2 Q
variable {o e:Expr} {es:List Expr} {to:TE} {t:TA} {name:Str} {apos cpos:Pos} {T id:String} {r:V->List V->Hp->VK->Prop}
theorem FQ (pa:PlainAttrs T) (slot:Slot T name id) (hty:typeOf (.builtin id)=pure (.type "method_descriptor")) (hm:MtR X id r) (ho:PE X o to) (ha:PA X (e::es) t)
 (hbase:attributeBase o name X.env (eval o X.env)=eval o X.env:=by rfl)
 (hfew:((backTo cpos (starEach (e::es) X.env)).all (fun x=>!x.1) && (backToKw cpos (keywordEach [] X.env)).all (fun x=>x.1.isSome)
   && decide ((e::es).length+([]:List Keyword).length+(if ([]:List Keyword).isEmpty then 0 else 1) < 30))=true:=by rfl)
 (hline:(apos.endLine == cpos.line)=true:=by rfl) (hs:starEach (e::es) X.env=(false,eval e X.env)::starEach es X.env:=by rfl) (hplain:(backTo cpos (starEach es X.env)).any (·.1)=false:=by rfl) :
 PE X (.Call (.Attribute o name apos) (e::es) [] cpos) (tBM X.K T r to t):=by
 intro pins s σ H Q I h
 refine wpAny_Call_method_late hbase hfew hline rfl (thn (ho pins s σ H _ I h) fun v s1 ⟨x,H1,I1,r1,ty,q1⟩=>?_)
 obtain ⟨h1,h2⟩:=OJ I1 r1 ty
 refine ⟨T,id,pa,slot,hty,h1,h2,?_⟩
 have hA:=ha cpos pins s1 σ H1 _ I1 q1
 rw [hs] at hA ⊢
 refine Calls.callWith_builtin (by show (false || (backTo cpos (starEach es X.env)).any (·.1))=false;rw [hplain] <;> rfl) (Calls.evalArgs_plain ?_)
 exact thn hA fun us s2 ⟨vs,H2,I2,r2,q2⟩=>hm pins s2 σ H2 x vs v us Q I2 r1 r2 q2
end
def MtM (X:Cx) (id:String) (r:V->List V->Hp->VK->Prop):Prop :=
 ∀ (pins:List (Addr × Obj)) (s:Shared) (σ:St) (H:Hp) (x:V) (xs:List V) (v:Value) (us:List Value) (Q:VK),Inv X pins σ H s->RelV x v->Vals xs us->r x xs H Q ->
  wpAny (model X.prog X.w) X.A (call (.builtin id) (v::us)) (EP X pins σ Q) X.xe s
theorem Vals.one:∀ {x:V} {us:List Value},Vals [x] us->∃ u,us=[u]/\RelV x u
 | _,_,.cons r .nil=>⟨_,rfl,r⟩
theorem Vals.zero:∀ {us:List Value},Vals [] us->us=[]
 | _,.nil=>rfl
theorem Vals.rep {xs:List V} {us:List Value} (h:Vals xs us):∀ k:Nat,Vals (List.replicate k xs).flatten (List.replicate k us).flatten
 | 0=>.nil
 | k+1=>by
  rw [List.replicate_succ,List.replicate_succ,List.flatten_cons,List.flatten_cons]
  exact Vals.append h (Vals.rep h k)
theorem G8 (its:List Value):∀ (k:Nat) (acc:List Value),
 List.foldl (fun x1 x2=>x1++x2) acc.toArray (List.replicate k its.toArray)=(acc++(List.replicate k its).flatten).toArray
 | 0,acc=>by simp
 | k+1,acc=>by
  have e:acc.toArray++its.toArray=(acc++its).toArray:=by simp
  have e2:(acc++its)++(List.replicate k its).flatten=acc++(List.replicate (k+1) its).flatten:=by
   rw [List.replicate_succ,List.flatten_cons,List.append_assoc]
  rw [<- e2,<- G8 its k (acc++its),<- e,List.replicate_succ,List.foldl_cons]
section
variable {X:Cx} {pins:List (Addr × Obj)} {σ:St} {H:Hp} {s:Shared} {l b:Addr} {xs ys zs:List V}
theorem Inv.lset {its its':List Value} {n:Nat} {f:Array Value->Array Value} {t':Nat} (I:Inv X pins σ H s) (hH:H l=some (.lst xs))
 (e:s.heap.get? l=some { cls:=.type "list",data:=.seq its.toArray n }) (hf:f its.toArray=its'.toArray) (hv:Vals ys its') (hz:ys.length<=sizeLine) :
 Inv X pins σ (upd H l (.lst ys)) { s with heap:=s.heap.update l (Obj.mapSeq f),toks:=t' }:=by
 have q:=PySem.IsL.update e f
 rw [hf] at q
 refine I.write (x:=l) (e:=l) (by rw [hH];exact trivial) (.inl rfl) (fun b' u hb hu=>(Heap.get?_update_other s.heap (Obj.mapSeq f) (Ne.symm hb)).trans hu) ⟨_,q⟩ ?_
 exact ⟨hz,its',_,hv,q⟩
theorem Inv.lnew {its:List Value} {t':Nat} (I:Inv X pins σ H s) (hv:Vals ys its) (hz:ys.length<=sizeLine) :
 Inv X pins σ (upd H s.heap.objs.size (.lst ys)) { s with heap:=s.heap.push { cls:=.type "list",data:=.seq its.toArray },toks:=t' } :=
 I.laid (fun _ _ q=>Heap.get?_push_of_some _ q) (Nat.le_refl _) ⟨hz,its,0,hv,Heap.get?_push_size _ rfl⟩
theorem Inv.fresh (I:Inv X pins σ H s):H s.heap.objs.size=none:=I.hok.fresh (Nat.le_refl _)
theorem Inv.lstM (I:Inv X pins σ H s) (hH:H l=some (.lst xs)):xs.length<=sizeLine/\∃ (its:List Value) (n:Nat),Vals xs its/\xs.length=its.length/\s.heap.get? l=some { cls:=.type "list",data:=.seq its.toArray n }:=by
 obtain ⟨z,its,n,r,e⟩:=I.hok l _ hH
 exact ⟨z,its,n,r,r.length,e⟩
theorem JA {n:Nat} (h:n<=sizeLine):Builtin.List.listTooLong n=false:=by
 unfold Builtin.List.listTooLong
 exact decide_eq_false (by lia)
end
section
variable {X:Cx}
def Me:V->List V->Hp->VK->Prop:=fun x vs H Q=>∃ l xs y,x=.ref l/\vs=[y]/\H l=some (.lst xs)/\xs.length < sizeLine/\Q .non (upd H l (.lst (xs++[y])))
theorem My:MtM X "list.append" Me:=by
 intro pins s σ H x vs v us Q I rx rv h
 obtain ⟨l,xs,y,rfl,rfl,hH,hz,q⟩:=h
 cases rx
 obtain ⟨u,rfl,ru⟩:=rv.one
 obtain ⟨z,its,n,r,hl,e⟩:=I.lstM hH
 refine call_meets F.slot_list_append ⟨_,e,rfl⟩ F.entry_list_append (F.args_list_append_2 _ _) (PySem.list_append l its.toArray n u (by rw [List.size_toArray];lia)) ⟨e,?_⟩
 refine ⟨.non,_,I.lset (its':=its++[u]) hH e (by simp) (r.append (.cons ru .nil)) ?_,rfl,q⟩
 rw [List.length_append,List.length_singleton]
 lia
def Ga:R2:=fun x y H Q=>∃ l b xs zs,x=.ref l/\y=.ref b/\H l=some (.lst xs)/\H b=some (.lst zs)/\xs.length+zs.length<=sizeLine/\∀ p,H p=none->Q (.ref p) (upd H p (.lst (xs++zs)))
theorem Ka:OpR X (binaryOp .Add) Ga:=by
 intro pins s σ H x y v u Q I rx ry h
 obtain ⟨l,b,xs,zs,rfl,rfl,hH,hB,hz,q⟩:=h
 cases rx
 cases ry
 obtain ⟨z,its,n,r,hl,e⟩:=I.lstM hH
 obtain ⟨z2,its2,n2,r2,hl2,e2⟩:=I.lstM hB
 refine PySem.P.add_list e e2 ?_ (by rw [List.size_toArray,List.size_toArray];lia)
 have ea:its.toArray++its2.toArray=(its++its2).toArray:=by simp
 rw [ea]
 exact ⟨.ref _,_,I.lnew (t':=s.toks) (r.append r2) (by rw [List.length_append];lia),rfl,q _ I.fresh⟩
def G7:R2:=fun x y H Q=>∃ l k xs,x=.ref l/\y=.int k/\H l=some (.lst xs) /\ -(2 ^ 63)<=k/\k < 2 ^ 63/\xs.length * k.toNat<=sizeLine /\
 ∀ p,H p=none->Q (.ref p) (upd H p (.lst (List.replicate k.toNat xs).flatten))
theorem OR {α:Type} (xs:List α) (k:Nat):(List.replicate k xs).flatten.length=k * xs.length:=by
 induction k with
 | zero=>simp
 | succ k ih=>rw [List.replicate_succ,List.flatten_cons,List.length_append,ih,Nat.succ_mul,Nat.add_comm]
theorem LF:OpR X (binaryOp .Mult) G7:=by
 intro pins s σ H x y v u Q I rx ry h
 obtain ⟨l,k,xs,rfl,rfl,hH,h1,h2,hz,q⟩:=h
 cases rx
 obtain ⟨t,rfl⟩:=ry
 obtain ⟨z,its,n,r,hl,e⟩:=I.lstM hH
 have hlen:its.toArray.size * k.toNat<=sizeLine:=by rw [List.size_toArray,<- hl];exact hz
 have hcap:¬ its.toArray.size * k.toNat > (2 ^ 63 - 1) / 8:=by
  have:(sizeLine:Nat)<=(2 ^ 63 - 1) / 8:=by decide
  lia
 have hfit:¬ (!Builtin.List.listFitsIndex k)=true:=by
  rw [fitsIndex_both h1 h2]
  exact Bool.false_ne_true
 have hlong:¬ Builtin.List.listTooLong (its.toArray.size * k.toNat)=true:=by
  rw [JA hlen]
  exact Bool.false_ne_true
 have hnew:List.foldl (fun x1 x2=>x1++x2) #[] (List.replicate (if its.toArray.isEmpty=true then 0 else k.toNat) its.toArray)=(List.replicate k.toNat its).flatten.toArray:=by
  have f0:∀ m:Nat,List.foldl (fun x1 x2=>x1++x2) #[] (List.replicate m its.toArray)=(List.replicate m its).flatten.toArray:=fun m=>by
   have:=G8 its m []
   rw [List.nil_append] at this
   exact this
  rw [f0]
  cases its with
  | nil=>simp
  | cons a r'=>rw [if_neg (by simp)]
 refine wpAny_binaryOp_repeat_ref (T:="list") (U:="int") (by decide) ⟨_,e,rfl⟩ (fun s'=>typeIs_int s' k t) noFill_list_mul F.fills_int_mul F.slot_int_rmul repeat_list F.slot_int_index.lookup
  (call_meets F.slot_int_rmul (typeIs_int s k t) F.entry_int_rmul (F.args_int_rmul_2 _ _) (int___rmul___int_list k t l its.toArray n)
    ⟨e,rfl,⟨_,e,rfl⟩,call_meets F.slot_list_mul ⟨_,e,rfl⟩ F.entry_list_mul (F.args_list_mul_2 _ _) (AutoListH.list___mul___list_int_3 l its.toArray n k t hfit hcap hlong) ⟨e,?_⟩⟩)
 rw [hnew]
 exact ⟨.ref _,_,I.lnew (t':=s.toks) (r.rep k.toNat) (by rw [OR,Nat.mul_comm];exact hz),rfl,q _ I.fresh⟩
end
section
variable {prog:Program} {w:World} {A:Around} {E:Value->Shared->Prop} {s:Shared}
end
section
variable {X:Cx}
end
end L2
namespace Att
open PySem PySem.W PySem.Calls PyProof.Rows
theorem Na {P:Params} {h:Heap}:∀ (ns:List Int) (vs:List Value),WellAll P h vs (ns.map WData.int)->IntsAre vs ns:=by
 intro ns
 induction ns with
 | nil =>
  intro vs w
  rw [List.map_nil] at w
  cases w
  exact .nil
 | cons n ns ih =>
  intro vs w
  rw [List.map_cons] at w
  cases w with
  | cons a b =>
   cases a
   exact .cons _ _ (ih _ b)
theorem MA {l:OpenLaw} {n:Nat} (hn:l.most=some n) {P:Params} {h:Heap} {args:List WData} {vals:List Value}
 (hpre:l.row.toRowW.claim.pre args=true) (hwl:WellAll P h vals args) :
 ∃ a vs ns,vals=[Value.ref a]/\args=[WData.list (ns.map WData.int)]/\h.get? a=some { cls:=.type "list",data:=.seq vs.toArray } /\ IntsAre vs ns/\ns.length<=n:=by
 have hsh:WShape.hasAll [] args [.list .int]=true:=(pre_splitW hpre).1
 have hc:l.pre.holds [] { args:=args } = true:=(pre_splitW hpre).2
 obtain ⟨d,r,rfl,h1,h2⟩:=hasAllW_cons hsh
 obtain rfl:=hasAllW_nil h2
 obtain ⟨xs,rfl,h3⟩:=hasW_list h1
 obtain ⟨ns,rfl⟩:=items_int h3
 have hlen:ns.length<=n:=by
  unfold OpenLaw.pre at hc
  have h4:(WTm.not (.lt (.lit (.int (n:Int))) (.len (.arg 0)))).holds [] { args:=[.list (ns.map .int)] } = true:=by
   have h4:=(holds_andW hc).1
   rw [hn] at h4
   exact h4
  have h5:=condW_of h4 (w_not (w_lt w_lit (w_len_list (w_arg rfl))))
  rw [List.length_map] at h5
  refine Nat.le_of_not_lt fun q=>?_
  have q':(n:Int) < ((ns.length:Nat):Int):=by lia
  first
   | (rw [decide_eq_true q'] at h5;exact absurd h5 (by decide))
   | (simp at h5;lia)
 cases hwl with
 | cons w1 w2 =>
  cases w2
  cases w1 with
  | list ho hall=>exact ⟨_,_,ns,rfl,rfl,ho,Na ns _ hall,hlen⟩
theorem Ku (l:OpenLaw) (args:List WData):l.row.toRowW.claim.post args (.bool true) args=true :=
 postW_of (r:=l.row.toRowW) (X:=(true == true))
  (show WShape.has [] (.bool true) .bool=true by first | rfl | decide | simp [WShape.has,WShape.arms,WShape.armsAll])
  (show (WTm.eq .res (.lit (.bool true))).value [] { args:=args,res:=some (.bool true),after:=args } = some (.bool (true == true)) from w_eq_bool (w_res rfl) w_lit) rfl
theorem attach_call {l:OpenLaw} {n:Nat} {q:Program} {loose:List Str} {XP:(Str->Option Value)->Heap->Prop} {YP:World->Heap->Prop} {d:DefRec}
 (hn:l.most=some n) (hdf:d.params.defaults=[])
 (call:∀ (w:World) (s₀ s₁:Shared) (mg mb:Str->Option Value) (fa:Addr) (o:Obj) (pm cd doc:Value) (a:Addr) (vs:List Value) (ns:List Int),
   Ground q loose [] XP w s₀ mg mb s₁.heap->YP w s₁.heap ->
   s₁.heap.get? fa=some o->o.data=.func (docDef d.name d.params d.body d.scope pm cd doc)->s₁.heap.CodeRec cd d.name->mg d.name=some (.ref fa) ->
   s₁.heap.get? a=some { cls:=.type "list",data:=.seq vs.toArray } -> IntsAre vs ns->ns.length<=n->s₁.gens = #[] ->
   codeAny (model l.prog w) callerA (.call (.ref fa) ⟨[.ref a],[]⟩) (fun r s'=>r=.ok (.ret (.bool true))/\OldK s₁.heap s'.heap/\s'.os=s₁.os/\AllBare s'.gens) s₁) :
 WalkO q loose XP YP l.row.toRowW d [] (fun f vs=>PySem.call f vs):=by
 intro w s₀ s₁ mg mb G Y fa o pm cd doc dV kV ho hd hcd hD hmg hg args vals as hpre hlay hrd hwl hlo
 obtain rfl:dV=.none:=Dflts.none hD hdf
 obtain rfl:kV=.none:=Dflts.noKw hD
 obtain ⟨a,vs,ns,rfl,rfl,hobj,hints,hlen⟩:=MA hn hpre hwl
 refine enter_call (codeAny_mono (call w s₀ s₁ mg mb fa o pm cd doc a vs ns G Y ho (fd_plain hd) hcd hmg hobj hints hlen hg) fun r s' hq=>?_)
 obtain ⟨rfl,h2,h3,h4⟩:=hq
 exact ⟨.inl ⟨.bool true,.bool true,[],rfl,fun _=>rfl,.bool true,Ku l _,fun _=>⟨List.Pairwise.nil,fun _ hm=>(nomatch hm)⟩⟩,h2,h3,h4⟩
section
variable {prog:Program} {w:World} {A:Around} {E:Value->Shared->Prop} {s:Shared} {K:Frag}
def D9 (h:Heap):Heap:={ h with objs:=#[] }
theorem Gf (h:Heap) (b:Addr):(D9 h).get? b=none:=by
 cases e:(D9 h).get? b with
 | none=>rfl
 | some o=>exact absurd (Heap.lt_size e) (Nat.not_lt_zero _)
theorem N9 {h:Heap} {L:Addr} {m:Str->Option Value} (n:h.Ns L m):Fr (D9 h) L h m :=
 ⟨n,fun b o e=>(by rw [Gf] at e;cases e),Nat.zero_le _⟩
end
end Att
namespace L2
open PySem PySem.Spec PyProof.Rows
theorem Gg:∀ {vs:List Value} {ns:List Int},IntsAre vs ns->Vals (ns.map V.int) vs
 | _,_,.nil=>.nil
 | _,_,.cons n t h=>.cons ⟨t,rfl⟩ (Gg h)
def FL (H:Hp):Prop:=∀ b,H b=none\/∃ o xs,H b=some (.frz o (.lst xs))
theorem J7 {P:Program} {w:World} {K:W.Frag} {mg mb:Str->Option Value} {CX:CXT} {k:Nat} {fa a:Addr} {fd:FuncData} {x:Str} {sp:Sp} {s₁:Shared} {vs:List Value} {ns:List Int}
 (KX:K.In s₁.heap) (hns:s₁.heap.Ns mainGlobals mg) (hb:s₁.heap.Ns builtinsNs mb) (hbb:∀ x:Str,x ≠ "__name__" -> mb x=bootBuiltins x) (hlim:s₁.heap.NoLimit) (hg:s₁.gens = #[])
 (ha:s₁.heap.get? a=some { cls:=.type "list",data:=.seq vs.toArray }) (hi:IntsAre vs ns) (hl:ns.length<=sizeLine) (hr:Room k callerA)
 (F:∀ base:Heap,K.In base->base.Ns mainGlobals mg->FnOk P w K mg base CX k fa fd [x] sp) (hbind:∀ (s:Shared) (u:Value),BindsTo s fd ⟨[u],[]⟩ [(x,u)])
 (hsp:∀ H:Hp,FL H->SqL K H a (ns.map V.int)->sp [.ref a] H (fun v _=>v=.bl true) fun _ _ _=>False)
 (hCX:∀ H e s',CX [] H s₁ (fun _ _ _=>False) e s'->False) :
 codeAny (model P w) callerA (.call (.ref fa) ⟨[.ref a],[]⟩) (fun r s'=>r=.ok (.ret (.bool true))/\OldK s₁.heap s'.heap/\s'.os=s₁.os/\AllBare s'.gens) s₁:=by
 have rv:=Gg hi
 have lenV:=hi.length
 -- from an abstract heap in which nothing but the script may be tracked
 have core:∀ H:Hp,FL H->SqL K H a (ns.map V.int)->HOk P w H s₁.heap->(∀ b,H b≠none->b=a)->(H a≠none->K.lookup a=none) ->
  codeAny (model P w) callerA (.call (.ref fa) ⟨[.ref a],[]⟩) (fun r s'=>r=.ok (.ret (.bool true))/\OldK s₁.heap s'.heap/\s'.os=s₁.os/\AllBare s'.gens) s₁:=by
  intro H hO hS hok hA hK
  have base_of:∀ {b:Addr} {o:Obj},s₁.heap.get? b=some o->H b=none->(Bq s₁.heap H).get? b=some o:=fun e n=>Ju e n
  have noA:∀ {b:Addr} {o:Obj} {es:Array DictEntry} {ep:Nat},s₁.heap.get? b=some o->o.data=.dict es ep->H b=none:=fun {b o es ep} e d=>by
   cases q:H b with
   | none=>rfl
   | some u =>
    have e':b=a:=hA b (by rw [q];simp)
    subst e'
    rw [ha] at e;cases e
    have d':Data.seq vs.toArray _=Data.dict es ep:=d
    cases d'
  have nsK:∀ {b:Addr} {m:Str->Option Value},s₁.heap.Ns b m->(Bq s₁.heap H).Ns b m:=fun {b m} ⟨o,es,ep,e,d,r⟩=>⟨o,es,ep,base_of e (noA e d),d,r⟩
  have hKb:K.In (Bq s₁.heap H):=fun b o e=>base_of (KX b o e) (by
   cases q:H b with
   | none=>rfl
   | some u =>
    have e':b=a:=hA b (by rw [q];simp)
    subst e'
    rw [hK (by rw [q];simp)] at e;cases e)
  have hM:Mod K mg (Bq s₁.heap H):=⟨hKb,nsK hns,⟨mb,nsK hb,hbb⟩,let ⟨mc,h1,h2⟩:=hlim;⟨mc,nsK h1,h2⟩⟩
  have e0:Env0 P w K mg (Bq s₁.heap H) callerA [] s₁ H:=⟨rfl,hM,fun b o e=>LU e,Nat.le_of_eq (MV _ _),trivial,fun b hb=>absurd (show b∈([]:List Addr) from hb) (by simp),hok,.of_eq hg⟩
  refine codeAny_mono ((F _ hKb (nsK hns)).run callerA [] s₁ H ⟨[.ref a],[]⟩ [.ref a] [.ref a] _ _ hr e0 (hbind s₁ (.ref a)) (.cons rfl .nil) (hsp H hO hS)) fun r s' h=>?_
  cases r with
  | error e=>exact (hCX H e s' h).elim
  | ok fl =>
   cases fl with
   | next=>exact False.elim h
   | brk=>exact False.elim h
   | cont=>exact False.elim h
   | ret u =>
    obtain ⟨v,H',os,bare,un,hok',r',q⟩:=h
    have q':v=.bl true:=q
    subst q'
    obtain rfl:u=Value.bool true:=r'
    refine ⟨rfl,OldK.of_keep fun b o e=>?_,os,bare⟩
    cases q:H b with
    | none=>exact un.keep b o e q (by intro z;exact absurd (show b∈([]:List Addr) from z) (by simp)) (by simp)
    | some u =>
     rcases hO b with z | ⟨ob,xs,z⟩
     ·rw [q] at z;cases z
     ·have z2:=un.frzs b ob _ z
      obtain ⟨e1,_⟩:=hok b _ z
      obtain ⟨e2,_⟩:=hok' b _ z2
      rw [e] at e1;cases e1
      exact e2
 cases hk:K.lookup a with
 | some o =>
  -- the script is one of the module's own objects
  have e:=KX a o hk
  rw [ha] at e
  cases e
  refine core (fun _=>none) (fun _=>.inl rfl) (.inr ⟨_,vs.toArray,_,hk,rfl,rfl,rfl,by rw [List.size_toArray,lenV];exact hl,by simpa using rv⟩) (fun b u z=>by have z':(none:Option HO)=some u:=z;cases z') (fun b z=>absurd rfl z) fun z=>absurd rfl z
 | none =>
  refine core (fun b=>if b=a then some (.frz { cls:=.type "list",data:=.seq vs.toArray } (.lst (ns.map V.int))) else none) (fun b=>?_) (.inl (.inr ⟨{ cls:=.type "list",data:=.seq vs.toArray },if_pos rfl⟩)) (fun b u z=>?_) (fun b z=>?_) fun _=>hk
  ·by_cases hb:b=a
   ·exact .inr ⟨_,_,if_pos hb⟩
   ·exact .inl (if_neg hb)
  ·by_cases hb:b=a
   ·have z':=(if_pos hb).symm.trans z
    cases z'
    subst hb
    exact ⟨ha,by rw [List.length_map];exact hl,vs,_,rv,ha⟩
   ·have z':=(if_neg hb).symm.trans z
    cases z'
  ·by_cases hb:b=a
   ·exact hb
   ·exact absurd (if_neg hb) z
theorem walk_of {l:PySem.W.OpenLaw} {n k:Nat} {q:Program} {loose:List Str} {XP:(Str->Option Value)->Heap->Prop} {YP:World->Heap->Prop} {d:DefRec} {K:Params->W.Frag} {CX:World->CXT} {sp:World->Sp} {x:Str}
 (hn:l.most=some n) (hn2:n<=sizeLine) (hdf:d.params.defaults=[]) (hr:Room k callerA)
 (hY:∀ (w:World) (h:Heap),YP w h->(K w.params).In h)
 (F:∀ (w:World) (mg:Str->Option Value) (fa:Addr) (h:Heap),(K w.params).In h->h.Ns mainGlobals mg->mg d.name=some (.ref fa) ->
   ∃ fd:FuncData,(∀ (s:Shared) (u:Value),BindsTo s fd ⟨[u],[]⟩ [(x,u)]) /\
    ∀ base:Heap,(K w.params).In base->base.Ns mainGlobals mg->FnOk l.prog w (K w.params) mg base (CX w) k fa fd [x] (sp w))
 (hsp:∀ (w:World) (H:Hp) (a:Addr) (ns:List Int),ns.length<=n->FL H->SqL (K w.params) H a (ns.map V.int)->sp w [.ref a] H (fun v _=>v=.bl true) fun _ _ _=>False)
 (hCX:∀ (w:World) (H:Hp) (s:Shared) (e:Value) (s':Shared),CX w [] H s (fun _ _ _=>False) e s'->False) :
 PySem.W.WalkO q loose XP YP l.row.toRowW d [] (fun f vs=>PySem.call f vs):=by
 refine Att.attach_call hn hdf fun w s₀ s₁ mg mb fa o pm cd doc a vs ns G Y ho hd hcd hmg hobj hints hlen hg=>?_
 have KX:=hY w _ Y
 obtain ⟨fd,hb,hF⟩:=F w mg fa _ KX G.T.g hmg
 exact J7 KX G.T.g G.T.b G.T.builtins G.T.nolimit hg hobj hints (Nat.le_trans hlen hn2) hr hF hb (fun H hO hS=>hsp w H a ns hlen hO hS) fun H e s'=>hCX w H s₁ e s'
def AW (s:Stmt):Arguments:=match s with
 | .FunctionDef _ a _ _ _ _ _ _ _ _=>a
 | _=>{ posonlyargs:=[],args:=[],vararg:=none,kwonlyargs:=[],kw_defaults:=[],kwarg:=none,defaults:=[] }
def AV (s:Stmt):List Stmt:=match s with
 | .FunctionDef _ _ b _ _ _ _ _ _ _=>b
 | _=>[]
def AK (s:Stmt):Scope:=match s with
 | .FunctionDef _ _ _ _ _ _ sc _ _ _=>sc
 | _=>{ kind:=.function,names:=[],isGenerator:=false,isCoroutine:=false }
abbrev CX0:CXT:=fun _ _ _ _ _ _=>False
abbrev E0:XK:=fun _ _ _=>False
theorem AJ {X:Cx}:Eg CX0 X E0:=fun _ _ _ _ _ _ _ h=>h.elim
structure Fun (K:W.Frag) (x qual:Str) (st:Stmt) (f:Addr) (fd:FuncData):Prop where
 ex:∃ (oc:Value) (od:Option Addr) (kV doc pm:Value) (an:Option Addr) (cdv ct:Value) (osl:Array (Option Value)),
  fd=PySem.W.fnOf x qual (AW st) (AV st) (AK st) .none kV doc pm an cdv ct/\K.lookup f=some ⟨oc,od,.func fd,osl⟩/\PySem.W.codeIn K cdv qual=true
 kp:PySem.W.keepIn K (.ref f)=true
section
variable {P:Program} {w:World} {K:W.Frag} {mg:Str->Option Value} {base:Heap}
theorem Fun.ok {x qual:Str} {st:Stmt} {f:Addr} {fd:FuncData} {N ps:List Str} {k:Nat} {sp:Sp} (F:Fun K x qual st f fd) (S:FnScope N ps (AK st)) (len:∀ vs H Q E,sp vs H Q E->vs.length=ps.length)
 (hbody:∀ (cdv:Value) (A:Around) (outer:List Env) (s:Shared) (H:Hp) (vs:List V) (Q:VK) (E:XK),Room k (A.deeper (envOfC qual (AK st) s.heap.objs.size f cdv))->sp vs H Q E ->
   ∃ t,PSs (CV CX0 P w K mg base N qual (AK st) f cdv A outer s H E).nox (AV st) t/\t { nx:=fun _ H'=>Q .non H',rt:=Q } (start N vs) H):FnOk P w K mg base CX0 (k+1) f fd ps sp:=by
 obtain ⟨oc,od,kV,doc,pm,an,cdv,ct,osl,rfl,lk,hcd⟩:=F.ex
 refine M6 lk hcd S len fun A outer s H vs Q E hr hsp=>?_
 obtain ⟨t,h,q⟩:=hbody cdv A outer s H vs Q E hr hsp
 exact ⟨t,h.nox,q⟩
theorem Fun.binds {x qual:Str} {st:Stmt} {f:Addr} {fd:FuncData} {ps:List Str} (F:Fun K x qual st f fd)
 (h:∀ (kV doc pm:Value) (an:Option Addr) (cdv ct:Value) (us:List Value),us.length=ps.length->bindArgs (PySem.W.fnOf x qual (AW st) (AV st) (AK st) .none kV doc pm an cdv ct) ⟨us,[]⟩=pure (ps.zip us)):Binds K fd ps []:=by
 obtain ⟨oc,od,kV,doc,pm,an,cdv,ct,osl,rfl,lk,hcd⟩:=F.ex
 exact .all (h kV doc pm an cdv ct)
theorem Ag {x qual:Str} {st:Stmt} {f:Addr} {oc:Value} {od an:Option Addr} {osl:Array (Option Value)} {kV doc pm cdv ct:Value} (l:K.lookup f=some ⟨oc,od,.func (PySem.W.fnOf x qual (AW st) (AV st) (AK st) .none kV doc pm an cdv ct),osl⟩)
 (c:PySem.W.codeIn K cdv qual=true) (k:PySem.W.keepIn K (.ref f)=true):Fun K x qual st f (PySem.W.fnOf x qual (AW st) (AV st) (AK st) .none kV doc pm an cdv ct):=⟨⟨oc,od,kV,doc,pm,an,cdv,ct,osl,rfl,l,c⟩,k⟩
end
theorem Ad {n:Nat} (h:n<=1000):n < sizeLine:=Nat.lt_of_le_of_lt h (by decide)
section
variable {X:Cx}
end
theorem Af {c A B:Prop} [Decidable c] (h1:c->A) (h2:¬ c->B):if c then A else B:=by
 by_cases h:c
 ·rw [if_pos h]
  exact h1 h
 ·rw [if_neg h]
  exact h2 h
def Same (H H':Hp):Prop:=∀ b o,H b=some o->H' b=some o
theorem Same.refl (H:Hp):Same H H:=fun _ _ h=>h
theorem Same.trans {H H1 H2:Hp} (a:Same H H1) (b:Same H1 H2):Same H H2:=fun c o h=>b c o (a c o h)
theorem Same.free {H H':Hp} (e:Same H H') {l:Addr} (h:H' l=Option.none):H l=Option.none:=by
 cases q:H l with
 | none=>rfl
 | some o =>
  rw [e l o q] at h
  cases h
theorem Same.seq {K:W.Frag} {H H':Hp} {a:Addr} {xs:List V} (e:Same H H') (h:SqL K H a xs):SqL K H' a xs:=by
 rcases h with (h | ⟨o,h⟩) | h
 ·exact .inl (.inl (e _ _ h))
 ·exact .inl (.inr ⟨o,e _ _ h⟩)
 ·exact .inr h
theorem DD:∀ (names:List (Str × NameKind)) (n:Nat) (acc:List (Str × Addr)),cellsFrom n names acc=cellsFrom n names []++acc
 | [],_,_=>rfl
 | (name,kind)::r,n,acc=>by
  unfold cellsFrom
  split
  ·rw [DD r (n+1) ((name,n)::acc),DD r (n+1) [(name,n)],List.append_assoc];rfl
  ·exact DD r n acc
theorem cellsFrom_kind:∀ (names:List (Str × NameKind)) (n:Nat) (acc:List (Str × Addr)) (x:Str) (c:Addr),(x,c)∈cellsFrom n names acc->(x,c)∈acc\/(x,NameKind.cell)∈names
 | [],_,_,_,_,h=>.inl h
 | (name,kind)::r,n,acc,x,c,h=>by
  unfold cellsFrom at h
  split at h
  ·rename_i hk
   rcases cellsFrom_kind r _ _ x c h with h | h
   ·rcases List.mem_cons.mp h with e | h
    ·cases e
     have:kind=.cell:=by simpa using hk
     subst this
     exact .inr List.mem_cons_self
    ·exact .inl h
   ·exact .inr (List.mem_cons_of_mem _ h)
  ·rcases cellsFrom_kind r _ _ x c h with h | h
   ·exact .inl h
   ·exact .inr (List.mem_cons_of_mem _ h)
theorem D1 {α:Type} {x:Str}:∀ (l r:List (Str × α)),(l++r).lookup x=(match l.lookup x with | some c=>some c | none=>r.lookup x)
 | [],r=>rfl
 | (k,v)::l,r=>by
  show List.lookup x ((k,v)::(l++r))=_
  rw [List.lookup_cons,List.lookup_cons]
  cases x == k with
  | true=>rfl
  | false=>exact D1 l r
theorem Fy {α:Type} {x:Str}:∀ {l:List (Str × α)},(∀ c,(x,c)∉l)->l.lookup x=none
 | [],_=>rfl
 | (k,v)::l,h=>by
  rw [List.lookup_cons]
  cases hb:x == k with
  | true =>
   have:x=k:=by simpa using hb
   subst this
   exact absurd List.mem_cons_self (h v)
  | false=>exact Fy fun c hc=>h c (List.mem_cons_of_mem _ hc)
def Aj (cells:List (Str × Addr)):List (Str × NameKind)->List (Str × Addr)->List (Str × Addr)
 | [],acc=>acc
 | (n,k)::r,acc=>if k == .free then Aj cells r ((n,(cells.lookup n).getD 0)::acc) else Aj cells r acc
theorem Gk {scope:Scope} {env:Env} (h:∀ y∈scope.names,y.2=.free->∃ c,env.cells.lookup y.1=some c):closureFor scope env=pure (Aj env.cells scope.names []):=by
 have all:∀ (names:List (Str × NameKind)) (acc:List (Str × Addr)),(∀ y∈names,y.2=.free->∃ c,env.cells.lookup y.1=some c) ->
  (forIn names acc fun (x:Str × NameKind) cs=>(if (x.2 == NameKind.free)=true then (do let a <- cellOf env x.1;pure (ForInStep.yield ((x.1,a)::cs))) else pure (ForInStep.yield cs):Sem (ForInStep (List (Str × Addr)))))=(pure (Aj env.cells names acc):Sem _):=by
  intro names
  induction names with
  | nil=>intro acc _;rfl
  | cons y r ih =>
   intro acc hy
   obtain ⟨n,k⟩:=y
   rw [List.forIn_cons]
   have hr:∀ y∈r,y.2=.free->∃ c,env.cells.lookup y.1=some c:=fun y hm=>hy y (List.mem_cons_of_mem _ hm)
   unfold Aj
   by_cases hk:(k == NameKind.free)=true
   ·obtain ⟨c,e⟩:=hy (n,k) List.mem_cons_self (by simpa using hk)
    rw [if_pos hk,if_pos hk]
    have e2:cellOf env n=pure c:=by unfold cellOf;rw [show env.cells.lookup n=some c from e]
    rw [e2]
    rw [show env.cells.lookup n=some c from e]
    exact ih _ hr
   ·rw [if_neg hk,if_neg hk]
    exact ih _ hr
 have q:=all scope.names [] h
 unfold closureFor
 refine Eq.trans ?_ (congrArg (fun t=>t >>= pure) q |>.trans (by rfl))
 congr 1
theorem clOf_mem {cells:List (Str × Addr)}:∀ (names:List (Str × NameKind)) (acc:List (Str × Addr)) (x:Str) (c:Addr),(∀ y∈names,y.2=.free->∃ c,cells.lookup y.1=some c)->(x,c)∈Aj cells names acc->(x,c)∈acc\/((x,NameKind.free)∈names/\cells.lookup x=some c)
 | [],_,_,_,_,h=>.inl h
 | (n,k)::r,acc,x,c,hy,h=>by
  have hr:∀ y∈r,y.2=.free->∃ c,cells.lookup y.1=some c:=fun y hm=>hy y (List.mem_cons_of_mem _ hm)
  unfold Aj at h
  split at h
  ·rename_i hk
   have hk':k=.free:=by simpa using hk
   subst hk'
   obtain ⟨d,e⟩:=hy (n,.free) List.mem_cons_self rfl
   rcases clOf_mem r _ x c hr h with h | ⟨h,h'⟩
   ·rcases List.mem_cons.mp h with e' | h
    ·obtain ⟨e1,e2⟩:=Prod.mk.inj e'
     rw [show cells.lookup n=some d from e] at e2
     subst e1
     exact .inr ⟨List.mem_cons_self,by rw [e2];exact e⟩
    ·exact .inl h
   ·exact .inr ⟨List.mem_cons_of_mem _ h,h'⟩
  ·rcases clOf_mem r _ x c hr h with h | ⟨h,h'⟩
   ·exact .inl h
   ·exact .inr ⟨List.mem_cons_of_mem _ h,h'⟩
theorem Fk {cells:List (Str × Addr)} {x:Str}:∀ (names:List (Str × NameKind)) (acc:List (Str × Addr)),(∃ c,(x,c)∈acc)->∃ c,(x,c)∈Aj cells names acc
 | [],_,h=>h
 | (n,k)::r,acc,⟨c,h⟩=>by
  unfold Aj
  split
  ·exact Fk r _ ⟨c,List.mem_cons_of_mem _ h⟩
  ·exact Fk r _ ⟨c,h⟩
theorem E2 {cells:List (Str × Addr)} {x:Str}:∀ (names:List (Str × NameKind)) (acc:List (Str × Addr)),(x,NameKind.free)∈names->∃ c,(x,c)∈Aj cells names acc
 | (n,k)::r,acc,h=>by
  unfold Aj
  rcases List.mem_cons.mp h with e | h
  ·cases e
   rw [if_pos (by decide)]
   exact Fk r _ ⟨_,List.mem_cons_self⟩
  ·split
   ·exact E2 r _ h
   ·exact E2 r _ h
theorem Gh {α:Type} {x:Str}:∀ {l:List (Str × α)},(∃ c,(x,c)∈l)->∃ c,l.lookup x=some c
 | (k,v)::l,⟨c,h⟩=>by
  rw [List.lookup_cons]
  cases hb:x == k with
  | true=>exact ⟨v,rfl⟩
  | false =>
   rcases List.mem_cons.mp h with e | h
   ·cases e;simp at hb
   ·exact Gh ⟨c,h⟩
def DT (scope sc:Scope):Scope :=
 { scope with names:=scope.names.map fun (n,k)=>if (k == .free && sc.kind == .function && sc.names.lookup n == some .cell) then (n,.cell) else (n,k) }
structure CompScope (scope sc:Scope):Prop where
 kind:scope.kind=.function
 nd:(scope.names.map (·.1)).Nodup
 fr:∀ y∈scope.names,y.2=.free->sc.names.lookup y.1=some .cell\/sc.names.lookup y.1=some .free
theorem CO {α:Type}:∀ {l:List (Str × α)} {x:Str} {c:α},(l.map (·.1)).Nodup->(x,c)∈l->l.lookup x=some c
 | (k,v)::l,x,c,nd,h=>by
  obtain ⟨n1,n2⟩:=List.nodup_cons.mp (show (k::l.map (·.1)).Nodup from nd)
  rw [List.lookup_cons]
  rcases List.mem_cons.mp h with e | h
  ·cases e;simp
  ·have hne:¬ x=k:=fun e=>n1 (by rw [<- e];exact List.mem_map.mpr ⟨(x,c),h,rfl⟩)
   have:(x == k)=false:=by simpa using hne
   rw [this]
   exact CO n2 h
theorem Hy {scope sc:Scope} {x:Str}:(DT scope sc).names.lookup x=(scope.names.lookup x).map fun k=>if (k == .free && sc.kind == .function && sc.names.lookup x == some .cell) then NameKind.cell else k:=by
 show (scope.names.map _).lookup x=_
 generalize scope.names=names
 induction names with
 | nil=>rfl
 | cons y r ih =>
  obtain ⟨n,k⟩:=y
  rw [List.map_cons]
  by_cases hc:(k == .free && sc.kind == .function && sc.names.lookup n == some .cell)=true
  ·show List.lookup x ((if (k == .free && sc.kind == .function && sc.names.lookup n == some .cell)=true then (n,NameKind.cell) else (n,k))::_)=_
   rw [if_pos hc,List.lookup_cons,List.lookup_cons]
   cases hb:x == n with
   | true =>
    have hx:x=n:=by simpa using hb
    subst hx
    show some NameKind.cell=some (if _ then _ else _)
    rw [if_pos hc]
   | false=>exact ih
  ·show List.lookup x ((if (k == .free && sc.kind == .function && sc.names.lookup n == some .cell)=true then (n,NameKind.cell) else (n,k))::_)=_
   rw [if_neg hc,List.lookup_cons,List.lookup_cons]
   cases hb:x == n with
   | true =>
    have hx:x=n:=by simpa using hb
    subst hx
    show some k=some (if _ then _ else _)
    rw [if_neg hc]
   | false=>exact ih
structure CArgs where
 pins:List (Addr × Obj)
 cells:List (Str × Addr)
 s:Shared
 H:Hp
 fp:List Addr
 C:Addr
def Cx.comp (X:Cx) (scope:Scope) (N':List Str) (c:CArgs):Cx where
 prog:=X.prog
 w:=X.w
 K:=X.K
 mg:=X.mg
 base:=X.base
 A:=X.A
 N:=N'
 s₀:=c.s
 H₀:=c.H
 env:=compEnvC scope c.cells c.C X.env
 outer:=X.stack
 stack:=X.stack
 ex:=c.fp
 fn:=fun x=>scope.names.lookup x == some .cell
 calm:=X.calm
 pn:=X.pn++c.pins
 xe:=fun _ _=>False
def cSt (own:Nat) (ix:List Nat) (σ:St):St:=List.replicate own none++ix.map fun i=>(σ[i]?).join
section
variable {X:Cx} {pins:List (Addr × Obj)} {σ:St} {H:Hp} {s s4:Shared} {fp:List Addr} {scope:Scope} {N':List Str} {own:Nat} {ix:List Nat}
theorem Iz (I:Inv X pins σ H s) (f2:∀ b∈fp,A4 X pins H b) (hob:∀ b∈fp,∃ o,s.heap.get? b=some o) (S:CompScope scope X.env.scope)
 (hlen:N'.length=own+ix.length) (hN:(N'.drop own).map some=ix.map (X.N[·]?)) (hfr:∀ x∈N'.drop own,scope.names.lookup x=some .free)
 {C:Addr} (hC:s.heap.objs.size < C) (k4:∀ b o,s.heap.get? b=some o->s4.heap.get? b=some o) (os4:s4.os=s.os) (g4:s4.gens=s.gens)
 (n4:∃ m,s4.heap.Ns C m) (own4:∀ x c,(x,c)∈cellsFrom (C+1) scope.names []->s4.heap.IsCell c none/\C+1<=c)
 (apart:(cellsFrom (C+1) scope.names []).Pairwise fun x y=>x.2≠y.2) :
 Inv (X.comp scope N' ⟨pins,cellsFrom (C+1) scope.names (Aj X.env.cells scope.names []),s,H,fp,C⟩) [] (cSt own ix σ) H s4:=by
 have hfree:∀ y∈scope.names,y.2=.free->∃ c,X.env.cells.lookup y.1=some c:=fun y hy h=>I.ok.has y.1 (S.fr y hy h)
 -- a cell of the block
 have cases:∀ x c,(cellsFrom (C+1) scope.names (Aj X.env.cells scope.names [])).lookup x=some c ->
  ((x,c)∈cellsFrom (C+1) scope.names []/\scope.names.lookup x=some .cell)\/((x,NameKind.free)∈scope.names/\X.env.cells.lookup x=some c):=fun x c h=>by
  rw [DD,D1] at h
  cases e:(cellsFrom (C+1) scope.names []).lookup x with
  | some d =>
   rw [e] at h
   cases h
   have m:=mem_of_lookup e
   rcases cellsFrom_kind _ _ _ _ _ m with z | z
   ·exact absurd z (by simp)
   ·exact .inl ⟨m,CO S.nd z⟩
  | none =>
   rw [e] at h
   rcases clOf_mem _ _ _ _ hfree (mem_of_lookup h) with z | z
   ·exact absurd z (by simp)
   ·exact .inr z
 have oldlt:∀ x c,X.env.cells.lookup x=some c->c < s.heap.objs.size:=fun x c e=>let ⟨v,q⟩:=I.cell x c e;q.lt
 have kin:∀ x,(DT scope X.env.scope).names.lookup x=some .cell\/(DT scope X.env.scope).names.lookup x=some .free->(scope.names.lookup x=some .cell\/scope.names.lookup x=some .free):=fun x h=>by
  rw [Hy] at h
  cases e:scope.names.lookup x with
  | none=>rw [e] at h;simp at h
  | some k =>
   rw [e] at h
   cases k with
   | cell=>exact .inl rfl
   | free=>exact .inr rfl
   | _=>exact absurd h (by simp)
 have hCn:∀ b o,s.heap.get? b=some o->b≠C:=fun b o e z=>by have:=Heap.lt_size e;rw [z] at this;exact Nat.lt_irrefl _ (Nat.lt_trans this hC)
 have lk:∀ x,(x,NameKind.free)∈scope.names->∀ c,X.env.cells.lookup x=some c->(cellsFrom (C+1) scope.names (Aj X.env.cells scope.names [])).lookup x=some c:=fun x hx c hc=>by
  have hl:scope.names.lookup x=some .free:=CO S.nd hx
  rw [DD,D1,Fy (l:=cellsFrom (C+1) scope.names []) fun d hd=>?_]
  ·obtain ⟨d,hd⟩:=Gh (E2 (cells:=X.env.cells) scope.names [] hx)
   rcases clOf_mem _ _ _ _ hfree (mem_of_lookup hd) with z | ⟨_,z⟩
   ·exact absurd z (by simp)
   ·rw [hc] at z;cases z;exact hd
  ·rcases cellsFrom_kind _ _ _ _ _ hd with z | z
   ·exact absurd z (by simp)
   ·rw [CO S.nd z] at hl;cases hl
 refine ⟨⟨I.ok.mod,S.kind,I.ok.glob,I.ok.blt,Nat.le_of_lt hC,fun x y c hx hy=>?_,fun x hx=>?_,fun x c hf hx=>?_,I.ok.hd,I.ok.frames,.inl rfl,fun b hb=>⟨?_,fun x c hx=>?_⟩,fun b o e=>I.bs b o e,Nat.le_trans I.ok.bsz I.sz,fun b o e hb=>?_,fun b hb z=>?_,I.stack,I.stkFree⟩,
  os4,by rw [g4];exact I.bare,Un.kept k4,?_,fun x c hx=>?_,?_,fun x c hx=>?_,fun p hp=>?_,I.hok.kept k4,?_⟩
 ·-- inj
  rcases cases x c hx with ⟨m1,_⟩ | ⟨_,m1⟩ <;> rcases cases y c hy with ⟨m2,_⟩ | ⟨_,m2⟩
  ·exact name_of_addr apart m1 m2
  ·exact absurd (Nat.lt_of_lt_of_le (Nat.lt_trans (oldlt y c m2) hC) (Nat.le_of_succ_le (own4 x c m1).2)) (Nat.lt_irrefl _)
  ·exact absurd (Nat.lt_of_lt_of_le (Nat.lt_trans (oldlt x c m1) hC) (Nat.le_of_succ_le (own4 y c m2).2)) (Nat.lt_irrefl _)
  ·exact I.ok.inj x y c m1 m2
 ·-- has
  rcases kin x hx with h | h
  ·have q:=PySem.W.cellsFrom_some scope.names (C+1) (Aj X.env.cells scope.names []) (.inl h)
   exact Option.isSome_iff_exists.mp q
  ·obtain ⟨c,e⟩:=hfree (x,.free) (mem_of_lookup h) rfl
   exact ⟨c,lk x (mem_of_lookup h) c e⟩
 ·-- cab
  rcases cases x c hx with ⟨m1,_⟩ | ⟨m1,_⟩
  ·exact Nat.le_of_lt (Nat.lt_of_lt_of_le hC (Nat.le_of_succ_le (own4 x c m1).2))
  ·have hl:=CO S.nd m1
   have hf':(scope.names.lookup x == some NameKind.cell)=true:=hf
   rw [hl] at hf';cases hf'
 ·obtain ⟨o,e⟩:=hob b hb
  exact hCn b o e
 ·intro z
  obtain ⟨o,e⟩:=hob b hb
  have hlt:=Heap.lt_size e
  rcases cases x c hx with ⟨m1,_⟩ | ⟨_,m1⟩
  ·subst z;exact absurd (Nat.lt_of_lt_of_le (Nat.lt_trans hlt hC) (Nat.le_of_succ_le (own4 x c m1).2)) (Nat.lt_irrefl _)
  ·exact (f2 b hb).2.2.2.2.1 x c m1 z
 ·-- noex
  have e1:=(I.ok.bs b o e).1
  rcases (f2 b hb).2.2.2.1 with z | z
  ·exact I.ok.noex b o e z
  ·exact absurd (Nat.lt_of_lt_of_le (Heap.lt_size e1) z) (Nat.lt_irrefl _)
 ·-- exfs
  rcases List.mem_cons.mp (I.stkSub b z) with e | z
  ·exact (f2 b hb).2.1 e
  ·exact (f2 b hb).2.2.1 z
 ·-- loc
  obtain ⟨m,hm⟩:=n4
  obtain ⟨m0,hn0,hl0⟩:=I.loc
  refine ⟨m,hm,fun i x v h1 h2 h3=>?_⟩
  have h1:N'[i]? = some x:=h1
  unfold cSt at h2
  by_cases hi:i < own
  ·rw [List.getElem?_append_left (by simpa using hi),List.getElem?_replicate] at h2
   split at h2 <;> cases h2
  ·rw [List.getElem?_append_right (by simpa using hi),List.length_replicate,List.getElem?_map] at h2
   obtain ⟨j,hj⟩:∃ j,i=own+j:=⟨i - own,by lia⟩
   subst hj
   rw [Nat.add_sub_cancel_left] at h2
   cases e:ix[j]? with
   | none=>rw [e] at h2;cases h2
   | some q =>
    rw [e] at h2
    have h2:some (σ[q]?).join=some (some v):=h2
    have h2:(σ[q]?).join=some v:=Option.some.inj h2
    have hσ:σ[q]? = some (some v):=by
     cases eq:σ[q]? with
     | none=>rw [eq] at h2;cases h2
     | some z=>rw [eq] at h2;simp at h2;rw [h2]
    have hx:(N'.drop own)[j]? = some x:=by rw [List.getElem?_drop];exact h1
    have hNq:X.N[q]? = some x:=by
     have:=congrArg (·[j]?) hN
     simp only [List.getElem?_map,hx,e,Option.map_some] at this
     exact (Option.some.inj this).symm
    have hfx:=hfr x (List.mem_of_getElem? hx)
    have hmem:=mem_of_lookup hfx
    have kx:=S.fr (x,.free) hmem rfl
    have vis:Vis X.env.scope x:=.inr kx
    obtain ⟨u,r,l⟩:=hl0 q x v hNq hσ vis
    refine ⟨u,r,?_⟩
    rcases l with ⟨k,_⟩ | ⟨k,c,hc,z⟩
    ·exfalso
     have k':X.env.scope.names.lookup x=some .local:=k
     rcases kx with kx | kx
     ·rw [show X.env.scope.names.lookup x=some .cell from kx] at k';cases k'
     ·rw [show X.env.scope.names.lookup x=some .free from kx] at k';cases k'
    ·refine .inr ⟨?_,c,lk x hmem c hc,z.keeps k4⟩
     show (DT scope X.env.scope).names.lookup x=some .cell\/(DT scope X.env.scope).names.lookup x=some .free
     rw [Hy,hfx]
     by_cases hc:(NameKind.free == .free && X.env.scope.kind == .function && X.env.scope.names.lookup x == some .cell)=true
     ·exact .inl (by rw [Option.map_some,if_pos hc])
     ·exact .inr (by rw [Option.map_some,if_neg hc])
 ·rcases cases x c hx with ⟨m1,_⟩ | ⟨_,m1⟩
  ·exact ⟨_,(own4 x c m1).1⟩
  ·obtain ⟨v,q⟩:=I.cell x c m1
   exact ⟨v,q.keeps k4⟩
 ·exact I.hok.fresh (Nat.le_of_lt hC)
 ·rcases cases x c hx with ⟨m1,_⟩ | ⟨_,m1⟩
  ·exact I.hok.fresh (Nat.le_of_lt (Nat.lt_of_lt_of_le hC (Nat.le_of_succ_le (own4 x c m1).2)))
  ·exact I.freeC x c m1
 ·have hp:p∈X.pn++pins:=by
   have:p∈(X.pn++pins)++[]:=hp
   rwa [List.append_nil] at this
  obtain ⟨e,n,ne,nf,d⟩:=I.pin p hp
  refine ⟨k4 _ _ e,n,hCn _ _ e,fun z=>?_,d⟩
  rcases List.mem_cons.mp (I.stkSub _ z) with q | q
  ·exact ne q
  ·exact nf q
 ·unfold cSt
  rw [List.length_append,List.length_replicate,List.length_map]
  exact hlen.symm
end
section
variable {prog:Program} {w:World} {A:Around} {R:Result->Shared->Prop} {s:Shared}
theorem KF {elt target iter:Expr} {ifs:List Expr} {scope:Scope} {pos:Pos} {it acc:Value} {env:Env} (I:Nat->Shared->Prop)
 (turn:∀ n s,I n s->wpAny (model prog w) A (pyNext it) (fun r s₁=>match r with
   | none=>R (.ok .next) s₁
   | some v=>wpAny (model prog w) A (letOwnedTupleGo target it v) (fun _ s₁'=>wpAny (model prog w) A (assign target env v) (fun _ s₂ =>
    wpAny (model prog w) A (forIn ifs true fun c r=>if r=true then do let ok <- isTrue c env (eval c env);pure (ForInStep.yield ok) else pure (ForInStep.yield r)) (fun ok s₃ =>
     if ok=true then wpAny (model prog w) A (eval elt env) (fun x s₄ =>
      wpAny (model prog w) A (call (.builtin "list.append") [acc,x]) (fun _ s₅=>∃ m,m < n/\I m s₅) (fun _ _=>False) s₄) (fun _ _=>False) s₃
     else ∃ m,m < n/\I m s₃) (fun _ _=>False) s₂) (fun _ _=>False) s₁') (fun _ _=>False) s₁) (fun _ _=>False) s)
 (n:Nat) (h:I n s) :
 codeAny (model prog w) A (.compLoop (.ListComp elt [⟨target,iter,ifs,0⟩] scope pos) 0 it acc env) R s:=by
 refine codeAny_loop rfl I (fun n s hI=>?_) n h
 show wpAny _ A ((compTurn (.ListComp elt [⟨target,iter,ifs,0⟩] scope pos) 0 it acc env).onRaise (fun x=>do noteFrame x env;theTreesLotGoes x)) _ _ s
 refine wpAny_noted ?_
 rw [compTurn_list]
 refine wpAny_bind (wpAny_standAt (wpAny_bind (wpAny_mono (turn n s hI) (fun r s₁ h₁=>?_) fun _ _ h'=>h'.elim)))
 cases r with
 | none=>exact wpAny_pure h₁
 | some v =>
  refine wpAny_bind (wpAny_mono h₁ (fun _ s₁' h₁'=>?_) fun _ _ h'=>h'.elim)
  refine wpAny_bind (wpAny_mono h₁' (fun _ s₂ h₂=>wpAny_bind (wpAny_mono h₂ (fun ok s₃ h₃=>?_) fun _ _ h'=>h'.elim)) fun _ _ h'=>h'.elim)
  cases ok with
  | false=>exact wpAny_pure ⟨rfl,h₃⟩
  | true =>
   exact wpAny_bind (wpAny_bind (wpAny_mono h₃ (fun x s₄ h₄=>wpAny_bind (wpAny_mono h₄ (fun _ s₅ h₅=>wpAny_pure (wpAny_pure ⟨rfl,h₅⟩)) fun _ _ h'=>h'.elim)) fun _ _ h'=>h'.elim))
end
def PTs (X:Cx) (ifs:List Expr) (t:TT):Prop :=
 ∀ (pins:List (Addr × Obj)) (s:Shared) (σ:St) (H:Hp) (Q:Bool->Hp->Prop),Inv X pins σ H s->t σ H Q ->
  wpAny (model X.prog X.w) X.A (forIn ifs true fun c r=>if r=true then do let ok <- isTrue c X.env (eval c X.env);pure (ForInStep.yield ok) else pure (ForInStep.yield r)) (TP X pins σ Q) X.xe s
def Ll:TT:=fun _ H Q=>Q true H
theorem A2 {X:Cx}:PTs X [] Ll:=fun _ _ _ H _ I h=>wpAny_tests_nil ⟨H,I,h⟩
theorem MX {X:Cx} {c:Expr} {t:TT} (h:PT X c t):PTs X [c] t:=fun pins s σ H Q I hq=>wpAny_tests_one (h pins s σ H Q I hq)
def By (own:Nat) (g:TG):Prop:=∀ x σ H Q,g x σ H Q->g x σ H fun σ' H'=>(σ'.length=σ.length/\∀ i,own<=i->σ'[i]? = σ[i]?)/\Q σ' H'
def Dp (own:Nat) (g:TGs):Prop:=∀ x σ H Q,g x σ H Q->g x σ H fun σ' H'=>(σ'.length=σ.length/\∀ i,own<=i->σ'[i]? = σ[i]?)/\Q σ' H'
theorem Ai {own i:Nat} (h:i < own):By own (AS i):=fun x σ H Q q =>
 ⟨⟨by simp,fun j hj=>by rw [List.getElem?_set_ne (by lia)]⟩,q⟩
theorem Dy {own:Nat}:Dp own Es:=fun x σ H Q ⟨e,q⟩=>⟨e,⟨rfl,fun _ _=>rfl⟩,q⟩
def CT (g:TG):Prop:=∀ x σ H (Q Q':St->Hp->Prop),(∀ σ H,Q σ H->Q' σ H)->g x σ H Q->g x σ H Q'
def DW (g:TGs):Prop:=∀ x σ H (Q Q':St->Hp->Prop),(∀ σ H,Q σ H->Q' σ H)->g x σ H Q->g x σ H Q'
theorem A9 {i:Nat}:CT (AS i):=fun _ _ _ _ _ h q=>h _ _ q
theorem Bu:DW Es:=fun _ _ _ _ _ h ⟨e,q⟩=>⟨e,h _ _ q⟩
theorem DR {t:TG} {u:TGs} (h1:CT t) (h2:DW u):DW (Ep t u):=fun _ _ _ _ _ h ⟨v,r,e,q⟩=>⟨v,r,e,h1 _ _ _ _ _ (fun _ _ q=>h2 _ _ _ _ _ h q) q⟩
theorem B3 {own:Nat} {t:TG} {u:TGs} (m:CT t) (mu:DW u) (h1:By own t) (h2:Dp own u):Dp own (Ep t u):=fun x σ H Q ⟨v,r,e,q⟩ =>
 ⟨v,r,e,m _ _ _ _ _ (fun σ' H' ⟨⟨e1,e2⟩,q⟩=>mu _ _ _ _ _ (fun σ'' H'' ⟨⟨e3,e4⟩,q⟩=>⟨⟨e3.trans e1,fun i hi=>(e4 i hi).trans (e2 i hi)⟩,q⟩) (h2 r σ' H' Q q)) (h1 v σ H _ q)⟩
theorem Dm {own:Nat} {K:W.Frag} {n:Nat} {t:TGs} (h:Dp own t):By own (Ey K n t):=fun x σ H Q ⟨a,xs,e,s,l,q⟩=>⟨a,xs,e,s,l,h _ _ _ _ q⟩
theorem Jt {own:Nat} {ix:List Nat} {σ:St} {i:Nat} {v:V} (h:(cSt own ix σ)[i]? = some (some v)):own<=i:=by
 unfold cSt at h
 by_cases hi:i < own
 ·rw [List.getElem?_append_left (by simpa using hi),List.getElem?_replicate] at h
  split at h <;> cases h
 ·lia
def CQ (J:It) (g:TG) (tc:TT) (te:TE) (σc:St) (Q:VK) (H1:Hp):Prop :=
 ∃ W:Nat->Nat->List V->Hp->Prop,(∃ m,W 0 m [] H1)/\∀ i m ys H,W i m ys H ->
  (J.stop i H/\∀ p,H p=none->Q (.ref p) (upd H p (.lst ys))) \/
  (J.go i H/\ys.length < sizeLine/\∃ N:List V->Hp->Prop,(∀ ys' H',N ys' H'->∃ m',m' < m/\W (i+1) m' ys' H')/\∀ x H',J.yld i H x H'->g x σc H' fun σ4 H4=>tc σ4 H4 fun b H5 =>
    if b=true then te σ4 H5 fun y H6=>N (ys++[y]) H6 else N ys H5)
def DM (wi:TI) (own:Nat) (ix:List Nat) (g:TG) (tc:TT) (te:TE):TE:=fun σ H Q=>wi σ H fun J H1=>CQ J g tc te (cSt own ix σ) Q H1
section
variable {X:Cx} {pins:List (Addr × Obj)} {σ:St} {H:Hp} {s:Shared} {fp:List Addr} {it:Addr} {tn:Nat->Heap->Prop} {J:It} {tg iter elt:Expr} {ifs:List Expr} {scope:Scope} {pos:Pos} {N':List Str} {own:Nat} {ix:List Nat} {g:TG} {tc:TT} {te:TE} {Q:VK} {E:Value->Shared->Prop}
theorem IL (I:Inv X pins σ H s) (T:Turn X.prog X.w X.K tg J fp it tn) (st:tn 0 s.heap) (f2:∀ b∈fp,A4 X pins H b) (hc:X.calm=true) (S:CompScope scope X.env.scope)
 (hlen:N'.length=own+ix.length) (hN:(N'.drop own).map some=ix.map (X.N[·]?)) (hfr:∀ x∈N'.drop own,scope.names.lookup x=some .free)
 (hg:∀ c,PG (X.comp scope N' c) tg g) (hgo:By own g) (ht:∀ c,PTs (X.comp scope N' c) ifs tc) (he:∀ c,PE (X.comp scope N' c) elt te)
 (hq:CQ J g tc te (cSt own ix σ) Q H) {RR:Value->Addr->Result->Shared->Prop}
 (fin:∀ (D C:Addr) (s':Shared) (H':Hp) (ys:List V) (its:List Value) (n:Nat),s'.os=s.os->AllBare s'.gens->Un (frs X.stack) fp H H' s.heap s'.heap->HOk X.prog X.w H' s'.heap->(∃ m,s'.heap.Ns C m)->H' C=none->s.heap.objs.size<=C ->
   H' D=none->s.heap.objs.size<=D->D≠C->s'.heap.get? D=some { cls:=.type "list",data:=.seq its.toArray n } -> Vals ys its->ys.length<=sizeLine->(∀ p,H' p=none->Q (.ref p) (upd H' p (.lst ys)))->RR (.ref D) C (.ok .next) s') :
 wpAny (model X.prog X.w) X.A (newList []) (fun acc s₃=>wpAny (model X.prog X.w) X.A (newFunctionEnv scope X.env.globals (Aj X.env.cells scope.names []) [] X.env.qual none .none (some X.env)) (fun cenv s₄ =>
  codeAny (model X.prog X.w) X.A (.compStart (.ListComp elt [⟨tg,iter,ifs,0⟩] scope pos) 0 (.ref it) acc { cenv with scope:=relabel scope X.env }) (RR acc cenv.locals) s₄) E s₃) E s:=by
 obtain ⟨W,⟨m0,w0⟩,turn⟩:=hq
 have hob:∀ b∈fp,∃ o,s.heap.get? b=some o:=fun b hb=>let ⟨o,e,_⟩:=T.obj 0 _ st b hb;⟨o,e⟩
 refine wpAny_newObj_type ?_
 generalize hH1:s.heap.push { cls:=.type "list",dict:=none,data:=.seq ([]:List Value).toArray } = h1
 have hs1:h1.objs.size=s.heap.objs.size+1:=by rw [<- hH1,Heap.size_push]
 have k1:∀ b o,s.heap.get? b=some o->h1.get? b=some o:=fun b o e=>by rw [<- hH1];exact Heap.get?_push_of_some _ e
 have d1:h1.get? s.heap.objs.size=some { cls:=.type "list",data:=.seq ([]:List Value).toArray }:=by rw [<- hH1];exact Heap.get?_push_size _ rfl
 simp only [newFunctionEnv,Option.isSome_some,if_true]
 refine wpAny_bind (wpAny_alloc ?_)
 generalize hH2:(({ s with heap:=h1 }:Shared).heap.push { cls:=.type "dict",data:=.dict #[] })=h2
 have hH2':h1.push { cls:=.type "dict",data:=.dict #[] } = h2:=hH2
 have hs2:h2.objs.size=h1.objs.size+1:=by rw [<- hH2',Heap.size_push]
 have k2:∀ b o,h1.get? b=some o->h2.get? b=some o:=fun b o e=>by rw [<- hH2'];exact Heap.get?_push_of_some _ e
 have n2:h2.Ns h1.objs.size (fun _=>none):=by rw [<- hH2'];exact Heap.Ns.new h1 (.type "dict")
 refine wpAny_bind (wpAny_layCells _ (fun name kind cells=>by cases hkc:kind == NameKind.cell <;> simp [hkc]) _ _ _ _ ?_)
 have ok:=cellsFrom_ok scope.names h2 (h1.objs.size+1) [] ⟨fun _ _ hm=>(nomatch hm),List.Pairwise.nil⟩ (by rw [hs2];exact Nat.le_refl _)
 rw [hs2] at ok
 show wpAny _ _ (forIn ([]:List (Str × Value)) PUnit.unit _ >>= _) _ _ _
 rw [List.forIn_nil]
 refine wpAny_bind (wpAny_pure (wpAny_pure ?_))
 show codeAny _ _ (.compStart _ 0 (.ref it) (.ref s.heap.objs.size) (compEnvC scope (cellsFrom h2.objs.size scope.names (Aj X.env.cells scope.names [])) h1.objs.size X.env)) (RR (.ref s.heap.objs.size) h1.objs.size) { s with heap:=pushCells h2 scope.names }
 rw [hs2]
 generalize hH3:pushCells h2 scope.names=h3 at ok ⊢
 have k3:∀ b o,h2.get? b=some o->h3.get? b=some o:=fun b o e=>by rw [<- hH3];exact pushCells_keeps _ _ b o e
 have kk:∀ b o,s.heap.get? b=some o->h3.get? b=some o:=fun b o e=>k3 b o (k2 b o (k1 b o e))
 have d3:h3.get? s.heap.objs.size=some { cls:=.type "list",data:=.seq ([]:List Value).toArray }:=k3 _ _ (k2 _ _ d1)
 have hC:s.heap.objs.size < h1.objs.size:=by rw [hs1];exact Nat.lt_succ_self _
 have I3:Inv (X.comp scope N' ⟨pins,cellsFrom (h1.objs.size+1) scope.names (Aj X.env.cells scope.names []),s,H,fp,h1.objs.size⟩) [] (cSt own ix σ) H { s with heap:=h3 } :=
  Iz (s4:={ s with heap:=h3 }) I f2 hob S hlen hN hfr hC kk rfl rfl ⟨_,n2.keeps k3⟩ (fun x c hm=>ok.empty x c hm) ok.apart
 generalize hcs:cellsFrom (h1.objs.size+1) scope.names (Aj X.env.cells scope.names [])=cs at I3 ⊢
 generalize hCC:h1.objs.size=C at *
 generalize hDD:s.heap.objs.size=D at *
 have hY:=I3.ok
 -- what is fixed of the records
 have sD:D≠C/\(∀ x c,cs.lookup x=some c->c≠D)/\D∉frs X.stack/\∀ p∈X.pn++pins,p.1≠D:=by
  refine ⟨Nat.ne_of_lt hC,fun x c e z=>?_,fun z=>?_,fun p hp z=>?_⟩
  ·subst z
   have e':=e
   rw [<- hcs,DD,D1] at e'
   cases q:(cellsFrom (C+1) scope.names []).lookup x with
   | some d =>
    rw [q] at e';cases e'
    have:=(ok.empty x c (mem_of_lookup q)).2
    exact absurd (Nat.lt_of_lt_of_le hC (Nat.le_of_succ_le this)) (Nat.lt_irrefl _)
   | none =>
    rw [q] at e'
    have hfree:∀ y∈scope.names,y.2=.free->∃ c,X.env.cells.lookup y.1=some c:=fun y hy h=>I.ok.has y.1 (S.fr y hy h)
    rcases clOf_mem _ _ _ _ hfree (mem_of_lookup e') with z | ⟨_,z⟩
    ·exact absurd z (by simp)
    ·obtain ⟨v,q⟩:=I.cell x c z
     have:=q.lt
     rw [hDD] at this
     exact Nat.lt_irrefl _ this
  ·exact (I3.nofs (a:=D) (by exact absurd z (by
    intro z'
    obtain ⟨_,o,ho,_⟩:=(show s.heap.FunFrames X.base X.stack from I.stack).mem z'
    have:=Heap.lt_size ho
    rw [hDD] at this
    exact Nat.lt_irrefl _ this))) z
  ·have:=Heap.lt_size (I.pin p hp).1
   rw [z,hDD] at this
   exact Nat.lt_irrefl _ this
 have stat:∀ {H':Hp},(∀ b∈fp,H' b=none)->∀ b∈fp,A4 (X.comp scope N' ⟨pins,cs,s,H,fp,C⟩) [] H' b:=fun {H'} hn b hb=>by
  refine ⟨hn b hb,(hY.exf b hb).1,hY.exfs b hb,.inl hb,(hY.exf b hb).2,fun p hp=>?_⟩
  have hp:p∈(X.pn++pins)++[]:=hp
  rw [List.append_nil] at hp
  exact (f2 b hb).2.2.2.2.2 p hp
 have statD:∀ {H':Hp},H' D=none->A4 (X.comp scope N' ⟨pins,cs,s,H,fp,C⟩) [] H' D:=fun {H'} hn=>by
  refine ⟨hn,sD.1,sD.2.2.1,.inr (Nat.le_of_eq hDD),sD.2.1,fun p hp=>?_⟩
  have hp:p∈(X.pn++pins)++[]:=hp
  rw [List.append_nil] at hp
  exact sD.2.2.2 p hp
 have loop:codeAny (model X.prog X.w) X.A (.compLoop (.ListComp elt [⟨tg,iter,ifs,0⟩] scope pos) 0 (.ref it) (.ref D) (compEnvC scope cs C X.env)) (RR (.ref D) C) { s with heap:=h3 }:=by
  refine KF (fun n s'=>∃ (i:Nat) (H':Hp) (ys:List V) (its:List Value) (k:Nat),Inv (X.comp scope N' ⟨pins,cs,s,H,fp,C⟩) [] (cSt own ix σ) H' s'/\tn i s'.heap/\(∀ b∈fp,H' b=none)/\H' D=none /\
   s'.heap.get? D=some { cls:=.type "list",data:=.seq its.toArray k } /\ Vals ys its/\ys.length<=sizeLine/\W i n ys H') ?_ m0
   ⟨0,H,[],[],0,I3,T.keep _ _ _ st fun b _ o e=>kk b o e,fun b hb=>(f2 b hb).1,I.hok.fresh (Nat.le_of_eq hDD),d3,.nil,Nat.zero_le _,w0⟩
  rintro n s4 ⟨i,H4,ys,its,k,I4,st4,fr4,dn4,d4,rv4,z4,w4⟩
  rcases turn i n ys H4 w4 with ⟨stop,qn⟩ | ⟨go,zl,N,hN2,step⟩
  ·have ID:=I4.pinned (fp:=[D]) (fun b hb=>by rw [List.mem_singleton.mp hb];exact statD dn4) (fun b hb=>by rw [List.mem_singleton.mp hb];exact ⟨_,d4,fun v z=>nomatch z⟩)
   have nD:∀ b∈fp,b≠D:=fun b hb z=>by
    obtain ⟨o,e⟩:=hob b hb
    have:=Heap.lt_size e
    rw [z,hDD] at this
    exact Nat.lt_irrefl _ this
   have stat':∀ b∈fp,A4 (X.comp scope N' ⟨pins,cs,s,H,fp,C⟩) ([]++BF [D] s4.heap) H4 b:=fun b hb=>by
    obtain ⟨q1,q2,q3,q4,q5,q6⟩:=stat fr4 b hb
    refine ⟨q1,q2,q3,q4,q5,fun p hp=>?_⟩
    rcases List.mem_append.mp hp with z | z
    ·exact q6 p (List.mem_append_left _ z)
    ·have:=(FG (by simpa using z:p∈BF [D] s4.heap)).1
     rw [List.mem_singleton.mp this]
     exact fun z=>nD b hb z.symm
   refine thn (T.done (X.comp scope N' ⟨pins,cs,s,H,fp,C⟩) rfl rfl rfl hc i _ s4 _ H4 (fun _ _=>False) ID stat' st4 stop) fun r s5 ⟨hr,I5⟩=>?_
   subst hr
   obtain ⟨m,hm,_⟩:=I5.loc
   refine fin D C s5 H4 ys its k I5.os I5.bare I5.base I5.hok ⟨m,hm⟩ I5.free (Nat.le_of_lt hC) dn4 (Nat.le_refl _) sD.1 ?_ rv4 z4 qn
   ·exact (I5.pin (D,_) (List.mem_append_right _ (List.mem_append_right _ (Ca (List.mem_singleton.mpr rfl) d4)))).1
  ·have nD:∀ b∈fp,b≠D:=fun b hb z=>by
    obtain ⟨o,e⟩:=hob b hb
    have:=Heap.lt_size e
    rw [z,hDD] at this
    exact Nat.lt_irrefl _ this
   have ID:=I4.pinned (fp:=[D]) (fun b hb=>by rw [List.mem_singleton.mp hb];exact statD dn4) (fun b hb=>by rw [List.mem_singleton.mp hb];exact ⟨_,d4,fun v z=>nomatch z⟩)
   have statP:∀ {H':Hp},(∀ b∈fp,H' b=none)->∀ b∈fp,A4 (X.comp scope N' ⟨pins,cs,s,H,fp,C⟩) ([]++BF [D] s4.heap) H' b:=fun {H'} hn b hb=>by
    obtain ⟨q1,q2,q3,q4,q5,q6⟩:=stat hn b hb
    refine ⟨q1,q2,q3,q4,q5,fun p hp=>?_⟩
    rcases List.mem_append.mp hp with z | z
    ·exact q6 p (List.mem_append_left _ z)
    ·have:=(FG (by simpa using z:p∈BF [D] s4.heap)).1
     rw [List.mem_singleton.mp this]
     exact fun z=>nD b hb z.symm
   refine thn (T.item (X.comp scope N' ⟨pins,cs,s,H,fp,C⟩) rfl rfl rfl hc i _ s4 _ H4 (fun _ _=>False) ID (statP fr4) st4 go) fun r s5 ⟨u,hr,h5⟩=>?_
   subst hr
   refine thn h5 fun _ s6 ⟨x,H6,I6,r6,y6,st6,fr6⟩=>?_
   have I6':=I6.pinned (statP fr6) (T.obj _ _ st6)
   refine thn (hg _ _ s6 _ H6 x u _ I6' r6 (hgo _ _ _ _ (step x H6 y6))) fun _ s7 ⟨σ7,H7,I7,⟨e7,k7⟩,q7⟩=>?_
   have I7':Inv (X.comp scope N' ⟨pins,cs,s,H,fp,C⟩) ([]++BF [D] s4.heap++BF fp s6.heap) σ7 H7 s7:=I7
   refine thn (ht _ _ s7 σ7 H7 _ I7' q7) fun b s8 ⟨H8,I8,q8⟩=>?_
   -- what is kept through the turn
   have back:∀ {s9:Shared} {H9:Hp},Inv (X.comp scope N' ⟨pins,cs,s,H,fp,C⟩) ([]++BF [D] s4.heap++BF fp s6.heap) σ7 H9 s9 ->
    Inv (X.comp scope N' ⟨pins,cs,s,H,fp,C⟩) [] (cSt own ix σ) H9 s9/\tn (i+1) s9.heap/\(∀ b∈fp,H9 b=none)/\H9 D=none/\s9.heap.get? D=some { cls:=.type "list",data:=.seq its.toArray k }:=fun {s9 H9} I9=>by
    have pD:=I9.pin (D,_) (List.mem_append_right _ (List.mem_append_left _ (List.mem_append_right _ (Ca (List.mem_singleton.mpr rfl) d4))))
    refine ⟨I9.unpinned.unpinned.weak (by rw [e7]) fun j v hj=>?_,T.keep _ _ _ st6 fun b hb o e=>(I9.pin (b,o) (List.mem_append_right _ (List.mem_append_right _ (Ca hb e)))).1,fun b hb=>?_,pD.2.1,pD.1⟩
    ·rw [k7 j (Jt hj)];exact hj
    ·obtain ⟨o,e,_⟩:=T.obj _ _ st6 b hb
     exact (I9.pin (b,o) (List.mem_append_right _ (List.mem_append_right _ (Ca hb e)))).2.1
   cases b with
   | false =>
    rw [if_neg Bool.false_ne_true] at q8
    obtain ⟨m',hm,w8⟩:=hN2 _ _ q8
    obtain ⟨b1,b2,b3,b4,b5⟩:=back I8
    exact ⟨m',hm,i+1,H8,ys,its,k,b1,b2,b3,b4,b5,rv4,z4,w8⟩
   | true =>
    rw [if_pos rfl] at q8
    rw [if_pos rfl]
    refine thn (he _ _ s8 σ7 H8 _ I8 q8) fun yv s9 ⟨y,H9,I9,r9,q9⟩=>?_
    obtain ⟨m',hm,w9⟩:=hN2 _ _ q9
    obtain ⟨b1,b2,b3,b4,b5⟩:=back I9
    have hl:=rv4.length
    refine call_meets F.slot_list_append ⟨_,b5,rfl⟩ F.entry_list_append (F.args_list_append_2 _ _) (PySem.list_append D its.toArray k yv (by rw [List.size_toArray];lia)) ⟨b5,?_⟩
    have up:=PySem.IsL.update b5 (fun a=>a.push yv)
    have keep:∀ b o,b≠D->s9.heap.get? b=some o->(s9.heap.update D (Obj.mapSeq fun a=>a.push yv)).get? b=some o:=fun b o hb q=>(Heap.get?_update_other _ _ (Ne.symm hb)).trans q
    obtain ⟨f0,f1,f2',f3,f4,f5⟩:=statD b4
    refine ⟨m',hm,i+1,H9,ys++[y],its++[yv],(if ((its.toArray.push yv).size == its.toArray.size)=true then k else k+1),b1.turned (t':=s9.toks) keep b4 f1 f3 f4 f5,?_,b3,b4,?_,rv4.append (.cons r9 .nil),?_,w9⟩
    ·exact T.keep _ _ _ b2 fun b hb o e=>keep b o (nD b hb) e
    ·have e2:(its.toArray.push yv)=(its++[yv]).toArray:=by simp
     rw [<- e2]
     exact up
    ·rw [List.length_append,List.length_singleton]
     lia
 exact codeAny_compStart_list loop (T.self X.A 0 _ _ _ (T.keep _ _ _ st fun b _ o e=>kk b o e) loop)
end
section
variable {X:Cx} {pins:List (Addr × Obj)} {σ:St} {H:Hp} {s:Shared} {fp:List Addr} {it:Addr} {tn:Nat->Heap->Prop} {J:It} {tg iter elt:Expr} {ifs:List Expr} {scope:Scope} {pos:Pos} {N':List Str} {own:Nat} {ix:List Nat} {g:TG} {tc:TT} {te:TE} {wi:TI} {E:Value->Shared->Prop}
theorem IZ {H':Hp} {s':Shared} {D:Addr} {ys:List V} {its:List Value} {n:Nat} (I:Inv X pins σ H s) (f2:∀ b∈fp,A4 X pins H b) (ho:s'.os=s.os) (hg:AllBare s'.gens) (u:Un (frs X.stack) fp H H' s.heap s'.heap) (hok:HOk X.prog X.w H' s'.heap)
 (dn:H' D=none) (ds:s.heap.objs.size<=D) (d:s'.heap.get? D=some { cls:=.type "list",data:=.seq its.toArray n }) (rv:Vals ys its) (z:ys.length<=sizeLine):Inv X pins σ (upd H' D (.lst ys)) s':=by
 have nD:∀ b o,s.heap.get? b=some o->b≠D:=fun b o e q=>by rw [q,Heap.get?_none_of_le ds] at e;cases e
 have nH:∀ b o,H' b=some o->b≠D:=fun b o e q=>by rw [q,dn] at e;cases e
 refine I.call' (ch:=fp) ho ⟨u.keep,u.slot,fun b o e q hx=>?_,u.there,fun b xs e=>?_,fun b o v e=>?_,fun b ps e=>?_⟩ (fun b o e=>?_) hg fun b hb=>?_
 ·rw [AG (nD b o e)];exact u.free b o e q hx
 ·have:=u.tups b xs e
  rw [AG (nH _ _ this)];exact this
 ·have:=u.frzs b o v e
  rw [AG (nH _ _ this)];exact this
 ·obtain ⟨more,q⟩:=u.tbls b ps e
  exact ⟨more,by rw [AG (nH _ _ q)];exact q⟩
 ·by_cases hb:b=D
  ·subst hb
   rw [AD] at e
   cases e
   exact ⟨z,its,n,rv,d⟩
  ·rw [AG hb] at e
   exact (hok b o e).stay (fun _ _ _ q=>q) (fun c q=>by rw [AG (nH _ _ q)];exact q) fun c xs q=>by rw [AG (nH _ _ q)];exact q
 ·obtain ⟨q1,q2,q3,q4,q5,q6⟩:=f2 b hb
  exact ⟨q4,q2,q5,q6⟩
theorem Inv.dictGone {s':Shared} {h':Heap} {C:Addr} {H':Hp} {σ':St} (I:Inv X pins σ H s) (J:Inv X pins σ' H' s') (hC:s.heap.objs.size<=C) (hn:H' C=none) (k:Heap.SameBut C s'.heap h'):Inv X pins σ' H' { s' with heap:=h' }:=by
 have hC0:=Heap.get?_none_of_le hC
 refine J.turned (t':=s'.toks) (fun b o hb e=>(k.2 b hb).trans e) hn (fun z=>?_) (.inr (Nat.le_trans I.sz hC)) (fun x c e z=>?_) fun p hp z=>?_
 ·obtain ⟨m,⟨o,_,_,ho,_⟩,_⟩:=I.loc
  rw [<- z,hC0] at ho;cases ho
 ·obtain ⟨v,o,ho,_⟩:=I.cell x c e
  rw [z,hC0] at ho;cases ho
 ·have:=(I.pin p hp).1
  rw [z,hC0] at this;cases this
theorem NC (hc:X.calm=true) (hi:PI X tg iter wi) (S:CompScope scope X.env.scope)
 (hlen:N'.length=own+ix.length) (hN:(N'.drop own).map some=ix.map (X.N[·]?)) (hfr:∀ x∈N'.drop own,scope.names.lookup x=some .free)
 (hg:∀ c,PG (X.comp scope N' c) tg g) (hgo:By own g) (ht:∀ c,PTs (X.comp scope N' c) ifs tc) (he:∀ c,PE (X.comp scope N' c) elt te)
 (hs:∀ x,foldedSetIterable iter X.env x=pure x:=by intro _;rfl):PE X (.ListComp elt [⟨tg,iter,ifs,0⟩] scope pos) (DM wi own ix g tc te):=by
 intro pins s σ H Q I h
 rw [eval_ListComp]
 have hfree:∀ y∈scope.names,y.2=.free->∃ c,X.env.cells.lookup y.1=some c:=fun y hy h=>I.ok.has y.1 (S.fr y hy h)
 refine wpAny_comprehension_free (use:=none) rfl hs (Gk hfree) S.kind (fun y hy hl=>CO S.nd (by rw [<- hl];exact hy)) ?_
 refine thn (hi pins s σ H _ I h) fun v s1 h1=>thn h1 fun itv s2 h2=>?_
 obtain ⟨it,fp,tn,J,H2,e,I2,T,st2,f2,q2⟩:=h2
 subst e
 refine IL (RR:=fun acc C=>compPost (model X.prog X.w) X.A X.xe none (EP X pins σ Q) acc C) I2 T st2 f2 hc S hlen hN hfr hg hgo ht he q2 ?_
 intro D C s' H' ys its n ho hgn u hok hm hC hCs hD hDs hDC d rv z q
 obtain ⟨m,hm⟩:=hm
 have I3:=IZ I2 f2 ho hgn u hok hD hDs d rv z
 refine ⟨m,hm,fun h' hs'=>?_⟩
 exact ⟨.ref D,_,I2.dictGone I3 hCs (by rw [AG (Ne.symm hDC)];exact hC) hs',rfl,q D hD⟩
theorem Ij {i:Nat} {y:Str} {py spos:Pos} (hc:X.calm=true) (hnd:X.N.Nodup) (hiy:X.N[i]? = some y) (hy:X.env.scope.names.lookup y=some .local) (hi:PI X tg iter wi) (S:CompScope scope X.env.scope)
 (hlen:N'.length=own+ix.length) (hN:(N'.drop own).map some=ix.map (X.N[·]?)) (hfr:∀ x∈N'.drop own,scope.names.lookup x=some .free)
 (hg:∀ c,PG (X.comp scope N' c) tg g) (hgo:By own g) (ht:∀ c,PTs (X.comp scope N' c) ifs tc) (he:∀ c,PE (X.comp scope N' c) elt te)
 (hsw:swapsWith (.ListComp elt [⟨tg,iter,ifs,0⟩] scope pos) (some (.Name y py)) spos.line X.env=pure true)
 (hs:∀ x,foldedSetIterable iter X.env x=pure x:=by intro _;rfl):PS X (.Assign [.Name y py] (.ListComp elt [⟨tg,iter,ifs,0⟩] scope pos) spos) (Cq (DM wi own ix g tc te) (AS i)):=by
 intro pins s σ H D I h
 rw [exec_Assign_Name_used _ _ _ _ hsw]
 refine wpAny_bind (wpAny_standAt (wpAny_bind ?_))
 show wpAny _ _ (do let _ <- comprehension (.ListComp elt [⟨tg,iter,ifs,0⟩] scope pos) scope X.env _ (newList []) false (eval iter X.env) (some (assign (.Name y py) X.env))) _ _ s
 have hfree:∀ y∈scope.names,y.2=.free->∃ c,X.env.cells.lookup y.1=some c:=fun y hy h=>I.ok.has y.1 (S.fr y hy h)
 refine wpAny_bind (wpAny_mono (wpAny_comprehension_free (use:=some (assign (.Name y py) X.env)) (Q:=fun _ s'=>SP X pins D .next s') rfl hs (Gk hfree) S.kind (fun y hy hl=>CO S.nd (by rw [<- hl];exact hy)) ?_) (fun _ s' hq=>wpAny_pure (wpAny_pure hq)) fun _ _ e=>e)
 refine thn (hi pins s σ H _ I h) fun v s1 h1=>thn h1 fun itv s2 h2=>?_
 obtain ⟨it,fp,tn,J,H2,e,I2,T,st2,f2,q2⟩:=h2
 subst e
 refine IL (RR:=fun acc C=>compPost (model X.prog X.w) X.A X.xe (some (assign (.Name y py) X.env)) (fun _ s'=>SP X pins D .next s') acc C) I2 T st2 f2 hc S hlen hN hfr hg hgo ht he q2 ?_
 intro d C s' H' ys its n ho hgn u hok hm hC hCs hD hDs hDC hd rv z q
 obtain ⟨m,hm⟩:=hm
 have I3:=IZ I2 f2 ho hgn u hok hD hDs hd rv z
 show wpAny _ _ (assign (.Name y py) X.env (.ref d)) _ _ s'
 have hCn:(upd H' d (.lst ys)) C=none:=by rw [AG (Ne.symm hDC)];exact hC
 refine wpAny_assign_Name (Hl I3 hnd hiy (.inl hy) (v:=.ref d) rfl (fun s3 I4 ⟨a,sb,ha⟩=>?_) (.inr hy))
 have ha':a≠C:=fun e=>by
  have hC0:=Heap.get?_none_of_le hCs
  rcases ha with z | z
  ·obtain ⟨m,⟨o,_,_,ho,_⟩,_⟩:=I2.loc
   rw [<- z,e,hC0] at ho;cases ho
  ·obtain ⟨v,o,ho,_⟩:=I2.cell y a z
   rw [e,hC0] at ho;cases ho
 refine ⟨m,hm.sameBut sb (Ne.symm ha'),fun h' hs'=>?_⟩
 exact ⟨_,_,I2.dictGone I4 hCs hCn hs',q d hD⟩
end
section
variable {X:Cx}
theorem PE.imp {e:Expr} {t t':TE} (h:PE X e t) (f:∀ σ H Q,t' σ H Q->t σ H Q):PE X e t':=fun pins s σ H Q I q=>h pins s σ H Q I (f σ H Q q)
theorem OpR.imp {f:Value->Value->Sem Value} {r r':R2} (h:OpR X f r) (g:∀ x y H Q,r' x y H Q->r x y H Q):OpR X f r':=fun pins s σ H x y v u Q I rx ry q=>h pins s σ H x y v u Q I rx ry (g _ _ _ _ q)
theorem CallR.imp {f:Value} {r r':List V->Hp->VK->Prop} (h:CallR X f r) (g:∀ x H Q,r' x H Q->r x H Q):CallR X f r':=fun pins s σ H xs us Q I r q=>h pins s σ H xs us Q I r (g _ _ _ q)
def EA (i:Nat):TE:=fun σ H Q=>match σ[i]? with
 | some (some v)=>Q v H
 | _=>False
theorem vv (i:Nat) {x:Str} {pos:Pos} (hN:X.N[i]? = some x:=by rfl) (hv:Vis X.env.scope x:=by first | exact Or.inl rfl | exact Or.inr (Or.inl rfl) | exact Or.inr (Or.inr rfl)) (hd:(x == ("__debug__" : Str))=false:=by decide)
 (hcd:(x == ("__classdict__" : Str))=false:=by decide):PE X (.Name x pos) (EA i):=(Ir hN hv hd hcd).imp fun σ H Q q=>by
 unfold EA at q
 split at q
 ·rename_i v e;exact ⟨v,e,q⟩
 ·exact q.elim
def okMul (i j:Int):Prop:=(i.natAbs < 2 ^ 4096/\j.natAbs < 2 ^ 4096)\/(-(2 ^ 64) < i/\i < 2 ^ 64)\/(-(2 ^ 64) < j/\j < 2 ^ 64)
theorem GT {i:Int} (h:i.natAbs < 2 ^ 4096):Builtin.Int.intBits i<=2 ^ 20:=by
 unfold Builtin.Int.intBits
 split
 ·exact Nat.zero_le _
 ·rename_i hz
  have hne:i.natAbs≠0:=by
   have:¬ i=0:=by simpa using hz
   lia
  have:=(Nat.log2_lt hne).mpr h
  have e:(2:Nat) ^ 20=1048576:=by decide
  lia
theorem okMul.ok {i j:Int} (h:okMul i j):IntMulOk i j:=by
 rcases h with ⟨h1,h2⟩ | h | h
 ·exact .of_bits (GT h1) (GT h2)
 ·exact CMul.ok (.inl h)
 ·exact CMul.ok (.inr h)
def okDiv (j:Int):Prop:=0 < j/\j < 2 ^ 4096
theorem okDiv.ok {i j:Int} (h:okDiv j):Builtin.divisionGoesByPylong i j=false:=by
 refine PyProof.noPylong_of_log2 ?_
 obtain ⟨h1,h2⟩:=h
 have hne:j.natAbs≠0:=by lia
 have h3:j.natAbs < 2 ^ 4096:=by
  have e:((j.natAbs:Int))=j:=by lia
  have h2':((j.natAbs:Nat):Int) < ((2 ^ 4096:Nat):Int):=by rw [e,Int.natCast_pow];exact h2
  exact Int.ofNat_lt.mp h2'
 have:=(Nat.log2_lt hne).mpr h3
 lia
def DS (K:W.Frag):R2:=fun x y H Q=>match x,y with
 | .int i,.int j=>Q (.int (i+j)) H
 | .str a,.str b=>a.length+b.length<=sizeLine/\Q (.str (a++b)) H
 | .ref a,.ref b=>Ga (.ref a) (.ref b) H Q\/IB K (.ref a) (.ref b) H Q
 | _,_=>False
theorem Mx:OpR X (binaryOp .Add) (DS X.K):=by
 intro pins s σ H x y v u Q I rx ry q
 cases x <;> cases y <;> first
  | exact False.elim q
  | exact KD pins s σ H _ _ v u Q I rx ry ⟨_,_,rfl,rfl,q⟩
  | exact ON pins s σ H _ _ v u Q I rx ry ⟨_,_,rfl,rfl,q.1,q.2⟩
  | (rcases q with q | q
     ·exact Ka pins s σ H _ _ v u Q I rx ry q
     ·exact Nq pins s σ H _ _ v u Q I rx ry q)
def Fa:R2:=fun x y H Q=>match x,y with
 | .int i,.int j=>Q (.int (i - j)) H
 | _,_=>False
theorem I0:OpR X (binaryOp .Sub) Fa:=by
 intro pins s σ H x y v u Q I rx ry q
 cases x <;> cases y <;> first
  | exact False.elim q
  | exact MO pins s σ H _ _ v u Q I rx ry ⟨_,_,rfl,rfl,q⟩
def Eu:R2:=fun x y H Q=>match x,y with
 | .int i,.int j=>okMul i j/\Q (.int (i * j)) H
 | .ref a,.int k=>G7 (.ref a) (.int k) H Q
 | _,_=>False
theorem A5:OpR X (binaryOp .Mult) Eu:=by
 have hI:OpR X (binaryOp .Mult) (rI okMul fun i j=>.int (i * j)):=opI fun _ _ _ _ _ _ _ hc q=>mul_int q hc.ok
 intro pins s σ H x y v u Q I rx ry q
 cases x <;> cases y <;> first
  | exact False.elim q
  | exact hI pins s σ H _ _ v u Q I rx ry ⟨_,_,rfl,rfl,q.1,q.2⟩
  | exact LF pins s σ H _ _ v u Q I rx ry q
def Fc:R2:=fun x y H Q=>match x,y with
 | .int i,.int j=>okDiv j/\Q (.int (i / j)) H
 | _,_=>False
theorem Dt:OpR X (binaryOp .FloorDiv) Fc:=by
 have hI:OpR X (binaryOp .FloorDiv) (rI (fun _ j=>okDiv j) fun i j=>.int (i / j)):=opI fun i j _ _ _ _ _ hc q=>by
  refine floordiv_int (by have:=hc.1;lia) ?_ (.inl hc.ok)
  rw [Int.fdiv_eq_ediv_of_nonneg i (by have:=hc.1;lia)]
  exact q
 intro pins s σ H x y v u Q I rx ry q
 cases x <;> cases y <;> first
  | exact False.elim q
  | exact hI pins s σ H _ _ v u Q I rx ry ⟨_,_,rfl,rfl,q.1,q.2⟩
def E6:R2:=fun x y H Q=>match x,y with
 | .int i,.int j=>0 < j/\Q (.int (i % j)) H
 | _,_=>False
theorem Bg:OpR X (binaryOp .Mod) E6:=by
 intro pins s σ H x y v u Q I rx ry q
 cases x <;> cases y <;> first
  | exact False.elim q
  | exact Ih pins s σ H _ _ v u Q I rx ry ⟨_,_,rfl,rfl,q.1,q.2⟩
def E5:R2:=fun x y H Q=>match x,y with
 | .int i,.int j=>IE i j/\Q (.int (i ^ j.toNat)) H
 | _,_=>False
theorem Fq:OpR X (binaryOp .Pow) E5:=by
 intro pins s σ H x y v u Q I rx ry q
 cases x <;> cases y <;> first
  | exact False.elim q
  | exact JR pins s σ H _ _ v u Q I rx ry ⟨_,_,rfl,rfl,q.1,q.2⟩
def Kd (f:Int->Int->Int):R2:=fun x y H Q=>match x,y with
 | .int i,.int j=>Q (.int (f i j)) H
 | _,_=>False
theorem L3:OpR X (binaryOp .BitXor) (Kd Builtin.bitXor):=by
 intro pins s σ H x y v u Q I rx ry q
 cases x <;> cases y <;> first
  | exact False.elim q
  | exact Mc pins s σ H _ _ v u Q I rx ry ⟨_,_,rfl,rfl,q⟩
def Ff:V->Hp->VK->Prop:=fun x H Q=>match x with
 | .int i=>Q (.int (-i)) H
 | _=>False
theorem Bx:UnR X (unaryOp .USub) Ff:=by
 intro pins s σ H x v Q I rx q
 cases x <;> first
  | exact False.elim q
  | exact LB pins s σ H _ v Q I rx ⟨_,rfl,q⟩
def Ds (p:Int->Int->Bool):R2:=fun x y H Q=>match x,y with
 | .int i,.int j=>Q (.bl (p i j)) H
 | _,_=>False
theorem IS:OpR X (compareOp .Lt) (Ds fun i j=>decide (i < j)):=by
 intro pins s σ H x y v u Q I rx ry q
 cases x <;> cases y <;> first
  | exact False.elim q
  | exact Ii pins s σ H _ _ v u Q I rx ry ⟨_,_,rfl,rfl,q⟩
theorem Em:OpR X (compareOp .Gt) (Ds fun i j=>decide (j < i)):=by
 intro pins s σ H x y v u Q I rx ry q
 cases x <;> cases y <;> first
  | exact False.elim q
  | exact N8 pins s σ H _ _ v u Q I rx ry ⟨_,_,rfl,rfl,q⟩
end
inductive Dv where
 | non | bl (b:Bool) | int (i:Int) | str (x:Str) | tup (ds:List Dv) | lst (ds:List Dv)
mutual
def Rep (K:W.Frag) (H:Hp):Dv->V->Prop
 | .non,v=>v=.non
 | .bl b,v=>v=.bl b
 | .int i,v=>v=.int i
 | .str x,v=>v=.str x
 | .tup ds,v=>∃ a xs,v=.ref a/\SqT K H a xs/\Reps K H ds xs
 | .lst ds,v=>∃ a xs,v=.ref a/\SqL K H a xs/\Reps K H ds xs
def Reps (K:W.Frag) (H:Hp):List Dv->List V->Prop
 | [],xs=>xs=[]
 | d::ds,xs=>∃ x r,xs=x::r/\Rep K H d x/\Reps K H ds r
end
mutual
def eqD:Dv->Dv->Bool
 | .non,.non=>true
 | .bl a,.bl b=>a == b
 | .bl a,.int b=>(if a then 1 else 0) == b
 | .int a,.bl b=>a == (if b then 1 else 0)
 | .int a,.int b=>a == b
 | .str a,.str b=>a == b
 | .tup ds,.tup es=>Aw ds es
 | .lst ds,.lst es=>Aw ds es
 | _,_=>false
def Aw:List Dv->List Dv->Bool
 | [],[]=>true
 | d::ds,e::es=>eqD d e && Aw ds es
 | _,_=>false
end
mutual
def Ah:Dv->Nat
 | .tup ds=>DX ds+1
 | .lst ds=>DX ds+1
 | _=>0
def DX:List Dv->Nat
 | []=>0
 | d::ds=>max (Ah d) (DX ds)
end
theorem Nx (ds es:List Dv):eqD (.tup ds) (.tup es)=Aw ds es:=by rw [eqD]
theorem Gj (ds es:List Dv):eqD (.lst ds) (.lst es)=Aw ds es:=by rw [eqD]
theorem Reps.length {K:W.Frag} {H:Hp}:∀ {ds:List Dv} {xs:List V},Reps K H ds xs->ds.length=xs.length
 | [],xs,h=>by unfold Reps at h;subst h;rfl
 | d::ds,xs,h=>by
  unfold Reps at h
  obtain ⟨x,r,rfl,_,h⟩:=h
  rw [List.length_cons,List.length_cons,Reps.length h]
theorem Reps.get {K:W.Frag} {H:Hp}:∀ {ds:List Dv} {xs:List V} {i:Nat} {d:Dv},Reps K H ds xs->ds[i]? = some d->∃ x,xs[i]? = some x/\Rep K H d x
 | [],_,_,_,_,e=>by simp at e
 | d::ds,xs,0,_,h,e=>by
  unfold Reps at h
  obtain ⟨x,r,rfl,h1,_⟩:=h
  simp at e;subst e
  exact ⟨x,rfl,h1⟩
 | d::ds,xs,i+1,_,h,e=>by
  unfold Reps at h
  obtain ⟨x,r,rfl,_,h⟩:=h
  obtain ⟨y,h1,h2⟩:=Reps.get (i:=i) h (by simpa using e)
  exact ⟨y,by simpa using h1,h2⟩
theorem Hi {ds:List Dv} {i:Nat} {d:Dv} (h:ds[i]? = some d):Ah d<=DX ds:=by
 induction ds generalizing i with
 | nil=>simp at h
 | cons e es ih =>
  unfold DX
  cases i with
  | zero=>simp at h;subst h;lia
  | succ i=>have:=ih (i:=i) (by simpa using h);lia
theorem EW:∀ (ds es:List Dv),ds.length=es.length->Aw ds es=(List.range ds.length).all fun i=>match ds[i]?,es[i]? with | some d,some e=>eqD d e | _,_=>false
 | [],[],_=>by unfold Aw;rfl
 | d::ds,e::es,h=>by
  unfold Aw
  rw [List.length_cons,List.range_succ_eq_map,List.all_cons,List.all_map,EW ds es (by simpa using h)]
  congr 1
 | [],e::es,h=>by simp at h
 | d::ds,[],h=>by simp at h
theorem FN:∀ (ds es:List Dv),ds.length≠es.length->Aw ds es=false
 | [],[],h=>absurd rfl h
 | [],_::_,_=>by unfold Aw;rfl
 | _::_,[],_=>by unfold Aw;rfl
 | d::ds,e::es,h=>by unfold Aw;rw [FN ds es (fun z=>h (by simp [z])),Bool.and_false]
mutual
theorem FP:∀ d:Dv,eqD d d=true
 | .non=>by unfold eqD;rfl
 | .bl b=>by unfold eqD;simp
 | .int i=>by unfold eqD;simp
 | .str x=>by unfold eqD;simp
 | .tup ds=>by unfold eqD;exact Eb ds
 | .lst ds=>by unfold eqD;exact Eb ds
theorem Eb:∀ ds:List Dv,Aw ds ds=true
 | []=>by unfold Aw;rfl
 | d::ds=>by unfold Aw;rw [FP d,Eb ds];rfl
end
section
variable {X:Cx} {pins:List (Addr × Obj)} {σ:St} {H:Hp} {s:Shared}
theorem Gn {a:Addr} {xs ys:List V} (I:Inv X pins σ H s) (h:SqL X.K H a xs) (h':SqT X.K H a ys):False:=by
 obtain ⟨its,_,⟨o,n,e,c,_⟩,_⟩:=I.list h
 obtain ⟨its',_,⟨o',e',c',_⟩,_⟩:=I.tuple h'
 rw [e] at e';cases e'
 rw [c] at c'
 exact absurd c' (by decide)
mutual
theorem Ed (I:Inv X pins σ H s):∀ (d e:Dv) (x:V),Rep X.K H d x->Rep X.K H e x->d=e
 | .non,e,x,h,h'=>by
  unfold Rep at h;subst h
  cases e <;> unfold Rep at h' <;> first | rfl | (obtain ⟨a,xs,q,_⟩:=h';cases q;done) | (cases h';done)
 | .bl b,e,x,h,h'=>by
  unfold Rep at h;subst h
  cases e <;> unfold Rep at h' <;> first | (obtain ⟨a,xs,q,_⟩:=h';cases q;done) | (cases h';rfl) | (cases h';done)
 | .int b,e,x,h,h'=>by
  unfold Rep at h;subst h
  cases e <;> unfold Rep at h' <;> first | (obtain ⟨a,xs,q,_⟩:=h';cases q;done) | (cases h';rfl) | (cases h';done)
 | .str b,e,x,h,h'=>by
  unfold Rep at h;subst h
  cases e <;> unfold Rep at h' <;> first | (obtain ⟨a,xs,q,_⟩:=h';cases q;done) | (cases h';rfl) | (cases h';done)
 | .tup ds,e,x,h,h'=>by
  unfold Rep at h
  obtain ⟨a,xs,rfl,hs,hr⟩:=h
  cases e with
  | tup es =>
   unfold Rep at h'
   obtain ⟨b,ys,q,hs',hr'⟩:=h'
   cases q
   rw [I.tuple_inj hs' hs] at hr'
   rw [Et I ds es xs hr hr']
  | lst es =>
   unfold Rep at h'
   obtain ⟨b,ys,q,hs',hr'⟩:=h'
   cases q
   exact (Gn I hs' hs).elim
  | _=>unfold Rep at h';cases h'
 | .lst ds,e,x,h,h'=>by
  unfold Rep at h
  obtain ⟨a,xs,rfl,hs,hr⟩:=h
  cases e with
  | lst es =>
   unfold Rep at h'
   obtain ⟨b,ys,q,hs',hr'⟩:=h'
   cases q
   rw [I.list_inj hs' hs] at hr'
   rw [Et I ds es xs hr hr']
  | tup es =>
   unfold Rep at h'
   obtain ⟨b,ys,q,hs',hr'⟩:=h'
   cases q
   exact (Gn I hs hs').elim
  | _=>unfold Rep at h';cases h'
theorem Et (I:Inv X pins σ H s):∀ (ds es:List Dv) (xs:List V),Reps X.K H ds xs->Reps X.K H es xs->ds=es
 | [],es,xs,h,h'=>by
  unfold Reps at h;subst h
  cases es with
  | nil=>rfl
  | cons e es=>unfold Reps at h';obtain ⟨x,r,q,_⟩:=h';cases q
 | d::ds,es,xs,h,h'=>by
  unfold Reps at h
  obtain ⟨x,r,rfl,h1,h2⟩:=h
  cases es with
  | nil=>unfold Reps at h';cases h'
  | cons e es =>
   unfold Reps at h'
   obtain ⟨y,r',q,h3,h4⟩:=h'
   cases q
   rw [Ed I d e _ h1 h3,Et I ds es _ h2 h4]
end
abbrev Eq3 (A:Around) (s:Shared) (u v:Value) (b:Bool):Prop:=SeqAt.EqAt A s u v b/\SeqAt.RcAt A s u v b/\SeqAt.RcNeAt A s u v (!b)
theorem Lu {A:Around} {a b:Addr} {xs ys:List V} {ds es:List Dv} (I:Inv X pins σ H s) (hu:A.units < cLine) (ha:SqT X.K H a xs) (hb:SqT X.K H b ys) (hd:Reps X.K H ds xs) (he:Reps X.K H es ys)
 (ih:∀ (i:Nat) (d e:Dv) (x y:V) (u v:Value),ds[i]? = some d->es[i]? = some e->xs[i]? = some x->ys[i]? = some y->RelV x u->RelV y v->SeqAt.EqAt A.in1 s u v (eqD d e)):Eq3 A s (.ref a) (.ref b) (eqD (.tup ds) (.tup es)):=by
 obtain ⟨its,r1,p1,_⟩:=I.tuple ha
 obtain ⟨its2,r2,p2,_⟩:=I.tuple hb
 have l1:=hd.length;have l2:=he.length;have l3:=r1.length;have l4:=r2.length
 have hitem:∀ j (h1:j < its.toArray.size) (h2:j < its2.toArray.size),SeqAt.EqAt A.in1 s its.toArray[j] its2.toArray[j] (match ds[j]?,es[j]? with | some d,some e=>eqD d e | _,_=>false):=fun j h1 h2=>by
  rw [List.size_toArray] at h1 h2
  have e1:ds[j]? = some ds[j]:=List.getElem?_eq_getElem (by lia)
  have e2:es[j]? = some es[j]:=List.getElem?_eq_getElem (by lia)
  have e3:xs[j]? = some xs[j]:=List.getElem?_eq_getElem (by lia)
  have e4:ys[j]? = some ys[j]:=List.getElem?_eq_getElem (by lia)
  obtain ⟨u,q1,q2⟩:=r1.get e3
  obtain ⟨v,q3,q4⟩:=r2.get e4
  rw [e1,e2]
  have z1:its.toArray[j]=u:=by rw [List.getElem_toArray];rw [List.getElem?_eq_getElem h1] at q1;exact Option.some.inj q1
  have z2:its2.toArray[j]=v:=by rw [List.getElem_toArray];rw [List.getElem?_eq_getElem h2] at q3;exact Option.some.inj q3
  rw [z1,z2]
  exact ih j _ _ _ _ _ _ e1 e2 e3 e4 q2 q4
 have val:((List.range (min its.toArray.size its2.toArray.size)).all (fun j=>match ds[j]?,es[j]? with | some d,some e=>eqD d e | _,_=>false) && its.toArray.size == its2.toArray.size)=eqD (.tup ds) (.tup es):=by
  rw [List.size_toArray,List.size_toArray,<- l3,<- l4,<- l1,<- l2,Nx]
  by_cases h:ds.length=es.length
  ·rw [h,Nat.min_self,<- h,EW ds es h]
   simp
  ·rw [FN ds es h]
   have:(ds.length == es.length)=false:=by simpa using h
   rw [this,Bool.and_false]
 have R:=SeqAt.RcAt.tuples (A:=A) p1 p2 hu hitem
 have N:=SeqAt.RcNeAt.tuples (A:=A) p1 p2 hu hitem
 rw [val] at R N
 refine ⟨?_,R,N⟩
 by_cases hab:a=b
 ·subst hab
  have e:ds=es:=by
   have:=Ed I (.tup ds) (.tup es) (.ref a) (by unfold Rep;exact ⟨a,xs,rfl,ha,hd⟩) (by unfold Rep;exact ⟨a,ys,rfl,hb,he⟩)
   cases this;rfl
  subst e
  rw [FP]
  exact SeqAt.EqAt.same _
 ·exact .of_refs hab R
theorem MR {A:Around} {a b:Addr} {xs ys:List V} {ds es:List Dv} (I:Inv X pins σ H s) (hu:A.units < cLine) (ha:SqL X.K H a xs) (hb:SqL X.K H b ys) (hd:Reps X.K H ds xs) (he:Reps X.K H es ys)
 (ih:∀ (i:Nat) (d e:Dv) (x y:V) (u v:Value),ds[i]? = some d->es[i]? = some e->xs[i]? = some x->ys[i]? = some y->RelV x u->RelV y v->SeqAt.EqAt A.in1 s u v (eqD d e)):Eq3 A s (.ref a) (.ref b) (eqD (.lst ds) (.lst es)):=by
 obtain ⟨its,r1,p1,_⟩:=I.list ha
 obtain ⟨its2,r2,p2,_⟩:=I.list hb
 have l1:=hd.length;have l2:=he.length;have l3:=r1.length;have l4:=r2.length
 have hitem:∀ j (h1:j < its.toArray.size) (h2:j < its2.toArray.size),SeqAt.EqAt A.in1 s its.toArray[j] its2.toArray[j] (match ds[j]?,es[j]? with | some d,some e=>eqD d e | _,_=>false):=fun j h1 h2=>by
  rw [List.size_toArray] at h1 h2
  have e1:ds[j]? = some ds[j]:=List.getElem?_eq_getElem (by lia)
  have e2:es[j]? = some es[j]:=List.getElem?_eq_getElem (by lia)
  have e3:xs[j]? = some xs[j]:=List.getElem?_eq_getElem (by lia)
  have e4:ys[j]? = some ys[j]:=List.getElem?_eq_getElem (by lia)
  obtain ⟨u,q1,q2⟩:=r1.get e3
  obtain ⟨v,q3,q4⟩:=r2.get e4
  rw [e1,e2]
  have z1:its.toArray[j]=u:=by rw [List.getElem_toArray];rw [List.getElem?_eq_getElem h1] at q1;exact Option.some.inj q1
  have z2:its2.toArray[j]=v:=by rw [List.getElem_toArray];rw [List.getElem?_eq_getElem h2] at q3;exact Option.some.inj q3
  rw [z1,z2]
  exact ih j _ _ _ _ _ _ e1 e2 e3 e4 q2 q4
 have RN:SeqAt.RcAt A s (.ref a) (.ref b) (eqD (.lst ds) (.lst es))/\SeqAt.RcNeAt A s (.ref a) (.ref b) (!eqD (.lst ds) (.lst es)):=by
  by_cases h:ds.length=es.length
  ·have hsz:its.toArray.size=its2.toArray.size:=by rw [List.size_toArray,List.size_toArray];lia
   have val:(List.range its.toArray.size).all (fun j=>match ds[j]?,es[j]? with | some d,some e=>eqD d e | _,_=>false)=eqD (.lst ds) (.lst es):=by
    rw [Gj,List.size_toArray,<- l3,<- l1,EW ds es h]
   have R:=SeqAt.RcAt.lists (A:=A) p1.isList p2.isList hsz hu hitem
   have N:=SeqAt.RcNeAt.lists (A:=A) p1.isList p2.isList hsz hu hitem
   rw [val] at R N
   exact ⟨R,N⟩
  ·have hsz:(its.toArray.size != its2.toArray.size)=true:=by rw [List.size_toArray,List.size_toArray];simp;lia
   have val:eqD (.lst ds) (.lst es)=false:=by rw [Gj];exact FN ds es h
   rw [val]
   exact ⟨SeqAt.RcAt.lists_lengths p1.isList p2.isList hsz hu,SeqAt.RcNeAt.lists_lengths p1.isList p2.isList hsz hu⟩
 refine ⟨?_,RN.1,RN.2⟩
 by_cases hab:a=b
 ·subst hab
  have e:ds=es:=by
   have:=Ed I (.lst ds) (.lst es) (.ref a) (by unfold Rep;exact ⟨a,xs,rfl,ha,hd⟩) (by unfold Rep;exact ⟨a,ys,rfl,hb,he⟩)
   cases this;rfl
  subst e
  rw [FP]
  exact SeqAt.EqAt.same _
 ·exact .of_refs hab RN.1
theorem IH (I:Inv X pins σ H s):∀ (n:Nat) (A:Around) (d e:Dv) (x y:V) (u v:Value),Ah d<=n->A.units+n < cLine->Rep X.K H d x->Rep X.K H e y->RelV x u->RelV y v->Eq3 A s u v (eqD d e):=by
 intro n
 induction n with
 | zero =>
  intro A d e x y u v hd hu hx hy ru rv
  have hu':A.units < cLine:=by lia
  cases d with
  | tup ds=>unfold Ah at hd;lia
  | lst ds=>unfold Ah at hd;lia
  | non =>
   unfold Rep at hx;subst hx;cases ru
   cases e <;> unfold Rep at hy
   case non=>subst hy;cases rv;exact ⟨SeqAt.EqAt.same _,SeqAt.RcAt.none_none,SeqAt.RcNeAt.none_none⟩
   case bl=>subst hy;cases rv;exact ⟨.none_bool _,.none_bool _,.none_bool _⟩
   case int=>subst hy;obtain ⟨t,rfl⟩:=rv;exact ⟨.none_int _ _,.none_int _ _,.none_int _ _⟩
   case str=>subst hy;obtain ⟨t,rfl⟩:=rv;exact ⟨.none_str _ _,.none_str _ _,.none_str _ _⟩
   case tup=>obtain ⟨a,xs,rfl,ha,_⟩:=hy;cases rv;obtain ⟨its,_,p,_⟩:=I.tuple ha;exact ⟨.none_tuple p hu',.none_tuple p hu',.none_tuple p hu'⟩
   case lst=>obtain ⟨a,xs,rfl,ha,_⟩:=hy;cases rv;obtain ⟨its,_,p,_⟩:=I.list ha;exact ⟨.none_list p.isList hu',.none_list p.isList hu',.none_list p.isList hu'⟩
  | bl c =>
   unfold Rep at hx;subst hx;cases ru
   cases e <;> unfold Rep at hy
   case non=>subst hy;cases rv;exact ⟨.bool_none _,.bool_none _,.bool_none _⟩
   case bl=>subst hy;cases rv;unfold eqD;exact ⟨.bool_bool _ _,.bool_bool _ _,.bool_bool _ _⟩
   case int=>subst hy;obtain ⟨t,rfl⟩:=rv;unfold eqD;exact ⟨.bool_int _ _ _,.bool_int _ _ _,.bool_int _ _ _⟩
   case str=>subst hy;obtain ⟨t,rfl⟩:=rv;exact ⟨.bool_str _ _ _,.bool_str _ _ _,.bool_str _ _ _⟩
   case tup=>obtain ⟨a,xs,rfl,ha,_⟩:=hy;cases rv;obtain ⟨its,_,p,_⟩:=I.tuple ha;exact ⟨.bool_tuple _ p hu',.bool_tuple _ p hu',.bool_tuple _ p hu'⟩
   case lst=>obtain ⟨a,xs,rfl,ha,_⟩:=hy;cases rv;obtain ⟨its,_,p,_⟩:=I.list ha;exact ⟨.bool_list _ p.isList hu',.bool_list _ p.isList hu',.bool_list _ p.isList hu'⟩
  | int c =>
   unfold Rep at hx;subst hx;obtain ⟨t0,rfl⟩:=ru
   cases e <;> unfold Rep at hy
   case non=>subst hy;cases rv;exact ⟨.int_none _ _,.int_none _ _,.int_none _ _⟩
   case bl=>subst hy;cases rv;unfold eqD;exact ⟨.int_bool _ _ _,.int_bool _ _ _,.int_bool _ _ _⟩
   case int=>subst hy;obtain ⟨t,rfl⟩:=rv;unfold eqD;exact ⟨.int_int _ _ _ _,.int_int _ _ _ _,.int_int _ _ _ _⟩
   case str=>subst hy;obtain ⟨t,rfl⟩:=rv;exact ⟨.int_str _ _ _ _,.int_str _ _ _ _,.int_str _ _ _ _⟩
   case tup=>obtain ⟨a,xs,rfl,ha,_⟩:=hy;cases rv;obtain ⟨its,_,p,_⟩:=I.tuple ha;exact ⟨.int_tuple _ _ p hu',.int_tuple _ _ p hu',.int_tuple _ _ p hu'⟩
   case lst=>obtain ⟨a,xs,rfl,ha,_⟩:=hy;cases rv;obtain ⟨its,_,p,_⟩:=I.list ha;exact ⟨.int_list _ _ p.isList hu',.int_list _ _ p.isList hu',.int_list _ _ p.isList hu'⟩
  | str c =>
   unfold Rep at hx;subst hx;obtain ⟨t0,rfl⟩:=ru
   cases e <;> unfold Rep at hy
   case non=>subst hy;cases rv;exact ⟨.str_none _ _,.str_none _ _,.str_none _ _⟩
   case bl=>subst hy;cases rv;exact ⟨.str_bool _ _ _,.str_bool _ _ _,.str_bool _ _ _⟩
   case int=>subst hy;obtain ⟨t,rfl⟩:=rv;exact ⟨.str_int _ _ _ _,.str_int _ _ _ _,.str_int _ _ _ _⟩
   case str=>subst hy;obtain ⟨t,rfl⟩:=rv;unfold eqD;exact ⟨.str_str _ _ _ _,.str_str _ _ _ _,.str_str _ _ _ _⟩
   case tup=>obtain ⟨a,xs,rfl,ha,_⟩:=hy;cases rv;obtain ⟨its,_,p,_⟩:=I.tuple ha;exact ⟨.str_tuple _ _ p hu',.str_tuple _ _ p hu',.str_tuple _ _ p hu'⟩
   case lst=>obtain ⟨a,xs,rfl,ha,_⟩:=hy;cases rv;obtain ⟨its,_,p,_⟩:=I.list ha;exact ⟨.str_list _ _ p.isList hu',.str_list _ _ p.isList hu',.str_list _ _ p.isList hu'⟩
 | succ n ih =>
  intro A d e x y u v hd hu hx hy ru rv
  have hu':A.units < cLine:=by lia
  have hin:A.in1.units+n < cLine:=by show A.units+1+n < cLine;lia
  cases d with
  | tup ds =>
   unfold Ah at hd
   unfold Rep at hx
   obtain ⟨a,xs,rfl,ha,hr⟩:=hx
   cases ru
   cases e <;> unfold Rep at hy
   case tup es =>
    obtain ⟨b,ys,rfl,hb,hr'⟩:=hy
    cases rv
    refine Lu I hu' ha hb hr hr' fun i d e x y u v e1 e2 e3 e4 ru rv=>?_
    obtain ⟨x',q1,q2⟩:=hr.get e1
    obtain ⟨y',q3,q4⟩:=hr'.get e2
    rw [e3] at q1;cases q1
    rw [e4] at q3;cases q3
    exact (ih A.in1 d e x y u v (by have:=Hi e1;lia) hin q2 q4 ru rv).1
   case non=>subst hy;cases rv;obtain ⟨its,_,p,_⟩:=I.tuple ha;exact ⟨.tuple_none p hu',.tuple_none p hu',.tuple_none p hu'⟩
   case bl=>subst hy;cases rv;obtain ⟨its,_,p,_⟩:=I.tuple ha;exact ⟨.tuple_bool _ p hu',.tuple_bool _ p hu',.tuple_bool _ p hu'⟩
   case int=>subst hy;obtain ⟨t,rfl⟩:=rv;obtain ⟨its,_,p,_⟩:=I.tuple ha;exact ⟨.tuple_int _ _ p hu',.tuple_int _ _ p hu',.tuple_int _ _ p hu'⟩
   case str=>subst hy;obtain ⟨t,rfl⟩:=rv;obtain ⟨its,_,p,_⟩:=I.tuple ha;exact ⟨.tuple_str _ _ p hu',.tuple_str _ _ p hu',.tuple_str _ _ p hu'⟩
   case lst=>obtain ⟨b,ys,rfl,hb,_⟩:=hy;cases rv;obtain ⟨its,_,p,_⟩:=I.tuple ha;obtain ⟨its2,_,p2,_⟩:=I.list hb;exact ⟨.tuple_list p p2.isList hu',.tuple_list p p2.isList hu',.tuple_list p p2.isList hu'⟩
  | lst ds =>
   unfold Ah at hd
   unfold Rep at hx
   obtain ⟨a,xs,rfl,ha,hr⟩:=hx
   cases ru
   cases e <;> unfold Rep at hy
   case lst es =>
    obtain ⟨b,ys,rfl,hb,hr'⟩:=hy
    cases rv
    refine MR I hu' ha hb hr hr' fun i d e x y u v e1 e2 e3 e4 ru rv=>?_
    obtain ⟨x',q1,q2⟩:=hr.get e1
    obtain ⟨y',q3,q4⟩:=hr'.get e2
    rw [e3] at q1;cases q1
    rw [e4] at q3;cases q3
    exact (ih A.in1 d e x y u v (by have:=Hi e1;lia) hin q2 q4 ru rv).1
   case non=>subst hy;cases rv;obtain ⟨its,_,p,_⟩:=I.list ha;exact ⟨.list_none p.isList hu',.list_none p.isList hu',.list_none p.isList hu'⟩
   case bl=>subst hy;cases rv;obtain ⟨its,_,p,_⟩:=I.list ha;exact ⟨.list_bool _ p.isList hu',.list_bool _ p.isList hu',.list_bool _ p.isList hu'⟩
   case int=>subst hy;obtain ⟨t,rfl⟩:=rv;obtain ⟨its,_,p,_⟩:=I.list ha;exact ⟨.list_int _ _ p.isList hu',.list_int _ _ p.isList hu',.list_int _ _ p.isList hu'⟩
   case str=>subst hy;obtain ⟨t,rfl⟩:=rv;obtain ⟨its,_,p,_⟩:=I.list ha;exact ⟨.list_str _ _ p.isList hu',.list_str _ _ p.isList hu',.list_str _ _ p.isList hu'⟩
   case tup=>obtain ⟨b,ys,rfl,hb,_⟩:=hy;cases rv;obtain ⟨its,_,p,_⟩:=I.list ha;obtain ⟨its2,_,p2,_⟩:=I.tuple hb;exact ⟨.list_tuple p.isList p2 hu',.list_tuple p.isList p2 hu',.list_tuple p.isList p2 hu'⟩
  | non=>exact ih A .non e x y u v (by unfold Ah;lia) (by lia) hx hy ru rv
  | bl c=>exact ih A (.bl c) e x y u v (by unfold Ah;lia) (by lia) hx hy ru rv
  | int c=>exact ih A (.int c) e x y u v (by unfold Ah;lia) (by lia) hx hy ru rv
  | str c=>exact ih A (.str c) e x y u v (by unfold Ah;lia) (by lia) hx hy ru rv
end
section
variable {X:Cx}
def mEq (neg:Bool) (K:W.Frag):R2:=fun x y H Q=>match x,y with
 | .non,.non=>Q (.bl (neg ^^ true)) H
 | .bl a,.bl b=>Q (.bl (neg ^^ (a == b))) H
 | .int a,.int b=>Q (.bl (neg ^^ (a == b))) H
 | .str a,.str b=>Q (.bl (neg ^^ (a == b))) H
 | x,y=>∃ d e,Rep K H d x/\Rep K H e y/\Ah d<=60/\Q (.bl (neg ^^ eqD d e)) H
theorem MY (hu:X.A.units+60 < cLine):OpR X (compareOp .Eq) (fun x y H Q=>∃ d e,Rep X.K H d x/\Rep X.K H e y/\Ah d<=60/\Q (.bl (eqD d e)) H):=by
 intro pins s σ H x y v u Q I rx ry h
 obtain ⟨d,e,h1,h2,h3,q⟩:=h
 exact (IH I 60 X.A d e x y v u h3 hu h1 h2 rx ry).2.1 X.prog X.w _ _ ⟨.bl _,H,I,rfl,q⟩
theorem KU (hu:X.A.units+60 < cLine):OpR X (compareOp .NotEq) (fun x y H Q=>∃ d e,Rep X.K H d x/\Rep X.K H e y/\Ah d<=60/\Q (.bl (!eqD d e)) H):=by
 intro pins s σ H x y v u Q I rx ry h
 obtain ⟨d,e,h1,h2,h3,q⟩:=h
 exact (IH I 60 X.A d e x y v u h3 hu h1 h2 rx ry).2.2 X.prog X.w _ _ ⟨.bl _,H,I,rfl,q⟩
theorem IP {neg:Bool} {K:W.Frag} {x y:V} {H:Hp} {Q:VK} (h:mEq neg K x y H Q):∃ d e,Rep K H d x/\Rep K H e y/\Ah d<=60/\Q (.bl (neg ^^ eqD d e)) H:=by
 unfold mEq at h
 split at h
 ·exact ⟨.non,.non,by unfold Rep;rfl,by unfold Rep;rfl,by unfold Ah;lia,by unfold eqD;exact h⟩
 ·rename_i a b;exact ⟨.bl a,.bl b,by unfold Rep;rfl,by unfold Rep;rfl,by unfold Ah;lia,by unfold eqD;exact h⟩
 ·rename_i a b;exact ⟨.int a,.int b,by unfold Rep;rfl,by unfold Rep;rfl,by unfold Ah;lia,by unfold eqD;exact h⟩
 ·rename_i a b;exact ⟨.str a,.str b,by unfold Rep;rfl,by unfold Rep;rfl,by unfold Ah;lia,by unfold eqD;exact h⟩
 ·exact h
theorem Ip (hu:X.A.units+60 < cLine):OpR X (compareOp .Eq) (mEq false X.K):=(MY hu).imp fun x y H Q h=>by
 obtain ⟨d,e,h1,h2,h3,q⟩:=IP h
 exact ⟨d,e,h1,h2,h3,by rw [Bool.false_xor] at q;exact q⟩
theorem LP (hu:X.A.units+60 < cLine):OpR X (compareOp .NotEq) (mEq true X.K):=(KU hu).imp fun x y H Q h=>by
 obtain ⟨d,e,h1,h2,h3,q⟩:=IP h
 exact ⟨d,e,h1,h2,h3,by rw [Bool.true_xor] at q;exact q⟩
end
section
variable {X:Cx} {a b c e:Expr} {es:List Expr} {ta tb tc te:TE} {tA tB':TT} {t:TA} {pos p:Pos} {x:Str}
def isB (v:V) (Q:Bool->Prop):Prop:=match v with
 | .bl c=>Q c
 | _=>False
theorem EC {v:V} {Q:Bool->Prop} (h:isB v Q):∃ c,v=.bl c/\Q c:=by
 cases v <;> first | exact False.elim h | exact ⟨_,rfl,h⟩
def AM (t:TE):Prop:=∀ σ H (Q Q':VK),(∀ v H,Q v H->Q' v H)->t σ H Q->t σ H Q'
def uB (t:TE):TT:=fun σ H Q=>t σ H fun x H1=>isB x fun c=>Q c H1
theorem Al {op:CmpOp} {r:R2} (ho:OpR X (compareOp op) r) (ha:PE X a ta) (hb:PE X b tb) (hm:behindInMarks op b=false:=by first | exact E7 _ (by decide) (by decide) | rfl):PT X (.Compare a [op] [b] pos) (uB (tOp r ta tb)):=by
 intro pins s σ H Q I h
 refine wpAny_isTrue_Compare1 (thn (ha pins s σ H _ I h) fun v s1 ⟨x,H1,I1,r1,q1⟩=>thn (hb pins s1 σ H1 _ I1 q1) fun u s2 ⟨y,H2,I2,r2,q2⟩ =>
  thn (ho pins s2 σ H2 x y v u _ I2 r1 r2 q2) fun c s3 ⟨z,H3,I3,r3,q⟩=>?_) hm
 obtain ⟨k,e,q3⟩:=EC q
 subst e
 cases r3
 exact wpAny_truthy_bool ⟨H3,I3,q3⟩
theorem Bm {op:CmpOp} {r:R2} (ho:OpR X (compareOp op) r) (ha:PE X a ta) (hb:PE X b tb) (hm:behindInMarks op b=false:=by first | exact E7 _ (by decide) (by decide) | rfl):PE X (.Compare a [op] [b] pos) (tOp r ta tb):=Ni ho ha hb hm
theorem JU (h:PE X e te) (he:∀ whole,isTrue e X.env whole=(do let v <- whole;standAt e.pos;holding [v] (truthy v)):=by intro _;rfl):PT X e (uB te):=by
 intro pins s σ H Q I hq
 refine isTrue_plain (thn (h pins s σ H _ I hq) fun v s1 ⟨x,H1,I1,r1,q1⟩=>?_) (he _)
 obtain ⟨k,e,q⟩:=EC q1
 subst e
 cases r1
 exact wpAny_truthy_bool ⟨H1,I1,q⟩
def JW (ta tb:TE):TE:=fun σ H Q=>ta σ H fun x H1=>isB x fun c=>if c=true then tb σ H1 Q else Q (.bl false) H1
def Gm (ta:TE):TE:=fun σ H Q=>ta σ H fun x H1=>isB x fun c=>Q (.bl (!c)) H1
theorem E4 (ha:PE X a ta) (hb:PE X (.BoolOp .And (b::es) pos) tb):PE X (.BoolOp .And (a::b::es) pos) (JW ta tb):=by
 have ha':PE X a (fun σ H Q=>ta σ H fun x H1=>isB x fun c=>Q (.bl c) H1):=fun pins s σ H Q I h=>thn (ha pins s σ H _ I h) fun v s1 ⟨x,H1,I1,r1,q1⟩=>by
  obtain ⟨c,e,q⟩:=EC q1
  subst e
  exact ⟨.bl c,H1,I1,r1,q⟩
 have h:=JD (pos:=pos) ha' hb
 exact h.imp fun σ H Q q=>by
  show ta σ H fun x H1=>isB x fun c=>∃ c',V.bl c=.bl c'/\if c'=true then tb σ H1 Q else Q (.bl false) H1
  have e:(fun (x:V) (H1:Hp)=>isB x fun c=>∃ c',V.bl c=.bl c'/\if c'=true then tb σ H1 Q else Q (.bl false) H1)=fun x H1=>isB x fun c=>if c=true then tb σ H1 Q else Q (.bl false) H1:=by
   funext x H1
   cases x <;> first | rfl | (apply propext;constructor;(rintro ⟨c',e,h⟩;cases e;exact h);(intro h;exact ⟨_,rfl,h⟩))
  rw [e]
  exact q
theorem LS (ha:PE X a ta):PE X (.UnaryOp .Not a pos) (Gm ta):=by
 have ha':PE X a (fun σ H Q=>ta σ H fun x H1=>isB x fun c=>Q (.bl c) H1):=fun pins s σ H Q I h=>thn (ha pins s σ H _ I h) fun v s1 ⟨x,H1,I1,r1,q1⟩=>by
  obtain ⟨c,e,q⟩:=EC q1
  subst e
  exact ⟨.bl c,H1,I1,r1,q⟩
 have h:=JI (pos:=pos) ha'
 exact h.imp fun σ H Q q=>by
  show ta σ H fun x H1=>isB x fun c=>∃ c',V.bl c=.bl c'/\Q (.bl (!c')) H1
  have e:(fun (x:V) (H1:Hp)=>isB x fun c=>∃ c',V.bl c=.bl c'/\Q (.bl (!c')) H1)=fun x H1=>isB x fun c=>Q (.bl (!c)) H1:=by
   funext x H1
   cases x <;> first | rfl | (apply propext;constructor;(rintro ⟨c',e,h⟩;cases e;exact h);(intro h;exact ⟨_,rfl,h⟩))
  rw [e]
  exact q
def SqA (K:W.Frag) (H:Hp) (p:Addr) (xs:List V):Prop:=SqL K H p xs\/SqT K H p xs
def mIx (K:W.Frag):R2:=fun x y H Q=>match x,y with
 | .ref p,.int i=>∃ xs v,SqA K H p xs/\atI xs i=some v/\Q v H
 | .str z,.int i=>∃ c,z.length<=sizeLine/\atI z.cps.toList i=some c/\Q (.str ⟨#[c]⟩) H
 | _,_=>False
theorem IxR.imp {r r':R2} (h:IxR X r) (g:∀ x y H Q,r' x y H Q->r x y H Q):IxR X r':=fun a b pins s σ H x y v u Q I rx ry q z=>h a b pins s σ H x y v u Q I rx ry (g _ _ _ _ q) z
theorem M5:IxR X (mIx X.K):=ix_seq.imp fun x y H Q q=>by
 cases x <;> cases y <;> first
  | exact False.elim q
  | (obtain ⟨xs,v,h | h,e,q⟩:=q
     ·exact .inl ⟨_,xs,_,v,rfl,rfl,h,e,q⟩
     ·exact .inr (.inl ⟨_,xs,_,v,rfl,rfl,h,e,q⟩))
  | (obtain ⟨c,hz,e,q⟩:=q
     exact .inr (.inr ⟨_,_,c,rfl,rfl,hz,e,q⟩))
theorem NQ (ha:PE X a ta) (hb:PE X b tb) (hs:EY b:=by intro _ _;rfl):PE X (.Subscript a b pos) (tOp (mIx X.K) ta tb):=JY M5 ha hb hs
def EQ (K:W.Frag):List V->Hp->VK->Prop:=fun xs H Q=>match xs with
 | [x]=>∃ n,GE K x H n/\Q (.int n) H
 | _=>False
theorem Nr:CallR X (.builtin "len") (EQ X.K):=call_len.imp fun xs H Q q=>by
 match xs,q with
 | [x],⟨n,h,q⟩=>exact ⟨x,n,rfl,h,q⟩
def FM:List V->Hp->VK->Prop:=fun xs H Q=>match xs with
 | [.int i]=>Q (.int (i.natAbs:Int)) H
 | _=>False
theorem JK:CallR X (.builtin "abs") FM:=call_abs.imp fun xs H Q q=>by
 match xs,q with
 | [.int i],q =>
  refine ⟨i,rfl,?_⟩
  have e:(if i < 0 then -i else i)=(i.natAbs:Int):=by split <;> lia
  rw [e]
  exact q
def E3:List V->Hp->VK->Prop:=fun xs H Q=>match xs with
 | [.int i,.int j]=>Q (.int (max i j)) H
 | _=>False
theorem NO (hc:X.calm=true):CallR X (.builtin "max") E3:=(Nj hc).imp fun xs H Q q=>by
 match xs,q with
 | [.int i,.int j],q =>
  refine ⟨i,j,rfl,?_⟩
  have e:(if j > i then j else i)=max i j:=by split <;> lia
  rw [e]
  exact q
def EV:List V->Hp->VK->Prop:=fun xs H Q=>match xs with
 | [.int i,.int j]=>Q (.int (min i j)) H
 | _=>False
theorem GR (hc:X.calm=true):CallR X (.builtin "min") EV:=(Jy hc).imp fun xs H Q q=>by
 match xs,q with
 | [.int i,.int j],q =>
  refine ⟨i,j,rfl,?_⟩
  have e:(if j < i then j else i)=min i j:=by split <;> lia
  rw [e]
  exact q
def FU:List V->Hp->VK->Prop:=fun xs H Q=>match xs with
 | [.int i]=>Q (.int i) H
 | [.bl k]=>Q (.int (if k then 1 else 0)) H
 | _=>False
theorem GL:CallR X (.type "int") FU:=call_int1.imp fun xs H Q q=>by
 match xs,q with
 | [.int i],q=>exact .inl ⟨i,rfl,q⟩
 | [.bl k],q=>exact .inr ⟨k,rfl,q⟩
def ET (K:W.Frag):List V->Hp->VK->Prop:=fun xs H Q=>match xs with
 | [.ref p]=>∃ ys,(SqL K H p ys/\∀ l,H l=none->Q (.ref l) (upd H l (.tup ys)))\/(SqT K H p ys/\Q (.ref p) H)
 | _=>False
theorem NE:CallR X (.type "tuple") (ET X.K):=call_tuple_of.imp fun xs H Q q=>by
 match xs,q with
 | [.ref p],⟨ys,q⟩=>exact ⟨p,ys,rfl,q⟩
def GC (K:W.Frag) (T:String) (x:V) (H:Hp) (b:Bool):Prop:=match x with
 | .non=>b=(T == "NoneType")
 | .bl _=>b=(T == "bool" || T == "int")
 | .int _=>b=(T == "int")
 | .str _=>b=(T == "str")
 | .ref a=>(∃ xs,(H a=some (.lst xs)\/∃ o,H a=some (.frz o (.lst xs)))/\b=(T == "list"))\/(∃ xs,H a=some (.tup xs)/\b=(T == "tuple"))\/((∃ kvs,H a=some (.dK kvs))/\b=(T == "dict"))\/((∃ kvs,H a=some (.dT kvs))/\b=(T == "dict"))
 | _=>False
def kinds:List String:=["int","bool","str","tuple","list","dict"]
theorem Nk (K:W.Frag):∀ T∈kinds,PySem.W.kitOne K (.type "NoneType") (.type T)=some (T == "NoneType")/\PySem.W.kitOne K (.type "bool") (.type T)=some (T == "bool" || T == "int") /\
 PySem.W.kitOne K (.type "int") (.type T)=some (T == "int")/\PySem.W.kitOne K (.type "str") (.type T)=some (T == "str")/\PySem.W.kitOne K (.type "list") (.type T)=some (T == "list") /\
 PySem.W.kitOne K (.type "tuple") (.type T)=some (T == "tuple")/\PySem.W.kitOne K (.type "dict") (.type T)=some (T == "dict"):=by
 intro T h
 unfold kinds at h
 rcases List.mem_cons.mp h with rfl | h
 ·exact ⟨rfl,rfl,rfl,rfl,rfl,rfl,rfl⟩
 rcases List.mem_cons.mp h with rfl | h
 ·exact ⟨rfl,rfl,rfl,rfl,rfl,rfl,rfl⟩
 rcases List.mem_cons.mp h with rfl | h
 ·exact ⟨rfl,rfl,rfl,rfl,rfl,rfl,rfl⟩
 rcases List.mem_cons.mp h with rfl | h
 ·exact ⟨rfl,rfl,rfl,rfl,rfl,rfl,rfl⟩
 rcases List.mem_cons.mp h with rfl | h
 ·exact ⟨rfl,rfl,rfl,rfl,rfl,rfl,rfl⟩
 rcases List.mem_cons.mp h with rfl | h
 ·exact ⟨rfl,rfl,rfl,rfl,rfl,rfl,rfl⟩
 ·exact absurd h (by simp)
theorem LC {K:W.Frag} {T:String} {v:V} {H:Hp} {k:Bool} (hT:T∈kinds) (h:GC K T v H k):∃ ty,TyOf K H v ty/\PySem.W.kitOne K ty (.type T)=some k:=by
 obtain ⟨k1,k2,k3,k4,k5,k6,k7⟩:=Nk K T hT
 cases v with
 | non=>cases (show k=_ from h);exact ⟨_,.non,k1⟩
 | bl _=>cases (show k=_ from h);exact ⟨_,.bl _,k2⟩
 | int _=>cases (show k=_ from h);exact ⟨_,.int _,k3⟩
 | str _=>cases (show k=_ from h);exact ⟨_,.str _,k4⟩
 | ref q =>
  rcases h with ⟨xs,h | ⟨o,h⟩,e⟩ | ⟨xs,h,e⟩ | ⟨⟨kvs,h⟩,e⟩ | ⟨⟨kvs,h⟩,e⟩
  ·subst e;exact ⟨_,.lst h,k5⟩
  ·subst e;exact ⟨_,.frz h,k5⟩
  ·subst e;exact ⟨_,.tup h,k6⟩
  ·subst e;exact ⟨_,.dK h,k7⟩
  ·subst e;exact ⟨_,.dT h,k7⟩
 | _=>exact False.elim h
def G2 (K:W.Frag):List V->Hp->VK->Prop:=fun xs H Q=>match xs with
 | [x,.ty T]=>T∈kinds/\∃ k,GC K T x H k/\Q (.bl k) H
 | _=>False
theorem Kr:CallR X (.builtin "isinstance") (G2 X.K):=by
 intro pins s σ H xs us Q I r q
 match xs,q with
 | [x,.ty T],q =>
  obtain ⟨hT,k,h,q⟩:=q
  obtain ⟨u,w',rfl,ru,rw'⟩:=Fl r
  cases rw'
  obtain ⟨ty,h1,h2⟩:=LC hT h
  exact KB I ru h1 h2 fun tk=>⟨.bl k,H,I.tok _,rfl,q⟩
end
def EB (scope sc:Scope):Bool :=
 decide (scope.kind=.function) && decide (scope.names.map (·.1)).Nodup && scope.names.all fun y=>!(y.2 == .free) || (sc.names.lookup y.1 == some .cell || sc.names.lookup y.1 == some .free)
theorem CompScope.of {scope sc:Scope} (h:EB scope sc=true):CompScope scope sc:=by
 unfold EB at h
 rw [Bool.and_eq_true,Bool.and_eq_true] at h
 obtain ⟨⟨h1,h2⟩,h3⟩:=h
 refine ⟨of_decide_eq_true h1,of_decide_eq_true h2,fun y hy hf=>?_⟩
 have:=List.all_eq_true.mp h3 y hy
 rw [hf] at this
 rcases (Bool.or_eq_true _ _).mp this with z | z
 ·exact absurd z (by decide)
 ·rcases (Bool.or_eq_true _ _).mp z with z | z
  ·exact .inl (by simpa using z)
  ·exact .inr (by simpa using z)
section
variable {X:Cx} {tg iter elt:Expr} {ifs:List Expr} {scope:Scope} {pos:Pos} {N':List Str} {own:Nat} {ix:List Nat} {g:TG} {tc:TT} {te:TE} {wi:TI}
theorem frB {l:List Str} (h:(l.all fun x=>scope.names.lookup x == some .free)=true):∀ x∈l,scope.names.lookup x=some .free:=fun x hx=>by
 have:=List.all_eq_true.mp h x hx
 simpa using this
theorem BM (hc:X.calm=true) (hi:PI X tg iter wi) (S:EB scope X.env.scope=true)
 (hlen:N'.length=own+ix.length) (hN:(N'.drop own).map some=ix.map (X.N[·]?)) (hfr:((N'.drop own).all fun x=>scope.names.lookup x == some .free)=true)
 (hg:∀ c,PG (X.comp scope N' c) tg g) (hgo:By own g) (ht:∀ c,PTs (X.comp scope N' c) ifs tc) (he:∀ c,PE (X.comp scope N' c) elt te)
 (hs:∀ x,foldedSetIterable iter X.env x=pure x:=by intro _;rfl):PE X (.ListComp elt [⟨tg,iter,ifs,0⟩] scope pos) (DM wi own ix g tc te) :=
 NC hc hi (.of S) hlen hN (frB hfr) hg hgo ht he hs
theorem D6 {i:Nat} {y:Str} {py spos:Pos} (hc:X.calm=true) (hnd:X.N.Nodup) (hiy:X.N[i]? = some y) (hy:X.env.scope.names.lookup y=some .local) (hi:PI X tg iter wi) (S:EB scope X.env.scope=true)
 (hlen:N'.length=own+ix.length) (hN:(N'.drop own).map some=ix.map (X.N[·]?)) (hfr:((N'.drop own).all fun x=>scope.names.lookup x == some .free)=true)
 (hg:∀ c,PG (X.comp scope N' c) tg g) (hgo:By own g) (ht:∀ c,PTs (X.comp scope N' c) ifs tc) (he:∀ c,PE (X.comp scope N' c) elt te)
 (hsw:swapsWith (.ListComp elt [⟨tg,iter,ifs,0⟩] scope pos) (some (.Name y py)) spos.line X.env=pure true)
 (hs:∀ x,foldedSetIterable iter X.env x=pure x:=by intro _;rfl):PS X (.Assign [.Name y py] (.ListComp elt [⟨tg,iter,ifs,0⟩] scope pos) spos) (Cq (DM wi own ix g tc te) (AS i)) :=
 Ij hc hnd hiy hy hi (.of S) hlen hN (frB hfr) hg hgo ht he hsw hs
def FR (K:W.Frag) (tl:TE):TI:=fun σ H R=>tl σ H fun x H1=>match x with
 | .ref a=>((∃ xs,SqL K H1 a xs)/\R (Itl K a) H1)\/((∃ xs,SqT K H1 a xs)/\R (Itt K a) H1)
 | _=>False
theorem Kv {l:Expr} {tl:TE} (hl:PE X l tl):PI X tg l (FR X.K tl):=by
 intro pins s σ H R I h
 refine thn (hl pins s σ H _ I h) fun v s1 ⟨x,H1,I1,r1,q1⟩=>?_
 cases x with
 | ref a =>
  cases r1
  rcases q1 with ⟨⟨xs,hq⟩,q⟩ | ⟨⟨xs,hq⟩,q⟩
  ·obtain ⟨its,rv,p,hz⟩:=I1.list hq
   refine wpAny_pyIter_list p.isList ?_
   refine ⟨s1.heap.objs.size,[s1.heap.objs.size],_,_,H1,rfl,I1.kept (t':=s1.toks) fun b o e=>Heap.get?_push_of_some _ e,JC a _,⟨_,Heap.get?_push_size _ rfl,rfl,rfl⟩,fun b hb=>?_,q⟩
   have e:b=s1.heap.objs.size:=by simpa using hb
   subst e
   exact I1.fpOk (Nat.le_refl _) (I1.hok.fresh (Nat.le_refl _))
  ·obtain ⟨its,rv,p,hz⟩:=I1.tuple hq
   refine wpAny_pyIter_tuple (show s1.heap.IsTuple a its.toArray from p) ?_
   refine ⟨s1.heap.objs.size,[s1.heap.objs.size],_,_,H1,rfl,I1.kept (t':=s1.toks) fun b o e=>Heap.get?_push_of_some _ e,Iq a _,⟨_,Heap.get?_push_size _ rfl,rfl,rfl⟩,fun b hb=>?_,q⟩
   have e:b=s1.heap.objs.size:=by simpa using hb
   subst e
   exact I1.fpOk (Nat.le_refl _) (I1.hok.fresh (Nat.le_refl _))
 | _=>exact False.elim q1
def Fe:CD:=fun o i v H Q=>match o,i with
 | .ref p,.int k=>∃ xs j,H p=some (.lst xs)/\ixN xs.length k=some j/\Q (upd H p (.lst (xs.set j v)))
 | _,_=>False
theorem CJ:C3 X Fe:=by
 intro pins s σ H o i v ov iv u Q I ro ri rv h
 cases o <;> cases i <;> first
  | exact False.elim h
  | (obtain ⟨xs,j,h1,h2,q⟩:=h
     exact NY pins s σ H _ _ v ov iv u Q I ro ri rv ⟨_,xs,_,j,rfl,rfl,h1,h2,q⟩)
theorem Im {K:W.Frag} {a:Addr} {xs:List V} {σc:St} {Q:VK} {H:Hp} (Pv:Nat->List V->Hp->Prop) (h0:Pv 0 [] H) (hl:∀ i ys H,i<=xs.length->Pv i ys H->SqL K H a xs) (hz:∀ i ys H,i < xs.length->Pv i ys H->ys.length < sizeLine)
 (hs:∀ i x ys H,xs[i]? = some x->Pv i ys H->g x σc H fun σ2 H2=>tc σ2 H2 fun b H3=>if b=true then te σ2 H3 fun y H4=>Pv (i+1) (ys++[y]) H4 else Pv (i+1) ys H3)
 (hd:∀ ys H,Pv xs.length ys H->∀ p,H p=none->Q (.ref p) (upd H p (.lst ys))):CQ (Itl K a) g tc te σc Q H:=by
 refine ⟨fun i m ys H=>m=xs.length - i/\i<=xs.length/\Pv i ys H,⟨xs.length,by simp,Nat.zero_le _,h0⟩,?_⟩
 rintro i m ys H ⟨rfl,hi,p⟩
 have q:=hl i ys H hi p
 by_cases hlt:i < xs.length
 ·refine .inr ⟨⟨xs,xs[i],q,by simp [hlt]⟩,hz i ys H hlt p,Pv (i+1),fun ys' H' p'=>⟨xs.length - (i+1),by lia,rfl,hlt,p'⟩,fun x H' y=>?_⟩
  obtain ⟨e,y⟩:=y
  subst e
  exact hs i x ys _ (y xs q) p
 ·have e:i=xs.length:=by lia
  subst e
  exact .inl ⟨⟨xs,q,Nat.le_refl _⟩,hd ys H p⟩
theorem Hv {K:W.Frag} {a:Addr} {xs:List V} {σc:St} {Q:VK} {H:Hp} (Pv:Nat->List V->Hp->Prop) (h0:Pv 0 [] H) (hl:∀ i ys H,i<=xs.length->Pv i ys H->SqT K H a xs) (hz:∀ i ys H,i < xs.length->Pv i ys H->ys.length < sizeLine)
 (hs:∀ i x ys H,xs[i]? = some x->Pv i ys H->g x σc H fun σ2 H2=>tc σ2 H2 fun b H3=>if b=true then te σ2 H3 fun y H4=>Pv (i+1) (ys++[y]) H4 else Pv (i+1) ys H3)
 (hd:∀ ys H,Pv xs.length ys H->∀ p,H p=none->Q (.ref p) (upd H p (.lst ys))):CQ (Itt K a) g tc te σc Q H:=by
 refine ⟨fun i m ys H=>m=xs.length - i/\i<=xs.length/\Pv i ys H,⟨xs.length,by simp,Nat.zero_le _,h0⟩,?_⟩
 rintro i m ys H ⟨rfl,hi,p⟩
 have q:=hl i ys H hi p
 by_cases hlt:i < xs.length
 ·refine .inr ⟨⟨xs,xs[i],q,by simp [hlt]⟩,hz i ys H hlt p,Pv (i+1),fun ys' H' p'=>⟨xs.length - (i+1),by lia,rfl,hlt,p'⟩,fun x H' y=>?_⟩
  obtain ⟨e,y⟩:=y
  subst e
  exact hs i x ys _ (y xs q) p
 ·have e:i=xs.length:=by lia
  subst e
  exact .inl ⟨⟨xs,q,Nat.le_refl _⟩,hd ys H p⟩
theorem CL {lo:Int} {n:Nat} {σc:St} {Q:VK} {H:Hp} (Pv:Nat->List V->Hp->Prop) (h0:Pv 0 [] H) (hz:∀ i ys H,i < n->Pv i ys H->ys.length < sizeLine)
 (hs:∀ i ys H,i < n->Pv i ys H->g (.int (lo+i)) σc H fun σ2 H2=>tc σ2 H2 fun b H3=>if b=true then te σ2 H3 fun y H4=>Pv (i+1) (ys++[y]) H4 else Pv (i+1) ys H3)
 (hd:∀ ys H,Pv n ys H->∀ p,H p=none->Q (.ref p) (upd H p (.lst ys))):CQ (Itr lo n) g tc te σc Q H:=by
 refine ⟨fun i m ys H=>m=n - i/\i<=n/\Pv i ys H,⟨n,by simp,Nat.zero_le _,h0⟩,?_⟩
 rintro i m ys H ⟨rfl,hi,p⟩
 by_cases hlt:i < n
 ·refine .inr ⟨hlt,hz i ys H hlt p,Pv (i+1),fun ys' H' p'=>⟨n - (i+1),by lia,rfl,hlt,p'⟩,fun x H' y=>?_⟩
  obtain ⟨e,y⟩:=y
  subst e y
  exact hs i ys _ hlt p
 ·have e:i=n:=by lia
  subst e
  exact .inl ⟨Nat.le_refl _,hd ys H p⟩
end
theorem Ak {A:Around} {k:Nat} (hr:Room k A):A.units+60 < cLine:=by have:=hr.un;lia
def Frm (t:Addr) (H H':Hp):Prop:=∀ b o,b≠t->H b=some o->H' b=some o
theorem Frm.trans {t:Addr} {H H1 H2:Hp} (a:Frm t H H1) (b:Frm t H1 H2):Frm t H H2:=fun c o n h=>b c o n (a c o n h)
theorem Frm.upd {t p:Addr} {H:Hp} {o:HO} (h:H p=none):Frm t H (upd H p o):=fun b u _ e=>by rw [AG (BG e h)];exact e
theorem Frm.updT {t:Addr} {H:Hp} {o:HO}:Frm t H (L2.upd H t o):=fun b u n e=>by rw [AG n];exact e
theorem Same.upd {p:Addr} {H:Hp} {o:HO} (h:H p=none):Same H (L2.upd H p o):=fun b u e=>by rw [AG (BG e h)];exact e
theorem Same.frm {t:Addr} {H H':Hp} (h:Same H H'):Frm t H H':=fun b o _ e=>h b o e
theorem K9 {K:W.Frag} {H H':Hp} {a:Addr} {xs:List V} (h:SqL K H a xs) (k:∀ o,H a=some o->H' a=some o):SqL K H' a xs:=by
 rcases h with (h | ⟨o,h⟩) | h
 ·exact .inl (.inl (k _ h))
 ·exact .inl (.inr ⟨o,k _ h⟩)
 ·exact .inr h
theorem LK {K:W.Frag} {H H':Hp} {a:Addr} {xs:List V} (h:SqT K H a xs) (k:∀ o,H a=some o->H' a=some o):SqT K H' a xs:=by
 rcases h with (h | ⟨o,h⟩) | h
 ·exact .inl (.inl (k _ h))
 ·exact .inl (.inr ⟨o,k _ h⟩)
 ·exact .inr h
def ScrAt (K:W.Frag) (H:Hp) (t a:Addr) (ns:List Int):Prop :=
 (Rd H a (.lst (ns.map V.int))/\a≠t)\/∃ (o:Obj) (its:Array Value) (n:Nat),K.lookup a=some o/\o.cls=.type "list" /\ o.dict=none/\o.data=.seq its n/\its.size<=sizeLine/\Vals (ns.map V.int) its.toList
theorem ScrAt.sq {K:W.Frag} {H:Hp} {t a:Addr} {ns:List Int} (h:ScrAt K H t a ns):SqL K H a (ns.map V.int):=by
 rcases h with ⟨h,_⟩ | h
 ·exact .inl h
 ·exact .inr h
theorem ScrAt.stay {K:W.Frag} {H H':Hp} {t a:Addr} {ns:List Int} (h:ScrAt K H t a ns) (k:∀ o,a≠t->H a=some o->H' a=some o):ScrAt K H' t a ns:=by
 rcases h with ⟨h | ⟨o,h⟩,n⟩ | h
 ·exact .inl ⟨.inl (k _ n h),n⟩
 ·exact .inl ⟨.inr ⟨o,k _ n h⟩,n⟩
 ·exact .inr h
theorem ScrAt.of {K:W.Frag} {H:Hp} {t a:Addr} {ns:List Int} (h:SqL K H a (ns.map V.int)) (ht:H t=none):ScrAt K H t a ns:=by
 rcases h with h | h
 ·refine .inl ⟨h,fun e=>?_⟩
  subst e
  rcases h with h | ⟨o,h⟩ <;> rw [ht] at h <;> cases h
 ·exact .inr h
structure Tape (K:W.Frag) (H:Hp) (t a:Addr) (ns:List Int):Prop where
 at_:∃ i r c:Int,0<=i/\0<=r/\H t=some (.lst [.ref a,.int i,.int r,.int c])
 scr:ScrAt K H t a ns
theorem Tape.same {K:W.Frag} {H H':Hp} {t a:Addr} {ns:List Int} (T:Tape K H t a ns) (h:Same H H'):Tape K H' t a ns:=by
 obtain ⟨i,r,c,h1,h2,h3⟩:=T.at_
 exact ⟨⟨i,r,c,h1,h2,h _ _ h3⟩,T.scr.stay fun o _ e=>h a o e⟩
theorem Tape.upd {K:W.Frag} {H:Hp} {t a p:Addr} {o:HO} {ns:List Int} (T:Tape K H t a ns) (h:H p=none):Tape K (L2.upd H p o) t a ns:=T.same (Same.upd h)
theorem Tape.free {K:W.Frag} {H H':Hp} {t a p:Addr} {ns:List Int} (T:Tape K H' t a ns) (h:Frm t H H') (hp:H' p=none):H p=none:=by
 cases e:H p with
 | none=>rfl
 | some o =>
  by_cases hpt:p=t
  ·subst hpt
   obtain ⟨i,r,c,_,_,h3⟩:=T.at_
   rw [h3] at hp;cases hp
  ·rw [h p o hpt e] at hp;cases hp
theorem Tape.neT {K:W.Frag} {H:Hp} {t a p:Addr} {ns:List Int} (T:Tape K H t a ns) (hp:H p=none):p≠t:=fun e=>by
 obtain ⟨i,r,c,_,_,h3⟩:=T.at_
 rw [e,h3] at hp;cases hp
def DQ (K:W.Frag):Sp:=fun vs H Q _=>match vs with
 | [.ref t,.int m]=>∃ a ns,Tape K H t a ns/\okDiv m/\∀ d H',0<=d->d < m->Tape K H' t a ns->(∀ b,b≠t->H' b=H b)->Q (.int d) H'
 | _=>False
def E8 (K:W.Frag):Sp:=fun vs H Q _=>match vs with
 | [.ref a]=>∀ p,H p=none->Q (.ref p) (upd H p (.lst [.ref a,.int 0,.int 0,.int 0]))
 | _=>False
def EH (K:W.Frag):Sp:=fun vs H Q _=>∃ (a:Addr) (ns:List Int),vs=[.ref a]/\SqL K H a (ns.map V.int)/\ns.length<=63/\∀ H',Q (.bl true) H'
theorem C0 {xs:List V} {i:Int} {n:Nat} {v:V} (h:i=(n:Int)) (hx:xs[n]? = some v):atI xs i=some v:=by
 subst h
 have hn:n < xs.length:=(List.getElem?_eq_some_iff.mp hx).1
 unfold atI ixN
 rw [if_pos (Int.natCast_nonneg n),if_pos (by lia)]
 simpa using hx
theorem IV {ns:List Int} {i:Int} (h0:0<=i) (h1:i < ns.length):∃ z,atI (ns.map V.int) i=some (.int z):=by
 obtain ⟨n,rfl⟩:=Int.eq_ofNat_of_zero_le h0
 have hn:n < ns.length:=by lia
 exact ⟨ns[n],C0 rfl (by rw [List.getElem?_map,List.getElem?_eq_getElem hn];rfl)⟩
theorem NU {K:W.Frag} {H:Hp} {a p:Addr} {ns:List Int} (h:H p=none) (hs:SqL K H a (ns.map V.int)):Tape K (L2.upd H p (.lst [.ref a,.int 0,.int 0,.int 0])) p a ns :=
 ⟨⟨0,0,0,Int.le_refl _,Int.le_refl _,AD⟩,(ScrAt.of hs h).stay fun o n e=>by rw [AG n];exact e⟩
theorem Mb {t:Addr} {H H':Hp} (h:∀ b,b≠t->H' b=H b):Frm t H H':=fun b o n e=>by rw [h b n];exact e
theorem A7 {j:Int} (h1:0 < j) (h2:j<=2 ^ 1000):okDiv j:=⟨h1,Int.lt_of_le_of_lt h2 (by decide)⟩
theorem AT {n:Nat} (h:n<=1000):n<=sizeLine:=Nat.le_of_lt (Ad h)
def CY (t:TT):Prop:=∀ σ H (Q Q':Bool->Hp->Prop),(∀ b H,Q b H->Q' b H)->t σ H Q->t σ H Q'
def BP (t:TA):Prop:=∀ σ H (Q Q':List V->Hp->Prop),(∀ b H,Q b H->Q' b H)->t σ H Q->t σ H Q'
def BE (r:R2):Prop:=∀ x y H (Q Q':VK),(∀ v H,Q v H->Q' v H)->r x y H Q->r x y H Q'
def HK (r:V->Hp->VK->Prop):Prop:=∀ x H (Q Q':VK),(∀ v H,Q v H->Q' v H)->r x H Q->r x H Q'
def Be (r:List V->Hp->VK->Prop):Prop:=∀ xs H (Q Q':VK),(∀ v H,Q v H->Q' v H)->r xs H Q->r xs H Q'
def Hh (r:V->List V->Hp->VK->Prop):Prop:=∀ x xs H (Q Q':VK),(∀ v H,Q v H->Q' v H)->r x xs H Q->r x xs H Q'
def AR (sp:Sp):Prop:=∀ vs H (Q Q':VK) E,(∀ v H,Q v H->Q' v H)->sp vs H Q E->sp vs H Q' E
def Cj (t:TI):Prop:=∀ σ H (Q Q':It->Hp->Prop),(∀ J H,Q J H->Q' J H)->t σ H Q->t σ H Q'
def EL (t:CD):Prop:=∀ o i v H (Q Q':Hp->Prop),(∀ H,Q H->Q' H)->t o i v H Q->t o i v H Q'
structure Ends.le (D D':Ends):Prop where
 nx:∀ σ H,D.nx σ H->D'.nx σ H
 rt:∀ v H,D.rt v H->D'.rt v H
 bk:∀ σ H,D.bk σ H->D'.bk σ H
 ct:∀ σ H,D.ct σ H->D'.ct σ H
def Az (t:TS):Prop:=∀ D D' σ H,Ends.le D D'->t D σ H->t D' σ H
theorem OE {i:Nat}:AM (EA i):=fun σ H Q Q' h q=>by
 unfold EA at *
 split at q
 ·exact h _ _ q
 ·exact q.elim
theorem OG {v:V}:AM (tC v):=fun _ _ _ _ h q=>h _ _ q
theorem KA {r:R2} {ta tb:TE} (hr:BE r) (ha:AM ta) (hb:AM tb):AM (tOp r ta tb):=fun σ H Q Q' h q=>ha _ _ _ _ (fun _ _ q=>hb _ _ _ _ (fun _ _ q=>hr _ _ _ _ _ h q) q) q
theorem OC {r:V->Hp->VK->Prop} {ta:TE} (hr:HK r) (ha:AM ta):AM (tUn r ta):=fun σ H Q Q' h q=>ha _ _ _ _ (fun _ _ q=>hr _ _ _ _ h q) q
theorem Nh {K}:BE (DS K):=fun x y H Q Q' h q=>by
 unfold DS at *
 split at q
 ·exact h _ _ q
 ·exact ⟨q.1,h _ _ q.2⟩
 ·rcases q with ⟨l,b,xs,zs,e1,e2,h1,h2,h3,q⟩ | ⟨a,b,xs,ys,e1,e2,h1,h2,h3,h4,q1,q2⟩
  ·exact .inl ⟨l,b,xs,zs,e1,e2,h1,h2,h3,fun p hp=>h _ _ (q p hp)⟩
  ·exact .inr ⟨a,b,xs,ys,e1,e2,h1,h2,h3,h4,fun e=>h _ _ (q1 e),fun e p hp=>h _ _ (q2 e p hp)⟩
 ·exact q.elim
theorem Mn:BE Fa:=fun x y H Q Q' h q=>by unfold Fa at *;split at q <;> first | exact h _ _ q | exact q.elim
theorem Lh:BE Eu:=fun x y H Q Q' h q=>by
 unfold Eu at *
 split at q
 ·exact ⟨q.1,h _ _ q.2⟩
 ·obtain ⟨l,k,xs,e1,e2,h1,h2,h3,h4,q⟩:=q
  exact ⟨l,k,xs,e1,e2,h1,h2,h3,h4,fun p hp=>h _ _ (q p hp)⟩
 ·exact q.elim
theorem NJ:BE Fc:=fun x y H Q Q' h q=>by unfold Fc at *;split at q <;> first | exact ⟨q.1,h _ _ q.2⟩ | exact q.elim
theorem Jk:BE E6:=fun x y H Q Q' h q=>by unfold E6 at *;split at q <;> first | exact ⟨q.1,h _ _ q.2⟩ | exact q.elim
theorem ML:BE E5:=fun x y H Q Q' h q=>by unfold E5 at *;split at q <;> first | exact ⟨q.1,h _ _ q.2⟩ | exact q.elim
theorem JE:HK Ff:=fun x H Q Q' h q=>by unfold Ff at *;split at q <;> first | exact h _ _ q | exact q.elim
theorem K6 {p}:BE (Ds p):=fun x y H Q Q' h q=>by unfold Ds at *;split at q <;> first | exact h _ _ q | exact q.elim
theorem K8 {n K}:BE (mEq n K):=fun x y H Q Q' h q=>by
 unfold mEq at *
 split at q <;> first | exact h _ _ q | (obtain ⟨d,e,h1,h2,h3,q⟩:=q;exact ⟨d,e,h1,h2,h3,h _ _ q⟩)
theorem KG {K}:BE (mIx K):=fun x y H Q Q' h q=>by
 unfold mIx at *
 split at q
 ·obtain ⟨xs,v,h1,h2,q⟩:=q;exact ⟨xs,v,h1,h2,h _ _ q⟩
 ·obtain ⟨c,h1,h2,q⟩:=q;exact ⟨c,h1,h2,h _ _ q⟩
 ·exact q.elim
theorem Fu {v:V} {Q Q':Bool->Prop} (h:∀ b,Q b->Q' b) (q:isB v Q):isB v Q':=by
 cases v <;> first | exact h _ q | exact q
theorem Kh {t:TE} (h:AM t):CY (uB t):=fun σ H Q Q' k q=>h _ _ _ _ (fun _ _ q=>Fu (fun b q=>k b _ q) q) q
theorem Ji {ta:TE} (ha:AM ta):AM (Gm ta):=fun σ H Q Q' h q=>ha _ _ _ _ (fun _ _ q=>Fu (fun b q=>h _ _ q) q) q
theorem K2 {t:TT} {ta tb:TE} (ht:CY t) (ha:AM ta) (hb:AM tb):AM (tIf t ta tb):=fun σ H Q Q' h q=>ht _ _ _ _ (fun b _ q=>by
 cases b with
 | true=>exact ha _ _ _ _ h q
 | false=>exact hb _ _ _ _ h q) q
theorem KY {t u:TT} (ht:CY t) (hu:CY u):CY (IN t u):=fun σ H Q Q' h q=>ht _ _ _ _ (fun b _ q=>by
 cases b with
 | true=>exact hu _ _ _ _ h q
 | false=>exact h _ _ q) q
theorem Kg:BP Fb:=fun _ _ _ _ h q=>h _ _ q
theorem KN {ta:TE} {t:TA} (ha:AM ta) (ht:BP t):BP (Ec ta t):=fun σ H Q Q' h q=>ha _ _ _ _ (fun _ _ q=>ht _ _ _ _ (fun _ _ q=>h _ _ q) q) q
theorem Km {r} {t:TA} (hr:Be r) (ht:BP t):AM (tCB r t):=fun σ H Q Q' h q=>ht _ _ _ _ (fun _ _ q=>hr _ _ _ _ h q) q
theorem Kx {sp dvs E} {t:TA} (hs:AR sp) (ht:BP t):AM (HC sp dvs E t):=fun σ H Q Q' h q=>ht _ _ _ _ (fun _ _ q=>hs _ _ _ _ _ h q) q
theorem N5 {t:TA} (ht:BP t):AM (GU t):=fun σ H Q Q' h q=>ht _ _ _ _ (fun _ _ q=>⟨q.1,fun p hp=>h _ _ (q.2 p hp)⟩) q
theorem Ie {t:TA} (ht:BP t):AM (HX t):=fun σ H Q Q' h q=>ht _ _ _ _ (fun _ _ q=>⟨q.1,fun p hp=>h _ _ (q.2 p hp)⟩) q
theorem Kq {wi own ix g tc te} (hi:Cj wi):AM (DM wi own ix g tc te):=fun σ H Q Q' h q=>hi _ _ _ _ (fun J H1 q=>by
 obtain ⟨W,w0,turn⟩:=q
 refine ⟨W,w0,fun i m ys H w=>?_⟩
 rcases turn i m ys H w with ⟨a,b⟩ | r
 ·exact .inl ⟨a,fun p hp=>h _ _ (b p hp)⟩
 ·exact .inr r) q
theorem NK {K}:Be (EQ K):=fun xs H Q Q' h q=>by unfold EQ at *;split at q <;> first | (obtain ⟨n,a,q⟩:=q;exact ⟨n,a,h _ _ q⟩) | exact q.elim
theorem Nl:Be FM:=fun xs H Q Q' h q=>by unfold FM at *;split at q <;> first | exact h _ _ q | exact q.elim
theorem NS:Be E3:=fun xs H Q Q' h q=>by unfold E3 at *;split at q <;> first | exact h _ _ q | exact q.elim
theorem OF:Be EV:=fun xs H Q Q' h q=>by unfold EV at *;split at q <;> first | exact h _ _ q | exact q.elim
theorem Np:Be FU:=fun xs H Q Q' h q=>by unfold FU at *;split at q <;> first | exact h _ _ q | exact q.elim
theorem Nm {K}:Be (ET K):=fun xs H Q Q' h q=>by
 unfold ET at *
 split at q
 ·obtain ⟨ys,⟨a,q⟩ | ⟨a,q⟩⟩:=q
  ·exact ⟨ys,.inl ⟨a,fun l hl=>h _ _ (q l hl)⟩⟩
  ·exact ⟨ys,.inr ⟨a,h _ _ q⟩⟩
 ·exact q.elim
theorem Ki {K} {tl:TE} (h:AM tl):Cj (FR K tl):=fun σ H Q Q' k q=>h _ _ _ _ (fun v H1 q=>by
 cases v <;> first | exact q.elim | (rcases q with ⟨a,q⟩ | ⟨a,q⟩
                                     ·exact .inl ⟨a,k _ _ q⟩
                                     ·exact .inr ⟨a,k _ _ q⟩)) q
theorem K0 {ta:TA} (h:BP ta):Cj (IT ta):=fun σ H Q Q' k q=>h _ _ _ _ (fun _ _ ⟨j,e,a,b,q⟩=>⟨j,e,a,b,k _ _ q⟩) q
theorem NX:EL Fe:=fun o i v H Q Q' h q=>by
 unfold Fe at *
 split at q
 ·obtain ⟨xs,j,a,b,q⟩:=q;exact ⟨xs,j,a,b,h _ q⟩
 ·exact q.elim
theorem Kb {to ti:TE} {t:CD} (h1:AM to) (h2:AM ti) (h3:EL t):CT (IY to ti t):=fun v σ H Q Q' h q=>h1 _ _ _ _ (fun _ _ q=>h2 _ _ _ _ (fun _ _ q=>h3 _ _ _ _ _ _ (fun H q=>h _ _ q) q) q) q
theorem Jd:Az EX:=fun D D' σ H h q=>h.nx _ _ q
theorem K7 {t u:TS} (h1:Az t) (h2:Az u):Az (EU t u):=fun D D' σ H h q=>h1 { D with nx:=u D } { D' with nx:=u D' } σ H ⟨fun σ H q=>h2 D D' σ H h q,h.rt,h.bk,h.ct⟩ q
theorem Mp {te:TE} {g:TG} (h1:AM te) (h2:CT g):Az (Cq te g):=fun D D' σ H h q=>h1 _ _ _ _ (fun _ _ q=>h2 _ _ _ _ _ h.nx q) q
theorem N7 {te:TE} (h1:AM te):Az (Hx te):=fun D D' σ H h q=>h1 _ _ _ _ h.rt q
theorem M8 {te:TE} (h1:AM te):Az (GA te):=fun D D' σ H h q=>h1 _ _ _ _ (fun _ _ q=>h.nx _ _ q) q
theorem Ia {c:TT} {t u:TS} (hc:CY c) (h1:Az t) (h2:Az u):Az (GJ c t u):=fun D D' σ H h q=>hc _ _ _ _ (fun b _ q=>by
 cases b with
 | true=>exact h1 _ _ _ _ h q
 | false=>exact h2 _ _ _ _ h q) q
theorem MG {wi:TI} {g:TG} {tb:TS} (hi:Cj wi) (hg:CT g) (h1:Az tb):Az (Gy wi g tb):=fun D D' σ H h q=>hi _ _ _ _ (fun J H1 q=>by
 obtain ⟨W,w0,turn⟩:=q
 refine ⟨W,w0,fun i m σ H w=>?_⟩
 rcases turn i m σ H w with ⟨a,b⟩ | ⟨a,N,hN,step⟩
 ·exact .inl ⟨a,h.nx _ _ b⟩
 ·exact .inr ⟨a,N,hN,fun x H' y=>hg _ _ _ _ _ (fun σ2 H2 q=>h1 { D with nx:=N,ct:=N,bk:=D.nx } _ _ _ ⟨fun _ _ q=>q,h.rt,h.nx,fun _ _ q=>q⟩ q) (step x H' y)⟩) q
theorem Ae {t u:TS} {D:Ends} {σ:St} {H:Hp} (J:St->Hp->Prop) (h1:t { D with nx:=J } σ H) (h2:∀ σ' H',J σ' H'->u D σ' H') (hm:Az t):EU t u D σ H :=
 hm { D with nx:=J } { D with nx:=u D } σ H ⟨h2,fun _ _ q=>q,fun _ _ q=>q,fun _ _ q=>q⟩ h1
theorem Jx {K}:AR (DQ K):=fun vs H Q Q' E h q=>by
 unfold DQ at *
 split at q
 ·obtain ⟨a,ns,x,y,q⟩:=q;exact ⟨a,ns,x,y,fun d H' e1 e2 e3 e4=>h _ _ (q d H' e1 e2 e3 e4)⟩
 ·exact q.elim
section
variable {X:Cx} {K:W.Frag} {a b c e l tg:Expr} {es:List Expr} {ta tb tc te tl:TE} {pos p:Pos}
theorem CA (hK:X.K=K:=by rfl):OpR X (binaryOp .Add) (DS K):=hK ▸ Mx
theorem kEq (hu:X.A.units+60 < cLine) (hK:X.K=K:=by rfl):OpR X (compareOp .Eq) (mEq false K):=hK ▸ Ip hu
theorem kNe (hu:X.A.units+60 < cLine) (hK:X.K=K:=by rfl):OpR X (compareOp .NotEq) (mEq true K):=hK ▸ LP hu
theorem kIx (ha:PE X a ta) (hb:PE X b tb) (hs:EY b:=by intro _ _;rfl) (hK:X.K=K:=by rfl):PE X (.Subscript a b pos) (tOp (mIx K) ta tb):=hK ▸ NQ ha hb hs
theorem DF (hK:X.K=K:=by rfl):CallR X (.builtin "len") (EQ K):=hK ▸ Nr
theorem DJ (hK:X.K=K:=by rfl):CallR X (.type "tuple") (ET K):=hK ▸ NE
theorem ME (hK:X.K=K:=by rfl):CallR X (.builtin "isinstance") (G2 K):=hK ▸ Kr
theorem DN (hl:PE X l tl) (hK:X.K=K:=by rfl):PI X tg l (FR K tl):=hK ▸ Kv hl
theorem Dd {es:List Expr} {k:Nat} {t:TGs} {n:Nat} (hc:X.calm=true) (h:PGs X es t)
 (hn:(assignEach es X.env).length=n:=by rfl) (hst:(assignEach es X.env).findIdx? (·.1)=none:=by rfl) (hK:X.K=K:=by rfl):PG X (.Tuple es k pos) (Ey K n t):=hK ▸ IC hc h hn hst
end
def Itz (K:W.Frag) (l1 l2:Addr):It :=
 ⟨fun i H=>∃ xs ys x y,SqL K H l1 xs/\SqL K H l2 ys/\xs[i]? = some x/\ys[i]? = some y,
  fun i H v H'=>∃ p x y,H p=none/\v=.ref p/\H'=upd H p (.tup [x,y])/\(∀ xs,SqL K H l1 xs->xs[i]? = some x)/\(∀ ys,SqL K H l2 ys->ys[i]? = some y),
  fun i H=>∃ xs ys,SqL K H l1 xs/\SqL K H l2 ys/\(xs.length<=i\/ys.length<=i)⟩
theorem Inv.turnedNew {X:Cx} {pins:List (Addr × Obj)} {σ:St} {H:Hp} {s:Shared} {h':Heap} {ch:List Addr} {T:Addr} {o:HO} (I:Inv X pins σ H s) (hf:∀ b∈ch,A4 X pins H b) (hT:s.heap.objs.size<=T)
 (k:∀ b u,b∉ch->s.heap.get? b=some u->h'.get? b=some u) (new:ObjOk X.prog X.w (upd H T o) h' T o) (th:∀ b∈ch,∃ u,h'.get? b=some u):Inv X pins σ (upd H T o) { s with heap:=h' }:=by
 have hTn:H T=none:=I.hok.fresh hT
 have nT:∀ b u,H b=some u->b≠T:=fun b u e z=>by rw [z,hTn] at e;cases e
 have nc:∀ b u,H b=some u->b∉ch:=fun b u e z=>by rw [(hf b z).1] at e;cases e
 refine I.step (g':=s.gens) (d':=s.drawn) (t':=s.toks) (ch:=ch) (fun b hb=>?_) (fun b u _ _ hc e _=>k b u hc e) (fun b u _ _ hc e _=>⟨u.slots,k b u hc e⟩) (fun b u hc e n=>?_) (fun b u hc e=>⟨u,k b u hc e⟩)
  (fun b xs e=>by rw [AG (nT _ _ e)];exact e) (fun b u v e=>by rw [AG (nT _ _ e)];exact e) (fun b ps e=>⟨#[],by rw [AG (nT _ _ e),e];simp⟩) (fun m hm=>?_) (fun b u e=>?_) I.bare
 ·obtain ⟨q1,q2,q3,q4,q5,q6⟩:=hf b hb
  exact ⟨q4,q2,q5,q6⟩
 ·rw [AG (Nat.ne_of_lt (Nat.lt_of_lt_of_le (Heap.lt_size e) hT))];exact n
 ·obtain ⟨u,es,ep,ho,r⟩:=hm
  exact ⟨u,es,ep,k _ u (fun z=>(hf _ z).2.1 rfl) ho,r⟩
 ·by_cases hb:b=T
  ·subst hb;rw [AD] at e;cases e;exact new
  ·rw [AG hb] at e
   refine (I.hok b u e).stay (fun c v hc q=>k c v ?_ q) (fun c q=>by rw [AG (nT _ _ q)];exact q) fun c xs q=>by rw [AG (nT _ _ q)];exact q
   rcases hc with z | z
   ·rw [z];exact nc b u e
   ·exact nc c _ z
theorem JG {P:Program} {w:World} {K:W.Frag} {es:List Expr} {kt:Nat} {tpos:Pos} {z TI TO i1 i2 l1 l2:Addr} (D:ZipApart z TI TO i1 i2 l1 l2) :
 Turn P w K (.Tuple es kt tpos) (Itz K l1 l2) [z,TI,TO,i1,i2] z (fun i h=>IsZip h z TI TO .none/\IsPair h TI (.ref i1) (.ref i2)/\(∃ a b,IsPair h TO a b)/\h.IsListIter i1 l1 i/\h.IsListIter i2 l2 i) where
 mem:=by simp
 obj:=fun i h st b hb=>by
  obtain ⟨hz,hTI,⟨a,c,hTO⟩,⟨o1,e1,c1,d1⟩,⟨o2,e2,c2,d2⟩⟩:=st
  simp only [List.mem_cons,List.mem_nil_iff,or_false] at hb
  rcases hb with rfl | rfl | rfl | rfl | rfl
  ·exact ⟨_,hz,fun v q=>nomatch q⟩
  ·exact ⟨_,hTI,fun v q=>nomatch q⟩
  ·exact ⟨_,hTO,fun v q=>nomatch q⟩
  ·exact ⟨o1,e1,fun v q=>by rw [d1] at q;cases q⟩
  ·exact ⟨o2,e2,fun v q=>by rw [d2] at q;cases q⟩
 keep:=fun i h h' ⟨hz,hTI,⟨a,c,hTO⟩,h1,h2⟩ k =>
  ⟨k z (by simp) _ hz,k TI (by simp) _ hTI,⟨a,c,k TO (by simp) _ hTO⟩,h1.at fun o e=>k i1 (by simp) o e,h2.at fun o e=>k i2 (by simp) o e⟩
 item:=by
  intro X hP hw hK hc i pins s σ H E I hf st hg
  subst hP hw hK
  obtain ⟨xs,ys,x,y,hq1,hq2,hx,hy⟩:=hg
  obtain ⟨hz,hTI,⟨a,c,hTO⟩,h1,h2⟩:=st
  obtain ⟨its,rv,p,_⟩:=I.list hq1
  obtain ⟨its2,rv2,p2,_⟩:=I.list hq2
  obtain ⟨u,hu,ru⟩:=rv.get hx
  obtain ⟨u2,hu2,ru2⟩:=rv2.get hy
  refine wpAny_pyNext_zip_item D hz hTI hTO h1 h2 p.isList p2.isList (x:=u) (y:=u2) (by simpa using hu) (by simpa using hu2) fun h' z1 z2 z3 z4 z5 z6 z7=>?_
  refine ⟨_,rfl,?_⟩
  have z7':∀ b v,b∉[z,TO,i1,i2]->s.heap.get? b=some v->h'.get? b=some v:=fun b v hb e=>by
   simp only [List.mem_cons,List.mem_nil_iff,or_false,not_or] at hb
   exact z7 b v hb.1 hb.2.1 hb.2.2.1 hb.2.2.2 e
  have I1:Inv X pins σ (upd H s.heap.objs.size (.tup [x,y])) { s with heap:=h' }:=by
   refine I.turnedNew (ch:=[z,TO,i1,i2]) (fun b hb=>hf b ?_) (Nat.le_refl _) z7' ?_ fun b hb=>?_
   ·simp only [List.mem_cons,List.mem_nil_iff,or_false] at hb ⊢
    rcases hb with h | h | h | h <;> simp [h]
   ·exact ⟨AT (show 2<=1000 by decide),[u,u2],.cons ru (.cons ru2 .nil),⟨_,z5,rfl,⟨_,rfl⟩,rfl⟩⟩
   ·simp only [List.mem_cons,List.mem_nil_iff,or_false] at hb
    rcases hb with rfl | rfl | rfl | rfl
    ·exact ⟨_,z1⟩
    ·exact ⟨_,z2⟩
    ·obtain ⟨o,e,_⟩:=z3;exact ⟨o,e⟩
    ·obtain ⟨o,e,_⟩:=z4;exact ⟨o,e⟩
  refine wpAny_letOwnedTupleGo_zip (s:={ s with heap:=h' }) z1 fun h'' z8 z9=>?_
  have hfz:=hf z (by simp)
  have neT:∀ b,b∈[z,TI,TO,i1,i2]->b≠s.heap.objs.size:=fun b hb e=>by
   have st':∃ o,s.heap.get? b=some o:=by
    simp only [List.mem_cons,List.mem_nil_iff,or_false] at hb
    rcases hb with rfl | rfl | rfl | rfl | rfl
    ·exact ⟨_,hz⟩
    ·exact ⟨_,hTI⟩
    ·exact ⟨_,hTO⟩
    ·obtain ⟨o,e,_⟩:=h1;exact ⟨o,e⟩
    ·obtain ⟨o,e,_⟩:=h2;exact ⟨o,e⟩
   obtain ⟨o,ho⟩:=st'
   have:=Heap.lt_size ho
   rw [e] at this
   exact Nat.lt_irrefl _ this
  have hTH:∀ b∈[z,TI,TO,i1,i2],upd H s.heap.objs.size (.tup [x,y]) b=none:=fun b hb=>by rw [AG (neT b hb)];exact (hf b hb).1
  have I2:Inv X pins σ (upd H s.heap.objs.size (.tup [x,y])) { s with heap:=h'' } :=
   I1.turned (t':=s.toks) (fun b o hb e=>(z9.2 b hb).trans e) (hTH z (by simp)) hfz.2.1 hfz.2.2.2.1 hfz.2.2.2.2.1 hfz.2.2.2.2.2
  have up:∀ b o,b≠z->h'.get? b=some o->h''.get? b=some o:=fun b o hb e=>(z9.2 b hb).trans e
  refine ⟨.ref s.heap.objs.size,_,I2,rfl,⟨_,x,y,I.hok.fresh (Nat.le_refl _),rfl,rfl,fun xs' h=>by rw [I.list_inj h hq1];exact hx,fun ys' h=>by rw [I.list_inj h hq2];exact hy⟩,⟨z8,?_,⟨u,u2,up _ _ D.TOz z2⟩,z3.at fun o e=>up _ o D.i1z e,z4.at fun o e=>up _ o D.i2z e⟩,hTH⟩
  exact up _ _ D.TIz (z7 _ _ D.TIz D.TITO D.TIi1 D.TIi2 hTI)
 done:=by
  intro X hP hw hK hc i pins s σ H E I hf st hg
  subst hP hw hK
  obtain ⟨xs,ys,hq1,hq2,hl⟩:=hg
  obtain ⟨hz,hTI,⟨a,c,hTO⟩,h1,h2⟩:=st
  obtain ⟨its,rv,p,_⟩:=I.list hq1
  obtain ⟨its2,rv2,p2,_⟩:=I.list hq2
  have e1:=rv.length
  have e2:=rv2.length
  refine wpAny_pyNext_zip_end (I.ok.hd hc) D hz hTI hTO h1 h2 p.isList p2.isList (by
   rcases hl with h | h
   ·exact .inl (by simp;lia)
   ·exact .inr (by simp;lia)) fun h' z7=>⟨rfl,?_⟩
  have nc:∀ b u,H b=some u->b∉[z,TO,i1,i2]:=fun b u e q=>by
   have:b∈[z,TI,TO,i1,i2]:=by
    simp only [List.mem_cons,List.mem_nil_iff,or_false] at q ⊢
    rcases q with h | h | h | h <;> simp [h]
   rw [(hf b this).1] at e;cases e
  have z7':∀ b v,b∉[z,TO,i1,i2]->s.heap.get? b=some v->h'.get? b=some v:=fun b v hb e=>by
   simp only [List.mem_cons,List.mem_nil_iff,or_false,not_or] at hb
   exact z7 b v hb.1 hb.2.1 hb.2.2.1 hb.2.2.2 e
  refine I.step (g':=s.gens) (d':=s.drawn) (t':=s.toks) (ch:=[z,TO,i1,i2]) (fun b hb=>?_) (fun b u _ _ hc e _=>z7' b u hc e) (fun b u _ _ hc e _=>⟨u.slots,z7' b u hc e⟩) (fun b u hc e n=>n) (fun b u hc e=>⟨u,z7' b u hc e⟩)
   (fun _ _ e=>e) (fun _ _ _ e=>e) (fun b ps e=>⟨#[],by rw [e];simp⟩) (fun m hm=>?_) (fun b u e=>?_) I.bare
  ·have:b∈[z,TI,TO,i1,i2]:=by
    simp only [List.mem_cons,List.mem_nil_iff,or_false] at hb ⊢
    rcases hb with h | h | h | h <;> simp [h]
   obtain ⟨q1,q2,q3,q4,q5,q6⟩:=hf b this
   exact ⟨q4,q2,q5,q6⟩
  ·obtain ⟨u,es,ep,ho,r⟩:=hm
   refine ⟨u,es,ep,z7' _ u (fun q=>?_) ho,r⟩
   have:X.env.locals∈[z,TI,TO,i1,i2]:=by
    simp only [List.mem_cons,List.mem_nil_iff,or_false] at q ⊢
    rcases q with h | h | h | h <;> simp [h]
   exact (hf _ this).2.1 rfl
  ·refine (I.hok b u e).stay (fun c v hc q=>z7' c v ?_ q) (fun _ q=>q) fun _ _ q=>q
   rcases hc with h | h
   ·rw [h];exact nc b u e
   ·exact nc c _ h
 self:=fun _ _ _ _ _ st h=>wpAny_pyIter_zip st.1 h
section
variable {X:Cx}
def HD (K:W.Frag) (ta:TA):TI:=fun σ H R=>ta σ H fun vs H1=>match vs with
 | [.ref a,.ref b]=>(∃ xs,SqL K H1 a xs)/\(∃ ys,SqL K H1 b ys)/\R (Itz K a b) H1
 | _=>False
theorem Gi {K:W.Frag} {a b:Expr} {ta:TA} {p pos:Pos} {es:List Expr} {kt:Nat} {tpos:Pos} (hg:Gl X "zip") (hm:X.mg "zip" = none) (ha:PA X [a,b] ta)
 (hs:starEach [a,b] X.env=[(false,eval a X.env),(false,eval b X.env)]:=by rfl) (hs2:starEach [b] X.env=[(false,eval b X.env)]:=by rfl) (hK:X.K=K:=by rfl) :
 PI X (.Tuple es kt tpos) (.Call (.Name "zip" p) [a,b] [] pos) (HD K ta):=by
 subst hK
 intro pins s σ H R I h
 refine Call_ (Cv I hg hm (by rfl:bootBuiltins "zip" = some (.type "zip")) (PyProof.Rows.callWith_type1 (thn (ha pos pins s σ H _ I h) fun us s1 ⟨vs,H1,I1,r1,q1⟩=>?_) (by rw [hs,hs2]) (by rw [hs2];rfl)))
 match vs,q1,r1 with
 | [.ref l1,.ref l2],⟨⟨xs,hx⟩,⟨ys,hy⟩,q⟩,r1 =>
 cases r1 with
 | cons r rr =>
 cases rr with
 | cons r' rr =>
 cases rr
 cases r
 cases r'
 obtain ⟨its,rv,p1,_⟩:=I1.list hx
 obtain ⟨its2,rv2,p2,_⟩:=I1.list hy
 obtain ⟨o1,n1,g1,_⟩:=id p1
 obtain ⟨o2,n2,g2,_⟩:=id p2
 have lt1:=Heap.lt_size g1
 have lt2:=Heap.lt_size g2
 refine call_zip_2 p1.isList p2.isList fun h' z1 z2 z3 z4 z5 z6 z7=>?_
 refine wpAny_pyIter_zip (s:={ s1 with heap:=h' }) z1 ?_
 have I2:Inv X pins σ H1 { s1 with heap:=h' }:=I1.kept (t':=s1.toks) z7
 refine ⟨_,_,_,_,H1,rfl,I2,JG (i1:=s1.heap.objs.size) (i2:=s1.heap.objs.size+1) (l1:=l1) (l2:=l2) (PyProof.Rows.zipApart_new lt1 lt2),⟨z1,z2,⟨_,_,z3⟩,z4,z5⟩,fun b hb=>?_,q⟩
 refine I1.fpOk ?_ ?_
 ·simp only [List.mem_cons,List.mem_nil_iff,or_false] at hb
  rcases hb with rfl | rfl | rfl | rfl | rfl
  ·exact Nat.le_add_right _ _
  ·exact Nat.le_add_right _ _
  ·exact Nat.le_add_right _ _
  ·exact Nat.le_refl _
  ·exact Nat.le_add_right _ _
 ·refine I1.hok.fresh ?_
  simp only [List.mem_cons,List.mem_nil_iff,or_false] at hb
  rcases hb with rfl | rfl | rfl | rfl | rfl
  ·exact Nat.le_add_right _ _
  ·exact Nat.le_add_right _ _
  ·exact Nat.le_add_right _ _
  ·exact Nat.le_refl _
  ·exact Nat.le_add_right _ _
theorem JF {K:W.Frag} {ta:TA} (h:BP ta):Cj (HD K ta):=fun σ H Q Q' k q=>h _ _ _ _ (fun vs _ q=>by
 match vs,q with
 | [.ref a,.ref b],⟨h1,h2,q⟩=>exact ⟨h1,h2,k _ _ q⟩) q
theorem IG {K:W.Frag} {l1 l2:Addr} {xs ys:List V} {g:TG} {tc:TT} {te:TE} {σc:St} {Q:VK} {H:Hp} (Pv:Nat->List V->Hp->Prop) (h0:Pv 0 [] H) (hlen:xs.length=ys.length) (hl:∀ i zs H,i<=xs.length->Pv i zs H->SqL K H l1 xs/\SqL K H l2 ys) (hz:∀ i zs H,i < xs.length->Pv i zs H->zs.length < sizeLine)
 (hs:∀ i x y zs H p,xs[i]? = some x->ys[i]? = some y->Pv i zs H->H p=none->g (.ref p) σc (upd H p (.tup [x,y])) fun σ2 H2=>tc σ2 H2 fun b H3=>if b=true then te σ2 H3 fun v H4=>Pv (i+1) (zs++[v]) H4 else Pv (i+1) zs H3)
 (hd:∀ zs H,Pv xs.length zs H->∀ p,H p=none->Q (.ref p) (upd H p (.lst zs))):CQ (Itz K l1 l2) g tc te σc Q H:=by
 refine ⟨fun i m zs H=>m=xs.length - i/\i<=xs.length/\Pv i zs H,⟨xs.length,by simp,Nat.zero_le _,h0⟩,?_⟩
 rintro i m zs H ⟨rfl,hi,p⟩
 obtain ⟨q1,q2⟩:=hl i zs H hi p
 by_cases hlt:i < xs.length
 ·refine .inr ⟨⟨xs,ys,xs[i],ys[i],q1,q2,by simp [hlt],List.getElem?_eq_getElem (by lia)⟩,hz i zs H hlt p,Pv (i+1),fun zs' H' p'=>⟨xs.length - (i+1),by lia,rfl,hlt,p'⟩,?_⟩
  rintro v H' ⟨pp,x,y,hp,rfl,rfl,k1,k2⟩
  exact hs i x y zs H pp (k1 xs q1) (k2 ys q2) p hp
 ·have e:i=xs.length:=by lia
  subst e
  exact .inl ⟨⟨xs,ys,q1,q2,.inl (Nat.le_refl _)⟩,hd zs H p⟩
end
section
variable {X:Cx} {K:W.Frag} {o e:Expr} {es:List Expr} {to:TE} {t:TA} {apos cpos:Pos}
def D3:V->List V->Hp->VK->Prop:=fun x vs H Q=>match x,vs with
 | .ref l,[y]=>∃ xs,H l=some (.lst xs)/\xs.length < sizeLine/\Q .non (upd H l (.lst (xs++[y])))
 | _,_=>False
theorem Ib:MtR X "list.append" D3:=by
 intro pins s σ H x vs v us Q I rx rv q
 match x,vs,q with
 | .ref l,[y],⟨xs,h1,h2,q⟩=>exact My pins s σ H _ _ v us Q I rx rv ⟨l,xs,y,rfl,rfl,h1,h2,q⟩
theorem GY (ho:PE X o to) (ha:PA X [e] t) (hbase:attributeBase o "append" X.env (eval o X.env)=eval o X.env:=by rfl)
 (hfew:((backTo cpos (starEach [e] X.env)).all (fun x=>!x.1) && (backToKw cpos (keywordEach [] X.env)).all (fun x=>x.1.isSome)
   && decide ([e].length+([]:List Keyword).length+(if ([]:List Keyword).isEmpty then 0 else 1) < 30))=true:=by rfl)
 (hline:(apos.endLine == cpos.line)=true:=by rfl) (hs:starEach [e] X.env=(false,eval e X.env)::starEach [] X.env:=by rfl) (hplain:(backTo cpos (starEach [] X.env)).any (·.1)=false:=by rfl) (hK:X.K=K:=by rfl) :
 PE X (.Call (.Attribute o "append" apos) [e] [] cpos) (tBM K "list" D3 to t):=hK ▸ FQ PySem.F.plainAttrs_list PySem.F.slot_list_append PySem.F.type_list_append Ib ho ha hbase hfew hline hs hplain
def Hq (K:W.Frag):V->List V->Hp->VK->Prop:=fun x vs H Q=>match x,vs with
 | .ref l,[y]=>∃ xs,SqL K H l xs/\Ao y=true/\xs.all Ao=true/\Q (.int (xs.countP fun v=>eqV v y:Nat)) H
 | _,_=>False
theorem HH {y:V}:∀ {xs:List V} {us:List Value},Vals xs us->xs.all Ao=true->us.countP (eqU y)=xs.countP fun v=>eqV v y
 | _,_,.nil,_=>rfl
 | x::xs,u::us,.cons r t,f=>by
  rw [List.all_cons,Bool.and_eq_true] at f
  rw [List.countP_cons,List.countP_cons,Du r f.1,HH t f.2]
theorem Nn:MtR X "list.count" (Hq X.K):=by
 intro pins s σ H x vs v us Q I rx rv q
 match x,vs,q with
 | .ref l,[y],⟨xs,h1,h2,h3,q⟩ =>
 cases rx
 obtain ⟨u,rfl,ru⟩:=rv.one
 obtain ⟨its,r,pl,hz⟩:=I.list h1
 obtain ⟨⟨cls,dd,data,sl⟩,n,ho,hc,hd,hs⟩:=id pl
 simp only at hc hs
 subst hc hs
 refine call_meets F.slot_list_count ⟨_,ho,rfl⟩ F.entry_list_count (F.args_list_count_2 _ _) (SeqAt.list_countAt l its.toArray n dd sl u (eqU y)) ⟨ho,fun w hw=>DK ru h2 r h3 w (by simpa using hw),?_⟩
 refine ⟨.int _,H,I.tok _,⟨_,rfl⟩,?_⟩
 have e:its.toArray.toList.countP (eqU y)=xs.countP fun v=>eqV v y:=by rw [show its.toArray.toList=its by simp];exact HH r h3
 rw [e]
 exact q
theorem JM (ho:PE X o to) (ha:PA X [e] t) (hbase:attributeBase o "count" X.env (eval o X.env)=eval o X.env:=by rfl)
 (hfew:((backTo cpos (starEach [e] X.env)).all (fun x=>!x.1) && (backToKw cpos (keywordEach [] X.env)).all (fun x=>x.1.isSome)
   && decide ([e].length+([]:List Keyword).length+(if ([]:List Keyword).isEmpty then 0 else 1) < 30))=true:=by rfl)
 (hline:(apos.endLine == cpos.line)=true:=by rfl) (hs:starEach [e] X.env=(false,eval e X.env)::starEach [] X.env:=by rfl) (hplain:(backTo cpos (starEach [] X.env)).any (·.1)=false:=by rfl) (hK:X.K=K:=by rfl) :
 PE X (.Call (.Attribute o "count" apos) [e] [] cpos) (tBM K "list" (Hq K) to t):=hK ▸ FQ PySem.F.plainAttrs_list PySem.F.slot_list_count PySem.F.type_list_count Nn ho ha hbase hfew hline hs hplain
def Fw (K:W.Frag):V->List V->Hp->VK->Prop:=fun x vs H Q=>match x,vs with
 | .ref l,[y]=>∃ (xs:List V) (j:Nat) (z:V),SqL K H l xs/\Ao y=true/\xs.all Ao=true/\xs[j]? = some z/\eqV z y=true/\(∀ (m:Nat) (v:V),m < j->xs[m]? = some v->eqV v y=false)/\Q (.int j) H
 | _,_=>False
theorem LY:MtR X "list.index" (Fw X.K):=by
 intro pins s σ H x vs v us Q I rx rv q
 match x,vs,q with
 | .ref l,[y],⟨xs,j,z,h1,h2,h3,h4,h5,h6,q⟩ =>
 cases rx
 obtain ⟨u,rfl,ru⟩:=rv.one
 obtain ⟨its,r,pl,hz⟩:=I.list h1
 obtain ⟨⟨cls,dd,data,sl⟩,n,ho,hc,hd,hs⟩:=id pl
 simp only at hc hs
 subst hc hs
 have hj:j < xs.length:=(List.getElem?_eq_some_iff.mp h4).1
 have hlen:=r.length
 have flat:∀ (m:Nat) (v:V),xs[m]? = some v->Ao v=true:=fun m v e=>List.all_eq_true.mp h3 v (List.mem_of_getElem? e)
 have val:∀ (m:Nat) (hm:m < its.toArray.size) (v:V),xs[m]? = some v->eqU y its.toArray[m]=eqV v y:=fun m hm v e=>by
  obtain ⟨w',q1,q2⟩:=r.get e
  have e2:its.toArray[m]=w':=by
   rw [List.getElem_toArray]
   rw [List.getElem?_eq_getElem (by simpa using hm)] at q1
   exact Option.some.inj q1
  rw [e2]
  exact Du q2 (flat m v e)
 have line:=DE
 refine call_meets F.slot_list_index ⟨_,ho,rfl⟩ F.entry_list_index (F.args_list_index_2 _ _) (SeqAt.list_indexAt l its.toArray n dd sl u (eqU y) j (by simp;lia) (by lia) ?_ ?_) ⟨ho,fun w hw=>DK ru h2 r h3 w (by simpa using hw),?_⟩
 ·rw [val j (by simp;lia) z h4];exact h5
 ·intro m hm hmj
  have:m < xs.length:=by simp at hm;lia
  rw [val m hm _ (List.getElem?_eq_getElem this)]
  exact h6 m _ hmj (List.getElem?_eq_getElem this)
 ·exact ⟨.int _,H,I.tok _,⟨_,rfl⟩,q⟩
theorem K5 (ho:PE X o to) (ha:PA X [e] t) (hbase:attributeBase o "index" X.env (eval o X.env)=eval o X.env:=by rfl)
 (hfew:((backTo cpos (starEach [e] X.env)).all (fun x=>!x.1) && (backToKw cpos (keywordEach [] X.env)).all (fun x=>x.1.isSome)
   && decide ([e].length+([]:List Keyword).length+(if ([]:List Keyword).isEmpty then 0 else 1) < 30))=true:=by rfl)
 (hline:(apos.endLine == cpos.line)=true:=by rfl) (hs:starEach [e] X.env=(false,eval e X.env)::starEach [] X.env:=by rfl) (hplain:(backTo cpos (starEach [] X.env)).any (·.1)=false:=by rfl) (hK:X.K=K:=by rfl) :
 PE X (.Call (.Attribute o "index" apos) [e] [] cpos) (tBM K "list" (Fw K) to t):=hK ▸ FQ PySem.F.plainAttrs_list PySem.F.slot_list_index PySem.F.type_list_index LY ho ha hbase hfew hline hs hplain
theorem Jn {T:String} {r:V->List V->Hp->VK->Prop} (h1:AM to) (h2:BP t) (h3:Hh r):AM (tBM K T r to t):=fun σ H Q Q' h q=>h1 _ _ _ _ (fun _ _ q=>⟨q.1,h2 _ _ _ _ (fun _ _ q=>h3 _ _ _ _ _ h q) q.2⟩) q
theorem NV:Hh D3:=fun x xs H Q Q' h q=>by
 unfold D3 at *
 split at q
 ·obtain ⟨ys,a,b,q⟩:=q;exact ⟨ys,a,b,h _ _ q⟩
 ·exact q.elim
def EI (K:W.Frag):List V->Hp->VK->Prop:=fun xs H Q=>match xs with
 | [.ref l]=>∃ ns:List Int,SqL K H l (ns.map V.int)/\Q (.int ns.sum) H
 | _=>False
theorem MF (hc:X.calm=true):CallR X (.builtin "sum") (EI X.K):=by
 intro pins s σ H xs us Q I r q
 match xs,q with
 | [.ref l],q =>
 obtain ⟨ns,hl,q⟩:=q
 obtain ⟨u,rfl,ru⟩:=Bk r
 cases ru
 obtain ⟨its,rv,pl,hz⟩:=I.list hl
 have hi:IntsAre its ns:=by simpa using Kc rv
 obtain ⟨zs,hzs⟩:=(hi.allInts).items
 have e:(numsOf its).sum=ns.sum:=by rw [hi.numsOf]
 have pl':=pl.isList
 rw [hzs] at pl'
 refine sum_intListG (I.ok.hd hc) pl' fun h' tk t' hk=>?_
 refine ⟨.int _,H,I.kept hk,⟨t',rfl⟩,?_⟩
 have e2:preSum (numAt zs) zs.size=ns.sum:=by
  rw [preSum_eq,List.take_of_length_le (by simp),<- e]
  rw [show its=its.toArray.toList by simp,hzs,nums_intItems]
 rw [e2]
 exact q
theorem Ei (hc:X.calm=true) (hK:X.K=K:=by rfl):CallR X (.builtin "sum") (EI K):=hK ▸ MF hc
theorem Lk:Be (EI K):=fun xs H Q Q' h q=>by
 unfold EI at *
 split at q
 ·obtain ⟨ns,a,q⟩:=q;exact ⟨ns,a,h _ _ q⟩
 ·exact q.elim
def G1 (K:W.Frag):List V->Hp->VK->Prop:=fun xs H Q=>match xs with
 | [.ref l]=>∃ bs:List Bool,SqL K H l (bs.map V.bl)/\Q (.bl (bs.all id)) H
 | _=>False
theorem Mo (hc:X.calm=true):CallR X (.builtin "all") (G1 X.K):=by
 intro pins s σ H xs us Q I r q
 match xs,q with
 | [.ref l],q =>
 obtain ⟨bs,hl,q⟩:=q
 obtain ⟨u,rfl,ru⟩:=Bk r
 cases ru
 obtain ⟨its,rv,pl,hz⟩:=I.list hl
 have hlen:=rv.length
 rw [List.length_map] at hlen
 obtain ⟨o1,n1,g1,_⟩:=id pl
 have hlt:=Heap.lt_size g1
 refine call_all_walk (wpAny_pyIter_list pl.isList ?_)
 have hne:l≠s.heap.objs.size:=Nat.ne_of_lt hlt
 refine ⟨_,_,_,_,_,_,fun i=>bs.getD i false,rfl,Walks.list (A:=X.A.in1) (I.ok.hd hc) s.heap.objs.size l hne its.toArray,?_,?_,fun h' tk hk=>?_⟩
 ·exact ⟨⟨_,Heap.get?_push_size _ rfl,rfl,rfl⟩,(show s.heap.IsList l its.toArray from pl.isList).at fun o e=>Heap.get?_push_of_some _ e⟩
 ·intro i v s' Q' E' hv hq
  have hv:its.toArray[i]? = some v:=hv
  have hi:i < its.length:=by
   have:=(Array.getElem?_eq_some_iff.mp hv).1
   simpa using this
  have hb:(bs.map V.bl)[i]? = some (.bl bs[i]):=by rw [List.getElem?_map,List.getElem?_eq_getElem (by lia)];rfl
  obtain ⟨w',q1,q2⟩:=rv.get hb
  have e:v=w':=by simp at hv;rw [q1] at hv;exact (Option.some.inj hv).symm
  subst e
  cases q2
  refine wpAny_truthy_bool ?_
  have e2:bs.getD i false=bs[i]:=by rw [List.getD_eq_getElem?_getD,List.getElem?_eq_getElem (by lia)];rfl
  have hq:Q' (bs.getD i false) s':=hq
  rw [e2] at hq
  exact hq
 ·refine ⟨.bl _,H,I.kept (fun b o e=>hk b o ?_ (Heap.get?_push_of_some _ e)),rfl,?_⟩
  ·simp only [List.mem_singleton]
   exact Nat.ne_of_lt (Heap.lt_size e)
  ·have e:(List.range its.toArray.size).all (fun i=>bs.getD i false)=bs.all id:=by
    rw [List.size_toArray,<- hlen]
    rw [Bool.eq_iff_iff,List.all_eq_true,List.all_eq_true]
    constructor
    ·intro h b hb
     obtain ⟨i,hi,rfl⟩:=List.mem_iff_getElem.mp hb
     have:=h i (List.mem_range.mpr hi)
     rw [List.getD_eq_getElem?_getD,List.getElem?_eq_getElem hi] at this
     exact this
    ·intro h i hi
     have hi':=List.mem_range.mp hi
     rw [List.getD_eq_getElem?_getD,List.getElem?_eq_getElem hi']
     exact h _ (List.getElem_mem hi')
   rw [e]
   exact q
theorem KH (hc:X.calm=true) (hK:X.K=K:=by rfl):CallR X (.builtin "all") (G1 K):=hK ▸ Mo hc
end
section
variable {prog:Program} {w:World} {A:Around} {E:Value->Shared->Prop} {s:Shared}
theorem Fm {it t:Addr} {items:Array Value} (hne:t≠it):∀ (n i:Nat) (s:Shared) (Q:List Value->Shared->Prop),s.heap.IsListIter it t i->s.heap.IsList t items->i+n<=items.size ->
 (∀ h',h'.IsListIter it t (i+n)->Heap.SameBut it s.heap h'->Q ((items.toList.drop i).take n) { s with heap:=h' })->wpAny (model prog w) A (draw (.ref it) n) Q E s
 | 0,i,s,Q,hit,_,_,hQ=>by
  show wpAny _ _ (pure []) Q E s
  exact wpAny_pure (by simpa using hQ s.heap hit (Heap.SameBut.refl ..))
 | n+1,i,s,Q,hit,ht,hle,hQ=>by
  have hlt:i < items.size:=by lia
  show wpAny _ _ (pyNext (.ref it) >>= _) Q E s
  refine wpAny_bind (wpAny_pyNext_list_item hit ht (x:=items[i]) (by simp [hlt]) fun h₁ hit₁ hs₁=>?_)
  refine wpAny_bind (wpAny_holding (Fm hne n (i+1) _ _ hit₁ (ht.extBut hs₁.extBut hne) (by lia) fun h₂ hit₂ hs₂=>wpAny_pure ?_))
  have hd:items.toList.drop i=items[i]::items.toList.drop (i+1):=by simp [List.drop_eq_getElem_cons,hlt]
  have:=hQ h₂ (by rw [show i+(n+1)=i+1+n by lia];exact hit₂) (hs₁.trans hs₂)
  rw [hd,List.take_succ_cons] at this
  exact this
theorem MC {t:Addr} {items:Array Value} {Q:List Value->Shared->Prop} (hh:A.handled=none) (ht:s.heap.IsList t items)
 (hQ:∀ h',Heap.ExtBut s.heap.objs.size s.heap h'->Q items.toList { s with heap:=h' }):wpAny (model prog w) A (unpackItems (.ref t) items.size none) Q E s:=by
 have hlt:t≠s.heap.objs.size:=by obtain ⟨o,ho,_⟩:=ht;exact Nat.ne_of_lt (Heap.lt_size ho)
 unfold unpackItems
 refine wpAny_bind ?_
 ·unfold notIterableAtAll
  refine wpAny_bind (wpAny_specialOf ht.typeIs slot_list_iter.lookup ?_)
  refine wpAny_pure ?_
  simp only [Bool.false_eq_true,if_false]
  refine wpAny_bind (wpAny_holding (wpAny_pyIter_list ht ?_))
  refine wpAny_bind (wpAny_holding (Fm hlt items.size 0 _ _ ⟨_,Heap.get?_push_size _ rfl,rfl,rfl⟩ (ht.at fun o e=>Heap.get?_push_of_some _ e) (by lia) fun h₁ hit₁ hs₁=>?_))
  have hall:List.take items.size (List.drop 0 items.toList)=items.toList:=by
   rw [List.drop_zero];exact List.take_of_length_le (by simp)
  rw [hall]
  rw [if_neg (by simp)]
  have ht₁:h₁.IsList t items:=(Heap.IsList.at ht fun o e=>Heap.get?_push_of_some _ e).extBut hs₁.extBut hlt
  refine wpAny_bind (wpAny_holding (wpAny_pyNext_list_end hh hit₁ ht₁ (by simp) fun h₂ he₂=>?_))
  simp only [Option.isSome_none,Bool.false_eq_true,if_false]
  refine wpAny_pure (hQ h₂ fun b o hb e=>he₂ b o hb (hs₁.extBut b o hb (Heap.get?_push_of_some _ e)))
theorem KR {env:Env} {elts:List Expr} {x1} {pos:Pos} {t:Addr} {items:Array Value} {Q:Unit->Shared->Prop} (hh:A.handled=none) (ht:s.heap.IsList t items)
 (hn:(assignEach elts env).length=items.size) (hstar:(assignEach elts env).findIdx? (·.1)=none)
 (h:∀ h',Heap.ExtBut s.heap.objs.size s.heap h'->wpAny (model prog w) A (assignInOrder ((assignEach elts env).map (·.2)) items.toList) Q E { s with heap:=h' }) :
 wpAny (model prog w) A (assign (.Tuple elts x1 pos) env (.ref t)) Q E s:=by
 rw [assign_Tuple]
 refine wpAny_bind (wpAny_standAt ?_)
 unfold unpack
 rw [hn,hstar]
 exact wpAny_bind (wpAny_holding (MC hh ht h))
end
section
variable {X:Cx} {K:W.Frag} {pos p2:Pos} {e:Expr} {lo hi:Option Expr} {te:TE} {tl th:TO}
def Hk (K:W.Frag) (n:Nat) (t:TGs):TG:=fun v σ H Q=>match v with
 | .ref a=>∃ xs,SqA K H a xs/\xs.length=n/\t xs σ H Q
 | _=>False
theorem Di {es:List Expr} {k:Nat} {t:TGs} {n:Nat} (hc:X.calm=true) (h:PGs X es t)
 (hn:(assignEach es X.env).length=n:=by rfl) (hst:(assignEach es X.env).findIdx? (·.1)=none:=by rfl) (hK:X.K=K:=by rfl):PG X (.Tuple es k pos) (Hk K n t):=by
 subst hK
 intro pins s σ H v u Q I r hw
 cases v with
 | ref a =>
  obtain ⟨xs,hq | hq,hl,hw⟩:=hw
  ·cases r
   obtain ⟨its,rv,ht,hz⟩:=I.list hq
   refine KR (I.ok.hd hc) ht.isList (by simp [hn,<- hl,rv.length]) hst fun h' hx=>?_
   have I1:Inv X pins σ H { s with heap:=h' }:=I.kept (t':=s.toks) fun b o e=>hx b o (Nat.ne_of_lt (Heap.lt_size e)) e
   exact h pins _ σ H xs _ Q I1 (by simpa using rv) hw
  ·exact IC hc h hn hst pins s σ H _ u Q I r ⟨a,xs,rfl,hq,hl,hw⟩
 | _=>exact False.elim hw
theorem Je {n:Nat} {t:TGs} (h:DW t):CT (Hk K n t):=fun v _ _ _ _ k q=>by
 cases v <;> first | exact False.elim q | (obtain ⟨xs,s,l,q⟩:=q;exact ⟨xs,s,l,h _ _ _ _ _ k q⟩)
def Gz (K:W.Frag):V->Option Int->Option Int->Hp->VK->Prop:=fun x lo hi H Q=>match x with
 | .ref a=>∃ xs,(SqL K H a xs/\∀ p,H p=none->Q (.ref p) (upd H p (.lst (BS xs lo hi)))) \/
  (SqT K H a xs/\¬ (HT.sIx xs.length 0 lo=0/\HT.sIx xs.length xs.length hi=xs.length)/\∀ p,H p=none->Q (.ref p) (upd H p (.tup (BS xs lo hi))))
 | _=>False
theorem Js:SlR X (Gz X.K):=by
 intro pins s σ H x v vl vu lo hi sl Q I rx hs pl pu q
 cases x with
 | ref a =>
  obtain ⟨xs,⟨h,q⟩ | ⟨h,h2,q⟩⟩:=q
  ·exact LX pins s σ H _ v vl vu lo hi sl Q I rx hs pl pu ⟨a,xs,rfl,h,q⟩
  ·exact NB pins s σ H _ v vl vu lo hi sl Q I rx hs pl pu ⟨a,xs,rfl,h,h2,q⟩
 | _=>exact False.elim q
theorem MK (he:PE X e te) (hl:PO X lo tl) (hu:PO X hi th) (hK:X.K=K:=by rfl):PE X (.Subscript e (.Slice lo hi none p2) pos) (tSl (Gz K) te tl th):=hK ▸ JZ Js he hl hu
end
theorem Ax {K:W.Frag} {H H':Hp} {a:Addr} {xs:List V} (h:SqT K H a xs) (s:Same H H'):SqT K H' a xs:=LK h fun o e=>s a o e
mutual
theorem Rep.same {K:W.Frag} {H H':Hp} (s:Same H H'):∀ (d:Dv) (v:V),Rep K H d v->Rep K H' d v
 | .non,v,h=>by unfold Rep at *;exact h
 | .bl b,v,h=>by unfold Rep at *;exact h
 | .int i,v,h=>by unfold Rep at *;exact h
 | .str x,v,h=>by unfold Rep at *;exact h
 | .tup ds,v,h=>by
  unfold Rep at *
  obtain ⟨a,xs,e,h1,h2⟩:=h
  exact ⟨a,xs,e,Ax h1 s,Reps.same s ds xs h2⟩
 | .lst ds,v,h=>by
  unfold Rep at *
  obtain ⟨a,xs,e,h1,h2⟩:=h
  exact ⟨a,xs,e,K9 h1 fun o e=>s a o e,Reps.same s ds xs h2⟩
theorem Reps.same {K:W.Frag} {H H':Hp} (s:Same H H'):∀ (ds:List Dv) (xs:List V),Reps K H ds xs->Reps K H' ds xs
 | [],xs,h=>by unfold Reps at *;exact h
 | d::ds,xs,h=>by
  unfold Reps at *
  obtain ⟨x,r,e,h1,h2⟩:=h
  exact ⟨x,r,e,Rep.same s d x h1,Reps.same s ds r h2⟩
end
mutual
def Bt:Dv->Bool
 | .tup ds=>BB ds
 | .lst _=>false
 | _=>true
def BB:List Dv->Bool
 | []=>true
 | d::ds=>Bt d && BB ds
end
mutual
theorem Rep.frm {K:W.Frag} {H H':Hp} {t:Addr} (s:Frm t H H') (ht:∃ zs,H t=some (.lst zs)):∀ (d:Dv) (v:V),Bt d=true->Rep K H d v->Rep K H' d v
 | .non,v,_,h=>by unfold Rep at *;exact h
 | .bl b,v,_,h=>by unfold Rep at *;exact h
 | .int i,v,_,h=>by unfold Rep at *;exact h
 | .str x,v,_,h=>by unfold Rep at *;exact h
 | .tup ds,v,hd,h=>by
  unfold Bt at hd
  unfold Rep at *
  obtain ⟨a,xs,e,h1,h2⟩:=h
  refine ⟨a,xs,e,?_,Reps.frm s ht ds xs hd h2⟩
  obtain ⟨zs,hz⟩:=ht
  rcases h1 with (h1 | ⟨o,h1⟩) | h1
  ·exact .inl (.inl (s a _ (fun q=>by rw [q,hz] at h1;cases h1) h1))
  ·exact .inl (.inr ⟨o,s a _ (fun q=>by rw [q,hz] at h1;cases h1) h1⟩)
  ·exact .inr h1
 | .lst ds,v,hd,h=>by unfold Bt at hd;cases hd
theorem Reps.frm {K:W.Frag} {H H':Hp} {t:Addr} (s:Frm t H H') (ht:∃ zs,H t=some (.lst zs)):∀ (ds:List Dv) (xs:List V),BB ds=true->Reps K H ds xs->Reps K H' ds xs
 | [],xs,_,h=>by unfold Reps at *;exact h
 | d::ds,xs,hd,h=>by
  unfold BB at hd
  rw [Bool.and_eq_true] at hd
  unfold Reps at *
  obtain ⟨x,r,e,h1,h2⟩:=h
  exact ⟨x,r,e,Rep.frm s ht d x hd.1 h1,Reps.frm s ht ds r hd.2 h2⟩
end
theorem Tape.lst {K:W.Frag} {H:Hp} {t a:Addr} {ns:List Int} (T:Tape K H t a ns):∃ zs,H t=some (.lst zs):=by
 obtain ⟨i,r,c,_,_,h⟩:=T.at_
 exact ⟨_,h⟩
theorem DV {K:W.Frag} {H:Hp} {p:Addr} {xs:List V} {ds:List Dv} (h:H p=some (.tup xs)) (r:Reps K H ds xs):Rep K H (.tup ds) (.ref p):=by unfold Rep;exact ⟨p,xs,rfl,.of h,r⟩
theorem BN {K:W.Frag} {H:Hp}:Reps K H [] []:=by unfold Reps;rfl
theorem A1 {K:W.Frag} {H:Hp} {d:Dv} {ds:List Dv} {x:V} {xs:List V} (h:Rep K H d x) (r:Reps K H ds xs):Reps K H (d::ds) (x::xs):=by unfold Reps;exact ⟨x,xs,rfl,h,r⟩
theorem CB {K:W.Frag} {H:Hp} {x:Int}:Rep K H (.int x) (.int x):=by unfold Rep;rfl
theorem Reps.append {K:W.Frag} {H:Hp}:∀ {ds es:List Dv} {xs ys:List V},Reps K H ds xs->Reps K H es ys->Reps K H (ds++es) (xs++ys)
 | [],es,xs,ys,h,h'=>by unfold Reps at h;subst h;exact h'
 | d::ds,es,xs,ys,h,h'=>by
  unfold Reps at h
  obtain ⟨x,r,rfl,h1,h2⟩:=h
  exact A1 h1 (Reps.append h2 h')
section
variable {κ:Type} [DecidableEq κ]
def An (kvs:List (κ × V)) (k:κ):Option V:=(kvs.find? fun kv=>decide (kv.1=k)).map (·.2)
def A0 (kvs:List (κ × V)) (k:κ) (v:V):List (κ × V) :=
 if (kvs.any fun kv=>decide (kv.1=k))=true then kvs.map (fun kv=>if kv.1=k then (kv.1,v) else kv) else kvs++[(k,v)]
def CM (kvs:List (κ × V)) (k:κ):List (κ × V):=kvs.filter fun kv=>decide (kv.1≠k)
theorem FH {p:κ × V} {r:List (κ × V)} {k:κ} (e:p.1=k):An (p::r) k=some p.2:=by simp [An,List.find?_cons,e]
theorem FZ {p:κ × V} {r:List (κ × V)} {k:κ} (e:¬ p.1=k):An (p::r) k=An r k:=by simp [An,List.find?_cons,e]
theorem Go (k:κ):∀ kvs:List (κ × V),(kvs.any fun kv=>decide (kv.1=k))=(An kvs k).isSome
 | []=>rfl
 | p::r=>by
  rw [List.any_cons]
  by_cases e:p.1=k
  ·simp only [FH e,decide_eq_true e,Bool.true_or,Option.isSome_some]
  ·rw [FZ e,decide_eq_false e,Bool.false_or];exact Go k r
theorem GM (kvs:List (κ × V)) (k:κ) (v:V):(A0 kvs k v).length<=kvs.length+1:=by
 unfold A0
 split
 ·rw [List.length_map];lia
 ·rw [List.length_append,List.length_cons,List.length_nil];lia
theorem RelO.isSome_eq {o:Option V} {u:Option Value} (r:RelO o u):o.isSome=u.isSome:=by
 cases o with
 | none=>cases u with
  | none=>rfl
  | some _=>exact (show False from r).elim
 | some _=>cases u with
  | none=>exact (show False from r).elim
  | some _=>rfl
theorem RelO.getD {o:Option V} {u:Option Value} {d:V} {d':Value} (r:RelO o u) (rd:RelV d d'):RelV (o.getD d) (u.getD d'):=by
 cases o with
 | none=>cases u with
  | none=>exact rd
  | some _=>exact (show False from r).elim
 | some _=>cases u with
  | none=>exact (show False from r).elim
  | some _=>exact r
theorem KV.val {kvs:List (κ × V)} {vs:List (κ × Value)} (r:KV kvs vs) (k:κ):RelO (An kvs k) (valueAt vs k):=by
 unfold KV at r
 induction r with
 | nil=>exact True.intro
 | @cons p q ps qs h t ih =>
  obtain ⟨h1,h2⟩:=h
  by_cases e:p.1=k
  ·have e':q.1=k:=h1.symm.trans e
   have b:valueAt (q::qs) k=some q.2:=by simp [valueAt,List.find?_cons,e']
   rw [FH e,b];exact h2
  ·have e':¬ q.1=k:=fun z=>e (h1.trans z)
   have b:valueAt (q::qs) k=valueAt qs k:=by simp [valueAt,List.find?_cons,e']
   rw [FZ e,b];exact ih
theorem KV.any {kvs:List (κ × V)} {vs:List (κ × Value)} (r:KV kvs vs) (k:κ):(kvs.any fun kv=>decide (kv.1=k))=vs.any fun kv=>decide (kv.1=k):=by
 unfold KV at r
 induction r with
 | nil=>rfl
 | cons h t ih=>rw [List.any_cons,List.any_cons,ih,h.1]
theorem KV.repl {kvs:List (κ × V)} {vs:List (κ × Value)} (r:KV kvs vs) (k:κ) {y:V} {u:Value} (ry:RelV y u) :
 KV (kvs.map fun kv=>if kv.1=k then (kv.1,y) else kv) (vs.map fun kv=>if kv.1=k then (kv.1,u) else kv):=by
 unfold KV at r ⊢
 induction r with
 | nil=>exact .nil
 | @cons p q ps qs h t ih =>
  rw [List.map_cons,List.map_cons]
  refine .cons ?_ ih
  obtain ⟨h1,h2⟩:=h
  by_cases e:p.1=k
  ·rw [if_pos e,if_pos (h1.symm.trans e)];exact ⟨h1,ry⟩
  ·rw [if_neg e,if_neg (fun z=>e (h1.trans z))];exact ⟨h1,h2⟩
theorem KV.put {kvs:List (κ × V)} {vs:List (κ × Value)} (r:KV kvs vs) (k:κ) {y:V} {u:Value} (ry:RelV y u):KV (A0 kvs k y) (stored vs k u):=by
 unfold A0 stored
 rw [r.any k]
 by_cases e:(vs.any fun kv=>decide (kv.1=k))=true
 ·rw [if_pos e,if_pos e];exact r.repl k ry
 ·rw [if_neg e,if_neg e];exact Paired.snoc r ⟨rfl,ry⟩
theorem KV.drop {kvs:List (κ × V)} {vs:List (κ × Value)} (r:KV kvs vs) (k:κ):KV (CM kvs k) (without vs k):=by
 unfold KV at r ⊢
 unfold CM without
 induction r with
 | nil=>exact .nil
 | @cons p q ps qs h t ih =>
  obtain ⟨h1,h2⟩:=h
  rw [List.filter_cons,List.filter_cons]
  by_cases e:p.1=k
  ·have a:¬ decide (p.1≠k)=true:=by simp [e]
   have b:¬ decide (q.1≠k)=true:=by simp [h1.symm.trans e]
   rw [if_neg a,if_neg b];exact ih
  ·have e':¬ q.1=k:=fun z=>e (h1.trans z)
   have a:decide (p.1≠k)=true:=by simp [e]
   have b:decide (q.1≠k)=true:=by simp [e']
   rw [if_pos a,if_pos b];exact .cons ⟨h1,h2⟩ ih
theorem KV.length {kvs:List (κ × V)} {vs:List (κ × Value)} (r:KV kvs vs):kvs.length=vs.length:=Paired.length r
theorem LO (kvs:List (κ × V)) (k:κ):(CM kvs k).length<=kvs.length:=List.length_filter_le _ _
end
theorem DU {P:Program} {w:World} {k:Key} {u:Value} (r:RelV (kV k) u):(AY P w).is k u=true:=by
 cases k with
 | inl i=>obtain ⟨t,e⟩:=(show ∃ t,u=Value.int i t from r);subst e;exact FJ P w i t
 | inr x=>obtain ⟨t,e⟩:=(show ∃ t,u=Value.str x t from r);subst e;exact Lv P w x t
theorem G9 {P:Program} {w:World}:∀ {ks:List Key} {us:List Value},Vals (ks.map kV) us->ItemsAre (AY P w) ks us
 | [],_,r=>by rw [List.map_nil] at r;cases r;exact .nil
 | k::ks,_,r=>by
  rw [List.map_cons] at r
  cases r with
  | cons h t=>exact .cons (DU h) (G9 t)
abbrev KT (H:Hp):List (List Key × V)->List (List Key × Addr × Value)->Prop:=Paired fun p q=>p.1=q.1/\H q.2.1=some (.tup (p.1.map kV))/\RelV p.2 q.2.2
theorem KT.val {H:Hp} {kvs:List (List Key × V)} {xs:List (List Key × Addr × Value)} (r:KT H kvs xs) (k:List Key):RelO (An kvs k) ((atKey xs k).map (·.2)):=by
 induction r with
 | nil=>exact True.intro
 | @cons p q ps qs h t ih =>
  obtain ⟨h1,_,h2⟩:=h
  by_cases e:p.1=k
  ·have e':q.1=k:=h1.symm.trans e
   have b:atKey (q::qs) k=some q.2:=by simp [atKey,List.find?_cons,e']
   rw [FH e,b];exact h2
  ·have e':¬ q.1=k:=fun z=>e (h1.trans z)
   have b:atKey (q::qs) k=atKey qs k:=by simp [atKey,List.find?_cons,e']
   rw [FZ e,b];exact ih
theorem KT.repl {H:Hp} {kvs:List (List Key × V)} {xs:List (List Key × Addr × Value)} (r:KT H kvs xs) (k:List Key) {y:V} {u:Value} (ry:RelV y u) :
 KT H (kvs.map fun kv=>if kv.1=k then (kv.1,y) else kv) (xs.map (putAt k u)):=by
 induction r with
 | nil=>exact .nil
 | @cons p q ps qs h t ih =>
  rw [List.map_cons,List.map_cons]
  refine .cons ?_ ih
  obtain ⟨h1,h2,h3⟩:=h
  unfold putAt
  by_cases e:p.1=k
  ·rw [if_pos e,if_pos (h1.symm.trans e)];exact ⟨h1,h2,ry⟩
  ·rw [if_neg e,if_neg (fun z=>e (h1.trans z))];exact ⟨h1,h2,h3⟩
theorem KT.put {H:Hp} {kvs:List (List Key × V)} {xs:List (List Key × Addr × Value)} (r:KT H kvs xs) (k:List Key) {b:Addr} {y:V} {u:Value} (hb:H b=some (.tup (k.map kV))) (ry:RelV y u) :
 KT H (A0 kvs k y) (storedH xs k b u):=by
 have e:(kvs.any fun kv=>decide (kv.1=k))=(atKey xs k).isSome:=by
  rw [Go,(r.val k).isSome_eq,Option.isSome_map]
 unfold A0 storedH
 rw [e]
 by_cases q:(atKey xs k).isSome=true
 ·rw [if_pos q,if_pos q];exact r.repl k ry
 ·rw [if_neg q,if_neg q];exact Paired.snoc r ⟨rfl,hb,ry⟩
theorem KT.keeps {H H':Hp} {kvs:List (List Key × V)} {xs:List (List Key × Addr × Value)} (r:KT H kvs xs) (ht:∀ b ys,H b=some (.tup ys)->H' b=some (.tup ys)):KT H' kvs xs :=
 Paired.mapP r fun _ _ z=>⟨z.1,ht _ _ z.2.1,z.2.2⟩
section
variable {P:Program} {w:World} {H:Hp} {h:Heap} {a:Addr}
theorem IK {u:HO} (ok:HOk P w H h) (e:Rd H a u):ObjOk P w H h a u:=e.ok ok
theorem DZ {kvs:List (Key × V)} (ok:HOk P w H h) (e:Rd H a (.dK kvs)):kvs.length<=sizeLine/\(a == sysModules)=false/\∃ vs,KV kvs vs/\h.DictOf (AY P w) a vs :=
 show ObjOk P w H h a (.dK kvs) from IK ok e
theorem D5 {kvs:List (Key × V)} (ok:HOk P w H h) (e:H a=some (.dK kvs)):kvs.length<=sizeLine/\(a == sysModules)=false/\∃ vs,KV kvs vs/\h.DictOf (AY P w) a vs:=DZ ok (.inl e)
theorem EM {ks:List Key} (ok:HOk P w H h) (e:H a=some (.tup (ks.map kV))):(tupleKind (AY P w)).is h ks a:=by
 obtain ⟨_,its,r,o,h1,h2,⟨n,h3⟩,_⟩:=(show ObjOk P w H h a (.tup (ks.map kV)) from ok a _ e)
 exact ⟨o,its.toArray,n,h1,h2,h3,by simpa using G9 r⟩
theorem DP {kvs:List (List Key × V)} (ok:HOk P w H h) (e:Rd H a (.dT kvs)):kvs.length<=sizeLine/\(a == sysModules)=false /\
 ∃ xs,KT H kvs xs/\h.DictOfH (tupleKind (AY P w)) a xs:=by
 obtain ⟨z,y,xs,r,o,es,ep,h1,h2,h3,h4,h5⟩:=(show ObjOk P w H h a (.dT kvs) from IK ok e)
 refine ⟨z,y,xs,r,o,es,ep,h1,h2,h3,h4,fun x hx=>?_,h5⟩
 have all:∀ {l:List (List Key × V)} {m:List (List Key × Addr × Value)},KT H l m->∀ x∈m,(tupleKind (AY P w)).is h x.1 x.2.1:=by
  intro l m q
  induction q with
  | nil=>intro x hx;exact nomatch hx
  | @cons p q ps qs hq t ih =>
   intro x hx
   rcases List.mem_cons.mp hx with e | hx
   ·subst e
    exact EM ok (by rw [<- hq.1];exact hq.2.1)
   ·exact ih x hx
 exact all r x hx
theorem OL {kvs:List (List Key × V)} (ok:HOk P w H h) (e:H a=some (.dT kvs)):kvs.length<=sizeLine/\(a == sysModules)=false /\
 ∃ xs,KT H kvs xs/\h.DictOfH (tupleKind (AY P w)) a xs:=DP ok (.inl e)
end
def DGet (H:Hp) (a:Addr) (y:V) (r:Option V):Prop :=
 (∃ kvs k,Rd H a (.dK kvs)/\y=kV k/\r=An kvs k)\/∃ kvs k b,Rd H a (.dT kvs)/\y=.ref b/\H b=some (.tup (k.map kV))/\r=An kvs k
def DPut (H:Hp) (a:Addr) (y v:V) (H':Hp):Prop :=
 (∃ kvs k,H a=some (.dK kvs)/\y=kV k/\kvs.length < sizeLine/\H'=upd H a (.dK (A0 kvs k v))) \/
 ∃ kvs k b,H a=some (.dT kvs)/\y=.ref b/\H b=some (.tup (k.map kV))/\kvs.length < sizeLine/\H'=upd H a (.dT (A0 kvs k v))
theorem DGet.k {H:Hp} {a:Addr} {kvs:List (Key × V)} {k:Key} (e:H a=some (.dK kvs)):DGet H a (kV k) (An kvs k):=.inl ⟨kvs,k,.inl e,rfl,rfl⟩
theorem DGet.t {H:Hp} {a b:Addr} {kvs:List (List Key × V)} {k:List Key} (e:H a=some (.dT kvs)) (eb:H b=some (.tup (k.map kV))):DGet H a (.ref b) (An kvs k):=.inr ⟨kvs,k,b,.inl e,rfl,eb,rfl⟩
theorem DPut.k {H:Hp} {a:Addr} {kvs:List (Key × V)} {k:Key} {v:V} (e:H a=some (.dK kvs)) (hl:kvs.length < sizeLine):DPut H a (kV k) v (upd H a (.dK (A0 kvs k v))):=.inl ⟨kvs,k,e,rfl,hl,rfl⟩
theorem DPut.t {H:Hp} {a b:Addr} {kvs:List (List Key × V)} {k:List Key} {v:V} (e:H a=some (.dT kvs)) (eb:H b=some (.tup (k.map kV))) (hl:kvs.length < sizeLine) :
 DPut H a (.ref b) v (upd H a (.dT (A0 kvs k v))):=.inr ⟨kvs,k,b,e,rfl,eb,hl,rfl⟩
section
variable {X:Cx} {pins:List (Addr × Obj)} {σ:St} {H:Hp} {s:Shared} {a:Addr} {y v:V} {u r:Value} {o:Option V} {A:Around} {E:Value->Shared->Prop}
theorem Inv.big (I:Inv X pins σ H s):sysModules < s.heap.objs.size:=by
 have h:mainGlobals < s.heap.objs.size:=(I.mod.glob.keeps I.bk).lt
 exact Nat.lt_trans (by decide) h
theorem L7 {Q:Value->Shared->Prop} (hu:A.units+1 < cLine) (I:Inv X pins σ H s) (g:DGet H a y (some v)) (ry:RelV y u) (h:∀ w' s',Inv X pins σ H s'->RelV v w'->Q w' s') :
 wpAny (model X.prog X.w) A (getItem (.ref a) u) Q E s:=by
 rcases g with ⟨kvs,k,e,ey,l⟩ | ⟨kvs,k,b,e,ey,eb,l⟩
 ·subst ey
  obtain ⟨z,hd,vs,rel,dd⟩:=DZ I.hok e
  obtain ⟨w',hw,rw'⟩:=RelO.some_of (v:=v) (o:=valueAt vs k) (by rw [l];exact rel.val k)
  exact wpAny_getItem_of (DU ry) dd.mapOf hw (h w' _ (I.tok _) rw')
 ·subst ey
  cases (show u=Value.ref b from ry)
  obtain ⟨z,hd,xs,rel,dd⟩:=DP I.hok e
  obtain ⟨w',hw,rw'⟩:=RelO.some_of (v:=v) (o:=(atKey xs k).map (·.2)) (by rw [l];exact rel.val k)
  obtain ⟨p,hp,hp2⟩:=Option.map_eq_some_iff.mp hw
  refine wpAny_getItem_heap (tupleKind_room_in1 hu) (EM I.hok eb) dd hp ?_
  rw [hp2]
  exact h w' _ (I.tok _) rw'
theorem EE {h':Heap} {t':Nat} {ob:HO} (I:Inv X pins σ H s) (mu:Mut (H a)) (hs:Heap.SameBut a s.heap h') (he:∃ q,h'.get? a=some q) (new:ObjOk X.prog X.w (upd H a ob) h' a ob) :
 Inv X pins σ (upd H a ob) { s with heap:=h',toks:=t' } :=
 I.write (x:=a) (e:=a) mu (.inl rfl) (fun b q hb z=>(hs.2 b hb).trans z) he new
theorem GO {P:Program} {w:World} {H':Hp} {h':Heap} {kvs:List (Key × V)} {vs:List (Key × Value)} (z:kvs.length<=sizeLine) (hd:(a == sysModules)=false) (rel:KV kvs vs) (dd:h'.DictOf (AY P w) a vs) :
 ObjOk P w H' h' a (.dK kvs):=⟨z,hd,vs,rel,dd⟩
theorem IQ {H':Hp} {Q:Unit->Shared->Prop} (hu:A.units+1 < cLine) (I:Inv X pins σ H s) (g:DPut H a y v H') (ry:RelV y u) (rv:RelV v r) (h:∀ s',Inv X pins σ H' s'->Q () s') :
 wpAny (model X.prog X.w) A (setItem (.ref a) u r) Q E s:=by
 rcases g with ⟨kvs,k,e,ey,l,eH⟩ | ⟨kvs,k,b,e,ey,eb,l,eH⟩
 ·subst ey eH
  obtain ⟨z,hd,vs,rel,dd⟩:=D5 I.hok e
  have hz:vs.length<=sizeLine:=by rw [<- rel.length];exact z
  have hl:(A0 kvs k v).length<=sizeLine:=by have:=GM kvs k v;lia
  refine wpAny_setItem_pairs (hsz:=hz) (DU ry) dd fun h' dd' hs=>h _ ?_
  have he:∃ q,h'.get? a=some q:=let ⟨q,_,_,hq,_⟩:=dd';⟨q,hq⟩
  exact EE I (by rw [e];exact True.intro) hs he (GO hl hd (rel.put k rv) dd')
 ·subst ey eH
  cases (show u=Value.ref b from ry)
  obtain ⟨z,hd,xs,rel,dd⟩:=OL I.hok e
  have hz:xs.length<=sizeLine:=by rw [<- Paired.length rel];exact z
  have hl:(A0 kvs k v).length<=sizeLine:=by have:=GM kvs k v;lia
  refine wpAny_setItem_heap (hsz:=hz) (tupleKind_room_in1 hu) (EM I.hok eb) dd fun h' dd' hs=>h _ ?_
  obtain ⟨q,es,ep,hq,h2,h3,h4,_,h5⟩:=dd'
  refine EE I (by rw [e];exact True.intro) hs ⟨q,hq⟩ ⟨hl,hd,_,(rel.put k eb rv).keeps fun c ys ec=>?_,q,es,ep,hq,h2,h3,h4,h5⟩
  rw [AG (EN ec e (fun z=>nomatch z))]
  exact ec
end
section
variable {X:Cx} {pins:List (Addr × Obj)} {σ:St} {H:Hp} {s:Shared} {a:Addr} {kvs:List (Key × V)} {k:Key} {u:Value} {A:Around} {E:Value->Shared->Prop}
theorem MJ {v:V} {more:List Value} {Q:Value->Shared->Prop} (I:Inv X pins σ H s) (e:H a=some (.dK kvs)) (ry:RelV (kV k) u) (l:An kvs k=some v) (hm:more=[]\/∃ x,more=[x])
 (h:∀ w' s',Inv X pins σ (upd H a (.dK (CM kvs k))) s'->RelV v w'->Q w' s'):wpAny (model X.prog X.w) A (call (.builtin "dict.pop") (.ref a::u::more)) Q E s:=by
 obtain ⟨z,hd,vs,rel,dd⟩:=D5 I.hok e
 obtain ⟨w',hw,rw'⟩:=RelO.some_of (v:=v) (o:=valueAt vs k) (by rw [<- l];exact rel.val k)
 have hp:(keyPart u).isSome=true:=by
  cases k with
  | inl i=>obtain ⟨t,q⟩:=(show ∃ t,u=Value.int i t from ry);subst q;rfl
  | inr x=>obtain ⟨t,q⟩:=(show ∃ t,u=Value.str x t from ry);subst q;rfl
 have ha:argsOk "dict.pop" ⟨.ref a::u::more,[]⟩:=by
  rcases hm with q | ⟨x,q⟩
  ·subst q;exact PySem.F.args_dict_pop_2 _ _
  ·subst q;exact PySem.F.args_dict_pop_3 _ _ _
 refine call_meetsIn PySem.F.slot_dict_pop dd.typeIs PySem.F.entry_dict_pop ha (meets_dict_pop_there (AY X.prog X.w) a (DU ry) more hm hp)
  ⟨vs,w',dd,by rw [<- rel.length];exact z,hw,fun h' dd' hs=>h w' _ ?_ rw'⟩
 have he:∃ q,h'.get? a=some q:=let ⟨q,_,_,hq,_⟩:=dd';⟨q,hq⟩
 exact EE I (by rw [e];exact True.intro) hs he (GO (Nat.le_trans (LO kvs k) z) hd (rel.drop k) dd')
end
def Dq (i:Expr):Prop:=∀ ov iv,subscripted i false ov iv=operate [ov,iv] (getItem ov iv)
theorem GS {prog:Program} {w:World} {A:Around} {E:Value->Shared->Prop} {s:Shared} {env:Env} {value slice:Expr} {pos:Pos} {T id:String} {Q:Value->Shared->Prop}
 (hl:typeLookup (.type T) "__getitem__" = pure (some (.builtin id))) (hs:Dq slice)
 (h:wpAny (model prog w) A (eval value env) (fun o s₁=>wpAny (model prog w) A (eval slice env) (fun i s₂=>s₂.TypeIs o T/\wpAny (model prog w) A (getItem o i) Q E s₂) E s₁) E s) :
 wpAny (model prog w) A (eval (.Subscript value slice pos) env) Q E s:=by
 refine Subscript_ (wpAny_mono h (fun o s₁ h₁=>wpAny_mono h₁ (fun i s₂ h₂=>?_) fun _ _ x=>x) fun _ _ x=>x)
 obtain ⟨hT,h₂⟩:=h₂
 unfold subscriptTail
 refine wpAny_bind ?_
 rw [getitemInPython_of_ne hT.not_modules]
 refine wpAny_bind (wpAny_specialOf hT hl ?_)
 have fin:wpAny (model prog w) A (subscripted slice false o i) (fun r s₃=>wpAny (model prog w) A (letTemporaryGo value o r >>= fun _=>pure r) Q E s₃) E s₂:=by
  rw [hs o i]
  exact wpAny_operating (wpAny_mono h₂ (fun r s₃ h₃=>wpAny_bind (wpAny_letTemporaryGo (wpAny_pure h₃))) fun _ _ x=>x)
 first
  | exact wpAny_pure (wpAny_bind fin)
  | exact wpAny_bind (wpAny_pure (wpAny_bind fin))
  | exact wpAny_bind fin
theorem Lr {X:Cx} {pins:List (Addr × Obj)} {σ:St} {H:Hp} {s:Shared} {a:Addr} {y:V} {o:Option V} (I:Inv X pins σ H s) (g:DGet H a y o):s.TypeIs (.ref a) "dict":=by
 rcases g with ⟨kvs,k,e,_,_⟩ | ⟨kvs,k,b,e,_,_,_⟩
 ·obtain ⟨_,_,vs,_,dd⟩:=DZ I.hok e
  exact dd.typeIs
 ·obtain ⟨_,_,xs,_,dd⟩:=DP I.hok e
  exact dd.typeIs
def II (td ty:TE):TE:=fun σ H Q=>td σ H fun x H1=>ty σ H1 fun y H2=>∃ a v,x=.ref a/\DGet H2 a y (some v)/\Q v H2
def GQ (td ty tv:TE):TS:=fun D σ H=>tv σ H fun v H1=>td σ H1 fun x H2=>ty σ H2 fun y H3=>∃ a H4,x=.ref a/\DPut H3 a y v H4/\D.nx σ H4
section
variable {X:Cx} {o i e value:Expr} {pos pos' tpos:Pos} {td ty tv:TE}
theorem Cd (hu:X.A.units+1 < cLine) (ho:PE X o td) (hi:PE X i ty) (hs:Dq i):PE X (.Subscript o i pos) (II td ty):=by
 intro pins s σ H Q I h
 refine GS PySem.F.slot_dict_getitem.lookup hs (thn (ho pins s σ H _ I h) fun u s1 ⟨x,H1,I1,rx,q1⟩=>thn (hi pins s1 σ H1 _ I1 q1) fun iv s2 ⟨y,H2,I2,ry,a,v,ex,g,q2⟩=>?_)
 subst ex
 obtain rfl:u=Value.ref a:=rx
 exact ⟨Lr I2 g,L7 hu I2 g ry fun w' s3 I3 rw'=>⟨v,H2,I3,rw',q2⟩⟩
theorem D0 (hu:X.A.units+1 < cLine) (ho:PE X o td) (hi:PE X i ty) (hv:PE X value tv) (hs:swapsWith value (some (.Subscript o i pos')) pos.line X.env=pure false) :
 PS X (.Assign [.Subscript o i pos'] value pos) (GQ td ty tv):=by
 intro pins s σ H D I h
 refine wpAny_Assign_Subscript (thn (hv pins s σ H _ I h) fun r s1 ⟨v,H1,I1,rv,q1⟩=>thn (ho pins s1 σ H1 _ I1 q1) fun u s2 ⟨x,H2,I2,rx,q2⟩=>thn (hi pins s2 σ H2 _ I2 q2) fun iv s3 ⟨y,H3,I3,ry,a,H4,ex,g,q3⟩=>?_) hs
 subst ex
 obtain rfl:u=Value.ref a:=rx
 exact IQ hu I3 g ry rv fun s4 I4=>⟨σ,H4,I4,q3⟩
end
theorem Ke {P:Program} {w:World} {H:Hp} (h:Heap) (hb:sysModules < h.objs.size):ObjOk P w H (h.push { cls:=.type "dict",data:=.dict #[] }) h.objs.size (.dK []) :=
 ⟨Nat.zero_le _,beq_eq_false_iff_ne.mpr (Ne.symm (Nat.ne_of_lt hb)),[],.nil,Heap.DictOf.new h⟩
def Iw:TE:=fun _ H Q=>∀ p,H p=none->Q (.ref p) (upd H p (.dK []))
section
variable {X:Cx} {pos:Pos}
theorem IR:PE X (.Dict [] [] pos) Iw:=fun pins s σ H Q I h =>
 wpAny_Dict_empty ⟨.ref s.heap.objs.size,_,I.laid (a:=s.heap.objs.size) (o:=.dK []) (t':=s.toks) (fun _ _ q=>Heap.get?_push_of_some _ q) (Nat.le_refl _) (Ke s.heap I.big),rfl,h _ (I.hok.fresh (Nat.le_refl _))⟩
end
structure M1 (X:Cx) (o:Expr) (m:Str) (apos:Pos) (e:Expr) (cpos:Pos):Prop where
 base:attributeBase o m X.env (eval o X.env)=eval o X.env
 few:((backTo cpos (starEach [e] X.env)).all (fun x=>!x.1) && (backToKw cpos (keywordEach [] X.env)).all (fun x=>x.1.isSome)
  && decide (([e]:List Expr).length+([]:List Keyword).length+(if ([]:List Keyword).isEmpty then 0 else 1) < 30))=true
 line:(apos.endLine == cpos.line)=true
 trees:backTo cpos (starEach [e] X.env)=[(false,eval e X.env)]
structure M2 (X:Cx) (o:Expr) (m:Str) (apos:Pos) (e f:Expr) (cpos:Pos):Prop where
 base:attributeBase o m X.env (eval o X.env)=eval o X.env
 few:((backTo cpos (starEach [e,f] X.env)).all (fun x=>!x.1) && (backToKw cpos (keywordEach [] X.env)).all (fun x=>x.1.isSome)
  && decide (([e,f]:List Expr).length+([]:List Keyword).length+(if ([]:List Keyword).isEmpty then 0 else 1) < 30))=true
 line:(apos.endLine == cpos.line)=true
 trees:backTo cpos (starEach [e,f] X.env)=[(false,eval e X.env),(false,eval f X.env)]
def IsD (H:Hp) (a:Addr):Prop:=(∃ kvs,Rd H a (.dK kvs))\/∃ kvs,Rd H a (.dT kvs)
theorem Hw {X:Cx} {pins:List (Addr × Obj)} {σ:St} {H:Hp} {s:Shared} {a:Addr} (I:Inv X pins σ H s) (d:IsD H a) :
 s.TypeIs (.ref a) "dict" /\ (∀ b,Value.ref a=.ref b->∃ ob,s.heap.get? b=some ob/\ob.dict=none)/\(a == sysModules)=false:=by
 rcases d with ⟨kvs,e⟩ | ⟨kvs,e⟩
 ·obtain ⟨_,hd,vs,_,dd⟩:=DZ I.hok e
  refine ⟨dd.typeIs,fun b q=>?_,hd⟩
  cases q
  obtain ⟨ob,_,_,h1,h2,_⟩:=dd
  exact ⟨ob,h1,h2.2.1⟩
 ·obtain ⟨_,hd,xs,_,dd⟩:=DP I.hok e
  refine ⟨dd.typeIs,fun b q=>?_,hd⟩
  cases q
  obtain ⟨ob,_,_,h1,h2,_⟩:=dd
  exact ⟨ob,h1,h2.2.1⟩
section
variable {X:Cx} {pins:List (Addr × Obj)} {σ:St} {H:Hp} {s:Shared} {a:Addr} {y d:V} {u r:Value} {o:Option V} {A:Around} {E:Value->Shared->Prop}
theorem Nz {Q:Value->Shared->Prop} (hu:A.units+1 < cLine) (I:Inv X pins σ H s) (g:DGet H a y o) (ry:RelV y u) (rd:RelV d r) (h:∀ w' s',Inv X pins σ H s'->RelV (o.getD d) w'->Q w' s') :
 wpAny (model X.prog X.w) A (call (.builtin "dict.get") [.ref a,u,r]) Q E s:=by
 rcases g with ⟨kvs,k,e,ey,l⟩ | ⟨kvs,k,b,e,ey,eb,l⟩
 ·subst ey
  obtain ⟨z,hd,vs,rel,dd⟩:=DZ I.hok e
  refine call_meetsIn PySem.F.slot_dict_get dd.typeIs PySem.F.entry_dict_get (PySem.F.args_dict_get_3 _ _ _) (meets_dict_get_default (AY X.prog X.w) a (DU ry) hd r) ⟨_,dd.mapOf,h _ _ (I.tok _) ?_⟩
  rw [l]
  exact (rel.val k).getD rd
 ·subst ey
  cases (show u=Value.ref b from ry)
  obtain ⟨z,hd,xs,rel,dd⟩:=DP I.hok e
  refine call_meetsIn PySem.F.slot_dict_get dd.typeIs PySem.F.entry_dict_get (PySem.F.args_dict_get_3 _ _ _) (meetsH_dict_get_default (tupleKind (AY X.prog X.w)) a b hd r) ⟨tupleKind_room_in1 hu,k,xs,EM I.hok eb,dd,h _ _ (I.tok _) ?_⟩
  rw [l]
  exact (rel.val k).getD rd
end
def GG (td ty tx:TE):TE:=fun σ H Q=>td σ H fun x H1=>∃ a,x=.ref a/\IsD H1 a/\ty σ H1 fun y H2=>tx σ H2 fun z H3=>∃ o,DGet H3 a y o/\Q (o.getD z) H3
def Gu (td ty:TE):TE:=fun σ H Q=>td σ H fun x H1=>∃ a,x=.ref a/\IsD H1 a/\ty σ H1 fun y H2=>∃ kvs k v,H2 a=some (.dK kvs)/\y=kV k/\An kvs k=some v/\Q v (upd H2 a (.dK (CM kvs k)))
section
variable {X:Cx} {o e f:Expr} {apos cpos:Pos} {td ty tx:TE}
theorem IX (hu:X.A.units+1 < cLine) (ho:PE X o td) (he:PE X e ty) (hf:PE X f tx) (m:M2 X o "get" apos e f cpos):PE X (.Call (.Attribute o "get" apos) [e,f] [] cpos) (GG td ty tx):=by
 intro pins s σ H Q I h
 refine wpAny_Call_method m.base m.few m.line PySem.F.plainAttrs_dict PySem.F.slot_dict_get PySem.F.type_dict_get (thn (ho pins s σ H _ I h) fun u s1 ⟨x,H1,I1,rx,a,ex,d,q1⟩=>?_)
 subst ex
 obtain rfl:u=Value.ref a:=rx
 obtain ⟨t1,t2,_⟩:=Hw I1 d
 refine ⟨t1,t2,?_⟩
 rw [m.trees]
 refine Calls.callWith_builtin rfl (Calls.evalArgs_plain (Calls.spliced_cons (thn (he pins s1 σ H1 _ I1 q1) fun iv s2 ⟨y,H2,I2,ry,q2⟩ =>
  Calls.spliced_cons (thn (hf pins s2 σ H2 _ I2 q2) fun fv s3 ⟨z,H3,I3,rz,ov,g,q3⟩=>Calls.spliced_nil ?_))))
 exact Nz hu I3 g ry rz fun w' s4 I4 rw'=>⟨_,H3,I4,rw',q3⟩
theorem JP (ho:PE X o td) (he:PE X e ty) (m:M1 X o "pop" apos e cpos):PE X (.Call (.Attribute o "pop" apos) [e] [] cpos) (Gu td ty):=by
 intro pins s σ H Q I h
 refine wpAny_Call_method m.base m.few m.line PySem.F.plainAttrs_dict PySem.F.slot_dict_pop PySem.F.type_dict_pop (thn (ho pins s σ H _ I h) fun u s1 ⟨x,H1,I1,rx,a,ex,d,q1⟩=>?_)
 subst ex
 obtain rfl:u=Value.ref a:=rx
 obtain ⟨t1,t2,_⟩:=Hw I1 d
 refine ⟨t1,t2,?_⟩
 rw [m.trees]
 refine Calls.callWith_builtin rfl (Calls.evalArgs_plain (Calls.spliced_cons (thn (he pins s1 σ H1 _ I1 q1) fun iv s2 ⟨y,H2,I2,ry,kvs,k,v,ea,ey,l,q2⟩=>Calls.spliced_nil ?_)))
 subst ey
 exact MJ I2 ea ry l (.inl rfl) fun w' s3 I3 rw'=>⟨v,_,I3,rw',q2⟩
end
section
variable {X:Cx} {pins:List (Addr × Obj)} {σ:St} {H:Hp} {s:Shared} {a:Addr} {kvs:List (Key × V)} {A:Around} {E:Value->Shared->Prop}
end
section
variable {X:Cx} {pins:List (Addr × Obj)} {σ:St} {H:Hp} {s:Shared} {a:Addr} {y:V} {u:Value} {A:Around} {E:Value->Shared->Prop}
end
theorem MU {M:Model} {A:Around} {E:Value->Shared->Prop} {s:Shared} {b:Bool} {Q:Int->Shared->Prop} (h:Q (if b=true then 1 else 0) s):wpAny M A (Builtin.Int.intOfSelf (.bool b)) Q E s:=by
 unfold Builtin.Int.intOfSelf
 exact wpAny_pure h
theorem MP {prog:Program} {w:World} {A:Around} {E:Value->Shared->Prop} {s:Shared} {b:Bool} {Q:Int->Shared->Prop} (h:Q (if b=true then 1 else 0) { s with toks:=s.toks+1 }):wpAny (model prog w) A (pyHash (.bool b)) Q E s:=by
 show wpAny _ _ (pyHashByItsType (.bool b)) _ _ _
 refine PySem.W.pyHash_slot (T:="bool") rfl PySem.F.slot_bool_hash PySem.F.entry_int_hash (PySem.F.args_int_hash_1 _) rfl (.inl rfl) ?_
 unfold Builtin.«int.__hash__» Builtin.Int.intSlot0
 refine wpAny_bind (wpAny_bind ?_)
 show wpAny _ _ (pure (Value.bool b,[])) _ _ _
 refine wpAny_pure (wpAny_bind (MU (wpAny_pure ?_)))
 cases b with
 | true=>exact wpAny_bind (wpAny_mkInt (wpAny_pure ⟨_,_,rfl,h⟩))
 | false=>exact wpAny_bind (wpAny_mkInt (wpAny_pure ⟨_,_,rfl,h⟩))
def FE:Bool->Value->Bool
 | b,.bool c=>b == c
 | _,_=>false
theorem CI {b:Bool} {v:Value} (h:FE b v=true):v=.bool b:=by
 unfold FE at h
 split at h
 ·rw [beq_iff_eq.mp h]
 ·cases h
def DG (prog:Program) (w:World):PySem.KeyKind prog w Bool where
 is:=FE
 hash:=fun b=>if b=true then 1 else 0
 inj:=fun v a b ha hb=>by
  have e1:=CI ha
  have e2:=CI hb
  rw [e1] at e2
  injection e2
 byValue:=fun k v h=>by rw [CI h];rfl
 pyHash:=fun hv h=>by rw [CI hv];exact MP h
 eqBool:=fun {A E s a b u v Q} hu hv h=>by
  rw [CI hu,CI hv]
  refine SeqAt.EqAt.bool_bool a b _ _ _ _ ?_
  have e:(a == b)=decide (a=b):=by cases a <;> cases b <;> rfl
  rw [e];exact h
 «strs»:=fun k x t v h=>by
  have:=CI h
  cases this
abbrev BX:=List (List Bool × Addr × Bool)
def bxv (xs:BX):List (List Bool × Addr × Value):=xs.map fun q=>(q.1,q.2.1,Value.bool q.2.2)
def dB (P:Program) (w:World) (a:Addr) (xs:BX):HO:=.ext fun h=>∃ o es ep,h.get? a=some o/\o.ExactDict/\o.data=.dict es ep/\es.toList=(bxv xs).map (entryOfKey (tupleKind (DG P w)))/\((bxv xs).map (·.1)).Nodup/\xs.length<=sizeLine/\(a == sysModules)=false
def BI (H:Hp) (xs:BX):Prop:=∀ q∈xs,H q.2.1=some (.tup (q.1.map V.bl))
theorem Hn {P:Program} {w:World}:∀ {ks:List Bool} {us:List Value},Vals (ks.map V.bl) us->PySem.ItemsAre (DG P w) ks us
 | [],_,r=>by rw [List.map_nil] at r;cases r;exact .nil
 | k::ks,_,r=>by
  rw [List.map_cons] at r
  cases r with
  | cons h t =>
   refine .cons ?_ (Hn t)
   rw [show _=Value.bool k from h]
   show (k == k)=true
   simp
section
variable {P:Program} {w:World} {H:Hp} {h:Heap} {a:Addr}
theorem ED {ks:List Bool} (ok:HOk P w H h) (e:H a=some (.tup (ks.map V.bl))):(tupleKind (DG P w)).is h ks a:=by
 obtain ⟨_,its,r,o,h1,h2,⟨n,h3⟩,_⟩:=(show ObjOk P w H h a (.tup (ks.map V.bl)) from ok a _ e)
 exact ⟨o,its.toArray,n,h1,h2,h3,by simpa using Hn r⟩
theorem FD {xs:BX} (ok:HOk P w H h) (e:H a=some (dB P w a xs)) (hk:BI H xs):xs.length<=sizeLine/\(a == sysModules)=false/\h.DictOfH (tupleKind (DG P w)) a (bxv xs):=by
 obtain ⟨⟨o,es,ep,h1,h2,h3,h4,h5,h6,h7⟩,_⟩:=(show ObjOk P w H h a (dB P w a xs) from ok a _ e)
 refine ⟨h6,h7,o,es,ep,h1,h2,h3,h4,fun x hx=>?_,h5⟩
 obtain ⟨q,hq,rfl⟩:=List.mem_map.mp hx
 exact ED ok (hk q hq)
theorem HI {xs:BX} {H':Hp} (hl:xs.length<=sizeLine) (hd:(a == sysModules)=false) (dd:h.DictOfH (tupleKind (DG P w)) a (bxv xs)):ObjOk P w H' h a (dB P w a xs):=by
 obtain ⟨o,es,ep,h1,h2,h3,h4,_,h5⟩:=dd
 refine ⟨⟨o,es,ep,h1,h2,h3,h4,h5,hl,hd⟩,⟨o,h1⟩,fun g1 g2 ⟨o,es,ep,h1,h2,h3,h4,h5,h6,h7⟩ k=>⟨o,es,ep,k _ h1,h2,h3,h4,h5,h6,h7⟩⟩
end
def BR (xs:BX) (ks:List Bool):Bool:=xs.any fun q=>decide (q.1=ks)
theorem Eh (xs:BX) (ks:List Bool):(atKey (bxv xs) ks).isSome=BR xs ks:=by
 unfold atKey bxv BR
 induction xs with
 | nil=>rfl
 | cons q r ih =>
  rw [List.map_cons,List.find?_cons,List.any_cons]
  by_cases e:q.1=ks
  ·simp [e]
  ·simp only [e,decide_false,Bool.false_or];exact ih
section
variable {X:Cx} {o i e value:Expr} {pos pos' tpos:Pos} {td ty tv:TE}
def De (P:Program) (w:World):R2:=fun x y H Q=>match x,y with
 | .ref b,.ref a=>∃ xs ks,H b=some (.tup (ks.map V.bl))/\H a=some (dB P w a xs)/\BI H xs/\Q (.bl (!BR xs ks)) H
 | _,_=>False
theorem LV (hu:X.A.units+60 < cLine):OpR X (compareOp .NotIn) (De X.prog X.w):=by
 intro pins s σ H x y v u Q I rx ry q
 cases x <;> cases y <;> first
  | exact False.elim q
  | (obtain ⟨xs,ks,h1,h2,h3,q⟩:=q
     cases (show v=Value.ref _ from rx)
     cases (show u=Value.ref _ from ry)
     obtain ⟨z,hd,dd⟩:=FD I.hok h2 h3
     refine wpAny_notIn_heap (tupleKind_room_in1 (by lia)) (ED I.hok h1) hd dd ?_
     rw [Eh]
     exact ⟨.bl (!BR xs ks),H,I.tok _,rfl,q⟩)
def Dh (P:Program) (w:World):R2:=fun x y H Q=>match x,y with
 | .ref a,.ref b=>∃ xs ks c v,H b=some (.tup (ks.map V.bl))/\H a=some (dB P w a xs)/\BI H xs/\atKey (bxv xs) ks=some (c,.bool v)/\Q (.bl v) H
 | _,_=>False
theorem Jw (hu:X.A.units+60 < cLine) (ho:PE X o td) (hi:PE X i ty) (hs:Dq i:=by intro _ _;rfl):PE X (.Subscript o i pos) (tOp (Dh X.prog X.w) td ty):=by
 intro pins s σ H Q I h
 refine GS PySem.F.slot_dict_getitem.lookup hs (thn (ho pins s σ H _ I h) fun u s1 ⟨x,H1,I1,rx,q1⟩=>thn (hi pins s1 σ H1 _ I1 q1) fun iv s2 ⟨y,H2,I2,ry,q⟩=>?_)
 cases x <;> cases y <;> first
  | exact False.elim q
  | (obtain ⟨xs,ks,c,v,h1,h2,h3,h4,q⟩:=q
     cases (show u=Value.ref _ from rx)
     cases (show iv=Value.ref _ from ry)
     obtain ⟨z,hd,dd⟩:=FD I2.hok h2 h3
     exact ⟨dd.typeIs,wpAny_getItem_heap (tupleKind_room_in1 (by lia)) (ED I2.hok h1) dd h4 ⟨.bl v,H2,I2.tok _,rfl,q⟩⟩)
def D2 (P:Program) (w:World):CD:=fun o i v H Q=>match o,i,v with
 | .ref a,.ref b,.bl v=>∃ xs ks,H b=some (.tup (ks.map V.bl))/\H a=some (dB P w a xs)/\BI H xs/\BR xs ks=false/\xs.length < sizeLine/\Q (upd H a (dB P w a (xs++[(ks,b,v)])))
 | _,_,_=>False
theorem Nw (hu:X.A.units+60 < cLine):C3 X (D2 X.prog X.w):=by
 intro pins s σ H o i v ov iv u Q I ro ri rv h
 cases o <;> cases i <;> cases v <;> first
  | exact False.elim h
  | (obtain ⟨xs,ks,h1,h2,h3,h4,h5,q⟩:=h
     cases (show ov=Value.ref _ from ro)
     cases (show iv=Value.ref _ from ri)
     cases (show u=Value.bool _ from rv)
     obtain ⟨z,hd,dd⟩:=FD I.hok h2 h3
     refine wpAny_setItem_heap (hsz:=by unfold bxv;rw [List.length_map];exact z) (tupleKind_room_in1 (by lia)) (ED I.hok h1) dd fun h' dd' hs=>?_
     rw [show storedH (bxv xs) ks _ _=bxv (xs++[(ks,_,_)]) by
      unfold storedH
      rw [Eh,h4,if_neg (by decide)]
      unfold bxv
      rw [List.map_append];rfl] at dd'
     have he:∃ q,h'.get? _=some q:=let ⟨q,_,_,hq,_⟩:=dd';⟨q,hq⟩
     exact ⟨_,EE I (by rw [h2];exact True.intro) hs he (HI (by rw [List.length_append];exact h5) hd dd'),q⟩)
def FT (P:Program) (w:World):TE:=fun _ H Q=>∀ p,H p=none->Q (.ref p) (upd H p (dB P w p []))
theorem MT {pos:Pos}:PE X (.Dict [] [] pos) (FT X.prog X.w):=fun pins s σ H Q I h =>
 wpAny_Dict_empty ⟨.ref s.heap.objs.size,_,I.laid (a:=s.heap.objs.size) (o:=dB X.prog X.w s.heap.objs.size []) (t':=s.toks) (fun _ _ q=>Heap.get?_push_of_some _ q) (Nat.le_refl _)
  (HI (Nat.zero_le _) (beq_eq_false_iff_ne.mpr (Ne.symm (Nat.ne_of_lt I.big))) ⟨_,#[],0,Heap.get?_push_size _ rfl,⟨rfl,rfl,rfl⟩,rfl,rfl,(fun x hx=>by cases hx),List.nodup_nil⟩),rfl,h _ (I.hok.fresh (Nat.le_refl _))⟩
end
section
variable {X:Cx} {P:Program} {w:World} {o i:Expr} {pos:Pos} {td ty:TE}
theorem J2 (hP:X.prog=P:=by rfl) (hw:X.w=w:=by rfl):PE X (.Dict [] [] pos) (FT P w):=by subst hP hw;exact MT
theorem Ik (hu:X.A.units+60 < cLine) (hP:X.prog=P:=by rfl) (hw:X.w=w:=by rfl):OpR X (compareOp .NotIn) (De P w):=by subst hP hw;exact LV hu
theorem JQ (hu:X.A.units+60 < cLine) (ho:PE X o td) (hi:PE X i ty) (hs:Dq i:=by intro _ _;rfl) (hP:X.prog=P:=by rfl) (hw:X.w=w:=by rfl):PE X (.Subscript o i pos) (tOp (Dh P w) td ty):=by subst hP hw;exact Jw hu ho hi hs
theorem Ny (hu:X.A.units+60 < cLine) (hP:X.prog=P:=by rfl) (hw:X.w=w:=by rfl):C3 X (D2 P w):=by subst hP hw;exact Nw hu
end
theorem Lz {P w}:BE (De P w):=fun x y H Q Q' h q=>by
 unfold De at *
 split at q
 ·obtain ⟨xs,ks,a,b,c,q⟩:=q;exact ⟨xs,ks,a,b,c,h _ _ q⟩
 ·exact q.elim
theorem La {P w}:BE (Dh P w):=fun x y H Q Q' h q=>by
 unfold Dh at *
 split at q
 ·obtain ⟨xs,ks,c,v,a,b,d,e,q⟩:=q;exact ⟨xs,ks,c,v,a,b,d,e,h _ _ q⟩
 ·exact q.elim
theorem N6 {P w}:EL (D2 P w):=fun o i v H Q Q' h q=>by
 unfold D2 at *
 split at q
 ·obtain ⟨xs,ks,a,b,c,d,e,q⟩:=q;exact ⟨xs,ks,a,b,c,d,e,h _ q⟩
 ·exact q.elim
theorem Jj {P w}:AM (FT P w):=fun σ H Q Q' h q=>fun p hp=>h _ _ (q p hp)
section
variable {X:Cx} {K:W.Frag} {o:Expr} {to:TE} {apos cpos:Pos}
end
section
variable {X:Cx}
end
section
variable {X:Cx} {K:W.Frag}
end
section
variable {X:Cx} {pins:List (Addr × Obj)} {σ:St} {H:Hp} {s:Shared}
end
section
variable {X:Cx} {K:W.Frag}
end
open AutoSeq1 (wpAny_loadPart')
section
variable {prog:Program} {w:World} {A:Around} {E:Value->Shared->Prop} {s:Shared}
end
section
variable {X:Cx}
end
structure Feed (H:Hp) (t:Addr):Prop where
 at_:∃ a b k c:Int,0<=a/\H t=some (.lst [.int a,.int b,.int k,.int c])
theorem Feed.same {H H':Hp} {t:Addr} (F:Feed H t) (h:Same H H'):Feed H' t:=by
 obtain ⟨a,b,k,c,h1,h2⟩:=F.at_
 exact ⟨a,b,k,c,h1,h _ _ h2⟩
theorem Feed.upd {H:Hp} {t p:Addr} {o:HO} (F:Feed H t) (h:H p=none):Feed (L2.upd H p o) t:=F.same (Same.upd h)
theorem M9 (a b:Nat):(a &&& b) / 2=a / 2 &&& b / 2:=by
 have:=Nat.and_div_two_pow (a:=a) (b:=b) (n:=1)
 simpa using this
theorem IA (a b:Nat):(a ^^^ b) / 2=a / 2 ^^^ b / 2:=by
 have:=Nat.xor_div_two_pow (a:=a) (b:=b) (n:=1)
 simpa using this
theorem Ht (a b:Nat):(a &&& b) % 2=a % 2 * (b % 2)/\(a ^^^ b) % 2=(a % 2+b % 2) % 2/\(a ||| b) % 2=a % 2+b % 2 - a % 2 * (b % 2):=by
 have h1:=Nat.and_mod_two_pow (a:=a) (b:=b) (n:=1)
 have h2:=Nat.xor_mod_two_pow (a:=a) (b:=b) (n:=1)
 have h3:=Nat.or_mod_two_pow (a:=a) (b:=b) (n:=1)
 rw [Nat.pow_one] at h1 h2 h3
 rw [h1,h2,h3]
 have ha:a % 2=0\/a % 2=1:=by lia
 have hb:b % 2=0\/b % 2=1:=by lia
 rcases ha with ha | ha <;> rcases hb with hb | hb <;> rw [ha,hb] <;> decide
theorem NF:∀ a b:Nat,(a ^^^ b)+2 * (a &&& b)=a+b:=by
 intro a
 induction a using Nat.strongRecOn with
 | ind a ih =>
  intro b
  by_cases h0:a=0
  ·subst h0;simp
  ·have i:=ih (a / 2) (by lia) (b / 2)
   rw [<- IA,<- M9] at i
   obtain ⟨l1,l2,_⟩:=Ht a b
   have ha:a % 2=0\/a % 2=1:=by lia
   have hb:b % 2=0\/b % 2=1:=by lia
   rcases ha with ha | ha <;> rcases hb with hb | hb <;> rw [ha,hb] at l1 l2 <;> lia
theorem Ig (a b:Nat):Builtin.bitAnd (a:Int) (b:Int)=((a &&& b:Nat):Int):=by
 unfold Builtin.bitAnd
 rw [decide_eq_true (Int.natCast_nonneg a),decide_eq_true (Int.natCast_nonneg b)]
 rfl
theorem Jr (a b:Nat):Builtin.bitXor (a:Int) (b:Int)=((a ^^^ b:Nat):Int):=by
 rw [PyProof.Rows.bitXor_and,Ig]
 have:=NF a b
 lia
theorem K1 {H0 H:Hp} {t:Addr} {o:HO} (s:Same H0 H) (ht:H0 t=none):Same H0 (upd H t o):=fun b u e=>by
 rw [AG (BG e ht)];exact s b u e
def AE (f:Nat->Int):Nat->Int
 | 0=>0
 | n+1=>AE f n+f n
theorem Ac {f g:Nat->Int}:∀ {n:Nat},(∀ j,j < n->f j=g j)->AE f n=AE g n
 | 0,_=>rfl
 | n+1,h=>by
  show AE f n+f n=AE g n+g n
  rw [Ac fun j hj=>h j (Nat.lt_succ_of_lt hj),h n (Nat.lt_succ_self n)]
theorem HF (f g:Nat->Int):∀ n,AE f n+AE g n=AE (fun j=>f j+g j) n
 | 0=>rfl
 | n+1=>by
  show AE f n+f n+(AE g n+g n)=AE (fun j=>f j+g j) n+(f n+g n)
  rw [<- HF f g n];lia
theorem Bf (c:Int) (f:Nat->Int):∀ n,c * AE f n=AE (fun j=>c * f j) n
 | 0=>by show c * 0=0;lia
 | n+1=>by
  show c * (AE f n+f n)=AE (fun j=>c * f j) n+c * f n
  rw [<- Bf c f n,Int.mul_add]
theorem LN (c:Int) (f:Nat->Int) (n:Nat):AE f n * c=AE (fun j=>f j * c) n:=by
 rw [Int.mul_comm,Bf]
 exact Ac fun j _=>Int.mul_comm _ _
theorem Ev:∀ n,AE (fun _=>0) n=0
 | 0=>rfl
 | n+1=>by show AE (fun _=>0) n+0=0;rw [Ev n];rfl
theorem Ho (c:Int):∀ n,AE (fun _=>c) n=n * c
 | 0=>by show (0:Int)=((0:Nat):Int) * c;simp
 | n+1=>by
  show AE (fun _=>c) n+c=_
  rw [Ho c n,Int.natCast_add,Int.add_mul];simp
theorem Ex (f:Nat->Nat->Int) (m:Nat):∀ n,AE (fun i=>AE (fun j=>f i j) m) n=AE (fun j=>AE (fun i=>f i j) n) m
 | 0=>by show (0:Int)=AE (fun _=>0) m;rw [Ev]
 | n+1=>by
  show AE (fun i=>AE (fun j=>f i j) m) n+AE (fun j=>f n j) m=AE (fun j=>AE (fun i=>f i j) n+f n j) m
  rw [Ex f m n,HF]
theorem EG (g:Nat->Int) (x:Nat):∀ n,AE (fun y=>if x=y then g y else 0) n=if x < n then g x else 0
 | 0=>by simp [AE]
 | n+1=>by
  show AE (fun y=>if x=y then g y else 0) n+(if x=n then g n else 0)=_
  rw [EG g x n]
  by_cases h:x=n
  ·subst h;rw [if_neg (by lia),if_pos rfl,if_pos (by lia)];lia
  ·by_cases h2:x < n
   ·rw [if_pos h2,if_neg h,if_pos (by lia)];lia
   ·rw [if_neg h2,if_neg h,if_neg (by lia)];rfl
theorem GN (f:Nat->Int):∀ m,AE f (2 * m)=AE (fun j=>f (2 * j)+f (2 * j+1)) m
 | 0=>rfl
 | m+1=>by
  show AE f (2 * m)+f (2 * m)+f (2 * m+1)=AE (fun j=>f (2 * j)+f (2 * j+1)) m+(f (2 * m)+f (2 * m+1))
  rw [GN f m];lia
def chi:Nat->Nat->Nat->Int
 | 0,_,_=>1
 | n+1,a,b=>(if a % 2=1/\b % 2=1 then -1 else 1) * chi n (a / 2) (b / 2)
theorem Bl:∀ n a b,chi n a b=chi n b a
 | 0,_,_=>rfl
 | n+1,a,b=>by
  show _ * chi n (a / 2) (b / 2)=_ * chi n (b / 2) (a / 2)
  rw [Bl n]
  congr 1
  by_cases h:a % 2=1/\b % 2=1
  ·rw [if_pos h,if_pos ⟨h.2,h.1⟩]
  ·rw [if_neg h,if_neg fun z=>h ⟨z.2,z.1⟩]
theorem EO:∀ n a b c,chi n a (b ^^^ c)=chi n a b * chi n a c
 | 0,_,_,_=>rfl
 | n+1,a,b,c=>by
  show _ * chi n (a / 2) ((b ^^^ c) / 2)=(_ * chi n (a / 2) (b / 2)) * (_ * chi n (a / 2) (c / 2))
  rw [IA,EO n]
  generalize chi n (a / 2) (b / 2)=x
  generalize chi n (a / 2) (c / 2)=y
  have e:=(Ht b c).2.1
  have ha:a % 2=0\/a % 2=1:=by lia
  have hb:b % 2=0\/b % 2=1:=by lia
  have hc:c % 2=0\/c % 2=1:=by lia
  rw [e]
  rcases ha with ha | ha <;> rcases hb with hb | hb <;> rcases hc with hc | hc <;> rw [ha,hb,hc] <;> simp [Int.mul_neg,Int.neg_mul]
theorem chi_one:∀ n a b,chi n a b=1\/chi n a b = -1
 | 0,_,_=>.inl rfl
 | n+1,a,b=>by
  show _ * chi n (a / 2) (b / 2)=1\/_ * chi n (a / 2) (b / 2) = -1
  rcases chi_one n (a / 2) (b / 2) with h | h <;> rw [h] <;> by_cases g:a % 2=1/\b % 2=1 <;> simp [g]
theorem GK:∀ n a,chi n a 0=1
 | 0,_=>rfl
 | n+1,a=>by
  show (if a % 2=1/\0 % 2=1 then -1 else 1) * chi n (a / 2) (0 / 2)=1
  rw [if_neg (by lia),Nat.zero_div,GK n];rfl
theorem Eo:∀ n b,b < 2 ^ n->AE (fun a=>chi n a b) (2 ^ n)=if b=0 then ((2 ^ n:Nat):Int) else 0
 | 0,b,h=>by
  have:b=0:=by simpa using h
  subst this;rfl
 | n+1,b,h=>by
  rw [Nat.pow_succ,Nat.mul_comm,GN]
  have e:∀ j,chi (n+1) (2 * j) b+chi (n+1) (2 * j+1) b=(if b % 2=1 then 0 else 2) * chi n j (b / 2):=fun j=>by
   show (if 2 * j % 2=1/\b % 2=1 then -1 else 1) * chi n (2 * j / 2) (b / 2)+(if (2 * j+1) % 2=1/\b % 2=1 then -1 else 1) * chi n ((2 * j+1) / 2) (b / 2)=_
   rw [show 2 * j / 2=j by lia,show (2 * j+1) / 2=j by lia,if_neg (by lia)]
   by_cases hb:b % 2=1
   ·rw [if_pos ⟨by lia,hb⟩,if_pos hb];lia
   ·rw [if_neg (fun z=>hb z.2),if_neg hb];lia
  rw [Ac (g:=fun j=>(if b % 2=1 then 0 else 2) * chi n j (b / 2)) fun j _=>e j,<- Bf,Eo n (b / 2) (by rw [Nat.pow_succ] at h;lia)]
  by_cases hb:b % 2=1
  ·rw [if_pos hb,Int.zero_mul,if_neg (by lia)]
  ·rw [if_neg hb]
   by_cases h0:b=0
   ·subst h0;simp [Int.natCast_mul]
   ·rw [if_neg (by lia),if_neg h0];rfl
theorem xor_eq_zero {a b:Nat}:a ^^^ b=0 ↔ a=b:=by
 constructor
 ·intro h
  have:=congrArg (fun z=>z ^^^ b) h
  simpa [Nat.xor_assoc] using this
 ·intro h;subst h;exact Nat.xor_self a
def wt (n:Nat) (v:Nat->Int) (s:Nat):Int:=AE (fun p=>chi n s p * v p) (2 ^ n)
theorem FA (n:Nat) (a b:Nat->Int):AE (fun s=>wt n a s * wt n b s) (2 ^ n)=((2 ^ n:Nat):Int) * AE (fun x=>a x * b x) (2 ^ n):=by
 have e1:∀ s,wt n a s * wt n b s=AE (fun x=>AE (fun y=>(a x * b y) * chi n s (x ^^^ y)) (2 ^ n)) (2 ^ n):=fun s=>by
  unfold wt
  rw [LN]
  refine Ac fun x _=>?_
  rw [Bf]
  refine Ac fun y _=>?_
  rw [EO]
  ac_rfl
 rw [Ac fun s _=>e1 s,Ex,Bf]
 refine Ac fun x hx=>?_
 rw [Ex]
 have e2:∀ y,y < 2 ^ n->AE (fun s=>a x * b y * chi n s (x ^^^ y)) (2 ^ n)=if x=y then ((2 ^ n:Nat):Int) * (a x * b y) else 0:=fun y hy=>by
  rw [<- Bf,Eo n _ (Nat.xor_lt_two_pow hx hy)]
  by_cases h:x=y
  ·rw [if_pos (xor_eq_zero.mpr h),if_pos h,Int.mul_comm]
  ·rw [if_neg (fun z=>h (xor_eq_zero.mp z)),if_neg h,Int.mul_zero]
 rw [Ac e2,EG (fun y=>((2 ^ n:Nat):Int) * (a x * b y)),if_pos hx]
theorem J9 (n:Nat) (u v:Nat->Int) (t:Nat):AE (fun s=>wt n u s * wt n v (s ^^^ t)) (2 ^ n)=((2 ^ n:Nat):Int) * wt n (fun x=>u x * v x) t:=by
 have e:∀ s,wt n v (s ^^^ t)=wt n (fun x=>chi n t x * v x) s:=fun s=>by
  unfold wt
  refine Ac fun p _=>?_
  rw [Bl,EO,Bl n p s,Bl n p t,Int.mul_assoc]
 rw [Ac (g:=fun s=>wt n u s * wt n (fun x=>chi n t x * v x) s) fun s _=>by rw [e s],FA]
 congr 1
 unfold wt
 exact Ac fun x _=>by rw [Int.mul_left_comm]
theorem Jl (n:Nat) (v:Nat->Int) (p:Nat) (hp:p < 2 ^ n):AE (fun s=>chi n s p * wt n v s) (2 ^ n)=((2 ^ n:Nat):Int) * v p:=by
 have e:AE (fun s=>chi n s p * wt n v s) (2 ^ n)=AE (fun s=>wt n (fun x=>if p=x then 1 else 0) s * wt n v s) (2 ^ n):=Ac fun s _=>by
  congr 1
  unfold wt
  rw [Ac (g:=fun y=>if p=y then chi n s y else 0) fun y _=>by by_cases h:p=y <;> simp [h],EG,if_pos hp]
 rw [e,FA]
 congr 1
 rw [Ac (g:=fun y=>if p=y then v y else 0) fun y _=>by by_cases h:p=y <;> simp [h],EG,if_pos hp]
def hs (v:Nat->Int) (s k:Nat):Int:=AE (fun j=>chi s (k % 2 ^ s) j * v (k / 2 ^ s * 2 ^ s+j)) (2 ^ s)
theorem GH {m:Nat} {u v:Nat->Int} (h:∀ p,p < 2 ^ m->u p=v p) (s:Nat):wt m u s=wt m v s:=Ac fun p hp=>by rw [h p hp]
def Da:Nat->Nat->Nat
 | 0,_=>0
 | f+1,x=>x % 2+Da f (x / 2)
@[irreducible] def many (x:Nat):Nat:=Da 64 x
def ixL (g:Nat->Int) (M:Nat):List V:=(List.range M).map fun i=>V.int (g i)
theorem ixL_len {g:Nat->Int} {M:Nat}:(ixL g M).length=M:=by unfold ixL;simp
theorem DY {g:Nat->Int} {M k:Nat} (h:k < M):(ixL g M)[k]? = some (.int (g k)):=by unfold ixL;rw [List.getElem?_map,List.getElem?_range h];rfl
theorem Hu {g:Nat->Int} {M k:Nat} (h:k < M):atI (ixL g M) (k:Int)=some (.int (g k)):=C0 rfl (DY h)
theorem GI (g:Nat->Int) (M:Nat):ixL g (M+1)=ixL g M++[V.int (g M)]:=by unfold ixL;rw [List.range_succ,List.map_append];rfl
theorem MM {f g:Nat->Int} {M:Nat} (h:∀ k,k < M->f k=g k):ixL f M=ixL g M:=by
 unfold ixL
 exact List.map_congr_left fun k hk=>by rw [h k (List.mem_range.mp hk)]
theorem LL {g:Nat->Int} {M i:Nat} {z:Int}:(ixL g M).set i (.int z)=ixL (fun k=>if k=i then z else g k) M:=by
 refine List.ext_getElem? fun k=>?_
 rw [List.getElem?_set,ixL_len]
 by_cases hk:k < M
 ·rw [DY hk]
  by_cases e:i=k
  ·subst e;rw [if_pos rfl,if_pos hk,DY hk,if_pos rfl]
  ·rw [if_neg e,DY hk,if_neg (Ne.symm e)]
 ·have n1:(ixL g M)[k]? = none:=List.getElem?_eq_none (by rw [ixL_len];lia)
  have n2:(ixL (fun k=>if k=i then z else g k) M)[k]? = none:=List.getElem?_eq_none (by rw [ixL_len];lia)
  rw [n1,n2]
  split
  ·split
   ·lia
   ·rfl
  ·rfl
def Bd (b:Bool):Int:=if b=true then -1 else 1
def Aq (bs:List Bool) (p:Nat):Int:=Bd (bs.getD p false)
def AH (g:Nat->Int):Nat->List (Nat × Int)
 | 0=>[]
 | i+1=>AH g i++(if g i=0 then [] else [(i,g i)])
theorem Dr (g:Nat->Int):∀ n,(AH g n).length<=n
 | 0=>Nat.le_refl _
 | n+1=>by
  unfold AH
  rw [List.length_append]
  have:=Dr g n
  split
  ·rw [List.length_nil];lia
  ·rw [List.length_singleton];lia
theorem Bh {g:Nat->Int}:∀ {n:Nat} {q:Nat × Int},q∈AH g n->q.1 < n/\q.2=g q.1/\q.2≠0
 | 0,q,h=>by cases h
 | n+1,q,h=>by
  rcases List.mem_append.mp h with h | h
  ·have:=Bh h;exact ⟨by lia,this.2⟩
  ·split at h
   ·cases h
   ·rename_i hn
    rw [List.mem_singleton.mp h]
    exact ⟨Nat.lt_succ_self n,rfl,hn⟩
def BA (q:Nat × Int):Dv:=.tup [.int q.1,.int q.2]
def CP (m:Nat) (ts:List (Nat × Int)):Dv:=.tup [.int m,.tup (ts.map BA)]
structure SumAt (K:W.Frag) (H:Hp) (v:V) (m:Nat) (ts:List (Nat × Int)):Prop where
 at_:∃ (a b:Addr) (vs:List V),v=.ref a/\SqT K H a [.int m,.ref b]/\SqT K H b vs/\Reps K H (ts.map BA) vs
theorem SumAt.of {K:W.Frag} {H:Hp} {v:V} {m:Nat} {ts:List (Nat × Int)} (h:Rep K H (CP m ts) v):SumAt K H v m ts:=by
 unfold CP Rep at h
 obtain ⟨a,xs,rfl,ha,hr⟩:=h
 unfold Reps at hr
 obtain ⟨x,r,rfl,h1,hr⟩:=hr
 unfold Rep at h1;subst h1
 unfold Reps at hr
 obtain ⟨x,r,rfl,h2,hr⟩:=hr
 unfold Reps at hr;subst hr
 unfold Rep at h2
 obtain ⟨b,vs,rfl,hb,hr⟩:=h2
 exact ⟨a,b,vs,rfl,ha,hb,hr⟩
theorem SumAt.rep {K:W.Frag} {H:Hp} {v:V} {m:Nat} {ts:List (Nat × Int)} (h:SumAt K H v m ts):Rep K H (CP m ts) v:=by
 obtain ⟨a,b,vs,rfl,ha,hb,hr⟩:=h.at_
 unfold CP Rep
 refine ⟨a,_,rfl,ha,A1 CB (A1 ?_ BN)⟩
 unfold Rep
 exact ⟨b,vs,rfl,hb,hr⟩
theorem SumAt.same {K:W.Frag} {H H':Hp} {v:V} {m:Nat} {ts:List (Nat × Int)} (h:SumAt K H v m ts) (s:Same H H'):SumAt K H' v m ts:=.of (Rep.same s _ _ h.rep)
theorem Do {K:W.Frag} {H:Hp} {ts:List (Nat × Int)} {vs:List V} {i:Nat} {v:V} (h:Reps K H (ts.map BA) vs) (e:vs[i]? = some v):∃ q c,ts[i]? = some q/\v=.ref c/\SqT K H c [.int q.1,.int q.2]:=by
 have hl:=h.length
 have hi:i < ts.length:=by
  have:=(List.getElem?_eq_some_iff.mp e).1
  rw [List.length_map] at hl;lia
 have e1:(ts.map BA)[i]? = some (BA ts[i]):=by rw [List.getElem?_map,List.getElem?_eq_getElem hi];rfl
 obtain ⟨x,e2,hx⟩:=h.get e1
 rw [e] at e2
 cases e2
 unfold BA Rep at hx
 obtain ⟨c,xs,rfl,hc,hr⟩:=hx
 unfold Reps at hr
 obtain ⟨x,r,rfl,h1,hr⟩:=hr
 unfold Rep at h1;subst h1
 unfold Reps at hr
 obtain ⟨x,r,rfl,h2,hr⟩:=hr
 unfold Rep at h2;subst h2
 unfold Reps at hr;subst hr
 exact ⟨ts[i],c,List.getElem?_eq_getElem hi,rfl,hc⟩
theorem Hj {f:Nat->Int}:∀ {n:Nat},(∀ j,j < n->f j=1\/f j = -1) -> -(n:Int)<=AE f n/\AE f n<=n
 | 0,_=>⟨Int.le_refl _,Int.le_refl _⟩
 | n+1,h=>by
  have i:=Hj fun j hj=>h j (Nat.lt_succ_of_lt hj)
  show -((n+1:Nat):Int)<=AE f n+f n/\AE f n+f n<=((n+1:Nat):Int)
  rcases h n (Nat.lt_succ_self n) with e | e <;> rw [e] <;> lia
theorem K4 (m:Nat) (bs:List Bool) (s:Nat) : -((2 ^ m:Nat):Int)<=wt m (Aq bs) s/\wt m (Aq bs) s<=((2 ^ m:Nat):Int):=by
 unfold wt
 refine Hj fun j _=>?_
 rcases chi_one m s j with h | h <;> rw [h] <;> unfold Aq Bd <;> cases bs.getD j false <;> decide
def JT (g:Nat->Int):Prop:=∀ k,-64<=g k/\g k<=64
theorem OH {m:Nat} (m6:m<=6) (bs:List Bool):JT (wt m (Aq bs)):=fun k=>by
 have:=K4 m bs k
 have h64:2 ^ m<=64:=Nat.pow_le_pow_right (n:=2) (by decide) m6
 lia
theorem D4:∀ ts:List (Nat × Int),BB (ts.map BA)=true
 | []=>by unfold BB;rfl
 | q::ts=>by
  rw [List.map_cons]
  unfold BB
  rw [D4 ts]
  unfold BA Bt BB Bt BB Bt BB
  rfl
theorem Feed.lst {H:Hp} {t:Addr} (F:Feed H t):∃ zs,H t=some (.lst zs):=by
 obtain ⟨a,b,k,c,_,h⟩:=F.at_
 exact ⟨_,h⟩
theorem D8 {g:Nat->Int}:∀ {n s:Nat},s < n->g s≠0->(s,g s)∈AH g n
 | 0,s,h,_=>by lia
 | n+1,s,h,hg=>by
  show (s,g s)∈AH g n++_
  by_cases e:s=n
  ·subst e
   rw [if_neg hg]
   exact List.mem_append_right _ (List.mem_singleton.mpr rfl)
  ·exact List.mem_append_left _ (D8 (by lia) hg)
section
variable {X:Cx} {K:W.Frag}
end
def Nb (x:Int) (k:Nat):Prop:=x.natAbs < 2 ^ k
theorem Nb.mul {x y:Int} {a b:Nat} (hx:Nb x a) (hy:Nb y b):Nb (x * y) (a+b):=by
 unfold Nb at *
 rw [Int.natAbs_mul,Nat.pow_add]
 exact Nat.mul_lt_mul'' hx hy
theorem Nb.up {x:Int} {a b:Nat} (hx:Nb x a) (h:a<=b):Nb x b:=Nat.lt_of_lt_of_le hx (Nat.pow_le_pow_right (by decide) h)
theorem Nb.pow {x:Int} {a:Nat} (hx:Nb x a):∀ i,Nb (x ^ i) (a * i+1)
 | 0=>by unfold Nb;rw [Int.pow_zero];show 1 < 2 ^ (a * 0+1);rw [Nat.mul_zero];decide
 | i+1=>by
  rw [Int.pow_succ]
  have:=(hx.pow i).mul hx
  rw [show a * (i+1)+1=a * i+1+a by rw [Nat.mul_succ];lia]
  exact this
theorem Nb.okMul {x y:Int} (hx:Nb x 4000) (hy:Nb y 4000):okMul x y:=.inl ⟨hx.up (by decide),hy.up (by decide)⟩
def A8:List (Nat × Int)->(Nat->Int)->Nat->Int
 | [],f=>f
 | q::ts,f=>A8 ts fun j=>if j=q.1 then q.2 else f j
theorem FV:∀ (xs ys:List (Nat × Int)) (f:Nat->Int),A8 (xs++ys) f=A8 ys (A8 xs f)
 | [],_,_=>rfl
 | x::xs,ys,f=>FV xs ys _
theorem MH {ts:List (Nat × Int)} {i:Nat} {q:Nat × Int} {f:Nat->Int} (h:ts[i]? = some q):A8 (ts.take (i+1)) f=fun j=>if j=q.1 then q.2 else A8 (ts.take i) f j:=by
 rw [List.take_add_one,h,FV]
 rfl
theorem Ef (g:Nat->Int):∀ (n j:Nat),A8 (AH g n) (fun _=>0) j=if j < n then g j else 0
 | 0,j=>by simp [AH,A8]
 | n+1,j=>by
  show A8 (AH g n++(if g n=0 then [] else [(n,g n)])) (fun _=>0) j=_
  rw [FV]
  by_cases h:g n=0
  ·rw [if_pos h]
   show A8 (AH g n) (fun _=>0) j=_
   rw [Ef g n j]
   by_cases e:j=n
   ·subst e;rw [if_neg (by lia),if_pos (by lia),h]
   ·by_cases l:j < n
    ·rw [if_pos l,if_pos (by lia)]
    ·rw [if_neg l,if_neg (by lia)]
  ·rw [if_neg h]
   show (if j=n then g n else A8 (AH g n) (fun _=>0) j)=_
   by_cases e:j=n
   ·subst e;rw [if_pos rfl,if_pos (by lia)]
   ·rw [if_neg e,Ef g n j]
    by_cases l:j < n
    ·rw [if_pos l,if_pos (by lia)]
    ·rw [if_neg l,if_neg (by lia)]
def Dl (H:Hp) (Q:VK) (xs:List V):Prop:=∀ p H',H p=none->Same H H'->H' p=some (.lst xs)->Q (.ref p) H'
theorem BJ {H:Hp} {Q Q':VK} {xs:List V} (h:∀ v H,Q v H->Q' v H) (q:Dl H Q xs):Dl H Q' xs:=fun p H' a b c=>h _ _ (q p H' a b c)
theorem NN (n:Nat):(List.replicate n [V.int 0]).flatten=ixL (fun _=>0) n:=by
 induction n with
 | zero=>rfl
 | succ n ih=>rw [List.replicate_succ',List.flatten_append,ih,GI];rfl
theorem EK (m:Nat) (v:Nat->Int) (p:Nat) (hp:p < 2 ^ m):wt m (wt m v) p=((2 ^ m:Nat):Int) * v p:=by
 rw [<- Jl m v p hp]
 show AE (fun s=>chi m p s * wt m v s) (2 ^ m)=_
 exact Ac fun s _=>by rw [Bl]
theorem Nf {td ty:TE} (h1:AM td) (h2:AM ty):AM (II td ty):=fun σ H Q Q' h q=>h1 _ _ _ _ (fun _ _ q=>h2 _ _ _ _ (fun _ _ ⟨a,v,e,g,q⟩=>⟨a,v,e,g,h _ _ q⟩) q) q
theorem NP {td ty tx:TE} (h1:AM td) (h2:AM ty) (h3:AM tx):AM (GG td ty tx):=fun σ H Q Q' h q=>h1 _ _ _ _ (fun _ _ ⟨a,e,d,q⟩=>⟨a,e,d,h2 _ _ _ _ (fun _ _ q=>h3 _ _ _ _ (fun _ _ ⟨o,g,q⟩=>⟨o,g,h _ _ q⟩) q) q⟩) q
theorem Lo {td ty tv:TE} (h1:AM td) (h2:AM ty) (h3:AM tv):Az (GQ td ty tv):=fun D D' σ H h q=>h3 _ _ _ _ (fun _ _ q=>h1 _ _ _ _ (fun _ _ q=>h2 _ _ _ _ (fun _ _ ⟨a,H4,e,g,q⟩=>⟨a,H4,e,g,h.nx _ _ q⟩) q) q) q
theorem Ay {A:Around} (h:A.units+60 < cLine):A.units+1 < cLine:=by lia
theorem HS:∀ (s x y:Nat),chi (s+1) x y=chi s x y * (if ((x / 2 ^ s % 2 == 1) && (y / 2 ^ s % 2 == 1))=true then -1 else 1)
 | 0,x,y=>by
  show (if x % 2=1/\y % 2=1 then -1 else 1) * 1=1 * _
  rw [Nat.pow_zero,Nat.div_one,Nat.div_one,Int.mul_one,Int.one_mul]
  by_cases h:x % 2=1/\y % 2=1
  ·rw [if_pos h,if_pos (by simp [h.1,h.2])]
  ·rw [if_neg h,if_neg (by simpa using h)]
 | s+1,x,y=>by
  show (if x % 2=1/\y % 2=1 then -1 else 1) * chi (s+1) (x / 2) (y / 2)=(if x % 2=1/\y % 2=1 then -1 else 1) * chi s (x / 2) (y / 2) * _
  rw [HS s (x / 2) (y / 2),<- Int.mul_assoc,Nat.div_div_eq_div_mul,Nat.div_div_eq_div_mul,Nat.pow_succ,Nat.mul_comm 2 (2 ^ s)]
end L2
namespace HT
open PySem PyProof.Rows
section
variable {prog:Program} {w:World} {A:Around} {E:Value->Shared->Prop} {s:Shared}
end
end HT
namespace L2
open PySem PySem.Spec PyProof.Rows
section
variable {X:Cx} {K:W.Frag} {e sx:Expr} {te ts:TE} {lo hi:Option Expr} {tl th:TO} {pos p2:Pos}
end
structure GFeed (H:Hp) (t:Addr) (N:Nat):Prop where
 at_:∃ (l:Addr) (i g c:Int) (ns:List Int),0<=i/\0<=g/\0<=c/\c<=N/\H t=some (.lst [.ref l,.int i,.int g,.int c])/\l≠t/\H l=some (.lst (ns.map V.int))/\ns.length≠0
theorem GFeed.same {H H':Hp} {t:Addr} {N:Nat} (F:GFeed H t N) (h:Same H H'):GFeed H' t N:=by
 obtain ⟨l,i,g,c,ns,h1,h2,h3,h4,h5,h6,h7,h8⟩:=F.at_
 exact ⟨l,i,g,c,ns,h1,h2,h3,h4,h _ _ h5,h6,h _ _ h7,h8⟩
theorem GFeed.upd {H:Hp} {t p:Addr} {o:HO} {N:Nat} (F:GFeed H t N) (h:H p=none):GFeed (L2.upd H p o) t N:=F.same (Same.upd h)
theorem GFeed.lst {H:Hp} {t:Addr} {N:Nat} (F:GFeed H t N):∃ zs,H t=some (.lst zs):=by
 obtain ⟨l,i,g,c,ns,h1,h2,h3,h4,h5,_⟩:=F.at_
 exact ⟨_,h5⟩
section
variable {X:Cx} {pins:List (Addr × Obj)} {σ:St} {H:Hp} {s:Shared}
theorem Inv.hold {d:Addr} {kvs:List (Key × V)} (I:Inv X pins σ H s) (h:H d=some (.dK kvs)):∃ o,s.heap.get? d=some o/\Inv X pins σ (upd H d (.frz o (.dK kvs))) s:=by
 obtain ⟨hl,hs,vs,r,dd⟩:=(show ObjOk X.prog X.w H s.heap d (.dK kvs) from I.hok d _ h)
 obtain ⟨o,es,ep,ho,rest⟩:=id dd
 refine ⟨o,ho,?_⟩
 have:=I.write (x:=d) (e:=d) (o:=.frz o (.dK kvs)) (h':=s.heap) (t':=s.toks) (by rw [h];exact True.intro) (.inl rfl) (fun b u _ q=>q) ⟨o,ho⟩ ⟨ho,hl,hs,vs,r,dd⟩
 exact this
theorem Inv.held {d:Addr} {o:Obj} {kvs:List (Key × V)} (I:Inv X pins σ H s) (h:H d=some (.frz o (.dK kvs))):s.heap.get? d=some o/\(d == sysModules)=false/\kvs.length<=sizeLine/\∃ vs,KV kvs vs/\s.heap.DictOf (AY X.prog X.w) d vs:=by
 obtain ⟨ho,hl,hs,vs,r,dd⟩:=(show ObjOk X.prog X.w H s.heap d (.frz o (.dK kvs)) from I.hok d _ h)
 exact ⟨ho,hs,hl,vs,r,dd⟩
theorem KV.get {kvs:List (Key × V)} {vs:List (Key × Value)} (r:KV kvs vs):∀ {i:Nat} {q:Key × V},kvs[i]? = some q->∃ v,vs[i]? = some (q.1,v)/\RelV q.2 v:=by
 induction r with
 | nil=>intro i q e;simp at e
 | @cons a b l1 l2 h t ih =>
  intro i q e
  cases i with
  | zero =>
   simp at e;subst e
   obtain ⟨b1,b2⟩:=b
   obtain ⟨h1,h2⟩:=h
   exact ⟨b2,by simp;exact h1.symm,h2⟩
  | succ i =>
   obtain ⟨v,h1,h2⟩:=ih (i:=i) (q:=q) (by simpa using e)
   exact ⟨v,by simpa using h1,h2⟩
theorem KV.len {kvs:List (Key × V)} {vs:List (Key × Value)} (r:KV kvs vs):kvs.length=vs.length:=Paired.length r
theorem JS {k:Key} {u:Value} (h:Br k u=true):RelV (kV k) u:=by
 rcases keyIs_shape h with ⟨i,t,rfl,rfl⟩ | ⟨x,t,rfl,rfl⟩
 ·exact ⟨t,rfl⟩
 ·exact ⟨t,rfl⟩
end
theorem Dc {P:Program} {w:World} {h:Heap} {d:Addr} {o:Obj} {es:Array DictEntry} {ep:Nat} {vs:List (Key × Value)} (ho:h.get? d=some o) (hd:o.data=.dict es ep) (dd:h.DictOf (AY P w) d vs):h.DictAt (AY P w) d vs ep/\es.size=vs.length:=by
 obtain ⟨o',es',ep',h1,h2,h3,h4,h5,h6⟩:=dd
 rw [ho] at h1;cases h1
 rw [hd] at h3;cases h3
 exact ⟨⟨o,es,ho,h2,hd,h4,h5,h6⟩,by rw [<- h5.length];simp⟩
def Itk (d:Addr) (o:Obj):It :=
 ⟨fun i H=>∃ kvs q,H d=some (.frz o (.dK kvs))/\kvs[i]? = some q,
  fun i H v H'=>H'=H/\∃ kvs q,H d=some (.frz o (.dK kvs))/\kvs[i]? = some q/\v=kV q.1,
  fun i H=>∃ kvs,H d=some (.frz o (.dK kvs))/\kvs.length<=i⟩
theorem KC {P:Program} {w:World} {K:W.Frag} {tg:Expr} {it d:Addr} {o:Obj} {es:Array DictEntry} {ep:Nat} (hdat:o.data=.dict es ep) :
 Turn P w K tg (Itk d o) [it] it (fun i h=>h.IsKeyIter it d i es.size ep) where
 mem:=by simp
 obj:=fun i h st b hb=>by
  obtain rfl:b=it:=by simpa using hb
  obtain ⟨o,e,c,d⟩:=st
  exact ⟨o,e,fun v z=>by rw [d] at z;cases z⟩
 keep:=fun i h h' ⟨o,e,r⟩ k=>⟨o,k it (by simp) _ e,r⟩
 item:=by
  intro X hP hw hK hc i pins s σ H E I hf st hg
  subst hP hw hK
  obtain ⟨kvs,q,hq1,hx⟩:=hg
  obtain ⟨ho,hs,hl,vs,rv,dd⟩:=I.held hq1
  obtain ⟨da,hsz⟩:=Dc ho hdat dd
  obtain ⟨u,hu,ru⟩:=rv.get hx
  obtain ⟨f0,f1,f2,f3,f4,f5⟩:=hf it (by simp)
  rw [hsz] at st
  refine wpAny_pyNext_dict_item st da hu fun key h' z0 st' sb=>?_
  have I1:Inv X pins σ H { s with heap:=h' }:=I.turned (t':=s.toks) (fun b o hb e=>(sb.2 b hb).trans e) f0 f1 f3 f4 f5
  obtain ⟨o',e,c,d'⟩:=id st'
  rw [<- hsz] at st'
  exact ⟨key,rfl,Dj (s:={ s with heap:=h' }) e c d' (by decide) ⟨kV q.1,H,I1,JS z0,⟨rfl,kvs,q,hq1,hx,rfl⟩,st',fun b hb=>(hf b hb).1⟩⟩
 done:=by
  intro X hP hw hK hc i pins s σ H E I hf st hg
  subst hP hw hK
  obtain ⟨kvs,hq1,hl⟩:=hg
  obtain ⟨ho,hs,hl',vs,rv,dd⟩:=I.held hq1
  obtain ⟨da,hsz⟩:=Dc ho hdat dd
  obtain ⟨f0,f1,f2,f3,f4,f5⟩:=hf it (by simp)
  have e1:=rv.len
  rw [hsz] at st
  exact wpAny_pyNext_dict_end (I.ok.hd hc) st da (by simp;lia) fun h' eb=>⟨rfl,I.turned (t':=s.toks) (fun b o hb e=>eb b o hb e) f0 f1 f3 f4 f5⟩
 self:=fun _ _ _ _ _ st h=>wpAny_pyIter_keyiter st h
def Dx (x:V) (H:Hp) (R:Addr->Obj->Hp->Prop):Prop:=match x with
 | .ref d=>(∃ kvs,H d=some (.dK kvs)/\∀ o,R d o (upd H d (.frz o (.dK kvs))))\/∃ kvs o,H d=some (.frz o (.dK kvs))/\R d o H
 | _=>False
theorem OB {X:Cx} {pins:List (Addr × Obj)} {σ:St} {H:Hp} {s:Shared} {x:V} {v:Value} {R:Addr->Obj->Hp->Prop} (I:Inv X pins σ H s) (r:RelV x v) (h:Dx x H R) :
 ∃ d kvs o H2,v=.ref d/\Inv X pins σ H2 s/\H2 d=some (.frz o (.dK kvs))/\R d o H2:=by
 cases x with
 | ref d =>
  cases r
  rcases h with ⟨kvs,e,q⟩ | ⟨kvs,o,e,q⟩
  ·obtain ⟨o,ho,I2⟩:=I.hold e
   exact ⟨d,kvs,o,_,rfl,I2,AD,q o⟩
  ·exact ⟨d,kvs,o,H,rfl,I,e,q⟩
 | _=>exact False.elim h
def IU (to:TE):TI:=fun σ H R=>to σ H fun x H1=>Dx x H1 fun d o H2=>R (Itk d o) H2
section
variable {X:Cx} {K:W.Frag} {tg oe:Expr} {to:TE} {ts:List Expr} {kt:Nat} {tpos apos cpos:Pos}
theorem Ew (ho:PE X oe to):PI X tg oe (IU to):=by
 intro pins s σ H R I h
 refine thn (ho pins s σ H _ I h) fun v s1 ⟨x,H1,I1,r1,q1⟩=>?_
 obtain ⟨d,kvs,o,H2,rfl,I2,hd2,q⟩:=OB I1 r1 q1
 obtain ⟨ho',hs,hl,vs,rv,dd⟩:=I2.held hd2
 obtain ⟨o',es,ep,e1,e2,e3,_⟩:=id dd
 rw [ho'] at e1;cases e1
 obtain ⟨da,hsz⟩:=Dc ho' e3 dd
 refine wpAny_pyIter_dict hs da ?_
 refine ⟨s1.heap.objs.size,[s1.heap.objs.size],_,_,H2,rfl,I2.kept (t':=s1.toks) fun b o e=>Heap.get?_push_of_some _ e,KC e3,⟨_,Heap.get?_push_size _ rfl,rfl,?_⟩,fun b hb=>?_,q⟩
 ·rw [hsz];rfl
 ·obtain rfl:b=s1.heap.objs.size:=by simpa using hb
  exact I2.fpOk (Nat.le_refl _) (I2.hok.fresh (Nat.le_refl _))
end
theorem Mw {x:V} {H:Hp} {R R':Addr->Obj->Hp->Prop} (k:∀ d o H,R d o H->R' d o H) (h:Dx x H R):Dx x H R':=by
 cases x with
 | ref d =>
  rcases h with ⟨kvs,e,q⟩ | ⟨kvs,o,e,q⟩
  ·exact .inl ⟨kvs,e,fun o=>k _ _ _ (q o)⟩
  ·exact .inr ⟨kvs,o,e,k _ _ _ q⟩
 | _=>exact False.elim h
theorem KJ {to:TE} (h:AM to):Cj (IU to):=fun σ H Q Q' k q=>h _ _ _ _ (fun _ _ q=>Mw (fun _ _ _ q=>k _ _ q) q) q
theorem Fd {d:Addr} {o:Obj} {kvs:List (Key × V)} {g:TG} {tc:TT} {te:TE} {σc:St} {Q:VK} {H:Hp} (Pv:Nat->List V->Hp->Prop) (h0:Pv 0 [] H) (hl:∀ i ys H,i<=kvs.length->Pv i ys H->H d=some (.frz o (.dK kvs))) (hz:∀ i ys H,i < kvs.length->Pv i ys H->ys.length < sizeLine)
 (hs:∀ i r ys H,kvs[i]? = some r->Pv i ys H->g (kV r.1) σc H fun σ2 H2=>tc σ2 H2 fun b H3=>if b=true then te σ2 H3 fun y H4=>Pv (i+1) (ys++[y]) H4 else Pv (i+1) ys H3)
 (hd:∀ ys H,Pv kvs.length ys H->∀ p,H p=none->Q (.ref p) (upd H p (.lst ys))):CQ (Itk d o) g tc te σc Q H:=by
 refine ⟨fun i m ys H=>m=kvs.length - i/\i<=kvs.length/\Pv i ys H,⟨kvs.length,by simp,Nat.zero_le _,h0⟩,?_⟩
 rintro i m ys H ⟨rfl,hi,p⟩
 have q:=hl i ys H hi p
 by_cases hlt:i < kvs.length
 ·refine .inr ⟨⟨kvs,kvs[i],q,by simp [hlt]⟩,hz i ys H hlt p,Pv (i+1),fun ys' H' p'=>⟨kvs.length - (i+1),by lia,rfl,hlt,p'⟩,fun x H' y=>?_⟩
  obtain ⟨rfl,kvs',r,e1,e2,rfl⟩:=y
  rw [q] at e1
  cases e1
  exact hs i r ys _ e2 p
 ·have e:i=kvs.length:=by lia
  subst e
  exact .inl ⟨⟨kvs,q,Nat.le_refl _⟩,hd ys H p⟩
end L2
namespace L2
open PySem PyProof.Rows
section
variable {prog:Program} {w:World} {A:Around} {E:Value->Shared->Prop} {s:Shared}
end
section
variable {X:Cx}
end
end L2
namespace L2
open PySem PySem.Spec PyProof.Rows
end L2
namespace L2
open PySem PySem.Spec PyProof.Rows PySem.W
open Att (D9 Gf N9)
def CdO (a:Addr) (q:Str):HO:=.ext fun h=>h.CodeRec (.ref a) q
def Lam (Pt:Addr) (pos:Pos) (q:Str) (H:Hp):Prop :=
 ∃ ps:Array Value,H Pt=some (.tbl ps)/\TriplesOk ps.toList/\(codeAmong pos ps.toList=none\/∃ c',codeAmong pos ps.toList=some (.ref c')/\H c'=some (CdO c' q))
def Grow (Pt:Addr) (H H':Hp):Prop:=∀ b o,b≠Pt->H b=some o->H' b=some o
theorem Grow.same {Pt:Addr} {H H':Hp} (h:Same H H'):Grow Pt H H':=fun b o _ e=>h b o e
theorem Lam.same {Pt:Addr} {pos:Pos} {q:Str} {H H':Hp} (l:Lam Pt pos q H) (h:Same H H'):Lam Pt pos q H':=by
 obtain ⟨ps,a,b,c⟩:=l
 refine ⟨ps,h _ _ a,b,?_⟩
 rcases c with c | ⟨c',c,d⟩
 ·exact .inl c
 ·exact .inr ⟨c',c,h _ _ d⟩
section
variable {X:Cx} {pins:List (Addr × Obj)} {σ:List (Option V)} {H:Hp} {s:Shared} {h':Heap}
end
section
variable {prog:Program} {w:World} {A:Around} {s:Shared}
end
section
variable {X:Cx} {Pt c:Addr} {e:Expr} {te:TE} {p pos kpos lpos np cp sp:Pos} {x qual:Str} {params:Arguments} {scope:Scope} {kd:Nat} {i:Int} {K:W.Frag}
end
end L2
namespace L2
open PySem
end L2
namespace L2
open PySem PySem.Spec PyProof.Rows
section
variable {X:Cx} {tg oe:Expr} {to:TE} {apos cpos:Pos}
end
def mIn (K:W.Frag) (neg:Bool):R2:=fun x y H Q=>match y with
 | .ref p=>∃ xs,(SqL K H p xs\/SqT K H p xs)/\Ao x=true/\xs.all Ao=true/\Q (.bl (neg ^^ inV x xs)) H
 | _=>False
section
variable {X:Cx} {K:W.Frag}
theorem kIn (hK:X.K=K:=by rfl):OpR X (compareOp .In) (mIn K false):=by
 subst hK
 intro pins s σ H x y v u Q I rx ry h
 cases y with
 | ref p =>
  obtain ⟨xs,h1,h2,h3,q⟩:=h
  exact M7 pins s σ H x _ v u Q I rx ry ⟨p,xs,rfl,h1,h2,h3,by simpa using q⟩
 | _=>exact False.elim h
end
section
variable {X:Cx} {K:W.Frag}
end
end L2
namespace L2
theorem on1 {α:Type} {P:List α->Prop} (h:∀ a,P [a]):∀ us:List α,us.length=1->P us
 | [a],_=>h a
theorem on2 {α:Type} {P:List α->Prop} (h:∀ a b,P [a,b]):∀ us:List α,us.length=2->P us
 | [a,b],_=>h a b
theorem on3 {α:Type} {P:List α->Prop} (h:∀ a b c,P [a,b,c]):∀ us:List α,us.length=3->P us
 | [a,b,c],_=>h a b c
open PySem in
theorem star_lst {xs es:List PySem.Expr} {p:Pos} {env:Env}:starEach (.List xs p::es) env=(false,eval (.List xs p) env)::starEach es env:=by rfl
end L2
namespace L2
open PySem
def Fp:Expr->Bool
 | .ListComp ..=>true
 | .SetComp ..=>true
 | .DictComp ..=>true
 | _=>false
theorem Mi {e:Expr} {t:Option Expr} {l:Nat} {env:Env} (h:Fp e=false):swapsWith e t l env=pure false:=by
 cases e <;> first | rfl | cases h
theorem LR {X:Cx} {pos:Pos} {i:Nat} {x:Str} {e:Expr} {te:TE} {pos':Pos} (hN:X.N.Nodup) (hi:X.N[i]? = some x) (hx:Loc X.env.scope x) (he:PE X e te) (hs:Fp e=false) (hf:X.fn x=true\/X.env.scope.names.lookup x=some .local) :
 PS X (.Assign [.Name x pos'] e pos) (Cq te (AS i)):=AO hN hi hx he (Mi hs) hf
end L2
namespace L2
open PySem PyProof.Rows
section
variable {prog:Program} {w:World} {A:Around} {E:Value->Shared->Prop} {s:Shared}
end
section
variable {X:Cx}
end
abbrev Iv (h:Heap) (z TI TO:Addr) (f0 bb:Value):Prop :=
 h.get? z=some { cls:=.type "zip",dict:=none,data:=.fields #[f0,bb,.bool false,.ref TI,.ref TO],slots:=#[] }
section
variable {prog:Program} {w:World} {A:Around} {E:Value->Shared->Prop} {s:Shared}
end
section
variable {prog:Program} {w:World} {A:Around} {E:Value->Shared->Prop} {s:Shared}
structure ZS (z TI TO i1 i2 l1 l2 T0:Addr) (xs ys:Array Value) (i:Nat) (h:Heap):Prop where
 zp:(i=0/\IsZip h z TI TO .none)\/(0 < i/\(∃ b,Iv h z TI TO (rawInt T0) b)/\∃ a b,IsPair h T0 a b)
 ti:IsPair h TI (.ref i1) (.ref i2)
 to:∃ a b,IsPair h TO a b
 a1:h.IsTupleIter i1 l1 i
 a2:h.IsTupleIter i2 l2 i
 t1:h.IsTuple l1 xs
 t2:h.IsTuple l2 ys
end
section
variable {prog:Program} {w:World} {A:Around} {R:Result->Shared->Prop}
end
section
variable {prog:Program} {w:World} {A:Around} {R:Result->Shared->Prop} {s:Shared}
end
section
variable {prog:Program} {w:World} {A:Around} {E:Value->Shared->Prop} {s:Shared}
end
theorem Inv.many {X:Cx} {pins:List (Addr × Obj)} {σ:St} {H H2:Hp} {s:Shared} {h':Heap} {t':Nat} (I:Inv X pins σ H s) (k:∀ b u,s.heap.get? b=some u->h'.get? b=some u) (sm:∀ b o,H b=some o->H2 b=some o)
 (nw:∀ b o,H2 b=some o->H b=none->s.heap.objs.size<=b/\ObjOk X.prog X.w H2 h' b o):Inv X pins σ H2 { s with heap:=h',toks:=t' }:=by
 refine I.step (g':=s.gens) (d':=s.drawn) (t':=t') (ch:=[]) (fun b hb=>nomatch hb) (fun b u _ _ _ e _=>k b u e) (fun b u _ _ _ e _=>⟨u.slots,k b u e⟩) (fun b u _ e n=>?_) (fun b u _ e=>⟨u,k b u e⟩)
  (fun b xs e=>sm _ _ e) (fun b o u e=>sm _ _ e) (fun b ps e=>⟨#[],by rw [sm _ _ e];simp⟩) (fun m hm=>?_) (fun b u e=>?_) I.bare
 ·cases q:H2 b with
  | none=>rfl
  | some o=>exact absurd (Heap.lt_size e) (Nat.not_lt.mpr (nw b o q n).1)
 ·obtain ⟨u,es,ep,ho,r⟩:=hm
  exact ⟨u,es,ep,k _ u ho,r⟩
 ·cases q:H b with
  | none=>exact (nw b u e q).2
  | some o =>
   have:=sm b o q
   rw [this] at e
   cases e
   exact (I.hok b _ q).stay (fun c v _ q=>k c v q) (fun c q=>sm _ _ q) fun c xs q=>sm _ _ q
theorem En:∀ ps:List Addr,Vals (ps.map V.ref) (ps.map Value.ref)
 | []=>.nil
 | p::ps=>.cons rfl (En ps)
section
variable {X:Cx}
end
end L2
namespace L2
open PySem
def ins:Nat->Nat->Nat->Nat
 | 0,b,q=>2 * q+b
 | i+1,b,q=>2 * ins i b (q / 2)+q % 2
theorem HQ (f:Nat->Int):∀ N,((List.range N).map f).sum=AE f N
 | 0=>rfl
 | N+1=>by rw [List.range_succ,List.map_append,List.sum_append,HQ f N];simp [AE]
end L2
namespace L2
open PySem PyProof.Rows
theorem K3:typeLookup (.type "tuple") "keys" = pure none:=by rw [typeLookup_type,builtinLookup_eq_fast];kernel_rfl
section
variable {prog:Program} {w:World} {A:Around} {E:Value->Shared->Prop} {s:Shared}
set_option maxRecDepth 8000 in
theorem KL {a:Addr} {o:Obj} {xs:Array Value} {k:Nat} {Q:Option Value->Shared->Prop}
 (hx:s.heap.get? a=some o) (hc:o.cls=.type "tuple") (hdat:o.data=.seq xs k) (hd:o.dict=none) (hA:A.handled=none)
 (h:∀ h' tk e,Heap.NewExcOf s.heap h' e "AttributeError" -> Q none { s with heap:=h',toks:=tk }) :
 wpAny (model prog w) A (getAttr? (.ref a) "keys") Q E s:=by
 obtain ⟨c,dct,dat,sl⟩:=o
 simp only at hc hdat hd
 subst hc hdat hd
 obtain ⟨hp,g,d,tk,os⟩:=s
 have hT:∀ tk',(⟨hp,g,d,tk',os⟩:Shared).TypeIs (.ref a) "tuple":=fun _=>⟨_,hx,rfl⟩
 have f1:=sub_AttributeError
 have f3:=F.slot_tuple_getattribute.lookup
 have f4:=F.slot_tuple_getattribute.bind (.ref a)
 have f5:=am_tuple_getattr_none
 unfold getAttr? getAttrBy? getAttrBy
 repeat (any_goals (first | assumption | exact hT _ | ((with_reducible show wpAny _ _ (call (Value.builtin "tuple.__getattribute__") _ _) _ _ _);refine call_meets F.slot_tuple_getattribute (hT _) am_entry_tuple_getattribute (F.args_tuple_getattribute_2 _ _) (meets_getattribute_miss_tuple a xs k sl "keys" _ K3 (by decide +kernel) (by size_fits)) ⟨hx,hA,fun h' tk' e hx'=>?_⟩) | wp_step))
 obtain ⟨t',u',he⟩:=hx'.there
 show wpAny _ _ (getattributeRaised _ _ _ _ _ _ _) _ _ _
 unfold getattributeRaised
 repeat (any_goals (first | assumption | wp_step))
 exact h _ _ _ hx'.of
theorem D7:entryFor table "dict.update.loop" = some Builtin.«dict.update.loop»:=entryFor_of_tree (by kernel_rfl)
theorem Bz:plainId "dict.update.loop" = true:=by decide +kernel
end
section
variable {prog:Program} {w:World} {K:Type} [DecidableEq K] {knd:KeyKind prog w K} {A:Around} {R:Result->Shared->Prop}
theorem GB {E:Value->Shared->Prop} {s:Shared} {d:Addr} {kvs:List (K × Value)} {k:K} {key v:Value} {Q:Unit->Shared->Prop} (hkey:knd.is k key=true) (hm:s.heap.DictOf knd d kvs)
 (hQ:∀ h' tk,h'.DictOf knd d (stored kvs k v)->Heap.SameBut d s.heap h'->Q () { s with heap:=h',toks:=tk }) (hsz:kvs.length<=sizeLine) :
 wpAny (model prog w) A (dictSet d key v) Q E s:=by
 unfold dictSet
 refine wpAny_holding (wpAny_bind (knd.pyHash hkey ?_))
 exact wpAny_dictSetHashed_pairs (s:={ s with toks:=s.toks+1 }) hkey hm (fun h' a b=>hQ h' _ a b) hsz
theorem KQ {d it tp:Addr} {items:Array Value} {n:Nat} {res:Value} (hh:A.handled=none) (more:List (K × Value)) (c:Nat->Addr) (ky:Nat->Value) (hn:more.length=n) (hn1:n<=1000) (his:items.size=n)
 (hit0:∀ j,j < n->items[j]? = some (.ref (c j))) (hmo:∀ j,j < n->∃ k v,more[j]? = some (k,v)/\knd.is k (ky j)=true) :
 ∀ (k i:Nat) (s:Shared),n - i=k->i<=n->s.heap.IsTupleIter it tp i->s.heap.IsTuple tp items->(∀ j,j < n->∀ kv,more[j]? = some kv->s.heap.IsTuple (c j) #[ky j,kv.2])->s.heap.DictOf knd d (merged [] (more.take i)) ->
 (∀ h' tk,h'.DictOf knd d (merged [] more)->(∀ b o,b≠d->b≠it->s.heap.get? b=some o->h'.get? b=some o)->R (.ok (.ret res)) { s with heap:=h',toks:=tk }) ->
 codeAny (model prog w) A (.builtin "dict.update.loop" ⟨[.ref d,.ref it,rawInt i,res],[]⟩) R s:=by
 have hsl:sizeLine=2 ^ 24:=by rw [sizeLine_eq]
 intro k
 induction k with
 | zero =>
  intro i s hk hi hit ht hp hd hR
  have hin:i=n:=by lia
  subst hin
  refine codeAny_builtin D7 ?_
  rw [Around.under_plainId Bz _]
  show wpAny _ A.in1 (pyNext (.ref it) >>= _) _ _ s
  have hdi:d≠it:=fun e=>by
   obtain ⟨o,_,_,ho,hc,_⟩:=id hd
   obtain ⟨o2,ho2,hc2,_⟩:=id hit
   rw [e,ho2] at ho
   cases ho
   have:=hc.1
   rw [hc2] at this
   simp at this
  refine wpAny_bind (wpAny_pyNext_tuple_end (A:=A.in1) hh hit ht (by rw [Array.getElem?_eq_none_iff];lia) fun h' hk'=>?_)
  show wpAny _ _ (Builtin.Dict.addKeywords d [] >>= fun _=>ret res) _ _ _
  refine wpAny_bind (wpAny_pure (wpAny_pure ?_))
  have hd':h'.DictOf knd d (merged [] (more.take i)):=Heap.DictOf.at hd fun o e=>hk' _ _ hdi e
  rw [List.take_of_length_le (by lia)] at hd'
  exact hR h' s.toks hd' fun b o _ hb e=>hk' b o hb e
 | succ k ih =>
  intro i s hk hi hit ht hp hd hR
  have hlt:i < n:=by lia
  obtain ⟨kk,v,hmi,hkey⟩:=hmo i hlt
  refine codeAny_builtin D7 ?_
  rw [Around.under_plainId Bz _]
  show wpAny _ A.in1 (pyNext (.ref it) >>= _) _ _ s
  obtain ⟨od,_,_,hod,hcd,_⟩:=id hd
  have hcd1:=hcd.1
  obtain ⟨oi,hoi,hci,_⟩:=id hit
  obtain ⟨ot,hot,hct,_⟩:=id ht
  have cls:∀ {b c:Addr} {o o':Obj},s.heap.get? b=some o->s.heap.get? c=some o'->o.cls≠o'.cls->b≠c:=fun {b c o o'} x y n q=>by subst q;rw [x] at y;cases y;exact n rfl
  have hdi:d≠it:=cls hod hoi (by rw [hcd1,hci];simp)
  have hti:tp≠it:=cls hot hoi (by rw [hct,hci];simp)
  have htd:tp≠d:=cls hot hod (by rw [hct,hcd1];simp)
  have hci2:∀ j,j < n->c j≠it/\c j≠d:=fun j hj=>by
   obtain ⟨k2,v2,hm2,_⟩:=hmo j hj
   obtain ⟨o3,ho3,hc3,_⟩:=hp j hj _ hm2
   exact ⟨cls ho3 hoi (by rw [hc3,hci];simp),cls ho3 hod (by rw [hc3,hcd1];simp)⟩
  refine wpAny_bind (wpAny_pyNext_tuple_item (A:=A.in1) hit ht (hit0 i hlt) fun h₁ hit₁ hs₁=>?_)
  have hp1:∀ j,j < n->∀ kv,more[j]? = some kv->h₁.IsTuple (c j) #[ky j,kv.2]:=fun j hj kv hkv=>(hp j hj kv hkv).extBut hs₁.extBut (hci2 j hj).1
  have hd1:h₁.DictOf knd d (merged [] (more.take i)):=hd.sameBut hs₁ hdi
  have ht1:h₁.IsTuple tp items:=ht.extBut hs₁.extBut hti
  obtain ⟨oc,hoc,hcc,nc,hdc⟩:=id (hp1 i hlt _ hmi)
  show wpAny _ A.in1 (holding [Value.ref (c i)] _ >>= _) _ _ _
  refine wpAny_bind (wpAny_holding ?_)
  refine wpAny_bind (wpAny_tryCatch ?_)
  unfold Builtin.Dict.pairItems
  refine wpAny_bind (wpAny_typeOf (T:="tuple") ⟨oc,hoc,hcc⟩ ?_)
  have e1:(Value.type "tuple" == Value.type "list" || Value.type "tuple" == Value.type "tuple")=true:=by decide
  rw [if_pos e1]
  refine wpAny_bind (wpAny_seqItems hoc hdc (wpAny_pure ?_))
  show wpAny _ A.in1 (holding [ky i,v] (dictSet d (ky i) v)) _ _ _
  refine wpAny_holding (GB hkey hd1 (fun h₂ tk hd₂ hs₂=>?_) ?_)
  ·refine wpAny_pure ⟨plainId_quiet Bz _,?_⟩
   have hI2:h₂.IsTupleIter it tp (i+1):=hit₁.extBut hs₂.extBut (Ne.symm hdi)
   have hd₂':h₂.DictOf knd d (merged [] (more.take (i+1))):=by
    rw [merged_take_succ [] more i (kk,v) hmi]
    exact hd₂
   have:=ih (i+1) { s with heap:=h₂,toks:=tk } (by lia) hlt hI2 (ht1.extBut hs₂.extBut htd) (fun j hj kv hkv=>(hp1 j hj kv hkv).extBut hs₂.extBut (hci2 j hj).2) hd₂' fun h' tk' a1 a2=>hR h' tk' a1 fun b o b1 b2 e=>a2 b o b1 b2 (hs₂.extBut _ _ b1 (hs₁.extBut _ _ b2 e))
   exact this
  ·have:=merged_length_le [] (more.take i)
   rw [List.length_take] at this
   simp only [List.length_nil] at this
   lia
end
section
variable {prog:Program} {w:World} {K:Type} [DecidableEq K] {knd:KeyKind prog w K} {A:Around} {E:Value->Shared->Prop} {s:Shared}
theorem Ng {tp:Addr} {o:Obj} {items:Array Value} {k0 n:Nat} {Q:Value->Shared->Prop} (hh:A.handled=none) (more:List (K × Value)) (c:Nat->Addr) (ky:Nat->Value) (hn:more.length=n) (hn1:n<=1000) (his:items.size=n)
 (hit0:∀ j,j < n->items[j]? = some (.ref (c j))) (hmo:∀ j,j < n->∃ k v,more[j]? = some (k,v)/\knd.is k (ky j)=true)
 (hx:s.heap.get? tp=some o) (hc:o.cls=.type "tuple") (hdat:o.data=.seq items k0) (hd:o.dict=none) (hp:∀ j,j < n->∀ kv,more[j]? = some kv->s.heap.IsTuple (c j) #[ky j,kv.2]) (hnd:(more.map (·.1)).Nodup)
 (h:∀ h' tk,h'.DictOf knd s.heap.objs.size more->(∀ b o,s.heap.get? b=some o->h'.get? b=some o)->Q (.ref s.heap.objs.size) { s with heap:=h',toks:=tk }) :
 wpAny (model prog w) A (call (.type "dict") [.ref tp]) Q E s:=by
 refine callType_codes (Q₁:=fun obj s₁=>obj=.ref s.heap.objs.size/\s₁ = { s with heap:=s.heap.push { cls:=.type "dict",data:=.dict #[] } }) F.kt_called_dict (F.kt_typeCall_dict_1 _) F.entry_dict_init (kt_code_dict_new _ ⟨rfl,rfl⟩) ?_
 rintro obj s₁ ⟨rfl,rfl⟩
 have hnew:(s.heap.push { cls:=.type "dict",data:=.dict #[] }).DictOf knd s.heap.objs.size []:=Heap.DictOf.new s.heap
 have hx1:(s.heap.push { cls:=.type "dict",data:=.dict #[] }).get? tp=some o:=Heap.get?_push_of_some _ hx
 refine ⟨hnew.typeIs,F.args_dict_init_2 _ _,?_⟩
 unfold Builtin.«dict.__init__»
 refine wpAny_bind ?_
 unfold Builtin.Dict.selfAndRest
 refine wpAny_bind (wpAny_notOrdered_dict hnew.typeIs ?_)
 show wpAny _ _ (pure (s.heap.objs.size,[Value.ref tp])) _ _ _
 refine wpAny_pure ?_
 show wpAny _ _ (Builtin.Dict.updateFrom "dict.__init__" s.heap.objs.size (.ref tp) [] .none) _ _ _
 unfold Builtin.Dict.updateFrom
 refine wpAny_bind (wpAny_typeOf (T:="tuple") ⟨o,hx1,hc⟩ ?_)
 rw [if_pos (by decide)]
 refine wpAny_bind (KL (A:=A.in1.in1) hx1 hc hdat hd hh fun h₁ tk₁ e he=>?_)
 simp only [Option.isNone_none,if_true]
 refine wpAny_bind (wpAny_rule ?_)
 have ht1:h₁.IsTuple tp items:=⟨o,he.keeps _ _ hx1,hc,k0,hdat⟩
 have keep1:∀ b o,s.heap.get? b=some o->h₁.get? b=some o:=fun b o q=>he.keeps _ _ (Heap.get?_push_of_some _ q)
 refine wpAny_bind (wpAny_pyIter_tuple (s:={ s with heap:=h₁,toks:=tk₁ }) ht1 ?_)
 have up:∀ b o,h₁.get? b=some o->(h₁.push { cls:=.type "tuple_iterator",data:=.fields #[.ref tp,.int 0 0] }).get? b=some o:=fun b o q=>Heap.get?_push_of_some _ q
 refine wpAny_pure ⟨plainId_quiet Bz _,KQ (A:=A.in1) (knd:=knd) hh more c ky hn hn1 his hit0 hmo n 0 _ (Nat.sub_zero _) (Nat.zero_le _) ⟨_,Heap.get?_push_size _ rfl,rfl,rfl⟩ ⟨o,up _ _ (he.keeps _ _ hx1),hc,k0,hdat⟩ (fun j hj kv hkv=>?_) ?_ fun h' tk a1 a2=>?_⟩
 ·obtain ⟨o2,e2,r2⟩:=hp j hj kv hkv
  exact ⟨o2,up _ _ (keep1 _ _ e2),r2⟩
 ·exact Heap.DictOf.at hnew fun o q=>up _ _ (he.keeps _ _ q)
 ·rw [merged_nil_of_nodup more hnd] at a1
  refine ⟨rfl,h h' tk a1 fun b o q=>a2 b o (Nat.ne_of_lt (Heap.lt_size q)) (Nat.ne_of_lt (Heap.lt_size (keep1 _ _ q))) (up _ _ (keep1 _ _ q))⟩
end
section
variable {X:Cx}
def HM (K:W.Frag):List V->Hp->VK->Prop:=fun xs H Q=>match xs with
 | [.ref p]=>∃ (us:List V) (kvs:List (Int × Int)),SqT K H p us/\us.length=kvs.length/\kvs.length<=1000/\(∀ (j:Nat) kv,kvs[j]? = some kv->∃ c,us[j]? = some (.ref c)/\SqT K H c [.int kv.1,.int kv.2])/\(kvs.map (·.1)).Nodup /\
  ∀ d,H d=none->Q (.ref d) (upd H d (.dK (kvs.map fun kv=>(Sum.inl kv.1,V.int kv.2))))
 | _=>False
theorem MD (hc:X.calm=true):CallR X (.type "dict") (HM X.K):=by
 intro pins s σ H xs us Q I r q
 match xs,q with
 | [.ref p],⟨ts,kvs,hp,hl,h1000,hkv,hnd,q⟩ =>
 cases r with
 | cons r rr =>
 cases rr
 cases r
 obtain ⟨its,rv,⟨o,ho,hcl,⟨n0,hdat⟩,hdn⟩,_⟩:=I.tupleN hp
 have e1:=rv.length
 -- the pairs as they stand
 have pr:∀ j,j < kvs.length->∃ c t1 t2,its[j]? = some (Value.ref c)/\s.heap.IsTuple c #[.int (kvs.getD j (0,0)).1 t1,.int (kvs.getD j (0,0)).2 t2]:=fun j hj=>by
  have hg:kvs[j]? = some (kvs.getD j (0,0)):=by simp [List.getD_eq_getElem?_getD,hj]
  obtain ⟨c,hc1,hc2⟩:=hkv j _ hg
  obtain ⟨u,hu,ru⟩:=rv.get hc1
  cases ru
  obtain ⟨its2,rv2,p2,_⟩:=I.tuple hc2
  cases rv2 with
  | cons a1 a2 =>
  cases a2 with
  | cons a3 a4 =>
  cases a4
  obtain ⟨t1,rfl⟩:=a1
  obtain ⟨t2,rfl⟩:=a3
  exact ⟨c,t1,t2,hu,p2⟩
 have cf:∃ (c:Nat->Addr) (t1 t2:Nat->Tok),∀ j,j < kvs.length->its[j]? = some (Value.ref (c j))/\s.heap.IsTuple (c j) #[.int (kvs.getD j (0,0)).1 (t1 j),.int (kvs.getD j (0,0)).2 (t2 j)]:=by
  have pr':∀ j,∃ c t1 t2,j < kvs.length->its[j]? = some (Value.ref c)/\s.heap.IsTuple c #[.int (kvs.getD j (0,0)).1 t1,.int (kvs.getD j (0,0)).2 t2]:=fun j=>by
   by_cases hj:j < kvs.length
   ·obtain ⟨c,t1,t2,h⟩:=pr j hj
    exact ⟨c,t1,t2,fun _=>h⟩
   ·exact ⟨0,0,0,fun z=>absurd z hj⟩
  exact ⟨fun j=>(pr' j).choose,fun j=>(pr' j).choose_spec.choose,fun j=>(pr' j).choose_spec.choose_spec.choose,fun j hj=>(pr' j).choose_spec.choose_spec.choose_spec hj⟩
 obtain ⟨c,t1,t2,hcf⟩:=cf
 let more:List (Key × Value):=(List.range kvs.length).map fun j=>(Sum.inl (kvs.getD j (0,0)).1,Value.int (kvs.getD j (0,0)).2 (t2 j))
 have hml:more.length=kvs.length:=by simp [more]
 have hmg:∀ j,j < kvs.length->more[j]? = some (Sum.inl (kvs.getD j (0,0)).1,Value.int (kvs.getD j (0,0)).2 (t2 j)):=fun j hj=>by simp [more,hj]
 have hrng:(List.range kvs.length).map (fun j=>kvs.getD j (0,0))=kvs:=by
  refine List.ext_getElem? fun j=>?_
  rw [List.getElem?_map]
  by_cases hj:j < kvs.length
  ·rw [List.getElem?_range hj];simp [List.getD_eq_getElem?_getD,hj]
  ·rw [List.getElem?_eq_none (by simp;lia),List.getElem?_eq_none (by lia)];rfl
 have hmk:more.map (·.1)=(kvs.map (·.1)).map Sum.inl:=by
  have:more.map (·.1)=((List.range kvs.length).map (fun j=>kvs.getD j (0,0))).map (fun kv=>(Sum.inl kv.1:Key)):=by simp [more]
  rw [this,hrng,List.map_map]
  rfl
 have hrel:∀ m,KV (((List.range m).map fun j=>kvs.getD j (0,0)).map fun kv=>((Sum.inl kv.1:Key),V.int kv.2)) ((List.range m).map fun j=>((Sum.inl (kvs.getD j (0,0)).1:Key),Value.int (kvs.getD j (0,0)).2 (t2 j))):=fun m=>by
  rw [List.map_map]
  generalize List.range m=L
  induction L with
  | nil=>exact .nil
  | cons j L ih=>exact .cons ⟨rfl,⟨_,rfl⟩⟩ ih
 refine Ng (knd:=AY X.prog X.w) (n:=kvs.length) (I.ok.hd hc) more c (fun j=>.int (kvs.getD j (0,0)).1 (t1 j)) hml h1000 (by simp;lia) (fun j hj=>by have:=(hcf j hj).1;simpa using this) (fun j hj=>⟨_,_,hmg j hj,FJ _ _ _ _⟩) ho hcl hdat hdn (fun j hj kv hkv2=>?_) ?_ fun h' tk a1 a2=>?_
 ·rw [hmg j hj] at hkv2
  cases hkv2
  exact (hcf j hj).2
 ·rw [hmk]
  have nd:∀ l:List Int,l.Nodup->(l.map (Sum.inl:Int->Key)).Nodup:=fun l=>by
   induction l with
   | nil=>intro _;exact List.nodup_nil
   | cons x l ih =>
    intro h
    rw [List.nodup_cons] at h
    rw [List.map_cons,List.nodup_cons]
    refine ⟨fun hm=>?_,ih h.2⟩
    obtain ⟨y,hy,e⟩:=List.mem_map.mp hm
    have:y=x:=by simpa using e
    exact h.1 (this ▸ hy)
  exact nd _ hnd
 ·refine ⟨.ref s.heap.objs.size,_,I.laid (t':=tk) (o:=.dK (kvs.map fun kv=>(Sum.inl kv.1,V.int kv.2))) a2 (Nat.le_refl _) ?_,rfl,q _ (I.hok.fresh (Nat.le_refl _))⟩
  refine ⟨by rw [List.length_map];exact AT h1000,beq_eq_false_iff_ne.mpr (Ne.symm (Nat.ne_of_lt I.big)),more,?_,a1⟩
  have:=hrel kvs.length
  rw [hrng] at this
  exact this
theorem Ix {K:W.Frag} (hc:X.calm=true) (hK:X.K=K:=by rfl):CallR X (.type "dict") (HM K):=hK ▸ MD hc
end
section
variable {prog:Program} {w:World} {A:Around} {E:Value->Shared->Prop} {s:Shared}
end
section
variable {prog:Program} {w:World} {A:Around} {E:Value->Shared->Prop} {s:Shared}
end
section
variable {prog:Program} {w:World} {K:Type} [DecidableEq K] {knd:KeyKind prog w K} {A:Around} {R:Result->Shared->Prop}
end
section
variable {prog:Program} {w:World} {K:Type} [DecidableEq K] {knd:KeyKind prog w K} {A:Around} {E:Value->Shared->Prop} {s:Shared}
end
section
variable {X:Cx}
end
section
variable {X:Cx}
end
theorem L4:∀ {ns:List Int} {us:List Value},IntsAre us ns->Vals (ns.map V.int) us:=by
 intro ns us h
 induction h with
 | nil=>exact .nil
 | cons _ _ _ ih=>exact .cons ⟨_,rfl⟩ ih
section
variable {X:Cx} {K:W.Frag}
end
section
variable {X:Cx} {K:W.Frag} {o e e2:Expr} {to:TE} {t:TA} {apos cpos:Pos}
end
end L2
namespace L2
open PySem PySem.Spec PyProof.Rows
section
variable {X:Cx} {K:W.Frag}
end
end L2
namespace L2
open PySem PyProof.Rows
section
variable {X:Cx}
end
section
variable {X:Cx}
end
section
variable {X:Cx} {K:W.Frag}
end
end L2
namespace HT
open PySem PyProof.Rows
section
variable {prog:Program} {w:World} {A:Around} {E:Value->Shared->Prop} {s:Shared}
end
end HT
namespace L2
open PySem PySem.Spec PyProof.Rows
section
variable {X:Cx} {K:W.Frag} {e sx:Expr} {te ts:TE} {lo hi:Option Expr} {tl th:TO} {pos p2:Pos}
end
end L2
namespace HT
open PySem PyProof.Rows
section
variable {prog:Program} {w:World} {A:Around} {E:Value->Shared->Prop} {s:Shared}
end
end HT
namespace L2
open PySem PySem.Spec PyProof.Rows
section
variable {X:Cx} {K:W.Frag}
end
section
variable {X:Cx} {K:W.Frag}
end
section
variable {X:Cx} {K:W.Frag} {e sx:Expr} {te ts:TE} {lo hi:Option Expr} {tl th:TO} {pos p2:Pos}
end
abbrev BV:=List (List Bool × Addr × V)
abbrev BVr:BV->List (List Bool × Addr × Value)->Prop:=Paired fun p q=>p.1=q.1/\p.2.1=q.2.1/\RelV p.2.2 q.2.2
def dV (P:Program) (w:World) (a:Addr) (kvs:BV):HO:=.ext fun h=>∃ xs o es ep,BVr kvs xs/\h.get? a=some o/\o.ExactDict/\o.data=.dict es ep/\es.toList=xs.map (entryOfKey (tupleKind (DG P w)))/\(xs.map (·.1)).Nodup/\xs.length<=sizeLine/\(a == sysModules)=false
def KeysV (H:Hp) (kvs:BV):Prop:=∀ q∈kvs,H q.2.1=some (.tup (q.1.map V.bl))
section
variable {P:Program} {w:World} {H:Hp} {h:Heap} {a:Addr}
end
theorem KeysV.same {H H':Hp} {kvs:BV} (h:KeysV H kvs) (s:∀ b ys,H b=some (.tup ys)->H' b=some (.tup ys)):KeysV H' kvs:=fun q hq=>s _ _ (h q hq)
theorem KeysV.upd {P:Program} {w:World} {H:Hp} {kvs k1:BV} {a:Addr} {o:HO} (h:KeysV H kvs) (e:H a=some (dV P w a k1)):KeysV (upd H a o) kvs:=fun q hq=>by
 have:=h q hq
 rw [AG (fun z=>by rw [z,e] at this;exact nomatch Option.some.inj this)]
 exact this
section
variable {X:Cx} {o i e f value:Expr} {pos pos' tpos apos cpos:Pos} {td ty tx tv:TE}
end
section
variable {X:Cx} {P:Program} {w:World} {o i e f:Expr} {pos apos cpos:Pos} {td ty tx:TE}
end
section
variable {prog:Program} {w:World} {A:Around} {E:Value->Shared->Prop} {s:Shared} {d it:Addr} {o:Obj} {es:Array DictEntry} {ep i:Nat}
end
section
variable {X:Cx} {pins:List (Addr × Obj)} {σ:St} {H:Hp} {s:Shared}
theorem BVr.get {kvs:BV} {xs:List (List Bool × Addr × Value)} (r:BVr kvs xs):∀ {i:Nat} {q:List Bool × Addr × V},kvs[i]? = some q->∃ x,xs[i]? = some x/\x.2.1=q.2.1:=by
 induction r with
 | nil=>intro i q e;simp at e
 | @cons a b l1 l2 h t ih =>
  intro i q e
  cases i with
  | zero =>
   simp at e;subst e
   exact ⟨b,by simp,h.2.1.symm⟩
  | succ i =>
   obtain ⟨v,h1,h2⟩:=ih (i:=i) (q:=q) (by simpa using e)
   exact ⟨v,by simpa using h1,h2⟩
end
section
variable {X:Cx} {K:W.Frag}
end
section
variable {X:Cx} {K:W.Frag}
end
open Classical in
noncomputable def OT (K:W.Frag) (H:Hp) (u:Value):Dv:=if h:∃ d x,RelV x u/\Rep K H d x then h.choose else .non
section
variable {X:Cx} {K:W.Frag} {pins:List (Addr × Obj)} {σ:St} {H:Hp} {s:Shared}
end
structure GFd (H:Hp) (t l:Addr) (N:Nat):Prop where
 at_:∃ (i g c:Int) (ns:List Int),0<=i/\0<=g/\0<=c/\c<=N/\H t=some (.lst [.ref l,.int i,.int g,.int c])/\l≠t/\H l=some (.lst (ns.map V.int))/\ns.length≠0
theorem GFd.same {H H':Hp} {t l:Addr} {N:Nat} (F:GFd H t l N) (h:Same H H'):GFd H' t l N:=by
 obtain ⟨i,g,c,ns,h1,h2,h3,h4,h5,h6,h7,h8⟩:=F.at_
 exact ⟨i,g,c,ns,h1,h2,h3,h4,h _ _ h5,h6,h _ _ h7,h8⟩
theorem GFd.upd {H:Hp} {t l p:Addr} {o:HO} {N:Nat} (F:GFd H t l N) (h:H p=none):GFd (L2.upd H p o) t l N:=F.same (Same.upd h)
inductive Dw where
 | non | bl (b:Bool) | int (i:Int) | str (x:Str) | tup (ds:List Dw) | lst (ds:List Dw) | emp
def LG (a:Addr) (xs:List V):Heap->Prop:=fun h=>a≠sysModules/\∃ (its:List Value) (n:Nat),Vals xs its/\h.get? a=some { cls:=.type "list",data:=.seq its.toArray n }
mutual
def RepW (K:W.Frag) (H:Hp):Dw->V->Prop
 | .non,v=>v=.non
 | .bl b,v=>v=.bl b
 | .int i,v=>v=.int i
 | .str x,v=>v=.str x
 | .tup ds,v=>∃ a xs,v=.ref a/\SqT K H a xs/\RepsW K H ds xs
 | .lst ds,v=>∃ a xs,v=.ref a/\H a=some (.ext (LG a xs))/\RepsW K H ds xs
 | .emp,v=>∃ a,v=.ref a/\H a=some (.dK [])
def RepsW (K:W.Frag) (H:Hp):List Dw->List V->Prop
 | [],xs=>xs=[]
 | d::ds,xs=>∃ x r,xs=x::r/\RepW K H d x/\RepsW K H ds r
end
theorem RepsW.length {K:W.Frag} {H:Hp}:∀ {ds:List Dw} {xs:List V},RepsW K H ds xs->ds.length=xs.length
 | [],xs,h=>by unfold RepsW at h;subst h;rfl
 | d::ds,xs,h=>by
  unfold RepsW at h
  obtain ⟨x,r,rfl,_,h⟩:=h
  rw [List.length_cons,List.length_cons,RepsW.length h]
theorem RepsW.get {K:W.Frag} {H:Hp}:∀ {ds:List Dw} {xs:List V} {i:Nat} {d:Dw},RepsW K H ds xs->ds[i]? = some d->∃ x,xs[i]? = some x/\RepW K H d x
 | [],_,_,_,_,e=>by simp at e
 | d::ds,xs,0,_,h,e=>by
  unfold RepsW at h
  obtain ⟨x,r,rfl,h1,_⟩:=h
  simp at e;subst e
  exact ⟨x,rfl,h1⟩
 | d::ds,xs,i+1,_,h,e=>by
  unfold RepsW at h
  obtain ⟨x,r,rfl,_,h⟩:=h
  obtain ⟨y,h1,h2⟩:=RepsW.get (i:=i) h (by simpa using e)
  exact ⟨y,by simpa using h1,h2⟩
mutual
theorem RepW.same {K:W.Frag} {H H':Hp} (s:Same H H'):∀ (d:Dw) (v:V),RepW K H d v->RepW K H' d v
 | .non,v,h=>by unfold RepW at *;exact h
 | .bl b,v,h=>by unfold RepW at *;exact h
 | .int i,v,h=>by unfold RepW at *;exact h
 | .str x,v,h=>by unfold RepW at *;exact h
 | .emp,v,h=>by unfold RepW at *;obtain ⟨a,e,h⟩:=h;exact ⟨a,e,s _ _ h⟩
 | .tup ds,v,h=>by
  unfold RepW at *
  obtain ⟨a,xs,e,h1,h2⟩:=h
  exact ⟨a,xs,e,Ax h1 s,RepsW.same s ds xs h2⟩
 | .lst ds,v,h=>by
  unfold RepW at *
  obtain ⟨a,xs,e,h1,h2⟩:=h
  exact ⟨a,xs,e,s _ _ h1,RepsW.same s ds xs h2⟩
theorem RepsW.same {K:W.Frag} {H H':Hp} (s:Same H H'):∀ (ds:List Dw) (xs:List V),RepsW K H ds xs->RepsW K H' ds xs
 | [],xs,h=>by unfold RepsW at *;exact h
 | d::ds,xs,h=>by
  unfold RepsW at *
  obtain ⟨x,r,e,h1,h2⟩:=h
  exact ⟨x,r,e,RepW.same s d x h1,RepsW.same s ds r h2⟩
end
section
variable {X:Cx} {K:W.Frag} {es:List Expr} {t:TA} {pos:Pos}
end
mutual
def Hr:Dw->Nat
 | .tup ds=>E9 ds+1
 | .lst ds=>E9 ds+1
 | .emp=>1
 | _=>0
def E9:List Dw->Nat
 | []=>0
 | d::ds=>max (Hr d) (E9 ds)
end
mutual
def G0:Dw->Nat
 | .str x=>x.cps.size
 | .tup ds=>FK ds
 | .lst ds=>FK ds
 | _=>0
def FK:List Dw->Nat
 | []=>0
 | d::ds=>G0 d+1+FK ds
end
section
variable {X:Cx} {pins:List (Addr × Obj)} {σ:St} {H:Hp} {s:Shared}
end
section
variable {X:Cx} {K:W.Frag}
end
mutual
def okW (n:Nat):Dw->Bool
 | .int i=>decide (i.natAbs<=n)
 | .str x=>x.cps.toList.all fun c=>decide (c < 16 ^ 8)
 | .tup ds=>FS n ds
 | .lst ds=>FS n ds
 | _=>true
def FS (n:Nat):List Dw->Bool
 | []=>true
 | d::ds=>okW n d && FS n ds
end
structure Fit (n D B:Nat) (d:Dw):Prop where
 ok:okW n d=true
 dep:Hr d<=D
 bulk:G0 d<=B
section
variable {X:Cx} {K:W.Frag}
end
def Ris (xs:Array Nat):Prop:=xs.toList.Pairwise (· < ·)
structure TabG (w:World) (t:SetTable):Prop where
 led:t.led = !w.params.followText "set-order"
 ris:Ris t.place
def SetW (P:Program) (w:World) (h:Heap) (a:Addr) (S:Int->Bool) (n:Nat):Prop :=
 ∃ o es ep t,h.get? a=some o/\o.ExactSet/\o.data=.set es ep t/\ElemsOf (intKind P w) es.toList/\(∀ k,S k=true ↔ ∃ e∈es.toList,(intKind P w).is k e.2=true)/\es.size < scanBound/\t.fits es.size=true/\es.size=n/\TabG w t
section
variable {P:Program} {w:World} {A:Around} {E:Value->Shared->Prop} {s:Shared} {a:Addr}
theorem SetW.at {h h':Heap} {S:Int->Bool} {n:Nat} (x:SetW P w h a S n) (k:∀ o,h.get? a=some o->h'.get? a=some o):SetW P w h' a S n:=by
 obtain ⟨o,es,ep,t,h1,r⟩:=x;exact ⟨o,es,ep,t,k _ h1,r⟩
end
section
variable {P:Program} {w:World} {A:Around} {E:Value->Shared->Prop} {s:Shared} {a:Addr}
end
namespace F
end F
def IsSetIter (h:Heap) (I:Addr) (f:Value) (i:Nat) (a:Addr) (n ep:Nat):Prop:=∃ o,h.get? I=some o/\o.cls=.type "set_iterator" /\ o.data=.fields #[f,.int i 0,.ref a,.int n 0,.int ep 0]
theorem IsSetIter.at {h h':Heap} {I a:Addr} {f:Value} {i n ep:Nat} (x:IsSetIter h I f i a n ep) (e:∀ o,h.get? I=some o->h'.get? I=some o):IsSetIter h' I f i a n ep:=let ⟨o,ho,r⟩:=x;⟨o,e _ ho,r⟩
section
variable {P:Program} {w:World} {A:Around} {E:Value->Shared->Prop} {s:Shared} {a I:Addr}
end
section
variable {P:Program} {w:World} {A:Around} {E:Value->Shared->Prop} {s:Shared} {a I:Addr}
end
end L2
namespace L2
open PySem PySem.Spec PyProof.Rows PySem.W PySem.Calls
section
variable {P:Program} {w:World} {A:Around} {E:Value->Shared->Prop} {s:Shared} {a I:Addr}
end
end L2
namespace L2
open PySem PySem.Spec PyProof.Rows
section
variable {X:Cx} {K:W.Frag} {P:Program} {w:World}
variable {C:Addr} {f:Str} {e o value:Expr} {ta tv td ty:TE} {pos pos':Pos}
end
end L2
namespace L2
open PySem PySem.Spec PyProof.Rows PySem.W
end L2
namespace L2
open PySem PySem.Spec PyProof.Rows PySem.W PySem.Calls
section
variable {P:Program} {w:World} {A:Around} {E:Value->Shared->Prop} {s:Shared}
end
end L2
namespace L2
open PySem PySem.Spec PyProof.Rows PySem.W
section
variable {P:Program} {w:World} {A:Around} {E:Value->Shared->Prop} {s:Shared}
end
section
variable {X:Cx}
end
section
variable {X:Cx} {k:Nat} {f:Addr} {fd:FuncData} {ps:List Str} {sp:Sp} {x:Str} {p pos:Pos} {e:Expr} {es:List Expr} {t:TA} {tn:TE}
end
section
variable {X:Cx} {pins:List (Addr × Obj)} {σ:St} {H:Hp} {s:Shared}
end
section
variable {X:Cx} {Pt c f:Addr} {fd:FuncData} {ps:List Str} {k i:Nat} {kn a:Str} {kp pos lpos:Pos} {params:Arguments} {body:Expr} {scope:Scope} {e:Expr} {es:List Expr} {t:TA} {qual:Str} {spK:Addr->Addr->V->Sp}
end
end L2
namespace L2
open PySem PyProof.Rows
section
variable {X:Cx} {K:W.Frag} {o e:Expr} {to:TE} {t:TA} {apos cpos:Pos}
end
end L2
namespace L2
open PySem PySem.Spec PyProof.Rows PySem.SeqAt
section
variable {X:Cx} {K:W.Frag}
end
end L2
namespace L2
open PySem PySem.Spec PyProof.Rows
section
variable {X:Cx} {K:W.Frag}
end
section
variable {X:Cx} {K:W.Frag} {e:Expr} {te:TE} {p pos kpos cp:Pos} {kd:Nat} {i:Int}
end
end L2
namespace L2
open PySem PyProof.Rows
section
variable {X:Cx} {K:W.Frag} {o e:Expr} {to:TE} {t:TA} {apos cpos:Pos}
end
end L2
namespace L2
open PySem PySem.Spec PyProof.Rows
section
variable {X:Cx} {K:W.Frag} {e:Expr} {te:TE} {lo hi:Option Expr} {tl th:TO} {pos p2:Pos}
end
end L2
namespace L2
open PySem
section
variable {X:Cx} {pins:List (Addr × Obj)} {σ:St} {H:Hp} {s:Shared} {a:Addr}
variable {kvs:List (Key × V)} {i:Expr} {pos pos' apos:Pos} {ty:TE} {x:Str} {P:Program} {w:World} {K:W.Frag} {o:Expr} {td:TE}
end
end L2
namespace L2
open PySem Builtin Builtin.Str
section
variable {X:Cx} {a:Addr} {kvs:List (Key × V)} {o e:Expr} {ty to:TE} {t:TA} {apos cpos:Pos} {P:Program} {w:World} {K:W.Frag}
end
end L2
namespace L2
open PySem PyProof.Rows
def gal:Bool->Keyed->Array Keyed->Nat->Nat->Nat->StateT SortSt Sem (Option Nat):=sortPriv% PySem.Builtin.gallop
def mLo:Array Keyed->Array Keyed->StateT SortSt Sem (Array Keyed):=sortPriv% PySem.Builtin.mergeLo
def mHi:Array Keyed->Array Keyed->StateT SortSt Sem (Array Keyed):=sortPriv% PySem.Builtin.mergeHi
section
variable {prog:Program} {w:World} {A:Around} {E:Value->Shared->Prop} {s:Shared}
structure Cmp (prog:Program) (w:World) (A:Around) (E:Value->Shared->Prop) (s:Shared) (kd:SortKind) (El:Keyed->Prop) (κ:Keyed->Int):Prop where
 lt:∀ (x y:Keyed) (st:SortSt) (Q:Option Bool->SortSt->Prop),El x->El y->kindOf st=kd->Q (some (decide (κ x < κ y))) st->wpS (model prog w) A E s (lt' x y) Q st
variable {kd:SortKind} {El:Keyed->Prop} {κ:Keyed->Int}
theorem Aa {arr:Array Keyed} {i:Nat} {x:Keyed} {st:SortSt} {Q:Keyed->SortSt->Prop} (h:arr[i]? = some x) (q:Q x st):wpS (model prog w) A E s (elem' arr i) Q st:=by
 rw [elem'_eq,h]
 exact wpS_pure q
theorem Ma {G:Prop} {β:Type} (P:(Nat->Nat->β)->Prop) (Z:Nat->Nat->β) (h1:P Z->G) (h2:P Z):G:=h1 h2
def byd (κ:Keyed->Int) (left:Bool) (key x:Keyed):Bool:=if left=true then decide (κ x < κ key) else !decide (κ key < κ x)
theorem DB (C:Cmp prog w A E s kd El κ) {left:Bool} {key:Keyed} {arr:Array Keyed} {base n hint:Nat} {st:SortSt} {Q:Option Nat->SortSt->Prop} (hk:kindOf st=kd) (he:El key) (hh:hint < n)
 (f:Nat->Keyed) (hf:∀ i,i < n->arr[base+i]? = some (f i)/\El (f i)) (hs:∀ i j,i<=j->j < n->κ (f i)<=κ (f j))
 (q:∀ k,k<=n->(∀ i,i < k->if left=true then κ (f i) < κ key else ¬ κ key < κ (f i))->(∀ i,k<=i->i < n->¬ (if left=true then κ (f i) < κ key else ¬ κ key < κ (f i)))->Q (some k) st) :
 wpS (model prog w) A E s (gal left key arr base n hint) Q st:=by
 have mono:∀ i j,i<=j->j < n->byd κ left key (f j)=true->byd κ left key (f i)=true:=fun i j h1 h2 h3=>by
  have:=hs i j h1 h2
  unfold byd at *
  cases left
  ·simp only [Bool.false_eq_true,if_false,Bool.not_eq_true',decide_eq_false_iff_not] at *;lia
  ·simp only [if_true,decide_eq_true_eq] at *;lia
 have q':∀ k,k<=n->(∀ i,i < k->byd κ left key (f i)=true)->(∀ i,k<=i->i < n->byd κ left key (f i)=false)->Q (some k) st:=fun k h1 h2 h3=>by
  refine q k h1 (fun i hi=>?_) (fun i h4 h5=>?_)
  ·have:=h2 i hi
   unfold byd at this
   cases left
   ·simpa using this
   ·simpa using this
  ·have:=h3 i h4 h5
   unfold byd at this
   cases left
   ·simpa using this
   ·simpa using this
 have by_ok:∀ i,i < n->∀ Q':Option Bool->SortSt->Prop,Q' (some (byd κ left key (f i))) st->wpS (model prog w) A E s (do let x <- elem' arr (base+i);if left=true then lt' x key else do let r <- lt' key x;pure (r.map (!·))) Q' st:=fun i hi Q' h=>by
  refine wpS_bind (Aa (hf i hi).1 ?_)
  unfold byd at h
  cases left
  ·simp only [Bool.false_eq_true,if_false] at h ⊢
   exact wpS_bind (C.lt _ _ _ _ he (hf i hi).2 hk (wpS_pure h))
  ·simp only [if_true] at h ⊢
   exact C.lt _ _ _ _ (hf i hi).2 he hk h
 clear q
 generalize byd κ left key=B at *
 apply Ma (fun (Z:Nat->Nat->StateT SortSt Sem (Option Nat))=>∀ l r,(∀ i,i < l->B (f i)=true)->(∀ i,r<=i->i < n->B (f i)=false)->l<=r->r<=n->wpS (model prog w) A E s (Z l r) Q st)
 case h1 =>
  intro bin
  delta gal
  refine wpS_bind ?_
  refine by_ok hint hh _ ?_
  dsimp only
  cases hbh:B (f hint)
  ·rw [if_neg (by decide)]
   refine wpS_bind (wpS_mono (wpS_forRange (I:=fun x c st'=>st'=st/\∃ lo of',c=(none,lo,of')/\lo<=hint/\lo < of'/\x < of'/\B (f (hint - lo))=false)
    (Q:=fun c st'=>st'=st/\∃ lo of',c=(none,lo,of')/\lo<=hint/\lo < of'/\B (f (hint - lo))=false/\(of'<=hint->B (f (hint - of'))=true)) ?step ?fin ⟨rfl,0,1,rfl,Nat.zero_le _,by decide,by decide,hbh⟩) ?post)
   case fin =>
    rintro c st' ⟨rfl,lo,of',rfl,h1,h2,h3,h4⟩
    exact ⟨rfl,lo,of',rfl,h1,h2,h4,fun z=>by lia⟩
   case step =>
    rintro x c st' _ hx ⟨rfl,lo,of',rfl,h1,h2,h3,h4⟩
    dsimp only
    by_cases hge:of' ≥ hint+1
    ·rw [if_pos hge]
     exact wpS_pure ⟨rfl,lo,of',rfl,h1,h2,h4,fun z=>by lia⟩
    ·rw [if_neg hge]
     refine wpS_bind (by_ok (hint - of') (by lia) _ ?_)
     dsimp only
     cases hb:B (f (hint - of'))
     ·rw [if_neg (by decide)]
      exact wpS_pure ⟨rfl,of',2 * of'+1,rfl,by lia,by lia,by lia,hb⟩
     ·rw [if_pos rfl]
      exact wpS_pure ⟨rfl,lo,of',rfl,h1,h2,h4,fun _=>hb⟩
   case post =>
    rintro c st' ⟨rfl,lo,of',rfl,h1,h2,h4,h5⟩
    dsimp only
    have a1:∀ i,i < hint+1 - min of' (hint+1)->B (f i)=true:=fun i hi=>mono i (hint - of') (by lia) (by lia) (h5 (by lia))
    have a2:∀ i,hint - lo<=i->i < n->B (f i)=false:=fun i hi hn=>by
     cases hb:B (f i)
     ·rfl
     ·rw [mono _ _ hi hn hb] at h4;cases h4
    have a3:hint+1 - min of' (hint+1)<=hint - lo:=by lia
    have a4:hint - lo<=n:=by lia
    generalize hint+1 - min of' (hint+1)=l0 at *
    generalize hint - lo=r0 at *
    exact bin l0 r0 a1 a2 a3 a4
  ·rw [if_pos rfl]
   refine wpS_bind (wpS_mono (wpS_forRange (I:=fun x c st'=>st'=st/\∃ lo of',c=(none,lo,of')/\hint+lo < n/\lo < of'/\x < of'/\B (f (hint+lo))=true)
    (Q:=fun c st'=>st'=st/\∃ lo of',c=(none,lo,of')/\hint+lo < n/\lo < of'/\B (f (hint+lo))=true/\(hint+of' < n->B (f (hint+of'))=false)) ?step ?fin ⟨rfl,0,1,rfl,by lia,by decide,by decide,hbh⟩) ?post)
   case fin =>
    rintro c st' ⟨rfl,lo,of',rfl,h1,h2,h3,h4⟩
    exact ⟨rfl,lo,of',rfl,h1,h2,h4,fun z=>by lia⟩
   case step =>
    rintro x c st' _ hx ⟨rfl,lo,of',rfl,h1,h2,h3,h4⟩
    dsimp only
    by_cases hge:of' ≥ n - hint
    ·rw [if_pos hge]
     exact wpS_pure ⟨rfl,lo,of',rfl,h1,h2,h4,fun z=>by lia⟩
    ·rw [if_neg hge]
     refine wpS_bind (by_ok (hint+of') (by lia) _ ?_)
     dsimp only
     cases hb:B (f (hint+of'))
     ·rw [if_pos (show (!false)=true from rfl)]
      exact wpS_pure ⟨rfl,lo,of',rfl,h1,h2,h4,fun _=>hb⟩
     ·rw [if_neg (by decide)]
      exact wpS_pure ⟨rfl,of',2 * of'+1,rfl,by lia,by lia,by lia,hb⟩
   case post =>
    rintro c st' ⟨rfl,lo,of',rfl,h1,h2,h4,h5⟩
    dsimp only
    have a1:∀ i,i < hint+lo+1->B (f i)=true:=fun i hi=>mono i (hint+lo) (by lia) (by lia) h4
    have a2:∀ i,hint+min of' (n - hint)<=i->i < n->B (f i)=false:=fun i hi hn=>by
     cases hb:B (f i)
     ·rfl
     ·have:=mono (hint+of') i (by lia) hn hb
      rw [h5 (by lia)] at this;cases this
    have a3:hint+lo+1<=hint+min of' (n - hint):=by lia
    have a4:hint+min of' (n - hint)<=n:=by lia
    generalize hint+lo+1=l0 at *
    generalize hint+min of' (n - hint)=r0 at *
    exact bin l0 r0 a1 a2 a3 a4
 intro l r a1 a2 a3 a4
 refine wpS_bind (wpS_mono (wpS_forRange (I:=fun x c st'=>st'=st/\∃ l r,c=(none,l,r)/\(∀ i,i < l->B (f i)=true)/\(∀ i,r<=i->i < n->B (f i)=false)/\l<=r/\r<=n/\r - l<=n - x)
  (Q:=fun c st'=>st'=st/\∃ l,c=(none,l,l)/\(∀ i,i < l->B (f i)=true)/\(∀ i,l<=i->i < n->B (f i)=false)/\l<=n) ?step ?fin ⟨rfl,l,r,rfl,a1,a2,a3,a4,by lia⟩) ?post)
 case fin =>
  rintro c st' ⟨rfl,l,r,rfl,h1,h2,h3,h4,h5⟩
  have:l=r:=by lia
  subst this
  exact ⟨rfl,l,rfl,h1,h2,h4⟩
 case step =>
  rintro x c st' _ hx ⟨rfl,l,r,rfl,h1,h2,h3,h4,h5⟩
  dsimp only
  by_cases hge:l ≥ r
  ·rw [if_pos hge]
   have:l=r:=by lia
   subst this
   exact wpS_pure ⟨rfl,l,rfl,h1,h2,h4⟩
  ·rw [if_neg hge]
   refine wpS_bind (by_ok (l+(r - l) / 2) (by lia) _ ?_)
   dsimp only
   cases hb:B (f (l+(r - l) / 2))
   ·rw [if_neg (by decide)]
    refine wpS_pure ⟨rfl,l,l+(r - l) / 2,rfl,h1,fun i hi hn=>?_,by lia,by lia,by lia⟩
    cases hb2:B (f i)
    ·rfl
    ·rw [mono _ _ hi hn hb2] at hb;cases hb
   ·rw [if_pos rfl]
    exact wpS_pure ⟨rfl,l+(r - l) / 2+1,r,rfl,fun i hi=>mono i _ (by lia) (by lia) hb,h2,by lia,h4,by lia⟩
 case post =>
  rintro c st' ⟨rfl,l,rfl,h1,h2,h4⟩
  dsimp only
  exact wpS_pure (q' l h4 h1 h2)
end
section
variable {κ:Keyed->Int}
def Srt (κ:Keyed->Int) (l:List Keyed):Prop:=l.Pairwise fun x y=>κ x<=κ y
structure Mg (κ:Keyed->Int) (la lb o:List Keyed) (i j:Nat):Prop where
 il:i<=la.length
 jl:j<=lb.length
 perm:(o++(la.drop i++lb.drop j)).Perm (la++lb)
 srt:Srt κ o
 le:∀ x∈o,∀ y∈la.drop i++lb.drop j,κ x<=κ y
variable {la lb o:List Keyed} {i j n:Nat}
theorem BD {a b:List Keyed} (h1:Srt κ a) (h2:Srt κ b) (h:∀ x∈a,∀ y∈b,κ x<=κ y):Srt κ (a++b):=List.pairwise_append.mpr ⟨h1,h2,h⟩
theorem Mg.a (m:Mg κ la lb o i j) (ha:Srt κ la) (hn:i+n<=la.length) (h:∀ x∈(la.drop i).take n,∀ y∈lb.drop j,κ x<=κ y):Mg κ la lb (o++(la.drop i).take n) (i+n) j:=by
 have hd:la.drop i=(la.drop i).take n++la.drop (i+n):=by
  rw [<- List.drop_drop,List.take_append_drop]
 have hs:Srt κ (la.drop i):=List.Pairwise.sublist (List.drop_sublist _ _) ha
 have hs2:=hs
 rw [hd] at hs2
 obtain ⟨s1,s2,s3⟩:=List.pairwise_append.mp hs2
 refine ⟨hn,m.jl,?_,BD m.srt s1 fun x hx y hy=>m.le x hx y (List.mem_append_left _ (List.mem_of_mem_take hy)),fun x hx y hy=>?_⟩
 ·have:=m.perm
  rw [hd] at this
  rw [List.append_assoc]
  rw [List.append_assoc] at this
  exact this
 ·rcases List.mem_append.mp hx with hx | hx
  ·refine m.le x hx y ?_
   rcases List.mem_append.mp hy with hy | hy
   ·rw [hd];exact List.mem_append_left _ (List.mem_append_right _ hy)
   ·exact List.mem_append_right _ hy
  ·rcases List.mem_append.mp hy with hy | hy
   ·exact s3 x hx y hy
   ·exact h x hx y hy
theorem Mg.b (m:Mg κ la lb o i j) (hb:Srt κ lb) (hn:j+n<=lb.length) (h:∀ x∈(lb.drop j).take n,∀ y∈la.drop i,κ x<=κ y):Mg κ la lb (o++(lb.drop j).take n) i (j+n):=by
 have hd:lb.drop j=(lb.drop j).take n++lb.drop (j+n):=by
  rw [<- List.drop_drop,List.take_append_drop]
 have hs2:Srt κ (lb.drop j):=List.Pairwise.sublist (List.drop_sublist _ _) hb
 rw [hd] at hs2
 obtain ⟨s1,s2,s3⟩:=List.pairwise_append.mp hs2
 refine ⟨m.il,hn,?_,BD m.srt s1 fun x hx y hy=>m.le x hx y (List.mem_append_right _ (List.mem_of_mem_take hy)),fun x hx y hy=>?_⟩
 ·have h1:=m.perm
  rw [hd] at h1
  refine List.Perm.trans ?_ h1
  rw [List.append_assoc]
  refine List.Perm.append_left _ ?_
  rw [<- List.append_assoc,<- List.append_assoc]
  exact List.Perm.append_right _ List.perm_append_comm
 ·rcases List.mem_append.mp hx with hx | hx
  ·refine m.le x hx y ?_
   rcases List.mem_append.mp hy with hy | hy
   ·exact List.mem_append_left _ hy
   ·rw [hd];exact List.mem_append_right _ (List.mem_append_right _ hy)
  ·rcases List.mem_append.mp hy with hy | hy
   ·exact h x hx y hy
   ·exact s3 x hx y hy
theorem Mg.end (m:Mg κ la lb o i j) (ha:Srt κ la) (h:lb.length<=j):(o++la.drop i++lb.drop j).Perm (la++lb)/\Srt κ (o++la.drop i++lb.drop j):=by
 have e:lb.drop j=[]:=List.drop_eq_nil_of_le h
 have h1:=m.perm
 rw [e,List.append_nil] at *
 exact ⟨h1,BD m.srt (List.Pairwise.sublist (List.drop_sublist _ _) ha) fun x hx y hy=>m.le x hx y (List.mem_append_left _ hy)⟩
theorem Mg.end2 (m:Mg κ la lb o i j) (ha:Srt κ la) (hb:Srt κ lb) (h:∀ x∈lb.drop j,∀ y∈la.drop i,κ x<=κ y):(o++lb.drop j++la.drop i).Perm (la++lb)/\Srt κ (o++lb.drop j++la.drop i):=by
 refine ⟨?_,?_⟩
 ·refine List.Perm.trans ?_ m.perm
  rw [List.append_assoc]
  exact List.Perm.append_left _ List.perm_append_comm
 ·rw [List.append_assoc]
  refine BD m.srt (BD (List.Pairwise.sublist (List.drop_sublist _ _) hb) (List.Pairwise.sublist (List.drop_sublist _ _) ha) h) fun x hx y hy=>m.le x hx y ?_
  rcases List.mem_append.mp hy with hy | hy
  ·exact List.mem_append_right _ hy
  ·exact List.mem_append_left _ hy
theorem Mg.start (ha:Srt κ la) (hb:Srt κ lb):Mg κ la lb [] 0 0:=⟨Nat.zero_le _,Nat.zero_le _,List.Perm.refl _,List.Pairwise.nil,fun x hx=>by cases hx⟩
end
structure Sg (st st':SortSt):Prop where
 k:kindOf st'=kindOf st
 a:arrOf st'=arrOf st
 p:pendingOf st'=pendingOf st
 f:failedOf st'=failedOf st
theorem Sg.refl {st:SortSt}:Sg st st:=⟨rfl,rfl,rfl,rfl⟩
theorem Sg.trans {a b c:SortSt} (x:Sg a b) (y:Sg b c):Sg a c:=⟨y.k.trans x.k,y.a.trans x.a,y.p.trans x.p,y.f.trans x.f⟩
section
variable {prog:Program} {w:World} {A:Around} {E:Value->Shared->Prop} {s:Shared} {kd:SortKind} {El:Keyed->Prop} {κ:Keyed->Int}
theorem AU {xs:Array Keyed} {i:Nat} (h:i < xs.toList.length):xs[i]? = some (xs.toList[i]):=by
 rw [<- Array.getElem?_toList,List.getElem?_eq_getElem h]
theorem Gb {M:Model} {α:Type} {m:StateT SortSt Sem α} {R:α->SortSt->Prop} {st:SortSt} {φ:Type} (P:φ->(α->SortSt->Prop)->SortSt->Prop) (Z:φ) (h1:P Z R st->wpS M A E s m R st) (h2:P Z R st):wpS M A E s m R st:=h1 h2
theorem Ek {xs:Array Keyed} (i k:Nat):(xs.extract i (i+k)).toList=(xs.toList.drop i).take k:=by
 rw [Array.toList_extract,List.extract_eq_take_drop,Nat.add_sub_cancel_left]
theorem ER {xs:Array Keyed} (i:Nat):(xs.extract i xs.size).toList=xs.toList.drop i:=by
 rw [Array.toList_extract,List.extract_eq_take_drop,List.take_of_length_le (by rw [List.length_drop,Array.length_toList];lia)]
theorem Bb {l:List Keyed} {i:Nat} (h:i < l.length):(l.drop i).take 1=[l[i]]:=by
 rw [List.drop_eq_getElem_cons h]
 rfl
theorem Bi {l:List Keyed} {i:Nat} {x:Keyed} (h:x∈l.drop i):∃ t,∃ ht:i+t < l.length,x=l[i+t]:=by
 obtain ⟨t,ht,rfl⟩:=List.getElem_of_mem h
 rw [List.length_drop] at ht
 exact ⟨t,by lia,by rw [List.getElem_drop]⟩
theorem Fg {l:List Keyed} {i n:Nat} {x:Keyed} (h:x∈(l.drop i).take n):∃ t,t < n/\∃ ht:i+t < l.length,x=l[i+t]:=by
 obtain ⟨t,ht,rfl⟩:=List.getElem_of_mem h
 rw [List.length_take,List.length_drop] at ht
 exact ⟨t,by lia,by lia,by rw [List.getElem_take,List.getElem_drop]⟩
theorem Am {l:List Keyed} (h:Srt κ l) {i j:Nat} (hij:i<=j) (hj:j < l.length):κ (l[i]'(by lia))<=κ l[j]:=by
 rcases Nat.eq_or_lt_of_le hij with e | e
 ·subst e;exact Int.le_refl _
 ·exact List.pairwise_iff_getElem.mp h i j (by lia) hj e
theorem NH (C:Cmp prog w A E s kd El κ) {a b:Array Keyed} {st:SortSt} {Q:Array Keyed->SortSt->Prop} (hk:kindOf st=kd) (ha:Srt κ a.toList) (hb:Srt κ b.toList) (hea:∀ x∈a.toList,El x) (heb:∀ x∈b.toList,El x)
 (la1:0 < a.toList.length) (lb1:0 < b.toList.length) (h0:κ b.toList[0] < κ a.toList[0]) (hl:∀ x∈b.toList,κ x < κ (a.toList[a.toList.length - 1]))
 (q:∀ (o:Array Keyed) st',Sg st st'->o.toList.Perm (a.toList++b.toList)->Srt κ o.toList->Q o st'):wpS (model prog w) A E s (mLo a b) Q st:=by
 have m0:=Mg.start ha hb
 have m1:=m0.b (n:=1) hb (by lia) (fun x hx y hy=>by
  have:x=b.toList[0]:=by
   rw [List.drop_zero,List.take_one] at hx
   simpa [List.head?_eq_getElem?,List.getElem?_eq_getElem lb1] using hx
  subst this
  rw [List.drop_zero] at hy
  obtain ⟨i,hi,rfl⟩:=List.getElem_of_mem hy
  rcases Nat.eq_zero_or_pos i with z | z
  ·subst z;lia
  ·have:=List.pairwise_iff_getElem.mp ha 0 i (by lia) hi z
   lia)
 have sa:a.size=a.toList.length:=Array.length_toList.symm
 have sb:b.size=b.toList.length:=Array.length_toList.symm
 have fd:∀ (o:Array Keyed) i j st',Sg st st'->Mg κ a.toList b.toList o.toList i j->(b.toList.length<=j\/a.toList.length<=i)->Q (o++a.extract i a.size++b.extract j b.size) st':=fun o i j st' hs m hj=>by
  have e:(o++a.extract i a.size++b.extract j b.size).toList=o.toList++a.toList.drop i++b.toList.drop j:=by
   rw [Array.toList_append,Array.toList_append,ER,ER]
  rcases hj with hj | hj
  ·obtain ⟨h1,h2⟩:=m.end ha hj
   exact q _ st' hs (by rw [e];exact h1) (by rw [e];exact h2)
  ·have e0:a.toList.drop i=[]:=List.drop_eq_nil_of_le hj
   obtain ⟨h1,h2⟩:=m.end2 ha hb (by rw [e0];intro x _ y hy;cases hy)
   rw [e0,List.append_nil] at h1 h2
   exact q _ st' hs (by rw [e,e0,List.append_nil];exact h1) (by rw [e,e0,List.append_nil];exact h2)
 have fl:∀ (o:Array Keyed) i j st',Sg st st'->Mg κ a.toList b.toList o.toList i j->i+1=a.toList.length->Q (o++b.extract j b.size++a.extract i a.size) st':=fun o i j st' hs m hi=>by
  obtain ⟨h1,h2⟩:=m.end2 ha hb (fun x hx y hy=>by
   obtain ⟨t,ht,rfl⟩:=Bi hy
   have h3:=hl x (List.mem_of_mem_drop hx)
   have:i+t=a.toList.length - 1:=by lia
   simp only [this]
   lia)
  have e:(o++b.extract j b.size++a.extract i a.size).toList=o.toList++b.toList.drop j++a.toList.drop i:=by
   rw [Array.toList_append,Array.toList_append,ER,ER]
  exact q _ st' hs (by rw [e];exact h1) (by rw [e];exact h2)
 clear q
 delta mLo
 refine wpS_bind (wpS_lift (wpAny_rule ⟨rfl,?_⟩))
 dsimp only
 refine wpS_bind (Aa (AU lb1) ?_)
 have m1':Mg κ a.toList b.toList (#[b.toList[0]]:Array Keyed).toList 0 1:=by
  have:=m1
  rw [Bb lb1] at this
  exact this
 by_cases c1:1=b.size
 ·rw [if_pos (by simpa using c1)]
  exact wpS_pure (fd _ 0 1 st Sg.refl m1' (.inl (by lia)))
 rw [if_neg (by simpa using c1)]
 by_cases c2:0+1=a.size
 ·rw [if_pos (by simpa using c2)]
  exact wpS_pure (fl _ 0 1 st Sg.refl m1' (by lia))
 rw [if_neg (by simpa using c2)]
 refine wpS_bind (wpS_get ?_)
 refine wpS_bind (wpS_mono (wpS_forRange (I:=fun x c st'=>Sg st st'/\∃ o i j mg,c=(none,o,i,j,mg)/\Mg κ a.toList b.toList o.toList i j/\i+1 < a.toList.length/\j < b.toList.length/\x < i+j)
  (Q:=fun c st'=>∃ r,c.1=some r/\Q r st') ?step ?fin ⟨Sg.refl,_,0,1,_,rfl,m1',by lia,by lia,by lia⟩) ?post)
 case fin =>
  rintro c st' ⟨hs,o,i,j,mg,rfl,m,h1,h2,h3⟩
  lia
 case post =>
  rintro ⟨r,o,i,j,mg⟩ st' ⟨r',e,h⟩
  cases e
  exact wpS_pure h
 case step =>
  rintro X c st1 _ hX ⟨hs1,o,i,j,mg,rfl,m,h1,h2,h3⟩
  dsimp only
  refine wpS_bind (wpS_mono (wpS_forRange (I:=fun x c st2=>st2=st1/\∃ o' i' j' ac bc,c=(none,o',i',j',ac,bc)/\Mg κ a.toList b.toList o'.toList i' j'/\i'+1 < a.toList.length/\j' < b.toList.length/\i+j+x<=i'+j')
   (Q:=fun c st2=>st2=st1/\((∃ r,c.1=some r/\Q r st1)\/∃ o' i' j' ac bc,c=(none,o',i',j',ac,bc)/\Mg κ a.toList b.toList o'.toList i' j'/\i'+1 < a.toList.length/\j' < b.toList.length/\i+j+1<=i'+j')) ?istep ?ifin ⟨rfl,o,i,j,0,0,rfl,m,h1,h2,Nat.le_refl _⟩) ?ipost)
  case ifin =>
   rintro c st2 ⟨rfl,o',i',j',ac,bc,rfl,m',h1',h2',h3'⟩
   exact ⟨rfl,.inr ⟨o',i',j',ac,bc,rfl,m',h1',h2',by lia⟩⟩
  case istep =>
   rintro x c st2 _ hx ⟨rfl,o',i',j',ac,bc,rfl,m',h1',h2',h3'⟩
   dsimp only
   have hi':i' < a.toList.length:=by lia
   refine wpS_bind (Aa (AU h2') (wpS_bind (Aa (AU hi') ?_)))
   refine wpS_bind (C.lt _ _ _ _ (heb _ (List.getElem_mem h2')) (hea _ (List.getElem_mem hi')) (hs1.k.trans hk) ?_)
   dsimp only
   by_cases hw:κ b.toList[j'] < κ a.toList[i']
   ·rw [if_pos (decide_eq_true hw)]
    have m2:=m'.b (n:=1) hb (by lia) (fun x hx y hy=>by
     rw [Bb h2',List.mem_singleton] at hx
     subst hx
     obtain ⟨t,ht,rfl⟩:=Bi hy
     have:=Am ha (show i'<=i'+t by lia) ht
     lia)
    rw [Bb h2',<- Array.toList_push] at m2
    refine wpS_bind (Aa (AU h2') ?_)
    by_cases c3:j'+1=b.size
    ·rw [if_pos (by simpa using c3)]
     exact wpS_pure ⟨rfl,.inl ⟨_,rfl,fd _ _ _ _ hs1 m2 (.inl (by lia))⟩⟩
    ·rw [if_neg (by simpa using c3)]
     by_cases c4:bc+1 ≥ mg
     ·rw [if_pos c4]
      exact wpS_pure ⟨rfl,.inr ⟨_,_,_,_,_,rfl,m2,h1',by lia,by lia⟩⟩
     ·rw [if_neg c4]
      exact wpS_pure ⟨rfl,_,_,_,_,_,rfl,m2,h1',by lia,by lia⟩
   ·rw [if_neg (fun z=>hw (of_decide_eq_true z))]
    have m2:=m'.a (n:=1) ha (by lia) (fun x hx y hy=>by
     rw [Bb hi',List.mem_singleton] at hx
     subst hx
     obtain ⟨t,ht,rfl⟩:=Bi hy
     have:=Am hb (show j'<=j'+t by lia) ht
     lia)
    rw [Bb hi',<- Array.toList_push] at m2
    refine wpS_bind (Aa (AU hi') ?_)
    by_cases c3:i'+1+1=a.size
    ·rw [if_pos (by simpa using c3)]
     exact wpS_pure ⟨rfl,.inl ⟨_,rfl,fl _ _ _ _ hs1 m2 (by lia)⟩⟩
    ·rw [if_neg (by simpa using c3)]
     by_cases c4:ac+1 ≥ mg
     ·rw [if_pos c4]
      exact wpS_pure ⟨rfl,.inr ⟨_,_,_,_,_,rfl,m2,by lia,h2',by lia⟩⟩
     ·rw [if_neg c4]
      exact wpS_pure ⟨rfl,_,_,_,_,_,rfl,m2,by lia,h2',by lia⟩
  case ipost =>
   rintro ⟨r,o1,i1,j1,ac1,bc1⟩ st2 ⟨rfl,⟨r',e,h⟩ | ⟨o',i',j',ac,bc,e,m',h1',h2',h3'⟩⟩
   ·cases e
    exact wpS_pure ⟨_,rfl,h⟩
   cases e
   dsimp only
   refine wpS_bind (wpS_lift (wpAny_rule ⟨rfl,?_⟩))
   refine wpS_bind (wpS_mono (wpS_forRange (I:=fun x c st3=>Sg st st3/\∃ o' i' j' mg ac bc,c=(none,o',i',j',mg,ac,bc)/\Mg κ a.toList b.toList o'.toList i' j'/\i'+1 < a.toList.length/\j' < b.toList.length/\i+j+1<=i'+j')
    (Q:=fun c st3=>Sg st st3/\((∃ r,c.1=some r/\Q r st3)\/∃ o' i' j' mg ac bc,c=(none,o',i',j',mg,ac,bc)/\Mg κ a.toList b.toList o'.toList i' j'/\i'+1 < a.toList.length/\j' < b.toList.length/\i+j+1<=i'+j')) ?gstep ?gfin ⟨hs1,_,_,_,_,_,_,rfl,m',h1',h2',h3'⟩) ?gpost)
   case gfin =>
    rintro c st3 ⟨hs3,h⟩
    exact ⟨hs3,.inr h⟩
   case gpost =>
    rintro ⟨r,o2,i2,j2,mg2,ac2,bc2⟩ st3 ⟨hs3,⟨r',e,h⟩ | ⟨o',i',j',mg',ac,bc,e,m',h1',h2',h3'⟩⟩
    ·cases e
     exact wpS_pure ⟨_,rfl,h⟩
    cases e
    dsimp only
    refine wpS_bind (wpS_modify (wpS_pure ⟨hs3.trans ⟨rfl,rfl,rfl,rfl⟩,_,_,_,_,rfl,m',h1',h2',by lia⟩))
   case gstep =>
    clear m' h1' h2' h3'
    rintro x c st3 _ hx ⟨hs3,o',i',j',mg',ac,bc,rfl,m',h1',h2',h3'⟩
    dsimp only
    have hi':i' < a.toList.length:=by lia
    apply Gb (fun (Z:Nat->StateT SortSt Sem (ForInStep (Option (Array Keyed) × Array Keyed × Nat × Nat × Nat × Nat × Nat))) R st4=>∀ m,wpS (model prog w) A E s (Z m) R st4)
    case h1 =>
     intro zz
     by_cases hm:mg' > 1
     ·rw [if_pos hm]
      generalize mg' - 1=m2
      exact zz m2
     ·rw [if_neg hm]
      generalize mg'=m2
      exact zz m2
    case h2 =>
     intro m2
     refine wpS_bind (wpS_modify ?_)
     have hs4:=hs3.trans (⟨rfl,rfl,rfl,rfl⟩:Sg st3 (SortSt.mk' (kindOf st3) (arrOf st3) (pendingOf st3) m2 (failedOf st3)))
     refine wpS_bind (Aa (AU h2') ?_)
     have fa:∀ t,t < a.size - i'->∃ ht:i'+t < a.toList.length,a.toList.getD (i'+t) a.toList[i']=a.toList[i'+t]:=fun t ht=>⟨by lia,by rw [List.getD_eq_getElem?_getD,List.getElem?_eq_getElem (by lia)];rfl⟩
     refine wpS_bind (DB C (hs4.k.trans hk) (heb _ (List.getElem_mem h2')) (by lia) (fun t=>a.toList.getD (i'+t) a.toList[i']) (fun t ht=>?_) (fun t t' h h'=>?_) fun k hkn hk1 hk2=>?_)
     ·obtain ⟨h5,h6⟩:=fa t ht
      rw [h6]
      exact ⟨AU h5,hea _ (List.getElem_mem h5)⟩
     ·obtain ⟨h5,h6⟩:=fa t (by lia)
      obtain ⟨h7,h8⟩:=fa t' h'
      rw [h6,h8]
      exact Am ha (by lia) h7
     dsimp only
     simp only [Bool.false_eq_true,if_false,Decidable.not_not] at hk1 hk2
     have hlast:=hl _ (List.getElem_mem h2')
     have hkn':k < a.size - i':=by
      rcases Nat.lt_or_ge k (a.size - i') with z | z
      ·exact z
      ·have h5:=hk1 (a.size - i' - 1) (by lia)
       obtain ⟨h6,h7⟩:=fa (a.size - i' - 1) (by lia)
       rw [h7] at h5
       have e:i'+(a.size - i' - 1)=a.toList.length - 1:=by lia
       simp only [e] at h5
       lia
     have mk:=m'.a (n:=k) ha (by lia) (fun x hx y hy=>by
      obtain ⟨t,ht,h5,rfl⟩:=Fg hx
      obtain ⟨t',h6,rfl⟩:=Bi hy
      have h7:=hk1 t ht
      obtain ⟨h8,h9⟩:=fa t (by lia)
      rw [h9] at h7
      have:=Am hb (show j'<=j'+t' by lia) h6
      lia)
     have hnx:∃ h9:i'+k < a.toList.length,κ b.toList[j'] < κ a.toList[i'+k]:=by
      obtain ⟨h8,h9⟩:=fa k hkn'
      have h7:=hk2 k (Nat.le_refl _) hkn'
      rw [h9] at h7
      exact ⟨h8,h7⟩
     have hdr0:∀ y∈a.toList.drop (i'+k),κ b.toList[j']<=κ y:=fun y hy=>by
      obtain ⟨t,ht,rfl⟩:=Bi hy
      obtain ⟨h8,h9⟩:=hnx
      have:=Am ha (show i'+k<=i'+k+t by lia) ht
      lia
     obtain ⟨o2,i2,hc,mo2,hi2,hdr,hii⟩:∃ (o2:Array Keyed) (i2:Nat),((k > 0/\o'++a.extract i' (i'+k)=o2/\i'+k=i2)\/(¬ k > 0/\o'=o2/\i'=i2))/\Mg κ a.toList b.toList o2.toList i2 j'/\(i2+1 < a.toList.length\/k > 0/\i2+1=a.toList.length)/\(∀ y∈a.toList.drop i2,κ b.toList[j']<=κ y)/\i'<=i2:=by
      by_cases k0:k > 0
      ·rw [<- Ek,<- Array.toList_append] at mk
       exact ⟨_,_,.inl ⟨k0,rfl,rfl⟩,mk,by lia,hdr0,by lia⟩
      ·have e0:k=0:=by lia
       rw [e0,Nat.add_zero] at hdr0
       exact ⟨_,_,.inr ⟨k0,rfl,rfl⟩,m',.inl h1',hdr0,Nat.le_refl _⟩
     rcases hc with ⟨k0,e1,e2⟩ | ⟨k0,e1,e2⟩
     case' inl =>
      rw [if_pos k0,e1,e2]
      by_cases c5:i2+1=a.size
      ·rw [if_pos (by simpa using c5)]
       exact wpS_pure ⟨hs4,.inl ⟨_,rfl,fl _ _ _ _ hs4 mo2 (by lia)⟩⟩
      rw [if_neg (by simpa using c5),if_neg (by simp;lia)]
      replace hi2:i2+1 < a.toList.length:=by lia
     case' inr =>
      rw [if_neg k0,e1,e2]
      replace hi2:i2+1 < a.toList.length:=by lia
     all_goals
      clear hdr0 e1 e2 k0 mk hnx
      have hi2':i2 < a.toList.length:=by lia
      refine wpS_bind (Aa (AU h2') ?_)
      have m3:=mo2.b (n:=1) hb (by lia) (fun x hx y hy=>by
       rw [Bb h2',List.mem_singleton] at hx
       subst hx
       exact hdr y hy)
      rw [Bb h2',<- Array.toList_push] at m3
      by_cases c6:j'+1=b.size
      ·rw [if_pos (by simpa using c6)]
       exact wpS_pure ⟨hs4,.inl ⟨_,rfl,fd _ _ _ _ hs4 m3 (.inl (by lia))⟩⟩
      rw [if_neg (by simpa using c6)]
      refine wpS_bind (Aa (AU hi2') ?_)
      have hj1:j'+1 < b.toList.length:=by lia
      have fb:∀ t,t < b.size - (j'+1)->∃ ht:j'+1+t < b.toList.length,b.toList.getD (j'+1+t) b.toList[j']=b.toList[j'+1+t]:=fun t ht=>⟨by lia,by rw [List.getD_eq_getElem?_getD,List.getElem?_eq_getElem (by lia)];rfl⟩
      refine wpS_bind (DB C (hs4.k.trans hk) (hea _ (List.getElem_mem hi2')) (by lia) (fun t=>b.toList.getD (j'+1+t) b.toList[j']) (fun t ht=>?_) (fun t t' h h'=>?_) fun k2 hkn2 hk3 hk4=>?_)
      ·obtain ⟨h5,h6⟩:=fb t ht
       rw [h6]
       exact ⟨AU h5,heb _ (List.getElem_mem h5)⟩
      ·obtain ⟨h5,h6⟩:=fb t (by lia)
       obtain ⟨h7,h8⟩:=fb t' h'
       rw [h6,h8]
       exact Am hb (by lia) h7
      dsimp only
      simp only [if_true] at hk3 hk4
      have mk2:=m3.b (n:=k2) hb (by lia) (fun x hx y hy=>by
       obtain ⟨t,ht,h5,rfl⟩:=Fg hx
       obtain ⟨t',h6,rfl⟩:=Bi hy
       have h7:=hk3 t ht
       obtain ⟨h8,h9⟩:=fb t (by lia)
       rw [h9] at h7
       have:=Am ha (show i2<=i2+t' by lia) h6
       lia)
      have hdb:∀ y∈b.toList.drop (j'+1+k2),κ a.toList[i2]<=κ y:=fun y hy=>by
       obtain ⟨t,ht,rfl⟩:=Bi hy
       obtain ⟨h8,h9⟩:=fb (k2+t) (by lia)
       have h7:=hk4 (k2+t) (by lia) (by lia)
       rw [h9] at h7
       have e:j'+1+(k2+t)=j'+1+k2+t:=by lia
       simp only [e] at h7
       lia
      obtain ⟨o3,j3,hc,mo3,hj3,hdb',hjj⟩:∃ (o3:Array Keyed) (j3:Nat),((k2 > 0/\o2.push b.toList[j']++b.extract (j'+1) (j'+1+k2)=o3/\j'+1+k2=j3)\/(¬ k2 > 0/\o2.push b.toList[j']=o3/\j'+1=j3))/\Mg κ a.toList b.toList o3.toList i2 j3/\(j3 < b.toList.length\/k2 > 0/\j3=b.toList.length)/\(∀ y∈b.toList.drop j3,κ a.toList[i2]<=κ y)/\j'+1<=j3:=by
       by_cases k0:k2 > 0
       ·rw [<- Ek,<- Array.toList_append] at mk2
        exact ⟨_,_,.inl ⟨k0,rfl,rfl⟩,mk2,by lia,hdb,by lia⟩
       ·have e0:k2=0:=by lia
        rw [e0,Nat.add_zero] at hdb
        exact ⟨_,_,.inr ⟨k0,rfl,rfl⟩,m3,.inl hj1,hdb,Nat.le_refl _⟩
      rcases hc with ⟨k0,e1,e2⟩ | ⟨k0,e1,e2⟩
      case' inl =>
       rw [if_pos k0,e1,e2]
       by_cases c7:j3=b.size
       ·rw [if_pos (by simpa using c7)]
        exact wpS_pure ⟨hs4,.inl ⟨_,rfl,fd _ _ _ _ hs4 mo3 (.inl (by lia))⟩⟩
       rw [if_neg (by simpa using c7)]
       replace hj3:j3 < b.toList.length:=by lia
      case' inr =>
       rw [if_neg k0,e1,e2]
       replace hj3:j3 < b.toList.length:=by lia
      all_goals
       refine wpS_bind (Aa (AU hi2') ?_)
       have m4:=mo3.a (n:=1) ha (by lia) (fun x hx y hy=>by
        rw [Bb hi2',List.mem_singleton] at hx
        subst hx
        exact hdb' y hy)
       rw [Bb hi2',<- Array.toList_push] at m4
       by_cases c8:i2+1+1=a.size
       ·rw [if_pos (by simpa using c8)]
        exact wpS_pure ⟨hs4,.inl ⟨_,rfl,fl _ _ _ _ hs4 m4 (by lia)⟩⟩
       rw [if_neg (by simpa using c8)]
       by_cases c9:(decide (k < 7) && decide (k2 < 7))=true
       ·rw [if_pos c9]
        exact wpS_pure ⟨hs4,.inr ⟨_,_,_,_,_,_,rfl,m4,by lia,hj3,by lia⟩⟩
       ·rw [if_neg c9]
        exact wpS_pure ⟨hs4,_,_,_,_,_,_,rfl,m4,by lia,hj3,by lia⟩
end
section
variable {κ:Keyed->Int}
structure Hg (κ:Keyed->Int) (la lb o:List Keyed) (na nb:Nat):Prop where
 il:na<=la.length
 jl:nb<=lb.length
 perm:(la.take na++lb.take nb++o.reverse).Perm (la++lb)
 srt:Srt κ o.reverse
 le:∀ y∈la.take na++lb.take nb,∀ x∈o,κ y<=κ x
variable {la lb o:List Keyed} {na nb n:Nat}
theorem Ej {l:List Keyed} (h:n<=na):l.take na=l.take n++(l.take na).drop n:=by
 have:=List.take_append_drop n (l.take na)
 rw [List.take_take,Nat.min_eq_left h] at this
 exact this.symm
theorem Hg.a (m:Hg κ la lb o na nb) (ha:Srt κ la) (hn:n<=na) (h:∀ x∈(la.take na).drop n,∀ y∈lb.take nb,κ y<=κ x):Hg κ la lb (o++((la.take na).drop n).reverse) n nb:=by
 have hd:=Ej (l:=la) hn
 have hs2:Srt κ (la.take na):=List.Pairwise.sublist (List.take_sublist _ _) ha
 rw [hd] at hs2
 obtain ⟨s1,s2,s3⟩:=List.pairwise_append.mp hs2
 have ml:=m.le
 have mp:=m.perm
 generalize (la.take na).drop n=D at *
 rw [hd] at ml mp
 refine ⟨Nat.le_trans hn m.il,m.jl,?_,?_,fun y hy x hx=>?_⟩
 ·rw [List.reverse_append,List.reverse_reverse]
  refine List.Perm.trans ?_ mp
  rw [<- List.append_assoc]
  refine List.Perm.append_right _ ?_
  rw [List.append_assoc,List.append_assoc]
  exact List.Perm.append_left _ List.perm_append_comm
 ·rw [List.reverse_append,List.reverse_reverse]
  exact BD s2 m.srt fun x hx y hy=>ml x (by simp [hx]) y (List.mem_reverse.mp hy)
 ·rcases List.mem_append.mp hx with hx | hx
  ·refine ml y ?_ x hx
   rcases List.mem_append.mp hy with hy | hy
   ·simp [hy]
   ·simp [hy]
  ·replace hx:=List.mem_reverse.mp hx
   rcases List.mem_append.mp hy with hy | hy
   ·exact s3 y hy x hx
   ·exact h x hx y hy
theorem Hg.b (m:Hg κ la lb o na nb) (hb:Srt κ lb) (hn:n<=nb) (h:∀ x∈(lb.take nb).drop n,∀ y∈la.take na,κ y<=κ x):Hg κ la lb (o++((lb.take nb).drop n).reverse) na n:=by
 have hd:=Ej (l:=lb) hn
 have hs2:Srt κ (lb.take nb):=List.Pairwise.sublist (List.take_sublist _ _) hb
 rw [hd] at hs2
 obtain ⟨s1,s2,s3⟩:=List.pairwise_append.mp hs2
 have ml:=m.le
 have mp:=m.perm
 generalize (lb.take nb).drop n=D at *
 rw [hd] at ml mp
 refine ⟨m.il,Nat.le_trans hn m.jl,?_,?_,fun y hy x hx=>?_⟩
 ·rw [List.reverse_append,List.reverse_reverse]
  simpa [List.append_assoc] using mp
 ·rw [List.reverse_append,List.reverse_reverse]
  exact BD s2 m.srt fun x hx y hy=>ml x (by simp [hx]) y (List.mem_reverse.mp hy)
 ·rcases List.mem_append.mp hx with hx | hx
  ·refine ml y ?_ x hx
   rcases List.mem_append.mp hy with hy | hy
   ·simp [hy]
   ·simp [hy]
  ·replace hx:=List.mem_reverse.mp hx
   rcases List.mem_append.mp hy with hy | hy
   ·exact h x hx y hy
   ·exact s3 y hy x hx
theorem Hg.end (m:Hg κ la lb o na nb) (hb:Srt κ lb) (h:na=0):(la.take na++lb.take nb++o.reverse).Perm (la++lb)/\Srt κ (la.take na++lb.take nb++o.reverse):=by
 refine ⟨m.perm,BD ?_ m.srt fun x hx y hy=>m.le x hx y (List.mem_reverse.mp hy)⟩
 subst h
 rw [List.take_zero,List.nil_append]
 exact List.Pairwise.sublist (List.take_sublist _ _) hb
theorem Hg.end2 (m:Hg κ la lb o na nb) (ha:Srt κ la) (hb:Srt κ lb) (h:∀ x∈lb.take nb,∀ y∈la.take na,κ x<=κ y):(lb.take nb++la.take na++o.reverse).Perm (la++lb)/\Srt κ (lb.take nb++la.take na++o.reverse):=by
 refine ⟨List.Perm.trans (List.Perm.append_right _ List.perm_append_comm) m.perm,BD (BD (List.Pairwise.sublist (List.take_sublist _ _) hb) (List.Pairwise.sublist (List.take_sublist _ _) ha) h) m.srt fun x hx y hy=>m.le x ?_ y (List.mem_reverse.mp hy)⟩
 rcases List.mem_append.mp hx with hx | hx
 ·exact List.mem_append_right _ hx
 ·exact List.mem_append_left _ hx
theorem Hg.start:Hg κ la lb [] la.length lb.length:=⟨Nat.le_refl _,Nat.le_refl _,by simp,List.Pairwise.nil,fun y _ x hx=>by cases hx⟩
end
section
variable {prog:Program} {w:World} {A:Around} {E:Value->Shared->Prop} {s:Shared} {kd:SortKind} {El:Keyed->Prop} {κ:Keyed->Int}
theorem ES {xs:Array Keyed} (n:Nat):(xs.extract 0 n).toList=xs.toList.take n:=by
 rw [Array.toList_extract,List.extract_eq_take_drop,List.drop_zero,Nat.sub_zero]
theorem Gq {xs:Array Keyed} (i n:Nat):(xs.extract i n).reverse.toList=((xs.toList.take n).drop i).reverse:=by
 rw [Array.toList_reverse,Array.toList_extract,List.extract_eq_take_drop,List.drop_take]
theorem Cg {l:List Keyed} {n:Nat} (h:n - 1 < l.length) (h0:0 < n):(l.take n).drop (n - 1)=[l[n - 1]]:=by
 rw [List.drop_take,show n - (n - 1)=1 by lia,Bb h]
theorem BW {l:List Keyed} {n:Nat} {x:Keyed} (h:x∈l.take n):∃ t,∃ ht:t < l.length,t < n/\x=l[t]:=by
 obtain ⟨t,ht,rfl⟩:=List.getElem_of_mem h
 rw [List.length_take] at ht
 exact ⟨t,by lia,by lia,by rw [List.getElem_take]⟩
theorem E1 {l:List Keyed} {i n:Nat} {x:Keyed} (h:x∈(l.take n).drop i):∃ t,∃ ht:t < l.length,i<=t/\t < n/\x=l[t]:=by
 obtain ⟨t,ht,rfl⟩:=Bi h
 rw [List.length_take] at ht
 exact ⟨i+t,by lia,by lia,by lia,by rw [List.getElem_take]⟩
theorem NT (C:Cmp prog w A E s kd El κ) {a b:Array Keyed} {st:SortSt} {Q:Array Keyed->SortSt->Prop} (hk:kindOf st=kd) (ha:Srt κ a.toList) (hb:Srt κ b.toList) (hea:∀ x∈a.toList,El x) (heb:∀ x∈b.toList,El x)
 (la1:0 < a.toList.length) (lb1:0 < b.toList.length) (h0:κ b.toList[0] < κ a.toList[0]) (hl:∀ x∈b.toList,κ x < κ (a.toList[a.toList.length - 1]))
 (q:∀ (o:Array Keyed) st',Sg st st'->o.toList.Perm (a.toList++b.toList)->Srt κ o.toList->Q o st'):wpS (model prog w) A E s (mHi a b) Q st:=by
 have sa:a.size=a.toList.length:=Array.length_toList.symm
 have sb:b.size=b.toList.length:=Array.length_toList.symm
 have lla:a.size - 1 < a.toList.length:=by lia
 have m1':Hg κ a.toList b.toList (#[a.toList[a.size - 1]]:Array Keyed).toList (a.size - 1) b.size:=by
  have m0:Hg κ a.toList b.toList [] a.size b.size:=by rw [sa,sb];exact Hg.start
  have m1:=m0.a (n:=a.size - 1) ha (by lia) (fun x hx y hy=>by
   rw [Cg lla (by lia),List.mem_singleton] at hx
   subst hx
   have:=hl y (List.mem_of_mem_take hy)
   simp only [<- sa] at this
   lia)
  rw [Cg lla (by lia)] at m1
  exact m1
 have fd:∀ (o:Array Keyed) na nb st',Sg st st'->Hg κ a.toList b.toList o.toList na nb->na=0->Q (a.extract 0 na++b.extract 0 nb++o.reverse) st':=fun o na nb st' hs m hj=>by
  have e:(a.extract 0 na++b.extract 0 nb++o.reverse).toList=a.toList.take na++b.toList.take nb++o.toList.reverse:=by
   rw [Array.toList_append,Array.toList_append,ES,ES,Array.toList_reverse]
  obtain ⟨h1,h2⟩:=m.end hb hj
  exact q _ st' hs (by rw [e];exact h1) (by rw [e];exact h2)
 have fl:∀ (o:Array Keyed) na nb st',Sg st st'->Hg κ a.toList b.toList o.toList na nb->nb=1->Q (b.extract 0 nb++a.extract 0 na++o.reverse) st':=fun o na nb st' hs m hi=>by
  obtain ⟨h1,h2⟩:=m.end2 ha hb (fun x hx y hy=>by
   obtain ⟨t,ht,h5,rfl⟩:=BW hx
   obtain ⟨u,hu,h6,rfl⟩:=BW hy
   have e0:t=0:=by lia
   subst e0
   have:=Am ha (Nat.zero_le u) hu
   lia)
  have e:(b.extract 0 nb++a.extract 0 na++o.reverse).toList=b.toList.take nb++a.toList.take na++o.toList.reverse:=by
   rw [Array.toList_append,Array.toList_append,ES,ES,Array.toList_reverse]
  exact q _ st' hs (by rw [e];exact h1) (by rw [e];exact h2)
 have ta:∀ {o:Array Keyed} {na nb:Nat},Hg κ a.toList b.toList o.toList na nb->(h1:na - 1 < a.toList.length)->0 < na->(∀ y∈b.toList.take nb,κ y<=κ a.toList[na - 1])->Hg κ a.toList b.toList (o.push a.toList[na - 1]).toList (na - 1) nb:=fun {o na nb} m h1 h2 h3=>by
  have m2:=m.a (n:=na - 1) ha (by lia) (fun x hx y hy=>by
   rw [Cg h1 h2,List.mem_singleton] at hx
   subst hx
   exact h3 y hy)
  rw [Cg h1 h2] at m2
  rw [Array.toList_push]
  exact m2
 have tb:∀ {o:Array Keyed} {na nb:Nat},Hg κ a.toList b.toList o.toList na nb->(h1:nb - 1 < b.toList.length)->0 < nb->(∀ y∈a.toList.take na,κ y<=κ b.toList[nb - 1])->Hg κ a.toList b.toList (o.push b.toList[nb - 1]).toList na (nb - 1):=fun {o na nb} m h1 h2 h3=>by
  have m2:=m.b (n:=nb - 1) hb (by lia) (fun x hx y hy=>by
   rw [Cg h1 h2,List.mem_singleton] at hx
   subst hx
   exact h3 y hy)
  rw [Cg h1 h2] at m2
  rw [Array.toList_push]
  exact m2
 clear q
 delta mHi
 refine wpS_bind (wpS_lift (wpAny_rule ⟨rfl,?_⟩))
 dsimp only
 refine wpS_bind (Aa (AU lla) ?_)
 by_cases c1:a.size - 1=0
 ·rw [if_pos (by simpa using c1)]
  exact wpS_pure (fd _ _ _ st Sg.refl m1' c1)
 rw [if_neg (by simpa using c1)]
 by_cases c2:b.size=1
 ·rw [if_pos (by simpa using c2)]
  exact wpS_pure (fl _ _ _ st Sg.refl m1' c2)
 rw [if_neg (by simpa using c2)]
 refine wpS_bind (wpS_get ?_)
 refine wpS_bind (wpS_mono (wpS_forRange (I:=fun x c st'=>Sg st st'/\∃ na nb o mg,c=(none,na,nb,o,mg)/\Hg κ a.toList b.toList o.toList na nb/\0 < na/\1 < nb/\x+na+nb < a.size+b.size)
  (Q:=fun c st'=>∃ r,c.1=some r/\Q r st') ?step ?fin ⟨Sg.refl,_,_,_,_,rfl,m1',by lia,by lia,by lia⟩) ?post)
 case fin =>
  rintro c st' ⟨hs,na,nb,o,mg,rfl,m,h1,h2,h3⟩
  lia
 case post =>
  rintro ⟨r,na,nb,o,mg⟩ st' ⟨r',e,h⟩
  cases e
  exact wpS_pure h
 case step =>
  rintro X c st1 _ hX ⟨hs1,na,nb,o,mg,rfl,m,h1,h2,h3⟩
  dsimp only
  refine wpS_bind (wpS_mono (wpS_forRange (I:=fun x c st2=>st2=st1/\∃ na' nb' o' ac bc,c=(none,na',nb',o',ac,bc)/\Hg κ a.toList b.toList o'.toList na' nb'/\0 < na'/\1 < nb'/\x+na'+nb'<=na+nb)
   (Q:=fun c st2=>st2=st1/\((∃ r,c.1=some r/\Q r st1)\/∃ na' nb' o' ac bc,c=(none,na',nb',o',ac,bc)/\Hg κ a.toList b.toList o'.toList na' nb'/\0 < na'/\1 < nb'/\1+na'+nb'<=na+nb)) ?istep ?ifin ⟨rfl,na,nb,o,0,0,rfl,m,h1,h2,by lia⟩) ?ipost)
  case ifin =>
   rintro c st2 ⟨rfl,na',nb',o',ac,bc,rfl,m',h1',h2',h3'⟩
   exact ⟨rfl,.inr ⟨na',nb',o',ac,bc,rfl,m',h1',h2',by lia⟩⟩
  case istep =>
   rintro x c st2 _ hx ⟨rfl,na',nb',o',ac,bc,rfl,m',h1',h2',h3'⟩
   dsimp only
   have hi':na' - 1 < a.toList.length:=by have:=m'.il;lia
   have hj':nb' - 1 < b.toList.length:=by have:=m'.jl;lia
   refine wpS_bind (Aa (AU hj') (wpS_bind (Aa (AU hi') ?_)))
   refine wpS_bind (C.lt _ _ _ _ (heb _ (List.getElem_mem hj')) (hea _ (List.getElem_mem hi')) (hs1.k.trans hk) ?_)
   dsimp only
   by_cases hw:κ b.toList[nb' - 1] < κ a.toList[na' - 1]
   ·rw [if_pos (decide_eq_true hw)]
    have m2:=ta m' hi' h1' (fun y hy=>by
     obtain ⟨t,ht,h5,rfl⟩:=BW hy
     have:=Am hb (show t<=nb' - 1 by lia) hj'
     lia)
    refine wpS_bind (Aa (AU hi') ?_)
    by_cases c3:na' - 1=0
    ·rw [if_pos (by simpa using c3)]
     exact wpS_pure ⟨rfl,.inl ⟨_,rfl,fd _ _ _ _ hs1 m2 c3⟩⟩
    ·rw [if_neg (by simpa using c3)]
     by_cases c4:ac+1 ≥ mg
     ·rw [if_pos c4]
      exact wpS_pure ⟨rfl,.inr ⟨_,_,_,_,_,rfl,m2,by lia,h2',by lia⟩⟩
     ·rw [if_neg c4]
      exact wpS_pure ⟨rfl,_,_,_,_,_,rfl,m2,by lia,h2',by lia⟩
   ·rw [if_neg (fun z=>hw (of_decide_eq_true z))]
    have m2:=tb m' hj' (by lia) (fun y hy=>by
     obtain ⟨t,ht,h5,rfl⟩:=BW hy
     have:=Am ha (show t<=na' - 1 by lia) hi'
     lia)
    refine wpS_bind (Aa (AU hj') ?_)
    by_cases c3:nb' - 1=1
    ·rw [if_pos (by simpa using c3)]
     exact wpS_pure ⟨rfl,.inl ⟨_,rfl,fl _ _ _ _ hs1 m2 c3⟩⟩
    ·rw [if_neg (by simpa using c3)]
     by_cases c4:bc+1 ≥ mg
     ·rw [if_pos c4]
      exact wpS_pure ⟨rfl,.inr ⟨_,_,_,_,_,rfl,m2,h1',by lia,by lia⟩⟩
     ·rw [if_neg c4]
      exact wpS_pure ⟨rfl,_,_,_,_,_,rfl,m2,h1',by lia,by lia⟩
  case ipost =>
   rintro ⟨r,na1,nb1,o1,ac1,bc1⟩ st2 ⟨rfl,⟨r',e,h⟩ | ⟨na',nb',o',ac,bc,e,m',h1',h2',h3'⟩⟩
   ·cases e
    exact wpS_pure ⟨_,rfl,h⟩
   cases e
   dsimp only
   refine wpS_bind (wpS_lift (wpAny_rule ⟨rfl,?_⟩))
   refine wpS_bind (wpS_mono (wpS_forRange (I:=fun x c st3=>Sg st st3/\∃ na' nb' o' mg ac bc,c=(none,na',nb',o',mg,ac,bc)/\Hg κ a.toList b.toList o'.toList na' nb'/\0 < na'/\1 < nb'/\1+na'+nb'<=na+nb)
    (Q:=fun c st3=>Sg st st3/\((∃ r,c.1=some r/\Q r st3)\/∃ na' nb' o' mg ac bc,c=(none,na',nb',o',mg,ac,bc)/\Hg κ a.toList b.toList o'.toList na' nb'/\0 < na'/\1 < nb'/\1+na'+nb'<=na+nb)) ?gstep ?gfin ⟨hs1,_,_,_,_,_,_,rfl,m',h1',h2',h3'⟩) ?gpost)
   case gfin =>
    rintro c st3 ⟨hs3,h⟩
    exact ⟨hs3,.inr h⟩
   case gpost =>
    rintro ⟨r,na2,nb2,o2,mg2,ac2,bc2⟩ st3 ⟨hs3,⟨r',e,h⟩ | ⟨na',nb',o',mg',ac,bc,e,m',h1',h2',h3'⟩⟩
    ·cases e
     exact wpS_pure ⟨_,rfl,h⟩
    cases e
    dsimp only
    refine wpS_bind (wpS_modify (wpS_pure ⟨hs3.trans ⟨rfl,rfl,rfl,rfl⟩,_,_,_,_,rfl,m',h1',h2',by lia⟩))
   case gstep =>
    clear m' h1' h2' h3'
    rintro x c st3 _ hx ⟨hs3,na',nb',o',mg',ac,bc,rfl,m',h1',h2',h3'⟩
    dsimp only
    apply Gb (fun (Z:Nat->StateT SortSt Sem (ForInStep (Option (Array Keyed) × Nat × Nat × Array Keyed × Nat × Nat × Nat))) R st4=>∀ m,wpS (model prog w) A E s (Z m) R st4)
    case h1 =>
     intro zz
     by_cases hm:mg' > 1
     ·rw [if_pos hm]
      generalize mg' - 1=m2
      exact zz m2
     ·rw [if_neg hm]
      generalize mg'=m2
      exact zz m2
    case h2 =>
     intro m2
     refine wpS_bind (wpS_modify ?_)
     have hs4:=hs3.trans (⟨rfl,rfl,rfl,rfl⟩:Sg st3 (SortSt.mk' (kindOf st3) (arrOf st3) (pendingOf st3) m2 (failedOf st3)))
     have hi':na'<=a.toList.length:=m'.il
     have hj':nb' - 1 < b.toList.length:=by have:=m'.jl;lia
     refine wpS_bind (Aa (AU hj') ?_)
     have fa:∀ t,t < na'->∃ ht:t < a.toList.length,a.toList.getD t a.toList[0]=a.toList[t]:=fun t ht=>⟨by lia,by rw [List.getD_eq_getElem?_getD,List.getElem?_eq_getElem (by lia)];rfl⟩
     refine wpS_bind (DB C (hs4.k.trans hk) (heb _ (List.getElem_mem hj')) (by lia) (fun t=>a.toList.getD t a.toList[0]) (fun t ht=>?_) (fun t t' h h'=>?_) fun k hkn hk1 hk2=>?_)
     ·obtain ⟨h5,h6⟩:=fa t ht
      rw [h6,Nat.zero_add]
      exact ⟨AU h5,hea _ (List.getElem_mem h5)⟩
     ·obtain ⟨h5,h6⟩:=fa t (by lia)
      obtain ⟨h7,h8⟩:=fa t' h'
      rw [h6,h8]
      exact Am ha h h7
     dsimp only
     simp only [Bool.false_eq_true,if_false,Decidable.not_not] at hk1 hk2
     have mk:=m'.a (n:=k) ha hkn (fun x hx y hy=>by
      obtain ⟨t,ht,h5,h6,rfl⟩:=E1 hx
      obtain ⟨t',ht',h7,rfl⟩:=BW hy
      have h8:=hk2 t h5 h6
      obtain ⟨h9,h10⟩:=fa t h6
      rw [h10] at h8
      have:=Am hb (show t'<=nb' - 1 by lia) hj'
      lia)
     have hdr0:∀ y∈a.toList.take k,κ y<=κ b.toList[nb' - 1]:=fun y hy=>by
      obtain ⟨t,ht,h5,rfl⟩:=BW hy
      have h8:=hk1 t h5
      obtain ⟨h9,h10⟩:=fa t (by lia)
      rw [h10] at h8
      lia
     obtain ⟨o2,n2,hc,mo2,hdr,hii,hn0⟩:∃ (o2:Array Keyed) (n2:Nat),((na' - k > 0/\o'++(a.extract k na').reverse=o2/\k=n2)\/(¬ na' - k > 0/\o'=o2/\na'=n2))/\Hg κ a.toList b.toList o2.toList n2 nb'/\(∀ y∈a.toList.take n2,κ y<=κ b.toList[nb' - 1])/\n2<=na'/\(na' - k > 0\/0 < n2):=by
      by_cases k0:na' - k > 0
      ·rw [<- Gq,<- Array.toList_append] at mk
       exact ⟨_,_,.inl ⟨k0,rfl,rfl⟩,mk,hdr0,hkn,.inl k0⟩
      ·have e0:k=na':=by lia
       rw [e0] at hdr0
       exact ⟨_,_,.inr ⟨k0,rfl,rfl⟩,m',hdr0,Nat.le_refl _,.inr h1'⟩
     rcases hc with ⟨k0,e1,e2⟩ | ⟨k0,e1,e2⟩
     case' inl =>
      rw [if_pos k0,e1,e2]
      by_cases c5:n2=0
      ·rw [if_pos (by simpa using c5)]
       exact wpS_pure ⟨hs4,.inl ⟨_,rfl,fd _ _ _ _ hs4 mo2 c5⟩⟩
      rw [if_neg (by simpa using c5)]
      replace hn0:0 < n2:=by lia
     case' inr =>
      rw [if_neg k0,e1,e2]
      replace hn0:0 < n2:=by lia
     all_goals
      have hi2:n2 - 1 < a.toList.length:=by lia
      refine wpS_bind (Aa (AU hj') ?_)
      have m3:=tb mo2 hj' (by lia) hdr
      by_cases c6:nb' - 1=1
      ·rw [if_pos (by simpa using c6)]
       exact wpS_pure ⟨hs4,.inl ⟨_,rfl,fl _ _ _ _ hs4 m3 c6⟩⟩
      rw [if_neg (by simpa using c6)]
      refine wpS_bind (Aa (AU hi2) ?_)
      have fb:∀ t,t < nb' - 1->∃ ht:t < b.toList.length,b.toList.getD t b.toList[0]=b.toList[t]:=fun t ht=>⟨by lia,by rw [List.getD_eq_getElem?_getD,List.getElem?_eq_getElem (by lia)];rfl⟩
      refine wpS_bind (DB C (hs4.k.trans hk) (hea _ (List.getElem_mem hi2)) (by lia) (fun t=>b.toList.getD t b.toList[0]) (fun t ht=>?_) (fun t t' h h'=>?_) fun k2 hkn2 hk3 hk4=>?_)
      ·obtain ⟨h5,h6⟩:=fb t ht
       rw [h6,Nat.zero_add]
       exact ⟨AU h5,heb _ (List.getElem_mem h5)⟩
      ·obtain ⟨h5,h6⟩:=fb t (by lia)
       obtain ⟨h7,h8⟩:=fb t' h'
       rw [h6,h8]
       exact Am hb h h7
      dsimp only
      simp only [if_true] at hk3 hk4
      have hz:0 < k2:=by
       rcases Nat.eq_zero_or_pos k2 with z | z
       ·exfalso
        have h8:=hk4 0 (by lia) (by lia)
        obtain ⟨h9,h10⟩:=fb 0 (by lia)
        rw [h10] at h8
        have:=Am ha (Nat.zero_le (n2 - 1)) hi2
        lia
       ·exact z
      have mk2:=m3.b (n:=k2) hb hkn2 (fun x hx y hy=>by
       obtain ⟨t,ht,h5,h6,rfl⟩:=E1 hx
       obtain ⟨t',ht',h7,rfl⟩:=BW hy
       have h8:=hk4 t h5 h6
       obtain ⟨h9,h10⟩:=fb t h6
       rw [h10] at h8
       have:=Am ha (show t'<=n2 - 1 by lia) hi2
       lia)
      have hdb0:∀ y∈b.toList.take k2,κ y<=κ a.toList[n2 - 1]:=fun y hy=>by
       obtain ⟨t,ht,h5,rfl⟩:=BW hy
       have h8:=hk3 t h5
       obtain ⟨h9,h10⟩:=fb t (by lia)
       rw [h10] at h8
       lia
      obtain ⟨o3,n3,hc,mo3,hdb,hjj,hn1⟩:∃ (o3:Array Keyed) (n3:Nat),((nb' - 1 - k2 > 0/\o2.push b.toList[nb' - 1]++(b.extract k2 (nb' - 1)).reverse=o3/\k2=n3)\/(¬ nb' - 1 - k2 > 0/\o2.push b.toList[nb' - 1]=o3/\nb' - 1=n3))/\Hg κ a.toList b.toList o3.toList n2 n3/\(∀ y∈b.toList.take n3,κ y<=κ a.toList[n2 - 1])/\n3<=nb' - 1/\0 < n3:=by
       by_cases k0:nb' - 1 - k2 > 0
       ·rw [<- Gq,<- Array.toList_append] at mk2
        exact ⟨_,_,.inl ⟨k0,rfl,rfl⟩,mk2,hdb0,hkn2,hz⟩
       ·have e0:k2=nb' - 1:=by lia
        rw [e0] at hdb0
        exact ⟨_,_,.inr ⟨k0,rfl,rfl⟩,m3,hdb0,Nat.le_refl _,by lia⟩
      rcases hc with ⟨l0,e3,e4⟩ | ⟨l0,e3,e4⟩
      case' inl =>
       rw [if_pos l0,e3,e4]
       by_cases c7:n3=1
       ·rw [if_pos (by simpa using c7)]
        exact wpS_pure ⟨hs4,.inl ⟨_,rfl,fl _ _ _ _ hs4 mo3 c7⟩⟩
       rw [if_neg (by simpa using c7),if_neg (by simp;lia)]
       replace hn1:1 < n3:=by lia
      case' inr =>
       rw [if_neg l0,e3,e4]
       replace hn1:1 < n3:=by lia
      all_goals
       refine wpS_bind (Aa (AU hi2) ?_)
       have m4:=ta mo3 hi2 hn0 hdb
       by_cases c8:n2 - 1=0
       ·rw [if_pos (by simpa using c8)]
        exact wpS_pure ⟨hs4,.inl ⟨_,rfl,fd _ _ _ _ hs4 m4 c8⟩⟩
       rw [if_neg (by simpa using c8)]
       split
       ·exact wpS_pure ⟨hs4,.inr ⟨_,_,_,_,_,_,rfl,m4,by lia,hn1,by lia⟩⟩
       ·exact wpS_pure ⟨hs4,_,_,_,_,_,_,rfl,m4,by lia,hn1,by lia⟩
end
theorem NM (sa:Nat) (l:List Keyed):∀ (m:Nat) (arr:Array Keyed),sa+m+l.length<=arr.size ->
 ((l.zipIdx m).foldl (fun a (p:Keyed × Nat)=>a.setIfInBounds (sa+p.2) p.1) arr).toList=arr.toList.take (sa+m)++l++arr.toList.drop (sa+m+l.length):=by
 induction l with
 | nil=>intro m arr h;simp
 | cons x l ih =>
  intro m arr h
  rw [List.length_cons] at h
  rw [List.zipIdx_cons,List.foldl_cons]
  dsimp only
  rw [ih (m+1) (arr.setIfInBounds (sa+m) x) (by rw [Array.size_setIfInBounds];lia),Array.toList_setIfInBounds]
  have h1:sa+m < arr.toList.length:=by rw [Array.length_toList];lia
  have e1:(arr.toList.set (sa+m) x).take (sa+(m+1))=arr.toList.take (sa+m)++[x]:=by
   rw [show sa+(m+1)=sa+m+1 by lia,List.take_add_one,List.take_set_of_le (Nat.le_refl _),List.getElem?_set_self h1]
   rfl
  rw [e1,List.drop_set_of_lt (by lia),List.length_cons,show sa+(m+1)+l.length=sa+m+(l.length+1) by lia]
  simp
section
variable {prog:Program} {w:World} {A:Around} {E:Value->Shared->Prop} {s:Shared} {kd:SortKind} {El:Keyed->Prop} {κ:Keyed->Int}
theorem JB {st st':SortSt} {Q:PUnit->SortSt->Prop} (h:Q ⟨⟩ st'):wpS (model prog w) A E s (set st':StateT SortSt Sem PUnit) Q st:=wpS_modify (f:=fun _=>st') h
theorem LJ (C:Cmp prog w A E s kd El κ) {st:SortSt} {Q:Bool->SortSt->Prop} {n1 n2 pw:Nat} (hk:kindOf st=kd) (hf:failedOf st=none) (hp:pendingOf st = #[(0,n1,pw),(n1,n2,0)]) (h1:0 < n1) (h2:0 < n2) (hs:(arrOf st).toList.length=n1+n2) (hel:∀ x∈(arrOf st).toList,El x) (sa:Srt κ ((arrOf st).toList.take n1)) (sb:Srt κ ((arrOf st).toList.drop n1))
 (q:∀ st',kindOf st'=kd->failedOf st'=none->pendingOf st' = #[(0,n1+n2,pw)]->(arrOf st').toList.Perm (arrOf st).toList->Srt κ (arrOf st').toList->Q true st'):wpS (model prog w) A E s (mergeAt' 0) Q st:=by
 obtain ⟨kk,arr,p,g,f⟩:=st
 replace hk:kk=kd:=hk
 replace hf:f=none:=hf
 replace hp:p = #[(0,n1,pw),(n1,n2,0)]:=hp
 subst hk hf hp
 replace hs:arr.toList.length=n1+n2:=hs
 replace hel:∀ x∈arr.toList,El x:=hel
 replace sa:Srt κ (arr.toList.take n1):=sa
 replace sb:Srt κ (arr.toList.drop n1):=sb
 have q':∀ st',kindOf st'=kk->failedOf st'=none->pendingOf st' = #[(0,n1+n2,pw)]->(arrOf st').toList.Perm arr.toList->Srt κ (arrOf st').toList->Q true st':=q
 clear q
 delta mergeAt'
 refine wpS_bind (wpS_get ?_)
 have e0:(#[(0,n1,pw),(n1,n2,0)]:Array (Nat × Nat × Nat))[0]? = some (0,n1,pw):=rfl
 have e1:(#[(0,n1,pw),(n1,n2,0)]:Array (Nat × Nat × Nat))[0+1]? = some (n1,n2,0):=rfl
 dsimp only
 rw [e0,e1]
 dsimp only
 refine wpS_bind (JB ?_)
 have hpe:((#[(0,n1,pw),(n1,n2,0)]:Array (Nat × Nat × Nat)).setIfInBounds 0 (0,n1+n2,pw)).eraseIdxIfInBounds (0+1) = #[(0,n1+n2,pw)]:=by simp [Array.eraseIdxIfInBounds]
 rw [hpe]
 refine (fun z:∀ st2:SortSt,SortSt.mk' kk arr #[(0,n1+n2,pw)] g none=st2->wpS (model prog w) A E s _ Q st2=>z _ rfl) ?_
 intro st2 hst
 have k2:kindOf st2=kk:=by rw [<- hst]
 have f2:failedOf st2=none:=by rw [<- hst]
 have p2:pendingOf st2 = #[(0,n1+n2,pw)]:=by rw [<- hst]
 have a2:arrOf st2=arr:=by rw [<- hst]
 have q:Srt κ arr.toList->Q true st2:=fun z=>q' st2 k2 f2 p2 (by rw [a2]) (by rw [a2];exact z)
 have l1:n1 < arr.toList.length:=by lia
 have l2:n1 - 1 < arr.toList.length:=by lia
 have ea:∀ i j,(hij:i<=j)->(hj:j < n1)->κ (arr.toList[i]'(by lia))<=κ (arr.toList[j]'(by lia)):=fun i j hij hj=>by
  have:=Am sa hij (show j < (arr.toList.take n1).length by rw [List.length_take];lia)
  simpa using this
 have eb:∀ i j,(hn:n1<=i)->(hij:i<=j)->(hj:j < arr.toList.length)->κ (arr.toList[i]'(by lia))<=κ (arr.toList[j]'hj):=fun i j hn hij hj=>by
  have:=Am sb (show i - n1<=j - n1 by lia) (show j - n1 < (arr.toList.drop n1).length by rw [List.length_drop];lia)
  rw [List.getElem_drop,List.getElem_drop] at this
  simpa only [show n1+(i - n1)=i by lia,show n1+(j - n1)=j by lia] using this
 have srtI:∀ l:List Keyed,(∀ i j,(hij:i < j)->(hj:j < l.length)->κ (l[i]'(by lia))<=κ (l[j]'hj))->Srt κ l:=fun l h=>List.pairwise_iff_getElem.mpr fun i j hi hj hij=>h i j hij hj
 refine wpS_bind (Aa (AU l1) ?_)
 have fa:∀ t,t < arr.toList.length->∃ ht:t < arr.toList.length,arr.toList.getD t arr.toList[n1]=arr.toList[t]:=fun t ht=>⟨ht,by rw [List.getD_eq_getElem?_getD,List.getElem?_eq_getElem ht];rfl⟩
 refine wpS_bind (DB C k2 (hel _ (List.getElem_mem l1)) h1 (fun t=>arr.toList.getD t arr.toList[n1]) (fun t ht=>?_) (fun t t' h h'=>?_) fun k hkn hk1 hk2=>?_)
 ·obtain ⟨h5,h6⟩:=fa t (by lia)
  rw [h6,Nat.zero_add]
  exact ⟨AU h5,hel _ (List.getElem_mem h5)⟩
 ·obtain ⟨h5,h6⟩:=fa t (by lia)
  obtain ⟨h7,h8⟩:=fa t' (by lia)
  rw [h6,h8]
  exact ea t t' h h'
 dsimp only
 simp only [Bool.false_eq_true,if_false,Decidable.not_not] at hk1 hk2
 replace hk1:∀ i,(hi:i < k)->κ (arr.toList[i]'(by lia))<=κ arr.toList[n1]:=fun i hi=>by
  have:=hk1 i hi
  obtain ⟨h5,h6⟩:=fa i (by lia)
  rw [h6] at this
  lia
 replace hk2:∀ i,k<=i->(hi:i < n1)->κ arr.toList[n1] < κ (arr.toList[i]'(by lia)):=fun i hi hi'=>by
  have:=hk2 i hi hi'
  obtain ⟨h5,h6⟩:=fa i (by lia)
  rwa [h6] at this
 by_cases c1:n1 - k=0
 ·rw [if_pos (by simpa using c1)]
  refine wpS_pure (q (srtI _ fun i j hij hj=>?_))
  rcases Nat.lt_or_ge j n1 with z | z
  ·exact ea i j (by lia) z
  ·rcases Nat.lt_or_ge i n1 with y | y
   ·exact Int.le_trans (hk1 i (by lia)) (eb n1 j (Nat.le_refl _) z hj)
   ·exact eb i j y (by lia) hj
 rw [if_neg (by simpa using c1)]
 have ei:0+k+(n1 - k) - 1=n1 - 1:=by lia
 rw [ei]
 refine wpS_bind (Aa (AU l2) ?_)
 refine wpS_bind (DB C k2 (hel _ (List.getElem_mem l2)) (by lia) (fun t=>arr.toList.getD (n1+t) arr.toList[n1]) (fun t ht=>?_) (fun t t' h h'=>?_) fun nb hnb hk3 hk4=>?_)
 ·obtain ⟨h5,h6⟩:=fa (n1+t) (by lia)
  rw [h6]
  exact ⟨AU h5,hel _ (List.getElem_mem h5)⟩
 ·obtain ⟨h5,h6⟩:=fa (n1+t) (by lia)
  obtain ⟨h7,h8⟩:=fa (n1+t') (by lia)
  rw [h6,h8]
  exact eb _ _ (by lia) (by lia) h7
 dsimp only
 simp only [if_true] at hk3 hk4
 replace hk3:∀ i,n1<=i->(hi:i < n1+nb)->κ (arr.toList[i]'(by lia)) < κ arr.toList[n1 - 1]:=fun i hi hi'=>by
  have:=hk3 (i - n1) (by lia)
  obtain ⟨h5,h6⟩:=fa (n1+(i - n1)) (by lia)
  rw [h6] at this
  simpa only [show n1+(i - n1)=i by lia] using this
 replace hk4:∀ i,n1+nb<=i->(hi:i < arr.toList.length)->κ arr.toList[n1 - 1]<=κ (arr.toList[i]'hi):=fun i hi hi'=>by
  have:=hk4 (i - n1) (by lia) (by lia)
  obtain ⟨h5,h6⟩:=fa (n1+(i - n1)) (by lia)
  rw [h6] at this
  have e:n1+(i - n1)=i:=by lia
  simp only [e] at this
  lia
 by_cases c2:nb=0
 ·rw [if_pos (by simpa using c2)]
  refine wpS_pure (q (srtI _ fun i j hij hj=>?_))
  rcases Nat.lt_or_ge j n1 with z | z
  ·exact ea i j (by lia) z
  ·rcases Nat.lt_or_ge i n1 with y | y
   ·exact Int.le_trans (ea i (n1 - 1) (by lia) (by lia)) (hk4 j (by lia) hj)
   ·exact eb i j y (by lia) hj
 rw [if_neg (by simpa using c2),Nat.zero_add]
 have ex:(arr.extract k n1).toList=(arr.toList.take n1).drop k:=by rw [Array.toList_extract,List.extract_eq_take_drop,List.drop_take]
 have ey:(arr.extract n1 (n1+nb)).toList=(arr.toList.drop n1).take nb:=Ek _ _
 have hx:∀ x∈(arr.toList.take n1).drop k,∃ t,∃ ht:t < arr.toList.length,k<=t/\t < n1/\x=arr.toList[t]:=fun x hx=>E1 hx
 have hy:∀ y∈(arr.toList.drop n1).take nb,∃ t,∃ ht:t < arr.toList.length,n1<=t/\t < n1+nb/\y=arr.toList[t]:=fun y hy=>by
  obtain ⟨t,ht,h5,e⟩:=Fg hy
  exact ⟨n1+t,h5,by lia,by lia,e⟩
 have sx:Srt κ ((arr.toList.take n1).drop k):=List.Pairwise.sublist (List.drop_sublist _ _) sa
 have sy:Srt κ ((arr.toList.drop n1).take nb):=List.Pairwise.sublist (List.take_sublist _ _) sb
 have lx:((arr.toList.take n1).drop k).length=n1 - k:=by rw [List.length_drop,List.length_take];lia
 have ly:((arr.toList.drop n1).take nb).length=nb:=by rw [List.length_take,List.length_drop];lia
 have eL:arr.toList=arr.toList.take k++((arr.toList.take n1).drop k++(arr.toList.drop n1).take nb)++arr.toList.drop (n1+nb):=by
  have h5:=Ej (l:=arr.toList) (n:=k) (na:=n1) (by lia)
  have h6:(arr.toList.drop n1).take nb++arr.toList.drop (n1+nb)=arr.toList.drop n1:=by rw [<- List.drop_drop,List.take_append_drop]
  have h7:=List.take_append_drop n1 arr.toList
  rw [<- h6] at h7
  conv=>lhs;rw [<- h7,h5]
  simp only [List.append_assoc]
 have fin:∀ (o:Array Keyed) st',Sg st2 st'->o.toList.Perm ((arr.toList.take n1).drop k++(arr.toList.drop n1).take nb)->Srt κ o.toList->Q (failedOf st').isNone (setArr st' (List.foldl (fun a (x:Keyed × Nat)=>a.setIfInBounds (k+x.2) x.1) (arrOf st') o.toList.zipIdx)):=fun o st' hs' hp ho=>by
  have hlen:o.toList.length=n1 - k+nb:=by rw [hp.length_eq,List.length_append,lx,ly]
  rw [hs'.f,f2,hs'.a,a2]
  have e:=NM k o.toList 0 arr (by rw [<- Array.length_toList];lia)
  rw [Nat.add_zero,show k+o.toList.length=n1+nb by lia] at e
  refine q' _ (hs'.k.trans k2) (hs'.f.trans f2) (hs'.p.trans p2) ?_ ?_
  ·show (List.foldl _ arr o.toList.zipIdx).toList.Perm _
   rw [e]
   conv=>rhs;rw [eL]
   exact List.Perm.append_right _ (List.Perm.append_left _ hp)
  ·show Srt κ (List.foldl _ arr o.toList.zipIdx).toList
   rw [e]
   have mo:∀ x∈o.toList,∃ t,∃ ht:t < arr.toList.length,k<=t/\t < n1+nb/\x=arr.toList[t]:=fun x h=>by
    rcases List.mem_append.mp (hp.mem_iff.mp h) with h | h
    ·obtain ⟨t,ht,h5,h6,e⟩:=hx x h
     exact ⟨t,ht,h5,by lia,e⟩
    ·obtain ⟨t,ht,h5,h6,e⟩:=hy x h
     exact ⟨t,ht,by lia,h6,e⟩
   have lo:∀ t,(ht:t < k)->∀ u,k<=u->(hu:u < arr.toList.length)->κ (arr.toList[t]'(by lia))<=κ (arr.toList[u]'hu):=fun t ht u h5 hu=>by
    rcases Nat.lt_or_ge u n1 with z | z
    ·exact ea t u (by lia) z
    ·exact Int.le_trans (hk1 t ht) (eb n1 u (Nat.le_refl _) z hu)
   have hi:∀ t,k<=t->(ht:t < n1+nb)->∀ u,n1+nb<=u->(hu:u < arr.toList.length)->κ (arr.toList[t]'(by lia))<=κ (arr.toList[u]'hu):=fun t h5 ht u h6 hu=>by
    rcases Nat.lt_or_ge t n1 with z | z
    ·exact Int.le_trans (ea t (n1 - 1) (by lia) (by lia)) (hk4 u h6 hu)
    ·exact eb t u z (by lia) hu
   refine BD (BD ?_ ho fun x h y h'=>?_) (List.Pairwise.sublist (by rw [<- List.drop_drop];exact List.drop_sublist _ _) sb) fun x h y h'=>?_
   ·have:=List.Pairwise.sublist (List.take_sublist k _) sa
    rwa [List.take_take,Nat.min_eq_left (by lia)] at this
   ·obtain ⟨t,ht,h5,rfl⟩:=BW h
    obtain ⟨u,hu,h6,h7,rfl⟩:=mo y h'
    exact lo t h5 u h6 hu
   ·obtain ⟨u,hu,rfl⟩:=Bi h'
    rcases List.mem_append.mp h with h | h
    ·obtain ⟨t,ht,h5,rfl⟩:=BW h
     exact lo t h5 _ (by lia) hu
    ·obtain ⟨t,ht,h6,h7,rfl⟩:=mo x h
     exact hi t h6 h7 _ (by lia) hu
 have h0:∀ (e1:0 < (arr.extract k n1).toList.length) (e2:0 < (arr.extract n1 (n1+nb)).toList.length),κ (arr.extract n1 (n1+nb)).toList[0] < κ (arr.extract k n1).toList[0]:=fun e1 e2=>by
  have:=hk2 k (Nat.le_refl _) (by lia)
  simp only [ex,ey,List.getElem_take,List.getElem_drop,Nat.add_zero]
  exact this
 have hl:∀ (e1:0 < (arr.extract k n1).toList.length),∀ x∈(arr.extract n1 (n1+nb)).toList,κ x < κ ((arr.extract k n1).toList[(arr.extract k n1).toList.length - 1]'(by lia)):=fun e1 x h=>by
  rw [ey] at h
  obtain ⟨t,ht,h5,h6,rfl⟩:=hy x h
  have:=hk3 t h5 h6
  simp only [ex,lx,List.getElem_take,List.getElem_drop]
  simpa only [show k+(n1 - k - 1)=n1 - 1 by lia] using this
 have e1:0 < (arr.extract k n1).toList.length:=by rw [ex,lx];lia
 have e2:0 < (arr.extract n1 (n1+nb)).toList.length:=by rw [ey,ly];lia
 have hea:∀ x∈(arr.extract k n1).toList,El x:=fun x h=>by
  rw [ex] at h
  obtain ⟨t,ht,_,_,rfl⟩:=hx x h
  exact hel _ (List.getElem_mem ht)
 have heb:∀ x∈(arr.extract n1 (n1+nb)).toList,El x:=fun x h=>by
  rw [ey] at h
  obtain ⟨t,ht,_,_,rfl⟩:=hy x h
  exact hel _ (List.getElem_mem ht)
 by_cases c3:n1 - k<=nb
 ·rw [if_pos c3]
  refine wpS_bind (NH C k2 (by rw [ex];exact sx) (by rw [ey];exact sy) hea heb e1 e2 (h0 e1 e2) (hl e1) fun o st' hs' hp ho=>?_)
  rw [ex,ey] at hp
  exact wpS_bind (wpS_modify (wpS_bind (wpS_get (wpS_pure (fin o st' hs' hp ho)))))
 ·rw [if_neg c3]
  refine wpS_bind (NT C k2 (by rw [ex];exact sx) (by rw [ey];exact sy) hea heb e1 e2 (h0 e1 e2) (hl e1) fun o st' hs' hp ho=>?_)
  rw [ex,ey] at hp
  exact wpS_bind (wpS_modify (wpS_bind (wpS_get (wpS_pure (fin o st' hs' hp ho)))))
end
section
variable {prog:Program} {w:World} {A:Around} {E:Value->Shared->Prop} {s:Shared} {kd:SortKind} {El:Keyed->Prop} {κ:Keyed->Int}
def Kf (κ:Keyed->Int) (xs:Array Keyed) (i:Nat):Int:=match xs[i]? with
 | some p=>κ p
 | none=>0
theorem CK {xs ys:Array Keyed} {i j:Nat} (h:xs[i]? = ys[j]?):Kf κ xs i=Kf κ ys j:=by unfold Kf;rw [h]
def Seg (κ:Keyed->Int) (lo:Nat) (xs:Array Keyed) (k:Nat):Prop:=∀ i j,lo<=i->i<=j->j < lo+k->Kf κ xs i<=Kf κ xs j
def Dsc (κ:Keyed->Int) (lo:Nat) (xs:Array Keyed) (k:Nat):Prop:=∀ i j,lo<=i->i<=j->j < lo+k->Kf κ xs j<=Kf κ xs i
structure Bs (kd:SortKind) (a₀:Array Keyed) (lo:Nat) (pe:Array (Nat × Nat × Nat)) (st:SortSt):Prop where
 perm:(arrOf st).Perm a₀
 kind:kindOf st=kd
 failed:failedOf st=none
 pend:pendingOf st=pe
 low:∀ i,i < lo->(arrOf st)[i]? = a₀[i]?
variable {a₀:Array Keyed} {lo:Nat} {pe:Array (Nat × Nat × Nat)}
theorem Bs.size {st:SortSt} (h:Bs kd a₀ lo pe st):(arrOf st).size=a₀.size:=h.perm.size_eq
theorem Bs.put {st:SortSt} (h:Bs kd a₀ lo pe st) {xs:Array Keyed} (hp:xs.Perm (arrOf st)) (hl:∀ i,i < lo->xs[i]? = (arrOf st)[i]?):Bs kd a₀ lo pe (setArr st xs) :=
 ⟨hp.trans h.perm,h.kind,h.failed,h.pend,fun i hi=>(hl i hi).trans (h.low i hi)⟩
theorem Bs.at {st:SortSt} (h:Bs kd a₀ lo pe st) (h0:∀ x∈a₀.toList,El x) {i:Nat} (hi:i < a₀.size):∃ x,(arrOf st)[i]? = some x/\El x/\Kf κ (arrOf st) i=κ x:=by
 have hi':i < (arrOf st).size:=by rw [h.size];exact hi
 have hm:(arrOf st)[i]∈a₀.toList:=(Array.perm_iff_toList_perm.mp h.perm).mem_iff.mp (by simp)
 have e:(arrOf st)[i]? = some (arrOf st)[i]:=getElem?_pos _ i hi'
 exact ⟨_,e,h0 _ hm,by unfold Kf;rw [e]⟩
theorem Cz (C:Cmp prog w A E s kd El κ) {st:SortSt} {i j:Nat} {Q:Option Bool->SortSt->Prop} (hB:Bs kd a₀ lo pe st) (h0:∀ x∈a₀.toList,El x) (hi:i < a₀.size) (hj:j < a₀.size)
 (h:Q (some (decide (Kf κ (arrOf st) i < Kf κ (arrOf st) j))) st):wpS (model prog w) A E s (ltAt' i j) Q st:=by
 obtain ⟨x,e1,x1,k1⟩:=hB.at (κ:=κ) h0 hi
 obtain ⟨y,e2,y1,k2⟩:=hB.at (κ:=κ) h0 hj
 rw [k1,k2] at h
 delta ltAt'
 refine wpS_bind (wpS_get ?_)
 refine wpS_bind (Aa e1 (wpS_bind (Aa e2 ?_)))
 exact C.lt _ _ _ _ x1 y1 hB.kind h
theorem G4 {xs:Array Keyed} {src d:Nat} (hs:src < xs.size) (hd:d<=src) (k:Nat) :
 Kf κ (bubble xs src d) k=if k=src - d then Kf κ xs src else if src - d < k/\k<=src then Kf κ xs (k - 1) else Kf κ xs k:=by
 have e:=getElem?_bubble hs d hd k
 by_cases h1:k=src - d
 ·rw [if_pos h1] at e ⊢;exact CK e
 ·rw [if_neg h1] at e ⊢
  by_cases h2:src - d < k/\k<=src
  ·rw [if_pos h2] at e ⊢;exact CK e
  ·rw [if_neg h2] at e ⊢;exact CK e
theorem FW {xs:Array Keyed} {i j:Nat} (hj:j<=xs.size) (k:Nat) :
 Kf κ (mirror xs i j ((j - i) / 2)) k=if i<=k/\k < j then Kf κ xs (i+j - 1 - k) else Kf κ xs k:=by
 have e:=getElem?_mirror_all (i:=i) hj k
 by_cases h1:i<=k/\k < j
 ·rw [if_pos h1] at e ⊢;exact CK e
 ·rw [if_neg h1] at e ⊢;exact CK e
theorem CC {xs:Array Keyed} {i j:Nat} (hj:j<=xs.size) (heq:∀ k,i<=k->k < j->Kf κ xs k=Kf κ xs (j - 1)) (k:Nat) :
 Kf κ (mirror xs i j ((j - i) / 2)) k=Kf κ xs k:=by
 rw [FW hj]
 split
 ·rw [heq _ (by lia) (by lia),heq k (by lia) (by lia)]
 ·rfl
theorem Dg {st:SortSt} {i j:Nat} {Q:Unit->SortSt->Prop} (hB:Bs kd a₀ lo pe st) (hi:lo<=i) (hj:j<=a₀.size) (h:Bs kd a₀ lo pe (setArr st (mirror (arrOf st) i j ((j - i) / 2)))->Q () (setArr st (mirror (arrOf st) i j ((j - i) / 2)))) :
 wpS (model prog w) A E s (reverseSlice' i j) Q st:=by
 refine wpS_reverse (h (hB.put (mirror_perm _ _ _ _) fun k hk=>?_))
 rw [getElem?_mirror_all (by rw [hB.size];exact hj),if_neg (by lia)]
theorem G5 (C:Cmp prog w A E s kd El κ) {st:SortSt} {n ok:Nat} {Q:Bool->SortSt->Prop} (h0:∀ x∈a₀.toList,El x) (hn:lo+n<=a₀.size) (hok:ok<=n) (hB:Bs kd a₀ lo pe st) (hs:Seg κ lo (arrOf st) ok)
 (h:∀ st',Bs kd a₀ lo pe st'->Seg κ lo (arrOf st') n->Q true st'):wpS (model prog w) A E s (binarySort' lo n ok) Q st:=by
 rw [binarySort'_eq]
 refine wpS_bind (wpS_mono (wpS_forRange (I:=fun k c st'=>c=(none,())/\Bs kd a₀ lo pe st'/\Seg κ lo (arrOf st') (min k n))
  (Q:=fun c st'=>c=(none,())/\Bs kd a₀ lo pe st'/\Seg κ lo (arrOf st') n) ?step ?fin ?init) ?post)
 case post =>
  rintro c st' ⟨rfl,hB',hs'⟩
  exact wpS_pure (h st' hB' hs')
 case init =>
  refine ⟨rfl,hB,fun i j hl hij hj=>?_⟩
  by_cases h1:ok=0
  ·have:i=j:=by lia
   subst this;exact Int.le_refl _
  ·exact hs i j hl hij (by lia)
 case fin =>
  rintro c st' ⟨hc,hB',hs'⟩
  refine ⟨hc,hB',?_⟩
  rwa [show min (max (max ok 1) n) n=n by lia] at hs'
 case step =>
  rintro k c st' hak hkn ⟨rfl,hB',hs'⟩
  rw [show min k n=k by lia] at hs'
  have hk:lo+k < a₀.size:=by lia
  refine wpS_bind (wpS_mono (wpS_forRange (I:=fun x c st''=>st''=st'/\∃ l r,c=(none,l,r)/\l<=r/\r<=k/\r - l<=k - x /\
   (∀ i,lo<=i->i < lo+l->Kf κ (arrOf st') i<=Kf κ (arrOf st') (lo+k))/\(∀ i,lo+r<=i->i < lo+k->Kf κ (arrOf st') (lo+k) < Kf κ (arrOf st') i))
   (Q:=fun c st''=>st''=st'/\∃ l r,c=(none,l,r)/\l<=k /\
     (∀ i,lo<=i->i < lo+l->Kf κ (arrOf st') i<=Kf κ (arrOf st') (lo+k))/\(∀ i,lo+l<=i->i < lo+k->Kf κ (arrOf st') (lo+k) < Kf κ (arrOf st') i)) ?istep ?ifin ?iinit) ?ipost)
  case iinit=>exact ⟨rfl,0,k,rfl,by lia,by lia,by lia,fun i _ hi=>by lia,fun i h1 h2=>by lia⟩
  case ifin =>
   rintro c st'' ⟨rfl,l,r,rfl,hlr,hrk,hm,hlo,hhi⟩
   have:l=r:=by lia
   subst this
   exact ⟨rfl,l,l,rfl,hrk,hlo,hhi⟩
  case istep =>
   rintro x c st'' _ hxk ⟨rfl,l,r,rfl,hlr,hrk,hm,hlo,hhi⟩
   dsimp only
   by_cases hge:l ≥ r
   ·rw [if_pos hge]
    have:l=r:=by lia
    subst this
    exact wpS_pure ⟨rfl,l,l,rfl,hrk,hlo,hhi⟩
   ·rw [if_neg hge]
    refine wpS_bind (Cz C hB' h0 hk (by lia) ?_)
    by_cases hless:Kf κ (arrOf st'') (lo+k) < Kf κ (arrOf st'') (lo+(l+r) / 2)
    ·simp only [hless,decide_true,if_true]
     refine wpS_pure ⟨rfl,l,(l+r) / 2,rfl,by lia,by lia,by lia,hlo,fun i h1 h2=>?_⟩
     exact Int.lt_of_lt_of_le hless (hs' _ _ (by lia) h1 h2)
    ·simp only [hless,decide_false,Bool.false_eq_true,if_false]
     refine wpS_pure ⟨rfl,(l+r) / 2+1,r,rfl,by lia,by lia,by lia,fun i h0' h1=>?_,hhi⟩
     exact Int.le_trans (hs' i (lo+(l+r) / 2) h0' (by lia) (by lia)) (Int.not_lt.mp hless)
  case ipost =>
   rintro c st'' ⟨rfl,l,r,rfl,hlk,hlo,hhi⟩
   show wpS _ _ _ _ (do moveDown' (lo+k) (lo+l);pure (ForInStep.yield (none,()))) _ _
   rw [moveDown'_eq]
   have hks:lo+k < (arrOf st'').size:=by rw [hB'.size];exact hk
   refine wpS_bind (wpS_modify (wpS_pure ⟨rfl,hB'.put (bubble_perm _ _ _) (fun i hi=>?_),?_⟩))
   ·show (bubble (arrOf st'') (lo+k) (lo+k - (lo+l)))[i]? = _
    rw [getElem?_bubble hks _ (by lia),if_neg (by lia),if_neg (by lia)]
   rw [show min (k+1) n=k+1 by lia]
   intro i j hl hij hj
   show Kf κ (bubble (arrOf st'') (lo+k) (lo+k - (lo+l))) i<=Kf κ (bubble (arrOf st'') (lo+k) (lo+k - (lo+l))) j
   rw [G4 hks (by lia),G4 hks (by lia),show lo+k - (lo+k - (lo+l))=lo+l by lia]
   repeat' split
   all_goals first
    | (exfalso;lia)
    | exact Int.le_refl _
    | exact hlo _ (by lia) (by lia)
    | exact Int.le_of_lt (hhi _ (by lia) (by lia))
    | exact hs' _ _ (by lia) (by lia) (by lia)
theorem Hf {M:Model} {α:Type} {m:StateT SortSt Sem α} {R:α->SortSt->Prop} {st:SortSt} (P:SortSt->Prop) (Z:StateT SortSt Sem α) (h1:(∀ st',P st'->wpS M A E s Z R st')->wpS M A E s m R st) (h2:∀ st',P st'->wpS M A E s Z R st'):wpS M A E s m R st:=h1 h2
theorem J0 {xs:Array Keyed}:Seg κ lo xs 1:=fun i j h1 h2 h3=>by
 have:i=j:=by lia
 subst this
 exact Int.le_refl _
theorem Seg.more {xs:Array Keyed} {x:Nat} (h:Seg κ lo xs x) (h1:1<=x) (hl:¬ Kf κ xs (lo+x) < Kf κ xs (lo+x - 1)):Seg κ lo xs (x+1):=fun i j h2 hij hj=>by
 by_cases hjx:j < lo+x
 ·exact h i j h2 hij hjx
 ·have e:j=lo+x:=by lia
  subst e
  by_cases e2:i=lo+x
  ·subst e2;exact Int.le_refl _
  ·exact Int.le_trans (h i (lo+x - 1) h2 (by lia) (by lia)) (Int.not_lt.mp hl)
theorem Dsc.more {xs:Array Keyed} {x:Nat} (h:Dsc κ lo xs x) (h1:1<=x) (hl:Kf κ xs (lo+x)<=Kf κ xs (lo+x - 1)):Dsc κ lo xs (x+1):=fun i j h2 hij hj=>by
 by_cases hjx:j < lo+x
 ·exact h i j h2 hij hjx
 ·have e:j=lo+x:=by lia
  subst e
  by_cases e2:i=lo+x
  ·subst e2;exact Int.le_refl _
  ·exact Int.le_trans hl (h i (lo+x - 1) h2 (by lia) (by lia))
theorem Gs (C:Cmp prog w A E s kd El κ) {st:SortSt} {nrem:Nat} {Q:Option Nat->SortSt->Prop} (h0:∀ x∈a₀.toList,El x) (hn:lo+nrem<=a₀.size) (h1:1<=nrem) (hB:Bs kd a₀ lo pe st)
 (h:∀ m st',Bs kd a₀ lo pe st'->1<=m->m<=nrem->Seg κ lo (arrOf st') m->Q (some m) st'):wpS (model prog w) A E s (countRun' lo nrem) Q st:=by
 delta countRun'
 refine wpS_bind (wpS_mono (wpS_forRange (I:=fun x c st'=>st'=st/\c=(none,x)/\Seg κ lo (arrOf st) x)
  (Q:=fun c st'=>st'=st/\∃ n,c=(none,n)/\1<=n/\n<=nrem/\Seg κ lo (arrOf st) n/\(n=nrem\/Kf κ (arrOf st) (lo+n) < Kf κ (arrOf st) (lo+n - 1))) ?step ?fin ⟨rfl,rfl,J0⟩) ?post)
 case fin =>
  rintro c st' ⟨rfl,rfl,hs'⟩
  rw [show max 1 nrem=nrem by lia] at hs' ⊢
  exact ⟨rfl,nrem,rfl,h1,Nat.le_refl _,hs',.inl rfl⟩
 case step =>
  rintro x c st' hax hxn ⟨rfl,rfl,hs'⟩
  dsimp only
  refine wpS_bind (Cz C hB h0 (by lia) (by lia) ?_)
  by_cases hless:Kf κ (arrOf st') (lo+x) < Kf κ (arrOf st') (lo+x - 1)
  ·simp only [hless,decide_true,if_true]
   exact wpS_pure ⟨rfl,x,rfl,hax,by lia,hs',.inr hless⟩
  ·simp only [hless,decide_false,Bool.false_eq_true,if_false]
   exact wpS_pure ⟨rfl,rfl,hs'.more hax hless⟩
 case post =>
  rintro c st' ⟨rfl,n,rfl,hn1,hn2,hsn,hor⟩
  dsimp only
  by_cases hnn:n=nrem
  ·rw [if_pos (by simpa using hnn)]
   exact wpS_pure (h n _ hB hn1 hn2 hsn)
  rw [if_neg (by simpa using hnn)]
  have hlt:=hor.resolve_left hnn
  apply Hf (fun st'=>Bs kd a₀ lo pe st'/\Dsc κ lo (arrOf st') (n+1))
  case h1 =>
   intro zz
   by_cases hgt:n > 1
   ·rw [if_pos hgt]
    refine wpS_bind (Cz C hB h0 (by lia) (by lia) ?_)
    by_cases hrose:Kf κ (arrOf st') lo < Kf κ (arrOf st') (lo+n - 1)
    ·simp only [hrose,decide_true,if_true]
     exact wpS_pure (h n _ hB hn1 hn2 hsn)
    ·simp only [hrose,decide_false,Bool.false_eq_true,if_false]
     have hsz:lo+n<=(arrOf st').size:=by rw [hB.size];lia
     have hall:∀ k,lo<=k->k < lo+n->Kf κ (arrOf st') k=Kf κ (arrOf st') (lo+n - 1):=fun k hk1 hk2=>by
      have a1:=hsn lo k (Nat.le_refl _) hk1 hk2
      have a2:=hsn k (lo+n - 1) hk1 (by lia) (by lia)
      lia
     refine wpS_bind (Dg hB (Nat.le_refl _) (by lia) fun hB2=>zz _ ⟨hB2,Dsc.more (fun i j hi hij hj=>?_) hn1 ?_⟩)
     ·show Kf κ (mirror (arrOf st') _ _ _) j<=Kf κ (mirror (arrOf st') _ _ _) i
      rw [CC hsz hall,CC hsz hall,hall i (by lia) (by lia),hall j (by lia) (by lia)]
      exact Int.le_refl _
     ·show Kf κ (mirror (arrOf st') _ _ _) _<=Kf κ (mirror (arrOf st') _ _ _) _
      rw [CC hsz hall,CC hsz hall]
      exact Int.le_of_lt hlt
   ·rw [if_neg hgt]
    have e:n=1:=by lia
    exact zz _ ⟨hB,Dsc.more (fun i j hi hij hj=>by
     have:i=j:=by lia
     subst this
     exact Int.le_refl _) hn1 (Int.le_of_lt hlt)⟩
  case h2 =>
   clear hB hsn hor hlt
   rintro st2 ⟨hB,hd⟩
   refine wpS_bind (wpS_lift (wpAny_rule ⟨rfl,?_⟩))
   refine wpS_bind (wpS_mono (wpS_forRange (I:=fun x c st'=>∃ neq,c=(none,x,neq)/\Bs kd a₀ lo pe st'/\Dsc κ lo (arrOf st') x/\neq+1<=x/\(∀ i,lo+x - (neq+1)<=i->i < lo+x->Kf κ (arrOf st') i=Kf κ (arrOf st') (lo+x - 1)))
    (Q:=fun c st'=>∃ x neq,c=(none,x,neq)/\Bs kd a₀ lo pe st'/\1<=x/\x<=nrem/\Dsc κ lo (arrOf st') x/\neq+1<=x/\(∀ i,lo+x - (neq+1)<=i->i < lo+x->Kf κ (arrOf st') i=Kf κ (arrOf st') (lo+x - 1))) ?dstep ?dfin ⟨0,rfl,hB,hd,by lia,fun i h1 h2=>by congr 1;lia⟩) ?dpost)
   case dfin =>
    rintro c st' ⟨neq,rfl,hB',hs',hq,he⟩
    rw [show max (n+1) nrem=nrem by lia] at hs' hq he ⊢
    exact ⟨_,_,rfl,hB',h1,Nat.le_refl _,hs',hq,he⟩
   case dstep =>
    rintro x c st' hax hxn ⟨neq,rfl,hB',hs',hq,he⟩
    dsimp only
    have hsz:lo+x<=(arrOf st').size:=by rw [hB'.size];lia
    refine wpS_bind (Cz C hB' h0 (by lia) (by lia) ?_)
    by_cases hless:Kf κ (arrOf st') (lo+x) < Kf κ (arrOf st') (lo+x - 1)
    ·simp only [hless,decide_true,if_true]
     have hm:=hs'.more (by lia) (Int.le_of_lt hless)
     by_cases hneq:neq > 0
     ·rw [if_pos hneq]
      refine wpS_bind (Dg hB' (by lia) (by lia) fun hB2=>wpS_pure ⟨0,rfl,hB2,fun i j hi hij hj=>?_,by lia,fun i h1 h2=>by congr 1;lia⟩)
      show Kf κ (mirror (arrOf st') _ _ _) j<=Kf κ (mirror (arrOf st') _ _ _) i
      rw [CC hsz he,CC hsz he]
      exact hm i j hi hij hj
     ·rw [if_neg hneq]
      exact wpS_pure ⟨0,rfl,hB',hm,by lia,fun i h1 h2=>by congr 1;lia⟩
    ·simp only [hless,decide_false,Bool.false_eq_true,if_false]
     refine wpS_bind (Cz C hB' h0 (by lia) (by lia) ?_)
     by_cases hlarger:Kf κ (arrOf st') (lo+x - 1) < Kf κ (arrOf st') (lo+x)
     ·simp only [hlarger,decide_true,if_true]
      exact wpS_pure ⟨_,_,rfl,hB',by lia,by lia,hs',hq,he⟩
     ·simp only [hlarger,decide_false,Bool.false_eq_true,if_false]
      have heqx:Kf κ (arrOf st') (lo+x)=Kf κ (arrOf st') (lo+x - 1):=by lia
      refine wpS_pure ⟨neq+1,rfl,hB',hs'.more (by lia) (by lia),by lia,fun i h1 h2=>?_⟩
      rw [show lo+(x+1) - 1=lo+x by lia]
      by_cases hix:i=lo+x
      ·subst hix;rfl
      ·rw [heqx];exact he i (by lia) (by lia)
   case dpost =>
    rintro c st3 ⟨x,neq,rfl,hB3,hx1,hx2,hs3,hq,he⟩
    dsimp only
    have hsz:lo+x<=(arrOf st3).size:=by rw [hB3.size];lia
    apply Hf (fun st'=>Bs kd a₀ lo pe st'/\Dsc κ lo (arrOf st') x)
    case h1 =>
     intro zz
     by_cases hneq:neq > 0
     ·rw [if_pos hneq]
      refine wpS_bind (Dg hB3 (by lia) (by lia) fun hB2=>zz _ ⟨hB2,fun i j hi hij hj=>?_⟩)
      show Kf κ (mirror (arrOf st3) _ _ _) j<=Kf κ (mirror (arrOf st3) _ _ _) i
      rw [CC hsz he,CC hsz he]
      exact hs3 i j hi hij hj
     ·rw [if_neg hneq]
      exact zz _ ⟨hB3,hs3⟩
    case h2 =>
     clear hB3 hs3 he hsz
     rintro st4 ⟨hB4,hs4⟩
     have hsz:lo+x<=(arrOf st4).size:=by rw [hB4.size];lia
     refine wpS_bind (Dg hB4 (Nat.le_refl _) (by lia) fun hB5=>?_)
     have hsg:Seg κ lo (arrOf (setArr st4 (mirror (arrOf st4) lo (lo+x) ((lo+x - lo) / 2)))) x:=fun i j hi hij hj=>by
      show Kf κ (mirror (arrOf st4) _ _ _) i<=Kf κ (mirror (arrOf st4) _ _ _) j
      rw [FW hsz,FW hsz,if_pos (by lia),if_pos (by lia)]
      exact hs4 _ _ (by lia) (by lia) (by lia)
     generalize setArr st4 (mirror (arrOf st4) lo (lo+x) ((lo+x - lo) / 2))=st5 at hB5 hsg ⊢
     refine wpS_bind (wpS_mono (wpS_forRange (I:=fun x c st'=>st'=st5/\c=(none,x)/\Seg κ lo (arrOf st5) x)
      (Q:=fun c st'=>st'=st5/\∃ n,c=(none,n)/\1<=n/\n<=nrem/\Seg κ lo (arrOf st5) n) ?step ?fin ⟨rfl,rfl,hsg⟩) ?post)
     case fin =>
      rintro c st' ⟨rfl,rfl,hs'⟩
      rw [show max x nrem=nrem by lia] at hs' ⊢
      exact ⟨rfl,nrem,rfl,h1,Nat.le_refl _,hs'⟩
     case step =>
      rintro y c st' hax hxn ⟨rfl,rfl,hs'⟩
      dsimp only
      refine wpS_bind (Cz C hB5 h0 (by lia) (by lia) ?_)
      by_cases hless:Kf κ (arrOf st') (lo+y) < Kf κ (arrOf st') (lo+y - 1)
      ·simp only [hless,decide_true,if_true]
       exact wpS_pure ⟨rfl,y,rfl,by lia,by lia,hs'⟩
      ·simp only [hless,decide_false,Bool.false_eq_true,if_false]
       exact wpS_pure ⟨rfl,rfl,hs'.more (by lia) hless⟩
     case post =>
      rintro c st' ⟨rfl,m,rfl,hm1,hm2,hsm⟩
      exact wpS_pure (h m _ hB5 hm1 hm2 hsm)
end
section
variable {prog:Program} {w:World} {A:Around} {E:Value->Shared->Prop} {s:Shared} {kd:SortKind} {El:Keyed->Prop} {κ:Keyed->Int} {a₀:Array Keyed}
theorem Cc {xs:Array Keyed} {i:Nat} (h:i < xs.toList.length):Kf κ xs i=κ xs.toList[i]:=by
 unfold Kf
 rw [AU h]
theorem HV {xs:Array Keyed} {n:Nat} (h:Seg κ 0 xs n):Srt κ (xs.toList.take n):=List.pairwise_iff_getElem.mpr fun i j hi hj hij=>by
 rw [List.length_take] at hi hj
 have:=h i j (Nat.zero_le _) (by lia) (by lia)
 rw [Cc (by lia),Cc (by lia)] at this
 simpa using this
theorem KM {xs:Array Keyed} {n m:Nat} (h:Seg κ n xs m) (hs:xs.toList.length=n+m):Srt κ (xs.toList.drop n):=List.pairwise_iff_getElem.mpr fun i j hi hj hij=>by
 rw [List.length_drop] at hi hj
 have:=h (n+i) (n+j) (by lia) (by lia) (by lia)
 rw [Cc (by lia),Cc (by lia)] at this
 rw [List.getElem_drop,List.getElem_drop]
 exact this
structure Dn (kd:SortKind) (κ:Keyed->Int) (a₀:Array Keyed) (st:SortSt):Prop where
 perm:(arrOf st).toList.Perm a₀.toList
 kind:kindOf st=kd
 failed:failedOf st=none
 pend:(pendingOf st).size<=1
 srt:Srt κ (arrOf st).toList
structure Tw (kd:SortKind) (κ:Keyed->Int) (a₀:Array Keyed) (n1 n2 pw:Nat) (st:SortSt):Prop where
 perm:(arrOf st).toList.Perm a₀.toList
 kind:kindOf st=kd
 failed:failedOf st=none
 pend:pendingOf st = #[(0,n1,pw),(n1,n2,0)]
 l1:0 < n1
 l2:0 < n2
 len:n1+n2=a₀.size
 s1:Srt κ ((arrOf st).toList.take n1)
 s2:Srt κ ((arrOf st).toList.drop n1)
theorem Ja {n:Nat} (h1:1<=n) (h:n < 64):minRun' n n 0=n:=by
 obtain ⟨f,hf⟩:∃ f,n=f+1:=⟨n - 1,by lia⟩
 have:minRun' (f+1) n 0=n:=by rw [minRun'_succ,if_pos h];rfl
 rwa [<- hf] at this
theorem N0:minRun' 64 64 0=32:=rfl
theorem GV (C:Cmp prog w A E s kd El κ) {st:SortSt} {Q:Unit->SortSt->Prop} (h0:∀ x∈a₀.toList,El x) (hB:Bs kd a₀ 0 #[] st) (h2:2<=a₀.size) (h64:a₀.size<=64)
 (h:∀ st',(arrOf st').toList.Perm a₀.toList->failedOf st'=none->Srt κ (arrOf st').toList->Q () st'):wpS (model prog w) A E s sortRuns' Q st:=by
 have hlen:∀ {st'},(arrOf st').toList.Perm a₀.toList->(arrOf st').toList.length=a₀.size:=fun hp=>by rw [hp.length_eq,Array.length_toList]
 have hmr:minRun' a₀.size a₀.size 0=a₀.size/\a₀.size < 64\/minRun' a₀.size a₀.size 0=32/\a₀.size=64:=by
  rcases Nat.lt_or_ge a₀.size 64 with z | z
  ·exact .inl ⟨Ja (by lia) z,z⟩
  ·have:a₀.size=64:=by lia
   exact .inr ⟨by rw [this];exact N0,this⟩
 rw [sortRuns'_eq]
 refine wpS_bind (wpS_get ?_)
 dsimp only
 rw [hB.size]
 generalize minRun' a₀.size a₀.size 0=mr at hmr ⊢
 refine wpS_bind (wpS_mono (wpS_forRange
  (I:=fun x c st'=>(x=0/\c=(none,0)/\Bs kd a₀ 0 #[] st')\/(1<=x/\c=(none,a₀.size)/\(Dn kd κ a₀ st'\/∃ n1 n2 pw,Tw kd κ a₀ n1 n2 pw st'))\/(x=1/\a₀.size=64/\mr=32/\∃ n1,c=(none,n1)/\32<=n1/\n1 < 64/\Bs kd a₀ 0 #[(0,n1,0)] st'/\Seg κ 0 (arrOf st') n1))
  (Q:=fun c st'=>c=(none,a₀.size)/\(Dn kd κ a₀ st'\/∃ n1 n2 pw,Tw kd κ a₀ n1 n2 pw st')) ?step ?fin (.inl ⟨rfl,rfl,hB⟩)) ?post)
 case fin =>
  rintro c st' (⟨hx,_,_⟩ | ⟨_,hc,hD⟩ | ⟨hx,_,_⟩)
  ·lia
  ·exact ⟨hc,hD⟩
  ·lia
 case step =>
  rintro x c st' _ hx (⟨rfl,rfl,hB'⟩ | ⟨hx1,rfl,hD⟩ | ⟨rfl,e64,rfl,n1,rfl,h32,hn1,hB',hs'⟩)
  ·dsimp only
   rw [if_neg (by lia),Nat.sub_zero]
   refine wpS_bind (Gs C h0 (by lia) (by lia) hB' fun m st2 hB2 hm1 hm2 hs2=>?_)
   dsimp only
   have fin:∀ n st3,Bs kd a₀ 0 #[] st3->Seg κ 0 (arrOf st3) n->mr<=n->n<=a₀.size->(n=a₀.size/\Dn kd κ a₀ (setPending st3 ((pendingOf st3).push (0,n,0))))\/(a₀.size=64/\mr=32/\32<=n/\n < 64/\Bs kd a₀ 0 #[(0,n,0)] (setPending st3 ((pendingOf st3).push (0,n,0)))/\Seg κ 0 (arrOf st3) n):=fun n st3 hB3 hs3 hn1 hn2=>by
    by_cases e:n=a₀.size
    ·refine .inl ⟨e,Array.perm_iff_toList_perm.mp hB3.perm,hB3.kind,hB3.failed,?_,?_⟩
     ·show ((pendingOf st3).push _).size<=1
      rw [hB3.pend]
      exact Nat.le_refl _
     ·show Srt κ (arrOf st3).toList
      have:=HV hs3
      rwa [List.take_of_length_le (by rw [hlen (Array.perm_iff_toList_perm.mp hB3.perm)];lia)] at this
    ·rcases hmr with ⟨z1,z2⟩ | ⟨z1,z2⟩
     ·lia
     ·refine .inr ⟨z2,z1,by lia,by lia,⟨hB3.perm,hB3.kind,hB3.failed,?_,fun i hi=>by lia⟩,hs3⟩
      show (pendingOf st3).push _=_
      rw [hB3.pend]
      rfl
   by_cases hlt:m < mr
   ·rw [if_pos hlt]
    refine wpS_bind (wpS_lift (wpAny_rule ⟨rfl,?_⟩))
    have hmin:min a₀.size mr=mr:=by lia
    rw [hmin]
    refine wpS_bind (G5 C h0 (by lia) (by lia) hB2 hs2 fun st3 hB3 hs3=>?_)
    simp only [Bool.not_true,Bool.false_eq_true,if_false]
    refine wpS_bind (wpS_get ?_)
    have hb:(pendingOf st3).back? = none:=by rw [hB3.pend];rfl
    rw [hb]
    dsimp only
    refine wpS_bind (wpS_modify (wpS_pure ?_))
    rcases fin mr st3 hB3 hs3 (Nat.le_refl _) (by lia) with ⟨e,d⟩ | ⟨e1,e2,e3,e4,e5,e6⟩
    ·exact .inr (.inl ⟨by lia,by rw [Nat.zero_add,e],.inl d⟩)
    ·exact .inr (.inr ⟨by first | trivial | rfl,e1,e2,mr,by rw [Nat.zero_add],e3,e4,e5,e6⟩)
   ·rw [if_neg hlt]
    refine wpS_bind (wpS_get ?_)
    have hb:(pendingOf st2).back? = none:=by rw [hB2.pend];rfl
    rw [hb]
    dsimp only
    refine wpS_bind (wpS_modify (wpS_pure ?_))
    rcases fin m st2 hB2 hs2 (by lia) hm2 with ⟨e,d⟩ | ⟨e1,e2,e3,e4,e5,e6⟩
    ·exact .inr (.inl ⟨by lia,by rw [Nat.zero_add,e],.inl d⟩)
    ·exact .inr (.inr ⟨by first | trivial | rfl,e1,e2,m,by rw [Nat.zero_add],e3,e4,e5,e6⟩)
  ·dsimp only
   rw [if_pos (Nat.le_refl _)]
   exact wpS_pure ⟨rfl,hD⟩
  ·dsimp only
   rw [if_neg (by lia)]
   have hsz:(arrOf st').size=a₀.size:=hB'.size
   have h0':∀ x∈(arrOf st').toList,El x:=fun x hx=>h0 x ((Array.perm_iff_toList_perm.mp hB'.perm).mem_iff.mp hx)
   have hB1:Bs kd (arrOf st') n1 #[(0,n1,0)] st':=⟨Array.Perm.refl _,hB'.kind,hB'.failed,hB'.pend,fun _ _=>rfl⟩
   refine wpS_bind (Gs C h0' (by lia) (by lia) hB1 fun m st2 hB2 hm1 hm2 hs2=>?_)
   dsimp only
   have fin:∀ st3,Bs kd (arrOf st') n1 #[(0,n1,0)] st3->Seg κ n1 (arrOf st3) (a₀.size - n1)->∀ pw,Tw kd κ a₀ n1 (a₀.size - n1) pw (setPending (setPending st3 #[(0,n1,pw)]) #[(0,n1,pw),(n1,a₀.size - n1,0)]):=fun st3 hB3 hs3 pw=>by
    have hp:(arrOf st3).toList.Perm a₀.toList:=(Array.perm_iff_toList_perm.mp hB3.perm).trans (Array.perm_iff_toList_perm.mp hB'.perm)
    refine ⟨hp,hB3.kind,hB3.failed,rfl,by lia,by lia,by lia,?_,?_⟩
    ·refine HV fun i j hi hij hj=>?_
     show Kf κ (arrOf st3) i<=Kf κ (arrOf st3) j
     rw [CK (hB3.low i (by lia)),CK (hB3.low j (by lia))]
     exact hs' i j hi hij hj
    ·exact KM (xs:=arrOf st3) hs3 (by rw [hlen hp];lia)
   have fin2:∀ st3,Bs kd (arrOf st') n1 #[(0,n1,0)] st3->Seg κ n1 (arrOf st3) (a₀.size - n1)->∀ pw,Tw kd κ a₀ n1 (a₀.size - n1) pw (setPending (setPending st3 ((pendingOf st3).modify ((pendingOf st3).size - 1) fun (st,len,_)=>(st,len,pw))) ((pendingOf (setPending st3 ((pendingOf st3).modify ((pendingOf st3).size - 1) fun (st,len,_)=>(st,len,pw)))).push (n1,a₀.size - n1,0))):=fun st3 hB3 hs3 pw=>by
    have e:(pendingOf st3).modify ((pendingOf st3).size - 1) (fun (st,len,_)=>(st,len,pw)) = #[(0,n1,pw)]:=by
     rw [hB3.pend]
     simp [Array.modify,Array.modifyM,Id.run]
     try rfl
    rw [e]
    exact fin st3 hB3 hs3 pw
   have e32:∀ m,¬ m < 32->m<=a₀.size - n1->m=a₀.size - n1:=fun m _ _=>by lia
   by_cases hlt:m < 32
   case' pos =>
    rw [if_pos hlt]
    refine wpS_bind (wpS_lift (wpAny_rule ⟨rfl,?_⟩))
    have hmin:min (a₀.size - n1) 32=a₀.size - n1:=by lia
    rw [hmin]
    refine wpS_bind (G5 C h0' (by lia) (by lia) hB2 hs2 fun st3 hB3 hs3=>?_)
    simp only [Bool.not_true,Bool.false_eq_true,if_false]
   case' neg =>
    rw [if_neg hlt]
    have hs3:=hs2
    have hB3:=hB2
    rw [e32 m hlt hm2] at hs3 ⊢
    refine (fun z:∀ st3,Bs kd (arrOf st') n1 #[(0,n1,0)] st3->Seg κ n1 (arrOf st3) (a₀.size - n1)->wpS (model prog w) A E s _ _ st3=>z st2 hB3 hs3) ?_
    clear hs3 hB3
    intro st3 hB3 hs3
   all_goals
    refine wpS_bind (wpS_get ?_)
    have hb:(pendingOf st3).back? = some (0,n1,0):=by rw [hB3.pend];rfl
    rw [hb]
    dsimp only
    generalize power' _ _ _ _=pw
    refine wpS_bind (wpS_mono (wpS_forRange (I:=fun _ c st4=>c=(none,())/\st4=st3) (Q:=fun c st4=>c=(none,())/\st4=st3) ?_ (fun _ _ hh=>hh) ⟨rfl,rfl⟩) ?_)
    ·rintro y c st4 _ _ ⟨rfl,rfl⟩
     refine wpS_bind (wpS_get ?_)
     rw [hB3.pend,if_neg (by simp)]
     exact wpS_pure ⟨rfl,rfl⟩
    ·rintro c st4 ⟨rfl,rfl⟩
     dsimp only
     refine wpS_bind (wpS_modify (wpS_bind (wpS_modify (wpS_pure (.inr (.inl ⟨by lia,by rw [show n1+(a₀.size - n1)=a₀.size by lia],.inr ⟨n1,a₀.size - n1,pw,?_⟩⟩))))))
     exact fin2 st4 hB3 hs3 pw
 case post =>
  rintro c st' ⟨rfl,hD⟩
  dsimp only
  refine wpS_bind (wpS_mono (wpS_forRange (I:=fun x c st''=>c=(none,())/\(Dn kd κ a₀ st''\/x=0/\∃ n1 n2 pw,Tw kd κ a₀ n1 n2 pw st'')) (Q:=fun c st''=>c=(none,())/\Dn kd κ a₀ st'') ?_ ?_ ⟨rfl,hD.imp id fun z=>⟨rfl,z⟩⟩) ?_)
  ·rintro x c st2 _ _ ⟨rfl,hD⟩
   refine wpS_bind (wpS_get ?_)
   rcases hD with hD | ⟨rfl,n1,n2,pw,hT⟩
   ·rw [if_pos hD.pend]
    exact wpS_pure ⟨rfl,hD⟩
   ·rw [hT.pend,if_neg (by simp)]
    have h0':∀ x∈(arrOf st2).toList,El x:=fun x hx=>h0 x (hT.perm.mem_iff.mp hx)
    refine wpS_bind (LJ C hT.kind hT.failed hT.pend hT.l1 hT.l2 (by rw [hlen hT.perm,hT.len]) h0' hT.s1 hT.s2 fun st3 k3 f3 p3 perm3 srt3=>?_)
    exact wpS_pure ⟨rfl,.inl ⟨perm3.trans hT.perm,k3,f3,by rw [p3];exact Nat.le_refl _,srt3⟩⟩
  ·rintro c st2 ⟨rfl,hD | ⟨z,_⟩⟩
   ·exact ⟨rfl,hD⟩
   ·lia
  ·rintro c st2 ⟨rfl,hD⟩
   exact wpS_pure (h _ hD.perm hD.failed hD.srt)
end
section
variable {prog:Program} {w:World} {A:Around} {E:Value->Shared->Prop} {s:Shared}
abbrev nκ (p:Keyed):Int:=numOf p.1
theorem Kz:Cmp prog w A E s oneType' (fun p=>∃ n t,p.1=.int n t) nκ:=⟨fun x y st Q hx hy hk h=>by
 obtain ⟨a,t,ea⟩:=hx
 obtain ⟨b,u,eb⟩:=hy
 rw [lt'_eq]
 refine wpS_bind (wpS_get ?_)
 rw [hk,keyLt'_oneType,ea,eb]
 refine wpS_bind (wpS_lift (wpAny_attempt (oneLt_int ⟨rfl,?_⟩)))
 unfold nκ at h
 rw [ea,eb] at h
 exact wpS_pure h⟩
theorem NW {xs:Array Keyed} (h:Srt nκ xs.toList) {n:Nat} (hn:n=xs.size):SortedTo xs n:=fun i j hij hj=>by
 have h2:j < xs.toList.length:=by rw [Array.length_toList];lia
 have e:∀ i,K xs i=Kf nκ xs i:=fun i=>rfl
 rw [e,e,Cc (by lia),Cc h2]
 exact Am h hij h2
theorem Kn {a:Addr} {vs:List Value} {ns:List Int} {n:Nat} {P:PySem.Fin->Shared->Prop} (ho:s.heap.get? a=some (seqObj "list" vs.toArray n))
 (hI:IntsAre vs ns) (h64:vs.length<=64)
 (h:∀ (out:Array Value) (ns':List Int),IntsAre out.toList ns'->ns'.Perm ns->ns'.Pairwise (· <= ·)->P (.done (.ret .none)) { s with heap:=sortedHeap s.heap a vs out }) :
 wpAny (model prog w) A (Builtin.«list.sort» ⟨[.ref a],[]⟩) P E s:=by
 rcases Nat.lt_or_ge vs.length 64 with hlt | hge
 ·exact list_sort_tree ho hI hlt h
 rw [list_sort_plain]
 have ha:a < s.heap.objs.size:=Heap.lt_size ho
 refine wpAny_bind (listItems_at ho rfl ?_)
 refine wpAny_bind (listUpdate_at ho rfl ?_ (by rw [List.size_toArray,sizeLine_eq];lia))
 obtain ⟨e1,ho1⟩:∃ e1,(s.heap.update a (Obj.mapSeq fun _=>#[])).get? a=some (seqObj "list" #[] e1):=⟨_,get?_update_seq ho (fun _=>#[])⟩
 refine wpAny_bind (seqEpoch_at ho1 rfl ?_)
 refine wpAny_bind (wpAny_newTuple ?_ (by rw [sizeLine_eq,show vs.toArray.toList=vs from rfl];lia))
 refine wpAny_bind (wpAny_newList ?_)
 refine wpAny_holding ?_
 have ho6:(((s.heap.update a (Obj.mapSeq fun _=>#[])).push (seqObj "tuple" vs.toArray 0)).push (seqObj "list" #[] 0)).get? a=some (seqObj "list" #[] e1):=by
  rw [Heap.get?_push_ne _ _ _ (by rw [size_push',Heap.size_update];exact Nat.ne_of_lt (Nat.lt_succ_of_lt ha)),Heap.get?_push_ne _ _ _ (by rw [Heap.size_update];exact Nat.ne_of_lt ha)]
  exact ho1
 show wpAny (model prog w) A _ P E { s with heap:=((s.heap.update a (Obj.mapSeq fun _=>#[])).push (seqObj "tuple" vs.toArray 0)).push (seqObj "list" #[] 0) }
 dsimp only
 have h2:¬ vs.toArray.size < 2:=by rw [List.size_toArray];lia
 rw [if_neg h2,if_neg h2]
 have ek:keyKind' vs.toArray=pure oneType':=by
  match vs,hge,hI with
  | v₁::v₂::rest,_,hI=>exact keyKind_ints hI
 rw [ek]
 refine wpAny_bind (wpAny_pure ?_)
 refine wpAny_bind (wpAny_mono (GV (a₀:=pairsOf vs) Kz (st:=SortSt.mk' oneType' (vs.toArray.zip vs.toArray) #[] 7 none)
  (Q:=fun _ st'=>(arrOf st').toList.Perm (pairsOf vs).toList/\failedOf st'=none/\Srt nκ (arrOf st').toList)
  (fun x hx=>hI.intKeys x hx) ⟨Array.Perm.refl _,rfl,rfl,rfl,fun _ _=>rfl⟩ (by rw [pairsOf_size];lia) (by rw [pairsOf_size];exact h64) fun st' a1 a2 a3=>⟨a1,a2,a3⟩) ?_ fun _ _ e=>e)
 rintro ⟨⟨⟩,st'⟩ s' ⟨rfl,hp,hf,hs⟩
 dsimp only
 have hp':=Array.perm_iff_toList_perm.mpr hp
 refine wpAny_bind (seqEpoch_at ho6 rfl ?_)
 refine wpAny_bind (listUpdate_at ho6 rfl ?_ (hsz2:=by refine Nat.le_trans (Nat.le_of_eq ((Array.size_map ..).trans (hp'.size_eq.trans (pairsOf_size _)))) ?_;rw [sizeLine_eq];lia))
 rw [hf]
 simp only [bne_self_eq_false,Bool.false_eq_true,if_false]
 obtain ⟨ns',b1,b2,b3⟩:=sorted_out hI hp' (NW hs hp'.size_eq.symm)
 exact wpAny_pure (h _ ns' b1 b2 b3)
end
end L2
namespace L2
open PySem PySem.Spec PyProof.Rows PySem.W
def Fs:List V->Hp->VK->Prop:=fun xs H Q=>match xs with
 | [.ref d]=>∃ ps:List (Int × V),H d=some (.dK (ps.map fun q=>(Sum.inl q.1,q.2)))/\ps.length<=64/\∀ (ms:List Int) p,ms.Perm (ps.map (·.1))->ms.Pairwise (· <= ·)->H p=none->Q (.ref p) (upd H p (.lst (ms.map V.int)))
 | _=>False
section
variable {P:Program} {w:World} {A:Around} {E:Value->Shared->Prop} {s:Shared} {a:Addr}
theorem NR {T:String} {r d:Addr} {n:Nat} {P':Nat->Value->Prop} {OK:Heap->Prop} {R:List Value->Shared->Prop} (K:KdlSrc P w T r d n P' OK) (hh:A.handled=none) (hok:OK s.heap) (hn:n<=sizeLine)
 (fin:∀ (h':Heap) (tk:Nat) (acc:Array Value),(∀ b o,s.heap.get? b=some o->h'.get? b=some o)->s.heap.objs.size < h'.objs.size->ItemsOf P' acc n->R acc.toList { s with heap:=h',toks:=tk }) :
 wpAny (model P w) A (collect (.ref r)) R E s:=by
 have hlt:=K.there _ hok
 unfold collect
 refine wpAny_bind (wpAny_runValue (codeAny_builtin entry_proto_collect' ?_))
 rw [Around.under_plainId PySem.F.plain_proto_collect _]
 show wpAny _ A.in1 (newList [] >>= fun l=>again (.builtin "list.__iadd__" ⟨[l,.ref r],[]⟩)) _ _ s
 refine wpAny_bind (wpAny_newObj_type (wpAny_pure ⟨plainId_quiet PySem.F.plain_list_iadd _,codeAny_builtin entry_list_iadd' ?_⟩))
 rw [Around.under_plainId PySem.F.plain_list_iadd _]
 have g1:(s.heap.push { cls:=.type "list",data:=.seq ([]:List Value).toArray }).get? s.heap.objs.size=some { cls:=.type "list",data:=.seq #[] }:=Heap.get?_push_size _ rfl
 show wpAny _ A.in1 (Builtin.List.listExtendWith (.ref s.heap.objs.size) (.ref r) (.ref s.heap.objs.size)) _ _ _
 refine wpAny_mono (kdl_extend (A:=A) (s:={ s with heap:=s.heap.push { cls:=.type "list",data:=.seq ([]:List Value).toArray } })
  (R:=fun (q:Result) (s':Shared)=>∃ (h':Heap) (tk:Nat) (acc:Array Value) (c:Nat),q=.ok (.ret (.ref s.heap.objs.size))/\s' = { s with heap:=h',toks:=tk } /\
    (∀ b o,s.heap.get? b=some o->h'.get? b=some o)/\h'.get? s.heap.objs.size=some { cls:=.type "list",dict:=none,data:=.seq acc c,slots:=#[] } /\ ItemsOf P' acc n)
  K hh (K.keep _ _ hok fun b _ o e=>Heap.get?_push_of_some _ e) s.heap.objs.size (Nat.ne_of_gt hlt.1) (Nat.ne_of_gt hlt.2) (.ref s.heap.objs.size) 0 g1
  (fun h' tk acc c hk hS hacc=>⟨h',tk,acc,c,rfl,rfl,fun b o e=>hk b o (Nat.ne_of_lt (Heap.lt_size e)) (Heap.get?_push_of_some _ e),hS,hacc⟩) hn) (fun q s' x=>?_) fun e s' x=>?_
 ·cases q with
  | done f =>
   obtain ⟨h',tk,acc,c,e,rfl,hk,hS,hacc⟩:=x
   cases e
   show wpAny _ A (load s.heap.objs.size >>= _) _ _ _
   exact wpAny_bind (wpAny_load hS (wpAny_pure (fin h' tk acc hk (Heap.lt_size hS) hacc)))
  | again c₁ =>
   refine ⟨x.1,codeAny_mono x.2 fun q s₂ y=>?_⟩
   obtain ⟨h',tk,acc,c,rfl,rfl,hk,hS,hacc⟩:=y
   show wpAny _ A (load s.heap.objs.size >>= _) _ _ _
   exact wpAny_bind (wpAny_load hS (wpAny_pure (fin h' tk acc hk (Heap.lt_size hS) hacc)))
 ·obtain ⟨_,_,_,_,e',_⟩:=x
  cases e'
theorem Jz {d:Addr} {kvs:List (Key × Value)} {ep:Nat} {ns:List Int} {Q:Value->Shared->Prop} (hh:A.handled=none) (lo:(d == sysModules)=false) (hd:s.heap.DictAt (AY P w) d kvs ep) (hk:kvs.map (·.1)=ns.map Sum.inl) (h64:ns.length<=64)
 (fin:∀ (h':Heap) tk (p:Addr) (ms:List Int) (out:Array Value) (e:Nat),ms.Perm ns->ms.Pairwise (· <= ·)->IntsAre out.toList ms->h'.get? p=some (seqObj "list" out e)->s.heap.objs.size<=p->(∀ b o,s.heap.get? b=some o->h'.get? b=some o)->Q (.ref p) { s with heap:=h',toks:=tk }) :
 wpAny (model P w) A (call (.builtin "sorted") [.ref d]) Q E s:=by
 have hlen:kvs.length=ns.length:=by have:=congrArg List.length hk;simpa using this
 have hz:kvs.length<=sizeLine:=Nat.le_trans (by lia) (show 64<=sizeLine by decide)
 refine Calls.call_function_entry kind_sorted plain_sorted entry_sorted (args_sorted1 _) ?_
 unfold Builtin.«sorted»
 refine wpAny_bind (m:=checkCount "sorted" 1 1 _) (wpAny_pure (wpAny_bind (NR (A:=A.in1) (kdl_dict lo) hh hd hz fun h' tk acc hkp hsz hacc=>?_)))
 have hl:acc.toList.length=ns.length:=by rw [Array.length_toList,hacc.1,hlen]
 have hat:∀ (i:Nat) v,acc.toList[i]? = some v->∃ (k:Int) (t:Tok),ns[i]? = some k/\v=.int k t:=fun i v e=>by
  obtain ⟨k,x,e1,e2⟩:=hacc.2 i v (by rw [<- Array.getElem?_toList];exact e)
  have e3:(kvs.map (·.1))[i]? = some k:=by rw [List.getElem?_map,e1];rfl
  rw [hk,List.getElem?_map] at e3
  obtain ⟨j,e4,rfl⟩:=Option.map_eq_some_iff.mp e3
  have e2:Br (Sum.inl j) v=true:=e2
  rcases keyIs_shape e2 with ⟨j',t',e5,rfl⟩ | ⟨_,_,e5,_⟩
  ·cases e5;exact ⟨j,t',e4,rfl⟩
  ·cases e5
 have hI:IntsAre acc.toList ns:=by
  have h1:=intsAre_map acc.toList (fun v hv=>by
   obtain ⟨i,hi,ei⟩:=List.getElem_of_mem hv
   obtain ⟨k,t,_,e⟩:=hat i v (by rw [List.getElem?_eq_getElem hi,ei])
   exact ⟨k,t,e⟩)
  have e:acc.toList.map numOf=ns:=by
   apply List.ext_getElem
   ·rw [List.length_map,hl]
   ·intro i h1 h2
    have h3:i < acc.toList.length:=by rw [hl];exact h2
    obtain ⟨k,t,e1,e2⟩:=hat i acc.toList[i] (List.getElem?_eq_getElem h3)
    rw [List.getElem?_eq_getElem h2] at e1
    cases e1
    rw [List.getElem_map,e2]
    rfl
  rwa [e] at h1
 refine wpAny_bind (wpAny_newList ?_ (by rw [hl,<- hlen];exact hz))
 have hoL:(h'.push (seqObj "list" acc.toList.toArray 0)).get? h'.objs.size=some (seqObj "list" acc.toList.toArray 0):=Heap.get?_push_size _ rfl
 have hlt:s.heap.objs.size<=h'.objs.size:=Nat.le_of_lt hsz
 refine wpAny_bind (wpAny_holding (wpAny_call_entry slot_list_sort ⟨_,hoL,rfl⟩ entry_list_sort (Kn hoL hI (by lia) fun out ns' a1 a2 a3=>⟨_,rfl,?_⟩) (args_list_sort _)))
 obtain ⟨e,he⟩:=sortedHeap_at (out:=out) hoL
 refine wpAny_pure ⟨_,rfl,fin _ tk h'.objs.size ns' out e a2 a3 a1 he hlt fun b o q=>?_⟩
 have hb:=hkp b o q
 have hlt2:=Heap.lt_size hb
 rw [sortedHeap_old (Nat.ne_of_lt hlt2) (by rw [Heap.size_push];exact Nat.lt_succ_of_lt hlt2)]
 exact Heap.get?_push_of_some _ hb
end
section
variable {X:Cx} {K:W.Frag} {P:Program} {w:World}
theorem Io (hh:X.calm=true):CallR X (.builtin "sorted") Fs:=by
 intro pins s σ H xs us Q I r h
 match xs,h with
 | [.ref d],h =>
 obtain ⟨ps,hd,hn,q⟩:=h
 obtain ⟨u,rfl,rx⟩:=Bk r
 cases rx
 obtain ⟨hl,hsm,vs,rv,dd⟩:=D5 I.hok hd
 obtain ⟨o,es,ep,e1,e2,e3,_⟩:=id dd
 obtain ⟨da,_⟩:=Dc e1 e3 dd
 have rl:=rv.len
 rw [List.length_map] at rl
 have hkeys:vs.map (·.1)=(ps.map (·.1)).map Sum.inl:=by
  apply List.ext_getElem?
  intro i
  rcases Nat.lt_or_ge i ps.length with hi | hi
  ·have e0:(ps.map fun q=>((Sum.inl q.1:Key),q.2))[i]? = some (Sum.inl ps[i].1,ps[i].2):=by simp [hi]
   obtain ⟨v,e4,_⟩:=rv.get e0
   rw [List.getElem?_map,e4]
   simp [hi]
  ·rw [List.getElem?_eq_none (by rw [List.length_map];lia),List.getElem?_eq_none (by rw [List.length_map,List.length_map];lia)]
 refine Jz (ns:=ps.map (·.1)) (I.ok.hd hh) hsm da hkeys (by rw [List.length_map];exact hn) fun h' tk b ms out e m1 m2 hi hb hp hk=>?_
 refine ⟨.ref b,_,I.laid (t':=tk) (o:=.lst (ms.map V.int)) (fun b o e=>hk b o e) hp ?_,rfl,q ms _ m1 m2 (I.hok.fresh hp)⟩
 exact ⟨by rw [List.length_map,m1.length_eq,List.length_map];exact Nat.le_trans hn (by decide),out.toList,e,L4 hi,hb⟩
theorem Lg (hh:X.calm=true):CallR X (.builtin "sorted") Fs:=Io hh
end
end L2
namespace L2
open PySem PySem.Spec PyProof.Rows PySem.W PySem.Calls
section
variable {P:Program} {w:World} {A:Around} {E:Value->Shared->Prop} {s:Shared}
theorem Hs {v:Value} {Q:Bool->Shared->Prop} (h:Q true s):wpAny (model P w) A (eqBool v v) Q E s:=by
 unfold eqBool
 refine wpAny_holding ?_
 rw [if_pos (by simp)]
 exact wpAny_bind (wpAny_rule (wpAny_pure h))
def PairV (h:Heap) (v:Value) (k:Int):Prop:=∃ a t y o n,v=.ref a/\h.get? a=some o/\o.cls=.type "tuple" /\ o.data=.seq #[.int k t,y] n
theorem PairV.keep {h h':Heap} {v:Value} {k:Int} (p:PairV h v k) (e:∀ b o,o.cls=.type "tuple" -> h.get? b=some o->h'.get? b=some o):PairV h' v k:=by
 obtain ⟨a,t,u,o,n,rfl,ha,hc,hd⟩:=p
 exact ⟨a,t,u,o,n,rfl,e _ _ hc ha,hc,hd⟩
theorem MI {v v':Value} {k k':Int} {C:Bool->Shared->Prop} (h1:PairV s.heap v k) (h2:PairV s.heap v' k') (hs:k=k'->v=v') (h:C (decide (k < k')) s) :
 wpAny (model P w) A (keyLt' (tuples' true) v v') C (fun _ _=>False) s:=by
 obtain ⟨a,t,u,o,n,rfl,ha,hc,hd⟩:=h1
 obtain ⟨a',t',u',o',n',rfl,ha',hc',hd'⟩:=h2
 by_cases e:k=k'
 ·have e2:=hs e
  cases e2
  subst e
  refine kat_lt ha hd ha hd ?_
  show KatLex P w A true _ C [(.int k t,.int k t),(u,u)] 0 s
  refine kat_cons (Hs (kat_yes (kat_cons (Hs (kat_yes (kat_nil ?_))))))
  rw [show decide (k < k)=false by simp] at h
  exact h
 ·refine kat_lt ha hd ha' hd' ?_
  show KatLex P w A true _ C [(.int k t,.int k' t'),(u,u')] 0 s
  refine kat_cons (wpAny_eqBool_int (kat_go (fun e'=>absurd (by simpa using e') e) (fun _=>kat_no (oneLt_int h))))
theorem N3 {vs:List Value} {κv:Value->Int} (hv:∀ v∈vs,PairV s.heap v (κv v)) (hu:∀ v∈vs,∀ v'∈vs,κv v=κv v'->v=v'):Cmp P w A E s (tuples' true) (fun p=>p.1∈vs) (fun p=>κv p.1):=⟨fun x y st Q hx hy hk h=>by
 rw [lt'_eq]
 refine wpS_bind (wpS_get ?_)
 rw [hk]
 refine wpS_bind (wpS_lift (wpAny_attempt (wpAny_mono (MI (hv _ hx) (hv _ hy) (hu _ hx _ hy) (C:=fun b s'=>s'=s/\b=decide (κv x.1 < κv y.1)) ⟨rfl,rfl⟩) ?_ fun _ _ e=>e.elim)))
 rintro b s' ⟨rfl,rfl⟩
 exact ⟨rfl,wpS_pure h⟩⟩
theorem HE {h:Heap}:∀ {vs:List Value},(∀ v∈vs,∃ k,PairV h v k)->∃ fs:List Value,KatTups h vs fs/\fs.length=vs.length/\∀ f∈fs,∃ k t,f=.int k t
 | [],_=>⟨[],.nil,rfl,nofun⟩
 | v::vs,hv=>by
  obtain ⟨k,a,t,u,o,n,rfl,ha,hc,hd⟩:=hv v (by simp)
  obtain ⟨fs,h1,h2,h3⟩:=HE (vs:=vs) fun v' h'=>hv v' (List.mem_cons_of_mem _ h')
  refine ⟨.int k t::fs,KatTups.cons ha hc hd rfl h1,by simp [h2],fun f hf=>?_⟩
  rcases List.mem_cons.mp hf with rfl | z
  ·exact ⟨k,t,rfl⟩
  ·exact h3 f z
theorem HP {a:Addr} {vs:List Value} {n:Nat} {R:PySem.Fin->Shared->Prop} {κv:Value->Int} (ho:s.heap.get? a=some (seqObj "list" vs.toArray n)) (hv:∀ v∈vs,PairV s.heap v (κv v)) (hu:∀ v∈vs,∀ v'∈vs,κv v=κv v'->v=v') (h64:vs.length<=64)
 (fin:∀ out:List Value,out.Perm vs->out.Pairwise (fun x y=>κv x<=κv y)->R (.done (.ret .none)) { s with heap:=sortedHeap s.heap a vs out.toArray }) :
 wpAny (model P w) A (Builtin.«list.sort» ⟨[.ref a],[]⟩) R E s:=by
 have hz:vs.length<=sizeLine:=by rw [sizeLine_eq];lia
 rw [list_sort_plain]
 have ha:a < s.heap.objs.size:=Heap.lt_size ho
 obtain ⟨e1,ho1⟩:∃ e1,(s.heap.update a (Obj.mapSeq fun _=>#[])).get? a=some (seqObj "list" #[] e1):=⟨_,get?_update_seq ho (fun _=>#[])⟩
 refine wpAny_bind (listItems_at ho rfl (wpAny_bind (listUpdate_at ho rfl (wpAny_bind (seqEpoch_at ho1 rfl (wpAny_bind (wpAny_newTuple (wpAny_bind (wpAny_newList (wpAny_holding ?_))) hz)))) (by rw [List.size_toArray];exact hz))))
 have ho6:(((s.heap.update a (Obj.mapSeq fun _=>#[])).push (seqObj "tuple" vs.toArray 0)).push (seqObj "list" #[] 0)).get? a=some (seqObj "list" #[] e1):=Heap.get?_push_of_some _ (Heap.get?_push_of_some _ ho1)
 show wpAny (model P w) A _ R E { s with heap:=((s.heap.update a (Obj.mapSeq fun _=>#[])).push (seqObj "tuple" vs.toArray 0)).push (seqObj "list" #[] 0) }
 dsimp only
 have kp:∀ b o,o.cls=.type "tuple" -> s.heap.get? b=some o->(((s.heap.update a (Obj.mapSeq fun _=>#[])).push (seqObj "tuple" vs.toArray 0)).push (seqObj "list" #[] 0)).get? b=some o:=fun b o hc e=>by
  have hba:b≠a:=fun z=>by
   rw [z,ho] at e
   cases e
   exact absurd hc (show ¬ (Value.type "list" = Value.type "tuple") by decide)
  exact Heap.get?_push_of_some _ (Heap.get?_push_of_some _ (by rw [Heap.get?_update_ne _ _ _ _ hba];exact e))
 have hsz:vs.toArray.size=vs.length:=by simp
 by_cases h2:vs.toArray.size < 2
 ·rw [if_pos h2,if_pos h2]
  refine wpAny_bind (wpAny_pure ?_)
  rw [StateT.run_pure]
  refine wpAny_bind (wpAny_pure ?_);dsimp only
  refine wpAny_bind (seqEpoch_at ho6 rfl (wpAny_bind (listUpdate_at ho6 rfl ?_ (hsz2:=by rw [Array.size_map];show (pairsOf vs).size<=_;rw [pairsOf_size,sizeLine_eq];lia))))
  simp only [bne_self_eq_false,Bool.false_eq_true,if_false]
  have e:((vs.toArray.zip vs.toArray).map (·.2))=vs.toArray:=by
   apply Array.ext'
   simp
   exact List.map_snd_zip (Nat.le_refl _)
  refine wpAny_pure ?_
  show R _ { s with heap:=Heap.update (((s.heap.update a (Obj.mapSeq fun _=>#[])).push (seqObj "tuple" vs.toArray 0)).push (seqObj "list" #[] 0)) a (Obj.mapSeq fun _=>((vs.toArray.zip vs.toArray).map (·.2))) }
  rw [e]
  refine fin vs (List.Perm.refl _) ?_
  match vs,h2 with
  | [],_=>exact .nil
  | [x],_=>exact List.pairwise_singleton _ _
  | _::_::_,h2=>simp at h2;lia
 ·rw [if_neg h2,if_neg h2]
  have hl2:2<=vs.length:=by rw [hsz] at h2;lia
  have hin:∀ v∈vs,PairV (((s.heap.update a (Obj.mapSeq fun _=>#[])).push (seqObj "tuple" vs.toArray 0)).push (seqObj "list" #[] 0)) v (κv v):=fun v h=>(hv v h).keep kp
  obtain ⟨fs,f1,f2,f3⟩:=HE (fun v h=>⟨_,hin v h⟩)
  refine wpAny_bind (kat_kind (T:=Value.type "int") f1 (by lia) (fun v hv=>?_) (by decide) ?_)
  ·obtain ⟨k,t,rfl⟩:=f3 v hv
   exact Looks.of_pure rfl
  rw [show (Value.type "int" != Value.type "tuple")=true by decide]
  refine wpAny_bind (wpAny_mono (GV (a₀:=pairsOf vs) (s:={ s with heap:=((s.heap.update a (Obj.mapSeq fun _=>#[])).push (seqObj "tuple" vs.toArray 0)).push (seqObj "list" #[] 0) }) (N3 (vs:=vs) (κv:=κv) hin hu) (st:=SortSt.mk' (tuples' true) (vs.toArray.zip vs.toArray) #[] 7 none)
   (Q:=fun _ st'=>(arrOf st').toList.Perm (pairsOf vs).toList/\failedOf st'=none/\Srt (fun p=>κv p.1) (arrOf st').toList)
   (fun x hx=>by rw [pairsOf_toList] at hx;exact (mem_zip_self hx).2) ⟨Array.Perm.refl _,rfl,rfl,rfl,fun _ _=>rfl⟩ (by rw [pairsOf_size];lia) (by rw [pairsOf_size];exact h64) fun st' a1 a2 a3=>⟨a1,a2,a3⟩) ?_ fun _ _ e=>e)
  rintro ⟨⟨⟩,st'⟩ s' ⟨rfl,hp,hf,hs⟩
  dsimp only
  have hp':=Array.perm_iff_toList_perm.mpr hp
  refine wpAny_bind (seqEpoch_at ho6 rfl ?_)
  refine wpAny_bind (listUpdate_at ho6 rfl ?_ (hsz2:=by refine Nat.le_trans (Nat.le_of_eq ((Array.size_map ..).trans (hp'.size_eq.trans (pairsOf_size _)))) ?_;rw [sizeLine_eq];lia))
  rw [hf]
  simp only [bne_self_eq_false,Bool.false_eq_true,if_false]
  have eo:(arrOf st').map (·.2)=((arrOf st').toList.map (·.2)).toArray:=by
   apply Array.ext'
   simp
  have hmem:∀ p∈(arrOf st').toList,p.1=p.2:=fun p h=>by
   have:=hp.mem_iff.mp h
   rw [pairsOf_toList] at this
   exact (mem_zip_self this).1
  refine wpAny_pure ?_
  show R _ { s with heap:=Heap.update (((s.heap.update a (Obj.mapSeq fun _=>#[])).push (seqObj "tuple" vs.toArray 0)).push (seqObj "list" #[] 0)) a (Obj.mapSeq fun _=>((arrOf st').map (·.2))) }
  rw [eo]
  refine fin _ ?_ ?_
  ·have:=hp.map (·.2)
   rw [pairsOf_toList,List.map_snd_zip (Nat.le_refl _)] at this
   exact this
  ·rw [List.pairwise_map]
   refine List.Pairwise.imp_of_mem (fun {x y} hx hy hxy=>?_) hs
   rw [<- hmem x hx,<- hmem y hy]
   exact hxy
end
end L2
namespace L2
open PySem PySem.Spec PyProof.Rows PySem.W
def BZ:Value->Addr
 | .ref a=>a
 | _=>0
section
variable {P:Program} {w:World} {A:Around} {E:Value->Shared->Prop} {s:Shared}
theorem Jv {r d:Addr} {kvs:List (Key × Value)} {ep:Nat} {ns:List Int} {Q:Value->Shared->Prop} (hh:A.handled=none) (hv:s.heap.IsItemsView r d) (hm:s.heap.DictAt (AY P w) d kvs ep) (hk:kvs.map (·.1)=ns.map Sum.inl) (nd:ns.Nodup) (h64:ns.length<=64)
 (fin:∀ (h':Heap) tk (L:Addr) (as:List Addr) (is:List Nat) (e:Nat),is.Perm (List.range ns.length)->(is.map fun i=>ns.getD i 0).Pairwise (· <= ·)->as.length=is.length->as.Nodup->(∀ a∈as,s.heap.objs.size<=a/\a < L) ->
   (∀ (j:Nat) a i,as[j]? = some a->is[j]? = some i->∃ k x t,kvs[i]? = some (Sum.inl k,x)/\h'.get? a=some { cls:=.type "tuple",data:=.seq #[.int k t,x] }) ->
   h'.get? L=some (seqObj "list" (as.map Value.ref).toArray e)->r < L->(∀ b o,s.heap.get? b=some o->h'.get? b=some o)->Q (.ref L) { s with heap:=h',toks:=tk }) :
 wpAny (model P w) A (call (.builtin "sorted") [.ref r]) Q E s:=by
 have hl:kvs.length=ns.length:=by have:=congrArg List.length hk;simpa using this
 have hz:ns.length<=sizeLine:=Nat.le_trans h64 (by decide)
 refine Calls.call_function_entry kind_sorted plain_sorted entry_sorted (args_sorted1 _) ?_
 unfold Builtin.«sorted»
 refine wpAny_bind (m:=checkCount "sorted" 1 1 _) (wpAny_pure (wpAny_bind (kdx_collect (A:=A.in1) hh hv hm (by rw [hl];exact hz) fun h' tk as hkp hal g=>?_)))
 have hal':as.length=ns.length:=hal.trans hl
 refine wpAny_bind (wpAny_newList ?_ (by rw [List.length_map,hal'];exact hz))
 have hoL:(h'.push (seqObj "list" (as.map Value.ref).toArray 0)).get? h'.objs.size=some (seqObj "list" (as.map Value.ref).toArray 0):=Heap.get?_push_size _ rfl
 have hlt:r < h'.objs.size:=by
  obtain ⟨o,ho,_⟩:=id hv
  exact Heap.lt_size (hkp _ _ ho)
 have and_:as.Nodup:=g.rise.imp fun h=>Nat.ne_of_lt h
 have at_:∀ (i:Nat) a,as[i]? = some a->∃ k x t,ns[i]? = some k/\kvs[i]? = some (Sum.inl k,x)/\h'.get? a=some { cls:=.type "tuple",data:=.seq #[.int k t,x] }:=fun i a e=>by
  obtain ⟨key,k,x,e1,e2,e3⟩:=g.pairs i a e
  have e4:(kvs.map (·.1))[i]? = some k:=by rw [List.getElem?_map,e1];rfl
  rw [hk,List.getElem?_map] at e4
  obtain ⟨j,e5,rfl⟩:=Option.map_eq_some_iff.mp e4
  have e2:Br (Sum.inl j) key=true:=e2
  rcases keyIs_shape e2 with ⟨j',t',e6,rfl⟩ | ⟨_,_,e6,_⟩
  ·cases e6
   exact ⟨j,x,t',e5,e1,e3⟩
  ·cases e6
 have up:∀ b o,h'.get? b=some o->(h'.push (seqObj "list" (as.map Value.ref).toArray 0)).get? b=some o:=fun b o e=>Heap.get?_push_of_some _ e
 have ix:∀ a∈as,as[as.idxOf a]? = some a:=fun a ha=>by
  rw [List.getElem?_eq_getElem (List.idxOf_lt_length_of_mem ha)]
  simp
 have key_:∀ a∈as,∃ k x t,ns[as.idxOf a]? = some k/\ns.getD (as.idxOf a) 0=k/\kvs[as.idxOf a]? = some (Sum.inl k,x)/\h'.get? a=some { cls:=.type "tuple",data:=.seq #[.int k t,x] }:=fun a ha=>by
  obtain ⟨k,x,t,e1,e2,e3⟩:=at_ _ _ (ix a ha)
  exact ⟨k,x,t,e1,by rw [List.getD_eq_getElem?_getD,e1];rfl,e2,e3⟩
 refine wpAny_bind (wpAny_holding (wpAny_call_entry slot_list_sort ⟨_,hoL,rfl⟩ entry_list_sort (HP (κv:=fun v=>ns.getD (as.idxOf (BZ v)) 0) hoL (fun v hv=>?_) (fun v hv v' hv' e=>?_) (by rw [List.length_map];lia) fun out pm srt=>⟨_,rfl,?_⟩) (args_list_sort _)))
 ·obtain ⟨a,ha,rfl⟩:=List.mem_map.mp hv
  obtain ⟨k,x,t,e1,e2,e3,e4⟩:=key_ a ha
  show PairV _ _ (ns.getD (as.idxOf a) 0)
  rw [e2]
  exact ⟨a,t,x,_,_,rfl,up _ _ e4,rfl,rfl⟩
 ·obtain ⟨a,ha,rfl⟩:=List.mem_map.mp hv
  obtain ⟨a',ha',rfl⟩:=List.mem_map.mp hv'
  obtain ⟨k,x,t,e1,e2,_⟩:=key_ a ha
  obtain ⟨k',x',t',e1',e2',_⟩:=key_ a' ha'
  have e:ns.getD (as.idxOf a) 0=ns.getD (as.idxOf a') 0:=e
  rw [e2,e2'] at e
  subst e
  have:as.idxOf a=as.idxOf a':=(List.getElem?_inj (List.getElem?_eq_some_iff.mp e1).1 nd).mp (e1.trans e1'.symm)
  have h1:=ix a ha
  rw [this,ix a' ha'] at h1
  cases h1
  rfl
 ·have eo:out=(out.map BZ).map Value.ref:=by
   rw [List.map_map]
   have:out.map id=out:=List.map_id _
   conv=>lhs;rw [<- this]
   refine List.map_congr_left fun v hv=>?_
   obtain ⟨a,_,rfl⟩:=List.mem_map.mp (pm.mem_iff.mp hv)
   rfl
  have pa:(out.map BZ).Perm as:=by
   have:=pm.map BZ
   rw [List.map_map] at this
   have e:as.map (BZ ∘ Value.ref)=as:=by
    have:as.map id=as:=List.map_id _
    exact this
   rwa [e] at this
  have srt':(out.map BZ).Pairwise (fun x y=>ns.getD (as.idxOf x) 0<=ns.getD (as.idxOf y) 0):=by
   rw [List.pairwise_map]
   exact srt
  rw [eo]
  generalize out.map BZ=as' at *
  clear eo srt pm
  obtain ⟨e,he⟩:=sortedHeap_at (out:=(as'.map Value.ref).toArray) hoL
  have old:∀ b o,h'.get? b=some o->(sortedHeap (h'.push (seqObj "list" (as.map Value.ref).toArray 0)) h'.objs.size (as.map Value.ref) (as'.map Value.ref).toArray).get? b=some o:=fun b o q=>by
   have hlt2:=Heap.lt_size q
   rw [sortedHeap_old (Nat.ne_of_lt hlt2) (by rw [Heap.size_push];exact Nat.lt_succ_of_lt hlt2)]
   exact up _ _ q
  refine wpAny_pure ⟨_,rfl,fin _ tk h'.objs.size as' (as'.map fun a=>as.idxOf a) e ?_ ?_ (by simp) (pa.nodup_iff.mpr and_) (fun a ha=>?_) (fun j a i h1 h2=>?_) he hlt fun b o q=>old b o (hkp b o q)⟩
  ·have:=pa.map (fun a=>as.idxOf a)
   refine this.trans ?_
   have e:as.map (fun a=>as.idxOf a)=List.range ns.length:=by
    apply List.ext_getElem
    ·simp [hal']
    ·intro i h1 h2
     rw [List.getElem_map,List.getElem_range]
     exact and_.idxOf_getElem i (by simpa using h1)
   rw [e]
  ·rw [List.map_map,List.pairwise_map]
   exact srt'
  ·have ha':=pa.mem_iff.mp ha
   exact ⟨Nat.le_of_lt (g.above a ha'),g.there ha'⟩
  ·rw [List.getElem?_map,h1] at h2
   cases h2
   obtain ⟨k,x,t,e1,e2,e3,e4⟩:=key_ a (pa.mem_iff.mp (List.mem_of_getElem? h1))
   exact ⟨k,x,t,e3,old _ _ e4⟩
end
def Ln (to:TE):TE:=fun σ H Q=>to σ H fun v H1=>match v with
 | .ref d=>∃ ps:List (Int × V),H1 d=some (.dK (ps.map fun q=>(Sum.inl q.1,q.2)))/\ps.length<=64/\∀ (l:Addr) (H2:Hp) (as:List Addr) (rs:List (Int × V)),rs.Perm ps->(rs.map (·.1)).Pairwise (· < ·) ->
  H1 l=none->Same H1 H2->H2 l=some (.lst (as.map V.ref))->as.length=rs.length->(∀ (i:Nat) a q,as[i]? = some a->rs[i]? = some q->H2 a=some (.tup [.int q.1,q.2]))->Q (.ref l) H2
 | _=>False
section
variable {X:Cx}
theorem OI {oe:Expr} {to:TE} {p pos apos cpos:Pos} (hc:X.calm=true) (hg:Gl X "sorted") (hm:X.mg "sorted" = none) (ho:PE X oe to) (hbase:attributeBase oe "items" X.env (eval oe X.env)=eval oe X.env:=by rfl) (hline:(apos.endLine == cpos.line)=true:=by rfl)
 (hs:starEach [.Call (.Attribute oe "items" apos) [] [] cpos] X.env=[(false,eval (.Call (.Attribute oe "items" apos) [] [] cpos) X.env)]:=by rfl) :
 PE X (.Call (.Name "sorted" p) [.Call (.Attribute oe "items" apos) [] [] cpos] [] pos) (Ln to):=by
 intro pins s σ H Q I h
 refine Call_ (Cv I hg hm (by rfl:bootBuiltins "sorted" = some (.builtin "sorted")) (PyProof.Rows.callWith_builtin1 ?_ (by rw [hs];rfl) (by rfl)))
 rw [hs]
 show wpAny _ _ (spliced ((false,eval (.Call (.Attribute oe "items" apos) [] [] cpos) X.env)::[])) _ _ s
 refine Calls.spliced_cons ?_
 refine wpAny_Call_method0_late hbase hline (thn (ho pins s σ H _ I h) fun v s1 ⟨x,H1,I1,r1,q1⟩=>?_)
 match x,q1,r1 with
 | .ref d,⟨ps,hd,h64,q⟩,r1 =>
 cases r1
 obtain ⟨hl,hsm,vs,rv,dd⟩:=D5 I1.hok hd
 obtain ⟨o,es,ep,e1,e2,e3,_⟩:=id dd
 refine ⟨"dict","dict.items",PySem.F.plainAttrs_dict,PySem.F.slot_dict_items,PySem.F.type_dict_items,dd.typeIs,fun a ea=>?_,Calls.callWith_builtin rfl (PySem.evalArgs_none ?_)⟩
 ·cases ea;exact ⟨o,e1,e2.2.1⟩
 refine call_meetsIn PySem.F.slot_dict_items dd.typeIs PySem.F.entry_dict_items (PySem.F.args_dict_items_1 _) (meets_dict_items (AY X.prog X.w) d hsm) ⟨⟨vs,dd⟩,?_⟩
 refine Calls.spliced_nil ?_
 have keep0:∀ b u,s1.heap.get? b=some u->(s1.heap.push { cls:=.type "dict_items",data:=.fields #[.ref d] }).get? b=some u:=fun b u e=>Heap.get?_push_of_some _ e
 have hv:(s1.heap.push { cls:=.type "dict_items",data:=.fields #[.ref d] }).IsItemsView s1.heap.objs.size d:=⟨_,Heap.get?_push_size _ rfl,rfl,rfl⟩
 have hsz0:(s1.heap.push { cls:=.type "dict_items",data:=.fields #[.ref d] }).objs.size=s1.heap.objs.size+1:=Heap.size_push ..
 obtain ⟨da,_⟩:=Dc e1 e3 dd
 have da:=da.push { cls:=.type "dict_items",data:=.fields #[.ref d] }
 have rl:=rv.len
 rw [List.length_map] at rl
 have nd:(vs.map (·.1)).Nodup:=by
  obtain ⟨_,_,_,_,_,_,_,_,z⟩:=id dd
  exact z
 have hkeys:vs.map (·.1)=(ps.map (·.1)).map Sum.inl:=by
  apply List.ext_getElem?
  intro i
  rcases Nat.lt_or_ge i ps.length with hi | hi
  ·have e0:(ps.map fun q=>((Sum.inl q.1:Key),q.2))[i]? = some (Sum.inl ps[i].1,ps[i].2):=by simp [hi]
   obtain ⟨v,e4,_⟩:=rv.get e0
   rw [List.getElem?_map,e4]
   simp [hi]
  ·rw [List.getElem?_eq_none (by rw [List.length_map];lia),List.getElem?_eq_none (by rw [List.length_map,List.length_map];lia)]
 have nd':(ps.map (·.1)).Nodup:=by
  rw [hkeys] at nd
  exact List.Pairwise.imp (fun h e=>h (by rw [e])) (List.pairwise_map.mp nd)
 refine Jv (s:={ s1 with heap:=s1.heap.push { cls:=.type "dict_items",data:=.fields #[.ref d] } }) (ns:=ps.map (·.1)) (I.ok.hd hc) hv da hkeys nd' (by rw [List.length_map];exact h64) fun h' tk L as is e a1 a2 a3 a4 a5 a6 a7 a8 a9=>?_
 rw [List.length_map] at a1
 have keep:∀ b u,s1.heap.get? b=some u->h'.get? b=some u:=fun b u e=>a9 b u (keep0 b u e)
 have hfree:∀ b,s1.heap.objs.size<=b->H1 b=none:=fun b hb=>I1.hok.fresh hb
 have hLs:s1.heap.objs.size<=L:=Nat.le_of_lt a8
 have has:∀ a∈as,s1.heap.objs.size<=a/\a < L:=fun a ha=>⟨Nat.le_trans (by show _<=(s1.heap.push _).objs.size;rw [hsz0];exact Nat.le_succ _) (a5 a ha).1,(a5 a ha).2⟩
 have hilt:∀ i∈is,i < ps.length:=fun i hi=>List.mem_range.mp (a1.mem_iff.mp hi)
 have hrs:∃ rs:List (Int × V),rs=is.map (fun i=>ps.getD i (0,.int 0)):=⟨_,rfl⟩
 obtain ⟨rs,ers⟩:=hrs
 have rsl:as.length=rs.length:=by rw [ers,List.length_map];exact a3
 have rsp:rs.Perm ps:=by
  rw [ers]
  refine (a1.map _).trans ?_
  have e:(List.range ps.length).map (fun i=>ps.getD i (0,.int 0))=ps:=by
   apply List.ext_getElem
   ·simp
   ·intro i h1 h2
    simp [h2]
  rw [e]
 have rsk:rs.map (·.1)=is.map fun i=>(ps.map (·.1)).getD i 0:=by
  rw [ers,List.map_map]
  refine List.map_congr_left fun i hi=>?_
  have:=hilt i hi
  simp [this]
 have rss:(rs.map (·.1)).Pairwise (· < ·):=by
  have h1:(rs.map (·.1)).Pairwise (· <= ·):=by rw [rsk];exact a2
  have h2:(rs.map (·.1)).Nodup:=(rsp.map (·.1)).nodup_iff.mpr nd'
  exact List.Pairwise.imp₂ (fun h g=>by lia) h1 h2
 have a6':∀ (j:Nat) a q,as[j]? = some a->rs[j]? = some q->∃ x t,RelV q.2 x/\h'.get? a=some { cls:=.type "tuple",data:=.seq #[.int q.1 t,x] }:=fun j a q h1 h2=>by
  rw [ers,List.getElem?_map] at h2
  obtain ⟨i,e1,e2⟩:=Option.map_eq_some_iff.mp h2
  obtain ⟨k,x,t,e3,e4⟩:=a6 j a i h1 e1
  have hi:=hilt i (List.mem_of_getElem? e1)
  have e0:(ps.map fun q=>((Sum.inl q.1:Key),q.2))[i]? = some (Sum.inl ps[i].1,ps[i].2):=by simp [hi]
  obtain ⟨v,e5,e6⟩:=rv.get e0
  rw [e3] at e5
  cases e5
  have:q=ps[i]:=by rw [<- e2];simp [hi]
  subst this
  exact ⟨x,t,e6,e4⟩
 let H2:Hp:=fun b=>if b=L then some (.lst (as.map V.ref)) else if b∈as then (rs[as.idxOf b]?).map fun q=>HO.tup [.int q.1,q.2] else H1 b
 have hL:H2 L=some (.lst (as.map V.ref)):=if_pos rfl
 have sm:∀ b o,H1 b=some o->H2 b=some o:=fun b o e=>by
  have hb:b < s1.heap.objs.size:=by
   rcases Nat.lt_or_ge b s1.heap.objs.size with z | z
   ·exact z
   ·rw [hfree b z] at e;cases e
  show (if b=L then _ else if b∈as then _ else H1 b)=_
  rw [if_neg (Nat.ne_of_lt (Nat.lt_of_lt_of_le hb hLs)),if_neg (fun z=>absurd (has b z).1 (Nat.not_le.mpr hb))]
  exact e
 have hT:∀ (i:Nat) a q,as[i]? = some a->rs[i]? = some q->H2 a=some (.tup [.int q.1,q.2]):=fun i a q h1 h2=>by
  have hm:=List.mem_of_getElem? h1
  have hi:=(List.getElem?_eq_some_iff.mp h1).1
  have ei:as.idxOf a=i:=by
   have:=(List.getElem?_eq_some_iff.mp h1).2
   rw [<- this]
   exact a4.idxOf_getElem i hi
  show (if a=L then _ else if a∈as then (rs[as.idxOf a]?).map (fun q=>HO.tup [.int q.1,q.2]) else H1 a)=_
  rw [if_neg (Nat.ne_of_lt (has a hm).2),if_pos hm,ei,h2]
  rfl
 refine ⟨.ref L,H2,I1.many keep sm fun b o hb n=>?_,rfl,q L H2 as rs rsp rss (hfree L hLs) (fun b o e=>sm b o e) hL rsl hT⟩
 have hb':(if b=L then some (HO.lst (as.map V.ref)) else if b∈as then (rs[as.idxOf b]?).map (fun q=>HO.tup [.int q.1,q.2]) else H1 b)=some o:=hb
 by_cases c1:b=L
 ·rw [if_pos c1] at hb'
  cases hb'
  subst c1
  exact ⟨hLs,by rw [List.length_map,rsl,rsp.length_eq];exact Nat.le_trans h64 (by decide),as.map Value.ref,e,En as,a7⟩
 ·rw [if_neg c1] at hb'
  by_cases c2:b∈as
  ·rw [if_pos c2] at hb'
   obtain ⟨q',e4,rfl⟩:=Option.map_eq_some_iff.mp hb'
   have e5:as[as.idxOf b]? = some b:=by
    rw [List.getElem?_eq_getElem (List.idxOf_lt_length_of_mem c2)]
    simp
   obtain ⟨x,t,z1,z2⟩:=a6' _ _ _ e5 e4
   exact ⟨(has b c2).1,AT (show 2<=1000 by decide),[.int q'.1 t,x],.cons ⟨t,rfl⟩ (.cons z1 .nil),⟨_,z2,rfl,⟨_,rfl⟩,rfl⟩⟩
  ·rw [if_neg c2,n] at hb'
   cases hb'
end
theorem Ft:∀ {as:List Addr} {its:List Value},Vals (as.map V.ref) its->its=as.map Value.ref
 | [],_,h=>by cases h;rfl
 | a::as,_,h=>by
  cases h with
  | cons r t =>
   cases r
   rw [Ft t]
   rfl
def Fv:List V->Hp->VK->Prop:=fun xs H Q=>match xs with
 | [.ref l]=>∃ qs:List (Int × Addr × V),H l=some (.lst ((qs.map fun q=>q.2.1).map V.ref))/\(∀ q∈qs,H q.2.1=some (.tup [.int q.1,q.2.2]))/\(qs.map fun q=>q.1).Nodup/\qs.length<=64 /\
  ∀ (rs:List (Int × Addr × V)) p,rs.Perm qs->(rs.map fun q=>q.1).Pairwise (· < ·)->H p=none->Q (.ref p) (upd H p (.lst ((rs.map fun q=>q.2.1).map V.ref)))
 | _=>False
section
variable {X:Cx}
theorem Nc:CallR X (.builtin "sorted") Fv:=by
 intro pins s σ H xs us Q I r h
 match xs,h with
 | [.ref l],h =>
 obtain ⟨qs,hl,ht,nd,h64,q⟩:=h
 obtain ⟨u,rfl,ru⟩:=Bk r
 cases ru
 obtain ⟨its,rv,pl,hz⟩:=I.list (.of hl)
 have ei:=Ft rv
 have and_:(qs.map fun q=>q.2.1).Nodup:=by
  refine List.pairwise_map.mpr (List.Pairwise.imp_of_mem (fun {x y} hx hy hne e=>hne ?_) (List.pairwise_map.mp nd))
  have h1:=ht x hx
  rw [e,ht y hy] at h1
  injection h1 with h1
  injection h1 with h1
  injection h1 with h1 _
  injection h1 with h1
  exact h1.symm
 have hp_:∀ q∈qs,PairV s.heap (.ref q.2.1) q.1:=fun q hq=>by
  obtain ⟨its2,rv2,o,e1,e2,⟨n,e3⟩,_⟩:=(show ∃ its2:List Value,Vals [.int q.1,q.2.2] its2/\IsTupN s.heap q.2.1 its2.toArray from by
   obtain ⟨its2,z1,z2,_⟩:=I.tupleN (.of (ht q hq))
   exact ⟨its2,z1,z2⟩)
  cases rv2 with
  | cons r1 t1 =>
   cases t1 with
   | cons r2 t2 =>
    cases t2
    obtain ⟨t,rfl⟩:=r1
    exact ⟨_,t,_,o,n,rfl,e1,e2,e3⟩
 subst ei
 have vl:((qs.map fun q=>q.2.1).map Value.ref).length=qs.length:=by rw [List.length_map,List.length_map]
 have hz':((qs.map fun q=>q.2.1).map Value.ref).length<=sizeLine:=by rw [vl];exact Nat.le_trans h64 (by decide)
 refine Calls.call_function_entry kind_sorted plain_sorted entry_sorted (args_sorted1 _) ?_
 unfold Builtin.«sorted»
 refine wpAny_bind (m:=checkCount "sorted" 1 1 _) (wpAny_pure (wpAny_bind (collect_list pl.isList ?_ hz')))
 refine wpAny_bind (wpAny_newList ?_ hz')
 generalize hvs:(qs.map fun q=>q.2.1).map Value.ref=vs at *
 have hsz:((s.heap.push (seqObj "list" #[] 0)).update s.heap.objs.size (Obj.mapSeq (· ++ vs.toArray))).objs.size=s.heap.objs.size+1:=by
  rw [Heap.size_update,size_push']
 have hoL:(((s.heap.push (seqObj "list" #[] 0)).update s.heap.objs.size (Obj.mapSeq (· ++ vs.toArray))).push (seqObj "list" vs.toArray 0)).get? (s.heap.objs.size+1)=some (seqObj "list" vs.toArray 0):=by
  rw [<- hsz];exact Heap.get?_push_size _ rfl
 have kp:∀ b o,s.heap.get? b=some o->(((s.heap.push (seqObj "list" #[] 0)).update s.heap.objs.size (Obj.mapSeq (· ++ vs.toArray))).push (seqObj "list" vs.toArray 0)).get? b=some o:=fun b o e=>by
  refine Heap.get?_push_of_some _ ?_
  rw [Heap.get?_update_ne _ _ _ _ (Nat.ne_of_lt (Heap.lt_size e))]
  exact Heap.get?_push_of_some _ e
 show wpAny _ _ _ _ _ { s with heap:=((s.heap.push (seqObj "list" #[] 0)).update s.heap.objs.size (Obj.mapSeq (· ++ vs.toArray))).push (seqObj "list" vs.toArray 0) }
 rw [hsz]
 have ix:∀ a∈qs.map fun q=>q.2.1,(qs.map fun q=>q.2.1)[(qs.map fun q=>q.2.1).idxOf a]? = some a:=fun a ha=>by
  rw [List.getElem?_eq_getElem (List.idxOf_lt_length_of_mem ha)]
  simp
 have at_:∀ a∈qs.map fun q=>q.2.1,∃ q∈qs,qs[(qs.map fun q=>q.2.1).idxOf a]? = some q/\q.2.1=a:=fun a ha=>by
  have h1:=ix a ha
  rw [List.getElem?_map] at h1
  obtain ⟨q,e1,e2⟩:=Option.map_eq_some_iff.mp h1
  exact ⟨q,List.mem_of_getElem? e1,e1,e2⟩
 have kq:∀ q∈qs,(qs.getD ((qs.map fun q=>q.2.1).idxOf q.2.1) (0,0,.int 0))=q:=fun q hq=>by
  obtain ⟨q',h1,e1,e2⟩:=at_ q.2.1 (List.mem_map_of_mem (f:=fun q:Int × Addr × V=>q.2.1) hq)
  rw [List.getD_eq_getElem?_getD,e1]
  show q'=q
  have g1:=ht q' h1
  rw [e2,ht q hq] at g1
  injection g1 with g1
  injection g1 with g1
  injection g1 with g1 g2
  injection g1 with g1
  injection g2 with g2 _
  exact Prod.ext g1.symm (Prod.ext e2 g2.symm)
 refine wpAny_bind (wpAny_holding (wpAny_call_entry slot_list_sort ⟨_,hoL,rfl⟩ entry_list_sort (HP (κv:=fun v=>(qs.getD ((qs.map fun q=>q.2.1).idxOf (BZ v)) (0,0,.int 0)).1) hoL (fun v hv=>?_) (fun v hv v' hv' e=>?_) (by rw [vl];exact h64) fun out pm srt=>⟨_,rfl,?_⟩) (args_list_sort _)))
 ·rw [<- hvs,List.map_map] at hv
  obtain ⟨q,hq,rfl⟩:=List.mem_map.mp hv
  show PairV _ (.ref q.2.1) (qs.getD ((qs.map fun q=>q.2.1).idxOf q.2.1) (0,0,.int 0)).1
  rw [kq q hq]
  exact (hp_ q hq).keep fun b o _ e=>kp b o e
 ·rw [<- hvs,List.map_map] at hv hv'
  obtain ⟨q,hq,rfl⟩:=List.mem_map.mp hv
  obtain ⟨q',hq',rfl⟩:=List.mem_map.mp hv'
  have e:(qs.getD ((qs.map fun q=>q.2.1).idxOf q.2.1) (0,0,.int 0)).1=(qs.getD ((qs.map fun q=>q.2.1).idxOf q'.2.1) (0,0,.int 0)).1:=e
  rw [kq q hq,kq q' hq'] at e
  obtain ⟨i,hi,rfl⟩:=List.getElem_of_mem hq
  obtain ⟨j,hj,rfl⟩:=List.getElem_of_mem hq'
  have:i=j:=(List.getElem?_inj (l:=qs.map fun q=>q.1) (by simpa using hi) nd).mp (by simp [hi,hj,e])
  subst this
  rfl
 ·obtain ⟨rs,ers⟩:∃ rs,rs=out.map fun v=>qs.getD ((qs.map fun q=>q.2.1).idxOf (BZ v)) (0,0,.int 0):=⟨_,rfl⟩
  have mo:∀ v∈out,∃ q∈qs,v=.ref q.2.1:=fun v hv=>by
   have:=pm.mem_iff.mp hv
   rw [<- hvs,List.map_map] at this
   obtain ⟨q,hq,e⟩:=List.mem_map.mp this
   exact ⟨q,hq,e.symm⟩
  have pr:rs.Perm qs:=by
   rw [ers]
   refine (pm.map _).trans ?_
   rw [<- hvs,List.map_map,List.map_map]
   have e:qs.map id=qs:=List.map_id _
   have e2:qs.map ((fun v=>qs.getD ((qs.map fun q=>q.2.1).idxOf (BZ v)) (0,0,.int 0)) ∘ Value.ref ∘ fun q=>q.2.1)=qs.map id:=List.map_congr_left fun q hq=>kq q hq
   simp only [Function.comp_def] at e2 ⊢
   rw [e2,e]
  have eo:out=(rs.map fun q=>q.2.1).map Value.ref:=by
   rw [ers,List.map_map,List.map_map]
   have e:out.map id=out:=List.map_id _
   conv=>lhs;rw [<- e]
   refine List.map_congr_left fun v hv=>?_
   obtain ⟨q,hq,rfl⟩:=mo v hv
   show Value.ref q.2.1=Value.ref (qs.getD ((qs.map fun q=>q.2.1).idxOf q.2.1) (0,0,.int 0)).2.1
   rw [kq q hq]
  have rss:(rs.map fun q=>q.1).Pairwise (· < ·):=by
   have h1:(rs.map fun q=>q.1).Pairwise (· <= ·):=by
    rw [ers,List.map_map,List.pairwise_map]
    exact srt
   have h2:(rs.map fun q=>q.1).Nodup:=(pr.map fun q=>q.1).nodup_iff.mpr nd
   exact List.Pairwise.imp₂ (fun _ _ h g=>Int.lt_iff_le_and_ne.mpr ⟨h,g⟩) h1 h2
  subst eo
  obtain ⟨e,he⟩:=sortedHeap_at (out:=((rs.map fun q=>q.2.1).map Value.ref).toArray) hoL
  have hp:s.heap.objs.size<=s.heap.objs.size+1:=Nat.le_succ _
  refine wpAny_pure ⟨_,rfl,.ref (s.heap.objs.size+1),_,I.laid (t':=s.toks) (o:=.lst ((rs.map fun q=>q.2.1).map V.ref)) (fun b o e=>?_) hp ?_,rfl,q rs _ pr rss (I.hok.fresh hp)⟩
  ·have hb:=kp b o e
   have hlt:=Heap.lt_size e
   rw [sortedHeap_old (Nat.ne_of_lt (Nat.lt_succ_of_lt hlt)) (by rw [Heap.size_push,hsz];exact Nat.lt_succ_of_lt (Nat.lt_succ_of_lt hlt))]
   exact hb
  ·exact ⟨by rw [List.length_map,List.length_map,pr.length_eq];exact Nat.le_trans h64 (by decide),_,e,En _,he⟩
theorem J5:CallR X (.builtin "sorted") Fv:=Nc
end
def GF:CD:=fun o i v H Q=>match o with
 | .ref a=>∃ H',DPut H a i v H'/\Q H'
 | _=>False
section
variable {X:Cx}
theorem IM (hu:X.A.units+1 < cLine):C3 X GF:=by
 intro pins s σ H o i v ov iv u Q I ro ri rv h
 cases o with
 | ref a =>
  obtain ⟨H',g,q⟩:=h
  obtain rfl:ov=Value.ref a:=ro
  exact IQ hu I g ri rv fun s' I'=>⟨H',I',q⟩
 | _=>exact False.elim h
end
theorem MS:EL GF:=fun o i v H Q Q' h q=>by
 cases o with
 | ref a=>obtain ⟨H',g,q⟩:=q;exact ⟨H',g,h _ q⟩
 | _=>exact False.elim q
theorem Li {td ty:TE} (h1:AM td) (h2:AM ty):AM (Gu td ty):=fun σ H Q Q' k q=>h1 _ _ _ _ (fun x H1 ⟨a,e,d,q⟩=>⟨a,e,d,h2 _ _ _ _ (fun y H2 ⟨kvs,k',v,e1,e2,e3,q⟩=>⟨kvs,k',v,e1,e2,e3,k _ _ q⟩) q⟩) q
end L2
namespace L2
open PySem PyProof.Rows
theorem MZ:typeLookup (.type "list") "keys" = pure none:=by rw [typeLookup_type,builtinLookup_eq_fast];kernel_rfl
section
variable {prog:Program} {w:World} {A:Around} {E:Value->Shared->Prop} {s:Shared}
set_option maxRecDepth 8000 in
theorem Is {a:Addr} {o:Obj} {xs:Array Value} {k:Nat} {Q:Option Value->Shared->Prop}
 (hx:s.heap.get? a=some o) (hc:o.cls=.type "list") (hdat:o.data=.seq xs k) (hd:o.dict=none) (hA:A.handled=none)
 (h:∀ h' tk e,Heap.NewExcOf s.heap h' e "AttributeError" -> Q none { s with heap:=h',toks:=tk }) :
 wpAny (model prog w) A (getAttr? (.ref a) "keys") Q E s:=by
 obtain ⟨c,dct,dat,sl⟩:=o
 simp only at hc hdat hd
 subst hc hdat hd
 obtain ⟨hp,g,d,tk,os⟩:=s
 have hT:∀ tk',(⟨hp,g,d,tk',os⟩:Shared).TypeIs (.ref a) "list":=fun _=>⟨_,hx,rfl⟩
 have f1:=sub_AttributeError
 have f3:=F.slot_list_getattribute.lookup
 have f4:=F.slot_list_getattribute.bind (.ref a)
 have f5:=am_list_getattr_none
 unfold getAttr? getAttrBy? getAttrBy
 repeat (any_goals (first | assumption | exact hT _ | ((with_reducible show wpAny _ _ (call (Value.builtin "list.__getattribute__") _ _) _ _ _);refine call_meets F.slot_list_getattribute (hT _) am_entry_list_getattribute (F.args_list_getattribute_2 _ _) (meets_getattribute_miss_list a xs k sl "keys" _ MZ (by decide +kernel) (by size_fits)) ⟨hx,hA,fun h' tk' e hx'=>?_⟩) | wp_step))
 obtain ⟨t',u',he⟩:=hx'.there
 show wpAny _ _ (getattributeRaised _ _ _ _ _ _ _) _ _ _
 unfold getattributeRaised
 repeat (any_goals (first | assumption | wp_step))
 exact h _ _ _ hx'.of
end
section
variable {prog:Program} {w:World} {K:Type} [DecidableEq K] {knd:KeyKind prog w K} {A:Around} {R:Result->Shared->Prop}
theorem MQ {d it tp:Addr} {items:Array Value} {n:Nat} {res:Value} (hh:A.handled=none) (more:List (K × Value)) (c:Nat->Addr) (ky:Nat->Value) (hn:more.length=n) (hn1:n<=1000) (his:items.size=n)
 (hit0:∀ j,j < n->items[j]? = some (.ref (c j))) (hmo:∀ j,j < n->∃ k v,more[j]? = some (k,v)/\knd.is k (ky j)=true) :
 ∀ (k i:Nat) (s:Shared),n - i=k->i<=n->s.heap.IsListIter it tp i->s.heap.IsList tp items->(∀ j,j < n->∀ kv,more[j]? = some kv->s.heap.IsTuple (c j) #[ky j,kv.2])->s.heap.DictOf knd d (merged [] (more.take i)) ->
 (∀ h' tk,h'.DictOf knd d (merged [] more)->(∀ b o,b≠d->b≠it->s.heap.get? b=some o->h'.get? b=some o)->R (.ok (.ret res)) { s with heap:=h',toks:=tk }) ->
 codeAny (model prog w) A (.builtin "dict.update.loop" ⟨[.ref d,.ref it,rawInt i,res],[]⟩) R s:=by
 have hsl:sizeLine=2 ^ 24:=by rw [sizeLine_eq]
 intro k
 induction k with
 | zero =>
  intro i s hk hi hit ht hp hd hR
  have hin:i=n:=by lia
  subst hin
  refine codeAny_builtin D7 ?_
  rw [Around.under_plainId Bz _]
  show wpAny _ A.in1 (pyNext (.ref it) >>= _) _ _ s
  have hdi:d≠it:=fun e=>by
   obtain ⟨o,_,_,ho,hc,_⟩:=id hd
   obtain ⟨o2,ho2,hc2,_⟩:=id hit
   rw [e,ho2] at ho
   cases ho
   have:=hc.1
   rw [hc2] at this
   simp at this
  refine wpAny_bind (wpAny_pyNext_list_end (A:=A.in1) hh hit ht (by rw [Array.getElem?_eq_none_iff];lia) fun h' hk'=>?_)
  show wpAny _ _ (Builtin.Dict.addKeywords d [] >>= fun _=>ret res) _ _ _
  refine wpAny_bind (wpAny_pure (wpAny_pure ?_))
  have hd':h'.DictOf knd d (merged [] (more.take i)):=Heap.DictOf.at hd fun o e=>hk' _ _ hdi e
  rw [List.take_of_length_le (by lia)] at hd'
  exact hR h' s.toks hd' fun b o _ hb e=>hk' b o hb e
 | succ k ih =>
  intro i s hk hi hit ht hp hd hR
  have hlt:i < n:=by lia
  obtain ⟨kk,v,hmi,hkey⟩:=hmo i hlt
  refine codeAny_builtin D7 ?_
  rw [Around.under_plainId Bz _]
  show wpAny _ A.in1 (pyNext (.ref it) >>= _) _ _ s
  obtain ⟨od,_,_,hod,hcd,_⟩:=id hd
  have hcd1:=hcd.1
  obtain ⟨oi,hoi,hci,_⟩:=id hit
  obtain ⟨ot,hot,hct,_⟩:=id ht
  have cls:∀ {b c:Addr} {o o':Obj},s.heap.get? b=some o->s.heap.get? c=some o'->o.cls≠o'.cls->b≠c:=fun {b c o o'} x y n q=>by subst q;rw [x] at y;cases y;exact n rfl
  have hdi:d≠it:=cls hod hoi (by rw [hcd1,hci];simp)
  have hti:tp≠it:=cls hot hoi (by rw [hct,hci];simp)
  have htd:tp≠d:=cls hot hod (by rw [hct,hcd1];simp)
  have hci2:∀ j,j < n->c j≠it/\c j≠d:=fun j hj=>by
   obtain ⟨k2,v2,hm2,_⟩:=hmo j hj
   obtain ⟨o3,ho3,hc3,_⟩:=hp j hj _ hm2
   exact ⟨cls ho3 hoi (by rw [hc3,hci];simp),cls ho3 hod (by rw [hc3,hcd1];simp)⟩
  refine wpAny_bind (wpAny_pyNext_list_item (A:=A.in1) hit ht (hit0 i hlt) fun h₁ hit₁ hs₁=>?_)
  have hp1:∀ j,j < n->∀ kv,more[j]? = some kv->h₁.IsTuple (c j) #[ky j,kv.2]:=fun j hj kv hkv=>(hp j hj kv hkv).extBut hs₁.extBut (hci2 j hj).1
  have hd1:h₁.DictOf knd d (merged [] (more.take i)):=hd.sameBut hs₁ hdi
  have ht1:h₁.IsList tp items:=ht.extBut hs₁.extBut hti
  obtain ⟨oc,hoc,hcc,nc,hdc⟩:=id (hp1 i hlt _ hmi)
  show wpAny _ A.in1 (holding [Value.ref (c i)] _ >>= _) _ _ _
  refine wpAny_bind (wpAny_holding ?_)
  refine wpAny_bind (wpAny_tryCatch ?_)
  unfold Builtin.Dict.pairItems
  refine wpAny_bind (wpAny_typeOf (T:="tuple") ⟨oc,hoc,hcc⟩ ?_)
  have e1:(Value.type "tuple" == Value.type "list" || Value.type "tuple" == Value.type "tuple")=true:=by decide
  rw [if_pos e1]
  refine wpAny_bind (wpAny_seqItems hoc hdc (wpAny_pure ?_))
  show wpAny _ A.in1 (holding [ky i,v] (dictSet d (ky i) v)) _ _ _
  refine wpAny_holding (GB hkey hd1 (fun h₂ tk hd₂ hs₂=>?_) ?_)
  ·refine wpAny_pure ⟨plainId_quiet Bz _,?_⟩
   have hI2:h₂.IsListIter it tp (i+1):=hit₁.extBut hs₂.extBut (Ne.symm hdi)
   have hd₂':h₂.DictOf knd d (merged [] (more.take (i+1))):=by
    rw [merged_take_succ [] more i (kk,v) hmi]
    exact hd₂
   have:=ih (i+1) { s with heap:=h₂,toks:=tk } (by lia) hlt hI2 (ht1.extBut hs₂.extBut htd) (fun j hj kv hkv=>(hp1 j hj kv hkv).extBut hs₂.extBut (hci2 j hj).2) hd₂' fun h' tk' a1 a2=>hR h' tk' a1 fun b o b1 b2 e=>a2 b o b1 b2 (hs₂.extBut _ _ b1 (hs₁.extBut _ _ b2 e))
   exact this
  ·have:=merged_length_le [] (more.take i)
   rw [List.length_take] at this
   simp only [List.length_nil] at this
   lia
end
section
variable {prog:Program} {w:World} {K:Type} [DecidableEq K] {knd:KeyKind prog w K} {A:Around} {E:Value->Shared->Prop} {s:Shared}
theorem Lx {tp:Addr} {o:Obj} {items:Array Value} {k0 n:Nat} {Q:Value->Shared->Prop} (hh:A.handled=none) (more:List (K × Value)) (c:Nat->Addr) (ky:Nat->Value) (hn:more.length=n) (hn1:n<=1000) (his:items.size=n)
 (hit0:∀ j,j < n->items[j]? = some (.ref (c j))) (hmo:∀ j,j < n->∃ k v,more[j]? = some (k,v)/\knd.is k (ky j)=true)
 (hx:s.heap.get? tp=some o) (hc:o.cls=.type "list") (hdat:o.data=.seq items k0) (hd:o.dict=none) (hp:∀ j,j < n->∀ kv,more[j]? = some kv->s.heap.IsTuple (c j) #[ky j,kv.2]) (hnd:(more.map (·.1)).Nodup)
 (h:∀ h' tk,h'.DictOf knd s.heap.objs.size more->(∀ b o,s.heap.get? b=some o->h'.get? b=some o)->Q (.ref s.heap.objs.size) { s with heap:=h',toks:=tk }) :
 wpAny (model prog w) A (call (.type "dict") [.ref tp]) Q E s:=by
 refine callType_codes (Q₁:=fun obj s₁=>obj=.ref s.heap.objs.size/\s₁ = { s with heap:=s.heap.push { cls:=.type "dict",data:=.dict #[] } }) F.kt_called_dict (F.kt_typeCall_dict_1 _) F.entry_dict_init (kt_code_dict_new _ ⟨rfl,rfl⟩) ?_
 rintro obj s₁ ⟨rfl,rfl⟩
 have hnew:(s.heap.push { cls:=.type "dict",data:=.dict #[] }).DictOf knd s.heap.objs.size []:=Heap.DictOf.new s.heap
 have hx1:(s.heap.push { cls:=.type "dict",data:=.dict #[] }).get? tp=some o:=Heap.get?_push_of_some _ hx
 refine ⟨hnew.typeIs,F.args_dict_init_2 _ _,?_⟩
 unfold Builtin.«dict.__init__»
 refine wpAny_bind ?_
 unfold Builtin.Dict.selfAndRest
 refine wpAny_bind (wpAny_notOrdered_dict hnew.typeIs ?_)
 show wpAny _ _ (pure (s.heap.objs.size,[Value.ref tp])) _ _ _
 refine wpAny_pure ?_
 show wpAny _ _ (Builtin.Dict.updateFrom "dict.__init__" s.heap.objs.size (.ref tp) [] .none) _ _ _
 unfold Builtin.Dict.updateFrom
 refine wpAny_bind (wpAny_typeOf (T:="list") ⟨o,hx1,hc⟩ ?_)
 rw [if_pos (by decide)]
 refine wpAny_bind (Is (A:=A.in1.in1) hx1 hc hdat hd hh fun h₁ tk₁ e he=>?_)
 simp only [Option.isNone_none,if_true]
 refine wpAny_bind (wpAny_rule ?_)
 have ht1:h₁.IsList tp items:=⟨o,he.keeps _ _ hx1,hc,k0,hdat⟩
 have keep1:∀ b o,s.heap.get? b=some o->h₁.get? b=some o:=fun b o q=>he.keeps _ _ (Heap.get?_push_of_some _ q)
 refine wpAny_bind (wpAny_pyIter_list (s:={ s with heap:=h₁,toks:=tk₁ }) ht1 ?_)
 have up:∀ b o,h₁.get? b=some o->(h₁.push { cls:=.type "list_iterator",data:=.fields #[.ref tp,.int 0 0] }).get? b=some o:=fun b o q=>Heap.get?_push_of_some _ q
 refine wpAny_pure ⟨plainId_quiet Bz _,MQ (A:=A.in1) (knd:=knd) hh more c ky hn hn1 his hit0 hmo n 0 _ (Nat.sub_zero _) (Nat.zero_le _) ⟨_,Heap.get?_push_size _ rfl,rfl,rfl⟩ ⟨o,up _ _ (he.keeps _ _ hx1),hc,k0,hdat⟩ (fun j hj kv hkv=>?_) ?_ fun h' tk a1 a2=>?_⟩
 ·obtain ⟨o2,e2,r2⟩:=hp j hj kv hkv
  exact ⟨o2,up _ _ (keep1 _ _ e2),r2⟩
 ·exact Heap.DictOf.at hnew fun o q=>up _ _ (he.keeps _ _ q)
 ·rw [merged_nil_of_nodup more hnd] at a1
  refine ⟨rfl,h h' tk a1 fun b o q=>a2 b o (Nat.ne_of_lt (Heap.lt_size q)) (Nat.ne_of_lt (Heap.lt_size (keep1 _ _ q))) (up _ _ (keep1 _ _ q))⟩
end
section
variable {X:Cx}
def Dz (K:W.Frag):List V->Hp->VK->Prop:=fun xs H Q=>match xs with
 | [.ref p]=>∃ (us:List V) (kvs:List (Int × Int)),H p=some (.lst us)/\us.length=kvs.length/\kvs.length<=1000/\(∀ (j:Nat) kv,kvs[j]? = some kv->∃ c,us[j]? = some (.ref c)/\SqT K H c [.int kv.1,.int kv.2])/\(kvs.map (·.1)).Nodup /\
  ∀ d,H d=none->Q (.ref d) (upd H d (.dK (kvs.map fun kv=>(Sum.inl kv.1,V.int kv.2))))
 | _=>False
theorem M4 (hc:X.calm=true):CallR X (.type "dict") (Dz X.K):=by
 intro pins s σ H xs us Q I r q
 match xs,q with
 | [.ref p],⟨ts,kvs,hp,hl,h1000,hkv,hnd,q⟩ =>
 cases r with
 | cons r rr =>
 cases rr
 cases r
 obtain ⟨_,its,n0,rv,ho⟩:ObjOk X.prog X.w H s.heap p (.lst ts):=I.hok _ _ hp
 have e1:=rv.length
 -- the pairs as they stand
 have pr:∀ j,j < kvs.length->∃ c t1 t2,its[j]? = some (Value.ref c)/\s.heap.IsTuple c #[.int (kvs.getD j (0,0)).1 t1,.int (kvs.getD j (0,0)).2 t2]:=fun j hj=>by
  have hg:kvs[j]? = some (kvs.getD j (0,0)):=by simp [List.getD_eq_getElem?_getD,hj]
  obtain ⟨c,hc1,hc2⟩:=hkv j _ hg
  obtain ⟨u,hu,ru⟩:=rv.get hc1
  cases ru
  obtain ⟨its2,rv2,p2,_⟩:=I.tuple hc2
  cases rv2 with
  | cons a1 a2 =>
  cases a2 with
  | cons a3 a4 =>
  cases a4
  obtain ⟨t1,rfl⟩:=a1
  obtain ⟨t2,rfl⟩:=a3
  exact ⟨c,t1,t2,hu,p2⟩
 have cf:∃ (c:Nat->Addr) (t1 t2:Nat->Tok),∀ j,j < kvs.length->its[j]? = some (Value.ref (c j))/\s.heap.IsTuple (c j) #[.int (kvs.getD j (0,0)).1 (t1 j),.int (kvs.getD j (0,0)).2 (t2 j)]:=by
  have pr':∀ j,∃ c t1 t2,j < kvs.length->its[j]? = some (Value.ref c)/\s.heap.IsTuple c #[.int (kvs.getD j (0,0)).1 t1,.int (kvs.getD j (0,0)).2 t2]:=fun j=>by
   by_cases hj:j < kvs.length
   ·obtain ⟨c,t1,t2,h⟩:=pr j hj
    exact ⟨c,t1,t2,fun _=>h⟩
   ·exact ⟨0,0,0,fun z=>absurd z hj⟩
  exact ⟨fun j=>(pr' j).choose,fun j=>(pr' j).choose_spec.choose,fun j=>(pr' j).choose_spec.choose_spec.choose,fun j hj=>(pr' j).choose_spec.choose_spec.choose_spec hj⟩
 obtain ⟨c,t1,t2,hcf⟩:=cf
 let more:List (Key × Value):=(List.range kvs.length).map fun j=>(Sum.inl (kvs.getD j (0,0)).1,Value.int (kvs.getD j (0,0)).2 (t2 j))
 have hml:more.length=kvs.length:=by simp [more]
 have hmg:∀ j,j < kvs.length->more[j]? = some (Sum.inl (kvs.getD j (0,0)).1,Value.int (kvs.getD j (0,0)).2 (t2 j)):=fun j hj=>by simp [more,hj]
 have hrng:(List.range kvs.length).map (fun j=>kvs.getD j (0,0))=kvs:=by
  refine List.ext_getElem? fun j=>?_
  rw [List.getElem?_map]
  by_cases hj:j < kvs.length
  ·rw [List.getElem?_range hj];simp [List.getD_eq_getElem?_getD,hj]
  ·rw [List.getElem?_eq_none (by simp;lia),List.getElem?_eq_none (by lia)];rfl
 have hmk:more.map (·.1)=(kvs.map (·.1)).map Sum.inl:=by
  have:more.map (·.1)=((List.range kvs.length).map (fun j=>kvs.getD j (0,0))).map (fun kv=>(Sum.inl kv.1:Key)):=by simp [more]
  rw [this,hrng,List.map_map]
  rfl
 have hrel:∀ m,KV (((List.range m).map fun j=>kvs.getD j (0,0)).map fun kv=>((Sum.inl kv.1:Key),V.int kv.2)) ((List.range m).map fun j=>((Sum.inl (kvs.getD j (0,0)).1:Key),Value.int (kvs.getD j (0,0)).2 (t2 j))):=fun m=>by
  rw [List.map_map]
  generalize List.range m=L
  induction L with
  | nil=>exact .nil
  | cons j L ih=>exact .cons ⟨rfl,⟨_,rfl⟩⟩ ih
 refine Lx (knd:=AY X.prog X.w) (n:=kvs.length) (I.ok.hd hc) more c (fun j=>.int (kvs.getD j (0,0)).1 (t1 j)) hml h1000 (by simp;lia) (fun j hj=>by have:=(hcf j hj).1;simpa using this) (fun j hj=>⟨_,_,hmg j hj,FJ _ _ _ _⟩) ho rfl rfl rfl (fun j hj kv hkv2=>?_) ?_ fun h' tk a1 a2=>?_
 ·rw [hmg j hj] at hkv2
  cases hkv2
  exact (hcf j hj).2
 ·rw [hmk]
  have nd:∀ l:List Int,l.Nodup->(l.map (Sum.inl:Int->Key)).Nodup:=fun l=>by
   induction l with
   | nil=>intro _;exact List.nodup_nil
   | cons x l ih =>
    intro h
    rw [List.nodup_cons] at h
    rw [List.map_cons,List.nodup_cons]
    refine ⟨fun hm=>?_,ih h.2⟩
    obtain ⟨y,hy,e⟩:=List.mem_map.mp hm
    have:y=x:=by simpa using e
    exact h.1 (this ▸ hy)
  exact nd _ hnd
 ·refine ⟨.ref s.heap.objs.size,_,I.laid (t':=tk) (o:=.dK (kvs.map fun kv=>(Sum.inl kv.1,V.int kv.2))) a2 (Nat.le_refl _) ?_,rfl,q _ (I.hok.fresh (Nat.le_refl _))⟩
  refine ⟨by rw [List.length_map];exact AT h1000,beq_eq_false_iff_ne.mpr (Ne.symm (Nat.ne_of_lt I.big)),more,?_,a1⟩
  have:=hrel kvs.length
  rw [hrng] at this
  exact this
theorem IF {K:W.Frag} (hc:X.calm=true) (hK:X.K=K:=by rfl):CallR X (.type "dict") (Dz K):=hK ▸ M4 hc
theorem Jh {K:W.Frag}:Be (Dz K):=fun xs H Q Q' h q=>by
 unfold Dz at *
 split at q
 ·obtain ⟨us,kvs,h1,h2,h3,h4,h5,q⟩:=q;exact ⟨us,kvs,h1,h2,h3,h4,h5,fun d hd=>h _ _ (q d hd)⟩
 ·exact q.elim
end
end L2
namespace L2
open PySem PySem.Spec PyProof.Rows
section
variable {P:Program} {w:World} {A:Around} {E:Value->Shared->Prop} {s:Shared} {a:Addr}
end
section
variable {X:Cx} {K:W.Frag} {P:Program} {w:World}
end
end L2
namespace Mine
open PySem L2
def top (i:Nat):Stmt:=PySem.Challenge.pw_flips_k11_whole_times_itself.main.body.getD i (.Pass ⟨0,0,0,0⟩)
abbrev C6:Stmt:=top 1
abbrev Co:Stmt:=top 2
abbrev Cr:Stmt:=top 4
abbrev Ce:Stmt:=top 6
abbrev Ck:Stmt:=top 7
abbrev Cb:Stmt:=top 8
abbrev C7:Stmt:=top 10
abbrev Ct:Stmt:=top 11
abbrev C4:Stmt:=top 12
abbrev DA:Stmt:=top 13
abbrev Cm:Stmt:=top 14
abbrev Cf:Stmt:=top 15
abbrev C5:Stmt:=top 16
abbrev Ci:Stmt:=top 17
abbrev Cp:Stmt:=top 18
abbrev Cy:Stmt:=top 19
abbrev C1:Stmt:=top 20
abbrev DC:Stmt:=top 21
abbrev C8:Stmt:=top 22
abbrev Bv:Stmt:=top 23
local macro_rules | `(tactic| walk_at "f")=>`(tactic| exact ⟨rfl,rfl,rfl,by decide +kernel,rfl,by decide +kernel,by decide +kernel⟩)
theorem Ms:FnScope ["n"] ["n"] (AK C6):=by walk_at "f"
theorem sc_z24:FnScope ["base","times","power","step"] ["base","times"] (AK Co):=by walk_at "f"
theorem sc_z14:FnScope ["one","weights","subset","weight"] ["one"] (AK Cr):=by walk_at "f"
theorem sc_z11:FnScope ["one","products"] ["one"] (AK Ce):=by walk_at "f"
theorem sc_z27:FnScope ["one","other","weights"] ["one","other"] (AK Ck):=by walk_at "f"
theorem Kt:FnScope ["terms","weights","apart"] ["terms","weights","apart"] (AK Cb):=by walk_at "f"
theorem N1:FnScope ["_law_script"] ["_law_script"] (AK C7):=by walk_at "f"
theorem sc_z15:FnScope ["_law_tape_here","_law_many","_law_script","_law_digit","_law_cell","_law_seed"] ["_law_tape_here","_law_many"] (AK Ct):=by walk_at "f"
theorem L9:FnScope ["_law_k"] ["_law_k"] (AK C4):=by walk_at "f"
theorem Lm:FnScope ["_law_n","_law_number"] ["_law_n","_law_number"] (AK DA):=by walk_at "f"
theorem sc_z16:FnScope ["_law_n","_law_one","_law_place","_law_shared"] ["_law_n","_law_one","_law_place"] (AK Cm):=by walk_at "f"
theorem sc_z13:FnScope ["_law_tape_here","_law_n","_law_many","_law_way","_law_some","_law_first","_law_answers","_law_seen","_law_place","_law_key","_law_turn"] ["_law_tape_here","_law_n"] (AK Cf):=by walk_at "f"
theorem sc_z25:FnScope ["_law_table_here","_law_n","_law_terms","_law_one","_law_weight","_law_place"] ["_law_table_here"] (AK C5):=by walk_at "f"
theorem sc_z17:FnScope ["_law_tape_here","_law_n","_law_weights","_law_turn","_law_some"] ["_law_tape_here","_law_n"] (AK Ci):=by walk_at "f"
theorem M3:FnScope ["_law_n","_law_weights"] ["_law_n","_law_weights"] (AK Cp):=by walk_at "f"
theorem sc_z20:FnScope ["_law_tape_here","_law_whole","_law_n","_law_terms","_law_weights","_law_sets","_law_one","_law_other","_law_way"] ["_law_tape_here","_law_whole"] (AK Cy):=by walk_at "f"
theorem sc_z10:FnScope ["_law_tape_here","_law_n","_law_row","_law_weights","_law_one"] ["_law_tape_here","_law_n"] (AK C1):=by walk_at "f"
theorem sc_z12:FnScope ["_law_whole","_law_n","_law_terms","_law_place"] ["_law_whole"] (AK DC):=by walk_at "f"
theorem sc_z18:FnScope ["_law_tape_here","_law_turn","_law_some"] ["_law_tape_here","_law_turn"] (AK C8):=by walk_at "f"
theorem sc_law:FnScope ["_law_script","_law_tape_here","_law_turn","_law_n","_law_whole","_law_some","_law_one","_law_found"] ["_law_script"] (AK Bv):=by walk_at "f"
set_option genInjectivity false
set_option genSizeOf false
structure Txt (K:W.Frag) (mg:Str->Option Value) where
 f_z26:Addr
 d_z26:FuncData
 F_z26:Fun K "two_to" "two_to" C6 f_z26 d_z26
 b_z26:Binds K d_z26 ["n"] []
 m_z26:mg "two_to" = some (.ref f_z26)
 f_z24:Addr
 d_z24:FuncData
 F_z24:Fun K "power_of" "power_of" Co f_z24 d_z24
 b_z24:Binds K d_z24 ["base","times"] []
 m_z24:mg "power_of" = some (.ref f_z24)
 f_z14:Addr
 d_z14:FuncData
 F_z14:Fun K "weights_of" "weights_of" Cr f_z14 d_z14
 b_z14:Binds K d_z14 ["one"] []
 m_z14:mg "weights_of" = some (.ref f_z14)
 f_z11:Addr
 d_z11:FuncData
 F_z11:Fun K "is_one_squared" "is_one_squared" Ce f_z11 d_z11
 b_z11:Binds K d_z11 ["one"] []
 m_z11:mg "is_one_squared" = some (.ref f_z11)
 f_z27:Addr
 d_z27:FuncData
 F_z27:Fun K "times" "times" Ck f_z27 d_z27
 b_z27:Binds K d_z27 ["one","other"] []
 m_z27:mg "times" = some (.ref f_z27)
 f_met:Addr
 d_met:FuncData
 F_met:Fun K "met" "met" Cb f_met d_met
 b_met:Binds K d_met ["terms","weights","apart"] []
 m_met:mg "met" = some (.ref f_met)
 f_z21:Addr
 d_z21:FuncData
 F_z21:Fun K "_law_tape" "_law_tape" C7 f_z21 d_z21
 b_z21:Binds K d_z21 ["_law_script"] []
 m_z21:mg "_law_tape" = some (.ref f_z21)
 f_z15:Addr
 d_z15:FuncData
 F_z15:Fun K "_law_next" "_law_next" Ct f_z15 d_z15
 b_z15:Binds K d_z15 ["_law_tape_here","_law_many"] []
 m_z15:mg "_law_next" = some (.ref f_z15)
 f_z23:Addr
 d_z23:FuncData
 F_z23:Fun K "_law_two" "_law_two" C4 f_z23 d_z23
 b_z23:Binds K d_z23 ["_law_k"] []
 m_z23:mg "_law_two" = some (.ref f_z23)
 f_z19:Addr
 d_z19:FuncData
 F_z19:Fun K "_law_bits" "_law_bits" DA f_z19 d_z19
 b_z19:Binds K d_z19 ["_law_n","_law_number"] []
 m_z19:mg "_law_bits" = some (.ref f_z19)
 f_z16:Addr
 d_z16:FuncData
 F_z16:Fun K "_law_sign" "_law_sign" Cm f_z16 d_z16
 b_z16:Binds K d_z16 ["_law_n","_law_one","_law_place"] []
 m_z16:mg "_law_sign" = some (.ref f_z16)
 f_z13:Addr
 d_z13:FuncData
 F_z13:Fun K "_law_table" "_law_table" Cf f_z13 d_z13
 b_z13:Binds K d_z13 ["_law_tape_here","_law_n"] []
 m_z13:mg "_law_table" = some (.ref f_z13)
 f_z25:Addr
 d_z25:FuncData
 F_z25:Fun K "_law_sum" "_law_sum" C5 f_z25 d_z25
 b_z25:Binds K d_z25 ["_law_table_here"] []
 m_z25:mg "_law_sum" = some (.ref f_z25)
 f_z17:Addr
 d_z17:FuncData
 F_z17:Fun K "_law_wild" "_law_wild" Ci f_z17 d_z17
 b_z17:Binds K d_z17 ["_law_tape_here","_law_n"] []
 m_z17:mg "_law_wild" = some (.ref f_z17)
 f_z22:Addr
 d_z22:FuncData
 F_z22:Fun K "_law_kept" "_law_kept" Cp f_z22 d_z22
 b_z22:Binds K d_z22 ["_law_n","_law_weights"] []
 m_z22:mg "_law_kept" = some (.ref f_z22)
 f_z20:Addr
 d_z20:FuncData
 F_z20:Fun K "_law_bent" "_law_bent" Cy f_z20 d_z20
 b_z20:Binds K d_z20 ["_law_tape_here","_law_whole"] []
 m_z20:mg "_law_bent" = some (.ref f_z20)
 f_z10:Addr
 d_z10:FuncData
 F_z10:Fun K "_law_of_numbers" "_law_of_numbers" C1 f_z10 d_z10
 b_z10:Binds K d_z10 ["_law_tape_here","_law_n"] []
 m_z10:mg "_law_of_numbers" = some (.ref f_z10)
 f_z12:Addr
 d_z12:FuncData
 F_z12:Fun K "_law_is_one" "_law_is_one" DC f_z12 d_z12
 b_z12:Binds K d_z12 ["_law_whole"] []
 m_z12:mg "_law_is_one" = some (.ref f_z12)
 f_z18:Addr
 d_z18:FuncData
 F_z18:Fun K "_law_size" "_law_size" C8 f_z18 d_z18
 b_z18:Binds K d_z18 ["_law_tape_here","_law_turn"] []
 m_z18:mg "_law_size" = some (.ref f_z18)
 f_law:Addr
 d_law:FuncData
 F_law:Fun K "law" "law" Bv f_law d_law
 b_law:Binds K d_law ["_law_script"] []
 m_law:mg "law" = some (.ref f_law)
 z_abs:mg "abs" = none
 z_all:mg "all" = none
 z_bool:mg "bool" = none
 z_dict:mg "dict" = none
 z_int:mg "int" = none
 z_isinstance:mg "isinstance" = none
 z_len:mg "len" = none
 z_max:mg "max" = none
 z_min:mg "min" = none
 z_range:mg "range" = none
 z_sorted:mg "sorted" = none
 z_sum:mg "sum" = none
 z_tuple:mg "tuple" = none
 z_zip:mg "zip" = none
set_option genInjectivity true
set_option genSizeOf true
section
variable {P:Program} {w:World} {K:W.Frag} {mg:Str->Option Value} {base:Heap} (T:Txt K mg)
local macro_rules | `(tactic| walk_at "sm")=>`(tactic| repeat' with_reducible first | exact Jd | apply K7 | apply Mp | apply N7 | apply M8 | apply Ia | apply MG | exact OE | exact OG | apply KA | apply OC | apply Ji | apply K2 | apply Km | apply Kx | apply N5 | apply Ie | apply Kq | exact Nh | exact Mn | exact Lh | exact NJ | exact Jk | exact ML | exact JE | exact K6 | exact K8 | exact KG | exact Lz | exact La | exact N6 | exact Jj | apply Kh | apply KY | exact Kg | apply KN | exact NK | exact Nl | exact NS | exact OF | exact Np | exact Nm | exact Jh | apply Ki | apply K0 | apply Kb | exact A9 | apply DR | exact Bu | exact NX | exact MS | exact Jx | apply NP | apply Li | apply Nf | apply Lo | apply JF | apply KJ | apply Jn | exact NV | exact Lk | apply Je | assumption)
theorem pa1 {X:Cx} {e:PySem.Expr} {te:TE} (ha:PE X e te) (hs:starEach [e] X.env=[(false,eval e X.env)]):PA X [e] (Ec te Fb):=AA ha AC hs
local macro_rules | `(tactic| left)=>`(tactic| exact ⟨by rfl,by first | exact Or.inl rfl | exact Or.inr (Or.inl rfl) | exact Or.inr (Or.inr rfl),by decide,by decide⟩)
local macro_rules | `(tactic| walk_at "m")=>`(tactic| with_reducible first | refine Exists.imp fun _=>?_ | refine And.imp_right ?_ | refine forall_imp fun _=>?_)
local macro_rules | `(tactic| walk_at "o")=>`(tactic| first | exact Or.inl rfl | exact Or.inr (Or.inl rfl) | exact Or.inr (Or.inr rfl))
local macro_rules | `(tactic| symm)=>`(tactic| first | exact .inl rfl | exact .inr rfl | assumption)
local macro_rules | `(tactic| right)=>`(tactic| first | exact Or.inl rfl | exact Or.inr rfl)
local macro_rules | `(tactic| exfalso)=>`(tactic| first | exact E7 _ (by decide) (by decide) | rfl)
def FY:Sp:=fun vs H Q _=>match vs with
 | [.int b,.int t]=>∃ m:Nat,t=m/\m<=64/\((-(2 ^ 64) < b/\b < 2 ^ 64)\/(Nb b 100/\m<=12))/\Q (.int (b ^ m)) H
 | _=>False
theorem OO:FnOk P w K mg base CX0 1 T.f_z24 T.d_z24 ["base","times"] FY:=by
 refine T.F_z24.ok sc_z24 (fun vs H Q E h=>by unfold FY at h;split at h <;> first | rfl | exact h.elim) (fun cdv A outer s H vs Q E hr h=>?_)
 have hu:=Ak hr
 unfold FY at h
 split at h
 rotate_left
 ·exact h.elim
 rename_i b t
 obtain ⟨m,e1,h1,b1,q⟩:=h
 subst e1
 refine ⟨_,(@AF _ _ _ _ _ (@AO _ _ 2 _ _ _ _ sc_z24.nd rfl (by right) AB (by rfl) (by symm)) (@AF _ _ _ _ _ (@BK _ _ _ _ _ _ _ _ PassesOwn.never rfl (Ar rfl T.z_range (AA (vv 1) AC)) (AQ (i:=3) sc_z24.nd rfl (by right)) (@AL _ _ _ (@AO _ _ 2 _ _ _ _ sc_z24.nd rfl (by right) (AN A5 (vv 2) (vv 0)) (by rfl) (by symm))) (by intro _;rfl)) (@AL _ _ _ (@AZ _ _ _ _ (vv 2))))),?_⟩
 refine ⟨m,rfl,by lia,by lia,?_⟩
 refine Bc (fun i σ H'=>H'=H/\∃ z:Option V,σ=[some (.int b),some (.int m),some (.int (b ^ i)),z]) ⟨rfl,none,by rw [Int.pow_zero];rfl⟩ ?_ ?_
 ·rintro i σ H' hi ⟨rfl,z,rfl⟩
  have hi':i < m:=by lia
  have okm:okMul (b ^ i) b:=by
   rcases b1 with b1 | ⟨b1,b2⟩
   ·exact .inr (.inr b1)
   ·exact Nb.okMul ((b1.pow i).up (by lia)) (b1.up (by lia))
  refine ⟨okm,rfl,some (.int (0+(i:Int))),?_⟩
  rw [Int.pow_succ]
  rfl
 ·rintro σ H' ⟨rfl,z,rfl⟩
  have:(m:Int).toNat=m:=by lia
  rw [this]
  exact q
def C2:Sp:=fun vs H Q _=>match vs with
 | [.int n]=>∃ m:Nat,n=m/\m<=64/\Q (.int (2 ^ m:Nat)) H
 | _=>False
theorem JN:AR C2:=fun vs H Q Q' E h q=>by
 unfold C2 at *
 split at q
 ·revert q;repeat' first | exact h _ _ | exact BJ h | exact BC h | exact BL h | walk_at "m"
 ·exact q.elim
theorem IJ:FnOk P w K mg base CX0 2 T.f_z26 T.d_z26 ["n"] C2:=by
 have G_z24:=OO (P:=P) (w:=w) (base:=base) T
 refine T.F_z26.ok Ms (fun vs H Q E h=>by unfold C2 at h;split at h <;> first | rfl | exact h.elim) (fun cdv A outer s H vs Q E hr h=>?_)
 have hu:=Ak hr
 have hr_z24:=hr.mono (show 1<=_ by decide)
 unfold C2 at h
 split at h
 rotate_left
 ·exact h.elim
 rename_i n
 obtain ⟨m,e1,h1,q⟩:=h
 subst e1
 refine ⟨_,(@AL _ _ _ (@AZ _ _ _ _ (AI G_z24 hr_z24 rfl T.m_z24 T.F_z24.kp T.b_z24 .nil AJ (AA AB (AA (vv 0) AC))))),?_⟩
 refine ⟨m,rfl,h1,.inl ⟨by decide,by decide⟩,?_⟩
 have e:(2:Int) ^ m=((2 ^ m:Nat):Int):=by rw [Int.natCast_pow];rfl
 rw [e]
 exact q
theorem KO:FnOk P w K mg base CX0 1 T.f_z21 T.d_z21 ["_law_script"] (E8 K):=by
 refine T.F_z21.ok N1 (fun vs H Q E h=>by unfold E8 at h;split at h <;> first | rfl | exact h.elim) (fun cdv A outer s H vs Q E hr h=>?_)
 unfold E8 at h
 split at h
 rotate_left
 ·exact h.elim
 rename_i a
 have k:=h
 refine ⟨_,(@AL _ _ _ (@AZ _ _ _ _ (@A3 _ _ _ _ (AA (vv 0) (AA AB (AA AB (AA AB AC))))))),?_⟩
 exact ⟨by show 4<=sizeLine;rw [sizeLine_eq];decide,k⟩
theorem DL:FnOk P w K mg base CX0 1 T.f_z15 T.d_z15 ["_law_tape_here","_law_many"] (DQ K):=by
 refine T.F_z15.ok sc_z15 (fun vs H Q E h=>by unfold DQ at h;split at h <;> first | rfl | exact h.elim) (fun cdv A outer s H vs Q E hr h=>?_)
 have hu:=Ak hr
 unfold DQ at h
 split at h
 rotate_left
 ·exact h.elim
 rename_i t m
 obtain ⟨a,ns,TP,hm,k⟩:=h
 obtain ⟨⟨i,r,c,hi,hr0,ht⟩,hscr⟩:=id TP
 refine ⟨_,(@AF _ _ _ _ _ (@AO _ _ 2 _ _ _ _ sc_z15.nd rfl (by right) (kIx (K:=K) (vv 0) AB) (by rfl) (by symm)) (@AF _ _ _ _ _ (@BH _ _ _ _ _ _ (AN (CA (K:=K)) (kIx (K:=K) (vv 0) AB) AB) (BO (vv 0) AB CJ) (by rfl) (by rfl) (by rfl)) (@AF _ _ _ _ _ (@At _ _ _ _ _ _ _ _ (PW.pt (JV (Al (kEq (K:=K) hu) (kIx (K:=K) (vv 0) AB) AB) (LZ (Al IS (kIx (K:=K) (vv 0) AB) (Ap (DF (K:=K)) rfl T.z_len (by rfl) (AA (vv 2) AC)))))) (@AF _ _ _ _ _ (@BH _ _ _ _ _ _ (Ap (NO rfl) rfl T.z_max (by rfl) (AA AB (AA (AN Dt (kIx (K:=K) (vv 2) (kIx (K:=K) (vv 0) AB)) (AN Fq AB AB)) AC))) (BO (vv 0) AB CJ) (by rfl) (by rfl) (by rfl)) (@AL _ _ _ (@BH _ _ _ _ _ _ (AN (CA (K:=K)) (kIx (K:=K) (vv 0) AB) AB) (BO (vv 0) AB CJ) (by rfl) (by rfl) (by rfl)))) Au) (@AF _ _ _ _ _ (@At _ _ _ _ _ _ _ _ (Al Em (kIx (K:=K) (vv 0) AB) AB) (@AF _ _ _ _ _ (@AO _ _ 3 _ _ _ _ sc_z15.nd rfl (by right) (AN Bg (kIx (K:=K) (vv 0) AB) (vv 1)) (by rfl) (by symm)) (@AF _ _ _ _ _ (@BH _ _ _ _ _ _ (AN Dt (kIx (K:=K) (vv 0) AB) (vv 1)) (BO (vv 0) AB CJ) (by rfl) (by rfl) (by rfl)) (@AL _ _ _ (@AZ _ _ _ _ (vv 3))))) Au) (@AF _ _ _ _ _ (@AO _ _ 4 _ _ _ _ sc_z15.nd rfl (by right) (MB (Al Em (Ap (DF (K:=K)) rfl T.z_len (by rfl) (AA (vv 2) AC)) AB) (kIx (K:=K) (vv 2) (AN Bg (kIx (K:=K) (vv 0) AB) (Ap (DF (K:=K)) rfl T.z_len (by rfl) (AA (vv 2) AC)))) AB) (by rfl) (by symm)) (@AF _ _ _ _ _ (@AO _ _ 5 _ _ _ _ sc_z15.nd rfl (by right) (AN Bg (AN A5 (AN (CA (K:=K)) (AN (CA (K:=K)) (AN Bg (vv 4) AB) (AN A5 AB (kIx (K:=K) (vv 0) AB))) AB) AB) AB) (by rfl) (by symm)) (@AL _ _ _ (@AZ _ _ _ _ (AN Bg (AN Bg (AN A5 (AN Bg (AN (CA (K:=K)) (AN A5 (vv 5) AB) (kIx (K:=K) (vv 0) AB)) AB) AB) AB) (vv 1)))))))))),?_⟩
 -- script=tape[0];tape[3]=tape[3]+1
 refine ⟨_,_,.inl (.of ht),rfl,_,_,.inl (.of ht),rfl,_,_,ht,rfl,?_⟩
 have sc0:∀ {H1:Hp},(∀ b,b≠t->H1 b=H b)->ScrAt K H1 t a ns:=fun h=>hscr.stay fun o n e=>by rw [h a n];exact e
 have sc1:∀ {H1:Hp},(∀ b,b≠t->H1 b=H b)->SqL K H1 a (ns.map V.int):=fun h=>(sc0 h).sq
 have f1:∀ {o:HO} {H1:Hp},(∀ b,b≠t->H1 b=H b)->∀ b,b≠t->upd H1 t o b=H b:=fun h b n=>by rw [AG n];exact h b n
 dsimp only
 refine Ae (fun σ' H1=>σ'=[some (.ref t),some (.int m),some (.ref a),none,none,none]/\(∀ b,b≠t->H1 b=H b)/\∃ i r c:Int,0<=i/\0<=r/\H1 t=some (.lst [.ref a,.int i,.int r,.int c])) ?_ ?_ (by walk_at "sm")
 ·-- the next number of the script,where the last one is used up
  have h1:∀ {o:HO} (b:Addr),b≠t->upd H t o b=H b:=fun b n=>AG n
  refine ⟨_,_,.inl (.of AD),rfl,?_⟩
  refine Af (fun e=>?_) (fun e=>?_)
  ·refine ⟨_,_,.inl (.of AD),rfl,ns.length,.inl ⟨_,sc1 h1,by rw [List.length_map]⟩,?_⟩
   refine Af (fun e=>?_) (fun e=>?_)
   ·have hlt:i < ns.length:=of_decide_eq_true e
    obtain ⟨z,hz⟩:=IV hi hlt
    refine ⟨_,_,.inl (.of AD),rfl,_,_,.inl (sc1 h1),hz,⟨by decide,by decide,by decide⟩,⟨by decide,by decide⟩,?_⟩
    refine ⟨_,_,AD,rfl,_,_,.inl (.of AD),rfl,_,_,AD,rfl,rfl,?_,i+1,max 0 (z / 10 ^ 18),c+1,by lia,by lia,AD⟩
    exact f1 (f1 h1)
   ·exact ⟨rfl,h1,i,r,c+1,hi,hr0,AD⟩
  ·exact ⟨rfl,h1,i,r,c+1,hi,hr0,AD⟩
 rintro σ' H1 ⟨rfl,h1,i,r,c,hi,hr0,ht⟩
 have T1:∀ {H2:Hp} {i r c:Int},(∀ b,b≠t->H2 b=H b)->0<=i->0<=r->H2 t=some (.lst [.ref a,.int i,.int r,.int c])->Tape K H2 t a ns:=fun h h1 h2 h3=>⟨⟨_,_,_,h1,h2,h3⟩,sc0 h⟩
 -- a digit of it
 refine ⟨_,_,.inl (.of ht),rfl,?_⟩
 have hm0:0 < m:=hm.1
 refine Af (fun e=>?_) (fun e=>?_)
 ·refine ⟨_,_,.inl (.of ht),rfl,hm0,_,_,.inl (.of ht),rfl,hm,_,_,ht,rfl,?_⟩
  exact k _ _ (Int.emod_nonneg _ (by lia)) (Int.emod_lt_of_pos _ hm0) (T1 (f1 h1) hi (Int.ediv_nonneg hr0 (by lia)) AD) (f1 h1)
 -- else a number made of the cell
 dsimp only [EX]
 refine Ae (fun σ' H2=>H2=H1/\∃ z:Int,σ'=[some (.ref t),some (.int m),some (.ref a),none,some (.int z),none]) ?_ ?_ (by walk_at "sm")
 ·refine ⟨ns.length,.inl ⟨_,sc1 h1,by rw [List.length_map]⟩,?_⟩
  refine Af (fun e=>?_) (fun e=>?_)
  ·have hlt:(0:Int) < ns.length:=of_decide_eq_true e
   obtain ⟨z,hz⟩:=IV (ns:=ns) (Int.emod_nonneg c (show (ns.length:Int)≠0 by lia)) (Int.emod_lt_of_pos c hlt)
   exact ⟨_,_,.inl (.of ht),rfl,ns.length,.inl ⟨_,sc1 h1,by rw [List.length_map]⟩,hlt,_,_,.inl (sc1 h1),hz,rfl,z,rfl⟩
  ·exact ⟨rfl,0,rfl⟩
 rintro σ' H2 ⟨rfl,z,rfl⟩
 refine ⟨by decide,_,_,.inl (.of ht),rfl,.inr (.inl ⟨by decide,by decide⟩),.inr (.inr ⟨by decide,by decide⟩),by decide,?_⟩
 refine ⟨.inr (.inr ⟨by decide,by decide⟩),_,_,.inl (.of ht),rfl,by decide,.inr (.inr ⟨by decide,by decide⟩),by decide,hm0,?_⟩
 exact k _ _ (Int.emod_nonneg _ (by lia)) (Int.emod_lt_of_pos _ hm0) (T1 h1 hi hr0 ht) h1
def Da:Nat->Nat->Nat
 | 0,_=>0
 | f+1,x=>x % 2+Da f (x / 2)
@[irreducible] def many (x:Nat):Nat:=Da 64 x
def AX (n x:Nat):List Bool:=(List.range n).map fun k=>x / 2 ^ k % 2 == 1
def Ab (n x y:Nat):List Bool:=(List.zip (AX n x) (AX n y)).map fun p=>p.1 && p.2
def sgL (n x y:Nat):Int:=if (Ab n x y).countP id % 2=1 then -1 else 1
def out (H:Hp) (Q:VK) (v:V):Prop:=∀ H',Same H H'->Q v H'
def FO (H:Hp) (Q:VK) (xs:List V):Prop:=∀ p H',H p=none->Same H H'->H' p=some (.lst xs)->Q (.ref p) H'
def Fn (H:Hp) (Q:VK) (xs:List V):Prop:=∀ p H',H p=none->Same H H'->H' p=some (.tup xs)->Q (.ref p) H'
theorem BC {H:Hp} {Q Q':VK} {v:V} (h:∀ v H,Q v H->Q' v H) (q:out H Q v):out H Q' v:=fun H' s=>h _ _ (q H' s)
theorem OS {H:Hp} {Q Q':VK} {xs:List V} (h:∀ v H,Q v H->Q' v H) (q:FO H Q xs):FO H Q' xs:=fun p H' a b c=>h _ _ (q p H' a b c)
theorem BL {H:Hp} {Q Q':VK} {xs:List V} (h:∀ v H,Q v H->Q' v H) (q:Fn H Q xs):Fn H Q' xs:=fun p H' a b c=>h _ _ (q p H' a b c)
def BQ:Sp:=fun vs H Q _=>match vs with
 | [.int k]=>0<=k/\k<=6/\out H Q (.int (2 ^ k.toNat))
 | _=>False
theorem DO:AR BQ:=fun vs H Q Q' E h q=>by
 unfold BQ at *
 split at q
 ·exact ⟨q.1,q.2.1,BC h q.2.2⟩
 ·exact q.elim
theorem CU:FnOk P w K mg base CX0 1 T.f_z23 T.d_z23 ["_law_k"] BQ:=by
 refine T.F_z23.ok L9 (fun vs H Q E h=>by unfold BQ at h;split at h <;> first | rfl | exact h.elim) (fun cdv A outer s H vs Q E hr h=>?_)
 unfold BQ at h
 split at h
 rotate_left
 ·exact h.elim
 rename_i k
 obtain ⟨h1,h2,q⟩:=h
 refine ⟨_,(@AL _ _ _ (@AZ _ _ _ _ (kIx (K:=K) (@A3 _ _ _ _ (AA AB (AA AB (AA AB (AA AB (AA AB (AA AB (AA AB AC)))))))) (vv 0)))),?_⟩
 refine ⟨AT (show 7<=1000 by decide),fun p hp=>?_⟩
 have e:atI [V.int 1,.int 2,.int 4,.int 8,.int 16,.int 32,.int 64] k=some (.int (2 ^ k.toNat)):=by
  have:k=0\/k=1\/k=2\/k=3\/k=4\/k=5\/k=6:=by lia
  rcases this with e | e | e | e | e | e | e <;> subst e <;> rfl
 exact ⟨_,_,.inl (.of AD),e,q _ (Same.upd hp)⟩
def Ch:Sp:=fun vs H Q _=>match vs with
 | [.int n,.int x]=>∃ m y:Nat,n=m/\x=y/\m<=6/\FO H Q ((AX m y).map V.bl)
 | _=>False
theorem LA:AR Ch:=fun vs H Q Q' E h q=>by
 unfold Ch at *
 split at q
 ·revert q;repeat' first | exact h _ _ | exact BJ h | exact BC h | exact BL h | walk_at "m"
 ·exact q.elim
theorem Jq {m y i:Nat} (h:i < m):(AX m y).take (i+1)=(AX m y).take i++[y / 2 ^ i % 2 == 1]:=by
 rw [List.take_add_one]
 congr 1
 unfold AX
 rw [List.getElem?_map,List.getElem?_range h]
 rfl
theorem Av {m y:Nat}:(AX m y).length=m:=by unfold AX;simp
theorem Gx:FnOk P w K mg base CX0 2 T.f_z19 T.d_z19 ["_law_n","_law_number"] Ch:=by
 have G_z23:=CU (P:=P) (w:=w) (base:=base) T
 refine T.F_z19.ok Lm (fun vs H Q E h=>by unfold Ch at h;split at h <;> first | rfl | exact h.elim) (fun cdv A outer s H vs Q E hr h=>?_)
 have hu:=Ak hr
 have hr_z23:=hr.mono (show 1<=_ by decide)
 unfold Ch at h
 split at h
 rotate_left
 ·exact h.elim
 rename_i n x
 obtain ⟨m,y,e1,e2,h1,q⟩:=h
 subst e1 e2
 refine ⟨_,(@AL _ _ _ (@AZ _ _ _ _ (@BM _ _ _ _ _ _ _ (["_law_k","_law_number"]) 1 [1] _ _ _ _ rfl (Ar rfl T.z_range (AA (vv 0) AC)) (by kernel_rfl) rfl rfl (by kernel_rfl) (fun c=>AQ (i:=0) (show (["_law_k","_law_number"]:List Str).Nodup by decide +kernel) rfl (by right)) (Ai (by decide)) (fun c=>A2) (fun c=>(Bm (kEq (K:=K) hu) (AN Bg (AN Dt (vv 1) (AI G_z23 hr_z23 rfl T.m_z23 T.F_z23.kp T.b_z23 .nil AJ (AA (vv 0) AC))) AB) AB)) (by intro _;rfl)))),?_⟩
 refine ⟨m,rfl,by lia,by lia,?_⟩
 refine CL (fun i ys H'=>Same H H'/\ys=((AX m y).take i).map V.bl) ⟨Same.refl _,rfl⟩ (fun i ys H' hi ⟨_,e⟩=>by rw [e];exact Ad (by rw [List.length_map,List.length_take];lia)) ?_ ?_
 ·rintro i ys H' hi ⟨s1,rfl⟩
  have hi':i < m:=by lia
  refine ⟨by lia,by lia,fun H2 s2=>?_⟩
  have e0:((0:Int)+(i:Int)).toNat=i:=by lia
  rw [e0]
  have ep:((2:Int) ^ i)=((2 ^ i:Nat):Int):=by rw [Int.natCast_pow];rfl
  have hp:0 < 2 ^ i:=Nat.two_pow_pos i
  have hle:(2:Nat) ^ i<=2 ^ 6:=Nat.pow_le_pow_right (by decide) (by lia)
  refine ⟨A7 (by rw [ep];lia) (by rw [ep];exact Int.le_trans (Int.ofNat_le.mpr hle) (by decide)),by decide,?_⟩
  refine ⟨s1.trans s2,?_⟩
  rw [Jq hi',List.map_append]
  congr 2
  rw [ep]
  show V.bl (false ^^ (((y:Int) / ((2 ^ i:Nat):Int) % 2) == 1))=V.bl (y / 2 ^ i % 2 == 1)
  rw [Bool.false_xor,<- Int.natCast_ediv]
  congr 1
  rw [Bool.eq_iff_iff]
  simp only [beq_iff_eq]
  lia
 ·rintro ys H' ⟨s1,rfl⟩ p hp
  have:(AX m y).take (m:Int).toNat=AX m y:=by
   rw [List.take_of_length_le]
   rw [Av];lia
  rw [this]
  exact q p _ (s1.free hp) (s1.trans (Same.upd hp)) AD
def Bj (K:W.Frag):Sp:=fun vs H Q _=>match vs with
 | [.int n,.int x,.int y]=>∃ m a b:Nat,n=m/\x=a/\y=b/\m<=6/\out H Q (.int (sgL m a b))
 | _=>False
theorem EJ:AR (Bj K):=fun vs H Q Q' E h q=>by
 unfold Bj at *
 split at q
 ·revert q;repeat' first | exact h _ _ | exact BJ h | exact BC h | exact BL h | walk_at "m"
 ·exact q.elim
theorem Ko (bs:List Bool):(bs.map V.bl).countP (fun v=>eqV v (.bl true))=bs.countP id:=by
 rw [List.countP_map]
 congr 1
 funext b
 cases b <;> rfl
theorem Mt (bs:List Bool):(bs.map V.bl).all Ao=true:=by
 rw [List.all_map,List.all_eq_true]
 intro b _
 rfl
theorem shared_take {m a b i:Nat} (h:i < m):(Ab m a b).take (i+1)=(Ab m a b).take i++[(a / 2 ^ i % 2 == 1) && (b / 2 ^ i % 2 == 1)]:=by
 rw [List.take_add_one]
 congr 1
 unfold Ab AX
 simp [List.getElem?_map,List.getElem?_zip_eq_some,h]
theorem Dk:FnOk P w K mg base CX0 3 T.f_z16 T.d_z16 ["_law_n","_law_one","_law_place"] (Bj K):=by
 have G_z19:=Gx (P:=P) (w:=w) (base:=base) T
 refine T.F_z16.ok sc_z16 (fun vs H Q E h=>by unfold Bj at h;split at h <;> first | rfl | exact h.elim) (fun cdv A outer s H vs Q E hr h=>?_)
 have hu:=Ak hr
 have hr_z19:=hr.mono (show 2<=_ by decide)
 unfold Bj at h
 split at h
 rotate_left
 ·exact h.elim
 rename_i n x y
 obtain ⟨m,a,b,e1,e2,e3,h1,q⟩:=h
 subst e1 e2 e3
 refine ⟨_,(@AF _ _ _ _ _ (@D6 _ _ _ _ _ _ _ (["_law_a","_law_b"]) 2 [] _ _ _ _ 3 _ _ _ rfl sc_z16.nd rfl rfl (Gi (K:=K) rfl T.z_zip (AA (AI G_z19 hr_z19 rfl T.m_z19 T.F_z19.kp T.b_z19 .nil AJ (AA (vv 0) (AA (vv 1) AC))) (AA (AI G_z19 hr_z19 rfl T.m_z19 T.F_z19.kp T.b_z19 .nil AJ (AA (vv 0) (AA (vv 2) AC))) AC))) (by kernel_rfl) rfl rfl (by kernel_rfl) (fun c=>Dd (K:=K) (n:=2) rfl (As (AQ (i:=0) (show (["_law_a","_law_b"]:List Str).Nodup by decide +kernel) rfl (by right)) (As (AQ (i:=1) (show (["_law_a","_law_b"]:List Str).Nodup by decide +kernel) rfl (by right)) CG))) (Dm (B3 A9 (DR A9 Bu) (Ai (by decide)) (B3 A9 Bu (Ai (by decide)) Dy))) (fun c=>A2) (fun c=>(E4 (vv 0) (FI (vv 1)))) (by rfl) (by intro _;rfl)) (@AL _ _ _ (@AZ _ _ _ _ (kIx (K:=K) (@A3 _ _ _ _ (AA AB (AA (CF Bx AB) AC))) (AN Bg (JM (K:=K) (vv 3) (AA DH AC)) AB))))),?_⟩
 refine ⟨m,a,rfl,rfl,h1,fun p1 H1 n1 s1 g1=>⟨m,b,rfl,rfl,h1,fun p2 H2 n2 s2 g2=>?_⟩⟩
 have g1':=s2 _ _ g1
 refine ⟨⟨_,.of g1'⟩,⟨_,.of g2⟩,?_⟩
 refine IG (xs:=(AX m a).map V.bl) (ys:=(AX m b).map V.bl) (fun i zs H'=>Same H2 H'/\zs=((Ab m a b).take i).map V.bl) ⟨Same.refl _,rfl⟩ (by rw [List.length_map,List.length_map,Av,Av])
  (fun i zs H' _ ⟨s,_⟩=>⟨.of (s _ _ g1'),.of (s _ _ g2)⟩) (fun i zs H' hi ⟨_,e⟩=>by
   rw [List.length_map,Av] at hi
   rw [e];exact Ad (by rw [List.length_map,List.length_take];lia)) ?_ ?_
 ·rintro i u v zs H' p hx hy ⟨s,rfl⟩ hp
  have hi:i < m:=by
   have:=(List.getElem?_eq_some_iff.mp hx).1
   rw [List.length_map,Av] at this
   exact this
  have ex:u=.bl (a / 2 ^ i % 2 == 1):=by
   rw [List.getElem?_map,show AX m a=(List.range m).map _ from rfl,List.getElem?_map,List.getElem?_range hi] at hx
   exact (Option.some.inj hx).symm
  have ey:v=.bl (b / 2 ^ i % 2 == 1):=by
   rw [List.getElem?_map,show AX m b=(List.range m).map _ from rfl,List.getElem?_map,List.getElem?_range hi] at hy
   exact (Option.some.inj hy).symm
  subst ex ey
  refine ⟨p,_,rfl,.of AD,rfl,_,_,rfl,_,_,rfl,rfl,?_⟩
  have s':Same H2 (upd H' p (.tup [.bl (a / 2 ^ i % 2 == 1),.bl (b / 2 ^ i % 2 == 1)])):=s.trans (Same.upd hp)
  refine Af (fun e=>?_) (fun e=>?_)
  ·refine ⟨s',?_⟩
   rw [shared_take hi,List.map_append,e,Bool.true_and]
   rfl
  ·refine ⟨s',?_⟩
   have e:(a / 2 ^ i % 2 == 1)=false:=by simpa using e
   rw [shared_take hi,List.map_append,e,Bool.false_and]
   rfl
 rintro zs H' ⟨s,rfl⟩ l hl
 have hlen:((AX m a).map V.bl).length=m:=by rw [List.length_map,Av]
 have sl:(Ab m a b).length=m:=by unfold Ab;simp [Av]
 rw [hlen,List.take_of_length_le (by lia)]
 refine ⟨AT (show 2<=1000 by decide),fun r hr'=>?_⟩
 have hl':upd (upd H' l (.lst ((Ab m a b).map V.bl))) r (.lst [.int 1,.int (-1)]) l=some (.lst ((Ab m a b).map V.bl)):=by
  have:l≠r:=fun e=>by rw [e,AD] at hr';cases hr'
  rw [AG this];exact AD
 refine ⟨.inl ⟨rfl,_,.of hl'⟩,_,.of hl',rfl,Mt _,by decide,?_⟩
 rw [Ko]
 have e:atI [V.int 1,V.int (-1)] ((((Ab m a b).countP id:Nat):Int) % 2)=some (.int (sgL m a b)):=by
  unfold sgL
  have:(Ab m a b).countP id % 2=0\/(Ab m a b).countP id % 2=1:=by lia
  rcases this with e | e
  ·rw [if_neg (by lia)]
   have:(((Ab m a b).countP id:Nat):Int) % 2=0:=by lia
   rw [this];rfl
  ·rw [if_pos e]
   have:(((Ab m a b).countP id:Nat):Int) % 2=1:=by lia
   rw [this];rfl
 refine ⟨_,_,.inl (.of AD),e,?_⟩
 exact q _ ((s1.trans s2).trans ((s.trans (Same.upd hl)).trans (Same.upd hr')))
def Cn (K:W.Frag):Sp:=fun vs H Q _=>match vs with
 | [.ref t,.int n]=>∃ (a:Addr) (ns:List Int) (m:Nat),Tape K H t a ns/\n=m/\1<=m/\m<=6/\∀ (bs:List Bool) p H',bs.length=2 ^ m->H p=none->H' p=some (.tup (bs.map V.bl))->Tape K H' t a ns->Frm t H H'->Q (.ref p) H'
 | _=>False
theorem No:AR (Cn K):=fun vs H Q Q' E h q=>by
 unfold Cn at *
 split at q
 ·revert q;repeat' first | exact h _ _ | exact BJ h | exact BC h | exact BL h | walk_at "m"
 ·exact q.elim
structure TabL (K:W.Frag) (H0:Hp) (t a:Addr) (ns:List Int) (M:Nat) (l:Addr) (H:Hp):Prop where
 tp:Tape K H t a ns
 fr:Frm t H0 H
 new:H0 l=none
 at_:∃ bs:List Bool,H l=some (.lst (bs.map V.bl))/\bs.length=M
def CW (K:W.Frag) (H0:Hp) (t a:Addr) (ns:List Int) (m M:Nat):St->Hp->Prop:=fun σ H=>∃ (l:Addr) (way:Int) (y:Nat) (fb:Bool) (z1 z2 z3 z4:Option V),
 σ=[some (.ref t),some (.int m),some (.int M),some (.int way),some (.int y),some (.bl fb),some (.ref l),z1,z2,z3,z4]/\y < M/\TabL K H0 t a ns M l H
theorem BU {t:Addr} {H H':Hp} (h:∀ b,b≠t->H' b=H b):Frm t H H':=fun b o n e=>by rw [h b n];exact e
theorem TabL.same {K:W.Frag} {H0 H H':Hp} {t a:Addr} {ns:List Int} {M:Nat} {l:Addr} (L:TabL K H0 t a ns M l H) (s:Same H H'):TabL K H0 t a ns M l H' :=
 ⟨L.tp.same s,L.fr.trans s.frm,L.new,let ⟨bs,h,e⟩:=L.at_;⟨bs,s _ _ h,e⟩⟩
theorem TabL.ne {K:W.Frag} {H0 H:Hp} {t a:Addr} {ns:List Int} {M:Nat} {l:Addr} (L:TabL K H0 t a ns M l H) (T0:Tape K H0 t a ns):l≠t:=T0.neT L.new
theorem TabL.draw {K:W.Frag} {H0 H H':Hp} {t a:Addr} {ns:List Int} {M:Nat} {l:Addr} (L:TabL K H0 t a ns M l H) (T0:Tape K H0 t a ns) (T1:Tape K H' t a ns) (f:∀ b,b≠t->H' b=H b):TabL K H0 t a ns M l H' :=
 ⟨T1,L.fr.trans (BU f),L.new,let ⟨bs,h,e⟩:=L.at_;⟨bs,by rw [f l (L.ne T0)];exact h,e⟩⟩
theorem CS {t p:Addr} {H0 H:Hp} {o:HO} (f:Frm t H0 H) (hp:H0 p=none):Frm t H0 (upd H p o):=fun b u n e=>by
 rw [AG (BG e hp)];exact f b u n e
theorem TabL.other {K:W.Frag} {H0 H:Hp} {t a p:Addr} {ns:List Int} {M:Nat} {l:Addr} {o:HO} (L:TabL K H0 t a ns M l H) (T0:Tape K H0 t a ns) (hp:H0 p=none) (hl:p≠l):TabL K H0 t a ns M l (upd H p o):=by
 have nt:=T0.neT hp
 have F:Frm t H0 (upd H p o):=CS L.fr hp
 obtain ⟨i,r,c,h1,h2,h3⟩:=L.tp.at_
 refine ⟨⟨⟨i,r,c,h1,h2,by rw [AG (Ne.symm nt)];exact h3⟩,T0.scr.stay fun o n e=>F a o n e⟩,F,L.new,?_⟩
 obtain ⟨bs,h,e⟩:=L.at_
 exact ⟨bs,by rw [AG (Ne.symm hl)];exact h,e⟩
theorem TabL.put {K:W.Frag} {H0 H:Hp} {t a:Addr} {ns:List Int} {M:Nat} {l:Addr} {bs:List Bool} (L:TabL K H0 t a ns M l H) (T0:Tape K H0 t a ns) (hb:bs.length=M):TabL K H0 t a ns M l (upd H l (.lst (bs.map V.bl))):=by
 have F:Frm t H0 (upd H l (.lst (bs.map V.bl))):=CS L.fr L.new
 obtain ⟨i,r,c,h1,h2,h3⟩:=L.tp.at_
 exact ⟨⟨⟨i,r,c,h1,h2,by rw [AG (Ne.symm (L.ne T0))];exact h3⟩,T0.scr.stay fun o n e=>F a o n e⟩,F,L.new,bs,AD,hb⟩
theorem FF {n i:Nat} (h:i < n):ixN n ((i:Nat):Int)=some i:=by
 unfold ixN
 rw [if_pos (Int.natCast_nonneg i),if_pos (by lia)]
 simp
theorem G3 (bs:List Bool) (i:Nat) (b:Bool):(bs.map V.bl).set i (.bl b)=(bs.set i b).map V.bl:=by
 rw [List.map_set]
theorem Il {xs:BX} {ks:List Bool} (h:BR xs ks=true):∃ c v,atKey (bxv xs) ks=some (c,Value.bool v):=by
 have e:=Eh xs ks
 rw [h] at e
 obtain ⟨⟨c,u⟩,hc⟩:=Option.isSome_iff_exists.mp e
 have hc':=hc
 unfold atKey at hc'
 obtain ⟨z,hz,ez⟩:=Option.map_eq_some_iff.mp hc'
 have hm:=List.mem_of_find?_eq_some hz
 unfold bxv at hm
 obtain ⟨q,_,rfl⟩:=List.mem_map.mp hm
 cases ez
 exact ⟨_,_,hc⟩
theorem GP {H:Hp} {p:Addr} {xs:BX} {o o':HO} (h:BI H xs) (hp:H p=some o) (ho:∀ ys,HO.tup ys≠o):BI (upd H p o') xs:=fun q hq=>by
 rw [AG (EN (h q hq) hp (ho _))];exact h q hq
theorem MN {H H':Hp} {xs:BX} (h:BI H xs) (s:Same H H'):BI H' xs:=fun q hq=>s _ _ (h q hq)
theorem OP:FnOk P w K mg base CX0 4 T.f_z13 T.d_z13 ["_law_tape_here","_law_n"] (Cn K):=by
 have G_z23:=CU (P:=P) (w:=w) (base:=base) T;have G_z15:=DL (P:=P) (w:=w) (base:=base) T;have G_z16:=Dk (P:=P) (w:=w) (base:=base) T;have G_z19:=Gx (P:=P) (w:=w) (base:=base) T
 refine T.F_z13.ok sc_z13 (fun vs H Q E h=>by unfold Cn at h;split at h <;> first | rfl | exact h.elim) (fun cdv A outer s H vs Q E hr h=>?_)
 have hu:=Ak hr
 have mo1:AR (Bj K):=EJ
 have mo2:AR Ch:=LA
 have hr_z23:=hr.mono (show 1<=_ by decide);have hr_z15:=hr.mono (show 1<=_ by decide);have hr_z16:=hr.mono (show 3<=_ by decide);have hr_z19:=hr.mono (show 2<=_ by decide)
 unfold Cn at h
 split at h
 rotate_left
 ·exact h.elim
 rename_i t n
 obtain ⟨a,ns,m,TP,e1,m1,m6,q⟩:=h
 subst e1
 refine ⟨_,(@AF _ _ _ _ _ (@AO _ _ 2 _ _ _ _ sc_z13.nd rfl (by right) (AI G_z23 hr_z23 rfl T.m_z23 T.F_z23.kp T.b_z23 .nil AJ (AA (vv 1) AC)) (by rfl) (by symm)) (@AF _ _ _ _ _ (@AO _ _ 3 _ _ _ _ sc_z13.nd rfl (by right) (AI G_z15 hr_z15 rfl T.m_z15 T.F_z15.kp T.b_z15 .nil AJ (AA (vv 0) (AA AB AC))) (by rfl) (by symm)) (@AF _ _ _ _ _ (@AO _ _ 4 _ _ _ _ sc_z13.nd rfl (by right) (AI G_z15 hr_z15 rfl T.m_z15 T.F_z15.kp T.b_z15 .nil AJ (AA (vv 0) (AA (vv 2) AC))) (by rfl) (by symm)) (@AF _ _ _ _ _ (@AO _ _ 5 _ _ _ _ sc_z13.nd rfl (by right) (Bm (kEq (K:=K) hu) (AI G_z15 hr_z15 rfl T.m_z15 T.F_z15.kp T.b_z15 .nil AJ (AA (vv 0) (AA AB AC))) AB) (by rfl) (by symm)) (@AF _ _ _ _ _ (@D6 _ _ _ _ _ _ _ (["_law_place","_law_first"]) 1 [5] _ _ _ _ 6 _ _ _ rfl sc_z13.nd rfl rfl (Ar rfl T.z_range (AA (vv 2) AC)) (by kernel_rfl) rfl rfl (by kernel_rfl) (fun c=>AQ (i:=0) (show (["_law_place","_law_first"]:List Str).Nodup by decide +kernel) rfl (by right)) (Ai (by decide)) (fun c=>A2) (fun c=>(vv 1)) (by rfl) (by intro _;rfl)) (@AF _ _ _ _ _ (@At _ _ _ _ _ _ _ _ (Al IS (vv 3) AB) (@AL _ _ _ (@D6 _ _ _ _ _ _ _ (["_law_place","_law_tape_here"]) 1 [0] _ _ _ _ 6 _ _ _ rfl sc_z13.nd rfl rfl (Ar rfl T.z_range (AA (vv 2) AC)) (by kernel_rfl) rfl rfl (by kernel_rfl) (fun c=>AQ (i:=0) (show (["_law_place","_law_tape_here"]:List Str).Nodup by decide +kernel) rfl (by right)) (Ai (by decide)) (fun c=>A2) (fun c=>(Bm (kEq (K:=K) hu) (AI G_z15 hr_z15 rfl T.m_z15 T.F_z15.kp T.b_z15 .nil AJ (AA (vv 1) (AA AB AC))) AB)) (by rfl) (by intro _;rfl))) Au) (@AF _ _ _ _ _ (@At _ _ _ _ _ _ _ _ (Al (kEq (K:=K) hu) (vv 3) AB) (@AL _ _ _ (@D6 _ _ _ _ _ _ _ (["_law_place","_law_first","_law_n","_law_some"]) 1 ([5,1,4]) _ _ _ _ 6 _ _ _ rfl sc_z13.nd rfl rfl (Ar rfl T.z_range (AA (vv 2) AC)) (by kernel_rfl) rfl rfl (by kernel_rfl) (fun c=>AQ (i:=0) (show (["_law_place","_law_first","_law_n","_law_some"]:List Str).Nodup by decide +kernel) rfl (by right)) (Ai (by decide)) (fun c=>A2) (fun c=>(Bm (kEq (K:=K) hu) (vv 1) (Bm (kEq (K:=K) hu) (AI G_z16 hr_z16 rfl T.m_z16 T.F_z16.kp T.b_z16 .nil AJ (AA (vv 2) (AA (vv 3) (AA (vv 0) AC)))) AB))) (by rfl) (by intro _;rfl))) Au) (@AF _ _ _ _ _ (@At _ _ _ _ _ _ _ _ (Al (kEq (K:=K) hu) (vv 3) AB) (@AF _ _ _ _ _ (@AO _ _ 7 _ _ _ _ sc_z13.nd rfl (by right) (J2 (P:=P) (w:=w)) (by rfl) (by symm)) (@AL _ _ _ (@BK _ _ _ _ _ _ _ _ PassesOwn.never rfl (Ar rfl T.z_range (AA (vv 2) AC)) (AQ (i:=8) sc_z13.nd rfl (by right)) (@AF _ _ _ _ _ (@AO _ _ 9 _ _ _ _ sc_z13.nd rfl (by right) (Ba (DJ (K:=K)) rfl T.z_tuple (by rfl) (AA (BM (N':=["_law_a","_law_b"]) (own:=2) (ix:=[]) rfl (Gi (K:=K) rfl T.z_zip (AA (AI G_z19 hr_z19 rfl T.m_z19 T.F_z19.kp T.b_z19 .nil AJ (AA (vv 1) (AA (vv 8) AC))) (AA (AI G_z19 hr_z19 rfl T.m_z19 T.F_z19.kp T.b_z19 .nil AJ (AA (vv 1) (AA (vv 4) AC))) AC))) (by kernel_rfl) rfl rfl (by kernel_rfl) (fun c=>Dd (K:=K) (n:=2) rfl (As (AQ (i:=0) (show (["_law_a","_law_b"]:List Str).Nodup by decide +kernel) rfl (by right)) (As (AQ (i:=1) (show (["_law_a","_law_b"]:List Str).Nodup by decide +kernel) rfl (by right)) CG))) (Dm (B3 A9 (DR A9 Bu) (Ai (by decide)) (B3 A9 Bu (Ai (by decide)) Dy))) (fun c=>A2) (fun c=>(E4 (vv 0) (FI (vv 1))))) AC)) (by rfl) (by symm)) (@AF _ _ _ _ _ (@At _ _ _ _ _ _ _ _ (Al (Ik (P:=P) (w:=w) hu) (vv 9) (vv 7)) (@AL _ _ _ (@BH _ _ _ _ _ _ (Bm (kEq (K:=K) hu) (AI G_z15 hr_z15 rfl T.m_z15 T.F_z15.kp T.b_z15 .nil AJ (AA (vv 0) (AA AB AC))) AB) (BO (vv 7) (vv 9) (Ny (P:=P) (w:=w) hu)) (by rfl) (by rfl) (by rfl))) Au) (@AL _ _ _ (@BH _ _ _ _ _ _ (JQ (P:=P) (w:=w) hu (vv 7) (vv 9)) (BO (vv 6) (vv 8) CJ) (by rfl) (by rfl) (by rfl))))) (by intro _;rfl)))) Au) (@AF _ _ _ _ _ (@BK _ _ _ _ _ _ _ _ PassesOwn.never rfl (Ar rfl T.z_range (AA (AN A5 (AI G_z15 hr_z15 rfl T.m_z15 T.F_z15.kp T.b_z15 .nil AJ (AA (vv 0) (AA AB AC))) (Ba GL rfl T.z_int (by rfl) (AA (Bm Em (vv 3) AB) AC))) AC)) (AQ (i:=10) sc_z13.nd rfl (by right)) (@AF _ _ _ _ _ (@AO _ _ 8 _ _ _ _ sc_z13.nd rfl (by right) (AI G_z15 hr_z15 rfl T.m_z15 T.F_z15.kp T.b_z15 .nil AJ (AA (vv 0) (AA (vv 2) AC))) (by rfl) (by symm)) (@AL _ _ _ (@BH _ _ _ _ _ _ (LS (kIx (K:=K) (vv 6) (vv 8))) (BO (vv 6) (vv 8) CJ) (by rfl) (by rfl) (by rfl)))) (by intro _;rfl)) (@AL _ _ _ (@AZ _ _ _ _ (Ba (DJ (K:=K)) rfl T.z_tuple (by rfl) (AA (vv 6) AC))))))))))))),?_⟩
 have e2:(2:Int) ^ ((m:Int).toNat)=((2 ^ m:Nat):Int):=by rw [Int.toNat_natCast,Int.natCast_pow];rfl
 have h64:2 ^ m<=64:=Nat.pow_le_pow_right (n:=2) (by decide) m6
 have h2:2<=2 ^ m:=Nat.pow_le_pow_right (n:=2) (i:=1) (by decide) m1
 refine ⟨by lia,by lia,fun H1 s1=>?_⟩
 rw [e2]
 generalize hM:2 ^ m=M at *
 have T1:=TP.same s1
 have hMd:okDiv (M:Int):=A7 (by lia) (Int.le_trans (Int.ofNat_le.mpr h64) (by decide))
 have hMr:(M:Int) < 2 ^ 62:=Int.lt_of_le_of_lt (Int.ofNat_le.mpr h64) (by decide)
 refine ⟨a,ns,T1,A7 (by decide) (by decide),fun way H2 w0 w1 T2 f2=>⟨a,ns,T2,hMd,fun y' H3 y0 y1 T3 f3=>⟨a,ns,T3,A7 (by decide) (by decide),fun d H4 _ _ T4 f4=>?_⟩⟩⟩
 obtain ⟨y,rfl⟩:=Int.eq_ofNat_of_zero_le y0
 have hy:y < M:=by lia
 have F4:Frm t H H4:=s1.frm.trans ((BU f2).trans ((BU f3).trans (BU f4)))
 dsimp only [tC,mEq,AS,eqV]
 generalize (false ^^ (d == 1))=fb
 refine Ae (CW K H t a ns m M) ?_ ?_ (by walk_at "sm")
 ·refine ⟨(M:Int),rfl,by lia,by lia,?_⟩
  refine CL (fun i ys H'=>H'=H4/\ys=(List.replicate i fb).map V.bl) ⟨rfl,rfl⟩ (fun i ys H' hi ⟨_,e⟩=>by
   rw [e];exact Ad (by rw [List.length_map,List.length_replicate];lia)) ?_ ?_
  ·rintro i ys H' hi ⟨rfl,rfl⟩
   refine ⟨rfl,?_⟩
   rw [List.replicate_succ',List.map_append];rfl
  ·rintro ys H' ⟨rfl,rfl⟩ l hl
   exact ⟨l,way,y,fb,none,none,none,none,rfl,hy,T4.upd hl,F4.trans (Frm.upd hl),T4.free F4 hl,_,AD,by rw [List.length_replicate];lia⟩
 rintro σ Ha ⟨l,way,y,fb,z1,z2,z3,z4,rfl,hy,L⟩
 refine Ae (CW K H t a ns m M) ?_ ?_ (by walk_at "sm")
 ·-- any answers
  refine Af (fun e=>?_) (fun e=>⟨l,way,y,fb,z1,z2,z3,z4,rfl,hy,L⟩)
  refine ⟨(M:Int),rfl,by lia,by lia,?_⟩
  refine CL (fun i ys H'=>Tape K H' t a ns/\Frm t H H'/\∃ bs:List Bool,ys=bs.map V.bl/\bs.length=i) ⟨L.tp,L.fr,[],rfl,rfl⟩ (fun i ys H' hi ⟨_,_,bs,e,el⟩=>by
   rw [e];exact Ad (by rw [List.length_map];lia)) ?_ ?_
  ·rintro i ys H' hi ⟨Ti,Fi,bs,rfl,rfl⟩
   refine ⟨a,ns,Ti,A7 (by decide) (by decide),fun d H2 _ _ T2 f2=>?_⟩
   exact ⟨T2,Fi.trans (BU f2),bs++[(false ^^ (d == 1))],by rw [List.map_append];rfl,by rw [List.length_append];rfl⟩
  ·rintro ys H' ⟨Ti,Fi,bs,rfl,hb⟩ l' hl
   exact ⟨l',way,y,fb,z1,z2,z3,z4,rfl,hy,Ti.upd hl,Fi.trans (Frm.upd hl),Ti.free Fi hl,bs,AD,by lia⟩
 clear L
 rintro σ Ha ⟨l,way,y,fb,z1,z2,z3,z4,rfl,hy,L⟩
 refine Ae (CW K H t a ns m M) ?_ ?_ (by walk_at "sm")
 ·-- odd of a set
  refine Af (fun e=>?_) (fun e=>⟨l,way,y,fb,z1,z2,z3,z4,rfl,hy,L⟩)
  refine ⟨(M:Int),rfl,by lia,by lia,?_⟩
  refine CL (fun i ys H'=>Same Ha H'/\∃ bs:List Bool,ys=bs.map V.bl/\bs.length=i) ⟨Same.refl _,[],rfl,rfl⟩ (fun i ys H' hi ⟨_,bs,e,el⟩=>by
   rw [e];exact Ad (by rw [List.length_map];lia)) ?_ ?_
  ·rintro i ys H' hi ⟨Si,bs,rfl,rfl⟩
   refine ⟨m,y,bs.length,rfl,rfl,by lia,m6,fun H2 s2=>?_⟩
   exact ⟨Si.trans s2,bs++[(false ^^ (fb == (false ^^ (sgL m y bs.length == 1))))],by rw [List.map_append];rfl,by rw [List.length_append];rfl⟩
  ·rintro ys H' ⟨Si,bs,rfl,hb⟩ l' hl
   have Fi:=L.fr.trans (Si.frm (t:=t))
   exact ⟨l',way,y,fb,z1,z2,z3,z4,rfl,hy,(L.tp.same Si).upd hl,Fi.trans (Frm.upd hl),(L.tp.same Si).free Fi hl,bs,AD,by lia⟩
 clear L
 rintro σ Ha ⟨l,way,y,fb,z1,z2,z3,z4,rfl,hy,L⟩
 refine Ae (CW K H t a ns m M) ?_ ?_ (by walk_at "sm")
 ·-- of few switches
  refine Af (fun e=>?_) (fun e=>⟨l,way,y,fb,z1,z2,z3,z4,rfl,hy,L⟩)
  refine fun p hp=>?_
  have hp0:H p=none:=L.tp.free L.fr hp
  have pl:p≠l:=fun e=>by
   obtain ⟨bs,hb,_⟩:=L.at_
   rw [e,hb] at hp;cases hp
  refine ⟨(M:Int),rfl,by lia,by lia,?_⟩
  refine Bc (fun i σ H'=>∃ (z2 z3:Option V) (xs:BX),σ=[some (.ref t),some (.int m),some (.int M),some (.int way),some (.int y),some (.bl fb),some (.ref l),some (.ref p),z2,z3,z4]/\TabL K H t a ns M l H'/\H' p=some (dB P w p xs)/\BI H' xs/\xs.length<=i)
   ⟨z2,z3,[],rfl,L.other TP hp0 pl,AD,(fun q hq=>by cases hq),Nat.le_refl _⟩ ?_ ?_
  ·rintro i σ Hb hi ⟨z2,z3,xs,rfl,Lb,hd,hk,hx⟩
   have hi':i < M:=by lia
   have e0:(0:Int)+(i:Int)=(i:Int):=Int.zero_add _
   rw [e0]
   refine ⟨m,i,rfl,rfl,m6,fun p1 H1 n1 s1 g1=>⟨m,y,rfl,rfl,m6,fun p2 H2 n2 s2 g2=>?_⟩⟩
   have g1':=s2 _ _ g1
   refine ⟨⟨_,.of g1'⟩,⟨_,.of g2⟩,?_⟩
   refine IG (xs:=(AX m i).map V.bl) (ys:=(AX m y).map V.bl) (fun j zs H'=>Same H2 H'/\zs=((Ab m i y).take j).map V.bl) ⟨Same.refl _,rfl⟩ (by rw [List.length_map,List.length_map,Av,Av])
    (fun j zs H' _ ⟨s,_⟩=>⟨.of (s _ _ g1'),.of (s _ _ g2)⟩) (fun j zs H' hj ⟨_,e⟩=>by
     rw [List.length_map,Av] at hj
     rw [e];exact Ad (by rw [List.length_map,List.length_take];lia)) ?_ ?_
   ·rintro j u v zs H' pp hx hy ⟨s,rfl⟩ hpp
    have hj:j < m:=by
     have:=(List.getElem?_eq_some_iff.mp hx).1
     rw [List.length_map,Av] at this
     exact this
    have ex:u=.bl (i / 2 ^ j % 2 == 1):=by
     rw [List.getElem?_map,show AX m i=(List.range m).map _ from rfl,List.getElem?_map,List.getElem?_range hj] at hx
     exact (Option.some.inj hx).symm
    have ey:v=.bl (y / 2 ^ j % 2 == 1):=by
     rw [List.getElem?_map,show AX m y=(List.range m).map _ from rfl,List.getElem?_map,List.getElem?_range hj] at hy
     exact (Option.some.inj hy).symm
    subst ex ey
    refine ⟨pp,_,rfl,.of AD,rfl,_,_,rfl,_,_,rfl,rfl,?_⟩
    have s':Same H2 (upd H' pp (.tup [.bl (i / 2 ^ j % 2 == 1),.bl (y / 2 ^ j % 2 == 1)])):=s.trans (Same.upd hpp)
    refine Af (fun e=>?_) (fun e=>?_)
    ·refine ⟨s',?_⟩
     rw [shared_take hj,List.map_append,e,Bool.true_and]
     rfl
    ·refine ⟨s',?_⟩
     have e:(i / 2 ^ j % 2 == 1)=false:=by simpa using e
     rw [shared_take hj,List.map_append,e,Bool.false_and]
     rfl
   rintro zs H3 ⟨s3,rfl⟩ l3 hl3
   have hlen:((AX m i).map V.bl).length=m:=by rw [List.length_map,Av]
   have sl:(Ab m i y).length=m:=by unfold Ab;simp [Av]
   rw [hlen,List.take_of_length_le (by lia)]
   generalize Ab m i y=ks
   refine ⟨_,.inl ⟨.of AD,fun kk hkk=>?_⟩⟩
   have S:Same Hb (upd (upd H3 l3 (.lst (ks.map V.bl))) kk (.tup (ks.map V.bl))):=(s1.trans (s2.trans s3)).trans ((Same.upd hl3).trans (Same.upd hkk))
   have gk:upd (upd H3 l3 (.lst (ks.map V.bl))) kk (.tup (ks.map V.bl)) kk=some (.tup (ks.map V.bl)):=AD
   have Lc:=Lb.same S
   have hd:=S _ _ hd
   have hk:=MN hk S
   clear Lb
   generalize upd (upd H3 l3 (.lst (ks.map V.bl))) kk (.tup (ks.map V.bl))=Hc at *
   dsimp only [AS]
   refine Ae (fun σ H'=>∃ xs:BX,σ=[some (.ref t),some (.int m),some (.int M),some (.int way),some (.int y),some (.bl fb),some (.ref l),some (.ref p),some (.int i),some (.ref kk),z4]/\TabL K H t a ns M l H'/\H' p=some (dB P w p xs)/\BI H' xs/\xs.length<=i+1/\H' kk=some (.tup (ks.map V.bl))/\BR xs ks=true) ?_ ?_ (by walk_at "sm")
   ·refine ⟨xs,ks,gk,hd,hk,?_⟩
    refine Af (fun e=>?_) (fun e=>?_)
    ·have hn:BR xs ks=false:=by simpa using e
     refine ⟨a,ns,Lc.tp,A7 (by decide) (by decide),fun d H6 _ _ T6 f6=>?_⟩
     have L6:=Lc.draw TP T6 f6
     have pt:p≠t:=TP.neT hp0
     have hd6:H6 p=some (dB P w p xs):=by rw [f6 p pt];exact hd
     have nt:∀ {b:Addr} {ys:List V},Hc b=some (.tup ys)->b≠t:=fun {b ys} hb e=>by
      obtain ⟨i,r,c,_,_,h3⟩:=Lc.tp.at_
      rw [e,h3] at hb;cases hb
     have gk6:H6 kk=some (.tup (ks.map V.bl)):=by rw [f6 kk (nt gk)];exact gk
     have hk6:BI H6 xs:=fun q hq=>by rw [f6 _ (nt (hk q hq))];exact hk q hq
     refine ⟨xs,ks,gk6,hd6,hk6,hn,Ad (by lia),?_⟩
     refine ⟨xs++[(ks,kk,(false ^^ (d == 1)))],rfl,L6.other TP hp0 pl,AD,?_,by rw [List.length_append];exact Nat.succ_le_succ hx,?_,?_⟩
     ·intro q hq
      rcases List.mem_append.mp hq with hq | hq
      ·exact GP hk6 hd6 (fun ys z=>nomatch z) q hq
      ·have:=List.mem_singleton.mp hq
       subst this
       rw [AG (EN gk6 hd6 (fun z=>nomatch z))];exact gk6
     ·rw [AG (EN gk6 hd6 (fun z=>nomatch z))];exact gk6
     ·unfold BR;rw [List.any_append];simp
    ·have hn:BR xs ks=true:=by simpa using e
     exact ⟨xs,rfl,Lc,hd,hk,Nat.le_succ_of_le hx,gk,hn⟩
   rintro σ He ⟨xs,rfl,Le,hd,hk,hx,gk,hh⟩
   obtain ⟨c,v,hv⟩:=Il hh
   obtain ⟨bs,hbs,hbl⟩:=Le.at_
   refine ⟨xs,ks,c,v,gk,hd,hk,hv,_,i,hbs,FF (by rw [List.length_map];lia),?_⟩
   rw [G3]
   refine ⟨some (.int i),some (.ref kk),xs,rfl,Le.put TP (by rw [List.length_set];exact hbl),?_,GP hk hbs (fun ys z=>nomatch z),hx⟩
   rw [AG pl];exact hd
  ·rintro σ He ⟨z2,z3,xs,rfl,Le,_⟩
   exact ⟨l,way,y,fb,_,z2,z3,z4,rfl,hy,Le⟩
 clear L
 rintro σ Ha ⟨l,way,y,fb,z1,z2,z3,z4,rfl,hy,L⟩
 refine Ae (CW K H t a ns m M) ?_ ?_ (by walk_at "sm")
 ·-- some places turned
  refine ⟨a,ns,L.tp,A7 (by decide) (by decide),fun d Hb d0 d3 Tb fb'=>?_⟩
  have Lb:=L.draw TP Tb fb'
  have hmul:∃ N:Nat,d * (if decide (way > 1)=true then 1 else 0)=(N:Int)/\N<=2:=by
   by_cases h:way > 1
   ·rw [decide_eq_true h,if_pos rfl,Int.mul_one];exact ⟨d.toNat,by lia,by lia⟩
   ·rw [decide_eq_false h,if_neg (by decide),Int.mul_zero];exact ⟨0,rfl,by lia⟩
  obtain ⟨N,hN,hN2⟩:=hmul
  refine ⟨.inr (.inl ⟨by lia,by lia⟩),(N:Int),congrArg (fun z=>[V.int z]) hN,by lia,by lia,?_⟩
  refine Bc (fun _=>CW K H t a ns m M) ⟨l,way,y,fb,z1,z2,z3,z4,rfl,hy,Lb⟩ ?_ (fun σ H' h=>h)
  rintro i σ Hc hi ⟨l,way,y,fb,z1,z2,z3,z4,rfl,hy,Lc⟩
  refine ⟨a,ns,Lc.tp,hMd,fun k' Hd k0 k1 Td fd=>?_⟩
  obtain ⟨k,rfl⟩:=Int.eq_ofNat_of_zero_le k0
  have Ld:=Lc.draw TP Td fd
  obtain ⟨bs,hbs,hbl⟩:=Ld.at_
  have hk:k < bs.length:=by lia
  refine ⟨_,.bl bs[k],.inl (.of hbs),C0 rfl (by rw [List.getElem?_map,List.getElem?_eq_getElem hk];rfl),_,k,hbs,FF (by rw [List.length_map];lia),?_⟩
  rw [G3]
  exact ⟨l,way,y,fb,z1,some (.int k),z3,some (.int (0+(i:Int))),rfl,hy,Ld.put TP (by rw [List.length_set];exact hbl)⟩
 clear L
 rintro σ Ha ⟨l,way,y,fb,z1,z2,z3,z4,rfl,hy,L⟩
 obtain ⟨bs,hbs,hbl⟩:=L.at_
 refine ⟨_,.inl ⟨.of hbs,fun p hp=>?_⟩⟩
 exact q bs p _ hbl (L.tp.free L.fr hp) AD (L.tp.upd hp) (L.fr.trans (Frm.upd hp))
def A6 (m:Nat) (bs:List Bool) (x:Nat):Nat->Int
 | 0=>0
 | j+1=>A6 m bs x j+sgL m x j * Bd (bs.getD j false)
def CH (m M:Nat) (bs:List Bool):Nat->List (Nat × Int)
 | 0=>[]
 | i+1=>CH m M bs i++(if A6 m bs i M=0 then [] else [(i,A6 m bs i M)])
theorem Mh {m x y:Nat} {z:Int}:okMul (sgL m x y) z:=by
 unfold sgL
 split
 ·exact .inr (.inl ⟨by decide,by decide⟩)
 ·exact .inr (.inl ⟨by decide,by decide⟩)
theorem OA {s x y:Nat}:sgL (s+1) x y=sgL s x y * (if ((x / 2 ^ s % 2 == 1) && (y / 2 ^ s % 2 == 1))=true then -1 else 1):=by
 have e:Ab (s+1) x y=Ab s x y++[(x / 2 ^ s % 2 == 1) && (y / 2 ^ s % 2 == 1)]:=by
  have eb:∀ x,AX (s+1) x=AX s x++[x / 2 ^ s % 2 == 1]:=fun x=>by
   unfold AX
   rw [List.range_succ,List.map_append]
   rfl
  unfold Ab
  rw [eb x,eb y,List.zip_append (by rw [Av,Av]),List.map_append]
  rfl
 unfold sgL
 rw [e,List.countP_append]
 generalize (Ab s x y).countP id=c
 cases h:((x / 2 ^ s % 2 == 1) && (y / 2 ^ s % 2 == 1)) with
 | false =>
  rw [show [false].countP id=0 from rfl,Nat.add_zero,if_neg (show ¬ (false=true) by decide),Int.mul_one]
 | true =>
  rw [show [true].countP id=1 from rfl,if_pos (show true=true from rfl)]
  by_cases hc:c % 2=1
  ·rw [if_pos hc,if_neg (by lia)];rfl
  ·rw [if_neg hc,if_pos (by lia)];rfl
theorem Ee (x y:Nat):∀ s,sgL s x y=chi s x y
 | 0=>rfl
 | s+1=>by rw [OA,HS,Ee x y s]
theorem Hm (m:Nat) (bs:List Bool) (x:Nat):∀ n,A6 m bs x n=AE (fun j=>chi m x j * Aq bs j) n
 | 0=>rfl
 | n+1=>by
  show A6 m bs x n+sgL m x n * Bd (bs.getD n false)=AE _ n+chi m x n * Aq bs n
  rw [Hm m bs x n,Ee]
  rfl
theorem HN (m:Nat) (bs:List Bool):∀ i,CH m (2 ^ m) bs i=AH (wt m (Aq bs)) i
 | 0=>rfl
 | i+1=>by
  show CH m (2 ^ m) bs i++_=AH (wt m (Aq bs)) i++_
  rw [HN m bs i,Hm]
  rfl
def Cw (K:W.Frag):Sp:=fun vs H Q _=>match vs with
 | [.ref p]=>∃ (m:Nat) (bs:List Bool),1<=m/\m<=6/\bs.length=2 ^ m/\SqT K H p (bs.map V.bl)/\∀ v H',Same H H'->Rep K H' (CP m (AH (wt m (Aq bs)) (2 ^ m))) v->Q v H'
 | _=>False
theorem Md:AR (Cw K):=fun vs H Q Q' E h q=>by
 unfold Cw at *
 split at q
 ·revert q;repeat' first | exact h _ _ | exact BJ h | exact BC h | exact BL h | walk_at "m"
 ·exact q.elim
theorem Lw {p:Addr} {H0 H:Hp} {o:HO} (f:Same H0 H) (hp:H0 p=none):Same H0 (upd H p o):=fun b u e=>by
 rw [AG (BG e hp)];exact f b u e
theorem NA:FnOk P w K mg base CX0 4 T.f_z25 T.d_z25 ["_law_table_here"] (Cw K):=by
 have G_z23:=CU (P:=P) (w:=w) (base:=base) T;have G_z16:=Dk (P:=P) (w:=w) (base:=base) T
 refine T.F_z25.ok sc_z25 (fun vs H Q E h=>by unfold Cw at h;split at h <;> first | rfl | exact h.elim) (fun cdv A outer s H vs Q E hr h=>?_)
 have hu:=Ak hr
 have mo1:AR (Bj K):=EJ
 have mo2:AR BQ:=DO
 have hr_z23:=hr.mono (show 1<=_ by decide);have hr_z16:=hr.mono (show 3<=_ by decide)
 unfold Cw at h
 split at h
 rotate_left
 ·exact h.elim
 rename_i p
 obtain ⟨m,bs,m1,m6,hb,hp,q⟩:=h
 rw [<- HN] at q
 refine ⟨_,(@AF _ _ _ _ _ (@AO _ _ 1 _ _ _ _ sc_z25.nd rfl (by right) (AN (CA (K:=K)) (K5 (K:=K) (@A3 _ _ _ _ (AA AB (AA AB (AA AB (AA AB (AA AB (AA AB AC))))))) (AA (Ap (DF (K:=K)) rfl T.z_len (by rfl) (AA (vv 0) AC)) AC)) AB) (by rfl) (by symm)) (@AF _ _ _ _ _ (@AO _ _ 2 _ _ _ _ sc_z25.nd rfl (by right) (@A3 _ _ _ _ AC) (by rfl) (by symm)) (@AF _ _ _ _ _ (@BK _ _ _ _ _ _ _ _ PassesOwn.never rfl (Ar rfl T.z_range (AA (AI G_z23 hr_z23 rfl T.m_z23 T.F_z23.kp T.b_z23 .nil AJ (AA (vv 1) AC)) AC)) (AQ (i:=3) sc_z25.nd rfl (by right)) (@AF _ _ _ _ _ (@AO _ _ 4 _ _ _ _ sc_z25.nd rfl (by right) AB (by rfl) (by symm)) (@AF _ _ _ _ _ (@BK _ _ _ _ _ _ _ _ PassesOwn.never rfl (Ar rfl T.z_range (AA (AI G_z23 hr_z23 rfl T.m_z23 T.F_z23.kp T.b_z23 .nil AJ (AA (vv 1) AC)) AC)) (AQ (i:=5) sc_z25.nd rfl (by right)) (@AL _ _ _ (@AO _ _ 4 _ _ _ _ sc_z25.nd rfl (by right) (AN (CA (K:=K)) (vv 4) (AN A5 (AI G_z16 hr_z16 rfl T.m_z16 T.F_z16.kp T.b_z16 .nil AJ (AA (vv 1) (AA (vv 3) (AA (vv 5) AC)))) (kIx (K:=K) (@A3 _ _ _ _ (AA AB (AA (CF Bx AB) AC))) (Ba GL rfl T.z_int (by rfl) (AA (kIx (K:=K) (vv 0) (vv 5)) AC))))) (by rfl) (by symm))) (by intro _;rfl)) (@AL _ _ _ (@At _ _ _ _ _ _ _ _ (Al (kNe (K:=K) hu) (vv 4) AB) (@AL _ _ _ (@FC _ _ _ _ (GY (K:=K) (vv 2) (AA (BY (AA (vv 3) (AA (vv 4) AC))) AC)) (by rfl))) Au)))) (by intro _;rfl)) (@AL _ _ _ (@AZ _ _ _ _ (BY (AA (vv 1) (AA (Ba (DJ (K:=K)) rfl T.z_tuple (by rfl) (AA (vv 2) AC)) AC)))))))),?_⟩
 have h64:2 ^ m<=64:=Nat.pow_le_pow_right (n:=2) (by decide) m6
 -- n
 refine ⟨AT (show 6<=1000 by decide),fun l0 hl0=>?_⟩
 have s0:Same H (upd H l0 (.lst [.int 2,.int 4,.int 8,.int 16,.int 32,.int 64])):=Same.upd hl0
 have hix:∃ z,[V.int 2,.int 4,.int 8,.int 16,.int 32,.int 64][m - 1]? = some z/\eqV z (.int (2 ^ m:Nat))=true/\∀ (k:Nat) (v:V),k < m - 1->[V.int 2,.int 4,.int 8,.int 16,.int 32,.int 64][k]? = some v->eqV v (.int (2 ^ m:Nat))=false:=by
  have:m=1\/m=2\/m=3\/m=4\/m=5\/m=6:=by lia
  rcases this with e | e | e | e | e | e <;> subst e <;> refine ⟨_,rfl,by decide,?_⟩ <;> intro k v hk hv <;> (try lia)
  all_goals (have:k=0\/k=1\/k=2\/k=3\/k=4:=by lia)
  all_goals (rcases this with e | e | e | e | e <;> subst e <;> first | lia | (cases hv;rfl))
 obtain ⟨z,hz1,hz2,hz3⟩:=hix
 have e2:(2:Int) ^ ((m:Int).toNat)=((2 ^ m:Nat):Int):=by rw [Int.toNat_natCast,Int.natCast_pow];rfl
 generalize hM:2 ^ m=M at *
 have hMr:(M:Int) < 2 ^ 62:=Int.lt_of_le_of_lt (Int.ofNat_le.mpr h64) (by decide)
 refine ⟨.inl ⟨rfl,_,.of AD⟩,M,.inr ⟨_,Ax hp s0,by rw [List.length_map,hb]⟩,_,m - 1,z,.of AD,rfl,rfl,hz1,hz2,hz3,?_⟩
 have en:((m - 1:Nat):Int)+1=(m:Int):=by lia
 dsimp only [tC,DS,AS]
 rw [en]
 refine ⟨AT (show 0<=1000 by decide),fun l hl=>?_⟩
 have hl0:H l=none:=s0.free hl
 generalize upd H l0 (.lst [.int 2,.int 4,.int 8,.int 16,.int 32,.int 64])=H1 at *
 dsimp only [AS]
 refine Ae (fun σ H'=>∃ (z3 z4 z5:Option V) (vs:List V),σ=[some (.ref p),some (.int m),some (.ref l),z3,z4,z5]/\Same H H'/\H' l=some (.lst vs)/\Reps K H' ((CH m M bs M).map BA) vs) ?_ ?_ (by walk_at "sm")
 ·refine ⟨by lia,by lia,fun H2 s2=>?_⟩
  rw [e2]
  refine ⟨(M:Int),rfl,by lia,by lia,?_⟩
  refine Bc (fun i σ H'=>∃ (z3 z4 z5:Option V) (vs:List V),σ=[some (.ref p),some (.int m),some (.ref l),z3,z4,z5]/\Same H H'/\H' l=some (.lst vs)/\Reps K H' ((CH m M bs i).map BA) vs/\vs.length<=i)
   ⟨none,none,none,[],rfl,s0.trans ((Same.upd hl).trans s2),s2 _ _ AD,BN,Nat.le_refl _⟩ ?_ ?_
  ·rintro i σ H3 hi ⟨z3,z4,z5,vs,rfl,s3,g3,r3,v3⟩
   have hi':i < M:=by lia
   have e0:(0:Int)+(i:Int)=(i:Int):=Int.zero_add _
   rw [e0]
   dsimp only [AS]
   refine Ae (fun σ H'=>σ=[some (.ref p),some (.int m),some (.ref l),some (.int i),some (.int 0),z5]/\H3=H') ⟨rfl,rfl⟩ ?_ (by walk_at "sm")
   rintro σ _ ⟨rfl,rfl⟩
   refine Ae (fun σ H'=>∃ z5:Option V,σ=[some (.ref p),some (.int m),some (.ref l),some (.int i),some (.int (A6 m bs i M)),z5]/\Same H3 H') ?_ ?_ (by walk_at "sm")
   ·refine ⟨by lia,by lia,fun H4 s4=>?_⟩
    rw [e2]
    refine ⟨(M:Int),rfl,by lia,by lia,?_⟩
    refine Bc (fun j σ H'=>∃ z5:Option V,σ=[some (.ref p),some (.int m),some (.ref l),some (.int i),some (.int (A6 m bs i j)),z5]/\Same H3 H') ⟨z5,rfl,s4⟩ ?_ (fun σ H' h=>h)
    rintro j σ H5 hj ⟨z5,rfl,s5⟩
    have hj':j < bs.length:=by lia
    rw [show (0:Int)+(j:Int)=(j:Int) from Int.zero_add _]
    refine ⟨m,i,j,rfl,rfl,rfl,m6,fun H6 s6=>⟨AT (show 2<=1000 by decide),fun r hr'=>?_⟩⟩
    have S6:Same H (upd H6 r (.lst [.int 1,.int (-1)])):=s3.trans (s5.trans (s6.trans (Same.upd hr')))
    refine ⟨_,.bl bs[j],.inr (Ax hp S6),C0 rfl (by rw [List.getElem?_map,List.getElem?_eq_getElem hj'];rfl),?_⟩
    refine ⟨_,.int (Bd bs[j]),.inl (.of AD),?_,Mh,?_⟩
    ·unfold Bd
     cases bs[j] <;> rfl
    ·refine ⟨some (.int j),?_,s5.trans (s6.trans (Same.upd hr'))⟩
     have ew:A6 m bs i (j+1)=A6 m bs i j+sgL m i j * Bd bs[j]:=by
      show A6 m bs i j+sgL m i j * Bd (bs.getD j false)=_
      rw [List.getD_eq_getElem?_getD,List.getElem?_eq_getElem hj']
      rfl
     rw [ew]
     rfl
   rintro σ H4 ⟨z5,rfl,s4⟩
   have g4:=s4 _ _ g3
   have r4:=Reps.same s4 _ _ r3
   have s4':=s3.trans s4
   have et:CH m M bs (i+1)=CH m M bs i++(if A6 m bs i M=0 then [] else [(i,A6 m bs i M)]):=rfl
   rw [et]
   generalize hw:A6 m bs i M=wt at *
   refine Af (fun e=>?_) (fun e=>?_)
   ·have w0:¬ wt=0:=by simpa using e
    rw [if_neg w0,List.map_append]
    refine ⟨.inl ⟨rfl,_,.of g4⟩,AT (show 2<=1000 by decide),fun k hk=>?_⟩
    have lk:l≠k:=BG g4 hk
    refine ⟨vs,by rw [AG lk];exact g4,Ad (by lia),?_⟩
    refine ⟨some (.int i),some (.int wt),z5,vs++[.ref k],rfl,?_,AD,?_,by rw [List.length_append];exact Nat.succ_le_succ v3⟩
    ·exact Lw (s4'.trans (Same.upd hk)) hl0
    ·have gl:upd H4 k (.tup [.int i,.int wt]) l=some (.lst vs):=by rw [AG lk];exact g4
     refine Reps.append ?_ ?_
     ·exact Reps.frm Frm.updT ⟨_,gl⟩ _ _ (D4 _) (Reps.same (Same.upd hk) _ _ r4)
     ·refine A1 (DV (xs:=[.int i,.int wt]) ?_ (A1 CB (A1 CB BN))) BN
      rw [AG (Ne.symm lk)];exact AD
   ·have w0:wt=0:=by simpa using e
    rw [if_pos w0,List.append_nil]
    exact ⟨some (.int i),some (.int wt),z5,vs,rfl,s4',g4,r4,Nat.le_succ_of_le v3⟩
  ·rintro σ H3 ⟨z3,z4,z5,vs,rfl,s3,g3,r3,_⟩
   exact ⟨z3,z4,z5,vs,rfl,s3,g3,r3⟩
 rintro σ H3 ⟨z3,z4,z5,vs,rfl,s3,g3,r3⟩
 refine ⟨_,.inl ⟨.of g3,fun k hk=>⟨AT (show 2<=1000 by decide),fun k2 hk2=>?_⟩⟩⟩
 have S:=(Same.upd (o:=.tup vs) hk).trans (Same.upd (o:=.tup [.int m,.ref k]) hk2)
 refine q _ _ (s3.trans S) ?_
 refine DV AD (A1 CB (A1 (DV (xs:=vs) ?_ (Reps.same S _ _ r3)) BN))
 exact Same.upd hk2 _ _ AD
def Fj (K:W.Frag):Sp:=fun vs H Q _=>match vs with
 | [v]=>∃ (m:Nat) (g:Nat->Int),SumAt K H v m (AH g (2 ^ m))/\m<=6/\Dl H Q (ixL g (2 ^ m))
 | _=>False
theorem Ks:FnOk P w K mg base CX0 3 T.f_z14 T.d_z14 ["one"] (Fj K):=by
 have G_z26:=IJ (P:=P) (w:=w) (base:=base) T
 refine T.F_z14.ok sc_z14 (fun vs H Q E h=>by unfold Fj at h;split at h <;> first | rfl | exact h.elim) (fun cdv A outer s H vs Q E hr h=>?_)
 have hu:=Ak hr
 have mo1:AR C2:=JN
 have hr_z26:=hr.mono (show 2<=_ by decide)
 unfold Fj at h
 split at h
 rotate_left
 ·exact h.elim
 rename_i v
 obtain ⟨m,g,S,m6,q⟩:=h
 obtain ⟨a,b,vs,rfl,ha,hb,hr'⟩:=id S.at_
 have h64:2 ^ m<=64:=Nat.pow_le_pow_right (n:=2) (by decide) m6
 have i0:(0:Int)<=((2 ^ m:Nat):Int):=Int.natCast_nonneg _
 have i1:((2 ^ m:Nat):Int)<=64:=Int.ofNat_le.mpr h64
 have hvl:vs.length=(AH g (2 ^ m)).length:=by have:=hr'.length;rw [List.length_map] at this;lia
 refine ⟨_,(@AF _ _ _ _ _ (@AO _ _ 1 _ _ _ _ sc_z14.nd rfl (by right) (AN A5 (@A3 _ _ _ _ (AA AB AC)) (AI G_z26 hr_z26 rfl T.m_z26 T.F_z26.kp T.b_z26 .nil AJ (AA (kIx (K:=K) (vv 0) AB) AC))) (by rfl) (by symm)) (@AF _ _ _ _ _ (@BK _ _ _ _ _ _ _ _ PassesOwn.never rfl (DN (K:=K) (kIx (K:=K) (vv 0) AB)) (Di (K:=K) (n:=2) rfl (As (AQ (i:=2) sc_z14.nd rfl (by right)) (As (AQ (i:=3) sc_z14.nd rfl (by right)) CG))) (@AL _ _ _ (@BH _ _ _ _ _ _ (vv 3) (BO (vv 1) (vv 2) CJ) (by rfl) (by rfl) (by rfl))) (by intro _;rfl)) (@AL _ _ _ (@AZ _ _ _ _ (vv 1))))),?_⟩
 refine ⟨AT (show 1<=1000 by decide),fun p0 hp0=>?_⟩
 have s0:=Same.upd (o:=.lst [.int 0]) hp0
 refine ⟨_,.int m,.inr (Ax ha s0),rfl,m,rfl,by lia,p0,((2 ^ m:Nat):Int),_,rfl,rfl,AD,by lia,by lia,AT (by show 1 * ((2 ^ m:Nat):Int).toNat<=1000;lia),fun l hl=>?_⟩
 rw [Int.toNat_natCast,NN]
 dsimp only [AS]
 have s1:=s0.trans (Same.upd (o:=.lst (ixL (fun _=>0) (2 ^ m))) hl)
 have hl0:H l=none:=s0.free hl
 have g1:upd (upd H p0 (.lst [.int 0])) l (.lst (ixL (fun _=>0) (2 ^ m))) l=some (.lst (ixL (A8 ((AH g (2 ^ m)).take 0) (fun _=>0)) (2 ^ m))):=AD
 generalize upd (upd H p0 (.lst [.int 0])) l (.lst (ixL (fun _=>0) (2 ^ m)))=H1 at *
 refine ⟨_,.ref b,.inr (Ax ha s1),rfl,.inr ⟨⟨_,Ax hb s1⟩,?_⟩⟩
 refine Nt (xs:=vs) (fun i σ H'=>∃ z2 z3:Option V,σ=[some (.ref a),some (.ref l),z2,z3]/\Same H H'/\H' l=some (.lst (ixL (A8 ((AH g (2 ^ m)).take i) (fun _=>0)) (2 ^ m)))) ⟨none,none,rfl,s1,g1⟩ (fun i σ H' _ ⟨_,_,_,s,_⟩=>Ax hb s) ?_ ?_
 ·rintro i x σ H2 hx ⟨z2,z3,rfl,s2,g2⟩
  obtain ⟨⟨k,wgt⟩,c,hq,rfl,hc⟩:=Do hr' hx
  have hk:k < 2 ^ m:=(Bh (List.mem_of_getElem? hq)).1
  refine ⟨_,.inr (Ax hc s2),rfl,_,_,rfl,_,_,rfl,rfl,?_⟩
  refine ⟨_,k,g2,by rw [ixL_len];exact FF hk,?_⟩
  refine ⟨_,_,rfl,K1 s2 hl0,?_⟩
  rw [AD,LL,MH hq]
 ·rintro σ H2 ⟨z2,z3,rfl,s2,g2⟩
  rw [List.take_of_length_le (by lia),MM (g:=g) fun j hj=>by rw [Ef,if_pos hj]] at g2
  exact q l H2 hl0 s2 g2
theorem Ez (f g:Nat->Int):∀ n,((AH f n).map fun t=>t.2 * g t.1).sum=AE (fun j=>f j * g j) n
 | 0=>rfl
 | n+1=>by
  show ((AH f n++(if f n=0 then [] else [(n,f n)])).map fun t=>t.2 * g t.1).sum=AE (fun j=>f j * g j) n+f n * g n
  rw [List.map_append,List.sum_append,Ez f g n]
  by_cases e:f n=0
  ·rw [if_pos e,e];simp
  ·rw [if_neg e];simp
def FB (K:W.Frag):Sp:=fun vs H Q _=>match vs with
 | [.ref p,.ref l,.int z]=>∃ (m a:Nat) (f g:Nat->Int) (us:List V),SqT K H p us/\Reps K H ((AH f (2 ^ m)).map BA) us/\SqL K H l (ixL g (2 ^ m))/\z=a/\a < 2 ^ m/\m<=6/\(∀ j,Nb (f j) 60)/\(∀ j,Nb (g j) 60)/\∀ H',Same H H'->Q (.int (AE (fun j=>f j * g (j ^^^ a)) (2 ^ m))) H'
 | _=>False
theorem LQ:FnOk P w K mg base CX0 1 T.f_met T.d_met ["terms","weights","apart"] (FB K):=by
 refine T.F_met.ok Kt (fun vs H Q E h=>by unfold FB at h;split at h <;> first | rfl | exact h.elim) (fun cdv A outer s H vs Q E hr h=>?_)
 have hu:=Ak hr
 unfold FB at h
 split at h
 rotate_left
 ·exact h.elim
 rename_i p l z
 obtain ⟨m,a,f,g,us,hp,hR,hl,e1,ha,m6,hf,hg,q⟩:=h
 subst e1
 have h64:2 ^ m<=64:=Nat.pow_le_pow_right (n:=2) (by decide) m6
 have hul:us.length=(AH f (2 ^ m)).length:=by have:=hR.length;rw [List.length_map] at this;lia
 have htl:=Dr f (2 ^ m)
 have hmem:=fun {t} (h:t∈AH f (2 ^ m))=>Bh h
 rw [<- Ez f (fun j=>g (j ^^^ a))] at q
 refine ⟨_,(@AL _ _ _ (@AZ _ _ _ _ (Ap (Ei (K:=K) rfl) rfl T.z_sum (by rfl) (AA (BM (N':=["subset","weight","weights","apart"]) (own:=2) (ix:=[1,2]) rfl (DN (K:=K) (vv 0)) (by kernel_rfl) rfl rfl (by kernel_rfl) (fun c=>Dd (K:=K) (n:=2) rfl (As (AQ (i:=0) (show (["subset","weight","weights","apart"]:List Str).Nodup by decide +kernel) rfl (by right)) (As (AQ (i:=1) (show (["subset","weight","weights","apart"]:List Str).Nodup by decide +kernel) rfl (by right)) CG))) (Dm (B3 A9 (DR A9 Bu) (Ai (by decide)) (B3 A9 Bu (Ai (by decide)) Dy))) (fun c=>A2) (fun c=>(AN A5 (vv 1) (kIx (K:=K) (vv 2) (AN L3 (vv 0) (vv 3)))))) AC)))),?_⟩
 generalize AH f (2 ^ m)=ts at *
 refine .inr ⟨⟨_,hp⟩,?_⟩
 refine Hv (xs:=us) (fun i ys H'=>H'=H/\ys=((ts.take i).map fun t=>t.2 * g (t.1 ^^^ a)).map V.int) ⟨rfl,rfl⟩ (fun i ys H' _ ⟨e,_⟩=>by rw [e];exact hp) (fun i ys H' hi ⟨_,e⟩=>by
  rw [e,List.length_map,List.length_map,List.length_take];exact Ad (by lia)) ?_ ?_
 ·rintro i x ys H' hx ⟨rfl,rfl⟩
  obtain ⟨⟨k,wgt⟩,c,hq,rfl,hc⟩:=Do hR hx
  obtain ⟨hk,hw,_⟩:=hmem (List.mem_of_getElem? hq)
  have hk:k < 2 ^ m:=hk
  have hw:wgt=f k:=hw
  have hka:k ^^^ a < 2 ^ m:=Nat.xor_lt_two_pow hk ha
  have ek:Builtin.bitXor (k:Int) (a:Int)=((k ^^^ a:Nat):Int):=Jr k a
  have nw:Nb wgt 60:=by rw [hw];exact hf k
  refine ⟨c,_,rfl,hc,rfl,_,_,rfl,_,_,rfl,rfl,_,.int (g (k ^^^ a)),.inl hl,by rw [ek];exact Hu hka,Nb.okMul (nw.up (by decide)) ((hg (k ^^^ a)).up (by decide)),rfl,?_⟩
  rw [List.take_add_one,hq,List.map_append,List.map_append]
  rfl
 ·rintro ys H' ⟨rfl,rfl⟩ lp hlp
  rw [List.take_of_length_le (by lia)]
  exact ⟨_,.of AD,q _ (Same.upd hlp)⟩
def FX (K:W.Frag):Sp:=fun vs H Q _=>match vs with
 | [x,y]=>∃ (m:Nat) (f g:Nat->Int),SumAt K H x m (AH f (2 ^ m))/\SumAt K H y m (AH g (2 ^ m))/\m<=6/\(∀ j,Nb (f j) 60)/\(∀ j,Nb (g j) 60)/\Dl H Q (ixL (fun a=>AE (fun j=>f j * g (j ^^^ a)) (2 ^ m)) (2 ^ m))
 | _=>False
theorem Lp:FnOk P w K mg base CX0 4 T.f_z27 T.d_z27 ["one","other"] (FX K):=by
 have G_z14:=Ks (P:=P) (w:=w) (base:=base) T;have G_met:=LQ (P:=P) (w:=w) (base:=base) T
 refine T.F_z27.ok sc_z27 (fun vs H Q E h=>by unfold FX at h;split at h <;> first | rfl | exact h.elim) (fun cdv A outer s H vs Q E hr h=>?_)
 have hu:=Ak hr
 have hr_z14:=hr.mono (show 3<=_ by decide);have hr_met:=hr.mono (show 1<=_ by decide)
 unfold FX at h
 split at h
 rotate_left
 ·exact h.elim
 rename_i x y
 obtain ⟨m,f,g,S1,S2,m6,hf,hg,q⟩:=h
 have h64:2 ^ m<=64:=Nat.pow_le_pow_right (n:=2) (by decide) m6
 have i0:(0:Int)<=((2 ^ m:Nat):Int):=Int.natCast_nonneg _
 have i1:((2 ^ m:Nat):Int)<=64:=Int.ofNat_le.mpr h64
 obtain ⟨a,b,us,rfl,ha,hb,hR⟩:=id S1.at_
 refine ⟨_,(@AF _ _ _ _ _ (@AO _ _ 2 _ _ _ _ sc_z27.nd rfl (by right) (AI G_z14 hr_z14 rfl T.m_z14 T.F_z14.kp T.b_z14 .nil AJ (AA (vv 1) AC)) (by rfl) (by symm)) (@AL _ _ _ (@AZ _ _ _ _ (@BM _ _ _ _ _ _ _ (["subset","one","weights"]) 1 ([0,2]) _ _ _ _ rfl (Ar rfl T.z_range (AA (Ap (DF (K:=K)) rfl T.z_len (by rfl) (AA (vv 2) AC)) AC)) (by kernel_rfl) rfl rfl (by kernel_rfl) (fun c=>AQ (i:=0) (show (["subset","one","weights"]:List Str).Nodup by decide +kernel) rfl (by right)) (Ai (by decide)) (fun c=>A2) (fun c=>(AI G_met hr_met rfl T.m_met T.F_met.kp T.b_met .nil AJ (AA (kIx (K:=K) (vv 1) AB) (AA (vv 2) (AA (vv 0) AC))))) (by intro _;rfl))))),?_⟩
 refine ⟨m,_,S2,m6,fun l H1 hl s1 g1=>?_⟩
 dsimp only [AS]
 refine ⟨2 ^ m,.inl ⟨_,.of g1,ixL_len.symm⟩,((2 ^ m:Nat):Int),rfl,by lia,by lia,?_⟩
 refine CL (fun i ys H'=>Same H1 H'/\ys=ixL (fun a=>AE (fun j=>f j * g (j ^^^ a)) (2 ^ m)) i) ⟨Same.refl _,rfl⟩ (fun i ys H' hi ⟨_,e⟩=>by
  rw [e,ixL_len];exact Ad (by lia)) ?_ ?_
 ·rintro i ys H' hi ⟨s2,rfl⟩
  have hi':i < 2 ^ m:=by lia
  rw [show (0:Int)+(i:Int)=(i:Int) from Int.zero_add _]
  have s12:=s1.trans s2
  refine ⟨_,.ref b,.inr (Ax ha s12),rfl,m,i,_,_,us,Ax hb s12,Reps.same s12 _ _ hR,.of (s2 _ _ g1),rfl,hi',m6,hf,hg,fun H3 s3=>⟨s2.trans s3,?_⟩⟩
  rw [GI]
 ·rintro ys H' ⟨s2,rfl⟩ lp hlp
  rw [Int.toNat_natCast]
  exact q lp _ ((s1.trans s2).free hlp) (s1.trans (s2.trans (Same.upd hlp))) AD
theorem Mz {s k:Nat} (h:s ^^^ k=0):s=k:=by
 have h1:(s ^^^ k) ^^^ k=s:=by rw [Nat.xor_assoc,Nat.xor_self,Nat.xor_zero]
 rw [h,Nat.zero_xor] at h1
 exact h1.symm
theorem Kw (n s k:Nat) (hs:s < 2 ^ n) (hk:k < 2 ^ n):wt n (fun p=>chi n k p) s=if s=k then ((2 ^ n:Nat):Int) else 0:=by
 have hx:s ^^^ k < 2 ^ n:=Nat.xor_lt_two_pow hs hk
 have h1:wt n (fun p=>chi n k p) s=AE (fun p=>chi n p (s ^^^ k)) (2 ^ n):=Ac fun p _=>by rw [EO,Bl n s p];show chi n p s * chi n k p=_;rw [Bl n k p]
 rw [h1,Eo n _ hx]
 by_cases e:s=k
 ·subst e;rw [Nat.xor_self,if_pos rfl,if_pos rfl]
 ·rw [if_neg e,if_neg (fun z=>e (Mz z))]
def cv (n:Nat) (f:Nat->Int) (a:Nat):Int:=AE (fun s=>f s * f (s ^^^ a)) (2 ^ n)
theorem HJ (n:Nat) (f:Nat->Int) (a:Nat) (ha:a < 2 ^ n):((2 ^ n:Nat):Int) * cv n f a=wt n (fun p=>wt n f p * wt n f p) a:=by
 have h:=J9 n (wt n f) (wt n f) a
 have e:AE (fun s=>wt n (wt n f) s * wt n (wt n f) (s ^^^ a)) (2 ^ n)=((2 ^ n:Nat):Int) * (((2 ^ n:Nat):Int) * cv n f a):=by
  unfold cv
  rw [Bf,Bf]
  refine Ac fun s hs=>?_
  rw [EK n f s hs,EK n f (s ^^^ a) (Nat.xor_lt_two_pow hs ha)]
  generalize ((2 ^ n:Nat):Int)=c
  rw [Int.mul_assoc,Int.mul_left_comm (f s) c]
 rw [e] at h
 have hp:((2 ^ n:Nat):Int)≠0:=by have:=Nat.pow_pos (n:=n) (show 0 < 2 by decide);lia
 exact Int.eq_of_mul_eq_mul_left hp h
theorem Kk (n:Nat) (f:Nat->Int):(∀ a,a < 2 ^ n->cv n f a=if a=0 then ((2 ^ n:Nat):Int) * ((2 ^ n:Nat):Int) else 0) ↔ ∀ p,p < 2 ^ n->wt n f p * wt n f p=((2 ^ n:Nat):Int) * ((2 ^ n:Nat):Int):=by
 have h2:0 < 2 ^ n:=Nat.pow_pos (by decide)
 have hp:((2 ^ n:Nat):Int)≠0:=by lia
 have cst:∀ (c:Int) s,s < 2 ^ n->wt n (fun _=>c) s=if s=0 then ((2 ^ n:Nat):Int) * c else 0:=fun c s hs=>by
  have e:wt n (fun _=>c) s=c * wt n (fun p=>chi n 0 p) s:=by
   unfold wt
   rw [Bf]
   refine Ac fun p _=>?_
   show chi n s p * c=c * (chi n s p * chi n 0 p)
   rw [Bl n 0 p,GK,Int.mul_one,Int.mul_comm]
  rw [e,Kw n s 0 hs h2]
  split
  ·exact Int.mul_comm _ _
  ·exact Int.mul_zero _
 constructor
 ·intro h p hp'
  have h1:wt n (wt n (fun p=>wt n f p * wt n f p)) p=((2 ^ n:Nat):Int) * (wt n f p * wt n f p):=EK n _ p hp'
  have h3:wt n (wt n (fun p=>wt n f p * wt n f p)) p=wt n (wt n (fun _=>((2 ^ n:Nat):Int) * ((2 ^ n:Nat):Int))) p:=GH (fun a ha=>by
   rw [<- HJ n f a ha,h a ha,cst _ a ha]
   split
   ·rfl
   ·exact Int.mul_zero _) p
  exact Int.eq_of_mul_eq_mul_left hp (h1.symm.trans (h3.trans (EK n _ p hp')))
 ·intro h a ha
  have h1:=HJ n f a ha
  rw [GH h a,cst _ a ha] at h1
  refine Int.eq_of_mul_eq_mul_left hp (h1.trans ?_)
  split
  ·rfl
  ·exact (Int.mul_zero _).symm
def Bo (m:Nat) (f:Nat->Int):Bool:=decide (∀ a,a < 2 ^ m->cv m f a=if a=0 then ((2 ^ m:Nat):Int) * ((2 ^ m:Nat):Int) else 0)
theorem Mm {xs:List V} (h:1<=xs.length):BS xs (some 1) none=xs.drop 1:=by
 unfold BS
 have e2:HT.sIx xs.length 0 (some 1)=1:=by
  have:=HT.sIx_nat xs.length 0 1
  rw [show min 1 xs.length=1 by lia] at this
  exact this
 rw [e2,HT.sIx_none,List.take_of_length_le (by rw [List.length_drop];lia)]
theorem ND {m:Nat} {f:Nat->Int} (h0:cv m f 0=((2 ^ m:Nat):Int) * ((2 ^ m:Nat):Int)):(((List.range (2 ^ m - 1)).map fun j=>cv m f (j+1) == 0).all id)=Bo m f:=by
 unfold Bo
 rw [Bool.eq_iff_iff,List.all_eq_true,decide_eq_true_eq]
 constructor
 ·intro h a ha
  by_cases e:a=0
  ·subst e;rw [if_pos rfl];exact h0
  ·rw [if_neg e]
   have:=h _ (List.mem_map.mpr ⟨a - 1,List.mem_range.mpr (by lia),rfl⟩)
   rw [show a - 1+1=a by lia] at this
   exact eq_of_beq this
 ·intro h b hb
  obtain ⟨j,hj,rfl⟩:=List.mem_map.mp hb
  have hj:=List.mem_range.mp hj
  have:=h (j+1) (by lia)
  rw [if_neg (by lia)] at this
  show (cv m f (j+1) == 0)=true
  rw [this]
  rfl
def CZ (K:W.Frag):Sp:=fun vs H Q _=>match vs with
 | [x]=>∃ (m:Nat) (f:Nat->Int),SumAt K H x m (AH f (2 ^ m))/\m<=6/\(∀ j,Nb (f j) 60)/\∀ H',Same H H'->Q (.bl (Bo m f)) H'
 | _=>False
theorem Nu:AR (CZ K):=fun vs H Q Q' E h q=>by
 unfold CZ at *
 split at q
 ·revert q;repeat' first | exact h _ _ | exact BJ h | exact BC h | exact BL h | walk_at "m"
 ·exact q.elim
theorem Jp:FnOk P w K mg base CX0 5 T.f_z11 T.d_z11 ["one"] (CZ K):=by
 have G_z27:=Lp (P:=P) (w:=w) (base:=base) T;have G_z26:=IJ (P:=P) (w:=w) (base:=base) T
 refine T.F_z11.ok sc_z11 (fun vs H Q E h=>by unfold CZ at h;split at h <;> first | rfl | exact h.elim) (fun cdv A outer s H vs Q E hr h=>?_)
 have hu:=Ak hr
 have hr_z27:=hr.mono (show 4<=_ by decide);have hr_z26:=hr.mono (show 2<=_ by decide)
 unfold CZ at h
 split at h
 rotate_left
 ·exact h.elim
 rename_i x
 obtain ⟨m,f,S1,m6,hf,q⟩:=h
 have h64:2 ^ m<=64:=Nat.pow_le_pow_right (n:=2) (by decide) m6
 have h1:0 < 2 ^ m:=Nat.pow_pos (by decide)
 obtain ⟨a,b,us,rfl,ha,hb,hR⟩:=id S1.at_
 refine ⟨_,(@AF _ _ _ _ _ (@AO _ _ 1 _ _ _ _ sc_z11.nd rfl (by right) (AI G_z27 hr_z27 rfl T.m_z27 T.F_z27.kp T.b_z27 .nil AJ (AA (vv 0) (AA (vv 0) AC))) (by rfl) (by symm)) (@AL _ _ _ (@AZ _ _ _ _ (E4 (Bm (kEq (K:=K) hu) (kIx (K:=K) (vv 1) AB) (AI G_z26 hr_z26 rfl T.m_z26 T.F_z26.kp T.b_z26 .nil AJ (AA (AN A5 AB (kIx (K:=K) (vv 0) AB)) AC))) (FI (Ap (KH (K:=K) rfl) rfl T.z_all (by rfl) (AA (@BM _ _ _ _ _ _ _ ["product"] 1 [] _ _ _ _ rfl (DN (K:=K) (MK (K:=K) (vv 1) (JH AB) M0)) (by kernel_rfl) rfl rfl (by kernel_rfl) (fun c=>AQ (i:=0) (show (["product"]:List Str).Nodup by decide +kernel) rfl (by right)) (Ai (by decide)) (fun c=>A2) (fun c=>(Bm (kEq (K:=K) hu) (vv 0) AB)) (by intro _;rfl)) AC))))))),?_⟩
 refine ⟨m,f,f,S1,S1,m6,hf,hf,fun l H1 hl s1 g1=>?_⟩
 dsimp only [AS]
 refine ⟨_,.int (cv m f 0),.inl (.of g1),Hu h1,?_⟩
 refine ⟨_,.int m,.inr (Ax ha s1),rfl,.inr (.inl ⟨by decide,by decide⟩),2 * m,by lia,by lia,?_⟩
 have e4:((2 ^ (2 * m):Nat):Int)=((2 ^ m:Nat):Int) * ((2 ^ m:Nat):Int):=by
  rw [<- Int.natCast_mul,<- Nat.pow_add,Nat.two_mul]
 rw [e4]
 refine Af (fun e=>?_) (fun e=>?_)
 ·have e0:cv m f 0=((2 ^ m:Nat):Int) * ((2 ^ m:Nat):Int):=by
   have e:(false ^^ (cv m f 0 == ((2 ^ m:Nat):Int) * ((2 ^ m:Nat):Int)))=true:=e
   rw [Bool.false_xor] at e
   exact eq_of_beq e
  refine ⟨1,rfl,_,.inl ⟨.of g1,fun p1 hp1=>?_⟩⟩
  rw [Mm (by rw [ixL_len];exact h1)]
  have gp1:=AD (H:=H1) (a:=p1) (o:=.lst ((ixL (cv m f) (2 ^ m)).drop 1))
  have s2:=s1.trans (Same.upd (o:=.lst ((ixL (cv m f) (2 ^ m)).drop 1)) hp1)
  refine .inl ⟨⟨_,.of gp1⟩,?_⟩
  have xl:((ixL (cv m f) (2 ^ m)).drop 1).length=2 ^ m - 1:=by rw [List.length_drop,ixL_len]
  refine Im (xs:=(ixL (cv m f) (2 ^ m)).drop 1) (fun i ys H'=>H'=upd H1 p1 (.lst ((ixL (cv m f) (2 ^ m)).drop 1))/\ys=((List.range i).map fun j=>cv m f (j+1) == 0).map V.bl) ⟨rfl,rfl⟩ (fun i ys H' _ ⟨e,_⟩=>by rw [e];exact .of gp1) (fun i ys H' hi ⟨_,e⟩=>by
   rw [xl] at hi
   rw [e,List.length_map,List.length_map,List.length_range];exact Ad (by lia)) ?_ ?_
  ·rintro i x ys H' hx ⟨rfl,rfl⟩
   have hi:i < 2 ^ m - 1:=by have:=(List.getElem?_eq_some_iff.mp hx).1;rwa [xl] at this
   rw [List.getElem?_drop,DY (by lia)] at hx
   cases hx
   refine ⟨rfl,?_⟩
   rw [List.range_succ,List.map_append,List.map_append,Nat.add_comm 1 i]
   show _++[V.bl (false ^^ (cv m f (i+1) == 0))]=_
   rw [Bool.false_xor]
   rfl
  ·rintro ys H' ⟨rfl,rfl⟩ lp hlp
   rw [xl]
   refine ⟨_,.of AD,?_⟩
   rw [ND e0]
   exact q _ (s2.trans (Same.upd hlp))
 ·have e0:Bo m f=false:=by
   unfold Bo
   refine decide_eq_false fun z=>?_
   have:=z 0 h1
   rw [if_pos rfl] at this
   refine e ?_
   show (false ^^ (cv m f 0 == ((2 ^ m:Nat):Int) * ((2 ^ m:Nat):Int)))=true
   rw [this,Bool.false_xor]
   simp
  rw [<- e0]
  exact q H1 s1
theorem Ge {x c:Int} (h:0<=c):(x.natAbs:Int)=c ↔ x * x=c * c:=by
 constructor
 ·intro e
  rw [<- e,Int.natAbs_mul_self' x]
 ·intro e
  have h1:x.natAbs * x.natAbs=c.natAbs * c.natAbs:=by rw [<- Int.natAbs_mul,<- Int.natAbs_mul,e]
  have h2:x.natAbs=c.natAbs:=Nat.mul_self_inj.mp h1
  rw [h2]
  exact Int.natAbs_of_nonneg h
def C9 (K:W.Frag):Sp:=fun vs H Q _=>match vs with
 | [x]=>∃ (m:Nat) (f:Nat->Int),SumAt K H x m (AH f (2 ^ m))/\m<=6/\(∀ j,Nb (f j) 60)/\∀ H',Same H H'->Q (.bl (decide (∀ p,p < 2 ^ m->wt m f p * wt m f p=((2 ^ m:Nat):Int) * ((2 ^ m:Nat):Int)))) H'
 | _=>False
theorem KZ:AR (C9 K):=fun vs H Q Q' E h q=>by
 unfold C9 at *
 split at q
 ·revert q;repeat' first | exact h _ _ | exact BJ h | exact BC h | exact BL h | walk_at "m"
 ·exact q.elim
theorem NI:FnOk P w K mg base CX0 4 T.f_z12 T.d_z12 ["_law_whole"] (C9 K):=by
 have G_z23:=CU (P:=P) (w:=w) (base:=base) T;have G_z16:=Dk (P:=P) (w:=w) (base:=base) T
 refine T.F_z12.ok sc_z12 (fun vs H Q E h=>by unfold C9 at h;split at h <;> first | rfl | exact h.elim) (fun cdv A outer s H vs Q E hr h=>?_)
 have hu:=Ak hr
 have hr_z23:=hr.mono (show 1<=_ by decide);have hr_z16:=hr.mono (show 3<=_ by decide)
 unfold C9 at h
 split at h
 rotate_left
 ·exact h.elim
 rename_i x
 obtain ⟨m,f,S1,m6,hf,q⟩:=h
 have h64:2 ^ m<=64:=Nat.pow_le_pow_right (n:=2) (by decide) m6
 have h1:0 < 2 ^ m:=Nat.pow_pos (by decide)
 obtain ⟨a,b,us,rfl,ha,hb,hR⟩:=id S1.at_
 refine ⟨_,(@AF _ _ _ _ _ (@BH _ _ _ _ _ _ (vv 0) (Di (K:=K) (n:=2) rfl (As (AQ (i:=1) sc_z12.nd rfl (by right)) (As (AQ (i:=2) sc_z12.nd rfl (by right)) CG))) (by rfl) (by rfl) (by rfl)) (@AF _ _ _ _ _ (@BK _ _ _ _ _ _ _ _ PassesOwn.never rfl (Ar rfl T.z_range (AA (AI G_z23 hr_z23 rfl T.m_z23 T.F_z23.kp T.b_z23 .nil AJ (AA (vv 1) AC)) AC)) (AQ (i:=3) sc_z12.nd rfl (by right)) (@AL _ _ _ (@At _ _ _ _ _ _ _ _ (Al (kNe (K:=K) hu) (Ap JK rfl T.z_abs (by rfl) (AA (Ap (Ei (K:=K) rfl) rfl T.z_sum (by rfl) (AA (BM (N':=["_law_one","_law_weight","_law_n","_law_place"]) (own:=2) (ix:=[1,3]) rfl (DN (K:=K) (vv 2)) (by kernel_rfl) rfl rfl (by kernel_rfl) (fun c=>Dd (K:=K) (n:=2) rfl (As (AQ (i:=0) (show (["_law_one","_law_weight","_law_n","_law_place"]:List Str).Nodup by decide +kernel) rfl (by right)) (As (AQ (i:=1) (show (["_law_one","_law_weight","_law_n","_law_place"]:List Str).Nodup by decide +kernel) rfl (by right)) CG))) (Dm (B3 A9 (DR A9 Bu) (Ai (by decide)) (B3 A9 Bu (Ai (by decide)) Dy))) (fun c=>A2) (fun c=>(AN A5 (vv 1) (AI G_z16 hr_z16 rfl T.m_z16 T.F_z16.kp T.b_z16 .nil AJ (AA (vv 2) (AA (vv 0) (AA (vv 3) AC))))))) AC)) AC)) (AI G_z23 hr_z23 rfl T.m_z23 T.F_z23.kp T.b_z23 .nil AJ (AA (vv 1) AC))) (@AL _ _ _ (@AZ _ _ _ _ DH)) Au)) (by intro _;rfl)) (@AL _ _ _ (@AZ _ _ _ _ DH)))),?_⟩
 refine ⟨_,.inr ha,rfl,_,_,rfl,_,_,rfl,rfl,?_⟩
 dsimp only [AS]
 have mo1:AR (Bj K):=EJ
 have mo2:AR BQ:=DO
 refine Ae (fun σ H'=>∃ z3:Option V,σ=[some (.ref a),some (.int m),some (.ref b),z3]/\Same H H'/\∀ p,p < 2 ^ m->wt m f p * wt m f p=((2 ^ m:Nat):Int) * ((2 ^ m:Nat):Int)) ?_ ?_ (by walk_at "sm")
 ·have e2:(2:Int) ^ ((m:Int).toNat)=((2 ^ m:Nat):Int):=by rw [Int.toNat_natCast,Int.natCast_pow];rfl
  have h62:((2 ^ m:Nat):Int)<=64:=Int.ofNat_le.mpr h64
  refine ⟨by lia,by lia,fun H1 s1=>?_⟩
  rw [e2]
  refine ⟨_,rfl,by lia,by lia,?_⟩
  refine Bc (fun i σ H'=>∃ z3:Option V,σ=[some (.ref a),some (.int m),some (.ref b),z3]/\Same H H'/\∀ p,p < i->wt m f p * wt m f p=((2 ^ m:Nat):Int) * ((2 ^ m:Nat):Int)) ⟨_,rfl,s1,fun p hp=>by lia⟩ ?_ ?_
  ·rintro i σ H2 hi ⟨z3,rfl,s2,hall⟩
   have hi:i < 2 ^ m:=by lia
   rw [show (0:Int)+(i:Int)=(i:Int) from Int.zero_add _]
   have hul:us.length=(AH f (2 ^ m)).length:=by have:=hR.length;rw [List.length_map] at this;lia
   have htl:=Dr f (2 ^ m)
   have hmem:=fun {t} (h:t∈AH f (2 ^ m))=>Bh h
   have esum:((AH f (2 ^ m)).map fun t=>t.2 * sgL m t.1 i).sum=wt m f i:=by
    rw [Ez f (fun j=>sgL m j i)]
    refine Ac fun j _=>?_
    rw [Ee,Bl m j i,Int.mul_comm]
   have hbs:=Ax hb s2
   have hRs:=Reps.same s2 _ _ hR
   generalize AH f (2 ^ m)=ts at *
   dsimp only [AS]
   refine .inr ⟨⟨_,hbs⟩,?_⟩
   refine Hv (xs:=us) (fun j ys H'=>Same H2 H'/\ys=((ts.take j).map fun t=>t.2 * sgL m t.1 i).map V.int) ⟨Same.refl _,rfl⟩ (fun j ys H' _ ⟨e,_⟩=>Ax hbs e) (fun j ys H' hj ⟨_,e⟩=>by
    rw [e,List.length_map,List.length_map,List.length_take];exact Ad (by lia)) ?_ ?_
   ·rintro j x ys H' hx ⟨sj,rfl⟩
    obtain ⟨⟨k,wgt⟩,c,hq,rfl,hc⟩:=Do (Reps.same sj _ _ hRs) hx
    obtain ⟨hk,hw,_⟩:=hmem (List.mem_of_getElem? hq)
    have hw:wgt=f k:=hw
    have nw:Nb wgt 60:=by rw [hw];exact hf k
    have ns:Nb (sgL m k i) 60:=by unfold sgL;split <;> (unfold Nb;decide)
    refine ⟨c,_,rfl,hc,rfl,_,_,rfl,_,_,rfl,rfl,m,k,i,rfl,rfl,rfl,m6,fun H4 s4=>⟨Nb.okMul (nw.up (by decide)) (ns.up (by decide)),sj.trans s4,?_⟩⟩
    rw [List.take_add_one,hq,List.map_append,List.map_append]
    rfl
   ·rintro ys H' ⟨sj,rfl⟩ lp hlp
    rw [List.take_of_length_le (by lia)]
    refine ⟨_,.of AD,?_⟩
    rw [esum]
    have s5':=s2.trans (sj.trans (Same.upd (o:=.lst ((ts.map fun t=>t.2 * sgL m t.1 i).map V.int)) hlp))
    refine ⟨by lia,by lia,fun H5 s5=>?_⟩
    rw [e2]
    have c0:(0:Int)<=((2 ^ m:Nat):Int):=Int.natCast_nonneg _
    refine Af (fun e=>?_) (fun e=>?_)
    ·have hne:¬ ((wt m f i).natAbs:Int)=((2 ^ m:Nat):Int):=fun z=>by
      have e:(true ^^ (((wt m f i).natAbs:Int) == ((2 ^ m:Nat):Int)))=true:=e
      rw [z] at e
      simp at e
     have:=q H5 (s5'.trans s5)
     rw [decide_eq_false (fun z=>hne ((Ge c0).mpr (z i hi)))] at this
     exact this
    ·have heq:((wt m f i).natAbs:Int)=((2 ^ m:Nat):Int):=Decidable.byContradiction fun z=>e (by
      show (true ^^ (((wt m f i).natAbs:Int) == ((2 ^ m:Nat):Int)))=true
      rw [beq_eq_false_iff_ne.mpr z]
      rfl)
     refine ⟨_,rfl,s5'.trans s5,fun p hp=>?_⟩
     rcases Nat.lt_or_ge p i with z | z
     ·exact hall p z
     ·have:p=i:=by lia
      subst this
      exact (Ge c0).mp heq
  ·rintro σ H2 ⟨z3,rfl,s2,hall⟩
   rw [Int.toNat_natCast] at hall
   exact ⟨z3,rfl,s2,hall⟩
 ·rintro σ H1 ⟨z3,rfl,s1,hall⟩
  have:=q H1 s1
  rw [decide_eq_true hall] at this
  exact this
def Cs (K:W.Frag):Sp:=fun vs H Q _=>match vs with
 | [.ref t,.int k]=>∃ a ns,Tape K H t a ns/\0<=k/\∀ (n:Nat) H',1<=n->n<=6->Tape K H' t a ns->Frm t H H'->Q (.int n) H'
 | _=>False
theorem J1:AR (Cs K):=fun vs H Q Q' E h q=>by
 unfold Cs at *
 split at q
 ·revert q;repeat' first | exact h _ _ | exact BJ h | exact BC h | exact BL h | walk_at "m"
 ·exact q.elim
theorem JJ {xs:List V} {d:Int} (h:xs=[.int 1,.int 2,.int 3,.int 3,.int 4,.int 4,.int 5,.int 6]\/xs=[.int 1,.int 2,.int 2,.int 3,.int 3,.int 4,.int 4,.int 4]) (d0:0<=d) (d1:d < 8):∃ b:Nat,atI xs d=some (.int (b:Nat))/\1<=b/\b<=6:=by
 have:d=0\/d=1\/d=2\/d=3\/d=4\/d=5\/d=6\/d=7:=by lia
 rcases h with e | e <;> subst e <;> rcases this with e | e | e | e | e | e | e | e <;> subst e
 ·exact ⟨1,rfl,by decide,by decide⟩
 ·exact ⟨2,rfl,by decide,by decide⟩
 ·exact ⟨3,rfl,by decide,by decide⟩
 ·exact ⟨3,rfl,by decide,by decide⟩
 ·exact ⟨4,rfl,by decide,by decide⟩
 ·exact ⟨4,rfl,by decide,by decide⟩
 ·exact ⟨5,rfl,by decide,by decide⟩
 ·exact ⟨6,rfl,by decide,by decide⟩
 ·exact ⟨1,rfl,by decide,by decide⟩
 ·exact ⟨2,rfl,by decide,by decide⟩
 ·exact ⟨2,rfl,by decide,by decide⟩
 ·exact ⟨3,rfl,by decide,by decide⟩
 ·exact ⟨3,rfl,by decide,by decide⟩
 ·exact ⟨4,rfl,by decide,by decide⟩
 ·exact ⟨4,rfl,by decide,by decide⟩
 ·exact ⟨4,rfl,by decide,by decide⟩
theorem Ic:FnOk P w K mg base CX0 2 T.f_z18 T.d_z18 ["_law_tape_here","_law_turn"] (Cs K):=by
 have G_z15:=DL (P:=P) (w:=w) (base:=base) T
 refine T.F_z18.ok sc_z18 (fun vs H Q E h=>by unfold Cs at h;split at h <;> first | rfl | exact h.elim) (fun cdv A outer s H vs Q E hr h=>?_)
 have hu:=Ak hr
 have hr_z15:=hr.mono (show 1<=_ by decide)
 unfold Cs at h
 split at h
 rotate_left
 ·exact h.elim
 rename_i t k
 obtain ⟨a,ns,TP,k0,q⟩:=h
 refine ⟨_,(@AF _ _ _ _ _ (@LR _ _ 2 _ _ _ _ sc_z18.nd rfl (by right) (@kIx _ K _ _ _ _ _ (@A3 _ _ _ _ (@AA _ _ _ _ _ (@A3 _ _ _ _ (@AA _ _ _ _ _ AB (@AA _ _ _ _ _ AB (@AA _ _ _ _ _ AB (@AA _ _ _ _ _ AB (@AA _ _ _ _ _ AB (@AA _ _ _ _ _ AB (@AA _ _ _ _ _ AB (@pa1 _ _ _ AB (by rfl)) (by rfl)) (by rfl)) (by rfl)) (by rfl)) (by rfl)) (by rfl)) (by rfl))) (@AA _ _ _ _ _ (@A3 _ _ _ _ (@AA _ _ _ _ _ AB (@AA _ _ _ _ _ AB (@AA _ _ _ _ _ AB (@AA _ _ _ _ _ AB (@AA _ _ _ _ _ AB (@AA _ _ _ _ _ AB (@AA _ _ _ _ _ AB (@pa1 _ _ _ AB (by rfl)) (by rfl)) (by rfl)) (by rfl)) (by rfl)) (by rfl)) (by rfl)) (by rfl))) (@AC _) L2.star_lst) L2.star_lst)) (Ap (GR rfl) rfl T.z_min (by rfl) (AA (vv 1) (AA AB AC))) (by intro _ _;rfl) (by rfl)) rfl (by first | exact .inl rfl | exact .inr rfl)) (@AL _ _ _ (@AZ _ _ _ _ (kIx (K:=K) (vv 2) (AI G_z15 hr_z15 rfl T.m_z15 T.F_z15.kp T.b_z15 .nil AJ (AA (vv 0) (AA AB AC))))))),?_⟩
 refine Ae (fun σ H'=>∃ (pj:Addr) (xs:List V),σ=[some (.ref t),some (.int k),some (.ref pj)]/\Same H H'/\pj≠t/\H' pj=some (.lst xs)/\(xs=[.int 1,.int 2,.int 3,.int 3,.int 4,.int 4,.int 5,.int 6]\/xs=[.int 1,.int 2,.int 2,.int 3,.int 3,.int 4,.int 4,.int 4])) ?_ ?_ (by walk_at "sm")
 ·refine ⟨AT (show 8<=1000 by decide),fun p1 h1=>?_⟩
  have s1:=Same.upd (o:=.lst [.int 1,.int 2,.int 3,.int 3,.int 4,.int 4,.int 5,.int 6]) h1
  have g1:=AD (H:=H) (a:=p1) (o:=.lst [.int 1,.int 2,.int 3,.int 3,.int 4,.int 4,.int 5,.int 6])
  have n1:=TP.neT h1
  generalize upd H p1 (.lst [.int 1,.int 2,.int 3,.int 3,.int 4,.int 4,.int 5,.int 6])=H1 at *
  refine ⟨AT (show 8<=1000 by decide),fun p2 h2=>?_⟩
  have s2:=Same.upd (o:=.lst [.int 1,.int 2,.int 2,.int 3,.int 3,.int 4,.int 4,.int 4]) h2
  have g2:=AD (H:=H1) (a:=p2) (o:=.lst [.int 1,.int 2,.int 2,.int 3,.int 3,.int 4,.int 4,.int 4])
  have n2:=TP.neT (s1.free h2)
  generalize upd H1 p2 (.lst [.int 1,.int 2,.int 2,.int 3,.int 3,.int 4,.int 4,.int 4])=H2 at *
  refine ⟨AT (show 2<=1000 by decide),fun p3 h3=>?_⟩
  have s3:=Same.upd (o:=.lst [.ref p1,.ref p2]) h3
  have g3:=AD (H:=H2) (a:=p3) (o:=.lst [.ref p1,.ref p2])
  generalize upd H2 p3 (.lst [.ref p1,.ref p2])=H3 at *
  have hm:min k 1=0\/min k 1=1:=by lia
  have hat:atI [V.ref p1,.ref p2] (min k 1)=some (.ref p1)\/atI [V.ref p1,.ref p2] (min k 1)=some (.ref p2):=by
   rcases hm with e | e <;> rw [e]
   ·exact .inl rfl
   ·exact .inr rfl
  rcases hat with e | e
  ·exact ⟨_,.ref p1,.inl (.of g3),e,p1,_,rfl,s1.trans (s2.trans s3),n1,s3 _ _ (s2 _ _ g1),.inl rfl⟩
  ·exact ⟨_,.ref p2,.inl (.of g3),e,p2,_,rfl,s1.trans (s2.trans s3),n2,s3 _ _ g2,.inr rfl⟩
 rintro σ H1 ⟨pj,xs,rfl,s1,npj,g1,hxs⟩
 refine ⟨a,ns,TP.same s1,A7 (by decide) (by decide),fun d H2 d0 d1 T2 f2=>?_⟩
 obtain ⟨b,hb,b0,b1⟩:=JJ hxs d0 d1
 exact ⟨_,_,.inl (.of (by rw [f2 pj npj];exact g1)),hb,q b H2 b0 b1 T2 (s1.frm.trans (Mb f2))⟩
def atP (ps:List (Int × Int)) (j:Nat):Int:=((ps.find? fun q=>q.1 == (j:Int)).map (·.2)).getD 0
theorem JL {ps:List (Int × Int)} (nd:(ps.map (·.1)).Nodup) {x v:Int} (h:(x,v)∈ps) {j:Nat} (e:x=(j:Int)):atP ps j=v:=by
 subst e
 unfold atP
 induction ps with
 | nil=>cases h
 | cons r l ih =>
  rw [List.map_cons,List.nodup_cons] at nd
  rw [List.find?_cons]
  by_cases e:r.1=(j:Int)
  ·rw [beq_iff_eq.mpr e]
   rcases List.mem_cons.mp h with h | h
   ·rw [<- h];rfl
   ·exact absurd (by rw [e];exact List.mem_map_of_mem (f:=(·.1)) h) nd.1
  ·rw [beq_eq_false_iff_ne.mpr e]
   rcases List.mem_cons.mp h with h | h
   ·exact absurd (by rw [<- h]) e
   ·exact ih nd.2 h
theorem HY {ps:List (Int × Int)} {j:Nat} (h:atP ps j≠0):((j:Int),atP ps j)∈ps:=by
 unfold atP at *
 cases e:ps.find? fun q=>q.1 == (j:Int) with
 | none=>rw [e] at h;exact absurd rfl h
 | some q =>
  have h1:=List.find?_some e
  have h2:=List.mem_of_find?_eq_some e
  have h3:q.1=(j:Int):=eq_of_beq h1
  show ((j:Int),q.2)∈ps
  rw [<- h3]
  exact h2
theorem Db {ps:List (Int × Int)} (nd:(ps.map (·.1)).Nodup) {x v:Int} (h:(x,v)∈ps):An (ps.map fun q=>((Sum.inl q.1:Key),V.int q.2)) (.inl x)=some (.int v):=by
 induction ps with
 | nil=>cases h
 | cons r l ih =>
  rw [List.map_cons,List.nodup_cons] at nd
  unfold An
  rw [List.map_cons,List.find?_cons]
  by_cases e:r.1=x
  ·have hd:decide ((Sum.inl r.1:Key)=.inl x)=true:=decide_eq_true (by rw [e])
   rw [hd]
   rcases List.mem_cons.mp h with h | h
   ·rw [<- h];rfl
   ·exact absurd (by rw [e];exact List.mem_map_of_mem (f:=(·.1)) h) nd.1
  ·have hd:decide ((Sum.inl r.1:Key)=.inl x)=false:=decide_eq_false (fun z=>e (Sum.inl.inj z))
   rw [hd]
   rcases List.mem_cons.mp h with h | h
   ·exact absurd (by rw [<- h]) e
   ·exact ih nd.2 h
theorem Df (g:Nat->Int):∀ n,((AH g n).map (·.1)).Pairwise (· < ·)
 | 0=>.nil
 | n+1=>by
  show ((AH g n++(if g n=0 then [] else [(n,g n)])).map (·.1)).Pairwise (· < ·)
  rw [List.map_append,List.pairwise_append]
  refine ⟨Df g n,by split <;> simp,fun x hx y hy=>?_⟩
  obtain ⟨q,hq,rfl⟩:=List.mem_map.mp hx
  have:=(Bh hq).1
  split at hy
  ·cases hy
  ·have:y=n:=by simpa using hy
   lia
theorem D8 {g:Nat->Int} {n j:Nat} (hj:j < n) (h:g j≠0):(j,g j)∈AH g n:=by
 induction n with
 | zero=>lia
 | succ n ih =>
  show _∈AH g n++(if g n=0 then [] else [(n,g n)])
  rcases Nat.lt_or_ge j n with z | z
  ·exact List.mem_append_left _ (ih z)
  ·have:j=n:=by lia
   subst this
   rw [if_neg h]
   exact List.mem_append_right _ (List.mem_singleton.mpr rfl)
theorem Gr {α:Type} (key:α->Int):∀ {l r:List α},l.Perm r->l.Pairwise (fun a b=>key a < key b)->r.Pairwise (fun a b=>key a < key b)->l=r
 | [],r,h,_,_=>h.nil_eq
 | a::l,[],h,_,_=>absurd h.length_eq (by simp)
 | a::l,b::r,h,p1,p2=>by
  have e:a=b:=by
   rcases List.mem_cons.mp (h.mem_iff.mp List.mem_cons_self) with z | z
   ·exact z
   ·rcases List.mem_cons.mp (h.mem_iff.mpr (List.mem_cons_self (a:=b) (l:=r))) with y | y
    ·exact y.symm
    ·have h1:=(List.pairwise_cons.mp p2).1 a z
     have h2:=(List.pairwise_cons.mp p1).1 b y
     lia
  subst e
  rw [Gr key h.cons_inv (List.pairwise_cons.mp p1).2 (List.pairwise_cons.mp p2).2]
theorem IW {ps:List (Int × Int)} {m:Nat} (nd:(ps.map (·.1)).Nodup) (hin:∀ q∈ps,0<=q.1/\q.1 < ((2 ^ m:Nat):Int)) {rs:List (Int × Int)} (hp:rs.Perm (ps.filter fun q=>decide (q.2≠0))) (hs:(rs.map (·.1)).Pairwise (· < ·)):rs=(AH (atP ps) (2 ^ m)).map fun t=>((t.1:Int),t.2):=by
 have r1:rs.Pairwise (fun a b=>a.1 < b.1):=by rw [List.pairwise_map] at hs;exact hs
 have r2:((AH (atP ps) (2 ^ m)).map fun t=>((t.1:Int),t.2)).Pairwise (fun a b=>a.1 < b.1):=by
  have:=Df (atP ps) (2 ^ m)
  rw [List.pairwise_map] at this ⊢
  exact this.imp fun h=>Int.ofNat_lt.mpr h
 have ir:∀ {l:List (Int × Int)},l.Pairwise (fun a b=>a.1 < b.1)->l.Nodup:=fun h=>h.imp fun h z=>by rw [z] at h;exact Int.lt_irrefl _ h
 refine Gr (fun q=>q.1) ((List.perm_ext_iff_of_nodup (ir r1) (ir r2)).mpr fun q=>?_) r1 r2
 rw [hp.mem_iff,List.mem_filter,List.mem_map]
 constructor
 ·rintro ⟨h1,h2⟩
  have h2:=of_decide_eq_true h2
  obtain ⟨h3,h4⟩:=hin q h1
  obtain ⟨j,hj⟩:=Int.eq_ofNat_of_zero_le h3
  have e:=JL nd (x:=q.1) (v:=q.2) h1 hj
  refine ⟨(j,q.2),?_,by rw [<- hj]⟩
  rw [<- e] at h2 ⊢
  exact D8 (by lia) h2
 ·rintro ⟨t,ht,rfl⟩
  obtain ⟨h1,h2,h3⟩:=Bh ht
  refine ⟨?_,decide_eq_true h3⟩
  have:=HY (ps:=ps) (j:=t.1) (by rw [<- h2];exact h3)
  rw [h2]
  exact this
def vI:V->Int
 | .int z=>z
 | _=>0
theorem HW {H:Hp}:∀ {rs:List (Int × Addr × V)} {ts:List (Nat × Int)},(rs.map fun q=>(q.1,vI q.2.2))=(ts.map fun t=>((t.1:Int),t.2))->(∀ q∈rs,q.2.2=.int (vI q.2.2)/\H q.2.1=some (.tup [.int q.1,q.2.2]))->Reps K H (ts.map BA) ((rs.map fun q=>q.2.1).map V.ref)
 | [],[],_,_=>BN
 | [],_::_,h,_=>by cases h
 | _::_,[],h,_=>by cases h
 | r::rs,t::ts,h,g=>by
  rw [List.map_cons,List.map_cons] at h
  injection h with h1 h2
  injection h1 with h3 h4
  obtain ⟨g1,g2⟩:=g r List.mem_cons_self
  rw [g1,h3,h4] at g2
  exact A1 (DV g2 (A1 CB (A1 CB BN))) (HW h2 fun q hq=>g q (List.mem_cons_of_mem _ hq))
def CN (K:W.Frag):Sp:=fun vs H Q _=>match vs with
 | [.int z,.ref d]=>∃ (m:Nat) (ps:List (Int × Int)),z=m/\m<=6/\H d=some (.dK (ps.map fun q=>(Sum.inl q.1,V.int q.2)))/\(ps.map (·.1)).Nodup/\ps.length<=64/\(∀ q∈ps,0<=q.1/\q.1 < ((2 ^ m:Nat):Int))/\∀ v H',(∀ b o,b≠d->H b=some o->H' b=some o)->SumAt K H' v m (AH (atP ps) (2 ^ m))->Q v H'
 | _=>False
theorem Gd:AR (CN K):=fun vs H Q Q' E h q=>by
 unfold CN at *
 split at q
 ·revert q;repeat' first | exact h _ _ | exact BJ h | exact BC h | exact BL h | walk_at "m"
 ·exact q.elim
theorem Gc:FnOk P w K mg base CX0 1 T.f_z22 T.d_z22 ["_law_n","_law_weights"] (CN K):=by
 refine T.F_z22.ok M3 (fun vs H Q E h=>by unfold CN at h;split at h <;> first | rfl | exact h.elim) (fun cdv A outer s H vs Q E hr h=>?_)
 have hu:=Ak hr
 unfold CN at h
 split at h
 rotate_left
 ·exact h.elim
 rename_i z d
 obtain ⟨m,ps,e1,m6,gd,nd,hpl,hin,q⟩:=h
 subst e1
 have h64:2 ^ m<=64:=Nat.pow_le_pow_right (n:=2) (by decide) m6
 refine ⟨_,(@AL _ _ _ (@AZ _ _ _ _ (BY (AA (vv 0) (AA (Ba (DJ (K:=K)) rfl T.z_tuple (by rfl) (AA (Ap J5 rfl T.z_sorted (by rfl) (AA (BM (N':=["_law_one","_law_weights"]) (own:=1) (ix:=[1]) rfl (Ew (vv 1)) (by kernel_rfl) rfl rfl (by kernel_rfl) (fun c=>AQ (i:=0) (show (["_law_one","_law_weights"]:List Str).Nodup by decide +kernel) rfl (by right)) (Ai (by decide)) (fun c=>MX (Al (kNe (K:=K) hu) (Cd (Ay hu) (vv 1) (vv 0) (by intro _ _;rfl)) AB)) (fun c=>(BY (AA (vv 0) (AA (Cd (Ay hu) (vv 1) (vv 0) (by intro _ _;rfl)) AC))))) AC)) AC)) AC))))),?_⟩
 refine .inl ⟨_,gd,fun o=>?_⟩
 have f0:∀ b o',b≠d->H b=some o'->upd H d (.frz o (.dK (ps.map fun q=>((Sum.inl q.1:Key),V.int q.2)))) b=some o':=fun b o' hb e=>by rw [AG hb];exact e
 refine Fd (kvs:=ps.map fun q=>((Sum.inl q.1:Key),V.int q.2)) (fun k ys H'=>(∀ b o',b≠d->H b=some o'->H' b=some o')/\H' d=some (.frz o (.dK (ps.map fun q=>((Sum.inl q.1:Key),V.int q.2))))/\∃ qs:List (Int × Addr × V),ys=(qs.map fun q=>q.2.1).map V.ref/\(qs.map fun q=>(q.1,q.2.2))=((ps.take k).filter fun q=>decide (q.2≠0)).map (fun q=>(q.1,V.int q.2))/\∀ q∈qs,H' q.2.1=some (.tup [.int q.1,q.2.2])) ⟨f0,AD,[],rfl,rfl,fun q hq=>by cases hq⟩ (fun k ys H' _ ⟨_,g,_⟩=>g) (fun k ys H' hk ⟨_,_,qs,e,e2,_⟩=>by
  have h1:=congrArg List.length e2
  rw [List.length_map,List.length_map] at h1
  have h2:=List.length_filter_le (fun q:Int × Int=>decide (q.2≠0)) (ps.take k)
  rw [List.length_take] at h2
  rw [e,List.length_map,List.length_map];exact Ad (by lia)) ?_ ?_
 ·rintro k r ys H' hr' ⟨fk,gdk,qs,rfl,hq,hT⟩
  obtain ⟨⟨x,v⟩,hx,rfl⟩:∃ y,ps[k]? = some y/\r=(.inl y.1,.int y.2):=by
   rw [List.getElem?_map] at hr'
   cases e:ps[k]? with
   | none=>rw [e] at hr';cases hr'
   | some y=>rw [e] at hr';cases hr';exact ⟨y,rfl,rfl⟩
  have hxm:(x,v)∈ps:=List.mem_of_getElem? hx
  have dg:DGet H' d (.int x) (some (.int v)):=.inl ⟨_,.inl x,.inr ⟨o,gdk⟩,rfl,(Db nd hxm).symm⟩
  refine ⟨d,.int v,rfl,dg,?_⟩
  have htk:(ps.take (k+1)).filter (fun q=>decide (q.2≠0))=(ps.take k).filter (fun q=>decide (q.2≠0))++(if v≠0 then [(x,v)] else []):=by
   rw [List.take_add_one,hx,List.filter_append]
   congr 1
   by_cases h:v≠0
   ·rw [if_pos h]
    show List.filter _ [(x,v)]=_
    rw [List.filter_cons_of_pos (by simpa using h)]
    rfl
   ·rw [if_neg h]
    show List.filter _ [(x,v)]=_
    rw [List.filter_cons_of_neg (by simpa using h)]
    rfl
  rw [htk]
  refine Af (fun e=>?_) (fun e=>?_)
  ·have e':v≠0:=fun z=>by
    have e:(true ^^ (v == 0))=true:=e
    rw [z] at e
    simp at e
   refine ⟨d,.int v,rfl,dg,AT (show 2<=1000 by decide),fun p hp=>?_⟩
   have sp:=Same.upd (o:=.tup [.int x,.int v]) hp
   refine ⟨fun b o' hb e=>sp _ _ (fk b o' hb e),sp _ _ gdk,qs++[(x,p,.int v)],by rw [List.map_append,List.map_append];rfl,by rw [if_pos e',List.map_append,List.map_append,hq];rfl,fun q hq'=>?_⟩
   rcases List.mem_append.mp hq' with h | h
   ·exact sp _ _ (hT q h)
   ·rw [List.mem_singleton] at h
    subst h
    exact AD
  ·have e':¬ v≠0:=fun z=>e (by
    show (true ^^ (v == 0))=true
    rw [beq_eq_false_iff_ne.mpr z]
    rfl)
   refine ⟨fk,gdk,qs,rfl,by rw [if_neg e',List.append_nil];exact hq,hT⟩
 ·rintro ys H' ⟨fk,gdk,qs,rfl,hq,hT⟩ lp hlp
  rw [List.length_map,List.take_of_length_le (Nat.le_refl _)] at hq
  have hkeys:(qs.map fun q=>q.1)=(ps.filter fun q=>decide (q.2≠0)).map (·.1):=by
   have:=congrArg (List.map Prod.fst) hq
   rw [List.map_map,List.map_map] at this
   exact this
  have hnd:(qs.map fun q=>q.1).Nodup:=by
   rw [hkeys]
   exact nd.sublist (List.filter_sublist.map _)
  have hql:qs.length<=64:=by
   have h1:=congrArg List.length hq
   rw [List.length_map,List.length_map] at h1
   have h2:=List.length_filter_le (fun q:Int × Int=>decide (q.2≠0)) ps
   lia
  have sl:=Same.upd (o:=.lst ((qs.map fun q=>q.2.1).map V.ref)) hlp
  refine ⟨qs,AD,fun q hq'=>sl _ _ (hT q hq'),hnd,hql,fun rs p1 pr srt hp1=>?_⟩
  have s2:=sl.trans (Same.upd (o:=.lst ((rs.map fun q=>q.2.1).map V.ref)) hp1)
  refine ⟨_,.inl ⟨.of AD,fun p2 hp2=>?_⟩⟩
  have s3:=s2.trans (Same.upd (o:=.tup ((rs.map fun q=>q.2.1).map V.ref)) hp2)
  refine ⟨AT (show 2<=1000 by decide),fun p3 hp3=>?_⟩
  have s4:=s3.trans (Same.upd (o:=.tup [.int m,.ref p2]) hp3)
  refine q _ _ (fun b o' hb e=>s4 _ _ (fk b o' hb e)) ⟨p3,p2,_,rfl,.of AD,.of (Same.upd hp3 _ _ AD),?_⟩
  have hint:∀ q∈rs,q.2.2=.int (vI q.2.2):=fun q hq'=>by
   have h1:(q.1,q.2.2)∈qs.map fun q=>(q.1,q.2.2):=List.mem_map_of_mem (f:=fun q:Int × Addr × V=>(q.1,q.2.2)) (pr.mem_iff.mp hq')
   rw [hq] at h1
   obtain ⟨y,_,e⟩:=List.mem_map.mp h1
   have:q.2.2=.int y.2:=(congrArg Prod.snd e).symm
   rw [this]
   rfl
  have hper:(rs.map fun q=>(q.1,vI q.2.2)).Perm (ps.filter fun q=>decide (q.2≠0)):=by
   refine (pr.map _).trans ?_
   have e:(qs.map fun q=>(q.1,vI q.2.2))=ps.filter fun q=>decide (q.2≠0):=by
    have:=congrArg (List.map fun q:Int × V=>(q.1,vI q.2)) hq
    rw [List.map_map,List.map_map] at this
    have e2:(ps.filter fun q=>decide (q.2≠0)).map id=ps.filter fun q=>decide (q.2≠0):=List.map_id _
    refine Eq.trans this (Eq.trans ?_ e2)
    exact List.map_congr_left fun q _=>rfl
   rw [e]
  have hts:=IW nd hin hper (by rw [List.map_map];exact srt)
  exact HW hts fun q hq'=>⟨hint q hq',s4 _ _ (hT q (pr.mem_iff.mp hq'))⟩
structure WtOk (m:Nat) (ps:List (Int × Int)):Prop where
 nd:(ps.map (·.1)).Nodup
 rg:∀ q∈ps,0<=q.1/\q.1 < ((2 ^ m:Nat):Int)
 nb:∀ q∈ps,Nb q.2 60
abbrev dkW (ps:List (Int × Int)):List (Key × V):=ps.map fun q=>(Sum.inl q.1,V.int q.2)
theorem WtOk.put {m:Nat} {ps:List (Int × Int)} (h:WtOk m ps) {k x:Int} (k0:0<=k) (k1:k < ((2 ^ m:Nat):Int)) (nx:Nb x 60):∃ qs,A0 (dkW ps) (Sum.inl k) (.int x)=dkW qs/\WtOk m qs/\qs.length<=ps.length+1/\∀ q∈qs,q∈ps\/q=(k,x):=by
 unfold A0
 split
 ·refine ⟨ps.map fun q=>if q.1=k then (q.1,x) else q,?_,?_,by rw [List.length_map];lia,fun q hq=>?_⟩
  ·unfold dkW
   rw [List.map_map,List.map_map]
   refine List.map_congr_left fun q _=>?_
   show (if (Sum.inl q.1:Key)=Sum.inl k then _ else _)=((Sum.inl (if q.1=k then (q.1,x) else q).1:Key),V.int (if q.1=k then (q.1,x) else q).2)
   by_cases e:q.1=k
   ·rw [if_pos (by rw [e]),if_pos e]
   ·rw [if_neg (fun z=>e (by injection z)),if_neg e]
  ·have hm:∀ q∈ps.map fun q=>if q.1=k then (q.1,x) else q,q∈ps\/q=(k,x):=fun q hq=>by
    obtain ⟨r,hr,rfl⟩:=List.mem_map.mp hq
    by_cases e:r.1=k
    ·rw [if_pos e,e];exact .inr rfl
    ·rw [if_neg e];exact .inl hr
   refine ⟨?_,fun q hq=>?_,fun q hq=>?_⟩
   ·rw [List.map_map]
    have e:ps.map ((·.1) ∘ fun q=>if q.1=k then (q.1,x) else q)=ps.map (·.1):=List.map_congr_left fun q _=>by
     show (if q.1=k then (q.1,x) else q).1=q.1
     split <;> rfl
    rw [e]
    exact h.nd
   ·rcases hm q hq with z | z
    ·exact h.rg q z
    ·rw [z];exact ⟨k0,k1⟩
   ·rcases hm q hq with z | z
    ·exact h.nb q z
    ·rw [z];exact nx
  ·obtain ⟨r,hr,rfl⟩:=List.mem_map.mp hq
   by_cases e:r.1=k
   ·rw [if_pos e,e];exact .inr rfl
   ·rw [if_neg e];exact .inl hr
 ·rename_i hn
  have hk:k∉ps.map (·.1):=fun z=>hn (by
   obtain ⟨q,hq,e⟩:=List.mem_map.mp z
   rw [List.any_eq_true]
   exact ⟨(Sum.inl q.1,V.int q.2),List.mem_map_of_mem (f:=fun q:Int × Int=>((Sum.inl q.1:Key),V.int q.2)) hq,decide_eq_true (by have e:q.1=k:=e;rw [e])⟩)
  refine ⟨ps++[(k,x)],by unfold dkW;rw [List.map_append];rfl,⟨?_,fun q hq=>?_,fun q hq=>?_⟩,by rw [List.length_append];exact Nat.le_refl _,fun q hq=>?_⟩
  ·rw [List.map_append,List.nodup_append]
   refine ⟨h.nd,by simp,fun a ha b hb e=>?_⟩
   have:b=k:=by simpa using hb
   subst this
   exact hk (e ▸ ha)
  ·rcases List.mem_append.mp hq with z | z
   ·exact h.rg q z
   ·rw [List.mem_singleton.mp z];exact ⟨k0,k1⟩
  ·rcases List.mem_append.mp hq with z | z
   ·exact h.nb q z
   ·rw [List.mem_singleton.mp z];exact nx
  ·rcases List.mem_append.mp hq with z | z
   ·exact .inl z
   ·exact .inr (List.mem_singleton.mp z)
theorem WtOk.at {m:Nat} {ps:List (Int × Int)} (h:WtOk m ps) (j:Nat):Nb (atP ps j) 60:=by
 by_cases e:atP ps j=0
 ·rw [e];unfold Nb;decide
 ·exact h.nb _ (HY e)
theorem Fz {H:Hp}:∀ {as:List Addr} {ts:List (Nat × Int)},as.length=ts.length->(∀ (i:Nat) a t,as[i]? = some a->ts[i]? = some t->H a=some (.tup [.int (t.1:Int),.int t.2]))->Reps K H (ts.map BA) (as.map V.ref)
 | [],[],_,_=>BN
 | [],_::_,h,_=>by cases h
 | _::_,[],h,_=>by cases h
 | a::as,t::ts,h,x=>A1 (DV (x 0 a t rfl rfl) (A1 CB (A1 CB BN))) (Fz (by simpa using h) fun i a' q' h1 h2=>x (i+1) a' q' (by simpa using h1) (by simpa using h2))
theorem KI {ps:List (Int × Int)} {m:Nat} (W:WtOk m ps) (hne:∀ q∈ps,q.2≠0) {rs:List (Int × V)} (hp:rs.Perm (ps.map fun q=>(q.1,V.int q.2))) (hs:(rs.map (·.1)).Pairwise (· < ·)):rs=(AH (atP ps) (2 ^ m)).map fun t=>((t.1:Int),V.int t.2):=by
 have hf:(ps.filter fun q=>decide (q.2≠0))=ps:=List.filter_eq_self.mpr fun q hq=>decide_eq_true (hne q hq)
 have h1:(rs.map fun q=>(q.1,vI q.2)).Perm ps:=by
  refine (hp.map _).trans ?_
  rw [List.map_map]
  have e:ps.map id=ps:=List.map_id _
  have e2:ps.map ((fun q:Int × V=>(q.1,vI q.2)) ∘ fun q=>(q.1,V.int q.2))=ps.map id:=List.map_congr_left fun q _=>rfl
  rw [e2,e]
 have h2:=IW W.nd W.rg (rs:=rs.map fun q=>(q.1,vI q.2)) (by rw [hf];exact h1) (by rw [List.map_map];exact hs)
 have h3:rs=(rs.map fun q=>(q.1,vI q.2)).map fun q=>(q.1,V.int q.2):=by
  rw [List.map_map]
  have e:rs.map id=rs:=List.map_id _
  conv=>lhs;rw [<- e]
  refine List.map_congr_left fun q hq=>?_
  obtain ⟨y,_,rfl⟩:=List.mem_map.mp (hp.mem_iff.mp hq)
  rfl
 rw [h3,h2,List.map_map]
 rfl
theorem EF {xs:List V} {i:Int} (h0:0<=i) (h1:i < xs.length):∃ z,atI xs i=some z/\z∈xs:=by
 obtain ⟨n,rfl⟩:=Int.eq_ofNat_of_zero_le h0
 have hn:n < xs.length:=by lia
 exact ⟨xs[n],C0 rfl (List.getElem?_eq_getElem hn),List.getElem_mem hn⟩
def Bn (K:W.Frag):Sp:=fun vs H Q _=>match vs with
 | [.ref t,.int n]=>∃ (a:Addr) (ns:List Int) (m:Nat),Tape K H t a ns/\n=m/\1<=m/\m<=6/\∀ (f:Nat->Int) v H',(∀ j,Nb (f j) 60)->Tape K H' t a ns->Frm t H H'->SumAt K H' v m (AH f (2 ^ m))->Q v H'
 | _=>False
theorem LI:AR (Bn K):=fun vs H Q Q' E h q=>by
 unfold Bn at *
 split at q
 ·revert q;repeat' first | exact h _ _ | exact BJ h | exact BC h | exact BL h | walk_at "m"
 ·exact q.elim
theorem DI {H0 H:Hp} {t a p:Addr} {ns:List Int} {o:HO} (T0:Tape K H0 t a ns) (T1:Tape K H t a ns) (F:Frm t H0 (upd H p o)) (n:p≠t):Tape K (upd H p o) t a ns:=by
 obtain ⟨i,r,c,h1,h2,h3⟩:=T1.at_
 exact ⟨⟨i,r,c,h1,h2,by rw [AG (Ne.symm n)];exact h3⟩,T0.scr.stay fun o n e=>F a o n e⟩
theorem Kp:FnOk P w K mg base CX0 2 T.f_z17 T.d_z17 ["_law_tape_here","_law_n"] (Bn K):=by
 have G_z15:=DL (P:=P) (w:=w) (base:=base) T;have G_z23:=CU (P:=P) (w:=w) (base:=base) T
 refine T.F_z17.ok sc_z17 (fun vs H Q E h=>by unfold Bn at h;split at h <;> first | rfl | exact h.elim) (fun cdv A outer s H vs Q E hr h=>?_)
 have hu:=Ak hr
 have mo2:AR BQ:=DO
 have hr_z15:=hr.mono (show 1<=_ by decide);have hr_z23:=hr.mono (show 1<=_ by decide)
 unfold Bn at h
 split at h
 rotate_left
 ·exact h.elim
 rename_i t n
 obtain ⟨a,ns,m,TP,e1,m1,m6,q⟩:=h
 subst e1
 refine ⟨_,(@AF _ _ _ _ _ (@AO _ _ 2 _ _ _ _ sc_z17.nd rfl (by right) IR (by rfl) (by symm)) (@AF _ _ _ _ _ (@BK _ _ _ _ _ _ _ _ PassesOwn.never rfl (Ar rfl T.z_range (AA (AI G_z15 hr_z15 rfl T.m_z15 T.F_z15.kp T.b_z15 .nil AJ (AA (vv 0) (AA AB AC))) AC)) (AQ (i:=3) sc_z17.nd rfl (by right)) (@AF _ _ _ _ _ (@AO _ _ 4 _ _ _ _ sc_z17.nd rfl (by right) (@A3 _ _ _ _ (AA AB (AA (CF Bx AB) (AA (AI G_z23 hr_z23 rfl T.m_z23 T.F_z23.kp T.b_z23 .nil AJ (AA (vv 1) AC)) (AA (CF Bx (AI G_z23 hr_z23 rfl T.m_z23 T.F_z23.kp T.b_z23 .nil AJ (AA (vv 1) AC))) (AA AB (AA (AN Fq AB AB) (AA (CF Bx AB) AC)))))))) (by rfl) (by symm)) (@AL _ _ _ (@D0 _ _ _ _ _ _ _ _ _ (Ay hu) (vv 2) (AI G_z15 hr_z15 rfl T.m_z15 T.F_z15.kp T.b_z15 .nil AJ (AA (vv 0) (AA (AI G_z23 hr_z23 rfl T.m_z23 T.F_z23.kp T.b_z23 .nil AJ (AA (vv 1) AC)) AC))) (kIx (K:=K) (vv 4) (AI G_z15 hr_z15 rfl T.m_z15 T.F_z15.kp T.b_z15 .nil AJ (AA (vv 0) (AA AB AC)))) (by rfl)))) (by intro _;rfl)) (@AL _ _ _ (@AZ _ _ _ _ (BY (AA (vv 1) (AA (Ba (DJ (K:=K)) rfl T.z_tuple (by rfl) (AA (OI rfl rfl T.z_sorted (vv 2)) AC)) AC))))))),?_⟩
 have h64:2 ^ m<=64:=Nat.pow_le_pow_right (n:=2) (by decide) m6
 refine fun d nd=>?_
 dsimp only [AS]
 have ndt:=TP.neT nd
 refine ⟨a,ns,TP.same (Same.upd nd),⟨by decide,by decide⟩,fun c H1 c0 c7 T1 f1=>?_⟩
 obtain ⟨N,rfl⟩:=Int.eq_ofNat_of_zero_le c0
 have fr1:Frm t H H1:=(Same.upd (o:=.dK []) nd).frm.trans (BU f1)
 have g1:H1 d=some (.dK (dkW [])):=by rw [f1 d ndt];exact AD
 have hm2:(2:Int) ^ (m:Int).toNat=((2 ^ m:Nat):Int):=by rw [Int.toNat_natCast,Int.natCast_pow];rfl
 have hpos:=Nat.two_pow_pos m
 have i64:((2 ^ m:Nat):Int)<=64:=Int.ofNat_le.mpr h64
 refine ⟨N,rfl,by lia,by lia,?_⟩
 refine Bc (fun i σ H'=>∃ (ps:List (Int × Int)) (z1 z2:Option V),σ=[some (.ref t),some (.int m),some (.ref d),z1,z2]/\ps.length<=i/\WtOk m ps/\(∀ q∈ps,q.2≠0)/\Tape K H' t a ns/\Frm t H H'/\H' d=some (.dK (dkW ps))) ⟨[],none,none,rfl,Nat.le_refl _,⟨.nil,(fun q hq=>by cases hq),(fun q hq=>by cases hq)⟩,(fun q hq=>by cases hq),T1,fr1,g1⟩ ?_ ?_
 ·rintro i σ H' hi ⟨ps,z1,z2,rfl,hl,W,hne,T2,fr2,g2⟩
  refine ⟨by lia,by lia,fun H3 s3=>⟨by lia,by lia,fun H4 s4=>⟨⟨by decide,by decide,by decide⟩,AT (show 7<=1000 by decide),fun l nl=>?_⟩⟩⟩
  have T4:=(T2.same s3).same s4
  have nlt:=T4.neT nl
  have s5:=Same.upd (o:=.lst [.int 1,.int (-1),.int (2 ^ (m:Int).toNat),.int (-(2 ^ (m:Int).toNat)),.int 3,.int (10 ^ (12:Int).toNat),.int (-7)]) nl
  dsimp only [AS]
  refine ⟨a,ns,T4.same s5,⟨by decide,by decide⟩,fun c H6 c0 c1 T6 f6=>?_⟩
  have hlist:H6 l=some (.lst [.int 1,.int (-1),.int (2 ^ (m:Int).toNat),.int (-(2 ^ (m:Int).toNat)),.int 3,.int (10 ^ (12:Int).toNat),.int (-7)]):=by rw [f6 l nlt];exact AD
  obtain ⟨z,hz,hm⟩:=EF (xs:=[V.int 1,.int (-1),.int (2 ^ (m:Int).toNat),.int (-(2 ^ (m:Int).toNat)),.int 3,.int (10 ^ (12:Int).toNat),.int (-7)]) c0 c1
  obtain ⟨x,rfl,nx,x0⟩:∃ x,z=.int x/\Nb x 60/\x≠0:=by
   have p60:(2:Nat) ^ 60=1152921504606846976:=by decide
   rw [hm2] at hm
   simp only [List.mem_cons,List.mem_nil_iff,or_false] at hm
   have e12:(10:Int) ^ (12:Int).toNat=1000000000000:=by decide
   rw [e12] at hm
   rcases hm with rfl | rfl | rfl | rfl | rfl | rfl | rfl <;> refine ⟨_,rfl,?_,?_⟩ <;> first | (unfold Nb;rw [p60];lia) | lia
  refine ⟨_,_,.inl (.of hlist),hz,by lia,by lia,fun H7 s7=>?_⟩
  refine ⟨a,ns,T6.same s7,?_,fun k H8 k0 k1 T8 f8=>?_⟩
  ·rw [hm2]
   exact A7 (by lia) (Int.le_trans (Int.ofNat_le.mpr h64) (by decide))
  rw [hm2] at k1
  have fr8:Frm t H H8:=fr2.trans ((s3.trans (s4.trans s5)).frm.trans ((BU f6).trans (s7.frm.trans (BU f8))))
  have g8:H8 d=some (.dK (dkW ps)):=by
   rw [f8 d ndt]
   refine s7 _ _ ?_
   rw [f6 d ndt]
   exact s5 _ _ (s4 _ _ (s3 _ _ g2))
  obtain ⟨qs,eq,Wq,hq,hmq⟩:=W.put k0 k1 nx
  have hdl:(dkW ps).length=ps.length:=by rw [List.length_map]
  refine ⟨d,_,rfl,DPut.k (k:=Sum.inl k) g8 (Ad (by lia)),qs,_,_,rfl,by lia,Wq,fun q hq'=>?_,?_⟩
  ·rcases hmq q hq' with h | h
   ·exact hne q h
   ·rw [h];exact x0
  rw [eq]
  have fr9:Frm t H (upd H8 d (.dK (dkW qs))):=CS fr8 nd
  exact ⟨DI TP T8 fr9 ndt,fr9,AD⟩
 ·rintro σ H' ⟨ps,z1,z2,rfl,hl,W,hne,T2,fr2,g2⟩
  refine ⟨ps.map fun q=>(q.1,V.int q.2),by rw [g2,List.map_map];rfl,by rw [List.length_map];lia,fun l H3 as rs a1 a2 a3 a4 a5 a6 a7=>?_⟩
  refine ⟨_,.inl ⟨.of a5,fun l2 n2=>⟨AT (show 2<=1000 by decide),fun p np=>?_⟩⟩⟩
  have s2:=Same.upd (o:=.tup (as.map V.ref)) n2
  have s3:=Same.upd (o:=.tup [.int m,.ref l2]) np
  have T5:=((T2.same a4).same s2).same s3
  refine q (atP ps) _ _ W.at T5 (fr2.trans (a4.trans (s2.trans s3)).frm) ⟨p,l2,_,rfl,.of AD,.of (s3 _ _ AD),?_⟩
  have er:=KI W hne a1 a2
  refine Fz (by rw [a6,er,List.length_map]) fun i b u h1 h2=>s3 _ _ (s2 _ _ ?_)
  exact a7 i b ((u.1:Int),.int u.2) h1 (by rw [er,List.getElem?_map,h2];rfl)
theorem GX {f:Nat->Int}:∀ {n:Nat},(∀ j,j < n -> -3<=f j/\f j<=3) -> -3 * (n:Int)<=AE f n/\AE f n<=3 * (n:Int)
 | 0,_=>by constructor <;> exact Int.le_refl _
 | n+1,h=>by
  have h1:=GX (n:=n) fun j hj=>h j (by lia)
  have h2:=h n (by lia)
  show -3 * ((n+1:Nat):Int)<=AE f n+f n/\AE f n+f n<=3 * ((n+1:Nat):Int)
  lia
theorem LW:FnOk P w K mg base CX0 4 T.f_z10 T.d_z10 ["_law_tape_here","_law_n"] (Bn K):=by
 have G_z22:=Gc (P:=P) (w:=w) (base:=base) T;have G_z23:=CU (P:=P) (w:=w) (base:=base) T;have G_z15:=DL (P:=P) (w:=w) (base:=base) T;have G_z16:=Dk (P:=P) (w:=w) (base:=base) T
 refine T.F_z10.ok sc_z10 (fun vs H Q E h=>by unfold Bn at h;split at h <;> first | rfl | exact h.elim) (fun cdv A outer s H vs Q E hr h=>?_)
 have hu:=Ak hr
 have mo2:AR BQ:=DO
 have mo3:AR (CN K):=Gd
 have mo4:AR (Bj K):=EJ
 have hr_z22:=hr.mono (show 1<=_ by decide);have hr_z23:=hr.mono (show 1<=_ by decide);have hr_z15:=hr.mono (show 1<=_ by decide);have hr_z16:=hr.mono (show 3<=_ by decide)
 unfold Bn at h
 split at h
 rotate_left
 ·exact h.elim
 rename_i t n
 obtain ⟨a,ns,m,TP,e1,m1,m6,q⟩:=h
 subst e1
 refine ⟨_,(@AF _ _ _ _ _ (@AO _ _ 2 _ _ _ _ sc_z10.nd rfl (by right) (@BM _ _ _ _ _ _ _ (["_law_place","_law_tape_here"]) 1 [0] _ _ _ _ rfl (Ar rfl T.z_range (AA (AI G_z23 hr_z23 rfl T.m_z23 T.F_z23.kp T.b_z23 .nil AJ (AA (vv 1) AC)) AC)) (by kernel_rfl) rfl rfl (by kernel_rfl) (fun c=>AQ (i:=0) (show (["_law_place","_law_tape_here"]:List Str).Nodup by decide +kernel) rfl (by right)) (Ai (by decide)) (fun c=>A2) (fun c=>(kIx (K:=K) (@A3 _ _ _ _ (AA AB (AA (CF Bx AB) (AA AB (AA AB (AA AB (AA (CF Bx AB) AC))))))) (AI G_z15 hr_z15 rfl T.m_z15 T.F_z15.kp T.b_z15 .nil AJ (AA (vv 1) (AA AB AC))))) (by intro _;rfl)) (by rfl) (by symm)) (@AF _ _ _ _ _ (@AO _ _ 3 _ _ _ _ sc_z10.nd rfl (by right) IR (by rfl) (by symm)) (@AF _ _ _ _ _ (@BK _ _ _ _ _ _ _ _ PassesOwn.never rfl (Ar rfl T.z_range (AA (AI G_z23 hr_z23 rfl T.m_z23 T.F_z23.kp T.b_z23 .nil AJ (AA (vv 1) AC)) AC)) (AQ (i:=4) sc_z10.nd rfl (by right)) (@AL _ _ _ (@D0 _ _ _ _ _ _ _ _ _ (Ay hu) (vv 3) (vv 4) (Ap (Ei (K:=K) rfl) rfl T.z_sum (by rfl) (AA (BM (N':=["_law_place","_law_row","_law_n","_law_one"]) (own:=1) (ix:=[2,1,4]) rfl (Ar rfl T.z_range (AA (AI G_z23 hr_z23 rfl T.m_z23 T.F_z23.kp T.b_z23 .nil AJ (AA (vv 1) AC)) AC)) (by kernel_rfl) rfl rfl (by kernel_rfl) (fun c=>AQ (i:=0) (show (["_law_place","_law_row","_law_n","_law_one"]:List Str).Nodup by decide +kernel) rfl (by right)) (Ai (by decide)) (fun c=>A2) (fun c=>(AN A5 (kIx (K:=K) (vv 1) (vv 0)) (AI G_z16 hr_z16 rfl T.m_z16 T.F_z16.kp T.b_z16 .nil AJ (AA (vv 2) (AA (vv 3) (AA (vv 0) AC))))))) AC)) (by rfl))) (by intro _;rfl)) (@AL _ _ _ (@AZ _ _ _ _ (AI G_z22 hr_z22 rfl T.m_z22 T.F_z22.kp T.b_z22 .nil AJ (AA (vv 1) (AA (vv 3) AC)))))))),?_⟩
 have h64:2 ^ m<=64:=Nat.pow_le_pow_right (n:=2) (by decide) m6
 have hm2:(2:Int) ^ (m:Int).toNat=((2 ^ m:Nat):Int):=by rw [Int.toNat_natCast,Int.natCast_pow];rfl
 have hpos:=Nat.two_pow_pos m
 have i64:((2 ^ m:Nat):Int)<=64:=Int.ofNat_le.mpr h64
 refine Ae (fun σ H'=>∃ (l:Addr) (xs:List Int) (z3 z4:Option V),σ=[some (.ref t),some (.int m),some (.ref l),z3,z4]/\xs.length=2 ^ m/\(∀ x∈xs,-3<=x/\x<=3)/\Tape K H' t a ns/\Frm t H H'/\H' l=some (.lst (xs.map V.int))) ?_ ?_ (by walk_at "sm")
 ·refine ⟨by lia,by lia,fun H1 s1=>?_⟩
  rw [hm2]
  refine ⟨_,rfl,by lia,by lia,?_⟩
  refine CL (fun i ys H'=>∃ xs:List Int,ys=xs.map V.int/\xs.length=i/\(∀ x∈xs,-3<=x/\x<=3)/\Tape K H' t a ns/\Frm t H H') ⟨[],rfl,rfl,(fun x hx=>by cases hx),TP.same s1,s1.frm⟩ (fun i ys H' hi ⟨xs,e,e2,_⟩=>by
   rw [e,List.length_map,e2];exact Ad (by lia)) ?_ ?_
  ·rintro i ys H' hi ⟨xs,rfl,hxl,hxs,T2,fr2⟩
   refine ⟨AT (show 6<=1000 by decide),fun l nl=>?_⟩
   have s5:=Same.upd (o:=.lst [.int 1,.int (-1),.int 1,.int 3,.int 0,.int (-2)]) nl
   have nlt:=T2.neT nl
   refine ⟨a,ns,T2.same s5,⟨by decide,by decide⟩,fun c H6 c0 c1 T6 f6=>?_⟩
   have hlist:H6 l=some (.lst [.int 1,.int (-1),.int 1,.int 3,.int 0,.int (-2)]):=by rw [f6 l nlt];exact AD
   obtain ⟨z,hz,hm⟩:=EF (xs:=[V.int 1,.int (-1),.int 1,.int 3,.int 0,.int (-2)]) c0 c1
   obtain ⟨x,rfl,x0,x1⟩:∃ x,z=.int x /\ -3<=x/\x<=3:=by
    simp only [List.mem_cons,List.mem_nil_iff,or_false] at hm
    rcases hm with rfl | rfl | rfl | rfl | rfl | rfl <;> exact ⟨_,rfl,by decide,by decide⟩
   refine ⟨_,_,.inl (.of hlist),hz,xs++[x],by rw [List.map_append];rfl,by rw [List.length_append,hxl];rfl,fun y hy=>?_,T6,fr2.trans (s5.frm.trans (BU f6))⟩
   rcases List.mem_append.mp hy with h | h
   ·exact hxs y h
   ·rw [List.mem_singleton.mp h];exact ⟨x0,x1⟩
  ·rintro ys H' ⟨xs,rfl,hxl,hxs,T2,fr2⟩ l hl
   rw [Int.toNat_natCast] at hxl
   exact ⟨l,xs,_,_,rfl,hxl,hxs,T2.same (Same.upd hl),fr2.trans (Same.upd hl).frm,AD⟩
 rintro σ H1 ⟨l,xs,z3,z4,rfl,hxl,hxs,T1,fr1,g1⟩
 refine fun d nd=>?_
 dsimp only [AS]
 have ndt:=T1.neT nd
 have ld:l≠d:=BG g1 nd
 have nd0:H d=none:=by
  cases e:H d with
  | none=>rfl
  | some o =>
   have:=fr1 d o ndt e
   rw [nd] at this
   cases this
 refine Ae (fun σ H'=>∃ (ps:List (Int × Int)) (z4:Option V),σ=[some (.ref t),some (.int m),some (.ref l),some (.ref d),z4]/\ps.length<=2 ^ m/\WtOk m ps/\Tape K H' t a ns/\Frm t H H'/\H' d=some (.dK (dkW ps))) ?_ ?_ (by walk_at "sm")
 ·refine ⟨by lia,by lia,fun H2 s2=>?_⟩
  rw [hm2]
  refine ⟨_,rfl,by lia,by lia,?_⟩
  have sd:=Same.upd (o:=.dK []) nd
  refine Bc (fun i σ H'=>∃ (ps:List (Int × Int)) (z4:Option V),σ=[some (.ref t),some (.int m),some (.ref l),some (.ref d),z4]/\ps.length<=i/\WtOk m ps/\Tape K H' t a ns/\Frm t H H'/\H' d=some (.dK (dkW ps))/\H' l=some (.lst (xs.map V.int))) ⟨[],_,rfl,Nat.le_refl _,⟨.nil,(fun q hq=>by cases hq),(fun q hq=>by cases hq)⟩,(T1.same sd).same s2,fr1.trans (sd.trans s2).frm,s2 _ _ AD,s2 _ _ (sd _ _ g1)⟩ ?_ ?_
  ·rintro i σ H3 hi ⟨ps,z4,rfl,hl,W,T3,fr3,g3d,g3l⟩
   have hi':i < 2 ^ m:=by lia
   rw [show (0:Int)+(i:Int)=(i:Int) from Int.zero_add _]
   dsimp only [AS]
   refine ⟨by lia,by lia,fun H4 s4=>?_⟩
   rw [hm2]
   refine ⟨_,rfl,by lia,by lia,?_⟩
   have gx:∀ p,p < 2 ^ m -> -3<=xs.getD p 0/\xs.getD p 0<=3:=fun p hp=>by
    rw [List.getD_eq_getElem?_getD,List.getElem?_eq_getElem (by lia)]
    exact hxs _ (List.getElem_mem _)
   have nsg:∀ p,Nb (sgL m i p) 1:=fun p=>by unfold sgL;split <;> (unfold Nb;decide)
   have nx:∀ p,p < 2 ^ m->Nb (xs.getD p 0) 2:=fun p hp=>by have:=gx p hp;unfold Nb;lia
   refine CL (fun j ys H'=>Same H4 H'/\ys=((List.range j).map fun p=>xs.getD p 0 * sgL m i p).map V.int) ⟨Same.refl _,rfl⟩ (fun j ys H' hj ⟨_,e⟩=>by
    rw [e,List.length_map,List.length_map,List.length_range];exact Ad (by lia)) ?_ ?_
   ·rintro j ys H' hj ⟨sj,rfl⟩
    have hj':j < 2 ^ m:=by lia
    rw [show (0:Int)+(j:Int)=(j:Int) from Int.zero_add _]
    have hat:atI (xs.map V.int) (j:Int)=some (.int (xs.getD j 0)):=C0 rfl (by
     rw [List.getElem?_map,List.getD_eq_getElem?_getD,List.getElem?_eq_getElem (by lia)]
     rfl)
    refine ⟨_,_,.inl (.of (sj _ _ (s4 _ _ g3l))),hat,m,i,j,rfl,rfl,rfl,m6,fun H6 s6=>⟨Nb.okMul ((nx j hj').up (by decide)) ((nsg j).up (by decide)),sj.trans s6,?_⟩⟩
    rw [List.range_succ,List.map_append,List.map_append]
    rfl
   ·rintro ys H' ⟨sj,rfl⟩ lp hlp
    rw [Int.toNat_natCast]
    refine ⟨_,.of AD,?_⟩
    have nsum:Nb ((List.range (2 ^ m)).map fun p=>xs.getD p 0 * sgL m i p).sum 60:=by
     rw [HQ]
     have h1:=GX (f:=fun p=>xs.getD p 0 * sgL m i p) (n:=2 ^ m) fun p hp=>by
      have h2:=gx p hp
      unfold sgL
      split <;> lia
     have p60:(2:Nat) ^ 60=1152921504606846976:=by decide
     unfold Nb
     rw [p60]
     generalize AE (fun p=>xs.getD p 0 * sgL m i p) (2 ^ m)=S at *
     lia
    have sl:=Same.upd (o:=.lst (((List.range (2 ^ m)).map fun p=>xs.getD p 0 * sgL m i p).map V.int)) hlp
    have s8:=s4.trans (sj.trans sl)
    generalize ((List.range (2 ^ m)).map fun p=>xs.getD p 0 * sgL m i p).sum=S at *
    generalize upd H' lp (.lst (((List.range (2 ^ m)).map fun p=>xs.getD p 0 * sgL m i p).map V.int))=H8 at *
    obtain ⟨qs,eq,Wq,hq,_⟩:=W.put (k:=(i:Int)) (x:=S) (by lia) (by lia) nsum
    refine ⟨d,_,rfl,DPut.k (k:=Sum.inl (i:Int)) (s8 _ _ g3d) (Ad (by rw [List.length_map];lia)),qs,_,rfl,by lia,Wq,?_⟩
    rw [eq]
    have fr9:Frm t H (upd H8 d (.dK (dkW qs))):=CS (fr3.trans s8.frm) nd0
    exact ⟨DI TP (T3.same s8) fr9 ndt,fr9,AD,by rw [AG ld];exact s8 _ _ g3l⟩
  ·rintro σ H3 ⟨ps,z4,rfl,hl,W,T3,fr3,g3d,g3l⟩
   rw [Int.toNat_natCast] at hl
   exact ⟨ps,z4,rfl,hl,W,T3,fr3,g3d⟩
 rintro σ H3 ⟨ps,z4,rfl,hl,W,T3,fr3,g3d⟩
 refine ⟨m,ps,rfl,m6,g3d,W.nd,by lia,W.rg,fun v H4 f4 S=>?_⟩
 have fr4:Frm t H H4:=fun b o hb e=>f4 b o (fun z=>by rw [z,nd0] at e;cases e) (fr3 b o hb e)
 refine q (atP ps) v H4 W.at ?_ fr4 S
 obtain ⟨i,r,c,h1,h2,h3⟩:=T3.at_
 exact ⟨⟨i,r,c,h1,h2,f4 _ _ (Ne.symm ndt) h3⟩,TP.scr.stay fun o n e=>fr4 a o n e⟩
def Cu (K:W.Frag):Sp:=fun vs H Q _=>match vs with
 | [.ref t,x]=>∃ (a:Addr) (ns:List Int) (m:Nat) (g:Nat->Int),Tape K H t a ns/\SumAt K H x m (AH g (2 ^ m))/\1<=m/\m<=6/\(∀ j,Nb (g j) 50)/\AH g (2 ^ m)≠[]/\∀ (f:Nat->Int) v H',(∀ j,Nb (f j) 60)->Tape K H' t a ns->Frm t H H'->SumAt K H' v m (AH f (2 ^ m))->Q v H'
 | _=>False
theorem Lj:AR (Cu K):=fun vs H Q Q' E h q=>by
 unfold Cu at *
 split at q
 ·revert q;repeat' first | exact h _ _ | exact BJ h | exact BC h | exact BL h | walk_at "m"
 ·exact q.elim
theorem Gv {α:Type} [DecidableEq α]:∀ {ds ls:List α},ds.Nodup->(∀ z∈ds,z∈ls)->ds.length<=ls.length
 | [],ls,_,_=>Nat.zero_le _
 | z::ds,ls,nd,h=>by
  obtain ⟨h1,h2⟩:=List.nodup_cons.mp nd
  have hz:z∈ls:=h z (by simp)
  have:=Gv (ds:=ds) (ls:=ls.erase z) h2 (fun x hx=>(List.mem_erase_of_ne (fun e:x=z=>h1 (e ▸ hx))).mpr (h x (List.mem_cons_of_mem _ hx)))
  have e:=List.length_erase_of_mem hz
  have:0 < ls.length:=List.length_pos_of_mem hz
  rw [List.length_cons]
  lia
theorem WtOk.len {m:Nat} {ps:List (Int × Int)} (h:WtOk m ps):ps.length<=2 ^ m:=by
 have:=Gv (ls:=(List.range (2 ^ m)).map Int.ofNat) h.nd fun z hz=>by
  obtain ⟨q,hq,rfl⟩:=List.mem_map.mp hz
  obtain ⟨h1,h2⟩:=h.rg q hq
  exact List.mem_map.mpr ⟨q.1.toNat,List.mem_range.mpr (by lia),by show ((q.1.toNat:Nat):Int)=q.1;lia⟩
 rwa [List.length_map,List.length_map,List.length_range] at this
structure Bw (K:W.Frag) (m:Nat) (t a:Addr) (ns:List Int) (H0 H:Hp) (d:Addr) (ps:List (Int × Int)):Prop where
 tp:Tape K H t a ns
 fr:Frm t H0 H
 at_:H d=some (.dK (dkW ps))
 nd0:H0 d=none
 ok:WtOk m ps
section
variable {m:Nat} {t a d:Addr} {ns:List Int} {H0 H H':Hp} {ps:List (Int × Int)}
theorem Bw.same (B:Bw K m t a ns H0 H d ps) (s:Same H H'):Bw K m t a ns H0 H' d ps:=⟨B.tp.same s,B.fr.trans s.frm,s _ _ B.at_,B.nd0,B.ok⟩
theorem Bw.next (B:Bw K m t a ns H0 H d ps) (TP:Tape K H0 t a ns) (T1:Tape K H' t a ns) (f1:∀ b,b≠t->H' b=H b):Bw K m t a ns H0 H' d ps:=⟨T1,B.fr.trans (BU f1),by rw [f1 d (TP.neT B.nd0)];exact B.at_,B.nd0,B.ok⟩
theorem Bw.put (B:Bw K m t a ns H0 H d ps) (TP:Tape K H0 t a ns) (m6:m<=6) {k x:Int} (k0:0<=k) (k1:k < ((2 ^ m:Nat):Int)) (nx:Nb x 60):∃ qs H',DPut H d (.int k) (.int x) H'/\Bw K m t a ns H0 H' d qs:=by
 have h64:2 ^ m<=64:=Nat.pow_le_pow_right (n:=2) (by decide) m6
 have hl:=B.ok.len
 obtain ⟨qs,eq,Wq,hq,hmq⟩:=B.ok.put k0 k1 nx
 refine ⟨qs,_,DPut.k (k:=Sum.inl k) B.at_ (Ad (by rw [List.length_map];lia)),?_⟩
 rw [eq]
 have fr9:Frm t H0 (upd H d (.dK (dkW qs))):=CS B.fr B.nd0
 exact ⟨DI TP B.tp fr9 (TP.neT B.nd0),fr9,AD,B.nd0,Wq⟩
theorem Bw.get (B:Bw K m t a ns H0 H d ps) {k v:Int} (h:(k,v)∈ps):DGet H d (.int k) (some (.int v)):=.inl ⟨_,.inl k,.inl B.at_,rfl,(Db B.ok.nd h).symm⟩
theorem Bw.get2 (B:Bw K m t a ns H0 H d ps) (k:Int):∃ o v,DGet H d (.int k) o/\o.getD (.int 0)=.int v/\(v=0\/(k,v)∈ps):=by
 by_cases h:∃ v,(k,v)∈ps
 ·obtain ⟨v,h⟩:=h
  exact ⟨_,v,B.get h,rfl,.inr h⟩
 ·refine ⟨_,0,.inl ⟨_,.inl k,.inl B.at_,rfl,rfl⟩,?_,.inl rfl⟩
  have:An (dkW ps) (Sum.inl k)=none:=by
   unfold An
   rw [Option.map_eq_none_iff,List.find?_eq_none]
   intro z hz e
   obtain ⟨q,hq,rfl⟩:=List.mem_map.mp hz
   have e:(Sum.inl q.1:Key)=Sum.inl k:=of_decide_eq_true e
   injection e with e
   exact h ⟨q.2,by rw [<- e];exact hq⟩
  rw [this]
  rfl
end
theorem Jb:FnOk P w K mg base CX0 2 T.f_z20 T.d_z20 ["_law_tape_here","_law_whole"] (Cu K):=by
 have G_z15:=DL (P:=P) (w:=w) (base:=base) T;have G_z22:=Gc (P:=P) (w:=w) (base:=base) T;have G_z23:=CU (P:=P) (w:=w) (base:=base) T
 refine T.F_z20.ok sc_z20 (fun vs H Q E h=>by unfold Cu at h;split at h <;> first | rfl | exact h.elim) (fun cdv A outer s H vs Q E hr h=>?_)
 have hu:=Ak hr
 have mo2:AR BQ:=DO
 have mo3:AR (CN K):=Gd
 have hr_z15:=hr.mono (show 1<=_ by decide);have hr_z22:=hr.mono (show 1<=_ by decide);have hr_z23:=hr.mono (show 1<=_ by decide)
 unfold Cu at h
 split at h
 rotate_left
 ·exact h.elim
 rename_i t x
 obtain ⟨a,ns,m,g,TP,S,m1,m6,hg,hne,q⟩:=h
 have h64:2 ^ m<=64:=Nat.pow_le_pow_right (n:=2) (by decide) m6
 have hm2:(2:Int) ^ (m:Int).toNat=((2 ^ m:Nat):Int):=by rw [Int.toNat_natCast,Int.natCast_pow];rfl
 have hpos:=Nat.two_pow_pos m
 have i64:((2 ^ m:Nat):Int)<=64:=Int.ofNat_le.mpr h64
 have od:okDiv ((2 ^ m:Nat):Int):=A7 (by lia) (Int.le_trans i64 (by decide))
 obtain ⟨w1,w2,us,rfl,hw1,hw2,hR⟩:=id S.at_
 have hul:us.length=(AH g (2 ^ m)).length:=by have:=hR.length;rw [List.length_map] at this;lia
 have htl:=Dr g (2 ^ m)
 refine ⟨_,(@AF _ _ _ _ _ (@BH _ _ _ _ _ _ (vv 1) (Di (K:=K) (n:=2) rfl (As (AQ (i:=2) sc_z20.nd rfl (by right)) (As (AQ (i:=3) sc_z20.nd rfl (by right)) CG))) (by rfl) (by rfl) (by rfl)) (@AF _ _ _ _ _ (@AO _ _ 4 _ _ _ _ sc_z20.nd rfl (by right) (Ba (Ix (K:=K) rfl) rfl T.z_dict (by rfl) (AA (vv 3) AC)) (by rfl) (by symm)) (@AF _ _ _ _ _ (@AO _ _ 5 _ _ _ _ sc_z20.nd rfl (by right) (Ap (Lg rfl) rfl T.z_sorted (by rfl) (AA (vv 4) AC)) (by rfl) (by symm)) (@AF _ _ _ _ _ (@AO _ _ 6 _ _ _ _ sc_z20.nd rfl (by right) (kIx (K:=K) (vv 5) (AI G_z15 hr_z15 rfl T.m_z15 T.F_z15.kp T.b_z15 .nil AJ (AA (vv 0) (AA (Ap (DF (K:=K)) rfl T.z_len (by rfl) (AA (vv 5) AC)) AC)))) (by rfl) (by symm)) (@AF _ _ _ _ _ (@AO _ _ 7 _ _ _ _ sc_z20.nd rfl (by right) (AI G_z15 hr_z15 rfl T.m_z15 T.F_z15.kp T.b_z15 .nil AJ (AA (vv 0) (AA (AI G_z23 hr_z23 rfl T.m_z23 T.F_z23.kp T.b_z23 .nil AJ (AA (vv 2) AC)) AC))) (by rfl) (by symm)) (@AF _ _ _ _ _ (@AO _ _ 8 _ _ _ _ sc_z20.nd rfl (by right) (AI G_z15 hr_z15 rfl T.m_z15 T.F_z15.kp T.b_z15 .nil AJ (AA (vv 0) (AA AB AC))) (by rfl) (by symm)) (@AF _ _ _ _ _ (@At _ _ _ _ _ _ _ _ (Al (kEq (K:=K) hu) (vv 8) AB) (@AL _ _ _ (@D0 _ _ _ _ _ _ _ _ _ (Ay hu) (vv 4) (vv 6) (AN I0 AB (Cd (Ay hu) (vv 4) (vv 6) (by intro _ _;rfl))) (by rfl))) Au) (@AF _ _ _ _ _ (@At _ _ _ _ _ _ _ _ (Al (kEq (K:=K) hu) (vv 8) AB) (@AL _ _ _ (@BH _ _ _ _ _ _ (BY (AA (IX (Ay hu) (vv 4) (vv 7) AB ⟨by rfl,by rfl,by rfl,by rfl⟩) (AA (Cd (Ay hu) (vv 4) (vv 6) (by intro _ _;rfl)) AC))) (Di (K:=K) (n:=2) rfl (As (BO (vv 4) (vv 6) (IM (Ay hu))) (As (BO (vv 4) (vv 7) (IM (Ay hu))) CG))) (by rfl) (by rfl) (by rfl))) Au) (@AF _ _ _ _ _ (@At _ _ _ _ _ _ _ _ (Al (kEq (K:=K) hu) (vv 8) AB) (@AL _ _ _ (@AO _ _ 4 _ _ _ _ sc_z20.nd rfl (by right) (Ba (IF (K:=K) rfl) rfl T.z_dict (by rfl) (AA (BM (N':=["_law_k","_law_weights"]) (own:=1) (ix:=[4]) rfl (Ew (vv 4)) (by kernel_rfl) rfl rfl (by kernel_rfl) (fun c=>AQ (i:=0) (show (["_law_k","_law_weights"]:List Str).Nodup by decide +kernel) rfl (by right)) (Ai (by decide)) (fun c=>A2) (fun c=>(BY (AA (vv 0) (AA (AN A5 (Cd (Ay hu) (vv 1) (vv 0) (by intro _ _;rfl)) AB) AC))))) AC)) (by rfl) (by symm))) Au) (@AF _ _ _ _ _ (@At _ _ _ _ _ _ _ _ (Al (kEq (K:=K) hu) (vv 8) AB) (@AL _ _ _ (@AO _ _ 4 _ _ _ _ sc_z20.nd rfl (by right) (Ba (IF (K:=K) rfl) rfl T.z_dict (by rfl) (AA (BM (N':=["_law_k","_law_weights"]) (own:=1) (ix:=[4]) rfl (Ew (vv 4)) (by kernel_rfl) rfl rfl (by kernel_rfl) (fun c=>AQ (i:=0) (show (["_law_k","_law_weights"]:List Str).Nodup by decide +kernel) rfl (by right)) (Ai (by decide)) (fun c=>A2) (fun c=>(BY (AA (vv 0) (AA (AN Dt (Cd (Ay hu) (vv 1) (vv 0) (by intro _ _;rfl)) AB) AC))))) AC)) (by rfl) (by symm))) Au) (@AF _ _ _ _ _ (@At _ _ _ _ _ _ _ _ (Al (kEq (K:=K) hu) (vv 8) AB) (@AL _ _ _ (@FC _ _ _ _ (JP (vv 4) (vv 6) ⟨by rfl,by rfl,by rfl,by rfl⟩) (by rfl))) Au) (@AF _ _ _ _ _ (@At _ _ _ _ _ _ _ _ (Al (kEq (K:=K) hu) (vv 8) AB) (@AL _ _ _ (@D0 _ _ _ _ _ _ _ _ _ (Ay hu) (vv 4) (vv 7) (AN (CA (K:=K)) (IX (Ay hu) (vv 4) (vv 7) AB ⟨by rfl,by rfl,by rfl,by rfl⟩) (kIx (K:=K) (A3 (AA AB (AA (CF Bx AB) (AA (AI G_z23 hr_z23 rfl T.m_z23 T.F_z23.kp T.b_z23 .nil AJ (AA (vv 2) AC)) AC)))) (AI G_z15 hr_z15 rfl T.m_z15 T.F_z15.kp T.b_z15 .nil AJ (AA (vv 0) (AA AB AC))))) (by rfl))) Au) (@AL _ _ _ (@AZ _ _ _ _ (AI G_z22 hr_z22 rfl T.m_z22 T.F_z22.kp T.b_z22 .nil AJ (AA (vv 2) (AA (vv 4) AC))))))))))))))))),?_⟩
 refine ⟨_,.inr hw1,rfl,_,_,rfl,_,_,rfl,rfl,?_⟩
 dsimp only [AS]
 refine ⟨us,(AH g (2 ^ m)).map fun t=>((t.1:Int),t.2),hw2,by rw [List.length_map];lia,by rw [List.length_map];lia,fun j kv hkv=>?_,?_,fun d nd=>?_⟩
 ·rw [List.getElem?_map] at hkv
  cases et:(AH g (2 ^ m))[j]? with
  | none=>rw [et] at hkv;cases hkv
  | some t =>
   rw [et] at hkv
   cases hkv
   have hj:j < us.length:=by rw [hul];exact (List.getElem?_eq_some_iff.mp et).1
   obtain ⟨t',c,h1,h2,h3⟩:=Do hR (List.getElem?_eq_getElem hj)
   rw [et] at h1
   cases h1
   exact ⟨c,by rw [List.getElem?_eq_getElem hj,h2],h3⟩
 ·rw [List.map_map]
  have h:=Df g (2 ^ m)
  have e:(AH g (2 ^ m)).map ((fun x:Int × Int=>x.1) ∘ fun t=>((t.1:Int),t.2))=((AH g (2 ^ m)).map (·.1)).map Int.ofNat:=by rw [List.map_map];rfl
  rw [e]
  refine List.Pairwise.map _ (fun a b (h:a < b) z=>?_) h
  have:(a:Int)=(b:Int):=z
  lia
 have ndt:=TP.neT nd
 have W0:WtOk m ((AH g (2 ^ m)).map fun t=>((t.1:Int),t.2)):=⟨by
  rw [List.map_map]
  have e:(AH g (2 ^ m)).map ((fun x:Int × Int=>x.1) ∘ fun t=>((t.1:Int),t.2))=((AH g (2 ^ m)).map (·.1)).map Int.ofNat:=by rw [List.map_map];rfl
  rw [e]
  refine List.Pairwise.map _ (fun a b (h:a < b) z=>?_) (Df g (2 ^ m))
  have:(a:Int)=(b:Int):=z
  lia,fun q hq=>by
  obtain ⟨t,ht,rfl⟩:=List.mem_map.mp hq
  have:=(Bh ht).1
  exact ⟨Int.natCast_nonneg _,Int.ofNat_lt.mpr this⟩,fun q hq=>by
  obtain ⟨t,ht,rfl⟩:=List.mem_map.mp hq
  show Nb t.2 60
  rw [(Bh ht).2.1]
  exact (hg _).up (by decide)⟩
 have W50:∀ q∈(AH g (2 ^ m)).map fun t=>((t.1:Int),t.2),Nb q.2 50:=fun q hq=>by
  obtain ⟨t,ht,rfl⟩:=List.mem_map.mp hq
  show Nb t.2 50
  rw [(Bh ht).2.1]
  exact hg _
 have hps:(AH g (2 ^ m)).map (fun t=>((t.1:Int),t.2))≠[]:=fun z=>hne (List.map_eq_nil_iff.mp z)
 generalize (AH g (2 ^ m)).map (fun t=>((t.1:Int),t.2))=ps at *
 have B0:Bw K m t a ns H (upd H d (.dK (dkW ps))) d ps:=⟨TP.same (Same.upd nd),(Same.upd nd).frm,AD,nd,W0⟩
 have hl0:=W0.len
 dsimp only [AS]
 refine ⟨ps.map fun q=>(q.1,V.int q.2),by rw [List.map_map];exact B0.at_,by rw [List.length_map];lia,fun ms l hms _ nl=>?_⟩
 have B1:=B0.same (Same.upd (o:=.lst (ms.map V.int)) nl)
 have g1:=AD (H:=upd H d (.dK (dkW ps))) (a:=l) (o:=.lst (ms.map V.int))
 have nlt:=B0.tp.neT nl
 rw [List.map_map] at hms
 have hml:ms.length=ps.length:=by rw [hms.length_eq,List.length_map]
 have hmp:0 < ps.length:=List.length_pos_iff.mpr hps
 dsimp only [AS]
 refine ⟨ms.length,.inl ⟨_,.of g1,by rw [List.length_map]⟩,a,ns,B1.tp,A7 (by lia) (Int.le_trans (Int.ofNat_le.mpr (show ms.length<=64 by lia)) (by decide)),fun c H2 c0 c1 T2 f2=>?_⟩
 have B2:=B1.next TP T2 f2
 have g2:H2 l=some (.lst (ms.map V.int)):=by rw [f2 l nlt];exact g1
 obtain ⟨z,hz,hm⟩:=EF (xs:=ms.map V.int) c0 (by rw [List.length_map];exact c1)
 obtain ⟨one,hone,rfl⟩:=List.mem_map.mp hm
 have hone:one∈ps.map (·.1):=hms.mem_iff.mp hone
 refine ⟨_,_,.inl (.of g2),hz,?_⟩
 dsimp only [AS]
 refine ⟨by lia,by lia,fun H3 s3=>?_⟩
 rw [hm2]
 refine ⟨a,ns,(B2.same s3).tp,od,fun other H4 o0 o1 T4 f4=>?_⟩
 have B4:=(B2.same s3).next TP T4 f4
 dsimp only [AS]
 refine ⟨a,ns,B4.tp,A7 (by decide) (by decide),fun way H5 _ _ T5 f5=>?_⟩
 have B5:=B4.next TP T5 f5
 dsimp only [AS]
 clear hR hw1 hw2 S hul htl hne hg B0 B1 B2 B4 g1 g2 nlt hml hms hmp hps W0 hl0 f2 f4 f5 s3 T2 T4 T5 hz
 have L5:0<=way->(∀ q∈ps,Nb q.2 50)/\one∈ps.map (·.1):=fun _=>⟨W50,hone⟩
 clear W50 hone
 have vac:∀ {i:Int} {R:Prop},way=i->i+1<=way->R:=fun {i R} h1 h2=>by lia
 have wy:∀ {i:Int},(false ^^ (way == i))=true->way=i:=fun {i} h=>by rw [Bool.false_xor] at h;exact eq_of_beq h
 refine Ae (fun σ H'=>∃ (d:Addr) (ps:List (Int × Int)),σ=[some (.ref t),some (.ref w1),some (.int m),some (.ref w2),some (.ref d),some (.ref l),some (.int one),some (.int other),some (.int way)]/\Bw K m t a ns H H' d ps/\(1<=way->(∀ q∈ps,Nb q.2 50)/\one∈ps.map (·.1))) ?_ ?_ (by walk_at "sm")
 ·refine Af (fun e=>?_) (fun e=>⟨d,ps,rfl,B5,fun h=>L5 (by lia)⟩)
  have ew:=wy e
  obtain ⟨hb,h1⟩:=L5 (by lia)
  obtain ⟨⟨k,v⟩,hq,rfl⟩:=List.mem_map.mp h1
  obtain ⟨k0,k1⟩:=B5.ok.rg _ hq
  have nv:=hb _ hq
  obtain ⟨qs,H6,dp,B6⟩:=B5.put TP m6 (x:=0 - v) k0 k1 (by unfold Nb at *;rw [show (2:Nat) ^ 60=1152921504606846976 by decide];rw [show (2:Nat) ^ 50=1125899906842624 by decide] at nv;dsimp only at nv;lia)
  exact ⟨d,_,rfl,B5.get hq,d,_,rfl,dp,d,qs,rfl,B6,vac ew⟩
 clear L5 B5
 rintro σ Ha ⟨d,ps,rfl,B5,L5⟩
 refine Ae (fun σ H'=>∃ (d:Addr) (ps:List (Int × Int)),σ=[some (.ref t),some (.ref w1),some (.int m),some (.ref w2),some (.ref d),some (.ref l),some (.int one),some (.int other),some (.int way)]/\Bw K m t a ns H H' d ps/\(2<=way->(∀ q∈ps,Nb q.2 50)/\one∈ps.map (·.1))) ?_ ?_ (by walk_at "sm")
 ·refine Af (fun e=>?_) (fun e=>⟨d,ps,rfl,B5,fun h=>L5 (by lia)⟩)
  have ew:=wy e
  obtain ⟨hb,h1⟩:=L5 (by lia)
  obtain ⟨⟨k,v⟩,hq,rfl⟩:=List.mem_map.mp h1
  obtain ⟨k0,k1⟩:=B5.ok.rg _ hq
  have nv:=hb _ hq
  obtain ⟨o2,v2,dg2,e2,hv2⟩:=B5.get2 other
  have nv2:Nb v2 50:=by
   rcases hv2 with rfl | h
   ·unfold Nb;decide
   ·exact hb _ h
  refine ⟨d,rfl,.inl ⟨_,.inl B5.at_⟩,o2,dg2,?_⟩
  rw [e2]
  refine ⟨d,.int v,rfl,B5.get hq,AT (show 2<=1000 by decide),fun p np=>?_⟩
  have Bp:=B5.same (Same.upd (o:=.tup [.int v2,.int v]) np)
  obtain ⟨qs,H6,dp,B6⟩:=Bp.put TP m6 (k:=k) (x:=v2) k0 k1 (nv2.up (by decide))
  obtain ⟨rs,H7,dp7,B7⟩:=B6.put TP m6 (k:=other) (x:=v) o0 o1 (Nb.up nv (by decide))
  exact ⟨_,.inr (.of AD),rfl,_,_,rfl,H6,dp,_,_,rfl,H7,dp7,rfl,d,rs,rfl,B7,vac ew⟩
 clear L5 B5
 rintro σ Ha ⟨d,ps,rfl,B5,L5⟩
 refine Ae (fun σ H'=>∃ (d:Addr) (ps:List (Int × Int)),σ=[some (.ref t),some (.ref w1),some (.int m),some (.ref w2),some (.ref d),some (.ref l),some (.int one),some (.int other),some (.int way)]/\Bw K m t a ns H H' d ps/\(3<=way->(∀ q∈ps,Nb q.2 50)/\one∈ps.map (·.1))) ?_ ?_ (by walk_at "sm")
 ·refine Af (fun e=>?_) (fun e=>⟨d,ps,rfl,B5,fun h=>L5 (by lia)⟩)
  have ew:=wy e
  obtain ⟨hb,h1⟩:=L5 (by lia)
  refine .inl ⟨_,B5.at_,fun o=>?_⟩
  have f0:∀ b o',b≠d->Ha b=some o'->upd Ha d (.frz o (.dK (dkW ps))) b=some o':=fun b o' hb e=>by rw [AG hb];exact e
  refine Fd (kvs:=dkW ps) (fun k ys H'=>(∀ b o',b≠d->Ha b=some o'->H' b=some o')/\H' d=some (.frz o (.dK (dkW ps)))/\∃ qs:List Addr,ys=qs.map V.ref/\qs.length=(ps.take k).length/\∀ (j:Nat) c q,qs[j]? = some c->ps[j]? = some q->H' c=some (.tup [.int q.1,.int (q.2 * 2)])) ⟨f0,AD,[],rfl,rfl,fun j c q h=>by simp at h⟩ (fun k ys H' _ ⟨_,g,_⟩=>g) (fun k ys H' hk ⟨_,_,qs,e,e2,_⟩=>by
   have hl:=B5.ok.len
   rw [List.length_take] at e2
   rw [e,List.length_map];exact Ad (by lia)) ?_ ?_
  ·rintro k r ys H' hr' ⟨fk,gdk,qs,rfl,hq,hT⟩
   obtain ⟨⟨x,v⟩,hx,rfl⟩:∃ y,ps[k]? = some y/\r=(.inl y.1,.int y.2):=by
    rw [List.getElem?_map] at hr'
    cases e:ps[k]? with
    | none=>rw [e] at hr';cases hr'
    | some y=>rw [e] at hr';cases hr';exact ⟨y,rfl,rfl⟩
   have hkl:=(List.getElem?_eq_some_iff.mp hx).1
   have hxm:(x,v)∈ps:=List.mem_of_getElem? hx
   have nv:Nb v 50:=hb _ hxm
   have dg:DGet H' d (.int x) (some (.int v)):=.inl ⟨_,.inl x,.inr ⟨o,gdk⟩,rfl,(Db B5.ok.nd hxm).symm⟩
   refine ⟨d,.int v,rfl,dg,Nb.okMul (nv.up (by decide)) (show Nb 2 4000 from (show Nb 2 2 by unfold Nb;decide).up (by decide)),AT (show 2<=1000 by decide),fun p hp=>?_⟩
   have sp:=Same.upd (o:=.tup [.int x,.int (v * 2)]) hp
   rw [List.length_take,Nat.min_eq_left (Nat.le_of_lt hkl)] at hq
   refine ⟨fun b o' hb e=>sp _ _ (fk b o' hb e),sp _ _ gdk,qs++[p],by rw [List.map_append];rfl,by rw [List.length_append,hq,List.length_take,Nat.min_eq_left hkl];rfl,fun j c q h1 h2=>?_⟩
   rcases Nat.lt_or_ge j k with z | z
   ·rw [List.getElem?_append_left (by lia)] at h1
    exact sp _ _ (hT j c q h1 h2)
   ·have hj:j < (qs++[p]).length:=(List.getElem?_eq_some_iff.mp h1).1
    rw [List.length_append,List.length_singleton] at hj
    have:j=k:=by lia
    subst this
    rw [<- hq,List.getElem?_append_right (Nat.le_refl _),Nat.sub_self] at h1
    cases h1
    rw [hx] at h2
    cases h2
    exact AD
  ·rintro ys H' ⟨fk,gdk,qs,rfl,hq,hT⟩ lp hlp
   rw [List.length_map,List.take_of_length_le (Nat.le_refl _)] at hq
   have sl:=Same.upd (o:=.lst (qs.map V.ref)) hlp
   have hl:=B5.ok.len
   have em:(ps.map fun q=>(q.1,q.2 * 2)).map (·.1)=ps.map (·.1):=by rw [List.map_map];rfl
   refine ⟨_,ps.map fun q=>(q.1,q.2 * 2),AD,by rw [List.length_map,List.length_map];exact hq,by rw [List.length_map];lia,fun j kv hkv=>?_,by rw [em];exact B5.ok.nd,fun d2 nd2=>?_⟩
   ·rw [List.getElem?_map] at hkv
    cases et:ps[j]? with
    | none=>rw [et] at hkv;cases hkv
    | some y =>
     rw [et] at hkv
     cases hkv
     have hj:j < qs.length:=by rw [hq];exact (List.getElem?_eq_some_iff.mp et).1
     exact ⟨qs[j],by rw [List.getElem?_map,List.getElem?_eq_getElem hj];rfl,.of (sl _ _ (hT j _ y (List.getElem?_eq_getElem hj) et))⟩
   ·have f9:∀ b o',b≠d->Ha b=some o'->upd (upd H' lp (.lst (qs.map V.ref))) d2 (.dK (dkW (ps.map fun q=>(q.1,q.2 * 2)))) b=some o':=fun b o' hb e=>Same.upd nd2 _ _ (sl _ _ (fk b o' hb e))
    have fr9:Frm t H (upd (upd H' lp (.lst (qs.map V.ref))) d2 (.dK (dkW (ps.map fun q=>(q.1,q.2 * 2))))):=fun b o' hb e=>f9 b o' (fun z=>by rw [z,B5.nd0] at e;cases e) (B5.fr b o' hb e)
    have nd3:H d2=none:=by
     cases e:H d2 with
     | none=>rfl
     | some o' =>
      have h1:d2≠t:=fun z=>by
       obtain ⟨_,_,_,_,_,h3⟩:=B5.tp.at_
       have:=sl _ _ (fk _ _ (Ne.symm (TP.neT B5.nd0)) h3)
       rw [z,this] at nd2
       cases nd2
      have h2:=B5.fr d2 o' h1 e
      have:=sl _ _ (fk _ _ (fun z=>by rw [z,B5.nd0] at e;cases e) h2)
      rw [this] at nd2
      cases nd2
    refine ⟨d2,_,rfl,⟨?_,fr9,AD,nd3,⟨by rw [em];exact B5.ok.nd,fun q hq'=>?_,fun q hq'=>?_⟩⟩,vac ew⟩
    ·obtain ⟨i,r,c,h1,h2,h3⟩:=B5.tp.at_
     exact ⟨⟨i,r,c,h1,h2,f9 _ _ (Ne.symm (TP.neT B5.nd0)) h3⟩,TP.scr.stay fun o n e=>fr9 a o n e⟩
    ·obtain ⟨y,hy,rfl⟩:=List.mem_map.mp hq'
     exact B5.ok.rg y hy
    ·obtain ⟨y,hy,rfl⟩:=List.mem_map.mp hq'
     have nv:Nb y.2 50:=hb y hy
     unfold Nb at *
     rw [show (2:Nat) ^ 60=1152921504606846976 by decide]
     rw [show (2:Nat) ^ 50=1125899906842624 by decide] at nv
     show (y.2 * 2).natAbs < _
     lia
 clear L5 B5
 rintro σ Ha ⟨d,ps,rfl,B5,L5⟩
 refine Ae (fun σ H'=>∃ (d:Addr) (ps:List (Int × Int)),σ=[some (.ref t),some (.ref w1),some (.int m),some (.ref w2),some (.ref d),some (.ref l),some (.int one),some (.int other),some (.int way)]/\Bw K m t a ns H H' d ps/\(4<=way->(∀ q∈ps,Nb q.2 50)/\one∈ps.map (·.1))) ?_ ?_ (by walk_at "sm")
 ·refine Af (fun e=>?_) (fun e=>⟨d,ps,rfl,B5,fun h=>L5 (by lia)⟩)
  have ew:=wy e
  obtain ⟨hb,h1⟩:=L5 (by lia)
  refine .inl ⟨_,B5.at_,fun o=>?_⟩
  have f0:∀ b o',b≠d->Ha b=some o'->upd Ha d (.frz o (.dK (dkW ps))) b=some o':=fun b o' hb e=>by rw [AG hb];exact e
  refine Fd (kvs:=dkW ps) (fun k ys H'=>(∀ b o',b≠d->Ha b=some o'->H' b=some o')/\H' d=some (.frz o (.dK (dkW ps)))/\∃ qs:List Addr,ys=qs.map V.ref/\qs.length=(ps.take k).length/\∀ (j:Nat) c q,qs[j]? = some c->ps[j]? = some q->H' c=some (.tup [.int q.1,.int (q.2 / 2)])) ⟨f0,AD,[],rfl,rfl,fun j c q h=>by simp at h⟩ (fun k ys H' _ ⟨_,g,_⟩=>g) (fun k ys H' hk ⟨_,_,qs,e,e2,_⟩=>by
   have hl:=B5.ok.len
   rw [List.length_take] at e2
   rw [e,List.length_map];exact Ad (by lia)) ?_ ?_
  ·rintro k r ys H' hr' ⟨fk,gdk,qs,rfl,hq,hT⟩
   obtain ⟨⟨x,v⟩,hx,rfl⟩:∃ y,ps[k]? = some y/\r=(.inl y.1,.int y.2):=by
    rw [List.getElem?_map] at hr'
    cases e:ps[k]? with
    | none=>rw [e] at hr';cases hr'
    | some y=>rw [e] at hr';cases hr';exact ⟨y,rfl,rfl⟩
   have hkl:=(List.getElem?_eq_some_iff.mp hx).1
   have hxm:(x,v)∈ps:=List.mem_of_getElem? hx
   have nv:Nb v 50:=hb _ hxm
   have dg:DGet H' d (.int x) (some (.int v)):=.inl ⟨_,.inl x,.inr ⟨o,gdk⟩,rfl,(Db B5.ok.nd hxm).symm⟩
   refine ⟨d,.int v,rfl,dg,⟨by decide,by decide⟩,AT (show 2<=1000 by decide),fun p hp=>?_⟩
   have sp:=Same.upd (o:=.tup [.int x,.int (v / 2)]) hp
   rw [List.length_take,Nat.min_eq_left (Nat.le_of_lt hkl)] at hq
   refine ⟨fun b o' hb e=>sp _ _ (fk b o' hb e),sp _ _ gdk,qs++[p],by rw [List.map_append];rfl,by rw [List.length_append,hq,List.length_take,Nat.min_eq_left hkl];rfl,fun j c q h1 h2=>?_⟩
   rcases Nat.lt_or_ge j k with z | z
   ·rw [List.getElem?_append_left (by lia)] at h1
    exact sp _ _ (hT j c q h1 h2)
   ·have hj:j < (qs++[p]).length:=(List.getElem?_eq_some_iff.mp h1).1
    rw [List.length_append,List.length_singleton] at hj
    have:j=k:=by lia
    subst this
    rw [<- hq,List.getElem?_append_right (Nat.le_refl _),Nat.sub_self] at h1
    cases h1
    rw [hx] at h2
    cases h2
    exact AD
  ·rintro ys H' ⟨fk,gdk,qs,rfl,hq,hT⟩ lp hlp
   rw [List.length_map,List.take_of_length_le (Nat.le_refl _)] at hq
   have sl:=Same.upd (o:=.lst (qs.map V.ref)) hlp
   have hl:=B5.ok.len
   have em:(ps.map fun q=>(q.1,q.2 / 2)).map (·.1)=ps.map (·.1):=by rw [List.map_map];rfl
   refine ⟨_,ps.map fun q=>(q.1,q.2 / 2),AD,by rw [List.length_map,List.length_map];exact hq,by rw [List.length_map];lia,fun j kv hkv=>?_,by rw [em];exact B5.ok.nd,fun d2 nd2=>?_⟩
   ·rw [List.getElem?_map] at hkv
    cases et:ps[j]? with
    | none=>rw [et] at hkv;cases hkv
    | some y =>
     rw [et] at hkv
     cases hkv
     have hj:j < qs.length:=by rw [hq];exact (List.getElem?_eq_some_iff.mp et).1
     exact ⟨qs[j],by rw [List.getElem?_map,List.getElem?_eq_getElem hj];rfl,.of (sl _ _ (hT j _ y (List.getElem?_eq_getElem hj) et))⟩
   ·have f9:∀ b o',b≠d->Ha b=some o'->upd (upd H' lp (.lst (qs.map V.ref))) d2 (.dK (dkW (ps.map fun q=>(q.1,q.2 / 2)))) b=some o':=fun b o' hb e=>Same.upd nd2 _ _ (sl _ _ (fk b o' hb e))
    have fr9:Frm t H (upd (upd H' lp (.lst (qs.map V.ref))) d2 (.dK (dkW (ps.map fun q=>(q.1,q.2 / 2))))):=fun b o' hb e=>f9 b o' (fun z=>by rw [z,B5.nd0] at e;cases e) (B5.fr b o' hb e)
    have nd3:H d2=none:=by
     cases e:H d2 with
     | none=>rfl
     | some o' =>
      have h1:d2≠t:=fun z=>by
       obtain ⟨_,_,_,_,_,h3⟩:=B5.tp.at_
       have:=sl _ _ (fk _ _ (Ne.symm (TP.neT B5.nd0)) h3)
       rw [z,this] at nd2
       cases nd2
      have h2:=B5.fr d2 o' h1 e
      have:=sl _ _ (fk _ _ (fun z=>by rw [z,B5.nd0] at e;cases e) h2)
      rw [this] at nd2
      cases nd2
    refine ⟨d2,_,rfl,⟨?_,fr9,AD,nd3,⟨by rw [em];exact B5.ok.nd,fun q hq'=>?_,fun q hq'=>?_⟩⟩,vac ew⟩
    ·obtain ⟨i,r,c,h1,h2,h3⟩:=B5.tp.at_
     exact ⟨⟨i,r,c,h1,h2,f9 _ _ (Ne.symm (TP.neT B5.nd0)) h3⟩,TP.scr.stay fun o n e=>fr9 a o n e⟩
    ·obtain ⟨y,hy,rfl⟩:=List.mem_map.mp hq'
     exact B5.ok.rg y hy
    ·obtain ⟨y,hy,rfl⟩:=List.mem_map.mp hq'
     have nv:Nb y.2 50:=hb y hy
     unfold Nb at *
     rw [show (2:Nat) ^ 60=1152921504606846976 by decide]
     rw [show (2:Nat) ^ 50=1125899906842624 by decide] at nv
     show (y.2 / 2).natAbs < _
     lia
 clear L5 B5
 rintro σ Ha ⟨d,ps,rfl,B5,L5⟩
 refine Ae (fun σ H'=>∃ (d:Addr) (ps:List (Int × Int)),σ=[some (.ref t),some (.ref w1),some (.int m),some (.ref w2),some (.ref d),some (.ref l),some (.int one),some (.int other),some (.int way)]/\Bw K m t a ns H H' d ps/\(5<=way->∀ q∈ps,Nb q.2 50)) ?_ ?_ (by walk_at "sm")
 ·refine Af (fun e=>?_) (fun e=>⟨d,ps,rfl,B5,fun h=>(L5 (by lia)).1⟩)
  have ew:=wy e
  obtain ⟨hb,h1⟩:=L5 (by lia)
  obtain ⟨⟨k,v⟩,hq,rfl⟩:=List.mem_map.mp h1
  refine ⟨d,rfl,.inl ⟨_,.inl B5.at_⟩,_,.inl k,.int v,B5.at_,rfl,Db B5.ok.nd hq,d,ps.filter fun q=>decide (q.1≠k),rfl,?_,vac ew⟩
  have ed:CM (dkW ps) (Sum.inl k)=dkW (ps.filter fun q=>decide (q.1≠k)):=by
   unfold CM dkW
   rw [List.filter_map]
   congr 1
   refine List.filter_congr fun q _=>?_
   show decide ((Sum.inl q.1:Key)≠Sum.inl k)=decide (q.1≠k)
   rw [decide_eq_decide]
   exact ⟨fun h z=>h (by rw [z]),fun h z=>h (by injection z)⟩
  rw [ed]
  have fr9:Frm t H (upd Ha d (.dK (dkW (ps.filter fun q=>decide (q.1≠k))))):=CS B5.fr B5.nd0
  exact ⟨DI TP B5.tp fr9 (TP.neT B5.nd0),fr9,AD,B5.nd0,⟨B5.ok.nd.sublist (List.filter_sublist.map _),fun q hq=>B5.ok.rg q (List.mem_filter.mp hq).1,fun q hq=>B5.ok.nb q (List.mem_filter.mp hq).1⟩⟩
 clear L5 B5
 rintro σ Ha ⟨d,ps,rfl,B5,L5⟩
 refine Ae (fun σ H'=>∃ (d:Addr) (ps:List (Int × Int)),σ=[some (.ref t),some (.ref w1),some (.int m),some (.ref w2),some (.ref d),some (.ref l),some (.int one),some (.int other),some (.int way)]/\Bw K m t a ns H H' d ps) ?_ ?_ (by walk_at "sm")
 ·refine Af (fun e=>?_) (fun e=>⟨d,ps,rfl,B5⟩)
  have hb:=L5 (by have:=wy e;lia)
  obtain ⟨o2,v2,dg2,e2,hv2⟩:=B5.get2 other
  refine ⟨d,rfl,.inl ⟨_,.inl B5.at_⟩,o2,dg2,?_⟩
  rw [e2]
  refine ⟨by lia,by lia,fun H6 s6=>⟨AT (show 3<=1000 by decide),fun l3 nl3=>?_⟩⟩
  rw [hm2]
  have B6:=B5.same s6
  have B7:=B6.same (Same.upd (o:=.lst [.int 2,.int (-2),.int ((2 ^ m:Nat):Int)]) nl3)
  have nlt:=B6.tp.neT nl3
  refine ⟨a,ns,B7.tp,A7 (by decide) (by decide),fun c H8 c0 c1 T8 f8=>?_⟩
  have B8:=B7.next TP T8 f8
  have g8:H8 l3=some (.lst [.int 2,.int (-2),.int ((2 ^ m:Nat):Int)]):=by rw [f8 l3 nlt];exact AD
  obtain ⟨z,hz,hm⟩:=EF (xs:=[.int 2,.int (-2),.int ((2 ^ m:Nat):Int)]) c0 c1
  obtain ⟨y,rfl,y0,y1⟩:∃ y,z=.int y /\ -64<=y/\y<=64:=by
   simp only [List.mem_cons,List.mem_nil_iff,or_false] at hm
   rcases hm with rfl | rfl | rfl
   ·exact ⟨_,rfl,by decide,by decide⟩
   ·exact ⟨_,rfl,by decide,by decide⟩
   ·exact ⟨_,rfl,by lia,by lia⟩
  have nv2:Nb v2 50:=by
   rcases hv2 with rfl | h
   ·unfold Nb;decide
   ·exact hb _ h
  obtain ⟨qs,H9,dp,B9⟩:=B8.put TP m6 (k:=other) (x:=v2+y) o0 o1 (by unfold Nb at *;rw [show (2:Nat) ^ 60=1152921504606846976 by decide];rw [show (2:Nat) ^ 50=1125899906842624 by decide] at nv2;lia)
  exact ⟨_,_,.inl (.of g8),hz,d,_,rfl,dp,d,qs,rfl,B9⟩
 clear L5 B5
 rintro σ Ha ⟨d,ps,rfl,B5⟩
 have hl:=B5.ok.len
 refine ⟨m,ps,rfl,m6,B5.at_,B5.ok.nd,by lia,B5.ok.rg,fun v H4 f4 S=>?_⟩
 have fr4:Frm t H H4:=fun b o hb e=>f4 b o (fun z=>by rw [z,B5.nd0] at e;cases e) (B5.fr b o hb e)
 refine q (atP ps) v H4 B5.ok.at ?_ fr4 S
 obtain ⟨i,r,c,h1,h2,h3⟩:=B5.tp.at_
 exact ⟨⟨i,r,c,h1,h2,f4 _ _ (Ne.symm (TP.neT B5.nd0)) h3⟩,TP.scr.stay fun o n e=>fr4 a o n e⟩
theorem J4 (n:Nat) (bs:List Bool):AE (fun j=>wt n (Aq bs) j * wt n (Aq bs) j) (2 ^ n)=((2 ^ n:Nat):Int) * ((2 ^ n:Nat):Int):=by
 rw [FA]
 congr 1
 rw [Ac (g:=fun _=>1) fun x _=>by unfold Aq Bd;cases bs.getD x false <;> rfl,Ho,Int.mul_one]
theorem Tape.lst {K:W.Frag} {H:Hp} {t a:Addr} {ns:List Int} (T:Tape K H t a ns):∃ zs,H t=some (.lst zs):=by
 obtain ⟨i,r,c,_,_,h⟩:=T.at_
 exact ⟨_,h⟩
theorem Mq {H H':Hp} {v:V} {m:Nat} {t a:Addr} {ns:List Int} {ts:List (Nat × Int)} (S:SumAt K H v m ts) (F:Tape K H t a ns) (f:Frm t H H'):SumAt K H' v m ts:=.of (Rep.frm f F.lst _ _ (by have e:=D4 ts;simp [CP,Bt,BB,e]) S.rep)
theorem NZ {m:Nat} (bs:List Bool):AH (wt m (Aq bs)) (2 ^ m)≠[]:=fun z=>by
 have h:=J4 m bs
 have h0:∀ j,j < 2 ^ m->wt m (Aq bs) j=0:=fun j hj=>Decidable.byContradiction fun e=>by
  have:=D8 hj e
  rw [z] at this
  cases this
 rw [Ac (g:=fun _=>0) fun j hj=>by rw [h0 j hj];rfl,Ev] at h
 have h1:=Nat.two_pow_pos m
 have:0 < ((2 ^ m:Nat):Int) * ((2 ^ m:Nat):Int):=Int.mul_pos (by lia) (by lia)
 lia
def Wh (K:W.Frag) (H:Hp) (v:V):Prop:=∃ (m:Nat) (f:Nat->Int),SumAt K H v m (AH f (2 ^ m))/\m<=6/\∀ j,Nb (f j) 60
theorem Wh.same {H H':Hp} {v:V} (h:Wh K H v) (s:Same H H'):Wh K H' v:=let ⟨m,f,a,b⟩:=h;⟨m,f,a.same s,b⟩
theorem Wh.frm {H H':Hp} {v:V} {t a:Addr} {ns:List Int} (h:Wh K H v) (F:Tape K H t a ns) (f:Frm t H H'):Wh K H' v:=let ⟨m,g,x,b⟩:=h;⟨m,g,Mq x F f,b⟩
theorem NL {H H':Hp} {v:V} {m:Nat} {l:Addr} {ts:List (Nat × Int)} (S:SumAt K H v m ts) (F:∃ zs,H l=some (.lst zs)) (f:Frm l H H'):SumAt K H' v m ts:=.of (Rep.frm f F _ _ (by have e:=D4 ts;simp [CP,Bt,BB,e]) S.rep)
theorem HB:∀ n,AH (fun _=>0) n=[]
 | 0=>rfl
 | n+1=>by
  show AH (fun _=>0) n++(if (0:Int)=0 then [] else [(n,0)])=[]
  rw [HB n,if_pos rfl]
  rfl
theorem Mr (m:Nat) (f:Nat->Int):Bo m f=decide (∀ p,p < 2 ^ m->wt m f p * wt m f p=((2 ^ m:Nat):Int) * ((2 ^ m:Nat):Int)):=by
 unfold Bo
 rw [decide_eq_decide]
 exact Kk m f
theorem Mu:FnOk P w K mg base CX0 6 T.f_law T.d_law ["_law_script"] (EH K):=by
 have G_z21:=KO (P:=P) (w:=w) (base:=base) T;have G_z18:=Ic (P:=P) (w:=w) (base:=base) T;have G_z25:=NA (P:=P) (w:=w) (base:=base) T;have G_z13:=OP (P:=P) (w:=w) (base:=base) T;have G_z20:=Jb (P:=P) (w:=w) (base:=base) T;have G_z17:=Kp (P:=P) (w:=w) (base:=base) T;have G_z10:=LW (P:=P) (w:=w) (base:=base) T;have G_z11:=Jp (P:=P) (w:=w) (base:=base) T;have G_z12:=NI (P:=P) (w:=w) (base:=base) T
 refine T.F_law.ok sc_law (fun vs H Q E h=>by obtain ⟨a,ns,rfl,_⟩:=h;rfl) (fun cdv A outer s H vs Q E hr h=>?_)
 have hu:=Ak hr
 have mo1:AR (Cu K):=Lj
 have mo2:AR (Bn K):=LI
 have mo3:AR (Cn K):=No
 have mo4:AR (Cw K):=Md
 have mo5:AR (CZ K):=Nu
 have mo6:AR (C9 K):=KZ
 have mo7:AR (Cs K):=J1
 have hr_z21:=hr.mono (show 1<=_ by decide);have hr_z18:=hr.mono (show 2<=_ by decide);have hr_z25:=hr.mono (show 4<=_ by decide);have hr_z13:=hr.mono (show 4<=_ by decide);have hr_z20:=hr.mono (show 2<=_ by decide);have hr_z17:=hr.mono (show 2<=_ by decide);have hr_z10:=hr.mono (show 4<=_ by decide);have hr_z11:=hr.mono (show 5<=_ by decide);have hr_z12:=hr.mono (show 4<=_ by decide)
 obtain ⟨a,ns,rfl,hsq,hlen,q⟩:=h
 refine ⟨_,(@AF _ _ _ _ _ (@AO _ _ 1 _ _ _ _ sc_law.nd rfl (by right) (AI G_z21 hr_z21 rfl T.m_z21 T.F_z21.kp T.b_z21 .nil AJ (AA (vv 0) AC)) (by rfl) (by symm)) (@AF _ _ _ _ _ (@BK _ _ _ _ _ _ _ _ PassesOwn.never rfl (Ar rfl T.z_range (AA AB AC)) (AQ (i:=2) sc_law.nd rfl (by right)) (@AF _ _ _ _ _ (@AO _ _ 3 _ _ _ _ sc_law.nd rfl (by right) (AI G_z18 hr_z18 rfl T.m_z18 T.F_z18.kp T.b_z18 .nil AJ (AA (vv 1) (AA (vv 2) AC))) (by rfl) (by symm)) (@AF _ _ _ _ _ (@AO _ _ 4 _ _ _ _ sc_law.nd rfl (by right) (AI G_z25 hr_z25 rfl T.m_z25 T.F_z25.kp T.b_z25 .nil AJ (AA (AI G_z13 hr_z13 rfl T.m_z13 T.F_z13.kp T.b_z13 .nil AJ (AA (vv 1) (AA (vv 3) AC))) AC)) (by rfl) (by symm)) (@AF _ _ _ _ _ (@AO _ _ 5 _ _ _ _ sc_law.nd rfl (by right) (@A3 _ _ _ _ (AA (vv 4) (AA (AI G_z20 hr_z20 rfl T.m_z20 T.F_z20.kp T.b_z20 .nil AJ (AA (vv 1) (AA (vv 4) AC))) (AA (AI G_z17 hr_z17 rfl T.m_z17 T.F_z17.kp T.b_z17 .nil AJ (AA (vv 1) (AA (vv 3) AC))) (AA (BY (AA (vv 3) (AA (BY AC) AC))) AC))))) (by rfl) (by symm)) (@AF _ _ _ _ _ (@FC _ _ _ _ (GY (K:=K) (vv 5) (AA (AI G_z10 hr_z10 rfl T.m_z10 T.F_z10.kp T.b_z10 .nil AJ (AA (vv 1) (AA (Ap (GR rfl) rfl T.z_min (by rfl) (AA (vv 3) (AA AB AC))) AC))) AC)) (by rfl)) (@AL _ _ _ (@BK _ _ _ _ _ _ _ _ PassesOwn.never rfl (DN (K:=K) (vv 5)) (AQ (i:=6) sc_law.nd rfl (by right)) (@AF _ _ _ _ _ (@AO _ _ 7 _ _ _ _ sc_law.nd rfl (by right) (AI G_z11 hr_z11 rfl T.m_z11 T.F_z11.kp T.b_z11 .nil AJ (AA (vv 6) AC)) (by rfl) (by symm)) (@AL _ _ _ (@At _ _ _ _ _ _ _ _ (PW.pt (JO (KP (JU (Ap (ME (K:=K)) rfl T.z_isinstance (by rfl) (AA (vv 7) (AA (Lf (v:=.ty "bool") rfl T.z_bool (by rfl) rfl) AC))))) (Jo (Al (kNe (K:=K) hu) (vv 7) (AI G_z12 hr_z12 rfl T.m_z12 T.F_z12.kp T.b_z12 .nil AJ (AA (vv 6) AC)))))) (@AL _ _ _ (@AZ _ _ _ _ DH)) Au))) (by intro _;rfl))))))) (by intro _;rfl)) (@AL _ _ _ (@AZ _ _ _ _ DH)))),?_⟩
 refine fun p hp=>?_
 refine ⟨4,rfl,by decide,by decide,?_⟩
 refine Bc (fun i σ H'=>∃ z2 z3 z4 z5 z6 z7:Option V,σ=[some (.ref a),some (.ref p),z2,z3,z4,z5,z6,z7]/\Tape K H' p a ns) ⟨none,none,none,none,none,none,rfl,NU hp hsq⟩ ?_ (fun σ H' _=>q H')
 rintro i σ H1 hi ⟨z2,z3,z4,z5,z6,z7,rfl,T1⟩
 dsimp only [AS]
 refine ⟨a,ns,T1,by lia,fun n H2 n1 n6 T2 f2=>?_⟩
 dsimp only [AS]
 refine ⟨a,ns,n,T2,rfl,n1,n6,fun bs pt H3 hb hp3 g3 T3 f3=>⟨n,bs,n1,n6,hb,.of g3,fun v H4 s4 r4=>?_⟩⟩
 dsimp only [AS]
 have T4:=T3.same s4
 have S4:=SumAt.of r4
 have h64:2 ^ n<=64:=Nat.pow_le_pow_right (n:=2) (by decide) n6
 have g50:∀ j,Nb (wt n (Aq bs) j) 50:=fun j=>by
  have:=OH n6 bs j
  unfold Nb
  rw [show (2:Nat) ^ 50=1125899906842624 by decide]
  lia
 have W4:Wh K H4 v:=⟨n,_,S4,n6,fun j=>(g50 j).up (by decide)⟩
 refine ⟨a,ns,n,wt n (Aq bs),T4,S4,n1,n6,g50,NZ bs,fun f1 v1 H5 nf1 T5 fr5 S5=>⟨a,ns,n,T5,rfl,n1,n6,fun f2 v2 H6 nf2 T6 fr6 S6=>?_⟩⟩
 have W5:Wh K H5 v1:=⟨n,_,S5,n6,nf1⟩
 have W6:Wh K H6 v2:=⟨n,_,S6,n6,nf2⟩
 have W64:=(W4.frm T4 fr5).frm T5 fr6
 have W65:=W5.frm T5 fr6
 refine ⟨AT (show 0<=1000 by decide),fun e0 ne0=>⟨AT (show 2<=1000 by decide),fun e1 ne1=>⟨AT (show 4<=1000 by decide),fun l nl=>?_⟩⟩⟩
 have s7:=(Same.upd (o:=.tup []) ne0).trans (Same.upd (o:=.tup [.int n,.ref e0]) ne1)
 have W7:Wh K (upd (upd H6 e0 (.tup [])) e1 (.tup [.int n,.ref e0])) (.ref e1):=⟨n,fun _=>0,⟨e1,e0,[],rfl,.of AD,.of (Same.upd ne1 _ _ AD),by rw [HB];exact BN⟩,n6,fun j=>(show Nb 0 60 by unfold Nb;decide)⟩
 have s8:=Same.upd (o:=.lst [v,v1,v2,.ref e1]) nl
 have nlt:=(T6.same s7).neT nl
 have W84:=(W64.same s7).same s8
 have W85:=(W65.same s7).same s8
 have W86:=(W6.same s7).same s8
 have W87:=W7.same s8
 have T8:=(T6.same s7).same s8
 have g8:=AD (H:=upd (upd H6 e0 (.tup [])) e1 (.tup [.int n,.ref e0])) (a:=l) (o:=.lst [v,v1,v2,.ref e1])
 generalize upd (upd (upd H6 e0 (.tup [])) e1 (.tup [.int n,.ref e0])) l (.lst [v,v1,v2,.ref e1])=H8 at *
 dsimp only [AS]
 refine Ae (fun σ H'=>∃ v5:V,σ=[some (.ref a),some (.ref p),some (.int (0+(i:Int))),some (.int n),some v,some (.ref l),z6,z7]/\Tape K H' p a ns/\H' l=some (.lst [v,v1,v2,.ref e1,v5])/\∀ x∈[v,v1,v2,.ref e1,v5],Wh K H' x) ?_ ?_ (by walk_at "sm")
 ·refine ⟨.inl ⟨rfl,_,.of g8⟩,a,ns,min n 3,T8,by lia,by lia,by lia,fun f3 v3 H9 nf3 T9 fr9 S9=>?_⟩
  have g9:=fr9 _ _ nlt g8
  refine ⟨_,g9,Ad (show 4<=1000 by decide),v3,rfl,?_,AD,fun x hx=>?_⟩
  ·exact DI T6 T9 (CS ((s7.trans s8).frm.trans fr9) (s7.free nl)) nlt
  have frl:Frm l H9 (upd H9 l (.lst [v,v1,v2,.ref e1,v3])):=fun b o nb e=>by rw [AG nb];exact e
  have go:∀ x,Wh K H9 x->Wh K (upd H9 l (.lst [v,v1,v2,.ref e1,v3])) x:=fun x ⟨m,g,S,b⟩=>⟨m,g,NL S ⟨_,g9⟩ frl,b⟩
  refine go x ?_
  simp only [List.mem_cons,List.mem_nil_iff,or_false] at hx
  rcases hx with rfl | rfl | rfl | rfl | rfl
  ·exact W84.frm T8 fr9
  ·exact W85.frm T8 fr9
  ·exact W86.frm T8 fr9
  ·exact W87.frm T8 fr9
  ·exact ⟨min n 3,f3,S9,by lia,nf3⟩
 rintro σ H9 ⟨v5,rfl,T9,g9,W9⟩
 refine .inl ⟨⟨_,.of g9⟩,?_⟩
 refine L8 (xs:=[v,v1,v2,.ref e1,v5]) (fun j σ H'=>∃ z6 z7:Option V,σ=[some (.ref a),some (.ref p),some (.int (0+(i:Int))),some (.int n),some v,some (.ref l),z6,z7]/\Same H9 H') ⟨_,_,rfl,Same.refl _⟩ (fun j σ H' _ ⟨_,_,_,s'⟩=>.of (s' _ _ g9)) ?_ (fun σ H' ⟨z6,z7,e,s'⟩=>⟨_,_,_,_,_,_,e,T9.same s'⟩)
 rintro j x σ H' hx ⟨z6,z7,rfl,s'⟩
 obtain ⟨m,f,Sx,m6,hf⟩:=(W9 x (List.mem_of_getElem? hx)).same s'
 dsimp only [AS]
 refine ⟨m,f,Sx,m6,hf,fun H10 s10=>?_⟩
 dsimp only [AS]
 refine ⟨by decide,true,rfl,?_⟩
 refine ⟨m,f,Sx.same s10,m6,hf,fun H11 s11=>?_⟩
 rw [<- Mr]
 refine Af (fun e=>?_) (fun e=>⟨_,_,rfl,s'.trans (s10.trans s11)⟩)
 exact absurd (show (true ^^ (Bo m f == Bo m f))=true from e) (by simp)
end
theorem all_mk {l:W.OpenLaw} {w:World} {K:W.Frag} {h:Heap} {mg:Str->Option Value} {fa:Addr} (X:K.In h) (G:h.Ns mainGlobals mg) (hfa:mg "law" = some (.ref fa))
 {f0 f1 f2 f3 f4 f5 f6 f7 f8 f9 f10 f11 f12 f13 f14 f15 f16 f17 f18 f19:Addr} {oc0 kV0 dc0 pm0 cd0 ct0 oc1 kV1 dc1 pm1 cd1 ct1 oc2 kV2 dc2 pm2 cd2 ct2 oc3 kV3 dc3 pm3 cd3 ct3 oc4 kV4 dc4 pm4 cd4 ct4 oc5 kV5 dc5 pm5 cd5 ct5 oc6 kV6 dc6 pm6 cd6 ct6 oc7 kV7 dc7 pm7 cd7 ct7 oc8 kV8 dc8 pm8 cd8 ct8 oc9 kV9 dc9 pm9 cd9 ct9 oc10 kV10 dc10 pm10 cd10 ct10 oc11 kV11 dc11 pm11 cd11 ct11 oc12 kV12 dc12 pm12 cd12 ct12 oc13 kV13 dc13 pm13 cd13 ct13 oc14 kV14 dc14 pm14 cd14 ct14 oc15 kV15 dc15 pm15 cd15 ct15 oc16 kV16 dc16 pm16 cd16 ct16 oc17 kV17 dc17 pm17 cd17 ct17 oc18 kV18 dc18 pm18 cd18 ct18 oc19 kV19 dc19 pm19 cd19 ct19:Value} {od0 an0 od1 an1 od2 an2 od3 an3 od4 an4 od5 an5 od6 an6 od7 an7 od8 an8 od9 an9 od10 an10 od11 an11 od12 an12 od13 an13 od14 an14 od15 an15 od16 an16 od17 an17 od18 an18 od19 an19:Option Addr} {sl0 sl1 sl2 sl3 sl4 sl5 sl6 sl7 sl8 sl9 sl10 sl11 sl12 sl13 sl14 sl15 sl16 sl17 sl18 sl19:Array (Option Value)}
 (a0:W.nsIn K mainGlobals "two_to" = some (some (.ref f0)))
 (l0:K.lookup f0=some ⟨oc0,od0,.func (W.fnOf "two_to" "two_to" (AW C6) (AV C6) (AK C6) .none kV0 dc0 pm0 an0 cd0 ct0),sl0⟩)
 (c0:W.codeIn K cd0 "two_to" = true)
 (k0:W.keepIn K (.ref f0)=true)
 (a1:W.nsIn K mainGlobals "power_of" = some (some (.ref f1)))
 (l1:K.lookup f1=some ⟨oc1,od1,.func (W.fnOf "power_of" "power_of" (AW Co) (AV Co) (AK Co) .none kV1 dc1 pm1 an1 cd1 ct1),sl1⟩)
 (c1:W.codeIn K cd1 "power_of" = true)
 (k1:W.keepIn K (.ref f1)=true)
 (a2:W.nsIn K mainGlobals "weights_of" = some (some (.ref f2)))
 (l2:K.lookup f2=some ⟨oc2,od2,.func (W.fnOf "weights_of" "weights_of" (AW Cr) (AV Cr) (AK Cr) .none kV2 dc2 pm2 an2 cd2 ct2),sl2⟩)
 (c2:W.codeIn K cd2 "weights_of" = true)
 (k2:W.keepIn K (.ref f2)=true)
 (a3:W.nsIn K mainGlobals "is_one_squared" = some (some (.ref f3)))
 (l3:K.lookup f3=some ⟨oc3,od3,.func (W.fnOf "is_one_squared" "is_one_squared" (AW Ce) (AV Ce) (AK Ce) .none kV3 dc3 pm3 an3 cd3 ct3),sl3⟩)
 (c3:W.codeIn K cd3 "is_one_squared" = true)
 (k3:W.keepIn K (.ref f3)=true)
 (a4:W.nsIn K mainGlobals "times" = some (some (.ref f4)))
 (l4:K.lookup f4=some ⟨oc4,od4,.func (W.fnOf "times" "times" (AW Ck) (AV Ck) (AK Ck) .none kV4 dc4 pm4 an4 cd4 ct4),sl4⟩)
 (c4:W.codeIn K cd4 "times" = true)
 (k4:W.keepIn K (.ref f4)=true)
 (a5:W.nsIn K mainGlobals "met" = some (some (.ref f5)))
 (l5:K.lookup f5=some ⟨oc5,od5,.func (W.fnOf "met" "met" (AW Cb) (AV Cb) (AK Cb) .none kV5 dc5 pm5 an5 cd5 ct5),sl5⟩)
 (c5:W.codeIn K cd5 "met" = true)
 (k5:W.keepIn K (.ref f5)=true)
 (a6:W.nsIn K mainGlobals "_law_tape" = some (some (.ref f6)))
 (l6:K.lookup f6=some ⟨oc6,od6,.func (W.fnOf "_law_tape" "_law_tape" (AW C7) (AV C7) (AK C7) .none kV6 dc6 pm6 an6 cd6 ct6),sl6⟩)
 (c6:W.codeIn K cd6 "_law_tape" = true)
 (k6:W.keepIn K (.ref f6)=true)
 (a7:W.nsIn K mainGlobals "_law_next" = some (some (.ref f7)))
 (l7:K.lookup f7=some ⟨oc7,od7,.func (W.fnOf "_law_next" "_law_next" (AW Ct) (AV Ct) (AK Ct) .none kV7 dc7 pm7 an7 cd7 ct7),sl7⟩)
 (c7:W.codeIn K cd7 "_law_next" = true)
 (k7:W.keepIn K (.ref f7)=true)
 (a8:W.nsIn K mainGlobals "_law_two" = some (some (.ref f8)))
 (l8:K.lookup f8=some ⟨oc8,od8,.func (W.fnOf "_law_two" "_law_two" (AW C4) (AV C4) (AK C4) .none kV8 dc8 pm8 an8 cd8 ct8),sl8⟩)
 (c8:W.codeIn K cd8 "_law_two" = true)
 (k8:W.keepIn K (.ref f8)=true)
 (a9:W.nsIn K mainGlobals "_law_bits" = some (some (.ref f9)))
 (l9:K.lookup f9=some ⟨oc9,od9,.func (W.fnOf "_law_bits" "_law_bits" (AW DA) (AV DA) (AK DA) .none kV9 dc9 pm9 an9 cd9 ct9),sl9⟩)
 (c9:W.codeIn K cd9 "_law_bits" = true)
 (k9:W.keepIn K (.ref f9)=true)
 (a10:W.nsIn K mainGlobals "_law_sign" = some (some (.ref f10)))
 (l10:K.lookup f10=some ⟨oc10,od10,.func (W.fnOf "_law_sign" "_law_sign" (AW Cm) (AV Cm) (AK Cm) .none kV10 dc10 pm10 an10 cd10 ct10),sl10⟩)
 (c10:W.codeIn K cd10 "_law_sign" = true)
 (k10:W.keepIn K (.ref f10)=true)
 (a11:W.nsIn K mainGlobals "_law_table" = some (some (.ref f11)))
 (l11:K.lookup f11=some ⟨oc11,od11,.func (W.fnOf "_law_table" "_law_table" (AW Cf) (AV Cf) (AK Cf) .none kV11 dc11 pm11 an11 cd11 ct11),sl11⟩)
 (c11:W.codeIn K cd11 "_law_table" = true)
 (k11:W.keepIn K (.ref f11)=true)
 (a12:W.nsIn K mainGlobals "_law_sum" = some (some (.ref f12)))
 (l12:K.lookup f12=some ⟨oc12,od12,.func (W.fnOf "_law_sum" "_law_sum" (AW C5) (AV C5) (AK C5) .none kV12 dc12 pm12 an12 cd12 ct12),sl12⟩)
 (c12:W.codeIn K cd12 "_law_sum" = true)
 (k12:W.keepIn K (.ref f12)=true)
 (a13:W.nsIn K mainGlobals "_law_wild" = some (some (.ref f13)))
 (l13:K.lookup f13=some ⟨oc13,od13,.func (W.fnOf "_law_wild" "_law_wild" (AW Ci) (AV Ci) (AK Ci) .none kV13 dc13 pm13 an13 cd13 ct13),sl13⟩)
 (c13:W.codeIn K cd13 "_law_wild" = true)
 (k13:W.keepIn K (.ref f13)=true)
 (a14:W.nsIn K mainGlobals "_law_kept" = some (some (.ref f14)))
 (l14:K.lookup f14=some ⟨oc14,od14,.func (W.fnOf "_law_kept" "_law_kept" (AW Cp) (AV Cp) (AK Cp) .none kV14 dc14 pm14 an14 cd14 ct14),sl14⟩)
 (c14:W.codeIn K cd14 "_law_kept" = true)
 (k14:W.keepIn K (.ref f14)=true)
 (a15:W.nsIn K mainGlobals "_law_bent" = some (some (.ref f15)))
 (l15:K.lookup f15=some ⟨oc15,od15,.func (W.fnOf "_law_bent" "_law_bent" (AW Cy) (AV Cy) (AK Cy) .none kV15 dc15 pm15 an15 cd15 ct15),sl15⟩)
 (c15:W.codeIn K cd15 "_law_bent" = true)
 (k15:W.keepIn K (.ref f15)=true)
 (a16:W.nsIn K mainGlobals "_law_of_numbers" = some (some (.ref f16)))
 (l16:K.lookup f16=some ⟨oc16,od16,.func (W.fnOf "_law_of_numbers" "_law_of_numbers" (AW C1) (AV C1) (AK C1) .none kV16 dc16 pm16 an16 cd16 ct16),sl16⟩)
 (c16:W.codeIn K cd16 "_law_of_numbers" = true)
 (k16:W.keepIn K (.ref f16)=true)
 (a17:W.nsIn K mainGlobals "_law_is_one" = some (some (.ref f17)))
 (l17:K.lookup f17=some ⟨oc17,od17,.func (W.fnOf "_law_is_one" "_law_is_one" (AW DC) (AV DC) (AK DC) .none kV17 dc17 pm17 an17 cd17 ct17),sl17⟩)
 (c17:W.codeIn K cd17 "_law_is_one" = true)
 (k17:W.keepIn K (.ref f17)=true)
 (a18:W.nsIn K mainGlobals "_law_size" = some (some (.ref f18)))
 (l18:K.lookup f18=some ⟨oc18,od18,.func (W.fnOf "_law_size" "_law_size" (AW C8) (AV C8) (AK C8) .none kV18 dc18 pm18 an18 cd18 ct18),sl18⟩)
 (c18:W.codeIn K cd18 "_law_size" = true)
 (k18:W.keepIn K (.ref f18)=true)
 (a19:W.nsIn K mainGlobals "law" = some (some (.ref f19)))
 (l19:K.lookup f19=some ⟨oc19,od19,.func (W.fnOf "law" "law" (AW Bv) (AV Bv) (AK Bv) .none kV19 dc19 pm19 an19 cd19 ct19),sl19⟩)
 (c19:W.codeIn K cd19 "law" = true)
 (k19:W.keepIn K (.ref f19)=true)
 (z_abs:W.nsIn K mainGlobals "abs" = some none)
 (z_all:W.nsIn K mainGlobals "all" = some none)
 (z_bool:W.nsIn K mainGlobals "bool" = some none)
 (z_dict:W.nsIn K mainGlobals "dict" = some none)
 (z_int:W.nsIn K mainGlobals "int" = some none)
 (z_isinstance:W.nsIn K mainGlobals "isinstance" = some none)
 (z_len:W.nsIn K mainGlobals "len" = some none)
 (z_max:W.nsIn K mainGlobals "max" = some none)
 (z_min:W.nsIn K mainGlobals "min" = some none)
 (z_range:W.nsIn K mainGlobals "range" = some none)
 (z_sorted:W.nsIn K mainGlobals "sorted" = some none)
 (z_sum:W.nsIn K mainGlobals "sum" = some none)
 (z_tuple:W.nsIn K mainGlobals "tuple" = some none)
 (z_zip:W.nsIn K mainGlobals "zip" = some none) :
 ∃ fd:FuncData,(∀ (s:Shared) (v:Value),BindsTo s fd ⟨[v],[]⟩ [("_law_script",v)])/\∀ base:Heap,K.In base->base.Ns mainGlobals mg->FnOk l.prog w K mg base CX0 6 fa fd ["_law_script"] (EH K):=by
 have e:=hfa.symm.trans (W.mg_of X G a19)
 cases e
 have F0:=Ag (st:=C6) l0 c0 k0
 have b0:=F0.binds (ps:=["n"]) fun _ _ _ _ _ _=>L2.on1 (fun _=>rfl)
 have F1:=Ag (st:=Co) l1 c1 k1
 have b1:=F1.binds (ps:=["base","times"]) fun _ _ _ _ _ _=>L2.on2 (fun _ _=>rfl)
 have F2:=Ag (st:=Cr) l2 c2 k2
 have b2:=F2.binds (ps:=["one"]) fun _ _ _ _ _ _=>L2.on1 (fun _=>rfl)
 have F3:=Ag (st:=Ce) l3 c3 k3
 have b3:=F3.binds (ps:=["one"]) fun _ _ _ _ _ _=>L2.on1 (fun _=>rfl)
 have F4:=Ag (st:=Ck) l4 c4 k4
 have b4:=F4.binds (ps:=["one","other"]) fun _ _ _ _ _ _=>L2.on2 (fun _ _=>rfl)
 have F5:=Ag (st:=Cb) l5 c5 k5
 have b5:=F5.binds (ps:=["terms","weights","apart"]) fun _ _ _ _ _ _=>L2.on3 (fun _ _ _=>rfl)
 have F6:=Ag (st:=C7) l6 c6 k6
 have b6:=F6.binds (ps:=["_law_script"]) fun _ _ _ _ _ _=>L2.on1 (fun _=>rfl)
 have F7:=Ag (st:=Ct) l7 c7 k7
 have b7:=F7.binds (ps:=["_law_tape_here","_law_many"]) fun _ _ _ _ _ _=>L2.on2 (fun _ _=>rfl)
 have F8:=Ag (st:=C4) l8 c8 k8
 have b8:=F8.binds (ps:=["_law_k"]) fun _ _ _ _ _ _=>L2.on1 (fun _=>rfl)
 have F9:=Ag (st:=DA) l9 c9 k9
 have b9:=F9.binds (ps:=["_law_n","_law_number"]) fun _ _ _ _ _ _=>L2.on2 (fun _ _=>rfl)
 have F10:=Ag (st:=Cm) l10 c10 k10
 have b10:=F10.binds (ps:=["_law_n","_law_one","_law_place"]) fun _ _ _ _ _ _=>L2.on3 (fun _ _ _=>rfl)
 have F11:=Ag (st:=Cf) l11 c11 k11
 have b11:=F11.binds (ps:=["_law_tape_here","_law_n"]) fun _ _ _ _ _ _=>L2.on2 (fun _ _=>rfl)
 have F12:=Ag (st:=C5) l12 c12 k12
 have b12:=F12.binds (ps:=["_law_table_here"]) fun _ _ _ _ _ _=>L2.on1 (fun _=>rfl)
 have F13:=Ag (st:=Ci) l13 c13 k13
 have b13:=F13.binds (ps:=["_law_tape_here","_law_n"]) fun _ _ _ _ _ _=>L2.on2 (fun _ _=>rfl)
 have F14:=Ag (st:=Cp) l14 c14 k14
 have b14:=F14.binds (ps:=["_law_n","_law_weights"]) fun _ _ _ _ _ _=>L2.on2 (fun _ _=>rfl)
 have F15:=Ag (st:=Cy) l15 c15 k15
 have b15:=F15.binds (ps:=["_law_tape_here","_law_whole"]) fun _ _ _ _ _ _=>L2.on2 (fun _ _=>rfl)
 have F16:=Ag (st:=C1) l16 c16 k16
 have b16:=F16.binds (ps:=["_law_tape_here","_law_n"]) fun _ _ _ _ _ _=>L2.on2 (fun _ _=>rfl)
 have F17:=Ag (st:=DC) l17 c17 k17
 have b17:=F17.binds (ps:=["_law_whole"]) fun _ _ _ _ _ _=>L2.on1 (fun _=>rfl)
 have F18:=Ag (st:=C8) l18 c18 k18
 have b18:=F18.binds (ps:=["_law_tape_here","_law_turn"]) fun _ _ _ _ _ _=>L2.on2 (fun _ _=>rfl)
 have F19:=Ag (st:=Bv) l19 c19 k19
 have b19:=F19.binds (ps:=["_law_script"]) fun _ _ _ _ _ _=>L2.on1 (fun _=>rfl)
 let T:Txt K mg:={ f_z26:=f0,d_z26:=_,F_z26:=F0,b_z26:=b0,m_z26:=W.mg_of X G a0,f_z24:=f1,d_z24:=_,F_z24:=F1,b_z24:=b1,m_z24:=W.mg_of X G a1,f_z14:=f2,d_z14:=_,F_z14:=F2,b_z14:=b2,m_z14:=W.mg_of X G a2,f_z11:=f3,d_z11:=_,F_z11:=F3,b_z11:=b3,m_z11:=W.mg_of X G a3,f_z27:=f4,d_z27:=_,F_z27:=F4,b_z27:=b4,m_z27:=W.mg_of X G a4,f_met:=f5,d_met:=_,F_met:=F5,b_met:=b5,m_met:=W.mg_of X G a5,f_z21:=f6,d_z21:=_,F_z21:=F6,b_z21:=b6,m_z21:=W.mg_of X G a6,f_z15:=f7,d_z15:=_,F_z15:=F7,b_z15:=b7,m_z15:=W.mg_of X G a7,f_z23:=f8,d_z23:=_,F_z23:=F8,b_z23:=b8,m_z23:=W.mg_of X G a8,f_z19:=f9,d_z19:=_,F_z19:=F9,b_z19:=b9,m_z19:=W.mg_of X G a9,f_z16:=f10,d_z16:=_,F_z16:=F10,b_z16:=b10,m_z16:=W.mg_of X G a10,f_z13:=f11,d_z13:=_,F_z13:=F11,b_z13:=b11,m_z13:=W.mg_of X G a11,f_z25:=f12,d_z25:=_,F_z25:=F12,b_z25:=b12,m_z25:=W.mg_of X G a12,f_z17:=f13,d_z17:=_,F_z17:=F13,b_z17:=b13,m_z17:=W.mg_of X G a13,f_z22:=f14,d_z22:=_,F_z22:=F14,b_z22:=b14,m_z22:=W.mg_of X G a14,f_z20:=f15,d_z20:=_,F_z20:=F15,b_z20:=b15,m_z20:=W.mg_of X G a15,f_z10:=f16,d_z10:=_,F_z10:=F16,b_z10:=b16,m_z10:=W.mg_of X G a16,f_z12:=f17,d_z12:=_,F_z12:=F17,b_z12:=b17,m_z12:=W.mg_of X G a17,f_z18:=f18,d_z18:=_,F_z18:=F18,b_z18:=b18,m_z18:=W.mg_of X G a18,f_law:=fa,d_law:=_,F_law:=F19,b_law:=b19,m_law:=W.mg_of X G a19,z_abs:=W.mg_none_of X G z_abs,z_all:=W.mg_none_of X G z_all,z_bool:=W.mg_none_of X G z_bool,z_dict:=W.mg_none_of X G z_dict,z_int:=W.mg_none_of X G z_int,z_isinstance:=W.mg_none_of X G z_isinstance,z_len:=W.mg_none_of X G z_len,z_max:=W.mg_none_of X G z_max,z_min:=W.mg_none_of X G z_min,z_range:=W.mg_none_of X G z_range,z_sorted:=W.mg_none_of X G z_sorted,z_sum:=W.mg_none_of X G z_sum,z_tuple:=W.mg_none_of X G z_tuple,z_zip:=W.mg_none_of X G z_zip }
 exact ⟨W.fnOf "law" "law" (AW Bv) (AV Bv) (AK Bv) .none kV19 dc19 pm19 an19 cd19 ct19,fun s v=>.of_eq rfl,fun base _ _=>Mu T⟩
theorem walk {l:W.OpenLaw} {q:Program} {loose:List Str} {XP:(Str->Option Value)->Heap->Prop} {YP:World->Heap->Prop} {d:DefRec} {K:Params->W.Frag} (hn:l.most=some 63) (hdf:d.params.defaults=[])
 (hY:∀ (w:World) (h:Heap),YP w h->(K w.params).In h)
 (F:∀ (w:World) (mg:Str->Option Value) (fa:Addr) (h:Heap),(K w.params).In h->h.Ns mainGlobals mg->mg d.name=some (.ref fa) ->
   ∃ fd:FuncData,(∀ (s:Shared) (u:Value),BindsTo s fd ⟨[u],[]⟩ [("_law_script",u)])/\∀ base:Heap,(K w.params).In base->base.Ns mainGlobals mg->FnOk l.prog w (K w.params) mg base CX0 6 fa fd ["_law_script"] (EH (K w.params))) :
 W.WalkO q loose XP YP l.row.toRowW d [] (fun f vs=>PySem.call f vs) :=
 L2.walk_of (n:=63) (k:=6) (x:="_law_script") (CX:=fun _=>CX0) (sp:=fun w=>EH (K w.params)) hn (by decide) hdf ⟨rfl,by decide,by decide,rfl⟩ hY F (fun _ _ a ns hl _ hS=>⟨a,ns,rfl,hS,hl,fun _=>rfl⟩) fun _ _ _ _ _ z=>z
end Mine
theorem PySem.W.Fast.te15347592445680586843:True:=trivial
def PySem.W.Fast.tw10338374756063869216:PySem.Program:=PySem.Challenge.pw_flips_k11_whole_times_itself
theorem PySem.W.Fast.te10338374756063869216:PySem.Challenge.pw_flips_k11_whole_times_itself=PySem.W.Fast.tw10338374756063869216:=rfl
def PySem.W.Fast.pickB:List Bool->List PySem.Stmt->List PySem.Stmt
 | [],_=>[]
 | b::k,l=>match b,l with
  | true,s::r=>s::PySem.W.Fast.pickB k r
  | false,_::r=>PySem.W.Fast.pickB k r
  | _,[]=>[]
def PySem.W.Fast.tw3626646423421060214:PySem.Program:={ PySem.Challenge.pw_flips_k11_whole_times_itself with main:={ (PySem.Challenge.pw_flips_k11_whole_times_itself).main with body:=PySem.W.Fast.pickB [false,true,true,false,true,false,true,true,true,false,true,true,true,true,true,true,true,true,true,true,true,true,true,true] (PySem.Challenge.pw_flips_k11_whole_times_itself).main.body } }
theorem PySem.W.Fast.te3626646423421060214:PySem.W.Fast.tw3626646423421060214=PySem.W.Fast.tw3626646423421060214:=rfl
def PySem.W.Fast.tw14156533292205882412:List PySem.Stmt:=((PySem.Challenge.pw_flips_k11_whole_times_itself).main.body.drop 16).take 8
theorem PySem.W.Fast.te14156533292205882412:PySem.W.Fast.tw14156533292205882412=PySem.W.Fast.tw14156533292205882412:=rfl
def PySem.W.Fast.tw15552689440644770162:List PySem.Stmt:=((PySem.Challenge.pw_flips_k11_whole_times_itself).main.body.drop 0).take 16
theorem PySem.W.Fast.te15552689440644770162:PySem.W.Fast.tw15552689440644770162=PySem.W.Fast.tw15552689440644770162:=rfl
open PySem PySem.W PyProof.Rows
set_option maxRecDepth 100000 in
set_option maxHeartbeats 0 in
theorem PySem.Challenge.cw_flips_k11_whole_times_itself_holds : PySem.Challenge.rw_flips_k11_whole_times_itself.Holds := by
 w_on;o_law;k_head;(case hw=>w_witness2)
 k_fill
 refine Mine.walk (l:=PySem.Challenge.rw_flips_k11_whole_times_itself) rfl rfl (fun w h Y=>PySem.W.kIn_of Y) ?F
 case F =>
  intro w mg fa h KX G hmg
  refine' Mine.all_mk KX G hmg ?a0 ?l0 ?c0 ?k0 ?a1 ?l1 ?c1 ?k1 ?a2 ?l2 ?c2 ?k2 ?a3 ?l3 ?c3 ?k3 ?a4 ?l4 ?c4 ?k4 ?a5 ?l5 ?c5 ?k5 ?a6 ?l6 ?c6 ?k6 ?a7 ?l7 ?c7 ?k7 ?a8 ?l8 ?c8 ?k8 ?a9 ?l9 ?c9 ?k9 ?a10 ?l10 ?c10 ?k10 ?a11 ?l11 ?c11 ?k11 ?a12 ?l12 ?c12 ?k12 ?a13 ?l13 ?c13 ?k13 ?a14 ?l14 ?c14 ?k14 ?a15 ?l15 ?c15 ?k15 ?a16 ?l16 ?c16 ?k16 ?a17 ?l17 ?c17 ?k17 ?a18 ?l18 ?c18 ?k18 ?a19 ?l19 ?c19 ?k19 ?z_abs ?z_all ?z_bool ?z_dict ?z_int ?z_isinstance ?z_len ?z_max ?z_min ?z_range ?z_sorted ?z_sum ?z_tuple ?z_zip
  (case a0 | l0 | c0 | k0 | a1 | l1 | c1 | k1 | a2 | l2 | c2 | k2 | a3 | l3 | c3 | k3 | a4 | l4 | c4 | k4 | a5 | l5 | c5 | k5 | a6 | l6 | c6 | k6 | a7 | l7 | c7 | k7 | a8 | l8 | c8 | k8 | a9 | l9 | c9 | k9 | a10 | l10 | c10 | k10 | a11 | l11 | c11 | k11 | a12 | l12 | c12 | k12 | a13 | l13 | c13 | k13 | a14 | l14 | c14 | k14 | a15 | l15 | c15 | k15 | a16 | l16 | c16 | k16 | a17 | l17 | c17 | k17 | a18 | l18 | c18 | k18 | a19 | l19 | c19 | k19 | z_abs | z_all | z_bool | z_dict | z_int | z_isinstance | z_len | z_max | z_min | z_range | z_sorted | z_sum | z_tuple | z_zip=>k_is)
