import PyProof.Rows.All
import Wide.All
import OpenK.AllK
import Wide.FinOn
import Lean
import PyProof.EqAt
import PyProof.EqKinds
import PyProof.TupleCall
import PyProof.NeKinds
import PyProof.ReprRoads
import PyProof.ReprBulk
import PyProof.Draws
import PyProof.EnumMake
import KE.BitLaws
import PyProof.ListIndex
import PyProof.AttrMissHeap
import PyProof.DictUpdate
import KE.KDictOf
import PyProof.FactsAll.enumerate_1
import PyProof.FactsAll.tuple_2
import PyProof.ListMulRoad
import PyProof.ListRange
import PyProof.FactsAll.list_3
import PyProof.Rows.SortWalk
import PyProof.Rows.MinMaxN
import KE.KEqDict
import KE.KDictSum
import PyProof.WalksMore
import PyProof.Rows.SetFrom
import PyProof.SetRoads
import PyProof.FactsAll.set_1
import KE.KItemsList
import KE.KSortTup
import KE.KLam
import PyProof.FactsAll.dict_1
import PyProof.StrBlockH
import PyProof.StrLawsTight
import PyProof.StrLawsOccR
import PyProof.StrLawsJoin
import PySem.Challenge.RW_flips_k06_formulas_written_and_read
set_option Elab.async false
set_option linter.all false
set_option maxRecDepth 100000
set_option maxHeartbeats 0
-- CHANGE: your row's module here,as the last of these rows
namespace L2
open PySem PySem.Spec PyProof.Rows
abbrev Key:=Sum Int Str
def Bg:Key->Value->Bool
 | .inl k,v=>Value.isInt k v
 | .inr x,v=>Value.isStrOf x v
def Gf (w:World):Key->Int
 | .inl k=>hashInt k
 | .inr x=>hashStr w x
theorem keyIs_shape:∀ {k:Key} {v:Value},Bg k v=true->(∃ i t,k=Sum.inl i/\v=Value.int i t)\/(∃ x t,k=Sum.inr x/\v=Value.str x t)
 | .inl i,v,h=>by
  obtain ⟨t,e⟩:=Value.isInt_shape (k:=i) (v:=v) h
  exact .inl ⟨i,t,rfl,e⟩
 | .inr x,v,h=>by
  obtain ⟨t,e⟩:=Value.isStrOf_shape (x:=x) (v:=v) h
  exact .inr ⟨x,t,rfl,e⟩
theorem Js (i:Int) (t:Tok):Bg (.inl i) (.int i t)=true:=by simp [Bg,Value.isInt]
theorem Ho (x:Str) (t:Tok):Bg (.inr x) (.str x t)=true:=by simp [Bg,Value.isStrOf]
theorem HX (a b:Int):decide ((Sum.inl a:Key)=Sum.inl b)=(a == b):=by
 by_cases e:a=b
 ·subst e;simp
 ·have h:¬ (Sum.inl a:Key)=Sum.inl b:=fun q=>e (Sum.inl.inj q)
  rw [decide_eq_false h]
  exact (beq_eq_false_iff_ne.mpr e).symm
theorem IJ (a b:Str):decide ((Sum.inr a:Key)=Sum.inr b)=decide (a=b):=by
 by_cases e:a=b
 ·subst e;simp
 ·have h:¬ (Sum.inr a:Key)=Sum.inr b:=fun q=>e (Sum.inr.inj q)
  rw [decide_eq_false h,decide_eq_false e]
theorem Jk (a:Int) (b:Str):decide ((Sum.inl a:Key)=Sum.inr b)=false:=decide_eq_false (fun q=>nomatch q)
theorem Fq (a:Str) (b:Int):decide ((Sum.inr a:Key)=Sum.inl b)=false:=decide_eq_false (fun q=>nomatch q)
def A0 (prog:Program) (w:World):PySem.KeyKind prog w Key where
 is:=Bg
 hash:=Gf w
 inj:=fun v a b ha hb=>by
  rcases keyIs_shape ha with ⟨i,t,rfl,rfl⟩ | ⟨x,t,rfl,rfl⟩
  ·rcases keyIs_shape hb with ⟨j,u,rfl,e⟩ | ⟨y,u,rfl,e⟩
   ·injection e with e1 _;rw [e1]
   ·exact nomatch e
  ·rcases keyIs_shape hb with ⟨j,u,rfl,e⟩ | ⟨y,u,rfl,e⟩
   ·exact nomatch e
   ·injection e with e1 _;rw [e1]
 byValue:=fun k v h=>by
  rcases keyIs_shape h with ⟨i,t,rfl,rfl⟩ | ⟨x,t,rfl,rfl⟩ <;> rfl
 pyHash:=fun hv h=>by
  rcases keyIs_shape hv with ⟨i,t,rfl,rfl⟩ | ⟨x,t,rfl,rfl⟩
  ·exact wpAny_pyHash_int h
  ·exact wpAny_pyHash_str h
 eqBool:=fun hu hv h=>by
  rcases keyIs_shape hu with ⟨i,t,rfl,rfl⟩ | ⟨x,t,rfl,rfl⟩
  ·rcases keyIs_shape hv with ⟨j,u,rfl,rfl⟩ | ⟨y,u,rfl,rfl⟩
   ·rw [HX] at h;exact wpAny_eqBool_int h
   ·rw [Jk] at h;exact SeqAt.EqAt.int_str i t y u _ _ _ _ h
  ·rcases keyIs_shape hv with ⟨j,u,rfl,rfl⟩ | ⟨y,u,rfl,rfl⟩
   ·rw [Fq] at h;exact SeqAt.EqAt.str_int x t j u _ _ _ _ h
   ·rw [IJ] at h;exact wpAny_eqBool_str h
 «strs»:=fun k x t v h=>by
  rcases keyIs_shape h with ⟨i,u,rfl,e⟩ | ⟨y,u,rfl,e⟩
  ·exact nomatch e
  ·injection e with e1 _
   subst e1
   cases v <;> rfl
theorem IU (prog:Program) (w:World) (i:Int) (t:Tok):(A0 prog w).is (.inl i) (.int i t)=true:=Js i t
theorem HD (prog:Program) (w:World) (x:Str) (t:Tok):(A0 prog w).is (.inr x) (.str x t)=true:=Ho x t
inductive V where
 | non | bl (b:Bool) | int (i:Int) | str (x:Str) | byt (b:Array UInt8) | flt (b:UInt64) | ref (a:Addr) | ty (n:String)
 deriving DecidableEq
def RelV:V->Value->Prop
 | .non,u=>u=Value.none
 | .bl b,u=>u=Value.bool b
 | .int i,u=>∃ t,u=Value.int i t
 | .str x,u=>∃ t,u=Value.str x t
 | .byt b,u=>∃ t,u=Value.bytes b t
 | .flt b,u=>∃ t,u=Value.float b t
 | .ref a,u=>u=Value.ref a
 | .ty n,u=>u=Value.type n
abbrev Vals:List V->List Value->Prop:=Paired RelV
theorem Vals.length {xs:List V} {us:List Value} (r:Vals xs us):xs.length=us.length:=Paired.length r
theorem Vals.get:∀ {xs:List V} {us:List Value} {i:Nat} {x:V},Vals xs us->xs[i]? = some x->∃ u,us[i]? = some u/\RelV x u
 | _,_,_,_,.nil,e=>by simp at e
 | _,_,0,_,.cons r _,e=>by simp at e;subst e;exact ⟨_,rfl,r⟩
 | _,_,i+1,x,.cons _ t,e=>by
  obtain ⟨u,h1,h2⟩:=Vals.get (i:=i) (x:=x) t (by simpa using e)
  exact ⟨u,by simpa using h1,h2⟩
theorem Vals.set {x:V} {u:Value} (r:RelV x u):∀ {xs:List V} {us:List Value} (i:Nat),Vals xs us->Vals (xs.set i x) (us.set i u)
 | _,_,_,.nil=>.nil
 | _,_,0,.cons _ t=>.cons r t
 | _,_,i+1,.cons q t=>.cons q (Vals.set r i t)
theorem Vals.append:∀ {xs ys:List V} {us ws:List Value},Vals xs us->Vals ys ws->Vals (xs++ys) (us++ws)
 | _,_,_,_,.nil,s=>s
 | _,_,_,_,.cons r t,s=>.cons r (Vals.append t s)
theorem Vals.take:∀ {xs:List V} {us:List Value} (n:Nat),Vals xs us->Vals (xs.take n) (us.take n)
 | _,_,0,_=>.nil
 | _,_,_+1,.nil=>.nil
 | _,_,n+1,.cons r t=>.cons r (Vals.take n t)
theorem Vals.drop:∀ {xs:List V} {us:List Value} (n:Nat),Vals xs us->Vals (xs.drop n) (us.drop n)
 | _,_,0,r=>r
 | _,_,_+1,.nil=>.nil
 | _,_,n+1,.cons _ t=>Vals.drop n t
def RelO:Option V->Option Value->Prop
 | some v,some u=>RelV v u
 | none,none=>True
 | _,_=>False
def KV {κ:Type}:List (κ × V)->List (κ × Value)->Prop:=Paired fun (p:κ × V) (q:κ × Value)=>p.1=q.1/\RelV p.2 q.2
def kV:Key->V
 | .inl i=>.int i
 | .inr x=>.str x
inductive HO where
 | lst (xs:List V)
 | tup (xs:List V)
 | dK (kvs:List (Key × V)) | dT (kvs:List (List Key × V))
 | set (S:Int->Bool) (n:Nat)
 | ins (C dx:Addr) (fs:List (Str × V))
 | own (x:Addr)
 | xd (fs:List (Str × V))
 | met (f x:Addr)
 | rng (lo hi:Int)
 | frz (o:Obj) (u:HO)
 | tbl (ps:Array Value)
 | ext (φ:Heap->Prop)
abbrev Hp:=Addr->Option HO
def upd (H:Hp) (a:Addr) (o:HO):Hp:=fun b=>if b=a then some o else H b
theorem AB {H:Hp} {a:Addr} {o:HO}:upd H a o a=some o:=by unfold upd;rw [if_pos rfl]
theorem AF {H:Hp} {a b:Addr} {o:HO} (h:b≠a):upd H a o b=H b:=by unfold upd;rw [if_neg h]
theorem BI {H:Hp} {a b:Addr} {o:HO} (h:H a=some o) (h':H b=none):a≠b:=by
 intro e;subst e;rw [h] at h';cases h'
def IsTupN (h:Heap) (a:Addr) (items:Array Value):Prop:=∃ o,h.get? a=some o/\o.cls=.type "tuple" /\ (∃ n,o.data=.seq items n)/\o.dict=none
theorem IsTupN.tup {h:Heap} {a:Addr} {items:Array Value} (x:IsTupN h a items):PyProof.Rows.IsTup h a items:=by
 obtain ⟨o,e,c,d,_⟩:=x
 exact ⟨o,e,c,d⟩
theorem IsTupN.new (h:Heap) (items:Array Value):IsTupN (h.push { cls:=.type "tuple",data:=.seq items }) h.objs.size items:=⟨_,Heap.get?_push_size _ rfl,rfl,⟨_,rfl⟩,rfl⟩
section
variable (P:Program) (w:World)
def ObjOk (H:Hp) (h:Heap) (a:Addr):HO->Prop
 | .lst xs=>xs.length<=sizeLine/\∃ (its:List Value) (n:Nat),Vals xs its/\h.get? a=some { cls:=.type "list",data:=.seq its.toArray n }
 | .tup xs=>xs.length<=sizeLine/\∃ its:List Value,Vals xs its/\IsTupN h a its.toArray
 | .dK kvs=>kvs.length<=sizeLine/\(a == sysModules)=false/\∃ vs,KV kvs vs/\h.DictOf (A0 P w) a vs
 | .dT kvs=>kvs.length<=sizeLine/\(a == sysModules)=false/\∃ xs:List (List Key × Addr × Value),
  Paired (fun (p:List Key × V) (q:List Key × Addr × Value)=>p.1=q.1/\H q.2.1=some (.tup (p.1.map kV))/\RelV p.2 q.2.2) kvs xs /\
  ∃ o es ep,h.get? a=some o/\o.ExactDict/\o.data=.dict es ep/\es.toList=xs.map (entryOfKey (tupleKind (A0 P w)))/\(xs.map (·.1)).Nodup
 | .set S n=>h.SetOf (intKind P w) a S n
 | .ins C dx fs=>H dx=some (.own a)/\fs.length<=1000/\dx≠a/\h.get? a=some (PySem.W.instObj C dx) /\
  ∃ mA,h.Ns1 dx mA/\(∀ f,RelO (fs.lookup f) (mA f))/\PySem.Within mA (fs.map (·.1))
 | .own _=>∃ o,h.get? a=some o
 | .xd fs=>∃ mA,h.Ns1 a mA/\∀ f,RelO (fs.lookup f) (mA f)
 | .rng lo hi=>∃ t u v,h.get? a=some { cls:=.type "range",data:=.fields #[.int lo t,.int hi u,.int 1 v] }
 | .frz o u=>h.get? a=some o/\ObjOk H h a u
 | .tbl ps=>h.get? a=some { cls:=.none,data:=.fields ps }
 | .met f x=>h.get? a=some (PySem.W.methodObj (.ref f) (.ref x))
 | .ext φ=>φ h/\(∃ o,h.get? a=some o)/\∀ h1 h2:Heap,φ h1->(∀ o,h1.get? a=some o->h2.get? a=some o)->φ h2
def HOk (H:Hp) (h:Heap):Prop:=∀ a o,H a=some o->ObjOk P w H h a o
end
section
variable {P:Program} {w:World} {H H':Hp} {h h':Heap} {a:Addr} {o:HO}
theorem ObjOk.lt (x:ObjOk P w H h a o):a < h.objs.size:=by
 cases o with
 | lst xs=>obtain ⟨_,_,_,_,e⟩:=x;exact Heap.lt_size e
 | tup xs=>obtain ⟨_,_,_,p⟩:=x;exact p.tup.lt
 | dK kvs=>obtain ⟨_,_,_,_,o,_,_,e,_⟩:=x;exact Heap.lt_size e
 | dT kvs=>obtain ⟨_,_,_,_,o,_,_,e,_⟩:=x;exact Heap.lt_size e
 | set S n=>obtain ⟨o,_,_,_,e,_⟩:=x;exact Heap.lt_size e
 | ins C dx fs=>obtain ⟨_,_,_,e,_⟩:=x;exact Heap.lt_size e
 | own y=>obtain ⟨_,e⟩:=x;exact Heap.lt_size e
 | xd fs=>obtain ⟨_,⟨_,_,_,e,_⟩,_⟩:=x;exact Heap.lt_size e
 | rng lo hi=>obtain ⟨_,_,_,e⟩:=x;exact Heap.lt_size e
 | frz ob u=>obtain ⟨e,_⟩:=x;exact Heap.lt_size e
 | tbl ps=>exact Heap.lt_size (show h.get? a=some _ from x)
 | met f y=>exact Heap.lt_size (show h.get? a=some _ from x)
 | ext φ=>obtain ⟨_,⟨_,e⟩,_⟩:=x;exact Heap.lt_size e
theorem Paired.mapP {α β:Type} {F G:α->β->Prop}:∀ {l₁:List α} {l₂:List β},Paired F l₁ l₂->(∀ a b,F a b->G a b)->Paired G l₁ l₂
 | _,_,.nil,_=>.nil
 | _,_,.cons r t,f=>.cons (f _ _ r) (Paired.mapP t f)
theorem ObjOk.stay (x:ObjOk P w H h a o) (k:∀ b u,(b=a\/H b=some (.own a))->h.get? b=some u->h'.get? b=some u)
 (ho:∀ b,H b=some (.own a)->H' b=some (.own a)) (ht:∀ b xs,H b=some (.tup xs)->H' b=some (.tup xs)):ObjOk P w H' h' a o:=by
 induction o with
 | lst xs=>obtain ⟨z,its,n,r,e⟩:=x;exact ⟨z,its,n,r,k _ _ (.inl rfl) e⟩
 | tup xs=>obtain ⟨z,its,r,ob,e,c⟩:=x;exact ⟨z,its,r,ob,k _ _ (.inl rfl) e,c⟩
 | dK kvs=>obtain ⟨z,y,vs,r,ob,es,ep,e,c⟩:=x;exact ⟨z,y,vs,r,ob,es,ep,k _ _ (.inl rfl) e,c⟩
 | dT kvs =>
  obtain ⟨z,y,xs,r,ob,es,ep,e,c⟩:=x
  exact ⟨z,y,xs,Paired.mapP r fun p q z=>⟨z.1,ht _ _ z.2.1,z.2.2⟩,ob,es,ep,k _ _ (.inl rfl) e,c⟩
 | set S n=>obtain ⟨ob,es,ep,t,e,c⟩:=x;exact ⟨ob,es,ep,t,k _ _ (.inl rfl) e,c⟩
 | ins C dx fs =>
  obtain ⟨d,z,ne,e,mA,⟨od,es,ep,e2,c⟩,r⟩:=x
  exact ⟨ho _ d,z,ne,k _ _ (.inl rfl) e,mA,⟨od,es,ep,k _ _ (.inr d) e2,c⟩,r⟩
 | own y=>obtain ⟨ob,e⟩:=x;exact ⟨ob,k _ _ (.inl rfl) e⟩
 | xd fs=>obtain ⟨mA,⟨od,es,ep,e,c⟩,r⟩:=x;exact ⟨mA,⟨od,es,ep,k _ _ (.inl rfl) e,c⟩,r⟩
 | rng lo hi=>obtain ⟨t,u,v,e⟩:=x;exact ⟨t,u,v,k _ _ (.inl rfl) e⟩
 | frz ob u ih=>obtain ⟨e,q⟩:=x;exact ⟨k _ _ (.inl rfl) e,ih q⟩
 | tbl ps =>
  have e:h.get? a=some { cls:=.none,data:=.fields ps }:=x
  show h'.get? a=some { cls:=.none,data:=.fields ps }
  exact k a _ (.inl rfl) e
 | met f y =>
  have e:h.get? a=some (PySem.W.methodObj (.ref f) (.ref y)):=x
  show h'.get? a=some (PySem.W.methodObj (.ref f) (.ref y))
  exact k a _ (.inl rfl) e
 | ext φ=>obtain ⟨p,⟨o,e⟩,st⟩:=x;exact ⟨st _ _ p fun o q=>k _ _ (.inl rfl) q,⟨o,k _ _ (.inl rfl) e⟩,st⟩
theorem HOk.lt (x:HOk P w H h) (e:H a=some o):a < h.objs.size:=(x a o e).lt
theorem HOk.fresh (x:HOk P w H h) (e:h.objs.size<=a):H a=none:=by
 cases q:H a with
 | none=>rfl
 | some u=>exact absurd (Nat.lt_of_lt_of_le (x.lt q) e) (Nat.lt_irrefl _)
theorem HOk.kept (x:HOk P w H h) (k:∀ b u,h.get? b=some u->h'.get? b=some u):HOk P w H h':=fun a o e =>
 (x a o e).stay (fun b u _ q=>k b u q) (fun _ q=>q) fun _ _ q=>q
theorem HOk.laid (x:HOk P w H h) (k:∀ b u,h.get? b=some u->h'.get? b=some u) (hp:h.objs.size<=a) (new:ObjOk P w (upd H a o) h' a o):HOk P w (upd H a o) h':=fun b u e=>by
 have hn:=x.fresh hp
 by_cases hb:b=a
 ·subst hb;rw [AB] at e;cases e;exact new
 ·rw [AF hb] at e
  exact (x b u e).stay (fun c v _ q=>k c v q) (fun c q=>by rw [AF (BI q hn)];exact q) fun c xs q=>by rw [AF (BI q hn)];exact q
end
def Rd (H:Hp) (a:Addr) (u:HO):Prop:=H a=some u\/∃ o,H a=some (.frz o u)
theorem Rd.of {H:Hp} {a:Addr} {u:HO} (h:H a=some u):Rd H a u:=.inl h
theorem Rd.ok {P:Program} {w:World} {H:Hp} {h:Heap} {a:Addr} {u:HO} (r:Rd H a u) (x:HOk P w H h):ObjOk P w H h a u:=by
 rcases r with r | ⟨o,r⟩
 ·exact x a u r
 ·obtain ⟨_,q⟩:=x a _ r
  exact q
def Mut:Option HO->Prop
 | some (.lst _)=>True
 | some (.dK _)=>True
 | some (.dT _)=>True
 | some (.set _ _)=>True
 | some (.ins _ _ _)=>True
 | some (.ext _)=>True
 | _=>False
section
variable {P:Program} {w:World} {H:Hp} {h h':Heap} {x e:Addr} {o':HO}
theorem HOk.write (ok:HOk P w H h) (mu:Mut (H x)) (he:e=x\/H e=some (.own x)) (k:∀ b u,b≠e->h.get? b=some u->h'.get? b=some u) (heo:∃ u,h'.get? e=some u)
 (new:ObjOk P w (upd H x o') h' x o'):HOk P w (upd H x o') h':=fun b u q=>by
 have nown:∀ c y,H c=some (.own y)->c≠x:=fun c y r z=>by subst z;rw [r] at mu;exact mu
 have ntup:∀ c xs,H c=some (.tup xs)->c≠x:=fun c xs r z=>by subst z;rw [r] at mu;exact mu
 by_cases hb:b=x
 ·subst hb;rw [AB] at q;cases q;exact new
 ·rw [AF hb] at q
  by_cases hbe:b=e
  ·have q':H b=some (.own x):=by
    rcases he with z | z
    ·exact absurd (hbe.trans z) hb
    ·rw [hbe];exact z
   rw [q] at q';cases q'
   obtain ⟨v,hv⟩:=heo
   exact ⟨v,by rw [hbe];exact hv⟩
  ·refine (ok b u q).stay (fun c v hc r=>k c v ?_ r) (fun c r=>by rw [AF (nown c b r)];exact r) fun c xs r=>by rw [AF (ntup c xs r)];exact r
   rcases hc with rfl | hc
   ·exact hbe
   ·rintro rfl
    rcases he with z | z
    ·exact nown c b hc z
    ·rw [hc] at z;cases z;exact hb rfl
end
structure Un (fs ex:List Addr) (H H':Hp) (h h':Heap):Prop where
 keep:∀ b o,h.get? b=some o->H b=none->b∉fs->b∉ex->h'.get? b=some o
 slot:∀ b o,h.get? b=some o->H b=none->b∈fs->b∉ex->∃ sl,h'.get? b=some { o with slots:=sl }
 free:∀ b o,h.get? b=some o->H b=none->b∉ex->H' b=none
 there:∀ b o,h.get? b=some o->b∉ex->∃ o',h'.get? b=some o'
 tups:∀ b xs,H b=some (.tup xs)->H' b=some (.tup xs)
 frzs:∀ b o u,H b=some (.frz o u)->H' b=some (.frz o u)
 tbls:∀ b ps,H b=some (.tbl ps)->∃ more,H' b=some (.tbl (ps++more))
section
variable {fs fs' ex ex':List Addr} {H H1 H2:Hp} {h h1 h2 h':Heap} {a x e:Addr} {o:HO}
theorem Un.any (u:Un fs ex H H1 h h1) {b:Addr} {ob:Obj} (q:h.get? b=some ob) (n:H b=none) (hx:b∉ex):∃ sl,h1.get? b=some { ob with slots:=sl }:=by
 by_cases hb:b∈fs
 ·exact u.slot b ob q n hb hx
 ·exact ⟨ob.slots,u.keep b ob q n hb hx⟩
theorem Un.kept (k:∀ b u,h.get? b=some u->h'.get? b=some u):Un fs ex H H h h' :=
 ⟨fun b ob q _ _ _=>k b ob q,fun b ob q _ _ _=>⟨ob.slots,k b ob q⟩,fun _ _ _ n _=>n,fun b ob q _=>⟨ob,k b ob q⟩,fun _ _ q=>q,fun _ _ _ q=>q,fun _ ps q=>⟨#[],by rw [q];simp⟩⟩
theorem Un.refl:Un fs ex H H h h:=Un.kept fun _ _ q=>q
theorem Un.laid (k:∀ b u,h.get? b=some u->h'.get? b=some u) (hp:h.objs.size<=a) (hn:H a=none):Un fs ex H (upd H a o) h h' where
 keep:=fun b u q _ _ _=>k b u q
 slot:=fun b u q _ _ _=>⟨u.slots,k b u q⟩
 free:=fun b u q n _=>by rw [AF (Nat.ne_of_lt (Nat.lt_of_lt_of_le (Heap.lt_size q) hp))];exact n
 there:=fun b u q _=>⟨u,k b u q⟩
 tups:=fun b xs q=>by rw [AF (BI q hn)];exact q
 frzs:=fun b u xs q=>by rw [AF (BI q hn)];exact q
 tbls:=fun b ps q=>⟨#[],by rw [AF (BI q hn),q];simp⟩
theorem Un.write (mu:Mut (H x)) (he:e=x\/H e=some (.own x)) (k:∀ b u,b≠e->h.get? b=some u->h'.get? b=some u) (heo:∃ u,h'.get? e=some u):Un fs ex H (upd H x o) h h':=by
 have hx:∀ b,H b=none->b≠x:=fun b n z=>by subst z;rw [n] at mu;exact mu
 have hb:∀ b,H b=none->b≠e:=fun b n z=>by
  subst z
  rcases he with r | r
  ·exact hx b n r
  ·rw [n] at r;cases r
 have hm:∀ b u,H b=some u->¬ Mut (some u)->b≠x:=fun b u q nm z=>by subst z;rw [q] at mu;exact nm mu
 refine ⟨fun b u q n _ _=>k b u (hb b n) q,fun b u q n _ _=>⟨u.slots,k b u (hb b n) q⟩,fun b u q n _=>by rw [AF (hx b n)];exact n,fun b u q _=>?_,
  fun b xs q=>by rw [AF (hm b _ q fun z=>z)];exact q,fun b u xs q=>by rw [AF (hm b _ q fun z=>z)];exact q,fun b ps q=>⟨#[],by rw [AF (hm b _ q fun z=>z),q];simp⟩⟩
 by_cases hbe:b=e
 ·subst hbe;exact heo
 ·exact ⟨u,k b u hbe q⟩
end
def trk (h:Heap) (H:Hp):List Addr:=(List.range h.objs.size).filter fun a=>(H a).isSome
def BF (h:Heap) (H:Hp):Heap:=PySem.W.hideAll h (trk h H)
theorem Gc (h:Heap) (H:Hp):(BF h H).objs.size=h.objs.size:=PySem.W.hideAll_size _ _
theorem G8 {h:Heap} {H:Hp} {b:Addr} {o:Obj} (e:h.get? b=some o) (n:H b=none):(BF h H).get? b=some o :=
 PySem.W.hideAll_get _ e fun hm=>by
  have q:(H b).isSome=true:=(List.mem_filter.mp hm).2
  rw [n] at q;simp at q
theorem HU {h:Heap} {H:Hp} {b:Addr} {o:Obj} (e:(BF h H).get? b=some o):h.get? b=some o/\H b=none:=by
 have e':h.get? b=some o:=PySem.W.of_hideAll (trk h H) e
 refine ⟨e',?_⟩
 cases q:H b with
 | none=>rfl
 | some x =>
  have hm:b∈trk h H:=List.mem_filter.mpr ⟨List.mem_range.mpr (Heap.lt_size e'),by simp [q]⟩
  have z:(BF h H).get? b=none:=PySem.W.hideAll_none (trk h H) hm
  rw [z] at e;cases e
def JB (g h:Heap) (L:Addr):List (Addr × Obj):=(List.range h.objs.size).filterMap fun a=>if a=L\/(g.get? a).isSome=true then none else (h.get? a).map fun o=>(a,o)
def rest (g h:Heap) (L d:Addr):List (Addr × Obj):=(JB g h L).filter fun p=>decide (p.1≠d)
structure Mod (K:PySem.W.Frag) (mg:Str->Option Value) (base:Heap):Prop where
 kin:K.In base
 glob:base.Ns mainGlobals mg
 blt:∃ mb,base.Ns builtinsNs mb/\∀ x:Str,x ≠ "__name__" -> mb x=bootBuiltins x
 nolimit:base.NoLimit
structure Cx where
 prog:Program
 w:World
 K:PySem.W.Frag
 mg:Str->Option Value
 base:Heap
 A:Around
 N:List Str
 s₀:Shared
 H₀:Hp
 env:Env
 outer:List Env
 stack:List Env
 ex:List Addr
 fn:Str->Bool
 calm:Bool
 pn:List (Addr × Obj)
 xe:Value->Shared->Prop
def frs (l:List Env):List Addr:=l.filterMap (·.frame)
abbrev Cx.fs (X:Cx):List Addr:=frs X.outer
def Vis (sc:Scope) (x:Str):Prop:=sc.names.lookup x=some .local\/sc.names.lookup x=some .cell\/sc.names.lookup x=some .free
def Loc (sc:Scope) (x:Str):Prop:=sc.names.lookup x=some .local\/sc.names.lookup x=some .cell
def HF (env:Env) (h:Heap) (m:Str->Option Value) (x:Str) (u:Value):Prop :=
 (env.kindOf x=some .local/\m x=some u)\/((env.kindOf x=some .cell\/env.kindOf x=some .free)/\∃ c,env.cells.lookup x=some c/\h.IsCell c (some u))
structure Cx.Ok (X:Cx):Prop where
 mod:Mod X.K X.mg X.base
 kind:X.env.scope.kind=.function
 glob:X.env.globals=mainGlobals
 blt:X.env.builtins=builtinsNs
 above:X.s₀.heap.objs.size<=X.env.locals
 inj:∀ x y c,X.env.cells.lookup x=some c->X.env.cells.lookup y=some c->x=y
 has:∀ x,(X.env.kindOf x=some .cell\/X.env.kindOf x=some .free)->∃ c,X.env.cells.lookup x=some c
 cab:∀ x c,X.fn x=true->X.env.cells.lookup x=some c->X.s₀.heap.objs.size<=c
 hd:X.calm=true->X.A.handled=none
 frames:X.A.frames=some X.stack
 stk:X.stack=X.outer\/(X.stack=X.env::X.outer/\X.env.frame=some X.env.locals)
 exf:∀ b∈X.ex,b≠X.env.locals/\∀ x c,X.env.cells.lookup x=some c->c≠b
 bs:∀ b o,X.base.get? b=some o->X.s₀.heap.get? b=some o/\X.H₀ b=none
 bsz:X.base.objs.size<=X.s₀.heap.objs.size
 noex:∀ b o,X.base.get? b=some o->b∉X.ex
 exfs:∀ b∈X.ex,b∉X.fs
 funs:X.s₀.heap.FunFrames X.base X.outer
 frf:∀ b∈X.fs,X.H₀ b=none
structure Inv (X:Cx) (pins:List (Addr × Obj)) (σ:List (Option V)) (H:Hp) (s:Shared):Prop where
 ok:X.Ok
 os:s.os=X.s₀.os
 bare:AllBare s.gens
 base:Un X.fs X.ex X.H₀ H X.s₀.heap s.heap
 loc:∃ m,s.heap.Ns X.env.locals m/\∀ (i:Nat) (x:Str) (v:V),X.N[i]? = some x->σ[i]? = some (some v)->Vis X.env.scope x->∃ u,RelV v u/\HF X.env s.heap m x u
 cell:∀ x c,X.env.cells.lookup x=some c->∃ v,s.heap.IsCell c v
 free:H X.env.locals=none
 freeC:∀ x c,X.env.cells.lookup x=some c->H c=none
 pin:∀ p∈X.pn++pins,s.heap.get? p.1=some p.2/\H p.1=none/\p.1≠X.env.locals/\p.1∉X.fs/\∀ v,p.2.data≠.cell v
 hok:HOk X.prog X.w H s.heap
 len:σ.length=X.N.length
section
variable {X:Cx} {pins:List (Addr × Obj)} {σ:List (Option V)} {H H':Hp} {s:Shared} {h':Heap}
theorem Cx.Ok.nofr (ok:X.Ok) {b:Addr} {o:Obj} (e:X.base.get? b=some o):b∉X.fs:=fun hb=>by
 have:=(ok.funs.mem hb).1
 rw [e] at this;cases this
theorem Inv.bs (I:Inv X pins σ H s):∀ b o,X.base.get? b=some o->s.heap.get? b=some o/\H b=none:=fun b o e =>
 ⟨I.base.keep b o (I.ok.bs b o e).1 (I.ok.bs b o e).2 (I.ok.nofr e) (I.ok.noex b o e),I.base.free b o (I.ok.bs b o e).1 (I.ok.bs b o e).2 (I.ok.noex b o e)⟩
theorem Inv.bk (I:Inv X pins σ H s):∀ b o,X.base.get? b=some o->s.heap.get? b=some o:=fun b o e=>(I.bs b o e).1
theorem Inv.mod (I:Inv X pins σ H s):Mod X.K X.mg X.base:=I.ok.mod
theorem Inv.kIn (I:Inv X pins σ H s):X.K.In s.heap:=I.ok.mod.kin.keeps I.bk
theorem Inv.lt (I:Inv X pins σ H s):X.env.locals < s.heap.objs.size:=let ⟨_,hn,_⟩:=I.loc;hn.lt
theorem Inv.sz (I:Inv X pins σ H s):X.s₀.heap.objs.size<=s.heap.objs.size:=Nat.le_trans I.ok.above (Nat.le_of_lt I.lt)
theorem Inv.nofs (I:Inv X pins σ H s) {a:Addr} (h:s.heap.objs.size<=a):a∉X.fs:=fun hb=>by
 obtain ⟨_,o,ho,_⟩:=I.ok.funs.mem hb
 exact absurd (Nat.lt_of_lt_of_le (Heap.lt_size ho) (Nat.le_trans I.sz h)) (Nat.lt_irrefl _)
theorem Inv.cne (I:Inv X pins σ H s):∀ x c,X.env.cells.lookup x=some c->c≠X.env.locals:=fun x c e z=>by
 obtain ⟨v,o,ho,hd⟩:=I.cell x c e
 obtain ⟨m,⟨o',es,ep,ho',hd',_⟩,_⟩:=I.loc
 rw [z,ho'] at ho;cases ho;rw [hd'] at hd;cases hd
theorem Inv.funs (I:Inv X pins σ H s):s.heap.FunFrames X.base X.outer:=by
 have all:∀ (l:List Env),(∀ b∈frs l,b∈X.fs)->X.s₀.heap.FunFrames X.base l->s.heap.FunFrames X.base l:=by
  intro l
  induction l with
  | nil=>intro _ _;trivial
  | cons env r ih =>
   intro hs hl
   obtain ⟨hk,⟨L,o,hf,hn,ho,hd⟩,hr⟩:=hl
   have hL:L∈X.fs:=hs L (by unfold frs;rw [List.filterMap_cons,hf];exact List.mem_cons_self)
   obtain ⟨sl,e⟩:=I.base.slot L o ho (I.ok.frf L hL) hL fun z=>I.ok.exfs L z hL
   exact ⟨hk,⟨L,_,hf,hn,e,hd⟩,ih (fun b hb=>hs b (by unfold frs;rw [List.filterMap_cons,hf];exact List.mem_cons_of_mem _ hb)) hr⟩
 exact all X.outer (fun _ hb=>hb) I.ok.funs
theorem Inv.stack (I:Inv X pins σ H s):s.heap.FunFrames X.base X.stack:=by
 rcases I.ok.stk with e | ⟨e,hf⟩
 ·rw [e];exact I.funs
 ·rw [e]
  obtain ⟨m,hn,_⟩:=I.loc
  refine .cons (by rw [I.ok.kind];decide) hf hn ?_ I.funs
  exact Heap.get?_none_of_le (Nat.le_trans I.ok.bsz I.ok.above)
theorem Inv.stkSub (I:Inv X pins σ H s):∀ b∈frs X.stack,b∈X.env.locals::X.fs:=fun b hb=>by
 rcases I.ok.stk with e | ⟨e,hf⟩
 ·rw [e] at hb;exact List.mem_cons_of_mem _ hb
 ·rw [e] at hb
  unfold frs at hb
  rw [List.filterMap_cons,hf] at hb
  exact hb
theorem Inv.stkFree (I:Inv X pins σ H s):∀ b∈frs X.stack,H b=none:=fun b hb=>by
 rcases List.mem_cons.mp (I.stkSub b hb) with e | hb
 ·rw [e];exact I.free
 ·obtain ⟨_,o,ho,_⟩:=I.ok.funs.mem hb
  exact I.base.free b o ho (I.ok.frf b hb) fun z=>I.ok.exfs b z hb
theorem Inv.step {g':Array GenState} {t':Nat} {d':Drawn} {ch:List Addr} (I:Inv X pins σ H s)
 (hch:∀ b∈ch,(b∈X.ex\/X.s₀.heap.objs.size<=b)/\b≠X.env.locals/\(∀ x c,X.env.cells.lookup x=some c->c≠b)/\∀ p∈X.pn++pins,p.1≠b)
 (keep:∀ b o,b≠X.env.locals->b∉X.fs->b∉ch->s.heap.get? b=some o->H b=none->h'.get? b=some o)
 (slot:∀ b o,b≠X.env.locals->b∈X.fs->b∉ch->s.heap.get? b=some o->H b=none->∃ sl,h'.get? b=some { o with slots:=sl }) (free:∀ b o,b∉ch->s.heap.get? b=some o->H b=none->H' b=none)
 (there:∀ b o,b∉ch->s.heap.get? b=some o->∃ o',h'.get? b=some o')
 (tups:∀ b xs,H b=some (.tup xs)->H' b=some (.tup xs)) (frzs:∀ b o u,H b=some (.frz o u)->H' b=some (.frz o u)) (tbls:∀ b ps,H b=some (.tbl ps)->∃ more,H' b=some (.tbl (ps++more)))
 (ns:∀ m,s.heap.Ns X.env.locals m->h'.Ns X.env.locals m) (hok:HOk X.prog X.w H' h') (hg:AllBare g') :
 Inv X pins σ H' { s with heap:=h',gens:=g',drawn:=d',toks:=t' }:=by
 have neL:∀ b o,X.s₀.heap.get? b=some o->b≠X.env.locals:=fun b o e=>Nat.ne_of_lt (Nat.lt_of_lt_of_le (Heap.lt_size e) I.ok.above)
 have neC:∀ b o,X.s₀.heap.get? b=some o->b∉X.ex->b∉ch:=fun b o e hx hb=>by
  rcases (hch b hb).1 with z | z
  ·exact hx z
  ·exact absurd (Nat.lt_of_lt_of_le (Heap.lt_size e) z) (Nat.lt_irrefl _)
 have cellK:∀ x c,X.env.cells.lookup x=some c->∀ v,s.heap.IsCell c v->h'.IsCell c v:=fun x c e v ⟨o,ho,hd⟩=>by
  have nch:c∉ch:=fun z=>(hch c z).2.2.1 x c e rfl
  by_cases hc:c∈X.fs
  ·obtain ⟨sl,q⟩:=slot c o (I.cne x c e) hc nch ho (I.freeC x c e)
   exact ⟨_,q,hd⟩
  ·exact ⟨o,keep c o (I.cne x c e) hc nch ho (I.freeC x c e),hd⟩
 refine ⟨I.ok,I.os,hg,⟨fun b o e n hb hx=>?_,fun b o e n hb hx=>?_,fun b o e n hx=>?_,fun b o e hx=>?_,fun b xs e=>tups b xs (I.base.tups b xs e),fun b o xs e=>frzs b o xs (I.base.frzs b o xs e),fun b ps e=>?_⟩,?_,fun x c e=>?_,?_,fun x c e=>?_,fun p hp=>?_,hok,I.len⟩
 ·exact keep b o (neL b o e) hb (neC b o e hx) (I.base.keep b o e n hb hx) (I.base.free b o e n hx)
 ·obtain ⟨sl,e1⟩:=I.base.slot b o e n hb hx
  obtain ⟨sl',e2⟩:=slot b _ (neL b o e) hb (neC b o e hx) e1 (I.base.free b o e n hx)
  exact ⟨sl',e2⟩
 ·obtain ⟨o',e1⟩:=I.base.there b o e hx
  exact free b o' (neC b o e hx) e1 (I.base.free b o e n hx)
 ·obtain ⟨o',e1⟩:=I.base.there b o e hx
  exact there b o' (neC b o e hx) e1
 ·obtain ⟨m1,e1⟩:=I.base.tbls b ps e
  obtain ⟨m2,e2⟩:=tbls b _ e1
  exact ⟨m1++m2,by rw [e2,Array.append_assoc]⟩
 ·obtain ⟨m,hn,hl⟩:=I.loc
  refine ⟨m,ns m hn,fun i x v e1 e2 e3=>?_⟩
  obtain ⟨u,r,l⟩:=hl i x v e1 e2 e3
  refine ⟨u,r,?_⟩
  rcases l with l | ⟨k,c,e,z⟩
  ·exact .inl l
  ·exact .inr ⟨k,c,e,cellK x c e _ z⟩
 ·obtain ⟨v,z⟩:=I.cell x c e
  exact ⟨v,cellK x c e v z⟩
 ·obtain ⟨m,⟨o,_,_,ho,_⟩,_⟩:=I.loc
  exact free _ o (fun z=>(hch _ z).2.1 rfl) ho I.free
 ·obtain ⟨v,o,ho,hd⟩:=I.cell x c e
  exact free c o (fun z=>(hch c z).2.2.1 x c e rfl) ho (I.freeC x c e)
 ·obtain ⟨e,n,ne,nf,d⟩:=I.pin p hp
  have nch:p.1∉ch:=fun z=>(hch p.1 z).2.2.2 p hp rfl
  exact ⟨keep p.1 p.2 ne nf nch e n,free p.1 p.2 nch e n,ne,nf,d⟩
theorem Inv.un {t':Nat} (I:Inv X pins σ H s) (u:Un X.fs [] H H' s.heap h') (hok:HOk X.prog X.w H' h'):Inv X pins σ H' { s with heap:=h',toks:=t' }:=by
 obtain ⟨m,⟨o,es,ep,ho,r⟩,_⟩:=id I.loc
 obtain ⟨sl,hL⟩:=u.any ho I.free (by simp)
 exact I.step (g':=s.gens) (d':=s.drawn) (ch:=[]) (fun _ z=>nomatch z) (fun b o _ hb _ e n=>u.keep b o e n hb (by simp)) (fun b o _ hb _ e n=>u.slot b o e n hb (by simp)) (fun b o _ e n=>u.free b o e n (by simp)) (fun b o _ e=>u.there b o e (by simp)) u.tups u.frzs u.tbls (fun m' hm=>by
  obtain ⟨o',es',ep',ho',r'⟩:=hm
  rw [ho] at ho';cases ho'
  exact ⟨_,es',ep',hL,r'⟩) hok I.bare
theorem Inv.call {g':Array GenState} {t':Nat} {d':Drawn} {ch:List Addr} (I:Inv X pins σ H s) (u:Un (frs X.stack) ch H H' s.heap h') (hok:HOk X.prog X.w H' h') (hg:AllBare g')
 (hch:∀ b∈ch,(b∈X.ex\/X.s₀.heap.objs.size<=b)/\b≠X.env.locals/\(∀ x c,X.env.cells.lookup x=some c->c≠b)/\∀ p∈X.pn++pins,p.1≠b) :
 Inv X pins σ H' { s with heap:=h',gens:=g',drawn:=d',toks:=t' }:=by
 obtain ⟨m,⟨o,es,ep,ho,r⟩,_⟩:=id I.loc
 obtain ⟨sl,hL⟩:=u.any ho I.free fun z=>(hch _ z).2.1 rfl
 exact I.step (ch:=ch) hch (fun b o hL hb hc e n=>u.keep b o e n (fun z=>(List.mem_cons.mp (I.stkSub b z)).elim hL hb) hc) (fun b o _ _ hc e n=>u.any e n hc) (fun b o hc e n=>u.free b o e n hc) (fun b o hc e=>u.there b o e hc) u.tups u.frzs u.tbls (fun m' hm=>by
  obtain ⟨o',es',ep',ho',r'⟩:=hm
  rw [ho] at ho';cases ho'
  exact ⟨_,es',ep',hL,r'⟩) hok hg
theorem Inv.turned {t':Nat} {it:Addr} (I:Inv X pins σ H s) (k:∀ b o,b≠it->s.heap.get? b=some o->h'.get? b=some o) (hn:H it=none) (hL:it≠X.env.locals)
 (h1:it∈X.ex\/X.s₀.heap.objs.size<=it) (h2:∀ x c,X.env.cells.lookup x=some c->c≠it) (h3:∀ p∈X.pn++pins,p.1≠it):Inv X pins σ H { s with heap:=h',toks:=t' }:=by
 have nit:∀ b u,H b=some u->b≠it:=fun b u e z=>by rw [z,hn] at e;cases e
 refine I.step (g':=s.gens) (d':=s.drawn) (ch:=[it]) (fun b hb=>?_) (fun b o _ _ hc e _=>k b o (fun z=>hc (by simp [z])) e) (fun b o _ _ hc e _=>⟨o.slots,k b o (fun z=>hc (by simp [z])) e⟩) (fun _ _ _ _ n=>n)
  (fun b o hc e=>⟨o,k b o (fun z=>hc (by simp [z])) e⟩) (fun _ _ e=>e) (fun _ _ _ e=>e) (fun b ps e=>⟨#[],by rw [e];simp⟩) (fun m hm=>?_) (fun b u e=>?_) I.bare
 ·have e:b=it:=by simpa using hb
  subst e
  exact ⟨h1,hL,h2,h3⟩
 ·obtain ⟨o,es,ep,ho,r⟩:=hm
  exact ⟨o,es,ep,k _ o (Ne.symm hL) ho,r⟩
 ·refine (I.hok b u e).stay (fun c v hc q=>k c v ?_ q) (fun _ q=>q) fun _ _ q=>q
  rcases hc with z | z
  ·rw [z];exact nit b u e
  ·exact nit c _ z
theorem Inv.tok (I:Inv X pins σ H s) (t:Nat):Inv X pins σ H { s with toks:=t }:=I.un (h':=s.heap) (t':=t) Un.refl I.hok
theorem Inv.kept {t':Nat} (I:Inv X pins σ H s) (k:∀ b u,s.heap.get? b=some u->h'.get? b=some u):Inv X pins σ H { s with heap:=h',toks:=t' }:=I.un (Un.kept k) (I.hok.kept k)
theorem Inv.laid {a:Addr} {o:HO} {t':Nat} (I:Inv X pins σ H s) (k:∀ b u,s.heap.get? b=some u->h'.get? b=some u) (hp:s.heap.objs.size<=a) (new:ObjOk X.prog X.w (upd H a o) h' a o) :
 Inv X pins σ (upd H a o) { s with heap:=h',toks:=t' }:=I.un (Un.laid k hp (I.hok.fresh hp)) (I.hok.laid k hp new)
theorem Inv.write {x e:Addr} {o:HO} {t':Nat} (I:Inv X pins σ H s) (mu:Mut (H x)) (he:e=x\/H e=some (.own x)) (k:∀ b u,b≠e->s.heap.get? b=some u->h'.get? b=some u) (heo:∃ u,h'.get? e=some u)
 (new:ObjOk X.prog X.w (upd H x o) h' x o):Inv X pins σ (upd H x o) { s with heap:=h',toks:=t' }:=I.un (Un.write mu he k heo) (I.hok.write mu he k heo new)
theorem Inv.weak {σ':List (Option V)} (I:Inv X pins σ H s) (hl:σ'.length=σ.length) (w:∀ (i:Nat) v,σ'[i]? = some (some v)->σ[i]? = some (some v)):Inv X pins σ' H s :=
 ⟨I.ok,I.os,I.bare,I.base,let ⟨m,hn,hl'⟩:=I.loc;⟨m,hn,fun i x v e1 e2 e3=>hl' i x v e1 (w i v e2) e3⟩,I.cell,I.free,I.freeC,I.pin,I.hok,hl.trans I.len⟩
theorem Inv.pins_of {pins':List (Addr × Obj)} (I:Inv X pins σ H s) (h:∀ p∈pins',s.heap.get? p.1=some p.2/\H p.1=none/\p.1≠X.env.locals/\p.1∉X.fs/\∀ v,p.2.data≠.cell v):Inv X pins' σ H s :=
 ⟨I.ok,I.os,I.bare,I.base,I.loc,I.cell,I.free,I.freeC,fun p hp=>(List.mem_append.mp hp).elim (fun z=>I.pin p (List.mem_append_left _ z)) (h p),I.hok,I.len⟩
theorem D2 {N:List Str} (hN:N.Nodup) {i j:Nat} {x:Str} (a:N[i]? = some x) (b:N[j]? = some x):i=j:=by
 obtain ⟨h1,e1⟩:=List.getElem?_eq_some_iff.mp a
 obtain ⟨h2,e2⟩:=List.getElem?_eq_some_iff.mp b
 exact (List.getElem_inj hN).mp (e1.trans e2.symm)
theorem Jb {M:Model} {A:Around} {E:Value->Shared->Prop} {i:Nat} {x:Str} {v:V} {u:Value} {Q:Unit->Shared->Prop} (I:Inv X pins σ H s) (hN:X.N.Nodup) (hi:X.N[i]? = some x) (hx:Loc X.env.scope x) (r:RelV v u)
 (h:∀ s',Inv X pins (σ.set i (some v)) H s'->(∃ a,Heap.SameBut a s.heap s'.heap/\(a=X.env.locals\/X.env.cells.lookup x=some a))->Q () s') (hf:X.fn x=true\/X.env.scope.names.lookup x=some .local:=by first | exact .inl rfl | exact .inr rfl | assumption):wpAny M A (storeName X.env x u) Q E s:=by
 obtain ⟨m,hn,hl⟩:=id I.loc
 have hcls:(X.env.scope.kind == .class || (X.env.scope.kind == .module && X.env.locals != X.env.globals))=false:=by rw [I.ok.kind];rfl
 have hiσ:i < σ.length:=by rw [I.len];exact (List.getElem?_eq_some_iff.mp hi).1
 have cne:=I.cne
 have tracked:∀ {a:Addr} {h':Heap},(∃ o,s.heap.get? a=some o/\H a=none)->Heap.SameBut a s.heap h'->HOk X.prog X.w H h':=fun {a h'} ha hs b ob e=>by
  obtain ⟨_,_,hfree⟩:=ha
  refine (I.hok b ob e).stay (fun c w' hc q=>(hs.2 c ?_).trans q) (fun _ q=>q) fun _ _ q=>q
  rintro rfl
  rcases hc with rfl | hc
  ·rw [hfree] at e;cases e
  ·rw [hfree] at hc;cases hc
 rcases hx with hk | hk
 ·refine wpAny_storeName_local hk hn (fun h' hn' hs=>?_) hcls
  obtain ⟨oL,_,_,hoL,_⟩:=id hn
  refine h _ ⟨I.ok,I.os,I.bare,⟨fun b o e n hb hx=>?_,fun b o e n hb hx=>?_,I.base.free,fun b o e hx=>?_,I.base.tups,I.base.frzs,I.base.tbls⟩,⟨_,hn',fun j y v' e1 e2 e3=>?_⟩,fun y c e=>?_,I.free,I.freeC,fun p hp=>?_,tracked ⟨oL,hoL,I.free⟩ hs,by simpa using I.len⟩ ⟨_,hs,.inl rfl⟩
  ·exact (hs.2 b (Nat.ne_of_lt (Nat.lt_of_lt_of_le (Heap.lt_size e) I.ok.above))).trans (I.base.keep b o e n hb hx)
  ·obtain ⟨sl,e1⟩:=I.base.slot b o e n hb hx
   exact ⟨sl,(hs.2 b (Nat.ne_of_lt (Nat.lt_of_lt_of_le (Heap.lt_size e) I.ok.above))).trans e1⟩
  ·obtain ⟨o',e1⟩:=I.base.there b o e hx
   exact ⟨o',(hs.2 b (Nat.ne_of_lt (Nat.lt_of_lt_of_le (Heap.lt_size e) I.ok.above))).trans e1⟩
  ·by_cases hj:j=i
   ·subst hj
    rw [hi] at e1;cases e1
    rw [List.getElem?_set_self hiσ] at e2
    cases e2
    exact ⟨u,r,.inl ⟨hk,by simp⟩⟩
   ·rw [List.getElem?_set_ne (Ne.symm hj)] at e2
    obtain ⟨u',r',q⟩:=hl j y v' e1 e2 e3
    refine ⟨u',r',?_⟩
    rcases q with ⟨k,e⟩ | ⟨k,c,e,z⟩
    ·refine .inl ⟨k,?_⟩
     have:y≠x:=fun e=>hj (D2 hN e1 (e ▸ hi))
     simp [this,e]
    ·exact .inr ⟨k,c,e,z.sameBut hs (cne y c e)⟩
  ·obtain ⟨w',z⟩:=I.cell y c e
   exact ⟨w',z.sameBut hs (cne y c e)⟩
  ·obtain ⟨e,n,ne,nf,d⟩:=I.pin p hp
   exact ⟨(hs.2 p.1 ne).trans e,n,ne,nf,d⟩
 ·have hfn:X.fn x=true:=by
   rcases hf with z | z
   ·exact z
   ·rw [z] at hk;cases hk
  obtain ⟨c,hc⟩:=I.ok.has x (.inl hk)
  obtain ⟨w',z⟩:=I.cell x c hc
  refine wpAny_storeName_cell I.ok.kind hk hc z (fun h' hc' hs=>?_)
  obtain ⟨oc,hoc,hocd⟩:=id z
  refine h { s with heap:=h' } ⟨I.ok,I.os,I.bare,⟨fun b o e n hb hx=>?_,fun b o e n hb hx=>?_,I.base.free,fun b o e hx=>?_,I.base.tups,I.base.frzs,I.base.tbls⟩,⟨m,hn.sameBut hs (Ne.symm (cne x c hc)),fun j y v' e1 e2 e3=>?_⟩,fun y c' e=>?_,I.free,I.freeC,fun p hp=>?_,tracked ⟨oc,hoc,I.freeC x c hc⟩ hs,by simpa using I.len⟩ ⟨c,hs,.inr hc⟩
  ·exact (hs.2 b (Nat.ne_of_lt (Nat.lt_of_lt_of_le (Heap.lt_size e) (I.ok.cab x c hfn hc)))).trans (I.base.keep b o e n hb hx)
  ·obtain ⟨sl,e1⟩:=I.base.slot b o e n hb hx
   exact ⟨sl,(hs.2 b (Nat.ne_of_lt (Nat.lt_of_lt_of_le (Heap.lt_size e) (I.ok.cab x c hfn hc)))).trans e1⟩
  ·obtain ⟨o',e1⟩:=I.base.there b o e hx
   exact ⟨o',(hs.2 b (Nat.ne_of_lt (Nat.lt_of_lt_of_le (Heap.lt_size e) (I.ok.cab x c hfn hc)))).trans e1⟩
  ·by_cases hj:j=i
   ·subst hj
    rw [hi] at e1;cases e1
    rw [List.getElem?_set_self hiσ] at e2
    cases e2
    exact ⟨u,r,.inr ⟨.inl hk,c,hc,hc'⟩⟩
   ·rw [List.getElem?_set_ne (Ne.symm hj)] at e2
    obtain ⟨u',r',q⟩:=hl j y v' e1 e2 e3
    refine ⟨u',r',?_⟩
    rcases q with q | ⟨k,c',e,z'⟩
    ·exact .inl q
    ·refine .inr ⟨k,c',e,z'.sameBut hs ?_⟩
     rintro rfl
     exact hj (D2 hN e1 (I.ok.inj _ _ _ e hc ▸ hi))
  ·by_cases hcc:c'=c
   ·subst hcc;exact ⟨_,hc'⟩
   ·obtain ⟨w2,z2⟩:=I.cell y c' e
    exact ⟨w2,z2.sameBut hs hcc⟩
  ·obtain ⟨e,n,ne,nf,d⟩:=I.pin p hp
   refine ⟨(hs.2 p.1 ?_).trans e,n,ne,nf,d⟩
   intro q
   rw [q,hoc] at e
   have q':oc=p.2:=Option.some.inj e
   exact d w' (by rw [<- q'];exact hocd)
theorem D7 {M:Model} {A:Around} {E:Value->Shared->Prop} {i:Nat} {x:Str} {v:V} {u:Value} {Q:Unit->Shared->Prop} (I:Inv X pins σ H s) (hN:X.N.Nodup) (hi:X.N[i]? = some x) (hx:Loc X.env.scope x) (r:RelV v u)
 (h:∀ s',Inv X pins (σ.set i (some v)) H s'->Q () s') (hf:X.fn x=true\/X.env.scope.names.lookup x=some .local:=by first | exact .inl rfl | exact .inr rfl | assumption):wpAny M A (storeName X.env x u) Q E s :=
 Jb I hN hi hx r (fun s' I' _=>h s' I') hf
theorem Inv.call' {s':Shared} {ch:List Addr} (I:Inv X pins σ H s) (ho:s'.os=s.os) (u:Un (frs X.stack) ch H H' s.heap s'.heap) (hok:HOk X.prog X.w H' s'.heap) (hg:AllBare s'.gens)
 (hch:∀ b∈ch,(b∈X.ex\/X.s₀.heap.objs.size<=b)/\b≠X.env.locals/\(∀ x c,X.env.cells.lookup x=some c->c≠b)/\∀ p∈X.pn++pins,p.1≠b):Inv X pins σ H' s':=by
 obtain ⟨h',g',d',t',o'⟩:=s'
 have e:o'=s.os:=ho
 subst e
 exact I.call (g':=g') (t':=t') (d':=d') u hok hg hch
end
abbrev XK:=Value->Option Addr->Hp->Prop
abbrev St:=List (Option V)
abbrev VK:=V->Hp->Prop
abbrev TE:=St->Hp->VK->Prop
abbrev TT:=St->Hp->(Bool->Hp->Prop)->Prop
abbrev TA:=St->Hp->(List V->Hp->Prop)->Prop
structure Ends where
 nx:St->Hp->Prop
 rt:VK
 bk:St->Hp->Prop:=fun _ _=>False
 ct:St->Hp->Prop:=fun _ _=>False
abbrev TS:=Ends->St->Hp->Prop
def EP (X:Cx) (pins:List (Addr × Obj)) (σ:St) (Q:VK) (u:Value) (s':Shared):Prop:=∃ v H',Inv X pins σ H' s'/\RelV v u/\Q v H'
def TP (X:Cx) (pins:List (Addr × Obj)) (σ:St) (Q:Bool->Hp->Prop) (b:Bool) (s':Shared):Prop:=∃ H',Inv X pins σ H' s'/\Q b H'
def AP (X:Cx) (pins:List (Addr × Obj)) (σ:St) (Q:List V->Hp->Prop) (us:List Value) (s':Shared):Prop:=∃ vs H',Inv X pins σ H' s'/\Vals vs us/\Q vs H'
def SP (X:Cx) (pins:List (Addr × Obj)) (D:Ends) (f:Flow) (s':Shared):Prop :=
 match f with
 | .next=>∃ σ' H',Inv X pins σ' H' s'/\D.nx σ' H'
 | .brk=>∃ σ' H',Inv X pins σ' H' s'/\D.bk σ' H'
 | .cont=>∃ σ' H',Inv X pins σ' H' s'/\D.ct σ' H'
 | .ret u=>∃ v σ' H',Inv X pins σ' H' s'/\RelV v u/\D.rt v H'
def PE (X:Cx) (e:Expr) (t:TE):Prop :=
 ∀ (pins:List (Addr × Obj)) (s:Shared) (σ:St) (H:Hp) (Q:VK),Inv X pins σ H s->t σ H Q->wpAny (model X.prog X.w) X.A (eval e X.env) (EP X pins σ Q) X.xe s
def PT (X:Cx) (e:Expr) (t:TT):Prop :=
 ∀ (pins:List (Addr × Obj)) (s:Shared) (σ:St) (H:Hp) (Q:Bool->Hp->Prop),Inv X pins σ H s->t σ H Q->wpAny (model X.prog X.w) X.A (isTrue e X.env (eval e X.env)) (TP X pins σ Q) X.xe s
def PW (X:Cx) (e:Expr) (t:TT):Prop :=
 ∀ (whole:Sem Value) (pins:List (Addr × Obj)) (s:Shared) (σ:St) (H:Hp) (Q:Bool->Hp->Prop),Inv X pins σ H s->t σ H Q->wpAny (model X.prog X.w) X.A (isTrue e X.env whole) (TP X pins σ Q) X.xe s
theorem PW.pt {X:Cx} {e:Expr} {t:TT} (h:PW X e t):PT X e t:=h _
def PA (X:Cx) (es:List Expr) (t:TA):Prop :=
 ∀ (pos:Pos) (pins:List (Addr × Obj)) (s:Shared) (σ:St) (H:Hp) (Q:List V->Hp->Prop),Inv X pins σ H s->t σ H Q->wpAny (model X.prog X.w) X.A (spliced (backTo pos (starEach es X.env))) (AP X pins σ Q) X.xe s
def PS (X:Cx) (st:Stmt) (t:TS):Prop :=
 ∀ (pins:List (Addr × Obj)) (s:Shared) (σ:St) (H:Hp) (D:Ends),Inv X pins σ H s->t D σ H->wpAny (model X.prog X.w) X.A (exec st X.env) (SP X pins D) X.xe s
def PSs (X:Cx) (st:List Stmt) (t:TS):Prop :=
 ∀ (pins:List (Addr × Obj)) (s:Shared) (σ:St) (H:Hp) (D:Ends),Inv X pins σ H s->t D σ H->wpAny (model X.prog X.w) X.A (execs st X.env) (SP X pins D) X.xe s
theorem thn {α:Type} {t:Sem α} {Q Q':α->Shared->Prop} {M:Model} {A:Around} {E:Value->Shared->Prop} {s:Shared} (h:wpAny M A t Q E s) (hQ:∀ a s,Q a s->Q' a s):wpAny M A t Q' E s:=wpAny_mono h hQ fun _ _ x=>x
section
variable {X:Cx}
def E7 (i:Nat):TE:=fun σ H Q=>∃ v,σ[i]? = some (some v)/\Q v H
def tC (v:V):TE:=fun _ H Q=>Q v H
theorem Er {i:Nat} {x:Str} {pos:Pos} (hN:X.N[i]? = some x) (hv:Vis X.env.scope x) (hd:(x == ("__debug__" : Str))=false:=by decide) (hcd:(x == ("__classdict__" : Str))=false:=by decide):PE X (.Name x pos) (E7 i):=by
 intro pins s σ H Q I h
 obtain ⟨v,e,h⟩:=h
 obtain ⟨m,hn,hl⟩:=I.loc
 obtain ⟨u,r,l⟩:=hl i x v hN e hv
 have fin:EP X pins σ Q u s:=⟨v,H,I,r,h⟩
 rcases l with ⟨hk,hm⟩ | ⟨hk,c,hc,hcell⟩
 ·exact wpAny_Name (wpAny_loadName_local I.ok.kind hk hn hm fin) hd
 ·rcases hk with hk | hk
  ·exact wpAny_Name (wpAny_loadName_cell I.ok.kind hk hc hcell fin) hd
  ·exact wpAny_Name (wpAny_loadName_free I.ok.kind hk hc hcell fin hcd) hd
theorem AA {i j pos}:PE X (.Constant (.int i) j pos) (tC (.int i)):=fun _ _ _ H _ I h=>wpAny_Constant_int ⟨.int i,H,I.tok _,⟨_,rfl⟩,h⟩
theorem Dn {b j pos}:PE X (.Constant (.bool b) j pos) (tC (.bl b)):=fun _ _ _ H _ I h=>Constant_bool ⟨.bl b,H,I,rfl,h⟩
theorem Ip {j pos}:PE X (.Constant .none j pos) (tC .non):=fun _ _ _ H _ I h=>Constant_none ⟨.non,H,I,rfl,h⟩
theorem Ab {x j pos}:PE X (.Constant (.str x) j pos) (tC (.str x)):=fun _ _ _ H _ I h=>Calls.Constant_str ⟨.str x,H,I.tok _,⟨_,rfl⟩,h⟩
def Gl (X:Cx) (x:Str):Prop:=X.env.kindOf x=some .globalImplicit
theorem Di {E:Value->Shared->Prop} {pins:List (Addr × Obj)} {s:Shared} {σ:St} {H:Hp} {x:Str} {u:Value} {pos:Pos} {Q:Value->Shared->Prop} (I:Inv X pins σ H s) (hg:Gl X x) (hm:X.mg x=some u) (h:Q u s)
 (hd:(x == ("__debug__" : Str))=false:=by decide):wpAny (model X.prog X.w) X.A (eval (.Name x pos) X.env) Q E s :=
 Calls.Name_function_global I.ok.kind hg (Calls.loadGlobal_global (by rw [I.ok.glob];exact I.mod.glob.keeps I.bk) hm h) hd
theorem CW {E:Value->Shared->Prop} {pins:List (Addr × Obj)} {s:Shared} {σ:St} {H:Hp} {x:Str} {u:Value} {pos:Pos} {Q:Value->Shared->Prop} (I:Inv X pins σ H s) (hg:Gl X x) (hm:X.mg x=none) (hv:bootBuiltins x=some u) (h:Q u s)
 (hn:x ≠ "__name__":=by decide) (hd:(x == ("__debug__" : Str))=false:=by decide):wpAny (model X.prog X.w) X.A (eval (.Name x pos) X.env) Q E s:=by
 obtain ⟨mb,h1,h2⟩:=I.mod.blt
 exact Calls.Name_function_global I.ok.kind hg (Calls.loadGlobal_builtin (by rw [I.ok.glob];exact I.mod.glob.keeps I.bk) hm (by rw [I.ok.blt];exact h1.keeps I.bk) ((h2 x hn).trans hv) h) hd
theorem C4 {x:Str} {v:V} {u:Value} {pos:Pos} (hg:Gl X x) (hm:X.mg x=some u) (r:RelV v u) (hd:(x == ("__debug__" : Str))=false:=by decide):PE X (.Name x pos) (tC v) :=
 fun _ _ _ H _ I h=>Di I hg hm ⟨v,H,I,r,h⟩ hd
theorem Hi {x:Str} {v:V} {u:Value} {pos:Pos} (hg:Gl X x) (hm:X.mg x=none) (hv:bootBuiltins x=some u) (r:RelV v u) (hn:x ≠ "__name__":=by decide) (hd:(x == ("__debug__" : Str))=false:=by decide):PE X (.Name x pos) (tC v) :=
 fun _ _ _ H _ I h=>CW I hg hm hv ⟨v,H,I,r,h⟩ hn hd
variable {a b:Expr} {ta tb:TE} {pos:Pos}
theorem DW (b:Expr) {op:CmpOp} (h:op≠.In) (h2:op≠.NotIn):behindInMarks op b=false:=by
 have e1:(op == CmpOp.In)=false:=by cases op <;> first | rfl | exact absurd rfl h
 have e2:(op == CmpOp.NotIn)=false:=by cases op <;> first | rfl | exact absurd rfl h2
 cases b <;> simp [behindInMarks,e1,e2]
variable {tA tB':TT} {rest:List Expr}
def EO (t u:TT):TT:=fun σ H Q=>t σ H fun c H1=>if c=true then u σ H1 Q else Q false H1
def tOr (t u:TT):TT:=fun σ H Q=>t σ H fun c H1=>if c=true then Q true H1 else u σ H1 Q
def E4 (t:TT):TT:=fun σ H Q=>t σ H fun c H1=>Q (!c) H1
theorem EC (ha:PT X a tA):PW X (.BoolOp .And [a] pos) tA:=by
 intro wh pins s σ H Q I h
 refine isTrue_and (thn (ha pins s σ H Q I h) fun c s1 e=>?_)
 cases c with
 | true=>exact isTrue_and_nil e
 | false=>exact e
theorem Cb (ha:PT X a tA):PW X (.BoolOp .Or [a] pos) tA:=by
 intro wh pins s σ H Q I h
 refine isTrue_or (thn (ha pins s σ H Q I h) fun c s1 e=>?_)
 cases c with
 | false=>exact isTrue_or_nil e
 | true=>exact e
theorem Ei (ha:PT X a tA) (hb:PW X (.BoolOp .And (b::rest) pos) tB'):PW X (.BoolOp .And (a::b::rest) pos) (EO tA tB'):=by
 intro wh pins s σ H Q I h
 refine isTrue_and (thn (ha pins s σ H _ I h) fun c s1 ⟨H1,I1,q1⟩=>?_)
 cases c with
 | true=>exact hb wh pins s1 σ H1 Q I1 q1
 | false=>exact ⟨H1,I1,q1⟩
theorem B6 (ha:PT X a tA) (hb:PW X (.BoolOp .Or (b::rest) pos) tB'):PW X (.BoolOp .Or (a::b::rest) pos) (tOr tA tB'):=by
 intro wh pins s σ H Q I h
 refine isTrue_or (thn (ha pins s σ H _ I h) fun c s1 ⟨H1,I1,q1⟩=>?_)
 cases c with
 | true=>exact ⟨H1,I1,q1⟩
 | false=>exact hb wh pins s1 σ H1 Q I1 q1
theorem GK (ha:PT X a tA):PT X (.UnaryOp .Not a pos) (E4 tA):=by
 intro pins s σ H Q I h
 exact isTrue_not (ha pins s σ H (fun c H1=>Q (!c) H1) I h)
def IT (ta tb:TE):TE:=fun σ H Q=>ta σ H fun x H1=>∃ c,x=.bl c/\if c=true then Q (.bl true) H1 else tb σ H1 Q
theorem J8 {op} {t:TE} (h:PE X a t):PE X (.BoolOp op [a] pos) t:=fun pins s σ H Q I hw=>BoolOp_one (h pins s σ H Q I hw)
theorem JT (ha:PE X a ta) (hb:PE X (.BoolOp .Or (b::rest) pos) tb):PE X (.BoolOp .Or (a::b::rest) pos) (IT ta tb):=by
 intro pins s σ H Q I h
 refine BoolOp_or (thn (ha pins s σ H _ I h) fun v s1 ⟨x,H1,I1,r1,q1⟩=>?_)
 obtain ⟨c,rfl,q1⟩:=q1
 cases r1
 refine wpAny_truthy_bool ?_
 cases c with
 | false=>exact hb pins s1 σ H1 Q I1 q1
 | true=>exact ⟨.bl true,H1,I1,rfl,q1⟩
def tIf (t:TT) (ta tb:TE):TE:=fun σ H Q=>t σ H fun c H1=>if c=true then ta σ H1 Q else tb σ H1 Q
theorem Ix {c:Expr} (hc:PT X c tA) (ha:PE X a ta) (hb:PE X b tb):PE X (.IfExp c a b pos) (tIf tA ta tb):=by
 intro pins s σ H Q I h
 refine wpAny_IfExp (thn (hc pins s σ H _ I h) fun d s1 ⟨H1,I1,q1⟩=>?_)
 cases d with
 | true=>exact ha pins s1 σ H1 Q I1 q1
 | false=>exact hb pins s1 σ H1 Q I1 q1
end
def SqL (K:PySem.W.Frag) (H:Hp) (a:Addr) (xs:List V):Prop :=
 Rd H a (.lst xs) \/
  ∃ (o:Obj) (its:Array Value) (n:Nat),K.lookup a=some o/\o.cls=.type "list" /\ o.dict=none/\o.data=.seq its n/\its.size<=sizeLine/\Vals xs its.toList
def SqT (K:PySem.W.Frag) (H:Hp) (a:Addr) (xs:List V):Prop :=
 Rd H a (.tup xs) \/
  ∃ (o:Obj) (its:Array Value) (n:Nat),K.lookup a=some o/\o.cls=.type "tuple" /\ o.dict=none/\o.data=.seq its n/\its.size<=sizeLine/\Vals xs its.toList
def Ir:Value->Option V
 | .none=>some .non
 | .bool b=>some (.bl b)
 | .int i _=>some (.int i)
 | .str x _=>some (.str x)
 | .bytes b _=>some (.byt b)
 | .float b _=>some (.flt b)
 | .ref a=>some (.ref a)
 | .type n=>some (.ty n)
 | _=>none
theorem RelV.abs {x:V} {u:Value} (r:RelV x u):Ir u=some x:=by
 cases x with
 | non=>cases r;rfl
 | bl _=>cases r;rfl
 | int _=>obtain ⟨t,rfl⟩:=r;rfl
 | str _=>obtain ⟨t,rfl⟩:=r;rfl
 | byt _=>obtain ⟨t,rfl⟩:=r;rfl
 | flt _=>obtain ⟨t,rfl⟩:=r;rfl
 | ref _=>cases r;rfl
 | ty _=>cases r;rfl
theorem RelV.inj {x y:V} {u:Value} (r:RelV x u) (q:RelV y u):x=y:=Option.some.inj (r.abs.symm.trans q.abs)
theorem Vals.inj:∀ {xs ys:List V} {us:List Value},Vals xs us->Vals ys us->xs=ys
 | _,_,_,.nil,.nil=>rfl
 | _,_,_,.cons r t,.cons r' t'=>by rw [r.inj r',Vals.inj t t']
section
variable {X:Cx} {pins:List (Addr × Obj)} {σ:St} {H:Hp} {s:Shared} {a:Addr} {xs ys:List V}
theorem SqL.of {K:PySem.W.Frag} (h:H a=some (.lst xs)):SqL K H a xs:=.inl (.inl h)
theorem SqT.of {K:PySem.W.Frag} (h:H a=some (.tup xs)):SqT K H a xs:=.inl (.inl h)
theorem Inv.list (I:Inv X pins σ H s) (h:SqL X.K H a xs):∃ its:List Value,Vals xs its/\PlainL s.heap a its.toArray/\xs.length<=sizeLine:=by
 rcases h with h | ⟨o,its,n,hk,hc,hd,hs,hz,r⟩
 ·obtain ⟨z,its,n,r,e⟩:=h.ok I.hok
  exact ⟨its,r,⟨_,n,e,rfl,rfl,rfl⟩,z⟩
 ·refine ⟨its.toList,r,⟨o,n,I.kIn a o hk,hc,hd,by simpa using hs⟩,?_⟩
  have e:=r.length
  simp only [Array.length_toList] at e
  omega
theorem Inv.tuple (I:Inv X pins σ H s) (h:SqT X.K H a xs):∃ its:List Value,Vals xs its/\IsTup s.heap a its.toArray/\xs.length<=sizeLine:=by
 rcases h with h | ⟨o,its,n,hk,hc,hdd,hs,hz,r⟩
 ·obtain ⟨z,its,r,p⟩:=h.ok I.hok
  exact ⟨its,r,p.tup,z⟩
 ·refine ⟨its.toList,r,⟨o,I.kIn a o hk,hc,n,by simpa using hs⟩,?_⟩
  have e:=r.length
  simp only [Array.length_toList] at e
  omega
theorem Inv.list_inj (I:Inv X pins σ H s) (h:SqL X.K H a xs) (h':SqL X.K H a ys):xs=ys:=by
 obtain ⟨its,r,⟨o,n,e,_,_,d⟩,_⟩:=I.list h
 obtain ⟨its',r',⟨o',n',e',_,_,d'⟩,_⟩:=I.list h'
 rw [e] at e';cases e'
 rw [d] at d'
 injection d' with d1 _
 have:its=its':=by simpa using congrArg Array.toList d1
 subst this
 exact r.inj r'
theorem Inv.tuple_inj (I:Inv X pins σ H s) (h:SqT X.K H a xs) (h':SqT X.K H a ys):xs=ys:=by
 obtain ⟨its,r,⟨o,e,_,n,d⟩,_⟩:=I.tuple h
 obtain ⟨its',r',⟨o',e',_,n',d'⟩,_⟩:=I.tuple h'
 rw [e] at e';cases e'
 rw [d] at d'
 injection d' with d1 _
 have:its=its':=by simpa using congrArg Array.toList d1
 subst this
 exact r.inj r'
end
abbrev Cx.wish (X:Cx) (E:Value->Shared->Prop):Cx:={ X with xe:=E }
abbrev Cx.nox (X:Cx):Cx:=X.wish fun _ _=>False
theorem Cx.Ok.wish {X:Cx} (ok:X.Ok) (E:Value->Shared->Prop):(X.wish E).Ok :=
 ⟨ok.mod,ok.kind,ok.glob,ok.blt,ok.above,ok.inj,ok.has,ok.cab,ok.hd,ok.frames,ok.stk,ok.exf,ok.bs,ok.bsz,ok.noex,ok.exfs,ok.funs,ok.frf⟩
theorem Cx.Ok.unwish {X:Cx} {E:Value->Shared->Prop} (ok:(X.wish E).Ok):X.Ok :=
 ⟨ok.mod,ok.kind,ok.glob,ok.blt,ok.above,ok.inj,ok.has,ok.cab,ok.hd,ok.frames,ok.stk,ok.exf,ok.bs,ok.bsz,ok.noex,ok.exfs,ok.funs,ok.frf⟩
section
variable {X:Cx} {pins:List (Addr × Obj)} {σ:St} {H:Hp} {s:Shared} {E:Value->Shared->Prop}
theorem Inv.wish (I:Inv X pins σ H s) (E:Value->Shared->Prop):Inv (X.wish E) pins σ H s:=⟨I.ok.wish E,I.os,I.bare,I.base,I.loc,I.cell,I.free,I.freeC,I.pin,I.hok,I.len⟩
theorem Inv.unwish (I:Inv (X.wish E) pins σ H s):Inv X pins σ H s:=⟨I.ok.unwish,I.os,I.bare,I.base,I.loc,I.cell,I.free,I.freeC,I.pin,I.hok,I.len⟩
theorem SP.unwish {D:Ends} {f:Flow} {s':Shared} (h:SP (X.wish E) pins D f s'):SP X pins D f s':=by
 cases f with
 | next=>obtain ⟨σ',H',I,q⟩:=h;exact ⟨σ',H',I.unwish,q⟩
 | brk=>obtain ⟨σ',H',I,q⟩:=h;exact ⟨σ',H',I.unwish,q⟩
 | cont=>obtain ⟨σ',H',I,q⟩:=h;exact ⟨σ',H',I.unwish,q⟩
 | ret u=>obtain ⟨v,σ',H',I,r,q⟩:=h;exact ⟨v,σ',H',I.unwish,r,q⟩
theorem PSs.nox {st:List Stmt} {t:TS} (h:PSs X.nox st t):PSs X st t:=fun pins s σ H D I hw =>
 wpAny_mono (h pins s σ H D (I.wish _) hw) (fun _ _ q=>q.unwish) fun _ _ z=>False.elim z
end
section
variable {X:Cx} {st:Stmt} {rest:List Stmt} {t u:TS} {e:Expr} {te:TE} {pos:Pos}
def BJ:TS:=fun D σ H=>D.nx σ H
def Dq (t u:TS):TS:=fun D σ H=>t { D with nx:=u D } σ H
theorem Ah:PSs X [] BJ:=fun _ _ σ H _ I h=>wpAny_execs_nil ⟨σ,H,I,h⟩
theorem AC (h1:PS X st t) (h2:PSs X rest u):PSs X (st::rest) (Dq t u):=by
 intro pins s σ H D I h
 refine wpAny_execs_cons (thn (h1 pins s σ H { D with nx:=u D } I h) fun f s1 q=>?_)
 cases f with
 | next =>
  obtain ⟨σ',H',I',q⟩:=q
  exact h2 pins s1 σ' H' D I' q
 | ret v=>exact q
 | brk=>exact q
 | cont=>exact q
theorem AI (h1:PS X st t):PSs X [st] t:=by
 intro pins s σ H D I h
 refine wpAny_execs_cons (thn (h1 pins s σ H D I h) fun f s1 q=>?_)
 cases f with
 | next=>exact wpAny_execs_nil q
 | ret v=>exact q
 | brk=>exact q
 | cont=>exact q
theorem Inv.quiet {pins:List (Addr × Obj)} {σ:St} {H:Hp} {s:Shared} (I:Inv X pins σ H s):interactive X.env=false:=by simp [interactive,I.ok.kind]
def GF (te:TE):TS:=fun D σ H=>te σ H fun _ H1=>D.nx σ H1
theorem ES (he:PE X e te) (hs:swapsWith e none pos.line X.env=pure false:=by rfl):PS X (.Expr e pos) (GF te):=by
 intro pins s σ H D I h
 exact wpAny_Expr_any (thn (he pins s σ H _ I h) fun v s1 ⟨x,H1,I1,r1,q1⟩=>⟨σ,H1,I1,q1⟩) I.quiet hs
def FB (te:TE):TS:=fun D σ H=>te σ H D.rt
theorem AQ (he:PE X e te):PS X (.Return (some e) pos) (FB te):=by
 intro pins s σ H D I h
 exact wpAny_Return_some (thn (he pins s σ H _ I h) fun v s1 ⟨x,H1,I1,r1,q1⟩=>⟨x,σ,H1,I1,r1,q1⟩)
def Cz (c:TT) (t u:TS):TS:=fun D σ H=>c σ H fun b H1=>if b=true then t D σ H1 else u D σ H1
theorem Aj {c:Expr} {a b:List Stmt} {tc:TT} (hc:PT X c tc) (ha:PSs X a t) (hb:PSs X b u):PS X (.If c a b pos) (Cz tc t u):=by
 intro pins s σ H D I h
 refine wpAny_If (thn (hc pins s σ H _ I h) fun d s1 ⟨H1,I1,q1⟩=>?_)
 cases d with
 | true=>exact ha pins s1 σ H1 D I1 q1
 | false=>exact hb pins s1 σ H1 D I1 q1
def Df:TS:=fun _ _ _=>False
theorem CK:PS X st Df:=fun _ _ _ _ _ _ h=>h.elim
theorem IC {sts:List Stmt}:PSs X sts Df:=fun _ _ _ _ _ _ h=>h.elim
end
abbrev TG:=V->St->Hp->(St->Hp->Prop)->Prop
def PG (X:Cx) (target:Expr) (t:TG):Prop :=
 ∀ (pins:List (Addr × Obj)) (s:Shared) (σ:St) (H:Hp) (v:V) (u:Value) (Q:St->Hp->Prop),Inv X pins σ H s->RelV v u->t v σ H Q ->
  wpAny (model X.prog X.w) X.A (assign target X.env u) (fun _ s'=>∃ σ' H',Inv X pins σ' H' s'/\Q σ' H') X.xe s
abbrev Bs:=V->V->V->Hp->(Hp->Prop)->Prop
def Cp (X:Cx) (t:Bs):Prop :=
 ∀ (pins:List (Addr × Obj)) (s:Shared) (σ:St) (H:Hp) (o i v:V) (ov iv u:Value) (Q:Hp->Prop),Inv X pins σ H s->RelV o ov->RelV i iv->RelV v u->t o i v H Q ->
  wpAny (model X.prog X.w) X.A (setItem ov iv u) (fun _ s'=>∃ H',Inv X pins σ H' s'/\Q H') X.xe s
section
variable {X:Cx} {pos:Pos}
def Ac (i:Nat):TG:=fun v σ H Q=>Q (σ.set i (some v)) H
theorem BM {i:Nat} {x:Str} (hN:X.N.Nodup) (hi:X.N[i]? = some x) (hx:Loc X.env.scope x) (hf:X.fn x=true\/X.env.scope.names.lookup x=some .local:=by first | exact .inl rfl | exact .inr rfl | assumption):PG X (.Name x pos) (Ac i):=by
 intro pins s σ H v u Q I r h
 exact wpAny_assign_Name (D7 I hN hi hx r (fun s' I'=>⟨_,H,I',h⟩) hf)
def D6 (to ti:TE) (t:Bs):TG:=fun v σ H Q=>to σ H fun o H1=>ti σ H1 fun i H2=>t o i v H2 fun H3=>Q σ H3
theorem CQ {o i:Expr} {to ti:TE} {t:Bs} (ho:PE X o to) (hi:PE X i ti) (hs:Cp X t)
 (ha:∀ v,assign (.Subscript o i pos) X.env v=(do
   let ov <- holding [v] (eval o X.env)
   let iv <- holding [v,ov] (eval i X.env)
   standAt pos
   holding [v,ov,iv] (setItem ov iv v)
   release [v,ov,iv] []):=by intro _;rfl):PG X (.Subscript o i pos) (D6 to ti t):=by
 intro pins s σ H v u Q I r h
 rw [ha]
 refine wpAny_bind (wpAny_holding (thn (ho pins s σ H _ I h) fun ov s1 ⟨x,H1,I1,r1,q1⟩=>?_))
 refine wpAny_bind (wpAny_holding (thn (hi pins s1 σ H1 _ I1 q1) fun iv s2 ⟨y,H2,I2,r2,q2⟩=>?_))
 refine wpAny_bind (wpAny_standAt (wpAny_bind (wpAny_holding (thn (hs pins s2 σ H2 x y v ov iv u _ I2 r1 r2 r q2) fun _ s3 ⟨H3,I3,q3⟩=>?_))))
 exact wpAny_release ⟨σ,H3,I3,q3⟩
def DR (te:TE) (g:TG):TS:=fun D σ H=>te σ H fun x H1=>g x σ H1 D.nx
theorem CU {tg e:Expr} {te:TE} {g:TG} (he:PE X e te) (hg:PG X tg g) (hs:swapsWithSole [tg] e pos.line X.env=pure false:=by rfl) (hw:swappedStores [tg] e X.env=pure none:=by rfl)
 (h1:(assignEach [tg] X.env).map (·.2)=[assign tg X.env]:=by rfl):PS X (.Assign [tg] e pos) (DR te g):=by
 intro pins s σ H D I h
 refine wpAny_Assign_stores (thn (he pins s σ H _ I h) fun v s1 ⟨x,H1,I1,r1,q1⟩=>?_) hs hw
 rw [h1]
 exact thn (hg pins s1 σ H1 x v _ I1 r1 q1) fun _ s2 q=>q
theorem AO {i:Nat} {x:Str} {e:Expr} {te:TE} {pos':Pos} (hN:X.N.Nodup) (hi:X.N[i]? = some x) (hx:Loc X.env.scope x) (he:PE X e te) (hs:swapsWith e (some (.Name x pos')) pos.line X.env=pure false:=by rfl) (hf:X.fn x=true\/X.env.scope.names.lookup x=some .local:=by first | exact .inl rfl | exact .inr rfl | assumption) :
 PS X (.Assign [.Name x pos'] e pos) (DR te (Ac i)):=by
 intro pins s σ H D I h
 refine wpAny_Assign_Name (thn (he pins s σ H _ I h) fun v s1 ⟨y,H1,I1,r1,q1⟩=>?_) hs
 exact D7 I1 hN hi hx r1 (fun s2 I2=>⟨_,H1,I2,q1⟩) hf
end
section
variable {X:Cx} {pos:Pos}
end
structure It where
 go:Nat->Hp->Prop
 yld:Nat->Hp->V->Hp->Prop
 stop:Nat->Hp->Prop
def As (X:Cx) (pins:List (Addr × Obj)) (H:Hp) (b:Addr):Prop :=
 H b=none/\b≠X.env.locals/\b∉X.fs/\(b∈X.ex\/X.s₀.heap.objs.size<=b)/\(∀ x c,X.env.cells.lookup x=some c->c≠b)/\∀ p∈X.pn++pins,p.1≠b
theorem Inv.fpOk {X:Cx} {pins:List (Addr × Obj)} {σ:St} {H H':Hp} {s:Shared} {b:Addr} (I:Inv X pins σ H s) (hb:s.heap.objs.size<=b) (hn:H' b=none):As X pins H' b:=by
 refine ⟨hn,Nat.ne_of_gt (Nat.lt_of_lt_of_le I.lt hb),I.nofs hb,.inr (Nat.le_trans I.sz hb),fun x c e z=>?_,fun p hp z=>?_⟩
 ·obtain ⟨v,q⟩:=I.cell x c e
  exact absurd (Nat.lt_of_lt_of_le q.lt (by rw [z];exact hb)) (Nat.lt_irrefl _)
 ·exact absurd (Nat.lt_of_lt_of_le (Heap.lt_size (I.pin p hp).1) (by rw [z];exact hb)) (Nat.lt_irrefl _)
structure Turn (P:Program) (w:World) (K:PySem.W.Frag) (tg:Expr) (J:It) (fp:List Addr) (it:Addr) (tn:Nat->Heap->Prop):Prop where
 mem:it∈fp
 obj:∀ i h,tn i h->∀ b∈fp,∃ o,h.get? b=some o/\∀ v,o.data≠.cell v
 keep:∀ i h h',tn i h->(∀ b∈fp,∀ o,h.get? b=some o->h'.get? b=some o)->tn i h'
 item:∀ (X:Cx),X.prog=P->X.w=w->X.K=K->X.calm=true->∀ (i:Nat) (pins:List (Addr × Obj)) (s:Shared) (σ:St) (H:Hp) (E:Value->Shared->Prop),Inv X pins σ H s->(∀ b∈fp,As X pins H b)->tn i s.heap->J.go i H ->
  wpAny (model P w) X.A (pyNext (.ref it)) (fun r s1=>∃ u,r=some u /\
   wpAny (model P w) X.A (letOwnedTupleGo tg (.ref it) u) (fun _ s2=>∃ x H',Inv X pins σ H' s2/\RelV x u/\J.yld i H x H'/\tn (i+1) s2.heap/\∀ b∈fp,H' b=none) E s1) E s
 done:∀ (X:Cx),X.prog=P->X.w=w->X.K=K->X.calm=true->∀ (i:Nat) (pins:List (Addr × Obj)) (s:Shared) (σ:St) (H:Hp) (E:Value->Shared->Prop),Inv X pins σ H s->(∀ b∈fp,As X pins H b)->tn i s.heap->J.stop i H ->
  wpAny (model P w) X.A (pyNext (.ref it)) (fun r s1=>r=none/\Inv X pins σ H s1) E s
 self:∀ (A:Around) (i:Nat) (s:Shared) (Q:Value->Shared->Prop) (E:Value->Shared->Prop),tn i s.heap->Q (.ref it) s->wpAny (model P w) A (pyIter (.ref it)) Q E s
abbrev TI:=St->Hp->(It->Hp->Prop)->Prop
def PIE (X:Cx) (pins:List (Addr × Obj)) (σ:St) (tg:Expr) (R:It->Hp->Prop) (itv:Value) (s2:Shared):Prop :=
 ∃ (it:Addr) (fp:List Addr) (tn:Nat->Heap->Prop) (J:It) (H':Hp),itv=.ref it/\Inv X pins σ H' s2/\Turn X.prog X.w X.K tg J fp it tn/\tn 0 s2.heap/\(∀ b∈fp,As X pins H' b)/\R J H'
def PI (X:Cx) (tg iter:Expr) (wi:TI):Prop :=
 ∀ (pins:List (Addr × Obj)) (s:Shared) (σ:St) (H:Hp) (R:It->Hp->Prop),Inv X pins σ H s->wi σ H R ->
  wpAny (model X.prog X.w) X.A (eval iter X.env) (fun v s1=>wpAny (model X.prog X.w) X.A (pyIter v) (PIE X pins σ tg R) X.xe s1) X.xe s
theorem Dl {M:Model} {A:Around} {E:Value->Shared->Prop} {s:Shared} {tg:Expr} {it:Addr} {u:Value} {o:Obj} {n:String} {vs:Array Value} {Q:Unit->Shared->Prop} (ho:s.heap.get? it=some o) (hc:o.cls=.type n) (hd:o.data=.fields vs)
 (hn:["enumerate","zip","dict_itemiterator","dict_reverseitemiterator","odict_iterator","itertools.zip_longest","itertools.pairwise"].contains n=false) (hQ:Q () s):wpAny M A (letOwnedTupleGo tg (.ref it) u) Q E s:=by
 unfold letOwnedTupleGo
 cases tg <;> first
  | exact wpAny_pure hQ
  | (cases u <;> first
      | exact wpAny_pure hQ
      | (refine wpAny_bind (wpAny_load ho ?_)
         rw [hc,hd]
         show wpAny M A (if (["enumerate","zip","dict_itemiterator","dict_reverseitemiterator","odict_iterator","itertools.zip_longest","itertools.pairwise"].contains n && vs[0]? == some (rawInt _))=true then _ else _) Q E s
         rw [if_neg (by intro h;rw [hn,Bool.false_and] at h;cases h)]
         exact wpAny_pure hQ))
def Itl (K:PySem.W.Frag) (a:Addr):It :=
 ⟨fun i H=>∃ xs x,SqL K H a xs/\xs[i]? = some x,fun i H x H'=>H'=H/\∀ xs,SqL K H a xs->xs[i]? = some x,fun i H=>∃ xs,SqL K H a xs/\xs.length<=i⟩
def Itt (K:PySem.W.Frag) (a:Addr):It :=
 ⟨fun i H=>∃ xs x,SqT K H a xs/\xs[i]? = some x,fun i H x H'=>H'=H/\∀ xs,SqT K H a xs->xs[i]? = some x,fun i H=>∃ xs,SqT K H a xs/\xs.length<=i⟩
def Itr (lo:Int) (n:Nat):It:=⟨fun i _=>i < n,fun i H x H'=>H'=H/\x=.int (lo+i),fun i _=>n<=i⟩
theorem GM {P:Program} {w:World} {K:PySem.W.Frag} {tg:Expr} (a it:Addr):Turn P w K tg (Itl K a) [it] it (fun i h=>h.IsListIter it a i) where
 mem:=by simp
 obj:=fun i h st b hb=>by
  have e:b=it:=by simpa using hb
  subst e
  obtain ⟨o,e,c,d⟩:=st
  exact ⟨o,e,fun v z=>by rw [d] at z;cases z⟩
 keep:=fun i h h' st k=>st.at fun o e=>k it (by simp) o e
 item:=by
  intro X hP hw hK hc i pins s σ H E I hf st hg
  subst hP hw hK
  obtain ⟨xs,x,hq,hx⟩:=hg
  obtain ⟨its,rv,p,hz⟩:=I.list hq
  obtain ⟨u,hu,ru⟩:=rv.get hx
  obtain ⟨f0,f1,f2,f3,f4,f5⟩:=hf it (by simp)
  refine wpAny_pyNext_list_item st p.isList (x:=u) (by simpa using hu) fun h' st' sb=>?_
  have I1:Inv X pins σ H { s with heap:=h' }:=I.turned (t':=s.toks) (fun b o hb e=>(sb.2 b hb).trans e) f0 f1 f3 f4 f5
  obtain ⟨o,e,c,d⟩:=id st'
  exact ⟨u,rfl,Dl (s:={ s with heap:=h' }) e c d (by decide) ⟨x,H,I1,ru,⟨rfl,fun ys hy=>by rw [I.list_inj hy hq];exact hx⟩,st',fun b hb=>(hf b hb).1⟩⟩
 done:=by
  intro X hP hw hK hc i pins s σ H E I hf st hg
  subst hP hw hK
  obtain ⟨xs,hq,hx⟩:=hg
  obtain ⟨its,rv,p,hz⟩:=I.list hq
  obtain ⟨f0,f1,f2,f3,f4,f5⟩:=hf it (by simp)
  have hl:=rv.length
  exact wpAny_pyNext_list_end (I.ok.hd hc) st p.isList (by simp;omega) fun h' eb=>⟨rfl,I.turned (t':=s.toks) (fun b o hb e=>eb b o hb e) f0 f1 f3 f4 f5⟩
 self:=fun _ _ _ _ _ st h=>wpAny_pyIter_listiter st h
theorem Hb {P:Program} {w:World} {K:PySem.W.Frag} {tg:Expr} (a it:Addr):Turn P w K tg (Itt K a) [it] it (fun i h=>h.IsTupleIter it a i) where
 mem:=by simp
 obj:=fun i h st b hb=>by
  have e:b=it:=by simpa using hb
  subst e
  obtain ⟨o,e,c,d⟩:=st
  exact ⟨o,e,fun v z=>by rw [d] at z;cases z⟩
 keep:=fun i h h' st k=>st.at fun o e=>k it (by simp) o e
 item:=by
  intro X hP hw hK hc i pins s σ H E I hf st hg
  subst hP hw hK
  obtain ⟨xs,x,hq,hx⟩:=hg
  obtain ⟨its,rv,p,hz⟩:=I.tuple hq
  obtain ⟨u,hu,ru⟩:=rv.get hx
  obtain ⟨f0,f1,f2,f3,f4,f5⟩:=hf it (by simp)
  refine wpAny_pyNext_tuple_item st (show s.heap.IsTuple a its.toArray from p) (x:=u) (by simpa using hu) fun h' st' sb=>?_
  have I1:Inv X pins σ H { s with heap:=h' }:=I.turned (t':=s.toks) (fun b o hb e=>(sb.2 b hb).trans e) f0 f1 f3 f4 f5
  obtain ⟨o,e,c,d⟩:=id st'
  exact ⟨u,rfl,Dl (s:={ s with heap:=h' }) e c d (by decide) ⟨x,H,I1,ru,⟨rfl,fun ys hy=>by rw [I.tuple_inj hy hq];exact hx⟩,st',fun b hb=>(hf b hb).1⟩⟩
 done:=by
  intro X hP hw hK hc i pins s σ H E I hf st hg
  subst hP hw hK
  obtain ⟨xs,hq,hx⟩:=hg
  obtain ⟨its,rv,p,hz⟩:=I.tuple hq
  obtain ⟨f0,f1,f2,f3,f4,f5⟩:=hf it (by simp)
  have hl:=rv.length
  exact wpAny_pyNext_tuple_end (I.ok.hd hc) st (show s.heap.IsTuple a its.toArray from p) (by simp;omega) fun h' eb=>⟨rfl,I.turned (t':=s.toks) (fun b o hb e=>eb b o hb e) f0 f1 f3 f4 f5⟩
 self:=fun _ _ _ _ _ st h=>wpAny_pyIter_tupleiter st h
theorem IP {P:Program} {w:World} {K:PySem.W.Frag} {tg:Expr} (it:Addr) (lo:Int) (n:Nat):Turn P w K tg (Itr lo n) [it] it (fun i h=>IsRangeIter h it (lo+(i:Nat) * 1) ((n:Int) - (i:Nat)) 1) where
 mem:=by simp
 obj:=fun i h st b hb=>by
  have e:b=it:=by simpa using hb
  subst e
  exact ⟨_,st,fun v z=>by
   have z':Data.fields _=Data.cell v:=z
   cases z'⟩
 keep:=fun i h h' st k=>k it (by simp) _ st
 item:=by
  intro X hP hw hK hc i pins s σ H E I hf st hg
  subst hP hw hK
  obtain ⟨f0,f1,f2,f3,f4,f5⟩:=hf it (by simp)
  have W:=Walks.range (prog:=X.prog) (w:=X.w) (I.ok.hd hc) it lo 1 n
  refine W.item i s _ _ hg st fun v h' tk hv st' kk=>?_
  obtain ⟨t,rfl⟩:=hv
  have I1:Inv X pins σ H { s with heap:=h',toks:=tk }:=I.turned (fun b o hb e=>kk b o (by simpa using hb) e) f0 f1 f3 f4 f5
  refine ⟨_,rfl,Dl (s:={ s with heap:=h',toks:=tk }) (n:="range_iterator") st' rfl rfl (by decide) ⟨.int (lo+i),H,I1,⟨t,?_⟩,⟨rfl,rfl⟩,st',fun b hb=>(hf b hb).1⟩⟩
  rw [Int.mul_one]
 done:=by
  intro X hP hw hK hc i pins s σ H E I hf st hg
  subst hP hw hK
  obtain ⟨f0,f1,f2,f3,f4,f5⟩:=hf it (by simp)
  exact wpAny_pyNext_range_end (I.ok.hd hc) st (by have:n<=i:=hg;omega) fun h' eb=>⟨rfl,I.turned (t':=s.toks) (fun b o hb e=>eb b o hb e) f0 f1 f3 f4 f5⟩
 self:=fun _ _ _ _ _ st h=>wpAny_pyIter_rangeiter st h
section
variable {X:Cx} {tg:Expr}
theorem KA {pins:List (Addr × Obj)} {σ:St} {H:Hp} {s:Shared} {R:It->Hp->Prop} {E:Value->Shared->Prop} {lo hi:Int} {t u v:Tok} {tk:Nat} (I:Inv X pins σ H s) (h1 : -(2 ^ 62)<=lo) (h2:lo < 2 ^ 62) (h3 : -(2 ^ 62)<=hi) (h4:hi < 2 ^ 62)
 (q:R (Itr lo (hi - lo).toNat) H):wpAny (model X.prog X.w) X.A (pyIter (.ref s.heap.objs.size)) (PIE X pins σ tg R) E { s with heap:=s.heap.push { cls:=.type "range",data:=.fields #[.int lo t,.int hi u,.int 1 v] },toks:=tk }:=by
 refine wpAny_pyIter_range (IsRange.new ..) (small_one h1 h2 h3 h4) ?_
 have I1:Inv X pins σ H { s with heap:=s.heap.push { cls:=.type "range",data:=.fields #[.int lo t,.int hi u,.int 1 v] },toks:=tk }:=I.kept fun b o e=>Heap.get?_push_of_some _ e
 refine ⟨(s.heap.push { cls:=.type "range",data:=.fields #[.int lo t,.int hi u,.int 1 v] }).objs.size,[(s.heap.push { cls:=.type "range",data:=.fields #[.int lo t,.int hi u,.int 1 v] }).objs.size],_,_,H,rfl,
  I1.kept (t':=tk) fun b o e=>Heap.get?_push_of_some _ e,IP _ lo (hi - lo).toNat,?_,fun b hb=>?_,q⟩
 ·have e1:lo+((0:Nat):Int) * 1=lo:=by simp
  have e2:(((hi - lo).toNat:Nat):Int) - ((0:Nat):Int)=Builtin.Range.rangeSize lo hi 1:=by rw [rangeSize_one];split <;> omega
  show IsRangeIter _ _ (lo+((0:Nat):Int) * 1) ((((hi - lo).toNat:Nat):Int) - ((0:Nat):Int)) 1
  rw [e1,e2]
  exact Heap.get?_push_size _ rfl
 ·have e:b=(s.heap.push { cls:=.type "range",data:=.fields #[.int lo t,.int hi u,.int 1 v] }).objs.size:=by simpa using hb
  subst e
  exact I1.fpOk (Nat.le_refl _) (I1.hok.fresh (Nat.le_refl _))
def IF (ta:TA):TI:=fun σ H R=>ta σ H fun vs H1=>∃ j:Int,vs=[.int j] /\ -(2 ^ 62)<=j/\j < 2 ^ 62/\R (Itr 0 j.toNat) H1
theorem Cn {a:Expr} {ta:TA} {p pos:Pos} (hg:Gl X "range") (hm:X.mg "range" = none) (ha:PA X [a] ta) (hs:starEach [a] X.env=[(false,eval a X.env)]:=by rfl):PI X tg (.Call (.Name "range" p) [a] [] pos) (IF ta):=by
 intro pins s σ H R I h
 refine Call_ (CW I hg hm boot_range (PyProof.Rows.callWith_type1 (thn (ha pos pins s σ H _ I h) fun us s1 ⟨vs,H1,I1,r1,q1⟩=>?_) hs rfl))
 obtain ⟨j,e,q1,q2,q⟩:=q1
 subst e
 cases r1 with
 | cons r rr =>
  cases rr
  obtain ⟨t,rfl⟩:=r
  exact call_range_1 (KA I1 (by omega) (by omega) q1 q2 (by simpa using q))
def G9 (wi:TI) (g:TG) (tb:TS):TS:=fun D σ H=>wi σ H fun J H1=>∃ W:Nat->Nat->St->Hp->Prop,(∃ m,W 0 m σ H1)/\∀ i m σ H,W i m σ H ->
 (J.stop i H/\D.nx σ H)\/(J.go i H/\∃ N:St->Hp->Prop,(∀ σ' H',N σ' H'->∃ m',m' < m/\W (i+1) m' σ' H')/\∀ x H',J.yld i H x H'->g x σ H' fun σ2 H2=>tb { D with nx:=N,ct:=N,bk:=D.nx } σ2 H2)
def Au (fp:List Addr) (h:Heap):List (Addr × Obj):=fp.filterMap fun b=>(h.get? b).map fun o=>(b,o)
theorem Bn {fp:List Addr} {h:Heap} {b:Addr} {o:Obj} (hb:b∈fp) (e:h.get? b=some o):(b,o)∈Au fp h:=List.mem_filterMap.mpr ⟨b,hb,by rw [e];rfl⟩
theorem C0 {fp:List Addr} {h:Heap} {p:Addr × Obj} (hp:p∈Au fp h):p.1∈fp/\h.get? p.1=some p.2:=by
 obtain ⟨b,hb,e⟩:=List.mem_filterMap.mp hp
 cases q:h.get? b with
 | none=>rw [q] at e;cases e
 | some o =>
  rw [q] at e
  have e':(b,o)=p:=Option.some.inj e
  subst e'
  exact ⟨hb,q⟩
theorem Inv.pinned {pins:List (Addr × Obj)} {σ:St} {H:Hp} {s:Shared} {fp:List Addr} (I:Inv X pins σ H s) (hf:∀ b∈fp,As X pins H b) (ho:∀ b∈fp,∃ o,s.heap.get? b=some o/\∀ v,o.data≠.cell v):Inv X (pins++Au fp s.heap) σ H s :=
 I.pins_of fun p hp=>(List.mem_append.mp hp).elim (fun z=>I.pin p (List.mem_append_right _ z)) fun z=>by
  obtain ⟨hb,e⟩:=C0 z
  obtain ⟨f0,f1,f2,_⟩:=hf p.1 hb
  obtain ⟨o,e',d⟩:=ho p.1 hb
  rw [e] at e';cases e'
  exact ⟨e,f0,f1,f2,d⟩
theorem Inv.unpinned {pins pl:List (Addr × Obj)} {σ:St} {H:Hp} {s:Shared} (I:Inv X (pins++pl) σ H s):Inv X pins σ H s:=I.pins_of fun p hp=>I.pin p (List.mem_append_right _ (List.mem_append_left _ hp))
theorem Cg {iter:Expr} {body:List Stmt} {wi:TI} {g:TG} {tb:TS} {pos:Pos} (hp:PassesOwn (model X.prog X.w) X.A X.env X.xe) (hc:X.calm=true) (hi:PI X tg iter wi) (hg:PG X tg g) (hb:PSs X body tb)
 (hs:∀ x,foldedSetIterable iter X.env x=pure x:=by intro _;rfl):PS X (.For tg iter body [] pos) (G9 wi g tb):=by
 intro pins s σ H D I h
 refine wpAny_For (thn (hi pins s σ H _ I h) fun v s1 h1=>thn h1 fun itv s2 h2=>?_) hs
 obtain ⟨it,fp,tn,J,H2,e,I2,T,st2,f2,W,⟨m0,w0⟩,turn⟩:=h2
 subst e
 -- what stays true of the iterator's objects through the loop
 have stat:∀ {H':Hp},(∀ b∈fp,H' b=none)->∀ b∈fp,As X pins H' b:=fun hn b hb=>⟨hn b hb,(f2 b hb).2⟩
 refine codeAny_forLoop_any (fun n s'=>∃ i σ' H',Inv X pins σ' H' s'/\tn i s'.heap/\(∀ b∈fp,H' b=none)/\W i n σ' H') ?_ m0 ⟨0,σ,H2,I2,st2,fun b hb=>(f2 b hb).1,w0⟩
 rintro n s3 ⟨i,σ3,H3,I3,st3,fr3,w3⟩
 rcases turn i n σ3 H3 w3 with ⟨stop,qn⟩ | ⟨go,N,hN,step⟩
 ·refine wpAny_passesOwn hp (thn (T.done X rfl rfl rfl hc i pins s3 σ3 H3 X.xe I3 (stat fr3) st3 stop) fun r s4 ⟨hr,I4⟩=>?_)
  subst hr
  exact wpAny_execs_nil ⟨σ3,H3,I4,qn⟩
 ·refine wpAny_passesOwn hp (thn (T.item X rfl rfl rfl hc i pins s3 σ3 H3 X.xe I3 (stat fr3) st3 go) fun r s4 ⟨u,hr,h4⟩=>?_)
  subst hr
  refine wpAny_passesOwn hp (thn h4 fun _ s5 ⟨x,H5,I5,r5,y5,st5,fr5⟩=>?_)
  have I5':=I5.pinned (stat fr5) (T.obj _ _ st5)
  refine wpAny_passesOwn hp (thn (hg _ s5 σ3 H5 x u _ I5' r5 (step x H5 y5)) fun _ s6 ⟨σ6,H6,I6,q6⟩=>?_)
  refine wpAny_passesOwn hp (thn (hb _ s6 σ6 H6 _ I6 q6) fun f s7 q7=>?_)
  have again:∀ {σ7:St} {H7:Hp},Inv X (pins++Au fp s5.heap) σ7 H7 s7->N σ7 H7->∃ m,m < n/\∃ i σ' H',Inv X pins σ' H' s7/\tn i s7.heap/\(∀ b∈fp,H' b=none)/\W i m σ' H':=fun {σ7 H7} I7 n7=>by
   obtain ⟨m',hm,w7⟩:=hN σ7 H7 n7
   refine ⟨m',hm,i+1,σ7,H7,I7.unpinned,T.keep _ _ _ st5 fun b hb o e=>(I7.pin (b,o) (List.mem_append_right _ (List.mem_append_right _ (Bn hb e)))).1,fun b hb=>?_,w7⟩
   obtain ⟨o,e,d⟩:=T.obj _ _ st5 b hb
   exact (I7.pin (b,o) (List.mem_append_right _ (List.mem_append_right _ (Bn hb e)))).2.1
  cases f with
  | next=>obtain ⟨σ7,H7,I7,n7⟩:=q7;exact again I7 n7
  | cont=>obtain ⟨σ7,H7,I7,n7⟩:=q7;exact again I7 n7
  | brk=>obtain ⟨σ7,H7,I7,q7⟩:=q7;exact ⟨σ7,H7,I7.unpinned,q7⟩
  | ret v=>obtain ⟨x7,σ7,H7,I7,r7,q7⟩:=q7;exact ⟨x7,σ7,H7,I7.unpinned,r7,q7⟩
end
theorem HY {K:PySem.W.Frag} {a:Addr} {xs:List V} {g:TG} {tb:TS} {D:Ends} {σ:St} {H:Hp} (Pv:Nat->St->Hp->Prop) (h0:Pv 0 σ H) (hl:∀ i σ H,i<=xs.length->Pv i σ H->SqL K H a xs)
 (hs:∀ i x σ H,xs[i]? = some x->Pv i σ H->g x σ H fun σ2 H2=>tb { D with nx:=Pv (i+1),ct:=Pv (i+1),bk:=D.nx } σ2 H2) (hd:∀ σ H,Pv xs.length σ H->D.nx σ H) :
 ∃ W:Nat->Nat->St->Hp->Prop,(∃ m,W 0 m σ H)/\∀ i m σ H,W i m σ H ->
  ((Itl K a).stop i H/\D.nx σ H)\/((Itl K a).go i H/\∃ N:St->Hp->Prop,(∀ σ' H',N σ' H'->∃ m',m' < m/\W (i+1) m' σ' H')/\∀ x H',(Itl K a).yld i H x H'->g x σ H' fun σ2 H2=>tb { D with nx:=N,ct:=N,bk:=D.nx } σ2 H2):=by
 refine ⟨fun i m σ H=>m=xs.length - i/\i<=xs.length/\Pv i σ H,⟨xs.length,by simp,Nat.zero_le _,h0⟩,?_⟩
 rintro i m σ H ⟨rfl,hi,p⟩
 have q:=hl i σ H hi p
 by_cases hlt:i < xs.length
 ·refine .inr ⟨⟨xs,xs[i],q,by simp [hlt]⟩,Pv (i+1),fun σ' H' p'=>⟨xs.length - (i+1),by omega,rfl,hlt,p'⟩,fun x H' y=>?_⟩
  obtain ⟨e,y⟩:=y
  subst e
  exact hs i x σ _ (y xs q) p
 ·have e:i=xs.length:=by omega
  subst e
  exact .inl ⟨⟨xs,q,Nat.le_refl _⟩,hd σ H p⟩
theorem Ef {K:PySem.W.Frag} {a:Addr} {xs:List V} {g:TG} {tb:TS} {D:Ends} {σ:St} {H:Hp} (Pv:Nat->St->Hp->Prop) (h0:Pv 0 σ H) (hl:∀ i σ H,i<=xs.length->Pv i σ H->SqT K H a xs)
 (hs:∀ i x σ H,xs[i]? = some x->Pv i σ H->g x σ H fun σ2 H2=>tb { D with nx:=Pv (i+1),ct:=Pv (i+1),bk:=D.nx } σ2 H2) (hd:∀ σ H,Pv xs.length σ H->D.nx σ H) :
 ∃ W:Nat->Nat->St->Hp->Prop,(∃ m,W 0 m σ H)/\∀ i m σ H,W i m σ H ->
  ((Itt K a).stop i H/\D.nx σ H)\/((Itt K a).go i H/\∃ N:St->Hp->Prop,(∀ σ' H',N σ' H'->∃ m',m' < m/\W (i+1) m' σ' H')/\∀ x H',(Itt K a).yld i H x H'->g x σ H' fun σ2 H2=>tb { D with nx:=N,ct:=N,bk:=D.nx } σ2 H2):=by
 refine ⟨fun i m σ H=>m=xs.length - i/\i<=xs.length/\Pv i σ H,⟨xs.length,by simp,Nat.zero_le _,h0⟩,?_⟩
 rintro i m σ H ⟨rfl,hi,p⟩
 have q:=hl i σ H hi p
 by_cases hlt:i < xs.length
 ·refine .inr ⟨⟨xs,xs[i],q,by simp [hlt]⟩,Pv (i+1),fun σ' H' p'=>⟨xs.length - (i+1),by omega,rfl,hlt,p'⟩,fun x H' y=>?_⟩
  obtain ⟨e,y⟩:=y
  subst e
  exact hs i x σ _ (y xs q) p
 ·have e:i=xs.length:=by omega
  subst e
  exact .inl ⟨⟨xs,q,Nat.le_refl _⟩,hd σ H p⟩
theorem Jl {lo:Int} {n:Nat} {g:TG} {tb:TS} {D:Ends} {σ:St} {H:Hp} (Pv:Nat->St->Hp->Prop) (h0:Pv 0 σ H)
 (hs:∀ i σ H,i < n->Pv i σ H->g (.int (lo+i)) σ H fun σ2 H2=>tb { D with nx:=Pv (i+1),ct:=Pv (i+1),bk:=D.nx } σ2 H2) (hd:∀ σ H,Pv n σ H->D.nx σ H) :
 ∃ W:Nat->Nat->St->Hp->Prop,(∃ m,W 0 m σ H)/\∀ i m σ H,W i m σ H ->
  ((Itr lo n).stop i H/\D.nx σ H)\/((Itr lo n).go i H/\∃ N:St->Hp->Prop,(∀ σ' H',N σ' H'->∃ m',m' < m/\W (i+1) m' σ' H')/\∀ x H',(Itr lo n).yld i H x H'->g x σ H' fun σ2 H2=>tb { D with nx:=N,ct:=N,bk:=D.nx } σ2 H2):=by
 refine ⟨fun i m σ H=>m=n - i/\i<=n/\Pv i σ H,⟨n,by simp,Nat.zero_le _,h0⟩,?_⟩
 rintro i m σ H ⟨rfl,hi,p⟩
 by_cases hlt:i < n
 ·refine .inr ⟨hlt,Pv (i+1),fun σ' H' p'=>⟨n - (i+1),by omega,rfl,hlt,p'⟩,fun x H' y=>?_⟩
  obtain ⟨e,y⟩:=y
  subst e y
  exact hs i σ _ hlt p
 ·have e:i=n:=by omega
  subst e
  exact .inl ⟨Nat.le_refl _,hd σ H p⟩
abbrev R2:=V->V->Hp->VK->Prop
def OpR (X:Cx) (f:Value->Value->Sem Value) (r:R2):Prop :=
 ∀ (pins:List (Addr × Obj)) (s:Shared) (σ:St) (H:Hp) (x y:V) (v u:Value) (Q:VK),Inv X pins σ H s->RelV x v->RelV y u->r x y H Q ->
  wpAny (model X.prog X.w) X.A (f v u) (EP X pins σ Q) X.xe s
def CallR (X:Cx) (f:Value) (r:List V->Hp->VK->Prop):Prop :=
 ∀ (pins:List (Addr × Obj)) (s:Shared) (σ:St) (H:Hp) (xs:List V) (us:List Value) (Q:VK),Inv X pins σ H s->Vals xs us->r xs H Q ->
  wpAny (model X.prog X.w) X.A (call f us) (EP X pins σ Q) X.xe s
def tOp (r:R2) (ta tb:TE):TE:=fun σ H Q=>ta σ H fun x H1=>tb σ H1 fun y H2=>r x y H2 Q
def rI (C:Int->Int->Prop) (g:Int->Int->V):R2:=fun x y H Q=>∃ i j,x=.int i/\y=.int j/\C i j/\Q (g i j) H
def rI0 (g:Int->Int->V):R2:=fun x y H Q=>∃ i j,x=.int i/\y=.int j/\Q (g i j) H
section
variable {X:Cx} {a b c:Expr} {ta tb tc:TE} {pos:Pos}
theorem DT (ha:PE X a ta) (hb:PE X b tb) {pins:List (Addr × Obj)} {s:Shared} {σ:St} {H:Hp} {R:V->V->Hp->Prop} (I:Inv X pins σ H s)
 (h:ta σ H fun x H1=>tb σ H1 fun y H2=>R x y H2) {Q:Value->Shared->Prop} {f:Value->Value->Sem Value}
 (hf:∀ v u s2 x y H2,Inv X pins σ H2 s2->RelV x v->RelV y u->R x y H2->wpAny (model X.prog X.w) X.A (f v u) Q X.xe s2) :
 wpAny (model X.prog X.w) X.A (eval a X.env) (fun v s₁=>wpAny (model X.prog X.w) X.A (eval b X.env) (fun u s₂=>wpAny (model X.prog X.w) X.A (f v u) Q X.xe s₂) X.xe s₁) X.xe s:=by
 refine thn (ha pins s σ H _ I h) fun v s1 ⟨x,H1,I1,r1,q1⟩=>?_
 refine thn (hb pins s1 σ H1 _ I1 q1) fun u s2 ⟨y,H2,I2,r2,q2⟩=>?_
 exact hf v u s2 x y H2 I2 r1 r2 q2
theorem AD {op:Operator} {r:R2} (ho:OpR X (binaryOp op) r) (ha:PE X a ta) (hb:PE X b tb):PE X (.BinOp a op b pos) (tOp r ta tb):=by
 intro pins s σ H Q I h
 exact wpAny_BinOp (DT ha hb I h fun v u s2 x y H2 I2 rx ry q=>ho pins s2 σ H2 x y v u Q I2 rx ry q)
theorem opI {f:Value->Value->Sem Value} {C:Int->Int->Prop} {g:Int->Int->Int}
 (rule:∀ (i j:Int) (t u:Tok) (s:Shared) (Q:Value->Shared->Prop) (E:Value->Shared->Prop),C i j->Q (.int (g i j) s.toks) { s with toks:=s.toks+1 } -> wpAny (model X.prog X.w) X.A (f (.int i t) (.int j u)) Q E s) :
 OpR X f (rI C fun i j=>.int (g i j)):=by
 intro pins s σ H x y v u Q I rx ry h
 obtain ⟨i,j,rfl,rfl,hc,q⟩:=h
 obtain ⟨t,rfl⟩:=rx
 obtain ⟨t',rfl⟩:=ry
 exact rule i j t t' s _ _ hc ⟨.int (g i j),H,I.tok _,⟨_,rfl⟩,q⟩
theorem FQ {f:Value->Value->Sem Value} {g:Int->Int->Int}
 (rule:∀ (i j:Int) (t u:Tok) (s:Shared) (Q:Value->Shared->Prop) (E:Value->Shared->Prop),Q (.int (g i j) s.toks) { s with toks:=s.toks+1 } -> wpAny (model X.prog X.w) X.A (f (.int i t) (.int j u)) Q E s) :
 OpR X f (rI0 fun i j=>.int (g i j)):=by
 intro pins s σ H x y v u Q I rx ry h
 obtain ⟨i,j,rfl,rfl,q⟩:=h
 obtain ⟨t,rfl⟩:=rx
 obtain ⟨t',rfl⟩:=ry
 exact rule i j t t' s _ _ ⟨.int (g i j),H,I.tok _,⟨_,rfl⟩,q⟩
theorem EJ {f:Value->Value->Sem Value} {g:Int->Int->Bool}
 (rule:∀ (i j:Int) (t u:Tok) (s:Shared) (Q:Value->Shared->Prop) (E:Value->Shared->Prop),Q (.bool (g i j)) s->wpAny (model X.prog X.w) X.A (f (.int i t) (.int j u)) Q E s) :
 OpR X f (rI0 fun i j=>.bl (g i j)):=by
 intro pins s σ H x y v u Q I rx ry h
 obtain ⟨i,j,rfl,rfl,q⟩:=h
 obtain ⟨t,rfl⟩:=rx
 obtain ⟨t',rfl⟩:=ry
 exact rule i j t t' s _ _ ⟨.bl (g i j),H,I,rfl,q⟩
def FL (i j:Int):Prop:=0<=j/\j<=1000000/\i.natAbs < 2 ^ 64
def CMul (i j:Int):Prop:=(-(2 ^ 64) < i/\i < 2 ^ 64)\/(-(2 ^ 64) < j/\j < 2 ^ 64)
theorem CMul.ok {i j:Int} (h:CMul i j):IntMulOk i j:=by
 rcases h with ⟨h1,h2⟩ | ⟨h1,h2⟩
 ·exact .of_left (intBits_le_64 h1 h2)
 ·exact .of_right (intBits_le_64 h1 h2)
theorem J5:OpR X (binaryOp .Add) (rI0 fun i j=>.int (i+j)):=FQ fun _ _ _ _ _ _ _ q=>add_int q
theorem HN:OpR X (binaryOp .Sub) (rI0 fun i j=>.int (i - j)):=FQ fun _ _ _ _ _ _ _ q=>sub_int q
theorem Ft:OpR X (binaryOp .Mod) (rI (fun _ j=>0 < j) fun i j=>.int (i % j)):=opI fun i j _ _ _ _ _ hc q=>by
 have h1:(0:Int) < j:=hc
 exact mod_int' (by omega) (by rw [Int.fmod_eq_emod_of_nonneg i (by omega)];exact q)
theorem IH:OpR X (binaryOp .Pow) (rI FL fun i j=>.int (i ^ j.toNat)):=opI fun _ _ _ _ _ _ _ hc q=>pow_int_small hc.1 hc.2.1 hc.2.2 q
end
section
variable {X:Cx} {a b c:Expr} {ta tb tc:TE} {pos:Pos}
theorem GQ {pins:List (Addr × Obj)} {σ:St} {H:Hp} {s:Shared} {Q:VK} {k k':Bool} (I:Inv X pins σ H s) (q:Q (.bl k) H) (e:k=k'):EP X pins σ Q (.bool k') s:=by
 subst e
 exact ⟨.bl k,H,I,rfl,q⟩
theorem HE:OpR X (compareOp .Lt) (rI0 fun i j=>.bl (decide (i < j))):=EJ fun _ _ _ _ _ _ _ q=>lt_int q
theorem Jd:OpR X (compareOp .Gt) (rI0 fun i j=>.bl (decide (j < i))):=EJ fun _ _ _ _ _ _ _ q=>gt_int q
theorem Hq:OpR X (compareOp .Is) (fun x y H Q=>y=.non/\Q (.bl (decide (x=.non))) H):=by
 intro pins s σ H x y v u Q I rx ry h
 obtain ⟨rfl,q⟩:=h
 cases ry
 refine is_none_gen (GQ I q ?_)
 cases x <;> first
  | (cases rx;rfl)
  | (obtain ⟨t,rfl⟩:=rx;rfl)
theorem G6 {op:CmpOp} {r:R2} (ho:OpR X (compareOp op) r) (ha:PE X a ta) (hb:PE X b tb) (hm:behindInMarks op b=false):PE X (.Compare a [op] [b] pos) (tOp r ta tb):=by
 intro pins s σ H Q I h
 exact wpAny_Compare1 (DT ha hb I h fun v u s2 x y H2 I2 rx ry q=>ho pins s2 σ H2 x y v u Q I2 rx ry q) hm
theorem Bb:(sizeLine:Nat) < 2 ^ 63:=by rw [sizeLine_eq];decide
theorem GL:OpR X (binaryOp .Add) (fun x y H Q=>∃ i j,x=.str i/\y=.str j/\i.length+j.length<=sizeLine/\Q (.str (i++j)) H):=by
 intro pins s σ H x y v u Q I rx ry h
 obtain ⟨i,j,rfl,rfl,hz,q⟩:=h
 obtain ⟨t,rfl⟩:=rx
 obtain ⟨t',rfl⟩:=ry
 exact add_str (fun t' tk=>⟨.str (i++j),H,I.tok _,⟨_,rfl⟩,q⟩) hz
theorem Bv {x:V} {us:List Value} (r:Vals [x] us):∃ u,us=[u]/\RelV x u:=by
 cases r with
 | cons r1 r2=>cases r2;exact ⟨_,rfl,r1⟩
theorem D1 {x y:V} {us:List Value} (r:Vals [x,y] us):∃ u w',us=[u,w']/\RelV x u/\RelV y w':=by
 cases r with
 | cons r1 r2 =>
  cases r2 with
  | cons r3 r4=>cases r4;exact ⟨_,_,rfl,r1,r3⟩
theorem Ha (hc:X.calm=true):CallR X (.builtin "max") (fun xs H Q=>∃ i j,xs=[.int i,.int j]/\Q (.int (if j > i then j else i)) H):=by
 intro pins s σ H xs us Q I r h
 obtain ⟨i,j,rfl,q⟩:=h
 obtain ⟨u,w',rfl,⟨t,rfl⟩,⟨t',rfl⟩⟩:=D1 r
 refine max_two_ints (I.ok.hd hc) fun h' tk k=>⟨_,H,I.kept k,?_,q⟩
 by_cases hj:j > i
 ·rw [if_pos hj,if_pos hj];exact ⟨_,rfl⟩
 ·rw [if_neg hj,if_neg hj];exact ⟨_,rfl⟩
theorem call_str_int:CallR X (.type "str") (fun xs H Q=>∃ i,xs=[.int i]/\i.natAbs.log2 < 1920/\Q (.str (toString i)) H):=by
 intro pins s σ H xs us Q I r h
 obtain ⟨i,rfl,hz,q⟩:=h
 obtain ⟨u,rfl,t,rfl⟩:=Bv r
 exact PySem.P.str_of_int hz ⟨.str _,H,I.tok _,⟨_,rfl⟩,q⟩
def EU (K:PySem.W.Frag) (x:V) (H:Hp) (n:Nat):Prop :=
 match x with
 | .str y=>y.length<=sizeLine/\n=y.length
 | .byt y=>y.size<=sizeLine/\n=y.size
 | .ref p=>(∃ xs,SqL K H p xs/\n=xs.length)\/∃ xs,SqT K H p xs/\n=xs.length
 | _=>False
theorem call_len:CallR X (.builtin "len") (fun xs H Q=>∃ x n,xs=[x]/\EU X.K x H n/\Q (.int n) H):=by
 intro pins s σ H xs us Q I r h
 obtain ⟨x,n,rfl,e,q⟩:=h
 obtain ⟨u,rfl,rx⟩:=Bv r
 have hl:=Bb
 have hs:sizeLine=16777216:=sizeLine_eq
 cases x with
 | str y =>
  obtain ⟨t,rfl⟩:=rx
  obtain ⟨hy,e'⟩:y.length<=sizeLine/\n=y.length:=e
  subst e'
  exact len_str (by omega) ⟨.int _,H,I.tok _,⟨_,rfl⟩,q⟩
 | byt y =>
  obtain ⟨t,rfl⟩:=rx
  obtain ⟨hy,e'⟩:y.size<=sizeLine/\n=y.size:=e
  subst e'
  exact PySem.W.len_bytes (by omega) ⟨.int _,H,I.tok _,⟨_,rfl⟩,q⟩
 | ref p =>
  cases rx
  have e':(∃ xs,SqL X.K H p xs/\n=xs.length)\/∃ xs,SqT X.K H p xs/\n=xs.length:=e
  rcases e' with ⟨xs,hx,e'⟩ | ⟨xs,hx,e'⟩
  ·subst e'
   obtain ⟨its,r',pl,hz⟩:=I.list hx
   have hlen:=r'.length
   exact Calls.call_len_list pl.isList (by simp only [List.size_toArray];omega) ⟨.int xs.length,H,I.tok _,⟨_,by simp only [List.size_toArray];rw [hlen]⟩,q⟩
  ·subst e'
   obtain ⟨its,r',pl,hz⟩:=I.tuple hx
   have hlen:=r'.length
   exact len_tuple pl (by simp only [List.size_toArray];omega) ⟨.int xs.length,H,I.tok _,⟨_,by simp only [List.size_toArray];rw [hlen]⟩,q⟩
 | _=>exact (show False from e).elim
end
structure ObjM (h:Heap) (x dx C:Addr) (mA:Str->Option Value):Prop where
 obj:h.get? x=some (PySem.W.instObj C dx)
 ns:h.Ns1 dx mA
 ne:dx≠x
theorem Jh {h:Heap} {dx:Addr} {mA:Str->Option Value} (n:h.Ns1 dx mA):∃ od,h.get? dx=some od/\∀ name,PySem.W.lookIn name od=some (mA name):=by
 obtain ⟨o,es,ep,ho,hd,hk,_,hm⟩:=n
 refine ⟨o,ho,fun name=>?_⟩
 have e:=hm name
 unfold nsFind findBy at e
 rw [<- Array.find?_toList] at e
 unfold PySem.W.lookIn
 rw [hd]
 dsimp only
 split
 ·rename_i y q
  rw [q] at e
  exact congrArg some e
 ·rename_i q
  rw [q] at e
  have a:es.toList.any (·.refKey)=false:=by
   rw [List.any_eq_false]
   intro y hy
   obtain ⟨z,t,hkey⟩:=hk y (Array.mem_toList_iff.mp hy)
   simp [DictEntry.refKey,hkey]
  have a':¬ es.toList.any (·.refKey)=true:=by rw [a];exact Bool.false_ne_true
  rw [if_neg a']
  exact congrArg some e
theorem ObjM.look {h:Heap} {x dx C:Addr} {mA:Str->Option Value} (I:ObjM h x dx C mA):∃ od,PySem.W.InstAt h x (PySem.W.instObj C dx) C (some od)/\∀ name,PySem.W.lookIn name od=some (mA name) :=
 let ⟨od,ho,hl⟩:=Jh I.ns
 ⟨od,⟨I.obj,rfl,rfl,ho⟩,hl⟩
section
variable {prog:Program} {w:World} {A:Around} {E:Value->Shared->Prop} {s:Shared} {K:PySem.W.Frag} {x dx C f:Addr} {mA:Str->Option Value} {name:Str} {v:Value}
theorem JR {expr:Bool} {Q:Value->Shared->Prop} (X:K.In s.heap) (I:ObjM s.heap x dx C mA) (hg:PySem.W.plainGet K C name=true) (hh:PySem.W.hasDictIn K C=true)
 (ha:PySem.W.findIn K (.ref C) name=some none) (hv:mA name=some v) (hv':PySem.W.handedIn v=true) (h:Q v { s with toks:=s.toks+1 }) :
 wpAny (model prog w) A (getAttr (.ref x) name expr) Q E s:=by
 obtain ⟨od,J,hl⟩:=I.look
 exact PySem.W.get_value X J (PySem.W.plainGet_of hg).1 (PySem.W.findObj_own hh ha rfl (by rw [hl,hv])) hv' h
theorem Ie {pl:Sem Bool} {Q:Value × List Value->Shared->Prop} (X:K.In s.heap) (I:ObjM s.heap x dx C mA) (hg:PySem.W.plainGet K C name=true)
 (hf:PySem.W.findIn K (.ref C) name=some (some (.ref f))) (ht:PySem.W.isFn K (.ref f)=true) (hv:mA name=none) (h:Q (.ref f,[.ref x]) s) :
 wpAny (model prog w) A (getMethod (.ref x) name pl) Q E s:=by
 obtain ⟨od,J,hl⟩:=I.look
 exact PySem.W.method_fn X J (PySem.W.plainGet_of hg).1 (PySem.W.plainGet_of hg).2 hf (beq_iff_eq.mp ht) (by show (PySem.W.lookIn name od).map (·.isSome)=some false;rw [hl,hv];rfl) h
theorem Jr {ns:List Str} {Q:Unit->Shared->Prop} (X:K.In s.heap) (I:ObjM s.heap x dx C mA)
 (hs:PySem.W.findIn K (.ref C) "__setattr__" = some (some (.builtin "object.__setattr__"))) (hp:PySem.W.plainOver K C=true) (ht:PySem.W.takerIn K C name=some none) (hh:PySem.W.hasDictIn K C=true)
 (hw:PySem.Within mA ns) (hsz:ns.length<=sizeLine)
 (h:∀ h',ObjM h' x dx C (fun y=>if y=name then some v else mA y)->Heap.SameBut dx s.heap h'->Q () { s with heap:=h',toks:=s.toks+2 }) :
 wpAny (model prog w) A (setAttr (.ref x) name v) Q E s:=by
 obtain ⟨od,J,hl⟩:=I.look
 refine PySem.W.set_plain X J hs (PySem.W.osa_open (s:={ s with toks:=s.toks+1 }) (r:=none) X J hp ht fun b=>?_)
 obtain ⟨cd,hc,hd'⟩:=PySem.W.any_some hh
 have hx:s.heap.get? x=some ⟨.ref C,some dx,.plain,#[]⟩:=I.obj
 refine wpAny_bind (wpAny_pure (wpAny_bind (wpAny_bind (wpAny_loadPart hx (wpAny_bind (PySem.W.Looks.here (s:={ s with toks:=s.toks+1 }) (PySem.W.looks_clsIn X hc) ?_))))))
 rw [hd']
 refine wpAny_pure (a:=some dx) (wpAny_bind (wpAny_pure (wpAny_bind ?_)))
 refine wpAny_nsSet1 (s:={ s with toks:=s.toks+1 }) I.ns fun h' hn2 hs2=>?_
 obtain ⟨oD,esD,epD,hoD,hdD,hcD⟩:=hn2.count (PySem.Within.cons name v hw)
 refine wpAny_bind (wpAny_lookBehind hoD (by rw [hdD];exact pastItsLine_dict (Nat.le_trans hcD (by rw [List.length_cons];omega))) ?_)
 exact wpAny_pure (h _ ⟨(hs2.2 _ (Ne.symm I.ne)).trans I.obj,hn2,I.ne⟩ hs2)
theorem KF {R:Result->Shared->Prop} {vs:List Value} {kw:List (Str × Value)} (X:K.In s.heap) (hm:PySem.W.makesIn K C=true)
 (hi:PySem.W.findIn K (.ref C) "__init__" = some (some (.ref f))) (hf:PySem.W.typeIn K (.ref f)=some (.type "function"))
 (h:codeAny (model prog w) (A.under (.builtin "type.__call__" ⟨.ref C::vs,kw⟩)) (.call (.ref f) ⟨.ref (s.heap.objs.size+1)::vs,kw⟩) (PySem.W.InitBack (s.heap.objs.size+1) R)
   { s with heap:=(s.heap.push PySem.W.emptyDict).push (PySem.W.instObj C s.heap.objs.size) }) :
 codeAny (model prog w) A (.call (.ref C) ⟨vs,kw⟩) R s:=by
 obtain ⟨hh,g,d,t,os⟩:=s
 exact PySem.W.make_core (PySem.W.makes_of X hm) (PySem.W.looks_findIn X hi) (fun self=>PySem.W.bind_fn X self hf) (.inl rfl) h
end
def AJ (f:Str) (v:V):List (Str × V)->List (Str × V)
 | []=>[(f,v)]
 | (g,x)::r=>if g=f then (g,v)::r else (g,x)::AJ f v r
theorem Ep (f g:Str) (v:V):∀ fs:List (Str × V),(AJ f v fs).lookup g=if g=f then some v else fs.lookup g
 | []=>by
  show List.lookup g [(f,v)]=_
  by_cases h:g=f
  ·have hb:(g == f)=true:=beq_iff_eq.mpr h
   simp only [List.lookup,hb,if_pos h]
  ·have hb:(g == f)=false:=beq_eq_false_iff_ne.mpr h
   simp only [List.lookup,hb,if_neg h]
 | (k,x)::r=>by
  have ih:=Ep f g v r
  rw [show AJ f v ((k,x)::r)=(if k=f then (k,v)::r else (k,x)::AJ f v r) from rfl]
  by_cases hk:k=f
  ·rw [if_pos hk]
   by_cases h:g=k
   ·have hb:(g == k)=true:=beq_iff_eq.mpr h
    simp only [List.lookup,hb,if_pos (h.trans hk)]
   ·have hb:(g == k)=false:=beq_eq_false_iff_ne.mpr h
    simp only [List.lookup,hb,if_neg (fun e:g=f=>h (e.trans hk.symm))]
  ·rw [if_neg hk]
   by_cases h:g=k
   ·have hb:(g == k)=true:=beq_iff_eq.mpr h
    simp only [List.lookup,hb,if_neg (fun e:g=f=>hk (h.symm.trans e))]
   ·have hb:(g == k)=false:=beq_eq_false_iff_ne.mpr h
    simp only [List.lookup,hb]
    exact ih
theorem DF (f:Str) (v:V):∀ fs:List (Str × V),f∈(AJ f v fs).map (·.1)/\∀ g,g∈fs.map (·.1)->g∈(AJ f v fs).map (·.1)
 | []=>⟨by simp [AJ],fun g h=>by simp at h⟩
 | (k,x)::r=>by
  obtain ⟨i1,i2⟩:=DF f v r
  rw [show AJ f v ((k,x)::r)=(if k=f then (k,v)::r else (k,x)::AJ f v r) from rfl]
  by_cases hk:k=f
  ·rw [if_pos hk]
   subst hk
   exact ⟨by simp,fun g h=>by simpa using h⟩
  ·rw [if_neg hk]
   refine ⟨?_,fun g h=>?_⟩
   ·rw [List.map_cons]
    exact List.mem_cons_of_mem _ i1
   ·rw [List.map_cons] at h ⊢
    rcases List.mem_cons.mp h with e | e
    ·exact List.mem_cons.mpr (.inl e)
    ·exact List.mem_cons_of_mem _ (i2 g e)
theorem FN (f:Str) (v:V):∀ fs:List (Str × V),(AJ f v fs).length<=fs.length+1
 | []=>by simp [AJ]
 | (k,x)::r=>by
  have ih:=FN f v r
  rw [show AJ f v ((k,x)::r)=(if k=f then (k,v)::r else (k,x)::AJ f v r) from rfl]
  by_cases hk:k=f
  ·rw [if_pos hk,List.length_cons,List.length_cons];omega
  ·rw [if_neg hk,List.length_cons,List.length_cons];omega
theorem RelO.some_of {v:V} {o:Option Value} (r:RelO (some v) o):∃ u,o=some u/\RelV v u:=by
 cases o with
 | none=>exact (show False from r).elim
 | some u=>exact ⟨u,rfl,r⟩
theorem RelO.none_of {o:Option Value} (r:RelO none o):o=none:=by
 cases o with
 | none=>rfl
 | some u=>exact (show False from r).elim
theorem HB {v:V} {u:Value} (r:RelV v u):PySem.W.handedIn u=true:=by
 cases v with
 | non=>cases (show u=Value.none from r);rfl
 | bl b=>cases (show u=Value.bool b from r);rfl
 | int i=>obtain ⟨t,e⟩:=(show ∃ t,u=Value.int i t from r);cases e;rfl
 | str x=>obtain ⟨t,e⟩:=(show ∃ t,u=Value.str x t from r);cases e;rfl
 | byt b=>obtain ⟨t,e⟩:=(show ∃ t,u=Value.bytes b t from r);cases e;rfl
 | flt b=>obtain ⟨t,e⟩:=(show ∃ t,u=Value.float b t from r);cases e;rfl
 | ref a=>cases (show u=Value.ref a from r);rfl
 | ty n=>cases (show u=Value.type n from r);rfl
section
variable {P:Program} {w:World} {H H':Hp} {h h':Heap} {a C dx:Addr} {fs fs':List (Str × V)}
theorem Cc (hok:HOk P w H h) (e:H a=some (.ins C dx fs)):∃ mA,ObjM h a dx C mA/\(∀ f,RelO (fs.lookup f) (mA f))/\PySem.Within mA (fs.map (·.1))/\fs.length<=1000/\H dx=some (.own a):=by
 obtain ⟨d,z,ne,ob,mA,n,r,q⟩:=(show ObjOk P w H h a (.ins C dx fs) from hok a _ e)
 exact ⟨mA,⟨ob,n,ne⟩,r,q,z,d⟩
end
structure Cls (K:PySem.W.Frag) (C:Addr):Prop where
 pg:PySem.W.plainGet K C Str.empty=true
 hd:PySem.W.hasDictIn K C=true
 po:PySem.W.plainOver K C=true
 sa:PySem.W.findIn K (.ref C) "__setattr__" = some (some (.builtin "object.__setattr__"))
theorem Cls.get {K:PySem.W.Frag} {C:Addr} (c:Cls K C) (f:Str):PySem.W.plainGet K C f=true:=c.pg
def NoAttr (K:PySem.W.Frag) (C:Addr) (f:Str):Prop:=PySem.W.findIn K (.ref C) f=some none
theorem NoAttr.taker {K:PySem.W.Frag} {C:Addr} {f:Str} (n:NoAttr K C f):PySem.W.takerIn K C f=some none:=by
 unfold PySem.W.takerIn
 rw [show PySem.W.findIn K (.ref C) f=some none from n]
 rfl
structure Con (K:PySem.W.Frag) (C:Addr) (f:Str) (v:V) (u:Value):Prop where
 at_:PySem.W.findIn K (.ref C) f=some (some u)
 rel:RelV v u
 get:PySem.W.specialIn K u "__get__" = some none
 cp:PySem.W.copiedNames.contains f=false
structure Meth (K:PySem.W.Frag) (C:Addr) (m:Str) (f:Addr):Prop where
 at_:PySem.W.findIn K (.ref C) m=some (some (.ref f))
 fn:PySem.W.isFn K (.ref f)=true
 kp:PySem.W.keepIn K (.ref f)=true
section
variable {X:Cx} {pins:List (Addr × Obj)} {σ:St} {H:Hp} {s:Shared} {a C dx:Addr} {fs:List (Str × V)} {f:Str} {v:V} {A:Around} {E:Value->Shared->Prop}
theorem Hv {b:Bool} {Q:Value->Shared->Prop} (I:Inv X pins σ H s) (e:H a=some (.ins C dx fs)) (c:Cls X.K C) (n:NoAttr X.K C f) (l:fs.lookup f=some v)
 (h:∀ u s',Inv X pins σ H s'->RelV v u->Q u s'):wpAny (model X.prog X.w) A (getAttr (.ref a) f b) Q E s:=by
 obtain ⟨mA,O,r,_,_,_⟩:=Cc I.hok e
 obtain ⟨u,hu,ru⟩:=RelO.some_of (v:=v) (o:=mA f) (by rw [<- l];exact r f)
 exact JR I.kIn O (c.get f) c.hd n hu (HB ru) (h u _ (I.tok _) ru)
theorem E8 {m:Str} {g:Addr} {pl:Sem Bool} {Q:Value × List Value->Shared->Prop} (I:Inv X pins σ H s) (e:H a=some (.ins C dx fs)) (c:Cls X.K C) (k:Meth X.K C m g) (l:fs.lookup m=none)
 (h:Q (.ref g,[.ref a]) s):wpAny (model X.prog X.w) A (getMethod (.ref a) m pl) Q E s:=by
 obtain ⟨mA,O,r,_,_,_⟩:=Cc I.hok e
 have hn:mA m=none:=RelO.none_of (by rw [<- l];exact r m)
 exact Ie I.kIn O (c.get m) k.at_ k.fn hn h
theorem HW {y:V} {u:Value} {Q:Unit->Shared->Prop} (I:Inv X pins σ H s) (e:H a=some (.ins C dx fs)) (c:Cls X.K C) (n:NoAttr X.K C f) (hl:fs.length < 1000) (ry:RelV y u)
 (h:∀ s',Inv X pins σ (upd H a (.ins C dx (AJ f y fs))) s'->Q () s'):wpAny (model X.prog X.w) A (setAttr (.ref a) f u) Q E s:=by
 obtain ⟨mA,O,r,wi,_,ho⟩:=Cc I.hok e
 have hz:(fs.map (·.1)).length<=sizeLine:=by rw [List.length_map,sizeLine_eq];omega
 refine Jr I.kIn O c.sa c.po n.taker c.hd wi hz fun h' O' sb=>h _ ?_
 have hd:∃ o,h'.get? dx=some o:=let ⟨o,_,_,e',_⟩:=O'.ns;⟨o,e'⟩
 refine I.write (x:=a) (e:=dx) (by rw [e];exact True.intro) (.inr ho) (fun b q hb z=>(sb.2 b hb).trans z) hd ?_
 refine ⟨by rw [AF O.ne];exact ho,?_,O.ne,O'.obj,_,O'.ns,fun g=>?_,fun g hg=>?_⟩
 ·have:=FN f y fs;omega
 ·show RelO ((AJ f y fs).lookup g) (if g=f then some u else mA g)
  rw [Ep]
  by_cases q:g=f
  ·rw [if_pos q,if_pos q];exact ry
  ·rw [if_neg q,if_neg q];exact r g
 ·by_cases q:g=f
  ·rw [q];exact (DF f y fs).1
  ·refine (DF f y fs).2 g (wi g fun z=>hg ?_)
   show (if g=f then some u else mA g)=none
   rw [if_neg q];exact z
theorem Inv.made (I:Inv X pins σ H s):Inv X pins σ (upd (upd H s.heap.objs.size (.own (s.heap.objs.size+1))) (s.heap.objs.size+1) (.ins C s.heap.objs.size []))
 { s with heap:=(s.heap.push PySem.W.emptyDict).push (PySem.W.instObj C s.heap.objs.size) }:=by
 have e1:(s.heap.push PySem.W.emptyDict).get? s.heap.objs.size=some PySem.W.emptyDict:=Heap.get?_push_size s.heap rfl
 have e2:((s.heap.push PySem.W.emptyDict).push (PySem.W.instObj C s.heap.objs.size)).get? (s.heap.objs.size+1)=some (PySem.W.instObj C s.heap.objs.size):=by
  have:=Heap.get?_push_size (s.heap.push PySem.W.emptyDict) (o:=PySem.W.instObj C s.heap.objs.size) rfl
  rwa [Heap.size_push] at this
 have e3:(s.heap.push PySem.W.emptyDict).Ns s.heap.objs.size (fun _=>none):=⟨PySem.W.emptyDict,#[],_,e1,rfl,(fun e he=>absurd he (by simp)),fun _=>rfl⟩
 have I1:=I.laid (a:=s.heap.objs.size) (o:=.own (s.heap.objs.size+1)) (h':=s.heap.push PySem.W.emptyDict) (t':=s.toks) (fun b u q=>Heap.get?_push_of_some _ q) (Nat.le_refl _) ⟨_,e1⟩
 refine I1.laid (a:=s.heap.objs.size+1) (o:=.ins C s.heap.objs.size []) (t':=s.toks) (fun b u q=>Heap.get?_push_of_some _ q) (Nat.le_of_eq (Heap.size_push _ _)) ?_
 have ne:s.heap.objs.size≠s.heap.objs.size+1:=Nat.ne_of_lt (Nat.lt_succ_self _)
 refine ⟨by rw [AF ne,AB],Nat.zero_le _,ne,e2,fun _=>none,(Heap.Ns1.of_empty e3).at fun o q=>Heap.get?_push_of_some _ q,fun _=>True.intro,fun y hy=>absurd rfl hy⟩
theorem Hr {prog:Program} {w:World} {env:Env} {e:Expr} {f:Str} {pos:Pos} {s:Shared} {Q:Value->Shared->Prop} (hb:attributeBase e f env (eval e env)=eval e env)
 (h:wpAny (model prog w) A (eval e env) (fun o s₁=>wpAny (model prog w) A (getAttr o f true) Q E s₁) E s):wpAny (model prog w) A (eval (.Attribute e f pos) env) Q E s :=
 Attribute_any_ h (by rw [arm_eval_Attribute,hb])
end
section
variable {X:Cx} {o e value:Expr} {f:Str} {pos pos' tpos:Pos} {ta tv:TE}
end
section
variable {X:Cx} {pins:List (Addr × Obj)} {σ:St} {H:Hp} {s:Shared} {A:Around} {E:Value->Shared->Prop} {Q:Value->Shared->Prop} {c:Value} {b:Bool}
inductive TyOf (K:PySem.W.Frag) (H:Hp):V->Value->Prop where
 | non:TyOf K H .non (.type "NoneType")
 | bl (x:Bool):TyOf K H (.bl x) (.type "bool")
 | int (i:Int):TyOf K H (.int i) (.type "int")
 | str (x:Str):TyOf K H (.str x) (.type "str")
 | flt (x:UInt64):TyOf K H (.flt x) (.type "float")
 | lst {a:Addr} {xs:List V} (e:H a=some (.lst xs)):TyOf K H (.ref a) (.type "list")
 | frz {a:Addr} {o:Obj} {xs:List V} (e:H a=some (.frz o (.lst xs))):TyOf K H (.ref a) (.type "list")
 | tup {a:Addr} {xs:List V} (e:H a=some (.tup xs)):TyOf K H (.ref a) (.type "tuple")
 | dK {a:Addr} {kvs:List (Key × V)} (e:H a=some (.dK kvs)):TyOf K H (.ref a) (.type "dict")
 | dT {a:Addr} {kvs:List (List Key × V)} (e:H a=some (.dT kvs)):TyOf K H (.ref a) (.type "dict")
 | ins {a C dx:Addr} {fs:List (Str × V)} (e:H a=some (.ins C dx fs)) (cl:Cls K C) (ha:PySem.W.findIn K (.ref C) "__class__" = some (some (.builtin "object.__class__")))
  (hn:PySem.W.specialIn K (.builtin "object.__class__") "__get__" = some (some (.builtin "getset_descriptor.__get__"))) (htk:PySem.W.takesIn K (.builtin "object.__class__")=some true)
  (hm:PySem.W.mroIn K C (.type "object")=some true):TyOf K H (.ref a) (.ref C)
theorem GJ {x:V} {u t:Value} (I:Inv X pins σ H s) (rx:RelV x u) (ty:TyOf X.K H x t) (e:PySem.W.kitOne X.K t c=some b) (h:∀ tk,Q (.bool b) { s with toks:=tk }) :
 wpAny (model X.prog X.w) A (call (.builtin "isinstance") [u,c]) Q E s:=by
 cases ty with
 | non=>cases (show u=Value.none from rx);exact PySem.W.kia_one PySem.W.kitx_none I.kIn True.intro e (fun z=>nomatch z) h
 | bl y=>cases (show u=Value.bool y from rx);exact PySem.W.kia_one PySem.W.kitx_bool I.kIn True.intro e (fun z=>nomatch z) h
 | int i=>obtain ⟨t,q⟩:=(show ∃ t,u=Value.int i t from rx);cases q;exact PySem.W.kia_one PySem.W.kitx_int I.kIn True.intro e (fun z=>nomatch z) h
 | str y=>obtain ⟨t,q⟩:=(show ∃ t,u=Value.str y t from rx);cases q;exact PySem.W.kia_one PySem.W.kitx_str I.kIn True.intro e (fun z=>nomatch z) h
 | flt y=>obtain ⟨t,q⟩:=(show ∃ t,u=Value.float y t from rx);cases q;exact PySem.W.kia_one PySem.W.kitx_float I.kIn True.intro e (fun z=>nomatch z) h
 | @lst a xs ea =>
  cases (show u=Value.ref a from rx)
  obtain ⟨_,_,n,_,h1⟩:=(show ObjOk X.prog X.w H s.heap a (.lst xs) from I.hok a _ ea)
  exact PySem.W.kia_one PySem.W.kitx_list I.kIn ⟨_,h1,rfl⟩ e (fun z=>nomatch z) h
 | @frz a ob xs ea =>
  cases (show u=Value.ref a from rx)
  obtain ⟨_,_,_,n,_,h1⟩:=(show ObjOk X.prog X.w H s.heap a (.frz ob (.lst xs)) from I.hok a _ ea)
  exact PySem.W.kia_one PySem.W.kitx_list I.kIn ⟨_,h1,rfl⟩ e (fun z=>nomatch z) h
 | @tup a xs ea =>
  cases (show u=Value.ref a from rx)
  obtain ⟨_,_,_,p⟩:=(show ObjOk X.prog X.w H s.heap a (.tup xs) from I.hok a _ ea)
  obtain ⟨o,h1,h2,_⟩:=p
  exact PySem.W.kia_one PySem.W.kitx_tuple I.kIn ⟨o,h1,h2⟩ e (fun z=>nomatch z) h
 | @dK a kvs ea =>
  cases (show u=Value.ref a from rx)
  obtain ⟨_,_,vs,_,p⟩:=(show ObjOk X.prog X.w H s.heap a (.dK kvs) from I.hok a _ ea)
  obtain ⟨o,es,ep,h1,h2,_⟩:=p
  exact PySem.W.kia_one PySem.W.kitx_dict I.kIn ⟨o,h1,h2.1⟩ e (fun z=>nomatch z) h
 | @dT a kvs ea =>
  cases (show u=Value.ref a from rx)
  obtain ⟨_,_,xs,_,o,es,ep,h1,h2,_⟩:=(show ObjOk X.prog X.w H s.heap a (.dT kvs) from I.hok a _ ea)
  exact PySem.W.kia_one PySem.W.kitx_dict I.kIn ⟨o,h1,h2.1⟩ e (fun z=>nomatch z) h
 | @ins a C dx fs ea cl ha hn htk hm =>
  cases (show u=Value.ref a from rx)
  obtain ⟨mA,O,_⟩:=Cc I.hok ea
  obtain ⟨od,J,_⟩:=O.look
  exact PySem.W.kia_one (PySem.W.kitx_own (cl.get _) cl.hd ha hn htk hm) I.kIn J e (fun z=>nomatch z) h
end
structure Room (k:Nat) (A:Around):Prop where
 hd:A.handled=none
 dp:A.depth+3 * k+5 < recursionLimit
 un:A.units+16 * k+200 < cLine
 gd:A.guards=some []
theorem Room.mono {j k:Nat} {A:Around} (r:Room k A) (h:j<=k):Room j A:=⟨r.hd,by have:=r.dp;omega,by have:=r.un;omega,r.gd⟩
theorem Room.deeper {k:Nat} {A:Around} (r:Room (k+1) A) (env:Env):Room k (A.deeper env) :=
 ⟨r.hd,by have:=r.dp;show A.depth+1+3 * k+5 < _;omega,by have:=r.un;show A.units+3+16 * k+200 < _;omega,r.gd⟩
theorem Jn {A:Around} {C:Addr} {us:List Value} {kw:List (Str × Value)}:(A.under (.builtin "type.__call__" ⟨.ref C::us,kw⟩)).depth=A.depth+1:=by
 first | rfl | simp [Around.under,Code.weight,Code.isCreation,Code.isGuard,Code.isCaller,Code.frames,Code.isFrame,guardIds]
theorem Iw {A:Around} {C:Addr} {us:List Value} {kw:List (Str × Value)}:(A.under (.builtin "type.__call__" ⟨.ref C::us,kw⟩)).units=A.units+1:=by
 first | rfl | simp [Around.under,Code.cUnits,Code.frames,Code.isFrame]
theorem Room.make {k:Nat} {A:Around} (r:Room (k+1) A) (C:Addr) (us:List Value) (kw:List (Str × Value)):Room k (A.under (.builtin "type.__call__" ⟨.ref C::us,kw⟩)) :=
 ⟨r.hd,by have:=r.dp;rw [Jn];omega,by have:=r.un;rw [Iw];omega,by first | exact r.gd | (simpa [Around.under,Code.guards,Code.isGuard,guardIds,pushGuards] using r.gd)⟩
theorem Room.depth {k:Nat} {A:Around} (r:Room k A):A.depth < recursionLimit:=by have:=r.dp;omega
def Ci:TA:=fun _ H Q=>Q [] H
def DI (ta:TE) (tr:TA):TA:=fun σ H Q=>ta σ H fun x H1=>tr σ H1 fun xs H2=>Q (x::xs) H2
section
variable {X:Cx} {e:Expr} {es:List Expr} {te:TE} {t:TA} {pos:Pos}
theorem Gv:PA X [] Ci:=fun _ _ _ _ H Q I h=>Calls.spliced_nil ⟨[],H,I,.nil,h⟩
theorem AE (ha:PE X e te) (hr:PA X es t) (hs:starEach (e::es) X.env=(false,eval e X.env)::starEach es X.env:=by rfl):PA X (e::es) (DI te t):=by
 intro pos pins s σ H Q I h
 rw [hs]
 show wpAny _ _ (spliced ((false,eval e X.env)::backTo pos (starEach es X.env))) _ _ s
 refine Calls.spliced_cons (thn (ha pins s σ H _ I h) fun u s1 ⟨x,H1,I1,r1,q1⟩=>?_)
 exact thn (hr pos pins s1 σ H1 _ I1 q1) fun us s2 ⟨xs,H2,I2,r2,q2⟩=>⟨x::xs,H2,I2,.cons r1 r2,q2⟩
def FY (t:TA):TE:=fun σ H Q=>t σ H fun xs H1=>xs.length<=sizeLine/\∀ p,H1 p=none->Q (.ref p) (upd H1 p (.tup xs))
def E2 (t:TA):TE:=fun σ H Q=>t σ H fun xs H1=>xs.length<=sizeLine/\∀ p,H1 p=none->Q (.ref p) (upd H1 p (.lst xs))
theorem Bc {x1} (h:PA X es t):PE X (.Tuple es x1 pos) (FY t):=by
 intro pins s σ H Q I hq
 refine wpAny_Tuple_spliced (thn (h pos pins s σ H _ I hq) fun us s1 ⟨xs,H1,I1,r,z,q⟩=>⟨by rw [<- r.length];exact z,?_⟩)
 have hf:H1 s1.heap.objs.size=none:=I1.hok.fresh (Nat.le_refl _)
 refine ⟨.ref s1.heap.objs.size,upd H1 s1.heap.objs.size (.tup xs),I1.laid (t':=s1.toks) (fun b u e=>Heap.get?_push_of_some _ e) (Nat.le_refl _) ?_,rfl,q _ hf⟩
 exact ⟨z,us,r,⟨_,Heap.get?_push_size _ rfl,rfl,⟨_,rfl⟩,rfl⟩⟩
theorem A5 (h:PA X es t):PE X (.List es pos) (E2 t):=by
 intro pins s σ H Q I hq
 refine wpAny_List_spliced (thn (h pos pins s σ H _ I hq) fun us s1 ⟨xs,H1,I1,r,z,q⟩=>⟨by rw [<- r.length];exact z,?_⟩)
 have hf:H1 s1.heap.objs.size=none:=I1.hok.fresh (Nat.le_refl _)
 refine ⟨.ref s1.heap.objs.size,upd H1 s1.heap.objs.size (.lst xs),I1.laid (t':=s1.toks) (fun b u e=>Heap.get?_push_of_some _ e) (Nat.le_refl _) ?_,rfl,q _ hf⟩
 exact ⟨z,us,0,r,Heap.get?_push_size _ rfl⟩
end
abbrev Sp:=List V->Hp->VK->XK->Prop
abbrev CXT:=List Env->Hp->Shared->XK->Value->Shared->Prop
structure Env0 (P:Program) (w:World) (K:PySem.W.Frag) (mg:Str->Option Value) (base:Heap) (A:Around) (outer:List Env) (s:Shared) (H:Hp):Prop where
 frames:A.frames=some outer
 mod:Mod K mg base
 bs:∀ b o,base.get? b=some o->s.heap.get? b=some o/\H b=none
 bsz:base.objs.size<=s.heap.objs.size
 funs:s.heap.FunFrames base outer
 frf:∀ b∈frs outer,H b=none
 hok:HOk P w H s.heap
 bare:AllBare s.gens
def CE (outer:List Env) (P:Program) (w:World) (H:Hp) (s:Shared) (Q:VK) (u:Value) (s':Shared):Prop :=
 ∃ v H',s'.os=s.os/\AllBare s'.gens/\Un (frs outer) [] H H' s.heap s'.heap/\HOk P w H' s'.heap/\RelV v u/\Q v H'
def CR (CX:CXT) (outer:List Env) (P:Program) (w:World) (H:Hp) (s:Shared) (Q:VK) (E:XK) (r:Result) (s':Shared):Prop :=
 match r with
 | .ok (.ret u)=>CE outer P w H s Q u s'
 | .ok _=>False
 | .error e=>CX outer H s E e s'
structure FnOk (P:Program) (w:World) (K:PySem.W.Frag) (mg:Str->Option Value) (base:Heap) (CX:CXT) (k:Nat) (f:Addr) (fd:FuncData) (ps:List Str) (sp:Sp):Prop where
 len:∀ vs H Q E,sp vs H Q E->vs.length=ps.length
 run:∀ (A:Around) (outer:List Env) (s:Shared) (H:Hp) (args:Args) (us:List Value) (vs:List V) (Q:VK) (E:XK),Room k A->Env0 P w K mg base A outer s H->BindsTo s fd args (ps.zip us)->Vals vs us->sp vs H Q E ->
  codeAny (model P w) A (.call (.ref f) args) (CR CX outer P w H s Q E) s
theorem FnOk.mono {P:Program} {w:World} {K:PySem.W.Frag} {mg:Str->Option Value} {base:Heap} {CX:CXT} {j k:Nat} {f:Addr} {fd:FuncData} {ps:List Str} {sp:Sp} (F:FnOk P w K mg base CX j f fd ps sp) (h:j<=k) :
 FnOk P w K mg base CX k f fd ps sp:=⟨F.len,fun A outer s H args us vs Q E hr=>F.run A outer s H args us vs Q E (hr.mono h)⟩
theorem Env0.make {P:Program} {w:World} {K:PySem.W.Frag} {mg:Str->Option Value} {base:Heap} {A:Around} {outer:List Env} {s:Shared} {H:Hp} (e:Env0 P w K mg base A outer s H) (C:Addr) (us:List Value) (kw:List (Str × Value)) :
 Env0 P w K mg base (A.under (.builtin "type.__call__" ⟨.ref C::us,kw⟩)) outer s H:=⟨by first | exact e.frames | (simpa [Around.under,Code.envs,Code.isFrame,pushEnvs] using e.frames),e.mod,e.bs,e.bsz,e.funs,e.frf,e.hok,e.bare⟩
section
variable {X:Cx} {pins:List (Addr × Obj)} {σ:St} {H:Hp} {s s':Shared}
theorem Inv.env0 (I:Inv X pins σ H s):Env0 X.prog X.w X.K X.mg X.base X.A X.stack s H :=
 ⟨I.ok.frames,I.ok.mod,I.bs,Nat.le_trans I.ok.bsz I.sz,I.stack,I.stkFree,I.hok,I.bare⟩
theorem Inv.after {Q:VK} {u:Value} (I:Inv X pins σ H s) (h:CE X.stack X.prog X.w H s Q u s'):EP X pins σ Q u s':=by
 obtain ⟨v,H',os,bare,un,hok,r,q⟩:=h
 obtain ⟨hh,g,d,t,os'⟩:=s'
 obtain rfl:os'=s.os:=os
 exact ⟨v,H',I.call (h':=hh) (g':=g) (d':=d) (t':=t) (ch:=[]) un hok bare (fun b z=>absurd z (by simp)),r,q⟩
end
def Dy (sp:Sp) (dvs:List V) (E:XK) (t:TA):TE:=fun σ H Q=>t σ H fun vs H1=>sp (vs++dvs) H1 Q E
def FI (C:Addr) (m:Str) (sp:Sp) (dvs:List V) (E:XK) (ta:TE) (t:TA):TE:=fun σ H Q=>ta σ H fun x H1=>∃ a dx fs,x=.ref a/\H1 a=some (.ins C dx fs)/\fs.lookup m=none /\
 t σ H1 fun vs H2=>sp (x::(vs++dvs)) H2 Q E
def KB (C:Addr) (sp:Sp) (dvs:List V) (E:XK) (t:TA):TE:=fun σ H Q=>t σ H fun vs H1=>∀ x dx,H1 x=none->H1 dx=none->dx≠x ->
 sp (.ref x::(vs++dvs)) (upd (upd H1 dx (.own x)) x (.ins C dx [])) (fun v H2=>v=.non/\Q (.ref x) H2) E
def Binds (K:PySem.W.Frag) (fd:FuncData) (ps:List Str) (ds:List Value):Prop :=
 ∀ (s:Shared) (us:List Value),K.In s.heap->(us++ds).length=ps.length->BindsTo s fd ⟨us,[]⟩ (ps.zip (us++ds))
theorem Binds.all {K:PySem.W.Frag} {fd:FuncData} {ps:List Str} (h:∀ us:List Value,us.length=ps.length->bindArgs fd ⟨us,[]⟩=pure (ps.zip us)):Binds K fd ps []:=fun s us _ hl=>by
 rw [List.append_nil] at hl ⊢
 exact .of_eq (h us hl)
def BN (CX:CXT) (X:Cx) (E:XK):Prop:=∀ (pins:List (Addr × Obj)) (σ:St) (H:Hp) (s:Shared) (e:Value) (s':Shared),Inv X pins σ H s->CX X.stack H s E e s'->X.xe e s'
section
variable {X:Cx} {CX:CXT} {k:Nat} {f C:Addr} {fd:FuncData} {ps:List Str} {sp:Sp} {dvs:List V} {ds:List Value} {E:XK} {x m:Str} {p pos apos:Pos} {e o:Expr} {es:List Expr} {ta:TE} {t:TA}
theorem DA {pins:List (Addr × Obj)} {σ:St} {H:Hp} {s:Shared} {Q:VK} {us:List Value} {vs:List V} (F:FnOk X.prog X.w X.K X.mg X.base CX k f fd ps sp) (hr:Room k X.A) (hb:Binds X.K fd ps ds) (hd:Vals dvs ds) (hx:BN CX X E)
 (I:Inv X pins σ H s) (r:Vals vs us) (h:sp (vs++dvs) H Q E):wpAny (model X.prog X.w) X.A (call (.ref f) us) (EP X pins σ Q) X.xe s:=by
 have r2:Vals (vs++dvs) (us++ds):=r.append hd
 have hl:(us++ds).length=ps.length:=by rw [<- r2.length];exact F.len _ _ _ _ h
 refine wpAny_call (codeAny_mono (F.run X.A X.stack s H ⟨us,[]⟩ (us++ds) (vs++dvs) Q E hr I.env0 (hb s us I.kIn hl) r2 h) fun r s' hq=>?_)
 cases r with
 | error e=>exact hx pins σ H s e s' I hq
 | ok fl =>
  cases fl with
  | ret u=>exact I.after hq
  | next=>exact False.elim hq
  | brk=>exact False.elim hq
  | cont=>exact False.elim hq
theorem AR (F:FnOk X.prog X.w X.K X.mg X.base CX k f fd ps sp) (hr:Room k X.A) (hg:Gl X x) (hm:X.mg x=some (.ref f)) (hk:PySem.W.keepIn X.K (.ref f)=true) (hb:Binds X.K fd ps ds) (hd:Vals dvs ds) (hx:BN CX X E)
 (ha:PA X (e::es) t) (hdb:(x == ("__debug__" : Str))=false:=by decide) (he:starEach (e::es) X.env=(false,eval e X.env)::starEach es X.env:=by rfl) (hpl:(backTo pos (starEach es X.env)).any (·.1)=false:=by rfl) :
 PE X (.Call (.Name x p) (e::es) [] pos) (Dy sp dvs E t):=by
 intro pins s σ H Q I h
 refine wpAny_Call_Name_kw (Di I hg hm ?_ hdb)
 refine PySem.W.callWith_K (h₀:=X.base) I.ok.mod.kin hk (thn (ha pos pins s σ H _ I h) fun us s1 ⟨vs,H1,I1,r,q⟩=>⟨I1.kIn,?_⟩) he hpl
 exact DA F hr hb hd hx I1 r q
theorem D4 {pl:Sem Bool} (he:PE X o ta) (c:Cls X.K C) (hm:Meth X.K C m f) (F:FnOk X.prog X.w X.K X.mg X.base CX k f fd ps sp) (hr:Room k X.A) (hb:Binds X.K fd ps ds) (hd:Vals dvs ds) (hx:BN CX X E) (ha:PA X (e::es) t)
 (hst:starEach (e::es) X.env=(false,eval e X.env)::starEach es X.env:=by rfl) (hpl:(backTo pos (starEach es X.env)).any (·.1)=false:=by rfl)
 (ht:eval (.Call (.Attribute o m apos) (e::es) [] pos) X.env=(do
   let ov <- eval o X.env
   standAt apos.atName
   let (f,first) <- holding [ov] (getMethod ov m pl)
   callWith pos f first (backTo pos (starEach (e::es) X.env)) (backToKw pos (keywordEach [] X.env))):=by rfl) :
 PE X (.Call (.Attribute o m apos) (e::es) [] pos) (FI C m sp dvs E ta t):=by
 intro pins s σ H Q I h
 refine PySem.W.methodCall_KW (pl:=pl) (thn (he pins s σ H _ I h) fun u s1 ⟨x,H1,I1,rx,a,dx,fs,ex,ea,l,q⟩=>?_) ht
 subst ex
 obtain rfl:u=Value.ref a:=rx
 refine E8 I1 ea c hm l ?_
 refine PySem.W.callWith_K (first:=[.ref a]) (h₀:=X.base) I.ok.mod.kin hm.kp (thn (ha pos pins s1 σ H1 _ I1 q) fun us s2 ⟨vs,H2,I2,r,q2⟩=>⟨I2.kIn,?_⟩) hst hpl
 exact DA (us:=.ref a::us) (vs:=.ref a::vs) F hr hb hd hx I2 (.cons rfl r) q2
theorem Ce {pl:Sem Bool} (he:PE X o ta) (c:Cls X.K C) (hm:Meth X.K C m f) (F:FnOk X.prog X.w X.K X.mg X.base CX k f fd ps sp) (hr:Room k X.A) (hb:Binds X.K fd ps ds) (hd:Vals dvs ds) (hx:BN CX X E)
 (ht:eval (.Call (.Attribute o m apos) [] [] pos) X.env=(do
   let ov <- eval o X.env
   standAt apos.atName
   let (f,first) <- holding [ov] (getMethod ov m pl)
   callWith pos f first (backTo pos (starEach [] X.env)) (backToKw pos (keywordEach [] X.env))):=by rfl) :
 PE X (.Call (.Attribute o m apos) [] [] pos) (FI C m sp dvs E ta Ci):=by
 intro pins s σ H Q I h
 refine PySem.W.methodCall_KW (pl:=pl) (thn (he pins s σ H _ I h) fun u s1 ⟨x,H1,I1,rx,a,dx,fs,ex,ea,l,q⟩=>?_) ht
 subst ex
 obtain rfl:u=Value.ref a:=rx
 refine E8 I1 ea c hm l ?_
 exact PySem.W.callWith_K0 (first:=[.ref a]) I1.kIn hm.kp (DA (us:=[.ref a]) (vs:=[.ref a]) F hr hb hd hx I1 (.cons rfl .nil) q)
structure Mk (K:PySem.W.Frag) (C f:Addr):Prop where
 makes:PySem.W.makesIn K C=true
 init:PySem.W.findIn K (.ref C) "__init__" = some (some (.ref f))
 fn:PySem.W.isFn K (.ref f)=true
 kp:PySem.W.keepIn K (.ref C)=true
theorem Iq {pins:List (Addr × Obj)} {σ:St} {H:Hp} {s:Shared} {Q:VK} {us:List Value} {vs:List V} (M:Mk X.K C f) (F:FnOk X.prog X.w X.K X.mg X.base CX k f fd ps sp) (hr:Room (k+1) X.A) (hb:Binds X.K fd ps ds) (hd:Vals dvs ds)
 (hx:BN CX X E) (I:Inv X pins σ H s) (r:Vals vs us)
 (h:∀ x dx,H x=none->H dx=none->dx≠x->sp (.ref x::(vs++dvs)) (upd (upd H dx (.own x)) x (.ins C dx [])) (fun v H2=>v=.non/\Q (.ref x) H2) E) :
 wpAny (model X.prog X.w) X.A (call (.ref C) us) (EP X pins σ Q) X.xe s:=by
 have hq:=h (s.heap.objs.size+1) s.heap.objs.size (I.hok.fresh (Nat.le_succ _)) (I.hok.fresh (Nat.le_refl _)) (Nat.ne_of_lt (Nat.lt_succ_self _))
 have I2:=Inv.made (C:=C) I
 have r2:Vals (V.ref (s.heap.objs.size+1)::(vs++dvs)) (Value.ref (s.heap.objs.size+1)::(us++ds)):=.cons rfl (r.append hd)
 have hl:(Value.ref (s.heap.objs.size+1)::us++ds).length=ps.length:=by
  have e:=r2.length
  rw [F.len _ _ _ _ hq] at e
  exact e.symm
 refine wpAny_call (KF (f:=f) I.kIn M.makes M.init (beq_iff_eq.mp M.fn) (codeAny_mono (F.run _ X.stack _ _ ⟨Value.ref (s.heap.objs.size+1)::us,[]⟩ (Value.ref (s.heap.objs.size+1)::(us++ds)) _ _ E (hr.make C us [])
  (I2.env0.make C us []) (hb _ (Value.ref (s.heap.objs.size+1)::us) I2.kIn hl) r2 hq) fun r s' hq'=>?_))
 cases r with
 | error e=>exact hx pins σ _ _ e s' I2 hq'
 | ok fl =>
  cases fl with
  | ret u =>
   obtain ⟨v,H',I3,rv,ev,q3⟩:=I2.after hq'
   subst ev
   exact ⟨rv,⟨V.ref (s.heap.objs.size+1),H',I3,rfl,q3⟩⟩
  | next=>exact False.elim hq'
  | brk=>exact False.elim hq'
  | cont=>exact False.elim hq'
theorem Ib (M:Mk X.K C f) (F:FnOk X.prog X.w X.K X.mg X.base CX k f fd ps sp) (hr:Room (k+1) X.A) (hg:Gl X x) (hm:X.mg x=some (.ref C)) (hb:Binds X.K fd ps ds) (hd:Vals dvs ds) (hx:BN CX X E)
 (ha:PA X (e::es) t) (hdb:(x == ("__debug__" : Str))=false:=by decide) (he:starEach (e::es) X.env=(false,eval e X.env)::starEach es X.env:=by rfl) (hpl:(backTo pos (starEach es X.env)).any (·.1)=false:=by rfl) :
 PE X (.Call (.Name x p) (e::es) [] pos) (KB C sp dvs E t):=by
 intro pins s σ H Q I h
 refine wpAny_Call_Name_kw (Di I hg hm ?_ hdb)
 refine PySem.W.callWith_K (h₀:=X.base) I.ok.mod.kin M.kp (thn (ha pos pins s σ H _ I h) fun us s1 ⟨vs,H1,I1,r,q⟩=>⟨I1.kIn,?_⟩) he hpl
 exact Iq M F hr hb hd hx I1 r q
end
section
variable {X:Cx} {CX:CXT} {k:Nat} {f C:Addr} {fd:FuncData} {ps ks:List Str} {sp:Sp} {E:XK} {x m:Str} {p pos apos kpos:Pos} {e o:Expr} {es:List Expr} {kws:List Keyword} {te ta:TE} {t tk:TA} {nm:Option Str}
structure KBinds (K:PySem.W.Frag) (fd:FuncData) (ps ks:List Str) (g:List Value->List Value->List Value) (gV:List V->List V->List V):Prop where
 to:∀ (s:Shared) (us ws:List Value),K.In s.heap->(g us ws).length=ps.length->BindsTo s fd ⟨us,ks.zip ws⟩ (ps.zip (g us ws))
 rel:∀ {vs:List V} {us:List Value} {zs:List V} {ws:List Value},Vals vs us->Vals zs ws->Vals (gV vs zs) (g us ws)
variable {g:List Value->List Value->List Value} {gV:List V->List V->List V}
end
structure FnScope (N P:List Str) (sc:Scope):Prop where
 kind:sc.kind=.function
 co:sc.isCoroutine=false
 gen:sc.isGenerator=false
 nd:N.Nodup
 pre:N.take P.length=P
 par:∀ x∈P,sc.names.lookup x=some .local\/sc.names.lookup x=some .cell
 nofree:∀ y∈sc.names,y.2≠.free
theorem ER {kindOf:Str->Option NameKind} {x:Str}:∀ {binds:List (Str × Value)} {m:Str->Option Value},(∀ v,(x,v)∉binds)->bindL kindOf binds m x=m x
 | [],_,_=>rfl
 | (n,v)::r,m,h=>by
  unfold bindL
  rw [ER fun w hw=>h w (List.mem_cons_of_mem _ hw)]
  split
  ·have:x≠n:=by rintro rfl;exact h v List.mem_cons_self
   simp [this]
  ·rfl
theorem D0 {kindOf:Str->Option NameKind} {x:Str}:∀ {binds:List (Str × Value)} {m:Str->Option Value},(∀ v,(x,v)∉binds)->bindC kindOf binds m x=m x
 | [],_,_=>rfl
 | (n,v)::r,m,h=>by
  unfold bindC
  rw [D0 fun w hw=>h w (List.mem_cons_of_mem _ hw)]
  split
  ·rfl
  ·have:x≠n:=by rintro rfl;exact h v List.mem_cons_self
   simp [this]
theorem Fc {kindOf:Str->Option NameKind} {x:Str} {v:Value}:∀ {P:List Str} {vs:List Value} {i:Nat} {m:Str->Option Value},P.Nodup->P[i]? = some x->vs[i]? = some v->kindOf x=some .local ->
 bindL kindOf (P.zip vs) m x=some v
 | [],_,_,_,_,h,_,_=>by simp at h
 | _::_,[],_,_,_,_,h,_=>by simp at h
 | p::P,w::vs,0,m,nd,h1,h2,hk=>by
  simp at h1 h2;subst h1;subst h2
  show bindL kindOf ((p,w)::P.zip vs) m p=_
  unfold bindL
  rw [ER fun v hv=>(List.nodup_cons.mp nd).1 (List.of_mem_zip hv).1,if_pos hk]
  simp
 | p::P,w::vs,i+1,m,nd,h1,h2,hk=>by
  show bindL kindOf ((p,w)::P.zip vs) m x=_
  unfold bindL
  exact Fc (i:=i) (List.nodup_cons.mp nd).2 (by simpa using h1) (by simpa using h2) hk
theorem Fd {kindOf:Str->Option NameKind} {x:Str} {v:Value}:∀ {P:List Str} {vs:List Value} {i:Nat} {m:Str->Option Value},P.Nodup->P[i]? = some x->vs[i]? = some v->kindOf x≠some .local ->
 bindC kindOf (P.zip vs) m x=some v
 | [],_,_,_,_,h,_,_=>by simp at h
 | _::_,[],_,_,_,_,h,_=>by simp at h
 | p::P,w::vs,0,m,nd,h1,h2,hk=>by
  simp at h1 h2;subst h1;subst h2
  show bindC kindOf ((p,w)::P.zip vs) m p=_
  unfold bindC
  rw [D0 fun v hv=>(List.nodup_cons.mp nd).1 (List.of_mem_zip hv).1,if_neg hk]
  simp
 | p::P,w::vs,i+1,m,nd,h1,h2,hk=>by
  show bindC kindOf ((p,w)::P.zip vs) m x=_
  unfold bindC
  exact Fd (i:=i) (List.nodup_cons.mp nd).2 (by simpa using h1) (by simpa using h2) hk
def BH (N:List Str) (vs:List V):St:=vs.map some++List.replicate (N.length - vs.length) none
def Bk (CX:CXT) (P:Program) (w:World) (K:PySem.W.Frag) (mg:Str->Option Value) (base:Heap) (N:List Str) (qual:Str) (scope:Scope) (f:Addr) (cd:Value) (A:Around) (outer:List Env) (s:Shared) (H:Hp) (E:XK):Cx where
 prog:=P
 w:=w
 K:=K
 mg:=mg
 base:=base
 A:=A.deeper (envOfC qual scope s.heap.objs.size f cd)
 N:=N
 s₀:=s
 H₀:=H
 env:=envOfC qual scope s.heap.objs.size f cd
 outer:=outer
 stack:=envOfC qual scope s.heap.objs.size f cd::outer
 ex:=[]
 calm:=true
 fn:=fun _=>true
 pn:=[]
 xe:=fun e s'=>wpAny (model P w) (A.deeper (envOfC qual scope s.heap.objs.size f cd)) (leaving (envOfC qual scope s.heap.objs.size f cd) e) (fun _ s''=>CX outer H s E e s'') (fun e' s''=>CX outer H s E e' s'') s'
theorem FT {sc:Scope} {n:Nat} {x:Str} (h:sc.names.lookup x=some .cell):∃ c,(cellsFrom n sc.names []).lookup x=some c:=by
 have q:=PySem.W.cellsFrom_some sc.names n [] (.inl h)
 exact Option.isSome_iff_exists.mp q
theorem IZ {CX:CXT} {P:Program} {w:World} {K:PySem.W.Frag} {mg:Str->Option Value} {base:Heap} {N ps:List Str} {qual:Str} {scope:Scope} {f:Addr} {cd:Value} {A:Around} {outer:List Env} {s s1:Shared} {H:Hp} {E:XK} {us:List Value} {vs:List V}
 (S:FnScope N ps scope) (hd:A.handled=none) (e0:Env0 P w K mg base A outer s H) (hl:vs.length=ps.length) (r:Vals vs us)
 (x:InCallC s s.heap.objs.size (bindL (envOfC qual scope s.heap.objs.size f cd).kindOf (ps.zip us) fun _=>none) (cellsFrom (s.heap.objs.size+1) scope.names []) (bindC (envOfC qual scope s.heap.objs.size f cd).kindOf (ps.zip us) fun _=>none) s1) :
 Inv (Bk CX P w K mg base N qual scope f cd A outer s H E) [] (BH N vs) H s1:=by
 have hpl:ps.length<=N.length:=by have:=congrArg List.length S.pre;rw [List.length_take] at this;omega
 obtain ⟨h1,tk,rfl,hk⟩:=x.done
 have noA:∀ b:Addr,b∉(Bk CX P w K mg base N qual scope f cd A outer s H E).ex:=fun b z=>absurd (show b∈([]:List Addr) from z) (by simp)
 refine ⟨⟨e0.mod,S.kind,rfl,rfl,Nat.le_refl _,fun y z c h1 h2=>?_,fun y hy=>?_,fun y c _ h=>?_,fun _=>hd,Around.frames_deeper e0.frames,.inr ⟨rfl,rfl⟩,fun b z=>absurd z (noA b),e0.bs,e0.bsz,fun b _ _=>noA b,fun b z=>absurd z (noA b),e0.funs,e0.frf⟩,
  rfl,e0.bare,Un.kept hk,⟨_,x.toInCall.ns,fun i y v h1 h2 h3=>?_⟩,fun y c h=>⟨_,x.cell y c h⟩,e0.hok.fresh (Nat.le_refl _),fun y c h=>?_,fun p hp=>absurd (show p∈([]:List (Addr × Obj)) from hp) (by simp),e0.hok.kept hk,?_⟩
 ·exact name_of_addr x.apart (PySem.mem_of_lookup h1) (PySem.mem_of_lookup h2)
 ·have hy:scope.names.lookup y=some .cell\/scope.names.lookup y=some .free:=hy
  rcases hy with hy | hy
  ·exact FT hy
  ·exact absurd rfl (S.nofree _ (PySem.mem_of_lookup hy))
 ·exact Nat.le_of_lt (x.above y c (PySem.mem_of_lookup h))
 ·have hi:i < vs.length:=by
   unfold BH at h2
   by_cases hi:i < vs.length
   ·exact hi
   ·rw [List.getElem?_append_right (by simpa using hi)] at h2
    rw [List.getElem?_replicate] at h2
    split at h2 <;> cases h2
  have ha:vs[i]? = some v:=by
   unfold BH at h2
   rw [List.getElem?_append_left (by simpa using hi),List.getElem?_map] at h2
   cases e:vs[i]? with
   | none=>rw [e] at h2;cases h2
   | some a=>rw [e] at h2;cases h2;rfl
  obtain ⟨u,hu,rv⟩:=r.get ha
  have hp:ps[i]? = some y:=by
   rw [<- S.pre,List.getElem?_take_of_lt (by omega)];exact h1
  have ndP:ps.Nodup:=by rw [<- S.pre];exact S.nd.sublist (List.take_sublist _ _)
  refine ⟨u,rv,?_⟩
  rcases S.par y (List.mem_of_getElem? hp) with k | k
  ·exact .inl ⟨k,Fc ndP hp hu k⟩
  ·obtain ⟨c,e⟩:=FT (n:=s.heap.objs.size+1) k
   refine .inr ⟨.inl k,c,e,?_⟩
   have q:=x.cell y c e
   rw [Fd ndP hp hu (by show scope.names.lookup y≠_;rw [k];decide)] at q
   exact q
 ·exact e0.hok.fresh (Nat.le_of_lt (x.above y c (PySem.mem_of_lookup h)))
 ·unfold BH
  show _=N.length
  rw [List.length_append,List.length_map,List.length_replicate]
  omega
theorem HJ {CX:CXT} {P:Program} {w:World} {K:PySem.W.Frag} {mg:Str->Option Value} {base:Heap} {k:Nat} {f:Addr} {name qual:Str} {params:Arguments} {body:List Stmt} {scope:Scope} {dV kV doc pm cdv ct oc:Value} {an od:Option Addr}
 {osl:Array (Option Value)} {N ps:List Str} {sp:Sp} (lk:K.lookup f=some ⟨oc,od,.func (PySem.W.fnOf name qual params body scope dV kV doc pm an cdv ct),osl⟩) (hcd:PySem.W.codeIn K cdv qual=true) (S:FnScope N ps scope)
 (len:∀ vs H Q E,sp vs H Q E->vs.length=ps.length)
 (hbody:∀ (A:Around) (outer:List Env) (s:Shared) (H:Hp) (vs:List V) (Q:VK) (E:XK),Room k (A.deeper (envOfC qual scope s.heap.objs.size f cdv))->sp vs H Q E ->
   ∃ t,PSs (Bk CX P w K mg base N qual scope f cdv A outer s H E) body t/\t { nx:=fun _ H'=>Q .non H',rt:=Q } (BH N vs) H) :
 FnOk P w K mg base CX (k+1) f (PySem.W.fnOf name qual params body scope dV kV doc pm an cdv ct) ps sp:=by
 refine ⟨len,fun A outer s H args us vs Q E hr e0 hb r hsp=>?_⟩
 have hl:=len _ _ _ _ hsp
 have KX:K.In s.heap:=e0.mod.kin.keeps fun b o e=>(e0.bs b o e).1
 have lim:s.heap.NoLimit:=e0.mod.nolimit.keeps fun b o e=>(e0.bs b o e).1
 have hkind:∀ y∈ps.zip us,scope.names.lookup y.1=some .local\/(scope.names.lookup y.1=some .cell/\((cellsFrom (s.heap.objs.size+1) scope.names []).lookup y.1).isSome=true):=fun ⟨n,v⟩ hy=>by
  rcases S.par n (List.of_mem_zip hy).1 with q | q
  ·exact .inl q
  ·exact .inr ⟨q,PySem.W.cellsFrom_some _ _ _ (.inl q)⟩
 refine codeAny_call_function hr.depth (KX _ _ lk) rfl S.co S.gen rfl (PySem.W.codeRec_of KX hcd) (hb _ _ _ _ ?_)
 refine wpAny_newFunctionEnv_cells S.kind hkind fun env he s1 x=>?_
 subst he
 refine ⟨lim.keeps x.toInCall.keep,codeAny_func ?_⟩
 obtain ⟨t,ht,hq⟩:=hbody A outer s H vs Q E (hr.deeper _) hsp
 have I:Inv (Bk CX P w K mg base N qual scope f cdv A outer s H E) [] (BH N vs) H s1:=IZ S hr.hd e0 hl r x
 refine wpAny_mono (ht [] s1 (BH N vs) H _ I hq) (fun fl s' hs=>?_) fun e s' hs=>hs
 have fin:∀ {σ':St} {H':Hp} {v:V} {u:Value},Inv (Bk CX P w K mg base N qual scope f cdv A outer s H E) [] σ' H' s'->RelV v u->Q v H'->CE outer P w H s Q u s' :=
  fun {σ' H' v u} J rv q=>⟨v,H',J.os,J.bare,J.base,J.hok,rv,q⟩
 cases fl with
 | ret u =>
  obtain ⟨v,σ',H',J,rv,q⟩:=hs
  exact fin J rv q
 | next =>
  obtain ⟨σ',H',J,q⟩:=hs
  exact fin (v:=V.non) (u:=Value.none) J rfl q
 | brk =>
  obtain ⟨_,_,_,q⟩:=hs
  exact False.elim q
 | cont =>
  obtain ⟨_,_,_,q⟩:=hs
  exact False.elim q
section
variable {X:Cx} {x:Str} {p pos:Pos} {e:Expr} {es:List Expr} {t:TA} {id T:String} {r:List V->Hp->VK->Prop}
def tCB (r:List V->Hp->VK->Prop) (t:TA):TE:=fun σ H Q=>t σ H fun vs H1=>r vs H1 Q
theorem BC (hc:CallR X (.builtin id) r) (hg:Gl X x) (hm:X.mg x=none) (hv:bootBuiltins x=some (.builtin id)) (ha:PA X (e::es) t) (hn:x ≠ "__name__":=by decide) (hdb:(x == ("__debug__" : Str))=false:=by decide)
 (he:starEach (e::es) X.env=(false,eval e X.env)::starEach es X.env:=by rfl) (hpl:(backTo pos (starEach es X.env)).any (·.1)=false:=by rfl):PE X (.Call (.Name x p) (e::es) [] pos) (tCB r t):=by
 intro pins s σ H Q I h
 refine wpAny_Call_Name_kw (CW I hg hm hv ?_ hn hdb)
 exact PyProof.Rows.callWith_builtin1 (thn (ha pos pins s σ H _ I h) fun us s1 ⟨vs,H1,I1,r1,q1⟩=>hc pins s1 σ H1 vs us Q I1 r1 q1) he hpl
theorem CP (hc:CallR X (.type T) r) (hg:Gl X x) (hm:X.mg x=none) (hv:bootBuiltins x=some (.type T)) (ha:PA X (e::es) t) (hn:x ≠ "__name__":=by decide) (hdb:(x == ("__debug__" : Str))=false:=by decide)
 (he:starEach (e::es) X.env=(false,eval e X.env)::starEach es X.env:=by rfl) (hpl:(backTo pos (starEach es X.env)).any (·.1)=false:=by rfl):PE X (.Call (.Name x p) (e::es) [] pos) (tCB r t):=by
 intro pins s σ H Q I h
 refine wpAny_Call_Name_kw (CW I hg hm hv ?_ hn hdb)
 exact PyProof.Rows.callWith_type1 (thn (ha pos pins s σ H _ I h) fun us s1 ⟨vs,H1,I1,r1,q1⟩=>hc pins s1 σ H1 vs us Q I1 r1 q1) he hpl
end
end L2
namespace HT
open PySem PyProof.Rows
section
open PySem.SeqAt
open PySem.AutoSeq1 (wpAny_loadPart')
open PySem.MeetsSeq PySem.MeetsSeq2 PySem.MeetsSeq3
end
section
variable {prog:Program} {w:World} {A:Around} {E:Value->Shared->Prop} {s:Shared}
theorem cat_tup {t b:Addr} {vs ws:List Value} {Q:Value->Shared->Prop} (ht:IsTup s.heap t vs.toArray) (hb:IsTup s.heap b ws.toArray) (hv:vs≠[])
 (h1:ws=[]->Q (.ref t) s) (h2:ws≠[]->Q (.ref s.heap.objs.size) { s with heap:=s.heap.push { cls:=.type "tuple",data:=.seq (vs++ws).toArray } })
 (hsz:vs.length+ws.length<=sizeLine):wpAny (model prog w) A (binaryOp .Add (.ref t) (.ref b)) Q E s:=by
 obtain ⟨⟨cls,dd,data,sl⟩,ho,hc,n,hd⟩:=id ht
 obtain ⟨⟨cls2,dd2,data2,sl2⟩,ho2,hc2,n2,hd2⟩:=id hb
 simp only at hc hd hc2 hd2
 subst hc hd hc2 hd2
 have e:vs.toArray++ws.toArray=(vs++ws).toArray:=by simp
 by_cases hw:ws=[]
 ·exact concat_meets ⟨_,ho,rfl⟩ ⟨_,ho2,rfl⟩ noFill_tuple_add seq_tuple_add PySem.F.slot_tuple_add PySem.F.entry_tuple_add (PySem.F.args_tuple_add_2 _ _)
   (tuple_addW1 t b vs.toArray ws.toArray n n2 dd dd2 sl sl2 (by simpa using hv) (by simp [hw])) ⟨ho,ho2,h1 hw⟩
 ·refine concat_meets ⟨_,ho,rfl⟩ ⟨_,ho2,rfl⟩ noFill_tuple_add seq_tuple_add PySem.F.slot_tuple_add PySem.F.entry_tuple_add (PySem.F.args_tuple_add_2 _ _)
   (tuple_addW2 t b vs.toArray ws.toArray n n2 dd dd2 sl sl2 (by simpa using hv) (by simpa using hw) (by rw [List.size_toArray,List.size_toArray];exact hsz)) ⟨ho,ho2,?_⟩
  rw [e]
  exact h2 hw
def sIx (n d:Nat):Option Int->Nat
 | none=>d
 | some v=>if v < 0 then (v+(n:Int)).toNat else min v.toNat n
theorem sIx_none (n d:Nat):sIx n d none=d:=rfl
theorem sIx_nat (n d k:Nat):sIx n d (some (k:Int))=min k n:=by
 show (if (k:Int) < 0 then ((k:Int)+(n:Int)).toNat else min (k:Int).toNat n)=min k n
 rw [if_neg (by omega),Int.toNat_natCast]
theorem Gq (n d:Nat) (hd:d<=n) (o:Option Int):sIx n d o<=n:=by
 cases o with
 | none=>exact hd
 | some v =>
  show (if v < 0 then (v+(n:Int)).toNat else min v.toNat n)<=n
  by_cases hv:v < 0
  ·rw [if_pos hv];omega
  ·rw [if_neg hv];exact Nat.min_le_right _ _
theorem Dx (v:Int) (n d:Nat):(if v < 0 then max (v+(n:Int)) 0 else min v (n:Int))=((sIx n d (some v):Nat):Int):=by
 show (if v < 0 then max (v+(n:Int)) 0 else min v (n:Int))=(((if v < 0 then (v+(n:Int)).toNat else min v.toNat n):Nat):Int)
 by_cases hv:v < 0
 ·simp only [if_pos hv];omega
 ·simp only [if_neg hv];omega
theorem G2 (lo hi:Option Int) (n:Nat):Builtin.Slice.sliceAdjust lo hi 1 (n:Int)=(((sIx n 0 lo:Nat):Int),((sIx n n hi:Nat):Int)):=by
 have h1:¬ ((1:Int) < 0):=by omega
 unfold Builtin.Slice.sliceAdjust
 simp only [h1,if_false]
 refine Prod.ext ?_ ?_
 ·cases lo with
  | none=>rfl
  | some v=>exact Dx v n 0
 ·cases hi with
  | none=>rfl
  | some v=>exact Dx v n n
theorem GX (i j:Nat):Builtin.Slice.slicePlaces (i:Int) (j:Int) 1=j - i:=by
 unfold Builtin.Slice.slicePlaces
 have h1:(1:Int) > 0:=by omega
 simp only [h1,if_true,Int.ediv_one]
 split <;> omega
theorem Fk {v:Value} {o:Option Int} {Q:Option Int->Shared->Prop} (p:IsPart v o) (h:Q o s):wpAny (model prog w) A (Builtin.Slice.slicePartIndex v) Q E s:=by
 cases p with
 | none=>exact slicePart_none h
 | int i t=>exact slicePart_int h
theorem Fa {sl:Addr} {vl vu:Value} {lo hi:Option Int} {n:Nat} {Q:Int × Int × Nat->Shared->Prop} (hs:s.heap.IsSliceOf sl vl vu .none) (pl:IsPart vl lo) (pu:IsPart vu hi)
 (h:Q (((sIx n 0 lo:Nat):Int),1,sIx n n hi - sIx n 0 lo) s):wpAny (model prog w) A (Builtin.Slice.sliceApplied (.ref sl) (pure (n:Int))) Q E s:=by
 obtain ⟨os,hos,hcs,hds⟩:=id hs
 unfold Builtin.Slice.sliceApplied Builtin.Slice.sliceFields
 refine wpAny_bind (wpAny_bind (wpAny_field hos hds (x:=vl) rfl (wpAny_bind (wpAny_field hos hds (x:=vu) rfl (wpAny_bind (wpAny_field hos hds (x:=.none) rfl (wpAny_pure ?_)))))))
 refine wpAny_bind (slicePart_none ?_)
 show wpAny _ _ (if ((1:Int) == 0)=true then _ else _) _ _ s
 rw [if_neg (by decide)]
 refine wpAny_bind (Fk pl (wpAny_bind (Fk pu (wpAny_bind (wpAny_pure ?_)))))
 show wpAny _ _ (match Builtin.Slice.sliceAdjust lo hi 1 (n:Int) with | (lo,hi)=>pure (lo,(1:Int),Builtin.Slice.slicePlaces lo hi 1)) _ _ s
 rw [G2 lo hi n]
 show wpAny _ _ (pure (((sIx n 0 lo:Nat):Int),(1:Int),Builtin.Slice.slicePlaces ((sIx n 0 lo:Nat):Int) ((sIx n n hi:Nat):Int) 1)) _ _ s
 rw [GX]
 exact wpAny_pure h
theorem Jm (xs:Array Value) (i k:Nat):((List.range k).filterMap fun (m:Nat)=>xs[((i:Int)+(m:Int) * 1).toNat]?).toArray=((xs.toList.drop i).take k).toArray:=by
 have e:(fun (m:Nat)=>xs[((i:Int)+(m:Int) * 1).toNat]?)=fun m=>xs[i+m]?:=by
  funext m
  have:((i:Int)+(m:Int) * 1).toNat=i+m:=by omega
  rw [this]
 rw [e]
 have:=pick_run xs i k
 rw [List.filterMap_map] at this
 have e2:((fun x=>xs[x]?) ∘ fun x=>i+x)=fun m=>xs[i+m]?:=rfl
 rw [e2] at this
 rw [this]
theorem getItem_tuple_cut {t sl:Addr} {items:Array Value} {vl vu:Value} {lo hi:Option Int} {Q:Value->Shared->Prop} (ht:IsTup s.heap t items) (hs:s.heap.IsSliceOf sl vl vu .none) (pl:IsPart vl lo) (pu:IsPart vu hi)
 (hw:¬ (sIx items.size 0 lo=0/\sIx items.size items.size hi=items.size))
 (h:Q (.ref s.heap.objs.size) { s with heap:=s.heap.push { cls:=.type "tuple",data:=.seq ((items.toList.drop (sIx items.size 0 lo)).take (sIx items.size items.size hi - sIx items.size 0 lo)).toArray } })
 (hsz:items.size<=sizeLine):wpAny (model prog w) A (getItem (.ref t) (.ref sl)) Q E s:=by
 have htake:sizeOk (.seq ((items.toList.drop (sIx items.size 0 lo)).take (sIx items.size items.size hi - sIx items.size 0 lo)).toArray):=by
  show ((items.toList.drop (sIx items.size 0 lo)).take (sIx items.size items.size hi - sIx items.size 0 lo)).toArray.size<=sizeLine
  rw [List.size_toArray,List.length_take,List.length_drop,Array.length_toList]
  omega
 have hj:sIx items.size items.size hi<=items.size:=Gq _ _ (Nat.le_refl _) hi
 obtain ⟨os,hos,hcs,hds⟩:=id hs
 have hTs:s.TypeIs (.ref sl) "slice":=⟨os,hos,hcs⟩
 unfold getItem
 try with_reducible refine wpAny_holding ?_
 first | refine wpAny_bind (wpAny_pure ?_) | skip
 refine wpAny_bind (wpAny_sequenceKey ht.typeIs (by decide) ?_)
 refine wpAny_bind (wpAny_callSpecial?_slot (name:=Str.ofString "__getitem__") ht.typeIs PyProof.Rows.slot_tuple_getitem
  (wpAny_call_entry PyProof.Rows.slot_tuple_getitem ht.typeIs entry_tuple_getitem ?_ (args_tuple_getitem _ _)))
 show wpAny _ _ (Builtin.Tuple.tupleItemsOf (.ref t) >>= _) _ _ s
 refine wpAny_bind (tupleItemsOf_ ht ?_)
 refine wpAny_bind (wpAny_typeOf hTs ?_)
 rw [if_pos (by decide)]
 refine wpAny_bind (Fa hs pl pu ?_)
 have hno:¬ ((((sIx items.size 0 lo:Nat):Int) == 0 && (1:Int) == 1 && (sIx items.size items.size hi - sIx items.size 0 lo) == items.size)=true):=by
  intro q
  rw [Bool.and_eq_true,Bool.and_eq_true] at q
  have q1:((sIx items.size 0 lo:Nat):Int)=0:=eq_of_beq q.1.1
  have q2:sIx items.size items.size hi - sIx items.size 0 lo=items.size:=eq_of_beq q.2
  exact hw ⟨by omega,by omega⟩
 show wpAny _ _ (if (((sIx items.size 0 lo:Nat):Int) == 0 && (1:Int) == 1 && (sIx items.size items.size hi - sIx items.size 0 lo) == items.size)=true then _ else _) _ _ s
 rw [if_neg hno,Jm]
 first
  | exact wpAny_bind (m:=Builtin.Tuple.tupleExact _) (wpAny_newObj_type (wpAny_pure ⟨_,rfl,wpAny_pure h⟩) htake)
  | exact wpAny_bind (m:=Builtin.Tuple.tupleExact _) (wpAny_newObj_type (wpAny_bind (wpAny_pure (wpAny_pure ⟨_,rfl,wpAny_pure h⟩))) htake)
  | exact wpAny_bind (wpAny_bind (m:=Builtin.Tuple.tupleExact _) (wpAny_newObj_type (wpAny_pure (wpAny_pure ⟨_,rfl,wpAny_pure h⟩)) htake))
  | exact wpAny_bind (wpAny_bind (m:=Builtin.Tuple.tupleExact _) (wpAny_newObj_type (wpAny_pure ⟨_,rfl,wpAny_pure h⟩) htake))
end
end HT
namespace L2
open PySem PySem.Spec PyProof.Rows
abbrev TO:=St->Hp->(Option Int->Hp->Prop)->Prop
def PO (X:Cx) (e:Option Expr) (t:TO):Prop :=
 ∀ (pins:List (Addr × Obj)) (s:Shared) (σ:St) (H:Hp) (Q:Option Int->Hp->Prop),Inv X pins σ H s->t σ H Q ->
  wpAny (model X.prog X.w) X.A (evalPart e X.env) (fun u s'=>∃ o H',Inv X pins σ H' s'/\IsPart u o/\Q o H') X.xe s
def He:TO:=fun _ H Q=>Q none H
def Fs (t:TE):TO:=fun σ H Q=>t σ H fun x H1=>∃ i,x=.int i/\Q (some i) H1
section
variable {X:Cx} {e:Expr} {te:TE} {lo hi:Option Expr} {tl th:TO} {pos p2:Pos}
theorem E1:PO X none He:=by
 intro pins s σ H Q I h
 rw [evalPart_none]
 exact wpAny_pure ⟨none,H,I,.none,h⟩
theorem Fi (h:PE X e te):PO X (some e) (Fs te):=by
 intro pins s σ H Q I hw
 rw [evalPart_some]
 refine thn (h pins s σ H _ I hw) fun u s1 ⟨x,H1,I1,r1,q1⟩=>?_
 obtain ⟨i,rfl,q⟩:=q1
 obtain ⟨t,rfl⟩:=r1
 exact ⟨some i,H1,I1,.int i t,q⟩
def SlR (X:Cx) (r:V->Option Int->Option Int->Hp->VK->Prop):Prop :=
 ∀ (pins:List (Addr × Obj)) (s:Shared) (σ:St) (H:Hp) (x:V) (v vl vu:Value) (lo hi:Option Int) (sl:Addr) (Q:VK),Inv X pins σ H s->RelV x v->s.heap.IsSliceOf sl vl vu .none->IsPart vl lo->IsPart vu hi->r x lo hi H Q ->
  ∃ T id,typeLookup (.type T) "__getitem__" = pure (some (.builtin id))/\s.TypeIs v T/\wpAny (model X.prog X.w) X.A (getItem v (.ref sl)) (EP X pins σ Q) X.xe s
def tSl (r:V->Option Int->Option Int->Hp->VK->Prop) (te:TE) (tl th:TO):TE:=fun σ H Q=>te σ H fun x H1=>tl σ H1 fun l H2=>th σ H2 fun u H3=>r x l u H3 Q
theorem G5 {r:V->Option Int->Option Int->Hp->VK->Prop} (hr:SlR X r) (he:PE X e te) (hl:PO X lo tl) (hu:PO X hi th):PE X (.Subscript e (.Slice lo hi none p2) pos) (tSl r te tl th):=by
 intro pins s σ H Q I h
 refine Subscript_ (thn (he pins s σ H _ I h) fun v s1 ⟨x,H1,I1,r1,q1⟩=>?_)
 refine wpAny_Slice (thn (hl pins s1 σ H1 _ I1 q1) fun vl s2 ⟨l,H2,I2,pl,q2⟩=>thn (hu pins s2 σ H2 _ I2 q2) fun vu s3 ⟨u,H3,I3,pu,q3⟩=>?_)
 rw [evalPart_none]
 refine wpAny_pure ?_
 have I4:Inv X pins σ H3 { s3 with heap:=s3.heap.push { cls:=.type "slice",data:=.fields #[vl,vu,.none] } }:=I3.kept (t':=s3.toks) fun b ob q=>Heap.get?_push_of_some _ q
 obtain ⟨T,id,hT,ht,hg⟩:=hr pins { s3 with heap:=s3.heap.push { cls:=.type "slice",data:=.fields #[vl,vu,.none] } } σ H3 x v vl vu l u s3.heap.objs.size Q I4 r1 (Heap.IsSliceOf.new ..) pl pu q3
 show wpAny (model X.prog X.w) X.A (subscriptTail e (.Slice lo hi none p2) v (.ref s3.heap.objs.size)) (EP X pins σ Q) X.xe { s3 with heap:=s3.heap.push { cls:=.type "slice",data:=.fields #[vl,vu,.none] } }
 exact tail_any (ops:=[.ref s3.heap.objs.size,v]) ht hT hg (by with_unfolding_all rfl)
def BB (xs:List V) (lo hi:Option Int):List V:=(xs.drop (HT.sIx xs.length 0 lo)).take (HT.sIx xs.length xs.length hi - HT.sIx xs.length 0 lo)
theorem Jq (xs:List V) (lo hi:Option Int):(BB xs lo hi).length<=xs.length:=by
 unfold BB
 rw [List.length_take,List.length_drop]
 omega
def JV (K:PySem.W.Frag):V->Option Int->Option Int->Hp->VK->Prop:=fun x lo hi H Q=>∃ a xs,x=.ref a/\SqT K H a xs /\
 ¬ (HT.sIx xs.length 0 lo=0/\HT.sIx xs.length xs.length hi=xs.length)/\∀ p,H p=none->Q (.ref p) (upd H p (.tup (BB xs lo hi)))
theorem Io:SlR X (JV X.K):=by
 intro pins s σ H x v vl vu lo hi sl Q I rx hs pl pu h
 obtain ⟨a,xs,rfl,hx,hw,q⟩:=h
 cases rx
 obtain ⟨its,r,ht,hz⟩:=I.tuple hx
 have hlen:its.toArray.size=xs.length:=by rw [List.size_toArray];exact r.length.symm
 refine ⟨"tuple",_,PyProof.Rows.slot_tuple_getitem.lookup,ht.typeIs,?_⟩
 refine HT.getItem_tuple_cut ht hs pl pu (by rw [hlen];exact hw) ?_ (by rw [hlen];exact hz)
 rw [hlen]
 refine ⟨.ref s.heap.objs.size,_,I.laid (t':=s.toks) (o:=.tup (BB xs lo hi)) (fun b ob q=>Heap.get?_push_of_some _ q) (Nat.le_refl _) ?_,rfl,q _ (I.hok.fresh (Nat.le_refl _))⟩
 exact ⟨Nat.le_trans (Jq xs lo hi) hz,_,(r.drop (HT.sIx xs.length 0 lo)).take (HT.sIx xs.length xs.length hi - HT.sIx xs.length 0 lo),IsTupN.new _ _⟩
def EQ (K:PySem.W.Frag):R2:=fun x y H Q=>∃ a b xs ys,x=.ref a/\y=.ref b/\SqT K H a xs/\SqT K H b ys/\xs≠[]/\xs.length+ys.length<=sizeLine /\
 (ys=[]->Q (.ref a) H)/\(ys≠[]->∀ p,H p=none->Q (.ref p) (upd H p (.tup (xs++ys))))
theorem Vals.nil_iff {xs:List V} {us:List Value} (r:Vals xs us):us=[] ↔ xs=[]:=by
 cases r with
 | nil=>simp
 | cons _ _=>simp
theorem IN:OpR X (binaryOp .Add) (EQ X.K):=by
 intro pins s σ H x y v u Q I rx ry h
 obtain ⟨a,b,xs,ys,rfl,rfl,ha,hb,hx,hz,q1,q2⟩:=h
 cases rx
 cases ry
 obtain ⟨its,r1,p1,_⟩:=I.tuple ha
 obtain ⟨its2,r2,p2,_⟩:=I.tuple hb
 refine HT.cat_tup p1 p2 (fun z=>hx (r1.nil_iff.mp z)) (fun z=>⟨.ref a,H,I,rfl,q1 (r2.nil_iff.mp z)⟩) (fun z=>?_) (by rw [<- r1.length,<- r2.length];exact hz)
 refine ⟨.ref s.heap.objs.size,_,I.laid (t':=s.toks) (o:=.tup (xs++ys)) (fun b ob q=>Heap.get?_push_of_some _ q) (Nat.le_refl _) ?_,rfl,q2 (fun w=>z (r2.nil_iff.mpr w)) _ (I.hok.fresh (Nat.le_refl _))⟩
 exact ⟨by rw [List.length_append];exact hz,_,r1.append r2,IsTupN.new _ _⟩
end
def ixN (n:Nat) (i:Int):Option Nat:=if 0<=i then (if i < n then some i.toNat else none) else if -(n:Int)<=i then some (i+n).toNat else none
def atI {α:Type} (xs:List α) (i:Int):Option α:=(ixN xs.length i).bind fun j=>xs[j]?
theorem Em {n:Nat} {i:Int} {j:Nat} (h:ixN n i=some j):seqIndex? i n=some j/\j < n /\ -(n:Int)<=i/\i < n:=by
 unfold ixN at h
 by_cases h0:0<=i
 ·rw [if_pos h0] at h
  by_cases h1:i < n
  ·rw [if_pos h1] at h
   have e:i.toNat=j:=Option.some.inj h
   exact ⟨by rw [seqIndex_of h0 h1,e],by omega,by omega,h1⟩
  ·rw [if_neg h1] at h;cases h
 ·rw [if_neg h0] at h
  by_cases h1 : -(n:Int)<=i
  ·rw [if_pos h1] at h
   have e:(i+n).toNat=j:=Option.some.inj h
   exact ⟨by rw [seqIndex_neg (by omega) h1,e],by omega,h1,by omega⟩
  ·rw [if_neg h1] at h;cases h
theorem Ds {α:Type} {xs:List α} {i:Int} {v:α} (h:atI xs i=some v):∃ j,seqIndex? i xs.length=some j/\xs[j]? = some v/\j < xs.length /\ -(xs.length:Int)<=i/\i < xs.length:=by
 unfold atI at h
 cases e:ixN xs.length i with
 | none=>rw [e] at h;cases h
 | some j =>
  rw [e] at h
  obtain ⟨h1,h2,h3,h4⟩:=Em e
  exact ⟨j,h1,h,h2,h3,h4⟩
def DL (b:Expr):Prop:=∀ o i,subscripted b false o i=operate [o,i] (getItem o i)
def IxR (X:Cx) (r:R2):Prop :=
 ∀ (value slice:Expr) (pins:List (Addr × Obj)) (s:Shared) (σ:St) (H:Hp) (x y:V) (v u:Value) (Q:VK),Inv X pins σ H s->RelV x v->RelV y u->r x y H Q ->
  subscripted slice false v u=operate [v,u] (getItem v u)->wpAny (model X.prog X.w) X.A (subscriptTail value slice v u) (EP X pins σ Q) X.xe s
def MtR (X:Cx) (id:String) (r:V->List V->Hp->VK->Prop):Prop :=
 ∀ (pins:List (Addr × Obj)) (s:Shared) (σ:St) (H:Hp) (x:V) (xs:List V) (v:Value) (us:List Value) (Q:VK),Inv X pins σ H s->RelV x v->Vals xs us->r x xs H Q ->
  wpAny (model X.prog X.w) X.A (call (.builtin id) (v::us)) (EP X pins σ Q) X.xe s
section
variable {X:Cx} {a b:Expr} {ta tb:TE} {pos:Pos}
theorem IxR.or {r r':R2} (h:IxR X r) (h':IxR X r'):IxR X (fun x y H Q=>r x y H Q\/r' x y H Q):=by
 intro value slice pins s σ H x y v u Q I rx ry q hs
 rcases q with q | q
 ·exact h value slice pins s σ H x y v u Q I rx ry q hs
 ·exact h' value slice pins s σ H x y v u Q I rx ry q hs
theorem Go {r:R2} (hr:IxR X r) (ha:PE X a ta) (hb:PE X b tb) (hs:DL b):PE X (.Subscript a b pos) (tOp r ta tb):=by
 intro pins s σ H Q I h
 exact Subscript_ (DT ha hb I h fun v u s2 x y H2 I2 rx ry q=>hr a b pins s2 σ H2 x y v u Q I2 rx ry q (hs _ _))
def Ej (K:PySem.W.Frag):R2:=fun x y H Q=>∃ p xs i v,x=.ref p/\y=.int i/\SqL K H p xs/\atI xs i=some v/\Q v H
def D3 (K:PySem.W.Frag):R2:=fun x y H Q=>∃ p xs i v,x=.ref p/\y=.int i/\SqT K H p xs/\atI xs i=some v/\Q v H
def FV:R2:=fun x y H Q=>∃ z i c,x=.str z/\y=.int i/\z.length<=sizeLine/\atI z.cps.toList i=some c/\Q (.str ⟨#[c]⟩) H
theorem ix_list:IxR X (Ej X.K):=by
 intro value slice pins s σ H x y v u Q I rx ry h hs
 obtain ⟨p,xs,i,z,rfl,rfl,hq,he,q⟩:=h
 cases rx
 obtain ⟨t,rfl⟩:=ry
 obtain ⟨its,r,pl,hz⟩:=I.list hq
 obtain ⟨j,h1,h2,h3,h4,h5⟩:=Ds he
 obtain ⟨w,ew,rw'⟩:=r.get h2
 have hl:=r.length
 have hn:=Bb
 have fin:EP X pins σ Q w s:=⟨z,H,I,rw',q⟩
 by_cases h0:0<=i
 ·have hj:i.toNat=j:=by
   rw [seqIndex_of h0 h5] at h1
   exact Option.some.inj h1
  exact item_listR pl.isList h0 (by omega) (by rw [hj];simpa using ew) fin hs
 ·have hj:(i+(its.toArray.size:Int)).toNat=j:=by
   rw [seqIndex_neg (by omega) h4] at h1
   rw [List.size_toArray,<- hl]
   exact Option.some.inj h1
  exact subscriptTail_builtinR (x:=w) pl.isList.typeIs slot_list_getitem.lookup
   (wpAny_getItem_list_neg (Q:=fun r s'=>r=w/\EP X pins σ Q r s') pl.isList (by omega) (by rw [List.size_toArray] <;> omega) (by omega) (by rw [hj];simpa using ew) ⟨rfl,fin⟩) hs
theorem ix_tup:IxR X (D3 X.K):=by
 intro value slice pins s σ H x y v u Q I rx ry h hs
 obtain ⟨p,xs,i,z,rfl,rfl,hq,he,q⟩:=h
 cases rx
 obtain ⟨t,rfl⟩:=ry
 obtain ⟨its,r,pl,hz⟩:=I.tuple hq
 obtain ⟨j,h1,h2,h3,h4,h5⟩:=Ds he
 obtain ⟨w,ew,rw'⟩:=r.get h2
 have hl:=r.length
 have hn:=Bb
 have fin:EP X pins σ Q w s:=⟨z,H,I,rw',q⟩
 exact subscriptTail_builtinR (x:=w) pl.typeIs slot_tuple_getitem.lookup
  (getItem_tuple (j:=j) (Q:=fun r s'=>r=w/\EP X pins σ Q r s') pl (by omega) (by omega) (by rw [List.size_toArray,<- hl];exact h1) (by simpa using ew) ⟨rfl,fin⟩) hs
theorem Jv:IxR X FV:=by
 intro value slice pins s σ H x y v u Q I rx ry h hs
 obtain ⟨z,i,c,rfl,rfl,hz,he,q⟩:=h
 obtain ⟨t,rfl⟩:=rx
 obtain ⟨t',rfl⟩:=ry
 obtain ⟨j,h1,h2,h3,h4,h5⟩:=Ds he
 have hl:z.cps.toList.length=z.length:=by simp [Str.length]
 rw [hl] at h1 h4 h5
 have hn:=Bb
 exact tail_any (typeIs_str s z t) slot_str_getitem.lookup (getItem_str (c:=c) (by
  have e1:decide (i < -(2 ^ 63:Int))=false:=decide_eq_false (by omega)
  have e2:decide (i ≥ 2 ^ 63)=false:=decide_eq_false (by omega)
  rw [e1,e2,Bool.or_false]) (by rw [h1];simpa using h2) ⟨.str ⟨#[c]⟩,H,I.tok _,⟨_,rfl⟩,q⟩) hs
def rIx (K:PySem.W.Frag):R2:=fun x y H Q=>Ej K x y H Q\/D3 K x y H Q\/FV x y H Q
theorem ix_seq:IxR X (rIx X.K):=ix_list.or (ix_tup.or Jv)
theorem JO (its:List Value) (n j:Nat) (u:Value):Obj.mapSeq (·.setIfInBounds j u) { cls:=.type "list",data:=.seq its.toArray n } = { cls:=.type "list",data:=.seq (its.set j u).toArray n }:=by
 simp [Obj.mapSeq]
theorem Inv.lst {pins:List (Addr × Obj)} {σ:St} {H:Hp} {s:Shared} {p:Addr} {xs:List V} (I:Inv X pins σ H s) (h:H p=some (.lst xs)) :
 ∃ (its:List Value) (n:Nat),Vals xs its/\s.heap.get? p=some { cls:=.type "list",data:=.seq its.toArray n } /\ xs.length<=sizeLine:=by
 obtain ⟨z,its,n,r,e⟩:=I.hok p _ h
 exact ⟨its,n,r,e,z⟩
theorem Inv.lstUpd {pins:List (Addr × Obj)} {σ:St} {H:Hp} {s:Shared} {p:Addr} {xs ys:List V} {its its':List Value} {n n':Nat} {f:Obj->Obj} (I:Inv X pins σ H s) (h:H p=some (.lst xs))
 (ho:s.heap.get? p=some { cls:=.type "list",data:=.seq its.toArray n }) (hf:f { cls:=.type "list",data:=.seq its.toArray n } = { cls:=.type "list",data:=.seq its'.toArray n' }) (r:Vals ys its') (hz:ys.length<=sizeLine) (t:Nat) :
 Inv X pins σ (upd H p (.lst ys)) { s with heap:=s.heap.update p f,toks:=t }:=by
 have e:(s.heap.update p f).get? p=some { cls:=.type "list",data:=.seq its'.toArray n' }:=by
  rw [Heap.get?_update_self f ho (by rw [hf] <;> rfl),hf]
 refine I.write (x:=p) (e:=p) (by rw [h];trivial) (.inl rfl) (fun b u hb q=>(Heap.get?_update_other _ _ (Ne.symm hb)).trans q) ⟨_,e⟩ ?_
 exact ⟨hz,its',n',r,e⟩
def IS:V->V->V->Hp->(Hp->Prop)->Prop:=fun o i v H Q=>∃ p xs k j,o=.ref p/\i=.int k/\H p=some (.lst xs)/\ixN xs.length k=some j/\Q (upd H p (.lst (xs.set j v)))
theorem GO:Cp X IS:=by
 intro pins s σ H o i v ov iv u Q I ro ri rv h
 obtain ⟨p,xs,k,j,rfl,rfl,hp,hj,q⟩:=h
 cases ro
 obtain ⟨t,rfl⟩:=ri
 obtain ⟨its,n,r,ho,hz⟩:=I.lst hp
 obtain ⟨h1,h2,h3,h4⟩:=Em hj
 have hl:=r.length
 have hn:=Bb
 have I':Inv X pins σ (upd H p (.lst (xs.set j v))) { s with heap:=s.heap.update p (Obj.mapSeq (·.setIfInBounds j u)) } :=
  I.lstUpd hp ho (JO its n j u) (r.set rv j) (by rw [List.length_set];exact hz) s.toks
 by_cases h0:0<=k
 ·have hk:k.toNat=j:=by
   rw [seqIndex_of h0 h4] at h1
   exact Option.some.inj h1
  exact PySem.W.ki_setAt ho h0 (by omega) (by rw [List.size_toArray,<- hl];exact h4) (by rw [hk];exact ⟨_,I',q⟩)
 ·have hk:(k+(its.toArray.size:Int)).toNat=j:=by
   rw [seqIndex_neg (by omega) h3] at h1
   rw [List.size_toArray,<- hl]
   exact Option.some.inj h1
  exact PySem.W.ki_setBack ho (by omega) (by rw [List.size_toArray,<- hl];exact h3) (by omega) (by rw [hk];exact ⟨_,I',q⟩)
def Am:V->Bool
 | .non=>true
 | .bl _=>true
 | .int _=>true
 | .str _=>true
 | _=>false
def eqV:V->V->Bool
 | .non,.non=>true
 | .bl a,.bl b=>a == b
 | .bl a,.int b=>(if a then 1 else 0) == b
 | .int a,.bl b=>a == (if b then 1 else 0)
 | .int a,.int b=>a == b
 | .str a,.str b=>a == b
 | _,_=>false
theorem IQ {A:Around} {s:Shared} {y x:V} {u v:Value} (ry:RelV y u) (rx:RelV x v) (fy:Am y=true) (fx:Am x=true):SeqAt.EqAt A s u v (eqV y x):=by
 cases y with
 | non =>
  cases ry
  cases x with
  | non=>cases rx;exact SeqAt.EqAt.same _
  | bl b=>cases rx;exact SeqAt.EqAt.none_bool b
  | int b=>obtain ⟨t,rfl⟩:=rx;exact SeqAt.EqAt.none_int b t
  | str b=>obtain ⟨t,rfl⟩:=rx;exact SeqAt.EqAt.none_str b t
  | _=>exact absurd (show false=true from fx) Bool.false_ne_true
 | bl a =>
  cases ry
  cases x with
  | non=>cases rx;exact SeqAt.EqAt.bool_none a
  | bl b=>cases rx;exact SeqAt.EqAt.bool_bool a b
  | int b=>obtain ⟨t,rfl⟩:=rx;exact SeqAt.EqAt.bool_int a b t
  | str b=>obtain ⟨t,rfl⟩:=rx;exact SeqAt.EqAt.bool_str a b t
  | _=>exact absurd (show false=true from fx) Bool.false_ne_true
 | int a =>
  obtain ⟨t',rfl⟩:=ry
  cases x with
  | non=>cases rx;exact SeqAt.EqAt.int_none a t'
  | bl b=>cases rx;exact SeqAt.EqAt.int_bool a t' b
  | int b=>obtain ⟨t,rfl⟩:=rx;exact SeqAt.EqAt.int_int a t' b t
  | str b=>obtain ⟨t,rfl⟩:=rx;exact SeqAt.EqAt.int_str a t' b t
  | _=>exact absurd (show false=true from fx) Bool.false_ne_true
 | str a =>
  obtain ⟨t',rfl⟩:=ry
  cases x with
  | non=>cases rx;exact SeqAt.EqAt.str_none a t'
  | bl b=>cases rx;exact SeqAt.EqAt.str_bool a t' b
  | int b=>obtain ⟨t,rfl⟩:=rx;exact SeqAt.EqAt.str_int a t' b t
  | str b=>obtain ⟨t,rfl⟩:=rx;exact SeqAt.EqAt.str_str a t' b t
  | _=>exact absurd (show false=true from fx) Bool.false_ne_true
 | _=>exact absurd (show false=true from fy) Bool.false_ne_true
def eqU (x:V) (u:Value):Bool:=match u with
 | .none=>eqV .non x
 | .bool b=>eqV (.bl b) x
 | .int i _=>eqV (.int i) x
 | .str z _=>eqV (.str z) x
 | _=>false
theorem Da {x y:V} {u:Value} (r:RelV y u) (f:Am y=true):eqU x u=eqV y x:=by
 cases y with
 | non=>cases r;rfl
 | bl b=>cases r;rfl
 | int i=>obtain ⟨t,rfl⟩:=r;rfl
 | str z=>obtain ⟨t,rfl⟩:=r;rfl
 | _=>exact absurd (show false=true from f) Bool.false_ne_true
theorem B3 {x:V}:∀ {xs:List V} {us:List Value},Vals xs us->xs.all Am=true->us.any (eqU x)=xs.any fun y=>eqV y x
 | _,_,.nil,_=>rfl
 | y::xs,u::us,.cons r t,f=>by
  rw [List.all_cons,Bool.and_eq_true] at f
  rw [List.any_cons,List.any_cons,Da r f.1,B3 t f.2]
theorem Bu {A:Around} {s:Shared} {x:V} {v:Value} (rx:RelV x v) (fx:Am x=true):∀ {xs:List V} {us:List Value},Vals xs us->xs.all Am=true->∀ u∈us,SeqAt.EqAt A s u v (eqU x u)
 | _,_,.nil,_=>fun u hu=>by cases hu
 | y::xs,u::us,.cons r t,f=>fun u' hu=>by
  rw [List.all_cons,Bool.and_eq_true] at f
  rcases List.mem_cons.mp hu with rfl | hu
  ·rw [Da r f.1];exact IQ r rx f.1 fx
  ·exact Bu rx fx t f.2 u' hu
def inV (x:V) (xs:List V):Bool:=xs.any fun y=>eqV y x
def rIn (K:PySem.W.Frag) (neg:Bool):R2:=fun x y H Q=>∃ p xs,y=.ref p/\(SqL K H p xs\/SqT K H p xs)/\Am x=true/\xs.all Am=true/\Q (.bl (if neg then !inV x xs else inV x xs)) H
theorem Fu:OpR X (compareOp .In) (rIn X.K false):=by
 intro pins s σ H x y v u Q I rx ry h
 obtain ⟨p,xs,rfl,hq,fx,fs,q⟩:=h
 cases ry
 rcases hq with hq | hq
 ·obtain ⟨its,r,pl,hz⟩:=I.list hq
  refine SeqAt.in_listAt (eqU x) pl.isList (fun w hw=>Bu rx fx r fs w (by simpa using hw)) ⟨.bl _,H,I,rfl,?_⟩
  rw [show its.toArray.any (eqU x)=its.any (eqU x) by simp,B3 r fs]
  exact q
 ·obtain ⟨its,r,pl,hz⟩:=I.tuple hq
  refine SeqAt.in_tupleAt (eqU x) pl (fun w hw=>Bu rx fx r fs w (by simpa using hw)) ⟨.bl _,H,I,rfl,?_⟩
  rw [show its.toArray.any (eqU x)=its.any (eqU x) by simp,B3 r fs]
  exact q
theorem JF:OpR X (compareOp .NotIn) (rIn X.K true):=by
 intro pins s σ H x y v u Q I rx ry h
 obtain ⟨p,xs,rfl,hq,fx,fs,q⟩:=h
 cases ry
 rcases hq with hq | hq
 ·obtain ⟨its,r,pl,hz⟩:=I.list hq
  refine SeqAt.notIn_listAt (eqU x) pl.isList (fun w hw=>Bu rx fx r fs w (by simpa using hw)) ⟨.bl _,H,I,rfl,?_⟩
  rw [show its.toArray.any (eqU x)=its.any (eqU x) by simp,B3 r fs]
  exact q
 ·obtain ⟨its,r,pl,hz⟩:=I.tuple hq
  refine SeqAt.notIn_tupleAt (eqU x) pl (fun w hw=>Bu rx fx r fs w (by simpa using hw)) ⟨.bl _,H,I,rfl,?_⟩
  rw [show its.toArray.any (eqU x)=its.any (eqU x) by simp,B3 r fs]
  exact q
theorem call_tuple_of:CallR X (.type "tuple") (fun xs H Q=>∃ p ys,xs=[.ref p]/\((SqL X.K H p ys/\∀ l,H l=none->Q (.ref l) (upd H l (.tup ys)))\/(SqT X.K H p ys/\Q (.ref p) H))):=by
 intro pins s σ H xs us Q I r h
 obtain ⟨p,ys,rfl,h⟩:=h
 obtain ⟨u,rfl,rx⟩:=Bv r
 cases rx
 rcases h with ⟨hq,q⟩ | ⟨hq,q⟩
 ·obtain ⟨its,r',pl,hz⟩:=I.list hq
  have hlen:=r'.length
  refine call_tuple_list pl.isList (fun h' kp=>?_) (by simp only [List.size_toArray] <;> omega)
  have I1:Inv X pins σ H { s with heap:=h' }:=I.kept (t':=s.toks) kp
  have I2:Inv X pins σ (upd H h'.objs.size (.tup ys)) { s with heap:=h'.push { cls:=.type "tuple",data:=.seq its.toArray } } :=
   I1.laid (t':=s.toks) (fun b o e=>Heap.get?_push_of_some _ e) (Nat.le_refl _) (show ObjOk X.prog X.w _ _ _ (.tup ys) from ⟨hz,its,r',IsTupN.new _ _⟩)
  exact ⟨.ref h'.objs.size,_,I2,rfl,q _ (I1.hok.fresh (Nat.le_refl _))⟩
 ·obtain ⟨its,r',pl,hz⟩:=I.tuple hq
  exact call_tuple_same pl ⟨.ref p,H,I,rfl,q⟩
def tyV (K:PySem.W.Frag) (T:String) (x:V) (H:Hp):Prop:=match x with
 | .str _=>T = "str"
 | .int _=>T = "int"
 | .ref p=>(T = "list" /\ ∃ xs,SqL K H p xs)\/(T = "tuple" /\ ∃ o,K.lookup p=some o/\o.cls=.type "tuple" /\ o.dict=none) \/
  (T = "dict" /\ ((∃ kvs,H p=some (.dK kvs))\/∃ kvs,H p=some (.dT kvs)))\/(T = "set" /\ ∃ S n,H p=some (.set S n))
 | _=>False
theorem Fx {pins:List (Addr × Obj)} {σ:St} {H:Hp} {s:Shared} {T:String} {x:V} {v:Value} (I:Inv X pins σ H s) (r:RelV x v) (ty:tyV X.K T x H) :
 s.TypeIs v T/\∀ a,v=.ref a->∃ ob,s.heap.get? a=some ob/\ob.dict=none:=by
 cases x with
 | str z =>
  obtain ⟨t,rfl⟩:=r
  cases (show T = "str" from ty)
  exact ⟨typeIs_str s z t,fun _ e=>nomatch e⟩
 | int i =>
  obtain ⟨t,rfl⟩:=r
  cases (show T = "int" from ty)
  exact ⟨typeIs_int s i t,fun _ e=>nomatch e⟩
 | ref p =>
  cases r
  rcases ty with ⟨rfl,xs,hq⟩ | ⟨rfl,o,hk,hc,hd⟩ | ⟨rfl,hk⟩ | ⟨rfl,S,n,hk⟩
  ·obtain ⟨its,_,pl,_⟩:=I.list hq
   refine ⟨pl.isList.typeIs,fun a e=>?_⟩
   cases e
   obtain ⟨o,n,e,c,hd,_⟩:=pl
   exact ⟨o,e,hd⟩
  ·refine ⟨⟨o,I.kIn p o hk,hc⟩,fun a e=>?_⟩
   cases e
   exact ⟨o,I.kIn _ o hk,hd⟩
  ·have z:∃ o,s.heap.get? p=some o/\o.ExactDict:=by
    rcases hk with ⟨kvs,hk⟩ | ⟨kvs,hk⟩
    ·obtain ⟨_,_,_,_,o,_,_,e,ex,_⟩:=I.hok p _ hk
     exact ⟨o,e,ex⟩
    ·obtain ⟨_,_,_,_,o,_,_,e,ex,_⟩:=I.hok p _ hk
     exact ⟨o,e,ex⟩
   obtain ⟨o,e,ex⟩:=z
   refine ⟨⟨o,e,ex.1⟩,fun a e2=>?_⟩
   cases e2
   exact ⟨o,e,ex.2.1⟩
  ·obtain ⟨o,_,_,_,e,ex,_⟩:=I.hok p _ hk
   refine ⟨⟨o,e,ex.1⟩,fun a e2=>?_⟩
   cases e2
   exact ⟨o,e,ex.2.1⟩
 | _=>exact False.elim ty
def tBM (K:PySem.W.Frag) (T:String) (r:V->List V->Hp->VK->Prop) (to:TE) (t:TA):TE:=fun σ H Q=>to σ H fun x H1=>tyV K T x H1/\t σ H1 fun xs H2=>r x xs H2 Q
variable {o e:Expr} {es:List Expr} {to:TE} {t:TA} {name:Str} {apos cpos:Pos} {T id:String} {r:V->List V->Hp->VK->Prop}
theorem CH (pa:PlainAttrs T) (slot:Slot T name id) (hty:typeOf (.builtin id)=pure (.type "method_descriptor")) (hm:MtR X id r) (ho:PE X o to) (ha:PA X (e::es) t)
 (hbase:attributeBase o name X.env (eval o X.env)=eval o X.env:=by rfl)
 (hfew:((backTo cpos (starEach (e::es) X.env)).all (fun x=>!x.1) && (backToKw cpos (keywordEach [] X.env)).all (fun x=>x.1.isSome)
   && decide ((e::es).length+([]:List Keyword).length+(if ([]:List Keyword).isEmpty then 0 else 1) < 30))=true:=by rfl)
 (hline:(apos.endLine == cpos.line)=true:=by rfl) (hs:starEach (e::es) X.env=(false,eval e X.env)::starEach es X.env:=by rfl) (hplain:(backTo cpos (starEach es X.env)).any (·.1)=false:=by rfl) :
 PE X (.Call (.Attribute o name apos) (e::es) [] cpos) (tBM X.K T r to t):=by
 intro pins s σ H Q I h
 refine wpAny_Call_method_late hbase hfew hline rfl (thn (ho pins s σ H _ I h) fun v s1 ⟨x,H1,I1,r1,ty,q1⟩=>?_)
 obtain ⟨h1,h2⟩:=Fx I1 r1 ty
 refine ⟨T,id,pa,slot,hty,h1,h2,?_⟩
 have hA:=ha cpos pins s1 σ H1 _ I1 q1
 rw [hs] at hA ⊢
 refine Calls.callWith_builtin (by show (false || (backTo cpos (starEach es X.env)).any (·.1))=false;rw [hplain] <;> rfl) (Calls.evalArgs_plain ?_)
 exact thn hA fun us s2 ⟨vs,H2,I2,r2,q2⟩=>hm pins s2 σ H2 x vs v us Q I2 r1 r2 q2
end
theorem Vals.one:∀ {x:V} {us:List Value},Vals [x] us->∃ u,us=[u]/\RelV x u
 | _,_,.cons r .nil=>⟨_,rfl,r⟩
theorem Vals.zero:∀ {us:List Value},Vals [] us->us=[]
 | _,.nil=>rfl
theorem Vals.rep {xs:List V} {us:List Value} (h:Vals xs us):∀ k:Nat,Vals (List.replicate k xs).flatten (List.replicate k us).flatten
 | 0=>.nil
 | k+1=>by
  rw [List.replicate_succ,List.replicate_succ,List.flatten_cons,List.flatten_cons]
  exact Vals.append h (Vals.rep h k)
theorem EA (its:List Value):∀ (k:Nat) (acc:List Value),
 List.foldl (fun x1 x2=>x1++x2) acc.toArray (List.replicate k its.toArray)=(acc++(List.replicate k its).flatten).toArray
 | 0,acc=>by simp
 | k+1,acc=>by
  have e:acc.toArray++its.toArray=(acc++its).toArray:=by simp
  have e2:(acc++its)++(List.replicate k its).flatten=acc++(List.replicate (k+1) its).flatten:=by
   rw [List.replicate_succ,List.flatten_cons,List.append_assoc]
  rw [<- e2,<- EA its k (acc++its),<- e,List.replicate_succ,List.foldl_cons]
section
variable {X:Cx} {pins:List (Addr × Obj)} {σ:St} {H:Hp} {s:Shared} {l b:Addr} {xs ys zs:List V}
theorem Inv.lset {its its':List Value} {n:Nat} {f:Array Value->Array Value} {t':Nat} (I:Inv X pins σ H s) (hH:H l=some (.lst xs))
 (e:s.heap.get? l=some { cls:=.type "list",data:=.seq its.toArray n }) (hf:f its.toArray=its'.toArray) (hv:Vals ys its') (hz:ys.length<=sizeLine) :
 Inv X pins σ (upd H l (.lst ys)) { s with heap:=s.heap.update l (Obj.mapSeq f),toks:=t' }:=by
 have q:=PySem.IsL.update e f
 rw [hf] at q
 refine I.write (x:=l) (e:=l) (by rw [hH];exact trivial) (.inl rfl) (fun b' u hb hu=>(Heap.get?_update_other s.heap (Obj.mapSeq f) (Ne.symm hb)).trans hu) ⟨_,q⟩ ?_
 exact ⟨hz,its',_,hv,q⟩
theorem Inv.lnew {its:List Value} {t':Nat} (I:Inv X pins σ H s) (hv:Vals ys its) (hz:ys.length<=sizeLine) :
 Inv X pins σ (upd H s.heap.objs.size (.lst ys)) { s with heap:=s.heap.push { cls:=.type "list",data:=.seq its.toArray },toks:=t' } :=
 I.laid (fun _ _ q=>Heap.get?_push_of_some _ q) (Nat.le_refl _) ⟨hz,its,0,hv,Heap.get?_push_size _ rfl⟩
theorem Inv.fresh (I:Inv X pins σ H s):H s.heap.objs.size=none:=I.hok.fresh (Nat.le_refl _)
theorem Inv.lstM (I:Inv X pins σ H s) (hH:H l=some (.lst xs)):xs.length<=sizeLine/\∃ (its:List Value) (n:Nat),Vals xs its/\xs.length=its.length/\s.heap.get? l=some { cls:=.type "list",data:=.seq its.toArray n }:=by
 obtain ⟨z,its,n,r,e⟩:=I.hok l _ hH
 exact ⟨z,its,n,r,r.length,e⟩
theorem HK {n:Nat} (h:n<=sizeLine):Builtin.List.listTooLong n=false:=by
 unfold Builtin.List.listTooLong
 exact decide_eq_false (by omega)
end
section
variable {X:Cx}
def FG:R2:=fun x y H Q=>∃ l b xs zs,x=.ref l/\y=.ref b/\H l=some (.lst xs)/\H b=some (.lst zs)/\xs.length+zs.length<=sizeLine/\∀ p,H p=none->Q (.ref p) (upd H p (.lst (xs++zs)))
theorem Fv:OpR X (binaryOp .Add) FG:=by
 intro pins s σ H x y v u Q I rx ry h
 obtain ⟨l,b,xs,zs,rfl,rfl,hH,hB,hz,q⟩:=h
 cases rx
 cases ry
 obtain ⟨z,its,n,r,hl,e⟩:=I.lstM hH
 obtain ⟨z2,its2,n2,r2,hl2,e2⟩:=I.lstM hB
 refine PySem.P.add_list e e2 ?_ (by rw [List.size_toArray,List.size_toArray];omega)
 have ea:its.toArray++its2.toArray=(its++its2).toArray:=by simp
 rw [ea]
 exact ⟨.ref _,_,I.lnew (t':=s.toks) (r.append r2) (by rw [List.length_append];omega),rfl,q _ I.fresh⟩
def EM:R2:=fun x y H Q=>∃ l k xs,x=.ref l/\y=.int k/\H l=some (.lst xs) /\ -(2 ^ 63)<=k/\k < 2 ^ 63/\xs.length * k.toNat<=sizeLine /\
 ∀ p,H p=none->Q (.ref p) (upd H p (.lst (List.replicate k.toNat xs).flatten))
theorem Hf {α:Type} (xs:List α) (k:Nat):(List.replicate k xs).flatten.length=k * xs.length:=by
 induction k with
 | zero=>simp
 | succ k ih=>rw [List.replicate_succ,List.flatten_cons,List.length_append,ih,Nat.succ_mul,Nat.add_comm]
theorem IB:OpR X (binaryOp .Mult) EM:=by
 intro pins s σ H x y v u Q I rx ry h
 obtain ⟨l,k,xs,rfl,rfl,hH,h1,h2,hz,q⟩:=h
 cases rx
 obtain ⟨t,rfl⟩:=ry
 obtain ⟨z,its,n,r,hl,e⟩:=I.lstM hH
 have hlen:its.toArray.size * k.toNat<=sizeLine:=by rw [List.size_toArray,<- hl];exact hz
 have hcap:¬ its.toArray.size * k.toNat > (2 ^ 63 - 1) / 8:=by
  have:(sizeLine:Nat)<=(2 ^ 63 - 1) / 8:=by decide
  omega
 have hfit:¬ (!Builtin.List.listFitsIndex k)=true:=by
  rw [fitsIndex_both h1 h2]
  exact Bool.false_ne_true
 have hlong:¬ Builtin.List.listTooLong (its.toArray.size * k.toNat)=true:=by
  rw [HK hlen]
  exact Bool.false_ne_true
 have hnew:List.foldl (fun x1 x2=>x1++x2) #[] (List.replicate (if its.toArray.isEmpty=true then 0 else k.toNat) its.toArray)=(List.replicate k.toNat its).flatten.toArray:=by
  have f0:∀ m:Nat,List.foldl (fun x1 x2=>x1++x2) #[] (List.replicate m its.toArray)=(List.replicate m its).flatten.toArray:=fun m=>by
   have:=EA its m []
   rw [List.nil_append] at this
   exact this
  rw [f0]
  cases its with
  | nil=>simp
  | cons a r'=>rw [if_neg (by simp)]
 refine wpAny_binaryOp_repeat_ref (T:="list") (U:="int") (by decide) ⟨_,e,rfl⟩ (fun s'=>typeIs_int s' k t) noFill_list_mul F.fills_int_mul F.slot_int_rmul repeat_list F.slot_int_index.lookup
  (call_meets F.slot_int_rmul (typeIs_int s k t) F.entry_int_rmul (F.args_int_rmul_2 _ _) (int___rmul___int_list k t l its.toArray n)
    ⟨e,rfl,⟨_,e,rfl⟩,call_meets F.slot_list_mul ⟨_,e,rfl⟩ F.entry_list_mul (F.args_list_mul_2 _ _) (AutoListH.list___mul___list_int_3 l its.toArray n k t hfit hcap hlong) ⟨e,?_⟩⟩)
 rw [hnew]
 exact ⟨.ref _,_,I.lnew (t':=s.toks) (r.rep k.toNat) (by rw [Hf,Nat.mul_comm];exact hz),rfl,q _ I.fresh⟩
end
section
variable {prog:Program} {w:World} {A:Around} {E:Value->Shared->Prop} {s:Shared}
end
section
variable {X:Cx}
end
end L2
namespace Att
open PySem PySem.W PySem.Calls PyProof.Rows
theorem Ht {P:Params} {h:Heap}:∀ (ns:List Int) (vs:List Value),WellAll P h vs (ns.map WData.int)->IntsAre vs ns:=by
 intro ns
 induction ns with
 | nil =>
  intro vs w
  rw [List.map_nil] at w
  cases w
  exact .nil
 | cons n ns ih =>
  intro vs w
  rw [List.map_cons] at w
  cases w with
  | cons a b =>
   cases a
   exact .cons _ _ (ih _ b)
theorem GY {l:OpenLaw} {n:Nat} (hn:l.most=some n) {P:Params} {h:Heap} {args:List WData} {vals:List Value}
 (hpre:l.row.toRowW.claim.pre args=true) (hwl:WellAll P h vals args) :
 ∃ a vs ns,vals=[Value.ref a]/\args=[WData.list (ns.map WData.int)]/\h.get? a=some { cls:=.type "list",data:=.seq vs.toArray } /\ IntsAre vs ns/\ns.length<=n:=by
 have hsh:WShape.hasAll [] args [.list .int]=true:=(pre_splitW hpre).1
 have hc:l.pre.holds [] { args:=args } = true:=(pre_splitW hpre).2
 obtain ⟨d,r,rfl,h1,h2⟩:=hasAllW_cons hsh
 obtain rfl:=hasAllW_nil h2
 obtain ⟨xs,rfl,h3⟩:=hasW_list h1
 obtain ⟨ns,rfl⟩:=items_int h3
 have hlen:ns.length<=n:=by
  unfold OpenLaw.pre at hc
  have h4:(WTm.not (.lt (.lit (.int (n:Int))) (.len (.arg 0)))).holds [] { args:=[.list (ns.map .int)] } = true:=by
   have h4:=(holds_andW hc).1
   rw [hn] at h4
   exact h4
  have h5:=condW_of h4 (w_not (w_lt w_lit (w_len_list (w_arg rfl))))
  rw [List.length_map] at h5
  refine Nat.le_of_not_lt fun q=>?_
  have q':(n:Int) < ((ns.length:Nat):Int):=by omega
  first
   | (rw [decide_eq_true q'] at h5;exact absurd h5 (by decide))
   | (simp at h5;omega)
 cases hwl with
 | cons w1 w2 =>
  cases w2
  cases w1 with
  | list ho hall=>exact ⟨_,_,ns,rfl,rfl,ho,Ht ns _ hall,hlen⟩
theorem Hm (l:OpenLaw) (args:List WData):l.row.toRowW.claim.post args (.bool true) args=true :=
 postW_of (r:=l.row.toRowW) (X:=(true == true))
  (show WShape.has [] (.bool true) .bool=true by first | rfl | decide | simp [WShape.has,WShape.arms,WShape.armsAll])
  (show (WTm.eq .res (.lit (.bool true))).value [] { args:=args,res:=some (.bool true),after:=args } = some (.bool (true == true)) from w_eq_bool (w_res rfl) w_lit) rfl
theorem attach_call {l:OpenLaw} {n:Nat} {q:Program} {loose:List Str} {XP:(Str->Option Value)->Heap->Prop} {YP:World->Heap->Prop} {d:DefRec}
 (hn:l.most=some n) (hdf:d.params.defaults=[])
 (call:∀ (w:World) (s₀ s₁:Shared) (mg mb:Str->Option Value) (fa:Addr) (o:Obj) (pm cd doc:Value) (a:Addr) (vs:List Value) (ns:List Int),
   Ground q loose [] XP w s₀ mg mb s₁.heap->YP w s₁.heap ->
   s₁.heap.get? fa=some o->o.data=.func (docDef d.name d.params d.body d.scope pm cd doc)->s₁.heap.CodeRec cd d.name->mg d.name=some (.ref fa) ->
   s₁.heap.get? a=some { cls:=.type "list",data:=.seq vs.toArray } -> IntsAre vs ns->ns.length<=n->s₁.gens = #[] ->
   codeAny (model l.prog w) callerA (.call (.ref fa) ⟨[.ref a],[]⟩) (fun r s'=>r=.ok (.ret (.bool true))/\OldK s₁.heap s'.heap/\s'.os=s₁.os/\AllBare s'.gens) s₁) :
 WalkO q loose XP YP l.row.toRowW d [] (fun f vs=>PySem.call f vs):=by
 intro w s₀ s₁ mg mb G Y fa o pm cd doc dV kV ho hd hcd hD hmg hg args vals as hpre hlay hrd hwl hlo
 obtain rfl:dV=.none:=Dflts.none hD hdf
 obtain rfl:kV=.none:=Dflts.noKw hD
 obtain ⟨a,vs,ns,rfl,rfl,hobj,hints,hlen⟩:=GY hn hpre hwl
 refine enter_call (codeAny_mono (call w s₀ s₁ mg mb fa o pm cd doc a vs ns G Y ho (fd_plain hd) hcd hmg hobj hints hlen hg) fun r s' hq=>?_)
 obtain ⟨rfl,h2,h3,h4⟩:=hq
 exact ⟨.inl ⟨.bool true,.bool true,[],rfl,fun _=>rfl,.bool true,Hm l _,fun _=>⟨List.Pairwise.nil,fun _ hm=>(nomatch hm)⟩⟩,h2,h3,h4⟩
section
variable {prog:Program} {w:World} {A:Around} {E:Value->Shared->Prop} {s:Shared} {K:Frag}
def CI (h:Heap):Heap:={ h with objs:=#[] }
theorem EF (h:Heap) (b:Addr):(CI h).get? b=none:=by
 cases e:(CI h).get? b with
 | none=>rfl
 | some o=>exact absurd (Heap.lt_size e) (Nat.not_lt_zero _)
theorem Hj {h:Heap} {L:Addr} {m:Str->Option Value} (n:h.Ns L m):Fr (CI h) L h m :=
 ⟨n,fun b o e=>(by rw [EF] at e;cases e),Nat.zero_le _⟩
end
end Att
namespace L2
open PySem PySem.Spec PyProof.Rows
theorem Ev:∀ {vs:List Value} {ns:List Int},IntsAre vs ns->Vals (ns.map V.int) vs
 | _,_,.nil=>.nil
 | _,_,.cons n t h=>.cons ⟨t,rfl⟩ (Ev h)
def C2 (H:Hp):Prop:=∀ b,H b=none\/∃ o xs,H b=some (.frz o (.lst xs))
theorem HA {P:Program} {w:World} {K:PySem.W.Frag} {mg mb:Str->Option Value} {CX:CXT} {k:Nat} {fa a:Addr} {fd:FuncData} {x:Str} {sp:Sp} {s₁:Shared} {vs:List Value} {ns:List Int}
 (KX:K.In s₁.heap) (hns:s₁.heap.Ns mainGlobals mg) (hb:s₁.heap.Ns builtinsNs mb) (hbb:∀ x:Str,x ≠ "__name__" -> mb x=bootBuiltins x) (hlim:s₁.heap.NoLimit) (hg:s₁.gens = #[])
 (ha:s₁.heap.get? a=some { cls:=.type "list",data:=.seq vs.toArray }) (hi:IntsAre vs ns) (hl:ns.length<=sizeLine) (hr:Room k callerA)
 (F:∀ base:Heap,K.In base->base.Ns mainGlobals mg->FnOk P w K mg base CX k fa fd [x] sp) (hbind:∀ (s:Shared) (u:Value),BindsTo s fd ⟨[u],[]⟩ [(x,u)])
 (hsp:∀ H:Hp,C2 H->SqL K H a (ns.map V.int)->sp [.ref a] H (fun v _=>v=.bl true) fun _ _ _=>False)
 (hCX:∀ H e s',CX [] H s₁ (fun _ _ _=>False) e s'->False) :
 codeAny (model P w) callerA (.call (.ref fa) ⟨[.ref a],[]⟩) (fun r s'=>r=.ok (.ret (.bool true))/\OldK s₁.heap s'.heap/\s'.os=s₁.os/\AllBare s'.gens) s₁:=by
 have rv:=Ev hi
 have lenV:=hi.length
 -- from an abstract heap in which nothing but the script may be tracked
 have core:∀ H:Hp,C2 H->SqL K H a (ns.map V.int)->HOk P w H s₁.heap->(∀ b,H b≠none->b=a)->(H a≠none->K.lookup a=none) ->
  codeAny (model P w) callerA (.call (.ref fa) ⟨[.ref a],[]⟩) (fun r s'=>r=.ok (.ret (.bool true))/\OldK s₁.heap s'.heap/\s'.os=s₁.os/\AllBare s'.gens) s₁:=by
  intro H hO hS hok hA hK
  have base_of:∀ {b:Addr} {o:Obj},s₁.heap.get? b=some o->H b=none->(BF s₁.heap H).get? b=some o:=fun e n=>G8 e n
  have noA:∀ {b:Addr} {o:Obj} {es:Array DictEntry} {ep:Nat},s₁.heap.get? b=some o->o.data=.dict es ep->H b=none:=fun {b o es ep} e d=>by
   cases q:H b with
   | none=>rfl
   | some u =>
    have e':b=a:=hA b (by rw [q];simp)
    subst e'
    rw [ha] at e;cases e
    have d':Data.seq vs.toArray _=Data.dict es ep:=d
    cases d'
  have nsK:∀ {b:Addr} {m:Str->Option Value},s₁.heap.Ns b m->(BF s₁.heap H).Ns b m:=fun {b m} ⟨o,es,ep,e,d,r⟩=>⟨o,es,ep,base_of e (noA e d),d,r⟩
  have hKb:K.In (BF s₁.heap H):=fun b o e=>base_of (KX b o e) (by
   cases q:H b with
   | none=>rfl
   | some u =>
    have e':b=a:=hA b (by rw [q];simp)
    subst e'
    rw [hK (by rw [q];simp)] at e;cases e)
  have hM:Mod K mg (BF s₁.heap H):=⟨hKb,nsK hns,⟨mb,nsK hb,hbb⟩,let ⟨mc,h1,h2⟩:=hlim;⟨mc,nsK h1,h2⟩⟩
  have e0:Env0 P w K mg (BF s₁.heap H) callerA [] s₁ H:=⟨rfl,hM,fun b o e=>HU e,Nat.le_of_eq (Gc _ _),trivial,fun b hb=>absurd (show b∈([]:List Addr) from hb) (by simp),hok,.of_eq hg⟩
  refine codeAny_mono ((F _ hKb (nsK hns)).run callerA [] s₁ H ⟨[.ref a],[]⟩ [.ref a] [.ref a] _ _ hr e0 (hbind s₁ (.ref a)) (.cons rfl .nil) (hsp H hO hS)) fun r s' h=>?_
  cases r with
  | error e=>exact (hCX H e s' h).elim
  | ok fl =>
   cases fl with
   | next=>exact False.elim h
   | brk=>exact False.elim h
   | cont=>exact False.elim h
   | ret u =>
    obtain ⟨v,H',os,bare,un,hok',r',q⟩:=h
    have q':v=.bl true:=q
    subst q'
    obtain rfl:u=Value.bool true:=r'
    refine ⟨rfl,OldK.of_keep fun b o e=>?_,os,bare⟩
    cases q:H b with
    | none=>exact un.keep b o e q (by intro z;exact absurd (show b∈([]:List Addr) from z) (by simp)) (by simp)
    | some u =>
     rcases hO b with z | ⟨ob,xs,z⟩
     ·rw [q] at z;cases z
     ·have z2:=un.frzs b ob _ z
      obtain ⟨e1,_⟩:=hok b _ z
      obtain ⟨e2,_⟩:=hok' b _ z2
      rw [e] at e1;cases e1
      exact e2
 cases hk:K.lookup a with
 | some o =>
  -- the script is one of the module's own objects
  have e:=KX a o hk
  rw [ha] at e
  cases e
  refine core (fun _=>none) (fun _=>.inl rfl) (.inr ⟨_,vs.toArray,_,hk,rfl,rfl,rfl,by rw [List.size_toArray,lenV];exact hl,by simpa using rv⟩) (fun b u z=>by have z':(none:Option HO)=some u:=z;cases z') (fun b z=>absurd rfl z) fun z=>absurd rfl z
 | none =>
  refine core (fun b=>if b=a then some (.frz { cls:=.type "list",data:=.seq vs.toArray } (.lst (ns.map V.int))) else none) (fun b=>?_) (.inl (.inr ⟨{ cls:=.type "list",data:=.seq vs.toArray },if_pos rfl⟩)) (fun b u z=>?_) (fun b z=>?_) fun _=>hk
  ·by_cases hb:b=a
   ·exact .inr ⟨_,_,if_pos hb⟩
   ·exact .inl (if_neg hb)
  ·by_cases hb:b=a
   ·have z':=(if_pos hb).symm.trans z
    cases z'
    subst hb
    exact ⟨ha,by rw [List.length_map];exact hl,vs,_,rv,ha⟩
   ·have z':=(if_neg hb).symm.trans z
    cases z'
  ·by_cases hb:b=a
   ·exact hb
   ·exact absurd (if_neg hb) z
theorem walk_of {l:PySem.W.OpenLaw} {n k:Nat} {q:Program} {loose:List Str} {XP:(Str->Option Value)->Heap->Prop} {YP:World->Heap->Prop} {d:DefRec} {K:Params->PySem.W.Frag} {CX:World->CXT} {sp:World->Sp} {x:Str}
 (hn:l.most=some n) (hn2:n<=sizeLine) (hdf:d.params.defaults=[]) (hr:Room k callerA)
 (hY:∀ (w:World) (h:Heap),YP w h->(K w.params).In h)
 (F:∀ (w:World) (mg:Str->Option Value) (fa:Addr) (h:Heap),(K w.params).In h->h.Ns mainGlobals mg->mg d.name=some (.ref fa) ->
   ∃ fd:FuncData,(∀ (s:Shared) (u:Value),BindsTo s fd ⟨[u],[]⟩ [(x,u)]) /\
    ∀ base:Heap,(K w.params).In base->base.Ns mainGlobals mg->FnOk l.prog w (K w.params) mg base (CX w) k fa fd [x] (sp w))
 (hsp:∀ (w:World) (H:Hp) (a:Addr) (ns:List Int),ns.length<=n->C2 H->SqL (K w.params) H a (ns.map V.int)->sp w [.ref a] H (fun v _=>v=.bl true) fun _ _ _=>False)
 (hCX:∀ (w:World) (H:Hp) (s:Shared) (e:Value) (s':Shared),CX w [] H s (fun _ _ _=>False) e s'->False) :
 PySem.W.WalkO q loose XP YP l.row.toRowW d [] (fun f vs=>PySem.call f vs):=by
 refine Att.attach_call hn hdf fun w s₀ s₁ mg mb fa o pm cd doc a vs ns G Y ho hd hcd hmg hobj hints hlen hg=>?_
 have KX:=hY w _ Y
 obtain ⟨fd,hb,hF⟩:=F w mg fa _ KX G.T.g hmg
 exact HA KX G.T.g G.T.b G.T.builtins G.T.nolimit hg hobj hints (Nat.le_trans hlen hn2) hr hF hb (fun H hO hS=>hsp w H a ns hlen hO hS) fun H e s'=>hCX w H s₁ e s'
def B9 (s:Stmt) (j:Nat):Stmt:=match s with
 | .ClassDef _ _ _ body _ _ _ _ _ _ _=>body.getD j (.Pass ⟨0,0,0,0⟩)
 | _=>.Pass ⟨0,0,0,0⟩
def AX (s:Stmt):Arguments:=match s with
 | .FunctionDef _ a _ _ _ _ _ _ _ _=>a
 | _=>{ posonlyargs:=[],args:=[],vararg:=none,kwonlyargs:=[],kw_defaults:=[],kwarg:=none,defaults:=[] }
def AV (s:Stmt):List Stmt:=match s with
 | .FunctionDef _ _ b _ _ _ _ _ _ _=>b
 | _=>[]
def AG (s:Stmt):Scope:=match s with
 | .FunctionDef _ _ _ _ _ _ sc _ _ _=>sc
 | _=>{ kind:=.function,names:=[],isGenerator:=false,isCoroutine:=false }
abbrev CX0:CXT:=fun _ _ _ _ _ _=>False
abbrev E0:XK:=fun _ _ _=>False
theorem AL {X:Cx}:BN CX0 X E0:=fun _ _ _ _ _ _ _ h=>h.elim
structure Fun (K:PySem.W.Frag) (x qual:Str) (st:Stmt) (f:Addr) (fd:FuncData):Prop where
 ex:∃ (oc:Value) (od:Option Addr) (kV doc pm:Value) (an:Option Addr) (cdv ct:Value) (osl:Array (Option Value)),
  fd=PySem.W.fnOf x qual (AX st) (AV st) (AG st) .none kV doc pm an cdv ct/\K.lookup f=some ⟨oc,od,.func fd,osl⟩/\PySem.W.codeIn K cdv qual=true
 kp:PySem.W.keepIn K (.ref f)=true
section
variable {P:Program} {w:World} {K:PySem.W.Frag} {mg:Str->Option Value} {base:Heap}
theorem Fun.ok {x qual:Str} {st:Stmt} {f:Addr} {fd:FuncData} {N ps:List Str} {k:Nat} {sp:Sp} (F:Fun K x qual st f fd) (S:FnScope N ps (AG st)) (len:∀ vs H Q E,sp vs H Q E->vs.length=ps.length)
 (hbody:∀ (cdv:Value) (A:Around) (outer:List Env) (s:Shared) (H:Hp) (vs:List V) (Q:VK) (E:XK),Room k (A.deeper (envOfC qual (AG st) s.heap.objs.size f cdv))->sp vs H Q E ->
   ∃ t,PSs (Bk CX0 P w K mg base N qual (AG st) f cdv A outer s H E).nox (AV st) t/\t { nx:=fun _ H'=>Q .non H',rt:=Q } (BH N vs) H):FnOk P w K mg base CX0 (k+1) f fd ps sp:=by
 obtain ⟨oc,od,kV,doc,pm,an,cdv,ct,osl,rfl,lk,hcd⟩:=F.ex
 refine HJ lk hcd S len fun A outer s H vs Q E hr hsp=>?_
 obtain ⟨t,h,q⟩:=hbody cdv A outer s H vs Q E hr hsp
 exact ⟨t,h.nox,q⟩
theorem Fun.binds {x qual:Str} {st:Stmt} {f:Addr} {fd:FuncData} {ps:List Str} (F:Fun K x qual st f fd)
 (h:∀ (kV doc pm:Value) (an:Option Addr) (cdv ct:Value) (us:List Value),us.length=ps.length->bindArgs (PySem.W.fnOf x qual (AX st) (AV st) (AG st) .none kV doc pm an cdv ct) ⟨us,[]⟩=pure (ps.zip us)):Binds K fd ps []:=by
 obtain ⟨oc,od,kV,doc,pm,an,cdv,ct,osl,rfl,lk,hcd⟩:=F.ex
 exact .all (h kV doc pm an cdv ct)
theorem Ai {x qual:Str} {st:Stmt} {f:Addr} {oc:Value} {od an:Option Addr} {osl:Array (Option Value)} {kV doc pm cdv ct:Value} (l:K.lookup f=some ⟨oc,od,.func (PySem.W.fnOf x qual (AX st) (AV st) (AG st) .none kV doc pm an cdv ct),osl⟩)
 (c:PySem.W.codeIn K cdv qual=true) (k:PySem.W.keepIn K (.ref f)=true):Fun K x qual st f (PySem.W.fnOf x qual (AX st) (AV st) (AG st) .none kV doc pm an cdv ct):=⟨⟨oc,od,kV,doc,pm,an,cdv,ct,osl,rfl,l,c⟩,k⟩
end
theorem Ck {n:Nat} (h:n<=1000):n < sizeLine:=Nat.lt_of_le_of_lt h (by decide)
section
variable {X:Cx}
theorem pv (i:Nat) {x:Str} {pos:Pos} (hN:X.N[i]? = some x:=by rfl) (hv:Vis X.env.scope x:=by first | exact Or.inl rfl | exact Or.inr (Or.inl rfl) | exact Or.inr (Or.inr rfl)) (hd:(x == ("__debug__" : Str))=false:=by decide)
 (hcd:(x == ("__classdict__" : Str))=false:=by decide):PE X (.Name x pos) (E7 i):=Er hN hv hd hcd
end
theorem DN {A B:Prop} (h:B):if false=true then A else B:=by
 rw [if_neg Bool.false_ne_true]
 exact h
theorem Ag {c A B:Prop} [Decidable c] (h1:c->A) (h2:¬ c->B):if c then A else B:=by
 by_cases h:c
 ·rw [if_pos h]
  exact h1 h
 ·rw [if_neg h]
  exact h2 h
def Same (H H':Hp):Prop:=∀ b o,H b=some o->H' b=some o
theorem Same.refl (H:Hp):Same H H:=fun _ _ h=>h
theorem Same.trans {H H1 H2:Hp} (a:Same H H1) (b:Same H1 H2):Same H H2:=fun c o h=>b c o (a c o h)
theorem Same.free {H H':Hp} (e:Same H H') {l:Addr} (h:H' l=Option.none):H l=Option.none:=by
 cases q:H l with
 | none=>rfl
 | some o =>
  rw [e l o q] at h
  cases h
theorem Same.seq {K:PySem.W.Frag} {H H':Hp} {a:Addr} {xs:List V} (e:Same H H') (h:SqL K H a xs):SqL K H' a xs:=by
 rcases h with (h | ⟨o,h⟩) | h
 ·exact .inl (.inl (e _ _ h))
 ·exact .inl (.inr ⟨o,e _ _ h⟩)
 ·exact .inr h
theorem Bw:∀ (names:List (Str × NameKind)) (n:Nat) (acc:List (Str × Addr)),cellsFrom n names acc=cellsFrom n names []++acc
 | [],_,_=>rfl
 | (name,kind)::r,n,acc=>by
  unfold cellsFrom
  split
  ·rw [Bw r (n+1) ((name,n)::acc),Bw r (n+1) [(name,n)],List.append_assoc];rfl
  ·exact Bw r n acc
theorem cellsFrom_kind:∀ (names:List (Str × NameKind)) (n:Nat) (acc:List (Str × Addr)) (x:Str) (c:Addr),(x,c)∈cellsFrom n names acc->(x,c)∈acc\/(x,NameKind.cell)∈names
 | [],_,_,_,_,h=>.inl h
 | (name,kind)::r,n,acc,x,c,h=>by
  unfold cellsFrom at h
  split at h
  ·rename_i hk
   rcases cellsFrom_kind r _ _ x c h with h | h
   ·rcases List.mem_cons.mp h with e | h
    ·cases e
     have:kind=.cell:=by simpa using hk
     subst this
     exact .inr List.mem_cons_self
    ·exact .inl h
   ·exact .inr (List.mem_cons_of_mem _ h)
  ·rcases cellsFrom_kind r _ _ x c h with h | h
   ·exact .inl h
   ·exact .inr (List.mem_cons_of_mem _ h)
theorem CO {α:Type} {x:Str}:∀ (l r:List (Str × α)),(l++r).lookup x=(match l.lookup x with | some c=>some c | none=>r.lookup x)
 | [],r=>rfl
 | (k,v)::l,r=>by
  show List.lookup x ((k,v)::(l++r))=_
  rw [List.lookup_cons,List.lookup_cons]
  cases x == k with
  | true=>rfl
  | false=>exact CO l r
theorem Dz {α:Type} {x:Str}:∀ {l:List (Str × α)},(∀ c,(x,c)∉l)->l.lookup x=none
 | [],_=>rfl
 | (k,v)::l,h=>by
  rw [List.lookup_cons]
  cases hb:x == k with
  | true =>
   have:x=k:=by simpa using hb
   subst this
   exact absurd List.mem_cons_self (h v)
  | false=>exact Dz fun c hc=>h c (List.mem_cons_of_mem _ hc)
def AZ (cells:List (Str × Addr)):List (Str × NameKind)->List (Str × Addr)->List (Str × Addr)
 | [],acc=>acc
 | (n,k)::r,acc=>if k == .free then AZ cells r ((n,(cells.lookup n).getD 0)::acc) else AZ cells r acc
theorem J2 {scope:Scope} {env:Env} (h:∀ y∈scope.names,y.2=.free->∃ c,env.cells.lookup y.1=some c):closureFor scope env=pure (AZ env.cells scope.names []):=by
 have all:∀ (names:List (Str × NameKind)) (acc:List (Str × Addr)),(∀ y∈names,y.2=.free->∃ c,env.cells.lookup y.1=some c) ->
  (forIn names acc fun (x:Str × NameKind) cs=>(if (x.2 == NameKind.free)=true then (do let a <- cellOf env x.1;pure (ForInStep.yield ((x.1,a)::cs))) else pure (ForInStep.yield cs):Sem (ForInStep (List (Str × Addr)))))=(pure (AZ env.cells names acc):Sem _):=by
  intro names
  induction names with
  | nil=>intro acc _;rfl
  | cons y r ih =>
   intro acc hy
   obtain ⟨n,k⟩:=y
   rw [List.forIn_cons]
   have hr:∀ y∈r,y.2=.free->∃ c,env.cells.lookup y.1=some c:=fun y hm=>hy y (List.mem_cons_of_mem _ hm)
   unfold AZ
   by_cases hk:(k == NameKind.free)=true
   ·obtain ⟨c,e⟩:=hy (n,k) List.mem_cons_self (by simpa using hk)
    rw [if_pos hk,if_pos hk]
    have e2:cellOf env n=pure c:=by unfold cellOf;rw [show env.cells.lookup n=some c from e]
    rw [e2]
    rw [show env.cells.lookup n=some c from e]
    exact ih _ hr
   ·rw [if_neg hk,if_neg hk]
    exact ih _ hr
 have q:=all scope.names [] h
 unfold closureFor
 refine Eq.trans ?_ (congrArg (fun t=>t >>= pure) q |>.trans (by rfl))
 congr 1
theorem clOf_mem {cells:List (Str × Addr)}:∀ (names:List (Str × NameKind)) (acc:List (Str × Addr)) (x:Str) (c:Addr),(∀ y∈names,y.2=.free->∃ c,cells.lookup y.1=some c)->(x,c)∈AZ cells names acc->(x,c)∈acc\/((x,NameKind.free)∈names/\cells.lookup x=some c)
 | [],_,_,_,_,h=>.inl h
 | (n,k)::r,acc,x,c,hy,h=>by
  have hr:∀ y∈r,y.2=.free->∃ c,cells.lookup y.1=some c:=fun y hm=>hy y (List.mem_cons_of_mem _ hm)
  unfold AZ at h
  split at h
  ·rename_i hk
   have hk':k=.free:=by simpa using hk
   subst hk'
   obtain ⟨d,e⟩:=hy (n,.free) List.mem_cons_self rfl
   rcases clOf_mem r _ x c hr h with h | ⟨h,h'⟩
   ·rcases List.mem_cons.mp h with e' | h
    ·obtain ⟨e1,e2⟩:=Prod.mk.inj e'
     rw [show cells.lookup n=some d from e] at e2
     subst e1
     exact .inr ⟨List.mem_cons_self,by rw [e2];exact e⟩
    ·exact .inl h
   ·exact .inr ⟨List.mem_cons_of_mem _ h,h'⟩
  ·rcases clOf_mem r _ x c hr h with h | ⟨h,h'⟩
   ·exact .inl h
   ·exact .inr ⟨List.mem_cons_of_mem _ h,h'⟩
theorem DU {cells:List (Str × Addr)} {x:Str}:∀ (names:List (Str × NameKind)) (acc:List (Str × Addr)),(∃ c,(x,c)∈acc)->∃ c,(x,c)∈AZ cells names acc
 | [],_,h=>h
 | (n,k)::r,acc,⟨c,h⟩=>by
  unfold AZ
  split
  ·exact DU r _ ⟨c,List.mem_cons_of_mem _ h⟩
  ·exact DU r _ ⟨c,h⟩
theorem DS {cells:List (Str × Addr)} {x:Str}:∀ (names:List (Str × NameKind)) (acc:List (Str × Addr)),(x,NameKind.free)∈names->∃ c,(x,c)∈AZ cells names acc
 | (n,k)::r,acc,h=>by
  unfold AZ
  rcases List.mem_cons.mp h with e | h
  ·cases e
   rw [if_pos (by decide)]
   exact DU r _ ⟨_,List.mem_cons_self⟩
  ·split
   ·exact DS r _ h
   ·exact DS r _ h
theorem EV {α:Type} {x:Str}:∀ {l:List (Str × α)},(∃ c,(x,c)∈l)->∃ c,l.lookup x=some c
 | (k,v)::l,⟨c,h⟩=>by
  rw [List.lookup_cons]
  cases hb:x == k with
  | true=>exact ⟨v,rfl⟩
  | false =>
   rcases List.mem_cons.mp h with e | h
   ·cases e;simp at hb
   ·exact EV ⟨c,h⟩
def B4 (scope sc:Scope):Scope :=
 { scope with names:=scope.names.map fun (n,k)=>if (k == .free && sc.kind == .function && sc.names.lookup n == some .cell) then (n,.cell) else (n,k) }
structure CompScope (scope sc:Scope):Prop where
 kind:scope.kind=.function
 nd:(scope.names.map (·.1)).Nodup
 fr:∀ y∈scope.names,y.2=.free->sc.names.lookup y.1=some .cell\/sc.names.lookup y.1=some .free
theorem Bz {α:Type}:∀ {l:List (Str × α)} {x:Str} {c:α},(l.map (·.1)).Nodup->(x,c)∈l->l.lookup x=some c
 | (k,v)::l,x,c,nd,h=>by
  obtain ⟨n1,n2⟩:=List.nodup_cons.mp (show (k::l.map (·.1)).Nodup from nd)
  rw [List.lookup_cons]
  rcases List.mem_cons.mp h with e | h
  ·cases e;simp
  ·have hne:¬ x=k:=fun e=>n1 (by rw [<- e];exact List.mem_map.mpr ⟨(x,c),h,rfl⟩)
   have:(x == k)=false:=by simpa using hne
   rw [this]
   exact Bz n2 h
theorem ET {scope sc:Scope} {x:Str}:(B4 scope sc).names.lookup x=(scope.names.lookup x).map fun k=>if (k == .free && sc.kind == .function && sc.names.lookup x == some .cell) then NameKind.cell else k:=by
 show (scope.names.map _).lookup x=_
 generalize scope.names=names
 induction names with
 | nil=>rfl
 | cons y r ih =>
  obtain ⟨n,k⟩:=y
  rw [List.map_cons]
  by_cases hc:(k == .free && sc.kind == .function && sc.names.lookup n == some .cell)=true
  ·show List.lookup x ((if (k == .free && sc.kind == .function && sc.names.lookup n == some .cell)=true then (n,NameKind.cell) else (n,k))::_)=_
   rw [if_pos hc,List.lookup_cons,List.lookup_cons]
   cases hb:x == n with
   | true =>
    have hx:x=n:=by simpa using hb
    subst hx
    show some NameKind.cell=some (if _ then _ else _)
    rw [if_pos hc]
   | false=>exact ih
  ·show List.lookup x ((if (k == .free && sc.kind == .function && sc.names.lookup n == some .cell)=true then (n,NameKind.cell) else (n,k))::_)=_
   rw [if_neg hc,List.lookup_cons,List.lookup_cons]
   cases hb:x == n with
   | true =>
    have hx:x=n:=by simpa using hb
    subst hx
    show some k=some (if _ then _ else _)
    rw [if_neg hc]
   | false=>exact ih
structure CArgs where
 pins:List (Addr × Obj)
 cells:List (Str × Addr)
 s:Shared
 H:Hp
 fp:List Addr
 C:Addr
def Cx.comp (X:Cx) (scope:Scope) (N':List Str) (c:CArgs):Cx where
 prog:=X.prog
 w:=X.w
 K:=X.K
 mg:=X.mg
 base:=X.base
 A:=X.A
 N:=N'
 s₀:=c.s
 H₀:=c.H
 env:=compEnvC scope c.cells c.C X.env
 outer:=X.stack
 stack:=X.stack
 ex:=c.fp
 fn:=fun x=>scope.names.lookup x == some .cell
 calm:=X.calm
 pn:=X.pn++c.pins
 xe:=fun _ _=>False
def cSt (own:Nat) (ix:List Nat) (σ:St):St:=List.replicate own none++ix.map fun i=>(σ[i]?).join
section
variable {X:Cx} {pins:List (Addr × Obj)} {σ:St} {H:Hp} {s s4:Shared} {fp:List Addr} {scope:Scope} {N':List Str} {own:Nat} {ix:List Nat}
theorem Jp (I:Inv X pins σ H s) (f2:∀ b∈fp,As X pins H b) (hob:∀ b∈fp,∃ o,s.heap.get? b=some o) (S:CompScope scope X.env.scope)
 (hlen:N'.length=own+ix.length) (hN:(N'.drop own).map some=ix.map (X.N[·]?)) (hfr:∀ x∈N'.drop own,scope.names.lookup x=some .free)
 {C:Addr} (hC:s.heap.objs.size < C) (k4:∀ b o,s.heap.get? b=some o->s4.heap.get? b=some o) (os4:s4.os=s.os) (g4:s4.gens=s.gens)
 (n4:∃ m,s4.heap.Ns C m) (own4:∀ x c,(x,c)∈cellsFrom (C+1) scope.names []->s4.heap.IsCell c none/\C+1<=c)
 (apart:(cellsFrom (C+1) scope.names []).Pairwise fun x y=>x.2≠y.2) :
 Inv (X.comp scope N' ⟨pins,cellsFrom (C+1) scope.names (AZ X.env.cells scope.names []),s,H,fp,C⟩) [] (cSt own ix σ) H s4:=by
 have hfree:∀ y∈scope.names,y.2=.free->∃ c,X.env.cells.lookup y.1=some c:=fun y hy h=>I.ok.has y.1 (S.fr y hy h)
 -- a cell of the block
 have cases:∀ x c,(cellsFrom (C+1) scope.names (AZ X.env.cells scope.names [])).lookup x=some c ->
  ((x,c)∈cellsFrom (C+1) scope.names []/\scope.names.lookup x=some .cell)\/((x,NameKind.free)∈scope.names/\X.env.cells.lookup x=some c):=fun x c h=>by
  rw [Bw,CO] at h
  cases e:(cellsFrom (C+1) scope.names []).lookup x with
  | some d =>
   rw [e] at h
   cases h
   have m:=mem_of_lookup e
   rcases cellsFrom_kind _ _ _ _ _ m with z | z
   ·exact absurd z (by simp)
   ·exact .inl ⟨m,Bz S.nd z⟩
  | none =>
   rw [e] at h
   rcases clOf_mem _ _ _ _ hfree (mem_of_lookup h) with z | z
   ·exact absurd z (by simp)
   ·exact .inr z
 have oldlt:∀ x c,X.env.cells.lookup x=some c->c < s.heap.objs.size:=fun x c e=>let ⟨v,q⟩:=I.cell x c e;q.lt
 have kin:∀ x,(B4 scope X.env.scope).names.lookup x=some .cell\/(B4 scope X.env.scope).names.lookup x=some .free->(scope.names.lookup x=some .cell\/scope.names.lookup x=some .free):=fun x h=>by
  rw [ET] at h
  cases e:scope.names.lookup x with
  | none=>rw [e] at h;simp at h
  | some k =>
   rw [e] at h
   cases k with
   | cell=>exact .inl rfl
   | free=>exact .inr rfl
   | _=>exact absurd h (by simp)
 have hCn:∀ b o,s.heap.get? b=some o->b≠C:=fun b o e z=>by have:=Heap.lt_size e;rw [z] at this;exact Nat.lt_irrefl _ (Nat.lt_trans this hC)
 have lk:∀ x,(x,NameKind.free)∈scope.names->∀ c,X.env.cells.lookup x=some c->(cellsFrom (C+1) scope.names (AZ X.env.cells scope.names [])).lookup x=some c:=fun x hx c hc=>by
  have hl:scope.names.lookup x=some .free:=Bz S.nd hx
  rw [Bw,CO,Dz (l:=cellsFrom (C+1) scope.names []) fun d hd=>?_]
  ·obtain ⟨d,hd⟩:=EV (DS (cells:=X.env.cells) scope.names [] hx)
   rcases clOf_mem _ _ _ _ hfree (mem_of_lookup hd) with z | ⟨_,z⟩
   ·exact absurd z (by simp)
   ·rw [hc] at z;cases z;exact hd
  ·rcases cellsFrom_kind _ _ _ _ _ hd with z | z
   ·exact absurd z (by simp)
   ·rw [Bz S.nd z] at hl;cases hl
 refine ⟨⟨I.ok.mod,S.kind,I.ok.glob,I.ok.blt,Nat.le_of_lt hC,fun x y c hx hy=>?_,fun x hx=>?_,fun x c hf hx=>?_,I.ok.hd,I.ok.frames,.inl rfl,fun b hb=>⟨?_,fun x c hx=>?_⟩,fun b o e=>I.bs b o e,Nat.le_trans I.ok.bsz I.sz,fun b o e hb=>?_,fun b hb z=>?_,I.stack,I.stkFree⟩,
  os4,by rw [g4];exact I.bare,Un.kept k4,?_,fun x c hx=>?_,?_,fun x c hx=>?_,fun p hp=>?_,I.hok.kept k4,?_⟩
 ·-- inj
  rcases cases x c hx with ⟨m1,_⟩ | ⟨_,m1⟩ <;> rcases cases y c hy with ⟨m2,_⟩ | ⟨_,m2⟩
  ·exact name_of_addr apart m1 m2
  ·exact absurd (Nat.lt_of_lt_of_le (Nat.lt_trans (oldlt y c m2) hC) (Nat.le_of_succ_le (own4 x c m1).2)) (Nat.lt_irrefl _)
  ·exact absurd (Nat.lt_of_lt_of_le (Nat.lt_trans (oldlt x c m1) hC) (Nat.le_of_succ_le (own4 y c m2).2)) (Nat.lt_irrefl _)
  ·exact I.ok.inj x y c m1 m2
 ·-- has
  rcases kin x hx with h | h
  ·have q:=PySem.W.cellsFrom_some scope.names (C+1) (AZ X.env.cells scope.names []) (.inl h)
   exact Option.isSome_iff_exists.mp q
  ·obtain ⟨c,e⟩:=hfree (x,.free) (mem_of_lookup h) rfl
   exact ⟨c,lk x (mem_of_lookup h) c e⟩
 ·-- cab
  rcases cases x c hx with ⟨m1,_⟩ | ⟨m1,_⟩
  ·exact Nat.le_of_lt (Nat.lt_of_lt_of_le hC (Nat.le_of_succ_le (own4 x c m1).2))
  ·have hl:=Bz S.nd m1
   have hf':(scope.names.lookup x == some NameKind.cell)=true:=hf
   rw [hl] at hf';cases hf'
 ·obtain ⟨o,e⟩:=hob b hb
  exact hCn b o e
 ·intro z
  obtain ⟨o,e⟩:=hob b hb
  have hlt:=Heap.lt_size e
  rcases cases x c hx with ⟨m1,_⟩ | ⟨_,m1⟩
  ·subst z;exact absurd (Nat.lt_of_lt_of_le (Nat.lt_trans hlt hC) (Nat.le_of_succ_le (own4 x c m1).2)) (Nat.lt_irrefl _)
  ·exact (f2 b hb).2.2.2.2.1 x c m1 z
 ·-- noex
  have e1:=(I.ok.bs b o e).1
  rcases (f2 b hb).2.2.2.1 with z | z
  ·exact I.ok.noex b o e z
  ·exact absurd (Nat.lt_of_lt_of_le (Heap.lt_size e1) z) (Nat.lt_irrefl _)
 ·-- exfs
  rcases List.mem_cons.mp (I.stkSub b z) with e | z
  ·exact (f2 b hb).2.1 e
  ·exact (f2 b hb).2.2.1 z
 ·-- loc
  obtain ⟨m,hm⟩:=n4
  obtain ⟨m0,hn0,hl0⟩:=I.loc
  refine ⟨m,hm,fun i x v h1 h2 h3=>?_⟩
  have h1:N'[i]? = some x:=h1
  unfold cSt at h2
  by_cases hi:i < own
  ·rw [List.getElem?_append_left (by simpa using hi),List.getElem?_replicate] at h2
   split at h2 <;> cases h2
  ·rw [List.getElem?_append_right (by simpa using hi),List.length_replicate,List.getElem?_map] at h2
   obtain ⟨j,hj⟩:∃ j,i=own+j:=⟨i - own,by omega⟩
   subst hj
   rw [Nat.add_sub_cancel_left] at h2
   cases e:ix[j]? with
   | none=>rw [e] at h2;cases h2
   | some q =>
    rw [e] at h2
    have h2:some (σ[q]?).join=some (some v):=h2
    have h2:(σ[q]?).join=some v:=Option.some.inj h2
    have hσ:σ[q]? = some (some v):=by
     cases eq:σ[q]? with
     | none=>rw [eq] at h2;cases h2
     | some z=>rw [eq] at h2;simp at h2;rw [h2]
    have hx:(N'.drop own)[j]? = some x:=by rw [List.getElem?_drop];exact h1
    have hNq:X.N[q]? = some x:=by
     have:=congrArg (·[j]?) hN
     simp only [List.getElem?_map,hx,e,Option.map_some] at this
     exact (Option.some.inj this).symm
    have hfx:=hfr x (List.mem_of_getElem? hx)
    have hmem:=mem_of_lookup hfx
    have kx:=S.fr (x,.free) hmem rfl
    have vis:Vis X.env.scope x:=.inr kx
    obtain ⟨u,r,l⟩:=hl0 q x v hNq hσ vis
    refine ⟨u,r,?_⟩
    rcases l with ⟨k,_⟩ | ⟨k,c,hc,z⟩
    ·exfalso
     have k':X.env.scope.names.lookup x=some .local:=k
     rcases kx with kx | kx
     ·rw [show X.env.scope.names.lookup x=some .cell from kx] at k';cases k'
     ·rw [show X.env.scope.names.lookup x=some .free from kx] at k';cases k'
    ·refine .inr ⟨?_,c,lk x hmem c hc,z.keeps k4⟩
     show (B4 scope X.env.scope).names.lookup x=some .cell\/(B4 scope X.env.scope).names.lookup x=some .free
     rw [ET,hfx]
     by_cases hc:(NameKind.free == .free && X.env.scope.kind == .function && X.env.scope.names.lookup x == some .cell)=true
     ·exact .inl (by rw [Option.map_some,if_pos hc])
     ·exact .inr (by rw [Option.map_some,if_neg hc])
 ·rcases cases x c hx with ⟨m1,_⟩ | ⟨_,m1⟩
  ·exact ⟨_,(own4 x c m1).1⟩
  ·obtain ⟨v,q⟩:=I.cell x c m1
   exact ⟨v,q.keeps k4⟩
 ·exact I.hok.fresh (Nat.le_of_lt hC)
 ·rcases cases x c hx with ⟨m1,_⟩ | ⟨_,m1⟩
  ·exact I.hok.fresh (Nat.le_of_lt (Nat.lt_of_lt_of_le hC (Nat.le_of_succ_le (own4 x c m1).2)))
  ·exact I.freeC x c m1
 ·have hp:p∈X.pn++pins:=by
   have:p∈(X.pn++pins)++[]:=hp
   rwa [List.append_nil] at this
  obtain ⟨e,n,ne,nf,d⟩:=I.pin p hp
  refine ⟨k4 _ _ e,n,hCn _ _ e,fun z=>?_,d⟩
  rcases List.mem_cons.mp (I.stkSub _ z) with q | q
  ·exact ne q
  ·exact nf q
 ·unfold cSt
  rw [List.length_append,List.length_replicate,List.length_map]
  exact hlen.symm
end
section
variable {prog:Program} {w:World} {A:Around} {R:Result->Shared->Prop} {s:Shared}
theorem Ih {elt target iter:Expr} {ifs:List Expr} {scope:Scope} {pos:Pos} {it acc:Value} {env:Env} (I:Nat->Shared->Prop)
 (turn:∀ n s,I n s->wpAny (model prog w) A (pyNext it) (fun r s₁=>match r with
   | none=>R (.ok .next) s₁
   | some v=>wpAny (model prog w) A (letOwnedTupleGo target it v) (fun _ s₁'=>wpAny (model prog w) A (assign target env v) (fun _ s₂ =>
    wpAny (model prog w) A (forIn ifs true fun c r=>if r=true then do let ok <- isTrue c env (eval c env);pure (ForInStep.yield ok) else pure (ForInStep.yield r)) (fun ok s₃ =>
     if ok=true then wpAny (model prog w) A (eval elt env) (fun x s₄ =>
      wpAny (model prog w) A (call (.builtin "list.append") [acc,x]) (fun _ s₅=>∃ m,m < n/\I m s₅) (fun _ _=>False) s₄) (fun _ _=>False) s₃
     else ∃ m,m < n/\I m s₃) (fun _ _=>False) s₂) (fun _ _=>False) s₁') (fun _ _=>False) s₁) (fun _ _=>False) s)
 (n:Nat) (h:I n s) :
 codeAny (model prog w) A (.compLoop (.ListComp elt [⟨target,iter,ifs,0⟩] scope pos) 0 it acc env) R s:=by
 refine codeAny_loop rfl I (fun n s hI=>?_) n h
 show wpAny _ A ((compTurn (.ListComp elt [⟨target,iter,ifs,0⟩] scope pos) 0 it acc env).onRaise (fun x=>do noteFrame x env;theTreesLotGoes x)) _ _ s
 refine wpAny_noted ?_
 rw [compTurn_list]
 refine wpAny_bind (wpAny_standAt (wpAny_bind (wpAny_mono (turn n s hI) (fun r s₁ h₁=>?_) fun _ _ h'=>h'.elim)))
 cases r with
 | none=>exact wpAny_pure h₁
 | some v =>
  refine wpAny_bind (wpAny_mono h₁ (fun _ s₁' h₁'=>?_) fun _ _ h'=>h'.elim)
  refine wpAny_bind (wpAny_mono h₁' (fun _ s₂ h₂=>wpAny_bind (wpAny_mono h₂ (fun ok s₃ h₃=>?_) fun _ _ h'=>h'.elim)) fun _ _ h'=>h'.elim)
  cases ok with
  | false=>exact wpAny_pure ⟨rfl,h₃⟩
  | true =>
   exact wpAny_bind (wpAny_bind (wpAny_mono h₃ (fun x s₄ h₄=>wpAny_bind (wpAny_mono h₄ (fun _ s₅ h₅=>wpAny_pure (wpAny_pure ⟨rfl,h₅⟩)) fun _ _ h'=>h'.elim)) fun _ _ h'=>h'.elim))
end
def PTs (X:Cx) (ifs:List Expr) (t:TT):Prop :=
 ∀ (pins:List (Addr × Obj)) (s:Shared) (σ:St) (H:Hp) (Q:Bool->Hp->Prop),Inv X pins σ H s->t σ H Q ->
  wpAny (model X.prog X.w) X.A (forIn ifs true fun c r=>if r=true then do let ok <- isTrue c X.env (eval c X.env);pure (ForInStep.yield ok) else pure (ForInStep.yield r)) (TP X pins σ Q) X.xe s
def Fw:TT:=fun _ H Q=>Q true H
theorem C8 {X:Cx}:PTs X [] Fw:=fun _ _ _ H _ I h=>wpAny_tests_nil ⟨H,I,h⟩
def CZ (own:Nat) (g:TG):Prop:=∀ x σ H Q,g x σ H Q->g x σ H fun σ' H'=>(σ'.length=σ.length/\∀ i,own<=i->σ'[i]? = σ[i]?)/\Q σ' H'
theorem Ct {own i:Nat} (h:i < own):CZ own (Ac i):=fun x σ H Q q =>
 ⟨⟨by simp,fun j hj=>by rw [List.getElem?_set_ne (by omega)]⟩,q⟩
def Cy (g:TG):Prop:=∀ x σ H (Q Q':St->Hp->Prop),(∀ σ H,Q σ H->Q' σ H)->g x σ H Q->g x σ H Q'
theorem Jg {i:Nat}:Cy (Ac i):=fun _ _ _ _ _ h q=>h _ _ q
theorem IX {own:Nat} {ix:List Nat} {σ:St} {i:Nat} {v:V} (h:(cSt own ix σ)[i]? = some (some v)):own<=i:=by
 unfold cSt at h
 by_cases hi:i < own
 ·rw [List.getElem?_append_left (by simpa using hi),List.getElem?_replicate] at h
  split at h <;> cases h
 ·omega
def Cf (J:It) (g:TG) (tc:TT) (te:TE) (σc:St) (Q:VK) (H1:Hp):Prop :=
 ∃ W:Nat->Nat->List V->Hp->Prop,(∃ m,W 0 m [] H1)/\∀ i m ys H,W i m ys H ->
  (J.stop i H/\∀ p,H p=none->Q (.ref p) (upd H p (.lst ys))) \/
  (J.go i H/\ys.length < sizeLine/\∃ N:List V->Hp->Prop,(∀ ys' H',N ys' H'->∃ m',m' < m/\W (i+1) m' ys' H')/\∀ x H',J.yld i H x H'->g x σc H' fun σ4 H4=>tc σ4 H4 fun b H5 =>
    if b=true then te σ4 H5 fun y H6=>N (ys++[y]) H6 else N ys H5)
def Dj (wi:TI) (own:Nat) (ix:List Nat) (g:TG) (tc:TT) (te:TE):TE:=fun σ H Q=>wi σ H fun J H1=>Cf J g tc te (cSt own ix σ) Q H1
section
variable {X:Cx} {pins:List (Addr × Obj)} {σ:St} {H:Hp} {s:Shared} {fp:List Addr} {it:Addr} {tn:Nat->Heap->Prop} {J:It} {tg iter elt:Expr} {ifs:List Expr} {scope:Scope} {pos:Pos} {N':List Str} {own:Nat} {ix:List Nat} {g:TG} {tc:TT} {te:TE} {Q:VK} {E:Value->Shared->Prop}
theorem IE (I:Inv X pins σ H s) (T:Turn X.prog X.w X.K tg J fp it tn) (st:tn 0 s.heap) (f2:∀ b∈fp,As X pins H b) (hc:X.calm=true) (S:CompScope scope X.env.scope)
 (hlen:N'.length=own+ix.length) (hN:(N'.drop own).map some=ix.map (X.N[·]?)) (hfr:∀ x∈N'.drop own,scope.names.lookup x=some .free)
 (hg:∀ c,PG (X.comp scope N' c) tg g) (hgo:CZ own g) (ht:∀ c,PTs (X.comp scope N' c) ifs tc) (he:∀ c,PE (X.comp scope N' c) elt te)
 (hq:Cf J g tc te (cSt own ix σ) Q H) {RR:Value->Addr->Result->Shared->Prop}
 (fin:∀ (D C:Addr) (s':Shared) (H':Hp) (ys:List V) (its:List Value) (n:Nat),s'.os=s.os->AllBare s'.gens->Un (frs X.stack) fp H H' s.heap s'.heap->HOk X.prog X.w H' s'.heap->(∃ m,s'.heap.Ns C m)->H' C=none->s.heap.objs.size<=C ->
   H' D=none->s.heap.objs.size<=D->D≠C->s'.heap.get? D=some { cls:=.type "list",data:=.seq its.toArray n } -> Vals ys its->ys.length<=sizeLine->(∀ p,H' p=none->Q (.ref p) (upd H' p (.lst ys)))->RR (.ref D) C (.ok .next) s') :
 wpAny (model X.prog X.w) X.A (newList []) (fun acc s₃=>wpAny (model X.prog X.w) X.A (newFunctionEnv scope X.env.globals (AZ X.env.cells scope.names []) [] X.env.qual none .none (some X.env)) (fun cenv s₄ =>
  codeAny (model X.prog X.w) X.A (.compStart (.ListComp elt [⟨tg,iter,ifs,0⟩] scope pos) 0 (.ref it) acc { cenv with scope:=relabel scope X.env }) (RR acc cenv.locals) s₄) E s₃) E s:=by
 obtain ⟨W,⟨m0,w0⟩,turn⟩:=hq
 have hob:∀ b∈fp,∃ o,s.heap.get? b=some o:=fun b hb=>let ⟨o,e,_⟩:=T.obj 0 _ st b hb;⟨o,e⟩
 refine wpAny_newObj_type ?_
 generalize hH1:s.heap.push { cls:=.type "list",dict:=none,data:=.seq ([]:List Value).toArray } = h1
 have hs1:h1.objs.size=s.heap.objs.size+1:=by rw [<- hH1,Heap.size_push]
 have k1:∀ b o,s.heap.get? b=some o->h1.get? b=some o:=fun b o e=>by rw [<- hH1];exact Heap.get?_push_of_some _ e
 have d1:h1.get? s.heap.objs.size=some { cls:=.type "list",data:=.seq ([]:List Value).toArray }:=by rw [<- hH1];exact Heap.get?_push_size _ rfl
 simp only [newFunctionEnv,Option.isSome_some,if_true]
 refine wpAny_bind (wpAny_alloc ?_)
 generalize hH2:(({ s with heap:=h1 }:Shared).heap.push { cls:=.type "dict",data:=.dict #[] })=h2
 have hH2':h1.push { cls:=.type "dict",data:=.dict #[] } = h2:=hH2
 have hs2:h2.objs.size=h1.objs.size+1:=by rw [<- hH2',Heap.size_push]
 have k2:∀ b o,h1.get? b=some o->h2.get? b=some o:=fun b o e=>by rw [<- hH2'];exact Heap.get?_push_of_some _ e
 have n2:h2.Ns h1.objs.size (fun _=>none):=by rw [<- hH2'];exact Heap.Ns.new h1 (.type "dict")
 refine wpAny_bind (wpAny_layCells _ (fun name kind cells=>by cases hkc:kind == NameKind.cell <;> simp [hkc]) _ _ _ _ ?_)
 have ok:=cellsFrom_ok scope.names h2 (h1.objs.size+1) [] ⟨fun _ _ hm=>(nomatch hm),List.Pairwise.nil⟩ (by rw [hs2];exact Nat.le_refl _)
 rw [hs2] at ok
 show wpAny _ _ (forIn ([]:List (Str × Value)) PUnit.unit _ >>= _) _ _ _
 rw [List.forIn_nil]
 refine wpAny_bind (wpAny_pure (wpAny_pure ?_))
 show codeAny _ _ (.compStart _ 0 (.ref it) (.ref s.heap.objs.size) (compEnvC scope (cellsFrom h2.objs.size scope.names (AZ X.env.cells scope.names [])) h1.objs.size X.env)) (RR (.ref s.heap.objs.size) h1.objs.size) { s with heap:=pushCells h2 scope.names }
 rw [hs2]
 generalize hH3:pushCells h2 scope.names=h3 at ok ⊢
 have k3:∀ b o,h2.get? b=some o->h3.get? b=some o:=fun b o e=>by rw [<- hH3];exact pushCells_keeps _ _ b o e
 have kk:∀ b o,s.heap.get? b=some o->h3.get? b=some o:=fun b o e=>k3 b o (k2 b o (k1 b o e))
 have d3:h3.get? s.heap.objs.size=some { cls:=.type "list",data:=.seq ([]:List Value).toArray }:=k3 _ _ (k2 _ _ d1)
 have hC:s.heap.objs.size < h1.objs.size:=by rw [hs1];exact Nat.lt_succ_self _
 have I3:Inv (X.comp scope N' ⟨pins,cellsFrom (h1.objs.size+1) scope.names (AZ X.env.cells scope.names []),s,H,fp,h1.objs.size⟩) [] (cSt own ix σ) H { s with heap:=h3 } :=
  Jp (s4:={ s with heap:=h3 }) I f2 hob S hlen hN hfr hC kk rfl rfl ⟨_,n2.keeps k3⟩ (fun x c hm=>ok.empty x c hm) ok.apart
 generalize hcs:cellsFrom (h1.objs.size+1) scope.names (AZ X.env.cells scope.names [])=cs at I3 ⊢
 generalize hCC:h1.objs.size=C at *
 generalize hDD:s.heap.objs.size=D at *
 have hY:=I3.ok
 -- what is fixed of the records
 have sD:D≠C/\(∀ x c,cs.lookup x=some c->c≠D)/\D∉frs X.stack/\∀ p∈X.pn++pins,p.1≠D:=by
  refine ⟨Nat.ne_of_lt hC,fun x c e z=>?_,fun z=>?_,fun p hp z=>?_⟩
  ·subst z
   have e':=e
   rw [<- hcs,Bw,CO] at e'
   cases q:(cellsFrom (C+1) scope.names []).lookup x with
   | some d =>
    rw [q] at e';cases e'
    have:=(ok.empty x c (mem_of_lookup q)).2
    exact absurd (Nat.lt_of_lt_of_le hC (Nat.le_of_succ_le this)) (Nat.lt_irrefl _)
   | none =>
    rw [q] at e'
    have hfree:∀ y∈scope.names,y.2=.free->∃ c,X.env.cells.lookup y.1=some c:=fun y hy h=>I.ok.has y.1 (S.fr y hy h)
    rcases clOf_mem _ _ _ _ hfree (mem_of_lookup e') with z | ⟨_,z⟩
    ·exact absurd z (by simp)
    ·obtain ⟨v,q⟩:=I.cell x c z
     have:=q.lt
     rw [hDD] at this
     exact Nat.lt_irrefl _ this
  ·exact (I3.nofs (a:=D) (by exact absurd z (by
    intro z'
    obtain ⟨_,o,ho,_⟩:=(show s.heap.FunFrames X.base X.stack from I.stack).mem z'
    have:=Heap.lt_size ho
    rw [hDD] at this
    exact Nat.lt_irrefl _ this))) z
  ·have:=Heap.lt_size (I.pin p hp).1
   rw [z,hDD] at this
   exact Nat.lt_irrefl _ this
 have stat:∀ {H':Hp},(∀ b∈fp,H' b=none)->∀ b∈fp,As (X.comp scope N' ⟨pins,cs,s,H,fp,C⟩) [] H' b:=fun {H'} hn b hb=>by
  refine ⟨hn b hb,(hY.exf b hb).1,hY.exfs b hb,.inl hb,(hY.exf b hb).2,fun p hp=>?_⟩
  have hp:p∈(X.pn++pins)++[]:=hp
  rw [List.append_nil] at hp
  exact (f2 b hb).2.2.2.2.2 p hp
 have statD:∀ {H':Hp},H' D=none->As (X.comp scope N' ⟨pins,cs,s,H,fp,C⟩) [] H' D:=fun {H'} hn=>by
  refine ⟨hn,sD.1,sD.2.2.1,.inr (Nat.le_of_eq hDD),sD.2.1,fun p hp=>?_⟩
  have hp:p∈(X.pn++pins)++[]:=hp
  rw [List.append_nil] at hp
  exact sD.2.2.2 p hp
 have loop:codeAny (model X.prog X.w) X.A (.compLoop (.ListComp elt [⟨tg,iter,ifs,0⟩] scope pos) 0 (.ref it) (.ref D) (compEnvC scope cs C X.env)) (RR (.ref D) C) { s with heap:=h3 }:=by
  refine Ih (fun n s'=>∃ (i:Nat) (H':Hp) (ys:List V) (its:List Value) (k:Nat),Inv (X.comp scope N' ⟨pins,cs,s,H,fp,C⟩) [] (cSt own ix σ) H' s'/\tn i s'.heap/\(∀ b∈fp,H' b=none)/\H' D=none /\
   s'.heap.get? D=some { cls:=.type "list",data:=.seq its.toArray k } /\ Vals ys its/\ys.length<=sizeLine/\W i n ys H') ?_ m0
   ⟨0,H,[],[],0,I3,T.keep _ _ _ st fun b _ o e=>kk b o e,fun b hb=>(f2 b hb).1,I.hok.fresh (Nat.le_of_eq hDD),d3,.nil,Nat.zero_le _,w0⟩
  rintro n s4 ⟨i,H4,ys,its,k,I4,st4,fr4,dn4,d4,rv4,z4,w4⟩
  rcases turn i n ys H4 w4 with ⟨stop,qn⟩ | ⟨go,zl,N,hN2,step⟩
  ·have ID:=I4.pinned (fp:=[D]) (fun b hb=>by rw [List.mem_singleton.mp hb];exact statD dn4) (fun b hb=>by rw [List.mem_singleton.mp hb];exact ⟨_,d4,fun v z=>nomatch z⟩)
   have nD:∀ b∈fp,b≠D:=fun b hb z=>by
    obtain ⟨o,e⟩:=hob b hb
    have:=Heap.lt_size e
    rw [z,hDD] at this
    exact Nat.lt_irrefl _ this
   have stat':∀ b∈fp,As (X.comp scope N' ⟨pins,cs,s,H,fp,C⟩) ([]++Au [D] s4.heap) H4 b:=fun b hb=>by
    obtain ⟨q1,q2,q3,q4,q5,q6⟩:=stat fr4 b hb
    refine ⟨q1,q2,q3,q4,q5,fun p hp=>?_⟩
    rcases List.mem_append.mp hp with z | z
    ·exact q6 p (List.mem_append_left _ z)
    ·have:=(C0 (by simpa using z:p∈Au [D] s4.heap)).1
     rw [List.mem_singleton.mp this]
     exact fun z=>nD b hb z.symm
   refine thn (T.done (X.comp scope N' ⟨pins,cs,s,H,fp,C⟩) rfl rfl rfl hc i _ s4 _ H4 (fun _ _=>False) ID stat' st4 stop) fun r s5 ⟨hr,I5⟩=>?_
   subst hr
   obtain ⟨m,hm,_⟩:=I5.loc
   refine fin D C s5 H4 ys its k I5.os I5.bare I5.base I5.hok ⟨m,hm⟩ I5.free (Nat.le_of_lt hC) dn4 (Nat.le_refl _) sD.1 ?_ rv4 z4 qn
   ·exact (I5.pin (D,_) (List.mem_append_right _ (List.mem_append_right _ (Bn (List.mem_singleton.mpr rfl) d4)))).1
  ·have nD:∀ b∈fp,b≠D:=fun b hb z=>by
    obtain ⟨o,e⟩:=hob b hb
    have:=Heap.lt_size e
    rw [z,hDD] at this
    exact Nat.lt_irrefl _ this
   have ID:=I4.pinned (fp:=[D]) (fun b hb=>by rw [List.mem_singleton.mp hb];exact statD dn4) (fun b hb=>by rw [List.mem_singleton.mp hb];exact ⟨_,d4,fun v z=>nomatch z⟩)
   have statP:∀ {H':Hp},(∀ b∈fp,H' b=none)->∀ b∈fp,As (X.comp scope N' ⟨pins,cs,s,H,fp,C⟩) ([]++Au [D] s4.heap) H' b:=fun {H'} hn b hb=>by
    obtain ⟨q1,q2,q3,q4,q5,q6⟩:=stat hn b hb
    refine ⟨q1,q2,q3,q4,q5,fun p hp=>?_⟩
    rcases List.mem_append.mp hp with z | z
    ·exact q6 p (List.mem_append_left _ z)
    ·have:=(C0 (by simpa using z:p∈Au [D] s4.heap)).1
     rw [List.mem_singleton.mp this]
     exact fun z=>nD b hb z.symm
   refine thn (T.item (X.comp scope N' ⟨pins,cs,s,H,fp,C⟩) rfl rfl rfl hc i _ s4 _ H4 (fun _ _=>False) ID (statP fr4) st4 go) fun r s5 ⟨u,hr,h5⟩=>?_
   subst hr
   refine thn h5 fun _ s6 ⟨x,H6,I6,r6,y6,st6,fr6⟩=>?_
   have I6':=I6.pinned (statP fr6) (T.obj _ _ st6)
   refine thn (hg _ _ s6 _ H6 x u _ I6' r6 (hgo _ _ _ _ (step x H6 y6))) fun _ s7 ⟨σ7,H7,I7,⟨e7,k7⟩,q7⟩=>?_
   have I7':Inv (X.comp scope N' ⟨pins,cs,s,H,fp,C⟩) ([]++Au [D] s4.heap++Au fp s6.heap) σ7 H7 s7:=I7
   refine thn (ht _ _ s7 σ7 H7 _ I7' q7) fun b s8 ⟨H8,I8,q8⟩=>?_
   -- what is kept through the turn
   have back:∀ {s9:Shared} {H9:Hp},Inv (X.comp scope N' ⟨pins,cs,s,H,fp,C⟩) ([]++Au [D] s4.heap++Au fp s6.heap) σ7 H9 s9 ->
    Inv (X.comp scope N' ⟨pins,cs,s,H,fp,C⟩) [] (cSt own ix σ) H9 s9/\tn (i+1) s9.heap/\(∀ b∈fp,H9 b=none)/\H9 D=none/\s9.heap.get? D=some { cls:=.type "list",data:=.seq its.toArray k }:=fun {s9 H9} I9=>by
    have pD:=I9.pin (D,_) (List.mem_append_right _ (List.mem_append_left _ (List.mem_append_right _ (Bn (List.mem_singleton.mpr rfl) d4))))
    refine ⟨I9.unpinned.unpinned.weak (by rw [e7]) fun j v hj=>?_,T.keep _ _ _ st6 fun b hb o e=>(I9.pin (b,o) (List.mem_append_right _ (List.mem_append_right _ (Bn hb e)))).1,fun b hb=>?_,pD.2.1,pD.1⟩
    ·rw [k7 j (IX hj)];exact hj
    ·obtain ⟨o,e,_⟩:=T.obj _ _ st6 b hb
     exact (I9.pin (b,o) (List.mem_append_right _ (List.mem_append_right _ (Bn hb e)))).2.1
   cases b with
   | false =>
    rw [if_neg Bool.false_ne_true] at q8
    obtain ⟨m',hm,w8⟩:=hN2 _ _ q8
    obtain ⟨b1,b2,b3,b4,b5⟩:=back I8
    exact ⟨m',hm,i+1,H8,ys,its,k,b1,b2,b3,b4,b5,rv4,z4,w8⟩
   | true =>
    rw [if_pos rfl] at q8
    rw [if_pos rfl]
    refine thn (he _ _ s8 σ7 H8 _ I8 q8) fun yv s9 ⟨y,H9,I9,r9,q9⟩=>?_
    obtain ⟨m',hm,w9⟩:=hN2 _ _ q9
    obtain ⟨b1,b2,b3,b4,b5⟩:=back I9
    have hl:=rv4.length
    refine call_meets F.slot_list_append ⟨_,b5,rfl⟩ F.entry_list_append (F.args_list_append_2 _ _) (PySem.list_append D its.toArray k yv (by rw [List.size_toArray];omega)) ⟨b5,?_⟩
    have up:=PySem.IsL.update b5 (fun a=>a.push yv)
    have keep:∀ b o,b≠D->s9.heap.get? b=some o->(s9.heap.update D (Obj.mapSeq fun a=>a.push yv)).get? b=some o:=fun b o hb q=>(Heap.get?_update_other _ _ (Ne.symm hb)).trans q
    obtain ⟨f0,f1,f2',f3,f4,f5⟩:=statD b4
    refine ⟨m',hm,i+1,H9,ys++[y],its++[yv],(if ((its.toArray.push yv).size == its.toArray.size)=true then k else k+1),b1.turned (t':=s9.toks) keep b4 f1 f3 f4 f5,?_,b3,b4,?_,rv4.append (.cons r9 .nil),?_,w9⟩
    ·exact T.keep _ _ _ b2 fun b hb o e=>keep b o (nD b hb) e
    ·have e2:(its.toArray.push yv)=(its++[yv]).toArray:=by simp
     rw [<- e2]
     exact up
    ·rw [List.length_append,List.length_singleton]
     omega
 exact codeAny_compStart_list loop (T.self X.A 0 _ _ _ (T.keep _ _ _ st fun b _ o e=>kk b o e) loop)
end
section
variable {X:Cx} {pins:List (Addr × Obj)} {σ:St} {H:Hp} {s:Shared} {fp:List Addr} {it:Addr} {tn:Nat->Heap->Prop} {J:It} {tg iter elt:Expr} {ifs:List Expr} {scope:Scope} {pos:Pos} {N':List Str} {own:Nat} {ix:List Nat} {g:TG} {tc:TT} {te:TE} {wi:TI} {E:Value->Shared->Prop}
theorem Ia {H':Hp} {s':Shared} {D:Addr} {ys:List V} {its:List Value} {n:Nat} (I:Inv X pins σ H s) (f2:∀ b∈fp,As X pins H b) (ho:s'.os=s.os) (hg:AllBare s'.gens) (u:Un (frs X.stack) fp H H' s.heap s'.heap) (hok:HOk X.prog X.w H' s'.heap)
 (dn:H' D=none) (ds:s.heap.objs.size<=D) (d:s'.heap.get? D=some { cls:=.type "list",data:=.seq its.toArray n }) (rv:Vals ys its) (z:ys.length<=sizeLine):Inv X pins σ (upd H' D (.lst ys)) s':=by
 have nD:∀ b o,s.heap.get? b=some o->b≠D:=fun b o e q=>by rw [q,Heap.get?_none_of_le ds] at e;cases e
 have nH:∀ b o,H' b=some o->b≠D:=fun b o e q=>by rw [q,dn] at e;cases e
 refine I.call' (ch:=fp) ho ⟨u.keep,u.slot,fun b o e q hx=>?_,u.there,fun b xs e=>?_,fun b o v e=>?_,fun b ps e=>?_⟩ (fun b o e=>?_) hg fun b hb=>?_
 ·rw [AF (nD b o e)];exact u.free b o e q hx
 ·have:=u.tups b xs e
  rw [AF (nH _ _ this)];exact this
 ·have:=u.frzs b o v e
  rw [AF (nH _ _ this)];exact this
 ·obtain ⟨more,q⟩:=u.tbls b ps e
  exact ⟨more,by rw [AF (nH _ _ q)];exact q⟩
 ·by_cases hb:b=D
  ·subst hb
   rw [AB] at e
   cases e
   exact ⟨z,its,n,rv,d⟩
  ·rw [AF hb] at e
   exact (hok b o e).stay (fun _ _ _ q=>q) (fun c q=>by rw [AF (nH _ _ q)];exact q) fun c xs q=>by rw [AF (nH _ _ q)];exact q
 ·obtain ⟨q1,q2,q3,q4,q5,q6⟩:=f2 b hb
  exact ⟨q4,q2,q5,q6⟩
theorem Inv.dictGone {s':Shared} {h':Heap} {C:Addr} {H':Hp} {σ':St} (I:Inv X pins σ H s) (J:Inv X pins σ' H' s') (hC:s.heap.objs.size<=C) (hn:H' C=none) (k:Heap.SameBut C s'.heap h'):Inv X pins σ' H' { s' with heap:=h' }:=by
 have hC0:=Heap.get?_none_of_le hC
 refine J.turned (t':=s'.toks) (fun b o hb e=>(k.2 b hb).trans e) hn (fun z=>?_) (.inr (Nat.le_trans I.sz hC)) (fun x c e z=>?_) fun p hp z=>?_
 ·obtain ⟨m,⟨o,_,_,ho,_⟩,_⟩:=I.loc
  rw [<- z,hC0] at ho;cases ho
 ·obtain ⟨v,o,ho,_⟩:=I.cell x c e
  rw [z,hC0] at ho;cases ho
 ·have:=(I.pin p hp).1
  rw [z,hC0] at this;cases this
theorem IL (hc:X.calm=true) (hi:PI X tg iter wi) (S:CompScope scope X.env.scope)
 (hlen:N'.length=own+ix.length) (hN:(N'.drop own).map some=ix.map (X.N[·]?)) (hfr:∀ x∈N'.drop own,scope.names.lookup x=some .free)
 (hg:∀ c,PG (X.comp scope N' c) tg g) (hgo:CZ own g) (ht:∀ c,PTs (X.comp scope N' c) ifs tc) (he:∀ c,PE (X.comp scope N' c) elt te)
 (hs:∀ x,foldedSetIterable iter X.env x=pure x:=by intro _;rfl):PE X (.ListComp elt [⟨tg,iter,ifs,0⟩] scope pos) (Dj wi own ix g tc te):=by
 intro pins s σ H Q I h
 rw [eval_ListComp]
 have hfree:∀ y∈scope.names,y.2=.free->∃ c,X.env.cells.lookup y.1=some c:=fun y hy h=>I.ok.has y.1 (S.fr y hy h)
 refine wpAny_comprehension_free (use:=none) rfl hs (J2 hfree) S.kind (fun y hy hl=>Bz S.nd (by rw [<- hl];exact hy)) ?_
 refine thn (hi pins s σ H _ I h) fun v s1 h1=>thn h1 fun itv s2 h2=>?_
 obtain ⟨it,fp,tn,J,H2,e,I2,T,st2,f2,q2⟩:=h2
 subst e
 refine IE (RR:=fun acc C=>compPost (model X.prog X.w) X.A X.xe none (EP X pins σ Q) acc C) I2 T st2 f2 hc S hlen hN hfr hg hgo ht he q2 ?_
 intro D C s' H' ys its n ho hgn u hok hm hC hCs hD hDs hDC d rv z q
 obtain ⟨m,hm⟩:=hm
 have I3:=Ia I2 f2 ho hgn u hok hD hDs d rv z
 refine ⟨m,hm,fun h' hs'=>?_⟩
 exact ⟨.ref D,_,I2.dictGone I3 hCs (by rw [AF (Ne.symm hDC)];exact hC) hs',rfl,q D hD⟩
end
section
variable {X:Cx}
theorem PE.imp {e:Expr} {t t':TE} (h:PE X e t) (f:∀ σ H Q,t' σ H Q->t σ H Q):PE X e t':=fun pins s σ H Q I q=>h pins s σ H Q I (f σ H Q q)
theorem OpR.imp {f:Value->Value->Sem Value} {r r':R2} (h:OpR X f r) (g:∀ x y H Q,r' x y H Q->r x y H Q):OpR X f r':=fun pins s σ H x y v u Q I rx ry q=>h pins s σ H x y v u Q I rx ry (g _ _ _ _ q)
theorem CallR.imp {f:Value} {r r':List V->Hp->VK->Prop} (h:CallR X f r) (g:∀ x H Q,r' x H Q->r x H Q):CallR X f r':=fun pins s σ H xs us Q I r q=>h pins s σ H xs us Q I r (g _ _ _ q)
def B8 (i:Nat):TE:=fun σ H Q=>match σ[i]? with
 | some (some v)=>Q v H
 | _=>False
theorem vv (i:Nat) {x:Str} {pos:Pos} (hN:X.N[i]? = some x:=by rfl) (hv:Vis X.env.scope x:=by first | exact Or.inl rfl | exact Or.inr (Or.inl rfl) | exact Or.inr (Or.inr rfl)) (hd:(x == ("__debug__" : Str))=false:=by decide)
 (hcd:(x == ("__classdict__" : Str))=false:=by decide):PE X (.Name x pos) (B8 i):=(Er hN hv hd hcd).imp fun σ H Q q=>by
 unfold B8 at q
 split at q
 ·rename_i v e;exact ⟨v,e,q⟩
 ·exact q.elim
def okMul (i j:Int):Prop:=(i.natAbs < 2 ^ 4096/\j.natAbs < 2 ^ 4096)\/(-(2 ^ 64) < i/\i < 2 ^ 64)\/(-(2 ^ 64) < j/\j < 2 ^ 64)
theorem Es {i:Int} (h:i.natAbs < 2 ^ 4096):Builtin.Int.intBits i<=2 ^ 20:=by
 unfold Builtin.Int.intBits
 split
 ·exact Nat.zero_le _
 ·rename_i hz
  have hne:i.natAbs≠0:=by
   have:¬ i=0:=by simpa using hz
   omega
  have:=(Nat.log2_lt hne).mpr h
  have e:(2:Nat) ^ 20=1048576:=by decide
  omega
theorem okMul.ok {i j:Int} (h:okMul i j):IntMulOk i j:=by
 rcases h with ⟨h1,h2⟩ | h | h
 ·exact .of_bits (Es h1) (Es h2)
 ·exact CMul.ok (.inl h)
 ·exact CMul.ok (.inr h)
def okDiv (j:Int):Prop:=0 < j/\j < 2 ^ 4096
theorem okDiv.ok {i j:Int} (h:okDiv j):Builtin.divisionGoesByPylong i j=false:=by
 refine PyProof.noPylong_of_log2 ?_
 obtain ⟨h1,h2⟩:=h
 have hne:j.natAbs≠0:=by omega
 have h3:j.natAbs < 2 ^ 4096:=by
  have e:((j.natAbs:Int))=j:=by omega
  have h2':((j.natAbs:Nat):Int) < ((2 ^ 4096:Nat):Int):=by rw [e,Int.natCast_pow];exact h2
  exact Int.ofNat_lt.mp h2'
 have:=(Nat.log2_lt hne).mpr h3
 omega
def CA (K:PySem.W.Frag):R2:=fun x y H Q=>match x,y with
 | .int i,.int j=>Q (.int (i+j)) H
 | .str a,.str b=>a.length+b.length<=sizeLine/\Q (.str (a++b)) H
 | .ref a,.ref b=>FG (.ref a) (.ref b) H Q\/EQ K (.ref a) (.ref b) H Q
 | _,_=>False
theorem Ji:OpR X (binaryOp .Add) (CA X.K):=by
 intro pins s σ H x y v u Q I rx ry q
 cases x <;> cases y <;> first
  | exact False.elim q
  | exact J5 pins s σ H _ _ v u Q I rx ry ⟨_,_,rfl,rfl,q⟩
  | exact GL pins s σ H _ _ v u Q I rx ry ⟨_,_,rfl,rfl,q.1,q.2⟩
  | (rcases q with q | q
     ·exact Fv pins s σ H _ _ v u Q I rx ry q
     ·exact IN pins s σ H _ _ v u Q I rx ry q)
def DE:R2:=fun x y H Q=>match x,y with
 | .int i,.int j=>Q (.int (i - j)) H
 | _,_=>False
theorem An:OpR X (binaryOp .Sub) DE:=by
 intro pins s σ H x y v u Q I rx ry q
 cases x <;> cases y <;> first
  | exact False.elim q
  | exact HN pins s σ H _ _ v u Q I rx ry ⟨_,_,rfl,rfl,q⟩
def JD:R2:=fun x y H Q=>match x,y with
 | .int i,.int j=>okMul i j/\Q (.int (i * j)) H
 | .ref a,.int k=>EM (.ref a) (.int k) H Q
 | _,_=>False
theorem Cj:OpR X (binaryOp .Mult) JD:=by
 have hI:OpR X (binaryOp .Mult) (rI okMul fun i j=>.int (i * j)):=opI fun _ _ _ _ _ _ _ hc q=>mul_int q hc.ok
 intro pins s σ H x y v u Q I rx ry q
 cases x <;> cases y <;> first
  | exact False.elim q
  | exact hI pins s σ H _ _ v u Q I rx ry ⟨_,_,rfl,rfl,q.1,q.2⟩
  | exact IB pins s σ H _ _ v u Q I rx ry q
def Cu:R2:=fun x y H Q=>match x,y with
 | .int i,.int j=>okDiv j/\Q (.int (i / j)) H
 | _,_=>False
theorem EY:OpR X (binaryOp .FloorDiv) Cu:=by
 have hI:OpR X (binaryOp .FloorDiv) (rI (fun _ j=>okDiv j) fun i j=>.int (i / j)):=opI fun i j _ _ _ _ _ hc q=>by
  refine floordiv_int (by have:=hc.1;omega) ?_ (.inl hc.ok)
  rw [Int.fdiv_eq_ediv_of_nonneg i (by have:=hc.1;omega)]
  exact q
 intro pins s σ H x y v u Q I rx ry q
 cases x <;> cases y <;> first
  | exact False.elim q
  | exact hI pins s σ H _ _ v u Q I rx ry ⟨_,_,rfl,rfl,q.1,q.2⟩
def DY:R2:=fun x y H Q=>match x,y with
 | .int i,.int j=>0 < j/\Q (.int (i % j)) H
 | _,_=>False
theorem A7:OpR X (binaryOp .Mod) DY:=by
 intro pins s σ H x y v u Q I rx ry q
 cases x <;> cases y <;> first
  | exact False.elim q
  | exact Ft pins s σ H _ _ v u Q I rx ry ⟨_,_,rfl,rfl,q.1,q.2⟩
def DX:R2:=fun x y H Q=>match x,y with
 | .int i,.int j=>FL i j/\Q (.int (i ^ j.toNat)) H
 | _,_=>False
theorem HH:OpR X (binaryOp .Pow) DX:=by
 intro pins s σ H x y v u Q I rx ry q
 cases x <;> cases y <;> first
  | exact False.elim q
  | exact IH pins s σ H _ _ v u Q I rx ry ⟨_,_,rfl,rfl,q.1,q.2⟩
def CJ (p:Int->Int->Bool):R2:=fun x y H Q=>match x,y with
 | .int i,.int j=>Q (.bl (p i j)) H
 | _,_=>False
theorem BK:OpR X (compareOp .Lt) (CJ fun i j=>decide (i < j)):=by
 intro pins s σ H x y v u Q I rx ry q
 cases x <;> cases y <;> first
  | exact False.elim q
  | exact HE pins s σ H _ _ v u Q I rx ry ⟨_,_,rfl,rfl,q⟩
theorem Bq:OpR X (compareOp .Gt) (CJ fun i j=>decide (j < i)):=by
 intro pins s σ H x y v u Q I rx ry q
 cases x <;> cases y <;> first
  | exact False.elim q
  | exact Jd pins s σ H _ _ v u Q I rx ry ⟨_,_,rfl,rfl,q⟩
end
inductive Dv where
 | non | bl (b:Bool) | int (i:Int) | str (x:Str) | tup (ds:List Dv) | lst (ds:List Dv)
mutual
def Rep (K:PySem.W.Frag) (H:Hp):Dv->V->Prop
 | .non,v=>v=.non
 | .bl b,v=>v=.bl b
 | .int i,v=>v=.int i
 | .str x,v=>v=.str x
 | .tup ds,v=>∃ a xs,v=.ref a/\SqT K H a xs/\Reps K H ds xs
 | .lst ds,v=>∃ a xs,v=.ref a/\SqL K H a xs/\Reps K H ds xs
def Reps (K:PySem.W.Frag) (H:Hp):List Dv->List V->Prop
 | [],xs=>xs=[]
 | d::ds,xs=>∃ x r,xs=x::r/\Rep K H d x/\Reps K H ds r
end
mutual
def eqD:Dv->Dv->Bool
 | .non,.non=>true
 | .bl a,.bl b=>a == b
 | .bl a,.int b=>(if a then 1 else 0) == b
 | .int a,.bl b=>a == (if b then 1 else 0)
 | .int a,.int b=>a == b
 | .str a,.str b=>a == b
 | .tup ds,.tup es=>Ak ds es
 | .lst ds,.lst es=>Ak ds es
 | _,_=>false
def Ak:List Dv->List Dv->Bool
 | [],[]=>true
 | d::ds,e::es=>eqD d e && Ak ds es
 | _,_=>false
end
mutual
def AM:Dv->Nat
 | .tup ds=>A8 ds+1
 | .lst ds=>A8 ds+1
 | _=>0
def A8:List Dv->Nat
 | []=>0
 | d::ds=>max (AM d) (A8 ds)
end
theorem Jw (ds es:List Dv):eqD (.tup ds) (.tup es)=Ak ds es:=by rw [eqD]
theorem FX (ds es:List Dv):eqD (.lst ds) (.lst es)=Ak ds es:=by rw [eqD]
theorem Reps.length {K:PySem.W.Frag} {H:Hp}:∀ {ds:List Dv} {xs:List V},Reps K H ds xs->ds.length=xs.length
 | [],xs,h=>by unfold Reps at h;subst h;rfl
 | d::ds,xs,h=>by
  unfold Reps at h
  obtain ⟨x,r,rfl,_,h⟩:=h
  rw [List.length_cons,List.length_cons,Reps.length h]
theorem Reps.get {K:PySem.W.Frag} {H:Hp}:∀ {ds:List Dv} {xs:List V} {i:Nat} {d:Dv},Reps K H ds xs->ds[i]? = some d->∃ x,xs[i]? = some x/\Rep K H d x
 | [],_,_,_,_,e=>by simp at e
 | d::ds,xs,0,_,h,e=>by
  unfold Reps at h
  obtain ⟨x,r,rfl,h1,_⟩:=h
  simp at e;subst e
  exact ⟨x,rfl,h1⟩
 | d::ds,xs,i+1,_,h,e=>by
  unfold Reps at h
  obtain ⟨x,r,rfl,_,h⟩:=h
  obtain ⟨y,h1,h2⟩:=Reps.get (i:=i) h (by simpa using e)
  exact ⟨y,by simpa using h1,h2⟩
theorem FD {ds:List Dv} {i:Nat} {d:Dv} (h:ds[i]? = some d):AM d<=A8 ds:=by
 induction ds generalizing i with
 | nil=>simp at h
 | cons e es ih =>
  unfold A8
  cases i with
  | zero=>simp at h;subst h;omega
  | succ i=>have:=ih (i:=i) (by simpa using h);omega
theorem Dk:∀ (ds es:List Dv),ds.length=es.length->Ak ds es=(List.range ds.length).all fun i=>match ds[i]?,es[i]? with | some d,some e=>eqD d e | _,_=>false
 | [],[],_=>by unfold Ak;rfl
 | d::ds,e::es,h=>by
  unfold Ak
  rw [List.length_cons,List.range_succ_eq_map,List.all_cons,List.all_map,Dk ds es (by simpa using h)]
  congr 1
 | [],e::es,h=>by simp at h
 | d::ds,[],h=>by simp at h
theorem C9:∀ (ds es:List Dv),ds.length≠es.length->Ak ds es=false
 | [],[],h=>absurd rfl h
 | [],_::_,_=>by unfold Ak;rfl
 | _::_,[],_=>by unfold Ak;rfl
 | d::ds,e::es,h=>by unfold Ak;rw [C9 ds es (fun z=>h (by simp [z])),Bool.and_false]
mutual
theorem Cq:∀ d:Dv,eqD d d=true
 | .non=>by unfold eqD;rfl
 | .bl b=>by unfold eqD;simp
 | .int i=>by unfold eqD;simp
 | .str x=>by unfold eqD;simp
 | .tup ds=>by unfold eqD;exact De ds
 | .lst ds=>by unfold eqD;exact De ds
theorem De:∀ ds:List Dv,Ak ds ds=true
 | []=>by unfold Ak;rfl
 | d::ds=>by unfold Ak;rw [Cq d,De ds];rfl
end
section
variable {X:Cx} {pins:List (Addr × Obj)} {σ:St} {H:Hp} {s:Shared}
theorem Ee {a:Addr} {xs ys:List V} (I:Inv X pins σ H s) (h:SqL X.K H a xs) (h':SqT X.K H a ys):False:=by
 obtain ⟨its,_,⟨o,n,e,c,_⟩,_⟩:=I.list h
 obtain ⟨its',_,⟨o',e',c',_⟩,_⟩:=I.tuple h'
 rw [e] at e';cases e'
 rw [c] at c'
 exact absurd c' (by decide)
mutual
theorem Dt (I:Inv X pins σ H s):∀ (d e:Dv) (x:V),Rep X.K H d x->Rep X.K H e x->d=e
 | .non,e,x,h,h'=>by
  unfold Rep at h;subst h
  cases e <;> unfold Rep at h' <;> first | rfl | (obtain ⟨a,xs,q,_⟩:=h';cases q;done) | (cases h';done)
 | .bl b,e,x,h,h'=>by
  unfold Rep at h;subst h
  cases e <;> unfold Rep at h' <;> first | (obtain ⟨a,xs,q,_⟩:=h';cases q;done) | (cases h';rfl) | (cases h';done)
 | .int b,e,x,h,h'=>by
  unfold Rep at h;subst h
  cases e <;> unfold Rep at h' <;> first | (obtain ⟨a,xs,q,_⟩:=h';cases q;done) | (cases h';rfl) | (cases h';done)
 | .str b,e,x,h,h'=>by
  unfold Rep at h;subst h
  cases e <;> unfold Rep at h' <;> first | (obtain ⟨a,xs,q,_⟩:=h';cases q;done) | (cases h';rfl) | (cases h';done)
 | .tup ds,e,x,h,h'=>by
  unfold Rep at h
  obtain ⟨a,xs,rfl,hs,hr⟩:=h
  cases e with
  | tup es =>
   unfold Rep at h'
   obtain ⟨b,ys,q,hs',hr'⟩:=h'
   cases q
   rw [I.tuple_inj hs' hs] at hr'
   rw [DQ I ds es xs hr hr']
  | lst es =>
   unfold Rep at h'
   obtain ⟨b,ys,q,hs',hr'⟩:=h'
   cases q
   exact (Ee I hs' hs).elim
  | _=>unfold Rep at h';cases h'
 | .lst ds,e,x,h,h'=>by
  unfold Rep at h
  obtain ⟨a,xs,rfl,hs,hr⟩:=h
  cases e with
  | lst es =>
   unfold Rep at h'
   obtain ⟨b,ys,q,hs',hr'⟩:=h'
   cases q
   rw [I.list_inj hs' hs] at hr'
   rw [DQ I ds es xs hr hr']
  | tup es =>
   unfold Rep at h'
   obtain ⟨b,ys,q,hs',hr'⟩:=h'
   cases q
   exact (Ee I hs hs').elim
  | _=>unfold Rep at h';cases h'
theorem DQ (I:Inv X pins σ H s):∀ (ds es:List Dv) (xs:List V),Reps X.K H ds xs->Reps X.K H es xs->ds=es
 | [],es,xs,h,h'=>by
  unfold Reps at h;subst h
  cases es with
  | nil=>rfl
  | cons e es=>unfold Reps at h';obtain ⟨x,r,q,_⟩:=h';cases q
 | d::ds,es,xs,h,h'=>by
  unfold Reps at h
  obtain ⟨x,r,rfl,h1,h2⟩:=h
  cases es with
  | nil=>unfold Reps at h';cases h'
  | cons e es =>
   unfold Reps at h'
   obtain ⟨y,r',q,h3,h4⟩:=h'
   cases q
   rw [Dt I d e _ h1 h3,DQ I ds es _ h2 h4]
end
abbrev Eq3 (A:Around) (s:Shared) (u v:Value) (b:Bool):Prop:=SeqAt.EqAt A s u v b/\SeqAt.RcAt A s u v b/\SeqAt.RcNeAt A s u v (!b)
theorem HG {A:Around} {a b:Addr} {xs ys:List V} {ds es:List Dv} (I:Inv X pins σ H s) (hu:A.units < cLine) (ha:SqT X.K H a xs) (hb:SqT X.K H b ys) (hd:Reps X.K H ds xs) (he:Reps X.K H es ys)
 (ih:∀ (i:Nat) (d e:Dv) (x y:V) (u v:Value),ds[i]? = some d->es[i]? = some e->xs[i]? = some x->ys[i]? = some y->RelV x u->RelV y v->SeqAt.EqAt A.in1 s u v (eqD d e)):Eq3 A s (.ref a) (.ref b) (eqD (.tup ds) (.tup es)):=by
 obtain ⟨its,r1,p1,_⟩:=I.tuple ha
 obtain ⟨its2,r2,p2,_⟩:=I.tuple hb
 have l1:=hd.length;have l2:=he.length;have l3:=r1.length;have l4:=r2.length
 have hitem:∀ j (h1:j < its.toArray.size) (h2:j < its2.toArray.size),SeqAt.EqAt A.in1 s its.toArray[j] its2.toArray[j] (match ds[j]?,es[j]? with | some d,some e=>eqD d e | _,_=>false):=fun j h1 h2=>by
  rw [List.size_toArray] at h1 h2
  have e1:ds[j]? = some ds[j]:=List.getElem?_eq_getElem (by omega)
  have e2:es[j]? = some es[j]:=List.getElem?_eq_getElem (by omega)
  have e3:xs[j]? = some xs[j]:=List.getElem?_eq_getElem (by omega)
  have e4:ys[j]? = some ys[j]:=List.getElem?_eq_getElem (by omega)
  obtain ⟨u,q1,q2⟩:=r1.get e3
  obtain ⟨v,q3,q4⟩:=r2.get e4
  rw [e1,e2]
  have z1:its.toArray[j]=u:=by rw [List.getElem_toArray];rw [List.getElem?_eq_getElem h1] at q1;exact Option.some.inj q1
  have z2:its2.toArray[j]=v:=by rw [List.getElem_toArray];rw [List.getElem?_eq_getElem h2] at q3;exact Option.some.inj q3
  rw [z1,z2]
  exact ih j _ _ _ _ _ _ e1 e2 e3 e4 q2 q4
 have val:((List.range (min its.toArray.size its2.toArray.size)).all (fun j=>match ds[j]?,es[j]? with | some d,some e=>eqD d e | _,_=>false) && its.toArray.size == its2.toArray.size)=eqD (.tup ds) (.tup es):=by
  rw [List.size_toArray,List.size_toArray,<- l3,<- l4,<- l1,<- l2,Jw]
  by_cases h:ds.length=es.length
  ·rw [h,Nat.min_self,<- h,Dk ds es h]
   simp
  ·rw [C9 ds es h]
   have:(ds.length == es.length)=false:=by simpa using h
   rw [this,Bool.and_false]
 have R:=SeqAt.RcAt.tuples (A:=A) p1 p2 hu hitem
 have N:=SeqAt.RcNeAt.tuples (A:=A) p1 p2 hu hitem
 rw [val] at R N
 refine ⟨?_,R,N⟩
 by_cases hab:a=b
 ·subst hab
  have e:ds=es:=by
   have:=Dt I (.tup ds) (.tup es) (.ref a) (by unfold Rep;exact ⟨a,xs,rfl,ha,hd⟩) (by unfold Rep;exact ⟨a,ys,rfl,hb,he⟩)
   cases this;rfl
  subst e
  rw [Cq]
  exact SeqAt.EqAt.same _
 ·exact .of_refs hab R
theorem Ju {A:Around} {a b:Addr} {xs ys:List V} {ds es:List Dv} (I:Inv X pins σ H s) (hu:A.units < cLine) (ha:SqL X.K H a xs) (hb:SqL X.K H b ys) (hd:Reps X.K H ds xs) (he:Reps X.K H es ys)
 (ih:∀ (i:Nat) (d e:Dv) (x y:V) (u v:Value),ds[i]? = some d->es[i]? = some e->xs[i]? = some x->ys[i]? = some y->RelV x u->RelV y v->SeqAt.EqAt A.in1 s u v (eqD d e)):Eq3 A s (.ref a) (.ref b) (eqD (.lst ds) (.lst es)):=by
 obtain ⟨its,r1,p1,_⟩:=I.list ha
 obtain ⟨its2,r2,p2,_⟩:=I.list hb
 have l1:=hd.length;have l2:=he.length;have l3:=r1.length;have l4:=r2.length
 have hitem:∀ j (h1:j < its.toArray.size) (h2:j < its2.toArray.size),SeqAt.EqAt A.in1 s its.toArray[j] its2.toArray[j] (match ds[j]?,es[j]? with | some d,some e=>eqD d e | _,_=>false):=fun j h1 h2=>by
  rw [List.size_toArray] at h1 h2
  have e1:ds[j]? = some ds[j]:=List.getElem?_eq_getElem (by omega)
  have e2:es[j]? = some es[j]:=List.getElem?_eq_getElem (by omega)
  have e3:xs[j]? = some xs[j]:=List.getElem?_eq_getElem (by omega)
  have e4:ys[j]? = some ys[j]:=List.getElem?_eq_getElem (by omega)
  obtain ⟨u,q1,q2⟩:=r1.get e3
  obtain ⟨v,q3,q4⟩:=r2.get e4
  rw [e1,e2]
  have z1:its.toArray[j]=u:=by rw [List.getElem_toArray];rw [List.getElem?_eq_getElem h1] at q1;exact Option.some.inj q1
  have z2:its2.toArray[j]=v:=by rw [List.getElem_toArray];rw [List.getElem?_eq_getElem h2] at q3;exact Option.some.inj q3
  rw [z1,z2]
  exact ih j _ _ _ _ _ _ e1 e2 e3 e4 q2 q4
 have RN:SeqAt.RcAt A s (.ref a) (.ref b) (eqD (.lst ds) (.lst es))/\SeqAt.RcNeAt A s (.ref a) (.ref b) (!eqD (.lst ds) (.lst es)):=by
  by_cases h:ds.length=es.length
  ·have hsz:its.toArray.size=its2.toArray.size:=by rw [List.size_toArray,List.size_toArray];omega
   have val:(List.range its.toArray.size).all (fun j=>match ds[j]?,es[j]? with | some d,some e=>eqD d e | _,_=>false)=eqD (.lst ds) (.lst es):=by
    rw [FX,List.size_toArray,<- l3,<- l1,Dk ds es h]
   have R:=SeqAt.RcAt.lists (A:=A) p1.isList p2.isList hsz hu hitem
   have N:=SeqAt.RcNeAt.lists (A:=A) p1.isList p2.isList hsz hu hitem
   rw [val] at R N
   exact ⟨R,N⟩
  ·have hsz:(its.toArray.size != its2.toArray.size)=true:=by rw [List.size_toArray,List.size_toArray];simp;omega
   have val:eqD (.lst ds) (.lst es)=false:=by rw [FX];exact C9 ds es h
   rw [val]
   exact ⟨SeqAt.RcAt.lists_lengths p1.isList p2.isList hsz hu,SeqAt.RcNeAt.lists_lengths p1.isList p2.isList hsz hu⟩
 refine ⟨?_,RN.1,RN.2⟩
 by_cases hab:a=b
 ·subst hab
  have e:ds=es:=by
   have:=Dt I (.lst ds) (.lst es) (.ref a) (by unfold Rep;exact ⟨a,xs,rfl,ha,hd⟩) (by unfold Rep;exact ⟨a,ys,rfl,hb,he⟩)
   cases this;rfl
  subst e
  rw [Cq]
  exact SeqAt.EqAt.same _
 ·exact .of_refs hab RN.1
theorem EN (I:Inv X pins σ H s):∀ (n:Nat) (A:Around) (d e:Dv) (x y:V) (u v:Value),AM d<=n->A.units+n < cLine->Rep X.K H d x->Rep X.K H e y->RelV x u->RelV y v->Eq3 A s u v (eqD d e):=by
 intro n
 induction n with
 | zero =>
  intro A d e x y u v hd hu hx hy ru rv
  have hu':A.units < cLine:=by omega
  cases d with
  | tup ds=>unfold AM at hd;omega
  | lst ds=>unfold AM at hd;omega
  | non =>
   unfold Rep at hx;subst hx;cases ru
   cases e <;> unfold Rep at hy
   case non=>subst hy;cases rv;exact ⟨SeqAt.EqAt.same _,SeqAt.RcAt.none_none,SeqAt.RcNeAt.none_none⟩
   case bl=>subst hy;cases rv;exact ⟨.none_bool _,.none_bool _,.none_bool _⟩
   case int=>subst hy;obtain ⟨t,rfl⟩:=rv;exact ⟨.none_int _ _,.none_int _ _,.none_int _ _⟩
   case str=>subst hy;obtain ⟨t,rfl⟩:=rv;exact ⟨.none_str _ _,.none_str _ _,.none_str _ _⟩
   case tup=>obtain ⟨a,xs,rfl,ha,_⟩:=hy;cases rv;obtain ⟨its,_,p,_⟩:=I.tuple ha;exact ⟨.none_tuple p hu',.none_tuple p hu',.none_tuple p hu'⟩
   case lst=>obtain ⟨a,xs,rfl,ha,_⟩:=hy;cases rv;obtain ⟨its,_,p,_⟩:=I.list ha;exact ⟨.none_list p.isList hu',.none_list p.isList hu',.none_list p.isList hu'⟩
  | bl c =>
   unfold Rep at hx;subst hx;cases ru
   cases e <;> unfold Rep at hy
   case non=>subst hy;cases rv;exact ⟨.bool_none _,.bool_none _,.bool_none _⟩
   case bl=>subst hy;cases rv;unfold eqD;exact ⟨.bool_bool _ _,.bool_bool _ _,.bool_bool _ _⟩
   case int=>subst hy;obtain ⟨t,rfl⟩:=rv;unfold eqD;exact ⟨.bool_int _ _ _,.bool_int _ _ _,.bool_int _ _ _⟩
   case str=>subst hy;obtain ⟨t,rfl⟩:=rv;exact ⟨.bool_str _ _ _,.bool_str _ _ _,.bool_str _ _ _⟩
   case tup=>obtain ⟨a,xs,rfl,ha,_⟩:=hy;cases rv;obtain ⟨its,_,p,_⟩:=I.tuple ha;exact ⟨.bool_tuple _ p hu',.bool_tuple _ p hu',.bool_tuple _ p hu'⟩
   case lst=>obtain ⟨a,xs,rfl,ha,_⟩:=hy;cases rv;obtain ⟨its,_,p,_⟩:=I.list ha;exact ⟨.bool_list _ p.isList hu',.bool_list _ p.isList hu',.bool_list _ p.isList hu'⟩
  | int c =>
   unfold Rep at hx;subst hx;obtain ⟨t0,rfl⟩:=ru
   cases e <;> unfold Rep at hy
   case non=>subst hy;cases rv;exact ⟨.int_none _ _,.int_none _ _,.int_none _ _⟩
   case bl=>subst hy;cases rv;unfold eqD;exact ⟨.int_bool _ _ _,.int_bool _ _ _,.int_bool _ _ _⟩
   case int=>subst hy;obtain ⟨t,rfl⟩:=rv;unfold eqD;exact ⟨.int_int _ _ _ _,.int_int _ _ _ _,.int_int _ _ _ _⟩
   case str=>subst hy;obtain ⟨t,rfl⟩:=rv;exact ⟨.int_str _ _ _ _,.int_str _ _ _ _,.int_str _ _ _ _⟩
   case tup=>obtain ⟨a,xs,rfl,ha,_⟩:=hy;cases rv;obtain ⟨its,_,p,_⟩:=I.tuple ha;exact ⟨.int_tuple _ _ p hu',.int_tuple _ _ p hu',.int_tuple _ _ p hu'⟩
   case lst=>obtain ⟨a,xs,rfl,ha,_⟩:=hy;cases rv;obtain ⟨its,_,p,_⟩:=I.list ha;exact ⟨.int_list _ _ p.isList hu',.int_list _ _ p.isList hu',.int_list _ _ p.isList hu'⟩
  | str c =>
   unfold Rep at hx;subst hx;obtain ⟨t0,rfl⟩:=ru
   cases e <;> unfold Rep at hy
   case non=>subst hy;cases rv;exact ⟨.str_none _ _,.str_none _ _,.str_none _ _⟩
   case bl=>subst hy;cases rv;exact ⟨.str_bool _ _ _,.str_bool _ _ _,.str_bool _ _ _⟩
   case int=>subst hy;obtain ⟨t,rfl⟩:=rv;exact ⟨.str_int _ _ _ _,.str_int _ _ _ _,.str_int _ _ _ _⟩
   case str=>subst hy;obtain ⟨t,rfl⟩:=rv;unfold eqD;exact ⟨.str_str _ _ _ _,.str_str _ _ _ _,.str_str _ _ _ _⟩
   case tup=>obtain ⟨a,xs,rfl,ha,_⟩:=hy;cases rv;obtain ⟨its,_,p,_⟩:=I.tuple ha;exact ⟨.str_tuple _ _ p hu',.str_tuple _ _ p hu',.str_tuple _ _ p hu'⟩
   case lst=>obtain ⟨a,xs,rfl,ha,_⟩:=hy;cases rv;obtain ⟨its,_,p,_⟩:=I.list ha;exact ⟨.str_list _ _ p.isList hu',.str_list _ _ p.isList hu',.str_list _ _ p.isList hu'⟩
 | succ n ih =>
  intro A d e x y u v hd hu hx hy ru rv
  have hu':A.units < cLine:=by omega
  have hin:A.in1.units+n < cLine:=by show A.units+1+n < cLine;omega
  cases d with
  | tup ds =>
   unfold AM at hd
   unfold Rep at hx
   obtain ⟨a,xs,rfl,ha,hr⟩:=hx
   cases ru
   cases e <;> unfold Rep at hy
   case tup es =>
    obtain ⟨b,ys,rfl,hb,hr'⟩:=hy
    cases rv
    refine HG I hu' ha hb hr hr' fun i d e x y u v e1 e2 e3 e4 ru rv=>?_
    obtain ⟨x',q1,q2⟩:=hr.get e1
    obtain ⟨y',q3,q4⟩:=hr'.get e2
    rw [e3] at q1;cases q1
    rw [e4] at q3;cases q3
    exact (ih A.in1 d e x y u v (by have:=FD e1;omega) hin q2 q4 ru rv).1
   case non=>subst hy;cases rv;obtain ⟨its,_,p,_⟩:=I.tuple ha;exact ⟨.tuple_none p hu',.tuple_none p hu',.tuple_none p hu'⟩
   case bl=>subst hy;cases rv;obtain ⟨its,_,p,_⟩:=I.tuple ha;exact ⟨.tuple_bool _ p hu',.tuple_bool _ p hu',.tuple_bool _ p hu'⟩
   case int=>subst hy;obtain ⟨t,rfl⟩:=rv;obtain ⟨its,_,p,_⟩:=I.tuple ha;exact ⟨.tuple_int _ _ p hu',.tuple_int _ _ p hu',.tuple_int _ _ p hu'⟩
   case str=>subst hy;obtain ⟨t,rfl⟩:=rv;obtain ⟨its,_,p,_⟩:=I.tuple ha;exact ⟨.tuple_str _ _ p hu',.tuple_str _ _ p hu',.tuple_str _ _ p hu'⟩
   case lst=>obtain ⟨b,ys,rfl,hb,_⟩:=hy;cases rv;obtain ⟨its,_,p,_⟩:=I.tuple ha;obtain ⟨its2,_,p2,_⟩:=I.list hb;exact ⟨.tuple_list p p2.isList hu',.tuple_list p p2.isList hu',.tuple_list p p2.isList hu'⟩
  | lst ds =>
   unfold AM at hd
   unfold Rep at hx
   obtain ⟨a,xs,rfl,ha,hr⟩:=hx
   cases ru
   cases e <;> unfold Rep at hy
   case lst es =>
    obtain ⟨b,ys,rfl,hb,hr'⟩:=hy
    cases rv
    refine Ju I hu' ha hb hr hr' fun i d e x y u v e1 e2 e3 e4 ru rv=>?_
    obtain ⟨x',q1,q2⟩:=hr.get e1
    obtain ⟨y',q3,q4⟩:=hr'.get e2
    rw [e3] at q1;cases q1
    rw [e4] at q3;cases q3
    exact (ih A.in1 d e x y u v (by have:=FD e1;omega) hin q2 q4 ru rv).1
   case non=>subst hy;cases rv;obtain ⟨its,_,p,_⟩:=I.list ha;exact ⟨.list_none p.isList hu',.list_none p.isList hu',.list_none p.isList hu'⟩
   case bl=>subst hy;cases rv;obtain ⟨its,_,p,_⟩:=I.list ha;exact ⟨.list_bool _ p.isList hu',.list_bool _ p.isList hu',.list_bool _ p.isList hu'⟩
   case int=>subst hy;obtain ⟨t,rfl⟩:=rv;obtain ⟨its,_,p,_⟩:=I.list ha;exact ⟨.list_int _ _ p.isList hu',.list_int _ _ p.isList hu',.list_int _ _ p.isList hu'⟩
   case str=>subst hy;obtain ⟨t,rfl⟩:=rv;obtain ⟨its,_,p,_⟩:=I.list ha;exact ⟨.list_str _ _ p.isList hu',.list_str _ _ p.isList hu',.list_str _ _ p.isList hu'⟩
   case tup=>obtain ⟨b,ys,rfl,hb,_⟩:=hy;cases rv;obtain ⟨its,_,p,_⟩:=I.list ha;obtain ⟨its2,_,p2,_⟩:=I.tuple hb;exact ⟨.list_tuple p.isList p2 hu',.list_tuple p.isList p2 hu',.list_tuple p.isList p2 hu'⟩
  | non=>exact ih A .non e x y u v (by unfold AM;omega) (by omega) hx hy ru rv
  | bl c=>exact ih A (.bl c) e x y u v (by unfold AM;omega) (by omega) hx hy ru rv
  | int c=>exact ih A (.int c) e x y u v (by unfold AM;omega) (by omega) hx hy ru rv
  | str c=>exact ih A (.str c) e x y u v (by unfold AM;omega) (by omega) hx hy ru rv
end
section
variable {X:Cx}
def mEq (neg:Bool) (K:PySem.W.Frag):R2:=fun x y H Q=>match x,y with
 | .non,.non=>Q (.bl (neg ^^ true)) H
 | .bl a,.bl b=>Q (.bl (neg ^^ (a == b))) H
 | .int a,.int b=>Q (.bl (neg ^^ (a == b))) H
 | .str a,.str b=>Q (.bl (neg ^^ (a == b))) H
 | x,y=>∃ d e,Rep K H d x/\Rep K H e y/\AM d<=60/\Q (.bl (neg ^^ eqD d e)) H
theorem G4 (hu:X.A.units+60 < cLine):OpR X (compareOp .Eq) (fun x y H Q=>∃ d e,Rep X.K H d x/\Rep X.K H e y/\AM d<=60/\Q (.bl (eqD d e)) H):=by
 intro pins s σ H x y v u Q I rx ry h
 obtain ⟨d,e,h1,h2,h3,q⟩:=h
 exact (EN I 60 X.A d e x y v u h3 hu h1 h2 rx ry).2.1 X.prog X.w _ _ ⟨.bl _,H,I,rfl,q⟩
theorem Fl (hu:X.A.units+60 < cLine):OpR X (compareOp .NotEq) (fun x y H Q=>∃ d e,Rep X.K H d x/\Rep X.K H e y/\AM d<=60/\Q (.bl (!eqD d e)) H):=by
 intro pins s σ H x y v u Q I rx ry h
 obtain ⟨d,e,h1,h2,h3,q⟩:=h
 exact (EN I 60 X.A d e x y v u h3 hu h1 h2 rx ry).2.2 X.prog X.w _ _ ⟨.bl _,H,I,rfl,q⟩
theorem FZ {neg:Bool} {K:PySem.W.Frag} {x y:V} {H:Hp} {Q:VK} (h:mEq neg K x y H Q):∃ d e,Rep K H d x/\Rep K H e y/\AM d<=60/\Q (.bl (neg ^^ eqD d e)) H:=by
 unfold mEq at h
 split at h
 ·exact ⟨.non,.non,by unfold Rep;rfl,by unfold Rep;rfl,by unfold AM;omega,by unfold eqD;exact h⟩
 ·rename_i a b;exact ⟨.bl a,.bl b,by unfold Rep;rfl,by unfold Rep;rfl,by unfold AM;omega,by unfold eqD;exact h⟩
 ·rename_i a b;exact ⟨.int a,.int b,by unfold Rep;rfl,by unfold Rep;rfl,by unfold AM;omega,by unfold eqD;exact h⟩
 ·rename_i a b;exact ⟨.str a,.str b,by unfold Rep;rfl,by unfold Rep;rfl,by unfold AM;omega,by unfold eqD;exact h⟩
 ·exact h
theorem J7 (hu:X.A.units+60 < cLine):OpR X (compareOp .Eq) (mEq false X.K):=(G4 hu).imp fun x y H Q h=>by
 obtain ⟨d,e,h1,h2,h3,q⟩:=FZ h
 exact ⟨d,e,h1,h2,h3,by rw [Bool.false_xor] at q;exact q⟩
theorem Jj (hu:X.A.units+60 < cLine):OpR X (compareOp .NotEq) (mEq true X.K):=(Fl hu).imp fun x y H Q h=>by
 obtain ⟨d,e,h1,h2,h3,q⟩:=FZ h
 exact ⟨d,e,h1,h2,h3,by rw [Bool.true_xor] at q;exact q⟩
end
section
variable {X:Cx} {a b c e:Expr} {es:List Expr} {ta tb tc te:TE} {tA tB':TT} {t:TA} {pos p:Pos} {x:Str}
def isB (v:V) (Q:Bool->Prop):Prop:=match v with
 | .bl c=>Q c
 | _=>False
theorem Cv {v:V} {Q:Bool->Prop} (h:isB v Q):∃ c,v=.bl c/\Q c:=by
 cases v <;> first | exact False.elim h | exact ⟨_,rfl,h⟩
def AW (t:TE):Prop:=∀ σ H (Q Q':VK),(∀ v H,Q v H->Q' v H)->t σ H Q->t σ H Q'
def uB (t:TE):TT:=fun σ H Q=>t σ H fun x H1=>isB x fun c=>Q c H1
theorem AU {op:CmpOp} {r:R2} (ho:OpR X (compareOp op) r) (ha:PE X a ta) (hb:PE X b tb) (hm:behindInMarks op b=false:=by first | exact DW _ (by decide) (by decide) | rfl):PT X (.Compare a [op] [b] pos) (uB (tOp r ta tb)):=by
 intro pins s σ H Q I h
 refine wpAny_isTrue_Compare1 (thn (ha pins s σ H _ I h) fun v s1 ⟨x,H1,I1,r1,q1⟩=>thn (hb pins s1 σ H1 _ I1 q1) fun u s2 ⟨y,H2,I2,r2,q2⟩ =>
  thn (ho pins s2 σ H2 x y v u _ I2 r1 r2 q2) fun c s3 ⟨z,H3,I3,r3,q⟩=>?_) hm
 obtain ⟨k,e,q3⟩:=Cv q
 subst e
 cases r3
 exact wpAny_truthy_bool ⟨H3,I3,q3⟩
theorem D9 {op:CmpOp} {r:R2} (ho:OpR X (compareOp op) r) (ha:PE X a ta) (hb:PE X b tb) (hm:behindInMarks op b=false:=by first | exact DW _ (by decide) (by decide) | rfl):PE X (.Compare a [op] [b] pos) (tOp r ta tb):=G6 ho ha hb hm
theorem FK (h:PE X e te) (he:∀ whole,isTrue e X.env whole=(do let v <- whole;standAt e.pos;holding [v] (truthy v)):=by intro _;rfl):PT X e (uB te):=by
 intro pins s σ H Q I hq
 refine isTrue_plain (thn (h pins s σ H _ I hq) fun v s1 ⟨x,H1,I1,r1,q1⟩=>?_) (he _)
 obtain ⟨k,e,q⟩:=Cv q1
 subst e
 cases r1
 exact wpAny_truthy_bool ⟨H1,I1,q⟩
def vOr (ta tb:TE):TE:=fun σ H Q=>ta σ H fun x H1=>isB x fun c=>if c=true then Q (.bl true) H1 else tb σ H1 Q
theorem JU (ha:PE X a ta) (hb:PE X (.BoolOp .Or (b::es) pos) tb):PE X (.BoolOp .Or (a::b::es) pos) (vOr ta tb):=by
 have ha':PE X a (fun σ H Q=>ta σ H fun x H1=>isB x fun c=>Q (.bl c) H1):=fun pins s σ H Q I h=>thn (ha pins s σ H _ I h) fun v s1 ⟨x,H1,I1,r1,q1⟩=>by
  obtain ⟨c,e,q⟩:=Cv q1
  subst e
  exact ⟨.bl c,H1,I1,r1,q⟩
 have h:=JT (pos:=pos) ha' hb
 exact h.imp fun σ H Q q=>by
  show ta σ H fun x H1=>isB x fun c=>∃ c',V.bl c=.bl c'/\if c'=true then Q (.bl true) H1 else tb σ H1 Q
  have e:(fun (x:V) (H1:Hp)=>isB x fun c=>∃ c',V.bl c=.bl c'/\if c'=true then Q (.bl true) H1 else tb σ H1 Q)=fun x H1=>isB x fun c=>if c=true then Q (.bl true) H1 else tb σ H1 Q:=by
   funext x H1
   cases x <;> first | rfl | (apply propext;constructor;(rintro ⟨c',e,h⟩;cases e;exact h);(intro h;exact ⟨_,rfl,h⟩))
  rw [e]
  exact q
def SqA (K:PySem.W.Frag) (H:Hp) (p:Addr) (xs:List V):Prop:=SqL K H p xs\/SqT K H p xs
def mIx (K:PySem.W.Frag):R2:=fun x y H Q=>match x,y with
 | .ref p,.int i=>∃ xs v,SqA K H p xs/\atI xs i=some v/\Q v H
 | .str z,.int i=>∃ c,z.length<=sizeLine/\atI z.cps.toList i=some c/\Q (.str ⟨#[c]⟩) H
 | _,_=>False
theorem IxR.imp {r r':R2} (h:IxR X r) (g:∀ x y H Q,r' x y H Q->r x y H Q):IxR X r':=fun a b pins s σ H x y v u Q I rx ry q z=>h a b pins s σ H x y v u Q I rx ry (g _ _ _ _ q) z
theorem Gm:IxR X (mIx X.K):=ix_seq.imp fun x y H Q q=>by
 cases x <;> cases y <;> first
  | exact False.elim q
  | (obtain ⟨xs,v,h | h,e,q⟩:=q
     ·exact .inl ⟨_,xs,_,v,rfl,rfl,h,e,q⟩
     ·exact .inr (.inl ⟨_,xs,_,v,rfl,rfl,h,e,q⟩))
  | (obtain ⟨c,hz,e,q⟩:=q
     exact .inr (.inr ⟨_,_,c,rfl,rfl,hz,e,q⟩))
theorem GR (ha:PE X a ta) (hb:PE X b tb) (hs:DL b:=by intro _ _;rfl):PE X (.Subscript a b pos) (tOp (mIx X.K) ta tb):=Go Gm ha hb hs
def Cm (K:PySem.W.Frag):List V->Hp->VK->Prop:=fun xs H Q=>match xs with
 | [x]=>∃ n,EU K x H n/\Q (.int n) H
 | _=>False
theorem Hh:CallR X (.builtin "len") (Cm X.K):=call_len.imp fun xs H Q q=>by
 match xs,q with
 | [x],⟨n,h,q⟩=>exact ⟨x,n,rfl,h,q⟩
def Db:List V->Hp->VK->Prop:=fun xs H Q=>match xs with
 | [.int i,.int j]=>Q (.int (max i j)) H
 | _=>False
theorem GV (hc:X.calm=true):CallR X (.builtin "max") Db:=(Ha hc).imp fun xs H Q q=>by
 match xs,q with
 | [.int i,.int j],q =>
  refine ⟨i,j,rfl,?_⟩
  have e:(if j > i then j else i)=max i j:=by split <;> omega
  rw [e]
  exact q
def CV (K:PySem.W.Frag):List V->Hp->VK->Prop:=fun xs H Q=>match xs with
 | [.ref p]=>∃ ys,(SqL K H p ys/\∀ l,H l=none->Q (.ref l) (upd H l (.tup ys)))\/(SqT K H p ys/\Q (.ref p) H)
 | _=>False
theorem Jx:CallR X (.type "tuple") (CV X.K):=call_tuple_of.imp fun xs H Q q=>by
 match xs,q with
 | [.ref p],⟨ys,q⟩=>exact ⟨p,ys,rfl,q⟩
def Ek (K:PySem.W.Frag) (T:String) (x:V) (H:Hp) (b:Bool):Prop:=match x with
 | .non=>b=(T == "NoneType")
 | .bl _=>b=(T == "bool" || T == "int")
 | .int _=>b=(T == "int")
 | .str _=>b=(T == "str")
 | .ref a=>(∃ xs,(H a=some (.lst xs)\/∃ o,H a=some (.frz o (.lst xs)))/\b=(T == "list"))\/(∃ xs,H a=some (.tup xs)/\b=(T == "tuple"))\/((∃ kvs,H a=some (.dK kvs))/\b=(T == "dict"))\/((∃ kvs,H a=some (.dT kvs))/\b=(T == "dict"))
 | _=>False
def kinds:List String:=["int","bool","str","tuple","list","dict"]
theorem Gi (K:PySem.W.Frag):∀ T∈kinds,PySem.W.kitOne K (.type "NoneType") (.type T)=some (T == "NoneType")/\PySem.W.kitOne K (.type "bool") (.type T)=some (T == "bool" || T == "int") /\
 PySem.W.kitOne K (.type "int") (.type T)=some (T == "int")/\PySem.W.kitOne K (.type "str") (.type T)=some (T == "str")/\PySem.W.kitOne K (.type "list") (.type T)=some (T == "list") /\
 PySem.W.kitOne K (.type "tuple") (.type T)=some (T == "tuple")/\PySem.W.kitOne K (.type "dict") (.type T)=some (T == "dict"):=by
 intro T h
 unfold kinds at h
 rcases List.mem_cons.mp h with rfl | h
 ·exact ⟨rfl,rfl,rfl,rfl,rfl,rfl,rfl⟩
 rcases List.mem_cons.mp h with rfl | h
 ·exact ⟨rfl,rfl,rfl,rfl,rfl,rfl,rfl⟩
 rcases List.mem_cons.mp h with rfl | h
 ·exact ⟨rfl,rfl,rfl,rfl,rfl,rfl,rfl⟩
 rcases List.mem_cons.mp h with rfl | h
 ·exact ⟨rfl,rfl,rfl,rfl,rfl,rfl,rfl⟩
 rcases List.mem_cons.mp h with rfl | h
 ·exact ⟨rfl,rfl,rfl,rfl,rfl,rfl,rfl⟩
 rcases List.mem_cons.mp h with rfl | h
 ·exact ⟨rfl,rfl,rfl,rfl,rfl,rfl,rfl⟩
 ·exact absurd h (by simp)
theorem GS {K:PySem.W.Frag} {T:String} {v:V} {H:Hp} {k:Bool} (hT:T∈kinds) (h:Ek K T v H k):∃ ty,TyOf K H v ty/\PySem.W.kitOne K ty (.type T)=some k:=by
 obtain ⟨k1,k2,k3,k4,k5,k6,k7⟩:=Gi K T hT
 cases v with
 | non=>cases (show k=_ from h);exact ⟨_,.non,k1⟩
 | bl _=>cases (show k=_ from h);exact ⟨_,.bl _,k2⟩
 | int _=>cases (show k=_ from h);exact ⟨_,.int _,k3⟩
 | str _=>cases (show k=_ from h);exact ⟨_,.str _,k4⟩
 | ref q =>
  rcases h with ⟨xs,h | ⟨o,h⟩,e⟩ | ⟨xs,h,e⟩ | ⟨⟨kvs,h⟩,e⟩ | ⟨⟨kvs,h⟩,e⟩
  ·subst e;exact ⟨_,.lst h,k5⟩
  ·subst e;exact ⟨_,.frz h,k5⟩
  ·subst e;exact ⟨_,.tup h,k6⟩
  ·subst e;exact ⟨_,.dK h,k7⟩
  ·subst e;exact ⟨_,.dT h,k7⟩
 | _=>exact False.elim h
def CF (K:PySem.W.Frag):List V->Hp->VK->Prop:=fun xs H Q=>match xs with
 | [x,.ty T]=>T∈kinds/\∃ k,Ek K T x H k/\Q (.bl k) H
 | _=>False
theorem IY:CallR X (.builtin "isinstance") (CF X.K):=by
 intro pins s σ H xs us Q I r q
 match xs,q with
 | [x,.ty T],q =>
  obtain ⟨hT,k,h,q⟩:=q
  obtain ⟨u,w',rfl,ru,rw'⟩:=D1 r
  cases rw'
  obtain ⟨ty,h1,h2⟩:=GS hT h
  exact GJ I ru h1 h2 fun tk=>⟨.bl k,H,I.tok _,rfl,q⟩
end
def DD (scope sc:Scope):Bool :=
 decide (scope.kind=.function) && decide (scope.names.map (·.1)).Nodup && scope.names.all fun y=>!(y.2 == .free) || (sc.names.lookup y.1 == some .cell || sc.names.lookup y.1 == some .free)
theorem CompScope.of {scope sc:Scope} (h:DD scope sc=true):CompScope scope sc:=by
 unfold DD at h
 rw [Bool.and_eq_true,Bool.and_eq_true] at h
 obtain ⟨⟨h1,h2⟩,h3⟩:=h
 refine ⟨of_decide_eq_true h1,of_decide_eq_true h2,fun y hy hf=>?_⟩
 have:=List.all_eq_true.mp h3 y hy
 rw [hf] at this
 rcases (Bool.or_eq_true _ _).mp this with z | z
 ·exact absurd z (by decide)
 ·rcases (Bool.or_eq_true _ _).mp z with z | z
  ·exact .inl (by simpa using z)
  ·exact .inr (by simpa using z)
section
variable {X:Cx} {tg iter elt:Expr} {ifs:List Expr} {scope:Scope} {pos:Pos} {N':List Str} {own:Nat} {ix:List Nat} {g:TG} {tc:TT} {te:TE} {wi:TI}
theorem frB {l:List Str} (h:(l.all fun x=>scope.names.lookup x == some .free)=true):∀ x∈l,scope.names.lookup x=some .free:=fun x hx=>by
 have:=List.all_eq_true.mp h x hx
 simpa using this
theorem DH (hc:X.calm=true) (hi:PI X tg iter wi) (S:DD scope X.env.scope=true)
 (hlen:N'.length=own+ix.length) (hN:(N'.drop own).map some=ix.map (X.N[·]?)) (hfr:((N'.drop own).all fun x=>scope.names.lookup x == some .free)=true)
 (hg:∀ c,PG (X.comp scope N' c) tg g) (hgo:CZ own g) (ht:∀ c,PTs (X.comp scope N' c) ifs tc) (he:∀ c,PE (X.comp scope N' c) elt te)
 (hs:∀ x,foldedSetIterable iter X.env x=pure x:=by intro _;rfl):PE X (.ListComp elt [⟨tg,iter,ifs,0⟩] scope pos) (Dj wi own ix g tc te) :=
 IL hc hi (.of S) hlen hN (frB hfr) hg hgo ht he hs
def DZ (K:PySem.W.Frag) (tl:TE):TI:=fun σ H R=>tl σ H fun x H1=>match x with
 | .ref a=>((∃ xs,SqL K H1 a xs)/\R (Itl K a) H1)\/((∃ xs,SqT K H1 a xs)/\R (Itt K a) H1)
 | _=>False
theorem Gn {l:Expr} {tl:TE} (hl:PE X l tl):PI X tg l (DZ X.K tl):=by
 intro pins s σ H R I h
 refine thn (hl pins s σ H _ I h) fun v s1 ⟨x,H1,I1,r1,q1⟩=>?_
 cases x with
 | ref a =>
  cases r1
  rcases q1 with ⟨⟨xs,hq⟩,q⟩ | ⟨⟨xs,hq⟩,q⟩
  ·obtain ⟨its,rv,p,hz⟩:=I1.list hq
   refine wpAny_pyIter_list p.isList ?_
   refine ⟨s1.heap.objs.size,[s1.heap.objs.size],_,_,H1,rfl,I1.kept (t':=s1.toks) fun b o e=>Heap.get?_push_of_some _ e,GM a _,⟨_,Heap.get?_push_size _ rfl,rfl,rfl⟩,fun b hb=>?_,q⟩
   have e:b=s1.heap.objs.size:=by simpa using hb
   subst e
   exact I1.fpOk (Nat.le_refl _) (I1.hok.fresh (Nat.le_refl _))
  ·obtain ⟨its,rv,p,hz⟩:=I1.tuple hq
   refine wpAny_pyIter_tuple (show s1.heap.IsTuple a its.toArray from p) ?_
   refine ⟨s1.heap.objs.size,[s1.heap.objs.size],_,_,H1,rfl,I1.kept (t':=s1.toks) fun b o e=>Heap.get?_push_of_some _ e,Hb a _,⟨_,Heap.get?_push_size _ rfl,rfl,rfl⟩,fun b hb=>?_,q⟩
   have e:b=s1.heap.objs.size:=by simpa using hb
   subst e
   exact I1.fpOk (Nat.le_refl _) (I1.hok.fresh (Nat.le_refl _))
 | _=>exact False.elim q1
def Dr:Bs:=fun o i v H Q=>match o,i with
 | .ref p,.int k=>∃ xs j,H p=some (.lst xs)/\ixN xs.length k=some j/\Q (upd H p (.lst (xs.set j v)))
 | _,_=>False
theorem Ca:Cp X Dr:=by
 intro pins s σ H o i v ov iv u Q I ro ri rv h
 cases o <;> cases i <;> first
  | exact False.elim h
  | (obtain ⟨xs,j,h1,h2,q⟩:=h
     exact GO pins s σ H _ _ v ov iv u Q I ro ri rv ⟨_,xs,_,j,rfl,rfl,h1,h2,q⟩)
theorem IM {K:PySem.W.Frag} {a:Addr} {xs:List V} {σc:St} {Q:VK} {H:Hp} (Pv:Nat->List V->Hp->Prop) (h0:Pv 0 [] H) (hl:∀ i ys H,i<=xs.length->Pv i ys H->SqL K H a xs) (hz:∀ i ys H,i < xs.length->Pv i ys H->ys.length < sizeLine)
 (hs:∀ i x ys H,xs[i]? = some x->Pv i ys H->g x σc H fun σ2 H2=>tc σ2 H2 fun b H3=>if b=true then te σ2 H3 fun y H4=>Pv (i+1) (ys++[y]) H4 else Pv (i+1) ys H3)
 (hd:∀ ys H,Pv xs.length ys H->∀ p,H p=none->Q (.ref p) (upd H p (.lst ys))):Cf (Itl K a) g tc te σc Q H:=by
 refine ⟨fun i m ys H=>m=xs.length - i/\i<=xs.length/\Pv i ys H,⟨xs.length,by simp,Nat.zero_le _,h0⟩,?_⟩
 rintro i m ys H ⟨rfl,hi,p⟩
 have q:=hl i ys H hi p
 by_cases hlt:i < xs.length
 ·refine .inr ⟨⟨xs,xs[i],q,by simp [hlt]⟩,hz i ys H hlt p,Pv (i+1),fun ys' H' p'=>⟨xs.length - (i+1),by omega,rfl,hlt,p'⟩,fun x H' y=>?_⟩
  obtain ⟨e,y⟩:=y
  subst e
  exact hs i x ys _ (y xs q) p
 ·have e:i=xs.length:=by omega
  subst e
  exact .inl ⟨⟨xs,q,Nat.le_refl _⟩,hd ys H p⟩
theorem Du {lo:Int} {n:Nat} {σc:St} {Q:VK} {H:Hp} (Pv:Nat->List V->Hp->Prop) (h0:Pv 0 [] H) (hz:∀ i ys H,i < n->Pv i ys H->ys.length < sizeLine)
 (hs:∀ i ys H,i < n->Pv i ys H->g (.int (lo+i)) σc H fun σ2 H2=>tc σ2 H2 fun b H3=>if b=true then te σ2 H3 fun y H4=>Pv (i+1) (ys++[y]) H4 else Pv (i+1) ys H3)
 (hd:∀ ys H,Pv n ys H->∀ p,H p=none->Q (.ref p) (upd H p (.lst ys))):Cf (Itr lo n) g tc te σc Q H:=by
 refine ⟨fun i m ys H=>m=n - i/\i<=n/\Pv i ys H,⟨n,by simp,Nat.zero_le _,h0⟩,?_⟩
 rintro i m ys H ⟨rfl,hi,p⟩
 by_cases hlt:i < n
 ·refine .inr ⟨hlt,hz i ys H hlt p,Pv (i+1),fun ys' H' p'=>⟨n - (i+1),by omega,rfl,hlt,p'⟩,fun x H' y=>?_⟩
  obtain ⟨e,y⟩:=y
  subst e y
  exact hs i ys _ hlt p
 ·have e:i=n:=by omega
  subst e
  exact .inl ⟨Nat.le_refl _,hd ys H p⟩
end
theorem Al {A:Around} {k:Nat} (hr:Room k A):A.units+60 < cLine:=by have:=hr.un;omega
def Frm (t:Addr) (H H':Hp):Prop:=∀ b o,b≠t->H b=some o->H' b=some o
theorem Frm.refl {t:Addr} {H:Hp}:Frm t H H:=fun _ _ _ h=>h
theorem Frm.trans {t:Addr} {H H1 H2:Hp} (a:Frm t H H1) (b:Frm t H1 H2):Frm t H H2:=fun c o n h=>b c o n (a c o n h)
theorem Frm.upd {t p:Addr} {H:Hp} {o:HO} (h:H p=none):Frm t H (upd H p o):=fun b u _ e=>by rw [AF (BI e h)];exact e
theorem Frm.updT {t:Addr} {H:Hp} {o:HO}:Frm t H (L2.upd H t o):=fun b u n e=>by rw [AF n];exact e
theorem Same.upd {p:Addr} {H:Hp} {o:HO} (h:H p=none):Same H (L2.upd H p o):=fun b u e=>by rw [AF (BI e h)];exact e
theorem Same.frm {t:Addr} {H H':Hp} (h:Same H H'):Frm t H H':=fun b o _ e=>h b o e
theorem J9 {K:PySem.W.Frag} {H H':Hp} {a:Addr} {xs:List V} (h:SqL K H a xs) (k:∀ o,H a=some o->H' a=some o):SqL K H' a xs:=by
 rcases h with (h | ⟨o,h⟩) | h
 ·exact .inl (.inl (k _ h))
 ·exact .inl (.inr ⟨o,k _ h⟩)
 ·exact .inr h
theorem En {K:PySem.W.Frag} {H H':Hp} {a:Addr} {xs:List V} (h:SqT K H a xs) (k:∀ o,H a=some o->H' a=some o):SqT K H' a xs:=by
 rcases h with (h | ⟨o,h⟩) | h
 ·exact .inl (.inl (k _ h))
 ·exact .inl (.inr ⟨o,k _ h⟩)
 ·exact .inr h
def ScrAt (K:PySem.W.Frag) (H:Hp) (t a:Addr) (ns:List Int):Prop :=
 (Rd H a (.lst (ns.map V.int))/\a≠t)\/∃ (o:Obj) (its:Array Value) (n:Nat),K.lookup a=some o/\o.cls=.type "list" /\ o.dict=none/\o.data=.seq its n/\its.size<=sizeLine/\Vals (ns.map V.int) its.toList
theorem ScrAt.sq {K:PySem.W.Frag} {H:Hp} {t a:Addr} {ns:List Int} (h:ScrAt K H t a ns):SqL K H a (ns.map V.int):=by
 rcases h with ⟨h,_⟩ | h
 ·exact .inl h
 ·exact .inr h
theorem ScrAt.stay {K:PySem.W.Frag} {H H':Hp} {t a:Addr} {ns:List Int} (h:ScrAt K H t a ns) (k:∀ o,a≠t->H a=some o->H' a=some o):ScrAt K H' t a ns:=by
 rcases h with ⟨h | ⟨o,h⟩,n⟩ | h
 ·exact .inl ⟨.inl (k _ n h),n⟩
 ·exact .inl ⟨.inr ⟨o,k _ n h⟩,n⟩
 ·exact .inr h
theorem ScrAt.of {K:PySem.W.Frag} {H:Hp} {t a:Addr} {ns:List Int} (h:SqL K H a (ns.map V.int)) (ht:H t=none):ScrAt K H t a ns:=by
 rcases h with h | h
 ·refine .inl ⟨h,fun e=>?_⟩
  subst e
  rcases h with h | ⟨o,h⟩ <;> rw [ht] at h <;> cases h
 ·exact .inr h
structure Tape (K:PySem.W.Frag) (H:Hp) (t a:Addr) (ns:List Int):Prop where
 at_:∃ i r c:Int,0<=i/\0<=r/\H t=some (.lst [.ref a,.int i,.int r,.int c])
 scr:ScrAt K H t a ns
theorem Tape.same {K:PySem.W.Frag} {H H':Hp} {t a:Addr} {ns:List Int} (T:Tape K H t a ns) (h:Same H H'):Tape K H' t a ns:=by
 obtain ⟨i,r,c,h1,h2,h3⟩:=T.at_
 exact ⟨⟨i,r,c,h1,h2,h _ _ h3⟩,T.scr.stay fun o _ e=>h a o e⟩
theorem Tape.upd {K:PySem.W.Frag} {H:Hp} {t a p:Addr} {o:HO} {ns:List Int} (T:Tape K H t a ns) (h:H p=none):Tape K (L2.upd H p o) t a ns:=T.same (Same.upd h)
theorem Tape.neT {K:PySem.W.Frag} {H:Hp} {t a p:Addr} {ns:List Int} (T:Tape K H t a ns) (hp:H p=none):p≠t:=fun e=>by
 obtain ⟨i,r,c,_,_,h3⟩:=T.at_
 rw [e,h3] at hp;cases hp
def B5 (K:PySem.W.Frag):Sp:=fun vs H Q _=>match vs with
 | [.ref t,.int m]=>∃ a ns,Tape K H t a ns/\okDiv m/\∀ d H',0<=d->d < m->Tape K H' t a ns->(∀ b,b≠t->H' b=H b)->Q (.int d) H'
 | _=>False
def Co (K:PySem.W.Frag):Sp:=fun vs H Q _=>match vs with
 | [.ref a]=>∀ p,H p=none->Q (.ref p) (upd H p (.lst [.ref a,.int 0,.int 0,.int 0]))
 | _=>False
def CG (K:PySem.W.Frag):Sp:=fun vs H Q _=>∃ (a:Addr) (ns:List Int),vs=[.ref a]/\SqL K H a (ns.map V.int)/\ns.length<=63/\∀ H',Q (.bl true) H'
theorem BG {xs:List V} {i:Int} {n:Nat} {v:V} (h:i=(n:Int)) (hx:xs[n]? = some v):atI xs i=some v:=by
 subst h
 have hn:n < xs.length:=(List.getElem?_eq_some_iff.mp hx).1
 unfold atI ixN
 rw [if_pos (Int.natCast_nonneg n),if_pos (by omega)]
 simpa using hx
theorem E6 {ns:List Int} {i:Int} (h0:0<=i) (h1:i < ns.length):∃ z,atI (ns.map V.int) i=some (.int z):=by
 obtain ⟨n,rfl⟩:=Int.eq_ofNat_of_zero_le h0
 have hn:n < ns.length:=by omega
 exact ⟨ns[n],BG rfl (by rw [List.getElem?_map,List.getElem?_eq_getElem hn];rfl)⟩
theorem Jy {K:PySem.W.Frag} {H:Hp} {a p:Addr} {ns:List Int} (h:H p=none) (hs:SqL K H a (ns.map V.int)):Tape K (L2.upd H p (.lst [.ref a,.int 0,.int 0,.int 0])) p a ns :=
 ⟨⟨0,0,0,Int.le_refl _,Int.le_refl _,AB⟩,(ScrAt.of hs h).stay fun o n e=>by rw [AF n];exact e⟩
theorem B0 {t:Addr} {H H':Hp} (h:∀ b,b≠t->H' b=H b):Frm t H H':=fun b o n e=>by rw [h b n];exact e
theorem A9 {j:Int} (h1:0 < j) (h2:j<=2 ^ 1000):okDiv j:=⟨h1,Int.lt_of_le_of_lt h2 (by decide)⟩
theorem AT {n:Nat} (h:n<=1000):n<=sizeLine:=Nat.le_of_lt (Ck h)
def Ax (t:TT):Prop:=∀ σ H (Q Q':Bool->Hp->Prop),(∀ b H,Q b H->Q' b H)->t σ H Q->t σ H Q'
def BO (t:TA):Prop:=∀ σ H (Q Q':List V->Hp->Prop),(∀ b H,Q b H->Q' b H)->t σ H Q->t σ H Q'
def BE (r:R2):Prop:=∀ x y H (Q Q':VK),(∀ v H,Q v H->Q' v H)->r x y H Q->r x y H Q'
def B7 (r:List V->Hp->VK->Prop):Prop:=∀ xs H (Q Q':VK),(∀ v H,Q v H->Q' v H)->r xs H Q->r xs H Q'
def AS (sp:Sp):Prop:=∀ vs H (Q Q':VK) E,(∀ v H,Q v H->Q' v H)->sp vs H Q E->sp vs H Q' E
def E9 (t:TI):Prop:=∀ σ H (Q Q':It->Hp->Prop),(∀ J H,Q J H->Q' J H)->t σ H Q->t σ H Q'
def EB (t:Bs):Prop:=∀ o i v H (Q Q':Hp->Prop),(∀ H,Q H->Q' H)->t o i v H Q->t o i v H Q'
structure Ends.le (D D':Ends):Prop where
 nx:∀ σ H,D.nx σ H->D'.nx σ H
 rt:∀ v H,D.rt v H->D'.rt v H
 bk:∀ σ H,D.bk σ H->D'.bk σ H
 ct:∀ σ H,D.ct σ H->D'.ct σ H
def A1 (t:TS):Prop:=∀ D D' σ H,Ends.le D D'->t D σ H->t D' σ H
theorem Fn {i:Nat}:AW (B8 i):=fun σ H Q Q' h q=>by
 unfold B8 at *
 split at q
 ·exact h _ _ q
 ·exact q.elim
theorem JS {v:V}:AW (tC v):=fun _ _ _ _ h q=>h _ _ q
theorem Gy {r:R2} {ta tb:TE} (hr:BE r) (ha:AW ta) (hb:AW tb):AW (tOp r ta tb):=fun σ H Q Q' h q=>ha _ _ _ _ (fun _ _ q=>hb _ _ _ _ (fun _ _ q=>hr _ _ _ _ _ h q) q) q
theorem HS {K}:BE (CA K):=fun x y H Q Q' h q=>by
 unfold CA at *
 split at q
 ·exact h _ _ q
 ·exact ⟨q.1,h _ _ q.2⟩
 ·rcases q with ⟨l,b,xs,zs,e1,e2,h1,h2,h3,q⟩ | ⟨a,b,xs,ys,e1,e2,h1,h2,h3,h4,q1,q2⟩
  ·exact .inl ⟨l,b,xs,zs,e1,e2,h1,h2,h3,fun p hp=>h _ _ (q p hp)⟩
  ·exact .inr ⟨a,b,xs,ys,e1,e2,h1,h2,h3,h4,fun e=>h _ _ (q1 e),fun e p hp=>h _ _ (q2 e p hp)⟩
 ·exact q.elim
theorem JQ:BE DE:=fun x y H Q Q' h q=>by unfold DE at *;split at q <;> first | exact h _ _ q | exact q.elim
theorem J4:BE Cu:=fun x y H Q Q' h q=>by unfold Cu at *;split at q <;> first | exact ⟨q.1,h _ _ q.2⟩ | exact q.elim
theorem HL:BE DY:=fun x y H Q Q' h q=>by unfold DY at *;split at q <;> first | exact ⟨q.1,h _ _ q.2⟩ | exact q.elim
theorem Jf:BE DX:=fun x y H Q Q' h q=>by unfold DX at *;split at q <;> first | exact ⟨q.1,h _ _ q.2⟩ | exact q.elim
theorem Gs {p}:BE (CJ p):=fun x y H Q Q' h q=>by unfold CJ at *;split at q <;> first | exact h _ _ q | exact q.elim
theorem J6 {n K}:BE (mEq n K):=fun x y H Q Q' h q=>by
 unfold mEq at *
 split at q <;> first | exact h _ _ q | (obtain ⟨d,e,h1,h2,h3,q⟩:=q;exact ⟨d,e,h1,h2,h3,h _ _ q⟩)
theorem Iu {K}:BE (mIx K):=fun x y H Q Q' h q=>by
 unfold mIx at *
 split at q
 ·obtain ⟨xs,v,h1,h2,q⟩:=q;exact ⟨xs,v,h1,h2,h _ _ q⟩
 ·obtain ⟨c,h1,h2,q⟩:=q;exact ⟨c,h1,h2,h _ _ q⟩
 ·exact q.elim
theorem Fo {v:V} {Q Q':Bool->Prop} (h:∀ b,Q b->Q' b) (q:isB v Q):isB v Q':=by
 cases v <;> first | exact h _ q | exact q
theorem Iv {t:TE} (h:AW t):Ax (uB t):=fun σ H Q Q' k q=>h _ _ _ _ (fun _ _ q=>Fo (fun b q=>k b _ q) q) q
theorem Ga {t:TT} {ta tb:TE} (ht:Ax t) (ha:AW ta) (hb:AW tb):AW (tIf t ta tb):=fun σ H Q Q' h q=>ht _ _ _ _ (fun b _ q=>by
 cases b with
 | true=>exact ha _ _ _ _ h q
 | false=>exact hb _ _ _ _ h q) q
theorem GG {t u:TT} (ht:Ax t) (hu:Ax u):Ax (EO t u):=fun σ H Q Q' h q=>ht _ _ _ _ (fun b _ q=>by
 cases b with
 | true=>exact hu _ _ _ _ h q
 | false=>exact h _ _ q) q
theorem GH {t u:TT} (ht:Ax t) (hu:Ax u):Ax (tOr t u):=fun σ H Q Q' h q=>ht _ _ _ _ (fun b _ q=>by
 cases b with
 | true=>exact h _ _ q
 | false=>exact hu _ _ _ _ h q) q
theorem Hl {t:TT} (ht:Ax t):Ax (E4 t):=fun σ H Q Q' h q=>ht _ _ _ _ (fun b _ q=>h _ _ q) q
theorem KD:BO Ci:=fun _ _ _ _ h q=>h _ _ q
theorem Ja {ta:TE} {t:TA} (ha:AW ta) (ht:BO t):BO (DI ta t):=fun σ H Q Q' h q=>ha _ _ _ _ (fun _ _ q=>ht _ _ _ _ (fun _ _ q=>h _ _ q) q) q
theorem Hu {r} {t:TA} (hr:B7 r) (ht:BO t):AW (tCB r t):=fun σ H Q Q' h q=>ht _ _ _ _ (fun _ _ q=>hr _ _ _ _ h q) q
theorem Gg {sp dvs E} {t:TA} (hs:AS sp) (ht:BO t):AW (Dy sp dvs E t):=fun σ H Q Q' h q=>ht _ _ _ _ (fun _ _ q=>hs _ _ _ _ _ h q) q
theorem JL {t:TA} (ht:BO t):AW (FY t):=fun σ H Q Q' h q=>ht _ _ _ _ (fun _ _ q=>⟨q.1,fun p hp=>h _ _ (q.2 p hp)⟩) q
theorem GA {t:TA} (ht:BO t):AW (E2 t):=fun σ H Q Q' h q=>ht _ _ _ _ (fun _ _ q=>⟨q.1,fun p hp=>h _ _ (q.2 p hp)⟩) q
theorem GB {wi own ix g tc te} (hi:E9 wi):AW (Dj wi own ix g tc te):=fun σ H Q Q' h q=>hi _ _ _ _ (fun J H1 q=>by
 obtain ⟨W,w0,turn⟩:=q
 refine ⟨W,w0,fun i m ys H w=>?_⟩
 rcases turn i m ys H w with ⟨a,b⟩ | r
 ·exact .inl ⟨a,fun p hp=>h _ _ (b p hp)⟩
 ·exact .inr r) q
theorem Ge {K}:B7 (Cm K):=fun xs H Q Q' h q=>by unfold Cm at *;split at q <;> first | (obtain ⟨n,a,q⟩:=q;exact ⟨n,a,h _ _ q⟩) | exact q.elim
theorem Fz:B7 Db:=fun xs H Q Q' h q=>by unfold Db at *;split at q <;> first | exact h _ _ q | exact q.elim
theorem HV {K}:B7 (CV K):=fun xs H Q Q' h q=>by
 unfold CV at *
 split at q
 ·obtain ⟨ys,⟨a,q⟩ | ⟨a,q⟩⟩:=q
  ·exact ⟨ys,.inl ⟨a,fun l hl=>h _ _ (q l hl)⟩⟩
  ·exact ⟨ys,.inr ⟨a,h _ _ q⟩⟩
 ·exact q.elim
theorem JE {K}:B7 (CF K):=fun xs H Q Q' h q=>by
 unfold CF at *
 split at q
 ·obtain ⟨a,k,b,q⟩:=q;exact ⟨a,k,b,h _ _ q⟩
 ·exact q.elim
theorem IV {K} {tl:TE} (h:AW tl):E9 (DZ K tl):=fun σ H Q Q' k q=>h _ _ _ _ (fun v H1 q=>by
 cases v <;> first | exact q.elim | (rcases q with ⟨a,q⟩ | ⟨a,q⟩
                                     ·exact .inl ⟨a,k _ _ q⟩
                                     ·exact .inr ⟨a,k _ _ q⟩)) q
theorem Gz:EB Dr:=fun o i v H Q Q' h q=>by
 unfold Dr at *
 split at q
 ·obtain ⟨xs,j,a,b,q⟩:=q;exact ⟨xs,j,a,b,h _ q⟩
 ·exact q.elim
theorem JH {to ti:TE} {t:Bs} (h1:AW to) (h2:AW ti) (h3:EB t):Cy (D6 to ti t):=fun v σ H Q Q' h q=>h1 _ _ _ _ (fun _ _ q=>h2 _ _ _ _ (fun _ _ q=>h3 _ _ _ _ _ _ (fun H q=>h _ _ q) q) q) q
theorem J3:A1 BJ:=fun D D' σ H h q=>h.nx _ _ q
theorem Gr {t u:TS} (h1:A1 t) (h2:A1 u):A1 (Dq t u):=fun D D' σ H h q=>h1 { D with nx:=u D } { D' with nx:=u D' } σ H ⟨fun σ H q=>h2 D D' σ H h q,h.rt,h.bk,h.ct⟩ q
theorem Hk {te:TE} {g:TG} (h1:AW te) (h2:Cy g):A1 (DR te g):=fun D D' σ H h q=>h1 _ _ _ _ (fun _ _ q=>h2 _ _ _ _ _ h.nx q) q
theorem Gw {te:TE} (h1:AW te):A1 (FB te):=fun D D' σ H h q=>h1 _ _ _ _ h.rt q
theorem Hd {c:TT} {t u:TS} (hc:Ax c) (h1:A1 t) (h2:A1 u):A1 (Cz c t u):=fun D D' σ H h q=>hc _ _ _ _ (fun b _ q=>by
 cases b with
 | true=>exact h1 _ _ _ _ h q
 | false=>exact h2 _ _ _ _ h q) q
theorem BY {t u:TS} {D:Ends} {σ:St} {H:Hp} (J:St->Hp->Prop) (h1:t { D with nx:=J } σ H) (h2:∀ σ' H',J σ' H'->u D σ' H') (hm:A1 t):Dq t u D σ H :=
 hm { D with nx:=J } { D with nx:=u D } σ H ⟨h2,fun _ _ q=>q,fun _ _ q=>q,fun _ _ q=>q⟩ h1
theorem IG {K}:AS (B5 K):=fun vs H Q Q' E h q=>by
 unfold B5 at *
 split at q
 ·obtain ⟨a,ns,x,y,q⟩:=q;exact ⟨a,ns,x,y,fun d H' e1 e2 e3 e4=>h _ _ (q d H' e1 e2 e3 e4)⟩
 ·exact q.elim
section
variable {X:Cx} {K:PySem.W.Frag} {a b c e l tg:Expr} {es:List Expr} {ta tb tc te tl:TE} {pos p:Pos}
theorem Aa (hK:X.K=K:=by rfl):OpR X (binaryOp .Add) (CA K):=hK ▸ Ji
theorem kEq (hu:X.A.units+60 < cLine) (hK:X.K=K:=by rfl):OpR X (compareOp .Eq) (mEq false K):=hK ▸ J7 hu
theorem kNe (hu:X.A.units+60 < cLine) (hK:X.K=K:=by rfl):OpR X (compareOp .NotEq) (mEq true K):=hK ▸ Jj hu
theorem kIx (ha:PE X a ta) (hb:PE X b tb) (hs:DL b:=by intro _ _;rfl) (hK:X.K=K:=by rfl):PE X (.Subscript a b pos) (tOp (mIx K) ta tb):=hK ▸ GR ha hb hs
theorem CC (hK:X.K=K:=by rfl):CallR X (.builtin "len") (Cm K):=hK ▸ Hh
theorem Eu (hK:X.K=K:=by rfl):CallR X (.type "tuple") (CV K):=hK ▸ Jx
theorem Jo (hK:X.K=K:=by rfl):CallR X (.builtin "isinstance") (CF K):=hK ▸ IY
theorem Cd (hl:PE X l tl) (hK:X.K=K:=by rfl):PI X tg l (DZ K tl):=hK ▸ Gn hl
end
section
variable {X:Cx}
end
section
variable {X:Cx} {K:PySem.W.Frag} {o e:Expr} {es:List Expr} {to:TE} {t:TA} {apos cpos:Pos}
def E3 (K:PySem.W.Frag):V->List V->Hp->VK->Prop:=fun x vs H Q=>match x,vs with
 | .ref l,[y]=>∃ (xs:List V) (j:Nat) (z:V),SqL K H l xs/\Am y=true/\xs.all Am=true/\xs[j]? = some z/\eqV z y=true/\(∀ (m:Nat) (v:V),m < j->xs[m]? = some v->eqV v y=false)/\Q (.int j) H
 | _,_=>False
theorem Gd:MtR X "list.index" (E3 X.K):=by
 intro pins s σ H x vs v us Q I rx rv q
 match x,vs,q with
 | .ref l,[y],⟨xs,j,z,h1,h2,h3,h4,h5,h6,q⟩ =>
 cases rx
 obtain ⟨u,rfl,ru⟩:=rv.one
 obtain ⟨its,r,pl,hz⟩:=I.list h1
 obtain ⟨⟨cls,dd,data,sl⟩,n,ho,hc,hd,hs⟩:=id pl
 simp only at hc hs
 subst hc hs
 have hj:j < xs.length:=(List.getElem?_eq_some_iff.mp h4).1
 have hlen:=r.length
 have flat:∀ (m:Nat) (v:V),xs[m]? = some v->Am v=true:=fun m v e=>List.all_eq_true.mp h3 v (List.mem_of_getElem? e)
 have val:∀ (m:Nat) (hm:m < its.toArray.size) (v:V),xs[m]? = some v->eqU y its.toArray[m]=eqV v y:=fun m hm v e=>by
  obtain ⟨w',q1,q2⟩:=r.get e
  have e2:its.toArray[m]=w':=by
   rw [List.getElem_toArray]
   rw [List.getElem?_eq_getElem (by simpa using hm)] at q1
   exact Option.some.inj q1
  rw [e2]
  exact Da q2 (flat m v e)
 have line:=Bb
 refine call_meets F.slot_list_index ⟨_,ho,rfl⟩ F.entry_list_index (F.args_list_index_2 _ _) (SeqAt.list_indexAt l its.toArray n dd sl u (eqU y) j (by simp;omega) (by omega) ?_ ?_) ⟨ho,fun w hw=>Bu ru h2 r h3 w (by simpa using hw),?_⟩
 ·rw [val j (by simp;omega) z h4];exact h5
 ·intro m hm hmj
  have:m < xs.length:=by simp at hm;omega
  rw [val m hm _ (List.getElem?_eq_getElem this)]
  exact h6 m _ hmj (List.getElem?_eq_getElem this)
 ·exact ⟨.int _,H,I.tok _,⟨_,rfl⟩,q⟩
theorem G7 (ho:PE X o to) (ha:PA X [e] t) (hbase:attributeBase o "index" X.env (eval o X.env)=eval o X.env:=by rfl)
 (hfew:((backTo cpos (starEach [e] X.env)).all (fun x=>!x.1) && (backToKw cpos (keywordEach [] X.env)).all (fun x=>x.1.isSome)
   && decide ([e].length+([]:List Keyword).length+(if ([]:List Keyword).isEmpty then 0 else 1) < 30))=true:=by rfl)
 (hline:(apos.endLine == cpos.line)=true:=by rfl) (hs:starEach [e] X.env=(false,eval e X.env)::starEach [] X.env:=by rfl) (hplain:(backTo cpos (starEach [] X.env)).any (·.1)=false:=by rfl) (hK:X.K=K:=by rfl) :
 PE X (.Call (.Attribute o "index" apos) [e] [] cpos) (tBM K "list" (E3 K) to t):=hK ▸ CH PySem.F.plainAttrs_list PySem.F.slot_list_index PySem.F.type_list_index Gd ho ha hbase hfew hline hs hplain
end
section
variable {prog:Program} {w:World} {A:Around} {E:Value->Shared->Prop} {s:Shared}
end
section
variable {X:Cx} {K:PySem.W.Frag} {pos p2:Pos} {e:Expr} {lo hi:Option Expr} {te:TE} {tl th:TO}
end
theorem D8 {K:PySem.W.Frag} {H H':Hp} {a:Addr} {xs:List V} (h:SqT K H a xs) (s:Same H H'):SqT K H' a xs:=En h fun o e=>s a o e
mutual
theorem Rep.same {K:PySem.W.Frag} {H H':Hp} (s:Same H H'):∀ (d:Dv) (v:V),Rep K H d v->Rep K H' d v
 | .non,v,h=>by unfold Rep at *;exact h
 | .bl b,v,h=>by unfold Rep at *;exact h
 | .int i,v,h=>by unfold Rep at *;exact h
 | .str x,v,h=>by unfold Rep at *;exact h
 | .tup ds,v,h=>by
  unfold Rep at *
  obtain ⟨a,xs,e,h1,h2⟩:=h
  exact ⟨a,xs,e,D8 h1 s,Reps.same s ds xs h2⟩
 | .lst ds,v,h=>by
  unfold Rep at *
  obtain ⟨a,xs,e,h1,h2⟩:=h
  exact ⟨a,xs,e,J9 h1 fun o e=>s a o e,Reps.same s ds xs h2⟩
theorem Reps.same {K:PySem.W.Frag} {H H':Hp} (s:Same H H'):∀ (ds:List Dv) (xs:List V),Reps K H ds xs->Reps K H' ds xs
 | [],xs,h=>by unfold Reps at *;exact h
 | d::ds,xs,h=>by
  unfold Reps at *
  obtain ⟨x,r,e,h1,h2⟩:=h
  exact ⟨x,r,e,Rep.same s d x h1,Reps.same s ds r h2⟩
end
mutual
def BD:Dv->Bool
 | .tup ds=>Ay ds
 | .lst _=>false
 | _=>true
def Ay:List Dv->Bool
 | []=>true
 | d::ds=>BD d && Ay ds
end
mutual
theorem Rep.frm {K:PySem.W.Frag} {H H':Hp} {t:Addr} (s:Frm t H H') (ht:∃ zs,H t=some (.lst zs)):∀ (d:Dv) (v:V),BD d=true->Rep K H d v->Rep K H' d v
 | .non,v,_,h=>by unfold Rep at *;exact h
 | .bl b,v,_,h=>by unfold Rep at *;exact h
 | .int i,v,_,h=>by unfold Rep at *;exact h
 | .str x,v,_,h=>by unfold Rep at *;exact h
 | .tup ds,v,hd,h=>by
  unfold BD at hd
  unfold Rep at *
  obtain ⟨a,xs,e,h1,h2⟩:=h
  refine ⟨a,xs,e,?_,Reps.frm s ht ds xs hd h2⟩
  obtain ⟨zs,hz⟩:=ht
  rcases h1 with (h1 | ⟨o,h1⟩) | h1
  ·exact .inl (.inl (s a _ (fun q=>by rw [q,hz] at h1;cases h1) h1))
  ·exact .inl (.inr ⟨o,s a _ (fun q=>by rw [q,hz] at h1;cases h1) h1⟩)
  ·exact .inr h1
 | .lst ds,v,hd,h=>by unfold BD at hd;cases hd
theorem Reps.frm {K:PySem.W.Frag} {H H':Hp} {t:Addr} (s:Frm t H H') (ht:∃ zs,H t=some (.lst zs)):∀ (ds:List Dv) (xs:List V),Ay ds=true->Reps K H ds xs->Reps K H' ds xs
 | [],xs,_,h=>by unfold Reps at *;exact h
 | d::ds,xs,hd,h=>by
  unfold Ay at hd
  rw [Bool.and_eq_true] at hd
  unfold Reps at *
  obtain ⟨x,r,e,h1,h2⟩:=h
  exact ⟨x,r,e,Rep.frm s ht d x hd.1 h1,Reps.frm s ht ds r hd.2 h2⟩
end
theorem C5 {c:TT} {t u:TS} {D:Ends} {σ:St} {H:Hp} (b:Bool) (hc:∀ Q:Bool->Hp->Prop,Q b H->c σ H Q) (h:if b=true then t D σ H else u D σ H):Cz c t u D σ H:=hc _ h
theorem Tape.lst {K:PySem.W.Frag} {H:Hp} {t a:Addr} {ns:List Int} (T:Tape K H t a ns):∃ zs,H t=some (.lst zs):=by
 obtain ⟨i,r,c,_,_,h⟩:=T.at_
 exact ⟨_,h⟩
theorem A3 {K:PySem.W.Frag} {H:Hp} {p:Addr} {xs:List V} {ds:List Dv} (h:H p=some (.tup xs)) (r:Reps K H ds xs):Rep K H (.tup ds) (.ref p):=by unfold Rep;exact ⟨p,xs,rfl,.of h,r⟩
theorem Ar {K:PySem.W.Frag} {H:Hp}:Reps K H [] []:=by unfold Reps;rfl
theorem AN {K:PySem.W.Frag} {H:Hp} {d:Dv} {ds:List Dv} {x:V} {xs:List V} (h:Rep K H d x) (r:Reps K H ds xs):Reps K H (d::ds) (x::xs):=by unfold Reps;exact ⟨x,xs,rfl,h,r⟩
theorem A2 {K:PySem.W.Frag} {H:Hp} {x:Str}:Rep K H (.str x) (.str x):=by unfold Rep;rfl
theorem Dp {K:PySem.W.Frag} {H:Hp} {x:Int}:Rep K H (.int x) (.int x):=by unfold Rep;rfl
theorem Reps.append {K:PySem.W.Frag} {H:Hp}:∀ {ds es:List Dv} {xs ys:List V},Reps K H ds xs->Reps K H es ys->Reps K H (ds++es) (xs++ys)
 | [],es,xs,ys,h,h'=>by unfold Reps at h;subst h;exact h'
 | d::ds,es,xs,ys,h,h'=>by
  unfold Reps at h
  obtain ⟨x,r,rfl,h1,h2⟩:=h
  exact AN h1 (Reps.append h2 h')
section
variable {κ:Type} [DecidableEq κ]
def Af (kvs:List (κ × V)) (k:κ):Option V:=(kvs.find? fun kv=>decide (kv.1=k)).map (·.2)
def CS (kvs:List (κ × V)) (k:κ) (v:V):List (κ × V) :=
 if (kvs.any fun kv=>decide (kv.1=k))=true then kvs.map (fun kv=>if kv.1=k then (kv.1,v) else kv) else kvs++[(k,v)]
theorem JX {k:κ}:Af ([]:List (κ × V)) k=none:=rfl
theorem FP {p:κ × V} {r:List (κ × V)} {k:κ} (e:p.1=k):Af (p::r) k=some p.2:=by simp [Af,List.find?_cons,e]
theorem EW {p:κ × V} {r:List (κ × V)} {k:κ} (e:¬ p.1=k):Af (p::r) k=Af r k:=by simp [Af,List.find?_cons,e]
theorem RelO.getD {o:Option V} {u:Option Value} {d:V} {d':Value} (r:RelO o u) (rd:RelV d d'):RelV (o.getD d) (u.getD d'):=by
 cases o with
 | none=>cases u with
  | none=>exact rd
  | some _=>exact (show False from r).elim
 | some _=>cases u with
  | none=>exact (show False from r).elim
  | some _=>exact r
theorem KV.val {kvs:List (κ × V)} {vs:List (κ × Value)} (r:KV kvs vs) (k:κ):RelO (Af kvs k) (valueAt vs k):=by
 unfold KV at r
 induction r with
 | nil=>exact True.intro
 | @cons p q ps qs h t ih =>
  obtain ⟨h1,h2⟩:=h
  by_cases e:p.1=k
  ·have e':q.1=k:=h1.symm.trans e
   have b:valueAt (q::qs) k=some q.2:=by simp [valueAt,List.find?_cons,e']
   rw [FP e,b];exact h2
  ·have e':¬ q.1=k:=fun z=>e (h1.trans z)
   have b:valueAt (q::qs) k=valueAt qs k:=by simp [valueAt,List.find?_cons,e']
   rw [EW e,b];exact ih
theorem KV.any {kvs:List (κ × V)} {vs:List (κ × Value)} (r:KV kvs vs) (k:κ):(kvs.any fun kv=>decide (kv.1=k))=vs.any fun kv=>decide (kv.1=k):=by
 unfold KV at r
 induction r with
 | nil=>rfl
 | cons h t ih=>rw [List.any_cons,List.any_cons,ih,h.1]
theorem KV.length {kvs:List (κ × V)} {vs:List (κ × Value)} (r:KV kvs vs):kvs.length=vs.length:=Paired.length r
end
theorem Ae {P:Program} {w:World} {k:Key} {u:Value} (r:RelV (kV k) u):(A0 P w).is k u=true:=by
 cases k with
 | inl i=>obtain ⟨t,e⟩:=(show ∃ t,u=Value.int i t from r);subst e;exact IU P w i t
 | inr x=>obtain ⟨t,e⟩:=(show ∃ t,u=Value.str x t from r);subst e;exact HD P w x t
section
variable {P:Program} {w:World} {H:Hp} {h:Heap} {a:Addr}
end
def DGet (H:Hp) (a:Addr) (y:V) (r:Option V):Prop :=
 (∃ kvs k,Rd H a (.dK kvs)/\y=kV k/\r=Af kvs k)\/∃ kvs k b,Rd H a (.dT kvs)/\y=.ref b/\H b=some (.tup (k.map kV))/\r=Af kvs k
def DPut (H:Hp) (a:Addr) (y v:V) (H':Hp):Prop :=
 (∃ kvs k,H a=some (.dK kvs)/\y=kV k/\kvs.length < sizeLine/\H'=upd H a (.dK (CS kvs k v))) \/
 ∃ kvs k b,H a=some (.dT kvs)/\y=.ref b/\H b=some (.tup (k.map kV))/\kvs.length < sizeLine/\H'=upd H a (.dT (CS kvs k v))
theorem DGet.k {H:Hp} {a:Addr} {kvs:List (Key × V)} {k:Key} (e:H a=some (.dK kvs)):DGet H a (kV k) (Af kvs k):=.inl ⟨kvs,k,.inl e,rfl,rfl⟩
theorem DGet.t {H:Hp} {a b:Addr} {kvs:List (List Key × V)} {k:List Key} (e:H a=some (.dT kvs)) (eb:H b=some (.tup (k.map kV))):DGet H a (.ref b) (Af kvs k):=.inr ⟨kvs,k,b,.inl e,rfl,eb,rfl⟩
theorem DPut.k {H:Hp} {a:Addr} {kvs:List (Key × V)} {k:Key} {v:V} (e:H a=some (.dK kvs)) (hl:kvs.length < sizeLine):DPut H a (kV k) v (upd H a (.dK (CS kvs k v))):=.inl ⟨kvs,k,e,rfl,hl,rfl⟩
theorem DPut.t {H:Hp} {a b:Addr} {kvs:List (List Key × V)} {k:List Key} {v:V} (e:H a=some (.dT kvs)) (eb:H b=some (.tup (k.map kV))) (hl:kvs.length < sizeLine) :
 DPut H a (.ref b) v (upd H a (.dT (CS kvs k v))):=.inr ⟨kvs,k,b,e,rfl,eb,hl,rfl⟩
section
variable {X:Cx} {pins:List (Addr × Obj)} {σ:St} {H:Hp} {s:Shared} {a:Addr} {y v:V} {u r:Value} {o:Option V} {A:Around} {E:Value->Shared->Prop}
end
section
variable {X:Cx} {pins:List (Addr × Obj)} {σ:St} {H:Hp} {s:Shared} {a:Addr} {kvs:List (Key × V)} {k:Key} {u:Value} {A:Around} {E:Value->Shared->Prop}
end
section
variable {X:Cx} {o i e value:Expr} {pos pos' tpos:Pos} {td ty tv:TE}
end
section
variable {X:Cx} {pos:Pos}
end
structure M1 (X:Cx) (o:Expr) (m:Str) (apos:Pos) (e:Expr) (cpos:Pos):Prop where
 base:attributeBase o m X.env (eval o X.env)=eval o X.env
 few:((backTo cpos (starEach [e] X.env)).all (fun x=>!x.1) && (backToKw cpos (keywordEach [] X.env)).all (fun x=>x.1.isSome)
  && decide (([e]:List Expr).length+([]:List Keyword).length+(if ([]:List Keyword).isEmpty then 0 else 1) < 30))=true
 line:(apos.endLine == cpos.line)=true
 trees:backTo cpos (starEach [e] X.env)=[(false,eval e X.env)]
structure M2 (X:Cx) (o:Expr) (m:Str) (apos:Pos) (e f:Expr) (cpos:Pos):Prop where
 base:attributeBase o m X.env (eval o X.env)=eval o X.env
 few:((backTo cpos (starEach [e,f] X.env)).all (fun x=>!x.1) && (backToKw cpos (keywordEach [] X.env)).all (fun x=>x.1.isSome)
  && decide (([e,f]:List Expr).length+([]:List Keyword).length+(if ([]:List Keyword).isEmpty then 0 else 1) < 30))=true
 line:(apos.endLine == cpos.line)=true
 trees:backTo cpos (starEach [e,f] X.env)=[(false,eval e X.env),(false,eval f X.env)]
section
variable {X:Cx} {pins:List (Addr × Obj)} {σ:St} {H:Hp} {s:Shared} {a:Addr} {y d:V} {u r:Value} {o:Option V} {A:Around} {E:Value->Shared->Prop}
end
section
variable {X:Cx} {o e f:Expr} {apos cpos:Pos} {td ty tx:TE}
end
section
variable {X:Cx} {pins:List (Addr × Obj)} {σ:St} {H:Hp} {s:Shared} {a:Addr} {kvs:List (Key × V)} {A:Around} {E:Value->Shared->Prop}
end
section
variable {X:Cx} {pins:List (Addr × Obj)} {σ:St} {H:Hp} {s:Shared} {a:Addr} {y:V} {u:Value} {A:Around} {E:Value->Shared->Prop}
end
theorem Hn {M:Model} {A:Around} {E:Value->Shared->Prop} {s:Shared} {b:Bool} {Q:Int->Shared->Prop} (h:Q (if b=true then 1 else 0) s):wpAny M A (Builtin.Int.intOfSelf (.bool b)) Q E s:=by
 unfold Builtin.Int.intOfSelf
 exact wpAny_pure h
theorem JY {prog:Program} {w:World} {A:Around} {E:Value->Shared->Prop} {s:Shared} {b:Bool} {Q:Int->Shared->Prop} (h:Q (if b=true then 1 else 0) { s with toks:=s.toks+1 }):wpAny (model prog w) A (pyHash (.bool b)) Q E s:=by
 show wpAny _ _ (pyHashByItsType (.bool b)) _ _ _
 refine PySem.W.pyHash_slot (T:="bool") rfl PySem.F.slot_bool_hash PySem.F.entry_int_hash (PySem.F.args_int_hash_1 _) rfl (.inl rfl) ?_
 unfold Builtin.«int.__hash__» Builtin.Int.intSlot0
 refine wpAny_bind (wpAny_bind ?_)
 show wpAny _ _ (pure (Value.bool b,[])) _ _ _
 refine wpAny_pure (wpAny_bind (Hn (wpAny_pure ?_)))
 cases b with
 | true=>exact wpAny_bind (wpAny_mkInt (wpAny_pure ⟨_,_,rfl,h⟩))
 | false=>exact wpAny_bind (wpAny_mkInt (wpAny_pure ⟨_,_,rfl,h⟩))
def DO:Bool->Value->Bool
 | b,.bool c=>b == c
 | _,_=>false
theorem BL {b:Bool} {v:Value} (h:DO b v=true):v=.bool b:=by
 unfold DO at h
 split at h
 ·rw [beq_iff_eq.mp h]
 ·cases h
def J0 (prog:Program) (w:World):PySem.KeyKind prog w Bool where
 is:=DO
 hash:=fun b=>if b=true then 1 else 0
 inj:=fun v a b ha hb=>by
  have e1:=BL ha
  have e2:=BL hb
  rw [e1] at e2
  injection e2
 byValue:=fun k v h=>by rw [BL h];rfl
 pyHash:=fun hv h=>by rw [BL hv];exact JY h
 eqBool:=fun {A E s a b u v Q} hu hv h=>by
  rw [BL hu,BL hv]
  refine SeqAt.EqAt.bool_bool a b _ _ _ _ ?_
  have e:(a == b)=decide (a=b):=by cases a <;> cases b <;> rfl
  rw [e];exact h
 «strs»:=fun k x t v h=>by
  have:=BL h
  cases this
section
variable {P:Program} {w:World} {H:Hp} {h:Heap} {a:Addr}
end
section
variable {X:Cx} {o i e value:Expr} {pos pos' tpos:Pos} {td ty tv:TE}
end
section
variable {X:Cx} {P:Program} {w:World} {o i:Expr} {pos:Pos} {td ty:TE}
end
section
variable {X:Cx} {K:PySem.W.Frag} {o:Expr} {to:TE} {apos cpos:Pos}
end
section
variable {X:Cx}
end
section
variable {X:Cx} {K:PySem.W.Frag}
end
mutual
def pyD:Dv->PyData
 | .non=>.none
 | .bl b=>.bool b
 | .int i=>.int i
 | .str x=>.str x
 | .tup ds=>.tuple (AY ds)
 | .lst ds=>.list (AY ds)
def AY:List Dv->List PyData
 | []=>[]
 | d::ds=>pyD d::AY ds
end
def Eb (i:Int):Bool:=decide (i.natAbs.log2 < 1900)
mutual
theorem EX:∀ d:Dv,(pyD d).depth=AM d
 | .non=>by simp [pyD,AM,PyData.depth]
 | .bl _=>by simp [pyD,AM,PyData.depth]
 | .int _=>by simp [pyD,AM,PyData.depth]
 | .str _=>by simp [pyD,AM,PyData.depth]
 | .tup ds=>by simp [pyD,AM,PyData.depth,C7 ds]
 | .lst ds=>by simp [pyD,AM,PyData.depth,C7 ds]
theorem C7:∀ ds:List Dv,PyData.depthAll (AY ds)=A8 ds
 | []=>by simp [AY,A8,PyData.depthAll]
 | d::ds=>by simp [AY,A8,PyData.depthAll,EX d,C7 ds]
end
mutual
theorem El:∀ d:Dv,(pyD d).hasDict=false
 | .non=>by simp [pyD,PyData.hasDict]
 | .bl _=>by simp [pyD,PyData.hasDict]
 | .int _=>by simp [pyD,PyData.hasDict]
 | .str _=>by simp [pyD,PyData.hasDict]
 | .tup ds=>by simp [pyD,PyData.hasDict,Dh ds]
 | .lst ds=>by simp [pyD,PyData.hasDict,Dh ds]
theorem Dh:∀ ds:List Dv,PyData.hasDictAll (AY ds)=false
 | []=>by simp [AY,PyData.hasDictAll]
 | d::ds=>by simp [AY,PyData.hasDictAll,El d,Dh ds]
end
def Ad (d:Dv):Str:=(pyD d).shown
section
variable {X:Cx} {pins:List (Addr × Obj)} {σ:St} {H:Hp} {s:Shared}
mutual
theorem FA (I:Inv X pins σ H s):∀ (d:Dv) (x:V) (u:Value),Rep X.K H d x->RelV x u->∃ as,Reads s.heap u (pyD d) as
 | .non,x,u,h,r=>by unfold Rep at h;subst h;cases r;exact ⟨_,by rw [pyD];exact .none⟩
 | .bl b,x,u,h,r=>by unfold Rep at h;subst h;cases r;exact ⟨_,by rw [pyD];exact .bool b⟩
 | .int i,x,u,h,r=>by unfold Rep at h;subst h;obtain ⟨t,rfl⟩:=r;exact ⟨_,by rw [pyD];exact .int i t⟩
 | .str y,x,u,h,r=>by unfold Rep at h;subst h;obtain ⟨t,rfl⟩:=r;exact ⟨_,by rw [pyD];exact .str y t⟩
 | .tup ds,x,u,h,r=>by
  unfold Rep at h
  obtain ⟨a,xs,rfl,hs,hr⟩:=h
  cases r
  obtain ⟨its,rv,⟨o,h1,h2,n,h3⟩,_⟩:=I.tuple hs
  obtain ⟨as,ha⟩:=DB I ds xs its hr rv
  exact ⟨as,by rw [pyD];exact .tuple h1 h2 h3 ha⟩
 | .lst ds,x,u,h,r=>by
  unfold Rep at h
  obtain ⟨a,xs,rfl,hs,hr⟩:=h
  cases r
  obtain ⟨its,rv,p,_⟩:=I.list hs
  obtain ⟨o,h1,h2,n,h3⟩:=p.isList
  obtain ⟨as,ha⟩:=DB I ds xs its hr rv
  exact ⟨_,by rw [pyD];exact .list h1 h2 h3 ha⟩
theorem DB (I:Inv X pins σ H s):∀ (ds:List Dv) (xs:List V) (us:List Value),Reps X.K H ds xs->Vals xs us->∃ as,ReadsAll s.heap us (AY ds) as
 | [],xs,us,h,r=>by unfold Reps at h;subst h;cases r;exact ⟨_,by rw [AY];exact .nil⟩
 | d::ds,xs,us,h,r=>by
  unfold Reps at h
  obtain ⟨x,l,rfl,h1,h2⟩:=h
  cases r with
  | cons r1 r2 =>
  obtain ⟨as,ha⟩:=FA I d x _ h1 r1
  obtain ⟨bs,hb⟩:=DB I ds l _ h2 r2
  exact ⟨_,by rw [AY];exact .cons ha hb⟩
end
end
section
variable {X:Cx} {K:PySem.W.Frag}
end
open AutoSeq1 (wpAny_loadPart')
section
variable {prog:Program} {w:World} {A:Around} {E:Value->Shared->Prop} {s:Shared}
end
section
variable {X:Cx}
end
structure Feed (H:Hp) (t:Addr):Prop where
 at_:∃ a b k c:Int,0<=a/\H t=some (.lst [.int a,.int b,.int k,.int c])
theorem Feed.same {H H':Hp} {t:Addr} (F:Feed H t) (h:Same H H'):Feed H' t:=by
 obtain ⟨a,b,k,c,h1,h2⟩:=F.at_
 exact ⟨a,b,k,c,h1,h _ _ h2⟩
theorem Feed.upd {H:Hp} {t p:Addr} {o:HO} (F:Feed H t) (h:H p=none):Feed (L2.upd H p o) t:=F.same (Same.upd h)
theorem Gj {H0 H:Hp} {t:Addr} {o:HO} (s:Same H0 H) (ht:H0 t=none):Same H0 (upd H t o):=fun b u e=>by
 rw [AF (BI e ht)];exact s b u e
theorem Same.sqT {K:PySem.W.Frag} {H H':Hp} {a:Addr} {xs:List V} (e:Same H H') (h:SqT K H a xs):SqT K H' a xs:=En h (fun o k=>e _ _ k)
def Ey (f:Nat->Int):Nat->Int
 | 0=>0
 | n+1=>Ey f n+f n
def chi:Nat->Nat->Nat->Int
 | 0,_,_=>1
 | n+1,a,b=>(if a % 2=1/\b % 2=1 then -1 else 1) * chi n (a / 2) (b / 2)
def hs (v:Nat->Int) (s k:Nat):Int:=Ey (fun j=>chi s (k % 2 ^ s) j * v (k / 2 ^ s * 2 ^ s+j)) (2 ^ s)
def EK:Nat->Nat->Nat
 | 0,_=>0
 | f+1,x=>x % 2+EK f (x / 2)
@[irreducible] def many (x:Nat):Nat:=EK 64 x
def EL (q:Nat × Int):Dv:=.tup [.int q.1,.int q.2]
def CT (m:Nat) (ts:List (Nat × Int)):Dv:=.tup [.int m,.tup (ts.map EL)]
structure SumAt (K:PySem.W.Frag) (H:Hp) (v:V) (m:Nat) (ts:List (Nat × Int)):Prop where
 at_:∃ (a b:Addr) (vs:List V),v=.ref a/\SqT K H a [.int m,.ref b]/\SqT K H b vs/\Reps K H (ts.map EL) vs
theorem SumAt.of {K:PySem.W.Frag} {H:Hp} {v:V} {m:Nat} {ts:List (Nat × Int)} (h:Rep K H (CT m ts) v):SumAt K H v m ts:=by
 unfold CT Rep at h
 obtain ⟨a,xs,rfl,ha,hr⟩:=h
 unfold Reps at hr
 obtain ⟨x,r,rfl,h1,hr⟩:=hr
 unfold Rep at h1;subst h1
 unfold Reps at hr
 obtain ⟨x,r,rfl,h2,hr⟩:=hr
 unfold Reps at hr;subst hr
 unfold Rep at h2
 obtain ⟨b,vs,rfl,hb,hr⟩:=h2
 exact ⟨a,b,vs,rfl,ha,hb,hr⟩
theorem SumAt.rep {K:PySem.W.Frag} {H:Hp} {v:V} {m:Nat} {ts:List (Nat × Int)} (h:SumAt K H v m ts):Rep K H (CT m ts) v:=by
 obtain ⟨a,b,vs,rfl,ha,hb,hr⟩:=h.at_
 unfold CT Rep
 refine ⟨a,_,rfl,ha,AN Dp (AN ?_ Ar)⟩
 unfold Rep
 exact ⟨b,vs,rfl,hb,hr⟩
theorem SumAt.same {K:PySem.W.Frag} {H H':Hp} {v:V} {m:Nat} {ts:List (Nat × Int)} (h:SumAt K H v m ts) (s:Same H H'):SumAt K H' v m ts:=.of (Rep.same s _ _ h.rep)
theorem Feed.lst {H:Hp} {t:Addr} (F:Feed H t):∃ zs,H t=some (.lst zs):=by
 obtain ⟨a,b,k,c,_,h⟩:=F.at_
 exact ⟨_,h⟩
section
variable {X:Cx} {K:PySem.W.Frag}
end
def Ed (H:Hp) (Q:VK) (xs:List V):Prop:=∀ p H',H p=none->Same H H'->H' p=some (.lst xs)->Q (.ref p) H'
theorem BP {H:Hp} {Q Q':VK} {xs:List V} (h:∀ v H,Q v H->Q' v H) (q:Ed H Q xs):Ed H Q' xs:=fun p H' a b c=>h _ _ (q p H' a b c)
end L2
namespace HT
open PySem PyProof.Rows
section
variable {prog:Program} {w:World} {A:Around} {E:Value->Shared->Prop} {s:Shared}
end
end HT
namespace L2
open PySem PySem.Spec PyProof.Rows
section
variable {X:Cx} {K:PySem.W.Frag} {e sx:Expr} {te ts:TE} {lo hi:Option Expr} {tl th:TO} {pos p2:Pos}
def mIs (neg:Bool):R2:=fun x y H Q=>match x,y with
 | .bl a,.bl b=>Q (.bl (neg ^^ (a == b))) H
 | x,.non=>Q (.bl (neg ^^ decide (x=.non))) H
 | _,_=>False
theorem HI:OpR X (compareOp .Is) (mIs false):=by
 intro pins s σ H x y v u Q I rx ry h
 unfold mIs at h
 split at h
 ·cases rx;cases ry
  rename_i a b
  exact wpAny_of_eq (show compareOp .Is (.bool a) (.bool b)=pure (.bool (a == b)) by cases a <;> cases b <;> rfl) ⟨.bl (a == b),H,I,rfl,by rw [Bool.false_xor] at h;exact h⟩
 ·exact Hq pins s σ H _ _ v u Q I rx ry ⟨rfl,by rw [Bool.false_xor] at h;exact h⟩
 ·exact h.elim
end
structure GFeed (H:Hp) (t:Addr) (N:Nat):Prop where
 at_:∃ (l:Addr) (i g c:Int) (ns:List Int),0<=i/\0<=g/\0<=c/\c<=N/\H t=some (.lst [.ref l,.int i,.int g,.int c])/\l≠t/\H l=some (.lst (ns.map V.int))/\ns.length≠0
theorem GFeed.same {H H':Hp} {t:Addr} {N:Nat} (F:GFeed H t N) (h:Same H H'):GFeed H' t N:=by
 obtain ⟨l,i,g,c,ns,h1,h2,h3,h4,h5,h6,h7,h8⟩:=F.at_
 exact ⟨l,i,g,c,ns,h1,h2,h3,h4,h _ _ h5,h6,h _ _ h7,h8⟩
theorem GFeed.upd {H:Hp} {t p:Addr} {o:HO} {N:Nat} (F:GFeed H t N) (h:H p=none):GFeed (L2.upd H p o) t N:=F.same (Same.upd h)
theorem GFeed.lst {H:Hp} {t:Addr} {N:Nat} (F:GFeed H t N):∃ zs,H t=some (.lst zs):=by
 obtain ⟨l,i,g,c,ns,h1,h2,h3,h4,h5,_⟩:=F.at_
 exact ⟨_,h5⟩
section
variable {X:Cx} {pins:List (Addr × Obj)} {σ:St} {H:Hp} {s:Shared}
theorem KV.get {kvs:List (Key × V)} {vs:List (Key × Value)} (r:KV kvs vs):∀ {i:Nat} {q:Key × V},kvs[i]? = some q->∃ v,vs[i]? = some (q.1,v)/\RelV q.2 v:=by
 induction r with
 | nil=>intro i q e;simp at e
 | @cons a b l1 l2 h t ih =>
  intro i q e
  cases i with
  | zero =>
   simp at e;subst e
   obtain ⟨b1,b2⟩:=b
   obtain ⟨h1,h2⟩:=h
   exact ⟨b2,by simp;exact h1.symm,h2⟩
  | succ i =>
   obtain ⟨v,h1,h2⟩:=ih (i:=i) (q:=q) (by simpa using e)
   exact ⟨v,by simpa using h1,h2⟩
end
section
variable {X:Cx} {K:PySem.W.Frag} {tg oe:Expr} {to:TE} {ts:List Expr} {kt:Nat} {tpos apos cpos:Pos}
end
end L2
namespace L2
open PySem PyProof.Rows
section
variable {prog:Program} {w:World} {A:Around} {E:Value->Shared->Prop} {s:Shared}
end
section
variable {X:Cx}
end
end L2
namespace L2
open PySem PySem.Spec PyProof.Rows
end L2
namespace L2
open PySem PySem.Spec PyProof.Rows PySem.W
open Att (CI EF Hj)
def CdO (a:Addr) (q:Str):HO:=.ext fun h=>h.CodeRec (.ref a) q
def Lam (Pt:Addr) (pos:Pos) (q:Str) (H:Hp):Prop :=
 ∃ ps:Array Value,H Pt=some (.tbl ps)/\TriplesOk ps.toList/\(codeAmong pos ps.toList=none\/∃ c',codeAmong pos ps.toList=some (.ref c')/\H c'=some (CdO c' q))
def Grow (Pt:Addr) (H H':Hp):Prop:=∀ b o,b≠Pt->H b=some o->H' b=some o
theorem Grow.same {Pt:Addr} {H H':Hp} (h:Same H H'):Grow Pt H H':=fun b o _ e=>h b o e
theorem Lam.same {Pt:Addr} {pos:Pos} {q:Str} {H H':Hp} (l:Lam Pt pos q H) (h:Same H H'):Lam Pt pos q H':=by
 obtain ⟨ps,a,b,c⟩:=l
 refine ⟨ps,h _ _ a,b,?_⟩
 rcases c with c | ⟨c',c,d⟩
 ·exact .inl c
 ·exact .inr ⟨c',c,h _ _ d⟩
section
variable {X:Cx} {pins:List (Addr × Obj)} {σ:List (Option V)} {H:Hp} {s:Shared} {h':Heap}
end
section
variable {prog:Program} {w:World} {A:Around} {s:Shared}
end
section
variable {X:Cx} {Pt c:Addr} {e:Expr} {te:TE} {p pos kpos lpos np cp sp:Pos} {x qual:Str} {params:Arguments} {scope:Scope} {kd:Nat} {i:Int} {K:PySem.W.Frag}
end
end L2
namespace L2
open PySem
end L2
namespace L2
open PySem PySem.Spec PyProof.Rows
section
variable {X:Cx} {tg oe:Expr} {to:TE} {apos cpos:Pos}
end
def mIn (K:PySem.W.Frag) (neg:Bool):R2:=fun x y H Q=>match y with
 | .ref p=>∃ xs,(SqL K H p xs\/SqT K H p xs)/\Am x=true/\xs.all Am=true/\Q (.bl (neg ^^ inV x xs)) H
 | _=>False
section
variable {X:Cx} {K:PySem.W.Frag}
theorem kIn (hK:X.K=K:=by rfl):OpR X (compareOp .In) (mIn K false):=by
 subst hK
 intro pins s σ H x y v u Q I rx ry h
 cases y with
 | ref p =>
  obtain ⟨xs,h1,h2,h3,q⟩:=h
  exact Fu pins s σ H x _ v u Q I rx ry ⟨p,xs,rfl,h1,h2,h3,by simpa using q⟩
 | _=>exact False.elim h
theorem Gk (hK:X.K=K:=by rfl):OpR X (compareOp .NotIn) (mIn K true):=by
 subst hK
 intro pins s σ H x y v u Q I rx ry h
 cases y with
 | ref p =>
  obtain ⟨xs,h1,h2,h3,q⟩:=h
  exact JF pins s σ H x _ v u Q I rx ry ⟨p,xs,rfl,h1,h2,h3,by simpa using q⟩
 | _=>exact False.elim h
end
section
variable {X:Cx} {K:PySem.W.Frag}
end
end L2
namespace L2
theorem on1 {α:Type} {P:List α->Prop} (h:∀ a,P [a]):∀ us:List α,us.length=1->P us
 | [a],_=>h a
theorem on2 {α:Type} {P:List α->Prop} (h:∀ a b,P [a,b]):∀ us:List α,us.length=2->P us
 | [a,b],_=>h a b
theorem on3 {α:Type} {P:List α->Prop} (h:∀ a b c,P [a,b,c]):∀ us:List α,us.length=3->P us
 | [a,b,c],_=>h a b c
theorem on4 {α:Type} {P:List α->Prop} (h:∀ a b c d,P [a,b,c,d]):∀ us:List α,us.length=4->P us
 | [a,b,c,d],_=>h a b c d
open PySem in
theorem KG {xs es:List PySem.Expr} {p:Pos} {env:Env}:starEach (.List xs p::es) env=(false,eval (.List xs p) env)::starEach es env:=by rfl
end L2
namespace L2
open PySem
end L2
namespace L2
open PySem PyProof.Rows
section
variable {prog:Program} {w:World} {A:Around} {E:Value->Shared->Prop} {s:Shared}
end
section
variable {X:Cx}
end
abbrev IK (h:Heap) (z TI TO:Addr) (f0 bb:Value):Prop :=
 h.get? z=some { cls:=.type "zip",dict:=none,data:=.fields #[f0,bb,.bool false,.ref TI,.ref TO],slots:=#[] }
section
variable {prog:Program} {w:World} {A:Around} {E:Value->Shared->Prop} {s:Shared}
end
section
variable {prog:Program} {w:World} {A:Around} {E:Value->Shared->Prop} {s:Shared}
structure ZS (z TI TO i1 i2 l1 l2 T0:Addr) (xs ys:Array Value) (i:Nat) (h:Heap):Prop where
 zp:(i=0/\IsZip h z TI TO .none)\/(0 < i/\(∃ b,IK h z TI TO (rawInt T0) b)/\∃ a b,IsPair h T0 a b)
 ti:IsPair h TI (.ref i1) (.ref i2)
 to:∃ a b,IsPair h TO a b
 a1:h.IsTupleIter i1 l1 i
 a2:h.IsTupleIter i2 l2 i
 t1:h.IsTuple l1 xs
 t2:h.IsTuple l2 ys
end
section
variable {prog:Program} {w:World} {A:Around} {R:Result->Shared->Prop}
end
section
variable {prog:Program} {w:World} {A:Around} {R:Result->Shared->Prop} {s:Shared}
end
section
variable {prog:Program} {w:World} {A:Around} {E:Value->Shared->Prop} {s:Shared}
end
section
variable {X:Cx}
end
end L2
namespace L2
open PySem
def ins:Nat->Nat->Nat->Nat
 | 0,b,q=>2 * q+b
 | i+1,b,q=>2 * ins i b (q / 2)+q % 2
end L2
namespace L2
open PySem PyProof.Rows
section
variable {prog:Program} {w:World} {A:Around} {E:Value->Shared->Prop} {s:Shared}
end
section
variable {prog:Program} {w:World} {K:Type} [DecidableEq K] {knd:KeyKind prog w K} {A:Around} {R:Result->Shared->Prop}
end
section
variable {prog:Program} {w:World} {K:Type} [DecidableEq K] {knd:KeyKind prog w K} {A:Around} {E:Value->Shared->Prop} {s:Shared}
end
section
variable {X:Cx}
end
section
variable {prog:Program} {w:World} {A:Around} {E:Value->Shared->Prop} {s:Shared}
end
section
variable {prog:Program} {w:World} {A:Around} {E:Value->Shared->Prop} {s:Shared}
end
section
variable {prog:Program} {w:World} {K:Type} [DecidableEq K] {knd:KeyKind prog w K} {A:Around} {R:Result->Shared->Prop}
end
section
variable {prog:Program} {w:World} {K:Type} [DecidableEq K] {knd:KeyKind prog w K} {A:Around} {E:Value->Shared->Prop} {s:Shared}
end
section
variable {X:Cx}
end
section
variable {X:Cx}
end
section
variable {X:Cx} {K:PySem.W.Frag}
end
section
variable {X:Cx} {K:PySem.W.Frag} {o e e2:Expr} {to:TE} {t:TA} {apos cpos:Pos}
end
end L2
namespace L2
open PySem PySem.Spec PyProof.Rows
mutual
def AK:Dv->Bool
 | .non=>true
 | .bl _=>true
 | .int i=>Eb i
 | .str x=>x.cps.toList.all fun c=>decide (c < 16 ^ 8)
 | .tup ds=>Ba ds
 | .lst ds=>Ba ds
def Ba:List Dv->Bool
 | []=>true
 | d::ds=>AK d && Ba ds
end
mutual
def AH:Dv->Nat
 | .str x=>x.cps.size
 | .tup ds=>B2 ds
 | .lst ds=>B2 ds
 | _=>0
def B2:List Dv->Nat
 | []=>0
 | d::ds=>AH d+1+B2 ds
end
mutual
theorem Ew:∀ d:Dv,(pyD d).bulk=AH d
 | .non=>by simp [pyD,PyData.bulk,AH]
 | .bl _=>by simp [pyD,PyData.bulk,AH]
 | .int _=>by simp [pyD,PyData.bulk,AH]
 | .str _=>by simp [pyD,PyData.bulk,AH]
 | .tup ds=>by simp [pyD,PyData.bulk,AH,Dd ds]
 | .lst ds=>by simp [pyD,PyData.bulk,AH,Dd ds]
theorem Dd:∀ ds:List Dv,PyData.bulkAll (AY ds)=B2 ds
 | []=>by simp [AY,PyData.bulkAll,B2]
 | d::ds=>by simp [AY,PyData.bulkAll,B2,Ew d,Dd ds]
end
mutual
theorem DP:∀ d:Dv,AK d=true->(pyD d).showable=true/\(pyD d).leavesShort 1921=true
 | .non,_=>by simp [pyD,PyData.showable,PyData.leavesShort]
 | .bl _,_=>by simp [pyD,PyData.showable,PyData.leavesShort]
 | .int i,h=>by
  have h1:i.natAbs.log2 < 1900:=by simpa [AK,Eb] using h
  have h2:i.natAbs.log2 < 1920:=by omega
  refine ⟨by simpa [pyD,PyData.showable] using h2,?_⟩
  simp only [pyD,PyData.leavesShort,decide_eq_true_eq,PyData.shown]
  exact decide_eq_true (PyProof.Rows.int_text_len_1921 h2)
 | .str x,h=>by
  refine ⟨by simp [pyD,PyData.showable],?_⟩
  unfold AK at h
  unfold pyD PyData.leavesShort
  exact h
 | .tup ds,h=>by
  have h':=C1 ds (by simpa [AK] using h)
  simpa [pyD,PyData.showable,PyData.leavesShort] using h'
 | .lst ds,h=>by
  have h':=C1 ds (by simpa [AK] using h)
  simpa [pyD,PyData.showable,PyData.leavesShort] using h'
theorem C1:∀ ds:List Dv,Ba ds=true->PyData.showableAll (AY ds)=true/\PyData.leavesShortAll 1921 (AY ds)=true
 | [],_=>by simp [AY,PyData.showableAll,PyData.leavesShortAll]
 | d::ds,h=>by
  have h':AK d=true/\Ba ds=true:=by simpa [Ba] using h
  have h1:=DP d h'.1
  have h2:=C1 ds h'.2
  simp [AY,PyData.showableAll,PyData.leavesShortAll,h1,h2]
end
theorem Iy {d:Dv} (h:AK d=true) (hb:AH d<=8000):(Ad d).length<=sizeLine:=by
 have h1:=PyData.shown_le_bulk 1921 (by decide) (pyD d) (DP d h).2
 rw [Ew d] at h1
 have e:sizeLine=16777216:=by decide
 unfold Ad
 rw [e]
 omega
def FS (K:PySem.W.Frag):List V->Hp->VK->Prop:=fun xs H Q=>match xs with
 | [x]=>∃ d,Rep K H d x/\AK d=true/\AH d<=8000/\AM d<=60/\Q (.str (Ad d)) H
 | _=>False
section
variable {X:Cx} {K:PySem.W.Frag}
theorem Hs (hg:X.A.guards=some []) (hu:X.A.units+62 < cLine):CallR X (.builtin "repr") (FS X.K):=by
 intro pins s σ H xs us Q I r q
 match xs,q with
 | [x],q =>
  obtain ⟨d,hd,hn,hb,hp,q⟩:=q
  cases r with
  | cons r1 r2 =>
  cases r2
  rename_i u
  have fits:=Iy hn hb
  have shw:=(DP d hn).1
  have done:∀ (h':Heap) (t tk:Nat),(∀ b o,s.heap.get? b=some o->h'.get? b=some o)->EP X pins σ Q (.str (Ad d) t) { s with heap:=h',toks:=tk }:=fun h' t tk hk =>
   ⟨.str (Ad d),H,I.kept (t':=tk) hk,⟨t,rfl⟩,q⟩
  obtain ⟨as,hr⟩:=FA I d x u hd r1
  cases hx:u with
  | ref a =>
   rw [hx] at hr
   refine PySem.repr_of_reads' hr shw (PyData.noDict_hsm (El d)) hg ?_ (fun _ _ e=>e) (fun h' t tk hk=>done h' t tk hk) fits
   rw [EX];omega
  | none =>
   rw [hx] at hr
   generalize hp:pyD d=p at hr
   cases hr
   have e:Ad d=("None" : Str):=by unfold Ad;rw [hp,PyData.shown_none]
   refine PySem.P.repr_of_none ?_
   rw [<- e];exact done s.heap _ _ (fun _ _ e=>e)
  | bool b =>
   rw [hx] at hr
   generalize hp:pyD d=p at hr
   cases hr
   have e:Ad d=((if b then "True" else "False" : Str)):=by unfold Ad;rw [hp,PyData.shown_bool]
   refine PySem.P.repr_of_bool ?_
   rw [<- e];exact done s.heap _ _ (fun _ _ e=>e)
  | int i t =>
   rw [hx] at hr
   generalize hp:pyD d=p at hr
   cases hr
   have e:Ad d=((toString i:String):Str):=by unfold Ad;rw [hp,PyData.shown_int]
   rw [hp] at shw
   refine PySem.P.repr_of_int (by simpa [PyData.showable] using shw) ?_
   rw [<- e];exact done s.heap _ _ (fun _ _ e=>e)
  | str y t =>
   rw [hx] at hr
   generalize hp:pyD d=p at hr
   cases hr
   have e:Ad d=reprText y:=by unfold Ad;rw [hp];rfl
   refine PySem.P.repr_of_str ?_ (by rw [<- e];exact fits)
   rw [<- e];exact done s.heap _ _ (fun _ _ e=>e)
  | _=>rw [hx] at hr;cases hr
theorem Ec {k:Nat} (hr:Room k X.A) (hK:X.K=K:=by rfl):CallR X (.builtin "repr") (FS K):=hK ▸ Hs hr.gd (by have:=hr.un;omega)
end
end L2
namespace L2
open PySem PyProof.Rows
section
variable {X:Cx}
end
section
variable {X:Cx}
end
section
variable {X:Cx} {K:PySem.W.Frag}
end
end L2
namespace HT
open PySem PyProof.Rows
section
variable {prog:Program} {w:World} {A:Around} {E:Value->Shared->Prop} {s:Shared}
theorem getItem_tuple_whole {t sl:Addr} {items:Array Value} {vl vu:Value} {lo hi:Option Int} {Q:Value->Shared->Prop} (ht:IsTup s.heap t items) (hs:s.heap.IsSliceOf sl vl vu .none) (pl:IsPart vl lo) (pu:IsPart vu hi)
 (hw:sIx items.size 0 lo=0/\sIx items.size items.size hi=items.size)
 (h:Q (.ref t) s):wpAny (model prog w) A (getItem (.ref t) (.ref sl)) Q E s:=by
 obtain ⟨os,hos,hcs,hds⟩:=id hs
 have hTs:s.TypeIs (.ref sl) "slice":=⟨os,hos,hcs⟩
 unfold getItem
 try with_reducible refine wpAny_holding ?_
 first | refine wpAny_bind (wpAny_pure ?_) | skip
 refine wpAny_bind (wpAny_sequenceKey ht.typeIs (by decide) ?_)
 refine wpAny_bind (wpAny_callSpecial?_slot (name:=Str.ofString "__getitem__") ht.typeIs PyProof.Rows.slot_tuple_getitem
  (wpAny_call_entry PyProof.Rows.slot_tuple_getitem ht.typeIs entry_tuple_getitem ?_ (args_tuple_getitem _ _)))
 show wpAny _ _ (Builtin.Tuple.tupleItemsOf (.ref t) >>= _) _ _ s
 refine wpAny_bind (tupleItemsOf_ ht ?_)
 refine wpAny_bind (wpAny_typeOf hTs ?_)
 rw [if_pos (by decide)]
 refine wpAny_bind (Fa hs pl pu ?_)
 rw [hw.1,hw.2]
 show wpAny _ _ (if (((0:Nat):Int) == 0 && (1:Int) == 1 && (items.size - 0) == items.size)=true then _ else _) _ _ s
 have hyes:(((0:Nat):Int) == 0 && (1:Int) == 1 && (items.size - 0) == items.size)=true:=by simp
 rw [if_pos hyes]
 unfold Builtin.Tuple.tupleIsExact
 refine wpAny_bind (wpAny_bind (wpAny_typeOf ht.typeIs (wpAny_pure ?_)))
 rw [if_pos (by decide)]
 refine wpAny_bind (wpAny_rule ?_)
 first
  | exact wpAny_bind (wpAny_pure ⟨_,rfl,wpAny_pure h⟩)
  | exact wpAny_pure ⟨_,rfl,wpAny_pure h⟩
  | exact wpAny_bind (wpAny_pure (wpAny_pure ⟨_,rfl,wpAny_pure h⟩))
  | exact wpAny_bind (wpAny_bind (wpAny_pure (wpAny_pure ⟨_,rfl,wpAny_pure h⟩)))
end
end HT
namespace L2
open PySem PySem.Spec PyProof.Rows
section
variable {X:Cx} {K:PySem.W.Frag} {e sx:Expr} {te ts:TE} {lo hi:Option Expr} {tl th:TO} {pos p2:Pos}
def FU (K:PySem.W.Frag):V->Option Int->Option Int->Hp->VK->Prop:=fun x lo hi H Q=>match x with
 | .ref a=>∃ xs,SqT K H a xs/\∀ p H',Same H H'->SqT K H' p (BB xs lo hi)->Q (.ref p) H'
 | _=>False
theorem KC:SlR X (FU X.K):=by
 intro pins s σ H x v vl vu lo hi sl Q I rx hs pl pu q
 cases x with
 | ref a =>
  obtain ⟨xs,hx,q⟩:=q
  by_cases hw:HT.sIx xs.length 0 lo=0/\HT.sIx xs.length xs.length hi=xs.length
  ·cases rx
   obtain ⟨its,r,ht,hz⟩:=I.tuple hx
   have hlen:its.toArray.size=xs.length:=by rw [List.size_toArray];exact r.length.symm
   refine ⟨"tuple",_,PyProof.Rows.slot_tuple_getitem.lookup,ht.typeIs,?_⟩
   refine HT.getItem_tuple_whole ht hs pl pu (by rw [hlen];exact hw) ⟨.ref a,H,I,rfl,q a H (fun _ _ h=>h) ?_⟩
   have:BB xs lo hi=xs:=by
    unfold BB
    rw [hw.1,hw.2,List.drop_zero,List.take_of_length_le (by omega)]
   rw [this]
   exact hx
  ·exact Io pins s σ H _ v vl vu lo hi sl Q I rx hs pl pu ⟨a,xs,rfl,hx,hw,fun p hp=>q p _ (Same.upd hp) (.of AB)⟩
 | _=>exact False.elim q
theorem ED (he:PE X e te) (hl:PO X lo tl) (hu:PO X hi th) (hK:X.K=K:=by rfl):PE X (.Subscript e (.Slice lo hi none p2) pos) (tSl (FU K) te tl th):=hK ▸ G5 KC he hl hu
end
end L2
namespace HT
open PySem PyProof.Rows
section
variable {prog:Program} {w:World} {A:Around} {E:Value->Shared->Prop} {s:Shared}
end
end HT
namespace L2
open PySem PySem.Spec PyProof.Rows
section
variable {X:Cx} {K:PySem.W.Frag}
end
section
variable {X:Cx} {K:PySem.W.Frag}
end
section
variable {X:Cx} {K:PySem.W.Frag} {e sx:Expr} {te ts:TE} {lo hi:Option Expr} {tl th:TO} {pos p2:Pos}
end
abbrev BV:=List (List Bool × Addr × V)
abbrev BVr:BV->List (List Bool × Addr × Value)->Prop:=Paired fun p q=>p.1=q.1/\p.2.1=q.2.1/\RelV p.2.2 q.2.2
def dV (P:Program) (w:World) (a:Addr) (kvs:BV):HO:=.ext fun h=>∃ xs o es ep,BVr kvs xs/\h.get? a=some o/\o.ExactDict/\o.data=.dict es ep/\es.toList=xs.map (entryOfKey (tupleKind (J0 P w)))/\(xs.map (·.1)).Nodup/\xs.length<=sizeLine/\(a == sysModules)=false
def KeysV (H:Hp) (kvs:BV):Prop:=∀ q∈kvs,H q.2.1=some (.tup (q.1.map V.bl))
section
variable {P:Program} {w:World} {H:Hp} {h:Heap} {a:Addr}
end
theorem KeysV.same {H H':Hp} {kvs:BV} (h:KeysV H kvs) (s:∀ b ys,H b=some (.tup ys)->H' b=some (.tup ys)):KeysV H' kvs:=fun q hq=>s _ _ (h q hq)
theorem KeysV.upd {P:Program} {w:World} {H:Hp} {kvs k1:BV} {a:Addr} {o:HO} (h:KeysV H kvs) (e:H a=some (dV P w a k1)):KeysV (upd H a o) kvs:=fun q hq=>by
 have:=h q hq
 rw [AF (fun z=>by rw [z,e] at this;exact nomatch Option.some.inj this)]
 exact this
section
variable {X:Cx} {o i e f value:Expr} {pos pos' tpos apos cpos:Pos} {td ty tx tv:TE}
end
section
variable {X:Cx} {P:Program} {w:World} {o i e f:Expr} {pos apos cpos:Pos} {td ty tx:TE}
end
section
variable {prog:Program} {w:World} {A:Around} {E:Value->Shared->Prop} {s:Shared} {d it:Addr} {o:Obj} {es:Array DictEntry} {ep i:Nat}
end
section
variable {X:Cx} {pins:List (Addr × Obj)} {σ:St} {H:Hp} {s:Shared}
theorem BVr.get {kvs:BV} {xs:List (List Bool × Addr × Value)} (r:BVr kvs xs):∀ {i:Nat} {q:List Bool × Addr × V},kvs[i]? = some q->∃ x,xs[i]? = some x/\x.2.1=q.2.1:=by
 induction r with
 | nil=>intro i q e;simp at e
 | @cons a b l1 l2 h t ih =>
  intro i q e
  cases i with
  | zero =>
   simp at e;subst e
   exact ⟨b,by simp,h.2.1.symm⟩
  | succ i =>
   obtain ⟨v,h1,h2⟩:=ih (i:=i) (q:=q) (by simpa using e)
   exact ⟨v,by simpa using h1,h2⟩
end
section
variable {X:Cx} {K:PySem.W.Frag}
end
section
variable {X:Cx} {K:PySem.W.Frag}
end
open Classical in
noncomputable def KH (K:PySem.W.Frag) (H:Hp) (u:Value):Dv:=if h:∃ d x,RelV x u/\Rep K H d x then h.choose else .non
section
variable {X:Cx} {K:PySem.W.Frag} {pins:List (Addr × Obj)} {σ:St} {H:Hp} {s:Shared}
end
structure GFd (H:Hp) (t l:Addr) (N:Nat):Prop where
 at_:∃ (i g c:Int) (ns:List Int),0<=i/\0<=g/\0<=c/\c<=N/\H t=some (.lst [.ref l,.int i,.int g,.int c])/\l≠t/\H l=some (.lst (ns.map V.int))/\ns.length≠0
theorem GFd.same {H H':Hp} {t l:Addr} {N:Nat} (F:GFd H t l N) (h:Same H H'):GFd H' t l N:=by
 obtain ⟨i,g,c,ns,h1,h2,h3,h4,h5,h6,h7,h8⟩:=F.at_
 exact ⟨i,g,c,ns,h1,h2,h3,h4,h _ _ h5,h6,h _ _ h7,h8⟩
theorem GFd.upd {H:Hp} {t l p:Addr} {o:HO} {N:Nat} (F:GFd H t l N) (h:H p=none):GFd (L2.upd H p o) t l N:=F.same (Same.upd h)
inductive Dw where
 | non | bl (b:Bool) | int (i:Int) | str (x:Str) | tup (ds:List Dw) | lst (ds:List Dw) | emp
def HM (a:Addr) (xs:List V):Heap->Prop:=fun h=>a≠sysModules/\∃ (its:List Value) (n:Nat),Vals xs its/\h.get? a=some { cls:=.type "list",data:=.seq its.toArray n }
mutual
def RepW (K:PySem.W.Frag) (H:Hp):Dw->V->Prop
 | .non,v=>v=.non
 | .bl b,v=>v=.bl b
 | .int i,v=>v=.int i
 | .str x,v=>v=.str x
 | .tup ds,v=>∃ a xs,v=.ref a/\SqT K H a xs/\RepsW K H ds xs
 | .lst ds,v=>∃ a xs,v=.ref a/\H a=some (.ext (HM a xs))/\RepsW K H ds xs
 | .emp,v=>∃ a,v=.ref a/\H a=some (.dK [])
def RepsW (K:PySem.W.Frag) (H:Hp):List Dw->List V->Prop
 | [],xs=>xs=[]
 | d::ds,xs=>∃ x r,xs=x::r/\RepW K H d x/\RepsW K H ds r
end
theorem RepsW.length {K:PySem.W.Frag} {H:Hp}:∀ {ds:List Dw} {xs:List V},RepsW K H ds xs->ds.length=xs.length
 | [],xs,h=>by unfold RepsW at h;subst h;rfl
 | d::ds,xs,h=>by
  unfold RepsW at h
  obtain ⟨x,r,rfl,_,h⟩:=h
  rw [List.length_cons,List.length_cons,RepsW.length h]
theorem RepsW.get {K:PySem.W.Frag} {H:Hp}:∀ {ds:List Dw} {xs:List V} {i:Nat} {d:Dw},RepsW K H ds xs->ds[i]? = some d->∃ x,xs[i]? = some x/\RepW K H d x
 | [],_,_,_,_,e=>by simp at e
 | d::ds,xs,0,_,h,e=>by
  unfold RepsW at h
  obtain ⟨x,r,rfl,h1,_⟩:=h
  simp at e;subst e
  exact ⟨x,rfl,h1⟩
 | d::ds,xs,i+1,_,h,e=>by
  unfold RepsW at h
  obtain ⟨x,r,rfl,_,h⟩:=h
  obtain ⟨y,h1,h2⟩:=RepsW.get (i:=i) h (by simpa using e)
  exact ⟨y,by simpa using h1,h2⟩
mutual
theorem RepW.same {K:PySem.W.Frag} {H H':Hp} (s:Same H H'):∀ (d:Dw) (v:V),RepW K H d v->RepW K H' d v
 | .non,v,h=>by unfold RepW at *;exact h
 | .bl b,v,h=>by unfold RepW at *;exact h
 | .int i,v,h=>by unfold RepW at *;exact h
 | .str x,v,h=>by unfold RepW at *;exact h
 | .emp,v,h=>by unfold RepW at *;obtain ⟨a,e,h⟩:=h;exact ⟨a,e,s _ _ h⟩
 | .tup ds,v,h=>by
  unfold RepW at *
  obtain ⟨a,xs,e,h1,h2⟩:=h
  exact ⟨a,xs,e,D8 h1 s,RepsW.same s ds xs h2⟩
 | .lst ds,v,h=>by
  unfold RepW at *
  obtain ⟨a,xs,e,h1,h2⟩:=h
  exact ⟨a,xs,e,s _ _ h1,RepsW.same s ds xs h2⟩
theorem RepsW.same {K:PySem.W.Frag} {H H':Hp} (s:Same H H'):∀ (ds:List Dw) (xs:List V),RepsW K H ds xs->RepsW K H' ds xs
 | [],xs,h=>by unfold RepsW at *;exact h
 | d::ds,xs,h=>by
  unfold RepsW at *
  obtain ⟨x,r,e,h1,h2⟩:=h
  exact ⟨x,r,e,RepW.same s d x h1,RepsW.same s ds r h2⟩
end
section
variable {X:Cx} {K:PySem.W.Frag} {es:List Expr} {t:TA} {pos:Pos}
end
mutual
def EG:Dw->Nat
 | .tup ds=>C3 ds+1
 | .lst ds=>C3 ds+1
 | .emp=>1
 | _=>0
def C3:List Dw->Nat
 | []=>0
 | d::ds=>max (EG d) (C3 ds)
end
mutual
def Ex:Dw->Nat
 | .str x=>x.cps.size
 | .tup ds=>DG ds
 | .lst ds=>DG ds
 | _=>0
def DG:List Dw->Nat
 | []=>0
 | d::ds=>Ex d+1+DG ds
end
section
variable {X:Cx} {pins:List (Addr × Obj)} {σ:St} {H:Hp} {s:Shared}
end
section
variable {X:Cx} {K:PySem.W.Frag}
end
def Ik:List V->Hp->VK->Prop:=fun xs H Q=>match xs with
 | [.int i]=>i.natAbs.log2 < 1920/\Q (.str (toString i)) H
 | _=>False
theorem Ez {X:Cx}:CallR X (.type "str") Ik:=call_str_int.imp fun xs H Q q=>by
 match xs,q with
 | [.int i],⟨h,q⟩=>exact ⟨i,rfl,h,q⟩
mutual
def okW (n:Nat):Dw->Bool
 | .int i=>decide (i.natAbs<=n)
 | .str x=>x.cps.toList.all fun c=>decide (c < 16 ^ 8)
 | .tup ds=>Dg n ds
 | .lst ds=>Dg n ds
 | _=>true
def Dg (n:Nat):List Dw->Bool
 | []=>true
 | d::ds=>okW n d && Dg n ds
end
structure Fit (n D B:Nat) (d:Dw):Prop where
 ok:okW n d=true
 dep:EG d<=D
 bulk:Ex d<=B
section
variable {X:Cx} {K:PySem.W.Frag}
end
def Ris (xs:Array Nat):Prop:=xs.toList.Pairwise (· < ·)
structure TabG (w:World) (t:SetTable):Prop where
 led:t.led = !w.params.followText "set-order"
 ris:Ris t.place
def SetW (P:Program) (w:World) (h:Heap) (a:Addr) (S:Int->Bool) (n:Nat):Prop :=
 ∃ o es ep t,h.get? a=some o/\o.ExactSet/\o.data=.set es ep t/\ElemsOf (intKind P w) es.toList/\(∀ k,S k=true ↔ ∃ e∈es.toList,(intKind P w).is k e.2=true)/\es.size < scanBound/\t.fits es.size=true/\es.size=n/\TabG w t
section
variable {P:Program} {w:World} {A:Around} {E:Value->Shared->Prop} {s:Shared} {a:Addr}
theorem SetW.at {h h':Heap} {S:Int->Bool} {n:Nat} (x:SetW P w h a S n) (k:∀ o,h.get? a=some o->h'.get? a=some o):SetW P w h' a S n:=by
 obtain ⟨o,es,ep,t,h1,r⟩:=x;exact ⟨o,es,ep,t,k _ h1,r⟩
theorem SetW.of {h:Heap} {S:Int->Bool} {n:Nat} (x:SetW P w h a S n):h.SetOf (intKind P w) a S n:=by
 obtain ⟨o,es,ep,t,h1,h2,h3,h4,h5,h6,h7,h8,_⟩:=x;exact ⟨o,es,ep,t,h1,h2,h3,h4,h5,h6,h7,h8⟩
end
section
variable {P:Program} {w:World} {A:Around} {E:Value->Shared->Prop} {s:Shared} {a:Addr}
end
namespace F
end F
def IsSetIter (h:Heap) (I:Addr) (f:Value) (i:Nat) (a:Addr) (n ep:Nat):Prop:=∃ o,h.get? I=some o/\o.cls=.type "set_iterator" /\ o.data=.fields #[f,.int i 0,.ref a,.int n 0,.int ep 0]
theorem IsSetIter.at {h h':Heap} {I a:Addr} {f:Value} {i n ep:Nat} (x:IsSetIter h I f i a n ep) (e:∀ o,h.get? I=some o->h'.get? I=some o):IsSetIter h' I f i a n ep:=let ⟨o,ho,r⟩:=x;⟨o,e _ ho,r⟩
section
variable {P:Program} {w:World} {A:Around} {E:Value->Shared->Prop} {s:Shared} {a I:Addr}
end
section
variable {P:Program} {w:World} {A:Around} {E:Value->Shared->Prop} {s:Shared} {a I:Addr}
end
end L2
namespace L2
open PySem PySem.Spec PyProof.Rows PySem.W PySem.Calls
section
variable {P:Program} {w:World} {A:Around} {E:Value->Shared->Prop} {s:Shared} {a I:Addr}
end
end L2
namespace L2
open PySem PySem.Spec PyProof.Rows
section
variable {X:Cx} {K:PySem.W.Frag} {P:Program} {w:World}
def IR (C:Addr) (ta:TE) (f:Str):TE:=fun σ H Q=>ta σ H fun x H1=>match x with
 | .ref a=>∃ dx fs v,H1 a=some (.ins C dx fs)/\fs.lookup f=some v/\Q v H1
 | _=>False
def Hc (C:Addr) (ta tv:TE) (f:Str):TS:=fun D σ H=>tv σ H fun y H1=>ta σ H1 fun x H2=>match x with
 | .ref a=>∃ dx fs,H2 a=some (.ins C dx fs)/\fs.length < 1000/\D.nx σ (upd H2 a (.ins C dx (AJ f y fs)))
 | _=>False
variable {C:Addr} {f:Str} {e o value:Expr} {ta tv td ty:TE} {pos pos':Pos}
theorem At (c:Cls K C) (n:NoAttr K C f) (he:PE X e ta) (hK:X.K=K:=by rfl) (hb:attributeBase e f X.env (eval e X.env)=eval e X.env:=by rfl):PE X (.Attribute e f pos) (IR C ta f):=by
 subst hK
 intro pins s σ H Q I h
 refine Hr hb (thn (he pins s σ H _ I h) fun u s1 ⟨x,H1,I1,rx,q⟩=>?_)
 match x,q with
 | .ref a,⟨dx,fs,v,ea,l,q⟩ =>
 obtain rfl:u=Value.ref a:=rx
 exact Hv I1 ea c n l fun u' s2 I2 ru=>⟨v,H1,I2,ru,q⟩
theorem BQ (c:Cls K C) (n:NoAttr K C f) (ha:PE X o ta) (hv:PE X value tv) (hK:X.K=K:=by rfl) (hs:swapsWith value (some (.Attribute o f pos')) pos.line X.env=pure false:=by rfl):PS X (.Assign [.Attribute o f pos'] value pos) (Hc C ta tv f):=by
 subst hK
 intro pins s σ H D I h
 refine plainObj_wpAny_Assign_Attribute (thn (hv pins s σ H _ I h) fun u s1 ⟨y,H1,I1,ry,q⟩=>thn (ha pins s1 σ H1 _ I1 q) fun ov s2 ⟨x,H2,I2,rx,q2⟩=>?_) hs
 match x,q2 with
 | .ref a,⟨dx,fs,ea,l,q2⟩ =>
 obtain rfl:ov=Value.ref a:=rx
 exact HW I2 ea c n l ry fun s3 I3=>⟨σ,_,I3,q2⟩
end
end L2
namespace L2
open PySem PySem.Spec PyProof.Rows PySem.W
end L2
namespace L2
open PySem PySem.Spec PyProof.Rows PySem.W PySem.Calls
section
variable {P:Program} {w:World} {A:Around} {E:Value->Shared->Prop} {s:Shared}
end
end L2
namespace L2
open PySem PySem.Spec PyProof.Rows PySem.W
section
variable {P:Program} {w:World} {A:Around} {E:Value->Shared->Prop} {s:Shared}
end
section
variable {X:Cx}
end
section
variable {X:Cx} {k:Nat} {f:Addr} {fd:FuncData} {ps:List Str} {sp:Sp} {x:Str} {p pos:Pos} {e:Expr} {es:List Expr} {t:TA} {tn:TE}
end
section
variable {X:Cx} {pins:List (Addr × Obj)} {σ:St} {H:Hp} {s:Shared}
end
section
variable {X:Cx} {Pt c f:Addr} {fd:FuncData} {ps:List Str} {k i:Nat} {kn a:Str} {kp pos lpos:Pos} {params:Arguments} {body:Expr} {scope:Scope} {e:Expr} {es:List Expr} {t:TA} {qual:Str} {spK:Addr->Addr->V->Sp}
end
end L2
namespace L2
open PySem PyProof.Rows
section
variable {X:Cx} {K:PySem.W.Frag} {o e:Expr} {to:TE} {t:TA} {apos cpos:Pos}
end
end L2
namespace L2
open PySem PySem.Spec PyProof.Rows PySem.SeqAt
section
variable {X:Cx} {K:PySem.W.Frag}
end
end L2
namespace L2
open PySem PySem.Spec PyProof.Rows
section
variable {X:Cx} {K:PySem.W.Frag}
end
section
variable {X:Cx} {K:PySem.W.Frag} {e:Expr} {te:TE} {p pos kpos cp:Pos} {kd:Nat} {i:Int}
end
end L2
namespace L2
open PySem PyProof.Rows
def FO (K:PySem.W.Frag):V->List V->Hp->VK->Prop:=fun x vs H Q=>match x,vs with
 | .ref l,[.ref b]=>∃ xs ys,H l=some (.lst xs)/\SqL K H b ys/\b≠l/\xs.length+ys.length<=100000/\Q .non (upd H l (.lst (xs++ys)))
 | _,_=>False
section
variable {X:Cx} {K:PySem.W.Frag} {o e:Expr} {to:TE} {t:TA} {apos cpos:Pos}
theorem Jz:MtR X "list.extend" (FO X.K):=by
 intro pins s σ H x vs v us Q I rx rv q
 match x,vs,q with
 | .ref l,[.ref b],⟨xs,ys,hH,hb,hne,h3,q⟩ =>
 cases rx
 obtain ⟨u,rfl,ru⟩:=Bv rv
 cases ru
 obtain ⟨z,its,n,r,hl,e⟩:=I.lstM hH
 obtain ⟨its2,r2,pl2,hz2⟩:=I.list hb
 obtain ⟨o2,e2,c2,n2,d2⟩:=pl2.isList
 have l1:=r.length
 have l2:=r2.length
 have hlb:l≠b:=Ne.symm hne
 refine wpAny_call_entry F.slot_list_extend ⟨_,e,rfl⟩ F.entry_list_extend ?_ (F.args_list_extend_2 _ _)
 show wpAny _ _ (Builtin.List.listExtendWith (.ref l) (.ref b) .none) _ _ s
 unfold Builtin.List.listExtendWith;refine wpAny_bind (wpAny_typeOf (T:="list") ⟨o2,e2,c2⟩ ?_)
 have h1:Builtin.List.listSameRef (.ref l) (.ref b)=false:=by simp [Builtin.List.listSameRef,hlb]
 have h2:(Value.type "list" == Value.type "list")=true:=by decide
 simp only [h1,h2,Bool.true_or,if_true]
 refine wpAny_bind (listItems_at e2 d2 (wpAny_bind (listItems_at e rfl ?_)))
 rw [if_neg (by
  rw [Bool.and_eq_true]
  rintro ⟨_,q⟩
  unfold Builtin.List.listTooLong at q
  simp [sizeLine_eq] at q
  omega)]
 refine wpAny_bind (listUpdate_at e rfl ?_ (by rw [List.size_toArray,sizeLine_eq];omega) (by rw [Array.size_append,List.size_toArray,List.size_toArray,sizeLine_eq];omega))
 refine wpAny_pure ⟨_,rfl,?_⟩;exact ⟨.non,_,I.lset (its':=its++its2) hH e (by simp) (r.append r2) (by rw [List.length_append,sizeLine_eq];omega),rfl,q⟩
theorem Im (ho:PE X o to) (ha:PA X [e] t) (hbase:attributeBase o "extend" X.env (eval o X.env)=eval o X.env:=by rfl)
 (hfew:((backTo cpos (starEach [e] X.env)).all (fun x=>!x.1) && (backToKw cpos (keywordEach [] X.env)).all (fun x=>x.1.isSome)
   && decide ([e].length+([]:List Keyword).length+(if ([]:List Keyword).isEmpty then 0 else 1) < 30))=true:=by rfl)
 (hline:(apos.endLine == cpos.line)=true:=by rfl) (hs:starEach [e] X.env=(false,eval e X.env)::starEach [] X.env:=by rfl) (hplain:(backTo cpos (starEach [] X.env)).any (·.1)=false:=by rfl) (hK:X.K=K:=by rfl) :
 PE X (.Call (.Attribute o "extend" apos) [e] [] cpos) (tBM K "list" (FO K) to t):=hK ▸ CH PySem.F.plainAttrs_list PySem.F.slot_list_extend PySem.F.type_list_extend Jz ho ha hbase hfew hline hs hplain
end
end L2
namespace L2
open PySem PySem.Spec PyProof.Rows
section
variable {X:Cx} {K:PySem.W.Frag} {e:Expr} {te:TE} {lo hi:Option Expr} {tl th:TO} {pos p2:Pos}
end
end L2
namespace L2
open PySem
def CY (P:Program) (w:World) (K:PySem.W.Frag) (a:Addr) (kvs:List (Key × V)):Prop :=
 (a == sysModules)=false/\∃ vs,KV kvs vs/\∃ o,K.lookup a=some o/\o.IsDictOf (A0 P w) vs
section
variable {X:Cx} {pins:List (Addr × Obj)} {σ:St} {H:Hp} {s:Shared} {a:Addr}
theorem FH {kvs:List (Key × V)} (I:Inv X pins σ H s) (h:CY X.prog X.w X.K a kvs):(a == sysModules)=false/\∃ vs,KV kvs vs/\s.heap.DictOf (A0 X.prog X.w) a vs:=by
 obtain ⟨h1,vs,h2,o,h3,h4⟩:=h
 exact ⟨h1,vs,h2,Heap.dictOf_iff.mpr ⟨o,I.kIn _ _ h3,h4⟩⟩
variable {kvs:List (Key × V)} {i:Expr} {pos pos' apos:Pos} {ty:TE} {x:Str} {P:Program} {w:World} {K:PySem.W.Frag} {o:Expr} {td:TE}
theorem Hg {es:List DictEntry} {ep:Nat} {vs:List (Key × Value)} (hl:K.lookup a=some ⟨.type "dict",none,.dict es.toArray ep,#[]⟩) (ha:(a == sysModules)=false) (rel:KV kvs vs)
 (hk:∀ e∈es,∃ k,(A0 P w).is k e.key=true/\e.hash=(A0 P w).hash k) (hp:Pairs (A0 P w) es vs) (hn:(vs.map (·.1)).Nodup):CY P w K a kvs :=
 ⟨ha,vs,rel,_,hl,es.toArray,ep,⟨rfl,rfl,rfl⟩,rfl,fun e he=>hk e (by simpa using he),by simpa using hp,hn⟩
end
end L2
namespace L2
open PySem Builtin Builtin.Str
section
variable {X:Cx} {a:Addr} {kvs:List (Key × V)} {o e:Expr} {ty to:TE} {t:TA} {apos cpos:Pos} {P:Program} {w:World} {K:PySem.W.Frag}
def HQ (kvs:List (Key × V)) (ty:TE):TE:=fun σ H Q=>ty σ H fun y H2=>∃ k,y=kV k/\Q ((Af kvs k).getD .non) H2
theorem Iz (hd:CY P w K a kvs) (ho:PE X o (tC (.ref a))) (he:PE X e ty) (m:M1 X o "get" apos e cpos) (hP:X.prog=P:=by rfl) (hw:X.w=w:=by rfl) (hK:X.K=K:=by rfl) :
 PE X (.Call (.Attribute o "get" apos) [e] [] cpos) (HQ kvs ty):=by
 subst hP hw hK
 intro pins s σ H Q I h
 refine wpAny_Call_method m.base m.few m.line PySem.F.plainAttrs_dict PySem.F.slot_dict_get PySem.F.type_dict_get
  (thn (ho pins s σ H (fun y H1=>y=.ref a/\ty σ H1 fun y H2=>∃ k,y=kV k/\Q ((Af kvs k).getD .non) H2) I ⟨rfl,h⟩) fun u s1 ⟨x,H1,I1,rx,ex,q1⟩=>?_)
 subst ex
 obtain rfl:u=Value.ref a:=rx
 obtain ⟨hs,vs,rel,dd⟩:=FH I1 hd
 refine ⟨dd.typeIs,fun b q=>?_,?_⟩
 ·cases q
  obtain ⟨ob,_,_,h1,h2,_⟩:=dd
  exact ⟨ob,h1,h2.2.1⟩
 rw [m.trees]
 refine Calls.callWith_builtin rfl (Calls.evalArgs_plain (Calls.spliced_cons (thn (he pins s1 σ H1 _ I1 q1) fun iv s2 ⟨y,H2,I2,ry,k,ey,q2⟩=>Calls.spliced_nil ?_)))
 subst ey
 obtain ⟨hs,vs,rel,dd⟩:=FH I2 hd
 exact call_meetsIn PySem.F.slot_dict_get dd.typeIs PySem.F.entry_dict_get (PySem.F.args_dict_get_2 _ _) (meets_dict_get (A0 X.prog X.w) a (Ae ry) hs)
  ⟨_,dd.mapOf,⟨_,H2,I2.tok _,(rel.val k).getD (d:=.non) rfl,q2⟩⟩
theorem EH:∀ {ws:List Str} {us:List Value},Vals (ws.map V.str) us->∃ l:List (Str × Tok),us=strValues l/\l.map (·.1)=ws
 | [],us,h=>by cases h;exact ⟨[],rfl,rfl⟩
 | x::ws,us,h=>by
  cases h with
  | cons r h =>
   obtain ⟨l,rfl,e⟩:=EH h
   obtain ⟨t,rfl⟩:=r
   exact ⟨(x,t)::l,rfl,by rw [List.map_cons,e]⟩
theorem FW:∀ l:List (Str × Tok),Vals ((l.map (·.1)).map V.str) (strValues l)
 | []=>.nil
 | (x,t)::l=>.cons ⟨t,rfl⟩ (FW l)
def Fj (K:PySem.W.Frag):V->List V->Hp->VK->Prop:=fun x vs H Q=>match x,vs with
 | .str sep,[.ref l]=>∃ ws:List Str,SqL K H l (ws.map V.str)/\JoinOk sep ws=true/\Q (.str (Str.join sep ws)) H
 | _,_=>False
theorem IW:MtR X "str.join" (Fj X.K):=by
 intro pins s σ H x vs v us Q I rx rv q
 match x,vs,q with
 | .str sep,[.ref l],⟨ws,hl,hok,q⟩ =>
 obtain ⟨t,rfl⟩:=rx
 obtain ⟨u,rfl,ru⟩:=Bv rv
 cases ru
 obtain ⟨its,r,pl,hz⟩:=I.list hl
 obtain ⟨ls,rfl,e⟩:=EH r
 refine SC.join pl.isList e hok fun t' k=>⟨.str (Str.join sep ws),H,I.tok _,⟨t',?_⟩,q⟩
 have:Txt.join sep ws=Str.join sep ws:=StrLaws.glued_eq_join sep ws
 rw [this]
theorem Ff (ho:PE X o to) (ha:PA X [e] t) (hbase:attributeBase o "join" X.env (eval o X.env)=eval o X.env:=by rfl)
 (hfew:((backTo cpos (starEach [e] X.env)).all (fun x=>!x.1) && (backToKw cpos (keywordEach [] X.env)).all (fun x=>x.1.isSome)
   && decide ([e].length+([]:List Keyword).length+(if ([]:List Keyword).isEmpty then 0 else 1) < 30))=true:=by rfl)
 (hline:(apos.endLine == cpos.line)=true:=by rfl) (hs:starEach [e] X.env=(false,eval e X.env)::starEach [] X.env:=by rfl) (hplain:(backTo cpos (starEach [] X.env)).any (·.1)=false:=by rfl) (hK:X.K=K:=by rfl) :
 PE X (.Call (.Attribute o "join" apos) [e] [] cpos) (tBM K "str" (Fj K) to t):=hK ▸ CH PySem.F.plainAttrs_str PySem.F.slot_str_join PySem.F.type_str_join IW ho ha hbase hfew hline hs hplain
theorem GC {prog:Program} {w:World} {A:Around} {E:Value->Shared->Prop} {s:Shared} {x y:Str} {t u:Tok} {Q:Value->Shared->Prop} (hy:(y.length == 0)=false) (hsz:x.length<=sizeLine)
 (hsz2:(partsBetween x (occurrences x y 0 x.length (x.length+1)) y.length).length<=sizeLine)
 (hq:∀ (l:List (Str × Tok)) (k:Nat),l.map (·.1)=Txt.split x y->Q (.ref s.heap.objs.size) { s with toks:=k,heap:=s.heap.push { cls:=.type "list",data:=.seq (strValues l).toArray } }) :
 wpAny (model prog w) A (call (.builtin "str.split") [.str x t,.str y u]) Q E s:=by
 cases h1:decide (x.length < y.length) || decide (strKind x < strKind y) with
 | true=>exact call_meets F.slot_str_split (typeIs_str _ _ _) F.entry_str_split (F.args_str_split_2 _ _) (meets_str_split_cannot_occur x y t u h1) (hq [(x,t)] s.toks (if_pos h1).symm)
 | false =>
  cases hf:(occurrences x y 0 x.length (x.length+1)).isEmpty with
  | true=>exact call_meets F.slot_str_split (typeIs_str _ _ _) F.entry_str_split (F.args_str_split_2 _ _) (meets_str_split_not_found x y t u h1 hy hf) (hq [(x,t)] s.toks ((if_neg (ne_true_of_eq_false h1)).trans (if_pos hf)).symm)
  | false =>
   refine call_meets F.slot_str_split (typeIs_str _ _ _) F.entry_str_split (F.args_str_split_2 _ _) (meets_str_split_sep x y t u h1 hy hf hsz hsz2) ?_
   have z:=hq (numbered s.toks (partsBetween x (occurrences x y 0 x.length (x.length+1)) y.length)) (s.toks+(partsBetween x (occurrences x y 0 x.length (x.length+1)) y.length).length) ((numbered_texts _ _).trans ((if_neg (ne_true_of_eq_false h1)).trans (if_neg (ne_true_of_eq_false hf))).symm)
   rw [<- strsFrom_eq] at z
   exact z
theorem FR (x y:Str):(partsBetween x (occurrences x y 0 x.length (x.length+1)) y.length).length<=x.length+2:=by
 have:=StrLaws.occ_length_le_len x y 0 x.length (x.length+1)
 unfold partsBetween
 simp
 omega
theorem JM (x y:Str):(Txt.split x y).length<=x.length+2:=by
 have h:=FR x y
 unfold Txt.split
 split
 ·simp
 ·split
  ·simp
  ·exact h
def E5:V->List V->Hp->VK->Prop:=fun x vs H Q=>match x,vs with
 | .str x,[.str y]=>(y.length == 0)=false/\x.length<=1000/\∀ p,H p=none->Q (.ref p) (upd H p (.lst ((Txt.split x y).map V.str)))
 | _,_=>False
theorem GD:MtR X "str.split" E5:=by
 intro pins s σ H x vs v us Q I rx rv q
 match x,vs,q with
 | .str x,[.str y],⟨hy,hx,q⟩ =>
 obtain ⟨t,rfl⟩:=rx
 obtain ⟨u,rfl,ru⟩:=Bv rv
 obtain ⟨t2,rfl⟩:=ru
 have hl:=FR x y
 have hl2:=JM x y
 have big:2000<=sizeLine:=by decide
 refine GC hy (by omega) (by omega) fun l k e=>?_
 refine ⟨.ref s.heap.objs.size,upd H s.heap.objs.size (.lst ((Txt.split x y).map V.str)),I.laid (t':=k) (fun b u e=>Heap.get?_push_of_some _ e) (Nat.le_refl _) ?_,rfl,q _ (I.hok.fresh (Nat.le_refl _))⟩
 refine ⟨by rw [List.length_map];omega,strValues l,0,?_,Heap.get?_push_size _ rfl⟩
 rw [<- e]
 exact FW l
theorem JA (ho:PE X o to) (ha:PA X [e] t) (hbase:attributeBase o "split" X.env (eval o X.env)=eval o X.env:=by rfl)
 (hfew:((backTo cpos (starEach [e] X.env)).all (fun x=>!x.1) && (backToKw cpos (keywordEach [] X.env)).all (fun x=>x.1.isSome)
   && decide ([e].length+([]:List Keyword).length+(if ([]:List Keyword).isEmpty then 0 else 1) < 30))=true:=by rfl)
 (hline:(apos.endLine == cpos.line)=true:=by rfl) (hs:starEach [e] X.env=(false,eval e X.env)::starEach [] X.env:=by rfl) (hplain:(backTo cpos (starEach [] X.env)).any (·.1)=false:=by rfl) (hK:X.K=K:=by rfl) :
 PE X (.Call (.Attribute o "split" apos) [e] [] cpos) (tBM K "str" E5 to t):=hK ▸ CH PySem.F.plainAttrs_str PySem.F.slot_str_split PySem.F.type_str_split GD ho ha hbase hfew hline hs hplain
end
theorem CB (sep x y:Str) (r:List Str):Str.join sep (x::y::r)=x++sep++Str.join sep (y::r):=rfl
theorem FC {c:Nat}:∀ {a b x y:List Nat},c∉a->c∉b->a++c::x=b++c::y->a=b/\x=y
 | [],[],x,y,_,_,h=>by simpa using h
 | [],z::b,x,y,_,hb,h=>by
  have:c=z:=by simpa using (List.cons.inj h).1
  exact absurd (by rw [this];simp) hb
 | z::a,[],x,y,ha,_,h=>by
  have:z=c:=by simpa using (List.cons.inj h).1
  exact absurd (by rw [this];simp) ha
 | z::a,u::b,x,y,ha,hb,h=>by
  have h':=List.cons.inj h
  have:=FC (fun w=>ha (List.mem_cons_of_mem _ w)) (fun w=>hb (List.mem_cons_of_mem _ w)) h'.2
  exact ⟨by rw [h'.1,this.1],this.2⟩
theorem Ea {c:Nat}:∀ {as bs:List Str},as≠[]->bs≠[]->(∀ a∈as,c∉a.cps.toList)->(∀ b∈bs,c∉b.cps.toList)->Str.join ⟨#[c]⟩ as=Str.join ⟨#[c]⟩ bs->as=bs
 | [],_,h,_,_,_,_=>absurd rfl h
 | _,[],_,h,_,_,_=>absurd rfl h
 | [a],[b],_,_,_,_,e=>by
  have:a=b:=e
  rw [this]
 | [a],b::b'::bs,_,_,ha,hb,e=>by
  rw [CB] at e
  have e1:a.cps.toList=(b++⟨#[c]⟩++Str.join ⟨#[c]⟩ (b'::bs)).cps.toList:=congrArg (fun s:Str=>s.cps.toList) e
  simp only [Str.cps_append,Array.toList_append] at e1
  exact absurd (by rw [e1];simp) (ha a (by simp))
 | a::a'::as,[b],_,_,ha,hb,e=>by
  rw [CB] at e
  have e1:(a++⟨#[c]⟩++Str.join ⟨#[c]⟩ (a'::as)).cps.toList=b.cps.toList:=congrArg (fun s:Str=>s.cps.toList) e
  simp only [Str.cps_append,Array.toList_append] at e1
  exact absurd (by rw [<- e1];simp) (hb b (by simp))
 | a::a'::as,b::b'::bs,_,_,ha,hb,e=>by
  rw [CB,CB] at e
  have e1:(a++⟨#[c]⟩++Str.join ⟨#[c]⟩ (a'::as)).cps.toList=(b++⟨#[c]⟩++Str.join ⟨#[c]⟩ (b'::bs)).cps.toList:=congrArg (fun s:Str=>s.cps.toList) e
  simp only [Str.cps_append,Array.toList_append,List.append_assoc] at e1
  have e2:=FC (c:=c) (ha a (by simp)) (hb b (by simp)) e1
  have e3:a=b:=Str.ext' (Array.toList_inj.mp e2.1)
  have e4:Str.join ⟨#[c]⟩ (a'::as)=Str.join ⟨#[c]⟩ (b'::bs):=Str.ext' (Array.toList_inj.mp e2.2)
  rw [e3,Ea (by simp) (by simp) (fun z hz=>ha z (List.mem_cons_of_mem _ hz)) (fun z hz=>hb z (List.mem_cons_of_mem _ hz)) e4]
theorem IA (x y:Str) (h:(y.length == 0)=false):Txt.split x y≠[]:=by
 intro e
 unfold Txt.split at e
 split at e
 ·cases e
 ·split at e
  ·cases e
  ·rename_i h1 h2
   unfold partsBetween at e
   simp at e
theorem split_join {c:Nat} {ws:List Str} (h0:ws≠[]) (h:∀ a∈ws,c∉a.cps.toList):Txt.split (Str.join ⟨#[c]⟩ ws) ⟨#[c]⟩=ws :=
 Ea (c:=c) (IA _ _ rfl) h0 (StrLaws.split_free _ c) h (StrLaws.join_split _ _)
end L2
namespace Mine
open PySem L2
def top (i:Nat):Stmt:=PySem.Challenge.pw_flips_k06_formulas_written_and_read.main.body.getD i (.Pass ⟨0,0,0,0⟩)
abbrev By:Stmt:=top 7
abbrev Bo:Stmt:=top 8
abbrev Bi:Stmt:=top 10
abbrev Bl:Stmt:=top 11
abbrev Br:Stmt:=top 12
abbrev BX:Stmt:=B9 (top 13) 0
abbrev Bt:Stmt:=B9 (top 13) 1
abbrev BR:Stmt:=B9 (top 13) 2
abbrev BU:Stmt:=B9 (top 13) 3
abbrev Bx:Stmt:=B9 (top 13) 4
abbrev Bj:Stmt:=top 15
abbrev BW:Stmt:=top 16
abbrev Be:Stmt:=top 17
abbrev Bm:Stmt:=top 18
abbrev A6:Stmt:=top 19
local macro_rules | `(tactic| walk_at "f")=>`(tactic| exact ⟨rfl,rfl,rfl,by decide +kernel,rfl,by decide +kernel,by decide +kernel⟩)
theorem Fp:FnScope ["word"] ["word"] (AG By):=by walk_at "f"
theorem JK:FnScope ["many","depth"] ["many","depth"] (AG Bo):=by walk_at "f"
theorem JI:FnScope ["formula"] ["formula"] (AG Bi):=by walk_at "f"
theorem sc_z17:FnScope ["formula","words","part"] ["formula"] (AG Bl):=by walk_at "f"
theorem sc_z20:FnScope ["n","text","reader","formula"] ["n","text"] (AG Br):=by walk_at "f"
theorem GZ:FnScope ["self","n","text"] ["self","n","text"] (AG BX):=by walk_at "f"
theorem G1:FnScope ["self"] ["self"] (AG Bt):=by walk_at "f"
theorem sc_z0:FnScope ["self","depth","word","parts"] ["self","depth"] (AG BR):=by walk_at "f"
theorem sc_z8:FnScope ["self","word"] ["self"] (AG BU):=by walk_at "f"
theorem GU:FnScope ["self"] ["self"] (AG Bx):=by walk_at "f"
theorem Gp:FnScope ["_law_script"] ["_law_script"] (AG Bj):=by walk_at "f"
theorem sc_z16:FnScope ["_law_tape_here","_law_many","_law_script","_law_digit","_law_cell","_law_seed"] ["_law_tape_here","_law_many"] (AG BW):=by walk_at "f"
theorem sc_z13:FnScope ["_law_tape_here","_law_n","_law_room","_law_deep","_law_way","_law_first","_law_second","_law_rooms","_law_one","_law_other"] ["_law_tape_here","_law_n","_law_room","_law_deep"] (AG Be):=by walk_at "f"
theorem sc_z14:FnScope ["_law_formula_here","_law_found","_law_one"] ["_law_formula_here"] (AG Bm):=by walk_at "f"
theorem sc_law:FnScope ["_law_script","_law_tape_here","_law_turn","_law_n","_law_formula_here","_law_text","_law_found","_law_more"] ["_law_script"] (AG A6):=by walk_at "f"
set_option genInjectivity false
set_option genSizeOf false
structure Txt (w:World) (K:W.Frag) (mg:Str->Option Value) where
 C_Reader:Addr
 mC_Reader:mg "Reader" = some (.ref C_Reader)
 cl_Reader:Cls K C_Reader
 na_Reader_figures:NoAttr K C_Reader "figures"
 na_Reader_words:NoAttr K C_Reader "words"
 na_Reader_spot:NoAttr K C_Reader "spot"
 na_Reader_begun:NoAttr K C_Reader "begun"
 f_z18:Addr
 d_z18:FuncData
 F_z18:Fun K "parts_of" "parts_of" By f_z18 d_z18
 b_z18:Binds K d_z18 ["word"] []
 m_z18:mg "parts_of" = some (.ref f_z18)
 f_z12:Addr
 d_z12:FuncData
 F_z12:Fun K "is_too_large" "is_too_large" Bo f_z12 d_z12
 b_z12:Binds K d_z12 ["many","depth"] []
 m_z12:mg "is_too_large" = some (.ref f_z12)
 f_z19:Addr
 d_z19:FuncData
 F_z19:Fun K "shown" "shown" Bi f_z19 d_z19
 b_z19:Binds K d_z19 ["formula"] []
 m_z19:mg "shown" = some (.ref f_z19)
 f_z17:Addr
 d_z17:FuncData
 F_z17:Fun K "words_of" "words_of" Bl f_z17 d_z17
 b_z17:Binds K d_z17 ["formula"] []
 m_z17:mg "words_of" = some (.ref f_z17)
 f_z20:Addr
 d_z20:FuncData
 F_z20:Fun K "read" "read" Br f_z20 d_z20
 b_z20:Binds K d_z20 ["n","text"] []
 m_z20:mg "read" = some (.ref f_z20)
 f_z11:Addr
 d_z11:FuncData
 F_z11:Fun K "__init__" "Reader.__init__" BX f_z11 d_z11
 b_z11:Binds K d_z11 ["self","n","text"] []
 me_z11:Meth K C_Reader "__init__" f_z11
 mk_Reader:Mk K C_Reader f_z11
 f_z9:Addr
 d_z9:FuncData
 F_z9:Fun K "next_word" "Reader.next_word" Bt f_z9 d_z9
 b_z9:Binds K d_z9 ["self"] []
 me_z9:Meth K C_Reader "next_word" f_z9
 f_z0:Addr
 d_z0:FuncData
 F_z0:Fun K "take_formula" "Reader.take_formula" BR f_z0 d_z0
 b_z0:Binds K d_z0 ["self","depth"] []
 me_z0:Meth K C_Reader "take_formula" f_z0
 f_z8:Addr
 d_z8:FuncData
 F_z8:Fun K "take_switch" "Reader.take_switch" BU f_z8 d_z8
 b_z8:Binds K d_z8 ["self"] []
 me_z8:Meth K C_Reader "take_switch" f_z8
 f_z10:Addr
 d_z10:FuncData
 F_z10:Fun K "take_end" "Reader.take_end" Bx f_z10 d_z10
 b_z10:Binds K d_z10 ["self"] []
 me_z10:Meth K C_Reader "take_end" f_z10
 f_z15:Addr
 d_z15:FuncData
 F_z15:Fun K "_law_tape" "_law_tape" Bj f_z15 d_z15
 b_z15:Binds K d_z15 ["_law_script"] []
 m_z15:mg "_law_tape" = some (.ref f_z15)
 f_z16:Addr
 d_z16:FuncData
 F_z16:Fun K "_law_next" "_law_next" BW f_z16 d_z16
 b_z16:Binds K d_z16 ["_law_tape_here","_law_many"] []
 m_z16:mg "_law_next" = some (.ref f_z16)
 f_z13:Addr
 d_z13:FuncData
 F_z13:Fun K "_law_formula" "_law_formula" Be f_z13 d_z13
 b_z13:Binds K d_z13 ["_law_tape_here","_law_n","_law_room","_law_deep"] []
 m_z13:mg "_law_formula" = some (.ref f_z13)
 f_z14:Addr
 d_z14:FuncData
 F_z14:Fun K "_law_words" "_law_words" Bm f_z14 d_z14
 b_z14:Binds K d_z14 ["_law_formula_here"] []
 m_z14:mg "_law_words" = some (.ref f_z14)
 f_law:Addr
 d_law:FuncData
 F_law:Fun K "law" "law" A6 f_law d_law
 b_law:Binds K d_law ["_law_script"] []
 m_law:mg "law" = some (.ref f_law)
 z_isinstance:mg "isinstance" = none
 z_len:mg "len" = none
 z_max:mg "max" = none
 z_range:mg "range" = none
 z_repr:mg "repr" = none
 z_str:mg "str" = none
 z_tuple:mg "tuple" = none
 a_PARTS:Addr
 c_PARTS:mg "PARTS" = some (.ref a_PARTS)
 q_PARTS:∀ P:Program,CY P w K a_PARTS [(Sum.inr "yes",.int 0),(Sum.inr "no",.int 0),(Sum.inr "at",.int 0),(Sum.inr "not",.int 1),(Sum.inr "both",.int 2),(Sum.inr "either",.int 2),(Sum.inr "odd",.int 2),(Sum.inr "most",.int 3)]
 t_MOST_FORMULAS:Tok
 c_MOST_FORMULAS:mg "MOST_FORMULAS" = some (.int 20 t_MOST_FORMULAS)
 t_MOST_WITHIN:Tok
 c_MOST_WITHIN:mg "MOST_WITHIN" = some (.int 8 t_MOST_WITHIN)
set_option genInjectivity true
set_option genSizeOf true
section
variable {P:Program} {w:World} {K:W.Frag} {mg:Str->Option Value} {base:Heap} (T:Txt w K mg)
local macro_rules | `(tactic| walk_at "sm")=>`(tactic| repeat' with_reducible first | exact J3 | apply Gr | apply Hk | apply Gw | apply Hd | exact Fn | exact JS | apply Gy | apply Ga | apply Hu | apply Gg | apply JL | apply GA | apply GB | exact HS | exact JQ | exact J4 | exact HL | exact Jf | exact Gs | exact J6 | exact Iu | apply Iv | apply GG | apply GH | apply Hl | exact KD | apply Ja | exact Ge | exact Fz | exact HV | exact JE | apply IV | apply JH | exact Jg | exact Gz | exact IG | assumption)
theorem vw {X:Cx} (i:Nat) {x:Str} {pos:Pos} (h:X.N[i]? = some x/\Vis X.env.scope x/\(x == ("__debug__" : Str))=false/\(x == ("__classdict__" : Str))=false):PE X (.Name x pos) (B8 i):=vv i h.1 h.2.1 h.2.2.1 h.2.2.2
theorem pa1 {X:Cx} {e:PySem.Expr} {te:TE} (ha:PE X e te) (hs:starEach [e] X.env=[(false,eval e X.env)]):PA X [e] (DI te Ci):=AE ha Gv hs
local macro_rules | `(tactic| left)=>`(tactic| exact ⟨by rfl,by first | exact Or.inl rfl | exact Or.inr (Or.inl rfl) | exact Or.inr (Or.inr rfl),by decide,by decide⟩)
local macro_rules | `(tactic| walk_at "m")=>`(tactic| with_reducible first | refine Exists.imp fun _=>?_ | refine And.imp_right ?_ | refine forall_imp fun _=>?_)
local macro_rules | `(tactic| walk_at "o")=>`(tactic| first | exact Or.inl rfl | exact Or.inr (Or.inl rfl) | exact Or.inr (Or.inr rfl))
local macro_rules | `(tactic| symm)=>`(tactic| first | exact .inl rfl | exact .inr rfl | assumption)
local macro_rules | `(tactic| right)=>`(tactic| first | exact Or.inl rfl | exact Or.inr rfl)
local macro_rules | `(tactic| walk_at "n")=>`(tactic| first | exact DW _ (by decide) (by decide) | rfl)
theorem Ic:FnOk P w K mg base CX0 1 T.f_z15 T.d_z15 ["_law_script"] (Co K):=by
 refine T.F_z15.ok Gp (fun vs H Q E h=>by unfold Co at h;split at h <;> first | rfl | exact h.elim) (fun cdv A outer s H vs Q E hr h=>?_)
 unfold Co at h
 split at h
 rotate_left
 ·exact h.elim
 rename_i a
 have k:=h
 refine ⟨_,(@AI _ _ _ (@AQ _ _ _ _ (@A5 _ _ _ _ (@AE _ _ _ _ _ (@vw _ 0 _ _ (by left)) (@AE _ _ _ _ _ (@AA _ _ _ _) (@AE _ _ _ _ _ (@AA _ _ _ _) (@pa1 _ _ _ (@AA _ _ _ _) (by rfl)) (by rfl)) (by rfl)) (by rfl))))),?_⟩
 exact ⟨by show 4<=sizeLine;rw [sizeLine_eq];decide,k⟩
theorem Et:FnOk P w K mg base CX0 1 T.f_z16 T.d_z16 ["_law_tape_here","_law_many"] (B5 K):=by
 refine T.F_z16.ok sc_z16 (fun vs H Q E h=>by unfold B5 at h;split at h <;> first | rfl | exact h.elim) (fun cdv A outer s H vs Q E hr h=>?_)
 have hu:=Al hr
 unfold B5 at h
 split at h
 rotate_left
 ·exact h.elim
 rename_i t m
 obtain ⟨a,ns,TP,hm,k⟩:=h
 obtain ⟨⟨i,r,c,hi,hr0,ht⟩,hscr⟩:=id TP
 refine ⟨_,(@AC _ _ _ _ _ (@AO _ _ 2 _ _ _ _ sc_z16.nd rfl (by right) (@kIx _ K _ _ _ _ _ (@vw _ 0 _ _ (by left)) (@AA _ _ _ _) (by intro _ _;rfl) (by rfl)) (by rfl) (by symm)) (@AC _ _ _ _ _ (@CU _ _ _ _ _ _ (@AD _ _ _ _ _ _ _ _ (Aa (K:=K)) (@kIx _ K _ _ _ _ _ (@vw _ 0 _ _ (by left)) (@AA _ _ _ _) (by intro _ _;rfl) (by rfl)) (@AA _ _ _ _)) (@CQ _ _ _ _ _ _ _ (@vw _ 0 _ _ (by left)) (@AA _ _ _ _) Ca (by intro _;rfl)) (by rfl) (by rfl) (by rfl)) (@AC _ _ _ _ _ (@Aj _ _ _ _ _ _ _ _ (PW.pt (@Ei _ _ _ _ _ _ _ (@AU _ _ _ _ _ _ _ _ (kEq (K:=K) hu) (@kIx _ K _ _ _ _ _ (@vw _ 0 _ _ (by left)) (@AA _ _ _ _) (by intro _ _;rfl) (by rfl)) (@AA _ _ _ _) (by walk_at "n")) (@EC _ _ _ _ (@AU _ _ _ _ _ _ _ _ BK (@kIx _ K _ _ _ _ _ (@vw _ 0 _ _ (by left)) (@AA _ _ _ _) (by intro _ _;rfl) (by rfl)) (@BC _ _ _ _ _ _ _ _ _ (CC (K:=K)) rfl T.z_len (by rfl) (@pa1 _ _ _ (@vw _ 2 _ _ (by left)) (by rfl)) (by decide) (by decide) (by rfl) (by rfl)) (by walk_at "n"))))) (@AC _ _ _ _ _ (@CU _ _ _ _ _ _ (@BC _ _ _ _ _ _ _ _ _ (GV rfl) rfl T.z_max (by rfl) (@AE _ _ _ _ _ (@AA _ _ _ _) (@pa1 _ _ _ (@AD _ _ _ _ _ _ _ _ EY (@kIx _ K _ _ _ _ _ (@vw _ 2 _ _ (by left)) (@kIx _ K _ _ _ _ _ (@vw _ 0 _ _ (by left)) (@AA _ _ _ _) (by intro _ _;rfl) (by rfl)) (by intro _ _;rfl) (by rfl)) (@AD _ _ _ _ _ _ _ _ HH (@AA _ _ _ _) (@AA _ _ _ _))) (by rfl)) (by rfl)) (by decide) (by decide) (by rfl) (by rfl)) (@CQ _ _ _ _ _ _ _ (@vw _ 0 _ _ (by left)) (@AA _ _ _ _) Ca (by intro _;rfl)) (by rfl) (by rfl) (by rfl)) (@AI _ _ _ (@CU _ _ _ _ _ _ (@AD _ _ _ _ _ _ _ _ (Aa (K:=K)) (@kIx _ K _ _ _ _ _ (@vw _ 0 _ _ (by left)) (@AA _ _ _ _) (by intro _ _;rfl) (by rfl)) (@AA _ _ _ _)) (@CQ _ _ _ _ _ _ _ (@vw _ 0 _ _ (by left)) (@AA _ _ _ _) Ca (by intro _;rfl)) (by rfl) (by rfl) (by rfl)))) (@Ah _)) (@AC _ _ _ _ _ (@Aj _ _ _ _ _ _ _ _ (@AU _ _ _ _ _ _ _ _ Bq (@kIx _ K _ _ _ _ _ (@vw _ 0 _ _ (by left)) (@AA _ _ _ _) (by intro _ _;rfl) (by rfl)) (@AA _ _ _ _) (by walk_at "n")) (@AC _ _ _ _ _ (@AO _ _ 3 _ _ _ _ sc_z16.nd rfl (by right) (@AD _ _ _ _ _ _ _ _ A7 (@kIx _ K _ _ _ _ _ (@vw _ 0 _ _ (by left)) (@AA _ _ _ _) (by intro _ _;rfl) (by rfl)) (@vw _ 1 _ _ (by left))) (by rfl) (by symm)) (@AC _ _ _ _ _ (@CU _ _ _ _ _ _ (@AD _ _ _ _ _ _ _ _ EY (@kIx _ K _ _ _ _ _ (@vw _ 0 _ _ (by left)) (@AA _ _ _ _) (by intro _ _;rfl) (by rfl)) (@vw _ 1 _ _ (by left))) (@CQ _ _ _ _ _ _ _ (@vw _ 0 _ _ (by left)) (@AA _ _ _ _) Ca (by intro _;rfl)) (by rfl) (by rfl) (by rfl)) (@AI _ _ _ (@AQ _ _ _ _ (@vw _ 3 _ _ (by left)))))) (@Ah _)) (@AC _ _ _ _ _ (@AO _ _ 4 _ _ _ _ sc_z16.nd rfl (by right) (@Ix _ _ _ _ _ _ _ _ (@AU _ _ _ _ _ _ _ _ Bq (@BC _ _ _ _ _ _ _ _ _ (CC (K:=K)) rfl T.z_len (by rfl) (@pa1 _ _ _ (@vw _ 2 _ _ (by left)) (by rfl)) (by decide) (by decide) (by rfl) (by rfl)) (@AA _ _ _ _) (by walk_at "n")) (@kIx _ K _ _ _ _ _ (@vw _ 2 _ _ (by left)) (@AD _ _ _ _ _ _ _ _ A7 (@kIx _ K _ _ _ _ _ (@vw _ 0 _ _ (by left)) (@AA _ _ _ _) (by intro _ _;rfl) (by rfl)) (@BC _ _ _ _ _ _ _ _ _ (CC (K:=K)) rfl T.z_len (by rfl) (@pa1 _ _ _ (@vw _ 2 _ _ (by left)) (by rfl)) (by decide) (by decide) (by rfl) (by rfl))) (by intro _ _;rfl) (by rfl)) (@AA _ _ _ _)) (by rfl) (by symm)) (@AC _ _ _ _ _ (@AO _ _ 5 _ _ _ _ sc_z16.nd rfl (by right) (@AD _ _ _ _ _ _ _ _ A7 (@AD _ _ _ _ _ _ _ _ Cj (@AD _ _ _ _ _ _ _ _ (Aa (K:=K)) (@AD _ _ _ _ _ _ _ _ (Aa (K:=K)) (@AD _ _ _ _ _ _ _ _ A7 (@vw _ 4 _ _ (by left)) (@AA _ _ _ _)) (@AD _ _ _ _ _ _ _ _ Cj (@AA _ _ _ _) (@kIx _ K _ _ _ _ _ (@vw _ 0 _ _ (by left)) (@AA _ _ _ _) (by intro _ _;rfl) (by rfl)))) (@AA _ _ _ _)) (@AA _ _ _ _)) (@AA _ _ _ _)) (by rfl) (by symm)) (@AI _ _ _ (@AQ _ _ _ _ (@AD _ _ _ _ _ _ _ _ A7 (@AD _ _ _ _ _ _ _ _ A7 (@AD _ _ _ _ _ _ _ _ Cj (@AD _ _ _ _ _ _ _ _ A7 (@AD _ _ _ _ _ _ _ _ (Aa (K:=K)) (@AD _ _ _ _ _ _ _ _ Cj (@vw _ 5 _ _ (by left)) (@AA _ _ _ _)) (@kIx _ K _ _ _ _ _ (@vw _ 0 _ _ (by left)) (@AA _ _ _ _) (by intro _ _;rfl) (by rfl))) (@AA _ _ _ _)) (@AA _ _ _ _)) (@AA _ _ _ _)) (@vw _ 1 _ _ (by left))))))))))),?_⟩
 -- script=tape[0];tape[3]=tape[3]+1
 refine ⟨_,_,.inl (.of ht),rfl,_,_,.inl (.of ht),rfl,_,_,ht,rfl,?_⟩
 have sc0:∀ {H1:Hp},(∀ b,b≠t->H1 b=H b)->ScrAt K H1 t a ns:=fun h=>hscr.stay fun o n e=>by rw [h a n];exact e
 have sc1:∀ {H1:Hp},(∀ b,b≠t->H1 b=H b)->SqL K H1 a (ns.map V.int):=fun h=>(sc0 h).sq
 have f1:∀ {o:HO} {H1:Hp},(∀ b,b≠t->H1 b=H b)->∀ b,b≠t->upd H1 t o b=H b:=fun h b n=>by rw [AF n];exact h b n
 dsimp only
 refine BY (fun σ' H1=>σ'=[some (.ref t),some (.int m),some (.ref a),none,none,none]/\(∀ b,b≠t->H1 b=H b)/\∃ i r c:Int,0<=i/\0<=r/\H1 t=some (.lst [.ref a,.int i,.int r,.int c])) ?_ ?_ (by walk_at "sm")
 ·-- the next number of the script,where the last one is used up
  have h1:∀ {o:HO} (b:Addr),b≠t->upd H t o b=H b:=fun b n=>AF n
  refine ⟨_,_,.inl (.of AB),rfl,?_⟩
  refine Ag (fun e=>?_) (fun e=>?_)
  ·refine ⟨_,_,.inl (.of AB),rfl,ns.length,.inl ⟨_,sc1 h1,by rw [List.length_map]⟩,?_⟩
   refine Ag (fun e=>?_) (fun e=>?_)
   ·have hlt:i < ns.length:=of_decide_eq_true e
    obtain ⟨z,hz⟩:=E6 hi hlt
    refine ⟨_,_,.inl (.of AB),rfl,_,_,.inl (sc1 h1),hz,⟨by decide,by decide,by decide⟩,⟨by decide,by decide⟩,?_⟩
    refine ⟨_,_,AB,rfl,_,_,.inl (.of AB),rfl,_,_,AB,rfl,rfl,?_,i+1,max 0 (z / 10 ^ 18),c+1,by omega,by omega,AB⟩
    exact f1 (f1 h1)
   ·exact ⟨rfl,h1,i,r,c+1,hi,hr0,AB⟩
  ·exact ⟨rfl,h1,i,r,c+1,hi,hr0,AB⟩
 rintro σ' H1 ⟨rfl,h1,i,r,c,hi,hr0,ht⟩
 have T1:∀ {H2:Hp} {i r c:Int},(∀ b,b≠t->H2 b=H b)->0<=i->0<=r->H2 t=some (.lst [.ref a,.int i,.int r,.int c])->Tape K H2 t a ns:=fun h h1 h2 h3=>⟨⟨_,_,_,h1,h2,h3⟩,sc0 h⟩
 -- a digit of it
 refine ⟨_,_,.inl (.of ht),rfl,?_⟩
 have hm0:0 < m:=hm.1
 refine Ag (fun e=>?_) (fun e=>?_)
 ·refine ⟨_,_,.inl (.of ht),rfl,hm0,_,_,.inl (.of ht),rfl,hm,_,_,ht,rfl,?_⟩
  exact k _ _ (Int.emod_nonneg _ (by omega)) (Int.emod_lt_of_pos _ hm0) (T1 (f1 h1) hi (Int.ediv_nonneg hr0 (by omega)) AB) (f1 h1)
 -- else a number made of the cell
 dsimp only [BJ]
 refine BY (fun σ' H2=>H2=H1/\∃ z:Int,σ'=[some (.ref t),some (.int m),some (.ref a),none,some (.int z),none]) ?_ ?_ (by walk_at "sm")
 ·refine ⟨ns.length,.inl ⟨_,sc1 h1,by rw [List.length_map]⟩,?_⟩
  refine Ag (fun e=>?_) (fun e=>?_)
  ·have hlt:(0:Int) < ns.length:=of_decide_eq_true e
   obtain ⟨z,hz⟩:=E6 (ns:=ns) (Int.emod_nonneg c (show (ns.length:Int)≠0 by omega)) (Int.emod_lt_of_pos c hlt)
   exact ⟨_,_,.inl (.of ht),rfl,ns.length,.inl ⟨_,sc1 h1,by rw [List.length_map]⟩,hlt,_,_,.inl (sc1 h1),hz,rfl,z,rfl⟩
  ·exact ⟨rfl,0,rfl⟩
 rintro σ' H2 ⟨rfl,z,rfl⟩
 refine ⟨by decide,_,_,.inl (.of ht),rfl,.inr (.inl ⟨by decide,by decide⟩),.inr (.inr ⟨by decide,by decide⟩),by decide,?_⟩
 refine ⟨.inr (.inr ⟨by decide,by decide⟩),_,_,.inl (.of ht),rfl,by decide,.inr (.inr ⟨by decide,by decide⟩),by decide,hm0,?_⟩
 exact k _ _ (Int.emod_nonneg _ (by omega)) (Int.emod_lt_of_pos _ hm0) (T1 h1 hi hr0 ht) h1
inductive Fm where
 | yes | no | at_ (i:Nat) | not_ (a:Fm) | both (a b:Fm) | either (a b:Fm) | odd (a b:Fm) | most (a b c:Fm)
def Fm.word:Fm->Str
 | .yes=>"yes" | .no=>"no" | .at_ _=>"at" | .not_ _=>"not" | .both _ _=>"both" | .either _ _=>"either" | .odd _ _=>"odd" | .most _ _ _=>"most"
def Fm.dv:Fm->Dv
 | .yes=>.tup [.str "yes"]
 | .no=>.tup [.str "no"]
 | .at_ i=>.tup [.str "at",.int (i:Nat)]
 | .not_ a=>.tup [.str "not",a.dv]
 | .both a b=>.tup [.str "both",a.dv,b.dv]
 | .either a b=>.tup [.str "either",a.dv,b.dv]
 | .odd a b=>.tup [.str "odd",a.dv,b.dv]
 | .most a b c=>.tup [.str "most",a.dv,b.dv,c.dv]
def Fm.parts:Fm->List Fm
 | .not_ a=>[a] | .both a b=>[a,b] | .either a b=>[a,b] | .odd a b=>[a,b] | .most a b c=>[a,b,c] | _=>[]
def Fm.tail:Fm->List Dv
 | .at_ i=>[.int (i:Nat)]
 | f=>f.parts.map Fm.dv
theorem Eh (f:Fm):f.dv=.tup (.str f.word::f.tail):=by cases f <;> rfl
def Fm.deep:Fm->Nat
 | .not_ a=>a.deep+1
 | .both a b=>max a.deep b.deep+1
 | .either a b=>max a.deep b.deep+1
 | .odd a b=>max a.deep b.deep+1
 | .most a b c=>max (max a.deep b.deep) c.deep+1
 | _=>1
def Fm.many:Fm->Nat
 | .not_ a=>a.many+1
 | .both a b=>a.many+b.many+1
 | .either a b=>a.many+b.many+1
 | .odd a b=>a.many+b.many+1
 | .most a b c=>a.many+b.many+c.many+1
 | _=>1
def Fm.ok (n:Nat):Fm->Prop
 | .at_ i=>i < n
 | .not_ a=>a.ok n
 | .both a b=>a.ok n/\b.ok n
 | .either a b=>a.ok n/\b.ok n
 | .odd a b=>a.ok n/\b.ok n
 | .most a b c=>a.ok n/\b.ok n/\c.ok n
 | _=>True
theorem CL (f:Fm):1<=f.deep:=by cases f <;> simp only [Fm.deep] <;> omega
theorem Dc {f g:Fm} (h:g∈f.parts):g.deep+1<=f.deep:=by
 cases f <;> simp only [Fm.parts,List.mem_cons,List.mem_nil_iff,or_false] at h <;> simp only [Fm.deep] <;> rcases h with h | h | h <;> (try subst h) <;> omega
theorem Cw {f g:Fm} {n:Nat} (h:g∈f.parts) (k:f.ok n):g.ok n:=by
 cases f <;> simp only [Fm.parts,List.mem_cons,List.mem_nil_iff,or_false] at h <;> simp only [Fm.ok] at k
 all_goals first
  | (subst h;exact k)
  | (rcases h with h | h <;> subst h <;> first | exact k.1 | exact k.2)
  | (rcases h with h | h | h <;> subst h <;> first | exact k.1 | exact k.2.1 | exact k.2.2)
theorem DJ (f:Fm):BD f.dv=true:=by
 induction f <;> simp [Fm.dv,BD,Ay, *]
theorem FM {K:W.Frag} {H:Hp} {f:Fm} {v:V} (h:Rep K H f.dv v):∃ a xs,v=.ref a/\SqT K H a (.str f.word::xs)/\Reps K H f.tail xs:=by
 rw [Eh] at h
 unfold Rep at h
 obtain ⟨a,xs,e,h1,h2⟩:=h
 unfold Reps at h2
 obtain ⟨x,r,e2,h3,h4⟩:=h2
 unfold Rep at h3
 subst e2 h3
 exact ⟨a,r,e,h1,h4⟩
theorem HR (f:Fm):AM f.dv<=f.deep:=by
 induction f <;> simp only [Fm.dv,AM,A8,Fm.deep] at * <;> omega
def spF (K:W.Frag) (d:Nat):Sp:=fun vs H Q _=>match vs with
 | [.ref t,.int n,.int room,.int deep]=>∃ (a:Addr) (ns:List Int) (m:Nat),Tape K H t a ns/\n=m/\1<=m/\m<=6/\1<=room/\room<=20/\1<=deep/\deep<=d /\
  ∀ (f:Fm) v H',f.ok m->(f.deep:Int)<=deep->(f.many:Int)<=room->Rep K H' f.dv v->Tape K H' t a ns->Frm t H H'->Q v H'
 | _=>False
theorem DC {K:W.Frag} {d:Nat}:AS (spF K d):=fun vs H Q Q' E h q=>by
 unfold spF at *
 split at q
 ·obtain ⟨a,ns,m,h1,h2,h3,h4,h5,h6,h7,h8,q⟩:=q
  exact ⟨a,ns,m,h1,h2,h3,h4,h5,h6,h7,h8,fun f v H' a1 a2 a3 a4 a5 a6=>h _ _ (q f v H' a1 a2 a3 a4 a5 a6)⟩
 ·exact q.elim
theorem Gx:∀ d:Nat,FnOk P w K mg base CX0 (2+d) T.f_z13 T.d_z13 ["_law_tape_here","_law_n","_law_room","_law_deep"] (spF K d):=by
 intro d
 induction d with
 | zero =>
  refine FnOk.mono (j:=1) ?_ (by omega)
  refine T.F_z13.ok sc_z13 (fun vs H Q E h=>by unfold spF at h;split at h <;> first | rfl | exact h.elim) (fun cdv A outer s H vs Q E hr h=>?_)
  refine ⟨Df,IC,?_⟩
  unfold spF at h
  split at h
  ·obtain ⟨a,ns,m,h1,h2,h3,h4,h5,h6,h7,h8,q⟩:=h
   exact absurd h7 (by omega)
  ·exact h
 | succ d ih =>
  have G_z13:=ih
  have G_z16:=Et (P:=P) (w:=w) (base:=base) T
  refine T.F_z13.ok sc_z13 (fun vs H Q E h=>by unfold spF at h;split at h <;> first | rfl | exact h.elim) (fun cdv A outer s H vs Q E hr h=>?_)
  have hu:=Al hr
  have hr_z13:=hr
  have hr_z16:=hr.mono (show 1<=2+d by omega)
  match vs,h with
  | [.ref t,.int n,.int room,.int deep],h =>
  obtain ⟨a,ns,m,TP,e1,m1,m2,r1,r2,d1,d2,k⟩:=h
  subst e1
  refine ⟨_,(@AC _ _ _ _ _ (@AO _ _ 4 _ _ _ _ sc_z13.nd rfl (by right) (@AR _ _ _ _ _ _ _ _ _ _ _ _ _ _ _ _ G_z16 hr_z16 rfl T.m_z16 T.F_z16.kp T.b_z16 .nil AL (@AE _ _ _ _ _ (@vw _ 0 _ _ (by left)) (@pa1 _ _ _ (@AA _ _ _ _) (by rfl)) (by rfl)) (by decide) (by rfl) (by rfl)) (by rfl) (by symm)) (@AC _ _ _ _ _ (@Aj _ _ _ _ _ _ _ _ (PW.pt (@B6 _ _ _ _ _ _ _ (@AU _ _ _ _ _ _ _ _ BK (@vw _ 2 _ _ (by left)) (@AA _ _ _ _) (by walk_at "n")) (@B6 _ _ _ _ _ _ _ (@AU _ _ _ _ _ _ _ _ BK (@vw _ 3 _ _ (by left)) (@AA _ _ _ _) (by walk_at "n")) (@Cb _ _ _ _ (@AU _ _ _ _ _ _ _ _ BK (@vw _ 4 _ _ (by left)) (@AA _ _ _ _) (by walk_at "n")))))) (@AC _ _ _ _ _ (@Aj _ _ _ _ _ _ _ _ (@AU _ _ _ _ _ _ _ _ (kEq (K:=K) hu) (@AD _ _ _ _ _ _ _ _ A7 (@vw _ 4 _ _ (by left)) (@AA _ _ _ _)) (@AA _ _ _ _) (by walk_at "n")) (@AI _ _ _ (@AQ _ _ _ _ (@Bc _ _ _ _ _ (@pa1 _ _ _ (@kIx _ K _ _ _ _ _ (@A5 _ _ _ _ (@AE _ _ _ _ _ (@Ab _ _ _ _) (@pa1 _ _ _ (@Ab _ _ _ _) (by rfl)) (by rfl))) (@AR _ _ _ _ _ _ _ _ _ _ _ _ _ _ _ _ G_z16 hr_z16 rfl T.m_z16 T.F_z16.kp T.b_z16 .nil AL (@AE _ _ _ _ _ (@vw _ 0 _ _ (by left)) (@pa1 _ _ _ (@AA _ _ _ _) (by rfl)) (by rfl)) (by decide) (by rfl) (by rfl)) (by intro _ _;rfl) (by rfl)) (by rfl))))) (@Ah _)) (@AI _ _ _ (@AQ _ _ _ _ (@Bc _ _ _ _ _ (@AE _ _ _ _ _ (@Ab _ _ _ _) (@pa1 _ _ _ (@AR _ _ _ _ _ _ _ _ _ _ _ _ _ _ _ _ G_z16 hr_z16 rfl T.m_z16 T.F_z16.kp T.b_z16 .nil AL (@AE _ _ _ _ _ (@vw _ 0 _ _ (by left)) (@pa1 _ _ _ (@vw _ 1 _ _ (by left)) (by rfl)) (by rfl)) (by decide) (by rfl) (by rfl)) (by rfl)) (by rfl)))))) (@Ah _)) (@AC _ _ _ _ _ (@Aj _ _ _ _ _ _ _ _ (PW.pt (@B6 _ _ _ _ _ _ _ (@AU _ _ _ _ _ _ _ _ BK (@vw _ 4 _ _ (by left)) (@AA _ _ _ _) (by walk_at "n")) (@Cb _ _ _ _ (@AU _ _ _ _ _ _ _ _ BK (@vw _ 2 _ _ (by left)) (@AA _ _ _ _) (by walk_at "n"))))) (@AI _ _ _ (@AQ _ _ _ _ (@Bc _ _ _ _ _ (@AE _ _ _ _ _ (@Ab _ _ _ _) (@pa1 _ _ _ (@AR _ _ _ _ _ _ _ _ _ _ _ _ _ _ _ _ G_z13 hr_z13 rfl T.m_z13 T.F_z13.kp T.b_z13 .nil AL (@AE _ _ _ _ _ (@vw _ 0 _ _ (by left)) (@AE _ _ _ _ _ (@vw _ 1 _ _ (by left)) (@AE _ _ _ _ _ (@AD _ _ _ _ _ _ _ _ An (@vw _ 2 _ _ (by left)) (@AA _ _ _ _)) (@pa1 _ _ _ (@AD _ _ _ _ _ _ _ _ An (@vw _ 3 _ _ (by left)) (@AA _ _ _ _)) (by rfl)) (by rfl)) (by rfl)) (by rfl)) (by decide) (by rfl) (by rfl)) (by rfl)) (by rfl))))) (@Ah _)) (@AC _ _ _ _ _ (@Aj _ _ _ _ _ _ _ _ (PW.pt (@Ei _ _ _ _ _ _ _ (@AU _ _ _ _ _ _ _ _ Bq (@vw _ 4 _ _ (by left)) (@AA _ _ _ _) (by walk_at "n")) (@EC _ _ _ _ (@AU _ _ _ _ _ _ _ _ Bq (@vw _ 2 _ _ (by left)) (@AA _ _ _ _) (by walk_at "n"))))) (@AC _ _ _ _ _ (@AO _ _ 5 _ _ _ _ sc_z13.nd rfl (by right) (@AD _ _ _ _ _ _ _ _ (Aa (K:=K)) (@AA _ _ _ _) (@AR _ _ _ _ _ _ _ _ _ _ _ _ _ _ _ _ G_z16 hr_z16 rfl T.m_z16 T.F_z16.kp T.b_z16 .nil AL (@AE _ _ _ _ _ (@vw _ 0 _ _ (by left)) (@pa1 _ _ _ (@AD _ _ _ _ _ _ _ _ An (@vw _ 2 _ _ (by left)) (@AA _ _ _ _)) (by rfl)) (by rfl)) (by decide) (by rfl) (by rfl))) (by rfl) (by symm)) (@AC _ _ _ _ _ (@AO _ _ 6 _ _ _ _ sc_z13.nd rfl (by right) (@AD _ _ _ _ _ _ _ _ (Aa (K:=K)) (@AA _ _ _ _) (@AR _ _ _ _ _ _ _ _ _ _ _ _ _ _ _ _ G_z16 hr_z16 rfl T.m_z16 T.F_z16.kp T.b_z16 .nil AL (@AE _ _ _ _ _ (@vw _ 0 _ _ (by left)) (@pa1 _ _ _ (@AD _ _ _ _ _ _ _ _ An (@AD _ _ _ _ _ _ _ _ An (@vw _ 2 _ _ (by left)) (@AA _ _ _ _)) (@vw _ 5 _ _ (by left))) (by rfl)) (by rfl)) (by decide) (by rfl) (by rfl))) (by rfl) (by symm)) (@AC _ _ _ _ _ (@AO _ _ 7 _ _ _ _ sc_z13.nd rfl (by right) (@A5 _ _ _ _ (@AE _ _ _ _ _ (@vw _ 5 _ _ (by left)) (@AE _ _ _ _ _ (@vw _ 6 _ _ (by left)) (@pa1 _ _ _ (@AD _ _ _ _ _ _ _ _ An (@AD _ _ _ _ _ _ _ _ An (@AD _ _ _ _ _ _ _ _ An (@vw _ 2 _ _ (by left)) (@AA _ _ _ _)) (@vw _ 5 _ _ (by left))) (@vw _ 6 _ _ (by left))) (by rfl)) (by rfl)) (by rfl))) (by rfl) (by symm)) (@AI _ _ _ (@AQ _ _ _ _ (@AD _ _ _ _ _ _ _ _ (Aa (K:=K)) (@Bc _ _ _ _ _ (@pa1 _ _ _ (@Ab _ _ _ _) (by rfl))) (@CP _ _ _ _ _ _ _ _ _ (Eu (K:=K)) rfl T.z_tuple (by rfl) (@pa1 _ _ _ (@DH _ _ _ _ _ _ _ (["_law_one","_law_tape_here","_law_n","_law_deep"]) 1 ([0,1,3]) _ _ _ _ rfl (@Cd _ K _ _ _ (@vw _ 7 _ _ (by left)) (by rfl)) (by kernel_rfl) rfl rfl (by kernel_rfl) (fun c=>@BM _ _ 0 _ (show (["_law_one","_law_tape_here","_law_n","_law_deep"]:List Str).Nodup by decide +kernel) rfl (by right) (by symm)) (Ct (by decide)) (fun c=>@C8 _) (fun c=>(@AR _ _ _ _ _ _ _ _ _ _ _ _ _ _ _ _ G_z13 hr_z13 rfl T.m_z13 T.F_z13.kp T.b_z13 .nil AL (@AE _ _ _ _ _ (@vw _ 1 _ _ (by left)) (@AE _ _ _ _ _ (@vw _ 2 _ _ (by left)) (@AE _ _ _ _ _ (@vw _ 0 _ _ (by left)) (@pa1 _ _ _ (@AD _ _ _ _ _ _ _ _ An (@vw _ 3 _ _ (by left)) (@AA _ _ _ _)) (by rfl)) (by rfl)) (by rfl)) (by rfl)) (by decide) (by rfl) (by rfl))) (by intro _;rfl)) (by rfl)) (by decide) (by decide) (by rfl) (by rfl)))))))) (@Ah _)) (@AC _ _ _ _ _ (@AO _ _ 5 _ _ _ _ sc_z13.nd rfl (by right) (@AD _ _ _ _ _ _ _ _ (Aa (K:=K)) (@AA _ _ _ _) (@AR _ _ _ _ _ _ _ _ _ _ _ _ _ _ _ _ G_z16 hr_z16 rfl T.m_z16 T.F_z16.kp T.b_z16 .nil AL (@AE _ _ _ _ _ (@vw _ 0 _ _ (by left)) (@pa1 _ _ _ (@AD _ _ _ _ _ _ _ _ An (@vw _ 2 _ _ (by left)) (@AA _ _ _ _)) (by rfl)) (by rfl)) (by decide) (by rfl) (by rfl))) (by rfl) (by symm)) (@AC _ _ _ _ _ (@AO _ _ 8 _ _ _ _ sc_z13.nd rfl (by right) (@AR _ _ _ _ _ _ _ _ _ _ _ _ _ _ _ _ G_z13 hr_z13 rfl T.m_z13 T.F_z13.kp T.b_z13 .nil AL (@AE _ _ _ _ _ (@vw _ 0 _ _ (by left)) (@AE _ _ _ _ _ (@vw _ 1 _ _ (by left)) (@AE _ _ _ _ _ (@vw _ 5 _ _ (by left)) (@pa1 _ _ _ (@AD _ _ _ _ _ _ _ _ An (@vw _ 3 _ _ (by left)) (@AA _ _ _ _)) (by rfl)) (by rfl)) (by rfl)) (by rfl)) (by decide) (by rfl) (by rfl)) (by rfl) (by symm)) (@AC _ _ _ _ _ (@AO _ _ 9 _ _ _ _ sc_z13.nd rfl (by right) (@AR _ _ _ _ _ _ _ _ _ _ _ _ _ _ _ _ G_z13 hr_z13 rfl T.m_z13 T.F_z13.kp T.b_z13 .nil AL (@AE _ _ _ _ _ (@vw _ 0 _ _ (by left)) (@AE _ _ _ _ _ (@vw _ 1 _ _ (by left)) (@AE _ _ _ _ _ (@AD _ _ _ _ _ _ _ _ An (@AD _ _ _ _ _ _ _ _ An (@vw _ 2 _ _ (by left)) (@AA _ _ _ _)) (@vw _ 5 _ _ (by left))) (@pa1 _ _ _ (@AD _ _ _ _ _ _ _ _ An (@vw _ 3 _ _ (by left)) (@AA _ _ _ _)) (by rfl)) (by rfl)) (by rfl)) (by rfl)) (by decide) (by rfl) (by rfl)) (by rfl) (by symm)) (@AI _ _ _ (@AQ _ _ _ _ (@Bc _ _ _ _ _ (@AE _ _ _ _ _ (@kIx _ K _ _ _ _ _ (@A5 _ _ _ _ (@AE _ _ _ _ _ (@Ab _ _ _ _) (@AE _ _ _ _ _ (@Ab _ _ _ _) (@pa1 _ _ _ (@Ab _ _ _ _) (by rfl)) (by rfl)) (by rfl))) (@AD _ _ _ _ _ _ _ _ A7 (@vw _ 4 _ _ (by left)) (@AA _ _ _ _)) (by intro _ _;rfl) (by rfl)) (@AE _ _ _ _ _ (@vw _ 8 _ _ (by left)) (@pa1 _ _ _ (@vw _ 9 _ _ (by left)) (by rfl)) (by rfl)) (by rfl)))))))))))),?_⟩
  refine ⟨a,ns,TP,A9 (by decide) (by decide),fun way H1 w0 w1 T1 f1=>?_⟩
  have F1:=B0 f1
  dsimp only [Ac]
  refine BY (fun σ' H'=>H'=H1/\σ'=[some (.ref t),some (.int m),some (.int room),some (.int deep),some (.int way),none,none,none,none,none]/\2<=room/\2<=deep/\2<=way) ?_ ?_ (by walk_at "sm")
  ·refine C5 (decide (room < 2) || (decide (deep < 2) || decide (way < 2))) (fun Q q=>?_) ?_
   ·show if decide (room < 2)=true then Q true H1 else if decide (deep < 2)=true then Q true H1 else Q (decide (way < 2)) H1
    revert q
    cases decide (room < 2) <;> cases decide (deep < 2) <;> exact id
   refine Ag (fun _=>?_) (fun e=>?_)
   ·refine ⟨by decide,?_⟩
    refine Ag (fun _=>?_) (fun _=>?_)
    ·-- yes,no
     refine ⟨AT (show 2<=1000 by decide),fun p hp=>⟨a,ns,T1.upd hp,A9 (by decide) (by decide),fun c H2 c0 c1 T2 f2=>?_⟩⟩
     have g2:H2 p=some (.lst [.str "yes",.str "no"]):=by rw [f2 p (T1.neT hp)];exact AB
     have FF:Frm t H H2:=(F1.trans (Frm.upd hp)).trans (B0 f2)
     have:c=0\/c=1:=by omega
     rcases this with e | e <;> subst e
     ·refine ⟨_,_,.inl (.of g2),rfl,AT (show 1<=1000 by decide),fun q hq=>?_⟩
      exact k .yes _ _ trivial (by show ((1:Nat):Int)<=deep;omega) (by show ((1:Nat):Int)<=room;omega) (A3 AB (AN A2 Ar)) (T2.upd hq) (FF.trans (Frm.upd hq))
     ·refine ⟨_,_,.inl (.of g2),rfl,AT (show 1<=1000 by decide),fun q hq=>?_⟩
      exact k .no _ _ trivial (by show ((1:Nat):Int)<=deep;omega) (by show ((1:Nat):Int)<=room;omega) (A3 AB (AN A2 Ar)) (T2.upd hq) (FF.trans (Frm.upd hq))
    ·-- at
     refine ⟨a,ns,T1,A9 (by omega) (Int.le_trans (show (m:Int)<=6 by omega) (by decide)),fun c H2 c0 c1 T2 f2=>⟨AT (show 2<=1000 by decide),fun q hq=>?_⟩⟩
     obtain ⟨c,rfl⟩:=Int.eq_ofNat_of_zero_le c0
     exact k (.at_ c) _ _ (by show c < m;omega) (by show ((1:Nat):Int)<=deep;omega) (by show ((1:Nat):Int)<=room;omega) (A3 AB (AN A2 (AN Dp Ar))) (T2.upd hq) ((F1.trans (B0 f2)).trans (Frm.upd hq))
   ·simp only [Bool.or_eq_true,decide_eq_true_eq,not_or] at e
    exact ⟨rfl,rfl,by omega,by omega,by omega⟩
  rintro σ' H' ⟨rfl,rfl,hroom,hdeep,hway⟩
  -- not
  refine BY (fun σ' H2=>H2=H'/\σ'=[some (.ref t),some (.int m),some (.int room),some (.int deep),some (.int way),none,none,none,none,none]/\3<=room) ?_ ?_ (by walk_at "sm" <;> exact DC)
  ·refine C5 (decide (way < 4) || decide (room < 3)) (fun Q q=>?_) ?_
   ·show if decide (way < 4)=true then Q true H' else Q (decide (room < 3)) H'
    revert q
    cases decide (way < 4) <;> exact id
   refine Ag (fun _=>?_) (fun e=>?_)
   ·refine ⟨a,ns,m,T1,rfl,m1,m2,by omega,by omega,by omega,by omega,fun f v H2 k1 k2 k3 k4 k5 k6=>⟨AT (show 2<=1000 by decide),fun q hq=>?_⟩⟩
    exact k (.not_ f) _ _ k1 (by show ((f.deep+1:Nat):Int)<=deep;omega) (by show ((f.many+1:Nat):Int)<=room;omega) (A3 AB (AN A2 (AN (Rep.same (Same.upd hq) _ _ k4) Ar))) (k5.upd hq) ((F1.trans k6).trans (Frm.upd hq))
   ·simp only [Bool.or_eq_true,decide_eq_true_eq,not_or] at e
    exact ⟨rfl,rfl,by omega⟩
  rintro σ' H2 ⟨rfl,rfl,hroom3⟩
  -- most
  refine BY (fun σ' H3=>H3=H2/\σ'=[some (.ref t),some (.int m),some (.int room),some (.int deep),some (.int way),none,none,none,none,none]) ?_ ?_ (by walk_at "sm" <;> exact DC)
  ·refine C5 (decide (8 < way) && decide (3 < room)) (fun Q q=>?_) ?_
   ·show if decide (8 < way)=true then Q (decide (3 < room)) H2 else Q false H2
    revert q
    cases decide (8 < way) <;> exact id
   refine Ag (fun e=>?_) (fun _=>⟨rfl,rfl⟩)
   simp only [Bool.and_eq_true,decide_eq_true_eq] at e
   refine ⟨a,ns,T1,A9 (by omega) (Int.le_trans (show room - 3<=20 by omega) (by decide)),fun x H3 x0 x1 T3 f3=>?_⟩
   refine ⟨a,ns,T3,A9 (by omega) (Int.le_trans (show room - 2 - (1+x)<=20 by omega) (by decide)),fun y H4 y0 y1 T4 f4=>?_⟩
   refine ⟨AT (show 3<=1000 by decide),fun p hp=>?_⟩
   refine ⟨AT (show 1<=1000 by decide),fun q0 hq0=>?_⟩
   have T5:=(T4.upd (o:=.lst [.int (1+x),.int (1+y),.int (room - 1 - (1+x) - (1+y))]) hp).upd (o:=.tup [.str "most"]) hq0
   have pq:p≠q0:=fun e=>by rw [e,AB] at hq0;cases hq0
   have gp:upd (upd H4 p (.lst [.int (1+x),.int (1+y),.int (room - 1 - (1+x) - (1+y))])) q0 (.tup [.str "most"]) p=some (.lst [.int (1+x),.int (1+y),.int (room - 1 - (1+x) - (1+y))]):=by rw [AF pq];exact AB
   have gq:upd (upd H4 p (.lst [.int (1+x),.int (1+y),.int (room - 1 - (1+x) - (1+y))])) q0 (.tup [.str "most"]) q0=some (.tup [.str "most"]):=AB
   have F5:Frm t H (upd (upd H4 p (.lst [.int (1+x),.int (1+y),.int (room - 1 - (1+x) - (1+y))])) q0 (.tup [.str "most"])):=(((F1.trans (B0 f3)).trans (B0 f4)).trans (Frm.upd hp)).trans (Frm.upd hq0)
   have npt:p≠t:=T4.neT hp
   have nqt:q0≠t:=(T4.upd hp).neT hq0
   generalize upd (upd H4 p (.lst [.int (1+x),.int (1+y),.int (room - 1 - (1+x) - (1+y))])) q0 (.tup [.str "most"])=H5 at T5 gp gq F5
   refine .inl ⟨⟨_,.of gp⟩,IM (xs:=[.int (1+x),.int (1+y),.int (room - 1 - (1+x) - (1+y))]) (fun i ys H'=>Tape K H' t a ns/\Frm t H5 H'/\∃ fs:List Fm,fs.length=i/\Reps K H' (fs.map Fm.dv) ys/\(∀ f∈fs,f.ok m/\(f.deep:Int)<=deep - 1) /\
    ((fs.map Fm.many).sum:Int)<=(([1+x,1+y,room - 1 - (1+x) - (1+y)]:List Int).take i).sum)
    ⟨T5,Frm.refl,[],rfl,Ar,fun _ h=>absurd h (by simp),by simp⟩ (fun i ys H' _ ⟨_,f,_⟩=>.of (f p _ npt gp)) (fun i ys H' hi ⟨_,_,fs,e1,r,_⟩=>by
     have:=r.length
     rw [List.length_map] at this
     have hi3:i < 3:=hi
     exact Ck (by omega)) ?_ ?_⟩
   ·rintro i v ys H6 hv ⟨T6,F6,fs,hl,hr6,hall,hsum⟩
    have hv':∃ o:Int,v=.int o/\1<=o/\o<=20/\(([1+x,1+y,room - 1 - (1+x) - (1+y)]:List Int).take (i+1)).sum=(([1+x,1+y,room - 1 - (1+x) - (1+y)]:List Int).take i).sum+o:=by
     match i,hv with
     | 0,hv=>cases hv;exact ⟨_,rfl,by omega,by omega,by simp⟩
     | 1,hv=>cases hv;exact ⟨_,rfl,by omega,by omega,by simp⟩
     | 2,hv=>cases hv;exact ⟨_,rfl,by omega,by omega,by simp;omega⟩
    obtain ⟨o,rfl,o1,o2,es⟩:=hv'
    refine ⟨a,ns,m,T6,rfl,m1,m2,o1,o2,by omega,by omega,fun f v H7 k1 k2 k3 k4 k5 k6=>?_⟩
    refine ⟨k5,F6.trans k6,fs++[f],by rw [List.length_append,hl];rfl,?_,fun g hg=>?_,?_⟩
    ·rw [List.map_append]
     have tt:Ay (fs.map Fm.dv)=true:=by
      clear hl hr6 hall hsum
      induction fs with
      | nil=>rfl
      | cons g gs ih=>rw [List.map_cons];unfold Ay;rw [DJ,ih];rfl
     exact Reps.append (Reps.frm k6 T6.lst _ _ tt hr6) (AN k4 Ar)
    ·rcases List.mem_append.mp hg with h | h
     ·exact hall g h
     ·rw [List.mem_singleton.mp h];exact ⟨k1,k2⟩
    ·rw [es,List.map_append,List.sum_append]
     simp only [List.map_cons,List.map_nil,List.sum_cons,List.sum_nil]
     omega
   rintro ys H6 ⟨T6,F6,fs,hl,hr6,hall,hsum⟩ l hl6
   match fs,hl with
   | [f1,f2,f3],_ =>
   have hys:ys.length=3:=by have:=hr6.length;rw [<- this];rfl
   refine ⟨ys,.inl ⟨.of AB,fun l2 hl2=>?_⟩⟩
   have S1:=Same.upd (o:=.lst ys) hl6
   have S2:=Same.upd (o:=.tup ys) hl2
   have gq':upd (upd H6 l (.lst ys)) l2 (.tup ys) q0=some (.tup [.str "most"]):=S2 _ _ (S1 _ _ (F6 q0 _ nqt gq))
   refine .inr ⟨q0,l2,[.str "most"],ys,rfl,rfl,.of gq',.of AB,by simp,AT (by rw [hys];decide),(fun e=>by rw [e] at hys;cases hys),fun _ q hq=>?_⟩
   have S3:=Same.upd (o:=.tup ([V.str "most"]++ys)) hq
   refine k (.most f1 f2 f3) _ _ ⟨(hall f1 (by simp)).1,(hall f2 (by simp)).1,(hall f3 (by simp)).1⟩ ?_ ?_ (A3 AB (AN A2 (Reps.same (S1.trans (S2.trans S3)) _ _ hr6))) (((T6.upd hl6).upd hl2).upd hq) (((F5.trans F6).trans (S1.frm.trans S2.frm)).trans S3.frm)
   ·have h1:=(hall f1 (by simp)).2
    have h2:=(hall f2 (by simp)).2
    have h3:=(hall f3 (by simp)).2
    show ((max (max f1.deep f2.deep) f3.deep+1:Nat):Int)<=deep
    omega
   ·simp only [List.map_cons,List.map_nil,List.sum_cons,List.sum_nil] at hsum
    have hs3:(([1+x,1+y,room - 1 - (1+x) - (1+y)]:List Int).take 3).sum=room - 1:=by simp;omega
    have hsum':((f1.many+(f2.many+(f3.many+0)):Nat):Int)<=room - 1:=by
     rw [<- hs3];exact hsum
    show ((f1.many+f2.many+f3.many+1:Nat):Int)<=room
    omega
  rintro σ' H3 ⟨rfl,rfl⟩
  -- two parts
  refine ⟨a,ns,T1,A9 (by omega) (Int.le_trans (show room - 2<=20 by omega) (by decide)),fun x H4 x0 x1 T4 f4=>?_⟩
  refine ⟨a,ns,m,T4,rfl,m1,m2,by omega,by omega,by omega,by omega,fun f1' v1 H5 a1 a2 a3 a4 a5 a6=>?_⟩
  refine ⟨a,ns,m,a5,rfl,m1,m2,by omega,by omega,by omega,by omega,fun f2' v2 H6 b1 b2 b3 b4 b5 b6=>?_⟩
  refine ⟨AT (show 3<=1000 by decide),fun p hp=>⟨by decide,?_⟩⟩
  have a4':=Rep.frm b6 a5.lst _ _ (DJ f1') a4
  have S1:=Same.upd (o:=.lst [.str "both",.str "either",.str "odd"]) hp
  have FF:=((F1.trans (B0 f4)).trans a6).trans b6
  have dd:((max f1'.deep f2'.deep+1:Nat):Int)<=deep:=by omega
  have mm:((f1'.many+f2'.many+1:Nat):Int)<=room:=by omega
  have:way % 3=0\/way % 3=1\/way % 3=2:=by omega
  rcases this with e | e | e
  ·refine ⟨_,_,.inl (.of AB),by rw [e];rfl,AT (show 3<=1000 by decide),fun q hq=>?_⟩
   have S2:=Same.upd (o:=.tup [.str "both",v1,v2]) hq
   exact k (.both f1' f2') _ _ ⟨a1,b1⟩ dd mm (A3 AB (AN A2 (AN (Rep.same (S1.trans S2) _ _ a4') (AN (Rep.same (S1.trans S2) _ _ b4) Ar)))) ((b5.upd hp).upd hq) (FF.trans (S1.frm.trans S2.frm))
  ·refine ⟨_,_,.inl (.of AB),by rw [e];rfl,AT (show 3<=1000 by decide),fun q hq=>?_⟩
   have S2:=Same.upd (o:=.tup [.str "either",v1,v2]) hq
   exact k (.either f1' f2') _ _ ⟨a1,b1⟩ dd mm (A3 AB (AN A2 (AN (Rep.same (S1.trans S2) _ _ a4') (AN (Rep.same (S1.trans S2) _ _ b4) Ar)))) ((b5.upd hp).upd hq) (FF.trans (S1.frm.trans S2.frm))
  ·refine ⟨_,_,.inl (.of AB),by rw [e];rfl,AT (show 3<=1000 by decide),fun q hq=>?_⟩
   have S2:=Same.upd (o:=.tup [.str "odd",v1,v2]) hq
   exact k (.odd f1' f2') _ _ ⟨a1,b1⟩ dd mm (A3 AB (AN A2 (AN (Rep.same (S1.trans S2) _ _ a4') (AN (Rep.same (S1.trans S2) _ _ b4) Ar)))) ((b5.upd hp).upd hq) (FF.trans (S1.frm.trans S2.frm))
theorem Hy:FnOk P w K mg base CX0 10 T.f_z13 T.d_z13 ["_law_tape_here","_law_n","_law_room","_law_deep"] (spF K 8):=Gx T 8
def atS:Str:=Str.ofString "at"
def Av (s:Str):Option Nat :=
 if s=Str.ofString "yes" then some 0 else if s=Str.ofString "no" then some 0 else if s=Str.ofString "at" then some 0 else if s=Str.ofString "not" then some 1 else
 if s=Str.ofString "both" then some 2 else if s=Str.ofString "either" then some 2 else if s=Str.ofString "odd" then some 2 else if s=Str.ofString "most" then some 3 else none
def C6:List (Key × V):=[(Sum.inr "yes",.int 0),(Sum.inr "no",.int 0),(Sum.inr "at",.int 0),(Sum.inr "not",.int 1),(Sum.inr "both",.int 2),(Sum.inr "either",.int 2),(Sum.inr "odd",.int 2),(Sum.inr "most",.int 3)]
theorem JW (s:Str):Af C6 (Sum.inr s)=(Av s).map fun k=>V.int (k:Nat):=by
 have go:∀ (x:Str) (v:V) (r:List (Key × V)),Af ((Sum.inr x,v)::r) (Sum.inr s:Key)=if s=x then some v else Af r (Sum.inr s):=fun x v r=>by
  by_cases e:s=x
  ·rw [if_pos e,FP (show (Sum.inr x:Key)=Sum.inr s by rw [e])]
  ·rw [if_neg e,EW (fun z=>e (by cases z;rfl))]
 unfold C6 Av
 simp only [go,JX]
 repeat' split
 all_goals first | rfl | contradiction
theorem BZ (s:Str):(false ^^ (s == atS))=decide (s=atS):=by
 rw [Bool.false_xor,Bool.eq_iff_iff];simp
def dgS (i:Nat):Str:=toString ((i:Nat):Int)
def Fm.ws:Fm->List Str
 | .at_ i=>[atS,dgS i]
 | .yes=>[Fm.yes.word]
 | .no=>[Fm.no.word]
 | .not_ a=>(Fm.not_ a).word::a.ws
 | .both a b=>(Fm.both a b).word::(a.ws++b.ws)
 | .either a b=>(Fm.either a b).word::(a.ws++b.ws)
 | .odd a b=>(Fm.odd a b).word::(a.ws++b.ws)
 | .most a b c=>(Fm.most a b c).word::(a.ws++(b.ws++c.ws))
theorem CN {f:Fm} (h:¬ f.word=atS):f.ws=f.word::f.parts.flatMap Fm.ws:=by
 cases f <;> first | exact absurd rfl h | simp [Fm.ws,Fm.parts]
theorem Cr {f:Fm} (h:¬ f.word=atS):f.tail=f.parts.map Fm.dv:=by
 cases f <;> first | rfl | exact absurd rfl h
theorem Ch {f:Fm} (h:f.word=atS):∃ i,f=.at_ i:=by
 cases f <;> first | exact ⟨_,rfl⟩ | (exfalso;revert h;simp only [Fm.word];decide)
theorem CD (f:Fm):f.ws.length<=2 * f.many:=by
 induction f <;> simp only [Fm.ws,Fm.many,List.length_cons,List.length_append,List.length_nil] <;> omega
theorem Il (f:Fm):0 < f.ws.length:=by
 cases f <;> simp [Fm.ws]
theorem GP (f:Fm):1<=f.many:=by cases f <;> simp only [Fm.many] <;> omega
theorem FE {f g:Fm} (h:g∈f.parts):g.many+1<=f.many:=by
 cases f <;> simp only [Fm.parts,List.mem_cons,List.mem_nil_iff,or_false] at h <;> simp only [Fm.many] <;> rcases h with h | h | h <;> (try subst h) <;> omega
def BA (x:Str):Bool:=decide (x.length<=6) && x.cps.toList.all fun c=>decide (c≠32)
theorem Hz {i:Nat} (h:i < 6):BA (dgS i)=true:=by
 have:i=0\/i=1\/i=2\/i=3\/i=4\/i=5:=by omega
 rcases this with rfl | rfl | rfl | rfl | rfl | rfl <;> decide
theorem Ap {n:Nat} (hn:n<=6):∀ {f:Fm},f.ok n->∀ x∈f.ws,BA x=true
 | .at_ i,h,x,hx=>by
  have h:i < n:=h
  simp only [Fm.ws,List.mem_cons,List.not_mem_nil,or_false] at hx
  rcases hx with rfl | rfl
  ·decide
  ·exact Hz (by omega)
 | .yes,_,x,hx=>by
  simp only [Fm.ws,List.mem_cons,List.not_mem_nil,or_false] at hx
  subst hx;decide
 | .no,_,x,hx=>by
  simp only [Fm.ws,List.mem_cons,List.not_mem_nil,or_false] at hx
  subst hx;decide
 | .not_ a,h,x,hx=>by
  simp only [Fm.ws,List.mem_cons] at hx
  rcases hx with rfl | hx
  ·show BA (Str.ofString "not")=true;decide
  ·exact Ap hn (f:=a) h x hx
 | .both a b,h,x,hx=>by
  simp only [Fm.ws,List.mem_cons,List.mem_append] at hx
  rcases hx with rfl | hx | hx
  ·show BA (Str.ofString "both")=true;decide
  ·exact Ap hn (f:=a) h.1 x hx
  ·exact Ap hn (f:=b) h.2 x hx
 | .either a b,h,x,hx=>by
  simp only [Fm.ws,List.mem_cons,List.mem_append] at hx
  rcases hx with rfl | hx | hx
  ·show BA (Str.ofString "either")=true;decide
  ·exact Ap hn (f:=a) h.1 x hx
  ·exact Ap hn (f:=b) h.2 x hx
 | .odd a b,h,x,hx=>by
  simp only [Fm.ws,List.mem_cons,List.mem_append] at hx
  rcases hx with rfl | hx | hx
  ·show BA (Str.ofString "odd")=true;decide
  ·exact Ap hn (f:=a) h.1 x hx
  ·exact Ap hn (f:=b) h.2 x hx
 | .most a b c,h,x,hx=>by
  simp only [Fm.ws,List.mem_cons,List.mem_append] at hx
  rcases hx with rfl | hx | hx | hx
  ·show BA (Str.ofString "most")=true;decide
  ·exact Ap hn (f:=a) h.1 x hx
  ·exact Ap hn (f:=b) h.2.1 x hx
  ·exact Ap hn (f:=c) h.2.2 x hx
theorem EZ {xs:List V} (h:1<=xs.length):BB xs (some 1) none=xs.drop 1:=by
 unfold BB
 have e2:HT.sIx xs.length 0 (some 1)=1:=by
  have:=HT.sIx_nat xs.length 0 1
  rw [show min 1 xs.length=1 by omega] at this
  exact this
 rw [e2,HT.sIx_none,List.take_of_length_le (by rw [List.length_drop];omega)]
theorem Gb {H:Hp} {l p1:Addr} {zs xs:List V} {o:HO} (hl:H l=some (.lst zs)) (h:SqT K H p1 xs):SqT K (upd H l o) p1 xs:=by
 rcases h with (h1 | ⟨o',h1⟩) | h1
 ·exact .inl (.inl (by rw [AF (fun e=>by rw [e,hl] at h1;cases h1)];exact h1))
 ·exact .inl (.inr ⟨o',by rw [AF (fun e=>by rw [e,hl] at h1;cases h1)];exact h1⟩)
 ·exact .inr h1
def spW (K:W.Frag) (D:Nat):Sp:=fun vs H Q _=>match vs with
 | [v]=>∃ (f:Fm) (n:Nat),Rep K H f.dv v/\f.ok n/\n<=6/\f.deep<=D/\f.many<=20/\∀ p H',Same H H'->H' p=some (.lst (f.ws.map V.str))->H p=none->Q (.ref p) H'
 | _=>False
theorem Dm {D:Nat}:AS (spW K D):=fun vs H Q Q' E h q=>by
 unfold spW at *
 split at q
 ·revert q;repeat' first | exact h _ _ | exact BP h | exact out_mono h | exact outT_mono h | walk_at "m"
 ·exact q.elim
theorem CM (f:Fm):f.parts.length<=3:=by cases f <;> simp [Fm.parts]
theorem EI {f:Fm} (j:Nat):((f.parts.take j).flatMap Fm.ws).length<=2 * f.many:=by
 by_cases h:f.word=atS
 ·obtain ⟨i,rfl⟩:=Ch h
  simp [Fm.parts]
 have h1:=CD f
 rw [CN h,List.length_cons] at h1
 have h2:f.parts.flatMap Fm.ws=(f.parts.take j).flatMap Fm.ws++(f.parts.drop j).flatMap Fm.ws:=by
  rw [<- List.flatMap_append,List.take_append_drop]
 rw [h2,List.length_append] at h1
 omega
theorem Hw (D:Nat) (G_z17:FnOk P w K mg base CX0 (D+2) T.f_z17 T.d_z17 ["formula"] (spW K D)):FnOk P w K mg base CX0 (D+3) T.f_z17 T.d_z17 ["formula"] (spW K (D+1)):=by
 refine T.F_z17.ok sc_z17 (fun vs H Q E h=>by unfold spW at h;split at h <;> first | rfl | exact h.elim) (fun cdv A outer s H vs Q E hr h=>?_)
 have hu:=Al hr
 have hr_z17:=hr
 have mo1:AS (spW K D):=Dm
 match vs,h with
 | [v],h =>
 obtain ⟨f,n,hv,hok,hn,hd,hm,q⟩:=h
 obtain ⟨p,xs,rfl,hp,hx⟩:=FM hv
 refine ⟨_,(@AC _ _ _ _ _ (@Aj _ _ _ _ _ _ _ _ (@AU _ _ _ _ _ _ _ _ (kEq (K:=K) hu) (@kIx _ K _ _ _ _ _ (@vw _ 0 _ _ (by left)) (@AA _ _ _ _) (by intro _ _;rfl) (by rfl)) (@Ab _ _ _ _) (by walk_at "n")) (@AI _ _ _ (@AQ _ _ _ _ (@A5 _ _ _ _ (@AE _ _ _ _ _ (@Ab _ _ _ _) (@pa1 _ _ _ (@CP _ _ _ _ _ _ _ _ _ Ez rfl T.z_str (by rfl) (@pa1 _ _ _ (@kIx _ K _ _ _ _ _ (@vw _ 0 _ _ (by left)) (@AA _ _ _ _) (by intro _ _;rfl) (by rfl)) (by rfl)) (by decide) (by decide) (by rfl) (by rfl)) (by rfl)) (by rfl))))) (@Ah _)) (@AC _ _ _ _ _ (@AO _ _ 1 _ _ _ _ sc_z17.nd rfl (by right) (@A5 _ _ _ _ (@pa1 _ _ _ (@kIx _ K _ _ _ _ _ (@vw _ 0 _ _ (by left)) (@AA _ _ _ _) (by intro _ _;rfl) (by rfl)) (by rfl))) (by rfl) (by symm)) (@AC _ _ _ _ _ (@Cg _ _ _ _ _ _ _ _ PassesOwn.never rfl (@Cd _ K _ _ _ (@ED _ K _ _ _ _ _ _ _ _ (@vw _ 0 _ _ (by left)) (@Fi _ _ _ (@AA _ _ _ _)) (@E1 _) (by rfl)) (by rfl)) (@BM _ _ 2 _ sc_z17.nd rfl (by right) (by symm)) (@AI _ _ _ (@ES _ _ _ _ (@Im _ K _ _ _ _ _ _ (@vw _ 1 _ _ (by left)) (@pa1 _ _ _ (@AR _ _ _ _ _ _ _ _ _ _ _ _ _ _ _ _ G_z17 hr_z17 rfl T.m_z17 T.F_z17.kp T.b_z17 .nil AL (@pa1 _ _ _ (@vw _ 2 _ _ (by left)) (by rfl)) (by decide) (by rfl) (by rfl)) (by rfl)) (by rfl) (by rfl) (by rfl) (by rfl) (by rfl) (by rfl)) (by rfl))) (by intro _;rfl)) (@AI _ _ _ (@AQ _ _ _ _ (@vw _ 1 _ _ (by left))))))),?_⟩
 refine ⟨_,_,.inr hp,BG (n:=0) rfl rfl,?_⟩
 refine Ag (fun e=>?_) (fun e=>?_)
 ·obtain ⟨i,rfl⟩:=Ch (of_decide_eq_true ((BZ f.word).symm.trans e))
  have hi:i < n:=hok
  have hx:Reps K H [.int (i:Nat)] xs:=hx
  unfold Reps at hx
  obtain ⟨x,r,rfl,rx,hx⟩:=hx
  unfold Reps at hx
  subst hx
  unfold Rep at rx
  subst rx
  have hlg:((i:Int)).natAbs.log2 < 1920:=by
   have:((i:Int)).natAbs=i:=by omega
   rw [this]
   have h6:i=0\/i=1\/i=2\/i=3\/i=4\/i=5:=by omega
   rcases h6 with rfl | rfl | rfl | rfl | rfl | rfl <;> decide
  refine ⟨_,_,.inr hp,BG (n:=1) rfl rfl,hlg,AT (show 2<=1000 by decide),fun p1 n1=>?_⟩
  exact q _ _ (Same.upd n1) AB n1
 have hw:¬ f.word=atS:=fun z=>e ((BZ f.word).trans (decide_eq_true z))
 dsimp only [BJ]
 refine ⟨_,_,.inr hp,BG (n:=0) rfl rfl,AT (show 1<=1000 by decide),fun l nl=>?_⟩
 dsimp only [Ac]
 have S1:=Same.upd (o:=.lst [.str f.word]) nl
 have g1:upd H l (.lst [.str f.word]) l=some (.lst [.str f.word]):=AB
 generalize upd H l (.lst [.str f.word])=H1 at *
 refine ⟨1,rfl,_,S1.sqT hp,fun p1 H2 s2 hp2=>?_⟩
 rw [EZ (by simp)] at hp2
 have hp2:SqT K H2 p1 xs:=hp2
 rw [Cr hw] at hx
 refine .inr ⟨⟨_,hp2⟩,?_⟩
 have S2:=S1.trans s2
 have hxl:=hx.length
 rw [List.length_map] at hxl
 refine Ef (xs:=xs) (fun j σ H'=>∃ z2:Option V,σ=[some (.ref p),some (.ref l),z2]/\Same H H'/\SqT K H' p1 xs/\H' l=some (.lst ((f.word::(f.parts.take j).flatMap Fm.ws).map V.str))) ⟨none,rfl,S2,hp2,s2 _ _ g1⟩ (fun j σ H' _ ⟨_,_,_,h,_⟩=>h) ?_ ?_
 ·rintro j x σ H3 hxj ⟨z2,rfl,S3,hp3,g3⟩
  have hj:j < f.parts.length:=by
   have:=(List.getElem?_eq_some_iff.mp hxj).1
   omega
  obtain ⟨x',e1,rx⟩:=hx.get (show (f.parts.map Fm.dv)[j]? = some (f.parts[j]).dv by rw [List.getElem?_map,List.getElem?_eq_getElem hj];rfl)
  rw [hxj] at e1;cases e1
  have hmem:f.parts[j]∈f.parts:=List.getElem_mem hj
  have hdp:=Dc hmem
  have hmy:=FE hmem
  refine ⟨.inl ⟨rfl,_,.of g3⟩,?_⟩
  refine ⟨f.parts[j],n,Rep.same S3 _ _ rx,Cw hmem hok,hn,by omega,by omega,fun p4 H4 s4 g4 n4=>?_⟩
  have hne:p4≠l:=fun z=>by rw [z,g3] at n4;cases n4
  have l1:=EI (f:=f) j
  have l2:=CD f.parts[j]
  refine ⟨_,_,s4 _ _ g3,.of g4,hne,by rw [List.length_map,List.length_map,List.length_cons];omega,?_⟩
  have nl0:H l=none:=nl
  refine ⟨_,rfl,Gj (S3.trans s4) nl0,?_,?_⟩
  ·exact Gb (s4 _ _ g3) (s4.sqT hp3)
  ·rw [AB,List.take_add_one,List.getElem?_eq_getElem hj,List.flatMap_append,<- List.map_append]
   simp
 ·rintro σ H3 ⟨z2,rfl,S3,hp3,g3⟩
  rw [<- hxl,List.take_length,<- CN hw] at g3
  exact q _ _ S3 g3 nl
theorem Eg:∀ D:Nat,FnOk P w K mg base CX0 (D+2) T.f_z17 T.d_z17 ["formula"] (spW K D)
 | 0=>by
  have no:∀ vs H Q E,¬ spW K 0 vs H Q E:=fun vs H Q E h=>by
   unfold spW at h
   split at h
   ·obtain ⟨f,_,_,_,_,z,_⟩:=h;have:=CL f;omega
   ·exact h
  exact ⟨fun vs H Q E h=>(no _ _ _ _ h).elim,fun A outer s H args us vs Q E _ _ _ _ h=>(no _ _ _ _ h).elim⟩
 | c+1=>Hw T c (Eg c)
theorem G0:FnOk P w K mg base CX0 12 T.f_z17 T.d_z17 ["formula"] (spW K 10):=Eg T 10
def Aq (f:Fm):Str:=Str.join ⟨#[32]⟩ f.ws
theorem Do {x:Str} (h:BA x=true):x.length<=6/\32∉x.cps.toList:=by
 unfold BA at h
 rw [Bool.and_eq_true,decide_eq_true_iff,List.all_eq_true] at h
 exact ⟨h.1,fun z=>by simpa using h.2 32 z⟩
theorem Fh {f:Fm} {n:Nat} (hn:n<=6) (hok:f.ok n) (hm:f.many<=20):JoinOk ⟨#[32]⟩ f.ws=true:=by
 have h1:=CD f
 have h2:=StrLaws.joinFits (sep:=⟨#[32]⟩) (texts:=f.ws) (B:=6) (fun y hy=>(Do (Ap hn hok y hy)).1) (by show f.ws.length * 6+f.ws.length * 1<=16777216;omega)
 unfold JoinOk
 rw [h2]
 rfl
theorem EE (c:Nat):∀ ws:List Str,(∀ x∈ws,x.length<=6)->(Str.join ⟨#[c]⟩ ws).length<=7 * ws.length
 | [],_=>Nat.zero_le _
 | [x],h=>by
  have:=h x (by simp)
  show x.length<=7 * 1
  omega
 | x::y::r,h=>by
  have h1:=h x (by simp)
  have h2:=EE c (y::r) fun z hz=>h z (List.mem_cons_of_mem _ hz)
  rw [CB,Str.length_append,Str.length_append]
  show x.length+1+_<=_
  simp only [List.length_cons] at h2 ⊢
  omega
theorem GN {f:Fm} {n:Nat} (hn:n<=6) (hok:f.ok n) (hm:f.many<=20):(Aq f).length<=1000:=by
 have h1:=CD f
 have h2:=EE 32 f.ws fun y hy=>(Do (Ap hn hok y hy)).1
 unfold Aq
 omega
theorem Je {f:Fm} {n:Nat} (hn:n<=6) (hok:f.ok n):Txt.split (Aq f) ⟨#[32]⟩=f.ws :=
 split_join (fun z=>by have:=Il f;rw [z] at this;exact absurd this (Nat.lt_irrefl _)) fun y hy=>(Do (Ap hn hok y hy)).2
def B1 (K:W.Frag):Sp:=fun vs H Q _=>match vs with
 | [v]=>∃ (f:Fm) (n:Nat),Rep K H f.dv v/\f.ok n/\n<=6/\f.deep<=10/\f.many<=20/\∀ H',Same H H'->Q (.str (Aq f)) H'
 | _=>False
theorem Hx:AS (B1 K):=fun vs H Q Q' E h q=>by
 unfold B1 at *
 split at q
 ·revert q;repeat' first | exact h _ _ | exact BP h | exact out_mono h | exact outT_mono h | walk_at "m"
 ·exact q.elim
theorem GE:FnOk P w K mg base CX0 13 T.f_z19 T.d_z19 ["formula"] (B1 K):=by
 have G_z17:=G0 (P:=P) (w:=w) (base:=base) T
 refine T.F_z19.ok JI (fun vs H Q E h=>by unfold B1 at h;split at h <;> first | rfl | exact h.elim) (fun cdv A outer s H vs Q E hr h=>?_)
 have hu:=Al hr
 have hr_z17:=hr.mono (show 12<=_ by decide)
 unfold B1 at h
 split at h
 rotate_left
 ·exact h.elim
 rename_i v
 obtain ⟨f,n,hv,hok,hn,hd,hm,q⟩:=h
 refine ⟨_,(@AI _ _ _ (@AQ _ _ _ _ (@Ff _ _ _ _ _ _ _ K (@Ab _ _ _ _) (@pa1 _ _ _ (@AR _ _ _ _ _ _ _ _ _ _ _ _ _ _ _ _ G_z17 hr_z17 rfl T.m_z17 T.F_z17.kp T.b_z17 .nil AL (@pa1 _ _ _ (@vw _ 0 _ _ (by left)) (by rfl)) (by decide) (by rfl) (by rfl)) (by rfl)) (by rfl) (by rfl) (by rfl) (by rfl) (by rfl) (by rfl)))),?_⟩
 exact ⟨rfl,f,n,hv,hok,hn,hd,hm,fun p H' s' g' _=>⟨f.ws,.of g',Fh hn hok hm,q H' s'⟩⟩
theorem II (D:Nat) (G_z14:FnOk P w K mg base CX0 (D+2) T.f_z14 T.d_z14 ["_law_formula_here"] (spW K D)):FnOk P w K mg base CX0 (D+3) T.f_z14 T.d_z14 ["_law_formula_here"] (spW K (D+1)):=by
 refine T.F_z14.ok sc_z14 (fun vs H Q E h=>by unfold spW at h;split at h <;> first | rfl | exact h.elim) (fun cdv A outer s H vs Q E hr h=>?_)
 have hu:=Al hr
 have hr_z14:=hr
 have mo1:AS (spW K D):=Dm
 match vs,h with
 | [v],h =>
 obtain ⟨f,n,hv,hok,hn,hd,hm,q⟩:=h
 obtain ⟨p,xs,rfl,hp,hx⟩:=FM hv
 refine ⟨_,(@AC _ _ _ _ _ (@Aj _ _ _ _ _ _ _ _ (@AU _ _ _ _ _ _ _ _ (kEq (K:=K) hu) (@kIx _ K _ _ _ _ _ (@vw _ 0 _ _ (by left)) (@AA _ _ _ _) (by intro _ _;rfl) (by rfl)) (@Ab _ _ _ _) (by walk_at "n")) (@AI _ _ _ (@AQ _ _ _ _ (@A5 _ _ _ _ (@AE _ _ _ _ _ (@Ab _ _ _ _) (@pa1 _ _ _ (@kIx _ K _ _ _ _ _ (@Ab _ _ _ _) (@kIx _ K _ _ _ _ _ (@vw _ 0 _ _ (by left)) (@AA _ _ _ _) (by intro _ _;rfl) (by rfl)) (by intro _ _;rfl) (by rfl)) (by rfl)) (by rfl))))) (@Ah _)) (@AC _ _ _ _ _ (@AO _ _ 1 _ _ _ _ sc_z14.nd rfl (by right) (@A5 _ _ _ _ (@pa1 _ _ _ (@kIx _ K _ _ _ _ _ (@vw _ 0 _ _ (by left)) (@AA _ _ _ _) (by intro _ _;rfl) (by rfl)) (by rfl))) (by rfl) (by symm)) (@AC _ _ _ _ _ (@Cg _ _ _ _ _ _ _ _ PassesOwn.never rfl (@Cd _ K _ _ _ (@ED _ K _ _ _ _ _ _ _ _ (@vw _ 0 _ _ (by left)) (@Fi _ _ _ (@AA _ _ _ _)) (@E1 _) (by rfl)) (by rfl)) (@BM _ _ 2 _ sc_z14.nd rfl (by right) (by symm)) (@AI _ _ _ (@AO _ _ 1 _ _ _ _ sc_z14.nd rfl (by right) (@AD _ _ _ _ _ _ _ _ (Aa (K:=K)) (@vw _ 1 _ _ (by left)) (@AR _ _ _ _ _ _ _ _ _ _ _ _ _ _ _ _ G_z14 hr_z14 rfl T.m_z14 T.F_z14.kp T.b_z14 .nil AL (@pa1 _ _ _ (@vw _ 2 _ _ (by left)) (by rfl)) (by decide) (by rfl) (by rfl))) (by rfl) (by symm))) (by intro _;rfl)) (@AI _ _ _ (@AQ _ _ _ _ (@vw _ 1 _ _ (by left))))))),?_⟩
 refine ⟨_,_,.inr hp,BG (n:=0) rfl rfl,?_⟩
 refine Ag (fun e=>?_) (fun e=>?_)
 ·obtain ⟨i,rfl⟩:=Ch (of_decide_eq_true ((BZ f.word).symm.trans e))
  have hi:i < n:=hok
  have hx:Reps K H [.int (i:Nat)] xs:=hx
  unfold Reps at hx
  obtain ⟨x,r,rfl,rx,hx⟩:=hx
  unfold Reps at hx
  subst hx
  unfold Rep at rx
  subst rx
  obtain ⟨c,hc,ec⟩:∃ c,(Str.ofString "012345").cps.toList[i]? = some c/\(⟨#[c]⟩:Str)=dgS i:=by
   have h6:i=0\/i=1\/i=2\/i=3\/i=4\/i=5:=by omega
   rcases h6 with rfl | rfl | rfl | rfl | rfl | rfl
   ·exact ⟨48,by decide,by decide⟩
   ·exact ⟨49,by decide,by decide⟩
   ·exact ⟨50,by decide,by decide⟩
   ·exact ⟨51,by decide,by decide⟩
   ·exact ⟨52,by decide,by decide⟩
   ·exact ⟨53,by decide,by decide⟩
  have hat:atI (Str.ofString "012345").cps.toList ((i:Nat):Int)=some c:=by
   have hlt:=(List.getElem?_eq_some_iff.mp hc).1
   unfold atI ixN
   rw [if_pos (Int.natCast_nonneg i),if_pos (by omega)]
   simpa using hc
  refine ⟨_,_,.inr hp,BG (n:=1) rfl rfl,c,by decide,hat,AT (show 2<=1000 by decide),fun p1 n1=>?_⟩
  rw [ec]
  exact q _ _ (Same.upd n1) AB n1
 have hw:¬ f.word=atS:=fun z=>e ((BZ f.word).trans (decide_eq_true z))
 dsimp only [BJ]
 refine ⟨_,_,.inr hp,BG (n:=0) rfl rfl,AT (show 1<=1000 by decide),fun l nl=>?_⟩
 dsimp only [Ac]
 have S1:=Same.upd (o:=.lst [.str f.word]) nl
 have g1:upd H l (.lst [.str f.word]) l=some (.lst [.str f.word]):=AB
 generalize upd H l (.lst [.str f.word])=H1 at *
 refine ⟨1,rfl,_,S1.sqT hp,fun p1 H2 s2 hp2=>?_⟩
 rw [EZ (by simp)] at hp2
 have hp2:SqT K H2 p1 xs:=hp2
 rw [Cr hw] at hx
 refine .inr ⟨⟨_,hp2⟩,?_⟩
 have S2:=S1.trans s2
 have hxl:=hx.length
 rw [List.length_map] at hxl
 refine Ef (xs:=xs) (fun j σ H'=>∃ (l:Addr) (z2:Option V),σ=[some (.ref p),some (.ref l),z2]/\H l=none/\Same H H'/\SqT K H' p1 xs/\H' l=some (.lst ((f.word::(f.parts.take j).flatMap Fm.ws).map V.str))) ⟨l,none,rfl,nl,S2,hp2,s2 _ _ g1⟩ (fun j σ H' _ ⟨_,_,_,_,_,h,_⟩=>h) ?_ ?_
 ·rintro j x σ H3 hxj ⟨l,z2,rfl,nl,S3,hp3,g3⟩
  have hj:j < f.parts.length:=by
   have:=(List.getElem?_eq_some_iff.mp hxj).1
   omega
  obtain ⟨x',e1,rx⟩:=hx.get (show (f.parts.map Fm.dv)[j]? = some (f.parts[j]).dv by rw [List.getElem?_map,List.getElem?_eq_getElem hj];rfl)
  rw [hxj] at e1;cases e1
  have hmem:f.parts[j]∈f.parts:=List.getElem_mem hj
  have hdp:=Dc hmem
  have hmy:=FE hmem
  refine ⟨f.parts[j],n,Rep.same S3 _ _ rx,Cw hmem hok,hn,by omega,by omega,fun p4 H4 s4 g4 n4=>?_⟩
  have l1:=EI (f:=f) j
  have l2:=CD f.parts[j]
  refine .inl ⟨l,p4,_,_,rfl,rfl,s4 _ _ g3,g4,AT (by rw [List.length_map,List.length_map,List.length_cons];omega),fun p5 n5=>?_⟩
  have S5:=Same.upd (o:=.lst ((f.word::(f.parts.take j).flatMap Fm.ws).map V.str++f.parts[j].ws.map V.str)) n5
  refine ⟨p5,_,rfl,(S3.trans s4).free n5,(S3.trans s4).trans S5,S5.sqT (s4.sqT hp3),?_⟩
  rw [AB,List.take_add_one,List.getElem?_eq_getElem hj,List.flatMap_append,<- List.map_append]
  simp
 ·rintro σ H3 ⟨l,z2,rfl,nl,S3,hp3,g3⟩
  rw [<- hxl,List.take_length,<- CN hw] at g3
  exact q _ _ S3 g3 nl
theorem FJ:∀ D:Nat,FnOk P w K mg base CX0 (D+2) T.f_z14 T.d_z14 ["_law_formula_here"] (spW K D)
 | 0=>by
  have no:∀ vs H Q E,¬ spW K 0 vs H Q E:=fun vs H Q E h=>by
   unfold spW at h
   split at h
   ·obtain ⟨f,_,_,_,_,z,_⟩:=h;have:=CL f;omega
   ·exact h
  exact ⟨fun vs H Q E h=>(no _ _ _ _ h).elim,fun A outer s H args us vs Q E _ _ _ _ h=>(no _ _ _ _ h).elim⟩
 | c+1=>II T c (FJ c)
theorem JC:FnOk P w K mg base CX0 12 T.f_z14 T.d_z14 ["_law_formula_here"] (spW K 10):=FJ T 10
def Bd:Sp:=fun vs H Q _=>match vs with
 | [.int m,.int d]=>Q (.bl (decide (20 < m) || decide (8 < d))) H
 | _=>False
theorem Jc:AS Bd:=fun vs H Q Q' E h q=>by
 unfold Bd at *
 split at q
 ·exact h _ _ q
 ·exact q.elim
theorem Ij:FnOk P w K mg base CX0 1 T.f_z12 T.d_z12 ["many","depth"] Bd:=by
 refine T.F_z12.ok JK (fun vs H Q E h=>by unfold Bd at h;split at h <;> first | rfl | exact h.elim) (fun cdv A outer s H vs Q E hr h=>?_)
 have hu:=Al hr
 unfold Bd at h
 split at h
 rotate_left
 ·exact h.elim
 rename_i m d
 have q:=h
 have q:Q (.bl (decide (20 < m) || decide (8 < d))) H:=q
 refine ⟨_,(@AI _ _ _ (@AQ _ _ _ _ (@JU _ _ _ _ _ _ _ (@D9 _ _ _ _ _ _ _ _ Bq (@vw _ 0 _ _ (by left)) (@C4 _ _ (.int 20) _ _ rfl T.c_MOST_FORMULAS ⟨_,rfl⟩ (by decide)) (by walk_at "n")) (@J8 _ _ _ _ _ (@D9 _ _ _ _ _ _ _ _ Bq (@vw _ 1 _ _ (by left)) (@C4 _ _ (.int 8) _ _ rfl T.c_MOST_WITHIN ⟨_,rfl⟩ (by decide)) (by walk_at "n")))))),?_⟩
 refine Ag (fun e=>?_) (fun e=>?_)
 ·have e':(20:Int) < m:=of_decide_eq_true e
  rw [decide_eq_true e',Bool.true_or] at q
  first | exact q | (rw [<- decide_eq_true e'] at q;exact q)
 ·have e':¬ (20:Int) < m:=fun z=>e (decide_eq_true z)
  rw [decide_eq_false e',Bool.false_or] at q
  exact q
mutual
theorem GI {K:W.Frag} {H H':Hp} {t:Addr} (s:Frm t H H') (ht:∃ C dx fs,H t=some (.ins C dx fs)):∀ (d:Dv) (v:V),BD d=true->Rep K H d v->Rep K H' d v
 | .non,v,_,h=>by unfold Rep at *;exact h
 | .bl b,v,_,h=>by unfold Rep at *;exact h
 | .int i,v,_,h=>by unfold Rep at *;exact h
 | .str x,v,_,h=>by unfold Rep at *;exact h
 | .tup ds,v,hd,h=>by
  unfold BD at hd
  unfold Rep at *
  obtain ⟨a,xs,e,h1,h2⟩:=h
  refine ⟨a,xs,e,?_,DK s ht ds xs hd h2⟩
  obtain ⟨C,dx,fs,hz⟩:=ht
  rcases h1 with (h1 | ⟨o,h1⟩) | h1
  ·exact .inl (.inl (s a _ (fun q=>by rw [q,hz] at h1;cases h1) h1))
  ·exact .inl (.inr ⟨o,s a _ (fun q=>by rw [q,hz] at h1;cases h1) h1⟩)
  ·exact .inr h1
 | .lst ds,v,hd,h=>by unfold BD at hd;cases hd
theorem DK {K:W.Frag} {H H':Hp} {t:Addr} (s:Frm t H H') (ht:∃ C dx fs,H t=some (.ins C dx fs)):∀ (ds:List Dv) (xs:List V),Ay ds=true->Reps K H ds xs->Reps K H' ds xs
 | [],xs,_,h=>by unfold Reps at *;exact h
 | d::ds,xs,hd,h=>by
  unfold Ay at hd
  rw [Bool.and_eq_true] at hd
  unfold Reps at *
  obtain ⟨x,r,e,h1,h2⟩:=h
  exact ⟨x,r,e,GI s ht d x hd.1 h1,DK s ht ds r hd.2 h2⟩
end
theorem JP (M:List Fm):Ay (M.map Fm.dv)=true:=by
 induction M with
 | nil=>rfl
 | cons g gs ih=>rw [List.map_cons];unfold Ay;rw [DJ,ih];rfl
def rf (a b c d:V):List (Str × V):=[("figures",a),("words",b),("spot",c),("begun",d)]
theorem rl1 (a b c d:V):(rf a b c d).lookup ("figures" : Str)=some a:=by rfl
theorem rl2 (a b c d:V):(rf a b c d).lookup ("words" : Str)=some b:=by rfl
theorem rl3 (a b c d:V):(rf a b c d).lookup ("spot" : Str)=some c:=by rfl
theorem rl4 (a b c d:V):(rf a b c d).lookup ("begun" : Str)=some d:=by rfl
theorem rn1 (a b c d:V):(rf a b c d).lookup ("next_word" : Str)=none:=by rfl
theorem rn2 (a b c d:V):(rf a b c d).lookup ("take_formula" : Str)=none:=by rfl
theorem rn3 (a b c d:V):(rf a b c d).lookup ("take_switch" : Str)=none:=by rfl
theorem rn4 (a b c d:V):(rf a b c d).lookup ("take_end" : Str)=none:=by rfl
theorem rp1 (a:V):AJ "figures" a []=([("figures",a)]:List (Str × V)):=by rfl
theorem rp2 (a b:V):AJ "words" b [("figures",a)]=([("figures",a),("words",b)]:List (Str × V)):=by rfl
theorem rp3 (a b c:V):AJ "spot" c [("figures",a),("words",b)]=([("figures",a),("words",b),("spot",c)]:List (Str × V)):=by rfl
theorem rp4 (a b c d:V):AJ "begun" d [("figures",a),("words",b),("spot",c)]=rf a b c d:=by rfl
theorem rs3 (a b c d e:V):AJ "spot" e (rf a b c d)=rf a b e d:=by rfl
theorem rs4 (a b c d e:V):AJ "begun" e (rf a b c d)=rf a b c e:=by rfl
def Ao (n:Nat):List V:=(List.range n).map fun i=>V.str (dgS i)
structure RdrAt (C:Addr) (H:Hp) (r:Addr) (n:Nat) (ws:List Str) (s g:Nat) (dx lf lw:Addr):Prop where
 o:H r=some (.ins C dx (rf (.ref lf) (.ref lw) (.int s) (.int g)))
 f:H lf=some (.lst (Ao n))
 w:H lw=some (.lst (ws.map V.str))
section
variable {C r dx lf lw:Addr} {H H':Hp} {n s g s' g':Nat} {ws:List Str}
theorem RdrAt.same (h:RdrAt C H r n ws s g dx lf lw) (z:Same H H'):RdrAt C H' r n ws s g dx lf lw:=⟨z _ _ h.o,z _ _ h.f,z _ _ h.w⟩
theorem RdrAt.put (h:RdrAt C H r n ws s g dx lf lw) (s' g':Nat):RdrAt C (upd H r (.ins C dx (rf (.ref lf) (.ref lw) (.int s') (.int g')))) r n ws s' g' dx lf lw :=
 ⟨AB,by rw [AF (fun e=>by have:=h.f;rw [e,h.o] at this;cases this)];exact h.f,by rw [AF (fun e=>by have:=h.w;rw [e,h.o] at this;cases this)];exact h.w⟩
end
theorem DV {n i:Nat} (h:i < n):(Ao n)[i]? = some (.str (dgS i)):=by
 unfold Ao
 rw [List.getElem?_map,List.getElem?_range h]
 rfl
theorem Fb (n:Nat):(Ao n).all Am=true:=by
 rw [List.all_eq_true]
 intro v hv
 obtain ⟨x,_,rfl⟩:=List.mem_map.mp hv
 rfl
theorem Gu {m i:Nat} (h:m < i) (hi:i < 6):eqV (.str (dgS m)) (.str (dgS i))=false:=by
 have all:∀ i:Fin 6,∀ m:Fin 6,m < i->eqV (.str (dgS m)) (.str (dgS i))=false:=by decide
 exact all ⟨i,hi⟩ ⟨m,by omega⟩ h
theorem Eo (x:Str):eqV (.str x) (.str x)=true:=by simp [eqV]
def Bp (C:Addr):Sp:=fun vs H Q _=>match vs with
 | [.ref r]=>∃ n ws s g dx lf lw x,RdrAt C H r n ws s g dx lf lw/\ws[s]? = some x/\Q (.str x) H
 | _=>False
theorem J1 {C:Addr}:AS (Bp C):=fun vs H Q Q' E h q=>by
 unfold Bp at *
 split at q
 ·revert q;repeat' first | exact h _ _ | exact BP h | exact out_mono h | exact outT_mono h | walk_at "m"
 ·exact q.elim
theorem Fe:FnOk P w K mg base CX0 1 T.f_z9 T.d_z9 ["self"] (Bp T.C_Reader):=by
 refine T.F_z9.ok G1 (fun vs H Q E h=>by unfold Bp at h;split at h <;> first | rfl | exact h.elim) (fun cdv A outer s H vs Q E hr h=>?_)
 have hu:=Al hr
 unfold Bp at h
 split at h
 rotate_left
 ·exact h.elim
 rename_i r
 obtain ⟨n,ws,s,g,dx,lf,lw,x,R,hx,q⟩:=h
 refine ⟨_,(@AC _ _ _ _ _ (@Aj _ _ _ _ _ _ _ _ (@AU _ _ _ _ _ _ _ _ (kEq (K:=K) hu) (@At _ _ _ _ _ _ _ T.cl_Reader T.na_Reader_spot (@vw _ 0 _ _ (by left)) (by rfl) (by rfl)) (@BC _ _ _ _ _ _ _ _ _ (CC (K:=K)) rfl T.z_len (by rfl) (@pa1 _ _ _ (@At _ _ _ _ _ _ _ T.cl_Reader T.na_Reader_words (@vw _ 0 _ _ (by left)) (by rfl) (by rfl)) (by rfl)) (by decide) (by decide) (by rfl) (by rfl)) (by walk_at "n")) (@AI _ _ _ (@CK _ _)) (@Ah _)) (@AI _ _ _ (@AQ _ _ _ _ (@kIx _ K _ _ _ _ _ (@At _ _ _ _ _ _ _ T.cl_Reader T.na_Reader_words (@vw _ 0 _ _ (by left)) (by rfl) (by rfl)) (@At _ _ _ _ _ _ _ T.cl_Reader T.na_Reader_spot (@vw _ 0 _ _ (by left)) (by rfl) (by rfl)) (by intro _ _;rfl) (by rfl))))),?_⟩
 have hlt:=(List.getElem?_eq_some_iff.mp hx).1
 refine ⟨dx,_,_,R.o,rl3 _ _ _ _,dx,_,_,R.o,rl2 _ _ _ _,_,.inl ⟨_,.of R.w,rfl⟩,?_⟩
 refine Ag (fun e=>?_) (fun e=>?_)
 ·have e':(false ^^ (((s:Nat):Int) == (((ws.map V.str).length:Nat):Int)))=true:=e
  rw [Bool.false_xor,beq_iff_eq,List.length_map] at e'
  omega
 ·exact ⟨dx,_,_,R.o,rl2 _ _ _ _,dx,_,_,R.o,rl3 _ _ _ _,_,_,.inl (.of R.w),BG (n:=s) rfl (by rw [List.getElem?_map,hx];rfl),q⟩
def Bf (C:Addr):Sp:=fun vs H Q _=>match vs with
 | [.ref r]=>∃ n ws s g dx lf lw i,RdrAt C H r n ws s g dx lf lw/\ws[s]? = some (dgS i)/\i < n/\n<=6/\∀ H',Frm r H H'->RdrAt C H' r n ws (s+1) g dx lf lw->Q (.int (i:Nat)) H'
 | _=>False
theorem Ii {C:Addr}:AS (Bf C):=fun vs H Q Q' E h q=>by
 unfold Bf at *
 split at q
 ·revert q;repeat' first | exact h _ _ | exact BP h | exact out_mono h | exact outT_mono h | walk_at "m"
 ·exact q.elim
theorem GW:FnOk P w K mg base CX0 2 T.f_z8 T.d_z8 ["self"] (Bf T.C_Reader):=by
 have G_z9:=Fe (P:=P) (w:=w) (base:=base) T
 refine T.F_z8.ok sc_z8 (fun vs H Q E h=>by unfold Bf at h;split at h <;> first | rfl | exact h.elim) (fun cdv A outer s H vs Q E hr h=>?_)
 have hu:=Al hr
 have hr_z9:=hr.mono (show 1<=_ by decide)
 unfold Bf at h
 split at h
 rotate_left
 ·exact h.elim
 rename_i r
 obtain ⟨n,ws,s,g,dx,lf,lw,i,R,hx,hi,hn,q⟩:=h
 refine ⟨_,(@AC _ _ _ _ _ (@AO _ _ 1 _ _ _ _ sc_z8.nd rfl (by right) (@Ce _ _ _ _ _ _ _ _ _ _ _ _ _ _ _ _ _ (@vw _ 0 _ _ (by left)) T.cl_Reader T.me_z9 G_z9 hr_z9 T.b_z9 .nil AL (by rfl)) (by rfl) (by symm)) (@AC _ _ _ _ _ (@Aj _ _ _ _ _ _ _ _ (@AU _ _ _ _ _ _ _ _ (Gk (K:=K)) (@vw _ 1 _ _ (by left)) (@At _ _ _ _ _ _ _ T.cl_Reader T.na_Reader_figures (@vw _ 0 _ _ (by left)) (by rfl) (by rfl)) (by walk_at "n")) (@AI _ _ _ (@CK _ _)) (@Ah _)) (@AC _ _ _ _ _ (@BQ _ _ _ _ _ _ _ _ _ _ T.cl_Reader T.na_Reader_spot (@vw _ 0 _ _ (by left)) (@AD _ _ _ _ _ _ _ _ (Aa (K:=K)) (@At _ _ _ _ _ _ _ T.cl_Reader T.na_Reader_spot (@vw _ 0 _ _ (by left)) (by rfl) (by rfl)) (@AA _ _ _ _)) (by rfl) (by rfl)) (@AI _ _ _ (@AQ _ _ _ _ (@G7 _ K _ _ _ _ _ _ (@At _ _ _ _ _ _ _ T.cl_Reader T.na_Reader_figures (@vw _ 0 _ _ (by left)) (by rfl) (by rfl)) (@pa1 _ _ _ (@vw _ 1 _ _ (by left)) (by rfl)) (by rfl) (by rfl) (by rfl) (by rfl) (by rfl) (by rfl))))))),?_⟩
 refine ⟨r,dx,_,rfl,R.o,rn1 _ _ _ _,n,ws,s,g,dx,lf,lw,_,R,hx,?_⟩
 dsimp only [Ac]
 have hin:inV (.str (dgS i)) (Ao n)=true:=by
  unfold inV
  rw [List.any_eq_true]
  exact ⟨_,List.mem_of_getElem? (DV hi),Eo _⟩
 refine ⟨dx,_,_,R.o,rl1 _ _ _ _,_,.inl (.of R.f),rfl,Fb n,?_⟩
 refine Ag (fun e=>?_) (fun e=>?_)
 ·have e':(true ^^ inV (.str (dgS i)) (Ao n))=true:=e
  rw [hin] at e'
  cases e'
 dsimp only [BJ]
 refine ⟨dx,_,_,R.o,rl3 _ _ _ _,dx,_,R.o,(show 4 < 1000 by decide),?_⟩
 rw [rs3]
 have R1:=R.put (s+1) g
 have F1:Frm r H (upd H r (.ins T.C_Reader dx (rf (.ref lf) (.ref lw) (.int ((s+1:Nat):Int)) (.int g)))):=Frm.updT
 rw [show ((s:Nat):Int)+1=((s+1:Nat):Int) by omega]
 generalize upd H r (.ins T.C_Reader dx (rf (.ref lf) (.ref lw) (.int ((s+1:Nat):Int)) (.int g)))=H1 at *
 refine ⟨dx,_,_,R1.o,rl1 _ _ _ _,.inl ⟨rfl,_,.of R1.f⟩,Ao n,i,_,.of R1.f,rfl,Fb n,DV hi,Eo _,fun m v hm hv=>?_,q _ F1 R1⟩
 rw [DV (by omega)] at hv
 cases hv
 exact Gu hm (by omega)
def DM (C:Addr):Sp:=fun vs H Q _=>match vs with
 | [.ref r]=>∃ n ws s g dx lf lw,RdrAt C H r n ws s g dx lf lw/\s=ws.length/\Q .non H
 | _=>False
theorem HC:FnOk P w K mg base CX0 1 T.f_z10 T.d_z10 ["self"] (DM T.C_Reader):=by
 refine T.F_z10.ok GU (fun vs H Q E h=>by unfold DM at h;split at h <;> first | rfl | exact h.elim) (fun cdv A outer s H vs Q E hr h=>?_)
 have hu:=Al hr
 unfold DM at h
 split at h
 rotate_left
 ·exact h.elim
 rename_i r
 obtain ⟨n,ws,s,g,dx,lf,lw,R,hx,q⟩:=h
 refine ⟨_,(@AI _ _ _ (@Aj _ _ _ _ _ _ _ _ (@AU _ _ _ _ _ _ _ _ BK (@At _ _ _ _ _ _ _ T.cl_Reader T.na_Reader_spot (@vw _ 0 _ _ (by left)) (by rfl) (by rfl)) (@BC _ _ _ _ _ _ _ _ _ (CC (K:=K)) rfl T.z_len (by rfl) (@pa1 _ _ _ (@At _ _ _ _ _ _ _ T.cl_Reader T.na_Reader_words (@vw _ 0 _ _ (by left)) (by rfl) (by rfl)) (by rfl)) (by decide) (by decide) (by rfl) (by rfl)) (by walk_at "n")) (@AI _ _ _ (@CK _ _)) (@Ah _))),?_⟩
 refine ⟨dx,_,_,R.o,rl3 _ _ _ _,dx,_,_,R.o,rl2 _ _ _ _,_,.inl ⟨_,.of R.w,rfl⟩,?_⟩
 refine Ag (fun e=>?_) (fun e=>q)
 have e':((s:Nat):Int) < (((ws.map V.str).length:Nat):Int):=of_decide_eq_true e
 rw [List.length_map] at e'
 omega
def Cs (C:Addr):Sp:=fun vs H Q _=>match vs with
 | [.ref r,.int z,.str text]=>∃ (n:Nat) (dx:Addr),z=n/\n<=6/\H r=some (.ins C dx [])/\text.length<=1000/\∀ H' lf lw,Frm r H H'->RdrAt C H' r n (Txt.split text ⟨#[32]⟩) 0 0 dx lf lw->Q .non H'
 | _=>False
theorem Ig:FnOk P w K mg base CX0 1 T.f_z11 T.d_z11 ["self","n","text"] (Cs T.C_Reader):=by
 refine T.F_z11.ok GZ (fun vs H Q E h=>by unfold Cs at h;split at h <;> first | rfl | exact h.elim) (fun cdv A outer s H vs Q E hr h=>?_)
 have hu:=Al hr
 unfold Cs at h
 split at h
 rotate_left
 ·exact h.elim
 rename_i r z text
 obtain ⟨n,dx,e1,hn,hH,ht,q⟩:=h
 subst e1
 refine ⟨_,(@AC _ _ _ _ _ (@BQ _ _ _ _ _ _ _ _ _ _ T.cl_Reader T.na_Reader_figures (@vw _ 0 _ _ (by left)) (@DH _ _ _ _ _ _ _ ["switch"] 1 [] _ _ _ _ rfl (@Cn _ _ _ _ _ _ rfl T.z_range (@pa1 _ _ _ (@vw _ 1 _ _ (by left)) (by rfl)) (by rfl)) (by kernel_rfl) rfl rfl (by kernel_rfl) (fun c=>@BM _ _ 0 _ (show (["switch"]:List Str).Nodup by decide +kernel) rfl (by right) (by symm)) (Ct (by decide)) (fun c=>@C8 _) (fun c=>(@CP _ _ _ _ _ _ _ _ _ Ez rfl T.z_str (by rfl) (@pa1 _ _ _ (@vw _ 0 _ _ (by left)) (by rfl)) (by decide) (by decide) (by rfl) (by rfl))) (by intro _;rfl)) (by rfl) (by rfl)) (@AC _ _ _ _ _ (@BQ _ _ _ _ _ _ _ _ _ _ T.cl_Reader T.na_Reader_words (@vw _ 0 _ _ (by left)) (@JA _ _ _ _ _ _ _ K (@vw _ 2 _ _ (by left)) (@pa1 _ _ _ (@Ab _ _ _ _) (by rfl)) (by rfl) (by rfl) (by rfl) (by rfl) (by rfl) (by rfl)) (by rfl) (by rfl)) (@AC _ _ _ _ _ (@BQ _ _ _ _ _ _ _ _ _ _ T.cl_Reader T.na_Reader_spot (@vw _ 0 _ _ (by left)) (@AA _ _ _ _) (by rfl) (by rfl)) (@AI _ _ _ (@BQ _ _ _ _ _ _ _ _ _ _ T.cl_Reader T.na_Reader_begun (@vw _ 0 _ _ (by left)) (@AA _ _ _ _) (by rfl) (by rfl)))))),?_⟩
 refine ⟨(n:Int),rfl,by omega,by omega,?_⟩
 refine Du (fun i ys H'=>H'=H/\ys=Ao i) ⟨rfl,rfl⟩ (fun i ys H' hi ⟨_,e⟩=>by
  have:i < n:=by omega
  rw [e];unfold Ao;rw [List.length_map,List.length_range];exact Ck (by omega)) ?_ ?_
 ·rintro i ys H' hi ⟨rfl,rfl⟩
  have hi:i < n:=by omega
  have e0:(0:Int)+(i:Int)=(i:Int):=by omega
  have hlg:(((0:Int)+(i:Int))).natAbs.log2 < 1920:=by
   have:((0:Int)+(i:Int)).natAbs=i:=by omega
   rw [this]
   have h6:i=0\/i=1\/i=2\/i=3\/i=4\/i=5:=by omega
   rcases h6 with rfl | rfl | rfl | rfl | rfl | rfl <;> decide
  refine ⟨hlg,rfl,?_⟩
  unfold Ao
  rw [List.range_succ,List.map_append,e0]
  rfl
 ·rintro ys H' ⟨rfl,rfl⟩ lf nf
  have en:((n:Nat):Int).toNat=n:=by omega
  rw [en]
  have S1:=Same.upd (o:=.lst (Ao n)) nf
  have g1:upd H' lf (.lst (Ao n)) lf=some (.lst (Ao n)):=AB
  have h1:=S1 _ _ hH
  generalize upd H' lf (.lst (Ao n))=H1 at *
  refine ⟨dx,_,h1,(show 0 < 1000 by decide),?_⟩
  have F2:Frm r H1 (upd H1 r (.ins T.C_Reader dx (AJ "figures" (.ref lf) []))):=Frm.updT
  have nfr:lf≠r:=fun e=>by rw [e,h1] at g1;cases g1
  have h2:upd H1 r (.ins T.C_Reader dx (AJ "figures" (.ref lf) [])) r=some (.ins T.C_Reader dx [("figures",.ref lf)]):=by rw [rp1];exact AB
  have g2:=F2 _ _ nfr g1
  generalize upd H1 r (.ins T.C_Reader dx (AJ "figures" (.ref lf) []))=H2 at *
  refine ⟨rfl,rfl,ht,fun lw nw=>?_⟩
  have S3:=Same.upd (o:=.lst ((Txt.split text (Str.ofString " ")).map V.str)) nw
  have w3:upd H2 lw (.lst ((Txt.split text (Str.ofString " ")).map V.str)) lw=some (.lst ((Txt.split text ⟨#[32]⟩).map V.str)):=AB
  have h3:=S3 _ _ h2
  have g3:=S3 _ _ g2
  generalize upd H2 lw (.lst ((Txt.split text (Str.ofString " ")).map V.str))=H3 at *
  have nwr:lw≠r:=fun e=>by rw [e,h3] at w3;cases w3
  refine ⟨dx,_,h3,(show 1 < 1000 by decide),?_⟩
  have F4:Frm r H3 (upd H3 r (.ins T.C_Reader dx (AJ "words" (.ref lw) [("figures",.ref lf)]))):=Frm.updT
  have h4:upd H3 r (.ins T.C_Reader dx (AJ "words" (.ref lw) [("figures",.ref lf)])) r=some (.ins T.C_Reader dx [("figures",.ref lf),("words",.ref lw)]):=by rw [rp2];exact AB
  generalize upd H3 r (.ins T.C_Reader dx (AJ "words" (.ref lw) [("figures",.ref lf)]))=H4 at *
  refine ⟨dx,_,h4,(show 2 < 1000 by decide),?_⟩
  have F5:Frm r H4 (upd H4 r (.ins T.C_Reader dx (AJ "spot" (.int 0) [("figures",.ref lf),("words",.ref lw)]))):=Frm.updT
  have h5:upd H4 r (.ins T.C_Reader dx (AJ "spot" (.int 0) [("figures",.ref lf),("words",.ref lw)])) r=some (.ins T.C_Reader dx [("figures",.ref lf),("words",.ref lw),("spot",.int 0)]):=by rw [rp3];exact AB
  generalize upd H4 r (.ins T.C_Reader dx (AJ "spot" (.int 0) [("figures",.ref lf),("words",.ref lw)]))=H5 at *
  refine ⟨dx,_,h5,(show 3 < 1000 by decide),?_⟩
  rw [rp4]
  have F6:Frm r H5 (upd H5 r (.ins T.C_Reader dx (rf (.ref lf) (.ref lw) (.int 0) (.int 0)))):=Frm.updT
  have F:=(((S1.frm.trans F2).trans S3.frm).trans F4).trans (F5.trans F6)
  exact q _ lf lw F ⟨AB,(F4.trans (F5.trans F6)) _ _ nfr g3,(F4.trans (F5.trans F6)) _ _ nwr w3⟩
theorem JG (f:Fm):Av f.word=some f.parts.length:=by
 cases f with
 | yes=>show Av (Str.ofString "yes")=some 0;decide
 | no=>show Av (Str.ofString "no")=some 0;decide
 | at_ i=>show Av (Str.ofString "at")=some 0;decide
 | not_ a=>show Av (Str.ofString "not")=some 1;decide
 | both a b=>show Av (Str.ofString "both")=some 2;decide
 | either a b=>show Av (Str.ofString "either")=some 2;decide
 | odd a b=>show Av (Str.ofString "odd")=some 2;decide
 | most a b c=>show Av (Str.ofString "most")=some 3;decide
def BS:Sp:=fun vs H Q _=>match vs with
 | [.str x]=>∃ k:Nat,Av x=some k/\Q (.int (k:Nat)) H
 | _=>False
theorem G3:AS BS:=fun vs H Q Q' E h q=>by
 unfold BS at *
 split at q
 ·revert q;repeat' first | exact h _ _ | exact BP h | exact out_mono h | exact outT_mono h | walk_at "m"
 ·exact q.elim
theorem HP:FnOk P w K mg base CX0 1 T.f_z18 T.d_z18 ["word"] BS:=by
 refine T.F_z18.ok Fp (fun vs H Q E h=>by unfold BS at h;split at h <;> first | rfl | exact h.elim) (fun cdv A outer s H vs Q E hr h=>?_)
 have hu:=Al hr
 unfold BS at h
 split at h
 rotate_left
 ·exact h.elim
 rename_i x
 obtain ⟨k,hk,q⟩:=h
 refine ⟨_,(@AI _ _ _ (@AQ _ _ _ _ (@Iz _ _ _ _ _ _ _ _ _ _ _ (T.q_PARTS P) (@C4 _ _ (.ref T.a_PARTS) _ _ rfl T.c_PARTS rfl (by decide)) (@vw _ 0 _ _ (by left)) ⟨by rfl,by rfl,by rfl,by rfl⟩ (by rfl) (by rfl) (by rfl)))),?_⟩
 refine ⟨Sum.inr x,rfl,?_⟩
 have pv:=JW x
 rw [hk] at pv
 show Q ((Af C6 (Sum.inr x)).getD .non) H
 rw [pv]
 exact q
theorem Fg {α:Type} {l r:List α} {x:α} {s:Nat} (h:l.drop s=x::r):l[s]? = some x/\l.drop (s+1)=r:=by
 have h1:(l.drop s)[0]? = some x:=by rw [h];rfl
 rw [List.getElem?_drop] at h1
 refine ⟨by simpa using h1,?_⟩
 rw [<- List.drop_drop,h]
 rfl
theorem JN {α:Type} {l a r:List α} {s:Nat} (h:l.drop s=a++r):l.drop (s+a.length)=r:=by
 rw [<- List.drop_drop,h,List.drop_left]
def A4 (K:W.Frag) (C:Addr) (D:Nat):Sp:=fun vs H Q _=>match vs with
 | [.ref r,.int dp]=>∃ (n:Nat) (ws:List Str) (s g:Nat) (dx lf lw:Addr) (f:Fm) (rest:List Str),RdrAt C H r n ws s g dx lf lw/\n<=6/\f.ok n/\f.deep<=D/\dp+f.deep<=9/\g+f.many<=20/\ws.drop s=f.ws++rest /\
  ∀ v H',Frm r H H'->RdrAt C H' r n ws (s+f.ws.length) (g+f.many) dx lf lw->Rep K H' f.dv v->Q v H'
 | _=>False
theorem Gh {C:Addr} {D:Nat}:AS (A4 K C D):=fun vs H Q Q' E h q=>by
 unfold A4 at *
 split at q
 ·revert q;repeat' first | exact h _ _ | exact BP h | exact out_mono h | exact outT_mono h | walk_at "m"
 ·exact q.elim
theorem Fy {f:Fm} (h:¬ f.word=atS):f.many=1+(f.parts.map Fm.many).sum:=by
 cases f <;> first | exact absurd rfl h | (simp only [Fm.many,Fm.parts,List.map_cons,List.map_nil,List.sum_cons,List.sum_nil];omega)
theorem HZ {l:List Nat} (j:Nat):(l.take j).sum<=l.sum:=by
 have:l.sum=(l.take j).sum+(l.drop j).sum:=by rw [<- List.sum_append,List.take_append_drop]
 omega
theorem JJ (D:Nat) (G_z0:FnOk P w K mg base CX0 (D+4) T.f_z0 T.d_z0 ["self","depth"] (A4 K T.C_Reader D)):FnOk P w K mg base CX0 (D+5) T.f_z0 T.d_z0 ["self","depth"] (A4 K T.C_Reader (D+1)):=by
 have G_z9:=Fe (P:=P) (w:=w) (base:=base) T
 have G_z8:=GW (P:=P) (w:=w) (base:=base) T
 have G_z18:=HP (P:=P) (w:=w) (base:=base) T
 have G_z12:=Ij (P:=P) (w:=w) (base:=base) T
 refine T.F_z0.ok sc_z0 (fun vs H Q E h=>by unfold A4 at h;split at h <;> first | rfl | exact h.elim) (fun cdv A outer s H vs Q E hr h=>?_)
 have hu:=Al hr
 have hr_z0:=hr
 have hr_z9:=hr.mono (show 1<=D+4 by omega)
 have hr_z8:=hr.mono (show 2<=D+4 by omega)
 have hr_z18:=hr.mono (show 1<=D+4 by omega)
 have hr_z12:=hr.mono (show 1<=D+4 by omega)
 have mo1:AS (A4 K T.C_Reader D):=Gh
 have mo2:AS (Bp T.C_Reader):=J1
 have mo3:AS (Bf T.C_Reader):=Ii
 have mo4:AS BS:=G3
 have mo5:AS Bd:=Jc
 match vs,h with
 | [.ref r,.int dp],h =>
 obtain ⟨n,ws,s,g,dx,lf,lw,f,rest,R,hn,hok,hd,hdp,hg,hws,q⟩:=h
 refine ⟨_,(@AC _ _ _ _ _ (@AO _ _ 2 _ _ _ _ sc_z0.nd rfl (by right) (@Ce _ _ _ _ _ _ _ _ _ _ _ _ _ _ _ _ _ (@vw _ 0 _ _ (by left)) T.cl_Reader T.me_z9 G_z9 hr_z9 T.b_z9 .nil AL (by rfl)) (by rfl) (by symm)) (@AC _ _ _ _ _ (@AO _ _ 3 _ _ _ _ sc_z0.nd rfl (by right) (@AR _ _ _ _ _ _ _ _ _ _ _ _ _ _ _ _ G_z18 hr_z18 rfl T.m_z18 T.F_z18.kp T.b_z18 .nil AL (@pa1 _ _ _ (@vw _ 2 _ _ (by left)) (by rfl)) (by decide) (by rfl) (by rfl)) (by rfl) (by symm)) (@AC _ _ _ _ _ (@BQ _ _ _ _ _ _ _ _ _ _ T.cl_Reader T.na_Reader_begun (@vw _ 0 _ _ (by left)) (@AD _ _ _ _ _ _ _ _ (Aa (K:=K)) (@At _ _ _ _ _ _ _ T.cl_Reader T.na_Reader_begun (@vw _ 0 _ _ (by left)) (by rfl) (by rfl)) (@AA _ _ _ _)) (by rfl) (by rfl)) (@AC _ _ _ _ _ (@Aj _ _ _ _ _ _ _ _ (PW.pt (@B6 _ _ _ _ _ _ _ (@AU _ _ _ _ _ _ _ _ HI (@vw _ 3 _ _ (by left)) (@Ip _ _ _) (by walk_at "n")) (@Cb _ _ _ _ (@FK _ _ _ (@AR _ _ _ _ _ _ _ _ _ _ _ _ _ _ _ _ G_z12 hr_z12 rfl T.m_z12 T.F_z12.kp T.b_z12 .nil AL (@AE _ _ _ _ _ (@At _ _ _ _ _ _ _ T.cl_Reader T.na_Reader_begun (@vw _ 0 _ _ (by left)) (by rfl) (by rfl)) (@pa1 _ _ _ (@vw _ 1 _ _ (by left)) (by rfl)) (by rfl)) (by decide) (by rfl) (by rfl)) (by intro _;rfl))))) (@AI _ _ _ (@CK _ _)) (@Ah _)) (@AC _ _ _ _ _ (@BQ _ _ _ _ _ _ _ _ _ _ T.cl_Reader T.na_Reader_spot (@vw _ 0 _ _ (by left)) (@AD _ _ _ _ _ _ _ _ (Aa (K:=K)) (@At _ _ _ _ _ _ _ T.cl_Reader T.na_Reader_spot (@vw _ 0 _ _ (by left)) (by rfl) (by rfl)) (@AA _ _ _ _)) (by rfl) (by rfl)) (@AC _ _ _ _ _ (@Aj _ _ _ _ _ _ _ _ (@AU _ _ _ _ _ _ _ _ (kEq (K:=K) hu) (@vw _ 2 _ _ (by left)) (@Ab _ _ _ _) (by walk_at "n")) (@AI _ _ _ (@AQ _ _ _ _ (@Bc _ _ _ _ _ (@AE _ _ _ _ _ (@Ab _ _ _ _) (@pa1 _ _ _ (@Ce _ _ _ _ _ _ _ _ _ _ _ _ _ _ _ _ _ (@vw _ 0 _ _ (by left)) T.cl_Reader T.me_z8 G_z8 hr_z8 T.b_z8 .nil AL (by rfl)) (by rfl)) (by rfl))))) (@Ah _)) (@AI _ _ _ (@AQ _ _ _ _ (@CP _ _ _ _ _ _ _ _ _ (Eu (K:=K)) rfl T.z_tuple (by rfl) (@pa1 _ _ _ (@AD _ _ _ _ _ _ _ _ (Aa (K:=K)) (@A5 _ _ _ _ (@pa1 _ _ _ (@vw _ 2 _ _ (by left)) (by rfl))) (@DH _ _ _ _ _ _ _ (["part","self","depth"]) 1 ([0,1]) _ _ _ _ rfl (@Cn _ _ _ _ _ _ rfl T.z_range (@pa1 _ _ _ (@vw _ 3 _ _ (by left)) (by rfl)) (by rfl)) (by kernel_rfl) rfl rfl (by kernel_rfl) (fun c=>@BM _ _ 0 _ (show (["part","self","depth"]:List Str).Nodup by decide +kernel) rfl (by right) (by symm)) (Ct (by decide)) (fun c=>@C8 _) (fun c=>(@D4 _ _ _ _ _ _ _ _ _ _ _ _ _ _ _ _ _ _ _ _ (@vw _ 1 _ _ (by left)) T.cl_Reader T.me_z0 G_z0 hr_z0 T.b_z0 .nil AL (@pa1 _ _ _ (@AD _ _ _ _ _ _ _ _ (Aa (K:=K)) (@vw _ 2 _ _ (by left)) (@AA _ _ _ _)) (by rfl)) (by rfl) (by rfl) (by rfl))) (by intro _;rfl))) (by rfl)) (by decide) (by decide) (by rfl) (by rfl)))))))))),?_⟩
 have dpos:=CL f
 have mpos:=GP f
 obtain ⟨tl,etl⟩:∃ tl,f.ws=f.word::tl:=by cases f <;> exact ⟨_,rfl⟩
 have hws1:ws.drop s=f.word::(tl++rest):=by rw [hws,etl];rfl
 obtain ⟨hx,hws2⟩:=Fg hws1
 refine ⟨r,dx,_,rfl,R.o,rn1 _ _ _ _,n,ws,s,g,dx,lf,lw,_,R,hx,?_⟩
 dsimp only [Ac]
 refine ⟨_,JG f,?_⟩
 dsimp only [Ac]
 refine ⟨dx,_,_,R.o,rl4 _ _ _ _,dx,_,R.o,(show 4 < 1000 by decide),?_⟩
 rw [rs4,show ((g:Nat):Int)+1=((g+1:Nat):Int) by omega]
 have R1:=R.put s (g+1)
 have F1:Frm r H (upd H r (.ins T.C_Reader dx (rf (.ref lf) (.ref lw) (.int (s:Nat)) (.int ((g+1:Nat):Int))))):=Frm.updT
 generalize upd H r (.ins T.C_Reader dx (rf (.ref lf) (.ref lw) (.int (s:Nat)) (.int ((g+1:Nat):Int))))=H1 at *
 refine ⟨dx,_,_,R1.o,rl4 _ _ _ _,?_⟩
 have e0:(decide ((20:Int) < ((g+1:Nat):Int)) || decide ((8:Int) < dp))=false:=by
  rw [decide_eq_false (by omega),decide_eq_false (by omega)]
  rfl
 show (if (decide ((20:Int) < ((g+1:Nat):Int)) || decide ((8:Int) < dp))=true then _ else _)
 rw [e0]
 refine DN ?_
 dsimp only [BJ]
 refine ⟨dx,_,_,R1.o,rl3 _ _ _ _,dx,_,R1.o,(show 4 < 1000 by decide),?_⟩
 rw [rs3,show ((s:Nat):Int)+1=((s+1:Nat):Int) by omega]
 have R2:=R1.put (s+1) (g+1)
 have F2:=F1.trans (Frm.updT (t:=r) (H:=H1) (o:=.ins T.C_Reader dx (rf (.ref lf) (.ref lw) (.int ((s+1:Nat):Int)) (.int ((g+1:Nat):Int)))))
 generalize upd H1 r (.ins T.C_Reader dx (rf (.ref lf) (.ref lw) (.int ((s+1:Nat):Int)) (.int ((g+1:Nat):Int))))=H2 at *
 refine Ag (fun e2=>?_) (fun e2=>?_)
 ·obtain ⟨i,rfl⟩:=Ch (of_decide_eq_true ((BZ f.word).symm.trans e2))
  have hi:i < n:=hok
  cases etl
  obtain ⟨hx2,_⟩:=Fg (show ws.drop (s+1)=dgS i::rest from hws2)
  refine ⟨r,dx,_,rfl,R2.o,rn3 _ _ _ _,n,ws,s+1,g+1,dx,lf,lw,i,R2,hx2,hi,hn,fun H3 F3 R3=>?_⟩
  refine ⟨AT (show 2<=1000 by decide),fun p1 n1=>?_⟩
  have S4:=Same.upd (o:=.tup [.str (Str.ofString "at"),.int ((i:Nat):Int)]) n1
  exact q _ _ ((F2.trans F3).trans S4.frm) (R3.same S4) (A3 AB (AN A2 (AN Dp Ar)))
 have hw:¬ f.word=atS:=fun z=>e2 ((BZ f.word).trans (decide_eq_true z))
 dsimp only [BJ]
 have ew:=CN hw
 have hmt:=Fy hw
 have htl:tl=f.parts.flatMap Fm.ws:=by
  rw [etl] at ew
  exact (List.cons.inj ew).2
 subst htl
 refine ⟨AT (show 1<=1000 by decide),fun p0 n0=>?_⟩
 have S3:=Same.upd (o:=.lst [.str f.word]) n0
 have R3:=R2.same S3
 have F3:=F2.trans S3.frm
 have g3:upd H2 p0 (.lst [.str f.word]) p0=some (.lst [.str f.word]):=AB
 generalize upd H2 p0 (.lst [.str f.word])=H3 at *
 have n0r:p0≠r:=fun z=>by rw [z,R3.o] at g3;cases g3
 refine ⟨((f.parts.length:Nat):Int),rfl,by have:=CM f;omega,by have:=CM f;omega,?_⟩
 have en:(((f.parts.length:Nat):Int)).toNat=f.parts.length:=by omega
 rw [en]
 refine Du (fun j ys H'=>Frm r H3 H'/\RdrAt T.C_Reader H' r n ws (s+1+((f.parts.take j).flatMap Fm.ws).length) (g+1+((f.parts.map Fm.many).take j).sum) dx lf lw/\Reps K H' ((f.parts.take j).map Fm.dv) ys/\ys.length=j)
  ⟨Frm.refl,R3,Ar,rfl⟩ (fun j ys H' hj ⟨_,_,_,e⟩=>by have:=CM f;exact Ck (by omega)) ?_ ?_
 ·rintro j ys H4 hj ⟨F4,R4,hr4,hl4⟩
  have hmem:f.parts[j]∈f.parts:=List.getElem_mem hj
  have hdp':=Dc hmem
  have hst:((f.parts.map Fm.many).take (j+1)).sum=((f.parts.map Fm.many).take j).sum+f.parts[j].many:=by
   rw [List.take_add_one,List.getElem?_map,List.getElem?_eq_getElem hj,List.sum_append]
   simp
  have hle:=HZ (l:=f.parts.map Fm.many) (j+1)
  have htk:(f.parts.take (j+1)).flatMap Fm.ws=(f.parts.take j).flatMap Fm.ws++f.parts[j].ws:=by
   rw [List.take_add_one,List.getElem?_eq_getElem hj,List.flatMap_append]
   simp
  have hdr:f.parts.flatMap Fm.ws=(f.parts.take j).flatMap Fm.ws++(f.parts[j].ws++(f.parts.drop (j+1)).flatMap Fm.ws):=by
   rw [<- List.append_assoc,<- htk,<- List.flatMap_append,List.take_append_drop]
  have hws4:ws.drop (s+1+((f.parts.take j).flatMap Fm.ws).length)=f.parts[j].ws++((f.parts.drop (j+1)).flatMap Fm.ws++rest):=by
   apply JN
   rw [hws2,hdr]
   simp only [List.append_assoc]
  refine ⟨r,dx,_,rfl,R4.o,rn2 _ _ _ _,n,ws,_,_,dx,lf,lw,f.parts[j],_,R4,hn,Cw hmem hok,by omega,by omega,by omega,hws4,fun v H5 F5 R5 r5=>?_⟩
  refine ⟨F4.trans F5,?_,?_,by rw [List.length_append,hl4];rfl⟩
  ·rw [htk,hst,List.length_append]
   have e1:s+1+(((f.parts.take j).flatMap Fm.ws).length+f.parts[j].ws.length)=s+1+((f.parts.take j).flatMap Fm.ws).length+f.parts[j].ws.length:=by omega
   have e2:g+1+(((f.parts.map Fm.many).take j).sum+f.parts[j].many)=g+1+((f.parts.map Fm.many).take j).sum+f.parts[j].many:=by omega
   rw [e1,e2]
   exact R5
  ·rw [List.take_add_one,List.getElem?_eq_getElem hj,List.map_append]
   exact (DK F5 ⟨_,_,_,R4.o⟩ _ _ (JP _) hr4).append (AN r5 Ar)
 ·rintro ys H4 ⟨F4,R4,hr4,hl4⟩ l nl
  have h3:=CM f
  have S5:=Same.upd (o:=.lst ys) nl
  have g5:=S5 _ _ (F4 _ _ n0r g3)
  have gl:upd H4 l (.lst ys) l=some (.lst ys):=AB
  have R5:=R4.same S5
  have r5:=Reps.same S5 _ _ hr4
  have F5:=F3.trans (F4.trans S5.frm)
  generalize upd H4 l (.lst ys)=H5 at *
  refine .inl ⟨p0,l,[.str f.word],ys,rfl,rfl,g5,gl,AT (by show 1+ys.length<=1000;omega),fun p6 n6=>?_⟩
  have S6:=Same.upd (o:=.lst ([.str f.word]++ys)) n6
  refine ⟨[.str f.word]++ys,.inl ⟨.of AB,fun p7 n7=>?_⟩⟩
  have S7:=S6.trans (Same.upd (o:=.tup ([.str f.word]++ys)) n7)
  rw [List.take_length] at R5 r5
  rw [List.take_of_length_le (by rw [List.length_map];exact Nat.le_refl _)] at R5
  refine q _ _ (F5.trans S7.frm) ?_ ?_
  ·have e1:s+f.ws.length=s+1+(f.parts.flatMap Fm.ws).length:=by rw [etl,List.length_cons];omega
   have e2:g+f.many=g+1+(f.parts.map Fm.many).sum:=by omega
   rw [e1,e2]
   exact R5.same S7
  ·rw [Eh,Cr hw]
   exact A3 AB (AN A2 (Reps.same S7 _ _ r5))
theorem D5:∀ D:Nat,FnOk P w K mg base CX0 (D+4) T.f_z0 T.d_z0 ["self","depth"] (A4 K T.C_Reader D)
 | 0=>by
  have no:∀ vs H Q E,¬ A4 K T.C_Reader 0 vs H Q E:=fun vs H Q E h=>by
   unfold A4 at h
   split at h
   ·obtain ⟨_,_,_,_,_,_,_,f,_,_,_,_,z,_⟩:=h;have:=CL f;omega
   ·exact h
  exact ⟨fun vs H Q E h=>(no _ _ _ _ h).elim,fun A outer s H args us vs Q E _ _ _ _ h=>(no _ _ _ _ h).elim⟩
 | c+1=>JJ T c (D5 c)
theorem GT:FnOk P w K mg base CX0 14 T.f_z0 T.d_z0 ["self","depth"] (A4 K T.C_Reader 10):=D5 T 10
def Bh (K:W.Frag):Sp:=fun vs H Q _=>match vs with
 | [.int z,.str text]=>∃ (m:Nat) (f:Fm),z=m/\m<=6/\f.ok m/\f.deep<=8/\f.many<=20/\text=Aq f/\∀ v H',Same H H'->Rep K H' f.dv v->Q v H'
 | _=>False
theorem I0:AS (Bh K):=fun vs H Q Q' E h q=>by
 unfold Bh at *
 split at q
 ·revert q;repeat' first | exact h _ _ | exact BP h | exact out_mono h | exact outT_mono h | walk_at "m"
 ·exact q.elim
theorem Jt:FnOk P w K mg base CX0 15 T.f_z20 T.d_z20 ["n","text"] (Bh K):=by
 have G_z11:=Ig (P:=P) (w:=w) (base:=base) T;have G_z0:=GT (P:=P) (w:=w) (base:=base) T;have G_z10:=HC (P:=P) (w:=w) (base:=base) T
 refine T.F_z20.ok sc_z20 (fun vs H Q E h=>by unfold Bh at h;split at h <;> first | rfl | exact h.elim) (fun cdv A outer s H vs Q E hr h=>?_)
 have hu:=Al hr
 have hr_z11:=hr.mono (show 1<=_ by decide);have hr1_z11:=hr.mono (show 1+1<=_ by decide);have hr_z0:=hr.mono (show 14<=_ by decide);have hr_z10:=hr.mono (show 1<=_ by decide)
 unfold Bh at h
 split at h
 rotate_left
 ·exact h.elim
 rename_i z text
 obtain ⟨m,f,e1,hm,hok,hd,hmy,e2,q⟩:=h
 subst e1 e2
 refine ⟨_,(@AC _ _ _ _ _ (@AO _ _ 2 _ _ _ _ sc_z20.nd rfl (by right) (@Ib _ _ _ _ _ _ _ _ _ _ _ _ _ _ _ _ _ T.mk_Reader G_z11 hr1_z11 rfl T.mC_Reader T.b_z11 .nil AL (@AE _ _ _ _ _ (@vw _ 0 _ _ (by left)) (@pa1 _ _ _ (@vw _ 1 _ _ (by left)) (by rfl)) (by rfl)) (by decide) (by rfl) (by rfl)) (by rfl) (by symm)) (@AC _ _ _ _ _ (@AO _ _ 3 _ _ _ _ sc_z20.nd rfl (by right) (@D4 _ _ _ _ _ _ _ _ _ _ _ _ _ _ _ _ _ _ _ _ (@vw _ 2 _ _ (by left)) T.cl_Reader T.me_z0 G_z0 hr_z0 T.b_z0 .nil AL (@pa1 _ _ _ (@AA _ _ _ _) (by rfl)) (by rfl) (by rfl) (by rfl)) (by rfl) (by symm)) (@AC _ _ _ _ _ (@ES _ _ _ _ (@Ce _ _ _ _ _ _ _ _ _ _ _ _ _ _ _ _ _ (@vw _ 2 _ _ (by left)) T.cl_Reader T.me_z10 G_z10 hr_z10 T.b_z10 .nil AL (by rfl)) (by rfl)) (@AI _ _ _ (@AQ _ _ _ _ (@vw _ 3 _ _ (by left))))))),?_⟩
 refine fun x dx hx hdx hne=>⟨m,dx,rfl,hm,AB,GN hm hok hmy,fun H1 lf lw F1 R1=>⟨rfl,?_⟩⟩
 dsimp only [Ac]
 rw [Je hm hok] at R1
 refine ⟨x,dx,_,rfl,R1.o,rn2 _ _ _ _,m,f.ws,0,0,dx,lf,lw,f,[],R1,hm,hok,by omega,by omega,by omega,by simp,fun v H2 F2 R2 r2=>?_⟩
 dsimp only [Ac]
 refine ⟨x,dx,_,rfl,R2.o,rn4 _ _ _ _,m,f.ws,_,_,dx,lf,lw,R2,by omega,?_⟩
 refine q v H2 (fun b o e=>?_) r2
 have b1:b≠x:=fun z=>by rw [z,hx] at e;cases e
 have b2:b≠dx:=fun z=>by rw [z,hdx] at e;cases e
 refine F2 _ _ b1 (F1 _ _ b1 ?_)
 rw [AF b1,AF b2]
 exact e
theorem Az {n:Nat} (hn:n<=6):∀ {f:Fm},f.ok n->AK f.dv=true/\AH f.dv<=12 * f.many
 | .yes,_=>⟨by decide,by decide⟩
 | .no,_=>⟨by decide,by decide⟩
 | .at_ i,h=>by
  have h:i < n:=h
  have h6:i=0\/i=1\/i=2\/i=3\/i=4\/i=5:=by omega
  rcases h6 with rfl | rfl | rfl | rfl | rfl | rfl <;> exact ⟨by decide,by decide⟩
 | .not_ a,h=>by
  obtain ⟨h1,h2⟩:=Az hn (f:=a) h
  have e1:AK (Fm.not_ a).dv=(AK (.str (Str.ofString "not")) && (AK a.dv && true)):=rfl
  have e2:AH (Fm.not_ a).dv=AH (.str (Str.ofString "not"))+1+(AH a.dv+1+0):=rfl
  rw [e1,e2,h1,show AH (.str (Str.ofString "not"))=3 by decide]
  exact ⟨by decide,by show _<=12 * (a.many+1);omega⟩
 | .both a b,h=>by
  obtain ⟨h1,h2⟩:=Az hn (f:=a) h.1
  obtain ⟨h3,h4⟩:=Az hn (f:=b) h.2
  have e1:AK (Fm.both a b).dv=(AK (.str (Str.ofString "both")) && (AK a.dv && (AK b.dv && true))):=rfl
  have e2:AH (Fm.both a b).dv=AH (.str (Str.ofString "both"))+1+(AH a.dv+1+(AH b.dv+1+0)):=rfl
  rw [e1,e2,h1,h3,show AH (.str (Str.ofString "both"))=4 by decide]
  exact ⟨by decide,by show _<=12 * (a.many+b.many+1);omega⟩
 | .either a b,h=>by
  obtain ⟨h1,h2⟩:=Az hn (f:=a) h.1
  obtain ⟨h3,h4⟩:=Az hn (f:=b) h.2
  have e1:AK (Fm.either a b).dv=(AK (.str (Str.ofString "either")) && (AK a.dv && (AK b.dv && true))):=rfl
  have e2:AH (Fm.either a b).dv=AH (.str (Str.ofString "either"))+1+(AH a.dv+1+(AH b.dv+1+0)):=rfl
  rw [e1,e2,h1,h3,show AH (.str (Str.ofString "either"))=6 by decide]
  exact ⟨by decide,by show _<=12 * (a.many+b.many+1);omega⟩
 | .odd a b,h=>by
  obtain ⟨h1,h2⟩:=Az hn (f:=a) h.1
  obtain ⟨h3,h4⟩:=Az hn (f:=b) h.2
  have e1:AK (Fm.odd a b).dv=(AK (.str (Str.ofString "odd")) && (AK a.dv && (AK b.dv && true))):=rfl
  have e2:AH (Fm.odd a b).dv=AH (.str (Str.ofString "odd"))+1+(AH a.dv+1+(AH b.dv+1+0)):=rfl
  rw [e1,e2,h1,h3,show AH (.str (Str.ofString "odd"))=3 by decide]
  exact ⟨by decide,by show _<=12 * (a.many+b.many+1);omega⟩
 | .most a b c,h=>by
  obtain ⟨h1,h2⟩:=Az hn (f:=a) h.1
  obtain ⟨h3,h4⟩:=Az hn (f:=b) h.2.1
  obtain ⟨h5,h6⟩:=Az hn (f:=c) h.2.2
  have e1:AK (Fm.most a b c).dv=(AK (.str (Str.ofString "most")) && (AK a.dv && (AK b.dv && (AK c.dv && true)))):=rfl
  have e2:AH (Fm.most a b c).dv=AH (.str (Str.ofString "most"))+1+(AH a.dv+1+(AH b.dv+1+(AH c.dv+1+0))):=rfl
  rw [e1,e2,h1,h3,h5,show AH (.str (Str.ofString "most"))=4 by decide]
  exact ⟨by decide,by show _<=12 * (a.many+b.many+c.many+1);omega⟩
theorem Aw {m n:Nat} (h:m<=n):∀ {f:Fm},f.ok m->f.ok n
 | .yes,_=>trivial
 | .no,_=>trivial
 | .at_ i,z=>Nat.lt_of_lt_of_le z h
 | .not_ a,z=>Aw h (f:=a) z
 | .both a b,z=>⟨Aw h (f:=a) z.1,Aw h (f:=b) z.2⟩
 | .either a b,z=>⟨Aw h (f:=a) z.1,Aw h (f:=b) z.2⟩
 | .odd a b,z=>⟨Aw h (f:=a) z.1,Aw h (f:=b) z.2⟩
 | .most a b c,z=>⟨Aw h (f:=a) z.1,Aw h (f:=b) z.2.1,Aw h (f:=c) z.2.2⟩
theorem JZ:FnOk P w K mg base CX0 16 T.f_law T.d_law ["_law_script"] (CG K):=by
 have G_z15:=Ic (P:=P) (w:=w) (base:=base) T;have G_z13:=Hy (P:=P) (w:=w) (base:=base) T;have G_z19:=GE (P:=P) (w:=w) (base:=base) T;have G_z16:=Et (P:=P) (w:=w) (base:=base) T;have G_z14:=JC (P:=P) (w:=w) (base:=base) T;have G_z20:=Jt (P:=P) (w:=w) (base:=base) T
 refine T.F_law.ok sc_law (fun vs H Q E h=>by obtain ⟨a,ns,rfl,_⟩:=h;rfl) (fun cdv A outer s H vs Q E hr h=>?_)
 have hu:=Al hr
 have mo1:AS (Bh K):=I0
 have mo2:AS (spF K 8):=DC
 have mo3:AS (B1 K):=Hx
 have mo4:AS (spW K 10):=Dm
 have hr_z15:=hr.mono (show 1<=_ by decide);have hr_z13:=hr.mono (show 10<=_ by decide);have hr_z19:=hr.mono (show 13<=_ by decide);have hr_z16:=hr.mono (show 1<=_ by decide);have hr_z14:=hr.mono (show 12<=_ by decide);have hr_z20:=hr.mono (show 15<=_ by decide)
 obtain ⟨a,ns,rfl,hsq,hlen,q⟩:=h
 refine ⟨_,(@AC _ _ _ _ _ (@AO _ _ 1 _ _ _ _ sc_law.nd rfl (by right) (@AR _ _ _ _ _ _ _ _ _ _ _ _ _ _ _ _ G_z15 hr_z15 rfl T.m_z15 T.F_z15.kp T.b_z15 .nil AL (@pa1 _ _ _ (@vw _ 0 _ _ (by left)) (by rfl)) (by decide) (by rfl) (by rfl)) (by rfl) (by symm)) (@AC _ _ _ _ _ (@Cg _ _ _ _ _ _ _ _ PassesOwn.never rfl (@Cn _ _ _ _ _ _ rfl T.z_range (@pa1 _ _ _ (@AA _ _ _ _) (by rfl)) (by rfl)) (@BM _ _ 2 _ sc_law.nd rfl (by right) (by symm)) (@AC _ _ _ _ _ (@AO _ _ 3 _ _ _ _ sc_law.nd rfl (by right) (@AD _ _ _ _ _ _ _ _ (Aa (K:=K)) (@AA _ _ _ _) (@AR _ _ _ _ _ _ _ _ _ _ _ _ _ _ _ _ G_z16 hr_z16 rfl T.m_z16 T.F_z16.kp T.b_z16 .nil AL (@AE _ _ _ _ _ (@vw _ 1 _ _ (by left)) (@pa1 _ _ _ (@AA _ _ _ _) (by rfl)) (by rfl)) (by decide) (by rfl) (by rfl))) (by rfl) (by symm)) (@AC _ _ _ _ _ (@AO _ _ 4 _ _ _ _ sc_law.nd rfl (by right) (@AR _ _ _ _ _ _ _ _ _ _ _ _ _ _ _ _ G_z13 hr_z13 rfl T.m_z13 T.F_z13.kp T.b_z13 .nil AL (@AE _ _ _ _ _ (@vw _ 1 _ _ (by left)) (@AE _ _ _ _ _ (@vw _ 3 _ _ (by left)) (@AE _ _ _ _ _ (@AD _ _ _ _ _ _ _ _ (Aa (K:=K)) (@AA _ _ _ _) (@AR _ _ _ _ _ _ _ _ _ _ _ _ _ _ _ _ G_z16 hr_z16 rfl T.m_z16 T.F_z16.kp T.b_z16 .nil AL (@AE _ _ _ _ _ (@vw _ 1 _ _ (by left)) (@pa1 _ _ _ (@AA _ _ _ _) (by rfl)) (by rfl)) (by decide) (by rfl) (by rfl))) (@pa1 _ _ _ (@AD _ _ _ _ _ _ _ _ (Aa (K:=K)) (@AA _ _ _ _) (@AR _ _ _ _ _ _ _ _ _ _ _ _ _ _ _ _ G_z16 hr_z16 rfl T.m_z16 T.F_z16.kp T.b_z16 .nil AL (@AE _ _ _ _ _ (@vw _ 1 _ _ (by left)) (@pa1 _ _ _ (@AA _ _ _ _) (by rfl)) (by rfl)) (by decide) (by rfl) (by rfl))) (by rfl)) (by rfl)) (by rfl)) (by rfl)) (by decide) (by rfl) (by rfl)) (by rfl) (by symm)) (@AC _ _ _ _ _ (@AO _ _ 5 _ _ _ _ sc_law.nd rfl (by right) (@Ff _ _ _ _ _ _ _ K (@Ab _ _ _ _) (@pa1 _ _ _ (@AR _ _ _ _ _ _ _ _ _ _ _ _ _ _ _ _ G_z14 hr_z14 rfl T.m_z14 T.F_z14.kp T.b_z14 .nil AL (@pa1 _ _ _ (@vw _ 4 _ _ (by left)) (by rfl)) (by decide) (by rfl) (by rfl)) (by rfl)) (by rfl) (by rfl) (by rfl) (by rfl) (by rfl) (by rfl)) (by rfl) (by symm)) (@AC _ _ _ _ _ (@AO _ _ 6 _ _ _ _ sc_law.nd rfl (by right) (@AR _ _ _ _ _ _ _ _ _ _ _ _ _ _ _ _ G_z19 hr_z19 rfl T.m_z19 T.F_z19.kp T.b_z19 .nil AL (@pa1 _ _ _ (@vw _ 4 _ _ (by left)) (by rfl)) (by decide) (by rfl) (by rfl)) (by rfl) (by symm)) (@AC _ _ _ _ _ (@Aj _ _ _ _ _ _ _ _ (PW.pt (@B6 _ _ _ _ _ _ _ (@GK _ _ _ _ (@FK _ _ _ (@BC _ _ _ _ _ _ _ _ _ (Jo (K:=K)) rfl T.z_isinstance (by rfl) (@AE _ _ _ _ _ (@vw _ 6 _ _ (by left)) (@pa1 _ _ _ (@Hi _ _ (.ty "str") _ _ rfl T.z_str (by rfl) rfl (by decide) (by decide)) (by rfl)) (by rfl)) (by decide) (by decide) (by rfl) (by rfl)) (by intro _;rfl))) (@Cb _ _ _ _ (@AU _ _ _ _ _ _ _ _ (kNe (K:=K) hu) (@vw _ 6 _ _ (by left)) (@vw _ 5 _ _ (by left)) (by walk_at "n"))))) (@AI _ _ _ (@AQ _ _ _ _ (@Dn _ _ _ _))) (@Ah _)) (@AI _ _ _ (@Cg _ _ _ _ _ _ _ _ PassesOwn.never rfl (@Cd _ K _ _ _ (@A5 _ _ _ _ (@AE _ _ _ _ _ (@vw _ 3 _ _ (by left)) (@pa1 _ _ _ (@AA _ _ _ _) (by rfl)) (by rfl))) (by rfl)) (@BM _ _ 7 _ sc_law.nd rfl (by right) (by symm)) (@AI _ _ _ (@Aj _ _ _ _ _ _ _ _ (@AU _ _ _ _ _ _ _ _ (kNe (K:=K) hu) (@BC _ _ _ _ _ _ _ _ _ (Ec (K:=K) hr) rfl T.z_repr (by rfl) (@pa1 _ _ _ (@AR _ _ _ _ _ _ _ _ _ _ _ _ _ _ _ _ G_z20 hr_z20 rfl T.m_z20 T.F_z20.kp T.b_z20 .nil AL (@AE _ _ _ _ _ (@vw _ 7 _ _ (by left)) (@pa1 _ _ _ (@vw _ 5 _ _ (by left)) (by rfl)) (by rfl)) (by decide) (by rfl) (by rfl)) (by rfl)) (by decide) (by decide) (by rfl) (by rfl)) (@BC _ _ _ _ _ _ _ _ _ (Ec (K:=K) hr) rfl T.z_repr (by rfl) (@pa1 _ _ _ (@vw _ 4 _ _ (by left)) (by rfl)) (by decide) (by decide) (by rfl) (by rfl)) (by walk_at "n")) (@AI _ _ _ (@AQ _ _ _ _ (@Dn _ _ _ _))) (@Ah _))) (by intro _;rfl)))))))) (by intro _;rfl)) (@AI _ _ _ (@AQ _ _ _ _ (@Dn _ _ _ _))))),?_⟩
 refine fun t ht=>?_
 dsimp only [Ac]
 have T1:=Jy ht hsq
 generalize upd H t (.lst [.ref a,.int 0,.int 0,.int 0])=H1 at *
 refine ⟨12,rfl,by decide,by decide,?_⟩
 refine Jl (fun i σ H'=>(∃ z2 z3 z4 z5 z6 z7:Option V,σ=[some (.ref a),some (.ref t),z2,z3,z4,z5,z6,z7])/\Tape K H' t a ns) ⟨⟨none,none,none,none,none,none,rfl⟩,T1⟩ ?_ (fun σ H' _=>q H')
 rintro i σ H0 hi ⟨⟨z2,z3,z4,z5,z6,z7,rfl⟩,T0⟩
 refine ⟨a,ns,T0,A9 (by decide) (by decide),fun d1 H2 d10 d11 T2 f2=>?_⟩
 dsimp only [CA,Ac]
 obtain ⟨m,em⟩:∃ m:Nat,1+d1=(m:Int):=⟨(1+d1).toNat,by omega⟩
 rw [em]
 have m1:1<=m:=by omega
 have m6:m<=6:=by omega
 refine ⟨a,ns,T2,A9 (by decide) (by decide),fun d3 H3 d30 d31 T3 f3=>?_⟩
 refine ⟨a,ns,T3,A9 (by decide) (by decide),fun d4 H4 d40 d41 T4 f4=>?_⟩
 refine ⟨a,ns,m,T4,rfl,m1,m6,by omega,by omega,by omega,by omega,fun f vf H5 fok fdeep fmany rf T5 F5=>?_⟩
 clear f2 f3 f4 F5 T2 T3 T4 T0 T1
 dsimp only [Ac]
 refine ⟨rfl,f,m,rf,fok,m6,by omega,by omega,fun p6 H6 s6 g6 _=>⟨f.ws,.of g6,Fh m6 fok (by omega),?_⟩⟩
 dsimp only [Ac]
 refine ⟨f,m,Rep.same s6 _ _ rf,fok,m6,by omega,by omega,fun H7 s7=>?_⟩
 dsimp only [Ac]
 have r7:=Rep.same (s6.trans s7) _ _ rf
 have T7:=T5.same (s6.trans s7)
 refine BY (fun σ H'=>σ=[some (.ref a),some (.ref t),some (.int (0+(i:Int))),some (.int m),some vf,some (.str (Aq f)),some (.str (Aq f)),z7]/\H'=H7) ?_ ?_ (by walk_at "sm")
 ·refine ⟨by decide,true,rfl,?_⟩
  have e0:(true ^^ (Aq f == Aq f))=false:=by simp
  show (if (true ^^ (Aq f == Aq f))=true then _ else _)
  rw [e0]
  exact DN ⟨rfl,rfl⟩
 rintro σ H' ⟨rfl,rfl⟩
 refine ⟨AT (show 2<=1000 by decide),fun p8 n8=>?_⟩
 have S8:=Same.upd (o:=.lst [.int m,.int 6]) n8
 have g8:upd H' p8 (.lst [.int m,.int 6]) p8=some (.lst [.int m,.int 6]):=AB
 have r8:=Rep.same S8 _ _ r7
 have T8:=T7.same S8
 generalize upd H' p8 (.lst [.int m,.int 6])=H8 at *
 refine .inl ⟨⟨_,.inl (.of g8)⟩,?_⟩
 refine HY (xs:=[.int m,.int 6]) (fun j σ H'=>∃ y7:Option V,σ=[some (.ref a),some (.ref t),some (.int (0+(i:Int))),some (.int m),some vf,some (.str (Aq f)),some (.str (Aq f)),y7]/\Same H8 H') ⟨z7,rfl,Same.refl _⟩ (fun j σ H' _ ⟨_,_,s⟩=>.inl (.of (s _ _ g8))) ?_ ?_
 ·rintro j x σ H9 hx ⟨y7,rfl,s9⟩
  obtain ⟨k,rfl,hk,hk6⟩:∃ k:Nat,x=.int k/\m<=k/\k<=6:=by
   match j,hx with
   | 0,hx=>cases hx;exact ⟨m,rfl,Nat.le_refl _,m6⟩
   | 1,hx=>cases hx;exact ⟨6,rfl,m6,Nat.le_refl _⟩
   | j+2,hx=>simp at hx
  obtain ⟨nc,bk⟩:=Az m6 fok
  have dep:=HR f
  refine ⟨k,f,rfl,hk6,Aw hk fok,by omega,by omega,rfl,fun v H10 s10 r10=>?_⟩
  refine ⟨f.dv,r10,nc,by omega,by omega,f.dv,Rep.same (s9.trans s10) _ _ r8,nc,by omega,by omega,?_⟩
  have e0:(true ^^ (Ad f.dv == Ad f.dv))=false:=by simp
  show (if (true ^^ (Ad f.dv == Ad f.dv))=true then _ else _)
  rw [e0]
  exact DN ⟨_,rfl,s9.trans s10⟩
 ·rintro σ H9 ⟨y7,rfl,s9⟩
  exact ⟨⟨_,_,_,_,_,_,rfl⟩,T8.same s9⟩
end
theorem all_mk {l:W.OpenLaw} {w:World} {K:W.Frag} {h:Heap} {mg:Str->Option Value} {fa:Addr} (X:K.In h) (G:h.Ns mainGlobals mg) (hfa:mg "law" = some (.ref fa))
 {C_Reader:Addr}
 {f0 f1 f2 f3 f4 f5 f6 f7 f8 f9 f10 f11 f12 f13 f14:Addr} {oc0 kV0 dc0 pm0 cd0 ct0 oc1 kV1 dc1 pm1 cd1 ct1 oc2 kV2 dc2 pm2 cd2 ct2 oc3 kV3 dc3 pm3 cd3 ct3 oc4 kV4 dc4 pm4 cd4 ct4 oc5 kV5 dc5 pm5 cd5 ct5 oc6 kV6 dc6 pm6 cd6 ct6 oc7 kV7 dc7 pm7 cd7 ct7 oc8 kV8 dc8 pm8 cd8 ct8 oc9 kV9 dc9 pm9 cd9 ct9 oc10 kV10 dc10 pm10 cd10 ct10 oc11 kV11 dc11 pm11 cd11 ct11 oc12 kV12 dc12 pm12 cd12 ct12 oc13 kV13 dc13 pm13 cd13 ct13 oc14 kV14 dc14 pm14 cd14 ct14:Value} {od0 an0 od1 an1 od2 an2 od3 an3 od4 an4 od5 an5 od6 an6 od7 an7 od8 an8 od9 an9 od10 an10 od11 an11 od12 an12 od13 an13 od14 an14:Option Addr} {sl0 sl1 sl2 sl3 sl4 sl5 sl6 sl7 sl8 sl9 sl10 sl11 sl12 sl13 sl14:Array (Option Value)}
 {ac_PARTS:Addr} {ep_PARTS:Nat} {t_PARTS_0 u_PARTS_0 t_PARTS_1 u_PARTS_1 t_PARTS_2 u_PARTS_2 t_PARTS_3 u_PARTS_3 t_PARTS_4 u_PARTS_4 t_PARTS_5 u_PARTS_5 t_PARTS_6 u_PARTS_6 t_PARTS_7 u_PARTS_7:Tok}
 {t_MOST_FORMULAS:Tok}
 {t_MOST_WITHIN:Tok}
 (aC_Reader:W.nsIn K mainGlobals "Reader" = some (some (.ref C_Reader)))
 (pg_Reader:W.plainGet K C_Reader Str.empty=true)
 (hd_Reader:W.hasDictIn K C_Reader=true)
 (po_Reader:W.plainOver K C_Reader=true)
 (sa_Reader:W.findIn K (.ref C_Reader) "__setattr__" = some (some (.builtin "object.__setattr__")))
 (mk_Reader:W.makesIn K C_Reader=true)
 (kc_Reader:W.keepIn K (.ref C_Reader)=true)
 (na_figures_Reader:W.findIn K (.ref C_Reader) "figures" = some none)
 (na_words_Reader:W.findIn K (.ref C_Reader) "words" = some none)
 (na_spot_Reader:W.findIn K (.ref C_Reader) "spot" = some none)
 (na_begun_Reader:W.findIn K (.ref C_Reader) "begun" = some none)
 (a0:W.nsIn K mainGlobals "parts_of" = some (some (.ref f0)))
 (l0:K.lookup f0=some ⟨oc0,od0,.func (W.fnOf "parts_of" "parts_of" (AX By) (AV By) (AG By) .none kV0 dc0 pm0 an0 cd0 ct0),sl0⟩)
 (c0:W.codeIn K cd0 "parts_of" = true)
 (k0:W.keepIn K (.ref f0)=true)
 (a1:W.nsIn K mainGlobals "is_too_large" = some (some (.ref f1)))
 (l1:K.lookup f1=some ⟨oc1,od1,.func (W.fnOf "is_too_large" "is_too_large" (AX Bo) (AV Bo) (AG Bo) .none kV1 dc1 pm1 an1 cd1 ct1),sl1⟩)
 (c1:W.codeIn K cd1 "is_too_large" = true)
 (k1:W.keepIn K (.ref f1)=true)
 (a2:W.nsIn K mainGlobals "shown" = some (some (.ref f2)))
 (l2:K.lookup f2=some ⟨oc2,od2,.func (W.fnOf "shown" "shown" (AX Bi) (AV Bi) (AG Bi) .none kV2 dc2 pm2 an2 cd2 ct2),sl2⟩)
 (c2:W.codeIn K cd2 "shown" = true)
 (k2:W.keepIn K (.ref f2)=true)
 (a3:W.nsIn K mainGlobals "words_of" = some (some (.ref f3)))
 (l3:K.lookup f3=some ⟨oc3,od3,.func (W.fnOf "words_of" "words_of" (AX Bl) (AV Bl) (AG Bl) .none kV3 dc3 pm3 an3 cd3 ct3),sl3⟩)
 (c3:W.codeIn K cd3 "words_of" = true)
 (k3:W.keepIn K (.ref f3)=true)
 (a4:W.nsIn K mainGlobals "read" = some (some (.ref f4)))
 (l4:K.lookup f4=some ⟨oc4,od4,.func (W.fnOf "read" "read" (AX Br) (AV Br) (AG Br) .none kV4 dc4 pm4 an4 cd4 ct4),sl4⟩)
 (c4:W.codeIn K cd4 "read" = true)
 (k4:W.keepIn K (.ref f4)=true)
 (a5:W.findIn K (.ref C_Reader) "__init__" = some (some (.ref f5)))
 (i5:W.isFn K (.ref f5)=true)
 (l5:K.lookup f5=some ⟨oc5,od5,.func (W.fnOf "__init__" "Reader.__init__" (AX BX) (AV BX) (AG BX) .none kV5 dc5 pm5 an5 cd5 ct5),sl5⟩)
 (c5:W.codeIn K cd5 "Reader.__init__" = true)
 (k5:W.keepIn K (.ref f5)=true)
 (a6:W.findIn K (.ref C_Reader) "next_word" = some (some (.ref f6)))
 (i6:W.isFn K (.ref f6)=true)
 (l6:K.lookup f6=some ⟨oc6,od6,.func (W.fnOf "next_word" "Reader.next_word" (AX Bt) (AV Bt) (AG Bt) .none kV6 dc6 pm6 an6 cd6 ct6),sl6⟩)
 (c6:W.codeIn K cd6 "Reader.next_word" = true)
 (k6:W.keepIn K (.ref f6)=true)
 (a7:W.findIn K (.ref C_Reader) "take_formula" = some (some (.ref f7)))
 (i7:W.isFn K (.ref f7)=true)
 (l7:K.lookup f7=some ⟨oc7,od7,.func (W.fnOf "take_formula" "Reader.take_formula" (AX BR) (AV BR) (AG BR) .none kV7 dc7 pm7 an7 cd7 ct7),sl7⟩)
 (c7:W.codeIn K cd7 "Reader.take_formula" = true)
 (k7:W.keepIn K (.ref f7)=true)
 (a8:W.findIn K (.ref C_Reader) "take_switch" = some (some (.ref f8)))
 (i8:W.isFn K (.ref f8)=true)
 (l8:K.lookup f8=some ⟨oc8,od8,.func (W.fnOf "take_switch" "Reader.take_switch" (AX BU) (AV BU) (AG BU) .none kV8 dc8 pm8 an8 cd8 ct8),sl8⟩)
 (c8:W.codeIn K cd8 "Reader.take_switch" = true)
 (k8:W.keepIn K (.ref f8)=true)
 (a9:W.findIn K (.ref C_Reader) "take_end" = some (some (.ref f9)))
 (i9:W.isFn K (.ref f9)=true)
 (l9:K.lookup f9=some ⟨oc9,od9,.func (W.fnOf "take_end" "Reader.take_end" (AX Bx) (AV Bx) (AG Bx) .none kV9 dc9 pm9 an9 cd9 ct9),sl9⟩)
 (c9:W.codeIn K cd9 "Reader.take_end" = true)
 (k9:W.keepIn K (.ref f9)=true)
 (a10:W.nsIn K mainGlobals "_law_tape" = some (some (.ref f10)))
 (l10:K.lookup f10=some ⟨oc10,od10,.func (W.fnOf "_law_tape" "_law_tape" (AX Bj) (AV Bj) (AG Bj) .none kV10 dc10 pm10 an10 cd10 ct10),sl10⟩)
 (c10:W.codeIn K cd10 "_law_tape" = true)
 (k10:W.keepIn K (.ref f10)=true)
 (a11:W.nsIn K mainGlobals "_law_next" = some (some (.ref f11)))
 (l11:K.lookup f11=some ⟨oc11,od11,.func (W.fnOf "_law_next" "_law_next" (AX BW) (AV BW) (AG BW) .none kV11 dc11 pm11 an11 cd11 ct11),sl11⟩)
 (c11:W.codeIn K cd11 "_law_next" = true)
 (k11:W.keepIn K (.ref f11)=true)
 (a12:W.nsIn K mainGlobals "_law_formula" = some (some (.ref f12)))
 (l12:K.lookup f12=some ⟨oc12,od12,.func (W.fnOf "_law_formula" "_law_formula" (AX Be) (AV Be) (AG Be) .none kV12 dc12 pm12 an12 cd12 ct12),sl12⟩)
 (c12:W.codeIn K cd12 "_law_formula" = true)
 (k12:W.keepIn K (.ref f12)=true)
 (a13:W.nsIn K mainGlobals "_law_words" = some (some (.ref f13)))
 (l13:K.lookup f13=some ⟨oc13,od13,.func (W.fnOf "_law_words" "_law_words" (AX Bm) (AV Bm) (AG Bm) .none kV13 dc13 pm13 an13 cd13 ct13),sl13⟩)
 (c13:W.codeIn K cd13 "_law_words" = true)
 (k13:W.keepIn K (.ref f13)=true)
 (a14:W.nsIn K mainGlobals "law" = some (some (.ref f14)))
 (l14:K.lookup f14=some ⟨oc14,od14,.func (W.fnOf "law" "law" (AX A6) (AV A6) (AG A6) .none kV14 dc14 pm14 an14 cd14 ct14),sl14⟩)
 (c14:W.codeIn K cd14 "law" = true)
 (k14:W.keepIn K (.ref f14)=true)
 (z_isinstance:W.nsIn K mainGlobals "isinstance" = some none)
 (z_len:W.nsIn K mainGlobals "len" = some none)
 (z_max:W.nsIn K mainGlobals "max" = some none)
 (z_range:W.nsIn K mainGlobals "range" = some none)
 (z_repr:W.nsIn K mainGlobals "repr" = some none)
 (z_str:W.nsIn K mainGlobals "str" = some none)
 (z_tuple:W.nsIn K mainGlobals "tuple" = some none)
 (c_PARTS:W.nsIn K mainGlobals "PARTS" = some (some (.ref ac_PARTS)))
 (q_PARTS:K.lookup ac_PARTS=some ⟨.type "dict",none,.dict #[⟨PyData.keyHash w.params "yes",.str "yes" t_PARTS_0,.int 0 u_PARTS_0⟩,⟨PyData.keyHash w.params "no",.str "no" t_PARTS_1,.int 0 u_PARTS_1⟩,⟨PyData.keyHash w.params "at",.str "at" t_PARTS_2,.int 0 u_PARTS_2⟩,⟨PyData.keyHash w.params "not",.str "not" t_PARTS_3,.int 1 u_PARTS_3⟩,⟨PyData.keyHash w.params "both",.str "both" t_PARTS_4,.int 2 u_PARTS_4⟩,⟨PyData.keyHash w.params "either",.str "either" t_PARTS_5,.int 2 u_PARTS_5⟩,⟨PyData.keyHash w.params "odd",.str "odd" t_PARTS_6,.int 2 u_PARTS_6⟩,⟨PyData.keyHash w.params "most",.str "most" t_PARTS_7,.int 3 u_PARTS_7⟩] ep_PARTS,#[]⟩)
 (s_PARTS:(ac_PARTS == sysModules)=false)
 (c_MOST_FORMULAS:W.nsIn K mainGlobals "MOST_FORMULAS" = some (some (.int 20 t_MOST_FORMULAS)))
 (c_MOST_WITHIN:W.nsIn K mainGlobals "MOST_WITHIN" = some (some (.int 8 t_MOST_WITHIN))) :
 ∃ fd:FuncData,(∀ (s:Shared) (v:Value),BindsTo s fd ⟨[v],[]⟩ [("_law_script",v)])/\∀ base:Heap,K.In base->base.Ns mainGlobals mg->FnOk l.prog w K mg base CX0 16 fa fd ["_law_script"] (CG K):=by
 have e:=hfa.symm.trans (W.mg_of X G a14)
 cases e
 have F0:=Ai (st:=By) l0 c0 k0
 have b0:=F0.binds (ps:=["word"]) fun _ _ _ _ _ _=>L2.on1 (fun _=>rfl)
 have F1:=Ai (st:=Bo) l1 c1 k1
 have b1:=F1.binds (ps:=["many","depth"]) fun _ _ _ _ _ _=>L2.on2 (fun _ _=>rfl)
 have F2:=Ai (st:=Bi) l2 c2 k2
 have b2:=F2.binds (ps:=["formula"]) fun _ _ _ _ _ _=>L2.on1 (fun _=>rfl)
 have F3:=Ai (st:=Bl) l3 c3 k3
 have b3:=F3.binds (ps:=["formula"]) fun _ _ _ _ _ _=>L2.on1 (fun _=>rfl)
 have F4:=Ai (st:=Br) l4 c4 k4
 have b4:=F4.binds (ps:=["n","text"]) fun _ _ _ _ _ _=>L2.on2 (fun _ _=>rfl)
 have F5:=Ai (st:=BX) l5 c5 k5
 have b5:=F5.binds (ps:=["self","n","text"]) fun _ _ _ _ _ _=>L2.on3 (fun _ _ _=>rfl)
 have F6:=Ai (st:=Bt) l6 c6 k6
 have b6:=F6.binds (ps:=["self"]) fun _ _ _ _ _ _=>L2.on1 (fun _=>rfl)
 have F7:=Ai (st:=BR) l7 c7 k7
 have b7:=F7.binds (ps:=["self","depth"]) fun _ _ _ _ _ _=>L2.on2 (fun _ _=>rfl)
 have F8:=Ai (st:=BU) l8 c8 k8
 have b8:=F8.binds (ps:=["self"]) fun _ _ _ _ _ _=>L2.on1 (fun _=>rfl)
 have F9:=Ai (st:=Bx) l9 c9 k9
 have b9:=F9.binds (ps:=["self"]) fun _ _ _ _ _ _=>L2.on1 (fun _=>rfl)
 have F10:=Ai (st:=Bj) l10 c10 k10
 have b10:=F10.binds (ps:=["_law_script"]) fun _ _ _ _ _ _=>L2.on1 (fun _=>rfl)
 have F11:=Ai (st:=BW) l11 c11 k11
 have b11:=F11.binds (ps:=["_law_tape_here","_law_many"]) fun _ _ _ _ _ _=>L2.on2 (fun _ _=>rfl)
 have F12:=Ai (st:=Be) l12 c12 k12
 have b12:=F12.binds (ps:=["_law_tape_here","_law_n","_law_room","_law_deep"]) fun _ _ _ _ _ _=>L2.on4 (fun _ _ _ _=>rfl)
 have F13:=Ai (st:=Bm) l13 c13 k13
 have b13:=F13.binds (ps:=["_law_formula_here"]) fun _ _ _ _ _ _=>L2.on1 (fun _=>rfl)
 have F14:=Ai (st:=A6) l14 c14 k14
 have b14:=F14.binds (ps:=["_law_script"]) fun _ _ _ _ _ _=>L2.on1 (fun _=>rfl)
 let T:Txt w K mg:={ C_Reader:=C_Reader,mC_Reader:=W.mg_of X G aC_Reader,cl_Reader:=⟨pg_Reader,hd_Reader,po_Reader,sa_Reader⟩,na_Reader_figures:=na_figures_Reader,na_Reader_words:=na_words_Reader,na_Reader_spot:=na_spot_Reader,na_Reader_begun:=na_begun_Reader,f_z18:=f0,d_z18:=_,F_z18:=F0,b_z18:=b0,m_z18:=W.mg_of X G a0,f_z12:=f1,d_z12:=_,F_z12:=F1,b_z12:=b1,m_z12:=W.mg_of X G a1,f_z19:=f2,d_z19:=_,F_z19:=F2,b_z19:=b2,m_z19:=W.mg_of X G a2,f_z17:=f3,d_z17:=_,F_z17:=F3,b_z17:=b3,m_z17:=W.mg_of X G a3,f_z20:=f4,d_z20:=_,F_z20:=F4,b_z20:=b4,m_z20:=W.mg_of X G a4,f_z11:=f5,d_z11:=_,F_z11:=F5,b_z11:=b5,me_z11:=⟨a5,i5,k5⟩,mk_Reader:=⟨mk_Reader,a5,i5,kc_Reader⟩,f_z9:=f6,d_z9:=_,F_z9:=F6,b_z9:=b6,me_z9:=⟨a6,i6,k6⟩,f_z0:=f7,d_z0:=_,F_z0:=F7,b_z0:=b7,me_z0:=⟨a7,i7,k7⟩,f_z8:=f8,d_z8:=_,F_z8:=F8,b_z8:=b8,me_z8:=⟨a8,i8,k8⟩,f_z10:=f9,d_z10:=_,F_z10:=F9,b_z10:=b9,me_z10:=⟨a9,i9,k9⟩,f_z15:=f10,d_z15:=_,F_z15:=F10,b_z15:=b10,m_z15:=W.mg_of X G a10,f_z16:=f11,d_z16:=_,F_z16:=F11,b_z16:=b11,m_z16:=W.mg_of X G a11,f_z13:=f12,d_z13:=_,F_z13:=F12,b_z13:=b12,m_z13:=W.mg_of X G a12,f_z14:=f13,d_z14:=_,F_z14:=F13,b_z14:=b13,m_z14:=W.mg_of X G a13,f_law:=fa,d_law:=_,F_law:=F14,b_law:=b14,m_law:=W.mg_of X G a14,z_isinstance:=W.mg_none_of X G z_isinstance,z_len:=W.mg_none_of X G z_len,z_max:=W.mg_none_of X G z_max,z_range:=W.mg_none_of X G z_range,z_repr:=W.mg_none_of X G z_repr,z_str:=W.mg_none_of X G z_str,z_tuple:=W.mg_none_of X G z_tuple,a_PARTS:=ac_PARTS,c_PARTS:=W.mg_of X G c_PARTS,q_PARTS:=fun P=>Hg (vs:=[(Sum.inr "yes",.int 0 u_PARTS_0),(Sum.inr "no",.int 0 u_PARTS_1),(Sum.inr "at",.int 0 u_PARTS_2),(Sum.inr "not",.int 1 u_PARTS_3),(Sum.inr "both",.int 2 u_PARTS_4),(Sum.inr "either",.int 2 u_PARTS_5),(Sum.inr "odd",.int 2 u_PARTS_6),(Sum.inr "most",.int 3 u_PARTS_7)]) q_PARTS s_PARTS (.cons ⟨rfl,⟨_,rfl⟩⟩ (.cons ⟨rfl,⟨_,rfl⟩⟩ (.cons ⟨rfl,⟨_,rfl⟩⟩ (.cons ⟨rfl,⟨_,rfl⟩⟩ (.cons ⟨rfl,⟨_,rfl⟩⟩ (.cons ⟨rfl,⟨_,rfl⟩⟩ (.cons ⟨rfl,⟨_,rfl⟩⟩ (.cons ⟨rfl,⟨_,rfl⟩⟩ .nil)))))))) (List.forall_mem_cons.mpr ⟨⟨Sum.inr "yes",Ae (k:=Sum.inr "yes") ⟨_,rfl⟩,rfl⟩,List.forall_mem_cons.mpr ⟨⟨Sum.inr "no",Ae (k:=Sum.inr "no") ⟨_,rfl⟩,rfl⟩,List.forall_mem_cons.mpr ⟨⟨Sum.inr "at",Ae (k:=Sum.inr "at") ⟨_,rfl⟩,rfl⟩,List.forall_mem_cons.mpr ⟨⟨Sum.inr "not",Ae (k:=Sum.inr "not") ⟨_,rfl⟩,rfl⟩,List.forall_mem_cons.mpr ⟨⟨Sum.inr "both",Ae (k:=Sum.inr "both") ⟨_,rfl⟩,rfl⟩,List.forall_mem_cons.mpr ⟨⟨Sum.inr "either",Ae (k:=Sum.inr "either") ⟨_,rfl⟩,rfl⟩,List.forall_mem_cons.mpr ⟨⟨Sum.inr "odd",Ae (k:=Sum.inr "odd") ⟨_,rfl⟩,rfl⟩,List.forall_mem_cons.mpr ⟨⟨Sum.inr "most",Ae (k:=Sum.inr "most") ⟨_,rfl⟩,rfl⟩,fun e he=>nomatch he⟩⟩⟩⟩⟩⟩⟩⟩) (.cons (Ae (k:=Sum.inr "yes") ⟨_,rfl⟩) rfl (.cons (Ae (k:=Sum.inr "no") ⟨_,rfl⟩) rfl (.cons (Ae (k:=Sum.inr "at") ⟨_,rfl⟩) rfl (.cons (Ae (k:=Sum.inr "not") ⟨_,rfl⟩) rfl (.cons (Ae (k:=Sum.inr "both") ⟨_,rfl⟩) rfl (.cons (Ae (k:=Sum.inr "either") ⟨_,rfl⟩) rfl (.cons (Ae (k:=Sum.inr "odd") ⟨_,rfl⟩) rfl (.cons (Ae (k:=Sum.inr "most") ⟨_,rfl⟩) rfl .nil)))))))) (show ([Sum.inr "yes",Sum.inr "no",Sum.inr "at",Sum.inr "not",Sum.inr "both",Sum.inr "either",Sum.inr "odd",Sum.inr "most"]:List Key).Nodup by decide),t_MOST_FORMULAS:=t_MOST_FORMULAS,c_MOST_FORMULAS:=W.mg_of X G c_MOST_FORMULAS,t_MOST_WITHIN:=t_MOST_WITHIN,c_MOST_WITHIN:=W.mg_of X G c_MOST_WITHIN }
 exact ⟨W.fnOf "law" "law" (AX A6) (AV A6) (AG A6) .none kV14 dc14 pm14 an14 cd14 ct14,fun s v=>.of_eq rfl,fun base _ _=>JZ T⟩
theorem walk {l:W.OpenLaw} {q:Program} {loose:List Str} {XP:(Str->Option Value)->Heap->Prop} {YP:World->Heap->Prop} {d:DefRec} {K:Params->W.Frag} (hn:l.most=some 63) (hdf:d.params.defaults=[])
 (hY:∀ (w:World) (h:Heap),YP w h->(K w.params).In h)
 (F:∀ (w:World) (mg:Str->Option Value) (fa:Addr) (h:Heap),(K w.params).In h->h.Ns mainGlobals mg->mg d.name=some (.ref fa) ->
   ∃ fd:FuncData,(∀ (s:Shared) (u:Value),BindsTo s fd ⟨[u],[]⟩ [("_law_script",u)])/\∀ base:Heap,(K w.params).In base->base.Ns mainGlobals mg->FnOk l.prog w (K w.params) mg base CX0 16 fa fd ["_law_script"] (CG (K w.params))) :
 W.WalkO q loose XP YP l.row.toRowW d [] (fun f vs=>PySem.call f vs) :=
 L2.walk_of (n:=63) (k:=16) (x:="_law_script") (CX:=fun _=>CX0) (sp:=fun w=>CG (K w.params)) hn (by decide) hdf ⟨rfl,by decide,by decide,rfl⟩ hY F (fun _ _ a ns hl _ hS=>⟨a,ns,rfl,hS,hl,fun _=>rfl⟩) fun _ _ _ _ _ z=>z
end Mine
theorem PySem.W.Fast.te16509333718654574103:True:=trivial
def PySem.W.Fast.tw8173477910967176924:PySem.Program:=PySem.Challenge.pw_flips_k06_formulas_written_and_read
theorem PySem.W.Fast.te8173477910967176924:PySem.Challenge.pw_flips_k06_formulas_written_and_read=PySem.W.Fast.tw8173477910967176924:=rfl
def PySem.W.Fast.pickB:List Bool->List PySem.Stmt->List PySem.Stmt
 | [],_=>[]
 | b::k,l=>match b,l with
  | true,s::r=>s::PySem.W.Fast.pickB k r
  | false,_::r=>PySem.W.Fast.pickB k r
  | _,[]=>[]
def PySem.W.Fast.tw14371483053113231762:PySem.Program:={ PySem.Challenge.pw_flips_k06_formulas_written_and_read with main:={ (PySem.Challenge.pw_flips_k06_formulas_written_and_read).main with body:=PySem.W.Fast.pickB [false,true,true,false,true,true,true,true,true,false,true,true,true,true,false,true,true,true,true,true] (PySem.Challenge.pw_flips_k06_formulas_written_and_read).main.body } }
theorem PySem.W.Fast.te14371483053113231762:PySem.W.Fast.tw14371483053113231762=PySem.W.Fast.tw14371483053113231762:=rfl
def PySem.W.Fast.tw17340762835926925702:List PySem.Stmt:=((PySem.Challenge.pw_flips_k06_formulas_written_and_read).main.body.drop 16).take 4
theorem PySem.W.Fast.te17340762835926925702:PySem.W.Fast.tw17340762835926925702=PySem.W.Fast.tw17340762835926925702:=rfl
def PySem.W.Fast.tw8861262300562758102:List PySem.Stmt:=((PySem.Challenge.pw_flips_k06_formulas_written_and_read).main.body.drop 0).take 2
theorem PySem.W.Fast.te8861262300562758102:PySem.W.Fast.tw8861262300562758102=PySem.W.Fast.tw8861262300562758102:=rfl
def PySem.W.Fast.tw1843119002868989346:List PySem.Stmt:=((PySem.Challenge.pw_flips_k06_formulas_written_and_read).main.body.drop 13).take 3
theorem PySem.W.Fast.te1843119002868989346:PySem.W.Fast.tw1843119002868989346=PySem.W.Fast.tw1843119002868989346:=rfl
def PySem.W.Fast.tw178901613495255399:List PySem.Stmt:=((PySem.Challenge.pw_flips_k06_formulas_written_and_read).main.body.drop 2).take 4
theorem PySem.W.Fast.te178901613495255399:PySem.W.Fast.tw178901613495255399=PySem.W.Fast.tw178901613495255399:=rfl
def PySem.W.Fast.tw1405943584723828867:List PySem.Stmt:=((PySem.Challenge.pw_flips_k06_formulas_written_and_read).main.body.drop 6).take 7
theorem PySem.W.Fast.te1405943584723828867:PySem.W.Fast.tw1405943584723828867=PySem.W.Fast.tw1405943584723828867:=rfl
open PySem PySem.W PyProof.Rows
set_option maxRecDepth 100000 in
set_option maxHeartbeats 0 in
theorem PySem.Challenge.cw_flips_k06_formulas_written_and_read_holds : PySem.Challenge.rw_flips_k06_formulas_written_and_read.Holds := by
 w_on;o_law;k_head;(case hw=>w_witness2)
 k_fill
 refine Mine.walk (l:=PySem.Challenge.rw_flips_k06_formulas_written_and_read) rfl rfl (fun w h Y=>PySem.W.kIn_of Y) ?F
 case F =>
  intro w mg fa h KX G hmg
  refine' Mine.all_mk KX G hmg ?aC_Reader ?pg_Reader ?hd_Reader ?po_Reader ?sa_Reader ?mk_Reader ?kc_Reader ?na_figures_Reader ?na_words_Reader ?na_spot_Reader ?na_begun_Reader ?a0 ?l0 ?c0 ?k0 ?a1 ?l1 ?c1 ?k1 ?a2 ?l2 ?c2 ?k2 ?a3 ?l3 ?c3 ?k3 ?a4 ?l4 ?c4 ?k4 ?a5 ?i5 ?l5 ?c5 ?k5 ?a6 ?i6 ?l6 ?c6 ?k6 ?a7 ?i7 ?l7 ?c7 ?k7 ?a8 ?i8 ?l8 ?c8 ?k8 ?a9 ?i9 ?l9 ?c9 ?k9 ?a10 ?l10 ?c10 ?k10 ?a11 ?l11 ?c11 ?k11 ?a12 ?l12 ?c12 ?k12 ?a13 ?l13 ?c13 ?k13 ?a14 ?l14 ?c14 ?k14 ?z_isinstance ?z_len ?z_max ?z_range ?z_repr ?z_str ?z_tuple ?c_PARTS ?q_PARTS ?s_PARTS ?c_MOST_FORMULAS ?c_MOST_WITHIN
  (case aC_Reader | pg_Reader | hd_Reader | po_Reader | sa_Reader | mk_Reader | kc_Reader | na_figures_Reader | na_words_Reader | na_spot_Reader | na_begun_Reader | a0 | l0 | c0 | k0 | a1 | l1 | c1 | k1 | a2 | l2 | c2 | k2 | a3 | l3 | c3 | k3 | a4 | l4 | c4 | k4 | a5 | i5 | l5 | c5 | k5 | a6 | i6 | l6 | c6 | k6 | a7 | i7 | l7 | c7 | k7 | a8 | i8 | l8 | c8 | k8 | a9 | i9 | l9 | c9 | k9 | a10 | l10 | c10 | k10 | a11 | l11 | c11 | k11 | a12 | l12 | c12 | k12 | a13 | l13 | c13 | k13 | a14 | l14 | c14 | k14 | z_isinstance | z_len | z_max | z_range | z_repr | z_str | z_tuple | c_PARTS | q_PARTS | c_MOST_FORMULAS | c_MOST_WITHIN=>k_is)
  (case s_PARTS=>rfl)
