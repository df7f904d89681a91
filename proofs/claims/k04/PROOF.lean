import PyProof.Rows.All
import Wide.All
import OpenK.AllK
import Wide.FinOn
import Lean
import PyProof.EqAt
import PyProof.EqKinds
import PyProof.TupleCall
import PyProof.NeKinds
import PyProof.ReprRoads
import PyProof.ReprBulk
import PyProof.Draws
import PyProof.EnumMake
import KE.BitLaws
import PyProof.ListIndex
import PyProof.AttrMissHeap
import PyProof.DictUpdate
import KE.KDictOf
import PyProof.FactsAll.enumerate_1
import PyProof.FactsAll.tuple_2
import PyProof.ListMulRoad
import PyProof.ListRange
import PyProof.FactsAll.list_3
import PyProof.Rows.SortWalk
import PyProof.Rows.MinMaxN
import KE.KEqDict
import KE.KDictSum
import PyProof.WalksMore
import PyProof.Rows.SetFrom
import PyProof.SetRoads
import PyProof.FactsAll.set_1
import KE.KItemsList
import KE.KSortTup
import KE.KLam
import PyProof.FactsAll.dict_1
import PyProof.StrBlockH
import PyProof.StrLawsTight
import PyProof.StrLawsOccR
import PyProof.StrLawsJoin
import PySem.Challenge.RW_flips_k04_formulas_by_kind
set_option Elab.async false
set_option linter.all false
set_option maxRecDepth 100000
set_option maxHeartbeats 0
-- CHANGE: your row's module here,as the last of these rows
namespace L2
open PySem PySem.Spec PyProof.Rows
abbrev Key:=Sum Int Str
def CJ:Key->Value->Bool
 | .inl k,v=>Value.isInt k v
 | .inr x,v=>Value.isStrOf x v
def Iv (w:World):Key->Int
 | .inl k=>hashInt k
 | .inr x=>hashStr w x
theorem keyIs_shape:∀ {k:Key} {v:Value},CJ k v=true->(∃ i t,k=Sum.inl i/\v=Value.int i t)\/(∃ x t,k=Sum.inr x/\v=Value.str x t)
 | .inl i,v,h=>by
  obtain ⟨t,e⟩:=Value.isInt_shape (k:=i) (v:=v) h
  exact .inl ⟨i,t,rfl,e⟩
 | .inr x,v,h=>by
  obtain ⟨t,e⟩:=Value.isStrOf_shape (x:=x) (v:=v) h
  exact .inr ⟨x,t,rfl,e⟩
theorem KJ (i:Int) (t:Tok):CJ (.inl i) (.int i t)=true:=by simp [CJ,Value.isInt]
theorem Hv (x:Str) (t:Tok):CJ (.inr x) (.str x t)=true:=by simp [CJ,Value.isStrOf]
theorem Jg (a b:Int):decide ((Sum.inl a:Key)=Sum.inl b)=(a == b):=by
 by_cases e:a=b
 ·subst e;simp
 ·have h:¬ (Sum.inl a:Key)=Sum.inl b:=fun q=>e (Sum.inl.inj q)
  rw [decide_eq_false h]
  exact (beq_eq_false_iff_ne.mpr e).symm
theorem LH (a b:Str):decide ((Sum.inr a:Key)=Sum.inr b)=decide (a=b):=by
 by_cases e:a=b
 ·subst e;simp
 ·have h:¬ (Sum.inr a:Key)=Sum.inr b:=fun q=>e (Sum.inr.inj q)
  rw [decide_eq_false h,decide_eq_false e]
theorem MN (a:Int) (b:Str):decide ((Sum.inl a:Key)=Sum.inr b)=false:=decide_eq_false (fun q=>nomatch q)
theorem La (a:Str) (b:Int):decide ((Sum.inr a:Key)=Sum.inl b)=false:=decide_eq_false (fun q=>nomatch q)
def An (prog:Program) (w:World):PySem.KeyKind prog w Key where
 is:=CJ
 hash:=Iv w
 inj:=fun v a b ha hb=>by
  rcases keyIs_shape ha with ⟨i,t,rfl,rfl⟩ | ⟨x,t,rfl,rfl⟩
  ·rcases keyIs_shape hb with ⟨j,u,rfl,e⟩ | ⟨y,u,rfl,e⟩
   ·injection e with e1 _;rw [e1]
   ·exact nomatch e
  ·rcases keyIs_shape hb with ⟨j,u,rfl,e⟩ | ⟨y,u,rfl,e⟩
   ·exact nomatch e
   ·injection e with e1 _;rw [e1]
 byValue:=fun k v h=>by
  rcases keyIs_shape h with ⟨i,t,rfl,rfl⟩ | ⟨x,t,rfl,rfl⟩ <;> rfl
 pyHash:=fun hv h=>by
  rcases keyIs_shape hv with ⟨i,t,rfl,rfl⟩ | ⟨x,t,rfl,rfl⟩
  ·exact wpAny_pyHash_int h
  ·exact wpAny_pyHash_str h
 eqBool:=fun hu hv h=>by
  rcases keyIs_shape hu with ⟨i,t,rfl,rfl⟩ | ⟨x,t,rfl,rfl⟩
  ·rcases keyIs_shape hv with ⟨j,u,rfl,rfl⟩ | ⟨y,u,rfl,rfl⟩
   ·rw [Jg] at h;exact wpAny_eqBool_int h
   ·rw [MN] at h;exact SeqAt.EqAt.int_str i t y u _ _ _ _ h
  ·rcases keyIs_shape hv with ⟨j,u,rfl,rfl⟩ | ⟨y,u,rfl,rfl⟩
   ·rw [La] at h;exact SeqAt.EqAt.str_int x t j u _ _ _ _ h
   ·rw [LH] at h;exact wpAny_eqBool_str h
 «strs»:=fun k x t v h=>by
  rcases keyIs_shape h with ⟨i,u,rfl,e⟩ | ⟨y,u,rfl,e⟩
  ·exact nomatch e
  ·injection e with e1 _
   subst e1
   cases v <;> rfl
theorem MH (prog:Program) (w:World) (i:Int) (t:Tok):(An prog w).is (.inl i) (.int i t)=true:=KJ i t
theorem JA (prog:Program) (w:World) (x:Str) (t:Tok):(An prog w).is (.inr x) (.str x t)=true:=Hv x t
inductive V where
 | non | bl (b:Bool) | int (i:Int) | str (x:Str) | byt (b:Array UInt8) | flt (b:UInt64) | ref (a:Addr) | ty (n:String)
 deriving DecidableEq
def RelV:V->Value->Prop
 | .non,u=>u=Value.none
 | .bl b,u=>u=Value.bool b
 | .int i,u=>∃ t,u=Value.int i t
 | .str x,u=>∃ t,u=Value.str x t
 | .byt b,u=>∃ t,u=Value.bytes b t
 | .flt b,u=>∃ t,u=Value.float b t
 | .ref a,u=>u=Value.ref a
 | .ty n,u=>u=Value.type n
abbrev Vals:List V->List Value->Prop:=Paired RelV
theorem Vals.length {xs:List V} {us:List Value} (r:Vals xs us):xs.length=us.length:=Paired.length r
theorem Vals.get:∀ {xs:List V} {us:List Value} {i:Nat} {x:V},Vals xs us->xs[i]? = some x->∃ u,us[i]? = some u/\RelV x u
 | _,_,_,_,.nil,e=>by simp at e
 | _,_,0,_,.cons r _,e=>by simp at e;subst e;exact ⟨_,rfl,r⟩
 | _,_,i+1,x,.cons _ t,e=>by
  obtain ⟨u,h1,h2⟩:=Vals.get (i:=i) (x:=x) t (by simpa using e)
  exact ⟨u,by simpa using h1,h2⟩
theorem Vals.set {x:V} {u:Value} (r:RelV x u):∀ {xs:List V} {us:List Value} (i:Nat),Vals xs us->Vals (xs.set i x) (us.set i u)
 | _,_,_,.nil=>.nil
 | _,_,0,.cons _ t=>.cons r t
 | _,_,i+1,.cons q t=>.cons q (Vals.set r i t)
theorem Vals.append:∀ {xs ys:List V} {us ws:List Value},Vals xs us->Vals ys ws->Vals (xs++ys) (us++ws)
 | _,_,_,_,.nil,s=>s
 | _,_,_,_,.cons r t,s=>.cons r (Vals.append t s)
theorem Vals.take:∀ {xs:List V} {us:List Value} (n:Nat),Vals xs us->Vals (xs.take n) (us.take n)
 | _,_,0,_=>.nil
 | _,_,_+1,.nil=>.nil
 | _,_,n+1,.cons r t=>.cons r (Vals.take n t)
theorem Vals.drop:∀ {xs:List V} {us:List Value} (n:Nat),Vals xs us->Vals (xs.drop n) (us.drop n)
 | _,_,0,r=>r
 | _,_,_+1,.nil=>.nil
 | _,_,n+1,.cons _ t=>Vals.drop n t
def RelO:Option V->Option Value->Prop
 | some v,some u=>RelV v u
 | none,none=>True
 | _,_=>False
def KV {κ:Type}:List (κ × V)->List (κ × Value)->Prop:=Paired fun (p:κ × V) (q:κ × Value)=>p.1=q.1/\RelV p.2 q.2
def kV:Key->V
 | .inl i=>.int i
 | .inr x=>.str x
inductive HO where
 | lst (xs:List V)
 | tup (xs:List V)
 | dK (kvs:List (Key × V)) | dT (kvs:List (List Key × V))
 | set (S:Int->Bool) (n:Nat)
 | ins (C dx:Addr) (fs:List (Str × V))
 | own (x:Addr)
 | xd (fs:List (Str × V))
 | met (f x:Addr)
 | rng (lo hi:Int)
 | frz (o:Obj) (u:HO)
 | tbl (ps:Array Value)
 | ext (φ:Heap->Prop)
abbrev Hp:=Addr->Option HO
def upd (H:Hp) (a:Addr) (o:HO):Hp:=fun b=>if b=a then some o else H b
theorem AC {H:Hp} {a:Addr} {o:HO}:upd H a o a=some o:=by unfold upd;rw [if_pos rfl]
theorem AJ {H:Hp} {a b:Addr} {o:HO} (h:b≠a):upd H a o b=H b:=by unfold upd;rw [if_neg h]
theorem Bi {H:Hp} {a b:Addr} {o:HO} (h:H a=some o) (h':H b=none):a≠b:=by
 intro e;subst e;rw [h] at h';cases h'
def IsTupN (h:Heap) (a:Addr) (items:Array Value):Prop:=∃ o,h.get? a=some o/\o.cls=.type "tuple" /\ (∃ n,o.data=.seq items n)/\o.dict=none
theorem IsTupN.tup {h:Heap} {a:Addr} {items:Array Value} (x:IsTupN h a items):PyProof.Rows.IsTup h a items:=by
 obtain ⟨o,e,c,d,_⟩:=x
 exact ⟨o,e,c,d⟩
theorem IsTupN.new (h:Heap) (items:Array Value):IsTupN (h.push { cls:=.type "tuple",data:=.seq items }) h.objs.size items:=⟨_,Heap.get?_push_size _ rfl,rfl,⟨_,rfl⟩,rfl⟩
section
variable (P:Program) (w:World)
def ObjOk (H:Hp) (h:Heap) (a:Addr):HO->Prop
 | .lst xs=>xs.length<=sizeLine/\∃ (its:List Value) (n:Nat),Vals xs its/\h.get? a=some { cls:=.type "list",data:=.seq its.toArray n }
 | .tup xs=>xs.length<=sizeLine/\∃ its:List Value,Vals xs its/\IsTupN h a its.toArray
 | .dK kvs=>kvs.length<=sizeLine/\(a == sysModules)=false/\∃ vs,KV kvs vs/\h.DictOf (An P w) a vs
 | .dT kvs=>kvs.length<=sizeLine/\(a == sysModules)=false/\∃ xs:List (List Key × Addr × Value),
  Paired (fun (p:List Key × V) (q:List Key × Addr × Value)=>p.1=q.1/\H q.2.1=some (.tup (p.1.map kV))/\RelV p.2 q.2.2) kvs xs /\
  ∃ o es ep,h.get? a=some o/\o.ExactDict/\o.data=.dict es ep/\es.toList=xs.map (entryOfKey (tupleKind (An P w)))/\(xs.map (·.1)).Nodup
 | .set S n=>h.SetOf (intKind P w) a S n
 | .ins C dx fs=>H dx=some (.own a)/\fs.length<=1000/\dx≠a/\h.get? a=some (PySem.W.instObj C dx) /\
  ∃ mA,h.Ns1 dx mA/\(∀ f,RelO (fs.lookup f) (mA f))/\PySem.Within mA (fs.map (·.1))
 | .own _=>∃ o,h.get? a=some o
 | .xd fs=>∃ mA,h.Ns1 a mA/\∀ f,RelO (fs.lookup f) (mA f)
 | .rng lo hi=>∃ t u v,h.get? a=some { cls:=.type "range",data:=.fields #[.int lo t,.int hi u,.int 1 v] }
 | .frz o u=>h.get? a=some o/\ObjOk H h a u
 | .tbl ps=>h.get? a=some { cls:=.none,data:=.fields ps }
 | .met f x=>h.get? a=some (PySem.W.methodObj (.ref f) (.ref x))
 | .ext φ=>φ h/\(∃ o,h.get? a=some o)/\∀ h1 h2:Heap,φ h1->(∀ o,h1.get? a=some o->h2.get? a=some o)->φ h2
def HOk (H:Hp) (h:Heap):Prop:=∀ a o,H a=some o->ObjOk P w H h a o
end
section
variable {P:Program} {w:World} {H H':Hp} {h h':Heap} {a:Addr} {o:HO}
theorem ObjOk.lt (x:ObjOk P w H h a o):a < h.objs.size:=by
 cases o with
 | lst xs=>obtain ⟨_,_,_,_,e⟩:=x;exact Heap.lt_size e
 | tup xs=>obtain ⟨_,_,_,p⟩:=x;exact p.tup.lt
 | dK kvs=>obtain ⟨_,_,_,_,o,_,_,e,_⟩:=x;exact Heap.lt_size e
 | dT kvs=>obtain ⟨_,_,_,_,o,_,_,e,_⟩:=x;exact Heap.lt_size e
 | set S n=>obtain ⟨o,_,_,_,e,_⟩:=x;exact Heap.lt_size e
 | ins C dx fs=>obtain ⟨_,_,_,e,_⟩:=x;exact Heap.lt_size e
 | own y=>obtain ⟨_,e⟩:=x;exact Heap.lt_size e
 | xd fs=>obtain ⟨_,⟨_,_,_,e,_⟩,_⟩:=x;exact Heap.lt_size e
 | rng lo hi=>obtain ⟨_,_,_,e⟩:=x;exact Heap.lt_size e
 | frz ob u=>obtain ⟨e,_⟩:=x;exact Heap.lt_size e
 | tbl ps=>exact Heap.lt_size (show h.get? a=some _ from x)
 | met f y=>exact Heap.lt_size (show h.get? a=some _ from x)
 | ext φ=>obtain ⟨_,⟨_,e⟩,_⟩:=x;exact Heap.lt_size e
theorem Paired.mapP {α β:Type} {F G:α->β->Prop}:∀ {l₁:List α} {l₂:List β},Paired F l₁ l₂->(∀ a b,F a b->G a b)->Paired G l₁ l₂
 | _,_,.nil,_=>.nil
 | _,_,.cons r t,f=>.cons (f _ _ r) (Paired.mapP t f)
theorem ObjOk.stay (x:ObjOk P w H h a o) (k:∀ b u,(b=a\/H b=some (.own a))->h.get? b=some u->h'.get? b=some u)
 (ho:∀ b,H b=some (.own a)->H' b=some (.own a)) (ht:∀ b xs,H b=some (.tup xs)->H' b=some (.tup xs)):ObjOk P w H' h' a o:=by
 induction o with
 | lst xs=>obtain ⟨z,its,n,r,e⟩:=x;exact ⟨z,its,n,r,k _ _ (.inl rfl) e⟩
 | tup xs=>obtain ⟨z,its,r,ob,e,c⟩:=x;exact ⟨z,its,r,ob,k _ _ (.inl rfl) e,c⟩
 | dK kvs=>obtain ⟨z,y,vs,r,ob,es,ep,e,c⟩:=x;exact ⟨z,y,vs,r,ob,es,ep,k _ _ (.inl rfl) e,c⟩
 | dT kvs =>
  obtain ⟨z,y,xs,r,ob,es,ep,e,c⟩:=x
  exact ⟨z,y,xs,Paired.mapP r fun p q z=>⟨z.1,ht _ _ z.2.1,z.2.2⟩,ob,es,ep,k _ _ (.inl rfl) e,c⟩
 | set S n=>obtain ⟨ob,es,ep,t,e,c⟩:=x;exact ⟨ob,es,ep,t,k _ _ (.inl rfl) e,c⟩
 | ins C dx fs =>
  obtain ⟨d,z,ne,e,mA,⟨od,es,ep,e2,c⟩,r⟩:=x
  exact ⟨ho _ d,z,ne,k _ _ (.inl rfl) e,mA,⟨od,es,ep,k _ _ (.inr d) e2,c⟩,r⟩
 | own y=>obtain ⟨ob,e⟩:=x;exact ⟨ob,k _ _ (.inl rfl) e⟩
 | xd fs=>obtain ⟨mA,⟨od,es,ep,e,c⟩,r⟩:=x;exact ⟨mA,⟨od,es,ep,k _ _ (.inl rfl) e,c⟩,r⟩
 | rng lo hi=>obtain ⟨t,u,v,e⟩:=x;exact ⟨t,u,v,k _ _ (.inl rfl) e⟩
 | frz ob u ih=>obtain ⟨e,q⟩:=x;exact ⟨k _ _ (.inl rfl) e,ih q⟩
 | tbl ps =>
  have e:h.get? a=some { cls:=.none,data:=.fields ps }:=x
  show h'.get? a=some { cls:=.none,data:=.fields ps }
  exact k a _ (.inl rfl) e
 | met f y =>
  have e:h.get? a=some (PySem.W.methodObj (.ref f) (.ref y)):=x
  show h'.get? a=some (PySem.W.methodObj (.ref f) (.ref y))
  exact k a _ (.inl rfl) e
 | ext φ=>obtain ⟨p,⟨o,e⟩,st⟩:=x;exact ⟨st _ _ p fun o q=>k _ _ (.inl rfl) q,⟨o,k _ _ (.inl rfl) e⟩,st⟩
theorem HOk.lt (x:HOk P w H h) (e:H a=some o):a < h.objs.size:=(x a o e).lt
theorem HOk.fresh (x:HOk P w H h) (e:h.objs.size<=a):H a=none:=by
 cases q:H a with
 | none=>rfl
 | some u=>exact absurd (Nat.lt_of_lt_of_le (x.lt q) e) (Nat.lt_irrefl _)
theorem HOk.kept (x:HOk P w H h) (k:∀ b u,h.get? b=some u->h'.get? b=some u):HOk P w H h':=fun a o e =>
 (x a o e).stay (fun b u _ q=>k b u q) (fun _ q=>q) fun _ _ q=>q
theorem HOk.laid (x:HOk P w H h) (k:∀ b u,h.get? b=some u->h'.get? b=some u) (hp:h.objs.size<=a) (new:ObjOk P w (upd H a o) h' a o):HOk P w (upd H a o) h':=fun b u e=>by
 have hn:=x.fresh hp
 by_cases hb:b=a
 ·subst hb;rw [AC] at e;cases e;exact new
 ·rw [AJ hb] at e
  exact (x b u e).stay (fun c v _ q=>k c v q) (fun c q=>by rw [AJ (Bi q hn)];exact q) fun c xs q=>by rw [AJ (Bi q hn)];exact q
end
def Rd (H:Hp) (a:Addr) (u:HO):Prop:=H a=some u\/∃ o,H a=some (.frz o u)
theorem Rd.of {H:Hp} {a:Addr} {u:HO} (h:H a=some u):Rd H a u:=.inl h
theorem Rd.ok {P:Program} {w:World} {H:Hp} {h:Heap} {a:Addr} {u:HO} (r:Rd H a u) (x:HOk P w H h):ObjOk P w H h a u:=by
 rcases r with r | ⟨o,r⟩
 ·exact x a u r
 ·obtain ⟨_,q⟩:=x a _ r
  exact q
def Mut:Option HO->Prop
 | some (.lst _)=>True
 | some (.dK _)=>True
 | some (.dT _)=>True
 | some (.set _ _)=>True
 | some (.ins _ _ _)=>True
 | some (.ext _)=>True
 | _=>False
section
variable {P:Program} {w:World} {H:Hp} {h h':Heap} {x e:Addr} {o':HO}
theorem HOk.write (ok:HOk P w H h) (mu:Mut (H x)) (he:e=x\/H e=some (.own x)) (k:∀ b u,b≠e->h.get? b=some u->h'.get? b=some u) (heo:∃ u,h'.get? e=some u)
 (new:ObjOk P w (upd H x o') h' x o'):HOk P w (upd H x o') h':=fun b u q=>by
 have nown:∀ c y,H c=some (.own y)->c≠x:=fun c y r z=>by subst z;rw [r] at mu;exact mu
 have ntup:∀ c xs,H c=some (.tup xs)->c≠x:=fun c xs r z=>by subst z;rw [r] at mu;exact mu
 by_cases hb:b=x
 ·subst hb;rw [AC] at q;cases q;exact new
 ·rw [AJ hb] at q
  by_cases hbe:b=e
  ·have q':H b=some (.own x):=by
    rcases he with z | z
    ·exact absurd (hbe.trans z) hb
    ·rw [hbe];exact z
   rw [q] at q';cases q'
   obtain ⟨v,hv⟩:=heo
   exact ⟨v,by rw [hbe];exact hv⟩
  ·refine (ok b u q).stay (fun c v hc r=>k c v ?_ r) (fun c r=>by rw [AJ (nown c b r)];exact r) fun c xs r=>by rw [AJ (ntup c xs r)];exact r
   rcases hc with rfl | hc
   ·exact hbe
   ·rintro rfl
    rcases he with z | z
    ·exact nown c b hc z
    ·rw [hc] at z;cases z;exact hb rfl
end
structure Un (fs ex:List Addr) (H H':Hp) (h h':Heap):Prop where
 keep:∀ b o,h.get? b=some o->H b=none->b∉fs->b∉ex->h'.get? b=some o
 slot:∀ b o,h.get? b=some o->H b=none->b∈fs->b∉ex->∃ sl,h'.get? b=some { o with slots:=sl }
 free:∀ b o,h.get? b=some o->H b=none->b∉ex->H' b=none
 there:∀ b o,h.get? b=some o->b∉ex->∃ o',h'.get? b=some o'
 tups:∀ b xs,H b=some (.tup xs)->H' b=some (.tup xs)
 frzs:∀ b o u,H b=some (.frz o u)->H' b=some (.frz o u)
 tbls:∀ b ps,H b=some (.tbl ps)->∃ more,H' b=some (.tbl (ps++more))
section
variable {fs fs' ex ex':List Addr} {H H1 H2:Hp} {h h1 h2 h':Heap} {a x e:Addr} {o:HO}
theorem Un.any (u:Un fs ex H H1 h h1) {b:Addr} {ob:Obj} (q:h.get? b=some ob) (n:H b=none) (hx:b∉ex):∃ sl,h1.get? b=some { ob with slots:=sl }:=by
 by_cases hb:b∈fs
 ·exact u.slot b ob q n hb hx
 ·exact ⟨ob.slots,u.keep b ob q n hb hx⟩
theorem Un.kept (k:∀ b u,h.get? b=some u->h'.get? b=some u):Un fs ex H H h h' :=
 ⟨fun b ob q _ _ _=>k b ob q,fun b ob q _ _ _=>⟨ob.slots,k b ob q⟩,fun _ _ _ n _=>n,fun b ob q _=>⟨ob,k b ob q⟩,fun _ _ q=>q,fun _ _ _ q=>q,fun _ ps q=>⟨#[],by rw [q];simp⟩⟩
theorem Un.refl:Un fs ex H H h h:=Un.kept fun _ _ q=>q
theorem Un.laid (k:∀ b u,h.get? b=some u->h'.get? b=some u) (hp:h.objs.size<=a) (hn:H a=none):Un fs ex H (upd H a o) h h' where
 keep:=fun b u q _ _ _=>k b u q
 slot:=fun b u q _ _ _=>⟨u.slots,k b u q⟩
 free:=fun b u q n _=>by rw [AJ (Nat.ne_of_lt (Nat.lt_of_lt_of_le (Heap.lt_size q) hp))];exact n
 there:=fun b u q _=>⟨u,k b u q⟩
 tups:=fun b xs q=>by rw [AJ (Bi q hn)];exact q
 frzs:=fun b u xs q=>by rw [AJ (Bi q hn)];exact q
 tbls:=fun b ps q=>⟨#[],by rw [AJ (Bi q hn),q];simp⟩
theorem Un.write (mu:Mut (H x)) (he:e=x\/H e=some (.own x)) (k:∀ b u,b≠e->h.get? b=some u->h'.get? b=some u) (heo:∃ u,h'.get? e=some u):Un fs ex H (upd H x o) h h':=by
 have hx:∀ b,H b=none->b≠x:=fun b n z=>by subst z;rw [n] at mu;exact mu
 have hb:∀ b,H b=none->b≠e:=fun b n z=>by
  subst z
  rcases he with r | r
  ·exact hx b n r
  ·rw [n] at r;cases r
 have hm:∀ b u,H b=some u->¬ Mut (some u)->b≠x:=fun b u q nm z=>by subst z;rw [q] at mu;exact nm mu
 refine ⟨fun b u q n _ _=>k b u (hb b n) q,fun b u q n _ _=>⟨u.slots,k b u (hb b n) q⟩,fun b u q n _=>by rw [AJ (hx b n)];exact n,fun b u q _=>?_,
  fun b xs q=>by rw [AJ (hm b _ q fun z=>z)];exact q,fun b u xs q=>by rw [AJ (hm b _ q fun z=>z)];exact q,fun b ps q=>⟨#[],by rw [AJ (hm b _ q fun z=>z),q];simp⟩⟩
 by_cases hbe:b=e
 ·subst hbe;exact heo
 ·exact ⟨u,k b u hbe q⟩
end
def trk (h:Heap) (H:Hp):List Addr:=(List.range h.objs.size).filter fun a=>(H a).isSome
def BM (h:Heap) (H:Hp):Heap:=PySem.W.hideAll h (trk h H)
theorem Gu (h:Heap) (H:Hp):(BM h H).objs.size=h.objs.size:=PySem.W.hideAll_size _ _
theorem G7 {h:Heap} {H:Hp} {b:Addr} {o:Obj} (e:h.get? b=some o) (n:H b=none):(BM h H).get? b=some o :=
 PySem.W.hideAll_get _ e fun hm=>by
  have q:(H b).isSome=true:=(List.mem_filter.mp hm).2
  rw [n] at q;simp at q
theorem HB {h:Heap} {H:Hp} {b:Addr} {o:Obj} (e:(BM h H).get? b=some o):h.get? b=some o/\H b=none:=by
 have e':h.get? b=some o:=PySem.W.of_hideAll (trk h H) e
 refine ⟨e',?_⟩
 cases q:H b with
 | none=>rfl
 | some x =>
  have hm:b∈trk h H:=List.mem_filter.mpr ⟨List.mem_range.mpr (Heap.lt_size e'),by simp [q]⟩
  have z:(BM h H).get? b=none:=PySem.W.hideAll_none (trk h H) hm
  rw [z] at e;cases e
def LQ (g h:Heap) (L:Addr):List (Addr × Obj):=(List.range h.objs.size).filterMap fun a=>if a=L\/(g.get? a).isSome=true then none else (h.get? a).map fun o=>(a,o)
def rest (g h:Heap) (L d:Addr):List (Addr × Obj):=(LQ g h L).filter fun p=>decide (p.1≠d)
structure Mod (K:PySem.W.Frag) (mg:Str->Option Value) (base:Heap):Prop where
 kin:K.In base
 glob:base.Ns mainGlobals mg
 blt:∃ mb,base.Ns builtinsNs mb/\∀ x:Str,x ≠ "__name__" -> mb x=bootBuiltins x
 nolimit:base.NoLimit
structure Cx where
 prog:Program
 w:World
 K:PySem.W.Frag
 mg:Str->Option Value
 base:Heap
 A:Around
 N:List Str
 s₀:Shared
 H₀:Hp
 env:Env
 outer:List Env
 stack:List Env
 ex:List Addr
 fn:Str->Bool
 calm:Bool
 pn:List (Addr × Obj)
 xe:Value->Shared->Prop
def frs (l:List Env):List Addr:=l.filterMap (·.frame)
abbrev Cx.fs (X:Cx):List Addr:=frs X.outer
def Vis (sc:Scope) (x:Str):Prop:=sc.names.lookup x=some .local\/sc.names.lookup x=some .cell\/sc.names.lookup x=some .free
def Loc (sc:Scope) (x:Str):Prop:=sc.names.lookup x=some .local\/sc.names.lookup x=some .cell
def MK (env:Env) (h:Heap) (m:Str->Option Value) (x:Str) (u:Value):Prop :=
 (env.kindOf x=some .local/\m x=some u)\/((env.kindOf x=some .cell\/env.kindOf x=some .free)/\∃ c,env.cells.lookup x=some c/\h.IsCell c (some u))
structure Cx.Ok (X:Cx):Prop where
 mod:Mod X.K X.mg X.base
 kind:X.env.scope.kind=.function
 glob:X.env.globals=mainGlobals
 blt:X.env.builtins=builtinsNs
 above:X.s₀.heap.objs.size<=X.env.locals
 inj:∀ x y c,X.env.cells.lookup x=some c->X.env.cells.lookup y=some c->x=y
 has:∀ x,(X.env.kindOf x=some .cell\/X.env.kindOf x=some .free)->∃ c,X.env.cells.lookup x=some c
 cab:∀ x c,X.fn x=true->X.env.cells.lookup x=some c->X.s₀.heap.objs.size<=c
 hd:X.calm=true->X.A.handled=none
 frames:X.A.frames=some X.stack
 stk:X.stack=X.outer\/(X.stack=X.env::X.outer/\X.env.frame=some X.env.locals)
 exf:∀ b∈X.ex,b≠X.env.locals/\∀ x c,X.env.cells.lookup x=some c->c≠b
 bs:∀ b o,X.base.get? b=some o->X.s₀.heap.get? b=some o/\X.H₀ b=none
 bsz:X.base.objs.size<=X.s₀.heap.objs.size
 noex:∀ b o,X.base.get? b=some o->b∉X.ex
 exfs:∀ b∈X.ex,b∉X.fs
 funs:X.s₀.heap.FunFrames X.base X.outer
 frf:∀ b∈X.fs,X.H₀ b=none
structure Inv (X:Cx) (pins:List (Addr × Obj)) (σ:List (Option V)) (H:Hp) (s:Shared):Prop where
 ok:X.Ok
 os:s.os=X.s₀.os
 bare:AllBare s.gens
 base:Un X.fs X.ex X.H₀ H X.s₀.heap s.heap
 loc:∃ m,s.heap.Ns X.env.locals m/\∀ (i:Nat) (x:Str) (v:V),X.N[i]? = some x->σ[i]? = some (some v)->Vis X.env.scope x->∃ u,RelV v u/\MK X.env s.heap m x u
 cell:∀ x c,X.env.cells.lookup x=some c->∃ v,s.heap.IsCell c v
 free:H X.env.locals=none
 freeC:∀ x c,X.env.cells.lookup x=some c->H c=none
 pin:∀ p∈X.pn++pins,s.heap.get? p.1=some p.2/\H p.1=none/\p.1≠X.env.locals/\p.1∉X.fs/\∀ v,p.2.data≠.cell v
 hok:HOk X.prog X.w H s.heap
 len:σ.length=X.N.length
section
variable {X:Cx} {pins:List (Addr × Obj)} {σ:List (Option V)} {H H':Hp} {s:Shared} {h':Heap}
theorem Cx.Ok.nofr (ok:X.Ok) {b:Addr} {o:Obj} (e:X.base.get? b=some o):b∉X.fs:=fun hb=>by
 have:=(ok.funs.mem hb).1
 rw [e] at this;cases this
theorem Inv.bs (I:Inv X pins σ H s):∀ b o,X.base.get? b=some o->s.heap.get? b=some o/\H b=none:=fun b o e =>
 ⟨I.base.keep b o (I.ok.bs b o e).1 (I.ok.bs b o e).2 (I.ok.nofr e) (I.ok.noex b o e),I.base.free b o (I.ok.bs b o e).1 (I.ok.bs b o e).2 (I.ok.noex b o e)⟩
theorem Inv.bk (I:Inv X pins σ H s):∀ b o,X.base.get? b=some o->s.heap.get? b=some o:=fun b o e=>(I.bs b o e).1
theorem Inv.mod (I:Inv X pins σ H s):Mod X.K X.mg X.base:=I.ok.mod
theorem Inv.kIn (I:Inv X pins σ H s):X.K.In s.heap:=I.ok.mod.kin.keeps I.bk
theorem Inv.lt (I:Inv X pins σ H s):X.env.locals < s.heap.objs.size:=let ⟨_,hn,_⟩:=I.loc;hn.lt
theorem Inv.sz (I:Inv X pins σ H s):X.s₀.heap.objs.size<=s.heap.objs.size:=Nat.le_trans I.ok.above (Nat.le_of_lt I.lt)
theorem Inv.nofs (I:Inv X pins σ H s) {a:Addr} (h:s.heap.objs.size<=a):a∉X.fs:=fun hb=>by
 obtain ⟨_,o,ho,_⟩:=I.ok.funs.mem hb
 exact absurd (Nat.lt_of_lt_of_le (Heap.lt_size ho) (Nat.le_trans I.sz h)) (Nat.lt_irrefl _)
theorem Inv.cne (I:Inv X pins σ H s):∀ x c,X.env.cells.lookup x=some c->c≠X.env.locals:=fun x c e z=>by
 obtain ⟨v,o,ho,hd⟩:=I.cell x c e
 obtain ⟨m,⟨o',es,ep,ho',hd',_⟩,_⟩:=I.loc
 rw [z,ho'] at ho;cases ho;rw [hd'] at hd;cases hd
theorem Inv.funs (I:Inv X pins σ H s):s.heap.FunFrames X.base X.outer:=by
 have all:∀ (l:List Env),(∀ b∈frs l,b∈X.fs)->X.s₀.heap.FunFrames X.base l->s.heap.FunFrames X.base l:=by
  intro l
  induction l with
  | nil=>intro _ _;trivial
  | cons env r ih =>
   intro hs hl
   obtain ⟨hk,⟨L,o,hf,hn,ho,hd⟩,hr⟩:=hl
   have hL:L∈X.fs:=hs L (by unfold frs;rw [List.filterMap_cons,hf];exact List.mem_cons_self)
   obtain ⟨sl,e⟩:=I.base.slot L o ho (I.ok.frf L hL) hL fun z=>I.ok.exfs L z hL
   exact ⟨hk,⟨L,_,hf,hn,e,hd⟩,ih (fun b hb=>hs b (by unfold frs;rw [List.filterMap_cons,hf];exact List.mem_cons_of_mem _ hb)) hr⟩
 exact all X.outer (fun _ hb=>hb) I.ok.funs
theorem Inv.stack (I:Inv X pins σ H s):s.heap.FunFrames X.base X.stack:=by
 rcases I.ok.stk with e | ⟨e,hf⟩
 ·rw [e];exact I.funs
 ·rw [e]
  obtain ⟨m,hn,_⟩:=I.loc
  refine .cons (by rw [I.ok.kind];decide) hf hn ?_ I.funs
  exact Heap.get?_none_of_le (Nat.le_trans I.ok.bsz I.ok.above)
theorem Inv.stkSub (I:Inv X pins σ H s):∀ b∈frs X.stack,b∈X.env.locals::X.fs:=fun b hb=>by
 rcases I.ok.stk with e | ⟨e,hf⟩
 ·rw [e] at hb;exact List.mem_cons_of_mem _ hb
 ·rw [e] at hb
  unfold frs at hb
  rw [List.filterMap_cons,hf] at hb
  exact hb
theorem Inv.stkFree (I:Inv X pins σ H s):∀ b∈frs X.stack,H b=none:=fun b hb=>by
 rcases List.mem_cons.mp (I.stkSub b hb) with e | hb
 ·rw [e];exact I.free
 ·obtain ⟨_,o,ho,_⟩:=I.ok.funs.mem hb
  exact I.base.free b o ho (I.ok.frf b hb) fun z=>I.ok.exfs b z hb
theorem Inv.step {g':Array GenState} {t':Nat} {d':Drawn} {ch:List Addr} (I:Inv X pins σ H s)
 (hch:∀ b∈ch,(b∈X.ex\/X.s₀.heap.objs.size<=b)/\b≠X.env.locals/\(∀ x c,X.env.cells.lookup x=some c->c≠b)/\∀ p∈X.pn++pins,p.1≠b)
 (keep:∀ b o,b≠X.env.locals->b∉X.fs->b∉ch->s.heap.get? b=some o->H b=none->h'.get? b=some o)
 (slot:∀ b o,b≠X.env.locals->b∈X.fs->b∉ch->s.heap.get? b=some o->H b=none->∃ sl,h'.get? b=some { o with slots:=sl }) (free:∀ b o,b∉ch->s.heap.get? b=some o->H b=none->H' b=none)
 (there:∀ b o,b∉ch->s.heap.get? b=some o->∃ o',h'.get? b=some o')
 (tups:∀ b xs,H b=some (.tup xs)->H' b=some (.tup xs)) (frzs:∀ b o u,H b=some (.frz o u)->H' b=some (.frz o u)) (tbls:∀ b ps,H b=some (.tbl ps)->∃ more,H' b=some (.tbl (ps++more)))
 (ns:∀ m,s.heap.Ns X.env.locals m->h'.Ns X.env.locals m) (hok:HOk X.prog X.w H' h') (hg:AllBare g') :
 Inv X pins σ H' { s with heap:=h',gens:=g',drawn:=d',toks:=t' }:=by
 have neL:∀ b o,X.s₀.heap.get? b=some o->b≠X.env.locals:=fun b o e=>Nat.ne_of_lt (Nat.lt_of_lt_of_le (Heap.lt_size e) I.ok.above)
 have neC:∀ b o,X.s₀.heap.get? b=some o->b∉X.ex->b∉ch:=fun b o e hx hb=>by
  rcases (hch b hb).1 with z | z
  ·exact hx z
  ·exact absurd (Nat.lt_of_lt_of_le (Heap.lt_size e) z) (Nat.lt_irrefl _)
 have cellK:∀ x c,X.env.cells.lookup x=some c->∀ v,s.heap.IsCell c v->h'.IsCell c v:=fun x c e v ⟨o,ho,hd⟩=>by
  have nch:c∉ch:=fun z=>(hch c z).2.2.1 x c e rfl
  by_cases hc:c∈X.fs
  ·obtain ⟨sl,q⟩:=slot c o (I.cne x c e) hc nch ho (I.freeC x c e)
   exact ⟨_,q,hd⟩
  ·exact ⟨o,keep c o (I.cne x c e) hc nch ho (I.freeC x c e),hd⟩
 refine ⟨I.ok,I.os,hg,⟨fun b o e n hb hx=>?_,fun b o e n hb hx=>?_,fun b o e n hx=>?_,fun b o e hx=>?_,fun b xs e=>tups b xs (I.base.tups b xs e),fun b o xs e=>frzs b o xs (I.base.frzs b o xs e),fun b ps e=>?_⟩,?_,fun x c e=>?_,?_,fun x c e=>?_,fun p hp=>?_,hok,I.len⟩
 ·exact keep b o (neL b o e) hb (neC b o e hx) (I.base.keep b o e n hb hx) (I.base.free b o e n hx)
 ·obtain ⟨sl,e1⟩:=I.base.slot b o e n hb hx
  obtain ⟨sl',e2⟩:=slot b _ (neL b o e) hb (neC b o e hx) e1 (I.base.free b o e n hx)
  exact ⟨sl',e2⟩
 ·obtain ⟨o',e1⟩:=I.base.there b o e hx
  exact free b o' (neC b o e hx) e1 (I.base.free b o e n hx)
 ·obtain ⟨o',e1⟩:=I.base.there b o e hx
  exact there b o' (neC b o e hx) e1
 ·obtain ⟨m1,e1⟩:=I.base.tbls b ps e
  obtain ⟨m2,e2⟩:=tbls b _ e1
  exact ⟨m1++m2,by rw [e2,Array.append_assoc]⟩
 ·obtain ⟨m,hn,hl⟩:=I.loc
  refine ⟨m,ns m hn,fun i x v e1 e2 e3=>?_⟩
  obtain ⟨u,r,l⟩:=hl i x v e1 e2 e3
  refine ⟨u,r,?_⟩
  rcases l with l | ⟨k,c,e,z⟩
  ·exact .inl l
  ·exact .inr ⟨k,c,e,cellK x c e _ z⟩
 ·obtain ⟨v,z⟩:=I.cell x c e
  exact ⟨v,cellK x c e v z⟩
 ·obtain ⟨m,⟨o,_,_,ho,_⟩,_⟩:=I.loc
  exact free _ o (fun z=>(hch _ z).2.1 rfl) ho I.free
 ·obtain ⟨v,o,ho,hd⟩:=I.cell x c e
  exact free c o (fun z=>(hch c z).2.2.1 x c e rfl) ho (I.freeC x c e)
 ·obtain ⟨e,n,ne,nf,d⟩:=I.pin p hp
  have nch:p.1∉ch:=fun z=>(hch p.1 z).2.2.2 p hp rfl
  exact ⟨keep p.1 p.2 ne nf nch e n,free p.1 p.2 nch e n,ne,nf,d⟩
theorem Inv.un {t':Nat} (I:Inv X pins σ H s) (u:Un X.fs [] H H' s.heap h') (hok:HOk X.prog X.w H' h'):Inv X pins σ H' { s with heap:=h',toks:=t' }:=by
 obtain ⟨m,⟨o,es,ep,ho,r⟩,_⟩:=id I.loc
 obtain ⟨sl,hL⟩:=u.any ho I.free (by simp)
 exact I.step (g':=s.gens) (d':=s.drawn) (ch:=[]) (fun _ z=>nomatch z) (fun b o _ hb _ e n=>u.keep b o e n hb (by simp)) (fun b o _ hb _ e n=>u.slot b o e n hb (by simp)) (fun b o _ e n=>u.free b o e n (by simp)) (fun b o _ e=>u.there b o e (by simp)) u.tups u.frzs u.tbls (fun m' hm=>by
  obtain ⟨o',es',ep',ho',r'⟩:=hm
  rw [ho] at ho';cases ho'
  exact ⟨_,es',ep',hL,r'⟩) hok I.bare
theorem Inv.call {g':Array GenState} {t':Nat} {d':Drawn} {ch:List Addr} (I:Inv X pins σ H s) (u:Un (frs X.stack) ch H H' s.heap h') (hok:HOk X.prog X.w H' h') (hg:AllBare g')
 (hch:∀ b∈ch,(b∈X.ex\/X.s₀.heap.objs.size<=b)/\b≠X.env.locals/\(∀ x c,X.env.cells.lookup x=some c->c≠b)/\∀ p∈X.pn++pins,p.1≠b) :
 Inv X pins σ H' { s with heap:=h',gens:=g',drawn:=d',toks:=t' }:=by
 obtain ⟨m,⟨o,es,ep,ho,r⟩,_⟩:=id I.loc
 obtain ⟨sl,hL⟩:=u.any ho I.free fun z=>(hch _ z).2.1 rfl
 exact I.step (ch:=ch) hch (fun b o hL hb hc e n=>u.keep b o e n (fun z=>(List.mem_cons.mp (I.stkSub b z)).elim hL hb) hc) (fun b o _ _ hc e n=>u.any e n hc) (fun b o hc e n=>u.free b o e n hc) (fun b o hc e=>u.there b o e hc) u.tups u.frzs u.tbls (fun m' hm=>by
  obtain ⟨o',es',ep',ho',r'⟩:=hm
  rw [ho] at ho';cases ho'
  exact ⟨_,es',ep',hL,r'⟩) hok hg
theorem Inv.turned {t':Nat} {it:Addr} (I:Inv X pins σ H s) (k:∀ b o,b≠it->s.heap.get? b=some o->h'.get? b=some o) (hn:H it=none) (hL:it≠X.env.locals)
 (h1:it∈X.ex\/X.s₀.heap.objs.size<=it) (h2:∀ x c,X.env.cells.lookup x=some c->c≠it) (h3:∀ p∈X.pn++pins,p.1≠it):Inv X pins σ H { s with heap:=h',toks:=t' }:=by
 have nit:∀ b u,H b=some u->b≠it:=fun b u e z=>by rw [z,hn] at e;cases e
 refine I.step (g':=s.gens) (d':=s.drawn) (ch:=[it]) (fun b hb=>?_) (fun b o _ _ hc e _=>k b o (fun z=>hc (by simp [z])) e) (fun b o _ _ hc e _=>⟨o.slots,k b o (fun z=>hc (by simp [z])) e⟩) (fun _ _ _ _ n=>n)
  (fun b o hc e=>⟨o,k b o (fun z=>hc (by simp [z])) e⟩) (fun _ _ e=>e) (fun _ _ _ e=>e) (fun b ps e=>⟨#[],by rw [e];simp⟩) (fun m hm=>?_) (fun b u e=>?_) I.bare
 ·have e:b=it:=by simpa using hb
  subst e
  exact ⟨h1,hL,h2,h3⟩
 ·obtain ⟨o,es,ep,ho,r⟩:=hm
  exact ⟨o,es,ep,k _ o (Ne.symm hL) ho,r⟩
 ·refine (I.hok b u e).stay (fun c v hc q=>k c v ?_ q) (fun _ q=>q) fun _ _ q=>q
  rcases hc with z | z
  ·rw [z];exact nit b u e
  ·exact nit c _ z
theorem Inv.tok (I:Inv X pins σ H s) (t:Nat):Inv X pins σ H { s with toks:=t }:=I.un (h':=s.heap) (t':=t) Un.refl I.hok
theorem Inv.kept {t':Nat} (I:Inv X pins σ H s) (k:∀ b u,s.heap.get? b=some u->h'.get? b=some u):Inv X pins σ H { s with heap:=h',toks:=t' }:=I.un (Un.kept k) (I.hok.kept k)
theorem Inv.laid {a:Addr} {o:HO} {t':Nat} (I:Inv X pins σ H s) (k:∀ b u,s.heap.get? b=some u->h'.get? b=some u) (hp:s.heap.objs.size<=a) (new:ObjOk X.prog X.w (upd H a o) h' a o) :
 Inv X pins σ (upd H a o) { s with heap:=h',toks:=t' }:=I.un (Un.laid k hp (I.hok.fresh hp)) (I.hok.laid k hp new)
theorem Inv.write {x e:Addr} {o:HO} {t':Nat} (I:Inv X pins σ H s) (mu:Mut (H x)) (he:e=x\/H e=some (.own x)) (k:∀ b u,b≠e->s.heap.get? b=some u->h'.get? b=some u) (heo:∃ u,h'.get? e=some u)
 (new:ObjOk X.prog X.w (upd H x o) h' x o):Inv X pins σ (upd H x o) { s with heap:=h',toks:=t' }:=I.un (Un.write mu he k heo) (I.hok.write mu he k heo new)
theorem Inv.weak {σ':List (Option V)} (I:Inv X pins σ H s) (hl:σ'.length=σ.length) (w:∀ (i:Nat) v,σ'[i]? = some (some v)->σ[i]? = some (some v)):Inv X pins σ' H s :=
 ⟨I.ok,I.os,I.bare,I.base,let ⟨m,hn,hl'⟩:=I.loc;⟨m,hn,fun i x v e1 e2 e3=>hl' i x v e1 (w i v e2) e3⟩,I.cell,I.free,I.freeC,I.pin,I.hok,hl.trans I.len⟩
theorem Inv.pins_of {pins':List (Addr × Obj)} (I:Inv X pins σ H s) (h:∀ p∈pins',s.heap.get? p.1=some p.2/\H p.1=none/\p.1≠X.env.locals/\p.1∉X.fs/\∀ v,p.2.data≠.cell v):Inv X pins' σ H s :=
 ⟨I.ok,I.os,I.bare,I.base,I.loc,I.cell,I.free,I.freeC,fun p hp=>(List.mem_append.mp hp).elim (fun z=>I.pin p (List.mem_append_left _ z)) (h p),I.hok,I.len⟩
theorem Ft {N:List Str} (hN:N.Nodup) {i j:Nat} {x:Str} (a:N[i]? = some x) (b:N[j]? = some x):i=j:=by
 obtain ⟨h1,e1⟩:=List.getElem?_eq_some_iff.mp a
 obtain ⟨h2,e2⟩:=List.getElem?_eq_some_iff.mp b
 exact (List.getElem_inj hN).mp (e1.trans e2.symm)
theorem Gh {M:Model} {A:Around} {E:Value->Shared->Prop} {i:Nat} {x:Str} {v:V} {u:Value} {Q:Unit->Shared->Prop} (I:Inv X pins σ H s) (hN:X.N.Nodup) (hi:X.N[i]? = some x) (hx:Loc X.env.scope x) (r:RelV v u)
 (h:∀ s',Inv X pins (σ.set i (some v)) H s'->(∃ a,Heap.SameBut a s.heap s'.heap/\(a=X.env.locals\/X.env.cells.lookup x=some a))->Q () s') (hf:X.fn x=true\/X.env.scope.names.lookup x=some .local:=by first | exact .inl rfl | exact .inr rfl | assumption):wpAny M A (storeName X.env x u) Q E s:=by
 obtain ⟨m,hn,hl⟩:=id I.loc
 have hcls:(X.env.scope.kind == .class || (X.env.scope.kind == .module && X.env.locals != X.env.globals))=false:=by rw [I.ok.kind];rfl
 have hiσ:i < σ.length:=by rw [I.len];exact (List.getElem?_eq_some_iff.mp hi).1
 have cne:=I.cne
 have tracked:∀ {a:Addr} {h':Heap},(∃ o,s.heap.get? a=some o/\H a=none)->Heap.SameBut a s.heap h'->HOk X.prog X.w H h':=fun {a h'} ha hs b ob e=>by
  obtain ⟨_,_,hfree⟩:=ha
  refine (I.hok b ob e).stay (fun c w' hc q=>(hs.2 c ?_).trans q) (fun _ q=>q) fun _ _ q=>q
  rintro rfl
  rcases hc with rfl | hc
  ·rw [hfree] at e;cases e
  ·rw [hfree] at hc;cases hc
 rcases hx with hk | hk
 ·refine wpAny_storeName_local hk hn (fun h' hn' hs=>?_) hcls
  obtain ⟨oL,_,_,hoL,_⟩:=id hn
  refine h _ ⟨I.ok,I.os,I.bare,⟨fun b o e n hb hx=>?_,fun b o e n hb hx=>?_,I.base.free,fun b o e hx=>?_,I.base.tups,I.base.frzs,I.base.tbls⟩,⟨_,hn',fun j y v' e1 e2 e3=>?_⟩,fun y c e=>?_,I.free,I.freeC,fun p hp=>?_,tracked ⟨oL,hoL,I.free⟩ hs,by simpa using I.len⟩ ⟨_,hs,.inl rfl⟩
  ·exact (hs.2 b (Nat.ne_of_lt (Nat.lt_of_lt_of_le (Heap.lt_size e) I.ok.above))).trans (I.base.keep b o e n hb hx)
  ·obtain ⟨sl,e1⟩:=I.base.slot b o e n hb hx
   exact ⟨sl,(hs.2 b (Nat.ne_of_lt (Nat.lt_of_lt_of_le (Heap.lt_size e) I.ok.above))).trans e1⟩
  ·obtain ⟨o',e1⟩:=I.base.there b o e hx
   exact ⟨o',(hs.2 b (Nat.ne_of_lt (Nat.lt_of_lt_of_le (Heap.lt_size e) I.ok.above))).trans e1⟩
  ·by_cases hj:j=i
   ·subst hj
    rw [hi] at e1;cases e1
    rw [List.getElem?_set_self hiσ] at e2
    cases e2
    exact ⟨u,r,.inl ⟨hk,by simp⟩⟩
   ·rw [List.getElem?_set_ne (Ne.symm hj)] at e2
    obtain ⟨u',r',q⟩:=hl j y v' e1 e2 e3
    refine ⟨u',r',?_⟩
    rcases q with ⟨k,e⟩ | ⟨k,c,e,z⟩
    ·refine .inl ⟨k,?_⟩
     have:y≠x:=fun e=>hj (Ft hN e1 (e ▸ hi))
     simp [this,e]
    ·exact .inr ⟨k,c,e,z.sameBut hs (cne y c e)⟩
  ·obtain ⟨w',z⟩:=I.cell y c e
   exact ⟨w',z.sameBut hs (cne y c e)⟩
  ·obtain ⟨e,n,ne,nf,d⟩:=I.pin p hp
   exact ⟨(hs.2 p.1 ne).trans e,n,ne,nf,d⟩
 ·have hfn:X.fn x=true:=by
   rcases hf with z | z
   ·exact z
   ·rw [z] at hk;cases hk
  obtain ⟨c,hc⟩:=I.ok.has x (.inl hk)
  obtain ⟨w',z⟩:=I.cell x c hc
  refine wpAny_storeName_cell I.ok.kind hk hc z (fun h' hc' hs=>?_)
  obtain ⟨oc,hoc,hocd⟩:=id z
  refine h { s with heap:=h' } ⟨I.ok,I.os,I.bare,⟨fun b o e n hb hx=>?_,fun b o e n hb hx=>?_,I.base.free,fun b o e hx=>?_,I.base.tups,I.base.frzs,I.base.tbls⟩,⟨m,hn.sameBut hs (Ne.symm (cne x c hc)),fun j y v' e1 e2 e3=>?_⟩,fun y c' e=>?_,I.free,I.freeC,fun p hp=>?_,tracked ⟨oc,hoc,I.freeC x c hc⟩ hs,by simpa using I.len⟩ ⟨c,hs,.inr hc⟩
  ·exact (hs.2 b (Nat.ne_of_lt (Nat.lt_of_lt_of_le (Heap.lt_size e) (I.ok.cab x c hfn hc)))).trans (I.base.keep b o e n hb hx)
  ·obtain ⟨sl,e1⟩:=I.base.slot b o e n hb hx
   exact ⟨sl,(hs.2 b (Nat.ne_of_lt (Nat.lt_of_lt_of_le (Heap.lt_size e) (I.ok.cab x c hfn hc)))).trans e1⟩
  ·obtain ⟨o',e1⟩:=I.base.there b o e hx
   exact ⟨o',(hs.2 b (Nat.ne_of_lt (Nat.lt_of_lt_of_le (Heap.lt_size e) (I.ok.cab x c hfn hc)))).trans e1⟩
  ·by_cases hj:j=i
   ·subst hj
    rw [hi] at e1;cases e1
    rw [List.getElem?_set_self hiσ] at e2
    cases e2
    exact ⟨u,r,.inr ⟨.inl hk,c,hc,hc'⟩⟩
   ·rw [List.getElem?_set_ne (Ne.symm hj)] at e2
    obtain ⟨u',r',q⟩:=hl j y v' e1 e2 e3
    refine ⟨u',r',?_⟩
    rcases q with q | ⟨k,c',e,z'⟩
    ·exact .inl q
    ·refine .inr ⟨k,c',e,z'.sameBut hs ?_⟩
     rintro rfl
     exact hj (Ft hN e1 (I.ok.inj _ _ _ e hc ▸ hi))
  ·by_cases hcc:c'=c
   ·subst hcc;exact ⟨_,hc'⟩
   ·obtain ⟨w2,z2⟩:=I.cell y c' e
    exact ⟨w2,z2.sameBut hs hcc⟩
  ·obtain ⟨e,n,ne,nf,d⟩:=I.pin p hp
   refine ⟨(hs.2 p.1 ?_).trans e,n,ne,nf,d⟩
   intro q
   rw [q,hoc] at e
   have q':oc=p.2:=Option.some.inj e
   exact d w' (by rw [<- q'];exact hocd)
theorem HZ {M:Model} {A:Around} {E:Value->Shared->Prop} {i:Nat} {x:Str} {v:V} {u:Value} {Q:Unit->Shared->Prop} (I:Inv X pins σ H s) (hN:X.N.Nodup) (hi:X.N[i]? = some x) (hx:Loc X.env.scope x) (r:RelV v u)
 (h:∀ s',Inv X pins (σ.set i (some v)) H s'->Q () s') (hf:X.fn x=true\/X.env.scope.names.lookup x=some .local:=by first | exact .inl rfl | exact .inr rfl | assumption):wpAny M A (storeName X.env x u) Q E s :=
 Gh I hN hi hx r (fun s' I' _=>h s' I') hf
theorem Inv.call' {s':Shared} {ch:List Addr} (I:Inv X pins σ H s) (ho:s'.os=s.os) (u:Un (frs X.stack) ch H H' s.heap s'.heap) (hok:HOk X.prog X.w H' s'.heap) (hg:AllBare s'.gens)
 (hch:∀ b∈ch,(b∈X.ex\/X.s₀.heap.objs.size<=b)/\b≠X.env.locals/\(∀ x c,X.env.cells.lookup x=some c->c≠b)/\∀ p∈X.pn++pins,p.1≠b):Inv X pins σ H' s':=by
 obtain ⟨h',g',d',t',o'⟩:=s'
 have e:o'=s.os:=ho
 subst e
 exact I.call (g':=g') (t':=t') (d':=d') u hok hg hch
end
abbrev XK:=Value->Option Addr->Hp->Prop
abbrev St:=List (Option V)
abbrev VK:=V->Hp->Prop
abbrev TE:=St->Hp->VK->Prop
abbrev TT:=St->Hp->(Bool->Hp->Prop)->Prop
abbrev TA:=St->Hp->(List V->Hp->Prop)->Prop
structure Ends where
 nx:St->Hp->Prop
 rt:VK
 bk:St->Hp->Prop:=fun _ _=>False
 ct:St->Hp->Prop:=fun _ _=>False
abbrev TS:=Ends->St->Hp->Prop
def EP (X:Cx) (pins:List (Addr × Obj)) (σ:St) (Q:VK) (u:Value) (s':Shared):Prop:=∃ v H',Inv X pins σ H' s'/\RelV v u/\Q v H'
def TP (X:Cx) (pins:List (Addr × Obj)) (σ:St) (Q:Bool->Hp->Prop) (b:Bool) (s':Shared):Prop:=∃ H',Inv X pins σ H' s'/\Q b H'
def AP (X:Cx) (pins:List (Addr × Obj)) (σ:St) (Q:List V->Hp->Prop) (us:List Value) (s':Shared):Prop:=∃ vs H',Inv X pins σ H' s'/\Vals vs us/\Q vs H'
def SP (X:Cx) (pins:List (Addr × Obj)) (D:Ends) (f:Flow) (s':Shared):Prop :=
 match f with
 | .next=>∃ σ' H',Inv X pins σ' H' s'/\D.nx σ' H'
 | .brk=>∃ σ' H',Inv X pins σ' H' s'/\D.bk σ' H'
 | .cont=>∃ σ' H',Inv X pins σ' H' s'/\D.ct σ' H'
 | .ret u=>∃ v σ' H',Inv X pins σ' H' s'/\RelV v u/\D.rt v H'
def PE (X:Cx) (e:Expr) (t:TE):Prop :=
 ∀ (pins:List (Addr × Obj)) (s:Shared) (σ:St) (H:Hp) (Q:VK),Inv X pins σ H s->t σ H Q->wpAny (model X.prog X.w) X.A (eval e X.env) (EP X pins σ Q) X.xe s
def PT (X:Cx) (e:Expr) (t:TT):Prop :=
 ∀ (pins:List (Addr × Obj)) (s:Shared) (σ:St) (H:Hp) (Q:Bool->Hp->Prop),Inv X pins σ H s->t σ H Q->wpAny (model X.prog X.w) X.A (isTrue e X.env (eval e X.env)) (TP X pins σ Q) X.xe s
def PW (X:Cx) (e:Expr) (t:TT):Prop :=
 ∀ (whole:Sem Value) (pins:List (Addr × Obj)) (s:Shared) (σ:St) (H:Hp) (Q:Bool->Hp->Prop),Inv X pins σ H s->t σ H Q->wpAny (model X.prog X.w) X.A (isTrue e X.env whole) (TP X pins σ Q) X.xe s
theorem PW.pt {X:Cx} {e:Expr} {t:TT} (h:PW X e t):PT X e t:=h _
def PA (X:Cx) (es:List Expr) (t:TA):Prop :=
 ∀ (pos:Pos) (pins:List (Addr × Obj)) (s:Shared) (σ:St) (H:Hp) (Q:List V->Hp->Prop),Inv X pins σ H s->t σ H Q->wpAny (model X.prog X.w) X.A (spliced (backTo pos (starEach es X.env))) (AP X pins σ Q) X.xe s
def PS (X:Cx) (st:Stmt) (t:TS):Prop :=
 ∀ (pins:List (Addr × Obj)) (s:Shared) (σ:St) (H:Hp) (D:Ends),Inv X pins σ H s->t D σ H->wpAny (model X.prog X.w) X.A (exec st X.env) (SP X pins D) X.xe s
def PSs (X:Cx) (st:List Stmt) (t:TS):Prop :=
 ∀ (pins:List (Addr × Obj)) (s:Shared) (σ:St) (H:Hp) (D:Ends),Inv X pins σ H s->t D σ H->wpAny (model X.prog X.w) X.A (execs st X.env) (SP X pins D) X.xe s
theorem thn {α:Type} {t:Sem α} {Q Q':α->Shared->Prop} {M:Model} {A:Around} {E:Value->Shared->Prop} {s:Shared} (h:wpAny M A t Q E s) (hQ:∀ a s,Q a s->Q' a s):wpAny M A t Q' E s:=wpAny_mono h hQ fun _ _ x=>x
section
variable {X:Cx}
def GH (i:Nat):TE:=fun σ H Q=>∃ v,σ[i]? = some (some v)/\Q v H
def tC (v:V):TE:=fun _ H Q=>Q v H
theorem Go {i:Nat} {x:Str} {pos:Pos} (hN:X.N[i]? = some x) (hv:Vis X.env.scope x) (hd:(x == ("__debug__" : Str))=false:=by decide) (hcd:(x == ("__classdict__" : Str))=false:=by decide):PE X (.Name x pos) (GH i):=by
 intro pins s σ H Q I h
 obtain ⟨v,e,h⟩:=h
 obtain ⟨m,hn,hl⟩:=I.loc
 obtain ⟨u,r,l⟩:=hl i x v hN e hv
 have fin:EP X pins σ Q u s:=⟨v,H,I,r,h⟩
 rcases l with ⟨hk,hm⟩ | ⟨hk,c,hc,hcell⟩
 ·exact wpAny_Name (wpAny_loadName_local I.ok.kind hk hn hm fin) hd
 ·rcases hk with hk | hk
  ·exact wpAny_Name (wpAny_loadName_cell I.ok.kind hk hc hcell fin) hd
  ·exact wpAny_Name (wpAny_loadName_free I.ok.kind hk hc hcell fin hcd) hd
theorem AA {i j pos}:PE X (.Constant (.int i) j pos) (tC (.int i)):=fun _ _ _ H _ I h=>wpAny_Constant_int ⟨.int i,H,I.tok _,⟨_,rfl⟩,h⟩
theorem BZ {b j pos}:PE X (.Constant (.bool b) j pos) (tC (.bl b)):=fun _ _ _ H _ I h=>Constant_bool ⟨.bl b,H,I,rfl,h⟩
theorem Dj {j pos}:PE X (.Constant .none j pos) (tC .non):=fun _ _ _ H _ I h=>Constant_none ⟨.non,H,I,rfl,h⟩
theorem AK {x j pos}:PE X (.Constant (.str x) j pos) (tC (.str x)):=fun _ _ _ H _ I h=>Calls.Constant_str ⟨.str x,H,I.tok _,⟨_,rfl⟩,h⟩
def Gl (X:Cx) (x:Str):Prop:=X.env.kindOf x=some .globalImplicit
theorem En {E:Value->Shared->Prop} {pins:List (Addr × Obj)} {s:Shared} {σ:St} {H:Hp} {x:Str} {u:Value} {pos:Pos} {Q:Value->Shared->Prop} (I:Inv X pins σ H s) (hg:Gl X x) (hm:X.mg x=some u) (h:Q u s)
 (hd:(x == ("__debug__" : Str))=false:=by decide):wpAny (model X.prog X.w) X.A (eval (.Name x pos) X.env) Q E s :=
 Calls.Name_function_global I.ok.kind hg (Calls.loadGlobal_global (by rw [I.ok.glob];exact I.mod.glob.keeps I.bk) hm h) hd
theorem DR {E:Value->Shared->Prop} {pins:List (Addr × Obj)} {s:Shared} {σ:St} {H:Hp} {x:Str} {u:Value} {pos:Pos} {Q:Value->Shared->Prop} (I:Inv X pins σ H s) (hg:Gl X x) (hm:X.mg x=none) (hv:bootBuiltins x=some u) (h:Q u s)
 (hn:x ≠ "__name__":=by decide) (hd:(x == ("__debug__" : Str))=false:=by decide):wpAny (model X.prog X.w) X.A (eval (.Name x pos) X.env) Q E s:=by
 obtain ⟨mb,h1,h2⟩:=I.mod.blt
 exact Calls.Name_function_global I.ok.kind hg (Calls.loadGlobal_builtin (by rw [I.ok.glob];exact I.mod.glob.keeps I.bk) hm (by rw [I.ok.blt];exact h1.keeps I.bk) ((h2 x hn).trans hv) h) hd
theorem Cf {x:Str} {v:V} {u:Value} {pos:Pos} (hg:Gl X x) (hm:X.mg x=some u) (r:RelV v u) (hd:(x == ("__debug__" : Str))=false:=by decide):PE X (.Name x pos) (tC v) :=
 fun _ _ _ H _ I h=>En I hg hm ⟨v,H,I,r,h⟩ hd
theorem Be {x:Str} {v:V} {u:Value} {pos:Pos} (hg:Gl X x) (hm:X.mg x=none) (hv:bootBuiltins x=some u) (r:RelV v u) (hn:x ≠ "__name__":=by decide) (hd:(x == ("__debug__" : Str))=false:=by decide):PE X (.Name x pos) (tC v) :=
 fun _ _ _ H _ I h=>DR I hg hm hv ⟨v,H,I,r,h⟩ hn hd
variable {a b:Expr} {ta tb:TE} {pos:Pos}
theorem Dz (b:Expr) {op:CmpOp} (h:op≠.In) (h2:op≠.NotIn):behindInMarks op b=false:=by
 have e1:(op == CmpOp.In)=false:=by cases op <;> first | rfl | exact absurd rfl h
 have e2:(op == CmpOp.NotIn)=false:=by cases op <;> first | rfl | exact absurd rfl h2
 cases b <;> simp [behindInMarks,e1,e2]
variable {tA tB':TT} {rest:List Expr}
def Fb (t u:TT):TT:=fun σ H Q=>t σ H fun c H1=>if c=true then u σ H1 Q else Q false H1
def tOr (t u:TT):TT:=fun σ H Q=>t σ H fun c H1=>if c=true then Q true H1 else u σ H1 Q
def Gy (t:TT):TT:=fun σ H Q=>t σ H fun c H1=>Q (!c) H1
theorem Dt (ha:PT X a tA):PW X (.BoolOp .And [a] pos) tA:=by
 intro wh pins s σ H Q I h
 refine isTrue_and (thn (ha pins s σ H Q I h) fun c s1 e=>?_)
 cases c with
 | true=>exact isTrue_and_nil e
 | false=>exact e
theorem CH (ha:PT X a tA):PW X (.BoolOp .Or [a] pos) tA:=by
 intro wh pins s σ H Q I h
 refine isTrue_or (thn (ha pins s σ H Q I h) fun c s1 e=>?_)
 cases c with
 | false=>exact isTrue_or_nil e
 | true=>exact e
theorem DK (ha:PT X a tA) (hb:PW X (.BoolOp .And (b::rest) pos) tB'):PW X (.BoolOp .And (a::b::rest) pos) (Fb tA tB'):=by
 intro wh pins s σ H Q I h
 refine isTrue_and (thn (ha pins s σ H _ I h) fun c s1 ⟨H1,I1,q1⟩=>?_)
 cases c with
 | true=>exact hb wh pins s1 σ H1 Q I1 q1
 | false=>exact ⟨H1,I1,q1⟩
theorem BX (ha:PT X a tA) (hb:PW X (.BoolOp .Or (b::rest) pos) tB'):PW X (.BoolOp .Or (a::b::rest) pos) (tOr tA tB'):=by
 intro wh pins s σ H Q I h
 refine isTrue_or (thn (ha pins s σ H _ I h) fun c s1 ⟨H1,I1,q1⟩=>?_)
 cases c with
 | true=>exact ⟨H1,I1,q1⟩
 | false=>exact hb wh pins s1 σ H1 Q I1 q1
theorem CP (ha:PT X a tA):PT X (.UnaryOp .Not a pos) (Gy tA):=by
 intro pins s σ H Q I h
 exact isTrue_not (ha pins s σ H (fun c H1=>Q (!c) H1) I h)
def Kl (ta tb:TE):TE:=fun σ H Q=>ta σ H fun x H1=>∃ c,x=.bl c/\if c=true then tb σ H1 Q else Q (.bl false) H1
def LL (ta tb:TE):TE:=fun σ H Q=>ta σ H fun x H1=>∃ c,x=.bl c/\if c=true then Q (.bl true) H1 else tb σ H1 Q
def Hu (ta:TE):TE:=fun σ H Q=>ta σ H fun x H1=>∃ c,x=.bl c/\Q (.bl (!c)) H1
theorem CB {op} {t:TE} (h:PE X a t):PE X (.BoolOp op [a] pos) t:=fun pins s σ H Q I hw=>BoolOp_one (h pins s σ H Q I hw)
theorem Kg (ha:PE X a ta) (hb:PE X (.BoolOp .And (b::rest) pos) tb):PE X (.BoolOp .And (a::b::rest) pos) (Kl ta tb):=by
 intro pins s σ H Q I h
 refine BoolOp_and (thn (ha pins s σ H _ I h) fun v s1 ⟨x,H1,I1,r1,q1⟩=>?_)
 obtain ⟨c,rfl,q1⟩:=q1
 cases r1
 refine wpAny_truthy_bool ?_
 cases c with
 | true=>exact hb pins s1 σ H1 Q I1 q1
 | false=>exact ⟨.bl false,H1,I1,rfl,q1⟩
theorem Kf (ha:PE X a ta) (hb:PE X (.BoolOp .Or (b::rest) pos) tb):PE X (.BoolOp .Or (a::b::rest) pos) (LL ta tb):=by
 intro pins s σ H Q I h
 refine BoolOp_or (thn (ha pins s σ H _ I h) fun v s1 ⟨x,H1,I1,r1,q1⟩=>?_)
 obtain ⟨c,rfl,q1⟩:=q1
 cases r1
 refine wpAny_truthy_bool ?_
 cases c with
 | false=>exact hb pins s1 σ H1 Q I1 q1
 | true=>exact ⟨.bl true,H1,I1,rfl,q1⟩
theorem Lq (ha:PE X a ta):PE X (.UnaryOp .Not a pos) (Hu ta):=by
 intro pins s σ H Q I h
 refine UnaryOp_ (thn (ha pins s σ H _ I h) fun v s1 ⟨x,H1,I1,r1,q1⟩=>?_)
 obtain ⟨c,rfl,q1⟩:=q1
 cases r1
 exact not_of (wpAny_truthy_bool ⟨.bl (!c),H1,I1,rfl,q1⟩)
def tIf (t:TT) (ta tb:TE):TE:=fun σ H Q=>t σ H fun c H1=>if c=true then ta σ H1 Q else tb σ H1 Q
theorem DM {c:Expr} (hc:PT X c tA) (ha:PE X a ta) (hb:PE X b tb):PE X (.IfExp c a b pos) (tIf tA ta tb):=by
 intro pins s σ H Q I h
 refine wpAny_IfExp (thn (hc pins s σ H _ I h) fun d s1 ⟨H1,I1,q1⟩=>?_)
 cases d with
 | true=>exact ha pins s1 σ H1 Q I1 q1
 | false=>exact hb pins s1 σ H1 Q I1 q1
end
def SqL (K:PySem.W.Frag) (H:Hp) (a:Addr) (xs:List V):Prop :=
 Rd H a (.lst xs) \/
  ∃ (o:Obj) (its:Array Value) (n:Nat),K.lookup a=some o/\o.cls=.type "list" /\ o.dict=none/\o.data=.seq its n/\its.size<=sizeLine/\Vals xs its.toList
def SqT (K:PySem.W.Frag) (H:Hp) (a:Addr) (xs:List V):Prop :=
 Rd H a (.tup xs) \/
  ∃ (o:Obj) (its:Array Value) (n:Nat),K.lookup a=some o/\o.cls=.type "tuple" /\ o.dict=none/\o.data=.seq its n/\its.size<=sizeLine/\Vals xs its.toList
def Ia:Value->Option V
 | .none=>some .non
 | .bool b=>some (.bl b)
 | .int i _=>some (.int i)
 | .str x _=>some (.str x)
 | .bytes b _=>some (.byt b)
 | .float b _=>some (.flt b)
 | .ref a=>some (.ref a)
 | .type n=>some (.ty n)
 | _=>none
theorem RelV.abs {x:V} {u:Value} (r:RelV x u):Ia u=some x:=by
 cases x with
 | non=>cases r;rfl
 | bl _=>cases r;rfl
 | int _=>obtain ⟨t,rfl⟩:=r;rfl
 | str _=>obtain ⟨t,rfl⟩:=r;rfl
 | byt _=>obtain ⟨t,rfl⟩:=r;rfl
 | flt _=>obtain ⟨t,rfl⟩:=r;rfl
 | ref _=>cases r;rfl
 | ty _=>cases r;rfl
theorem RelV.inj {x y:V} {u:Value} (r:RelV x u) (q:RelV y u):x=y:=Option.some.inj (r.abs.symm.trans q.abs)
theorem Vals.inj:∀ {xs ys:List V} {us:List Value},Vals xs us->Vals ys us->xs=ys
 | _,_,_,.nil,.nil=>rfl
 | _,_,_,.cons r t,.cons r' t'=>by rw [r.inj r',Vals.inj t t']
section
variable {X:Cx} {pins:List (Addr × Obj)} {σ:St} {H:Hp} {s:Shared} {a:Addr} {xs ys:List V}
theorem SqL.of {K:PySem.W.Frag} (h:H a=some (.lst xs)):SqL K H a xs:=.inl (.inl h)
theorem SqT.of {K:PySem.W.Frag} (h:H a=some (.tup xs)):SqT K H a xs:=.inl (.inl h)
theorem Inv.list (I:Inv X pins σ H s) (h:SqL X.K H a xs):∃ its:List Value,Vals xs its/\PlainL s.heap a its.toArray/\xs.length<=sizeLine:=by
 rcases h with h | ⟨o,its,n,hk,hc,hd,hs,hz,r⟩
 ·obtain ⟨z,its,n,r,e⟩:=h.ok I.hok
  exact ⟨its,r,⟨_,n,e,rfl,rfl,rfl⟩,z⟩
 ·refine ⟨its.toList,r,⟨o,n,I.kIn a o hk,hc,hd,by simpa using hs⟩,?_⟩
  have e:=r.length
  simp only [Array.length_toList] at e
  omega
theorem Inv.tuple (I:Inv X pins σ H s) (h:SqT X.K H a xs):∃ its:List Value,Vals xs its/\IsTup s.heap a its.toArray/\xs.length<=sizeLine:=by
 rcases h with h | ⟨o,its,n,hk,hc,hdd,hs,hz,r⟩
 ·obtain ⟨z,its,r,p⟩:=h.ok I.hok
  exact ⟨its,r,p.tup,z⟩
 ·refine ⟨its.toList,r,⟨o,I.kIn a o hk,hc,n,by simpa using hs⟩,?_⟩
  have e:=r.length
  simp only [Array.length_toList] at e
  omega
theorem Inv.list_inj (I:Inv X pins σ H s) (h:SqL X.K H a xs) (h':SqL X.K H a ys):xs=ys:=by
 obtain ⟨its,r,⟨o,n,e,_,_,d⟩,_⟩:=I.list h
 obtain ⟨its',r',⟨o',n',e',_,_,d'⟩,_⟩:=I.list h'
 rw [e] at e';cases e'
 rw [d] at d'
 injection d' with d1 _
 have:its=its':=by simpa using congrArg Array.toList d1
 subst this
 exact r.inj r'
theorem Inv.tuple_inj (I:Inv X pins σ H s) (h:SqT X.K H a xs) (h':SqT X.K H a ys):xs=ys:=by
 obtain ⟨its,r,⟨o,e,_,n,d⟩,_⟩:=I.tuple h
 obtain ⟨its',r',⟨o',e',_,n',d'⟩,_⟩:=I.tuple h'
 rw [e] at e';cases e'
 rw [d] at d'
 injection d' with d1 _
 have:its=its':=by simpa using congrArg Array.toList d1
 subst this
 exact r.inj r'
end
abbrev Cx.wish (X:Cx) (E:Value->Shared->Prop):Cx:={ X with xe:=E }
abbrev Cx.nox (X:Cx):Cx:=X.wish fun _ _=>False
theorem Cx.Ok.wish {X:Cx} (ok:X.Ok) (E:Value->Shared->Prop):(X.wish E).Ok :=
 ⟨ok.mod,ok.kind,ok.glob,ok.blt,ok.above,ok.inj,ok.has,ok.cab,ok.hd,ok.frames,ok.stk,ok.exf,ok.bs,ok.bsz,ok.noex,ok.exfs,ok.funs,ok.frf⟩
theorem Cx.Ok.unwish {X:Cx} {E:Value->Shared->Prop} (ok:(X.wish E).Ok):X.Ok :=
 ⟨ok.mod,ok.kind,ok.glob,ok.blt,ok.above,ok.inj,ok.has,ok.cab,ok.hd,ok.frames,ok.stk,ok.exf,ok.bs,ok.bsz,ok.noex,ok.exfs,ok.funs,ok.frf⟩
section
variable {X:Cx} {pins:List (Addr × Obj)} {σ:St} {H:Hp} {s:Shared} {E:Value->Shared->Prop}
theorem Inv.wish (I:Inv X pins σ H s) (E:Value->Shared->Prop):Inv (X.wish E) pins σ H s:=⟨I.ok.wish E,I.os,I.bare,I.base,I.loc,I.cell,I.free,I.freeC,I.pin,I.hok,I.len⟩
theorem Inv.unwish (I:Inv (X.wish E) pins σ H s):Inv X pins σ H s:=⟨I.ok.unwish,I.os,I.bare,I.base,I.loc,I.cell,I.free,I.freeC,I.pin,I.hok,I.len⟩
theorem SP.unwish {D:Ends} {f:Flow} {s':Shared} (h:SP (X.wish E) pins D f s'):SP X pins D f s':=by
 cases f with
 | next=>obtain ⟨σ',H',I,q⟩:=h;exact ⟨σ',H',I.unwish,q⟩
 | brk=>obtain ⟨σ',H',I,q⟩:=h;exact ⟨σ',H',I.unwish,q⟩
 | cont=>obtain ⟨σ',H',I,q⟩:=h;exact ⟨σ',H',I.unwish,q⟩
 | ret u=>obtain ⟨v,σ',H',I,r,q⟩:=h;exact ⟨v,σ',H',I.unwish,r,q⟩
theorem PSs.nox {st:List Stmt} {t:TS} (h:PSs X.nox st t):PSs X st t:=fun pins s σ H D I hw =>
 wpAny_mono (h pins s σ H D (I.wish _) hw) (fun _ _ q=>q.unwish) fun _ _ z=>False.elim z
end
section
variable {X:Cx} {st:Stmt} {rest:List Stmt} {t u:TS} {e:Expr} {te:TE} {pos:Pos}
def BA:TS:=fun D σ H=>D.nx σ H
def Er (t u:TS):TS:=fun D σ H=>t { D with nx:=u D } σ H
theorem Ae:PSs X [] BA:=fun _ _ σ H _ I h=>wpAny_execs_nil ⟨σ,H,I,h⟩
theorem AF (h1:PS X st t) (h2:PSs X rest u):PSs X (st::rest) (Er t u):=by
 intro pins s σ H D I h
 refine wpAny_execs_cons (thn (h1 pins s σ H { D with nx:=u D } I h) fun f s1 q=>?_)
 cases f with
 | next =>
  obtain ⟨σ',H',I',q⟩:=q
  exact h2 pins s1 σ' H' D I' q
 | ret v=>exact q
 | brk=>exact q
 | cont=>exact q
theorem AL (h1:PS X st t):PSs X [st] t:=by
 intro pins s σ H D I h
 refine wpAny_execs_cons (thn (h1 pins s σ H D I h) fun f s1 q=>?_)
 cases f with
 | next=>exact wpAny_execs_nil q
 | ret v=>exact q
 | brk=>exact q
 | cont=>exact q
theorem Inv.quiet {pins:List (Addr × Obj)} {σ:St} {H:Hp} {s:Shared} (I:Inv X pins σ H s):interactive X.env=false:=by simp [interactive,I.ok.kind]
def GB (te:TE):TS:=fun D σ H=>te σ H fun _ H1=>D.nx σ H1
theorem Jr (he:PE X e te) (hs:swapsWith e none pos.line X.env=pure false:=by rfl):PS X (.Expr e pos) (GB te):=by
 intro pins s σ H D I h
 exact wpAny_Expr_any (thn (he pins s σ H _ I h) fun v s1 ⟨x,H1,I1,r1,q1⟩=>⟨σ,H1,I1,q1⟩) I.quiet hs
def Gf (te:TE):TS:=fun D σ H=>te σ H D.rt
theorem AR (he:PE X e te):PS X (.Return (some e) pos) (Gf te):=by
 intro pins s σ H D I h
 exact wpAny_Return_some (thn (he pins s σ H _ I h) fun v s1 ⟨x,H1,I1,r1,q1⟩=>⟨x,σ,H1,I1,r1,q1⟩)
def EA (c:TT) (t u:TS):TS:=fun D σ H=>c σ H fun b H1=>if b=true then t D σ H1 else u D σ H1
theorem Ag {c:Expr} {a b:List Stmt} {tc:TT} (hc:PT X c tc) (ha:PSs X a t) (hb:PSs X b u):PS X (.If c a b pos) (EA tc t u):=by
 intro pins s σ H D I h
 refine wpAny_If (thn (hc pins s σ H _ I h) fun d s1 ⟨H1,I1,q1⟩=>?_)
 cases d with
 | true=>exact ha pins s1 σ H1 D I1 q1
 | false=>exact hb pins s1 σ H1 D I1 q1
def Gd:TS:=fun _ _ _=>False
theorem LV {sts:List Stmt}:PSs X sts Gd:=fun _ _ _ _ _ _ h=>h.elim
end
abbrev TG:=V->St->Hp->(St->Hp->Prop)->Prop
def PG (X:Cx) (target:Expr) (t:TG):Prop :=
 ∀ (pins:List (Addr × Obj)) (s:Shared) (σ:St) (H:Hp) (v:V) (u:Value) (Q:St->Hp->Prop),Inv X pins σ H s->RelV v u->t v σ H Q ->
  wpAny (model X.prog X.w) X.A (assign target X.env u) (fun _ s'=>∃ σ' H',Inv X pins σ' H' s'/\Q σ' H') X.xe s
abbrev CQ:=V->V->V->Hp->(Hp->Prop)->Prop
def ET (X:Cx) (t:CQ):Prop :=
 ∀ (pins:List (Addr × Obj)) (s:Shared) (σ:St) (H:Hp) (o i v:V) (ov iv u:Value) (Q:Hp->Prop),Inv X pins σ H s->RelV o ov->RelV i iv->RelV v u->t o i v H Q ->
  wpAny (model X.prog X.w) X.A (setItem ov iv u) (fun _ s'=>∃ H',Inv X pins σ H' s'/\Q H') X.xe s
section
variable {X:Cx} {pos:Pos}
def Ai (i:Nat):TG:=fun v σ H Q=>Q (σ.set i (some v)) H
theorem CD {i:Nat} {x:Str} (hN:X.N.Nodup) (hi:X.N[i]? = some x) (hx:Loc X.env.scope x) (hf:X.fn x=true\/X.env.scope.names.lookup x=some .local:=by first | exact .inl rfl | exact .inr rfl | assumption):PG X (.Name x pos) (Ai i):=by
 intro pins s σ H v u Q I r h
 exact wpAny_assign_Name (HZ I hN hi hx r (fun s' I'=>⟨_,H,I',h⟩) hf)
def Fy (to ti:TE) (t:CQ):TG:=fun v σ H Q=>to σ H fun o H1=>ti σ H1 fun i H2=>t o i v H2 fun H3=>Q σ H3
theorem DT {o i:Expr} {to ti:TE} {t:CQ} (ho:PE X o to) (hi:PE X i ti) (hs:ET X t)
 (ha:∀ v,assign (.Subscript o i pos) X.env v=(do
   let ov <- holding [v] (eval o X.env)
   let iv <- holding [v,ov] (eval i X.env)
   standAt pos
   holding [v,ov,iv] (setItem ov iv v)
   release [v,ov,iv] []):=by intro _;rfl):PG X (.Subscript o i pos) (Fy to ti t):=by
 intro pins s σ H v u Q I r h
 rw [ha]
 refine wpAny_bind (wpAny_holding (thn (ho pins s σ H _ I h) fun ov s1 ⟨x,H1,I1,r1,q1⟩=>?_))
 refine wpAny_bind (wpAny_holding (thn (hi pins s1 σ H1 _ I1 q1) fun iv s2 ⟨y,H2,I2,r2,q2⟩=>?_))
 refine wpAny_bind (wpAny_standAt (wpAny_bind (wpAny_holding (thn (hs pins s2 σ H2 x y v ov iv u _ I2 r1 r2 r q2) fun _ s3 ⟨H3,I3,q3⟩=>?_))))
 exact wpAny_release ⟨σ,H3,I3,q3⟩
def Cm (te:TE) (g:TG):TS:=fun D σ H=>te σ H fun x H1=>g x σ H1 D.nx
theorem DO {tg e:Expr} {te:TE} {g:TG} (he:PE X e te) (hg:PG X tg g) (hs:swapsWithSole [tg] e pos.line X.env=pure false:=by rfl) (hw:swappedStores [tg] e X.env=pure none:=by rfl)
 (h1:(assignEach [tg] X.env).map (·.2)=[assign tg X.env]:=by rfl):PS X (.Assign [tg] e pos) (Cm te g):=by
 intro pins s σ H D I h
 refine wpAny_Assign_stores (thn (he pins s σ H _ I h) fun v s1 ⟨x,H1,I1,r1,q1⟩=>?_) hs hw
 rw [h1]
 exact thn (hg pins s1 σ H1 x v _ I1 r1 q1) fun _ s2 q=>q
theorem AT {i:Nat} {x:Str} {e:Expr} {te:TE} {pos':Pos} (hN:X.N.Nodup) (hi:X.N[i]? = some x) (hx:Loc X.env.scope x) (he:PE X e te) (hs:swapsWith e (some (.Name x pos')) pos.line X.env=pure false:=by rfl) (hf:X.fn x=true\/X.env.scope.names.lookup x=some .local:=by first | exact .inl rfl | exact .inr rfl | assumption) :
 PS X (.Assign [.Name x pos'] e pos) (Cm te (Ai i)):=by
 intro pins s σ H D I h
 refine wpAny_Assign_Name (thn (he pins s σ H _ I h) fun v s1 ⟨y,H1,I1,r1,q1⟩=>?_) hs
 exact HZ I1 hN hi hx r1 (fun s2 I2=>⟨_,H1,I2,q1⟩) hf
end
section
variable {X:Cx} {pos:Pos}
end
structure It where
 go:Nat->Hp->Prop
 yld:Nat->Hp->V->Hp->Prop
 stop:Nat->Hp->Prop
def BD (X:Cx) (pins:List (Addr × Obj)) (H:Hp) (b:Addr):Prop :=
 H b=none/\b≠X.env.locals/\b∉X.fs/\(b∈X.ex\/X.s₀.heap.objs.size<=b)/\(∀ x c,X.env.cells.lookup x=some c->c≠b)/\∀ p∈X.pn++pins,p.1≠b
theorem Inv.fpOk {X:Cx} {pins:List (Addr × Obj)} {σ:St} {H H':Hp} {s:Shared} {b:Addr} (I:Inv X pins σ H s) (hb:s.heap.objs.size<=b) (hn:H' b=none):BD X pins H' b:=by
 refine ⟨hn,Nat.ne_of_gt (Nat.lt_of_lt_of_le I.lt hb),I.nofs hb,.inr (Nat.le_trans I.sz hb),fun x c e z=>?_,fun p hp z=>?_⟩
 ·obtain ⟨v,q⟩:=I.cell x c e
  exact absurd (Nat.lt_of_lt_of_le q.lt (by rw [z];exact hb)) (Nat.lt_irrefl _)
 ·exact absurd (Nat.lt_of_lt_of_le (Heap.lt_size (I.pin p hp).1) (by rw [z];exact hb)) (Nat.lt_irrefl _)
structure Turn (P:Program) (w:World) (K:PySem.W.Frag) (tg:Expr) (J:It) (fp:List Addr) (it:Addr) (tn:Nat->Heap->Prop):Prop where
 mem:it∈fp
 obj:∀ i h,tn i h->∀ b∈fp,∃ o,h.get? b=some o/\∀ v,o.data≠.cell v
 keep:∀ i h h',tn i h->(∀ b∈fp,∀ o,h.get? b=some o->h'.get? b=some o)->tn i h'
 item:∀ (X:Cx),X.prog=P->X.w=w->X.K=K->X.calm=true->∀ (i:Nat) (pins:List (Addr × Obj)) (s:Shared) (σ:St) (H:Hp) (E:Value->Shared->Prop),Inv X pins σ H s->(∀ b∈fp,BD X pins H b)->tn i s.heap->J.go i H ->
  wpAny (model P w) X.A (pyNext (.ref it)) (fun r s1=>∃ u,r=some u /\
   wpAny (model P w) X.A (letOwnedTupleGo tg (.ref it) u) (fun _ s2=>∃ x H',Inv X pins σ H' s2/\RelV x u/\J.yld i H x H'/\tn (i+1) s2.heap/\∀ b∈fp,H' b=none) E s1) E s
 done:∀ (X:Cx),X.prog=P->X.w=w->X.K=K->X.calm=true->∀ (i:Nat) (pins:List (Addr × Obj)) (s:Shared) (σ:St) (H:Hp) (E:Value->Shared->Prop),Inv X pins σ H s->(∀ b∈fp,BD X pins H b)->tn i s.heap->J.stop i H ->
  wpAny (model P w) X.A (pyNext (.ref it)) (fun r s1=>r=none/\Inv X pins σ H s1) E s
 self:∀ (A:Around) (i:Nat) (s:Shared) (Q:Value->Shared->Prop) (E:Value->Shared->Prop),tn i s.heap->Q (.ref it) s->wpAny (model P w) A (pyIter (.ref it)) Q E s
abbrev TI:=St->Hp->(It->Hp->Prop)->Prop
def PIE (X:Cx) (pins:List (Addr × Obj)) (σ:St) (tg:Expr) (R:It->Hp->Prop) (itv:Value) (s2:Shared):Prop :=
 ∃ (it:Addr) (fp:List Addr) (tn:Nat->Heap->Prop) (J:It) (H':Hp),itv=.ref it/\Inv X pins σ H' s2/\Turn X.prog X.w X.K tg J fp it tn/\tn 0 s2.heap/\(∀ b∈fp,BD X pins H' b)/\R J H'
def PI (X:Cx) (tg iter:Expr) (wi:TI):Prop :=
 ∀ (pins:List (Addr × Obj)) (s:Shared) (σ:St) (H:Hp) (R:It->Hp->Prop),Inv X pins σ H s->wi σ H R ->
  wpAny (model X.prog X.w) X.A (eval iter X.env) (fun v s1=>wpAny (model X.prog X.w) X.A (pyIter v) (PIE X pins σ tg R) X.xe s1) X.xe s
theorem Du {M:Model} {A:Around} {E:Value->Shared->Prop} {s:Shared} {tg:Expr} {it:Addr} {u:Value} {o:Obj} {n:String} {vs:Array Value} {Q:Unit->Shared->Prop} (ho:s.heap.get? it=some o) (hc:o.cls=.type n) (hd:o.data=.fields vs)
 (hn:["enumerate","zip","dict_itemiterator","dict_reverseitemiterator","odict_iterator","itertools.zip_longest","itertools.pairwise"].contains n=false) (hQ:Q () s):wpAny M A (letOwnedTupleGo tg (.ref it) u) Q E s:=by
 unfold letOwnedTupleGo
 cases tg <;> first
  | exact wpAny_pure hQ
  | (cases u <;> first
      | exact wpAny_pure hQ
      | (refine wpAny_bind (wpAny_load ho ?_)
         rw [hc,hd]
         show wpAny M A (if (["enumerate","zip","dict_itemiterator","dict_reverseitemiterator","odict_iterator","itertools.zip_longest","itertools.pairwise"].contains n && vs[0]? == some (rawInt _))=true then _ else _) Q E s
         rw [if_neg (by intro h;rw [hn,Bool.false_and] at h;cases h)]
         exact wpAny_pure hQ))
def Itl (K:PySem.W.Frag) (a:Addr):It :=
 ⟨fun i H=>∃ xs x,SqL K H a xs/\xs[i]? = some x,fun i H x H'=>H'=H/\∀ xs,SqL K H a xs->xs[i]? = some x,fun i H=>∃ xs,SqL K H a xs/\xs.length<=i⟩
def Itt (K:PySem.W.Frag) (a:Addr):It :=
 ⟨fun i H=>∃ xs x,SqT K H a xs/\xs[i]? = some x,fun i H x H'=>H'=H/\∀ xs,SqT K H a xs->xs[i]? = some x,fun i H=>∃ xs,SqT K H a xs/\xs.length<=i⟩
def Itr (lo:Int) (n:Nat):It:=⟨fun i _=>i < n,fun i H x H'=>H'=H/\x=.int (lo+i),fun i _=>n<=i⟩
theorem II {P:Program} {w:World} {K:PySem.W.Frag} {tg:Expr} (a it:Addr):Turn P w K tg (Itl K a) [it] it (fun i h=>h.IsListIter it a i) where
 mem:=by simp
 obj:=fun i h st b hb=>by
  have e:b=it:=by simpa using hb
  subst e
  obtain ⟨o,e,c,d⟩:=st
  exact ⟨o,e,fun v z=>by rw [d] at z;cases z⟩
 keep:=fun i h h' st k=>st.at fun o e=>k it (by simp) o e
 item:=by
  intro X hP hw hK hc i pins s σ H E I hf st hg
  subst hP hw hK
  obtain ⟨xs,x,hq,hx⟩:=hg
  obtain ⟨its,rv,p,hz⟩:=I.list hq
  obtain ⟨u,hu,ru⟩:=rv.get hx
  obtain ⟨f0,f1,f2,f3,f4,f5⟩:=hf it (by simp)
  refine wpAny_pyNext_list_item st p.isList (x:=u) (by simpa using hu) fun h' st' sb=>?_
  have I1:Inv X pins σ H { s with heap:=h' }:=I.turned (t':=s.toks) (fun b o hb e=>(sb.2 b hb).trans e) f0 f1 f3 f4 f5
  obtain ⟨o,e,c,d⟩:=id st'
  exact ⟨u,rfl,Du (s:={ s with heap:=h' }) e c d (by decide) ⟨x,H,I1,ru,⟨rfl,fun ys hy=>by rw [I.list_inj hy hq];exact hx⟩,st',fun b hb=>(hf b hb).1⟩⟩
 done:=by
  intro X hP hw hK hc i pins s σ H E I hf st hg
  subst hP hw hK
  obtain ⟨xs,hq,hx⟩:=hg
  obtain ⟨its,rv,p,hz⟩:=I.list hq
  obtain ⟨f0,f1,f2,f3,f4,f5⟩:=hf it (by simp)
  have hl:=rv.length
  exact wpAny_pyNext_list_end (I.ok.hd hc) st p.isList (by simp;omega) fun h' eb=>⟨rfl,I.turned (t':=s.toks) (fun b o hb e=>eb b o hb e) f0 f1 f3 f4 f5⟩
 self:=fun _ _ _ _ _ st h=>wpAny_pyIter_listiter st h
theorem JG {P:Program} {w:World} {K:PySem.W.Frag} {tg:Expr} (a it:Addr):Turn P w K tg (Itt K a) [it] it (fun i h=>h.IsTupleIter it a i) where
 mem:=by simp
 obj:=fun i h st b hb=>by
  have e:b=it:=by simpa using hb
  subst e
  obtain ⟨o,e,c,d⟩:=st
  exact ⟨o,e,fun v z=>by rw [d] at z;cases z⟩
 keep:=fun i h h' st k=>st.at fun o e=>k it (by simp) o e
 item:=by
  intro X hP hw hK hc i pins s σ H E I hf st hg
  subst hP hw hK
  obtain ⟨xs,x,hq,hx⟩:=hg
  obtain ⟨its,rv,p,hz⟩:=I.tuple hq
  obtain ⟨u,hu,ru⟩:=rv.get hx
  obtain ⟨f0,f1,f2,f3,f4,f5⟩:=hf it (by simp)
  refine wpAny_pyNext_tuple_item st (show s.heap.IsTuple a its.toArray from p) (x:=u) (by simpa using hu) fun h' st' sb=>?_
  have I1:Inv X pins σ H { s with heap:=h' }:=I.turned (t':=s.toks) (fun b o hb e=>(sb.2 b hb).trans e) f0 f1 f3 f4 f5
  obtain ⟨o,e,c,d⟩:=id st'
  exact ⟨u,rfl,Du (s:={ s with heap:=h' }) e c d (by decide) ⟨x,H,I1,ru,⟨rfl,fun ys hy=>by rw [I.tuple_inj hy hq];exact hx⟩,st',fun b hb=>(hf b hb).1⟩⟩
 done:=by
  intro X hP hw hK hc i pins s σ H E I hf st hg
  subst hP hw hK
  obtain ⟨xs,hq,hx⟩:=hg
  obtain ⟨its,rv,p,hz⟩:=I.tuple hq
  obtain ⟨f0,f1,f2,f3,f4,f5⟩:=hf it (by simp)
  have hl:=rv.length
  exact wpAny_pyNext_tuple_end (I.ok.hd hc) st (show s.heap.IsTuple a its.toArray from p) (by simp;omega) fun h' eb=>⟨rfl,I.turned (t':=s.toks) (fun b o hb e=>eb b o hb e) f0 f1 f3 f4 f5⟩
 self:=fun _ _ _ _ _ st h=>wpAny_pyIter_tupleiter st h
theorem JR {P:Program} {w:World} {K:PySem.W.Frag} {tg:Expr} (it:Addr) (lo:Int) (n:Nat):Turn P w K tg (Itr lo n) [it] it (fun i h=>IsRangeIter h it (lo+(i:Nat) * 1) ((n:Int) - (i:Nat)) 1) where
 mem:=by simp
 obj:=fun i h st b hb=>by
  have e:b=it:=by simpa using hb
  subst e
  exact ⟨_,st,fun v z=>by
   have z':Data.fields _=Data.cell v:=z
   cases z'⟩
 keep:=fun i h h' st k=>k it (by simp) _ st
 item:=by
  intro X hP hw hK hc i pins s σ H E I hf st hg
  subst hP hw hK
  obtain ⟨f0,f1,f2,f3,f4,f5⟩:=hf it (by simp)
  have W:=Walks.range (prog:=X.prog) (w:=X.w) (I.ok.hd hc) it lo 1 n
  refine W.item i s _ _ hg st fun v h' tk hv st' kk=>?_
  obtain ⟨t,rfl⟩:=hv
  have I1:Inv X pins σ H { s with heap:=h',toks:=tk }:=I.turned (fun b o hb e=>kk b o (by simpa using hb) e) f0 f1 f3 f4 f5
  refine ⟨_,rfl,Du (s:={ s with heap:=h',toks:=tk }) (n:="range_iterator") st' rfl rfl (by decide) ⟨.int (lo+i),H,I1,⟨t,?_⟩,⟨rfl,rfl⟩,st',fun b hb=>(hf b hb).1⟩⟩
  rw [Int.mul_one]
 done:=by
  intro X hP hw hK hc i pins s σ H E I hf st hg
  subst hP hw hK
  obtain ⟨f0,f1,f2,f3,f4,f5⟩:=hf it (by simp)
  exact wpAny_pyNext_range_end (I.ok.hd hc) st (by have:n<=i:=hg;omega) fun h' eb=>⟨rfl,I.turned (t':=s.toks) (fun b o hb e=>eb b o hb e) f0 f1 f3 f4 f5⟩
 self:=fun _ _ _ _ _ st h=>wpAny_pyIter_rangeiter st h
section
variable {X:Cx} {tg:Expr}
theorem LX {pins:List (Addr × Obj)} {σ:St} {H:Hp} {s:Shared} {R:It->Hp->Prop} {E:Value->Shared->Prop} {lo hi:Int} {t u v:Tok} {tk:Nat} (I:Inv X pins σ H s) (h1 : -(2 ^ 62)<=lo) (h2:lo < 2 ^ 62) (h3 : -(2 ^ 62)<=hi) (h4:hi < 2 ^ 62)
 (q:R (Itr lo (hi - lo).toNat) H):wpAny (model X.prog X.w) X.A (pyIter (.ref s.heap.objs.size)) (PIE X pins σ tg R) E { s with heap:=s.heap.push { cls:=.type "range",data:=.fields #[.int lo t,.int hi u,.int 1 v] },toks:=tk }:=by
 refine wpAny_pyIter_range (IsRange.new ..) (small_one h1 h2 h3 h4) ?_
 have I1:Inv X pins σ H { s with heap:=s.heap.push { cls:=.type "range",data:=.fields #[.int lo t,.int hi u,.int 1 v] },toks:=tk }:=I.kept fun b o e=>Heap.get?_push_of_some _ e
 refine ⟨(s.heap.push { cls:=.type "range",data:=.fields #[.int lo t,.int hi u,.int 1 v] }).objs.size,[(s.heap.push { cls:=.type "range",data:=.fields #[.int lo t,.int hi u,.int 1 v] }).objs.size],_,_,H,rfl,
  I1.kept (t':=tk) fun b o e=>Heap.get?_push_of_some _ e,JR _ lo (hi - lo).toNat,?_,fun b hb=>?_,q⟩
 ·have e1:lo+((0:Nat):Int) * 1=lo:=by simp
  have e2:(((hi - lo).toNat:Nat):Int) - ((0:Nat):Int)=Builtin.Range.rangeSize lo hi 1:=by rw [rangeSize_one];split <;> omega
  show IsRangeIter _ _ (lo+((0:Nat):Int) * 1) ((((hi - lo).toNat:Nat):Int) - ((0:Nat):Int)) 1
  rw [e1,e2]
  exact Heap.get?_push_size _ rfl
 ·have e:b=(s.heap.push { cls:=.type "range",data:=.fields #[.int lo t,.int hi u,.int 1 v] }).objs.size:=by simpa using hb
  subst e
  exact I1.fpOk (Nat.le_refl _) (I1.hok.fresh (Nat.le_refl _))
def Gr (ta:TA):TI:=fun σ H R=>ta σ H fun vs H1=>∃ j:Int,vs=[.int j] /\ -(2 ^ 62)<=j/\j < 2 ^ 62/\R (Itr 0 j.toNat) H1
theorem Eh {a:Expr} {ta:TA} {p pos:Pos} (hg:Gl X "range") (hm:X.mg "range" = none) (ha:PA X [a] ta) (hs:starEach [a] X.env=[(false,eval a X.env)]:=by rfl):PI X tg (.Call (.Name "range" p) [a] [] pos) (Gr ta):=by
 intro pins s σ H R I h
 refine Call_ (DR I hg hm boot_range (PyProof.Rows.callWith_type1 (thn (ha pos pins s σ H _ I h) fun us s1 ⟨vs,H1,I1,r1,q1⟩=>?_) hs rfl))
 obtain ⟨j,e,q1,q2,q⟩:=q1
 subst e
 cases r1 with
 | cons r rr =>
  cases rr
  obtain ⟨t,rfl⟩:=r
  exact call_range_1 (LX I1 (by omega) (by omega) q1 q2 (by simpa using q))
def HV (wi:TI) (g:TG) (tb:TS):TS:=fun D σ H=>wi σ H fun J H1=>∃ W:Nat->Nat->St->Hp->Prop,(∃ m,W 0 m σ H1)/\∀ i m σ H,W i m σ H ->
 (J.stop i H/\D.nx σ H)\/(J.go i H/\∃ N:St->Hp->Prop,(∀ σ' H',N σ' H'->∃ m',m' < m/\W (i+1) m' σ' H')/\∀ x H',J.yld i H x H'->g x σ H' fun σ2 H2=>tb { D with nx:=N,ct:=N,bk:=D.nx } σ2 H2)
def BJ (fp:List Addr) (h:Heap):List (Addr × Obj):=fp.filterMap fun b=>(h.get? b).map fun o=>(b,o)
theorem CL {fp:List Addr} {h:Heap} {b:Addr} {o:Obj} (hb:b∈fp) (e:h.get? b=some o):(b,o)∈BJ fp h:=List.mem_filterMap.mpr ⟨b,hb,by rw [e];rfl⟩
theorem Ep {fp:List Addr} {h:Heap} {p:Addr × Obj} (hp:p∈BJ fp h):p.1∈fp/\h.get? p.1=some p.2:=by
 obtain ⟨b,hb,e⟩:=List.mem_filterMap.mp hp
 cases q:h.get? b with
 | none=>rw [q] at e;cases e
 | some o =>
  rw [q] at e
  have e':(b,o)=p:=Option.some.inj e
  subst e'
  exact ⟨hb,q⟩
theorem Inv.pinned {pins:List (Addr × Obj)} {σ:St} {H:Hp} {s:Shared} {fp:List Addr} (I:Inv X pins σ H s) (hf:∀ b∈fp,BD X pins H b) (ho:∀ b∈fp,∃ o,s.heap.get? b=some o/\∀ v,o.data≠.cell v):Inv X (pins++BJ fp s.heap) σ H s :=
 I.pins_of fun p hp=>(List.mem_append.mp hp).elim (fun z=>I.pin p (List.mem_append_right _ z)) fun z=>by
  obtain ⟨hb,e⟩:=Ep z
  obtain ⟨f0,f1,f2,_⟩:=hf p.1 hb
  obtain ⟨o,e',d⟩:=ho p.1 hb
  rw [e] at e';cases e'
  exact ⟨e,f0,f1,f2,d⟩
theorem Inv.unpinned {pins pl:List (Addr × Obj)} {σ:St} {H:Hp} {s:Shared} (I:Inv X (pins++pl) σ H s):Inv X pins σ H s:=I.pins_of fun p hp=>I.pin p (List.mem_append_right _ (List.mem_append_left _ hp))
theorem DI {iter:Expr} {body:List Stmt} {wi:TI} {g:TG} {tb:TS} {pos:Pos} (hp:PassesOwn (model X.prog X.w) X.A X.env X.xe) (hc:X.calm=true) (hi:PI X tg iter wi) (hg:PG X tg g) (hb:PSs X body tb)
 (hs:∀ x,foldedSetIterable iter X.env x=pure x:=by intro _;rfl):PS X (.For tg iter body [] pos) (HV wi g tb):=by
 intro pins s σ H D I h
 refine wpAny_For (thn (hi pins s σ H _ I h) fun v s1 h1=>thn h1 fun itv s2 h2=>?_) hs
 obtain ⟨it,fp,tn,J,H2,e,I2,T,st2,f2,W,⟨m0,w0⟩,turn⟩:=h2
 subst e
 -- what stays true of the iterator's objects through the loop
 have stat:∀ {H':Hp},(∀ b∈fp,H' b=none)->∀ b∈fp,BD X pins H' b:=fun hn b hb=>⟨hn b hb,(f2 b hb).2⟩
 refine codeAny_forLoop_any (fun n s'=>∃ i σ' H',Inv X pins σ' H' s'/\tn i s'.heap/\(∀ b∈fp,H' b=none)/\W i n σ' H') ?_ m0 ⟨0,σ,H2,I2,st2,fun b hb=>(f2 b hb).1,w0⟩
 rintro n s3 ⟨i,σ3,H3,I3,st3,fr3,w3⟩
 rcases turn i n σ3 H3 w3 with ⟨stop,qn⟩ | ⟨go,N,hN,step⟩
 ·refine wpAny_passesOwn hp (thn (T.done X rfl rfl rfl hc i pins s3 σ3 H3 X.xe I3 (stat fr3) st3 stop) fun r s4 ⟨hr,I4⟩=>?_)
  subst hr
  exact wpAny_execs_nil ⟨σ3,H3,I4,qn⟩
 ·refine wpAny_passesOwn hp (thn (T.item X rfl rfl rfl hc i pins s3 σ3 H3 X.xe I3 (stat fr3) st3 go) fun r s4 ⟨u,hr,h4⟩=>?_)
  subst hr
  refine wpAny_passesOwn hp (thn h4 fun _ s5 ⟨x,H5,I5,r5,y5,st5,fr5⟩=>?_)
  have I5':=I5.pinned (stat fr5) (T.obj _ _ st5)
  refine wpAny_passesOwn hp (thn (hg _ s5 σ3 H5 x u _ I5' r5 (step x H5 y5)) fun _ s6 ⟨σ6,H6,I6,q6⟩=>?_)
  refine wpAny_passesOwn hp (thn (hb _ s6 σ6 H6 _ I6 q6) fun f s7 q7=>?_)
  have again:∀ {σ7:St} {H7:Hp},Inv X (pins++BJ fp s5.heap) σ7 H7 s7->N σ7 H7->∃ m,m < n/\∃ i σ' H',Inv X pins σ' H' s7/\tn i s7.heap/\(∀ b∈fp,H' b=none)/\W i m σ' H':=fun {σ7 H7} I7 n7=>by
   obtain ⟨m',hm,w7⟩:=hN σ7 H7 n7
   refine ⟨m',hm,i+1,σ7,H7,I7.unpinned,T.keep _ _ _ st5 fun b hb o e=>(I7.pin (b,o) (List.mem_append_right _ (List.mem_append_right _ (CL hb e)))).1,fun b hb=>?_,w7⟩
   obtain ⟨o,e,d⟩:=T.obj _ _ st5 b hb
   exact (I7.pin (b,o) (List.mem_append_right _ (List.mem_append_right _ (CL hb e)))).2.1
  cases f with
  | next=>obtain ⟨σ7,H7,I7,n7⟩:=q7;exact again I7 n7
  | cont=>obtain ⟨σ7,H7,I7,n7⟩:=q7;exact again I7 n7
  | brk=>obtain ⟨σ7,H7,I7,q7⟩:=q7;exact ⟨σ7,H7,I7.unpinned,q7⟩
  | ret v=>obtain ⟨x7,σ7,H7,I7,r7,q7⟩:=q7;exact ⟨x7,σ7,H7,I7.unpinned,r7,q7⟩
end
theorem Gn {K:PySem.W.Frag} {a:Addr} {xs:List V} {g:TG} {tb:TS} {D:Ends} {σ:St} {H:Hp} (Pv:Nat->St->Hp->Prop) (h0:Pv 0 σ H) (hl:∀ i σ H,i<=xs.length->Pv i σ H->SqL K H a xs)
 (hs:∀ i x σ H,xs[i]? = some x->Pv i σ H->g x σ H fun σ2 H2=>tb { D with nx:=Pv (i+1),ct:=Pv (i+1),bk:=D.nx } σ2 H2) (hd:∀ σ H,Pv xs.length σ H->D.nx σ H) :
 ∃ W:Nat->Nat->St->Hp->Prop,(∃ m,W 0 m σ H)/\∀ i m σ H,W i m σ H ->
  ((Itl K a).stop i H/\D.nx σ H)\/((Itl K a).go i H/\∃ N:St->Hp->Prop,(∀ σ' H',N σ' H'->∃ m',m' < m/\W (i+1) m' σ' H')/\∀ x H',(Itl K a).yld i H x H'->g x σ H' fun σ2 H2=>tb { D with nx:=N,ct:=N,bk:=D.nx } σ2 H2):=by
 refine ⟨fun i m σ H=>m=xs.length - i/\i<=xs.length/\Pv i σ H,⟨xs.length,by simp,Nat.zero_le _,h0⟩,?_⟩
 rintro i m σ H ⟨rfl,hi,p⟩
 have q:=hl i σ H hi p
 by_cases hlt:i < xs.length
 ·refine .inr ⟨⟨xs,xs[i],q,by simp [hlt]⟩,Pv (i+1),fun σ' H' p'=>⟨xs.length - (i+1),by omega,rfl,hlt,p'⟩,fun x H' y=>?_⟩
  obtain ⟨e,y⟩:=y
  subst e
  exact hs i x σ _ (y xs q) p
 ·have e:i=xs.length:=by omega
  subst e
  exact .inl ⟨⟨xs,q,Nat.le_refl _⟩,hd σ H p⟩
theorem Gs {lo:Int} {n:Nat} {g:TG} {tb:TS} {D:Ends} {σ:St} {H:Hp} (Pv:Nat->St->Hp->Prop) (h0:Pv 0 σ H)
 (hs:∀ i σ H,i < n->Pv i σ H->g (.int (lo+i)) σ H fun σ2 H2=>tb { D with nx:=Pv (i+1),ct:=Pv (i+1),bk:=D.nx } σ2 H2) (hd:∀ σ H,Pv n σ H->D.nx σ H) :
 ∃ W:Nat->Nat->St->Hp->Prop,(∃ m,W 0 m σ H)/\∀ i m σ H,W i m σ H ->
  ((Itr lo n).stop i H/\D.nx σ H)\/((Itr lo n).go i H/\∃ N:St->Hp->Prop,(∀ σ' H',N σ' H'->∃ m',m' < m/\W (i+1) m' σ' H')/\∀ x H',(Itr lo n).yld i H x H'->g x σ H' fun σ2 H2=>tb { D with nx:=N,ct:=N,bk:=D.nx } σ2 H2):=by
 refine ⟨fun i m σ H=>m=n - i/\i<=n/\Pv i σ H,⟨n,by simp,Nat.zero_le _,h0⟩,?_⟩
 rintro i m σ H ⟨rfl,hi,p⟩
 by_cases hlt:i < n
 ·refine .inr ⟨hlt,Pv (i+1),fun σ' H' p'=>⟨n - (i+1),by omega,rfl,hlt,p'⟩,fun x H' y=>?_⟩
  obtain ⟨e,y⟩:=y
  subst e y
  exact hs i σ _ hlt p
 ·have e:i=n:=by omega
  subst e
  exact .inl ⟨Nat.le_refl _,hd σ H p⟩
abbrev R2:=V->V->Hp->VK->Prop
def OpR (X:Cx) (f:Value->Value->Sem Value) (r:R2):Prop :=
 ∀ (pins:List (Addr × Obj)) (s:Shared) (σ:St) (H:Hp) (x y:V) (v u:Value) (Q:VK),Inv X pins σ H s->RelV x v->RelV y u->r x y H Q ->
  wpAny (model X.prog X.w) X.A (f v u) (EP X pins σ Q) X.xe s
def UnR (X:Cx) (f:Value->Sem Value) (r:V->Hp->VK->Prop):Prop :=
 ∀ (pins:List (Addr × Obj)) (s:Shared) (σ:St) (H:Hp) (x:V) (v:Value) (Q:VK),Inv X pins σ H s->RelV x v->r x H Q ->
  wpAny (model X.prog X.w) X.A (f v) (EP X pins σ Q) X.xe s
def CallR (X:Cx) (f:Value) (r:List V->Hp->VK->Prop):Prop :=
 ∀ (pins:List (Addr × Obj)) (s:Shared) (σ:St) (H:Hp) (xs:List V) (us:List Value) (Q:VK),Inv X pins σ H s->Vals xs us->r xs H Q ->
  wpAny (model X.prog X.w) X.A (call f us) (EP X pins σ Q) X.xe s
def tOp (r:R2) (ta tb:TE):TE:=fun σ H Q=>ta σ H fun x H1=>tb σ H1 fun y H2=>r x y H2 Q
def tUn (r:V->Hp->VK->Prop) (ta:TE):TE:=fun σ H Q=>ta σ H fun x H1=>r x H1 Q
def rI (C:Int->Int->Prop) (g:Int->Int->V):R2:=fun x y H Q=>∃ i j,x=.int i/\y=.int j/\C i j/\Q (g i j) H
def rI0 (g:Int->Int->V):R2:=fun x y H Q=>∃ i j,x=.int i/\y=.int j/\Q (g i j) H
def rU (g:Int->V):V->Hp->VK->Prop:=fun x H Q=>∃ i,x=.int i/\Q (g i) H
section
variable {X:Cx} {a b c:Expr} {ta tb tc:TE} {pos:Pos}
theorem Ei (ha:PE X a ta) (hb:PE X b tb) {pins:List (Addr × Obj)} {s:Shared} {σ:St} {H:Hp} {R:V->V->Hp->Prop} (I:Inv X pins σ H s)
 (h:ta σ H fun x H1=>tb σ H1 fun y H2=>R x y H2) {Q:Value->Shared->Prop} {f:Value->Value->Sem Value}
 (hf:∀ v u s2 x y H2,Inv X pins σ H2 s2->RelV x v->RelV y u->R x y H2->wpAny (model X.prog X.w) X.A (f v u) Q X.xe s2) :
 wpAny (model X.prog X.w) X.A (eval a X.env) (fun v s₁=>wpAny (model X.prog X.w) X.A (eval b X.env) (fun u s₂=>wpAny (model X.prog X.w) X.A (f v u) Q X.xe s₂) X.xe s₁) X.xe s:=by
 refine thn (ha pins s σ H _ I h) fun v s1 ⟨x,H1,I1,r1,q1⟩=>?_
 refine thn (hb pins s1 σ H1 _ I1 q1) fun u s2 ⟨y,H2,I2,r2,q2⟩=>?_
 exact hf v u s2 x y H2 I2 r1 r2 q2
theorem AE {op:Operator} {r:R2} (ho:OpR X (binaryOp op) r) (ha:PE X a ta) (hb:PE X b tb):PE X (.BinOp a op b pos) (tOp r ta tb):=by
 intro pins s σ H Q I h
 exact wpAny_BinOp (Ei ha hb I h fun v u s2 x y H2 I2 rx ry q=>ho pins s2 σ H2 x y v u Q I2 rx ry q)
theorem DW {op:UnaryOp} {r:V->Hp->VK->Prop} (ho:UnR X (unaryOp op) r) (ha:PE X a ta):PE X (.UnaryOp op a pos) (tUn r ta):=by
 intro pins s σ H Q I h
 exact UnaryOp_ (thn (ha pins s σ H _ I h) fun v s1 ⟨x,H1,I1,r1,q1⟩=>ho pins s1 σ H1 x v Q I1 r1 q1)
theorem opI {f:Value->Value->Sem Value} {C:Int->Int->Prop} {g:Int->Int->Int}
 (rule:∀ (i j:Int) (t u:Tok) (s:Shared) (Q:Value->Shared->Prop) (E:Value->Shared->Prop),C i j->Q (.int (g i j) s.toks) { s with toks:=s.toks+1 } -> wpAny (model X.prog X.w) X.A (f (.int i t) (.int j u)) Q E s) :
 OpR X f (rI C fun i j=>.int (g i j)):=by
 intro pins s σ H x y v u Q I rx ry h
 obtain ⟨i,j,rfl,rfl,hc,q⟩:=h
 obtain ⟨t,rfl⟩:=rx
 obtain ⟨t',rfl⟩:=ry
 exact rule i j t t' s _ _ hc ⟨.int (g i j),H,I.tok _,⟨_,rfl⟩,q⟩
theorem FU {f:Value->Value->Sem Value} {g:Int->Int->Int}
 (rule:∀ (i j:Int) (t u:Tok) (s:Shared) (Q:Value->Shared->Prop) (E:Value->Shared->Prop),Q (.int (g i j) s.toks) { s with toks:=s.toks+1 } -> wpAny (model X.prog X.w) X.A (f (.int i t) (.int j u)) Q E s) :
 OpR X f (rI0 fun i j=>.int (g i j)):=by
 intro pins s σ H x y v u Q I rx ry h
 obtain ⟨i,j,rfl,rfl,q⟩:=h
 obtain ⟨t,rfl⟩:=rx
 obtain ⟨t',rfl⟩:=ry
 exact rule i j t t' s _ _ ⟨.int (g i j),H,I.tok _,⟨_,rfl⟩,q⟩
theorem ES {f:Value->Value->Sem Value} {g:Int->Int->Bool}
 (rule:∀ (i j:Int) (t u:Tok) (s:Shared) (Q:Value->Shared->Prop) (E:Value->Shared->Prop),Q (.bool (g i j)) s->wpAny (model X.prog X.w) X.A (f (.int i t) (.int j u)) Q E s) :
 OpR X f (rI0 fun i j=>.bl (g i j)):=by
 intro pins s σ H x y v u Q I rx ry h
 obtain ⟨i,j,rfl,rfl,q⟩:=h
 obtain ⟨t,rfl⟩:=rx
 obtain ⟨t',rfl⟩:=ry
 exact rule i j t t' s _ _ ⟨.bl (g i j),H,I,rfl,q⟩
def Fs (i j:Int):Prop:=0<=j/\j<=1000000/\i.natAbs < 2 ^ 64
def CMul (i j:Int):Prop:=(-(2 ^ 64) < i/\i < 2 ^ 64)\/(-(2 ^ 64) < j/\j < 2 ^ 64)
theorem CMul.ok {i j:Int} (h:CMul i j):IntMulOk i j:=by
 rcases h with ⟨h1,h2⟩ | ⟨h1,h2⟩
 ·exact .of_left (intBits_le_64 h1 h2)
 ·exact .of_right (intBits_le_64 h1 h2)
theorem Gq:OpR X (binaryOp .Add) (rI0 fun i j=>.int (i+j)):=FU fun _ _ _ _ _ _ _ q=>add_int q
theorem Lu:OpR X (binaryOp .Sub) (rI0 fun i j=>.int (i - j)):=FU fun _ _ _ _ _ _ _ q=>sub_int q
theorem Kp:OpR X (binaryOp .Mod) (rI (fun _ j=>0 < j) fun i j=>.int (i % j)):=opI fun i j _ _ _ _ _ hc q=>by
 have h1:(0:Int) < j:=hc
 exact mod_int' (by omega) (by rw [Int.fmod_eq_emod_of_nonneg i (by omega)];exact q)
theorem LU:OpR X (binaryOp .Pow) (rI Fs fun i j=>.int (i ^ j.toNat)):=opI fun _ _ _ _ _ _ _ hc q=>pow_int_small hc.1 hc.2.1 hc.2.2 q
theorem unI {f:Value->Sem Value} {g:Int->Int}
 (rule:∀ (i:Int) (t:Tok) (s:Shared) (Q:Value->Shared->Prop) (E:Value->Shared->Prop),Q (.int (g i) s.toks) { s with toks:=s.toks+1 } -> wpAny (model X.prog X.w) X.A (f (.int i t)) Q E s) :
 UnR X f (rU fun i=>.int (g i)):=by
 intro pins s σ H x v Q I rx h
 obtain ⟨i,rfl,q⟩:=h
 obtain ⟨t,rfl⟩:=rx
 exact rule i t s _ _ ⟨.int (g i),H,I.tok _,⟨_,rfl⟩,q⟩
theorem Jw:UnR X (unaryOp .USub) (rU fun i=>.int (-i)):=unI fun _ _ _ _ _ q=>neg_int q
end
section
variable {X:Cx} {a b c:Expr} {ta tb tc:TE} {pos:Pos}
theorem MW:OpR X (compareOp .Lt) (rI0 fun i j=>.bl (decide (i < j))):=ES fun _ _ _ _ _ _ _ q=>lt_int q
theorem LW:OpR X (compareOp .LtE) (rI0 fun i j=>.bl (decide (i<=j))):=ES fun _ _ _ _ _ _ _ q=>le_int q
theorem Iu:OpR X (compareOp .Gt) (rI0 fun i j=>.bl (decide (j < i))):=ES fun _ _ _ _ _ _ _ q=>gt_int q
theorem Jv {op:CmpOp} {r:R2} (ho:OpR X (compareOp op) r) (ha:PE X a ta) (hb:PE X b tb) (hm:behindInMarks op b=false):PE X (.Compare a [op] [b] pos) (tOp r ta tb):=by
 intro pins s σ H Q I h
 exact wpAny_Compare1 (Ei ha hb I h fun v u s2 x y H2 I2 rx ry q=>ho pins s2 σ H2 x y v u Q I2 rx ry q) hm
theorem DD:(sizeLine:Nat) < 2 ^ 63:=by rw [sizeLine_eq];decide
theorem JB:OpR X (binaryOp .Add) (fun x y H Q=>∃ i j,x=.str i/\y=.str j/\i.length+j.length<=sizeLine/\Q (.str (i++j)) H):=by
 intro pins s σ H x y v u Q I rx ry h
 obtain ⟨i,j,rfl,rfl,hz,q⟩:=h
 obtain ⟨t,rfl⟩:=rx
 obtain ⟨t',rfl⟩:=ry
 exact add_str (fun t' tk=>⟨.str (i++j),H,I.tok _,⟨_,rfl⟩,q⟩) hz
theorem Bj {x:V} {us:List Value} (r:Vals [x] us):∃ u,us=[u]/\RelV x u:=by
 cases r with
 | cons r1 r2=>cases r2;exact ⟨_,rfl,r1⟩
theorem Cy {x y:V} {us:List Value} (r:Vals [x,y] us):∃ u w',us=[u,w']/\RelV x u/\RelV y w':=by
 cases r with
 | cons r1 r2 =>
  cases r2 with
  | cons r3 r4=>cases r4;exact ⟨_,_,rfl,r1,r3⟩
theorem K5 (hc:X.calm=true):CallR X (.builtin "max") (fun xs H Q=>∃ i j,xs=[.int i,.int j]/\Q (.int (if j > i then j else i)) H):=by
 intro pins s σ H xs us Q I r h
 obtain ⟨i,j,rfl,q⟩:=h
 obtain ⟨u,w',rfl,⟨t,rfl⟩,⟨t',rfl⟩⟩:=Cy r
 refine max_two_ints (I.ok.hd hc) fun h' tk k=>⟨_,H,I.kept k,?_,q⟩
 by_cases hj:j > i
 ·rw [if_pos hj,if_pos hj];exact ⟨_,rfl⟩
 ·rw [if_neg hj,if_neg hj];exact ⟨_,rfl⟩
theorem call_int1:CallR X (.type "int") (fun xs H Q=>(∃ i,xs=[.int i]/\Q (.int i) H)\/∃ k,xs=[.bl k]/\Q (.int (if k then 1 else 0)) H):=by
 intro pins s σ H xs us Q I r h
 rcases h with ⟨i,rfl,q⟩ | ⟨k,rfl,q⟩
 ·obtain ⟨u,rfl,t,rfl⟩:=Bj r
  exact call_int_int ⟨.int i,H,I,⟨_,rfl⟩,q⟩
 ·obtain ⟨u,rfl,r1⟩:=Bj r
  cases r1
  exact call_int_bool ⟨.int (if k then 1 else 0),H,I.tok _,⟨_,rfl⟩,q⟩
def Gi (K:PySem.W.Frag) (x:V) (H:Hp) (n:Nat):Prop :=
 match x with
 | .str y=>y.length<=sizeLine/\n=y.length
 | .byt y=>y.size<=sizeLine/\n=y.size
 | .ref p=>(∃ xs,SqL K H p xs/\n=xs.length)\/∃ xs,SqT K H p xs/\n=xs.length
 | _=>False
theorem call_len:CallR X (.builtin "len") (fun xs H Q=>∃ x n,xs=[x]/\Gi X.K x H n/\Q (.int n) H):=by
 intro pins s σ H xs us Q I r h
 obtain ⟨x,n,rfl,e,q⟩:=h
 obtain ⟨u,rfl,rx⟩:=Bj r
 have hl:=DD
 have hs:sizeLine=16777216:=sizeLine_eq
 cases x with
 | str y =>
  obtain ⟨t,rfl⟩:=rx
  obtain ⟨hy,e'⟩:y.length<=sizeLine/\n=y.length:=e
  subst e'
  exact len_str (by omega) ⟨.int _,H,I.tok _,⟨_,rfl⟩,q⟩
 | byt y =>
  obtain ⟨t,rfl⟩:=rx
  obtain ⟨hy,e'⟩:y.size<=sizeLine/\n=y.size:=e
  subst e'
  exact PySem.W.len_bytes (by omega) ⟨.int _,H,I.tok _,⟨_,rfl⟩,q⟩
 | ref p =>
  cases rx
  have e':(∃ xs,SqL X.K H p xs/\n=xs.length)\/∃ xs,SqT X.K H p xs/\n=xs.length:=e
  rcases e' with ⟨xs,hx,e'⟩ | ⟨xs,hx,e'⟩
  ·subst e'
   obtain ⟨its,r',pl,hz⟩:=I.list hx
   have hlen:=r'.length
   exact Calls.call_len_list pl.isList (by simp only [List.size_toArray];omega) ⟨.int xs.length,H,I.tok _,⟨_,by simp only [List.size_toArray];rw [hlen]⟩,q⟩
  ·subst e'
   obtain ⟨its,r',pl,hz⟩:=I.tuple hx
   have hlen:=r'.length
   exact len_tuple pl (by simp only [List.size_toArray];omega) ⟨.int xs.length,H,I.tok _,⟨_,by simp only [List.size_toArray];rw [hlen]⟩,q⟩
 | _=>exact (show False from e).elim
end
structure ObjM (h:Heap) (x dx C:Addr) (mA:Str->Option Value):Prop where
 obj:h.get? x=some (PySem.W.instObj C dx)
 ns:h.Ns1 dx mA
 ne:dx≠x
theorem JZ {h:Heap} {dx:Addr} {mA:Str->Option Value} (n:h.Ns1 dx mA):∃ od,h.get? dx=some od/\∀ name,PySem.W.lookIn name od=some (mA name):=by
 obtain ⟨o,es,ep,ho,hd,hk,_,hm⟩:=n
 refine ⟨o,ho,fun name=>?_⟩
 have e:=hm name
 unfold nsFind findBy at e
 rw [<- Array.find?_toList] at e
 unfold PySem.W.lookIn
 rw [hd]
 dsimp only
 split
 ·rename_i y q
  rw [q] at e
  exact congrArg some e
 ·rename_i q
  rw [q] at e
  have a:es.toList.any (·.refKey)=false:=by
   rw [List.any_eq_false]
   intro y hy
   obtain ⟨z,t,hkey⟩:=hk y (Array.mem_toList_iff.mp hy)
   simp [DictEntry.refKey,hkey]
  have a':¬ es.toList.any (·.refKey)=true:=by rw [a];exact Bool.false_ne_true
  rw [if_neg a']
  exact congrArg some e
theorem ObjM.look {h:Heap} {x dx C:Addr} {mA:Str->Option Value} (I:ObjM h x dx C mA):∃ od,PySem.W.InstAt h x (PySem.W.instObj C dx) C (some od)/\∀ name,PySem.W.lookIn name od=some (mA name) :=
 let ⟨od,ho,hl⟩:=JZ I.ns
 ⟨od,⟨I.obj,rfl,rfl,ho⟩,hl⟩
section
variable {prog:Program} {w:World} {A:Around} {E:Value->Shared->Prop} {s:Shared} {K:PySem.W.Frag} {x dx C f:Addr} {mA:Str->Option Value} {name:Str} {v:Value}
end
theorem RelO.some_of {v:V} {o:Option Value} (r:RelO (some v) o):∃ u,o=some u/\RelV v u:=by
 cases o with
 | none=>exact (show False from r).elim
 | some u=>exact ⟨u,rfl,r⟩
section
variable {P:Program} {w:World} {H H':Hp} {h h':Heap} {a C dx:Addr} {fs fs':List (Str × V)}
theorem LA (hok:HOk P w H h) (e:H a=some (.ins C dx fs)):∃ mA,ObjM h a dx C mA/\(∀ f,RelO (fs.lookup f) (mA f))/\PySem.Within mA (fs.map (·.1))/\fs.length<=1000/\H dx=some (.own a):=by
 obtain ⟨d,z,ne,ob,mA,n,r,q⟩:=(show ObjOk P w H h a (.ins C dx fs) from hok a _ e)
 exact ⟨mA,⟨ob,n,ne⟩,r,q,z,d⟩
end
structure Cls (K:PySem.W.Frag) (C:Addr):Prop where
 pg:PySem.W.plainGet K C Str.empty=true
 hd:PySem.W.hasDictIn K C=true
 po:PySem.W.plainOver K C=true
 sa:PySem.W.findIn K (.ref C) "__setattr__" = some (some (.builtin "object.__setattr__"))
theorem Cls.get {K:PySem.W.Frag} {C:Addr} (c:Cls K C) (f:Str):PySem.W.plainGet K C f=true:=c.pg
structure Con (K:PySem.W.Frag) (C:Addr) (f:Str) (v:V) (u:Value):Prop where
 at_:PySem.W.findIn K (.ref C) f=some (some u)
 rel:RelV v u
 get:PySem.W.specialIn K u "__get__" = some none
 cp:PySem.W.copiedNames.contains f=false
structure Meth (K:PySem.W.Frag) (C:Addr) (m:Str) (f:Addr):Prop where
 at_:PySem.W.findIn K (.ref C) m=some (some (.ref f))
 fn:PySem.W.isFn K (.ref f)=true
 kp:PySem.W.keepIn K (.ref f)=true
section
variable {X:Cx} {pins:List (Addr × Obj)} {σ:St} {H:Hp} {s:Shared} {a C dx:Addr} {fs:List (Str × V)} {f:Str} {v:V} {A:Around} {E:Value->Shared->Prop}
end
section
variable {X:Cx} {o e value:Expr} {f:Str} {pos pos' tpos:Pos} {ta tv:TE}
end
section
variable {X:Cx} {pins:List (Addr × Obj)} {σ:St} {H:Hp} {s:Shared} {A:Around} {E:Value->Shared->Prop} {Q:Value->Shared->Prop} {c:Value} {b:Bool}
inductive TyOf (K:PySem.W.Frag) (H:Hp):V->Value->Prop where
 | non:TyOf K H .non (.type "NoneType")
 | bl (x:Bool):TyOf K H (.bl x) (.type "bool")
 | int (i:Int):TyOf K H (.int i) (.type "int")
 | str (x:Str):TyOf K H (.str x) (.type "str")
 | flt (x:UInt64):TyOf K H (.flt x) (.type "float")
 | lst {a:Addr} {xs:List V} (e:H a=some (.lst xs)):TyOf K H (.ref a) (.type "list")
 | frz {a:Addr} {o:Obj} {xs:List V} (e:H a=some (.frz o (.lst xs))):TyOf K H (.ref a) (.type "list")
 | tup {a:Addr} {xs:List V} (e:H a=some (.tup xs)):TyOf K H (.ref a) (.type "tuple")
 | dK {a:Addr} {kvs:List (Key × V)} (e:H a=some (.dK kvs)):TyOf K H (.ref a) (.type "dict")
 | dT {a:Addr} {kvs:List (List Key × V)} (e:H a=some (.dT kvs)):TyOf K H (.ref a) (.type "dict")
 | ins {a C dx:Addr} {fs:List (Str × V)} (e:H a=some (.ins C dx fs)) (cl:Cls K C) (ha:PySem.W.findIn K (.ref C) "__class__" = some (some (.builtin "object.__class__")))
  (hn:PySem.W.specialIn K (.builtin "object.__class__") "__get__" = some (some (.builtin "getset_descriptor.__get__"))) (htk:PySem.W.takesIn K (.builtin "object.__class__")=some true)
  (hm:PySem.W.mroIn K C (.type "object")=some true):TyOf K H (.ref a) (.ref C)
theorem K8 {x:V} {u t:Value} (I:Inv X pins σ H s) (rx:RelV x u) (ty:TyOf X.K H x t) (e:PySem.W.kitOne X.K t c=some b) (h:∀ tk,Q (.bool b) { s with toks:=tk }) :
 wpAny (model X.prog X.w) A (call (.builtin "isinstance") [u,c]) Q E s:=by
 cases ty with
 | non=>cases (show u=Value.none from rx);exact PySem.W.kia_one PySem.W.kitx_none I.kIn True.intro e (fun z=>nomatch z) h
 | bl y=>cases (show u=Value.bool y from rx);exact PySem.W.kia_one PySem.W.kitx_bool I.kIn True.intro e (fun z=>nomatch z) h
 | int i=>obtain ⟨t,q⟩:=(show ∃ t,u=Value.int i t from rx);cases q;exact PySem.W.kia_one PySem.W.kitx_int I.kIn True.intro e (fun z=>nomatch z) h
 | str y=>obtain ⟨t,q⟩:=(show ∃ t,u=Value.str y t from rx);cases q;exact PySem.W.kia_one PySem.W.kitx_str I.kIn True.intro e (fun z=>nomatch z) h
 | flt y=>obtain ⟨t,q⟩:=(show ∃ t,u=Value.float y t from rx);cases q;exact PySem.W.kia_one PySem.W.kitx_float I.kIn True.intro e (fun z=>nomatch z) h
 | @lst a xs ea =>
  cases (show u=Value.ref a from rx)
  obtain ⟨_,_,n,_,h1⟩:=(show ObjOk X.prog X.w H s.heap a (.lst xs) from I.hok a _ ea)
  exact PySem.W.kia_one PySem.W.kitx_list I.kIn ⟨_,h1,rfl⟩ e (fun z=>nomatch z) h
 | @frz a ob xs ea =>
  cases (show u=Value.ref a from rx)
  obtain ⟨_,_,_,n,_,h1⟩:=(show ObjOk X.prog X.w H s.heap a (.frz ob (.lst xs)) from I.hok a _ ea)
  exact PySem.W.kia_one PySem.W.kitx_list I.kIn ⟨_,h1,rfl⟩ e (fun z=>nomatch z) h
 | @tup a xs ea =>
  cases (show u=Value.ref a from rx)
  obtain ⟨_,_,_,p⟩:=(show ObjOk X.prog X.w H s.heap a (.tup xs) from I.hok a _ ea)
  obtain ⟨o,h1,h2,_⟩:=p
  exact PySem.W.kia_one PySem.W.kitx_tuple I.kIn ⟨o,h1,h2⟩ e (fun z=>nomatch z) h
 | @dK a kvs ea =>
  cases (show u=Value.ref a from rx)
  obtain ⟨_,_,vs,_,p⟩:=(show ObjOk X.prog X.w H s.heap a (.dK kvs) from I.hok a _ ea)
  obtain ⟨o,es,ep,h1,h2,_⟩:=p
  exact PySem.W.kia_one PySem.W.kitx_dict I.kIn ⟨o,h1,h2.1⟩ e (fun z=>nomatch z) h
 | @dT a kvs ea =>
  cases (show u=Value.ref a from rx)
  obtain ⟨_,_,xs,_,o,es,ep,h1,h2,_⟩:=(show ObjOk X.prog X.w H s.heap a (.dT kvs) from I.hok a _ ea)
  exact PySem.W.kia_one PySem.W.kitx_dict I.kIn ⟨o,h1,h2.1⟩ e (fun z=>nomatch z) h
 | @ins a C dx fs ea cl ha hn htk hm =>
  cases (show u=Value.ref a from rx)
  obtain ⟨mA,O,_⟩:=LA I.hok ea
  obtain ⟨od,J,_⟩:=O.look
  exact PySem.W.kia_one (PySem.W.kitx_own (cl.get _) cl.hd ha hn htk hm) I.kIn J e (fun z=>nomatch z) h
end
structure Room (k:Nat) (A:Around):Prop where
 hd:A.handled=none
 dp:A.depth+3 * k+5 < recursionLimit
 un:A.units+16 * k+200 < cLine
 gd:A.guards=some []
theorem Room.mono {j k:Nat} {A:Around} (r:Room k A) (h:j<=k):Room j A:=⟨r.hd,by have:=r.dp;omega,by have:=r.un;omega,r.gd⟩
theorem Room.deeper {k:Nat} {A:Around} (r:Room (k+1) A) (env:Env):Room k (A.deeper env) :=
 ⟨r.hd,by have:=r.dp;show A.depth+1+3 * k+5 < _;omega,by have:=r.un;show A.units+3+16 * k+200 < _;omega,r.gd⟩
theorem Room.depth {k:Nat} {A:Around} (r:Room k A):A.depth < recursionLimit:=by have:=r.dp;omega
def EN:TA:=fun _ H Q=>Q [] H
def Em (ta:TE) (tr:TA):TA:=fun σ H Q=>ta σ H fun x H1=>tr σ H1 fun xs H2=>Q (x::xs) H2
section
variable {X:Cx} {e:Expr} {es:List Expr} {te:TE} {t:TA} {pos:Pos}
theorem Bs:PA X [] EN:=fun _ _ _ _ H Q I h=>Calls.spliced_nil ⟨[],H,I,.nil,h⟩
theorem AB (ha:PE X e te) (hr:PA X es t) (hs:starEach (e::es) X.env=(false,eval e X.env)::starEach es X.env:=by rfl):PA X (e::es) (Em te t):=by
 intro pos pins s σ H Q I h
 rw [hs]
 show wpAny _ _ (spliced ((false,eval e X.env)::backTo pos (starEach es X.env))) _ _ s
 refine Calls.spliced_cons (thn (ha pins s σ H _ I h) fun u s1 ⟨x,H1,I1,r1,q1⟩=>?_)
 exact thn (hr pos pins s1 σ H1 _ I1 q1) fun us s2 ⟨xs,H2,I2,r2,q2⟩=>⟨x::xs,H2,I2,.cons r1 r2,q2⟩
def Hl (t:TA):TE:=fun σ H Q=>t σ H fun xs H1=>xs.length<=sizeLine/\∀ p,H1 p=none->Q (.ref p) (upd H1 p (.tup xs))
def HE (t:TA):TE:=fun σ H Q=>t σ H fun xs H1=>xs.length<=sizeLine/\∀ p,H1 p=none->Q (.ref p) (upd H1 p (.lst xs))
theorem AV {x1} (h:PA X es t):PE X (.Tuple es x1 pos) (Hl t):=by
 intro pins s σ H Q I hq
 refine wpAny_Tuple_spliced (thn (h pos pins s σ H _ I hq) fun us s1 ⟨xs,H1,I1,r,z,q⟩=>⟨by rw [<- r.length];exact z,?_⟩)
 have hf:H1 s1.heap.objs.size=none:=I1.hok.fresh (Nat.le_refl _)
 refine ⟨.ref s1.heap.objs.size,upd H1 s1.heap.objs.size (.tup xs),I1.laid (t':=s1.toks) (fun b u e=>Heap.get?_push_of_some _ e) (Nat.le_refl _) ?_,rfl,q _ hf⟩
 exact ⟨z,us,r,⟨_,Heap.get?_push_size _ rfl,rfl,⟨_,rfl⟩,rfl⟩⟩
theorem Az (h:PA X es t):PE X (.List es pos) (HE t):=by
 intro pins s σ H Q I hq
 refine wpAny_List_spliced (thn (h pos pins s σ H _ I hq) fun us s1 ⟨xs,H1,I1,r,z,q⟩=>⟨by rw [<- r.length];exact z,?_⟩)
 have hf:H1 s1.heap.objs.size=none:=I1.hok.fresh (Nat.le_refl _)
 refine ⟨.ref s1.heap.objs.size,upd H1 s1.heap.objs.size (.lst xs),I1.laid (t':=s1.toks) (fun b u e=>Heap.get?_push_of_some _ e) (Nat.le_refl _) ?_,rfl,q _ hf⟩
 exact ⟨z,us,0,r,Heap.get?_push_size _ rfl⟩
end
abbrev Sp:=List V->Hp->VK->XK->Prop
abbrev CXT:=List Env->Hp->Shared->XK->Value->Shared->Prop
structure Env0 (P:Program) (w:World) (K:PySem.W.Frag) (mg:Str->Option Value) (base:Heap) (A:Around) (outer:List Env) (s:Shared) (H:Hp):Prop where
 frames:A.frames=some outer
 mod:Mod K mg base
 bs:∀ b o,base.get? b=some o->s.heap.get? b=some o/\H b=none
 bsz:base.objs.size<=s.heap.objs.size
 funs:s.heap.FunFrames base outer
 frf:∀ b∈frs outer,H b=none
 hok:HOk P w H s.heap
 bare:AllBare s.gens
def CE (outer:List Env) (P:Program) (w:World) (H:Hp) (s:Shared) (Q:VK) (u:Value) (s':Shared):Prop :=
 ∃ v H',s'.os=s.os/\AllBare s'.gens/\Un (frs outer) [] H H' s.heap s'.heap/\HOk P w H' s'.heap/\RelV v u/\Q v H'
def CR (CX:CXT) (outer:List Env) (P:Program) (w:World) (H:Hp) (s:Shared) (Q:VK) (E:XK) (r:Result) (s':Shared):Prop :=
 match r with
 | .ok (.ret u)=>CE outer P w H s Q u s'
 | .ok _=>False
 | .error e=>CX outer H s E e s'
structure FnOk (P:Program) (w:World) (K:PySem.W.Frag) (mg:Str->Option Value) (base:Heap) (CX:CXT) (k:Nat) (f:Addr) (fd:FuncData) (ps:List Str) (sp:Sp):Prop where
 len:∀ vs H Q E,sp vs H Q E->vs.length=ps.length
 run:∀ (A:Around) (outer:List Env) (s:Shared) (H:Hp) (args:Args) (us:List Value) (vs:List V) (Q:VK) (E:XK),Room k A->Env0 P w K mg base A outer s H->BindsTo s fd args (ps.zip us)->Vals vs us->sp vs H Q E ->
  codeAny (model P w) A (.call (.ref f) args) (CR CX outer P w H s Q E) s
theorem FnOk.mono {P:Program} {w:World} {K:PySem.W.Frag} {mg:Str->Option Value} {base:Heap} {CX:CXT} {j k:Nat} {f:Addr} {fd:FuncData} {ps:List Str} {sp:Sp} (F:FnOk P w K mg base CX j f fd ps sp) (h:j<=k) :
 FnOk P w K mg base CX k f fd ps sp:=⟨F.len,fun A outer s H args us vs Q E hr=>F.run A outer s H args us vs Q E (hr.mono h)⟩
section
variable {X:Cx} {pins:List (Addr × Obj)} {σ:St} {H:Hp} {s s':Shared}
theorem Inv.env0 (I:Inv X pins σ H s):Env0 X.prog X.w X.K X.mg X.base X.A X.stack s H :=
 ⟨I.ok.frames,I.ok.mod,I.bs,Nat.le_trans I.ok.bsz I.sz,I.stack,I.stkFree,I.hok,I.bare⟩
theorem Inv.after {Q:VK} {u:Value} (I:Inv X pins σ H s) (h:CE X.stack X.prog X.w H s Q u s'):EP X pins σ Q u s':=by
 obtain ⟨v,H',os,bare,un,hok,r,q⟩:=h
 obtain ⟨hh,g,d,t,os'⟩:=s'
 obtain rfl:os'=s.os:=os
 exact ⟨v,H',I.call (h':=hh) (g':=g) (d':=d) (t':=t) (ch:=[]) un hok bare (fun b z=>absurd z (by simp)),r,q⟩
end
def Hj (sp:Sp) (dvs:List V) (E:XK) (t:TA):TE:=fun σ H Q=>t σ H fun vs H1=>sp (vs++dvs) H1 Q E
def Binds (K:PySem.W.Frag) (fd:FuncData) (ps:List Str) (ds:List Value):Prop :=
 ∀ (s:Shared) (us:List Value),K.In s.heap->(us++ds).length=ps.length->BindsTo s fd ⟨us,[]⟩ (ps.zip (us++ds))
theorem Binds.all {K:PySem.W.Frag} {fd:FuncData} {ps:List Str} (h:∀ us:List Value,us.length=ps.length->bindArgs fd ⟨us,[]⟩=pure (ps.zip us)):Binds K fd ps []:=fun s us _ hl=>by
 rw [List.append_nil] at hl ⊢
 exact .of_eq (h us hl)
def D3 (CX:CXT) (X:Cx) (E:XK):Prop:=∀ (pins:List (Addr × Obj)) (σ:St) (H:Hp) (s:Shared) (e:Value) (s':Shared),Inv X pins σ H s->CX X.stack H s E e s'->X.xe e s'
section
variable {X:Cx} {CX:CXT} {k:Nat} {f C:Addr} {fd:FuncData} {ps:List Str} {sp:Sp} {dvs:List V} {ds:List Value} {E:XK} {x m:Str} {p pos apos:Pos} {e o:Expr} {es:List Expr} {ta:TE} {t:TA}
theorem HP {pins:List (Addr × Obj)} {σ:St} {H:Hp} {s:Shared} {Q:VK} {us:List Value} {vs:List V} (F:FnOk X.prog X.w X.K X.mg X.base CX k f fd ps sp) (hr:Room k X.A) (hb:Binds X.K fd ps ds) (hd:Vals dvs ds) (hx:D3 CX X E)
 (I:Inv X pins σ H s) (r:Vals vs us) (h:sp (vs++dvs) H Q E):wpAny (model X.prog X.w) X.A (call (.ref f) us) (EP X pins σ Q) X.xe s:=by
 have r2:Vals (vs++dvs) (us++ds):=r.append hd
 have hl:(us++ds).length=ps.length:=by rw [<- r2.length];exact F.len _ _ _ _ h
 refine wpAny_call (codeAny_mono (F.run X.A X.stack s H ⟨us,[]⟩ (us++ds) (vs++dvs) Q E hr I.env0 (hb s us I.kIn hl) r2 h) fun r s' hq=>?_)
 cases r with
 | error e=>exact hx pins σ H s e s' I hq
 | ok fl =>
  cases fl with
  | ret u=>exact I.after hq
  | next=>exact False.elim hq
  | brk=>exact False.elim hq
  | cont=>exact False.elim hq
theorem AQ (F:FnOk X.prog X.w X.K X.mg X.base CX k f fd ps sp) (hr:Room k X.A) (hg:Gl X x) (hm:X.mg x=some (.ref f)) (hk:PySem.W.keepIn X.K (.ref f)=true) (hb:Binds X.K fd ps ds) (hd:Vals dvs ds) (hx:D3 CX X E)
 (ha:PA X (e::es) t) (hdb:(x == ("__debug__" : Str))=false:=by decide) (he:starEach (e::es) X.env=(false,eval e X.env)::starEach es X.env:=by rfl) (hpl:(backTo pos (starEach es X.env)).any (·.1)=false:=by rfl) :
 PE X (.Call (.Name x p) (e::es) [] pos) (Hj sp dvs E t):=by
 intro pins s σ H Q I h
 refine wpAny_Call_Name_kw (En I hg hm ?_ hdb)
 refine PySem.W.callWith_K (h₀:=X.base) I.ok.mod.kin hk (thn (ha pos pins s σ H _ I h) fun us s1 ⟨vs,H1,I1,r,q⟩=>⟨I1.kIn,?_⟩) he hpl
 exact HP F hr hb hd hx I1 r q
structure Mk (K:PySem.W.Frag) (C f:Addr):Prop where
 makes:PySem.W.makesIn K C=true
 init:PySem.W.findIn K (.ref C) "__init__" = some (some (.ref f))
 fn:PySem.W.isFn K (.ref f)=true
 kp:PySem.W.keepIn K (.ref C)=true
end
section
variable {X:Cx} {CX:CXT} {k:Nat} {f C:Addr} {fd:FuncData} {ps ks:List Str} {sp:Sp} {E:XK} {x m:Str} {p pos apos kpos:Pos} {e o:Expr} {es:List Expr} {kws:List Keyword} {te ta:TE} {t tk:TA} {nm:Option Str}
structure KBinds (K:PySem.W.Frag) (fd:FuncData) (ps ks:List Str) (g:List Value->List Value->List Value) (gV:List V->List V->List V):Prop where
 to:∀ (s:Shared) (us ws:List Value),K.In s.heap->(g us ws).length=ps.length->BindsTo s fd ⟨us,ks.zip ws⟩ (ps.zip (g us ws))
 rel:∀ {vs:List V} {us:List Value} {zs:List V} {ws:List Value},Vals vs us->Vals zs ws->Vals (gV vs zs) (g us ws)
variable {g:List Value->List Value->List Value} {gV:List V->List V->List V}
end
structure FnScope (N P:List Str) (sc:Scope):Prop where
 kind:sc.kind=.function
 co:sc.isCoroutine=false
 gen:sc.isGenerator=false
 nd:N.Nodup
 pre:N.take P.length=P
 par:∀ x∈P,sc.names.lookup x=some .local\/sc.names.lookup x=some .cell
 nofree:∀ y∈sc.names,y.2≠.free
theorem Fj {kindOf:Str->Option NameKind} {x:Str}:∀ {binds:List (Str × Value)} {m:Str->Option Value},(∀ v,(x,v)∉binds)->bindL kindOf binds m x=m x
 | [],_,_=>rfl
 | (n,v)::r,m,h=>by
  unfold bindL
  rw [Fj fun w hw=>h w (List.mem_cons_of_mem _ hw)]
  split
  ·have:x≠n:=by rintro rfl;exact h v List.mem_cons_self
   simp [this]
  ·rfl
theorem Fn {kindOf:Str->Option NameKind} {x:Str}:∀ {binds:List (Str × Value)} {m:Str->Option Value},(∀ v,(x,v)∉binds)->bindC kindOf binds m x=m x
 | [],_,_=>rfl
 | (n,v)::r,m,h=>by
  unfold bindC
  rw [Fn fun w hw=>h w (List.mem_cons_of_mem _ hw)]
  split
  ·rfl
  ·have:x≠n:=by rintro rfl;exact h v List.mem_cons_self
   simp [this]
theorem FZ {kindOf:Str->Option NameKind} {x:Str} {v:Value}:∀ {P:List Str} {vs:List Value} {i:Nat} {m:Str->Option Value},P.Nodup->P[i]? = some x->vs[i]? = some v->kindOf x=some .local ->
 bindL kindOf (P.zip vs) m x=some v
 | [],_,_,_,_,h,_,_=>by simp at h
 | _::_,[],_,_,_,_,h,_=>by simp at h
 | p::P,w::vs,0,m,nd,h1,h2,hk=>by
  simp at h1 h2;subst h1;subst h2
  show bindL kindOf ((p,w)::P.zip vs) m p=_
  unfold bindL
  rw [Fj fun v hv=>(List.nodup_cons.mp nd).1 (List.of_mem_zip hv).1,if_pos hk]
  simp
 | p::P,w::vs,i+1,m,nd,h1,h2,hk=>by
  show bindL kindOf ((p,w)::P.zip vs) m x=_
  unfold bindL
  exact FZ (i:=i) (List.nodup_cons.mp nd).2 (by simpa using h1) (by simpa using h2) hk
theorem Hg {kindOf:Str->Option NameKind} {x:Str} {v:Value}:∀ {P:List Str} {vs:List Value} {i:Nat} {m:Str->Option Value},P.Nodup->P[i]? = some x->vs[i]? = some v->kindOf x≠some .local ->
 bindC kindOf (P.zip vs) m x=some v
 | [],_,_,_,_,h,_,_=>by simp at h
 | _::_,[],_,_,_,_,h,_=>by simp at h
 | p::P,w::vs,0,m,nd,h1,h2,hk=>by
  simp at h1 h2;subst h1;subst h2
  show bindC kindOf ((p,w)::P.zip vs) m p=_
  unfold bindC
  rw [Fn fun v hv=>(List.nodup_cons.mp nd).1 (List.of_mem_zip hv).1,if_neg hk]
  simp
 | p::P,w::vs,i+1,m,nd,h1,h2,hk=>by
  show bindC kindOf ((p,w)::P.zip vs) m x=_
  unfold bindC
  exact Hg (i:=i) (List.nodup_cons.mp nd).2 (by simpa using h1) (by simpa using h2) hk
def Bf (N:List Str) (vs:List V):St:=vs.map some++List.replicate (N.length - vs.length) none
def Bz (CX:CXT) (P:Program) (w:World) (K:PySem.W.Frag) (mg:Str->Option Value) (base:Heap) (N:List Str) (qual:Str) (scope:Scope) (f:Addr) (cd:Value) (A:Around) (outer:List Env) (s:Shared) (H:Hp) (E:XK):Cx where
 prog:=P
 w:=w
 K:=K
 mg:=mg
 base:=base
 A:=A.deeper (envOfC qual scope s.heap.objs.size f cd)
 N:=N
 s₀:=s
 H₀:=H
 env:=envOfC qual scope s.heap.objs.size f cd
 outer:=outer
 stack:=envOfC qual scope s.heap.objs.size f cd::outer
 ex:=[]
 calm:=true
 fn:=fun _=>true
 pn:=[]
 xe:=fun e s'=>wpAny (model P w) (A.deeper (envOfC qual scope s.heap.objs.size f cd)) (leaving (envOfC qual scope s.heap.objs.size f cd) e) (fun _ s''=>CX outer H s E e s'') (fun e' s''=>CX outer H s E e' s'') s'
theorem Fc {sc:Scope} {n:Nat} {x:Str} (h:sc.names.lookup x=some .cell):∃ c,(cellsFrom n sc.names []).lookup x=some c:=by
 have q:=PySem.W.cellsFrom_some sc.names n [] (.inl h)
 exact Option.isSome_iff_exists.mp q
theorem IQ {CX:CXT} {P:Program} {w:World} {K:PySem.W.Frag} {mg:Str->Option Value} {base:Heap} {N ps:List Str} {qual:Str} {scope:Scope} {f:Addr} {cd:Value} {A:Around} {outer:List Env} {s s1:Shared} {H:Hp} {E:XK} {us:List Value} {vs:List V}
 (S:FnScope N ps scope) (hd:A.handled=none) (e0:Env0 P w K mg base A outer s H) (hl:vs.length=ps.length) (r:Vals vs us)
 (x:InCallC s s.heap.objs.size (bindL (envOfC qual scope s.heap.objs.size f cd).kindOf (ps.zip us) fun _=>none) (cellsFrom (s.heap.objs.size+1) scope.names []) (bindC (envOfC qual scope s.heap.objs.size f cd).kindOf (ps.zip us) fun _=>none) s1) :
 Inv (Bz CX P w K mg base N qual scope f cd A outer s H E) [] (Bf N vs) H s1:=by
 have hpl:ps.length<=N.length:=by have:=congrArg List.length S.pre;rw [List.length_take] at this;omega
 obtain ⟨h1,tk,rfl,hk⟩:=x.done
 have noA:∀ b:Addr,b∉(Bz CX P w K mg base N qual scope f cd A outer s H E).ex:=fun b z=>absurd (show b∈([]:List Addr) from z) (by simp)
 refine ⟨⟨e0.mod,S.kind,rfl,rfl,Nat.le_refl _,fun y z c h1 h2=>?_,fun y hy=>?_,fun y c _ h=>?_,fun _=>hd,Around.frames_deeper e0.frames,.inr ⟨rfl,rfl⟩,fun b z=>absurd z (noA b),e0.bs,e0.bsz,fun b _ _=>noA b,fun b z=>absurd z (noA b),e0.funs,e0.frf⟩,
  rfl,e0.bare,Un.kept hk,⟨_,x.toInCall.ns,fun i y v h1 h2 h3=>?_⟩,fun y c h=>⟨_,x.cell y c h⟩,e0.hok.fresh (Nat.le_refl _),fun y c h=>?_,fun p hp=>absurd (show p∈([]:List (Addr × Obj)) from hp) (by simp),e0.hok.kept hk,?_⟩
 ·exact name_of_addr x.apart (PySem.mem_of_lookup h1) (PySem.mem_of_lookup h2)
 ·have hy:scope.names.lookup y=some .cell\/scope.names.lookup y=some .free:=hy
  rcases hy with hy | hy
  ·exact Fc hy
  ·exact absurd rfl (S.nofree _ (PySem.mem_of_lookup hy))
 ·exact Nat.le_of_lt (x.above y c (PySem.mem_of_lookup h))
 ·have hi:i < vs.length:=by
   unfold Bf at h2
   by_cases hi:i < vs.length
   ·exact hi
   ·rw [List.getElem?_append_right (by simpa using hi)] at h2
    rw [List.getElem?_replicate] at h2
    split at h2 <;> cases h2
  have ha:vs[i]? = some v:=by
   unfold Bf at h2
   rw [List.getElem?_append_left (by simpa using hi),List.getElem?_map] at h2
   cases e:vs[i]? with
   | none=>rw [e] at h2;cases h2
   | some a=>rw [e] at h2;cases h2;rfl
  obtain ⟨u,hu,rv⟩:=r.get ha
  have hp:ps[i]? = some y:=by
   rw [<- S.pre,List.getElem?_take_of_lt (by omega)];exact h1
  have ndP:ps.Nodup:=by rw [<- S.pre];exact S.nd.sublist (List.take_sublist _ _)
  refine ⟨u,rv,?_⟩
  rcases S.par y (List.mem_of_getElem? hp) with k | k
  ·exact .inl ⟨k,FZ ndP hp hu k⟩
  ·obtain ⟨c,e⟩:=Fc (n:=s.heap.objs.size+1) k
   refine .inr ⟨.inl k,c,e,?_⟩
   have q:=x.cell y c e
   rw [Hg ndP hp hu (by show scope.names.lookup y≠_;rw [k];decide)] at q
   exact q
 ·exact e0.hok.fresh (Nat.le_of_lt (x.above y c (PySem.mem_of_lookup h)))
 ·unfold Bf
  show _=N.length
  rw [List.length_append,List.length_map,List.length_replicate]
  omega
theorem GW {CX:CXT} {P:Program} {w:World} {K:PySem.W.Frag} {mg:Str->Option Value} {base:Heap} {k:Nat} {f:Addr} {name qual:Str} {params:Arguments} {body:List Stmt} {scope:Scope} {dV kV doc pm cdv ct oc:Value} {an od:Option Addr}
 {osl:Array (Option Value)} {N ps:List Str} {sp:Sp} (lk:K.lookup f=some ⟨oc,od,.func (PySem.W.fnOf name qual params body scope dV kV doc pm an cdv ct),osl⟩) (hcd:PySem.W.codeIn K cdv qual=true) (S:FnScope N ps scope)
 (len:∀ vs H Q E,sp vs H Q E->vs.length=ps.length)
 (hbody:∀ (A:Around) (outer:List Env) (s:Shared) (H:Hp) (vs:List V) (Q:VK) (E:XK),Room k (A.deeper (envOfC qual scope s.heap.objs.size f cdv))->sp vs H Q E ->
   ∃ t,PSs (Bz CX P w K mg base N qual scope f cdv A outer s H E) body t/\t { nx:=fun _ H'=>Q .non H',rt:=Q } (Bf N vs) H) :
 FnOk P w K mg base CX (k+1) f (PySem.W.fnOf name qual params body scope dV kV doc pm an cdv ct) ps sp:=by
 refine ⟨len,fun A outer s H args us vs Q E hr e0 hb r hsp=>?_⟩
 have hl:=len _ _ _ _ hsp
 have KX:K.In s.heap:=e0.mod.kin.keeps fun b o e=>(e0.bs b o e).1
 have lim:s.heap.NoLimit:=e0.mod.nolimit.keeps fun b o e=>(e0.bs b o e).1
 have hkind:∀ y∈ps.zip us,scope.names.lookup y.1=some .local\/(scope.names.lookup y.1=some .cell/\((cellsFrom (s.heap.objs.size+1) scope.names []).lookup y.1).isSome=true):=fun ⟨n,v⟩ hy=>by
  rcases S.par n (List.of_mem_zip hy).1 with q | q
  ·exact .inl q
  ·exact .inr ⟨q,PySem.W.cellsFrom_some _ _ _ (.inl q)⟩
 refine codeAny_call_function hr.depth (KX _ _ lk) rfl S.co S.gen rfl (PySem.W.codeRec_of KX hcd) (hb _ _ _ _ ?_)
 refine wpAny_newFunctionEnv_cells S.kind hkind fun env he s1 x=>?_
 subst he
 refine ⟨lim.keeps x.toInCall.keep,codeAny_func ?_⟩
 obtain ⟨t,ht,hq⟩:=hbody A outer s H vs Q E (hr.deeper _) hsp
 have I:Inv (Bz CX P w K mg base N qual scope f cdv A outer s H E) [] (Bf N vs) H s1:=IQ S hr.hd e0 hl r x
 refine wpAny_mono (ht [] s1 (Bf N vs) H _ I hq) (fun fl s' hs=>?_) fun e s' hs=>hs
 have fin:∀ {σ':St} {H':Hp} {v:V} {u:Value},Inv (Bz CX P w K mg base N qual scope f cdv A outer s H E) [] σ' H' s'->RelV v u->Q v H'->CE outer P w H s Q u s' :=
  fun {σ' H' v u} J rv q=>⟨v,H',J.os,J.bare,J.base,J.hok,rv,q⟩
 cases fl with
 | ret u =>
  obtain ⟨v,σ',H',J,rv,q⟩:=hs
  exact fin J rv q
 | next =>
  obtain ⟨σ',H',J,q⟩:=hs
  exact fin (v:=V.non) (u:=Value.none) J rfl q
 | brk =>
  obtain ⟨_,_,_,q⟩:=hs
  exact False.elim q
 | cont =>
  obtain ⟨_,_,_,q⟩:=hs
  exact False.elim q
section
variable {X:Cx} {x:Str} {p pos:Pos} {e:Expr} {es:List Expr} {t:TA} {id T:String} {r:List V->Hp->VK->Prop}
def tCB (r:List V->Hp->VK->Prop) (t:TA):TE:=fun σ H Q=>t σ H fun vs H1=>r vs H1 Q
theorem AX (hc:CallR X (.builtin id) r) (hg:Gl X x) (hm:X.mg x=none) (hv:bootBuiltins x=some (.builtin id)) (ha:PA X (e::es) t) (hn:x ≠ "__name__":=by decide) (hdb:(x == ("__debug__" : Str))=false:=by decide)
 (he:starEach (e::es) X.env=(false,eval e X.env)::starEach es X.env:=by rfl) (hpl:(backTo pos (starEach es X.env)).any (·.1)=false:=by rfl):PE X (.Call (.Name x p) (e::es) [] pos) (tCB r t):=by
 intro pins s σ H Q I h
 refine wpAny_Call_Name_kw (DR I hg hm hv ?_ hn hdb)
 exact PyProof.Rows.callWith_builtin1 (thn (ha pos pins s σ H _ I h) fun us s1 ⟨vs,H1,I1,r1,q1⟩=>hc pins s1 σ H1 vs us Q I1 r1 q1) he hpl
theorem FA (hc:CallR X (.type T) r) (hg:Gl X x) (hm:X.mg x=none) (hv:bootBuiltins x=some (.type T)) (ha:PA X (e::es) t) (hn:x ≠ "__name__":=by decide) (hdb:(x == ("__debug__" : Str))=false:=by decide)
 (he:starEach (e::es) X.env=(false,eval e X.env)::starEach es X.env:=by rfl) (hpl:(backTo pos (starEach es X.env)).any (·.1)=false:=by rfl):PE X (.Call (.Name x p) (e::es) [] pos) (tCB r t):=by
 intro pins s σ H Q I h
 refine wpAny_Call_Name_kw (DR I hg hm hv ?_ hn hdb)
 exact PyProof.Rows.callWith_type1 (thn (ha pos pins s σ H _ I h) fun us s1 ⟨vs,H1,I1,r1,q1⟩=>hc pins s1 σ H1 vs us Q I1 r1 q1) he hpl
end
end L2
namespace HT
open PySem PyProof.Rows
section
open PySem.SeqAt
open PySem.AutoSeq1 (wpAny_loadPart')
open PySem.MeetsSeq PySem.MeetsSeq2 PySem.MeetsSeq3
end
section
variable {prog:Program} {w:World} {A:Around} {E:Value->Shared->Prop} {s:Shared}
theorem cat_tup {t b:Addr} {vs ws:List Value} {Q:Value->Shared->Prop} (ht:IsTup s.heap t vs.toArray) (hb:IsTup s.heap b ws.toArray) (hv:vs≠[])
 (h1:ws=[]->Q (.ref t) s) (h2:ws≠[]->Q (.ref s.heap.objs.size) { s with heap:=s.heap.push { cls:=.type "tuple",data:=.seq (vs++ws).toArray } })
 (hsz:vs.length+ws.length<=sizeLine):wpAny (model prog w) A (binaryOp .Add (.ref t) (.ref b)) Q E s:=by
 obtain ⟨⟨cls,dd,data,sl⟩,ho,hc,n,hd⟩:=id ht
 obtain ⟨⟨cls2,dd2,data2,sl2⟩,ho2,hc2,n2,hd2⟩:=id hb
 simp only at hc hd hc2 hd2
 subst hc hd hc2 hd2
 have e:vs.toArray++ws.toArray=(vs++ws).toArray:=by simp
 by_cases hw:ws=[]
 ·exact concat_meets ⟨_,ho,rfl⟩ ⟨_,ho2,rfl⟩ noFill_tuple_add seq_tuple_add PySem.F.slot_tuple_add PySem.F.entry_tuple_add (PySem.F.args_tuple_add_2 _ _)
   (tuple_addW1 t b vs.toArray ws.toArray n n2 dd dd2 sl sl2 (by simpa using hv) (by simp [hw])) ⟨ho,ho2,h1 hw⟩
 ·refine concat_meets ⟨_,ho,rfl⟩ ⟨_,ho2,rfl⟩ noFill_tuple_add seq_tuple_add PySem.F.slot_tuple_add PySem.F.entry_tuple_add (PySem.F.args_tuple_add_2 _ _)
   (tuple_addW2 t b vs.toArray ws.toArray n n2 dd dd2 sl sl2 (by simpa using hv) (by simpa using hw) (by rw [List.size_toArray,List.size_toArray];exact hsz)) ⟨ho,ho2,?_⟩
  rw [e]
  exact h2 hw
def sIx (n d:Nat):Option Int->Nat
 | none=>d
 | some v=>if v < 0 then (v+(n:Int)).toNat else min v.toNat n
theorem sIx_none (n d:Nat):sIx n d none=d:=rfl
theorem sIx_nat (n d k:Nat):sIx n d (some (k:Int))=min k n:=by
 show (if (k:Int) < 0 then ((k:Int)+(n:Int)).toNat else min (k:Int).toNat n)=min k n
 rw [if_neg (by omega),Int.toNat_natCast]
theorem Ko (n d:Nat) (hd:d<=n) (o:Option Int):sIx n d o<=n:=by
 cases o with
 | none=>exact hd
 | some v =>
  show (if v < 0 then (v+(n:Int)).toNat else min v.toNat n)<=n
  by_cases hv:v < 0
  ·rw [if_pos hv];omega
  ·rw [if_neg hv];exact Nat.min_le_right _ _
theorem GG (v:Int) (n d:Nat):(if v < 0 then max (v+(n:Int)) 0 else min v (n:Int))=((sIx n d (some v):Nat):Int):=by
 show (if v < 0 then max (v+(n:Int)) 0 else min v (n:Int))=(((if v < 0 then (v+(n:Int)).toNat else min v.toNat n):Nat):Int)
 by_cases hv:v < 0
 ·simp only [if_pos hv];omega
 ·simp only [if_neg hv];omega
theorem JD (lo hi:Option Int) (n:Nat):Builtin.Slice.sliceAdjust lo hi 1 (n:Int)=(((sIx n 0 lo:Nat):Int),((sIx n n hi:Nat):Int)):=by
 have h1:¬ ((1:Int) < 0):=by omega
 unfold Builtin.Slice.sliceAdjust
 simp only [h1,if_false]
 refine Prod.ext ?_ ?_
 ·cases lo with
  | none=>rfl
  | some v=>exact GG v n 0
 ·cases hi with
  | none=>rfl
  | some v=>exact GG v n n
theorem Ky (i j:Nat):Builtin.Slice.slicePlaces (i:Int) (j:Int) 1=j - i:=by
 unfold Builtin.Slice.slicePlaces
 have h1:(1:Int) > 0:=by omega
 simp only [h1,if_true,Int.ediv_one]
 split <;> omega
theorem GQ {v:Value} {o:Option Int} {Q:Option Int->Shared->Prop} (p:IsPart v o) (h:Q o s):wpAny (model prog w) A (Builtin.Slice.slicePartIndex v) Q E s:=by
 cases p with
 | none=>exact slicePart_none h
 | int i t=>exact slicePart_int h
theorem Fh {sl:Addr} {vl vu:Value} {lo hi:Option Int} {n:Nat} {Q:Int × Int × Nat->Shared->Prop} (hs:s.heap.IsSliceOf sl vl vu .none) (pl:IsPart vl lo) (pu:IsPart vu hi)
 (h:Q (((sIx n 0 lo:Nat):Int),1,sIx n n hi - sIx n 0 lo) s):wpAny (model prog w) A (Builtin.Slice.sliceApplied (.ref sl) (pure (n:Int))) Q E s:=by
 obtain ⟨os,hos,hcs,hds⟩:=id hs
 unfold Builtin.Slice.sliceApplied Builtin.Slice.sliceFields
 refine wpAny_bind (wpAny_bind (wpAny_field hos hds (x:=vl) rfl (wpAny_bind (wpAny_field hos hds (x:=vu) rfl (wpAny_bind (wpAny_field hos hds (x:=.none) rfl (wpAny_pure ?_)))))))
 refine wpAny_bind (slicePart_none ?_)
 show wpAny _ _ (if ((1:Int) == 0)=true then _ else _) _ _ s
 rw [if_neg (by decide)]
 refine wpAny_bind (GQ pl (wpAny_bind (GQ pu (wpAny_bind (wpAny_pure ?_)))))
 show wpAny _ _ (match Builtin.Slice.sliceAdjust lo hi 1 (n:Int) with | (lo,hi)=>pure (lo,(1:Int),Builtin.Slice.slicePlaces lo hi 1)) _ _ s
 rw [JD lo hi n]
 show wpAny _ _ (pure (((sIx n 0 lo:Nat):Int),(1:Int),Builtin.Slice.slicePlaces ((sIx n 0 lo:Nat):Int) ((sIx n n hi:Nat):Int) 1)) _ _ s
 rw [Ky]
 exact wpAny_pure h
theorem Hs (xs:Array Value) (i k:Nat):((List.range k).filterMap fun (m:Nat)=>xs[((i:Int)+(m:Int) * 1).toNat]?).toArray=((xs.toList.drop i).take k).toArray:=by
 have e:(fun (m:Nat)=>xs[((i:Int)+(m:Int) * 1).toNat]?)=fun m=>xs[i+m]?:=by
  funext m
  have:((i:Int)+(m:Int) * 1).toNat=i+m:=by omega
  rw [this]
 rw [e]
 have:=pick_run xs i k
 rw [List.filterMap_map] at this
 have e2:((fun x=>xs[x]?) ∘ fun x=>i+x)=fun m=>xs[i+m]?:=rfl
 rw [e2] at this
 rw [this]
theorem getItem_tuple_cut {t sl:Addr} {items:Array Value} {vl vu:Value} {lo hi:Option Int} {Q:Value->Shared->Prop} (ht:IsTup s.heap t items) (hs:s.heap.IsSliceOf sl vl vu .none) (pl:IsPart vl lo) (pu:IsPart vu hi)
 (hw:¬ (sIx items.size 0 lo=0/\sIx items.size items.size hi=items.size))
 (h:Q (.ref s.heap.objs.size) { s with heap:=s.heap.push { cls:=.type "tuple",data:=.seq ((items.toList.drop (sIx items.size 0 lo)).take (sIx items.size items.size hi - sIx items.size 0 lo)).toArray } })
 (hsz:items.size<=sizeLine):wpAny (model prog w) A (getItem (.ref t) (.ref sl)) Q E s:=by
 have htake:sizeOk (.seq ((items.toList.drop (sIx items.size 0 lo)).take (sIx items.size items.size hi - sIx items.size 0 lo)).toArray):=by
  show ((items.toList.drop (sIx items.size 0 lo)).take (sIx items.size items.size hi - sIx items.size 0 lo)).toArray.size<=sizeLine
  rw [List.size_toArray,List.length_take,List.length_drop,Array.length_toList]
  omega
 have hj:sIx items.size items.size hi<=items.size:=Ko _ _ (Nat.le_refl _) hi
 obtain ⟨os,hos,hcs,hds⟩:=id hs
 have hTs:s.TypeIs (.ref sl) "slice":=⟨os,hos,hcs⟩
 unfold getItem
 try with_reducible refine wpAny_holding ?_
 first | refine wpAny_bind (wpAny_pure ?_) | skip
 refine wpAny_bind (wpAny_sequenceKey ht.typeIs (by decide) ?_)
 refine wpAny_bind (wpAny_callSpecial?_slot (name:=Str.ofString "__getitem__") ht.typeIs PyProof.Rows.slot_tuple_getitem
  (wpAny_call_entry PyProof.Rows.slot_tuple_getitem ht.typeIs entry_tuple_getitem ?_ (args_tuple_getitem _ _)))
 show wpAny _ _ (Builtin.Tuple.tupleItemsOf (.ref t) >>= _) _ _ s
 refine wpAny_bind (tupleItemsOf_ ht ?_)
 refine wpAny_bind (wpAny_typeOf hTs ?_)
 rw [if_pos (by decide)]
 refine wpAny_bind (Fh hs pl pu ?_)
 have hno:¬ ((((sIx items.size 0 lo:Nat):Int) == 0 && (1:Int) == 1 && (sIx items.size items.size hi - sIx items.size 0 lo) == items.size)=true):=by
  intro q
  rw [Bool.and_eq_true,Bool.and_eq_true] at q
  have q1:((sIx items.size 0 lo:Nat):Int)=0:=eq_of_beq q.1.1
  have q2:sIx items.size items.size hi - sIx items.size 0 lo=items.size:=eq_of_beq q.2
  exact hw ⟨by omega,by omega⟩
 show wpAny _ _ (if (((sIx items.size 0 lo:Nat):Int) == 0 && (1:Int) == 1 && (sIx items.size items.size hi - sIx items.size 0 lo) == items.size)=true then _ else _) _ _ s
 rw [if_neg hno,Hs]
 first
  | exact wpAny_bind (m:=Builtin.Tuple.tupleExact _) (wpAny_newObj_type (wpAny_pure ⟨_,rfl,wpAny_pure h⟩) htake)
  | exact wpAny_bind (m:=Builtin.Tuple.tupleExact _) (wpAny_newObj_type (wpAny_bind (wpAny_pure (wpAny_pure ⟨_,rfl,wpAny_pure h⟩))) htake)
  | exact wpAny_bind (wpAny_bind (m:=Builtin.Tuple.tupleExact _) (wpAny_newObj_type (wpAny_pure (wpAny_pure ⟨_,rfl,wpAny_pure h⟩)) htake))
  | exact wpAny_bind (wpAny_bind (m:=Builtin.Tuple.tupleExact _) (wpAny_newObj_type (wpAny_pure ⟨_,rfl,wpAny_pure h⟩) htake))
end
end HT
namespace L2
open PySem PySem.Spec PyProof.Rows
abbrev TO:=St->Hp->(Option Int->Hp->Prop)->Prop
def PO (X:Cx) (e:Option Expr) (t:TO):Prop :=
 ∀ (pins:List (Addr × Obj)) (s:Shared) (σ:St) (H:Hp) (Q:Option Int->Hp->Prop),Inv X pins σ H s->t σ H Q ->
  wpAny (model X.prog X.w) X.A (evalPart e X.env) (fun u s'=>∃ o H',Inv X pins σ H' s'/\IsPart u o/\Q o H') X.xe s
def Gk:TO:=fun _ H Q=>Q none H
def Ha (t:TE):TO:=fun σ H Q=>t σ H fun x H1=>∃ i,x=.int i/\Q (some i) H1
theorem Km {ns:List Int}:∀ {us:List Value},Vals (ns.map V.int) us->IntsAre us ns:=by
 induction ns with
 | nil=>intro us r;rw [List.map_nil] at r;cases r;exact .nil
 | cons n ns ih =>
  intro us r
  rw [List.map_cons] at r
  cases r with
  | cons r1 r2 =>
   obtain ⟨t,e⟩:=r1
   subst e
   exact .cons n t (ih r2)
section
variable {X:Cx} {e:Expr} {te:TE} {lo hi:Option Expr} {tl th:TO} {pos p2:Pos}
theorem Bn:PO X none Gk:=by
 intro pins s σ H Q I h
 rw [evalPart_none]
 exact wpAny_pure ⟨none,H,I,.none,h⟩
theorem Bk (h:PE X e te):PO X (some e) (Ha te):=by
 intro pins s σ H Q I hw
 rw [evalPart_some]
 refine thn (h pins s σ H _ I hw) fun u s1 ⟨x,H1,I1,r1,q1⟩=>?_
 obtain ⟨i,rfl,q⟩:=q1
 obtain ⟨t,rfl⟩:=r1
 exact ⟨some i,H1,I1,.int i t,q⟩
def SlR (X:Cx) (r:V->Option Int->Option Int->Hp->VK->Prop):Prop :=
 ∀ (pins:List (Addr × Obj)) (s:Shared) (σ:St) (H:Hp) (x:V) (v vl vu:Value) (lo hi:Option Int) (sl:Addr) (Q:VK),Inv X pins σ H s->RelV x v->s.heap.IsSliceOf sl vl vu .none->IsPart vl lo->IsPart vu hi->r x lo hi H Q ->
  ∃ T id,typeLookup (.type T) "__getitem__" = pure (some (.builtin id))/\s.TypeIs v T/\wpAny (model X.prog X.w) X.A (getItem v (.ref sl)) (EP X pins σ Q) X.xe s
def tSl (r:V->Option Int->Option Int->Hp->VK->Prop) (te:TE) (tl th:TO):TE:=fun σ H Q=>te σ H fun x H1=>tl σ H1 fun l H2=>th σ H2 fun u H3=>r x l u H3 Q
theorem Fk {r:V->Option Int->Option Int->Hp->VK->Prop} (hr:SlR X r) (he:PE X e te) (hl:PO X lo tl) (hu:PO X hi th):PE X (.Subscript e (.Slice lo hi none p2) pos) (tSl r te tl th):=by
 intro pins s σ H Q I h
 refine Subscript_ (thn (he pins s σ H _ I h) fun v s1 ⟨x,H1,I1,r1,q1⟩=>?_)
 refine wpAny_Slice (thn (hl pins s1 σ H1 _ I1 q1) fun vl s2 ⟨l,H2,I2,pl,q2⟩=>thn (hu pins s2 σ H2 _ I2 q2) fun vu s3 ⟨u,H3,I3,pu,q3⟩=>?_)
 rw [evalPart_none]
 refine wpAny_pure ?_
 have I4:Inv X pins σ H3 { s3 with heap:=s3.heap.push { cls:=.type "slice",data:=.fields #[vl,vu,.none] } }:=I3.kept (t':=s3.toks) fun b ob q=>Heap.get?_push_of_some _ q
 obtain ⟨T,id,hT,ht,hg⟩:=hr pins { s3 with heap:=s3.heap.push { cls:=.type "slice",data:=.fields #[vl,vu,.none] } } σ H3 x v vl vu l u s3.heap.objs.size Q I4 r1 (Heap.IsSliceOf.new ..) pl pu q3
 show wpAny (model X.prog X.w) X.A (subscriptTail e (.Slice lo hi none p2) v (.ref s3.heap.objs.size)) (EP X pins σ Q) X.xe { s3 with heap:=s3.heap.push { cls:=.type "slice",data:=.fields #[vl,vu,.none] } }
 exact tail_any (ops:=[.ref s3.heap.objs.size,v]) ht hT hg (by with_unfolding_all rfl)
def Ap (xs:List V) (lo hi:Option Int):List V:=(xs.drop (HT.sIx xs.length 0 lo)).take (HT.sIx xs.length xs.length hi - HT.sIx xs.length 0 lo)
theorem FJ (xs:List V) (lo hi:Option Int):(Ap xs lo hi).length<=xs.length:=by
 unfold Ap
 rw [List.length_take,List.length_drop]
 omega
def J3 (K:PySem.W.Frag):V->Option Int->Option Int->Hp->VK->Prop:=fun x lo hi H Q=>∃ a xs,x=.ref a/\SqT K H a xs /\
 ¬ (HT.sIx xs.length 0 lo=0/\HT.sIx xs.length xs.length hi=xs.length)/\∀ p,H p=none->Q (.ref p) (upd H p (.tup (Ap xs lo hi)))
theorem FI:SlR X (J3 X.K):=by
 intro pins s σ H x v vl vu lo hi sl Q I rx hs pl pu h
 obtain ⟨a,xs,rfl,hx,hw,q⟩:=h
 cases rx
 obtain ⟨its,r,ht,hz⟩:=I.tuple hx
 have hlen:its.toArray.size=xs.length:=by rw [List.size_toArray];exact r.length.symm
 refine ⟨"tuple",_,PyProof.Rows.slot_tuple_getitem.lookup,ht.typeIs,?_⟩
 refine HT.getItem_tuple_cut ht hs pl pu (by rw [hlen];exact hw) ?_ (by rw [hlen];exact hz)
 rw [hlen]
 refine ⟨.ref s.heap.objs.size,_,I.laid (t':=s.toks) (o:=.tup (Ap xs lo hi)) (fun b ob q=>Heap.get?_push_of_some _ q) (Nat.le_refl _) ?_,rfl,q _ (I.hok.fresh (Nat.le_refl _))⟩
 exact ⟨Nat.le_trans (FJ xs lo hi) hz,_,(r.drop (HT.sIx xs.length 0 lo)).take (HT.sIx xs.length xs.length hi - HT.sIx xs.length 0 lo),IsTupN.new _ _⟩
def FT (K:PySem.W.Frag):R2:=fun x y H Q=>∃ a b xs ys,x=.ref a/\y=.ref b/\SqT K H a xs/\SqT K H b ys/\xs≠[]/\xs.length+ys.length<=sizeLine /\
 (ys=[]->Q (.ref a) H)/\(ys≠[]->∀ p,H p=none->Q (.ref p) (upd H p (.tup (xs++ys))))
theorem Vals.nil_iff {xs:List V} {us:List Value} (r:Vals xs us):us=[] ↔ xs=[]:=by
 cases r with
 | nil=>simp
 | cons _ _=>simp
theorem Ho:OpR X (binaryOp .Add) (FT X.K):=by
 intro pins s σ H x y v u Q I rx ry h
 obtain ⟨a,b,xs,ys,rfl,rfl,ha,hb,hx,hz,q1,q2⟩:=h
 cases rx
 cases ry
 obtain ⟨its,r1,p1,_⟩:=I.tuple ha
 obtain ⟨its2,r2,p2,_⟩:=I.tuple hb
 refine HT.cat_tup p1 p2 (fun z=>hx (r1.nil_iff.mp z)) (fun z=>⟨.ref a,H,I,rfl,q1 (r2.nil_iff.mp z)⟩) (fun z=>?_) (by rw [<- r1.length,<- r2.length];exact hz)
 refine ⟨.ref s.heap.objs.size,_,I.laid (t':=s.toks) (o:=.tup (xs++ys)) (fun b ob q=>Heap.get?_push_of_some _ q) (Nat.le_refl _) ?_,rfl,q2 (fun w=>z (r2.nil_iff.mpr w)) _ (I.hok.fresh (Nat.le_refl _))⟩
 exact ⟨by rw [List.length_append];exact hz,_,r1.append r2,IsTupN.new _ _⟩
end
def ixN (n:Nat) (i:Int):Option Nat:=if 0<=i then (if i < n then some i.toNat else none) else if -(n:Int)<=i then some (i+n).toNat else none
def atI {α:Type} (xs:List α) (i:Int):Option α:=(ixN xs.length i).bind fun j=>xs[j]?
theorem GZ {n:Nat} {i:Int} {j:Nat} (h:ixN n i=some j):seqIndex? i n=some j/\j < n /\ -(n:Int)<=i/\i < n:=by
 unfold ixN at h
 by_cases h0:0<=i
 ·rw [if_pos h0] at h
  by_cases h1:i < n
  ·rw [if_pos h1] at h
   have e:i.toNat=j:=Option.some.inj h
   exact ⟨by rw [seqIndex_of h0 h1,e],by omega,by omega,h1⟩
  ·rw [if_neg h1] at h;cases h
 ·rw [if_neg h0] at h
  by_cases h1 : -(n:Int)<=i
  ·rw [if_pos h1] at h
   have e:(i+n).toNat=j:=Option.some.inj h
   exact ⟨by rw [seqIndex_neg (by omega) h1,e],by omega,h1,by omega⟩
  ·rw [if_neg h1] at h;cases h
theorem D6 {α:Type} {xs:List α} {i:Int} {v:α} (h:atI xs i=some v):∃ j,seqIndex? i xs.length=some j/\xs[j]? = some v/\j < xs.length /\ -(xs.length:Int)<=i/\i < xs.length:=by
 unfold atI at h
 cases e:ixN xs.length i with
 | none=>rw [e] at h;cases h
 | some j =>
  rw [e] at h
  obtain ⟨h1,h2,h3,h4⟩:=GZ e
  exact ⟨j,h1,h,h2,h3,h4⟩
def E2 (b:Expr):Prop:=∀ o i,subscripted b false o i=operate [o,i] (getItem o i)
def IxR (X:Cx) (r:R2):Prop :=
 ∀ (value slice:Expr) (pins:List (Addr × Obj)) (s:Shared) (σ:St) (H:Hp) (x y:V) (v u:Value) (Q:VK),Inv X pins σ H s->RelV x v->RelV y u->r x y H Q ->
  subscripted slice false v u=operate [v,u] (getItem v u)->wpAny (model X.prog X.w) X.A (subscriptTail value slice v u) (EP X pins σ Q) X.xe s
def MtR (X:Cx) (id:String) (r:V->List V->Hp->VK->Prop):Prop :=
 ∀ (pins:List (Addr × Obj)) (s:Shared) (σ:St) (H:Hp) (x:V) (xs:List V) (v:Value) (us:List Value) (Q:VK),Inv X pins σ H s->RelV x v->Vals xs us->r x xs H Q ->
  wpAny (model X.prog X.w) X.A (call (.builtin id) (v::us)) (EP X pins σ Q) X.xe s
section
variable {X:Cx} {a b:Expr} {ta tb:TE} {pos:Pos}
theorem IxR.or {r r':R2} (h:IxR X r) (h':IxR X r'):IxR X (fun x y H Q=>r x y H Q\/r' x y H Q):=by
 intro value slice pins s σ H x y v u Q I rx ry q hs
 rcases q with q | q
 ·exact h value slice pins s σ H x y v u Q I rx ry q hs
 ·exact h' value slice pins s σ H x y v u Q I rx ry q hs
theorem Js {r:R2} (hr:IxR X r) (ha:PE X a ta) (hb:PE X b tb) (hs:E2 b):PE X (.Subscript a b pos) (tOp r ta tb):=by
 intro pins s σ H Q I h
 exact Subscript_ (Ei ha hb I h fun v u s2 x y H2 I2 rx ry q=>hr a b pins s2 σ H2 x y v u Q I2 rx ry q (hs _ _))
def Fq (K:PySem.W.Frag):R2:=fun x y H Q=>∃ p xs i v,x=.ref p/\y=.int i/\SqL K H p xs/\atI xs i=some v/\Q v H
def Fi (K:PySem.W.Frag):R2:=fun x y H Q=>∃ p xs i v,x=.ref p/\y=.int i/\SqT K H p xs/\atI xs i=some v/\Q v H
def Gp:R2:=fun x y H Q=>∃ z i c,x=.str z/\y=.int i/\z.length<=sizeLine/\atI z.cps.toList i=some c/\Q (.str ⟨#[c]⟩) H
theorem ix_list:IxR X (Fq X.K):=by
 intro value slice pins s σ H x y v u Q I rx ry h hs
 obtain ⟨p,xs,i,z,rfl,rfl,hq,he,q⟩:=h
 cases rx
 obtain ⟨t,rfl⟩:=ry
 obtain ⟨its,r,pl,hz⟩:=I.list hq
 obtain ⟨j,h1,h2,h3,h4,h5⟩:=D6 he
 obtain ⟨w,ew,rw'⟩:=r.get h2
 have hl:=r.length
 have hn:=DD
 have fin:EP X pins σ Q w s:=⟨z,H,I,rw',q⟩
 by_cases h0:0<=i
 ·have hj:i.toNat=j:=by
   rw [seqIndex_of h0 h5] at h1
   exact Option.some.inj h1
  exact item_listR pl.isList h0 (by omega) (by rw [hj];simpa using ew) fin hs
 ·have hj:(i+(its.toArray.size:Int)).toNat=j:=by
   rw [seqIndex_neg (by omega) h4] at h1
   rw [List.size_toArray,<- hl]
   exact Option.some.inj h1
  exact subscriptTail_builtinR (x:=w) pl.isList.typeIs slot_list_getitem.lookup
   (wpAny_getItem_list_neg (Q:=fun r s'=>r=w/\EP X pins σ Q r s') pl.isList (by omega) (by rw [List.size_toArray] <;> omega) (by omega) (by rw [hj];simpa using ew) ⟨rfl,fin⟩) hs
theorem ix_tup:IxR X (Fi X.K):=by
 intro value slice pins s σ H x y v u Q I rx ry h hs
 obtain ⟨p,xs,i,z,rfl,rfl,hq,he,q⟩:=h
 cases rx
 obtain ⟨t,rfl⟩:=ry
 obtain ⟨its,r,pl,hz⟩:=I.tuple hq
 obtain ⟨j,h1,h2,h3,h4,h5⟩:=D6 he
 obtain ⟨w,ew,rw'⟩:=r.get h2
 have hl:=r.length
 have hn:=DD
 have fin:EP X pins σ Q w s:=⟨z,H,I,rw',q⟩
 exact subscriptTail_builtinR (x:=w) pl.typeIs slot_tuple_getitem.lookup
  (getItem_tuple (j:=j) (Q:=fun r s'=>r=w/\EP X pins σ Q r s') pl (by omega) (by omega) (by rw [List.size_toArray,<- hl];exact h1) (by simpa using ew) ⟨rfl,fin⟩) hs
theorem JC:IxR X Gp:=by
 intro value slice pins s σ H x y v u Q I rx ry h hs
 obtain ⟨z,i,c,rfl,rfl,hz,he,q⟩:=h
 obtain ⟨t,rfl⟩:=rx
 obtain ⟨t',rfl⟩:=ry
 obtain ⟨j,h1,h2,h3,h4,h5⟩:=D6 he
 have hl:z.cps.toList.length=z.length:=by simp [Str.length]
 rw [hl] at h1 h4 h5
 have hn:=DD
 exact tail_any (typeIs_str s z t) slot_str_getitem.lookup (getItem_str (c:=c) (by
  have e1:decide (i < -(2 ^ 63:Int))=false:=decide_eq_false (by omega)
  have e2:decide (i ≥ 2 ^ 63)=false:=decide_eq_false (by omega)
  rw [e1,e2,Bool.or_false]) (by rw [h1];simpa using h2) ⟨.str ⟨#[c]⟩,H,I.tok _,⟨_,rfl⟩,q⟩) hs
def rIx (K:PySem.W.Frag):R2:=fun x y H Q=>Fq K x y H Q\/Fi K x y H Q\/Gp x y H Q
theorem ix_seq:IxR X (rIx X.K):=ix_list.or (ix_tup.or JC)
theorem Jk (its:List Value) (n j:Nat) (u:Value):Obj.mapSeq (·.setIfInBounds j u) { cls:=.type "list",data:=.seq its.toArray n } = { cls:=.type "list",data:=.seq (its.set j u).toArray n }:=by
 simp [Obj.mapSeq]
theorem Inv.lst {pins:List (Addr × Obj)} {σ:St} {H:Hp} {s:Shared} {p:Addr} {xs:List V} (I:Inv X pins σ H s) (h:H p=some (.lst xs)) :
 ∃ (its:List Value) (n:Nat),Vals xs its/\s.heap.get? p=some { cls:=.type "list",data:=.seq its.toArray n } /\ xs.length<=sizeLine:=by
 obtain ⟨z,its,n,r,e⟩:=I.hok p _ h
 exact ⟨its,n,r,e,z⟩
theorem Inv.lstUpd {pins:List (Addr × Obj)} {σ:St} {H:Hp} {s:Shared} {p:Addr} {xs ys:List V} {its its':List Value} {n n':Nat} {f:Obj->Obj} (I:Inv X pins σ H s) (h:H p=some (.lst xs))
 (ho:s.heap.get? p=some { cls:=.type "list",data:=.seq its.toArray n }) (hf:f { cls:=.type "list",data:=.seq its.toArray n } = { cls:=.type "list",data:=.seq its'.toArray n' }) (r:Vals ys its') (hz:ys.length<=sizeLine) (t:Nat) :
 Inv X pins σ (upd H p (.lst ys)) { s with heap:=s.heap.update p f,toks:=t }:=by
 have e:(s.heap.update p f).get? p=some { cls:=.type "list",data:=.seq its'.toArray n' }:=by
  rw [Heap.get?_update_self f ho (by rw [hf] <;> rfl),hf]
 refine I.write (x:=p) (e:=p) (by rw [h];trivial) (.inl rfl) (fun b u hb q=>(Heap.get?_update_other _ _ (Ne.symm hb)).trans q) ⟨_,e⟩ ?_
 exact ⟨hz,its',n',r,e⟩
def JQ:V->V->V->Hp->(Hp->Prop)->Prop:=fun o i v H Q=>∃ p xs k j,o=.ref p/\i=.int k/\H p=some (.lst xs)/\ixN xs.length k=some j/\Q (upd H p (.lst (xs.set j v)))
theorem Ij:ET X JQ:=by
 intro pins s σ H o i v ov iv u Q I ro ri rv h
 obtain ⟨p,xs,k,j,rfl,rfl,hp,hj,q⟩:=h
 cases ro
 obtain ⟨t,rfl⟩:=ri
 obtain ⟨its,n,r,ho,hz⟩:=I.lst hp
 obtain ⟨h1,h2,h3,h4⟩:=GZ hj
 have hl:=r.length
 have hn:=DD
 have I':Inv X pins σ (upd H p (.lst (xs.set j v))) { s with heap:=s.heap.update p (Obj.mapSeq (·.setIfInBounds j u)) } :=
  I.lstUpd hp ho (Jk its n j u) (r.set rv j) (by rw [List.length_set];exact hz) s.toks
 by_cases h0:0<=k
 ·have hk:k.toNat=j:=by
   rw [seqIndex_of h0 h4] at h1
   exact Option.some.inj h1
  exact PySem.W.ki_setAt ho h0 (by omega) (by rw [List.size_toArray,<- hl];exact h4) (by rw [hk];exact ⟨_,I',q⟩)
 ·have hk:(k+(its.toArray.size:Int)).toNat=j:=by
   rw [seqIndex_neg (by omega) h3] at h1
   rw [List.size_toArray,<- hl]
   exact Option.some.inj h1
  exact PySem.W.ki_setBack ho (by omega) (by rw [List.size_toArray,<- hl];exact h3) (by omega) (by rw [hk];exact ⟨_,I',q⟩)
theorem Lz (lo hi:Option Int) (n:Nat):(sliceBounds lo hi none n).1=((HT.sIx n 0 lo:Nat):Int)/\(sliceBounds lo hi none n).2.1=((HT.sIx n n hi:Nat):Int)/\(sliceBounds lo hi none n).2.2=1:=by
 refine ⟨?_,?_,rfl⟩
 ·cases lo with
  | none=>simp [sliceBounds,HT.sIx]
  | some i =>
   simp only [sliceBounds,HT.sIx,Option.getD_none,show (1:Int) > 0 by decide,if_true]
   by_cases h:i < 0
   ·simp only [h,if_true] <;> omega
   ·simp only [h,if_false] <;> omega
 ·cases hi with
  | none=>simp [sliceBounds,HT.sIx]
  | some i =>
   simp only [sliceBounds,HT.sIx,Option.getD_none,show (1:Int) > 0 by decide,if_true]
   by_cases h:i < 0
   ·simp only [h,if_true] <;> omega
   ·simp only [h,if_false] <;> omega
theorem Lp (its:List Value) (lo hi:Option Int):slicePick its.toArray lo hi none=((its.drop (HT.sIx its.length 0 lo)).take (HT.sIx its.length its.length hi - HT.sIx its.length 0 lo)).toArray:=by
 obtain ⟨h1,h2,h3⟩:=Lz lo hi its.toArray.size
 unfold slicePick
 rw [h1,h2,h3]
 simp only [sliceRange_one,pick_run,List.size_toArray] <;> rfl
def MR (K:PySem.W.Frag):V->Option Int->Option Int->Hp->VK->Prop:=fun x lo hi H Q=>∃ a xs,x=.ref a/\SqL K H a xs/\∀ p,H p=none->Q (.ref p) (upd H p (.lst (Ap xs lo hi)))
theorem JH:SlR X (MR X.K):=by
 intro pins s σ H x v vl vu lo hi sl Q I rx hs pl pu h
 obtain ⟨a,xs,rfl,hx,q⟩:=h
 cases rx
 obtain ⟨its,r,ht,hz⟩:=I.list hx
 have hlen:=r.length
 refine ⟨"list",_,slot_list_getitem.lookup,ht.isList.typeIs,?_⟩
 refine wpAny_getItem_list_slice ht.isList hs pl pu .none (by simp) ?_ (by rw [List.size_toArray] <;> omega)
 rw [Lp,<- hlen]
 refine ⟨.ref s.heap.objs.size,_,I.laid (t':=s.toks) (o:=.lst (Ap xs lo hi)) (fun b ob q=>Heap.get?_push_of_some _ q) (Nat.le_refl _) ?_,rfl,q _ (I.hok.fresh (Nat.le_refl _))⟩
 exact ⟨Nat.le_trans (FJ xs lo hi) hz,_,0,(r.drop (HT.sIx xs.length 0 lo)).take (HT.sIx xs.length xs.length hi - HT.sIx xs.length 0 lo),Heap.get?_push_size _ rfl⟩
def BP:V->Bool
 | .non=>true
 | .bl _=>true
 | .int _=>true
 | .str _=>true
 | _=>false
def eqV:V->V->Bool
 | .non,.non=>true
 | .bl a,.bl b=>a == b
 | .bl a,.int b=>(if a then 1 else 0) == b
 | .int a,.bl b=>a == (if b then 1 else 0)
 | .int a,.int b=>a == b
 | .str a,.str b=>a == b
 | _,_=>false
theorem Jt {A:Around} {s:Shared} {y x:V} {u v:Value} (ry:RelV y u) (rx:RelV x v) (fy:BP y=true) (fx:BP x=true):SeqAt.EqAt A s u v (eqV y x):=by
 cases y with
 | non =>
  cases ry
  cases x with
  | non=>cases rx;exact SeqAt.EqAt.same _
  | bl b=>cases rx;exact SeqAt.EqAt.none_bool b
  | int b=>obtain ⟨t,rfl⟩:=rx;exact SeqAt.EqAt.none_int b t
  | str b=>obtain ⟨t,rfl⟩:=rx;exact SeqAt.EqAt.none_str b t
  | _=>exact absurd (show false=true from fx) Bool.false_ne_true
 | bl a =>
  cases ry
  cases x with
  | non=>cases rx;exact SeqAt.EqAt.bool_none a
  | bl b=>cases rx;exact SeqAt.EqAt.bool_bool a b
  | int b=>obtain ⟨t,rfl⟩:=rx;exact SeqAt.EqAt.bool_int a b t
  | str b=>obtain ⟨t,rfl⟩:=rx;exact SeqAt.EqAt.bool_str a b t
  | _=>exact absurd (show false=true from fx) Bool.false_ne_true
 | int a =>
  obtain ⟨t',rfl⟩:=ry
  cases x with
  | non=>cases rx;exact SeqAt.EqAt.int_none a t'
  | bl b=>cases rx;exact SeqAt.EqAt.int_bool a t' b
  | int b=>obtain ⟨t,rfl⟩:=rx;exact SeqAt.EqAt.int_int a t' b t
  | str b=>obtain ⟨t,rfl⟩:=rx;exact SeqAt.EqAt.int_str a t' b t
  | _=>exact absurd (show false=true from fx) Bool.false_ne_true
 | str a =>
  obtain ⟨t',rfl⟩:=ry
  cases x with
  | non=>cases rx;exact SeqAt.EqAt.str_none a t'
  | bl b=>cases rx;exact SeqAt.EqAt.str_bool a t' b
  | int b=>obtain ⟨t,rfl⟩:=rx;exact SeqAt.EqAt.str_int a t' b t
  | str b=>obtain ⟨t,rfl⟩:=rx;exact SeqAt.EqAt.str_str a t' b t
  | _=>exact absurd (show false=true from fx) Bool.false_ne_true
 | _=>exact absurd (show false=true from fy) Bool.false_ne_true
def eqU (x:V) (u:Value):Bool:=match u with
 | .none=>eqV .non x
 | .bool b=>eqV (.bl b) x
 | .int i _=>eqV (.int i) x
 | .str z _=>eqV (.str z) x
 | _=>false
theorem Fd {x y:V} {u:Value} (r:RelV y u) (f:BP y=true):eqU x u=eqV y x:=by
 cases y with
 | non=>cases r;rfl
 | bl b=>cases r;rfl
 | int i=>obtain ⟨t,rfl⟩:=r;rfl
 | str z=>obtain ⟨t,rfl⟩:=r;rfl
 | _=>exact absurd (show false=true from f) Bool.false_ne_true
theorem EK {x:V}:∀ {xs:List V} {us:List Value},Vals xs us->xs.all BP=true->us.any (eqU x)=xs.any fun y=>eqV y x
 | _,_,.nil,_=>rfl
 | y::xs,u::us,.cons r t,f=>by
  rw [List.all_cons,Bool.and_eq_true] at f
  rw [List.any_cons,List.any_cons,Fd r f.1,EK t f.2]
theorem ER {A:Around} {s:Shared} {x:V} {v:Value} (rx:RelV x v) (fx:BP x=true):∀ {xs:List V} {us:List Value},Vals xs us->xs.all BP=true->∀ u∈us,SeqAt.EqAt A s u v (eqU x u)
 | _,_,.nil,_=>fun u hu=>by cases hu
 | y::xs,u::us,.cons r t,f=>fun u' hu=>by
  rw [List.all_cons,Bool.and_eq_true] at f
  rcases List.mem_cons.mp hu with rfl | hu
  ·rw [Fd r f.1];exact Jt r rx f.1 fx
  ·exact ER rx fx t f.2 u' hu
def inV (x:V) (xs:List V):Bool:=xs.any fun y=>eqV y x
def rIn (K:PySem.W.Frag) (neg:Bool):R2:=fun x y H Q=>∃ p xs,y=.ref p/\(SqL K H p xs\/SqT K H p xs)/\BP x=true/\xs.all BP=true/\Q (.bl (if neg then !inV x xs else inV x xs)) H
theorem IH:OpR X (compareOp .In) (rIn X.K false):=by
 intro pins s σ H x y v u Q I rx ry h
 obtain ⟨p,xs,rfl,hq,fx,fs,q⟩:=h
 cases ry
 rcases hq with hq | hq
 ·obtain ⟨its,r,pl,hz⟩:=I.list hq
  refine SeqAt.in_listAt (eqU x) pl.isList (fun w hw=>ER rx fx r fs w (by simpa using hw)) ⟨.bl _,H,I,rfl,?_⟩
  rw [show its.toArray.any (eqU x)=its.any (eqU x) by simp,EK r fs]
  exact q
 ·obtain ⟨its,r,pl,hz⟩:=I.tuple hq
  refine SeqAt.in_tupleAt (eqU x) pl (fun w hw=>ER rx fx r fs w (by simpa using hw)) ⟨.bl _,H,I,rfl,?_⟩
  rw [show its.toArray.any (eqU x)=its.any (eqU x) by simp,EK r fs]
  exact q
theorem call_tuple_of:CallR X (.type "tuple") (fun xs H Q=>∃ p ys,xs=[.ref p]/\((SqL X.K H p ys/\∀ l,H l=none->Q (.ref l) (upd H l (.tup ys)))\/(SqT X.K H p ys/\Q (.ref p) H))):=by
 intro pins s σ H xs us Q I r h
 obtain ⟨p,ys,rfl,h⟩:=h
 obtain ⟨u,rfl,rx⟩:=Bj r
 cases rx
 rcases h with ⟨hq,q⟩ | ⟨hq,q⟩
 ·obtain ⟨its,r',pl,hz⟩:=I.list hq
  have hlen:=r'.length
  refine call_tuple_list pl.isList (fun h' kp=>?_) (by simp only [List.size_toArray] <;> omega)
  have I1:Inv X pins σ H { s with heap:=h' }:=I.kept (t':=s.toks) kp
  have I2:Inv X pins σ (upd H h'.objs.size (.tup ys)) { s with heap:=h'.push { cls:=.type "tuple",data:=.seq its.toArray } } :=
   I1.laid (t':=s.toks) (fun b o e=>Heap.get?_push_of_some _ e) (Nat.le_refl _) (show ObjOk X.prog X.w _ _ _ (.tup ys) from ⟨hz,its,r',IsTupN.new _ _⟩)
  exact ⟨.ref h'.objs.size,_,I2,rfl,q _ (I1.hok.fresh (Nat.le_refl _))⟩
 ·obtain ⟨its,r',pl,hz⟩:=I.tuple hq
  exact call_tuple_same pl ⟨.ref p,H,I,rfl,q⟩
def tyV (K:PySem.W.Frag) (T:String) (x:V) (H:Hp):Prop:=match x with
 | .str _=>T = "str"
 | .int _=>T = "int"
 | .ref p=>(T = "list" /\ ∃ xs,SqL K H p xs)\/(T = "tuple" /\ ∃ o,K.lookup p=some o/\o.cls=.type "tuple" /\ o.dict=none) \/
  (T = "dict" /\ ((∃ kvs,H p=some (.dK kvs))\/∃ kvs,H p=some (.dT kvs)))\/(T = "set" /\ ∃ S n,H p=some (.set S n))
 | _=>False
theorem Lc {pins:List (Addr × Obj)} {σ:St} {H:Hp} {s:Shared} {T:String} {x:V} {v:Value} (I:Inv X pins σ H s) (r:RelV x v) (ty:tyV X.K T x H) :
 s.TypeIs v T/\∀ a,v=.ref a->∃ ob,s.heap.get? a=some ob/\ob.dict=none:=by
 cases x with
 | str z =>
  obtain ⟨t,rfl⟩:=r
  cases (show T = "str" from ty)
  exact ⟨typeIs_str s z t,fun _ e=>nomatch e⟩
 | int i =>
  obtain ⟨t,rfl⟩:=r
  cases (show T = "int" from ty)
  exact ⟨typeIs_int s i t,fun _ e=>nomatch e⟩
 | ref p =>
  cases r
  rcases ty with ⟨rfl,xs,hq⟩ | ⟨rfl,o,hk,hc,hd⟩ | ⟨rfl,hk⟩ | ⟨rfl,S,n,hk⟩
  ·obtain ⟨its,_,pl,_⟩:=I.list hq
   refine ⟨pl.isList.typeIs,fun a e=>?_⟩
   cases e
   obtain ⟨o,n,e,c,hd,_⟩:=pl
   exact ⟨o,e,hd⟩
  ·refine ⟨⟨o,I.kIn p o hk,hc⟩,fun a e=>?_⟩
   cases e
   exact ⟨o,I.kIn _ o hk,hd⟩
  ·have z:∃ o,s.heap.get? p=some o/\o.ExactDict:=by
    rcases hk with ⟨kvs,hk⟩ | ⟨kvs,hk⟩
    ·obtain ⟨_,_,_,_,o,_,_,e,ex,_⟩:=I.hok p _ hk
     exact ⟨o,e,ex⟩
    ·obtain ⟨_,_,_,_,o,_,_,e,ex,_⟩:=I.hok p _ hk
     exact ⟨o,e,ex⟩
   obtain ⟨o,e,ex⟩:=z
   refine ⟨⟨o,e,ex.1⟩,fun a e2=>?_⟩
   cases e2
   exact ⟨o,e,ex.2.1⟩
  ·obtain ⟨o,_,_,_,e,ex,_⟩:=I.hok p _ hk
   refine ⟨⟨o,e,ex.1⟩,fun a e2=>?_⟩
   cases e2
   exact ⟨o,e,ex.2.1⟩
 | _=>exact False.elim ty
def tBM (K:PySem.W.Frag) (T:String) (r:V->List V->Hp->VK->Prop) (to:TE) (t:TA):TE:=fun σ H Q=>to σ H fun x H1=>tyV K T x H1/\t σ H1 fun xs H2=>r x xs H2 Q
variable {o e:Expr} {es:List Expr} {to:TE} {t:TA} {name:Str} {apos cpos:Pos} {T id:String} {r:V->List V->Hp->VK->Prop}
theorem Li (pa:PlainAttrs T) (slot:Slot T name id) (hty:typeOf (.builtin id)=pure (.type "method_descriptor")) (hm:MtR X id r) (ho:PE X o to) (ha:PA X (e::es) t)
 (hbase:attributeBase o name X.env (eval o X.env)=eval o X.env:=by rfl)
 (hfew:((backTo cpos (starEach (e::es) X.env)).all (fun x=>!x.1) && (backToKw cpos (keywordEach [] X.env)).all (fun x=>x.1.isSome)
   && decide ((e::es).length+([]:List Keyword).length+(if ([]:List Keyword).isEmpty then 0 else 1) < 30))=true:=by rfl)
 (hline:(apos.endLine == cpos.line)=true:=by rfl) (hs:starEach (e::es) X.env=(false,eval e X.env)::starEach es X.env:=by rfl) (hplain:(backTo cpos (starEach es X.env)).any (·.1)=false:=by rfl) :
 PE X (.Call (.Attribute o name apos) (e::es) [] cpos) (tBM X.K T r to t):=by
 intro pins s σ H Q I h
 refine wpAny_Call_method_late hbase hfew hline rfl (thn (ho pins s σ H _ I h) fun v s1 ⟨x,H1,I1,r1,ty,q1⟩=>?_)
 obtain ⟨h1,h2⟩:=Lc I1 r1 ty
 refine ⟨T,id,pa,slot,hty,h1,h2,?_⟩
 have hA:=ha cpos pins s1 σ H1 _ I1 q1
 rw [hs] at hA ⊢
 refine Calls.callWith_builtin (by show (false || (backTo cpos (starEach es X.env)).any (·.1))=false;rw [hplain] <;> rfl) (Calls.evalArgs_plain ?_)
 exact thn hA fun us s2 ⟨vs,H2,I2,r2,q2⟩=>hm pins s2 σ H2 x vs v us Q I2 r1 r2 q2
end
theorem Vals.zero:∀ {us:List Value},Vals [] us->us=[]
 | _,.nil=>rfl
theorem Vals.rep {xs:List V} {us:List Value} (h:Vals xs us):∀ k:Nat,Vals (List.replicate k xs).flatten (List.replicate k us).flatten
 | 0=>.nil
 | k+1=>by
  rw [List.replicate_succ,List.replicate_succ,List.flatten_cons,List.flatten_cons]
  exact Vals.append h (Vals.rep h k)
theorem G8 (its:List Value):∀ (k:Nat) (acc:List Value),
 List.foldl (fun x1 x2=>x1++x2) acc.toArray (List.replicate k its.toArray)=(acc++(List.replicate k its).flatten).toArray
 | 0,acc=>by simp
 | k+1,acc=>by
  have e:acc.toArray++its.toArray=(acc++its).toArray:=by simp
  have e2:(acc++its)++(List.replicate k its).flatten=acc++(List.replicate (k+1) its).flatten:=by
   rw [List.replicate_succ,List.flatten_cons,List.append_assoc]
  rw [<- e2,<- G8 its k (acc++its),<- e,List.replicate_succ,List.foldl_cons]
section
variable {X:Cx} {pins:List (Addr × Obj)} {σ:St} {H:Hp} {s:Shared} {l b:Addr} {xs ys zs:List V}
theorem Inv.lset {its its':List Value} {n:Nat} {f:Array Value->Array Value} {t':Nat} (I:Inv X pins σ H s) (hH:H l=some (.lst xs))
 (e:s.heap.get? l=some { cls:=.type "list",data:=.seq its.toArray n }) (hf:f its.toArray=its'.toArray) (hv:Vals ys its') (hz:ys.length<=sizeLine) :
 Inv X pins σ (upd H l (.lst ys)) { s with heap:=s.heap.update l (Obj.mapSeq f),toks:=t' }:=by
 have q:=PySem.IsL.update e f
 rw [hf] at q
 refine I.write (x:=l) (e:=l) (by rw [hH];exact trivial) (.inl rfl) (fun b' u hb hu=>(Heap.get?_update_other s.heap (Obj.mapSeq f) (Ne.symm hb)).trans hu) ⟨_,q⟩ ?_
 exact ⟨hz,its',_,hv,q⟩
theorem Inv.lnew {its:List Value} {t':Nat} (I:Inv X pins σ H s) (hv:Vals ys its) (hz:ys.length<=sizeLine) :
 Inv X pins σ (upd H s.heap.objs.size (.lst ys)) { s with heap:=s.heap.push { cls:=.type "list",data:=.seq its.toArray },toks:=t' } :=
 I.laid (fun _ _ q=>Heap.get?_push_of_some _ q) (Nat.le_refl _) ⟨hz,its,0,hv,Heap.get?_push_size _ rfl⟩
theorem Inv.fresh (I:Inv X pins σ H s):H s.heap.objs.size=none:=I.hok.fresh (Nat.le_refl _)
theorem Inv.lstM (I:Inv X pins σ H s) (hH:H l=some (.lst xs)):xs.length<=sizeLine/\∃ (its:List Value) (n:Nat),Vals xs its/\xs.length=its.length/\s.heap.get? l=some { cls:=.type "list",data:=.seq its.toArray n }:=by
 obtain ⟨z,its,n,r,e⟩:=I.hok l _ hH
 exact ⟨z,its,n,r,r.length,e⟩
theorem Kr {n:Nat} (h:n<=sizeLine):Builtin.List.listTooLong n=false:=by
 unfold Builtin.List.listTooLong
 exact decide_eq_false (by omega)
end
section
variable {X:Cx}
def Ev:R2:=fun x y H Q=>∃ l b xs zs,x=.ref l/\y=.ref b/\H l=some (.lst xs)/\H b=some (.lst zs)/\xs.length+zs.length<=sizeLine/\∀ p,H p=none->Q (.ref p) (upd H p (.lst (xs++zs)))
theorem Hn:OpR X (binaryOp .Add) Ev:=by
 intro pins s σ H x y v u Q I rx ry h
 obtain ⟨l,b,xs,zs,rfl,rfl,hH,hB,hz,q⟩:=h
 cases rx
 cases ry
 obtain ⟨z,its,n,r,hl,e⟩:=I.lstM hH
 obtain ⟨z2,its2,n2,r2,hl2,e2⟩:=I.lstM hB
 refine PySem.P.add_list e e2 ?_ (by rw [List.size_toArray,List.size_toArray];omega)
 have ea:its.toArray++its2.toArray=(its++its2).toArray:=by simp
 rw [ea]
 exact ⟨.ref _,_,I.lnew (t':=s.toks) (r.append r2) (by rw [List.length_append];omega),rfl,q _ I.fresh⟩
def GD:R2:=fun x y H Q=>∃ l k xs,x=.ref l/\y=.int k/\H l=some (.lst xs) /\ -(2 ^ 63)<=k/\k < 2 ^ 63/\xs.length * k.toNat<=sizeLine /\
 ∀ p,H p=none->Q (.ref p) (upd H p (.lst (List.replicate k.toNat xs).flatten))
theorem JJ {α:Type} (xs:List α) (k:Nat):(List.replicate k xs).flatten.length=k * xs.length:=by
 induction k with
 | zero=>simp
 | succ k ih=>rw [List.replicate_succ,List.flatten_cons,List.length_append,ih,Nat.succ_mul,Nat.add_comm]
theorem Lr:OpR X (binaryOp .Mult) GD:=by
 intro pins s σ H x y v u Q I rx ry h
 obtain ⟨l,k,xs,rfl,rfl,hH,h1,h2,hz,q⟩:=h
 cases rx
 obtain ⟨t,rfl⟩:=ry
 obtain ⟨z,its,n,r,hl,e⟩:=I.lstM hH
 have hlen:its.toArray.size * k.toNat<=sizeLine:=by rw [List.size_toArray,<- hl];exact hz
 have hcap:¬ its.toArray.size * k.toNat > (2 ^ 63 - 1) / 8:=by
  have:(sizeLine:Nat)<=(2 ^ 63 - 1) / 8:=by decide
  omega
 have hfit:¬ (!Builtin.List.listFitsIndex k)=true:=by
  rw [fitsIndex_both h1 h2]
  exact Bool.false_ne_true
 have hlong:¬ Builtin.List.listTooLong (its.toArray.size * k.toNat)=true:=by
  rw [Kr hlen]
  exact Bool.false_ne_true
 have hnew:List.foldl (fun x1 x2=>x1++x2) #[] (List.replicate (if its.toArray.isEmpty=true then 0 else k.toNat) its.toArray)=(List.replicate k.toNat its).flatten.toArray:=by
  have f0:∀ m:Nat,List.foldl (fun x1 x2=>x1++x2) #[] (List.replicate m its.toArray)=(List.replicate m its).flatten.toArray:=fun m=>by
   have:=G8 its m []
   rw [List.nil_append] at this
   exact this
  rw [f0]
  cases its with
  | nil=>simp
  | cons a r'=>rw [if_neg (by simp)]
 refine wpAny_binaryOp_repeat_ref (T:="list") (U:="int") (by decide) ⟨_,e,rfl⟩ (fun s'=>typeIs_int s' k t) noFill_list_mul F.fills_int_mul F.slot_int_rmul repeat_list F.slot_int_index.lookup
  (call_meets F.slot_int_rmul (typeIs_int s k t) F.entry_int_rmul (F.args_int_rmul_2 _ _) (int___rmul___int_list k t l its.toArray n)
    ⟨e,rfl,⟨_,e,rfl⟩,call_meets F.slot_list_mul ⟨_,e,rfl⟩ F.entry_list_mul (F.args_list_mul_2 _ _) (AutoListH.list___mul___list_int_3 l its.toArray n k t hfit hcap hlong) ⟨e,?_⟩⟩)
 rw [hnew]
 exact ⟨.ref _,_,I.lnew (t':=s.toks) (r.rep k.toNat) (by rw [JJ,Nat.mul_comm];exact hz),rfl,q _ I.fresh⟩
end
section
variable {prog:Program} {w:World} {A:Around} {E:Value->Shared->Prop} {s:Shared}
end
section
variable {X:Cx}
end
end L2
namespace Att
open PySem PySem.W PySem.Calls PyProof.Rows
theorem K3 {P:Params} {h:Heap}:∀ (ns:List Int) (vs:List Value),WellAll P h vs (ns.map WData.int)->IntsAre vs ns:=by
 intro ns
 induction ns with
 | nil =>
  intro vs w
  rw [List.map_nil] at w
  cases w
  exact .nil
 | cons n ns ih =>
  intro vs w
  rw [List.map_cons] at w
  cases w with
  | cons a b =>
   cases a
   exact .cons _ _ (ih _ b)
theorem J2 {l:OpenLaw} {n:Nat} (hn:l.most=some n) {P:Params} {h:Heap} {args:List WData} {vals:List Value}
 (hpre:l.row.toRowW.claim.pre args=true) (hwl:WellAll P h vals args) :
 ∃ a vs ns,vals=[Value.ref a]/\args=[WData.list (ns.map WData.int)]/\h.get? a=some { cls:=.type "list",data:=.seq vs.toArray } /\ IntsAre vs ns/\ns.length<=n:=by
 have hsh:WShape.hasAll [] args [.list .int]=true:=(pre_splitW hpre).1
 have hc:l.pre.holds [] { args:=args } = true:=(pre_splitW hpre).2
 obtain ⟨d,r,rfl,h1,h2⟩:=hasAllW_cons hsh
 obtain rfl:=hasAllW_nil h2
 obtain ⟨xs,rfl,h3⟩:=hasW_list h1
 obtain ⟨ns,rfl⟩:=items_int h3
 have hlen:ns.length<=n:=by
  unfold OpenLaw.pre at hc
  have h4:(WTm.not (.lt (.lit (.int (n:Int))) (.len (.arg 0)))).holds [] { args:=[.list (ns.map .int)] } = true:=by
   have h4:=(holds_andW hc).1
   rw [hn] at h4
   exact h4
  have h5:=condW_of h4 (w_not (w_lt w_lit (w_len_list (w_arg rfl))))
  rw [List.length_map] at h5
  refine Nat.le_of_not_lt fun q=>?_
  have q':(n:Int) < ((ns.length:Nat):Int):=by omega
  first
   | (rw [decide_eq_true q'] at h5;exact absurd h5 (by decide))
   | (simp at h5;omega)
 cases hwl with
 | cons w1 w2 =>
  cases w2
  cases w1 with
  | list ho hall=>exact ⟨_,_,ns,rfl,rfl,ho,K3 ns _ hall,hlen⟩
theorem Kc (l:OpenLaw) (args:List WData):l.row.toRowW.claim.post args (.bool true) args=true :=
 postW_of (r:=l.row.toRowW) (X:=(true == true))
  (show WShape.has [] (.bool true) .bool=true by first | rfl | decide | simp [WShape.has,WShape.arms,WShape.armsAll])
  (show (WTm.eq .res (.lit (.bool true))).value [] { args:=args,res:=some (.bool true),after:=args } = some (.bool (true == true)) from w_eq_bool (w_res rfl) w_lit) rfl
theorem attach_call {l:OpenLaw} {n:Nat} {q:Program} {loose:List Str} {XP:(Str->Option Value)->Heap->Prop} {YP:World->Heap->Prop} {d:DefRec}
 (hn:l.most=some n) (hdf:d.params.defaults=[])
 (call:∀ (w:World) (s₀ s₁:Shared) (mg mb:Str->Option Value) (fa:Addr) (o:Obj) (pm cd doc:Value) (a:Addr) (vs:List Value) (ns:List Int),
   Ground q loose [] XP w s₀ mg mb s₁.heap->YP w s₁.heap ->
   s₁.heap.get? fa=some o->o.data=.func (docDef d.name d.params d.body d.scope pm cd doc)->s₁.heap.CodeRec cd d.name->mg d.name=some (.ref fa) ->
   s₁.heap.get? a=some { cls:=.type "list",data:=.seq vs.toArray } -> IntsAre vs ns->ns.length<=n->s₁.gens = #[] ->
   codeAny (model l.prog w) callerA (.call (.ref fa) ⟨[.ref a],[]⟩) (fun r s'=>r=.ok (.ret (.bool true))/\OldK s₁.heap s'.heap/\s'.os=s₁.os/\AllBare s'.gens) s₁) :
 WalkO q loose XP YP l.row.toRowW d [] (fun f vs=>PySem.call f vs):=by
 intro w s₀ s₁ mg mb G Y fa o pm cd doc dV kV ho hd hcd hD hmg hg args vals as hpre hlay hrd hwl hlo
 obtain rfl:dV=.none:=Dflts.none hD hdf
 obtain rfl:kV=.none:=Dflts.noKw hD
 obtain ⟨a,vs,ns,rfl,rfl,hobj,hints,hlen⟩:=J2 hn hpre hwl
 refine enter_call (codeAny_mono (call w s₀ s₁ mg mb fa o pm cd doc a vs ns G Y ho (fd_plain hd) hcd hmg hobj hints hlen hg) fun r s' hq=>?_)
 obtain ⟨rfl,h2,h3,h4⟩:=hq
 exact ⟨.inl ⟨.bool true,.bool true,[],rfl,fun _=>rfl,.bool true,Kc l _,fun _=>⟨List.Pairwise.nil,fun _ hm=>(nomatch hm)⟩⟩,h2,h3,h4⟩
section
variable {prog:Program} {w:World} {A:Around} {E:Value->Shared->Prop} {s:Shared} {K:Frag}
def DN (h:Heap):Heap:={ h with objs:=#[] }
theorem HX (h:Heap) (b:Addr):(DN h).get? b=none:=by
 cases e:(DN h).get? b with
 | none=>rfl
 | some o=>exact absurd (Heap.lt_size e) (Nat.not_lt_zero _)
theorem Jf {h:Heap} {L:Addr} {m:Str->Option Value} (n:h.Ns L m):Fr (DN h) L h m :=
 ⟨n,fun b o e=>(by rw [HX] at e;cases e),Nat.zero_le _⟩
end
end Att
namespace L2
open PySem PySem.Spec PyProof.Rows
theorem Ga:∀ {vs:List Value} {ns:List Int},IntsAre vs ns->Vals (ns.map V.int) vs
 | _,_,.nil=>.nil
 | _,_,.cons n t h=>.cons ⟨t,rfl⟩ (Ga h)
def Ak (s:Stmt):Arguments:=match s with
 | .FunctionDef _ a _ _ _ _ _ _ _ _=>a
 | _=>{ posonlyargs:=[],args:=[],vararg:=none,kwonlyargs:=[],kw_defaults:=[],kwarg:=none,defaults:=[] }
def Ac (s:Stmt):List Stmt:=match s with
 | .FunctionDef _ _ b _ _ _ _ _ _ _=>b
 | _=>[]
def AM (s:Stmt):Scope:=match s with
 | .FunctionDef _ _ _ _ _ _ sc _ _ _=>sc
 | _=>{ kind:=.function,names:=[],isGenerator:=false,isCoroutine:=false }
abbrev CX0:CXT:=fun _ _ _ _ _ _=>False
abbrev E0:XK:=fun _ _ _=>False
theorem AO {X:Cx}:D3 CX0 X E0:=fun _ _ _ _ _ _ _ h=>h.elim
structure Fun (K:PySem.W.Frag) (x qual:Str) (st:Stmt) (f:Addr) (fd:FuncData):Prop where
 ex:∃ (oc:Value) (od:Option Addr) (kV doc pm:Value) (an:Option Addr) (cdv ct:Value) (osl:Array (Option Value)),
  fd=PySem.W.fnOf x qual (Ak st) (Ac st) (AM st) .none kV doc pm an cdv ct/\K.lookup f=some ⟨oc,od,.func fd,osl⟩/\PySem.W.codeIn K cdv qual=true
 kp:PySem.W.keepIn K (.ref f)=true
section
variable {P:Program} {w:World} {K:PySem.W.Frag} {mg:Str->Option Value} {base:Heap}
theorem Fun.ok {x qual:Str} {st:Stmt} {f:Addr} {fd:FuncData} {N ps:List Str} {k:Nat} {sp:Sp} (F:Fun K x qual st f fd) (S:FnScope N ps (AM st)) (len:∀ vs H Q E,sp vs H Q E->vs.length=ps.length)
 (hbody:∀ (cdv:Value) (A:Around) (outer:List Env) (s:Shared) (H:Hp) (vs:List V) (Q:VK) (E:XK),Room k (A.deeper (envOfC qual (AM st) s.heap.objs.size f cdv))->sp vs H Q E ->
   ∃ t,PSs (Bz CX0 P w K mg base N qual (AM st) f cdv A outer s H E).nox (Ac st) t/\t { nx:=fun _ H'=>Q .non H',rt:=Q } (Bf N vs) H):FnOk P w K mg base CX0 (k+1) f fd ps sp:=by
 obtain ⟨oc,od,kV,doc,pm,an,cdv,ct,osl,rfl,lk,hcd⟩:=F.ex
 refine GW lk hcd S len fun A outer s H vs Q E hr hsp=>?_
 obtain ⟨t,h,q⟩:=hbody cdv A outer s H vs Q E hr hsp
 exact ⟨t,h.nox,q⟩
theorem Fun.binds {x qual:Str} {st:Stmt} {f:Addr} {fd:FuncData} {ps:List Str} (F:Fun K x qual st f fd)
 (h:∀ (kV doc pm:Value) (an:Option Addr) (cdv ct:Value) (us:List Value),us.length=ps.length->bindArgs (PySem.W.fnOf x qual (Ak st) (Ac st) (AM st) .none kV doc pm an cdv ct) ⟨us,[]⟩=pure (ps.zip us)):Binds K fd ps []:=by
 obtain ⟨oc,od,kV,doc,pm,an,cdv,ct,osl,rfl,lk,hcd⟩:=F.ex
 exact .all (h kV doc pm an cdv ct)
theorem Ax {x qual:Str} {st:Stmt} {f:Addr} {oc:Value} {od an:Option Addr} {osl:Array (Option Value)} {kV doc pm cdv ct:Value} (l:K.lookup f=some ⟨oc,od,.func (PySem.W.fnOf x qual (Ak st) (Ac st) (AM st) .none kV doc pm an cdv ct),osl⟩)
 (c:PySem.W.codeIn K cdv qual=true) (k:PySem.W.keepIn K (.ref f)=true):Fun K x qual st f (PySem.W.fnOf x qual (Ak st) (Ac st) (AM st) .none kV doc pm an cdv ct):=⟨⟨oc,od,kV,doc,pm,an,cdv,ct,osl,rfl,l,c⟩,k⟩
end
theorem Dg {n:Nat} (h:n<=1000):n < sizeLine:=Nat.lt_of_le_of_lt h (by decide)
section
variable {X:Cx}
theorem pv (i:Nat) {x:Str} {pos:Pos} (hN:X.N[i]? = some x:=by rfl) (hv:Vis X.env.scope x:=by first | exact Or.inl rfl | exact Or.inr (Or.inl rfl) | exact Or.inr (Or.inr rfl)) (hd:(x == ("__debug__" : Str))=false:=by decide)
 (hcd:(x == ("__classdict__" : Str))=false:=by decide):PE X (.Name x pos) (GH i):=Go hN hv hd hcd
end
theorem GV {A B:Prop} (h:B):if false=true then A else B:=by
 rw [if_neg Bool.false_ne_true]
 exact h
theorem AN {c A B:Prop} [Decidable c] (h1:c->A) (h2:¬ c->B):if c then A else B:=by
 by_cases h:c
 ·rw [if_pos h]
  exact h1 h
 ·rw [if_neg h]
  exact h2 h
def Same (H H':Hp):Prop:=∀ b o,H b=some o->H' b=some o
theorem Same.refl (H:Hp):Same H H:=fun _ _ h=>h
theorem Same.trans {H H1 H2:Hp} (a:Same H H1) (b:Same H1 H2):Same H H2:=fun c o h=>b c o (a c o h)
theorem Same.free {H H':Hp} (e:Same H H') {l:Addr} (h:H' l=Option.none):H l=Option.none:=by
 cases q:H l with
 | none=>rfl
 | some o =>
  rw [e l o q] at h
  cases h
theorem Ca:∀ (names:List (Str × NameKind)) (n:Nat) (acc:List (Str × Addr)),cellsFrom n names acc=cellsFrom n names []++acc
 | [],_,_=>rfl
 | (name,kind)::r,n,acc=>by
  unfold cellsFrom
  split
  ·rw [Ca r (n+1) ((name,n)::acc),Ca r (n+1) [(name,n)],List.append_assoc];rfl
  ·exact Ca r n acc
theorem cellsFrom_kind:∀ (names:List (Str × NameKind)) (n:Nat) (acc:List (Str × Addr)) (x:Str) (c:Addr),(x,c)∈cellsFrom n names acc->(x,c)∈acc\/(x,NameKind.cell)∈names
 | [],_,_,_,_,h=>.inl h
 | (name,kind)::r,n,acc,x,c,h=>by
  unfold cellsFrom at h
  split at h
  ·rename_i hk
   rcases cellsFrom_kind r _ _ x c h with h | h
   ·rcases List.mem_cons.mp h with e | h
    ·cases e
     have:kind=.cell:=by simpa using hk
     subst this
     exact .inr List.mem_cons_self
    ·exact .inl h
   ·exact .inr (List.mem_cons_of_mem _ h)
  ·rcases cellsFrom_kind r _ _ x c h with h | h
   ·exact .inl h
   ·exact .inr (List.mem_cons_of_mem _ h)
theorem Db {α:Type} {x:Str}:∀ (l r:List (Str × α)),(l++r).lookup x=(match l.lookup x with | some c=>some c | none=>r.lookup x)
 | [],r=>rfl
 | (k,v)::l,r=>by
  show List.lookup x ((k,v)::(l++r))=_
  rw [List.lookup_cons,List.lookup_cons]
  cases x == k with
  | true=>rfl
  | false=>exact Db l r
theorem Ge {α:Type} {x:Str}:∀ {l:List (Str × α)},(∀ c,(x,c)∉l)->l.lookup x=none
 | [],_=>rfl
 | (k,v)::l,h=>by
  rw [List.lookup_cons]
  cases hb:x == k with
  | true =>
   have:x=k:=by simpa using hb
   subst this
   exact absurd List.mem_cons_self (h v)
  | false=>exact Ge fun c hc=>h c (List.mem_cons_of_mem _ hc)
def As (cells:List (Str × Addr)):List (Str × NameKind)->List (Str × Addr)->List (Str × Addr)
 | [],acc=>acc
 | (n,k)::r,acc=>if k == .free then As cells r ((n,(cells.lookup n).getD 0)::acc) else As cells r acc
theorem GN {scope:Scope} {env:Env} (h:∀ y∈scope.names,y.2=.free->∃ c,env.cells.lookup y.1=some c):closureFor scope env=pure (As env.cells scope.names []):=by
 have all:∀ (names:List (Str × NameKind)) (acc:List (Str × Addr)),(∀ y∈names,y.2=.free->∃ c,env.cells.lookup y.1=some c) ->
  (forIn names acc fun (x:Str × NameKind) cs=>(if (x.2 == NameKind.free)=true then (do let a <- cellOf env x.1;pure (ForInStep.yield ((x.1,a)::cs))) else pure (ForInStep.yield cs):Sem (ForInStep (List (Str × Addr)))))=(pure (As env.cells names acc):Sem _):=by
  intro names
  induction names with
  | nil=>intro acc _;rfl
  | cons y r ih =>
   intro acc hy
   obtain ⟨n,k⟩:=y
   rw [List.forIn_cons]
   have hr:∀ y∈r,y.2=.free->∃ c,env.cells.lookup y.1=some c:=fun y hm=>hy y (List.mem_cons_of_mem _ hm)
   unfold As
   by_cases hk:(k == NameKind.free)=true
   ·obtain ⟨c,e⟩:=hy (n,k) List.mem_cons_self (by simpa using hk)
    rw [if_pos hk,if_pos hk]
    have e2:cellOf env n=pure c:=by unfold cellOf;rw [show env.cells.lookup n=some c from e]
    rw [e2]
    rw [show env.cells.lookup n=some c from e]
    exact ih _ hr
   ·rw [if_neg hk,if_neg hk]
    exact ih _ hr
 have q:=all scope.names [] h
 unfold closureFor
 refine Eq.trans ?_ (congrArg (fun t=>t >>= pure) q |>.trans (by rfl))
 congr 1
theorem clOf_mem {cells:List (Str × Addr)}:∀ (names:List (Str × NameKind)) (acc:List (Str × Addr)) (x:Str) (c:Addr),(∀ y∈names,y.2=.free->∃ c,cells.lookup y.1=some c)->(x,c)∈As cells names acc->(x,c)∈acc\/((x,NameKind.free)∈names/\cells.lookup x=some c)
 | [],_,_,_,_,h=>.inl h
 | (n,k)::r,acc,x,c,hy,h=>by
  have hr:∀ y∈r,y.2=.free->∃ c,cells.lookup y.1=some c:=fun y hm=>hy y (List.mem_cons_of_mem _ hm)
  unfold As at h
  split at h
  ·rename_i hk
   have hk':k=.free:=by simpa using hk
   subst hk'
   obtain ⟨d,e⟩:=hy (n,.free) List.mem_cons_self rfl
   rcases clOf_mem r _ x c hr h with h | ⟨h,h'⟩
   ·rcases List.mem_cons.mp h with e' | h
    ·obtain ⟨e1,e2⟩:=Prod.mk.inj e'
     rw [show cells.lookup n=some d from e] at e2
     subst e1
     exact .inr ⟨List.mem_cons_self,by rw [e2];exact e⟩
    ·exact .inl h
   ·exact .inr ⟨List.mem_cons_of_mem _ h,h'⟩
  ·rcases clOf_mem r _ x c hr h with h | ⟨h,h'⟩
   ·exact .inl h
   ·exact .inr ⟨List.mem_cons_of_mem _ h,h'⟩
theorem Dx {cells:List (Str × Addr)} {x:Str}:∀ (names:List (Str × NameKind)) (acc:List (Str × Addr)),(∃ c,(x,c)∈acc)->∃ c,(x,c)∈As cells names acc
 | [],_,h=>h
 | (n,k)::r,acc,⟨c,h⟩=>by
  unfold As
  split
  ·exact Dx r _ ⟨c,List.mem_cons_of_mem _ h⟩
  ·exact Dx r _ ⟨c,h⟩
theorem EX {cells:List (Str × Addr)} {x:Str}:∀ (names:List (Str × NameKind)) (acc:List (Str × Addr)),(x,NameKind.free)∈names->∃ c,(x,c)∈As cells names acc
 | (n,k)::r,acc,h=>by
  unfold As
  rcases List.mem_cons.mp h with e | h
  ·cases e
   rw [if_pos (by decide)]
   exact Dx r _ ⟨_,List.mem_cons_self⟩
  ·split
   ·exact EX r _ h
   ·exact EX r _ h
theorem HN {α:Type} {x:Str}:∀ {l:List (Str × α)},(∃ c,(x,c)∈l)->∃ c,l.lookup x=some c
 | (k,v)::l,⟨c,h⟩=>by
  rw [List.lookup_cons]
  cases hb:x == k with
  | true=>exact ⟨v,rfl⟩
  | false =>
   rcases List.mem_cons.mp h with e | h
   ·cases e;simp at hb
   ·exact HN ⟨c,h⟩
def DE (scope sc:Scope):Scope :=
 { scope with names:=scope.names.map fun (n,k)=>if (k == .free && sc.kind == .function && sc.names.lookup n == some .cell) then (n,.cell) else (n,k) }
structure CompScope (scope sc:Scope):Prop where
 kind:scope.kind=.function
 nd:(scope.names.map (·.1)).Nodup
 fr:∀ y∈scope.names,y.2=.free->sc.names.lookup y.1=some .cell\/sc.names.lookup y.1=some .free
theorem Bx {α:Type}:∀ {l:List (Str × α)} {x:Str} {c:α},(l.map (·.1)).Nodup->(x,c)∈l->l.lookup x=some c
 | (k,v)::l,x,c,nd,h=>by
  obtain ⟨n1,n2⟩:=List.nodup_cons.mp (show (k::l.map (·.1)).Nodup from nd)
  rw [List.lookup_cons]
  rcases List.mem_cons.mp h with e | h
  ·cases e;simp
  ·have hne:¬ x=k:=fun e=>n1 (by rw [<- e];exact List.mem_map.mpr ⟨(x,c),h,rfl⟩)
   have:(x == k)=false:=by simpa using hne
   rw [this]
   exact Bx n2 h
theorem Fw {scope sc:Scope} {x:Str}:(DE scope sc).names.lookup x=(scope.names.lookup x).map fun k=>if (k == .free && sc.kind == .function && sc.names.lookup x == some .cell) then NameKind.cell else k:=by
 show (scope.names.map _).lookup x=_
 generalize scope.names=names
 induction names with
 | nil=>rfl
 | cons y r ih =>
  obtain ⟨n,k⟩:=y
  rw [List.map_cons]
  by_cases hc:(k == .free && sc.kind == .function && sc.names.lookup n == some .cell)=true
  ·show List.lookup x ((if (k == .free && sc.kind == .function && sc.names.lookup n == some .cell)=true then (n,NameKind.cell) else (n,k))::_)=_
   rw [if_pos hc,List.lookup_cons,List.lookup_cons]
   cases hb:x == n with
   | true =>
    have hx:x=n:=by simpa using hb
    subst hx
    show some NameKind.cell=some (if _ then _ else _)
    rw [if_pos hc]
   | false=>exact ih
  ·show List.lookup x ((if (k == .free && sc.kind == .function && sc.names.lookup n == some .cell)=true then (n,NameKind.cell) else (n,k))::_)=_
   rw [if_neg hc,List.lookup_cons,List.lookup_cons]
   cases hb:x == n with
   | true =>
    have hx:x=n:=by simpa using hb
    subst hx
    show some k=some (if _ then _ else _)
    rw [if_neg hc]
   | false=>exact ih
structure CArgs where
 pins:List (Addr × Obj)
 cells:List (Str × Addr)
 s:Shared
 H:Hp
 fp:List Addr
 C:Addr
def Cx.comp (X:Cx) (scope:Scope) (N':List Str) (c:CArgs):Cx where
 prog:=X.prog
 w:=X.w
 K:=X.K
 mg:=X.mg
 base:=X.base
 A:=X.A
 N:=N'
 s₀:=c.s
 H₀:=c.H
 env:=compEnvC scope c.cells c.C X.env
 outer:=X.stack
 stack:=X.stack
 ex:=c.fp
 fn:=fun x=>scope.names.lookup x == some .cell
 calm:=X.calm
 pn:=X.pn++c.pins
 xe:=fun _ _=>False
def cSt (own:Nat) (ix:List Nat) (σ:St):St:=List.replicate own none++ix.map fun i=>(σ[i]?).join
section
variable {X:Cx} {pins:List (Addr × Obj)} {σ:St} {H:Hp} {s s4:Shared} {fp:List Addr} {scope:Scope} {N':List Str} {own:Nat} {ix:List Nat}
theorem IL (I:Inv X pins σ H s) (f2:∀ b∈fp,BD X pins H b) (hob:∀ b∈fp,∃ o,s.heap.get? b=some o) (S:CompScope scope X.env.scope)
 (hlen:N'.length=own+ix.length) (hN:(N'.drop own).map some=ix.map (X.N[·]?)) (hfr:∀ x∈N'.drop own,scope.names.lookup x=some .free)
 {C:Addr} (hC:s.heap.objs.size < C) (k4:∀ b o,s.heap.get? b=some o->s4.heap.get? b=some o) (os4:s4.os=s.os) (g4:s4.gens=s.gens)
 (n4:∃ m,s4.heap.Ns C m) (own4:∀ x c,(x,c)∈cellsFrom (C+1) scope.names []->s4.heap.IsCell c none/\C+1<=c)
 (apart:(cellsFrom (C+1) scope.names []).Pairwise fun x y=>x.2≠y.2) :
 Inv (X.comp scope N' ⟨pins,cellsFrom (C+1) scope.names (As X.env.cells scope.names []),s,H,fp,C⟩) [] (cSt own ix σ) H s4:=by
 have hfree:∀ y∈scope.names,y.2=.free->∃ c,X.env.cells.lookup y.1=some c:=fun y hy h=>I.ok.has y.1 (S.fr y hy h)
 -- a cell of the block
 have cases:∀ x c,(cellsFrom (C+1) scope.names (As X.env.cells scope.names [])).lookup x=some c ->
  ((x,c)∈cellsFrom (C+1) scope.names []/\scope.names.lookup x=some .cell)\/((x,NameKind.free)∈scope.names/\X.env.cells.lookup x=some c):=fun x c h=>by
  rw [Ca,Db] at h
  cases e:(cellsFrom (C+1) scope.names []).lookup x with
  | some d =>
   rw [e] at h
   cases h
   have m:=mem_of_lookup e
   rcases cellsFrom_kind _ _ _ _ _ m with z | z
   ·exact absurd z (by simp)
   ·exact .inl ⟨m,Bx S.nd z⟩
  | none =>
   rw [e] at h
   rcases clOf_mem _ _ _ _ hfree (mem_of_lookup h) with z | z
   ·exact absurd z (by simp)
   ·exact .inr z
 have oldlt:∀ x c,X.env.cells.lookup x=some c->c < s.heap.objs.size:=fun x c e=>let ⟨v,q⟩:=I.cell x c e;q.lt
 have kin:∀ x,(DE scope X.env.scope).names.lookup x=some .cell\/(DE scope X.env.scope).names.lookup x=some .free->(scope.names.lookup x=some .cell\/scope.names.lookup x=some .free):=fun x h=>by
  rw [Fw] at h
  cases e:scope.names.lookup x with
  | none=>rw [e] at h;simp at h
  | some k =>
   rw [e] at h
   cases k with
   | cell=>exact .inl rfl
   | free=>exact .inr rfl
   | _=>exact absurd h (by simp)
 have hCn:∀ b o,s.heap.get? b=some o->b≠C:=fun b o e z=>by have:=Heap.lt_size e;rw [z] at this;exact Nat.lt_irrefl _ (Nat.lt_trans this hC)
 have lk:∀ x,(x,NameKind.free)∈scope.names->∀ c,X.env.cells.lookup x=some c->(cellsFrom (C+1) scope.names (As X.env.cells scope.names [])).lookup x=some c:=fun x hx c hc=>by
  have hl:scope.names.lookup x=some .free:=Bx S.nd hx
  rw [Ca,Db,Ge (l:=cellsFrom (C+1) scope.names []) fun d hd=>?_]
  ·obtain ⟨d,hd⟩:=HN (EX (cells:=X.env.cells) scope.names [] hx)
   rcases clOf_mem _ _ _ _ hfree (mem_of_lookup hd) with z | ⟨_,z⟩
   ·exact absurd z (by simp)
   ·rw [hc] at z;cases z;exact hd
  ·rcases cellsFrom_kind _ _ _ _ _ hd with z | z
   ·exact absurd z (by simp)
   ·rw [Bx S.nd z] at hl;cases hl
 refine ⟨⟨I.ok.mod,S.kind,I.ok.glob,I.ok.blt,Nat.le_of_lt hC,fun x y c hx hy=>?_,fun x hx=>?_,fun x c hf hx=>?_,I.ok.hd,I.ok.frames,.inl rfl,fun b hb=>⟨?_,fun x c hx=>?_⟩,fun b o e=>I.bs b o e,Nat.le_trans I.ok.bsz I.sz,fun b o e hb=>?_,fun b hb z=>?_,I.stack,I.stkFree⟩,
  os4,by rw [g4];exact I.bare,Un.kept k4,?_,fun x c hx=>?_,?_,fun x c hx=>?_,fun p hp=>?_,I.hok.kept k4,?_⟩
 ·-- inj
  rcases cases x c hx with ⟨m1,_⟩ | ⟨_,m1⟩ <;> rcases cases y c hy with ⟨m2,_⟩ | ⟨_,m2⟩
  ·exact name_of_addr apart m1 m2
  ·exact absurd (Nat.lt_of_lt_of_le (Nat.lt_trans (oldlt y c m2) hC) (Nat.le_of_succ_le (own4 x c m1).2)) (Nat.lt_irrefl _)
  ·exact absurd (Nat.lt_of_lt_of_le (Nat.lt_trans (oldlt x c m1) hC) (Nat.le_of_succ_le (own4 y c m2).2)) (Nat.lt_irrefl _)
  ·exact I.ok.inj x y c m1 m2
 ·-- has
  rcases kin x hx with h | h
  ·have q:=PySem.W.cellsFrom_some scope.names (C+1) (As X.env.cells scope.names []) (.inl h)
   exact Option.isSome_iff_exists.mp q
  ·obtain ⟨c,e⟩:=hfree (x,.free) (mem_of_lookup h) rfl
   exact ⟨c,lk x (mem_of_lookup h) c e⟩
 ·-- cab
  rcases cases x c hx with ⟨m1,_⟩ | ⟨m1,_⟩
  ·exact Nat.le_of_lt (Nat.lt_of_lt_of_le hC (Nat.le_of_succ_le (own4 x c m1).2))
  ·have hl:=Bx S.nd m1
   have hf':(scope.names.lookup x == some NameKind.cell)=true:=hf
   rw [hl] at hf';cases hf'
 ·obtain ⟨o,e⟩:=hob b hb
  exact hCn b o e
 ·intro z
  obtain ⟨o,e⟩:=hob b hb
  have hlt:=Heap.lt_size e
  rcases cases x c hx with ⟨m1,_⟩ | ⟨_,m1⟩
  ·subst z;exact absurd (Nat.lt_of_lt_of_le (Nat.lt_trans hlt hC) (Nat.le_of_succ_le (own4 x c m1).2)) (Nat.lt_irrefl _)
  ·exact (f2 b hb).2.2.2.2.1 x c m1 z
 ·-- noex
  have e1:=(I.ok.bs b o e).1
  rcases (f2 b hb).2.2.2.1 with z | z
  ·exact I.ok.noex b o e z
  ·exact absurd (Nat.lt_of_lt_of_le (Heap.lt_size e1) z) (Nat.lt_irrefl _)
 ·-- exfs
  rcases List.mem_cons.mp (I.stkSub b z) with e | z
  ·exact (f2 b hb).2.1 e
  ·exact (f2 b hb).2.2.1 z
 ·-- loc
  obtain ⟨m,hm⟩:=n4
  obtain ⟨m0,hn0,hl0⟩:=I.loc
  refine ⟨m,hm,fun i x v h1 h2 h3=>?_⟩
  have h1:N'[i]? = some x:=h1
  unfold cSt at h2
  by_cases hi:i < own
  ·rw [List.getElem?_append_left (by simpa using hi),List.getElem?_replicate] at h2
   split at h2 <;> cases h2
  ·rw [List.getElem?_append_right (by simpa using hi),List.length_replicate,List.getElem?_map] at h2
   obtain ⟨j,hj⟩:∃ j,i=own+j:=⟨i - own,by omega⟩
   subst hj
   rw [Nat.add_sub_cancel_left] at h2
   cases e:ix[j]? with
   | none=>rw [e] at h2;cases h2
   | some q =>
    rw [e] at h2
    have h2:some (σ[q]?).join=some (some v):=h2
    have h2:(σ[q]?).join=some v:=Option.some.inj h2
    have hσ:σ[q]? = some (some v):=by
     cases eq:σ[q]? with
     | none=>rw [eq] at h2;cases h2
     | some z=>rw [eq] at h2;simp at h2;rw [h2]
    have hx:(N'.drop own)[j]? = some x:=by rw [List.getElem?_drop];exact h1
    have hNq:X.N[q]? = some x:=by
     have:=congrArg (·[j]?) hN
     simp only [List.getElem?_map,hx,e,Option.map_some] at this
     exact (Option.some.inj this).symm
    have hfx:=hfr x (List.mem_of_getElem? hx)
    have hmem:=mem_of_lookup hfx
    have kx:=S.fr (x,.free) hmem rfl
    have vis:Vis X.env.scope x:=.inr kx
    obtain ⟨u,r,l⟩:=hl0 q x v hNq hσ vis
    refine ⟨u,r,?_⟩
    rcases l with ⟨k,_⟩ | ⟨k,c,hc,z⟩
    ·exfalso
     have k':X.env.scope.names.lookup x=some .local:=k
     rcases kx with kx | kx
     ·rw [show X.env.scope.names.lookup x=some .cell from kx] at k';cases k'
     ·rw [show X.env.scope.names.lookup x=some .free from kx] at k';cases k'
    ·refine .inr ⟨?_,c,lk x hmem c hc,z.keeps k4⟩
     show (DE scope X.env.scope).names.lookup x=some .cell\/(DE scope X.env.scope).names.lookup x=some .free
     rw [Fw,hfx]
     by_cases hc:(NameKind.free == .free && X.env.scope.kind == .function && X.env.scope.names.lookup x == some .cell)=true
     ·exact .inl (by rw [Option.map_some,if_pos hc])
     ·exact .inr (by rw [Option.map_some,if_neg hc])
 ·rcases cases x c hx with ⟨m1,_⟩ | ⟨_,m1⟩
  ·exact ⟨_,(own4 x c m1).1⟩
  ·obtain ⟨v,q⟩:=I.cell x c m1
   exact ⟨v,q.keeps k4⟩
 ·exact I.hok.fresh (Nat.le_of_lt hC)
 ·rcases cases x c hx with ⟨m1,_⟩ | ⟨_,m1⟩
  ·exact I.hok.fresh (Nat.le_of_lt (Nat.lt_of_lt_of_le hC (Nat.le_of_succ_le (own4 x c m1).2)))
  ·exact I.freeC x c m1
 ·have hp:p∈X.pn++pins:=by
   have:p∈(X.pn++pins)++[]:=hp
   rwa [List.append_nil] at this
  obtain ⟨e,n,ne,nf,d⟩:=I.pin p hp
  refine ⟨k4 _ _ e,n,hCn _ _ e,fun z=>?_,d⟩
  rcases List.mem_cons.mp (I.stkSub _ z) with q | q
  ·exact ne q
  ·exact nf q
 ·unfold cSt
  rw [List.length_append,List.length_replicate,List.length_map]
  exact hlen.symm
end
section
variable {prog:Program} {w:World} {A:Around} {R:Result->Shared->Prop} {s:Shared}
theorem IK {elt target iter:Expr} {ifs:List Expr} {scope:Scope} {pos:Pos} {it acc:Value} {env:Env} (I:Nat->Shared->Prop)
 (turn:∀ n s,I n s->wpAny (model prog w) A (pyNext it) (fun r s₁=>match r with
   | none=>R (.ok .next) s₁
   | some v=>wpAny (model prog w) A (letOwnedTupleGo target it v) (fun _ s₁'=>wpAny (model prog w) A (assign target env v) (fun _ s₂ =>
    wpAny (model prog w) A (forIn ifs true fun c r=>if r=true then do let ok <- isTrue c env (eval c env);pure (ForInStep.yield ok) else pure (ForInStep.yield r)) (fun ok s₃ =>
     if ok=true then wpAny (model prog w) A (eval elt env) (fun x s₄ =>
      wpAny (model prog w) A (call (.builtin "list.append") [acc,x]) (fun _ s₅=>∃ m,m < n/\I m s₅) (fun _ _=>False) s₄) (fun _ _=>False) s₃
     else ∃ m,m < n/\I m s₃) (fun _ _=>False) s₂) (fun _ _=>False) s₁') (fun _ _=>False) s₁) (fun _ _=>False) s)
 (n:Nat) (h:I n s) :
 codeAny (model prog w) A (.compLoop (.ListComp elt [⟨target,iter,ifs,0⟩] scope pos) 0 it acc env) R s:=by
 refine codeAny_loop rfl I (fun n s hI=>?_) n h
 show wpAny _ A ((compTurn (.ListComp elt [⟨target,iter,ifs,0⟩] scope pos) 0 it acc env).onRaise (fun x=>do noteFrame x env;theTreesLotGoes x)) _ _ s
 refine wpAny_noted ?_
 rw [compTurn_list]
 refine wpAny_bind (wpAny_standAt (wpAny_bind (wpAny_mono (turn n s hI) (fun r s₁ h₁=>?_) fun _ _ h'=>h'.elim)))
 cases r with
 | none=>exact wpAny_pure h₁
 | some v =>
  refine wpAny_bind (wpAny_mono h₁ (fun _ s₁' h₁'=>?_) fun _ _ h'=>h'.elim)
  refine wpAny_bind (wpAny_mono h₁' (fun _ s₂ h₂=>wpAny_bind (wpAny_mono h₂ (fun ok s₃ h₃=>?_) fun _ _ h'=>h'.elim)) fun _ _ h'=>h'.elim)
  cases ok with
  | false=>exact wpAny_pure ⟨rfl,h₃⟩
  | true =>
   exact wpAny_bind (wpAny_bind (wpAny_mono h₃ (fun x s₄ h₄=>wpAny_bind (wpAny_mono h₄ (fun _ s₅ h₅=>wpAny_pure (wpAny_pure ⟨rfl,h₅⟩)) fun _ _ h'=>h'.elim)) fun _ _ h'=>h'.elim))
end
def PTs (X:Cx) (ifs:List Expr) (t:TT):Prop :=
 ∀ (pins:List (Addr × Obj)) (s:Shared) (σ:St) (H:Hp) (Q:Bool->Hp->Prop),Inv X pins σ H s->t σ H Q ->
  wpAny (model X.prog X.w) X.A (forIn ifs true fun c r=>if r=true then do let ok <- isTrue c X.env (eval c X.env);pure (ForInStep.yield ok) else pure (ForInStep.yield r)) (TP X pins σ Q) X.xe s
def Ls:TT:=fun _ H Q=>Q true H
theorem Ek {X:Cx}:PTs X [] Ls:=fun _ _ _ H _ I h=>wpAny_tests_nil ⟨H,I,h⟩
def CT (own:Nat) (g:TG):Prop:=∀ x σ H Q,g x σ H Q->g x σ H fun σ' H'=>(σ'.length=σ.length/\∀ i,own<=i->σ'[i]? = σ[i]?)/\Q σ' H'
theorem EE {own i:Nat} (h:i < own):CT own (Ai i):=fun x σ H Q q =>
 ⟨⟨by simp,fun j hj=>by rw [List.getElem?_set_ne (by omega)]⟩,q⟩
def DQ (g:TG):Prop:=∀ x σ H (Q Q':St->Hp->Prop),(∀ σ H,Q σ H->Q' σ H)->g x σ H Q->g x σ H Q'
theorem IV {i:Nat}:DQ (Ai i):=fun _ _ _ _ _ h q=>h _ _ q
theorem MC {own:Nat} {ix:List Nat} {σ:St} {i:Nat} {v:V} (h:(cSt own ix σ)[i]? = some (some v)):own<=i:=by
 unfold cSt at h
 by_cases hi:i < own
 ·rw [List.getElem?_append_left (by simpa using hi),List.getElem?_replicate] at h
  split at h <;> cases h
 ·omega
def C8 (J:It) (g:TG) (tc:TT) (te:TE) (σc:St) (Q:VK) (H1:Hp):Prop :=
 ∃ W:Nat->Nat->List V->Hp->Prop,(∃ m,W 0 m [] H1)/\∀ i m ys H,W i m ys H ->
  (J.stop i H/\∀ p,H p=none->Q (.ref p) (upd H p (.lst ys))) \/
  (J.go i H/\ys.length < sizeLine/\∃ N:List V->Hp->Prop,(∀ ys' H',N ys' H'->∃ m',m' < m/\W (i+1) m' ys' H')/\∀ x H',J.yld i H x H'->g x σc H' fun σ4 H4=>tc σ4 H4 fun b H5 =>
    if b=true then te σ4 H5 fun y H6=>N (ys++[y]) H6 else N ys H5)
def Cz (wi:TI) (own:Nat) (ix:List Nat) (g:TG) (tc:TT) (te:TE):TE:=fun σ H Q=>wi σ H fun J H1=>C8 J g tc te (cSt own ix σ) Q H1
section
variable {X:Cx} {pins:List (Addr × Obj)} {σ:St} {H:Hp} {s:Shared} {fp:List Addr} {it:Addr} {tn:Nat->Heap->Prop} {J:It} {tg iter elt:Expr} {ifs:List Expr} {scope:Scope} {pos:Pos} {N':List Str} {own:Nat} {ix:List Nat} {g:TG} {tc:TT} {te:TE} {Q:VK} {E:Value->Shared->Prop}
theorem He (I:Inv X pins σ H s) (T:Turn X.prog X.w X.K tg J fp it tn) (st:tn 0 s.heap) (f2:∀ b∈fp,BD X pins H b) (hc:X.calm=true) (S:CompScope scope X.env.scope)
 (hlen:N'.length=own+ix.length) (hN:(N'.drop own).map some=ix.map (X.N[·]?)) (hfr:∀ x∈N'.drop own,scope.names.lookup x=some .free)
 (hg:∀ c,PG (X.comp scope N' c) tg g) (hgo:CT own g) (ht:∀ c,PTs (X.comp scope N' c) ifs tc) (he:∀ c,PE (X.comp scope N' c) elt te)
 (hq:C8 J g tc te (cSt own ix σ) Q H) {RR:Value->Addr->Result->Shared->Prop}
 (fin:∀ (D C:Addr) (s':Shared) (H':Hp) (ys:List V) (its:List Value) (n:Nat),s'.os=s.os->AllBare s'.gens->Un (frs X.stack) fp H H' s.heap s'.heap->HOk X.prog X.w H' s'.heap->(∃ m,s'.heap.Ns C m)->H' C=none->s.heap.objs.size<=C ->
   H' D=none->s.heap.objs.size<=D->D≠C->s'.heap.get? D=some { cls:=.type "list",data:=.seq its.toArray n } -> Vals ys its->ys.length<=sizeLine->(∀ p,H' p=none->Q (.ref p) (upd H' p (.lst ys)))->RR (.ref D) C (.ok .next) s') :
 wpAny (model X.prog X.w) X.A (newList []) (fun acc s₃=>wpAny (model X.prog X.w) X.A (newFunctionEnv scope X.env.globals (As X.env.cells scope.names []) [] X.env.qual none .none (some X.env)) (fun cenv s₄ =>
  codeAny (model X.prog X.w) X.A (.compStart (.ListComp elt [⟨tg,iter,ifs,0⟩] scope pos) 0 (.ref it) acc { cenv with scope:=relabel scope X.env }) (RR acc cenv.locals) s₄) E s₃) E s:=by
 obtain ⟨W,⟨m0,w0⟩,turn⟩:=hq
 have hob:∀ b∈fp,∃ o,s.heap.get? b=some o:=fun b hb=>let ⟨o,e,_⟩:=T.obj 0 _ st b hb;⟨o,e⟩
 refine wpAny_newObj_type ?_
 generalize hH1:s.heap.push { cls:=.type "list",dict:=none,data:=.seq ([]:List Value).toArray } = h1
 have hs1:h1.objs.size=s.heap.objs.size+1:=by rw [<- hH1,Heap.size_push]
 have k1:∀ b o,s.heap.get? b=some o->h1.get? b=some o:=fun b o e=>by rw [<- hH1];exact Heap.get?_push_of_some _ e
 have d1:h1.get? s.heap.objs.size=some { cls:=.type "list",data:=.seq ([]:List Value).toArray }:=by rw [<- hH1];exact Heap.get?_push_size _ rfl
 simp only [newFunctionEnv,Option.isSome_some,if_true]
 refine wpAny_bind (wpAny_alloc ?_)
 generalize hH2:(({ s with heap:=h1 }:Shared).heap.push { cls:=.type "dict",data:=.dict #[] })=h2
 have hH2':h1.push { cls:=.type "dict",data:=.dict #[] } = h2:=hH2
 have hs2:h2.objs.size=h1.objs.size+1:=by rw [<- hH2',Heap.size_push]
 have k2:∀ b o,h1.get? b=some o->h2.get? b=some o:=fun b o e=>by rw [<- hH2'];exact Heap.get?_push_of_some _ e
 have n2:h2.Ns h1.objs.size (fun _=>none):=by rw [<- hH2'];exact Heap.Ns.new h1 (.type "dict")
 refine wpAny_bind (wpAny_layCells _ (fun name kind cells=>by cases hkc:kind == NameKind.cell <;> simp [hkc]) _ _ _ _ ?_)
 have ok:=cellsFrom_ok scope.names h2 (h1.objs.size+1) [] ⟨fun _ _ hm=>(nomatch hm),List.Pairwise.nil⟩ (by rw [hs2];exact Nat.le_refl _)
 rw [hs2] at ok
 show wpAny _ _ (forIn ([]:List (Str × Value)) PUnit.unit _ >>= _) _ _ _
 rw [List.forIn_nil]
 refine wpAny_bind (wpAny_pure (wpAny_pure ?_))
 show codeAny _ _ (.compStart _ 0 (.ref it) (.ref s.heap.objs.size) (compEnvC scope (cellsFrom h2.objs.size scope.names (As X.env.cells scope.names [])) h1.objs.size X.env)) (RR (.ref s.heap.objs.size) h1.objs.size) { s with heap:=pushCells h2 scope.names }
 rw [hs2]
 generalize hH3:pushCells h2 scope.names=h3 at ok ⊢
 have k3:∀ b o,h2.get? b=some o->h3.get? b=some o:=fun b o e=>by rw [<- hH3];exact pushCells_keeps _ _ b o e
 have kk:∀ b o,s.heap.get? b=some o->h3.get? b=some o:=fun b o e=>k3 b o (k2 b o (k1 b o e))
 have d3:h3.get? s.heap.objs.size=some { cls:=.type "list",data:=.seq ([]:List Value).toArray }:=k3 _ _ (k2 _ _ d1)
 have hC:s.heap.objs.size < h1.objs.size:=by rw [hs1];exact Nat.lt_succ_self _
 have I3:Inv (X.comp scope N' ⟨pins,cellsFrom (h1.objs.size+1) scope.names (As X.env.cells scope.names []),s,H,fp,h1.objs.size⟩) [] (cSt own ix σ) H { s with heap:=h3 } :=
  IL (s4:={ s with heap:=h3 }) I f2 hob S hlen hN hfr hC kk rfl rfl ⟨_,n2.keeps k3⟩ (fun x c hm=>ok.empty x c hm) ok.apart
 generalize hcs:cellsFrom (h1.objs.size+1) scope.names (As X.env.cells scope.names [])=cs at I3 ⊢
 generalize hCC:h1.objs.size=C at *
 generalize hDD:s.heap.objs.size=D at *
 have hY:=I3.ok
 -- what is fixed of the records
 have sD:D≠C/\(∀ x c,cs.lookup x=some c->c≠D)/\D∉frs X.stack/\∀ p∈X.pn++pins,p.1≠D:=by
  refine ⟨Nat.ne_of_lt hC,fun x c e z=>?_,fun z=>?_,fun p hp z=>?_⟩
  ·subst z
   have e':=e
   rw [<- hcs,Ca,Db] at e'
   cases q:(cellsFrom (C+1) scope.names []).lookup x with
   | some d =>
    rw [q] at e';cases e'
    have:=(ok.empty x c (mem_of_lookup q)).2
    exact absurd (Nat.lt_of_lt_of_le hC (Nat.le_of_succ_le this)) (Nat.lt_irrefl _)
   | none =>
    rw [q] at e'
    have hfree:∀ y∈scope.names,y.2=.free->∃ c,X.env.cells.lookup y.1=some c:=fun y hy h=>I.ok.has y.1 (S.fr y hy h)
    rcases clOf_mem _ _ _ _ hfree (mem_of_lookup e') with z | ⟨_,z⟩
    ·exact absurd z (by simp)
    ·obtain ⟨v,q⟩:=I.cell x c z
     have:=q.lt
     rw [hDD] at this
     exact Nat.lt_irrefl _ this
  ·exact (I3.nofs (a:=D) (by exact absurd z (by
    intro z'
    obtain ⟨_,o,ho,_⟩:=(show s.heap.FunFrames X.base X.stack from I.stack).mem z'
    have:=Heap.lt_size ho
    rw [hDD] at this
    exact Nat.lt_irrefl _ this))) z
  ·have:=Heap.lt_size (I.pin p hp).1
   rw [z,hDD] at this
   exact Nat.lt_irrefl _ this
 have stat:∀ {H':Hp},(∀ b∈fp,H' b=none)->∀ b∈fp,BD (X.comp scope N' ⟨pins,cs,s,H,fp,C⟩) [] H' b:=fun {H'} hn b hb=>by
  refine ⟨hn b hb,(hY.exf b hb).1,hY.exfs b hb,.inl hb,(hY.exf b hb).2,fun p hp=>?_⟩
  have hp:p∈(X.pn++pins)++[]:=hp
  rw [List.append_nil] at hp
  exact (f2 b hb).2.2.2.2.2 p hp
 have statD:∀ {H':Hp},H' D=none->BD (X.comp scope N' ⟨pins,cs,s,H,fp,C⟩) [] H' D:=fun {H'} hn=>by
  refine ⟨hn,sD.1,sD.2.2.1,.inr (Nat.le_of_eq hDD),sD.2.1,fun p hp=>?_⟩
  have hp:p∈(X.pn++pins)++[]:=hp
  rw [List.append_nil] at hp
  exact sD.2.2.2 p hp
 have loop:codeAny (model X.prog X.w) X.A (.compLoop (.ListComp elt [⟨tg,iter,ifs,0⟩] scope pos) 0 (.ref it) (.ref D) (compEnvC scope cs C X.env)) (RR (.ref D) C) { s with heap:=h3 }:=by
  refine IK (fun n s'=>∃ (i:Nat) (H':Hp) (ys:List V) (its:List Value) (k:Nat),Inv (X.comp scope N' ⟨pins,cs,s,H,fp,C⟩) [] (cSt own ix σ) H' s'/\tn i s'.heap/\(∀ b∈fp,H' b=none)/\H' D=none /\
   s'.heap.get? D=some { cls:=.type "list",data:=.seq its.toArray k } /\ Vals ys its/\ys.length<=sizeLine/\W i n ys H') ?_ m0
   ⟨0,H,[],[],0,I3,T.keep _ _ _ st fun b _ o e=>kk b o e,fun b hb=>(f2 b hb).1,I.hok.fresh (Nat.le_of_eq hDD),d3,.nil,Nat.zero_le _,w0⟩
  rintro n s4 ⟨i,H4,ys,its,k,I4,st4,fr4,dn4,d4,rv4,z4,w4⟩
  rcases turn i n ys H4 w4 with ⟨stop,qn⟩ | ⟨go,zl,N,hN2,step⟩
  ·have ID:=I4.pinned (fp:=[D]) (fun b hb=>by rw [List.mem_singleton.mp hb];exact statD dn4) (fun b hb=>by rw [List.mem_singleton.mp hb];exact ⟨_,d4,fun v z=>nomatch z⟩)
   have nD:∀ b∈fp,b≠D:=fun b hb z=>by
    obtain ⟨o,e⟩:=hob b hb
    have:=Heap.lt_size e
    rw [z,hDD] at this
    exact Nat.lt_irrefl _ this
   have stat':∀ b∈fp,BD (X.comp scope N' ⟨pins,cs,s,H,fp,C⟩) ([]++BJ [D] s4.heap) H4 b:=fun b hb=>by
    obtain ⟨q1,q2,q3,q4,q5,q6⟩:=stat fr4 b hb
    refine ⟨q1,q2,q3,q4,q5,fun p hp=>?_⟩
    rcases List.mem_append.mp hp with z | z
    ·exact q6 p (List.mem_append_left _ z)
    ·have:=(Ep (by simpa using z:p∈BJ [D] s4.heap)).1
     rw [List.mem_singleton.mp this]
     exact fun z=>nD b hb z.symm
   refine thn (T.done (X.comp scope N' ⟨pins,cs,s,H,fp,C⟩) rfl rfl rfl hc i _ s4 _ H4 (fun _ _=>False) ID stat' st4 stop) fun r s5 ⟨hr,I5⟩=>?_
   subst hr
   obtain ⟨m,hm,_⟩:=I5.loc
   refine fin D C s5 H4 ys its k I5.os I5.bare I5.base I5.hok ⟨m,hm⟩ I5.free (Nat.le_of_lt hC) dn4 (Nat.le_refl _) sD.1 ?_ rv4 z4 qn
   ·exact (I5.pin (D,_) (List.mem_append_right _ (List.mem_append_right _ (CL (List.mem_singleton.mpr rfl) d4)))).1
  ·have nD:∀ b∈fp,b≠D:=fun b hb z=>by
    obtain ⟨o,e⟩:=hob b hb
    have:=Heap.lt_size e
    rw [z,hDD] at this
    exact Nat.lt_irrefl _ this
   have ID:=I4.pinned (fp:=[D]) (fun b hb=>by rw [List.mem_singleton.mp hb];exact statD dn4) (fun b hb=>by rw [List.mem_singleton.mp hb];exact ⟨_,d4,fun v z=>nomatch z⟩)
   have statP:∀ {H':Hp},(∀ b∈fp,H' b=none)->∀ b∈fp,BD (X.comp scope N' ⟨pins,cs,s,H,fp,C⟩) ([]++BJ [D] s4.heap) H' b:=fun {H'} hn b hb=>by
    obtain ⟨q1,q2,q3,q4,q5,q6⟩:=stat hn b hb
    refine ⟨q1,q2,q3,q4,q5,fun p hp=>?_⟩
    rcases List.mem_append.mp hp with z | z
    ·exact q6 p (List.mem_append_left _ z)
    ·have:=(Ep (by simpa using z:p∈BJ [D] s4.heap)).1
     rw [List.mem_singleton.mp this]
     exact fun z=>nD b hb z.symm
   refine thn (T.item (X.comp scope N' ⟨pins,cs,s,H,fp,C⟩) rfl rfl rfl hc i _ s4 _ H4 (fun _ _=>False) ID (statP fr4) st4 go) fun r s5 ⟨u,hr,h5⟩=>?_
   subst hr
   refine thn h5 fun _ s6 ⟨x,H6,I6,r6,y6,st6,fr6⟩=>?_
   have I6':=I6.pinned (statP fr6) (T.obj _ _ st6)
   refine thn (hg _ _ s6 _ H6 x u _ I6' r6 (hgo _ _ _ _ (step x H6 y6))) fun _ s7 ⟨σ7,H7,I7,⟨e7,k7⟩,q7⟩=>?_
   have I7':Inv (X.comp scope N' ⟨pins,cs,s,H,fp,C⟩) ([]++BJ [D] s4.heap++BJ fp s6.heap) σ7 H7 s7:=I7
   refine thn (ht _ _ s7 σ7 H7 _ I7' q7) fun b s8 ⟨H8,I8,q8⟩=>?_
   -- what is kept through the turn
   have back:∀ {s9:Shared} {H9:Hp},Inv (X.comp scope N' ⟨pins,cs,s,H,fp,C⟩) ([]++BJ [D] s4.heap++BJ fp s6.heap) σ7 H9 s9 ->
    Inv (X.comp scope N' ⟨pins,cs,s,H,fp,C⟩) [] (cSt own ix σ) H9 s9/\tn (i+1) s9.heap/\(∀ b∈fp,H9 b=none)/\H9 D=none/\s9.heap.get? D=some { cls:=.type "list",data:=.seq its.toArray k }:=fun {s9 H9} I9=>by
    have pD:=I9.pin (D,_) (List.mem_append_right _ (List.mem_append_left _ (List.mem_append_right _ (CL (List.mem_singleton.mpr rfl) d4))))
    refine ⟨I9.unpinned.unpinned.weak (by rw [e7]) fun j v hj=>?_,T.keep _ _ _ st6 fun b hb o e=>(I9.pin (b,o) (List.mem_append_right _ (List.mem_append_right _ (CL hb e)))).1,fun b hb=>?_,pD.2.1,pD.1⟩
    ·rw [k7 j (MC hj)];exact hj
    ·obtain ⟨o,e,_⟩:=T.obj _ _ st6 b hb
     exact (I9.pin (b,o) (List.mem_append_right _ (List.mem_append_right _ (CL hb e)))).2.1
   cases b with
   | false =>
    rw [if_neg Bool.false_ne_true] at q8
    obtain ⟨m',hm,w8⟩:=hN2 _ _ q8
    obtain ⟨b1,b2,b3,b4,b5⟩:=back I8
    exact ⟨m',hm,i+1,H8,ys,its,k,b1,b2,b3,b4,b5,rv4,z4,w8⟩
   | true =>
    rw [if_pos rfl] at q8
    rw [if_pos rfl]
    refine thn (he _ _ s8 σ7 H8 _ I8 q8) fun yv s9 ⟨y,H9,I9,r9,q9⟩=>?_
    obtain ⟨m',hm,w9⟩:=hN2 _ _ q9
    obtain ⟨b1,b2,b3,b4,b5⟩:=back I9
    have hl:=rv4.length
    refine call_meets F.slot_list_append ⟨_,b5,rfl⟩ F.entry_list_append (F.args_list_append_2 _ _) (PySem.list_append D its.toArray k yv (by rw [List.size_toArray];omega)) ⟨b5,?_⟩
    have up:=PySem.IsL.update b5 (fun a=>a.push yv)
    have keep:∀ b o,b≠D->s9.heap.get? b=some o->(s9.heap.update D (Obj.mapSeq fun a=>a.push yv)).get? b=some o:=fun b o hb q=>(Heap.get?_update_other _ _ (Ne.symm hb)).trans q
    obtain ⟨f0,f1,f2',f3,f4,f5⟩:=statD b4
    refine ⟨m',hm,i+1,H9,ys++[y],its++[yv],(if ((its.toArray.push yv).size == its.toArray.size)=true then k else k+1),b1.turned (t':=s9.toks) keep b4 f1 f3 f4 f5,?_,b3,b4,?_,rv4.append (.cons r9 .nil),?_,w9⟩
    ·exact T.keep _ _ _ b2 fun b hb o e=>keep b o (nD b hb) e
    ·have e2:(its.toArray.push yv)=(its++[yv]).toArray:=by simp
     rw [<- e2]
     exact up
    ·rw [List.length_append,List.length_singleton]
     omega
 exact codeAny_compStart_list loop (T.self X.A 0 _ _ _ (T.keep _ _ _ st fun b _ o e=>kk b o e) loop)
end
section
variable {X:Cx} {pins:List (Addr × Obj)} {σ:St} {H:Hp} {s:Shared} {fp:List Addr} {it:Addr} {tn:Nat->Heap->Prop} {J:It} {tg iter elt:Expr} {ifs:List Expr} {scope:Scope} {pos:Pos} {N':List Str} {own:Nat} {ix:List Nat} {g:TG} {tc:TT} {te:TE} {wi:TI} {E:Value->Shared->Prop}
theorem HK {H':Hp} {s':Shared} {D:Addr} {ys:List V} {its:List Value} {n:Nat} (I:Inv X pins σ H s) (f2:∀ b∈fp,BD X pins H b) (ho:s'.os=s.os) (hg:AllBare s'.gens) (u:Un (frs X.stack) fp H H' s.heap s'.heap) (hok:HOk X.prog X.w H' s'.heap)
 (dn:H' D=none) (ds:s.heap.objs.size<=D) (d:s'.heap.get? D=some { cls:=.type "list",data:=.seq its.toArray n }) (rv:Vals ys its) (z:ys.length<=sizeLine):Inv X pins σ (upd H' D (.lst ys)) s':=by
 have nD:∀ b o,s.heap.get? b=some o->b≠D:=fun b o e q=>by rw [q,Heap.get?_none_of_le ds] at e;cases e
 have nH:∀ b o,H' b=some o->b≠D:=fun b o e q=>by rw [q,dn] at e;cases e
 refine I.call' (ch:=fp) ho ⟨u.keep,u.slot,fun b o e q hx=>?_,u.there,fun b xs e=>?_,fun b o v e=>?_,fun b ps e=>?_⟩ (fun b o e=>?_) hg fun b hb=>?_
 ·rw [AJ (nD b o e)];exact u.free b o e q hx
 ·have:=u.tups b xs e
  rw [AJ (nH _ _ this)];exact this
 ·have:=u.frzs b o v e
  rw [AJ (nH _ _ this)];exact this
 ·obtain ⟨more,q⟩:=u.tbls b ps e
  exact ⟨more,by rw [AJ (nH _ _ q)];exact q⟩
 ·by_cases hb:b=D
  ·subst hb
   rw [AC] at e
   cases e
   exact ⟨z,its,n,rv,d⟩
  ·rw [AJ hb] at e
   exact (hok b o e).stay (fun _ _ _ q=>q) (fun c q=>by rw [AJ (nH _ _ q)];exact q) fun c xs q=>by rw [AJ (nH _ _ q)];exact q
 ·obtain ⟨q1,q2,q3,q4,q5,q6⟩:=f2 b hb
  exact ⟨q4,q2,q5,q6⟩
theorem Inv.dictGone {s':Shared} {h':Heap} {C:Addr} {H':Hp} {σ':St} (I:Inv X pins σ H s) (J:Inv X pins σ' H' s') (hC:s.heap.objs.size<=C) (hn:H' C=none) (k:Heap.SameBut C s'.heap h'):Inv X pins σ' H' { s' with heap:=h' }:=by
 have hC0:=Heap.get?_none_of_le hC
 refine J.turned (t':=s'.toks) (fun b o hb e=>(k.2 b hb).trans e) hn (fun z=>?_) (.inr (Nat.le_trans I.sz hC)) (fun x c e z=>?_) fun p hp z=>?_
 ·obtain ⟨m,⟨o,_,_,ho,_⟩,_⟩:=I.loc
  rw [<- z,hC0] at ho;cases ho
 ·obtain ⟨v,o,ho,_⟩:=I.cell x c e
  rw [z,hC0] at ho;cases ho
 ·have:=(I.pin p hp).1
  rw [z,hC0] at this;cases this
theorem IB (hc:X.calm=true) (hi:PI X tg iter wi) (S:CompScope scope X.env.scope)
 (hlen:N'.length=own+ix.length) (hN:(N'.drop own).map some=ix.map (X.N[·]?)) (hfr:∀ x∈N'.drop own,scope.names.lookup x=some .free)
 (hg:∀ c,PG (X.comp scope N' c) tg g) (hgo:CT own g) (ht:∀ c,PTs (X.comp scope N' c) ifs tc) (he:∀ c,PE (X.comp scope N' c) elt te)
 (hs:∀ x,foldedSetIterable iter X.env x=pure x:=by intro _;rfl):PE X (.ListComp elt [⟨tg,iter,ifs,0⟩] scope pos) (Cz wi own ix g tc te):=by
 intro pins s σ H Q I h
 rw [eval_ListComp]
 have hfree:∀ y∈scope.names,y.2=.free->∃ c,X.env.cells.lookup y.1=some c:=fun y hy h=>I.ok.has y.1 (S.fr y hy h)
 refine wpAny_comprehension_free (use:=none) rfl hs (GN hfree) S.kind (fun y hy hl=>Bx S.nd (by rw [<- hl];exact hy)) ?_
 refine thn (hi pins s σ H _ I h) fun v s1 h1=>thn h1 fun itv s2 h2=>?_
 obtain ⟨it,fp,tn,J,H2,e,I2,T,st2,f2,q2⟩:=h2
 subst e
 refine He (RR:=fun acc C=>compPost (model X.prog X.w) X.A X.xe none (EP X pins σ Q) acc C) I2 T st2 f2 hc S hlen hN hfr hg hgo ht he q2 ?_
 intro D C s' H' ys its n ho hgn u hok hm hC hCs hD hDs hDC d rv z q
 obtain ⟨m,hm⟩:=hm
 have I3:=HK I2 f2 ho hgn u hok hD hDs d rv z
 refine ⟨m,hm,fun h' hs'=>?_⟩
 exact ⟨.ref D,_,I2.dictGone I3 hCs (by rw [AJ (Ne.symm hDC)];exact hC) hs',rfl,q D hD⟩
theorem Kt {i:Nat} {y:Str} {py spos:Pos} (hc:X.calm=true) (hnd:X.N.Nodup) (hiy:X.N[i]? = some y) (hy:X.env.scope.names.lookup y=some .local) (hi:PI X tg iter wi) (S:CompScope scope X.env.scope)
 (hlen:N'.length=own+ix.length) (hN:(N'.drop own).map some=ix.map (X.N[·]?)) (hfr:∀ x∈N'.drop own,scope.names.lookup x=some .free)
 (hg:∀ c,PG (X.comp scope N' c) tg g) (hgo:CT own g) (ht:∀ c,PTs (X.comp scope N' c) ifs tc) (he:∀ c,PE (X.comp scope N' c) elt te)
 (hsw:swapsWith (.ListComp elt [⟨tg,iter,ifs,0⟩] scope pos) (some (.Name y py)) spos.line X.env=pure true)
 (hs:∀ x,foldedSetIterable iter X.env x=pure x:=by intro _;rfl):PS X (.Assign [.Name y py] (.ListComp elt [⟨tg,iter,ifs,0⟩] scope pos) spos) (Cm (Cz wi own ix g tc te) (Ai i)):=by
 intro pins s σ H D I h
 rw [exec_Assign_Name_used _ _ _ _ hsw]
 refine wpAny_bind (wpAny_standAt (wpAny_bind ?_))
 show wpAny _ _ (do let _ <- comprehension (.ListComp elt [⟨tg,iter,ifs,0⟩] scope pos) scope X.env _ (newList []) false (eval iter X.env) (some (assign (.Name y py) X.env))) _ _ s
 have hfree:∀ y∈scope.names,y.2=.free->∃ c,X.env.cells.lookup y.1=some c:=fun y hy h=>I.ok.has y.1 (S.fr y hy h)
 refine wpAny_bind (wpAny_mono (wpAny_comprehension_free (use:=some (assign (.Name y py) X.env)) (Q:=fun _ s'=>SP X pins D .next s') rfl hs (GN hfree) S.kind (fun y hy hl=>Bx S.nd (by rw [<- hl];exact hy)) ?_) (fun _ s' hq=>wpAny_pure (wpAny_pure hq)) fun _ _ e=>e)
 refine thn (hi pins s σ H _ I h) fun v s1 h1=>thn h1 fun itv s2 h2=>?_
 obtain ⟨it,fp,tn,J,H2,e,I2,T,st2,f2,q2⟩:=h2
 subst e
 refine He (RR:=fun acc C=>compPost (model X.prog X.w) X.A X.xe (some (assign (.Name y py) X.env)) (fun _ s'=>SP X pins D .next s') acc C) I2 T st2 f2 hc S hlen hN hfr hg hgo ht he q2 ?_
 intro d C s' H' ys its n ho hgn u hok hm hC hCs hD hDs hDC hd rv z q
 obtain ⟨m,hm⟩:=hm
 have I3:=HK I2 f2 ho hgn u hok hD hDs hd rv z
 show wpAny _ _ (assign (.Name y py) X.env (.ref d)) _ _ s'
 have hCn:(upd H' d (.lst ys)) C=none:=by rw [AJ (Ne.symm hDC)];exact hC
 refine wpAny_assign_Name (Gh I3 hnd hiy (.inl hy) (v:=.ref d) rfl (fun s3 I4 ⟨a,sb,ha⟩=>?_) (.inr hy))
 have ha':a≠C:=fun e=>by
  have hC0:=Heap.get?_none_of_le hCs
  rcases ha with z | z
  ·obtain ⟨m,⟨o,_,_,ho,_⟩,_⟩:=I2.loc
   rw [<- z,e,hC0] at ho;cases ho
  ·obtain ⟨v,o,ho,_⟩:=I2.cell y a z
   rw [e,hC0] at ho;cases ho
 refine ⟨m,hm.sameBut sb (Ne.symm ha'),fun h' hs'=>?_⟩
 exact ⟨_,_,I2.dictGone I4 hCs hCn hs',q d hD⟩
end
section
variable {X:Cx}
theorem PE.imp {e:Expr} {t t':TE} (h:PE X e t) (f:∀ σ H Q,t' σ H Q->t σ H Q):PE X e t':=fun pins s σ H Q I q=>h pins s σ H Q I (f σ H Q q)
theorem OpR.imp {f:Value->Value->Sem Value} {r r':R2} (h:OpR X f r) (g:∀ x y H Q,r' x y H Q->r x y H Q):OpR X f r':=fun pins s σ H x y v u Q I rx ry q=>h pins s σ H x y v u Q I rx ry (g _ _ _ _ q)
theorem CallR.imp {f:Value} {r r':List V->Hp->VK->Prop} (h:CallR X f r) (g:∀ x H Q,r' x H Q->r x H Q):CallR X f r':=fun pins s σ H xs us Q I r q=>h pins s σ H xs us Q I r (g _ _ _ q)
def DA (i:Nat):TE:=fun σ H Q=>match σ[i]? with
 | some (some v)=>Q v H
 | _=>False
theorem vv (i:Nat) {x:Str} {pos:Pos} (hN:X.N[i]? = some x:=by rfl) (hv:Vis X.env.scope x:=by first | exact Or.inl rfl | exact Or.inr (Or.inl rfl) | exact Or.inr (Or.inr rfl)) (hd:(x == ("__debug__" : Str))=false:=by decide)
 (hcd:(x == ("__classdict__" : Str))=false:=by decide):PE X (.Name x pos) (DA i):=(Go hN hv hd hcd).imp fun σ H Q q=>by
 unfold DA at q
 split at q
 ·rename_i v e;exact ⟨v,e,q⟩
 ·exact q.elim
def okMul (i j:Int):Prop:=(i.natAbs < 2 ^ 4096/\j.natAbs < 2 ^ 4096)\/(-(2 ^ 64) < i/\i < 2 ^ 64)\/(-(2 ^ 64) < j/\j < 2 ^ 64)
theorem Gv {i:Int} (h:i.natAbs < 2 ^ 4096):Builtin.Int.intBits i<=2 ^ 20:=by
 unfold Builtin.Int.intBits
 split
 ·exact Nat.zero_le _
 ·rename_i hz
  have hne:i.natAbs≠0:=by
   have:¬ i=0:=by simpa using hz
   omega
  have:=(Nat.log2_lt hne).mpr h
  have e:(2:Nat) ^ 20=1048576:=by decide
  omega
theorem okMul.ok {i j:Int} (h:okMul i j):IntMulOk i j:=by
 rcases h with ⟨h1,h2⟩ | h | h
 ·exact .of_bits (Gv h1) (Gv h2)
 ·exact CMul.ok (.inl h)
 ·exact CMul.ok (.inr h)
def okDiv (j:Int):Prop:=0 < j/\j < 2 ^ 4096
theorem okDiv.ok {i j:Int} (h:okDiv j):Builtin.divisionGoesByPylong i j=false:=by
 refine PyProof.noPylong_of_log2 ?_
 obtain ⟨h1,h2⟩:=h
 have hne:j.natAbs≠0:=by omega
 have h3:j.natAbs < 2 ^ 4096:=by
  have e:((j.natAbs:Int))=j:=by omega
  have h2':((j.natAbs:Nat):Int) < ((2 ^ 4096:Nat):Int):=by rw [e,Int.natCast_pow];exact h2
  exact Int.ofNat_lt.mp h2'
 have:=(Nat.log2_lt hne).mpr h3
 omega
def DF (K:PySem.W.Frag):R2:=fun x y H Q=>match x,y with
 | .int i,.int j=>Q (.int (i+j)) H
 | .str a,.str b=>a.length+b.length<=sizeLine/\Q (.str (a++b)) H
 | .ref a,.ref b=>Ev (.ref a) (.ref b) H Q\/FT K (.ref a) (.ref b) H Q
 | _,_=>False
theorem Kk:OpR X (binaryOp .Add) (DF X.K):=by
 intro pins s σ H x y v u Q I rx ry q
 cases x <;> cases y <;> first
  | exact False.elim q
  | exact Gq pins s σ H _ _ v u Q I rx ry ⟨_,_,rfl,rfl,q⟩
  | exact JB pins s σ H _ _ v u Q I rx ry ⟨_,_,rfl,rfl,q.1,q.2⟩
  | (rcases q with q | q
     ·exact Hn pins s σ H _ _ v u Q I rx ry q
     ·exact Ho pins s σ H _ _ v u Q I rx ry q)
def FC:R2:=fun x y H Q=>match x,y with
 | .int i,.int j=>Q (.int (i - j)) H
 | _,_=>False
theorem Au:OpR X (binaryOp .Sub) FC:=by
 intro pins s σ H x y v u Q I rx ry q
 cases x <;> cases y <;> first
  | exact False.elim q
  | exact Lu pins s σ H _ _ v u Q I rx ry ⟨_,_,rfl,rfl,q⟩
def Ks:R2:=fun x y H Q=>match x,y with
 | .int i,.int j=>okMul i j/\Q (.int (i * j)) H
 | .ref a,.int k=>GD (.ref a) (.int k) H Q
 | _,_=>False
theorem Dk:OpR X (binaryOp .Mult) Ks:=by
 have hI:OpR X (binaryOp .Mult) (rI okMul fun i j=>.int (i * j)):=opI fun _ _ _ _ _ _ _ hc q=>mul_int q hc.ok
 intro pins s σ H x y v u Q I rx ry q
 cases x <;> cases y <;> first
  | exact False.elim q
  | exact hI pins s σ H _ _ v u Q I rx ry ⟨_,_,rfl,rfl,q.1,q.2⟩
  | exact Lr pins s σ H _ _ v u Q I rx ry q
def E3:R2:=fun x y H Q=>match x,y with
 | .int i,.int j=>okDiv j/\Q (.int (i / j)) H
 | _,_=>False
theorem El:OpR X (binaryOp .FloorDiv) E3:=by
 have hI:OpR X (binaryOp .FloorDiv) (rI (fun _ j=>okDiv j) fun i j=>.int (i / j)):=opI fun i j _ _ _ _ _ hc q=>by
  refine floordiv_int (by have:=hc.1;omega) ?_ (.inl hc.ok)
  rw [Int.fdiv_eq_ediv_of_nonneg i (by have:=hc.1;omega)]
  exact q
 intro pins s σ H x y v u Q I rx ry q
 cases x <;> cases y <;> first
  | exact False.elim q
  | exact hI pins s σ H _ _ v u Q I rx ry ⟨_,_,rfl,rfl,q.1,q.2⟩
def E5:R2:=fun x y H Q=>match x,y with
 | .int i,.int j=>0 < j/\Q (.int (i % j)) H
 | _,_=>False
theorem Bb:OpR X (binaryOp .Mod) E5:=by
 intro pins s σ H x y v u Q I rx ry q
 cases x <;> cases y <;> first
  | exact False.elim q
  | exact Kp pins s σ H _ _ v u Q I rx ry ⟨_,_,rfl,rfl,q.1,q.2⟩
def Ef:R2:=fun x y H Q=>match x,y with
 | .int i,.int j=>Fs i j/\Q (.int (i ^ j.toNat)) H
 | _,_=>False
theorem D4:OpR X (binaryOp .Pow) Ef:=by
 intro pins s σ H x y v u Q I rx ry q
 cases x <;> cases y <;> first
  | exact False.elim q
  | exact LU pins s σ H _ _ v u Q I rx ry ⟨_,_,rfl,rfl,q.1,q.2⟩
def MO:V->Hp->VK->Prop:=fun x H Q=>match x with
 | .int i=>Q (.int (-i)) H
 | _=>False
theorem DL:UnR X (unaryOp .USub) MO:=by
 intro pins s σ H x v Q I rx q
 cases x <;> first
  | exact False.elim q
  | exact Jw pins s σ H _ v Q I rx ⟨_,rfl,q⟩
def Cw (p:Int->Int->Bool):R2:=fun x y H Q=>match x,y with
 | .int i,.int j=>Q (.bl (p i j)) H
 | _,_=>False
theorem Bc:OpR X (compareOp .Lt) (Cw fun i j=>decide (i < j)):=by
 intro pins s σ H x y v u Q I rx ry q
 cases x <;> cases y <;> first
  | exact False.elim q
  | exact MW pins s σ H _ _ v u Q I rx ry ⟨_,_,rfl,rfl,q⟩
theorem DV:OpR X (compareOp .LtE) (Cw fun i j=>decide (i<=j)):=by
 intro pins s σ H x y v u Q I rx ry q
 cases x <;> cases y <;> first
  | exact False.elim q
  | exact LW pins s σ H _ _ v u Q I rx ry ⟨_,_,rfl,rfl,q⟩
theorem BR:OpR X (compareOp .Gt) (Cw fun i j=>decide (j < i)):=by
 intro pins s σ H x y v u Q I rx ry q
 cases x <;> cases y <;> first
  | exact False.elim q
  | exact Iu pins s σ H _ _ v u Q I rx ry ⟨_,_,rfl,rfl,q⟩
end
inductive Dv where
 | non | bl (b:Bool) | int (i:Int) | str (x:Str) | tup (ds:List Dv) | lst (ds:List Dv)
mutual
def Rep (K:PySem.W.Frag) (H:Hp):Dv->V->Prop
 | .non,v=>v=.non
 | .bl b,v=>v=.bl b
 | .int i,v=>v=.int i
 | .str x,v=>v=.str x
 | .tup ds,v=>∃ a xs,v=.ref a/\SqT K H a xs/\Reps K H ds xs
 | .lst ds,v=>∃ a xs,v=.ref a/\SqL K H a xs/\Reps K H ds xs
def Reps (K:PySem.W.Frag) (H:Hp):List Dv->List V->Prop
 | [],xs=>xs=[]
 | d::ds,xs=>∃ x r,xs=x::r/\Rep K H d x/\Reps K H ds r
end
mutual
def eqD:Dv->Dv->Bool
 | .non,.non=>true
 | .bl a,.bl b=>a == b
 | .bl a,.int b=>(if a then 1 else 0) == b
 | .int a,.bl b=>a == (if b then 1 else 0)
 | .int a,.int b=>a == b
 | .str a,.str b=>a == b
 | .tup ds,.tup es=>Av ds es
 | .lst ds,.lst es=>Av ds es
 | _,_=>false
def Av:List Dv->List Dv->Bool
 | [],[]=>true
 | d::ds,e::es=>eqD d e && Av ds es
 | _,_=>false
end
mutual
def Aq:Dv->Nat
 | .tup ds=>C9 ds+1
 | .lst ds=>C9 ds+1
 | _=>0
def C9:List Dv->Nat
 | []=>0
 | d::ds=>max (Aq d) (C9 ds)
end
theorem Lg (ds es:List Dv):eqD (.tup ds) (.tup es)=Av ds es:=by rw [eqD]
theorem FO (ds es:List Dv):eqD (.lst ds) (.lst es)=Av ds es:=by rw [eqD]
theorem Reps.length {K:PySem.W.Frag} {H:Hp}:∀ {ds:List Dv} {xs:List V},Reps K H ds xs->ds.length=xs.length
 | [],xs,h=>by unfold Reps at h;subst h;rfl
 | d::ds,xs,h=>by
  unfold Reps at h
  obtain ⟨x,r,rfl,_,h⟩:=h
  rw [List.length_cons,List.length_cons,Reps.length h]
theorem Reps.get {K:PySem.W.Frag} {H:Hp}:∀ {ds:List Dv} {xs:List V} {i:Nat} {d:Dv},Reps K H ds xs->ds[i]? = some d->∃ x,xs[i]? = some x/\Rep K H d x
 | [],_,_,_,_,e=>by simp at e
 | d::ds,xs,0,_,h,e=>by
  unfold Reps at h
  obtain ⟨x,r,rfl,h1,_⟩:=h
  simp at e;subst e
  exact ⟨x,rfl,h1⟩
 | d::ds,xs,i+1,_,h,e=>by
  unfold Reps at h
  obtain ⟨x,r,rfl,_,h⟩:=h
  obtain ⟨y,h1,h2⟩:=Reps.get (i:=i) h (by simpa using e)
  exact ⟨y,by simpa using h1,h2⟩
theorem Gw {ds:List Dv} {i:Nat} {d:Dv} (h:ds[i]? = some d):Aq d<=C9 ds:=by
 induction ds generalizing i with
 | nil=>simp at h
 | cons e es ih =>
  unfold C9
  cases i with
  | zero=>simp at h;subst h;omega
  | succ i=>have:=ih (i:=i) (by simpa using h);omega
theorem D9:∀ (ds es:List Dv),ds.length=es.length->Av ds es=(List.range ds.length).all fun i=>match ds[i]?,es[i]? with | some d,some e=>eqD d e | _,_=>false
 | [],[],_=>by unfold Av;rfl
 | d::ds,e::es,h=>by
  unfold Av
  rw [List.length_cons,List.range_succ_eq_map,List.all_cons,List.all_map,D9 ds es (by simpa using h)]
  congr 1
 | [],e::es,h=>by simp at h
 | d::ds,[],h=>by simp at h
theorem Eu:∀ (ds es:List Dv),ds.length≠es.length->Av ds es=false
 | [],[],h=>absurd rfl h
 | [],_::_,_=>by unfold Av;rfl
 | _::_,[],_=>by unfold Av;rfl
 | d::ds,e::es,h=>by unfold Av;rw [Eu ds es (fun z=>h (by simp [z])),Bool.and_false]
mutual
theorem EB:∀ d:Dv,eqD d d=true
 | .non=>by unfold eqD;rfl
 | .bl b=>by unfold eqD;simp
 | .int i=>by unfold eqD;simp
 | .str x=>by unfold eqD;simp
 | .tup ds=>by unfold eqD;exact FD ds
 | .lst ds=>by unfold eqD;exact FD ds
theorem FD:∀ ds:List Dv,Av ds ds=true
 | []=>by unfold Av;rfl
 | d::ds=>by unfold Av;rw [EB d,FD ds];rfl
end
section
variable {X:Cx} {pins:List (Addr × Obj)} {σ:St} {H:Hp} {s:Shared}
theorem G2 {a:Addr} {xs ys:List V} (I:Inv X pins σ H s) (h:SqL X.K H a xs) (h':SqT X.K H a ys):False:=by
 obtain ⟨its,_,⟨o,n,e,c,_⟩,_⟩:=I.list h
 obtain ⟨its',_,⟨o',e',c',_⟩,_⟩:=I.tuple h'
 rw [e] at e';cases e'
 rw [c] at c'
 exact absurd c' (by decide)
mutual
theorem Eb (I:Inv X pins σ H s):∀ (d e:Dv) (x:V),Rep X.K H d x->Rep X.K H e x->d=e
 | .non,e,x,h,h'=>by
  unfold Rep at h;subst h
  cases e <;> unfold Rep at h' <;> first | rfl | (obtain ⟨a,xs,q,_⟩:=h';cases q;done) | (cases h';done)
 | .bl b,e,x,h,h'=>by
  unfold Rep at h;subst h
  cases e <;> unfold Rep at h' <;> first | (obtain ⟨a,xs,q,_⟩:=h';cases q;done) | (cases h';rfl) | (cases h';done)
 | .int b,e,x,h,h'=>by
  unfold Rep at h;subst h
  cases e <;> unfold Rep at h' <;> first | (obtain ⟨a,xs,q,_⟩:=h';cases q;done) | (cases h';rfl) | (cases h';done)
 | .str b,e,x,h,h'=>by
  unfold Rep at h;subst h
  cases e <;> unfold Rep at h' <;> first | (obtain ⟨a,xs,q,_⟩:=h';cases q;done) | (cases h';rfl) | (cases h';done)
 | .tup ds,e,x,h,h'=>by
  unfold Rep at h
  obtain ⟨a,xs,rfl,hs,hr⟩:=h
  cases e with
  | tup es =>
   unfold Rep at h'
   obtain ⟨b,ys,q,hs',hr'⟩:=h'
   cases q
   rw [I.tuple_inj hs' hs] at hr'
   rw [Es I ds es xs hr hr']
  | lst es =>
   unfold Rep at h'
   obtain ⟨b,ys,q,hs',hr'⟩:=h'
   cases q
   exact (G2 I hs' hs).elim
  | _=>unfold Rep at h';cases h'
 | .lst ds,e,x,h,h'=>by
  unfold Rep at h
  obtain ⟨a,xs,rfl,hs,hr⟩:=h
  cases e with
  | lst es =>
   unfold Rep at h'
   obtain ⟨b,ys,q,hs',hr'⟩:=h'
   cases q
   rw [I.list_inj hs' hs] at hr'
   rw [Es I ds es xs hr hr']
  | tup es =>
   unfold Rep at h'
   obtain ⟨b,ys,q,hs',hr'⟩:=h'
   cases q
   exact (G2 I hs hs').elim
  | _=>unfold Rep at h';cases h'
theorem Es (I:Inv X pins σ H s):∀ (ds es:List Dv) (xs:List V),Reps X.K H ds xs->Reps X.K H es xs->ds=es
 | [],es,xs,h,h'=>by
  unfold Reps at h;subst h
  cases es with
  | nil=>rfl
  | cons e es=>unfold Reps at h';obtain ⟨x,r,q,_⟩:=h';cases q
 | d::ds,es,xs,h,h'=>by
  unfold Reps at h
  obtain ⟨x,r,rfl,h1,h2⟩:=h
  cases es with
  | nil=>unfold Reps at h';cases h'
  | cons e es =>
   unfold Reps at h'
   obtain ⟨y,r',q,h3,h4⟩:=h'
   cases q
   rw [Eb I d e _ h1 h3,Es I ds es _ h2 h4]
end
abbrev Eq3 (A:Around) (s:Shared) (u v:Value) (b:Bool):Prop:=SeqAt.EqAt A s u v b/\SeqAt.RcAt A s u v b/\SeqAt.RcNeAt A s u v (!b)
theorem Kh {A:Around} {a b:Addr} {xs ys:List V} {ds es:List Dv} (I:Inv X pins σ H s) (hu:A.units < cLine) (ha:SqT X.K H a xs) (hb:SqT X.K H b ys) (hd:Reps X.K H ds xs) (he:Reps X.K H es ys)
 (ih:∀ (i:Nat) (d e:Dv) (x y:V) (u v:Value),ds[i]? = some d->es[i]? = some e->xs[i]? = some x->ys[i]? = some y->RelV x u->RelV y v->SeqAt.EqAt A.in1 s u v (eqD d e)):Eq3 A s (.ref a) (.ref b) (eqD (.tup ds) (.tup es)):=by
 obtain ⟨its,r1,p1,_⟩:=I.tuple ha
 obtain ⟨its2,r2,p2,_⟩:=I.tuple hb
 have l1:=hd.length;have l2:=he.length;have l3:=r1.length;have l4:=r2.length
 have hitem:∀ j (h1:j < its.toArray.size) (h2:j < its2.toArray.size),SeqAt.EqAt A.in1 s its.toArray[j] its2.toArray[j] (match ds[j]?,es[j]? with | some d,some e=>eqD d e | _,_=>false):=fun j h1 h2=>by
  rw [List.size_toArray] at h1 h2
  have e1:ds[j]? = some ds[j]:=List.getElem?_eq_getElem (by omega)
  have e2:es[j]? = some es[j]:=List.getElem?_eq_getElem (by omega)
  have e3:xs[j]? = some xs[j]:=List.getElem?_eq_getElem (by omega)
  have e4:ys[j]? = some ys[j]:=List.getElem?_eq_getElem (by omega)
  obtain ⟨u,q1,q2⟩:=r1.get e3
  obtain ⟨v,q3,q4⟩:=r2.get e4
  rw [e1,e2]
  have z1:its.toArray[j]=u:=by rw [List.getElem_toArray];rw [List.getElem?_eq_getElem h1] at q1;exact Option.some.inj q1
  have z2:its2.toArray[j]=v:=by rw [List.getElem_toArray];rw [List.getElem?_eq_getElem h2] at q3;exact Option.some.inj q3
  rw [z1,z2]
  exact ih j _ _ _ _ _ _ e1 e2 e3 e4 q2 q4
 have val:((List.range (min its.toArray.size its2.toArray.size)).all (fun j=>match ds[j]?,es[j]? with | some d,some e=>eqD d e | _,_=>false) && its.toArray.size == its2.toArray.size)=eqD (.tup ds) (.tup es):=by
  rw [List.size_toArray,List.size_toArray,<- l3,<- l4,<- l1,<- l2,Lg]
  by_cases h:ds.length=es.length
  ·rw [h,Nat.min_self,<- h,D9 ds es h]
   simp
  ·rw [Eu ds es h]
   have:(ds.length == es.length)=false:=by simpa using h
   rw [this,Bool.and_false]
 have R:=SeqAt.RcAt.tuples (A:=A) p1 p2 hu hitem
 have N:=SeqAt.RcNeAt.tuples (A:=A) p1 p2 hu hitem
 rw [val] at R N
 refine ⟨?_,R,N⟩
 by_cases hab:a=b
 ·subst hab
  have e:ds=es:=by
   have:=Eb I (.tup ds) (.tup es) (.ref a) (by unfold Rep;exact ⟨a,xs,rfl,ha,hd⟩) (by unfold Rep;exact ⟨a,ys,rfl,hb,he⟩)
   cases this;rfl
  subst e
  rw [EB]
  exact SeqAt.EqAt.same _
 ·exact .of_refs hab R
theorem KL {A:Around} {a b:Addr} {xs ys:List V} {ds es:List Dv} (I:Inv X pins σ H s) (hu:A.units < cLine) (ha:SqL X.K H a xs) (hb:SqL X.K H b ys) (hd:Reps X.K H ds xs) (he:Reps X.K H es ys)
 (ih:∀ (i:Nat) (d e:Dv) (x y:V) (u v:Value),ds[i]? = some d->es[i]? = some e->xs[i]? = some x->ys[i]? = some y->RelV x u->RelV y v->SeqAt.EqAt A.in1 s u v (eqD d e)):Eq3 A s (.ref a) (.ref b) (eqD (.lst ds) (.lst es)):=by
 obtain ⟨its,r1,p1,_⟩:=I.list ha
 obtain ⟨its2,r2,p2,_⟩:=I.list hb
 have l1:=hd.length;have l2:=he.length;have l3:=r1.length;have l4:=r2.length
 have hitem:∀ j (h1:j < its.toArray.size) (h2:j < its2.toArray.size),SeqAt.EqAt A.in1 s its.toArray[j] its2.toArray[j] (match ds[j]?,es[j]? with | some d,some e=>eqD d e | _,_=>false):=fun j h1 h2=>by
  rw [List.size_toArray] at h1 h2
  have e1:ds[j]? = some ds[j]:=List.getElem?_eq_getElem (by omega)
  have e2:es[j]? = some es[j]:=List.getElem?_eq_getElem (by omega)
  have e3:xs[j]? = some xs[j]:=List.getElem?_eq_getElem (by omega)
  have e4:ys[j]? = some ys[j]:=List.getElem?_eq_getElem (by omega)
  obtain ⟨u,q1,q2⟩:=r1.get e3
  obtain ⟨v,q3,q4⟩:=r2.get e4
  rw [e1,e2]
  have z1:its.toArray[j]=u:=by rw [List.getElem_toArray];rw [List.getElem?_eq_getElem h1] at q1;exact Option.some.inj q1
  have z2:its2.toArray[j]=v:=by rw [List.getElem_toArray];rw [List.getElem?_eq_getElem h2] at q3;exact Option.some.inj q3
  rw [z1,z2]
  exact ih j _ _ _ _ _ _ e1 e2 e3 e4 q2 q4
 have RN:SeqAt.RcAt A s (.ref a) (.ref b) (eqD (.lst ds) (.lst es))/\SeqAt.RcNeAt A s (.ref a) (.ref b) (!eqD (.lst ds) (.lst es)):=by
  by_cases h:ds.length=es.length
  ·have hsz:its.toArray.size=its2.toArray.size:=by rw [List.size_toArray,List.size_toArray];omega
   have val:(List.range its.toArray.size).all (fun j=>match ds[j]?,es[j]? with | some d,some e=>eqD d e | _,_=>false)=eqD (.lst ds) (.lst es):=by
    rw [FO,List.size_toArray,<- l3,<- l1,D9 ds es h]
   have R:=SeqAt.RcAt.lists (A:=A) p1.isList p2.isList hsz hu hitem
   have N:=SeqAt.RcNeAt.lists (A:=A) p1.isList p2.isList hsz hu hitem
   rw [val] at R N
   exact ⟨R,N⟩
  ·have hsz:(its.toArray.size != its2.toArray.size)=true:=by rw [List.size_toArray,List.size_toArray];simp;omega
   have val:eqD (.lst ds) (.lst es)=false:=by rw [FO];exact Eu ds es h
   rw [val]
   exact ⟨SeqAt.RcAt.lists_lengths p1.isList p2.isList hsz hu,SeqAt.RcNeAt.lists_lengths p1.isList p2.isList hsz hu⟩
 refine ⟨?_,RN.1,RN.2⟩
 by_cases hab:a=b
 ·subst hab
  have e:ds=es:=by
   have:=Eb I (.lst ds) (.lst es) (.ref a) (by unfold Rep;exact ⟨a,xs,rfl,ha,hd⟩) (by unfold Rep;exact ⟨a,ys,rfl,hb,he⟩)
   cases this;rfl
  subst e
  rw [EB]
  exact SeqAt.EqAt.same _
 ·exact .of_refs hab RN.1
theorem Gx (I:Inv X pins σ H s):∀ (n:Nat) (A:Around) (d e:Dv) (x y:V) (u v:Value),Aq d<=n->A.units+n < cLine->Rep X.K H d x->Rep X.K H e y->RelV x u->RelV y v->Eq3 A s u v (eqD d e):=by
 intro n
 induction n with
 | zero =>
  intro A d e x y u v hd hu hx hy ru rv
  have hu':A.units < cLine:=by omega
  cases d with
  | tup ds=>unfold Aq at hd;omega
  | lst ds=>unfold Aq at hd;omega
  | non =>
   unfold Rep at hx;subst hx;cases ru
   cases e <;> unfold Rep at hy
   case non=>subst hy;cases rv;exact ⟨SeqAt.EqAt.same _,SeqAt.RcAt.none_none,SeqAt.RcNeAt.none_none⟩
   case bl=>subst hy;cases rv;exact ⟨.none_bool _,.none_bool _,.none_bool _⟩
   case int=>subst hy;obtain ⟨t,rfl⟩:=rv;exact ⟨.none_int _ _,.none_int _ _,.none_int _ _⟩
   case str=>subst hy;obtain ⟨t,rfl⟩:=rv;exact ⟨.none_str _ _,.none_str _ _,.none_str _ _⟩
   case tup=>obtain ⟨a,xs,rfl,ha,_⟩:=hy;cases rv;obtain ⟨its,_,p,_⟩:=I.tuple ha;exact ⟨.none_tuple p hu',.none_tuple p hu',.none_tuple p hu'⟩
   case lst=>obtain ⟨a,xs,rfl,ha,_⟩:=hy;cases rv;obtain ⟨its,_,p,_⟩:=I.list ha;exact ⟨.none_list p.isList hu',.none_list p.isList hu',.none_list p.isList hu'⟩
  | bl c =>
   unfold Rep at hx;subst hx;cases ru
   cases e <;> unfold Rep at hy
   case non=>subst hy;cases rv;exact ⟨.bool_none _,.bool_none _,.bool_none _⟩
   case bl=>subst hy;cases rv;unfold eqD;exact ⟨.bool_bool _ _,.bool_bool _ _,.bool_bool _ _⟩
   case int=>subst hy;obtain ⟨t,rfl⟩:=rv;unfold eqD;exact ⟨.bool_int _ _ _,.bool_int _ _ _,.bool_int _ _ _⟩
   case str=>subst hy;obtain ⟨t,rfl⟩:=rv;exact ⟨.bool_str _ _ _,.bool_str _ _ _,.bool_str _ _ _⟩
   case tup=>obtain ⟨a,xs,rfl,ha,_⟩:=hy;cases rv;obtain ⟨its,_,p,_⟩:=I.tuple ha;exact ⟨.bool_tuple _ p hu',.bool_tuple _ p hu',.bool_tuple _ p hu'⟩
   case lst=>obtain ⟨a,xs,rfl,ha,_⟩:=hy;cases rv;obtain ⟨its,_,p,_⟩:=I.list ha;exact ⟨.bool_list _ p.isList hu',.bool_list _ p.isList hu',.bool_list _ p.isList hu'⟩
  | int c =>
   unfold Rep at hx;subst hx;obtain ⟨t0,rfl⟩:=ru
   cases e <;> unfold Rep at hy
   case non=>subst hy;cases rv;exact ⟨.int_none _ _,.int_none _ _,.int_none _ _⟩
   case bl=>subst hy;cases rv;unfold eqD;exact ⟨.int_bool _ _ _,.int_bool _ _ _,.int_bool _ _ _⟩
   case int=>subst hy;obtain ⟨t,rfl⟩:=rv;unfold eqD;exact ⟨.int_int _ _ _ _,.int_int _ _ _ _,.int_int _ _ _ _⟩
   case str=>subst hy;obtain ⟨t,rfl⟩:=rv;exact ⟨.int_str _ _ _ _,.int_str _ _ _ _,.int_str _ _ _ _⟩
   case tup=>obtain ⟨a,xs,rfl,ha,_⟩:=hy;cases rv;obtain ⟨its,_,p,_⟩:=I.tuple ha;exact ⟨.int_tuple _ _ p hu',.int_tuple _ _ p hu',.int_tuple _ _ p hu'⟩
   case lst=>obtain ⟨a,xs,rfl,ha,_⟩:=hy;cases rv;obtain ⟨its,_,p,_⟩:=I.list ha;exact ⟨.int_list _ _ p.isList hu',.int_list _ _ p.isList hu',.int_list _ _ p.isList hu'⟩
  | str c =>
   unfold Rep at hx;subst hx;obtain ⟨t0,rfl⟩:=ru
   cases e <;> unfold Rep at hy
   case non=>subst hy;cases rv;exact ⟨.str_none _ _,.str_none _ _,.str_none _ _⟩
   case bl=>subst hy;cases rv;exact ⟨.str_bool _ _ _,.str_bool _ _ _,.str_bool _ _ _⟩
   case int=>subst hy;obtain ⟨t,rfl⟩:=rv;exact ⟨.str_int _ _ _ _,.str_int _ _ _ _,.str_int _ _ _ _⟩
   case str=>subst hy;obtain ⟨t,rfl⟩:=rv;unfold eqD;exact ⟨.str_str _ _ _ _,.str_str _ _ _ _,.str_str _ _ _ _⟩
   case tup=>obtain ⟨a,xs,rfl,ha,_⟩:=hy;cases rv;obtain ⟨its,_,p,_⟩:=I.tuple ha;exact ⟨.str_tuple _ _ p hu',.str_tuple _ _ p hu',.str_tuple _ _ p hu'⟩
   case lst=>obtain ⟨a,xs,rfl,ha,_⟩:=hy;cases rv;obtain ⟨its,_,p,_⟩:=I.list ha;exact ⟨.str_list _ _ p.isList hu',.str_list _ _ p.isList hu',.str_list _ _ p.isList hu'⟩
 | succ n ih =>
  intro A d e x y u v hd hu hx hy ru rv
  have hu':A.units < cLine:=by omega
  have hin:A.in1.units+n < cLine:=by show A.units+1+n < cLine;omega
  cases d with
  | tup ds =>
   unfold Aq at hd
   unfold Rep at hx
   obtain ⟨a,xs,rfl,ha,hr⟩:=hx
   cases ru
   cases e <;> unfold Rep at hy
   case tup es =>
    obtain ⟨b,ys,rfl,hb,hr'⟩:=hy
    cases rv
    refine Kh I hu' ha hb hr hr' fun i d e x y u v e1 e2 e3 e4 ru rv=>?_
    obtain ⟨x',q1,q2⟩:=hr.get e1
    obtain ⟨y',q3,q4⟩:=hr'.get e2
    rw [e3] at q1;cases q1
    rw [e4] at q3;cases q3
    exact (ih A.in1 d e x y u v (by have:=Gw e1;omega) hin q2 q4 ru rv).1
   case non=>subst hy;cases rv;obtain ⟨its,_,p,_⟩:=I.tuple ha;exact ⟨.tuple_none p hu',.tuple_none p hu',.tuple_none p hu'⟩
   case bl=>subst hy;cases rv;obtain ⟨its,_,p,_⟩:=I.tuple ha;exact ⟨.tuple_bool _ p hu',.tuple_bool _ p hu',.tuple_bool _ p hu'⟩
   case int=>subst hy;obtain ⟨t,rfl⟩:=rv;obtain ⟨its,_,p,_⟩:=I.tuple ha;exact ⟨.tuple_int _ _ p hu',.tuple_int _ _ p hu',.tuple_int _ _ p hu'⟩
   case str=>subst hy;obtain ⟨t,rfl⟩:=rv;obtain ⟨its,_,p,_⟩:=I.tuple ha;exact ⟨.tuple_str _ _ p hu',.tuple_str _ _ p hu',.tuple_str _ _ p hu'⟩
   case lst=>obtain ⟨b,ys,rfl,hb,_⟩:=hy;cases rv;obtain ⟨its,_,p,_⟩:=I.tuple ha;obtain ⟨its2,_,p2,_⟩:=I.list hb;exact ⟨.tuple_list p p2.isList hu',.tuple_list p p2.isList hu',.tuple_list p p2.isList hu'⟩
  | lst ds =>
   unfold Aq at hd
   unfold Rep at hx
   obtain ⟨a,xs,rfl,ha,hr⟩:=hx
   cases ru
   cases e <;> unfold Rep at hy
   case lst es =>
    obtain ⟨b,ys,rfl,hb,hr'⟩:=hy
    cases rv
    refine KL I hu' ha hb hr hr' fun i d e x y u v e1 e2 e3 e4 ru rv=>?_
    obtain ⟨x',q1,q2⟩:=hr.get e1
    obtain ⟨y',q3,q4⟩:=hr'.get e2
    rw [e3] at q1;cases q1
    rw [e4] at q3;cases q3
    exact (ih A.in1 d e x y u v (by have:=Gw e1;omega) hin q2 q4 ru rv).1
   case non=>subst hy;cases rv;obtain ⟨its,_,p,_⟩:=I.list ha;exact ⟨.list_none p.isList hu',.list_none p.isList hu',.list_none p.isList hu'⟩
   case bl=>subst hy;cases rv;obtain ⟨its,_,p,_⟩:=I.list ha;exact ⟨.list_bool _ p.isList hu',.list_bool _ p.isList hu',.list_bool _ p.isList hu'⟩
   case int=>subst hy;obtain ⟨t,rfl⟩:=rv;obtain ⟨its,_,p,_⟩:=I.list ha;exact ⟨.list_int _ _ p.isList hu',.list_int _ _ p.isList hu',.list_int _ _ p.isList hu'⟩
   case str=>subst hy;obtain ⟨t,rfl⟩:=rv;obtain ⟨its,_,p,_⟩:=I.list ha;exact ⟨.list_str _ _ p.isList hu',.list_str _ _ p.isList hu',.list_str _ _ p.isList hu'⟩
   case tup=>obtain ⟨b,ys,rfl,hb,_⟩:=hy;cases rv;obtain ⟨its,_,p,_⟩:=I.list ha;obtain ⟨its2,_,p2,_⟩:=I.tuple hb;exact ⟨.list_tuple p.isList p2 hu',.list_tuple p.isList p2 hu',.list_tuple p.isList p2 hu'⟩
  | non=>exact ih A .non e x y u v (by unfold Aq;omega) (by omega) hx hy ru rv
  | bl c=>exact ih A (.bl c) e x y u v (by unfold Aq;omega) (by omega) hx hy ru rv
  | int c=>exact ih A (.int c) e x y u v (by unfold Aq;omega) (by omega) hx hy ru rv
  | str c=>exact ih A (.str c) e x y u v (by unfold Aq;omega) (by omega) hx hy ru rv
end
section
variable {X:Cx}
def mEq (neg:Bool) (K:PySem.W.Frag):R2:=fun x y H Q=>match x,y with
 | .non,.non=>Q (.bl (neg ^^ true)) H
 | .bl a,.bl b=>Q (.bl (neg ^^ (a == b))) H
 | .int a,.int b=>Q (.bl (neg ^^ (a == b))) H
 | .str a,.str b=>Q (.bl (neg ^^ (a == b))) H
 | x,y=>∃ d e,Rep K H d x/\Rep K H e y/\Aq d<=60/\Q (.bl (neg ^^ eqD d e)) H
theorem Ip (hu:X.A.units+60 < cLine):OpR X (compareOp .Eq) (fun x y H Q=>∃ d e,Rep X.K H d x/\Rep X.K H e y/\Aq d<=60/\Q (.bl (eqD d e)) H):=by
 intro pins s σ H x y v u Q I rx ry h
 obtain ⟨d,e,h1,h2,h3,q⟩:=h
 exact (Gx I 60 X.A d e x y v u h3 hu h1 h2 rx ry).2.1 X.prog X.w _ _ ⟨.bl _,H,I,rfl,q⟩
theorem LZ (hu:X.A.units+60 < cLine):OpR X (compareOp .NotEq) (fun x y H Q=>∃ d e,Rep X.K H d x/\Rep X.K H e y/\Aq d<=60/\Q (.bl (!eqD d e)) H):=by
 intro pins s σ H x y v u Q I rx ry h
 obtain ⟨d,e,h1,h2,h3,q⟩:=h
 exact (Gx I 60 X.A d e x y v u h3 hu h1 h2 rx ry).2.2 X.prog X.w _ _ ⟨.bl _,H,I,rfl,q⟩
theorem Gj {neg:Bool} {K:PySem.W.Frag} {x y:V} {H:Hp} {Q:VK} (h:mEq neg K x y H Q):∃ d e,Rep K H d x/\Rep K H e y/\Aq d<=60/\Q (.bl (neg ^^ eqD d e)) H:=by
 unfold mEq at h
 split at h
 ·exact ⟨.non,.non,by unfold Rep;rfl,by unfold Rep;rfl,by unfold Aq;omega,by unfold eqD;exact h⟩
 ·rename_i a b;exact ⟨.bl a,.bl b,by unfold Rep;rfl,by unfold Rep;rfl,by unfold Aq;omega,by unfold eqD;exact h⟩
 ·rename_i a b;exact ⟨.int a,.int b,by unfold Rep;rfl,by unfold Rep;rfl,by unfold Aq;omega,by unfold eqD;exact h⟩
 ·rename_i a b;exact ⟨.str a,.str b,by unfold Rep;rfl,by unfold Rep;rfl,by unfold Aq;omega,by unfold eqD;exact h⟩
 ·exact h
theorem K0 (hu:X.A.units+60 < cLine):OpR X (compareOp .Eq) (mEq false X.K):=(Ip hu).imp fun x y H Q h=>by
 obtain ⟨d,e,h1,h2,h3,q⟩:=Gj h
 exact ⟨d,e,h1,h2,h3,by rw [Bool.false_xor] at q;exact q⟩
theorem KD (hu:X.A.units+60 < cLine):OpR X (compareOp .NotEq) (mEq true X.K):=(LZ hu).imp fun x y H Q h=>by
 obtain ⟨d,e,h1,h2,h3,q⟩:=Gj h
 exact ⟨d,e,h1,h2,h3,by rw [Bool.true_xor] at q;exact q⟩
end
section
variable {X:Cx} {a b c e:Expr} {es:List Expr} {ta tb tc te:TE} {tA tB':TT} {t:TA} {pos p:Pos} {x:Str}
def isB (v:V) (Q:Bool->Prop):Prop:=match v with
 | .bl c=>Q c
 | _=>False
theorem Ch {v:V} {Q:Bool->Prop} (h:isB v Q):∃ c,v=.bl c/\Q c:=by
 cases v <;> first | exact False.elim h | exact ⟨_,rfl,h⟩
def AU (t:TE):Prop:=∀ σ H (Q Q':VK),(∀ v H,Q v H->Q' v H)->t σ H Q->t σ H Q'
def uB (t:TE):TT:=fun σ H Q=>t σ H fun x H1=>isB x fun c=>Q c H1
theorem AS {op:CmpOp} {r:R2} (ho:OpR X (compareOp op) r) (ha:PE X a ta) (hb:PE X b tb) (hm:behindInMarks op b=false:=by first | exact Dz _ (by decide) (by decide) | rfl):PT X (.Compare a [op] [b] pos) (uB (tOp r ta tb)):=by
 intro pins s σ H Q I h
 refine wpAny_isTrue_Compare1 (thn (ha pins s σ H _ I h) fun v s1 ⟨x,H1,I1,r1,q1⟩=>thn (hb pins s1 σ H1 _ I1 q1) fun u s2 ⟨y,H2,I2,r2,q2⟩ =>
  thn (ho pins s2 σ H2 x y v u _ I2 r1 r2 q2) fun c s3 ⟨z,H3,I3,r3,q⟩=>?_) hm
 obtain ⟨k,e,q3⟩:=Ch q
 subst e
 cases r3
 exact wpAny_truthy_bool ⟨H3,I3,q3⟩
theorem CW {op:CmpOp} {r:R2} (ho:OpR X (compareOp op) r) (ha:PE X a ta) (hb:PE X b tb) (hm:behindInMarks op b=false:=by first | exact Dz _ (by decide) (by decide) | rfl):PE X (.Compare a [op] [b] pos) (tOp r ta tb):=Jv ho ha hb hm
theorem Bq (h:PE X e te) (he:∀ whole,isTrue e X.env whole=(do let v <- whole;standAt e.pos;holding [v] (truthy v)):=by intro _;rfl):PT X e (uB te):=by
 intro pins s σ H Q I hq
 refine isTrue_plain (thn (h pins s σ H _ I hq) fun v s1 ⟨x,H1,I1,r1,q1⟩=>?_) (he _)
 obtain ⟨k,e,q⟩:=Ch q1
 subst e
 cases r1
 exact wpAny_truthy_bool ⟨H1,I1,q⟩
def K6 (r r':R2) (ta tb tc:TE):TE:=fun σ H Q=>ta σ H fun x H1=>tb σ H1 fun y H2=>r x y H2 fun z H3=>isB z fun k =>
 (if k=true then tc σ H3 fun w' H4=>r' y w' H4 Q else Q (.bl false) H3)
theorem E9 {op op':CmpOp} {r r':R2} (ho:OpR X (compareOp op) r) (ho':OpR X (compareOp op') r') (ha:PE X a ta) (hb:PE X b tb) (hc:PE X c tc)
 (hm:lastMarks [op,op'] [b,c]=false:=by with_unfolding_all rfl):PE X (.Compare a [op,op'] [b,c] pos) (K6 r r' ta tb tc):=by
 intro pins s σ H Q I h
 refine Compare_chain (thn (ha pins s σ H _ I h) fun v s1 ⟨x,H1,I1,r1,q1⟩=>chain_link (thn (hb pins s1 σ H1 _ I1 q1) fun u s2 ⟨y,H2,I2,r2,q2⟩ =>
  thn (ho pins s2 σ H2 x y v u _ I2 r1 r2 q2) fun d s3 ⟨z,H3,I3,r3,q⟩=>?_)) hm
 obtain ⟨k,e,q3⟩:=Ch q
 subst e
 cases r3
 refine wpAny_truthy_bool ?_
 cases k with
 | false=>exact ite_ff ⟨.bl false,H3,I3,rfl,q3⟩
 | true=>exact ite_tt (chain_last (thn (hc pins s3 σ H3 _ I3 q3) fun w' s4 ⟨z',H4,I4,r4,q4⟩=>ho' pins s4 σ H4 y z' u w' Q I4 r2 r4 q4))
def IN (ta tb:TE):TE:=fun σ H Q=>ta σ H fun x H1=>isB x fun c=>if c=true then tb σ H1 Q else Q (.bl false) H1
def vOr (ta tb:TE):TE:=fun σ H Q=>ta σ H fun x H1=>isB x fun c=>if c=true then Q (.bl true) H1 else tb σ H1 Q
def I0 (ta:TE):TE:=fun σ H Q=>ta σ H fun x H1=>isB x fun c=>Q (.bl (!c)) H1
theorem Bw (ha:PE X a ta) (hb:PE X (.BoolOp .And (b::es) pos) tb):PE X (.BoolOp .And (a::b::es) pos) (IN ta tb):=by
 have ha':PE X a (fun σ H Q=>ta σ H fun x H1=>isB x fun c=>Q (.bl c) H1):=fun pins s σ H Q I h=>thn (ha pins s σ H _ I h) fun v s1 ⟨x,H1,I1,r1,q1⟩=>by
  obtain ⟨c,e,q⟩:=Ch q1
  subst e
  exact ⟨.bl c,H1,I1,r1,q⟩
 have h:=Kg (pos:=pos) ha' hb
 exact h.imp fun σ H Q q=>by
  show ta σ H fun x H1=>isB x fun c=>∃ c',V.bl c=.bl c'/\if c'=true then tb σ H1 Q else Q (.bl false) H1
  have e:(fun (x:V) (H1:Hp)=>isB x fun c=>∃ c',V.bl c=.bl c'/\if c'=true then tb σ H1 Q else Q (.bl false) H1)=fun x H1=>isB x fun c=>if c=true then tb σ H1 Q else Q (.bl false) H1:=by
   funext x H1
   cases x <;> first | rfl | (apply propext;constructor;(rintro ⟨c',e,h⟩;cases e;exact h);(intro h;exact ⟨_,rfl,h⟩))
  rw [e]
  exact q
theorem K1 (ha:PE X a ta) (hb:PE X (.BoolOp .Or (b::es) pos) tb):PE X (.BoolOp .Or (a::b::es) pos) (vOr ta tb):=by
 have ha':PE X a (fun σ H Q=>ta σ H fun x H1=>isB x fun c=>Q (.bl c) H1):=fun pins s σ H Q I h=>thn (ha pins s σ H _ I h) fun v s1 ⟨x,H1,I1,r1,q1⟩=>by
  obtain ⟨c,e,q⟩:=Ch q1
  subst e
  exact ⟨.bl c,H1,I1,r1,q⟩
 have h:=Kf (pos:=pos) ha' hb
 exact h.imp fun σ H Q q=>by
  show ta σ H fun x H1=>isB x fun c=>∃ c',V.bl c=.bl c'/\if c'=true then Q (.bl true) H1 else tb σ H1 Q
  have e:(fun (x:V) (H1:Hp)=>isB x fun c=>∃ c',V.bl c=.bl c'/\if c'=true then Q (.bl true) H1 else tb σ H1 Q)=fun x H1=>isB x fun c=>if c=true then Q (.bl true) H1 else tb σ H1 Q:=by
   funext x H1
   cases x <;> first | rfl | (apply propext;constructor;(rintro ⟨c',e,h⟩;cases e;exact h);(intro h;exact ⟨_,rfl,h⟩))
  rw [e]
  exact q
theorem HU (ha:PE X a ta):PE X (.UnaryOp .Not a pos) (I0 ta):=by
 have ha':PE X a (fun σ H Q=>ta σ H fun x H1=>isB x fun c=>Q (.bl c) H1):=fun pins s σ H Q I h=>thn (ha pins s σ H _ I h) fun v s1 ⟨x,H1,I1,r1,q1⟩=>by
  obtain ⟨c,e,q⟩:=Ch q1
  subst e
  exact ⟨.bl c,H1,I1,r1,q⟩
 have h:=Lq (pos:=pos) ha'
 exact h.imp fun σ H Q q=>by
  show ta σ H fun x H1=>isB x fun c=>∃ c',V.bl c=.bl c'/\Q (.bl (!c')) H1
  have e:(fun (x:V) (H1:Hp)=>isB x fun c=>∃ c',V.bl c=.bl c'/\Q (.bl (!c')) H1)=fun x H1=>isB x fun c=>Q (.bl (!c)) H1:=by
   funext x H1
   cases x <;> first | rfl | (apply propext;constructor;(rintro ⟨c',e,h⟩;cases e;exact h);(intro h;exact ⟨_,rfl,h⟩))
  rw [e]
  exact q
def SqA (K:PySem.W.Frag) (H:Hp) (p:Addr) (xs:List V):Prop:=SqL K H p xs\/SqT K H p xs
def mIx (K:PySem.W.Frag):R2:=fun x y H Q=>match x,y with
 | .ref p,.int i=>∃ xs v,SqA K H p xs/\atI xs i=some v/\Q v H
 | .str z,.int i=>∃ c,z.length<=sizeLine/\atI z.cps.toList i=some c/\Q (.str ⟨#[c]⟩) H
 | _,_=>False
theorem IxR.imp {r r':R2} (h:IxR X r) (g:∀ x y H Q,r' x y H Q->r x y H Q):IxR X r':=fun a b pins s σ H x y v u Q I rx ry q z=>h a b pins s σ H x y v u Q I rx ry (g _ _ _ _ q) z
theorem IP:IxR X (mIx X.K):=ix_seq.imp fun x y H Q q=>by
 cases x <;> cases y <;> first
  | exact False.elim q
  | (obtain ⟨xs,v,h | h,e,q⟩:=q
     ·exact .inl ⟨_,xs,_,v,rfl,rfl,h,e,q⟩
     ·exact .inr (.inl ⟨_,xs,_,v,rfl,rfl,h,e,q⟩))
  | (obtain ⟨c,hz,e,q⟩:=q
     exact .inr (.inr ⟨_,_,c,rfl,rfl,hz,e,q⟩))
theorem LK (ha:PE X a ta) (hb:PE X b tb) (hs:E2 b:=by intro _ _;rfl):PE X (.Subscript a b pos) (tOp (mIx X.K) ta tb):=Js IP ha hb hs
def DH (K:PySem.W.Frag):List V->Hp->VK->Prop:=fun xs H Q=>match xs with
 | [x]=>∃ n,Gi K x H n/\Q (.int n) H
 | _=>False
theorem JS:CallR X (.builtin "len") (DH X.K):=call_len.imp fun xs H Q q=>by
 match xs,q with
 | [x],⟨n,h,q⟩=>exact ⟨x,n,rfl,h,q⟩
def Ey:List V->Hp->VK->Prop:=fun xs H Q=>match xs with
 | [.int i,.int j]=>Q (.int (max i j)) H
 | _=>False
theorem Ib (hc:X.calm=true):CallR X (.builtin "max") Ey:=(K5 hc).imp fun xs H Q q=>by
 match xs,q with
 | [.int i,.int j],q =>
  refine ⟨i,j,rfl,?_⟩
  have e:(if j > i then j else i)=max i j:=by split <;> omega
  rw [e]
  exact q
def Lb:List V->Hp->VK->Prop:=fun xs H Q=>match xs with
 | [.int i]=>Q (.int i) H
 | [.bl k]=>Q (.int (if k then 1 else 0)) H
 | _=>False
theorem MI:CallR X (.type "int") Lb:=call_int1.imp fun xs H Q q=>by
 match xs,q with
 | [.int i],q=>exact .inl ⟨i,rfl,q⟩
 | [.bl k],q=>exact .inr ⟨k,rfl,q⟩
def Dq (K:PySem.W.Frag):List V->Hp->VK->Prop:=fun xs H Q=>match xs with
 | [.ref p]=>∃ ys,(SqL K H p ys/\∀ l,H l=none->Q (.ref l) (upd H l (.tup ys)))\/(SqT K H p ys/\Q (.ref p) H)
 | _=>False
theorem Kb:CallR X (.type "tuple") (Dq X.K):=call_tuple_of.imp fun xs H Q q=>by
 match xs,q with
 | [.ref p],⟨ys,q⟩=>exact ⟨p,ys,rfl,q⟩
def GM (K:PySem.W.Frag) (T:String) (x:V) (H:Hp) (b:Bool):Prop:=match x with
 | .non=>b=(T == "NoneType")
 | .bl _=>b=(T == "bool" || T == "int")
 | .int _=>b=(T == "int")
 | .str _=>b=(T == "str")
 | .ref a=>(∃ xs,(H a=some (.lst xs)\/∃ o,H a=some (.frz o (.lst xs)))/\b=(T == "list"))\/(∃ xs,H a=some (.tup xs)/\b=(T == "tuple"))\/((∃ kvs,H a=some (.dK kvs))/\b=(T == "dict"))\/((∃ kvs,H a=some (.dT kvs))/\b=(T == "dict"))
 | _=>False
def kinds:List String:=["int","bool","str","tuple","list","dict"]
theorem MV (K:PySem.W.Frag):∀ T∈kinds,PySem.W.kitOne K (.type "NoneType") (.type T)=some (T == "NoneType")/\PySem.W.kitOne K (.type "bool") (.type T)=some (T == "bool" || T == "int") /\
 PySem.W.kitOne K (.type "int") (.type T)=some (T == "int")/\PySem.W.kitOne K (.type "str") (.type T)=some (T == "str")/\PySem.W.kitOne K (.type "list") (.type T)=some (T == "list") /\
 PySem.W.kitOne K (.type "tuple") (.type T)=some (T == "tuple")/\PySem.W.kitOne K (.type "dict") (.type T)=some (T == "dict"):=by
 intro T h
 unfold kinds at h
 rcases List.mem_cons.mp h with rfl | h
 ·exact ⟨rfl,rfl,rfl,rfl,rfl,rfl,rfl⟩
 rcases List.mem_cons.mp h with rfl | h
 ·exact ⟨rfl,rfl,rfl,rfl,rfl,rfl,rfl⟩
 rcases List.mem_cons.mp h with rfl | h
 ·exact ⟨rfl,rfl,rfl,rfl,rfl,rfl,rfl⟩
 rcases List.mem_cons.mp h with rfl | h
 ·exact ⟨rfl,rfl,rfl,rfl,rfl,rfl,rfl⟩
 rcases List.mem_cons.mp h with rfl | h
 ·exact ⟨rfl,rfl,rfl,rfl,rfl,rfl,rfl⟩
 rcases List.mem_cons.mp h with rfl | h
 ·exact ⟨rfl,rfl,rfl,rfl,rfl,rfl,rfl⟩
 ·exact absurd h (by simp)
theorem Ke {K:PySem.W.Frag} {T:String} {v:V} {H:Hp} {k:Bool} (hT:T∈kinds) (h:GM K T v H k):∃ ty,TyOf K H v ty/\PySem.W.kitOne K ty (.type T)=some k:=by
 obtain ⟨k1,k2,k3,k4,k5,k6,k7⟩:=MV K T hT
 cases v with
 | non=>cases (show k=_ from h);exact ⟨_,.non,k1⟩
 | bl _=>cases (show k=_ from h);exact ⟨_,.bl _,k2⟩
 | int _=>cases (show k=_ from h);exact ⟨_,.int _,k3⟩
 | str _=>cases (show k=_ from h);exact ⟨_,.str _,k4⟩
 | ref q =>
  rcases h with ⟨xs,h | ⟨o,h⟩,e⟩ | ⟨xs,h,e⟩ | ⟨⟨kvs,h⟩,e⟩ | ⟨⟨kvs,h⟩,e⟩
  ·subst e;exact ⟨_,.lst h,k5⟩
  ·subst e;exact ⟨_,.frz h,k5⟩
  ·subst e;exact ⟨_,.tup h,k6⟩
  ·subst e;exact ⟨_,.dK h,k7⟩
  ·subst e;exact ⟨_,.dT h,k7⟩
 | _=>exact False.elim h
def Gc (K:PySem.W.Frag):List V->Hp->VK->Prop:=fun xs H Q=>match xs with
 | [x,.ty T]=>T∈kinds/\∃ k,GM K T x H k/\Q (.bl k) H
 | _=>False
theorem Da:CallR X (.builtin "isinstance") (Gc X.K):=by
 intro pins s σ H xs us Q I r q
 match xs,q with
 | [x,.ty T],q =>
  obtain ⟨hT,k,h,q⟩:=q
  obtain ⟨u,w',rfl,ru,rw'⟩:=Cy r
  cases rw'
  obtain ⟨ty,h1,h2⟩:=Ke hT h
  exact K8 I ru h1 h2 fun tk=>⟨.bl k,H,I.tok _,rfl,q⟩
end
def Ds (scope sc:Scope):Bool :=
 decide (scope.kind=.function) && decide (scope.names.map (·.1)).Nodup && scope.names.all fun y=>!(y.2 == .free) || (sc.names.lookup y.1 == some .cell || sc.names.lookup y.1 == some .free)
theorem CompScope.of {scope sc:Scope} (h:Ds scope sc=true):CompScope scope sc:=by
 unfold Ds at h
 rw [Bool.and_eq_true,Bool.and_eq_true] at h
 obtain ⟨⟨h1,h2⟩,h3⟩:=h
 refine ⟨of_decide_eq_true h1,of_decide_eq_true h2,fun y hy hf=>?_⟩
 have:=List.all_eq_true.mp h3 y hy
 rw [hf] at this
 rcases (Bool.or_eq_true _ _).mp this with z | z
 ·exact absurd z (by decide)
 ·rcases (Bool.or_eq_true _ _).mp z with z | z
  ·exact .inl (by simpa using z)
  ·exact .inr (by simpa using z)
section
variable {X:Cx} {tg iter elt:Expr} {ifs:List Expr} {scope:Scope} {pos:Pos} {N':List Str} {own:Nat} {ix:List Nat} {g:TG} {tc:TT} {te:TE} {wi:TI}
theorem frB {l:List Str} (h:(l.all fun x=>scope.names.lookup x == some .free)=true):∀ x∈l,scope.names.lookup x=some .free:=fun x hx=>by
 have:=List.all_eq_true.mp h x hx
 simpa using this
theorem J4 (hc:X.calm=true) (hi:PI X tg iter wi) (S:Ds scope X.env.scope=true)
 (hlen:N'.length=own+ix.length) (hN:(N'.drop own).map some=ix.map (X.N[·]?)) (hfr:((N'.drop own).all fun x=>scope.names.lookup x == some .free)=true)
 (hg:∀ c,PG (X.comp scope N' c) tg g) (hgo:CT own g) (ht:∀ c,PTs (X.comp scope N' c) ifs tc) (he:∀ c,PE (X.comp scope N' c) elt te)
 (hs:∀ x,foldedSetIterable iter X.env x=pure x:=by intro _;rfl):PE X (.ListComp elt [⟨tg,iter,ifs,0⟩] scope pos) (Cz wi own ix g tc te) :=
 IB hc hi (.of S) hlen hN (frB hfr) hg hgo ht he hs
theorem FQ {i:Nat} {y:Str} {py spos:Pos} (hc:X.calm=true) (hnd:X.N.Nodup) (hiy:X.N[i]? = some y) (hy:X.env.scope.names.lookup y=some .local) (hi:PI X tg iter wi) (S:Ds scope X.env.scope=true)
 (hlen:N'.length=own+ix.length) (hN:(N'.drop own).map some=ix.map (X.N[·]?)) (hfr:((N'.drop own).all fun x=>scope.names.lookup x == some .free)=true)
 (hg:∀ c,PG (X.comp scope N' c) tg g) (hgo:CT own g) (ht:∀ c,PTs (X.comp scope N' c) ifs tc) (he:∀ c,PE (X.comp scope N' c) elt te)
 (hsw:swapsWith (.ListComp elt [⟨tg,iter,ifs,0⟩] scope pos) (some (.Name y py)) spos.line X.env=pure true)
 (hs:∀ x,foldedSetIterable iter X.env x=pure x:=by intro _;rfl):PS X (.Assign [.Name y py] (.ListComp elt [⟨tg,iter,ifs,0⟩] scope pos) spos) (Cm (Cz wi own ix g tc te) (Ai i)) :=
 Kt hc hnd hiy hy hi (.of S) hlen hN (frB hfr) hg hgo ht he hsw hs
def EV (K:PySem.W.Frag) (tl:TE):TI:=fun σ H R=>tl σ H fun x H1=>match x with
 | .ref a=>((∃ xs,SqL K H1 a xs)/\R (Itl K a) H1)\/((∃ xs,SqT K H1 a xs)/\R (Itt K a) H1)
 | _=>False
theorem Je {l:Expr} {tl:TE} (hl:PE X l tl):PI X tg l (EV X.K tl):=by
 intro pins s σ H R I h
 refine thn (hl pins s σ H _ I h) fun v s1 ⟨x,H1,I1,r1,q1⟩=>?_
 cases x with
 | ref a =>
  cases r1
  rcases q1 with ⟨⟨xs,hq⟩,q⟩ | ⟨⟨xs,hq⟩,q⟩
  ·obtain ⟨its,rv,p,hz⟩:=I1.list hq
   refine wpAny_pyIter_list p.isList ?_
   refine ⟨s1.heap.objs.size,[s1.heap.objs.size],_,_,H1,rfl,I1.kept (t':=s1.toks) fun b o e=>Heap.get?_push_of_some _ e,II a _,⟨_,Heap.get?_push_size _ rfl,rfl,rfl⟩,fun b hb=>?_,q⟩
   have e:b=s1.heap.objs.size:=by simpa using hb
   subst e
   exact I1.fpOk (Nat.le_refl _) (I1.hok.fresh (Nat.le_refl _))
  ·obtain ⟨its,rv,p,hz⟩:=I1.tuple hq
   refine wpAny_pyIter_tuple (show s1.heap.IsTuple a its.toArray from p) ?_
   refine ⟨s1.heap.objs.size,[s1.heap.objs.size],_,_,H1,rfl,I1.kept (t':=s1.toks) fun b o e=>Heap.get?_push_of_some _ e,JG a _,⟨_,Heap.get?_push_size _ rfl,rfl,rfl⟩,fun b hb=>?_,q⟩
   have e:b=s1.heap.objs.size:=by simpa using hb
   subst e
   exact I1.fpOk (Nat.le_refl _) (I1.hok.fresh (Nat.le_refl _))
 | _=>exact False.elim q1
def FB:CQ:=fun o i v H Q=>match o,i with
 | .ref p,.int k=>∃ xs j,H p=some (.lst xs)/\ixN xs.length k=some j/\Q (upd H p (.lst (xs.set j v)))
 | _,_=>False
theorem Do:ET X FB:=by
 intro pins s σ H o i v ov iv u Q I ro ri rv h
 cases o <;> cases i <;> first
  | exact False.elim h
  | (obtain ⟨xs,j,h1,h2,q⟩:=h
     exact Ij pins s σ H _ _ v ov iv u Q I ro ri rv ⟨_,xs,_,j,rfl,rfl,h1,h2,q⟩)
theorem MA {K:PySem.W.Frag} {a:Addr} {xs:List V} {σc:St} {Q:VK} {H:Hp} (Pv:Nat->List V->Hp->Prop) (h0:Pv 0 [] H) (hl:∀ i ys H,i<=xs.length->Pv i ys H->SqL K H a xs) (hz:∀ i ys H,i < xs.length->Pv i ys H->ys.length < sizeLine)
 (hs:∀ i x ys H,xs[i]? = some x->Pv i ys H->g x σc H fun σ2 H2=>tc σ2 H2 fun b H3=>if b=true then te σ2 H3 fun y H4=>Pv (i+1) (ys++[y]) H4 else Pv (i+1) ys H3)
 (hd:∀ ys H,Pv xs.length ys H->∀ p,H p=none->Q (.ref p) (upd H p (.lst ys))):C8 (Itl K a) g tc te σc Q H:=by
 refine ⟨fun i m ys H=>m=xs.length - i/\i<=xs.length/\Pv i ys H,⟨xs.length,by simp,Nat.zero_le _,h0⟩,?_⟩
 rintro i m ys H ⟨rfl,hi,p⟩
 have q:=hl i ys H hi p
 by_cases hlt:i < xs.length
 ·refine .inr ⟨⟨xs,xs[i],q,by simp [hlt]⟩,hz i ys H hlt p,Pv (i+1),fun ys' H' p'=>⟨xs.length - (i+1),by omega,rfl,hlt,p'⟩,fun x H' y=>?_⟩
  obtain ⟨e,y⟩:=y
  subst e
  exact hs i x ys _ (y xs q) p
 ·have e:i=xs.length:=by omega
  subst e
  exact .inl ⟨⟨xs,q,Nat.le_refl _⟩,hd ys H p⟩
theorem LY {K:PySem.W.Frag} {a:Addr} {xs:List V} {σc:St} {Q:VK} {H:Hp} (Pv:Nat->List V->Hp->Prop) (h0:Pv 0 [] H) (hl:∀ i ys H,i<=xs.length->Pv i ys H->SqT K H a xs) (hz:∀ i ys H,i < xs.length->Pv i ys H->ys.length < sizeLine)
 (hs:∀ i x ys H,xs[i]? = some x->Pv i ys H->g x σc H fun σ2 H2=>tc σ2 H2 fun b H3=>if b=true then te σ2 H3 fun y H4=>Pv (i+1) (ys++[y]) H4 else Pv (i+1) ys H3)
 (hd:∀ ys H,Pv xs.length ys H->∀ p,H p=none->Q (.ref p) (upd H p (.lst ys))):C8 (Itt K a) g tc te σc Q H:=by
 refine ⟨fun i m ys H=>m=xs.length - i/\i<=xs.length/\Pv i ys H,⟨xs.length,by simp,Nat.zero_le _,h0⟩,?_⟩
 rintro i m ys H ⟨rfl,hi,p⟩
 have q:=hl i ys H hi p
 by_cases hlt:i < xs.length
 ·refine .inr ⟨⟨xs,xs[i],q,by simp [hlt]⟩,hz i ys H hlt p,Pv (i+1),fun ys' H' p'=>⟨xs.length - (i+1),by omega,rfl,hlt,p'⟩,fun x H' y=>?_⟩
  obtain ⟨e,y⟩:=y
  subst e
  exact hs i x ys _ (y xs q) p
 ·have e:i=xs.length:=by omega
  subst e
  exact .inl ⟨⟨xs,q,Nat.le_refl _⟩,hd ys H p⟩
theorem Iz {lo:Int} {n:Nat} {σc:St} {Q:VK} {H:Hp} (Pv:Nat->List V->Hp->Prop) (h0:Pv 0 [] H) (hz:∀ i ys H,i < n->Pv i ys H->ys.length < sizeLine)
 (hs:∀ i ys H,i < n->Pv i ys H->g (.int (lo+i)) σc H fun σ2 H2=>tc σ2 H2 fun b H3=>if b=true then te σ2 H3 fun y H4=>Pv (i+1) (ys++[y]) H4 else Pv (i+1) ys H3)
 (hd:∀ ys H,Pv n ys H->∀ p,H p=none->Q (.ref p) (upd H p (.lst ys))):C8 (Itr lo n) g tc te σc Q H:=by
 refine ⟨fun i m ys H=>m=n - i/\i<=n/\Pv i ys H,⟨n,by simp,Nat.zero_le _,h0⟩,?_⟩
 rintro i m ys H ⟨rfl,hi,p⟩
 by_cases hlt:i < n
 ·refine .inr ⟨hlt,hz i ys H hlt p,Pv (i+1),fun ys' H' p'=>⟨n - (i+1),by omega,rfl,hlt,p'⟩,fun x H' y=>?_⟩
  obtain ⟨e,y⟩:=y
  subst e y
  exact hs i ys _ hlt p
 ·have e:i=n:=by omega
  subst e
  exact .inl ⟨Nat.le_refl _,hd ys H p⟩
def FK (c:TT) (tb:TS):TS:=fun D σ H=>∃ W:Nat->St->Hp->Prop,(∃ m,W m σ H)/\∀ m σ H,W m σ H ->
 c σ H fun b H1=>if b=true then tb { D with nx:=fun σ' H'=>∃ m',m' < m/\W m' σ' H',ct:=fun σ' H'=>∃ m',m' < m/\W m' σ' H',bk:=D.nx } σ H1 else D.nx σ H1
theorem GY {c:Expr} {body:List Stmt} {tc:TT} {tb:TS} (hp:PassesOwn (model X.prog X.w) X.A X.env X.xe) (hc:PT X c tc) (hb:PSs X body tb):PS X (.While c body [] pos) (FK tc tb):=by
 intro pins s σ H D I h
 obtain ⟨W,⟨m0,w0⟩,turn⟩:=h
 refine wpAny_While (codeAny_whileLoop (fun n s'=>∃ σ' H',Inv X pins σ' H' s'/\W n σ' H') ?_ m0 ⟨σ,H,I,w0⟩)
 rintro n s1 ⟨σ1,H1,I1,w1⟩
 refine wpAny_passesOwn hp (thn (hc pins s1 σ1 H1 _ I1 (turn n σ1 H1 w1)) fun b s2 ⟨H2,I2,q2⟩=>?_)
 cases b with
 | true =>
  rw [if_pos rfl] at q2
  rw [if_pos rfl]
  refine wpAny_passesOwn hp (thn (hb pins s2 σ1 H2 _ I2 q2) fun f s3 q3=>?_)
  cases f with
  | next =>
   obtain ⟨σ3,H3,I3,m',hm,w3⟩:=q3
   exact ⟨m',hm,σ3,H3,I3,w3⟩
  | cont =>
   obtain ⟨σ3,H3,I3,m',hm,w3⟩:=q3
   exact ⟨m',hm,σ3,H3,I3,w3⟩
  | brk=>exact q3
  | ret v=>exact q3
 | false =>
  rw [if_neg Bool.false_ne_true] at q2
  rw [if_neg Bool.false_ne_true]
  exact wpAny_execs_nil ⟨σ1,H2,I2,q2⟩
end
theorem A1 {A:Around} {k:Nat} (hr:Room k A):A.units+60 < cLine:=by have:=hr.un;omega
def Frm (t:Addr) (H H':Hp):Prop:=∀ b o,b≠t->H b=some o->H' b=some o
theorem Frm.refl {t:Addr} {H:Hp}:Frm t H H:=fun _ _ _ h=>h
theorem Frm.trans {t:Addr} {H H1 H2:Hp} (a:Frm t H H1) (b:Frm t H1 H2):Frm t H H2:=fun c o n h=>b c o n (a c o n h)
theorem Frm.upd {t p:Addr} {H:Hp} {o:HO} (h:H p=none):Frm t H (upd H p o):=fun b u _ e=>by rw [AJ (Bi e h)];exact e
theorem Same.upd {p:Addr} {H:Hp} {o:HO} (h:H p=none):Same H (L2.upd H p o):=fun b u e=>by rw [AJ (Bi e h)];exact e
theorem Same.frm {t:Addr} {H H':Hp} (h:Same H H'):Frm t H H':=fun b o _ e=>h b o e
theorem Jc {K:PySem.W.Frag} {H H':Hp} {a:Addr} {xs:List V} (h:SqL K H a xs) (k:∀ o,H a=some o->H' a=some o):SqL K H' a xs:=by
 rcases h with (h | ⟨o,h⟩) | h
 ·exact .inl (.inl (k _ h))
 ·exact .inl (.inr ⟨o,k _ h⟩)
 ·exact .inr h
theorem Gm {K:PySem.W.Frag} {H H':Hp} {a:Addr} {xs:List V} (h:SqT K H a xs) (k:∀ o,H a=some o->H' a=some o):SqT K H' a xs:=by
 rcases h with (h | ⟨o,h⟩) | h
 ·exact .inl (.inl (k _ h))
 ·exact .inl (.inr ⟨o,k _ h⟩)
 ·exact .inr h
def ScrAt (K:PySem.W.Frag) (H:Hp) (t a:Addr) (ns:List Int):Prop :=
 (Rd H a (.lst (ns.map V.int))/\a≠t)\/∃ (o:Obj) (its:Array Value) (n:Nat),K.lookup a=some o/\o.cls=.type "list" /\ o.dict=none/\o.data=.seq its n/\its.size<=sizeLine/\Vals (ns.map V.int) its.toList
theorem ScrAt.sq {K:PySem.W.Frag} {H:Hp} {t a:Addr} {ns:List Int} (h:ScrAt K H t a ns):SqL K H a (ns.map V.int):=by
 rcases h with ⟨h,_⟩ | h
 ·exact .inl h
 ·exact .inr h
theorem ScrAt.stay {K:PySem.W.Frag} {H H':Hp} {t a:Addr} {ns:List Int} (h:ScrAt K H t a ns) (k:∀ o,a≠t->H a=some o->H' a=some o):ScrAt K H' t a ns:=by
 rcases h with ⟨h | ⟨o,h⟩,n⟩ | h
 ·exact .inl ⟨.inl (k _ n h),n⟩
 ·exact .inl ⟨.inr ⟨o,k _ n h⟩,n⟩
 ·exact .inr h
theorem ScrAt.of {K:PySem.W.Frag} {H:Hp} {t a:Addr} {ns:List Int} (h:SqL K H a (ns.map V.int)) (ht:H t=none):ScrAt K H t a ns:=by
 rcases h with h | h
 ·refine .inl ⟨h,fun e=>?_⟩
  subst e
  rcases h with h | ⟨o,h⟩ <;> rw [ht] at h <;> cases h
 ·exact .inr h
structure Tape (K:PySem.W.Frag) (H:Hp) (t a:Addr) (ns:List Int):Prop where
 at_:∃ i r c:Int,0<=i/\0<=r/\H t=some (.lst [.ref a,.int i,.int r,.int c])
 scr:ScrAt K H t a ns
theorem Tape.same {K:PySem.W.Frag} {H H':Hp} {t a:Addr} {ns:List Int} (T:Tape K H t a ns) (h:Same H H'):Tape K H' t a ns:=by
 obtain ⟨i,r,c,h1,h2,h3⟩:=T.at_
 exact ⟨⟨i,r,c,h1,h2,h _ _ h3⟩,T.scr.stay fun o _ e=>h a o e⟩
theorem Tape.upd {K:PySem.W.Frag} {H:Hp} {t a p:Addr} {o:HO} {ns:List Int} (T:Tape K H t a ns) (h:H p=none):Tape K (L2.upd H p o) t a ns:=T.same (Same.upd h)
theorem Tape.neT {K:PySem.W.Frag} {H:Hp} {t a p:Addr} {ns:List Int} (T:Tape K H t a ns) (hp:H p=none):p≠t:=fun e=>by
 obtain ⟨i,r,c,_,_,h3⟩:=T.at_
 rw [e,h3] at hp;cases hp
def C6 (K:PySem.W.Frag):Sp:=fun vs H Q _=>match vs with
 | [.ref t,.int m]=>∃ a ns,Tape K H t a ns/\okDiv m/\∀ d H',0<=d->d < m->Tape K H' t a ns->(∀ b,b≠t->H' b=H b)->Q (.int d) H'
 | _=>False
def E6 (K:PySem.W.Frag):Sp:=fun vs H Q _=>match vs with
 | [.ref a]=>∀ p,H p=none->Q (.ref p) (upd H p (.lst [.ref a,.int 0,.int 0,.int 0]))
 | _=>False
theorem Ad {xs:List V} {i:Int} {n:Nat} {v:V} (h:i=(n:Int)) (hx:xs[n]? = some v):atI xs i=some v:=by
 subst h
 have hn:n < xs.length:=(List.getElem?_eq_some_iff.mp hx).1
 unfold atI ixN
 rw [if_pos (Int.natCast_nonneg n),if_pos (by omega)]
 simpa using hx
theorem Gz {ns:List Int} {i:Int} (h0:0<=i) (h1:i < ns.length):∃ z,atI (ns.map V.int) i=some (.int z):=by
 obtain ⟨n,rfl⟩:=Int.eq_ofNat_of_zero_le h0
 have hn:n < ns.length:=by omega
 exact ⟨ns[n],Ad rfl (by rw [List.getElem?_map,List.getElem?_eq_getElem hn];rfl)⟩
theorem KZ {K:PySem.W.Frag} {H:Hp} {a p:Addr} {ns:List Int} (h:H p=none) (hs:SqL K H a (ns.map V.int)):Tape K (L2.upd H p (.lst [.ref a,.int 0,.int 0,.int 0])) p a ns :=
 ⟨⟨0,0,0,Int.le_refl _,Int.le_refl _,AC⟩,(ScrAt.of hs h).stay fun o n e=>by rw [AJ n];exact e⟩
theorem AY {t:Addr} {H H':Hp} (h:∀ b,b≠t->H' b=H b):Frm t H H':=fun b o n e=>by rw [h b n];exact e
theorem At {j:Int} (h1:0 < j) (h2:j<=2 ^ 1000):okDiv j:=⟨h1,Int.lt_of_le_of_lt h2 (by decide)⟩
theorem AI {n:Nat} (h:n<=1000):n<=sizeLine:=Nat.le_of_lt (Dg h)
def BH (t:TT):Prop:=∀ σ H (Q Q':Bool->Hp->Prop),(∀ b H,Q b H->Q' b H)->t σ H Q->t σ H Q'
def BL (t:TA):Prop:=∀ σ H (Q Q':List V->Hp->Prop),(∀ b H,Q b H->Q' b H)->t σ H Q->t σ H Q'
def BY (r:R2):Prop:=∀ x y H (Q Q':VK),(∀ v H,Q v H->Q' v H)->r x y H Q->r x y H Q'
def Dh (r:List V->Hp->VK->Prop):Prop:=∀ xs H (Q Q':VK),(∀ v H,Q v H->Q' v H)->r xs H Q->r xs H Q'
def Hb (r:V->List V->Hp->VK->Prop):Prop:=∀ x xs H (Q Q':VK),(∀ v H,Q v H->Q' v H)->r x xs H Q->r x xs H Q'
def AZ (sp:Sp):Prop:=∀ vs H (Q Q':VK) E,(∀ v H,Q v H->Q' v H)->sp vs H Q E->sp vs H Q' E
def Dd (t:TI):Prop:=∀ σ H (Q Q':It->Hp->Prop),(∀ J H,Q J H->Q' J H)->t σ H Q->t σ H Q'
def FH (t:CQ):Prop:=∀ o i v H (Q Q':Hp->Prop),(∀ H,Q H->Q' H)->t o i v H Q->t o i v H Q'
structure Ends.le (D D':Ends):Prop where
 nx:∀ σ H,D.nx σ H->D'.nx σ H
 rt:∀ v H,D.rt v H->D'.rt v H
 bk:∀ σ H,D.bk σ H->D'.bk σ H
 ct:∀ σ H,D.ct σ H->D'.ct σ H
def Aw (t:TS):Prop:=∀ D D' σ H,Ends.le D D'->t D σ H->t D' σ H
theorem LI {i:Nat}:AU (DA i):=fun σ H Q Q' h q=>by
 unfold DA at *
 split at q
 ·exact h _ _ q
 ·exact q.elim
theorem LG {v:V}:AU (tC v):=fun _ _ _ _ h q=>h _ _ q
theorem Ie {r:R2} {ta tb:TE} (hr:BY r) (ha:AU ta) (hb:AU tb):AU (tOp r ta tb):=fun σ H Q Q' h q=>ha _ _ _ _ (fun _ _ q=>hb _ _ _ _ (fun _ _ q=>hr _ _ _ _ _ h q) q) q
theorem Ic {K}:BY (DF K):=fun x y H Q Q' h q=>by
 unfold DF at *
 split at q
 ·exact h _ _ q
 ·exact ⟨q.1,h _ _ q.2⟩
 ·rcases q with ⟨l,b,xs,zs,e1,e2,h1,h2,h3,q⟩ | ⟨a,b,xs,ys,e1,e2,h1,h2,h3,h4,q1,q2⟩
  ·exact .inl ⟨l,b,xs,zs,e1,e2,h1,h2,h3,fun p hp=>h _ _ (q p hp)⟩
  ·exact .inr ⟨a,b,xs,ys,e1,e2,h1,h2,h3,h4,fun e=>h _ _ (q1 e),fun e p hp=>h _ _ (q2 e p hp)⟩
 ·exact q.elim
theorem Kd:BY FC:=fun x y H Q Q' h q=>by unfold FC at *;split at q <;> first | exact h _ _ q | exact q.elim
theorem IC:BY E3:=fun x y H Q Q' h q=>by unfold E3 at *;split at q <;> first | exact ⟨q.1,h _ _ q.2⟩ | exact q.elim
theorem IY:BY E5:=fun x y H Q Q' h q=>by unfold E5 at *;split at q <;> first | exact ⟨q.1,h _ _ q.2⟩ | exact q.elim
theorem Jn:BY Ef:=fun x y H Q Q' h q=>by unfold Ef at *;split at q <;> first | exact ⟨q.1,h _ _ q.2⟩ | exact q.elim
theorem Ir {p}:BY (Cw p):=fun x y H Q Q' h q=>by unfold Cw at *;split at q <;> first | exact h _ _ q | exact q.elim
theorem MX {n K}:BY (mEq n K):=fun x y H Q Q' h q=>by
 unfold mEq at *
 split at q <;> first | exact h _ _ q | (obtain ⟨d,e,h1,h2,h3,q⟩:=q;exact ⟨d,e,h1,h2,h3,h _ _ q⟩)
theorem KY {K}:BY (mIx K):=fun x y H Q Q' h q=>by
 unfold mIx at *
 split at q
 ·obtain ⟨xs,v,h1,h2,q⟩:=q;exact ⟨xs,v,h1,h2,h _ _ q⟩
 ·obtain ⟨c,h1,h2,q⟩:=q;exact ⟨c,h1,h2,h _ _ q⟩
 ·exact q.elim
theorem Hq {v:V} {Q Q':Bool->Prop} (h:∀ b,Q b->Q' b) (q:isB v Q):isB v Q':=by
 cases v <;> first | exact h _ q | exact q
theorem Lk {t:TE} (h:AU t):BH (uB t):=fun σ H Q Q' k q=>h _ _ _ _ (fun _ _ q=>Hq (fun b q=>k b _ q) q) q
theorem IW {t:TT} {ta tb:TE} (ht:BH t) (ha:AU ta) (hb:AU tb):AU (tIf t ta tb):=fun σ H Q Q' h q=>ht _ _ _ _ (fun b _ q=>by
 cases b with
 | true=>exact ha _ _ _ _ h q
 | false=>exact hb _ _ _ _ h q) q
theorem KQ {t u:TT} (ht:BH t) (hu:BH u):BH (Fb t u):=fun σ H Q Q' h q=>ht _ _ _ _ (fun b _ q=>by
 cases b with
 | true=>exact hu _ _ _ _ h q
 | false=>exact h _ _ q) q
theorem Iq {t u:TT} (ht:BH t) (hu:BH u):BH (tOr t u):=fun σ H Q Q' h q=>ht _ _ _ _ (fun b _ q=>by
 cases b with
 | true=>exact h _ _ q
 | false=>exact hu _ _ _ _ h q) q
theorem IU {t:TT} (ht:BH t):BH (Gy t):=fun σ H Q Q' h q=>ht _ _ _ _ (fun b _ q=>h _ _ q) q
theorem J8:BL EN:=fun _ _ _ _ h q=>h _ _ q
theorem JL {ta:TE} {t:TA} (ha:AU ta) (ht:BL t):BL (Em ta t):=fun σ H Q Q' h q=>ha _ _ _ _ (fun _ _ q=>ht _ _ _ _ (fun _ _ q=>h _ _ q) q) q
theorem Is {r} {t:TA} (hr:Dh r) (ht:BL t):AU (tCB r t):=fun σ H Q Q' h q=>ht _ _ _ _ (fun _ _ q=>hr _ _ _ _ h q) q
theorem K7 {sp dvs E} {t:TA} (hs:AZ sp) (ht:BL t):AU (Hj sp dvs E t):=fun σ H Q Q' h q=>ht _ _ _ _ (fun _ _ q=>hs _ _ _ _ _ h q) q
theorem Hx {t:TA} (ht:BL t):AU (Hl t):=fun σ H Q Q' h q=>ht _ _ _ _ (fun _ _ q=>⟨q.1,fun p hp=>h _ _ (q.2 p hp)⟩) q
theorem Ln {t:TA} (ht:BL t):AU (HE t):=fun σ H Q Q' h q=>ht _ _ _ _ (fun _ _ q=>⟨q.1,fun p hp=>h _ _ (q.2 p hp)⟩) q
theorem KA {wi own ix g tc te} (hi:Dd wi):AU (Cz wi own ix g tc te):=fun σ H Q Q' h q=>hi _ _ _ _ (fun J H1 q=>by
 obtain ⟨W,w0,turn⟩:=q
 refine ⟨W,w0,fun i m ys H w=>?_⟩
 rcases turn i m ys H w with ⟨a,b⟩ | r
 ·exact .inl ⟨a,fun p hp=>h _ _ (b p hp)⟩
 ·exact .inr r) q
theorem Io {K}:Dh (DH K):=fun xs H Q Q' h q=>by unfold DH at *;split at q <;> first | (obtain ⟨n,a,q⟩:=q;exact ⟨n,a,h _ _ q⟩) | exact q.elim
theorem JX:Dh Ey:=fun xs H Q Q' h q=>by unfold Ey at *;split at q <;> first | exact h _ _ q | exact q.elim
theorem LM {K}:Dh (Dq K):=fun xs H Q Q' h q=>by
 unfold Dq at *
 split at q
 ·obtain ⟨ys,⟨a,q⟩ | ⟨a,q⟩⟩:=q
  ·exact ⟨ys,.inl ⟨a,fun l hl=>h _ _ (q l hl)⟩⟩
  ·exact ⟨ys,.inr ⟨a,h _ _ q⟩⟩
 ·exact q.elim
theorem Kv {K} {tl:TE} (h:AU tl):Dd (EV K tl):=fun σ H Q Q' k q=>h _ _ _ _ (fun v H1 q=>by
 cases v <;> first | exact q.elim | (rcases q with ⟨a,q⟩ | ⟨a,q⟩
                                     ·exact .inl ⟨a,k _ _ q⟩
                                     ·exact .inr ⟨a,k _ _ q⟩)) q
theorem Im {ta:TA} (h:BL ta):Dd (Gr ta):=fun σ H Q Q' k q=>h _ _ _ _ (fun _ _ ⟨j,e,a,b,q⟩=>⟨j,e,a,b,k _ _ q⟩) q
theorem KM:FH FB:=fun o i v H Q Q' h q=>by
 unfold FB at *
 split at q
 ·obtain ⟨xs,j,a,b,q⟩:=q;exact ⟨xs,j,a,b,h _ q⟩
 ·exact q.elim
theorem IS {to ti:TE} {t:CQ} (h1:AU to) (h2:AU ti) (h3:FH t):DQ (Fy to ti t):=fun v σ H Q Q' h q=>h1 _ _ _ _ (fun _ _ q=>h2 _ _ _ _ (fun _ _ q=>h3 _ _ _ _ _ _ (fun H q=>h _ _ q) q) q) q
theorem JY:Aw BA:=fun D D' σ H h q=>h.nx _ _ q
theorem JN {t u:TS} (h1:Aw t) (h2:Aw u):Aw (Er t u):=fun D D' σ H h q=>h1 { D with nx:=u D } { D' with nx:=u D' } σ H ⟨fun σ H q=>h2 D D' σ H h q,h.rt,h.bk,h.ct⟩ q
theorem J1 {te:TE} {g:TG} (h1:AU te) (h2:DQ g):Aw (Cm te g):=fun D D' σ H h q=>h1 _ _ _ _ (fun _ _ q=>h2 _ _ _ _ _ h.nx q) q
theorem KN {te:TE} (h1:AU te):Aw (Gf te):=fun D D' σ H h q=>h1 _ _ _ _ h.rt q
theorem IG {te:TE} (h1:AU te):Aw (GB te):=fun D D' σ H h q=>h1 _ _ _ _ (fun _ _ q=>h.nx _ _ q) q
theorem KG {c:TT} {t u:TS} (hc:BH c) (h1:Aw t) (h2:Aw u):Aw (EA c t u):=fun D D' σ H h q=>hc _ _ _ _ (fun b _ q=>by
 cases b with
 | true=>exact h1 _ _ _ _ h q
 | false=>exact h2 _ _ _ _ h q) q
theorem Kw {c:TT} {tb:TS} (hc:BH c) (h1:Aw tb):Aw (FK c tb):=fun D D' σ H h q=>by
 obtain ⟨W,w0,turn⟩:=q
 refine ⟨W,w0,fun m σ H w=>hc _ _ _ _ (fun b H1 q=>?_) (turn m σ H w)⟩
 cases b with
 | true=>exact h1 { D with nx:=fun σ' H'=>∃ m',m' < m/\W m' σ' H',ct:=fun σ' H'=>∃ m',m' < m/\W m' σ' H',bk:=D.nx } _ _ _ ⟨fun _ _ q=>q,h.rt,h.nx,fun _ _ q=>q⟩ q
 | false=>exact h.nx _ _ q
theorem Iw {wi:TI} {g:TG} {tb:TS} (hi:Dd wi) (hg:DQ g) (h1:Aw tb):Aw (HV wi g tb):=fun D D' σ H h q=>hi _ _ _ _ (fun J H1 q=>by
 obtain ⟨W,w0,turn⟩:=q
 refine ⟨W,w0,fun i m σ H w=>?_⟩
 rcases turn i m σ H w with ⟨a,b⟩ | ⟨a,N,hN,step⟩
 ·exact .inl ⟨a,h.nx _ _ b⟩
 ·exact .inr ⟨a,N,hN,fun x H' y=>hg _ _ _ _ _ (fun σ2 H2 q=>h1 { D with nx:=N,ct:=N,bk:=D.nx } _ _ _ ⟨fun _ _ q=>q,h.rt,h.nx,fun _ _ q=>q⟩ q) (step x H' y)⟩) q
theorem BI {t u:TS} {D:Ends} {σ:St} {H:Hp} (J:St->Hp->Prop) (h1:t { D with nx:=J } σ H) (h2:∀ σ' H',J σ' H'->u D σ' H') (hm:Aw t):Er t u D σ H :=
 hm { D with nx:=J } { D with nx:=u D } σ H ⟨h2,fun _ _ q=>q,fun _ _ q=>q,fun _ _ q=>q⟩ h1
theorem Kx {K}:AZ (C6 K):=fun vs H Q Q' E h q=>by
 unfold C6 at *
 split at q
 ·obtain ⟨a,ns,x,y,q⟩:=q;exact ⟨a,ns,x,y,fun d H' e1 e2 e3 e4=>h _ _ (q d H' e1 e2 e3 e4)⟩
 ·exact q.elim
section
variable {X:Cx} {K:PySem.W.Frag} {a b c e l tg:Expr} {es:List Expr} {ta tb tc te tl:TE} {pos p:Pos}
theorem Aj (hK:X.K=K:=by rfl):OpR X (binaryOp .Add) (DF K):=hK ▸ Kk
theorem kEq (hu:X.A.units+60 < cLine) (hK:X.K=K:=by rfl):OpR X (compareOp .Eq) (mEq false K):=hK ▸ K0 hu
theorem kNe (hu:X.A.units+60 < cLine) (hK:X.K=K:=by rfl):OpR X (compareOp .NotEq) (mEq true K):=hK ▸ KD hu
theorem kIx (ha:PE X a ta) (hb:PE X b tb) (hs:E2 b:=by intro _ _;rfl) (hK:X.K=K:=by rfl):PE X (.Subscript a b pos) (tOp (mIx K) ta tb):=hK ▸ LK ha hb hs
theorem BB (hK:X.K=K:=by rfl):CallR X (.builtin "len") (DH K):=hK ▸ JS
theorem Ju (hK:X.K=K:=by rfl):CallR X (.type "tuple") (Dq K):=hK ▸ Kb
theorem KR (hK:X.K=K:=by rfl):CallR X (.builtin "isinstance") (Gc K):=hK ▸ Da
theorem DX (hl:PE X l tl) (hK:X.K=K:=by rfl):PI X tg l (EV K tl):=hK ▸ Je hl
end
section
variable {X:Cx}
end
section
variable {X:Cx} {K:PySem.W.Frag} {o e:Expr} {es:List Expr} {to:TE} {t:TA} {apos cpos:Pos}
theorem Jp {T:String} {r:V->List V->Hp->VK->Prop} (h1:AU to) (h2:BL t) (h3:Hb r):AU (tBM K T r to t):=fun σ H Q Q' h q=>h1 _ _ _ _ (fun _ _ q=>⟨q.1,h2 _ _ _ _ (fun _ _ q=>h3 _ _ _ _ _ h q) q.2⟩) q
def Fo (K:PySem.W.Frag):List V->Hp->VK->Prop:=fun xs H Q=>match xs with
 | [.ref l]=>∃ ns:List Int,SqL K H l (ns.map V.int)/\Q (.int ns.sum) H
 | _=>False
theorem KU (hc:X.calm=true):CallR X (.builtin "sum") (Fo X.K):=by
 intro pins s σ H xs us Q I r q
 match xs,q with
 | [.ref l],q =>
 obtain ⟨ns,hl,q⟩:=q
 obtain ⟨u,rfl,ru⟩:=Bj r
 cases ru
 obtain ⟨its,rv,pl,hz⟩:=I.list hl
 have hi:IntsAre its ns:=by simpa using Km rv
 obtain ⟨zs,hzs⟩:=(hi.allInts).items
 have e:(numsOf its).sum=ns.sum:=by rw [hi.numsOf]
 have pl':=pl.isList
 rw [hzs] at pl'
 refine sum_intListG (I.ok.hd hc) pl' fun h' tk t' hk=>?_
 refine ⟨.int _,H,I.kept hk,⟨t',rfl⟩,?_⟩
 have e2:preSum (numAt zs) zs.size=ns.sum:=by
  rw [preSum_eq,List.take_of_length_le (by simp),<- e]
  rw [show its=its.toArray.toList by simp,hzs,nums_intItems]
 rw [e2]
 exact q
theorem IR (hc:X.calm=true) (hK:X.K=K:=by rfl):CallR X (.builtin "sum") (Fo K):=hK ▸ KU hc
end
section
variable {prog:Program} {w:World} {A:Around} {E:Value->Shared->Prop} {s:Shared}
end
section
variable {X:Cx} {K:PySem.W.Frag} {pos p2:Pos} {e:Expr} {lo hi:Option Expr} {te:TE} {tl th:TO}
def Eo (K:PySem.W.Frag):V->Option Int->Option Int->Hp->VK->Prop:=fun x lo hi H Q=>match x with
 | .ref a=>∃ xs,(SqL K H a xs/\∀ p,H p=none->Q (.ref p) (upd H p (.lst (Ap xs lo hi)))) \/
  (SqT K H a xs/\¬ (HT.sIx xs.length 0 lo=0/\HT.sIx xs.length xs.length hi=xs.length)/\∀ p,H p=none->Q (.ref p) (upd H p (.tup (Ap xs lo hi))))
 | _=>False
theorem J5:SlR X (Eo X.K):=by
 intro pins s σ H x v vl vu lo hi sl Q I rx hs pl pu q
 cases x with
 | ref a =>
  obtain ⟨xs,⟨h,q⟩ | ⟨h,h2,q⟩⟩:=q
  ·exact JH pins s σ H _ v vl vu lo hi sl Q I rx hs pl pu ⟨a,xs,rfl,h,q⟩
  ·exact FI pins s σ H _ v vl vu lo hi sl Q I rx hs pl pu ⟨a,xs,rfl,h,h2,q⟩
 | _=>exact False.elim q
theorem MG (he:PE X e te) (hl:PO X lo tl) (hu:PO X hi th) (hK:X.K=K:=by rfl):PE X (.Subscript e (.Slice lo hi none p2) pos) (tSl (Eo K) te tl th):=hK ▸ Fk J5 he hl hu
def Ci (t:TO):Prop:=∀ σ H (Q Q':Option Int->Hp->Prop),(∀ b H,Q b H->Q' b H)->t σ H Q->t σ H Q'
theorem Ku:Ci Gk:=fun _ _ _ _ h q=>h _ _ q
theorem Jo (h:AU te):Ci (Ha te):=fun σ H Q Q' k q=>h _ _ _ _ (fun _ _ ⟨i,e,q⟩=>⟨i,e,k _ _ q⟩) q
theorem MU (h:AU te) (h1:Ci tl) (h2:Ci th):AU (tSl (Eo K) te tl th):=fun σ H Q Q' k q=>h _ _ _ _ (fun v _ q=>h1 _ _ _ _ (fun _ _ q=>h2 _ _ _ _ (fun _ _ q=>by
 cases v <;> first | exact False.elim q | (obtain ⟨xs,⟨a,q⟩ | ⟨a,b,q⟩⟩:=q
                                           ·exact ⟨xs,.inl ⟨a,fun p hp=>k _ _ (q p hp)⟩⟩
                                           ·exact ⟨xs,.inr ⟨a,b,fun p hp=>k _ _ (q p hp)⟩⟩)) q) q) q
end
theorem HW {K:PySem.W.Frag} {H H':Hp} {a:Addr} {xs:List V} (h:SqT K H a xs) (s:Same H H'):SqT K H' a xs:=Gm h fun o e=>s a o e
mutual
theorem Rep.same {K:PySem.W.Frag} {H H':Hp} (s:Same H H'):∀ (d:Dv) (v:V),Rep K H d v->Rep K H' d v
 | .non,v,h=>by unfold Rep at *;exact h
 | .bl b,v,h=>by unfold Rep at *;exact h
 | .int i,v,h=>by unfold Rep at *;exact h
 | .str x,v,h=>by unfold Rep at *;exact h
 | .tup ds,v,h=>by
  unfold Rep at *
  obtain ⟨a,xs,e,h1,h2⟩:=h
  exact ⟨a,xs,e,HW h1 s,Reps.same s ds xs h2⟩
 | .lst ds,v,h=>by
  unfold Rep at *
  obtain ⟨a,xs,e,h1,h2⟩:=h
  exact ⟨a,xs,e,Jc h1 fun o e=>s a o e,Reps.same s ds xs h2⟩
theorem Reps.same {K:PySem.W.Frag} {H H':Hp} (s:Same H H'):∀ (ds:List Dv) (xs:List V),Reps K H ds xs->Reps K H' ds xs
 | [],xs,h=>by unfold Reps at *;exact h
 | d::ds,xs,h=>by
  unfold Reps at *
  obtain ⟨x,r,e,h1,h2⟩:=h
  exact ⟨x,r,e,Rep.same s d x h1,Reps.same s ds r h2⟩
end
mutual
def BU:Dv->Bool
 | .tup ds=>BW ds
 | .lst _=>false
 | _=>true
def BW:List Dv->Bool
 | []=>true
 | d::ds=>BU d && BW ds
end
mutual
theorem Rep.frm {K:PySem.W.Frag} {H H':Hp} {t:Addr} (s:Frm t H H') (ht:∃ zs,H t=some (.lst zs)):∀ (d:Dv) (v:V),BU d=true->Rep K H d v->Rep K H' d v
 | .non,v,_,h=>by unfold Rep at *;exact h
 | .bl b,v,_,h=>by unfold Rep at *;exact h
 | .int i,v,_,h=>by unfold Rep at *;exact h
 | .str x,v,_,h=>by unfold Rep at *;exact h
 | .tup ds,v,hd,h=>by
  unfold BU at hd
  unfold Rep at *
  obtain ⟨a,xs,e,h1,h2⟩:=h
  refine ⟨a,xs,e,?_,Reps.frm s ht ds xs hd h2⟩
  obtain ⟨zs,hz⟩:=ht
  rcases h1 with (h1 | ⟨o,h1⟩) | h1
  ·exact .inl (.inl (s a _ (fun q=>by rw [q,hz] at h1;cases h1) h1))
  ·exact .inl (.inr ⟨o,s a _ (fun q=>by rw [q,hz] at h1;cases h1) h1⟩)
  ·exact .inr h1
 | .lst ds,v,hd,h=>by unfold BU at hd;cases hd
theorem Reps.frm {K:PySem.W.Frag} {H H':Hp} {t:Addr} (s:Frm t H H') (ht:∃ zs,H t=some (.lst zs)):∀ (ds:List Dv) (xs:List V),BW ds=true->Reps K H ds xs->Reps K H' ds xs
 | [],xs,_,h=>by unfold Reps at *;exact h
 | d::ds,xs,hd,h=>by
  unfold BW at hd
  rw [Bool.and_eq_true] at hd
  unfold Reps at *
  obtain ⟨x,r,e,h1,h2⟩:=h
  exact ⟨x,r,e,Rep.frm s ht d x hd.1 h1,Reps.frm s ht ds r hd.2 h2⟩
end
theorem Ed {c:TT} {t u:TS} {D:Ends} {σ:St} {H:Hp} (b:Bool) (hc:∀ Q:Bool->Hp->Prop,Q b H->c σ H Q) (h:if b=true then t D σ H else u D σ H):EA c t u D σ H:=hc _ h
theorem Tape.lst {K:PySem.W.Frag} {H:Hp} {t a:Addr} {ns:List Int} (T:Tape K H t a ns):∃ zs,H t=some (.lst zs):=by
 obtain ⟨i,r,c,_,_,h⟩:=T.at_
 exact ⟨_,h⟩
theorem Bl {K:PySem.W.Frag} {H:Hp} {p:Addr} {xs:List V} {ds:List Dv} (h:H p=some (.tup xs)) (r:Reps K H ds xs):Rep K H (.tup ds) (.ref p):=by unfold Rep;exact ⟨p,xs,rfl,.of h,r⟩
theorem Ba {K:PySem.W.Frag} {H:Hp}:Reps K H [] []:=by unfold Reps;rfl
theorem Am {K:PySem.W.Frag} {H:Hp} {d:Dv} {ds:List Dv} {x:V} {xs:List V} (h:Rep K H d x) (r:Reps K H ds xs):Reps K H (d::ds) (x::xs):=by unfold Reps;exact ⟨x,xs,rfl,h,r⟩
theorem Bp {K:PySem.W.Frag} {H:Hp} {x:Str}:Rep K H (.str x) (.str x):=by unfold Rep;rfl
theorem G9 {K:PySem.W.Frag} {H:Hp} {x:Int}:Rep K H (.int x) (.int x):=by unfold Rep;rfl
theorem Reps.append {K:PySem.W.Frag} {H:Hp}:∀ {ds es:List Dv} {xs ys:List V},Reps K H ds xs->Reps K H es ys->Reps K H (ds++es) (xs++ys)
 | [],es,xs,ys,h,h'=>by unfold Reps at h;subst h;exact h'
 | d::ds,es,xs,ys,h,h'=>by
  unfold Reps at h
  obtain ⟨x,r,rfl,h1,h2⟩:=h
  exact Am h1 (Reps.append h2 h')
section
variable {κ:Type} [DecidableEq κ]
def AW (kvs:List (κ × V)) (k:κ):Option V:=(kvs.find? fun kv=>decide (kv.1=k)).map (·.2)
def BG (kvs:List (κ × V)) (k:κ) (v:V):List (κ × V) :=
 if (kvs.any fun kv=>decide (kv.1=k))=true then kvs.map (fun kv=>if kv.1=k then (kv.1,v) else kv) else kvs++[(k,v)]
theorem Hd {k:κ}:AW ([]:List (κ × V)) k=none:=rfl
theorem DJ {p:κ × V} {r:List (κ × V)} {k:κ} (e:p.1=k):AW (p::r) k=some p.2:=by simp [AW,List.find?_cons,e]
theorem DS {p:κ × V} {r:List (κ × V)} {k:κ} (e:¬ p.1=k):AW (p::r) k=AW r k:=by simp [AW,List.find?_cons,e]
theorem KW (kvs:List (κ × V)) (k:κ) (v:V):(BG kvs k v).length<=kvs.length+1:=by
 unfold BG
 split
 ·rw [List.length_map];omega
 ·rw [List.length_append,List.length_cons,List.length_nil];omega
theorem RelO.isSome_eq {o:Option V} {u:Option Value} (r:RelO o u):o.isSome=u.isSome:=by
 cases o with
 | none=>cases u with
  | none=>rfl
  | some _=>exact (show False from r).elim
 | some _=>cases u with
  | none=>exact (show False from r).elim
  | some _=>rfl
theorem RelO.getD {o:Option V} {u:Option Value} {d:V} {d':Value} (r:RelO o u) (rd:RelV d d'):RelV (o.getD d) (u.getD d'):=by
 cases o with
 | none=>cases u with
  | none=>exact rd
  | some _=>exact (show False from r).elim
 | some _=>cases u with
  | none=>exact (show False from r).elim
  | some _=>exact r
theorem KV.val {kvs:List (κ × V)} {vs:List (κ × Value)} (r:KV kvs vs) (k:κ):RelO (AW kvs k) (valueAt vs k):=by
 unfold KV at r
 induction r with
 | nil=>exact True.intro
 | @cons p q ps qs h t ih =>
  obtain ⟨h1,h2⟩:=h
  by_cases e:p.1=k
  ·have e':q.1=k:=h1.symm.trans e
   have b:valueAt (q::qs) k=some q.2:=by simp [valueAt,List.find?_cons,e']
   rw [DJ e,b];exact h2
  ·have e':¬ q.1=k:=fun z=>e (h1.trans z)
   have b:valueAt (q::qs) k=valueAt qs k:=by simp [valueAt,List.find?_cons,e']
   rw [DS e,b];exact ih
theorem KV.any {kvs:List (κ × V)} {vs:List (κ × Value)} (r:KV kvs vs) (k:κ):(kvs.any fun kv=>decide (kv.1=k))=vs.any fun kv=>decide (kv.1=k):=by
 unfold KV at r
 induction r with
 | nil=>rfl
 | cons h t ih=>rw [List.any_cons,List.any_cons,ih,h.1]
theorem KV.repl {kvs:List (κ × V)} {vs:List (κ × Value)} (r:KV kvs vs) (k:κ) {y:V} {u:Value} (ry:RelV y u) :
 KV (kvs.map fun kv=>if kv.1=k then (kv.1,y) else kv) (vs.map fun kv=>if kv.1=k then (kv.1,u) else kv):=by
 unfold KV at r ⊢
 induction r with
 | nil=>exact .nil
 | @cons p q ps qs h t ih =>
  rw [List.map_cons,List.map_cons]
  refine .cons ?_ ih
  obtain ⟨h1,h2⟩:=h
  by_cases e:p.1=k
  ·rw [if_pos e,if_pos (h1.symm.trans e)];exact ⟨h1,ry⟩
  ·rw [if_neg e,if_neg (fun z=>e (h1.trans z))];exact ⟨h1,h2⟩
theorem KV.put {kvs:List (κ × V)} {vs:List (κ × Value)} (r:KV kvs vs) (k:κ) {y:V} {u:Value} (ry:RelV y u):KV (BG kvs k y) (stored vs k u):=by
 unfold BG stored
 rw [r.any k]
 by_cases e:(vs.any fun kv=>decide (kv.1=k))=true
 ·rw [if_pos e,if_pos e];exact r.repl k ry
 ·rw [if_neg e,if_neg e];exact Paired.snoc r ⟨rfl,ry⟩
theorem KV.length {kvs:List (κ × V)} {vs:List (κ × Value)} (r:KV kvs vs):kvs.length=vs.length:=Paired.length r
end
theorem Ah {P:Program} {w:World} {k:Key} {u:Value} (r:RelV (kV k) u):(An P w).is k u=true:=by
 cases k with
 | inl i=>obtain ⟨t,e⟩:=(show ∃ t,u=Value.int i t from r);subst e;exact MH P w i t
 | inr x=>obtain ⟨t,e⟩:=(show ∃ t,u=Value.str x t from r);subst e;exact JA P w x t
theorem FX {P:Program} {w:World}:∀ {ks:List Key} {us:List Value},Vals (ks.map kV) us->ItemsAre (An P w) ks us
 | [],_,r=>by rw [List.map_nil] at r;cases r;exact .nil
 | k::ks,_,r=>by
  rw [List.map_cons] at r
  cases r with
  | cons h t=>exact .cons (Ah h) (FX t)
abbrev KT (H:Hp):List (List Key × V)->List (List Key × Addr × Value)->Prop:=Paired fun p q=>p.1=q.1/\H q.2.1=some (.tup (p.1.map kV))/\RelV p.2 q.2.2
theorem KT.val {H:Hp} {kvs:List (List Key × V)} {xs:List (List Key × Addr × Value)} (r:KT H kvs xs) (k:List Key):RelO (AW kvs k) ((atKey xs k).map (·.2)):=by
 induction r with
 | nil=>exact True.intro
 | @cons p q ps qs h t ih =>
  obtain ⟨h1,_,h2⟩:=h
  by_cases e:p.1=k
  ·have e':q.1=k:=h1.symm.trans e
   have b:atKey (q::qs) k=some q.2:=by simp [atKey,List.find?_cons,e']
   rw [DJ e,b];exact h2
  ·have e':¬ q.1=k:=fun z=>e (h1.trans z)
   have b:atKey (q::qs) k=atKey qs k:=by simp [atKey,List.find?_cons,e']
   rw [DS e,b];exact ih
section
variable {P:Program} {w:World} {H:Hp} {h:Heap} {a:Addr}
theorem Hm {u:HO} (ok:HOk P w H h) (e:Rd H a u):ObjOk P w H h a u:=e.ok ok
theorem DY {kvs:List (Key × V)} (ok:HOk P w H h) (e:Rd H a (.dK kvs)):kvs.length<=sizeLine/\(a == sysModules)=false/\∃ vs,KV kvs vs/\h.DictOf (An P w) a vs :=
 show ObjOk P w H h a (.dK kvs) from Hm ok e
theorem IT {kvs:List (Key × V)} (ok:HOk P w H h) (e:H a=some (.dK kvs)):kvs.length<=sizeLine/\(a == sysModules)=false/\∃ vs,KV kvs vs/\h.DictOf (An P w) a vs:=DY ok (.inl e)
theorem E8 {ks:List Key} (ok:HOk P w H h) (e:H a=some (.tup (ks.map kV))):(tupleKind (An P w)).is h ks a:=by
 obtain ⟨_,its,r,o,h1,h2,⟨n,h3⟩,_⟩:=(show ObjOk P w H h a (.tup (ks.map kV)) from ok a _ e)
 exact ⟨o,its.toArray,n,h1,h2,h3,by simpa using FX r⟩
theorem Ec {kvs:List (List Key × V)} (ok:HOk P w H h) (e:Rd H a (.dT kvs)):kvs.length<=sizeLine/\(a == sysModules)=false /\
 ∃ xs,KT H kvs xs/\h.DictOfH (tupleKind (An P w)) a xs:=by
 obtain ⟨z,y,xs,r,o,es,ep,h1,h2,h3,h4,h5⟩:=(show ObjOk P w H h a (.dT kvs) from Hm ok e)
 refine ⟨z,y,xs,r,o,es,ep,h1,h2,h3,h4,fun x hx=>?_,h5⟩
 have all:∀ {l:List (List Key × V)} {m:List (List Key × Addr × Value)},KT H l m->∀ x∈m,(tupleKind (An P w)).is h x.1 x.2.1:=by
  intro l m q
  induction q with
  | nil=>intro x hx;exact nomatch hx
  | @cons p q ps qs hq t ih =>
   intro x hx
   rcases List.mem_cons.mp hx with e | hx
   ·subst e
    exact E8 ok (by rw [<- hq.1];exact hq.2.1)
   ·exact ih x hx
 exact all r x hx
end
def DGet (H:Hp) (a:Addr) (y:V) (r:Option V):Prop :=
 (∃ kvs k,Rd H a (.dK kvs)/\y=kV k/\r=AW kvs k)\/∃ kvs k b,Rd H a (.dT kvs)/\y=.ref b/\H b=some (.tup (k.map kV))/\r=AW kvs k
def DPut (H:Hp) (a:Addr) (y v:V) (H':Hp):Prop :=
 (∃ kvs k,H a=some (.dK kvs)/\y=kV k/\kvs.length < sizeLine/\H'=upd H a (.dK (BG kvs k v))) \/
 ∃ kvs k b,H a=some (.dT kvs)/\y=.ref b/\H b=some (.tup (k.map kV))/\kvs.length < sizeLine/\H'=upd H a (.dT (BG kvs k v))
theorem DGet.k {H:Hp} {a:Addr} {kvs:List (Key × V)} {k:Key} (e:H a=some (.dK kvs)):DGet H a (kV k) (AW kvs k):=.inl ⟨kvs,k,.inl e,rfl,rfl⟩
theorem DGet.t {H:Hp} {a b:Addr} {kvs:List (List Key × V)} {k:List Key} (e:H a=some (.dT kvs)) (eb:H b=some (.tup (k.map kV))):DGet H a (.ref b) (AW kvs k):=.inr ⟨kvs,k,b,.inl e,rfl,eb,rfl⟩
theorem DPut.k {H:Hp} {a:Addr} {kvs:List (Key × V)} {k:Key} {v:V} (e:H a=some (.dK kvs)) (hl:kvs.length < sizeLine):DPut H a (kV k) v (upd H a (.dK (BG kvs k v))):=.inl ⟨kvs,k,e,rfl,hl,rfl⟩
theorem DPut.t {H:Hp} {a b:Addr} {kvs:List (List Key × V)} {k:List Key} {v:V} (e:H a=some (.dT kvs)) (eb:H b=some (.tup (k.map kV))) (hl:kvs.length < sizeLine) :
 DPut H a (.ref b) v (upd H a (.dT (BG kvs k v))):=.inr ⟨kvs,k,b,e,rfl,eb,hl,rfl⟩
section
variable {X:Cx} {pins:List (Addr × Obj)} {σ:St} {H:Hp} {s:Shared} {a:Addr} {y v:V} {u r:Value} {o:Option V} {A:Around} {E:Value->Shared->Prop}
theorem Inv.big (I:Inv X pins σ H s):sysModules < s.heap.objs.size:=by
 have h:mainGlobals < s.heap.objs.size:=(I.mod.glob.keeps I.bk).lt
 exact Nat.lt_trans (by decide) h
theorem Jl {Q:Value->Shared->Prop} (hu:A.units+1 < cLine) (I:Inv X pins σ H s) (g:DGet H a y (some v)) (ry:RelV y u) (h:∀ w' s',Inv X pins σ H s'->RelV v w'->Q w' s') :
 wpAny (model X.prog X.w) A (getItem (.ref a) u) Q E s:=by
 rcases g with ⟨kvs,k,e,ey,l⟩ | ⟨kvs,k,b,e,ey,eb,l⟩
 ·subst ey
  obtain ⟨z,hd,vs,rel,dd⟩:=DY I.hok e
  obtain ⟨w',hw,rw'⟩:=RelO.some_of (v:=v) (o:=valueAt vs k) (by rw [l];exact rel.val k)
  exact wpAny_getItem_of (Ah ry) dd.mapOf hw (h w' _ (I.tok _) rw')
 ·subst ey
  cases (show u=Value.ref b from ry)
  obtain ⟨z,hd,xs,rel,dd⟩:=Ec I.hok e
  obtain ⟨w',hw,rw'⟩:=RelO.some_of (v:=v) (o:=(atKey xs k).map (·.2)) (by rw [l];exact rel.val k)
  obtain ⟨p,hp,hp2⟩:=Option.map_eq_some_iff.mp hw
  refine wpAny_getItem_heap (tupleKind_room_in1 hu) (E8 I.hok eb) dd hp ?_
  rw [hp2]
  exact h w' _ (I.tok _) rw'
theorem Lx {Q:Value->Shared->Prop} (hu:A.units+1 < cLine) (I:Inv X pins σ H s) (g:DGet H a y o) (ry:RelV y u) (h:∀ s',Inv X pins σ H s'->Q (.bool (!o.isSome)) s') :
 wpAny (model X.prog X.w) A (compareOp .NotIn u (.ref a)) Q E s:=by
 rcases g with ⟨kvs,k,e,ey,l⟩ | ⟨kvs,k,b,e,ey,eb,l⟩
 ·subst ey
  obtain ⟨z,hd,vs,rel,dd⟩:=DY I.hok e
  refine wpAny_notIn_of (Ah ry) hd dd.mapOf ?_
  rw [<- (rel.val k).isSome_eq,<- l]
  exact h _ (I.tok _)
 ·subst ey
  cases (show u=Value.ref b from ry)
  obtain ⟨z,hd,xs,rel,dd⟩:=Ec I.hok e
  refine wpAny_notIn_heap (tupleKind_room_in1 hu) (E8 I.hok eb) hd dd ?_
  have q:=(rel.val k).isSome_eq
  rw [Option.isSome_map] at q
  rw [<- q,<- l]
  exact h _ (I.tok _)
theorem Jq {h':Heap} {t':Nat} {ob:HO} (I:Inv X pins σ H s) (mu:Mut (H a)) (hs:Heap.SameBut a s.heap h') (he:∃ q,h'.get? a=some q) (new:ObjOk X.prog X.w (upd H a ob) h' a ob) :
 Inv X pins σ (upd H a ob) { s with heap:=h',toks:=t' } :=
 I.write (x:=a) (e:=a) mu (.inl rfl) (fun b q hb z=>(hs.2 b hb).trans z) he new
theorem KH {P:Program} {w:World} {H':Hp} {h':Heap} {kvs:List (Key × V)} {vs:List (Key × Value)} (z:kvs.length<=sizeLine) (hd:(a == sysModules)=false) (rel:KV kvs vs) (dd:h'.DictOf (An P w) a vs) :
 ObjOk P w H' h' a (.dK kvs):=⟨z,hd,vs,rel,dd⟩
end
section
variable {X:Cx} {pins:List (Addr × Obj)} {σ:St} {H:Hp} {s:Shared} {a:Addr} {kvs:List (Key × V)} {k:Key} {u:Value} {A:Around} {E:Value->Shared->Prop}
end
def EG (i:Expr):Prop:=∀ ov iv,subscripted i false ov iv=operate [ov,iv] (getItem ov iv)
theorem Fl {prog:Program} {w:World} {A:Around} {E:Value->Shared->Prop} {s:Shared} {env:Env} {value slice:Expr} {pos:Pos} {T id:String} {Q:Value->Shared->Prop}
 (hl:typeLookup (.type T) "__getitem__" = pure (some (.builtin id))) (hs:EG slice)
 (h:wpAny (model prog w) A (eval value env) (fun o s₁=>wpAny (model prog w) A (eval slice env) (fun i s₂=>s₂.TypeIs o T/\wpAny (model prog w) A (getItem o i) Q E s₂) E s₁) E s) :
 wpAny (model prog w) A (eval (.Subscript value slice pos) env) Q E s:=by
 refine Subscript_ (wpAny_mono h (fun o s₁ h₁=>wpAny_mono h₁ (fun i s₂ h₂=>?_) fun _ _ x=>x) fun _ _ x=>x)
 obtain ⟨hT,h₂⟩:=h₂
 unfold subscriptTail
 refine wpAny_bind ?_
 rw [getitemInPython_of_ne hT.not_modules]
 refine wpAny_bind (wpAny_specialOf hT hl ?_)
 have fin:wpAny (model prog w) A (subscripted slice false o i) (fun r s₃=>wpAny (model prog w) A (letTemporaryGo value o r >>= fun _=>pure r) Q E s₃) E s₂:=by
  rw [hs o i]
  exact wpAny_operating (wpAny_mono h₂ (fun r s₃ h₃=>wpAny_bind (wpAny_letTemporaryGo (wpAny_pure h₃))) fun _ _ x=>x)
 first
  | exact wpAny_pure (wpAny_bind fin)
  | exact wpAny_bind (wpAny_pure (wpAny_bind fin))
  | exact wpAny_bind fin
theorem KF {X:Cx} {pins:List (Addr × Obj)} {σ:St} {H:Hp} {s:Shared} {a:Addr} {y:V} {o:Option V} (I:Inv X pins σ H s) (g:DGet H a y o):s.TypeIs (.ref a) "dict":=by
 rcases g with ⟨kvs,k,e,_,_⟩ | ⟨kvs,k,b,e,_,_,_⟩
 ·obtain ⟨_,_,vs,_,dd⟩:=DY I.hok e
  exact dd.typeIs
 ·obtain ⟨_,_,xs,_,dd⟩:=Ec I.hok e
  exact dd.typeIs
def L8 (td ty:TE):TE:=fun σ H Q=>td σ H fun x H1=>ty σ H1 fun y H2=>∃ a v,x=.ref a/\DGet H2 a y (some v)/\Q v H2
section
variable {X:Cx} {o i e value:Expr} {pos pos' tpos:Pos} {td ty tv:TE}
theorem Le (hu:X.A.units+1 < cLine) (ho:PE X o td) (hi:PE X i ty) (hs:EG i):PE X (.Subscript o i pos) (L8 td ty):=by
 intro pins s σ H Q I h
 refine Fl PySem.F.slot_dict_getitem.lookup hs (thn (ho pins s σ H _ I h) fun u s1 ⟨x,H1,I1,rx,q1⟩=>thn (hi pins s1 σ H1 _ I1 q1) fun iv s2 ⟨y,H2,I2,ry,a,v,ex,g,q2⟩=>?_)
 subst ex
 obtain rfl:u=Value.ref a:=rx
 exact ⟨KF I2 g,Jl hu I2 g ry fun w' s3 I3 rw'=>⟨v,H2,I3,rw',q2⟩⟩
end
theorem GE {P:Program} {w:World} {H:Hp} (h:Heap) (hb:sysModules < h.objs.size):ObjOk P w H (h.push { cls:=.type "dict",data:=.dict #[] }) h.objs.size (.dK []) :=
 ⟨Nat.zero_le _,beq_eq_false_iff_ne.mpr (Ne.symm (Nat.ne_of_lt hb)),[],.nil,Heap.DictOf.new h⟩
def Hi:TE:=fun _ H Q=>∀ p,H p=none->Q (.ref p) (upd H p (.dK []))
section
variable {X:Cx} {pos:Pos}
theorem Ex:PE X (.Dict [] [] pos) Hi:=fun pins s σ H Q I h =>
 wpAny_Dict_empty ⟨.ref s.heap.objs.size,_,I.laid (a:=s.heap.objs.size) (o:=.dK []) (t':=s.toks) (fun _ _ q=>Heap.get?_push_of_some _ q) (Nat.le_refl _) (GE s.heap I.big),rfl,h _ (I.hok.fresh (Nat.le_refl _))⟩
end
def D5:List (TE × TE)->St->Hp->(List (V × V)->Hp->Prop)->Prop
 | [],_,H,Q=>Q [] H
 | (tk,tv)::r,σ,H,Q=>tk σ H fun x H1=>tv σ H1 fun y H2=>D5 r σ H2 fun ps H3=>Q ((x,y)::ps) H3
abbrev VV:List (V × V)->List (Value × Value)->Prop:=Paired fun p q=>RelV p.1 q.1/\RelV p.2 q.2
def PPs (X:Cx) (pos:Pos) (keys:List (Option Expr)) (values:List Expr) (trs:List (TE × TE)):Prop :=
 ∀ (pins:List (Addr × Obj)) (s:Shared) (σ:St) (H:Hp) (Q:List (V × V)->Hp->Prop),Inv X pins σ H s->D5 trs σ H Q ->
  wpAny (model X.prog X.w) X.A (evalPairs (pairTrees keys values X.env pos)) (fun vs s'=>∃ ps H',Inv X pins σ H' s'/\VV ps vs/\Q ps H') X.xe s
theorem MD {X:Cx} {pos:Pos}:PPs X pos [] [] []:=fun pins s σ H Q I h=>pairTrees_nil_walk ⟨[],H,I,.nil,h⟩
theorem B0 {X:Cx} {pos:Pos} {k v:Expr} {ks:List (Option Expr)} {vs:List Expr} {tk tv:TE} {trs:List (TE × TE)} (hk:PE X k tk) (hv:PE X v tv) (hr:PPs X pos ks vs trs) :
 PPs X pos (some k::ks) (v::vs) ((tk,tv)::trs):=fun pins s σ H Q I h =>
 pairTrees_cons_walk (thn (hk pins s σ H _ I h) fun u s1 ⟨x,H1,I1,rx,q1⟩=>thn (hv pins s1 σ H1 _ I1 q1) fun w2 s2 ⟨y,H2,I2,ry,q2⟩ =>
  thn (hr pins s2 σ H2 _ I2 q2) fun ws s3 ⟨ps,H3,I3,rel,q3⟩=>⟨(x,y)::ps,H3,I3,.cons ⟨rx,ry⟩ rel,q3⟩)
def Bm (kvs more:List (Key × V)):List (Key × V):=more.foldl (fun acc kv=>BG acc kv.1 kv.2) kvs
theorem KV.merge:∀ {more:List (Key × V)} {rs:List (Key × Value)} {kvs:List (Key × V)} {vs:List (Key × Value)},KV more rs->KV kvs vs->KV (Bm kvs more) (merged vs rs):=by
 intro more rs kvs vs r
 unfold KV at r
 induction r generalizing kvs vs with
 | nil=>intro q;exact q
 | @cons p q ps qs h t ih =>
  intro r0
  have e:KV (BG kvs p.1 p.2) (stored vs q.1 q.2):=by
   have:=r0.put p.1 h.2
   rw [<- h.1];exact this
  exact ih e
theorem FY:∀ (more kvs:List (Key × V)),(Bm kvs more).length<=kvs.length+more.length
 | [],kvs=>by show kvs.length<=kvs.length+0;omega
 | p::r,kvs=>by
  have h1:=FY r (BG kvs p.1 p.2)
  have h2:=KW kvs p.1 p.2
  show (Bm (BG kvs p.1 p.2) r).length<=_
  rw [List.length_cons];omega
theorem FG {P:Program} {w:World}:∀ {kvs:List (Key × V)} {ws:List (Value × Value)},VV (kvs.map fun kv=>(kV kv.1,kv.2)) ws->∃ rs,Carries (An P w) ws rs/\KV kvs rs
 | [],_,r=>by rw [List.map_nil] at r;cases r;exact ⟨[],True.intro,.nil⟩
 | p::kvs,_,r=>by
  rw [List.map_cons] at r
  cases r with
  | @cons a b as bs h t =>
   obtain ⟨rs,c,q⟩:=FG (P:=P) (w:=w) t
   obtain ⟨b1,b2⟩:=b
   exact ⟨(p.1,b2)::rs,⟨Ah h.1,rfl,c⟩,.cons ⟨rfl,h.2⟩ q⟩
def Ld (trs:List (TE × TE)):TE:=fun σ H Q=>∀ p,H p=none->D5 trs σ (upd H p (.dK [])) fun ps H2=>H2 p=some (.dK [])/\∃ kvs:List (Key × V),ps=kvs.map (fun kv=>(kV kv.1,kv.2))/\kvs.length<=15/\Q (.ref p) (upd H2 p (.dK (Bm [] kvs)))
theorem LS {X:Cx} {pos:Pos} {keys:List (Option Expr)} {values:List Expr} {trs:List (TE × TE)} (h:PPs X pos keys values trs) (hall:keys.all (·.isSome)=true) (hl:keys.length=values.length) (h0:keys≠[])
 (h15:keys.length<=15):PE X (.Dict keys values pos) (Ld trs):=by
 intro pins s σ H Q I q
 have hn:=I.hok.fresh (Nat.le_refl s.heap.objs.size)
 have I1:=I.laid (a:=s.heap.objs.size) (o:=.dK []) (h':=s.heap.push { cls:=.type "dict",data:=.dict #[] }) (t':=s.toks) (fun _ _ q=>Heap.get?_push_of_some _ q) (Nat.le_refl _) (GE s.heap I.big)
 refine wpAny_Dict_walk (knd:=An X.prog X.w) hall hl h0 h15 (thn (h pins _ σ _ _ I1 (q _ hn)) fun ws s2 ⟨ps,H2,I2,rel,e,kvs,ep,lk,q2⟩=>?_)
 subst ep
 obtain ⟨rs,c,rk⟩:=FG (P:=X.prog) (w:=X.w) rel
 obtain ⟨z,hd,vs0,r0,dd⟩:=IT I2.hok e
 cases r0
 refine ⟨rs,c,dd,fun h' dd' hs=>⟨.ref s.heap.objs.size,_,?_,rfl,q2⟩⟩
 have hz:(Bm [] kvs).length<=sizeLine:=by
  have h1:=FY kvs []
  rw [List.length_nil] at h1
  rw [sizeLine_eq];omega
 have he:∃ q,h'.get? s.heap.objs.size=some q:=let ⟨q,_,_,hq,_⟩:=dd';⟨q,hq⟩
 exact Jq I2 (by rw [e];exact True.intro) hs he (KH hz hd (rk.merge .nil) dd')
structure M1 (X:Cx) (o:Expr) (m:Str) (apos:Pos) (e:Expr) (cpos:Pos):Prop where
 base:attributeBase o m X.env (eval o X.env)=eval o X.env
 few:((backTo cpos (starEach [e] X.env)).all (fun x=>!x.1) && (backToKw cpos (keywordEach [] X.env)).all (fun x=>x.1.isSome)
  && decide (([e]:List Expr).length+([]:List Keyword).length+(if ([]:List Keyword).isEmpty then 0 else 1) < 30))=true
 line:(apos.endLine == cpos.line)=true
 trees:backTo cpos (starEach [e] X.env)=[(false,eval e X.env)]
structure M2 (X:Cx) (o:Expr) (m:Str) (apos:Pos) (e f:Expr) (cpos:Pos):Prop where
 base:attributeBase o m X.env (eval o X.env)=eval o X.env
 few:((backTo cpos (starEach [e,f] X.env)).all (fun x=>!x.1) && (backToKw cpos (keywordEach [] X.env)).all (fun x=>x.1.isSome)
  && decide (([e,f]:List Expr).length+([]:List Keyword).length+(if ([]:List Keyword).isEmpty then 0 else 1) < 30))=true
 line:(apos.endLine == cpos.line)=true
 trees:backTo cpos (starEach [e,f] X.env)=[(false,eval e X.env),(false,eval f X.env)]
section
variable {X:Cx} {pins:List (Addr × Obj)} {σ:St} {H:Hp} {s:Shared} {a:Addr} {y d:V} {u r:Value} {o:Option V} {A:Around} {E:Value->Shared->Prop}
end
section
variable {X:Cx} {o e f:Expr} {apos cpos:Pos} {td ty tx:TE}
end
section
variable {X:Cx} {pins:List (Addr × Obj)} {σ:St} {H:Hp} {s:Shared} {a:Addr} {kvs:List (Key × V)} {A:Around} {E:Value->Shared->Prop}
end
section
variable {X:Cx} {pins:List (Addr × Obj)} {σ:St} {H:Hp} {s:Shared} {a:Addr} {y:V} {u:Value} {A:Around} {E:Value->Shared->Prop}
end
theorem JK {M:Model} {A:Around} {E:Value->Shared->Prop} {s:Shared} {b:Bool} {Q:Int->Shared->Prop} (h:Q (if b=true then 1 else 0) s):wpAny M A (Builtin.Int.intOfSelf (.bool b)) Q E s:=by
 unfold Builtin.Int.intOfSelf
 exact wpAny_pure h
theorem Lj {prog:Program} {w:World} {A:Around} {E:Value->Shared->Prop} {s:Shared} {b:Bool} {Q:Int->Shared->Prop} (h:Q (if b=true then 1 else 0) { s with toks:=s.toks+1 }):wpAny (model prog w) A (pyHash (.bool b)) Q E s:=by
 show wpAny _ _ (pyHashByItsType (.bool b)) _ _ _
 refine PySem.W.pyHash_slot (T:="bool") rfl PySem.F.slot_bool_hash PySem.F.entry_int_hash (PySem.F.args_int_hash_1 _) rfl (.inl rfl) ?_
 unfold Builtin.«int.__hash__» Builtin.Int.intSlot0
 refine wpAny_bind (wpAny_bind ?_)
 show wpAny _ _ (pure (Value.bool b,[])) _ _ _
 refine wpAny_pure (wpAny_bind (JK (wpAny_pure ?_)))
 cases b with
 | true=>exact wpAny_bind (wpAny_mkInt (wpAny_pure ⟨_,_,rfl,h⟩))
 | false=>exact wpAny_bind (wpAny_mkInt (wpAny_pure ⟨_,_,rfl,h⟩))
def FE:Bool->Value->Bool
 | b,.bool c=>b == c
 | _,_=>false
theorem Bt {b:Bool} {v:Value} (h:FE b v=true):v=.bool b:=by
 unfold FE at h
 split at h
 ·rw [beq_iff_eq.mp h]
 ·cases h
def Ii (prog:Program) (w:World):PySem.KeyKind prog w Bool where
 is:=FE
 hash:=fun b=>if b=true then 1 else 0
 inj:=fun v a b ha hb=>by
  have e1:=Bt ha
  have e2:=Bt hb
  rw [e1] at e2
  injection e2
 byValue:=fun k v h=>by rw [Bt h];rfl
 pyHash:=fun hv h=>by rw [Bt hv];exact Lj h
 eqBool:=fun {A E s a b u v Q} hu hv h=>by
  rw [Bt hu,Bt hv]
  refine SeqAt.EqAt.bool_bool a b _ _ _ _ ?_
  have e:(a == b)=decide (a=b):=by cases a <;> cases b <;> rfl
  rw [e];exact h
 «strs»:=fun k x t v h=>by
  have:=Bt h
  cases this
section
variable {P:Program} {w:World} {H:Hp} {h:Heap} {a:Addr}
end
section
variable {X:Cx} {o i e value:Expr} {pos pos' tpos:Pos} {td ty tv:TE}
end
section
variable {X:Cx} {P:Program} {w:World} {o i:Expr} {pos:Pos} {td ty:TE}
end
section
variable {X:Cx} {K:PySem.W.Frag} {o:Expr} {to:TE} {apos cpos:Pos}
end
section
variable {X:Cx}
end
def TyS (K:PySem.W.Frag) (H:Hp) (x:V) (t:String):Prop:=match x with
 | .int _=>t = "int"
 | .bl _=>t = "bool"
 | .ref a=>(t = "tuple" /\ ∃ xs,SqT K H a xs)\/(t = "list" /\ ∃ xs,SqL K H a xs)
 | _=>False
def BC (t T:String):Bool:=t == T || (t == "bool" && T == "int")
section
variable {X:Cx} {K:PySem.W.Frag}
theorem FR {pins:List (Addr × Obj)} {σ:St} {H:Hp} {s:Shared} {x:V} {u:Value} {t:String} (I:Inv X pins σ H s) (rx:RelV x u) (h:TyS X.K H x t) :
 (t = "int" \/ t = "bool" \/ t = "tuple" \/ t = "list")/\u≠Value.builtin "__main__.__loader__#opaque" /\ ∃ Hh:Heap->Prop,PySem.W.KitX X.K u (.type t) Hh/\Hh s.heap:=by
 cases x with
 | int i =>
  obtain ⟨k,rfl⟩:=(show ∃ t,u=Value.int i t from rx)
  cases (show t = "int" from h)
  exact ⟨.inl rfl,(fun z=>nomatch z),_,PySem.W.kitx_int,True.intro⟩
 | bl b =>
  cases (show u=Value.bool b from rx)
  cases (show t = "bool" from h)
  exact ⟨.inr (.inl rfl),(fun z=>nomatch z),_,PySem.W.kitx_bool,True.intro⟩
 | ref a =>
  cases (show u=Value.ref a from rx)
  rcases h with ⟨rfl,xs,hq⟩ | ⟨rfl,xs,hq⟩
  ·obtain ⟨its,rv,p,_⟩:=I.tuple hq
   obtain ⟨o,h1,h2,_⟩:=p
   exact ⟨.inr (.inr (.inl rfl)),(fun z=>nomatch z),_,PySem.W.kitx_tuple,⟨o,h1,h2⟩⟩
  ·obtain ⟨its,rv,p,_⟩:=I.list hq
   obtain ⟨o,n,h1,h2,_⟩:=p
   exact ⟨.inr (.inr (.inr rfl)),(fun z=>nomatch z),_,PySem.W.kitx_list,⟨o,h1,h2⟩⟩
 | _=>exact False.elim h
end
section
variable {X:Cx} {pins:List (Addr × Obj)} {σ:St} {H:Hp} {s:Shared}
end
section
variable {X:Cx} {K:PySem.W.Frag}
end
open AutoSeq1 (wpAny_loadPart')
section
variable {prog:Program} {w:World} {A:Around} {E:Value->Shared->Prop} {s:Shared}
end
section
variable {X:Cx}
end
structure Feed (H:Hp) (t:Addr):Prop where
 at_:∃ a b k c:Int,0<=a/\H t=some (.lst [.int a,.int b,.int k,.int c])
theorem Feed.same {H H':Hp} {t:Addr} (F:Feed H t) (h:Same H H'):Feed H' t:=by
 obtain ⟨a,b,k,c,h1,h2⟩:=F.at_
 exact ⟨a,b,k,c,h1,h _ _ h2⟩
theorem Feed.upd {H:Hp} {t p:Addr} {o:HO} (F:Feed H t) (h:H p=none):Feed (L2.upd H p o) t:=F.same (Same.upd h)
theorem EW (a b:Nat):(a ^^^ b) / 2=a / 2 ^^^ b / 2:=by
 have:=Nat.xor_div_two_pow (a:=a) (b:=b) (n:=1)
 simpa using this
theorem EY (a b:Nat):(a &&& b) % 2=a % 2 * (b % 2)/\(a ^^^ b) % 2=(a % 2+b % 2) % 2/\(a ||| b) % 2=a % 2+b % 2 - a % 2 * (b % 2):=by
 have h1:=Nat.and_mod_two_pow (a:=a) (b:=b) (n:=1)
 have h2:=Nat.xor_mod_two_pow (a:=a) (b:=b) (n:=1)
 have h3:=Nat.or_mod_two_pow (a:=a) (b:=b) (n:=1)
 rw [Nat.pow_one] at h1 h2 h3
 rw [h1,h2,h3]
 have ha:a % 2=0\/a % 2=1:=by omega
 have hb:b % 2=0\/b % 2=1:=by omega
 rcases ha with ha | ha <;> rcases hb with hb | hb <;> rw [ha,hb] <;> decide
theorem Fx {H0 H:Hp} {t:Addr} {o:HO} (s:Same H0 H) (ht:H0 t=none):Same H0 (upd H t o):=fun b u e=>by
 rw [AJ (Bi e ht)];exact s b u e
theorem Same.sqT {K:PySem.W.Frag} {H H':Hp} {a:Addr} {xs:List V} (e:Same H H') (h:SqT K H a xs):SqT K H' a xs:=Gm h (fun o k=>e _ _ k)
def AD (f:Nat->Int):Nat->Int
 | 0=>0
 | n+1=>AD f n+f n
theorem BE {f g:Nat->Int}:∀ {n:Nat},(∀ j,j < n->f j=g j)->AD f n=AD g n
 | 0,_=>rfl
 | n+1,h=>by
  show AD f n+f n=AD g n+g n
  rw [BE fun j hj=>h j (Nat.lt_succ_of_lt hj),h n (Nat.lt_succ_self n)]
theorem HQ (f g:Nat->Int):∀ n,AD f n+AD g n=AD (fun j=>f j+g j) n
 | 0=>rfl
 | n+1=>by
  show AD f n+f n+(AD g n+g n)=AD (fun j=>f j+g j) n+(f n+g n)
  rw [<- HQ f g n];omega
theorem GL (f g:Nat->Int):∀ n,AD f n - AD g n=AD (fun j=>f j - g j) n
 | 0=>rfl
 | n+1=>by
  show AD f n+f n - (AD g n+g n)=AD (fun j=>f j - g j) n+(f n - g n)
  rw [<- GL f g n];omega
theorem By (c:Int) (f:Nat->Int):∀ n,c * AD f n=AD (fun j=>c * f j) n
 | 0=>by show c * 0=0;omega
 | n+1=>by
  show c * (AD f n+f n)=AD (fun j=>c * f j) n+c * f n
  rw [<- By c f n,Int.mul_add]
theorem HS (c:Int) (f:Nat->Int) (n:Nat):AD f n * c=AD (fun j=>f j * c) n:=by
 rw [Int.mul_comm,By]
 exact BE fun j _=>Int.mul_comm _ _
theorem G0:∀ n,AD (fun _=>0) n=0
 | 0=>rfl
 | n+1=>by show AD (fun _=>0) n+0=0;rw [G0 n];rfl
theorem EH (f:Nat->Nat->Int) (m:Nat):∀ n,AD (fun i=>AD (fun j=>f i j) m) n=AD (fun j=>AD (fun i=>f i j) n) m
 | 0=>by show (0:Int)=AD (fun _=>0) m;rw [G0]
 | n+1=>by
  show AD (fun i=>AD (fun j=>f i j) m) n+AD (fun j=>f n j) m=AD (fun j=>AD (fun i=>f i j) n+f n j) m
  rw [EH f m n,HQ]
theorem Fe (g:Nat->Int) (x:Nat):∀ n,AD (fun y=>if x=y then g y else 0) n=if x < n then g x else 0
 | 0=>by simp [AD]
 | n+1=>by
  show AD (fun y=>if x=y then g y else 0) n+(if x=n then g n else 0)=_
  rw [Fe g x n]
  by_cases h:x=n
  ·subst h;rw [if_neg (by omega),if_pos rfl,if_pos (by omega)];omega
  ·by_cases h2:x < n
   ·rw [if_pos h2,if_neg h,if_pos (by omega)];omega
   ·rw [if_neg h2,if_neg h,if_neg (by omega)];rfl
theorem Dc (f:Nat->Int):∀ m,AD f (2 * m)=AD (fun j=>f (2 * j)+f (2 * j+1)) m
 | 0=>rfl
 | m+1=>by
  show AD f (2 * m)+f (2 * m)+f (2 * m+1)=AD (fun j=>f (2 * j)+f (2 * j+1)) m+(f (2 * m)+f (2 * m+1))
  rw [Dc f m];omega
def chi:Nat->Nat->Nat->Int
 | 0,_,_=>1
 | n+1,a,b=>(if a % 2=1/\b % 2=1 then -1 else 1) * chi n (a / 2) (b / 2)
theorem D7:∀ n a b c,chi n a (b ^^^ c)=chi n a b * chi n a c
 | 0,_,_,_=>rfl
 | n+1,a,b,c=>by
  show _ * chi n (a / 2) ((b ^^^ c) / 2)=(_ * chi n (a / 2) (b / 2)) * (_ * chi n (a / 2) (c / 2))
  rw [EW,D7 n]
  generalize chi n (a / 2) (b / 2)=x
  generalize chi n (a / 2) (c / 2)=y
  have e:=(EY b c).2.1
  have ha:a % 2=0\/a % 2=1:=by omega
  have hb:b % 2=0\/b % 2=1:=by omega
  have hc:c % 2=0\/c % 2=1:=by omega
  rw [e]
  rcases ha with ha | ha <;> rcases hb with hb | hb <;> rcases hc with hc | hc <;> rw [ha,hb,hc] <;> simp [Int.mul_neg,Int.neg_mul]
theorem chi_one:∀ n a b,chi n a b=1\/chi n a b = -1
 | 0,_,_=>.inl rfl
 | n+1,a,b=>by
  show _ * chi n (a / 2) (b / 2)=1\/_ * chi n (a / 2) (b / 2) = -1
  rcases chi_one n (a / 2) (b / 2) with h | h <;> rw [h] <;> by_cases g:a % 2=1/\b % 2=1 <;> simp [g]
theorem Jx (n a b:Nat):chi n a b * chi n a b=1:=by
 rcases chi_one n a b with h | h <;> rw [h] <;> rfl
theorem EU:∀ n a,chi n a 0=1
 | 0,_=>rfl
 | n+1,a=>by
  show (if a % 2=1/\0 % 2=1 then -1 else 1) * chi n (a / 2) (0 / 2)=1
  rw [if_neg (by omega),Nat.zero_div,EU n];rfl
theorem GF:∀ n b,b < 2 ^ n->AD (fun a=>chi n a b) (2 ^ n)=if b=0 then ((2 ^ n:Nat):Int) else 0
 | 0,b,h=>by
  have:b=0:=by simpa using h
  subst this;rfl
 | n+1,b,h=>by
  rw [Nat.pow_succ,Nat.mul_comm,Dc]
  have e:∀ j,chi (n+1) (2 * j) b+chi (n+1) (2 * j+1) b=(if b % 2=1 then 0 else 2) * chi n j (b / 2):=fun j=>by
   show (if 2 * j % 2=1/\b % 2=1 then -1 else 1) * chi n (2 * j / 2) (b / 2)+(if (2 * j+1) % 2=1/\b % 2=1 then -1 else 1) * chi n ((2 * j+1) / 2) (b / 2)=_
   rw [show 2 * j / 2=j by omega,show (2 * j+1) / 2=j by omega,if_neg (by omega)]
   by_cases hb:b % 2=1
   ·rw [if_pos ⟨by omega,hb⟩,if_pos hb];omega
   ·rw [if_neg (fun z=>hb z.2),if_neg hb];omega
  rw [BE (g:=fun j=>(if b % 2=1 then 0 else 2) * chi n j (b / 2)) fun j _=>e j,<- By,GF n (b / 2) (by rw [Nat.pow_succ] at h;omega)]
  by_cases hb:b % 2=1
  ·rw [if_pos hb,Int.zero_mul,if_neg (by omega)]
  ·rw [if_neg hb]
   by_cases h0:b=0
   ·subst h0;simp [Int.natCast_mul]
   ·rw [if_neg (by omega),if_neg h0];rfl
theorem xor_eq_zero {a b:Nat}:a ^^^ b=0 ↔ a=b:=by
 constructor
 ·intro h
  have:=congrArg (fun z=>z ^^^ b) h
  simpa [Nat.xor_assoc] using this
 ·intro h;subst h;exact Nat.xor_self a
def wt (n:Nat) (v:Nat->Int) (s:Nat):Int:=AD (fun p=>chi n s p * v p) (2 ^ n)
theorem Lo (n:Nat) (a b:Nat->Int):AD (fun s=>wt n a s * wt n b s) (2 ^ n)=((2 ^ n:Nat):Int) * AD (fun x=>a x * b x) (2 ^ n):=by
 have e1:∀ s,wt n a s * wt n b s=AD (fun x=>AD (fun y=>(a x * b y) * chi n s (x ^^^ y)) (2 ^ n)) (2 ^ n):=fun s=>by
  unfold wt
  rw [HS]
  refine BE fun x _=>?_
  rw [By]
  refine BE fun y _=>?_
  rw [D7]
  ac_rfl
 rw [BE fun s _=>e1 s,EH,By]
 refine BE fun x hx=>?_
 rw [EH]
 have e2:∀ y,y < 2 ^ n->AD (fun s=>a x * b y * chi n s (x ^^^ y)) (2 ^ n)=if x=y then ((2 ^ n:Nat):Int) * (a x * b y) else 0:=fun y hy=>by
  rw [<- By,GF n _ (Nat.xor_lt_two_pow hx hy)]
  by_cases h:x=y
  ·rw [if_pos (xor_eq_zero.mpr h),if_pos h,Int.mul_comm]
  ·rw [if_neg (fun z=>h (xor_eq_zero.mp z)),if_neg h,Int.mul_zero]
 rw [BE e2,Fe (fun y=>((2 ^ n:Nat):Int) * (a x * b y)),if_pos hx]
theorem GU:∀ (n:Nat) (f:Nat->Int) (t:Nat),t < 2 ^ n->AD (fun x=>f (x ^^^ t)) (2 ^ n)=AD f (2 ^ n)
 | 0,f,t,h=>by
  have:t=0:=by simpa using h
  subst this
  exact BE fun j _=>by rw [Nat.xor_zero]
 | n+1,f,t,h=>by
  rw [Nat.pow_succ,Nat.mul_comm,Dc,Dc]
  have ih:=GU n (fun j=>f (2 * j)+f (2 * j+1)) (t / 2) (by rw [Nat.pow_succ] at h;omega)
  rw [<- ih]
  refine BE fun j _=>?_
  have k1:=EW (2 * j) t
  have k2:=EW (2 * j+1) t
  have l1:=(EY (2 * j) t).2.1
  have l2:=(EY (2 * j+1) t).2.1
  rw [show 2 * j / 2=j by omega] at k1
  rw [show (2 * j+1) / 2=j by omega] at k2
  have ht:t % 2=0\/t % 2=1:=by omega
  rcases ht with ht | ht
  ·have e1:2 * j ^^^ t=2 * (j ^^^ t / 2):=by omega
   have e2:2 * j+1 ^^^ t=2 * (j ^^^ t / 2)+1:=by omega
   rw [e1,e2]
  ·have e1:2 * j ^^^ t=2 * (j ^^^ t / 2)+1:=by omega
   have e2:2 * j+1 ^^^ t=2 * (j ^^^ t / 2):=by omega
   rw [e1,e2,Int.add_comm]
theorem Ik (n:Nat) (v:Nat->Int) (s t:Nat) (ht:t < 2 ^ n):chi n s t * wt n v s=wt n (fun x=>v (x ^^^ t)) s:=by
 unfold wt
 rw [<- GU n (fun p=>chi n s p * v p) t ht,By]
 refine BE fun x _=>?_
 rw [D7,<- Int.mul_assoc,Int.mul_comm (chi n s x),<- Int.mul_assoc,Jx,Int.one_mul]
theorem Fu (n:Nat) (v:Nat->Int) (t:Nat) (ht:t < 2 ^ n):AD (fun s=>chi n s t * (wt n v s * wt n v s)) (2 ^ n)=((2 ^ n:Nat):Int) * AD (fun x=>v (x ^^^ t) * v x) (2 ^ n):=by
 rw [<- Lo n (fun x=>v (x ^^^ t)) v]
 refine BE fun s _=>?_
 rw [<- Int.mul_assoc,Ik n v s t ht]
def hs (v:Nat->Int) (s k:Nat):Int:=AD (fun j=>chi s (k % 2 ^ s) j * v (k / 2 ^ s * 2 ^ s+j)) (2 ^ s)
def FP:Nat->Nat->Nat
 | 0,_=>0
 | f+1,x=>x % 2+FP f (x / 2)
@[irreducible] def many (x:Nat):Nat:=FP 64 x
def HI (b:Bool):Int:=if b=true then -1 else 1
def Aa (bs:List Bool) (p:Nat):Int:=HI (bs.getD p false)
def Fg (q:Nat × Int):Dv:=.tup [.int q.1,.int q.2]
def Dn (m:Nat) (ts:List (Nat × Int)):Dv:=.tup [.int m,.tup (ts.map Fg)]
structure SumAt (K:PySem.W.Frag) (H:Hp) (v:V) (m:Nat) (ts:List (Nat × Int)):Prop where
 at_:∃ (a b:Addr) (vs:List V),v=.ref a/\SqT K H a [.int m,.ref b]/\SqT K H b vs/\Reps K H (ts.map Fg) vs
theorem SumAt.of {K:PySem.W.Frag} {H:Hp} {v:V} {m:Nat} {ts:List (Nat × Int)} (h:Rep K H (Dn m ts) v):SumAt K H v m ts:=by
 unfold Dn Rep at h
 obtain ⟨a,xs,rfl,ha,hr⟩:=h
 unfold Reps at hr
 obtain ⟨x,r,rfl,h1,hr⟩:=hr
 unfold Rep at h1;subst h1
 unfold Reps at hr
 obtain ⟨x,r,rfl,h2,hr⟩:=hr
 unfold Reps at hr;subst hr
 unfold Rep at h2
 obtain ⟨b,vs,rfl,hb,hr⟩:=h2
 exact ⟨a,b,vs,rfl,ha,hb,hr⟩
theorem SumAt.rep {K:PySem.W.Frag} {H:Hp} {v:V} {m:Nat} {ts:List (Nat × Int)} (h:SumAt K H v m ts):Rep K H (Dn m ts) v:=by
 obtain ⟨a,b,vs,rfl,ha,hb,hr⟩:=h.at_
 unfold Dn Rep
 refine ⟨a,_,rfl,ha,Am G9 (Am ?_ Ba)⟩
 unfold Rep
 exact ⟨b,vs,rfl,hb,hr⟩
theorem SumAt.same {K:PySem.W.Frag} {H H':Hp} {v:V} {m:Nat} {ts:List (Nat × Int)} (h:SumAt K H v m ts) (s:Same H H'):SumAt K H' v m ts:=.of (Rep.same s _ _ h.rep)
def gB (bs:List Bool) (i:Nat):Bool:=bs.getD i false
def Br (bs:List Bool) (s i:Nat):Bool:=gB bs (i ^^^ s) != gB bs i
def BF (bs:List Bool) (s n:Nat):List Nat:=(List.range n).filter (Br bs s)
theorem HL (bs:List Bool) (s n:Nat):BF bs s (n+1)=BF bs s n++(if Br bs s n=true then [n] else []):=by
 unfold BF
 rw [List.range_succ,List.filter_append]
 congr 1
 by_cases h:Br bs s n=true
 ·rw [if_pos h,List.filter_cons_of_pos h];rfl
 ·rw [if_neg h,List.filter_cons_of_neg h];rfl
theorem Kz (bs:List Bool) (s i:Nat):Aa bs (i ^^^ s) * Aa bs i=1 - 2 * (if Br bs s i=true then 1 else 0):=by
 unfold Aa Br gB HI
 cases bs.getD (i ^^^ s) false <;> cases bs.getD i false <;> decide
theorem HM (bs:List Bool) (s:Nat):∀ n,AD (fun i=>Aa bs (i ^^^ s) * Aa bs i) n=(n:Int) - 2 * ((BF bs s n).length:Int)
 | 0=>rfl
 | n+1=>by
  show AD _ n+Aa bs (n ^^^ s) * Aa bs n=_
  rw [HM bs s n,Kz,HL,List.length_append]
  by_cases h:Br bs s n=true
  ·rw [if_pos h,if_pos h,List.length_singleton];omega
  ·rw [if_neg h,if_neg h,List.length_nil];omega
theorem Gg (bs:List Bool):∀ n,BF bs 0 n=[]
 | 0=>rfl
 | n+1=>by
  rw [HL,Gg bs n,if_neg]
  ·rfl
  ·unfold Br;rw [Nat.xor_zero];simp
def CS (m:Nat) (g:Nat->Int) (t:Nat):Int:=AD (fun s=>if chi m s t = -1 then g s * g s else 0) (2 ^ m)
theorem Jm (m:Nat) (bs:List Bool) (t:Nat) (ht:t < 2 ^ m):CS m (wt m (Aa bs)) t=((2 ^ m:Nat):Int) * ((BF bs t (2 ^ m)).length:Int):=by
 have a1:=Fu m (Aa bs) t ht
 have a0:=Fu m (Aa bs) 0 (Nat.two_pow_pos m)
 rw [HM] at a1 a0
 rw [Gg] at a0
 have e:∀ s,(if chi m s t = -1 then wt m (Aa bs) s * wt m (Aa bs) s else 0) * 2=chi m s 0 * (wt m (Aa bs) s * wt m (Aa bs) s) - chi m s t * (wt m (Aa bs) s * wt m (Aa bs) s):=fun s=>by
  rw [EU]
  rcases chi_one m s t with h | h
  ·rw [h,if_neg (by decide)];omega
  ·rw [h,if_pos rfl];omega
 have k:CS m (wt m (Aa bs)) t * 2=((2 ^ m:Nat):Int) * (((2 ^ m:Nat):Int) - 2 * (([]:List Nat).length:Int)) - ((2 ^ m:Nat):Int) * (((2 ^ m:Nat):Int) - 2 * ((BF bs t (2 ^ m)).length:Int)):=by
  unfold CS
  rw [HS,BE fun s _=>e s,<- GL,a0,a1]
 have z:((([]:List Nat).length:Nat):Int)=0:=rfl
 rw [z,Int.mul_zero,Int.sub_zero,Int.mul_sub] at k
 have k2:((2 ^ m:Nat):Int) * (2 * ((BF bs t (2 ^ m)).length:Int))=2 * (((2 ^ m:Nat):Int) * ((BF bs t (2 ^ m)).length:Int)):=by ac_rfl
 rw [k2] at k
 generalize ((2 ^ m:Nat):Int) * ((BF bs t (2 ^ m)).length:Int)=y at *
 generalize ((2 ^ m:Nat):Int) * ((2 ^ m:Nat):Int)=u at *
 generalize CS m (wt m (Aa bs)) t=x at *
 omega
theorem FS {f:Nat->Int} {B:Int}:∀ {n:Nat},(∀ j,j < n->0<=f j/\f j<=B)->0<=AD f n/\AD f n<=n * B
 | 0,_=>by show (0:Int)<=0/\(0:Int)<=((0:Nat):Int) * B;simp
 | n+1,h=>by
  have i:=FS fun j hj=>h j (Nat.lt_succ_of_lt hj)
  have k:=h n (Nat.lt_succ_self n)
  show 0<=AD f n+f n/\AD f n+f n<=((n+1:Nat):Int) * B
  rw [Int.natCast_add,Int.add_mul]
  have:((1:Nat):Int) * B=B:=by simp
  omega
theorem Feed.lst {H:Hp} {t:Addr} (F:Feed H t):∃ zs,H t=some (.lst zs):=by
 obtain ⟨a,b,k,c,_,h⟩:=F.at_
 exact ⟨_,h⟩
theorem EQ:∀ (m i s:Nat),i < m->(chi m s (2 ^ i) = -1 ↔ s.testBit i=true)
 | 0,_,_,h=>by omega
 | m+1,0,s,_=>by
  show (if s % 2=1/\2 ^ 0 % 2=1 then -1 else 1) * chi m (s / 2) (2 ^ 0 / 2) = -1 ↔ _
  rw [show (2:Nat) ^ 0 / 2=0 from rfl,EU,Int.mul_one,Nat.testBit_zero,decide_eq_true_eq]
  by_cases h:s % 2=1
  ·rw [if_pos ⟨h,rfl⟩];exact ⟨fun _=>h,fun _=>rfl⟩
  ·rw [if_neg (fun z=>h z.1)];exact ⟨fun z=>by omega,fun z=>absurd z h⟩
 | m+1,i+1,s,h=>by
  show (if s % 2=1/\2 ^ (i+1) % 2=1 then -1 else 1) * chi m (s / 2) (2 ^ (i+1) / 2) = -1 ↔ _
  rw [if_neg (fun z=>by have:=z.2;rw [Nat.pow_succ] at this;omega),Int.one_mul,Nat.pow_succ,Nat.mul_div_cancel _ (by decide),Nat.testBit_succ]
  exact EQ m i (s / 2) (by omega)
theorem FL {f:Nat->Int}:∀ {n:Nat},(∀ j,j < n->0<=f j)->(0 < AD f n ↔ ∃ j,j < n/\0 < f j)
 | 0,_=>⟨fun z=>absurd z (by show ¬ (0:Int) < 0;omega),fun ⟨j,h,_⟩=>by omega⟩
 | n+1,h=>by
  have i:=FL fun j hj=>h j (Nat.lt_succ_of_lt hj)
  have z:=FS (f:=fun j=>-(-(f j))) (n:=n) (B:=AD f n) 
  have nn:0<=AD f n:=by
   by_cases c:0 < AD f n
   ·omega
   ·have:∀ k,k<=n->0<=AD f k:=fun k=>by
     induction k with
     | zero=>intro _;exact Int.le_refl _
     | succ k ih =>
      intro hk
      have:=ih (by omega)
      have:=h k (by omega)
      show 0<=AD f k+f k
      omega
    exact this n (Nat.le_refl _)
  have fn:=h n (Nat.lt_succ_self n)
  show 0 < AD f n+f n ↔ _
  constructor
  ·intro hh
   by_cases c:0 < f n
   ·exact ⟨n,Nat.lt_succ_self n,c⟩
   ·obtain ⟨j,hj,hp⟩:=i.mp (by omega)
    exact ⟨j,by omega,hp⟩
  ·rintro ⟨j,hj,hp⟩
   by_cases e:j=n
   ·subst e;omega
   ·have:=i.mpr ⟨j,by omega,hp⟩
    omega
theorem GA (a:Int):0<=a * a:=by
 rw [show a * a=((a.natAbs * a.natAbs:Nat):Int) by rw [Int.natCast_mul,Int.natAbs_mul_self' a]]
 omega
theorem sq_pos {a:Int}:0 < a * a ↔ a≠0:=by
 have:=GA a
 constructor
 ·intro h z;subst z;simp at h
 ·intro h
  have:a * a≠0:=Int.mul_ne_zero h h
  omega
def EL (bs:List Bool) (m i:Nat):Nat:=(BF bs (2 ^ i) (2 ^ m)).length
theorem DB {m i:Nat} (bs:List Bool) (h:i < m):0 < EL bs m i ↔ ∃ s,s < 2 ^ m/\wt m (Aa bs) s≠0/\s.testBit i=true:=by
 have o:=Jm m bs (2 ^ i) (Nat.pow_lt_pow_right (by decide) h)
 have p:=FL (f:=fun s=>if chi m s (2 ^ i) = -1 then wt m (Aa bs) s * wt m (Aa bs) s else 0) (n:=2 ^ m) fun j _=>by
  show 0<=(if chi m j (2 ^ i) = -1 then wt m (Aa bs) j * wt m (Aa bs) j else 0)
  split
  ·exact GA _
  ·exact Int.le_refl _
 have hM:0 < ((2 ^ m:Nat):Int):=by have:=Nat.two_pow_pos m;omega
 have e:0 < EL bs m i ↔ 0 < CS m (wt m (Aa bs)) (2 ^ i):=by
  rw [o]
  unfold EL
  constructor
  ·intro z;exact Int.mul_pos hM (by omega)
  ·intro z
   rcases Nat.eq_zero_or_pos (BF bs (2 ^ i) (2 ^ m)).length with h0 | h0
   ·rw [h0] at z;simp at z
   ·exact h0
 rw [e]
 unfold CS
 rw [p]
 constructor
 ·rintro ⟨s,hs,hp⟩
  split at hp
  ·rename_i hc
   exact ⟨s,hs,sq_pos.mp hp,(EQ m i s h).mp hc⟩
  ·omega
 ·rintro ⟨s,hs,hw,hb⟩
  refine ⟨s,hs,?_⟩
  rw [if_pos ((EQ m i s h).mpr hb)]
  exact sq_pos.mpr hw
section
variable {X:Cx} {K:PySem.W.Frag}
end
def HY (H:Hp) (Q:VK) (xs:List V):Prop:=∀ p H',H p=none->Same H H'->H' p=some (.lst xs)->Q (.ref p) H'
theorem Cs {H:Hp} {Q Q':VK} {xs:List V} (h:∀ v H,Q v H->Q' v H) (q:HY H Q xs):HY H Q' xs:=fun p H' a b c=>h _ _ (q p H' a b c)
theorem Ki:AU Hi:=fun σ H Q Q' h q p hp=>h _ _ (q p hp)
theorem HG {A:Around} (h:A.units+60 < cLine):A.units+1 < cLine:=by omega
end L2
namespace HT
open PySem PyProof.Rows
section
variable {prog:Program} {w:World} {A:Around} {E:Value->Shared->Prop} {s:Shared}
end
end HT
namespace L2
open PySem PySem.Spec PyProof.Rows
section
variable {X:Cx} {K:PySem.W.Frag} {e sx:Expr} {te ts:TE} {lo hi:Option Expr} {tl th:TO} {pos p2:Pos}
end
structure GFeed (H:Hp) (t:Addr) (N:Nat):Prop where
 at_:∃ (l:Addr) (i g c:Int) (ns:List Int),0<=i/\0<=g/\0<=c/\c<=N/\H t=some (.lst [.ref l,.int i,.int g,.int c])/\l≠t/\H l=some (.lst (ns.map V.int))/\ns.length≠0
theorem GFeed.same {H H':Hp} {t:Addr} {N:Nat} (F:GFeed H t N) (h:Same H H'):GFeed H' t N:=by
 obtain ⟨l,i,g,c,ns,h1,h2,h3,h4,h5,h6,h7,h8⟩:=F.at_
 exact ⟨l,i,g,c,ns,h1,h2,h3,h4,h _ _ h5,h6,h _ _ h7,h8⟩
theorem GFeed.upd {H:Hp} {t p:Addr} {o:HO} {N:Nat} (F:GFeed H t N) (h:H p=none):GFeed (L2.upd H p o) t N:=F.same (Same.upd h)
theorem GFeed.lst {H:Hp} {t:Addr} {N:Nat} (F:GFeed H t N):∃ zs,H t=some (.lst zs):=by
 obtain ⟨l,i,g,c,ns,h1,h2,h3,h4,h5,_⟩:=F.at_
 exact ⟨_,h5⟩
def tyD:Dv->String
 | .non=>"NoneType"
 | .bl _=>"bool"
 | .int _=>"int"
 | .str _=>"str"
 | .tup _=>"tuple"
 | .lst _=>"list"
def Ix (K:PySem.W.Frag):List V->Hp->VK->Prop:=fun xs H Q=>match xs with
 | [x,.ty T]=>T∈kinds/\∃ d,Rep K H d x/\Q (.bl (BC (tyD d) T)) H
 | _=>False
theorem Ee {K:PySem.W.Frag} {t T:String} (ht:t = "int" \/ t = "bool" \/ t = "tuple" \/ t = "list") (hT:T∈kinds):PySem.W.kitOne K (.type t) (.type T)=some (BC t T):=by
 unfold kinds at hT
 simp only [List.mem_cons,List.mem_nil_iff,or_false] at hT
 rcases ht with rfl | rfl | rfl | rfl <;> rcases hT with rfl | rfl | rfl | rfl | rfl | rfl <;> rfl
theorem DU {X:Cx}:CallR X (.builtin "isinstance") (Ix X.K):=by
 intro pins s σ H xs us Q I r q
 match xs,q with
 | [x,.ty T],q =>
  obtain ⟨hT,d,h,q⟩:=q
  have go:∀ t,TyS X.K H x t->Q (.bl (BC t T)) H->wpAny (model X.prog X.w) X.A (call (.builtin "isinstance") us) (EP X pins σ Q) X.xe s:=fun t ht hq=>by
   obtain ⟨u,w',rfl,ru,rw'⟩:=Cy r
   cases rw'
   obtain ⟨ht,hn,Hh,k,hh⟩:=FR I ru ht
   exact PySem.W.kia_one k I.kIn hh (Ee ht hT) hn fun tk=>⟨.bl (BC t T),H,I.tok _,rfl,hq⟩
  have hT':=hT
  unfold kinds at hT'
  simp only [List.mem_cons,List.mem_nil_iff,or_false] at hT'
  cases d with
  | non =>
   unfold Rep at h;subst h
   refine Da pins s σ H _ us Q I r ⟨hT,_,rfl,?_⟩
   have e:(T == "NoneType")=BC (tyD .non) T:=by rcases hT' with rfl | rfl | rfl | rfl | rfl | rfl <;> rfl
   rw [e];exact q
  | str z =>
   unfold Rep at h;subst h
   refine Da pins s σ H _ us Q I r ⟨hT,_,rfl,?_⟩
   have e:(T == "str")=BC (tyD (.str z)) T:=by rcases hT' with rfl | rfl | rfl | rfl | rfl | rfl <;> rfl
   rw [e];exact q
  | bl b=>unfold Rep at h;subst h;exact go _ rfl q
  | int i=>unfold Rep at h;subst h;exact go _ rfl q
  | tup ds=>unfold Rep at h;obtain ⟨a,xs,rfl,hs,_⟩:=h;exact go _ (.inl ⟨rfl,xs,hs⟩) q
  | lst ds=>unfold Rep at h;obtain ⟨a,xs,rfl,hs,_⟩:=h;exact go _ (.inr ⟨rfl,xs,hs⟩) q
section
variable {X:Cx} {pins:List (Addr × Obj)} {σ:St} {H:Hp} {s:Shared}
theorem KV.get {kvs:List (Key × V)} {vs:List (Key × Value)} (r:KV kvs vs):∀ {i:Nat} {q:Key × V},kvs[i]? = some q->∃ v,vs[i]? = some (q.1,v)/\RelV q.2 v:=by
 induction r with
 | nil=>intro i q e;simp at e
 | @cons a b l1 l2 h t ih =>
  intro i q e
  cases i with
  | zero =>
   simp at e;subst e
   obtain ⟨b1,b2⟩:=b
   obtain ⟨h1,h2⟩:=h
   exact ⟨b2,by simp;exact h1.symm,h2⟩
  | succ i =>
   obtain ⟨v,h1,h2⟩:=ih (i:=i) (q:=q) (by simpa using e)
   exact ⟨v,by simpa using h1,h2⟩
end
section
variable {X:Cx} {K:PySem.W.Frag} {tg oe:Expr} {to:TE} {ts:List Expr} {kt:Nat} {tpos apos cpos:Pos}
end
end L2
namespace L2
open PySem PyProof.Rows
section
variable {prog:Program} {w:World} {A:Around} {E:Value->Shared->Prop} {s:Shared}
end
section
variable {X:Cx}
end
end L2
namespace L2
open PySem PySem.Spec PyProof.Rows
end L2
namespace L2
open PySem PySem.Spec PyProof.Rows PySem.W
open Att (DN HX Jf)
def CdO (a:Addr) (q:Str):HO:=.ext fun h=>h.CodeRec (.ref a) q
theorem JT {P:Program} {w:World} {H:Hp} {h:Heap} {a:Addr} {q:Str} (r:h.CodeRec (.ref a) q):ObjOk P w H h a (CdO a q):=by
 refine ⟨r,?_,fun h1 h2 p k=>?_⟩
 ·obtain ⟨c,o,vs,t,e,g,_⟩:=r
  cases e
  exact ⟨o,g⟩
 ·obtain ⟨c,o,vs,t,e,g,z⟩:=p
  cases e
  exact ⟨_,o,vs,t,rfl,k o g,z⟩
def Lam (Pt:Addr) (pos:Pos) (q:Str) (H:Hp):Prop :=
 ∃ ps:Array Value,H Pt=some (.tbl ps)/\TriplesOk ps.toList/\(codeAmong pos ps.toList=none\/∃ c',codeAmong pos ps.toList=some (.ref c')/\H c'=some (CdO c' q))
def Grow (Pt:Addr) (H H':Hp):Prop:=∀ b o,b≠Pt->H b=some o->H' b=some o
theorem Grow.refl (Pt:Addr) (H:Hp):Grow Pt H H:=fun _ _ _ e=>e
theorem Grow.trans {Pt:Addr} {H H1 H2:Hp} (a:Grow Pt H H1) (b:Grow Pt H1 H2):Grow Pt H H2:=fun c o n e=>b c o n (a c o n e)
theorem Grow.same {Pt:Addr} {H H':Hp} (h:Same H H'):Grow Pt H H':=fun b o _ e=>h b o e
theorem Lam.same {Pt:Addr} {pos:Pos} {q:Str} {H H':Hp} (l:Lam Pt pos q H) (h:Same H H'):Lam Pt pos q H':=by
 obtain ⟨ps,a,b,c⟩:=l
 refine ⟨ps,h _ _ a,b,?_⟩
 rcases c with c | ⟨c',c,d⟩
 ·exact .inl c
 ·exact .inr ⟨c',c,h _ _ d⟩
theorem JM {K:PySem.W.Frag} {Pt:Addr} {ps:Array Value} {H H':Hp} {a:Addr} {xs:List V} (s:Grow Pt H H') (hz:H Pt=some (.tbl ps)) (h1:SqT K H a xs):SqT K H' a xs:=by
 rcases h1 with (h1 | ⟨o,h1⟩) | h1
 ·exact .inl (.inl (s a _ (fun q=>by rw [q,hz] at h1;cases h1) h1))
 ·exact .inl (.inr ⟨o,s a _ (fun q=>by rw [q,hz] at h1;cases h1) h1⟩)
 ·exact .inr h1
def BMn (mg:Str->Option Value) (h:Heap):Prop:=∃ bm ob,mg "__builtins__" = some (.ref bm)/\bm≠builtinsNs/\h.get? bm=some ob/\ob.cls=.type "module" /\ ob.dict=some builtinsNs/\ob.data=.plain
section
variable {X:Cx} {pins:List (Addr × Obj)} {σ:List (Option V)} {H:Hp} {s:Shared} {h':Heap}
theorem Inv.grow {Pt c':Addr} {ps more:Array Value} {t':Nat} {q:Str} (I:Inv X pins σ H s) (hP:H Pt=some (.tbl ps)) (hx:Heap.ExtBut Pt s.heap h') (hP':h'.get? Pt=some (tabObj (ps++more)))
 (hc:s.heap.objs.size<=c') (hr:h'.CodeRec (.ref c') q):Inv X pins σ (upd (upd H Pt (.tbl (ps++more))) c' (CdO c' q)) { s with heap:=h',toks:=t' }:=by
 have hcn:H c'=none:=I.hok.fresh hc
 have hcP:c'≠Pt:=fun z=>by rw [z,hP] at hcn;cases hcn
 have hn:∀ b,H b=none->b≠Pt:=fun b e z=>by rw [z,hP] at e;cases e
 have hs:∀ b u,H b=some u->b≠c':=fun b u e z=>by rw [z,hcn] at e;cases e
 have up:∀ b,b≠c'->b≠Pt->upd (upd H Pt (.tbl (ps++more))) c' (CdO c' q) b=H b:=fun b n1 n2=>by rw [AJ n1,AJ n2]
 refine I.un ⟨fun b o e n _ _=>hx b o (hn b n) e,fun b o e n _ _=>⟨o.slots,hx b o (hn b n) e⟩,fun b o e n _=>?_,fun b o e _=>?_,fun b xs e=>?_,fun b o u e=>?_,fun b qs e=>?_⟩ fun b u e=>?_
 ·rw [up b (Nat.ne_of_lt (Nat.lt_of_lt_of_le (Heap.lt_size e) hc)) (hn b n)];exact n
 ·by_cases z:b=Pt
  ·subst z;exact ⟨_,hP'⟩
  ·exact ⟨o,hx b o z e⟩
 ·have z:b≠Pt:=fun z=>by rw [z,hP] at e;cases e
  rw [up b (hs b _ e) z];exact e
 ·have z:b≠Pt:=fun z=>by rw [z,hP] at e;cases e
  rw [up b (hs b _ e) z];exact e
 ·by_cases z:b=Pt
  ·subst z
   rw [hP] at e;cases e
   exact ⟨more,by rw [AJ (Ne.symm hcP),AC]⟩
  ·exact ⟨#[],by rw [up b (hs b _ e) z,e];simp⟩
 ·by_cases z:b=c'
  ·subst z
   rw [AC] at e;cases e
   exact JT hr
  ·rw [AJ z] at e
   by_cases y:b=Pt
   ·subst y
    rw [AC] at e;cases e
    exact hP'
   ·rw [AJ y] at e
    refine (I.hok b u e).stay (fun c v hc' r=>hx c v ?_ r) (fun c r=>?_) fun c xs r=>?_
    ·rcases hc' with k | k
     ·rw [k];exact y
     ·rintro rfl;rw [hP] at k;cases k
    ·rw [up c (hs c _ r) (fun k=>by rw [k,hP] at r;cases r)];exact r
    ·rw [up c (hs c _ r) (fun k=>by rw [k,hP] at r;cases r)];exact r
end
section
variable {prog:Program} {w:World} {A:Around} {s:Shared}
end
section
variable {X:Cx} {Pt c:Addr} {e:Expr} {te:TE} {p pos kpos lpos np cp sp:Pos} {x qual:Str} {params:Arguments} {scope:Scope} {kd:Nat} {i:Int} {K:PySem.W.Frag}
end
theorem LC {P:Program} {w:World} {K:PySem.W.Frag} {mg mb:Str->Option Value} {CX:CXT} {k:Nat} {fa a:Addr} {fd:FuncData} {x:Str} {sp:Sp} {s₁:Shared} {vs:List Value} {ns:List Int} {ts:List (Addr × Addr)}
 (KX:K.In s₁.heap) (hns:s₁.heap.Ns mainGlobals mg) (hb:s₁.heap.Ns builtinsNs mb) (hbb:∀ x:Str,x ≠ "__name__" -> mb x=bootBuiltins x) (hlim:s₁.heap.NoLimit) (hg:s₁.gens = #[])
 (ha:s₁.heap.get? a=some { cls:=.type "list",data:=.seq vs.toArray }) (hi:IntsAre vs ns) (hl:ns.length<=sizeLine) (hr:Room k callerA) (hbm:BMn mg s₁.heap) (hT:TabsAt ts s₁.heap) (hnt:noTabs K=true)
 (F:∀ base:Heap,K.In base->base.Ns mainGlobals mg->BMn mg base->FnOk P w K mg base CX k fa fd [x] sp) (hbind:∀ (s:Shared) (u:Value),BindsTo s fd ⟨[u],[]⟩ [(x,u)])
 (hsp:∀ H:Hp,(∀ q∈ts,H q.2=some (.tbl #[]))->SqL K H a (ns.map V.int)->sp [.ref a] H (fun v _=>v=.bl true) fun _ _ _=>False)
 (hCX:∀ H e s',CX [] H s₁ (fun _ _ _=>False) e s'->False) :
 codeAny (model P w) callerA (.call (.ref fa) ⟨[.ref a],[]⟩) (fun r s'=>r=.ok (.ret (.bool true))/\OldK s₁.heap s'.heap/\s'.os=s₁.os/\AllBare s'.gens) s₁:=by
 have rv:=Ga hi
 have lenV:=hi.length
 have tabK:∀ b,b∈ts.map (·.2)->K.lookup b=none:=fun b hb'=>by
  obtain ⟨q,hq,rfl⟩:=List.mem_map.mp hb'
  cases e:K.lookup q.2 with
  | none=>rfl
  | some o =>
   have e1:=KX _ _ e
   rw [(hT q hq).2] at e1
   cases e1
   have h2:=List.all_eq_true.mp hnt (q.2,tabObj #[]) (mem_of_lookupK e)
   exact absurd (show false=true from h2) Bool.false_ne_true
 have tabO:∀ b,b∈ts.map (·.2)->s₁.heap.get? b=some (tabObj #[]):=fun b hb'=>by
  obtain ⟨q,hq,rfl⟩:=List.mem_map.mp hb'
  exact (hT q hq).2
 have core:∀ H:Hp,(∀ b,H b=none\/(∃ o xs,H b=some (.frz o (.lst xs)))\/(b∈ts.map (·.2)/\H b=some (.tbl #[])))->(∀ q∈ts,H q.2=some (.tbl #[]))->SqL K H a (ns.map V.int)->HOk P w H s₁.heap->(∀ b,H b≠none->b=a\/b∈ts.map (·.2))->(H a≠none->K.lookup a=none) ->
  codeAny (model P w) callerA (.call (.ref fa) ⟨[.ref a],[]⟩) (fun r s'=>r=.ok (.ret (.bool true))/\OldK s₁.heap s'.heap/\s'.os=s₁.os/\AllBare s'.gens) s₁:=by
  intro H hO hTs hS hok hA hK
  have base_of:∀ {b:Addr} {o:Obj},s₁.heap.get? b=some o->H b=none->(BM s₁.heap H).get? b=some o:=fun e n=>G7 e n
  have noA:∀ {b:Addr} {o:Obj},s₁.heap.get? b=some o->(∀ as n,o.data≠.seq as n)->(∀ as,o.data≠.fields as)->H b=none:=fun {b o} e d d2=>by
   cases q:H b with
   | none=>rfl
   | some u =>
    rcases hA b (by rw [q];simp) with e' | e'
    ·subst e'
     rw [ha] at e;cases e
     exact absurd rfl (d _ _)
    ·rw [tabO b e'] at e;cases e
     exact absurd rfl (d2 _)
  have nsK:∀ {b:Addr} {m:Str->Option Value},s₁.heap.Ns b m->(BM s₁.heap H).Ns b m:=fun {b m} ⟨o,es,ep,e,d,r⟩=>⟨o,es,ep,base_of e (noA e (fun _ _=>by rw [d];simp) (fun _=>by rw [d];simp)),d,r⟩
  have hKb:K.In (BM s₁.heap H):=fun b o e=>base_of (KX b o e) (by
   cases q:H b with
   | none=>rfl
   | some u =>
    rcases hA b (by rw [q];simp) with e' | e'
    ·subst e'
     rw [hK (by rw [q];simp)] at e;cases e
    ·rw [tabK b e'] at e;cases e)
  have hM:Mod K mg (BM s₁.heap H):=⟨hKb,nsK hns,⟨mb,nsK hb,hbb⟩,let ⟨mc,h1,h2⟩:=hlim;⟨mc,nsK h1,h2⟩⟩
  have hBb:BMn mg (BM s₁.heap H):=by
   obtain ⟨bm,ob,b1,b2,b3,b4,b5,b6⟩:=hbm
   exact ⟨bm,ob,b1,b2,base_of b3 (noA b3 (fun _ _=>by rw [b6];simp) (fun _=>by rw [b6];simp)),b4,b5,b6⟩
  have e0:Env0 P w K mg (BM s₁.heap H) callerA [] s₁ H:=⟨rfl,hM,fun b o e=>HB e,Nat.le_of_eq (Gu _ _),trivial,fun b hb=>absurd (show b∈([]:List Addr) from hb) (by simp),hok,.of_eq hg⟩
  refine codeAny_mono ((F _ hKb (nsK hns) hBb).run callerA [] s₁ H ⟨[.ref a],[]⟩ [.ref a] [.ref a] _ _ hr e0 (hbind s₁ (.ref a)) (.cons rfl .nil) (hsp H hTs hS)) fun r s' h=>?_
  cases r with
  | error e=>exact (hCX H e s' h).elim
  | ok fl =>
   cases fl with
   | next=>exact False.elim h
   | brk=>exact False.elim h
   | cont=>exact False.elim h
   | ret u =>
    obtain ⟨v,H',os,bare,un,hok',r',q⟩:=h
    have q':v=.bl true:=q
    subst q'
    obtain rfl:u=Value.bool true:=r'
    have kk:∀ b o,s₁.heap.get? b=some o->b∉ts.map (·.2)->s'.heap.get? b=some o:=fun b o e nb=>by
     cases q:H b with
     | none=>exact un.keep b o e q (by intro z;exact absurd (show b∈([]:List Addr) from z) (by simp)) (by simp)
     | some u =>
      rcases hO b with z | ⟨ob,xs,z⟩ | ⟨z,_⟩
      ·rw [q] at z;cases z
      ·have z2:=un.frzs b ob _ z
       obtain ⟨e1,_⟩:=hok b _ z
       obtain ⟨e2,_⟩:=hok' b _ z2
       rw [e] at e1;cases e1
       exact e2
      ·exact absurd z nb
    have tt:∀ b,b∈ts.map (·.2)->∃ more,s'.heap.get? b=some (tabObj more):=fun b hb'=>by
     obtain ⟨q,hq,rfl⟩:=List.mem_map.mp hb'
     obtain ⟨more,e⟩:=un.tbls _ _ (hTs q hq)
     exact ⟨_,hok' _ _ e⟩
    refine ⟨rfl,⟨fun b o e=>?_,fun b o e=>?_⟩,os,bare⟩
    ·by_cases z:b∈ts.map (·.2)
     ·obtain ⟨more,e2⟩:=tt b z
      have e3:=tabO b z
      rw [e] at e3;cases e3
      obtain ⟨q,hq,rfl⟩:=List.mem_map.mp z
      refine .inr (.inl ⟨((hT q hq).1.tab (hT q hq).2).isCodeTable,rfl,#[],more,rfl,by rw [e2];simp⟩)
     ·exact .inl (kk b o e z)
    ·by_cases z:b∈ts.map (·.2)
     ·obtain ⟨more,e2⟩:=tt b z
      exact ⟨_,e2⟩
     ·exact ⟨o,kk b o e z⟩
 have aT:a∉ts.map (·.2):=fun z=>by
  have e:=tabO a z
  rw [ha] at e;cases e
 have tm:∀ q∈ts,q.2∈ts.map (·.2):=fun q hq=>List.mem_map_of_mem hq
 cases hk:K.lookup a with
 | some o =>
  have e:=KX a o hk
  rw [ha] at e
  cases e
  refine core (fun b=>if b∈ts.map (·.2) then some (.tbl #[]) else none) (fun b=>?_) (fun q hq=>if_pos (tm q hq)) (.inr ⟨_,vs.toArray,_,hk,rfl,rfl,rfl,by rw [List.size_toArray,lenV];exact hl,by simpa using rv⟩) (fun b u z=>?_) (fun b z=>?_) fun z=>absurd (if_neg aT) z
  ·by_cases z:b∈ts.map (·.2)
   ·exact .inr (.inr ⟨z,if_pos z⟩)
   ·exact .inl (if_neg z)
  ·by_cases y:b∈ts.map (·.2)
   ·have z':=(if_pos y).symm.trans z
    cases z'
    exact tabO b y
   ·have z':=(if_neg y).symm.trans z
    cases z'
  ·by_cases y:b∈ts.map (·.2)
   ·exact .inr y
   ·exact absurd (if_neg y) z
 | none =>
  refine core (fun b=>if b=a then some (.frz { cls:=.type "list",data:=.seq vs.toArray } (.lst (ns.map V.int))) else if b∈ts.map (·.2) then some (.tbl #[]) else none) (fun b=>?_) (fun q hq=>?_) (.inl (.inr ⟨{ cls:=.type "list",data:=.seq vs.toArray },if_pos rfl⟩)) (fun b u z=>?_) (fun b z=>?_) fun _=>hk
  ·by_cases hb:b=a
   ·exact .inr (.inl ⟨_,_,if_pos hb⟩)
   ·by_cases y:b∈ts.map (·.2)
    ·exact .inr (.inr ⟨y,(if_neg hb).trans (if_pos y)⟩)
    ·exact .inl ((if_neg hb).trans (if_neg y))
  ·have hb:q.2≠a:=fun z=>aT (z ▸ tm q hq)
   exact (if_neg hb).trans (if_pos (tm q hq))
  ·by_cases hb:b=a
   ·have z':=(if_pos hb).symm.trans z
    cases z'
    subst hb
    exact ⟨ha,by rw [List.length_map];exact hl,vs,_,rv,ha⟩
   ·by_cases y:b∈ts.map (·.2)
    ·have z':=((if_neg hb).trans (if_pos y)).symm.trans z
     cases z'
     exact tabO b y
    ·have z':=((if_neg hb).trans (if_neg y)).symm.trans z
     cases z'
  ·by_cases hb:b=a
   ·exact .inl hb
   ·by_cases y:b∈ts.map (·.2)
    ·exact .inr y
    ·exact absurd ((if_neg hb).trans (if_neg y)) z
theorem walk_ofT {l:PySem.W.OpenLaw} {n k:Nat} {q:Program} {loose:List Str} {XP:(Str->Option Value)->Heap->Prop} {YP:World->Heap->Prop} {d:DefRec} {K:Params->PySem.W.Frag} {sp:World->List Addr->Sp} {x:Str}
 (hn:l.most=some n) (hn2:n<=sizeLine) (hdf:d.params.defaults=[]) (hr:Room k callerA)
 (hY:∀ (w:World) (h:Heap),YP w h->(K w.params).In h)
 (F:∀ (w:World) (mg:Str->Option Value) (fa:Addr) (h:Heap),YP w h->(K w.params).In h->h.Ns mainGlobals mg->mg d.name=some (.ref fa) ->
   ∃ (fd:FuncData) (ts:List (Addr × Addr)),TabsAt ts h/\noTabs (K w.params)=true/\(∀ (s:Shared) (u:Value),BindsTo s fd ⟨[u],[]⟩ [(x,u)]) /\
    ∀ base:Heap,(K w.params).In base->base.Ns mainGlobals mg->BMn mg base->FnOk l.prog w (K w.params) mg base CX0 k fa fd [x] (sp w (ts.map (·.2))))
 (hsp:∀ (w:World) (H:Hp) (a:Addr) (ns:List Int) (ts:List Addr),ns.length<=n->(∀ Pt∈ts,H Pt=some (.tbl #[]))->SqL (K w.params) H a (ns.map V.int)->sp w ts [.ref a] H (fun v _=>v=.bl true) fun _ _ _=>False) :
 PySem.W.WalkO q loose XP YP l.row.toRowW d [] (fun f vs=>PySem.call f vs):=by
 refine Att.attach_call hn hdf fun w s₀ s₁ mg mb fa o pm cd doc a vs ns G Y ho hd hcd hmg hobj hints hlen hg=>?_
 have KX:=hY w _ Y
 obtain ⟨fd,ts,hT,hnt,hb,hF⟩:=F w mg fa _ Y KX G.T.g hmg
 exact LC KX G.T.g G.T.b G.T.builtins G.T.nolimit hg hobj hints (Nat.le_trans hlen hn2) hr G.T.bmain hT hnt hF hb (fun H hO hS=>hsp w H a ns _ hlen (fun Pt hP=>by
  obtain ⟨q,hq,rfl⟩:=List.mem_map.mp hP
  exact hO q hq) hS) fun H e s' z=>z
theorem Fun.okC {P:Program} {w:World} {K:PySem.W.Frag} {mg:Str->Option Value} {base:Heap} {x qual:Str} {st:Stmt} {f c:Addr} {fd:FuncData} {N ps:List Str} {k:Nat} {sp:Sp} (F:Fun K x qual st f fd) (hc:fd.code=.ref c) (S:FnScope N ps (AM st)) (len:∀ vs H Q E,sp vs H Q E->vs.length=ps.length)
 (hbody:∀ (A:Around) (outer:List Env) (s:Shared) (H:Hp) (vs:List V) (Q:VK) (E:XK),Room k (A.deeper (envOfC qual (AM st) s.heap.objs.size f (.ref c)))->sp vs H Q E ->
   ∃ t,PSs (Bz CX0 P w K mg base N qual (AM st) f (.ref c) A outer s H E).nox (Ac st) t/\t { nx:=fun _ H'=>Q .non H',rt:=Q } (Bf N vs) H):FnOk P w K mg base CX0 (k+1) f fd ps sp:=by
 obtain ⟨oc,od,kV,doc,pm,an,cdv,ct,osl,rfl,lk,hcd⟩:=F.ex
 cases hc
 refine GW lk hcd S len fun A outer s H vs Q E hr hsp=>?_
 obtain ⟨t,h,q⟩:=hbody A outer s H vs Q E hr hsp
 exact ⟨t,h.nox,q⟩
end L2
namespace L2
open PySem
def Dr (K:PySem.W.Frag) (ts:List Addr):Sp:=fun vs H Q _=>∃ (a:Addr) (ns:List Int),vs=[.ref a]/\SqL K H a (ns.map V.int)/\ns.length<=63/\(∀ Pt∈ts,H Pt=some (.tbl #[]))/\∀ H',Q (.bl true) H'
theorem Jy {Pt:Addr} {pos:Pos} {q:Str} {H:Hp} (h:H Pt=some (.tbl #[])):Lam Pt pos q H:=⟨#[],h,trivial,.inl rfl⟩
end L2
namespace L2
open PySem PySem.Spec PyProof.Rows
section
variable {X:Cx} {tg oe:Expr} {to:TE} {apos cpos:Pos}
end
def mIn (K:PySem.W.Frag) (neg:Bool):R2:=fun x y H Q=>match y with
 | .ref p=>∃ xs,(SqL K H p xs\/SqT K H p xs)/\BP x=true/\xs.all BP=true/\Q (.bl (neg ^^ inV x xs)) H
 | _=>False
section
variable {X:Cx} {K:PySem.W.Frag}
theorem kIn (hK:X.K=K:=by rfl):OpR X (compareOp .In) (mIn K false):=by
 subst hK
 intro pins s σ H x y v u Q I rx ry h
 cases y with
 | ref p =>
  obtain ⟨xs,h1,h2,h3,q⟩:=h
  exact IH pins s σ H x _ v u Q I rx ry ⟨p,xs,rfl,h1,h2,h3,by simpa using q⟩
 | _=>exact False.elim h
end
section
variable {X:Cx} {K:PySem.W.Frag}
end
end L2
namespace L2
theorem on1 {α:Type} {P:List α->Prop} (h:∀ a,P [a]):∀ us:List α,us.length=1->P us
 | [a],_=>h a
theorem on2 {α:Type} {P:List α->Prop} (h:∀ a b,P [a,b]):∀ us:List α,us.length=2->P us
 | [a,b],_=>h a b
theorem on3 {α:Type} {P:List α->Prop} (h:∀ a b c,P [a,b,c]):∀ us:List α,us.length=3->P us
 | [a,b,c],_=>h a b c
theorem on4 {α:Type} {P:List α->Prop} (h:∀ a b c d,P [a,b,c,d]):∀ us:List α,us.length=4->P us
 | [a,b,c,d],_=>h a b c d
open PySem in
theorem MZ {xs es:List PySem.Expr} {p:Pos} {env:Env}:starEach (.List xs p::es) env=(false,eval (.List xs p) env)::starEach es env:=by rfl
end L2
namespace L2
open PySem
def GO:Expr->Bool
 | .ListComp ..=>true
 | .SetComp ..=>true
 | .DictComp ..=>true
 | _=>false
theorem Lh {e:Expr} {t:Option Expr} {l:Nat} {env:Env} (h:GO e=false):swapsWith e t l env=pure false:=by
 cases e <;> first | rfl | cases h
theorem Hk {X:Cx} {pos:Pos} {i:Nat} {x:Str} {e:Expr} {te:TE} {pos':Pos} (hN:X.N.Nodup) (hi:X.N[i]? = some x) (hx:Loc X.env.scope x) (he:PE X e te) (hs:GO e=false) (hf:X.fn x=true\/X.env.scope.names.lookup x=some .local) :
 PS X (.Assign [.Name x pos'] e pos) (Cm te (Ai i)):=AT hN hi hx he (Lh hs) hf
end L2
namespace L2
open PySem PyProof.Rows
section
variable {prog:Program} {w:World} {A:Around} {E:Value->Shared->Prop} {s:Shared}
end
section
variable {X:Cx}
end
abbrev KP (h:Heap) (z TI TO:Addr) (f0 bb:Value):Prop :=
 h.get? z=some { cls:=.type "zip",dict:=none,data:=.fields #[f0,bb,.bool false,.ref TI,.ref TO],slots:=#[] }
section
variable {prog:Program} {w:World} {A:Around} {E:Value->Shared->Prop} {s:Shared}
end
section
variable {prog:Program} {w:World} {A:Around} {E:Value->Shared->Prop} {s:Shared}
structure ZS (z TI TO i1 i2 l1 l2 T0:Addr) (xs ys:Array Value) (i:Nat) (h:Heap):Prop where
 zp:(i=0/\IsZip h z TI TO .none)\/(0 < i/\(∃ b,KP h z TI TO (rawInt T0) b)/\∃ a b,IsPair h T0 a b)
 ti:IsPair h TI (.ref i1) (.ref i2)
 to:∃ a b,IsPair h TO a b
 a1:h.IsTupleIter i1 l1 i
 a2:h.IsTupleIter i2 l2 i
 t1:h.IsTuple l1 xs
 t2:h.IsTuple l2 ys
end
section
variable {prog:Program} {w:World} {A:Around} {R:Result->Shared->Prop}
end
section
variable {prog:Program} {w:World} {A:Around} {R:Result->Shared->Prop} {s:Shared}
end
section
variable {prog:Program} {w:World} {A:Around} {E:Value->Shared->Prop} {s:Shared}
end
section
variable {X:Cx}
end
end L2
namespace L2
open PySem
def ins:Nat->Nat->Nat->Nat
 | 0,b,q=>2 * q+b
 | i+1,b,q=>2 * ins i b (q / 2)+q % 2
end L2
namespace L2
open PySem PyProof.Rows
section
variable {prog:Program} {w:World} {A:Around} {E:Value->Shared->Prop} {s:Shared}
end
section
variable {prog:Program} {w:World} {K:Type} [DecidableEq K] {knd:KeyKind prog w K} {A:Around} {R:Result->Shared->Prop}
end
section
variable {prog:Program} {w:World} {K:Type} [DecidableEq K] {knd:KeyKind prog w K} {A:Around} {E:Value->Shared->Prop} {s:Shared}
end
section
variable {X:Cx}
end
section
variable {prog:Program} {w:World} {A:Around} {E:Value->Shared->Prop} {s:Shared}
end
section
variable {prog:Program} {w:World} {A:Around} {E:Value->Shared->Prop} {s:Shared}
end
section
variable {prog:Program} {w:World} {K:Type} [DecidableEq K] {knd:KeyKind prog w K} {A:Around} {R:Result->Shared->Prop}
end
section
variable {prog:Program} {w:World} {K:Type} [DecidableEq K] {knd:KeyKind prog w K} {A:Around} {E:Value->Shared->Prop} {s:Shared}
end
section
variable {X:Cx}
end
section
variable {X:Cx}
end
section
variable {X:Cx} {K:PySem.W.Frag}
end
section
variable {X:Cx} {K:PySem.W.Frag} {o e e2:Expr} {to:TE} {t:TA} {apos cpos:Pos}
end
end L2
namespace L2
open PySem PySem.Spec PyProof.Rows
section
variable {X:Cx} {K:PySem.W.Frag}
end
end L2
namespace L2
open PySem PyProof.Rows
section
variable {X:Cx}
end
section
variable {X:Cx}
end
section
variable {X:Cx} {K:PySem.W.Frag}
end
end L2
namespace HT
open PySem PyProof.Rows
section
variable {prog:Program} {w:World} {A:Around} {E:Value->Shared->Prop} {s:Shared}
theorem getItem_tuple_whole {t sl:Addr} {items:Array Value} {vl vu:Value} {lo hi:Option Int} {Q:Value->Shared->Prop} (ht:IsTup s.heap t items) (hs:s.heap.IsSliceOf sl vl vu .none) (pl:IsPart vl lo) (pu:IsPart vu hi)
 (hw:sIx items.size 0 lo=0/\sIx items.size items.size hi=items.size)
 (h:Q (.ref t) s):wpAny (model prog w) A (getItem (.ref t) (.ref sl)) Q E s:=by
 obtain ⟨os,hos,hcs,hds⟩:=id hs
 have hTs:s.TypeIs (.ref sl) "slice":=⟨os,hos,hcs⟩
 unfold getItem
 try with_reducible refine wpAny_holding ?_
 first | refine wpAny_bind (wpAny_pure ?_) | skip
 refine wpAny_bind (wpAny_sequenceKey ht.typeIs (by decide) ?_)
 refine wpAny_bind (wpAny_callSpecial?_slot (name:=Str.ofString "__getitem__") ht.typeIs PyProof.Rows.slot_tuple_getitem
  (wpAny_call_entry PyProof.Rows.slot_tuple_getitem ht.typeIs entry_tuple_getitem ?_ (args_tuple_getitem _ _)))
 show wpAny _ _ (Builtin.Tuple.tupleItemsOf (.ref t) >>= _) _ _ s
 refine wpAny_bind (tupleItemsOf_ ht ?_)
 refine wpAny_bind (wpAny_typeOf hTs ?_)
 rw [if_pos (by decide)]
 refine wpAny_bind (Fh hs pl pu ?_)
 rw [hw.1,hw.2]
 show wpAny _ _ (if (((0:Nat):Int) == 0 && (1:Int) == 1 && (items.size - 0) == items.size)=true then _ else _) _ _ s
 have hyes:(((0:Nat):Int) == 0 && (1:Int) == 1 && (items.size - 0) == items.size)=true:=by simp
 rw [if_pos hyes]
 unfold Builtin.Tuple.tupleIsExact
 refine wpAny_bind (wpAny_bind (wpAny_typeOf ht.typeIs (wpAny_pure ?_)))
 rw [if_pos (by decide)]
 refine wpAny_bind (wpAny_rule ?_)
 first
  | exact wpAny_bind (wpAny_pure ⟨_,rfl,wpAny_pure h⟩)
  | exact wpAny_pure ⟨_,rfl,wpAny_pure h⟩
  | exact wpAny_bind (wpAny_pure (wpAny_pure ⟨_,rfl,wpAny_pure h⟩))
  | exact wpAny_bind (wpAny_bind (wpAny_pure (wpAny_pure ⟨_,rfl,wpAny_pure h⟩)))
end
end HT
namespace L2
open PySem PySem.Spec PyProof.Rows
section
variable {X:Cx} {K:PySem.W.Frag} {e sx:Expr} {te ts:TE} {lo hi:Option Expr} {tl th:TO} {pos p2:Pos}
def EI (K:PySem.W.Frag):V->Option Int->Option Int->Hp->VK->Prop:=fun x lo hi H Q=>match x with
 | .ref a=>∃ xs,SqT K H a xs/\∀ p H',Same H H'->SqT K H' p (Ap xs lo hi)->Q (.ref p) H'
 | _=>False
theorem Ig:SlR X (EI X.K):=by
 intro pins s σ H x v vl vu lo hi sl Q I rx hs pl pu q
 cases x with
 | ref a =>
  obtain ⟨xs,hx,q⟩:=q
  by_cases hw:HT.sIx xs.length 0 lo=0/\HT.sIx xs.length xs.length hi=xs.length
  ·cases rx
   obtain ⟨its,r,ht,hz⟩:=I.tuple hx
   have hlen:its.toArray.size=xs.length:=by rw [List.size_toArray];exact r.length.symm
   refine ⟨"tuple",_,PyProof.Rows.slot_tuple_getitem.lookup,ht.typeIs,?_⟩
   refine HT.getItem_tuple_whole ht hs pl pu (by rw [hlen];exact hw) ⟨.ref a,H,I,rfl,q a H (fun _ _ h=>h) ?_⟩
   have:Ap xs lo hi=xs:=by
    unfold Ap
    rw [hw.1,hw.2,List.drop_zero,List.take_of_length_le (by omega)]
   rw [this]
   exact hx
  ·exact FI pins s σ H _ v vl vu lo hi sl Q I rx hs pl pu ⟨a,xs,rfl,hx,hw,fun p hp=>q p _ (Same.upd hp) (.of AC)⟩
 | _=>exact False.elim q
theorem CG (he:PE X e te) (hl:PO X lo tl) (hu:PO X hi th) (hK:X.K=K:=by rfl):PE X (.Subscript e (.Slice lo hi none p2) pos) (tSl (EI K) te tl th):=hK ▸ Fk Ig he hl hu
theorem Kq (h:AU te) (h1:Ci tl) (h2:Ci th):AU (tSl (EI K) te tl th):=fun σ H Q Q' k q=>h _ _ _ _ (fun v _ q=>h1 _ _ _ _ (fun _ _ q=>h2 _ _ _ _ (fun _ _ q=>by
 cases v <;> first | exact False.elim q | (obtain ⟨xs,a,q⟩:=q;exact ⟨xs,a,fun p H' s r=>k _ _ (q p H' s r)⟩)) q) q) q
end
end L2
namespace HT
open PySem PyProof.Rows
section
variable {prog:Program} {w:World} {A:Around} {E:Value->Shared->Prop} {s:Shared}
theorem cat_none {t b:Addr} {ws:List Value} {Q:Value->Shared->Prop} (ht:IsTup s.heap t #[]) (hb:IsTup s.heap b ws.toArray) (h:Q (.ref b) s) :
 wpAny (model prog w) A (binaryOp .Add (.ref t) (.ref b)) Q E s:=by
 obtain ⟨⟨cls,dd,data,sl⟩,ho,hc,n,hd⟩:=id ht
 obtain ⟨⟨cls2,dd2,data2,sl2⟩,ho2,hc2,n2,hd2⟩:=id hb
 simp only at hc hd hc2 hd2
 subst hc hd hc2 hd2
 exact concat_meets ⟨_,ho,rfl⟩ ⟨_,ho2,rfl⟩ noFill_tuple_add seq_tuple_add PySem.F.slot_tuple_add PySem.F.entry_tuple_add (PySem.F.args_tuple_add_2 _ _)
  (tuple_addW0 t b #[] ws.toArray n n2 dd dd2 sl sl2 rfl) ⟨ho,ho2,h⟩
end
end HT
namespace L2
open PySem PySem.Spec PyProof.Rows
section
variable {X:Cx} {K:PySem.W.Frag}
def Eg (K:PySem.W.Frag):R2:=fun x y H Q=>match x,y with
 | .int i,.int j=>Q (.int (i+j)) H
 | .ref a,.ref b=>Ev (.ref a) (.ref b) H Q\/∃ xs ys,SqT K H a xs/\SqT K H b ys/\xs.length+ys.length<=sizeLine/\∀ p H',Same H H'->SqT K H' p (xs++ys)->Q (.ref p) H'
 | _,_=>False
theorem KB:OpR X (binaryOp .Add) (Eg X.K):=by
 intro pins s σ H x y v u Q I rx ry q
 cases x <;> cases y <;> first
  | exact False.elim q
  | exact Gq pins s σ H _ _ v u Q I rx ry ⟨_,_,rfl,rfl,q⟩
  | skip
 rename_i a b
 rcases q with q | ⟨xs,ys,ha,hb,hz,q⟩
 ·exact Hn pins s σ H _ _ v u Q I rx ry q
 by_cases hx:xs=[]
 ·subst hx
  cases rx
  cases ry
  obtain ⟨its,r1,p1,_⟩:=I.tuple ha
  obtain ⟨its2,r2,p2,_⟩:=I.tuple hb
  cases r1
  exact HT.cat_none p1 p2 ⟨.ref b,H,I,rfl,q b H (fun _ _ h=>h) hb⟩
 ·exact Ho pins s σ H _ _ v u Q I rx ry ⟨a,b,xs,ys,rfl,rfl,ha,hb,hx,hz,fun e=>q a H (fun _ _ h=>h) (by rw [e,List.append_nil];exact ha),fun _ p hp=>q p _ (Same.upd hp) (.of AC)⟩
theorem Bu (hK:X.K=K:=by rfl):OpR X (binaryOp .Add) (Eg K):=hK ▸ KB
theorem LP:BY (Eg K):=fun x y H Q Q' m q=>by
 cases x <;> cases y <;> first
  | exact False.elim q
  | exact m _ _ q
  | skip
 rcases q with ⟨l,b,xs,zs,h1,h2,h3,h4,h5,q⟩ | ⟨xs,ys,ha,hb,hz,q⟩
 ·exact .inl ⟨l,b,xs,zs,h1,h2,h3,h4,h5,fun p hp=>m _ _ (q p hp)⟩
 ·exact .inr ⟨xs,ys,ha,hb,hz,fun p H' a b=>m _ _ (q p H' a b)⟩
end
section
variable {X:Cx} {K:PySem.W.Frag}
end
section
variable {X:Cx} {K:PySem.W.Frag} {e sx:Expr} {te ts:TE} {lo hi:Option Expr} {tl th:TO} {pos p2:Pos}
end
abbrev BV:=List (List Bool × Addr × V)
abbrev BVr:BV->List (List Bool × Addr × Value)->Prop:=Paired fun p q=>p.1=q.1/\p.2.1=q.2.1/\RelV p.2.2 q.2.2
def dV (P:Program) (w:World) (a:Addr) (kvs:BV):HO:=.ext fun h=>∃ xs o es ep,BVr kvs xs/\h.get? a=some o/\o.ExactDict/\o.data=.dict es ep/\es.toList=xs.map (entryOfKey (tupleKind (Ii P w)))/\(xs.map (·.1)).Nodup/\xs.length<=sizeLine/\(a == sysModules)=false
def KeysV (H:Hp) (kvs:BV):Prop:=∀ q∈kvs,H q.2.1=some (.tup (q.1.map V.bl))
section
variable {P:Program} {w:World} {H:Hp} {h:Heap} {a:Addr}
end
theorem KeysV.same {H H':Hp} {kvs:BV} (h:KeysV H kvs) (s:∀ b ys,H b=some (.tup ys)->H' b=some (.tup ys)):KeysV H' kvs:=fun q hq=>s _ _ (h q hq)
theorem KeysV.upd {P:Program} {w:World} {H:Hp} {kvs k1:BV} {a:Addr} {o:HO} (h:KeysV H kvs) (e:H a=some (dV P w a k1)):KeysV (upd H a o) kvs:=fun q hq=>by
 have:=h q hq
 rw [AJ (fun z=>by rw [z,e] at this;exact nomatch Option.some.inj this)]
 exact this
section
variable {X:Cx} {o i e f value:Expr} {pos pos' tpos apos cpos:Pos} {td ty tx tv:TE}
end
section
variable {X:Cx} {P:Program} {w:World} {o i e f:Expr} {pos apos cpos:Pos} {td ty tx:TE}
end
section
variable {prog:Program} {w:World} {A:Around} {E:Value->Shared->Prop} {s:Shared} {d it:Addr} {o:Obj} {es:Array DictEntry} {ep i:Nat}
end
section
variable {X:Cx} {pins:List (Addr × Obj)} {σ:St} {H:Hp} {s:Shared}
theorem BVr.get {kvs:BV} {xs:List (List Bool × Addr × Value)} (r:BVr kvs xs):∀ {i:Nat} {q:List Bool × Addr × V},kvs[i]? = some q->∃ x,xs[i]? = some x/\x.2.1=q.2.1:=by
 induction r with
 | nil=>intro i q e;simp at e
 | @cons a b l1 l2 h t ih =>
  intro i q e
  cases i with
  | zero =>
   simp at e;subst e
   exact ⟨b,by simp,h.2.1.symm⟩
  | succ i =>
   obtain ⟨v,h1,h2⟩:=ih (i:=i) (q:=q) (by simpa using e)
   exact ⟨v,by simpa using h1,h2⟩
end
section
variable {X:Cx} {K:PySem.W.Frag}
end
section
variable {X:Cx} {K:PySem.W.Frag}
end
open Classical in
noncomputable def MY (K:PySem.W.Frag) (H:Hp) (u:Value):Dv:=if h:∃ d x,RelV x u/\Rep K H d x then h.choose else .non
section
variable {X:Cx} {K:PySem.W.Frag} {pins:List (Addr × Obj)} {σ:St} {H:Hp} {s:Shared}
end
structure GFd (H:Hp) (t l:Addr) (N:Nat):Prop where
 at_:∃ (i g c:Int) (ns:List Int),0<=i/\0<=g/\0<=c/\c<=N/\H t=some (.lst [.ref l,.int i,.int g,.int c])/\l≠t/\H l=some (.lst (ns.map V.int))/\ns.length≠0
theorem GFd.same {H H':Hp} {t l:Addr} {N:Nat} (F:GFd H t l N) (h:Same H H'):GFd H' t l N:=by
 obtain ⟨i,g,c,ns,h1,h2,h3,h4,h5,h6,h7,h8⟩:=F.at_
 exact ⟨i,g,c,ns,h1,h2,h3,h4,h _ _ h5,h6,h _ _ h7,h8⟩
theorem GFd.upd {H:Hp} {t l p:Addr} {o:HO} {N:Nat} (F:GFd H t l N) (h:H p=none):GFd (L2.upd H p o) t l N:=F.same (Same.upd h)
inductive Dw where
 | non | bl (b:Bool) | int (i:Int) | str (x:Str) | tup (ds:List Dw) | lst (ds:List Dw) | emp
def Ar (a:Addr) (xs:List V):Heap->Prop:=fun h=>a≠sysModules/\∃ (its:List Value) (n:Nat),Vals xs its/\h.get? a=some { cls:=.type "list",data:=.seq its.toArray n }
mutual
def RepW (K:PySem.W.Frag) (H:Hp):Dw->V->Prop
 | .non,v=>v=.non
 | .bl b,v=>v=.bl b
 | .int i,v=>v=.int i
 | .str x,v=>v=.str x
 | .tup ds,v=>∃ a xs,v=.ref a/\SqT K H a xs/\RepsW K H ds xs
 | .lst ds,v=>∃ a xs,v=.ref a/\H a=some (.ext (Ar a xs))/\RepsW K H ds xs
 | .emp,v=>∃ a,v=.ref a/\H a=some (.dK [])
def RepsW (K:PySem.W.Frag) (H:Hp):List Dw->List V->Prop
 | [],xs=>xs=[]
 | d::ds,xs=>∃ x r,xs=x::r/\RepW K H d x/\RepsW K H ds r
end
theorem RepsW.length {K:PySem.W.Frag} {H:Hp}:∀ {ds:List Dw} {xs:List V},RepsW K H ds xs->ds.length=xs.length
 | [],xs,h=>by unfold RepsW at h;subst h;rfl
 | d::ds,xs,h=>by
  unfold RepsW at h
  obtain ⟨x,r,rfl,_,h⟩:=h
  rw [List.length_cons,List.length_cons,RepsW.length h]
theorem RepsW.get {K:PySem.W.Frag} {H:Hp}:∀ {ds:List Dw} {xs:List V} {i:Nat} {d:Dw},RepsW K H ds xs->ds[i]? = some d->∃ x,xs[i]? = some x/\RepW K H d x
 | [],_,_,_,_,e=>by simp at e
 | d::ds,xs,0,_,h,e=>by
  unfold RepsW at h
  obtain ⟨x,r,rfl,h1,_⟩:=h
  simp at e;subst e
  exact ⟨x,rfl,h1⟩
 | d::ds,xs,i+1,_,h,e=>by
  unfold RepsW at h
  obtain ⟨x,r,rfl,_,h⟩:=h
  obtain ⟨y,h1,h2⟩:=RepsW.get (i:=i) h (by simpa using e)
  exact ⟨y,by simpa using h1,h2⟩
theorem GX {K:PySem.W.Frag} {H:Hp}:RepW K H .non .non:=by unfold RepW;rfl
theorem Di {K:PySem.W.Frag} {H:Hp} {b:Bool}:RepW K H (.bl b) (.bl b):=by unfold RepW;rfl
theorem CC {K:PySem.W.Frag} {H:Hp} {i:Int}:RepW K H (.int i) (.int i):=by unfold RepW;rfl
theorem Dl {K:PySem.W.Frag} {H:Hp} {x:Str}:RepW K H (.str x) (.str x):=by unfold RepW;rfl
theorem Dm {K:PySem.W.Frag} {H:Hp} {p:Addr} {xs:List V} {ds:List Dw} (h:SqT K H p xs) (r:RepsW K H ds xs):RepW K H (.tup ds) (.ref p):=by unfold RepW;exact ⟨p,xs,rfl,h,r⟩
theorem Hf {K:PySem.W.Frag} {H:Hp} {p:Addr} {xs:List V} {ds:List Dw} (h:H p=some (.ext (Ar p xs))) (r:RepsW K H ds xs):RepW K H (.lst ds) (.ref p):=by unfold RepW;exact ⟨p,xs,rfl,h,r⟩
theorem GR {K:PySem.W.Frag} {H:Hp} {p:Addr} (h:H p=some (.dK [])):RepW K H .emp (.ref p):=by unfold RepW;exact ⟨p,rfl,h⟩
theorem Ej {K:PySem.W.Frag} {H:Hp} {ds:List Dw} {v:V} (h:RepW K H (.tup ds) v):∃ a xs,v=.ref a/\SqT K H a xs/\RepsW K H ds xs:=by unfold RepW at h;exact h
theorem BO {K:PySem.W.Frag} {H:Hp}:RepsW K H [] []:=by unfold RepsW;rfl
theorem CM {K:PySem.W.Frag} {H:Hp} {d:Dw} {ds:List Dw} {x:V} {xs:List V} (h:RepW K H d x) (r:RepsW K H ds xs):RepsW K H (d::ds) (x::xs):=by unfold RepsW;exact ⟨x,xs,rfl,h,r⟩
theorem RepsW.append {K:PySem.W.Frag} {H:Hp}:∀ {ds es:List Dw} {xs ys:List V},RepsW K H ds xs->RepsW K H es ys->RepsW K H (ds++es) (xs++ys)
 | [],es,xs,ys,h,h'=>by unfold RepsW at h;subst h;exact h'
 | d::ds,es,xs,ys,h,h'=>by
  unfold RepsW at h
  obtain ⟨x,r,rfl,h1,h2⟩:=h
  exact CM h1 (RepsW.append h2 h')
theorem RepsW.take {K:PySem.W.Frag} {H:Hp}:∀ (k:Nat) {ds:List Dw} {xs:List V},RepsW K H ds xs->RepsW K H (ds.take k) (xs.take k)
 | 0,_,_,_=>by simpa using BO
 | k+1,[],xs,h=>by unfold RepsW at h;subst h;simpa using BO
 | k+1,d::ds,xs,h=>by
  unfold RepsW at h
  obtain ⟨x,r,rfl,h1,h2⟩:=h
  simpa using CM h1 (RepsW.take k h2)
theorem RepsW.drop {K:PySem.W.Frag} {H:Hp}:∀ (k:Nat) {ds:List Dw} {xs:List V},RepsW K H ds xs->RepsW K H (ds.drop k) (xs.drop k)
 | 0,_,_,h=>by simpa using h
 | k+1,[],xs,h=>by unfold RepsW at h;subst h;simpa using BO
 | k+1,d::ds,xs,h=>by
  unfold RepsW at h
  obtain ⟨x,r,rfl,h1,h2⟩:=h
  simpa using RepsW.drop k h2
mutual
theorem RepW.same {K:PySem.W.Frag} {H H':Hp} (s:Same H H'):∀ (d:Dw) (v:V),RepW K H d v->RepW K H' d v
 | .non,v,h=>by unfold RepW at *;exact h
 | .bl b,v,h=>by unfold RepW at *;exact h
 | .int i,v,h=>by unfold RepW at *;exact h
 | .str x,v,h=>by unfold RepW at *;exact h
 | .emp,v,h=>by unfold RepW at *;obtain ⟨a,e,h⟩:=h;exact ⟨a,e,s _ _ h⟩
 | .tup ds,v,h=>by
  unfold RepW at *
  obtain ⟨a,xs,e,h1,h2⟩:=h
  exact ⟨a,xs,e,HW h1 s,RepsW.same s ds xs h2⟩
 | .lst ds,v,h=>by
  unfold RepW at *
  obtain ⟨a,xs,e,h1,h2⟩:=h
  exact ⟨a,xs,e,s _ _ h1,RepsW.same s ds xs h2⟩
theorem RepsW.same {K:PySem.W.Frag} {H H':Hp} (s:Same H H'):∀ (ds:List Dw) (xs:List V),RepsW K H ds xs->RepsW K H' ds xs
 | [],xs,h=>by unfold RepsW at *;exact h
 | d::ds,xs,h=>by
  unfold RepsW at *
  obtain ⟨x,r,e,h1,h2⟩:=h
  exact ⟨x,r,e,RepW.same s d x h1,RepsW.same s ds r h2⟩
end
mutual
theorem RepW.frm {K:PySem.W.Frag} {H H':Hp} {t:Addr} (s:Frm t H H') (ht:∃ zs,H t=some (.lst zs)):∀ (d:Dw) (v:V),RepW K H d v->RepW K H' d v
 | .non,v,h=>by unfold RepW at *;exact h
 | .bl b,v,h=>by unfold RepW at *;exact h
 | .int i,v,h=>by unfold RepW at *;exact h
 | .str x,v,h=>by unfold RepW at *;exact h
 | .emp,v,h=>by
  unfold RepW at *
  obtain ⟨a,e,h⟩:=h
  obtain ⟨zs,hz⟩:=ht
  exact ⟨a,e,s a _ (fun q=>by rw [q,hz] at h;cases h) h⟩
 | .tup ds,v,h=>by
  unfold RepW at *
  obtain ⟨a,xs,e,h1,h2⟩:=h
  refine ⟨a,xs,e,?_,RepsW.frm s ht ds xs h2⟩
  obtain ⟨zs,hz⟩:=ht
  rcases h1 with (h1 | ⟨o,h1⟩) | h1
  ·exact .inl (.inl (s a _ (fun q=>by rw [q,hz] at h1;cases h1) h1))
  ·exact .inl (.inr ⟨o,s a _ (fun q=>by rw [q,hz] at h1;cases h1) h1⟩)
  ·exact .inr h1
 | .lst ds,v,h=>by
  unfold RepW at *
  obtain ⟨a,xs,e,h1,h2⟩:=h
  obtain ⟨zs,hz⟩:=id ht
  exact ⟨a,xs,e,s a _ (fun q=>by rw [q,hz] at h1;cases h1) h1,RepsW.frm s ht ds xs h2⟩
theorem RepsW.frm {K:PySem.W.Frag} {H H':Hp} {t:Addr} (s:Frm t H H') (ht:∃ zs,H t=some (.lst zs)):∀ (ds:List Dw) (xs:List V),RepsW K H ds xs->RepsW K H' ds xs
 | [],xs,h=>by unfold RepsW at *;exact h
 | d::ds,xs,h=>by
  unfold RepsW at *
  obtain ⟨x,r,e,h1,h2⟩:=h
  exact ⟨x,r,e,RepW.frm s ht d x h1,RepsW.frm s ht ds r h2⟩
end
mutual
def upW:Dv->Dw
 | .non=>.non
 | .bl b=>.bl b
 | .int i=>.int i
 | .str x=>.str x
 | .tup ds=>.tup (CI ds)
 | .lst ds=>.lst (CI ds)
def CI:List Dv->List Dw
 | []=>[]
 | d::ds=>upW d::CI ds
end
mutual
theorem Fp {K:PySem.W.Frag} {H:Hp}:∀ (d:Dv) (v:V),BU d=true->Rep K H d v->RepW K H (upW d) v
 | .non,v,_,h=>by unfold upW RepW;unfold Rep at h;exact h
 | .bl b,v,_,h=>by unfold upW RepW;unfold Rep at h;exact h
 | .int i,v,_,h=>by unfold upW RepW;unfold Rep at h;exact h
 | .str x,v,_,h=>by unfold upW RepW;unfold Rep at h;exact h
 | .tup ds,v,hd,h=>by
  unfold BU at hd
  unfold Rep at h
  obtain ⟨a,xs,e,h1,h2⟩:=h
  unfold upW RepW
  exact ⟨a,xs,e,h1,D1 ds xs hd h2⟩
 | .lst ds,v,hd,h=>by unfold BU at hd;cases hd
theorem D1 {K:PySem.W.Frag} {H:Hp}:∀ (ds:List Dv) (xs:List V),BW ds=true->Reps K H ds xs->RepsW K H (CI ds) xs
 | [],xs,_,h=>by unfold CI RepsW;unfold Reps at h;exact h
 | d::ds,xs,hd,h=>by
  unfold BW at hd
  rw [Bool.and_eq_true] at hd
  unfold Reps at h
  obtain ⟨x,r,e,h1,h2⟩:=h
  unfold CI RepsW
  exact ⟨x,r,e,Fp d x hd.1 h1,D1 ds r hd.2 h2⟩
end
def FV (t:TA):TE:=fun σ H Q=>t σ H fun xs H1=>xs.length<=sizeLine/\∀ p,H1 p=none->Q (.ref p) (upd H1 p (.ext (Ar p xs)))
section
variable {X:Cx} {K:PySem.W.Frag} {es:List Expr} {t:TA} {pos:Pos}
theorem GJ {H:Hp} {h:Heap} {P:Program} {w:World} {a:Addr} {xs:List V} (x:Ar a xs h):ObjOk P w H h a (.ext (Ar a xs)):=by
 refine ⟨x,?_,fun h1 h2 ⟨hs,its,n,r,e⟩ k=>⟨hs,its,n,r,k _ e⟩⟩
 obtain ⟨hs,its,n,r,e⟩:=x
 exact ⟨_,e⟩
theorem Dy (h:PA X es t):PE X (.List es pos) (FV t):=by
 intro pins s σ H Q I hq
 refine wpAny_List_spliced (thn (h pos pins s σ H _ I hq) fun us s1 ⟨xs,H1,I1,r,z,q⟩=>⟨by rw [<- r.length];exact z,?_⟩)
 have hf:H1 s1.heap.objs.size=none:=I1.hok.fresh (Nat.le_refl _)
 refine ⟨.ref s1.heap.objs.size,upd H1 s1.heap.objs.size (.ext (Ar s1.heap.objs.size xs)),I1.laid (t':=s1.toks) (fun b u e=>Heap.get?_push_of_some _ e) (Nat.le_refl _) ?_,rfl,q _ hf⟩
 exact GJ ⟨Nat.ne_of_gt I1.big,us,0,r,Heap.get?_push_size _ rfl⟩
theorem JO (h:BL t):AU (FV t):=fun σ H Q Q' k q=>h _ _ _ _ (fun xs _ q=>⟨q.1,fun p hp=>k _ _ (q.2 p hp)⟩) q
def Fv (K:PySem.W.Frag):List V->Hp->VK->Prop:=fun xs H Q=>match xs with
 | [.ref p]=>∃ ys,SqT K H p ys/\∀ l,H l=none->Q (.ref l) (upd H l (.ext (Ar l ys)))
 | _=>False
theorem Kj:CallR X (.type "list") (Fv X.K):=by
 intro pins s σ H xs us Q I r h
 match xs,h with
 | [.ref p],h =>
 obtain ⟨ys,hq,q⟩:=h
 obtain ⟨u,rfl,rx⟩:=Bj r
 cases rx
 have fin:∀ (its:List Value),Vals ys its->∀ (h':Heap) (c':Nat),(∀ b o',s.heap.get? b=some o'->h'.get? b=some o') ->
  h'.get? s.heap.objs.size=some { cls:=.type "list",dict:=none,data:=.seq its.toArray c',slots:=#[] } -> EP X pins σ Q (.ref s.heap.objs.size) { s with heap:=h' }:=fun its r' h' c' kp e =>
  ⟨.ref s.heap.objs.size,_,I.laid (t':=s.toks) kp (Nat.le_refl _) (GJ (xs:=ys) ⟨Nat.ne_of_gt I.big,its,c',r',e⟩),rfl,q _ (I.hok.fresh (Nat.le_refl _))⟩
 obtain ⟨its,r',pl,hz⟩:=I.tuple hq
 have hlen:=r'.length
 obtain ⟨o,ho,hc,n,hd⟩:=pl
 exact call_list_seq p (.inr rfl) ho hc hd (fun h' c' kp e=>fin its r' h' c' kp e) (by simp only [List.size_toArray] <;> omega)
theorem Lv (hK:X.K=K:=by rfl):CallR X (.type "list") (Fv K):=hK ▸ Kj
end
def tyW:Dw->String
 | .non=>"NoneType"
 | .bl _=>"bool"
 | .int _=>"int"
 | .str _=>"str"
 | .tup _=>"tuple"
 | .lst _=>"list"
 | .emp=>"dict"
def GC (K:PySem.W.Frag):List V->Hp->VK->Prop:=fun xs H Q=>match xs with
 | [x,.ty T]=>T∈kinds/\∃ d,RepW K H d x/\Q (.bl (BC (tyW d) T)) H
 | _=>False
theorem J9 {X:Cx}:CallR X (.builtin "isinstance") (GC X.K):=by
 intro pins s σ H xs us Q I r q
 match xs,q with
 | [x,.ty T],q =>
  obtain ⟨hT,d,h,q⟩:=q
  have hT':=hT
  unfold kinds at hT'
  simp only [List.mem_cons,List.mem_nil_iff,or_false] at hT'
  cases d with
  | non =>
   unfold RepW at h;subst h
   exact DU pins s σ H _ us Q I r ⟨hT,.non,by unfold Rep;rfl,q⟩
  | str z =>
   unfold RepW at h;subst h
   exact DU pins s σ H _ us Q I r ⟨hT,.str z,by unfold Rep;rfl,q⟩
  | bl b =>
   unfold RepW at h;subst h
   exact DU pins s σ H _ us Q I r ⟨hT,.bl b,by unfold Rep;rfl,q⟩
  | int i =>
   unfold RepW at h;subst h
   exact DU pins s σ H _ us Q I r ⟨hT,.int i,by unfold Rep;rfl,q⟩
  | tup ds =>
   unfold RepW at h
   obtain ⟨a,ys,rfl,hs,_⟩:=h
   obtain ⟨u,w',rfl,ru,rw'⟩:=Cy r
   cases rw'
   obtain ⟨ht,hn,Hh,k,hh⟩:=FR I ru (show TyS X.K H (.ref a) "tuple" from .inl ⟨rfl,ys,hs⟩)
   exact PySem.W.kia_one k I.kIn hh (Ee ht hT) hn fun tk=>⟨.bl (BC "tuple" T),H,I.tok _,rfl,q⟩
  | lst ds =>
   unfold RepW at h
   obtain ⟨a,ys,rfl,hs,_⟩:=h
   obtain ⟨u,w',rfl,ru,rw'⟩:=Cy r
   cases rw'
   cases ru
   obtain ⟨⟨_,its,n,_,h1⟩,_⟩:=(show ObjOk X.prog X.w H s.heap a (.ext (Ar a ys)) from I.hok a _ hs)
   exact PySem.W.kia_one PySem.W.kitx_list I.kIn ⟨_,h1,rfl⟩ (Ee (.inr (.inr (.inr rfl))) hT) (fun z=>nomatch z) fun tk=>⟨.bl (BC "list" T),H,I.tok _,rfl,q⟩
  | emp =>
   unfold RepW at h
   obtain ⟨a,rfl,hs⟩:=h
   refine Da pins s σ H _ us Q I r ⟨hT,_,.inr (.inr (.inl ⟨⟨_,hs⟩,rfl⟩)),?_⟩
   have e:(T == "dict")=BC (tyW .emp) T:=by rcases hT' with rfl | rfl | rfl | rfl | rfl | rfl <;> rfl
   rw [e];exact q
theorem Bo {X:Cx} {K:PySem.W.Frag} (hK:X.K=K:=by rfl):CallR X (.builtin "isinstance") (GC K):=hK ▸ J9
mutual
def GP:Dw->Nat
 | .tup ds=>D0 ds+1
 | .lst ds=>D0 ds+1
 | .emp=>1
 | _=>0
def D0:List Dw->Nat
 | []=>0
 | d::ds=>max (GP d) (D0 ds)
end
mutual
def GS:Dw->Nat
 | .str x=>x.cps.size
 | .tup ds=>Ea ds
 | .lst ds=>Ea ds
 | _=>0
def Ea:List Dw->Nat
 | []=>0
 | d::ds=>GS d+1+Ea ds
end
section
variable {X:Cx} {pins:List (Addr × Obj)} {σ:St} {H:Hp} {s:Shared}
end
section
variable {X:Cx} {K:PySem.W.Frag}
end
mutual
def okW (n:Nat):Dw->Bool
 | .int i=>decide (i.natAbs<=n)
 | .str x=>x.cps.toList.all fun c=>decide (c < 16 ^ 8)
 | .tup ds=>D2 n ds
 | .lst ds=>D2 n ds
 | _=>true
def D2 (n:Nat):List Dw->Bool
 | []=>true
 | d::ds=>okW n d && D2 n ds
end
structure Fit (n D B:Nat) (d:Dw):Prop where
 ok:okW n d=true
 dep:GP d<=D
 bulk:GS d<=B
section
variable {X:Cx} {K:PySem.W.Frag}
end
def Ris (xs:Array Nat):Prop:=xs.toList.Pairwise (· < ·)
structure TabG (w:World) (t:SetTable):Prop where
 led:t.led = !w.params.followText "set-order"
 ris:Ris t.place
def SetW (P:Program) (w:World) (h:Heap) (a:Addr) (S:Int->Bool) (n:Nat):Prop :=
 ∃ o es ep t,h.get? a=some o/\o.ExactSet/\o.data=.set es ep t/\ElemsOf (intKind P w) es.toList/\(∀ k,S k=true ↔ ∃ e∈es.toList,(intKind P w).is k e.2=true)/\es.size < scanBound/\t.fits es.size=true/\es.size=n/\TabG w t
section
variable {P:Program} {w:World} {A:Around} {E:Value->Shared->Prop} {s:Shared} {a:Addr}
theorem SetW.at {h h':Heap} {S:Int->Bool} {n:Nat} (x:SetW P w h a S n) (k:∀ o,h.get? a=some o->h'.get? a=some o):SetW P w h' a S n:=by
 obtain ⟨o,es,ep,t,h1,r⟩:=x;exact ⟨o,es,ep,t,k _ h1,r⟩
theorem SetW.of {h:Heap} {S:Int->Bool} {n:Nat} (x:SetW P w h a S n):h.SetOf (intKind P w) a S n:=by
 obtain ⟨o,es,ep,t,h1,h2,h3,h4,h5,h6,h7,h8,_⟩:=x;exact ⟨o,es,ep,t,h1,h2,h3,h4,h5,h6,h7,h8⟩
end
section
variable {P:Program} {w:World} {A:Around} {E:Value->Shared->Prop} {s:Shared} {a:Addr}
theorem SetW.congr {h:Heap} {S S':Int->Bool} {n n':Nat} (x:SetW P w h a S n) (e:∀ k,S k=S' k) (en:n=n'):SetW P w h a S' n':=by
 obtain rfl:S=S':=funext e
 subst en;exact x
end
namespace F
end F
def IsSetIter (h:Heap) (I:Addr) (f:Value) (i:Nat) (a:Addr) (n ep:Nat):Prop:=∃ o,h.get? I=some o/\o.cls=.type "set_iterator" /\ o.data=.fields #[f,.int i 0,.ref a,.int n 0,.int ep 0]
theorem IsSetIter.at {h h':Heap} {I a:Addr} {f:Value} {i n ep:Nat} (x:IsSetIter h I f i a n ep) (e:∀ o,h.get? I=some o->h'.get? I=some o):IsSetIter h' I f i a n ep:=let ⟨o,ho,r⟩:=x;⟨o,e _ ho,r⟩
section
variable {P:Program} {w:World} {A:Around} {E:Value->Shared->Prop} {s:Shared} {a I:Addr}
end
section
variable {P:Program} {w:World} {A:Around} {E:Value->Shared->Prop} {s:Shared} {a I:Addr}
end
end L2
namespace L2
open PySem PySem.Spec PyProof.Rows PySem.W PySem.Calls
section
variable {P:Program} {w:World} {A:Around} {E:Value->Shared->Prop} {s:Shared} {a I:Addr}
end
end L2
namespace L2
open PySem PySem.Spec PyProof.Rows
section
variable {X:Cx} {K:PySem.W.Frag} {P:Program} {w:World}
variable {C:Addr} {f:Str} {e o value:Expr} {ta tv td ty:TE} {pos pos':Pos}
def K9 (neg:Bool):R2:=fun y x H Q=>match x with
 | .ref a=>∃ o,DGet H a y o/\Q (.bl (xor neg o.isSome)) H
 | _=>False
theorem MM (hu:X.A.units+60 < cLine):OpR X (compareOp .NotIn) (K9 true):=by
 intro pins s σ H y x v u Q I ry rx q
 match x,q with
 | .ref a,⟨o,g,q⟩ =>
 obtain rfl:u=Value.ref a:=rx
 exact Lx (HG hu) I g ry fun s3 I3=>⟨.bl (!o.isSome),H,I3,rfl,(by cases o <;> exact q)⟩
end
end L2
namespace L2
open PySem PySem.Spec PyProof.Rows PySem.W
end L2
namespace L2
open PySem PySem.Spec PyProof.Rows PySem.W PySem.Calls
section
variable {P:Program} {w:World} {A:Around} {E:Value->Shared->Prop} {s:Shared}
end
end L2
namespace L2
open PySem PySem.Spec PyProof.Rows PySem.W
section
variable {P:Program} {w:World} {A:Around} {E:Value->Shared->Prop} {s:Shared}
end
section
variable {X:Cx}
end
def DZ (K:PySem.W.Frag) (base:Heap) (f:Addr):Prop:=PySem.W.keepIn K (.ref f)=true\/∃ o fd,base.get? f=some o/\o.data=.func fd
def FN (f:Addr) (sp:Sp) (tn:TE) (t:TA):TE:=fun σ H Q=>tn σ H fun v H1=>v=.ref f/\t σ H1 fun vs H2=>sp vs H2 Q E0
section
variable {X:Cx} {k:Nat} {f:Addr} {fd:FuncData} {ps:List Str} {sp:Sp} {x:Str} {p pos:Pos} {e:Expr} {es:List Expr} {t:TA} {tn:TE}
theorem D8 (hn:PE X (.Name x p) tn) (F:FnOk X.prog X.w X.K X.mg X.base CX0 k f fd ps sp) (hr:Room k X.A) (hf:DZ X.K X.base f) (hb:Binds X.K fd ps []) (ha:PA X (e::es) t)
 (he:starEach (e::es) X.env=(false,eval e X.env)::starEach es X.env:=by rfl) (hpl:(backTo pos (starEach es X.env)).any (·.1)=false:=by rfl) :
 PE X (.Call (.Name x p) (e::es) [] pos) (FN f sp tn t):=by
 intro pins s σ H Q I h
 refine wpAny_Call_Name_kw (thn (hn pins s σ H _ I h) fun v s1 ⟨y,H1,I1,r1,q1⟩=>?_)
 obtain ⟨rfl,q1⟩:=q1
 cases r1
 have fin:∀ (us:List Value) (s2:Shared),(∃ vs H2,Inv X pins σ H2 s2/\Vals vs us/\sp vs H2 Q E0)->wpAny (model X.prog X.w) X.A (call (.ref f) us) (EP X pins σ Q) X.xe s2:=fun us s2 ⟨vs,H2,I2,r,q⟩ =>
  HP F hr hb .nil AO I2 r (by rw [List.append_nil];exact q)
 rcases hf with hk | ⟨o,fd',e1,e2⟩
 ·refine PySem.W.callWith_K (h₀:=X.base) I.ok.mod.kin hk (thn (ha pos pins s1 σ H1 _ I1 q1) fun us s2 ⟨vs,H2,I2,r,q⟩=>⟨I2.kIn,fin us s2 ⟨vs,H2,I2,r,q⟩⟩) he hpl
 ·have h0:=thn (ha pos pins s1 σ H1 _ I1 q1) fun us s2 ⟨vs,H2,I2,r,q⟩=>(show s2.heap.get? f=some o/\wpAny (model X.prog X.w) X.A (call (.ref f) ([]++us)) (EP X pins σ Q) X.xe s2 from ⟨I2.bk _ _ e1,fin us s2 ⟨vs,H2,I2,r,q⟩⟩)
  rw [he] at h0 ⊢
  refine callWith_of (P:=fun h=>h.get? f=some o) (by show ((false || (backTo pos (starEach es X.env)).any (·.1)) || false)=false;rw [hpl];rfl) (fun h hh=>⟨.frame,.inl rfl,(Looks.ld (part:=none) hh).andThen ?_⟩) (Calls.evalArgs_plain h0)
  rw [e2]
  exact .now
theorem IA (h1:AU tn) (h2:BL t) (hs:AZ sp):AU (FN f sp tn t):=fun σ H Q Q' k q=>h1 _ _ _ _ (fun v H1 q=>⟨q.1,h2 _ _ _ _ (fun vs H2 q=>hs vs H2 Q Q' E0 k q) q.2⟩) q
end
section
variable {X:Cx} {pins:List (Addr × Obj)} {σ:St} {H:Hp} {s:Shared}
theorem Inv.pin1 (I:Inv X pins σ H s) {a:Addr} {o:Obj} (ha:s.heap.get? a=some o) (n:H a=none) (h1:a≠X.env.locals) (h2:a∉X.fs) (h3:∀ v,o.data≠.cell v):Inv X ((a,o)::pins) σ H s:=by
 refine ⟨I.ok,I.os,I.bare,I.base,I.loc,I.cell,I.free,I.freeC,fun p hp=>?_,I.hok,I.len⟩
 rcases List.mem_append.mp hp with z | z
 ·exact I.pin p (List.mem_append_left _ z)
 ·rcases List.mem_cons.mp z with rfl | z
  ·exact ⟨ha,n,h1,h2,h3⟩
  ·exact I.pin p (List.mem_append_right _ z)
theorem Inv.unpin1 {q:Addr × Obj} (I:Inv X (q::pins) σ H s):Inv X pins σ H s:=by
 refine ⟨I.ok,I.os,I.bare,I.base,I.loc,I.cell,I.free,I.freeC,fun p hp=>?_,I.hok,I.len⟩
 rcases List.mem_append.mp hp with z | z
 ·exact I.pin p (List.mem_append_left _ z)
 ·exact I.pin p (List.mem_append_right _ (List.mem_cons_of_mem _ z))
def EO (X:Cx) (H:Hp):Hp:=fun b=>if b∈frs X.stack then some (.tup []) else H b
def CK (X:Cx) (H:Hp) (s:Shared):Heap:=BM s.heap (EO X H)
theorem ED {b:Addr} {o:Obj} (e:s.heap.get? b=some o) (n:H b=none) (f:b∉frs X.stack):(CK X H s).get? b=some o:=G7 e (by unfold EO;rw [if_neg f];exact n)
theorem EC {b:Addr} {o:Obj} (e:(CK X H s).get? b=some o):s.heap.get? b=some o/\H b=none/\b∉frs X.stack:=by
 obtain ⟨h1,h2⟩:=HB e
 unfold EO at h2
 by_cases f:b∈frs X.stack
 ·rw [if_pos f] at h2;cases h2
 ·rw [if_neg f] at h2;exact ⟨h1,h2,f⟩
theorem Fa {h base base':Heap}:∀ {l:List Env},h.FunFrames base l->(∀ b∈frs l,base'.get? b=none)->h.FunFrames base' l
 | [],_,_=>trivial
 | env::l,⟨a,⟨L,o,e1,_,e3,e4⟩,r⟩,hb=>by
  refine ⟨a,⟨L,o,e1,hb L ?_,e3,e4⟩,Fa r fun b hb'=>hb b ?_⟩
  ·rw [frs,List.filterMap_cons,e1];exact List.mem_cons_self ..
  ·rw [frs,List.filterMap_cons,e1];exact List.mem_cons_of_mem _ hb'
theorem HC (I:Inv X pins σ H s):∀ b o,X.base.get? b=some o->(CK X H s).get? b=some o:=fun b o e =>
 ED (I.bs b o e).1 (I.bs b o e).2 fun z=>by
  have:=(I.stack.mem z).1
  rw [e] at this;cases this
theorem Ll (I:Inv X pins σ H s):Env0 X.prog X.w X.K X.mg (CK X H s) X.A X.stack s H:=by
 have sub:=HC I
 refine ⟨I.ok.frames,⟨I.ok.mod.kin.keeps sub,I.ok.mod.glob.keeps sub,let ⟨mb,h1,h2⟩:=I.ok.mod.blt;⟨mb,h1.keeps sub,h2⟩,I.ok.mod.nolimit.keeps sub⟩,fun b o e=>⟨(EC e).1,(EC e).2.1⟩,Nat.le_of_eq (Gu _ _),Fa I.stack fun b hb=>?_,I.stkFree,I.hok,I.bare⟩
 cases e:(CK X H s).get? b with
 | none=>rfl
 | some o=>exact absurd hb (EC e).2.2
theorem Lf {k:Nat} {f:Addr} {fd:FuncData} {ps:List Str} {sp:Sp} {us:List Value} {vs:List V} {Q:VK} (I:Inv X pins σ H s) (F:FnOk X.prog X.w X.K X.mg (CK X H s) CX0 k f fd ps sp) (hr:Room k X.A) (hb:Binds X.K fd ps [])
 (r:Vals vs us) (h:sp vs H Q E0):wpAny (model X.prog X.w) X.A (call (.ref f) us) (EP X pins σ Q) X.xe s:=by
 have hl:(us++[]).length=ps.length:=by rw [List.append_nil,<- r.length];exact F.len _ _ _ _ h
 have hbb:=hb s us I.kIn hl
 rw [List.append_nil] at hbb
 refine wpAny_call (codeAny_mono (F.run X.A X.stack s H ⟨us,[]⟩ us vs Q E0 hr (Ll I) hbb r h) fun r s' hq=>?_)
 cases r with
 | error e=>exact False.elim hq
 | ok fl =>
  cases fl with
  | ret u=>exact I.after hq
  | next=>exact False.elim hq
  | brk=>exact False.elim hq
  | cont=>exact False.elim hq
end
section
variable {X:Cx} {Pt c f:Addr} {fd:FuncData} {ps:List Str} {k i:Nat} {kn a:Str} {kp pos lpos:Pos} {params:Arguments} {body:Expr} {scope:Scope} {e:Expr} {es:List Expr} {t:TA} {qual:Str} {spK:Addr->Addr->V->Sp}
def Jz (Pt:Addr) (lpos:Pos) (qual:Str) (i:Nat) (spK:Addr->Addr->V->Sp) (t:TA):TE:=fun σ H Q=>∃ vA,σ[i]? = some (some vA)/\Lam Pt lpos qual H /\
 ∀ lam c' H1,Grow Pt H H1->Lam Pt lpos qual H1->H1 c'=some (CdO c' qual)->H1 lam=none->t σ H1 fun vs H2=>spK lam c' vA (.ref lam::vs) H2 Q E0
theorem LD (hg:Gl X kn) (hm:X.mg kn=some (.ref f)) (hk:PySem.W.keepIn X.K (.ref f)=true) (hr:Room k X.A) (hb:Binds X.K fd ps []) (hcode:X.env.code=.ref c) (hcK:codeHdIn X.K c Pt=true) (hbm:BMn X.mg X.base)
 (hq:X.env.qual ++ "<lambda>" = qual) (hdef:defaultsOf params X.env=([],[])) (hN:X.N[i]? = some a) (hcl:∀ cell,X.env.cells.lookup a=some cell->closureFor scope X.env=pure [(a,cell)]) (hka:X.env.kindOf a=some .cell) (hfn:X.fn a=true)
 (hF:∀ (base':Heap) (lam cell c':Addr) (pm ctv uA:Value) (vA:V),(∀ b o,X.base.get? b=some o->base'.get? b=some o)->base'.get? lam=some (kla_obj "<lambda>" qual params body scope [(a,cell)] pm c' ctv)->base'.IsCell cell (some uA)->RelV vA uA->FnOk X.prog X.w X.K X.mg base' CX0 k f fd ps (spK lam c' vA))
 (ha:PA X (e::es) t) (hd:(kn == ("__debug__" : Str))=false:=by decide)
 (he:starEach (.Lambda params body scope lpos::e::es) X.env=(false,eval (.Lambda params body scope lpos) X.env)::starEach (e::es) X.env:=by rfl) (hpl:(backTo pos (starEach (e::es) X.env)).any (·.1)=false:=by rfl) :
 PE X (.Call (.Name kn kp) (.Lambda params body scope lpos::e::es) [] pos) (Jz Pt lpos qual i spK t):=by
 intro pins s1 σ H1 Q I1 h
 subst hq
 obtain ⟨vA,hv,hL,hQ⟩:=h
 refine wpAny_Call_Name_kw (En I1 hg hm ?_ hd)
 refine PySem.W.callWith_K (h₀:=X.base) I1.ok.mod.kin hk ?_ he hpl
 rw [he]
 show wpAny _ _ (spliced ((false,eval (.Lambda params body scope lpos) X.env)::backTo pos (starEach (e::es) X.env))) _ _ s1
 refine Calls.spliced_cons ?_
 obtain ⟨Pps,hP,htr,hcs⟩:=id hL
 have fin:∀ (H2:Hp) (s2:Shared) (lam c' cell:Addr) (pm ctv:Value),Inv X pins σ H2 s2->X.env.cells.lookup a=some cell->s2.heap.get? lam=some (kla_obj "<lambda>" (X.env.qual ++ "<lambda>") params body scope [(a,cell)] pm c' ctv) ->
  H2 lam=none->lam≠X.env.locals->lam∉X.fs->Grow Pt H1 H2->Lam Pt lpos (X.env.qual ++ "<lambda>") H2->H2 c'=some (CdO c' (X.env.qual ++ "<lambda>")) ->
  wpAny (model X.prog X.w) X.A (spliced (backTo pos (starEach (e::es) X.env))) (fun us s3=>X.K.In s3.heap/\wpAny (model X.prog X.w) X.A (call (.ref f) ([]++Value.ref lam::us)) (EP X pins σ Q) X.xe s3) X.xe s2:=by
  intro H2 s2 lam c' cell pm ctv I2 hcell hf hn hnl hnf hG hL2 hc'
  have J:=I2.pin1 hf hn hnl hnf (fun v z=>by cases z)
  refine thn (ha pos _ s2 σ H2 _ J (hQ lam c' H2 hG hL2 hc' hn)) fun us s3 ⟨vs,H3,I3,r3,q3⟩=>⟨I3.kIn,?_⟩
  have hl3:=(I3.pin (lam,_) (List.mem_append_right _ (List.mem_cons_self ..)))
  obtain ⟨m,hns,hloc⟩:=I3.loc
  obtain ⟨uA,rA,look⟩:=hloc i a vA hN hv (.inr (.inl hka))
  rcases look with ⟨z,_⟩ | ⟨_,cell',e1,e2⟩
  ·rw [hka] at z;cases z
  rw [hcell] at e1
  cases e1
  have I4:=I3.unpin1
  have lamS:lam∉frs X.stack:=fun z=>by
   rcases List.mem_cons.mp (I3.stkSub _ z) with z | z
   ·exact hl3.2.2.1 z
   ·exact hl3.2.2.2.1 z
  have cellS:cell∉frs X.stack:=fun z=>by
   rcases List.mem_cons.mp (I3.stkSub _ z) with z | z
   ·exact I3.cne _ _ hcell z
   ·obtain ⟨_,o,ho,_⟩:=I3.ok.funs.mem z
    exact absurd (Nat.lt_of_lt_of_le (Heap.lt_size ho) (I3.ok.cab a cell hfn hcell)) (Nat.lt_irrefl _)
  refine Lf I4 (hF _ lam cell c' pm ctv uA vA (HC I4) (ED hl3.1 hl3.2.1 lamS) ?_ rA) hr hb (.cons (show RelV (.ref lam) (.ref lam) from rfl) r3) q3
  obtain ⟨o,ho,hd'⟩:=e2
  exact ⟨o,ED ho (I3.freeC _ _ hcell) cellS,hd'⟩
 obtain ⟨cell,hcell⟩:=I1.ok.has a (.inl hka)
 have gl:∀ {s:Shared} {H:Hp},Inv X pins σ H s->s.heap.Ns mainGlobals X.mg:=fun J=>J.mod.glob.keeps J.bk
 have C:CodeHd s1.heap c Pt:=codeHd_of_K I1.kIn hcK
 have hPt:s1.heap.get? Pt=some (tabObj Pps):=I1.hok _ _ hP
 have gP:mainGlobals≠Pt:=fun z=>by
  obtain ⟨o,es,ep,e,hd,_⟩:=gl I1
  rw [z,hPt] at e;cases e;cases hd
 have hB:s1.heap.BuiltinsAt X.mg Pt:=by
  obtain ⟨bm,ob,b1,b2,b3,b4,b5,b6⟩:=hbm
  have e:=I1.bk _ _ b3
  refine ⟨bm,ob,b1,b2,fun z=>?_,fun z=>?_,e,b4,b5,b6⟩
  ·obtain ⟨o,es,ep,e',hd,_⟩:=gl I1
   rw [z,e'] at e;cases e;rw [hd] at b6;cases b6
  ·rw [z,hPt] at e;cases e;cases b4
 refine kla_eval hdef ?_
 rcases hcs with hnf | ⟨c',hf,hc'⟩
 ·refine kla_makeFunction (hcl cell hcell) I1.ok.glob (gl I1) hcode C hPt htr hnf gP hB fun c' ctv h' tk hx' hge hlt hrec htb=>?_
  have J:=I1.grow (t':=tk) hP hx' htb hge hrec
  have J':=J.kept (h':=h'.push _) (t':=tk) fun b u e=>Heap.get?_push_of_some (kla_obj "<lambda>" (X.env.qual ++ "<lambda>") params body scope [(a,cell)] ((X.mg "__name__").getD .none) c' ctv) e
  have hcn:H1 c'=none:=I1.hok.fresh hge
  have hcP:c'≠Pt:=fun z=>by rw [z,hP] at hcn;cases hcn
  refine fin _ _ h'.objs.size c' cell _ ctv J' hcell (Heap.get?_push_size _ rfl) (J.hok.fresh (Nat.le_refl _)) (Nat.ne_of_gt J.lt) (J.nofs (Nat.le_refl _)) (fun b o n e=>?_) ⟨_,by rw [AJ (Ne.symm hcP),AC],?_,.inr ⟨c',?_,AC⟩⟩ AC
  ·have hbc:b≠c':=fun z=>by rw [z,hcn] at e;cases e
   rw [AJ hbc,AJ n];exact e
  ·rw [Array.toList_append]
   exact TriplesOk_snoc _ _ _ _ htr
  ·rw [Array.toList_append]
   exact codeAmong_snoc _ htr hnf
 ·refine kla_makeFunctionHit (hcl cell hcell) I1.ok.glob (gl I1) hcode C hPt htr hf hB fun ctv h' tk hk' hsz=>?_
  have J0:Inv X pins σ H1 { s1 with heap:=h',toks:=tk }:=I1.kept hk'
  have J:=I1.kept (h':=h'.push _) (t':=tk) fun b u e=>Heap.get?_push_of_some (kla_obj "<lambda>" (X.env.qual ++ "<lambda>") params body scope [(a,cell)] ((X.mg "__name__").getD .none) c' ctv) (hk' b u e)
  exact fin _ _ h'.objs.size c' cell _ ctv J hcell (Heap.get?_push_size _ rfl) (J0.hok.fresh (Nat.le_refl _)) (Nat.ne_of_gt J0.lt) (J0.nofs (Nat.le_refl _)) (Grow.refl _ _) hL hc'
end
abbrev Df (scope:Scope) (L:Addr) (a:Str) (cell:Addr) (qual:Str) (lam c':Addr):Env:=newEnv scope L mainGlobals [(a,cell)] (qual ++ ".<locals>.") (some lam) (.ref c') none builtinsNs
def EM (P:Program) (w:World) (K:PySem.W.Frag) (mg:Str->Option Value) (base:Heap) (scope:Scope) (a x:Str) (cell:Addr) (qual:Str) (lam c':Addr) (A:Around) (outer:List Env) (s:Shared) (H:Hp):Cx where
 prog:=P
 w:=w
 K:=K
 mg:=mg
 base:=base
 A:=A.deeper (Df scope s.heap.objs.size a cell qual lam c')
 N:=[x,a]
 s₀:=s
 H₀:=H
 env:=Df scope s.heap.objs.size a cell qual lam c'
 outer:=outer
 stack:=Df scope s.heap.objs.size a cell qual lam c'::outer
 ex:=[]
 calm:=true
 fn:=fun _=>false
 pn:=[]
 xe:=fun _ _=>False
def Bv (c':Addr) (qual:Str) (spB:V->Hp->VK->Prop):Sp:=fun vs H Q _=>match vs with
 | [v]=>H c'=some (CdO c' qual)/\spB v H Q
 | _=>False
theorem LO {c':Addr} {qual:Str} {spB:V->Hp->VK->Prop} (h:∀ v H Q Q',(∀ y H',Q y H'->Q' y H')->spB v H Q->spB v H Q'):AZ (Bv c' qual spB):=fun vs H Q Q' E k q=>by
 unfold Bv at *
 split at q
 ·exact ⟨q.1,h _ _ _ _ k q.2⟩
 ·exact q.elim
theorem JF {P:Program} {w:World} {K:PySem.W.Frag} {mg:Str->Option Value} {base:Heap} {k:Nat} {lam cell c':Addr} {qual a x:Str} {params:Arguments} {body:Expr} {scope:Scope} {pm ctv:Value} {spB:V->Hp->VK->Prop} {vA:V} {uA:Value}
 (hl:base.get? lam=some (kla_obj "<lambda>" qual params body scope [(a,cell)] pm c' ctv)) (hc:base.IsCell cell (some uA)) (rA:RelV vA uA)
 (hx:scope.names.lookup x=some .local) (ha:scope.names.lookup a=some .free) (hfr:∀ y,scope.names.lookup y=some .free->y=a) (hco:scope.isCoroutine=false) (hgen:scope.isGenerator=false) (hkind:scope.kind=.function)
 (hcell:∀ y∈scope.names,y.2≠.cell)
 (hbody:∀ (A:Around) (outer:List Env) (s:Shared) (H:Hp) (v:V) (Q:VK),Room k (A.deeper (Df scope s.heap.objs.size a cell qual lam c'))->spB v H Q ->
   ∃ te,PE (EM P w K mg base scope a x cell qual lam c' A outer s H) body te/\te [some v,some vA] H Q) :
 FnOk P w K mg base CX0 (k+1) lam (kla_fn "<lambda>" qual params body scope [(a,cell)] pm (.ref c') ctv) [x] (Bv c' qual spB):=by
 refine ⟨fun vs H Q E h=>by unfold Bv at h;split at h;rfl;exact h.elim,fun A outer s H args us vs Q E hr e0 hbd r hsp=>?_⟩
 match vs,hsp,r with
 | [v],⟨hcd,hq⟩,r =>
 obtain ⟨u,rfl,ru⟩:=Bj r
 have lim:s.heap.NoLimit:=e0.mod.nolimit.keeps fun b o e=>(e0.bs b o e).1
 obtain ⟨hcr,_⟩:=e0.hok _ _ hcd
 refine kla_callFunE hr.depth (e0.bs _ _ hl).1 rfl hco hgen rfl hcr (hbd _ _ _ _ ?_)
 refine wpAny_newFunctionEnv hcell (fun y hy=>by rw [List.mem_singleton.mp hy];exact hx) (fun h₁ hns hsb=>⟨lim.fresh _ hsb,?_⟩) hkind
 have hk₁:∀ b o,s.heap.get? b=some o->h₁.get? b=some o:=fun b o e=>hsb.extBut b o (Nat.ne_of_lt (Heap.lt_size e)) (Heap.get?_push_of_some _ e)
 refine kla_codeExpr ?_
 obtain ⟨te,ht,hte⟩:=hbody A outer s H v Q (hr.deeper _) hq
 have hcell1:h₁.IsCell cell (some uA):=by
  obtain ⟨o,e,d⟩:=hc
  exact ⟨o,hk₁ _ _ (e0.bs _ _ e).1,d⟩
 have hcH:H cell=none:=by
  obtain ⟨o,e,d⟩:=hc
  exact (e0.bs _ _ e).2
 have lk:∀ y c,List.lookup y [(a,cell)]=some c->y=a/\c=cell:=fun y c e=>by
  rw [List.lookup_cons] at e
  by_cases z:y=a
  ·subst z
   simp at e
   exact ⟨rfl,e.symm⟩
  ·rw [beq_eq_false_iff_ne.mpr z] at e
   cases e
 have noA:∀ b:Addr,b∉(EM P w K mg base scope a x cell qual lam c' A outer s H).ex:=fun b z=>absurd (show b∈([]:List Addr) from z) (by simp)
 have kindc:∀ y,scope.names.lookup y≠some .cell:=fun y z=>hcell _ (PySem.mem_of_lookup z) rfl
 have nax:a≠x:=fun z=>by rw [z,hx] at ha;cases ha
 have I:Inv (EM P w K mg base scope a x cell qual lam c' A outer s H) [] [some v,some vA] H { s with heap:=h₁,toks:=s.toks+[(x,u)].length }:=by
  refine ⟨⟨e0.mod,hkind,rfl,rfl,Nat.le_refl _,fun y z c h1 h2=>?_,fun y hy=>?_,fun y c hf _=>?_,fun _=>hr.hd,Around.frames_deeper e0.frames,.inr ⟨rfl,rfl⟩,fun b z=>absurd z (noA b),e0.bs,e0.bsz,fun b _ _=>noA b,fun b z=>absurd z (noA b),e0.funs,e0.frf⟩,
   rfl,e0.bare,Un.kept hk₁,⟨_,hns,fun i y z h1 h2 h3=>?_⟩,fun y c h=>?_,e0.hok.fresh (Nat.le_refl _),fun y c h=>?_,fun p hp=>absurd (show p∈([]:List (Addr × Obj)) from hp) (by simp),e0.hok.kept hk₁,rfl⟩
  ·exact (lk _ _ h1).1.trans (lk _ _ h2).1.symm
  ·have hy:scope.names.lookup y=some .cell\/scope.names.lookup y=some .free:=hy
   rcases hy with hy | hy
   ·exact absurd hy (kindc y)
   ·rw [hfr y hy]
    exact ⟨cell,by show List.lookup a [(a,cell)]=_;simp⟩
  ·cases hf
  ·match i,h1,h2 with
   | 0,h1,h2 =>
    cases h1;cases h2
    exact ⟨u,ru,.inl ⟨hx,by simp⟩⟩
   | 1,h1,h2 =>
    cases h1;cases h2
    exact ⟨uA,rA,.inr ⟨.inr ha,cell,by show List.lookup a [(a,cell)]=_;simp,hcell1⟩⟩
   | n+2,h1,h2=>cases h2
  ·obtain ⟨_,rfl⟩:=lk y c h
   exact ⟨_,hcell1⟩
  ·obtain ⟨_,rfl⟩:=lk y c h
   exact hcH
 refine wpAny_mono (ht [] _ _ _ _ I hte) (fun u' s' hs=>?_) fun e s' hs=>False.elim hs
 obtain ⟨v',H',J,rv,q⟩:=hs
 exact ⟨v',H',J.os,J.bare,J.base,J.hok,rv,q⟩
end L2
namespace L2
open PySem PyProof.Rows
def De (K:PySem.W.Frag):V->List V->Hp->VK->Prop:=fun x vs H Q=>match x,vs with
 | .ref l,[.ref b]=>∃ xs ys,H l=some (.lst xs)/\SqT K H b ys/\xs.length+ys.length<=100000/\Q .non (upd H l (.lst (xs++ys)))
 | _,_=>False
section
variable {X:Cx} {K:PySem.W.Frag} {o e:Expr} {to:TE} {t:TA} {apos cpos:Pos}
theorem Iy:MtR X "list.extend" (De X.K):=by
 intro pins s σ H x vs v us Q I rx rv q
 match x,vs,q with
 | .ref l,[.ref b],⟨xs,ys,hH,hb,h3,q⟩ =>
 cases rx
 obtain ⟨u,rfl,ru⟩:=Bj rv
 cases ru
 obtain ⟨z,its,n,r,hl,e⟩:=I.lstM hH
 obtain ⟨its2,r2,⟨o2,e2,c2,n2,d2⟩,hz2⟩:=I.tuple hb
 have l1:=r.length
 have l2:=r2.length
 have hlb:l≠b:=fun q=>by
  rw [q,e2] at e
  cases e
  exact absurd c2 (by simp)
 refine wpAny_call_entry F.slot_list_extend ⟨_,e,rfl⟩ F.entry_list_extend ?_ (F.args_list_extend_2 _ _)
 show wpAny _ _ (Builtin.List.listExtendWith (.ref l) (.ref b) .none) _ _ s
 unfold Builtin.List.listExtendWith
 refine wpAny_bind (wpAny_typeOf (T:="tuple") ⟨o2,e2,c2⟩ ?_)
 have h1:Builtin.List.listSameRef (.ref l) (.ref b)=false:=by simp [Builtin.List.listSameRef,hlb]
 have h2:(Value.type "tuple" == Value.type "list")=false:=by decide
 have h3':(Value.type "tuple" == Value.type "tuple")=true:=by decide
 simp only [h1,h2,h3',Bool.or_true,if_true]
 refine wpAny_bind (listItems_at e2 d2 (wpAny_bind (listItems_at e rfl ?_)))
 rw [if_neg (by
  rw [Bool.and_eq_true]
  rintro ⟨_,q⟩
  unfold Builtin.List.listTooLong at q
  simp [sizeLine_eq] at q
  omega)]
 refine wpAny_bind (listUpdate_at e rfl ?_ (by rw [List.size_toArray,sizeLine_eq];omega) (by rw [Array.size_append,List.size_toArray,List.size_toArray,sizeLine_eq];omega))
 refine wpAny_pure ⟨_,rfl,?_⟩
 exact ⟨.non,_,I.lset (its':=its++its2) hH e (by simp) (r.append r2) (by rw [List.length_append,sizeLine_eq];omega),rfl,q⟩
theorem K4 (ho:PE X o to) (ha:PA X [e] t) (hbase:attributeBase o "extend" X.env (eval o X.env)=eval o X.env:=by rfl)
 (hfew:((backTo cpos (starEach [e] X.env)).all (fun x=>!x.1) && (backToKw cpos (keywordEach [] X.env)).all (fun x=>x.1.isSome)
   && decide ([e].length+([]:List Keyword).length+(if ([]:List Keyword).isEmpty then 0 else 1) < 30))=true:=by rfl)
 (hline:(apos.endLine == cpos.line)=true:=by rfl) (hs:starEach [e] X.env=(false,eval e X.env)::starEach [] X.env:=by rfl) (hplain:(backTo cpos (starEach [] X.env)).any (·.1)=false:=by rfl) (hK:X.K=K:=by rfl) :
 PE X (.Call (.Attribute o "extend" apos) [e] [] cpos) (tBM K "list" (De K) to t):=hK ▸ Li PySem.F.plainAttrs_list PySem.F.slot_list_extend PySem.F.type_list_extend Iy ho ha hbase hfew hline hs hplain
theorem KC:Hb (De K):=fun x xs H Q Q' h q=>by
 unfold De at *
 split at q
 ·obtain ⟨a,b,c,d,e,q⟩:=q;exact ⟨a,b,c,d,e,h _ _ q⟩
 ·exact q.elim
end
end L2
namespace L2
open PySem PySem.Spec PyProof.Rows PySem.SeqAt
section
variable {X:Cx} {K:PySem.W.Frag}
end
end L2
namespace L2
open PySem PySem.Spec PyProof.Rows
section
variable {X:Cx} {K:PySem.W.Frag}
end
section
variable {X:Cx} {K:PySem.W.Frag} {e:Expr} {te:TE} {p pos kpos cp:Pos} {kd:Nat} {i:Int}
end
end L2
namespace L2
open PySem PyProof.Rows
section
variable {X:Cx} {K:PySem.W.Frag} {o e:Expr} {to:TE} {t:TA} {apos cpos:Pos}
end
end L2
namespace L2
open PySem PySem.Spec PyProof.Rows
section
variable {X:Cx} {K:PySem.W.Frag} {e:Expr} {te:TE} {lo hi:Option Expr} {tl th:TO} {pos p2:Pos}
end
end L2
namespace L2
open PySem
def C4 (P:Program) (w:World) (K:PySem.W.Frag) (a:Addr) (kvs:List (Key × V)):Prop :=
 (a == sysModules)=false/\∃ vs,KV kvs vs/\∃ o,K.lookup a=some o/\o.IsDictOf (An P w) vs
section
variable {X:Cx} {pins:List (Addr × Obj)} {σ:St} {H:Hp} {s:Shared} {a:Addr}
theorem G5 {kvs:List (Key × V)} (I:Inv X pins σ H s) (h:C4 X.prog X.w X.K a kvs):(a == sysModules)=false/\∃ vs,KV kvs vs/\s.heap.DictOf (An X.prog X.w) a vs:=by
 obtain ⟨h1,vs,h2,o,h3,h4⟩:=h
 exact ⟨h1,vs,h2,Heap.dictOf_iff.mpr ⟨o,I.kIn _ _ h3,h4⟩⟩
def tKD (kvs:List (Key × V)) (ty:TE):TE:=fun σ H Q=>ty σ H fun y H2=>∃ k v,y=kV k/\AW kvs k=some v/\Q v H2
def mKD (kvs:List (Key × V)) (neg:Bool) (a:Addr):R2:=fun y x H Q=>match x with
 | .ref b=>b=a/\∃ k,y=kV k/\Q (.bl (xor neg (AW kvs k).isSome)) H
 | _=>False
variable {kvs:List (Key × V)} {i:Expr} {pos pos' apos:Pos} {ty:TE} {x:Str} {P:Program} {w:World} {K:PySem.W.Frag} {o:Expr} {td:TE}
theorem KI (hd:C4 P w K a kvs) (ho:PE X o (tC (.ref a))) (hi:PE X i ty) (hs:EG i:=by intro _ _;rfl) (hP:X.prog=P:=by rfl) (hw:X.w=w:=by rfl) (hK:X.K=K:=by rfl):PE X (.Subscript o i pos) (tKD kvs ty):=by
 subst hP hw hK
 intro pins s σ H Q I h
 refine Fl PySem.F.slot_dict_getitem.lookup hs (thn (ho pins s σ H (fun y H1=>y=.ref a/\ty σ H1 fun y H2=>∃ k v,y=kV k/\AW kvs k=some v/\Q v H2) I ⟨rfl,h⟩) fun u s1 ⟨x,H1,I1,rx,ex,q1⟩=>thn (hi pins s1 σ H1 _ I1 q1) fun iv s2 ⟨y,H2,I2,ry,k,v,ey,l,q2⟩=>?_)
 subst ex ey
 obtain rfl:u=Value.ref a:=rx
 obtain ⟨_,vs,rel,dd⟩:=G5 I2 hd
 obtain ⟨w',hw,rw'⟩:=RelO.some_of (v:=v) (o:=valueAt vs k) (by rw [<- l];exact rel.val k)
 exact ⟨dd.typeIs,wpAny_getItem_of (Ah ry) dd.mapOf hw ⟨v,H2,I2.tok _,rw',q2⟩⟩
theorem LB (hd:C4 P w K a kvs) (hP:X.prog=P:=by rfl) (hw:X.w=w:=by rfl) (hK:X.K=K:=by rfl):OpR X (compareOp .In) (mKD kvs false a):=by
 subst hP hw hK
 intro pins s σ H y x v u Q I ry rx q
 match x,q with
 | .ref b,⟨e,k,ey,q2⟩ =>
 subst e ey
 obtain rfl:u=Value.ref b:=rx
 obtain ⟨hs,vs,rel,dd⟩:=G5 I hd
 refine wpAny_in_of (Ah ry) hs dd.mapOf ?_
 rw [<- (rel.val k).isSome_eq]
 exact ⟨.bl (AW kvs k).isSome,H,I.tok _,rfl,by cases hh:(AW kvs k).isSome <;> rw [hh] at q2 <;> exact q2⟩
theorem JV {es:List DictEntry} {ep:Nat} {vs:List (Key × Value)} (hl:K.lookup a=some ⟨.type "dict",none,.dict es.toArray ep,#[]⟩) (ha:(a == sysModules)=false) (rel:KV kvs vs)
 (hk:∀ e∈es,∃ k,(An P w).is k e.key=true/\e.hash=(An P w).hash k) (hp:Pairs (An P w) es vs) (hn:(vs.map (·.1)).Nodup):C4 P w K a kvs :=
 ⟨ha,vs,rel,_,hl,es.toArray,ep,⟨rfl,rfl,rfl⟩,rfl,fun e he=>hk e (by simpa using he),by simpa using hp,hn⟩
end
end L2
namespace L2
open PySem Builtin Builtin.Str
section
variable {X:Cx} {a:Addr} {kvs:List (Key × V)} {o e:Expr} {ty to:TE} {t:TA} {apos cpos:Pos} {P:Program} {w:World} {K:PySem.W.Frag}
end
end L2
namespace Mine
open PySem L2
def top (i:Nat):Stmt:=PySem.Challenge.pw_flips_k04_formulas_by_kind.main.body.getD i (.Pass ⟨0,0,0,0⟩)
abbrev CO:Stmt:=top 1
abbrev Cp:Stmt:=top 3
abbrev CZ:Stmt:=top 4
abbrev Cq:Stmt:=top 9
abbrev Cn:Stmt:=top 10
abbrev Ck:Stmt:=top 11
abbrev Bg:Stmt:=top 12
abbrev CV:Stmt:=top 14
abbrev Cb:Stmt:=top 15
abbrev Co:Stmt:=top 16
abbrev CN:Stmt:=top 17
abbrev CU:Stmt:=top 18
abbrev Cj:Stmt:=top 19
abbrev Cg:Stmt:=top 20
abbrev Bd:Stmt:=top 21
local macro_rules | `(tactic| walk_at "f")=>`(tactic| exact ⟨rfl,rfl,rfl,by decide +kernel,rfl,by decide +kernel,by decide +kernel⟩)
theorem sc_z20:FnScope ["has_form","parts_within","is_beyond","thing","level","depth","many","below","part"] ["has_form","parts_within","is_beyond","thing"] (AM CO):=by walk_at "f"
theorem IJ:FnScope ["thing"] ["thing"] (AM Cp):=by walk_at "f"
theorem Jd:FnScope ["bound","thing"] ["bound","thing"] (AM CZ):=by walk_at "f"
theorem LN:FnScope ["many","depth"] ["many","depth"] (AM Cq):=by walk_at "f"
theorem Ja:FnScope ["n","thing"] ["n","thing"] (AM Cn):=by walk_at "f"
theorem Ht:FnScope ["formula"] ["formula"] (AM Ck):=by walk_at "f"
theorem Hy:FnScope ["n","thing"] ["n","thing"] (AM Bg):=by walk_at "f"
theorem MP:FnScope ["_law_script"] ["_law_script"] (AM CV):=by walk_at "f"
theorem sc_z15:FnScope ["_law_tape_here","_law_many","_law_script","_law_digit","_law_cell","_law_seed"] ["_law_tape_here","_law_many"] (AM Cb):=by walk_at "f"
theorem sc_z18:FnScope ["_law_tape_here","_law_some"] ["_law_tape_here"] (AM Co):=by walk_at "f"
theorem sc_z11:FnScope ["_law_tape_here","_law_n","_law_room","_law_deep","_law_way","_law_first","_law_second","_law_rooms","_law_one","_law_other"] ["_law_tape_here","_law_n","_law_room","_law_deep"] (AM CN):=by walk_at "f"
theorem sc_z9:FnScope ["_law_n","_law_thing","_law_deep","_law_counts","_law_good","_law_inner"] ["_law_n","_law_thing","_law_deep"] (AM CU):=by walk_at "f"
theorem sc_z16:FnScope ["_law_tape_here","_law_n","_law_formula_here","_law_at","_law_way","_law_some"] ["_law_tape_here","_law_n","_law_formula_here"] (AM Cj):=by walk_at "f"
theorem sc_z14:FnScope ["_law_tape_here","_law_n","_law_found","_law_many","_law_k","_law_row"] ["_law_tape_here","_law_n"] (AM Cg):=by walk_at "f"
theorem sc_law:FnScope ["_law_script","_law_tape_here","_law_turn","_law_n","_law_formula_here","_law_bent_here","_law_more","_law_thing","_law_found"] ["_law_script"] (AM Bd):=by walk_at "f"
def BK:Str:=PySem.Str.ofString "is_formula" ++ PySem.Str.ofString ".<locals>." ++ PySem.Str.ofString "<lambda>"
def Ct:Pos:=⟨38,20,38,50⟩
set_option genInjectivity false
set_option genSizeOf false
structure Txt (w:World) (K:W.Frag) (mg:Str->Option Value) where
 f_z20:Addr
 d_z20:FuncData
 F_z20:Fun K "keeps_to" "keeps_to" CO f_z20 d_z20
 b_z20:Binds K d_z20 ["has_form","parts_within","is_beyond","thing"] []
 m_z20:mg "keeps_to" = some (.ref f_z20)
 f_z21:Addr
 d_z21:FuncData
 F_z21:Fun K "is_whole" "is_whole" Cp f_z21 d_z21
 b_z21:Binds K d_z21 ["thing"] []
 m_z21:mg "is_whole" = some (.ref f_z21)
 f_z17:Addr
 d_z17:FuncData
 F_z17:Fun K "is_below" "is_below" CZ f_z17 d_z17
 b_z17:Binds K d_z17 ["bound","thing"] []
 m_z17:mg "is_below" = some (.ref f_z17)
 f_z10:Addr
 d_z10:FuncData
 F_z10:Fun K "is_too_large" "is_too_large" Cq f_z10 d_z10
 b_z10:Binds K d_z10 ["many","depth"] []
 m_z10:mg "is_too_large" = some (.ref f_z10)
 f_z19:Addr
 d_z19:FuncData
 F_z19:Fun K "has_form" "has_form" Cn f_z19 d_z19
 b_z19:Binds K d_z19 ["n","thing"] []
 m_z19:mg "has_form" = some (.ref f_z19)
 f_z0:Addr
 d_z0:FuncData
 F_z0:Fun K "formulas_within" "formulas_within" Ck f_z0 d_z0
 b_z0:Binds K d_z0 ["formula"] []
 m_z0:mg "formulas_within" = some (.ref f_z0)
 f_z12:Addr
 d_z12:FuncData
 F_z12:Fun K "is_formula" "is_formula" Bg f_z12 d_z12
 b_z12:Binds K d_z12 ["n","thing"] []
 m_z12:mg "is_formula" = some (.ref f_z12)
 f_z13:Addr
 d_z13:FuncData
 F_z13:Fun K "_law_tape" "_law_tape" CV f_z13 d_z13
 b_z13:Binds K d_z13 ["_law_script"] []
 m_z13:mg "_law_tape" = some (.ref f_z13)
 f_z15:Addr
 d_z15:FuncData
 F_z15:Fun K "_law_next" "_law_next" Cb f_z15 d_z15
 b_z15:Binds K d_z15 ["_law_tape_here","_law_many"] []
 m_z15:mg "_law_next" = some (.ref f_z15)
 f_z18:Addr
 d_z18:FuncData
 F_z18:Fun K "_law_odd" "_law_odd" Co f_z18 d_z18
 b_z18:Binds K d_z18 ["_law_tape_here"] []
 m_z18:mg "_law_odd" = some (.ref f_z18)
 f_z11:Addr
 d_z11:FuncData
 F_z11:Fun K "_law_formula" "_law_formula" CN f_z11 d_z11
 b_z11:Binds K d_z11 ["_law_tape_here","_law_n","_law_room","_law_deep"] []
 m_z11:mg "_law_formula" = some (.ref f_z11)
 f_z9:Addr
 d_z9:FuncData
 F_z9:Fun K "_law_is_formula" "_law_is_formula" CU f_z9 d_z9
 b_z9:Binds K d_z9 ["_law_n","_law_thing","_law_deep"] []
 m_z9:mg "_law_is_formula" = some (.ref f_z9)
 f_z16:Addr
 d_z16:FuncData
 F_z16:Fun K "_law_bent" "_law_bent" Cj f_z16 d_z16
 b_z16:Binds K d_z16 ["_law_tape_here","_law_n","_law_formula_here"] []
 m_z16:mg "_law_bent" = some (.ref f_z16)
 f_z14:Addr
 d_z14:FuncData
 F_z14:Fun K "_law_long" "_law_long" Cg f_z14 d_z14
 b_z14:Binds K d_z14 ["_law_tape_here","_law_n"] []
 m_z14:mg "_law_long" = some (.ref f_z14)
 f_law:Addr
 d_law:FuncData
 F_law:Fun K "law" "law" Bd f_law d_law
 b_law:Binds K d_law ["_law_script"] []
 m_law:mg "law" = some (.ref f_law)
 g_z12:Addr
 p_z12:Addr
 gc_z12:d_z12.code=.ref g_z12
 gh_z12:W.codeHdIn K g_z12 p_z12=true
 z_bool:mg "bool" = none
 z_int:mg "int" = none
 z_isinstance:mg "isinstance" = none
 z_len:mg "len" = none
 z_list:mg "list" = none
 z_max:mg "max" = none
 z_range:mg "range" = none
 z_str:mg "str" = none
 z_sum:mg "sum" = none
 z_tuple:mg "tuple" = none
 a_PARTS:Addr
 c_PARTS:mg "PARTS" = some (.ref a_PARTS)
 q_PARTS:∀ P:Program,C4 P w K a_PARTS [(Sum.inr "yes",.int 0),(Sum.inr "no",.int 0),(Sum.inr "at",.int 0),(Sum.inr "not",.int 1),(Sum.inr "both",.int 2),(Sum.inr "either",.int 2),(Sum.inr "odd",.int 2),(Sum.inr "most",.int 3)]
 t_MOST_FORMULAS:Tok
 c_MOST_FORMULAS:mg "MOST_FORMULAS" = some (.int 20 t_MOST_FORMULAS)
 t_MOST_WITHIN:Tok
 c_MOST_WITHIN:mg "MOST_WITHIN" = some (.int 8 t_MOST_WITHIN)
set_option genInjectivity true
set_option genSizeOf true
section
variable {P:Program} {w:World} {K:W.Frag} {mg:Str->Option Value} {base:Heap} (T:Txt w K mg)
local macro_rules | `(tactic| walk_at "sm")=>`(tactic| repeat' with_reducible first | exact JY | apply JN | apply J1 | apply KN | apply IG | apply KG | apply Kw | apply Iw | exact LI | exact LG | apply Ie | apply IW | apply Is | apply K7 | apply Hx | apply Ln | apply KA | exact Ic | exact LP | exact Kd | exact IC | exact IY | exact Jn | exact Ir | exact MX | exact KY | apply Lk | apply KQ | apply Iq | apply IU | exact J8 | apply JL | exact Io | exact JX | exact LM | apply Kv | apply Im | apply IS | exact IV | exact KM | exact Kx | apply Kq | exact Ki | apply JO | apply Jp | exact KC | apply IA | apply MU | exact Ku | apply Jo | assumption)
theorem vw {X:Cx} (i:Nat) {x:Str} {pos:Pos} (h:X.N[i]? = some x/\Vis X.env.scope x/\(x == ("__debug__" : Str))=false/\(x == ("__classdict__" : Str))=false):PE X (.Name x pos) (DA i):=vv i h.1 h.2.1 h.2.2.1 h.2.2.2
theorem pa1 {X:Cx} {e:PySem.Expr} {te:TE} (ha:PE X e te) (hs:starEach [e] X.env=[(false,eval e X.env)]):PA X [e] (Em te EN):=AB ha Bs hs
local macro_rules | `(tactic| left)=>`(tactic| exact ⟨by rfl,by first | exact Or.inl rfl | exact Or.inr (Or.inl rfl) | exact Or.inr (Or.inr rfl),by decide,by decide⟩)
local macro_rules | `(tactic| walk_at "m")=>`(tactic| with_reducible first | refine Exists.imp fun _=>?_ | refine And.imp_right ?_ | refine forall_imp fun _=>?_)
local macro_rules | `(tactic| walk_at "o")=>`(tactic| first | exact Or.inl rfl | exact Or.inr (Or.inl rfl) | exact Or.inr (Or.inr rfl))
local macro_rules | `(tactic| symm)=>`(tactic| first | exact .inl rfl | exact .inr rfl | assumption)
local macro_rules | `(tactic| right)=>`(tactic| first | exact Or.inl rfl | exact Or.inr rfl)
local macro_rules | `(tactic| exfalso)=>`(tactic| first | exact Dz _ (by decide) (by decide) | rfl)
theorem Jb:FnOk P w K mg base CX0 1 T.f_z13 T.d_z13 ["_law_script"] (E6 K):=by
 refine T.F_z13.ok MP (fun vs H Q E h=>by unfold E6 at h;split at h <;> first | rfl | exact h.elim) (fun cdv A outer s H vs Q E hr h=>?_)
 unfold E6 at h
 split at h
 rotate_left
 ·exact h.elim
 rename_i a
 have k:=h
 refine ⟨_,(@AL _ _ _ (@AR _ _ _ _ (@Az _ _ _ _ (@AB _ _ _ _ _ (@vw _ 0 _ _ (by left)) (@AB _ _ _ _ _ (@AA _ _ _ _) (@AB _ _ _ _ _ (@AA _ _ _ _) (@pa1 _ _ _ (@AA _ _ _ _) (by rfl)) (by rfl)) (by rfl)) (by rfl))))),?_⟩
 exact ⟨by show 4<=sizeLine;rw [sizeLine_eq];decide,k⟩
theorem C2:FnOk P w K mg base CX0 1 T.f_z15 T.d_z15 ["_law_tape_here","_law_many"] (C6 K):=by
 refine T.F_z15.ok sc_z15 (fun vs H Q E h=>by unfold C6 at h;split at h <;> first | rfl | exact h.elim) (fun cdv A outer s H vs Q E hr h=>?_)
 have hu:=A1 hr
 unfold C6 at h
 split at h
 rotate_left
 ·exact h.elim
 rename_i t m
 obtain ⟨a,ns,TP,hm,k⟩:=h
 obtain ⟨⟨i,r,c,hi,hr0,ht⟩,hscr⟩:=id TP
 refine ⟨_,(@AF _ _ _ _ _ (@AT _ _ 2 _ _ _ _ sc_z15.nd rfl (by right) (@kIx _ K _ _ _ _ _ (@vw _ 0 _ _ (by left)) (@AA _ _ _ _) (by intro _ _;rfl) (by rfl)) (by rfl) (by symm)) (@AF _ _ _ _ _ (@DO _ _ _ _ _ _ (@AE _ _ _ _ _ _ _ _ (Aj (K:=K)) (@kIx _ K _ _ _ _ _ (@vw _ 0 _ _ (by left)) (@AA _ _ _ _) (by intro _ _;rfl) (by rfl)) (@AA _ _ _ _)) (@DT _ _ _ _ _ _ _ (@vw _ 0 _ _ (by left)) (@AA _ _ _ _) Do (by intro _;rfl)) (by rfl) (by rfl) (by rfl)) (@AF _ _ _ _ _ (@Ag _ _ _ _ _ _ _ _ (PW.pt (@DK _ _ _ _ _ _ _ (@AS _ _ _ _ _ _ _ _ (kEq (K:=K) hu) (@kIx _ K _ _ _ _ _ (@vw _ 0 _ _ (by left)) (@AA _ _ _ _) (by intro _ _;rfl) (by rfl)) (@AA _ _ _ _) (by exfalso)) (@Dt _ _ _ _ (@AS _ _ _ _ _ _ _ _ Bc (@kIx _ K _ _ _ _ _ (@vw _ 0 _ _ (by left)) (@AA _ _ _ _) (by intro _ _;rfl) (by rfl)) (@AX _ _ _ _ _ _ _ _ _ (BB (K:=K)) rfl T.z_len (by rfl) (@pa1 _ _ _ (@vw _ 2 _ _ (by left)) (by rfl)) (by decide) (by decide) (by rfl) (by rfl)) (by exfalso))))) (@AF _ _ _ _ _ (@DO _ _ _ _ _ _ (@AX _ _ _ _ _ _ _ _ _ (Ib rfl) rfl T.z_max (by rfl) (@AB _ _ _ _ _ (@AA _ _ _ _) (@pa1 _ _ _ (@AE _ _ _ _ _ _ _ _ El (@kIx _ K _ _ _ _ _ (@vw _ 2 _ _ (by left)) (@kIx _ K _ _ _ _ _ (@vw _ 0 _ _ (by left)) (@AA _ _ _ _) (by intro _ _;rfl) (by rfl)) (by intro _ _;rfl) (by rfl)) (@AE _ _ _ _ _ _ _ _ D4 (@AA _ _ _ _) (@AA _ _ _ _))) (by rfl)) (by rfl)) (by decide) (by decide) (by rfl) (by rfl)) (@DT _ _ _ _ _ _ _ (@vw _ 0 _ _ (by left)) (@AA _ _ _ _) Do (by intro _;rfl)) (by rfl) (by rfl) (by rfl)) (@AL _ _ _ (@DO _ _ _ _ _ _ (@AE _ _ _ _ _ _ _ _ (Aj (K:=K)) (@kIx _ K _ _ _ _ _ (@vw _ 0 _ _ (by left)) (@AA _ _ _ _) (by intro _ _;rfl) (by rfl)) (@AA _ _ _ _)) (@DT _ _ _ _ _ _ _ (@vw _ 0 _ _ (by left)) (@AA _ _ _ _) Do (by intro _;rfl)) (by rfl) (by rfl) (by rfl)))) (@Ae _)) (@AF _ _ _ _ _ (@Ag _ _ _ _ _ _ _ _ (@AS _ _ _ _ _ _ _ _ BR (@kIx _ K _ _ _ _ _ (@vw _ 0 _ _ (by left)) (@AA _ _ _ _) (by intro _ _;rfl) (by rfl)) (@AA _ _ _ _) (by exfalso)) (@AF _ _ _ _ _ (@AT _ _ 3 _ _ _ _ sc_z15.nd rfl (by right) (@AE _ _ _ _ _ _ _ _ Bb (@kIx _ K _ _ _ _ _ (@vw _ 0 _ _ (by left)) (@AA _ _ _ _) (by intro _ _;rfl) (by rfl)) (@vw _ 1 _ _ (by left))) (by rfl) (by symm)) (@AF _ _ _ _ _ (@DO _ _ _ _ _ _ (@AE _ _ _ _ _ _ _ _ El (@kIx _ K _ _ _ _ _ (@vw _ 0 _ _ (by left)) (@AA _ _ _ _) (by intro _ _;rfl) (by rfl)) (@vw _ 1 _ _ (by left))) (@DT _ _ _ _ _ _ _ (@vw _ 0 _ _ (by left)) (@AA _ _ _ _) Do (by intro _;rfl)) (by rfl) (by rfl) (by rfl)) (@AL _ _ _ (@AR _ _ _ _ (@vw _ 3 _ _ (by left)))))) (@Ae _)) (@AF _ _ _ _ _ (@AT _ _ 4 _ _ _ _ sc_z15.nd rfl (by right) (@DM _ _ _ _ _ _ _ _ (@AS _ _ _ _ _ _ _ _ BR (@AX _ _ _ _ _ _ _ _ _ (BB (K:=K)) rfl T.z_len (by rfl) (@pa1 _ _ _ (@vw _ 2 _ _ (by left)) (by rfl)) (by decide) (by decide) (by rfl) (by rfl)) (@AA _ _ _ _) (by exfalso)) (@kIx _ K _ _ _ _ _ (@vw _ 2 _ _ (by left)) (@AE _ _ _ _ _ _ _ _ Bb (@kIx _ K _ _ _ _ _ (@vw _ 0 _ _ (by left)) (@AA _ _ _ _) (by intro _ _;rfl) (by rfl)) (@AX _ _ _ _ _ _ _ _ _ (BB (K:=K)) rfl T.z_len (by rfl) (@pa1 _ _ _ (@vw _ 2 _ _ (by left)) (by rfl)) (by decide) (by decide) (by rfl) (by rfl))) (by intro _ _;rfl) (by rfl)) (@AA _ _ _ _)) (by rfl) (by symm)) (@AF _ _ _ _ _ (@AT _ _ 5 _ _ _ _ sc_z15.nd rfl (by right) (@AE _ _ _ _ _ _ _ _ Bb (@AE _ _ _ _ _ _ _ _ Dk (@AE _ _ _ _ _ _ _ _ (Aj (K:=K)) (@AE _ _ _ _ _ _ _ _ (Aj (K:=K)) (@AE _ _ _ _ _ _ _ _ Bb (@vw _ 4 _ _ (by left)) (@AA _ _ _ _)) (@AE _ _ _ _ _ _ _ _ Dk (@AA _ _ _ _) (@kIx _ K _ _ _ _ _ (@vw _ 0 _ _ (by left)) (@AA _ _ _ _) (by intro _ _;rfl) (by rfl)))) (@AA _ _ _ _)) (@AA _ _ _ _)) (@AA _ _ _ _)) (by rfl) (by symm)) (@AL _ _ _ (@AR _ _ _ _ (@AE _ _ _ _ _ _ _ _ Bb (@AE _ _ _ _ _ _ _ _ Bb (@AE _ _ _ _ _ _ _ _ Dk (@AE _ _ _ _ _ _ _ _ Bb (@AE _ _ _ _ _ _ _ _ (Aj (K:=K)) (@AE _ _ _ _ _ _ _ _ Dk (@vw _ 5 _ _ (by left)) (@AA _ _ _ _)) (@kIx _ K _ _ _ _ _ (@vw _ 0 _ _ (by left)) (@AA _ _ _ _) (by intro _ _;rfl) (by rfl))) (@AA _ _ _ _)) (@AA _ _ _ _)) (@AA _ _ _ _)) (@vw _ 1 _ _ (by left))))))))))),?_⟩
 -- script=tape[0];tape[3]=tape[3]+1
 refine ⟨_,_,.inl (.of ht),rfl,_,_,.inl (.of ht),rfl,_,_,ht,rfl,?_⟩
 have sc0:∀ {H1:Hp},(∀ b,b≠t->H1 b=H b)->ScrAt K H1 t a ns:=fun h=>hscr.stay fun o n e=>by rw [h a n];exact e
 have sc1:∀ {H1:Hp},(∀ b,b≠t->H1 b=H b)->SqL K H1 a (ns.map V.int):=fun h=>(sc0 h).sq
 have f1:∀ {o:HO} {H1:Hp},(∀ b,b≠t->H1 b=H b)->∀ b,b≠t->upd H1 t o b=H b:=fun h b n=>by rw [AJ n];exact h b n
 dsimp only
 refine BI (fun σ' H1=>σ'=[some (.ref t),some (.int m),some (.ref a),none,none,none]/\(∀ b,b≠t->H1 b=H b)/\∃ i r c:Int,0<=i/\0<=r/\H1 t=some (.lst [.ref a,.int i,.int r,.int c])) ?_ ?_ (by walk_at "sm")
 ·-- the next number of the script,where the last one is used up
  have h1:∀ {o:HO} (b:Addr),b≠t->upd H t o b=H b:=fun b n=>AJ n
  refine ⟨_,_,.inl (.of AC),rfl,?_⟩
  refine AN (fun e=>?_) (fun e=>?_)
  ·refine ⟨_,_,.inl (.of AC),rfl,ns.length,.inl ⟨_,sc1 h1,by rw [List.length_map]⟩,?_⟩
   refine AN (fun e=>?_) (fun e=>?_)
   ·have hlt:i < ns.length:=of_decide_eq_true e
    obtain ⟨z,hz⟩:=Gz hi hlt
    refine ⟨_,_,.inl (.of AC),rfl,_,_,.inl (sc1 h1),hz,⟨by decide,by decide,by decide⟩,⟨by decide,by decide⟩,?_⟩
    refine ⟨_,_,AC,rfl,_,_,.inl (.of AC),rfl,_,_,AC,rfl,rfl,?_,i+1,max 0 (z / 10 ^ 18),c+1,by omega,by omega,AC⟩
    exact f1 (f1 h1)
   ·exact ⟨rfl,h1,i,r,c+1,hi,hr0,AC⟩
  ·exact ⟨rfl,h1,i,r,c+1,hi,hr0,AC⟩
 rintro σ' H1 ⟨rfl,h1,i,r,c,hi,hr0,ht⟩
 have T1:∀ {H2:Hp} {i r c:Int},(∀ b,b≠t->H2 b=H b)->0<=i->0<=r->H2 t=some (.lst [.ref a,.int i,.int r,.int c])->Tape K H2 t a ns:=fun h h1 h2 h3=>⟨⟨_,_,_,h1,h2,h3⟩,sc0 h⟩
 -- a digit of it
 refine ⟨_,_,.inl (.of ht),rfl,?_⟩
 have hm0:0 < m:=hm.1
 refine AN (fun e=>?_) (fun e=>?_)
 ·refine ⟨_,_,.inl (.of ht),rfl,hm0,_,_,.inl (.of ht),rfl,hm,_,_,ht,rfl,?_⟩
  exact k _ _ (Int.emod_nonneg _ (by omega)) (Int.emod_lt_of_pos _ hm0) (T1 (f1 h1) hi (Int.ediv_nonneg hr0 (by omega)) AC) (f1 h1)
 -- else a number made of the cell
 dsimp only [BA]
 refine BI (fun σ' H2=>H2=H1/\∃ z:Int,σ'=[some (.ref t),some (.int m),some (.ref a),none,some (.int z),none]) ?_ ?_ (by walk_at "sm")
 ·refine ⟨ns.length,.inl ⟨_,sc1 h1,by rw [List.length_map]⟩,?_⟩
  refine AN (fun e=>?_) (fun e=>?_)
  ·have hlt:(0:Int) < ns.length:=of_decide_eq_true e
   obtain ⟨z,hz⟩:=Gz (ns:=ns) (Int.emod_nonneg c (show (ns.length:Int)≠0 by omega)) (Int.emod_lt_of_pos c hlt)
   exact ⟨_,_,.inl (.of ht),rfl,ns.length,.inl ⟨_,sc1 h1,by rw [List.length_map]⟩,hlt,_,_,.inl (sc1 h1),hz,rfl,z,rfl⟩
  ·exact ⟨rfl,0,rfl⟩
 rintro σ' H2 ⟨rfl,z,rfl⟩
 refine ⟨by decide,_,_,.inl (.of ht),rfl,.inr (.inl ⟨by decide,by decide⟩),.inr (.inr ⟨by decide,by decide⟩),by decide,?_⟩
 refine ⟨.inr (.inr ⟨by decide,by decide⟩),_,_,.inl (.of ht),rfl,by decide,.inr (.inr ⟨by decide,by decide⟩),by decide,hm0,?_⟩
 exact k _ _ (Int.emod_nonneg _ (by omega)) (Int.emod_lt_of_pos _ hm0) (T1 h1 hi hr0 ht) h1
inductive Fm where
 | yes | no | at_ (i:Nat) | not_ (a:Fm) | both (a b:Fm) | either (a b:Fm) | odd (a b:Fm) | most (a b c:Fm)
def Fm.word:Fm->Str
 | .yes=>"yes" | .no=>"no" | .at_ _=>"at" | .not_ _=>"not" | .both _ _=>"both" | .either _ _=>"either" | .odd _ _=>"odd" | .most _ _ _=>"most"
def Fm.dv:Fm->Dv
 | .yes=>.tup [.str "yes"]
 | .no=>.tup [.str "no"]
 | .at_ i=>.tup [.str "at",.int (i:Nat)]
 | .not_ a=>.tup [.str "not",a.dv]
 | .both a b=>.tup [.str "both",a.dv,b.dv]
 | .either a b=>.tup [.str "either",a.dv,b.dv]
 | .odd a b=>.tup [.str "odd",a.dv,b.dv]
 | .most a b c=>.tup [.str "most",a.dv,b.dv,c.dv]
def Fm.parts:Fm->List Fm
 | .not_ a=>[a] | .both a b=>[a,b] | .either a b=>[a,b] | .odd a b=>[a,b] | .most a b c=>[a,b,c] | _=>[]
def Fm.tail:Fm->List Dv
 | .at_ i=>[.int (i:Nat)]
 | f=>f.parts.map Fm.dv
theorem FW (f:Fm):f.dv=.tup (.str f.word::f.tail):=by cases f <;> rfl
def Fm.deep:Fm->Nat
 | .not_ a=>a.deep+1
 | .both a b=>max a.deep b.deep+1
 | .either a b=>max a.deep b.deep+1
 | .odd a b=>max a.deep b.deep+1
 | .most a b c=>max (max a.deep b.deep) c.deep+1
 | _=>1
def Fm.many:Fm->Nat
 | .not_ a=>a.many+1
 | .both a b=>a.many+b.many+1
 | .either a b=>a.many+b.many+1
 | .odd a b=>a.many+b.many+1
 | .most a b c=>a.many+b.many+c.many+1
 | _=>1
def Fm.ok (n:Nat):Fm->Prop
 | .at_ i=>i < n
 | .not_ a=>a.ok n
 | .both a b=>a.ok n/\b.ok n
 | .either a b=>a.ok n/\b.ok n
 | .odd a b=>a.ok n/\b.ok n
 | .most a b c=>a.ok n/\b.ok n/\c.ok n
 | _=>True
theorem KS (f:Fm):1<=f.deep:=by cases f <;> simp only [Fm.deep] <;> omega
theorem Jh {f g:Fm} (h:g∈f.parts):g.deep+1<=f.deep:=by
 cases f <;> simp only [Fm.parts,List.mem_cons,List.mem_nil_iff,or_false] at h <;> simp only [Fm.deep] <;> rcases h with h | h | h <;> (try subst h) <;> omega
theorem Cv (f:Fm):BU f.dv=true:=by
 induction f <;> simp [Fm.dv,BU,BW, *]
theorem Il {K:W.Frag} {H:Hp} {f:Fm} {v:V} (h:Rep K H f.dv v):∃ a xs,v=.ref a/\SqT K H a (.str f.word::xs)/\Reps K H f.tail xs:=by
 rw [FW] at h
 unfold Rep at h
 obtain ⟨a,xs,e,h1,h2⟩:=h
 unfold Reps at h2
 obtain ⟨x,r,e2,h3,h4⟩:=h2
 unfold Rep at h3
 subst e2 h3
 exact ⟨a,r,e,h1,h4⟩
def spF (K:W.Frag) (d:Nat):Sp:=fun vs H Q _=>match vs with
 | [.ref t,.int n,.int room,.int deep]=>∃ (a:Addr) (ns:List Int) (m:Nat),Tape K H t a ns/\n=m/\1<=m/\m<=6/\1<=room/\room<=20/\1<=deep/\deep<=d /\
  ∀ (f:Fm) v H',f.ok m->(f.deep:Int)<=deep->(f.many:Int)<=room->Rep K H' f.dv v->Tape K H' t a ns->Frm t H H'->Q v H'
 | _=>False
theorem E1 {K:W.Frag} {d:Nat}:AZ (spF K d):=fun vs H Q Q' E h q=>by
 unfold spF at *
 split at q
 ·obtain ⟨a,ns,m,h1,h2,h3,h4,h5,h6,h7,h8,q⟩:=q
  exact ⟨a,ns,m,h1,h2,h3,h4,h5,h6,h7,h8,fun f v H' a1 a2 a3 a4 a5 a6=>h _ _ (q f v H' a1 a2 a3 a4 a5 a6)⟩
 ·exact q.elim
theorem J6:∀ d:Nat,FnOk P w K mg base CX0 (2+d) T.f_z11 T.d_z11 ["_law_tape_here","_law_n","_law_room","_law_deep"] (spF K d):=by
 intro d
 induction d with
 | zero =>
  refine FnOk.mono (j:=1) ?_ (by omega)
  refine T.F_z11.ok sc_z11 (fun vs H Q E h=>by unfold spF at h;split at h <;> first | rfl | exact h.elim) (fun cdv A outer s H vs Q E hr h=>?_)
  refine ⟨Gd,LV,?_⟩
  unfold spF at h
  split at h
  ·obtain ⟨a,ns,m,h1,h2,h3,h4,h5,h6,h7,h8,q⟩:=h
   exact absurd h7 (by omega)
  ·exact h
 | succ d ih =>
  have G_z11:=ih
  have G_z15:=C2 (P:=P) (w:=w) (base:=base) T
  refine T.F_z11.ok sc_z11 (fun vs H Q E h=>by unfold spF at h;split at h <;> first | rfl | exact h.elim) (fun cdv A outer s H vs Q E hr h=>?_)
  have hu:=A1 hr
  have hr_z11:=hr
  have hr_z15:=hr.mono (show 1<=2+d by omega)
  match vs,h with
  | [.ref t,.int n,.int room,.int deep],h =>
  obtain ⟨a,ns,m,TP,e1,m1,m2,r1,r2,d1,d2,k⟩:=h
  subst e1
  refine ⟨_,(@AF _ _ _ _ _ (@AT _ _ 4 _ _ _ _ sc_z11.nd rfl (by right) (@AQ _ _ _ _ _ _ _ _ _ _ _ _ _ _ _ _ G_z15 hr_z15 rfl T.m_z15 T.F_z15.kp T.b_z15 .nil AO (@AB _ _ _ _ _ (@vw _ 0 _ _ (by left)) (@pa1 _ _ _ (@AA _ _ _ _) (by rfl)) (by rfl)) (by decide) (by rfl) (by rfl)) (by rfl) (by symm)) (@AF _ _ _ _ _ (@Ag _ _ _ _ _ _ _ _ (PW.pt (@BX _ _ _ _ _ _ _ (@AS _ _ _ _ _ _ _ _ Bc (@vw _ 2 _ _ (by left)) (@AA _ _ _ _) (by exfalso)) (@BX _ _ _ _ _ _ _ (@AS _ _ _ _ _ _ _ _ Bc (@vw _ 3 _ _ (by left)) (@AA _ _ _ _) (by exfalso)) (@CH _ _ _ _ (@AS _ _ _ _ _ _ _ _ Bc (@vw _ 4 _ _ (by left)) (@AA _ _ _ _) (by exfalso)))))) (@AF _ _ _ _ _ (@Ag _ _ _ _ _ _ _ _ (@AS _ _ _ _ _ _ _ _ (kEq (K:=K) hu) (@AE _ _ _ _ _ _ _ _ Bb (@vw _ 4 _ _ (by left)) (@AA _ _ _ _)) (@AA _ _ _ _) (by exfalso)) (@AL _ _ _ (@AR _ _ _ _ (@AV _ _ _ _ _ (@pa1 _ _ _ (@kIx _ K _ _ _ _ _ (@Az _ _ _ _ (@AB _ _ _ _ _ (@AK _ _ _ _) (@pa1 _ _ _ (@AK _ _ _ _) (by rfl)) (by rfl))) (@AQ _ _ _ _ _ _ _ _ _ _ _ _ _ _ _ _ G_z15 hr_z15 rfl T.m_z15 T.F_z15.kp T.b_z15 .nil AO (@AB _ _ _ _ _ (@vw _ 0 _ _ (by left)) (@pa1 _ _ _ (@AA _ _ _ _) (by rfl)) (by rfl)) (by decide) (by rfl) (by rfl)) (by intro _ _;rfl) (by rfl)) (by rfl))))) (@Ae _)) (@AL _ _ _ (@AR _ _ _ _ (@AV _ _ _ _ _ (@AB _ _ _ _ _ (@AK _ _ _ _) (@pa1 _ _ _ (@AQ _ _ _ _ _ _ _ _ _ _ _ _ _ _ _ _ G_z15 hr_z15 rfl T.m_z15 T.F_z15.kp T.b_z15 .nil AO (@AB _ _ _ _ _ (@vw _ 0 _ _ (by left)) (@pa1 _ _ _ (@vw _ 1 _ _ (by left)) (by rfl)) (by rfl)) (by decide) (by rfl) (by rfl)) (by rfl)) (by rfl)))))) (@Ae _)) (@AF _ _ _ _ _ (@Ag _ _ _ _ _ _ _ _ (PW.pt (@BX _ _ _ _ _ _ _ (@AS _ _ _ _ _ _ _ _ Bc (@vw _ 4 _ _ (by left)) (@AA _ _ _ _) (by exfalso)) (@CH _ _ _ _ (@AS _ _ _ _ _ _ _ _ Bc (@vw _ 2 _ _ (by left)) (@AA _ _ _ _) (by exfalso))))) (@AL _ _ _ (@AR _ _ _ _ (@AV _ _ _ _ _ (@AB _ _ _ _ _ (@AK _ _ _ _) (@pa1 _ _ _ (@AQ _ _ _ _ _ _ _ _ _ _ _ _ _ _ _ _ G_z11 hr_z11 rfl T.m_z11 T.F_z11.kp T.b_z11 .nil AO (@AB _ _ _ _ _ (@vw _ 0 _ _ (by left)) (@AB _ _ _ _ _ (@vw _ 1 _ _ (by left)) (@AB _ _ _ _ _ (@AE _ _ _ _ _ _ _ _ Au (@vw _ 2 _ _ (by left)) (@AA _ _ _ _)) (@pa1 _ _ _ (@AE _ _ _ _ _ _ _ _ Au (@vw _ 3 _ _ (by left)) (@AA _ _ _ _)) (by rfl)) (by rfl)) (by rfl)) (by rfl)) (by decide) (by rfl) (by rfl)) (by rfl)) (by rfl))))) (@Ae _)) (@AF _ _ _ _ _ (@Ag _ _ _ _ _ _ _ _ (PW.pt (@DK _ _ _ _ _ _ _ (@AS _ _ _ _ _ _ _ _ BR (@vw _ 4 _ _ (by left)) (@AA _ _ _ _) (by exfalso)) (@Dt _ _ _ _ (@AS _ _ _ _ _ _ _ _ BR (@vw _ 2 _ _ (by left)) (@AA _ _ _ _) (by exfalso))))) (@AF _ _ _ _ _ (@AT _ _ 5 _ _ _ _ sc_z11.nd rfl (by right) (@AE _ _ _ _ _ _ _ _ (Aj (K:=K)) (@AA _ _ _ _) (@AQ _ _ _ _ _ _ _ _ _ _ _ _ _ _ _ _ G_z15 hr_z15 rfl T.m_z15 T.F_z15.kp T.b_z15 .nil AO (@AB _ _ _ _ _ (@vw _ 0 _ _ (by left)) (@pa1 _ _ _ (@AE _ _ _ _ _ _ _ _ Au (@vw _ 2 _ _ (by left)) (@AA _ _ _ _)) (by rfl)) (by rfl)) (by decide) (by rfl) (by rfl))) (by rfl) (by symm)) (@AF _ _ _ _ _ (@AT _ _ 6 _ _ _ _ sc_z11.nd rfl (by right) (@AE _ _ _ _ _ _ _ _ (Aj (K:=K)) (@AA _ _ _ _) (@AQ _ _ _ _ _ _ _ _ _ _ _ _ _ _ _ _ G_z15 hr_z15 rfl T.m_z15 T.F_z15.kp T.b_z15 .nil AO (@AB _ _ _ _ _ (@vw _ 0 _ _ (by left)) (@pa1 _ _ _ (@AE _ _ _ _ _ _ _ _ Au (@AE _ _ _ _ _ _ _ _ Au (@vw _ 2 _ _ (by left)) (@AA _ _ _ _)) (@vw _ 5 _ _ (by left))) (by rfl)) (by rfl)) (by decide) (by rfl) (by rfl))) (by rfl) (by symm)) (@AF _ _ _ _ _ (@AT _ _ 7 _ _ _ _ sc_z11.nd rfl (by right) (@Az _ _ _ _ (@AB _ _ _ _ _ (@vw _ 5 _ _ (by left)) (@AB _ _ _ _ _ (@vw _ 6 _ _ (by left)) (@pa1 _ _ _ (@AE _ _ _ _ _ _ _ _ Au (@AE _ _ _ _ _ _ _ _ Au (@AE _ _ _ _ _ _ _ _ Au (@vw _ 2 _ _ (by left)) (@AA _ _ _ _)) (@vw _ 5 _ _ (by left))) (@vw _ 6 _ _ (by left))) (by rfl)) (by rfl)) (by rfl))) (by rfl) (by symm)) (@AL _ _ _ (@AR _ _ _ _ (@AE _ _ _ _ _ _ _ _ (Aj (K:=K)) (@AV _ _ _ _ _ (@pa1 _ _ _ (@AK _ _ _ _) (by rfl))) (@FA _ _ _ _ _ _ _ _ _ (Ju (K:=K)) rfl T.z_tuple (by rfl) (@pa1 _ _ _ (@J4 _ _ _ _ _ _ _ (["_law_one","_law_tape_here","_law_n","_law_deep"]) 1 ([0,1,3]) _ _ _ _ rfl (@DX _ K _ _ _ (@vw _ 7 _ _ (by left)) (by rfl)) (by kernel_rfl) rfl rfl (by kernel_rfl) (fun c=>@CD _ _ 0 _ (show (["_law_one","_law_tape_here","_law_n","_law_deep"]:List Str).Nodup by decide +kernel) rfl (by right) (by symm)) (EE (by decide)) (fun c=>@Ek _) (fun c=>(@AQ _ _ _ _ _ _ _ _ _ _ _ _ _ _ _ _ G_z11 hr_z11 rfl T.m_z11 T.F_z11.kp T.b_z11 .nil AO (@AB _ _ _ _ _ (@vw _ 1 _ _ (by left)) (@AB _ _ _ _ _ (@vw _ 2 _ _ (by left)) (@AB _ _ _ _ _ (@vw _ 0 _ _ (by left)) (@pa1 _ _ _ (@AE _ _ _ _ _ _ _ _ Au (@vw _ 3 _ _ (by left)) (@AA _ _ _ _)) (by rfl)) (by rfl)) (by rfl)) (by rfl)) (by decide) (by rfl) (by rfl))) (by intro _;rfl)) (by rfl)) (by decide) (by decide) (by rfl) (by rfl)))))))) (@Ae _)) (@AF _ _ _ _ _ (@AT _ _ 5 _ _ _ _ sc_z11.nd rfl (by right) (@AE _ _ _ _ _ _ _ _ (Aj (K:=K)) (@AA _ _ _ _) (@AQ _ _ _ _ _ _ _ _ _ _ _ _ _ _ _ _ G_z15 hr_z15 rfl T.m_z15 T.F_z15.kp T.b_z15 .nil AO (@AB _ _ _ _ _ (@vw _ 0 _ _ (by left)) (@pa1 _ _ _ (@AE _ _ _ _ _ _ _ _ Au (@vw _ 2 _ _ (by left)) (@AA _ _ _ _)) (by rfl)) (by rfl)) (by decide) (by rfl) (by rfl))) (by rfl) (by symm)) (@AF _ _ _ _ _ (@AT _ _ 8 _ _ _ _ sc_z11.nd rfl (by right) (@AQ _ _ _ _ _ _ _ _ _ _ _ _ _ _ _ _ G_z11 hr_z11 rfl T.m_z11 T.F_z11.kp T.b_z11 .nil AO (@AB _ _ _ _ _ (@vw _ 0 _ _ (by left)) (@AB _ _ _ _ _ (@vw _ 1 _ _ (by left)) (@AB _ _ _ _ _ (@vw _ 5 _ _ (by left)) (@pa1 _ _ _ (@AE _ _ _ _ _ _ _ _ Au (@vw _ 3 _ _ (by left)) (@AA _ _ _ _)) (by rfl)) (by rfl)) (by rfl)) (by rfl)) (by decide) (by rfl) (by rfl)) (by rfl) (by symm)) (@AF _ _ _ _ _ (@AT _ _ 9 _ _ _ _ sc_z11.nd rfl (by right) (@AQ _ _ _ _ _ _ _ _ _ _ _ _ _ _ _ _ G_z11 hr_z11 rfl T.m_z11 T.F_z11.kp T.b_z11 .nil AO (@AB _ _ _ _ _ (@vw _ 0 _ _ (by left)) (@AB _ _ _ _ _ (@vw _ 1 _ _ (by left)) (@AB _ _ _ _ _ (@AE _ _ _ _ _ _ _ _ Au (@AE _ _ _ _ _ _ _ _ Au (@vw _ 2 _ _ (by left)) (@AA _ _ _ _)) (@vw _ 5 _ _ (by left))) (@pa1 _ _ _ (@AE _ _ _ _ _ _ _ _ Au (@vw _ 3 _ _ (by left)) (@AA _ _ _ _)) (by rfl)) (by rfl)) (by rfl)) (by rfl)) (by decide) (by rfl) (by rfl)) (by rfl) (by symm)) (@AL _ _ _ (@AR _ _ _ _ (@AV _ _ _ _ _ (@AB _ _ _ _ _ (@kIx _ K _ _ _ _ _ (@Az _ _ _ _ (@AB _ _ _ _ _ (@AK _ _ _ _) (@AB _ _ _ _ _ (@AK _ _ _ _) (@pa1 _ _ _ (@AK _ _ _ _) (by rfl)) (by rfl)) (by rfl))) (@AE _ _ _ _ _ _ _ _ Bb (@vw _ 4 _ _ (by left)) (@AA _ _ _ _)) (by intro _ _;rfl) (by rfl)) (@AB _ _ _ _ _ (@vw _ 8 _ _ (by left)) (@pa1 _ _ _ (@vw _ 9 _ _ (by left)) (by rfl)) (by rfl)) (by rfl)))))))))))),?_⟩
  refine ⟨a,ns,TP,At (by decide) (by decide),fun way H1 w0 w1 T1 f1=>?_⟩
  have F1:=AY f1
  dsimp only [Ai]
  refine BI (fun σ' H'=>H'=H1/\σ'=[some (.ref t),some (.int m),some (.int room),some (.int deep),some (.int way),none,none,none,none,none]/\2<=room/\2<=deep/\2<=way) ?_ ?_ (by walk_at "sm")
  ·refine Ed (decide (room < 2) || (decide (deep < 2) || decide (way < 2))) (fun Q q=>?_) ?_
   ·show if decide (room < 2)=true then Q true H1 else if decide (deep < 2)=true then Q true H1 else Q (decide (way < 2)) H1
    revert q
    cases decide (room < 2) <;> cases decide (deep < 2) <;> exact id
   refine AN (fun _=>?_) (fun e=>?_)
   ·refine ⟨by decide,?_⟩
    refine AN (fun _=>?_) (fun _=>?_)
    ·-- yes,no
     refine ⟨AI (show 2<=1000 by decide),fun p hp=>⟨a,ns,T1.upd hp,At (by decide) (by decide),fun c H2 c0 c1 T2 f2=>?_⟩⟩
     have g2:H2 p=some (.lst [.str "yes",.str "no"]):=by rw [f2 p (T1.neT hp)];exact AC
     have FF:Frm t H H2:=(F1.trans (Frm.upd hp)).trans (AY f2)
     have:c=0\/c=1:=by omega
     rcases this with e | e <;> subst e
     ·refine ⟨_,_,.inl (.of g2),rfl,AI (show 1<=1000 by decide),fun q hq=>?_⟩
      exact k .yes _ _ trivial (by show ((1:Nat):Int)<=deep;omega) (by show ((1:Nat):Int)<=room;omega) (Bl AC (Am Bp Ba)) (T2.upd hq) (FF.trans (Frm.upd hq))
     ·refine ⟨_,_,.inl (.of g2),rfl,AI (show 1<=1000 by decide),fun q hq=>?_⟩
      exact k .no _ _ trivial (by show ((1:Nat):Int)<=deep;omega) (by show ((1:Nat):Int)<=room;omega) (Bl AC (Am Bp Ba)) (T2.upd hq) (FF.trans (Frm.upd hq))
    ·-- at
     refine ⟨a,ns,T1,At (by omega) (Int.le_trans (show (m:Int)<=6 by omega) (by decide)),fun c H2 c0 c1 T2 f2=>⟨AI (show 2<=1000 by decide),fun q hq=>?_⟩⟩
     obtain ⟨c,rfl⟩:=Int.eq_ofNat_of_zero_le c0
     exact k (.at_ c) _ _ (by show c < m;omega) (by show ((1:Nat):Int)<=deep;omega) (by show ((1:Nat):Int)<=room;omega) (Bl AC (Am Bp (Am G9 Ba))) (T2.upd hq) ((F1.trans (AY f2)).trans (Frm.upd hq))
   ·simp only [Bool.or_eq_true,decide_eq_true_eq,not_or] at e
    exact ⟨rfl,rfl,by omega,by omega,by omega⟩
  rintro σ' H' ⟨rfl,rfl,hroom,hdeep,hway⟩
  -- not
  refine BI (fun σ' H2=>H2=H'/\σ'=[some (.ref t),some (.int m),some (.int room),some (.int deep),some (.int way),none,none,none,none,none]/\3<=room) ?_ ?_ (by walk_at "sm" <;> exact E1)
  ·refine Ed (decide (way < 4) || decide (room < 3)) (fun Q q=>?_) ?_
   ·show if decide (way < 4)=true then Q true H' else Q (decide (room < 3)) H'
    revert q
    cases decide (way < 4) <;> exact id
   refine AN (fun _=>?_) (fun e=>?_)
   ·refine ⟨a,ns,m,T1,rfl,m1,m2,by omega,by omega,by omega,by omega,fun f v H2 k1 k2 k3 k4 k5 k6=>⟨AI (show 2<=1000 by decide),fun q hq=>?_⟩⟩
    exact k (.not_ f) _ _ k1 (by show ((f.deep+1:Nat):Int)<=deep;omega) (by show ((f.many+1:Nat):Int)<=room;omega) (Bl AC (Am Bp (Am (Rep.same (Same.upd hq) _ _ k4) Ba))) (k5.upd hq) ((F1.trans k6).trans (Frm.upd hq))
   ·simp only [Bool.or_eq_true,decide_eq_true_eq,not_or] at e
    exact ⟨rfl,rfl,by omega⟩
  rintro σ' H2 ⟨rfl,rfl,hroom3⟩
  -- most
  refine BI (fun σ' H3=>H3=H2/\σ'=[some (.ref t),some (.int m),some (.int room),some (.int deep),some (.int way),none,none,none,none,none]) ?_ ?_ (by walk_at "sm" <;> exact E1)
  ·refine Ed (decide (8 < way) && decide (3 < room)) (fun Q q=>?_) ?_
   ·show if decide (8 < way)=true then Q (decide (3 < room)) H2 else Q false H2
    revert q
    cases decide (8 < way) <;> exact id
   refine AN (fun e=>?_) (fun _=>⟨rfl,rfl⟩)
   simp only [Bool.and_eq_true,decide_eq_true_eq] at e
   refine ⟨a,ns,T1,At (by omega) (Int.le_trans (show room - 3<=20 by omega) (by decide)),fun x H3 x0 x1 T3 f3=>?_⟩
   refine ⟨a,ns,T3,At (by omega) (Int.le_trans (show room - 2 - (1+x)<=20 by omega) (by decide)),fun y H4 y0 y1 T4 f4=>?_⟩
   refine ⟨AI (show 3<=1000 by decide),fun p hp=>?_⟩
   refine ⟨AI (show 1<=1000 by decide),fun q0 hq0=>?_⟩
   have T5:=(T4.upd (o:=.lst [.int (1+x),.int (1+y),.int (room - 1 - (1+x) - (1+y))]) hp).upd (o:=.tup [.str "most"]) hq0
   have pq:p≠q0:=fun e=>by rw [e,AC] at hq0;cases hq0
   have gp:upd (upd H4 p (.lst [.int (1+x),.int (1+y),.int (room - 1 - (1+x) - (1+y))])) q0 (.tup [.str "most"]) p=some (.lst [.int (1+x),.int (1+y),.int (room - 1 - (1+x) - (1+y))]):=by rw [AJ pq];exact AC
   have gq:upd (upd H4 p (.lst [.int (1+x),.int (1+y),.int (room - 1 - (1+x) - (1+y))])) q0 (.tup [.str "most"]) q0=some (.tup [.str "most"]):=AC
   have F5:Frm t H (upd (upd H4 p (.lst [.int (1+x),.int (1+y),.int (room - 1 - (1+x) - (1+y))])) q0 (.tup [.str "most"])):=(((F1.trans (AY f3)).trans (AY f4)).trans (Frm.upd hp)).trans (Frm.upd hq0)
   have npt:p≠t:=T4.neT hp
   have nqt:q0≠t:=(T4.upd hp).neT hq0
   generalize upd (upd H4 p (.lst [.int (1+x),.int (1+y),.int (room - 1 - (1+x) - (1+y))])) q0 (.tup [.str "most"])=H5 at T5 gp gq F5
   refine .inl ⟨⟨_,.of gp⟩,MA (xs:=[.int (1+x),.int (1+y),.int (room - 1 - (1+x) - (1+y))]) (fun i ys H'=>Tape K H' t a ns/\Frm t H5 H'/\∃ fs:List Fm,fs.length=i/\Reps K H' (fs.map Fm.dv) ys/\(∀ f∈fs,f.ok m/\(f.deep:Int)<=deep - 1) /\
    ((fs.map Fm.many).sum:Int)<=(([1+x,1+y,room - 1 - (1+x) - (1+y)]:List Int).take i).sum)
    ⟨T5,Frm.refl,[],rfl,Ba,fun _ h=>absurd h (by simp),by simp⟩ (fun i ys H' _ ⟨_,f,_⟩=>.of (f p _ npt gp)) (fun i ys H' hi ⟨_,_,fs,e1,r,_⟩=>by
     have:=r.length
     rw [List.length_map] at this
     have hi3:i < 3:=hi
     exact Dg (by omega)) ?_ ?_⟩
   ·rintro i v ys H6 hv ⟨T6,F6,fs,hl,hr6,hall,hsum⟩
    have hv':∃ o:Int,v=.int o/\1<=o/\o<=20/\(([1+x,1+y,room - 1 - (1+x) - (1+y)]:List Int).take (i+1)).sum=(([1+x,1+y,room - 1 - (1+x) - (1+y)]:List Int).take i).sum+o:=by
     match i,hv with
     | 0,hv=>cases hv;exact ⟨_,rfl,by omega,by omega,by simp⟩
     | 1,hv=>cases hv;exact ⟨_,rfl,by omega,by omega,by simp⟩
     | 2,hv=>cases hv;exact ⟨_,rfl,by omega,by omega,by simp;omega⟩
    obtain ⟨o,rfl,o1,o2,es⟩:=hv'
    refine ⟨a,ns,m,T6,rfl,m1,m2,o1,o2,by omega,by omega,fun f v H7 k1 k2 k3 k4 k5 k6=>?_⟩
    refine ⟨k5,F6.trans k6,fs++[f],by rw [List.length_append,hl];rfl,?_,fun g hg=>?_,?_⟩
    ·rw [List.map_append]
     have tt:BW (fs.map Fm.dv)=true:=by
      clear hl hr6 hall hsum
      induction fs with
      | nil=>rfl
      | cons g gs ih=>rw [List.map_cons];unfold BW;rw [Cv,ih];rfl
     exact Reps.append (Reps.frm k6 T6.lst _ _ tt hr6) (Am k4 Ba)
    ·rcases List.mem_append.mp hg with h | h
     ·exact hall g h
     ·rw [List.mem_singleton.mp h];exact ⟨k1,k2⟩
    ·rw [es,List.map_append,List.sum_append]
     simp only [List.map_cons,List.map_nil,List.sum_cons,List.sum_nil]
     omega
   rintro ys H6 ⟨T6,F6,fs,hl,hr6,hall,hsum⟩ l hl6
   match fs,hl with
   | [f1,f2,f3],_ =>
   have hys:ys.length=3:=by have:=hr6.length;rw [<- this];rfl
   refine ⟨ys,.inl ⟨.of AC,fun l2 hl2=>?_⟩⟩
   have S1:=Same.upd (o:=.lst ys) hl6
   have S2:=Same.upd (o:=.tup ys) hl2
   have gq':upd (upd H6 l (.lst ys)) l2 (.tup ys) q0=some (.tup [.str "most"]):=S2 _ _ (S1 _ _ (F6 q0 _ nqt gq))
   refine .inr ⟨q0,l2,[.str "most"],ys,rfl,rfl,.of gq',.of AC,by simp,AI (by rw [hys];decide),(fun e=>by rw [e] at hys;cases hys),fun _ q hq=>?_⟩
   have S3:=Same.upd (o:=.tup ([V.str "most"]++ys)) hq
   refine k (.most f1 f2 f3) _ _ ⟨(hall f1 (by simp)).1,(hall f2 (by simp)).1,(hall f3 (by simp)).1⟩ ?_ ?_ (Bl AC (Am Bp (Reps.same (S1.trans (S2.trans S3)) _ _ hr6))) (((T6.upd hl6).upd hl2).upd hq) (((F5.trans F6).trans (S1.frm.trans S2.frm)).trans S3.frm)
   ·have h1:=(hall f1 (by simp)).2
    have h2:=(hall f2 (by simp)).2
    have h3:=(hall f3 (by simp)).2
    show ((max (max f1.deep f2.deep) f3.deep+1:Nat):Int)<=deep
    omega
   ·simp only [List.map_cons,List.map_nil,List.sum_cons,List.sum_nil] at hsum
    have hs3:(([1+x,1+y,room - 1 - (1+x) - (1+y)]:List Int).take 3).sum=room - 1:=by simp;omega
    have hsum':((f1.many+(f2.many+(f3.many+0)):Nat):Int)<=room - 1:=by
     rw [<- hs3];exact hsum
    show ((f1.many+f2.many+f3.many+1:Nat):Int)<=room
    omega
  rintro σ' H3 ⟨rfl,rfl⟩
  -- two parts
  refine ⟨a,ns,T1,At (by omega) (Int.le_trans (show room - 2<=20 by omega) (by decide)),fun x H4 x0 x1 T4 f4=>?_⟩
  refine ⟨a,ns,m,T4,rfl,m1,m2,by omega,by omega,by omega,by omega,fun f1' v1 H5 a1 a2 a3 a4 a5 a6=>?_⟩
  refine ⟨a,ns,m,a5,rfl,m1,m2,by omega,by omega,by omega,by omega,fun f2' v2 H6 b1 b2 b3 b4 b5 b6=>?_⟩
  refine ⟨AI (show 3<=1000 by decide),fun p hp=>⟨by decide,?_⟩⟩
  have a4':=Rep.frm b6 a5.lst _ _ (Cv f1') a4
  have S1:=Same.upd (o:=.lst [.str "both",.str "either",.str "odd"]) hp
  have FF:=((F1.trans (AY f4)).trans a6).trans b6
  have dd:((max f1'.deep f2'.deep+1:Nat):Int)<=deep:=by omega
  have mm:((f1'.many+f2'.many+1:Nat):Int)<=room:=by omega
  have:way % 3=0\/way % 3=1\/way % 3=2:=by omega
  rcases this with e | e | e
  ·refine ⟨_,_,.inl (.of AC),by rw [e];rfl,AI (show 3<=1000 by decide),fun q hq=>?_⟩
   have S2:=Same.upd (o:=.tup [.str "both",v1,v2]) hq
   exact k (.both f1' f2') _ _ ⟨a1,b1⟩ dd mm (Bl AC (Am Bp (Am (Rep.same (S1.trans S2) _ _ a4') (Am (Rep.same (S1.trans S2) _ _ b4) Ba)))) ((b5.upd hp).upd hq) (FF.trans (S1.frm.trans S2.frm))
  ·refine ⟨_,_,.inl (.of AC),by rw [e];rfl,AI (show 3<=1000 by decide),fun q hq=>?_⟩
   have S2:=Same.upd (o:=.tup [.str "either",v1,v2]) hq
   exact k (.either f1' f2') _ _ ⟨a1,b1⟩ dd mm (Bl AC (Am Bp (Am (Rep.same (S1.trans S2) _ _ a4') (Am (Rep.same (S1.trans S2) _ _ b4) Ba)))) ((b5.upd hp).upd hq) (FF.trans (S1.frm.trans S2.frm))
  ·refine ⟨_,_,.inl (.of AC),by rw [e];rfl,AI (show 3<=1000 by decide),fun q hq=>?_⟩
   have S2:=Same.upd (o:=.tup [.str "odd",v1,v2]) hq
   exact k (.odd f1' f2') _ _ ⟨a1,b1⟩ dd mm (Bl AC (Am Bp (Am (Rep.same (S1.trans S2) _ _ a4') (Am (Rep.same (S1.trans S2) _ _ b4) Ba)))) ((b5.upd hp).upd hq) (FF.trans (S1.frm.trans S2.frm))
theorem Lm:FnOk P w K mg base CX0 10 T.f_z11 T.d_z11 ["_law_tape_here","_law_n","_law_room","_law_deep"] (spF K 8):=J6 T 8
def EZ:Dw->Bool
 | .int _=>true
 | _=>false
def EF (K:W.Frag) (f:Dw->Bool):Sp:=fun vs H Q _=>match vs with
 | [v]=>∃ d,RepW K H d v/\Q (.bl (f d)) H
 | _=>False
theorem MB:FnOk P w K mg base CX0 1 T.f_z21 T.d_z21 ["thing"] (EF K EZ):=by
 refine T.F_z21.ok IJ (fun vs H Q E h=>by unfold EF at h;split at h <;> first | rfl | exact h.elim) (fun cdv A outer s H vs Q E hr h=>?_)
 have hu:=A1 hr
 unfold EF at h
 split at h
 rotate_left
 ·exact h.elim
 rename_i v
 obtain ⟨d,hd,q⟩:=h
 refine ⟨_,(@AL _ _ _ (@AR _ _ _ _ (@Bw _ _ _ _ _ _ _ (@AX _ _ _ _ _ _ _ _ _ (Bo (K:=K)) rfl T.z_isinstance (by rfl) (@AB _ _ _ _ _ (@vw _ 0 _ _ (by left)) (@pa1 _ _ _ (@Be _ _ (.ty "int") _ _ rfl T.z_int (by rfl) rfl (by decide) (by decide)) (by rfl)) (by rfl)) (by decide) (by decide) (by rfl) (by rfl)) (@CB _ _ _ _ _ (@HU _ _ _ _ (@AX _ _ _ _ _ _ _ _ _ (Bo (K:=K)) rfl T.z_isinstance (by rfl) (@AB _ _ _ _ _ (@vw _ 0 _ _ (by left)) (@pa1 _ _ _ (@Be _ _ (.ty "bool") _ _ rfl T.z_bool (by rfl) rfl (by decide) (by decide)) (by rfl)) (by rfl)) (by decide) (by decide) (by rfl) (by rfl))))))),?_⟩
 refine ⟨by decide,d,hd,?_⟩
 refine AN (fun e=>⟨by decide,d,hd,?_⟩) (fun e=>?_)
 ·have:EZ d = !BC (tyW d) "bool":=by
   revert e
   cases d <;> intro e <;> first | rfl | (simp [BC,tyW] at e;done)
  rw [this] at q
  exact q
 ·have:EZ d=false:=by
   revert e
   cases d <;> intro e <;> first | rfl | exact absurd (show BC _ _=true by simp [BC,tyW]) e
  rw [this] at q
  exact q
def E7 (m:Nat):Dw->Bool
 | .int i=>decide (0<=i) && decide (i < (m:Int))
 | _=>false
def HJ (K:W.Frag):Sp:=fun vs H Q _=>match vs with
 | [.int z,v]=>∃ (m:Nat) (d:Dw),z=m/\RepW K H d v/\Q (.bl (E7 m d)) H
 | _=>False
theorem JE:FnOk P w K mg base CX0 2 T.f_z17 T.d_z17 ["bound","thing"] (HJ K):=by
 have G_z21:=MB (P:=P) (w:=w) (base:=base) T
 refine T.F_z17.ok Jd (fun vs H Q E h=>by unfold HJ at h;split at h <;> first | rfl | exact h.elim) (fun cdv A outer s H vs Q E hr h=>?_)
 have hu:=A1 hr
 have hr_z21:=hr.mono (show 1<=_ by decide)
 match vs,h with
 | [.int n,v],⟨m,d,e1,hd,q⟩ =>
 subst e1
 refine ⟨_,(@AL _ _ _ (@AR _ _ _ _ (@Bw _ _ _ _ _ _ _ (@AQ _ _ _ _ _ _ _ _ _ _ _ _ _ _ _ _ G_z21 hr_z21 rfl T.m_z21 T.F_z21.kp T.b_z21 .nil AO (@pa1 _ _ _ (@vw _ 1 _ _ (by left)) (by rfl)) (by decide) (by rfl) (by rfl)) (@CB _ _ _ _ _ (@E9 _ _ _ _ _ _ _ _ _ _ _ _ DV Bc (@AA _ _ _ _) (@vw _ 1 _ _ (by left)) (@vw _ 0 _ _ (by left)) (by with_unfolding_all rfl)))))),?_⟩
 refine ⟨d,hd,?_⟩
 cases d with
 | int i =>
  unfold RepW at hd
  subst hd
  have q:Q (.bl (decide (0<=i) && decide (i < (m:Int)))) H:=q
  refine AN (fun e=>?_) (fun e=>?_)
  ·have e':0<=i:=of_decide_eq_true e
   rw [decide_eq_true e',Bool.true_and] at q
   exact q
  ·rw [decide_eq_false (fun z=>e (decide_eq_true z)),Bool.false_and] at q
   exact q
 | _=>exact q
def atS:Str:=Str.ofString "at"
def BS (s:Str):Option Nat :=
 if s=Str.ofString "yes" then some 0 else if s=Str.ofString "no" then some 0 else if s=Str.ofString "at" then some 0 else if s=Str.ofString "not" then some 1 else
 if s=Str.ofString "both" then some 2 else if s=Str.ofString "either" then some 2 else if s=Str.ofString "odd" then some 2 else if s=Str.ofString "most" then some 3 else none
theorem HF {s:Str} {k:Nat} (h:BS s=some k):k<=3:=by
 unfold BS at h
 repeat' split at h
 all_goals first | (cases h;decide) | cases h
def Dp:List (Key × V):=[(Sum.inr "yes",.int 0),(Sum.inr "no",.int 0),(Sum.inr "at",.int 0),(Sum.inr "not",.int 1),(Sum.inr "both",.int 2),(Sum.inr "either",.int 2),(Sum.inr "odd",.int 2),(Sum.inr "most",.int 3)]
theorem MS (s:Str):AW Dp (Sum.inr s)=(BS s).map fun k=>V.int (k:Nat):=by
 have go:∀ (x:Str) (v:V) (r:List (Key × V)),AW ((Sum.inr x,v)::r) (Sum.inr s:Key)=if s=x then some v else AW r (Sum.inr s):=fun x v r=>by
  by_cases e:s=x
  ·rw [if_pos e,DJ (show (Sum.inr x:Key)=Sum.inr s by rw [e])]
  ·rw [if_neg e,DS (fun z=>e (by cases z;rfl))]
 unfold Dp BS
 simp only [go,Hd]
 repeat' split
 all_goals first | rfl | contradiction
theorem Cc (s:Str):(false ^^ (s == atS))=decide (s=atS):=by
 rw [Bool.false_xor,Bool.eq_iff_iff];simp
def at1 (m:Nat):List Dw->Bool
 | [d1]=>E7 m d1
 | _=>false
def AG (m:Nat):Dw->Bool
 | .tup (.str s::ds)=>if s=atS then at1 m ds else match BS s with | some k=>ds.length == k | none=>false
 | _=>false
def AH:Dw->List Dw
 | .tup (.str s::ds)=>if s=atS then [] else ds
 | _=>[]
theorem Fz {m:Nat} {d:Dw} (h:AG m d=true):∃ s ds,d=.tup (.str s::ds)/\ds.length<=3:=by
 unfold AG at h
 split at h
 ·rename_i s ds
  refine ⟨s,ds,rfl,?_⟩
  by_cases e:s=atS
  ·rw [if_pos e] at h
   unfold at1 at h
   split at h
   ·exact (show 1<=3 by decide)
   ·cases h
  ·rw [if_neg e] at h
   split at h
   ·rename_i k hk
    have:=HF hk
    have h:ds.length=k:=by simpa using h
    omega
   ·cases h
 ·cases h
def GK (K:W.Frag):Sp:=fun vs H Q _=>match vs with
 | [.int z,v]=>∃ (m:Nat) (d:Dw),z=m/\RepW K H d v/\Q (.bl (AG m d)) H
 | _=>False
theorem MJ:FnOk P w K mg base CX0 3 T.f_z19 T.d_z19 ["n","thing"] (GK K):=by
 have G_z17:=JE (P:=P) (w:=w) (base:=base) T
 refine T.F_z19.ok Ja (fun vs H Q E h=>by unfold GK at h;split at h <;> first | rfl | exact h.elim) (fun cdv A outer s H vs Q E hr h=>?_)
 have hu:=A1 hr
 have hr_z17:=hr.mono (show 2<=_ by decide)
 match vs,h with
 | [.int z,v],⟨m,d,e1,hv,q⟩ =>
 subst e1
 refine ⟨_,(@AF _ _ _ _ _ (@Ag _ _ _ _ _ _ _ _ (PW.pt (@BX _ _ _ _ _ _ _ (@CP _ _ _ _ (@Bq _ _ _ (@AX _ _ _ _ _ _ _ _ _ (Bo (K:=K)) rfl T.z_isinstance (by rfl) (@AB _ _ _ _ _ (@vw _ 1 _ _ (by left)) (@pa1 _ _ _ (@Be _ _ (.ty "tuple") _ _ rfl T.z_tuple (by rfl) rfl (by decide) (by decide)) (by rfl)) (by rfl)) (by decide) (by decide) (by rfl) (by rfl)) (by intro _;rfl))) (@BX _ _ _ _ _ _ _ (@AS _ _ _ _ _ _ _ _ (kEq (K:=K) hu) (@AX _ _ _ _ _ _ _ _ _ (BB (K:=K)) rfl T.z_len (by rfl) (@pa1 _ _ _ (@vw _ 1 _ _ (by left)) (by rfl)) (by decide) (by decide) (by rfl) (by rfl)) (@AA _ _ _ _) (by exfalso)) (@CH _ _ _ _ (@CP _ _ _ _ (@Bq _ _ _ (@AX _ _ _ _ _ _ _ _ _ (Bo (K:=K)) rfl T.z_isinstance (by rfl) (@AB _ _ _ _ _ (@kIx _ K _ _ _ _ _ (@vw _ 1 _ _ (by left)) (@AA _ _ _ _) (by intro _ _;rfl) (by rfl)) (@pa1 _ _ _ (@Be _ _ (.ty "str") _ _ rfl T.z_str (by rfl) rfl (by decide) (by decide)) (by rfl)) (by rfl)) (by decide) (by decide) (by rfl) (by rfl)) (by intro _;rfl))))))) (@AL _ _ _ (@AR _ _ _ _ (@BZ _ _ _ _))) (@Ae _)) (@AF _ _ _ _ _ (@Ag _ _ _ _ _ _ _ _ (@AS _ _ _ _ _ _ _ _ (kEq (K:=K) hu) (@kIx _ K _ _ _ _ _ (@vw _ 1 _ _ (by left)) (@AA _ _ _ _) (by intro _ _;rfl) (by rfl)) (@AK _ _ _ _) (by exfalso)) (@AL _ _ _ (@AR _ _ _ _ (@Bw _ _ _ _ _ _ _ (@CW _ _ _ _ _ _ _ _ (kEq (K:=K) hu) (@AX _ _ _ _ _ _ _ _ _ (BB (K:=K)) rfl T.z_len (by rfl) (@pa1 _ _ _ (@vw _ 1 _ _ (by left)) (by rfl)) (by decide) (by decide) (by rfl) (by rfl)) (@AA _ _ _ _) (by exfalso)) (@CB _ _ _ _ _ (@AQ _ _ _ _ _ _ _ _ _ _ _ _ _ _ _ _ G_z17 hr_z17 rfl T.m_z17 T.F_z17.kp T.b_z17 .nil AO (@AB _ _ _ _ _ (@vw _ 0 _ _ (by left)) (@pa1 _ _ _ (@kIx _ K _ _ _ _ _ (@vw _ 1 _ _ (by left)) (@AA _ _ _ _) (by intro _ _;rfl) (by rfl)) (by rfl)) (by rfl)) (by decide) (by rfl) (by rfl)))))) (@Ae _)) (@AL _ _ _ (@AR _ _ _ _ (@Bw _ _ _ _ _ _ _ (@CW _ _ _ _ _ _ _ _ (LB (T.q_PARTS P)) (@kIx _ K _ _ _ _ _ (@vw _ 1 _ _ (by left)) (@AA _ _ _ _) (by intro _ _;rfl) (by rfl)) (@Cf _ _ (.ref T.a_PARTS) _ _ rfl T.c_PARTS rfl (by decide)) (by exfalso)) (@CB _ _ _ _ _ (@CW _ _ _ _ _ _ _ _ (kEq (K:=K) hu) (@AX _ _ _ _ _ _ _ _ _ (BB (K:=K)) rfl T.z_len (by rfl) (@pa1 _ _ _ (@vw _ 1 _ _ (by left)) (by rfl)) (by decide) (by decide) (by rfl) (by rfl)) (@AE _ _ _ _ _ _ _ _ (Aj (K:=K)) (@AA _ _ _ _) (@KI _ _ _ _ _ _ _ _ _ _ (T.q_PARTS P) (@Cf _ _ (.ref T.a_PARTS) _ _ rfl T.c_PARTS rfl (by decide)) (@kIx _ K _ _ _ _ _ (@vw _ 1 _ _ (by left)) (@AA _ _ _ _) (by intro _ _;rfl) (by rfl)) (by intro _ _;rfl) (by rfl) (by rfl) (by rfl))) (by exfalso)))))))),?_⟩
 refine ⟨by decide,d,hv,?_⟩
 cases d with
 | tup ds =>
  obtain ⟨p,xs,rfl,hp,hx⟩:=Ej hv
  have hxl:=hx.length
  refine ⟨xs.length,.inr ⟨_,hp,rfl⟩,?_⟩
  match ds,hxl,hx,q with
  | [],hxl,hx,q =>
   have e0:xs.length=0:=hxl.symm
   refine AN (fun e=>q) (fun e=>absurd ?_ e)
   show (false ^^ (((xs.length:Nat):Int) == 0))=true
   rw [e0];rfl
  | d0::ds',hxl,hx,q =>
   have hl1:xs.length=ds'.length+1:=hxl.symm
   have lenb:∀ c:Nat,(false ^^ (((xs.length:Nat):Int) == ((c+1:Nat):Int)))=(ds'.length == c):=fun c=>by
    rw [Bool.false_xor,Bool.eq_iff_iff]
    simp only [beq_iff_eq]
    omega
   refine AN (fun e=>?_) (fun e=>?_)
   ·have e':(false ^^ (((xs.length:Nat):Int) == 0))=true:=e
    rw [Bool.false_xor,beq_iff_eq] at e'
    omega
   obtain ⟨x0,e0,r0⟩:=hx.get (i:=0) rfl
   refine ⟨_,x0,.inr hp,Ad (n:=0) rfl e0,by decide,d0,r0,?_⟩
   cases d0 with
   | str s =>
    unfold RepW at r0
    subst r0
    have q:Q (.bl (if s=atS then at1 m ds' else match BS s with | some k=>ds'.length == k | none=>false)) H:=q
    refine ⟨_,_,.inr hp,Ad (n:=0) rfl e0,?_⟩
    refine AN (fun e2=>?_) (fun e2=>?_)
    ·rw [if_pos (of_decide_eq_true ((Cc s).symm.trans e2))] at q
     refine ⟨xs.length,.inr ⟨_,hp,rfl⟩,?_⟩
     have l0:(false ^^ (((xs.length:Nat):Int) == 2))=(ds'.length == 1):=lenb 1
     refine AN (fun e3=>?_) (fun e3=>?_)
     ·have e4:ds'.length=1:=by simpa using l0.symm.trans e3
      match ds',e4,hx,q with
      | [d1],_,hx,q =>
      obtain ⟨x1,e1,r1⟩:=hx.get (i:=1) rfl
      exact ⟨_,x1,.inr hp,Ad (n:=1) rfl e1,m,d1,rfl,r1,q⟩
     ·have e4:at1 m ds'=false:=by
       unfold at1
       split
       ·exact absurd (l0.trans rfl) e3
       ·rfl
      rw [e4] at q
      exact q
    ·rw [if_neg (fun z=>e2 ((Cc s).trans (decide_eq_true z)))] at q
     have pv:=MS s
     refine ⟨_,_,.inr hp,Ad (n:=0) rfl e0,rfl,Sum.inr s,rfl,?_⟩
     cases hk:BS s with
     | none =>
      rw [hk] at pv q
      refine AN (fun e3=>?_) (fun e3=>q)
      have e3:(false ^^ (AW Dp (Sum.inr s)).isSome)=true:=e3
      rw [pv] at e3
      cases e3
     | some k =>
      rw [hk] at pv q
      refine AN (fun e3=>?_) (fun e3=>absurd (show (false ^^ (AW Dp (Sum.inr s)).isSome)=true by rw [pv];rfl) e3)
      refine ⟨xs.length,.inr ⟨_,hp,rfl⟩,_,_,.inr hp,Ad (n:=0) rfl e0,Sum.inr s,.int k,rfl,pv,?_⟩
      have l0:(false ^^ (((xs.length:Nat):Int) == 1+(k:Int)))=(ds'.length == k):=by
       rw [<- lenb k]
       congr 2
       omega
      have q:Q (.bl (ds'.length == k)) H:=q
      rw [<- l0] at q
      exact q
   | _=>exact q
 | _=>exact q
def Cd (K:W.Frag):Sp:=fun vs H Q _=>match vs with
 | [v]=>∃ (m:Nat) (d:Dw),RepW K H d v/\AG m d=true/\∀ p xs H',Same H H'->SqT K H' p xs->RepsW K H (AH d) xs->Q (.ref p) H'
 | _=>False
theorem MT:AZ (Cd K):=fun vs H Q Q' E h q=>by
 unfold Cd at *
 split at q
 ·revert q;repeat' first | exact h _ _ | exact Cs h | exact out_mono h | exact outT_mono h | walk_at "m"
 ·exact q.elim
theorem GT {xs:List V} (h:1<=xs.length):Ap xs (some 1) none=xs.drop 1:=by
 unfold Ap
 have e2:HT.sIx xs.length 0 (some 1)=1:=by
  have:=HT.sIx_nat xs.length 0 1
  rw [show min 1 xs.length=1 by omega] at this
  exact this
 rw [e2,HT.sIx_none,List.take_of_length_le (by rw [List.length_drop];omega)]
theorem LR:FnOk P w K mg base CX0 1 T.f_z0 T.d_z0 ["formula"] (Cd K):=by
 refine T.F_z0.ok Ht (fun vs H Q E h=>by unfold Cd at h;split at h <;> first | rfl | exact h.elim) (fun cdv A outer s H vs Q E hr h=>?_)
 have hu:=A1 hr
 unfold Cd at h
 split at h
 rotate_left
 ·exact h.elim
 rename_i v
 obtain ⟨m,d,hv,hf,q⟩:=h
 refine ⟨_,(@AL _ _ _ (@AR _ _ _ _ (@DM _ _ _ _ _ _ _ _ (@AS _ _ _ _ _ _ _ _ (kEq (K:=K) hu) (@kIx _ K _ _ _ _ _ (@vw _ 0 _ _ (by left)) (@AA _ _ _ _) (by intro _ _;rfl) (by rfl)) (@AK _ _ _ _) (by exfalso)) (@AV _ _ _ _ _ (@Bs _)) (@CG _ K _ _ _ _ _ _ _ _ (@vw _ 0 _ _ (by left)) (@Bk _ _ _ (@AA _ _ _ _)) (@Bn _) (by rfl))))),?_⟩
 obtain ⟨s,ds,rfl,hl⟩:=Fz hf
 obtain ⟨p,xs,rfl,hp,hx⟩:=Ej hv
 have hx0:=hx
 unfold RepsW at hx
 obtain ⟨x0,ys,rfl,r0,hx⟩:=hx
 unfold RepW at r0
 subst r0
 have ek:AH (.tup (.str s::ds))=if s=atS then [] else ds:=rfl
 refine ⟨_,_,.inr hp,Ad (n:=0) rfl rfl,?_⟩
 refine AN (fun e=>?_) (fun e=>?_)
 ·have e':s=atS:=of_decide_eq_true ((Cc s).symm.trans e)
  rw [ek,if_pos e'] at q
  exact ⟨Nat.zero_le _,fun p1 n1=>q p1 [] _ (Same.upd n1) (.of AC) BO⟩
 ·have e':¬ s=atS:=fun z=>e ((Cc s).trans (decide_eq_true z))
  rw [ek,if_neg e'] at q
  refine ⟨1,rfl,_,hp,fun p1 H' s' h'=>q p1 _ H' s' h' ?_⟩
  rw [GT (by simp)]
  exact hx
def Ce:Sp:=fun vs H Q _=>match vs with
 | [.int m,.int d]=>Q (.bl (decide (20 < m) || decide (8 < d))) H
 | _=>False
theorem JU:AZ Ce:=fun vs H Q Q' E h q=>by
 unfold Ce at *
 split at q
 ·exact h _ _ q
 ·exact q.elim
theorem Hw:FnOk P w K mg base CX0 1 T.f_z10 T.d_z10 ["many","depth"] Ce:=by
 refine T.F_z10.ok LN (fun vs H Q E h=>by unfold Ce at h;split at h <;> first | rfl | exact h.elim) (fun cdv A outer s H vs Q E hr h=>?_)
 have hu:=A1 hr
 unfold Ce at h
 split at h
 rotate_left
 ·exact h.elim
 rename_i m d
 have q:=h
 have q:Q (.bl (decide (20 < m) || decide (8 < d))) H:=q
 refine ⟨_,(@AL _ _ _ (@AR _ _ _ _ (@K1 _ _ _ _ _ _ _ (@CW _ _ _ _ _ _ _ _ BR (@vw _ 0 _ _ (by left)) (@Cf _ _ (.int 20) _ _ rfl T.c_MOST_FORMULAS ⟨_,rfl⟩ (by decide)) (by exfalso)) (@CB _ _ _ _ _ (@CW _ _ _ _ _ _ _ _ BR (@vw _ 1 _ _ (by left)) (@Cf _ _ (.int 8) _ _ rfl T.c_MOST_WITHIN ⟨_,rfl⟩ (by decide)) (by exfalso)))))),?_⟩
 refine AN (fun e=>?_) (fun e=>?_)
 ·have e':(20:Int) < m:=of_decide_eq_true e
  rw [decide_eq_true e',Bool.true_or] at q
  first | exact q | (rw [<- decide_eq_true e'] at q;exact q)
 ·have e':¬ (20:Int) < m:=fun z=>e (decide_eq_true z)
  rw [decide_eq_false e',Bool.false_or] at q
  exact q
section
variable {α:Type} (f:α->Bool) (kids:α->List α)
def lvB (bound:Nat):Nat->List α->Nat->Bool
 | _,[],_=>true
 | 0,_::_,_=>false
 | k+1,d::L,m=>decide (m<=bound) && ((d::L).all f && lvB bound k ((d::L).flatMap kids) (m+((d::L).flatMap kids).length))
def cntL (g:α->Nat) (L:List α):Nat:=(L.map g).sum
def cnt:Nat->α->Nat
 | 0,_=>0
 | k+1,d=>if f d=true/\(∀ e∈kids d,0 < cnt k e) then 1+cntL (cnt k) (kids d) else 0
theorem Ih (g:α->Nat) (L M:List α):cntL g (L++M)=cntL g L+cntL g M:=by unfold cntL;rw [List.map_append,List.sum_append]
theorem HD {g:α->Nat}:∀ {L:List α},(∀ d∈L,0 < g d)->L.length<=cntL g L
 | [],_=>Nat.le_refl _
 | d::L,h=>by
  have h1:=HD (g:=g) (L:=L) fun e he=>h e (List.mem_cons_of_mem _ he)
  have h2:=h d (List.mem_cons_self ..)
  show L.length+1<=g d+cntL g L
  omega
theorem DB {k:Nat} {d:α}:0 < cnt f kids (k+1) d ↔ f d=true/\∀ e∈kids d,0 < cnt f kids k e:=by
 show 0 < (if f d=true/\(∀ e∈kids d,0 < cnt f kids k e) then 1+cntL (cnt f kids k) (kids d) else 0) ↔ _
 by_cases h:f d=true/\∀ e∈kids d,0 < cnt f kids k e
 ·rw [if_pos h];exact ⟨fun _=>h,fun _=>by omega⟩
 ·rw [if_neg h];exact ⟨fun z=>absurd z (Nat.lt_irrefl _),fun z=>absurd z h⟩
theorem ML {k:Nat} {d:α} (h:0 < cnt f kids (k+1) d):cnt f kids (k+1) d=1+cntL (cnt f kids k) (kids d):=by
 have h':=(DB f kids).mp h
 show (if f d=true/\(∀ e∈kids d,0 < cnt f kids k e) then _ else _)=_
 rw [if_pos h']
theorem Ez {k:Nat}:∀ {L:List α},(∀ d∈L,0 < cnt f kids (k+1) d)->cntL (cnt f kids (k+1)) L=L.length+cntL (cnt f kids k) (L.flatMap kids)
 | [],_=>rfl
 | d::L,h=>by
  have h1:=Ez (k:=k) (L:=L) fun e he=>h e (List.mem_cons_of_mem _ he)
  have h2:=ML f kids (h d (List.mem_cons_self ..))
  show cnt f kids (k+1) d+cntL (cnt f kids (k+1)) L=(L.length+1)+cntL (cnt f kids k) (kids d++L.flatMap kids)
  rw [Ih,h1,h2]
  omega
theorem Et (bound:Nat):∀ (k:Nat) (L:List α) (c:Nat),c<=bound->(lvB f kids bound k L (c+L.length)=true ↔ (∀ d∈L,0 < cnt f kids k d)/\c+cntL (cnt f kids k) L<=bound)
 | k,[],c,hc=>by
  have e:lvB f kids bound k ([]:List α) (c+0)=true:=by cases k <;> rfl
  exact ⟨fun _=>⟨nofun,hc⟩,fun _=>e⟩
 | 0,d::L,c,hc=>by
  refine ⟨(fun h=>by cases h),fun h=>?_⟩
  exact absurd (h.1 d (List.mem_cons_self ..)) (Nat.lt_irrefl _)
 | k+1,d::L,c,hc=>by
  have e:lvB f kids bound (k+1) (d::L) (c+(d::L).length)=(decide (c+(d::L).length<=bound) && ((d::L).all f && lvB f kids bound k ((d::L).flatMap kids) (c+(d::L).length+((d::L).flatMap kids).length))):=rfl
  rw [e,Bool.and_eq_true,Bool.and_eq_true,decide_eq_true_iff,List.all_eq_true]
  generalize d::L=M
  constructor
  ·rintro ⟨h1,h2,h3⟩
   obtain ⟨h4,h5⟩:=(Et bound k (M.flatMap kids) (c+M.length) h1).mp h3
   have hall:∀ x∈M,0 < cnt f kids (k+1) x:=fun x hx=>(DB f kids).mpr ⟨h2 x hx,fun y hy=>h4 y (List.mem_flatMap.mpr ⟨x,hx,hy⟩)⟩
   refine ⟨hall,?_⟩
   rw [Ez f kids hall]
   omega
  ·rintro ⟨h1,h2⟩
   have h3:=Ez f kids h1
   have h4:=HD h1
   refine ⟨by omega,fun x hx=>((DB f kids).mp (h1 x hx)).1,(Et bound k (M.flatMap kids) (c+M.length) (by omega)).mpr ⟨fun y hy=>?_,by omega⟩⟩
   obtain ⟨x,hx,hy⟩:=List.mem_flatMap.mp hy
   exact ((DB f kids).mp (h1 x hx)).2 y hy
end
def C0 (K:W.Frag) (vA:V):V->Hp->VK->Prop:=fun v H Q=>∃ (m:Nat) (d:Dw),vA=.int m/\RepW K H d v/\Q (.bl (AG m d)) H
theorem JI {vA:V}:∀ v H Q Q',(∀ y H',Q y H'->Q' y H')->C0 K vA v H Q->C0 K vA v H Q':=fun v H Q Q' k q=>by
 obtain ⟨m,d,h1,h2,q⟩:=q
 exact ⟨m,d,h1,h2,k _ _ q⟩
def A0 (m:Nat) (d:Dw):Bool:=lvB (AG m) AH 20 8 [d] 1
def Ew (K:W.Frag) (ftw fil lam c':Addr) (qual:Str) (vA:V):Sp:=fun vs H Q _=>match vs with
 | [.ref a,.ref b,.ref c,v]=>a=lam/\b=ftw/\c=fil/\H c'=some (CdO c' qual)/\∃ (m:Nat) (d:Dw),vA=.int m/\RepW K H d v/\∀ H',Same H H'->Q (.bl (A0 m d)) H'
 | _=>False
theorem HA {m:Nat} {d:Dw} (h:AG m d=true):(AH d).length<=3:=by
 obtain ⟨s,ds,rfl,hl⟩:=Fz h
 show (if s=atS then [] else ds).length<=3
 by_cases e:s=atS
 ·rw [if_pos e];exact Nat.zero_le _
 ·rw [if_neg e];exact hl
theorem G4 {m:Nat}:∀ {L:List Dw},(∀ d∈L,AG m d=true)->(L.flatMap AH).length<=3 * L.length
 | [],_=>Nat.le_refl _
 | d::L,h=>by
  have h1:=G4 (L:=L) fun e he=>h e (List.mem_cons_of_mem _ he)
  have h2:=HA (h d (List.mem_cons_self ..))
  rw [List.flatMap_cons,List.length_append,List.length_cons]
  omega
theorem DP {H:Hp}:∀ {ds:List Dw} {xs:List V} {i:Nat} {x:V},RepsW K H ds xs->xs[i]? = some x->∃ d,ds[i]? = some d/\RepW K H d x
 | [],xs,i,x,h,e=>by unfold RepsW at h;subst h;cases e
 | d::ds,xs,i,x,h,e=>by
  unfold RepsW at h
  obtain ⟨y,l,rfl,r,h⟩:=h
  cases i with
  | zero=>cases e;exact ⟨d,rfl,r⟩
  | succ i=>exact DP (ds:=ds) (i:=i) h (by simpa using e)
theorem LF {m k mn:Nat} {L:List Dw} {d:Dw} (hd:d∈L) (h:AG m d=false):lvB (AG m) AH 20 k L mn=false:=by
 cases L with
 | nil=>cases hd
 | cons x L =>
  cases k with
  | zero=>rfl
  | succ k =>
   show (decide (mn<=20) && ((x::L).all (AG m) && _))=false
   have:(x::L).all (AG m)=false:=by
    cases e:(x::L).all (AG m) with
    | false=>rfl
    | true=>rw [List.all_eq_true.mp e d hd] at h;cases h
   rw [this,Bool.false_and,Bool.and_false]
theorem MF {lam c':Addr} {vA:V} {qual x:Str} {fdl:FuncData} (FV_z19:FnOk P w K mg base CX0 6 lam fdl [x] (Bv c' qual (C0 K vA))) (KV_z19:DZ K base lam) (BV_z19:Binds K fdl [x] []) :
 FnOk P w K mg base CX0 8 T.f_z20 T.d_z20 ["has_form","parts_within","is_beyond","thing"] (Ew K T.f_z0 T.f_z10 lam c' qual vA):=by
 have FV_parts_within:=LR (P:=P) (w:=w) (base:=base) T
 have FV_is_beyond:=Hw (P:=P) (w:=w) (base:=base) T
 have KV_parts_within:DZ K base T.f_z0:=.inl T.F_z0.kp
 have KV_is_beyond:DZ K base T.f_z10:=.inl T.F_z10.kp
 have BV_parts_within:=T.b_z0
 have BV_is_beyond:=T.b_z10
 refine T.F_z20.ok sc_z20 (fun vs H Q E h=>by unfold Ew at h;split at h <;> first | rfl | exact h.elim) (fun cdv A outer s H vs Q E hr h=>?_)
 have hu:=A1 hr
 have mo1:AZ (Bv c' qual (C0 K vA)):=LO JI
 have mo2:AZ (Cd K):=MT
 have mo3:AZ Ce:=JU
 have RV_z19:=hr.mono (show 6<=_ by decide)
 have RV_parts_within:=hr.mono (show 1<=_ by decide)
 have RV_is_beyond:=hr.mono (show 1<=_ by decide)
 match vs,h with
 | [.ref a,.ref b,.ref c,v],h =>
 obtain ⟨e1,e2,e3,hcd,m,d0,hg,hv,q⟩:=h
 subst e1 e2 e3
 refine ⟨_,(@AF _ _ _ _ _ (@AT _ _ 4 _ _ _ _ sc_z20.nd rfl (by right) (@Az _ _ _ _ (@pa1 _ _ _ (@vw _ 3 _ _ (by left)) (by rfl))) (by rfl) (by symm)) (@AF _ _ _ _ _ (@AT _ _ 5 _ _ _ _ sc_z20.nd rfl (by right) (@AA _ _ _ _) (by rfl) (by symm)) (@AF _ _ _ _ _ (@AT _ _ 6 _ _ _ _ sc_z20.nd rfl (by right) (@AA _ _ _ _) (by rfl) (by symm)) (@AF _ _ _ _ _ (@GY _ _ _ _ _ _ PassesOwn.never (@AS _ _ _ _ _ _ _ _ BR (@AX _ _ _ _ _ _ _ _ _ (BB (K:=K)) rfl T.z_len (by rfl) (@pa1 _ _ _ (@vw _ 4 _ _ (by left)) (by rfl)) (by decide) (by decide) (by rfl) (by rfl)) (@AA _ _ _ _) (by exfalso)) (@AF _ _ _ _ _ (@Ag _ _ _ _ _ _ _ _ (@Bq _ _ _ (@D8 _ _ _ _ _ _ _ _ _ _ _ _ _ (@vw _ 2 _ _ (by left)) FV_is_beyond RV_is_beyond KV_is_beyond BV_is_beyond (@AB _ _ _ _ _ (@vw _ 6 _ _ (by left)) (@pa1 _ _ _ (@vw _ 5 _ _ (by left)) (by rfl)) (by rfl)) (by rfl) (by rfl)) (by intro _;rfl)) (@AL _ _ _ (@AR _ _ _ _ (@BZ _ _ _ _))) (@Ae _)) (@AF _ _ _ _ _ (@AT _ _ 7 _ _ _ _ sc_z20.nd rfl (by right) (@Az _ _ _ _ (@Bs _)) (by rfl) (by symm)) (@AF _ _ _ _ _ (@DI _ _ _ _ _ _ _ _ PassesOwn.never rfl (@DX _ K _ _ _ (@vw _ 4 _ _ (by left)) (by rfl)) (@CD _ _ 8 _ sc_z20.nd rfl (by right) (by symm)) (@AF _ _ _ _ _ (@Ag _ _ _ _ _ _ _ _ (@CP _ _ _ _ (@Bq _ _ _ (@D8 _ _ _ _ _ _ _ _ _ _ _ _ _ (@vw _ 0 _ _ (by left)) FV_z19 RV_z19 KV_z19 BV_z19 (@pa1 _ _ _ (@vw _ 8 _ _ (by left)) (by rfl)) (by rfl) (by rfl)) (by intro _;rfl))) (@AL _ _ _ (@AR _ _ _ _ (@BZ _ _ _ _))) (@Ae _)) (@AL _ _ _ (@Jr _ _ _ _ (@K4 _ K _ _ _ _ _ _ (@vw _ 7 _ _ (by left)) (@pa1 _ _ _ (@D8 _ _ _ _ _ _ _ _ _ _ _ _ _ (@vw _ 1 _ _ (by left)) FV_parts_within RV_parts_within KV_parts_within BV_parts_within (@pa1 _ _ _ (@vw _ 8 _ _ (by left)) (by rfl)) (by rfl) (by rfl)) (by rfl)) (by rfl) (by rfl) (by rfl) (by rfl) (by rfl) (by rfl)) (by rfl)))) (by intro _;rfl)) (@AF _ _ _ _ _ (@AT _ _ 4 _ _ _ _ sc_z20.nd rfl (by right) (@vw _ 7 _ _ (by left)) (by rfl) (by symm)) (@AF _ _ _ _ _ (@AT _ _ 5 _ _ _ _ sc_z20.nd rfl (by right) (@AE _ _ _ _ _ _ _ _ (Aj (K:=K)) (@vw _ 5 _ _ (by left)) (@AA _ _ _ _)) (by rfl) (by symm)) (@AL _ _ _ (@AT _ _ 6 _ _ _ _ sc_z20.nd rfl (by right) (@AE _ _ _ _ _ _ _ _ (Aj (K:=K)) (@vw _ 6 _ _ (by left)) (@AX _ _ _ _ _ _ _ _ _ (BB (K:=K)) rfl T.z_len (by rfl) (@pa1 _ _ _ (@vw _ 4 _ _ (by left)) (by rfl)) (by decide) (by decide) (by rfl) (by rfl))) (by rfl) (by symm))))))))) (@AL _ _ _ (@AR _ _ _ _ (@BZ _ _ _ _))))))),?_⟩
 refine ⟨AI (show 1<=1000 by decide),fun l nl=>?_⟩
 dsimp only [Ai]
 refine ⟨fun mm σ H'=>∃ (l:Addr) (L:List Dw) (xs:List V) (d mn:Nat) (z7 z8:Option V),mm=10 - d/\σ=[some (.ref a),some (.ref T.f_z0),some (.ref T.f_z10),some v,some (.ref l),some (.int d),some (.int mn),z7,z8]/\Same H H'/\H l=none/\H' l=some (.lst xs)/\RepsW K H' L xs /\
  A0 m d0=lvB (AG m) AH 20 (9 - d) L mn/\L.length<=mn/\1<=d/\d<=9,⟨10 - 1,l,[d0],[v],1,1,none,none,rfl,rfl,Same.upd nl,nl,AC,CM (RepW.same (Same.upd nl) _ _ hv) BO,rfl,Nat.le_refl _,Nat.le_refl _,by decide⟩,?_⟩
 rintro mm σ H1 ⟨l1,L,xs,d,mn,z7,z8,rfl,rfl,s1,nl1,g1,hx,het,hLm,hd1,hd9⟩
 have hxl:=hx.length
 refine ⟨xs.length,.inl ⟨xs,.of g1,rfl⟩,?_⟩
 refine AN (fun e=>?_) (fun e=>?_)
 ·have hpos:0 < L.length:=by
   have:(0:Int) < (xs.length:Int):=of_decide_eq_true e
   omega
  obtain ⟨u0,L',rfl⟩:∃ u0 L',L=u0::L':=by
   cases L with
   | nil=>exact absurd hpos (Nat.lt_irrefl _)
   | cons u0 L'=>exact ⟨u0,L',rfl⟩
  refine ⟨rfl,?_⟩
  show (if (decide ((20:Int) < (mn:Int)) || decide ((8:Int) < (d:Int)))=true then _ else _)
  refine AN (fun e2=>?_) (fun e2=>?_)
  ·have e0:A0 m d0=false:=by
    rw [het]
    rw [Bool.or_eq_true,decide_eq_true_iff,decide_eq_true_iff] at e2
    by_cases hd:d=9
    ·subst hd;rfl
    ·obtain ⟨k,hk⟩:∃ k,9 - d=k+1:=⟨8 - d,by omega⟩
     rw [hk]
     show (decide (mn<=20) && _)=false
     rw [decide_eq_false (by omega),Bool.false_and]
   rw [e0] at q
   exact q H1 s1
  have e2':¬ ((20:Int) < (mn:Int))/\¬ ((8:Int) < (d:Int)):=by
   rw [Bool.or_eq_true,decide_eq_true_iff,decide_eq_true_iff] at e2
   exact ⟨fun z=>e2 (.inl z),fun z=>e2 (.inr z)⟩
  obtain ⟨k,hk⟩:∃ k,9 - d=k+1:=⟨8 - d,by omega⟩
  have hk2:9 - (d+1)=k:=by omega
  rw [hk] at het
  have het':A0 m d0=(decide (mn<=20) && ((u0::L').all (AG m) && lvB (AG m) AH 20 k ((u0::L').flatMap AH) (mn+((u0::L').flatMap AH).length))):=het
  rw [decide_eq_true (by omega),Bool.true_and] at het'
  have hno:∀ y∈u0::L',AG m y=false->A0 m d0=false:=fun y hy hf=>het.trans (LF hy hf)
  generalize u0::L'=L at *
  dsimp only [BA]
  refine ⟨Nat.zero_le _,fun b nb=>?_⟩
  dsimp only [Ai]
  have nb0:H b=none:=s1.free nb
  have hbl:b≠l1:=fun z=>by rw [z,g1] at nb;cases nb
  refine BI (fun σ H'=>∃ (ys:List V) (z8:Option V),σ=[some (.ref a),some (.ref T.f_z0),some (.ref T.f_z10),some v,some (.ref l1),some (.int d),some (.int mn),some (.ref b),z8]/\Same H H'/\H' b=some (.lst ys)/\RepsW K H' (L.flatMap AH) ys/\∀ y∈L,AG m y=true) ?_ ?_ (by walk_at "sm")
  ·refine .inl ⟨⟨_,.inl (.of (by rw [AJ (Ne.symm hbl)];exact g1))⟩,?_⟩
   refine Gn (xs:=xs) (fun j σ H'=>∃ (ys:List V) (z8:Option V),σ=[some (.ref a),some (.ref T.f_z0),some (.ref T.f_z10),some v,some (.ref l1),some (.int d),some (.int mn),some (.ref b),z8]/\Same H H'/\H' l1=some (.lst xs)/\H' b=some (.lst ys)/\RepsW K H' ((L.take j).flatMap AH) ys/\RepsW K H' L xs/\∀ y∈L.take j,AG m y=true) ⟨[],z8,rfl,Fx s1 nb0,by rw [AJ (Ne.symm hbl)];exact g1,AC,BO,RepsW.same (Same.upd nb) _ _ hx,nofun⟩ (fun j σ H' _ ⟨_,_,_,_,g,_⟩=>.inl (.of g)) ?_ ?_
   ·rintro j xv σ H2 hxj ⟨ys,z8',rfl,s2,g2,gb2,hy,hx2,hall⟩
    obtain ⟨u,hu',rdd⟩:=DP hx2 hxj
    have hum:=List.mem_of_getElem? hu'
    refine ⟨rfl,s2 _ _ hcd,m,u,hg,rdd,?_⟩
    cases hf:AG m u with
    | false =>
     rw [hno u hum hf] at q
     exact q H2 s2
    | true =>
    refine ⟨.inl ⟨rfl,_,.of gb2⟩,rfl,m,u,rdd,hf,fun p zs H3 s3 hp3 hz3=>?_⟩
    have hyl:=hy.length
    have hkl:=G4 hall
    rw [List.length_take] at hkl
    have hzl:=hz3.length
    have hul:=HA hf
    have f3:Frm b H3 (upd H3 b (.lst (ys++zs))):=fun b' o n e=>by rw [AJ n];exact e
    have lb:∃ ws,H3 b=some (.lst ws):=⟨_,s3 _ _ gb2⟩
    have fz:=fun (M:List Dw) (ws:List V) (r:RepsW K H2 M ws)=>RepsW.frm f3 lb _ _ (RepsW.same s3 _ _ r)
    refine ⟨ys,zs,s3 _ _ gb2,hp3,by omega,ys++zs,_,rfl,Fx (s2.trans s3) nb0,by rw [AJ (Ne.symm hbl)];exact s3 _ _ g2,AC,?_,fz L xs hx2,?_⟩
    ·rw [List.take_add_one,hu',List.flatMap_append]
     refine (fz _ _ hy).append ?_
     have e0:((some u).toList.flatMap AH)=AH u:=by simp
     rw [e0]
     exact fz _ _ hz3
    ·intro y hy'
     rw [List.take_add_one,hu'] at hy'
     rcases List.mem_append.mp hy' with h | h
     ·exact hall y h
     ·have:y=u:=by simpa using h
      rw [this];exact hf
   ·rintro σ H2 ⟨ys,z8',rfl,s2,g2,gb2,hy,_,hall⟩
    rw [<- hxl,List.take_length] at hy hall
    exact ⟨ys,_,rfl,s2,gb2,hy,hall⟩
  rintro σ H2 ⟨ys,z8',rfl,s2,gb2,hy,hall⟩
  have hyl:=hy.length
  rw [List.all_eq_true.mpr hall,Bool.true_and] at het'
  refine ⟨ys.length,.inl ⟨ys,.of gb2,rfl⟩,?_⟩
  refine ⟨10 - (d+1),by omega,b,L.flatMap AH,ys,d+1,mn+ys.length,_,_,rfl,rfl,s2,nb0,gb2,hy,?_,by omega,by omega,by omega⟩
  rw [hk2,<- hyl]
  exact het'
 ·have hz:L=[]:=by
   have:¬ (0:Int) < (xs.length:Int):=fun z=>e (decide_eq_true z)
   exact List.length_eq_zero_iff.mp (by omega)
  subst hz
  have e0:A0 m d0=true:=by
   rw [het]
   cases 9 - d <;> rfl
  rw [e0] at q
  exact q H1 s1
def ME (b:List Stmt):Expr:=match b with
 | [.Return (some (.Call _ (l::_) _ _)) _]=>l
 | _=>.Name "" ⟨0,0,0,0⟩
def E4 (e:Expr):Arguments:=match e with
 | .Lambda p _ _ _=>p
 | _=>{ posonlyargs:=[],args:=[],vararg:=none,kwonlyargs:=[],kw_defaults:=[],kwarg:=none,defaults:=[] }
def EJ (e:Expr):Expr:=match e with
 | .Lambda _ b _ _=>b
 | e=>e
def DC (e:Expr):Scope:=match e with
 | .Lambda _ _ s _=>s
 | _=>{ kind:=.function,names:=[],isGenerator:=false,isCoroutine:=false }
def BN:Expr:=ME (Ac Bg)
theorem J7 (T:Txt w K mg) {lam cell c':Addr} {pm ctv uA:Value} {vA:V} (hl:base.get? lam=some (W.kla_obj "<lambda>" BK (E4 BN) (EJ BN) (DC BN) [("n",cell)] pm c' ctv)) (hc:base.IsCell cell (some uA)) (rA:RelV vA uA) :
 FnOk P w K mg base CX0 6 lam (W.kla_fn "<lambda>" BK (E4 BN) (EJ BN) (DC BN) [("n",cell)] pm (.ref c') ctv) ["part"] (Bv c' BK (C0 K vA)):=by
 have G_z19:=MJ (P:=P) (w:=w) (base:=base) T
 refine JF (k:=5) hl hc rA rfl rfl ?_ rfl rfl rfl ?_ fun A outer s H v Q hr h=>?_
 ·intro y hy
  have h:=List.all_eq_true.mp (show (DC BN).names.all (fun p=>p.2 != .free || p.1 == "n")=true by decide +kernel) _ (PySem.mem_of_lookup hy)
  simpa using h
 ·decide +kernel
 have hr_z19:=hr.mono (show 3<=_ by decide)
 obtain ⟨m,d,rfl,hv,q⟩:=h
 refine ⟨_,(@AQ _ _ _ _ _ _ _ _ _ _ _ _ _ _ _ _ G_z19 hr_z19 rfl T.m_z19 T.F_z19.kp T.b_z19 .nil AO (@AB _ _ _ _ _ (@vw _ 1 _ _ (by left)) (@pa1 _ _ _ (@vw _ 0 _ _ (by left)) (by rfl)) (by rfl)) (by decide) (by rfl) (by rfl)),?_⟩
 exact ⟨m,d,rfl,hv,q⟩
mutual
theorem RepW.tab {Pt:Addr} {ps:Array Value} {H H':Hp} (s:Grow Pt H H') (hz:H Pt=some (.tbl ps)):∀ (d:Dw) (v:V),RepW K H d v->RepW K H' d v
 | .non,v,h=>by unfold RepW at *;exact h
 | .bl b,v,h=>by unfold RepW at *;exact h
 | .int i,v,h=>by unfold RepW at *;exact h
 | .str x,v,h=>by unfold RepW at *;exact h
 | .tup ds,v,h=>by
  unfold RepW at *
  obtain ⟨a,xs,e,h1,h2⟩:=h
  exact ⟨a,xs,e,JM s hz h1,RepsW.tab s hz ds xs h2⟩
 | .lst ds,v,h=>by
  unfold RepW at *
  obtain ⟨a,xs,e,h1,h2⟩:=h
  exact ⟨a,xs,e,s _ _ (fun z=>by rw [z,hz] at h1;cases h1) h1,RepsW.tab s hz ds xs h2⟩
 | .emp,v,h=>by
  unfold RepW at *
  obtain ⟨a,e,h1⟩:=h
  exact ⟨a,e,s _ _ (fun z=>by rw [z,hz] at h1;cases h1) h1⟩
theorem RepsW.tab {Pt:Addr} {ps:Array Value} {H H':Hp} (s:Grow Pt H H') (hz:H Pt=some (.tbl ps)):∀ (ds:List Dw) (xs:List V),RepsW K H ds xs->RepsW K H' ds xs
 | [],xs,h=>by unfold RepsW at *;exact h
 | d::ds,xs,h=>by
  unfold RepsW at *
  obtain ⟨x,r,e,h1,h2⟩:=h
  exact ⟨x,r,e,RepW.tab s hz d x h1,RepsW.tab s hz ds r h2⟩
end
def Cu (K:W.Frag) (Pt:Addr):Sp:=fun vs H Q _=>match vs with
 | [u,v]=>∃ (m:Nat) (d:Dw),u=.int m/\RepW K H d v/\Lam Pt Ct BK H/\∀ H',Grow Pt H H'->Lam Pt Ct BK H'->Q (.bl (A0 m d)) H'
 | _=>False
theorem Ly {Pt:Addr}:AZ (Cu K Pt):=fun vs H Q Q' E h q=>by
 unfold Cu at *
 split at q
 ·revert q;repeat' first | exact h _ _ | exact Cs h | exact out_mono h | exact outT_mono h | walk_at "m"
 ·exact q.elim
theorem IM (B:BMn mg base):FnOk P w K mg base CX0 9 T.f_z12 T.d_z12 ["n","thing"] (Cu K T.p_z12):=by
 refine T.F_z12.okC T.gc_z12 Hy (fun vs H Q E h=>by unfold Cu at h;split at h <;> first | rfl | exact h.elim) (fun A outer s H vs Q E hr h=>?_)
 have hu:=A1 hr
 have hr_z20:=hr.mono (show 8<=_ by decide)
 unfold Cu at h
 split at h
 rotate_left
 ·exact h.elim
 rename_i u v
 obtain ⟨m,d,hg,hv,hL,q⟩:=h
 let spK:Addr->Addr->V->Sp:=fun lam c' vA=>Ew K T.f_z0 T.f_z10 lam c' BK vA
 have hFL:∀ (base':Heap) (lam cell c':Addr) (pm ctv uA:Value) (vA:V),(∀ b o,base.get? b=some o->base'.get? b=some o)->base'.get? lam=some (W.kla_obj "<lambda>" BK (E4 BN) (EJ BN) (DC BN) [("n",cell)] pm c' ctv)->base'.IsCell cell (some uA)->RelV vA uA->FnOk P w K mg base' CX0 8 T.f_z20 T.d_z20 ["has_form","parts_within","is_beyond","thing"] (spK lam c' vA) :=
  fun base' lam cell c' pm ctv uA vA _ hl hc rA=>MF (base:=base') T (J7 (base:=base') T hl hc rA) (.inr ⟨_,_,hl,rfl⟩) (.all fun us hl=>match us,hl with | [_],_=>rfl)
 have hclL:∀ cell,(PyProof.Rows.envOfC "is_formula" (AM Bg) s.heap.objs.size T.f_z12 (.ref T.g_z12)).cells.lookup (PySem.Str.ofString "n")=some cell->closureFor (DC BN) (PyProof.Rows.envOfC "is_formula" (AM Bg) s.heap.objs.size T.f_z12 (.ref T.g_z12))=pure [((PySem.Str.ofString "n" : Str),cell)]:=fun cell h=>by
  have e:some (s.heap.objs.size+1)=some cell:=h
  cases e
  rfl
 refine ⟨_,(@AL _ _ _ (@AR _ _ _ _ (@LD _ T.p_z12 T.g_z12 _ _ _ _ 0 _ "n" _ _ _ _ _ _ _ _ _ BK spK rfl T.m_z20 T.F_z20.kp hr_z20 T.b_z20 rfl T.gh_z12 B rfl rfl rfl hclL rfl rfl hFL (@AB _ _ _ _ _ (@Cf _ _ (.ref T.f_z0) _ _ rfl T.m_z0 rfl (by decide)) (@AB _ _ _ _ _ (@Cf _ _ (.ref T.f_z10) _ _ rfl T.m_z10 rfl (by decide)) (@pa1 _ _ _ (@vw _ 1 _ _ (by left)) (by rfl)) (by rfl)) (by rfl)) (by decide) (by rfl) (by rfl)))),?_⟩
 refine ⟨u,rfl,hL,fun lam c' H1 g1 l1 hc1 hn1=>?_⟩
 obtain ⟨pz,hP,_⟩:=id hL
 exact ⟨rfl,rfl,rfl,hc1,m,d,hg,RepW.tab g1 hP _ _ hv,fun H' s'=>q H' (g1.trans (Grow.same s')) (l1.same s')⟩
abbrev CF:List (Key × V):=[(Sum.inr "yes",.int 0),(Sum.inr "no",.int 0),(Sum.inr "not",.int 1),(Sum.inr "both",.int 2),(Sum.inr "either",.int 2),(Sum.inr "odd",.int 2),(Sum.inr "most",.int 3)]
theorem JW {s:Str} (h:s≠atS):AW CF (Sum.inr s)=(BS s).map fun k=>V.int (k:Nat):=by
 have go:∀ (x:Str) (v:V) (r:List (Key × V)),AW ((Sum.inr x,v)::r) (Sum.inr s:Key)=if s=x then some v else AW r (Sum.inr s):=fun x v r=>by
  by_cases e:s=x
  ·rw [if_pos e,DJ (show (Sum.inr x:Key)=Sum.inr s by rw [e])]
  ·rw [if_neg e,DS (fun z=>e (by cases z;rfl))]
 unfold BS
 unfold atS at h
 simp only [go,Hd]
 repeat' split
 all_goals first | rfl | contradiction
theorem G6 {m k:Nat} {d:Dw} (h:AG m d=false):cnt (AG m) AH k d=0:=by
 cases k with
 | zero=>rfl
 | succ k =>
  show (if AG m d=true/\_ then _ else 0)=0
  rw [if_neg (fun z=>by rw [h] at z;cases z.1)]
theorem Hc {α:Type} (f:α->Nat):∀ L:List α,(L.map fun x=>((f x:Nat):Int)).sum=((cntL f L:Nat):Int)
 | []=>rfl
 | x::L=>by
  have:=Hc f L
  show (f x:Int)+(L.map fun x=>((f x:Nat):Int)).sum=((f x+cntL f L:Nat):Int)
  rw [this];omega
theorem IX {α:Type} (f:α->Nat) (L:List α):inV (.int 0) (L.map fun x=>V.int (f x:Nat))=true ↔ ∃ x∈L,f x=0:=by
 unfold inV
 rw [List.any_eq_true]
 constructor
 ·rintro ⟨v,hv,e⟩
  obtain ⟨x,hx,rfl⟩:=List.mem_map.mp hv
  refine ⟨x,hx,?_⟩
  have:f x=0:=by simpa [eqV] using e
  omega
 ·rintro ⟨x,hx,e⟩
  exact ⟨_,List.mem_map.mpr ⟨x,hx,rfl⟩,by simp [eqV,e]⟩
def spC (K:W.Frag) (D:Nat):Sp:=fun vs H Q _=>match vs with
 | [.int n,v,.int z]=>∃ (m k:Nat) (d:Dw),n=m/\RepW K H d v/\z=9 - (k:Int)/\k<=8/\k < D/\∀ H',Same H H'->Q (.int (cnt (AG m) AH k d:Nat)) H'
 | _=>False
theorem G1 {D:Nat}:AZ (spC K D):=fun vs H Q Q' E h q=>by
 unfold spC at *
 split at q
 ·revert q;repeat' first | exact h _ _ | exact Cs h | exact out_mono h | exact outT_mono h | walk_at "m"
 ·exact q.elim
theorem LJ (D:Nat) (G_z9:FnOk P w K mg base CX0 (D+3) T.f_z9 T.d_z9 ["_law_n","_law_thing","_law_deep"] (spC K D)):FnOk P w K mg base CX0 (D+4) T.f_z9 T.d_z9 ["_law_n","_law_thing","_law_deep"] (spC K (D+1)):=by
 refine T.F_z9.ok sc_z9 (fun vs H Q E h=>by unfold spC at h;split at h <;> first | rfl | exact h.elim) (fun cdv A outer s H vs Q E hr h=>?_)
 have hu:=A1 hr
 have hr_z9:=hr
 have mo1:AZ (spC K D):=G1
 match vs,h with
 | [.int n,v,.int z],⟨m,k,d,e1,hv0,e2,hk8,hkD,q⟩ =>
 subst e1 e2
 refine ⟨_,(@AF _ _ _ _ _ (@AT _ _ 3 _ _ _ _ sc_z9.nd rfl (by right) (@LS _ _ _ _ _ (@B0 _ _ _ _ _ _ _ _ _ (@AK _ _ _ _) (@AA _ _ _ _) (@B0 _ _ _ _ _ _ _ _ _ (@AK _ _ _ _) (@AA _ _ _ _) (@B0 _ _ _ _ _ _ _ _ _ (@AK _ _ _ _) (@AA _ _ _ _) (@B0 _ _ _ _ _ _ _ _ _ (@AK _ _ _ _) (@AA _ _ _ _) (@B0 _ _ _ _ _ _ _ _ _ (@AK _ _ _ _) (@AA _ _ _ _) (@B0 _ _ _ _ _ _ _ _ _ (@AK _ _ _ _) (@AA _ _ _ _) (@B0 _ _ _ _ _ _ _ _ _ (@AK _ _ _ _) (@AA _ _ _ _) (@MD _ _)))))))) rfl rfl (by simp) (by decide)) (by rfl) (by symm)) (@AF _ _ _ _ _ (@Ag _ _ _ _ _ _ _ _ (PW.pt (@BX _ _ _ _ _ _ _ (@AS _ _ _ _ _ _ _ _ BR (@vw _ 2 _ _ (by left)) (@AA _ _ _ _) (by exfalso)) (@BX _ _ _ _ _ _ _ (@CP _ _ _ _ (@Bq _ _ _ (@AX _ _ _ _ _ _ _ _ _ (Bo (K:=K)) rfl T.z_isinstance (by rfl) (@AB _ _ _ _ _ (@vw _ 1 _ _ (by left)) (@pa1 _ _ _ (@Be _ _ (.ty "tuple") _ _ rfl T.z_tuple (by rfl) rfl (by decide) (by decide)) (by rfl)) (by rfl)) (by decide) (by decide) (by rfl) (by rfl)) (by intro _;rfl))) (@BX _ _ _ _ _ _ _ (@AS _ _ _ _ _ _ _ _ (kEq (K:=K) hu) (@AX _ _ _ _ _ _ _ _ _ (BB (K:=K)) rfl T.z_len (by rfl) (@pa1 _ _ _ (@vw _ 1 _ _ (by left)) (by rfl)) (by decide) (by decide) (by rfl) (by rfl)) (@AA _ _ _ _) (by exfalso)) (@CH _ _ _ _ (@CP _ _ _ _ (@Bq _ _ _ (@AX _ _ _ _ _ _ _ _ _ (Bo (K:=K)) rfl T.z_isinstance (by rfl) (@AB _ _ _ _ _ (@kIx _ K _ _ _ _ _ (@vw _ 1 _ _ (by left)) (@AA _ _ _ _) (by intro _ _;rfl) (by rfl)) (@pa1 _ _ _ (@Be _ _ (.ty "str") _ _ rfl T.z_str (by rfl) rfl (by decide) (by decide)) (by rfl)) (by rfl)) (by decide) (by decide) (by rfl) (by rfl)) (by intro _;rfl)))))))) (@AL _ _ _ (@AR _ _ _ _ (@AA _ _ _ _))) (@Ae _)) (@AF _ _ _ _ _ (@Ag _ _ _ _ _ _ _ _ (@AS _ _ _ _ _ _ _ _ (kEq (K:=K) hu) (@kIx _ K _ _ _ _ _ (@vw _ 1 _ _ (by left)) (@AA _ _ _ _) (by intro _ _;rfl) (by rfl)) (@AK _ _ _ _) (by exfalso)) (@AF _ _ _ _ _ (@AT _ _ 4 _ _ _ _ sc_z9.nd rfl (by right) (@Bw _ _ _ _ _ _ _ (@CW _ _ _ _ _ _ _ _ (kEq (K:=K) hu) (@AX _ _ _ _ _ _ _ _ _ (BB (K:=K)) rfl T.z_len (by rfl) (@pa1 _ _ _ (@vw _ 1 _ _ (by left)) (by rfl)) (by decide) (by decide) (by rfl) (by rfl)) (@AA _ _ _ _) (by exfalso)) (@Bw _ _ _ _ _ _ _ (@AX _ _ _ _ _ _ _ _ _ (Bo (K:=K)) rfl T.z_isinstance (by rfl) (@AB _ _ _ _ _ (@kIx _ K _ _ _ _ _ (@vw _ 1 _ _ (by left)) (@AA _ _ _ _) (by intro _ _;rfl) (by rfl)) (@pa1 _ _ _ (@Be _ _ (.ty "int") _ _ rfl T.z_int (by rfl) rfl (by decide) (by decide)) (by rfl)) (by rfl)) (by decide) (by decide) (by rfl) (by rfl)) (@CB _ _ _ _ _ (@HU _ _ _ _ (@AX _ _ _ _ _ _ _ _ _ (Bo (K:=K)) rfl T.z_isinstance (by rfl) (@AB _ _ _ _ _ (@kIx _ K _ _ _ _ _ (@vw _ 1 _ _ (by left)) (@AA _ _ _ _) (by intro _ _;rfl) (by rfl)) (@pa1 _ _ _ (@Be _ _ (.ty "bool") _ _ rfl T.z_bool (by rfl) rfl (by decide) (by decide)) (by rfl)) (by rfl)) (by decide) (by decide) (by rfl) (by rfl)))))) (by rfl) (by symm)) (@AL _ _ _ (@AR _ _ _ _ (@FA _ _ _ _ _ _ _ _ _ MI rfl T.z_int (by rfl) (@pa1 _ _ _ (@Bw _ _ _ _ _ _ _ (@vw _ 4 _ _ (by left)) (@CB _ _ _ _ _ (@E9 _ _ _ _ _ _ _ _ _ _ _ _ DV Bc (@AA _ _ _ _) (@kIx _ K _ _ _ _ _ (@vw _ 1 _ _ (by left)) (@AA _ _ _ _) (by intro _ _;rfl) (by rfl)) (@vw _ 0 _ _ (by left)) (by with_unfolding_all rfl)))) (by rfl)) (by decide) (by decide) (by rfl) (by rfl))))) (@Ae _)) (@AF _ _ _ _ _ (@Ag _ _ _ _ _ _ _ _ (PW.pt (@BX _ _ _ _ _ _ _ (@AS _ _ _ _ _ _ _ _ (MM hu) (@kIx _ K _ _ _ _ _ (@vw _ 1 _ _ (by left)) (@AA _ _ _ _) (by intro _ _;rfl) (by rfl)) (@vw _ 3 _ _ (by left)) (by exfalso)) (@CH _ _ _ _ (@AS _ _ _ _ _ _ _ _ (kNe (K:=K) hu) (@AX _ _ _ _ _ _ _ _ _ (BB (K:=K)) rfl T.z_len (by rfl) (@pa1 _ _ _ (@vw _ 1 _ _ (by left)) (by rfl)) (by decide) (by decide) (by rfl) (by rfl)) (@AE _ _ _ _ _ _ _ _ (Aj (K:=K)) (@AA _ _ _ _) (@Le _ _ _ _ _ _ (HG hu) (@vw _ 3 _ _ (by left)) (@kIx _ K _ _ _ _ _ (@vw _ 1 _ _ (by left)) (@AA _ _ _ _) (by intro _ _;rfl) (by rfl)) (by intro _ _;rfl))) (by exfalso))))) (@AL _ _ _ (@AR _ _ _ _ (@AA _ _ _ _))) (@Ae _)) (@AF _ _ _ _ _ (@FQ _ _ _ _ _ _ _ (["_law_one","_law_n","_law_deep"]) 1 ([0,2]) _ _ _ _ 5 _ _ _ rfl sc_z9.nd rfl rfl (@DX _ K _ _ _ (@CG _ K _ _ _ _ _ _ _ _ (@vw _ 1 _ _ (by left)) (@Bk _ _ _ (@AA _ _ _ _)) (@Bn _) (by rfl)) (by rfl)) (by kernel_rfl) rfl rfl (by kernel_rfl) (fun c=>@CD _ _ 0 _ (show (["_law_one","_law_n","_law_deep"]:List Str).Nodup by decide +kernel) rfl (by right) (by symm)) (EE (by decide)) (fun c=>@Ek _) (fun c=>(@AQ _ _ _ _ _ _ _ _ _ _ _ _ _ _ _ _ G_z9 hr_z9 rfl T.m_z9 T.F_z9.kp T.b_z9 .nil AO (@AB _ _ _ _ _ (@vw _ 1 _ _ (by left)) (@AB _ _ _ _ _ (@vw _ 0 _ _ (by left)) (@pa1 _ _ _ (@AE _ _ _ _ _ _ _ _ (Aj (K:=K)) (@vw _ 2 _ _ (by left)) (@AA _ _ _ _)) (by rfl)) (by rfl)) (by rfl)) (by decide) (by rfl) (by rfl))) (by rfl) (by intro _;rfl)) (@AL _ _ _ (@AR _ _ _ _ (@DM _ _ _ _ _ _ _ _ (@AS _ _ _ _ _ _ _ _ (kIn (K:=K)) (@AA _ _ _ _) (@vw _ 5 _ _ (by left)) (by exfalso)) (@AA _ _ _ _) (@AE _ _ _ _ _ _ _ _ (Aj (K:=K)) (@AA _ _ _ _) (@AX _ _ _ _ _ _ _ _ _ (IR (K:=K) rfl) rfl T.z_sum (by rfl) (@pa1 _ _ _ (@vw _ 5 _ _ (by left)) (by rfl)) (by decide) (by decide) (by rfl) (by rfl))))))))))),?_⟩
 intro p0 np0
 refine ⟨AC,CF,rfl,by decide,?_⟩
 dsimp only [Ai]
 have s1:Same H (upd (upd H p0 (.dK [])) p0 (.dK (Bm [] CF))):=by
  intro b o e
  have:b≠p0:=fun z=>by rw [z,np0] at e;cases e
  rw [AJ this,AJ this];exact e
 have g1:(upd (upd H p0 (.dK [])) p0 (.dK (Bm [] CF))) p0=some (.dK CF):=by
  rw [AC];rfl
 have hv:=RepW.same s1 _ _ hv0
 generalize upd (upd H p0 (.dK [])) p0 (.dK (Bm [] CF))=H1 at *
 refine AN (fun e=>?_) (fun e=>?_)
 ·have:(8:Int) < 9 - (k:Int):=of_decide_eq_true e
  have hk:k=0:=by omega
  subst hk
  exact q H1 s1
 obtain ⟨k,rfl⟩:∃ k',k=k'+1:=⟨k - 1,by
  have:k≠0:=fun z=>e (by rw [z];rfl)
  omega⟩
 refine ⟨by decide,d,hv,?_⟩
 cases d with
 | tup ds =>
  obtain ⟨p,xs,rfl,hp,hx⟩:=Ej hv
  have hxl:=hx.length
  refine ⟨xs.length,.inr ⟨_,hp,rfl⟩,?_⟩
  match ds,hxl,hx,q with
  | [],hxl,hx,q =>
   have e0:xs.length=0:=hxl.symm
   refine AN (fun e=>q H1 s1) (fun e=>absurd ?_ e)
   show (false ^^ (((xs.length:Nat):Int) == 0))=true
   rw [e0];rfl
  | d0::ds',hxl,hx,q =>
   have hl1:xs.length=ds'.length+1:=hxl.symm
   have lenb:∀ c:Nat,(false ^^ (((xs.length:Nat):Int) == ((c+1:Nat):Int)))=(ds'.length == c):=fun c=>by
    rw [Bool.false_xor,Bool.eq_iff_iff]
    simp only [beq_iff_eq]
    omega
   refine AN (fun e=>?_) (fun e=>?_)
   ·have e':(false ^^ (((xs.length:Nat):Int) == 0))=true:=e
    rw [Bool.false_xor,beq_iff_eq] at e'
    omega
   obtain ⟨x0,e0,r0⟩:=hx.get (i:=0) rfl
   refine ⟨_,x0,.inr hp,Ad (n:=0) rfl e0,by decide,d0,r0,?_⟩
   cases d0 with
   | str s =>
    unfold RepW at r0
    subst r0
    dsimp only [BA]
    refine ⟨_,_,.inr hp,Ad (n:=0) rfl e0,?_⟩
    refine AN (fun e2=>?_) (fun e2=>?_)
    ·have es:s=atS:=of_decide_eq_true ((Cc s).symm.trans e2)
     have ec:cnt (AG m) AH (k+1) (.tup (.str s::ds'))=if at1 m ds'=true then 1 else 0:=by
      have e3:AG m (.tup (.str s::ds'))=at1 m ds':=if_pos es
      have e4:AH (.tup (.str s::ds'))=[]:=if_pos es
      show (if AG m (.tup (.str s::ds'))=true/\(∀ e∈AH (.tup (.str s::ds')),0 < cnt (AG m) AH k e) then 1+cntL (cnt (AG m) AH k) (AH (.tup (.str s::ds'))) else 0)=_
      rw [e3,e4]
      by_cases c:at1 m ds'=true
      ·rw [if_pos ⟨c,nofun⟩,if_pos c];rfl
      ·rw [if_neg (fun z=>c z.1),if_neg c]
     rw [ec] at q
     refine ⟨xs.length,.inr ⟨_,hp,rfl⟩,?_⟩
     refine AN (fun e3=>?_) (fun e3=>?_)
     ·have e4:ds'.length=1:=by simpa using (lenb 1).symm.trans e3
      match ds',e4,hx,q with
      | [d1],_,hx,q =>
      obtain ⟨x1,e1,r1⟩:=hx.get (i:=1) rfl
      have q:∀ H',Same H H'->Q (.int ((if E7 m d1=true then 1 else 0:Nat):Int)) H':=q
      refine ⟨_,x1,.inr hp,Ad (n:=1) rfl e1,by decide,d1,r1,?_⟩
      cases d1 with
      | int c =>
       have q:∀ H',Same H H'->Q (.int ((if (decide (0<=c) && decide (c < (m:Int)))=true then 1 else 0:Nat):Int)) H':=q
       refine ⟨_,x1,.inr hp,Ad (n:=1) rfl e1,by decide,_,r1,?_⟩
       unfold RepW at r1
       subst r1
       dsimp only [Ai]
       refine ⟨_,_,.inr hp,Ad (n:=1) rfl e1,?_⟩
       refine AN (fun e5=>?_) (fun e5=>?_)
       ·have e6:0<=c:=of_decide_eq_true e5
        rw [decide_eq_true e6,Bool.true_and] at q
        have e8:((if decide (c < (m:Int))=true then 1 else 0:Nat):Int)=if decide (c < (m:Int))=true then 1 else 0:=by split <;> rfl
        rw [e8] at q
        exact q H1 s1
       ·have e6:¬ 0<=c:=fun z=>e5 (decide_eq_true z)
        rw [decide_eq_false e6,Bool.false_and] at q
        exact q H1 s1
      | bl b=>exact ⟨_,x1,.inr hp,Ad (n:=1) rfl e1,by decide,_,r1,q H1 s1⟩
      | _=>exact q H1 s1
     ·have e4:at1 m ds'=false:=by
       unfold at1
       split
       ·exact absurd ((lenb 1).trans rfl) e3
       ·rfl
      rw [e4] at q
      exact q H1 s1
    ·have es:¬ s=atS:=fun z=>e2 ((Cc s).trans (decide_eq_true z))
     dsimp only [BA]
     have dg:DGet H1 p0 (.str s) (AW CF (Sum.inr s)):=DGet.k (k:=Sum.inr s) g1
     rw [JW es] at dg
     have ef:AG m (.tup (.str s::ds'))=match BS s with | some k=>ds'.length == k | none=>false:=if_neg es
     have ek:AH (.tup (.str s::ds'))=ds':=if_neg es
     refine ⟨_,_,.inr hp,Ad (n:=0) rfl e0,_,dg,?_⟩
     cases hk:BS s with
     | none =>
      rw [hk] at ef
      rw [G6 ef] at q
      exact q H1 s1
     | some c =>
      rw [hk] at ef dg
      refine ⟨xs.length,.inr ⟨_,hp,rfl⟩,_,_,.inr hp,Ad (n:=0) rfl e0,p0,_,rfl,dg,?_⟩
      have hc3:=HF hk
      have l1:(true ^^ (((xs.length:Nat):Int) == 1+(c:Int))) = !(ds'.length == c):=by
       rw [<- lenb c,Bool.false_xor,Bool.true_xor,show ((c+1:Nat):Int)=1+(c:Int) by omega]
      refine AN (fun e3=>?_) (fun e3=>?_)
      ·have e4:(ds'.length == c)=false:=by
        have:=l1.symm.trans e3
        simpa using this
       rw [G6 (ef.trans e4)] at q
       exact q H1 s1
      have e4:ds'.length=c:=by
       have:¬ (!(ds'.length == c))=true:=fun z=>e3 (l1.trans z)
       simpa using this
      have ef':AG m (.tup (.str s::ds'))=true:=ef.trans (by simpa using e4)
      dsimp only [BA]
      refine BI (fun σ' H'=>∃ l,Same H1 H'/\H' l=some (.lst (ds'.map fun x=>V.int (cnt (AG m) AH k x:Nat)))/\σ'=[some (.int m),some (.ref p),some (.int (9 - ((k+1:Nat):Int))),some (.ref p0),none,some (.ref l)]) ?_ ?_ (by walk_at "sm")
      ·refine ⟨1,rfl,_,hp,fun p1 H2 s2 hp2=>?_⟩
       rw [GT (by omega)] at hp2
       have hx2:RepsW K H1 ds' (xs.drop 1):=RepsW.drop 1 hx
       generalize xs.drop 1=ys at *
       refine .inr ⟨⟨_,hp2⟩,LY (xs:=ys) (fun i zs H'=>Same H2 H'/\zs=(ds'.take i).map fun x=>V.int (cnt (AG m) AH k x:Nat)) ⟨Same.refl _,rfl⟩ (fun i zs H' _ ⟨s,_⟩=>s.sqT hp2) (fun i zs H' hi ⟨_,e⟩=>by
        rw [e,List.length_map,List.length_take]
        exact Dg (by omega)) ?_ ?_⟩
       ·rintro i v zs H4 hv ⟨s4,hz⟩
        obtain ⟨d1,hd1,r1⟩:=DP hx2 hv
        refine ⟨m,k,d1,rfl,RepW.same (s2.trans s4) _ _ r1,by omega,by omega,by omega,fun H5 s5=>⟨s4.trans s5,?_⟩⟩
        rw [hz,List.take_add_one,hd1,List.map_append]
        rfl
       ·rintro zs H4 ⟨s4,hz⟩ l hl
        have hyl:=hx2.length
        rw [<- hyl,List.take_length] at hz
        rw [hz]
        exact ⟨l,(s2.trans s4).trans (Same.upd hl),AC,rfl⟩
      rintro σ' H2 ⟨l,s2,gl,rfl⟩
      have ec:cnt (AG m) AH (k+1) (.tup (.str s::ds'))=if (∀ e∈ds',0 < cnt (AG m) AH k e) then 1+cntL (cnt (AG m) AH k) ds' else 0:=by
       show (if AG m (.tup (.str s::ds'))=true/\(∀ e∈AH (.tup (.str s::ds')),0 < cnt (AG m) AH k e) then 1+cntL (cnt (AG m) AH k) (AH (.tup (.str s::ds'))) else 0)=_
       rw [ek]
       by_cases c:∀ e∈ds',0 < cnt (AG m) AH k e
       ·rw [if_pos ⟨ef',c⟩,if_pos c]
       ·rw [if_neg (fun z=>c z.2),if_neg c]
      rw [ec] at q
      have hfl:(ds'.map fun x=>V.int (cnt (AG m) AH k x:Nat)).all BP=true:=by
       rw [List.all_eq_true]
       intro v hv
       obtain ⟨x,_,rfl⟩:=List.mem_map.mp hv
       rfl
      have iz:=IX (cnt (AG m) AH k) ds'
      refine ⟨_,.inl (.of gl),rfl,hfl,?_⟩
      refine AN (fun e5=>?_) (fun e5=>?_)
      ·have e6:inV (.int 0) (ds'.map fun x=>V.int (cnt (AG m) AH k x:Nat))=true:=by
        have:(false ^^ inV (.int 0) (ds'.map fun x=>V.int (cnt (AG m) AH k x:Nat)))=true:=e5
        rwa [Bool.false_xor] at this
       obtain ⟨x,hx,ez⟩:=iz.mp e6
       rw [if_neg (fun z=>by have:=z x hx;omega)] at q
       exact q H2 (s1.trans s2)
      ·have hall:∀ e∈ds',0 < cnt (AG m) AH k e:=fun e he=>by
        rcases Nat.eq_zero_or_pos (cnt (AG m) AH k e) with z | z
        ·exact absurd (show (false ^^ inV (.int 0) (ds'.map fun x=>V.int (cnt (AG m) AH k x:Nat)))=true by rw [Bool.false_xor];exact iz.mpr ⟨e,he,z⟩) e5
        ·exact z
       rw [if_pos hall] at q
       refine ⟨ds'.map fun x=>((cnt (AG m) AH k x:Nat):Int),.of (by rw [gl,List.map_map];rfl),?_⟩
       have q2:=q H2 (s1.trans s2)
       rw [show ((1+cntL (cnt (AG m) AH k) ds':Nat):Int)=1+((cntL (cnt (AG m) AH k) ds':Nat):Int) by omega,<- Hc] at q2
       exact q2
   | _=>exact q H1 s1
 | _=>exact q H1 s1
theorem FM:∀ D:Nat,FnOk P w K mg base CX0 (D+3) T.f_z9 T.d_z9 ["_law_n","_law_thing","_law_deep"] (spC K D)
 | 0=>by
  have no:∀ vs H Q E,¬ spC K 0 vs H Q E:=fun vs H Q E h=>by
   unfold spC at h
   split at h
   ·obtain ⟨_,_,_,_,_,_,_,z,_⟩:=h;exact absurd z (Nat.not_lt_zero _)
   ·exact h
  exact ⟨fun vs H Q E h=>(no _ _ _ _ h).elim,fun A outer s H args us vs Q E _ _ _ _ h=>(no _ _ _ _ h).elim⟩
 | c+1=>LJ T c (FM c)
theorem JP:FnOk P w K mg base CX0 12 T.f_z9 T.d_z9 ["_law_n","_law_thing","_law_deep"] (spC K 9):=FM T 9
theorem Ka (m:Nat) (d:Dw):A0 m d=decide (1<=cnt (AG m) AH 8 d/\cnt (AG m) AH 8 d<=20):=by
 have h:=Et (AG m) AH 20 8 [d] 0 (by decide)
 have e:A0 m d=lvB (AG m) AH 20 8 [d] (0+[d].length):=rfl
 rw [e,Bool.eq_iff_iff,h,decide_eq_true_iff]
 have ec:cntL (cnt (AG m) AH 8) [d]=cnt (AG m) AH 8 d+0:=rfl
 rw [ec]
 constructor
 ·rintro ⟨h1,h2⟩
  have:=h1 d (by simp)
  omega
 ·intro h1
  refine ⟨fun x hx=>?_,by omega⟩
  have:x=d:=by simpa using hx
  rw [this];omega
theorem DG {xs:List V} {i:Int} (h0:0<=i) (h1:i < xs.length):∃ z,atI xs i=some z/\z∈xs:=by
 obtain ⟨n,rfl⟩:=Int.eq_ofNat_of_zero_le h0
 have hn:n < xs.length:=by omega
 exact ⟨xs[n],Ad rfl (List.getElem?_eq_getElem hn),List.getElem_mem hn⟩
theorem st {A B C:Hp} (x:Same A B) (y:Same B C):Same A C:=fun b o e=>y b o (x b o e)
theorem K2 {H6:Hp} {p1 p2 p3 p4 p5:Addr} (i j:Int) (x1 x2 x3:Str) (k1:H6 p1=some (.tup [])) (k2:H6 p2=some (.ext (Ar p2 []))) (k3:H6 p3=some (.dK [])) (k4:H6 p4=some (.tup [.int 1])) (k5:H6 p5=some (.tup [.bl true])) :
 ∀ v∈[V.non,.bl true,.bl false,.int (-1),.str x1,.str x2,.str x3,.ref p1,.ref p2,.ref p3,.ref p4,.int i,.int j,.int 64,.int 63,.ref p5],∃ d,RepW K H6 d v:=by
 intro v hv
 simp only [List.mem_cons,List.not_mem_nil,or_false] at hv
 rcases hv with rfl | rfl | rfl | rfl | rfl | rfl | rfl | rfl | rfl | rfl | rfl | rfl | rfl | rfl | rfl | rfl
 ·exact ⟨_,GX⟩
 ·exact ⟨_,Di⟩
 ·exact ⟨_,Di⟩
 ·exact ⟨_,CC⟩
 ·exact ⟨_,Dl⟩
 ·exact ⟨_,Dl⟩
 ·exact ⟨_,Dl⟩
 ·exact ⟨_,Dm (.of k1) BO⟩
 ·exact ⟨_,Hf k2 BO⟩
 ·exact ⟨_,GR k3⟩
 ·exact ⟨_,Dm (.of k4) (CM CC BO)⟩
 ·exact ⟨_,CC⟩
 ·exact ⟨_,CC⟩
 ·exact ⟨_,CC⟩
 ·exact ⟨_,CC⟩
 ·exact ⟨_,Dm (.of k5) (CM Di BO)⟩
def CA (K:W.Frag):Sp:=fun vs H Q _=>match vs with
 | [.ref t]=>∃ (a:Addr) (ns:List Int),Tape K H t a ns/\∀ v H',Tape K H' t a ns->Frm t H H'->(∃ d,RepW K H' d v)->Q v H'
 | _=>False
theorem GI:AZ (CA K):=fun vs H Q Q' E h q=>by
 unfold CA at *
 split at q
 ·revert q;repeat' first | exact h _ _ | exact Cs h | exact out_mono h | exact outT_mono h | walk_at "m"
 ·exact q.elim
theorem HR:FnOk P w K mg base CX0 2 T.f_z18 T.d_z18 ["_law_tape_here"] (CA K):=by
 have G_z15:=C2 (P:=P) (w:=w) (base:=base) T
 refine T.F_z18.ok sc_z18 (fun vs H Q E h=>by unfold CA at h;split at h <;> first | rfl | exact h.elim) (fun cdv A outer s H vs Q E hr h=>?_)
 have hu:=A1 hr
 have hr_z15:=hr.mono (show 1<=_ by decide)
 unfold CA at h
 split at h
 rotate_left
 ·exact h.elim
 rename_i t
 obtain ⟨a,ns,TP,q⟩:=h
 refine ⟨_,(@AF _ _ _ _ _ (@Hk _ _ 1 _ _ _ _ sc_z18.nd rfl (by right) (@Az _ _ _ _ (@AB _ _ _ _ _ (@Dj _ _ _) (@AB _ _ _ _ _ (@BZ _ _ _ _) (@AB _ _ _ _ _ (@BZ _ _ _ _) (@AB _ _ _ _ _ (@DW _ _ _ _ _ _ DL (@AA _ _ _ _)) (@AB _ _ _ _ _ (@AK _ _ _ _) (@AB _ _ _ _ _ (@AK _ _ _ _) (@AB _ _ _ _ _ (@AK _ _ _ _) (@AB _ _ _ _ _ (@AV _ _ _ _ _ (@Bs _)) (@AB _ _ _ _ _ (@Dy _ _ _ _ (@Bs _)) (@AB _ _ _ _ _ (@Ex _ _) (@AB _ _ _ _ _ (@AV _ _ _ _ _ (@pa1 _ _ _ (@AA _ _ _ _) (by rfl))) (@AB _ _ _ _ _ (@AE _ _ _ _ _ _ _ _ D4 (@AA _ _ _ _) (@AA _ _ _ _)) (@AB _ _ _ _ _ (@DW _ _ _ _ _ _ DL (@AE _ _ _ _ _ _ _ _ D4 (@AA _ _ _ _) (@AA _ _ _ _))) (@AB _ _ _ _ _ (@AA _ _ _ _) (@AB _ _ _ _ _ (@AA _ _ _ _) (@pa1 _ _ _ (@AV _ _ _ _ _ (@pa1 _ _ _ (@BZ _ _ _ _) (by rfl))) (by rfl)) (by rfl)) (by rfl)) (by rfl)) (by rfl)) (by rfl)) (by rfl)) (by rfl)) (by rfl)) (by rfl)) (by rfl)) (by rfl)) (by rfl)) (by rfl)) (by rfl)) (by rfl))) rfl (by first | exact .inl rfl | exact .inr rfl)) (@AL _ _ _ (@AR _ _ _ _ (@kIx _ K _ _ _ _ _ (@vw _ 1 _ _ (by left)) (@AQ _ _ _ _ _ _ _ _ _ _ _ _ _ _ _ _ G_z15 hr_z15 rfl T.m_z15 T.F_z15.kp T.b_z15 .nil AO (@AB _ _ _ _ _ (@vw _ 0 _ _ (by left)) (@pa1 _ _ _ (@AA _ _ _ _) (by rfl)) (by rfl)) (by decide) (by rfl) (by rfl)) (by intro _ _;rfl) (by rfl))))),?_⟩
 have s0:(0:Nat)<=sizeLine:=Nat.zero_le _
 have s1:(1:Nat)<=sizeLine:=AI (by decide)
 refine ⟨s0,fun p1 n1=>⟨s0,fun p2 n2=>fun p3 n3=>⟨s1,fun p4 n4=>?_⟩⟩⟩
 refine ⟨⟨by decide,by decide,by decide⟩,⟨by decide,by decide,by decide⟩,s1,fun p5 n5=>⟨AI (show 16<=1000 by decide),fun p6 n6=>?_⟩⟩
 have f1:Same H (upd H p1 (.tup [])):=Same.upd n1
 have f2:=Same.upd (o:=.ext (Ar p2 [])) n2
 have f3:=Same.upd (o:=.dK []) n3
 have f4:=Same.upd (o:=.tup [.int 1]) n4
 have f5:=Same.upd (o:=.tup [.bl true]) n5
 have t1:=TP.same f1
 have t2:=t1.same f2
 have t3:=t2.same f3
 have t4:=t3.same f4
 have t5:=t4.same f5
 have m1:=TP.neT n1
 have m2:=t1.neT n2
 have m3:=t2.neT n3
 have m4:=t3.neT n4
 have m5:=t4.neT n5
 have m6:=t5.neT n6
 have k1:=st f2 (st f3 (st f4 f5)) p1 _ AC
 have k2:=st f3 (st f4 f5) p2 _ AC
 have k3:=st f4 f5 p3 _ AC
 have k4:=f5 p4 _ AC
 have k5:_=some (HO.tup [.bl true]):=AC (H:=upd (upd (upd (upd H p1 (HO.tup [])) p2 (HO.ext (Ar p2 []))) p3 (HO.dK [])) p4 (HO.tup [V.int 1])) (a:=p5)
 have F5:=st f1 (st f2 (st f3 (st f4 f5)))
 generalize (upd (upd (upd (upd (upd H p1 (HO.tup [])) p2 (HO.ext (Ar p2 []))) p3 (HO.dK [])) p4 (HO.tup [V.int 1])) p5 (HO.tup [V.bl true]))=H5 at *
 refine ⟨a,ns,t5.same (Same.upd n6),⟨by decide,by decide⟩,fun d H' d0 d1 T' f'=>?_⟩
 have F6:∀ (o:HO) b x,H5 b=some x->b≠t->upd H5 p6 o b=some x:=fun o b x e _=>Same.upd n6 b x e
 obtain ⟨z,hz,hm⟩:=DG (xs:=[V.non,.bl true,.bl false,.int (-1),.str (Str.ofString "a"),.str (Str.ofString "1"),.str (Str.ofString ""),.ref p1,.ref p2,.ref p3,.ref p4,.int (10 ^ Int.toNat 39),.int (-10 ^ Int.toNat 39),.int 64,.int 63,.ref p5]) d0 d1
 have al:=K2 (K:=K) (H6:=H') (10 ^ Int.toNat 39) (-10 ^ Int.toNat 39) (Str.ofString "a") (Str.ofString "1") (Str.ofString "") (by rw [f' p1 m1];exact F6 _ _ _ k1 m1) (by rw [f' p2 m2];exact F6 _ _ _ k2 m2) (by rw [f' p3 m3];exact F6 _ _ _ k3 m3) (by rw [f' p4 m4];exact F6 _ _ _ k4 m4) (by rw [f' p5 m5];exact F6 _ _ _ k5 m5) z hm
 refine ⟨_,_,.inl (.of (by rw [f' p6 m6];exact AC)),hz,q _ _ T' ?_ al⟩
 exact (st F5 (Same.upd n6)).frm.trans (AY f')
def AnyW (K:W.Frag) (H:Hp) (v:V):Prop:=∃ d,RepW K H d v
def AnyS (K:W.Frag) (H:Hp) (xs:List V):Prop:=∃ ds,RepsW K H ds xs
section
variable {H H':Hp} {v:V} {xs ys:List V} {t a:Addr} {ns:List Int}
theorem AnyW.same (h:AnyW K H v) (s:Same H H'):AnyW K H' v:=⟨_,RepW.same s _ _ h.choose_spec⟩
theorem AnyS.same (h:AnyS K H xs) (s:Same H H'):AnyS K H' xs:=⟨_,RepsW.same s _ _ h.choose_spec⟩
theorem AnyW.frm (h:AnyW K H v) (T:Tape K H t a ns) (s:Frm t H H'):AnyW K H' v:=⟨_,RepW.frm s T.lst _ _ h.choose_spec⟩
theorem AnyS.frm (h:AnyS K H xs) (T:Tape K H t a ns) (s:Frm t H H'):AnyS K H' xs:=⟨_,RepsW.frm s T.lst _ _ h.choose_spec⟩
theorem AnyS.cut {lo hi:Option Int} (h:AnyS K H xs):AnyS K H (Ap xs lo hi):=by
 obtain ⟨ds,h⟩:=h
 unfold Ap
 exact ⟨_,RepsW.take _ (RepsW.drop _ h)⟩
theorem AnyS.app (h:AnyS K H xs) (g:AnyS K H ys):AnyS K H (xs++ys):=by
 obtain ⟨ds,h⟩:=h
 obtain ⟨es,g⟩:=g
 exact ⟨_,h.append g⟩
theorem anyS_nil:AnyS K H []:=⟨[],BO⟩
theorem AnyW.cons (h:AnyW K H v) (g:AnyS K H xs):AnyS K H (v::xs):=by
 obtain ⟨d,h⟩:=h
 obtain ⟨es,g⟩:=g
 exact ⟨_,CM h g⟩
theorem AnyS.tup {p:Addr} (r:AnyS K H xs) (h:SqT K H p xs):AnyW K H (.ref p):=⟨_,Dm h r.choose_spec⟩
theorem AnyS.lst {p:Addr} (r:AnyS K H xs) (h:H p=some (.ext (Ar p xs))):AnyW K H (.ref p):=⟨_,Hf h r.choose_spec⟩
theorem anyW_str {x:Str}:AnyW K H (.str x):=⟨_,Dl⟩
theorem anyW_int {x:Int}:AnyW K H (.int x):=⟨_,CC⟩
theorem Ji {x:Bool}:AnyW K H (.bl x):=⟨_,Di⟩
theorem anyW_non:AnyW K H .non:=⟨_,GX⟩
theorem Ff {p:Addr} (h:H p=some (.dK [])):AnyW K H (.ref p):=⟨_,GR h⟩
theorem Bh {p:Addr} (h:SqT K H p xs) (T:Tape K H t a ns) (s:Frm t H H'):SqT K H' p xs:=by
 obtain ⟨zs,hz⟩:=T.lst
 rcases h with (h1 | ⟨o,h1⟩) | h1
 ·exact .inl (.inl (s p _ (fun q=>by rw [q,hz] at h1;cases h1) h1))
 ·exact .inl (.inr ⟨o,s p _ (fun q=>by rw [q,hz] at h1;cases h1) h1⟩)
 ·exact .inr h1
theorem C1 {lo hi:Option Int}:(Ap xs lo hi).length<=xs.length:=by
 unfold Ap
 rw [List.length_take,List.length_drop]
 omega
end
theorem IE {f:Fm} (h:¬ f.word=atS):f.tail=f.parts.map Fm.dv:=by
 cases f <;> first | rfl | exact absurd rfl h
theorem MQ (f:Fm):f.tail.length<=3:=by cases f <;> simp [Fm.tail,Fm.parts]
theorem Kn {H:Hp} {f:Fm} {v:V} (r:Rep K H f.dv v):∃ p xs,v=.ref p/\SqT K H p (.str f.word::xs)/\AnyS K H (.str f.word::xs)/\Reps K H f.tail xs/\xs.length<=3:=by
 obtain ⟨p,xs,rfl,h1,h2⟩:=Il r
 have ht:BW f.tail=true:=by
  have:=Cv f
  rw [FW] at this
  have e:BU (.tup (.str f.word::f.tail))=(BU (.str f.word) && BW f.tail):=rfl
  rw [e,Bool.and_eq_true] at this
  exact this.2
 refine ⟨p,xs,rfl,h1,anyW_str.cons ⟨_,D1 _ _ ht h2⟩,h2,?_⟩
 have:=h2.length
 have:=MQ f
 omega
def BQ (K:W.Frag) (D:Nat):Sp:=fun vs H Q _=>match vs with
 | [.ref t,.int n,v]=>∃ (a:Addr) (ns:List Int) (f:Fm),Tape K H t a ns/\Rep K H f.dv v/\f.deep<=D/\∀ v' H',Tape K H' t a ns->Frm t H H'->AnyW K H' v'->Q v' H'
 | _=>False
theorem HH {D:Nat}:AZ (BQ K D):=fun vs H Q Q' E h q=>by
 unfold BQ at *
 split at q
 ·revert q;repeat' first | exact h _ _ | exact Cs h | exact out_mono h | exact outT_mono h | walk_at "m"
 ·exact q.elim
theorem KO (D:Nat) (G_z16:FnOk P w K mg base CX0 (D+3) T.f_z16 T.d_z16 ["_law_tape_here","_law_n","_law_formula_here"] (BQ K D)):FnOk P w K mg base CX0 (D+4) T.f_z16 T.d_z16 ["_law_tape_here","_law_n","_law_formula_here"] (BQ K (D+1)):=by
 have G_z15:=C2 (P:=P) (w:=w) (base:=base) T
 have G_z18:=HR (P:=P) (w:=w) (base:=base) T
 refine T.F_z16.ok sc_z16 (fun vs H Q E h=>by unfold BQ at h;split at h <;> first | rfl | exact h.elim) (fun cdv A outer s H vs Q E hr h=>?_)
 have hu:=A1 hr
 have hr_z16:=hr
 have hr_z15:=hr.mono (show 1<=D+3 by omega)
 have hr_z18:=hr.mono (show 2<=D+3 by omega)
 have mo1:AZ (BQ K D):=HH
 have mo2:AZ (CA K):=GI
 match vs,h with
 | [.ref t,.int n,v],h =>
 obtain ⟨a,ns,f,TP,hv,hd,k⟩:=h
 obtain ⟨p,xs,rfl,hp,ha,hx,hl3⟩:=Kn hv
 refine ⟨_,(@AF _ _ _ _ _ (@Ag _ _ _ _ _ _ _ _ (PW.pt (@DK _ _ _ _ _ _ _ (@AS _ _ _ _ _ _ _ _ BR (@AX _ _ _ _ _ _ _ _ _ (BB (K:=K)) rfl T.z_len (by rfl) (@pa1 _ _ _ (@vw _ 2 _ _ (by left)) (by rfl)) (by decide) (by decide) (by rfl) (by rfl)) (@AA _ _ _ _) (by exfalso)) (@DK _ _ _ _ _ _ _ (@AS _ _ _ _ _ _ _ _ (kNe (K:=K) hu) (@kIx _ K _ _ _ _ _ (@vw _ 2 _ _ (by left)) (@AA _ _ _ _) (by intro _ _;rfl) (by rfl)) (@AK _ _ _ _) (by exfalso)) (@Dt _ _ _ _ (@AS _ _ _ _ _ _ _ _ BR (@AQ _ _ _ _ _ _ _ _ _ _ _ _ _ _ _ _ G_z15 hr_z15 rfl T.m_z15 T.F_z15.kp T.b_z15 .nil AO (@AB _ _ _ _ _ (@vw _ 0 _ _ (by left)) (@pa1 _ _ _ (@AA _ _ _ _) (by rfl)) (by rfl)) (by decide) (by rfl) (by rfl)) (@AA _ _ _ _) (by exfalso)))))) (@AF _ _ _ _ _ (@AT _ _ 3 _ _ _ _ sc_z16.nd rfl (by right) (@AE _ _ _ _ _ _ _ _ (Bu (K:=K)) (@AA _ _ _ _) (@AQ _ _ _ _ _ _ _ _ _ _ _ _ _ _ _ _ G_z15 hr_z15 rfl T.m_z15 T.F_z15.kp T.b_z15 .nil AO (@AB _ _ _ _ _ (@vw _ 0 _ _ (by left)) (@pa1 _ _ _ (@AE _ _ _ _ _ _ _ _ Au (@AX _ _ _ _ _ _ _ _ _ (BB (K:=K)) rfl T.z_len (by rfl) (@pa1 _ _ _ (@vw _ 2 _ _ (by left)) (by rfl)) (by decide) (by decide) (by rfl) (by rfl)) (@AA _ _ _ _)) (by rfl)) (by rfl)) (by decide) (by rfl) (by rfl))) (by rfl) (by symm)) (@AL _ _ _ (@AR _ _ _ _ (@AE _ _ _ _ _ _ _ _ (Bu (K:=K)) (@AE _ _ _ _ _ _ _ _ (Bu (K:=K)) (@CG _ K _ _ _ _ _ _ _ _ (@vw _ 2 _ _ (by left)) (@Bn _) (@Bk _ _ _ (@vw _ 3 _ _ (by left))) (by rfl)) (@AV _ _ _ _ _ (@pa1 _ _ _ (@AQ _ _ _ _ _ _ _ _ _ _ _ _ _ _ _ _ G_z16 hr_z16 rfl T.m_z16 T.F_z16.kp T.b_z16 .nil AO (@AB _ _ _ _ _ (@vw _ 0 _ _ (by left)) (@AB _ _ _ _ _ (@vw _ 1 _ _ (by left)) (@pa1 _ _ _ (@kIx _ K _ _ _ _ _ (@vw _ 2 _ _ (by left)) (@vw _ 3 _ _ (by left)) (by intro _ _;rfl) (by rfl)) (by rfl)) (by rfl)) (by rfl)) (by decide) (by rfl) (by rfl)) (by rfl)))) (@CG _ K _ _ _ _ _ _ _ _ (@vw _ 2 _ _ (by left)) (@Bk _ _ _ (@AE _ _ _ _ _ _ _ _ (Bu (K:=K)) (@vw _ 3 _ _ (by left)) (@AA _ _ _ _))) (@Bn _) (by rfl)))))) (@Ae _)) (@AF _ _ _ _ _ (@AT _ _ 4 _ _ _ _ sc_z16.nd rfl (by right) (@AQ _ _ _ _ _ _ _ _ _ _ _ _ _ _ _ _ G_z15 hr_z15 rfl T.m_z15 T.F_z15.kp T.b_z15 .nil AO (@AB _ _ _ _ _ (@vw _ 0 _ _ (by left)) (@pa1 _ _ _ (@AA _ _ _ _) (by rfl)) (by rfl)) (by decide) (by rfl) (by rfl)) (by rfl) (by symm)) (@AF _ _ _ _ _ (@Ag _ _ _ _ _ _ _ _ (@AS _ _ _ _ _ _ _ _ (kEq (K:=K) hu) (@vw _ 4 _ _ (by left)) (@AA _ _ _ _) (by exfalso)) (@AL _ _ _ (@AR _ _ _ _ (@FA _ _ _ _ _ _ _ _ _ (Lv (K:=K)) rfl T.z_list (by rfl) (@pa1 _ _ _ (@vw _ 2 _ _ (by left)) (by rfl)) (by decide) (by decide) (by rfl) (by rfl)))) (@Ae _)) (@AF _ _ _ _ _ (@Ag _ _ _ _ _ _ _ _ (@AS _ _ _ _ _ _ _ _ (kEq (K:=K) hu) (@vw _ 4 _ _ (by left)) (@AA _ _ _ _) (by exfalso)) (@AL _ _ _ (@AR _ _ _ _ (@AE _ _ _ _ _ _ _ _ (Bu (K:=K)) (@vw _ 2 _ _ (by left)) (@AV _ _ _ _ _ (@pa1 _ _ _ (@vw _ 2 _ _ (by left)) (by rfl)))))) (@Ae _)) (@AF _ _ _ _ _ (@Ag _ _ _ _ _ _ _ _ (@AS _ _ _ _ _ _ _ _ (kEq (K:=K) hu) (@vw _ 4 _ _ (by left)) (@AA _ _ _ _) (by exfalso)) (@AL _ _ _ (@AR _ _ _ _ (@CG _ K _ _ _ _ _ _ _ _ (@vw _ 2 _ _ (by left)) (@Bn _) (@Bk _ _ _ (@DW _ _ _ _ _ _ DL (@AA _ _ _ _))) (by rfl)))) (@Ae _)) (@AF _ _ _ _ _ (@Ag _ _ _ _ _ _ _ _ (@AS _ _ _ _ _ _ _ _ (kEq (K:=K) hu) (@vw _ 4 _ _ (by left)) (@AA _ _ _ _) (by exfalso)) (@AL _ _ _ (@AR _ _ _ _ (@AV _ _ _ _ _ (@AB _ _ _ _ _ (@AK _ _ _ _) (@pa1 _ _ _ (@kIx _ K _ _ _ _ _ (@Az _ _ _ _ (@AB _ _ _ _ _ (@vw _ 1 _ _ (by left)) (@AB _ _ _ _ _ (@AE _ _ _ _ _ _ _ _ Au (@vw _ 1 _ _ (by left)) (@AA _ _ _ _)) (@AB _ _ _ _ _ (@DW _ _ _ _ _ _ DL (@AA _ _ _ _)) (@AB _ _ _ _ _ (@BZ _ _ _ _) (@AB _ _ _ _ _ (@AK _ _ _ _) (@AB _ _ _ _ _ (@Dj _ _ _) (@pa1 _ _ _ (@AV _ _ _ _ _ (@pa1 _ _ _ (@AA _ _ _ _) (by rfl))) (by rfl)) (by rfl)) (by rfl)) (by rfl)) (by rfl)) (by rfl)) (by rfl))) (@AQ _ _ _ _ _ _ _ _ _ _ _ _ _ _ _ _ G_z15 hr_z15 rfl T.m_z15 T.F_z15.kp T.b_z15 .nil AO (@AB _ _ _ _ _ (@vw _ 0 _ _ (by left)) (@pa1 _ _ _ (@AA _ _ _ _) (by rfl)) (by rfl)) (by decide) (by rfl) (by rfl)) (by intro _ _;rfl) (by rfl)) (by rfl)) (by rfl))))) (@Ae _)) (@AF _ _ _ _ _ (@Ag _ _ _ _ _ _ _ _ (@AS _ _ _ _ _ _ _ _ (kEq (K:=K) hu) (@vw _ 4 _ _ (by left)) (@AA _ _ _ _) (by exfalso)) (@AF _ _ _ _ _ (@Hk _ _ 5 _ _ _ _ sc_z16.nd rfl (by right) (@Az _ _ _ _ (@AB _ _ _ _ _ (@AK _ _ _ _) (@AB _ _ _ _ _ (@AK _ _ _ _) (@AB _ _ _ _ _ (@AK _ _ _ _) (@AB _ _ _ _ _ (@AK _ _ _ _) (@AB _ _ _ _ _ (@AK _ _ _ _) (@AB _ _ _ _ _ (@AK _ _ _ _) (@AB _ _ _ _ _ (@Dy _ _ _ _ (@Bs _)) (@AB _ _ _ _ _ (@Ex _ _) (@AB _ _ _ _ _ (@AV _ _ _ _ _ (@pa1 _ _ _ (@AK _ _ _ _) (by rfl))) (@pa1 _ _ _ (@Dj _ _ _) (by rfl)) (by rfl)) (by rfl)) (by rfl)) (by rfl)) (by rfl)) (by rfl)) (by rfl)) (by rfl)) (by rfl))) rfl (by first | exact .inl rfl | exact .inr rfl)) (@AL _ _ _ (@AR _ _ _ _ (@AE _ _ _ _ _ _ _ _ (Bu (K:=K)) (@AV _ _ _ _ _ (@pa1 _ _ _ (@kIx _ K _ _ _ _ _ (@vw _ 5 _ _ (by left)) (@AQ _ _ _ _ _ _ _ _ _ _ _ _ _ _ _ _ G_z15 hr_z15 rfl T.m_z15 T.F_z15.kp T.b_z15 .nil AO (@AB _ _ _ _ _ (@vw _ 0 _ _ (by left)) (@pa1 _ _ _ (@AA _ _ _ _) (by rfl)) (by rfl)) (by decide) (by rfl) (by rfl)) (by intro _ _;rfl) (by rfl)) (by rfl))) (@CG _ K _ _ _ _ _ _ _ _ (@vw _ 2 _ _ (by left)) (@Bk _ _ _ (@AA _ _ _ _)) (@Bn _) (by rfl)))))) (@Ae _)) (@AF _ _ _ _ _ (@Ag _ _ _ _ _ _ _ _ (@AS _ _ _ _ _ _ _ _ (kEq (K:=K) hu) (@vw _ 4 _ _ (by left)) (@AA _ _ _ _) (by exfalso)) (@AL _ _ _ (@AR _ _ _ _ (@AQ _ _ _ _ _ _ _ _ _ _ _ _ _ _ _ _ G_z18 hr_z18 rfl T.m_z18 T.F_z18.kp T.b_z18 .nil AO (@pa1 _ _ _ (@vw _ 0 _ _ (by left)) (by rfl)) (by decide) (by rfl) (by rfl)))) (@Ae _)) (@AL _ _ _ (@AR _ _ _ _ (@AE _ _ _ _ _ _ _ _ (Bu (K:=K)) (@AV _ _ _ _ _ (@pa1 _ _ _ (@kIx _ K _ _ _ _ _ (@Az _ _ _ _ (@AB _ _ _ _ _ (@AK _ _ _ _) (@AB _ _ _ _ _ (@AK _ _ _ _) (@AB _ _ _ _ _ (@AK _ _ _ _) (@AB _ _ _ _ _ (@AK _ _ _ _) (@AB _ _ _ _ _ (@AK _ _ _ _) (@pa1 _ _ _ (@AK _ _ _ _) (by rfl)) (by rfl)) (by rfl)) (by rfl)) (by rfl)) (by rfl))) (@AQ _ _ _ _ _ _ _ _ _ _ _ _ _ _ _ _ G_z15 hr_z15 rfl T.m_z15 T.F_z15.kp T.b_z15 .nil AO (@AB _ _ _ _ _ (@vw _ 0 _ _ (by left)) (@pa1 _ _ _ (@AA _ _ _ _) (by rfl)) (by rfl)) (by decide) (by rfl) (by rfl)) (by intro _ _;rfl) (by rfl)) (by rfl))) (@CG _ K _ _ _ _ _ _ _ _ (@vw _ 2 _ _ (by left)) (@Bk _ _ _ (@AA _ _ _ _)) (@Bn _) (by rfl))))))))))))),?_⟩
 refine BI (fun σ' H'=>∃ z3,σ'=[some (.ref t),some (.int n),some (.ref p),z3,none,none]/\Tape K H' t a ns/\Frm t H H') ?_ ?_ (by walk_at "sm")
 ·refine ⟨(V.str f.word::xs).length,.inr ⟨_,hp,rfl⟩,?_⟩
  refine AN (fun e1=>?_) (fun e1=>⟨none,rfl,TP,Frm.refl⟩)
  have e1':(1:Int) < ((xs.length+1:Nat):Int):=of_decide_eq_true e1
  refine ⟨_,_,.inr hp,Ad (n:=0) rfl rfl,?_⟩
  refine AN (fun e2=>?_) (fun e2=>⟨none,rfl,TP,Frm.refl⟩)
  have hw:¬ f.word=atS:=fun z=>by
   have e2':(true ^^ (f.word == atS))=true:=e2
   rw [z] at e2'
   exact absurd e2' (by decide)
  refine ⟨a,ns,TP,At (by decide) (by decide),fun c1 H1 _ _ T1 f1=>?_⟩
  have F1:=AY f1
  refine AN (fun e3=>?_) (fun e3=>⟨none,rfl,T1,F1⟩)
  have hp1:=Bh hp TP F1
  refine ⟨(V.str f.word::xs).length,.inr ⟨_,hp1,rfl⟩,?_⟩
  refine ⟨a,ns,T1,At (show (0:Int) < ((xs.length+1:Nat):Int) - 1 by omega) (Int.le_trans (show ((xs.length+1:Nat):Int) - 1<=20 by omega) (by decide)),fun c H2 c0 c1 T2 f2=>?_⟩
  have F2:=F1.trans (AY f2)
  have c1:c < ((xs.length+1:Nat):Int) - 1:=c1
  dsimp only [Ai]
  have hp2:=Bh hp1 T1 (AY f2)
  refine ⟨1+c,rfl,_,hp2,fun p1 H3 s3 h3=>?_⟩
  obtain ⟨cn,rfl⟩:=Int.eq_ofNat_of_zero_le c0
  rw [IE hw] at hx
  have hxl:=hx.length
  rw [List.length_map] at hxl
  have hcn:cn < f.parts.length:=by omega
  obtain ⟨x,ex,rx⟩:=hx.get (show (f.parts.map Fm.dv)[cn]? = some (f.parts[cn]).dv by rw [List.getElem?_map,List.getElem?_eq_getElem hcn];rfl)
  have hdp:=Jh (List.getElem_mem hcn)
  refine ⟨_,x,.inr (s3.sqT hp2),Ad (n:=cn+1) (by omega) ex,?_⟩
  refine ⟨a,ns,f.parts[cn],T2.same s3,Rep.same s3 _ _ (Rep.frm F2 TP.lst _ _ (Cv _) rx),by omega,fun v' H4 T4 F4 A4=>?_⟩
  refine ⟨AI (show 1<=1000 by decide),fun p2 n2=>?_⟩
  have S5:=Same.upd (o:=.tup [v']) n2
  have F5:=(F2.trans s3.frm).trans (F4.trans S5.frm)
  have T5:=T4.same S5
  have h35:=S5.sqT (Bh h3 (T2.same s3) F4)
  refine .inr ⟨_,_,h35,.of AC,AI (by have:=C1 (xs:=V.str f.word::xs) (lo:=none) (hi:=some (1+(cn:Int)));simp only [List.length_cons,List.length_nil] at this ⊢;omega),fun p3 H6 s6 h6=>?_⟩
  have hp6:=s6.sqT (Bh hp TP F5)
  refine ⟨1+(cn:Int)+1,rfl,_,hp6,fun p4 H7 s7 h7=>?_⟩
  have F7:=F5.trans (s6.trans s7).frm
  refine .inr ⟨_,_,s7.sqT h6,h7,AI (by
   have h8:=C1 (xs:=V.str f.word::xs) (lo:=none) (hi:=some (1+(cn:Int)))
   have h9:=C1 (xs:=V.str f.word::xs) (lo:=some (1+(cn:Int)+1)) (hi:=none)
   simp only [List.length_cons,List.length_nil,List.length_append] at h8 h9 ⊢;omega),fun p5 H8 s8 h8=>?_⟩
  have F8:=F7.trans s8.frm
  have A8:=ha.frm TP F8
  exact k _ _ (T5.same (s6.trans (s7.trans s8))) F8 (AnyS.tup (((A8.cut).app ((A4.same (S5.trans (s6.trans (s7.trans s8)))).cons anyS_nil)).app A8.cut) h8)
 rintro σ' H1 ⟨z3,rfl,T1,F1⟩
 refine ⟨a,ns,T1,At (by decide) (by decide),fun way H2 w0 w1 T2 f2=>?_⟩
 have F2:=F1.trans (AY f2)
 dsimp only [Ai]
 have hp2:=Bh hp TP F2
 have ha2:=ha.frm TP F2
 clear hp ha hv T1 F1 f2
 refine AN (fun e=>?_) (fun e=>?_)
 ·exact ⟨_,hp2,fun l nl=>k _ _ (T2.upd nl) (F2.trans (Frm.upd nl)) ((ha2.same (Same.upd nl)).lst AC)⟩
 dsimp only [BA]
 refine AN (fun e=>?_) (fun e=>?_)
 ·refine ⟨AI (show 1<=1000 by decide),fun p1 n1=>?_⟩
  have S3:=Same.upd (o:=.tup [.ref p]) n1
  refine .inr ⟨_,_,S3.sqT hp2,.of AC,AI (by simp only [List.length_cons,List.length_nil];omega),fun p3 H6 s6 h6=>?_⟩
  have ha6:=ha2.same (S3.trans s6)
  exact k _ _ (T2.same (S3.trans s6)) (F2.trans (S3.trans s6).frm) ((ha6.app ((ha6.tup (s6.sqT (S3.sqT hp2))).cons anyS_nil)).tup h6)
 dsimp only [BA]
 refine AN (fun e=>?_) (fun e=>?_)
 ·refine ⟨-1,rfl,_,hp2,fun p3 H6 s6 h6=>?_⟩
  exact k _ _ (T2.same s6) (F2.trans s6.frm) ((ha2.same s6).cut.tup h6)
 dsimp only [BA]
 refine AN (fun e=>?_) (fun e=>?_)
 ·refine ⟨AI (show 1<=1000 by decide),fun p1 n1=>⟨AI (show 7<=1000 by decide),fun p2 n2=>?_⟩⟩
  have S3:=Same.upd (o:=.tup [.int 0]) n1
  have S4:=Same.upd (o:=.lst [.int n,.int (n - 1),.int (-1),.bl true,.str (Str.ofString "0"),.non,.ref p1]) n2
  have T4:=T2.same (st S3 S4)
  have g1:_=some (HO.tup [.int 0]):=S4 p1 _ AC
  have m2:=(T2.same S3).neT n2
  refine ⟨a,ns,T4,At (by decide) (by decide),fun c H' c0 c1 T' f'=>?_⟩
  obtain ⟨z,hz,hm⟩:=DG (xs:=[V.int n,.int (n - 1),.int (-1),.bl true,.str (Str.ofString "0"),.non,.ref p1]) c0 c1
  have g1':=Bh (K:=K) (.of g1) T4 (AY f')
  have az:AnyW K H' z:=by
   simp only [List.mem_cons,List.not_mem_nil,or_false] at hm
   rcases hm with rfl | rfl | rfl | rfl | rfl | rfl | rfl
   ·exact anyW_int
   ·exact anyW_int
   ·exact anyW_int
   ·exact Ji
   ·exact anyW_str
   ·exact anyW_non
   ·exact (anyW_int.cons anyS_nil).tup g1'
  refine ⟨_,z,.inl (.of (by rw [f' p2 m2];exact AC)),hz,AI (show 2<=1000 by decide),fun q nq=>?_⟩
  have S5:=Same.upd (o:=.tup [.str (Str.ofString "at"),z]) nq
  exact k _ _ (T'.same S5) (F2.trans (((st S3 S4).frm.trans (AY f')).trans S5.frm)) ((anyW_str.cons ((az.same S5).cons anyS_nil)).tup (.of AC))
 dsimp only [BA]
 refine AN (fun e=>?_) (fun e=>?_)
 ·refine ⟨Nat.zero_le _,fun p1 n1=>fun p2 n2=>⟨AI (show 1<=1000 by decide),fun p3 n3=>⟨AI (show 10<=1000 by decide),fun p4 n4=>?_⟩⟩⟩
  dsimp only [Ai]
  have S1:=Same.upd (o:=.ext (Ar p1 [])) n1
  have S2:=Same.upd (o:=.dK []) n2
  have S3:=Same.upd (o:=.tup [.str (Str.ofString "yes")]) n3
  have S4:=Same.upd (o:=.lst [.str (Str.ofString "Both"),.str (Str.ofString "xor"),.str (Str.ofString ""),.str (Str.ofString "nots"),.str (Str.ofString "all"),.str (Str.ofString "at"),.ref p1,.ref p2,.ref p3,.non]) n4
  have T4:=T2.same (st S1 (st S2 (st S3 S4)))
  have g1:_=some (HO.ext (Ar p1 [])):=st S2 (st S3 S4) p1 _ AC
  have g2:_=some (HO.dK []):=st S3 S4 p2 _ AC
  have g3:_=some (HO.tup [.str (Str.ofString "yes")]):=S4 p3 _ AC
  have m1:=T2.neT n1
  have m2:=(T2.same S1).neT n2
  have m4:=(T2.same (st S1 (st S2 S3))).neT n4
  refine ⟨a,ns,T4,At (by decide) (by decide),fun c H' c0 c1 T' f'=>?_⟩
  obtain ⟨z,hz,hm⟩:=DG (xs:=[V.str (Str.ofString "Both"),.str (Str.ofString "xor"),.str (Str.ofString ""),.str (Str.ofString "nots"),.str (Str.ofString "all"),.str (Str.ofString "at"),.ref p1,.ref p2,.ref p3,.non]) c0 c1
  have g3':=Bh (K:=K) (.of g3) T4 (AY f')
  have az:AnyW K H' z:=by
   simp only [List.mem_cons,List.not_mem_nil,or_false] at hm
   rcases hm with rfl | rfl | rfl | rfl | rfl | rfl | rfl | rfl | rfl | rfl
   ·exact anyW_str
   ·exact anyW_str
   ·exact anyW_str
   ·exact anyW_str
   ·exact anyW_str
   ·exact anyW_str
   ·exact anyS_nil.lst (by rw [f' p1 m1];exact g1)
   ·exact Ff (by rw [f' p2 m2];exact g2)
   ·exact (anyW_str.cons anyS_nil).tup g3'
   ·exact anyW_non
  refine ⟨_,z,.inl (.of (by rw [f' p4 m4];exact AC)),hz,AI (show 1<=1000 by decide),fun q nq=>?_⟩
  have S5:=Same.upd (o:=.tup [z]) nq
  have F5:=F2.trans (((st S1 (st S2 (st S3 S4))).frm.trans (AY f')).trans S5.frm)
  have FF:Frm t H2 _:=((st S1 (st S2 (st S3 S4))).frm.trans (AY f')).trans S5.frm
  refine ⟨1,rfl,_,Bh hp2 T2 FF,fun p6 H6 s6 h6=>?_⟩
  refine .inr ⟨_,_,s6.sqT (.of AC),h6,AI (by
   have h8:=C1 (xs:=V.str f.word::xs) (lo:=some 1) (hi:=none)
   simp only [List.length_cons,List.length_nil] at h8 ⊢;omega),fun p7 H7 s7 h7=>?_⟩
  exact k _ _ (T'.same (st S5 (st s6 s7))) (F5.trans (st s6 s7).frm) ((((az.same (st S5 (st s6 s7))).cons anyS_nil).app ((ha2.frm T2 (FF.trans (st s6 s7).frm)).cut)).tup h7)
 dsimp only [BA]
 refine AN (fun e=>?_) (fun e=>?_)
 ·exact ⟨a,ns,T2,fun v' H3 T3 F3 A3=>k _ _ T3 (F2.trans F3) A3⟩
 dsimp only [BA]
 refine ⟨AI (show 6<=1000 by decide),fun p4 n4=>?_⟩
 have S4:=Same.upd (o:=.lst [.str (Str.ofString "most"),.str (Str.ofString "both"),.str (Str.ofString "odd"),.str (Str.ofString "not"),.str (Str.ofString "yes"),.str (Str.ofString "either")]) n4
 have T4:=T2.same S4
 have m4:=T2.neT n4
 refine ⟨a,ns,T4,At (by decide) (by decide),fun c H' c0 c1 T' f'=>?_⟩
 obtain ⟨z,hz,hm⟩:=DG (xs:=[V.str (Str.ofString "most"),.str (Str.ofString "both"),.str (Str.ofString "odd"),.str (Str.ofString "not"),.str (Str.ofString "yes"),.str (Str.ofString "either")]) c0 c1
 have az:AnyW K H' z:=by
  simp only [List.mem_cons,List.not_mem_nil,or_false] at hm
  rcases hm with rfl | rfl | rfl | rfl | rfl | rfl <;> exact anyW_str
 refine ⟨_,z,.inl (.of (by rw [f' p4 m4];exact AC)),hz,AI (show 1<=1000 by decide),fun q nq=>?_⟩
 have S5:=Same.upd (o:=.tup [z]) nq
 have FF:Frm t H2 _:=(S4.frm.trans (AY f')).trans S5.frm
 refine ⟨1,rfl,_,Bh hp2 T2 FF,fun p6 H6 s6 h6=>?_⟩
 refine .inr ⟨_,_,s6.sqT (.of AC),h6,AI (by
  have h8:=C1 (xs:=V.str f.word::xs) (lo:=some 1) (hi:=none)
  simp only [List.length_cons,List.length_nil] at h8 ⊢;omega),fun p7 H7 s7 h7=>?_⟩
 exact k _ _ (T'.same (st S5 (st s6 s7))) (F2.trans (FF.trans (st s6 s7).frm)) ((((az.same (st S5 (st s6 s7))).cons anyS_nil).app ((ha2.frm T2 (FF.trans (st s6 s7).frm)).cut)).tup h7)
theorem Gb:∀ D:Nat,FnOk P w K mg base CX0 (D+3) T.f_z16 T.d_z16 ["_law_tape_here","_law_n","_law_formula_here"] (BQ K D)
 | 0=>by
  have no:∀ vs H Q E,¬ BQ K 0 vs H Q E:=fun vs H Q E h=>by
   unfold BQ at h
   split at h
   ·obtain ⟨_,_,f,_,_,z,_⟩:=h;have:=KS f;omega
   ·exact h
  exact ⟨fun vs H Q E h=>(no _ _ _ _ h).elim,fun A outer s H args us vs Q E _ _ _ _ h=>(no _ _ _ _ h).elim⟩
 | c+1=>KO T c (Gb c)
theorem Hz:FnOk P w K mg base CX0 12 T.f_z16 T.d_z16 ["_law_tape_here","_law_n","_law_formula_here"] (BQ K 9):=Gb T 9
def Cr (K:W.Frag):Sp:=fun vs H Q _=>match vs with
 | [.ref t,.int n]=>∃ (a:Addr) (ns:List Int),Tape K H t a ns/\1<=n/\n<=6/\∀ v' H',Tape K H' t a ns->Frm t H H'->AnyW K H' v'->Q v' H'
 | _=>False
theorem Hr:AZ (Cr K):=fun vs H Q Q' E h q=>by
 unfold Cr at *
 split at q
 ·revert q;repeat' first | exact h _ _ | exact Cs h | exact out_mono h | exact outT_mono h | walk_at "m"
 ·exact q.elim
theorem IF:FnOk P w K mg base CX0 2 T.f_z14 T.d_z14 ["_law_tape_here","_law_n"] (Cr K):=by
 have G_z15:=C2 (P:=P) (w:=w) (base:=base) T
 refine T.F_z14.ok sc_z14 (fun vs H Q E h=>by unfold Cr at h;split at h <;> first | rfl | exact h.elim) (fun cdv A outer s H vs Q E hr h=>?_)
 have hu:=A1 hr
 have hr_z15:=hr.mono (show 1<=_ by decide)
 unfold Cr at h
 split at h
 rotate_left
 ·exact h.elim
 rename_i t n
 obtain ⟨a,ns,TP,n1,n6,q⟩:=h
 refine ⟨_,(@AF _ _ _ _ _ (@AT _ _ 2 _ _ _ _ sc_z14.nd rfl (by right) (@AV _ _ _ _ _ (@AB _ _ _ _ _ (@AK _ _ _ _) (@pa1 _ _ _ (@AQ _ _ _ _ _ _ _ _ _ _ _ _ _ _ _ _ G_z15 hr_z15 rfl T.m_z15 T.F_z15.kp T.b_z15 .nil AO (@AB _ _ _ _ _ (@vw _ 0 _ _ (by left)) (@pa1 _ _ _ (@vw _ 1 _ _ (by left)) (by rfl)) (by rfl)) (by decide) (by rfl) (by rfl)) (by rfl)) (by rfl))) (by rfl) (by symm)) (@AF _ _ _ _ _ (@AT _ _ 3 _ _ _ _ sc_z14.nd rfl (by right) (@kIx _ K _ _ _ _ _ (@Az _ _ _ _ (@AB _ _ _ _ _ (@AA _ _ _ _) (@AB _ _ _ _ _ (@AA _ _ _ _) (@AB _ _ _ _ _ (@AA _ _ _ _) (@AB _ _ _ _ _ (@AA _ _ _ _) (@AB _ _ _ _ _ (@AA _ _ _ _) (@AB _ _ _ _ _ (@AA _ _ _ _) (@pa1 _ _ _ (@AA _ _ _ _) (by rfl)) (by rfl)) (by rfl)) (by rfl)) (by rfl)) (by rfl)) (by rfl))) (@AQ _ _ _ _ _ _ _ _ _ _ _ _ _ _ _ _ G_z15 hr_z15 rfl T.m_z15 T.F_z15.kp T.b_z15 .nil AO (@AB _ _ _ _ _ (@vw _ 0 _ _ (by left)) (@pa1 _ _ _ (@AA _ _ _ _) (by rfl)) (by rfl)) (by decide) (by rfl) (by rfl)) (by intro _ _;rfl) (by rfl)) (by rfl) (by symm)) (@AF _ _ _ _ _ (@Ag _ _ _ _ _ _ _ _ (@AS _ _ _ _ _ _ _ _ Bc (@vw _ 3 _ _ (by left)) (@AA _ _ _ _) (by exfalso)) (@AF _ _ _ _ _ (@DI _ _ _ _ _ _ _ _ PassesOwn.never rfl (@Eh _ _ _ _ _ _ rfl T.z_range (@pa1 _ _ _ (@AE _ _ _ _ _ _ _ _ Au (@vw _ 3 _ _ (by left)) (@AA _ _ _ _)) (by rfl)) (by rfl)) (@CD _ _ 4 _ sc_z14.nd rfl (by right) (by symm)) (@AL _ _ _ (@AT _ _ 2 _ _ _ _ sc_z14.nd rfl (by right) (@AV _ _ _ _ _ (@AB _ _ _ _ _ (@AK _ _ _ _) (@pa1 _ _ _ (@vw _ 2 _ _ (by left)) (by rfl)) (by rfl))) (by rfl) (by symm))) (by intro _;rfl)) (@AL _ _ _ (@AR _ _ _ _ (@vw _ 2 _ _ (by left))))) (@Ae _)) (@AF _ _ _ _ _ (@FQ _ _ _ _ _ _ _ (["_law_k","_law_tape_here","_law_n"]) 1 ([0,1]) _ _ _ _ 5 _ _ _ rfl sc_z14.nd rfl rfl (@Eh _ _ _ _ _ _ rfl T.z_range (@pa1 _ _ _ (@AE _ _ _ _ _ _ _ _ El (@AE _ _ _ _ _ _ _ _ (Aj (K:=K)) (@vw _ 3 _ _ (by left)) (@AA _ _ _ _)) (@AA _ _ _ _)) (by rfl)) (by rfl)) (by kernel_rfl) rfl rfl (by kernel_rfl) (fun c=>@CD _ _ 0 _ (show (["_law_k","_law_tape_here","_law_n"]:List Str).Nodup by decide +kernel) rfl (by right) (by symm)) (EE (by decide)) (fun c=>@Ek _) (fun c=>(@AV _ _ _ _ _ (@AB _ _ _ _ _ (@AK _ _ _ _) (@pa1 _ _ _ (@AQ _ _ _ _ _ _ _ _ _ _ _ _ _ _ _ _ G_z15 hr_z15 rfl T.m_z15 T.F_z15.kp T.b_z15 .nil AO (@AB _ _ _ _ _ (@vw _ 1 _ _ (by left)) (@pa1 _ _ _ (@vw _ 2 _ _ (by left)) (by rfl)) (by rfl)) (by decide) (by rfl) (by rfl)) (by rfl)) (by rfl)))) (by rfl) (by intro _;rfl)) (@AF _ _ _ _ _ (@GY _ _ _ _ _ _ PassesOwn.never (@AS _ _ _ _ _ _ _ _ BR (@AX _ _ _ _ _ _ _ _ _ (BB (K:=K)) rfl T.z_len (by rfl) (@pa1 _ _ _ (@vw _ 5 _ _ (by left)) (by rfl)) (by decide) (by decide) (by rfl) (by rfl)) (@AA _ _ _ _) (by exfalso)) (@AL _ _ _ (@AT _ _ 5 _ _ _ _ sc_z14.nd rfl (by right) (@AE _ _ _ _ _ _ _ _ (Aj (K:=K)) (@MG _ K _ _ _ _ _ _ _ _ (@vw _ 5 _ _ (by left)) (@Bk _ _ _ (@AA _ _ _ _)) (@Bn _) (by rfl)) (@Az _ _ _ _ (@pa1 _ _ _ (@AV _ _ _ _ _ (@AB _ _ _ _ _ (@AK _ _ _ _) (@AB _ _ _ _ _ (@kIx _ K _ _ _ _ _ (@vw _ 5 _ _ (by left)) (@AA _ _ _ _) (by intro _ _;rfl) (by rfl)) (@pa1 _ _ _ (@kIx _ K _ _ _ _ _ (@vw _ 5 _ _ (by left)) (@AA _ _ _ _) (by intro _ _;rfl) (by rfl)) (by rfl)) (by rfl)) (by rfl))) (by rfl)))) (by rfl) (by symm)))) (@AL _ _ _ (@AR _ _ _ _ (@DM _ _ _ _ _ _ _ _ (@AS _ _ _ _ _ _ _ _ (kEq (K:=K) hu) (@AE _ _ _ _ _ _ _ _ Bb (@vw _ 3 _ _ (by left)) (@AA _ _ _ _)) (@AA _ _ _ _) (by exfalso)) (@AV _ _ _ _ _ (@AB _ _ _ _ _ (@AK _ _ _ _) (@pa1 _ _ _ (@kIx _ K _ _ _ _ _ (@vw _ 5 _ _ (by left)) (@AA _ _ _ _) (by intro _ _;rfl) (by rfl)) (by rfl)) (by rfl))) (@kIx _ K _ _ _ _ _ (@vw _ 5 _ _ (by left)) (@AA _ _ _ _) (by intro _ _;rfl) (by rfl)))))))))),?_⟩
 have okn:okDiv n:=At (by omega) (Int.le_trans n6 (by decide))
 refine ⟨a,ns,TP,okn,fun c H1 _ _ T1 f1=>⟨AI (show 2<=1000 by decide),fun p0 m0=>?_⟩⟩
 dsimp only [Ai]
 have S1:=Same.upd (o:=.tup [.str (Str.ofString "at"),.int c]) m0
 have T2:=T1.same S1
 have F2:=(AY f1).trans (S1.frm (t:=t))
 have A2:AnyW K _ (.ref p0):=(anyW_str.cons (anyW_int.cons anyS_nil)).tup (.of (AC (H:=H1) (a:=p0) (o:=.tup [.str (Str.ofString "at"),.int c])))
 generalize upd H1 p0 (.tup [.str (Str.ofString "at"),.int c])=H2 at *
 refine ⟨AI (show 7<=1000 by decide),fun p1 m1=>?_⟩
 have S3:=Same.upd (o:=.lst [.int 7,.int 8,.int 9,.int 18,.int 19,.int 20,.int 21]) m1
 have m1t:=T2.neT m1
 refine ⟨a,ns,T2.same S3,At (by decide) (by decide),fun c2 H3 c0 c1 T3 f3=>?_⟩
 obtain ⟨z,hz,hm⟩:=DG (xs:=[V.int 7,.int 8,.int 9,.int 18,.int 19,.int 20,.int 21]) c0 c1
 have F3:Frm t H2 H3:=S3.frm.trans (AY f3)
 refine ⟨_,z,.inl (.of (by rw [f3 p1 m1t];exact AC)),hz,?_⟩
 obtain ⟨M,rfl,M7,M21⟩:∃ M:Nat,z=.int M/\7<=M/\M<=21:=by
  simp only [List.mem_cons,List.not_mem_nil,or_false] at hm
  rcases hm with rfl | rfl | rfl | rfl | rfl | rfl | rfl
  ·exact ⟨7,rfl,by decide,by decide⟩
  ·exact ⟨8,rfl,by decide,by decide⟩
  ·exact ⟨9,rfl,by decide,by decide⟩
  ·exact ⟨18,rfl,by decide,by decide⟩
  ·exact ⟨19,rfl,by decide,by decide⟩
  ·exact ⟨20,rfl,by decide,by decide⟩
  ·exact ⟨21,rfl,by decide,by decide⟩
 dsimp only [Ai]
 have A3:=A2.frm T2 F3
 have F3':=F2.trans F3
 clear f1 f3 hm hz S1 S3 A2 T1
 refine AN (fun e=>?_) (fun e=>?_)
 ·refine BI (fun σ' H'=>∃ v z4,σ'=[some (.ref t),some (.int n),some v,some (.int M),z4,none]/\Same H3 H'/\AnyW K H' v) ?_ ?_ (by walk_at "sm")
  ·refine ⟨(M:Int) - 1,rfl,by omega,by omega,?_⟩
   refine Gs (fun i σ' H'=>∃ v z4,σ'=[some (.ref t),some (.int n),some v,some (.int M),z4,none]/\Same H3 H'/\AnyW K H' v) ⟨.ref p0,none,rfl,Same.refl _,A3⟩ ?_ (fun σ' H' h=>h)
   rintro i σ' H' _ ⟨v,z4,rfl,s4,A4⟩
   refine ⟨AI (show 2<=1000 by decide),fun p5 n5=>?_⟩
   have S5:=Same.upd (o:=.tup [.str (Str.ofString "not"),v]) n5
   exact ⟨.ref p5,_,rfl,s4.trans S5,(anyW_str.cons ((A4.same S5).cons anyS_nil)).tup (.of AC)⟩
  rintro σ' H4 ⟨v,z4,rfl,s4,A4⟩
  exact q _ _ (T3.same s4) (F3'.trans s4.frm) A4
 dsimp only [BA]
 refine BI (fun σ' H'=>∃ l ys,σ'=[some (.ref t),some (.int n),some (.ref p0),some (.int M),none,some (.ref l)]/\Frm t H H'/\Tape K H' t a ns/\H' l=some (.lst ys)/\AnyS K H' ys/\1<=ys.length/\ys.length<=11) ?_ ?_ (by walk_at "sm")
 ·refine ⟨At (by decide) (by decide),((M:Int)+1) / 2,rfl,by omega,by omega,?_⟩
  refine Iz (fun i ys H'=>Frm t H H'/\Tape K H' t a ns/\AnyS K H' ys/\ys.length=i) ⟨F3',T3,anyS_nil,rfl⟩ (fun i ys H' hi ⟨_,_,_,e⟩=>Dg (by omega)) ?_ ?_
  ·rintro i ys H' hi ⟨F5,T5,A5,l5⟩
   refine ⟨a,ns,T5,okn,fun c5 H6 _ _ T6 f6=>⟨AI (show 2<=1000 by decide),fun p6 n6'=>?_⟩⟩
   have S7:=Same.upd (o:=.tup [.str (Str.ofString "at"),.int c5]) n6'
   exact ⟨(F5.trans (AY f6)).trans S7.frm,T6.same S7,((A5.frm T5 (AY f6)).same S7).app (((anyW_str.cons (anyW_int.cons anyS_nil)).tup (.of AC)).cons anyS_nil),by rw [List.length_append,l5];rfl⟩
  ·rintro ys H' ⟨F5,T5,A5,l5⟩ l nl
   have S7:=Same.upd (o:=.lst ys) nl
   exact ⟨l,ys,rfl,F5.trans S7.frm,T5.same S7,AC,A5.same S7,by omega,by omega⟩
 rintro σ' H4 ⟨l,ys,rfl,F4,T4,gl,Al,l1,l11⟩
 refine BI (fun σ' H'=>∃ l y,σ'=[some (.ref t),some (.int n),some (.ref p0),some (.int M),none,some (.ref l)]/\Frm t H H'/\Tape K H' t a ns/\H' l=some (.lst [y])/\AnyW K H' y) ?_ ?_ (by walk_at "sm")
 ·refine ⟨fun mm σ' H'=>∃ l ys,mm=ys.length/\σ'=[some (.ref t),some (.int n),some (.ref p0),some (.int M),none,some (.ref l)]/\Frm t H H'/\Tape K H' t a ns/\H' l=some (.lst ys)/\AnyS K H' ys/\1<=ys.length/\ys.length<=11,⟨_,l,ys,rfl,rfl,F4,T4,gl,Al,l1,l11⟩,?_⟩
  rintro mm σ' H5 ⟨l,ys,rfl,rfl,F5,T5,g5,A5,k1,k11⟩
  refine ⟨ys.length,.inl ⟨ys,.of g5,rfl⟩,?_⟩
  refine AN (fun e2=>?_) (fun e2=>?_)
  ·have e3:(1:Int) < (ys.length:Int):=of_decide_eq_true e2
   match ys,e3,g5,A5,k11 with
   | y0::y1::yr,_,g5,A5,k11 =>
   have k11:yr.length+2<=11:=k11
   refine ⟨2,rfl,_,.inl ⟨.of g5,fun p6 n6=>?_⟩⟩
   have ec:Ap (y0::y1::yr) (some 2) none=yr:=by
    unfold Ap
    have e2:HT.sIx (y0::y1::yr).length 0 (some 2)=2:=by
     have:=HT.sIx_nat (y0::y1::yr).length 0 2
     rw [show min 2 (y0::y1::yr).length=2 by simp] at this
     exact this
    rw [e2,HT.sIx_none,List.take_of_length_le (by rw [List.length_drop];omega)]
    rfl
   rw [ec]
   have S6:=Same.upd (o:=.lst yr) n6
   have g6:=S6 _ _ g5
   have h6:upd H5 p6 (.lst yr) p6=some (.lst yr):=AC
   have A6:=A5.same S6
   have T6:=T5.same S6
   have F6:=F5.trans S6.frm
   generalize upd H5 p6 (.lst yr)=H6 at *
   refine ⟨_,y0,.inl (.of g6),Ad (n:=0) rfl rfl,_,y1,.inl (.of g6),Ad (n:=1) rfl rfl,AI (show 3<=1000 by decide),fun p7 n7=>?_⟩
   have S7:=Same.upd (o:=.tup [.str (Str.ofString "odd"),y0,y1]) n7
   have t7:SqT K (upd H6 p7 (.tup [.str (Str.ofString "odd"),y0,y1])) p7 _:=.of AC
   have g7:=S7 _ _ h6
   have A7:=A6.same S7
   have T7:=T6.same S7
   have F7:=F6.trans S7.frm
   generalize upd H6 p7 (.tup [.str (Str.ofString "odd"),y0,y1])=H7 at *
   refine ⟨AI (show 1<=1000 by decide),fun p8 n8=>?_⟩
   have S8:=Same.upd (o:=.lst [.ref p7]) n8
   refine .inl ⟨p6,p8,yr,[.ref p7],rfl,rfl,S8 _ _ g7,AC,AI (by show yr.length+1<=1000;omega),fun p9 n9=>?_⟩
   have S9:=Same.upd (o:=.lst (yr++[.ref p7])) n9
   have A9:=A7.same (st S8 S9)
   obtain ⟨ds,hds⟩:=id A9
   unfold RepsW at hds
   cases ds with
   | nil=>cases hds
   | cons d ds =>
   obtain ⟨x,r,e,r0,hds⟩:=hds
   cases e
   unfold RepsW at hds
   cases ds with
   | nil=>cases hds
   | cons d1 ds =>
   obtain ⟨x,r,e,r1,hds⟩:=hds
   cases e
   refine ⟨_,?_,p9,yr++[.ref p7],rfl,rfl,F7.trans (st S8 S9).frm,T7.same (st S8 S9),AC,AnyS.app ⟨ds,hds⟩ (((anyW_str.cons (AnyW.cons ⟨_,r0⟩ (AnyW.cons ⟨_,r1⟩ anyS_nil))).tup ((st S8 S9).sqT t7)).cons anyS_nil),?_,?_⟩
   ·show (yr++[V.ref p7]).length < (y0::y1::yr).length
    rw [List.length_append];simp
   ·rw [List.length_append];simp
   ·rw [List.length_append];show yr.length+1<=11;omega
  ·have e3:¬ (1:Int) < (ys.length:Int):=fun z=>e2 (decide_eq_true z)
   match ys,k1,g5,A5,e3 with
   | [y],_,g5,A5,_ =>
    obtain ⟨ds,hds⟩:=A5
    unfold RepsW at hds
    cases ds with
    | nil=>cases hds
    | cons d ds =>
    obtain ⟨x,r,e,r0,hds⟩:=hds
    cases e
    exact ⟨l,y,rfl,F5,T5,g5,d,r0⟩
   | _::_::_,_,_,_,e3=>exact absurd (by simp only [List.length_cons];omega) e3
 rintro σ' H5 ⟨l,y,rfl,F5,T5,g5,A5⟩
 refine ⟨by decide,?_⟩
 refine AN (fun e2=>?_) (fun e2=>?_)
 ·refine ⟨_,y,.inl (.of g5),Ad (n:=0) rfl rfl,AI (show 2<=1000 by decide),fun p6 n6=>?_⟩
  have S6:=Same.upd (o:=.tup [.str (Str.ofString "not"),y]) n6
  exact q _ _ (T5.same S6) (F5.trans S6.frm) ((anyW_str.cons ((A5.same S6).cons anyS_nil)).tup (.of AC))
 ·exact ⟨_,y,.inl (.of g5),Ad (n:=0) rfl rfl,q _ _ T5 F5 A5⟩
theorem Tape.lst {K:W.Frag} {H:Hp} {t a:Addr} {ns:List Int} (T:Tape K H t a ns):∃ zs,H t=some (.lst zs):=by
 obtain ⟨i,r,c,_,_,h⟩:=T.at_
 exact ⟨_,h⟩
theorem IZ {Pt t a:Addr} {ps:Array Value} {ns:List Int} {H H':Hp} (T:Tape K H t a ns) (hP:H Pt=some (.tbl ps)) (G:Grow Pt H H'):Tape K H' t a ns:=by
 obtain ⟨i,r,c,h1,h2,h3⟩:=T.at_
 refine ⟨⟨i,r,c,h1,h2,G _ _ (fun e=>by rw [e,hP] at h3;cases h3) h3⟩,?_⟩
 rcases T.scr with ⟨h | ⟨o,h⟩,n⟩ | h
 ·exact .inl ⟨.inl (G _ _ (fun e=>by rw [e,hP] at h;cases h) h),n⟩
 ·exact .inl ⟨.inr ⟨o,G _ _ (fun e=>by rw [e,hP] at h;cases h) h⟩,n⟩
 ·exact .inr h
theorem Lw {Pt t:Addr} {pos:Pos} {q:Str} {H H':Hp} (l:Lam Pt pos q H) (F:∃ zs,H t=some (.lst zs)) (f:Frm t H H'):Lam Pt pos q H':=by
 obtain ⟨ps,h1,h2,h3⟩:=l
 obtain ⟨zs,hz⟩:=F
 refine ⟨ps,f _ _ (fun e=>by rw [e,hz] at h1;cases h1) h1,h2,?_⟩
 rcases h3 with h3 | ⟨c',h4,h5⟩
 ·exact .inl h3
 ·exact .inr ⟨c',h4,f _ _ (fun e=>by rw [e,hz] at h5;cases h5) h5⟩
theorem CY {Pt t a:Addr} {ns:List Int} {pos:Pos} {q:Str} {H H':Hp} (l:Lam Pt pos q H) (F:Tape K H t a ns) (f:Frm t H H'):Lam Pt pos q H':=Lw l F.lst f
theorem AnyS.at {H:Hp} {xs:List V} {i:Nat} {x:V} (h:AnyS K H xs) (e:xs[i]? = some x):AnyW K H x:=by
 obtain ⟨ds,h⟩:=h
 obtain ⟨d,_,r⟩:=DP h e
 exact ⟨d,r⟩
theorem AnyS.tab {H H':Hp} {xs:List V} {Pt:Addr} {ps:Array Value} (h:AnyS K H xs) (g:Grow Pt H H') (hz:H Pt=some (.tbl ps)):AnyS K H' xs:=⟨_,RepsW.tab g hz _ _ h.choose_spec⟩
theorem Jj (B:BMn mg base):FnOk P w K mg base CX0 13 T.f_law T.d_law ["_law_script"] (Dr K [T.p_z12]):=by
 have G_z13:=Jb (P:=P) (w:=w) (base:=base) T;have G_z11:=Lm (P:=P) (w:=w) (base:=base) T;have G_z16:=Hz (P:=P) (w:=w) (base:=base) T;have G_z15:=C2 (P:=P) (w:=w) (base:=base) T;have G_z12:=IM (P:=P) (w:=w) (base:=base) T B;have G_z14:=IF (P:=P) (w:=w) (base:=base) T;have G_z18:=HR (P:=P) (w:=w) (base:=base) T;have G_z9:=JP (P:=P) (w:=w) (base:=base) T
 refine T.F_law.ok sc_law (fun vs H Q E h=>by obtain ⟨a,ns,rfl,_⟩:=h;rfl) (fun cdv A outer s H vs Q E hr h=>?_)
 have hu:=A1 hr
 have mo1:AZ (Cu K T.p_z12):=Ly
 have mo2:AZ (spF K 8):=E1
 have mo3:AZ (BQ K 9):=HH
 have mo4:AZ (Cr K):=Hr
 have mo5:AZ (CA K):=GI
 have mo6:AZ (spC K 9):=G1
 have hr_z13:=hr.mono (show 1<=_ by decide);have hr_z11:=hr.mono (show 10<=_ by decide);have hr_z16:=hr.mono (show 12<=_ by decide);have hr_z15:=hr.mono (show 1<=_ by decide);have hr_z12:=hr.mono (show 9<=_ by decide);have hr_z14:=hr.mono (show 2<=_ by decide);have hr_z18:=hr.mono (show 2<=_ by decide);have hr_z9:=hr.mono (show 12<=_ by decide)
 obtain ⟨a,ns,rfl,hsq,hlen,hT,q⟩:=h
 have hP:=hT T.p_z12 List.mem_cons_self
 refine ⟨_,(@AF _ _ _ _ _ (@AT _ _ 1 _ _ _ _ sc_law.nd rfl (by right) (@AQ _ _ _ _ _ _ _ _ _ _ _ _ _ _ _ _ G_z13 hr_z13 rfl T.m_z13 T.F_z13.kp T.b_z13 .nil AO (@pa1 _ _ _ (@vw _ 0 _ _ (by left)) (by rfl)) (by decide) (by rfl) (by rfl)) (by rfl) (by symm)) (@AF _ _ _ _ _ (@DI _ _ _ _ _ _ _ _ PassesOwn.never rfl (@Eh _ _ _ _ _ _ rfl T.z_range (@pa1 _ _ _ (@AA _ _ _ _) (by rfl)) (by rfl)) (@CD _ _ 2 _ sc_law.nd rfl (by right) (by symm)) (@AF _ _ _ _ _ (@AT _ _ 3 _ _ _ _ sc_law.nd rfl (by right) (@AE _ _ _ _ _ _ _ _ (Aj (K:=K)) (@AA _ _ _ _) (@AQ _ _ _ _ _ _ _ _ _ _ _ _ _ _ _ _ G_z15 hr_z15 rfl T.m_z15 T.F_z15.kp T.b_z15 .nil AO (@AB _ _ _ _ _ (@vw _ 1 _ _ (by left)) (@pa1 _ _ _ (@AA _ _ _ _) (by rfl)) (by rfl)) (by decide) (by rfl) (by rfl))) (by rfl) (by symm)) (@AF _ _ _ _ _ (@AT _ _ 4 _ _ _ _ sc_law.nd rfl (by right) (@AQ _ _ _ _ _ _ _ _ _ _ _ _ _ _ _ _ G_z11 hr_z11 rfl T.m_z11 T.F_z11.kp T.b_z11 .nil AO (@AB _ _ _ _ _ (@vw _ 1 _ _ (by left)) (@AB _ _ _ _ _ (@vw _ 3 _ _ (by left)) (@AB _ _ _ _ _ (@AE _ _ _ _ _ _ _ _ (Aj (K:=K)) (@AA _ _ _ _) (@AQ _ _ _ _ _ _ _ _ _ _ _ _ _ _ _ _ G_z15 hr_z15 rfl T.m_z15 T.F_z15.kp T.b_z15 .nil AO (@AB _ _ _ _ _ (@vw _ 1 _ _ (by left)) (@pa1 _ _ _ (@AA _ _ _ _) (by rfl)) (by rfl)) (by decide) (by rfl) (by rfl))) (@pa1 _ _ _ (@AE _ _ _ _ _ _ _ _ (Aj (K:=K)) (@AA _ _ _ _) (@AQ _ _ _ _ _ _ _ _ _ _ _ _ _ _ _ _ G_z15 hr_z15 rfl T.m_z15 T.F_z15.kp T.b_z15 .nil AO (@AB _ _ _ _ _ (@vw _ 1 _ _ (by left)) (@pa1 _ _ _ (@AA _ _ _ _) (by rfl)) (by rfl)) (by decide) (by rfl) (by rfl))) (by rfl)) (by rfl)) (by rfl)) (by rfl)) (by decide) (by rfl) (by rfl)) (by rfl) (by symm)) (@AF _ _ _ _ _ (@AT _ _ 5 _ _ _ _ sc_law.nd rfl (by right) (@AQ _ _ _ _ _ _ _ _ _ _ _ _ _ _ _ _ G_z16 hr_z16 rfl T.m_z16 T.F_z16.kp T.b_z16 .nil AO (@AB _ _ _ _ _ (@vw _ 1 _ _ (by left)) (@AB _ _ _ _ _ (@vw _ 3 _ _ (by left)) (@pa1 _ _ _ (@vw _ 4 _ _ (by left)) (by rfl)) (by rfl)) (by rfl)) (by decide) (by rfl) (by rfl)) (by rfl) (by symm)) (@AF _ _ _ _ _ (@AT _ _ 6 _ _ _ _ sc_law.nd rfl (by right) (@Az _ _ _ _ (@AB _ _ _ _ _ (@AV _ _ _ _ _ (@AB _ _ _ _ _ (@AK _ _ _ _) (@pa1 _ _ _ (@vw _ 4 _ _ (by left)) (by rfl)) (by rfl))) (@AB _ _ _ _ _ (@AV _ _ _ _ _ (@AB _ _ _ _ _ (@AK _ _ _ _) (@AB _ _ _ _ _ (@vw _ 4 _ _ (by left)) (@pa1 _ _ _ (@vw _ 4 _ _ (by left)) (by rfl)) (by rfl)) (by rfl))) (@AB _ _ _ _ _ (@AV _ _ _ _ _ (@pa1 _ _ _ (@Dy _ _ _ _ (@Bs _)) (by rfl))) (@AB _ _ _ _ _ (@AV _ _ _ _ _ (@AB _ _ _ _ _ (@Ex _ _) (@pa1 _ _ _ (@vw _ 4 _ _ (by left)) (by rfl)) (by rfl))) (@AB _ _ _ _ _ (@AV _ _ _ _ _ (@AB _ _ _ _ _ (@AV _ _ _ _ _ (@AB _ _ _ _ _ (@AK _ _ _ _) (@pa1 _ _ _ (@AA _ _ _ _) (by rfl)) (by rfl))) (@pa1 _ _ _ (@vw _ 4 _ _ (by left)) (by rfl)) (by rfl))) (@pa1 _ _ _ (@AV _ _ _ _ _ (@pa1 _ _ _ (@Dj _ _ _) (by rfl))) (by rfl)) (by rfl)) (by rfl)) (by rfl)) (by rfl)) (by rfl))) (by rfl) (by symm)) (@AL _ _ _ (@DI _ _ _ _ _ _ _ _ PassesOwn.never rfl (@DX _ K _ _ _ (@AE _ _ _ _ _ _ _ _ (Aj (K:=K)) (@Az _ _ _ _ (@AB _ _ _ _ _ (@vw _ 4 _ _ (by left)) (@AB _ _ _ _ _ (@vw _ 5 _ _ (by left)) (@AB _ _ _ _ _ (@AQ _ _ _ _ _ _ _ _ _ _ _ _ _ _ _ _ G_z14 hr_z14 rfl T.m_z14 T.F_z14.kp T.b_z14 .nil AO (@AB _ _ _ _ _ (@vw _ 1 _ _ (by left)) (@pa1 _ _ _ (@vw _ 3 _ _ (by left)) (by rfl)) (by rfl)) (by decide) (by rfl) (by rfl)) (@pa1 _ _ _ (@AQ _ _ _ _ _ _ _ _ _ _ _ _ _ _ _ _ G_z18 hr_z18 rfl T.m_z18 T.F_z18.kp T.b_z18 .nil AO (@pa1 _ _ _ (@vw _ 1 _ _ (by left)) (by rfl)) (by decide) (by rfl) (by rfl)) (by rfl)) (by rfl)) (by rfl)) (by rfl))) (@vw _ 6 _ _ (by left))) (by rfl)) (@CD _ _ 7 _ sc_law.nd rfl (by right) (by symm)) (@AF _ _ _ _ _ (@AT _ _ 8 _ _ _ _ sc_law.nd rfl (by right) (@AQ _ _ _ _ _ _ _ _ _ _ _ _ _ _ _ _ G_z12 hr_z12 rfl T.m_z12 T.F_z12.kp T.b_z12 .nil AO (@AB _ _ _ _ _ (@vw _ 3 _ _ (by left)) (@pa1 _ _ _ (@vw _ 7 _ _ (by left)) (by rfl)) (by rfl)) (by decide) (by rfl) (by rfl)) (by rfl) (by symm)) (@AL _ _ _ (@Ag _ _ _ _ _ _ _ _ (PW.pt (@BX _ _ _ _ _ _ _ (@CP _ _ _ _ (@Bq _ _ _ (@AX _ _ _ _ _ _ _ _ _ (KR (K:=K)) rfl T.z_isinstance (by rfl) (@AB _ _ _ _ _ (@vw _ 8 _ _ (by left)) (@pa1 _ _ _ (@Be _ _ (.ty "bool") _ _ rfl T.z_bool (by rfl) rfl (by decide) (by decide)) (by rfl)) (by rfl)) (by decide) (by decide) (by rfl) (by rfl)) (by intro _;rfl))) (@CH _ _ _ _ (@AS _ _ _ _ _ _ _ _ (kNe (K:=K) hu) (@vw _ 8 _ _ (by left)) (@E9 _ _ _ _ _ _ _ _ _ _ _ _ DV DV (@AA _ _ _ _) (@AQ _ _ _ _ _ _ _ _ _ _ _ _ _ _ _ _ G_z9 hr_z9 rfl T.m_z9 T.F_z9.kp T.b_z9 .nil AO (@AB _ _ _ _ _ (@vw _ 3 _ _ (by left)) (@AB _ _ _ _ _ (@vw _ 7 _ _ (by left)) (@pa1 _ _ _ (@AA _ _ _ _) (by rfl)) (by rfl)) (by rfl)) (by decide) (by rfl) (by rfl)) (@AA _ _ _ _) (by with_unfolding_all rfl)) (by exfalso))))) (@AL _ _ _ (@AR _ _ _ _ (@BZ _ _ _ _))) (@Ae _)))) (by intro _;rfl))))))) (by intro _;rfl)) (@AL _ _ _ (@AR _ _ _ _ (@BZ _ _ _ _))))),?_⟩
 generalize T.p_z12=Pt at *
 refine fun t ht=>?_
 dsimp only [Ai]
 have T1:=KZ ht hsq
 have L1:=(Jy (pos:=Ct) (q:=BK) hP).same (Same.upd (o:=.lst [.ref a,.int 0,.int 0,.int 0]) ht)
 generalize upd H t (.lst [.ref a,.int 0,.int 0,.int 0])=H1 at *
 refine ⟨14,rfl,by decide,by decide,?_⟩
 refine Gs (fun i σ H'=>(∃ z2 z3 z4 z5 z6 z7 z8:Option V,σ=[some (.ref a),some (.ref t),z2,z3,z4,z5,z6,z7,z8])/\Tape K H' t a ns/\Lam Pt Ct BK H') ⟨⟨none,none,none,none,none,none,none,rfl⟩,T1,L1⟩ ?_ (fun σ H' _=>q H')
 rintro i σ H0 hi ⟨⟨z2,z3,z4,z5,z6,z7,z8,rfl⟩,T0,L0⟩
 refine ⟨a,ns,T0,At (by decide) (by decide),fun d1 H2 d10 d11 T2 f2=>?_⟩
 dsimp only [DF,Ai]
 have L2:=CY L0 T0 (AY f2)
 obtain ⟨m,em⟩:∃ m:Nat,1+d1=(m:Int):=⟨(1+d1).toNat,by omega⟩
 rw [em]
 have m1:1<=m:=by omega
 have m6:m<=6:=by omega
 refine ⟨a,ns,T2,At (by decide) (by decide),fun d3 H3 d30 d31 T3 f3=>?_⟩
 refine ⟨a,ns,T3,At (by decide) (by decide),fun d4 H4 d40 d41 T4 f4=>?_⟩
 have L4:=CY (CY L2 T2 (AY f3)) T3 (AY f4)
 refine ⟨a,ns,m,T4,rfl,m1,m6,by omega,by omega,by omega,by omega,fun f vf H5 _ fdeep _ rf T5 F5=>?_⟩
 have L5:=CY L4 T4 F5
 clear f2 f3 f4 F5 T2 T3 T4 L2 L4 T0 L0 T1 L1
 dsimp only [Ai]
 refine ⟨a,ns,f,T5,rf,by omega,fun vb H6 T6 F6 Ab=>?_⟩
 dsimp only [Ai]
 have L6:=CY L5 T5 F6
 have Af:AnyW K H6 vf:=⟨_,Fp _ _ (Cv f) (Rep.frm F6 T5.lst _ _ (Cv f) rf)⟩
 clear rf L5 T5 F6
 refine BI (fun σ H'=>∃ (l:Addr) (ys:List V),σ=[some (.ref a),some (.ref t),some (.int (0+(i:Int))),some (.int m),some vf,some vb,some (.ref l),z7,z8]/\Same H6 H'/\H' l=some (.lst ys)/\ys.length=6/\AnyS K H' ys) ?_ ?_ (by walk_at "sm")
 ·refine ⟨AI (show 2<=1000 by decide),fun p1 n1=>?_⟩
  have S1:=Same.upd (o:=.tup [.str (Str.ofString "not"),vf]) n1
  have B1:AnyW K _ (.ref p1):=(anyW_str.cons ((Af.same S1).cons anyS_nil)).tup (.of AC)
  generalize upd H6 p1 (.tup [.str (Str.ofString "not"),vf])=H7 at *
  refine ⟨AI (show 3<=1000 by decide),fun p2 n2=>?_⟩
  have S2:=st S1 (Same.upd (o:=.tup [.str (Str.ofString "odd"),vf,vf]) n2)
  have B2:AnyS K _ [.ref p1,.ref p2]:=(B1.same (Same.upd n2)).cons (((anyW_str.cons ((Af.same S2).cons ((Af.same S2).cons anyS_nil))).tup (.of AC)).cons anyS_nil)
  generalize upd H7 p2 (.tup [.str (Str.ofString "odd"),vf,vf])=H8 at *
  refine ⟨Nat.zero_le _,fun q3 m3=>?_⟩
  have S3:=st S2 (Same.upd (o:=.ext (Ar q3 [])) m3)
  have B3:=B2.same (Same.upd (o:=.ext (Ar q3 [])) m3)
  have C3:AnyW K _ (.ref q3):=anyS_nil.lst (AC (H:=H8) (a:=q3) (o:=.ext (Ar q3 [])))
  generalize upd H8 q3 (.ext (Ar q3 []))=H9 at *
  refine ⟨AI (show 1<=1000 by decide),fun p3 n3=>?_⟩
  have S4:=st S3 (Same.upd (o:=.tup [.ref q3]) n3)
  have B4:AnyS K _ ([.ref p1,.ref p2]++[.ref p3]):=(B3.same (Same.upd n3)).app ((((C3.same (Same.upd n3)).cons anyS_nil).tup (.of AC)).cons anyS_nil)
  generalize upd H9 p3 (.tup [.ref q3])=H10 at *
  refine fun q4 m4=>?_
  have S5:=st S4 (Same.upd (o:=.dK []) m4)
  have B5:=B4.same (Same.upd (o:=.dK []) m4)
  have C5:AnyW K _ (.ref q4):=Ff (AC (H:=H10) (a:=q4) (o:=.dK []))
  generalize upd H10 q4 (.dK [])=H11 at *
  refine ⟨AI (show 2<=1000 by decide),fun p4 n4=>?_⟩
  have S6:=st S5 (Same.upd (o:=.tup [.ref q4,vf]) n4)
  have B6:AnyS K _ (([.ref p1,.ref p2]++[.ref p3])++[.ref p4]):=(B5.same (Same.upd n4)).app ((((C5.same (Same.upd n4)).cons ((Af.same S6).cons anyS_nil)).tup (.of AC)).cons anyS_nil)
  generalize upd H11 p4 (.tup [.ref q4,vf])=H12 at *
  refine ⟨AI (show 2<=1000 by decide),fun q5 m5=>?_⟩
  have S7:=st S6 (Same.upd (o:=.tup [.str (Str.ofString "at"),.int 0]) m5)
  have B7:=B6.same (Same.upd (o:=.tup [.str (Str.ofString "at"),.int 0]) m5)
  have C7:AnyW K _ (.ref q5):=(anyW_str.cons (anyW_int.cons anyS_nil)).tup (.of (AC (H:=H12) (a:=q5) (o:=.tup [.str (Str.ofString "at"),.int 0])))
  generalize upd H12 q5 (.tup [.str (Str.ofString "at"),.int 0])=H13 at *
  refine ⟨AI (show 2<=1000 by decide),fun p5 n5=>?_⟩
  have S8:=st S7 (Same.upd (o:=.tup [.ref q5,vf]) n5)
  have B8:AnyS K _ ((([.ref p1,.ref p2]++[.ref p3])++[.ref p4])++[.ref p5]):=(B7.same (Same.upd n5)).app ((((C7.same (Same.upd n5)).cons ((Af.same S8).cons anyS_nil)).tup (.of AC)).cons anyS_nil)
  generalize upd H13 p5 (.tup [.ref q5,vf])=H14 at *
  refine ⟨AI (show 1<=1000 by decide),fun p6 n6=>?_⟩
  have S9:=st S8 (Same.upd (o:=.tup [.non]) n6)
  have B9:AnyS K _ (((([.ref p1,.ref p2]++[.ref p3])++[.ref p4])++[.ref p5])++[.ref p6]):=(B8.same (Same.upd n6)).app (((anyW_non.cons anyS_nil).tup (.of AC)).cons anyS_nil)
  generalize upd H14 p6 (.tup [.non])=H15 at *
  refine ⟨AI (show 6<=1000 by decide),fun p7 n7=>?_⟩
  exact ⟨p7,_,rfl,st S9 (Same.upd n7),AC,rfl,B9.same (Same.upd n7)⟩
 rintro σ H7 ⟨l,ys,rfl,S7,gl,hyl,Ay⟩
 have T7:=T6.same S7
 have L7:=L6.same S7
 have Af7:=Af.same S7
 have Ab7:=Ab.same S7
 clear S7 T6 L6 Af Ab
 refine ⟨a,ns,T7,by omega,by omega,fun vl H8 T8 F8 Al=>?_⟩
 refine ⟨a,ns,T8,fun vo H9 T9 F9 Ao=>?_⟩
 refine ⟨AI (show 4<=1000 by decide),fun p8 n8=>?_⟩
 have S10:=Same.upd (o:=.lst [vf,vb,vl,vo]) n8
 have F9':=F8.trans F9
 have nlt:l≠t:=fun e=>by
  obtain ⟨i',r',c',_,_,h3⟩:=T7.at_
  rw [e,h3] at gl
  have:=hyl
  cases gl
  cases this
 have L9:=CY L7 T7 F9'
 have A10:AnyS K H9 ([vf,vb,vl,vo]++ys):=((Af7.frm T7 F9').cons ((Ab7.frm T7 F9').cons ((Al.frm T8 F9).cons (AnyW.cons Ao anyS_nil)))).app (Ay.frm T7 F9')
 refine .inl ⟨p8,l,[vf,vb,vl,vo],ys,rfl,rfl,AC,S10 _ _ (F9' _ _ nlt gl),AI (by show 4+ys.length<=1000;omega),fun p9 n9=>?_⟩
 have S11:=st S10 (Same.upd (o:=.lst ([vf,vb,vl,vo]++ys)) n9)
 have g11:=AC (H:=upd H9 p8 (.lst [vf,vb,vl,vo])) (a:=p9) (o:=.lst ([vf,vb,vl,vo]++ys))
 generalize upd (upd H9 p8 (.lst [vf,vb,vl,vo])) p9 (.lst ([vf,vb,vl,vo]++ys))=H11 at *
 have T11:=T9.same S11
 have L11:=L9.same S11
 have A11:=A10.same S11
 generalize [vf,vb,vl,vo]++ys=zs at *
 clear A10 L9 S11 S10 T9 F9' Ao F9 Al T8 F8 Ay Ab7 Af7 L7 T7 gl
 refine .inl ⟨⟨_,.inl (.of g11)⟩,?_⟩
 refine Gn (xs:=zs) (fun j σ H'=>∃ z7 z8:Option V,σ=[some (.ref a),some (.ref t),some (.int (0+(i:Int))),some (.int m),some vf,some vb,some (.ref l),z7,z8]/\Tape K H' t a ns/\Lam Pt Ct BK H'/\H' p9=some (.lst zs)/\AnyS K H' zs) ⟨z7,z8,rfl,T11,L11,g11,A11⟩ (fun j σ H' _ ⟨_,_,_,_,_,g,_⟩=>.inl (.of g)) ?_ ?_
 ·rintro j x σ H2 hx ⟨y7,y8,rfl,T2,L2,g2,A2⟩
  obtain ⟨d,rd⟩:=A2.at hx
  obtain ⟨pz,hPz,_⟩:=id L2
  refine ⟨m,d,rfl,rd,L2,fun H3 G3 L3=>?_⟩
  dsimp only [Ai]
  have T3:=IZ T2 hPz G3
  have g3:=G3 _ _ (fun e=>by rw [e,hPz] at g2;cases g2) g2
  have A3:=A2.tab G3 hPz
  have rd3:=RepW.tab G3 hPz _ _ rd
  refine ⟨by decide,true,rfl,?_⟩
  refine ⟨m,8,d,rfl,rd3,rfl,by decide,by decide,fun H4 s4=>?_⟩
  have fin:∃ z7 z8:Option V,([some (.ref a),some (.ref t),some (.int (0+(i:Int))),some (.int m),some vf,some vb,some (.ref l),some x,some (.bl (A0 m d))]:St)=[some (.ref a),some (.ref t),some (.int (0+(i:Int))),some (.int m),some vf,some vb,some (.ref l),z7,z8]/\Tape K H4 t a ns/\Lam Pt Ct BK H4/\H4 p9=some (.lst zs)/\AnyS K H4 zs:=⟨_,_,rfl,T3.same s4,L3.same s4,s4 _ _ g3,A3.same s4⟩
  have fc:=Ka m d
  generalize cnt (AG m) AH 8 d=c at *
  refine AN (fun e=>?_) (fun e=>?_)
  ·have e1:(1:Int)<=(c:Int):=of_decide_eq_true e
   have e0:(true ^^ (A0 m d == decide ((c:Int)<=20)))=false:=by
    rw [fc]
    by_cases h:c<=20
    ·rw [decide_eq_true (show 1<=c/\c<=20 from ⟨by omega,h⟩),decide_eq_true (show (c:Int)<=20 by omega)];rfl
    ·rw [decide_eq_false (show ¬ (1<=c/\c<=20) from fun z=>h z.2),decide_eq_false (show ¬ (c:Int)<=20 by omega)];rfl
   show (if (true ^^ (A0 m d == decide ((c:Int)<=20)))=true then _ else _)
   rw [e0]
   exact GV fin
  ·have e1:¬ (1:Int)<=(c:Int):=fun z=>e (decide_eq_true z)
   have e0:(true ^^ (A0 m d == false))=false:=by
    rw [fc,decide_eq_false (show ¬ (1<=c/\c<=20) from fun z=>e1 (by omega))];rfl
   show (if (true ^^ (A0 m d == false))=true then _ else _)
   rw [e0]
   exact GV fin
 ·rintro σ H2 ⟨y7,y8,rfl,T2,L2,g2,A2⟩
  exact ⟨⟨_,_,_,_,_,_,_,rfl⟩,T2,L2⟩
end
theorem all_mk {l:W.OpenLaw} {w:World} {K:W.Frag} {h:Heap} {mg:Str->Option Value} {fa:Addr} (X:K.In h) (G:h.Ns mainGlobals mg) (hfa:mg "law" = some (.ref fa))
 {f0 f1 f2 f3 f4 f5 f7 f8 f9 f10 f11 f12 f13 f14:Addr} {oc0 kV0 dc0 pm0 cd0 ct0 oc1 kV1 dc1 pm1 cd1 ct1 oc2 kV2 dc2 pm2 cd2 ct2 oc3 kV3 dc3 pm3 cd3 ct3 oc4 kV4 dc4 pm4 cd4 ct4 oc5 kV5 dc5 pm5 cd5 ct5 oc7 kV7 dc7 pm7 cd7 ct7 oc8 kV8 dc8 pm8 cd8 ct8 oc9 kV9 dc9 pm9 cd9 ct9 oc10 kV10 dc10 pm10 cd10 ct10 oc11 kV11 dc11 pm11 cd11 ct11 oc12 kV12 dc12 pm12 cd12 ct12 oc13 kV13 dc13 pm13 cd13 ct13 oc14 kV14 dc14 pm14 cd14 ct14:Value} {od0 an0 od1 an1 od2 an2 od3 an3 od4 an4 od5 an5 od7 an7 od8 an8 od9 an9 od10 an10 od11 an11 od12 an12 od13 an13 od14 an14:Option Addr} {sl0 sl1 sl2 sl3 sl4 sl5 sl7 sl8 sl9 sl10 sl11 sl12 sl13 sl14:Array (Option Value)}
 {f6:Addr} {oc6 kV6 dc6 pm6 ct6:Value} {od6 an6:Option Addr} {sl6:Array (Option Value)} {g6 p6:Addr} {cvs6:Array Value} {cod6:Option Addr} {csl6:Array (Option Value)}
 {ac_PARTS:Addr} {ep_PARTS:Nat} {t_PARTS_0 u_PARTS_0 t_PARTS_1 u_PARTS_1 t_PARTS_2 u_PARTS_2 t_PARTS_3 u_PARTS_3 t_PARTS_4 u_PARTS_4 t_PARTS_5 u_PARTS_5 t_PARTS_6 u_PARTS_6 t_PARTS_7 u_PARTS_7:Tok}
 {t_MOST_FORMULAS:Tok}
 {t_MOST_WITHIN:Tok}
 (a0:W.nsIn K mainGlobals "keeps_to" = some (some (.ref f0)))
 (l0:K.lookup f0=some ⟨oc0,od0,.func (W.fnOf "keeps_to" "keeps_to" (Ak CO) (Ac CO) (AM CO) .none kV0 dc0 pm0 an0 cd0 ct0),sl0⟩)
 (c0:W.codeIn K cd0 "keeps_to" = true)
 (k0:W.keepIn K (.ref f0)=true)
 (a1:W.nsIn K mainGlobals "is_whole" = some (some (.ref f1)))
 (l1:K.lookup f1=some ⟨oc1,od1,.func (W.fnOf "is_whole" "is_whole" (Ak Cp) (Ac Cp) (AM Cp) .none kV1 dc1 pm1 an1 cd1 ct1),sl1⟩)
 (c1:W.codeIn K cd1 "is_whole" = true)
 (k1:W.keepIn K (.ref f1)=true)
 (a2:W.nsIn K mainGlobals "is_below" = some (some (.ref f2)))
 (l2:K.lookup f2=some ⟨oc2,od2,.func (W.fnOf "is_below" "is_below" (Ak CZ) (Ac CZ) (AM CZ) .none kV2 dc2 pm2 an2 cd2 ct2),sl2⟩)
 (c2:W.codeIn K cd2 "is_below" = true)
 (k2:W.keepIn K (.ref f2)=true)
 (a3:W.nsIn K mainGlobals "is_too_large" = some (some (.ref f3)))
 (l3:K.lookup f3=some ⟨oc3,od3,.func (W.fnOf "is_too_large" "is_too_large" (Ak Cq) (Ac Cq) (AM Cq) .none kV3 dc3 pm3 an3 cd3 ct3),sl3⟩)
 (c3:W.codeIn K cd3 "is_too_large" = true)
 (k3:W.keepIn K (.ref f3)=true)
 (a4:W.nsIn K mainGlobals "has_form" = some (some (.ref f4)))
 (l4:K.lookup f4=some ⟨oc4,od4,.func (W.fnOf "has_form" "has_form" (Ak Cn) (Ac Cn) (AM Cn) .none kV4 dc4 pm4 an4 cd4 ct4),sl4⟩)
 (c4:W.codeIn K cd4 "has_form" = true)
 (k4:W.keepIn K (.ref f4)=true)
 (a5:W.nsIn K mainGlobals "formulas_within" = some (some (.ref f5)))
 (l5:K.lookup f5=some ⟨oc5,od5,.func (W.fnOf "formulas_within" "formulas_within" (Ak Ck) (Ac Ck) (AM Ck) .none kV5 dc5 pm5 an5 cd5 ct5),sl5⟩)
 (c5:W.codeIn K cd5 "formulas_within" = true)
 (k5:W.keepIn K (.ref f5)=true)
 (a6:W.nsIn K mainGlobals "is_formula" = some (some (.ref f6)))
 (l6:K.lookup f6=some ⟨oc6,od6,.func (W.fnOf "is_formula" "is_formula" (Ak Bg) (Ac Bg) (AM Bg) .none kV6 dc6 pm6 an6 (.ref g6) ct6),sl6⟩)
 (c6:W.codeIn K (.ref g6) "is_formula" = true)
 (k6:W.keepIn K (.ref f6)=true)
 (lc6:K.lookup g6=some ⟨.type "code",cod6,.fields cvs6,csl6⟩)
 (pv6:cvs6[11]? = some (.ref p6))
 (gh6:W.codeHdIn K g6 p6=true)
 (gt6:h.get? p6=some (W.tabObj #[]))
 (a7:W.nsIn K mainGlobals "_law_tape" = some (some (.ref f7)))
 (l7:K.lookup f7=some ⟨oc7,od7,.func (W.fnOf "_law_tape" "_law_tape" (Ak CV) (Ac CV) (AM CV) .none kV7 dc7 pm7 an7 cd7 ct7),sl7⟩)
 (c7:W.codeIn K cd7 "_law_tape" = true)
 (k7:W.keepIn K (.ref f7)=true)
 (a8:W.nsIn K mainGlobals "_law_next" = some (some (.ref f8)))
 (l8:K.lookup f8=some ⟨oc8,od8,.func (W.fnOf "_law_next" "_law_next" (Ak Cb) (Ac Cb) (AM Cb) .none kV8 dc8 pm8 an8 cd8 ct8),sl8⟩)
 (c8:W.codeIn K cd8 "_law_next" = true)
 (k8:W.keepIn K (.ref f8)=true)
 (a9:W.nsIn K mainGlobals "_law_odd" = some (some (.ref f9)))
 (l9:K.lookup f9=some ⟨oc9,od9,.func (W.fnOf "_law_odd" "_law_odd" (Ak Co) (Ac Co) (AM Co) .none kV9 dc9 pm9 an9 cd9 ct9),sl9⟩)
 (c9:W.codeIn K cd9 "_law_odd" = true)
 (k9:W.keepIn K (.ref f9)=true)
 (a10:W.nsIn K mainGlobals "_law_formula" = some (some (.ref f10)))
 (l10:K.lookup f10=some ⟨oc10,od10,.func (W.fnOf "_law_formula" "_law_formula" (Ak CN) (Ac CN) (AM CN) .none kV10 dc10 pm10 an10 cd10 ct10),sl10⟩)
 (c10:W.codeIn K cd10 "_law_formula" = true)
 (k10:W.keepIn K (.ref f10)=true)
 (a11:W.nsIn K mainGlobals "_law_is_formula" = some (some (.ref f11)))
 (l11:K.lookup f11=some ⟨oc11,od11,.func (W.fnOf "_law_is_formula" "_law_is_formula" (Ak CU) (Ac CU) (AM CU) .none kV11 dc11 pm11 an11 cd11 ct11),sl11⟩)
 (c11:W.codeIn K cd11 "_law_is_formula" = true)
 (k11:W.keepIn K (.ref f11)=true)
 (a12:W.nsIn K mainGlobals "_law_bent" = some (some (.ref f12)))
 (l12:K.lookup f12=some ⟨oc12,od12,.func (W.fnOf "_law_bent" "_law_bent" (Ak Cj) (Ac Cj) (AM Cj) .none kV12 dc12 pm12 an12 cd12 ct12),sl12⟩)
 (c12:W.codeIn K cd12 "_law_bent" = true)
 (k12:W.keepIn K (.ref f12)=true)
 (a13:W.nsIn K mainGlobals "_law_long" = some (some (.ref f13)))
 (l13:K.lookup f13=some ⟨oc13,od13,.func (W.fnOf "_law_long" "_law_long" (Ak Cg) (Ac Cg) (AM Cg) .none kV13 dc13 pm13 an13 cd13 ct13),sl13⟩)
 (c13:W.codeIn K cd13 "_law_long" = true)
 (k13:W.keepIn K (.ref f13)=true)
 (a14:W.nsIn K mainGlobals "law" = some (some (.ref f14)))
 (l14:K.lookup f14=some ⟨oc14,od14,.func (W.fnOf "law" "law" (Ak Bd) (Ac Bd) (AM Bd) .none kV14 dc14 pm14 an14 cd14 ct14),sl14⟩)
 (c14:W.codeIn K cd14 "law" = true)
 (k14:W.keepIn K (.ref f14)=true)
 (z_bool:W.nsIn K mainGlobals "bool" = some none)
 (z_int:W.nsIn K mainGlobals "int" = some none)
 (z_isinstance:W.nsIn K mainGlobals "isinstance" = some none)
 (z_len:W.nsIn K mainGlobals "len" = some none)
 (z_list:W.nsIn K mainGlobals "list" = some none)
 (z_max:W.nsIn K mainGlobals "max" = some none)
 (z_range:W.nsIn K mainGlobals "range" = some none)
 (z_str:W.nsIn K mainGlobals "str" = some none)
 (z_sum:W.nsIn K mainGlobals "sum" = some none)
 (z_tuple:W.nsIn K mainGlobals "tuple" = some none)
 (c_PARTS:W.nsIn K mainGlobals "PARTS" = some (some (.ref ac_PARTS)))
 (q_PARTS:K.lookup ac_PARTS=some ⟨.type "dict",none,.dict #[⟨PyData.keyHash w.params "yes",.str "yes" t_PARTS_0,.int 0 u_PARTS_0⟩,⟨PyData.keyHash w.params "no",.str "no" t_PARTS_1,.int 0 u_PARTS_1⟩,⟨PyData.keyHash w.params "at",.str "at" t_PARTS_2,.int 0 u_PARTS_2⟩,⟨PyData.keyHash w.params "not",.str "not" t_PARTS_3,.int 1 u_PARTS_3⟩,⟨PyData.keyHash w.params "both",.str "both" t_PARTS_4,.int 2 u_PARTS_4⟩,⟨PyData.keyHash w.params "either",.str "either" t_PARTS_5,.int 2 u_PARTS_5⟩,⟨PyData.keyHash w.params "odd",.str "odd" t_PARTS_6,.int 2 u_PARTS_6⟩,⟨PyData.keyHash w.params "most",.str "most" t_PARTS_7,.int 3 u_PARTS_7⟩] ep_PARTS,#[]⟩)
 (s_PARTS:(ac_PARTS == sysModules)=false)
 (c_MOST_FORMULAS:W.nsIn K mainGlobals "MOST_FORMULAS" = some (some (.int 20 t_MOST_FORMULAS)))
 (c_MOST_WITHIN:W.nsIn K mainGlobals "MOST_WITHIN" = some (some (.int 8 t_MOST_WITHIN)))
 (hnt:W.noTabs K=true) :
 ∃ (fd:FuncData) (ts:List (Addr × Addr)),W.TabsAt ts h/\W.noTabs K=true/\(∀ (s:Shared) (v:Value),BindsTo s fd ⟨[v],[]⟩ [("_law_script",v)])/\∀ base:Heap,K.In base->base.Ns mainGlobals mg->BMn mg base->FnOk l.prog w K mg base CX0 13 fa fd ["_law_script"] (Dr K (ts.map (·.2))):=by
 have e:=hfa.symm.trans (W.mg_of X G a14)
 cases e
 have F0:=Ax (st:=CO) l0 c0 k0
 have b0:=F0.binds (ps:=["has_form","parts_within","is_beyond","thing"]) fun _ _ _ _ _ _=>L2.on4 (fun _ _ _ _=>rfl)
 have F1:=Ax (st:=Cp) l1 c1 k1
 have b1:=F1.binds (ps:=["thing"]) fun _ _ _ _ _ _=>L2.on1 (fun _=>rfl)
 have F2:=Ax (st:=CZ) l2 c2 k2
 have b2:=F2.binds (ps:=["bound","thing"]) fun _ _ _ _ _ _=>L2.on2 (fun _ _=>rfl)
 have F3:=Ax (st:=Cq) l3 c3 k3
 have b3:=F3.binds (ps:=["many","depth"]) fun _ _ _ _ _ _=>L2.on2 (fun _ _=>rfl)
 have F4:=Ax (st:=Cn) l4 c4 k4
 have b4:=F4.binds (ps:=["n","thing"]) fun _ _ _ _ _ _=>L2.on2 (fun _ _=>rfl)
 have F5:=Ax (st:=Ck) l5 c5 k5
 have b5:=F5.binds (ps:=["formula"]) fun _ _ _ _ _ _=>L2.on1 (fun _=>rfl)
 have F6:=Ax (st:=Bg) l6 c6 k6
 have b6:=F6.binds (ps:=["n","thing"]) fun _ _ _ _ _ _=>L2.on2 (fun _ _=>rfl)
 have F7:=Ax (st:=CV) l7 c7 k7
 have b7:=F7.binds (ps:=["_law_script"]) fun _ _ _ _ _ _=>L2.on1 (fun _=>rfl)
 have F8:=Ax (st:=Cb) l8 c8 k8
 have b8:=F8.binds (ps:=["_law_tape_here","_law_many"]) fun _ _ _ _ _ _=>L2.on2 (fun _ _=>rfl)
 have F9:=Ax (st:=Co) l9 c9 k9
 have b9:=F9.binds (ps:=["_law_tape_here"]) fun _ _ _ _ _ _=>L2.on1 (fun _=>rfl)
 have F10:=Ax (st:=CN) l10 c10 k10
 have b10:=F10.binds (ps:=["_law_tape_here","_law_n","_law_room","_law_deep"]) fun _ _ _ _ _ _=>L2.on4 (fun _ _ _ _=>rfl)
 have F11:=Ax (st:=CU) l11 c11 k11
 have b11:=F11.binds (ps:=["_law_n","_law_thing","_law_deep"]) fun _ _ _ _ _ _=>L2.on3 (fun _ _ _=>rfl)
 have F12:=Ax (st:=Cj) l12 c12 k12
 have b12:=F12.binds (ps:=["_law_tape_here","_law_n","_law_formula_here"]) fun _ _ _ _ _ _=>L2.on3 (fun _ _ _=>rfl)
 have F13:=Ax (st:=Cg) l13 c13 k13
 have b13:=F13.binds (ps:=["_law_tape_here","_law_n"]) fun _ _ _ _ _ _=>L2.on2 (fun _ _=>rfl)
 have F14:=Ax (st:=Bd) l14 c14 k14
 have b14:=F14.binds (ps:=["_law_script"]) fun _ _ _ _ _ _=>L2.on1 (fun _=>rfl)
 let T:Txt w K mg:={ f_z20:=f0,d_z20:=_,F_z20:=F0,b_z20:=b0,m_z20:=W.mg_of X G a0,f_z21:=f1,d_z21:=_,F_z21:=F1,b_z21:=b1,m_z21:=W.mg_of X G a1,f_z17:=f2,d_z17:=_,F_z17:=F2,b_z17:=b2,m_z17:=W.mg_of X G a2,f_z10:=f3,d_z10:=_,F_z10:=F3,b_z10:=b3,m_z10:=W.mg_of X G a3,f_z19:=f4,d_z19:=_,F_z19:=F4,b_z19:=b4,m_z19:=W.mg_of X G a4,f_z0:=f5,d_z0:=_,F_z0:=F5,b_z0:=b5,m_z0:=W.mg_of X G a5,g_z12:=g6,p_z12:=p6,gc_z12:=rfl,gh_z12:=gh6,f_z12:=f6,d_z12:=_,F_z12:=F6,b_z12:=b6,m_z12:=W.mg_of X G a6,f_z13:=f7,d_z13:=_,F_z13:=F7,b_z13:=b7,m_z13:=W.mg_of X G a7,f_z15:=f8,d_z15:=_,F_z15:=F8,b_z15:=b8,m_z15:=W.mg_of X G a8,f_z18:=f9,d_z18:=_,F_z18:=F9,b_z18:=b9,m_z18:=W.mg_of X G a9,f_z11:=f10,d_z11:=_,F_z11:=F10,b_z11:=b10,m_z11:=W.mg_of X G a10,f_z9:=f11,d_z9:=_,F_z9:=F11,b_z9:=b11,m_z9:=W.mg_of X G a11,f_z16:=f12,d_z16:=_,F_z16:=F12,b_z16:=b12,m_z16:=W.mg_of X G a12,f_z14:=f13,d_z14:=_,F_z14:=F13,b_z14:=b13,m_z14:=W.mg_of X G a13,f_law:=fa,d_law:=_,F_law:=F14,b_law:=b14,m_law:=W.mg_of X G a14,z_bool:=W.mg_none_of X G z_bool,z_int:=W.mg_none_of X G z_int,z_isinstance:=W.mg_none_of X G z_isinstance,z_len:=W.mg_none_of X G z_len,z_list:=W.mg_none_of X G z_list,z_max:=W.mg_none_of X G z_max,z_range:=W.mg_none_of X G z_range,z_str:=W.mg_none_of X G z_str,z_sum:=W.mg_none_of X G z_sum,z_tuple:=W.mg_none_of X G z_tuple,a_PARTS:=ac_PARTS,c_PARTS:=W.mg_of X G c_PARTS,q_PARTS:=fun P=>JV (vs:=[(Sum.inr "yes",.int 0 u_PARTS_0),(Sum.inr "no",.int 0 u_PARTS_1),(Sum.inr "at",.int 0 u_PARTS_2),(Sum.inr "not",.int 1 u_PARTS_3),(Sum.inr "both",.int 2 u_PARTS_4),(Sum.inr "either",.int 2 u_PARTS_5),(Sum.inr "odd",.int 2 u_PARTS_6),(Sum.inr "most",.int 3 u_PARTS_7)]) q_PARTS s_PARTS (.cons ⟨rfl,⟨_,rfl⟩⟩ (.cons ⟨rfl,⟨_,rfl⟩⟩ (.cons ⟨rfl,⟨_,rfl⟩⟩ (.cons ⟨rfl,⟨_,rfl⟩⟩ (.cons ⟨rfl,⟨_,rfl⟩⟩ (.cons ⟨rfl,⟨_,rfl⟩⟩ (.cons ⟨rfl,⟨_,rfl⟩⟩ (.cons ⟨rfl,⟨_,rfl⟩⟩ .nil)))))))) (List.forall_mem_cons.mpr ⟨⟨Sum.inr "yes",Ah (k:=Sum.inr "yes") ⟨_,rfl⟩,rfl⟩,List.forall_mem_cons.mpr ⟨⟨Sum.inr "no",Ah (k:=Sum.inr "no") ⟨_,rfl⟩,rfl⟩,List.forall_mem_cons.mpr ⟨⟨Sum.inr "at",Ah (k:=Sum.inr "at") ⟨_,rfl⟩,rfl⟩,List.forall_mem_cons.mpr ⟨⟨Sum.inr "not",Ah (k:=Sum.inr "not") ⟨_,rfl⟩,rfl⟩,List.forall_mem_cons.mpr ⟨⟨Sum.inr "both",Ah (k:=Sum.inr "both") ⟨_,rfl⟩,rfl⟩,List.forall_mem_cons.mpr ⟨⟨Sum.inr "either",Ah (k:=Sum.inr "either") ⟨_,rfl⟩,rfl⟩,List.forall_mem_cons.mpr ⟨⟨Sum.inr "odd",Ah (k:=Sum.inr "odd") ⟨_,rfl⟩,rfl⟩,List.forall_mem_cons.mpr ⟨⟨Sum.inr "most",Ah (k:=Sum.inr "most") ⟨_,rfl⟩,rfl⟩,fun e he=>nomatch he⟩⟩⟩⟩⟩⟩⟩⟩) (.cons (Ah (k:=Sum.inr "yes") ⟨_,rfl⟩) rfl (.cons (Ah (k:=Sum.inr "no") ⟨_,rfl⟩) rfl (.cons (Ah (k:=Sum.inr "at") ⟨_,rfl⟩) rfl (.cons (Ah (k:=Sum.inr "not") ⟨_,rfl⟩) rfl (.cons (Ah (k:=Sum.inr "both") ⟨_,rfl⟩) rfl (.cons (Ah (k:=Sum.inr "either") ⟨_,rfl⟩) rfl (.cons (Ah (k:=Sum.inr "odd") ⟨_,rfl⟩) rfl (.cons (Ah (k:=Sum.inr "most") ⟨_,rfl⟩) rfl .nil)))))))) (show ([Sum.inr "yes",Sum.inr "no",Sum.inr "at",Sum.inr "not",Sum.inr "both",Sum.inr "either",Sum.inr "odd",Sum.inr "most"]:List Key).Nodup by decide),t_MOST_FORMULAS:=t_MOST_FORMULAS,c_MOST_FORMULAS:=W.mg_of X G c_MOST_FORMULAS,t_MOST_WITHIN:=t_MOST_WITHIN,c_MOST_WITHIN:=W.mg_of X G c_MOST_WITHIN }
 exact ⟨W.fnOf "law" "law" (Ak Bd) (Ac Bd) (AM Bd) .none kV14 dc14 pm14 an14 cd14 ct14,[(g6,p6)],List.forall_mem_cons.mpr ⟨⟨W.codeHd_of_K X gh6,gt6⟩,fun _ z=>nomatch z⟩,hnt,fun s v=>.of_eq rfl,fun base _ _ B=>Jj T B⟩
theorem walk {l:W.OpenLaw} {q:Program} {loose:List Str} {XP:(Str->Option Value)->Heap->Prop} {YP:World->Heap->Prop} {d:DefRec} {K:Params->W.Frag} (hn:l.most=some 63) (hdf:d.params.defaults=[])
 (hY:∀ (w:World) (h:Heap),YP w h->(K w.params).In h)
 (F:∀ (w:World) (mg:Str->Option Value) (fa:Addr) (h:Heap),YP w h->(K w.params).In h->h.Ns mainGlobals mg->mg d.name=some (.ref fa) ->
   ∃ (fd:FuncData) (ts:List (Addr × Addr)),W.TabsAt ts h/\W.noTabs (K w.params)=true/\(∀ (s:Shared) (u:Value),BindsTo s fd ⟨[u],[]⟩ [("_law_script",u)])/\∀ base:Heap,(K w.params).In base->base.Ns mainGlobals mg->BMn mg base->FnOk l.prog w (K w.params) mg base CX0 13 fa fd ["_law_script"] (Dr (K w.params) (ts.map (·.2)))) :
 W.WalkO q loose XP YP l.row.toRowW d [] (fun f vs=>PySem.call f vs) :=
 L2.walk_ofT (n:=63) (k:=13) (x:="_law_script") (sp:=fun w ts=>Dr (K w.params) ts) hn (by decide) hdf ⟨rfl,by decide,by decide,rfl⟩ hY F (fun _ _ a ns ts hl hO hS=>⟨a,ns,rfl,hS,hl,hO,fun _=>rfl⟩)
end Mine
theorem PySem.W.Fast.te1129313010965947659:True:=trivial
def PySem.W.Fast.tw802436869585199735:PySem.Program:=PySem.Challenge.pw_flips_k04_formulas_by_kind
theorem PySem.W.Fast.te802436869585199735:PySem.Challenge.pw_flips_k04_formulas_by_kind=PySem.W.Fast.tw802436869585199735:=rfl
def PySem.W.Fast.pickB:List Bool->List PySem.Stmt->List PySem.Stmt
 | [],_=>[]
 | b::k,l=>match b,l with
  | true,s::r=>s::PySem.W.Fast.pickB k r
  | false,_::r=>PySem.W.Fast.pickB k r
  | _,[]=>[]
def PySem.W.Fast.tw14100516525077372870:PySem.Program:={ PySem.Challenge.pw_flips_k04_formulas_by_kind with main:={ (PySem.Challenge.pw_flips_k04_formulas_by_kind).main with body:=PySem.W.Fast.pickB [false,true,false,true,true,false,true,true,true,true,true,true,true,false,true,true,true,true,true,true,true,true] (PySem.Challenge.pw_flips_k04_formulas_by_kind).main.body } }
theorem PySem.W.Fast.te14100516525077372870:PySem.W.Fast.tw14100516525077372870=PySem.W.Fast.tw14100516525077372870:=rfl
def PySem.W.Fast.tw11151462692826115618:List PySem.Stmt:=((PySem.Challenge.pw_flips_k04_formulas_by_kind).main.body.drop 0).take 14
theorem PySem.W.Fast.te11151462692826115618:PySem.W.Fast.tw11151462692826115618=PySem.W.Fast.tw11151462692826115618:=rfl
def PySem.W.Fast.tw7539725086466825134:List PySem.Stmt:=((PySem.Challenge.pw_flips_k04_formulas_by_kind).main.body.drop 14).take 8
theorem PySem.W.Fast.te7539725086466825134:PySem.W.Fast.tw7539725086466825134=PySem.W.Fast.tw7539725086466825134:=rfl
open PySem PySem.W PyProof.Rows
set_option maxRecDepth 100000 in
set_option maxHeartbeats 0 in
theorem PySem.Challenge.cw_flips_k04_formulas_by_kind_holds : PySem.Challenge.rw_flips_k04_formulas_by_kind.Holds := by
 w_on;o_law;k_head;(case hw=>w_witness2)
 k_fill
 refine Mine.walk (l:=PySem.Challenge.rw_flips_k04_formulas_by_kind) rfl rfl (fun w h Y=>PySem.W.km_in_of Y) ?F
 case F =>
  intro w mg fa h Y KX G hmg
  refine' Mine.all_mk KX G hmg ?a0 ?l0 ?c0 ?k0 ?a1 ?l1 ?c1 ?k1 ?a2 ?l2 ?c2 ?k2 ?a3 ?l3 ?c3 ?k3 ?a4 ?l4 ?c4 ?k4 ?a5 ?l5 ?c5 ?k5 ?a6 ?l6 ?c6 ?k6 ?lc6 ?pv6 ?gh6 ?gt6 ?a7 ?l7 ?c7 ?k7 ?a8 ?l8 ?c8 ?k8 ?a9 ?l9 ?c9 ?k9 ?a10 ?l10 ?c10 ?k10 ?a11 ?l11 ?c11 ?k11 ?a12 ?l12 ?c12 ?k12 ?a13 ?l13 ?c13 ?k13 ?a14 ?l14 ?c14 ?k14 ?z_bool ?z_int ?z_isinstance ?z_len ?z_list ?z_max ?z_range ?z_str ?z_sum ?z_tuple ?c_PARTS ?q_PARTS ?s_PARTS ?c_MOST_FORMULAS ?c_MOST_WITHIN ?hnt
  (case a0 | l0 | c0 | k0 | a1 | l1 | c1 | k1 | a2 | l2 | c2 | k2 | a3 | l3 | c3 | k3 | a4 | l4 | c4 | k4 | a5 | l5 | c5 | k5 | a6 | l6 | c6 | k6 | lc6 | a7 | l7 | c7 | k7 | a8 | l8 | c8 | k8 | a9 | l9 | c9 | k9 | a10 | l10 | c10 | k10 | a11 | l11 | c11 | k11 | a12 | l12 | c12 | k12 | a13 | l13 | c13 | k13 | a14 | l14 | c14 | k14 | z_bool | z_int | z_isinstance | z_len | z_list | z_max | z_range | z_str | z_sum | z_tuple | c_PARTS | q_PARTS | c_MOST_FORMULAS | c_MOST_WITHIN=>k_is)
  (case pv6=>rfl)
  (case gh6=>kernel_rfl)
  (case gt6=>exact PySem.W.km_tabs_of Y _ (by k_mem))
  (case s_PARTS=>rfl)
  (case hnt=>kernel_rfl)
