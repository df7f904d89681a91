import PyProof.Rows.All
import Wide.All
import OpenK.AllK
import Wide.FinOn
import Lean
import PyProof.EqAt
import PyProof.EqKinds
import PyProof.TupleCall
import PyProof.NeKinds
import PyProof.ReprRoads
import PyProof.ReprBulk
import PyProof.Draws
import PyProof.EnumMake
import KE.BitLaws
import PyProof.ListIndex
import PyProof.AttrMissHeap
import PyProof.DictUpdate
import KE.KDictOf
import PyProof.FactsAll.enumerate_1
import PyProof.FactsAll.tuple_2
import PyProof.ListMulRoad
import PyProof.ListRange
import PyProof.FactsAll.list_3
import PyProof.Rows.SortWalk
import PyProof.Rows.MinMaxN
import KE.KEqDict
import KE.KDictSum
import PyProof.WalksMore
import PyProof.Rows.SetFrom
import PyProof.SetRoads
import PyProof.FactsAll.set_1
import KE.KItemsList
import KE.KSortTup
import KE.KLam
import PyProof.FactsAll.dict_1
import PyProof.StrBlockH
import PyProof.StrLawsTight
import PyProof.StrLawsOccR
import PyProof.StrLawsJoin
import PySem.Challenge.RW_flips_k26_whole_shaken_twice
set_option Elab.async false
set_option linter.all false
set_option maxRecDepth 100000
set_option maxHeartbeats 0
-- CHANGE: your row's module here,as the last of these rows
namespace L2
open PySem PySem.Spec PyProof.Rows
abbrev Key:=Sum Int Str
def BZ:Key->Value->Bool
 | .inl k,v=>Value.isInt k v
 | .inr x,v=>Value.isStrOf x v
def Nm (w:World):Key->Int
 | .inl k=>hashInt k
 | .inr x=>hashStr w x
theorem keyIs_shape:∀ {k:Key} {v:Value},BZ k v=true->(∃ i t,k=Sum.inl i/\v=Value.int i t)\/(∃ x t,k=Sum.inr x/\v=Value.str x t)
 | .inl i,v,h=>by
  obtain ⟨t,e⟩:=Value.isInt_shape (k:=i) (v:=v) h
  exact .inl ⟨i,t,rfl,e⟩
 | .inr x,v,h=>by
  obtain ⟨t,e⟩:=Value.isStrOf_shape (x:=x) (v:=v) h
  exact .inr ⟨x,t,rfl,e⟩
theorem LV (i:Int) (t:Tok):BZ (.inl i) (.int i t)=true:=by simp [BZ,Value.isInt]
theorem M6 (x:Str) (t:Tok):BZ (.inr x) (.str x t)=true:=by simp [BZ,Value.isStrOf]
theorem LB (a b:Int):decide ((Sum.inl a:Key)=Sum.inl b)=(a == b):=by
 by_cases e:a=b
 ·subst e;simp
 ·have h:¬ (Sum.inl a:Key)=Sum.inl b:=fun q=>e (Sum.inl.inj q)
  rw [decide_eq_false h]
  exact (beq_eq_false_iff_ne.mpr e).symm
theorem Nx (a b:Str):decide ((Sum.inr a:Key)=Sum.inr b)=decide (a=b):=by
 by_cases e:a=b
 ·subst e;simp
 ·have h:¬ (Sum.inr a:Key)=Sum.inr b:=fun q=>e (Sum.inr.inj q)
  rw [decide_eq_false h,decide_eq_false e]
theorem Le (a:Int) (b:Str):decide ((Sum.inl a:Key)=Sum.inr b)=false:=decide_eq_false (fun q=>nomatch q)
theorem Lb (a:Str) (b:Int):decide ((Sum.inr a:Key)=Sum.inl b)=false:=decide_eq_false (fun q=>nomatch q)
def Af (prog:Program) (w:World):PySem.KeyKind prog w Key where
 is:=BZ
 hash:=Nm w
 inj:=fun v a b ha hb=>by
  rcases keyIs_shape ha with ⟨i,t,rfl,rfl⟩ | ⟨x,t,rfl,rfl⟩
  ·rcases keyIs_shape hb with ⟨j,u,rfl,e⟩ | ⟨y,u,rfl,e⟩
   ·injection e with e1 _;rw [e1]
   ·exact nomatch e
  ·rcases keyIs_shape hb with ⟨j,u,rfl,e⟩ | ⟨y,u,rfl,e⟩
   ·exact nomatch e
   ·injection e with e1 _;rw [e1]
 byValue:=fun k v h=>by
  rcases keyIs_shape h with ⟨i,t,rfl,rfl⟩ | ⟨x,t,rfl,rfl⟩ <;> rfl
 pyHash:=fun hv h=>by
  rcases keyIs_shape hv with ⟨i,t,rfl,rfl⟩ | ⟨x,t,rfl,rfl⟩
  ·exact wpAny_pyHash_int h
  ·exact wpAny_pyHash_str h
 eqBool:=fun hu hv h=>by
  rcases keyIs_shape hu with ⟨i,t,rfl,rfl⟩ | ⟨x,t,rfl,rfl⟩
  ·rcases keyIs_shape hv with ⟨j,u,rfl,rfl⟩ | ⟨y,u,rfl,rfl⟩
   ·rw [LB] at h;exact wpAny_eqBool_int h
   ·rw [Le] at h;exact SeqAt.EqAt.int_str i t y u _ _ _ _ h
  ·rcases keyIs_shape hv with ⟨j,u,rfl,rfl⟩ | ⟨y,u,rfl,rfl⟩
   ·rw [Lb] at h;exact SeqAt.EqAt.str_int x t j u _ _ _ _ h
   ·rw [Nx] at h;exact wpAny_eqBool_str h
 «strs»:=fun k x t v h=>by
  rcases keyIs_shape h with ⟨i,u,rfl,e⟩ | ⟨y,u,rfl,e⟩
  ·exact nomatch e
  ·injection e with e1 _
   subst e1
   cases v <;> rfl
theorem L0 (prog:Program) (w:World) (i:Int) (t:Tok):(Af prog w).is (.inl i) (.int i t)=true:=LV i t
theorem Mz (prog:Program) (w:World) (x:Str) (t:Tok):(Af prog w).is (.inr x) (.str x t)=true:=M6 x t
inductive V where
 | non | bl (b:Bool) | int (i:Int) | str (x:Str) | byt (b:Array UInt8) | flt (b:UInt64) | ref (a:Addr) | ty (n:String)
 deriving DecidableEq
def RelV:V->Value->Prop
 | .non,u=>u=Value.none
 | .bl b,u=>u=Value.bool b
 | .int i,u=>∃ t,u=Value.int i t
 | .str x,u=>∃ t,u=Value.str x t
 | .byt b,u=>∃ t,u=Value.bytes b t
 | .flt b,u=>∃ t,u=Value.float b t
 | .ref a,u=>u=Value.ref a
 | .ty n,u=>u=Value.type n
abbrev Vals:List V->List Value->Prop:=Paired RelV
theorem Vals.length {xs:List V} {us:List Value} (r:Vals xs us):xs.length=us.length:=Paired.length r
theorem Vals.get:∀ {xs:List V} {us:List Value} {i:Nat} {x:V},Vals xs us->xs[i]? = some x->∃ u,us[i]? = some u/\RelV x u
 | _,_,_,_,.nil,e=>by simp at e
 | _,_,0,_,.cons r _,e=>by simp at e;subst e;exact ⟨_,rfl,r⟩
 | _,_,i+1,x,.cons _ t,e=>by
  obtain ⟨u,h1,h2⟩:=Vals.get (i:=i) (x:=x) t (by simpa using e)
  exact ⟨u,by simpa using h1,h2⟩
theorem Vals.set {x:V} {u:Value} (r:RelV x u):∀ {xs:List V} {us:List Value} (i:Nat),Vals xs us->Vals (xs.set i x) (us.set i u)
 | _,_,_,.nil=>.nil
 | _,_,0,.cons _ t=>.cons r t
 | _,_,i+1,.cons q t=>.cons q (Vals.set r i t)
theorem Vals.append:∀ {xs ys:List V} {us ws:List Value},Vals xs us->Vals ys ws->Vals (xs++ys) (us++ws)
 | _,_,_,_,.nil,s=>s
 | _,_,_,_,.cons r t,s=>.cons r (Vals.append t s)
def RelO:Option V->Option Value->Prop
 | some v,some u=>RelV v u
 | none,none=>True
 | _,_=>False
def KV {κ:Type}:List (κ × V)->List (κ × Value)->Prop:=Paired fun (p:κ × V) (q:κ × Value)=>p.1=q.1/\RelV p.2 q.2
def kV:Key->V
 | .inl i=>.int i
 | .inr x=>.str x
inductive HO where
 | lst (xs:List V)
 | tup (xs:List V)
 | dK (kvs:List (Key × V)) | dT (kvs:List (List Key × V))
 | set (S:Int->Bool) (n:Nat)
 | ins (C dx:Addr) (fs:List (Str × V))
 | own (x:Addr)
 | xd (fs:List (Str × V))
 | met (f x:Addr)
 | rng (lo hi:Int)
 | frz (o:Obj) (u:HO)
 | tbl (ps:Array Value)
 | ext (φ:Heap->Prop)
abbrev Hp:=Addr->Option HO
def upd (H:Hp) (a:Addr) (o:HO):Hp:=fun b=>if b=a then some o else H b
theorem AJ {H:Hp} {a:Addr} {o:HO}:upd H a o a=some o:=by unfold upd;rw [if_pos rfl]
theorem AI {H:Hp} {a b:Addr} {o:HO} (h:b≠a):upd H a o b=H b:=by unfold upd;rw [if_neg h]
theorem Ls {H:Hp} {a:Addr} {o u:HO}:upd (upd H a o) a u=upd H a u:=by
 funext b;unfold upd;split <;> rfl
theorem Kc {H:Hp} {a b:Addr} {o u:HO} (h:H a=some o) (h':H b=some u) (d:o≠u):a≠b:=by
 intro e;subst e;rw [h] at h';exact d (Option.some.inj h')
theorem Av {H:Hp} {a b:Addr} {o:HO} (h:H a=some o) (h':H b=none):a≠b:=by
 intro e;subst e;rw [h] at h';cases h'
def IsTupN (h:Heap) (a:Addr) (items:Array Value):Prop:=∃ o,h.get? a=some o/\o.cls=.type "tuple" /\ (∃ n,o.data=.seq items n)/\o.dict=none
theorem IsTupN.tup {h:Heap} {a:Addr} {items:Array Value} (x:IsTupN h a items):PyProof.Rows.IsTup h a items:=by
 obtain ⟨o,e,c,d,_⟩:=x
 exact ⟨o,e,c,d⟩
theorem IsTupN.new (h:Heap) (items:Array Value):IsTupN (h.push { cls:=.type "tuple",data:=.seq items }) h.objs.size items:=⟨_,Heap.get?_push_size _ rfl,rfl,⟨_,rfl⟩,rfl⟩
section
variable (P:Program) (w:World)
def ObjOk (H:Hp) (h:Heap) (a:Addr):HO->Prop
 | .lst xs=>xs.length<=sizeLine/\∃ (its:List Value) (n:Nat),Vals xs its/\h.get? a=some { cls:=.type "list",data:=.seq its.toArray n }
 | .tup xs=>xs.length<=sizeLine/\∃ its:List Value,Vals xs its/\IsTupN h a its.toArray
 | .dK kvs=>kvs.length<=sizeLine/\(a == sysModules)=false/\∃ vs,KV kvs vs/\h.DictOf (Af P w) a vs
 | .dT kvs=>kvs.length<=sizeLine/\(a == sysModules)=false/\∃ xs:List (List Key × Addr × Value),
  Paired (fun (p:List Key × V) (q:List Key × Addr × Value)=>p.1=q.1/\H q.2.1=some (.tup (p.1.map kV))/\RelV p.2 q.2.2) kvs xs /\
  ∃ o es ep,h.get? a=some o/\o.ExactDict/\o.data=.dict es ep/\es.toList=xs.map (entryOfKey (tupleKind (Af P w)))/\(xs.map (·.1)).Nodup
 | .set S n=>h.SetOf (intKind P w) a S n
 | .ins C dx fs=>H dx=some (.own a)/\fs.length<=1000/\dx≠a/\h.get? a=some (PySem.W.instObj C dx) /\
  ∃ mA,h.Ns1 dx mA/\(∀ f,RelO (fs.lookup f) (mA f))/\PySem.Within mA (fs.map (·.1))
 | .own _=>∃ o,h.get? a=some o
 | .xd fs=>∃ mA,h.Ns1 a mA/\∀ f,RelO (fs.lookup f) (mA f)
 | .rng lo hi=>∃ t u v,h.get? a=some { cls:=.type "range",data:=.fields #[.int lo t,.int hi u,.int 1 v] }
 | .frz o u=>h.get? a=some o/\ObjOk H h a u
 | .tbl ps=>h.get? a=some { cls:=.none,data:=.fields ps }
 | .met f x=>h.get? a=some (PySem.W.methodObj (.ref f) (.ref x))
 | .ext φ=>φ h/\(∃ o,h.get? a=some o)/\∀ h1 h2:Heap,φ h1->(∀ o,h1.get? a=some o->h2.get? a=some o)->φ h2
def HOk (H:Hp) (h:Heap):Prop:=∀ a o,H a=some o->ObjOk P w H h a o
end
section
variable {P:Program} {w:World} {H H':Hp} {h h':Heap} {a:Addr} {o:HO}
theorem ObjOk.lt (x:ObjOk P w H h a o):a < h.objs.size:=by
 cases o with
 | lst xs=>obtain ⟨_,_,_,_,e⟩:=x;exact Heap.lt_size e
 | tup xs=>obtain ⟨_,_,_,p⟩:=x;exact p.tup.lt
 | dK kvs=>obtain ⟨_,_,_,_,o,_,_,e,_⟩:=x;exact Heap.lt_size e
 | dT kvs=>obtain ⟨_,_,_,_,o,_,_,e,_⟩:=x;exact Heap.lt_size e
 | set S n=>obtain ⟨o,_,_,_,e,_⟩:=x;exact Heap.lt_size e
 | ins C dx fs=>obtain ⟨_,_,_,e,_⟩:=x;exact Heap.lt_size e
 | own y=>obtain ⟨_,e⟩:=x;exact Heap.lt_size e
 | xd fs=>obtain ⟨_,⟨_,_,_,e,_⟩,_⟩:=x;exact Heap.lt_size e
 | rng lo hi=>obtain ⟨_,_,_,e⟩:=x;exact Heap.lt_size e
 | frz ob u=>obtain ⟨e,_⟩:=x;exact Heap.lt_size e
 | tbl ps=>exact Heap.lt_size (show h.get? a=some _ from x)
 | met f y=>exact Heap.lt_size (show h.get? a=some _ from x)
 | ext φ=>obtain ⟨_,⟨_,e⟩,_⟩:=x;exact Heap.lt_size e
theorem Paired.mapP {α β:Type} {F G:α->β->Prop}:∀ {l₁:List α} {l₂:List β},Paired F l₁ l₂->(∀ a b,F a b->G a b)->Paired G l₁ l₂
 | _,_,.nil,_=>.nil
 | _,_,.cons r t,f=>.cons (f _ _ r) (Paired.mapP t f)
theorem ObjOk.stay (x:ObjOk P w H h a o) (k:∀ b u,(b=a\/H b=some (.own a))->h.get? b=some u->h'.get? b=some u)
 (ho:∀ b,H b=some (.own a)->H' b=some (.own a)) (ht:∀ b xs,H b=some (.tup xs)->H' b=some (.tup xs)):ObjOk P w H' h' a o:=by
 induction o with
 | lst xs=>obtain ⟨z,its,n,r,e⟩:=x;exact ⟨z,its,n,r,k _ _ (.inl rfl) e⟩
 | tup xs=>obtain ⟨z,its,r,ob,e,c⟩:=x;exact ⟨z,its,r,ob,k _ _ (.inl rfl) e,c⟩
 | dK kvs=>obtain ⟨z,y,vs,r,ob,es,ep,e,c⟩:=x;exact ⟨z,y,vs,r,ob,es,ep,k _ _ (.inl rfl) e,c⟩
 | dT kvs =>
  obtain ⟨z,y,xs,r,ob,es,ep,e,c⟩:=x
  exact ⟨z,y,xs,Paired.mapP r fun p q z=>⟨z.1,ht _ _ z.2.1,z.2.2⟩,ob,es,ep,k _ _ (.inl rfl) e,c⟩
 | set S n=>obtain ⟨ob,es,ep,t,e,c⟩:=x;exact ⟨ob,es,ep,t,k _ _ (.inl rfl) e,c⟩
 | ins C dx fs =>
  obtain ⟨d,z,ne,e,mA,⟨od,es,ep,e2,c⟩,r⟩:=x
  exact ⟨ho _ d,z,ne,k _ _ (.inl rfl) e,mA,⟨od,es,ep,k _ _ (.inr d) e2,c⟩,r⟩
 | own y=>obtain ⟨ob,e⟩:=x;exact ⟨ob,k _ _ (.inl rfl) e⟩
 | xd fs=>obtain ⟨mA,⟨od,es,ep,e,c⟩,r⟩:=x;exact ⟨mA,⟨od,es,ep,k _ _ (.inl rfl) e,c⟩,r⟩
 | rng lo hi=>obtain ⟨t,u,v,e⟩:=x;exact ⟨t,u,v,k _ _ (.inl rfl) e⟩
 | frz ob u ih=>obtain ⟨e,q⟩:=x;exact ⟨k _ _ (.inl rfl) e,ih q⟩
 | tbl ps =>
  have e:h.get? a=some { cls:=.none,data:=.fields ps }:=x
  show h'.get? a=some { cls:=.none,data:=.fields ps }
  exact k a _ (.inl rfl) e
 | met f y =>
  have e:h.get? a=some (PySem.W.methodObj (.ref f) (.ref y)):=x
  show h'.get? a=some (PySem.W.methodObj (.ref f) (.ref y))
  exact k a _ (.inl rfl) e
 | ext φ=>obtain ⟨p,⟨o,e⟩,st⟩:=x;exact ⟨st _ _ p fun o q=>k _ _ (.inl rfl) q,⟨o,k _ _ (.inl rfl) e⟩,st⟩
theorem HOk.lt (x:HOk P w H h) (e:H a=some o):a < h.objs.size:=(x a o e).lt
theorem HOk.fresh (x:HOk P w H h) (e:h.objs.size<=a):H a=none:=by
 cases q:H a with
 | none=>rfl
 | some u=>exact absurd (Nat.lt_of_lt_of_le (x.lt q) e) (Nat.lt_irrefl _)
theorem HOk.kept (x:HOk P w H h) (k:∀ b u,h.get? b=some u->h'.get? b=some u):HOk P w H h':=fun a o e =>
 (x a o e).stay (fun b u _ q=>k b u q) (fun _ q=>q) fun _ _ q=>q
theorem HOk.laid (x:HOk P w H h) (k:∀ b u,h.get? b=some u->h'.get? b=some u) (hp:h.objs.size<=a) (new:ObjOk P w (upd H a o) h' a o):HOk P w (upd H a o) h':=fun b u e=>by
 have hn:=x.fresh hp
 by_cases hb:b=a
 ·subst hb;rw [AJ] at e;cases e;exact new
 ·rw [AI hb] at e
  exact (x b u e).stay (fun c v _ q=>k c v q) (fun c q=>by rw [AI (Av q hn)];exact q) fun c xs q=>by rw [AI (Av q hn)];exact q
end
def Rd (H:Hp) (a:Addr) (u:HO):Prop:=H a=some u\/∃ o,H a=some (.frz o u)
theorem Rd.of {H:Hp} {a:Addr} {u:HO} (h:H a=some u):Rd H a u:=.inl h
theorem Rd.ok {P:Program} {w:World} {H:Hp} {h:Heap} {a:Addr} {u:HO} (r:Rd H a u) (x:HOk P w H h):ObjOk P w H h a u:=by
 rcases r with r | ⟨o,r⟩
 ·exact x a u r
 ·obtain ⟨_,q⟩:=x a _ r
  exact q
def Mut:Option HO->Prop
 | some (.lst _)=>True
 | some (.dK _)=>True
 | some (.dT _)=>True
 | some (.set _ _)=>True
 | some (.ins _ _ _)=>True
 | some (.ext _)=>True
 | _=>False
section
variable {P:Program} {w:World} {H:Hp} {h h':Heap} {x e:Addr} {o':HO}
theorem HOk.write (ok:HOk P w H h) (mu:Mut (H x)) (he:e=x\/H e=some (.own x)) (k:∀ b u,b≠e->h.get? b=some u->h'.get? b=some u) (heo:∃ u,h'.get? e=some u)
 (new:ObjOk P w (upd H x o') h' x o'):HOk P w (upd H x o') h':=fun b u q=>by
 have nown:∀ c y,H c=some (.own y)->c≠x:=fun c y r z=>by subst z;rw [r] at mu;exact mu
 have ntup:∀ c xs,H c=some (.tup xs)->c≠x:=fun c xs r z=>by subst z;rw [r] at mu;exact mu
 by_cases hb:b=x
 ·subst hb;rw [AJ] at q;cases q;exact new
 ·rw [AI hb] at q
  by_cases hbe:b=e
  ·have q':H b=some (.own x):=by
    rcases he with z | z
    ·exact absurd (hbe.trans z) hb
    ·rw [hbe];exact z
   rw [q] at q';cases q'
   obtain ⟨v,hv⟩:=heo
   exact ⟨v,by rw [hbe];exact hv⟩
  ·refine (ok b u q).stay (fun c v hc r=>k c v ?_ r) (fun c r=>by rw [AI (nown c b r)];exact r) fun c xs r=>by rw [AI (ntup c xs r)];exact r
   rcases hc with rfl | hc
   ·exact hbe
   ·rintro rfl
    rcases he with z | z
    ·exact nown c b hc z
    ·rw [hc] at z;cases z;exact hb rfl
end
structure Un (fs ex:List Addr) (H H':Hp) (h h':Heap):Prop where
 keep:∀ b o,h.get? b=some o->H b=none->b∉fs->b∉ex->h'.get? b=some o
 slot:∀ b o,h.get? b=some o->H b=none->b∈fs->b∉ex->∃ sl,h'.get? b=some { o with slots:=sl }
 free:∀ b o,h.get? b=some o->H b=none->b∉ex->H' b=none
 there:∀ b o,h.get? b=some o->b∉ex->∃ o',h'.get? b=some o'
 tups:∀ b xs,H b=some (.tup xs)->H' b=some (.tup xs)
 frzs:∀ b o u,H b=some (.frz o u)->H' b=some (.frz o u)
 tbls:∀ b ps,H b=some (.tbl ps)->∃ more,H' b=some (.tbl (ps++more))
section
variable {fs fs' ex ex':List Addr} {H H1 H2:Hp} {h h1 h2 h':Heap} {a x e:Addr} {o:HO}
theorem Un.any (u:Un fs ex H H1 h h1) {b:Addr} {ob:Obj} (q:h.get? b=some ob) (n:H b=none) (hx:b∉ex):∃ sl,h1.get? b=some { ob with slots:=sl }:=by
 by_cases hb:b∈fs
 ·exact u.slot b ob q n hb hx
 ·exact ⟨ob.slots,u.keep b ob q n hb hx⟩
theorem Un.kept (k:∀ b u,h.get? b=some u->h'.get? b=some u):Un fs ex H H h h' :=
 ⟨fun b ob q _ _ _=>k b ob q,fun b ob q _ _ _=>⟨ob.slots,k b ob q⟩,fun _ _ _ n _=>n,fun b ob q _=>⟨ob,k b ob q⟩,fun _ _ q=>q,fun _ _ _ q=>q,fun _ ps q=>⟨#[],by rw [q];simp⟩⟩
theorem Un.refl:Un fs ex H H h h:=Un.kept fun _ _ q=>q
theorem Un.laid (k:∀ b u,h.get? b=some u->h'.get? b=some u) (hp:h.objs.size<=a) (hn:H a=none):Un fs ex H (upd H a o) h h' where
 keep:=fun b u q _ _ _=>k b u q
 slot:=fun b u q _ _ _=>⟨u.slots,k b u q⟩
 free:=fun b u q n _=>by rw [AI (Nat.ne_of_lt (Nat.lt_of_lt_of_le (Heap.lt_size q) hp))];exact n
 there:=fun b u q _=>⟨u,k b u q⟩
 tups:=fun b xs q=>by rw [AI (Av q hn)];exact q
 frzs:=fun b u xs q=>by rw [AI (Av q hn)];exact q
 tbls:=fun b ps q=>⟨#[],by rw [AI (Av q hn),q];simp⟩
theorem Un.write (mu:Mut (H x)) (he:e=x\/H e=some (.own x)) (k:∀ b u,b≠e->h.get? b=some u->h'.get? b=some u) (heo:∃ u,h'.get? e=some u):Un fs ex H (upd H x o) h h':=by
 have hx:∀ b,H b=none->b≠x:=fun b n z=>by subst z;rw [n] at mu;exact mu
 have hb:∀ b,H b=none->b≠e:=fun b n z=>by
  subst z
  rcases he with r | r
  ·exact hx b n r
  ·rw [n] at r;cases r
 have hm:∀ b u,H b=some u->¬ Mut (some u)->b≠x:=fun b u q nm z=>by subst z;rw [q] at mu;exact nm mu
 refine ⟨fun b u q n _ _=>k b u (hb b n) q,fun b u q n _ _=>⟨u.slots,k b u (hb b n) q⟩,fun b u q n _=>by rw [AI (hx b n)];exact n,fun b u q _=>?_,
  fun b xs q=>by rw [AI (hm b _ q fun z=>z)];exact q,fun b u xs q=>by rw [AI (hm b _ q fun z=>z)];exact q,fun b ps q=>⟨#[],by rw [AI (hm b _ q fun z=>z),q];simp⟩⟩
 by_cases hbe:b=e
 ·subst hbe;exact heo
 ·exact ⟨u,k b u hbe q⟩
end
def trk (h:Heap) (H:Hp):List Addr:=(List.range h.objs.size).filter fun a=>(H a).isSome
def Bc (h:Heap) (H:Hp):Heap:=PySem.W.hideAll h (trk h H)
theorem Ko (h:Heap) (H:Hp):(Bc h H).objs.size=h.objs.size:=PySem.W.hideAll_size _ _
theorem LU {h:Heap} {H:Hp} {b:Addr} {o:Obj} (e:h.get? b=some o) (n:H b=none):(Bc h H).get? b=some o :=
 PySem.W.hideAll_get _ e fun hm=>by
  have q:(H b).isSome=true:=(List.mem_filter.mp hm).2
  rw [n] at q;simp at q
theorem KJ {h:Heap} {H:Hp} {b:Addr} {o:Obj} (e:(Bc h H).get? b=some o):h.get? b=some o/\H b=none:=by
 have e':h.get? b=some o:=PySem.W.of_hideAll (trk h H) e
 refine ⟨e',?_⟩
 cases q:H b with
 | none=>rfl
 | some x =>
  have hm:b∈trk h H:=List.mem_filter.mpr ⟨List.mem_range.mpr (Heap.lt_size e'),by simp [q]⟩
  have z:(Bc h H).get? b=none:=PySem.W.hideAll_none (trk h H) hm
  rw [z] at e;cases e
def Ke (g h:Heap) (L:Addr):List (Addr × Obj):=(List.range h.objs.size).filterMap fun a=>if a=L\/(g.get? a).isSome=true then none else (h.get? a).map fun o=>(a,o)
def rest (g h:Heap) (L d:Addr):List (Addr × Obj):=(Ke g h L).filter fun p=>decide (p.1≠d)
structure Mod (K:W.Frag) (mg:Str->Option Value) (base:Heap):Prop where
 kin:K.In base
 glob:base.Ns mainGlobals mg
 blt:∃ mb,base.Ns builtinsNs mb/\∀ x:Str,x ≠ "__name__" -> mb x=bootBuiltins x
 nolimit:base.NoLimit
structure Cx where
 prog:Program
 w:World
 K:W.Frag
 mg:Str->Option Value
 base:Heap
 A:Around
 N:List Str
 s₀:Shared
 H₀:Hp
 env:Env
 outer:List Env
 stack:List Env
 ex:List Addr
 fn:Str->Bool
 calm:Bool
 pn:List (Addr × Obj)
 xe:Value->Shared->Prop
def frs (l:List Env):List Addr:=l.filterMap (·.frame)
abbrev Cx.fs (X:Cx):List Addr:=frs X.outer
def Vis (sc:Scope) (x:Str):Prop:=sc.names.lookup x=some .local\/sc.names.lookup x=some .cell\/sc.names.lookup x=some .free
def Loc (sc:Scope) (x:Str):Prop:=sc.names.lookup x=some .local\/sc.names.lookup x=some .cell
def MM (env:Env) (h:Heap) (m:Str->Option Value) (x:Str) (u:Value):Prop :=
 (env.kindOf x=some .local/\m x=some u)\/((env.kindOf x=some .cell\/env.kindOf x=some .free)/\∃ c,env.cells.lookup x=some c/\h.IsCell c (some u))
structure Cx.Ok (X:Cx):Prop where
 mod:Mod X.K X.mg X.base
 kind:X.env.scope.kind=.function
 glob:X.env.globals=mainGlobals
 blt:X.env.builtins=builtinsNs
 above:X.s₀.heap.objs.size<=X.env.locals
 inj:∀ x y c,X.env.cells.lookup x=some c->X.env.cells.lookup y=some c->x=y
 has:∀ x,(X.env.kindOf x=some .cell\/X.env.kindOf x=some .free)->∃ c,X.env.cells.lookup x=some c
 cab:∀ x c,X.fn x=true->X.env.cells.lookup x=some c->X.s₀.heap.objs.size<=c
 hd:X.calm=true->X.A.handled=none
 frames:X.A.frames=some X.stack
 stk:X.stack=X.outer\/(X.stack=X.env::X.outer/\X.env.frame=some X.env.locals)
 exf:∀ b∈X.ex,b≠X.env.locals/\∀ x c,X.env.cells.lookup x=some c->c≠b
 bs:∀ b o,X.base.get? b=some o->X.s₀.heap.get? b=some o/\X.H₀ b=none
 bsz:X.base.objs.size<=X.s₀.heap.objs.size
 noex:∀ b o,X.base.get? b=some o->b∉X.ex
 exfs:∀ b∈X.ex,b∉X.fs
 funs:X.s₀.heap.FunFrames X.base X.outer
 frf:∀ b∈X.fs,X.H₀ b=none
structure Inv (X:Cx) (pins:List (Addr × Obj)) (σ:List (Option V)) (H:Hp) (s:Shared):Prop where
 ok:X.Ok
 os:s.os=X.s₀.os
 bare:AllBare s.gens
 base:Un X.fs X.ex X.H₀ H X.s₀.heap s.heap
 loc:∃ m,s.heap.Ns X.env.locals m/\∀ (i:Nat) (x:Str) (v:V),X.N[i]? = some x->σ[i]? = some (some v)->Vis X.env.scope x->∃ u,RelV v u/\MM X.env s.heap m x u
 cell:∀ x c,X.env.cells.lookup x=some c->∃ v,s.heap.IsCell c v
 free:H X.env.locals=none
 freeC:∀ x c,X.env.cells.lookup x=some c->H c=none
 pin:∀ p∈X.pn++pins,s.heap.get? p.1=some p.2/\H p.1=none/\p.1≠X.env.locals/\p.1∉X.fs/\∀ v,p.2.data≠.cell v
 hok:HOk X.prog X.w H s.heap
 len:σ.length=X.N.length
section
variable {X:Cx} {pins:List (Addr × Obj)} {σ:List (Option V)} {H H':Hp} {s:Shared} {h':Heap}
theorem Cx.Ok.nofr (ok:X.Ok) {b:Addr} {o:Obj} (e:X.base.get? b=some o):b∉X.fs:=fun hb=>by
 have:=(ok.funs.mem hb).1
 rw [e] at this;cases this
theorem Inv.bs (I:Inv X pins σ H s):∀ b o,X.base.get? b=some o->s.heap.get? b=some o/\H b=none:=fun b o e =>
 ⟨I.base.keep b o (I.ok.bs b o e).1 (I.ok.bs b o e).2 (I.ok.nofr e) (I.ok.noex b o e),I.base.free b o (I.ok.bs b o e).1 (I.ok.bs b o e).2 (I.ok.noex b o e)⟩
theorem Inv.bk (I:Inv X pins σ H s):∀ b o,X.base.get? b=some o->s.heap.get? b=some o:=fun b o e=>(I.bs b o e).1
theorem Inv.mod (I:Inv X pins σ H s):Mod X.K X.mg X.base:=I.ok.mod
theorem Inv.kIn (I:Inv X pins σ H s):X.K.In s.heap:=I.ok.mod.kin.keeps I.bk
theorem Inv.lt (I:Inv X pins σ H s):X.env.locals < s.heap.objs.size:=let ⟨_,hn,_⟩:=I.loc;hn.lt
theorem Inv.sz (I:Inv X pins σ H s):X.s₀.heap.objs.size<=s.heap.objs.size:=Nat.le_trans I.ok.above (Nat.le_of_lt I.lt)
theorem Inv.nofs (I:Inv X pins σ H s) {a:Addr} (h:s.heap.objs.size<=a):a∉X.fs:=fun hb=>by
 obtain ⟨_,o,ho,_⟩:=I.ok.funs.mem hb
 exact absurd (Nat.lt_of_lt_of_le (Heap.lt_size ho) (Nat.le_trans I.sz h)) (Nat.lt_irrefl _)
theorem Inv.cne (I:Inv X pins σ H s):∀ x c,X.env.cells.lookup x=some c->c≠X.env.locals:=fun x c e z=>by
 obtain ⟨v,o,ho,hd⟩:=I.cell x c e
 obtain ⟨m,⟨o',es,ep,ho',hd',_⟩,_⟩:=I.loc
 rw [z,ho'] at ho;cases ho;rw [hd'] at hd;cases hd
theorem Inv.funs (I:Inv X pins σ H s):s.heap.FunFrames X.base X.outer:=by
 have all:∀ (l:List Env),(∀ b∈frs l,b∈X.fs)->X.s₀.heap.FunFrames X.base l->s.heap.FunFrames X.base l:=by
  intro l
  induction l with
  | nil=>intro _ _;trivial
  | cons env r ih =>
   intro hs hl
   obtain ⟨hk,⟨L,o,hf,hn,ho,hd⟩,hr⟩:=hl
   have hL:L∈X.fs:=hs L (by unfold frs;rw [List.filterMap_cons,hf];exact List.mem_cons_self)
   obtain ⟨sl,e⟩:=I.base.slot L o ho (I.ok.frf L hL) hL fun z=>I.ok.exfs L z hL
   exact ⟨hk,⟨L,_,hf,hn,e,hd⟩,ih (fun b hb=>hs b (by unfold frs;rw [List.filterMap_cons,hf];exact List.mem_cons_of_mem _ hb)) hr⟩
 exact all X.outer (fun _ hb=>hb) I.ok.funs
theorem Inv.stack (I:Inv X pins σ H s):s.heap.FunFrames X.base X.stack:=by
 rcases I.ok.stk with e | ⟨e,hf⟩
 ·rw [e];exact I.funs
 ·rw [e]
  obtain ⟨m,hn,_⟩:=I.loc
  refine .cons (by rw [I.ok.kind];decide) hf hn ?_ I.funs
  exact Heap.get?_none_of_le (Nat.le_trans I.ok.bsz I.ok.above)
theorem Inv.stkSub (I:Inv X pins σ H s):∀ b∈frs X.stack,b∈X.env.locals::X.fs:=fun b hb=>by
 rcases I.ok.stk with e | ⟨e,hf⟩
 ·rw [e] at hb;exact List.mem_cons_of_mem _ hb
 ·rw [e] at hb
  unfold frs at hb
  rw [List.filterMap_cons,hf] at hb
  exact hb
theorem Inv.stkFree (I:Inv X pins σ H s):∀ b∈frs X.stack,H b=none:=fun b hb=>by
 rcases List.mem_cons.mp (I.stkSub b hb) with e | hb
 ·rw [e];exact I.free
 ·obtain ⟨_,o,ho,_⟩:=I.ok.funs.mem hb
  exact I.base.free b o ho (I.ok.frf b hb) fun z=>I.ok.exfs b z hb
theorem Inv.step {g':Array GenState} {t':Nat} {d':Drawn} {ch:List Addr} (I:Inv X pins σ H s)
 (hch:∀ b∈ch,(b∈X.ex\/X.s₀.heap.objs.size<=b)/\b≠X.env.locals/\(∀ x c,X.env.cells.lookup x=some c->c≠b)/\∀ p∈X.pn++pins,p.1≠b)
 (keep:∀ b o,b≠X.env.locals->b∉X.fs->b∉ch->s.heap.get? b=some o->H b=none->h'.get? b=some o)
 (slot:∀ b o,b≠X.env.locals->b∈X.fs->b∉ch->s.heap.get? b=some o->H b=none->∃ sl,h'.get? b=some { o with slots:=sl }) (free:∀ b o,b∉ch->s.heap.get? b=some o->H b=none->H' b=none)
 (there:∀ b o,b∉ch->s.heap.get? b=some o->∃ o',h'.get? b=some o')
 (tups:∀ b xs,H b=some (.tup xs)->H' b=some (.tup xs)) (frzs:∀ b o u,H b=some (.frz o u)->H' b=some (.frz o u)) (tbls:∀ b ps,H b=some (.tbl ps)->∃ more,H' b=some (.tbl (ps++more)))
 (ns:∀ m,s.heap.Ns X.env.locals m->h'.Ns X.env.locals m) (hok:HOk X.prog X.w H' h') (hg:AllBare g') :
 Inv X pins σ H' { s with heap:=h',gens:=g',drawn:=d',toks:=t' }:=by
 have neL:∀ b o,X.s₀.heap.get? b=some o->b≠X.env.locals:=fun b o e=>Nat.ne_of_lt (Nat.lt_of_lt_of_le (Heap.lt_size e) I.ok.above)
 have neC:∀ b o,X.s₀.heap.get? b=some o->b∉X.ex->b∉ch:=fun b o e hx hb=>by
  rcases (hch b hb).1 with z | z
  ·exact hx z
  ·exact absurd (Nat.lt_of_lt_of_le (Heap.lt_size e) z) (Nat.lt_irrefl _)
 have cellK:∀ x c,X.env.cells.lookup x=some c->∀ v,s.heap.IsCell c v->h'.IsCell c v:=fun x c e v ⟨o,ho,hd⟩=>by
  have nch:c∉ch:=fun z=>(hch c z).2.2.1 x c e rfl
  by_cases hc:c∈X.fs
  ·obtain ⟨sl,q⟩:=slot c o (I.cne x c e) hc nch ho (I.freeC x c e)
   exact ⟨_,q,hd⟩
  ·exact ⟨o,keep c o (I.cne x c e) hc nch ho (I.freeC x c e),hd⟩
 refine ⟨I.ok,I.os,hg,⟨fun b o e n hb hx=>?_,fun b o e n hb hx=>?_,fun b o e n hx=>?_,fun b o e hx=>?_,fun b xs e=>tups b xs (I.base.tups b xs e),fun b o xs e=>frzs b o xs (I.base.frzs b o xs e),fun b ps e=>?_⟩,?_,fun x c e=>?_,?_,fun x c e=>?_,fun p hp=>?_,hok,I.len⟩
 ·exact keep b o (neL b o e) hb (neC b o e hx) (I.base.keep b o e n hb hx) (I.base.free b o e n hx)
 ·obtain ⟨sl,e1⟩:=I.base.slot b o e n hb hx
  obtain ⟨sl',e2⟩:=slot b _ (neL b o e) hb (neC b o e hx) e1 (I.base.free b o e n hx)
  exact ⟨sl',e2⟩
 ·obtain ⟨o',e1⟩:=I.base.there b o e hx
  exact free b o' (neC b o e hx) e1 (I.base.free b o e n hx)
 ·obtain ⟨o',e1⟩:=I.base.there b o e hx
  exact there b o' (neC b o e hx) e1
 ·obtain ⟨m1,e1⟩:=I.base.tbls b ps e
  obtain ⟨m2,e2⟩:=tbls b _ e1
  exact ⟨m1++m2,by rw [e2,Array.append_assoc]⟩
 ·obtain ⟨m,hn,hl⟩:=I.loc
  refine ⟨m,ns m hn,fun i x v e1 e2 e3=>?_⟩
  obtain ⟨u,r,l⟩:=hl i x v e1 e2 e3
  refine ⟨u,r,?_⟩
  rcases l with l | ⟨k,c,e,z⟩
  ·exact .inl l
  ·exact .inr ⟨k,c,e,cellK x c e _ z⟩
 ·obtain ⟨v,z⟩:=I.cell x c e
  exact ⟨v,cellK x c e v z⟩
 ·obtain ⟨m,⟨o,_,_,ho,_⟩,_⟩:=I.loc
  exact free _ o (fun z=>(hch _ z).2.1 rfl) ho I.free
 ·obtain ⟨v,o,ho,hd⟩:=I.cell x c e
  exact free c o (fun z=>(hch c z).2.2.1 x c e rfl) ho (I.freeC x c e)
 ·obtain ⟨e,n,ne,nf,d⟩:=I.pin p hp
  have nch:p.1∉ch:=fun z=>(hch p.1 z).2.2.2 p hp rfl
  exact ⟨keep p.1 p.2 ne nf nch e n,free p.1 p.2 nch e n,ne,nf,d⟩
theorem Inv.un {t':Nat} (I:Inv X pins σ H s) (u:Un X.fs [] H H' s.heap h') (hok:HOk X.prog X.w H' h'):Inv X pins σ H' { s with heap:=h',toks:=t' }:=by
 obtain ⟨m,⟨o,es,ep,ho,r⟩,_⟩:=id I.loc
 obtain ⟨sl,hL⟩:=u.any ho I.free (by simp)
 exact I.step (g':=s.gens) (d':=s.drawn) (ch:=[]) (fun _ z=>nomatch z) (fun b o _ hb _ e n=>u.keep b o e n hb (by simp)) (fun b o _ hb _ e n=>u.slot b o e n hb (by simp)) (fun b o _ e n=>u.free b o e n (by simp)) (fun b o _ e=>u.there b o e (by simp)) u.tups u.frzs u.tbls (fun m' hm=>by
  obtain ⟨o',es',ep',ho',r'⟩:=hm
  rw [ho] at ho';cases ho'
  exact ⟨_,es',ep',hL,r'⟩) hok I.bare
theorem Inv.call {g':Array GenState} {t':Nat} {d':Drawn} {ch:List Addr} (I:Inv X pins σ H s) (u:Un (frs X.stack) ch H H' s.heap h') (hok:HOk X.prog X.w H' h') (hg:AllBare g')
 (hch:∀ b∈ch,(b∈X.ex\/X.s₀.heap.objs.size<=b)/\b≠X.env.locals/\(∀ x c,X.env.cells.lookup x=some c->c≠b)/\∀ p∈X.pn++pins,p.1≠b) :
 Inv X pins σ H' { s with heap:=h',gens:=g',drawn:=d',toks:=t' }:=by
 obtain ⟨m,⟨o,es,ep,ho,r⟩,_⟩:=id I.loc
 obtain ⟨sl,hL⟩:=u.any ho I.free fun z=>(hch _ z).2.1 rfl
 exact I.step (ch:=ch) hch (fun b o hL hb hc e n=>u.keep b o e n (fun z=>(List.mem_cons.mp (I.stkSub b z)).elim hL hb) hc) (fun b o _ _ hc e n=>u.any e n hc) (fun b o hc e n=>u.free b o e n hc) (fun b o hc e=>u.there b o e hc) u.tups u.frzs u.tbls (fun m' hm=>by
  obtain ⟨o',es',ep',ho',r'⟩:=hm
  rw [ho] at ho';cases ho'
  exact ⟨_,es',ep',hL,r'⟩) hok hg
theorem Inv.turned {t':Nat} {it:Addr} (I:Inv X pins σ H s) (k:∀ b o,b≠it->s.heap.get? b=some o->h'.get? b=some o) (hn:H it=none) (hL:it≠X.env.locals)
 (h1:it∈X.ex\/X.s₀.heap.objs.size<=it) (h2:∀ x c,X.env.cells.lookup x=some c->c≠it) (h3:∀ p∈X.pn++pins,p.1≠it):Inv X pins σ H { s with heap:=h',toks:=t' }:=by
 have nit:∀ b u,H b=some u->b≠it:=fun b u e z=>by rw [z,hn] at e;cases e
 refine I.step (g':=s.gens) (d':=s.drawn) (ch:=[it]) (fun b hb=>?_) (fun b o _ _ hc e _=>k b o (fun z=>hc (by simp [z])) e) (fun b o _ _ hc e _=>⟨o.slots,k b o (fun z=>hc (by simp [z])) e⟩) (fun _ _ _ _ n=>n)
  (fun b o hc e=>⟨o,k b o (fun z=>hc (by simp [z])) e⟩) (fun _ _ e=>e) (fun _ _ _ e=>e) (fun b ps e=>⟨#[],by rw [e];simp⟩) (fun m hm=>?_) (fun b u e=>?_) I.bare
 ·have e:b=it:=by simpa using hb
  subst e
  exact ⟨h1,hL,h2,h3⟩
 ·obtain ⟨o,es,ep,ho,r⟩:=hm
  exact ⟨o,es,ep,k _ o (Ne.symm hL) ho,r⟩
 ·refine (I.hok b u e).stay (fun c v hc q=>k c v ?_ q) (fun _ q=>q) fun _ _ q=>q
  rcases hc with z | z
  ·rw [z];exact nit b u e
  ·exact nit c _ z
theorem Inv.tok (I:Inv X pins σ H s) (t:Nat):Inv X pins σ H { s with toks:=t }:=I.un (h':=s.heap) (t':=t) Un.refl I.hok
theorem Inv.kept {t':Nat} (I:Inv X pins σ H s) (k:∀ b u,s.heap.get? b=some u->h'.get? b=some u):Inv X pins σ H { s with heap:=h',toks:=t' }:=I.un (Un.kept k) (I.hok.kept k)
theorem Inv.laid {a:Addr} {o:HO} {t':Nat} (I:Inv X pins σ H s) (k:∀ b u,s.heap.get? b=some u->h'.get? b=some u) (hp:s.heap.objs.size<=a) (new:ObjOk X.prog X.w (upd H a o) h' a o) :
 Inv X pins σ (upd H a o) { s with heap:=h',toks:=t' }:=I.un (Un.laid k hp (I.hok.fresh hp)) (I.hok.laid k hp new)
theorem Inv.write {x e:Addr} {o:HO} {t':Nat} (I:Inv X pins σ H s) (mu:Mut (H x)) (he:e=x\/H e=some (.own x)) (k:∀ b u,b≠e->s.heap.get? b=some u->h'.get? b=some u) (heo:∃ u,h'.get? e=some u)
 (new:ObjOk X.prog X.w (upd H x o) h' x o):Inv X pins σ (upd H x o) { s with heap:=h',toks:=t' }:=I.un (Un.write mu he k heo) (I.hok.write mu he k heo new)
theorem Inv.weak {σ':List (Option V)} (I:Inv X pins σ H s) (hl:σ'.length=σ.length) (w:∀ (i:Nat) v,σ'[i]? = some (some v)->σ[i]? = some (some v)):Inv X pins σ' H s :=
 ⟨I.ok,I.os,I.bare,I.base,let ⟨m,hn,hl'⟩:=I.loc;⟨m,hn,fun i x v e1 e2 e3=>hl' i x v e1 (w i v e2) e3⟩,I.cell,I.free,I.freeC,I.pin,I.hok,hl.trans I.len⟩
theorem Inv.pins_of {pins':List (Addr × Obj)} (I:Inv X pins σ H s) (h:∀ p∈pins',s.heap.get? p.1=some p.2/\H p.1=none/\p.1≠X.env.locals/\p.1∉X.fs/\∀ v,p.2.data≠.cell v):Inv X pins' σ H s :=
 ⟨I.ok,I.os,I.bare,I.base,I.loc,I.cell,I.free,I.freeC,fun p hp=>(List.mem_append.mp hp).elim (fun z=>I.pin p (List.mem_append_left _ z)) (h p),I.hok,I.len⟩
theorem HD {N:List Str} (hN:N.Nodup) {i j:Nat} {x:Str} (a:N[i]? = some x) (b:N[j]? = some x):i=j:=by
 obtain ⟨h1,e1⟩:=List.getElem?_eq_some_iff.mp a
 obtain ⟨h2,e2⟩:=List.getElem?_eq_some_iff.mp b
 exact (List.getElem_inj hN).mp (e1.trans e2.symm)
theorem Gd {M:Model} {A:Around} {E:Value->Shared->Prop} {i:Nat} {x:Str} {v:V} {u:Value} {Q:Unit->Shared->Prop} (I:Inv X pins σ H s) (hN:X.N.Nodup) (hi:X.N[i]? = some x) (hx:Loc X.env.scope x) (r:RelV v u)
 (h:∀ s',Inv X pins (σ.set i (some v)) H s'->(∃ a,Heap.SameBut a s.heap s'.heap/\(a=X.env.locals\/X.env.cells.lookup x=some a))->Q () s') (hf:X.fn x=true\/X.env.scope.names.lookup x=some .local:=by first | exact .inl rfl | exact .inr rfl | assumption):wpAny M A (storeName X.env x u) Q E s:=by
 obtain ⟨m,hn,hl⟩:=id I.loc
 have hcls:(X.env.scope.kind == .class || (X.env.scope.kind == .module && X.env.locals != X.env.globals))=false:=by rw [I.ok.kind];rfl
 have hiσ:i < σ.length:=by rw [I.len];exact (List.getElem?_eq_some_iff.mp hi).1
 have cne:=I.cne
 have tracked:∀ {a:Addr} {h':Heap},(∃ o,s.heap.get? a=some o/\H a=none)->Heap.SameBut a s.heap h'->HOk X.prog X.w H h':=fun {a h'} ha hs b ob e=>by
  obtain ⟨_,_,hfree⟩:=ha
  refine (I.hok b ob e).stay (fun c w' hc q=>(hs.2 c ?_).trans q) (fun _ q=>q) fun _ _ q=>q
  rintro rfl
  rcases hc with rfl | hc
  ·rw [hfree] at e;cases e
  ·rw [hfree] at hc;cases hc
 rcases hx with hk | hk
 ·refine wpAny_storeName_local hk hn (fun h' hn' hs=>?_) hcls
  obtain ⟨oL,_,_,hoL,_⟩:=id hn
  refine h _ ⟨I.ok,I.os,I.bare,⟨fun b o e n hb hx=>?_,fun b o e n hb hx=>?_,I.base.free,fun b o e hx=>?_,I.base.tups,I.base.frzs,I.base.tbls⟩,⟨_,hn',fun j y v' e1 e2 e3=>?_⟩,fun y c e=>?_,I.free,I.freeC,fun p hp=>?_,tracked ⟨oL,hoL,I.free⟩ hs,by simpa using I.len⟩ ⟨_,hs,.inl rfl⟩
  ·exact (hs.2 b (Nat.ne_of_lt (Nat.lt_of_lt_of_le (Heap.lt_size e) I.ok.above))).trans (I.base.keep b o e n hb hx)
  ·obtain ⟨sl,e1⟩:=I.base.slot b o e n hb hx
   exact ⟨sl,(hs.2 b (Nat.ne_of_lt (Nat.lt_of_lt_of_le (Heap.lt_size e) I.ok.above))).trans e1⟩
  ·obtain ⟨o',e1⟩:=I.base.there b o e hx
   exact ⟨o',(hs.2 b (Nat.ne_of_lt (Nat.lt_of_lt_of_le (Heap.lt_size e) I.ok.above))).trans e1⟩
  ·by_cases hj:j=i
   ·subst hj
    rw [hi] at e1;cases e1
    rw [List.getElem?_set_self hiσ] at e2
    cases e2
    exact ⟨u,r,.inl ⟨hk,by simp⟩⟩
   ·rw [List.getElem?_set_ne (Ne.symm hj)] at e2
    obtain ⟨u',r',q⟩:=hl j y v' e1 e2 e3
    refine ⟨u',r',?_⟩
    rcases q with ⟨k,e⟩ | ⟨k,c,e,z⟩
    ·refine .inl ⟨k,?_⟩
     have:y≠x:=fun e=>hj (HD hN e1 (e ▸ hi))
     simp [this,e]
    ·exact .inr ⟨k,c,e,z.sameBut hs (cne y c e)⟩
  ·obtain ⟨w',z⟩:=I.cell y c e
   exact ⟨w',z.sameBut hs (cne y c e)⟩
  ·obtain ⟨e,n,ne,nf,d⟩:=I.pin p hp
   exact ⟨(hs.2 p.1 ne).trans e,n,ne,nf,d⟩
 ·have hfn:X.fn x=true:=by
   rcases hf with z | z
   ·exact z
   ·rw [z] at hk;cases hk
  obtain ⟨c,hc⟩:=I.ok.has x (.inl hk)
  obtain ⟨w',z⟩:=I.cell x c hc
  refine wpAny_storeName_cell I.ok.kind hk hc z (fun h' hc' hs=>?_)
  obtain ⟨oc,hoc,hocd⟩:=id z
  refine h { s with heap:=h' } ⟨I.ok,I.os,I.bare,⟨fun b o e n hb hx=>?_,fun b o e n hb hx=>?_,I.base.free,fun b o e hx=>?_,I.base.tups,I.base.frzs,I.base.tbls⟩,⟨m,hn.sameBut hs (Ne.symm (cne x c hc)),fun j y v' e1 e2 e3=>?_⟩,fun y c' e=>?_,I.free,I.freeC,fun p hp=>?_,tracked ⟨oc,hoc,I.freeC x c hc⟩ hs,by simpa using I.len⟩ ⟨c,hs,.inr hc⟩
  ·exact (hs.2 b (Nat.ne_of_lt (Nat.lt_of_lt_of_le (Heap.lt_size e) (I.ok.cab x c hfn hc)))).trans (I.base.keep b o e n hb hx)
  ·obtain ⟨sl,e1⟩:=I.base.slot b o e n hb hx
   exact ⟨sl,(hs.2 b (Nat.ne_of_lt (Nat.lt_of_lt_of_le (Heap.lt_size e) (I.ok.cab x c hfn hc)))).trans e1⟩
  ·obtain ⟨o',e1⟩:=I.base.there b o e hx
   exact ⟨o',(hs.2 b (Nat.ne_of_lt (Nat.lt_of_lt_of_le (Heap.lt_size e) (I.ok.cab x c hfn hc)))).trans e1⟩
  ·by_cases hj:j=i
   ·subst hj
    rw [hi] at e1;cases e1
    rw [List.getElem?_set_self hiσ] at e2
    cases e2
    exact ⟨u,r,.inr ⟨.inl hk,c,hc,hc'⟩⟩
   ·rw [List.getElem?_set_ne (Ne.symm hj)] at e2
    obtain ⟨u',r',q⟩:=hl j y v' e1 e2 e3
    refine ⟨u',r',?_⟩
    rcases q with q | ⟨k,c',e,z'⟩
    ·exact .inl q
    ·refine .inr ⟨k,c',e,z'.sameBut hs ?_⟩
     rintro rfl
     exact hj (HD hN e1 (I.ok.inj _ _ _ e hc ▸ hi))
  ·by_cases hcc:c'=c
   ·subst hcc;exact ⟨_,hc'⟩
   ·obtain ⟨w2,z2⟩:=I.cell y c' e
    exact ⟨w2,z2.sameBut hs hcc⟩
  ·obtain ⟨e,n,ne,nf,d⟩:=I.pin p hp
   refine ⟨(hs.2 p.1 ?_).trans e,n,ne,nf,d⟩
   intro q
   rw [q,hoc] at e
   have q':oc=p.2:=Option.some.inj e
   exact d w' (by rw [<- q'];exact hocd)
theorem IR {M:Model} {A:Around} {E:Value->Shared->Prop} {i:Nat} {x:Str} {v:V} {u:Value} {Q:Unit->Shared->Prop} (I:Inv X pins σ H s) (hN:X.N.Nodup) (hi:X.N[i]? = some x) (hx:Loc X.env.scope x) (r:RelV v u)
 (h:∀ s',Inv X pins (σ.set i (some v)) H s'->Q () s') (hf:X.fn x=true\/X.env.scope.names.lookup x=some .local:=by first | exact .inl rfl | exact .inr rfl | assumption):wpAny M A (storeName X.env x u) Q E s :=
 Gd I hN hi hx r (fun s' I' _=>h s' I') hf
theorem Inv.call' {s':Shared} {ch:List Addr} (I:Inv X pins σ H s) (ho:s'.os=s.os) (u:Un (frs X.stack) ch H H' s.heap s'.heap) (hok:HOk X.prog X.w H' s'.heap) (hg:AllBare s'.gens)
 (hch:∀ b∈ch,(b∈X.ex\/X.s₀.heap.objs.size<=b)/\b≠X.env.locals/\(∀ x c,X.env.cells.lookup x=some c->c≠b)/\∀ p∈X.pn++pins,p.1≠b):Inv X pins σ H' s':=by
 obtain ⟨h',g',d',t',o'⟩:=s'
 have e:o'=s.os:=ho
 subst e
 exact I.call (g':=g') (t':=t') (d':=d') u hok hg hch
end
abbrev XK:=Value->Option Addr->Hp->Prop
abbrev St:=List (Option V)
abbrev VK:=V->Hp->Prop
abbrev TE:=St->Hp->VK->Prop
abbrev TT:=St->Hp->(Bool->Hp->Prop)->Prop
abbrev TA:=St->Hp->(List V->Hp->Prop)->Prop
structure Ends where
 nx:St->Hp->Prop
 rt:VK
 bk:St->Hp->Prop:=fun _ _=>False
 ct:St->Hp->Prop:=fun _ _=>False
abbrev TS:=Ends->St->Hp->Prop
def EP (X:Cx) (pins:List (Addr × Obj)) (σ:St) (Q:VK) (u:Value) (s':Shared):Prop:=∃ v H',Inv X pins σ H' s'/\RelV v u/\Q v H'
def TP (X:Cx) (pins:List (Addr × Obj)) (σ:St) (Q:Bool->Hp->Prop) (b:Bool) (s':Shared):Prop:=∃ H',Inv X pins σ H' s'/\Q b H'
def AP (X:Cx) (pins:List (Addr × Obj)) (σ:St) (Q:List V->Hp->Prop) (us:List Value) (s':Shared):Prop:=∃ vs H',Inv X pins σ H' s'/\Vals vs us/\Q vs H'
def SP (X:Cx) (pins:List (Addr × Obj)) (D:Ends) (f:Flow) (s':Shared):Prop :=
 match f with
 | .next=>∃ σ' H',Inv X pins σ' H' s'/\D.nx σ' H'
 | .brk=>∃ σ' H',Inv X pins σ' H' s'/\D.bk σ' H'
 | .cont=>∃ σ' H',Inv X pins σ' H' s'/\D.ct σ' H'
 | .ret u=>∃ v σ' H',Inv X pins σ' H' s'/\RelV v u/\D.rt v H'
def PE (X:Cx) (e:Expr) (t:TE):Prop :=
 ∀ (pins:List (Addr × Obj)) (s:Shared) (σ:St) (H:Hp) (Q:VK),Inv X pins σ H s->t σ H Q->wpAny (model X.prog X.w) X.A (eval e X.env) (EP X pins σ Q) X.xe s
def PT (X:Cx) (e:Expr) (t:TT):Prop :=
 ∀ (pins:List (Addr × Obj)) (s:Shared) (σ:St) (H:Hp) (Q:Bool->Hp->Prop),Inv X pins σ H s->t σ H Q->wpAny (model X.prog X.w) X.A (isTrue e X.env (eval e X.env)) (TP X pins σ Q) X.xe s
def PW (X:Cx) (e:Expr) (t:TT):Prop :=
 ∀ (whole:Sem Value) (pins:List (Addr × Obj)) (s:Shared) (σ:St) (H:Hp) (Q:Bool->Hp->Prop),Inv X pins σ H s->t σ H Q->wpAny (model X.prog X.w) X.A (isTrue e X.env whole) (TP X pins σ Q) X.xe s
theorem PW.pt {X:Cx} {e:Expr} {t:TT} (h:PW X e t):PT X e t:=h _
def PA (X:Cx) (es:List Expr) (t:TA):Prop :=
 ∀ (pos:Pos) (pins:List (Addr × Obj)) (s:Shared) (σ:St) (H:Hp) (Q:List V->Hp->Prop),Inv X pins σ H s->t σ H Q->wpAny (model X.prog X.w) X.A (spliced (backTo pos (starEach es X.env))) (AP X pins σ Q) X.xe s
def PS (X:Cx) (st:Stmt) (t:TS):Prop :=
 ∀ (pins:List (Addr × Obj)) (s:Shared) (σ:St) (H:Hp) (D:Ends),Inv X pins σ H s->t D σ H->wpAny (model X.prog X.w) X.A (exec st X.env) (SP X pins D) X.xe s
def PSs (X:Cx) (st:List Stmt) (t:TS):Prop :=
 ∀ (pins:List (Addr × Obj)) (s:Shared) (σ:St) (H:Hp) (D:Ends),Inv X pins σ H s->t D σ H->wpAny (model X.prog X.w) X.A (execs st X.env) (SP X pins D) X.xe s
theorem thn {α:Type} {t:Sem α} {Q Q':α->Shared->Prop} {M:Model} {A:Around} {E:Value->Shared->Prop} {s:Shared} (h:wpAny M A t Q E s) (hQ:∀ a s,Q a s->Q' a s):wpAny M A t Q' E s:=wpAny_mono h hQ fun _ _ x=>x
section
variable {X:Cx}
theorem bin {a b:Expr} {ta tb:TE} (ha:PE X a ta) (hb:PE X b tb) {pins:List (Addr × Obj)} {s:Shared} {σ:St} {H:Hp} {R:V->V->Hp->Prop} (I:Inv X pins σ H s) (h:ta σ H fun x H1=>tb σ H1 fun y H2=>R x y H2)
 {α:Type} {Q:α->Shared->Prop} {f:Value->Value->Sem α}
 (hf:∀ v u s2 x y H2,Inv X pins σ H2 s2->RelV x v->RelV y u->R x y H2->wpAny (model X.prog X.w) X.A (f v u) Q X.xe s2) :
 wpAny (model X.prog X.w) X.A (eval a X.env) (fun v s₁=>wpAny (model X.prog X.w) X.A (eval b X.env) (fun u s₂=>wpAny (model X.prog X.w) X.A (f v u) Q X.xe s₂) X.xe s₁) X.xe s:=by
 refine thn (ha pins s σ H _ I h) fun v s1 ⟨x,H1,I1,r1,q1⟩=>?_
 refine thn (hb pins s1 σ H1 _ I1 q1) fun u s2 ⟨y,H2,I2,r2,q2⟩=>?_
 exact hf v u s2 x y H2 I2 r1 r2 q2
def L6 (i:Nat):TE:=fun σ H Q=>∃ v,σ[i]? = some (some v)/\Q v H
def tC (v:V):TE:=fun _ H Q=>Q v H
theorem LP {i:Nat} {x:Str} {pos:Pos} (hN:X.N[i]? = some x) (hv:Vis X.env.scope x) (hd:(x == ("__debug__" : Str))=false:=by decide) (hcd:(x == ("__classdict__" : Str))=false:=by decide):PE X (.Name x pos) (L6 i):=by
 intro pins s σ H Q I h
 obtain ⟨v,e,h⟩:=h
 obtain ⟨m,hn,hl⟩:=I.loc
 obtain ⟨u,r,l⟩:=hl i x v hN e hv
 have fin:EP X pins σ Q u s:=⟨v,H,I,r,h⟩
 rcases l with ⟨hk,hm⟩ | ⟨hk,c,hc,hcell⟩
 ·exact wpAny_Name (wpAny_loadName_local I.ok.kind hk hn hm fin) hd
 ·rcases hk with hk | hk
  ·exact wpAny_Name (wpAny_loadName_cell I.ok.kind hk hc hcell fin) hd
  ·exact wpAny_Name (wpAny_loadName_free I.ok.kind hk hc hcell fin hcd) hd
theorem AB {i j pos}:PE X (.Constant (.int i) j pos) (tC (.int i)):=fun _ _ _ H _ I h=>wpAny_Constant_int ⟨.int i,H,I.tok _,⟨_,rfl⟩,h⟩
theorem D5 {b j pos}:PE X (.Constant (.bool b) j pos) (tC (.bl b)):=fun _ _ _ H _ I h=>Constant_bool ⟨.bl b,H,I,rfl,h⟩
def Gl (X:Cx) (x:Str):Prop:=X.env.kindOf x=some .globalImplicit
theorem Lw {E:Value->Shared->Prop} {pins:List (Addr × Obj)} {s:Shared} {σ:St} {H:Hp} {x:Str} {u:Value} {pos:Pos} {Q:Value->Shared->Prop} (I:Inv X pins σ H s) (hg:Gl X x) (hm:X.mg x=some u) (h:Q u s)
 (hd:(x == ("__debug__" : Str))=false:=by decide):wpAny (model X.prog X.w) X.A (eval (.Name x pos) X.env) Q E s :=
 Calls.Name_function_global I.ok.kind hg (Calls.loadGlobal_global (by rw [I.ok.glob];exact I.mod.glob.keeps I.bk) hm h) hd
theorem Dd {E:Value->Shared->Prop} {pins:List (Addr × Obj)} {s:Shared} {σ:St} {H:Hp} {x:Str} {u:Value} {pos:Pos} {Q:Value->Shared->Prop} (I:Inv X pins σ H s) (hg:Gl X x) (hm:X.mg x=none) (hv:bootBuiltins x=some u) (h:Q u s)
 (hn:x ≠ "__name__":=by decide) (hd:(x == ("__debug__" : Str))=false:=by decide):wpAny (model X.prog X.w) X.A (eval (.Name x pos) X.env) Q E s:=by
 obtain ⟨mb,h1,h2⟩:=I.mod.blt
 exact Calls.Name_function_global I.ok.kind hg (Calls.loadGlobal_builtin (by rw [I.ok.glob];exact I.mod.glob.keeps I.bk) hm (by rw [I.ok.blt];exact h1.keeps I.bk) ((h2 x hn).trans hv) h) hd
variable {a b:Expr} {ta tb:TE} {pos:Pos}
theorem Ej (b:Expr) {op:CmpOp} (h:op≠.In) (h2:op≠.NotIn):behindInMarks op b=false:=by
 have e1:(op == CmpOp.In)=false:=by cases op <;> first | rfl | exact absurd rfl h
 have e2:(op == CmpOp.NotIn)=false:=by cases op <;> first | rfl | exact absurd rfl h2
 cases b <;> simp [behindInMarks,e1,e2]
variable {tA tB':TT} {rest:List Expr}
def Gs (t u:TT):TT:=fun σ H Q=>t σ H fun c H1=>if c=true then u σ H1 Q else Q false H1
def tOr (t u:TT):TT:=fun σ H Q=>t σ H fun c H1=>if c=true then Q true H1 else u σ H1 Q
theorem LK (ha:PT X a tA):PW X (.BoolOp .And [a] pos) tA:=by
 intro wh pins s σ H Q I h
 refine isTrue_and (thn (ha pins s σ H Q I h) fun c s1 e=>?_)
 cases c with
 | true=>exact isTrue_and_nil e
 | false=>exact e
theorem LD (ha:PT X a tA):PW X (.BoolOp .Or [a] pos) tA:=by
 intro wh pins s σ H Q I h
 refine isTrue_or (thn (ha pins s σ H Q I h) fun c s1 e=>?_)
 cases c with
 | false=>exact isTrue_or_nil e
 | true=>exact e
theorem NY (ha:PT X a tA) (hb:PW X (.BoolOp .And (b::rest) pos) tB'):PW X (.BoolOp .And (a::b::rest) pos) (Gs tA tB'):=by
 intro wh pins s σ H Q I h
 refine isTrue_and (thn (ha pins s σ H _ I h) fun c s1 ⟨H1,I1,q1⟩=>?_)
 cases c with
 | true=>exact hb wh pins s1 σ H1 Q I1 q1
 | false=>exact ⟨H1,I1,q1⟩
theorem Nl (ha:PT X a tA) (hb:PW X (.BoolOp .Or (b::rest) pos) tB'):PW X (.BoolOp .Or (a::b::rest) pos) (tOr tA tB'):=by
 intro wh pins s σ H Q I h
 refine isTrue_or (thn (ha pins s σ H _ I h) fun c s1 ⟨H1,I1,q1⟩=>?_)
 cases c with
 | true=>exact ⟨H1,I1,q1⟩
 | false=>exact hb wh pins s1 σ H1 Q I1 q1
def N0 (ta:TE):TE:=fun σ H Q=>ta σ H fun x H1=>∃ c,x=.bl c/\Q (.bl (!c)) H1
theorem Lv (ha:PE X a ta):PE X (.UnaryOp .Not a pos) (N0 ta):=by
 intro pins s σ H Q I h
 refine UnaryOp_ (thn (ha pins s σ H _ I h) fun v s1 ⟨x,H1,I1,r1,q1⟩=>?_)
 obtain ⟨c,rfl,q1⟩:=q1
 cases r1
 exact not_of (wpAny_truthy_bool ⟨.bl (!c),H1,I1,rfl,q1⟩)
end
def SqL (K:W.Frag) (H:Hp) (a:Addr) (xs:List V):Prop :=
 Rd H a (.lst xs) \/
  ∃ (o:Obj) (its:Array Value) (n:Nat),K.lookup a=some o/\o.cls=.type "list" /\ o.dict=none/\o.data=.seq its n/\its.size<=sizeLine/\Vals xs its.toList
def SqT (K:W.Frag) (H:Hp) (a:Addr) (xs:List V):Prop :=
 Rd H a (.tup xs) \/
  ∃ (o:Obj) (its:Array Value) (n:Nat),K.lookup a=some o/\o.cls=.type "tuple" /\ o.dict=none/\o.data=.seq its n/\its.size<=sizeLine/\Vals xs its.toList
def Nq:Value->Option V
 | .none=>some .non
 | .bool b=>some (.bl b)
 | .int i _=>some (.int i)
 | .str x _=>some (.str x)
 | .bytes b _=>some (.byt b)
 | .float b _=>some (.flt b)
 | .ref a=>some (.ref a)
 | .type n=>some (.ty n)
 | _=>none
theorem RelV.abs {x:V} {u:Value} (r:RelV x u):Nq u=some x:=by
 cases x with
 | non=>cases r;rfl
 | bl _=>cases r;rfl
 | int _=>obtain ⟨t,rfl⟩:=r;rfl
 | str _=>obtain ⟨t,rfl⟩:=r;rfl
 | byt _=>obtain ⟨t,rfl⟩:=r;rfl
 | flt _=>obtain ⟨t,rfl⟩:=r;rfl
 | ref _=>cases r;rfl
 | ty _=>cases r;rfl
theorem RelV.inj {x y:V} {u:Value} (r:RelV x u) (q:RelV y u):x=y:=Option.some.inj (r.abs.symm.trans q.abs)
theorem Vals.inj:∀ {xs ys:List V} {us:List Value},Vals xs us->Vals ys us->xs=ys
 | _,_,_,.nil,.nil=>rfl
 | _,_,_,.cons r t,.cons r' t'=>by rw [r.inj r',Vals.inj t t']
section
variable {X:Cx} {pins:List (Addr × Obj)} {σ:St} {H:Hp} {s:Shared} {a:Addr} {xs ys:List V}
theorem SqL.of {K:W.Frag} (h:H a=some (.lst xs)):SqL K H a xs:=.inl (.inl h)
theorem SqT.of {K:W.Frag} (h:H a=some (.tup xs)):SqT K H a xs:=.inl (.inl h)
theorem Inv.list (I:Inv X pins σ H s) (h:SqL X.K H a xs):∃ its:List Value,Vals xs its/\PlainL s.heap a its.toArray/\xs.length<=sizeLine:=by
 rcases h with h | ⟨o,its,n,hk,hc,hd,hs,hz,r⟩
 ·obtain ⟨z,its,n,r,e⟩:=h.ok I.hok
  exact ⟨its,r,⟨_,n,e,rfl,rfl,rfl⟩,z⟩
 ·refine ⟨its.toList,r,⟨o,n,I.kIn a o hk,hc,hd,by simpa using hs⟩,?_⟩
  have e:=r.length
  simp only [Array.length_toList] at e
  lia
theorem Inv.tuple (I:Inv X pins σ H s) (h:SqT X.K H a xs):∃ its:List Value,Vals xs its/\IsTup s.heap a its.toArray/\xs.length<=sizeLine:=by
 rcases h with h | ⟨o,its,n,hk,hc,hdd,hs,hz,r⟩
 ·obtain ⟨z,its,r,p⟩:=h.ok I.hok
  exact ⟨its,r,p.tup,z⟩
 ·refine ⟨its.toList,r,⟨o,I.kIn a o hk,hc,n,by simpa using hs⟩,?_⟩
  have e:=r.length
  simp only [Array.length_toList] at e
  lia
theorem Inv.list_inj (I:Inv X pins σ H s) (h:SqL X.K H a xs) (h':SqL X.K H a ys):xs=ys:=by
 obtain ⟨its,r,⟨o,n,e,_,_,d⟩,_⟩:=I.list h
 obtain ⟨its',r',⟨o',n',e',_,_,d'⟩,_⟩:=I.list h'
 rw [e] at e';cases e'
 rw [d] at d'
 injection d' with d1 _
 have:its=its':=by simpa using congrArg Array.toList d1
 subst this
 exact r.inj r'
theorem Inv.tuple_inj (I:Inv X pins σ H s) (h:SqT X.K H a xs) (h':SqT X.K H a ys):xs=ys:=by
 obtain ⟨its,r,⟨o,e,_,n,d⟩,_⟩:=I.tuple h
 obtain ⟨its',r',⟨o',e',_,n',d'⟩,_⟩:=I.tuple h'
 rw [e] at e';cases e'
 rw [d] at d'
 injection d' with d1 _
 have:its=its':=by simpa using congrArg Array.toList d1
 subst this
 exact r.inj r'
end
abbrev Cx.wish (X:Cx) (E:Value->Shared->Prop):Cx:={ X with xe:=E }
abbrev Cx.nox (X:Cx):Cx:=X.wish fun _ _=>False
theorem Cx.Ok.wish {X:Cx} (ok:X.Ok) (E:Value->Shared->Prop):(X.wish E).Ok :=
 ⟨ok.mod,ok.kind,ok.glob,ok.blt,ok.above,ok.inj,ok.has,ok.cab,ok.hd,ok.frames,ok.stk,ok.exf,ok.bs,ok.bsz,ok.noex,ok.exfs,ok.funs,ok.frf⟩
theorem Cx.Ok.unwish {X:Cx} {E:Value->Shared->Prop} (ok:(X.wish E).Ok):X.Ok :=
 ⟨ok.mod,ok.kind,ok.glob,ok.blt,ok.above,ok.inj,ok.has,ok.cab,ok.hd,ok.frames,ok.stk,ok.exf,ok.bs,ok.bsz,ok.noex,ok.exfs,ok.funs,ok.frf⟩
section
variable {X:Cx} {pins:List (Addr × Obj)} {σ:St} {H:Hp} {s:Shared} {E:Value->Shared->Prop}
theorem Inv.wish (I:Inv X pins σ H s) (E:Value->Shared->Prop):Inv (X.wish E) pins σ H s:=⟨I.ok.wish E,I.os,I.bare,I.base,I.loc,I.cell,I.free,I.freeC,I.pin,I.hok,I.len⟩
theorem Inv.unwish (I:Inv (X.wish E) pins σ H s):Inv X pins σ H s:=⟨I.ok.unwish,I.os,I.bare,I.base,I.loc,I.cell,I.free,I.freeC,I.pin,I.hok,I.len⟩
theorem SP.unwish {D:Ends} {f:Flow} {s':Shared} (h:SP (X.wish E) pins D f s'):SP X pins D f s':=by
 cases f with
 | next=>obtain ⟨σ',H',I,q⟩:=h;exact ⟨σ',H',I.unwish,q⟩
 | brk=>obtain ⟨σ',H',I,q⟩:=h;exact ⟨σ',H',I.unwish,q⟩
 | cont=>obtain ⟨σ',H',I,q⟩:=h;exact ⟨σ',H',I.unwish,q⟩
 | ret u=>obtain ⟨v,σ',H',I,r,q⟩:=h;exact ⟨v,σ',H',I.unwish,r,q⟩
theorem PSs.nox {st:List Stmt} {t:TS} (h:PSs X.nox st t):PSs X st t:=fun pins s σ H D I hw =>
 wpAny_mono (h pins s σ H D (I.wish _) hw) (fun _ _ q=>q.unwish) fun _ _ z=>False.elim z
end
section
variable {X:Cx} {st:Stmt} {rest:List Stmt} {t u:TS} {e:Expr} {te:TE} {pos:Pos}
def Do:TS:=fun D σ H=>D.nx σ H
def FN (t u:TS):TS:=fun D σ H=>t { D with nx:=u D } σ H
theorem BH:PSs X [] Do:=fun _ _ σ H _ I h=>wpAny_execs_nil ⟨σ,H,I,h⟩
theorem AE (h1:PS X st t) (h2:PSs X rest u):PSs X (st::rest) (FN t u):=by
 intro pins s σ H D I h
 refine wpAny_execs_cons (thn (h1 pins s σ H { D with nx:=u D } I h) fun f s1 q=>?_)
 cases f with
 | next =>
  obtain ⟨σ',H',I',q⟩:=q
  exact h2 pins s1 σ' H' D I' q
 | ret v=>exact q
 | brk=>exact q
 | cont=>exact q
theorem AL (h1:PS X st t):PSs X [st] t:=by
 intro pins s σ H D I h
 refine wpAny_execs_cons (thn (h1 pins s σ H D I h) fun f s1 q=>?_)
 cases f with
 | next=>exact wpAny_execs_nil q
 | ret v=>exact q
 | brk=>exact q
 | cont=>exact q
def Gc (te:TE):TS:=fun D σ H=>te σ H D.rt
theorem AX (he:PE X e te):PS X (.Return (some e) pos) (Gc te):=by
 intro pins s σ H D I h
 exact wpAny_Return_some (thn (he pins s σ H _ I h) fun v s1 ⟨x,H1,I1,r1,q1⟩=>⟨x,σ,H1,I1,r1,q1⟩)
def HH (c:TT) (t u:TS):TS:=fun D σ H=>c σ H fun b H1=>if b=true then t D σ H1 else u D σ H1
theorem BI {c:Expr} {a b:List Stmt} {tc:TT} (hc:PT X c tc) (ha:PSs X a t) (hb:PSs X b u):PS X (.If c a b pos) (HH tc t u):=by
 intro pins s σ H D I h
 refine wpAny_If (thn (hc pins s σ H _ I h) fun d s1 ⟨H1,I1,q1⟩=>?_)
 cases d with
 | true=>exact ha pins s1 σ H1 D I1 q1
 | false=>exact hb pins s1 σ H1 D I1 q1
end
abbrev TG:=V->St->Hp->(St->Hp->Prop)->Prop
abbrev TGs:=List V->St->Hp->(St->Hp->Prop)->Prop
def PG (X:Cx) (target:Expr) (t:TG):Prop :=
 ∀ (pins:List (Addr × Obj)) (s:Shared) (σ:St) (H:Hp) (v:V) (u:Value) (Q:St->Hp->Prop),Inv X pins σ H s->RelV v u->t v σ H Q ->
  wpAny (model X.prog X.w) X.A (assign target X.env u) (fun _ s'=>∃ σ' H',Inv X pins σ' H' s'/\Q σ' H') X.xe s
def PGs (X:Cx) (ts:List Expr) (t:TGs):Prop :=
 ∀ (pins:List (Addr × Obj)) (s:Shared) (σ:St) (H:Hp) (vs:List V) (us:List Value) (Q:St->Hp->Prop),Inv X pins σ H s->Vals vs us->t vs σ H Q ->
  wpAny (model X.prog X.w) X.A (assignInOrder ((assignEach ts X.env).map (·.2)) us) (fun _ s'=>∃ σ' H',Inv X pins σ' H' s'/\Q σ' H') X.xe s
abbrev C6:=V->V->V->Hp->(Hp->Prop)->Prop
def FR (X:Cx) (t:C6):Prop :=
 ∀ (pins:List (Addr × Obj)) (s:Shared) (σ:St) (H:Hp) (o i v:V) (ov iv u:Value) (Q:Hp->Prop),Inv X pins σ H s->RelV o ov->RelV i iv->RelV v u->t o i v H Q ->
  wpAny (model X.prog X.w) X.A (setItem ov iv u) (fun _ s'=>∃ H',Inv X pins σ H' s'/\Q H') X.xe s
section
variable {X:Cx} {pos:Pos}
def AV (i:Nat):TG:=fun v σ H Q=>Q (σ.set i (some v)) H
theorem AT {i:Nat} {x:Str} (hN:X.N.Nodup) (hi:X.N[i]? = some x) (hx:Loc X.env.scope x) (hf:X.fn x=true\/X.env.scope.names.lookup x=some .local:=by first | exact .inl rfl | exact .inr rfl | assumption):PG X (.Name x pos) (AV i):=by
 intro pins s σ H v u Q I r h
 exact wpAny_assign_Name (IR I hN hi hx r (fun s' I'=>⟨_,H,I',h⟩) hf)
def E4:TGs:=fun vs σ H Q=>vs=[]/\Q σ H
def GB (t:TG) (u:TGs):TGs:=fun vs σ H Q=>∃ v r,vs=v::r/\t v σ H fun σ' H'=>u r σ' H' Q
theorem By:PGs X [] E4:=by
 intro pins s σ H vs us Q I r h
 obtain ⟨e,h⟩:=h
 subst e
 cases r
 exact assignInOrder_nil ⟨σ,H,I,h⟩
theorem A6 {e:Expr} {es:List Expr} {t:TG} {u:TGs} (h1:PG X e t) (h2:PGs X es u)
 (hs:(assignEach (e::es) X.env).map (·.2)=assign e X.env::(assignEach es X.env).map (·.2):=by rfl):PGs X (e::es) (GB t u):=by
 intro pins s σ H vs us Q I r h
 obtain ⟨v,vr,e1,h⟩:=h
 subst e1
 cases r with
 | cons r rr =>
  rw [hs]
  refine assignInOrder_cons (thn (h1 pins s σ H _ _ _ I r h) fun _ s1 ⟨σ1,H1,I1,q1⟩=>?_)
  exact h2 pins s1 σ1 H1 _ _ Q I1 rr q1
def FO (K:W.Frag) (n:Nat) (t:TGs):TG:=fun v σ H Q=>∃ a xs,v=.ref a/\SqT K H a xs/\xs.length=n/\t xs σ H Q
theorem Ir {es:List Expr} {k:Nat} {t:TGs} {n:Nat} (hc:X.calm=true) (h:PGs X es t)
 (hn:(assignEach es X.env).length=n:=by rfl) (hst:(assignEach es X.env).findIdx? (·.1)=none:=by rfl):PG X (.Tuple es k pos) (FO X.K n t):=by
 intro pins s σ H v u Q I r hw
 obtain ⟨a,xs,e1,hq,hl,hw⟩:=hw
 subst e1
 cases r
 obtain ⟨its,rv,ht,hz⟩:=I.tuple hq
 refine assign_Tuple_tuple (I.ok.hd hc) ht (by simp [hn,<- hl,rv.length]) hst fun h' hx=>?_
 have I1:Inv X pins σ H { s with heap:=h' }:=I.kept (t':=s.toks) fun b o e=>hx b o (Nat.ne_of_lt (Heap.lt_size e)) e
 exact h pins _ σ H xs _ Q I1 (by simpa using rv) hw
def GO (to ti:TE) (t:C6):TG:=fun v σ H Q=>to σ H fun o H1=>ti σ H1 fun i H2=>t o i v H2 fun H3=>Q σ H3
theorem Cz {o i:Expr} {to ti:TE} {t:C6} (ho:PE X o to) (hi:PE X i ti) (hs:FR X t)
 (ha:∀ v,assign (.Subscript o i pos) X.env v=(do
   let ov <- holding [v] (eval o X.env)
   let iv <- holding [v,ov] (eval i X.env)
   standAt pos
   holding [v,ov,iv] (setItem ov iv v)
   release [v,ov,iv] []):=by intro _;rfl):PG X (.Subscript o i pos) (GO to ti t):=by
 intro pins s σ H v u Q I r h
 rw [ha]
 refine wpAny_bind (wpAny_holding (thn (ho pins s σ H _ I h) fun ov s1 ⟨x,H1,I1,r1,q1⟩=>?_))
 refine wpAny_bind (wpAny_holding (thn (hi pins s1 σ H1 _ I1 q1) fun iv s2 ⟨y,H2,I2,r2,q2⟩=>?_))
 refine wpAny_bind (wpAny_standAt (wpAny_bind (wpAny_holding (thn (hs pins s2 σ H2 x y v ov iv u _ I2 r1 r2 r q2) fun _ s3 ⟨H3,I3,q3⟩=>?_))))
 exact wpAny_release ⟨σ,H3,I3,q3⟩
def DH (te:TE) (g:TG):TS:=fun D σ H=>te σ H fun x H1=>g x σ H1 D.nx
theorem B3 {tg e:Expr} {te:TE} {g:TG} (he:PE X e te) (hg:PG X tg g) (hs:swapsWithSole [tg] e pos.line X.env=pure false:=by rfl) (hw:swappedStores [tg] e X.env=pure none:=by rfl)
 (h1:(assignEach [tg] X.env).map (·.2)=[assign tg X.env]:=by rfl):PS X (.Assign [tg] e pos) (DH te g):=by
 intro pins s σ H D I h
 refine wpAny_Assign_stores (thn (he pins s σ H _ I h) fun v s1 ⟨x,H1,I1,r1,q1⟩=>?_) hs hw
 rw [h1]
 exact thn (hg pins s1 σ H1 x v _ I1 r1 q1) fun _ s2 q=>q
theorem AH {i:Nat} {x:Str} {e:Expr} {te:TE} {pos':Pos} (hN:X.N.Nodup) (hi:X.N[i]? = some x) (hx:Loc X.env.scope x) (he:PE X e te) (hs:swapsWith e (some (.Name x pos')) pos.line X.env=pure false:=by rfl) (hf:X.fn x=true\/X.env.scope.names.lookup x=some .local:=by first | exact .inl rfl | exact .inr rfl | assumption) :
 PS X (.Assign [.Name x pos'] e pos) (DH te (AV i)):=by
 intro pins s σ H D I h
 refine wpAny_Assign_Name (thn (he pins s σ H _ I h) fun v s1 ⟨y,H1,I1,r1,q1⟩=>?_) hs
 exact IR I1 hN hi hx r1 (fun s2 I2=>⟨_,H1,I2,q1⟩) hf
end
section
variable {X:Cx} {pos:Pos}
end
structure It where
 go:Nat->Hp->Prop
 yld:Nat->Hp->V->Hp->Prop
 stop:Nat->Hp->Prop
def A4 (X:Cx) (pins:List (Addr × Obj)) (H:Hp) (b:Addr):Prop :=
 H b=none/\b≠X.env.locals/\b∉X.fs/\(b∈X.ex\/X.s₀.heap.objs.size<=b)/\(∀ x c,X.env.cells.lookup x=some c->c≠b)/\∀ p∈X.pn++pins,p.1≠b
theorem Inv.fpOk {X:Cx} {pins:List (Addr × Obj)} {σ:St} {H H':Hp} {s:Shared} {b:Addr} (I:Inv X pins σ H s) (hb:s.heap.objs.size<=b) (hn:H' b=none):A4 X pins H' b:=by
 refine ⟨hn,Nat.ne_of_gt (Nat.lt_of_lt_of_le I.lt hb),I.nofs hb,.inr (Nat.le_trans I.sz hb),fun x c e z=>?_,fun p hp z=>?_⟩
 ·obtain ⟨v,q⟩:=I.cell x c e
  exact absurd (Nat.lt_of_lt_of_le q.lt (by rw [z];exact hb)) (Nat.lt_irrefl _)
 ·exact absurd (Nat.lt_of_lt_of_le (Heap.lt_size (I.pin p hp).1) (by rw [z];exact hb)) (Nat.lt_irrefl _)
structure Turn (P:Program) (w:World) (K:W.Frag) (tg:Expr) (J:It) (fp:List Addr) (it:Addr) (tn:Nat->Heap->Prop):Prop where
 mem:it∈fp
 obj:∀ i h,tn i h->∀ b∈fp,∃ o,h.get? b=some o/\∀ v,o.data≠.cell v
 keep:∀ i h h',tn i h->(∀ b∈fp,∀ o,h.get? b=some o->h'.get? b=some o)->tn i h'
 item:∀ (X:Cx),X.prog=P->X.w=w->X.K=K->X.calm=true->∀ (i:Nat) (pins:List (Addr × Obj)) (s:Shared) (σ:St) (H:Hp) (E:Value->Shared->Prop),Inv X pins σ H s->(∀ b∈fp,A4 X pins H b)->tn i s.heap->J.go i H ->
  wpAny (model P w) X.A (pyNext (.ref it)) (fun r s1=>∃ u,r=some u /\
   wpAny (model P w) X.A (letOwnedTupleGo tg (.ref it) u) (fun _ s2=>∃ x H',Inv X pins σ H' s2/\RelV x u/\J.yld i H x H'/\tn (i+1) s2.heap/\∀ b∈fp,H' b=none) E s1) E s
 done:∀ (X:Cx),X.prog=P->X.w=w->X.K=K->X.calm=true->∀ (i:Nat) (pins:List (Addr × Obj)) (s:Shared) (σ:St) (H:Hp) (E:Value->Shared->Prop),Inv X pins σ H s->(∀ b∈fp,A4 X pins H b)->tn i s.heap->J.stop i H ->
  wpAny (model P w) X.A (pyNext (.ref it)) (fun r s1=>r=none/\Inv X pins σ H s1) E s
 self:∀ (A:Around) (i:Nat) (s:Shared) (Q:Value->Shared->Prop) (E:Value->Shared->Prop),tn i s.heap->Q (.ref it) s->wpAny (model P w) A (pyIter (.ref it)) Q E s
abbrev TI:=St->Hp->(It->Hp->Prop)->Prop
def PIE (X:Cx) (pins:List (Addr × Obj)) (σ:St) (tg:Expr) (R:It->Hp->Prop) (itv:Value) (s2:Shared):Prop :=
 ∃ (it:Addr) (fp:List Addr) (tn:Nat->Heap->Prop) (J:It) (H':Hp),itv=.ref it/\Inv X pins σ H' s2/\Turn X.prog X.w X.K tg J fp it tn/\tn 0 s2.heap/\(∀ b∈fp,A4 X pins H' b)/\R J H'
def PI (X:Cx) (tg iter:Expr) (wi:TI):Prop :=
 ∀ (pins:List (Addr × Obj)) (s:Shared) (σ:St) (H:Hp) (R:It->Hp->Prop),Inv X pins σ H s->wi σ H R ->
  wpAny (model X.prog X.w) X.A (eval iter X.env) (fun v s1=>wpAny (model X.prog X.w) X.A (pyIter v) (PIE X pins σ tg R) X.xe s1) X.xe s
theorem Dg {M:Model} {A:Around} {E:Value->Shared->Prop} {s:Shared} {tg:Expr} {it:Addr} {u:Value} {o:Obj} {n:String} {vs:Array Value} {Q:Unit->Shared->Prop} (ho:s.heap.get? it=some o) (hc:o.cls=.type n) (hd:o.data=.fields vs)
 (hn:["enumerate","zip","dict_itemiterator","dict_reverseitemiterator","odict_iterator","itertools.zip_longest","itertools.pairwise"].contains n=false) (hQ:Q () s):wpAny M A (letOwnedTupleGo tg (.ref it) u) Q E s:=by
 unfold letOwnedTupleGo
 cases tg <;> first
  | exact wpAny_pure hQ
  | (cases u <;> first
      | exact wpAny_pure hQ
      | (refine wpAny_bind (wpAny_load ho ?_)
         rw [hc,hd]
         show wpAny M A (if (["enumerate","zip","dict_itemiterator","dict_reverseitemiterator","odict_iterator","itertools.zip_longest","itertools.pairwise"].contains n && vs[0]? == some (rawInt _))=true then _ else _) Q E s
         rw [if_neg (by intro h;rw [hn,Bool.false_and] at h;cases h)]
         exact wpAny_pure hQ))
def Itl (K:W.Frag) (a:Addr):It :=
 ⟨fun i H=>∃ xs x,SqL K H a xs/\xs[i]? = some x,fun i H x H'=>H'=H/\∀ xs,SqL K H a xs->xs[i]? = some x,fun i H=>∃ xs,SqL K H a xs/\xs.length<=i⟩
def Itt (K:W.Frag) (a:Addr):It :=
 ⟨fun i H=>∃ xs x,SqT K H a xs/\xs[i]? = some x,fun i H x H'=>H'=H/\∀ xs,SqT K H a xs->xs[i]? = some x,fun i H=>∃ xs,SqT K H a xs/\xs.length<=i⟩
def Itr (lo:Int) (n:Nat):It:=⟨fun i _=>i < n,fun i H x H'=>H'=H/\x=.int (lo+i),fun i _=>n<=i⟩
theorem NN {P:Program} {w:World} {K:W.Frag} {tg:Expr} (a it:Addr):Turn P w K tg (Itl K a) [it] it (fun i h=>h.IsListIter it a i) where
 mem:=by simp
 obj:=fun i h st b hb=>by
  have e:b=it:=by simpa using hb
  subst e
  obtain ⟨o,e,c,d⟩:=st
  exact ⟨o,e,fun v z=>by rw [d] at z;cases z⟩
 keep:=fun i h h' st k=>st.at fun o e=>k it (by simp) o e
 item:=by
  intro X hP hw hK hc i pins s σ H E I hf st hg
  subst hP hw hK
  obtain ⟨xs,x,hq,hx⟩:=hg
  obtain ⟨its,rv,p,hz⟩:=I.list hq
  obtain ⟨u,hu,ru⟩:=rv.get hx
  obtain ⟨f0,f1,f2,f3,f4,f5⟩:=hf it (by simp)
  refine wpAny_pyNext_list_item st p.isList (x:=u) (by simpa using hu) fun h' st' sb=>?_
  have I1:Inv X pins σ H { s with heap:=h' }:=I.turned (t':=s.toks) (fun b o hb e=>(sb.2 b hb).trans e) f0 f1 f3 f4 f5
  obtain ⟨o,e,c,d⟩:=id st'
  exact ⟨u,rfl,Dg (s:={ s with heap:=h' }) e c d (by decide) ⟨x,H,I1,ru,⟨rfl,fun ys hy=>by rw [I.list_inj hy hq];exact hx⟩,st',fun b hb=>(hf b hb).1⟩⟩
 done:=by
  intro X hP hw hK hc i pins s σ H E I hf st hg
  subst hP hw hK
  obtain ⟨xs,hq,hx⟩:=hg
  obtain ⟨its,rv,p,hz⟩:=I.list hq
  obtain ⟨f0,f1,f2,f3,f4,f5⟩:=hf it (by simp)
  have hl:=rv.length
  exact wpAny_pyNext_list_end (I.ok.hd hc) st p.isList (by simp;lia) fun h' eb=>⟨rfl,I.turned (t':=s.toks) (fun b o hb e=>eb b o hb e) f0 f1 f3 f4 f5⟩
 self:=fun _ _ _ _ _ st h=>wpAny_pyIter_listiter st h
theorem Li {P:Program} {w:World} {K:W.Frag} {tg:Expr} (a it:Addr):Turn P w K tg (Itt K a) [it] it (fun i h=>h.IsTupleIter it a i) where
 mem:=by simp
 obj:=fun i h st b hb=>by
  have e:b=it:=by simpa using hb
  subst e
  obtain ⟨o,e,c,d⟩:=st
  exact ⟨o,e,fun v z=>by rw [d] at z;cases z⟩
 keep:=fun i h h' st k=>st.at fun o e=>k it (by simp) o e
 item:=by
  intro X hP hw hK hc i pins s σ H E I hf st hg
  subst hP hw hK
  obtain ⟨xs,x,hq,hx⟩:=hg
  obtain ⟨its,rv,p,hz⟩:=I.tuple hq
  obtain ⟨u,hu,ru⟩:=rv.get hx
  obtain ⟨f0,f1,f2,f3,f4,f5⟩:=hf it (by simp)
  refine wpAny_pyNext_tuple_item st (show s.heap.IsTuple a its.toArray from p) (x:=u) (by simpa using hu) fun h' st' sb=>?_
  have I1:Inv X pins σ H { s with heap:=h' }:=I.turned (t':=s.toks) (fun b o hb e=>(sb.2 b hb).trans e) f0 f1 f3 f4 f5
  obtain ⟨o,e,c,d⟩:=id st'
  exact ⟨u,rfl,Dg (s:={ s with heap:=h' }) e c d (by decide) ⟨x,H,I1,ru,⟨rfl,fun ys hy=>by rw [I.tuple_inj hy hq];exact hx⟩,st',fun b hb=>(hf b hb).1⟩⟩
 done:=by
  intro X hP hw hK hc i pins s σ H E I hf st hg
  subst hP hw hK
  obtain ⟨xs,hq,hx⟩:=hg
  obtain ⟨its,rv,p,hz⟩:=I.tuple hq
  obtain ⟨f0,f1,f2,f3,f4,f5⟩:=hf it (by simp)
  have hl:=rv.length
  exact wpAny_pyNext_tuple_end (I.ok.hd hc) st (show s.heap.IsTuple a its.toArray from p) (by simp;lia) fun h' eb=>⟨rfl,I.turned (t':=s.toks) (fun b o hb e=>eb b o hb e) f0 f1 f3 f4 f5⟩
 self:=fun _ _ _ _ _ st h=>wpAny_pyIter_tupleiter st h
theorem Nr {P:Program} {w:World} {K:W.Frag} {tg:Expr} (it:Addr) (lo:Int) (n:Nat):Turn P w K tg (Itr lo n) [it] it (fun i h=>IsRangeIter h it (lo+(i:Nat) * 1) ((n:Int) - (i:Nat)) 1) where
 mem:=by simp
 obj:=fun i h st b hb=>by
  have e:b=it:=by simpa using hb
  subst e
  exact ⟨_,st,fun v z=>by
   have z':Data.fields _=Data.cell v:=z
   cases z'⟩
 keep:=fun i h h' st k=>k it (by simp) _ st
 item:=by
  intro X hP hw hK hc i pins s σ H E I hf st hg
  subst hP hw hK
  obtain ⟨f0,f1,f2,f3,f4,f5⟩:=hf it (by simp)
  have W:=Walks.range (prog:=X.prog) (w:=X.w) (I.ok.hd hc) it lo 1 n
  refine W.item i s _ _ hg st fun v h' tk hv st' kk=>?_
  obtain ⟨t,rfl⟩:=hv
  have I1:Inv X pins σ H { s with heap:=h',toks:=tk }:=I.turned (fun b o hb e=>kk b o (by simpa using hb) e) f0 f1 f3 f4 f5
  refine ⟨_,rfl,Dg (s:={ s with heap:=h',toks:=tk }) (n:="range_iterator") st' rfl rfl (by decide) ⟨.int (lo+i),H,I1,⟨t,?_⟩,⟨rfl,rfl⟩,st',fun b hb=>(hf b hb).1⟩⟩
  rw [Int.mul_one]
 done:=by
  intro X hP hw hK hc i pins s σ H E I hf st hg
  subst hP hw hK
  obtain ⟨f0,f1,f2,f3,f4,f5⟩:=hf it (by simp)
  exact wpAny_pyNext_range_end (I.ok.hd hc) st (by have:n<=i:=hg;lia) fun h' eb=>⟨rfl,I.turned (t':=s.toks) (fun b o hb e=>eb b o hb e) f0 f1 f3 f4 f5⟩
 self:=fun _ _ _ _ _ st h=>wpAny_pyIter_rangeiter st h
section
variable {X:Cx} {tg:Expr}
theorem Nf {pins:List (Addr × Obj)} {σ:St} {H:Hp} {s:Shared} {R:It->Hp->Prop} {E:Value->Shared->Prop} {lo hi:Int} {t u v:Tok} {tk:Nat} (I:Inv X pins σ H s) (h1 : -(2 ^ 62)<=lo) (h2:lo < 2 ^ 62) (h3 : -(2 ^ 62)<=hi) (h4:hi < 2 ^ 62)
 (q:R (Itr lo (hi - lo).toNat) H):wpAny (model X.prog X.w) X.A (pyIter (.ref s.heap.objs.size)) (PIE X pins σ tg R) E { s with heap:=s.heap.push { cls:=.type "range",data:=.fields #[.int lo t,.int hi u,.int 1 v] },toks:=tk }:=by
 refine wpAny_pyIter_range (IsRange.new ..) (small_one h1 h2 h3 h4) ?_
 have I1:Inv X pins σ H { s with heap:=s.heap.push { cls:=.type "range",data:=.fields #[.int lo t,.int hi u,.int 1 v] },toks:=tk }:=I.kept fun b o e=>Heap.get?_push_of_some _ e
 refine ⟨(s.heap.push { cls:=.type "range",data:=.fields #[.int lo t,.int hi u,.int 1 v] }).objs.size,[(s.heap.push { cls:=.type "range",data:=.fields #[.int lo t,.int hi u,.int 1 v] }).objs.size],_,_,H,rfl,
  I1.kept (t':=tk) fun b o e=>Heap.get?_push_of_some _ e,Nr _ lo (hi - lo).toNat,?_,fun b hb=>?_,q⟩
 ·have e1:lo+((0:Nat):Int) * 1=lo:=by simp
  have e2:(((hi - lo).toNat:Nat):Int) - ((0:Nat):Int)=Builtin.Range.rangeSize lo hi 1:=by rw [rangeSize_one];split <;> lia
  show IsRangeIter _ _ (lo+((0:Nat):Int) * 1) ((((hi - lo).toNat:Nat):Int) - ((0:Nat):Int)) 1
  rw [e1,e2]
  exact Heap.get?_push_size _ rfl
 ·have e:b=(s.heap.push { cls:=.type "range",data:=.fields #[.int lo t,.int hi u,.int 1 v] }).objs.size:=by simpa using hb
  subst e
  exact I1.fpOk (Nat.le_refl _) (I1.hok.fresh (Nat.le_refl _))
def Hh (ta:TA):TI:=fun σ H R=>ta σ H fun vs H1=>∃ j:Int,vs=[.int j] /\ -(2 ^ 62)<=j/\j < 2 ^ 62/\R (Itr 0 j.toNat) H1
theorem Ay {a:Expr} {ta:TA} {p pos:Pos} (hg:Gl X "range") (hm:X.mg "range" = none) (ha:PA X [a] ta) (hs:starEach [a] X.env=[(false,eval a X.env)]:=by rfl):PI X tg (.Call (.Name "range" p) [a] [] pos) (Hh ta):=by
 intro pins s σ H R I h
 refine Call_ (Dd I hg hm boot_range (PyProof.Rows.callWith_type1 (thn (ha pos pins s σ H _ I h) fun us s1 ⟨vs,H1,I1,r1,q1⟩=>?_) hs rfl))
 obtain ⟨j,e,q1,q2,q⟩:=q1
 subst e
 cases r1 with
 | cons r rr =>
  cases rr
  obtain ⟨t,rfl⟩:=r
  exact call_range_1 (Nf I1 (by lia) (by lia) q1 q2 (by simpa using q))
def Il (wi:TI) (g:TG) (tb:TS):TS:=fun D σ H=>wi σ H fun J H1=>∃ W:Nat->Nat->St->Hp->Prop,(∃ m,W 0 m σ H1)/\∀ i m σ H,W i m σ H ->
 (J.stop i H/\D.nx σ H)\/(J.go i H/\∃ N:St->Hp->Prop,(∀ σ' H',N σ' H'->∃ m',m' < m/\W (i+1) m' σ' H')/\∀ x H',J.yld i H x H'->g x σ H' fun σ2 H2=>tb { D with nx:=N,ct:=N,bk:=D.nx } σ2 H2)
def BK (fp:List Addr) (h:Heap):List (Addr × Obj):=fp.filterMap fun b=>(h.get? b).map fun o=>(b,o)
theorem Cf {fp:List Addr} {h:Heap} {b:Addr} {o:Obj} (hb:b∈fp) (e:h.get? b=some o):(b,o)∈BK fp h:=List.mem_filterMap.mpr ⟨b,hb,by rw [e];rfl⟩
theorem FH {fp:List Addr} {h:Heap} {p:Addr × Obj} (hp:p∈BK fp h):p.1∈fp/\h.get? p.1=some p.2:=by
 obtain ⟨b,hb,e⟩:=List.mem_filterMap.mp hp
 cases q:h.get? b with
 | none=>rw [q] at e;cases e
 | some o =>
  rw [q] at e
  have e':(b,o)=p:=Option.some.inj e
  subst e'
  exact ⟨hb,q⟩
theorem Inv.pinned {pins:List (Addr × Obj)} {σ:St} {H:Hp} {s:Shared} {fp:List Addr} (I:Inv X pins σ H s) (hf:∀ b∈fp,A4 X pins H b) (ho:∀ b∈fp,∃ o,s.heap.get? b=some o/\∀ v,o.data≠.cell v):Inv X (pins++BK fp s.heap) σ H s :=
 I.pins_of fun p hp=>(List.mem_append.mp hp).elim (fun z=>I.pin p (List.mem_append_right _ z)) fun z=>by
  obtain ⟨hb,e⟩:=FH z
  obtain ⟨f0,f1,f2,_⟩:=hf p.1 hb
  obtain ⟨o,e',d⟩:=ho p.1 hb
  rw [e] at e';cases e'
  exact ⟨e,f0,f1,f2,d⟩
theorem Inv.unpinned {pins pl:List (Addr × Obj)} {σ:St} {H:Hp} {s:Shared} (I:Inv X (pins++pl) σ H s):Inv X pins σ H s:=I.pins_of fun p hp=>I.pin p (List.mem_append_right _ (List.mem_append_left _ hp))
theorem BJ {iter:Expr} {body:List Stmt} {wi:TI} {g:TG} {tb:TS} {pos:Pos} (hp:PassesOwn (model X.prog X.w) X.A X.env X.xe) (hc:X.calm=true) (hi:PI X tg iter wi) (hg:PG X tg g) (hb:PSs X body tb)
 (hs:∀ x,foldedSetIterable iter X.env x=pure x:=by intro _;rfl):PS X (.For tg iter body [] pos) (Il wi g tb):=by
 intro pins s σ H D I h
 refine wpAny_For (thn (hi pins s σ H _ I h) fun v s1 h1=>thn h1 fun itv s2 h2=>?_) hs
 obtain ⟨it,fp,tn,J,H2,e,I2,T,st2,f2,W,⟨m0,w0⟩,turn⟩:=h2
 subst e
 -- what stays true of the iterator's objects through the loop
 have stat:∀ {H':Hp},(∀ b∈fp,H' b=none)->∀ b∈fp,A4 X pins H' b:=fun hn b hb=>⟨hn b hb,(f2 b hb).2⟩
 refine codeAny_forLoop_any (fun n s'=>∃ i σ' H',Inv X pins σ' H' s'/\tn i s'.heap/\(∀ b∈fp,H' b=none)/\W i n σ' H') ?_ m0 ⟨0,σ,H2,I2,st2,fun b hb=>(f2 b hb).1,w0⟩
 rintro n s3 ⟨i,σ3,H3,I3,st3,fr3,w3⟩
 rcases turn i n σ3 H3 w3 with ⟨stop,qn⟩ | ⟨go,N,hN,step⟩
 ·refine wpAny_passesOwn hp (thn (T.done X rfl rfl rfl hc i pins s3 σ3 H3 X.xe I3 (stat fr3) st3 stop) fun r s4 ⟨hr,I4⟩=>?_)
  subst hr
  exact wpAny_execs_nil ⟨σ3,H3,I4,qn⟩
 ·refine wpAny_passesOwn hp (thn (T.item X rfl rfl rfl hc i pins s3 σ3 H3 X.xe I3 (stat fr3) st3 go) fun r s4 ⟨u,hr,h4⟩=>?_)
  subst hr
  refine wpAny_passesOwn hp (thn h4 fun _ s5 ⟨x,H5,I5,r5,y5,st5,fr5⟩=>?_)
  have I5':=I5.pinned (stat fr5) (T.obj _ _ st5)
  refine wpAny_passesOwn hp (thn (hg _ s5 σ3 H5 x u _ I5' r5 (step x H5 y5)) fun _ s6 ⟨σ6,H6,I6,q6⟩=>?_)
  refine wpAny_passesOwn hp (thn (hb _ s6 σ6 H6 _ I6 q6) fun f s7 q7=>?_)
  have again:∀ {σ7:St} {H7:Hp},Inv X (pins++BK fp s5.heap) σ7 H7 s7->N σ7 H7->∃ m,m < n/\∃ i σ' H',Inv X pins σ' H' s7/\tn i s7.heap/\(∀ b∈fp,H' b=none)/\W i m σ' H':=fun {σ7 H7} I7 n7=>by
   obtain ⟨m',hm,w7⟩:=hN σ7 H7 n7
   refine ⟨m',hm,i+1,σ7,H7,I7.unpinned,T.keep _ _ _ st5 fun b hb o e=>(I7.pin (b,o) (List.mem_append_right _ (List.mem_append_right _ (Cf hb e)))).1,fun b hb=>?_,w7⟩
   obtain ⟨o,e,d⟩:=T.obj _ _ st5 b hb
   exact (I7.pin (b,o) (List.mem_append_right _ (List.mem_append_right _ (Cf hb e)))).2.1
  cases f with
  | next=>obtain ⟨σ7,H7,I7,n7⟩:=q7;exact again I7 n7
  | cont=>obtain ⟨σ7,H7,I7,n7⟩:=q7;exact again I7 n7
  | brk=>obtain ⟨σ7,H7,I7,q7⟩:=q7;exact ⟨σ7,H7,I7.unpinned,q7⟩
  | ret v=>obtain ⟨x7,σ7,H7,I7,r7,q7⟩:=q7;exact ⟨x7,σ7,H7,I7.unpinned,r7,q7⟩
end
theorem Mj {K:W.Frag} {a:Addr} {xs:List V} {g:TG} {tb:TS} {D:Ends} {σ:St} {H:Hp} (Pv:Nat->St->Hp->Prop) (h0:Pv 0 σ H) (hl:∀ i σ H,i<=xs.length->Pv i σ H->SqT K H a xs)
 (hs:∀ i x σ H,xs[i]? = some x->Pv i σ H->g x σ H fun σ2 H2=>tb { D with nx:=Pv (i+1),ct:=Pv (i+1),bk:=D.nx } σ2 H2) (hd:∀ σ H,Pv xs.length σ H->D.nx σ H) :
 ∃ W:Nat->Nat->St->Hp->Prop,(∃ m,W 0 m σ H)/\∀ i m σ H,W i m σ H ->
  ((Itt K a).stop i H/\D.nx σ H)\/((Itt K a).go i H/\∃ N:St->Hp->Prop,(∀ σ' H',N σ' H'->∃ m',m' < m/\W (i+1) m' σ' H')/\∀ x H',(Itt K a).yld i H x H'->g x σ H' fun σ2 H2=>tb { D with nx:=N,ct:=N,bk:=D.nx } σ2 H2):=by
 refine ⟨fun i m σ H=>m=xs.length - i/\i<=xs.length/\Pv i σ H,⟨xs.length,by simp,Nat.zero_le _,h0⟩,?_⟩
 rintro i m σ H ⟨rfl,hi,p⟩
 have q:=hl i σ H hi p
 by_cases hlt:i < xs.length
 ·refine .inr ⟨⟨xs,xs[i],q,by simp [hlt]⟩,Pv (i+1),fun σ' H' p'=>⟨xs.length - (i+1),by lia,rfl,hlt,p'⟩,fun x H' y=>?_⟩
  obtain ⟨e,y⟩:=y
  subst e
  exact hs i x σ _ (y xs q) p
 ·have e:i=xs.length:=by lia
  subst e
  exact .inl ⟨⟨xs,q,Nat.le_refl _⟩,hd σ H p⟩
theorem B5 {lo:Int} {n:Nat} {g:TG} {tb:TS} {D:Ends} {σ:St} {H:Hp} (Pv:Nat->St->Hp->Prop) (h0:Pv 0 σ H)
 (hs:∀ i σ H,i < n->Pv i σ H->g (.int (lo+i)) σ H fun σ2 H2=>tb { D with nx:=Pv (i+1),ct:=Pv (i+1),bk:=D.nx } σ2 H2) (hd:∀ σ H,Pv n σ H->D.nx σ H) :
 ∃ W:Nat->Nat->St->Hp->Prop,(∃ m,W 0 m σ H)/\∀ i m σ H,W i m σ H ->
  ((Itr lo n).stop i H/\D.nx σ H)\/((Itr lo n).go i H/\∃ N:St->Hp->Prop,(∀ σ' H',N σ' H'->∃ m',m' < m/\W (i+1) m' σ' H')/\∀ x H',(Itr lo n).yld i H x H'->g x σ H' fun σ2 H2=>tb { D with nx:=N,ct:=N,bk:=D.nx } σ2 H2):=by
 refine ⟨fun i m σ H=>m=n - i/\i<=n/\Pv i σ H,⟨n,by simp,Nat.zero_le _,h0⟩,?_⟩
 rintro i m σ H ⟨rfl,hi,p⟩
 by_cases hlt:i < n
 ·refine .inr ⟨hlt,Pv (i+1),fun σ' H' p'=>⟨n - (i+1),by lia,rfl,hlt,p'⟩,fun x H' y=>?_⟩
  obtain ⟨e,y⟩:=y
  subst e y
  exact hs i σ _ hlt p
 ·have e:i=n:=by lia
  subst e
  exact .inl ⟨Nat.le_refl _,hd σ H p⟩
abbrev R2:=V->V->Hp->VK->Prop
def OpR (X:Cx) (f:Value->Value->Sem Value) (r:R2):Prop :=
 ∀ (pins:List (Addr × Obj)) (s:Shared) (σ:St) (H:Hp) (x y:V) (v u:Value) (Q:VK),Inv X pins σ H s->RelV x v->RelV y u->r x y H Q ->
  wpAny (model X.prog X.w) X.A (f v u) (EP X pins σ Q) X.xe s
def UnR (X:Cx) (f:Value->Sem Value) (r:V->Hp->VK->Prop):Prop :=
 ∀ (pins:List (Addr × Obj)) (s:Shared) (σ:St) (H:Hp) (x:V) (v:Value) (Q:VK),Inv X pins σ H s->RelV x v->r x H Q ->
  wpAny (model X.prog X.w) X.A (f v) (EP X pins σ Q) X.xe s
def CallR (X:Cx) (f:Value) (r:List V->Hp->VK->Prop):Prop :=
 ∀ (pins:List (Addr × Obj)) (s:Shared) (σ:St) (H:Hp) (xs:List V) (us:List Value) (Q:VK),Inv X pins σ H s->Vals xs us->r xs H Q ->
  wpAny (model X.prog X.w) X.A (call f us) (EP X pins σ Q) X.xe s
def tOp (r:R2) (ta tb:TE):TE:=fun σ H Q=>ta σ H fun x H1=>tb σ H1 fun y H2=>r x y H2 Q
def tUn (r:V->Hp->VK->Prop) (ta:TE):TE:=fun σ H Q=>ta σ H fun x H1=>r x H1 Q
def rI (C:Int->Int->Prop) (g:Int->Int->V):R2:=fun x y H Q=>∃ i j,x=.int i/\y=.int j/\C i j/\Q (g i j) H
def rI0 (g:Int->Int->V):R2:=fun x y H Q=>∃ i j,x=.int i/\y=.int j/\Q (g i j) H
def rU (g:Int->V):V->Hp->VK->Prop:=fun x H Q=>∃ i,x=.int i/\Q (g i) H
section
variable {X:Cx} {a b c:Expr} {ta tb tc:TE} {pos:Pos}
theorem Ey (ha:PE X a ta) (hb:PE X b tb) {pins:List (Addr × Obj)} {s:Shared} {σ:St} {H:Hp} {R:V->V->Hp->Prop} (I:Inv X pins σ H s)
 (h:ta σ H fun x H1=>tb σ H1 fun y H2=>R x y H2) {Q:Value->Shared->Prop} {f:Value->Value->Sem Value}
 (hf:∀ v u s2 x y H2,Inv X pins σ H2 s2->RelV x v->RelV y u->R x y H2->wpAny (model X.prog X.w) X.A (f v u) Q X.xe s2) :
 wpAny (model X.prog X.w) X.A (eval a X.env) (fun v s₁=>wpAny (model X.prog X.w) X.A (eval b X.env) (fun u s₂=>wpAny (model X.prog X.w) X.A (f v u) Q X.xe s₂) X.xe s₁) X.xe s:=by
 refine thn (ha pins s σ H _ I h) fun v s1 ⟨x,H1,I1,r1,q1⟩=>?_
 refine thn (hb pins s1 σ H1 _ I1 q1) fun u s2 ⟨y,H2,I2,r2,q2⟩=>?_
 exact hf v u s2 x y H2 I2 r1 r2 q2
theorem AC {op:Operator} {r:R2} (ho:OpR X (binaryOp op) r) (ha:PE X a ta) (hb:PE X b tb):PE X (.BinOp a op b pos) (tOp r ta tb):=by
 intro pins s σ H Q I h
 exact wpAny_BinOp (Ey ha hb I h fun v u s2 x y H2 I2 rx ry q=>ho pins s2 σ H2 x y v u Q I2 rx ry q)
theorem N9 {op:UnaryOp} {r:V->Hp->VK->Prop} (ho:UnR X (unaryOp op) r) (ha:PE X a ta):PE X (.UnaryOp op a pos) (tUn r ta):=by
 intro pins s σ H Q I h
 exact UnaryOp_ (thn (ha pins s σ H _ I h) fun v s1 ⟨x,H1,I1,r1,q1⟩=>ho pins s1 σ H1 x v Q I1 r1 q1)
theorem opI {f:Value->Value->Sem Value} {C:Int->Int->Prop} {g:Int->Int->Int}
 (rule:∀ (i j:Int) (t u:Tok) (s:Shared) (Q:Value->Shared->Prop) (E:Value->Shared->Prop),C i j->Q (.int (g i j) s.toks) { s with toks:=s.toks+1 } -> wpAny (model X.prog X.w) X.A (f (.int i t) (.int j u)) Q E s) :
 OpR X f (rI C fun i j=>.int (g i j)):=by
 intro pins s σ H x y v u Q I rx ry h
 obtain ⟨i,j,rfl,rfl,hc,q⟩:=h
 obtain ⟨t,rfl⟩:=rx
 obtain ⟨t',rfl⟩:=ry
 exact rule i j t t' s _ _ hc ⟨.int (g i j),H,I.tok _,⟨_,rfl⟩,q⟩
theorem EN {f:Value->Value->Sem Value} {g:Int->Int->Int}
 (rule:∀ (i j:Int) (t u:Tok) (s:Shared) (Q:Value->Shared->Prop) (E:Value->Shared->Prop),Q (.int (g i j) s.toks) { s with toks:=s.toks+1 } -> wpAny (model X.prog X.w) X.A (f (.int i t) (.int j u)) Q E s) :
 OpR X f (rI0 fun i j=>.int (g i j)):=by
 intro pins s σ H x y v u Q I rx ry h
 obtain ⟨i,j,rfl,rfl,q⟩:=h
 obtain ⟨t,rfl⟩:=rx
 obtain ⟨t',rfl⟩:=ry
 exact rule i j t t' s _ _ ⟨.int (g i j),H,I.tok _,⟨_,rfl⟩,q⟩
theorem FG {f:Value->Value->Sem Value} {g:Int->Int->Bool}
 (rule:∀ (i j:Int) (t u:Tok) (s:Shared) (Q:Value->Shared->Prop) (E:Value->Shared->Prop),Q (.bool (g i j)) s->wpAny (model X.prog X.w) X.A (f (.int i t) (.int j u)) Q E s) :
 OpR X f (rI0 fun i j=>.bl (g i j)):=by
 intro pins s σ H x y v u Q I rx ry h
 obtain ⟨i,j,rfl,rfl,q⟩:=h
 obtain ⟨t,rfl⟩:=rx
 obtain ⟨t',rfl⟩:=ry
 exact rule i j t t' s _ _ ⟨.bl (g i j),H,I,rfl,q⟩
def DU (i j:Int):Prop:=0<=j/\j<=1000000/\i.natAbs < 2 ^ 64
def CMul (i j:Int):Prop:=(-(2 ^ 64) < i/\i < 2 ^ 64)\/(-(2 ^ 64) < j/\j < 2 ^ 64)
theorem CMul.ok {i j:Int} (h:CMul i j):IntMulOk i j:=by
 rcases h with ⟨h1,h2⟩ | ⟨h1,h2⟩
 ·exact .of_left (intBits_le_64 h1 h2)
 ·exact .of_right (intBits_le_64 h1 h2)
theorem LJ:OpR X (binaryOp .Add) (rI0 fun i j=>.int (i+j)):=EN fun _ _ _ _ _ _ _ q=>add_int q
theorem KF:OpR X (binaryOp .Sub) (rI0 fun i j=>.int (i - j)):=EN fun _ _ _ _ _ _ _ q=>sub_int q
theorem JT:OpR X (binaryOp .Mod) (rI (fun _ j=>0 < j) fun i j=>.int (i % j)):=opI fun i j _ _ _ _ _ hc q=>by
 have h1:(0:Int) < j:=hc
 exact mod_int' (by lia) (by rw [Int.fmod_eq_emod_of_nonneg i (by lia)];exact q)
theorem LX:OpR X (binaryOp .Pow) (rI DU fun i j=>.int (i ^ j.toNat)):=opI fun _ _ _ _ _ _ _ hc q=>pow_int_small hc.1 hc.2.1 hc.2.2 q
theorem MB:OpR X (binaryOp .LShift) (rI DU fun i j=>.int (i * 2 ^ j.toNat)):=opI fun _ _ _ _ _ _ _ hc q=>lshift_int_small hc.1 hc.2.1 hc.2.2 q
theorem KA:OpR X (binaryOp .BitAnd) (rI0 fun i j=>.int (Builtin.bitAnd i j)):=EN fun _ _ _ _ _ _ _ q=>and_int q
theorem K4:OpR X (binaryOp .BitXor) (rI0 fun i j=>.int (Builtin.bitXor i j)):=EN fun _ _ _ _ _ _ _ q=>xor_int q
theorem unI {f:Value->Sem Value} {g:Int->Int}
 (rule:∀ (i:Int) (t:Tok) (s:Shared) (Q:Value->Shared->Prop) (E:Value->Shared->Prop),Q (.int (g i) s.toks) { s with toks:=s.toks+1 } -> wpAny (model X.prog X.w) X.A (f (.int i t)) Q E s) :
 UnR X f (rU fun i=>.int (g i)):=by
 intro pins s σ H x v Q I rx h
 obtain ⟨i,rfl,q⟩:=h
 obtain ⟨t,rfl⟩:=rx
 exact rule i t s _ _ ⟨.int (g i),H,I.tok _,⟨_,rfl⟩,q⟩
theorem J3:UnR X (unaryOp .USub) (rU fun i=>.int (-i)):=unI fun _ _ _ _ _ q=>neg_int q
end
section
variable {X:Cx} {a b c:Expr} {ta tb tc:TE} {pos:Pos}
theorem Jd:OpR X (compareOp .Lt) (rI0 fun i j=>.bl (decide (i < j))):=FG fun _ _ _ _ _ _ _ q=>lt_int q
theorem NK:OpR X (compareOp .Gt) (rI0 fun i j=>.bl (decide (j < i))):=FG fun _ _ _ _ _ _ _ q=>gt_int q
theorem NG:OpR X (compareOp .GtE) (rI0 fun i j=>.bl (decide (j<=i))):=FG fun _ _ _ _ _ _ _ q=>ge_int q
theorem JA {op:CmpOp} {r:R2} (ho:OpR X (compareOp op) r) (ha:PE X a ta) (hb:PE X b tb) (hm:behindInMarks op b=false):PE X (.Compare a [op] [b] pos) (tOp r ta tb):=by
 intro pins s σ H Q I h
 exact wpAny_Compare1 (Ey ha hb I h fun v u s2 x y H2 I2 rx ry q=>ho pins s2 σ H2 x y v u Q I2 rx ry q) hm
theorem DO:(sizeLine:Nat) < 2 ^ 63:=by rw [sizeLine_eq];decide
theorem LW:OpR X (binaryOp .Add) (fun x y H Q=>∃ i j,x=.str i/\y=.str j/\i.length+j.length<=sizeLine/\Q (.str (i++j)) H):=by
 intro pins s σ H x y v u Q I rx ry h
 obtain ⟨i,j,rfl,rfl,hz,q⟩:=h
 obtain ⟨t,rfl⟩:=rx
 obtain ⟨t',rfl⟩:=ry
 exact add_str (fun t' tk=>⟨.str (i++j),H,I.tok _,⟨_,rfl⟩,q⟩) hz
theorem B9 {x:V} {us:List Value} (r:Vals [x] us):∃ u,us=[u]/\RelV x u:=by
 cases r with
 | cons r1 r2=>cases r2;exact ⟨_,rfl,r1⟩
theorem JW {x y:V} {us:List Value} (r:Vals [x,y] us):∃ u w',us=[u,w']/\RelV x u/\RelV y w':=by
 cases r with
 | cons r1 r2 =>
  cases r2 with
  | cons r3 r4=>cases r4;exact ⟨_,_,rfl,r1,r3⟩
theorem call_abs:CallR X (.builtin "abs") (fun xs H Q=>∃ i,xs=[.int i]/\Q (.int (if i < 0 then -i else i)) H):=by
 intro pins s σ H xs us Q I r h
 obtain ⟨i,rfl,q⟩:=h
 obtain ⟨u,rfl,t,rfl⟩:=B9 r
 exact call_abs_int fun u tk=>⟨.int (if i < 0 then -i else i),H,I.tok _,⟨_,rfl⟩,q⟩
theorem LZ (hc:X.calm=true):CallR X (.builtin "max") (fun xs H Q=>∃ i j,xs=[.int i,.int j]/\Q (.int (if j > i then j else i)) H):=by
 intro pins s σ H xs us Q I r h
 obtain ⟨i,j,rfl,q⟩:=h
 obtain ⟨u,w',rfl,⟨t,rfl⟩,⟨t',rfl⟩⟩:=JW r
 refine max_two_ints (I.ok.hd hc) fun h' tk k=>⟨_,H,I.kept k,?_,q⟩
 by_cases hj:j > i
 ·rw [if_pos hj,if_pos hj];exact ⟨_,rfl⟩
 ·rw [if_neg hj,if_neg hj];exact ⟨_,rfl⟩
theorem call_int1:CallR X (.type "int") (fun xs H Q=>(∃ i,xs=[.int i]/\Q (.int i) H)\/∃ k,xs=[.bl k]/\Q (.int (if k then 1 else 0)) H):=by
 intro pins s σ H xs us Q I r h
 rcases h with ⟨i,rfl,q⟩ | ⟨k,rfl,q⟩
 ·obtain ⟨u,rfl,t,rfl⟩:=B9 r
  exact call_int_int ⟨.int i,H,I,⟨_,rfl⟩,q⟩
 ·obtain ⟨u,rfl,r1⟩:=B9 r
  cases r1
  exact call_int_bool ⟨.int (if k then 1 else 0),H,I.tok _,⟨_,rfl⟩,q⟩
def HE (K:W.Frag) (x:V) (H:Hp) (n:Nat):Prop :=
 match x with
 | .str y=>y.length<=sizeLine/\n=y.length
 | .byt y=>y.size<=sizeLine/\n=y.size
 | .ref p=>(∃ xs,SqL K H p xs/\n=xs.length)\/∃ xs,SqT K H p xs/\n=xs.length
 | _=>False
theorem call_len:CallR X (.builtin "len") (fun xs H Q=>∃ x n,xs=[x]/\HE X.K x H n/\Q (.int n) H):=by
 intro pins s σ H xs us Q I r h
 obtain ⟨x,n,rfl,e,q⟩:=h
 obtain ⟨u,rfl,rx⟩:=B9 r
 have hl:=DO
 have hs:sizeLine=16777216:=sizeLine_eq
 cases x with
 | str y =>
  obtain ⟨t,rfl⟩:=rx
  obtain ⟨hy,e'⟩:y.length<=sizeLine/\n=y.length:=e
  subst e'
  exact len_str (by lia) ⟨.int _,H,I.tok _,⟨_,rfl⟩,q⟩
 | byt y =>
  obtain ⟨t,rfl⟩:=rx
  obtain ⟨hy,e'⟩:y.size<=sizeLine/\n=y.size:=e
  subst e'
  exact PySem.W.len_bytes (by lia) ⟨.int _,H,I.tok _,⟨_,rfl⟩,q⟩
 | ref p =>
  cases rx
  have e':(∃ xs,SqL X.K H p xs/\n=xs.length)\/∃ xs,SqT X.K H p xs/\n=xs.length:=e
  rcases e' with ⟨xs,hx,e'⟩ | ⟨xs,hx,e'⟩
  ·subst e'
   obtain ⟨its,r',pl,hz⟩:=I.list hx
   have hlen:=r'.length
   exact Calls.call_len_list pl.isList (by simp only [List.size_toArray];lia) ⟨.int xs.length,H,I.tok _,⟨_,by simp only [List.size_toArray];rw [hlen]⟩,q⟩
  ·subst e'
   obtain ⟨its,r',pl,hz⟩:=I.tuple hx
   have hlen:=r'.length
   exact len_tuple pl (by simp only [List.size_toArray];lia) ⟨.int xs.length,H,I.tok _,⟨_,by simp only [List.size_toArray];rw [hlen]⟩,q⟩
 | _=>exact (show False from e).elim
end
structure ObjM (h:Heap) (x dx C:Addr) (mA:Str->Option Value):Prop where
 obj:h.get? x=some (PySem.W.instObj C dx)
 ns:h.Ns1 dx mA
 ne:dx≠x
section
variable {prog:Program} {w:World} {A:Around} {E:Value->Shared->Prop} {s:Shared} {K:W.Frag} {x dx C f:Addr} {mA:Str->Option Value} {name:Str} {v:Value}
end
theorem RelO.some_of {v:V} {o:Option Value} (r:RelO (some v) o):∃ u,o=some u/\RelV v u:=by
 cases o with
 | none=>exact (show False from r).elim
 | some u=>exact ⟨u,rfl,r⟩
section
variable {P:Program} {w:World} {H H':Hp} {h h':Heap} {a C dx:Addr} {fs fs':List (Str × V)}
end
structure Cls (K:W.Frag) (C:Addr):Prop where
 pg:PySem.W.plainGet K C Str.empty=true
 hd:PySem.W.hasDictIn K C=true
 po:PySem.W.plainOver K C=true
 sa:PySem.W.findIn K (.ref C) "__setattr__" = some (some (.builtin "object.__setattr__"))
theorem Cls.get {K:W.Frag} {C:Addr} (c:Cls K C) (f:Str):PySem.W.plainGet K C f=true:=c.pg
structure Con (K:W.Frag) (C:Addr) (f:Str) (v:V) (u:Value):Prop where
 at_:PySem.W.findIn K (.ref C) f=some (some u)
 rel:RelV v u
 get:PySem.W.specialIn K u "__get__" = some none
 cp:PySem.W.copiedNames.contains f=false
structure Meth (K:W.Frag) (C:Addr) (m:Str) (f:Addr):Prop where
 at_:PySem.W.findIn K (.ref C) m=some (some (.ref f))
 fn:PySem.W.isFn K (.ref f)=true
 kp:PySem.W.keepIn K (.ref f)=true
section
variable {X:Cx} {pins:List (Addr × Obj)} {σ:St} {H:Hp} {s:Shared} {a C dx:Addr} {fs:List (Str × V)} {f:Str} {v:V} {A:Around} {E:Value->Shared->Prop}
end
section
variable {X:Cx} {o e value:Expr} {f:Str} {pos pos' tpos:Pos} {ta tv:TE}
end
section
variable {X:Cx} {pins:List (Addr × Obj)} {σ:St} {H:Hp} {s:Shared} {A:Around} {E:Value->Shared->Prop} {Q:Value->Shared->Prop} {c:Value} {b:Bool}
inductive TyOf (K:W.Frag) (H:Hp):V->Value->Prop where
 | non:TyOf K H .non (.type "NoneType")
 | bl (x:Bool):TyOf K H (.bl x) (.type "bool")
 | int (i:Int):TyOf K H (.int i) (.type "int")
 | str (x:Str):TyOf K H (.str x) (.type "str")
 | flt (x:UInt64):TyOf K H (.flt x) (.type "float")
 | lst {a:Addr} {xs:List V} (e:H a=some (.lst xs)):TyOf K H (.ref a) (.type "list")
 | frz {a:Addr} {o:Obj} {xs:List V} (e:H a=some (.frz o (.lst xs))):TyOf K H (.ref a) (.type "list")
 | tup {a:Addr} {xs:List V} (e:H a=some (.tup xs)):TyOf K H (.ref a) (.type "tuple")
 | dK {a:Addr} {kvs:List (Key × V)} (e:H a=some (.dK kvs)):TyOf K H (.ref a) (.type "dict")
 | dT {a:Addr} {kvs:List (List Key × V)} (e:H a=some (.dT kvs)):TyOf K H (.ref a) (.type "dict")
 | ins {a C dx:Addr} {fs:List (Str × V)} (e:H a=some (.ins C dx fs)) (cl:Cls K C) (ha:PySem.W.findIn K (.ref C) "__class__" = some (some (.builtin "object.__class__")))
  (hn:PySem.W.specialIn K (.builtin "object.__class__") "__get__" = some (some (.builtin "getset_descriptor.__get__"))) (htk:PySem.W.takesIn K (.builtin "object.__class__")=some true)
  (hm:PySem.W.mroIn K C (.type "object")=some true):TyOf K H (.ref a) (.ref C)
end
structure Room (k:Nat) (A:Around):Prop where
 hd:A.handled=none
 dp:A.depth+3 * k+5 < recursionLimit
 un:A.units+16 * k+200 < cLine
 gd:A.guards=some []
theorem Room.mono {j k:Nat} {A:Around} (r:Room k A) (h:j<=k):Room j A:=⟨r.hd,by have:=r.dp;lia,by have:=r.un;lia,r.gd⟩
theorem Room.deeper {k:Nat} {A:Around} (r:Room (k+1) A) (env:Env):Room k (A.deeper env) :=
 ⟨r.hd,by have:=r.dp;show A.depth+1+3 * k+5 < _;lia,by have:=r.un;show A.units+3+16 * k+200 < _;lia,r.gd⟩
theorem Room.depth {k:Nat} {A:Around} (r:Room k A):A.depth < recursionLimit:=by have:=r.dp;lia
def IH:TA:=fun _ H Q=>Q [] H
def Io (ta:TE) (tr:TA):TA:=fun σ H Q=>ta σ H fun x H1=>tr σ H1 fun xs H2=>Q (x::xs) H2
section
variable {X:Cx} {e:Expr} {es:List Expr} {te:TE} {t:TA} {pos:Pos}
theorem AD:PA X [] IH:=fun _ _ _ _ H Q I h=>Calls.spliced_nil ⟨[],H,I,.nil,h⟩
theorem AA (ha:PE X e te) (hr:PA X es t) (hs:starEach (e::es) X.env=(false,eval e X.env)::starEach es X.env:=by rfl):PA X (e::es) (Io te t):=by
 intro pos pins s σ H Q I h
 rw [hs]
 show wpAny _ _ (spliced ((false,eval e X.env)::backTo pos (starEach es X.env))) _ _ s
 refine Calls.spliced_cons (thn (ha pins s σ H _ I h) fun u s1 ⟨x,H1,I1,r1,q1⟩=>?_)
 exact thn (hr pos pins s1 σ H1 _ I1 q1) fun us s2 ⟨xs,H2,I2,r2,q2⟩=>⟨x::xs,H2,I2,.cons r1 r2,q2⟩
def NH (t:TA):TE:=fun σ H Q=>t σ H fun xs H1=>xs.length<=sizeLine/\∀ p,H1 p=none->Q (.ref p) (upd H1 p (.tup xs))
def Ku (t:TA):TE:=fun σ H Q=>t σ H fun xs H1=>xs.length<=sizeLine/\∀ p,H1 p=none->Q (.ref p) (upd H1 p (.lst xs))
theorem DZ {x1} (h:PA X es t):PE X (.Tuple es x1 pos) (NH t):=by
 intro pins s σ H Q I hq
 refine wpAny_Tuple_spliced (thn (h pos pins s σ H _ I hq) fun us s1 ⟨xs,H1,I1,r,z,q⟩=>⟨by rw [<- r.length];exact z,?_⟩)
 have hf:H1 s1.heap.objs.size=none:=I1.hok.fresh (Nat.le_refl _)
 refine ⟨.ref s1.heap.objs.size,upd H1 s1.heap.objs.size (.tup xs),I1.laid (t':=s1.toks) (fun b u e=>Heap.get?_push_of_some _ e) (Nat.le_refl _) ?_,rfl,q _ hf⟩
 exact ⟨z,us,r,⟨_,Heap.get?_push_size _ rfl,rfl,⟨_,rfl⟩,rfl⟩⟩
theorem EO (h:PA X es t):PE X (.List es pos) (Ku t):=by
 intro pins s σ H Q I hq
 refine wpAny_List_spliced (thn (h pos pins s σ H _ I hq) fun us s1 ⟨xs,H1,I1,r,z,q⟩=>⟨by rw [<- r.length];exact z,?_⟩)
 have hf:H1 s1.heap.objs.size=none:=I1.hok.fresh (Nat.le_refl _)
 refine ⟨.ref s1.heap.objs.size,upd H1 s1.heap.objs.size (.lst xs),I1.laid (t':=s1.toks) (fun b u e=>Heap.get?_push_of_some _ e) (Nat.le_refl _) ?_,rfl,q _ hf⟩
 exact ⟨z,us,0,r,Heap.get?_push_size _ rfl⟩
end
abbrev Sp:=List V->Hp->VK->XK->Prop
abbrev CXT:=List Env->Hp->Shared->XK->Value->Shared->Prop
structure Env0 (P:Program) (w:World) (K:W.Frag) (mg:Str->Option Value) (base:Heap) (A:Around) (outer:List Env) (s:Shared) (H:Hp):Prop where
 frames:A.frames=some outer
 mod:Mod K mg base
 bs:∀ b o,base.get? b=some o->s.heap.get? b=some o/\H b=none
 bsz:base.objs.size<=s.heap.objs.size
 funs:s.heap.FunFrames base outer
 frf:∀ b∈frs outer,H b=none
 hok:HOk P w H s.heap
 bare:AllBare s.gens
def CE (outer:List Env) (P:Program) (w:World) (H:Hp) (s:Shared) (Q:VK) (u:Value) (s':Shared):Prop :=
 ∃ v H',s'.os=s.os/\AllBare s'.gens/\Un (frs outer) [] H H' s.heap s'.heap/\HOk P w H' s'.heap/\RelV v u/\Q v H'
def CR (CX:CXT) (outer:List Env) (P:Program) (w:World) (H:Hp) (s:Shared) (Q:VK) (E:XK) (r:Result) (s':Shared):Prop :=
 match r with
 | .ok (.ret u)=>CE outer P w H s Q u s'
 | .ok _=>False
 | .error e=>CX outer H s E e s'
structure FnOk (P:Program) (w:World) (K:W.Frag) (mg:Str->Option Value) (base:Heap) (CX:CXT) (k:Nat) (f:Addr) (fd:FuncData) (ps:List Str) (sp:Sp):Prop where
 len:∀ vs H Q E,sp vs H Q E->vs.length=ps.length
 run:∀ (A:Around) (outer:List Env) (s:Shared) (H:Hp) (args:Args) (us:List Value) (vs:List V) (Q:VK) (E:XK),Room k A->Env0 P w K mg base A outer s H->BindsTo s fd args (ps.zip us)->Vals vs us->sp vs H Q E ->
  codeAny (model P w) A (.call (.ref f) args) (CR CX outer P w H s Q E) s
section
variable {X:Cx} {pins:List (Addr × Obj)} {σ:St} {H:Hp} {s s':Shared}
theorem Inv.env0 (I:Inv X pins σ H s):Env0 X.prog X.w X.K X.mg X.base X.A X.stack s H :=
 ⟨I.ok.frames,I.ok.mod,I.bs,Nat.le_trans I.ok.bsz I.sz,I.stack,I.stkFree,I.hok,I.bare⟩
theorem Inv.after {Q:VK} {u:Value} (I:Inv X pins σ H s) (h:CE X.stack X.prog X.w H s Q u s'):EP X pins σ Q u s':=by
 obtain ⟨v,H',os,bare,un,hok,r,q⟩:=h
 obtain ⟨hh,g,d,t,os'⟩:=s'
 obtain rfl:os'=s.os:=os
 exact ⟨v,H',I.call (h':=hh) (g':=g) (d':=d) (t':=t) (ch:=[]) un hok bare (fun b z=>absurd z (by simp)),r,q⟩
end
def HF (sp:Sp) (dvs:List V) (E:XK) (t:TA):TE:=fun σ H Q=>t σ H fun vs H1=>sp (vs++dvs) H1 Q E
def Binds (K:W.Frag) (fd:FuncData) (ps:List Str) (ds:List Value):Prop :=
 ∀ (s:Shared) (us:List Value),K.In s.heap->(us++ds).length=ps.length->BindsTo s fd ⟨us,[]⟩ (ps.zip (us++ds))
theorem Binds.all {K:W.Frag} {fd:FuncData} {ps:List Str} (h:∀ us:List Value,us.length=ps.length->bindArgs fd ⟨us,[]⟩=pure (ps.zip us)):Binds K fd ps []:=fun s us _ hl=>by
 rw [List.append_nil] at hl ⊢
 exact .of_eq (h us hl)
def FF (CX:CXT) (X:Cx) (E:XK):Prop:=∀ (pins:List (Addr × Obj)) (σ:St) (H:Hp) (s:Shared) (e:Value) (s':Shared),Inv X pins σ H s->CX X.stack H s E e s'->X.xe e s'
section
variable {X:Cx} {CX:CXT} {k:Nat} {f C:Addr} {fd:FuncData} {ps:List Str} {sp:Sp} {dvs:List V} {ds:List Value} {E:XK} {x m:Str} {p pos apos:Pos} {e o:Expr} {es:List Expr} {ta:TE} {t:TA}
theorem Mb {pins:List (Addr × Obj)} {σ:St} {H:Hp} {s:Shared} {Q:VK} {us:List Value} {vs:List V} (F:FnOk X.prog X.w X.K X.mg X.base CX k f fd ps sp) (hr:Room k X.A) (hb:Binds X.K fd ps ds) (hd:Vals dvs ds) (hx:FF CX X E)
 (I:Inv X pins σ H s) (r:Vals vs us) (h:sp (vs++dvs) H Q E):wpAny (model X.prog X.w) X.A (call (.ref f) us) (EP X pins σ Q) X.xe s:=by
 have r2:Vals (vs++dvs) (us++ds):=r.append hd
 have hl:(us++ds).length=ps.length:=by rw [<- r2.length];exact F.len _ _ _ _ h
 refine wpAny_call (codeAny_mono (F.run X.A X.stack s H ⟨us,[]⟩ (us++ds) (vs++dvs) Q E hr I.env0 (hb s us I.kIn hl) r2 h) fun r s' hq=>?_)
 cases r with
 | error e=>exact hx pins σ H s e s' I hq
 | ok fl =>
  cases fl with
  | ret u=>exact I.after hq
  | next=>exact False.elim hq
  | brk=>exact False.elim hq
  | cont=>exact False.elim hq
theorem AO (F:FnOk X.prog X.w X.K X.mg X.base CX k f fd ps sp) (hr:Room k X.A) (hg:Gl X x) (hm:X.mg x=some (.ref f)) (hk:PySem.W.keepIn X.K (.ref f)=true) (hb:Binds X.K fd ps ds) (hd:Vals dvs ds) (hx:FF CX X E)
 (ha:PA X (e::es) t) (hdb:(x == ("__debug__" : Str))=false:=by decide) (he:starEach (e::es) X.env=(false,eval e X.env)::starEach es X.env:=by rfl) (hpl:(backTo pos (starEach es X.env)).any (·.1)=false:=by rfl) :
 PE X (.Call (.Name x p) (e::es) [] pos) (HF sp dvs E t):=by
 intro pins s σ H Q I h
 refine wpAny_Call_Name_kw (Lw I hg hm ?_ hdb)
 refine PySem.W.callWith_K (h₀:=X.base) I.ok.mod.kin hk (thn (ha pos pins s σ H _ I h) fun us s1 ⟨vs,H1,I1,r,q⟩=>⟨I1.kIn,?_⟩) he hpl
 exact Mb F hr hb hd hx I1 r q
structure Mk (K:W.Frag) (C f:Addr):Prop where
 makes:PySem.W.makesIn K C=true
 init:PySem.W.findIn K (.ref C) "__init__" = some (some (.ref f))
 fn:PySem.W.isFn K (.ref f)=true
 kp:PySem.W.keepIn K (.ref C)=true
end
section
variable {X:Cx} {CX:CXT} {k:Nat} {f C:Addr} {fd:FuncData} {ps ks:List Str} {sp:Sp} {E:XK} {x m:Str} {p pos apos kpos:Pos} {e o:Expr} {es:List Expr} {kws:List Keyword} {te ta:TE} {t tk:TA} {nm:Option Str}
structure KBinds (K:W.Frag) (fd:FuncData) (ps ks:List Str) (g:List Value->List Value->List Value) (gV:List V->List V->List V):Prop where
 to:∀ (s:Shared) (us ws:List Value),K.In s.heap->(g us ws).length=ps.length->BindsTo s fd ⟨us,ks.zip ws⟩ (ps.zip (g us ws))
 rel:∀ {vs:List V} {us:List Value} {zs:List V} {ws:List Value},Vals vs us->Vals zs ws->Vals (gV vs zs) (g us ws)
variable {g:List Value->List Value->List Value} {gV:List V->List V->List V}
end
structure FnScope (N P:List Str) (sc:Scope):Prop where
 kind:sc.kind=.function
 co:sc.isCoroutine=false
 gen:sc.isGenerator=false
 nd:N.Nodup
 pre:N.take P.length=P
 par:∀ x∈P,sc.names.lookup x=some .local\/sc.names.lookup x=some .cell
 nofree:∀ y∈sc.names,y.2≠.free
theorem Gf {kindOf:Str->Option NameKind} {x:Str}:∀ {binds:List (Str × Value)} {m:Str->Option Value},(∀ v,(x,v)∉binds)->bindL kindOf binds m x=m x
 | [],_,_=>rfl
 | (n,v)::r,m,h=>by
  unfold bindL
  rw [Gf fun w hw=>h w (List.mem_cons_of_mem _ hw)]
  split
  ·have:x≠n:=by rintro rfl;exact h v List.mem_cons_self
   simp [this]
  ·rfl
theorem HK {kindOf:Str->Option NameKind} {x:Str}:∀ {binds:List (Str × Value)} {m:Str->Option Value},(∀ v,(x,v)∉binds)->bindC kindOf binds m x=m x
 | [],_,_=>rfl
 | (n,v)::r,m,h=>by
  unfold bindC
  rw [HK fun w hw=>h w (List.mem_cons_of_mem _ hw)]
  split
  ·rfl
  ·have:x≠n:=by rintro rfl;exact h v List.mem_cons_self
   simp [this]
theorem HP {kindOf:Str->Option NameKind} {x:Str} {v:Value}:∀ {P:List Str} {vs:List Value} {i:Nat} {m:Str->Option Value},P.Nodup->P[i]? = some x->vs[i]? = some v->kindOf x=some .local ->
 bindL kindOf (P.zip vs) m x=some v
 | [],_,_,_,_,h,_,_=>by simp at h
 | _::_,[],_,_,_,_,h,_=>by simp at h
 | p::P,w::vs,0,m,nd,h1,h2,hk=>by
  simp at h1 h2;subst h1;subst h2
  show bindL kindOf ((p,w)::P.zip vs) m p=_
  unfold bindL
  rw [Gf fun v hv=>(List.nodup_cons.mp nd).1 (List.of_mem_zip hv).1,if_pos hk]
  simp
 | p::P,w::vs,i+1,m,nd,h1,h2,hk=>by
  show bindL kindOf ((p,w)::P.zip vs) m x=_
  unfold bindL
  exact HP (i:=i) (List.nodup_cons.mp nd).2 (by simpa using h1) (by simpa using h2) hk
theorem Hz {kindOf:Str->Option NameKind} {x:Str} {v:Value}:∀ {P:List Str} {vs:List Value} {i:Nat} {m:Str->Option Value},P.Nodup->P[i]? = some x->vs[i]? = some v->kindOf x≠some .local ->
 bindC kindOf (P.zip vs) m x=some v
 | [],_,_,_,_,h,_,_=>by simp at h
 | _::_,[],_,_,_,_,h,_=>by simp at h
 | p::P,w::vs,0,m,nd,h1,h2,hk=>by
  simp at h1 h2;subst h1;subst h2
  show bindC kindOf ((p,w)::P.zip vs) m p=_
  unfold bindC
  rw [HK fun v hv=>(List.nodup_cons.mp nd).1 (List.of_mem_zip hv).1,if_neg hk]
  simp
 | p::P,w::vs,i+1,m,nd,h1,h2,hk=>by
  show bindC kindOf ((p,w)::P.zip vs) m x=_
  unfold bindC
  exact Hz (i:=i) (List.nodup_cons.mp nd).2 (by simpa using h1) (by simpa using h2) hk
def start (N:List Str) (vs:List V):St:=vs.map some++List.replicate (N.length - vs.length) none
def Cn (CX:CXT) (P:Program) (w:World) (K:W.Frag) (mg:Str->Option Value) (base:Heap) (N:List Str) (qual:Str) (scope:Scope) (f:Addr) (cd:Value) (A:Around) (outer:List Env) (s:Shared) (H:Hp) (E:XK):Cx where
 prog:=P
 w:=w
 K:=K
 mg:=mg
 base:=base
 A:=A.deeper (envOfC qual scope s.heap.objs.size f cd)
 N:=N
 s₀:=s
 H₀:=H
 env:=envOfC qual scope s.heap.objs.size f cd
 outer:=outer
 stack:=envOfC qual scope s.heap.objs.size f cd::outer
 ex:=[]
 calm:=true
 fn:=fun _=>true
 pn:=[]
 xe:=fun e s'=>wpAny (model P w) (A.deeper (envOfC qual scope s.heap.objs.size f cd)) (leaving (envOfC qual scope s.heap.objs.size f cd) e) (fun _ s''=>CX outer H s E e s'') (fun e' s''=>CX outer H s E e' s'') s'
theorem GZ {sc:Scope} {n:Nat} {x:Str} (h:sc.names.lookup x=some .cell):∃ c,(cellsFrom n sc.names []).lookup x=some c:=by
 have q:=PySem.W.cellsFrom_some sc.names n [] (.inl h)
 exact Option.isSome_iff_exists.mp q
theorem Nu {CX:CXT} {P:Program} {w:World} {K:W.Frag} {mg:Str->Option Value} {base:Heap} {N ps:List Str} {qual:Str} {scope:Scope} {f:Addr} {cd:Value} {A:Around} {outer:List Env} {s s1:Shared} {H:Hp} {E:XK} {us:List Value} {vs:List V}
 (S:FnScope N ps scope) (hd:A.handled=none) (e0:Env0 P w K mg base A outer s H) (hl:vs.length=ps.length) (r:Vals vs us)
 (x:InCallC s s.heap.objs.size (bindL (envOfC qual scope s.heap.objs.size f cd).kindOf (ps.zip us) fun _=>none) (cellsFrom (s.heap.objs.size+1) scope.names []) (bindC (envOfC qual scope s.heap.objs.size f cd).kindOf (ps.zip us) fun _=>none) s1) :
 Inv (Cn CX P w K mg base N qual scope f cd A outer s H E) [] (start N vs) H s1:=by
 have hpl:ps.length<=N.length:=by have:=congrArg List.length S.pre;rw [List.length_take] at this;lia
 obtain ⟨h1,tk,rfl,hk⟩:=x.done
 have noA:∀ b:Addr,b∉(Cn CX P w K mg base N qual scope f cd A outer s H E).ex:=fun b z=>absurd (show b∈([]:List Addr) from z) (by simp)
 refine ⟨⟨e0.mod,S.kind,rfl,rfl,Nat.le_refl _,fun y z c h1 h2=>?_,fun y hy=>?_,fun y c _ h=>?_,fun _=>hd,Around.frames_deeper e0.frames,.inr ⟨rfl,rfl⟩,fun b z=>absurd z (noA b),e0.bs,e0.bsz,fun b _ _=>noA b,fun b z=>absurd z (noA b),e0.funs,e0.frf⟩,
  rfl,e0.bare,Un.kept hk,⟨_,x.toInCall.ns,fun i y v h1 h2 h3=>?_⟩,fun y c h=>⟨_,x.cell y c h⟩,e0.hok.fresh (Nat.le_refl _),fun y c h=>?_,fun p hp=>absurd (show p∈([]:List (Addr × Obj)) from hp) (by simp),e0.hok.kept hk,?_⟩
 ·exact name_of_addr x.apart (PySem.mem_of_lookup h1) (PySem.mem_of_lookup h2)
 ·have hy:scope.names.lookup y=some .cell\/scope.names.lookup y=some .free:=hy
  rcases hy with hy | hy
  ·exact GZ hy
  ·exact absurd rfl (S.nofree _ (PySem.mem_of_lookup hy))
 ·exact Nat.le_of_lt (x.above y c (PySem.mem_of_lookup h))
 ·have hi:i < vs.length:=by
   unfold start at h2
   by_cases hi:i < vs.length
   ·exact hi
   ·rw [List.getElem?_append_right (by simpa using hi)] at h2
    rw [List.getElem?_replicate] at h2
    split at h2 <;> cases h2
  have ha:vs[i]? = some v:=by
   unfold start at h2
   rw [List.getElem?_append_left (by simpa using hi),List.getElem?_map] at h2
   cases e:vs[i]? with
   | none=>rw [e] at h2;cases h2
   | some a=>rw [e] at h2;cases h2;rfl
  obtain ⟨u,hu,rv⟩:=r.get ha
  have hp:ps[i]? = some y:=by
   rw [<- S.pre,List.getElem?_take_of_lt (by lia)];exact h1
  have ndP:ps.Nodup:=by rw [<- S.pre];exact S.nd.sublist (List.take_sublist _ _)
  refine ⟨u,rv,?_⟩
  rcases S.par y (List.mem_of_getElem? hp) with k | k
  ·exact .inl ⟨k,HP ndP hp hu k⟩
  ·obtain ⟨c,e⟩:=GZ (n:=s.heap.objs.size+1) k
   refine .inr ⟨.inl k,c,e,?_⟩
   have q:=x.cell y c e
   rw [Hz ndP hp hu (by show scope.names.lookup y≠_;rw [k];decide)] at q
   exact q
 ·exact e0.hok.fresh (Nat.le_of_lt (x.above y c (PySem.mem_of_lookup h)))
 ·unfold start
  show _=N.length
  rw [List.length_append,List.length_map,List.length_replicate]
  lia
theorem Lq {CX:CXT} {P:Program} {w:World} {K:W.Frag} {mg:Str->Option Value} {base:Heap} {k:Nat} {f:Addr} {name qual:Str} {params:Arguments} {body:List Stmt} {scope:Scope} {dV kV doc pm cdv ct oc:Value} {an od:Option Addr}
 {osl:Array (Option Value)} {N ps:List Str} {sp:Sp} (lk:K.lookup f=some ⟨oc,od,.func (PySem.W.fnOf name qual params body scope dV kV doc pm an cdv ct),osl⟩) (hcd:PySem.W.codeIn K cdv qual=true) (S:FnScope N ps scope)
 (len:∀ vs H Q E,sp vs H Q E->vs.length=ps.length)
 (hbody:∀ (A:Around) (outer:List Env) (s:Shared) (H:Hp) (vs:List V) (Q:VK) (E:XK),Room k (A.deeper (envOfC qual scope s.heap.objs.size f cdv))->sp vs H Q E ->
   ∃ t,PSs (Cn CX P w K mg base N qual scope f cdv A outer s H E) body t/\t { nx:=fun _ H'=>Q .non H',rt:=Q } (start N vs) H) :
 FnOk P w K mg base CX (k+1) f (PySem.W.fnOf name qual params body scope dV kV doc pm an cdv ct) ps sp:=by
 refine ⟨len,fun A outer s H args us vs Q E hr e0 hb r hsp=>?_⟩
 have hl:=len _ _ _ _ hsp
 have KX:K.In s.heap:=e0.mod.kin.keeps fun b o e=>(e0.bs b o e).1
 have lim:s.heap.NoLimit:=e0.mod.nolimit.keeps fun b o e=>(e0.bs b o e).1
 have hkind:∀ y∈ps.zip us,scope.names.lookup y.1=some .local\/(scope.names.lookup y.1=some .cell/\((cellsFrom (s.heap.objs.size+1) scope.names []).lookup y.1).isSome=true):=fun ⟨n,v⟩ hy=>by
  rcases S.par n (List.of_mem_zip hy).1 with q | q
  ·exact .inl q
  ·exact .inr ⟨q,PySem.W.cellsFrom_some _ _ _ (.inl q)⟩
 refine codeAny_call_function hr.depth (KX _ _ lk) rfl S.co S.gen rfl (PySem.W.codeRec_of KX hcd) (hb _ _ _ _ ?_)
 refine wpAny_newFunctionEnv_cells S.kind hkind fun env he s1 x=>?_
 subst he
 refine ⟨lim.keeps x.toInCall.keep,codeAny_func ?_⟩
 obtain ⟨t,ht,hq⟩:=hbody A outer s H vs Q E (hr.deeper _) hsp
 have I:Inv (Cn CX P w K mg base N qual scope f cdv A outer s H E) [] (start N vs) H s1:=Nu S hr.hd e0 hl r x
 refine wpAny_mono (ht [] s1 (start N vs) H _ I hq) (fun fl s' hs=>?_) fun e s' hs=>hs
 have fin:∀ {σ':St} {H':Hp} {v:V} {u:Value},Inv (Cn CX P w K mg base N qual scope f cdv A outer s H E) [] σ' H' s'->RelV v u->Q v H'->CE outer P w H s Q u s' :=
  fun {σ' H' v u} J rv q=>⟨v,H',J.os,J.bare,J.base,J.hok,rv,q⟩
 cases fl with
 | ret u =>
  obtain ⟨v,σ',H',J,rv,q⟩:=hs
  exact fin J rv q
 | next =>
  obtain ⟨σ',H',J,q⟩:=hs
  exact fin (v:=V.non) (u:=Value.none) J rfl q
 | brk =>
  obtain ⟨_,_,_,q⟩:=hs
  exact False.elim q
 | cont =>
  obtain ⟨_,_,_,q⟩:=hs
  exact False.elim q
section
variable {X:Cx} {x:Str} {p pos:Pos} {e:Expr} {es:List Expr} {t:TA} {id T:String} {r:List V->Hp->VK->Prop}
def tCB (r:List V->Hp->VK->Prop) (t:TA):TE:=fun σ H Q=>t σ H fun vs H1=>r vs H1 Q
theorem An (hc:CallR X (.builtin id) r) (hg:Gl X x) (hm:X.mg x=none) (hv:bootBuiltins x=some (.builtin id)) (ha:PA X (e::es) t) (hn:x ≠ "__name__":=by decide) (hdb:(x == ("__debug__" : Str))=false:=by decide)
 (he:starEach (e::es) X.env=(false,eval e X.env)::starEach es X.env:=by rfl) (hpl:(backTo pos (starEach es X.env)).any (·.1)=false:=by rfl):PE X (.Call (.Name x p) (e::es) [] pos) (tCB r t):=by
 intro pins s σ H Q I h
 refine wpAny_Call_Name_kw (Dd I hg hm hv ?_ hn hdb)
 exact PyProof.Rows.callWith_builtin1 (thn (ha pos pins s σ H _ I h) fun us s1 ⟨vs,H1,I1,r1,q1⟩=>hc pins s1 σ H1 vs us Q I1 r1 q1) he hpl
theorem DF (hc:CallR X (.type T) r) (hg:Gl X x) (hm:X.mg x=none) (hv:bootBuiltins x=some (.type T)) (ha:PA X (e::es) t) (hn:x ≠ "__name__":=by decide) (hdb:(x == ("__debug__" : Str))=false:=by decide)
 (he:starEach (e::es) X.env=(false,eval e X.env)::starEach es X.env:=by rfl) (hpl:(backTo pos (starEach es X.env)).any (·.1)=false:=by rfl):PE X (.Call (.Name x p) (e::es) [] pos) (tCB r t):=by
 intro pins s σ H Q I h
 refine wpAny_Call_Name_kw (Dd I hg hm hv ?_ hn hdb)
 exact PyProof.Rows.callWith_type1 (thn (ha pos pins s σ H _ I h) fun us s1 ⟨vs,H1,I1,r1,q1⟩=>hc pins s1 σ H1 vs us Q I1 r1 q1) he hpl
end
end L2
namespace HT
open PySem PyProof.Rows
section
open PySem.SeqAt
open PySem.AutoSeq1 (wpAny_loadPart')
open PySem.MeetsSeq PySem.MeetsSeq2 PySem.MeetsSeq3
end
section
variable {prog:Program} {w:World} {A:Around} {E:Value->Shared->Prop} {s:Shared}
theorem cat_tup {t b:Addr} {vs ws:List Value} {Q:Value->Shared->Prop} (ht:IsTup s.heap t vs.toArray) (hb:IsTup s.heap b ws.toArray) (hv:vs≠[])
 (h1:ws=[]->Q (.ref t) s) (h2:ws≠[]->Q (.ref s.heap.objs.size) { s with heap:=s.heap.push { cls:=.type "tuple",data:=.seq (vs++ws).toArray } })
 (hsz:vs.length+ws.length<=sizeLine):wpAny (model prog w) A (binaryOp .Add (.ref t) (.ref b)) Q E s:=by
 obtain ⟨⟨cls,dd,data,sl⟩,ho,hc,n,hd⟩:=id ht
 obtain ⟨⟨cls2,dd2,data2,sl2⟩,ho2,hc2,n2,hd2⟩:=id hb
 simp only at hc hd hc2 hd2
 subst hc hd hc2 hd2
 have e:vs.toArray++ws.toArray=(vs++ws).toArray:=by simp
 by_cases hw:ws=[]
 ·exact concat_meets ⟨_,ho,rfl⟩ ⟨_,ho2,rfl⟩ noFill_tuple_add seq_tuple_add PySem.F.slot_tuple_add PySem.F.entry_tuple_add (PySem.F.args_tuple_add_2 _ _)
   (tuple_addW1 t b vs.toArray ws.toArray n n2 dd dd2 sl sl2 (by simpa using hv) (by simp [hw])) ⟨ho,ho2,h1 hw⟩
 ·refine concat_meets ⟨_,ho,rfl⟩ ⟨_,ho2,rfl⟩ noFill_tuple_add seq_tuple_add PySem.F.slot_tuple_add PySem.F.entry_tuple_add (PySem.F.args_tuple_add_2 _ _)
   (tuple_addW2 t b vs.toArray ws.toArray n n2 dd dd2 sl sl2 (by simpa using hv) (by simpa using hw) (by rw [List.size_toArray,List.size_toArray];exact hsz)) ⟨ho,ho2,?_⟩
  rw [e]
  exact h2 hw
end
end HT
namespace L2
open PySem PySem.Spec PyProof.Rows
abbrev TO:=St->Hp->(Option Int->Hp->Prop)->Prop
theorem Nc {ns:List Int}:∀ {us:List Value},Vals (ns.map V.int) us->IntsAre us ns:=by
 induction ns with
 | nil=>intro us r;rw [List.map_nil] at r;cases r;exact .nil
 | cons n ns ih =>
  intro us r
  rw [List.map_cons] at r
  cases r with
  | cons r1 r2 =>
   obtain ⟨t,e⟩:=r1
   subst e
   exact .cons n t (ih r2)
section
variable {X:Cx} {e:Expr} {te:TE} {lo hi:Option Expr} {tl th:TO} {pos p2:Pos}
def Hm (K:W.Frag):R2:=fun x y H Q=>∃ a b xs ys,x=.ref a/\y=.ref b/\SqT K H a xs/\SqT K H b ys/\xs≠[]/\xs.length+ys.length<=sizeLine /\
 (ys=[]->Q (.ref a) H)/\(ys≠[]->∀ p,H p=none->Q (.ref p) (upd H p (.tup (xs++ys))))
theorem Vals.nil_iff {xs:List V} {us:List Value} (r:Vals xs us):us=[] ↔ xs=[]:=by
 cases r with
 | nil=>simp
 | cons _ _=>simp
theorem Mh:OpR X (binaryOp .Add) (Hm X.K):=by
 intro pins s σ H x y v u Q I rx ry h
 obtain ⟨a,b,xs,ys,rfl,rfl,ha,hb,hx,hz,q1,q2⟩:=h
 cases rx
 cases ry
 obtain ⟨its,r1,p1,_⟩:=I.tuple ha
 obtain ⟨its2,r2,p2,_⟩:=I.tuple hb
 refine HT.cat_tup p1 p2 (fun z=>hx (r1.nil_iff.mp z)) (fun z=>⟨.ref a,H,I,rfl,q1 (r2.nil_iff.mp z)⟩) (fun z=>?_) (by rw [<- r1.length,<- r2.length];exact hz)
 refine ⟨.ref s.heap.objs.size,_,I.laid (t':=s.toks) (o:=.tup (xs++ys)) (fun b ob q=>Heap.get?_push_of_some _ q) (Nat.le_refl _) ?_,rfl,q2 (fun w=>z (r2.nil_iff.mpr w)) _ (I.hok.fresh (Nat.le_refl _))⟩
 exact ⟨by rw [List.length_append];exact hz,_,r1.append r2,IsTupN.new _ _⟩
end
def ixN (n:Nat) (i:Int):Option Nat:=if 0<=i then (if i < n then some i.toNat else none) else if -(n:Int)<=i then some (i+n).toNat else none
def atI {α:Type} (xs:List α) (i:Int):Option α:=(ixN xs.length i).bind fun j=>xs[j]?
theorem G5 {n:Nat} {i:Int} {j:Nat} (h:ixN n i=some j):seqIndex? i n=some j/\j < n /\ -(n:Int)<=i/\i < n:=by
 unfold ixN at h
 by_cases h0:0<=i
 ·rw [if_pos h0] at h
  by_cases h1:i < n
  ·rw [if_pos h1] at h
   have e:i.toNat=j:=Option.some.inj h
   exact ⟨by rw [seqIndex_of h0 h1,e],by lia,by lia,h1⟩
  ·rw [if_neg h1] at h;cases h
 ·rw [if_neg h0] at h
  by_cases h1 : -(n:Int)<=i
  ·rw [if_pos h1] at h
   have e:(i+n).toNat=j:=Option.some.inj h
   exact ⟨by rw [seqIndex_neg (by lia) h1,e],by lia,h1,by lia⟩
  ·rw [if_neg h1] at h;cases h
theorem E9 {α:Type} {xs:List α} {i:Int} {v:α} (h:atI xs i=some v):∃ j,seqIndex? i xs.length=some j/\xs[j]? = some v/\j < xs.length /\ -(xs.length:Int)<=i/\i < xs.length:=by
 unfold atI at h
 cases e:ixN xs.length i with
 | none=>rw [e] at h;cases h
 | some j =>
  rw [e] at h
  obtain ⟨h1,h2,h3,h4⟩:=G5 e
  exact ⟨j,h1,h,h2,h3,h4⟩
def EX (b:Expr):Prop:=∀ o i,subscripted b false o i=operate [o,i] (getItem o i)
def IxR (X:Cx) (r:R2):Prop :=
 ∀ (value slice:Expr) (pins:List (Addr × Obj)) (s:Shared) (σ:St) (H:Hp) (x y:V) (v u:Value) (Q:VK),Inv X pins σ H s->RelV x v->RelV y u->r x y H Q ->
  subscripted slice false v u=operate [v,u] (getItem v u)->wpAny (model X.prog X.w) X.A (subscriptTail value slice v u) (EP X pins σ Q) X.xe s
def MtR (X:Cx) (id:String) (r:V->List V->Hp->VK->Prop):Prop :=
 ∀ (pins:List (Addr × Obj)) (s:Shared) (σ:St) (H:Hp) (x:V) (xs:List V) (v:Value) (us:List Value) (Q:VK),Inv X pins σ H s->RelV x v->Vals xs us->r x xs H Q ->
  wpAny (model X.prog X.w) X.A (call (.builtin id) (v::us)) (EP X pins σ Q) X.xe s
section
variable {X:Cx} {a b:Expr} {ta tb:TE} {pos:Pos}
theorem IxR.or {r r':R2} (h:IxR X r) (h':IxR X r'):IxR X (fun x y H Q=>r x y H Q\/r' x y H Q):=by
 intro value slice pins s σ H x y v u Q I rx ry q hs
 rcases q with q | q
 ·exact h value slice pins s σ H x y v u Q I rx ry q hs
 ·exact h' value slice pins s σ H x y v u Q I rx ry q hs
theorem NP {r:R2} (hr:IxR X r) (ha:PE X a ta) (hb:PE X b tb) (hs:EX b):PE X (.Subscript a b pos) (tOp r ta tb):=by
 intro pins s σ H Q I h
 exact Subscript_ (Ey ha hb I h fun v u s2 x y H2 I2 rx ry q=>hr a b pins s2 σ H2 x y v u Q I2 rx ry q (hs _ _))
def Ip (K:W.Frag):R2:=fun x y H Q=>∃ p xs i v,x=.ref p/\y=.int i/\SqL K H p xs/\atI xs i=some v/\Q v H
def Ho (K:W.Frag):R2:=fun x y H Q=>∃ p xs i v,x=.ref p/\y=.int i/\SqT K H p xs/\atI xs i=some v/\Q v H
def HM:R2:=fun x y H Q=>∃ z i c,x=.str z/\y=.int i/\z.length<=sizeLine/\atI z.cps.toList i=some c/\Q (.str ⟨#[c]⟩) H
theorem ix_list:IxR X (Ip X.K):=by
 intro value slice pins s σ H x y v u Q I rx ry h hs
 obtain ⟨p,xs,i,z,rfl,rfl,hq,he,q⟩:=h
 cases rx
 obtain ⟨t,rfl⟩:=ry
 obtain ⟨its,r,pl,hz⟩:=I.list hq
 obtain ⟨j,h1,h2,h3,h4,h5⟩:=E9 he
 obtain ⟨w,ew,rw'⟩:=r.get h2
 have hl:=r.length
 have hn:=DO
 have fin:EP X pins σ Q w s:=⟨z,H,I,rw',q⟩
 by_cases h0:0<=i
 ·have hj:i.toNat=j:=by
   rw [seqIndex_of h0 h5] at h1
   exact Option.some.inj h1
  exact item_listR pl.isList h0 (by lia) (by rw [hj];simpa using ew) fin hs
 ·have hj:(i+(its.toArray.size:Int)).toNat=j:=by
   rw [seqIndex_neg (by lia) h4] at h1
   rw [List.size_toArray,<- hl]
   exact Option.some.inj h1
  exact subscriptTail_builtinR (x:=w) pl.isList.typeIs slot_list_getitem.lookup
   (wpAny_getItem_list_neg (Q:=fun r s'=>r=w/\EP X pins σ Q r s') pl.isList (by lia) (by rw [List.size_toArray] <;> lia) (by lia) (by rw [hj];simpa using ew) ⟨rfl,fin⟩) hs
theorem ix_tup:IxR X (Ho X.K):=by
 intro value slice pins s σ H x y v u Q I rx ry h hs
 obtain ⟨p,xs,i,z,rfl,rfl,hq,he,q⟩:=h
 cases rx
 obtain ⟨t,rfl⟩:=ry
 obtain ⟨its,r,pl,hz⟩:=I.tuple hq
 obtain ⟨j,h1,h2,h3,h4,h5⟩:=E9 he
 obtain ⟨w,ew,rw'⟩:=r.get h2
 have hl:=r.length
 have hn:=DO
 have fin:EP X pins σ Q w s:=⟨z,H,I,rw',q⟩
 exact subscriptTail_builtinR (x:=w) pl.typeIs slot_tuple_getitem.lookup
  (getItem_tuple (j:=j) (Q:=fun r s'=>r=w/\EP X pins σ Q r s') pl (by lia) (by lia) (by rw [List.size_toArray,<- hl];exact h1) (by simpa using ew) ⟨rfl,fin⟩) hs
theorem M8:IxR X HM:=by
 intro value slice pins s σ H x y v u Q I rx ry h hs
 obtain ⟨z,i,c,rfl,rfl,hz,he,q⟩:=h
 obtain ⟨t,rfl⟩:=rx
 obtain ⟨t',rfl⟩:=ry
 obtain ⟨j,h1,h2,h3,h4,h5⟩:=E9 he
 have hl:z.cps.toList.length=z.length:=by simp [Str.length]
 rw [hl] at h1 h4 h5
 have hn:=DO
 exact tail_any (typeIs_str s z t) slot_str_getitem.lookup (getItem_str (c:=c) (by
  have e1:decide (i < -(2 ^ 63:Int))=false:=decide_eq_false (by lia)
  have e2:decide (i ≥ 2 ^ 63)=false:=decide_eq_false (by lia)
  rw [e1,e2,Bool.or_false]) (by rw [h1];simpa using h2) ⟨.str ⟨#[c]⟩,H,I.tok _,⟨_,rfl⟩,q⟩) hs
def rIx (K:W.Frag):R2:=fun x y H Q=>Ip K x y H Q\/Ho K x y H Q\/HM x y H Q
theorem ix_seq:IxR X (rIx X.K):=ix_list.or (ix_tup.or M8)
theorem Nz (its:List Value) (n j:Nat) (u:Value):Obj.mapSeq (·.setIfInBounds j u) { cls:=.type "list",data:=.seq its.toArray n } = { cls:=.type "list",data:=.seq (its.set j u).toArray n }:=by
 simp [Obj.mapSeq]
theorem Inv.lst {pins:List (Addr × Obj)} {σ:St} {H:Hp} {s:Shared} {p:Addr} {xs:List V} (I:Inv X pins σ H s) (h:H p=some (.lst xs)) :
 ∃ (its:List Value) (n:Nat),Vals xs its/\s.heap.get? p=some { cls:=.type "list",data:=.seq its.toArray n } /\ xs.length<=sizeLine:=by
 obtain ⟨z,its,n,r,e⟩:=I.hok p _ h
 exact ⟨its,n,r,e,z⟩
theorem Inv.lstUpd {pins:List (Addr × Obj)} {σ:St} {H:Hp} {s:Shared} {p:Addr} {xs ys:List V} {its its':List Value} {n n':Nat} {f:Obj->Obj} (I:Inv X pins σ H s) (h:H p=some (.lst xs))
 (ho:s.heap.get? p=some { cls:=.type "list",data:=.seq its.toArray n }) (hf:f { cls:=.type "list",data:=.seq its.toArray n } = { cls:=.type "list",data:=.seq its'.toArray n' }) (r:Vals ys its') (hz:ys.length<=sizeLine) (t:Nat) :
 Inv X pins σ (upd H p (.lst ys)) { s with heap:=s.heap.update p f,toks:=t }:=by
 have e:(s.heap.update p f).get? p=some { cls:=.type "list",data:=.seq its'.toArray n' }:=by
  rw [Heap.get?_update_self f ho (by rw [hf] <;> rfl),hf]
 refine I.write (x:=p) (e:=p) (by rw [h];trivial) (.inl rfl) (fun b u hb q=>(Heap.get?_update_other _ _ (Ne.symm hb)).trans q) ⟨_,e⟩ ?_
 exact ⟨hz,its',n',r,e⟩
def Ln:V->V->V->Hp->(Hp->Prop)->Prop:=fun o i v H Q=>∃ p xs k j,o=.ref p/\i=.int k/\H p=some (.lst xs)/\ixN xs.length k=some j/\Q (upd H p (.lst (xs.set j v)))
theorem JY:FR X Ln:=by
 intro pins s σ H o i v ov iv u Q I ro ri rv h
 obtain ⟨p,xs,k,j,rfl,rfl,hp,hj,q⟩:=h
 cases ro
 obtain ⟨t,rfl⟩:=ri
 obtain ⟨its,n,r,ho,hz⟩:=I.lst hp
 obtain ⟨h1,h2,h3,h4⟩:=G5 hj
 have hl:=r.length
 have hn:=DO
 have I':Inv X pins σ (upd H p (.lst (xs.set j v))) { s with heap:=s.heap.update p (Obj.mapSeq (·.setIfInBounds j u)) } :=
  I.lstUpd hp ho (Nz its n j u) (r.set rv j) (by rw [List.length_set];exact hz) s.toks
 by_cases h0:0<=k
 ·have hk:k.toNat=j:=by
   rw [seqIndex_of h0 h4] at h1
   exact Option.some.inj h1
  exact PySem.W.ki_setAt ho h0 (by lia) (by rw [List.size_toArray,<- hl];exact h4) (by rw [hk];exact ⟨_,I',q⟩)
 ·have hk:(k+(its.toArray.size:Int)).toNat=j:=by
   rw [seqIndex_neg (by lia) h3] at h1
   rw [List.size_toArray,<- hl]
   exact Option.some.inj h1
  exact PySem.W.ki_setBack ho (by lia) (by rw [List.size_toArray,<- hl];exact h3) (by lia) (by rw [hk];exact ⟨_,I',q⟩)
def BW:V->Bool
 | .non=>true
 | .bl _=>true
 | .int _=>true
 | .str _=>true
 | _=>false
def eqV:V->V->Bool
 | .non,.non=>true
 | .bl a,.bl b=>a == b
 | .bl a,.int b=>(if a then 1 else 0) == b
 | .int a,.bl b=>a == (if b then 1 else 0)
 | .int a,.int b=>a == b
 | .str a,.str b=>a == b
 | _,_=>false
theorem Ny {A:Around} {s:Shared} {y x:V} {u v:Value} (ry:RelV y u) (rx:RelV x v) (fy:BW y=true) (fx:BW x=true):SeqAt.EqAt A s u v (eqV y x):=by
 cases y with
 | non =>
  cases ry
  cases x with
  | non=>cases rx;exact SeqAt.EqAt.same _
  | bl b=>cases rx;exact SeqAt.EqAt.none_bool b
  | int b=>obtain ⟨t,rfl⟩:=rx;exact SeqAt.EqAt.none_int b t
  | str b=>obtain ⟨t,rfl⟩:=rx;exact SeqAt.EqAt.none_str b t
  | _=>exact absurd (show false=true from fx) Bool.false_ne_true
 | bl a =>
  cases ry
  cases x with
  | non=>cases rx;exact SeqAt.EqAt.bool_none a
  | bl b=>cases rx;exact SeqAt.EqAt.bool_bool a b
  | int b=>obtain ⟨t,rfl⟩:=rx;exact SeqAt.EqAt.bool_int a b t
  | str b=>obtain ⟨t,rfl⟩:=rx;exact SeqAt.EqAt.bool_str a b t
  | _=>exact absurd (show false=true from fx) Bool.false_ne_true
 | int a =>
  obtain ⟨t',rfl⟩:=ry
  cases x with
  | non=>cases rx;exact SeqAt.EqAt.int_none a t'
  | bl b=>cases rx;exact SeqAt.EqAt.int_bool a t' b
  | int b=>obtain ⟨t,rfl⟩:=rx;exact SeqAt.EqAt.int_int a t' b t
  | str b=>obtain ⟨t,rfl⟩:=rx;exact SeqAt.EqAt.int_str a t' b t
  | _=>exact absurd (show false=true from fx) Bool.false_ne_true
 | str a =>
  obtain ⟨t',rfl⟩:=ry
  cases x with
  | non=>cases rx;exact SeqAt.EqAt.str_none a t'
  | bl b=>cases rx;exact SeqAt.EqAt.str_bool a t' b
  | int b=>obtain ⟨t,rfl⟩:=rx;exact SeqAt.EqAt.str_int a t' b t
  | str b=>obtain ⟨t,rfl⟩:=rx;exact SeqAt.EqAt.str_str a t' b t
  | _=>exact absurd (show false=true from fx) Bool.false_ne_true
 | _=>exact absurd (show false=true from fy) Bool.false_ne_true
def eqU (x:V) (u:Value):Bool:=match u with
 | .none=>eqV .non x
 | .bool b=>eqV (.bl b) x
 | .int i _=>eqV (.int i) x
 | .str z _=>eqV (.str z) x
 | _=>false
theorem IK {x y:V} {u:Value} (r:RelV y u) (f:BW y=true):eqU x u=eqV y x:=by
 cases y with
 | non=>cases r;rfl
 | bl b=>cases r;rfl
 | int i=>obtain ⟨t,rfl⟩:=r;rfl
 | str z=>obtain ⟨t,rfl⟩:=r;rfl
 | _=>exact absurd (show false=true from f) Bool.false_ne_true
theorem FW {x:V}:∀ {xs:List V} {us:List Value},Vals xs us->xs.all BW=true->us.any (eqU x)=xs.any fun y=>eqV y x
 | _,_,.nil,_=>rfl
 | y::xs,u::us,.cons r t,f=>by
  rw [List.all_cons,Bool.and_eq_true] at f
  rw [List.any_cons,List.any_cons,IK r f.1,FW t f.2]
theorem GG {A:Around} {s:Shared} {x:V} {v:Value} (rx:RelV x v) (fx:BW x=true):∀ {xs:List V} {us:List Value},Vals xs us->xs.all BW=true->∀ u∈us,SeqAt.EqAt A s u v (eqU x u)
 | _,_,.nil,_=>fun u hu=>by cases hu
 | y::xs,u::us,.cons r t,f=>fun u' hu=>by
  rw [List.all_cons,Bool.and_eq_true] at f
  rcases List.mem_cons.mp hu with rfl | hu
  ·rw [IK r f.1];exact Ny r rx f.1 fx
  ·exact GG rx fx t f.2 u' hu
def inV (x:V) (xs:List V):Bool:=xs.any fun y=>eqV y x
def rIn (K:W.Frag) (neg:Bool):R2:=fun x y H Q=>∃ p xs,y=.ref p/\(SqL K H p xs\/SqT K H p xs)/\BW x=true/\xs.all BW=true/\Q (.bl (if neg then !inV x xs else inV x xs)) H
theorem K5:OpR X (compareOp .In) (rIn X.K false):=by
 intro pins s σ H x y v u Q I rx ry h
 obtain ⟨p,xs,rfl,hq,fx,fs,q⟩:=h
 cases ry
 rcases hq with hq | hq
 ·obtain ⟨its,r,pl,hz⟩:=I.list hq
  refine SeqAt.in_listAt (eqU x) pl.isList (fun w hw=>GG rx fx r fs w (by simpa using hw)) ⟨.bl _,H,I,rfl,?_⟩
  rw [show its.toArray.any (eqU x)=its.any (eqU x) by simp,FW r fs]
  exact q
 ·obtain ⟨its,r,pl,hz⟩:=I.tuple hq
  refine SeqAt.in_tupleAt (eqU x) pl (fun w hw=>GG rx fx r fs w (by simpa using hw)) ⟨.bl _,H,I,rfl,?_⟩
  rw [show its.toArray.any (eqU x)=its.any (eqU x) by simp,FW r fs]
  exact q
theorem call_tuple_of:CallR X (.type "tuple") (fun xs H Q=>∃ p ys,xs=[.ref p]/\((SqL X.K H p ys/\∀ l,H l=none->Q (.ref l) (upd H l (.tup ys)))\/(SqT X.K H p ys/\Q (.ref p) H))):=by
 intro pins s σ H xs us Q I r h
 obtain ⟨p,ys,rfl,h⟩:=h
 obtain ⟨u,rfl,rx⟩:=B9 r
 cases rx
 rcases h with ⟨hq,q⟩ | ⟨hq,q⟩
 ·obtain ⟨its,r',pl,hz⟩:=I.list hq
  have hlen:=r'.length
  refine call_tuple_list pl.isList (fun h' kp=>?_) (by simp only [List.size_toArray] <;> lia)
  have I1:Inv X pins σ H { s with heap:=h' }:=I.kept (t':=s.toks) kp
  have I2:Inv X pins σ (upd H h'.objs.size (.tup ys)) { s with heap:=h'.push { cls:=.type "tuple",data:=.seq its.toArray } } :=
   I1.laid (t':=s.toks) (fun b o e=>Heap.get?_push_of_some _ e) (Nat.le_refl _) (show ObjOk X.prog X.w _ _ _ (.tup ys) from ⟨hz,its,r',IsTupN.new _ _⟩)
  exact ⟨.ref h'.objs.size,_,I2,rfl,q _ (I1.hok.fresh (Nat.le_refl _))⟩
 ·obtain ⟨its,r',pl,hz⟩:=I.tuple hq
  exact call_tuple_same pl ⟨.ref p,H,I,rfl,q⟩
def tyV (K:W.Frag) (T:String) (x:V) (H:Hp):Prop:=match x with
 | .str _=>T = "str"
 | .int _=>T = "int"
 | .ref p=>(T = "list" /\ ∃ xs,SqL K H p xs)\/(T = "tuple" /\ ∃ o,K.lookup p=some o/\o.cls=.type "tuple" /\ o.dict=none) \/
  (T = "dict" /\ ((∃ kvs,H p=some (.dK kvs))\/∃ kvs,H p=some (.dT kvs)))\/(T = "set" /\ ∃ S n,H p=some (.set S n))
 | _=>False
theorem Kd {pins:List (Addr × Obj)} {σ:St} {H:Hp} {s:Shared} {T:String} {x:V} {v:Value} (I:Inv X pins σ H s) (r:RelV x v) (ty:tyV X.K T x H) :
 s.TypeIs v T/\∀ a,v=.ref a->∃ ob,s.heap.get? a=some ob/\ob.dict=none:=by
 cases x with
 | str z =>
  obtain ⟨t,rfl⟩:=r
  cases (show T = "str" from ty)
  exact ⟨typeIs_str s z t,fun _ e=>nomatch e⟩
 | int i =>
  obtain ⟨t,rfl⟩:=r
  cases (show T = "int" from ty)
  exact ⟨typeIs_int s i t,fun _ e=>nomatch e⟩
 | ref p =>
  cases r
  rcases ty with ⟨rfl,xs,hq⟩ | ⟨rfl,o,hk,hc,hd⟩ | ⟨rfl,hk⟩ | ⟨rfl,S,n,hk⟩
  ·obtain ⟨its,_,pl,_⟩:=I.list hq
   refine ⟨pl.isList.typeIs,fun a e=>?_⟩
   cases e
   obtain ⟨o,n,e,c,hd,_⟩:=pl
   exact ⟨o,e,hd⟩
  ·refine ⟨⟨o,I.kIn p o hk,hc⟩,fun a e=>?_⟩
   cases e
   exact ⟨o,I.kIn _ o hk,hd⟩
  ·have z:∃ o,s.heap.get? p=some o/\o.ExactDict:=by
    rcases hk with ⟨kvs,hk⟩ | ⟨kvs,hk⟩
    ·obtain ⟨_,_,_,_,o,_,_,e,ex,_⟩:=I.hok p _ hk
     exact ⟨o,e,ex⟩
    ·obtain ⟨_,_,_,_,o,_,_,e,ex,_⟩:=I.hok p _ hk
     exact ⟨o,e,ex⟩
   obtain ⟨o,e,ex⟩:=z
   refine ⟨⟨o,e,ex.1⟩,fun a e2=>?_⟩
   cases e2
   exact ⟨o,e,ex.2.1⟩
  ·obtain ⟨o,_,_,_,e,ex,_⟩:=I.hok p _ hk
   refine ⟨⟨o,e,ex.1⟩,fun a e2=>?_⟩
   cases e2
   exact ⟨o,e,ex.2.1⟩
 | _=>exact False.elim ty
def IG (K:W.Frag) (T:String) (r:V->List V->Hp->VK->Prop) (to:TE):TE:=fun σ H Q=>to σ H fun x H1=>tyV K T x H1/\r x [] H1 Q
variable {o e:Expr} {es:List Expr} {to:TE} {t:TA} {name:Str} {apos cpos:Pos} {T id:String} {r:V->List V->Hp->VK->Prop}
theorem Mq (pa:PlainAttrs T) (slot:Slot T name id) (hty:typeOf (.builtin id)=pure (.type "method_descriptor")) (hm:MtR X id r) (ho:PE X o to)
 (hbase:attributeBase o name X.env (eval o X.env)=eval o X.env:=by rfl) (hline:(apos.endLine == cpos.line)=true:=by rfl):PE X (.Call (.Attribute o name apos) [] [] cpos) (IG X.K T r to):=by
 intro pins s σ H Q I h
 refine wpAny_Call_method0_late hbase hline (thn (ho pins s σ H _ I h) fun v s1 ⟨x,H1,I1,r1,ty,q1⟩=>?_)
 obtain ⟨h1,h2⟩:=Kd I1 r1 ty
 exact ⟨T,id,pa,slot,hty,h1,h2,Calls.callWith_builtin rfl (PySem.evalArgs_none (hm pins s1 σ H1 x [] v [] Q I1 r1 .nil q1))⟩
end
theorem Vals.zero:∀ {us:List Value},Vals [] us->us=[]
 | _,.nil=>rfl
theorem Vals.rep {xs:List V} {us:List Value} (h:Vals xs us):∀ k:Nat,Vals (List.replicate k xs).flatten (List.replicate k us).flatten
 | 0=>.nil
 | k+1=>by
  rw [List.replicate_succ,List.replicate_succ,List.flatten_cons,List.flatten_cons]
  exact Vals.append h (Vals.rep h k)
theorem Go (its:List Value):∀ (k:Nat) (acc:List Value),
 List.foldl (fun x1 x2=>x1++x2) acc.toArray (List.replicate k its.toArray)=(acc++(List.replicate k its).flatten).toArray
 | 0,acc=>by simp
 | k+1,acc=>by
  have e:acc.toArray++its.toArray=(acc++its).toArray:=by simp
  have e2:(acc++its)++(List.replicate k its).flatten=acc++(List.replicate (k+1) its).flatten:=by
   rw [List.replicate_succ,List.flatten_cons,List.append_assoc]
  rw [<- e2,<- Go its k (acc++its),<- e,List.replicate_succ,List.foldl_cons]
section
variable {X:Cx} {pins:List (Addr × Obj)} {σ:St} {H:Hp} {s:Shared} {l b:Addr} {xs ys zs:List V}
theorem Inv.lnew {its:List Value} {t':Nat} (I:Inv X pins σ H s) (hv:Vals ys its) (hz:ys.length<=sizeLine) :
 Inv X pins σ (upd H s.heap.objs.size (.lst ys)) { s with heap:=s.heap.push { cls:=.type "list",data:=.seq its.toArray },toks:=t' } :=
 I.laid (fun _ _ q=>Heap.get?_push_of_some _ q) (Nat.le_refl _) ⟨hz,its,0,hv,Heap.get?_push_size _ rfl⟩
theorem Inv.fresh (I:Inv X pins σ H s):H s.heap.objs.size=none:=I.hok.fresh (Nat.le_refl _)
theorem Inv.lstM (I:Inv X pins σ H s) (hH:H l=some (.lst xs)):xs.length<=sizeLine/\∃ (its:List Value) (n:Nat),Vals xs its/\xs.length=its.length/\s.heap.get? l=some { cls:=.type "list",data:=.seq its.toArray n }:=by
 obtain ⟨z,its,n,r,e⟩:=I.hok l _ hH
 exact ⟨z,its,n,r,r.length,e⟩
theorem Kq {n:Nat} (h:n<=sizeLine):Builtin.List.listTooLong n=false:=by
 unfold Builtin.List.listTooLong
 exact decide_eq_false (by lia)
end
section
variable {X:Cx}
def G0:R2:=fun x y H Q=>∃ l b xs zs,x=.ref l/\y=.ref b/\H l=some (.lst xs)/\H b=some (.lst zs)/\xs.length+zs.length<=sizeLine/\∀ p,H p=none->Q (.ref p) (upd H p (.lst (xs++zs)))
theorem M3:OpR X (binaryOp .Add) G0:=by
 intro pins s σ H x y v u Q I rx ry h
 obtain ⟨l,b,xs,zs,rfl,rfl,hH,hB,hz,q⟩:=h
 cases rx
 cases ry
 obtain ⟨z,its,n,r,hl,e⟩:=I.lstM hH
 obtain ⟨z2,its2,n2,r2,hl2,e2⟩:=I.lstM hB
 refine PySem.P.add_list e e2 ?_ (by rw [List.size_toArray,List.size_toArray];lia)
 have ea:its.toArray++its2.toArray=(its++its2).toArray:=by simp
 rw [ea]
 exact ⟨.ref _,_,I.lnew (t':=s.toks) (r.append r2) (by rw [List.length_append];lia),rfl,q _ I.fresh⟩
def Is:R2:=fun x y H Q=>∃ l k xs,x=.ref l/\y=.int k/\H l=some (.lst xs) /\ -(2 ^ 63)<=k/\k < 2 ^ 63/\xs.length * k.toNat<=sizeLine /\
 ∀ p,H p=none->Q (.ref p) (upd H p (.lst (List.replicate k.toNat xs).flatten))
theorem OF {α:Type} (xs:List α) (k:Nat):(List.replicate k xs).flatten.length=k * xs.length:=by
 induction k with
 | zero=>simp
 | succ k ih=>rw [List.replicate_succ,List.flatten_cons,List.length_append,ih,Nat.succ_mul,Nat.add_comm]
theorem NF:OpR X (binaryOp .Mult) Is:=by
 intro pins s σ H x y v u Q I rx ry h
 obtain ⟨l,k,xs,rfl,rfl,hH,h1,h2,hz,q⟩:=h
 cases rx
 obtain ⟨t,rfl⟩:=ry
 obtain ⟨z,its,n,r,hl,e⟩:=I.lstM hH
 have hlen:its.toArray.size * k.toNat<=sizeLine:=by rw [List.size_toArray,<- hl];exact hz
 have hcap:¬ its.toArray.size * k.toNat > (2 ^ 63 - 1) / 8:=by
  have:(sizeLine:Nat)<=(2 ^ 63 - 1) / 8:=by decide
  lia
 have hfit:¬ (!Builtin.List.listFitsIndex k)=true:=by
  rw [fitsIndex_both h1 h2]
  exact Bool.false_ne_true
 have hlong:¬ Builtin.List.listTooLong (its.toArray.size * k.toNat)=true:=by
  rw [Kq hlen]
  exact Bool.false_ne_true
 have hnew:List.foldl (fun x1 x2=>x1++x2) #[] (List.replicate (if its.toArray.isEmpty=true then 0 else k.toNat) its.toArray)=(List.replicate k.toNat its).flatten.toArray:=by
  have f0:∀ m:Nat,List.foldl (fun x1 x2=>x1++x2) #[] (List.replicate m its.toArray)=(List.replicate m its).flatten.toArray:=fun m=>by
   have:=Go its m []
   rw [List.nil_append] at this
   exact this
  rw [f0]
  cases its with
  | nil=>simp
  | cons a r'=>rw [if_neg (by simp)]
 refine wpAny_binaryOp_repeat_ref (T:="list") (U:="int") (by decide) ⟨_,e,rfl⟩ (fun s'=>typeIs_int s' k t) noFill_list_mul F.fills_int_mul F.slot_int_rmul repeat_list F.slot_int_index.lookup
  (call_meets F.slot_int_rmul (typeIs_int s k t) F.entry_int_rmul (F.args_int_rmul_2 _ _) (int___rmul___int_list k t l its.toArray n)
    ⟨e,rfl,⟨_,e,rfl⟩,call_meets F.slot_list_mul ⟨_,e,rfl⟩ F.entry_list_mul (F.args_list_mul_2 _ _) (AutoListH.list___mul___list_int_3 l its.toArray n k t hfit hcap hlong) ⟨e,?_⟩⟩)
 rw [hnew]
 exact ⟨.ref _,_,I.lnew (t':=s.toks) (r.rep k.toNat) (by rw [OF,Nat.mul_comm];exact hz),rfl,q _ I.fresh⟩
end
section
variable {prog:Program} {w:World} {A:Around} {E:Value->Shared->Prop} {s:Shared}
end
section
variable {X:Cx}
end
end L2
namespace Att
open PySem PySem.W PySem.Calls PyProof.Rows
theorem I0 {P:Params} {h:Heap}:∀ (ns:List Int) (vs:List Value),WellAll P h vs (ns.map WData.int)->IntsAre vs ns:=by
 intro ns
 induction ns with
 | nil =>
  intro vs w
  rw [List.map_nil] at w
  cases w
  exact .nil
 | cons n ns ih =>
  intro vs w
  rw [List.map_cons] at w
  cases w with
  | cons a b =>
   cases a
   exact .cons _ _ (ih _ b)
theorem MX {l:OpenLaw} {n:Nat} (hn:l.most=some n) {P:Params} {h:Heap} {args:List WData} {vals:List Value}
 (hpre:l.row.toRowW.claim.pre args=true) (hwl:WellAll P h vals args) :
 ∃ a vs ns,vals=[Value.ref a]/\args=[WData.list (ns.map WData.int)]/\h.get? a=some { cls:=.type "list",data:=.seq vs.toArray } /\ IntsAre vs ns/\ns.length<=n:=by
 have hsh:WShape.hasAll [] args [.list .int]=true:=(pre_splitW hpre).1
 have hc:l.pre.holds [] { args:=args } = true:=(pre_splitW hpre).2
 obtain ⟨d,r,rfl,h1,h2⟩:=hasAllW_cons hsh
 obtain rfl:=hasAllW_nil h2
 obtain ⟨xs,rfl,h3⟩:=hasW_list h1
 obtain ⟨ns,rfl⟩:=items_int h3
 have hlen:ns.length<=n:=by
  unfold OpenLaw.pre at hc
  have h4:(WTm.not (.lt (.lit (.int (n:Int))) (.len (.arg 0)))).holds [] { args:=[.list (ns.map .int)] } = true:=by
   have h4:=(holds_andW hc).1
   rw [hn] at h4
   exact h4
  have h5:=condW_of h4 (w_not (w_lt w_lit (w_len_list (w_arg rfl))))
  rw [List.length_map] at h5
  refine Nat.le_of_not_lt fun q=>?_
  have q':(n:Int) < ((ns.length:Nat):Int):=by lia
  first
   | (rw [decide_eq_true q'] at h5;exact absurd h5 (by decide))
   | (simp at h5;lia)
 cases hwl with
 | cons w1 w2 =>
  cases w2
  cases w1 with
  | list ho hall=>exact ⟨_,_,ns,rfl,rfl,ho,I0 ns _ hall,hlen⟩
theorem NS (l:OpenLaw) (args:List WData):l.row.toRowW.claim.post args (.bool true) args=true :=
 postW_of (r:=l.row.toRowW) (X:=(true == true))
  (show WShape.has [] (.bool true) .bool=true by first | rfl | decide | simp [WShape.has,WShape.arms,WShape.armsAll])
  (show (WTm.eq .res (.lit (.bool true))).value [] { args:=args,res:=some (.bool true),after:=args } = some (.bool (true == true)) from w_eq_bool (w_res rfl) w_lit) rfl
theorem attach_call {l:OpenLaw} {n:Nat} {q:Program} {loose:List Str} {XP:(Str->Option Value)->Heap->Prop} {YP:World->Heap->Prop} {d:DefRec}
 (hn:l.most=some n) (hdf:d.params.defaults=[])
 (call:∀ (w:World) (s₀ s₁:Shared) (mg mb:Str->Option Value) (fa:Addr) (o:Obj) (pm cd doc:Value) (a:Addr) (vs:List Value) (ns:List Int),
   Ground q loose [] XP w s₀ mg mb s₁.heap->YP w s₁.heap ->
   s₁.heap.get? fa=some o->o.data=.func (docDef d.name d.params d.body d.scope pm cd doc)->s₁.heap.CodeRec cd d.name->mg d.name=some (.ref fa) ->
   s₁.heap.get? a=some { cls:=.type "list",data:=.seq vs.toArray } -> IntsAre vs ns->ns.length<=n->s₁.gens = #[] ->
   codeAny (model l.prog w) callerA (.call (.ref fa) ⟨[.ref a],[]⟩) (fun r s'=>r=.ok (.ret (.bool true))/\OldK s₁.heap s'.heap/\s'.os=s₁.os/\AllBare s'.gens) s₁) :
 WalkO q loose XP YP l.row.toRowW d [] (fun f vs=>PySem.call f vs):=by
 intro w s₀ s₁ mg mb G Y fa o pm cd doc dV kV ho hd hcd hD hmg hg args vals as hpre hlay hrd hwl hlo
 obtain rfl:dV=.none:=Dflts.none hD hdf
 obtain rfl:kV=.none:=Dflts.noKw hD
 obtain ⟨a,vs,ns,rfl,rfl,hobj,hints,hlen⟩:=MX hn hpre hwl
 refine enter_call (codeAny_mono (call w s₀ s₁ mg mb fa o pm cd doc a vs ns G Y ho (fd_plain hd) hcd hmg hobj hints hlen hg) fun r s' hq=>?_)
 obtain ⟨rfl,h2,h3,h4⟩:=hq
 exact ⟨.inl ⟨.bool true,.bool true,[],rfl,fun _=>rfl,.bool true,NS l _,fun _=>⟨List.Pairwise.nil,fun _ hm=>(nomatch hm)⟩⟩,h2,h3,h4⟩
section
variable {prog:Program} {w:World} {A:Around} {E:Value->Shared->Prop} {s:Shared} {K:Frag}
def EH (h:Heap):Heap:={ h with objs:=#[] }
theorem GW (h:Heap) (b:Addr):(EH h).get? b=none:=by
 cases e:(EH h).get? b with
 | none=>rfl
 | some o=>exact absurd (Heap.lt_size e) (Nat.not_lt_zero _)
theorem NQ {h:Heap} {L:Addr} {m:Str->Option Value} (n:h.Ns L m):Fr (EH h) L h m :=
 ⟨n,fun b o e=>(by rw [GW] at e;cases e),Nat.zero_le _⟩
end
end Att
namespace L2
open PySem PySem.Spec PyProof.Rows
theorem Iq:∀ {vs:List Value} {ns:List Int},IntsAre vs ns->Vals (ns.map V.int) vs
 | _,_,.nil=>.nil
 | _,_,.cons n t h=>.cons ⟨t,rfl⟩ (Iq h)
def Ed (H:Hp):Prop:=∀ b,H b=none\/∃ o xs,H b=some (.frz o (.lst xs))
theorem JV {P:Program} {w:World} {K:W.Frag} {mg mb:Str->Option Value} {CX:CXT} {k:Nat} {fa a:Addr} {fd:FuncData} {x:Str} {sp:Sp} {s₁:Shared} {vs:List Value} {ns:List Int}
 (KX:K.In s₁.heap) (hns:s₁.heap.Ns mainGlobals mg) (hb:s₁.heap.Ns builtinsNs mb) (hbb:∀ x:Str,x ≠ "__name__" -> mb x=bootBuiltins x) (hlim:s₁.heap.NoLimit) (hg:s₁.gens = #[])
 (ha:s₁.heap.get? a=some { cls:=.type "list",data:=.seq vs.toArray }) (hi:IntsAre vs ns) (hl:ns.length<=sizeLine) (hr:Room k callerA)
 (F:∀ base:Heap,K.In base->base.Ns mainGlobals mg->FnOk P w K mg base CX k fa fd [x] sp) (hbind:∀ (s:Shared) (u:Value),BindsTo s fd ⟨[u],[]⟩ [(x,u)])
 (hsp:∀ H:Hp,Ed H->SqL K H a (ns.map V.int)->sp [.ref a] H (fun v _=>v=.bl true) fun _ _ _=>False)
 (hCX:∀ H e s',CX [] H s₁ (fun _ _ _=>False) e s'->False) :
 codeAny (model P w) callerA (.call (.ref fa) ⟨[.ref a],[]⟩) (fun r s'=>r=.ok (.ret (.bool true))/\OldK s₁.heap s'.heap/\s'.os=s₁.os/\AllBare s'.gens) s₁:=by
 have rv:=Iq hi
 have lenV:=hi.length
 -- from an abstract heap in which nothing but the script may be tracked
 have core:∀ H:Hp,Ed H->SqL K H a (ns.map V.int)->HOk P w H s₁.heap->(∀ b,H b≠none->b=a)->(H a≠none->K.lookup a=none) ->
  codeAny (model P w) callerA (.call (.ref fa) ⟨[.ref a],[]⟩) (fun r s'=>r=.ok (.ret (.bool true))/\OldK s₁.heap s'.heap/\s'.os=s₁.os/\AllBare s'.gens) s₁:=by
  intro H hO hS hok hA hK
  have base_of:∀ {b:Addr} {o:Obj},s₁.heap.get? b=some o->H b=none->(Bc s₁.heap H).get? b=some o:=fun e n=>LU e n
  have noA:∀ {b:Addr} {o:Obj} {es:Array DictEntry} {ep:Nat},s₁.heap.get? b=some o->o.data=.dict es ep->H b=none:=fun {b o es ep} e d=>by
   cases q:H b with
   | none=>rfl
   | some u =>
    have e':b=a:=hA b (by rw [q];simp)
    subst e'
    rw [ha] at e;cases e
    have d':Data.seq vs.toArray _=Data.dict es ep:=d
    cases d'
  have nsK:∀ {b:Addr} {m:Str->Option Value},s₁.heap.Ns b m->(Bc s₁.heap H).Ns b m:=fun {b m} ⟨o,es,ep,e,d,r⟩=>⟨o,es,ep,base_of e (noA e d),d,r⟩
  have hKb:K.In (Bc s₁.heap H):=fun b o e=>base_of (KX b o e) (by
   cases q:H b with
   | none=>rfl
   | some u =>
    have e':b=a:=hA b (by rw [q];simp)
    subst e'
    rw [hK (by rw [q];simp)] at e;cases e)
  have hM:Mod K mg (Bc s₁.heap H):=⟨hKb,nsK hns,⟨mb,nsK hb,hbb⟩,let ⟨mc,h1,h2⟩:=hlim;⟨mc,nsK h1,h2⟩⟩
  have e0:Env0 P w K mg (Bc s₁.heap H) callerA [] s₁ H:=⟨rfl,hM,fun b o e=>KJ e,Nat.le_of_eq (Ko _ _),trivial,fun b hb=>absurd (show b∈([]:List Addr) from hb) (by simp),hok,.of_eq hg⟩
  refine codeAny_mono ((F _ hKb (nsK hns)).run callerA [] s₁ H ⟨[.ref a],[]⟩ [.ref a] [.ref a] _ _ hr e0 (hbind s₁ (.ref a)) (.cons rfl .nil) (hsp H hO hS)) fun r s' h=>?_
  cases r with
  | error e=>exact (hCX H e s' h).elim
  | ok fl =>
   cases fl with
   | next=>exact False.elim h
   | brk=>exact False.elim h
   | cont=>exact False.elim h
   | ret u =>
    obtain ⟨v,H',os,bare,un,hok',r',q⟩:=h
    have q':v=.bl true:=q
    subst q'
    obtain rfl:u=Value.bool true:=r'
    refine ⟨rfl,OldK.of_keep fun b o e=>?_,os,bare⟩
    cases q:H b with
    | none=>exact un.keep b o e q (by intro z;exact absurd (show b∈([]:List Addr) from z) (by simp)) (by simp)
    | some u =>
     rcases hO b with z | ⟨ob,xs,z⟩
     ·rw [q] at z;cases z
     ·have z2:=un.frzs b ob _ z
      obtain ⟨e1,_⟩:=hok b _ z
      obtain ⟨e2,_⟩:=hok' b _ z2
      rw [e] at e1;cases e1
      exact e2
 cases hk:K.lookup a with
 | some o =>
  -- the script is one of the module's own objects
  have e:=KX a o hk
  rw [ha] at e
  cases e
  refine core (fun _=>none) (fun _=>.inl rfl) (.inr ⟨_,vs.toArray,_,hk,rfl,rfl,rfl,by rw [List.size_toArray,lenV];exact hl,by simpa using rv⟩) (fun b u z=>by have z':(none:Option HO)=some u:=z;cases z') (fun b z=>absurd rfl z) fun z=>absurd rfl z
 | none =>
  refine core (fun b=>if b=a then some (.frz { cls:=.type "list",data:=.seq vs.toArray } (.lst (ns.map V.int))) else none) (fun b=>?_) (.inl (.inr ⟨{ cls:=.type "list",data:=.seq vs.toArray },if_pos rfl⟩)) (fun b u z=>?_) (fun b z=>?_) fun _=>hk
  ·by_cases hb:b=a
   ·exact .inr ⟨_,_,if_pos hb⟩
   ·exact .inl (if_neg hb)
  ·by_cases hb:b=a
   ·have z':=(if_pos hb).symm.trans z
    cases z'
    subst hb
    exact ⟨ha,by rw [List.length_map];exact hl,vs,_,rv,ha⟩
   ·have z':=(if_neg hb).symm.trans z
    cases z'
  ·by_cases hb:b=a
   ·exact hb
   ·exact absurd (if_neg hb) z
theorem walk_of {l:PySem.W.OpenLaw} {n k:Nat} {q:Program} {loose:List Str} {XP:(Str->Option Value)->Heap->Prop} {YP:World->Heap->Prop} {d:DefRec} {K:Params->W.Frag} {CX:World->CXT} {sp:World->Sp} {x:Str}
 (hn:l.most=some n) (hn2:n<=sizeLine) (hdf:d.params.defaults=[]) (hr:Room k callerA)
 (hY:∀ (w:World) (h:Heap),YP w h->(K w.params).In h)
 (F:∀ (w:World) (mg:Str->Option Value) (fa:Addr) (h:Heap),(K w.params).In h->h.Ns mainGlobals mg->mg d.name=some (.ref fa) ->
   ∃ fd:FuncData,(∀ (s:Shared) (u:Value),BindsTo s fd ⟨[u],[]⟩ [(x,u)]) /\
    ∀ base:Heap,(K w.params).In base->base.Ns mainGlobals mg->FnOk l.prog w (K w.params) mg base (CX w) k fa fd [x] (sp w))
 (hsp:∀ (w:World) (H:Hp) (a:Addr) (ns:List Int),ns.length<=n->Ed H->SqL (K w.params) H a (ns.map V.int)->sp w [.ref a] H (fun v _=>v=.bl true) fun _ _ _=>False)
 (hCX:∀ (w:World) (H:Hp) (s:Shared) (e:Value) (s':Shared),CX w [] H s (fun _ _ _=>False) e s'->False) :
 PySem.W.WalkO q loose XP YP l.row.toRowW d [] (fun f vs=>PySem.call f vs):=by
 refine Att.attach_call hn hdf fun w s₀ s₁ mg mb fa o pm cd doc a vs ns G Y ho hd hcd hmg hobj hints hlen hg=>?_
 have KX:=hY w _ Y
 obtain ⟨fd,hb,hF⟩:=F w mg fa _ KX G.T.g hmg
 exact JV KX G.T.g G.T.b G.T.builtins G.T.nolimit hg hobj hints (Nat.le_trans hlen hn2) hr hF hb (fun H hO hS=>hsp w H a ns hlen hO hS) fun H e s'=>hCX w H s₁ e s'
def Aa (s:Stmt):Arguments:=match s with
 | .FunctionDef _ a _ _ _ _ _ _ _ _=>a
 | _=>{ posonlyargs:=[],args:=[],vararg:=none,kwonlyargs:=[],kw_defaults:=[],kwarg:=none,defaults:=[] }
def AZ (s:Stmt):List Stmt:=match s with
 | .FunctionDef _ _ b _ _ _ _ _ _ _=>b
 | _=>[]
def AK (s:Stmt):Scope:=match s with
 | .FunctionDef _ _ _ _ _ _ sc _ _ _=>sc
 | _=>{ kind:=.function,names:=[],isGenerator:=false,isCoroutine:=false }
abbrev CX0:CXT:=fun _ _ _ _ _ _=>False
abbrev E0:XK:=fun _ _ _=>False
theorem AN {X:Cx}:FF CX0 X E0:=fun _ _ _ _ _ _ _ h=>h.elim
structure Fun (K:W.Frag) (x qual:Str) (st:Stmt) (f:Addr) (fd:FuncData):Prop where
 ex:∃ (oc:Value) (od:Option Addr) (kV doc pm:Value) (an:Option Addr) (cdv ct:Value) (osl:Array (Option Value)),
  fd=PySem.W.fnOf x qual (Aa st) (AZ st) (AK st) .none kV doc pm an cdv ct/\K.lookup f=some ⟨oc,od,.func fd,osl⟩/\PySem.W.codeIn K cdv qual=true
 kp:PySem.W.keepIn K (.ref f)=true
section
variable {P:Program} {w:World} {K:W.Frag} {mg:Str->Option Value} {base:Heap}
theorem Fun.ok {x qual:Str} {st:Stmt} {f:Addr} {fd:FuncData} {N ps:List Str} {k:Nat} {sp:Sp} (F:Fun K x qual st f fd) (S:FnScope N ps (AK st)) (len:∀ vs H Q E,sp vs H Q E->vs.length=ps.length)
 (hbody:∀ (cdv:Value) (A:Around) (outer:List Env) (s:Shared) (H:Hp) (vs:List V) (Q:VK) (E:XK),Room k (A.deeper (envOfC qual (AK st) s.heap.objs.size f cdv))->sp vs H Q E ->
   ∃ t,PSs (Cn CX0 P w K mg base N qual (AK st) f cdv A outer s H E).nox (AZ st) t/\t { nx:=fun _ H'=>Q .non H',rt:=Q } (start N vs) H):FnOk P w K mg base CX0 (k+1) f fd ps sp:=by
 obtain ⟨oc,od,kV,doc,pm,an,cdv,ct,osl,rfl,lk,hcd⟩:=F.ex
 refine Lq lk hcd S len fun A outer s H vs Q E hr hsp=>?_
 obtain ⟨t,h,q⟩:=hbody cdv A outer s H vs Q E hr hsp
 exact ⟨t,h.nox,q⟩
theorem Fun.binds {x qual:Str} {st:Stmt} {f:Addr} {fd:FuncData} {ps:List Str} (F:Fun K x qual st f fd)
 (h:∀ (kV doc pm:Value) (an:Option Addr) (cdv ct:Value) (us:List Value),us.length=ps.length->bindArgs (PySem.W.fnOf x qual (Aa st) (AZ st) (AK st) .none kV doc pm an cdv ct) ⟨us,[]⟩=pure (ps.zip us)):Binds K fd ps []:=by
 obtain ⟨oc,od,kV,doc,pm,an,cdv,ct,osl,rfl,lk,hcd⟩:=F.ex
 exact .all (h kV doc pm an cdv ct)
theorem Aj {x qual:Str} {st:Stmt} {f:Addr} {oc:Value} {od an:Option Addr} {osl:Array (Option Value)} {kV doc pm cdv ct:Value} (l:K.lookup f=some ⟨oc,od,.func (PySem.W.fnOf x qual (Aa st) (AZ st) (AK st) .none kV doc pm an cdv ct),osl⟩)
 (c:PySem.W.codeIn K cdv qual=true) (k:PySem.W.keepIn K (.ref f)=true):Fun K x qual st f (PySem.W.fnOf x qual (Aa st) (AZ st) (AK st) .none kV doc pm an cdv ct):=⟨⟨oc,od,kV,doc,pm,an,cdv,ct,osl,rfl,l,c⟩,k⟩
end
theorem As {n:Nat} (h:n<=1000):n < sizeLine:=Nat.lt_of_le_of_lt h (by decide)
section
variable {X:Cx}
end
theorem Ak {c A B:Prop} [Decidable c] (h1:c->A) (h2:¬ c->B):if c then A else B:=by
 by_cases h:c
 ·rw [if_pos h]
  exact h1 h
 ·rw [if_neg h]
  exact h2 h
def Same (H H':Hp):Prop:=∀ b o,H b=some o->H' b=some o
theorem Same.refl (H:Hp):Same H H:=fun _ _ h=>h
theorem Same.trans {H H1 H2:Hp} (a:Same H H1) (b:Same H1 H2):Same H H2:=fun c o h=>b c o (a c o h)
theorem Same.free {H H':Hp} (e:Same H H') {l:Addr} (h:H' l=Option.none):H l=Option.none:=by
 cases q:H l with
 | none=>rfl
 | some o =>
  rw [e l o q] at h
  cases h
theorem Same.seq {K:W.Frag} {H H':Hp} {a:Addr} {xs:List V} (e:Same H H') (h:SqL K H a xs):SqL K H' a xs:=by
 rcases h with (h | ⟨o,h⟩) | h
 ·exact .inl (.inl (e _ _ h))
 ·exact .inl (.inr ⟨o,e _ _ h⟩)
 ·exact .inr h
theorem Cr:∀ (names:List (Str × NameKind)) (n:Nat) (acc:List (Str × Addr)),cellsFrom n names acc=cellsFrom n names []++acc
 | [],_,_=>rfl
 | (name,kind)::r,n,acc=>by
  unfold cellsFrom
  split
  ·rw [Cr r (n+1) ((name,n)::acc),Cr r (n+1) [(name,n)],List.append_assoc];rfl
  ·exact Cr r n acc
theorem cellsFrom_kind:∀ (names:List (Str × NameKind)) (n:Nat) (acc:List (Str × Addr)) (x:Str) (c:Addr),(x,c)∈cellsFrom n names acc->(x,c)∈acc\/(x,NameKind.cell)∈names
 | [],_,_,_,_,h=>.inl h
 | (name,kind)::r,n,acc,x,c,h=>by
  unfold cellsFrom at h
  split at h
  ·rename_i hk
   rcases cellsFrom_kind r _ _ x c h with h | h
   ·rcases List.mem_cons.mp h with e | h
    ·cases e
     have:kind=.cell:=by simpa using hk
     subst this
     exact .inr List.mem_cons_self
    ·exact .inl h
   ·exact .inr (List.mem_cons_of_mem _ h)
  ·rcases cellsFrom_kind r _ _ x c h with h | h
   ·exact .inl h
   ·exact .inr (List.mem_cons_of_mem _ h)
theorem EK {α:Type} {x:Str}:∀ (l r:List (Str × α)),(l++r).lookup x=(match l.lookup x with | some c=>some c | none=>r.lookup x)
 | [],r=>rfl
 | (k,v)::l,r=>by
  show List.lookup x ((k,v)::(l++r))=_
  rw [List.lookup_cons,List.lookup_cons]
  cases x == k with
  | true=>rfl
  | false=>exact EK l r
theorem IS {α:Type} {x:Str}:∀ {l:List (Str × α)},(∀ c,(x,c)∉l)->l.lookup x=none
 | [],_=>rfl
 | (k,v)::l,h=>by
  rw [List.lookup_cons]
  cases hb:x == k with
  | true =>
   have:x=k:=by simpa using hb
   subst this
   exact absurd List.mem_cons_self (h v)
  | false=>exact IS fun c hc=>h c (List.mem_cons_of_mem _ hc)
def Ao (cells:List (Str × Addr)):List (Str × NameKind)->List (Str × Addr)->List (Str × Addr)
 | [],acc=>acc
 | (n,k)::r,acc=>if k == .free then Ao cells r ((n,(cells.lookup n).getD 0)::acc) else Ao cells r acc
theorem HS {scope:Scope} {env:Env} (h:∀ y∈scope.names,y.2=.free->∃ c,env.cells.lookup y.1=some c):closureFor scope env=pure (Ao env.cells scope.names []):=by
 have all:∀ (names:List (Str × NameKind)) (acc:List (Str × Addr)),(∀ y∈names,y.2=.free->∃ c,env.cells.lookup y.1=some c) ->
  (forIn names acc fun (x:Str × NameKind) cs=>(if (x.2 == NameKind.free)=true then (do let a <- cellOf env x.1;pure (ForInStep.yield ((x.1,a)::cs))) else pure (ForInStep.yield cs):Sem (ForInStep (List (Str × Addr)))))=(pure (Ao env.cells names acc):Sem _):=by
  intro names
  induction names with
  | nil=>intro acc _;rfl
  | cons y r ih =>
   intro acc hy
   obtain ⟨n,k⟩:=y
   rw [List.forIn_cons]
   have hr:∀ y∈r,y.2=.free->∃ c,env.cells.lookup y.1=some c:=fun y hm=>hy y (List.mem_cons_of_mem _ hm)
   unfold Ao
   by_cases hk:(k == NameKind.free)=true
   ·obtain ⟨c,e⟩:=hy (n,k) List.mem_cons_self (by simpa using hk)
    rw [if_pos hk,if_pos hk]
    have e2:cellOf env n=pure c:=by unfold cellOf;rw [show env.cells.lookup n=some c from e]
    rw [e2]
    rw [show env.cells.lookup n=some c from e]
    exact ih _ hr
   ·rw [if_neg hk,if_neg hk]
    exact ih _ hr
 have q:=all scope.names [] h
 unfold closureFor
 refine Eq.trans ?_ (congrArg (fun t=>t >>= pure) q |>.trans (by rfl))
 congr 1
theorem clOf_mem {cells:List (Str × Addr)}:∀ (names:List (Str × NameKind)) (acc:List (Str × Addr)) (x:Str) (c:Addr),(∀ y∈names,y.2=.free->∃ c,cells.lookup y.1=some c)->(x,c)∈Ao cells names acc->(x,c)∈acc\/((x,NameKind.free)∈names/\cells.lookup x=some c)
 | [],_,_,_,_,h=>.inl h
 | (n,k)::r,acc,x,c,hy,h=>by
  have hr:∀ y∈r,y.2=.free->∃ c,cells.lookup y.1=some c:=fun y hm=>hy y (List.mem_cons_of_mem _ hm)
  unfold Ao at h
  split at h
  ·rename_i hk
   have hk':k=.free:=by simpa using hk
   subst hk'
   obtain ⟨d,e⟩:=hy (n,.free) List.mem_cons_self rfl
   rcases clOf_mem r _ x c hr h with h | ⟨h,h'⟩
   ·rcases List.mem_cons.mp h with e' | h
    ·obtain ⟨e1,e2⟩:=Prod.mk.inj e'
     rw [show cells.lookup n=some d from e] at e2
     subst e1
     exact .inr ⟨List.mem_cons_self,by rw [e2];exact e⟩
    ·exact .inl h
   ·exact .inr ⟨List.mem_cons_of_mem _ h,h'⟩
  ·rcases clOf_mem r _ x c hr h with h | ⟨h,h'⟩
   ·exact .inl h
   ·exact .inr ⟨List.mem_cons_of_mem _ h,h'⟩
theorem Eb {cells:List (Str × Addr)} {x:Str}:∀ (names:List (Str × NameKind)) (acc:List (Str × Addr)),(∃ c,(x,c)∈acc)->∃ c,(x,c)∈Ao cells names acc
 | [],_,h=>h
 | (n,k)::r,acc,⟨c,h⟩=>by
  unfold Ao
  split
  ·exact Eb r _ ⟨c,List.mem_cons_of_mem _ h⟩
  ·exact Eb r _ ⟨c,h⟩
theorem E8 {cells:List (Str × Addr)} {x:Str}:∀ (names:List (Str × NameKind)) (acc:List (Str × Addr)),(x,NameKind.free)∈names->∃ c,(x,c)∈Ao cells names acc
 | (n,k)::r,acc,h=>by
  unfold Ao
  rcases List.mem_cons.mp h with e | h
  ·cases e
   rw [if_pos (by decide)]
   exact Eb r _ ⟨_,List.mem_cons_self⟩
  ·split
   ·exact E8 r _ h
   ·exact E8 r _ h
theorem IW {α:Type} {x:Str}:∀ {l:List (Str × α)},(∃ c,(x,c)∈l)->∃ c,l.lookup x=some c
 | (k,v)::l,⟨c,h⟩=>by
  rw [List.lookup_cons]
  cases hb:x == k with
  | true=>exact ⟨v,rfl⟩
  | false =>
   rcases List.mem_cons.mp h with e | h
   ·cases e;simp at hb
   ·exact IW ⟨c,h⟩
def DQ (scope sc:Scope):Scope :=
 { scope with names:=scope.names.map fun (n,k)=>if (k == .free && sc.kind == .function && sc.names.lookup n == some .cell) then (n,.cell) else (n,k) }
structure CompScope (scope sc:Scope):Prop where
 kind:scope.kind=.function
 nd:(scope.names.map (·.1)).Nodup
 fr:∀ y∈scope.names,y.2=.free->sc.names.lookup y.1=some .cell\/sc.names.lookup y.1=some .free
theorem Bv {α:Type}:∀ {l:List (Str × α)} {x:Str} {c:α},(l.map (·.1)).Nodup->(x,c)∈l->l.lookup x=some c
 | (k,v)::l,x,c,nd,h=>by
  obtain ⟨n1,n2⟩:=List.nodup_cons.mp (show (k::l.map (·.1)).Nodup from nd)
  rw [List.lookup_cons]
  rcases List.mem_cons.mp h with e | h
  ·cases e;simp
  ·have hne:¬ x=k:=fun e=>n1 (by rw [<- e];exact List.mem_map.mpr ⟨(x,c),h,rfl⟩)
   have:(x == k)=false:=by simpa using hne
   rw [this]
   exact Bv n2 h
theorem IX {scope sc:Scope} {x:Str}:(DQ scope sc).names.lookup x=(scope.names.lookup x).map fun k=>if (k == .free && sc.kind == .function && sc.names.lookup x == some .cell) then NameKind.cell else k:=by
 show (scope.names.map _).lookup x=_
 generalize scope.names=names
 induction names with
 | nil=>rfl
 | cons y r ih =>
  obtain ⟨n,k⟩:=y
  rw [List.map_cons]
  by_cases hc:(k == .free && sc.kind == .function && sc.names.lookup n == some .cell)=true
  ·show List.lookup x ((if (k == .free && sc.kind == .function && sc.names.lookup n == some .cell)=true then (n,NameKind.cell) else (n,k))::_)=_
   rw [if_pos hc,List.lookup_cons,List.lookup_cons]
   cases hb:x == n with
   | true =>
    have hx:x=n:=by simpa using hb
    subst hx
    show some NameKind.cell=some (if _ then _ else _)
    rw [if_pos hc]
   | false=>exact ih
  ·show List.lookup x ((if (k == .free && sc.kind == .function && sc.names.lookup n == some .cell)=true then (n,NameKind.cell) else (n,k))::_)=_
   rw [if_neg hc,List.lookup_cons,List.lookup_cons]
   cases hb:x == n with
   | true =>
    have hx:x=n:=by simpa using hb
    subst hx
    show some k=some (if _ then _ else _)
    rw [if_neg hc]
   | false=>exact ih
structure CArgs where
 pins:List (Addr × Obj)
 cells:List (Str × Addr)
 s:Shared
 H:Hp
 fp:List Addr
 C:Addr
def Cx.comp (X:Cx) (scope:Scope) (N':List Str) (c:CArgs):Cx where
 prog:=X.prog
 w:=X.w
 K:=X.K
 mg:=X.mg
 base:=X.base
 A:=X.A
 N:=N'
 s₀:=c.s
 H₀:=c.H
 env:=compEnvC scope c.cells c.C X.env
 outer:=X.stack
 stack:=X.stack
 ex:=c.fp
 fn:=fun x=>scope.names.lookup x == some .cell
 calm:=X.calm
 pn:=X.pn++c.pins
 xe:=fun _ _=>False
def cSt (own:Nat) (ix:List Nat) (σ:St):St:=List.replicate own none++ix.map fun i=>(σ[i]?).join
section
variable {X:Cx} {pins:List (Addr × Obj)} {σ:St} {H:Hp} {s s4:Shared} {fp:List Addr} {scope:Scope} {N':List Str} {own:Nat} {ix:List Nat}
theorem Lp (I:Inv X pins σ H s) (f2:∀ b∈fp,A4 X pins H b) (hob:∀ b∈fp,∃ o,s.heap.get? b=some o) (S:CompScope scope X.env.scope)
 (hlen:N'.length=own+ix.length) (hN:(N'.drop own).map some=ix.map (X.N[·]?)) (hfr:∀ x∈N'.drop own,scope.names.lookup x=some .free)
 {C:Addr} (hC:s.heap.objs.size < C) (k4:∀ b o,s.heap.get? b=some o->s4.heap.get? b=some o) (os4:s4.os=s.os) (g4:s4.gens=s.gens)
 (n4:∃ m,s4.heap.Ns C m) (own4:∀ x c,(x,c)∈cellsFrom (C+1) scope.names []->s4.heap.IsCell c none/\C+1<=c)
 (apart:(cellsFrom (C+1) scope.names []).Pairwise fun x y=>x.2≠y.2) :
 Inv (X.comp scope N' ⟨pins,cellsFrom (C+1) scope.names (Ao X.env.cells scope.names []),s,H,fp,C⟩) [] (cSt own ix σ) H s4:=by
 have hfree:∀ y∈scope.names,y.2=.free->∃ c,X.env.cells.lookup y.1=some c:=fun y hy h=>I.ok.has y.1 (S.fr y hy h)
 -- a cell of the block
 have cases:∀ x c,(cellsFrom (C+1) scope.names (Ao X.env.cells scope.names [])).lookup x=some c ->
  ((x,c)∈cellsFrom (C+1) scope.names []/\scope.names.lookup x=some .cell)\/((x,NameKind.free)∈scope.names/\X.env.cells.lookup x=some c):=fun x c h=>by
  rw [Cr,EK] at h
  cases e:(cellsFrom (C+1) scope.names []).lookup x with
  | some d =>
   rw [e] at h
   cases h
   have m:=mem_of_lookup e
   rcases cellsFrom_kind _ _ _ _ _ m with z | z
   ·exact absurd z (by simp)
   ·exact .inl ⟨m,Bv S.nd z⟩
  | none =>
   rw [e] at h
   rcases clOf_mem _ _ _ _ hfree (mem_of_lookup h) with z | z
   ·exact absurd z (by simp)
   ·exact .inr z
 have oldlt:∀ x c,X.env.cells.lookup x=some c->c < s.heap.objs.size:=fun x c e=>let ⟨v,q⟩:=I.cell x c e;q.lt
 have kin:∀ x,(DQ scope X.env.scope).names.lookup x=some .cell\/(DQ scope X.env.scope).names.lookup x=some .free->(scope.names.lookup x=some .cell\/scope.names.lookup x=some .free):=fun x h=>by
  rw [IX] at h
  cases e:scope.names.lookup x with
  | none=>rw [e] at h;simp at h
  | some k =>
   rw [e] at h
   cases k with
   | cell=>exact .inl rfl
   | free=>exact .inr rfl
   | _=>exact absurd h (by simp)
 have hCn:∀ b o,s.heap.get? b=some o->b≠C:=fun b o e z=>by have:=Heap.lt_size e;rw [z] at this;exact Nat.lt_irrefl _ (Nat.lt_trans this hC)
 have lk:∀ x,(x,NameKind.free)∈scope.names->∀ c,X.env.cells.lookup x=some c->(cellsFrom (C+1) scope.names (Ao X.env.cells scope.names [])).lookup x=some c:=fun x hx c hc=>by
  have hl:scope.names.lookup x=some .free:=Bv S.nd hx
  rw [Cr,EK,IS (l:=cellsFrom (C+1) scope.names []) fun d hd=>?_]
  ·obtain ⟨d,hd⟩:=IW (E8 (cells:=X.env.cells) scope.names [] hx)
   rcases clOf_mem _ _ _ _ hfree (mem_of_lookup hd) with z | ⟨_,z⟩
   ·exact absurd z (by simp)
   ·rw [hc] at z;cases z;exact hd
  ·rcases cellsFrom_kind _ _ _ _ _ hd with z | z
   ·exact absurd z (by simp)
   ·rw [Bv S.nd z] at hl;cases hl
 refine ⟨⟨I.ok.mod,S.kind,I.ok.glob,I.ok.blt,Nat.le_of_lt hC,fun x y c hx hy=>?_,fun x hx=>?_,fun x c hf hx=>?_,I.ok.hd,I.ok.frames,.inl rfl,fun b hb=>⟨?_,fun x c hx=>?_⟩,fun b o e=>I.bs b o e,Nat.le_trans I.ok.bsz I.sz,fun b o e hb=>?_,fun b hb z=>?_,I.stack,I.stkFree⟩,
  os4,by rw [g4];exact I.bare,Un.kept k4,?_,fun x c hx=>?_,?_,fun x c hx=>?_,fun p hp=>?_,I.hok.kept k4,?_⟩
 ·-- inj
  rcases cases x c hx with ⟨m1,_⟩ | ⟨_,m1⟩ <;> rcases cases y c hy with ⟨m2,_⟩ | ⟨_,m2⟩
  ·exact name_of_addr apart m1 m2
  ·exact absurd (Nat.lt_of_lt_of_le (Nat.lt_trans (oldlt y c m2) hC) (Nat.le_of_succ_le (own4 x c m1).2)) (Nat.lt_irrefl _)
  ·exact absurd (Nat.lt_of_lt_of_le (Nat.lt_trans (oldlt x c m1) hC) (Nat.le_of_succ_le (own4 y c m2).2)) (Nat.lt_irrefl _)
  ·exact I.ok.inj x y c m1 m2
 ·-- has
  rcases kin x hx with h | h
  ·have q:=PySem.W.cellsFrom_some scope.names (C+1) (Ao X.env.cells scope.names []) (.inl h)
   exact Option.isSome_iff_exists.mp q
  ·obtain ⟨c,e⟩:=hfree (x,.free) (mem_of_lookup h) rfl
   exact ⟨c,lk x (mem_of_lookup h) c e⟩
 ·-- cab
  rcases cases x c hx with ⟨m1,_⟩ | ⟨m1,_⟩
  ·exact Nat.le_of_lt (Nat.lt_of_lt_of_le hC (Nat.le_of_succ_le (own4 x c m1).2))
  ·have hl:=Bv S.nd m1
   have hf':(scope.names.lookup x == some NameKind.cell)=true:=hf
   rw [hl] at hf';cases hf'
 ·obtain ⟨o,e⟩:=hob b hb
  exact hCn b o e
 ·intro z
  obtain ⟨o,e⟩:=hob b hb
  have hlt:=Heap.lt_size e
  rcases cases x c hx with ⟨m1,_⟩ | ⟨_,m1⟩
  ·subst z;exact absurd (Nat.lt_of_lt_of_le (Nat.lt_trans hlt hC) (Nat.le_of_succ_le (own4 x c m1).2)) (Nat.lt_irrefl _)
  ·exact (f2 b hb).2.2.2.2.1 x c m1 z
 ·-- noex
  have e1:=(I.ok.bs b o e).1
  rcases (f2 b hb).2.2.2.1 with z | z
  ·exact I.ok.noex b o e z
  ·exact absurd (Nat.lt_of_lt_of_le (Heap.lt_size e1) z) (Nat.lt_irrefl _)
 ·-- exfs
  rcases List.mem_cons.mp (I.stkSub b z) with e | z
  ·exact (f2 b hb).2.1 e
  ·exact (f2 b hb).2.2.1 z
 ·-- loc
  obtain ⟨m,hm⟩:=n4
  obtain ⟨m0,hn0,hl0⟩:=I.loc
  refine ⟨m,hm,fun i x v h1 h2 h3=>?_⟩
  have h1:N'[i]? = some x:=h1
  unfold cSt at h2
  by_cases hi:i < own
  ·rw [List.getElem?_append_left (by simpa using hi),List.getElem?_replicate] at h2
   split at h2 <;> cases h2
  ·rw [List.getElem?_append_right (by simpa using hi),List.length_replicate,List.getElem?_map] at h2
   obtain ⟨j,hj⟩:∃ j,i=own+j:=⟨i - own,by lia⟩
   subst hj
   rw [Nat.add_sub_cancel_left] at h2
   cases e:ix[j]? with
   | none=>rw [e] at h2;cases h2
   | some q =>
    rw [e] at h2
    have h2:some (σ[q]?).join=some (some v):=h2
    have h2:(σ[q]?).join=some v:=Option.some.inj h2
    have hσ:σ[q]? = some (some v):=by
     cases eq:σ[q]? with
     | none=>rw [eq] at h2;cases h2
     | some z=>rw [eq] at h2;simp at h2;rw [h2]
    have hx:(N'.drop own)[j]? = some x:=by rw [List.getElem?_drop];exact h1
    have hNq:X.N[q]? = some x:=by
     have:=congrArg (·[j]?) hN
     simp only [List.getElem?_map,hx,e,Option.map_some] at this
     exact (Option.some.inj this).symm
    have hfx:=hfr x (List.mem_of_getElem? hx)
    have hmem:=mem_of_lookup hfx
    have kx:=S.fr (x,.free) hmem rfl
    have vis:Vis X.env.scope x:=.inr kx
    obtain ⟨u,r,l⟩:=hl0 q x v hNq hσ vis
    refine ⟨u,r,?_⟩
    rcases l with ⟨k,_⟩ | ⟨k,c,hc,z⟩
    ·exfalso
     have k':X.env.scope.names.lookup x=some .local:=k
     rcases kx with kx | kx
     ·rw [show X.env.scope.names.lookup x=some .cell from kx] at k';cases k'
     ·rw [show X.env.scope.names.lookup x=some .free from kx] at k';cases k'
    ·refine .inr ⟨?_,c,lk x hmem c hc,z.keeps k4⟩
     show (DQ scope X.env.scope).names.lookup x=some .cell\/(DQ scope X.env.scope).names.lookup x=some .free
     rw [IX,hfx]
     by_cases hc:(NameKind.free == .free && X.env.scope.kind == .function && X.env.scope.names.lookup x == some .cell)=true
     ·exact .inl (by rw [Option.map_some,if_pos hc])
     ·exact .inr (by rw [Option.map_some,if_neg hc])
 ·rcases cases x c hx with ⟨m1,_⟩ | ⟨_,m1⟩
  ·exact ⟨_,(own4 x c m1).1⟩
  ·obtain ⟨v,q⟩:=I.cell x c m1
   exact ⟨v,q.keeps k4⟩
 ·exact I.hok.fresh (Nat.le_of_lt hC)
 ·rcases cases x c hx with ⟨m1,_⟩ | ⟨_,m1⟩
  ·exact I.hok.fresh (Nat.le_of_lt (Nat.lt_of_lt_of_le hC (Nat.le_of_succ_le (own4 x c m1).2)))
  ·exact I.freeC x c m1
 ·have hp:p∈X.pn++pins:=by
   have:p∈(X.pn++pins)++[]:=hp
   rwa [List.append_nil] at this
  obtain ⟨e,n,ne,nf,d⟩:=I.pin p hp
  refine ⟨k4 _ _ e,n,hCn _ _ e,fun z=>?_,d⟩
  rcases List.mem_cons.mp (I.stkSub _ z) with q | q
  ·exact ne q
  ·exact nf q
 ·unfold cSt
  rw [List.length_append,List.length_replicate,List.length_map]
  exact hlen.symm
end
section
variable {prog:Program} {w:World} {A:Around} {R:Result->Shared->Prop} {s:Shared}
theorem JZ {elt target iter:Expr} {ifs:List Expr} {scope:Scope} {pos:Pos} {it acc:Value} {env:Env} (I:Nat->Shared->Prop)
 (turn:∀ n s,I n s->wpAny (model prog w) A (pyNext it) (fun r s₁=>match r with
   | none=>R (.ok .next) s₁
   | some v=>wpAny (model prog w) A (letOwnedTupleGo target it v) (fun _ s₁'=>wpAny (model prog w) A (assign target env v) (fun _ s₂ =>
    wpAny (model prog w) A (forIn ifs true fun c r=>if r=true then do let ok <- isTrue c env (eval c env);pure (ForInStep.yield ok) else pure (ForInStep.yield r)) (fun ok s₃ =>
     if ok=true then wpAny (model prog w) A (eval elt env) (fun x s₄ =>
      wpAny (model prog w) A (call (.builtin "list.append") [acc,x]) (fun _ s₅=>∃ m,m < n/\I m s₅) (fun _ _=>False) s₄) (fun _ _=>False) s₃
     else ∃ m,m < n/\I m s₃) (fun _ _=>False) s₂) (fun _ _=>False) s₁') (fun _ _=>False) s₁) (fun _ _=>False) s)
 (n:Nat) (h:I n s) :
 codeAny (model prog w) A (.compLoop (.ListComp elt [⟨target,iter,ifs,0⟩] scope pos) 0 it acc env) R s:=by
 refine codeAny_loop rfl I (fun n s hI=>?_) n h
 show wpAny _ A ((compTurn (.ListComp elt [⟨target,iter,ifs,0⟩] scope pos) 0 it acc env).onRaise (fun x=>do noteFrame x env;theTreesLotGoes x)) _ _ s
 refine wpAny_noted ?_
 rw [compTurn_list]
 refine wpAny_bind (wpAny_standAt (wpAny_bind (wpAny_mono (turn n s hI) (fun r s₁ h₁=>?_) fun _ _ h'=>h'.elim)))
 cases r with
 | none=>exact wpAny_pure h₁
 | some v =>
  refine wpAny_bind (wpAny_mono h₁ (fun _ s₁' h₁'=>?_) fun _ _ h'=>h'.elim)
  refine wpAny_bind (wpAny_mono h₁' (fun _ s₂ h₂=>wpAny_bind (wpAny_mono h₂ (fun ok s₃ h₃=>?_) fun _ _ h'=>h'.elim)) fun _ _ h'=>h'.elim)
  cases ok with
  | false=>exact wpAny_pure ⟨rfl,h₃⟩
  | true =>
   exact wpAny_bind (wpAny_bind (wpAny_mono h₃ (fun x s₄ h₄=>wpAny_bind (wpAny_mono h₄ (fun _ s₅ h₅=>wpAny_pure (wpAny_pure ⟨rfl,h₅⟩)) fun _ _ h'=>h'.elim)) fun _ _ h'=>h'.elim))
end
def PTs (X:Cx) (ifs:List Expr) (t:TT):Prop :=
 ∀ (pins:List (Addr × Obj)) (s:Shared) (σ:St) (H:Hp) (Q:Bool->Hp->Prop),Inv X pins σ H s->t σ H Q ->
  wpAny (model X.prog X.w) X.A (forIn ifs true fun c r=>if r=true then do let ok <- isTrue c X.env (eval c X.env);pure (ForInStep.yield ok) else pure (ForInStep.yield r)) (TP X pins σ Q) X.xe s
def Jg:TT:=fun _ H Q=>Q true H
theorem BR {X:Cx}:PTs X [] Jg:=fun _ _ _ H _ I h=>wpAny_tests_nil ⟨H,I,h⟩
theorem Eh {X:Cx} {c:Expr} {t:TT} (h:PT X c t):PTs X [c] t:=fun pins s σ H Q I hq=>wpAny_tests_one (h pins s σ H Q I hq)
def Bj (own:Nat) (g:TG):Prop:=∀ x σ H Q,g x σ H Q->g x σ H fun σ' H'=>(σ'.length=σ.length/\∀ i,own<=i->σ'[i]? = σ[i]?)/\Q σ' H'
def EI (own:Nat) (g:TGs):Prop:=∀ x σ H Q,g x σ H Q->g x σ H fun σ' H'=>(σ'.length=σ.length/\∀ i,own<=i->σ'[i]? = σ[i]?)/\Q σ' H'
theorem A5 {own i:Nat} (h:i < own):Bj own (AV i):=fun x σ H Q q =>
 ⟨⟨by simp,fun j hj=>by rw [List.getElem?_set_ne (by lia)]⟩,q⟩
theorem KB {own:Nat}:EI own E4:=fun x σ H Q ⟨e,q⟩=>⟨e,⟨rfl,fun _ _=>rfl⟩,q⟩
def CB (g:TG):Prop:=∀ x σ H (Q Q':St->Hp->Prop),(∀ σ H,Q σ H->Q' σ H)->g x σ H Q->g x σ H Q'
def DK (g:TGs):Prop:=∀ x σ H (Q Q':St->Hp->Prop),(∀ σ H,Q σ H->Q' σ H)->g x σ H Q->g x σ H Q'
theorem EM {i:Nat}:CB (AV i):=fun _ _ _ _ _ h q=>h _ _ q
theorem E2:DK E4:=fun _ _ _ _ _ h ⟨e,q⟩=>⟨e,h _ _ q⟩
theorem HJ {t:TG} {u:TGs} (h1:CB t) (h2:DK u):DK (GB t u):=fun _ _ _ _ _ h ⟨v,r,e,q⟩=>⟨v,r,e,h1 _ _ _ _ _ (fun _ _ q=>h2 _ _ _ _ _ h q) q⟩
theorem Iw {own:Nat} {t:TG} {u:TGs} (m:CB t) (mu:DK u) (h1:Bj own t) (h2:EI own u):EI own (GB t u):=fun x σ H Q ⟨v,r,e,q⟩ =>
 ⟨v,r,e,m _ _ _ _ _ (fun σ' H' ⟨⟨e1,e2⟩,q⟩=>mu _ _ _ _ _ (fun σ'' H'' ⟨⟨e3,e4⟩,q⟩=>⟨⟨e3.trans e1,fun i hi=>(e4 i hi).trans (e2 i hi)⟩,q⟩) (h2 r σ' H' Q q)) (h1 v σ H _ q)⟩
theorem NE {own:Nat} {K:W.Frag} {n:Nat} {t:TGs} (h:EI own t):Bj own (FO K n t):=fun x σ H Q ⟨a,xs,e,s,l,q⟩=>⟨a,xs,e,s,l,h _ _ _ _ q⟩
theorem MW {own:Nat} {ix:List Nat} {σ:St} {i:Nat} {v:V} (h:(cSt own ix σ)[i]? = some (some v)):own<=i:=by
 unfold cSt at h
 by_cases hi:i < own
 ·rw [List.getElem?_append_left (by simpa using hi),List.getElem?_replicate] at h
  split at h <;> cases h
 ·lia
def CF (J:It) (g:TG) (tc:TT) (te:TE) (σc:St) (Q:VK) (H1:Hp):Prop :=
 ∃ W:Nat->Nat->List V->Hp->Prop,(∃ m,W 0 m [] H1)/\∀ i m ys H,W i m ys H ->
  (J.stop i H/\∀ p,H p=none->Q (.ref p) (upd H p (.lst ys))) \/
  (J.go i H/\ys.length < sizeLine/\∃ N:List V->Hp->Prop,(∀ ys' H',N ys' H'->∃ m',m' < m/\W (i+1) m' ys' H')/\∀ x H',J.yld i H x H'->g x σc H' fun σ4 H4=>tc σ4 H4 fun b H5 =>
    if b=true then te σ4 H5 fun y H6=>N (ys++[y]) H6 else N ys H5)
def DN (wi:TI) (own:Nat) (ix:List Nat) (g:TG) (tc:TT) (te:TE):TE:=fun σ H Q=>wi σ H fun J H1=>CF J g tc te (cSt own ix σ) Q H1
section
variable {X:Cx} {pins:List (Addr × Obj)} {σ:St} {H:Hp} {s:Shared} {fp:List Addr} {it:Addr} {tn:Nat->Heap->Prop} {J:It} {tg iter elt:Expr} {ifs:List Expr} {scope:Scope} {pos:Pos} {N':List Str} {own:Nat} {ix:List Nat} {g:TG} {tc:TT} {te:TE} {Q:VK} {E:Value->Shared->Prop}
theorem Hx (I:Inv X pins σ H s) (T:Turn X.prog X.w X.K tg J fp it tn) (st:tn 0 s.heap) (f2:∀ b∈fp,A4 X pins H b) (hc:X.calm=true) (S:CompScope scope X.env.scope)
 (hlen:N'.length=own+ix.length) (hN:(N'.drop own).map some=ix.map (X.N[·]?)) (hfr:∀ x∈N'.drop own,scope.names.lookup x=some .free)
 (hg:∀ c,PG (X.comp scope N' c) tg g) (hgo:Bj own g) (ht:∀ c,PTs (X.comp scope N' c) ifs tc) (he:∀ c,PE (X.comp scope N' c) elt te)
 (hq:CF J g tc te (cSt own ix σ) Q H) {RR:Value->Addr->Result->Shared->Prop}
 (fin:∀ (D C:Addr) (s':Shared) (H':Hp) (ys:List V) (its:List Value) (n:Nat),s'.os=s.os->AllBare s'.gens->Un (frs X.stack) fp H H' s.heap s'.heap->HOk X.prog X.w H' s'.heap->(∃ m,s'.heap.Ns C m)->H' C=none->s.heap.objs.size<=C ->
   H' D=none->s.heap.objs.size<=D->D≠C->s'.heap.get? D=some { cls:=.type "list",data:=.seq its.toArray n } -> Vals ys its->ys.length<=sizeLine->(∀ p,H' p=none->Q (.ref p) (upd H' p (.lst ys)))->RR (.ref D) C (.ok .next) s') :
 wpAny (model X.prog X.w) X.A (newList []) (fun acc s₃=>wpAny (model X.prog X.w) X.A (newFunctionEnv scope X.env.globals (Ao X.env.cells scope.names []) [] X.env.qual none .none (some X.env)) (fun cenv s₄ =>
  codeAny (model X.prog X.w) X.A (.compStart (.ListComp elt [⟨tg,iter,ifs,0⟩] scope pos) 0 (.ref it) acc { cenv with scope:=relabel scope X.env }) (RR acc cenv.locals) s₄) E s₃) E s:=by
 obtain ⟨W,⟨m0,w0⟩,turn⟩:=hq
 have hob:∀ b∈fp,∃ o,s.heap.get? b=some o:=fun b hb=>let ⟨o,e,_⟩:=T.obj 0 _ st b hb;⟨o,e⟩
 refine wpAny_newObj_type ?_
 generalize hH1:s.heap.push { cls:=.type "list",dict:=none,data:=.seq ([]:List Value).toArray } = h1
 have hs1:h1.objs.size=s.heap.objs.size+1:=by rw [<- hH1,Heap.size_push]
 have k1:∀ b o,s.heap.get? b=some o->h1.get? b=some o:=fun b o e=>by rw [<- hH1];exact Heap.get?_push_of_some _ e
 have d1:h1.get? s.heap.objs.size=some { cls:=.type "list",data:=.seq ([]:List Value).toArray }:=by rw [<- hH1];exact Heap.get?_push_size _ rfl
 simp only [newFunctionEnv,Option.isSome_some,if_true]
 refine wpAny_bind (wpAny_alloc ?_)
 generalize hH2:(({ s with heap:=h1 }:Shared).heap.push { cls:=.type "dict",data:=.dict #[] })=h2
 have hH2':h1.push { cls:=.type "dict",data:=.dict #[] } = h2:=hH2
 have hs2:h2.objs.size=h1.objs.size+1:=by rw [<- hH2',Heap.size_push]
 have k2:∀ b o,h1.get? b=some o->h2.get? b=some o:=fun b o e=>by rw [<- hH2'];exact Heap.get?_push_of_some _ e
 have n2:h2.Ns h1.objs.size (fun _=>none):=by rw [<- hH2'];exact Heap.Ns.new h1 (.type "dict")
 refine wpAny_bind (wpAny_layCells _ (fun name kind cells=>by cases hkc:kind == NameKind.cell <;> simp [hkc]) _ _ _ _ ?_)
 have ok:=cellsFrom_ok scope.names h2 (h1.objs.size+1) [] ⟨fun _ _ hm=>(nomatch hm),List.Pairwise.nil⟩ (by rw [hs2];exact Nat.le_refl _)
 rw [hs2] at ok
 show wpAny _ _ (forIn ([]:List (Str × Value)) PUnit.unit _ >>= _) _ _ _
 rw [List.forIn_nil]
 refine wpAny_bind (wpAny_pure (wpAny_pure ?_))
 show codeAny _ _ (.compStart _ 0 (.ref it) (.ref s.heap.objs.size) (compEnvC scope (cellsFrom h2.objs.size scope.names (Ao X.env.cells scope.names [])) h1.objs.size X.env)) (RR (.ref s.heap.objs.size) h1.objs.size) { s with heap:=pushCells h2 scope.names }
 rw [hs2]
 generalize hH3:pushCells h2 scope.names=h3 at ok ⊢
 have k3:∀ b o,h2.get? b=some o->h3.get? b=some o:=fun b o e=>by rw [<- hH3];exact pushCells_keeps _ _ b o e
 have kk:∀ b o,s.heap.get? b=some o->h3.get? b=some o:=fun b o e=>k3 b o (k2 b o (k1 b o e))
 have d3:h3.get? s.heap.objs.size=some { cls:=.type "list",data:=.seq ([]:List Value).toArray }:=k3 _ _ (k2 _ _ d1)
 have hC:s.heap.objs.size < h1.objs.size:=by rw [hs1];exact Nat.lt_succ_self _
 have I3:Inv (X.comp scope N' ⟨pins,cellsFrom (h1.objs.size+1) scope.names (Ao X.env.cells scope.names []),s,H,fp,h1.objs.size⟩) [] (cSt own ix σ) H { s with heap:=h3 } :=
  Lp (s4:={ s with heap:=h3 }) I f2 hob S hlen hN hfr hC kk rfl rfl ⟨_,n2.keeps k3⟩ (fun x c hm=>ok.empty x c hm) ok.apart
 generalize hcs:cellsFrom (h1.objs.size+1) scope.names (Ao X.env.cells scope.names [])=cs at I3 ⊢
 generalize hCC:h1.objs.size=C at *
 generalize hDD:s.heap.objs.size=D at *
 have hY:=I3.ok
 -- what is fixed of the records
 have sD:D≠C/\(∀ x c,cs.lookup x=some c->c≠D)/\D∉frs X.stack/\∀ p∈X.pn++pins,p.1≠D:=by
  refine ⟨Nat.ne_of_lt hC,fun x c e z=>?_,fun z=>?_,fun p hp z=>?_⟩
  ·subst z
   have e':=e
   rw [<- hcs,Cr,EK] at e'
   cases q:(cellsFrom (C+1) scope.names []).lookup x with
   | some d =>
    rw [q] at e';cases e'
    have:=(ok.empty x c (mem_of_lookup q)).2
    exact absurd (Nat.lt_of_lt_of_le hC (Nat.le_of_succ_le this)) (Nat.lt_irrefl _)
   | none =>
    rw [q] at e'
    have hfree:∀ y∈scope.names,y.2=.free->∃ c,X.env.cells.lookup y.1=some c:=fun y hy h=>I.ok.has y.1 (S.fr y hy h)
    rcases clOf_mem _ _ _ _ hfree (mem_of_lookup e') with z | ⟨_,z⟩
    ·exact absurd z (by simp)
    ·obtain ⟨v,q⟩:=I.cell x c z
     have:=q.lt
     rw [hDD] at this
     exact Nat.lt_irrefl _ this
  ·exact (I3.nofs (a:=D) (by exact absurd z (by
    intro z'
    obtain ⟨_,o,ho,_⟩:=(show s.heap.FunFrames X.base X.stack from I.stack).mem z'
    have:=Heap.lt_size ho
    rw [hDD] at this
    exact Nat.lt_irrefl _ this))) z
  ·have:=Heap.lt_size (I.pin p hp).1
   rw [z,hDD] at this
   exact Nat.lt_irrefl _ this
 have stat:∀ {H':Hp},(∀ b∈fp,H' b=none)->∀ b∈fp,A4 (X.comp scope N' ⟨pins,cs,s,H,fp,C⟩) [] H' b:=fun {H'} hn b hb=>by
  refine ⟨hn b hb,(hY.exf b hb).1,hY.exfs b hb,.inl hb,(hY.exf b hb).2,fun p hp=>?_⟩
  have hp:p∈(X.pn++pins)++[]:=hp
  rw [List.append_nil] at hp
  exact (f2 b hb).2.2.2.2.2 p hp
 have statD:∀ {H':Hp},H' D=none->A4 (X.comp scope N' ⟨pins,cs,s,H,fp,C⟩) [] H' D:=fun {H'} hn=>by
  refine ⟨hn,sD.1,sD.2.2.1,.inr (Nat.le_of_eq hDD),sD.2.1,fun p hp=>?_⟩
  have hp:p∈(X.pn++pins)++[]:=hp
  rw [List.append_nil] at hp
  exact sD.2.2.2 p hp
 have loop:codeAny (model X.prog X.w) X.A (.compLoop (.ListComp elt [⟨tg,iter,ifs,0⟩] scope pos) 0 (.ref it) (.ref D) (compEnvC scope cs C X.env)) (RR (.ref D) C) { s with heap:=h3 }:=by
  refine JZ (fun n s'=>∃ (i:Nat) (H':Hp) (ys:List V) (its:List Value) (k:Nat),Inv (X.comp scope N' ⟨pins,cs,s,H,fp,C⟩) [] (cSt own ix σ) H' s'/\tn i s'.heap/\(∀ b∈fp,H' b=none)/\H' D=none /\
   s'.heap.get? D=some { cls:=.type "list",data:=.seq its.toArray k } /\ Vals ys its/\ys.length<=sizeLine/\W i n ys H') ?_ m0
   ⟨0,H,[],[],0,I3,T.keep _ _ _ st fun b _ o e=>kk b o e,fun b hb=>(f2 b hb).1,I.hok.fresh (Nat.le_of_eq hDD),d3,.nil,Nat.zero_le _,w0⟩
  rintro n s4 ⟨i,H4,ys,its,k,I4,st4,fr4,dn4,d4,rv4,z4,w4⟩
  rcases turn i n ys H4 w4 with ⟨stop,qn⟩ | ⟨go,zl,N,hN2,step⟩
  ·have ID:=I4.pinned (fp:=[D]) (fun b hb=>by rw [List.mem_singleton.mp hb];exact statD dn4) (fun b hb=>by rw [List.mem_singleton.mp hb];exact ⟨_,d4,fun v z=>nomatch z⟩)
   have nD:∀ b∈fp,b≠D:=fun b hb z=>by
    obtain ⟨o,e⟩:=hob b hb
    have:=Heap.lt_size e
    rw [z,hDD] at this
    exact Nat.lt_irrefl _ this
   have stat':∀ b∈fp,A4 (X.comp scope N' ⟨pins,cs,s,H,fp,C⟩) ([]++BK [D] s4.heap) H4 b:=fun b hb=>by
    obtain ⟨q1,q2,q3,q4,q5,q6⟩:=stat fr4 b hb
    refine ⟨q1,q2,q3,q4,q5,fun p hp=>?_⟩
    rcases List.mem_append.mp hp with z | z
    ·exact q6 p (List.mem_append_left _ z)
    ·have:=(FH (by simpa using z:p∈BK [D] s4.heap)).1
     rw [List.mem_singleton.mp this]
     exact fun z=>nD b hb z.symm
   refine thn (T.done (X.comp scope N' ⟨pins,cs,s,H,fp,C⟩) rfl rfl rfl hc i _ s4 _ H4 (fun _ _=>False) ID stat' st4 stop) fun r s5 ⟨hr,I5⟩=>?_
   subst hr
   obtain ⟨m,hm,_⟩:=I5.loc
   refine fin D C s5 H4 ys its k I5.os I5.bare I5.base I5.hok ⟨m,hm⟩ I5.free (Nat.le_of_lt hC) dn4 (Nat.le_refl _) sD.1 ?_ rv4 z4 qn
   ·exact (I5.pin (D,_) (List.mem_append_right _ (List.mem_append_right _ (Cf (List.mem_singleton.mpr rfl) d4)))).1
  ·have nD:∀ b∈fp,b≠D:=fun b hb z=>by
    obtain ⟨o,e⟩:=hob b hb
    have:=Heap.lt_size e
    rw [z,hDD] at this
    exact Nat.lt_irrefl _ this
   have ID:=I4.pinned (fp:=[D]) (fun b hb=>by rw [List.mem_singleton.mp hb];exact statD dn4) (fun b hb=>by rw [List.mem_singleton.mp hb];exact ⟨_,d4,fun v z=>nomatch z⟩)
   have statP:∀ {H':Hp},(∀ b∈fp,H' b=none)->∀ b∈fp,A4 (X.comp scope N' ⟨pins,cs,s,H,fp,C⟩) ([]++BK [D] s4.heap) H' b:=fun {H'} hn b hb=>by
    obtain ⟨q1,q2,q3,q4,q5,q6⟩:=stat hn b hb
    refine ⟨q1,q2,q3,q4,q5,fun p hp=>?_⟩
    rcases List.mem_append.mp hp with z | z
    ·exact q6 p (List.mem_append_left _ z)
    ·have:=(FH (by simpa using z:p∈BK [D] s4.heap)).1
     rw [List.mem_singleton.mp this]
     exact fun z=>nD b hb z.symm
   refine thn (T.item (X.comp scope N' ⟨pins,cs,s,H,fp,C⟩) rfl rfl rfl hc i _ s4 _ H4 (fun _ _=>False) ID (statP fr4) st4 go) fun r s5 ⟨u,hr,h5⟩=>?_
   subst hr
   refine thn h5 fun _ s6 ⟨x,H6,I6,r6,y6,st6,fr6⟩=>?_
   have I6':=I6.pinned (statP fr6) (T.obj _ _ st6)
   refine thn (hg _ _ s6 _ H6 x u _ I6' r6 (hgo _ _ _ _ (step x H6 y6))) fun _ s7 ⟨σ7,H7,I7,⟨e7,k7⟩,q7⟩=>?_
   have I7':Inv (X.comp scope N' ⟨pins,cs,s,H,fp,C⟩) ([]++BK [D] s4.heap++BK fp s6.heap) σ7 H7 s7:=I7
   refine thn (ht _ _ s7 σ7 H7 _ I7' q7) fun b s8 ⟨H8,I8,q8⟩=>?_
   -- what is kept through the turn
   have back:∀ {s9:Shared} {H9:Hp},Inv (X.comp scope N' ⟨pins,cs,s,H,fp,C⟩) ([]++BK [D] s4.heap++BK fp s6.heap) σ7 H9 s9 ->
    Inv (X.comp scope N' ⟨pins,cs,s,H,fp,C⟩) [] (cSt own ix σ) H9 s9/\tn (i+1) s9.heap/\(∀ b∈fp,H9 b=none)/\H9 D=none/\s9.heap.get? D=some { cls:=.type "list",data:=.seq its.toArray k }:=fun {s9 H9} I9=>by
    have pD:=I9.pin (D,_) (List.mem_append_right _ (List.mem_append_left _ (List.mem_append_right _ (Cf (List.mem_singleton.mpr rfl) d4))))
    refine ⟨I9.unpinned.unpinned.weak (by rw [e7]) fun j v hj=>?_,T.keep _ _ _ st6 fun b hb o e=>(I9.pin (b,o) (List.mem_append_right _ (List.mem_append_right _ (Cf hb e)))).1,fun b hb=>?_,pD.2.1,pD.1⟩
    ·rw [k7 j (MW hj)];exact hj
    ·obtain ⟨o,e,_⟩:=T.obj _ _ st6 b hb
     exact (I9.pin (b,o) (List.mem_append_right _ (List.mem_append_right _ (Cf hb e)))).2.1
   cases b with
   | false =>
    rw [if_neg Bool.false_ne_true] at q8
    obtain ⟨m',hm,w8⟩:=hN2 _ _ q8
    obtain ⟨b1,b2,b3,b4,b5⟩:=back I8
    exact ⟨m',hm,i+1,H8,ys,its,k,b1,b2,b3,b4,b5,rv4,z4,w8⟩
   | true =>
    rw [if_pos rfl] at q8
    rw [if_pos rfl]
    refine thn (he _ _ s8 σ7 H8 _ I8 q8) fun yv s9 ⟨y,H9,I9,r9,q9⟩=>?_
    obtain ⟨m',hm,w9⟩:=hN2 _ _ q9
    obtain ⟨b1,b2,b3,b4,b5⟩:=back I9
    have hl:=rv4.length
    refine call_meets F.slot_list_append ⟨_,b5,rfl⟩ F.entry_list_append (F.args_list_append_2 _ _) (PySem.list_append D its.toArray k yv (by rw [List.size_toArray];lia)) ⟨b5,?_⟩
    have up:=PySem.IsL.update b5 (fun a=>a.push yv)
    have keep:∀ b o,b≠D->s9.heap.get? b=some o->(s9.heap.update D (Obj.mapSeq fun a=>a.push yv)).get? b=some o:=fun b o hb q=>(Heap.get?_update_other _ _ (Ne.symm hb)).trans q
    obtain ⟨f0,f1,f2',f3,f4,f5⟩:=statD b4
    refine ⟨m',hm,i+1,H9,ys++[y],its++[yv],(if ((its.toArray.push yv).size == its.toArray.size)=true then k else k+1),b1.turned (t':=s9.toks) keep b4 f1 f3 f4 f5,?_,b3,b4,?_,rv4.append (.cons r9 .nil),?_,w9⟩
    ·exact T.keep _ _ _ b2 fun b hb o e=>keep b o (nD b hb) e
    ·have e2:(its.toArray.push yv)=(its++[yv]).toArray:=by simp
     rw [<- e2]
     exact up
    ·rw [List.length_append,List.length_singleton]
     lia
 exact codeAny_compStart_list loop (T.self X.A 0 _ _ _ (T.keep _ _ _ st fun b _ o e=>kk b o e) loop)
end
section
variable {X:Cx} {pins:List (Addr × Obj)} {σ:St} {H:Hp} {s:Shared} {fp:List Addr} {it:Addr} {tn:Nat->Heap->Prop} {J:It} {tg iter elt:Expr} {ifs:List Expr} {scope:Scope} {pos:Pos} {N':List Str} {own:Nat} {ix:List Nat} {g:TG} {tc:TT} {te:TE} {wi:TI} {E:Value->Shared->Prop}
theorem HL {H':Hp} {s':Shared} {D:Addr} {ys:List V} {its:List Value} {n:Nat} (I:Inv X pins σ H s) (f2:∀ b∈fp,A4 X pins H b) (ho:s'.os=s.os) (hg:AllBare s'.gens) (u:Un (frs X.stack) fp H H' s.heap s'.heap) (hok:HOk X.prog X.w H' s'.heap)
 (dn:H' D=none) (ds:s.heap.objs.size<=D) (d:s'.heap.get? D=some { cls:=.type "list",data:=.seq its.toArray n }) (rv:Vals ys its) (z:ys.length<=sizeLine):Inv X pins σ (upd H' D (.lst ys)) s':=by
 have nD:∀ b o,s.heap.get? b=some o->b≠D:=fun b o e q=>by rw [q,Heap.get?_none_of_le ds] at e;cases e
 have nH:∀ b o,H' b=some o->b≠D:=fun b o e q=>by rw [q,dn] at e;cases e
 refine I.call' (ch:=fp) ho ⟨u.keep,u.slot,fun b o e q hx=>?_,u.there,fun b xs e=>?_,fun b o v e=>?_,fun b ps e=>?_⟩ (fun b o e=>?_) hg fun b hb=>?_
 ·rw [AI (nD b o e)];exact u.free b o e q hx
 ·have:=u.tups b xs e
  rw [AI (nH _ _ this)];exact this
 ·have:=u.frzs b o v e
  rw [AI (nH _ _ this)];exact this
 ·obtain ⟨more,q⟩:=u.tbls b ps e
  exact ⟨more,by rw [AI (nH _ _ q)];exact q⟩
 ·by_cases hb:b=D
  ·subst hb
   rw [AJ] at e
   cases e
   exact ⟨z,its,n,rv,d⟩
  ·rw [AI hb] at e
   exact (hok b o e).stay (fun _ _ _ q=>q) (fun c q=>by rw [AI (nH _ _ q)];exact q) fun c xs q=>by rw [AI (nH _ _ q)];exact q
 ·obtain ⟨q1,q2,q3,q4,q5,q6⟩:=f2 b hb
  exact ⟨q4,q2,q5,q6⟩
theorem Inv.dictGone {s':Shared} {h':Heap} {C:Addr} {H':Hp} {σ':St} (I:Inv X pins σ H s) (J:Inv X pins σ' H' s') (hC:s.heap.objs.size<=C) (hn:H' C=none) (k:Heap.SameBut C s'.heap h'):Inv X pins σ' H' { s' with heap:=h' }:=by
 have hC0:=Heap.get?_none_of_le hC
 refine J.turned (t':=s'.toks) (fun b o hb e=>(k.2 b hb).trans e) hn (fun z=>?_) (.inr (Nat.le_trans I.sz hC)) (fun x c e z=>?_) fun p hp z=>?_
 ·obtain ⟨m,⟨o,_,_,ho,_⟩,_⟩:=I.loc
  rw [<- z,hC0] at ho;cases ho
 ·obtain ⟨v,o,ho,_⟩:=I.cell x c e
  rw [z,hC0] at ho;cases ho
 ·have:=(I.pin p hp).1
  rw [z,hC0] at this;cases this
theorem Nh (hc:X.calm=true) (hi:PI X tg iter wi) (S:CompScope scope X.env.scope)
 (hlen:N'.length=own+ix.length) (hN:(N'.drop own).map some=ix.map (X.N[·]?)) (hfr:∀ x∈N'.drop own,scope.names.lookup x=some .free)
 (hg:∀ c,PG (X.comp scope N' c) tg g) (hgo:Bj own g) (ht:∀ c,PTs (X.comp scope N' c) ifs tc) (he:∀ c,PE (X.comp scope N' c) elt te)
 (hs:∀ x,foldedSetIterable iter X.env x=pure x:=by intro _;rfl):PE X (.ListComp elt [⟨tg,iter,ifs,0⟩] scope pos) (DN wi own ix g tc te):=by
 intro pins s σ H Q I h
 rw [eval_ListComp]
 have hfree:∀ y∈scope.names,y.2=.free->∃ c,X.env.cells.lookup y.1=some c:=fun y hy h=>I.ok.has y.1 (S.fr y hy h)
 refine wpAny_comprehension_free (use:=none) rfl hs (HS hfree) S.kind (fun y hy hl=>Bv S.nd (by rw [<- hl];exact hy)) ?_
 refine thn (hi pins s σ H _ I h) fun v s1 h1=>thn h1 fun itv s2 h2=>?_
 obtain ⟨it,fp,tn,J,H2,e,I2,T,st2,f2,q2⟩:=h2
 subst e
 refine Hx (RR:=fun acc C=>compPost (model X.prog X.w) X.A X.xe none (EP X pins σ Q) acc C) I2 T st2 f2 hc S hlen hN hfr hg hgo ht he q2 ?_
 intro D C s' H' ys its n ho hgn u hok hm hC hCs hD hDs hDC d rv z q
 obtain ⟨m,hm⟩:=hm
 have I3:=HL I2 f2 ho hgn u hok hD hDs d rv z
 refine ⟨m,hm,fun h' hs'=>?_⟩
 exact ⟨.ref D,_,I2.dictGone I3 hCs (by rw [AI (Ne.symm hDC)];exact hC) hs',rfl,q D hD⟩
theorem L3 {i:Nat} {y:Str} {py spos:Pos} (hc:X.calm=true) (hnd:X.N.Nodup) (hiy:X.N[i]? = some y) (hy:X.env.scope.names.lookup y=some .local) (hi:PI X tg iter wi) (S:CompScope scope X.env.scope)
 (hlen:N'.length=own+ix.length) (hN:(N'.drop own).map some=ix.map (X.N[·]?)) (hfr:∀ x∈N'.drop own,scope.names.lookup x=some .free)
 (hg:∀ c,PG (X.comp scope N' c) tg g) (hgo:Bj own g) (ht:∀ c,PTs (X.comp scope N' c) ifs tc) (he:∀ c,PE (X.comp scope N' c) elt te)
 (hsw:swapsWith (.ListComp elt [⟨tg,iter,ifs,0⟩] scope pos) (some (.Name y py)) spos.line X.env=pure true)
 (hs:∀ x,foldedSetIterable iter X.env x=pure x:=by intro _;rfl):PS X (.Assign [.Name y py] (.ListComp elt [⟨tg,iter,ifs,0⟩] scope pos) spos) (DH (DN wi own ix g tc te) (AV i)):=by
 intro pins s σ H D I h
 rw [exec_Assign_Name_used _ _ _ _ hsw]
 refine wpAny_bind (wpAny_standAt (wpAny_bind ?_))
 show wpAny _ _ (do let _ <- comprehension (.ListComp elt [⟨tg,iter,ifs,0⟩] scope pos) scope X.env _ (newList []) false (eval iter X.env) (some (assign (.Name y py) X.env))) _ _ s
 have hfree:∀ y∈scope.names,y.2=.free->∃ c,X.env.cells.lookup y.1=some c:=fun y hy h=>I.ok.has y.1 (S.fr y hy h)
 refine wpAny_bind (wpAny_mono (wpAny_comprehension_free (use:=some (assign (.Name y py) X.env)) (Q:=fun _ s'=>SP X pins D .next s') rfl hs (HS hfree) S.kind (fun y hy hl=>Bv S.nd (by rw [<- hl];exact hy)) ?_) (fun _ s' hq=>wpAny_pure (wpAny_pure hq)) fun _ _ e=>e)
 refine thn (hi pins s σ H _ I h) fun v s1 h1=>thn h1 fun itv s2 h2=>?_
 obtain ⟨it,fp,tn,J,H2,e,I2,T,st2,f2,q2⟩:=h2
 subst e
 refine Hx (RR:=fun acc C=>compPost (model X.prog X.w) X.A X.xe (some (assign (.Name y py) X.env)) (fun _ s'=>SP X pins D .next s') acc C) I2 T st2 f2 hc S hlen hN hfr hg hgo ht he q2 ?_
 intro d C s' H' ys its n ho hgn u hok hm hC hCs hD hDs hDC hd rv z q
 obtain ⟨m,hm⟩:=hm
 have I3:=HL I2 f2 ho hgn u hok hD hDs hd rv z
 show wpAny _ _ (assign (.Name y py) X.env (.ref d)) _ _ s'
 have hCn:(upd H' d (.lst ys)) C=none:=by rw [AI (Ne.symm hDC)];exact hC
 refine wpAny_assign_Name (Gd I3 hnd hiy (.inl hy) (v:=.ref d) rfl (fun s3 I4 ⟨a,sb,ha⟩=>?_) (.inr hy))
 have ha':a≠C:=fun e=>by
  have hC0:=Heap.get?_none_of_le hCs
  rcases ha with z | z
  ·obtain ⟨m,⟨o,_,_,ho,_⟩,_⟩:=I2.loc
   rw [<- z,e,hC0] at ho;cases ho
  ·obtain ⟨v,o,ho,_⟩:=I2.cell y a z
   rw [e,hC0] at ho;cases ho
 refine ⟨m,hm.sameBut sb (Ne.symm ha'),fun h' hs'=>?_⟩
 exact ⟨_,_,I2.dictGone I4 hCs hCn hs',q d hD⟩
end
section
variable {X:Cx}
theorem PE.imp {e:Expr} {t t':TE} (h:PE X e t) (f:∀ σ H Q,t' σ H Q->t σ H Q):PE X e t':=fun pins s σ H Q I q=>h pins s σ H Q I (f σ H Q q)
theorem OpR.imp {f:Value->Value->Sem Value} {r r':R2} (h:OpR X f r) (g:∀ x y H Q,r' x y H Q->r x y H Q):OpR X f r':=fun pins s σ H x y v u Q I rx ry q=>h pins s σ H x y v u Q I rx ry (g _ _ _ _ q)
theorem CallR.imp {f:Value} {r r':List V->Hp->VK->Prop} (h:CallR X f r) (g:∀ x H Q,r' x H Q->r x H Q):CallR X f r':=fun pins s σ H xs us Q I r q=>h pins s σ H xs us Q I r (g _ _ _ q)
def EC (i:Nat):TE:=fun σ H Q=>match σ[i]? with
 | some (some v)=>Q v H
 | _=>False
theorem vv (i:Nat) {x:Str} {pos:Pos} (hN:X.N[i]? = some x:=by rfl) (hv:Vis X.env.scope x:=by first | exact Or.inl rfl | exact Or.inr (Or.inl rfl) | exact Or.inr (Or.inr rfl)) (hd:(x == ("__debug__" : Str))=false:=by decide)
 (hcd:(x == ("__classdict__" : Str))=false:=by decide):PE X (.Name x pos) (EC i):=(LP hN hv hd hcd).imp fun σ H Q q=>by
 unfold EC at q
 split at q
 ·rename_i v e;exact ⟨v,e,q⟩
 ·exact q.elim
def okMul (i j:Int):Prop:=(i.natAbs < 2 ^ 4096/\j.natAbs < 2 ^ 4096)\/(-(2 ^ 64) < i/\i < 2 ^ 64)\/(-(2 ^ 64) < j/\j < 2 ^ 64)
theorem G7 {i:Int} (h:i.natAbs < 2 ^ 4096):Builtin.Int.intBits i<=2 ^ 20:=by
 unfold Builtin.Int.intBits
 split
 ·exact Nat.zero_le _
 ·rename_i hz
  have hne:i.natAbs≠0:=by
   have:¬ i=0:=by simpa using hz
   lia
  have:=(Nat.log2_lt hne).mpr h
  have e:(2:Nat) ^ 20=1048576:=by decide
  lia
theorem okMul.ok {i j:Int} (h:okMul i j):IntMulOk i j:=by
 rcases h with ⟨h1,h2⟩ | h | h
 ·exact .of_bits (G7 h1) (G7 h2)
 ·exact CMul.ok (.inl h)
 ·exact CMul.ok (.inr h)
def okDiv (j:Int):Prop:=0 < j/\j < 2 ^ 4096
theorem okDiv.ok {i j:Int} (h:okDiv j):Builtin.divisionGoesByPylong i j=false:=by
 refine PyProof.noPylong_of_log2 ?_
 obtain ⟨h1,h2⟩:=h
 have hne:j.natAbs≠0:=by lia
 have h3:j.natAbs < 2 ^ 4096:=by
  have e:((j.natAbs:Int))=j:=by lia
  have h2':((j.natAbs:Nat):Int) < ((2 ^ 4096:Nat):Int):=by rw [e,Int.natCast_pow];exact h2
  exact Int.ofNat_lt.mp h2'
 have:=(Nat.log2_lt hne).mpr h3
 lia
def CC (K:W.Frag):R2:=fun x y H Q=>match x,y with
 | .int i,.int j=>Q (.int (i+j)) H
 | .str a,.str b=>a.length+b.length<=sizeLine/\Q (.str (a++b)) H
 | .ref a,.ref b=>G0 (.ref a) (.ref b) H Q\/Hm K (.ref a) (.ref b) H Q
 | _,_=>False
theorem ME:OpR X (binaryOp .Add) (CC X.K):=by
 intro pins s σ H x y v u Q I rx ry q
 cases x <;> cases y <;> first
  | exact False.elim q
  | exact LJ pins s σ H _ _ v u Q I rx ry ⟨_,_,rfl,rfl,q⟩
  | exact LW pins s σ H _ _ v u Q I rx ry ⟨_,_,rfl,rfl,q.1,q.2⟩
  | (rcases q with q | q
     ·exact M3 pins s σ H _ _ v u Q I rx ry q
     ·exact Mh pins s σ H _ _ v u Q I rx ry q)
def Bw:R2:=fun x y H Q=>match x,y with
 | .int i,.int j=>Q (.int (i - j)) H
 | _,_=>False
theorem BF:OpR X (binaryOp .Sub) Bw:=by
 intro pins s σ H x y v u Q I rx ry q
 cases x <;> cases y <;> first
  | exact False.elim q
  | exact KF pins s σ H _ _ v u Q I rx ry ⟨_,_,rfl,rfl,q⟩
def FZ:R2:=fun x y H Q=>match x,y with
 | .int i,.int j=>okMul i j/\Q (.int (i * j)) H
 | .ref a,.int k=>Is (.ref a) (.int k) H Q
 | _,_=>False
theorem AU:OpR X (binaryOp .Mult) FZ:=by
 have hI:OpR X (binaryOp .Mult) (rI okMul fun i j=>.int (i * j)):=opI fun _ _ _ _ _ _ _ hc q=>mul_int q hc.ok
 intro pins s σ H x y v u Q I rx ry q
 cases x <;> cases y <;> first
  | exact False.elim q
  | exact hI pins s σ H _ _ v u Q I rx ry ⟨_,_,rfl,rfl,q.1,q.2⟩
  | exact NF pins s σ H _ _ v u Q I rx ry q
def GC:R2:=fun x y H Q=>match x,y with
 | .int i,.int j=>okDiv j/\Q (.int (i / j)) H
 | _,_=>False
theorem Bb:OpR X (binaryOp .FloorDiv) GC:=by
 have hI:OpR X (binaryOp .FloorDiv) (rI (fun _ j=>okDiv j) fun i j=>.int (i / j)):=opI fun i j _ _ _ _ _ hc q=>by
  refine floordiv_int (by have:=hc.1;lia) ?_ (.inl hc.ok)
  rw [Int.fdiv_eq_ediv_of_nonneg i (by have:=hc.1;lia)]
  exact q
 intro pins s σ H x y v u Q I rx ry q
 cases x <;> cases y <;> first
  | exact False.elim q
  | exact hI pins s σ H _ _ v u Q I rx ry ⟨_,_,rfl,rfl,q.1,q.2⟩
def Ev:R2:=fun x y H Q=>match x,y with
 | .int i,.int j=>0 < j/\Q (.int (i % j)) H
 | _,_=>False
theorem BG:OpR X (binaryOp .Mod) Ev:=by
 intro pins s σ H x y v u Q I rx ry q
 cases x <;> cases y <;> first
  | exact False.elim q
  | exact JT pins s σ H _ _ v u Q I rx ry ⟨_,_,rfl,rfl,q.1,q.2⟩
def JN:R2:=fun x y H Q=>match x,y with
 | .int i,.int j=>DU i j/\Q (.int (i ^ j.toNat)) H
 | _,_=>False
theorem G9:OpR X (binaryOp .Pow) JN:=by
 intro pins s σ H x y v u Q I rx ry q
 cases x <;> cases y <;> first
  | exact False.elim q
  | exact LX pins s σ H _ _ v u Q I rx ry ⟨_,_,rfl,rfl,q.1,q.2⟩
def D8 (f:Int->Int->Int):R2:=fun x y H Q=>match x,y with
 | .int i,.int j=>Q (.int (f i j)) H
 | _,_=>False
theorem E5:OpR X (binaryOp .BitAnd) (D8 Builtin.bitAnd):=by
 intro pins s σ H x y v u Q I rx ry q
 cases x <;> cases y <;> first
  | exact False.elim q
  | exact KA pins s σ H _ _ v u Q I rx ry ⟨_,_,rfl,rfl,q⟩
theorem HZ:OpR X (binaryOp .BitXor) (D8 Builtin.bitXor):=by
 intro pins s σ H x y v u Q I rx ry q
 cases x <;> cases y <;> first
  | exact False.elim q
  | exact K4 pins s σ H _ _ v u Q I rx ry ⟨_,_,rfl,rfl,q⟩
def Fg:R2:=fun x y H Q=>match x,y with
 | .int i,.int j=>DU i j/\Q (.int (i * 2 ^ j.toNat)) H
 | _,_=>False
theorem DR:OpR X (binaryOp .LShift) Fg:=by
 intro pins s σ H x y v u Q I rx ry q
 cases x <;> cases y <;> first
  | exact False.elim q
  | exact MB pins s σ H _ _ v u Q I rx ry ⟨_,_,rfl,rfl,q.1,q.2⟩
def JX:V->Hp->VK->Prop:=fun x H Q=>match x with
 | .int i=>Q (.int (-i)) H
 | _=>False
theorem J6:UnR X (unaryOp .USub) JX:=by
 intro pins s σ H x v Q I rx q
 cases x <;> first
  | exact False.elim q
  | exact J3 pins s σ H _ v Q I rx ⟨_,rfl,q⟩
def DV (p:Int->Int->Bool):R2:=fun x y H Q=>match x,y with
 | .int i,.int j=>Q (.bl (p i j)) H
 | _,_=>False
theorem Fe:OpR X (compareOp .Lt) (DV fun i j=>decide (i < j)):=by
 intro pins s σ H x y v u Q I rx ry q
 cases x <;> cases y <;> first
  | exact False.elim q
  | exact Jd pins s σ H _ _ v u Q I rx ry ⟨_,_,rfl,rfl,q⟩
theorem CD:OpR X (compareOp .Gt) (DV fun i j=>decide (j < i)):=by
 intro pins s σ H x y v u Q I rx ry q
 cases x <;> cases y <;> first
  | exact False.elim q
  | exact NK pins s σ H _ _ v u Q I rx ry ⟨_,_,rfl,rfl,q⟩
theorem M5:OpR X (compareOp .GtE) (DV fun i j=>decide (j<=i)):=by
 intro pins s σ H x y v u Q I rx ry q
 cases x <;> cases y <;> first
  | exact False.elim q
  | exact NG pins s σ H _ _ v u Q I rx ry ⟨_,_,rfl,rfl,q⟩
end
inductive Dv where
 | non | bl (b:Bool) | int (i:Int) | str (x:Str) | tup (ds:List Dv) | lst (ds:List Dv)
mutual
def Rep (K:W.Frag) (H:Hp):Dv->V->Prop
 | .non,v=>v=.non
 | .bl b,v=>v=.bl b
 | .int i,v=>v=.int i
 | .str x,v=>v=.str x
 | .tup ds,v=>∃ a xs,v=.ref a/\SqT K H a xs/\Reps K H ds xs
 | .lst ds,v=>∃ a xs,v=.ref a/\SqL K H a xs/\Reps K H ds xs
def Reps (K:W.Frag) (H:Hp):List Dv->List V->Prop
 | [],xs=>xs=[]
 | d::ds,xs=>∃ x r,xs=x::r/\Rep K H d x/\Reps K H ds r
end
mutual
def eqD:Dv->Dv->Bool
 | .non,.non=>true
 | .bl a,.bl b=>a == b
 | .bl a,.int b=>(if a then 1 else 0) == b
 | .int a,.bl b=>a == (if b then 1 else 0)
 | .int a,.int b=>a == b
 | .str a,.str b=>a == b
 | .tup ds,.tup es=>Az ds es
 | .lst ds,.lst es=>Az ds es
 | _,_=>false
def Az:List Dv->List Dv->Bool
 | [],[]=>true
 | d::ds,e::es=>eqD d e && Az ds es
 | _,_=>false
end
mutual
def AR:Dv->Nat
 | .tup ds=>Ax ds+1
 | .lst ds=>Ax ds+1
 | _=>0
def Ax:List Dv->Nat
 | []=>0
 | d::ds=>max (AR d) (Ax ds)
end
theorem Ms (ds es:List Dv):eqD (.tup ds) (.tup es)=Az ds es:=by rw [eqD]
theorem Ih (ds es:List Dv):eqD (.lst ds) (.lst es)=Az ds es:=by rw [eqD]
theorem Reps.length {K:W.Frag} {H:Hp}:∀ {ds:List Dv} {xs:List V},Reps K H ds xs->ds.length=xs.length
 | [],xs,h=>by unfold Reps at h;subst h;rfl
 | d::ds,xs,h=>by
  unfold Reps at h
  obtain ⟨x,r,rfl,_,h⟩:=h
  rw [List.length_cons,List.length_cons,Reps.length h]
theorem Reps.get {K:W.Frag} {H:Hp}:∀ {ds:List Dv} {xs:List V} {i:Nat} {d:Dv},Reps K H ds xs->ds[i]? = some d->∃ x,xs[i]? = some x/\Rep K H d x
 | [],_,_,_,_,e=>by simp at e
 | d::ds,xs,0,_,h,e=>by
  unfold Reps at h
  obtain ⟨x,r,rfl,h1,_⟩:=h
  simp at e;subst e
  exact ⟨x,rfl,h1⟩
 | d::ds,xs,i+1,_,h,e=>by
  unfold Reps at h
  obtain ⟨x,r,rfl,_,h⟩:=h
  obtain ⟨y,h1,h2⟩:=Reps.get (i:=i) h (by simpa using e)
  exact ⟨y,by simpa using h1,h2⟩
theorem HC {ds:List Dv} {i:Nat} {d:Dv} (h:ds[i]? = some d):AR d<=Ax ds:=by
 induction ds generalizing i with
 | nil=>simp at h
 | cons e es ih =>
  unfold Ax
  cases i with
  | zero=>simp at h;subst h;lia
  | succ i=>have:=ih (i:=i) (by simpa using h);lia
theorem Ee:∀ (ds es:List Dv),ds.length=es.length->Az ds es=(List.range ds.length).all fun i=>match ds[i]?,es[i]? with | some d,some e=>eqD d e | _,_=>false
 | [],[],_=>by unfold Az;rfl
 | d::ds,e::es,h=>by
  unfold Az
  rw [List.length_cons,List.range_succ_eq_map,List.all_cons,List.all_map,Ee ds es (by simpa using h)]
  congr 1
 | [],e::es,h=>by simp at h
 | d::ds,[],h=>by simp at h
theorem Fa:∀ (ds es:List Dv),ds.length≠es.length->Az ds es=false
 | [],[],h=>absurd rfl h
 | [],_::_,_=>by unfold Az;rfl
 | _::_,[],_=>by unfold Az;rfl
 | d::ds,e::es,h=>by unfold Az;rw [Fa ds es (fun z=>h (by simp [z])),Bool.and_false]
mutual
theorem FV:∀ d:Dv,eqD d d=true
 | .non=>by unfold eqD;rfl
 | .bl b=>by unfold eqD;simp
 | .int i=>by unfold eqD;simp
 | .str x=>by unfold eqD;simp
 | .tup ds=>by unfold eqD;exact FY ds
 | .lst ds=>by unfold eqD;exact FY ds
theorem FY:∀ ds:List Dv,Az ds ds=true
 | []=>by unfold Az;rfl
 | d::ds=>by unfold Az;rw [FV d,FY ds];rfl
end
section
variable {X:Cx} {pins:List (Addr × Obj)} {σ:St} {H:Hp} {s:Shared}
theorem GT {a:Addr} {xs ys:List V} (I:Inv X pins σ H s) (h:SqL X.K H a xs) (h':SqT X.K H a ys):False:=by
 obtain ⟨its,_,⟨o,n,e,c,_⟩,_⟩:=I.list h
 obtain ⟨its',_,⟨o',e',c',_⟩,_⟩:=I.tuple h'
 rw [e] at e';cases e'
 rw [c] at c'
 exact absurd c' (by decide)
mutual
theorem EV (I:Inv X pins σ H s):∀ (d e:Dv) (x:V),Rep X.K H d x->Rep X.K H e x->d=e
 | .non,e,x,h,h'=>by
  unfold Rep at h;subst h
  cases e <;> unfold Rep at h' <;> first | rfl | (obtain ⟨a,xs,q,_⟩:=h';cases q;done) | (cases h';done)
 | .bl b,e,x,h,h'=>by
  unfold Rep at h;subst h
  cases e <;> unfold Rep at h' <;> first | (obtain ⟨a,xs,q,_⟩:=h';cases q;done) | (cases h';rfl) | (cases h';done)
 | .int b,e,x,h,h'=>by
  unfold Rep at h;subst h
  cases e <;> unfold Rep at h' <;> first | (obtain ⟨a,xs,q,_⟩:=h';cases q;done) | (cases h';rfl) | (cases h';done)
 | .str b,e,x,h,h'=>by
  unfold Rep at h;subst h
  cases e <;> unfold Rep at h' <;> first | (obtain ⟨a,xs,q,_⟩:=h';cases q;done) | (cases h';rfl) | (cases h';done)
 | .tup ds,e,x,h,h'=>by
  unfold Rep at h
  obtain ⟨a,xs,rfl,hs,hr⟩:=h
  cases e with
  | tup es =>
   unfold Rep at h'
   obtain ⟨b,ys,q,hs',hr'⟩:=h'
   cases q
   rw [I.tuple_inj hs' hs] at hr'
   rw [Ei I ds es xs hr hr']
  | lst es =>
   unfold Rep at h'
   obtain ⟨b,ys,q,hs',hr'⟩:=h'
   cases q
   exact (GT I hs' hs).elim
  | _=>unfold Rep at h';cases h'
 | .lst ds,e,x,h,h'=>by
  unfold Rep at h
  obtain ⟨a,xs,rfl,hs,hr⟩:=h
  cases e with
  | lst es =>
   unfold Rep at h'
   obtain ⟨b,ys,q,hs',hr'⟩:=h'
   cases q
   rw [I.list_inj hs' hs] at hr'
   rw [Ei I ds es xs hr hr']
  | tup es =>
   unfold Rep at h'
   obtain ⟨b,ys,q,hs',hr'⟩:=h'
   cases q
   exact (GT I hs hs').elim
  | _=>unfold Rep at h';cases h'
theorem Ei (I:Inv X pins σ H s):∀ (ds es:List Dv) (xs:List V),Reps X.K H ds xs->Reps X.K H es xs->ds=es
 | [],es,xs,h,h'=>by
  unfold Reps at h;subst h
  cases es with
  | nil=>rfl
  | cons e es=>unfold Reps at h';obtain ⟨x,r,q,_⟩:=h';cases q
 | d::ds,es,xs,h,h'=>by
  unfold Reps at h
  obtain ⟨x,r,rfl,h1,h2⟩:=h
  cases es with
  | nil=>unfold Reps at h';cases h'
  | cons e es =>
   unfold Reps at h'
   obtain ⟨y,r',q,h3,h4⟩:=h'
   cases q
   rw [EV I d e _ h1 h3,Ei I ds es _ h2 h4]
end
abbrev Eq3 (A:Around) (s:Shared) (u v:Value) (b:Bool):Prop:=SeqAt.EqAt A s u v b/\SeqAt.RcAt A s u v b/\SeqAt.RcNeAt A s u v (!b)
theorem Mv {A:Around} {a b:Addr} {xs ys:List V} {ds es:List Dv} (I:Inv X pins σ H s) (hu:A.units < cLine) (ha:SqT X.K H a xs) (hb:SqT X.K H b ys) (hd:Reps X.K H ds xs) (he:Reps X.K H es ys)
 (ih:∀ (i:Nat) (d e:Dv) (x y:V) (u v:Value),ds[i]? = some d->es[i]? = some e->xs[i]? = some x->ys[i]? = some y->RelV x u->RelV y v->SeqAt.EqAt A.in1 s u v (eqD d e)):Eq3 A s (.ref a) (.ref b) (eqD (.tup ds) (.tup es)):=by
 obtain ⟨its,r1,p1,_⟩:=I.tuple ha
 obtain ⟨its2,r2,p2,_⟩:=I.tuple hb
 have l1:=hd.length;have l2:=he.length;have l3:=r1.length;have l4:=r2.length
 have hitem:∀ j (h1:j < its.toArray.size) (h2:j < its2.toArray.size),SeqAt.EqAt A.in1 s its.toArray[j] its2.toArray[j] (match ds[j]?,es[j]? with | some d,some e=>eqD d e | _,_=>false):=fun j h1 h2=>by
  rw [List.size_toArray] at h1 h2
  have e1:ds[j]? = some ds[j]:=List.getElem?_eq_getElem (by lia)
  have e2:es[j]? = some es[j]:=List.getElem?_eq_getElem (by lia)
  have e3:xs[j]? = some xs[j]:=List.getElem?_eq_getElem (by lia)
  have e4:ys[j]? = some ys[j]:=List.getElem?_eq_getElem (by lia)
  obtain ⟨u,q1,q2⟩:=r1.get e3
  obtain ⟨v,q3,q4⟩:=r2.get e4
  rw [e1,e2]
  have z1:its.toArray[j]=u:=by rw [List.getElem_toArray];rw [List.getElem?_eq_getElem h1] at q1;exact Option.some.inj q1
  have z2:its2.toArray[j]=v:=by rw [List.getElem_toArray];rw [List.getElem?_eq_getElem h2] at q3;exact Option.some.inj q3
  rw [z1,z2]
  exact ih j _ _ _ _ _ _ e1 e2 e3 e4 q2 q4
 have val:((List.range (min its.toArray.size its2.toArray.size)).all (fun j=>match ds[j]?,es[j]? with | some d,some e=>eqD d e | _,_=>false) && its.toArray.size == its2.toArray.size)=eqD (.tup ds) (.tup es):=by
  rw [List.size_toArray,List.size_toArray,<- l3,<- l4,<- l1,<- l2,Ms]
  by_cases h:ds.length=es.length
  ·rw [h,Nat.min_self,<- h,Ee ds es h]
   simp
  ·rw [Fa ds es h]
   have:(ds.length == es.length)=false:=by simpa using h
   rw [this,Bool.and_false]
 have R:=SeqAt.RcAt.tuples (A:=A) p1 p2 hu hitem
 have N:=SeqAt.RcNeAt.tuples (A:=A) p1 p2 hu hitem
 rw [val] at R N
 refine ⟨?_,R,N⟩
 by_cases hab:a=b
 ·subst hab
  have e:ds=es:=by
   have:=EV I (.tup ds) (.tup es) (.ref a) (by unfold Rep;exact ⟨a,xs,rfl,ha,hd⟩) (by unfold Rep;exact ⟨a,ys,rfl,hb,he⟩)
   cases this;rfl
  subst e
  rw [FV]
  exact SeqAt.EqAt.same _
 ·exact .of_refs hab R
theorem Lf {A:Around} {a b:Addr} {xs ys:List V} {ds es:List Dv} (I:Inv X pins σ H s) (hu:A.units < cLine) (ha:SqL X.K H a xs) (hb:SqL X.K H b ys) (hd:Reps X.K H ds xs) (he:Reps X.K H es ys)
 (ih:∀ (i:Nat) (d e:Dv) (x y:V) (u v:Value),ds[i]? = some d->es[i]? = some e->xs[i]? = some x->ys[i]? = some y->RelV x u->RelV y v->SeqAt.EqAt A.in1 s u v (eqD d e)):Eq3 A s (.ref a) (.ref b) (eqD (.lst ds) (.lst es)):=by
 obtain ⟨its,r1,p1,_⟩:=I.list ha
 obtain ⟨its2,r2,p2,_⟩:=I.list hb
 have l1:=hd.length;have l2:=he.length;have l3:=r1.length;have l4:=r2.length
 have hitem:∀ j (h1:j < its.toArray.size) (h2:j < its2.toArray.size),SeqAt.EqAt A.in1 s its.toArray[j] its2.toArray[j] (match ds[j]?,es[j]? with | some d,some e=>eqD d e | _,_=>false):=fun j h1 h2=>by
  rw [List.size_toArray] at h1 h2
  have e1:ds[j]? = some ds[j]:=List.getElem?_eq_getElem (by lia)
  have e2:es[j]? = some es[j]:=List.getElem?_eq_getElem (by lia)
  have e3:xs[j]? = some xs[j]:=List.getElem?_eq_getElem (by lia)
  have e4:ys[j]? = some ys[j]:=List.getElem?_eq_getElem (by lia)
  obtain ⟨u,q1,q2⟩:=r1.get e3
  obtain ⟨v,q3,q4⟩:=r2.get e4
  rw [e1,e2]
  have z1:its.toArray[j]=u:=by rw [List.getElem_toArray];rw [List.getElem?_eq_getElem h1] at q1;exact Option.some.inj q1
  have z2:its2.toArray[j]=v:=by rw [List.getElem_toArray];rw [List.getElem?_eq_getElem h2] at q3;exact Option.some.inj q3
  rw [z1,z2]
  exact ih j _ _ _ _ _ _ e1 e2 e3 e4 q2 q4
 have RN:SeqAt.RcAt A s (.ref a) (.ref b) (eqD (.lst ds) (.lst es))/\SeqAt.RcNeAt A s (.ref a) (.ref b) (!eqD (.lst ds) (.lst es)):=by
  by_cases h:ds.length=es.length
  ·have hsz:its.toArray.size=its2.toArray.size:=by rw [List.size_toArray,List.size_toArray];lia
   have val:(List.range its.toArray.size).all (fun j=>match ds[j]?,es[j]? with | some d,some e=>eqD d e | _,_=>false)=eqD (.lst ds) (.lst es):=by
    rw [Ih,List.size_toArray,<- l3,<- l1,Ee ds es h]
   have R:=SeqAt.RcAt.lists (A:=A) p1.isList p2.isList hsz hu hitem
   have N:=SeqAt.RcNeAt.lists (A:=A) p1.isList p2.isList hsz hu hitem
   rw [val] at R N
   exact ⟨R,N⟩
  ·have hsz:(its.toArray.size != its2.toArray.size)=true:=by rw [List.size_toArray,List.size_toArray];simp;lia
   have val:eqD (.lst ds) (.lst es)=false:=by rw [Ih];exact Fa ds es h
   rw [val]
   exact ⟨SeqAt.RcAt.lists_lengths p1.isList p2.isList hsz hu,SeqAt.RcNeAt.lists_lengths p1.isList p2.isList hsz hu⟩
 refine ⟨?_,RN.1,RN.2⟩
 by_cases hab:a=b
 ·subst hab
  have e:ds=es:=by
   have:=EV I (.lst ds) (.lst es) (.ref a) (by unfold Rep;exact ⟨a,xs,rfl,ha,hd⟩) (by unfold Rep;exact ⟨a,ys,rfl,hb,he⟩)
   cases this;rfl
  subst e
  rw [FV]
  exact SeqAt.EqAt.same _
 ·exact .of_refs hab RN.1
theorem HB (I:Inv X pins σ H s):∀ (n:Nat) (A:Around) (d e:Dv) (x y:V) (u v:Value),AR d<=n->A.units+n < cLine->Rep X.K H d x->Rep X.K H e y->RelV x u->RelV y v->Eq3 A s u v (eqD d e):=by
 intro n
 induction n with
 | zero =>
  intro A d e x y u v hd hu hx hy ru rv
  have hu':A.units < cLine:=by lia
  cases d with
  | tup ds=>unfold AR at hd;lia
  | lst ds=>unfold AR at hd;lia
  | non =>
   unfold Rep at hx;subst hx;cases ru
   cases e <;> unfold Rep at hy
   case non=>subst hy;cases rv;exact ⟨SeqAt.EqAt.same _,SeqAt.RcAt.none_none,SeqAt.RcNeAt.none_none⟩
   case bl=>subst hy;cases rv;exact ⟨.none_bool _,.none_bool _,.none_bool _⟩
   case int=>subst hy;obtain ⟨t,rfl⟩:=rv;exact ⟨.none_int _ _,.none_int _ _,.none_int _ _⟩
   case str=>subst hy;obtain ⟨t,rfl⟩:=rv;exact ⟨.none_str _ _,.none_str _ _,.none_str _ _⟩
   case tup=>obtain ⟨a,xs,rfl,ha,_⟩:=hy;cases rv;obtain ⟨its,_,p,_⟩:=I.tuple ha;exact ⟨.none_tuple p hu',.none_tuple p hu',.none_tuple p hu'⟩
   case lst=>obtain ⟨a,xs,rfl,ha,_⟩:=hy;cases rv;obtain ⟨its,_,p,_⟩:=I.list ha;exact ⟨.none_list p.isList hu',.none_list p.isList hu',.none_list p.isList hu'⟩
  | bl c =>
   unfold Rep at hx;subst hx;cases ru
   cases e <;> unfold Rep at hy
   case non=>subst hy;cases rv;exact ⟨.bool_none _,.bool_none _,.bool_none _⟩
   case bl=>subst hy;cases rv;unfold eqD;exact ⟨.bool_bool _ _,.bool_bool _ _,.bool_bool _ _⟩
   case int=>subst hy;obtain ⟨t,rfl⟩:=rv;unfold eqD;exact ⟨.bool_int _ _ _,.bool_int _ _ _,.bool_int _ _ _⟩
   case str=>subst hy;obtain ⟨t,rfl⟩:=rv;exact ⟨.bool_str _ _ _,.bool_str _ _ _,.bool_str _ _ _⟩
   case tup=>obtain ⟨a,xs,rfl,ha,_⟩:=hy;cases rv;obtain ⟨its,_,p,_⟩:=I.tuple ha;exact ⟨.bool_tuple _ p hu',.bool_tuple _ p hu',.bool_tuple _ p hu'⟩
   case lst=>obtain ⟨a,xs,rfl,ha,_⟩:=hy;cases rv;obtain ⟨its,_,p,_⟩:=I.list ha;exact ⟨.bool_list _ p.isList hu',.bool_list _ p.isList hu',.bool_list _ p.isList hu'⟩
  | int c =>
   unfold Rep at hx;subst hx;obtain ⟨t0,rfl⟩:=ru
   cases e <;> unfold Rep at hy
   case non=>subst hy;cases rv;exact ⟨.int_none _ _,.int_none _ _,.int_none _ _⟩
   case bl=>subst hy;cases rv;unfold eqD;exact ⟨.int_bool _ _ _,.int_bool _ _ _,.int_bool _ _ _⟩
   case int=>subst hy;obtain ⟨t,rfl⟩:=rv;unfold eqD;exact ⟨.int_int _ _ _ _,.int_int _ _ _ _,.int_int _ _ _ _⟩
   case str=>subst hy;obtain ⟨t,rfl⟩:=rv;exact ⟨.int_str _ _ _ _,.int_str _ _ _ _,.int_str _ _ _ _⟩
   case tup=>obtain ⟨a,xs,rfl,ha,_⟩:=hy;cases rv;obtain ⟨its,_,p,_⟩:=I.tuple ha;exact ⟨.int_tuple _ _ p hu',.int_tuple _ _ p hu',.int_tuple _ _ p hu'⟩
   case lst=>obtain ⟨a,xs,rfl,ha,_⟩:=hy;cases rv;obtain ⟨its,_,p,_⟩:=I.list ha;exact ⟨.int_list _ _ p.isList hu',.int_list _ _ p.isList hu',.int_list _ _ p.isList hu'⟩
  | str c =>
   unfold Rep at hx;subst hx;obtain ⟨t0,rfl⟩:=ru
   cases e <;> unfold Rep at hy
   case non=>subst hy;cases rv;exact ⟨.str_none _ _,.str_none _ _,.str_none _ _⟩
   case bl=>subst hy;cases rv;exact ⟨.str_bool _ _ _,.str_bool _ _ _,.str_bool _ _ _⟩
   case int=>subst hy;obtain ⟨t,rfl⟩:=rv;exact ⟨.str_int _ _ _ _,.str_int _ _ _ _,.str_int _ _ _ _⟩
   case str=>subst hy;obtain ⟨t,rfl⟩:=rv;unfold eqD;exact ⟨.str_str _ _ _ _,.str_str _ _ _ _,.str_str _ _ _ _⟩
   case tup=>obtain ⟨a,xs,rfl,ha,_⟩:=hy;cases rv;obtain ⟨its,_,p,_⟩:=I.tuple ha;exact ⟨.str_tuple _ _ p hu',.str_tuple _ _ p hu',.str_tuple _ _ p hu'⟩
   case lst=>obtain ⟨a,xs,rfl,ha,_⟩:=hy;cases rv;obtain ⟨its,_,p,_⟩:=I.list ha;exact ⟨.str_list _ _ p.isList hu',.str_list _ _ p.isList hu',.str_list _ _ p.isList hu'⟩
 | succ n ih =>
  intro A d e x y u v hd hu hx hy ru rv
  have hu':A.units < cLine:=by lia
  have hin:A.in1.units+n < cLine:=by show A.units+1+n < cLine;lia
  cases d with
  | tup ds =>
   unfold AR at hd
   unfold Rep at hx
   obtain ⟨a,xs,rfl,ha,hr⟩:=hx
   cases ru
   cases e <;> unfold Rep at hy
   case tup es =>
    obtain ⟨b,ys,rfl,hb,hr'⟩:=hy
    cases rv
    refine Mv I hu' ha hb hr hr' fun i d e x y u v e1 e2 e3 e4 ru rv=>?_
    obtain ⟨x',q1,q2⟩:=hr.get e1
    obtain ⟨y',q3,q4⟩:=hr'.get e2
    rw [e3] at q1;cases q1
    rw [e4] at q3;cases q3
    exact (ih A.in1 d e x y u v (by have:=HC e1;lia) hin q2 q4 ru rv).1
   case non=>subst hy;cases rv;obtain ⟨its,_,p,_⟩:=I.tuple ha;exact ⟨.tuple_none p hu',.tuple_none p hu',.tuple_none p hu'⟩
   case bl=>subst hy;cases rv;obtain ⟨its,_,p,_⟩:=I.tuple ha;exact ⟨.tuple_bool _ p hu',.tuple_bool _ p hu',.tuple_bool _ p hu'⟩
   case int=>subst hy;obtain ⟨t,rfl⟩:=rv;obtain ⟨its,_,p,_⟩:=I.tuple ha;exact ⟨.tuple_int _ _ p hu',.tuple_int _ _ p hu',.tuple_int _ _ p hu'⟩
   case str=>subst hy;obtain ⟨t,rfl⟩:=rv;obtain ⟨its,_,p,_⟩:=I.tuple ha;exact ⟨.tuple_str _ _ p hu',.tuple_str _ _ p hu',.tuple_str _ _ p hu'⟩
   case lst=>obtain ⟨b,ys,rfl,hb,_⟩:=hy;cases rv;obtain ⟨its,_,p,_⟩:=I.tuple ha;obtain ⟨its2,_,p2,_⟩:=I.list hb;exact ⟨.tuple_list p p2.isList hu',.tuple_list p p2.isList hu',.tuple_list p p2.isList hu'⟩
  | lst ds =>
   unfold AR at hd
   unfold Rep at hx
   obtain ⟨a,xs,rfl,ha,hr⟩:=hx
   cases ru
   cases e <;> unfold Rep at hy
   case lst es =>
    obtain ⟨b,ys,rfl,hb,hr'⟩:=hy
    cases rv
    refine Lf I hu' ha hb hr hr' fun i d e x y u v e1 e2 e3 e4 ru rv=>?_
    obtain ⟨x',q1,q2⟩:=hr.get e1
    obtain ⟨y',q3,q4⟩:=hr'.get e2
    rw [e3] at q1;cases q1
    rw [e4] at q3;cases q3
    exact (ih A.in1 d e x y u v (by have:=HC e1;lia) hin q2 q4 ru rv).1
   case non=>subst hy;cases rv;obtain ⟨its,_,p,_⟩:=I.list ha;exact ⟨.list_none p.isList hu',.list_none p.isList hu',.list_none p.isList hu'⟩
   case bl=>subst hy;cases rv;obtain ⟨its,_,p,_⟩:=I.list ha;exact ⟨.list_bool _ p.isList hu',.list_bool _ p.isList hu',.list_bool _ p.isList hu'⟩
   case int=>subst hy;obtain ⟨t,rfl⟩:=rv;obtain ⟨its,_,p,_⟩:=I.list ha;exact ⟨.list_int _ _ p.isList hu',.list_int _ _ p.isList hu',.list_int _ _ p.isList hu'⟩
   case str=>subst hy;obtain ⟨t,rfl⟩:=rv;obtain ⟨its,_,p,_⟩:=I.list ha;exact ⟨.list_str _ _ p.isList hu',.list_str _ _ p.isList hu',.list_str _ _ p.isList hu'⟩
   case tup=>obtain ⟨b,ys,rfl,hb,_⟩:=hy;cases rv;obtain ⟨its,_,p,_⟩:=I.list ha;obtain ⟨its2,_,p2,_⟩:=I.tuple hb;exact ⟨.list_tuple p.isList p2 hu',.list_tuple p.isList p2 hu',.list_tuple p.isList p2 hu'⟩
  | non=>exact ih A .non e x y u v (by unfold AR;lia) (by lia) hx hy ru rv
  | bl c=>exact ih A (.bl c) e x y u v (by unfold AR;lia) (by lia) hx hy ru rv
  | int c=>exact ih A (.int c) e x y u v (by unfold AR;lia) (by lia) hx hy ru rv
  | str c=>exact ih A (.str c) e x y u v (by unfold AR;lia) (by lia) hx hy ru rv
end
section
variable {X:Cx}
def mEq (neg:Bool) (K:W.Frag):R2:=fun x y H Q=>match x,y with
 | .non,.non=>Q (.bl (neg ^^ true)) H
 | .bl a,.bl b=>Q (.bl (neg ^^ (a == b))) H
 | .int a,.int b=>Q (.bl (neg ^^ (a == b))) H
 | .str a,.str b=>Q (.bl (neg ^^ (a == b))) H
 | x,y=>∃ d e,Rep K H d x/\Rep K H e y/\AR d<=60/\Q (.bl (neg ^^ eqD d e)) H
theorem OB (hu:X.A.units+60 < cLine):OpR X (compareOp .Eq) (fun x y H Q=>∃ d e,Rep X.K H d x/\Rep X.K H e y/\AR d<=60/\Q (.bl (eqD d e)) H):=by
 intro pins s σ H x y v u Q I rx ry h
 obtain ⟨d,e,h1,h2,h3,q⟩:=h
 exact (HB I 60 X.A d e x y v u h3 hu h1 h2 rx ry).2.1 X.prog X.w _ _ ⟨.bl _,H,I,rfl,q⟩
theorem M7 (hu:X.A.units+60 < cLine):OpR X (compareOp .NotEq) (fun x y H Q=>∃ d e,Rep X.K H d x/\Rep X.K H e y/\AR d<=60/\Q (.bl (!eqD d e)) H):=by
 intro pins s σ H x y v u Q I rx ry h
 obtain ⟨d,e,h1,h2,h3,q⟩:=h
 exact (HB I 60 X.A d e x y v u h3 hu h1 h2 rx ry).2.2 X.prog X.w _ _ ⟨.bl _,H,I,rfl,q⟩
theorem Hl {neg:Bool} {K:W.Frag} {x y:V} {H:Hp} {Q:VK} (h:mEq neg K x y H Q):∃ d e,Rep K H d x/\Rep K H e y/\AR d<=60/\Q (.bl (neg ^^ eqD d e)) H:=by
 unfold mEq at h
 split at h
 ·exact ⟨.non,.non,by unfold Rep;rfl,by unfold Rep;rfl,by unfold AR;lia,by unfold eqD;exact h⟩
 ·rename_i a b;exact ⟨.bl a,.bl b,by unfold Rep;rfl,by unfold Rep;rfl,by unfold AR;lia,by unfold eqD;exact h⟩
 ·rename_i a b;exact ⟨.int a,.int b,by unfold Rep;rfl,by unfold Rep;rfl,by unfold AR;lia,by unfold eqD;exact h⟩
 ·rename_i a b;exact ⟨.str a,.str b,by unfold Rep;rfl,by unfold Rep;rfl,by unfold AR;lia,by unfold eqD;exact h⟩
 ·exact h
theorem No (hu:X.A.units+60 < cLine):OpR X (compareOp .Eq) (mEq false X.K):=(OB hu).imp fun x y H Q h=>by
 obtain ⟨d,e,h1,h2,h3,q⟩:=Hl h
 exact ⟨d,e,h1,h2,h3,by rw [Bool.false_xor] at q;exact q⟩
theorem NT (hu:X.A.units+60 < cLine):OpR X (compareOp .NotEq) (mEq true X.K):=(M7 hu).imp fun x y H Q h=>by
 obtain ⟨d,e,h1,h2,h3,q⟩:=Hl h
 exact ⟨d,e,h1,h2,h3,by rw [Bool.true_xor] at q;exact q⟩
end
section
variable {X:Cx} {a b c e:Expr} {es:List Expr} {ta tb tc te:TE} {tA tB':TT} {t:TA} {pos p:Pos} {x:Str}
def isB (v:V) (Q:Bool->Prop):Prop:=match v with
 | .bl c=>Q c
 | _=>False
theorem Gb {v:V} {Q:Bool->Prop} (h:isB v Q):∃ c,v=.bl c/\Q c:=by
 cases v <;> first | exact False.elim h | exact ⟨_,rfl,h⟩
def AY (t:TE):Prop:=∀ σ H (Q Q':VK),(∀ v H,Q v H->Q' v H)->t σ H Q->t σ H Q'
def uB (t:TE):TT:=fun σ H Q=>t σ H fun x H1=>isB x fun c=>Q c H1
theorem Al {op:CmpOp} {r:R2} (ho:OpR X (compareOp op) r) (ha:PE X a ta) (hb:PE X b tb) (hm:behindInMarks op b=false:=by first | exact Ej _ (by decide) (by decide) | rfl):PT X (.Compare a [op] [b] pos) (uB (tOp r ta tb)):=by
 intro pins s σ H Q I h
 refine wpAny_isTrue_Compare1 (thn (ha pins s σ H _ I h) fun v s1 ⟨x,H1,I1,r1,q1⟩=>thn (hb pins s1 σ H1 _ I1 q1) fun u s2 ⟨y,H2,I2,r2,q2⟩ =>
  thn (ho pins s2 σ H2 x y v u _ I2 r1 r2 q2) fun c s3 ⟨z,H3,I3,r3,q⟩=>?_) hm
 obtain ⟨k,e,q3⟩:=Gb q
 subst e
 cases r3
 exact wpAny_truthy_bool ⟨H3,I3,q3⟩
theorem Fn {op:CmpOp} {r:R2} (ho:OpR X (compareOp op) r) (ha:PE X a ta) (hb:PE X b tb) (hm:behindInMarks op b=false:=by first | exact Ej _ (by decide) (by decide) | rfl):PE X (.Compare a [op] [b] pos) (tOp r ta tb):=JA ho ha hb hm
def Hi (ta:TE):TE:=fun σ H Q=>ta σ H fun x H1=>isB x fun c=>Q (.bl (!c)) H1
theorem M4 (ha:PE X a ta):PE X (.UnaryOp .Not a pos) (Hi ta):=by
 have ha':PE X a (fun σ H Q=>ta σ H fun x H1=>isB x fun c=>Q (.bl c) H1):=fun pins s σ H Q I h=>thn (ha pins s σ H _ I h) fun v s1 ⟨x,H1,I1,r1,q1⟩=>by
  obtain ⟨c,e,q⟩:=Gb q1
  subst e
  exact ⟨.bl c,H1,I1,r1,q⟩
 have h:=Lv (pos:=pos) ha'
 exact h.imp fun σ H Q q=>by
  show ta σ H fun x H1=>isB x fun c=>∃ c',V.bl c=.bl c'/\Q (.bl (!c')) H1
  have e:(fun (x:V) (H1:Hp)=>isB x fun c=>∃ c',V.bl c=.bl c'/\Q (.bl (!c')) H1)=fun x H1=>isB x fun c=>Q (.bl (!c)) H1:=by
   funext x H1
   cases x <;> first | rfl | (apply propext;constructor;(rintro ⟨c',e,h⟩;cases e;exact h);(intro h;exact ⟨_,rfl,h⟩))
  rw [e]
  exact q
def SqA (K:W.Frag) (H:Hp) (p:Addr) (xs:List V):Prop:=SqL K H p xs\/SqT K H p xs
def mIx (K:W.Frag):R2:=fun x y H Q=>match x,y with
 | .ref p,.int i=>∃ xs v,SqA K H p xs/\atI xs i=some v/\Q v H
 | .str z,.int i=>∃ c,z.length<=sizeLine/\atI z.cps.toList i=some c/\Q (.str ⟨#[c]⟩) H
 | _,_=>False
theorem IxR.imp {r r':R2} (h:IxR X r) (g:∀ x y H Q,r' x y H Q->r x y H Q):IxR X r':=fun a b pins s σ H x y v u Q I rx ry q z=>h a b pins s σ H x y v u Q I rx ry (g _ _ _ _ q) z
theorem JO:IxR X (mIx X.K):=ix_seq.imp fun x y H Q q=>by
 cases x <;> cases y <;> first
  | exact False.elim q
  | (obtain ⟨xs,v,h | h,e,q⟩:=q
     ·exact .inl ⟨_,xs,_,v,rfl,rfl,h,e,q⟩
     ·exact .inr (.inl ⟨_,xs,_,v,rfl,rfl,h,e,q⟩))
  | (obtain ⟨c,hz,e,q⟩:=q
     exact .inr (.inr ⟨_,_,c,rfl,rfl,hz,e,q⟩))
theorem Lk (ha:PE X a ta) (hb:PE X b tb) (hs:EX b:=by intro _ _;rfl):PE X (.Subscript a b pos) (tOp (mIx X.K) ta tb):=NP JO ha hb hs
def D4 (K:W.Frag):List V->Hp->VK->Prop:=fun xs H Q=>match xs with
 | [x]=>∃ n,HE K x H n/\Q (.int n) H
 | _=>False
theorem Mo:CallR X (.builtin "len") (D4 X.K):=call_len.imp fun xs H Q q=>by
 match xs,q with
 | [x],⟨n,h,q⟩=>exact ⟨x,n,rfl,h,q⟩
def OI:List V->Hp->VK->Prop:=fun xs H Q=>match xs with
 | [.int i]=>Q (.int (i.natAbs:Int)) H
 | _=>False
theorem Ff:CallR X (.builtin "abs") OI:=call_abs.imp fun xs H Q q=>by
 match xs,q with
 | [.int i],q =>
  refine ⟨i,rfl,?_⟩
  have e:(if i < 0 then -i else i)=(i.natAbs:Int):=by split <;> lia
  rw [e]
  exact q
def KM:List V->Hp->VK->Prop:=fun xs H Q=>match xs with
 | [.int i,.int j]=>Q (.int (max i j)) H
 | _=>False
theorem JC (hc:X.calm=true):CallR X (.builtin "max") KM:=(LZ hc).imp fun xs H Q q=>by
 match xs,q with
 | [.int i,.int j],q =>
  refine ⟨i,j,rfl,?_⟩
  have e:(if j > i then j else i)=max i j:=by split <;> lia
  rw [e]
  exact q
def Jp:List V->Hp->VK->Prop:=fun xs H Q=>match xs with
 | [.int i]=>Q (.int i) H
 | [.bl k]=>Q (.int (if k then 1 else 0)) H
 | _=>False
theorem HI:CallR X (.type "int") Jp:=call_int1.imp fun xs H Q q=>by
 match xs,q with
 | [.int i],q=>exact .inl ⟨i,rfl,q⟩
 | [.bl k],q=>exact .inr ⟨k,rfl,q⟩
def Hy (K:W.Frag):List V->Hp->VK->Prop:=fun xs H Q=>match xs with
 | [.ref p]=>∃ ys,(SqL K H p ys/\∀ l,H l=none->Q (.ref l) (upd H l (.tup ys)))\/(SqT K H p ys/\Q (.ref p) H)
 | _=>False
theorem KP:CallR X (.type "tuple") (Hy X.K):=call_tuple_of.imp fun xs H Q q=>by
 match xs,q with
 | [.ref p],⟨ys,q⟩=>exact ⟨p,ys,rfl,q⟩
end
def EL (scope sc:Scope):Bool :=
 decide (scope.kind=.function) && decide (scope.names.map (·.1)).Nodup && scope.names.all fun y=>!(y.2 == .free) || (sc.names.lookup y.1 == some .cell || sc.names.lookup y.1 == some .free)
theorem CompScope.of {scope sc:Scope} (h:EL scope sc=true):CompScope scope sc:=by
 unfold EL at h
 rw [Bool.and_eq_true,Bool.and_eq_true] at h
 obtain ⟨⟨h1,h2⟩,h3⟩:=h
 refine ⟨of_decide_eq_true h1,of_decide_eq_true h2,fun y hy hf=>?_⟩
 have:=List.all_eq_true.mp h3 y hy
 rw [hf] at this
 rcases (Bool.or_eq_true _ _).mp this with z | z
 ·exact absurd z (by decide)
 ·rcases (Bool.or_eq_true _ _).mp z with z | z
  ·exact .inl (by simpa using z)
  ·exact .inr (by simpa using z)
section
variable {X:Cx} {tg iter elt:Expr} {ifs:List Expr} {scope:Scope} {pos:Pos} {N':List Str} {own:Nat} {ix:List Nat} {g:TG} {tc:TT} {te:TE} {wi:TI}
theorem frB {l:List Str} (h:(l.all fun x=>scope.names.lookup x == some .free)=true):∀ x∈l,scope.names.lookup x=some .free:=fun x hx=>by
 have:=List.all_eq_true.mp h x hx
 simpa using this
theorem Dr (hc:X.calm=true) (hi:PI X tg iter wi) (S:EL scope X.env.scope=true)
 (hlen:N'.length=own+ix.length) (hN:(N'.drop own).map some=ix.map (X.N[·]?)) (hfr:((N'.drop own).all fun x=>scope.names.lookup x == some .free)=true)
 (hg:∀ c,PG (X.comp scope N' c) tg g) (hgo:Bj own g) (ht:∀ c,PTs (X.comp scope N' c) ifs tc) (he:∀ c,PE (X.comp scope N' c) elt te)
 (hs:∀ x,foldedSetIterable iter X.env x=pure x:=by intro _;rfl):PE X (.ListComp elt [⟨tg,iter,ifs,0⟩] scope pos) (DN wi own ix g tc te) :=
 Nh hc hi (.of S) hlen hN (frB hfr) hg hgo ht he hs
theorem Bg {i:Nat} {y:Str} {py spos:Pos} (hc:X.calm=true) (hnd:X.N.Nodup) (hiy:X.N[i]? = some y) (hy:X.env.scope.names.lookup y=some .local) (hi:PI X tg iter wi) (S:EL scope X.env.scope=true)
 (hlen:N'.length=own+ix.length) (hN:(N'.drop own).map some=ix.map (X.N[·]?)) (hfr:((N'.drop own).all fun x=>scope.names.lookup x == some .free)=true)
 (hg:∀ c,PG (X.comp scope N' c) tg g) (hgo:Bj own g) (ht:∀ c,PTs (X.comp scope N' c) ifs tc) (he:∀ c,PE (X.comp scope N' c) elt te)
 (hsw:swapsWith (.ListComp elt [⟨tg,iter,ifs,0⟩] scope pos) (some (.Name y py)) spos.line X.env=pure true)
 (hs:∀ x,foldedSetIterable iter X.env x=pure x:=by intro _;rfl):PS X (.Assign [.Name y py] (.ListComp elt [⟨tg,iter,ifs,0⟩] scope pos) spos) (DH (DN wi own ix g tc te) (AV i)) :=
 L3 hc hnd hiy hy hi (.of S) hlen hN (frB hfr) hg hgo ht he hsw hs
def Es (K:W.Frag) (tl:TE):TI:=fun σ H R=>tl σ H fun x H1=>match x with
 | .ref a=>((∃ xs,SqL K H1 a xs)/\R (Itl K a) H1)\/((∃ xs,SqT K H1 a xs)/\R (Itt K a) H1)
 | _=>False
theorem Ji {l:Expr} {tl:TE} (hl:PE X l tl):PI X tg l (Es X.K tl):=by
 intro pins s σ H R I h
 refine thn (hl pins s σ H _ I h) fun v s1 ⟨x,H1,I1,r1,q1⟩=>?_
 cases x with
 | ref a =>
  cases r1
  rcases q1 with ⟨⟨xs,hq⟩,q⟩ | ⟨⟨xs,hq⟩,q⟩
  ·obtain ⟨its,rv,p,hz⟩:=I1.list hq
   refine wpAny_pyIter_list p.isList ?_
   refine ⟨s1.heap.objs.size,[s1.heap.objs.size],_,_,H1,rfl,I1.kept (t':=s1.toks) fun b o e=>Heap.get?_push_of_some _ e,NN a _,⟨_,Heap.get?_push_size _ rfl,rfl,rfl⟩,fun b hb=>?_,q⟩
   have e:b=s1.heap.objs.size:=by simpa using hb
   subst e
   exact I1.fpOk (Nat.le_refl _) (I1.hok.fresh (Nat.le_refl _))
  ·obtain ⟨its,rv,p,hz⟩:=I1.tuple hq
   refine wpAny_pyIter_tuple (show s1.heap.IsTuple a its.toArray from p) ?_
   refine ⟨s1.heap.objs.size,[s1.heap.objs.size],_,_,H1,rfl,I1.kept (t':=s1.toks) fun b o e=>Heap.get?_push_of_some _ e,Li a _,⟨_,Heap.get?_push_size _ rfl,rfl,rfl⟩,fun b hb=>?_,q⟩
   have e:b=s1.heap.objs.size:=by simpa using hb
   subst e
   exact I1.fpOk (Nat.le_refl _) (I1.hok.fresh (Nat.le_refl _))
 | _=>exact False.elim q1
def FC:C6:=fun o i v H Q=>match o,i with
 | .ref p,.int k=>∃ xs j,H p=some (.lst xs)/\ixN xs.length k=some j/\Q (upd H p (.lst (xs.set j v)))
 | _,_=>False
theorem CP:FR X FC:=by
 intro pins s σ H o i v ov iv u Q I ro ri rv h
 cases o <;> cases i <;> first
  | exact False.elim h
  | (obtain ⟨xs,j,h1,h2,q⟩:=h
     exact JY pins s σ H _ _ v ov iv u Q I ro ri rv ⟨_,xs,_,j,rfl,rfl,h1,h2,q⟩)
theorem JU {K:W.Frag} {a:Addr} {xs:List V} {σc:St} {Q:VK} {H:Hp} (Pv:Nat->List V->Hp->Prop) (h0:Pv 0 [] H) (hl:∀ i ys H,i<=xs.length->Pv i ys H->SqL K H a xs) (hz:∀ i ys H,i < xs.length->Pv i ys H->ys.length < sizeLine)
 (hs:∀ i x ys H,xs[i]? = some x->Pv i ys H->g x σc H fun σ2 H2=>tc σ2 H2 fun b H3=>if b=true then te σ2 H3 fun y H4=>Pv (i+1) (ys++[y]) H4 else Pv (i+1) ys H3)
 (hd:∀ ys H,Pv xs.length ys H->∀ p,H p=none->Q (.ref p) (upd H p (.lst ys))):CF (Itl K a) g tc te σc Q H:=by
 refine ⟨fun i m ys H=>m=xs.length - i/\i<=xs.length/\Pv i ys H,⟨xs.length,by simp,Nat.zero_le _,h0⟩,?_⟩
 rintro i m ys H ⟨rfl,hi,p⟩
 have q:=hl i ys H hi p
 by_cases hlt:i < xs.length
 ·refine .inr ⟨⟨xs,xs[i],q,by simp [hlt]⟩,hz i ys H hlt p,Pv (i+1),fun ys' H' p'=>⟨xs.length - (i+1),by lia,rfl,hlt,p'⟩,fun x H' y=>?_⟩
  obtain ⟨e,y⟩:=y
  subst e
  exact hs i x ys _ (y xs q) p
 ·have e:i=xs.length:=by lia
  subst e
  exact .inl ⟨⟨xs,q,Nat.le_refl _⟩,hd ys H p⟩
theorem Jr {K:W.Frag} {a:Addr} {xs:List V} {σc:St} {Q:VK} {H:Hp} (Pv:Nat->List V->Hp->Prop) (h0:Pv 0 [] H) (hl:∀ i ys H,i<=xs.length->Pv i ys H->SqT K H a xs) (hz:∀ i ys H,i < xs.length->Pv i ys H->ys.length < sizeLine)
 (hs:∀ i x ys H,xs[i]? = some x->Pv i ys H->g x σc H fun σ2 H2=>tc σ2 H2 fun b H3=>if b=true then te σ2 H3 fun y H4=>Pv (i+1) (ys++[y]) H4 else Pv (i+1) ys H3)
 (hd:∀ ys H,Pv xs.length ys H->∀ p,H p=none->Q (.ref p) (upd H p (.lst ys))):CF (Itt K a) g tc te σc Q H:=by
 refine ⟨fun i m ys H=>m=xs.length - i/\i<=xs.length/\Pv i ys H,⟨xs.length,by simp,Nat.zero_le _,h0⟩,?_⟩
 rintro i m ys H ⟨rfl,hi,p⟩
 have q:=hl i ys H hi p
 by_cases hlt:i < xs.length
 ·refine .inr ⟨⟨xs,xs[i],q,by simp [hlt]⟩,hz i ys H hlt p,Pv (i+1),fun ys' H' p'=>⟨xs.length - (i+1),by lia,rfl,hlt,p'⟩,fun x H' y=>?_⟩
  obtain ⟨e,y⟩:=y
  subst e
  exact hs i x ys _ (y xs q) p
 ·have e:i=xs.length:=by lia
  subst e
  exact .inl ⟨⟨xs,q,Nat.le_refl _⟩,hd ys H p⟩
theorem Bf {lo:Int} {n:Nat} {σc:St} {Q:VK} {H:Hp} (Pv:Nat->List V->Hp->Prop) (h0:Pv 0 [] H) (hz:∀ i ys H,i < n->Pv i ys H->ys.length < sizeLine)
 (hs:∀ i ys H,i < n->Pv i ys H->g (.int (lo+i)) σc H fun σ2 H2=>tc σ2 H2 fun b H3=>if b=true then te σ2 H3 fun y H4=>Pv (i+1) (ys++[y]) H4 else Pv (i+1) ys H3)
 (hd:∀ ys H,Pv n ys H->∀ p,H p=none->Q (.ref p) (upd H p (.lst ys))):CF (Itr lo n) g tc te σc Q H:=by
 refine ⟨fun i m ys H=>m=n - i/\i<=n/\Pv i ys H,⟨n,by simp,Nat.zero_le _,h0⟩,?_⟩
 rintro i m ys H ⟨rfl,hi,p⟩
 by_cases hlt:i < n
 ·refine .inr ⟨hlt,hz i ys H hlt p,Pv (i+1),fun ys' H' p'=>⟨n - (i+1),by lia,rfl,hlt,p'⟩,fun x H' y=>?_⟩
  obtain ⟨e,y⟩:=y
  subst e y
  exact hs i ys _ hlt p
 ·have e:i=n:=by lia
  subst e
  exact .inl ⟨Nat.le_refl _,hd ys H p⟩
def Gu (c:TT) (tb:TS):TS:=fun D σ H=>∃ W:Nat->St->Hp->Prop,(∃ m,W m σ H)/\∀ m σ H,W m σ H ->
 c σ H fun b H1=>if b=true then tb { D with nx:=fun σ' H'=>∃ m',m' < m/\W m' σ' H',ct:=fun σ' H'=>∃ m',m' < m/\W m' σ' H',bk:=D.nx } σ H1 else D.nx σ H1
theorem DG {c:Expr} {body:List Stmt} {tc:TT} {tb:TS} (hp:PassesOwn (model X.prog X.w) X.A X.env X.xe) (hc:PT X c tc) (hb:PSs X body tb):PS X (.While c body [] pos) (Gu tc tb):=by
 intro pins s σ H D I h
 obtain ⟨W,⟨m0,w0⟩,turn⟩:=h
 refine wpAny_While (codeAny_whileLoop (fun n s'=>∃ σ' H',Inv X pins σ' H' s'/\W n σ' H') ?_ m0 ⟨σ,H,I,w0⟩)
 rintro n s1 ⟨σ1,H1,I1,w1⟩
 refine wpAny_passesOwn hp (thn (hc pins s1 σ1 H1 _ I1 (turn n σ1 H1 w1)) fun b s2 ⟨H2,I2,q2⟩=>?_)
 cases b with
 | true =>
  rw [if_pos rfl] at q2
  rw [if_pos rfl]
  refine wpAny_passesOwn hp (thn (hb pins s2 σ1 H2 _ I2 q2) fun f s3 q3=>?_)
  cases f with
  | next =>
   obtain ⟨σ3,H3,I3,m',hm,w3⟩:=q3
   exact ⟨m',hm,σ3,H3,I3,w3⟩
  | cont =>
   obtain ⟨σ3,H3,I3,m',hm,w3⟩:=q3
   exact ⟨m',hm,σ3,H3,I3,w3⟩
  | brk=>exact q3
  | ret v=>exact q3
 | false =>
  rw [if_neg Bool.false_ne_true] at q2
  rw [if_neg Bool.false_ne_true]
  exact wpAny_execs_nil ⟨σ1,H2,I2,q2⟩
end
theorem Ag {A:Around} {k:Nat} (hr:Room k A):A.units+60 < cLine:=by have:=hr.un;lia
def Frm (t:Addr) (H H':Hp):Prop:=∀ b o,b≠t->H b=some o->H' b=some o
theorem Frm.trans {t:Addr} {H H1 H2:Hp} (a:Frm t H H1) (b:Frm t H1 H2):Frm t H H2:=fun c o n h=>b c o n (a c o n h)
theorem Frm.upd {t p:Addr} {H:Hp} {o:HO} (h:H p=none):Frm t H (upd H p o):=fun b u _ e=>by rw [AI (Av e h)];exact e
theorem Same.upd {p:Addr} {H:Hp} {o:HO} (h:H p=none):Same H (L2.upd H p o):=fun b u e=>by rw [AI (Av e h)];exact e
theorem Same.frm {t:Addr} {H H':Hp} (h:Same H H'):Frm t H H':=fun b o _ e=>h b o e
theorem GJ {K:W.Frag} {H H':Hp} {a:Addr} {xs:List V} (h:SqL K H a xs) (k:∀ o,H a=some o->H' a=some o):SqL K H' a xs:=by
 rcases h with (h | ⟨o,h⟩) | h
 ·exact .inl (.inl (k _ h))
 ·exact .inl (.inr ⟨o,k _ h⟩)
 ·exact .inr h
theorem IE {K:W.Frag} {H H':Hp} {a:Addr} {xs:List V} (h:SqT K H a xs) (k:∀ o,H a=some o->H' a=some o):SqT K H' a xs:=by
 rcases h with (h | ⟨o,h⟩) | h
 ·exact .inl (.inl (k _ h))
 ·exact .inl (.inr ⟨o,k _ h⟩)
 ·exact .inr h
def ScrAt (K:W.Frag) (H:Hp) (t a:Addr) (ns:List Int):Prop :=
 (Rd H a (.lst (ns.map V.int))/\a≠t)\/∃ (o:Obj) (its:Array Value) (n:Nat),K.lookup a=some o/\o.cls=.type "list" /\ o.dict=none/\o.data=.seq its n/\its.size<=sizeLine/\Vals (ns.map V.int) its.toList
theorem ScrAt.stay {K:W.Frag} {H H':Hp} {t a:Addr} {ns:List Int} (h:ScrAt K H t a ns) (k:∀ o,a≠t->H a=some o->H' a=some o):ScrAt K H' t a ns:=by
 rcases h with ⟨h | ⟨o,h⟩,n⟩ | h
 ·exact .inl ⟨.inl (k _ n h),n⟩
 ·exact .inl ⟨.inr ⟨o,k _ n h⟩,n⟩
 ·exact .inr h
theorem ScrAt.of {K:W.Frag} {H:Hp} {t a:Addr} {ns:List Int} (h:SqL K H a (ns.map V.int)) (ht:H t=none):ScrAt K H t a ns:=by
 rcases h with h | h
 ·refine .inl ⟨h,fun e=>?_⟩
  subst e
  rcases h with h | ⟨o,h⟩ <;> rw [ht] at h <;> cases h
 ·exact .inr h
structure Tape (K:W.Frag) (H:Hp) (t a:Addr) (ns:List Int):Prop where
 at_:∃ i r c:Int,0<=i/\0<=r/\H t=some (.lst [.ref a,.int i,.int r,.int c])
 scr:ScrAt K H t a ns
theorem Tape.same {K:W.Frag} {H H':Hp} {t a:Addr} {ns:List Int} (T:Tape K H t a ns) (h:Same H H'):Tape K H' t a ns:=by
 obtain ⟨i,r,c,h1,h2,h3⟩:=T.at_
 exact ⟨⟨i,r,c,h1,h2,h _ _ h3⟩,T.scr.stay fun o _ e=>h a o e⟩
theorem Tape.upd {K:W.Frag} {H:Hp} {t a p:Addr} {o:HO} {ns:List Int} (T:Tape K H t a ns) (h:H p=none):Tape K (L2.upd H p o) t a ns:=T.same (Same.upd h)
def Dh (K:W.Frag):Sp:=fun vs H Q _=>∃ (a:Addr) (ns:List Int),vs=[.ref a]/\SqL K H a (ns.map V.int)/\ns.length<=63/\∀ H',Q (.bl true) H'
theorem DL {xs:List V} {i:Int} {n:Nat} {v:V} (h:i=(n:Int)) (hx:xs[n]? = some v):atI xs i=some v:=by
 subst h
 have hn:n < xs.length:=(List.getElem?_eq_some_iff.mp hx).1
 unfold atI ixN
 rw [if_pos (Int.natCast_nonneg n),if_pos (by lia)]
 simpa using hx
theorem J5 {ns:List Int} {i:Int} (h0:0<=i) (h1:i < ns.length):∃ z,atI (ns.map V.int) i=some (.int z):=by
 obtain ⟨n,rfl⟩:=Int.eq_ofNat_of_zero_le h0
 have hn:n < ns.length:=by lia
 exact ⟨ns[n],DL rfl (by rw [List.getElem?_map,List.getElem?_eq_getElem hn];rfl)⟩
theorem A3 {j:Int} (h1:0 < j) (h2:j<=2 ^ 1000):okDiv j:=⟨h1,Int.lt_of_le_of_lt h2 (by decide)⟩
theorem A8 {n:Nat} (h:n<=1000):n<=sizeLine:=Nat.le_of_lt (As h)
def Bd (t:TT):Prop:=∀ σ H (Q Q':Bool->Hp->Prop),(∀ b H,Q b H->Q' b H)->t σ H Q->t σ H Q'
def Bx (t:TA):Prop:=∀ σ H (Q Q':List V->Hp->Prop),(∀ b H,Q b H->Q' b H)->t σ H Q->t σ H Q'
def BN (r:R2):Prop:=∀ x y H (Q Q':VK),(∀ v H,Q v H->Q' v H)->r x y H Q->r x y H Q'
def Ck (r:List V->Hp->VK->Prop):Prop:=∀ xs H (Q Q':VK),(∀ v H,Q v H->Q' v H)->r xs H Q->r xs H Q'
def AQ (sp:Sp):Prop:=∀ vs H (Q Q':VK) E,(∀ v H,Q v H->Q' v H)->sp vs H Q E->sp vs H Q' E
def B7 (t:TI):Prop:=∀ σ H (Q Q':It->Hp->Prop),(∀ J H,Q J H->Q' J H)->t σ H Q->t σ H Q'
def IF (t:C6):Prop:=∀ o i v H (Q Q':Hp->Prop),(∀ H,Q H->Q' H)->t o i v H Q->t o i v H Q'
structure Ends.le (D D':Ends):Prop where
 nx:∀ σ H,D.nx σ H->D'.nx σ H
 rt:∀ v H,D.rt v H->D'.rt v H
 bk:∀ σ H,D.bk σ H->D'.bk σ H
 ct:∀ σ H,D.ct σ H->D'.ct σ H
def A1 (t:TS):Prop:=∀ D D' σ H,Ends.le D D'->t D σ H->t D' σ H
theorem Kp {i:Nat}:AY (EC i):=fun σ H Q Q' h q=>by
 unfold EC at *
 split at q
 ·exact h _ _ q
 ·exact q.elim
theorem KQ {v:V}:AY (tC v):=fun _ _ _ _ h q=>h _ _ q
theorem K3 {r:R2} {ta tb:TE} (hr:BN r) (ha:AY ta) (hb:AY tb):AY (tOp r ta tb):=fun σ H Q Q' h q=>ha _ _ _ _ (fun _ _ q=>hb _ _ _ _ (fun _ _ q=>hr _ _ _ _ _ h q) q) q
theorem KC {K}:BN (CC K):=fun x y H Q Q' h q=>by
 unfold CC at *
 split at q
 ·exact h _ _ q
 ·exact ⟨q.1,h _ _ q.2⟩
 ·rcases q with ⟨l,b,xs,zs,e1,e2,h1,h2,h3,q⟩ | ⟨a,b,xs,ys,e1,e2,h1,h2,h3,h4,q1,q2⟩
  ·exact .inl ⟨l,b,xs,zs,e1,e2,h1,h2,h3,fun p hp=>h _ _ (q p hp)⟩
  ·exact .inr ⟨a,b,xs,ys,e1,e2,h1,h2,h3,h4,fun e=>h _ _ (q1 e),fun e p hp=>h _ _ (q2 e p hp)⟩
 ·exact q.elim
theorem LO:BN Bw:=fun x y H Q Q' h q=>by unfold Bw at *;split at q <;> first | exact h _ _ q | exact q.elim
theorem L7:BN FZ:=fun x y H Q Q' h q=>by
 unfold FZ at *
 split at q
 ·exact ⟨q.1,h _ _ q.2⟩
 ·obtain ⟨l,k,xs,e1,e2,h1,h2,h3,h4,q⟩:=q
  exact ⟨l,k,xs,e1,e2,h1,h2,h3,h4,fun p hp=>h _ _ (q p hp)⟩
 ·exact q.elim
theorem Ja:BN GC:=fun x y H Q Q' h q=>by unfold GC at *;split at q <;> first | exact ⟨q.1,h _ _ q.2⟩ | exact q.elim
theorem Jv:BN Ev:=fun x y H Q Q' h q=>by unfold Ev at *;split at q <;> first | exact ⟨q.1,h _ _ q.2⟩ | exact q.elim
theorem Kv {f}:BN (D8 f):=fun x y H Q Q' h q=>by unfold D8 at *;split at q <;> first | exact h _ _ q | exact q.elim
theorem MR:BN Fg:=fun x y H Q Q' h q=>by unfold Fg at *;split at q <;> first | exact ⟨q.1,h _ _ q.2⟩ | exact q.elim
theorem K7 {p}:BN (DV p):=fun x y H Q Q' h q=>by unfold DV at *;split at q <;> first | exact h _ _ q | exact q.elim
theorem Mp {n K}:BN (mEq n K):=fun x y H Q Q' h q=>by
 unfold mEq at *
 split at q <;> first | exact h _ _ q | (obtain ⟨d,e,h1,h2,h3,q⟩:=q;exact ⟨d,e,h1,h2,h3,h _ _ q⟩)
theorem JG {K}:BN (mIx K):=fun x y H Q Q' h q=>by
 unfold mIx at *
 split at q
 ·obtain ⟨xs,v,h1,h2,q⟩:=q;exact ⟨xs,v,h1,h2,h _ _ q⟩
 ·obtain ⟨c,h1,h2,q⟩:=q;exact ⟨c,h1,h2,h _ _ q⟩
 ·exact q.elim
theorem Gh {v:V} {Q Q':Bool->Prop} (h:∀ b,Q b->Q' b) (q:isB v Q):isB v Q':=by
 cases v <;> first | exact h _ q | exact q
theorem Ki {t:TE} (h:AY t):Bd (uB t):=fun σ H Q Q' k q=>h _ _ _ _ (fun _ _ q=>Gh (fun b q=>k b _ q) q) q
theorem Mi {ta:TE} (ha:AY ta):AY (Hi ta):=fun σ H Q Q' h q=>ha _ _ _ _ (fun _ _ q=>Gh (fun b q=>h _ _ q) q) q
theorem JL {t u:TT} (ht:Bd t) (hu:Bd u):Bd (Gs t u):=fun σ H Q Q' h q=>ht _ _ _ _ (fun b _ q=>by
 cases b with
 | true=>exact hu _ _ _ _ h q
 | false=>exact h _ _ q) q
theorem MZ {t u:TT} (ht:Bd t) (hu:Bd u):Bd (tOr t u):=fun σ H Q Q' h q=>ht _ _ _ _ (fun b _ q=>by
 cases b with
 | true=>exact h _ _ q
 | false=>exact hu _ _ _ _ h q) q
theorem Nn:Bx IH:=fun _ _ _ _ h q=>h _ _ q
theorem LS {ta:TE} {t:TA} (ha:AY ta) (ht:Bx t):Bx (Io ta t):=fun σ H Q Q' h q=>ha _ _ _ _ (fun _ _ q=>ht _ _ _ _ (fun _ _ q=>h _ _ q) q) q
theorem MT {r} {t:TA} (hr:Ck r) (ht:Bx t):AY (tCB r t):=fun σ H Q Q' h q=>ht _ _ _ _ (fun _ _ q=>hr _ _ _ _ h q) q
theorem MN {sp dvs E} {t:TA} (hs:AQ sp) (ht:Bx t):AY (HF sp dvs E t):=fun σ H Q Q' h q=>ht _ _ _ _ (fun _ _ q=>hs _ _ _ _ _ h q) q
theorem MF {wi own ix g tc te} (hi:B7 wi):AY (DN wi own ix g tc te):=fun σ H Q Q' h q=>hi _ _ _ _ (fun J H1 q=>by
 obtain ⟨W,w0,turn⟩:=q
 refine ⟨W,w0,fun i m ys H w=>?_⟩
 rcases turn i m ys H w with ⟨a,b⟩ | r
 ·exact .inl ⟨a,fun p hp=>h _ _ (b p hp)⟩
 ·exact .inr r) q
theorem Lh {K}:Ck (D4 K):=fun xs H Q Q' h q=>by unfold D4 at *;split at q <;> first | (obtain ⟨n,a,q⟩:=q;exact ⟨n,a,h _ _ q⟩) | exact q.elim
theorem OH {K} {tl:TE} (h:AY tl):B7 (Es K tl):=fun σ H Q Q' k q=>h _ _ _ _ (fun v H1 q=>by
 cases v <;> first | exact q.elim | (rcases q with ⟨a,q⟩ | ⟨a,q⟩
                                     ·exact .inl ⟨a,k _ _ q⟩
                                     ·exact .inr ⟨a,k _ _ q⟩)) q
theorem N8 {ta:TA} (h:Bx ta):B7 (Hh ta):=fun σ H Q Q' k q=>h _ _ _ _ (fun _ _ ⟨j,e,a,b,q⟩=>⟨j,e,a,b,k _ _ q⟩) q
theorem OG:IF FC:=fun o i v H Q Q' h q=>by
 unfold FC at *
 split at q
 ·obtain ⟨xs,j,a,b,q⟩:=q;exact ⟨xs,j,a,b,h _ q⟩
 ·exact q.elim
theorem Mm {to ti:TE} {t:C6} (h1:AY to) (h2:AY ti) (h3:IF t):CB (GO to ti t):=fun v σ H Q Q' h q=>h1 _ _ _ _ (fun _ _ q=>h2 _ _ _ _ (fun _ _ q=>h3 _ _ _ _ _ _ (fun H q=>h _ _ q) q) q) q
theorem K9:A1 Do:=fun D D' σ H h q=>h.nx _ _ q
theorem Kk {t u:TS} (h1:A1 t) (h2:A1 u):A1 (FN t u):=fun D D' σ H h q=>h1 { D with nx:=u D } { D' with nx:=u D' } σ H ⟨fun σ H q=>h2 D D' σ H h q,h.rt,h.bk,h.ct⟩ q
theorem Mx {te:TE} {g:TG} (h1:AY te) (h2:CB g):A1 (DH te g):=fun D D' σ H h q=>h1 _ _ _ _ (fun _ _ q=>h2 _ _ _ _ _ h.nx q) q
theorem Np {te:TE} (h1:AY te):A1 (Gc te):=fun D D' σ H h q=>h1 _ _ _ _ h.rt q
theorem My {c:TT} {t u:TS} (hc:Bd c) (h1:A1 t) (h2:A1 u):A1 (HH c t u):=fun D D' σ H h q=>hc _ _ _ _ (fun b _ q=>by
 cases b with
 | true=>exact h1 _ _ _ _ h q
 | false=>exact h2 _ _ _ _ h q) q
theorem KW {c:TT} {tb:TS} (hc:Bd c) (h1:A1 tb):A1 (Gu c tb):=fun D D' σ H h q=>by
 obtain ⟨W,w0,turn⟩:=q
 refine ⟨W,w0,fun m σ H w=>hc _ _ _ _ (fun b H1 q=>?_) (turn m σ H w)⟩
 cases b with
 | true=>exact h1 { D with nx:=fun σ' H'=>∃ m',m' < m/\W m' σ' H',ct:=fun σ' H'=>∃ m',m' < m/\W m' σ' H',bk:=D.nx } _ _ _ ⟨fun _ _ q=>q,h.rt,h.nx,fun _ _ q=>q⟩ q
 | false=>exact h.nx _ _ q
theorem KY {wi:TI} {g:TG} {tb:TS} (hi:B7 wi) (hg:CB g) (h1:A1 tb):A1 (Il wi g tb):=fun D D' σ H h q=>hi _ _ _ _ (fun J H1 q=>by
 obtain ⟨W,w0,turn⟩:=q
 refine ⟨W,w0,fun i m σ H w=>?_⟩
 rcases turn i m σ H w with ⟨a,b⟩ | ⟨a,N,hN,step⟩
 ·exact .inl ⟨a,h.nx _ _ b⟩
 ·exact .inr ⟨a,N,hN,fun x H' y=>hg _ _ _ _ _ (fun σ2 H2 q=>h1 { D with nx:=N,ct:=N,bk:=D.nx } _ _ _ ⟨fun _ _ q=>q,h.rt,h.nx,fun _ _ q=>q⟩ q) (step x H' y)⟩) q
theorem Ab {t u:TS} {D:Ends} {σ:St} {H:Hp} (J:St->Hp->Prop) (h1:t { D with nx:=J } σ H) (h2:∀ σ' H',J σ' H'->u D σ' H') (hm:A1 t):FN t u D σ H :=
 hm { D with nx:=J } { D with nx:=u D } σ H ⟨h2,fun _ _ q=>q,fun _ _ q=>q,fun _ _ q=>q⟩ h1
section
variable {X:Cx} {K:W.Frag} {a b c e l tg:Expr} {es:List Expr} {ta tb tc te tl:TE} {pos p:Pos}
theorem Ad (hK:X.K=K:=by rfl):OpR X (binaryOp .Add) (CC K):=hK ▸ ME
theorem kEq (hu:X.A.units+60 < cLine) (hK:X.K=K:=by rfl):OpR X (compareOp .Eq) (mEq false K):=hK ▸ No hu
theorem kNe (hu:X.A.units+60 < cLine) (hK:X.K=K:=by rfl):OpR X (compareOp .NotEq) (mEq true K):=hK ▸ NT hu
theorem kIx (ha:PE X a ta) (hb:PE X b tb) (hs:EX b:=by intro _ _;rfl) (hK:X.K=K:=by rfl):PE X (.Subscript a b pos) (tOp (mIx K) ta tb):=hK ▸ Lk ha hb hs
theorem C9 (hK:X.K=K:=by rfl):CallR X (.builtin "len") (D4 K):=hK ▸ Mo
theorem Fp (hK:X.K=K:=by rfl):CallR X (.type "tuple") (Hy K):=hK ▸ KP
theorem Fl (hl:PE X l tl) (hK:X.K=K:=by rfl):PI X tg l (Es K tl):=hK ▸ Ji hl
theorem N6 {es:List Expr} {k:Nat} {t:TGs} {n:Nat} (hc:X.calm=true) (h:PGs X es t)
 (hn:(assignEach es X.env).length=n:=by rfl) (hst:(assignEach es X.env).findIdx? (·.1)=none:=by rfl) (hK:X.K=K:=by rfl):PG X (.Tuple es k pos) (FO K n t):=hK ▸ Ir hc h hn hst
end
theorem Inv.turnedNew {X:Cx} {pins:List (Addr × Obj)} {σ:St} {H:Hp} {s:Shared} {h':Heap} {ch:List Addr} {T:Addr} {o:HO} (I:Inv X pins σ H s) (hf:∀ b∈ch,A4 X pins H b) (hT:s.heap.objs.size<=T)
 (k:∀ b u,b∉ch->s.heap.get? b=some u->h'.get? b=some u) (new:ObjOk X.prog X.w (upd H T o) h' T o) (th:∀ b∈ch,∃ u,h'.get? b=some u):Inv X pins σ (upd H T o) { s with heap:=h' }:=by
 have hTn:H T=none:=I.hok.fresh hT
 have nT:∀ b u,H b=some u->b≠T:=fun b u e z=>by rw [z,hTn] at e;cases e
 have nc:∀ b u,H b=some u->b∉ch:=fun b u e z=>by rw [(hf b z).1] at e;cases e
 refine I.step (g':=s.gens) (d':=s.drawn) (t':=s.toks) (ch:=ch) (fun b hb=>?_) (fun b u _ _ hc e _=>k b u hc e) (fun b u _ _ hc e _=>⟨u.slots,k b u hc e⟩) (fun b u hc e n=>?_) (fun b u hc e=>⟨u,k b u hc e⟩)
  (fun b xs e=>by rw [AI (nT _ _ e)];exact e) (fun b u v e=>by rw [AI (nT _ _ e)];exact e) (fun b ps e=>⟨#[],by rw [AI (nT _ _ e),e];simp⟩) (fun m hm=>?_) (fun b u e=>?_) I.bare
 ·obtain ⟨q1,q2,q3,q4,q5,q6⟩:=hf b hb
  exact ⟨q4,q2,q5,q6⟩
 ·rw [AI (Nat.ne_of_lt (Nat.lt_of_lt_of_le (Heap.lt_size e) hT))];exact n
 ·obtain ⟨u,es,ep,ho,r⟩:=hm
  exact ⟨u,es,ep,k _ u (fun z=>(hf _ z).2.1 rfl) ho,r⟩
 ·by_cases hb:b=T
  ·subst hb;rw [AJ] at e;cases e;exact new
  ·rw [AI hb] at e
   refine (I.hok b u e).stay (fun c v hc q=>k c v ?_ q) (fun c q=>by rw [AI (nT _ _ q)];exact q) fun c xs q=>by rw [AI (nT _ _ q)];exact q
   rcases hc with z | z
   ·rw [z];exact nc b u e
   ·exact nc c _ z
section
variable {X:Cx}
end
section
variable {X:Cx} {K:W.Frag} {o e:Expr} {es:List Expr} {to:TE} {t:TA} {apos cpos:Pos}
def Dq (K:W.Frag):List V->Hp->VK->Prop:=fun xs H Q=>match xs with
 | [.ref l]=>∃ ns:List Int,SqL K H l (ns.map V.int)/\Q (.int ns.sum) H
 | _=>False
theorem Jm (hc:X.calm=true):CallR X (.builtin "sum") (Dq X.K):=by
 intro pins s σ H xs us Q I r q
 match xs,q with
 | [.ref l],q =>
 obtain ⟨ns,hl,q⟩:=q
 obtain ⟨u,rfl,ru⟩:=B9 r
 cases ru
 obtain ⟨its,rv,pl,hz⟩:=I.list hl
 have hi:IntsAre its ns:=by simpa using Nc rv
 obtain ⟨zs,hzs⟩:=(hi.allInts).items
 have e:(numsOf its).sum=ns.sum:=by rw [hi.numsOf]
 have pl':=pl.isList
 rw [hzs] at pl'
 refine sum_intListG (I.ok.hd hc) pl' fun h' tk t' hk=>?_
 refine ⟨.int _,H,I.kept hk,⟨t',rfl⟩,?_⟩
 have e2:preSum (numAt zs) zs.size=ns.sum:=by
  rw [preSum_eq,List.take_of_length_le (by simp),<- e]
  rw [show its=its.toArray.toList by simp,hzs,nums_intItems]
 rw [e2]
 exact q
theorem GH (hc:X.calm=true) (hK:X.K=K:=by rfl):CallR X (.builtin "sum") (Dq K):=hK ▸ Jm hc
theorem Mr:Ck (Dq K):=fun xs H Q Q' h q=>by
 unfold Dq at *
 split at q
 ·obtain ⟨ns,a,q⟩:=q;exact ⟨ns,a,h _ _ q⟩
 ·exact q.elim
end
section
variable {prog:Program} {w:World} {A:Around} {E:Value->Shared->Prop} {s:Shared}
theorem Gq {it t:Addr} {items:Array Value} (hne:t≠it):∀ (n i:Nat) (s:Shared) (Q:List Value->Shared->Prop),s.heap.IsListIter it t i->s.heap.IsList t items->i+n<=items.size ->
 (∀ h',h'.IsListIter it t (i+n)->Heap.SameBut it s.heap h'->Q ((items.toList.drop i).take n) { s with heap:=h' })->wpAny (model prog w) A (draw (.ref it) n) Q E s
 | 0,i,s,Q,hit,_,_,hQ=>by
  show wpAny _ _ (pure []) Q E s
  exact wpAny_pure (by simpa using hQ s.heap hit (Heap.SameBut.refl ..))
 | n+1,i,s,Q,hit,ht,hle,hQ=>by
  have hlt:i < items.size:=by lia
  show wpAny _ _ (pyNext (.ref it) >>= _) Q E s
  refine wpAny_bind (wpAny_pyNext_list_item hit ht (x:=items[i]) (by simp [hlt]) fun h₁ hit₁ hs₁=>?_)
  refine wpAny_bind (wpAny_holding (Gq hne n (i+1) _ _ hit₁ (ht.extBut hs₁.extBut hne) (by lia) fun h₂ hit₂ hs₂=>wpAny_pure ?_))
  have hd:items.toList.drop i=items[i]::items.toList.drop (i+1):=by simp [List.drop_eq_getElem_cons,hlt]
  have:=hQ h₂ (by rw [show i+(n+1)=i+1+n by lia];exact hit₂) (hs₁.trans hs₂)
  rw [hd,List.take_succ_cons] at this
  exact this
theorem Ll {t:Addr} {items:Array Value} {Q:List Value->Shared->Prop} (hh:A.handled=none) (ht:s.heap.IsList t items)
 (hQ:∀ h',Heap.ExtBut s.heap.objs.size s.heap h'->Q items.toList { s with heap:=h' }):wpAny (model prog w) A (unpackItems (.ref t) items.size none) Q E s:=by
 have hlt:t≠s.heap.objs.size:=by obtain ⟨o,ho,_⟩:=ht;exact Nat.ne_of_lt (Heap.lt_size ho)
 unfold unpackItems
 refine wpAny_bind ?_
 ·unfold notIterableAtAll
  refine wpAny_bind (wpAny_specialOf ht.typeIs slot_list_iter.lookup ?_)
  refine wpAny_pure ?_
  simp only [Bool.false_eq_true,if_false]
  refine wpAny_bind (wpAny_holding (wpAny_pyIter_list ht ?_))
  refine wpAny_bind (wpAny_holding (Gq hlt items.size 0 _ _ ⟨_,Heap.get?_push_size _ rfl,rfl,rfl⟩ (ht.at fun o e=>Heap.get?_push_of_some _ e) (by lia) fun h₁ hit₁ hs₁=>?_))
  have hall:List.take items.size (List.drop 0 items.toList)=items.toList:=by
   rw [List.drop_zero];exact List.take_of_length_le (by simp)
  rw [hall]
  rw [if_neg (by simp)]
  have ht₁:h₁.IsList t items:=(Heap.IsList.at ht fun o e=>Heap.get?_push_of_some _ e).extBut hs₁.extBut hlt
  refine wpAny_bind (wpAny_holding (wpAny_pyNext_list_end hh hit₁ ht₁ (by simp) fun h₂ he₂=>?_))
  simp only [Option.isSome_none,Bool.false_eq_true,if_false]
  refine wpAny_pure (hQ h₂ fun b o hb e=>he₂ b o hb (hs₁.extBut b o hb (Heap.get?_push_of_some _ e)))
theorem MH {env:Env} {elts:List Expr} {x1} {pos:Pos} {t:Addr} {items:Array Value} {Q:Unit->Shared->Prop} (hh:A.handled=none) (ht:s.heap.IsList t items)
 (hn:(assignEach elts env).length=items.size) (hstar:(assignEach elts env).findIdx? (·.1)=none)
 (h:∀ h',Heap.ExtBut s.heap.objs.size s.heap h'->wpAny (model prog w) A (assignInOrder ((assignEach elts env).map (·.2)) items.toList) Q E { s with heap:=h' }) :
 wpAny (model prog w) A (assign (.Tuple elts x1 pos) env (.ref t)) Q E s:=by
 rw [assign_Tuple]
 refine wpAny_bind (wpAny_standAt ?_)
 unfold unpack
 rw [hn,hstar]
 exact wpAny_bind (wpAny_holding (Ll hh ht h))
end
section
variable {X:Cx} {K:W.Frag} {pos p2:Pos} {e:Expr} {lo hi:Option Expr} {te:TE} {tl th:TO}
def De (K:W.Frag) (n:Nat) (t:TGs):TG:=fun v σ H Q=>match v with
 | .ref a=>∃ xs,SqA K H a xs/\xs.length=n/\t xs σ H Q
 | _=>False
theorem Ct {es:List Expr} {k:Nat} {t:TGs} {n:Nat} (hc:X.calm=true) (h:PGs X es t)
 (hn:(assignEach es X.env).length=n:=by rfl) (hst:(assignEach es X.env).findIdx? (·.1)=none:=by rfl) (hK:X.K=K:=by rfl):PG X (.Tuple es k pos) (De K n t):=by
 subst hK
 intro pins s σ H v u Q I r hw
 cases v with
 | ref a =>
  obtain ⟨xs,hq | hq,hl,hw⟩:=hw
  ·cases r
   obtain ⟨its,rv,ht,hz⟩:=I.list hq
   refine MH (I.ok.hd hc) ht.isList (by simp [hn,<- hl,rv.length]) hst fun h' hx=>?_
   have I1:Inv X pins σ H { s with heap:=h' }:=I.kept (t':=s.toks) fun b o e=>hx b o (Nat.ne_of_lt (Heap.lt_size e)) e
   exact h pins _ σ H xs _ Q I1 (by simpa using rv) hw
  ·exact Ir hc h hn hst pins s σ H _ u Q I r ⟨a,xs,rfl,hq,hl,hw⟩
 | _=>exact False.elim hw
theorem LH {n:Nat} {t:TGs} (h:DK t):CB (De K n t):=fun v _ _ _ _ k q=>by
 cases v <;> first | exact False.elim q | (obtain ⟨xs,s,l,q⟩:=q;exact ⟨xs,s,l,h _ _ _ _ _ k q⟩)
end
theorem B0 {K:W.Frag} {H H':Hp} {a:Addr} {xs:List V} (h:SqT K H a xs) (s:Same H H'):SqT K H' a xs:=IE h fun o e=>s a o e
mutual
theorem Rep.same {K:W.Frag} {H H':Hp} (s:Same H H'):∀ (d:Dv) (v:V),Rep K H d v->Rep K H' d v
 | .non,v,h=>by unfold Rep at *;exact h
 | .bl b,v,h=>by unfold Rep at *;exact h
 | .int i,v,h=>by unfold Rep at *;exact h
 | .str x,v,h=>by unfold Rep at *;exact h
 | .tup ds,v,h=>by
  unfold Rep at *
  obtain ⟨a,xs,e,h1,h2⟩:=h
  exact ⟨a,xs,e,B0 h1 s,Reps.same s ds xs h2⟩
 | .lst ds,v,h=>by
  unfold Rep at *
  obtain ⟨a,xs,e,h1,h2⟩:=h
  exact ⟨a,xs,e,GJ h1 fun o e=>s a o e,Reps.same s ds xs h2⟩
theorem Reps.same {K:W.Frag} {H H':Hp} (s:Same H H'):∀ (ds:List Dv) (xs:List V),Reps K H ds xs->Reps K H' ds xs
 | [],xs,h=>by unfold Reps at *;exact h
 | d::ds,xs,h=>by
  unfold Reps at *
  obtain ⟨x,r,e,h1,h2⟩:=h
  exact ⟨x,r,e,Rep.same s d x h1,Reps.same s ds r h2⟩
end
theorem Tape.lst {K:W.Frag} {H:Hp} {t a:Addr} {ns:List Int} (T:Tape K H t a ns):∃ zs,H t=some (.lst zs):=by
 obtain ⟨i,r,c,_,_,h⟩:=T.at_
 exact ⟨_,h⟩
theorem DP {K:W.Frag} {H:Hp} {p:Addr} {xs:List V} {ds:List Dv} (h:H p=some (.tup xs)) (r:Reps K H ds xs):Rep K H (.tup ds) (.ref p):=by unfold Rep;exact ⟨p,xs,rfl,.of h,r⟩
theorem Bi {K:W.Frag} {H:Hp}:Reps K H [] []:=by unfold Reps;rfl
theorem BC {K:W.Frag} {H:Hp} {d:Dv} {ds:List Dv} {x:V} {xs:List V} (h:Rep K H d x) (r:Reps K H ds xs):Reps K H (d::ds) (x::xs):=by unfold Reps;exact ⟨x,xs,rfl,h,r⟩
theorem Bz {K:W.Frag} {H:Hp} {x:Int}:Rep K H (.int x) (.int x):=by unfold Rep;rfl
theorem Reps.append {K:W.Frag} {H:Hp}:∀ {ds es:List Dv} {xs ys:List V},Reps K H ds xs->Reps K H es ys->Reps K H (ds++es) (xs++ys)
 | [],es,xs,ys,h,h'=>by unfold Reps at h;subst h;exact h'
 | d::ds,es,xs,ys,h,h'=>by
  unfold Reps at h
  obtain ⟨x,r,rfl,h1,h2⟩:=h
  exact BC h1 (Reps.append h2 h')
section
variable {κ:Type} [DecidableEq κ]
def Ap (kvs:List (κ × V)) (k:κ):Option V:=(kvs.find? fun kv=>decide (kv.1=k)).map (·.2)
def Ai (kvs:List (κ × V)) (k:κ) (v:V):List (κ × V) :=
 if (kvs.any fun kv=>decide (kv.1=k))=true then kvs.map (fun kv=>if kv.1=k then (kv.1,v) else kv) else kvs++[(k,v)]
theorem Fm {p:κ × V} {r:List (κ × V)} {k:κ} (e:p.1=k):Ap (p::r) k=some p.2:=by simp [Ap,List.find?_cons,e]
theorem FP {p:κ × V} {r:List (κ × V)} {k:κ} (e:¬ p.1=k):Ap (p::r) k=Ap r k:=by simp [Ap,List.find?_cons,e]
theorem Fs (k:κ):∀ kvs:List (κ × V),(kvs.any fun kv=>decide (kv.1=k))=(Ap kvs k).isSome
 | []=>rfl
 | p::r=>by
  rw [List.any_cons]
  by_cases e:p.1=k
  ·simp only [Fm e,decide_eq_true e,Bool.true_or,Option.isSome_some]
  ·rw [FP e,decide_eq_false e,Bool.false_or];exact Fs k r
theorem E7 (kvs:List (κ × V)) (k:κ) (v:V):(Ai kvs k v).length<=kvs.length+1:=by
 unfold Ai
 split
 ·rw [List.length_map];lia
 ·rw [List.length_append,List.length_cons,List.length_nil];lia
theorem Ft {kvs:List (κ × V)} {k:κ} (v:V) (h:Ap kvs k=none):Ai kvs k v=kvs++[(k,v)]:=by
 unfold Ai
 rw [Fs,h]
 exact if_neg (by decide)
theorem RelO.isSome_eq {o:Option V} {u:Option Value} (r:RelO o u):o.isSome=u.isSome:=by
 cases o with
 | none=>cases u with
  | none=>rfl
  | some _=>exact (show False from r).elim
 | some _=>cases u with
  | none=>exact (show False from r).elim
  | some _=>rfl
theorem RelO.getD {o:Option V} {u:Option Value} {d:V} {d':Value} (r:RelO o u) (rd:RelV d d'):RelV (o.getD d) (u.getD d'):=by
 cases o with
 | none=>cases u with
  | none=>exact rd
  | some _=>exact (show False from r).elim
 | some _=>cases u with
  | none=>exact (show False from r).elim
  | some _=>exact r
theorem KV.val {kvs:List (κ × V)} {vs:List (κ × Value)} (r:KV kvs vs) (k:κ):RelO (Ap kvs k) (valueAt vs k):=by
 unfold KV at r
 induction r with
 | nil=>exact True.intro
 | @cons p q ps qs h t ih =>
  obtain ⟨h1,h2⟩:=h
  by_cases e:p.1=k
  ·have e':q.1=k:=h1.symm.trans e
   have b:valueAt (q::qs) k=some q.2:=by simp [valueAt,List.find?_cons,e']
   rw [Fm e,b];exact h2
  ·have e':¬ q.1=k:=fun z=>e (h1.trans z)
   have b:valueAt (q::qs) k=valueAt qs k:=by simp [valueAt,List.find?_cons,e']
   rw [FP e,b];exact ih
theorem KV.any {kvs:List (κ × V)} {vs:List (κ × Value)} (r:KV kvs vs) (k:κ):(kvs.any fun kv=>decide (kv.1=k))=vs.any fun kv=>decide (kv.1=k):=by
 unfold KV at r
 induction r with
 | nil=>rfl
 | cons h t ih=>rw [List.any_cons,List.any_cons,ih,h.1]
theorem KV.repl {kvs:List (κ × V)} {vs:List (κ × Value)} (r:KV kvs vs) (k:κ) {y:V} {u:Value} (ry:RelV y u) :
 KV (kvs.map fun kv=>if kv.1=k then (kv.1,y) else kv) (vs.map fun kv=>if kv.1=k then (kv.1,u) else kv):=by
 unfold KV at r ⊢
 induction r with
 | nil=>exact .nil
 | @cons p q ps qs h t ih =>
  rw [List.map_cons,List.map_cons]
  refine .cons ?_ ih
  obtain ⟨h1,h2⟩:=h
  by_cases e:p.1=k
  ·rw [if_pos e,if_pos (h1.symm.trans e)];exact ⟨h1,ry⟩
  ·rw [if_neg e,if_neg (fun z=>e (h1.trans z))];exact ⟨h1,h2⟩
theorem KV.put {kvs:List (κ × V)} {vs:List (κ × Value)} (r:KV kvs vs) (k:κ) {y:V} {u:Value} (ry:RelV y u):KV (Ai kvs k y) (stored vs k u):=by
 unfold Ai stored
 rw [r.any k]
 by_cases e:(vs.any fun kv=>decide (kv.1=k))=true
 ·rw [if_pos e,if_pos e];exact r.repl k ry
 ·rw [if_neg e,if_neg e];exact Paired.snoc r ⟨rfl,ry⟩
theorem KV.length {kvs:List (κ × V)} {vs:List (κ × Value)} (r:KV kvs vs):kvs.length=vs.length:=Paired.length r
end
theorem DX {P:Program} {w:World} {k:Key} {u:Value} (r:RelV (kV k) u):(Af P w).is k u=true:=by
 cases k with
 | inl i=>obtain ⟨t,e⟩:=(show ∃ t,u=Value.int i t from r);subst e;exact L0 P w i t
 | inr x=>obtain ⟨t,e⟩:=(show ∃ t,u=Value.str x t from r);subst e;exact Mz P w x t
theorem GP {P:Program} {w:World}:∀ {ks:List Key} {us:List Value},Vals (ks.map kV) us->ItemsAre (Af P w) ks us
 | [],_,r=>by rw [List.map_nil] at r;cases r;exact .nil
 | k::ks,_,r=>by
  rw [List.map_cons] at r
  cases r with
  | cons h t=>exact .cons (DX h) (GP t)
abbrev KT (H:Hp):List (List Key × V)->List (List Key × Addr × Value)->Prop:=Paired fun p q=>p.1=q.1/\H q.2.1=some (.tup (p.1.map kV))/\RelV p.2 q.2.2
theorem KT.val {H:Hp} {kvs:List (List Key × V)} {xs:List (List Key × Addr × Value)} (r:KT H kvs xs) (k:List Key):RelO (Ap kvs k) ((atKey xs k).map (·.2)):=by
 induction r with
 | nil=>exact True.intro
 | @cons p q ps qs h t ih =>
  obtain ⟨h1,_,h2⟩:=h
  by_cases e:p.1=k
  ·have e':q.1=k:=h1.symm.trans e
   have b:atKey (q::qs) k=some q.2:=by simp [atKey,List.find?_cons,e']
   rw [Fm e,b];exact h2
  ·have e':¬ q.1=k:=fun z=>e (h1.trans z)
   have b:atKey (q::qs) k=atKey qs k:=by simp [atKey,List.find?_cons,e']
   rw [FP e,b];exact ih
theorem KT.repl {H:Hp} {kvs:List (List Key × V)} {xs:List (List Key × Addr × Value)} (r:KT H kvs xs) (k:List Key) {y:V} {u:Value} (ry:RelV y u) :
 KT H (kvs.map fun kv=>if kv.1=k then (kv.1,y) else kv) (xs.map (putAt k u)):=by
 induction r with
 | nil=>exact .nil
 | @cons p q ps qs h t ih =>
  rw [List.map_cons,List.map_cons]
  refine .cons ?_ ih
  obtain ⟨h1,h2,h3⟩:=h
  unfold putAt
  by_cases e:p.1=k
  ·rw [if_pos e,if_pos (h1.symm.trans e)];exact ⟨h1,h2,ry⟩
  ·rw [if_neg e,if_neg (fun z=>e (h1.trans z))];exact ⟨h1,h2,h3⟩
theorem KT.put {H:Hp} {kvs:List (List Key × V)} {xs:List (List Key × Addr × Value)} (r:KT H kvs xs) (k:List Key) {b:Addr} {y:V} {u:Value} (hb:H b=some (.tup (k.map kV))) (ry:RelV y u) :
 KT H (Ai kvs k y) (storedH xs k b u):=by
 have e:(kvs.any fun kv=>decide (kv.1=k))=(atKey xs k).isSome:=by
  rw [Fs,(r.val k).isSome_eq,Option.isSome_map]
 unfold Ai storedH
 rw [e]
 by_cases q:(atKey xs k).isSome=true
 ·rw [if_pos q,if_pos q];exact r.repl k ry
 ·rw [if_neg q,if_neg q];exact Paired.snoc r ⟨rfl,hb,ry⟩
theorem KT.keeps {H H':Hp} {kvs:List (List Key × V)} {xs:List (List Key × Addr × Value)} (r:KT H kvs xs) (ht:∀ b ys,H b=some (.tup ys)->H' b=some (.tup ys)):KT H' kvs xs :=
 Paired.mapP r fun _ _ z=>⟨z.1,ht _ _ z.2.1,z.2.2⟩
section
variable {P:Program} {w:World} {H:Hp} {h:Heap} {a:Addr}
theorem IJ {u:HO} (ok:HOk P w H h) (e:Rd H a u):ObjOk P w H h a u:=e.ok ok
theorem DY {kvs:List (Key × V)} (ok:HOk P w H h) (e:Rd H a (.dK kvs)):kvs.length<=sizeLine/\(a == sysModules)=false/\∃ vs,KV kvs vs/\h.DictOf (Af P w) a vs :=
 show ObjOk P w H h a (.dK kvs) from IJ ok e
theorem EA {kvs:List (Key × V)} (ok:HOk P w H h) (e:H a=some (.dK kvs)):kvs.length<=sizeLine/\(a == sysModules)=false/\∃ vs,KV kvs vs/\h.DictOf (Af P w) a vs:=DY ok (.inl e)
theorem ED {ks:List Key} (ok:HOk P w H h) (e:H a=some (.tup (ks.map kV))):(tupleKind (Af P w)).is h ks a:=by
 obtain ⟨_,its,r,o,h1,h2,⟨n,h3⟩,_⟩:=(show ObjOk P w H h a (.tup (ks.map kV)) from ok a _ e)
 exact ⟨o,its.toArray,n,h1,h2,h3,by simpa using GP r⟩
theorem DW {kvs:List (List Key × V)} (ok:HOk P w H h) (e:Rd H a (.dT kvs)):kvs.length<=sizeLine/\(a == sysModules)=false /\
 ∃ xs,KT H kvs xs/\h.DictOfH (tupleKind (Af P w)) a xs:=by
 obtain ⟨z,y,xs,r,o,es,ep,h1,h2,h3,h4,h5⟩:=(show ObjOk P w H h a (.dT kvs) from IJ ok e)
 refine ⟨z,y,xs,r,o,es,ep,h1,h2,h3,h4,fun x hx=>?_,h5⟩
 have all:∀ {l:List (List Key × V)} {m:List (List Key × Addr × Value)},KT H l m->∀ x∈m,(tupleKind (Af P w)).is h x.1 x.2.1:=by
  intro l m q
  induction q with
  | nil=>intro x hx;exact nomatch hx
  | @cons p q ps qs hq t ih =>
   intro x hx
   rcases List.mem_cons.mp hx with e | hx
   ·subst e
    exact ED ok (by rw [<- hq.1];exact hq.2.1)
   ·exact ih x hx
 exact all r x hx
theorem N7 {kvs:List (List Key × V)} (ok:HOk P w H h) (e:H a=some (.dT kvs)):kvs.length<=sizeLine/\(a == sysModules)=false /\
 ∃ xs,KT H kvs xs/\h.DictOfH (tupleKind (Af P w)) a xs:=DW ok (.inl e)
end
def DGet (H:Hp) (a:Addr) (y:V) (r:Option V):Prop :=
 (∃ kvs k,Rd H a (.dK kvs)/\y=kV k/\r=Ap kvs k)\/∃ kvs k b,Rd H a (.dT kvs)/\y=.ref b/\H b=some (.tup (k.map kV))/\r=Ap kvs k
def DPut (H:Hp) (a:Addr) (y v:V) (H':Hp):Prop :=
 (∃ kvs k,H a=some (.dK kvs)/\y=kV k/\kvs.length < sizeLine/\H'=upd H a (.dK (Ai kvs k v))) \/
 ∃ kvs k b,H a=some (.dT kvs)/\y=.ref b/\H b=some (.tup (k.map kV))/\kvs.length < sizeLine/\H'=upd H a (.dT (Ai kvs k v))
theorem DGet.k {H:Hp} {a:Addr} {kvs:List (Key × V)} {k:Key} (e:H a=some (.dK kvs)):DGet H a (kV k) (Ap kvs k):=.inl ⟨kvs,k,.inl e,rfl,rfl⟩
theorem DGet.t {H:Hp} {a b:Addr} {kvs:List (List Key × V)} {k:List Key} (e:H a=some (.dT kvs)) (eb:H b=some (.tup (k.map kV))):DGet H a (.ref b) (Ap kvs k):=.inr ⟨kvs,k,b,.inl e,rfl,eb,rfl⟩
theorem DPut.k {H:Hp} {a:Addr} {kvs:List (Key × V)} {k:Key} {v:V} (e:H a=some (.dK kvs)) (hl:kvs.length < sizeLine):DPut H a (kV k) v (upd H a (.dK (Ai kvs k v))):=.inl ⟨kvs,k,e,rfl,hl,rfl⟩
theorem DPut.t {H:Hp} {a b:Addr} {kvs:List (List Key × V)} {k:List Key} {v:V} (e:H a=some (.dT kvs)) (eb:H b=some (.tup (k.map kV))) (hl:kvs.length < sizeLine) :
 DPut H a (.ref b) v (upd H a (.dT (Ai kvs k v))):=.inr ⟨kvs,k,b,e,rfl,eb,hl,rfl⟩
section
variable {X:Cx} {pins:List (Addr × Obj)} {σ:St} {H:Hp} {s:Shared} {a:Addr} {y v:V} {u r:Value} {o:Option V} {A:Around} {E:Value->Shared->Prop}
theorem Inv.big (I:Inv X pins σ H s):sysModules < s.heap.objs.size:=by
 have h:mainGlobals < s.heap.objs.size:=(I.mod.glob.keeps I.bk).lt
 exact Nat.lt_trans (by decide) h
theorem JF {Q:Value->Shared->Prop} (hu:A.units+1 < cLine) (I:Inv X pins σ H s) (g:DGet H a y (some v)) (ry:RelV y u) (h:∀ w' s',Inv X pins σ H s'->RelV v w'->Q w' s') :
 wpAny (model X.prog X.w) A (getItem (.ref a) u) Q E s:=by
 rcases g with ⟨kvs,k,e,ey,l⟩ | ⟨kvs,k,b,e,ey,eb,l⟩
 ·subst ey
  obtain ⟨z,hd,vs,rel,dd⟩:=DY I.hok e
  obtain ⟨w',hw,rw'⟩:=RelO.some_of (v:=v) (o:=valueAt vs k) (by rw [l];exact rel.val k)
  exact wpAny_getItem_of (DX ry) dd.mapOf hw (h w' _ (I.tok _) rw')
 ·subst ey
  cases (show u=Value.ref b from ry)
  obtain ⟨z,hd,xs,rel,dd⟩:=DW I.hok e
  obtain ⟨w',hw,rw'⟩:=RelO.some_of (v:=v) (o:=(atKey xs k).map (·.2)) (by rw [l];exact rel.val k)
  obtain ⟨p,hp,hp2⟩:=Option.map_eq_some_iff.mp hw
  refine wpAny_getItem_heap (tupleKind_room_in1 hu) (ED I.hok eb) dd hp ?_
  rw [hp2]
  exact h w' _ (I.tok _) rw'
theorem EU {h':Heap} {t':Nat} {ob:HO} (I:Inv X pins σ H s) (mu:Mut (H a)) (hs:Heap.SameBut a s.heap h') (he:∃ q,h'.get? a=some q) (new:ObjOk X.prog X.w (upd H a ob) h' a ob) :
 Inv X pins σ (upd H a ob) { s with heap:=h',toks:=t' } :=
 I.write (x:=a) (e:=a) mu (.inl rfl) (fun b q hb z=>(hs.2 b hb).trans z) he new
theorem GR {P:Program} {w:World} {H':Hp} {h':Heap} {kvs:List (Key × V)} {vs:List (Key × Value)} (z:kvs.length<=sizeLine) (hd:(a == sysModules)=false) (rel:KV kvs vs) (dd:h'.DictOf (Af P w) a vs) :
 ObjOk P w H' h' a (.dK kvs):=⟨z,hd,vs,rel,dd⟩
theorem Jn {H':Hp} {Q:Unit->Shared->Prop} (hu:A.units+1 < cLine) (I:Inv X pins σ H s) (g:DPut H a y v H') (ry:RelV y u) (rv:RelV v r) (h:∀ s',Inv X pins σ H' s'->Q () s') :
 wpAny (model X.prog X.w) A (setItem (.ref a) u r) Q E s:=by
 rcases g with ⟨kvs,k,e,ey,l,eH⟩ | ⟨kvs,k,b,e,ey,eb,l,eH⟩
 ·subst ey eH
  obtain ⟨z,hd,vs,rel,dd⟩:=EA I.hok e
  have hz:vs.length<=sizeLine:=by rw [<- rel.length];exact z
  have hl:(Ai kvs k v).length<=sizeLine:=by have:=E7 kvs k v;lia
  refine wpAny_setItem_pairs (hsz:=hz) (DX ry) dd fun h' dd' hs=>h _ ?_
  have he:∃ q,h'.get? a=some q:=let ⟨q,_,_,hq,_⟩:=dd';⟨q,hq⟩
  exact EU I (by rw [e];exact True.intro) hs he (GR hl hd (rel.put k rv) dd')
 ·subst ey eH
  cases (show u=Value.ref b from ry)
  obtain ⟨z,hd,xs,rel,dd⟩:=N7 I.hok e
  have hz:xs.length<=sizeLine:=by rw [<- Paired.length rel];exact z
  have hl:(Ai kvs k v).length<=sizeLine:=by have:=E7 kvs k v;lia
  refine wpAny_setItem_heap (hsz:=hz) (tupleKind_room_in1 hu) (ED I.hok eb) dd fun h' dd' hs=>h _ ?_
  obtain ⟨q,es,ep,hq,h2,h3,h4,_,h5⟩:=dd'
  refine EU I (by rw [e];exact True.intro) hs ⟨q,hq⟩ ⟨hl,hd,_,(rel.put k eb rv).keeps fun c ys ec=>?_,q,es,ep,hq,h2,h3,h4,h5⟩
  rw [AI (Kc ec e (fun z=>nomatch z))]
  exact ec
end
section
variable {X:Cx} {pins:List (Addr × Obj)} {σ:St} {H:Hp} {s:Shared} {a:Addr} {kvs:List (Key × V)} {k:Key} {u:Value} {A:Around} {E:Value->Shared->Prop}
end
def IM (i:Expr):Prop:=∀ ov iv,subscripted i false ov iv=operate [ov,iv] (getItem ov iv)
theorem NL {prog:Program} {w:World} {A:Around} {E:Value->Shared->Prop} {s:Shared} {env:Env} {value slice:Expr} {pos:Pos} {T id:String} {Q:Value->Shared->Prop}
 (hl:typeLookup (.type T) "__getitem__" = pure (some (.builtin id))) (hs:IM slice)
 (h:wpAny (model prog w) A (eval value env) (fun o s₁=>wpAny (model prog w) A (eval slice env) (fun i s₂=>s₂.TypeIs o T/\wpAny (model prog w) A (getItem o i) Q E s₂) E s₁) E s) :
 wpAny (model prog w) A (eval (.Subscript value slice pos) env) Q E s:=by
 refine Subscript_ (wpAny_mono h (fun o s₁ h₁=>wpAny_mono h₁ (fun i s₂ h₂=>?_) fun _ _ x=>x) fun _ _ x=>x)
 obtain ⟨hT,h₂⟩:=h₂
 unfold subscriptTail
 refine wpAny_bind ?_
 rw [getitemInPython_of_ne hT.not_modules]
 refine wpAny_bind (wpAny_specialOf hT hl ?_)
 have fin:wpAny (model prog w) A (subscripted slice false o i) (fun r s₃=>wpAny (model prog w) A (letTemporaryGo value o r >>= fun _=>pure r) Q E s₃) E s₂:=by
  rw [hs o i]
  exact wpAny_operating (wpAny_mono h₂ (fun r s₃ h₃=>wpAny_bind (wpAny_letTemporaryGo (wpAny_pure h₃))) fun _ _ x=>x)
 first
  | exact wpAny_pure (wpAny_bind fin)
  | exact wpAny_bind (wpAny_pure (wpAny_bind fin))
  | exact wpAny_bind fin
theorem Lx {X:Cx} {pins:List (Addr × Obj)} {σ:St} {H:Hp} {s:Shared} {a:Addr} {y:V} {o:Option V} (I:Inv X pins σ H s) (g:DGet H a y o):s.TypeIs (.ref a) "dict":=by
 rcases g with ⟨kvs,k,e,_,_⟩ | ⟨kvs,k,b,e,_,_,_⟩
 ·obtain ⟨_,_,vs,_,dd⟩:=DY I.hok e
  exact dd.typeIs
 ·obtain ⟨_,_,xs,_,dd⟩:=DW I.hok e
  exact dd.typeIs
def Lm (td ty:TE):TE:=fun σ H Q=>td σ H fun x H1=>ty σ H1 fun y H2=>∃ a v,x=.ref a/\DGet H2 a y (some v)/\Q v H2
def Gk (td ty tv:TE):TS:=fun D σ H=>tv σ H fun v H1=>td σ H1 fun x H2=>ty σ H2 fun y H3=>∃ a H4,x=.ref a/\DPut H3 a y v H4/\D.nx σ H4
section
variable {X:Cx} {o i e value:Expr} {pos pos' tpos:Pos} {td ty tv:TE}
theorem En (hu:X.A.units+1 < cLine) (ho:PE X o td) (hi:PE X i ty) (hs:IM i):PE X (.Subscript o i pos) (Lm td ty):=by
 intro pins s σ H Q I h
 refine NL PySem.F.slot_dict_getitem.lookup hs (thn (ho pins s σ H _ I h) fun u s1 ⟨x,H1,I1,rx,q1⟩=>thn (hi pins s1 σ H1 _ I1 q1) fun iv s2 ⟨y,H2,I2,ry,a,v,ex,g,q2⟩=>?_)
 subst ex
 obtain rfl:u=Value.ref a:=rx
 exact ⟨Lx I2 g,JF hu I2 g ry fun w' s3 I3 rw'=>⟨v,H2,I3,rw',q2⟩⟩
theorem Du (hu:X.A.units+1 < cLine) (ho:PE X o td) (hi:PE X i ty) (hv:PE X value tv) (hs:swapsWith value (some (.Subscript o i pos')) pos.line X.env=pure false) :
 PS X (.Assign [.Subscript o i pos'] value pos) (Gk td ty tv):=by
 intro pins s σ H D I h
 refine wpAny_Assign_Subscript (thn (hv pins s σ H _ I h) fun r s1 ⟨v,H1,I1,rv,q1⟩=>thn (ho pins s1 σ H1 _ I1 q1) fun u s2 ⟨x,H2,I2,rx,q2⟩=>thn (hi pins s2 σ H2 _ I2 q2) fun iv s3 ⟨y,H3,I3,ry,a,H4,ex,g,q3⟩=>?_) hs
 subst ex
 obtain rfl:u=Value.ref a:=rx
 exact Jn hu I3 g ry rv fun s4 I4=>⟨σ,H4,I4,q3⟩
end
theorem IP {P:Program} {w:World} {H:Hp} (h:Heap) (hb:sysModules < h.objs.size):ObjOk P w H (h.push { cls:=.type "dict",data:=.dict #[] }) h.objs.size (.dK []) :=
 ⟨Nat.zero_le _,beq_eq_false_iff_ne.mpr (Ne.symm (Nat.ne_of_lt hb)),[],.nil,Heap.DictOf.new h⟩
def GQ:TE:=fun _ H Q=>∀ p,H p=none->Q (.ref p) (upd H p (.dK []))
section
variable {X:Cx} {pos:Pos}
theorem FB:PE X (.Dict [] [] pos) GQ:=fun pins s σ H Q I h =>
 wpAny_Dict_empty ⟨.ref s.heap.objs.size,_,I.laid (a:=s.heap.objs.size) (o:=.dK []) (t':=s.toks) (fun _ _ q=>Heap.get?_push_of_some _ q) (Nat.le_refl _) (IP s.heap I.big),rfl,h _ (I.hok.fresh (Nat.le_refl _))⟩
end
def GD:List (TE × TE)->St->Hp->(List (V × V)->Hp->Prop)->Prop
 | [],_,H,Q=>Q [] H
 | (tk,tv)::r,σ,H,Q=>tk σ H fun x H1=>tv σ H1 fun y H2=>GD r σ H2 fun ps H3=>Q ((x,y)::ps) H3
abbrev VV:List (V × V)->List (Value × Value)->Prop:=Paired fun p q=>RelV p.1 q.1/\RelV p.2 q.2
def PPs (X:Cx) (pos:Pos) (keys:List (Option Expr)) (values:List Expr) (trs:List (TE × TE)):Prop :=
 ∀ (pins:List (Addr × Obj)) (s:Shared) (σ:St) (H:Hp) (Q:List (V × V)->Hp->Prop),Inv X pins σ H s->GD trs σ H Q ->
  wpAny (model X.prog X.w) X.A (evalPairs (pairTrees keys values X.env pos)) (fun vs s'=>∃ ps H',Inv X pins σ H' s'/\VV ps vs/\Q ps H') X.xe s
theorem NM {X:Cx} {pos:Pos}:PPs X pos [] [] []:=fun pins s σ H Q I h=>pairTrees_nil_walk ⟨[],H,I,.nil,h⟩
theorem KL {X:Cx} {pos:Pos} {k v:Expr} {ks:List (Option Expr)} {vs:List Expr} {tk tv:TE} {trs:List (TE × TE)} (hk:PE X k tk) (hv:PE X v tv) (hr:PPs X pos ks vs trs) :
 PPs X pos (some k::ks) (v::vs) ((tk,tv)::trs):=fun pins s σ H Q I h =>
 pairTrees_cons_walk (thn (hk pins s σ H _ I h) fun u s1 ⟨x,H1,I1,rx,q1⟩=>thn (hv pins s1 σ H1 _ I1 q1) fun w2 s2 ⟨y,H2,I2,ry,q2⟩ =>
  thn (hr pins s2 σ H2 _ I2 q2) fun ws s3 ⟨ps,H3,I3,rel,q3⟩=>⟨(x,y)::ps,H3,I3,.cons ⟨rx,ry⟩ rel,q3⟩)
def Bt (kvs more:List (Key × V)):List (Key × V):=more.foldl (fun acc kv=>Ai acc kv.1 kv.2) kvs
theorem KV.merge:∀ {more:List (Key × V)} {rs:List (Key × Value)} {kvs:List (Key × V)} {vs:List (Key × Value)},KV more rs->KV kvs vs->KV (Bt kvs more) (merged vs rs):=by
 intro more rs kvs vs r
 unfold KV at r
 induction r generalizing kvs vs with
 | nil=>intro q;exact q
 | @cons p q ps qs h t ih =>
  intro r0
  have e:KV (Ai kvs p.1 p.2) (stored vs q.1 q.2):=by
   have:=r0.put p.1 h.2
   rw [<- h.1];exact this
  exact ih e
theorem Ht:∀ (more kvs:List (Key × V)),(Bt kvs more).length<=kvs.length+more.length
 | [],kvs=>by show kvs.length<=kvs.length+0;lia
 | p::r,kvs=>by
  have h1:=Ht r (Ai kvs p.1 p.2)
  have h2:=E7 kvs p.1 p.2
  show (Bt (Ai kvs p.1 p.2) r).length<=_
  rw [List.length_cons];lia
theorem Hr {P:Program} {w:World}:∀ {kvs:List (Key × V)} {ws:List (Value × Value)},VV (kvs.map fun kv=>(kV kv.1,kv.2)) ws->∃ rs,Carries (Af P w) ws rs/\KV kvs rs
 | [],_,r=>by rw [List.map_nil] at r;cases r;exact ⟨[],True.intro,.nil⟩
 | p::kvs,_,r=>by
  rw [List.map_cons] at r
  cases r with
  | @cons a b as bs h t =>
   obtain ⟨rs,c,q⟩:=Hr (P:=P) (w:=w) t
   obtain ⟨b1,b2⟩:=b
   exact ⟨(p.1,b2)::rs,⟨DX h.1,rfl,c⟩,.cons ⟨rfl,h.2⟩ q⟩
def JS (trs:List (TE × TE)):TE:=fun σ H Q=>∀ p,H p=none->GD trs σ (upd H p (.dK [])) fun ps H2=>H2 p=some (.dK [])/\∃ kvs:List (Key × V),ps=kvs.map (fun kv=>(kV kv.1,kv.2))/\kvs.length<=15/\Q (.ref p) (upd H2 p (.dK (Bt [] kvs)))
theorem Lo {X:Cx} {pos:Pos} {keys:List (Option Expr)} {values:List Expr} {trs:List (TE × TE)} (h:PPs X pos keys values trs) (hall:keys.all (·.isSome)=true) (hl:keys.length=values.length) (h0:keys≠[])
 (h15:keys.length<=15):PE X (.Dict keys values pos) (JS trs):=by
 intro pins s σ H Q I q
 have hn:=I.hok.fresh (Nat.le_refl s.heap.objs.size)
 have I1:=I.laid (a:=s.heap.objs.size) (o:=.dK []) (h':=s.heap.push { cls:=.type "dict",data:=.dict #[] }) (t':=s.toks) (fun _ _ q=>Heap.get?_push_of_some _ q) (Nat.le_refl _) (IP s.heap I.big)
 refine wpAny_Dict_walk (knd:=Af X.prog X.w) hall hl h0 h15 (thn (h pins _ σ _ _ I1 (q _ hn)) fun ws s2 ⟨ps,H2,I2,rel,e,kvs,ep,lk,q2⟩=>?_)
 subst ep
 obtain ⟨rs,c,rk⟩:=Hr (P:=X.prog) (w:=X.w) rel
 obtain ⟨z,hd,vs0,r0,dd⟩:=EA I2.hok e
 cases r0
 refine ⟨rs,c,dd,fun h' dd' hs=>⟨.ref s.heap.objs.size,_,?_,rfl,q2⟩⟩
 have hz:(Bt [] kvs).length<=sizeLine:=by
  have h1:=Ht kvs []
  rw [List.length_nil] at h1
  rw [sizeLine_eq];lia
 have he:∃ q,h'.get? s.heap.objs.size=some q:=let ⟨q,_,_,hq,_⟩:=dd';⟨q,hq⟩
 exact EU I2 (by rw [e];exact True.intro) hs he (GR hz hd (rk.merge .nil) dd')
structure M1 (X:Cx) (o:Expr) (m:Str) (apos:Pos) (e:Expr) (cpos:Pos):Prop where
 base:attributeBase o m X.env (eval o X.env)=eval o X.env
 few:((backTo cpos (starEach [e] X.env)).all (fun x=>!x.1) && (backToKw cpos (keywordEach [] X.env)).all (fun x=>x.1.isSome)
  && decide (([e]:List Expr).length+([]:List Keyword).length+(if ([]:List Keyword).isEmpty then 0 else 1) < 30))=true
 line:(apos.endLine == cpos.line)=true
 trees:backTo cpos (starEach [e] X.env)=[(false,eval e X.env)]
structure M2 (X:Cx) (o:Expr) (m:Str) (apos:Pos) (e f:Expr) (cpos:Pos):Prop where
 base:attributeBase o m X.env (eval o X.env)=eval o X.env
 few:((backTo cpos (starEach [e,f] X.env)).all (fun x=>!x.1) && (backToKw cpos (keywordEach [] X.env)).all (fun x=>x.1.isSome)
  && decide (([e,f]:List Expr).length+([]:List Keyword).length+(if ([]:List Keyword).isEmpty then 0 else 1) < 30))=true
 line:(apos.endLine == cpos.line)=true
 trees:backTo cpos (starEach [e,f] X.env)=[(false,eval e X.env),(false,eval f X.env)]
def IsD (H:Hp) (a:Addr):Prop:=(∃ kvs,Rd H a (.dK kvs))\/∃ kvs,Rd H a (.dT kvs)
theorem J7 {X:Cx} {pins:List (Addr × Obj)} {σ:St} {H:Hp} {s:Shared} {a:Addr} (I:Inv X pins σ H s) (d:IsD H a) :
 s.TypeIs (.ref a) "dict" /\ (∀ b,Value.ref a=.ref b->∃ ob,s.heap.get? b=some ob/\ob.dict=none)/\(a == sysModules)=false:=by
 rcases d with ⟨kvs,e⟩ | ⟨kvs,e⟩
 ·obtain ⟨_,hd,vs,_,dd⟩:=DY I.hok e
  refine ⟨dd.typeIs,fun b q=>?_,hd⟩
  cases q
  obtain ⟨ob,_,_,h1,h2,_⟩:=dd
  exact ⟨ob,h1,h2.2.1⟩
 ·obtain ⟨_,hd,xs,_,dd⟩:=DW I.hok e
  refine ⟨dd.typeIs,fun b q=>?_,hd⟩
  cases q
  obtain ⟨ob,_,_,h1,h2,_⟩:=dd
  exact ⟨ob,h1,h2.2.1⟩
section
variable {X:Cx} {pins:List (Addr × Obj)} {σ:St} {H:Hp} {s:Shared} {a:Addr} {y d:V} {u r:Value} {o:Option V} {A:Around} {E:Value->Shared->Prop}
theorem Md {Q:Value->Shared->Prop} (hu:A.units+1 < cLine) (I:Inv X pins σ H s) (g:DGet H a y o) (ry:RelV y u) (rd:RelV d r) (h:∀ w' s',Inv X pins σ H s'->RelV (o.getD d) w'->Q w' s') :
 wpAny (model X.prog X.w) A (call (.builtin "dict.get") [.ref a,u,r]) Q E s:=by
 rcases g with ⟨kvs,k,e,ey,l⟩ | ⟨kvs,k,b,e,ey,eb,l⟩
 ·subst ey
  obtain ⟨z,hd,vs,rel,dd⟩:=DY I.hok e
  refine call_meetsIn PySem.F.slot_dict_get dd.typeIs PySem.F.entry_dict_get (PySem.F.args_dict_get_3 _ _ _) (meets_dict_get_default (Af X.prog X.w) a (DX ry) hd r) ⟨_,dd.mapOf,h _ _ (I.tok _) ?_⟩
  rw [l]
  exact (rel.val k).getD rd
 ·subst ey
  cases (show u=Value.ref b from ry)
  obtain ⟨z,hd,xs,rel,dd⟩:=DW I.hok e
  refine call_meetsIn PySem.F.slot_dict_get dd.typeIs PySem.F.entry_dict_get (PySem.F.args_dict_get_3 _ _ _) (meetsH_dict_get_default (tupleKind (Af X.prog X.w)) a b hd r) ⟨tupleKind_room_in1 hu,k,xs,ED I.hok eb,dd,h _ _ (I.tok _) ?_⟩
  rw [l]
  exact (rel.val k).getD rd
end
def HA (td ty tx:TE):TE:=fun σ H Q=>td σ H fun x H1=>∃ a,x=.ref a/\IsD H1 a/\ty σ H1 fun y H2=>tx σ H2 fun z H3=>∃ o,DGet H3 a y o/\Q (o.getD z) H3
section
variable {X:Cx} {o e f:Expr} {apos cpos:Pos} {td ty tx:TE}
theorem FD (hu:X.A.units+1 < cLine) (ho:PE X o td) (he:PE X e ty) (hf:PE X f tx) (m:M2 X o "get" apos e f cpos):PE X (.Call (.Attribute o "get" apos) [e,f] [] cpos) (HA td ty tx):=by
 intro pins s σ H Q I h
 refine wpAny_Call_method m.base m.few m.line PySem.F.plainAttrs_dict PySem.F.slot_dict_get PySem.F.type_dict_get (thn (ho pins s σ H _ I h) fun u s1 ⟨x,H1,I1,rx,a,ex,d,q1⟩=>?_)
 subst ex
 obtain rfl:u=Value.ref a:=rx
 obtain ⟨t1,t2,_⟩:=J7 I1 d
 refine ⟨t1,t2,?_⟩
 rw [m.trees]
 refine Calls.callWith_builtin rfl (Calls.evalArgs_plain (Calls.spliced_cons (thn (he pins s1 σ H1 _ I1 q1) fun iv s2 ⟨y,H2,I2,ry,q2⟩ =>
  Calls.spliced_cons (thn (hf pins s2 σ H2 _ I2 q2) fun fv s3 ⟨z,H3,I3,rz,ov,g,q3⟩=>Calls.spliced_nil ?_))))
 exact Md hu I3 g ry rz fun w' s4 I4 rw'=>⟨_,H3,I4,rw',q3⟩
end
section
variable {X:Cx} {pins:List (Addr × Obj)} {σ:St} {H:Hp} {s:Shared} {a:Addr} {kvs:List (Key × V)} {A:Around} {E:Value->Shared->Prop}
end
section
variable {X:Cx} {pins:List (Addr × Obj)} {σ:St} {H:Hp} {s:Shared} {a:Addr} {y:V} {u:Value} {A:Around} {E:Value->Shared->Prop}
end
theorem ML {M:Model} {A:Around} {E:Value->Shared->Prop} {s:Shared} {b:Bool} {Q:Int->Shared->Prop} (h:Q (if b=true then 1 else 0) s):wpAny M A (Builtin.Int.intOfSelf (.bool b)) Q E s:=by
 unfold Builtin.Int.intOfSelf
 exact wpAny_pure h
theorem KD {prog:Program} {w:World} {A:Around} {E:Value->Shared->Prop} {s:Shared} {b:Bool} {Q:Int->Shared->Prop} (h:Q (if b=true then 1 else 0) { s with toks:=s.toks+1 }):wpAny (model prog w) A (pyHash (.bool b)) Q E s:=by
 show wpAny _ _ (pyHashByItsType (.bool b)) _ _ _
 refine PySem.W.pyHash_slot (T:="bool") rfl PySem.F.slot_bool_hash PySem.F.entry_int_hash (PySem.F.args_int_hash_1 _) rfl (.inl rfl) ?_
 unfold Builtin.«int.__hash__» Builtin.Int.intSlot0
 refine wpAny_bind (wpAny_bind ?_)
 show wpAny _ _ (pure (Value.bool b,[])) _ _ _
 refine wpAny_pure (wpAny_bind (ML (wpAny_pure ?_)))
 cases b with
 | true=>exact wpAny_bind (wpAny_mkInt (wpAny_pure ⟨_,_,rfl,h⟩))
 | false=>exact wpAny_bind (wpAny_mkInt (wpAny_pure ⟨_,_,rfl,h⟩))
def Ew:Bool->Value->Bool
 | b,.bool c=>b == c
 | _,_=>false
theorem CH {b:Bool} {v:Value} (h:Ew b v=true):v=.bool b:=by
 unfold Ew at h
 split at h
 ·rw [beq_iff_eq.mp h]
 ·cases h
def MQ (prog:Program) (w:World):PySem.KeyKind prog w Bool where
 is:=Ew
 hash:=fun b=>if b=true then 1 else 0
 inj:=fun v a b ha hb=>by
  have e1:=CH ha
  have e2:=CH hb
  rw [e1] at e2
  injection e2
 byValue:=fun k v h=>by rw [CH h];rfl
 pyHash:=fun hv h=>by rw [CH hv];exact KD h
 eqBool:=fun {A E s a b u v Q} hu hv h=>by
  rw [CH hu,CH hv]
  refine SeqAt.EqAt.bool_bool a b _ _ _ _ ?_
  have e:(a == b)=decide (a=b):=by cases a <;> cases b <;> rfl
  rw [e];exact h
 «strs»:=fun k x t v h=>by
  have:=CH h
  cases this
section
variable {P:Program} {w:World} {H:Hp} {h:Heap} {a:Addr}
end
section
variable {X:Cx} {o i e value:Expr} {pos pos' tpos:Pos} {td ty tv:TE}
end
section
variable {X:Cx} {P:Program} {w:World} {o i:Expr} {pos:Pos} {td ty:TE}
end
section
variable {X:Cx} {K:W.Frag} {o:Expr} {to:TE} {apos cpos:Pos}
def Ek:V->List V->Hp->VK->Prop:=fun x vs H Q=>match x,vs with
 | .int i,[]=>Q (.int (Builtin.Int.intBits i:Nat)) H
 | _,_=>False
theorem MJ:MtR X "int.bit_length" Ek:=by
 intro pins s σ H x vs v us Q I rx rv q
 match x,vs,q with
 | .int i,[],q =>
  cases rv
  obtain ⟨t,rfl⟩:=(show ∃ t,v=Value.int i t from rx)
  exact PyProof.Rows.call_int_bit_length ⟨.int (Builtin.Int.intBits i:Nat),H,I.tok _,⟨_,rfl⟩,q⟩
theorem LM (ho:PE X o to) (hbase:attributeBase o "bit_length" X.env (eval o X.env)=eval o X.env:=by rfl) (hline:(apos.endLine == cpos.line)=true:=by rfl) (hK:X.K=K:=by rfl) :
 PE X (.Call (.Attribute o "bit_length" apos) [] [] cpos) (IG K "int" Ek to):=hK ▸ Mq PySem.F.plainAttrs_int PySem.F.slot_int_bit_length PySem.F.type_int_bit_length MJ ho hbase hline
end
def Ite (K:W.Frag) (l:Addr):It :=
 ⟨fun i H=>∃ xs x,SqL K H l xs/\xs[i]? = some x,
  fun i H v H'=>∃ p x,H p=none/\v=.ref p/\H'=upd H p (.tup [.int i,x])/\∀ xs,SqL K H l xs->xs[i]? = some x,
  fun i H=>∃ xs,SqL K H l xs/\xs.length<=i⟩
theorem Lg {P:Program} {w:World} {K:W.Frag} {es:List Expr} {kt:Nat} {tpos:Pos} {e it l:Addr} (hne:e≠it) :
 Turn P w K (.Tuple es kt tpos) (Ite K l) [e,it] e (fun i h=>(∃ old,IsEnum h e it (i:Int) old)/\h.IsListIter it l i) where
 mem:=by simp
 obj:=fun i h st b hb=>by
  obtain ⟨⟨old,hz⟩,⟨o1,e1,c1,d1⟩⟩:=st
  simp only [List.mem_cons,List.mem_nil_iff,or_false] at hb
  rcases hb with rfl | rfl
  ·exact ⟨_,hz,fun v q=>nomatch q⟩
  ·exact ⟨o1,e1,fun v q=>by rw [d1] at q;cases q⟩
 keep:=fun i h h' ⟨⟨old,hz⟩,h1⟩ k=>⟨⟨old,k e (by simp) _ hz⟩,h1.at fun o q=>k it (by simp) o q⟩
 item:=by
  intro X hP hw hK hc i pins s σ H E I hf st hg
  subst hP hw hK
  obtain ⟨xs,x,hq1,hx⟩:=hg
  obtain ⟨⟨old,hz⟩,h1⟩:=st
  obtain ⟨its,rv,p,_⟩:=I.list hq1
  obtain ⟨u,hu,ru⟩:=rv.get hx
  refine wpAny_pyNext_enum_item hz h1 p.isList (x:=u) (by simpa using hu) hne fun h' z1 z2 z3 z4 z5=>?_
  refine ⟨_,rfl,?_⟩
  have z5':∀ b v,b∉[e,it]->s.heap.get? b=some v->h'.get? b=some v:=fun b v hb q=>by
   simp only [List.mem_cons,List.mem_nil_iff,or_false,not_or] at hb
   exact z5 b v hb.1 hb.2 q
  have I1:Inv X pins σ (upd H s.heap.objs.size (.tup [.int i,x])) { s with heap:=h' }:=by
   refine I.turnedNew (ch:=[e,it]) (fun b hb=>hf b hb) (Nat.le_refl _) z5' ?_ fun b hb=>?_
   ·exact ⟨A8 (show 2<=1000 by decide),[.int i s.toks,u],.cons ⟨_,rfl⟩ (.cons ru .nil),⟨_,z3,rfl,⟨_,rfl⟩,rfl⟩⟩
   ·simp only [List.mem_cons,List.mem_nil_iff,or_false] at hb
    rcases hb with rfl | rfl
    ·exact ⟨_,z1⟩
    ·obtain ⟨o,q,_⟩:=z2;exact ⟨o,q⟩
  refine wpAny_letOwnedTupleGo_enum (s:={ s with heap:=h',toks:=s.toks+1 }) z1 fun h'' z8 z9=>?_
  have hfz:=hf e (by simp)
  have neT:∀ b,b∈[e,it]->b≠s.heap.objs.size:=fun b hb q=>by
   have st':∃ o,s.heap.get? b=some o:=by
    simp only [List.mem_cons,List.mem_nil_iff,or_false] at hb
    rcases hb with rfl | rfl
    ·exact ⟨_,hz⟩
    ·obtain ⟨o,q,_⟩:=h1;exact ⟨o,q⟩
   obtain ⟨o,ho⟩:=st'
   have:=Heap.lt_size ho
   rw [q] at this
   exact Nat.lt_irrefl _ this
  have hTH:∀ b∈[e,it],upd H s.heap.objs.size (.tup [.int i,x]) b=none:=fun b hb=>by rw [AI (neT b hb)];exact (hf b hb).1
  have I2:Inv X pins σ (upd H s.heap.objs.size (.tup [.int i,x])) { s with heap:=h'',toks:=s.toks+1 } :=
   I1.turned (t':=s.toks+1) (fun b o hb q=>(z9.2 b hb).trans q) (hTH e (by simp)) hfz.2.1 hfz.2.2.2.1 hfz.2.2.2.2.1 hfz.2.2.2.2.2
  have up:∀ b o,b≠e->h'.get? b=some o->h''.get? b=some o:=fun b o hb q=>(z9.2 b hb).trans q
  exact ⟨.ref s.heap.objs.size,_,I2,rfl,⟨_,x,I.hok.fresh (Nat.le_refl _),rfl,rfl,fun xs' h=>by rw [I.list_inj h hq1];exact hx⟩,⟨⟨_,z8⟩,z2.at fun o q=>up _ o (Ne.symm hne) q⟩,hTH⟩
 done:=by
  intro X hP hw hK hc i pins s σ H E I hf st hg
  subst hP hw hK
  obtain ⟨xs,hq1,hl⟩:=hg
  obtain ⟨⟨old,hz⟩,h1⟩:=st
  obtain ⟨its,rv,p,_⟩:=I.list hq1
  have e1:=rv.length
  refine wpAny_pyNext_enum_end (I.ok.hd hc) hz h1 p.isList (by simp;lia) fun h' z7=>⟨rfl,?_⟩
  obtain ⟨f0,f1,f2,f3,f4,f5⟩:=hf it (by simp)
  exact I.turned (t':=s.toks) (fun b o hb q=>z7 b o hb q) f0 f1 f3 f4 f5
 self:=fun _ _ _ _ _ st h=>wpAny_pyIter_enum st.1.choose_spec h
section
variable {X:Cx}
def IC (K:W.Frag) (ta:TA):TI:=fun σ H R=>ta σ H fun vs H1=>match vs with
 | [.ref a]=>(∃ xs,SqL K H1 a xs)/\R (Ite K a) H1
 | _=>False
theorem IT {K:W.Frag} {a:Expr} {ta:TA} {p pos:Pos} {es:List Expr} {kt:Nat} {tpos:Pos} (hg:Gl X "enumerate") (hm:X.mg "enumerate" = none) (ha:PA X [a] ta)
 (hs:starEach [a] X.env=[(false,eval a X.env)]:=by rfl) (hK:X.K=K:=by rfl) :
 PI X (.Tuple es kt tpos) (.Call (.Name "enumerate" p) [a] [] pos) (IC K ta):=by
 subst hK
 intro pins s σ H R I h
 refine Call_ (Dd I hg hm (by rfl:bootBuiltins "enumerate" = some (.type "enumerate")) (PyProof.Rows.callWith_type1 (thn (ha pos pins s σ H _ I h) fun us s1 ⟨vs,H1,I1,r1,q1⟩=>?_) (by rw [hs];rfl) (by rfl)))
 match vs,q1,r1 with
 | [.ref l1],⟨⟨xs,hx⟩,q⟩,r1 =>
 cases r1 with
 | cons r rr =>
 cases rr
 cases r
 obtain ⟨its,rv,p1,_⟩:=I1.list hx
 refine call_enumerate_list p1.isList fun h' z1 z2 z3 z4=>?_
 refine wpAny_pyIter_enum (s:={ s1 with heap:=h' }) z1 ?_
 have I2:Inv X pins σ H1 { s1 with heap:=h' }:=I1.kept (t':=s1.toks) z4
 refine ⟨_,_,_,_,H1,rfl,I2,Lg (l:=l1) (it:=s1.heap.objs.size) (Nat.ne_of_gt (Nat.lt_succ_self _)),⟨⟨_,z1⟩,z2⟩,fun b hb=>?_,q⟩
 refine I1.fpOk ?_ (I1.hok.fresh ?_)
 all_goals
  simp only [List.mem_cons,List.mem_nil_iff,or_false] at hb
  rcases hb with rfl | rfl
  ·exact Nat.le_succ _
  ·exact Nat.le_refl _
theorem J1 {K:W.Frag} {ta:TA} (h:Bx ta):B7 (IC K ta):=fun σ H Q Q' k q=>h _ _ _ _ (fun vs _ q=>by
 match vs,q with
 | [.ref a],⟨h1,q⟩=>exact ⟨h1,k _ _ q⟩) q
theorem Kl {K:W.Frag} {l:Addr} {xs:List V} {g:TG} {tc:TT} {te:TE} {σc:St} {Q:VK} {H:Hp} (Pv:Nat->List V->Hp->Prop) (h0:Pv 0 [] H) (hl:∀ i zs H,i<=xs.length->Pv i zs H->SqL K H l xs) (hz:∀ i zs H,i < xs.length->Pv i zs H->zs.length < sizeLine)
 (hs:∀ i x zs H p,xs[i]? = some x->Pv i zs H->H p=none->g (.ref p) σc (upd H p (.tup [.int (i:Nat),x])) fun σ2 H2=>tc σ2 H2 fun b H3=>if b=true then te σ2 H3 fun v H4=>Pv (i+1) (zs++[v]) H4 else Pv (i+1) zs H3)
 (hd:∀ zs H,Pv xs.length zs H->∀ p,H p=none->Q (.ref p) (upd H p (.lst zs))):CF (Ite K l) g tc te σc Q H:=by
 refine ⟨fun i m zs H=>m=xs.length - i/\i<=xs.length/\Pv i zs H,⟨xs.length,by simp,Nat.zero_le _,h0⟩,?_⟩
 rintro i m zs H ⟨rfl,hi,p⟩
 have q1:=hl i zs H hi p
 by_cases hlt:i < xs.length
 ·refine .inr ⟨⟨xs,xs[i],q1,by simp [hlt]⟩,hz i zs H hlt p,Pv (i+1),fun zs' H' p'=>⟨xs.length - (i+1),by lia,rfl,hlt,p'⟩,?_⟩
  rintro v H' ⟨pp,x,hp,rfl,rfl,k1⟩
  exact hs i x zs H pp (k1 xs q1) p hp
 ·have e:i=xs.length:=by lia
  subst e
  exact .inl ⟨⟨xs,q1,Nat.le_refl _⟩,hd zs H p⟩
end
theorem L8:∀ m < 7,(Builtin.Int.intBits ((2 ^ m:Nat):Int):Nat)=m+1:=by decide +kernel
section
variable {X:Cx} {K:W.Frag}
end
mutual
def pyD:Dv->PyData
 | .non=>.none
 | .bl b=>.bool b
 | .int i=>.int i
 | .str x=>.str x
 | .tup ds=>.tuple (Aq ds)
 | .lst ds=>.list (Aq ds)
def Aq:List Dv->List PyData
 | []=>[]
 | d::ds=>pyD d::Aq ds
end
def Dy (i:Int):Bool:=decide (i.natAbs.log2 < 1900)
mutual
def Ae:Dv->Bool
 | .non=>true
 | .bl _=>true
 | .int i=>Dy i
 | .str _=>false
 | .tup ds=>Ar ds
 | .lst ds=>Ar ds
def Ar:List Dv->Bool
 | []=>true
 | d::ds=>Ae d && Ar ds
end
mutual
def Am:Dv->Nat
 | .tup ds=>A2 ds
 | .lst ds=>A2 ds
 | _=>0
def A2:List Dv->Nat
 | []=>0
 | d::ds=>Am d+1+A2 ds
end
mutual
theorem IY:∀ d:Dv,(pyD d).depth=AR d
 | .non=>by simp [pyD,AR,PyData.depth]
 | .bl _=>by simp [pyD,AR,PyData.depth]
 | .int _=>by simp [pyD,AR,PyData.depth]
 | .str _=>by simp [pyD,AR,PyData.depth]
 | .tup ds=>by simp [pyD,AR,PyData.depth,ER ds]
 | .lst ds=>by simp [pyD,AR,PyData.depth,ER ds]
theorem ER:∀ ds:List Dv,PyData.depthAll (Aq ds)=Ax ds
 | []=>by simp [Aq,Ax,PyData.depthAll]
 | d::ds=>by simp [Aq,Ax,PyData.depthAll,IY d,ER ds]
end
mutual
theorem HU:∀ d:Dv,(pyD d).hasDict=false
 | .non=>by simp [pyD,PyData.hasDict]
 | .bl _=>by simp [pyD,PyData.hasDict]
 | .int _=>by simp [pyD,PyData.hasDict]
 | .str _=>by simp [pyD,PyData.hasDict]
 | .tup ds=>by simp [pyD,PyData.hasDict,Ex ds]
 | .lst ds=>by simp [pyD,PyData.hasDict,Ex ds]
theorem Ex:∀ ds:List Dv,PyData.hasDictAll (Aq ds)=false
 | []=>by simp [Aq,PyData.hasDictAll]
 | d::ds=>by simp [Aq,PyData.hasDictAll,HU d,Ex ds]
end
mutual
theorem Im:∀ d:Dv,Ae d=true->(pyD d).bulk=Am d
 | .non,_=>by simp [pyD,PyData.bulk,Am]
 | .bl _,_=>by simp [pyD,PyData.bulk,Am]
 | .int _,_=>by simp [pyD,PyData.bulk,Am]
 | .str _,h=>by simp [Ae] at h
 | .tup ds,h=>by simp [pyD,PyData.bulk,Am,Ea ds (by simpa [Ae] using h)]
 | .lst ds,h=>by simp [pyD,PyData.bulk,Am,Ea ds (by simpa [Ae] using h)]
theorem Ea:∀ ds:List Dv,Ar ds=true->PyData.bulkAll (Aq ds)=A2 ds
 | [],_=>by simp [Aq,PyData.bulkAll,A2]
 | d::ds,h=>by
  have h':Ae d=true/\Ar ds=true:=by simpa [Ar] using h
  simp [Aq,PyData.bulkAll,A2,Im d h'.1,Ea ds h'.2]
end
mutual
theorem Fv:∀ d:Dv,Ae d=true->(pyD d).showable=true/\(pyD d).leavesShort 1921=true
 | .non,_=>by simp [pyD,PyData.showable,PyData.leavesShort]
 | .bl _,_=>by simp [pyD,PyData.showable,PyData.leavesShort]
 | .int i,h=>by
  have h1:i.natAbs.log2 < 1900:=by simpa [Ae,Dy] using h
  have h2:i.natAbs.log2 < 1920:=by lia
  refine ⟨by simpa [pyD,PyData.showable] using h2,?_⟩
  simp only [pyD,PyData.leavesShort,decide_eq_true_eq,PyData.shown]
  exact decide_eq_true (PyProof.Rows.int_text_len_1921 h2)
 | .str _,h=>by simp [Ae] at h
 | .tup ds,h=>by
  have h':=EW ds (by simpa [Ae] using h)
  simpa [pyD,PyData.showable,PyData.leavesShort] using h'
 | .lst ds,h=>by
  have h':=EW ds (by simpa [Ae] using h)
  simpa [pyD,PyData.showable,PyData.leavesShort] using h'
theorem EW:∀ ds:List Dv,Ar ds=true->PyData.showableAll (Aq ds)=true/\PyData.leavesShortAll 1921 (Aq ds)=true
 | [],_=>by simp [Aq,PyData.showableAll,PyData.leavesShortAll]
 | d::ds,h=>by
  have h':Ae d=true/\Ar ds=true:=by simpa [Ar] using h
  have h1:=Fv d h'.1
  have h2:=EW ds h'.2
  simp [Aq,PyData.showableAll,PyData.leavesShortAll,h1,h2]
end
def BP (d:Dv):Str:=(pyD d).shown
theorem Me {d:Dv} (h:Ae d=true) (hb:Am d<=8000):(BP d).length<=sizeLine:=by
 have h1:=PyData.shown_le_bulk 1921 (by decide) (pyD d) (Fv d h).2
 rw [Im d h] at h1
 have e:sizeLine=16777216:=by decide
 unfold BP
 rw [e]
 lia
section
variable {X:Cx} {pins:List (Addr × Obj)} {σ:St} {H:Hp} {s:Shared}
mutual
theorem Ic (I:Inv X pins σ H s):∀ (d:Dv) (x:V) (u:Value),Rep X.K H d x->RelV x u->∃ as,Reads s.heap u (pyD d) as
 | .non,x,u,h,r=>by unfold Rep at h;subst h;cases r;exact ⟨_,by rw [pyD];exact .none⟩
 | .bl b,x,u,h,r=>by unfold Rep at h;subst h;cases r;exact ⟨_,by rw [pyD];exact .bool b⟩
 | .int i,x,u,h,r=>by unfold Rep at h;subst h;obtain ⟨t,rfl⟩:=r;exact ⟨_,by rw [pyD];exact .int i t⟩
 | .str y,x,u,h,r=>by unfold Rep at h;subst h;obtain ⟨t,rfl⟩:=r;exact ⟨_,by rw [pyD];exact .str y t⟩
 | .tup ds,x,u,h,r=>by
  unfold Rep at h
  obtain ⟨a,xs,rfl,hs,hr⟩:=h
  cases r
  obtain ⟨its,rv,⟨o,h1,h2,n,h3⟩,_⟩:=I.tuple hs
  obtain ⟨as,ha⟩:=E3 I ds xs its hr rv
  exact ⟨as,by rw [pyD];exact .tuple h1 h2 h3 ha⟩
 | .lst ds,x,u,h,r=>by
  unfold Rep at h
  obtain ⟨a,xs,rfl,hs,hr⟩:=h
  cases r
  obtain ⟨its,rv,p,_⟩:=I.list hs
  obtain ⟨o,h1,h2,n,h3⟩:=p.isList
  obtain ⟨as,ha⟩:=E3 I ds xs its hr rv
  exact ⟨_,by rw [pyD];exact .list h1 h2 h3 ha⟩
theorem E3 (I:Inv X pins σ H s):∀ (ds:List Dv) (xs:List V) (us:List Value),Reps X.K H ds xs->Vals xs us->∃ as,ReadsAll s.heap us (Aq ds) as
 | [],xs,us,h,r=>by unfold Reps at h;subst h;cases r;exact ⟨_,by rw [Aq];exact .nil⟩
 | d::ds,xs,us,h,r=>by
  unfold Reps at h
  obtain ⟨x,l,rfl,h1,h2⟩:=h
  cases r with
  | cons r1 r2 =>
  obtain ⟨as,ha⟩:=Ic I d x _ h1 r1
  obtain ⟨bs,hb⟩:=E3 I ds l _ h2 r2
  exact ⟨_,by rw [Aq];exact .cons ha hb⟩
end
end
def Df (K:W.Frag):List V->Hp->VK->Prop:=fun xs H Q=>match xs with
 | [x]=>∃ d,Rep K H d x/\Ae d=true/\Am d<=8000/\AR d<=60/\Q (.str (BP d)) H
 | _=>False
section
variable {X:Cx} {K:W.Frag}
theorem KZ (hg:X.A.guards=some []) (hu:X.A.units+62 < cLine):CallR X (.builtin "repr") (Df X.K):=by
 intro pins s σ H xs us Q I r q
 match xs,q with
 | [x],q =>
  obtain ⟨d,hd,hn,hb,hp,q⟩:=q
  cases r with
  | cons r1 r2 =>
  cases r2
  rename_i u
  have fits:=Me hn hb
  have shw:=(Fv d hn).1
  have done:∀ (h':Heap) (t tk:Nat),(∀ b o,s.heap.get? b=some o->h'.get? b=some o)->EP X pins σ Q (.str (BP d) t) { s with heap:=h',toks:=tk }:=fun h' t tk hk =>
   ⟨.str (BP d),H,I.kept (t':=tk) hk,⟨t,rfl⟩,q⟩
  obtain ⟨as,hr⟩:=Ic I d x u hd r1
  cases hx:u with
  | ref a =>
   rw [hx] at hr
   refine PySem.repr_of_reads' hr shw (PyData.noDict_hsm (HU d)) hg ?_ (fun _ _ e=>e) (fun h' t tk hk=>done h' t tk hk) fits
   rw [IY];lia
  | none =>
   rw [hx] at hr
   generalize hp:pyD d=p at hr
   cases hr
   have e:BP d=("None" : Str):=by unfold BP;rw [hp,PyData.shown_none]
   refine PySem.P.repr_of_none ?_
   rw [<- e];exact done s.heap _ _ (fun _ _ e=>e)
  | bool b =>
   rw [hx] at hr
   generalize hp:pyD d=p at hr
   cases hr
   have e:BP d=((if b then "True" else "False" : Str)):=by unfold BP;rw [hp,PyData.shown_bool]
   refine PySem.P.repr_of_bool ?_
   rw [<- e];exact done s.heap _ _ (fun _ _ e=>e)
  | int i t =>
   rw [hx] at hr
   generalize hp:pyD d=p at hr
   cases hr
   have e:BP d=((toString i:String):Str):=by unfold BP;rw [hp,PyData.shown_int]
   rw [hp] at shw
   refine PySem.P.repr_of_int (by simpa [PyData.showable] using shw) ?_
   rw [<- e];exact done s.heap _ _ (fun _ _ e=>e)
  | str y t =>
   rw [hx] at hr
   generalize hp:pyD d=p at hr
   cases hr
   cases d <;> simp [pyD,Ae] at hp hn
  | _=>rw [hx] at hr;cases hr
theorem Bl {k:Nat} (hr:Room k X.A) (hK:X.K=K:=by rfl):CallR X (.builtin "repr") (Df K):=hK ▸ KZ hr.gd (by have:=hr.un;lia)
end
theorem Jz {K}:Ck (Df K):=fun xs H Q Q' h q=>by
 unfold Df at *
 split at q
 ·obtain ⟨d,a,b,c,e,q⟩:=q;exact ⟨d,a,b,c,e,h _ _ q⟩
 ·exact q.elim
open AutoSeq1 (wpAny_loadPart')
section
variable {prog:Program} {w:World} {A:Around} {E:Value->Shared->Prop} {s:Shared}
end
section
variable {X:Cx}
end
structure Feed (H:Hp) (t:Addr):Prop where
 at_:∃ a b k c:Int,0<=a/\H t=some (.lst [.int a,.int b,.int k,.int c])
theorem Feed.same {H H':Hp} {t:Addr} (F:Feed H t) (h:Same H H'):Feed H' t:=by
 obtain ⟨a,b,k,c,h1,h2⟩:=F.at_
 exact ⟨a,b,k,c,h1,h _ _ h2⟩
theorem Feed.upd {H:Hp} {t p:Addr} {o:HO} (F:Feed H t) (h:H p=none):Feed (L2.upd H p o) t:=F.same (Same.upd h)
theorem Feed.neT {H:Hp} {t p:Addr} (F:Feed H t) (hp:H p=none):p≠t:=fun e=>by
 obtain ⟨a,b,k,c,_,h3⟩:=F.at_
 rw [e,h3] at hp;cases hp
theorem Feed.free {H H':Hp} {t p:Addr} (F:Feed H' t) (h:Frm t H H') (hp:H' p=none):H p=none:=by
 cases e:H p with
 | none=>rfl
 | some o =>
  by_cases hpt:p=t
  ·subst hpt
   obtain ⟨a,b,k,c,_,h3⟩:=F.at_
   rw [h3] at hp;cases hp
  ·rw [h p o hpt e] at hp;cases hp
def DM:Sp:=fun vs H Q _=>match vs with
 | [.ref t,.int m]=>Feed H t/\okDiv m/\∀ d H',0<=d->d < m->Feed H' t->(∀ b,b≠t->H' b=H b)->Q (.int d) H'
 | _=>False
theorem Js:AQ DM:=fun vs H Q Q' E h q=>by
 unfold DM at *
 split at q
 ·exact ⟨q.1,q.2.1,fun d H' a b c e=>h _ _ (q.2.2 d H' a b c e)⟩
 ·exact q.elim
def GF (K:W.Frag):Sp:=fun vs H Q _=>match vs with
 | [.ref a,.int k]=>∃ ns:List Int,SqL K H a (ns.map V.int)/\∀ p H',H p=none->Feed H' p->(∀ b,b≠p->H' b=H b)->Q (.ref p) H'
 | _=>False
theorem JK (a b:Nat):(a &&& b) / 2=a / 2 &&& b / 2:=by
 have:=Nat.and_div_two_pow (a:=a) (b:=b) (n:=1)
 simpa using this
theorem D1 (a b:Nat):(a ^^^ b) / 2=a / 2 ^^^ b / 2:=by
 have:=Nat.xor_div_two_pow (a:=a) (b:=b) (n:=1)
 simpa using this
theorem Dx (a b:Nat):(a &&& b) % 2=a % 2 * (b % 2)/\(a ^^^ b) % 2=(a % 2+b % 2) % 2/\(a ||| b) % 2=a % 2+b % 2 - a % 2 * (b % 2):=by
 have h1:=Nat.and_mod_two_pow (a:=a) (b:=b) (n:=1)
 have h2:=Nat.xor_mod_two_pow (a:=a) (b:=b) (n:=1)
 have h3:=Nat.or_mod_two_pow (a:=a) (b:=b) (n:=1)
 rw [Nat.pow_one] at h1 h2 h3
 rw [h1,h2,h3]
 have ha:a % 2=0\/a % 2=1:=by lia
 have hb:b % 2=0\/b % 2=1:=by lia
 rcases ha with ha | ha <;> rcases hb with hb | hb <;> rw [ha,hb] <;> decide
theorem G1:∀ a b:Nat,(a ^^^ b)+2 * (a &&& b)=a+b:=by
 intro a
 induction a using Nat.strongRecOn with
 | ind a ih =>
  intro b
  by_cases h0:a=0
  ·subst h0;simp
  ·have i:=ih (a / 2) (by lia) (b / 2)
   rw [<- D1,<- JK] at i
   obtain ⟨l1,l2,_⟩:=Dx a b
   have ha:a % 2=0\/a % 2=1:=by lia
   have hb:b % 2=0\/b % 2=1:=by lia
   rcases ha with ha | ha <;> rcases hb with hb | hb <;> rw [ha,hb] at l1 l2 <;> lia
theorem EJ (a b:Nat):Builtin.bitAnd (a:Int) (b:Int)=((a &&& b:Nat):Int):=by
 unfold Builtin.bitAnd
 rw [decide_eq_true (Int.natCast_nonneg a),decide_eq_true (Int.natCast_nonneg b)]
 rfl
theorem Gi (a b:Nat):Builtin.bitXor (a:Int) (b:Int)=((a ^^^ b:Nat):Int):=by
 rw [PyProof.Rows.bitXor_and,EJ]
 have:=G1 a b
 lia
theorem GX {H0 H H':Hp} {t:Addr} (s:Same H0 H) (ht:H0 t=none) (f:∀ b,b≠t->H' b=H b):Same H0 H':=fun b o e=>by
 rw [f b (Av e ht)];exact s b o e
theorem Fw {H0 H H':Hp} {t:Addr} (s:Same H0 H) (ht:H0 t=none) (f:Frm t H H'):Same H0 H':=fun b o e=>f b o (Av e ht) (s b o e)
theorem Bu {H0 H:Hp} {t:Addr} {o:HO} (s:Same H0 H) (ht:H0 t=none):Same H0 (upd H t o):=fun b u e=>by
 rw [AI (Av e ht)];exact s b u e
theorem Same.sqT {K:W.Frag} {H H':Hp} {a:Addr} {xs:List V} (e:Same H H') (h:SqT K H a xs):SqT K H' a xs:=IE h (fun o k=>e _ _ k)
theorem Same.sqL {K:W.Frag} {H H':Hp} {a:Addr} {xs:List V} (e:Same H H') (h:SqL K H a xs):SqL K H' a xs:=GJ h (fun o k=>e _ _ k)
theorem D9 {x:Str} (h:(true ^^ (x == x))=true):False:=by simp at h
def sumTo (f:Nat->Int):Nat->Int
 | 0=>0
 | n+1=>sumTo f n+f n
theorem AW {f g:Nat->Int}:∀ {n:Nat},(∀ j,j < n->f j=g j)->sumTo f n=sumTo g n
 | 0,_=>rfl
 | n+1,h=>by
  show sumTo f n+f n=sumTo g n+g n
  rw [AW fun j hj=>h j (Nat.lt_succ_of_lt hj),h n (Nat.lt_succ_self n)]
theorem HW (f:Nat->Int) (a:Nat):∀ b,sumTo f (a+b)=sumTo f a+sumTo (fun j=>f (a+j)) b
 | 0=>by show sumTo f a=sumTo f a+0;lia
 | b+1=>by
  show sumTo f (a+b)+f (a+b)=sumTo f a+(sumTo (fun j=>f (a+j)) b+f (a+b))
  rw [HW f a b];lia
theorem ET (f g:Nat->Int):∀ n,sumTo f n+sumTo g n=sumTo (fun j=>f j+g j) n
 | 0=>rfl
 | n+1=>by
  show sumTo f n+f n+(sumTo g n+g n)=sumTo (fun j=>f j+g j) n+(f n+g n)
  rw [<- ET f g n];lia
theorem A7 (c:Int) (f:Nat->Int):∀ n,c * sumTo f n=sumTo (fun j=>c * f j) n
 | 0=>by show c * 0=0;lia
 | n+1=>by
  show c * (sumTo f n+f n)=sumTo (fun j=>c * f j) n+c * f n
  rw [<- A7 c f n,Int.mul_add]
theorem Dm (c:Int) (f:Nat->Int) (n:Nat):sumTo f n * c=sumTo (fun j=>f j * c) n:=by
 rw [Int.mul_comm,A7]
 exact AW fun j _=>Int.mul_comm _ _
theorem GU:∀ n,sumTo (fun _=>0) n=0
 | 0=>rfl
 | n+1=>by show sumTo (fun _=>0) n+0=0;rw [GU n];rfl
theorem CL (f:Nat->Nat->Int) (m:Nat):∀ n,sumTo (fun i=>sumTo (fun j=>f i j) m) n=sumTo (fun j=>sumTo (fun i=>f i j) n) m
 | 0=>by show (0:Int)=sumTo (fun _=>0) m;rw [GU]
 | n+1=>by
  show sumTo (fun i=>sumTo (fun j=>f i j) m) n+sumTo (fun j=>f n j) m=sumTo (fun j=>sumTo (fun i=>f i j) n+f n j) m
  rw [CL f m n,ET]
theorem GE (g:Nat->Int) (x:Nat):∀ n,sumTo (fun y=>if x=y then g y else 0) n=if x < n then g x else 0
 | 0=>by simp [sumTo]
 | n+1=>by
  show sumTo (fun y=>if x=y then g y else 0) n+(if x=n then g n else 0)=_
  rw [GE g x n]
  by_cases h:x=n
  ·subst h;rw [if_neg (by lia),if_pos rfl,if_pos (by lia)];lia
  ·by_cases h2:x < n
   ·rw [if_pos h2,if_neg h,if_pos (by lia)];lia
   ·rw [if_neg h2,if_neg h,if_neg (by lia)];rfl
theorem Cy (f:Nat->Int):∀ m,sumTo f (2 * m)=sumTo (fun j=>f (2 * j)+f (2 * j+1)) m
 | 0=>rfl
 | m+1=>by
  show sumTo f (2 * m)+f (2 * m)+f (2 * m+1)=sumTo (fun j=>f (2 * j)+f (2 * j+1)) m+(f (2 * m)+f (2 * m+1))
  rw [Cy f m];lia
def chi:Nat->Nat->Nat->Int
 | 0,_,_=>1
 | n+1,a,b=>(if a % 2=1/\b % 2=1 then -1 else 1) * chi n (a / 2) (b / 2)
theorem G8:∀ n a b,chi n a b=chi n b a
 | 0,_,_=>rfl
 | n+1,a,b=>by
  show _ * chi n (a / 2) (b / 2)=_ * chi n (b / 2) (a / 2)
  rw [G8 n]
  congr 1
  by_cases h:a % 2=1/\b % 2=1
  ·rw [if_pos h,if_pos ⟨h.2,h.1⟩]
  ·rw [if_neg h,if_neg fun z=>h ⟨z.2,z.1⟩]
theorem FI:∀ n a b c,chi n a (b ^^^ c)=chi n a b * chi n a c
 | 0,_,_,_=>rfl
 | n+1,a,b,c=>by
  show _ * chi n (a / 2) ((b ^^^ c) / 2)=(_ * chi n (a / 2) (b / 2)) * (_ * chi n (a / 2) (c / 2))
  rw [D1,FI n]
  generalize chi n (a / 2) (b / 2)=x
  generalize chi n (a / 2) (c / 2)=y
  have e:=(Dx b c).2.1
  have ha:a % 2=0\/a % 2=1:=by lia
  have hb:b % 2=0\/b % 2=1:=by lia
  have hc:c % 2=0\/c % 2=1:=by lia
  rw [e]
  rcases ha with ha | ha <;> rcases hb with hb | hb <;> rcases hc with hc | hc <;> rw [ha,hb,hc] <;> simp [Int.mul_neg,Int.neg_mul]
theorem chi_one:∀ n a b,chi n a b=1\/chi n a b = -1
 | 0,_,_=>.inl rfl
 | n+1,a,b=>by
  show _ * chi n (a / 2) (b / 2)=1\/_ * chi n (a / 2) (b / 2) = -1
  rcases chi_one n (a / 2) (b / 2) with h | h <;> rw [h] <;> by_cases g:a % 2=1/\b % 2=1 <;> simp [g]
theorem Lz (n a b:Nat):chi n a b * chi n a b=1:=by
 rcases chi_one n a b with h | h <;> rw [h] <;> rfl
theorem Hj:∀ n a,chi n a 0=1
 | 0,_=>rfl
 | n+1,a=>by
  show (if a % 2=1/\0 % 2=1 then -1 else 1) * chi n (a / 2) (0 / 2)=1
  rw [if_neg (by lia),Nat.zero_div,Hj n];rfl
theorem HQ:∀ n b,b < 2 ^ n->sumTo (fun a=>chi n a b) (2 ^ n)=if b=0 then ((2 ^ n:Nat):Int) else 0
 | 0,b,h=>by
  have:b=0:=by simpa using h
  subst this;rfl
 | n+1,b,h=>by
  rw [Nat.pow_succ,Nat.mul_comm,Cy]
  have e:∀ j,chi (n+1) (2 * j) b+chi (n+1) (2 * j+1) b=(if b % 2=1 then 0 else 2) * chi n j (b / 2):=fun j=>by
   show (if 2 * j % 2=1/\b % 2=1 then -1 else 1) * chi n (2 * j / 2) (b / 2)+(if (2 * j+1) % 2=1/\b % 2=1 then -1 else 1) * chi n ((2 * j+1) / 2) (b / 2)=_
   rw [show 2 * j / 2=j by lia,show (2 * j+1) / 2=j by lia,if_neg (by lia)]
   by_cases hb:b % 2=1
   ·rw [if_pos ⟨by lia,hb⟩,if_pos hb];lia
   ·rw [if_neg (fun z=>hb z.2),if_neg hb];lia
  rw [AW (g:=fun j=>(if b % 2=1 then 0 else 2) * chi n j (b / 2)) fun j _=>e j,<- A7,HQ n (b / 2) (by rw [Nat.pow_succ] at h;lia)]
  by_cases hb:b % 2=1
  ·rw [if_pos hb,Int.zero_mul,if_neg (by lia)]
  ·rw [if_neg hb]
   by_cases h0:b=0
   ·subst h0;simp [Int.natCast_mul]
   ·rw [if_neg (by lia),if_neg h0];rfl
theorem xor_eq_zero {a b:Nat}:a ^^^ b=0 ↔ a=b:=by
 constructor
 ·intro h
  have:=congrArg (fun z=>z ^^^ b) h
  simpa [Nat.xor_assoc] using this
 ·intro h;subst h;exact Nat.xor_self a
def wt (n:Nat) (v:Nat->Int) (s:Nat):Int:=sumTo (fun p=>chi n s p * v p) (2 ^ n)
theorem Kw (n:Nat) (a b:Nat->Int):sumTo (fun s=>wt n a s * wt n b s) (2 ^ n)=((2 ^ n:Nat):Int) * sumTo (fun x=>a x * b x) (2 ^ n):=by
 have e1:∀ s,wt n a s * wt n b s=sumTo (fun x=>sumTo (fun y=>(a x * b y) * chi n s (x ^^^ y)) (2 ^ n)) (2 ^ n):=fun s=>by
  unfold wt
  rw [Dm]
  refine AW fun x _=>?_
  rw [A7]
  refine AW fun y _=>?_
  rw [FI]
  ac_rfl
 rw [AW fun s _=>e1 s,CL,A7]
 refine AW fun x hx=>?_
 rw [CL]
 have e2:∀ y,y < 2 ^ n->sumTo (fun s=>a x * b y * chi n s (x ^^^ y)) (2 ^ n)=if x=y then ((2 ^ n:Nat):Int) * (a x * b y) else 0:=fun y hy=>by
  rw [<- A7,HQ n _ (Nat.xor_lt_two_pow hx hy)]
  by_cases h:x=y
  ·rw [if_pos (xor_eq_zero.mpr h),if_pos h,Int.mul_comm]
  ·rw [if_neg (fun z=>h (xor_eq_zero.mp z)),if_neg h,Int.mul_zero]
 rw [AW e2,GE (fun y=>((2 ^ n:Nat):Int) * (a x * b y)),if_pos hx]
theorem E1:∀ (n:Nat) (f:Nat->Int) (t:Nat),t < 2 ^ n->sumTo (fun x=>f (x ^^^ t)) (2 ^ n)=sumTo f (2 ^ n)
 | 0,f,t,h=>by
  have:t=0:=by simpa using h
  subst this
  exact AW fun j _=>by rw [Nat.xor_zero]
 | n+1,f,t,h=>by
  rw [Nat.pow_succ,Nat.mul_comm,Cy,Cy]
  have ih:=E1 n (fun j=>f (2 * j)+f (2 * j+1)) (t / 2) (by rw [Nat.pow_succ] at h;lia)
  rw [<- ih]
  refine AW fun j _=>?_
  have k1:=D1 (2 * j) t
  have k2:=D1 (2 * j+1) t
  have l1:=(Dx (2 * j) t).2.1
  have l2:=(Dx (2 * j+1) t).2.1
  rw [show 2 * j / 2=j by lia] at k1
  rw [show (2 * j+1) / 2=j by lia] at k2
  have ht:t % 2=0\/t % 2=1:=by lia
  rcases ht with ht | ht
  ·have e1:2 * j ^^^ t=2 * (j ^^^ t / 2):=by lia
   have e2:2 * j+1 ^^^ t=2 * (j ^^^ t / 2)+1:=by lia
   rw [e1,e2]
  ·have e1:2 * j ^^^ t=2 * (j ^^^ t / 2)+1:=by lia
   have e2:2 * j+1 ^^^ t=2 * (j ^^^ t / 2):=by lia
   rw [e1,e2,Int.add_comm]
theorem LI (n:Nat) (v:Nat->Int) (s t:Nat) (ht:t < 2 ^ n):chi n s t * wt n v s=wt n (fun x=>v (x ^^^ t)) s:=by
 unfold wt
 rw [<- E1 n (fun p=>chi n s p * v p) t ht,A7]
 refine AW fun x _=>?_
 rw [FI,<- Int.mul_assoc,Int.mul_comm (chi n s x),<- Int.mul_assoc,Lz,Int.one_mul]
theorem Mt (n:Nat) (v:Nat->Int) (t:Nat) (ht:t < 2 ^ n):sumTo (fun s=>chi n s t * (wt n v s * wt n v s)) (2 ^ n)=((2 ^ n:Nat):Int) * sumTo (fun x=>v (x ^^^ t) * v x) (2 ^ n):=by
 rw [<- Kw n (fun x=>v (x ^^^ t)) v]
 refine AW fun s _=>?_
 rw [<- Int.mul_assoc,LI n v s t ht]
theorem Fk:∀ {s b r c j:Nat},r < 2 ^ s->j < 2 ^ s->b < 2->c < 2->chi (s+1) (b * 2 ^ s+r) (c * 2 ^ s+j)=chi s r j * (if b=1/\c=1 then -1 else 1)
 | 0,b,r,c,j,hr,hj,hb,hc=>by
  have r0:r=0:=by simpa using hr
  have j0:j=0:=by simpa using hj
  subst r0 j0
  have eb:b=0\/b=1:=by lia
  have ec:c=0\/c=1:=by lia
  rcases eb with rfl | rfl <;> rcases ec with rfl | rfl <;> rfl
 | s+1,b,r,c,j,hr,hj,hb,hc=>by
  have d1:∀ x:Nat,x * 2 ^ (s+1)=2 * (x * 2 ^ s):=fun x=>by rw [Nat.pow_succ,Nat.mul_comm (2 ^ s),<- Nat.mul_assoc,Nat.mul_comm x 2,Nat.mul_assoc]
  have k1:(b * 2 ^ (s+1)+r) % 2=r % 2:=by rw [d1];lia
  have k2:(c * 2 ^ (s+1)+j) % 2=j % 2:=by rw [d1];lia
  have k3:(b * 2 ^ (s+1)+r) / 2=b * 2 ^ s+r / 2:=by rw [d1];lia
  have k4:(c * 2 ^ (s+1)+j) / 2=c * 2 ^ s+j / 2:=by rw [d1];lia
  have e1:chi (s+1+1) (b * 2 ^ (s+1)+r) (c * 2 ^ (s+1)+j)=(if r % 2=1/\j % 2=1 then -1 else 1) * chi (s+1) (b * 2 ^ s+r / 2) (c * 2 ^ s+j / 2):=by
   show (if (b * 2 ^ (s+1)+r) % 2=1/\(c * 2 ^ (s+1)+j) % 2=1 then -1 else 1) * chi (s+1) ((b * 2 ^ (s+1)+r) / 2) ((c * 2 ^ (s+1)+j) / 2)=_
   rw [k1,k2,k3,k4]
  rw [e1,Fk (s:=s) (by rw [Nat.pow_succ] at hr;lia) (by rw [Nat.pow_succ] at hj;lia) hb hc,<- Int.mul_assoc]
  rfl
def BU (v:Nat->Int) (s k:Nat):Int:=if k / s % 2=1 then v (k - s) - v k else v k+v (k+s)
def BB (v:Nat->Int):Nat->Nat->Int
 | 0=>v
 | s+1=>BU (BB v s) (2 ^ s)
def hs (v:Nat->Int) (s k:Nat):Int:=sumTo (fun j=>chi s (k % 2 ^ s) j * v (k / 2 ^ s * 2 ^ s+j)) (2 ^ s)
theorem CQ {v:Nat->Int} {s q r:Nat} (h:r < 2 ^ s):hs v s (q * 2 ^ s+r)=sumTo (fun j=>chi s r j * v (q * 2 ^ s+j)) (2 ^ s):=by
 unfold hs
 have e1:(q * 2 ^ s+r) % 2 ^ s=r:=by rw [Nat.mul_comm,Nat.mul_add_mod,Nat.mod_eq_of_lt h]
 have e2:(q * 2 ^ s+r) / 2 ^ s=q:=by rw [Nat.mul_comm,Nat.mul_add_div (Nat.two_pow_pos s),Nat.div_eq_of_lt h,Nat.add_zero]
 rw [e1,e2]
theorem N2 {v:Nat->Int} {s:Nat} (q b r:Nat) (hr:r < 2 ^ s) (hb:b < 2) :
 BU (hs v s) (2 ^ s) (q * 2 ^ (s+1)+(b * 2 ^ s+r))=hs v (s+1) (q * 2 ^ (s+1)+(b * 2 ^ s+r)):=by
 have hB:2 ^ (s+1)=2 ^ s+2 ^ s:=by rw [Nat.pow_succ];lia
 have hrr:b * 2 ^ s+r < 2 ^ (s+1):=by
  rw [hB]
  have:b=0\/b=1:=by lia
  rcases this with e | e <;> subst e <;> lia
 rw [CQ hrr,hB,HW]
 have low:∀ j,j < 2 ^ s->chi (s+1) (b * 2 ^ s+r) j=chi s r j:=fun j hj=>by
  have:=Fk (c:=0) hr hj hb (by decide)
  rw [Nat.zero_mul,Nat.zero_add,if_neg (by lia),Int.mul_one] at this
  exact this
 have high:∀ j,j < 2 ^ s->chi (s+1) (b * 2 ^ s+r) (2 ^ s+j)=chi s r j * (if b=1 then -1 else 1):=fun j hj=>by
  have:=Fk (c:=1) hr hj hb (by decide)
  rw [Nat.one_mul] at this
  rw [this]
  simp
 have e0:q * (2 ^ s+2 ^ s)+(b * 2 ^ s+r)=(2 * q+b) * 2 ^ s+r:=by
  rw [Nat.add_mul,Nat.mul_comm 2 q,Nat.mul_assoc,Nat.two_mul];lia
 have eq0:q * (2 ^ s+2 ^ s)=(2 * q) * 2 ^ s:=by rw [Nat.mul_comm 2 q,Nat.mul_assoc,Nat.two_mul]
 have eq1:q * (2 ^ s+2 ^ s)+2 ^ s=(2 * q+1) * 2 ^ s:=by rw [Nat.add_mul,Nat.one_mul,eq0]
 unfold BU
 rw [e0]
 have et:((2 * q+b) * 2 ^ s+r) / 2 ^ s % 2=b:=by
  rw [Nat.mul_comm,Nat.mul_add_div (Nat.two_pow_pos s),Nat.div_eq_of_lt hr];lia
 rw [et]
 have:b=0\/b=1:=by lia
 rcases this with e | e <;> subst e
 ·rw [if_neg (by decide)]
  have ek:(2 * q+0) * 2 ^ s+r+2 ^ s=(2 * q+1) * 2 ^ s+r:=by rw [Nat.add_zero,Nat.add_mul,Nat.one_mul];lia
  rw [ek,CQ hr,CQ hr]
  congr 1
  ·refine AW fun j hj=>?_
   rw [low j hj,eq0];rfl
  ·refine AW fun j hj=>?_
   show chi s r j * v ((2 * q+1) * 2 ^ s+j)=chi (s+1) (0 * 2 ^ s+r) (2 ^ s+j) * v (q * (2 ^ s+2 ^ s)+(2 ^ s+j))
   rw [high j hj,if_neg (by decide),Int.mul_one,<- Nat.add_assoc,eq1]
 ·rw [if_pos rfl]
  have ek:(2 * q+1) * 2 ^ s+r - 2 ^ s=(2 * q) * 2 ^ s+r:=by rw [Nat.add_mul,Nat.one_mul];lia
  rw [ek,CQ hr,CQ hr,Int.sub_eq_add_neg]
  congr 1
  ·refine AW fun j hj=>?_
   rw [low j hj,eq0]
  ·have neg:∀ (f:Nat->Int) n,- sumTo f n=sumTo (fun j=>- f j) n:=fun f n=>by
    induction n with
    | zero=>rfl
    | succ n ih=>show -(sumTo f n+f n)=sumTo (fun j=>- f j) n + - f n;rw [<- ih];lia
   rw [neg]
   refine AW fun j hj=>?_
   show -(chi s r j * v ((2 * q+1) * 2 ^ s+j))=chi (s+1) (1 * 2 ^ s+r) (2 ^ s+j) * v (q * (2 ^ s+2 ^ s)+(2 ^ s+j))
   rw [high j hj,if_pos rfl,<- Nat.add_assoc,eq1,Int.mul_neg,Int.mul_one,Int.neg_mul]
theorem L5 (s k:Nat):∃ q b r,k=q * 2 ^ (s+1)+(b * 2 ^ s+r)/\r < 2 ^ s/\b < 2:=by
 refine ⟨k / 2 ^ s / 2,k / 2 ^ s % 2,k % 2 ^ s,?_,Nat.mod_lt _ (Nat.two_pow_pos s),Nat.mod_lt _ (by decide)⟩
 have h1:=Nat.div_add_mod k (2 ^ s)
 have h2:=Nat.div_add_mod (k / 2 ^ s) 2
 rw [Nat.pow_succ]
 generalize k % 2 ^ s=r at *
 generalize hd:k / 2 ^ s=d at *
 rw [<- Nat.add_assoc,Nat.mul_comm (2 ^ s) 2,<- Nat.mul_assoc,<- Nat.add_mul,Nat.mul_comm (d / 2) 2,h2,Nat.mul_comm]
 exact h1.symm
theorem Hv (v:Nat->Int):∀ s k,BB v s k=hs v s k
 | 0,k=>by
  show v k=sumTo (fun j=>chi 0 (k % 2 ^ 0) j * v (k / 2 ^ 0 * 2 ^ 0+j)) 1
  show v k=0+chi 0 (k % 2 ^ 0) 0 * v (k / 2 ^ 0 * 2 ^ 0+0)
  have:chi 0 (k % 2 ^ 0) 0=1:=rfl
  rw [this,Int.one_mul,Int.zero_add]
  simp
 | s+1,k=>by
  have e:BB v s=hs v s:=funext fun k=>Hv v s k
  show BU (BB v s) (2 ^ s) k=_
  rw [e]
  obtain ⟨q,b,r,rfl,hr,hb⟩:=L5 s k
  exact N2 q b r hr hb
theorem Kx {v:Nat->Int} {m k:Nat} (h:k < 2 ^ m):BB v m k=sumTo (fun j=>chi m k j * v j) (2 ^ m):=by
 rw [Hv]
 have:=CQ (v:=v) (s:=m) (q:=0) h
 rw [Nat.zero_mul,Nat.zero_add] at this
 rw [this]
 refine AW fun j _=>?_
 rw [Nat.zero_add]
theorem Nd {v:Nat->Int} {m k:Nat} (h:k < 2 ^ m):BB v m k=wt m v k:=Kx h
def AF:Nat->Nat->Nat
 | 0,_=>0
 | f+1,x=>x % 2+AF f (x / 2)
@[irreducible] def many (x:Nat):Nat:=AF 64 x
theorem C5:∀ f,AF f 0=0
 | 0=>rfl
 | f+1=>by
  show 0 % 2+AF f (0 / 2)=0
  rw [Nat.zero_div,C5 f]
theorem Hk:∀ (f g x:Nat),x < 2 ^ f->f<=g->AF g x=AF f x
 | 0,g,x,h,_=>by
  have:x=0:=by simpa using h
  subst this
  rw [C5,C5]
 | f+1,0,x,_,h=>by lia
 | f+1,g+1,x,h,hg=>by
  show x % 2+AF g (x / 2)=x % 2+AF f (x / 2)
  rw [Hk f g (x / 2) (by rw [Nat.pow_succ] at h;lia) (by lia)]
theorem Iu {n x:Nat} (h:x < 2 ^ n) (hn:n<=64):many x=AF n x:=by
 unfold many
 exact Hk n 64 x h hn
theorem Ba:∀ n x,AF n x<=n
 | 0,_=>Nat.le_refl _
 | n+1,x=>by
  show x % 2+AF n (x / 2)<=n+1
  have:=Ba n (x / 2)
  lia
def ixL (g:Nat->Int) (M:Nat):List V:=(List.range M).map fun i=>V.int (g i)
theorem ixL_len {g:Nat->Int} {M:Nat}:(ixL g M).length=M:=by unfold ixL;simp
theorem DB {g:Nat->Int} {M k:Nat} (h:k < M):(ixL g M)[k]? = some (.int (g k)):=by unfold ixL;rw [List.getElem?_map,List.getElem?_range h];rfl
theorem DS {g:Nat->Int} {M k:Nat} (h:k < M):atI (ixL g M) (k:Int)=some (.int (g k)):=DL rfl (DB h)
theorem Dt (g:Nat->Int) (M:Nat):ixL g (M+1)=ixL g M++[V.int (g M)]:=by unfold ixL;rw [List.range_succ,List.map_append];rfl
theorem B2 {f g:Nat->Int} {M:Nat} (h:∀ k,k < M->f k=g k):ixL f M=ixL g M:=by
 unfold ixL
 exact List.map_congr_left fun k hk=>by rw [h k (List.mem_range.mp hk)]
theorem EQ {g:Nat->Int} {M i:Nat} {z:Int}:(ixL g M).set i (.int z)=ixL (fun k=>if k=i then z else g k) M:=by
 refine List.ext_getElem? fun k=>?_
 rw [List.getElem?_set,ixL_len]
 by_cases hk:k < M
 ·rw [DB hk]
  by_cases e:i=k
  ·subst e;rw [if_pos rfl,if_pos hk,DB hk,if_pos rfl]
  ·rw [if_neg e,DB hk,if_neg (Ne.symm e)]
 ·have n1:(ixL g M)[k]? = none:=List.getElem?_eq_none (by rw [ixL_len];lia)
  have n2:(ixL (fun k=>if k=i then z else g k) M)[k]? = none:=List.getElem?_eq_none (by rw [ixL_len];lia)
  rw [n1,n2]
  split
  ·split
   ·lia
   ·rfl
  ·rfl
def DC (b:Bool):Int:=if b=true then -1 else 1
def AS (bs:List Bool) (p:Nat):Int:=DC (bs.getD p false)
def A0 (g:Nat->Int):Nat->List (Nat × Int)
 | 0=>[]
 | i+1=>A0 g i++(if g i=0 then [] else [(i,g i)])
theorem GK {g:Nat->Int}:∀ {n:Nat} {q:Nat × Int},q∈A0 g n->q.1 < n/\q.2=g q.1/\q.2≠0
 | 0,q,h=>by cases h
 | n+1,q,h=>by
  rcases List.mem_append.mp h with h | h
  ·have:=GK h;exact ⟨by lia,this.2⟩
  ·split at h
   ·cases h
   ·rename_i hn
    rw [List.mem_singleton.mp h]
    exact ⟨Nat.lt_succ_self n,rfl,hn⟩
def Bp (q:Nat × Int):Dv:=.tup [.int q.1,.int q.2]
def Dp (m:Nat) (ts:List (Nat × Int)):Dv:=.tup [.int m,.tup (ts.map Bp)]
def BD (f:Nat->Int->Int):List (Nat × Int)->Int
 | []=>0
 | q::ts=>f q.1 q.2+BD f ts
theorem FK (f:Nat->Int->Int):∀ xs ys,BD f (xs++ys)=BD f xs+BD f ys
 | [],ys=>by show BD f ys=0+BD f ys;lia
 | x::xs,ys=>by
  show f x.1 x.2+BD f (xs++ys)=f x.1 x.2+BD f xs+BD f ys
  rw [FK f xs ys];lia
theorem Hu (f:Nat->Int->Int) (g:Nat->Int) (h0:∀ k,f k 0=0):∀ n,BD f (A0 g n)=sumTo (fun k=>f k (g k)) n
 | 0=>rfl
 | n+1=>by
  show BD f (A0 g n++(if g n=0 then [] else [(n,g n)]))=sumTo (fun k=>f k (g k)) n+f n (g n)
  rw [FK,Hu f g h0 n]
  congr 1
  split
  ·rename_i h;rw [h,h0];rfl
  ·show f n (g n)+0=_;lia
structure SumAt (K:W.Frag) (H:Hp) (v:V) (m:Nat) (ts:List (Nat × Int)):Prop where
 at_:∃ (a b:Addr) (vs:List V),v=.ref a/\SqT K H a [.int m,.ref b]/\SqT K H b vs/\Reps K H (ts.map Bp) vs
theorem SumAt.of {K:W.Frag} {H:Hp} {v:V} {m:Nat} {ts:List (Nat × Int)} (h:Rep K H (Dp m ts) v):SumAt K H v m ts:=by
 unfold Dp Rep at h
 obtain ⟨a,xs,rfl,ha,hr⟩:=h
 unfold Reps at hr
 obtain ⟨x,r,rfl,h1,hr⟩:=hr
 unfold Rep at h1;subst h1
 unfold Reps at hr
 obtain ⟨x,r,rfl,h2,hr⟩:=hr
 unfold Reps at hr;subst hr
 unfold Rep at h2
 obtain ⟨b,vs,rfl,hb,hr⟩:=h2
 exact ⟨a,b,vs,rfl,ha,hb,hr⟩
theorem SumAt.rep {K:W.Frag} {H:Hp} {v:V} {m:Nat} {ts:List (Nat × Int)} (h:SumAt K H v m ts):Rep K H (Dp m ts) v:=by
 obtain ⟨a,b,vs,rfl,ha,hb,hr⟩:=h.at_
 unfold Dp Rep
 refine ⟨a,_,rfl,ha,BC Bz (BC ?_ Bi)⟩
 unfold Rep
 exact ⟨b,vs,rfl,hb,hr⟩
theorem SumAt.same {K:W.Frag} {H H':Hp} {v:V} {m:Nat} {ts:List (Nat × Int)} (h:SumAt K H v m ts) (s:Same H H'):SumAt K H' v m ts:=.of (Rep.same s _ _ h.rep)
theorem NI {K:W.Frag} {H:Hp} {ts:List (Nat × Int)} {vs:List V} {i:Nat} {v:V} (h:Reps K H (ts.map Bp) vs) (e:vs[i]? = some v):∃ q c,ts[i]? = some q/\v=.ref c/\SqT K H c [.int q.1,.int q.2]:=by
 have hl:=h.length
 have hi:i < ts.length:=by
  have:=(List.getElem?_eq_some_iff.mp e).1
  rw [List.length_map] at hl;lia
 have e1:(ts.map Bp)[i]? = some (Bp ts[i]):=by rw [List.getElem?_map,List.getElem?_eq_getElem hi];rfl
 obtain ⟨x,e2,hx⟩:=h.get e1
 rw [e] at e2
 cases e2
 unfold Bp Rep at hx
 obtain ⟨c,xs,rfl,hc,hr⟩:=hx
 unfold Reps at hr
 obtain ⟨x,r,rfl,h1,hr⟩:=hr
 unfold Rep at h1;subst h1
 unfold Reps at hr
 obtain ⟨x,r,rfl,h2,hr⟩:=hr
 unfold Rep at h2;subst h2
 unfold Reps at hr;subst hr
 exact ⟨ts[i],c,List.getElem?_eq_getElem hi,rfl,hc⟩
def shT (a b:Int):Int:=a / (a.gcd b:Int)
def shB (a b:Int):Int:=b / (a.gcd b:Int)
theorem Hw {c a b:Int} (hc:0 < c):shT (c * a) (c * b)=shT a b/\shB (c * a) (c * b)=shB a b:=by
 have e:(((c * a).gcd (c * b):Nat):Int)=c * ((a.gcd b:Nat):Int):=by
  rw [Int.gcd_mul_left,Int.natCast_mul]
  have:((c.natAbs:Nat):Int)=c:=by lia
  rw [this]
 unfold shT shB
 rw [e]
 exact ⟨Int.mul_ediv_mul_of_pos _ _ hc,Int.mul_ediv_mul_of_pos _ _ hc⟩
def shD (a b:Int):Dv:=.tup [.int (shT a b),.int (shB a b)]
theorem Et {c a b x y:Int} (hc:0 < c) (hx:x=c * a) (hy:y=c * b):shD x y=shD a b:=by
 subst hx hy
 unfold shD
 rw [(Hw hc).1,(Hw hc).2]
theorem IA {x y:Int} (hx:0<=x) (hy:0<=y):Int.gcd y (x % y)=Int.gcd y x:=by
 unfold Int.gcd
 rw [Int.natAbs_emod_of_nonneg hx,Nat.gcd_comm,<- Nat.gcd_rec]
theorem Ds {a b:Int} {N:Nat} (ha:a.natAbs < N) (hb:b.natAbs < N) (h0:0 < b):(shT a b).natAbs < N/\(shB a b).natAbs < N/\0 < (a.gcd b:Int)/\(a.gcd b:Int)<=b:=by
 have hg:0 < a.gcd b:=Int.gcd_pos_of_ne_zero_right a (by lia)
 have hle:(a.gcd b:Int)<=b:=Int.le_of_dvd h0 (Int.gcd_dvd_right ..)
 have k:∀ z:Int,(z / (a.gcd b:Int)).natAbs<=z.natAbs:=fun z=>Int.natAbs_ediv_le_natAbs z _
 exact ⟨Nat.lt_of_le_of_lt (k a) ha,Nat.lt_of_le_of_lt (k b) hb,by lia,hle⟩
def CJ:Sp:=fun vs H Q _=>match vs with
 | [.int a,.int b]=>0<=a/\0<=b/\Q (.int (Int.gcd a b)) H
 | _=>False
theorem JP:AQ CJ:=fun vs H Q Q' E h q=>by
 unfold CJ at *
 split at q
 ·exact ⟨q.1,q.2.1,h _ _ q.2.2⟩
 ·exact q.elim
def A9:Sp:=fun vs H Q _=>match vs with
 | [.int a,.int b]=>0 < b/\a.natAbs < 2 ^ 1000/\b.natAbs < 2 ^ 1000/\∀ p,H p=none->Q (.ref p) (upd H p (.tup [.int (shT a b),.int (shB a b)]))
 | _=>False
theorem DE:AQ A9:=fun vs H Q Q' E h q=>by
 unfold A9 at *
 split at q
 ·exact ⟨q.1,q.2.1,q.2.2.1,fun p hp=>h _ _ (q.2.2.2 p hp)⟩
 ·exact q.elim
theorem B4 {K:W.Frag} {H:Hp} {p:Addr} {a b:Int} (h:H p=some (.tup [.int (shT a b),.int (shB a b)])):Rep K H (shD a b) (.ref p):=DP h (BC Bz (BC Bz Bi))
theorem FU {i:Int} (h:i.natAbs < 2 ^ 1000):Dy i=true:=by
 unfold Dy
 rw [decide_eq_true_eq]
 by_cases h0:i.natAbs=0
 ·rw [h0];decide
 ·have:=(Nat.log2_lt h0).mpr h
  lia
theorem Ef {a b:Int} (ha:a.natAbs < 2 ^ 1000) (hb:b.natAbs < 2 ^ 1000) (h0:0 < b):Ae (shD a b)=true:=by
 obtain ⟨h1,h2,_⟩:=Ds ha hb h0
 unfold shD Ae Ar Ae Ar Ae Ar
 rw [FU h1,FU h2]
 rfl
theorem FM {a b:Int}:Am (shD a b)=2:=by
 unfold shD Am A2 Am A2 Am A2
 rfl
theorem Eu {a b:Int}:AR (shD a b)=1:=by
 unfold shD AR Ax AR Ax AR Ax
 rfl
theorem N5 {x:Int} (h:x.natAbs < 2 ^ 1000):Ae (.int x)=true:=by unfold Ae;exact FU h
theorem LL {x:Int}:Am (.int x)=0:=by unfold Am;rfl
theorem JB {x:Int}:AR (.int x)=0:=by unfold AR;rfl
def At (st i:Nat):Nat:=if i / st % 2=1 then i - st else i
def Aw (f:Nat->Int) (st P i:Nat):Int:=if At st i < P then BU f st i else f i
theorem Dz {p st:Nat} (h:0 < st):(p+st) / st=p / st+1:=by rw [Nat.add_div_right _ h]
theorem LC {i st:Nat} (h:0 < st) (hi:st<=i):(i - st) / st=i / st - 1:=by
 have:=Dz (p:=i - st) h
 rw [Nat.sub_add_cancel hi] at this
 generalize (i - st) / st=x at *
 lia
theorem K8 {st i:Nat} (h:0 < st):At st i / st % 2=0:=by
 unfold At
 by_cases e:i / st % 2=1
 ·rw [if_pos e]
  have hi:st<=i:=by
   rcases Nat.lt_or_ge i st with z | z
   ·rw [Nat.div_eq_of_lt z] at e;cases e
   ·exact z
  rw [LC h hi];lia
 ·rw [if_neg e];lia
theorem J4 (f:Nat->Int) (st i:Nat):Aw f st 0 i=f i:=by unfold Aw;rw [if_neg (Nat.not_lt_zero _)]
theorem L9 {f:Nat->Int} {st p:Nat} (h:0 < st) (hp:¬ p / st % 2=0) (i:Nat):Aw f st (p+1) i=Aw f st p i:=by
 unfold Aw
 have ne:At st i≠p:=fun e=>hp (e ▸ K8 h)
 by_cases hl:At st i < p
 ·rw [if_pos hl,if_pos (by lia)]
 ·rw [if_neg hl,if_neg (by lia)]
theorem Ju {f:Nat->Int} {st p:Nat} (h:0 < st) (hp:p / st % 2=0):Aw f st p p=f p/\Aw f st p (p+st)=f (p+st):=by
 have l1:At st p=p:=by unfold At;rw [if_neg (by lia)]
 have l2:At st (p+st)=p:=by unfold At;rw [Dz h,if_pos (by lia)];lia
 unfold Aw
 rw [l1,l2,if_neg (Nat.lt_irrefl _),if_neg (Nat.lt_irrefl _)]
 exact ⟨rfl,rfl⟩
theorem Jh {f:Nat->Int} {st p:Nat} (h:0 < st) (hp:p / st % 2=0) (i:Nat) :
 Aw f st (p+1) i=if i=p+st then f p - f (p+st) else if i=p then f p+f (p+st) else Aw f st p i:=by
 have l1:At st p=p:=by unfold At;rw [if_neg (by lia)]
 have l2:At st (p+st)=p:=by unfold At;rw [Dz h,if_pos (by lia)];lia
 by_cases e1:i=p+st
 ·subst e1
  rw [if_pos rfl]
  unfold Aw BU
  rw [l2,if_pos (Nat.lt_succ_self p),Dz h,if_pos (by lia),Nat.add_sub_cancel]
 ·rw [if_neg e1]
  by_cases e2:i=p
  ·subst e2
   rw [if_pos rfl]
   unfold Aw BU
   rw [l1,if_pos (Nat.lt_succ_self i),if_neg (by lia)]
  ·rw [if_neg e2]
   unfold Aw
   have ne:At st i≠p:=fun e=>by
    unfold At at e
    by_cases o:i / st % 2=1
    ·rw [if_pos o] at e
     have hi:st<=i:=by
      rcases Nat.lt_or_ge i st with z | z
      ·rw [Nat.div_eq_of_lt z] at o;cases o
      ·exact z
     lia
    ·rw [if_neg o] at e;exact e2 e
   by_cases hl:At st i < p
   ·rw [if_pos hl,if_pos (by lia)]
   ·rw [if_neg hl,if_neg (by lia)]
theorem MY {f:Nat->Int} {st M i:Nat} (hi:i < M):Aw f st M i=BU f st i:=by
 unfold Aw
 have:At st i<=i:=by unfold At;split <;> lia
 rw [if_pos (by lia)]
theorem Jx:∀ m < 7,∀ s < m,∀ k < 2 ^ m,k / 2 ^ s % 2≠1->k+2 ^ s < 2 ^ m:=by decide +kernel
theorem OC {bs:List Bool} {i:Nat} (h:i < bs.length):AS bs i=DC bs[i]:=by
 unfold AS
 rw [List.getD_eq_getElem?_getD,List.getElem?_eq_getElem h]
 rfl
def CZ (K:W.Frag):Sp:=fun vs H Q _=>match vs with
 | [.ref p]=>∃ (m:Nat) (bs:List Bool),1<=m/\m<=6/\bs.length=2 ^ m/\SqT K H p (bs.map V.bl)/\∀ v H',Same H H'->SumAt K H' v m (A0 (wt m (AS bs)) (2 ^ m))->Q v H'
 | _=>False
theorem Ks {K:W.Frag}:AQ (CZ K):=fun vs H Q Q' E h q=>by
 unfold CZ at *
 split at q
 ·obtain ⟨m,bs,h1,h2,h3,h4,q⟩:=q;exact ⟨m,bs,h1,h2,h3,h4,fun v H' x1 x2=>h _ _ (q v H' x1 x2)⟩
 ·exact q.elim
def gB (bs:List Bool) (i:Nat):Bool:=bs.getD i false
def Br (bs:List Bool) (s i:Nat):Bool:=gB bs (i ^^^ s) != gB bs i
def BQ (bs:List Bool) (s n:Nat):List Nat:=(List.range n).filter (Br bs s)
theorem IV (bs:List Bool) (s n:Nat):BQ bs s (n+1)=BQ bs s n++(if Br bs s n=true then [n] else []):=by
 unfold BQ
 rw [List.range_succ,List.filter_append]
 congr 1
 by_cases h:Br bs s n=true
 ·rw [if_pos h,List.filter_cons_of_pos h];rfl
 ·rw [if_neg h,List.filter_cons_of_neg h];rfl
theorem NR (bs:List Bool) (s n:Nat):(BQ bs s n).length<=n:=by
 unfold BQ
 exact Nat.le_trans (List.length_filter_le _ _) (by rw [List.length_range];exact Nat.le_refl _)
theorem Nk (bs:List Bool) (s i:Nat):AS bs (i ^^^ s) * AS bs i=1 - 2 * (if Br bs s i=true then 1 else 0):=by
 unfold AS Br gB DC
 cases bs.getD (i ^^^ s) false <;> cases bs.getD i false <;> decide
theorem Gy (bs:List Bool) (s:Nat):∀ n,sumTo (fun i=>AS bs (i ^^^ s) * AS bs i) n=(n:Int) - 2 * ((BQ bs s n).length:Int)
 | 0=>rfl
 | n+1=>by
  show sumTo _ n+AS bs (n ^^^ s) * AS bs n=_
  rw [Gy bs s n,Nk,IV,List.length_append]
  by_cases h:Br bs s n=true
  ·rw [if_pos h,if_pos h,List.length_singleton];lia
  ·rw [if_neg h,if_neg h,List.length_nil];lia
theorem Ge {f:Nat->Int}:∀ {n:Nat},(∀ j,j < n->f j=1\/f j = -1) -> -(n:Int)<=sumTo f n/\sumTo f n<=n
 | 0,_=>⟨Int.le_refl _,Int.le_refl _⟩
 | n+1,h=>by
  have i:=Ge fun j hj=>h j (Nat.lt_succ_of_lt hj)
  show -((n+1:Nat):Int)<=sumTo f n+f n/\sumTo f n+f n<=((n+1:Nat):Int)
  rcases h n (Nat.lt_succ_self n) with e | e <;> rw [e] <;> lia
theorem NO (m:Nat) (bs:List Bool) (s:Nat) : -((2 ^ m:Nat):Int)<=wt m (AS bs) s/\wt m (AS bs) s<=((2 ^ m:Nat):Int):=by
 unfold wt
 refine Ge fun j _=>?_
 rcases chi_one m s j with h | h <;> rw [h] <;> unfold AS DC <;> cases bs.getD j false <;> decide
def Da (g:Nat->Int):Prop:=∀ k,-64<=g k/\g k<=64
theorem KG {m:Nat} (m6:m<=6) (bs:List Bool):Da (wt m (AS bs)):=fun k=>by
 have:=NO m bs k
 have h64:2 ^ m<=64:=Nat.pow_le_pow_right (n:=2) (by decide) m6
 lia
theorem LF {a b:Int} (ha : -64<=a/\a<=64):okMul a b:=.inr (.inl ⟨by lia,by lia⟩)
theorem L4 {a:Int} (h : -64<=a/\a<=64):0<=a * a/\a * a<=4096:=by
 have h1:a * a=((a.natAbs * a.natAbs:Nat):Int):=by rw [Int.natCast_mul,Int.natAbs_mul_self' a]
 have h2:a.natAbs<=64:=by lia
 have h3:a.natAbs * a.natAbs<=64 * 64:=Nat.mul_le_mul h2 h2
 lia
theorem Iv {f:Nat->Int} {B:Int}:∀ {n:Nat},(∀ j,j < n->0<=f j/\f j<=B)->0<=sumTo f n/\sumTo f n<=n * B
 | 0,_=>by show (0:Int)<=0/\(0:Int)<=((0:Nat):Int) * B;simp
 | n+1,h=>by
  have i:=Iv fun j hj=>h j (Nat.lt_succ_of_lt hj)
  have k:=h n (Nat.lt_succ_self n)
  show 0<=sumTo f n+f n/\sumTo f n+f n<=((n+1:Nat):Int) * B
  rw [Int.natCast_add,Int.add_mul]
  have:((1:Nat):Int) * B=B:=by simp
  lia
theorem Feed.lst {H:Hp} {t:Addr} (F:Feed H t):∃ zs,H t=some (.lst zs):=by
 obtain ⟨a,b,k,c,_,h⟩:=F.at_
 exact ⟨_,h⟩
section
variable {X:Cx} {K:W.Frag}
end
def lvF (m:Nat) (g:Nat->Int) (n j:Nat):Int:=sumTo (fun s=>if AF m s=j then g s * g s else 0) n
def lvT (m:Nat) (ts:List (Nat × Int)) (j:Nat):Int:=BD (fun s w=>if AF m s=j then w * w else 0) ts
theorem Ni {m:Nat} {ts:List (Nat × Int)} {i:Nat} {q:Nat × Int} (h:ts[i]? = some q) (j:Nat):lvT m (ts.take (i+1)) j=if j=AF m q.1 then lvT m (ts.take i) j+q.2 * q.2 else lvT m (ts.take i) j:=by
 unfold lvT
 rw [List.take_add_one,h,FK]
 show BD _ _+((if AF m q.1=j then q.2 * q.2 else 0)+0)=_
 by_cases e:j=AF m q.1
 ·rw [if_pos e,if_pos e.symm,Int.add_zero]
 ·rw [if_neg e,if_neg (Ne.symm e)];lia
theorem Mw (m:Nat) (g:Nat->Int) (j n:Nat):lvT m (A0 g n) j=lvF m g n j:=by
 unfold lvT lvF
 rw [Hu]
 intro k
 split <;> simp
theorem K2 {m:Nat} {g:Nat->Int} (hg:Da g) {n:Nat} (j:Nat):0<=lvF m g n j/\lvF m g n j<=n * 4096:=by
 refine Iv (B:=4096) fun k _=>?_
 have:=L4 (hg k)
 show 0<=(if AF m k=j then g k * g k else 0)/\(if AF m k=j then g k * g k else 0)<=4096
 split <;> lia
def Nb (x:Int) (k:Nat):Prop:=x.natAbs < 2 ^ k
theorem Nb.mul {x y:Int} {a b:Nat} (hx:Nb x a) (hy:Nb y b):Nb (x * y) (a+b):=by
 unfold Nb at *
 rw [Int.natAbs_mul,Nat.pow_add]
 exact Nat.mul_lt_mul'' hx hy
theorem Nb.up {x:Int} {a b:Nat} (hx:Nb x a) (h:a<=b):Nb x b:=Nat.lt_of_lt_of_le hx (Nat.pow_le_pow_right (by decide) h)
theorem Nb.pow {x:Int} {a:Nat} (hx:Nb x a):∀ i,Nb (x ^ i) (a * i+1)
 | 0=>by unfold Nb;rw [Int.pow_zero];show 1 < 2 ^ (a * 0+1);rw [Nat.mul_zero];decide
 | i+1=>by
  rw [Int.pow_succ]
  have:=(hx.pow i).mul hx
  rw [show a * (i+1)+1=a * i+1+a by rw [Nat.mul_succ];lia]
  exact this
theorem Nb.add {x y:Int} {a:Nat} (hx:Nb x a) (hy:Nb y a):Nb (x+y) (a+1):=by
 unfold Nb at *
 rw [Nat.pow_succ]
 have:=Int.natAbs_add_le x y
 lia
theorem Nb.okMul {x y:Int} (hx:Nb x 4000) (hy:Nb y 4000):okMul x y:=.inl ⟨hx.up (by decide),hy.up (by decide)⟩
theorem Nb.sum {f:Nat->Int} {a:Nat}:∀ {n:Nat},(∀ j,j < n->Nb (f j) a)->Nb (sumTo f n) (a+n)
 | 0,_=>by unfold Nb;exact Nat.two_pow_pos _
 | n+1,h=>by
  have i:=Nb.sum fun j hj=>h j (Nat.lt_succ_of_lt hj)
  exact i.add ((h n (Nat.lt_succ_self n)).up (by lia))
theorem HG {x:Int} {k:Nat} (h1 : -(2 ^ k:Nat) < x) (h2:x < (2 ^ k:Nat)):Nb x k:=by unfold Nb;lia
def qF (x y:Int) (n s:Nat):Int:=x ^ AF n s * y ^ (n - AF n s)
theorem Bq (x y:Int) (n s:Nat):qF x y (n+1) s=(if s % 2=1 then x else y) * qF x y n (s / 2):=by
 unfold qF
 have e:AF (n+1) s=s % 2+AF n (s / 2):=rfl
 have hl:=Ba n (s / 2)
 rw [e]
 by_cases h:s % 2=1
 ·rw [if_pos h,h,show n+1 - (1+AF n (s / 2))=n - AF n (s / 2) by lia,Nat.add_comm 1,Int.pow_succ]
  ac_rfl
 ·have h0:s % 2=0:=by lia
  rw [if_neg h,h0,Nat.zero_add,show n+1 - AF n (s / 2)=(n - AF n (s / 2))+1 by lia,Int.pow_succ]
  ac_rfl
theorem E6 (t b:Int):∀ n s,sumTo (fun u=>qF t (b - t) n u * chi n s u) (2 ^ n)=qF (b - 2 * t) b n s
 | 0,s=>by
  show 0+qF t (b - t) 0 0 * chi 0 s 0=qF (b - 2 * t) b 0 s
  simp [qF,AF,chi]
 | n+1,s=>by
  rw [Nat.pow_succ,Nat.mul_comm,Cy]
  have e:∀ u,qF t (b - t) (n+1) (2 * u) * chi (n+1) s (2 * u)+qF t (b - t) (n+1) (2 * u+1) * chi (n+1) s (2 * u+1)=(if s % 2=1 then b - 2 * t else b) * (qF t (b - t) n u * chi n (s / 2) u):=fun u=>by
   rw [Bq,Bq,show 2 * u / 2=u by lia,show (2 * u+1) / 2=u by lia,if_neg (by lia),if_pos (by lia)]
   have c1:chi (n+1) s (2 * u)=chi n (s / 2) u:=by
    show (if s % 2=1/\2 * u % 2=1 then -1 else 1) * chi n (s / 2) (2 * u / 2)=_
    rw [if_neg (by lia),show 2 * u / 2=u by lia,Int.one_mul]
   have c2:chi (n+1) s (2 * u+1)=(if s % 2=1 then -1 else 1) * chi n (s / 2) u:=by
    show (if s % 2=1/\(2 * u+1) % 2=1 then -1 else 1) * chi n (s / 2) ((2 * u+1) / 2)=_
    rw [show (2 * u+1) / 2=u by lia]
    by_cases h:s % 2=1
    ·rw [if_pos ⟨h,by lia⟩,if_pos h]
    ·rw [if_neg (fun z=>h z.1),if_neg h]
   rw [c1,c2]
   generalize qF t (b - t) n u=q
   generalize chi n (s / 2) u=c
   by_cases h:s % 2=1
   ·rw [if_pos h,if_pos h,Int.sub_mul,Int.sub_mul,Int.sub_mul,Int.mul_assoc 2 t]
    have e1:t * q * (-1 * c) = -(t * (q * c)):=by rw [Int.neg_mul,Int.one_mul,Int.mul_neg,Int.mul_assoc]
    rw [e1,Int.mul_assoc,Int.mul_assoc]
    lia
   ·rw [if_neg h,if_neg h,Int.sub_mul,Int.sub_mul,Int.one_mul,Int.mul_assoc,Int.mul_assoc]
    lia
  rw [AW fun u _=>e u,<- A7,E6 t b n (s / 2),Bq]
theorem Ng (x y:Int) (n:Nat):qF x y n 0=y ^ n:=by
 unfold qF
 rw [C5,Int.pow_zero,Int.one_mul,Nat.sub_zero]
theorem Nt (m:Nat) (g:Nat->Int) (x y:Int):sumTo (fun j=>lvF m g (2 ^ m) j * x ^ j * y ^ (m - j)) (m+1)=sumTo (fun s=>qF x y m s * (g s * g s)) (2 ^ m):=by
 have e:∀ j,lvF m g (2 ^ m) j * x ^ j * y ^ (m - j)=sumTo (fun s=>if AF m s=j then g s * g s * x ^ j * y ^ (m - j) else 0) (2 ^ m):=fun j=>by
  unfold lvF
  rw [Dm,Dm]
  refine AW fun s _=>?_
  split <;> simp
 rw [AW fun j _=>e j,CL]
 refine AW fun s _=>?_
 rw [GE (fun j=>g s * g s * x ^ j * y ^ (m - j)) (AF m s),if_pos (by have:=Ba m s;lia)]
 unfold qF
 ac_rfl
def CG (bs:List Bool) (m u:Nat):Int:=((2 ^ m:Nat):Int) - ((BQ bs u (2 ^ m)).length:Int)
theorem Kr (m:Nat) (bs:List Bool) (t b:Int) :
 ((2 ^ (2 * m):Nat):Int) * b ^ m+sumTo (fun j=>lvF m (wt m (AS bs)) (2 ^ m) j * (b - 2 * t) ^ j * b ^ (m - j)) (m+1)=(2 * ((2 ^ m:Nat):Int)) * sumTo (fun u=>CG bs m u * t ^ AF m u * (b - t) ^ (m - AF m u)) (2 ^ m):=by
 rw [Nt]
 have e1:sumTo (fun s=>qF (b - 2 * t) b m s * (wt m (AS bs) s * wt m (AS bs) s)) (2 ^ m)=sumTo (fun u=>qF t (b - t) m u * (((2 ^ m:Nat):Int) * (((2 ^ m:Nat):Int) - 2 * ((BQ bs u (2 ^ m)).length:Int)))) (2 ^ m):=by
  have h1:∀ s,qF (b - 2 * t) b m s * (wt m (AS bs) s * wt m (AS bs) s)=sumTo (fun u=>qF t (b - t) m u * (chi m s u * (wt m (AS bs) s * wt m (AS bs) s))) (2 ^ m):=fun s=>by
   rw [<- E6 t b m s,Dm]
   exact AW fun u _=>by rw [Int.mul_assoc]
  rw [AW fun s _=>h1 s,CL]
  refine AW fun u hu=>?_
  rw [<- A7,Mt m (AS bs) u hu,Gy]
 have e2:b ^ m=sumTo (fun u=>qF t (b - t) m u) (2 ^ m):=by
  rw [<- Ng (b - 2 * t) b m,<- E6 t b m 0]
  exact AW fun u _=>by rw [G8,Hj,Int.mul_one]
 have e3:((2 ^ (2 * m):Nat):Int)=((2 ^ m:Nat):Int) * ((2 ^ m:Nat):Int):=by rw [<- Int.natCast_mul,<- Nat.pow_add,Nat.two_mul]
 rw [e1,e2,e3,A7,ET,A7]
 refine AW fun u _=>?_
 unfold CG
 have e4:∀ z:Int,z * t ^ AF m u * (b - t) ^ (m - AF m u)=z * qF t (b - t) m u:=fun z=>by unfold qF;rw [Int.mul_assoc]
 rw [e4]
 generalize qF t (b - t) m u=q
 generalize ((2 ^ m:Nat):Int)=M
 generalize ((BQ bs u (2 ^ m)).length:Int)=c
 have r1:q * (M * (M - 2 * c))=M * M * q - 2 * (M * c * q):=by
  rw [Int.mul_sub,Int.mul_sub]
  have a1:q * (M * M)=M * M * q:=by ac_rfl
  have a2:q * (M * (2 * c))=2 * (M * c * q):=by ac_rfl
  rw [a1,a2]
 have r2:2 * M * ((M - c) * q)=2 * (M * M * q) - 2 * (M * c * q):=by
  rw [Int.sub_mul,Int.mul_sub]
  have a1:2 * M * (M * q)=2 * (M * M * q):=by ac_rfl
  have a2:2 * M * (c * q)=2 * (M * c * q):=by ac_rfl
  rw [a1,a2]
 rw [r1,r2]
 lia
def Fy (H:Hp) (Q:VK) (xs:List V):Prop:=∀ p H',H p=none->Same H H'->H' p=some (.lst xs)->Q (.ref p) H'
theorem BL {H:Hp} {Q Q':VK} {xs:List V} (h:∀ v H,Q v H->Q' v H) (q:Fy H Q xs):Fy H Q' xs:=fun p H' a b c=>h _ _ (q p H' a b c)
theorem J2:AY GQ:=fun σ H Q Q' h q p hp=>h _ _ (q p hp)
theorem Jj {td ty tx:TE} (h1:AY td) (h2:AY ty) (h3:AY tx):AY (HA td ty tx):=fun σ H Q Q' h q=>h1 _ _ _ _ (fun _ _ ⟨a,e,d,q⟩=>⟨a,e,d,h2 _ _ _ _ (fun _ _ q=>h3 _ _ _ _ (fun _ _ ⟨o,g,q⟩=>⟨o,g,h _ _ q⟩) q) q⟩) q
theorem Jf {td ty tv:TE} (h1:AY td) (h2:AY ty) (h3:AY tv):A1 (Gk td ty tv):=fun D D' σ H h q=>h3 _ _ _ _ (fun _ _ q=>h1 _ _ _ _ (fun _ _ q=>h2 _ _ _ _ (fun _ _ ⟨a,H4,e,g,q⟩=>⟨a,H4,e,g,h.nx _ _ q⟩) q) q) q
theorem BX {A:Around} (h:A.units+60 < cLine):A.units+1 < cLine:=by lia
end L2
namespace HT
open PySem PyProof.Rows
section
variable {prog:Program} {w:World} {A:Around} {E:Value->Shared->Prop} {s:Shared}
end
end HT
namespace L2
open PySem PySem.Spec PyProof.Rows
section
variable {X:Cx} {K:W.Frag} {e sx:Expr} {te ts:TE} {lo hi:Option Expr} {tl th:TO} {pos p2:Pos}
end
structure GFeed (H:Hp) (t:Addr) (N:Nat):Prop where
 at_:∃ (l:Addr) (i g c:Int) (ns:List Int),0<=i/\0<=g/\0<=c/\c<=N/\H t=some (.lst [.ref l,.int i,.int g,.int c])/\l≠t/\H l=some (.lst (ns.map V.int))/\ns.length≠0
theorem GFeed.same {H H':Hp} {t:Addr} {N:Nat} (F:GFeed H t N) (h:Same H H'):GFeed H' t N:=by
 obtain ⟨l,i,g,c,ns,h1,h2,h3,h4,h5,h6,h7,h8⟩:=F.at_
 exact ⟨l,i,g,c,ns,h1,h2,h3,h4,h _ _ h5,h6,h _ _ h7,h8⟩
theorem GFeed.upd {H:Hp} {t p:Addr} {o:HO} {N:Nat} (F:GFeed H t N) (h:H p=none):GFeed (L2.upd H p o) t N:=F.same (Same.upd h)
theorem GFeed.lst {H:Hp} {t:Addr} {N:Nat} (F:GFeed H t N):∃ zs,H t=some (.lst zs):=by
 obtain ⟨l,i,g,c,ns,h1,h2,h3,h4,h5,_⟩:=F.at_
 exact ⟨_,h5⟩
section
variable {X:Cx} {pins:List (Addr × Obj)} {σ:St} {H:Hp} {s:Shared}
theorem Inv.hold {d:Addr} {kvs:List (Key × V)} (I:Inv X pins σ H s) (h:H d=some (.dK kvs)):∃ o,s.heap.get? d=some o/\Inv X pins σ (upd H d (.frz o (.dK kvs))) s:=by
 obtain ⟨hl,hs,vs,r,dd⟩:=(show ObjOk X.prog X.w H s.heap d (.dK kvs) from I.hok d _ h)
 obtain ⟨o,es,ep,ho,rest⟩:=id dd
 refine ⟨o,ho,?_⟩
 have:=I.write (x:=d) (e:=d) (o:=.frz o (.dK kvs)) (h':=s.heap) (t':=s.toks) (by rw [h];exact True.intro) (.inl rfl) (fun b u _ q=>q) ⟨o,ho⟩ ⟨ho,hl,hs,vs,r,dd⟩
 exact this
theorem Inv.held {d:Addr} {o:Obj} {kvs:List (Key × V)} (I:Inv X pins σ H s) (h:H d=some (.frz o (.dK kvs))):s.heap.get? d=some o/\(d == sysModules)=false/\kvs.length<=sizeLine/\∃ vs,KV kvs vs/\s.heap.DictOf (Af X.prog X.w) d vs:=by
 obtain ⟨ho,hl,hs,vs,r,dd⟩:=(show ObjOk X.prog X.w H s.heap d (.frz o (.dK kvs)) from I.hok d _ h)
 exact ⟨ho,hs,hl,vs,r,dd⟩
theorem KV.get {kvs:List (Key × V)} {vs:List (Key × Value)} (r:KV kvs vs):∀ {i:Nat} {q:Key × V},kvs[i]? = some q->∃ v,vs[i]? = some (q.1,v)/\RelV q.2 v:=by
 induction r with
 | nil=>intro i q e;simp at e
 | @cons a b l1 l2 h t ih =>
  intro i q e
  cases i with
  | zero =>
   simp at e;subst e
   obtain ⟨b1,b2⟩:=b
   obtain ⟨h1,h2⟩:=h
   exact ⟨b2,by simp;exact h1.symm,h2⟩
  | succ i =>
   obtain ⟨v,h1,h2⟩:=ih (i:=i) (q:=q) (by simpa using e)
   exact ⟨v,by simpa using h1,h2⟩
theorem KV.len {kvs:List (Key × V)} {vs:List (Key × Value)} (r:KV kvs vs):kvs.length=vs.length:=Paired.length r
theorem GS {k:Key} {u:Value} (h:BZ k u=true):RelV (kV k) u:=by
 rcases keyIs_shape h with ⟨i,t,rfl,rfl⟩ | ⟨x,t,rfl,rfl⟩
 ·exact ⟨t,rfl⟩
 ·exact ⟨t,rfl⟩
end
def Itm (d:Addr) (o:Obj):It :=
 ⟨fun i H=>∃ kvs q,H d=some (.frz o (.dK kvs))/\kvs[i]? = some q,
  fun i H v H'=>∃ p kvs q,H d=some (.frz o (.dK kvs))/\kvs[i]? = some q/\H p=none/\v=.ref p/\H'=upd H p (.tup [kV q.1,q.2]),
  fun i H=>∃ kvs,H d=some (.frz o (.dK kvs))/\kvs.length<=i⟩
theorem Bm {P:Program} {w:World} {h:Heap} {d:Addr} {o:Obj} {es:Array DictEntry} {ep:Nat} {vs:List (Key × Value)} (ho:h.get? d=some o) (hd:o.data=.dict es ep) (dd:h.DictOf (Af P w) d vs):h.DictAt (Af P w) d vs ep/\es.size=vs.length:=by
 obtain ⟨o',es',ep',h1,h2,h3,h4,h5,h6⟩:=dd
 rw [ho] at h1;cases h1
 rw [hd] at h3;cases h3
 exact ⟨⟨o,es,ho,h2,hd,h4,h5,h6⟩,by rw [<- h5.length];simp⟩
theorem NZ:entryFor table "dict_itemiterator.__iter__" = some Builtin.«dict_keyiterator.__iter__» :=
 entryFor_alias (id':="dict_keyiterator.__iter__") (by kernel_rfl) (by first | rfl | decide +kernel) (by decide +kernel) (by kernel_rfl)
theorem K0 {prog:Program} {w:World} {A:Around} {E:Value->Shared->Prop} {s:Shared} {it d:Addr} {i n ep:Nat} {ok ov:Value} {Q:Value->Shared->Prop} (hz:IsItemIter s.heap it d i n ep ok ov) (h:Q (.ref it) s):wpAny (model prog w) A (pyIter (.ref it)) Q E s:=by
 have hT:s.TypeIs (.ref it) "dict_itemiterator":=⟨_,hz,rfl⟩
 refine wpAny_pyIter_slot hT F.slot_dict_itemiterator_iter (wpAny_call_entry F.slot_dict_itemiterator_iter hT NZ ?_ (F.args_dict_itemiterator_iter_1 _))
 show wpAny _ _ (ret (.ref it)) _ _ s
 exact wpAny_pure ⟨_,rfl,"dict_itemiterator",_,hT,F.slot_dict_itemiterator_next.lookup,h⟩
theorem Jq {P:Program} {w:World} {K:W.Frag} {ts:List Expr} {kt:Nat} {tpos:Pos} {it d:Addr} {o:Obj} {es:Array DictEntry} {ep:Nat} (hdat:o.data=.dict es ep) :
 Turn P w K (.Tuple ts kt tpos) (Itm d o) [it] it (fun i h=>∃ ok ov,IsItemIter h it d i es.size ep ok ov) where
 mem:=by simp
 obj:=fun i h st b hb=>by
  obtain ⟨ok,ov,hz⟩:=st
  obtain rfl:b=it:=by simpa using hb
  exact ⟨_,hz,fun v q=>nomatch q⟩
 keep:=fun i h h' ⟨ok,ov,hz⟩ k=>⟨ok,ov,k it (by simp) _ hz⟩
 item:=by
  intro X hP hw hK hc i pins s σ H E I hf st hg
  subst hP hw hK
  obtain ⟨kvs,q,hq1,hx⟩:=hg
  obtain ⟨ok,ov,hz⟩:=st
  obtain ⟨ho,hs,hl,vs,rv,dd⟩:=I.held hq1
  obtain ⟨da,hsz⟩:=Bm ho hdat dd
  obtain ⟨u,hu,ru⟩:=rv.get hx
  rw [hsz] at hz
  refine wpAny_pyNext_items_item hz da hu fun key h' z0 z1 z2 z3 z4=>?_
  refine ⟨_,rfl,?_⟩
  have z4':∀ b v,b∉[it]->s.heap.get? b=some v->h'.get? b=some v:=fun b v hb q=>z4 b v (by simpa using hb) q
  have I1:Inv X pins σ (upd H s.heap.objs.size (.tup [kV q.1,q.2])) { s with heap:=h' }:=by
   refine I.turnedNew (ch:=[it]) (fun b hb=>hf b hb) (Nat.le_refl _) z4' ?_ fun b hb=>?_
   ·exact ⟨A8 (show 2<=1000 by decide),[key,u],.cons (GS z0) (.cons ru .nil),⟨_,z2,rfl,⟨_,rfl⟩,rfl⟩⟩
   ·obtain rfl:b=it:=by simpa using hb
    exact ⟨_,z1⟩
  refine wpAny_letOwnedTupleGo_items (s:={ s with heap:=h' }) z1 fun h'' z8 z9=>?_
  have hfz:=hf it (by simp)
  have neT:it≠s.heap.objs.size:=fun q=>by
   have:=Heap.lt_size hz
   rw [q] at this
   exact Nat.lt_irrefl _ this
  have hTH:∀ b∈[it],upd H s.heap.objs.size (.tup [kV q.1,q.2]) b=none:=fun b hb=>by
   obtain rfl:b=it:=by simpa using hb
   rw [AI neT];exact hfz.1
  have I2:Inv X pins σ (upd H s.heap.objs.size (.tup [kV q.1,q.2])) { s with heap:=h'' } :=
   I1.turned (t':=s.toks) (fun b o hb q=>(z9.2 b hb).trans q) (hTH it (by simp)) hfz.2.1 hfz.2.2.2.1 hfz.2.2.2.2.1 hfz.2.2.2.2.2
  rw [<- hsz] at z8
  exact ⟨.ref s.heap.objs.size,_,I2,rfl,⟨_,kvs,q,hq1,hx,I.hok.fresh (Nat.le_refl _),rfl,rfl⟩,⟨_,_,z8⟩,hTH⟩
 done:=by
  intro X hP hw hK hc i pins s σ H E I hf st hg
  subst hP hw hK
  obtain ⟨kvs,hq1,hl⟩:=hg
  obtain ⟨ok,ov,hz⟩:=st
  obtain ⟨ho,hs,hl',vs,rv,dd⟩:=I.held hq1
  obtain ⟨da,hsz⟩:=Bm ho hdat dd
  have e1:=rv.len
  rw [hsz] at hz
  refine wpAny_pyNext_items_end (I.ok.hd hc) hz da (by simp;lia) fun h' z7=>⟨rfl,?_⟩
  obtain ⟨f0,f1,f2,f3,f4,f5⟩:=hf it (by simp)
  exact I.turned (t':=s.toks) (fun b o hb q=>z7 b o hb q) f0 f1 f3 f4 f5
 self:=fun A i s Q E st h=>by
  obtain ⟨ok,ov,hz⟩:=st
  exact K0 hz h
def Itk (d:Addr) (o:Obj):It :=
 ⟨fun i H=>∃ kvs q,H d=some (.frz o (.dK kvs))/\kvs[i]? = some q,
  fun i H v H'=>H'=H/\∃ kvs q,H d=some (.frz o (.dK kvs))/\kvs[i]? = some q/\v=kV q.1,
  fun i H=>∃ kvs,H d=some (.frz o (.dK kvs))/\kvs.length<=i⟩
theorem Ma {P:Program} {w:World} {K:W.Frag} {tg:Expr} {it d:Addr} {o:Obj} {es:Array DictEntry} {ep:Nat} (hdat:o.data=.dict es ep) :
 Turn P w K tg (Itk d o) [it] it (fun i h=>h.IsKeyIter it d i es.size ep) where
 mem:=by simp
 obj:=fun i h st b hb=>by
  obtain rfl:b=it:=by simpa using hb
  obtain ⟨o,e,c,d⟩:=st
  exact ⟨o,e,fun v z=>by rw [d] at z;cases z⟩
 keep:=fun i h h' ⟨o,e,r⟩ k=>⟨o,k it (by simp) _ e,r⟩
 item:=by
  intro X hP hw hK hc i pins s σ H E I hf st hg
  subst hP hw hK
  obtain ⟨kvs,q,hq1,hx⟩:=hg
  obtain ⟨ho,hs,hl,vs,rv,dd⟩:=I.held hq1
  obtain ⟨da,hsz⟩:=Bm ho hdat dd
  obtain ⟨u,hu,ru⟩:=rv.get hx
  obtain ⟨f0,f1,f2,f3,f4,f5⟩:=hf it (by simp)
  rw [hsz] at st
  refine wpAny_pyNext_dict_item st da hu fun key h' z0 st' sb=>?_
  have I1:Inv X pins σ H { s with heap:=h' }:=I.turned (t':=s.toks) (fun b o hb e=>(sb.2 b hb).trans e) f0 f1 f3 f4 f5
  obtain ⟨o',e,c,d'⟩:=id st'
  rw [<- hsz] at st'
  exact ⟨key,rfl,Dg (s:={ s with heap:=h' }) e c d' (by decide) ⟨kV q.1,H,I1,GS z0,⟨rfl,kvs,q,hq1,hx,rfl⟩,st',fun b hb=>(hf b hb).1⟩⟩
 done:=by
  intro X hP hw hK hc i pins s σ H E I hf st hg
  subst hP hw hK
  obtain ⟨kvs,hq1,hl⟩:=hg
  obtain ⟨ho,hs,hl',vs,rv,dd⟩:=I.held hq1
  obtain ⟨da,hsz⟩:=Bm ho hdat dd
  obtain ⟨f0,f1,f2,f3,f4,f5⟩:=hf it (by simp)
  have e1:=rv.len
  rw [hsz] at st
  exact wpAny_pyNext_dict_end (I.ok.hd hc) st da (by simp;lia) fun h' eb=>⟨rfl,I.turned (t':=s.toks) (fun b o hb e=>eb b o hb e) f0 f1 f3 f4 f5⟩
 self:=fun _ _ _ _ _ st h=>wpAny_pyIter_keyiter st h
def Cp (x:V) (H:Hp) (R:Addr->Obj->Hp->Prop):Prop:=match x with
 | .ref d=>(∃ kvs,H d=some (.dK kvs)/\∀ o,R d o (upd H d (.frz o (.dK kvs))))\/∃ kvs o,H d=some (.frz o (.dK kvs))/\R d o H
 | _=>False
theorem GY {X:Cx} {pins:List (Addr × Obj)} {σ:St} {H:Hp} {s:Shared} {x:V} {v:Value} {R:Addr->Obj->Hp->Prop} (I:Inv X pins σ H s) (r:RelV x v) (h:Cp x H R) :
 ∃ d kvs o H2,v=.ref d/\Inv X pins σ H2 s/\H2 d=some (.frz o (.dK kvs))/\R d o H2:=by
 cases x with
 | ref d =>
  cases r
  rcases h with ⟨kvs,e,q⟩ | ⟨kvs,o,e,q⟩
  ·obtain ⟨o,ho,I2⟩:=I.hold e
   exact ⟨d,kvs,o,_,rfl,I2,AJ,q o⟩
  ·exact ⟨d,kvs,o,H,rfl,I,e,q⟩
 | _=>exact False.elim h
def G2 (to:TE):TI:=fun σ H R=>to σ H fun x H1=>Cp x H1 fun d o H2=>R (Itm d o) H2
def II (to:TE):TI:=fun σ H R=>to σ H fun x H1=>Cp x H1 fun d o H2=>R (Itk d o) H2
section
variable {X:Cx} {K:W.Frag} {tg oe:Expr} {to:TE} {ts:List Expr} {kt:Nat} {tpos apos cpos:Pos}
theorem Er (ho:PE X oe to) (hbase:attributeBase oe "items" X.env (eval oe X.env)=eval oe X.env:=by rfl) (hline:(apos.endLine == cpos.line)=true:=by rfl) :
 PI X (.Tuple ts kt tpos) (.Call (.Attribute oe "items" apos) [] [] cpos) (G2 to):=by
 intro pins s σ H R I h
 refine wpAny_Call_method0_late hbase hline (thn (ho pins s σ H _ I h) fun v s1 ⟨x,H1,I1,r1,q1⟩=>?_)
 obtain ⟨d,kvs,o,H2,rfl,I2,hd2,q⟩:=GY I1 r1 q1
 obtain ⟨ho',hs,hl,vs,rv,dd⟩:=I2.held hd2
 obtain ⟨o',es,ep,e1,e2,e3,_⟩:=id dd
 rw [ho'] at e1;cases e1
 refine ⟨"dict","dict.items",PySem.F.plainAttrs_dict,PySem.F.slot_dict_items,PySem.F.type_dict_items,dd.typeIs,fun a ea=>?_,Calls.callWith_builtin rfl (PySem.evalArgs_none ?_)⟩
 ·cases ea;exact ⟨o,ho',e2.2.1⟩
 refine call_meetsIn PySem.F.slot_dict_items dd.typeIs PySem.F.entry_dict_items (PySem.F.args_dict_items_1 _) (meets_dict_items (Af X.prog X.w) d hs) ⟨⟨vs,dd⟩,?_⟩
 have I3:Inv X pins σ H2 { s1 with heap:=s1.heap.push { cls:=.type "dict_items",data:=.fields #[.ref d] } }:=I2.kept (t':=s1.toks) fun b u e=>Heap.get?_push_of_some _ e
 have hv:(s1.heap.push { cls:=.type "dict_items",data:=.fields #[.ref d] }).IsItemsView s1.heap.objs.size d:=⟨_,Heap.get?_push_size _ rfl,rfl,rfl⟩
 obtain ⟨ho3,_,_,vs3,rv3,dd3⟩:=I3.held hd2
 obtain ⟨da,hsz⟩:=Bm ho3 e3 dd3
 refine wpAny_pyIter_items (s:={ s1 with heap:=s1.heap.push { cls:=.type "dict_items",data:=.fields #[.ref d] } }) hv da ?_
 generalize s1.heap.push { cls:=.type "dict_items",data:=.fields #[.ref d] } = h3 at *
 refine ⟨h3.objs.size,[h3.objs.size],_,_,H2,rfl,I3.kept (t':=s1.toks) fun b o e=>Heap.get?_push_of_some _ e,Jq e3,⟨.none,.none,?_⟩,fun b hb=>?_,q⟩
 ·rw [hsz];exact Heap.get?_push_size _ rfl
 ·obtain rfl:b=h3.objs.size:=by simpa using hb
  exact I3.fpOk (Nat.le_refl _) (I3.hok.fresh (Nat.le_refl _))
theorem Jl (ho:PE X oe to):PI X tg oe (II to):=by
 intro pins s σ H R I h
 refine thn (ho pins s σ H _ I h) fun v s1 ⟨x,H1,I1,r1,q1⟩=>?_
 obtain ⟨d,kvs,o,H2,rfl,I2,hd2,q⟩:=GY I1 r1 q1
 obtain ⟨ho',hs,hl,vs,rv,dd⟩:=I2.held hd2
 obtain ⟨o',es,ep,e1,e2,e3,_⟩:=id dd
 rw [ho'] at e1;cases e1
 obtain ⟨da,hsz⟩:=Bm ho' e3 dd
 refine wpAny_pyIter_dict hs da ?_
 refine ⟨s1.heap.objs.size,[s1.heap.objs.size],_,_,H2,rfl,I2.kept (t':=s1.toks) fun b o e=>Heap.get?_push_of_some _ e,Ma e3,⟨_,Heap.get?_push_size _ rfl,rfl,?_⟩,fun b hb=>?_,q⟩
 ·rw [hsz];rfl
 ·obtain rfl:b=s1.heap.objs.size:=by simpa using hb
  exact I2.fpOk (Nat.le_refl _) (I2.hok.fresh (Nat.le_refl _))
end
theorem IN {x:V} {H:Hp} {R R':Addr->Obj->Hp->Prop} (k:∀ d o H,R d o H->R' d o H) (h:Cp x H R):Cp x H R':=by
 cases x with
 | ref d =>
  rcases h with ⟨kvs,e,q⟩ | ⟨kvs,o,e,q⟩
  ·exact .inl ⟨kvs,e,fun o=>k _ _ _ (q o)⟩
  ·exact .inr ⟨kvs,o,e,k _ _ _ q⟩
 | _=>exact False.elim h
theorem Iz {to:TE} (h:AY to):B7 (G2 to):=fun σ H Q Q' k q=>h _ _ _ _ (fun _ _ q=>IN (fun _ _ _ q=>k _ _ q) q) q
theorem KI {to:TE} (h:AY to):B7 (II to):=fun σ H Q Q' k q=>h _ _ _ _ (fun _ _ q=>IN (fun _ _ _ q=>k _ _ q) q) q
theorem FA {d:Addr} {o:Obj} {kvs:List (Key × V)} {g:TG} {tb:TS} {D:Ends} {σ:St} {H:Hp} (Pv:Nat->St->Hp->Prop) (h0:Pv 0 σ H) (hl:∀ i σ H,i<=kvs.length->Pv i σ H->H d=some (.frz o (.dK kvs)))
 (hs:∀ i q p σ H,kvs[i]? = some q->Pv i σ H->H p=none->g (.ref p) σ (upd H p (.tup [kV q.1,q.2])) fun σ2 H2=>tb { D with nx:=Pv (i+1),ct:=Pv (i+1),bk:=D.nx } σ2 H2) (hd:∀ σ H,Pv kvs.length σ H->D.nx σ H) :
 ∃ W:Nat->Nat->St->Hp->Prop,(∃ m,W 0 m σ H)/\∀ i m σ H,W i m σ H ->
  ((Itm d o).stop i H/\D.nx σ H)\/((Itm d o).go i H/\∃ N:St->Hp->Prop,(∀ σ' H',N σ' H'->∃ m',m' < m/\W (i+1) m' σ' H')/\∀ x H',(Itm d o).yld i H x H'->g x σ H' fun σ2 H2=>tb { D with nx:=N,ct:=N,bk:=D.nx } σ2 H2):=by
 refine ⟨fun i m σ H=>m=kvs.length - i/\i<=kvs.length/\Pv i σ H,⟨kvs.length,by simp,Nat.zero_le _,h0⟩,?_⟩
 rintro i m σ H ⟨rfl,hi,p⟩
 have q:=hl i σ H hi p
 by_cases hlt:i < kvs.length
 ·refine .inr ⟨⟨kvs,kvs[i],q,by simp [hlt]⟩,Pv (i+1),fun σ' H' p'=>⟨kvs.length - (i+1),by lia,rfl,hlt,p'⟩,fun x H' y=>?_⟩
  obtain ⟨pp,kvs',r,e1,e2,e3,rfl,rfl⟩:=y
  rw [q] at e1
  cases e1
  exact hs i r pp σ H e2 p e3
 ·have e:i=kvs.length:=by lia
  subst e
  exact .inl ⟨⟨kvs,q,Nat.le_refl _⟩,hd σ H p⟩
theorem JM {d:Addr} {o:Obj} {kvs:List (Key × V)} {g:TG} {tc:TT} {te:TE} {σc:St} {Q:VK} {H:Hp} (Pv:Nat->List V->Hp->Prop) (h0:Pv 0 [] H) (hl:∀ i ys H,i<=kvs.length->Pv i ys H->H d=some (.frz o (.dK kvs))) (hz:∀ i ys H,i < kvs.length->Pv i ys H->ys.length < sizeLine)
 (hs:∀ i r ys H,kvs[i]? = some r->Pv i ys H->g (kV r.1) σc H fun σ2 H2=>tc σ2 H2 fun b H3=>if b=true then te σ2 H3 fun y H4=>Pv (i+1) (ys++[y]) H4 else Pv (i+1) ys H3)
 (hd:∀ ys H,Pv kvs.length ys H->∀ p,H p=none->Q (.ref p) (upd H p (.lst ys))):CF (Itk d o) g tc te σc Q H:=by
 refine ⟨fun i m ys H=>m=kvs.length - i/\i<=kvs.length/\Pv i ys H,⟨kvs.length,by simp,Nat.zero_le _,h0⟩,?_⟩
 rintro i m ys H ⟨rfl,hi,p⟩
 have q:=hl i ys H hi p
 by_cases hlt:i < kvs.length
 ·refine .inr ⟨⟨kvs,kvs[i],q,by simp [hlt]⟩,hz i ys H hlt p,Pv (i+1),fun ys' H' p'=>⟨kvs.length - (i+1),by lia,rfl,hlt,p'⟩,fun x H' y=>?_⟩
  obtain ⟨rfl,kvs',r,e1,e2,rfl⟩:=y
  rw [q] at e1
  cases e1
  exact hs i r ys _ e2 p
 ·have e:i=kvs.length:=by lia
  subst e
  exact .inl ⟨⟨kvs,q,Nat.le_refl _⟩,hd ys H p⟩
end L2
namespace L2
open PySem PyProof.Rows
section
variable {prog:Program} {w:World} {A:Around} {E:Value->Shared->Prop} {s:Shared}
end
section
variable {X:Cx}
end
end L2
namespace L2
open PySem PySem.Spec PyProof.Rows
theorem Fh:∀ n s:Nat,AF (n+1) s=AF n s+s / 2 ^ n % 2
 | 0,s=>by show s % 2+0=0+s / 2 ^ 0 % 2;rw [Nat.pow_zero,Nat.div_one];lia
 | n+1,s=>by
  show s % 2+AF (n+1) (s / 2)=s % 2+AF n (s / 2)+s / 2 ^ (n+1) % 2
  rw [Fh n (s / 2),Nat.div_div_eq_div_mul,Nat.pow_succ,Nat.mul_comm (2 ^ n) 2]
  lia
theorem Iy {x y:Int} {k s:Nat} (h:s < 2 ^ k):qF x y (k+1) s=qF x y k s * y:=by
 unfold qF
 have e:AF (k+1) s=AF k s:=by rw [Fh,Nat.div_eq_of_lt h];rfl
 have hl:=Ba k s
 rw [e,show k+1 - AF k s=(k - AF k s)+1 by lia,Int.pow_succ]
 ac_rfl
theorem Kh {x y:Int} {k s:Nat} (h:s < 2 ^ k):qF x y (k+1) (2 ^ k+s)=qF x y k s * x:=by
 unfold qF
 have e1:(2 ^ k+s) / 2 ^ k % 2=1:=by rw [Nat.add_div_left _ (Nat.two_pow_pos k),Nat.div_eq_of_lt h]
 have e2:AF k (2 ^ k+s)=AF k s:=by
  clear e1
  induction k generalizing s with
  | zero=>rfl
  | succ k ih =>
   show (2 ^ (k+1)+s) % 2+AF k ((2 ^ (k+1)+s) / 2)=s % 2+AF k (s / 2)
   have ep:2 ^ (k+1)=2 * 2 ^ k:=by rw [Nat.pow_succ,Nat.mul_comm]
   rw [ep] at h ⊢
   have e3:(2 * 2 ^ k+s) / 2=2 ^ k+s / 2:=by lia
   rw [e3,ih (by lia)]
   lia
 have e:AF (k+1) (2 ^ k+s)=AF k s+1:=by rw [Fh,e1,e2]
 have hl:=Ba k s
 rw [e,show k+1 - (AF k s+1)=k - AF k s by lia,Int.pow_succ]
 ac_rfl
def AM (pl:Nat) (t c:Int):Nat->List (Nat × Int)
 | 0=>[(pl,1)]
 | k+1=>(AM pl t c k).flatMap fun q=>[(q.1,q.2 * c),(q.1 ^^^ 2 ^ k,q.2 * t)]
theorem Dl {s k:Nat} (h:s < 2 ^ k):s ^^^ 2 ^ k=2 ^ k+s:=by
 have h1:=G1 s (2 ^ k)
 have h2:s &&& 2 ^ k=0:=by
  apply Nat.eq_of_testBit_eq
  intro i
  rw [Nat.testBit_and,Nat.testBit_two_pow,Nat.zero_testBit]
  by_cases e:k=i
  ·subst e;rw [Nat.testBit_lt_two_pow h];rfl
  ·rw [decide_eq_false e,Bool.and_false]
 lia
theorem Hn (a b c:Nat):a ^^^ b ^^^ c=a ^^^ c ^^^ b:=by rw [Nat.xor_assoc,Nat.xor_comm b c,<- Nat.xor_assoc]
theorem GL (pl:Nat) (t c:Int):∀ k,(AM pl t c k).length=2 ^ k
 | 0=>rfl
 | k+1=>by
  show ((AM pl t c k).flatMap _).length=_
  rw [List.length_flatMap]
  have:((AM pl t c k).map fun q=>[(q.1,q.2 * c),(q.1 ^^^ 2 ^ k,q.2 * t)].length)=List.replicate (2 ^ k) 2:=by
   rw [List.eq_replicate_iff]
   exact ⟨by rw [List.length_map,GL pl t c k],fun b hb=>by obtain ⟨a,_,rfl⟩:=List.mem_map.mp hb;rfl⟩
  rw [this,List.sum_replicate_nat,Nat.pow_succ]
theorem Dc {pl:Nat} {t c:Int}:∀ {k:Nat} {q:Nat × Int},q∈AM pl t c k->q.1 ^^^ pl < 2 ^ k
 | 0,q,h=>by
  have:q=(pl,1):=by simpa [AM] using h
  rw [this];simp
 | k+1,q,h=>by
  obtain ⟨r,hr,hq⟩:=List.mem_flatMap.mp (show q∈(AM pl t c k).flatMap _ from h)
  have ih:=Dc hr
  have ep:2 ^ (k+1)=2 ^ k+2 ^ k:=by rw [Nat.pow_succ];lia
  simp only [List.mem_cons,List.mem_nil_iff,or_false] at hq
  rcases hq with rfl | rfl
  ·show r.1 ^^^ pl < _;lia
  ·show r.1 ^^^ 2 ^ k ^^^ pl < _
   rw [Hn,Dl ih];lia
theorem M0 {a b c:Nat} (h:a ^^^ c=b ^^^ c):a=b:=by
 have:=congrArg (· ^^^ c) h
 simpa [Nat.xor_assoc,Nat.xor_self] using this
theorem GM {pl:Nat} {t c:Int} {k:Nat}:∀ {l:List (Nat × Int)} {r:Nat × Int},(∀ q∈r::l,q.1 ^^^ pl < 2 ^ k)->r.1∉l.map (·.1) ->
 (∀ q∈l.flatMap fun q=>[(q.1,q.2 * c),(q.1 ^^^ 2 ^ k,q.2 * t)],q.1≠r.1)/\∀ q∈(l.flatMap fun q=>[(q.1,q.2 * c),(q.1 ^^^ 2 ^ k,q.2 * t)])++[(r.1,r.2 * c)],q.1≠r.1 ^^^ 2 ^ k:=by
 intro l r hl hn
 have far:∀ a b:Nat,a ^^^ pl < 2 ^ k->b ^^^ pl < 2 ^ k->a ^^^ 2 ^ k≠b:=fun a b ha hb e=>by
  have:a ^^^ 2 ^ k ^^^ pl=b ^^^ pl:=by rw [e]
  rw [Hn,Dl ha] at this
  lia
 have hr:=hl r (List.mem_cons_self ..)
 refine ⟨fun q hq e=>?_,fun q hq e=>?_⟩
 ·obtain ⟨p,hp,h⟩:=List.mem_flatMap.mp hq
  simp only [List.mem_cons,List.mem_nil_iff,or_false] at h
  rcases h with rfl | rfl
  ·exact hn (by rw [<- e];exact List.mem_map_of_mem (f:=(·.1)) (a:=p) hp)
  ·exact far p.1 r.1 (hl p (List.mem_cons_of_mem _ hp)) hr e
 ·rcases List.mem_append.mp hq with hq | hq
  ·obtain ⟨p,hp,h⟩:=List.mem_flatMap.mp hq
   simp only [List.mem_cons,List.mem_nil_iff,or_false] at h
   rcases h with rfl | rfl
   ·exact far r.1 p.1 hr (hl p (List.mem_cons_of_mem _ hp)) e.symm
   ·exact hn (by rw [<- M0 e];exact List.mem_map_of_mem (f:=(·.1)) (a:=p) hp)
  ·obtain rfl:q=(r.1,r.2 * c):=by simpa using hq
   exact far r.1 r.1 hr hr e.symm
theorem EF (pl:Nat) (t c:Int):∀ k,((AM pl t c k).map (·.1)).Nodup
 | 0=>by simp [AM]
 | k+1=>by
  have ih:=EF pl t c k
  have hin:∀ q∈AM pl t c k,q.1 ^^^ pl < 2 ^ k:=fun q hq=>Dc hq
  have ew:AM pl t c (k+1)=(AM pl t c k).flatMap fun q=>[(q.1,q.2 * c),(q.1 ^^^ 2 ^ k,q.2 * t)]:=rfl
  rw [ew]
  generalize AM pl t c k=l at ih hin
  induction l with
  | nil=>simp
  | cons r l ihl =>
   rw [List.map_cons,List.nodup_cons] at ih
   obtain ⟨n1,n2⟩:=GM (t:=t) (c:=c) hin ih.1
   have:=ihl ih.2 (fun q hq=>hin q (List.mem_cons_of_mem _ hq))
   rw [List.flatMap_cons,List.map_append]
   refine List.nodup_append.mpr ⟨?_,this,?_⟩
   ·simp only [List.map_cons,List.map_nil,List.nodup_cons,List.mem_cons,List.mem_nil_iff,or_false,not_false_eq_true,List.nodup_nil,and_true]
    intro e
    exact n2 (r.1,r.2 * c) (List.mem_append_right _ (List.mem_singleton.mpr rfl)) e
   ·intro a ha b hb e
    simp only [List.map_cons,List.map_nil,List.mem_cons,List.mem_nil_iff,or_false] at ha
    obtain ⟨q,hq,rfl⟩:=List.mem_map.mp hb
    rcases ha with rfl | rfl
    ·exact n1 q hq e.symm
    ·exact n2 q (List.mem_append_left _ hq) e.symm
end L2
namespace L2
open PySem PySem.Spec PyProof.Rows PySem.W
open Att (EH GW NQ)
def CdO (a:Addr) (q:Str):HO:=.ext fun h=>h.CodeRec (.ref a) q
def Lam (Pt:Addr) (pos:Pos) (q:Str) (H:Hp):Prop :=
 ∃ ps:Array Value,H Pt=some (.tbl ps)/\TriplesOk ps.toList/\(codeAmong pos ps.toList=none\/∃ c',codeAmong pos ps.toList=some (.ref c')/\H c'=some (CdO c' q))
def Grow (Pt:Addr) (H H':Hp):Prop:=∀ b o,b≠Pt->H b=some o->H' b=some o
theorem Grow.same {Pt:Addr} {H H':Hp} (h:Same H H'):Grow Pt H H':=fun b o _ e=>h b o e
theorem Lam.same {Pt:Addr} {pos:Pos} {q:Str} {H H':Hp} (l:Lam Pt pos q H) (h:Same H H'):Lam Pt pos q H':=by
 obtain ⟨ps,a,b,c⟩:=l
 refine ⟨ps,h _ _ a,b,?_⟩
 rcases c with c | ⟨c',c,d⟩
 ·exact .inl c
 ·exact .inr ⟨c',c,h _ _ d⟩
section
variable {X:Cx} {pins:List (Addr × Obj)} {σ:List (Option V)} {H:Hp} {s:Shared} {h':Heap}
end
section
variable {prog:Program} {w:World} {A:Around} {s:Shared}
end
section
variable {X:Cx} {Pt c:Addr} {e:Expr} {te:TE} {p pos kpos lpos np cp sp:Pos} {x qual:Str} {params:Arguments} {scope:Scope} {kd:Nat} {i:Int} {K:W.Frag}
end
end L2
namespace L2
open PySem
end L2
namespace L2
open PySem PySem.Spec PyProof.Rows
section
variable {X:Cx} {tg oe:Expr} {to:TE} {apos cpos:Pos}
end
def mIn (K:W.Frag) (neg:Bool):R2:=fun x y H Q=>match y with
 | .ref p=>∃ xs,(SqL K H p xs\/SqT K H p xs)/\BW x=true/\xs.all BW=true/\Q (.bl (neg ^^ inV x xs)) H
 | _=>False
section
variable {X:Cx} {K:W.Frag}
theorem kIn (hK:X.K=K:=by rfl):OpR X (compareOp .In) (mIn K false):=by
 subst hK
 intro pins s σ H x y v u Q I rx ry h
 cases y with
 | ref p =>
  obtain ⟨xs,h1,h2,h3,q⟩:=h
  exact K5 pins s σ H x _ v u Q I rx ry ⟨p,xs,rfl,h1,h2,h3,by simpa using q⟩
 | _=>exact False.elim h
end
section
variable {X:Cx} {K:W.Frag}
end
end L2
namespace L2
theorem on1 {α:Type} {P:List α->Prop} (h:∀ a,P [a]):∀ us:List α,us.length=1->P us
 | [a],_=>h a
theorem on2 {α:Type} {P:List α->Prop} (h:∀ a b,P [a,b]):∀ us:List α,us.length=2->P us
 | [a,b],_=>h a b
theorem on3 {α:Type} {P:List α->Prop} (h:∀ a b c,P [a,b,c]):∀ us:List α,us.length=3->P us
 | [a,b,c],_=>h a b c
open PySem in
theorem OL {xs es:List PySem.Expr} {p:Pos} {env:Env}:starEach (.List xs p::es) env=(false,eval (.List xs p) env)::starEach es env:=by rfl
end L2
namespace L2
open PySem
end L2
namespace L2
open PySem PyProof.Rows
section
variable {prog:Program} {w:World} {A:Around} {E:Value->Shared->Prop} {s:Shared}
end
section
variable {X:Cx}
end
abbrev Jo (h:Heap) (z TI TO:Addr) (f0 bb:Value):Prop :=
 h.get? z=some { cls:=.type "zip",dict:=none,data:=.fields #[f0,bb,.bool false,.ref TI,.ref TO],slots:=#[] }
section
variable {prog:Program} {w:World} {A:Around} {E:Value->Shared->Prop} {s:Shared}
end
section
variable {prog:Program} {w:World} {A:Around} {E:Value->Shared->Prop} {s:Shared}
structure ZS (z TI TO i1 i2 l1 l2 T0:Addr) (xs ys:Array Value) (i:Nat) (h:Heap):Prop where
 zp:(i=0/\IsZip h z TI TO .none)\/(0 < i/\(∃ b,Jo h z TI TO (rawInt T0) b)/\∃ a b,IsPair h T0 a b)
 ti:IsPair h TI (.ref i1) (.ref i2)
 to:∃ a b,IsPair h TO a b
 a1:h.IsTupleIter i1 l1 i
 a2:h.IsTupleIter i2 l2 i
 t1:h.IsTuple l1 xs
 t2:h.IsTuple l2 ys
end
section
variable {prog:Program} {w:World} {A:Around} {R:Result->Shared->Prop}
end
section
variable {prog:Program} {w:World} {A:Around} {R:Result->Shared->Prop} {s:Shared}
end
section
variable {prog:Program} {w:World} {A:Around} {E:Value->Shared->Prop} {s:Shared}
end
theorem Inv.many {X:Cx} {pins:List (Addr × Obj)} {σ:St} {H H2:Hp} {s:Shared} {h':Heap} {t':Nat} (I:Inv X pins σ H s) (k:∀ b u,s.heap.get? b=some u->h'.get? b=some u) (sm:∀ b o,H b=some o->H2 b=some o)
 (nw:∀ b o,H2 b=some o->H b=none->s.heap.objs.size<=b/\ObjOk X.prog X.w H2 h' b o):Inv X pins σ H2 { s with heap:=h',toks:=t' }:=by
 refine I.step (g':=s.gens) (d':=s.drawn) (t':=t') (ch:=[]) (fun b hb=>nomatch hb) (fun b u _ _ _ e _=>k b u e) (fun b u _ _ _ e _=>⟨u.slots,k b u e⟩) (fun b u _ e n=>?_) (fun b u _ e=>⟨u,k b u e⟩)
  (fun b xs e=>sm _ _ e) (fun b o u e=>sm _ _ e) (fun b ps e=>⟨#[],by rw [sm _ _ e];simp⟩) (fun m hm=>?_) (fun b u e=>?_) I.bare
 ·cases q:H2 b with
  | none=>rfl
  | some o=>exact absurd (Heap.lt_size e) (Nat.not_lt.mpr (nw b o q n).1)
 ·obtain ⟨u,es,ep,ho,r⟩:=hm
  exact ⟨u,es,ep,k _ u ho,r⟩
 ·cases q:H b with
  | none=>exact (nw b u e q).2
  | some o =>
   have:=sm b o q
   rw [this] at e
   cases e
   exact (I.hok b _ q).stay (fun c v _ q=>k c v q) (fun c q=>sm _ _ q) fun c xs q=>sm _ _ q
theorem HV:∀ ps:List Addr,Vals (ps.map V.ref) (ps.map Value.ref)
 | []=>.nil
 | p::ps=>.cons rfl (HV ps)
section
variable {X:Cx}
end
end L2
namespace L2
open PySem
def ins:Nat->Nat->Nat->Nat
 | 0,b,q=>2 * q+b
 | i+1,b,q=>2 * ins i b (q / 2)+q % 2
theorem D6 (f:Nat->Int) (P:Nat->Bool):∀ N,sumTo f N=(((List.range N).filter (fun p=>P p == false)).map f).sum+(((List.range N).filter (fun p=>P p == true)).map f).sum
 | 0=>rfl
 | N+1=>by
  show sumTo f N+f N=_
  rw [D6 f P N,List.range_succ,List.filter_append,List.filter_append,List.map_append,List.map_append,List.sum_append,List.sum_append]
  cases h:P N <;> simp [h] <;> lia
end L2
namespace L2
open PySem PyProof.Rows
section
variable {prog:Program} {w:World} {A:Around} {E:Value->Shared->Prop} {s:Shared}
end
section
variable {prog:Program} {w:World} {K:Type} [DecidableEq K] {knd:KeyKind prog w K} {A:Around} {R:Result->Shared->Prop}
end
section
variable {prog:Program} {w:World} {K:Type} [DecidableEq K] {knd:KeyKind prog w K} {A:Around} {E:Value->Shared->Prop} {s:Shared}
end
section
variable {X:Cx}
end
section
variable {prog:Program} {w:World} {A:Around} {E:Value->Shared->Prop} {s:Shared}
end
section
variable {prog:Program} {w:World} {A:Around} {E:Value->Shared->Prop} {s:Shared}
end
section
variable {prog:Program} {w:World} {K:Type} [DecidableEq K] {knd:KeyKind prog w K} {A:Around} {R:Result->Shared->Prop}
end
section
variable {prog:Program} {w:World} {K:Type} [DecidableEq K] {knd:KeyKind prog w K} {A:Around} {E:Value->Shared->Prop} {s:Shared}
end
section
variable {X:Cx}
end
section
variable {X:Cx}
end
theorem JJ:∀ {ns:List Int} {us:List Value},IntsAre us ns->Vals (ns.map V.int) us:=by
 intro ns us h
 induction h with
 | nil=>exact .nil
 | cons _ _ _ ih=>exact .cons ⟨_,rfl⟩ ih
section
variable {X:Cx} {K:W.Frag}
end
section
variable {X:Cx} {K:W.Frag} {o e e2:Expr} {to:TE} {t:TA} {apos cpos:Pos}
end
end L2
namespace L2
open PySem PySem.Spec PyProof.Rows
section
variable {X:Cx} {K:W.Frag}
end
end L2
namespace L2
open PySem PyProof.Rows
section
variable {X:Cx}
end
section
variable {X:Cx}
end
section
variable {X:Cx} {K:W.Frag}
end
end L2
namespace HT
open PySem PyProof.Rows
section
variable {prog:Program} {w:World} {A:Around} {E:Value->Shared->Prop} {s:Shared}
end
end HT
namespace L2
open PySem PySem.Spec PyProof.Rows
section
variable {X:Cx} {K:W.Frag} {e sx:Expr} {te ts:TE} {lo hi:Option Expr} {tl th:TO} {pos p2:Pos}
end
end L2
namespace HT
open PySem PyProof.Rows
section
variable {prog:Program} {w:World} {A:Around} {E:Value->Shared->Prop} {s:Shared}
end
end HT
namespace L2
open PySem PySem.Spec PyProof.Rows
section
variable {X:Cx} {K:W.Frag}
end
section
variable {X:Cx} {K:W.Frag}
end
section
variable {X:Cx} {K:W.Frag} {e sx:Expr} {te ts:TE} {lo hi:Option Expr} {tl th:TO} {pos p2:Pos}
end
abbrev BV:=List (List Bool × Addr × V)
abbrev BVr:BV->List (List Bool × Addr × Value)->Prop:=Paired fun p q=>p.1=q.1/\p.2.1=q.2.1/\RelV p.2.2 q.2.2
def dV (P:Program) (w:World) (a:Addr) (kvs:BV):HO:=.ext fun h=>∃ xs o es ep,BVr kvs xs/\h.get? a=some o/\o.ExactDict/\o.data=.dict es ep/\es.toList=xs.map (entryOfKey (tupleKind (MQ P w)))/\(xs.map (·.1)).Nodup/\xs.length<=sizeLine/\(a == sysModules)=false
def KeysV (H:Hp) (kvs:BV):Prop:=∀ q∈kvs,H q.2.1=some (.tup (q.1.map V.bl))
section
variable {P:Program} {w:World} {H:Hp} {h:Heap} {a:Addr}
end
theorem KeysV.same {H H':Hp} {kvs:BV} (h:KeysV H kvs) (s:∀ b ys,H b=some (.tup ys)->H' b=some (.tup ys)):KeysV H' kvs:=fun q hq=>s _ _ (h q hq)
theorem KeysV.upd {P:Program} {w:World} {H:Hp} {kvs k1:BV} {a:Addr} {o:HO} (h:KeysV H kvs) (e:H a=some (dV P w a k1)):KeysV (upd H a o) kvs:=fun q hq=>by
 have:=h q hq
 rw [AI (fun z=>by rw [z,e] at this;exact nomatch Option.some.inj this)]
 exact this
section
variable {X:Cx} {o i e f value:Expr} {pos pos' tpos apos cpos:Pos} {td ty tx tv:TE}
end
section
variable {X:Cx} {P:Program} {w:World} {o i e f:Expr} {pos apos cpos:Pos} {td ty tx:TE}
end
section
variable {prog:Program} {w:World} {A:Around} {E:Value->Shared->Prop} {s:Shared} {d it:Addr} {o:Obj} {es:Array DictEntry} {ep i:Nat}
end
section
variable {X:Cx} {pins:List (Addr × Obj)} {σ:St} {H:Hp} {s:Shared}
theorem BVr.get {kvs:BV} {xs:List (List Bool × Addr × Value)} (r:BVr kvs xs):∀ {i:Nat} {q:List Bool × Addr × V},kvs[i]? = some q->∃ x,xs[i]? = some x/\x.2.1=q.2.1:=by
 induction r with
 | nil=>intro i q e;simp at e
 | @cons a b l1 l2 h t ih =>
  intro i q e
  cases i with
  | zero =>
   simp at e;subst e
   exact ⟨b,by simp,h.2.1.symm⟩
  | succ i =>
   obtain ⟨v,h1,h2⟩:=ih (i:=i) (q:=q) (by simpa using e)
   exact ⟨v,by simpa using h1,h2⟩
end
section
variable {X:Cx} {K:W.Frag}
end
section
variable {X:Cx} {K:W.Frag}
end
open Classical in
noncomputable def OJ (K:W.Frag) (H:Hp) (u:Value):Dv:=if h:∃ d x,RelV x u/\Rep K H d x then h.choose else .non
section
variable {X:Cx} {K:W.Frag} {pins:List (Addr × Obj)} {σ:St} {H:Hp} {s:Shared}
end
structure GFd (H:Hp) (t l:Addr) (N:Nat):Prop where
 at_:∃ (i g c:Int) (ns:List Int),0<=i/\0<=g/\0<=c/\c<=N/\H t=some (.lst [.ref l,.int i,.int g,.int c])/\l≠t/\H l=some (.lst (ns.map V.int))/\ns.length≠0
theorem GFd.same {H H':Hp} {t l:Addr} {N:Nat} (F:GFd H t l N) (h:Same H H'):GFd H' t l N:=by
 obtain ⟨i,g,c,ns,h1,h2,h3,h4,h5,h6,h7,h8⟩:=F.at_
 exact ⟨i,g,c,ns,h1,h2,h3,h4,h _ _ h5,h6,h _ _ h7,h8⟩
theorem GFd.upd {H:Hp} {t l p:Addr} {o:HO} {N:Nat} (F:GFd H t l N) (h:H p=none):GFd (L2.upd H p o) t l N:=F.same (Same.upd h)
inductive Dw where
 | non | bl (b:Bool) | int (i:Int) | str (x:Str) | tup (ds:List Dw) | lst (ds:List Dw) | emp
def Jy (a:Addr) (xs:List V):Heap->Prop:=fun h=>a≠sysModules/\∃ (its:List Value) (n:Nat),Vals xs its/\h.get? a=some { cls:=.type "list",data:=.seq its.toArray n }
mutual
def RepW (K:W.Frag) (H:Hp):Dw->V->Prop
 | .non,v=>v=.non
 | .bl b,v=>v=.bl b
 | .int i,v=>v=.int i
 | .str x,v=>v=.str x
 | .tup ds,v=>∃ a xs,v=.ref a/\SqT K H a xs/\RepsW K H ds xs
 | .lst ds,v=>∃ a xs,v=.ref a/\H a=some (.ext (Jy a xs))/\RepsW K H ds xs
 | .emp,v=>∃ a,v=.ref a/\H a=some (.dK [])
def RepsW (K:W.Frag) (H:Hp):List Dw->List V->Prop
 | [],xs=>xs=[]
 | d::ds,xs=>∃ x r,xs=x::r/\RepW K H d x/\RepsW K H ds r
end
theorem RepsW.length {K:W.Frag} {H:Hp}:∀ {ds:List Dw} {xs:List V},RepsW K H ds xs->ds.length=xs.length
 | [],xs,h=>by unfold RepsW at h;subst h;rfl
 | d::ds,xs,h=>by
  unfold RepsW at h
  obtain ⟨x,r,rfl,_,h⟩:=h
  rw [List.length_cons,List.length_cons,RepsW.length h]
theorem RepsW.get {K:W.Frag} {H:Hp}:∀ {ds:List Dw} {xs:List V} {i:Nat} {d:Dw},RepsW K H ds xs->ds[i]? = some d->∃ x,xs[i]? = some x/\RepW K H d x
 | [],_,_,_,_,e=>by simp at e
 | d::ds,xs,0,_,h,e=>by
  unfold RepsW at h
  obtain ⟨x,r,rfl,h1,_⟩:=h
  simp at e;subst e
  exact ⟨x,rfl,h1⟩
 | d::ds,xs,i+1,_,h,e=>by
  unfold RepsW at h
  obtain ⟨x,r,rfl,_,h⟩:=h
  obtain ⟨y,h1,h2⟩:=RepsW.get (i:=i) h (by simpa using e)
  exact ⟨y,by simpa using h1,h2⟩
mutual
theorem RepW.same {K:W.Frag} {H H':Hp} (s:Same H H'):∀ (d:Dw) (v:V),RepW K H d v->RepW K H' d v
 | .non,v,h=>by unfold RepW at *;exact h
 | .bl b,v,h=>by unfold RepW at *;exact h
 | .int i,v,h=>by unfold RepW at *;exact h
 | .str x,v,h=>by unfold RepW at *;exact h
 | .emp,v,h=>by unfold RepW at *;obtain ⟨a,e,h⟩:=h;exact ⟨a,e,s _ _ h⟩
 | .tup ds,v,h=>by
  unfold RepW at *
  obtain ⟨a,xs,e,h1,h2⟩:=h
  exact ⟨a,xs,e,B0 h1 s,RepsW.same s ds xs h2⟩
 | .lst ds,v,h=>by
  unfold RepW at *
  obtain ⟨a,xs,e,h1,h2⟩:=h
  exact ⟨a,xs,e,s _ _ h1,RepsW.same s ds xs h2⟩
theorem RepsW.same {K:W.Frag} {H H':Hp} (s:Same H H'):∀ (ds:List Dw) (xs:List V),RepsW K H ds xs->RepsW K H' ds xs
 | [],xs,h=>by unfold RepsW at *;exact h
 | d::ds,xs,h=>by
  unfold RepsW at *
  obtain ⟨x,r,e,h1,h2⟩:=h
  exact ⟨x,r,e,RepW.same s d x h1,RepsW.same s ds r h2⟩
end
section
variable {X:Cx} {K:W.Frag} {es:List Expr} {t:TA} {pos:Pos}
end
mutual
def Gm:Dw->Nat
 | .tup ds=>GA ds+1
 | .lst ds=>GA ds+1
 | .emp=>1
 | _=>0
def GA:List Dw->Nat
 | []=>0
 | d::ds=>max (Gm d) (GA ds)
end
mutual
def Ie:Dw->Nat
 | .str x=>x.cps.size
 | .tup ds=>Ec ds
 | .lst ds=>Ec ds
 | _=>0
def Ec:List Dw->Nat
 | []=>0
 | d::ds=>Ie d+1+Ec ds
end
section
variable {X:Cx} {pins:List (Addr × Obj)} {σ:St} {H:Hp} {s:Shared}
end
section
variable {X:Cx} {K:W.Frag}
end
mutual
def okW (n:Nat):Dw->Bool
 | .int i=>decide (i.natAbs<=n)
 | .str x=>x.cps.toList.all fun c=>decide (c < 16 ^ 8)
 | .tup ds=>FS n ds
 | .lst ds=>FS n ds
 | _=>true
def FS (n:Nat):List Dw->Bool
 | []=>true
 | d::ds=>okW n d && FS n ds
end
structure Fit (n D B:Nat) (d:Dw):Prop where
 ok:okW n d=true
 dep:Gm d<=D
 bulk:Ie d<=B
section
variable {X:Cx} {K:W.Frag}
end
def Ris (xs:Array Nat):Prop:=xs.toList.Pairwise (· < ·)
structure TabG (w:World) (t:SetTable):Prop where
 led:t.led = !w.params.followText "set-order"
 ris:Ris t.place
def SetW (P:Program) (w:World) (h:Heap) (a:Addr) (S:Int->Bool) (n:Nat):Prop :=
 ∃ o es ep t,h.get? a=some o/\o.ExactSet/\o.data=.set es ep t/\ElemsOf (intKind P w) es.toList/\(∀ k,S k=true ↔ ∃ e∈es.toList,(intKind P w).is k e.2=true)/\es.size < scanBound/\t.fits es.size=true/\es.size=n/\TabG w t
section
variable {P:Program} {w:World} {A:Around} {E:Value->Shared->Prop} {s:Shared} {a:Addr}
theorem SetW.at {h h':Heap} {S:Int->Bool} {n:Nat} (x:SetW P w h a S n) (k:∀ o,h.get? a=some o->h'.get? a=some o):SetW P w h' a S n:=by
 obtain ⟨o,es,ep,t,h1,r⟩:=x;exact ⟨o,es,ep,t,k _ h1,r⟩
theorem SetW.of {h:Heap} {S:Int->Bool} {n:Nat} (x:SetW P w h a S n):h.SetOf (intKind P w) a S n:=by
 obtain ⟨o,es,ep,t,h1,h2,h3,h4,h5,h6,h7,h8,_⟩:=x;exact ⟨o,es,ep,t,h1,h2,h3,h4,h5,h6,h7,h8⟩
end
section
variable {P:Program} {w:World} {A:Around} {E:Value->Shared->Prop} {s:Shared} {a:Addr}
end
namespace F
end F
def IsSetIter (h:Heap) (I:Addr) (f:Value) (i:Nat) (a:Addr) (n ep:Nat):Prop:=∃ o,h.get? I=some o/\o.cls=.type "set_iterator" /\ o.data=.fields #[f,.int i 0,.ref a,.int n 0,.int ep 0]
theorem IsSetIter.at {h h':Heap} {I a:Addr} {f:Value} {i n ep:Nat} (x:IsSetIter h I f i a n ep) (e:∀ o,h.get? I=some o->h'.get? I=some o):IsSetIter h' I f i a n ep:=let ⟨o,ho,r⟩:=x;⟨o,e _ ho,r⟩
section
variable {P:Program} {w:World} {A:Around} {E:Value->Shared->Prop} {s:Shared} {a I:Addr}
end
section
variable {P:Program} {w:World} {A:Around} {E:Value->Shared->Prop} {s:Shared} {a I:Addr}
end
end L2
namespace L2
open PySem PySem.Spec PyProof.Rows PySem.W PySem.Calls
section
variable {P:Program} {w:World} {A:Around} {E:Value->Shared->Prop} {s:Shared} {a I:Addr}
end
end L2
namespace L2
open PySem PySem.Spec PyProof.Rows
section
variable {X:Cx} {K:W.Frag} {P:Program} {w:World}
variable {C:Addr} {f:Str} {e o value:Expr} {ta tv td ty:TE} {pos pos':Pos}
end
end L2
namespace L2
open PySem PySem.Spec PyProof.Rows PySem.W
end L2
namespace L2
open PySem PySem.Spec PyProof.Rows PySem.W PySem.Calls
section
variable {P:Program} {w:World} {A:Around} {E:Value->Shared->Prop} {s:Shared}
end
end L2
namespace L2
open PySem PySem.Spec PyProof.Rows PySem.W
section
variable {P:Program} {w:World} {A:Around} {E:Value->Shared->Prop} {s:Shared}
end
section
variable {X:Cx}
end
section
variable {X:Cx} {k:Nat} {f:Addr} {fd:FuncData} {ps:List Str} {sp:Sp} {x:Str} {p pos:Pos} {e:Expr} {es:List Expr} {t:TA} {tn:TE}
end
section
variable {X:Cx} {pins:List (Addr × Obj)} {σ:St} {H:Hp} {s:Shared}
end
section
variable {X:Cx} {Pt c f:Addr} {fd:FuncData} {ps:List Str} {k i:Nat} {kn a:Str} {kp pos lpos:Pos} {params:Arguments} {body:Expr} {scope:Scope} {e:Expr} {es:List Expr} {t:TA} {qual:Str} {spK:Addr->Addr->V->Sp}
end
end L2
namespace L2
open PySem PyProof.Rows
section
variable {X:Cx} {K:W.Frag} {o e:Expr} {to:TE} {t:TA} {apos cpos:Pos}
end
end L2
namespace L2
open PySem PySem.Spec PyProof.Rows PySem.SeqAt
section
variable {X:Cx} {K:W.Frag}
end
end L2
namespace L2
open PySem PySem.Spec PyProof.Rows
section
variable {X:Cx} {K:W.Frag}
end
section
variable {X:Cx} {K:W.Frag} {e:Expr} {te:TE} {p pos kpos cp:Pos} {kd:Nat} {i:Int}
end
end L2
namespace L2
open PySem PyProof.Rows
section
variable {X:Cx} {K:W.Frag} {o e:Expr} {to:TE} {t:TA} {apos cpos:Pos}
end
end L2
namespace L2
open PySem PySem.Spec PyProof.Rows
section
variable {X:Cx} {K:W.Frag} {e:Expr} {te:TE} {lo hi:Option Expr} {tl th:TO} {pos p2:Pos}
end
end L2
namespace L2
open PySem
section
variable {X:Cx} {pins:List (Addr × Obj)} {σ:St} {H:Hp} {s:Shared} {a:Addr}
variable {kvs:List (Key × V)} {i:Expr} {pos pos' apos:Pos} {ty:TE} {x:Str} {P:Program} {w:World} {K:W.Frag} {o:Expr} {td:TE}
end
end L2
namespace L2
open PySem Builtin Builtin.Str
section
variable {X:Cx} {a:Addr} {kvs:List (Key × V)} {o e:Expr} {ty to:TE} {t:TA} {apos cpos:Pos} {P:Program} {w:World} {K:W.Frag}
end
end L2
namespace L2
open PySem PyProof.Rows
def gal:Bool->Keyed->Array Keyed->Nat->Nat->Nat->StateT SortSt Sem (Option Nat):=sortPriv% PySem.Builtin.gallop
def mLo:Array Keyed->Array Keyed->StateT SortSt Sem (Array Keyed):=sortPriv% PySem.Builtin.mergeLo
def mHi:Array Keyed->Array Keyed->StateT SortSt Sem (Array Keyed):=sortPriv% PySem.Builtin.mergeHi
section
variable {prog:Program} {w:World} {A:Around} {E:Value->Shared->Prop} {s:Shared}
structure Cmp (prog:Program) (w:World) (A:Around) (E:Value->Shared->Prop) (s:Shared) (kd:SortKind) (El:Keyed->Prop) (κ:Keyed->Int):Prop where
 lt:∀ (x y:Keyed) (st:SortSt) (Q:Option Bool->SortSt->Prop),El x->El y->kindOf st=kd->Q (some (decide (κ x < κ y))) st->wpS (model prog w) A E s (lt' x y) Q st
variable {kd:SortKind} {El:Keyed->Prop} {κ:Keyed->Int}
theorem Ah {arr:Array Keyed} {i:Nat} {x:Keyed} {st:SortSt} {Q:Keyed->SortSt->Prop} (h:arr[i]? = some x) (q:Q x st):wpS (model prog w) A E s (elem' arr i) Q st:=by
 rw [elem'_eq,h]
 exact wpS_pure q
theorem K1 {G:Prop} {β:Type} (P:(Nat->Nat->β)->Prop) (Z:Nat->Nat->β) (h1:P Z->G) (h2:P Z):G:=h1 h2
def byd (κ:Keyed->Int) (left:Bool) (key x:Keyed):Bool:=if left=true then decide (κ x < κ key) else !decide (κ key < κ x)
theorem CM (C:Cmp prog w A E s kd El κ) {left:Bool} {key:Keyed} {arr:Array Keyed} {base n hint:Nat} {st:SortSt} {Q:Option Nat->SortSt->Prop} (hk:kindOf st=kd) (he:El key) (hh:hint < n)
 (f:Nat->Keyed) (hf:∀ i,i < n->arr[base+i]? = some (f i)/\El (f i)) (hs:∀ i j,i<=j->j < n->κ (f i)<=κ (f j))
 (q:∀ k,k<=n->(∀ i,i < k->if left=true then κ (f i) < κ key else ¬ κ key < κ (f i))->(∀ i,k<=i->i < n->¬ (if left=true then κ (f i) < κ key else ¬ κ key < κ (f i)))->Q (some k) st) :
 wpS (model prog w) A E s (gal left key arr base n hint) Q st:=by
 have mono:∀ i j,i<=j->j < n->byd κ left key (f j)=true->byd κ left key (f i)=true:=fun i j h1 h2 h3=>by
  have:=hs i j h1 h2
  unfold byd at *
  cases left
  ·simp only [Bool.false_eq_true,if_false,Bool.not_eq_true',decide_eq_false_iff_not] at *;lia
  ·simp only [if_true,decide_eq_true_eq] at *;lia
 have q':∀ k,k<=n->(∀ i,i < k->byd κ left key (f i)=true)->(∀ i,k<=i->i < n->byd κ left key (f i)=false)->Q (some k) st:=fun k h1 h2 h3=>by
  refine q k h1 (fun i hi=>?_) (fun i h4 h5=>?_)
  ·have:=h2 i hi
   unfold byd at this
   cases left
   ·simpa using this
   ·simpa using this
  ·have:=h3 i h4 h5
   unfold byd at this
   cases left
   ·simpa using this
   ·simpa using this
 have by_ok:∀ i,i < n->∀ Q':Option Bool->SortSt->Prop,Q' (some (byd κ left key (f i))) st->wpS (model prog w) A E s (do let x <- elem' arr (base+i);if left=true then lt' x key else do let r <- lt' key x;pure (r.map (!·))) Q' st:=fun i hi Q' h=>by
  refine wpS_bind (Ah (hf i hi).1 ?_)
  unfold byd at h
  cases left
  ·simp only [Bool.false_eq_true,if_false] at h ⊢
   exact wpS_bind (C.lt _ _ _ _ he (hf i hi).2 hk (wpS_pure h))
  ·simp only [if_true] at h ⊢
   exact C.lt _ _ _ _ (hf i hi).2 he hk h
 clear q
 generalize byd κ left key=B at *
 apply K1 (fun (Z:Nat->Nat->StateT SortSt Sem (Option Nat))=>∀ l r,(∀ i,i < l->B (f i)=true)->(∀ i,r<=i->i < n->B (f i)=false)->l<=r->r<=n->wpS (model prog w) A E s (Z l r) Q st)
 case h1 =>
  intro bin
  delta gal
  refine wpS_bind ?_
  refine by_ok hint hh _ ?_
  dsimp only
  cases hbh:B (f hint)
  ·rw [if_neg (by decide)]
   refine wpS_bind (wpS_mono (wpS_forRange (I:=fun x c st'=>st'=st/\∃ lo of',c=(none,lo,of')/\lo<=hint/\lo < of'/\x < of'/\B (f (hint - lo))=false)
    (Q:=fun c st'=>st'=st/\∃ lo of',c=(none,lo,of')/\lo<=hint/\lo < of'/\B (f (hint - lo))=false/\(of'<=hint->B (f (hint - of'))=true)) ?step ?fin ⟨rfl,0,1,rfl,Nat.zero_le _,by decide,by decide,hbh⟩) ?post)
   case fin =>
    rintro c st' ⟨rfl,lo,of',rfl,h1,h2,h3,h4⟩
    exact ⟨rfl,lo,of',rfl,h1,h2,h4,fun z=>by lia⟩
   case step =>
    rintro x c st' _ hx ⟨rfl,lo,of',rfl,h1,h2,h3,h4⟩
    dsimp only
    by_cases hge:of' ≥ hint+1
    ·rw [if_pos hge]
     exact wpS_pure ⟨rfl,lo,of',rfl,h1,h2,h4,fun z=>by lia⟩
    ·rw [if_neg hge]
     refine wpS_bind (by_ok (hint - of') (by lia) _ ?_)
     dsimp only
     cases hb:B (f (hint - of'))
     ·rw [if_neg (by decide)]
      exact wpS_pure ⟨rfl,of',2 * of'+1,rfl,by lia,by lia,by lia,hb⟩
     ·rw [if_pos rfl]
      exact wpS_pure ⟨rfl,lo,of',rfl,h1,h2,h4,fun _=>hb⟩
   case post =>
    rintro c st' ⟨rfl,lo,of',rfl,h1,h2,h4,h5⟩
    dsimp only
    have a1:∀ i,i < hint+1 - min of' (hint+1)->B (f i)=true:=fun i hi=>mono i (hint - of') (by lia) (by lia) (h5 (by lia))
    have a2:∀ i,hint - lo<=i->i < n->B (f i)=false:=fun i hi hn=>by
     cases hb:B (f i)
     ·rfl
     ·rw [mono _ _ hi hn hb] at h4;cases h4
    have a3:hint+1 - min of' (hint+1)<=hint - lo:=by lia
    have a4:hint - lo<=n:=by lia
    generalize hint+1 - min of' (hint+1)=l0 at *
    generalize hint - lo=r0 at *
    exact bin l0 r0 a1 a2 a3 a4
  ·rw [if_pos rfl]
   refine wpS_bind (wpS_mono (wpS_forRange (I:=fun x c st'=>st'=st/\∃ lo of',c=(none,lo,of')/\hint+lo < n/\lo < of'/\x < of'/\B (f (hint+lo))=true)
    (Q:=fun c st'=>st'=st/\∃ lo of',c=(none,lo,of')/\hint+lo < n/\lo < of'/\B (f (hint+lo))=true/\(hint+of' < n->B (f (hint+of'))=false)) ?step ?fin ⟨rfl,0,1,rfl,by lia,by decide,by decide,hbh⟩) ?post)
   case fin =>
    rintro c st' ⟨rfl,lo,of',rfl,h1,h2,h3,h4⟩
    exact ⟨rfl,lo,of',rfl,h1,h2,h4,fun z=>by lia⟩
   case step =>
    rintro x c st' _ hx ⟨rfl,lo,of',rfl,h1,h2,h3,h4⟩
    dsimp only
    by_cases hge:of' ≥ n - hint
    ·rw [if_pos hge]
     exact wpS_pure ⟨rfl,lo,of',rfl,h1,h2,h4,fun z=>by lia⟩
    ·rw [if_neg hge]
     refine wpS_bind (by_ok (hint+of') (by lia) _ ?_)
     dsimp only
     cases hb:B (f (hint+of'))
     ·rw [if_pos (show (!false)=true from rfl)]
      exact wpS_pure ⟨rfl,lo,of',rfl,h1,h2,h4,fun _=>hb⟩
     ·rw [if_neg (by decide)]
      exact wpS_pure ⟨rfl,of',2 * of'+1,rfl,by lia,by lia,by lia,hb⟩
   case post =>
    rintro c st' ⟨rfl,lo,of',rfl,h1,h2,h4,h5⟩
    dsimp only
    have a1:∀ i,i < hint+lo+1->B (f i)=true:=fun i hi=>mono i (hint+lo) (by lia) (by lia) h4
    have a2:∀ i,hint+min of' (n - hint)<=i->i < n->B (f i)=false:=fun i hi hn=>by
     cases hb:B (f i)
     ·rfl
     ·have:=mono (hint+of') i (by lia) hn hb
      rw [h5 (by lia)] at this;cases this
    have a3:hint+lo+1<=hint+min of' (n - hint):=by lia
    have a4:hint+min of' (n - hint)<=n:=by lia
    generalize hint+lo+1=l0 at *
    generalize hint+min of' (n - hint)=r0 at *
    exact bin l0 r0 a1 a2 a3 a4
 intro l r a1 a2 a3 a4
 refine wpS_bind (wpS_mono (wpS_forRange (I:=fun x c st'=>st'=st/\∃ l r,c=(none,l,r)/\(∀ i,i < l->B (f i)=true)/\(∀ i,r<=i->i < n->B (f i)=false)/\l<=r/\r<=n/\r - l<=n - x)
  (Q:=fun c st'=>st'=st/\∃ l,c=(none,l,l)/\(∀ i,i < l->B (f i)=true)/\(∀ i,l<=i->i < n->B (f i)=false)/\l<=n) ?step ?fin ⟨rfl,l,r,rfl,a1,a2,a3,a4,by lia⟩) ?post)
 case fin =>
  rintro c st' ⟨rfl,l,r,rfl,h1,h2,h3,h4,h5⟩
  have:l=r:=by lia
  subst this
  exact ⟨rfl,l,rfl,h1,h2,h4⟩
 case step =>
  rintro x c st' _ hx ⟨rfl,l,r,rfl,h1,h2,h3,h4,h5⟩
  dsimp only
  by_cases hge:l ≥ r
  ·rw [if_pos hge]
   have:l=r:=by lia
   subst this
   exact wpS_pure ⟨rfl,l,rfl,h1,h2,h4⟩
  ·rw [if_neg hge]
   refine wpS_bind (by_ok (l+(r - l) / 2) (by lia) _ ?_)
   dsimp only
   cases hb:B (f (l+(r - l) / 2))
   ·rw [if_neg (by decide)]
    refine wpS_pure ⟨rfl,l,l+(r - l) / 2,rfl,h1,fun i hi hn=>?_,by lia,by lia,by lia⟩
    cases hb2:B (f i)
    ·rfl
    ·rw [mono _ _ hi hn hb2] at hb;cases hb
   ·rw [if_pos rfl]
    exact wpS_pure ⟨rfl,l+(r - l) / 2+1,r,rfl,fun i hi=>mono i _ (by lia) (by lia) hb,h2,by lia,h4,by lia⟩
 case post =>
  rintro c st' ⟨rfl,l,rfl,h1,h2,h4⟩
  dsimp only
  exact wpS_pure (q' l h4 h1 h2)
end
section
variable {κ:Keyed->Int}
def Srt (κ:Keyed->Int) (l:List Keyed):Prop:=l.Pairwise fun x y=>κ x<=κ y
structure Mg (κ:Keyed->Int) (la lb o:List Keyed) (i j:Nat):Prop where
 il:i<=la.length
 jl:j<=lb.length
 perm:(o++(la.drop i++lb.drop j)).Perm (la++lb)
 srt:Srt κ o
 le:∀ x∈o,∀ y∈la.drop i++lb.drop j,κ x<=κ y
variable {la lb o:List Keyed} {i j n:Nat}
theorem BE {a b:List Keyed} (h1:Srt κ a) (h2:Srt κ b) (h:∀ x∈a,∀ y∈b,κ x<=κ y):Srt κ (a++b):=List.pairwise_append.mpr ⟨h1,h2,h⟩
theorem Mg.a (m:Mg κ la lb o i j) (ha:Srt κ la) (hn:i+n<=la.length) (h:∀ x∈(la.drop i).take n,∀ y∈lb.drop j,κ x<=κ y):Mg κ la lb (o++(la.drop i).take n) (i+n) j:=by
 have hd:la.drop i=(la.drop i).take n++la.drop (i+n):=by
  rw [<- List.drop_drop,List.take_append_drop]
 have hs:Srt κ (la.drop i):=List.Pairwise.sublist (List.drop_sublist _ _) ha
 have hs2:=hs
 rw [hd] at hs2
 obtain ⟨s1,s2,s3⟩:=List.pairwise_append.mp hs2
 refine ⟨hn,m.jl,?_,BE m.srt s1 fun x hx y hy=>m.le x hx y (List.mem_append_left _ (List.mem_of_mem_take hy)),fun x hx y hy=>?_⟩
 ·have:=m.perm
  rw [hd] at this
  rw [List.append_assoc]
  rw [List.append_assoc] at this
  exact this
 ·rcases List.mem_append.mp hx with hx | hx
  ·refine m.le x hx y ?_
   rcases List.mem_append.mp hy with hy | hy
   ·rw [hd];exact List.mem_append_left _ (List.mem_append_right _ hy)
   ·exact List.mem_append_right _ hy
  ·rcases List.mem_append.mp hy with hy | hy
   ·exact s3 x hx y hy
   ·exact h x hx y hy
theorem Mg.b (m:Mg κ la lb o i j) (hb:Srt κ lb) (hn:j+n<=lb.length) (h:∀ x∈(lb.drop j).take n,∀ y∈la.drop i,κ x<=κ y):Mg κ la lb (o++(lb.drop j).take n) i (j+n):=by
 have hd:lb.drop j=(lb.drop j).take n++lb.drop (j+n):=by
  rw [<- List.drop_drop,List.take_append_drop]
 have hs2:Srt κ (lb.drop j):=List.Pairwise.sublist (List.drop_sublist _ _) hb
 rw [hd] at hs2
 obtain ⟨s1,s2,s3⟩:=List.pairwise_append.mp hs2
 refine ⟨m.il,hn,?_,BE m.srt s1 fun x hx y hy=>m.le x hx y (List.mem_append_right _ (List.mem_of_mem_take hy)),fun x hx y hy=>?_⟩
 ·have h1:=m.perm
  rw [hd] at h1
  refine List.Perm.trans ?_ h1
  rw [List.append_assoc]
  refine List.Perm.append_left _ ?_
  rw [<- List.append_assoc,<- List.append_assoc]
  exact List.Perm.append_right _ List.perm_append_comm
 ·rcases List.mem_append.mp hx with hx | hx
  ·refine m.le x hx y ?_
   rcases List.mem_append.mp hy with hy | hy
   ·exact List.mem_append_left _ hy
   ·rw [hd];exact List.mem_append_right _ (List.mem_append_right _ hy)
  ·rcases List.mem_append.mp hy with hy | hy
   ·exact h x hx y hy
   ·exact s3 x hx y hy
theorem Mg.end (m:Mg κ la lb o i j) (ha:Srt κ la) (h:lb.length<=j):(o++la.drop i++lb.drop j).Perm (la++lb)/\Srt κ (o++la.drop i++lb.drop j):=by
 have e:lb.drop j=[]:=List.drop_eq_nil_of_le h
 have h1:=m.perm
 rw [e,List.append_nil] at *
 exact ⟨h1,BE m.srt (List.Pairwise.sublist (List.drop_sublist _ _) ha) fun x hx y hy=>m.le x hx y (List.mem_append_left _ hy)⟩
theorem Mg.end2 (m:Mg κ la lb o i j) (ha:Srt κ la) (hb:Srt κ lb) (h:∀ x∈lb.drop j,∀ y∈la.drop i,κ x<=κ y):(o++lb.drop j++la.drop i).Perm (la++lb)/\Srt κ (o++lb.drop j++la.drop i):=by
 refine ⟨?_,?_⟩
 ·refine List.Perm.trans ?_ m.perm
  rw [List.append_assoc]
  exact List.Perm.append_left _ List.perm_append_comm
 ·rw [List.append_assoc]
  refine BE m.srt (BE (List.Pairwise.sublist (List.drop_sublist _ _) hb) (List.Pairwise.sublist (List.drop_sublist _ _) ha) h) fun x hx y hy=>m.le x hx y ?_
  rcases List.mem_append.mp hy with hy | hy
  ·exact List.mem_append_right _ hy
  ·exact List.mem_append_left _ hy
theorem Mg.start (ha:Srt κ la) (hb:Srt κ lb):Mg κ la lb [] 0 0:=⟨Nat.zero_le _,Nat.zero_le _,List.Perm.refl _,List.Pairwise.nil,fun x hx=>by cases hx⟩
end
structure Sg (st st':SortSt):Prop where
 k:kindOf st'=kindOf st
 a:arrOf st'=arrOf st
 p:pendingOf st'=pendingOf st
 f:failedOf st'=failedOf st
theorem Sg.refl {st:SortSt}:Sg st st:=⟨rfl,rfl,rfl,rfl⟩
theorem Sg.trans {a b c:SortSt} (x:Sg a b) (y:Sg b c):Sg a c:=⟨y.k.trans x.k,y.a.trans x.a,y.p.trans x.p,y.f.trans x.f⟩
section
variable {prog:Program} {w:World} {A:Around} {E:Value->Shared->Prop} {s:Shared} {kd:SortKind} {El:Keyed->Prop} {κ:Keyed->Int}
theorem Ac {xs:Array Keyed} {i:Nat} (h:i < xs.toList.length):xs[i]? = some (xs.toList[i]):=by
 rw [<- Array.getElem?_toList,List.getElem?_eq_getElem h]
theorem Gz {M:Model} {α:Type} {m:StateT SortSt Sem α} {R:α->SortSt->Prop} {st:SortSt} {φ:Type} (P:φ->(α->SortSt->Prop)->SortSt->Prop) (Z:φ) (h1:P Z R st->wpS M A E s m R st) (h2:P Z R st):wpS M A E s m R st:=h1 h2
theorem FQ {xs:Array Keyed} (i k:Nat):(xs.extract i (i+k)).toList=(xs.toList.drop i).take k:=by
 rw [Array.toList_extract,List.extract_eq_take_drop,Nat.add_sub_cancel_left]
theorem D2 {xs:Array Keyed} (i:Nat):(xs.extract i xs.size).toList=xs.toList.drop i:=by
 rw [Array.toList_extract,List.extract_eq_take_drop,List.take_of_length_le (by rw [List.length_drop,Array.length_toList];lia)]
theorem BY {l:List Keyed} {i:Nat} (h:i < l.length):(l.drop i).take 1=[l[i]]:=by
 rw [List.drop_eq_getElem_cons h]
 rfl
theorem Bh {l:List Keyed} {i:Nat} {x:Keyed} (h:x∈l.drop i):∃ t,∃ ht:i+t < l.length,x=l[i+t]:=by
 obtain ⟨t,ht,rfl⟩:=List.getElem_of_mem h
 rw [List.length_drop] at ht
 exact ⟨t,by lia,by rw [List.getElem_drop]⟩
theorem Fu {l:List Keyed} {i n:Nat} {x:Keyed} (h:x∈(l.drop i).take n):∃ t,t < n/\∃ ht:i+t < l.length,x=l[i+t]:=by
 obtain ⟨t,ht,rfl⟩:=List.getElem_of_mem h
 rw [List.length_take,List.length_drop] at ht
 exact ⟨t,by lia,by lia,by rw [List.getElem_take,List.getElem_drop]⟩
theorem Au {l:List Keyed} (h:Srt κ l) {i j:Nat} (hij:i<=j) (hj:j < l.length):κ (l[i]'(by lia))<=κ l[j]:=by
 rcases Nat.eq_or_lt_of_le hij with e | e
 ·subst e;exact Int.le_refl _
 ·exact List.pairwise_iff_getElem.mp h i j (by lia) hj e
theorem Mf (C:Cmp prog w A E s kd El κ) {a b:Array Keyed} {st:SortSt} {Q:Array Keyed->SortSt->Prop} (hk:kindOf st=kd) (ha:Srt κ a.toList) (hb:Srt κ b.toList) (hea:∀ x∈a.toList,El x) (heb:∀ x∈b.toList,El x)
 (la1:0 < a.toList.length) (lb1:0 < b.toList.length) (h0:κ b.toList[0] < κ a.toList[0]) (hl:∀ x∈b.toList,κ x < κ (a.toList[a.toList.length - 1]))
 (q:∀ (o:Array Keyed) st',Sg st st'->o.toList.Perm (a.toList++b.toList)->Srt κ o.toList->Q o st'):wpS (model prog w) A E s (mLo a b) Q st:=by
 have m0:=Mg.start ha hb
 have m1:=m0.b (n:=1) hb (by lia) (fun x hx y hy=>by
  have:x=b.toList[0]:=by
   rw [List.drop_zero,List.take_one] at hx
   simpa [List.head?_eq_getElem?,List.getElem?_eq_getElem lb1] using hx
  subst this
  rw [List.drop_zero] at hy
  obtain ⟨i,hi,rfl⟩:=List.getElem_of_mem hy
  rcases Nat.eq_zero_or_pos i with z | z
  ·subst z;lia
  ·have:=List.pairwise_iff_getElem.mp ha 0 i (by lia) hi z
   lia)
 have sa:a.size=a.toList.length:=Array.length_toList.symm
 have sb:b.size=b.toList.length:=Array.length_toList.symm
 have fd:∀ (o:Array Keyed) i j st',Sg st st'->Mg κ a.toList b.toList o.toList i j->(b.toList.length<=j\/a.toList.length<=i)->Q (o++a.extract i a.size++b.extract j b.size) st':=fun o i j st' hs m hj=>by
  have e:(o++a.extract i a.size++b.extract j b.size).toList=o.toList++a.toList.drop i++b.toList.drop j:=by
   rw [Array.toList_append,Array.toList_append,D2,D2]
  rcases hj with hj | hj
  ·obtain ⟨h1,h2⟩:=m.end ha hj
   exact q _ st' hs (by rw [e];exact h1) (by rw [e];exact h2)
  ·have e0:a.toList.drop i=[]:=List.drop_eq_nil_of_le hj
   obtain ⟨h1,h2⟩:=m.end2 ha hb (by rw [e0];intro x _ y hy;cases hy)
   rw [e0,List.append_nil] at h1 h2
   exact q _ st' hs (by rw [e,e0,List.append_nil];exact h1) (by rw [e,e0,List.append_nil];exact h2)
 have fl:∀ (o:Array Keyed) i j st',Sg st st'->Mg κ a.toList b.toList o.toList i j->i+1=a.toList.length->Q (o++b.extract j b.size++a.extract i a.size) st':=fun o i j st' hs m hi=>by
  obtain ⟨h1,h2⟩:=m.end2 ha hb (fun x hx y hy=>by
   obtain ⟨t,ht,rfl⟩:=Bh hy
   have h3:=hl x (List.mem_of_mem_drop hx)
   have:i+t=a.toList.length - 1:=by lia
   simp only [this]
   lia)
  have e:(o++b.extract j b.size++a.extract i a.size).toList=o.toList++b.toList.drop j++a.toList.drop i:=by
   rw [Array.toList_append,Array.toList_append,D2,D2]
  exact q _ st' hs (by rw [e];exact h1) (by rw [e];exact h2)
 clear q
 delta mLo
 refine wpS_bind (wpS_lift (wpAny_rule ⟨rfl,?_⟩))
 dsimp only
 refine wpS_bind (Ah (Ac lb1) ?_)
 have m1':Mg κ a.toList b.toList (#[b.toList[0]]:Array Keyed).toList 0 1:=by
  have:=m1
  rw [BY lb1] at this
  exact this
 by_cases c1:1=b.size
 ·rw [if_pos (by simpa using c1)]
  exact wpS_pure (fd _ 0 1 st Sg.refl m1' (.inl (by lia)))
 rw [if_neg (by simpa using c1)]
 by_cases c2:0+1=a.size
 ·rw [if_pos (by simpa using c2)]
  exact wpS_pure (fl _ 0 1 st Sg.refl m1' (by lia))
 rw [if_neg (by simpa using c2)]
 refine wpS_bind (wpS_get ?_)
 refine wpS_bind (wpS_mono (wpS_forRange (I:=fun x c st'=>Sg st st'/\∃ o i j mg,c=(none,o,i,j,mg)/\Mg κ a.toList b.toList o.toList i j/\i+1 < a.toList.length/\j < b.toList.length/\x < i+j)
  (Q:=fun c st'=>∃ r,c.1=some r/\Q r st') ?step ?fin ⟨Sg.refl,_,0,1,_,rfl,m1',by lia,by lia,by lia⟩) ?post)
 case fin =>
  rintro c st' ⟨hs,o,i,j,mg,rfl,m,h1,h2,h3⟩
  lia
 case post =>
  rintro ⟨r,o,i,j,mg⟩ st' ⟨r',e,h⟩
  cases e
  exact wpS_pure h
 case step =>
  rintro X c st1 _ hX ⟨hs1,o,i,j,mg,rfl,m,h1,h2,h3⟩
  dsimp only
  refine wpS_bind (wpS_mono (wpS_forRange (I:=fun x c st2=>st2=st1/\∃ o' i' j' ac bc,c=(none,o',i',j',ac,bc)/\Mg κ a.toList b.toList o'.toList i' j'/\i'+1 < a.toList.length/\j' < b.toList.length/\i+j+x<=i'+j')
   (Q:=fun c st2=>st2=st1/\((∃ r,c.1=some r/\Q r st1)\/∃ o' i' j' ac bc,c=(none,o',i',j',ac,bc)/\Mg κ a.toList b.toList o'.toList i' j'/\i'+1 < a.toList.length/\j' < b.toList.length/\i+j+1<=i'+j')) ?istep ?ifin ⟨rfl,o,i,j,0,0,rfl,m,h1,h2,Nat.le_refl _⟩) ?ipost)
  case ifin =>
   rintro c st2 ⟨rfl,o',i',j',ac,bc,rfl,m',h1',h2',h3'⟩
   exact ⟨rfl,.inr ⟨o',i',j',ac,bc,rfl,m',h1',h2',by lia⟩⟩
  case istep =>
   rintro x c st2 _ hx ⟨rfl,o',i',j',ac,bc,rfl,m',h1',h2',h3'⟩
   dsimp only
   have hi':i' < a.toList.length:=by lia
   refine wpS_bind (Ah (Ac h2') (wpS_bind (Ah (Ac hi') ?_)))
   refine wpS_bind (C.lt _ _ _ _ (heb _ (List.getElem_mem h2')) (hea _ (List.getElem_mem hi')) (hs1.k.trans hk) ?_)
   dsimp only
   by_cases hw:κ b.toList[j'] < κ a.toList[i']
   ·rw [if_pos (decide_eq_true hw)]
    have m2:=m'.b (n:=1) hb (by lia) (fun x hx y hy=>by
     rw [BY h2',List.mem_singleton] at hx
     subst hx
     obtain ⟨t,ht,rfl⟩:=Bh hy
     have:=Au ha (show i'<=i'+t by lia) ht
     lia)
    rw [BY h2',<- Array.toList_push] at m2
    refine wpS_bind (Ah (Ac h2') ?_)
    by_cases c3:j'+1=b.size
    ·rw [if_pos (by simpa using c3)]
     exact wpS_pure ⟨rfl,.inl ⟨_,rfl,fd _ _ _ _ hs1 m2 (.inl (by lia))⟩⟩
    ·rw [if_neg (by simpa using c3)]
     by_cases c4:bc+1 ≥ mg
     ·rw [if_pos c4]
      exact wpS_pure ⟨rfl,.inr ⟨_,_,_,_,_,rfl,m2,h1',by lia,by lia⟩⟩
     ·rw [if_neg c4]
      exact wpS_pure ⟨rfl,_,_,_,_,_,rfl,m2,h1',by lia,by lia⟩
   ·rw [if_neg (fun z=>hw (of_decide_eq_true z))]
    have m2:=m'.a (n:=1) ha (by lia) (fun x hx y hy=>by
     rw [BY hi',List.mem_singleton] at hx
     subst hx
     obtain ⟨t,ht,rfl⟩:=Bh hy
     have:=Au hb (show j'<=j'+t by lia) ht
     lia)
    rw [BY hi',<- Array.toList_push] at m2
    refine wpS_bind (Ah (Ac hi') ?_)
    by_cases c3:i'+1+1=a.size
    ·rw [if_pos (by simpa using c3)]
     exact wpS_pure ⟨rfl,.inl ⟨_,rfl,fl _ _ _ _ hs1 m2 (by lia)⟩⟩
    ·rw [if_neg (by simpa using c3)]
     by_cases c4:ac+1 ≥ mg
     ·rw [if_pos c4]
      exact wpS_pure ⟨rfl,.inr ⟨_,_,_,_,_,rfl,m2,by lia,h2',by lia⟩⟩
     ·rw [if_neg c4]
      exact wpS_pure ⟨rfl,_,_,_,_,_,rfl,m2,by lia,h2',by lia⟩
  case ipost =>
   rintro ⟨r,o1,i1,j1,ac1,bc1⟩ st2 ⟨rfl,⟨r',e,h⟩ | ⟨o',i',j',ac,bc,e,m',h1',h2',h3'⟩⟩
   ·cases e
    exact wpS_pure ⟨_,rfl,h⟩
   cases e
   dsimp only
   refine wpS_bind (wpS_lift (wpAny_rule ⟨rfl,?_⟩))
   refine wpS_bind (wpS_mono (wpS_forRange (I:=fun x c st3=>Sg st st3/\∃ o' i' j' mg ac bc,c=(none,o',i',j',mg,ac,bc)/\Mg κ a.toList b.toList o'.toList i' j'/\i'+1 < a.toList.length/\j' < b.toList.length/\i+j+1<=i'+j')
    (Q:=fun c st3=>Sg st st3/\((∃ r,c.1=some r/\Q r st3)\/∃ o' i' j' mg ac bc,c=(none,o',i',j',mg,ac,bc)/\Mg κ a.toList b.toList o'.toList i' j'/\i'+1 < a.toList.length/\j' < b.toList.length/\i+j+1<=i'+j')) ?gstep ?gfin ⟨hs1,_,_,_,_,_,_,rfl,m',h1',h2',h3'⟩) ?gpost)
   case gfin =>
    rintro c st3 ⟨hs3,h⟩
    exact ⟨hs3,.inr h⟩
   case gpost =>
    rintro ⟨r,o2,i2,j2,mg2,ac2,bc2⟩ st3 ⟨hs3,⟨r',e,h⟩ | ⟨o',i',j',mg',ac,bc,e,m',h1',h2',h3'⟩⟩
    ·cases e
     exact wpS_pure ⟨_,rfl,h⟩
    cases e
    dsimp only
    refine wpS_bind (wpS_modify (wpS_pure ⟨hs3.trans ⟨rfl,rfl,rfl,rfl⟩,_,_,_,_,rfl,m',h1',h2',by lia⟩))
   case gstep =>
    clear m' h1' h2' h3'
    rintro x c st3 _ hx ⟨hs3,o',i',j',mg',ac,bc,rfl,m',h1',h2',h3'⟩
    dsimp only
    have hi':i' < a.toList.length:=by lia
    apply Gz (fun (Z:Nat->StateT SortSt Sem (ForInStep (Option (Array Keyed) × Array Keyed × Nat × Nat × Nat × Nat × Nat))) R st4=>∀ m,wpS (model prog w) A E s (Z m) R st4)
    case h1 =>
     intro zz
     by_cases hm:mg' > 1
     ·rw [if_pos hm]
      generalize mg' - 1=m2
      exact zz m2
     ·rw [if_neg hm]
      generalize mg'=m2
      exact zz m2
    case h2 =>
     intro m2
     refine wpS_bind (wpS_modify ?_)
     have hs4:=hs3.trans (⟨rfl,rfl,rfl,rfl⟩:Sg st3 (SortSt.mk' (kindOf st3) (arrOf st3) (pendingOf st3) m2 (failedOf st3)))
     refine wpS_bind (Ah (Ac h2') ?_)
     have fa:∀ t,t < a.size - i'->∃ ht:i'+t < a.toList.length,a.toList.getD (i'+t) a.toList[i']=a.toList[i'+t]:=fun t ht=>⟨by lia,by rw [List.getD_eq_getElem?_getD,List.getElem?_eq_getElem (by lia)];rfl⟩
     refine wpS_bind (CM C (hs4.k.trans hk) (heb _ (List.getElem_mem h2')) (by lia) (fun t=>a.toList.getD (i'+t) a.toList[i']) (fun t ht=>?_) (fun t t' h h'=>?_) fun k hkn hk1 hk2=>?_)
     ·obtain ⟨h5,h6⟩:=fa t ht
      rw [h6]
      exact ⟨Ac h5,hea _ (List.getElem_mem h5)⟩
     ·obtain ⟨h5,h6⟩:=fa t (by lia)
      obtain ⟨h7,h8⟩:=fa t' h'
      rw [h6,h8]
      exact Au ha (by lia) h7
     dsimp only
     simp only [Bool.false_eq_true,if_false,Decidable.not_not] at hk1 hk2
     have hlast:=hl _ (List.getElem_mem h2')
     have hkn':k < a.size - i':=by
      rcases Nat.lt_or_ge k (a.size - i') with z | z
      ·exact z
      ·have h5:=hk1 (a.size - i' - 1) (by lia)
       obtain ⟨h6,h7⟩:=fa (a.size - i' - 1) (by lia)
       rw [h7] at h5
       have e:i'+(a.size - i' - 1)=a.toList.length - 1:=by lia
       simp only [e] at h5
       lia
     have mk:=m'.a (n:=k) ha (by lia) (fun x hx y hy=>by
      obtain ⟨t,ht,h5,rfl⟩:=Fu hx
      obtain ⟨t',h6,rfl⟩:=Bh hy
      have h7:=hk1 t ht
      obtain ⟨h8,h9⟩:=fa t (by lia)
      rw [h9] at h7
      have:=Au hb (show j'<=j'+t' by lia) h6
      lia)
     have hnx:∃ h9:i'+k < a.toList.length,κ b.toList[j'] < κ a.toList[i'+k]:=by
      obtain ⟨h8,h9⟩:=fa k hkn'
      have h7:=hk2 k (Nat.le_refl _) hkn'
      rw [h9] at h7
      exact ⟨h8,h7⟩
     have hdr0:∀ y∈a.toList.drop (i'+k),κ b.toList[j']<=κ y:=fun y hy=>by
      obtain ⟨t,ht,rfl⟩:=Bh hy
      obtain ⟨h8,h9⟩:=hnx
      have:=Au ha (show i'+k<=i'+k+t by lia) ht
      lia
     obtain ⟨o2,i2,hc,mo2,hi2,hdr,hii⟩:∃ (o2:Array Keyed) (i2:Nat),((k > 0/\o'++a.extract i' (i'+k)=o2/\i'+k=i2)\/(¬ k > 0/\o'=o2/\i'=i2))/\Mg κ a.toList b.toList o2.toList i2 j'/\(i2+1 < a.toList.length\/k > 0/\i2+1=a.toList.length)/\(∀ y∈a.toList.drop i2,κ b.toList[j']<=κ y)/\i'<=i2:=by
      by_cases k0:k > 0
      ·rw [<- FQ,<- Array.toList_append] at mk
       exact ⟨_,_,.inl ⟨k0,rfl,rfl⟩,mk,by lia,hdr0,by lia⟩
      ·have e0:k=0:=by lia
       rw [e0,Nat.add_zero] at hdr0
       exact ⟨_,_,.inr ⟨k0,rfl,rfl⟩,m',.inl h1',hdr0,Nat.le_refl _⟩
     rcases hc with ⟨k0,e1,e2⟩ | ⟨k0,e1,e2⟩
     case' inl =>
      rw [if_pos k0,e1,e2]
      by_cases c5:i2+1=a.size
      ·rw [if_pos (by simpa using c5)]
       exact wpS_pure ⟨hs4,.inl ⟨_,rfl,fl _ _ _ _ hs4 mo2 (by lia)⟩⟩
      rw [if_neg (by simpa using c5),if_neg (by simp;lia)]
      replace hi2:i2+1 < a.toList.length:=by lia
     case' inr =>
      rw [if_neg k0,e1,e2]
      replace hi2:i2+1 < a.toList.length:=by lia
     all_goals
      clear hdr0 e1 e2 k0 mk hnx
      have hi2':i2 < a.toList.length:=by lia
      refine wpS_bind (Ah (Ac h2') ?_)
      have m3:=mo2.b (n:=1) hb (by lia) (fun x hx y hy=>by
       rw [BY h2',List.mem_singleton] at hx
       subst hx
       exact hdr y hy)
      rw [BY h2',<- Array.toList_push] at m3
      by_cases c6:j'+1=b.size
      ·rw [if_pos (by simpa using c6)]
       exact wpS_pure ⟨hs4,.inl ⟨_,rfl,fd _ _ _ _ hs4 m3 (.inl (by lia))⟩⟩
      rw [if_neg (by simpa using c6)]
      refine wpS_bind (Ah (Ac hi2') ?_)
      have hj1:j'+1 < b.toList.length:=by lia
      have fb:∀ t,t < b.size - (j'+1)->∃ ht:j'+1+t < b.toList.length,b.toList.getD (j'+1+t) b.toList[j']=b.toList[j'+1+t]:=fun t ht=>⟨by lia,by rw [List.getD_eq_getElem?_getD,List.getElem?_eq_getElem (by lia)];rfl⟩
      refine wpS_bind (CM C (hs4.k.trans hk) (hea _ (List.getElem_mem hi2')) (by lia) (fun t=>b.toList.getD (j'+1+t) b.toList[j']) (fun t ht=>?_) (fun t t' h h'=>?_) fun k2 hkn2 hk3 hk4=>?_)
      ·obtain ⟨h5,h6⟩:=fb t ht
       rw [h6]
       exact ⟨Ac h5,heb _ (List.getElem_mem h5)⟩
      ·obtain ⟨h5,h6⟩:=fb t (by lia)
       obtain ⟨h7,h8⟩:=fb t' h'
       rw [h6,h8]
       exact Au hb (by lia) h7
      dsimp only
      simp only [if_true] at hk3 hk4
      have mk2:=m3.b (n:=k2) hb (by lia) (fun x hx y hy=>by
       obtain ⟨t,ht,h5,rfl⟩:=Fu hx
       obtain ⟨t',h6,rfl⟩:=Bh hy
       have h7:=hk3 t ht
       obtain ⟨h8,h9⟩:=fb t (by lia)
       rw [h9] at h7
       have:=Au ha (show i2<=i2+t' by lia) h6
       lia)
      have hdb:∀ y∈b.toList.drop (j'+1+k2),κ a.toList[i2]<=κ y:=fun y hy=>by
       obtain ⟨t,ht,rfl⟩:=Bh hy
       obtain ⟨h8,h9⟩:=fb (k2+t) (by lia)
       have h7:=hk4 (k2+t) (by lia) (by lia)
       rw [h9] at h7
       have e:j'+1+(k2+t)=j'+1+k2+t:=by lia
       simp only [e] at h7
       lia
      obtain ⟨o3,j3,hc,mo3,hj3,hdb',hjj⟩:∃ (o3:Array Keyed) (j3:Nat),((k2 > 0/\o2.push b.toList[j']++b.extract (j'+1) (j'+1+k2)=o3/\j'+1+k2=j3)\/(¬ k2 > 0/\o2.push b.toList[j']=o3/\j'+1=j3))/\Mg κ a.toList b.toList o3.toList i2 j3/\(j3 < b.toList.length\/k2 > 0/\j3=b.toList.length)/\(∀ y∈b.toList.drop j3,κ a.toList[i2]<=κ y)/\j'+1<=j3:=by
       by_cases k0:k2 > 0
       ·rw [<- FQ,<- Array.toList_append] at mk2
        exact ⟨_,_,.inl ⟨k0,rfl,rfl⟩,mk2,by lia,hdb,by lia⟩
       ·have e0:k2=0:=by lia
        rw [e0,Nat.add_zero] at hdb
        exact ⟨_,_,.inr ⟨k0,rfl,rfl⟩,m3,.inl hj1,hdb,Nat.le_refl _⟩
      rcases hc with ⟨k0,e1,e2⟩ | ⟨k0,e1,e2⟩
      case' inl =>
       rw [if_pos k0,e1,e2]
       by_cases c7:j3=b.size
       ·rw [if_pos (by simpa using c7)]
        exact wpS_pure ⟨hs4,.inl ⟨_,rfl,fd _ _ _ _ hs4 mo3 (.inl (by lia))⟩⟩
       rw [if_neg (by simpa using c7)]
       replace hj3:j3 < b.toList.length:=by lia
      case' inr =>
       rw [if_neg k0,e1,e2]
       replace hj3:j3 < b.toList.length:=by lia
      all_goals
       refine wpS_bind (Ah (Ac hi2') ?_)
       have m4:=mo3.a (n:=1) ha (by lia) (fun x hx y hy=>by
        rw [BY hi2',List.mem_singleton] at hx
        subst hx
        exact hdb' y hy)
       rw [BY hi2',<- Array.toList_push] at m4
       by_cases c8:i2+1+1=a.size
       ·rw [if_pos (by simpa using c8)]
        exact wpS_pure ⟨hs4,.inl ⟨_,rfl,fl _ _ _ _ hs4 m4 (by lia)⟩⟩
       rw [if_neg (by simpa using c8)]
       by_cases c9:(decide (k < 7) && decide (k2 < 7))=true
       ·rw [if_pos c9]
        exact wpS_pure ⟨hs4,.inr ⟨_,_,_,_,_,_,rfl,m4,by lia,hj3,by lia⟩⟩
       ·rw [if_neg c9]
        exact wpS_pure ⟨hs4,_,_,_,_,_,_,rfl,m4,by lia,hj3,by lia⟩
end
section
variable {κ:Keyed->Int}
structure Hg (κ:Keyed->Int) (la lb o:List Keyed) (na nb:Nat):Prop where
 il:na<=la.length
 jl:nb<=lb.length
 perm:(la.take na++lb.take nb++o.reverse).Perm (la++lb)
 srt:Srt κ o.reverse
 le:∀ y∈la.take na++lb.take nb,∀ x∈o,κ y<=κ x
variable {la lb o:List Keyed} {na nb n:Nat}
theorem Ep {l:List Keyed} (h:n<=na):l.take na=l.take n++(l.take na).drop n:=by
 have:=List.take_append_drop n (l.take na)
 rw [List.take_take,Nat.min_eq_left h] at this
 exact this.symm
theorem Hg.a (m:Hg κ la lb o na nb) (ha:Srt κ la) (hn:n<=na) (h:∀ x∈(la.take na).drop n,∀ y∈lb.take nb,κ y<=κ x):Hg κ la lb (o++((la.take na).drop n).reverse) n nb:=by
 have hd:=Ep (l:=la) hn
 have hs2:Srt κ (la.take na):=List.Pairwise.sublist (List.take_sublist _ _) ha
 rw [hd] at hs2
 obtain ⟨s1,s2,s3⟩:=List.pairwise_append.mp hs2
 have ml:=m.le
 have mp:=m.perm
 generalize (la.take na).drop n=D at *
 rw [hd] at ml mp
 refine ⟨Nat.le_trans hn m.il,m.jl,?_,?_,fun y hy x hx=>?_⟩
 ·rw [List.reverse_append,List.reverse_reverse]
  refine List.Perm.trans ?_ mp
  rw [<- List.append_assoc]
  refine List.Perm.append_right _ ?_
  rw [List.append_assoc,List.append_assoc]
  exact List.Perm.append_left _ List.perm_append_comm
 ·rw [List.reverse_append,List.reverse_reverse]
  exact BE s2 m.srt fun x hx y hy=>ml x (by simp [hx]) y (List.mem_reverse.mp hy)
 ·rcases List.mem_append.mp hx with hx | hx
  ·refine ml y ?_ x hx
   rcases List.mem_append.mp hy with hy | hy
   ·simp [hy]
   ·simp [hy]
  ·replace hx:=List.mem_reverse.mp hx
   rcases List.mem_append.mp hy with hy | hy
   ·exact s3 y hy x hx
   ·exact h x hx y hy
theorem Hg.b (m:Hg κ la lb o na nb) (hb:Srt κ lb) (hn:n<=nb) (h:∀ x∈(lb.take nb).drop n,∀ y∈la.take na,κ y<=κ x):Hg κ la lb (o++((lb.take nb).drop n).reverse) na n:=by
 have hd:=Ep (l:=lb) hn
 have hs2:Srt κ (lb.take nb):=List.Pairwise.sublist (List.take_sublist _ _) hb
 rw [hd] at hs2
 obtain ⟨s1,s2,s3⟩:=List.pairwise_append.mp hs2
 have ml:=m.le
 have mp:=m.perm
 generalize (lb.take nb).drop n=D at *
 rw [hd] at ml mp
 refine ⟨m.il,Nat.le_trans hn m.jl,?_,?_,fun y hy x hx=>?_⟩
 ·rw [List.reverse_append,List.reverse_reverse]
  simpa [List.append_assoc] using mp
 ·rw [List.reverse_append,List.reverse_reverse]
  exact BE s2 m.srt fun x hx y hy=>ml x (by simp [hx]) y (List.mem_reverse.mp hy)
 ·rcases List.mem_append.mp hx with hx | hx
  ·refine ml y ?_ x hx
   rcases List.mem_append.mp hy with hy | hy
   ·simp [hy]
   ·simp [hy]
  ·replace hx:=List.mem_reverse.mp hx
   rcases List.mem_append.mp hy with hy | hy
   ·exact h x hx y hy
   ·exact s3 y hy x hx
theorem Hg.end (m:Hg κ la lb o na nb) (hb:Srt κ lb) (h:na=0):(la.take na++lb.take nb++o.reverse).Perm (la++lb)/\Srt κ (la.take na++lb.take nb++o.reverse):=by
 refine ⟨m.perm,BE ?_ m.srt fun x hx y hy=>m.le x hx y (List.mem_reverse.mp hy)⟩
 subst h
 rw [List.take_zero,List.nil_append]
 exact List.Pairwise.sublist (List.take_sublist _ _) hb
theorem Hg.end2 (m:Hg κ la lb o na nb) (ha:Srt κ la) (hb:Srt κ lb) (h:∀ x∈lb.take nb,∀ y∈la.take na,κ x<=κ y):(lb.take nb++la.take na++o.reverse).Perm (la++lb)/\Srt κ (lb.take nb++la.take na++o.reverse):=by
 refine ⟨List.Perm.trans (List.Perm.append_right _ List.perm_append_comm) m.perm,BE (BE (List.Pairwise.sublist (List.take_sublist _ _) hb) (List.Pairwise.sublist (List.take_sublist _ _) ha) h) m.srt fun x hx y hy=>m.le x ?_ y (List.mem_reverse.mp hy)⟩
 rcases List.mem_append.mp hx with hx | hx
 ·exact List.mem_append_right _ hx
 ·exact List.mem_append_left _ hx
theorem Hg.start:Hg κ la lb [] la.length lb.length:=⟨Nat.le_refl _,Nat.le_refl _,by simp,List.Pairwise.nil,fun y _ x hx=>by cases hx⟩
end
section
variable {prog:Program} {w:World} {A:Around} {E:Value->Shared->Prop} {s:Shared} {kd:SortKind} {El:Keyed->Prop} {κ:Keyed->Int}
theorem EB {xs:Array Keyed} (n:Nat):(xs.extract 0 n).toList=xs.toList.take n:=by
 rw [Array.toList_extract,List.extract_eq_take_drop,List.drop_zero,Nat.sub_zero]
theorem Gv {xs:Array Keyed} (i n:Nat):(xs.extract i n).reverse.toList=((xs.toList.take n).drop i).reverse:=by
 rw [Array.toList_reverse,Array.toList_extract,List.extract_eq_take_drop,List.drop_take]
theorem Ci {l:List Keyed} {n:Nat} (h:n - 1 < l.length) (h0:0 < n):(l.take n).drop (n - 1)=[l[n - 1]]:=by
 rw [List.drop_take,show n - (n - 1)=1 by lia,BY h]
theorem BS {l:List Keyed} {n:Nat} {x:Keyed} (h:x∈l.take n):∃ t,∃ ht:t < l.length,t < n/\x=l[t]:=by
 obtain ⟨t,ht,rfl⟩:=List.getElem_of_mem h
 rw [List.length_take] at ht
 exact ⟨t,by lia,by lia,by rw [List.getElem_take]⟩
theorem EZ {l:List Keyed} {i n:Nat} {x:Keyed} (h:x∈(l.take n).drop i):∃ t,∃ ht:t < l.length,i<=t/\t < n/\x=l[t]:=by
 obtain ⟨t,ht,rfl⟩:=Bh h
 rw [List.length_take] at ht
 exact ⟨i+t,by lia,by lia,by lia,by rw [List.getElem_take]⟩
theorem KU (C:Cmp prog w A E s kd El κ) {a b:Array Keyed} {st:SortSt} {Q:Array Keyed->SortSt->Prop} (hk:kindOf st=kd) (ha:Srt κ a.toList) (hb:Srt κ b.toList) (hea:∀ x∈a.toList,El x) (heb:∀ x∈b.toList,El x)
 (la1:0 < a.toList.length) (lb1:0 < b.toList.length) (h0:κ b.toList[0] < κ a.toList[0]) (hl:∀ x∈b.toList,κ x < κ (a.toList[a.toList.length - 1]))
 (q:∀ (o:Array Keyed) st',Sg st st'->o.toList.Perm (a.toList++b.toList)->Srt κ o.toList->Q o st'):wpS (model prog w) A E s (mHi a b) Q st:=by
 have sa:a.size=a.toList.length:=Array.length_toList.symm
 have sb:b.size=b.toList.length:=Array.length_toList.symm
 have lla:a.size - 1 < a.toList.length:=by lia
 have m1':Hg κ a.toList b.toList (#[a.toList[a.size - 1]]:Array Keyed).toList (a.size - 1) b.size:=by
  have m0:Hg κ a.toList b.toList [] a.size b.size:=by rw [sa,sb];exact Hg.start
  have m1:=m0.a (n:=a.size - 1) ha (by lia) (fun x hx y hy=>by
   rw [Ci lla (by lia),List.mem_singleton] at hx
   subst hx
   have:=hl y (List.mem_of_mem_take hy)
   simp only [<- sa] at this
   lia)
  rw [Ci lla (by lia)] at m1
  exact m1
 have fd:∀ (o:Array Keyed) na nb st',Sg st st'->Hg κ a.toList b.toList o.toList na nb->na=0->Q (a.extract 0 na++b.extract 0 nb++o.reverse) st':=fun o na nb st' hs m hj=>by
  have e:(a.extract 0 na++b.extract 0 nb++o.reverse).toList=a.toList.take na++b.toList.take nb++o.toList.reverse:=by
   rw [Array.toList_append,Array.toList_append,EB,EB,Array.toList_reverse]
  obtain ⟨h1,h2⟩:=m.end hb hj
  exact q _ st' hs (by rw [e];exact h1) (by rw [e];exact h2)
 have fl:∀ (o:Array Keyed) na nb st',Sg st st'->Hg κ a.toList b.toList o.toList na nb->nb=1->Q (b.extract 0 nb++a.extract 0 na++o.reverse) st':=fun o na nb st' hs m hi=>by
  obtain ⟨h1,h2⟩:=m.end2 ha hb (fun x hx y hy=>by
   obtain ⟨t,ht,h5,rfl⟩:=BS hx
   obtain ⟨u,hu,h6,rfl⟩:=BS hy
   have e0:t=0:=by lia
   subst e0
   have:=Au ha (Nat.zero_le u) hu
   lia)
  have e:(b.extract 0 nb++a.extract 0 na++o.reverse).toList=b.toList.take nb++a.toList.take na++o.toList.reverse:=by
   rw [Array.toList_append,Array.toList_append,EB,EB,Array.toList_reverse]
  exact q _ st' hs (by rw [e];exact h1) (by rw [e];exact h2)
 have ta:∀ {o:Array Keyed} {na nb:Nat},Hg κ a.toList b.toList o.toList na nb->(h1:na - 1 < a.toList.length)->0 < na->(∀ y∈b.toList.take nb,κ y<=κ a.toList[na - 1])->Hg κ a.toList b.toList (o.push a.toList[na - 1]).toList (na - 1) nb:=fun {o na nb} m h1 h2 h3=>by
  have m2:=m.a (n:=na - 1) ha (by lia) (fun x hx y hy=>by
   rw [Ci h1 h2,List.mem_singleton] at hx
   subst hx
   exact h3 y hy)
  rw [Ci h1 h2] at m2
  rw [Array.toList_push]
  exact m2
 have tb:∀ {o:Array Keyed} {na nb:Nat},Hg κ a.toList b.toList o.toList na nb->(h1:nb - 1 < b.toList.length)->0 < nb->(∀ y∈a.toList.take na,κ y<=κ b.toList[nb - 1])->Hg κ a.toList b.toList (o.push b.toList[nb - 1]).toList na (nb - 1):=fun {o na nb} m h1 h2 h3=>by
  have m2:=m.b (n:=nb - 1) hb (by lia) (fun x hx y hy=>by
   rw [Ci h1 h2,List.mem_singleton] at hx
   subst hx
   exact h3 y hy)
  rw [Ci h1 h2] at m2
  rw [Array.toList_push]
  exact m2
 clear q
 delta mHi
 refine wpS_bind (wpS_lift (wpAny_rule ⟨rfl,?_⟩))
 dsimp only
 refine wpS_bind (Ah (Ac lla) ?_)
 by_cases c1:a.size - 1=0
 ·rw [if_pos (by simpa using c1)]
  exact wpS_pure (fd _ _ _ st Sg.refl m1' c1)
 rw [if_neg (by simpa using c1)]
 by_cases c2:b.size=1
 ·rw [if_pos (by simpa using c2)]
  exact wpS_pure (fl _ _ _ st Sg.refl m1' c2)
 rw [if_neg (by simpa using c2)]
 refine wpS_bind (wpS_get ?_)
 refine wpS_bind (wpS_mono (wpS_forRange (I:=fun x c st'=>Sg st st'/\∃ na nb o mg,c=(none,na,nb,o,mg)/\Hg κ a.toList b.toList o.toList na nb/\0 < na/\1 < nb/\x+na+nb < a.size+b.size)
  (Q:=fun c st'=>∃ r,c.1=some r/\Q r st') ?step ?fin ⟨Sg.refl,_,_,_,_,rfl,m1',by lia,by lia,by lia⟩) ?post)
 case fin =>
  rintro c st' ⟨hs,na,nb,o,mg,rfl,m,h1,h2,h3⟩
  lia
 case post =>
  rintro ⟨r,na,nb,o,mg⟩ st' ⟨r',e,h⟩
  cases e
  exact wpS_pure h
 case step =>
  rintro X c st1 _ hX ⟨hs1,na,nb,o,mg,rfl,m,h1,h2,h3⟩
  dsimp only
  refine wpS_bind (wpS_mono (wpS_forRange (I:=fun x c st2=>st2=st1/\∃ na' nb' o' ac bc,c=(none,na',nb',o',ac,bc)/\Hg κ a.toList b.toList o'.toList na' nb'/\0 < na'/\1 < nb'/\x+na'+nb'<=na+nb)
   (Q:=fun c st2=>st2=st1/\((∃ r,c.1=some r/\Q r st1)\/∃ na' nb' o' ac bc,c=(none,na',nb',o',ac,bc)/\Hg κ a.toList b.toList o'.toList na' nb'/\0 < na'/\1 < nb'/\1+na'+nb'<=na+nb)) ?istep ?ifin ⟨rfl,na,nb,o,0,0,rfl,m,h1,h2,by lia⟩) ?ipost)
  case ifin =>
   rintro c st2 ⟨rfl,na',nb',o',ac,bc,rfl,m',h1',h2',h3'⟩
   exact ⟨rfl,.inr ⟨na',nb',o',ac,bc,rfl,m',h1',h2',by lia⟩⟩
  case istep =>
   rintro x c st2 _ hx ⟨rfl,na',nb',o',ac,bc,rfl,m',h1',h2',h3'⟩
   dsimp only
   have hi':na' - 1 < a.toList.length:=by have:=m'.il;lia
   have hj':nb' - 1 < b.toList.length:=by have:=m'.jl;lia
   refine wpS_bind (Ah (Ac hj') (wpS_bind (Ah (Ac hi') ?_)))
   refine wpS_bind (C.lt _ _ _ _ (heb _ (List.getElem_mem hj')) (hea _ (List.getElem_mem hi')) (hs1.k.trans hk) ?_)
   dsimp only
   by_cases hw:κ b.toList[nb' - 1] < κ a.toList[na' - 1]
   ·rw [if_pos (decide_eq_true hw)]
    have m2:=ta m' hi' h1' (fun y hy=>by
     obtain ⟨t,ht,h5,rfl⟩:=BS hy
     have:=Au hb (show t<=nb' - 1 by lia) hj'
     lia)
    refine wpS_bind (Ah (Ac hi') ?_)
    by_cases c3:na' - 1=0
    ·rw [if_pos (by simpa using c3)]
     exact wpS_pure ⟨rfl,.inl ⟨_,rfl,fd _ _ _ _ hs1 m2 c3⟩⟩
    ·rw [if_neg (by simpa using c3)]
     by_cases c4:ac+1 ≥ mg
     ·rw [if_pos c4]
      exact wpS_pure ⟨rfl,.inr ⟨_,_,_,_,_,rfl,m2,by lia,h2',by lia⟩⟩
     ·rw [if_neg c4]
      exact wpS_pure ⟨rfl,_,_,_,_,_,rfl,m2,by lia,h2',by lia⟩
   ·rw [if_neg (fun z=>hw (of_decide_eq_true z))]
    have m2:=tb m' hj' (by lia) (fun y hy=>by
     obtain ⟨t,ht,h5,rfl⟩:=BS hy
     have:=Au ha (show t<=na' - 1 by lia) hi'
     lia)
    refine wpS_bind (Ah (Ac hj') ?_)
    by_cases c3:nb' - 1=1
    ·rw [if_pos (by simpa using c3)]
     exact wpS_pure ⟨rfl,.inl ⟨_,rfl,fl _ _ _ _ hs1 m2 c3⟩⟩
    ·rw [if_neg (by simpa using c3)]
     by_cases c4:bc+1 ≥ mg
     ·rw [if_pos c4]
      exact wpS_pure ⟨rfl,.inr ⟨_,_,_,_,_,rfl,m2,h1',by lia,by lia⟩⟩
     ·rw [if_neg c4]
      exact wpS_pure ⟨rfl,_,_,_,_,_,rfl,m2,h1',by lia,by lia⟩
  case ipost =>
   rintro ⟨r,na1,nb1,o1,ac1,bc1⟩ st2 ⟨rfl,⟨r',e,h⟩ | ⟨na',nb',o',ac,bc,e,m',h1',h2',h3'⟩⟩
   ·cases e
    exact wpS_pure ⟨_,rfl,h⟩
   cases e
   dsimp only
   refine wpS_bind (wpS_lift (wpAny_rule ⟨rfl,?_⟩))
   refine wpS_bind (wpS_mono (wpS_forRange (I:=fun x c st3=>Sg st st3/\∃ na' nb' o' mg ac bc,c=(none,na',nb',o',mg,ac,bc)/\Hg κ a.toList b.toList o'.toList na' nb'/\0 < na'/\1 < nb'/\1+na'+nb'<=na+nb)
    (Q:=fun c st3=>Sg st st3/\((∃ r,c.1=some r/\Q r st3)\/∃ na' nb' o' mg ac bc,c=(none,na',nb',o',mg,ac,bc)/\Hg κ a.toList b.toList o'.toList na' nb'/\0 < na'/\1 < nb'/\1+na'+nb'<=na+nb)) ?gstep ?gfin ⟨hs1,_,_,_,_,_,_,rfl,m',h1',h2',h3'⟩) ?gpost)
   case gfin =>
    rintro c st3 ⟨hs3,h⟩
    exact ⟨hs3,.inr h⟩
   case gpost =>
    rintro ⟨r,na2,nb2,o2,mg2,ac2,bc2⟩ st3 ⟨hs3,⟨r',e,h⟩ | ⟨na',nb',o',mg',ac,bc,e,m',h1',h2',h3'⟩⟩
    ·cases e
     exact wpS_pure ⟨_,rfl,h⟩
    cases e
    dsimp only
    refine wpS_bind (wpS_modify (wpS_pure ⟨hs3.trans ⟨rfl,rfl,rfl,rfl⟩,_,_,_,_,rfl,m',h1',h2',by lia⟩))
   case gstep =>
    clear m' h1' h2' h3'
    rintro x c st3 _ hx ⟨hs3,na',nb',o',mg',ac,bc,rfl,m',h1',h2',h3'⟩
    dsimp only
    apply Gz (fun (Z:Nat->StateT SortSt Sem (ForInStep (Option (Array Keyed) × Nat × Nat × Array Keyed × Nat × Nat × Nat))) R st4=>∀ m,wpS (model prog w) A E s (Z m) R st4)
    case h1 =>
     intro zz
     by_cases hm:mg' > 1
     ·rw [if_pos hm]
      generalize mg' - 1=m2
      exact zz m2
     ·rw [if_neg hm]
      generalize mg'=m2
      exact zz m2
    case h2 =>
     intro m2
     refine wpS_bind (wpS_modify ?_)
     have hs4:=hs3.trans (⟨rfl,rfl,rfl,rfl⟩:Sg st3 (SortSt.mk' (kindOf st3) (arrOf st3) (pendingOf st3) m2 (failedOf st3)))
     have hi':na'<=a.toList.length:=m'.il
     have hj':nb' - 1 < b.toList.length:=by have:=m'.jl;lia
     refine wpS_bind (Ah (Ac hj') ?_)
     have fa:∀ t,t < na'->∃ ht:t < a.toList.length,a.toList.getD t a.toList[0]=a.toList[t]:=fun t ht=>⟨by lia,by rw [List.getD_eq_getElem?_getD,List.getElem?_eq_getElem (by lia)];rfl⟩
     refine wpS_bind (CM C (hs4.k.trans hk) (heb _ (List.getElem_mem hj')) (by lia) (fun t=>a.toList.getD t a.toList[0]) (fun t ht=>?_) (fun t t' h h'=>?_) fun k hkn hk1 hk2=>?_)
     ·obtain ⟨h5,h6⟩:=fa t ht
      rw [h6,Nat.zero_add]
      exact ⟨Ac h5,hea _ (List.getElem_mem h5)⟩
     ·obtain ⟨h5,h6⟩:=fa t (by lia)
      obtain ⟨h7,h8⟩:=fa t' h'
      rw [h6,h8]
      exact Au ha h h7
     dsimp only
     simp only [Bool.false_eq_true,if_false,Decidable.not_not] at hk1 hk2
     have mk:=m'.a (n:=k) ha hkn (fun x hx y hy=>by
      obtain ⟨t,ht,h5,h6,rfl⟩:=EZ hx
      obtain ⟨t',ht',h7,rfl⟩:=BS hy
      have h8:=hk2 t h5 h6
      obtain ⟨h9,h10⟩:=fa t h6
      rw [h10] at h8
      have:=Au hb (show t'<=nb' - 1 by lia) hj'
      lia)
     have hdr0:∀ y∈a.toList.take k,κ y<=κ b.toList[nb' - 1]:=fun y hy=>by
      obtain ⟨t,ht,h5,rfl⟩:=BS hy
      have h8:=hk1 t h5
      obtain ⟨h9,h10⟩:=fa t (by lia)
      rw [h10] at h8
      lia
     obtain ⟨o2,n2,hc,mo2,hdr,hii,hn0⟩:∃ (o2:Array Keyed) (n2:Nat),((na' - k > 0/\o'++(a.extract k na').reverse=o2/\k=n2)\/(¬ na' - k > 0/\o'=o2/\na'=n2))/\Hg κ a.toList b.toList o2.toList n2 nb'/\(∀ y∈a.toList.take n2,κ y<=κ b.toList[nb' - 1])/\n2<=na'/\(na' - k > 0\/0 < n2):=by
      by_cases k0:na' - k > 0
      ·rw [<- Gv,<- Array.toList_append] at mk
       exact ⟨_,_,.inl ⟨k0,rfl,rfl⟩,mk,hdr0,hkn,.inl k0⟩
      ·have e0:k=na':=by lia
       rw [e0] at hdr0
       exact ⟨_,_,.inr ⟨k0,rfl,rfl⟩,m',hdr0,Nat.le_refl _,.inr h1'⟩
     rcases hc with ⟨k0,e1,e2⟩ | ⟨k0,e1,e2⟩
     case' inl =>
      rw [if_pos k0,e1,e2]
      by_cases c5:n2=0
      ·rw [if_pos (by simpa using c5)]
       exact wpS_pure ⟨hs4,.inl ⟨_,rfl,fd _ _ _ _ hs4 mo2 c5⟩⟩
      rw [if_neg (by simpa using c5)]
      replace hn0:0 < n2:=by lia
     case' inr =>
      rw [if_neg k0,e1,e2]
      replace hn0:0 < n2:=by lia
     all_goals
      have hi2:n2 - 1 < a.toList.length:=by lia
      refine wpS_bind (Ah (Ac hj') ?_)
      have m3:=tb mo2 hj' (by lia) hdr
      by_cases c6:nb' - 1=1
      ·rw [if_pos (by simpa using c6)]
       exact wpS_pure ⟨hs4,.inl ⟨_,rfl,fl _ _ _ _ hs4 m3 c6⟩⟩
      rw [if_neg (by simpa using c6)]
      refine wpS_bind (Ah (Ac hi2) ?_)
      have fb:∀ t,t < nb' - 1->∃ ht:t < b.toList.length,b.toList.getD t b.toList[0]=b.toList[t]:=fun t ht=>⟨by lia,by rw [List.getD_eq_getElem?_getD,List.getElem?_eq_getElem (by lia)];rfl⟩
      refine wpS_bind (CM C (hs4.k.trans hk) (hea _ (List.getElem_mem hi2)) (by lia) (fun t=>b.toList.getD t b.toList[0]) (fun t ht=>?_) (fun t t' h h'=>?_) fun k2 hkn2 hk3 hk4=>?_)
      ·obtain ⟨h5,h6⟩:=fb t ht
       rw [h6,Nat.zero_add]
       exact ⟨Ac h5,heb _ (List.getElem_mem h5)⟩
      ·obtain ⟨h5,h6⟩:=fb t (by lia)
       obtain ⟨h7,h8⟩:=fb t' h'
       rw [h6,h8]
       exact Au hb h h7
      dsimp only
      simp only [if_true] at hk3 hk4
      have hz:0 < k2:=by
       rcases Nat.eq_zero_or_pos k2 with z | z
       ·exfalso
        have h8:=hk4 0 (by lia) (by lia)
        obtain ⟨h9,h10⟩:=fb 0 (by lia)
        rw [h10] at h8
        have:=Au ha (Nat.zero_le (n2 - 1)) hi2
        lia
       ·exact z
      have mk2:=m3.b (n:=k2) hb hkn2 (fun x hx y hy=>by
       obtain ⟨t,ht,h5,h6,rfl⟩:=EZ hx
       obtain ⟨t',ht',h7,rfl⟩:=BS hy
       have h8:=hk4 t h5 h6
       obtain ⟨h9,h10⟩:=fb t h6
       rw [h10] at h8
       have:=Au ha (show t'<=n2 - 1 by lia) hi2
       lia)
      have hdb0:∀ y∈b.toList.take k2,κ y<=κ a.toList[n2 - 1]:=fun y hy=>by
       obtain ⟨t,ht,h5,rfl⟩:=BS hy
       have h8:=hk3 t h5
       obtain ⟨h9,h10⟩:=fb t (by lia)
       rw [h10] at h8
       lia
      obtain ⟨o3,n3,hc,mo3,hdb,hjj,hn1⟩:∃ (o3:Array Keyed) (n3:Nat),((nb' - 1 - k2 > 0/\o2.push b.toList[nb' - 1]++(b.extract k2 (nb' - 1)).reverse=o3/\k2=n3)\/(¬ nb' - 1 - k2 > 0/\o2.push b.toList[nb' - 1]=o3/\nb' - 1=n3))/\Hg κ a.toList b.toList o3.toList n2 n3/\(∀ y∈b.toList.take n3,κ y<=κ a.toList[n2 - 1])/\n3<=nb' - 1/\0 < n3:=by
       by_cases k0:nb' - 1 - k2 > 0
       ·rw [<- Gv,<- Array.toList_append] at mk2
        exact ⟨_,_,.inl ⟨k0,rfl,rfl⟩,mk2,hdb0,hkn2,hz⟩
       ·have e0:k2=nb' - 1:=by lia
        rw [e0] at hdb0
        exact ⟨_,_,.inr ⟨k0,rfl,rfl⟩,m3,hdb0,Nat.le_refl _,by lia⟩
      rcases hc with ⟨l0,e3,e4⟩ | ⟨l0,e3,e4⟩
      case' inl =>
       rw [if_pos l0,e3,e4]
       by_cases c7:n3=1
       ·rw [if_pos (by simpa using c7)]
        exact wpS_pure ⟨hs4,.inl ⟨_,rfl,fl _ _ _ _ hs4 mo3 c7⟩⟩
       rw [if_neg (by simpa using c7),if_neg (by simp;lia)]
       replace hn1:1 < n3:=by lia
      case' inr =>
       rw [if_neg l0,e3,e4]
       replace hn1:1 < n3:=by lia
      all_goals
       refine wpS_bind (Ah (Ac hi2) ?_)
       have m4:=ta mo3 hi2 hn0 hdb
       by_cases c8:n2 - 1=0
       ·rw [if_pos (by simpa using c8)]
        exact wpS_pure ⟨hs4,.inl ⟨_,rfl,fd _ _ _ _ hs4 m4 c8⟩⟩
       rw [if_neg (by simpa using c8)]
       split
       ·exact wpS_pure ⟨hs4,.inr ⟨_,_,_,_,_,_,rfl,m4,by lia,hn1,by lia⟩⟩
       ·exact wpS_pure ⟨hs4,_,_,_,_,_,_,rfl,m4,by lia,hn1,by lia⟩
end
theorem JH (sa:Nat) (l:List Keyed):∀ (m:Nat) (arr:Array Keyed),sa+m+l.length<=arr.size ->
 ((l.zipIdx m).foldl (fun a (p:Keyed × Nat)=>a.setIfInBounds (sa+p.2) p.1) arr).toList=arr.toList.take (sa+m)++l++arr.toList.drop (sa+m+l.length):=by
 induction l with
 | nil=>intro m arr h;simp
 | cons x l ih =>
  intro m arr h
  rw [List.length_cons] at h
  rw [List.zipIdx_cons,List.foldl_cons]
  dsimp only
  rw [ih (m+1) (arr.setIfInBounds (sa+m) x) (by rw [Array.size_setIfInBounds];lia),Array.toList_setIfInBounds]
  have h1:sa+m < arr.toList.length:=by rw [Array.length_toList];lia
  have e1:(arr.toList.set (sa+m) x).take (sa+(m+1))=arr.toList.take (sa+m)++[x]:=by
   rw [show sa+(m+1)=sa+m+1 by lia,List.take_add_one,List.take_set_of_le (Nat.le_refl _),List.getElem?_set_self h1]
   rfl
  rw [e1,List.drop_set_of_lt (by lia),List.length_cons,show sa+(m+1)+l.length=sa+m+(l.length+1) by lia]
  simp
section
variable {prog:Program} {w:World} {A:Around} {E:Value->Shared->Prop} {s:Shared} {kd:SortKind} {El:Keyed->Prop} {κ:Keyed->Int}
theorem NX {st st':SortSt} {Q:PUnit->SortSt->Prop} (h:Q ⟨⟩ st'):wpS (model prog w) A E s (set st':StateT SortSt Sem PUnit) Q st:=wpS_modify (f:=fun _=>st') h
theorem Ka (C:Cmp prog w A E s kd El κ) {st:SortSt} {Q:Bool->SortSt->Prop} {n1 n2 pw:Nat} (hk:kindOf st=kd) (hf:failedOf st=none) (hp:pendingOf st = #[(0,n1,pw),(n1,n2,0)]) (h1:0 < n1) (h2:0 < n2) (hs:(arrOf st).toList.length=n1+n2) (hel:∀ x∈(arrOf st).toList,El x) (sa:Srt κ ((arrOf st).toList.take n1)) (sb:Srt κ ((arrOf st).toList.drop n1))
 (q:∀ st',kindOf st'=kd->failedOf st'=none->pendingOf st' = #[(0,n1+n2,pw)]->(arrOf st').toList.Perm (arrOf st).toList->Srt κ (arrOf st').toList->Q true st'):wpS (model prog w) A E s (mergeAt' 0) Q st:=by
 obtain ⟨kk,arr,p,g,f⟩:=st
 replace hk:kk=kd:=hk
 replace hf:f=none:=hf
 replace hp:p = #[(0,n1,pw),(n1,n2,0)]:=hp
 subst hk hf hp
 replace hs:arr.toList.length=n1+n2:=hs
 replace hel:∀ x∈arr.toList,El x:=hel
 replace sa:Srt κ (arr.toList.take n1):=sa
 replace sb:Srt κ (arr.toList.drop n1):=sb
 have q':∀ st',kindOf st'=kk->failedOf st'=none->pendingOf st' = #[(0,n1+n2,pw)]->(arrOf st').toList.Perm arr.toList->Srt κ (arrOf st').toList->Q true st':=q
 clear q
 delta mergeAt'
 refine wpS_bind (wpS_get ?_)
 have e0:(#[(0,n1,pw),(n1,n2,0)]:Array (Nat × Nat × Nat))[0]? = some (0,n1,pw):=rfl
 have e1:(#[(0,n1,pw),(n1,n2,0)]:Array (Nat × Nat × Nat))[0+1]? = some (n1,n2,0):=rfl
 dsimp only
 rw [e0,e1]
 dsimp only
 refine wpS_bind (NX ?_)
 have hpe:((#[(0,n1,pw),(n1,n2,0)]:Array (Nat × Nat × Nat)).setIfInBounds 0 (0,n1+n2,pw)).eraseIdxIfInBounds (0+1) = #[(0,n1+n2,pw)]:=by simp [Array.eraseIdxIfInBounds]
 rw [hpe]
 refine (fun z:∀ st2:SortSt,SortSt.mk' kk arr #[(0,n1+n2,pw)] g none=st2->wpS (model prog w) A E s _ Q st2=>z _ rfl) ?_
 intro st2 hst
 have k2:kindOf st2=kk:=by rw [<- hst]
 have f2:failedOf st2=none:=by rw [<- hst]
 have p2:pendingOf st2 = #[(0,n1+n2,pw)]:=by rw [<- hst]
 have a2:arrOf st2=arr:=by rw [<- hst]
 have q:Srt κ arr.toList->Q true st2:=fun z=>q' st2 k2 f2 p2 (by rw [a2]) (by rw [a2];exact z)
 have l1:n1 < arr.toList.length:=by lia
 have l2:n1 - 1 < arr.toList.length:=by lia
 have ea:∀ i j,(hij:i<=j)->(hj:j < n1)->κ (arr.toList[i]'(by lia))<=κ (arr.toList[j]'(by lia)):=fun i j hij hj=>by
  have:=Au sa hij (show j < (arr.toList.take n1).length by rw [List.length_take];lia)
  simpa using this
 have eb:∀ i j,(hn:n1<=i)->(hij:i<=j)->(hj:j < arr.toList.length)->κ (arr.toList[i]'(by lia))<=κ (arr.toList[j]'hj):=fun i j hn hij hj=>by
  have:=Au sb (show i - n1<=j - n1 by lia) (show j - n1 < (arr.toList.drop n1).length by rw [List.length_drop];lia)
  rw [List.getElem_drop,List.getElem_drop] at this
  simpa only [show n1+(i - n1)=i by lia,show n1+(j - n1)=j by lia] using this
 have srtI:∀ l:List Keyed,(∀ i j,(hij:i < j)->(hj:j < l.length)->κ (l[i]'(by lia))<=κ (l[j]'hj))->Srt κ l:=fun l h=>List.pairwise_iff_getElem.mpr fun i j hi hj hij=>h i j hij hj
 refine wpS_bind (Ah (Ac l1) ?_)
 have fa:∀ t,t < arr.toList.length->∃ ht:t < arr.toList.length,arr.toList.getD t arr.toList[n1]=arr.toList[t]:=fun t ht=>⟨ht,by rw [List.getD_eq_getElem?_getD,List.getElem?_eq_getElem ht];rfl⟩
 refine wpS_bind (CM C k2 (hel _ (List.getElem_mem l1)) h1 (fun t=>arr.toList.getD t arr.toList[n1]) (fun t ht=>?_) (fun t t' h h'=>?_) fun k hkn hk1 hk2=>?_)
 ·obtain ⟨h5,h6⟩:=fa t (by lia)
  rw [h6,Nat.zero_add]
  exact ⟨Ac h5,hel _ (List.getElem_mem h5)⟩
 ·obtain ⟨h5,h6⟩:=fa t (by lia)
  obtain ⟨h7,h8⟩:=fa t' (by lia)
  rw [h6,h8]
  exact ea t t' h h'
 dsimp only
 simp only [Bool.false_eq_true,if_false,Decidable.not_not] at hk1 hk2
 replace hk1:∀ i,(hi:i < k)->κ (arr.toList[i]'(by lia))<=κ arr.toList[n1]:=fun i hi=>by
  have:=hk1 i hi
  obtain ⟨h5,h6⟩:=fa i (by lia)
  rw [h6] at this
  lia
 replace hk2:∀ i,k<=i->(hi:i < n1)->κ arr.toList[n1] < κ (arr.toList[i]'(by lia)):=fun i hi hi'=>by
  have:=hk2 i hi hi'
  obtain ⟨h5,h6⟩:=fa i (by lia)
  rwa [h6] at this
 by_cases c1:n1 - k=0
 ·rw [if_pos (by simpa using c1)]
  refine wpS_pure (q (srtI _ fun i j hij hj=>?_))
  rcases Nat.lt_or_ge j n1 with z | z
  ·exact ea i j (by lia) z
  ·rcases Nat.lt_or_ge i n1 with y | y
   ·exact Int.le_trans (hk1 i (by lia)) (eb n1 j (Nat.le_refl _) z hj)
   ·exact eb i j y (by lia) hj
 rw [if_neg (by simpa using c1)]
 have ei:0+k+(n1 - k) - 1=n1 - 1:=by lia
 rw [ei]
 refine wpS_bind (Ah (Ac l2) ?_)
 refine wpS_bind (CM C k2 (hel _ (List.getElem_mem l2)) (by lia) (fun t=>arr.toList.getD (n1+t) arr.toList[n1]) (fun t ht=>?_) (fun t t' h h'=>?_) fun nb hnb hk3 hk4=>?_)
 ·obtain ⟨h5,h6⟩:=fa (n1+t) (by lia)
  rw [h6]
  exact ⟨Ac h5,hel _ (List.getElem_mem h5)⟩
 ·obtain ⟨h5,h6⟩:=fa (n1+t) (by lia)
  obtain ⟨h7,h8⟩:=fa (n1+t') (by lia)
  rw [h6,h8]
  exact eb _ _ (by lia) (by lia) h7
 dsimp only
 simp only [if_true] at hk3 hk4
 replace hk3:∀ i,n1<=i->(hi:i < n1+nb)->κ (arr.toList[i]'(by lia)) < κ arr.toList[n1 - 1]:=fun i hi hi'=>by
  have:=hk3 (i - n1) (by lia)
  obtain ⟨h5,h6⟩:=fa (n1+(i - n1)) (by lia)
  rw [h6] at this
  simpa only [show n1+(i - n1)=i by lia] using this
 replace hk4:∀ i,n1+nb<=i->(hi:i < arr.toList.length)->κ arr.toList[n1 - 1]<=κ (arr.toList[i]'hi):=fun i hi hi'=>by
  have:=hk4 (i - n1) (by lia) (by lia)
  obtain ⟨h5,h6⟩:=fa (n1+(i - n1)) (by lia)
  rw [h6] at this
  have e:n1+(i - n1)=i:=by lia
  simp only [e] at this
  lia
 by_cases c2:nb=0
 ·rw [if_pos (by simpa using c2)]
  refine wpS_pure (q (srtI _ fun i j hij hj=>?_))
  rcases Nat.lt_or_ge j n1 with z | z
  ·exact ea i j (by lia) z
  ·rcases Nat.lt_or_ge i n1 with y | y
   ·exact Int.le_trans (ea i (n1 - 1) (by lia) (by lia)) (hk4 j (by lia) hj)
   ·exact eb i j y (by lia) hj
 rw [if_neg (by simpa using c2),Nat.zero_add]
 have ex:(arr.extract k n1).toList=(arr.toList.take n1).drop k:=by rw [Array.toList_extract,List.extract_eq_take_drop,List.drop_take]
 have ey:(arr.extract n1 (n1+nb)).toList=(arr.toList.drop n1).take nb:=FQ _ _
 have hx:∀ x∈(arr.toList.take n1).drop k,∃ t,∃ ht:t < arr.toList.length,k<=t/\t < n1/\x=arr.toList[t]:=fun x hx=>EZ hx
 have hy:∀ y∈(arr.toList.drop n1).take nb,∃ t,∃ ht:t < arr.toList.length,n1<=t/\t < n1+nb/\y=arr.toList[t]:=fun y hy=>by
  obtain ⟨t,ht,h5,e⟩:=Fu hy
  exact ⟨n1+t,h5,by lia,by lia,e⟩
 have sx:Srt κ ((arr.toList.take n1).drop k):=List.Pairwise.sublist (List.drop_sublist _ _) sa
 have sy:Srt κ ((arr.toList.drop n1).take nb):=List.Pairwise.sublist (List.take_sublist _ _) sb
 have lx:((arr.toList.take n1).drop k).length=n1 - k:=by rw [List.length_drop,List.length_take];lia
 have ly:((arr.toList.drop n1).take nb).length=nb:=by rw [List.length_take,List.length_drop];lia
 have eL:arr.toList=arr.toList.take k++((arr.toList.take n1).drop k++(arr.toList.drop n1).take nb)++arr.toList.drop (n1+nb):=by
  have h5:=Ep (l:=arr.toList) (n:=k) (na:=n1) (by lia)
  have h6:(arr.toList.drop n1).take nb++arr.toList.drop (n1+nb)=arr.toList.drop n1:=by rw [<- List.drop_drop,List.take_append_drop]
  have h7:=List.take_append_drop n1 arr.toList
  rw [<- h6] at h7
  conv=>lhs;rw [<- h7,h5]
  simp only [List.append_assoc]
 have fin:∀ (o:Array Keyed) st',Sg st2 st'->o.toList.Perm ((arr.toList.take n1).drop k++(arr.toList.drop n1).take nb)->Srt κ o.toList->Q (failedOf st').isNone (setArr st' (List.foldl (fun a (x:Keyed × Nat)=>a.setIfInBounds (k+x.2) x.1) (arrOf st') o.toList.zipIdx)):=fun o st' hs' hp ho=>by
  have hlen:o.toList.length=n1 - k+nb:=by rw [hp.length_eq,List.length_append,lx,ly]
  rw [hs'.f,f2,hs'.a,a2]
  have e:=JH k o.toList 0 arr (by rw [<- Array.length_toList];lia)
  rw [Nat.add_zero,show k+o.toList.length=n1+nb by lia] at e
  refine q' _ (hs'.k.trans k2) (hs'.f.trans f2) (hs'.p.trans p2) ?_ ?_
  ·show (List.foldl _ arr o.toList.zipIdx).toList.Perm _
   rw [e]
   conv=>rhs;rw [eL]
   exact List.Perm.append_right _ (List.Perm.append_left _ hp)
  ·show Srt κ (List.foldl _ arr o.toList.zipIdx).toList
   rw [e]
   have mo:∀ x∈o.toList,∃ t,∃ ht:t < arr.toList.length,k<=t/\t < n1+nb/\x=arr.toList[t]:=fun x h=>by
    rcases List.mem_append.mp (hp.mem_iff.mp h) with h | h
    ·obtain ⟨t,ht,h5,h6,e⟩:=hx x h
     exact ⟨t,ht,h5,by lia,e⟩
    ·obtain ⟨t,ht,h5,h6,e⟩:=hy x h
     exact ⟨t,ht,by lia,h6,e⟩
   have lo:∀ t,(ht:t < k)->∀ u,k<=u->(hu:u < arr.toList.length)->κ (arr.toList[t]'(by lia))<=κ (arr.toList[u]'hu):=fun t ht u h5 hu=>by
    rcases Nat.lt_or_ge u n1 with z | z
    ·exact ea t u (by lia) z
    ·exact Int.le_trans (hk1 t ht) (eb n1 u (Nat.le_refl _) z hu)
   have hi:∀ t,k<=t->(ht:t < n1+nb)->∀ u,n1+nb<=u->(hu:u < arr.toList.length)->κ (arr.toList[t]'(by lia))<=κ (arr.toList[u]'hu):=fun t h5 ht u h6 hu=>by
    rcases Nat.lt_or_ge t n1 with z | z
    ·exact Int.le_trans (ea t (n1 - 1) (by lia) (by lia)) (hk4 u h6 hu)
    ·exact eb t u z (by lia) hu
   refine BE (BE ?_ ho fun x h y h'=>?_) (List.Pairwise.sublist (by rw [<- List.drop_drop];exact List.drop_sublist _ _) sb) fun x h y h'=>?_
   ·have:=List.Pairwise.sublist (List.take_sublist k _) sa
    rwa [List.take_take,Nat.min_eq_left (by lia)] at this
   ·obtain ⟨t,ht,h5,rfl⟩:=BS h
    obtain ⟨u,hu,h6,h7,rfl⟩:=mo y h'
    exact lo t h5 u h6 hu
   ·obtain ⟨u,hu,rfl⟩:=Bh h'
    rcases List.mem_append.mp h with h | h
    ·obtain ⟨t,ht,h5,rfl⟩:=BS h
     exact lo t h5 _ (by lia) hu
    ·obtain ⟨t,ht,h6,h7,rfl⟩:=mo x h
     exact hi t h6 h7 _ (by lia) hu
 have h0:∀ (e1:0 < (arr.extract k n1).toList.length) (e2:0 < (arr.extract n1 (n1+nb)).toList.length),κ (arr.extract n1 (n1+nb)).toList[0] < κ (arr.extract k n1).toList[0]:=fun e1 e2=>by
  have:=hk2 k (Nat.le_refl _) (by lia)
  simp only [ex,ey,List.getElem_take,List.getElem_drop,Nat.add_zero]
  exact this
 have hl:∀ (e1:0 < (arr.extract k n1).toList.length),∀ x∈(arr.extract n1 (n1+nb)).toList,κ x < κ ((arr.extract k n1).toList[(arr.extract k n1).toList.length - 1]'(by lia)):=fun e1 x h=>by
  rw [ey] at h
  obtain ⟨t,ht,h5,h6,rfl⟩:=hy x h
  have:=hk3 t h5 h6
  simp only [ex,lx,List.getElem_take,List.getElem_drop]
  simpa only [show k+(n1 - k - 1)=n1 - 1 by lia] using this
 have e1:0 < (arr.extract k n1).toList.length:=by rw [ex,lx];lia
 have e2:0 < (arr.extract n1 (n1+nb)).toList.length:=by rw [ey,ly];lia
 have hea:∀ x∈(arr.extract k n1).toList,El x:=fun x h=>by
  rw [ex] at h
  obtain ⟨t,ht,_,_,rfl⟩:=hx x h
  exact hel _ (List.getElem_mem ht)
 have heb:∀ x∈(arr.extract n1 (n1+nb)).toList,El x:=fun x h=>by
  rw [ey] at h
  obtain ⟨t,ht,_,_,rfl⟩:=hy x h
  exact hel _ (List.getElem_mem ht)
 by_cases c3:n1 - k<=nb
 ·rw [if_pos c3]
  refine wpS_bind (Mf C k2 (by rw [ex];exact sx) (by rw [ey];exact sy) hea heb e1 e2 (h0 e1 e2) (hl e1) fun o st' hs' hp ho=>?_)
  rw [ex,ey] at hp
  exact wpS_bind (wpS_modify (wpS_bind (wpS_get (wpS_pure (fin o st' hs' hp ho)))))
 ·rw [if_neg c3]
  refine wpS_bind (KU C k2 (by rw [ex];exact sx) (by rw [ey];exact sy) hea heb e1 e2 (h0 e1 e2) (hl e1) fun o st' hs' hp ho=>?_)
  rw [ex,ey] at hp
  exact wpS_bind (wpS_modify (wpS_bind (wpS_get (wpS_pure (fin o st' hs' hp ho)))))
end
section
variable {prog:Program} {w:World} {A:Around} {E:Value->Shared->Prop} {s:Shared} {kd:SortKind} {El:Keyed->Prop} {κ:Keyed->Int}
def Kf (κ:Keyed->Int) (xs:Array Keyed) (i:Nat):Int:=match xs[i]? with
 | some p=>κ p
 | none=>0
theorem CA {xs ys:Array Keyed} {i j:Nat} (h:xs[i]? = ys[j]?):Kf κ xs i=Kf κ ys j:=by unfold Kf;rw [h]
def Seg (κ:Keyed->Int) (lo:Nat) (xs:Array Keyed) (k:Nat):Prop:=∀ i j,lo<=i->i<=j->j < lo+k->Kf κ xs i<=Kf κ xs j
def Dsc (κ:Keyed->Int) (lo:Nat) (xs:Array Keyed) (k:Nat):Prop:=∀ i j,lo<=i->i<=j->j < lo+k->Kf κ xs j<=Kf κ xs i
structure Bs (kd:SortKind) (a₀:Array Keyed) (lo:Nat) (pe:Array (Nat × Nat × Nat)) (st:SortSt):Prop where
 perm:(arrOf st).Perm a₀
 kind:kindOf st=kd
 failed:failedOf st=none
 pend:pendingOf st=pe
 low:∀ i,i < lo->(arrOf st)[i]? = a₀[i]?
variable {a₀:Array Keyed} {lo:Nat} {pe:Array (Nat × Nat × Nat)}
theorem Bs.size {st:SortSt} (h:Bs kd a₀ lo pe st):(arrOf st).size=a₀.size:=h.perm.size_eq
theorem Bs.put {st:SortSt} (h:Bs kd a₀ lo pe st) {xs:Array Keyed} (hp:xs.Perm (arrOf st)) (hl:∀ i,i < lo->xs[i]? = (arrOf st)[i]?):Bs kd a₀ lo pe (setArr st xs) :=
 ⟨hp.trans h.perm,h.kind,h.failed,h.pend,fun i hi=>(hl i hi).trans (h.low i hi)⟩
theorem Bs.at {st:SortSt} (h:Bs kd a₀ lo pe st) (h0:∀ x∈a₀.toList,El x) {i:Nat} (hi:i < a₀.size):∃ x,(arrOf st)[i]? = some x/\El x/\Kf κ (arrOf st) i=κ x:=by
 have hi':i < (arrOf st).size:=by rw [h.size];exact hi
 have hm:(arrOf st)[i]∈a₀.toList:=(Array.perm_iff_toList_perm.mp h.perm).mem_iff.mp (by simp)
 have e:(arrOf st)[i]? = some (arrOf st)[i]:=getElem?_pos _ i hi'
 exact ⟨_,e,h0 _ hm,by unfold Kf;rw [e]⟩
theorem C2 (C:Cmp prog w A E s kd El κ) {st:SortSt} {i j:Nat} {Q:Option Bool->SortSt->Prop} (hB:Bs kd a₀ lo pe st) (h0:∀ x∈a₀.toList,El x) (hi:i < a₀.size) (hj:j < a₀.size)
 (h:Q (some (decide (Kf κ (arrOf st) i < Kf κ (arrOf st) j))) st):wpS (model prog w) A E s (ltAt' i j) Q st:=by
 obtain ⟨x,e1,x1,k1⟩:=hB.at (κ:=κ) h0 hi
 obtain ⟨y,e2,y1,k2⟩:=hB.at (κ:=κ) h0 hj
 rw [k1,k2] at h
 delta ltAt'
 refine wpS_bind (wpS_get ?_)
 refine wpS_bind (Ah e1 (wpS_bind (Ah e2 ?_)))
 exact C.lt _ _ _ _ x1 y1 hB.kind h
theorem G3 {xs:Array Keyed} {src d:Nat} (hs:src < xs.size) (hd:d<=src) (k:Nat) :
 Kf κ (bubble xs src d) k=if k=src - d then Kf κ xs src else if src - d < k/\k<=src then Kf κ xs (k - 1) else Kf κ xs k:=by
 have e:=getElem?_bubble hs d hd k
 by_cases h1:k=src - d
 ·rw [if_pos h1] at e ⊢;exact CA e
 ·rw [if_neg h1] at e ⊢
  by_cases h2:src - d < k/\k<=src
  ·rw [if_pos h2] at e ⊢;exact CA e
  ·rw [if_neg h2] at e ⊢;exact CA e
theorem ES {xs:Array Keyed} {i j:Nat} (hj:j<=xs.size) (k:Nat) :
 Kf κ (mirror xs i j ((j - i) / 2)) k=if i<=k/\k < j then Kf κ xs (i+j - 1 - k) else Kf κ xs k:=by
 have e:=getElem?_mirror_all (i:=i) hj k
 by_cases h1:i<=k/\k < j
 ·rw [if_pos h1] at e ⊢;exact CA e
 ·rw [if_neg h1] at e ⊢;exact CA e
theorem Bk {xs:Array Keyed} {i j:Nat} (hj:j<=xs.size) (heq:∀ k,i<=k->k < j->Kf κ xs k=Kf κ xs (j - 1)) (k:Nat) :
 Kf κ (mirror xs i j ((j - i) / 2)) k=Kf κ xs k:=by
 rw [ES hj]
 split
 ·rw [heq _ (by lia) (by lia),heq k (by lia) (by lia)]
 ·rfl
theorem EG {st:SortSt} {i j:Nat} {Q:Unit->SortSt->Prop} (hB:Bs kd a₀ lo pe st) (hi:lo<=i) (hj:j<=a₀.size) (h:Bs kd a₀ lo pe (setArr st (mirror (arrOf st) i j ((j - i) / 2)))->Q () (setArr st (mirror (arrOf st) i j ((j - i) / 2)))) :
 wpS (model prog w) A E s (reverseSlice' i j) Q st:=by
 refine wpS_reverse (h (hB.put (mirror_perm _ _ _ _) fun k hk=>?_))
 rw [getElem?_mirror_all (by rw [hB.size];exact hj),if_neg (by lia)]
theorem IQ (C:Cmp prog w A E s kd El κ) {st:SortSt} {n ok:Nat} {Q:Bool->SortSt->Prop} (h0:∀ x∈a₀.toList,El x) (hn:lo+n<=a₀.size) (hok:ok<=n) (hB:Bs kd a₀ lo pe st) (hs:Seg κ lo (arrOf st) ok)
 (h:∀ st',Bs kd a₀ lo pe st'->Seg κ lo (arrOf st') n->Q true st'):wpS (model prog w) A E s (binarySort' lo n ok) Q st:=by
 rw [binarySort'_eq]
 refine wpS_bind (wpS_mono (wpS_forRange (I:=fun k c st'=>c=(none,())/\Bs kd a₀ lo pe st'/\Seg κ lo (arrOf st') (min k n))
  (Q:=fun c st'=>c=(none,())/\Bs kd a₀ lo pe st'/\Seg κ lo (arrOf st') n) ?step ?fin ?init) ?post)
 case post =>
  rintro c st' ⟨rfl,hB',hs'⟩
  exact wpS_pure (h st' hB' hs')
 case init =>
  refine ⟨rfl,hB,fun i j hl hij hj=>?_⟩
  by_cases h1:ok=0
  ·have:i=j:=by lia
   subst this;exact Int.le_refl _
  ·exact hs i j hl hij (by lia)
 case fin =>
  rintro c st' ⟨hc,hB',hs'⟩
  refine ⟨hc,hB',?_⟩
  rwa [show min (max (max ok 1) n) n=n by lia] at hs'
 case step =>
  rintro k c st' hak hkn ⟨rfl,hB',hs'⟩
  rw [show min k n=k by lia] at hs'
  have hk:lo+k < a₀.size:=by lia
  refine wpS_bind (wpS_mono (wpS_forRange (I:=fun x c st''=>st''=st'/\∃ l r,c=(none,l,r)/\l<=r/\r<=k/\r - l<=k - x /\
   (∀ i,lo<=i->i < lo+l->Kf κ (arrOf st') i<=Kf κ (arrOf st') (lo+k))/\(∀ i,lo+r<=i->i < lo+k->Kf κ (arrOf st') (lo+k) < Kf κ (arrOf st') i))
   (Q:=fun c st''=>st''=st'/\∃ l r,c=(none,l,r)/\l<=k /\
     (∀ i,lo<=i->i < lo+l->Kf κ (arrOf st') i<=Kf κ (arrOf st') (lo+k))/\(∀ i,lo+l<=i->i < lo+k->Kf κ (arrOf st') (lo+k) < Kf κ (arrOf st') i)) ?istep ?ifin ?iinit) ?ipost)
  case iinit=>exact ⟨rfl,0,k,rfl,by lia,by lia,by lia,fun i _ hi=>by lia,fun i h1 h2=>by lia⟩
  case ifin =>
   rintro c st'' ⟨rfl,l,r,rfl,hlr,hrk,hm,hlo,hhi⟩
   have:l=r:=by lia
   subst this
   exact ⟨rfl,l,l,rfl,hrk,hlo,hhi⟩
  case istep =>
   rintro x c st'' _ hxk ⟨rfl,l,r,rfl,hlr,hrk,hm,hlo,hhi⟩
   dsimp only
   by_cases hge:l ≥ r
   ·rw [if_pos hge]
    have:l=r:=by lia
    subst this
    exact wpS_pure ⟨rfl,l,l,rfl,hrk,hlo,hhi⟩
   ·rw [if_neg hge]
    refine wpS_bind (C2 C hB' h0 hk (by lia) ?_)
    by_cases hless:Kf κ (arrOf st'') (lo+k) < Kf κ (arrOf st'') (lo+(l+r) / 2)
    ·simp only [hless,decide_true,if_true]
     refine wpS_pure ⟨rfl,l,(l+r) / 2,rfl,by lia,by lia,by lia,hlo,fun i h1 h2=>?_⟩
     exact Int.lt_of_lt_of_le hless (hs' _ _ (by lia) h1 h2)
    ·simp only [hless,decide_false,Bool.false_eq_true,if_false]
     refine wpS_pure ⟨rfl,(l+r) / 2+1,r,rfl,by lia,by lia,by lia,fun i h0' h1=>?_,hhi⟩
     exact Int.le_trans (hs' i (lo+(l+r) / 2) h0' (by lia) (by lia)) (Int.not_lt.mp hless)
  case ipost =>
   rintro c st'' ⟨rfl,l,r,rfl,hlk,hlo,hhi⟩
   show wpS _ _ _ _ (do moveDown' (lo+k) (lo+l);pure (ForInStep.yield (none,()))) _ _
   rw [moveDown'_eq]
   have hks:lo+k < (arrOf st'').size:=by rw [hB'.size];exact hk
   refine wpS_bind (wpS_modify (wpS_pure ⟨rfl,hB'.put (bubble_perm _ _ _) (fun i hi=>?_),?_⟩))
   ·show (bubble (arrOf st'') (lo+k) (lo+k - (lo+l)))[i]? = _
    rw [getElem?_bubble hks _ (by lia),if_neg (by lia),if_neg (by lia)]
   rw [show min (k+1) n=k+1 by lia]
   intro i j hl hij hj
   show Kf κ (bubble (arrOf st'') (lo+k) (lo+k - (lo+l))) i<=Kf κ (bubble (arrOf st'') (lo+k) (lo+k - (lo+l))) j
   rw [G3 hks (by lia),G3 hks (by lia),show lo+k - (lo+k - (lo+l))=lo+l by lia]
   repeat' split
   all_goals first
    | (exfalso;lia)
    | exact Int.le_refl _
    | exact hlo _ (by lia) (by lia)
    | exact Int.le_of_lt (hhi _ (by lia) (by lia))
    | exact hs' _ _ (by lia) (by lia) (by lia)
theorem Gx {M:Model} {α:Type} {m:StateT SortSt Sem α} {R:α->SortSt->Prop} {st:SortSt} (P:SortSt->Prop) (Z:StateT SortSt Sem α) (h1:(∀ st',P st'->wpS M A E s Z R st')->wpS M A E s m R st) (h2:∀ st',P st'->wpS M A E s Z R st'):wpS M A E s m R st:=h1 h2
theorem MU {xs:Array Keyed}:Seg κ lo xs 1:=fun i j h1 h2 h3=>by
 have:i=j:=by lia
 subst this
 exact Int.le_refl _
theorem Seg.more {xs:Array Keyed} {x:Nat} (h:Seg κ lo xs x) (h1:1<=x) (hl:¬ Kf κ xs (lo+x) < Kf κ xs (lo+x - 1)):Seg κ lo xs (x+1):=fun i j h2 hij hj=>by
 by_cases hjx:j < lo+x
 ·exact h i j h2 hij hjx
 ·have e:j=lo+x:=by lia
  subst e
  by_cases e2:i=lo+x
  ·subst e2;exact Int.le_refl _
  ·exact Int.le_trans (h i (lo+x - 1) h2 (by lia) (by lia)) (Int.not_lt.mp hl)
theorem Dsc.more {xs:Array Keyed} {x:Nat} (h:Dsc κ lo xs x) (h1:1<=x) (hl:Kf κ xs (lo+x)<=Kf κ xs (lo+x - 1)):Dsc κ lo xs (x+1):=fun i j h2 hij hj=>by
 by_cases hjx:j < lo+x
 ·exact h i j h2 hij hjx
 ·have e:j=lo+x:=by lia
  subst e
  by_cases e2:i=lo+x
  ·subst e2;exact Int.le_refl _
  ·exact Int.le_trans hl (h i (lo+x - 1) h2 (by lia) (by lia))
theorem HY (C:Cmp prog w A E s kd El κ) {st:SortSt} {nrem:Nat} {Q:Option Nat->SortSt->Prop} (h0:∀ x∈a₀.toList,El x) (hn:lo+nrem<=a₀.size) (h1:1<=nrem) (hB:Bs kd a₀ lo pe st)
 (h:∀ m st',Bs kd a₀ lo pe st'->1<=m->m<=nrem->Seg κ lo (arrOf st') m->Q (some m) st'):wpS (model prog w) A E s (countRun' lo nrem) Q st:=by
 delta countRun'
 refine wpS_bind (wpS_mono (wpS_forRange (I:=fun x c st'=>st'=st/\c=(none,x)/\Seg κ lo (arrOf st) x)
  (Q:=fun c st'=>st'=st/\∃ n,c=(none,n)/\1<=n/\n<=nrem/\Seg κ lo (arrOf st) n/\(n=nrem\/Kf κ (arrOf st) (lo+n) < Kf κ (arrOf st) (lo+n - 1))) ?step ?fin ⟨rfl,rfl,MU⟩) ?post)
 case fin =>
  rintro c st' ⟨rfl,rfl,hs'⟩
  rw [show max 1 nrem=nrem by lia] at hs' ⊢
  exact ⟨rfl,nrem,rfl,h1,Nat.le_refl _,hs',.inl rfl⟩
 case step =>
  rintro x c st' hax hxn ⟨rfl,rfl,hs'⟩
  dsimp only
  refine wpS_bind (C2 C hB h0 (by lia) (by lia) ?_)
  by_cases hless:Kf κ (arrOf st') (lo+x) < Kf κ (arrOf st') (lo+x - 1)
  ·simp only [hless,decide_true,if_true]
   exact wpS_pure ⟨rfl,x,rfl,hax,by lia,hs',.inr hless⟩
  ·simp only [hless,decide_false,Bool.false_eq_true,if_false]
   exact wpS_pure ⟨rfl,rfl,hs'.more hax hless⟩
 case post =>
  rintro c st' ⟨rfl,n,rfl,hn1,hn2,hsn,hor⟩
  dsimp only
  by_cases hnn:n=nrem
  ·rw [if_pos (by simpa using hnn)]
   exact wpS_pure (h n _ hB hn1 hn2 hsn)
  rw [if_neg (by simpa using hnn)]
  have hlt:=hor.resolve_left hnn
  apply Gx (fun st'=>Bs kd a₀ lo pe st'/\Dsc κ lo (arrOf st') (n+1))
  case h1 =>
   intro zz
   by_cases hgt:n > 1
   ·rw [if_pos hgt]
    refine wpS_bind (C2 C hB h0 (by lia) (by lia) ?_)
    by_cases hrose:Kf κ (arrOf st') lo < Kf κ (arrOf st') (lo+n - 1)
    ·simp only [hrose,decide_true,if_true]
     exact wpS_pure (h n _ hB hn1 hn2 hsn)
    ·simp only [hrose,decide_false,Bool.false_eq_true,if_false]
     have hsz:lo+n<=(arrOf st').size:=by rw [hB.size];lia
     have hall:∀ k,lo<=k->k < lo+n->Kf κ (arrOf st') k=Kf κ (arrOf st') (lo+n - 1):=fun k hk1 hk2=>by
      have a1:=hsn lo k (Nat.le_refl _) hk1 hk2
      have a2:=hsn k (lo+n - 1) hk1 (by lia) (by lia)
      lia
     refine wpS_bind (EG hB (Nat.le_refl _) (by lia) fun hB2=>zz _ ⟨hB2,Dsc.more (fun i j hi hij hj=>?_) hn1 ?_⟩)
     ·show Kf κ (mirror (arrOf st') _ _ _) j<=Kf κ (mirror (arrOf st') _ _ _) i
      rw [Bk hsz hall,Bk hsz hall,hall i (by lia) (by lia),hall j (by lia) (by lia)]
      exact Int.le_refl _
     ·show Kf κ (mirror (arrOf st') _ _ _) _<=Kf κ (mirror (arrOf st') _ _ _) _
      rw [Bk hsz hall,Bk hsz hall]
      exact Int.le_of_lt hlt
   ·rw [if_neg hgt]
    have e:n=1:=by lia
    exact zz _ ⟨hB,Dsc.more (fun i j hi hij hj=>by
     have:i=j:=by lia
     subst this
     exact Int.le_refl _) hn1 (Int.le_of_lt hlt)⟩
  case h2 =>
   clear hB hsn hor hlt
   rintro st2 ⟨hB,hd⟩
   refine wpS_bind (wpS_lift (wpAny_rule ⟨rfl,?_⟩))
   refine wpS_bind (wpS_mono (wpS_forRange (I:=fun x c st'=>∃ neq,c=(none,x,neq)/\Bs kd a₀ lo pe st'/\Dsc κ lo (arrOf st') x/\neq+1<=x/\(∀ i,lo+x - (neq+1)<=i->i < lo+x->Kf κ (arrOf st') i=Kf κ (arrOf st') (lo+x - 1)))
    (Q:=fun c st'=>∃ x neq,c=(none,x,neq)/\Bs kd a₀ lo pe st'/\1<=x/\x<=nrem/\Dsc κ lo (arrOf st') x/\neq+1<=x/\(∀ i,lo+x - (neq+1)<=i->i < lo+x->Kf κ (arrOf st') i=Kf κ (arrOf st') (lo+x - 1))) ?dstep ?dfin ⟨0,rfl,hB,hd,by lia,fun i h1 h2=>by congr 1;lia⟩) ?dpost)
   case dfin =>
    rintro c st' ⟨neq,rfl,hB',hs',hq,he⟩
    rw [show max (n+1) nrem=nrem by lia] at hs' hq he ⊢
    exact ⟨_,_,rfl,hB',h1,Nat.le_refl _,hs',hq,he⟩
   case dstep =>
    rintro x c st' hax hxn ⟨neq,rfl,hB',hs',hq,he⟩
    dsimp only
    have hsz:lo+x<=(arrOf st').size:=by rw [hB'.size];lia
    refine wpS_bind (C2 C hB' h0 (by lia) (by lia) ?_)
    by_cases hless:Kf κ (arrOf st') (lo+x) < Kf κ (arrOf st') (lo+x - 1)
    ·simp only [hless,decide_true,if_true]
     have hm:=hs'.more (by lia) (Int.le_of_lt hless)
     by_cases hneq:neq > 0
     ·rw [if_pos hneq]
      refine wpS_bind (EG hB' (by lia) (by lia) fun hB2=>wpS_pure ⟨0,rfl,hB2,fun i j hi hij hj=>?_,by lia,fun i h1 h2=>by congr 1;lia⟩)
      show Kf κ (mirror (arrOf st') _ _ _) j<=Kf κ (mirror (arrOf st') _ _ _) i
      rw [Bk hsz he,Bk hsz he]
      exact hm i j hi hij hj
     ·rw [if_neg hneq]
      exact wpS_pure ⟨0,rfl,hB',hm,by lia,fun i h1 h2=>by congr 1;lia⟩
    ·simp only [hless,decide_false,Bool.false_eq_true,if_false]
     refine wpS_bind (C2 C hB' h0 (by lia) (by lia) ?_)
     by_cases hlarger:Kf κ (arrOf st') (lo+x - 1) < Kf κ (arrOf st') (lo+x)
     ·simp only [hlarger,decide_true,if_true]
      exact wpS_pure ⟨_,_,rfl,hB',by lia,by lia,hs',hq,he⟩
     ·simp only [hlarger,decide_false,Bool.false_eq_true,if_false]
      have heqx:Kf κ (arrOf st') (lo+x)=Kf κ (arrOf st') (lo+x - 1):=by lia
      refine wpS_pure ⟨neq+1,rfl,hB',hs'.more (by lia) (by lia),by lia,fun i h1 h2=>?_⟩
      rw [show lo+(x+1) - 1=lo+x by lia]
      by_cases hix:i=lo+x
      ·subst hix;rfl
      ·rw [heqx];exact he i (by lia) (by lia)
   case dpost =>
    rintro c st3 ⟨x,neq,rfl,hB3,hx1,hx2,hs3,hq,he⟩
    dsimp only
    have hsz:lo+x<=(arrOf st3).size:=by rw [hB3.size];lia
    apply Gx (fun st'=>Bs kd a₀ lo pe st'/\Dsc κ lo (arrOf st') x)
    case h1 =>
     intro zz
     by_cases hneq:neq > 0
     ·rw [if_pos hneq]
      refine wpS_bind (EG hB3 (by lia) (by lia) fun hB2=>zz _ ⟨hB2,fun i j hi hij hj=>?_⟩)
      show Kf κ (mirror (arrOf st3) _ _ _) j<=Kf κ (mirror (arrOf st3) _ _ _) i
      rw [Bk hsz he,Bk hsz he]
      exact hs3 i j hi hij hj
     ·rw [if_neg hneq]
      exact zz _ ⟨hB3,hs3⟩
    case h2 =>
     clear hB3 hs3 he hsz
     rintro st4 ⟨hB4,hs4⟩
     have hsz:lo+x<=(arrOf st4).size:=by rw [hB4.size];lia
     refine wpS_bind (EG hB4 (Nat.le_refl _) (by lia) fun hB5=>?_)
     have hsg:Seg κ lo (arrOf (setArr st4 (mirror (arrOf st4) lo (lo+x) ((lo+x - lo) / 2)))) x:=fun i j hi hij hj=>by
      show Kf κ (mirror (arrOf st4) _ _ _) i<=Kf κ (mirror (arrOf st4) _ _ _) j
      rw [ES hsz,ES hsz,if_pos (by lia),if_pos (by lia)]
      exact hs4 _ _ (by lia) (by lia) (by lia)
     generalize setArr st4 (mirror (arrOf st4) lo (lo+x) ((lo+x - lo) / 2))=st5 at hB5 hsg ⊢
     refine wpS_bind (wpS_mono (wpS_forRange (I:=fun x c st'=>st'=st5/\c=(none,x)/\Seg κ lo (arrOf st5) x)
      (Q:=fun c st'=>st'=st5/\∃ n,c=(none,n)/\1<=n/\n<=nrem/\Seg κ lo (arrOf st5) n) ?step ?fin ⟨rfl,rfl,hsg⟩) ?post)
     case fin =>
      rintro c st' ⟨rfl,rfl,hs'⟩
      rw [show max x nrem=nrem by lia] at hs' ⊢
      exact ⟨rfl,nrem,rfl,h1,Nat.le_refl _,hs'⟩
     case step =>
      rintro y c st' hax hxn ⟨rfl,rfl,hs'⟩
      dsimp only
      refine wpS_bind (C2 C hB5 h0 (by lia) (by lia) ?_)
      by_cases hless:Kf κ (arrOf st') (lo+y) < Kf κ (arrOf st') (lo+y - 1)
      ·simp only [hless,decide_true,if_true]
       exact wpS_pure ⟨rfl,y,rfl,by lia,by lia,hs'⟩
      ·simp only [hless,decide_false,Bool.false_eq_true,if_false]
       exact wpS_pure ⟨rfl,rfl,hs'.more (by lia) hless⟩
     case post =>
      rintro c st' ⟨rfl,m,rfl,hm1,hm2,hsm⟩
      exact wpS_pure (h m _ hB5 hm1 hm2 hsm)
end
section
variable {prog:Program} {w:World} {A:Around} {E:Value->Shared->Prop} {s:Shared} {kd:SortKind} {El:Keyed->Prop} {κ:Keyed->Int} {a₀:Array Keyed}
theorem Cm {xs:Array Keyed} {i:Nat} (h:i < xs.toList.length):Kf κ xs i=κ xs.toList[i]:=by
 unfold Kf
 rw [Ac h]
theorem GV {xs:Array Keyed} {n:Nat} (h:Seg κ 0 xs n):Srt κ (xs.toList.take n):=List.pairwise_iff_getElem.mpr fun i j hi hj hij=>by
 rw [List.length_take] at hi hj
 have:=h i j (Nat.zero_le _) (by lia) (by lia)
 rw [Cm (by lia),Cm (by lia)] at this
 simpa using this
theorem JD {xs:Array Keyed} {n m:Nat} (h:Seg κ n xs m) (hs:xs.toList.length=n+m):Srt κ (xs.toList.drop n):=List.pairwise_iff_getElem.mpr fun i j hi hj hij=>by
 rw [List.length_drop] at hi hj
 have:=h (n+i) (n+j) (by lia) (by lia) (by lia)
 rw [Cm (by lia),Cm (by lia)] at this
 rw [List.getElem_drop,List.getElem_drop]
 exact this
structure Dn (kd:SortKind) (κ:Keyed->Int) (a₀:Array Keyed) (st:SortSt):Prop where
 perm:(arrOf st).toList.Perm a₀.toList
 kind:kindOf st=kd
 failed:failedOf st=none
 pend:(pendingOf st).size<=1
 srt:Srt κ (arrOf st).toList
structure Tw (kd:SortKind) (κ:Keyed->Int) (a₀:Array Keyed) (n1 n2 pw:Nat) (st:SortSt):Prop where
 perm:(arrOf st).toList.Perm a₀.toList
 kind:kindOf st=kd
 failed:failedOf st=none
 pend:pendingOf st = #[(0,n1,pw),(n1,n2,0)]
 l1:0 < n1
 l2:0 < n2
 len:n1+n2=a₀.size
 s1:Srt κ ((arrOf st).toList.take n1)
 s2:Srt κ ((arrOf st).toList.drop n1)
theorem Kj {n:Nat} (h1:1<=n) (h:n < 64):minRun' n n 0=n:=by
 obtain ⟨f,hf⟩:∃ f,n=f+1:=⟨n - 1,by lia⟩
 have:minRun' (f+1) n 0=n:=by rw [minRun'_succ,if_pos h];rfl
 rwa [<- hf] at this
theorem Je:minRun' 64 64 0=32:=rfl
theorem Ib (C:Cmp prog w A E s kd El κ) {st:SortSt} {Q:Unit->SortSt->Prop} (h0:∀ x∈a₀.toList,El x) (hB:Bs kd a₀ 0 #[] st) (h2:2<=a₀.size) (h64:a₀.size<=64)
 (h:∀ st',(arrOf st').toList.Perm a₀.toList->failedOf st'=none->Srt κ (arrOf st').toList->Q () st'):wpS (model prog w) A E s sortRuns' Q st:=by
 have hlen:∀ {st'},(arrOf st').toList.Perm a₀.toList->(arrOf st').toList.length=a₀.size:=fun hp=>by rw [hp.length_eq,Array.length_toList]
 have hmr:minRun' a₀.size a₀.size 0=a₀.size/\a₀.size < 64\/minRun' a₀.size a₀.size 0=32/\a₀.size=64:=by
  rcases Nat.lt_or_ge a₀.size 64 with z | z
  ·exact .inl ⟨Kj (by lia) z,z⟩
  ·have:a₀.size=64:=by lia
   exact .inr ⟨by rw [this];exact Je,this⟩
 rw [sortRuns'_eq]
 refine wpS_bind (wpS_get ?_)
 dsimp only
 rw [hB.size]
 generalize minRun' a₀.size a₀.size 0=mr at hmr ⊢
 refine wpS_bind (wpS_mono (wpS_forRange
  (I:=fun x c st'=>(x=0/\c=(none,0)/\Bs kd a₀ 0 #[] st')\/(1<=x/\c=(none,a₀.size)/\(Dn kd κ a₀ st'\/∃ n1 n2 pw,Tw kd κ a₀ n1 n2 pw st'))\/(x=1/\a₀.size=64/\mr=32/\∃ n1,c=(none,n1)/\32<=n1/\n1 < 64/\Bs kd a₀ 0 #[(0,n1,0)] st'/\Seg κ 0 (arrOf st') n1))
  (Q:=fun c st'=>c=(none,a₀.size)/\(Dn kd κ a₀ st'\/∃ n1 n2 pw,Tw kd κ a₀ n1 n2 pw st')) ?step ?fin (.inl ⟨rfl,rfl,hB⟩)) ?post)
 case fin =>
  rintro c st' (⟨hx,_,_⟩ | ⟨_,hc,hD⟩ | ⟨hx,_,_⟩)
  ·lia
  ·exact ⟨hc,hD⟩
  ·lia
 case step =>
  rintro x c st' _ hx (⟨rfl,rfl,hB'⟩ | ⟨hx1,rfl,hD⟩ | ⟨rfl,e64,rfl,n1,rfl,h32,hn1,hB',hs'⟩)
  ·dsimp only
   rw [if_neg (by lia),Nat.sub_zero]
   refine wpS_bind (HY C h0 (by lia) (by lia) hB' fun m st2 hB2 hm1 hm2 hs2=>?_)
   dsimp only
   have fin:∀ n st3,Bs kd a₀ 0 #[] st3->Seg κ 0 (arrOf st3) n->mr<=n->n<=a₀.size->(n=a₀.size/\Dn kd κ a₀ (setPending st3 ((pendingOf st3).push (0,n,0))))\/(a₀.size=64/\mr=32/\32<=n/\n < 64/\Bs kd a₀ 0 #[(0,n,0)] (setPending st3 ((pendingOf st3).push (0,n,0)))/\Seg κ 0 (arrOf st3) n):=fun n st3 hB3 hs3 hn1 hn2=>by
    by_cases e:n=a₀.size
    ·refine .inl ⟨e,Array.perm_iff_toList_perm.mp hB3.perm,hB3.kind,hB3.failed,?_,?_⟩
     ·show ((pendingOf st3).push _).size<=1
      rw [hB3.pend]
      exact Nat.le_refl _
     ·show Srt κ (arrOf st3).toList
      have:=GV hs3
      rwa [List.take_of_length_le (by rw [hlen (Array.perm_iff_toList_perm.mp hB3.perm)];lia)] at this
    ·rcases hmr with ⟨z1,z2⟩ | ⟨z1,z2⟩
     ·lia
     ·refine .inr ⟨z2,z1,by lia,by lia,⟨hB3.perm,hB3.kind,hB3.failed,?_,fun i hi=>by lia⟩,hs3⟩
      show (pendingOf st3).push _=_
      rw [hB3.pend]
      rfl
   by_cases hlt:m < mr
   ·rw [if_pos hlt]
    refine wpS_bind (wpS_lift (wpAny_rule ⟨rfl,?_⟩))
    have hmin:min a₀.size mr=mr:=by lia
    rw [hmin]
    refine wpS_bind (IQ C h0 (by lia) (by lia) hB2 hs2 fun st3 hB3 hs3=>?_)
    simp only [Bool.not_true,Bool.false_eq_true,if_false]
    refine wpS_bind (wpS_get ?_)
    have hb:(pendingOf st3).back? = none:=by rw [hB3.pend];rfl
    rw [hb]
    dsimp only
    refine wpS_bind (wpS_modify (wpS_pure ?_))
    rcases fin mr st3 hB3 hs3 (Nat.le_refl _) (by lia) with ⟨e,d⟩ | ⟨e1,e2,e3,e4,e5,e6⟩
    ·exact .inr (.inl ⟨by lia,by rw [Nat.zero_add,e],.inl d⟩)
    ·exact .inr (.inr ⟨by first | trivial | rfl,e1,e2,mr,by rw [Nat.zero_add],e3,e4,e5,e6⟩)
   ·rw [if_neg hlt]
    refine wpS_bind (wpS_get ?_)
    have hb:(pendingOf st2).back? = none:=by rw [hB2.pend];rfl
    rw [hb]
    dsimp only
    refine wpS_bind (wpS_modify (wpS_pure ?_))
    rcases fin m st2 hB2 hs2 (by lia) hm2 with ⟨e,d⟩ | ⟨e1,e2,e3,e4,e5,e6⟩
    ·exact .inr (.inl ⟨by lia,by rw [Nat.zero_add,e],.inl d⟩)
    ·exact .inr (.inr ⟨by first | trivial | rfl,e1,e2,m,by rw [Nat.zero_add],e3,e4,e5,e6⟩)
  ·dsimp only
   rw [if_pos (Nat.le_refl _)]
   exact wpS_pure ⟨rfl,hD⟩
  ·dsimp only
   rw [if_neg (by lia)]
   have hsz:(arrOf st').size=a₀.size:=hB'.size
   have h0':∀ x∈(arrOf st').toList,El x:=fun x hx=>h0 x ((Array.perm_iff_toList_perm.mp hB'.perm).mem_iff.mp hx)
   have hB1:Bs kd (arrOf st') n1 #[(0,n1,0)] st':=⟨Array.Perm.refl _,hB'.kind,hB'.failed,hB'.pend,fun _ _=>rfl⟩
   refine wpS_bind (HY C h0' (by lia) (by lia) hB1 fun m st2 hB2 hm1 hm2 hs2=>?_)
   dsimp only
   have fin:∀ st3,Bs kd (arrOf st') n1 #[(0,n1,0)] st3->Seg κ n1 (arrOf st3) (a₀.size - n1)->∀ pw,Tw kd κ a₀ n1 (a₀.size - n1) pw (setPending (setPending st3 #[(0,n1,pw)]) #[(0,n1,pw),(n1,a₀.size - n1,0)]):=fun st3 hB3 hs3 pw=>by
    have hp:(arrOf st3).toList.Perm a₀.toList:=(Array.perm_iff_toList_perm.mp hB3.perm).trans (Array.perm_iff_toList_perm.mp hB'.perm)
    refine ⟨hp,hB3.kind,hB3.failed,rfl,by lia,by lia,by lia,?_,?_⟩
    ·refine GV fun i j hi hij hj=>?_
     show Kf κ (arrOf st3) i<=Kf κ (arrOf st3) j
     rw [CA (hB3.low i (by lia)),CA (hB3.low j (by lia))]
     exact hs' i j hi hij hj
    ·exact JD (xs:=arrOf st3) hs3 (by rw [hlen hp];lia)
   have fin2:∀ st3,Bs kd (arrOf st') n1 #[(0,n1,0)] st3->Seg κ n1 (arrOf st3) (a₀.size - n1)->∀ pw,Tw kd κ a₀ n1 (a₀.size - n1) pw (setPending (setPending st3 ((pendingOf st3).modify ((pendingOf st3).size - 1) fun (st,len,_)=>(st,len,pw))) ((pendingOf (setPending st3 ((pendingOf st3).modify ((pendingOf st3).size - 1) fun (st,len,_)=>(st,len,pw)))).push (n1,a₀.size - n1,0))):=fun st3 hB3 hs3 pw=>by
    have e:(pendingOf st3).modify ((pendingOf st3).size - 1) (fun (st,len,_)=>(st,len,pw)) = #[(0,n1,pw)]:=by
     rw [hB3.pend]
     simp [Array.modify,Array.modifyM,Id.run]
     try rfl
    rw [e]
    exact fin st3 hB3 hs3 pw
   have e32:∀ m,¬ m < 32->m<=a₀.size - n1->m=a₀.size - n1:=fun m _ _=>by lia
   by_cases hlt:m < 32
   case' pos =>
    rw [if_pos hlt]
    refine wpS_bind (wpS_lift (wpAny_rule ⟨rfl,?_⟩))
    have hmin:min (a₀.size - n1) 32=a₀.size - n1:=by lia
    rw [hmin]
    refine wpS_bind (IQ C h0' (by lia) (by lia) hB2 hs2 fun st3 hB3 hs3=>?_)
    simp only [Bool.not_true,Bool.false_eq_true,if_false]
   case' neg =>
    rw [if_neg hlt]
    have hs3:=hs2
    have hB3:=hB2
    rw [e32 m hlt hm2] at hs3 ⊢
    refine (fun z:∀ st3,Bs kd (arrOf st') n1 #[(0,n1,0)] st3->Seg κ n1 (arrOf st3) (a₀.size - n1)->wpS (model prog w) A E s _ _ st3=>z st2 hB3 hs3) ?_
    clear hs3 hB3
    intro st3 hB3 hs3
   all_goals
    refine wpS_bind (wpS_get ?_)
    have hb:(pendingOf st3).back? = some (0,n1,0):=by rw [hB3.pend];rfl
    rw [hb]
    dsimp only
    generalize power' _ _ _ _=pw
    refine wpS_bind (wpS_mono (wpS_forRange (I:=fun _ c st4=>c=(none,())/\st4=st3) (Q:=fun c st4=>c=(none,())/\st4=st3) ?_ (fun _ _ hh=>hh) ⟨rfl,rfl⟩) ?_)
    ·rintro y c st4 _ _ ⟨rfl,rfl⟩
     refine wpS_bind (wpS_get ?_)
     rw [hB3.pend,if_neg (by simp)]
     exact wpS_pure ⟨rfl,rfl⟩
    ·rintro c st4 ⟨rfl,rfl⟩
     dsimp only
     refine wpS_bind (wpS_modify (wpS_bind (wpS_modify (wpS_pure (.inr (.inl ⟨by lia,by rw [show n1+(a₀.size - n1)=a₀.size by lia],.inr ⟨n1,a₀.size - n1,pw,?_⟩⟩))))))
     exact fin2 st4 hB3 hs3 pw
 case post =>
  rintro c st' ⟨rfl,hD⟩
  dsimp only
  refine wpS_bind (wpS_mono (wpS_forRange (I:=fun x c st''=>c=(none,())/\(Dn kd κ a₀ st''\/x=0/\∃ n1 n2 pw,Tw kd κ a₀ n1 n2 pw st'')) (Q:=fun c st''=>c=(none,())/\Dn kd κ a₀ st'') ?_ ?_ ⟨rfl,hD.imp id fun z=>⟨rfl,z⟩⟩) ?_)
  ·rintro x c st2 _ _ ⟨rfl,hD⟩
   refine wpS_bind (wpS_get ?_)
   rcases hD with hD | ⟨rfl,n1,n2,pw,hT⟩
   ·rw [if_pos hD.pend]
    exact wpS_pure ⟨rfl,hD⟩
   ·rw [hT.pend,if_neg (by simp)]
    have h0':∀ x∈(arrOf st2).toList,El x:=fun x hx=>h0 x (hT.perm.mem_iff.mp hx)
    refine wpS_bind (Ka C hT.kind hT.failed hT.pend hT.l1 hT.l2 (by rw [hlen hT.perm,hT.len]) h0' hT.s1 hT.s2 fun st3 k3 f3 p3 perm3 srt3=>?_)
    exact wpS_pure ⟨rfl,.inl ⟨perm3.trans hT.perm,k3,f3,by rw [p3];exact Nat.le_refl _,srt3⟩⟩
  ·rintro c st2 ⟨rfl,hD | ⟨z,_⟩⟩
   ·exact ⟨rfl,hD⟩
   ·lia
  ·rintro c st2 ⟨rfl,hD⟩
   exact wpS_pure (h _ hD.perm hD.failed hD.srt)
end
section
variable {prog:Program} {w:World} {A:Around} {E:Value->Shared->Prop} {s:Shared}
abbrev nκ (p:Keyed):Int:=numOf p.1
theorem NU:Cmp prog w A E s oneType' (fun p=>∃ n t,p.1=.int n t) nκ:=⟨fun x y st Q hx hy hk h=>by
 obtain ⟨a,t,ea⟩:=hx
 obtain ⟨b,u,eb⟩:=hy
 rw [lt'_eq]
 refine wpS_bind (wpS_get ?_)
 rw [hk,keyLt'_oneType,ea,eb]
 refine wpS_bind (wpS_lift (wpAny_attempt (oneLt_int ⟨rfl,?_⟩)))
 unfold nκ at h
 rw [ea,eb] at h
 exact wpS_pure h⟩
theorem Jk {xs:Array Keyed} (h:Srt nκ xs.toList) {n:Nat} (hn:n=xs.size):SortedTo xs n:=fun i j hij hj=>by
 have h2:j < xs.toList.length:=by rw [Array.length_toList];lia
 have e:∀ i,K xs i=Kf nκ xs i:=fun i=>rfl
 rw [e,e,Cm (by lia),Cm h2]
 exact Au h hij h2
theorem NC {a:Addr} {vs:List Value} {ns:List Int} {n:Nat} {P:PySem.Fin->Shared->Prop} (ho:s.heap.get? a=some (seqObj "list" vs.toArray n))
 (hI:IntsAre vs ns) (h64:vs.length<=64)
 (h:∀ (out:Array Value) (ns':List Int),IntsAre out.toList ns'->ns'.Perm ns->ns'.Pairwise (· <= ·)->P (.done (.ret .none)) { s with heap:=sortedHeap s.heap a vs out }) :
 wpAny (model prog w) A (Builtin.«list.sort» ⟨[.ref a],[]⟩) P E s:=by
 rcases Nat.lt_or_ge vs.length 64 with hlt | hge
 ·exact list_sort_tree ho hI hlt h
 rw [list_sort_plain]
 have ha:a < s.heap.objs.size:=Heap.lt_size ho
 refine wpAny_bind (listItems_at ho rfl ?_)
 refine wpAny_bind (listUpdate_at ho rfl ?_ (by rw [List.size_toArray,sizeLine_eq];lia))
 obtain ⟨e1,ho1⟩:∃ e1,(s.heap.update a (Obj.mapSeq fun _=>#[])).get? a=some (seqObj "list" #[] e1):=⟨_,get?_update_seq ho (fun _=>#[])⟩
 refine wpAny_bind (seqEpoch_at ho1 rfl ?_)
 refine wpAny_bind (wpAny_newTuple ?_ (by rw [sizeLine_eq,show vs.toArray.toList=vs from rfl];lia))
 refine wpAny_bind (wpAny_newList ?_)
 refine wpAny_holding ?_
 have ho6:(((s.heap.update a (Obj.mapSeq fun _=>#[])).push (seqObj "tuple" vs.toArray 0)).push (seqObj "list" #[] 0)).get? a=some (seqObj "list" #[] e1):=by
  rw [Heap.get?_push_ne _ _ _ (by rw [size_push',Heap.size_update];exact Nat.ne_of_lt (Nat.lt_succ_of_lt ha)),Heap.get?_push_ne _ _ _ (by rw [Heap.size_update];exact Nat.ne_of_lt ha)]
  exact ho1
 show wpAny (model prog w) A _ P E { s with heap:=((s.heap.update a (Obj.mapSeq fun _=>#[])).push (seqObj "tuple" vs.toArray 0)).push (seqObj "list" #[] 0) }
 dsimp only
 have h2:¬ vs.toArray.size < 2:=by rw [List.size_toArray];lia
 rw [if_neg h2,if_neg h2]
 have ek:keyKind' vs.toArray=pure oneType':=by
  match vs,hge,hI with
  | v₁::v₂::rest,_,hI=>exact keyKind_ints hI
 rw [ek]
 refine wpAny_bind (wpAny_pure ?_)
 refine wpAny_bind (wpAny_mono (Ib (a₀:=pairsOf vs) NU (st:=SortSt.mk' oneType' (vs.toArray.zip vs.toArray) #[] 7 none)
  (Q:=fun _ st'=>(arrOf st').toList.Perm (pairsOf vs).toList/\failedOf st'=none/\Srt nκ (arrOf st').toList)
  (fun x hx=>hI.intKeys x hx) ⟨Array.Perm.refl _,rfl,rfl,rfl,fun _ _=>rfl⟩ (by rw [pairsOf_size];lia) (by rw [pairsOf_size];exact h64) fun st' a1 a2 a3=>⟨a1,a2,a3⟩) ?_ fun _ _ e=>e)
 rintro ⟨⟨⟩,st'⟩ s' ⟨rfl,hp,hf,hs⟩
 dsimp only
 have hp':=Array.perm_iff_toList_perm.mpr hp
 refine wpAny_bind (seqEpoch_at ho6 rfl ?_)
 refine wpAny_bind (listUpdate_at ho6 rfl ?_ (hsz2:=by refine Nat.le_trans (Nat.le_of_eq ((Array.size_map ..).trans (hp'.size_eq.trans (pairsOf_size _)))) ?_;rw [sizeLine_eq];lia))
 rw [hf]
 simp only [bne_self_eq_false,Bool.false_eq_true,if_false]
 obtain ⟨ns',b1,b2,b3⟩:=sorted_out hI hp' (Jk hs hp'.size_eq.symm)
 exact wpAny_pure (h _ ns' b1 b2 b3)
end
end L2
namespace L2
open PySem PySem.Spec PyProof.Rows PySem.W
def Db:List V->Hp->VK->Prop:=fun xs H Q=>match xs with
 | [.ref d]=>∃ ps:List (Int × V),H d=some (.dK (ps.map fun q=>(Sum.inl q.1,q.2)))/\ps.length<=64/\∀ (ms:List Int) p,ms.Perm (ps.map (·.1))->ms.Pairwise (· <= ·)->H p=none->Q (.ref p) (upd H p (.lst (ms.map V.int)))
 | _=>False
section
variable {P:Program} {w:World} {A:Around} {E:Value->Shared->Prop} {s:Shared} {a:Addr}
theorem OD {T:String} {r d:Addr} {n:Nat} {P':Nat->Value->Prop} {OK:Heap->Prop} {R:List Value->Shared->Prop} (K:KdlSrc P w T r d n P' OK) (hh:A.handled=none) (hok:OK s.heap) (hn:n<=sizeLine)
 (fin:∀ (h':Heap) (tk:Nat) (acc:Array Value),(∀ b o,s.heap.get? b=some o->h'.get? b=some o)->s.heap.objs.size < h'.objs.size->ItemsOf P' acc n->R acc.toList { s with heap:=h',toks:=tk }) :
 wpAny (model P w) A (collect (.ref r)) R E s:=by
 have hlt:=K.there _ hok
 unfold collect
 refine wpAny_bind (wpAny_runValue (codeAny_builtin entry_proto_collect' ?_))
 rw [Around.under_plainId PySem.F.plain_proto_collect _]
 show wpAny _ A.in1 (newList [] >>= fun l=>again (.builtin "list.__iadd__" ⟨[l,.ref r],[]⟩)) _ _ s
 refine wpAny_bind (wpAny_newObj_type (wpAny_pure ⟨plainId_quiet PySem.F.plain_list_iadd _,codeAny_builtin entry_list_iadd' ?_⟩))
 rw [Around.under_plainId PySem.F.plain_list_iadd _]
 have g1:(s.heap.push { cls:=.type "list",data:=.seq ([]:List Value).toArray }).get? s.heap.objs.size=some { cls:=.type "list",data:=.seq #[] }:=Heap.get?_push_size _ rfl
 show wpAny _ A.in1 (Builtin.List.listExtendWith (.ref s.heap.objs.size) (.ref r) (.ref s.heap.objs.size)) _ _ _
 refine wpAny_mono (kdl_extend (A:=A) (s:={ s with heap:=s.heap.push { cls:=.type "list",data:=.seq ([]:List Value).toArray } })
  (R:=fun (q:Result) (s':Shared)=>∃ (h':Heap) (tk:Nat) (acc:Array Value) (c:Nat),q=.ok (.ret (.ref s.heap.objs.size))/\s' = { s with heap:=h',toks:=tk } /\
    (∀ b o,s.heap.get? b=some o->h'.get? b=some o)/\h'.get? s.heap.objs.size=some { cls:=.type "list",dict:=none,data:=.seq acc c,slots:=#[] } /\ ItemsOf P' acc n)
  K hh (K.keep _ _ hok fun b _ o e=>Heap.get?_push_of_some _ e) s.heap.objs.size (Nat.ne_of_gt hlt.1) (Nat.ne_of_gt hlt.2) (.ref s.heap.objs.size) 0 g1
  (fun h' tk acc c hk hS hacc=>⟨h',tk,acc,c,rfl,rfl,fun b o e=>hk b o (Nat.ne_of_lt (Heap.lt_size e)) (Heap.get?_push_of_some _ e),hS,hacc⟩) hn) (fun q s' x=>?_) fun e s' x=>?_
 ·cases q with
  | done f =>
   obtain ⟨h',tk,acc,c,e,rfl,hk,hS,hacc⟩:=x
   cases e
   show wpAny _ A (load s.heap.objs.size >>= _) _ _ _
   exact wpAny_bind (wpAny_load hS (wpAny_pure (fin h' tk acc hk (Heap.lt_size hS) hacc)))
  | again c₁ =>
   refine ⟨x.1,codeAny_mono x.2 fun q s₂ y=>?_⟩
   obtain ⟨h',tk,acc,c,rfl,rfl,hk,hS,hacc⟩:=y
   show wpAny _ A (load s.heap.objs.size >>= _) _ _ _
   exact wpAny_bind (wpAny_load hS (wpAny_pure (fin h' tk acc hk (Heap.lt_size hS) hacc)))
 ·obtain ⟨_,_,_,_,e',_⟩:=x
  cases e'
theorem JQ {d:Addr} {kvs:List (Key × Value)} {ep:Nat} {ns:List Int} {Q:Value->Shared->Prop} (hh:A.handled=none) (lo:(d == sysModules)=false) (hd:s.heap.DictAt (Af P w) d kvs ep) (hk:kvs.map (·.1)=ns.map Sum.inl) (h64:ns.length<=64)
 (fin:∀ (h':Heap) tk (p:Addr) (ms:List Int) (out:Array Value) (e:Nat),ms.Perm ns->ms.Pairwise (· <= ·)->IntsAre out.toList ms->h'.get? p=some (seqObj "list" out e)->s.heap.objs.size<=p->(∀ b o,s.heap.get? b=some o->h'.get? b=some o)->Q (.ref p) { s with heap:=h',toks:=tk }) :
 wpAny (model P w) A (call (.builtin "sorted") [.ref d]) Q E s:=by
 have hlen:kvs.length=ns.length:=by have:=congrArg List.length hk;simpa using this
 have hz:kvs.length<=sizeLine:=Nat.le_trans (by lia) (show 64<=sizeLine by decide)
 refine Calls.call_function_entry kind_sorted plain_sorted entry_sorted (args_sorted1 _) ?_
 unfold Builtin.«sorted»
 refine wpAny_bind (m:=checkCount "sorted" 1 1 _) (wpAny_pure (wpAny_bind (OD (A:=A.in1) (kdl_dict lo) hh hd hz fun h' tk acc hkp hsz hacc=>?_)))
 have hl:acc.toList.length=ns.length:=by rw [Array.length_toList,hacc.1,hlen]
 have hat:∀ (i:Nat) v,acc.toList[i]? = some v->∃ (k:Int) (t:Tok),ns[i]? = some k/\v=.int k t:=fun i v e=>by
  obtain ⟨k,x,e1,e2⟩:=hacc.2 i v (by rw [<- Array.getElem?_toList];exact e)
  have e3:(kvs.map (·.1))[i]? = some k:=by rw [List.getElem?_map,e1];rfl
  rw [hk,List.getElem?_map] at e3
  obtain ⟨j,e4,rfl⟩:=Option.map_eq_some_iff.mp e3
  have e2:BZ (Sum.inl j) v=true:=e2
  rcases keyIs_shape e2 with ⟨j',t',e5,rfl⟩ | ⟨_,_,e5,_⟩
  ·cases e5;exact ⟨j,t',e4,rfl⟩
  ·cases e5
 have hI:IntsAre acc.toList ns:=by
  have h1:=intsAre_map acc.toList (fun v hv=>by
   obtain ⟨i,hi,ei⟩:=List.getElem_of_mem hv
   obtain ⟨k,t,_,e⟩:=hat i v (by rw [List.getElem?_eq_getElem hi,ei])
   exact ⟨k,t,e⟩)
  have e:acc.toList.map numOf=ns:=by
   apply List.ext_getElem
   ·rw [List.length_map,hl]
   ·intro i h1 h2
    have h3:i < acc.toList.length:=by rw [hl];exact h2
    obtain ⟨k,t,e1,e2⟩:=hat i acc.toList[i] (List.getElem?_eq_getElem h3)
    rw [List.getElem?_eq_getElem h2] at e1
    cases e1
    rw [List.getElem_map,e2]
    rfl
  rwa [e] at h1
 refine wpAny_bind (wpAny_newList ?_ (by rw [hl,<- hlen];exact hz))
 have hoL:(h'.push (seqObj "list" acc.toList.toArray 0)).get? h'.objs.size=some (seqObj "list" acc.toList.toArray 0):=Heap.get?_push_size _ rfl
 have hlt:s.heap.objs.size<=h'.objs.size:=Nat.le_of_lt hsz
 refine wpAny_bind (wpAny_holding (wpAny_call_entry slot_list_sort ⟨_,hoL,rfl⟩ entry_list_sort (NC hoL hI (by lia) fun out ns' a1 a2 a3=>⟨_,rfl,?_⟩) (args_list_sort _)))
 obtain ⟨e,he⟩:=sortedHeap_at (out:=out) hoL
 refine wpAny_pure ⟨_,rfl,fin _ tk h'.objs.size ns' out e a2 a3 a1 he hlt fun b o q=>?_⟩
 have hb:=hkp b o q
 have hlt2:=Heap.lt_size hb
 rw [sortedHeap_old (Nat.ne_of_lt hlt2) (by rw [Heap.size_push];exact Nat.lt_succ_of_lt hlt2)]
 exact Heap.get?_push_of_some _ hb
end
section
variable {X:Cx} {K:W.Frag} {P:Program} {w:World}
theorem Kt (hh:X.calm=true):CallR X (.builtin "sorted") Db:=by
 intro pins s σ H xs us Q I r h
 match xs,h with
 | [.ref d],h =>
 obtain ⟨ps,hd,hn,q⟩:=h
 obtain ⟨u,rfl,rx⟩:=B9 r
 cases rx
 obtain ⟨hl,hsm,vs,rv,dd⟩:=EA I.hok hd
 obtain ⟨o,es,ep,e1,e2,e3,_⟩:=id dd
 obtain ⟨da,_⟩:=Bm e1 e3 dd
 have rl:=rv.len
 rw [List.length_map] at rl
 have hkeys:vs.map (·.1)=(ps.map (·.1)).map Sum.inl:=by
  apply List.ext_getElem?
  intro i
  rcases Nat.lt_or_ge i ps.length with hi | hi
  ·have e0:(ps.map fun q=>((Sum.inl q.1:Key),q.2))[i]? = some (Sum.inl ps[i].1,ps[i].2):=by simp [hi]
   obtain ⟨v,e4,_⟩:=rv.get e0
   rw [List.getElem?_map,e4]
   simp [hi]
  ·rw [List.getElem?_eq_none (by rw [List.length_map];lia),List.getElem?_eq_none (by rw [List.length_map,List.length_map];lia)]
 refine JQ (ns:=ps.map (·.1)) (I.ok.hd hh) hsm da hkeys (by rw [List.length_map];exact hn) fun h' tk b ms out e m1 m2 hi hb hp hk=>?_
 refine ⟨.ref b,_,I.laid (t':=tk) (o:=.lst (ms.map V.int)) (fun b o e=>hk b o e) hp ?_,rfl,q ms _ m1 m2 (I.hok.fresh hp)⟩
 exact ⟨by rw [List.length_map,m1.length_eq,List.length_map];exact Nat.le_trans hn (by decide),out.toList,e,JJ hi,hb⟩
theorem Mu (hh:X.calm=true):CallR X (.builtin "sorted") Db:=Kt hh
theorem IL:Ck Db:=fun xs H Q Q' h q=>by
 unfold Db at *
 split at q
 ·obtain ⟨ns,a,b,q⟩:=q;exact ⟨ns,a,b,fun ds p x1 x2 x3=>h _ _ (q ds p x1 x2 x3)⟩
 ·exact q.elim
end
end L2
namespace L2
open PySem PySem.Spec PyProof.Rows PySem.W PySem.Calls
section
variable {P:Program} {w:World} {A:Around} {E:Value->Shared->Prop} {s:Shared}
theorem IU {v:Value} {Q:Bool->Shared->Prop} (h:Q true s):wpAny (model P w) A (eqBool v v) Q E s:=by
 unfold eqBool
 refine wpAny_holding ?_
 rw [if_pos (by simp)]
 exact wpAny_bind (wpAny_rule (wpAny_pure h))
def PairV (h:Heap) (v:Value) (k:Int):Prop:=∃ a t y o n,v=.ref a/\h.get? a=some o/\o.cls=.type "tuple" /\ o.data=.seq #[.int k t,y] n
theorem PairV.keep {h h':Heap} {v:Value} {k:Int} (p:PairV h v k) (e:∀ b o,o.cls=.type "tuple" -> h.get? b=some o->h'.get? b=some o):PairV h' v k:=by
 obtain ⟨a,t,u,o,n,rfl,ha,hc,hd⟩:=p
 exact ⟨a,t,u,o,n,rfl,e _ _ hc ha,hc,hd⟩
theorem Na {v v':Value} {k k':Int} {C:Bool->Shared->Prop} (h1:PairV s.heap v k) (h2:PairV s.heap v' k') (hs:k=k'->v=v') (h:C (decide (k < k')) s) :
 wpAny (model P w) A (keyLt' (tuples' true) v v') C (fun _ _=>False) s:=by
 obtain ⟨a,t,u,o,n,rfl,ha,hc,hd⟩:=h1
 obtain ⟨a',t',u',o',n',rfl,ha',hc',hd'⟩:=h2
 by_cases e:k=k'
 ·have e2:=hs e
  cases e2
  subst e
  refine kat_lt ha hd ha hd ?_
  show KatLex P w A true _ C [(.int k t,.int k t),(u,u)] 0 s
  refine kat_cons (IU (kat_yes (kat_cons (IU (kat_yes (kat_nil ?_))))))
  rw [show decide (k < k)=false by simp] at h
  exact h
 ·refine kat_lt ha hd ha' hd' ?_
  show KatLex P w A true _ C [(.int k t,.int k' t'),(u,u')] 0 s
  refine kat_cons (wpAny_eqBool_int (kat_go (fun e'=>absurd (by simpa using e') e) (fun _=>kat_no (oneLt_int h))))
theorem KN {vs:List Value} {κv:Value->Int} (hv:∀ v∈vs,PairV s.heap v (κv v)) (hu:∀ v∈vs,∀ v'∈vs,κv v=κv v'->v=v'):Cmp P w A E s (tuples' true) (fun p=>p.1∈vs) (fun p=>κv p.1):=⟨fun x y st Q hx hy hk h=>by
 rw [lt'_eq]
 refine wpS_bind (wpS_get ?_)
 rw [hk]
 refine wpS_bind (wpS_lift (wpAny_attempt (wpAny_mono (Na (hv _ hx) (hv _ hy) (hu _ hx _ hy) (C:=fun b s'=>s'=s/\b=decide (κv x.1 < κv y.1)) ⟨rfl,rfl⟩) ?_ fun _ _ e=>e.elim)))
 rintro b s' ⟨rfl,rfl⟩
 exact ⟨rfl,wpS_pure h⟩⟩
theorem Ij {h:Heap}:∀ {vs:List Value},(∀ v∈vs,∃ k,PairV h v k)->∃ fs:List Value,KatTups h vs fs/\fs.length=vs.length/\∀ f∈fs,∃ k t,f=.int k t
 | [],_=>⟨[],.nil,rfl,nofun⟩
 | v::vs,hv=>by
  obtain ⟨k,a,t,u,o,n,rfl,ha,hc,hd⟩:=hv v (by simp)
  obtain ⟨fs,h1,h2,h3⟩:=Ij (vs:=vs) fun v' h'=>hv v' (List.mem_cons_of_mem _ h')
  refine ⟨.int k t::fs,KatTups.cons ha hc hd rfl h1,by simp [h2],fun f hf=>?_⟩
  rcases List.mem_cons.mp hf with rfl | z
  ·exact ⟨k,t,rfl⟩
  ·exact h3 f z
theorem Km {a:Addr} {vs:List Value} {n:Nat} {R:PySem.Fin->Shared->Prop} {κv:Value->Int} (ho:s.heap.get? a=some (seqObj "list" vs.toArray n)) (hv:∀ v∈vs,PairV s.heap v (κv v)) (hu:∀ v∈vs,∀ v'∈vs,κv v=κv v'->v=v') (h64:vs.length<=64)
 (fin:∀ out:List Value,out.Perm vs->out.Pairwise (fun x y=>κv x<=κv y)->R (.done (.ret .none)) { s with heap:=sortedHeap s.heap a vs out.toArray }) :
 wpAny (model P w) A (Builtin.«list.sort» ⟨[.ref a],[]⟩) R E s:=by
 have hz:vs.length<=sizeLine:=by rw [sizeLine_eq];lia
 rw [list_sort_plain]
 have ha:a < s.heap.objs.size:=Heap.lt_size ho
 obtain ⟨e1,ho1⟩:∃ e1,(s.heap.update a (Obj.mapSeq fun _=>#[])).get? a=some (seqObj "list" #[] e1):=⟨_,get?_update_seq ho (fun _=>#[])⟩
 refine wpAny_bind (listItems_at ho rfl (wpAny_bind (listUpdate_at ho rfl (wpAny_bind (seqEpoch_at ho1 rfl (wpAny_bind (wpAny_newTuple (wpAny_bind (wpAny_newList (wpAny_holding ?_))) hz)))) (by rw [List.size_toArray];exact hz))))
 have ho6:(((s.heap.update a (Obj.mapSeq fun _=>#[])).push (seqObj "tuple" vs.toArray 0)).push (seqObj "list" #[] 0)).get? a=some (seqObj "list" #[] e1):=Heap.get?_push_of_some _ (Heap.get?_push_of_some _ ho1)
 show wpAny (model P w) A _ R E { s with heap:=((s.heap.update a (Obj.mapSeq fun _=>#[])).push (seqObj "tuple" vs.toArray 0)).push (seqObj "list" #[] 0) }
 dsimp only
 have kp:∀ b o,o.cls=.type "tuple" -> s.heap.get? b=some o->(((s.heap.update a (Obj.mapSeq fun _=>#[])).push (seqObj "tuple" vs.toArray 0)).push (seqObj "list" #[] 0)).get? b=some o:=fun b o hc e=>by
  have hba:b≠a:=fun z=>by
   rw [z,ho] at e
   cases e
   exact absurd hc (show ¬ (Value.type "list" = Value.type "tuple") by decide)
  exact Heap.get?_push_of_some _ (Heap.get?_push_of_some _ (by rw [Heap.get?_update_ne _ _ _ _ hba];exact e))
 have hsz:vs.toArray.size=vs.length:=by simp
 by_cases h2:vs.toArray.size < 2
 ·rw [if_pos h2,if_pos h2]
  refine wpAny_bind (wpAny_pure ?_)
  rw [StateT.run_pure]
  refine wpAny_bind (wpAny_pure ?_);dsimp only
  refine wpAny_bind (seqEpoch_at ho6 rfl (wpAny_bind (listUpdate_at ho6 rfl ?_ (hsz2:=by rw [Array.size_map];show (pairsOf vs).size<=_;rw [pairsOf_size,sizeLine_eq];lia))))
  simp only [bne_self_eq_false,Bool.false_eq_true,if_false]
  have e:((vs.toArray.zip vs.toArray).map (·.2))=vs.toArray:=by
   apply Array.ext'
   simp
   exact List.map_snd_zip (Nat.le_refl _)
  refine wpAny_pure ?_
  show R _ { s with heap:=Heap.update (((s.heap.update a (Obj.mapSeq fun _=>#[])).push (seqObj "tuple" vs.toArray 0)).push (seqObj "list" #[] 0)) a (Obj.mapSeq fun _=>((vs.toArray.zip vs.toArray).map (·.2))) }
  rw [e]
  refine fin vs (List.Perm.refl _) ?_
  match vs,h2 with
  | [],_=>exact .nil
  | [x],_=>exact List.pairwise_singleton _ _
  | _::_::_,h2=>simp at h2;lia
 ·rw [if_neg h2,if_neg h2]
  have hl2:2<=vs.length:=by rw [hsz] at h2;lia
  have hin:∀ v∈vs,PairV (((s.heap.update a (Obj.mapSeq fun _=>#[])).push (seqObj "tuple" vs.toArray 0)).push (seqObj "list" #[] 0)) v (κv v):=fun v h=>(hv v h).keep kp
  obtain ⟨fs,f1,f2,f3⟩:=Ij (fun v h=>⟨_,hin v h⟩)
  refine wpAny_bind (kat_kind (T:=Value.type "int") f1 (by lia) (fun v hv=>?_) (by decide) ?_)
  ·obtain ⟨k,t,rfl⟩:=f3 v hv
   exact Looks.of_pure rfl
  rw [show (Value.type "int" != Value.type "tuple")=true by decide]
  refine wpAny_bind (wpAny_mono (Ib (a₀:=pairsOf vs) (s:={ s with heap:=((s.heap.update a (Obj.mapSeq fun _=>#[])).push (seqObj "tuple" vs.toArray 0)).push (seqObj "list" #[] 0) }) (KN (vs:=vs) (κv:=κv) hin hu) (st:=SortSt.mk' (tuples' true) (vs.toArray.zip vs.toArray) #[] 7 none)
   (Q:=fun _ st'=>(arrOf st').toList.Perm (pairsOf vs).toList/\failedOf st'=none/\Srt (fun p=>κv p.1) (arrOf st').toList)
   (fun x hx=>by rw [pairsOf_toList] at hx;exact (mem_zip_self hx).2) ⟨Array.Perm.refl _,rfl,rfl,rfl,fun _ _=>rfl⟩ (by rw [pairsOf_size];lia) (by rw [pairsOf_size];exact h64) fun st' a1 a2 a3=>⟨a1,a2,a3⟩) ?_ fun _ _ e=>e)
  rintro ⟨⟨⟩,st'⟩ s' ⟨rfl,hp,hf,hs⟩
  dsimp only
  have hp':=Array.perm_iff_toList_perm.mpr hp
  refine wpAny_bind (seqEpoch_at ho6 rfl ?_)
  refine wpAny_bind (listUpdate_at ho6 rfl ?_ (hsz2:=by refine Nat.le_trans (Nat.le_of_eq ((Array.size_map ..).trans (hp'.size_eq.trans (pairsOf_size _)))) ?_;rw [sizeLine_eq];lia))
  rw [hf]
  simp only [bne_self_eq_false,Bool.false_eq_true,if_false]
  have eo:(arrOf st').map (·.2)=((arrOf st').toList.map (·.2)).toArray:=by
   apply Array.ext'
   simp
  have hmem:∀ p∈(arrOf st').toList,p.1=p.2:=fun p h=>by
   have:=hp.mem_iff.mp h
   rw [pairsOf_toList] at this
   exact (mem_zip_self this).1
  refine wpAny_pure ?_
  show R _ { s with heap:=Heap.update (((s.heap.update a (Obj.mapSeq fun _=>#[])).push (seqObj "tuple" vs.toArray 0)).push (seqObj "list" #[] 0)) a (Obj.mapSeq fun _=>((arrOf st').map (·.2))) }
  rw [eo]
  refine fin _ ?_ ?_
  ·have:=hp.map (·.2)
   rw [pairsOf_toList,List.map_snd_zip (Nat.le_refl _)] at this
   exact this
  ·rw [List.pairwise_map]
   refine List.Pairwise.imp_of_mem (fun {x y} hx hy hxy=>?_) hs
   rw [<- hmem x hx,<- hmem y hy]
   exact hxy
end
end L2
namespace L2
open PySem PySem.Spec PyProof.Rows PySem.W
def B1:Value->Addr
 | .ref a=>a
 | _=>0
section
variable {P:Program} {w:World} {A:Around} {E:Value->Shared->Prop} {s:Shared}
theorem LR {r d:Addr} {kvs:List (Key × Value)} {ep:Nat} {ns:List Int} {Q:Value->Shared->Prop} (hh:A.handled=none) (hv:s.heap.IsItemsView r d) (hm:s.heap.DictAt (Af P w) d kvs ep) (hk:kvs.map (·.1)=ns.map Sum.inl) (nd:ns.Nodup) (h64:ns.length<=64)
 (fin:∀ (h':Heap) tk (L:Addr) (as:List Addr) (is:List Nat) (e:Nat),is.Perm (List.range ns.length)->(is.map fun i=>ns.getD i 0).Pairwise (· <= ·)->as.length=is.length->as.Nodup->(∀ a∈as,s.heap.objs.size<=a/\a < L) ->
   (∀ (j:Nat) a i,as[j]? = some a->is[j]? = some i->∃ k x t,kvs[i]? = some (Sum.inl k,x)/\h'.get? a=some { cls:=.type "tuple",data:=.seq #[.int k t,x] }) ->
   h'.get? L=some (seqObj "list" (as.map Value.ref).toArray e)->r < L->(∀ b o,s.heap.get? b=some o->h'.get? b=some o)->Q (.ref L) { s with heap:=h',toks:=tk }) :
 wpAny (model P w) A (call (.builtin "sorted") [.ref r]) Q E s:=by
 have hl:kvs.length=ns.length:=by have:=congrArg List.length hk;simpa using this
 have hz:ns.length<=sizeLine:=Nat.le_trans h64 (by decide)
 refine Calls.call_function_entry kind_sorted plain_sorted entry_sorted (args_sorted1 _) ?_
 unfold Builtin.«sorted»
 refine wpAny_bind (m:=checkCount "sorted" 1 1 _) (wpAny_pure (wpAny_bind (kdx_collect (A:=A.in1) hh hv hm (by rw [hl];exact hz) fun h' tk as hkp hal g=>?_)))
 have hal':as.length=ns.length:=hal.trans hl
 refine wpAny_bind (wpAny_newList ?_ (by rw [List.length_map,hal'];exact hz))
 have hoL:(h'.push (seqObj "list" (as.map Value.ref).toArray 0)).get? h'.objs.size=some (seqObj "list" (as.map Value.ref).toArray 0):=Heap.get?_push_size _ rfl
 have hlt:r < h'.objs.size:=by
  obtain ⟨o,ho,_⟩:=id hv
  exact Heap.lt_size (hkp _ _ ho)
 have and_:as.Nodup:=g.rise.imp fun h=>Nat.ne_of_lt h
 have at_:∀ (i:Nat) a,as[i]? = some a->∃ k x t,ns[i]? = some k/\kvs[i]? = some (Sum.inl k,x)/\h'.get? a=some { cls:=.type "tuple",data:=.seq #[.int k t,x] }:=fun i a e=>by
  obtain ⟨key,k,x,e1,e2,e3⟩:=g.pairs i a e
  have e4:(kvs.map (·.1))[i]? = some k:=by rw [List.getElem?_map,e1];rfl
  rw [hk,List.getElem?_map] at e4
  obtain ⟨j,e5,rfl⟩:=Option.map_eq_some_iff.mp e4
  have e2:BZ (Sum.inl j) key=true:=e2
  rcases keyIs_shape e2 with ⟨j',t',e6,rfl⟩ | ⟨_,_,e6,_⟩
  ·cases e6
   exact ⟨j,x,t',e5,e1,e3⟩
  ·cases e6
 have up:∀ b o,h'.get? b=some o->(h'.push (seqObj "list" (as.map Value.ref).toArray 0)).get? b=some o:=fun b o e=>Heap.get?_push_of_some _ e
 have ix:∀ a∈as,as[as.idxOf a]? = some a:=fun a ha=>by
  rw [List.getElem?_eq_getElem (List.idxOf_lt_length_of_mem ha)]
  simp
 have key_:∀ a∈as,∃ k x t,ns[as.idxOf a]? = some k/\ns.getD (as.idxOf a) 0=k/\kvs[as.idxOf a]? = some (Sum.inl k,x)/\h'.get? a=some { cls:=.type "tuple",data:=.seq #[.int k t,x] }:=fun a ha=>by
  obtain ⟨k,x,t,e1,e2,e3⟩:=at_ _ _ (ix a ha)
  exact ⟨k,x,t,e1,by rw [List.getD_eq_getElem?_getD,e1];rfl,e2,e3⟩
 refine wpAny_bind (wpAny_holding (wpAny_call_entry slot_list_sort ⟨_,hoL,rfl⟩ entry_list_sort (Km (κv:=fun v=>ns.getD (as.idxOf (B1 v)) 0) hoL (fun v hv=>?_) (fun v hv v' hv' e=>?_) (by rw [List.length_map];lia) fun out pm srt=>⟨_,rfl,?_⟩) (args_list_sort _)))
 ·obtain ⟨a,ha,rfl⟩:=List.mem_map.mp hv
  obtain ⟨k,x,t,e1,e2,e3,e4⟩:=key_ a ha
  show PairV _ _ (ns.getD (as.idxOf a) 0)
  rw [e2]
  exact ⟨a,t,x,_,_,rfl,up _ _ e4,rfl,rfl⟩
 ·obtain ⟨a,ha,rfl⟩:=List.mem_map.mp hv
  obtain ⟨a',ha',rfl⟩:=List.mem_map.mp hv'
  obtain ⟨k,x,t,e1,e2,_⟩:=key_ a ha
  obtain ⟨k',x',t',e1',e2',_⟩:=key_ a' ha'
  have e:ns.getD (as.idxOf a) 0=ns.getD (as.idxOf a') 0:=e
  rw [e2,e2'] at e
  subst e
  have:as.idxOf a=as.idxOf a':=(List.getElem?_inj (List.getElem?_eq_some_iff.mp e1).1 nd).mp (e1.trans e1'.symm)
  have h1:=ix a ha
  rw [this,ix a' ha'] at h1
  cases h1
  rfl
 ·have eo:out=(out.map B1).map Value.ref:=by
   rw [List.map_map]
   have:out.map id=out:=List.map_id _
   conv=>lhs;rw [<- this]
   refine List.map_congr_left fun v hv=>?_
   obtain ⟨a,_,rfl⟩:=List.mem_map.mp (pm.mem_iff.mp hv)
   rfl
  have pa:(out.map B1).Perm as:=by
   have:=pm.map B1
   rw [List.map_map] at this
   have e:as.map (B1 ∘ Value.ref)=as:=by
    have:as.map id=as:=List.map_id _
    exact this
   rwa [e] at this
  have srt':(out.map B1).Pairwise (fun x y=>ns.getD (as.idxOf x) 0<=ns.getD (as.idxOf y) 0):=by
   rw [List.pairwise_map]
   exact srt
  rw [eo]
  generalize out.map B1=as' at *
  clear eo srt pm
  obtain ⟨e,he⟩:=sortedHeap_at (out:=(as'.map Value.ref).toArray) hoL
  have old:∀ b o,h'.get? b=some o->(sortedHeap (h'.push (seqObj "list" (as.map Value.ref).toArray 0)) h'.objs.size (as.map Value.ref) (as'.map Value.ref).toArray).get? b=some o:=fun b o q=>by
   have hlt2:=Heap.lt_size q
   rw [sortedHeap_old (Nat.ne_of_lt hlt2) (by rw [Heap.size_push];exact Nat.lt_succ_of_lt hlt2)]
   exact up _ _ q
  refine wpAny_pure ⟨_,rfl,fin _ tk h'.objs.size as' (as'.map fun a=>as.idxOf a) e ?_ ?_ (by simp) (pa.nodup_iff.mpr and_) (fun a ha=>?_) (fun j a i h1 h2=>?_) he hlt fun b o q=>old b o (hkp b o q)⟩
  ·have:=pa.map (fun a=>as.idxOf a)
   refine this.trans ?_
   have e:as.map (fun a=>as.idxOf a)=List.range ns.length:=by
    apply List.ext_getElem
    ·simp [hal']
    ·intro i h1 h2
     rw [List.getElem_map,List.getElem_range]
     exact and_.idxOf_getElem i (by simpa using h1)
   rw [e]
  ·rw [List.map_map,List.pairwise_map]
   exact srt'
  ·have ha':=pa.mem_iff.mp ha
   exact ⟨Nat.le_of_lt (g.above a ha'),g.there ha'⟩
  ·rw [List.getElem?_map,h1] at h2
   cases h2
   obtain ⟨k,x,t,e1,e2,e3,e4⟩:=key_ a (pa.mem_iff.mp (List.mem_of_getElem? h1))
   exact ⟨k,x,t,e3,old _ _ e4⟩
end
def Gj (to:TE):TE:=fun σ H Q=>to σ H fun v H1=>match v with
 | .ref d=>∃ ps:List (Int × V),H1 d=some (.dK (ps.map fun q=>(Sum.inl q.1,q.2)))/\ps.length<=64/\∀ (l:Addr) (H2:Hp) (as:List Addr) (rs:List (Int × V)),rs.Perm ps->(rs.map (·.1)).Pairwise (· < ·) ->
  H1 l=none->Same H1 H2->H2 l=some (.lst (as.map V.ref))->as.length=rs.length->(∀ (i:Nat) a q,as[i]? = some a->rs[i]? = some q->H2 a=some (.tup [.int q.1,q.2]))->Q (.ref l) H2
 | _=>False
theorem MV {to:TE} (h:AY to):AY (Gj to):=fun σ H Q Q' k q=>h _ _ _ _ (fun v _ q=>by
 match v,q with
 | .ref d,⟨ps,h1,h2,q⟩=>exact ⟨ps,h1,h2,fun l H2 as rs a1 a2 a3 a4 a5 a6 a7=>k _ _ (q l H2 as rs a1 a2 a3 a4 a5 a6 a7)⟩) q
section
variable {X:Cx}
theorem MC {oe:Expr} {to:TE} {p pos apos cpos:Pos} (hc:X.calm=true) (hg:Gl X "sorted") (hm:X.mg "sorted" = none) (ho:PE X oe to) (hbase:attributeBase oe "items" X.env (eval oe X.env)=eval oe X.env:=by rfl) (hline:(apos.endLine == cpos.line)=true:=by rfl)
 (hs:starEach [.Call (.Attribute oe "items" apos) [] [] cpos] X.env=[(false,eval (.Call (.Attribute oe "items" apos) [] [] cpos) X.env)]:=by rfl) :
 PE X (.Call (.Name "sorted" p) [.Call (.Attribute oe "items" apos) [] [] cpos] [] pos) (Gj to):=by
 intro pins s σ H Q I h
 refine Call_ (Dd I hg hm (by rfl:bootBuiltins "sorted" = some (.builtin "sorted")) (PyProof.Rows.callWith_builtin1 ?_ (by rw [hs];rfl) (by rfl)))
 rw [hs]
 show wpAny _ _ (spliced ((false,eval (.Call (.Attribute oe "items" apos) [] [] cpos) X.env)::[])) _ _ s
 refine Calls.spliced_cons ?_
 refine wpAny_Call_method0_late hbase hline (thn (ho pins s σ H _ I h) fun v s1 ⟨x,H1,I1,r1,q1⟩=>?_)
 match x,q1,r1 with
 | .ref d,⟨ps,hd,h64,q⟩,r1 =>
 cases r1
 obtain ⟨hl,hsm,vs,rv,dd⟩:=EA I1.hok hd
 obtain ⟨o,es,ep,e1,e2,e3,_⟩:=id dd
 refine ⟨"dict","dict.items",PySem.F.plainAttrs_dict,PySem.F.slot_dict_items,PySem.F.type_dict_items,dd.typeIs,fun a ea=>?_,Calls.callWith_builtin rfl (PySem.evalArgs_none ?_)⟩
 ·cases ea;exact ⟨o,e1,e2.2.1⟩
 refine call_meetsIn PySem.F.slot_dict_items dd.typeIs PySem.F.entry_dict_items (PySem.F.args_dict_items_1 _) (meets_dict_items (Af X.prog X.w) d hsm) ⟨⟨vs,dd⟩,?_⟩
 refine Calls.spliced_nil ?_
 have keep0:∀ b u,s1.heap.get? b=some u->(s1.heap.push { cls:=.type "dict_items",data:=.fields #[.ref d] }).get? b=some u:=fun b u e=>Heap.get?_push_of_some _ e
 have hv:(s1.heap.push { cls:=.type "dict_items",data:=.fields #[.ref d] }).IsItemsView s1.heap.objs.size d:=⟨_,Heap.get?_push_size _ rfl,rfl,rfl⟩
 have hsz0:(s1.heap.push { cls:=.type "dict_items",data:=.fields #[.ref d] }).objs.size=s1.heap.objs.size+1:=Heap.size_push ..
 obtain ⟨da,_⟩:=Bm e1 e3 dd
 have da:=da.push { cls:=.type "dict_items",data:=.fields #[.ref d] }
 have rl:=rv.len
 rw [List.length_map] at rl
 have nd:(vs.map (·.1)).Nodup:=by
  obtain ⟨_,_,_,_,_,_,_,_,z⟩:=id dd
  exact z
 have hkeys:vs.map (·.1)=(ps.map (·.1)).map Sum.inl:=by
  apply List.ext_getElem?
  intro i
  rcases Nat.lt_or_ge i ps.length with hi | hi
  ·have e0:(ps.map fun q=>((Sum.inl q.1:Key),q.2))[i]? = some (Sum.inl ps[i].1,ps[i].2):=by simp [hi]
   obtain ⟨v,e4,_⟩:=rv.get e0
   rw [List.getElem?_map,e4]
   simp [hi]
  ·rw [List.getElem?_eq_none (by rw [List.length_map];lia),List.getElem?_eq_none (by rw [List.length_map,List.length_map];lia)]
 have nd':(ps.map (·.1)).Nodup:=by
  rw [hkeys] at nd
  exact List.Pairwise.imp (fun h e=>h (by rw [e])) (List.pairwise_map.mp nd)
 refine LR (s:={ s1 with heap:=s1.heap.push { cls:=.type "dict_items",data:=.fields #[.ref d] } }) (ns:=ps.map (·.1)) (I.ok.hd hc) hv da hkeys nd' (by rw [List.length_map];exact h64) fun h' tk L as is e a1 a2 a3 a4 a5 a6 a7 a8 a9=>?_
 rw [List.length_map] at a1
 have keep:∀ b u,s1.heap.get? b=some u->h'.get? b=some u:=fun b u e=>a9 b u (keep0 b u e)
 have hfree:∀ b,s1.heap.objs.size<=b->H1 b=none:=fun b hb=>I1.hok.fresh hb
 have hLs:s1.heap.objs.size<=L:=Nat.le_of_lt a8
 have has:∀ a∈as,s1.heap.objs.size<=a/\a < L:=fun a ha=>⟨Nat.le_trans (by show _<=(s1.heap.push _).objs.size;rw [hsz0];exact Nat.le_succ _) (a5 a ha).1,(a5 a ha).2⟩
 have hilt:∀ i∈is,i < ps.length:=fun i hi=>List.mem_range.mp (a1.mem_iff.mp hi)
 have hrs:∃ rs:List (Int × V),rs=is.map (fun i=>ps.getD i (0,.int 0)):=⟨_,rfl⟩
 obtain ⟨rs,ers⟩:=hrs
 have rsl:as.length=rs.length:=by rw [ers,List.length_map];exact a3
 have rsp:rs.Perm ps:=by
  rw [ers]
  refine (a1.map _).trans ?_
  have e:(List.range ps.length).map (fun i=>ps.getD i (0,.int 0))=ps:=by
   apply List.ext_getElem
   ·simp
   ·intro i h1 h2
    simp [h2]
  rw [e]
 have rsk:rs.map (·.1)=is.map fun i=>(ps.map (·.1)).getD i 0:=by
  rw [ers,List.map_map]
  refine List.map_congr_left fun i hi=>?_
  have:=hilt i hi
  simp [this]
 have rss:(rs.map (·.1)).Pairwise (· < ·):=by
  have h1:(rs.map (·.1)).Pairwise (· <= ·):=by rw [rsk];exact a2
  have h2:(rs.map (·.1)).Nodup:=(rsp.map (·.1)).nodup_iff.mpr nd'
  exact List.Pairwise.imp₂ (fun h g=>by lia) h1 h2
 have a6':∀ (j:Nat) a q,as[j]? = some a->rs[j]? = some q->∃ x t,RelV q.2 x/\h'.get? a=some { cls:=.type "tuple",data:=.seq #[.int q.1 t,x] }:=fun j a q h1 h2=>by
  rw [ers,List.getElem?_map] at h2
  obtain ⟨i,e1,e2⟩:=Option.map_eq_some_iff.mp h2
  obtain ⟨k,x,t,e3,e4⟩:=a6 j a i h1 e1
  have hi:=hilt i (List.mem_of_getElem? e1)
  have e0:(ps.map fun q=>((Sum.inl q.1:Key),q.2))[i]? = some (Sum.inl ps[i].1,ps[i].2):=by simp [hi]
  obtain ⟨v,e5,e6⟩:=rv.get e0
  rw [e3] at e5
  cases e5
  have:q=ps[i]:=by rw [<- e2];simp [hi]
  subst this
  exact ⟨x,t,e6,e4⟩
 let H2:Hp:=fun b=>if b=L then some (.lst (as.map V.ref)) else if b∈as then (rs[as.idxOf b]?).map fun q=>HO.tup [.int q.1,q.2] else H1 b
 have hL:H2 L=some (.lst (as.map V.ref)):=if_pos rfl
 have sm:∀ b o,H1 b=some o->H2 b=some o:=fun b o e=>by
  have hb:b < s1.heap.objs.size:=by
   rcases Nat.lt_or_ge b s1.heap.objs.size with z | z
   ·exact z
   ·rw [hfree b z] at e;cases e
  show (if b=L then _ else if b∈as then _ else H1 b)=_
  rw [if_neg (Nat.ne_of_lt (Nat.lt_of_lt_of_le hb hLs)),if_neg (fun z=>absurd (has b z).1 (Nat.not_le.mpr hb))]
  exact e
 have hT:∀ (i:Nat) a q,as[i]? = some a->rs[i]? = some q->H2 a=some (.tup [.int q.1,q.2]):=fun i a q h1 h2=>by
  have hm:=List.mem_of_getElem? h1
  have hi:=(List.getElem?_eq_some_iff.mp h1).1
  have ei:as.idxOf a=i:=by
   have:=(List.getElem?_eq_some_iff.mp h1).2
   rw [<- this]
   exact a4.idxOf_getElem i hi
  show (if a=L then _ else if a∈as then (rs[as.idxOf a]?).map (fun q=>HO.tup [.int q.1,q.2]) else H1 a)=_
  rw [if_neg (Nat.ne_of_lt (has a hm).2),if_pos hm,ei,h2]
  rfl
 refine ⟨.ref L,H2,I1.many keep sm fun b o hb n=>?_,rfl,q L H2 as rs rsp rss (hfree L hLs) (fun b o e=>sm b o e) hL rsl hT⟩
 have hb':(if b=L then some (HO.lst (as.map V.ref)) else if b∈as then (rs[as.idxOf b]?).map (fun q=>HO.tup [.int q.1,q.2]) else H1 b)=some o:=hb
 by_cases c1:b=L
 ·rw [if_pos c1] at hb'
  cases hb'
  subst c1
  exact ⟨hLs,by rw [List.length_map,rsl,rsp.length_eq];exact Nat.le_trans h64 (by decide),as.map Value.ref,e,HV as,a7⟩
 ·rw [if_neg c1] at hb'
  by_cases c2:b∈as
  ·rw [if_pos c2] at hb'
   obtain ⟨q',e4,rfl⟩:=Option.map_eq_some_iff.mp hb'
   have e5:as[as.idxOf b]? = some b:=by
    rw [List.getElem?_eq_getElem (List.idxOf_lt_length_of_mem c2)]
    simp
   obtain ⟨x,t,z1,z2⟩:=a6' _ _ _ e5 e4
   exact ⟨(has b c2).1,A8 (show 2<=1000 by decide),[.int q'.1 t,x],.cons ⟨t,rfl⟩ (.cons z1 .nil),⟨_,z2,rfl,⟨_,rfl⟩,rfl⟩⟩
  ·rw [if_neg c2,n] at hb'
   cases hb'
end
section
variable {X:Cx}
end
section
variable {X:Cx}
end
end L2
namespace L2
open PySem PyProof.Rows
section
variable {prog:Program} {w:World} {A:Around} {E:Value->Shared->Prop} {s:Shared}
end
section
variable {prog:Program} {w:World} {K:Type} [DecidableEq K] {knd:KeyKind prog w K} {A:Around} {R:Result->Shared->Prop}
end
section
variable {prog:Program} {w:World} {K:Type} [DecidableEq K] {knd:KeyKind prog w K} {A:Around} {E:Value->Shared->Prop} {s:Shared}
end
section
variable {X:Cx}
end
end L2
namespace L2
open PySem PySem.Spec PyProof.Rows
section
variable {P:Program} {w:World} {A:Around} {E:Value->Shared->Prop} {s:Shared} {a:Addr}
end
section
variable {X:Cx} {K:W.Frag} {P:Program} {w:World}
end
section
variable {X:Cx} {K:W.Frag} {e sx:Expr} {te ts:TE} {pos p2:Pos}
end
section
variable {X:Cx}
def N1:R2:=fun x y H Q=>match x,y with
 | .int i,.int j=>(0<=j/\j<=1000000/\i.natAbs < 2 ^ 4000)/\Q (.int (i * 2 ^ j.toNat)) H
 | _,_=>False
theorem LN:OpR X (binaryOp .LShift) (rI (fun i j=>0<=j/\j<=1000000/\i.natAbs < 2 ^ 4000) fun i j=>.int (i * 2 ^ j.toNat)):=opI fun i j _ _ _ _ _ hc q=>by
 have h1:Builtin.Int.intBits i<=4000:=intBits_le hc.2.2
 have h2:j<=1000000:=hc.2.1
 exact lshift_int hc.1 (Int.le_trans (b:=1004000) (by lia) (by decide)) q
theorem Mc:OpR X (binaryOp .LShift) N1:=by
 intro pins s σ H x y v u Q I rx ry q
 cases x <;> cases y <;> first
  | exact False.elim q
  | exact LN pins s σ H _ _ v u Q I rx ry ⟨_,_,rfl,rfl,q.1,q.2⟩
end
end L2
namespace Mine
open PySem L2
def top (i:Nat):Stmt:=PySem.Challenge.pw_flips_k26_whole_shaken_twice.main.body.getD i (.Pass ⟨0,0,0,0⟩)
abbrev Cg:Stmt:=top 1
abbrev Cq:Stmt:=top 2
abbrev Ca:Stmt:=top 4
abbrev Ce:Stmt:=top 6
abbrev Cb:Stmt:=top 7
abbrev CI:Stmt:=top 9
abbrev Cu:Stmt:=top 11
abbrev Ch:Stmt:=top 12
abbrev CT:Stmt:=top 13
abbrev C8:Stmt:=top 15
abbrev CK:Stmt:=top 16
abbrev Cs:Stmt:=top 17
abbrev CV:Stmt:=top 19
abbrev Cv:Stmt:=top 20
abbrev CU:Stmt:=top 21
abbrev Cd:Stmt:=top 22
abbrev CO:Stmt:=top 23
abbrev CS:Stmt:=top 24
abbrev Cj:Stmt:=top 25
abbrev C7:Stmt:=top 26
abbrev C4:Stmt:=top 27
abbrev CW:Stmt:=top 28
abbrev Be:Stmt:=top 29
local macro_rules | `(tactic| walk_at "f")=>`(tactic| exact ⟨rfl,rfl,rfl,by decide +kernel,rfl,by decide +kernel,by decide +kernel⟩)
theorem KR:FnScope ["n"] ["n"] (AK Cg):=by walk_at "f"
theorem sc_z28:FnScope ["base","times","power","step"] ["base","times"] (AK Cq):=by walk_at "f"
theorem sc_z33:FnScope ["subset","many","rest"] ["subset"] (AK Ca):=by walk_at "f"
theorem sc_z29:FnScope ["top","bottom","divisor"] ["top","bottom"] (AK Ce):=by walk_at "f"
theorem sc_z17:FnScope ["one","other","greater","less","rest"] ["one","other"] (AK Cb):=by walk_at "f"
theorem sc_z16:FnScope ["one","found","subset","weight","many"] ["one"] (AK CI):=by walk_at "f"
theorem MA:FnScope ["one","share"] ["one","share"] (AK Cu):=by walk_at "f"
theorem sc_z31:FnScope ["n","squares","share","bottom","less","parts","whole"] ["n","squares","share"] (AK Ch):=by walk_at "f"
theorem sc_z30:FnScope ["one","other","added"] ["one","other"] (AK CT):=by walk_at "f"
theorem sc_z37:FnScope ["n","place","share","bottom","found","other","top"] ["n","place","share"] (AK C8):=by walk_at "f"
theorem NV:FnScope ["n","place","share"] ["n","place","share"] (AK CK):=by walk_at "f"
theorem MD:FnScope ["n","turned","share"] ["n","turned","share"] (AK Cs):=by walk_at "f"
theorem sc_z24:FnScope ["_law_script","_law_k","_law_cell"] ["_law_script","_law_k"] (AK CV):=by walk_at "f"
theorem sc_z23:FnScope ["_law_feed_here","_law_many_here","_law_figure","_law_number"] ["_law_feed_here","_law_many_here"] (AK Cv):=by walk_at "f"
theorem sc_z25:FnScope ["_law_number","_law_found"] ["_law_number"] (AK CU):=by walk_at "f"
theorem sc_z22:FnScope ["_law_feed_here","_law_n","_law_size","_law_way","_law_some","_law_answers","_law_table_here","_law_least","_law_k","_law_p"] ["_law_feed_here","_law_n"] (AK Cd):=by walk_at "f"
theorem sc_z32:FnScope ["_law_table_here","_law_weights","_law_step","_law_p","_law_one","_law_other","_law_terms"] ["_law_table_here"] (AK CO):=by walk_at "f"
theorem sc_z21:FnScope ["_law_top","_law_bottom","_law_one","_law_other","_law_rest"] ["_law_top","_law_bottom"] (AK CS):=by walk_at "f"
theorem sc_z18:FnScope ["_law_feed_here","_law_part","_law_bottom"] ["_law_feed_here","_law_part"] (AK Cj):=by walk_at "f"
theorem sc_z26:FnScope ["_law_n","_law_place","_law_share_here","_law_top","_law_bottom","_law_found","_law_k","_law_more","_law_p","_law_much","_law_other"] ["_law_n","_law_place","_law_share_here"] (AK C7):=by walk_at "f"
theorem sc_z20:FnScope ["_law_base","_law_times","_law_found","_law_k"] ["_law_base","_law_times"] (AK C4):=by walk_at "f"
theorem sc_z19:FnScope ["_law_place","_law_firsts","_law_seconds","_law_found","_law_p","_law_much","_law_q","_law_more"] ["_law_place","_law_firsts","_law_seconds"] (AK CW):=by walk_at "f"
theorem sc_law:FnScope ["_law_script","_law_k","_law_feed_here","_law_n","_law_table_here","_law_one","_law_other","_law_found","_law_top","_law_whole","_law_firsts","_law_seconds","_law_much","_law_place","_law_met","_law_due"] ["_law_script"] (AK Be):=by walk_at "f"
set_option genInjectivity false
set_option genSizeOf false
structure Txt (K:W.Frag) (mg:Str->Option Value) where
 f_z35:Addr
 d_z35:FuncData
 F_z35:Fun K "two_to" "two_to" Cg f_z35 d_z35
 b_z35:Binds K d_z35 ["n"] []
 m_z35:mg "two_to" = some (.ref f_z35)
 f_z28:Addr
 d_z28:FuncData
 F_z28:Fun K "power_of" "power_of" Cq f_z28 d_z28
 b_z28:Binds K d_z28 ["base","times"] []
 m_z28:mg "power_of" = some (.ref f_z28)
 f_z33:Addr
 d_z33:FuncData
 F_z33:Fun K "many_in" "many_in" Ca f_z33 d_z33
 b_z33:Binds K d_z33 ["subset"] []
 m_z33:mg "many_in" = some (.ref f_z33)
 f_z29:Addr
 d_z29:FuncData
 F_z29:Fun K "share_of" "share_of" Ce f_z29 d_z29
 b_z29:Binds K d_z29 ["top","bottom"] []
 m_z29:mg "share_of" = some (.ref f_z29)
 f_z17:Addr
 d_z17:FuncData
 F_z17:Fun K "common_divisor" "common_divisor" Cb f_z17 d_z17
 b_z17:Binds K d_z17 ["one","other"] []
 m_z17:mg "common_divisor" = some (.ref f_z17)
 f_z16:Addr
 d_z16:FuncData
 F_z16:Fun K "squares_by_level" "squares_by_level" CI f_z16 d_z16
 b_z16:Binds K d_z16 ["one"] []
 m_z16:mg "squares_by_level" = some (.ref f_z16)
 f_z36:Addr
 d_z36:FuncData
 F_z36:Fun K "stays" "stays" Cu f_z36 d_z36
 b_z36:Binds K d_z36 ["one","share"] []
 m_z36:mg "stays" = some (.ref f_z36)
 f_z31:Addr
 d_z31:FuncData
 F_z31:Fun K "stays_by" "stays_by" Ch f_z31 d_z31
 b_z31:Binds K d_z31 ["n","squares","share"] []
 m_z31:mg "stays_by" = some (.ref f_z31)
 f_z30:Addr
 d_z30:FuncData
 F_z30:Fun K "once_for" "once_for" CT f_z30 d_z30
 b_z30:Binds K d_z30 ["one","other"] []
 m_z30:mg "once_for" = some (.ref f_z30)
 f_z37:Addr
 d_z37:FuncData
 F_z37:Fun K "ways" "ways" C8 f_z37 d_z37
 b_z37:Binds K d_z37 ["n","place","share"] []
 m_z37:mg "ways" = some (.ref f_z37)
 f_z27:Addr
 d_z27:FuncData
 F_z27:Fun K "tops_from" "tops_from" CK f_z27 d_z27
 b_z27:Binds K d_z27 ["n","place","share"] []
 m_z27:mg "tops_from" = some (.ref f_z27)
 f_z34:Addr
 d_z34:FuncData
 F_z34:Fun K "top_of" "top_of" Cs f_z34 d_z34
 b_z34:Binds K d_z34 ["n","turned","share"] []
 m_z34:mg "top_of" = some (.ref f_z34)
 f_z24:Addr
 d_z24:FuncData
 F_z24:Fun K "_law_feed" "_law_feed" CV f_z24 d_z24
 b_z24:Binds K d_z24 ["_law_script","_law_k"] []
 m_z24:mg "_law_feed" = some (.ref f_z24)
 f_z23:Addr
 d_z23:FuncData
 F_z23:Fun K "_law_draw" "_law_draw" Cv f_z23 d_z23
 b_z23:Binds K d_z23 ["_law_feed_here","_law_many_here"] []
 m_z23:mg "_law_draw" = some (.ref f_z23)
 f_z25:Addr
 d_z25:FuncData
 F_z25:Fun K "_law_many" "_law_many" CU f_z25 d_z25
 b_z25:Binds K d_z25 ["_law_number"] []
 m_z25:mg "_law_many" = some (.ref f_z25)
 f_z22:Addr
 d_z22:FuncData
 F_z22:Fun K "_law_table" "_law_table" Cd f_z22 d_z22
 b_z22:Binds K d_z22 ["_law_feed_here","_law_n"] []
 m_z22:mg "_law_table" = some (.ref f_z22)
 f_z32:Addr
 d_z32:FuncData
 F_z32:Fun K "_law_sum" "_law_sum" CO f_z32 d_z32
 b_z32:Binds K d_z32 ["_law_table_here"] []
 m_z32:mg "_law_sum" = some (.ref f_z32)
 f_z21:Addr
 d_z21:FuncData
 F_z21:Fun K "_law_share" "_law_share" CS f_z21 d_z21
 b_z21:Binds K d_z21 ["_law_top","_law_bottom"] []
 m_z21:mg "_law_share" = some (.ref f_z21)
 f_z18:Addr
 d_z18:FuncData
 F_z18:Fun K "_law_shaking" "_law_shaking" Cj f_z18 d_z18
 b_z18:Binds K d_z18 ["_law_feed_here","_law_part"] []
 m_z18:mg "_law_shaking" = some (.ref f_z18)
 f_z26:Addr
 d_z26:FuncData
 F_z26:Fun K "_law_ways" "_law_ways" C7 f_z26 d_z26
 b_z26:Binds K d_z26 ["_law_n","_law_place","_law_share_here"] []
 m_z26:mg "_law_ways" = some (.ref f_z26)
 f_z20:Addr
 d_z20:FuncData
 F_z20:Fun K "_law_power" "_law_power" C4 f_z20 d_z20
 b_z20:Binds K d_z20 ["_law_base","_law_times"] []
 m_z20:mg "_law_power" = some (.ref f_z20)
 f_z19:Addr
 d_z19:FuncData
 F_z19:Fun K "_law_twice" "_law_twice" CW f_z19 d_z19
 b_z19:Binds K d_z19 ["_law_place","_law_firsts","_law_seconds"] []
 m_z19:mg "_law_twice" = some (.ref f_z19)
 f_law:Addr
 d_law:FuncData
 F_law:Fun K "law" "law" Be f_law d_law
 b_law:Binds K d_law ["_law_script"] []
 m_law:mg "law" = some (.ref f_law)
 z_abs:mg "abs" = none
 z_enumerate:mg "enumerate" = none
 z_int:mg "int" = none
 z_len:mg "len" = none
 z_max:mg "max" = none
 z_range:mg "range" = none
 z_repr:mg "repr" = none
 z_sorted:mg "sorted" = none
 z_sum:mg "sum" = none
 z_tuple:mg "tuple" = none
set_option genInjectivity true
set_option genSizeOf true
section
variable {P:Program} {w:World} {K:W.Frag} {mg:Str->Option Value} {base:Heap} (T:Txt K mg)
local macro_rules | `(tactic| walk_at "sm")=>`(tactic| repeat' with_reducible first | exact K9 | apply Kk | apply Mx | apply Np | apply My | apply KW | apply KY | exact Kp | exact KQ | apply K3 | apply Mi | apply MT | apply MN | apply MF | exact KC | exact LO | exact L7 | exact Ja | exact Jv | exact Kv | exact MR | exact K7 | exact Mp | exact JG | apply Ki | apply JL | apply MZ | exact Nn | apply LS | exact Lh | apply OH | apply N8 | apply Mm | exact EM | apply HJ | exact E2 | exact OG | exact Js | exact J2 | apply Jj | apply Jf | exact Jz | apply MV | apply Iz | apply KI | apply J1 | exact IL | exact Mr | apply LH | assumption)
local macro_rules | `(tactic| left)=>`(tactic| exact ⟨by rfl,by first | exact Or.inl rfl | exact Or.inr (Or.inl rfl) | exact Or.inr (Or.inr rfl),by decide,by decide⟩)
local macro_rules | `(tactic| walk_at "m")=>`(tactic| with_reducible first | refine Exists.imp fun _=>?_ | refine And.imp_right ?_ | refine forall_imp fun _=>?_)
local macro_rules | `(tactic| walk_at "o")=>`(tactic| first | exact Or.inl rfl | exact Or.inr (Or.inl rfl) | exact Or.inr (Or.inr rfl))
local macro_rules | `(tactic| symm)=>`(tactic| first | exact .inl rfl | exact .inr rfl | assumption)
local macro_rules | `(tactic| right)=>`(tactic| first | exact Or.inl rfl | exact Or.inr rfl)
local macro_rules | `(tactic| exfalso)=>`(tactic| first | exact Ej _ (by decide) (by decide) | rfl)
def BO:Sp:=fun vs H Q _=>match vs with
 | [.int x]=>∃ a:Nat,x=a/\a < 2 ^ 64/\Q (.int (many a)) H
 | _=>False
theorem FE:AQ BO:=fun vs H Q Q' E h q=>by
 unfold BO at *
 split at q
 ·revert q;repeat' first | exact h _ _ | exact BL h | exact out_mono h | exact outT_mono h | walk_at "m"
 ·exact q.elim
theorem K6:FnOk P w K mg base CX0 1 T.f_z25 T.d_z25 ["_law_number"] BO:=by
 refine T.F_z25.ok sc_z25 (fun vs H Q E h=>by unfold BO at h;split at h <;> first | rfl | exact h.elim) (fun cdv A outer s H vs Q E hr h=>?_)
 have hu:=Ag hr
 unfold BO at h
 split at h
 rotate_left
 ·exact h.elim
 rename_i x
 obtain ⟨a,e1,h1,q⟩:=h
 subst e1
 refine ⟨_,(@AE _ _ _ _ _ (@AH _ _ 1 _ _ _ _ sc_z25.nd rfl (by right) AB (by rfl) (by symm)) (@AE _ _ _ _ _ (@DG _ _ _ _ _ _ PassesOwn.never (Al CD (vv 0) AB) (@AE _ _ _ _ _ (@AH _ _ 1 _ _ _ _ sc_z25.nd rfl (by right) (AC (Ad (K:=K)) (vv 1) (AC BG (vv 0) AB)) (by rfl) (by symm)) (@AL _ _ _ (@AH _ _ 0 _ _ _ _ sc_z25.nd rfl (by right) (AC Bb (vv 0) AB) (by rfl) (by symm))))) (@AL _ _ _ (@AX _ _ _ _ (vv 1))))),?_⟩
 refine ⟨fun f σ H'=>H'=H/\∃ m r:Nat,σ=[some (.int r),some (.int m)]/\r < 2 ^ f/\m+AF f r=many a,⟨64,rfl,0,a,rfl,h1,by unfold many;exact Nat.zero_add _⟩,?_⟩
 rintro f σ H' ⟨rfl,m,r,rfl,hr1,hm⟩
 refine Ak (fun e=>?_) (fun e=>?_)
 ·have r0:0 < r:=by have:(0:Int) < (r:Int):=of_decide_eq_true e;lia
  cases f with
  | zero=>simp at hr1;lia
  | succ f =>
   refine ⟨by decide,A3 (by decide) (by decide),?_⟩
   refine ⟨f,Nat.lt_succ_self _,rfl,m+r % 2,r / 2,?_,?_,?_⟩
   ·show [some (V.int ((r:Int) / 2)),some (V.int ((m:Int)+(r:Int) % 2))]=_
    rw [Int.natCast_add,Int.natCast_emod,Int.natCast_ediv]
    rfl
   ·rw [Nat.pow_succ] at hr1;lia
   ·rw [<- hm]
    show m+r % 2+AF f (r / 2)=m+(r % 2+AF f (r / 2))
    lia
 ·have r0:r=0:=by
   have:¬ (0:Int) < (r:Int):=fun z=>e (decide_eq_true z)
   lia
  subst r0
  rw [C5,Nat.add_zero] at hm
  rw [<- hm] at q
  exact q
theorem MI:FnOk P w K mg base CX0 1 T.f_z24 T.d_z24 ["_law_script","_law_k"] (GF K):=by
 refine T.F_z24.ok sc_z24 (fun vs H Q E h=>by unfold GF at h;split at h <;> first | rfl | exact h.elim) (fun cdv A outer s H vs Q E hr h=>?_)
 have hu:=Ag hr
 unfold GF at h
 split at h
 rotate_left
 ·exact h.elim
 rename_i a k
 obtain ⟨ns,hs,q⟩:=h
 refine ⟨_,(@AE _ _ _ _ _ (@BI _ _ _ _ _ _ _ _ (Al (kEq (K:=K) hu) (An (C9 (K:=K)) rfl T.z_len (by rfl) (AA (vv 0) AD)) AB) (@AL _ _ _ (@AX _ _ _ _ (@EO _ _ _ _ (AA AB (AA AB (AA (vv 1) (AA AB AD))))))) BH) (@AE _ _ _ _ _ (@AH _ _ 2 _ _ _ _ sc_z24.nd rfl (by right) (kIx (K:=K) (vv 0) (AC BG (vv 1) (An (C9 (K:=K)) rfl T.z_len (by rfl) (AA (vv 0) AD)))) (by rfl) (by symm)) (@AL _ _ _ (@AX _ _ _ _ (@EO _ _ _ _ (AA (An (JC rfl) rfl T.z_max (by rfl) (AA AB (AA (AC BF (vv 2) (AC G9 AB AB)) AD))) (AA (vv 2) (AA (vv 1) (AA AB AD))))))))),?_⟩
 refine ⟨ns.length,.inl ⟨_,hs,by rw [List.length_map]⟩,?_⟩
 refine Ak (fun e=>?_) (fun e=>?_)
 ·refine ⟨A8 (show 4<=1000 by decide),fun p hp=>q p _ hp ⟨0,0,k,0,Int.le_refl _,AJ⟩ (fun b n=>AI n)⟩
 ·have hpos:0 < (ns.length:Int):=by
   have:¬ (ns.length:Int)=0:=fun z=>e (by rw [z];rfl)
   lia
  obtain ⟨z,hz⟩:=J5 (ns:=ns) (Int.emod_nonneg k (show (ns.length:Int)≠0 by lia)) (Int.emod_lt_of_pos k hpos)
  refine ⟨ns.length,.inl ⟨_,hs,by rw [List.length_map]⟩,hpos,_,_,.inl hs,hz,⟨by decide,by decide,by decide⟩,?_⟩
  refine ⟨A8 (show 4<=1000 by decide),fun p hp=>q p _ hp ⟨_,_,_,_,?_,AJ⟩ (fun b n=>AI n)⟩
  exact Int.le_max_left _ _
theorem Fx:FnOk P w K mg base CX0 1 T.f_z23 T.d_z23 ["_law_feed_here","_law_many_here"] DM:=by
 refine T.F_z23.ok sc_z23 (fun vs H Q E h=>by unfold DM at h;split at h <;> first | rfl | exact h.elim) (fun cdv A outer s H vs Q E hr h=>?_)
 have hu:=Ag hr
 unfold DM at h
 split at h
 rotate_left
 ·exact h.elim
 rename_i t m
 obtain ⟨F,hm,k⟩:=h
 obtain ⟨a,b,kk,c,ha,ht⟩:=F.at_
 have hm0:0 < m:=hm.1
 refine ⟨_,(@AE _ _ _ _ _ (@B3 _ _ _ _ _ _ (AC (Ad (K:=K)) (kIx (K:=K) (vv 0) AB) AB) (Cz (vv 0) AB CP) (by rfl) (by rfl) (by rfl)) (@AE _ _ _ _ _ (@BI _ _ _ _ _ _ _ _ (Al CD (kIx (K:=K) (vv 0) AB) AB) (@AE _ _ _ _ _ (@AH _ _ 2 _ _ _ _ sc_z23.nd rfl (by right) (AC BG (kIx (K:=K) (vv 0) AB) (vv 1)) (by rfl) (by symm)) (@AE _ _ _ _ _ (@B3 _ _ _ _ _ _ (AC Bb (kIx (K:=K) (vv 0) AB) (vv 1)) (Cz (vv 0) AB CP) (by rfl) (by rfl) (by rfl)) (@AL _ _ _ (@AX _ _ _ _ (vv 2))))) BH) (@AE _ _ _ _ _ (@AH _ _ 3 _ _ _ _ sc_z23.nd rfl (by right) (AC BG (AC (Ad (K:=K)) (AC (Ad (K:=K)) (kIx (K:=K) (vv 0) AB) (AC AU AB (kIx (K:=K) (vv 0) AB))) (AC AU AB (kIx (K:=K) (vv 0) AB))) AB) (by rfl) (by symm)) (@AE _ _ _ _ _ (@AH _ _ 3 _ _ _ _ sc_z23.nd rfl (by right) (AC BG (AC (Ad (K:=K)) (AC (Ad (K:=K)) (AC AU (vv 3) (vv 3)) (AC AU AB (vv 3))) (kIx (K:=K) (vv 0) AB)) AB) (by rfl) (by symm)) (@AE _ _ _ _ _ (@AH _ _ 3 _ _ _ _ sc_z23.nd rfl (by right) (AC BG (AC (Ad (K:=K)) (AC (Ad (K:=K)) (AC AU (vv 3) (vv 3)) (AC AU AB (vv 3))) (kIx (K:=K) (vv 0) AB)) AB) (by rfl) (by symm)) (@AL _ _ _ (@AX _ _ _ _ (AC BG (vv 3) (vv 1))))))))),?_⟩
 refine Ab (fun σ' H1=>σ'=[some (.ref t),some (.int m),none,none]/\(∀ b,b≠t->H1 b=H b)/\∃ a b k c:Int,0<=a/\H1 t=some (.lst [.int a,.int b,.int k,.int c])) ?_ ?_ (by walk_at "sm")
 ·exact ⟨_,_,.inl (.of ht),rfl,_,_,ht,rfl,rfl,fun b n=>AI n,a,b,kk,c+1,ha,AJ⟩
 clear ht ha a b kk c
 rintro σ' H1 ⟨rfl,f1,a,b,kk,c,ha,ht1⟩
 refine ⟨_,_,.inl (.of ht1),rfl,?_⟩
 refine Ak (fun e=>?_) (fun e=>?_)
 ·refine ⟨_,_,.inl (.of ht1),rfl,hm0,_,_,.inl (.of ht1),rfl,hm,_,_,ht1,rfl,?_⟩
  exact k _ _ (Int.emod_nonneg _ (by lia)) (Int.emod_lt_of_pos _ hm0) ⟨_,_,_,_,Int.ediv_nonneg ha (by lia),AJ⟩ (fun b n=>by rw [AI n];exact f1 b n)
 dsimp only [Do]
 have F1:Feed H1 t:=⟨a,b,kk,c,ha,ht1⟩
 refine Ab (fun σ' H2=>H2=H1/\∃ z:Int,σ'=[some (.ref t),some (.int m),none,some (.int z)]/\0<=z/\z < 2147483629) ?_ ?_ (by walk_at "sm")
 ·refine ⟨_,_,.inl (.of ht1),rfl,_,_,.inl (.of ht1),rfl,.inr (.inl ⟨by decide,by decide⟩),_,_,.inl (.of ht1),rfl,.inr (.inl ⟨by decide,by decide⟩),by decide,rfl,_,rfl,Int.emod_nonneg _ (by decide),Int.emod_lt_of_pos _ (by decide)⟩
 rintro σ' H2 ⟨rfl,z,rfl,z0,z1⟩
 refine Ab (fun σ' H2'=>H2'=H2/\∃ z:Int,σ'=[some (.ref t),some (.int m),none,some (.int z)]/\0<=z/\z < 2147483629) ?_ ?_ (by walk_at "sm")
 ·refine ⟨.inr (.inl ⟨by lia,by lia⟩),.inr (.inl ⟨by decide,by decide⟩),_,_,.inl (.of ht1),rfl,by decide,rfl,_,rfl,Int.emod_nonneg _ (by decide),Int.emod_lt_of_pos _ (by decide)⟩
 rintro σ' H3 ⟨rfl,z,rfl,z0,z1⟩
 refine ⟨.inr (.inl ⟨by lia,by lia⟩),.inr (.inl ⟨by decide,by decide⟩),_,_,.inl (.of ht1),rfl,by decide,?_⟩
 refine ⟨hm0,?_⟩
 exact k _ _ (Int.emod_nonneg _ (by lia)) (Int.emod_lt_of_pos _ hm0) F1 f1
theorem Ky:FnOk P w K mg base CX0 1 T.f_z17 T.d_z17 ["one","other"] CJ:=by
 refine T.F_z17.ok sc_z17 (fun vs H Q E h=>by unfold CJ at h;split at h <;> first | rfl | exact h.elim) (fun cdv A outer s H vs Q E hr h=>?_)
 have hu:=Ag hr
 unfold CJ at h
 split at h
 rotate_left
 ·exact h.elim
 rename_i a b
 obtain ⟨h1,h2,k⟩:=h
 refine ⟨_,(@AE _ _ _ _ _ (@AH _ _ 2 _ _ _ _ sc_z17.nd rfl (by right) (vv 0) (by rfl) (by symm)) (@AE _ _ _ _ _ (@AH _ _ 3 _ _ _ _ sc_z17.nd rfl (by right) (vv 1) (by rfl) (by symm)) (@AE _ _ _ _ _ (@DG _ _ _ _ _ _ PassesOwn.never (Al CD (vv 3) AB) (@AE _ _ _ _ _ (@AH _ _ 4 _ _ _ _ sc_z17.nd rfl (by right) (AC BG (vv 2) (vv 3)) (by rfl) (by symm)) (@AE _ _ _ _ _ (@AH _ _ 2 _ _ _ _ sc_z17.nd rfl (by right) (vv 3) (by rfl) (by symm)) (@AL _ _ _ (@AH _ _ 3 _ _ _ _ sc_z17.nd rfl (by right) (vv 4) (by rfl) (by symm)))))) (@AL _ _ _ (@AX _ _ _ _ (vv 2)))))),?_⟩
 refine ⟨fun m σ H'=>∃ (x y:Int) (z:Option V),σ=[some (.int a),some (.int b),some (.int x),some (.int y),z]/\H'=H/\0<=x/\0<=y/\Int.gcd x y=Int.gcd a b/\m=y.toNat,⟨_,a,b,none,rfl,rfl,h1,h2,rfl,rfl⟩,?_⟩
 rintro m σ H' ⟨x,y,z,rfl,rfl,hx,hy,hg,rfl⟩
 show if decide (0 < y)=true then _ else _
 refine Ak (fun h=>?_) (fun h=>?_)
 ·have hy0:0 < y:=of_decide_eq_true h
  refine ⟨hy0,?_⟩
  have h3:=Int.emod_nonneg x (show y≠0 by lia)
  have h4:=Int.emod_lt_of_pos x hy0
  refine ⟨(x % y).toNat,by lia,y,x % y,_,rfl,rfl,hy,h3,?_,rfl⟩
  rw [<- hg,Int.gcd_comm x y]
  exact IA hx hy
 ·have hy0:y=0:=by
   have:¬ 0 < y:=fun z=>h (decide_eq_true z)
   lia
  subst hy0
  show Q (.int x) H'
  rw [Int.gcd_zero_right] at hg
  have e:x=((a.gcd b:Nat):Int):=by rw [<- hg];lia
  rw [e]
  exact k
theorem EY:FnOk P w K mg base CX0 2 T.f_z29 T.d_z29 ["top","bottom"] A9:=by
 have G_z17:=Ky (P:=P) (w:=w) (base:=base) T
 refine T.F_z29.ok sc_z29 (fun vs H Q E h=>by unfold A9 at h;split at h <;> first | rfl | exact h.elim) (fun cdv A outer s H vs Q E hr h=>?_)
 have hu:=Ag hr
 have hr_z17:=hr.mono (show 1<=_ by decide)
 have mo1:AQ CJ:=JP
 unfold A9 at h
 split at h
 rotate_left
 ·exact h.elim
 rename_i a b
 obtain ⟨hb,sa,sb,k⟩:=h
 refine ⟨_,(@AE _ _ _ _ _ (@AH _ _ 2 _ _ _ _ sc_z29.nd rfl (by right) (AO G_z17 hr_z17 rfl T.m_z17 T.F_z17.kp T.b_z17 .nil AN (AA (An Ff rfl T.z_abs (by rfl) (AA (vv 0) AD)) (AA (An Ff rfl T.z_abs (by rfl) (AA (vv 1) AD)) AD))) (by rfl) (by symm)) (@AE _ _ _ _ _ (@BI _ _ _ _ _ _ _ _ (Al Fe (vv 1) AB) (@AL _ _ _ (@AH _ _ 2 _ _ _ _ sc_z29.nd rfl (by right) (N9 J6 (vv 2)) (by rfl) (by symm))) BH) (@AL _ _ _ (@AX _ _ _ _ (DZ (AA (AC Bb (vv 0) (vv 2)) (AA (AC Bb (vv 1) (vv 2)) AD))))))),?_⟩
 have eg:(Int.gcd (a.natAbs:Int) (b.natAbs:Int))=a.gcd b:=by unfold Int.gcd;simp
 obtain ⟨_,_,g0,g1⟩:=Ds sa sb hb
 refine ⟨by lia,by lia,?_⟩
 dsimp only [AV]
 rw [eg]
 refine Ak (fun e=>?_) (fun e=>?_)
 ·have hb0:b < 0:=of_decide_eq_true e
  lia
 have okd:okDiv ((a.gcd b:Nat):Int):=by
  refine ⟨g0,Int.lt_of_le_of_lt g1 ?_⟩
  have e1:b=((b.natAbs:Nat):Int):=by lia
  have e2:((b.natAbs:Nat):Int) < ((2 ^ 1000:Nat):Int):=Int.ofNat_lt.mpr sb
  have e3:((2 ^ 1000:Nat):Int)<=2 ^ 4096:=by decide +kernel
  lia
 refine ⟨okd,okd,A8 (show 2<=1000 by decide),fun p hp=>?_⟩
 exact k p hp
theorem Ii:FnOk P w K mg base CX0 1 T.f_z21 T.d_z21 ["_law_top","_law_bottom"] A9:=by
 refine T.F_z21.ok sc_z21 (fun vs H Q E h=>by unfold A9 at h;split at h <;> first | rfl | exact h.elim) (fun cdv A outer s H vs Q E hr h=>?_)
 have hu:=Ag hr
 unfold A9 at h
 split at h
 rotate_left
 ·exact h.elim
 rename_i a b
 obtain ⟨hb,sa,sb,k⟩:=h
 refine ⟨_,(@AE _ _ _ _ _ (@AH _ _ 2 _ _ _ _ sc_z21.nd rfl (by right) (vv 1) (by rfl) (by symm)) (@AE _ _ _ _ _ (@AH _ _ 3 _ _ _ _ sc_z21.nd rfl (by right) (An Ff rfl T.z_abs (by rfl) (AA (vv 0) AD)) (by rfl) (by symm)) (@AE _ _ _ _ _ (@DG _ _ _ _ _ _ PassesOwn.never (Al CD (vv 3) AB) (@AE _ _ _ _ _ (@AH _ _ 4 _ _ _ _ sc_z21.nd rfl (by right) (AC BG (vv 2) (vv 3)) (by rfl) (by symm)) (@AE _ _ _ _ _ (@AH _ _ 2 _ _ _ _ sc_z21.nd rfl (by right) (vv 3) (by rfl) (by symm)) (@AL _ _ _ (@AH _ _ 3 _ _ _ _ sc_z21.nd rfl (by right) (vv 4) (by rfl) (by symm)))))) (@AL _ _ _ (@AX _ _ _ _ (DZ (AA (AC Bb (vv 0) (vv 2)) (AA (AC Bb (vv 1) (vv 2)) AD)))))))),?_⟩
 obtain ⟨_,_,g0,g1⟩:=Ds sa sb hb
 have okd:okDiv ((a.gcd b:Nat):Int):=by
  refine ⟨g0,Int.lt_of_le_of_lt g1 ?_⟩
  have e1:b=((b.natAbs:Nat):Int):=by lia
  have e2:((b.natAbs:Nat):Int) < ((2 ^ 1000:Nat):Int):=Int.ofNat_lt.mpr sb
  have e3:((2 ^ 1000:Nat):Int)<=2 ^ 4096:=by decide +kernel
  lia
 refine ⟨fun m σ H'=>∃ (x y:Int) (z:Option V),σ=[some (.int a),some (.int b),some (.int x),some (.int y),z]/\H'=H/\0<=x/\0<=y/\Int.gcd x y=Int.gcd a b/\m=y.toNat,⟨_,b,(a.natAbs:Int),none,rfl,rfl,by lia,by lia,?_,rfl⟩,?_⟩
 ·rw [Int.gcd_comm];unfold Int.gcd;simp
 rintro m σ H' ⟨x,y,z,rfl,rfl,hx,hy,hg,rfl⟩
 show if decide (0 < y)=true then _ else _
 refine Ak (fun h=>?_) (fun h=>?_)
 ·have hy0:0 < y:=of_decide_eq_true h
  refine ⟨hy0,?_⟩
  have h3:=Int.emod_nonneg x (show y≠0 by lia)
  have h4:=Int.emod_lt_of_pos x hy0
  refine ⟨(x % y).toNat,by lia,y,x % y,_,rfl,rfl,hy,h3,?_,rfl⟩
  rw [<- hg,Int.gcd_comm x y]
  exact IA hx hy
 ·have hy0:y=0:=by
   have:¬ 0 < y:=fun z=>h (decide_eq_true z)
   lia
  subst hy0
  rw [Int.gcd_zero_right] at hg
  have e:x=((a.gcd b:Nat):Int):=by rw [<- hg];lia
  subst e
  exact ⟨okd,okd,A8 (show 2<=1000 by decide),fun p hp=>k p hp⟩
def BM:Sp:=fun vs H Q _=>match vs with
 | [.int b,.int t]=>∃ m:Nat,t=m/\m<=64/\((-(2 ^ 64) < b/\b < 2 ^ 64)\/(Nb b 150/\m<=12))/\Q (.int (b ^ m)) H
 | _=>False
theorem Fj:AQ BM:=fun vs H Q Q' E h q=>by
 unfold BM at *
 split at q
 ·revert q;repeat' first | exact h _ _ | exact BL h | exact out_mono h | exact outT_mono h | walk_at "m"
 ·exact q.elim
theorem D7:FnOk P w K mg base CX0 1 T.f_z28 T.d_z28 ["base","times"] BM:=by
 refine T.F_z28.ok sc_z28 (fun vs H Q E h=>by unfold BM at h;split at h <;> first | rfl | exact h.elim) (fun cdv A outer s H vs Q E hr h=>?_)
 have hu:=Ag hr
 unfold BM at h
 split at h
 rotate_left
 ·exact h.elim
 rename_i b t
 obtain ⟨m,e1,h1,b1,q⟩:=h
 subst e1
 refine ⟨_,(@AE _ _ _ _ _ (@AH _ _ 2 _ _ _ _ sc_z28.nd rfl (by right) AB (by rfl) (by symm)) (@AE _ _ _ _ _ (@BJ _ _ _ _ _ _ _ _ PassesOwn.never rfl (Ay rfl T.z_range (AA (vv 1) AD)) (AT (i:=3) sc_z28.nd rfl (by right)) (@AL _ _ _ (@AH _ _ 2 _ _ _ _ sc_z28.nd rfl (by right) (AC AU (vv 2) (vv 0)) (by rfl) (by symm))) (by intro _;rfl)) (@AL _ _ _ (@AX _ _ _ _ (vv 2))))),?_⟩
 refine ⟨m,rfl,by lia,by lia,?_⟩
 refine B5 (fun i σ H'=>H'=H/\∃ z:Option V,σ=[some (.int b),some (.int m),some (.int (b ^ i)),z]) ⟨rfl,none,by rw [Int.pow_zero];rfl⟩ ?_ ?_
 ·rintro i σ H' hi ⟨rfl,z,rfl⟩
  have hi':i < m:=by lia
  have okm:okMul (b ^ i) b:=by
   rcases b1 with b1 | ⟨b1,b2⟩
   ·exact .inr (.inr b1)
   ·exact Nb.okMul ((b1.pow i).up (by lia)) (b1.up (by lia))
  refine ⟨okm,rfl,some (.int (0+(i:Int))),?_⟩
  rw [Int.pow_succ]
  rfl
 ·rintro σ H' ⟨rfl,z,rfl⟩
  have:(m:Int).toNat=m:=by lia
  rw [this]
  exact q
def B8:Sp:=fun vs H Q _=>match vs with
 | [.int n]=>∃ m:Nat,n=m/\m<=64/\Q (.int (2 ^ m:Nat)) H
 | _=>False
theorem Gw:AQ B8:=fun vs H Q Q' E h q=>by
 unfold B8 at *
 split at q
 ·revert q;repeat' first | exact h _ _ | exact BL h | exact out_mono h | exact outT_mono h | walk_at "m"
 ·exact q.elim
theorem GI:FnOk P w K mg base CX0 2 T.f_z35 T.d_z35 ["n"] B8:=by
 have G_z28:=D7 (P:=P) (w:=w) (base:=base) T
 refine T.F_z35.ok KR (fun vs H Q E h=>by unfold B8 at h;split at h <;> first | rfl | exact h.elim) (fun cdv A outer s H vs Q E hr h=>?_)
 have hu:=Ag hr
 have hr_z28:=hr.mono (show 1<=_ by decide)
 unfold B8 at h
 split at h
 rotate_left
 ·exact h.elim
 rename_i n
 obtain ⟨m,e1,h1,q⟩:=h
 subst e1
 refine ⟨_,(@AL _ _ _ (@AX _ _ _ _ (AO G_z28 hr_z28 rfl T.m_z28 T.F_z28.kp T.b_z28 .nil AN (AA AB (AA (vv 0) AD))))),?_⟩
 refine ⟨m,rfl,h1,.inl ⟨by decide,by decide⟩,?_⟩
 have e:(2:Int) ^ m=((2 ^ m:Nat):Int):=by rw [Int.natCast_pow];rfl
 rw [e]
 exact q
theorem Ix:FnOk P w K mg base CX0 1 T.f_z20 T.d_z20 ["_law_base","_law_times"] BM:=by
 refine T.F_z20.ok sc_z20 (fun vs H Q E h=>by unfold BM at h;split at h <;> first | rfl | exact h.elim) (fun cdv A outer s H vs Q E hr h=>?_)
 have hu:=Ag hr
 unfold BM at h
 split at h
 rotate_left
 ·exact h.elim
 rename_i b t
 obtain ⟨m,e1,h1,b1,q⟩:=h
 subst e1
 refine ⟨_,(@AE _ _ _ _ _ (@AH _ _ 2 _ _ _ _ sc_z20.nd rfl (by right) AB (by rfl) (by symm)) (@AE _ _ _ _ _ (@BJ _ _ _ _ _ _ _ _ PassesOwn.never rfl (Ay rfl T.z_range (AA (vv 1) AD)) (AT (i:=3) sc_z20.nd rfl (by right)) (@AL _ _ _ (@AH _ _ 2 _ _ _ _ sc_z20.nd rfl (by right) (AC AU (vv 2) (vv 0)) (by rfl) (by symm))) (by intro _;rfl)) (@AL _ _ _ (@AX _ _ _ _ (vv 2))))),?_⟩
 refine ⟨m,rfl,by lia,by lia,?_⟩
 refine B5 (fun i σ H'=>H'=H/\∃ z:Option V,σ=[some (.int b),some (.int m),some (.int (b ^ i)),z]) ⟨rfl,none,by rw [Int.pow_zero];rfl⟩ ?_ ?_
 ·rintro i σ H' hi ⟨rfl,z,rfl⟩
  have hi':i < m:=by lia
  have okm:okMul (b ^ i) b:=by
   rcases b1 with b1 | ⟨b1,b2⟩
   ·exact .inr (.inr b1)
   ·exact Nb.okMul ((b1.pow i).up (by lia)) (b1.up (by lia))
  refine ⟨okm,rfl,some (.int (0+(i:Int))),?_⟩
  rw [Int.pow_succ]
  rfl
 ·rintro σ H' ⟨rfl,z,rfl⟩
  have:(m:Int).toNat=m:=by lia
  rw [this]
  exact q
def CN:Sp:=fun vs H Q _=>match vs with
 | [.ref t,.int n]=>∃ m:Nat,Feed H t/\n=m/\1<=m/\m<=6/\∀ (bs:List Bool) p H',bs.length=2 ^ m->H p=none->H' p=some (.tup (bs.map V.bl))->Feed H' t->Frm t H H'->Q (.ref p) H'
 | _=>False
theorem OA:AQ CN:=fun vs H Q Q' E h q=>by
 unfold CN at *
 split at q
 ·revert q;repeat' first | exact h _ _ | exact BL h | exact out_mono h | exact outT_mono h | walk_at "m"
 ·exact q.elim
theorem Bn {t:Addr} {H H':Hp} (h:∀ b,b≠t->H' b=H b):Frm t H H':=fun b o n e=>by rw [h b n];exact e
theorem Lj {t p:Addr} {H0 H:Hp} {o:HO} (f:Frm t H0 H) (hp:H0 p=none):Frm t H0 (upd H p o):=fun b u n e=>by
 rw [AI (Av e hp)];exact f b u n e
structure FL (H0:Hp) (t:Addr) (M:Nat) (l:Addr) (H:Hp):Prop where
 fd:Feed H t
 fr:Frm t H0 H
 new:H0 l=none
 at_:∃ bs:List Bool,H l=some (.lst (bs.map V.bl))/\bs.length=M
theorem FL.same {H0 H H':Hp} {t:Addr} {M:Nat} {l:Addr} (L:FL H0 t M l H) (s:Same H H'):FL H0 t M l H' :=
 ⟨L.fd.same s,L.fr.trans s.frm,L.new,let ⟨bs,h,e⟩:=L.at_;⟨bs,s _ _ h,e⟩⟩
theorem FL.draw {H0 H H':Hp} {t:Addr} {M:Nat} {l:Addr} (L:FL H0 t M l H) (F0:Feed H0 t) (F1:Feed H' t) (f:∀ b,b≠t->H' b=H b):FL H0 t M l H' :=
 ⟨F1,L.fr.trans (Bn f),L.new,let ⟨bs,h,e⟩:=L.at_;⟨bs,by rw [f l (F0.neT L.new)];exact h,e⟩⟩
theorem FL.put {H0 H:Hp} {t:Addr} {M:Nat} {l:Addr} {bs:List Bool} (L:FL H0 t M l H) (F0:Feed H0 t) (hb:bs.length=M):FL H0 t M l (upd H l (.lst (bs.map V.bl))):=by
 obtain ⟨a,b,k,c,h1,h3⟩:=L.fd.at_
 exact ⟨⟨a,b,k,c,h1,by rw [AI (Ne.symm (F0.neT L.new))];exact h3⟩,Lj L.fr L.new,L.new,bs,AJ,hb⟩
theorem FL.mk' {H0 H:Hp} {t:Addr} {M:Nat} {l:Addr} {bs:List Bool} (F:Feed H t) (fr:Frm t H0 H) (hl:H l=none) (hb:bs.length=M):FL H0 t M l (upd H l (.lst (bs.map V.bl))) :=
 ⟨F.upd hl,fr.trans (Frm.upd hl),F.free fr hl,bs,AJ,hb⟩
theorem D3 {n i:Nat} (h:i < n):ixN n ((i:Nat):Int)=some i:=by
 unfold ixN
 rw [if_pos (Int.natCast_nonneg i),if_pos (by lia)]
 simp
theorem Kb (bs:List Bool) (i:Nat) (b:Bool):(bs.map V.bl).set i (.bl b)=(bs.set i b).map V.bl:=by
 rw [List.map_set]
theorem DJ {bs:List Bool} {i:Nat} (h:i < bs.length):atI (bs.map V.bl) ((i:Nat):Int)=some (.bl bs[i]) :=
 DL rfl (by rw [List.getElem?_map,List.getElem?_eq_getElem h];rfl)
def FJ (H0:Hp) (t:Addr) (m M:Nat):St->Hp->Prop:=fun σ H=>∃ (la l:Addr) (way:Int) (y:Nat) (z7 z8 z9:Option V),
 σ=[some (.ref t),some (.int m),some (.int M),some (.int way),some (.int y),some (.ref la),some (.ref l),z7,z8,z9]/\y < M/\FL H0 t M la H/\FL H0 t M l H
def FJ2 (H0:Hp) (t:Addr) (m M:Nat):St->Hp->Prop:=fun σ H=>∃ (l:Addr) (z3 z4 z5 z7 z8 z9:Option V),
 σ=[some (.ref t),some (.int m),some (.int M),z3,z4,z5,some (.ref l),z7,z8,z9]/\FL H0 t M l H
theorem ND:FnOk P w K mg base CX0 2 T.f_z22 T.d_z22 ["_law_feed_here","_law_n"] CN:=by
 have G_z23:=Fx (P:=P) (w:=w) (base:=base) T;have G_z25:=K6 (P:=P) (w:=w) (base:=base) T
 refine T.F_z22.ok sc_z22 (fun vs H Q E h=>by unfold CN at h;split at h <;> first | rfl | exact h.elim) (fun cdv A outer s H vs Q E hr h=>?_)
 have hu:=Ag hr
 have mo1:AQ BO:=FE
 have hr_z23:=hr.mono (show 1<=_ by decide);have hr_z25:=hr.mono (show 1<=_ by decide)
 unfold CN at h
 split at h
 rotate_left
 ·exact h.elim
 rename_i t n
 obtain ⟨m,F,e1,m1,m6,q⟩:=h
 subst e1
 refine ⟨_,(@AE _ _ _ _ _ (@AH _ _ 2 _ _ _ _ sc_z22.nd rfl (by right) (AC DR AB (vv 1)) (by rfl) (by symm)) (@AE _ _ _ _ _ (@AH _ _ 3 _ _ _ _ sc_z22.nd rfl (by right) (AO G_z23 hr_z23 rfl T.m_z23 T.F_z23.kp T.b_z23 .nil AN (AA (vv 0) (AA AB AD))) (by rfl) (by symm)) (@AE _ _ _ _ _ (@AH _ _ 4 _ _ _ _ sc_z22.nd rfl (by right) (AO G_z23 hr_z23 rfl T.m_z23 T.F_z23.kp T.b_z23 .nil AN (AA (vv 0) (AA (vv 2) AD))) (by rfl) (by symm)) (@AE _ _ _ _ _ (@AH _ _ 5 _ _ _ _ sc_z22.nd rfl (by right) (@Dr _ _ _ _ _ _ _ (["_law_p","_law_feed_here"]) 1 [0] _ _ _ _ rfl (Ay rfl T.z_range (AA (vv 2) AD)) (by kernel_rfl) rfl rfl (by kernel_rfl) (fun c=>AT (i:=0) (show (["_law_p","_law_feed_here"]:List Str).Nodup by decide +kernel) rfl (by right)) (A5 (by decide)) (fun c=>BR) (fun c=>(Fn (kEq (K:=K) hu) (AO G_z23 hr_z23 rfl T.m_z23 T.F_z23.kp T.b_z23 .nil AN (AA (vv 1) (AA AB AD))) AB)) (by intro _;rfl)) (by rfl) (by symm)) (@AE _ _ _ _ _ (@BI _ _ _ _ _ _ _ _ (Al (kEq (K:=K) hu) (vv 3) AB) (@AL _ _ _ (@AX _ _ _ _ (DF (Fp (K:=K)) rfl T.z_tuple (by rfl) (AA (vv 5) AD)))) BH) (@AE _ _ _ _ _ (@Bg _ _ _ _ _ _ _ (["_law_p","_law_answers","_law_some"]) 1 ([5,4]) _ _ _ _ 6 _ _ _ rfl sc_z22.nd rfl rfl (Ay rfl T.z_range (AA (vv 2) AD)) (by kernel_rfl) rfl rfl (by kernel_rfl) (fun c=>AT (i:=0) (show (["_law_p","_law_answers","_law_some"]:List Str).Nodup by decide +kernel) rfl (by right)) (A5 (by decide)) (fun c=>BR) (fun c=>(kIx (K:=K) (vv 1) (AC E5 (vv 0) (vv 2)))) (by rfl) (by intro _;rfl)) (@AE _ _ _ _ _ (@BI _ _ _ _ _ _ _ _ (Al (kEq (K:=K) hu) (vv 3) AB) (@AL _ _ _ (@Bg _ _ _ _ _ _ _ (["_law_p","_law_answers"]) 1 [5] _ _ _ _ 6 _ _ _ rfl sc_z22.nd rfl rfl (Ay rfl T.z_range (AA (vv 2) AD)) (by kernel_rfl) rfl rfl (by kernel_rfl) (fun c=>AT (i:=0) (show (["_law_p","_law_answers"]:List Str).Nodup by decide +kernel) rfl (by right)) (A5 (by decide)) (fun c=>BR) (fun c=>(kIx (K:=K) (vv 1) AB)) (by rfl) (by intro _;rfl))) BH) (@AE _ _ _ _ _ (@BI _ _ _ _ _ _ _ _ (Al (kEq (K:=K) hu) (vv 3) AB) (@AL _ _ _ (@Bg _ _ _ _ _ _ _ (["_law_p","_law_some","_law_answers"]) 1 ([4,5]) _ _ _ _ 6 _ _ _ rfl sc_z22.nd rfl rfl (Ay rfl T.z_range (AA (vv 2) AD)) (by kernel_rfl) rfl rfl (by kernel_rfl) (fun c=>AT (i:=0) (show (["_law_p","_law_some","_law_answers"]:List Str).Nodup by decide +kernel) rfl (by right)) (A5 (by decide)) (fun c=>BR) (fun c=>(Fn (kEq (K:=K) hu) (AC BG (AO G_z25 hr_z25 rfl T.m_z25 T.F_z25.kp T.b_z25 .nil AN (AA (AC E5 (vv 0) (vv 1)) AD)) AB) (DF HI rfl T.z_int (by rfl) (AA (kIx (K:=K) (vv 2) AB) AD)))) (by rfl) (by intro _;rfl))) BH) (@AE _ _ _ _ _ (@BI _ _ _ _ _ _ _ _ (Al (kEq (K:=K) hu) (vv 3) AB) (@AE _ _ _ _ _ (@AH _ _ 7 _ _ _ _ sc_z22.nd rfl (by right) (AC (Ad (K:=K)) AB (AO G_z23 hr_z23 rfl T.m_z23 T.F_z23.kp T.b_z23 .nil AN (AA (vv 0) (AA AB AD)))) (by rfl) (by symm)) (@AL _ _ _ (@Bg _ _ _ _ _ _ _ (["_law_p","_law_some","_law_least"]) 1 ([4,7]) _ _ _ _ 6 _ _ _ rfl sc_z22.nd rfl rfl (Ay rfl T.z_range (AA (vv 2) AD)) (by kernel_rfl) rfl rfl (by kernel_rfl) (fun c=>AT (i:=0) (show (["_law_p","_law_some","_law_least"]:List Str).Nodup by decide +kernel) rfl (by right)) (A5 (by decide)) (fun c=>BR) (fun c=>(Fn M5 (AO G_z25 hr_z25 rfl T.m_z25 T.F_z25.kp T.b_z25 .nil AN (AA (AC E5 (vv 0) (vv 1)) AD)) (vv 2))) (by rfl) (by intro _;rfl)))) BH) (@AE _ _ _ _ _ (@BJ _ _ _ _ _ _ _ _ PassesOwn.never rfl (Ay rfl T.z_range (AA (AC AU (AO G_z23 hr_z23 rfl T.m_z23 T.F_z23.kp T.b_z23 .nil AN (AA (vv 0) (AA AB AD))) (AO G_z23 hr_z23 rfl T.m_z23 T.F_z23.kp T.b_z23 .nil AN (AA (vv 0) (AA AB AD)))) AD)) (AT (i:=8) sc_z22.nd rfl (by right)) (@AE _ _ _ _ _ (@AH _ _ 9 _ _ _ _ sc_z22.nd rfl (by right) (AO G_z23 hr_z23 rfl T.m_z23 T.F_z23.kp T.b_z23 .nil AN (AA (vv 0) (AA (vv 2) AD))) (by rfl) (by symm)) (@AL _ _ _ (@B3 _ _ _ _ _ _ (M4 (kIx (K:=K) (vv 6) (vv 9))) (Cz (vv 6) (vv 9) CP) (by rfl) (by rfl) (by rfl)))) (by intro _;rfl)) (@AL _ _ _ (@AX _ _ _ _ (DF (Fp (K:=K)) rfl T.z_tuple (by rfl) (AA (vv 6) AD)))))))))))))),?_⟩
 have e2:(1:Int) * 2 ^ ((m:Int).toNat)=((2 ^ m:Nat):Int):=by rw [Int.toNat_natCast,Int.natCast_pow,Int.one_mul];rfl
 have h64:2 ^ m<=64:=Nat.pow_le_pow_right (n:=2) (by decide) m6
 have h2:2<=2 ^ m:=Nat.pow_le_pow_right (n:=2) (i:=1) (by decide) m1
 refine ⟨⟨by lia,by lia,by decide⟩,?_⟩
 rw [e2]
 generalize hM:2 ^ m=M at *
 have hMd:okDiv (M:Int):=A3 (by lia) (Int.le_trans (Int.ofNat_le.mpr h64) (by decide))
 refine ⟨F,A3 (by decide) (by decide),fun way H2 w0 w1 F2 f2=>⟨F2,hMd,fun y' H3 y0 y1 F3 f3=>?_⟩⟩
 obtain ⟨y,rfl⟩:=Int.eq_ofNat_of_zero_le y0
 have hy:y < M:=by lia
 have fr3:Frm t H H3:=(Bn f2).trans (Bn f3)
 dsimp only [AV]
 refine Ab (fun σ Ha=>∃ la:Addr,σ=[some (.ref t),some (.int m),some (.int M),some (.int way),some (.int y),some (.ref la),none,none,none,none]/\FL H t M la Ha) ?_ ?_ (by walk_at "sm")
 ·refine ⟨(M:Int),rfl,by lia,by lia,?_⟩
  refine Bf (fun i ys H'=>Feed H' t/\Frm t H H'/\∃ bs:List Bool,ys=bs.map V.bl/\bs.length=i) ⟨F3,fr3,[],rfl,rfl⟩ (fun i ys H' hi ⟨_,_,bs,e,el⟩=>by
   rw [e];exact As (by rw [List.length_map];lia)) ?_ ?_
  ·rintro i ys H' hi ⟨Fi,fi,bs,rfl,rfl⟩
   refine ⟨Fi,A3 (by decide) (by decide),fun d H2 _ _ F2 f2=>?_⟩
   exact ⟨F2,fi.trans (Bn f2),bs++[(false ^^ (d == 1))],by rw [List.map_append];rfl,by rw [List.length_append];rfl⟩
  ·rintro ys H' ⟨Fi,fi,bs,rfl,hb⟩ l' hl
   exact ⟨l',rfl,FL.mk' Fi fi hl (by lia)⟩
 rintro σ Ha ⟨la,rfl,La⟩
 refine Ak (fun e=>?_) (fun e=>?_)
 ·obtain ⟨bs,hbs,hbl⟩:=La.at_
  refine ⟨_,.inl ⟨.of hbs,fun p hp=>?_⟩⟩
  exact q bs p _ hbl (La.fd.free La.fr hp) AJ (La.fd.upd hp) (La.fr.trans (Frm.upd hp))
 dsimp only [Do]
 refine Ab (FJ H t m M) ?_ ?_ (by walk_at "sm")
 ·obtain ⟨as,has,hal⟩:=La.at_
  refine ⟨(M:Int),rfl,by lia,by lia,?_⟩
  refine Bf (fun i ys H'=>H'=Ha/\∃ bs:List Bool,ys=bs.map V.bl/\bs.length=i) ⟨rfl,[],rfl,rfl⟩ (fun i ys H' hi ⟨_,bs,e,el⟩=>by
   rw [e];exact As (by rw [List.length_map];lia)) ?_ ?_
  ·rintro i ys H' hi ⟨rfl,bs,rfl,rfl⟩
   have hlt:bs.length &&& y < as.length:=by
    have:=Nat.and_le_right (n:=bs.length) (m:=y)
    lia
   have e0:Builtin.bitAnd ((0:Int)+(bs.length:Int)) (y:Int)=((bs.length &&& y:Nat):Int):=by rw [Int.zero_add,EJ]
   refine ⟨_,.bl as[bs.length &&& y],.inl (.of has),?_,rfl,bs++[as[bs.length &&& y]],by rw [List.map_append];rfl,by rw [List.length_append];rfl⟩
   rw [e0];exact DJ hlt
  ·rintro ys H' ⟨rfl,bs,rfl,hb⟩ l' hl
   exact ⟨la,l',way,y,none,none,none,rfl,hy,La.same (Same.upd hl),FL.mk' La.fd La.fr hl (by lia)⟩
 clear La
 rintro σ Ha ⟨la,l,way,y,z7,z8,z9,rfl,hy,La,L⟩
 refine Ab (FJ H t m M) ?_ ?_ (by walk_at "sm")
 ·refine Ak (fun e=>?_) (fun e=>⟨la,l,way,y,z7,z8,z9,rfl,hy,La,L⟩)
  obtain ⟨as,has,hal⟩:=La.at_
  have h0:0 < as.length:=by lia
  refine ⟨(M:Int),rfl,by lia,by lia,?_⟩
  refine Bf (fun i ys H'=>H'=Ha/\∃ bs:List Bool,ys=bs.map V.bl/\bs.length=i) ⟨rfl,[],rfl,rfl⟩ (fun i ys H' hi ⟨_,bs,e,el⟩=>by
   rw [e];exact As (by rw [List.length_map];lia)) ?_ ?_
  ·rintro i ys H' hi ⟨rfl,bs,rfl,rfl⟩
   exact ⟨_,.bl as[0],.inl (.of has),DJ (i:=0) h0,rfl,bs++[as[0]],by rw [List.map_append];rfl,by rw [List.length_append];rfl⟩
  ·rintro ys H' ⟨rfl,bs,rfl,hb⟩ l' hl
   exact ⟨la,l',way,y,z7,z8,z9,rfl,hy,La.same (Same.upd hl),FL.mk' La.fd La.fr hl (by lia)⟩
 clear La L
 rintro σ Ha ⟨la,l,way,y,z7,z8,z9,rfl,hy,La,L⟩
 refine Ab (FJ H t m M) ?_ ?_ (by walk_at "sm")
 ·refine Ak (fun e=>?_) (fun e=>⟨la,l,way,y,z7,z8,z9,rfl,hy,La,L⟩)
  obtain ⟨as,has,hal⟩:=La.at_
  have h0:0 < as.length:=by lia
  refine ⟨(M:Int),rfl,by lia,by lia,?_⟩
  refine Bf (fun i ys H'=>H'=Ha/\∃ bs:List Bool,ys=bs.map V.bl/\bs.length=i) ⟨rfl,[],rfl,rfl⟩ (fun i ys H' hi ⟨_,bs,e,el⟩=>by
   rw [e];exact As (by rw [List.length_map];lia)) ?_ ?_
  ·rintro i ys H' hi ⟨rfl,bs,rfl,rfl⟩
   have e0:Builtin.bitAnd ((0:Int)+(bs.length:Int)) (y:Int)=((bs.length &&& y:Nat):Int):=by rw [Int.zero_add,EJ]
   have hlt:bs.length &&& y < 2 ^ 64:=by
    have:=Nat.and_le_right (n:=bs.length) (m:=y)
    lia
   refine ⟨bs.length &&& y,e0,hlt,by decide,_,.bl as[0],.inl (.of has),DJ (i:=0) h0,?_⟩
   exact ⟨rfl,bs++[_],by rw [List.map_append];rfl,by rw [List.length_append];rfl⟩
  ·rintro ys H' ⟨rfl,bs,rfl,hb⟩ l' hl
   exact ⟨la,l',way,y,z7,z8,z9,rfl,hy,La.same (Same.upd hl),FL.mk' La.fd La.fr hl (by lia)⟩
 clear La L
 rintro σ Ha ⟨la,l,way,y,z7,z8,z9,rfl,hy,La,L⟩
 refine Ab (FJ H t m M) ?_ ?_ (by walk_at "sm")
 ·refine Ak (fun e=>?_) (fun e=>⟨la,l,way,y,z7,z8,z9,rfl,hy,La,L⟩)
  refine ⟨L.fd,A3 (by decide) (by decide),fun d Hb d0 d1 Fb fb=>?_⟩
  have La:=La.draw F Fb fb
  have L:=L.draw F Fb fb
  refine ⟨(M:Int),rfl,by lia,by lia,?_⟩
  refine Bf (fun i ys H'=>H'=Hb/\∃ bs:List Bool,ys=bs.map V.bl/\bs.length=i) ⟨rfl,[],rfl,rfl⟩ (fun i ys H' hi ⟨_,bs,e,el⟩=>by
   rw [e];exact As (by rw [List.length_map];lia)) ?_ ?_
  ·rintro i ys H' hi ⟨rfl,bs,rfl,rfl⟩
   have e0:Builtin.bitAnd ((0:Int)+(bs.length:Int)) (y:Int)=((bs.length &&& y:Nat):Int):=by rw [Int.zero_add,EJ]
   have hlt:bs.length &&& y < 2 ^ 64:=by
    have:=Nat.and_le_right (n:=bs.length) (m:=y)
    lia
   refine ⟨bs.length &&& y,e0,hlt,?_⟩
   exact ⟨rfl,bs++[_],by rw [List.map_append];rfl,by rw [List.length_append];rfl⟩
  ·rintro ys H' ⟨rfl,bs,rfl,hb⟩ l' hl
   exact ⟨la,l',way,y,some (.int (1+d)),z8,z9,rfl,hy,La.same (Same.upd hl),FL.mk' La.fd La.fr hl (by lia)⟩
 clear La L
 rintro σ Ha ⟨la,l,way,y,z7,z8,z9,rfl,hy,La,L⟩
 refine Ab (FJ2 H t m M) ?_ ?_ (by walk_at "sm")
 ·refine ⟨L.fd,A3 (by decide) (by decide),fun d Hb d0 d1 Fb fb=>⟨Fb,A3 (by decide) (by decide),fun d' Hc d0' d1' Fc fc=>?_⟩⟩
  have Lc:=(L.draw F Fb fb).draw F Fc fc
  obtain ⟨N,hN,hN2⟩:∃ N:Nat,d * d'=(N:Int)/\N<=3:=by
   have:d=0\/d=1:=by lia
   rcases this with rfl | rfl
   ·exact ⟨0,by rw [Int.zero_mul];rfl,by lia⟩
   ·exact ⟨d'.toNat,by rw [Int.one_mul];lia,by lia⟩
  refine ⟨.inr (.inl ⟨by lia,by lia⟩),(N:Int),congrArg (fun z=>[V.int z]) hN,by lia,by lia,?_⟩
  refine B5 (fun _=>FJ2 H t m M) ⟨l,_,_,_,z7,z8,z9,rfl,Lc⟩ ?_ (fun σ H' h=>h)
  rintro i σ Hc hi ⟨l,z3,z4,z5,z7,z8,z9,rfl,Lc⟩
  refine ⟨Lc.fd,hMd,fun k' Hd k0 k1 Fd fd=>?_⟩
  obtain ⟨k,rfl⟩:=Int.eq_ofNat_of_zero_le k0
  have Ld:=Lc.draw F Fd fd
  obtain ⟨bs,hbs,hbl⟩:=Ld.at_
  have hk:k < bs.length:=by lia
  refine ⟨_,.bl bs[k],.inl (.of hbs),DJ hk,_,k,hbs,D3 (by rw [List.length_map];lia),?_⟩
  rw [Kb]
  exact ⟨l,z3,z4,z5,z7,some (.int (0+(i:Int))),some (.int k),rfl,Ld.put F (by rw [List.length_set];exact hbl)⟩
 clear La L
 rintro σ Ha ⟨l,z3,z4,z5,z7,z8,z9,rfl,L⟩
 obtain ⟨bs,hbs,hbl⟩:=L.at_
 refine ⟨_,.inl ⟨.of hbs,fun p hp=>?_⟩⟩
 exact q bs p _ hbl (L.fd.free L.fr hp) AJ (L.fd.upd hp) (L.fr.trans (Frm.upd hp))
theorem M9:FnOk P w K mg base CX0 1 T.f_z32 T.d_z32 ["_law_table_here"] (CZ K):=by
 refine T.F_z32.ok sc_z32 (fun vs H Q E h=>by unfold CZ at h;split at h <;> first | rfl | exact h.elim) (fun cdv A outer s H vs Q E hr h=>?_)
 have hu:=Ag hr
 unfold CZ at h
 split at h
 rotate_left
 ·exact h.elim
 rename_i p
 obtain ⟨m,bs,m1,m6,hb,hp,q⟩:=h
 refine ⟨_,(@AE _ _ _ _ _ (@AH _ _ 1 _ _ _ _ sc_z32.nd rfl (by right) (@Dr _ _ _ _ _ _ _ ["_law_answer"] 1 [] _ _ _ _ rfl (Fl (K:=K) (vv 0)) (by kernel_rfl) rfl rfl (by kernel_rfl) (fun c=>AT (i:=0) (show (["_law_answer"]:List Str).Nodup by decide +kernel) rfl (by right)) (A5 (by decide)) (fun c=>BR) (fun c=>(AC BF AB (AC AU AB (DF HI rfl T.z_int (by rfl) (AA (vv 0) AD))))) (by intro _;rfl)) (by rfl) (by symm)) (@AE _ _ _ _ _ (@AH _ _ 2 _ _ _ _ sc_z32.nd rfl (by right) AB (by rfl) (by symm)) (@AE _ _ _ _ _ (@DG _ _ _ _ _ _ PassesOwn.never (Al Fe (vv 2) (An (C9 (K:=K)) rfl T.z_len (by rfl) (AA (vv 0) AD))) (@AE _ _ _ _ _ (@BJ _ _ _ _ _ _ _ _ PassesOwn.never rfl (Ay rfl T.z_range (AA (An (C9 (K:=K)) rfl T.z_len (by rfl) (AA (vv 0) AD)) AD)) (AT (i:=3) sc_z32.nd rfl (by right)) (@AL _ _ _ (@BI _ _ _ _ _ _ _ _ (Al (kEq (K:=K) hu) (AC BG (AC Bb (vv 3) (vv 2)) AB) AB) (@AE _ _ _ _ _ (@AH _ _ 4 _ _ _ _ sc_z32.nd rfl (by right) (kIx (K:=K) (vv 1) (vv 3)) (by rfl) (by symm)) (@AE _ _ _ _ _ (@AH _ _ 5 _ _ _ _ sc_z32.nd rfl (by right) (kIx (K:=K) (vv 1) (AC (Ad (K:=K)) (vv 3) (vv 2))) (by rfl) (by symm)) (@AE _ _ _ _ _ (@B3 _ _ _ _ _ _ (AC (Ad (K:=K)) (vv 4) (vv 5)) (Cz (vv 1) (vv 3) CP) (by rfl) (by rfl) (by rfl)) (@AL _ _ _ (@B3 _ _ _ _ _ _ (AC BF (vv 4) (vv 5)) (Cz (vv 1) (AC (Ad (K:=K)) (vv 3) (vv 2)) CP) (by rfl) (by rfl) (by rfl)))))) BH)) (by intro _;rfl)) (@AL _ _ _ (@AH _ _ 2 _ _ _ _ sc_z32.nd rfl (by right) (AC AU AB (vv 2)) (by rfl) (by symm))))) (@AE _ _ _ _ _ (@Bg _ _ _ _ _ _ _ (["_law_some","_law_weights"]) 1 [1] _ _ _ _ 6 _ _ _ rfl sc_z32.nd rfl rfl (Ay rfl T.z_range (AA (An (C9 (K:=K)) rfl T.z_len (by rfl) (AA (vv 1) AD)) AD)) (by kernel_rfl) rfl rfl (by kernel_rfl) (fun c=>AT (i:=0) (show (["_law_some","_law_weights"]:List Str).Nodup by decide +kernel) rfl (by right)) (A5 (by decide)) (fun c=>Eh (Al (kNe (K:=K) hu) (kIx (K:=K) (vv 1) (vv 0)) AB)) (fun c=>(DZ (AA (vv 0) (AA (kIx (K:=K) (vv 1) (vv 0)) AD)))) (by rfl) (by intro _;rfl)) (@AL _ _ _ (@AX _ _ _ _ (DZ (AA (AC BF (LM (K:=K) (An (C9 (K:=K)) rfl T.z_len (by rfl) (AA (vv 0) AD))) AB) (AA (DF (Fp (K:=K)) rfl T.z_tuple (by rfl) (AA (vv 6) AD)) AD))))))))),?_⟩
 have h64:2 ^ m<=64:=Nat.pow_le_pow_right (n:=2) (by decide) m6
 have hin:=Jx m (by lia)
 have hpow:∀ s,s < m->2 ^ s < 2 ^ m:=fun s hs=>Nat.pow_lt_pow_right (by decide) hs
 have hpos:∀ s:Nat,0 < 2 ^ s:=fun s=>Nat.two_pow_pos s
 have hbits:=L8 m (by lia)
 have ew:∀ k,k < 2 ^ m->BB (AS bs) m k=wt m (AS bs) k:=fun k hk=>Nd hk
 generalize hM:2 ^ m=M at *
 refine Ab (fun σ H'=>∃ l:Addr,σ=[some (.ref p),some (.ref l),none,none,none,none,none]/\Same H H'/\H l=none/\H' l=some (.lst (ixL (BB (AS bs) 0) M))) ?_ ?_ (by walk_at "sm")
 ·refine .inr ⟨⟨_,hp⟩,?_⟩
  refine Jr (xs:=bs.map V.bl) (fun i ys H'=>H'=H/\ys=ixL (AS bs) i) ⟨rfl,rfl⟩ (fun i ys H' _ ⟨e,_⟩=>by rw [e];exact hp) (fun i ys H' hi ⟨_,e⟩=>by
   rw [List.length_map] at hi
   rw [e,ixL_len];exact As (by lia)) ?_ ?_
  ·rintro i x ys H' hx ⟨rfl,rfl⟩
   have hi:i < bs.length:=by
    have:=(List.getElem?_eq_some_iff.mp hx).1
    rwa [List.length_map] at this
   have ex:x=.bl bs[i]:=by
    rw [List.getElem?_map,List.getElem?_eq_getElem hi] at hx
    exact (Option.some.inj hx).symm
   subst ex
   refine ⟨.inr (.inl ⟨by decide,by decide⟩),rfl,?_⟩
   rw [Dt,OC hi]
   unfold DC
   cases bs[i] <;> rfl
  ·rintro ys H' ⟨rfl,rfl⟩ l hl
   rw [List.length_map,hb]
   exact ⟨l,rfl,Same.upd hl,hl,AJ⟩
 rintro σ H1 ⟨l,rfl,s1,hl,g1⟩
 refine Ab (fun σ H'=>σ=[some (.ref p),some (.ref l),some (.int (2 ^ 0:Nat)),none,none,none,none]/\H1=H') ⟨rfl,rfl⟩ ?_ (by walk_at "sm")
 rintro σ _ ⟨rfl,rfl⟩
 refine Ab (fun σ H'=>∃ z2 z3 z4 z5:Option V,σ=[some (.ref p),some (.ref l),z2,z3,z4,z5,none]/\Same H H'/\H' l=some (.lst (ixL (BB (AS bs) m) M))) ?_ ?_ (by walk_at "sm")
 ·refine ⟨fun f σ H'=>∃ (s:Nat) (z3 z4 z5:Option V),s<=m/\f=m - s/\σ=[some (.ref p),some (.ref l),some (.int (2 ^ s:Nat)),z3,z4,z5,none]/\Same H H'/\H' l=some (.lst (ixL (BB (AS bs) s) M)),⟨m,0,none,none,none,Nat.zero_le _,rfl,rfl,s1,g1⟩,?_⟩
  clear g1 s1
  rintro f σ H1 ⟨s,z3,z4,z5,hs,rfl,rfl,s1,g1⟩
  refine ⟨M,.inr ⟨_,s1.sqT hp,by rw [List.length_map,hb]⟩,?_⟩
  refine Ak (fun e=>?_) (fun e=>?_)
  ·have hlt:2 ^ s < M:=by have:((2 ^ s:Nat):Int) < (M:Int):=of_decide_eq_true e;lia
   have hsm:s < m:=by
    rcases Nat.lt_or_ge s m with z | z
    ·exact z
    ·have:s=m:=by lia
     subst this;lia
   have hin:=hin s hsm
   have hps:=hpos s
   have e2:((2 ^ (s+1):Nat):Int)=2 * ((2 ^ s:Nat):Int):=by rw [Nat.pow_succ,Nat.mul_comm,Int.natCast_mul];rfl
   have ehad:BB (AS bs) (s+1)=BU (BB (AS bs) s) (2 ^ s):=rfl
   generalize BB (AS bs) s=g at *
   generalize 2 ^ s=st at *
   refine Ab (fun σ H'=>∃ z3 z4 z5:Option V,σ=[some (.ref p),some (.ref l),some (.int (st:Nat)),z3,z4,z5,none]/\Same H H'/\H' l=some (.lst (ixL (BU g st) M))) ?_ ?_ (by walk_at "sm")
   ·refine ⟨M,.inr ⟨_,s1.sqT hp,by rw [List.length_map,hb]⟩,(M:Int),rfl,by lia,by lia,?_⟩
    refine B5 (fun i σ H'=>∃ z3 z4 z5:Option V,σ=[some (.ref p),some (.ref l),some (.int (st:Nat)),z3,z4,z5,none]/\Same H H'/\H' l=some (.lst (ixL (Aw g st i) M))) ⟨z3,z4,z5,rfl,s1,by rw [g1,B2 fun k _=>(J4 g st k).symm]⟩ ?_ ?_
    ·rintro i σ H2 hi ⟨z3,z4,z5,rfl,s2,g2⟩
     have hi':i < M:=by lia
     rw [show (0:Int)+(i:Int)=(i:Int) from Int.zero_add _]
     dsimp only [AV]
     refine ⟨A3 (by lia) (Int.le_trans (Int.ofNat_le.mpr (show st<=64 by lia)) (by decide)),by decide,?_⟩
     have ed:((i:Int) / (st:Int) % 2 == 0)=decide (i / st % 2=0):=by
      rw [<- Int.natCast_ediv]
      generalize i / st=d
      rw [Bool.eq_iff_iff]
      simp only [beq_iff_eq,decide_eq_true_eq]
      lia
     refine Ak (fun e=>?_) (fun e=>?_)
     ·have e':i / st % 2=0:=by
       have:((i:Int) / (st:Int) % 2 == 0)=true:=by simpa using e
       rw [ed] at this
       exact of_decide_eq_true this
      have hj:i+st < M:=hin i hi' (by lia)
      obtain ⟨o1,o2⟩:=Ju (f:=g) hps e'
      have c1:(i:Int)+(st:Int)=((i+st:Nat):Int):=by lia
      refine ⟨_,_,.inl (.of g2),DS hi',_,.int (Aw g st i (i+st)),.inl (.of g2),by rw [c1];exact DS hj,?_⟩
      dsimp only [AV]
      rw [o1,o2]
      refine ⟨_,i,g2,by rw [ixL_len];exact D3 hi',?_⟩
      refine ⟨_,i+st,AJ,by rw [c1,List.length_set,ixL_len];exact D3 hj,?_⟩
      refine ⟨some (.int i),some (.int (g i)),some (.int (g (i+st))),rfl,Bu (Bu s2 hl) hl,?_⟩
      rw [AJ,EQ,EQ]
      congr 2
      exact B2 fun k hk=>(Jh hps e' k).symm
     ·have e':¬ i / st % 2=0:=fun z=>by
       rw [<- decide_eq_true_iff (p:=i / st % 2=0),<- ed] at z
       exact e (by simpa using z)
      refine ⟨some (.int i),z4,z5,rfl,s2,?_⟩
      rw [g2,B2 fun k _=>(L9 hps e' k).symm]
    ·rintro σ H2 ⟨z3,z4,z5,rfl,s2,g2⟩
     refine ⟨z3,z4,z5,rfl,s2,?_⟩
     rw [g2,Int.toNat_natCast,B2 fun k hk=>MY hk]
   clear g1 s1
   rintro σ H1 ⟨z3,z4,z5,rfl,s1,g1⟩
   refine ⟨.inr (.inl ⟨by decide,by decide⟩),m - (s+1),by lia,s+1,z3,z4,z5,hsm,rfl,?_,s1,?_⟩
   ·rw [e2];rfl
   ·rw [ehad];exact g1
  ·have hsm:s=m:=by
    rcases Nat.lt_or_ge s m with z | z
    ·have:=hpow s z
     exact (e (decide_eq_true (by lia))).elim
    ·lia
   subst hsm
   exact ⟨_,z3,z4,z5,rfl,s1,g1⟩
 clear g1 s1
 rintro σ H1 ⟨z2,z3,z4,z5,rfl,s1,g1⟩
 rw [B2 ew] at g1
 generalize wt m (AS bs)=g at *
 refine Ab (fun σ H'=>∃ (t:Addr) (zs:List V),σ=[some (.ref p),some (.ref l),z2,z3,z4,z5,some (.ref t)]/\Same H H'/\H' t=some (.lst zs)/\Reps K H' ((A0 g M).map Bp) zs) ?_ ?_ (by walk_at "sm")
 ·refine ⟨M,.inl ⟨_,.of g1,ixL_len.symm⟩,(M:Int),rfl,by lia,by lia,?_⟩
  refine Bf (fun i zs H'=>Same H1 H'/\Reps K H' ((A0 g i).map Bp) zs/\zs.length<=i) ⟨Same.refl _,Bi,Nat.le_refl _⟩ (fun i zs H' hi ⟨_,_,e⟩=>As (by lia)) ?_ ?_
  ·rintro i zs H2 hi ⟨s2,r2,l2⟩
   have hi':i < M:=by lia
   rw [show (0:Int)+(i:Int)=(i:Int) from Int.zero_add _]
   have et:A0 g (i+1)=A0 g i++(if g i=0 then [] else [(i,g i)]):=rfl
   rw [et]
   have gi:SqL K H2 l (ixL g M):=s2.sqL (.of g1)
   refine ⟨_,_,.inl gi,DS hi',?_⟩
   refine Ak (fun e=>?_) (fun e=>?_)
   ·have w0:¬ g i=0:=by simpa using e
    rw [if_neg w0,List.map_append]
    refine ⟨_,_,.inl gi,DS hi',A8 (show 2<=1000 by decide),fun k hk=>⟨s2.trans (Same.upd hk),?_,by rw [List.length_append];exact Nat.succ_le_succ l2⟩⟩
    exact Reps.append (Reps.same (Same.upd hk) _ _ r2) (BC (DP (xs:=[.int i,.int (g i)]) AJ (BC Bz (BC Bz Bi))) Bi)
   ·have w0:g i=0:=by simpa using e
    rw [if_pos w0,List.append_nil]
    exact ⟨s2,r2,Nat.le_succ_of_le l2⟩
  ·rintro zs H2 ⟨s2,r2,l2⟩ t ht
   rw [Int.toNat_natCast] at r2
   exact ⟨t,zs,rfl,s1.trans (s2.trans (Same.upd ht)),AJ,Reps.same (Same.upd ht) _ _ r2⟩
 clear g1 s1
 rintro σ H1 ⟨t,zs,rfl,s1,g1,r1⟩
 refine ⟨M,.inr ⟨_,s1.sqT hp,by rw [List.length_map,hb]⟩,rfl,?_⟩
 dsimp only [Ek,tC,Bw]
 rw [hbits]
 have:((m+1:Nat):Int) - 1=(m:Int):=by lia
 rw [this]
 refine ⟨_,.inl ⟨.of g1,fun k hk=>⟨A8 (show 2<=1000 by decide),fun k2 hk2=>?_⟩⟩⟩
 have S:=(Same.upd (o:=.tup zs) hk).trans (Same.upd (o:=.tup [.int m,.ref k]) hk2)
 refine q _ _ (s1.trans S) (.of (DP AJ (BC Bz (BC (DP ?_ (Reps.same S _ _ r1)) Bi))))
 exact Same.upd hk2 _ _ AJ
def Cc:Sp:=fun vs H Q _=>match vs with
 | [.ref t,.int part]=>Feed H t/\(part=1\/part=2)/\∀ (x y:Int) p H',0 < y->Nb x 66->Nb y 66->H p=none->H' p=some (.tup [.int x,.int y])->Feed H' t->Frm t H H'->Q (.ref p) H'
 | _=>False
theorem Ml:AQ Cc:=fun vs H Q Q' E h q=>by
 unfold Cc at *
 split at q
 ·exact ⟨q.1,q.2.1,fun x y p H' a b c d e f g=>h _ _ (q.2.2 x y p H' a b c d e f g)⟩
 ·exact q.elim
theorem J0:FnOk P w K mg base CX0 2 T.f_z18 T.d_z18 ["_law_feed_here","_law_part"] Cc:=by
 have G_z21:=Ii (P:=P) (w:=w) (base:=base) T;have G_z23:=Fx (P:=P) (w:=w) (base:=base) T
 refine T.F_z18.ok sc_z18 (fun vs H Q E h=>by unfold Cc at h;split at h <;> first | rfl | exact h.elim) (fun cdv A outer s H vs Q E hr h=>?_)
 have hu:=Ag hr
 have mo1:AQ A9:=DE
 have hr_z21:=hr.mono (show 1<=_ by decide);have hr_z23:=hr.mono (show 1<=_ by decide)
 unfold Cc at h
 split at h
 rotate_left
 ·exact h.elim
 rename_i t part
 obtain ⟨F,hpart,q⟩:=h
 refine ⟨_,(@AE _ _ _ _ _ (@AH _ _ 2 _ _ _ _ sc_z18.nd rfl (by right) (AC AU (vv 1) (AC (Ad (K:=K)) AB (AO G_z23 hr_z23 rfl T.m_z23 T.F_z23.kp T.b_z23 .nil AN (AA (vv 0) (AA (kIx (K:=K) (@EO _ _ _ _ (AA AB (AA AB (AA AB (AA (AC G9 AB AB) AD))))) (AO G_z23 hr_z23 rfl T.m_z23 T.F_z23.kp T.b_z23 .nil AN (AA (vv 0) (AA AB AD)))) AD))))) (by rfl) (by symm)) (@AL _ _ _ (@AX _ _ _ _ (AO G_z21 hr_z21 rfl T.m_z21 T.F_z21.kp T.b_z21 .nil AN (AA (AO G_z23 hr_z23 rfl T.m_z23 T.F_z23.kp T.b_z23 .nil AN (AA (vv 0) (AA (AC (Ad (K:=K)) (AC Bb (vv 2) (vv 1)) AB) AD))) (AA (vv 2) AD)))))),?_⟩
 have p1:1<=part/\part<=2:=by rcases hpart with rfl | rfl <;> decide
 refine ⟨⟨by decide,by decide,by decide⟩,A8 (show 4<=1000 by decide),fun p0 hp0=>⟨F.upd hp0,A3 (by decide) (by decide),fun d H1 d0 d1 F1 f1=>?_⟩⟩
 have g1:H1 p0=some (.lst [.int 1,.int 4,.int 9,.int (10 ^ 19)]):=by rw [f1 p0 (F.neT hp0)];exact AJ
 obtain ⟨z,hz,z0,z1⟩:∃ z:Int,atI [V.int 1,.int 4,.int 9,.int (10 ^ 19)] d=some (.int z)/\0 < z/\z<=10 ^ 19:=by
  have:d=0\/d=1\/d=2\/d=3:=by lia
  rcases this with e | e | e | e <;> subst e
  ·exact ⟨1,rfl,by decide,by decide⟩
  ·exact ⟨4,rfl,by decide,by decide⟩
  ·exact ⟨9,rfl,by decide,by decide⟩
  ·exact ⟨10 ^ 19,rfl,by decide,by decide⟩
 refine ⟨_,_,.inl (.of g1),hz,F1,A3 z0 (Int.le_trans z1 (by decide)),fun d2 H2 d20 d21 F2 f2=>?_⟩
 refine ⟨.inr (.inl ⟨by lia,by lia⟩),?_⟩
 have b0:0 < part * (1+d2):=Int.mul_pos (by lia) (by lia)
 have b1:part * (1+d2)<=2 * 10 ^ 19:=by
  rcases hpart with rfl | rfl <;> lia
 have bd:0<=part * (1+d2) / part/\part * (1+d2) / part<=part * (1+d2):=by
  rcases hpart with rfl | rfl <;> lia
 generalize part * (1+d2)=bot at *
 dsimp only [AV]
 refine ⟨A3 (by lia) (by lia),F2,A3 (by lia) (Int.le_trans (show bot / part+1<=2 * 10 ^ 19+1 by lia) (by decide)),fun d3 H3 d30 d31 F3 f3=>?_⟩
 have p66:((2 ^ 66:Nat):Int)=73786976294838206464:=by decide
 have n1:Nb d3 66:=HG (by rw [p66];lia) (by rw [p66];lia)
 have n2:Nb bot 66:=HG (by rw [p66];lia) (by rw [p66];lia)
 obtain ⟨s1,s2,s3,s4⟩:=Ds n1 n2 b0
 refine ⟨b0,n1.up (by decide),n2.up (by decide),fun p hp=>?_⟩
 have fr:Frm t H H3:=(Frm.upd hp0).trans ((Bn f1).trans ((Bn f2).trans (Bn f3)))
 refine q (shT d3 bot) (shB d3 bot) p _ ?_ s1 s2 (F3.free fr hp) AJ (F3.upd hp) (fr.trans (Frm.upd hp))
 exact Int.ediv_pos_of_pos_of_dvd b0 (by lia) (Int.gcd_dvd_right ..)
def AG (l:List (Nat × Int)):List (Key × V):=l.map fun q=>(.inl (q.1:Int),.int q.2)
theorem HN (l r:List (Nat × Int)):AG (l++r)=AG l++AG r:=by unfold AG;rw [List.map_append]
theorem B6 (l:List (Nat × Int)):(AG l).length=l.length:=by unfold AG;rw [List.length_map]
theorem DI {l:List (Nat × Int)} {p:Nat} (h:∀ q∈l,q.1≠p):Ap (AG l) (.inl (p:Int))=none:=by
 unfold Ap
 rw [Option.map_eq_none_iff,List.find?_eq_none]
 intro kv hkv
 obtain ⟨q,hq,rfl⟩:=List.mem_map.mp hkv
 intro e
 have e:=of_decide_eq_true e
 exact h q hq (by have:=Sum.inl.inj e;lia)
theorem Gn {l:List (Nat × Int)} {p:Nat} {v:Int} (hn:(l.map (·.1)).Nodup) (h:(p,v)∈l):Ap (AG l) (.inl (p:Int))=some (.int v):=by
 induction l with
 | nil=>cases h
 | cons r l ih =>
  rw [List.map_cons,List.nodup_cons] at hn
  unfold Ap AG
  rw [List.map_cons,List.find?_cons]
  by_cases e:r.1=p
  ·have hd:decide ((Sum.inl (r.1:Int):Key)=.inl (p:Int))=true:=decide_eq_true (by rw [e])
   rw [hd]
   rcases List.mem_cons.mp h with h | h
   ·rw [<- h];rfl
   ·exact absurd (by rw [e];exact List.mem_map_of_mem (f:=(·.1)) h) hn.1
  ·have hd:decide ((Sum.inl (r.1:Int):Key)=.inl (p:Int))=false:=decide_eq_false (fun z=>e (by have:=Sum.inl.inj z;lia))
   rw [hd]
   have h':(p,v)∈l:=by
    rcases List.mem_cons.mp h with h | h
    ·exact absurd (by rw [<- h]) e
    ·exact h
   exact ih hn.2 h'
def CY (K:W.Frag):Sp:=fun vs H Q _=>match vs with
 | [.int z,.int pz,.ref ps]=>∃ (n pl:Nat) (t b:Int),z=n/\pz=pl/\n<=6/\SqT K H ps [.int t,.int b]/\Nb t 66/\Nb b 66/\∀ d H',H d=none->Same H H'->H' d=some (.dK (AG (AM pl t (b - t) n)))->Q (.ref d) H'
 | _=>False
theorem Jw:AQ (CY K):=fun vs H Q Q' E h q=>by
 unfold CY at *
 split at q
 ·revert q;repeat' first | exact h _ _ | exact BL h | exact out_mono h | exact outT_mono h | walk_at "m"
 ·exact q.elim
theorem Di {pl:Nat} {t c:Int} (ht:Nb t 70) (hc:Nb c 70):∀ {k:Nat} {q:Nat × Int},q∈AM pl t c k->Nb q.2 (70 * k+1)
 | 0,q,h=>by
  have:q=(pl,1):=by simpa [AM] using h
  rw [this];show (1:Int).natAbs < 2 ^ (70 * 0+1);decide
 | k+1,q,h=>by
  obtain ⟨r,hr,hq⟩:=List.mem_flatMap.mp (show q∈(AM pl t c k).flatMap _ from h)
  have ih:=Di ht hc hr
  simp only [List.mem_cons,List.mem_nil_iff,or_false] at hq
  rcases hq with rfl | rfl
  ·exact (ih.mul hc).up (by lia)
  ·exact (ih.mul ht).up (by lia)
theorem Eo {x y:Int} (hx:Nb x 66) (hy:Nb y 66):Nb (y - x) 70:=by unfold Nb at *;lia
theorem MG:FnOk P w K mg base CX0 1 T.f_z26 T.d_z26 ["_law_n","_law_place","_law_share_here"] (CY K):=by
 refine T.F_z26.ok sc_z26 (fun vs H Q E h=>by unfold CY at h;split at h <;> first | rfl | exact h.elim) (fun cdv A outer s H vs Q E hr h=>?_)
 have hu:=Ag hr
 unfold CY at h
 split at h
 rotate_left
 ·exact h.elim
 rename_i z pz ps
 obtain ⟨n,pl,t,b,e1,e2,n6,hps,nt,nb,q⟩:=h
 subst e1 e2
 have h64:2 ^ n<=64:=Nat.pow_le_pow_right (n:=2) (by decide) n6
 have nt':Nb t 70:=nt.up (by decide)
 have nc':Nb (b - t) 70:=Eo nt nb
 refine ⟨_,(@AE _ _ _ _ _ (@B3 _ _ _ _ _ _ (vv 2) (Ct (K:=K) (n:=2) rfl (A6 (AT (i:=3) sc_z26.nd rfl (by right)) (A6 (AT (i:=4) sc_z26.nd rfl (by right)) By))) (by rfl) (by rfl) (by rfl)) (@AE _ _ _ _ _ (@AH _ _ 5 _ _ _ _ sc_z26.nd rfl (by right) (Lo (KL (vv 1) AB NM) rfl rfl (by simp) (by decide)) (by rfl) (by symm)) (@AE _ _ _ _ _ (@BJ _ _ _ _ _ _ _ _ PassesOwn.never rfl (Ay rfl T.z_range (AA (vv 0) AD)) (AT (i:=6) sc_z26.nd rfl (by right)) (@AE _ _ _ _ _ (@AH _ _ 7 _ _ _ _ sc_z26.nd rfl (by right) FB (by rfl) (by symm)) (@AE _ _ _ _ _ (@BJ _ _ _ _ _ _ _ _ PassesOwn.never rfl (Er (vv 5)) (Ct (K:=K) (n:=2) rfl (A6 (AT (i:=8) sc_z26.nd rfl (by right)) (A6 (AT (i:=9) sc_z26.nd rfl (by right)) By))) (@AE _ _ _ _ _ (@Du _ _ _ _ _ _ _ _ _ (BX hu) (vv 7) (vv 8) (AC (Ad (K:=K)) (FD (BX hu) (vv 7) (vv 8) AB ⟨by rfl,by rfl,by rfl,by rfl⟩) (AC AU (vv 9) (AC BF (vv 4) (vv 3)))) (by rfl)) (@AE _ _ _ _ _ (@AH _ _ 10 _ _ _ _ sc_z26.nd rfl (by right) (AC HZ (vv 8) (AC DR AB (vv 6))) (by rfl) (by symm)) (@AL _ _ _ (@Du _ _ _ _ _ _ _ _ _ (BX hu) (vv 7) (vv 10) (AC (Ad (K:=K)) (FD (BX hu) (vv 7) (vv 10) AB ⟨by rfl,by rfl,by rfl,by rfl⟩) (AC AU (vv 9) (vv 3))) (by rfl))))) (by intro _;rfl)) (@AL _ _ _ (@AH _ _ 5 _ _ _ _ sc_z26.nd rfl (by right) (vv 7) (by rfl) (by symm))))) (by intro _;rfl)) (@AL _ _ _ (@AX _ _ _ _ (vv 5)))))),?_⟩
 refine ⟨_,.inr hps,rfl,_,_,rfl,_,_,rfl,rfl,?_⟩
 refine fun d0 hd0=>⟨AJ,[(.inl (pl:Int),.int 1)],rfl,(show 1<=15 by decide),?_⟩
 dsimp only [AV]
 rw [Ls]
 have g0:upd H d0 (.dK (Bt [] [(.inl (pl:Int),.int 1)])) d0=some (.dK (AG (AM pl t (b - t) 0))):=AJ
 have s0:Same H (upd H d0 (.dK (Bt [] [(.inl (pl:Int),.int 1)]))):=Same.upd hd0
 generalize upd H d0 (.dK (Bt [] [(.inl (pl:Int),.int 1)]))=H0 at *
 refine Ab (fun σ H'=>∃ (d:Addr) (z6 z7 z8 z9 z10:Option V),σ=[some (.int n),some (.int pl),some (.ref ps),some (.int t),some (.int b),some (.ref d),z6,z7,z8,z9,z10]/\Same H H'/\H d=none/\H' d=some (.dK (AG (AM pl t (b - t) n)))) ?_ ?_ (by walk_at "sm")
 ·refine ⟨(n:Int),rfl,by lia,by lia,?_⟩
  refine B5 (fun i σ H'=>∃ (d:Addr) (z6 z7 z8 z9 z10:Option V),σ=[some (.int n),some (.int pl),some (.ref ps),some (.int t),some (.int b),some (.ref d),z6,z7,z8,z9,z10]/\Same H H'/\H d=none/\H' d=some (.dK (AG (AM pl t (b - t) i)))) ⟨d0,none,none,none,none,none,rfl,s0,hd0,g0⟩ ?_ ?_
  ·rintro i σ H1 hi ⟨d,z6,z7,z8,z9,z10,rfl,s1,hd,g1⟩
   have hi':i < n:=by lia
   have hpi:2 ^ i<=64:=Nat.le_trans (Nat.pow_le_pow_right (by decide) (by lia)) h64
   rw [show (0:Int)+(i:Int)=(i:Int) from Int.zero_add _]
   dsimp only [AV]
   refine fun m hm=>?_
   dsimp only [AV]
   have dm:d≠m:=Av g1 hm
   have hm0:H m=none:=s1.free hm
   refine Ab (fun σ H'=>∃ (z8 z9 z10:Option V),σ=[some (.int n),some (.int pl),some (.ref ps),some (.int t),some (.int b),some (.ref d),some (.int i),some (.ref m),z8,z9,z10]/\Same H H'/\H' m=some (.dK (AG (AM pl t (b - t) (i+1))))) ?_ ?_ (by walk_at "sm")
   ·refine .inl ⟨_,by rw [AI dm];exact g1,fun o=>?_⟩
    have g2d:upd (upd H1 m (.dK [])) d (.frz o (.dK (AG (AM pl t (b - t) i)))) d=some (.frz o (.dK (AG (AM pl t (b - t) i)))):=AJ
    have g2m:upd (upd H1 m (.dK [])) d (.frz o (.dK (AG (AM pl t (b - t) i)))) m=some (.dK []):=by rw [AI (Ne.symm dm)];exact AJ
    have s2:Same H (upd (upd H1 m (.dK [])) d (.frz o (.dK (AG (AM pl t (b - t) i))))):=Bu (s1.trans (Same.upd hm)) hd
    generalize upd (upd H1 m (.dK [])) d (.frz o (.dK (AG (AM pl t (b - t) i))))=H2 at *
    have hnd:=EF pl t (b - t) i
    have hin:∀ q∈AM pl t (b - t) i,q.1 ^^^ pl < 2 ^ i:=fun q hq=>Dc hq
    have hnb:∀ q∈AM pl t (b - t) i,Nb q.2 (70 * i+1):=fun q hq=>Di nt' nc' hq
    have hlen:=GL pl t (b - t) i
    have enext:AM pl t (b - t) (i+1)=(AM pl t (b - t) i).flatMap fun q=>[(q.1,q.2 * (b - t)),(q.1 ^^^ 2 ^ i,q.2 * t)]:=rfl
    rw [enext]
    generalize AM pl t (b - t) i=L at *
    refine FA (kvs:=AG L) (fun j σ H'=>∃ (z8 z9 z10:Option V),σ=[some (.int n),some (.int pl),some (.ref ps),some (.int t),some (.int b),some (.ref d),some (.int i),some (.ref m),z8,z9,z10]/\Same H H'/\H' d=some (.frz o (.dK (AG L)))/\H' m=some (.dK (AG ((L.take j).flatMap fun q=>[(q.1,q.2 * (b - t)),(q.1 ^^^ 2 ^ i,q.2 * t)])))) ⟨z8,z9,z10,rfl,s2,g2d,g2m⟩ (fun j σ H' _ ⟨_,_,_,_,_,g,_⟩=>g) ?_ ?_
    ·rintro j r p σ H3 hr' ⟨z8,z9,z10,rfl,s3,g3d,g3m⟩ hp
     obtain ⟨⟨x,v⟩,hx,rfl⟩:∃ y,L[j]? = some y/\r=(.inl (y.1:Int),.int y.2):=by
      unfold AG at hr'
      rw [List.getElem?_map] at hr'
      cases e:L[j]? with
      | none=>rw [e] at hr';cases hr'
      | some y=>rw [e] at hr';cases hr';exact ⟨y,rfl,rfl⟩
     have hjl:j < L.length:=(List.getElem?_eq_some_iff.mp hx).1
     have hxm:(x,v)∈L:=List.mem_of_getElem? hx
     have nv:=hnb _ hxm
     have dp:d≠p:=Av g3d hp
     have mp:m≠p:=Av g3m hp
     have s4:Same H (upd H3 p (.tup [.int (x:Int),.int v])):=s3.trans (Same.upd hp)
     have g4d:upd H3 p (.tup [.int (x:Int),.int v]) d=some (.frz o (.dK (AG L))):=by rw [AI dp];exact g3d
     have g4m:upd H3 p (.tup [.int (x:Int),.int v]) m=some (.dK (AG ((L.take j).flatMap fun q=>[(q.1,q.2 * (b - t)),(q.1 ^^^ 2 ^ i,q.2 * t)]))):=by rw [AI mp];exact g3m
     have g4p:upd H3 p (.tup [.int (x:Int),.int v]) p=some (.tup [.int (x:Int),.int v]):=AJ
     show De K 2 _ (.ref p) _ (upd H3 p (.tup [.int (x:Int),.int v])) _
     generalize upd H3 p (.tup [.int (x:Int),.int v])=H4 at *
     have htake:L.take (j+1)=L.take j++[(x,v)]:=by rw [List.take_add_one,hx];rfl
     have hnot:x∉(L.take j).map (·.1):=by
      intro hmem
      have e1:(L.take (j+1)).map (·.1)=(L.take j).map (·.1)++[x]:=by rw [htake,List.map_append];rfl
      have e2:((L.take (j+1)).map (·.1)).Nodup:=by rw [List.map_take];exact hnd.sublist (List.take_sublist _ _)
      rw [e1,List.nodup_append] at e2
      exact e2.2.2 x hmem x (List.mem_singleton.mpr rfl) rfl
     obtain ⟨n1,n2⟩:=GM (t:=t) (c:=b - t) (k:=i) (pl:=pl) (l:=L.take j) (r:=(x,v)) (fun q hq=>by
      rcases List.mem_cons.mp hq with h | h
      ·rw [h];exact hin _ hxm
      ·exact hin q (List.mem_of_mem_take h)) hnot
     have hfl:((L.take j).flatMap fun q=>[(q.1,q.2 * (b - t)),(q.1 ^^^ 2 ^ i,q.2 * t)]).length<=2 * j:=by
      rw [List.length_flatMap]
      have:((L.take j).map fun q=>[(q.1,q.2 * (b - t)),(q.1 ^^^ 2 ^ i,q.2 * t)].length)=List.replicate (L.take j).length 2:=by
       rw [List.eq_replicate_iff]
       exact ⟨by rw [List.length_map],fun b hb=>by obtain ⟨a,_,rfl⟩:=List.mem_map.mp hb;rfl⟩
      rw [this,List.sum_replicate_nat,List.length_take]
      have:=Nat.min_le_left j L.length
      lia
     have enext:(L.take (j+1)).flatMap (fun q=>[(q.1,q.2 * (b - t)),(q.1 ^^^ 2 ^ i,q.2 * t)])=((L.take j).flatMap fun q=>[(q.1,q.2 * (b - t)),(q.1 ^^^ 2 ^ i,q.2 * t)])++[(x,v * (b - t))]++[(x ^^^ 2 ^ i,v * t)]:=by
      rw [htake,List.flatMap_append];simp
     rw [enext]
     generalize (L.take j).flatMap (fun q=>[(q.1,q.2 * (b - t)),(q.1 ^^^ 2 ^ i,q.2 * t)])=R at *
     refine ⟨_,.inr (.of g4p),rfl,_,_,rfl,_,_,rfl,rfl,?_⟩
     have e1:Ai (AG R) (.inl (x:Int)) (.int (0+v * (b - t)))=AG (R++[(x,v * (b - t))]):=by
      rw [Ft _ (DI n1),HN,Int.zero_add];rfl
     refine ⟨m,rfl,.inl ⟨_,.inl g4m⟩,none,by rw [<- DI n1];exact DGet.k (k:=.inl (x:Int)) g4m,Nb.okMul (nv.up (by lia)) (nc'.up (by decide)),m,upd H4 m (.dK (AG (R++[(x,v * (b - t))]))),rfl,by rw [<- e1];exact DPut.k (k:=.inl (x:Int)) g4m (As (by rw [B6];lia)),?_⟩
     have g5m:upd H4 m (.dK (AG (R++[(x,v * (b - t))]))) m=some (.dK (AG (R++[(x,v * (b - t))]))):=AJ
     have g5d:upd H4 m (.dK (AG (R++[(x,v * (b - t))]))) d=some (.frz o (.dK (AG L))):=by rw [AI dm];exact g4d
     have s5:Same H (upd H4 m (.dK (AG (R++[(x,v * (b - t))])))):=Bu s4 hm0
     generalize upd H4 m (.dK (AG (R++[(x,v * (b - t))])))=H5 at *
     have exor:Builtin.bitXor (x:Int) (1 * 2 ^ ((i:Int).toNat))=((x ^^^ 2 ^ i:Nat):Int):=by
      have:(1:Int) * 2 ^ ((i:Int).toNat)=((2 ^ i:Nat):Int):=by rw [Int.toNat_natCast,Int.natCast_pow,Int.one_mul];rfl
      rw [this,Gi]
     have e2:Ai (AG (R++[(x,v * (b - t))])) (.inl ((x ^^^ 2 ^ i:Nat):Int)) (.int (0+v * t))=AG (R++[(x,v * (b - t))]++[(x ^^^ 2 ^ i,v * t)]):=by
      rw [Ft _ (DI n2),HN (R++[(x,v * (b - t))]),Int.zero_add];rfl
     refine ⟨⟨by lia,by lia,by decide⟩,m,rfl,.inl ⟨_,.inl g5m⟩,none,by rw [exor,<- DI n2];exact DGet.k (k:=.inl ((x ^^^ 2 ^ i:Nat):Int)) g5m,Nb.okMul (nv.up (by lia)) (nt'.up (by decide)),m,upd H5 m (.dK (AG (R++[(x,v * (b - t))]++[(x ^^^ 2 ^ i,v * t)]))),rfl,by rw [exor,<- e2];exact DPut.k (k:=.inl ((x ^^^ 2 ^ i:Nat):Int)) g5m (As (by rw [B6,List.length_append];simp;lia)),?_⟩
     exact ⟨_,_,_,rfl,Bu s5 hm0,by rw [AI dm];exact g5d,AJ⟩
    ·rintro σ H3 ⟨z8,z9,z10,rfl,s3,g3d,g3m⟩
     rw [B6,List.take_of_length_le (Nat.le_refl _)] at g3m
     exact ⟨z8,z9,z10,rfl,s3,g3m⟩
   rintro σ H3 ⟨z8,z9,z10,rfl,s3,g3m⟩
   exact ⟨m,_,_,_,_,_,rfl,s3,hm0,g3m⟩
  ·rintro σ H1 ⟨d,z6,z7,z8,z9,z10,rfl,s1,hd,g1⟩
   rw [Int.toNat_natCast] at g1
   exact ⟨d,z6,z7,z8,z9,z10,rfl,s1,hd,g1⟩
 rintro σ H1 ⟨d,z6,z7,z8,z9,z10,rfl,s1,hd,g1⟩
 exact q d H1 hd s1 g1
theorem G6:FnOk P w K mg base CX0 1 T.f_z33 T.d_z33 ["subset"] BO:=by
 refine T.F_z33.ok sc_z33 (fun vs H Q E h=>by unfold BO at h;split at h <;> first | rfl | exact h.elim) (fun cdv A outer s H vs Q E hr h=>?_)
 have hu:=Ag hr
 unfold BO at h
 split at h
 rotate_left
 ·exact h.elim
 rename_i x
 obtain ⟨a,e1,h1,q⟩:=h
 subst e1
 refine ⟨_,(@AE _ _ _ _ _ (@AH _ _ 1 _ _ _ _ sc_z33.nd rfl (by right) AB (by rfl) (by symm)) (@AE _ _ _ _ _ (@AH _ _ 2 _ _ _ _ sc_z33.nd rfl (by right) (vv 0) (by rfl) (by symm)) (@AE _ _ _ _ _ (@DG _ _ _ _ _ _ PassesOwn.never (Al CD (vv 2) AB) (@AE _ _ _ _ _ (@AH _ _ 1 _ _ _ _ sc_z33.nd rfl (by right) (AC (Ad (K:=K)) (vv 1) (AC BG (vv 2) AB)) (by rfl) (by symm)) (@AL _ _ _ (@AH _ _ 2 _ _ _ _ sc_z33.nd rfl (by right) (AC Bb (vv 2) AB) (by rfl) (by symm))))) (@AL _ _ _ (@AX _ _ _ _ (vv 1)))))),?_⟩
 refine ⟨fun f σ H'=>H'=H/\∃ m r:Nat,σ=[some (.int a),some (.int m),some (.int r)]/\r < 2 ^ f/\m+AF f r=many a,⟨64,rfl,0,a,rfl,h1,by unfold many;exact Nat.zero_add _⟩,?_⟩
 rintro f σ H' ⟨rfl,m,r,rfl,hr1,hm⟩
 refine Ak (fun e=>?_) (fun e=>?_)
 ·have r0:0 < r:=by have:(0:Int) < (r:Int):=of_decide_eq_true e;lia
  cases f with
  | zero=>simp at hr1;lia
  | succ f =>
   refine ⟨by decide,A3 (by decide) (by decide),?_⟩
   refine ⟨f,Nat.lt_succ_self _,rfl,m+r % 2,r / 2,?_,?_,?_⟩
   ·show [some (V.int (a:Int)),some (V.int ((m:Int)+(r:Int) % 2)),some (V.int ((r:Int) / 2))]=_
    rw [Int.natCast_add,Int.natCast_emod,Int.natCast_ediv]
    rfl
   ·rw [Nat.pow_succ] at hr1;lia
   ·rw [<- hm]
    show m+r % 2+AF f (r / 2)=m+(r % 2+AF f (r / 2))
    lia
 ·have r0:r=0:=by
   have:¬ (0:Int) < (r:Int):=fun z=>e (decide_eq_true z)
   lia
  subst r0
  rw [C5,Nat.add_zero] at hm
  rw [<- hm] at q
  exact q
def C1 (K:W.Frag):Sp:=fun vs H Q _=>match vs with
 | [.int z,.int u,.ref ps]=>∃ (n m:Nat) (x y:Int),z=n/\u=m/\m<=n/\n<=4/\SqT K H ps [.int x,.int y]/\Nb x 134/\Nb y 134/\Q (.int (x ^ m * (y - x) ^ (n - m))) H
 | _=>False
theorem LG:AQ (C1 K):=fun vs H Q Q' E h q=>by
 unfold C1 at *
 split at q
 ·revert q;repeat' first | exact h _ _ | exact BL h | exact out_mono h | exact outT_mono h | walk_at "m"
 ·exact q.elim
theorem NA:FnOk P w K mg base CX0 2 T.f_z34 T.d_z34 ["n","turned","share"] (C1 K):=by
 have G_z28:=D7 (P:=P) (w:=w) (base:=base) T
 refine T.F_z34.ok MD (fun vs H Q E h=>by unfold C1 at h;split at h <;> first | rfl | exact h.elim) (fun cdv A outer s H vs Q E hr h=>?_)
 have hu:=Ag hr
 have hr_z28:=hr.mono (show 1<=_ by decide)
 unfold C1 at h
 split at h
 rotate_left
 ·exact h.elim
 rename_i z u ps
 obtain ⟨n,m,x,y,e1,e2,hmn,n4,hps,hx,hy,q⟩:=h
 subst e1 e2
 have n6:n<=6:=by lia
 refine ⟨_,(@AL _ _ _ (@AX _ _ _ _ (AC AU (AO G_z28 hr_z28 rfl T.m_z28 T.F_z28.kp T.b_z28 .nil AN (AA (kIx (K:=K) (vv 2) AB) (AA (vv 1) AD))) (AO G_z28 hr_z28 rfl T.m_z28 T.F_z28.kp T.b_z28 .nil AN (AA (AC BF (kIx (K:=K) (vv 2) AB) (kIx (K:=K) (vv 2) AB)) (AA (AC BF (vv 0) (vv 1)) AD)))))),?_⟩
 have nd:Nb (y - x) 138:=by unfold Nb at *;lia
 refine ⟨_,.int x,.inr hps,rfl,m,rfl,by lia,.inr ⟨hx.up (by decide),by lia⟩,?_⟩
 refine ⟨_,.int y,.inr hps,rfl,_,.int x,.inr hps,rfl,n - m,by lia,by lia,.inr ⟨nd.up (by decide),by lia⟩,?_⟩
 exact ⟨Nb.okMul ((hx.pow m).up (by lia)) ((nd.pow (n - m)).up (by lia)),q⟩
def C3 (K:W.Frag):Sp:=fun vs H Q _=>match vs with
 | [.int z,.int pz,.ref ps]=>∃ (n pl:Nat) (x y:Int),z=n/\pz=pl/\n<=4/\pl < 2 ^ n/\SqT K H ps [.int x,.int y]/\Nb x 134/\Nb y 134/\Fy H Q (ixL (fun o=>qF x (y - x) n (pl ^^^ o)) (2 ^ n))
 | _=>False
theorem OE:AQ (C3 K):=fun vs H Q Q' E h q=>by
 unfold C3 at *
 split at q
 ·revert q;repeat' first | exact h _ _ | exact BL h | exact out_mono h | exact outT_mono h | walk_at "m"
 ·exact q.elim
theorem JI:FnOk P w K mg base CX0 3 T.f_z27 T.d_z27 ["n","place","share"] (C3 K):=by
 have G_z34:=NA (P:=P) (w:=w) (base:=base) T;have G_z33:=G6 (P:=P) (w:=w) (base:=base) T;have G_z35:=GI (P:=P) (w:=w) (base:=base) T
 refine T.F_z27.ok NV (fun vs H Q E h=>by unfold C3 at h;split at h <;> first | rfl | exact h.elim) (fun cdv A outer s H vs Q E hr h=>?_)
 have hu:=Ag hr
 have mo1:AQ B8:=Gw
 have mo2:AQ BO:=FE
 have mo3:AQ (C1 K):=LG
 have hr_z34:=hr.mono (show 2<=_ by decide);have hr_z33:=hr.mono (show 1<=_ by decide);have hr_z35:=hr.mono (show 2<=_ by decide)
 unfold C3 at h
 split at h
 rotate_left
 ·exact h.elim
 rename_i z pz ps
 obtain ⟨n,pl,x,y,e1,e2,n4,hpl,hps,hx,hy,q⟩:=h
 subst e1 e2
 have n6:n<=6:=by lia
 have h64:2 ^ n<=64:=Nat.pow_le_pow_right (n:=2) (by decide) n6
 refine ⟨_,(@AL _ _ _ (@AX _ _ _ _ (@Dr _ _ _ _ _ _ _ (["other","n","place","share"]) 1 ([0,1,2]) _ _ _ _ rfl (Ay rfl T.z_range (AA (AO G_z35 hr_z35 rfl T.m_z35 T.F_z35.kp T.b_z35 .nil AN (AA (vv 0) AD)) AD)) (by kernel_rfl) rfl rfl (by kernel_rfl) (fun c=>AT (i:=0) (show (["other","n","place","share"]:List Str).Nodup by decide +kernel) rfl (by right)) (A5 (by decide)) (fun c=>BR) (fun c=>(AO G_z34 hr_z34 rfl T.m_z34 T.F_z34.kp T.b_z34 .nil AN (AA (vv 1) (AA (AO G_z33 hr_z33 rfl T.m_z33 T.F_z33.kp T.b_z33 .nil AN (AA (AC HZ (vv 2) (vv 0)) AD)) (AA (vv 3) AD))))) (by intro _;rfl)))),?_⟩
 refine ⟨n,rfl,by lia,((2 ^ n:Nat):Int),rfl,by lia,by lia,?_⟩
 refine Bf (fun i ys H'=>H'=H/\ys=ixL (fun o=>qF x (y - x) n (pl ^^^ o)) i) ⟨rfl,rfl⟩ (fun i ys H' hi ⟨_,e⟩=>by
  rw [e,ixL_len];exact As (by lia)) ?_ ?_
 ·rintro i ys H' hi ⟨rfl,rfl⟩
  have hi':i < 2 ^ n:=by lia
  have hxr:pl ^^^ i < 2 ^ n:=Nat.xor_lt_two_pow hpl hi'
  rw [show (0:Int)+(i:Int)=(i:Int) from Int.zero_add _]
  refine ⟨pl ^^^ i,Gi pl i,by lia,?_⟩
  have em:many (pl ^^^ i)=AF n (pl ^^^ i):=Iu hxr (by lia)
  rw [em]
  refine ⟨n,AF n (pl ^^^ i),x,y,rfl,rfl,Ba _ _,n4,hps,hx,hy,rfl,?_⟩
  rw [Dt]
  rfl
 ·rintro ys H' ⟨rfl,rfl⟩ l hl
  rw [Int.toNat_natCast]
  exact q l _ hl (Same.upd hl) AJ
theorem Dj {pl:Nat} {t c:Int}:∀ {k:Nat} {q:Nat × Int},q∈AM pl t c k->q.2=qF t c k (pl ^^^ q.1)
 | 0,q,h=>by
  have:q=(pl,1):=by simpa [AM] using h
  rw [this]
  show (1:Int)=qF t c 0 (pl ^^^ pl)
  rw [Nat.xor_self]
  unfold qF;simp [AF]
 | k+1,q,h=>by
  obtain ⟨r,hr,hq⟩:=List.mem_flatMap.mp (show q∈(AM pl t c k).flatMap _ from h)
  have ih:=Dj hr
  have hin:=Dc hr
  rw [Nat.xor_comm] at hin
  simp only [List.mem_cons,List.mem_nil_iff,or_false] at hq
  rcases hq with rfl | rfl
  ·show r.2 * c=qF t c (k+1) (pl ^^^ r.1)
   rw [Iy hin,ih]
  ·show r.2 * t=qF t c (k+1) (pl ^^^ (r.1 ^^^ 2 ^ k))
   rw [<- Nat.xor_assoc,Dl hin,Kh hin,ih]
theorem Dk {x y:Int} {n s:Nat} (n4:n<=4) (hx:Nb x 134) (hy:Nb y 134):Nb (qF x (y - x) n s) 830:=by
 have nd:Nb (y - x) 138:=by unfold Nb at *;lia
 have hl:=Ba n s
 unfold qF
 exact ((hx.pow (AF n s)).mul (nd.pow (n - AF n s))).up (by lia)
def upL (x y:Int) (n pl m:Nat):List Nat:=(List.range m).filter fun o=>decide (0 < qF x (y - x) n (pl ^^^ o))
theorem Eg (x y:Int) (n pl m:Nat):upL x y n pl (m+1)=upL x y n pl m++(if 0 < qF x (y - x) n (pl ^^^ m) then [m] else []):=by
 unfold upL
 rw [List.range_succ,List.filter_append]
 congr 1
 by_cases h:0 < qF x (y - x) n (pl ^^^ m)
 ·rw [if_pos h,List.filter_cons_of_pos (by simp [h])];rfl
 ·rw [if_neg h,List.filter_cons_of_neg (by simp [h])];rfl
theorem Gr {x y:Int} {n pl m o:Nat} (h:o∈upL x y n pl m):o < m:=List.mem_range.mp (List.mem_filter.mp h).1
theorem EE (x y:Int) (n pl m:Nat):(upL x y n pl m).length<=m:=by
 have:=List.length_filter_le (fun o=>decide (0 < qF x (y - x) n (pl ^^^ o))) (List.range m)
 rw [List.length_range] at this
 exact this
structure WyAt (H:Hp) (d:Addr) (x y:Int) (n pl m:Nat) (fs:List (Nat × Addr)):Prop where
 at_:H d=some (.dK (fs.map fun q=>(Sum.inl (q.1:Int),V.ref q.2)))
 ks:fs.map (·.1)=upL x y n pl m
 tp:∀ q∈fs,H q.2=some (.tup [.int (shT (qF x (y - x) n (pl ^^^ q.1)) (y ^ n)),.int (shB (qF x (y - x) n (pl ^^^ q.1)) (y ^ n))])
theorem JR {K:W.Frag} {l:Addr} {xs:List V} {g:TG} {tb:TS} {D:Ends} {σ:St} {H:Hp} (Pv:Nat->St->Hp->Prop) (h0:Pv 0 σ H) (hl:∀ i σ H,i<=xs.length->Pv i σ H->SqL K H l xs)
 (hs:∀ i x p σ H,xs[i]? = some x->Pv i σ H->H p=none->g (.ref p) σ (upd H p (.tup [.int (i:Nat),x])) fun σ2 H2=>tb { D with nx:=Pv (i+1),ct:=Pv (i+1),bk:=D.nx } σ2 H2) (hd:∀ σ H,Pv xs.length σ H->D.nx σ H) :
 ∃ W:Nat->Nat->St->Hp->Prop,(∃ m,W 0 m σ H)/\∀ i m σ H,W i m σ H ->
  ((Ite K l).stop i H/\D.nx σ H)\/((Ite K l).go i H/\∃ N:St->Hp->Prop,(∀ σ' H',N σ' H'->∃ m',m' < m/\W (i+1) m' σ' H')/\∀ x H',(Ite K l).yld i H x H'->g x σ H' fun σ2 H2=>tb { D with nx:=N,ct:=N,bk:=D.nx } σ2 H2):=by
 refine ⟨fun i m σ H=>m=xs.length - i/\i<=xs.length/\Pv i σ H,⟨xs.length,by simp,Nat.zero_le _,h0⟩,?_⟩
 rintro i m σ H ⟨rfl,hi,p⟩
 have q:=hl i σ H hi p
 by_cases hlt:i < xs.length
 ·refine .inr ⟨⟨xs,xs[i],q,by simp [hlt]⟩,Pv (i+1),fun σ' H' p'=>⟨xs.length - (i+1),by lia,rfl,hlt,p'⟩,fun x H' y=>?_⟩
  obtain ⟨pp,x,hp,rfl,rfl,k1⟩:=y
  exact hs i x pp σ H (k1 xs q) p hp
 ·have e:i=xs.length:=by lia
  subst e
  exact .inl ⟨⟨xs,q,Nat.le_refl _⟩,hd σ H p⟩
theorem LA {l:List (Nat × Addr)} {p:Nat} (h:p∉l.map (·.1)):Ap (l.map fun q=>((Sum.inl (q.1:Int):Key),V.ref q.2)) (.inl (p:Int))=none:=by
 unfold Ap
 rw [Option.map_eq_none_iff,List.find?_eq_none]
 intro kv hkv
 obtain ⟨q,hq,rfl⟩:=List.mem_map.mp hkv
 intro e
 have e:=of_decide_eq_true e
 refine h ?_
 have:q.1=p:=by have:=Sum.inl.inj e;lia
 rw [<- this]
 exact List.mem_map_of_mem (f:=(·.1)) hq
def Co (K:W.Frag):Sp:=fun vs H Q _=>match vs with
 | [.int z,.int pz,.ref ps]=>∃ (n pl:Nat) (x y:Int),z=n/\pz=pl/\n<=4/\pl < 2 ^ n/\SqT K H ps [.int x,.int y]/\0 < y/\Nb x 134/\Nb y 134/\∀ d H' fs,H d=none->Same H H'->WyAt H' d x y n pl (2 ^ n) fs->Q (.ref d) H'
 | _=>False
theorem Nv:AQ (Co K):=fun vs H Q Q' E h q=>by
 unfold Co at *
 split at q
 ·revert q;repeat' first | exact h _ _ | exact BL h | exact out_mono h | exact outT_mono h | walk_at "m"
 ·exact q.elim
theorem NB:FnOk P w K mg base CX0 4 T.f_z37 T.d_z37 ["n","place","share"] (Co K):=by
 have G_z28:=D7 (P:=P) (w:=w) (base:=base) T;have G_z27:=JI (P:=P) (w:=w) (base:=base) T;have G_z29:=EY (P:=P) (w:=w) (base:=base) T
 refine T.F_z37.ok sc_z37 (fun vs H Q E h=>by unfold Co at h;split at h <;> first | rfl | exact h.elim) (fun cdv A outer s H vs Q E hr h=>?_)
 have hu:=Ag hr
 have mo1:AQ (C3 K):=OE
 have mo2:AQ A9:=DE
 have mo3:AQ BM:=Fj
 have hr_z28:=hr.mono (show 1<=_ by decide);have hr_z27:=hr.mono (show 3<=_ by decide);have hr_z29:=hr.mono (show 2<=_ by decide)
 unfold Co at h
 split at h
 rotate_left
 ·exact h.elim
 rename_i z pz ps
 obtain ⟨n,pl,x,y,e1,e2,n4,hpl,hps,y0,nx,ny,q⟩:=h
 subst e1 e2
 have n6:n<=6:=by lia
 have h64:2 ^ n<=64:=Nat.pow_le_pow_right (n:=2) (by decide) n6
 refine ⟨_,(@AE _ _ _ _ _ (@AH _ _ 3 _ _ _ _ sc_z37.nd rfl (by right) (AO G_z28 hr_z28 rfl T.m_z28 T.F_z28.kp T.b_z28 .nil AN (AA (kIx (K:=K) (vv 2) AB) (AA (vv 0) AD))) (by rfl) (by symm)) (@AE _ _ _ _ _ (@AH _ _ 4 _ _ _ _ sc_z37.nd rfl (by right) FB (by rfl) (by symm)) (@AE _ _ _ _ _ (@BJ _ _ _ _ _ _ _ _ PassesOwn.never rfl (IT (K:=K) rfl T.z_enumerate (AA (AO G_z27 hr_z27 rfl T.m_z27 T.F_z27.kp T.b_z27 .nil AN (AA (vv 0) (AA (vv 1) (AA (vv 2) AD)))) AD)) (Ct (K:=K) (n:=2) rfl (A6 (AT (i:=5) sc_z37.nd rfl (by right)) (A6 (AT (i:=6) sc_z37.nd rfl (by right)) By))) (@AL _ _ _ (@BI _ _ _ _ _ _ _ _ (Al CD (vv 6) AB) (@AL _ _ _ (@Du _ _ _ _ _ _ _ _ _ (BX hu) (vv 4) (vv 5) (AO G_z29 hr_z29 rfl T.m_z29 T.F_z29.kp T.b_z29 .nil AN (AA (vv 6) (AA (vv 3) AD))) (by rfl))) BH)) (by intro _;rfl)) (@AL _ _ _ (@AX _ _ _ _ (vv 4)))))),?_⟩
 refine ⟨_,.int y,.inr hps,rfl,n,rfl,by lia,.inr ⟨ny.up (by decide),by lia⟩,?_⟩
 dsimp only [AV]
 refine fun d hd=>?_
 dsimp only [AV]
 refine Ab (fun σ H'=>∃ (z5 z6:Option V) (fs:List (Nat × Addr)),σ=[some (.int n),some (.int pl),some (.ref ps),some (.int (y ^ n)),some (.ref d),z5,z6]/\Same H H'/\WyAt H' d x y n pl (2 ^ n) fs) ?_ ?_ (by walk_at "sm")
 ·refine ⟨n,pl,x,y,rfl,rfl,n4,hpl,(Same.upd hd).sqT hps,nx,ny,fun l H1 hl s1 g1=>?_⟩
  refine ⟨⟨_,.of g1⟩,?_⟩
  have sd:Same H H1:=(Same.upd hd).trans s1
  have g1d:H1 d=some (.dK []):=s1 _ _ AJ
  refine JR (xs:=ixL (fun o=>qF x (y - x) n (pl ^^^ o)) (2 ^ n)) (fun i σ H'=>∃ (z5 z6:Option V) (fs:List (Nat × Addr)),σ=[some (.int n),some (.int pl),some (.ref ps),some (.int (y ^ n)),some (.ref d),z5,z6]/\Same H H'/\H' l=some (.lst (ixL (fun o=>qF x (y - x) n (pl ^^^ o)) (2 ^ n)))/\WyAt H' d x y n pl i fs) ⟨none,none,[],rfl,sd,g1,g1d,rfl,fun q hq=>by cases hq⟩ (fun i σ H' hi ⟨_,_,_,_,_,g,_⟩=>.of g) ?_ ?_
  ·rintro i u p σ H2 hu' ⟨z5,z6,fs,rfl,s2,g2,w2⟩ hp
   have hi:i < 2 ^ n:=by
    have:=(List.getElem?_eq_some_iff.mp hu').1
    rwa [ixL_len] at this
   rw [DB hi] at hu'
   cases hu'
   have dp:d≠p:=Av w2.at_ hp
   have lp:l≠p:=Av g2 hp
   have s3:Same H (upd H2 p (.tup [.int (i:Nat),.int (qF x (y - x) n (pl ^^^ i))])):=s2.trans (Same.upd hp)
   have sx:=Same.upd (o:=.tup [.int (i:Nat),.int (qF x (y - x) n (pl ^^^ i))]) hp
   have g3p:upd H2 p (.tup [.int (i:Nat),.int (qF x (y - x) n (pl ^^^ i))]) p=some (.tup [.int (i:Nat),.int (qF x (y - x) n (pl ^^^ i))]):=AJ
   have w3a:=sx _ _ w2.at_
   have w3t:∀ q∈fs,upd H2 p (.tup [.int (i:Nat),.int (qF x (y - x) n (pl ^^^ i))]) q.2=some (.tup [.int (shT (qF x (y - x) n (pl ^^^ q.1)) (y ^ n)),.int (shB (qF x (y - x) n (pl ^^^ q.1)) (y ^ n))]):=fun q hq=>sx _ _ (w2.tp q hq)
   have g3:=sx _ _ g2
   have ks:=w2.ks
   clear w2 sx
   generalize upd H2 p (.tup [.int (i:Nat),.int (qF x (y - x) n (pl ^^^ i))])=H3 at *
   have nq:=Dk (s:=pl ^^^ i) n4 nx ny
   refine ⟨_,.inr (.of g3p),rfl,_,_,rfl,_,_,rfl,rfl,?_⟩
   refine Ak (fun e=>?_) (fun e=>?_)
   ·have e':0 < qF x (y - x) n (pl ^^^ i):=of_decide_eq_true e
    refine ⟨Int.pow_pos y0,nq.up (show 830<=1000 by decide),(ny.pow n).up (by lia),fun p2 hp2=>?_⟩
    have dp2:d≠p2:=Av w3a hp2
    have sy:=Same.upd (o:=.tup [.int (shT (qF x (y - x) n (pl ^^^ i)) (y ^ n)),.int (shB (qF x (y - x) n (pl ^^^ i)) (y ^ n))]) hp2
    have hlen:(fs.map fun q=>((Sum.inl (q.1:Int):Key),V.ref q.2)).length<=64:=by
     have h1:=EE x y n pl i
     rw [<- ks,List.length_map] at h1
     rw [List.length_map]
     lia
    have hnot:i∉fs.map (·.1):=by rw [ks];intro z;exact absurd (Gr z) (Nat.lt_irrefl _)
    refine ⟨d,_,rfl,DPut.k (k:=Sum.inl (i:Int)) (sy _ _ w3a) (As (by lia)),_,_,fs++[(i,p2)],rfl,Bu (s3.trans sy) hd,?_,?_,?_,?_⟩
    ·rw [AI (fun z=>by rw [z,w3a] at g3;cases g3)]
     exact sy _ _ g3
    ·rw [AJ,Ft _ (LA hnot),List.map_append]
     rfl
    ·rw [Eg,if_pos e',List.map_append,ks]
     rfl
    ·intro q hq
     rcases List.mem_append.mp hq with h | h
     ·have h1:=w3t q h
      rw [AI (fun z=>by rw [z,w3a] at h1;cases h1)]
      exact sy _ _ h1
     ·rw [List.mem_singleton] at h
      subst h
      rw [AI (Ne.symm dp2)]
      exact AJ
   ·have e':¬ 0 < qF x (y - x) n (pl ^^^ i):=fun z=>e (decide_eq_true z)
    refine ⟨_,_,fs,rfl,s3,g3,w3a,?_,w3t⟩
    rw [Eg,if_neg e',List.append_nil]
    exact ks
  ·rintro σ H2 ⟨z5,z6,fs,rfl,s2,g2,w2⟩
   rw [ixL_len] at w2
   exact ⟨z5,z6,fs,rfl,s2,w2⟩
 ·rintro σ H1 ⟨z5,z6,fs,rfl,s1,w1⟩
  exact q d H1 fs hd s1 w1
theorem Fo {α:Type} (key:α->Int):∀ {l r:List α},l.Perm r->l.Pairwise (fun a b=>key a < key b)->r.Pairwise (fun a b=>key a < key b)->l=r
 | [],r,h,_,_=>h.nil_eq
 | a::l,[],h,_,_=>absurd h.length_eq (by simp)
 | a::l,b::r,h,p1,p2=>by
  have e:a=b:=by
   rcases List.mem_cons.mp (h.mem_iff.mp List.mem_cons_self) with z | z
   ·exact z
   ·rcases List.mem_cons.mp (h.mem_iff.mpr (List.mem_cons_self (a:=b) (l:=r))) with y | y
    ·exact y.symm
    ·have h1:=(List.pairwise_cons.mp p2).1 a z
     have h2:=(List.pairwise_cons.mp p1).1 b y
     lia
  subst e
  rw [Fo key h.cons_inv (List.pairwise_cons.mp p1).2 (List.pairwise_cons.mp p2).2]
theorem FX {pl:Nat} {t c:Int}:∀ {k s:Nat},s < 2 ^ k->(pl ^^^ s)∈(AM pl t c k).map (·.1)
 | 0,s,h=>by
  have:s=0:=by simpa using h
  subst this
  simp [AM]
 | k+1,s,h=>by
  rcases Nat.lt_or_ge s (2 ^ k) with z | z
  ·obtain ⟨r,hr,e⟩:=List.mem_map.mp (FX (pl:=pl) (t:=t) (c:=c) z)
   refine List.mem_map.mpr ⟨(r.1,r.2 * c),List.mem_flatMap.mpr ⟨r,hr,by simp⟩,e⟩
  ·have h2:s - 2 ^ k < 2 ^ k:=by rw [Nat.pow_succ] at h;lia
   obtain ⟨r,hr,e⟩:=List.mem_map.mp (FX (pl:=pl) (t:=t) (c:=c) h2)
   refine List.mem_map.mpr ⟨(r.1 ^^^ 2 ^ k,r.2 * t),List.mem_flatMap.mpr ⟨r,hr,by simp⟩,?_⟩
   show r.1 ^^^ 2 ^ k=pl ^^^ s
   have e:r.1=pl ^^^ (s - 2 ^ k):=e
   rw [e,Nat.xor_assoc,Dl h2]
   congr 1
   lia
theorem MP {pl n o:Nat} {t c:Int} (hpl:pl < 2 ^ n) (ho:o < 2 ^ n):(o,qF t c n (pl ^^^ o))∈AM pl t c n:=by
 have h1:=FX (pl:=pl) (t:=t) (c:=c) (Nat.xor_lt_two_pow hpl ho)
 have e:pl ^^^ (pl ^^^ o)=o:=by rw [<- Nat.xor_assoc,Nat.xor_self,Nat.zero_xor]
 rw [e] at h1
 obtain ⟨q,hq,e2⟩:=List.mem_map.mp h1
 have:=Dj hq
 have e2:q.1=o:=e2
 rw [e2] at this
 rw [<- this,<- e2]
 exact hq
theorem KS {pl n:Nat} {x c:Int} (hpl:pl < 2 ^ n) {q:Nat × Int} (h:q∈AM pl x c n):q.1 < 2 ^ n:=by
 have h1:=Dc h
 have h2:=Nat.xor_lt_two_pow h1 hpl
 have:q.1 ^^^ pl ^^^ pl=q.1:=by rw [Nat.xor_assoc,Nat.xor_self,Nat.xor_zero]
 rwa [this] at h2
theorem N3 (M:Nat):((List.range M).map fun (i:Nat)=>(i:Int)).Pairwise (fun a b=>id a < id b):=by
 rw [List.pairwise_map]
 exact List.pairwise_lt_range.imp fun h=>Int.ofNat_lt.mpr h
def wyE (x y:Int) (n pl o:Nat):Dv:=.tup [.int (o:Int),shD (qF x (y - x) n (pl ^^^ o)) (y ^ n)]
def wyD (x y:Int) (n pl:Nat):Dv:=.lst ((upL x y n pl (2 ^ n)).map (wyE x y n pl))
theorem G4 {α:Type} {f:α->Dv}:∀ {l:List α},(∀ a∈l,Ae (f a)=true)->Ar (l.map f)=true
 | [],_=>by unfold Ar;rfl
 | a::l,h=>by
  rw [List.map_cons]
  unfold Ar
  rw [h a List.mem_cons_self,G4 fun b hb=>h b (List.mem_cons_of_mem _ hb)]
  rfl
theorem Ia {α:Type} {f:α->Dv} {c:Nat}:∀ {l:List α},(∀ a∈l,Am (f a)<=c)->A2 (l.map f)<=l.length * (c+1)
 | [],_=>by unfold A2;simp
 | a::l,h=>by
  rw [List.map_cons]
  unfold A2
  have h1:=h a List.mem_cons_self
  have h2:=Ia (l:=l) fun b hb=>h b (List.mem_cons_of_mem _ hb)
  rw [List.length_cons,Nat.succ_mul]
  lia
theorem HX {α:Type} {f:α->Dv} {c:Nat}:∀ {l:List α},(∀ a∈l,AR (f a)<=c)->Ax (l.map f)<=c
 | [],_=>by unfold Ax;exact Nat.zero_le _
 | a::l,h=>by
  rw [List.map_cons]
  unfold Ax
  have h1:=h a List.mem_cons_self
  have h2:=HX (l:=l) fun b hb=>h b (List.mem_cons_of_mem _ hb)
  lia
theorem IZ {x y:Int} {n pl:Nat} (n4:n<=4) (hpl:pl < 2 ^ n) (y0:0 < y) (nx:Nb x 134) (ny:Nb y 134):Ae (wyD x y n pl)=true/\Am (wyD x y n pl)<=8000/\AR (wyD x y n pl)<=60:=by
 have n6:n<=6:=by lia
 have h64:2 ^ n<=64:=Nat.pow_le_pow_right (n:=2) (by decide) n6
 have n2:Nb (y ^ n) 1000:=(ny.pow n).up (by lia)
 have yp:0 < y ^ n:=Int.pow_pos y0
 have hlen:=EE x y n pl (2 ^ n)
 refine ⟨?_,?_,?_⟩
 ·unfold wyD Ae
  refine G4 fun o ho=>?_
  have h1:=Gr ho
  unfold wyE Ae Ar Ar Ar
  rw [N5 (Nat.lt_of_lt_of_le (show ((o:Nat):Int).natAbs < 2 ^ 7 by lia) (Nat.pow_le_pow_right (by decide) (by decide))),Ef ((Dk n4 nx ny).up (show 830<=1000 by decide)) n2 yp]
  rfl
 ·unfold wyD Am
  have:=Ia (f:=wyE x y n pl) (c:=4) (l:=upL x y n pl (2 ^ n)) fun o ho=>by
   unfold wyE Am A2 A2 A2
   rw [LL,FM]
   decide
  lia
 ·unfold wyD AR
  have:=HX (f:=wyE x y n pl) (c:=2) (l:=upL x y n pl (2 ^ n)) fun o ho=>by
   unfold wyE AR Ax Ax Ax
   rw [JB,Eu]
   decide
  lia
theorem Em {H:Hp} {x y:Int} {n pl:Nat}:∀ {os:List Nat} {as:List Addr},as.length=os.length->(∀ (i:Nat) a o,as[i]? = some a->os[i]? = some o->∃ b,H a=some (.tup [.int (o:Int),.ref b])/\H b=some (.tup [.int (shT (qF x (y - x) n (pl ^^^ o)) (y ^ n)),.int (shB (qF x (y - x) n (pl ^^^ o)) (y ^ n))]))->Reps K H (os.map (wyE x y n pl)) (as.map V.ref)
 | [],[],_,_=>Bi
 | [],_::_,h,_=>absurd h (by simp)
 | _::_,[],h,_=>absurd h (by simp)
 | o::os,a::as,h,g=>by
  obtain ⟨b,h1,h2⟩:=g 0 a o rfl rfl
  rw [List.map_cons,List.map_cons]
  exact BC (DP h1 (BC Bz (BC (B4 h2) Bi))) (Em (by simpa using h) fun i a' o' e1 e2=>g (i+1) a' o' e1 e2)
theorem Ly (x y:Int) (n pl m:Nat):(upL x y n pl m).Pairwise (· < ·):=List.Pairwise.sublist List.filter_sublist List.pairwise_lt_range
theorem NW {H8 H9:Hp} {d l:Addr} {x y:Int} {n pl:Nat} {fs:List (Nat × Addr)} {as:List Addr} {rs:List (Int × V)} (W:WyAt H8 d x y n pl (2 ^ n) fs) (pm:rs.Perm (fs.map fun q=>((q.1:Int),V.ref q.2))) (srt:(rs.map (·.1)).Pairwise (· < ·)) (s:Same H8 H9) (gl:H9 l=some (.lst (as.map V.ref))) (hlen:as.length=rs.length)
 (a7:∀ (i:Nat) a q,as[i]? = some a->rs[i]? = some q->H9 a=some (.tup [.int q.1,q.2])):Rep K H9 (wyD x y n pl) (.ref l):=by
 have ks:=W.ks
 have e:rs=fs.map fun q=>((q.1:Int),V.ref q.2):=by
  have srt2:rs.Pairwise (fun a b=>a.1 < b.1):=by
   rw [List.pairwise_map] at srt
   exact srt
  refine Fo (fun q=>q.1) pm srt2 ?_
  rw [List.pairwise_map]
  have h1:=Ly x y n pl (2 ^ n)
  rw [<- ks,List.pairwise_map] at h1
  exact h1.imp fun h=>Int.ofNat_lt.mpr h
 subst e
 have hl2:fs.length=(upL x y n pl (2 ^ n)).length:=by rw [<- ks,List.length_map]
 unfold wyD Rep
 refine ⟨l,_,rfl,.of gl,Em (by rw [hlen,List.length_map,hl2]) fun i a o h1 h2=>?_⟩
 rw [<- ks,List.getElem?_map] at h2
 obtain ⟨q,e1,e2⟩:=Option.map_eq_some_iff.mp h2
 have e2:q.1=o:=e2
 subst e2
 refine ⟨q.2,a7 i a ((q.1:Int),V.ref q.2) h1 (by rw [List.getElem?_map,e1];rfl),s _ _ (W.tp q (List.mem_of_getElem? e1))⟩
def FT (K:W.Frag):Sp:=fun vs H Q _=>match vs with
 | [v]=>∃ (m:Nat) (g:Nat->Int),SumAt K H v m (A0 g (2 ^ m))/\m<=6/\Da g/\∀ l H',H l=none->Same H H'->H' l=some (.lst (ixL (lvF m g (2 ^ m)) (m+1)))->Q (.ref l) H'
 | _=>False
theorem NJ (n:Nat):(List.replicate n [V.int 0]).flatten=ixL (fun _=>0) n:=by
 induction n with
 | zero=>rfl
 | succ n ih=>rw [List.replicate_succ',List.flatten_append,ih,Dt];rfl
theorem Nw:FnOk P w K mg base CX0 2 T.f_z16 T.d_z16 ["one"] (FT K):=by
 have G_z33:=G6 (P:=P) (w:=w) (base:=base) T
 refine T.F_z16.ok sc_z16 (fun vs H Q E h=>by unfold FT at h;split at h <;> first | rfl | exact h.elim) (fun cdv A outer s H vs Q E hr h=>?_)
 have hu:=Ag hr
 have mo1:AQ BO:=FE
 have hr_z33:=hr.mono (show 1<=_ by decide)
 unfold FT at h
 split at h
 rotate_left
 ·exact h.elim
 rename_i v
 obtain ⟨m,g,S,m6,hg,q⟩:=h
 obtain ⟨a,b,vs,rfl,ha,hb,hr'⟩:=id S.at_
 have h64:2 ^ m<=64:=Nat.pow_le_pow_right (n:=2) (by decide) m6
 have hvl:vs.length=(A0 g (2 ^ m)).length:=by have:=hr'.length;rw [List.length_map] at this;lia
 refine ⟨_,(@AE _ _ _ _ _ (@AH _ _ 1 _ _ _ _ sc_z16.nd rfl (by right) (AC AU (@EO _ _ _ _ (AA AB AD)) (AC (Ad (K:=K)) (kIx (K:=K) (vv 0) AB) AB)) (by rfl) (by symm)) (@AE _ _ _ _ _ (@BJ _ _ _ _ _ _ _ _ PassesOwn.never rfl (Fl (K:=K) (kIx (K:=K) (vv 0) AB)) (Ct (K:=K) (n:=2) rfl (A6 (AT (i:=2) sc_z16.nd rfl (by right)) (A6 (AT (i:=3) sc_z16.nd rfl (by right)) By))) (@AE _ _ _ _ _ (@AH _ _ 4 _ _ _ _ sc_z16.nd rfl (by right) (AO G_z33 hr_z33 rfl T.m_z33 T.F_z33.kp T.b_z33 .nil AN (AA (vv 2) AD)) (by rfl) (by symm)) (@AL _ _ _ (@B3 _ _ _ _ _ _ (AC (Ad (K:=K)) (kIx (K:=K) (vv 1) (vv 4)) (AC AU (vv 3) (vv 3))) (Cz (vv 1) (vv 4) CP) (by rfl) (by rfl) (by rfl)))) (by intro _;rfl)) (@AL _ _ _ (@AX _ _ _ _ (vv 1))))),?_⟩
 -- found=[0] * (n+1)
 refine ⟨A8 (show 1<=1000 by decide),fun p0 hp0=>?_⟩
 have ha1:=B0 ha (Same.upd (o:=.lst [.int 0]) hp0)
 refine ⟨_,.int m,.inr ha1,rfl,p0,(m:Int)+1,_,rfl,rfl,AJ,by lia,by lia,A8 (by show 1 * ((m:Int)+1).toNat<=1000;lia),fun l hl=>?_⟩
 have en:((m:Int)+1).toNat=m+1:=by lia
 rw [en,NJ]
 dsimp only [AV]
 have s1:=(Same.upd (o:=.lst [.int 0]) hp0).trans (Same.upd (o:=.lst (ixL (fun _=>0) (m+1))) hl)
 have hl0:H l=none:=(Same.upd (o:=.lst [.int 0]) hp0).free hl
 have g1:upd (upd H p0 (.lst [.int 0])) l (.lst (ixL (fun _=>0) (m+1))) l=some (.lst (ixL (lvT m ((A0 g (2 ^ m)).take 0)) (m+1))):=AJ
 generalize upd (upd H p0 (.lst [.int 0])) l (.lst (ixL (fun _=>0) (m+1)))=H1 at *
 refine ⟨_,.ref b,.inr (B0 ha s1),rfl,.inr ⟨⟨_,B0 hb s1⟩,?_⟩⟩
 refine Mj (xs:=vs) (fun i σ H'=>∃ z2 z3 z4:Option V,σ=[some (.ref a),some (.ref l),z2,z3,z4]/\Same H H'/\H' l=some (.lst (ixL (lvT m ((A0 g (2 ^ m)).take i)) (m+1)))) ⟨none,none,none,rfl,s1,g1⟩ (fun i σ H' _ ⟨_,_,_,_,s,_⟩=>B0 hb s) ?_ ?_
 ·rintro i x σ H2 hx ⟨z2,z3,z4,rfl,s2,g2⟩
  obtain ⟨⟨k,wgt⟩,c,hq,rfl,hc⟩:=NI hr' hx
  have hm:=GK (List.mem_of_getElem? hq)
  have hk:k < 2 ^ m:=hm.1
  have hw:wgt=g k:=hm.2.1
  have h1:=hg k
  rw [<- hw] at h1
  have h2:=Ba m k
  refine ⟨_,.inr (B0 hc s2),rfl,_,_,rfl,_,_,rfl,rfl,?_⟩
  refine ⟨k,rfl,by lia,?_⟩
  rw [Iu hk (by lia)]
  refine ⟨_,_,.inl (.of g2),DS (show AF m k < m+1 by lia),LF h1,_,AF m k,g2,by rw [ixL_len];exact D3 (by lia),?_⟩
  refine ⟨_,_,_,rfl,Bu s2 hl0,?_⟩
  rw [AJ,EQ]
  congr 2
  exact B2 fun j _=>by
   rw [Ni hq]
   by_cases e:j=AF m k
   ·rw [if_pos e,if_pos e,e]
   ·rw [if_neg e,if_neg e]
 ·rintro σ H2 ⟨z2,z3,z4,rfl,s2,g2⟩
  rw [List.take_of_length_le (by lia),B2 fun j _=>Mw m g j (2 ^ m)] at g2
  exact q l H2 hl0 s2 g2
def stW (m:Nat) (y:Int):Int:=((2 ^ (2 * m):Nat):Int) * y ^ m
def stP (m:Nat) (g:Nat->Int) (x y:Int) (n:Nat):Int:=sumTo (fun j=>lvF m g (2 ^ m) j * (y - 2 * x) ^ j * y ^ (m - j)) n
def Cw (K:W.Frag):Sp:=fun vs H Q _=>match vs with
 | [v,.ref ps]=>∃ (m:Nat) (g:Nat->Int) (x y:Int),SumAt K H v m (A0 g (2 ^ m))/\m<=4/\Da g/\SqT K H ps [.int x,.int y]/\0 < y/\Nb x 134/\Nb y 134/\∀ p H',H p=none->Same H H'->H' p=some (.tup [.int (shT (stW m y+stP m g x y (m+1)) (2 * stW m y)),.int (shB (stW m y+stP m g x y (m+1)) (2 * stW m y))])->Q (.ref p) H'
 | _=>False
theorem Lu:AQ (Cw K):=fun vs H Q Q' E h q=>by
 unfold Cw at *
 split at q
 ·revert q;repeat' first | exact h _ _ | exact BL h | exact out_mono h | exact outT_mono h | walk_at "m"
 ·exact q.elim
theorem J9 {m:Nat} {y:Int} (h:0 < y):0 < stW m y:=Int.mul_pos (by have:=Nat.two_pow_pos (2 * m);lia) (Int.pow_pos h)
theorem Jt {m:Nat} {y:Int} (m4:m<=4) (h:Nb y 134):Nb (stW m y) 560:=by
 have h1:Nb ((2 ^ (2 * m):Nat):Int) 13:=by
  unfold Nb
  rw [Int.natAbs_natCast]
  exact Nat.pow_lt_pow_right (by decide) (by lia)
 exact (h1.mul (h.pow m)).up (by lia)
theorem N4 {m:Nat} {g:Nat->Int} (m6:m<=6) (hg:Da g) (j:Nat):Nb (lvF m g (2 ^ m) j) 20:=by
 have h64:2 ^ m<=64:=Nat.pow_le_pow_right (n:=2) (by decide) m6
 have h:=K2 (m:=m) hg (n:=2 ^ m) j
 unfold Nb
 lia
theorem Fq {x y:Int} (hx:Nb x 134) (hy:Nb y 134):Nb (y - 2 * x) 137:=by
 unfold Nb at *
 lia
def DT (m:Nat) (f:Nat->Int) (x y:Int) (n:Nat):Int:=sumTo (fun j=>f j * (y - 2 * x) ^ j * y ^ (m - j)) n
theorem Gg {m:Nat} {f:Nat->Int} {x y:Int} (m4:m<=4) (hf:∀ j,j < m+1->Nb (f j) 20) (hx:Nb x 134) (hy:Nb y 134) (j:Nat) (hj:j < m+1):Nb (f j * (y - 2 * x) ^ j) 580/\Nb (y ^ (m - j)) 580/\Nb (f j * (y - 2 * x) ^ j * y ^ (m - j)) 900:=by
 have h1:Nb (f j * (y - 2 * x) ^ j) (21+137 * j):=((hf j hj).mul ((Fq hx hy).pow j)).up (by lia)
 have h2:Nb (y ^ (m - j)) (134 * (m - j)+1):=(hy.pow (m - j)).up (by lia)
 exact ⟨h1.up (by lia),h2.up (by lia),(h1.mul h2).up (by lia)⟩
def Ez (K:W.Frag):Sp:=fun vs H Q _=>match vs with
 | [.int z,.ref l0,.ref ps]=>∃ (m:Nat) (f:Nat->Int) (x y:Int),z=m/\m<=4/\(∀ j,j < m+1->Nb (f j) 20)/\SqL K H l0 (ixL f (m+1))/\SqT K H ps [.int x,.int y]/\0 < y/\Nb x 134/\Nb y 134/\∀ p H',H p=none->Same H H'->H' p=some (.tup [.int (shT (stW m y+DT m f x y (m+1)) (2 * stW m y)),.int (shB (stW m y+DT m f x y (m+1)) (2 * stW m y))])->Q (.ref p) H'
 | _=>False
theorem Kz:FnOk P w K mg base CX0 3 T.f_z31 T.d_z31 ["n","squares","share"] (Ez K):=by
 have G_z29:=EY (P:=P) (w:=w) (base:=base) T;have G_z35:=GI (P:=P) (w:=w) (base:=base) T;have G_z28:=D7 (P:=P) (w:=w) (base:=base) T
 refine T.F_z31.ok sc_z31 (fun vs H Q E h=>by unfold Ez at h;split at h <;> first | rfl | exact h.elim) (fun cdv A outer s H vs Q E hr h=>?_)
 have hu:=Ag hr
 have mo2:AQ BM:=Fj
 have mo3:AQ B8:=Gw
 have mo4:AQ A9:=DE
 have hr_z29:=hr.mono (show 2<=_ by decide);have hr_z35:=hr.mono (show 2<=_ by decide);have hr_z28:=hr.mono (show 1<=_ by decide)
 unfold Ez at h
 split at h
 rotate_left
 ·exact h.elim
 rename_i z l0 ps
 obtain ⟨m,f,x,y,e1,m4,hf,g1,hps,y0,hx,hy,q⟩:=h
 subst e1
 have m6:m<=6:=by lia
 refine ⟨_,(@AE _ _ _ _ _ (@AH _ _ 3 _ _ _ _ sc_z31.nd rfl (by right) (kIx (K:=K) (vv 2) AB) (by rfl) (by symm)) (@AE _ _ _ _ _ (@AH _ _ 4 _ _ _ _ sc_z31.nd rfl (by right) (AC BF (vv 3) (AC AU AB (kIx (K:=K) (vv 2) AB))) (by rfl) (by symm)) (@AE _ _ _ _ _ (@Bg _ _ _ _ _ _ _ (["many","level","less","bottom","n"]) 2 ([4,3,0]) _ _ _ _ 5 _ _ _ rfl sc_z31.nd rfl rfl (IT (K:=K) rfl T.z_enumerate (AA (vv 1) AD)) (by kernel_rfl) rfl rfl (by kernel_rfl) (fun c=>N6 (K:=K) (n:=2) rfl (A6 (AT (i:=0) (show (["many","level","less","bottom","n"]:List Str).Nodup by decide +kernel) rfl (by right)) (A6 (AT (i:=1) (show (["many","level","less","bottom","n"]:List Str).Nodup by decide +kernel) rfl (by right)) By))) (NE (Iw EM (HJ EM E2) (A5 (by decide)) (Iw EM E2 (A5 (by decide)) KB))) (fun c=>BR) (fun c=>(AC AU (AC AU (vv 1) (AO G_z28 hr_z28 rfl T.m_z28 T.F_z28.kp T.b_z28 .nil AN (AA (vv 2) (AA (vv 0) AD)))) (AO G_z28 hr_z28 rfl T.m_z28 T.F_z28.kp T.b_z28 .nil AN (AA (vv 3) (AA (AC BF (vv 4) (vv 0)) AD))))) (by rfl) (by intro _;rfl)) (@AE _ _ _ _ _ (@AH _ _ 6 _ _ _ _ sc_z31.nd rfl (by right) (AC AU (AO G_z35 hr_z35 rfl T.m_z35 T.F_z35.kp T.b_z35 .nil AN (AA (AC AU AB (vv 0)) AD)) (AO G_z28 hr_z28 rfl T.m_z28 T.F_z28.kp T.b_z28 .nil AN (AA (vv 3) (AA (vv 0) AD)))) (by rfl) (by symm)) (@AL _ _ _ (@AX _ _ _ _ (AO G_z29 hr_z29 rfl T.m_z29 T.F_z29.kp T.b_z29 .nil AN (AA (AC (Ad (K:=K)) (vv 6) (An (GH (K:=K) rfl) rfl T.z_sum (by rfl) (AA (vv 5) AD))) (AA (AC AU AB (vv 6)) AD))))))))),?_⟩
 refine ⟨_,.int y,.inr hps,rfl,?_⟩
 dsimp only [AV]
 refine ⟨_,.int x,.inr hps,rfl,.inr (.inl ⟨by decide,by decide⟩),?_⟩
 dsimp only [AV,Bw]
 refine Ab (fun σ H'=>∃ l:Addr,σ=[some (.int m),some (.ref l0),some (.ref ps),some (.int y),some (.int (y - 2 * x)),some (.ref l),none]/\Same H H'/\H' l=some (.lst (ixL (fun j=>f j * (y - 2 * x) ^ j * y ^ (m - j)) (m+1)))) ?_ ?_ (by walk_at "sm")
 ·refine ⟨⟨_,g1⟩,?_⟩
  refine Kl (xs:=ixL f (m+1)) (fun i zs H'=>Same H H'/\zs=ixL (fun j=>f j * (y - 2 * x) ^ j * y ^ (m - j)) i) ⟨Same.refl _,rfl⟩ (fun i zs H' _ ⟨s,_⟩=>s.sqL g1) (fun i zs H' hi ⟨_,e⟩=>by rw [ixL_len] at hi;rw [e,ixL_len];exact As (by lia)) ?_ ?_
  ·rintro i z zs H2 pp hz ⟨s2,rfl⟩ hpp
   have hi:i < m+1:=by
    have:=(List.getElem?_eq_some_iff.mp hz).1
    rwa [ixL_len] at this
   rw [DB hi] at hz
   cases hz
   obtain ⟨n1,n2,n3⟩:=Gg m4 hf hx hy i hi
   refine ⟨pp,_,rfl,.of AJ,rfl,_,_,rfl,_,_,rfl,rfl,?_⟩
   refine ⟨i,rfl,by lia,.inr ⟨(Fq hx hy).up (by lia),by lia⟩,Nb.okMul ((hf i hi).up (by lia)) (((Fq hx hy).pow i).up (by lia)),?_⟩
   refine ⟨m - i,by lia,by lia,.inr ⟨hy.up (by lia),by lia⟩,Nb.okMul (n1.up (by lia)) (n2.up (by lia)),s2.trans (Same.upd hpp),?_⟩
   rw [Dt]
  ·rintro zs H2 ⟨s2,rfl⟩ l hl
   rw [ixL_len]
   exact ⟨l,rfl,s2.trans (Same.upd hl),AJ⟩
 rintro σ H1 ⟨l,rfl,s1,g1⟩
 refine ⟨.inr (.inl ⟨by decide,by decide⟩),2 * m,by lia,by lia,?_⟩
 have n13:Nb ((2 ^ (2 * m):Nat):Int) 13:=by
  unfold Nb
  rw [Int.natAbs_natCast]
  exact Nat.pow_lt_pow_right (by decide) (by lia)
 refine ⟨m,rfl,by lia,.inr ⟨hy.up (by lia),by lia⟩,Nb.okMul (n13.up (by lia)) ((hy.pow m).up (by lia)),?_⟩
 dsimp only [AV]
 have es:∀ n,((List.range n).map (fun j=>f j * (y - 2 * x) ^ j * y ^ (m - j))).sum=DT m f x y n:=fun n=>by
  induction n with
  | zero=>rfl
  | succ n ih=>rw [List.range_succ,List.map_append,List.sum_append,ih];simp [DT,L2.sumTo]
 refine ⟨(List.range (m+1)).map (fun j=>f j * (y - 2 * x) ^ j * y ^ (m - j)),by rw [List.map_map];exact .of g1,?_⟩
 dsimp only [CC]
 rw [es]
 have w0:=J9 (m:=m) y0
 have wn:=Jt m4 hy
 have pn:Nb (DT m f x y (m+1)) 910:=(Nb.sum (f:=fun j=>f j * (y - 2 * x) ^ j * y ^ (m - j)) (a:=900) (n:=m+1) fun j hj=>(Gg m4 hf hx hy j hj).2.2).up (by lia)
 have e2:Nb (2 * stW m y) 570:=by
  have two:Nb 2 2:=by unfold Nb;decide
  exact (two.mul wn).up (by lia)
 refine ⟨.inr (.inl ⟨by decide,by decide⟩),Int.mul_pos (by decide) w0,((wn.up (show 560<=910 by lia)).add pn).up (by lia),e2.up (by lia),fun p hp=>?_⟩
 exact q p _ (s1.free hp) (s1.trans (Same.upd hp)) AJ
theorem Jb:FnOk P w K mg base CX0 4 T.f_z36 T.d_z36 ["one","share"] (Cw K):=by
 have G_z31:=Kz (P:=P) (w:=w) (base:=base) T;have G_z16:=Nw (P:=P) (w:=w) (base:=base) T
 refine T.F_z36.ok MA (fun vs H Q E h=>by unfold Cw at h;split at h <;> first | rfl | exact h.elim) (fun cdv A outer s H vs Q E hr h=>?_)
 have hu:=Ag hr
 have hr_z31:=hr.mono (show 3<=_ by decide);have hr_z16:=hr.mono (show 2<=_ by decide)
 unfold Cw at h
 split at h
 rotate_left
 ·exact h.elim
 rename_i v ps
 obtain ⟨m,g,x,y,S,m4,hg,hps,y0,hx,hy,q⟩:=h
 obtain ⟨a,b,vs,rfl,ha,hb,hr'⟩:=id S.at_
 have m6:m<=6:=by lia
 refine ⟨_,(@AL _ _ _ (@AX _ _ _ _ (AO G_z31 hr_z31 rfl T.m_z31 T.F_z31.kp T.b_z31 .nil AN (AA (kIx (K:=K) (vv 0) AB) (AA (AO G_z16 hr_z16 rfl T.m_z16 T.F_z16.kp T.b_z16 .nil AN (AA (vv 0) AD)) (AA (vv 1) AD)))))),?_⟩
 refine ⟨_,.int m,.inr ha,rfl,m,g,S,m6,hg,fun l0 H1 hl0 s1 g1=>?_⟩
 refine ⟨m,lvF m g (2 ^ m),x,y,rfl,m4,fun j _=>N4 m6 hg j,.of g1,s1.sqT hps,y0,hx,hy,fun p H' hp s2 gp=>?_⟩
 exact q p H' (s1.free hp) (s1.trans s2) gp
theorem LY (bs:List Bool) {m:Nat} (m6:m<=6) (u:Nat):Nb (CG bs m u) 8:=by
 have h64:2 ^ m<=64:=Nat.pow_le_pow_right (n:=2) (by decide) m6
 have:=NR bs u (2 ^ m)
 unfold Nb CG
 lia
def BA (bs:List Bool) (m:Nat) (x y:Int) (n:Nat):Int:=sumTo (fun u=>CG bs m u * x ^ AF m u * (y - x) ^ (m - AF m u)) n
theorem Ik (x1 c1 x2 c2:Int):∀ n a b,sumTo (fun p=>qF x1 c1 n (a ^^^ p) * qF x2 c2 n (p ^^^ b)) (2 ^ n)=qF (x1 * c2+x2 * c1) (c1 * c2+x1 * x2) n (a ^^^ b)
 | 0,a,b=>by
  show 0+qF x1 c1 0 (a ^^^ 0) * qF x2 c2 0 (0 ^^^ b)=_
  simp [qF,AF]
 | n+1,a,b=>by
  rw [Nat.pow_succ,Nat.mul_comm,Cy]
  have xd:∀ u v:Nat,(u ^^^ v) / 2=u / 2 ^^^ v / 2:=fun u v=>Nat.xor_div_two
  have xm:∀ u v:Nat,(u ^^^ v) % 2=(u % 2+v % 2) % 2:=fun u v=>by
   have:=Nat.xor_mod_two_pow (a:=u) (b:=v) (n:=1)
   rw [Nat.pow_one] at this
   rw [this]
   rcases Nat.mod_two_eq_zero_or_one u with h1 | h1 <;> rcases Nat.mod_two_eq_zero_or_one v with h2 | h2 <;> rw [h1,h2] <;> rfl
  have e:∀ p,qF x1 c1 (n+1) (a ^^^ 2 * p) * qF x2 c2 (n+1) (2 * p ^^^ b)+qF x1 c1 (n+1) (a ^^^ (2 * p+1)) * qF x2 c2 (n+1) ((2 * p+1) ^^^ b)=(if (a ^^^ b) % 2=1 then x1 * c2+x2 * c1 else c1 * c2+x1 * x2) * (qF x1 c1 n (a / 2 ^^^ p) * qF x2 c2 n (p ^^^ b / 2)):=fun p=>by
   rw [Bq,Bq,Bq,Bq,xd,xd,xd,xd,show 2 * p / 2=p by lia,show (2 * p+1) / 2=p by lia,xm a (2 * p),xm (2 * p) b,xm a (2 * p+1),xm (2 * p+1) b,xm a b]
   generalize qF x1 c1 n (a / 2 ^^^ p)=A
   generalize qF x2 c2 n (p ^^^ b / 2)=B
   have h2p:2 * p % 2=0:=by lia
   have h2q:(2 * p+1) % 2=1:=by lia
   rw [h2p,h2q]
   rcases Nat.mod_two_eq_zero_or_one a with h1 | h1 <;> rcases Nat.mod_two_eq_zero_or_one b with h2 | h2 <;> rw [h1,h2] <;> simp <;> grind
  rw [AW fun p _=>e p,<- A7,Ik x1 c1 x2 c2 n (a / 2) (b / 2),Bq,xd]
theorem IB (g x c:Int) (n s:Nat):qF (g * x) (g * c) n s=g ^ n * qF x c n s:=by
 have hl:=Ba n s
 unfold qF
 rw [Int.mul_pow,Int.mul_pow]
 have:g ^ n=g ^ AF n s * g ^ (n - AF n s):=by rw [<- Int.pow_add,Nat.add_sub_cancel' hl]
 rw [this]
 ac_rfl
theorem LQ {l r:List Int} (h:l.Perm r):l.sum=r.sum:=by
 induction h with
 | nil=>rfl
 | cons x _ ih=>rw [List.sum_cons,List.sum_cons,ih]
 | swap x y l=>simp only [List.sum_cons];lia
 | trans _ _ h1 h2=>rw [h1,h2]
theorem Hq (f:Nat->Int):∀ n,((List.range n).map f).sum=sumTo f n
 | 0=>rfl
 | n+1=>by rw [List.range_succ,List.map_append,List.sum_append,Hq f n];simp [L2.sumTo]
theorem Gp {ps:List (Nat × Int)} {n:Nat} (nd:(ps.map (·.1)).Nodup) (h1:∀ q∈ps,q.1 < n) (h2:∀ o,o < n->o∈ps.map (·.1)):(ps.map (·.1)).Perm (List.range n):=by
 refine (List.perm_ext_iff_of_nodup nd List.nodup_range).mpr fun o=>?_
 rw [List.mem_range]
 constructor
 ·intro h
  obtain ⟨q,hq,rfl⟩:=List.mem_map.mp h
  exact h1 q hq
 ·exact h2 o
theorem Ig {ps:List (Nat × Int)} {n:Nat} (nd:(ps.map (·.1)).Nodup) (h1:∀ q∈ps,q.1 < n) (h2:∀ o,o < n->o∈ps.map (·.1)) (f:Nat->Int) {F:Nat × Int->Int} (hF:∀ q∈ps,F q=f q.1):(ps.map F).sum=sumTo f n:=by
 rw [<- Hq,<- LQ ((Gp nd h1 h2).map f),List.map_map]
 congr 1
 exact List.map_congr_left fun q hq=>hF q hq
theorem KO {ps:List (Nat × Int)} (nd:(ps.map (·.1)).Nodup) (q:Nat) (x:Int):∃ qs,Ai (AG ps) (Sum.inl (q:Int)) (.int x)=AG qs/\(qs.map (·.1)).Nodup/\qs.length<=ps.length+1/\∀ r,r∈qs ↔ r=(q,x)\/(r∈ps/\r.1≠q):=by
 unfold Ai
 split
 ·rename_i hany
  have hq:q∈ps.map (·.1):=by
   rw [List.any_eq_true] at hany
   obtain ⟨z,hz,e⟩:=hany
   obtain ⟨r,hr,rfl⟩:=List.mem_map.mp hz
   have e:(Sum.inl (r.1:Int):Key)=Sum.inl (q:Int):=of_decide_eq_true e
   have:r.1=q:=by injection e with e;lia
   rw [<- this]
   exact List.mem_map_of_mem (f:=(·.1)) hr
  refine ⟨ps.map fun r=>if r.1=q then (r.1,x) else r,?_,?_,by rw [List.length_map];lia,fun r=>?_⟩
  ·unfold AG
   rw [List.map_map,List.map_map]
   refine List.map_congr_left fun r _=>?_
   show (if (Sum.inl (r.1:Int):Key)=Sum.inl (q:Int) then _ else _)=((Sum.inl ((if r.1=q then (r.1,x) else r).1:Int):Key),V.int (if r.1=q then (r.1,x) else r).2)
   by_cases e:r.1=q
   ·rw [if_pos (by rw [e]),if_pos e]
   ·rw [if_neg (fun z=>e (by injection z with z;lia)),if_neg e]
  ·rw [List.map_map]
   have e:ps.map ((·.1) ∘ fun r=>if r.1=q then (r.1,x) else r)=ps.map (·.1):=List.map_congr_left fun r _=>by
    show (if r.1=q then (r.1,x) else r).1=r.1
    split <;> rfl
   rw [e]
   exact nd
  ·rw [List.mem_map]
   constructor
   ·rintro ⟨z,hz,rfl⟩
    by_cases e:z.1=q
    ·rw [if_pos e,e];exact .inl rfl
    ·rw [if_neg e];exact .inr ⟨hz,e⟩
   ·rintro (rfl | ⟨h1,h2⟩)
    ·obtain ⟨z,hz,e⟩:=List.mem_map.mp hq
     have e:z.1=q:=e
     exact ⟨z,hz,by rw [if_pos e,e]⟩
    ·exact ⟨r,h1,by rw [if_neg h2]⟩
 ·rename_i hn
  have hk:q∉ps.map (·.1):=fun z=>hn (by
   obtain ⟨r,hr,e⟩:=List.mem_map.mp z
   have e:r.1=q:=e
   rw [List.any_eq_true]
   exact ⟨_,List.mem_map_of_mem (f:=fun q:Nat × Int=>((Sum.inl (q.1:Int):Key),V.int q.2)) hr,decide_eq_true (by rw [e])⟩)
  refine ⟨ps++[(q,x)],by unfold AG;rw [List.map_append];rfl,?_,by rw [List.length_append];exact Nat.le_refl _,fun r=>?_⟩
  ·rw [List.map_append,List.nodup_append]
   refine ⟨nd,by simp,fun a ha b hb e=>?_⟩
   have:b=q:=by simpa using hb
   subst this
   exact hk (e ▸ ha)
  ·rw [List.mem_append,List.mem_singleton]
   constructor
   ·rintro (h | h)
    ·exact .inr ⟨h,fun z=>hk (by rw [<- z];exact List.mem_map_of_mem (f:=(·.1)) h)⟩
    ·exact .inl h
   ·rintro (h | h)
    ·exact .inr h
    ·exact .inl h.1
def Fz (H H':Hp):Prop:=∀ b o,H b=some o->H' b=some o\/∃ kvs o',o=.dK kvs/\H' b=some (.frz o' (.dK kvs))
theorem Fz.of {H H':Hp} (s:Same H H'):Fz H H':=fun b o e=>.inl (s b o e)
theorem Fz.trans {H H' H'':Hp} (a:Fz H H') (b:Fz H' H''):Fz H H'':=fun x o e=>by
 rcases a x o e with h | ⟨kvs,o',rfl,h⟩
 ·exact b x o h
 ·rcases b x _ h with h2 | ⟨_,_,z,_⟩
  ·exact .inr ⟨kvs,o',rfl,h2⟩
  ·cases z
theorem Fz.keep {H H':Hp} (f:Fz H H') {b:Addr} {o:HO} (e:H b=some o) (n:∀ kvs,o≠.dK kvs):H' b=some o:=by
 rcases f b o e with h | ⟨kvs,_,rfl,_⟩
 ·exact h
 ·exact absurd rfl (n kvs)
theorem Fz.put {H H':Hp} (f:Fz H H') {p:Addr} {o:HO} (h:H p=none):Fz H (upd H' p o):=fun b o' e=>by
 rw [AI (Av e h)]
 exact f b o' e
def WD (H:Hp) (a:Addr) (L:List (Nat × Int)):Prop:=H a=some (.dK (AG L))\/∃ o,H a=some (.frz o (.dK (AG L)))
theorem WD.fz {H H':Hp} {a:Addr} {L:List (Nat × Int)} (h:WD H a L) (f:Fz H H'):WD H' a L:=by
 rcases h with h | ⟨o,h⟩
 ·rcases f _ _ h with z | ⟨kvs,o',e,z⟩
  ·exact .inl z
  ·cases e
   exact .inr ⟨o',z⟩
 ·exact .inr ⟨o,f.keep h (fun _ z=>by cases z)⟩
theorem WD.walk {H:Hp} {a:Addr} {L:List (Nat × Int)} {R:Addr->Obj->Hp->Prop} (h:WD H a L) (k:∀ o H',Fz H H'->(∀ b,b≠a->H' b=H b)->H' a=some (.frz o (.dK (AG L)))->R a o H'):Cp (.ref a) H R:=by
 rcases h with h | ⟨o,h⟩
 ·refine .inl ⟨_,h,fun o=>k o _ (fun b o' e=>?_) (fun b n=>AI n) AJ⟩
  by_cases z:b=a
  ·subst z
   rw [h] at e
   cases e
   exact .inr ⟨_,o,rfl,AJ⟩
  ·exact .inl (by rw [AI z];exact e)
 ·exact .inr ⟨_,o,h,k o H (fun b o' e=>.inl e) (fun _ _=>rfl) h⟩
structure Tbs (H:Hp) (n:Nat) (x c:Int) (fa:List Addr):Prop where
 len:fa.length=2 ^ n
 at_:∀ p a,fa[p]? = some a->WD H a (AM p x c n)
theorem Tbs.fz {H H':Hp} {n:Nat} {x c:Int} {fa:List Addr} (h:Tbs H n x c fa) (f:Fz H H'):Tbs H' n x c fa:=⟨h.len,fun p a e=>(h.at_ p a e).fz f⟩
def DA (K:W.Frag):Sp:=fun vs H Q _=>match vs with
 | [.ref p,.ref r]=>∃ x1 y1 x2 y2:Int,SqT K H p [.int x1,.int y1]/\SqT K H r [.int x2,.int y2]/\0 < y1/\0 < y2/\Nb x1 66/\Nb y1 66/\Nb x2 66/\Nb y2 66/\∀ p' ,H p'=none->Q (.ref p') (upd H p' (.tup [.int (shT (x1 * (y2 - x2)+x2 * (y1 - x1)) (y1 * y2)),.int (shB (x1 * (y2 - x2)+x2 * (y1 - x1)) (y1 * y2))]))
 | _=>False
theorem MS:AQ (DA K):=fun vs H Q Q' E h q=>by
 unfold DA at *
 split at q
 ·revert q;repeat' first | exact h _ _ | exact BL h | exact out_mono h | exact outT_mono h | walk_at "m"
 ·exact q.elim
theorem GN {x1 y1 x2 y2:Int} (a:Nb x1 66) (b:Nb y1 66) (c:Nb x2 66) (d:Nb y2 66):Nb (x1 * (y2 - x2)+x2 * (y1 - x1)) 134/\Nb (y1 * y2) 132:=by
 have h1:Nb (y2 - x2) 67:=by unfold Nb at *;lia
 have h2:Nb (y1 - x1) 67:=by unfold Nb at *;lia
 exact ⟨(a.mul h1).add (c.mul h2),b.mul d⟩
theorem Nj:FnOk P w K mg base CX0 3 T.f_z30 T.d_z30 ["one","other"] (DA K):=by
 have G_z29:=EY (P:=P) (w:=w) (base:=base) T
 refine T.F_z30.ok sc_z30 (fun vs H Q E h=>by unfold DA at h;split at h <;> first | rfl | exact h.elim) (fun cdv A outer s H vs Q E hr h=>?_)
 have hu:=Ag hr
 have mo2:AQ A9:=DE
 have hr_z29:=hr.mono (show 2<=_ by decide)
 unfold DA at h
 split at h
 rotate_left
 ·exact h.elim
 rename_i p r
 obtain ⟨x1,y1,x2,y2,hp,hr',y10,y20,n1,n2,n3,n4,q⟩:=h
 refine ⟨_,(@AE _ _ _ _ _ (@AH _ _ 2 _ _ _ _ sc_z30.nd rfl (by right) (AC (Ad (K:=K)) (AC AU (kIx (K:=K) (vv 0) AB) (kIx (K:=K) (vv 1) AB)) (AC AU (kIx (K:=K) (vv 1) AB) (kIx (K:=K) (vv 0) AB))) (by rfl) (by symm)) (@AL _ _ _ (@AX _ _ _ _ (AO G_z29 hr_z29 rfl T.m_z29 T.F_z29.kp T.b_z29 .nil AN (AA (AC BF (vv 2) (AC AU (AC AU AB (kIx (K:=K) (vv 0) AB)) (kIx (K:=K) (vv 1) AB))) (AA (AC AU (kIx (K:=K) (vv 0) AB) (kIx (K:=K) (vv 1) AB)) AD)))))),?_⟩
 have up:∀ {z:Int},Nb z 66->Nb z 4000:=fun h=>h.up (by decide)
 refine ⟨_,.int x1,.inr hp,rfl,_,.int y2,.inr hr',rfl,Nb.okMul (up n1) (up n4),_,.int x2,.inr hr',rfl,_,.int y1,.inr hp,rfl,Nb.okMul (up n3) (up n2),?_⟩
 dsimp only [AV]
 have two:Nb (2 * x1) 68:=((show Nb 2 2 by unfold Nb;decide).mul n1).up (by decide)
 refine ⟨_,.int x1,.inr hp,rfl,.inr (.inl ⟨by decide,by decide⟩),_,.int x2,.inr hr',rfl,Nb.okMul (two.up (by decide)) (up n3),_,.int y1,.inr hp,rfl,_,.int y2,.inr hr',rfl,Nb.okMul (up n2) (up n4),?_⟩
 have e:x1 * y2+x2 * y1 - 2 * x1 * x2=x1 * (y2 - x2)+x2 * (y1 - x1):=by grind
 dsimp only [CC,Bw]
 rw [e]
 obtain ⟨b1,b2⟩:=GN n1 n2 n3 n4
 exact ⟨Int.mul_pos y10 y20,b1.up (show 134<=1000 by decide),b2.up (show 132<=1000 by decide),q⟩
theorem Ga:∀ (N:Nat) (l:List Nat),l.Nodup->(∀ x∈l,x < N)->l.length<=N
 | 0,l,_,h=>by
  cases l with
  | nil=>exact Nat.le_refl _
  | cons x r=>exact absurd (h x (by simp)) (by lia)
 | N+1,l,nd,h=>by
  have:=Ga N (l.erase N) (nd.erase N) (fun x hx=>by
   have h2:=(nd.mem_erase_iff).mp hx
   have:=h x h2.2
   have:=h2.1
   lia)
  by_cases z:N∈l
  ·have e:=List.length_erase_of_mem z
   lia
  ·have e:=List.erase_of_not_mem z
   rw [e] at this
   lia
structure PF (ps:List (Nat × Int)) (f:Nat->Int) (D:Nat->Prop):Prop where
 nd:(ps.map (·.1)).Nodup
 vl:∀ r∈ps,D r.1/\r.2=f r.1
 al:∀ o,D o->o∈ps.map (·.1)
theorem PF.get {ps:List (Nat × Int)} {f:Nat->Int} {D:Nat->Prop} {H:Hp} {d:Addr} (h:PF ps f D) (g:H d=some (.dK (AG ps))) {o:Nat} (ho:D o):DGet H d (.int (o:Int)) (some (.int (f o))):=by
 obtain ⟨r,hr,e⟩:=List.mem_map.mp (h.al o ho)
 have e:r.1=o:=e
 have h2:=(h.vl r hr).2
 rw [e] at h2
 have hm:(o,f o)∈ps:=by rw [<- h2,<- e];exact hr
 exact .inl ⟨_,.inl (o:Int),.inl g,rfl,(Gn h.nd hm).symm⟩
theorem PF.miss {ps:List (Nat × Int)} {f:Nat->Int} {D:Nat->Prop} {H:Hp} {d:Addr} (h:PF ps f D) (g:H d=some (.dK (AG ps))) {o:Nat} (ho:¬ D o):DGet H d (.int (o:Int)) none:=by
 refine .inl ⟨_,.inl (o:Int),.inl g,rfl,(DI fun r hr e=>ho ?_).symm⟩
 rw [<- e]
 exact (h.vl r hr).1
theorem PF.len {ps:List (Nat × Int)} {f:Nat->Int} {D:Nat->Prop} {n:Nat} (h:PF ps f D) (hD:∀ o,D o->o < n):ps.length<=n:=by
 have:=Ga n (ps.map (·.1)) h.nd fun t ht=>by
  obtain ⟨r,hr,rfl⟩:=List.mem_map.mp ht
  exact hD _ (h.vl r hr).1
 rwa [List.length_map] at this
theorem PF.put {ps:List (Nat × Int)} {f f':Nat->Int} {D D':Nat->Prop} {q:Nat} {x:Int} (h:PF ps f D) (hx:f' q=x) (hf:∀ o,o≠q->D o->f' o=f o) (hq:D' q) (hD:∀ o,o≠q->(D' o ↔ D o)):∃ qs,Ai (AG ps) (Sum.inl (q:Int)) (.int x)=AG qs/\PF qs f' D':=by
 obtain ⟨qs,e,nd,_,hm⟩:=KO h.nd q x
 refine ⟨qs,e,nd,fun r hr=>?_,fun o ho=>?_⟩
 ·rcases (hm r).mp hr with rfl | ⟨h1,h2⟩
  ·exact ⟨hq,hx.symm⟩
  ·obtain ⟨k1,k2⟩:=h.vl r h1
   exact ⟨(hD r.1 h2).mpr k1,by rw [hf r.1 h2 k1];exact k2⟩
 ·by_cases e2:o=q
  ·subst e2
   exact List.mem_map.mpr ⟨_,(hm (o,x)).mpr (.inl rfl),rfl⟩
  ·obtain ⟨r,hr,e3⟩:=List.mem_map.mp (h.al o ((hD o e2).mp ho))
   have e3:r.1=o:=e3
   exact List.mem_map.mpr ⟨r,(hm r).mpr (.inr ⟨hr,by rw [e3];exact e2⟩),e3⟩
theorem PF.congr {ps:List (Nat × Int)} {f f':Nat->Int} {D D':Nat->Prop} (h:PF ps f D) (hf:∀ o,D o->f o=f' o) (hD:∀ o,D o ↔ D' o):PF ps f' D':=⟨h.nd,fun r hr=>⟨(hD _).mp (h.vl r hr).1,by rw [<- hf _ (h.vl r hr).1];exact (h.vl r hr).2⟩,fun o ho=>h.al o ((hD o).mpr ho)⟩
def C0 (K:W.Frag):Sp:=fun vs H Q _=>match vs with
 | [.int z,.ref l1,.ref l2]=>∃ (n pl:Nat) (x1 c1 x2 c2:Int) (fa ga:List Addr),z=pl/\pl < 2 ^ n/\n<=4/\SqL K H l1 (fa.map V.ref)/\SqL K H l2 (ga.map V.ref)/\Tbs H n x1 c1 fa/\Tbs H n x2 c2 ga/\Nb x1 70/\Nb c1 70/\Nb x2 70/\Nb c2 70/\∀ d H' ps,H d=none->Fz H H'->H' d=some (.dK (AG ps))->PF ps (fun o=>qF (x1 * c2+x2 * c1) (c1 * c2+x1 * x2) n (pl ^^^ o)) (fun o=>o < 2 ^ n)->Q (.ref d) H'
 | _=>False
theorem Lr:AQ (C0 K):=fun vs H Q Q' E h q=>by
 unfold C0 at *
 split at q
 ·revert q;repeat' first | exact h _ _ | exact BL h | exact out_mono h | exact outT_mono h | walk_at "m"
 ·exact q.elim
theorem Fz.sqL {H H':Hp} (f:Fz H H') {a:Addr} {xs:List V} (h:SqL K H a xs):SqL K H' a xs:=by
 rcases h with (h | ⟨o,h⟩) | h
 ·exact .inl (.inl (f.keep h fun _ z=>by cases z))
 ·exact .inl (.inr ⟨o,f.keep h fun _ z=>by cases z⟩)
 ·exact .inr h
theorem Hs {pl n:Nat} {x c:Int} (hpl:pl < 2 ^ n) {o:Nat}:o∈(AM pl x c n).map (·.1) ↔ o < 2 ^ n:=by
 constructor
 ·intro h
  obtain ⟨q,hq,rfl⟩:=List.mem_map.mp h
  exact KS hpl hq
 ·intro h
  exact List.mem_map_of_mem (f:=(·.1)) (MP (t:=x) (c:=c) hpl h)
theorem KH {L:List (Nat × Int)} {j:Nat} {r:Nat × Int} (h:L[j]? = some r) (nd:(L.map (·.1)).Nodup):r.1∉(L.take j).map (·.1)/\∀ o,o∈(L.take (j+1)).map (·.1) ↔ o∈(L.take j).map (·.1)\/o=r.1:=by
 have e:(L.take (j+1)).map (·.1)=(L.take j).map (·.1)++[r.1]:=by rw [List.take_add_one,h,List.map_append];rfl
 refine ⟨fun hm=>?_,fun o=>by rw [e,List.mem_append,List.mem_singleton]⟩
 have e2:((L.take (j+1)).map (·.1)).Nodup:=by rw [List.map_take];exact nd.sublist (List.take_sublist _ _)
 rw [e,List.nodup_append] at e2
 exact e2.2.2 _ hm _ (List.mem_singleton.mpr rfl) rfl
theorem Kn:FnOk P w K mg base CX0 1 T.f_z19 T.d_z19 ["_law_place","_law_firsts","_law_seconds"] (C0 K):=by
 refine T.F_z19.ok sc_z19 (fun vs H Q E h=>by unfold C0 at h;split at h <;> first | rfl | exact h.elim) (fun cdv A outer s H vs Q E hr h=>?_)
 have hu:=Ag hr
 unfold C0 at h
 split at h
 rotate_left
 ·exact h.elim
 rename_i z l1 l2
 obtain ⟨n,pl,x1,c1,x2,c2,fa,ga,e1,hpl,n4,hl1,hl2,TF,TG,nx1,nc1,nx2,nc2,q⟩:=h
 subst e1
 have h16:2 ^ n<=16:=Nat.pow_le_pow_right (n:=2) (by decide) n4
 refine ⟨_,(@AE _ _ _ _ _ (@AH _ _ 3 _ _ _ _ sc_z19.nd rfl (by right) FB (by rfl) (by symm)) (@AE _ _ _ _ _ (@BJ _ _ _ _ _ _ _ _ PassesOwn.never rfl (Er (kIx (K:=K) (vv 1) (vv 0))) (Ct (K:=K) (n:=2) rfl (A6 (AT (i:=4) sc_z19.nd rfl (by right)) (A6 (AT (i:=5) sc_z19.nd rfl (by right)) By))) (@AL _ _ _ (@BJ _ _ _ _ _ _ _ _ PassesOwn.never rfl (Er (kIx (K:=K) (vv 2) (vv 4))) (Ct (K:=K) (n:=2) rfl (A6 (AT (i:=6) sc_z19.nd rfl (by right)) (A6 (AT (i:=7) sc_z19.nd rfl (by right)) By))) (@AL _ _ _ (@Du _ _ _ _ _ _ _ _ _ (BX hu) (vv 3) (vv 6) (AC (Ad (K:=K)) (FD (BX hu) (vv 3) (vv 6) AB ⟨by rfl,by rfl,by rfl,by rfl⟩) (AC AU (vv 5) (vv 7))) (by rfl))) (by intro _;rfl))) (by intro _;rfl)) (@AL _ _ _ (@AX _ _ _ _ (vv 3))))),?_⟩
 refine fun d nd=>?_
 dsimp only [AV]
 have s0:=Same.upd (o:=.dK []) nd
 have f0:Fz H (upd H d (.dK [])):=Fz.of s0
 have hfa:pl < fa.length:=by rw [TF.len];exact hpl
 have hfp:fa[pl]? = some fa[pl]:=List.getElem?_eq_getElem hfa
 have hat:atI (fa.map V.ref) (pl:Int)=some (.ref fa[pl]):=DL rfl (by rw [List.getElem?_map,hfp];rfl)
 have W0:=(TF.at_ pl _ hfp).fz f0
 generalize fa[pl]=fp at *
 have dfp:fp≠d:=fun z=>by
  rcases TF.at_ pl fp hfp with h | ⟨o,h⟩ <;> rw [z,nd] at h <;> cases h
 have hnd1:=EF pl x1 c1 n
 have hv1:∀ r∈AM pl x1 c1 n,r.2=qF x1 c1 n (pl ^^^ r.1):=fun r hr=>Dj hr
 have hb1:∀ r∈AM pl x1 c1 n,Nb r.2 300:=fun r hr=>(Di nx1 nc1 hr).up (by lia)
 have hk1:∀ o,o∈(AM pl x1 c1 n).map (·.1) ↔ o < 2 ^ n:=fun o=>Hs hpl
 refine Ab (fun σ H'=>∃ (z4 z5 z6 z7:Option V) (ps:List (Nat × Int)),σ=[some (.int pl),some (.ref l1),some (.ref l2),some (.ref d),z4,z5,z6,z7]/\Fz H H'/\H' d=some (.dK (AG ps))/\PF ps (fun o=>qF (x1 * c2+x2 * c1) (c1 * c2+x1 * x2) n (pl ^^^ o)) (fun o=>o < 2 ^ n)) ?_ ?_ (by walk_at "sm")
 ·refine ⟨_,.ref fp,.inl (f0.sqL hl1),hat,W0.walk fun o H1 fz1 ne1 g1=>?_⟩
  have g1d:H1 d=some (.dK (AG [])):=by rw [ne1 d (Ne.symm dfp)];exact AJ
  have conv:∀ b,sumTo (fun p=>qF x1 c1 n (pl ^^^ p) * qF x2 c2 n (p ^^^ b)) (2 ^ n)=qF (x1 * c2+x2 * c1) (c1 * c2+x1 * x2) n (pl ^^^ b):=fun b=>Ik x1 c1 x2 c2 n pl b
  generalize AM pl x1 c1 n=L1 at *
  have L1p:0 < L1.length:=by
   have:=(hk1 0).mpr (Nat.two_pow_pos n)
   have:=List.length_pos_of_mem this
   rwa [List.length_map] at this
  refine FA (kvs:=AG L1) (fun i σ H'=>∃ (z4 z5 z6 z7:Option V) (ps:List (Nat × Int)),σ=[some (.int pl),some (.ref l1),some (.ref l2),some (.ref d),z4,z5,z6,z7]/\Fz H H'/\H' fp=some (.frz o (.dK (AG L1)))/\H' d=some (.dK (AG ps))/\PF ps (fun b=>((L1.take i).map fun r=>r.2 * qF x2 c2 n (r.1 ^^^ b)).sum) (fun b=>0 < i/\b < 2 ^ n)) ⟨none,none,none,none,[],rfl,f0.trans fz1,g1,g1d,⟨.nil,(fun r hr=>by cases hr),fun o h=>absurd h.1 (Nat.lt_irrefl _)⟩⟩ (fun i σ H' _ ⟨_,_,_,_,_,_,_,g,_⟩=>g) ?_ ?_
  ·rintro i r p σ H2 hr' ⟨z4,z5,z6,z7,ps,rfl,f2,g2,g2d,P2⟩ hp
   obtain ⟨⟨u,v⟩,hx,rfl⟩:∃ y,L1[i]? = some y/\r=(.inl (y.1:Int),.int y.2):=by
    unfold AG at hr'
    rw [List.getElem?_map] at hr'
    cases e:L1[i]? with
    | none=>rw [e] at hr';cases hr'
    | some y=>rw [e] at hr';cases hr';exact ⟨y,rfl,rfl⟩
   have hum:(u,v)∈L1:=List.mem_of_getElem? hx
   have hu2:u < 2 ^ n:=(hk1 u).mp (List.mem_map_of_mem (f:=(·.1)) hum)
   have nv:Nb v 300:=hb1 _ hum
   have sp:=Same.upd (o:=.tup [.int (u:Int),.int v]) hp
   have f3:=f2.trans (Fz.of sp)
   have g3:=sp _ _ g2
   have g3d:=sp _ _ g2d
   show De K 2 _ (.ref p) _ (upd H2 p (.tup [.int (u:Int),.int v])) _
   have g3p:=AJ (H:=H2) (a:=p) (o:=.tup [.int (u:Int),.int v])
   generalize upd H2 p (.tup [.int (u:Int),.int v])=H3 at *
   refine ⟨_,.inr (.of g3p),rfl,_,_,rfl,_,_,rfl,rfl,?_⟩
   have hga:u < ga.length:=by rw [TG.len];exact hu2
   have hgp:ga[u]? = some ga[u]:=List.getElem?_eq_getElem hga
   have hat2:atI (ga.map V.ref) (u:Int)=some (.ref ga[u]):=DL rfl (by rw [List.getElem?_map,hgp];rfl)
   have W3:=(TG.at_ u _ hgp).fz f3
   have dgp:ga[u]≠d:=fun z=>by
    rcases TG.at_ u _ hgp with h | ⟨o,h⟩ <;> rw [z,nd] at h <;> cases h
   generalize ga[u]=gp at *
   refine ⟨_,.ref gp,.inl (f3.sqL hl2),hat2,W3.walk fun o2 H4 fz4 ne4 g4=>?_⟩
   have g4d:H4 d=some (.dK (AG ps)):=by rw [ne4 d (Ne.symm dgp)];exact g3d
   have g4f:H4 fp=some (.frz o (.dK (AG L1))):=fz4.keep g3 fun _ z=>by cases z
   have f4:=f3.trans fz4
   have hnd2:=EF u x2 c2 n
   have hv2:∀ r∈AM u x2 c2 n,r.2=qF x2 c2 n (u ^^^ r.1):=fun r hr=>Dj hr
   have hb2:∀ r∈AM u x2 c2 n,Nb r.2 300:=fun r hr=>(Di nx2 nc2 hr).up (by lia)
   have hk2:∀ o,o∈(AM u x2 c2 n).map (·.1) ↔ o < 2 ^ n:=fun o=>Hs hu2
   generalize AM u x2 c2 n=L2' at *
   have S0:i=0->∀ b,((L1.take i).map fun r=>r.2 * qF x2 c2 n (r.1 ^^^ b)).sum=0:=fun z b=>by rw [z];rfl
   have Sn:∀ b,((L1.take (i+1)).map fun r=>r.2 * qF x2 c2 n (r.1 ^^^ b)).sum=((L1.take i).map fun r=>r.2 * qF x2 c2 n (r.1 ^^^ b)).sum+v * qF x2 c2 n (u ^^^ b):=fun b=>by
    rw [List.take_add_one,hx,List.map_append,List.sum_append]
    simp
   obtain ⟨SS,hSS⟩:∃ SS:Nat->Int,∀ b,SS b=((L1.take i).map fun r=>r.2 * qF x2 c2 n (r.1 ^^^ b)).sum:=⟨_,fun _=>rfl⟩
   have P3:PF ps SS (fun b=>0 < i/\b < 2 ^ n):=P2.congr (fun b _=>(hSS b).symm) fun _=>Iff.rfl
   have S1:i=0->∀ b,SS b=0:=fun z b=>by rw [hSS,S0 z]
   have Sm:∀ b,((L1.take (i+1)).map fun r=>r.2 * qF x2 c2 n (r.1 ^^^ b)).sum=SS b+v * qF x2 c2 n (u ^^^ b):=fun b=>by rw [Sn,hSS]
   clear hSS S0 Sn P2
   refine FA (kvs:=AG L2') (fun j σ H'=>∃ (z6 z7:Option V) (ps:List (Nat × Int)),σ=[some (.int pl),some (.ref l1),some (.ref l2),some (.ref d),some (.int (u:Int)),some (.int v),z6,z7]/\Fz H H'/\H' fp=some (.frz o (.dK (AG L1)))/\H' gp=some (.frz o2 (.dK (AG L2')))/\H' d=some (.dK (AG ps))/\PF ps (fun b=>SS b+if b∈(L2'.take j).map (·.1) then v * qF x2 c2 n (u ^^^ b) else 0) (fun b=>(0 < i/\b < 2 ^ n)\/b∈(L2'.take j).map (·.1))) ⟨_,_,ps,rfl,f4,g4f,g4,g4d,P3.congr (fun b _=>by rw [if_neg (by simp)];exact (Int.add_zero _).symm) fun b=>⟨.inl,fun h=>h.elim id fun z=>by simp at z⟩⟩ (fun j σ H' _ ⟨_,_,_,_,_,_,g,_⟩=>g) ?_ ?_
   ·rintro j r p2 σ H5 hr' ⟨z6,z7,ps,rfl,f5,g5f,g5g,g5d,P5⟩ hp2
    obtain ⟨⟨qq,mm⟩,hx2,rfl⟩:∃ y,L2'[j]? = some y/\r=(.inl (y.1:Int),.int y.2):=by
     unfold AG at hr'
     rw [List.getElem?_map] at hr'
     cases e:L2'[j]? with
     | none=>rw [e] at hr';cases hr'
     | some y=>rw [e] at hr';cases hr';exact ⟨y,rfl,rfl⟩
    have hqm:(qq,mm)∈L2':=List.mem_of_getElem? hx2
    have hq2:qq < 2 ^ n:=(hk2 qq).mp (List.mem_map_of_mem (f:=(·.1)) hqm)
    have nm:Nb mm 300:=hb2 _ hqm
    have vm:mm=qF x2 c2 n (u ^^^ qq):=hv2 _ hqm
    obtain ⟨hnot,hnew⟩:=KH hx2 hnd2
    have sp2:=Same.upd (o:=.tup [.int (qq:Int),.int mm]) hp2
    have f6:=f5.trans (Fz.of sp2)
    have g6f:=sp2 _ _ g5f
    have g6g:=sp2 _ _ g5g
    have g6d:=sp2 _ _ g5d
    show De K 2 _ (.ref p2) _ (upd H5 p2 (.tup [.int (qq:Int),.int mm])) _
    have g6p:=AJ (H:=H5) (a:=p2) (o:=.tup [.int (qq:Int),.int mm])
    generalize upd H5 p2 (.tup [.int (qq:Int),.int mm])=H6 at *
    refine ⟨_,.inr (.of g6p),rfl,_,_,rfl,_,_,rfl,rfl,?_⟩
    obtain ⟨oo,hdg,hval⟩:∃ oo,DGet H6 d (.int (qq:Int)) oo/\oo.getD (.int 0)=.int (SS qq):=by
     by_cases hi0:0 < i
     ·refine ⟨_,P5.get g6d (.inl ⟨hi0,hq2⟩),?_⟩
      show V.int (SS qq+if qq∈(L2'.take j).map (·.1) then v * qF x2 c2 n (u ^^^ qq) else 0)=_
      rw [if_neg hnot,Int.add_zero]
     ·refine ⟨_,P5.miss g6d (fun z=>z.elim (fun z=>hi0 z.1) hnot),?_⟩
      rw [S1 (by lia)]
      rfl
    refine ⟨d,rfl,.inl ⟨_,.inl g6d⟩,oo,hdg,?_⟩
    rw [hval]
    have hlen:=P5.len (n:=2 ^ n) fun b hb=>hb.elim (fun z=>z.2) fun z=>by
     obtain ⟨r,hr,rfl⟩:=List.mem_map.mp z
     exact (hk2 r.1).mp (List.mem_map_of_mem (f:=(·.1)) (List.mem_of_mem_take hr))
    obtain ⟨qs,eq,P7⟩:=P5.put (q:=qq) (x:=SS qq+v * mm) (f':=fun b=>SS b+if b∈(L2'.take (j+1)).map (·.1) then v * qF x2 c2 n (u ^^^ b) else 0) (D':=fun b=>(0 < i/\b < 2 ^ n)\/b∈(L2'.take (j+1)).map (·.1)) (by
     show SS qq+(if qq∈(L2'.take (j+1)).map (·.1) then v * qF x2 c2 n (u ^^^ qq) else 0)=_
     rw [if_pos ((hnew qq).mpr (.inr rfl)),vm]) (fun b hb _=>by
     have e:b∈(L2'.take (j+1)).map (·.1) ↔ b∈(L2'.take j).map (·.1):=(hnew b).trans ⟨fun z=>z.elim id fun z=>absurd z hb,.inl⟩
     show SS b+(if b∈(L2'.take (j+1)).map (·.1) then _ else _)=_
     by_cases h:b∈(L2'.take j).map (·.1)
     ·rw [if_pos h,if_pos (e.mpr h)]
     ·rw [if_neg h,if_neg (fun z=>h (e.mp z))]) (.inr ((hnew qq).mpr (.inr rfl))) (fun b hb=>⟨fun z=>z.elim .inl fun z=>((hnew b).mp z).elim .inr fun z=>absurd z hb,fun z=>z.elim .inl fun z=>.inr ((hnew b).mpr (.inl z))⟩)
    refine ⟨Nb.okMul (nv.up (by decide)) (nm.up (by decide)),d,_,rfl,DPut.k (k:=Sum.inl (qq:Int)) g6d (As (by rw [B6];lia)),?_⟩
    rw [eq]
    exact ⟨_,_,qs,rfl,f6.put nd,by rw [AI dfp];exact g6f,by rw [AI dgp];exact g6g,AJ,P7⟩
   ·rintro σ H5 ⟨z6,z7,ps,rfl,f5,g5f,g5g,g5d,P5⟩
    rw [B6,List.take_of_length_le (Nat.le_refl _)] at P5
    refine ⟨_,_,z6,z7,ps,rfl,f5,g5f,g5d,P5.congr (fun b hb=>?_) fun b=>⟨fun h=>⟨Nat.succ_pos _,h.elim (fun z=>z.2) (hk2 b).mp⟩,fun h=>.inr ((hk2 b).mpr h.2)⟩⟩
    have hb':b∈L2'.map (·.1):=hb.elim (fun z=>(hk2 b).mpr z.2) id
    show SS b+(if b∈L2'.map (·.1) then _ else _)=_
    rw [if_pos hb']
    exact (Sm b).symm
  ·rintro σ H2 ⟨z4,z5,z6,z7,ps,rfl,f2,g2,g2d,P2⟩
   rw [B6,List.take_of_length_le (Nat.le_refl _)] at P2
   refine ⟨z4,z5,z6,z7,ps,rfl,f2,g2d,P2.congr (fun b _=>?_) fun b=>⟨fun h=>h.2,fun h=>⟨L1p,h⟩⟩⟩
   rw [<- conv b]
   exact Ig hnd1 (fun r hr=>(hk1 r.1).mp (List.mem_map_of_mem (f:=(·.1)) hr)) (fun o ho=>(hk1 o).mpr ho) (fun p=>qF x1 c1 n (pl ^^^ p) * qF x2 c2 n (p ^^^ b)) fun r hr=>by rw [hv1 r hr]
 rintro σ H1 ⟨z4,z5,z6,z7,ps,rfl,f1,g1,P1⟩
 exact q d H1 ps nd f1 g1 P1
theorem Fz.refl (H:Hp):Fz H H:=fun _ _ e=>.inl e
theorem Fz.sqT {H H':Hp} (f:Fz H H') {a:Addr} {xs:List V} (h:SqT K H a xs):SqT K H' a xs:=by
 rcases h with (h | ⟨o,h⟩) | h
 ·exact .inl (.inl (f.keep h fun _ z=>by cases z))
 ·exact .inl (.inr ⟨o,f.keep h fun _ z=>by cases z⟩)
 ·exact .inr h
theorem Jc {ps:List (Nat × Int)} {f:Nat->Int} {n:Nat} (h:PF ps f (fun o=>o < 2 ^ n)) {ms:List Int} (hp:ms.Perm (ps.map fun q=>(q.1:Int))) (hs:ms.Pairwise (· <= ·)):ms=(List.range (2 ^ n)).map fun (i:Nat)=>(i:Int):=by
 have hk:=Gp h.nd (fun q hq=>(h.vl q hq).1) h.al
 have h1:ms.Perm ((List.range (2 ^ n)).map fun (i:Nat)=>(i:Int)):=hp.trans (by
  have:=hk.map fun (i:Nat)=>(i:Int)
  rwa [List.map_map] at this)
 have hr:=N3 (2 ^ n)
 have hrn:((List.range (2 ^ n)).map fun (i:Nat)=>(i:Int)).Nodup:=hr.imp fun h z=>by rw [z] at h;exact Int.lt_irrefl _ h
 have h2:ms.Pairwise (fun a b=>id a < id b):=List.Pairwise.imp₂ (fun _ _ h g=>Int.lt_iff_le_and_ne.mpr ⟨h,g⟩) hs (h1.nodup_iff.mpr hrn)
 exact Fo id h1 h2 hr
theorem J8 {g X Y N D:Int} (hg:0 < g) (hN:N=g * X) (hD:D=g * Y) (n pl:Nat):wyD N D n pl=wyD X Y n pl:=by
 have gp:0 < g ^ n:=Int.pow_pos hg
 have e:∀ s,qF N (D - N) n s=g ^ n * qF X (Y - X) n s:=fun s=>by
  rw [hN,hD,<- Int.mul_sub,IB]
 have eu:upL N D n pl (2 ^ n)=upL X Y n pl (2 ^ n):=by
  unfold upL
  refine List.filter_congr fun o _=>?_
  rw [decide_eq_decide,e]
  constructor
  ·intro h
   exact Decidable.byContradiction fun z=>by
    have:=Int.mul_nonneg (Int.le_of_lt gp) (show 0 <= -qF X (Y - X) n (pl ^^^ o) by lia)
    rw [Int.mul_neg] at this
    lia
  ·intro h
   exact Int.mul_pos gp h
 unfold wyD
 rw [eu]
 congr 1
 refine List.map_congr_left fun o _=>?_
 unfold wyE
 rw [Et (c:=g ^ n) gp (e _) (by rw [hD,Int.mul_pow])]
theorem D6 {α:Type} (c:α->Bool) (F:α->Int):∀ l:List α,((l.filter c).map F).sum=(l.map fun a=>if c a=true then F a else 0).sum
 | []=>rfl
 | a::l=>by
  rw [List.map_cons,List.sum_cons,<- D6 c F l]
  by_cases h:c a=true
  ·rw [List.filter_cons_of_pos h,if_pos h,List.map_cons,List.sum_cons]
  ·rw [List.filter_cons_of_neg h,if_neg h,Int.zero_add]
def Bo (bs:List Bool) (Z:Nat->Int) (n pl:Nat):Int:=sumTo (fun q=>if (gB bs q == gB bs pl)=true then Z (pl ^^^ q) else 0) (2 ^ n)
theorem MO (bs:List Bool) (N D:Int) (n:Nat):sumTo (Bo bs (qF N (D - N) n) n) (2 ^ n)=BA bs n N D (2 ^ n):=by
 have h1:∀ pl,pl < 2 ^ n->Bo bs (qF N (D - N) n) n pl=sumTo (fun u=>if (gB bs (u ^^^ pl) == gB bs pl)=true then qF N (D - N) n u else 0) (2 ^ n):=fun pl hp=>by
  unfold Bo
  rw [<- E1 n _ pl hp]
  refine AW fun u _=>?_
  have e:pl ^^^ (u ^^^ pl)=u:=by rw [Nat.xor_comm,Nat.xor_assoc,Nat.xor_self,Nat.xor_zero]
  rw [e]
 rw [AW h1,CL]
 unfold BA
 refine AW fun u hu=>?_
 have h2:∀ M,sumTo (fun pl=>if (gB bs (u ^^^ pl) == gB bs pl)=true then qF N (D - N) n u else 0) M=((M:Int) - ((BQ bs u M).length:Int)) * qF N (D - N) n u:=fun M=>by
  induction M with
  | zero=>show (0:Int)=_;simp [BQ]
  | succ M ih =>
   show sumTo _ M+(if (gB bs (u ^^^ M) == gB bs M)=true then qF N (D - N) n u else 0)=_
   rw [ih,IV,List.length_append]
   have em:Br bs u M = !(gB bs (u ^^^ M) == gB bs M):=by
    unfold Br
    rw [Nat.xor_comm]
    rfl
   by_cases h:(gB bs (u ^^^ M) == gB bs M)=true
   ·rw [if_pos h,if_neg (by rw [em,h];decide),List.length_nil,Nat.add_zero,Int.natCast_add]
    grind
   ·have hf:(gB bs (u ^^^ M) == gB bs M)=false:=by simpa using h
    rw [if_neg h,if_pos (by rw [em,hf];rfl),List.length_singleton,Int.natCast_add,Int.natCast_add]
    grind
 rw [h2]
 unfold CG qF
 rw [Int.mul_assoc]
theorem JE {g X Y N D:Int} (hN:N=g * X) (hD:D=g * Y) (bs:List Bool) (n:Nat):BA bs n N D (2 ^ n)=g ^ n * BA bs n X Y (2 ^ n):=by
 unfold BA
 rw [A7]
 refine AW fun u _=>?_
 have e:qF N (D - N) n u=g ^ n * qF X (Y - X) n u:=by rw [hN,hD,<- Int.mul_sub,IB]
 unfold qF at e
 rw [Int.mul_assoc,e,Int.mul_assoc,Int.mul_left_comm]
theorem MK {N D:Int} (hD:0 < D):0 < ((N.gcd D:Nat):Int)/\N=((N.gcd D:Nat):Int) * shT N D/\D=((N.gcd D:Nat):Int) * shB N D/\0 < shB N D:=by
 have hg:0 < N.gcd D:=Int.gcd_pos_of_ne_zero_right N (by lia)
 have e1:N=((N.gcd D:Nat):Int) * shT N D:=(Int.mul_ediv_cancel' (Int.gcd_dvd_left ..)).symm
 have e2:D=((N.gcd D:Nat):Int) * shB N D:=(Int.mul_ediv_cancel' (Int.gcd_dvd_right ..)).symm
 refine ⟨by lia,e1,e2,?_⟩
 rcases Int.lt_trichotomy (shB N D) 0 with h | h | h
 ·have:=Int.mul_neg_of_pos_of_neg (show (0:Int) < ((N.gcd D:Nat):Int) by lia) h
  lia
 ·rw [h,Int.mul_zero] at e2;lia
 ·exact h
theorem HR {x y:Int} {k:Nat} (h:x.natAbs<=y.natAbs) (n:Nb y k):Nb x k:=Nat.lt_of_le_of_lt h n
theorem Kg:FnOk P w K mg base CX0 5 T.f_law T.d_law ["_law_script"] (Dh K):=by
 have G_z24:=MI (P:=P) (w:=w) (base:=base) T;have G_z22:=ND (P:=P) (w:=w) (base:=base) T;have G_z18:=J0 (P:=P) (w:=w) (base:=base) T;have G_z30:=Nj (P:=P) (w:=w) (base:=base) T;have G_z20:=Ix (P:=P) (w:=w) (base:=base) T;have G_z23:=Fx (P:=P) (w:=w) (base:=base) T;have G_z26:=MG (P:=P) (w:=w) (base:=base) T;have G_z19:=Kn (P:=P) (w:=w) (base:=base) T;have G_z36:=Jb (P:=P) (w:=w) (base:=base) T;have G_z21:=Ii (P:=P) (w:=w) (base:=base) T;have G_z32:=M9 (P:=P) (w:=w) (base:=base) T;have G_z37:=NB (P:=P) (w:=w) (base:=base) T
 refine T.F_law.ok sc_law (fun vs H Q E h=>by obtain ⟨a,ns,rfl,_⟩:=h;rfl) (fun cdv A outer s H vs Q E hr h=>?_)
 have hu:=Ag hr
 have mo1:AQ (DA K):=MS
 have mo2:AQ CN:=OA
 have mo3:AQ (C0 K):=Lr
 have mo4:AQ (CY K):=Jw
 have mo5:AQ Cc:=Ml
 have mo6:AQ A9:=DE
 have mo7:AQ BM:=Fj
 have mo8:AQ (Co K):=Nv
 have mo9:Ck Db:=IL
 have mo10:AQ (Cw K):=Lu
 have mo11:AQ (CZ K):=Ks
 have hr_z24:=hr.mono (show 1<=_ by decide);have hr_z22:=hr.mono (show 2<=_ by decide);have hr_z18:=hr.mono (show 2<=_ by decide);have hr_z30:=hr.mono (show 3<=_ by decide);have hr_z20:=hr.mono (show 1<=_ by decide);have hr_z23:=hr.mono (show 1<=_ by decide);have hr_z26:=hr.mono (show 1<=_ by decide);have hr_z19:=hr.mono (show 1<=_ by decide);have hr_z36:=hr.mono (show 4<=_ by decide);have hr_z21:=hr.mono (show 1<=_ by decide);have hr_z32:=hr.mono (show 1<=_ by decide);have hr_z37:=hr.mono (show 4<=_ by decide)
 obtain ⟨a,ns,rfl,hsq,hlen,q⟩:=h
 refine ⟨_,(@AE _ _ _ _ _ (@BJ _ _ _ _ _ _ _ _ PassesOwn.never rfl (Ay rfl T.z_range (AA AB AD)) (AT (i:=1) sc_law.nd rfl (by right)) (@AE _ _ _ _ _ (@AH _ _ 2 _ _ _ _ sc_law.nd rfl (by right) (AO G_z24 hr_z24 rfl T.m_z24 T.F_z24.kp T.b_z24 .nil AN (AA (vv 0) (AA (vv 1) AD))) (by rfl) (by symm)) (@AE _ _ _ _ _ (@AH _ _ 3 _ _ _ _ sc_law.nd rfl (by right) (AC (Ad (K:=K)) AB (AO G_z23 hr_z23 rfl T.m_z23 T.F_z23.kp T.b_z23 .nil AN (AA (vv 2) (AA AB AD)))) (by rfl) (by symm)) (@AE _ _ _ _ _ (@AH _ _ 4 _ _ _ _ sc_law.nd rfl (by right) (AO G_z22 hr_z22 rfl T.m_z22 T.F_z22.kp T.b_z22 .nil AN (AA (vv 2) (AA (vv 3) AD))) (by rfl) (by symm)) (@AE _ _ _ _ _ (@AH _ _ 5 _ _ _ _ sc_law.nd rfl (by right) (AO G_z18 hr_z18 rfl T.m_z18 T.F_z18.kp T.b_z18 .nil AN (AA (vv 2) (AA AB AD))) (by rfl) (by symm)) (@AE _ _ _ _ _ (@AH _ _ 6 _ _ _ _ sc_law.nd rfl (by right) (AO G_z18 hr_z18 rfl T.m_z18 T.F_z18.kp T.b_z18 .nil AN (AA (vv 2) (AA (AC (Ad (K:=K)) AB (AO G_z23 hr_z23 rfl T.m_z23 T.F_z23.kp T.b_z23 .nil AN (AA (vv 2) (AA AB AD)))) AD))) (by rfl) (by symm)) (@AE _ _ _ _ _ (@AH _ _ 7 _ _ _ _ sc_law.nd rfl (by right) (AO G_z30 hr_z30 rfl T.m_z30 T.F_z30.kp T.b_z30 .nil AN (AA (vv 5) (AA (vv 6) AD))) (by rfl) (by symm)) (@AE _ _ _ _ _ (@AH _ _ 8 _ _ _ _ sc_law.nd rfl (by right) (AC (Ad (K:=K)) (AC AU (kIx (K:=K) (vv 5) AB) (AC BF (kIx (K:=K) (vv 6) AB) (kIx (K:=K) (vv 6) AB))) (AC AU (kIx (K:=K) (vv 6) AB) (AC BF (kIx (K:=K) (vv 5) AB) (kIx (K:=K) (vv 5) AB)))) (by rfl) (by symm)) (@AE _ _ _ _ _ (@BI _ _ _ _ _ _ _ _ (PW.pt (Nl (Al (kNe (K:=K) hu) (An (Bl (K:=K) hr) rfl T.z_repr (by rfl) (AA (vv 7) AD)) (An (Bl (K:=K) hr) rfl T.z_repr (by rfl) (AA (AO G_z21 hr_z21 rfl T.m_z21 T.F_z21.kp T.b_z21 .nil AN (AA (vv 8) (AA (AC AU (kIx (K:=K) (vv 5) AB) (kIx (K:=K) (vv 6) AB)) AD))) AD))) (LD (Al (kNe (K:=K) hu) (An (Bl (K:=K) hr) rfl T.z_repr (by rfl) (AA (AO G_z30 hr_z30 rfl T.m_z30 T.F_z30.kp T.b_z30 .nil AN (AA (vv 6) (AA (vv 5) AD))) AD)) (An (Bl (K:=K) hr) rfl T.z_repr (by rfl) (AA (vv 7) AD)))))) (@AL _ _ _ (@AX _ _ _ _ D5)) BH) (@AE _ _ _ _ _ (@AH _ _ 9 _ _ _ _ sc_law.nd rfl (by right) (AO G_z20 hr_z20 rfl T.m_z20 T.F_z20.kp T.b_z20 .nil AN (AA (AC AU (kIx (K:=K) (vv 5) AB) (kIx (K:=K) (vv 6) AB)) (AA (vv 3) AD))) (by rfl) (by symm)) (@AE _ _ _ _ _ (@Bg _ _ _ _ _ _ _ (["_law_place","_law_n","_law_one"]) 1 ([3,5]) _ _ _ _ 10 _ _ _ rfl sc_law.nd rfl rfl (Ay rfl T.z_range (AA (AC DR AB (vv 3)) AD)) (by kernel_rfl) rfl rfl (by kernel_rfl) (fun c=>AT (i:=0) (show (["_law_place","_law_n","_law_one"]:List Str).Nodup by decide +kernel) rfl (by right)) (A5 (by decide)) (fun c=>BR) (fun c=>(AO G_z26 hr_z26 rfl T.m_z26 T.F_z26.kp T.b_z26 .nil AN (AA (vv 1) (AA (vv 0) (AA (vv 2) AD))))) (by rfl) (by intro _;rfl)) (@AE _ _ _ _ _ (@Bg _ _ _ _ _ _ _ (["_law_place","_law_n","_law_other"]) 1 ([3,6]) _ _ _ _ 11 _ _ _ rfl sc_law.nd rfl rfl (Ay rfl T.z_range (AA (AC DR AB (vv 3)) AD)) (by kernel_rfl) rfl rfl (by kernel_rfl) (fun c=>AT (i:=0) (show (["_law_place","_law_n","_law_other"]:List Str).Nodup by decide +kernel) rfl (by right)) (A5 (by decide)) (fun c=>BR) (fun c=>(AO G_z26 hr_z26 rfl T.m_z26 T.F_z26.kp T.b_z26 .nil AN (AA (vv 1) (AA (vv 0) (AA (vv 2) AD))))) (by rfl) (by intro _;rfl)) (@AE _ _ _ _ _ (@AH _ _ 12 _ _ _ _ sc_law.nd rfl (by right) AB (by rfl) (by symm)) (@AE _ _ _ _ _ (@BJ _ _ _ _ _ _ _ _ PassesOwn.never rfl (Ay rfl T.z_range (AA (AC DR AB (vv 3)) AD)) (AT (i:=13) sc_law.nd rfl (by right)) (@AE _ _ _ _ _ (@AH _ _ 14 _ _ _ _ sc_law.nd rfl (by right) (AO G_z19 hr_z19 rfl T.m_z19 T.F_z19.kp T.b_z19 .nil AN (AA (vv 13) (AA (vv 10) (AA (vv 11) AD)))) (by rfl) (by symm)) (@AE _ _ _ _ _ (@Bg _ _ _ _ _ _ _ (["_law_p","_law_met","_law_whole"]) 1 ([14,9]) _ _ _ _ 15 _ _ _ rfl sc_law.nd rfl rfl (Fl (K:=K) (An (Mu rfl) rfl T.z_sorted (by rfl) (AA (vv 14) AD))) (by kernel_rfl) rfl rfl (by kernel_rfl) (fun c=>AT (i:=0) (show (["_law_p","_law_met","_law_whole"]:List Str).Nodup by decide +kernel) rfl (by right)) (A5 (by decide)) (fun c=>Eh (Al CD (En (BX hu) (vv 1) (vv 0) (by intro _ _;rfl)) AB)) (fun c=>(DZ (AA (vv 0) (AA (AO G_z21 hr_z21 rfl T.m_z21 T.F_z21.kp T.b_z21 .nil AN (AA (En (BX hu) (vv 1) (vv 0) (by intro _ _;rfl)) (AA (vv 2) AD))) AD)))) (by rfl) (by intro _;rfl)) (@AE _ _ _ _ _ (@BI _ _ _ _ _ _ _ _ (PW.pt (NY (Al Fe (vv 13) AB) (LK (Al (kNe (K:=K) hu) (An (Bl (K:=K) hr) rfl T.z_repr (by rfl) (AA (MC rfl rfl T.z_sorted (AO G_z37 hr_z37 rfl T.m_z37 T.F_z37.kp T.b_z37 .nil AN (AA (vv 3) (AA (vv 13) (AA (vv 7) AD))))) AD)) (An (Bl (K:=K) hr) rfl T.z_repr (by rfl) (AA (vv 15) AD)))))) (@AL _ _ _ (@AX _ _ _ _ D5)) BH) (@AL _ _ _ (@AH _ _ 12 _ _ _ _ sc_law.nd rfl (by right) (AC (Ad (K:=K)) (vv 12) (An (GH (K:=K) rfl) rfl T.z_sum (by rfl) (AA (Dr (N':=["_law_p","_law_met","_law_table_here","_law_place"]) (own:=1) (ix:=[14,4,13]) rfl (Jl (vv 14)) (by kernel_rfl) rfl rfl (by kernel_rfl) (fun c=>AT (i:=0) (show (["_law_p","_law_met","_law_table_here","_law_place"]:List Str).Nodup by decide +kernel) rfl (by right)) (A5 (by decide)) (fun c=>Eh (Al (kEq (K:=K) hu) (kIx (K:=K) (vv 2) (vv 0)) (kIx (K:=K) (vv 2) (vv 3)))) (fun c=>(En (BX hu) (vv 1) (vv 0) (by intro _ _;rfl)))) AD))) (by rfl) (by symm)))))) (by intro _;rfl)) (@AL _ _ _ (@BI _ _ _ _ _ _ _ _ (Al (kNe (K:=K) hu) (An (Bl (K:=K) hr) rfl T.z_repr (by rfl) (AA (AO G_z36 hr_z36 rfl T.m_z36 T.F_z36.kp T.b_z36 .nil AN (AA (AO G_z32 hr_z32 rfl T.m_z32 T.F_z32.kp T.b_z32 .nil AN (AA (vv 4) AD)) (AA (vv 7) AD))) AD)) (An (Bl (K:=K) hr) rfl T.z_repr (by rfl) (AA (AO G_z21 hr_z21 rfl T.m_z21 T.F_z21.kp T.b_z21 .nil AN (AA (vv 12) (AA (AC Mc (vv 9) (vv 3)) AD))) AD))) (@AL _ _ _ (@AX _ _ _ _ D5)) BH))))))))))))))) (by intro _;rfl)) (@AL _ _ _ (@AX _ _ _ _ D5))),?_⟩
 refine ⟨3,rfl,by decide,by decide,?_⟩
 refine B5 (fun i σ H'=>∃ z1 z2 z3 z4 z5 z6 z7 z8 z9 z10 z11 z12 z13 z14 z15:Option V,σ=[some (.ref a),z1,z2,z3,z4,z5,z6,z7,z8,z9,z10,z11,z12,z13,z14,z15]/\Fz H H') ⟨none,none,none,none,none,none,none,none,none,none,none,none,none,none,none,rfl,Fz.refl _⟩ ?_ (fun σ H' _=>q H')
 rintro i σ H0 hi ⟨z1,z2,z3,z4,z5,z6,z7,z8,z9,z10,z11,z12,z13,z14,z15,rfl,S0⟩
 dsimp only [AV]
 refine ⟨ns,S0.sqL hsq,fun t H1 ht F1 f1=>?_⟩
 have S1:Same H0 H1:=GX (Same.refl _) ht f1
 dsimp only [AV]
 refine Ab (fun σ H'=>∃ m:Nat,1<=m/\m<=4/\σ=[some (.ref a),some (.int (0+(i:Int))),some (.ref t),some (.int m),z4,z5,z6,z7,z8,z9,z10,z11,z12,z13,z14,z15]/\Feed H' t/\Same H0 H') ?_ ?_ (by walk_at "sm")
 ·refine ⟨F1,A3 (by decide) (by decide),fun d H2 d0 d1 F2 f2=>?_⟩
  obtain ⟨dn,rfl⟩:=Int.eq_ofNat_of_zero_le d0
  exact ⟨1+dn,by lia,by lia,by rw [Int.natCast_add];rfl,F2,GX S1 ht f2⟩
 clear S1 F1 f1
 rintro σ H2 ⟨m,m1,m4,rfl,F2,S2⟩
 have m6:m<=6:=by lia
 have h16:2 ^ m<=16:=Nat.pow_le_pow_right (n:=2) (by decide) m4
 have i16:((2 ^ m:Nat):Int)<=16:=Int.ofNat_le.mpr h16
 have esh:(1:Int) * 2 ^ ((m:Int)).toNat=((2 ^ m:Nat):Int):=by rw [Int.one_mul,Int.toNat_natCast,Int.natCast_pow];rfl
 have hsh:DU 1 (m:Int):=⟨by lia,by lia,by decide⟩
 refine ⟨m,F2,rfl,m1,m6,fun bs tb H3 hb n3 g3 F3 fr3=>?_⟩
 have S3:Same H0 H3:=Fw S2 ht fr3
 have nt:tb≠t:=F2.neT n3
 dsimp only [AV]
 refine ⟨F3,.inl rfl,fun x1 y1 q1 H4 y10 nx1 ny1 hq1 gq1 F4 fr4=>?_⟩
 have S4:Same H0 H4:=Fw S3 ht fr4
 have nq1:q1≠t:=F3.neT hq1
 dsimp only [AV]
 refine ⟨F4,A3 (by decide) (by decide),fun e H5 e0 e1 F5 f5=>⟨F5,by lia,fun x2 y2 q2 H6 y20 nx2 ny2 hq2 gq2 F6 fr6=>?_⟩⟩
 have fr46:Frm t H4 H6:=(Bn f5).trans fr6
 have S6:Same H0 H6:=Fw S4 ht fr46
 have g6t:H6 tb=some (.tup (bs.map V.bl)):=fr46 _ _ nt (fr4 _ _ nt g3)
 have g6a:H6 q1=some (.tup [.int x1,.int y1]):=fr46 _ _ nq1 gq1
 clear S2 S3 S4 F2 F3 F4 F5 f5 fr3 fr4 fr6 fr46 n3 g3 hq1 gq1 nq1 nt hq2 e0 e1
 dsimp only [AV]
 obtain ⟨bN,bD⟩:=GN nx1 ny1 nx2 ny2
 have D0:0 < y1 * y2:=Int.mul_pos y10 y20
 have nN:=bN.up (show 134<=1000 by decide)
 have nD:=bD.up (show 132<=1000 by decide)
 have up:∀ {z:Int},Nb z 66->Nb z 4000:=fun h=>h.up (by decide)
 have nc1:Nb (y1 - x1) 70:=Eo nx1 ny1
 have nc2:Nb (y2 - x2) 70:=Eo nx2 ny2
 obtain ⟨gp,eN,eD,yp⟩:=MK (N:=x1 * (y2 - x2)+x2 * (y1 - x1)) D0
 have eC:(y1 - x1) * (y2 - x2)+x1 * x2=y1 * y2 - (x1 * (y2 - x2)+x2 * (y1 - x1)):=by grind
 refine ⟨x1,y1,x2,y2,.of g6a,.of gq2,y10,y20,nx1,ny1,nx2,ny2,fun pf npf=>?_⟩
 dsimp only [AV]
 have s7:=Same.upd (o:=.tup [.int (shT (x1 * (y2 - x2)+x2 * (y1 - x1)) (y1 * y2)),.int (shB (x1 * (y2 - x2)+x2 * (y1 - x1)) (y1 * y2))]) npf
 have g7f:=AJ (H:=H6) (a:=pf) (o:=.tup [.int (shT (x1 * (y2 - x2)+x2 * (y1 - x1)) (y1 * y2)),.int (shB (x1 * (y2 - x2)+x2 * (y1 - x1)) (y1 * y2))])
 have g7t:=s7 _ _ g6t
 have g7a:=s7 _ _ g6a
 have g7b:=s7 _ _ gq2
 have S7:=S6.trans s7
 generalize upd H6 pf (.tup [.int (shT (x1 * (y2 - x2)+x2 * (y1 - x1)) (y1 * y2)),.int (shB (x1 * (y2 - x2)+x2 * (y1 - x1)) (y1 * y2))])=H7 at *
 clear s7 g6t g6a gq2 S6 F6 npf
 refine ⟨_,.int x1,.inr (.of g7a),rfl,_,.int y2,.inr (.of g7b),rfl,_,.int x2,.inr (.of g7b),rfl,Nb.okMul (up nx1) (nc2.up (by decide)),_,.int x2,.inr (.of g7b),rfl,_,.int y1,.inr (.of g7a),rfl,_,.int x1,.inr (.of g7a),rfl,Nb.okMul (up nx2) (nc1.up (by decide)),?_⟩
 dsimp only [AV,CC,Bw]
 have nsh:=Ef nN nD D0
 have bsh:Am (shD (x1 * (y2 - x2)+x2 * (y1 - x1)) (y1 * y2))<=8000:=by rw [FM];decide
 have dsh:AR (shD (x1 * (y2 - x2)+x2 * (y1 - x1)) (y1 * y2))<=60:=by rw [Eu];decide
 refine Ab (fun σ H'=>σ=[some (.ref a),some (.int (0+(i:Int))),some (.ref t),some (.int m),some (.ref tb),some (.ref q1),some (.ref q2),some (.ref pf),some (.int (x1 * (y2 - x2)+x2 * (y1 - x1))),z9,z10,z11,z12,z13,z14,z15]/\Same H7 H') ?_ ?_ (by walk_at "sm")
 ·refine ⟨_,B4 g7f,nsh,bsh,dsh,_,.int y1,.inr (.of g7a),rfl,_,.int y2,.inr (.of g7b),rfl,Nb.okMul (up ny1) (up ny2),D0,nN,nD,fun p1 np1=>?_⟩
  have t1:=Same.upd (o:=.tup [.int (shT (x1 * (y2 - x2)+x2 * (y1 - x1)) (y1 * y2)),.int (shB (x1 * (y2 - x2)+x2 * (y1 - x1)) (y1 * y2))]) np1
  refine ⟨_,B4 AJ,nsh,bsh,dsh,?_⟩
  have r1:=B4 (K:=K) (t1 _ _ g7f)
  have eN2:x2 * (y1 - x1)+x1 * (y2 - x2)=x1 * (y2 - x2)+x2 * (y1 - x1):=Int.add_comm _ _
  have eD2:y2 * y1=y1 * y2:=Int.mul_comm _ _
  have g8a:=t1 _ _ g7a
  have g8b:=t1 _ _ g7b
  have e3:shD (x2 * (y1 - x1)+x1 * (y2 - x2)) (y2 * y1)=shD (x1 * (y2 - x2)+x2 * (y1 - x1)) (y1 * y2):=by rw [eN2,eD2]
  generalize shD (x1 * (y2 - x2)+x2 * (y1 - x1)) (y1 * y2)=DD at *
  refine Ak (fun e=>(D9 e).elim) (fun _=>?_)
  refine ⟨x2,y2,x1,y1,.of g8b,.of g8a,y20,y10,nx2,ny2,nx1,ny1,fun p2 np2=>?_⟩
  have t2:=Same.upd (o:=.tup [.int (shT (x2 * (y1 - x1)+x1 * (y2 - x2)) (y2 * y1)),.int (shB (x2 * (y1 - x1)+x1 * (y2 - x2)) (y2 * y1))]) np2
  refine ⟨DD,by rw [<- e3];exact B4 AJ,nsh,bsh,dsh,DD,Rep.same t2 _ _ r1,nsh,bsh,dsh,?_⟩
  exact Ak (fun e=>(D9 e).elim) (fun _=>⟨rfl,t1.trans t2⟩)
 rintro σ H8 ⟨rfl,s8⟩
 have g8f:=s8 _ _ g7f
 have g8t:=s8 _ _ g7t
 have g8a:=s8 _ _ g7a
 have g8b:=s8 _ _ g7b
 have S8:=S7.trans s8
 clear g7f g7t g7a g7b S7 s8 nsh bsh dsh
 refine ⟨_,.int y1,.inr (.of g8a),rfl,_,.int y2,.inr (.of g8b),rfl,Nb.okMul (up ny1) (up ny2),m,rfl,by lia,.inr ⟨bD.up (by decide),by lia⟩,?_⟩
 dsimp only [AV]
 refine Ab (fun σ H'=>∃ (l1:Addr) (fa:List Addr),σ=[some (.ref a),some (.int (0+(i:Int))),some (.ref t),some (.int m),some (.ref tb),some (.ref q1),some (.ref q2),some (.ref pf),some (.int (x1 * (y2 - x2)+x2 * (y1 - x1))),some (.int ((y1 * y2) ^ m)),some (.ref l1),z11,z12,z13,z14,z15]/\Same H8 H'/\H' l1=some (.lst (fa.map V.ref))/\Tbs H' m x1 (y1 - x1) fa) ?_ ?_ (by walk_at "sm")
 ·refine ⟨hsh,?_⟩
  rw [esh]
  refine ⟨_,rfl,by lia,by lia,?_⟩
  refine Bf (fun k ys H'=>Same H8 H'/\∃ fa:List Addr,ys=fa.map V.ref/\fa.length=k/\∀ p a,fa[p]? = some a->WD H' a (AM p x1 (y1 - x1) m)) ⟨Same.refl _,[],rfl,rfl,fun p a h=>by simp at h⟩ (fun k ys H' hk ⟨_,fa,e,e2,_⟩=>by rw [e,List.length_map,e2];exact As (by lia)) ?_ ?_
  ·rintro k ys H' hk ⟨sk,fa,rfl,hl,hW⟩
   rw [show (0:Int)+(k:Int)=(k:Int) from Int.zero_add _]
   refine ⟨m,k,x1,y1,rfl,rfl,m6,.of (sk _ _ g8a),nx1,ny1,fun d H9 nd s9 gd=>⟨sk.trans s9,fa++[d],by rw [List.map_append];rfl,by rw [List.length_append,hl];rfl,fun p b hp=>?_⟩⟩
   rcases Nat.lt_or_ge p fa.length with z | z
   ·rw [List.getElem?_append_left z] at hp
    exact (hW p b hp).fz (Fz.of s9)
   ·have hj:=(List.getElem?_eq_some_iff.mp hp).1
    rw [List.length_append,List.length_singleton] at hj
    have e:p=k:=by lia
    rw [List.getElem?_append_right z,e,hl,Nat.sub_self] at hp
    cases hp
    rw [e]
    exact .inl gd
  ·rintro ys H' ⟨sk,fa,rfl,hl,hW⟩ l nl
   rw [Int.toNat_natCast] at hl
   exact ⟨l,fa,rfl,sk.trans (Same.upd nl),AJ,hl,fun p b hp=>(hW p b hp).fz (Fz.of (Same.upd nl))⟩
 rintro σ H9 ⟨l1,fa,rfl,s9,g9l,TF⟩
 have g9a:=s9 _ _ g8a
 have g9b:=s9 _ _ g8b
 refine Ab (fun σ H'=>∃ (l2:Addr) (ga:List Addr),σ=[some (.ref a),some (.int (0+(i:Int))),some (.ref t),some (.int m),some (.ref tb),some (.ref q1),some (.ref q2),some (.ref pf),some (.int (x1 * (y2 - x2)+x2 * (y1 - x1))),some (.int ((y1 * y2) ^ m)),some (.ref l1),some (.ref l2),z12,z13,z14,z15]/\Same H9 H'/\H' l2=some (.lst (ga.map V.ref))/\Tbs H' m x2 (y2 - x2) ga) ?_ ?_ (by walk_at "sm")
 ·refine ⟨hsh,?_⟩
  rw [esh]
  refine ⟨_,rfl,by lia,by lia,?_⟩
  refine Bf (fun k ys H'=>Same H9 H'/\∃ fa:List Addr,ys=fa.map V.ref/\fa.length=k/\∀ p a,fa[p]? = some a->WD H' a (AM p x2 (y2 - x2) m)) ⟨Same.refl _,[],rfl,rfl,fun p a h=>by simp at h⟩ (fun k ys H' hk ⟨_,fa,e,e2,_⟩=>by rw [e,List.length_map,e2];exact As (by lia)) ?_ ?_
  ·rintro k ys H' hk ⟨sk,fa,rfl,hl,hW⟩
   rw [show (0:Int)+(k:Int)=(k:Int) from Int.zero_add _]
   refine ⟨m,k,x2,y2,rfl,rfl,m6,.of (sk _ _ g9b),nx2,ny2,fun d H9 nd s9 gd=>⟨sk.trans s9,fa++[d],by rw [List.map_append];rfl,by rw [List.length_append,hl];rfl,fun p b hp=>?_⟩⟩
   rcases Nat.lt_or_ge p fa.length with z | z
   ·rw [List.getElem?_append_left z] at hp
    exact (hW p b hp).fz (Fz.of s9)
   ·have hj:=(List.getElem?_eq_some_iff.mp hp).1
    rw [List.length_append,List.length_singleton] at hj
    have e:p=k:=by lia
    rw [List.getElem?_append_right z,e,hl,Nat.sub_self] at hp
    cases hp
    rw [e]
    exact .inl gd
  ·rintro ys H' ⟨sk,fa,rfl,hl,hW⟩ l nl
   rw [Int.toNat_natCast] at hl
   exact ⟨l,fa,rfl,sk.trans (Same.upd nl),AJ,hl,fun p b hp=>(hW p b hp).fz (Fz.of (Same.upd nl))⟩
 rintro σ Ha ⟨l2,ga,rfl,sa,gal,TG⟩
 have t9:=s9.trans sa
 have gaf:=t9 _ _ g8f
 have gat:=t9 _ _ g8t
 have gal1:=sa _ _ g9l
 have TFa:=TF.fz (Fz.of sa)
 have Sa:=S8.trans t9
 clear g8f g8t g8a g8b g9a g9b g9l TF S8 t9 s9 sa
 refine Ab (fun σ H'=>σ=[some (.ref a),some (.int (0+(i:Int))),some (.ref t),some (.int m),some (.ref tb),some (.ref q1),some (.ref q2),some (.ref pf),some (.int (x1 * (y2 - x2)+x2 * (y1 - x1))),some (.int ((y1 * y2) ^ m)),some (.ref l1),some (.ref l2),some (.int 0),z13,z14,z15]/\Ha=H') ⟨rfl,rfl⟩ ?_ (by walk_at "sm")
 rintro σ _ ⟨rfl,rfl⟩
 have nX:Nb (shT (x1 * (y2 - x2)+x2 * (y1 - x1)) (y1 * y2)) 134:=HR (Int.natAbs_ediv_le_natAbs ..) bN
 have nY:Nb (shB (x1 * (y2 - x2)+x2 * (y1 - x1)) (y1 * y2)) 134:=(HR (Int.natAbs_ediv_le_natAbs ..) bD).up (by decide)
 have nD4:Nb (y1 * y2) 134:=bD.up (by decide)
 have escale:=fun pl=>J8 gp eN eD m pl
 have mscale:=JE eN eD bs m
 have PD:∀ pl ps,PF ps (fun o=>qF (x1 * (y2 - x2)+x2 * (y1 - x1)) ((y1 - x1) * (y2 - x2)+x1 * x2) m (pl ^^^ o)) (fun o=>o < 2 ^ m)->PF ps (fun o=>qF (x1 * (y2 - x2)+x2 * (y1 - x1)) (y1 * y2 - (x1 * (y2 - x2)+x2 * (y1 - x1))) m (pl ^^^ o)) (fun o=>o < 2 ^ m):=fun pl ps h=>by rw [<- eC];exact h
 generalize hNN:x1 * (y2 - x2)+x2 * (y1 - x1)=N at *
 generalize hDD:y1 * y2=D at *
 generalize shT N D=X at *
 generalize shB N D=Y at *
 refine Ab (fun σ H'=>∃ (z13 z14 z15:Option V),σ=[some (.ref a),some (.int (0+(i:Int))),some (.ref t),some (.int m),some (.ref tb),some (.ref q1),some (.ref q2),some (.ref pf),some (.int N),some (.int (D ^ m)),some (.ref l1),some (.ref l2),some (.int (sumTo (Bo bs (qF N (D - N) m) m) (2 ^ m))),z13,z14,z15]/\Fz Ha H') ?_ ?_ (by walk_at "sm")
 ·refine ⟨hsh,?_⟩
  rw [esh]
  refine ⟨_,rfl,by lia,by lia,?_⟩
  refine B5 (fun k σ H'=>∃ (z13 z14 z15:Option V),σ=[some (.ref a),some (.int (0+(i:Int))),some (.ref t),some (.int m),some (.ref tb),some (.ref q1),some (.ref q2),some (.ref pf),some (.int N),some (.int (D ^ m)),some (.ref l1),some (.ref l2),some (.int (sumTo (Bo bs (qF N (D - N) m) m) k)),z13,z14,z15]/\Fz Ha H') ⟨_,_,_,rfl,Fz.refl _⟩ ?_ (fun σ H' h=>by rw [Int.toNat_natCast] at h;exact h)
  rintro pl σ Hb hpl' ⟨z13,z14,z15,rfl,fb⟩
  have hpl:pl < 2 ^ m:=by lia
  rw [show (0:Int)+(pl:Int)=(pl:Int) from Int.zero_add _]
  dsimp only [AV]
  refine ⟨m,pl,x1,y1 - x1,x2,y2 - x2,fa,ga,rfl,hpl,m4,fb.sqL (.of gal1),fb.sqL (.of gal),TFa.fz fb,TG.fz fb,nx1.up (by decide),nc1,nx2.up (by decide),nc2,fun d Hc ps nd fc gd P0=>?_⟩
  rw [hNN] at P0
  have P:=PD pl ps P0
  clear P0
  have f8:=fb.trans fc
  dsimp only [AV]
  have hlen:=P.len (n:=2 ^ m) fun o h=>h
  have c1:=IZ m4 hpl D0 (bN) nD4
  have c2:=IZ m4 hpl yp nX nY
  refine Ab (fun σ H'=>∃ l:Addr,σ=[some (.ref a),some (.int (0+(i:Int))),some (.ref t),some (.int m),some (.ref tb),some (.ref q1),some (.ref q2),some (.ref pf),some (.int N),some (.int (D ^ m)),some (.ref l1),some (.ref l2),some (.int (sumTo (Bo bs (qF N (D - N) m) m) pl)),some (.int pl),some (.ref d),some (.ref l)]/\Same Hc H'/\Rep K H' (wyD N D m pl) (.ref l)) ?_ ?_ (by walk_at "sm")
  ·have gd0:Hc d=some (.dK ((ps.map fun q=>((q.1:Int),V.int q.2)).map fun q=>(Sum.inl q.1,q.2))):=by
    rw [gd,List.map_map]
    rfl
   refine ⟨_,gd0,by rw [List.length_map];lia,fun ms p0' pm srt hp0'=>?_⟩
   have ems:ms=(List.range (2 ^ m)).map fun (i:Nat)=>(i:Int):=Jc P (by rw [List.map_map] at pm;exact pm) srt
   subst ems
   have gl:=AJ (H:=Hc) (a:=p0') (o:=.lst (((List.range (2 ^ m)).map fun (i:Nat)=>(i:Int)).map V.int))
   have s6':=Same.upd (o:=.lst (((List.range (2 ^ m)).map fun (i:Nat)=>(i:Int)).map V.int)) hp0'
   have gd':=s6' _ _ gd
   generalize upd Hc p0' (.lst (((List.range (2 ^ m)).map fun (i:Nat)=>(i:Int)).map V.int))=Hd at *
   have yp':0 < D ^ m:=Int.pow_pos D0
   have n2:Nb (D ^ m) 1000:=(nD4.pow m).up (by lia)
   refine .inl ⟨⟨_,.of gl⟩,?_⟩
   refine JU (xs:=((List.range (2 ^ m)).map fun (i:Nat)=>(i:Int)).map V.int) (fun j ys H'=>Same Hd H'/\∃ as:List Addr,ys=as.map V.ref/\as.length=(upL N D m pl j).length/\∀ (k:Nat) a o,as[k]? = some a->(upL N D m pl j)[k]? = some o->∃ b,H' a=some (.tup [.int (o:Int),.ref b])/\H' b=some (.tup [.int (shT (qF N (D - N) m (pl ^^^ o)) (D ^ m)),.int (shB (qF N (D - N) m (pl ^^^ o)) (D ^ m))])) ⟨Same.refl _,[],rfl,rfl,fun _ _ _ h=>by simp at h⟩ (fun j ys H' _ ⟨s,_⟩=>s.sqL (.of gl)) (fun j ys H' hj ⟨_,as,e,e2,_⟩=>by
    have h1:=EE N D m pl j
    rw [List.length_map,List.length_map,List.length_range] at hj
    rw [e,List.length_map,e2];exact As (by lia)) ?_ ?_
   ·rintro j u ys H' hu' ⟨sj,as,rfl,hal,hat⟩
    have hj:j < 2 ^ m:=by
     have:=(List.getElem?_eq_some_iff.mp hu').1
     simpa using this
    have eu:u=.int (j:Int):=by
     have:(((List.range (2 ^ m)).map fun (i:Nat)=>(i:Int)).map V.int)[j]? = some (.int (j:Int)):=by simp [hj]
     rw [this] at hu'
     cases hu'
     rfl
    subst eu
    have nq:=Dk (s:=pl ^^^ j) m4 bN nD4
    have dg:DGet H' d (.int (j:Int)) (some (.int (qF N (D - N) m (pl ^^^ j)))):=P.get (sj _ _ gd') hj
    refine ⟨d,.int (qF N (D - N) m (pl ^^^ j)),rfl,dg,?_⟩
    rw [Eg]
    refine Ak (fun e=>?_) (fun e=>?_)
    ·have e':0 < qF N (D - N) m (pl ^^^ j):=of_decide_eq_true e
     refine ⟨d,.int (qF N (D - N) m (pl ^^^ j)),rfl,dg,yp',nq.up (show 830<=1000 by decide),n2,fun b1 hb1=>⟨A8 (show 2<=1000 by decide),fun b2 hb2=>?_⟩⟩
     have st:=(Same.upd (o:=.tup [.int (shT (qF N (D - N) m (pl ^^^ j)) (D ^ m)),.int (shB (qF N (D - N) m (pl ^^^ j)) (D ^ m))]) hb1).trans (Same.upd (o:=.tup [.int (j:Int),.ref b1]) hb2)
     rw [if_pos e']
     refine ⟨sj.trans st,as++[b2],by rw [List.map_append];rfl,by rw [List.length_append,List.length_append,hal];rfl,fun k a o h1 h2=>?_⟩
     rcases Nat.lt_or_ge k as.length with hk | hk
     ·rw [List.getElem?_append_left hk] at h1
      rw [List.getElem?_append_left (by lia)] at h2
      obtain ⟨b,g1,g2⟩:=hat k a o h1 h2
      exact ⟨b,st _ _ g1,st _ _ g2⟩
     ·rw [List.getElem?_append_right hk] at h1
      rw [List.getElem?_append_right (by lia),<- hal] at h2
      rcases Nat.eq_zero_or_pos (k - as.length) with z | z
      ·rw [z] at h1 h2
       cases h1
       cases h2
       exact ⟨b1,AJ,Same.upd hb2 _ _ AJ⟩
      ·rw [List.getElem?_eq_none (by simp;lia)] at h1
       cases h1
    ·have e':¬ 0 < qF N (D - N) m (pl ^^^ j):=fun z=>e (decide_eq_true z)
     rw [if_neg e',List.append_nil]
     exact ⟨sj,as,rfl,hal,hat⟩
   ·rintro ys H' ⟨sj,as,rfl,hal,hat⟩ l hl
    rw [List.length_map,List.length_map,List.length_range] at hal hat
    refine ⟨l,rfl,s6'.trans (sj.trans (Same.upd hl)),?_⟩
    unfold wyD Rep
    refine ⟨l,_,rfl,.of AJ,Em hal fun k a o h1 h2=>?_⟩
    obtain ⟨b,g1,g2⟩:=hat k a o h1 h2
    exact ⟨b,Same.upd hl _ _ g1,Same.upd hl _ _ g2⟩
  rintro σ Hd ⟨l,rfl,sd,rd⟩
  rw [escale pl] at rd
  obtain ⟨k1,k2,k3⟩:=c2
  refine Ab (fun σ H'=>σ=[some (.ref a),some (.int (0+(i:Int))),some (.ref t),some (.int m),some (.ref tb),some (.ref q1),some (.ref q2),some (.ref pf),some (.int N),some (.int (D ^ m)),some (.ref l1),some (.ref l2),some (.int (sumTo (Bo bs (qF N (D - N) m) m) pl)),some (.int pl),some (.ref d),some (.ref l)]/\Same Hc H') ?_ ?_ (by walk_at "sm")
  ·refine Ak (fun e=>?_) (fun e=>⟨rfl,sd⟩)
   refine ⟨m,pl,X,Y,rfl,rfl,m4,hpl,(f8.trans (Fz.of sd)).sqT (.of gaf),yp,nX,nY,fun d2 He fs hd2 se W=>?_⟩
   have hfl:(fs.map fun q=>((q.1:Int),V.ref q.2)).length<=64:=by
    have h1:=EE X Y m pl (2 ^ m)
    rw [<- W.ks,List.length_map] at h1
    rw [List.length_map]
    lia
   have gW:He d2=some (.dK ((fs.map fun q=>((q.1:Int),V.ref q.2)).map fun q=>(Sum.inl q.1,q.2))):=by
    rw [W.at_,List.map_map]
    rfl
   refine ⟨_,gW,hfl,fun l3 Hf as rs a1 a2 a3 a4 a5 a6 a7=>?_⟩
   have r2:=NW (K:=K) W a1 a2 a4 a5 a6 a7
   have r3:=Rep.same (se.trans a4) _ _ rd
   generalize wyD X Y m pl=DD at r2 r3 k1 k2 k3
   refine ⟨DD,r2,k1,k2,k3,DD,r3,k1,k2,k3,?_⟩
   exact Ak (fun e=>(D9 e).elim) (fun _=>⟨rfl,sd.trans (se.trans a4)⟩)
  clear rd sd Hd
  rintro σ Hd ⟨rfl,sd⟩
  have gdd:=sd _ _ gd
  have fd:=f8.trans (Fz.of sd)
  have gdt:Hd tb=some (.tup (bs.map V.bl)):=fd.keep gat fun _ z=>by cases z
  refine .inl ⟨_,gdd,fun o=>?_⟩
  have f9:Fz Ha (upd Hd d (.frz o (.dK (AG ps)))):=fun b o' e=>by
   by_cases z:b=d
   ·have:=fb.trans fc b o' e
    rw [z,gd] at this
    rcases this with h | ⟨kvs,o2,h1,h2⟩
    ·cases h
     exact .inr ⟨_,o,rfl,by rw [z];exact AJ⟩
    ·cases h2
   ·rw [AI z]
    exact fd b o' e
  have g9d:=AJ (H:=Hd) (a:=d) (o:=.frz o (.dK (AG ps)))
  have g9t:upd Hd d (.frz o (.dK (AG ps))) tb=some (.tup (bs.map V.bl)):=by
   rw [AI (fun z=>by rw [z,gdd] at gdt;cases gdt)]
   exact gdt
  generalize upd Hd d (.frz o (.dK (AG ps)))=He at *
  have gbs:∀ q,q < 2 ^ m->atI (bs.map V.bl) ((q:Nat):Int)=some (.bl (gB bs q)):=fun q hq=>by
   have h:q < bs.length:=by lia
   rw [DJ h]
   unfold gB
   rw [List.getD_eq_getElem?_getD,List.getElem?_eq_getElem h]
   rfl
  refine JM (kvs:=AG ps) (fun k ys H'=>H'=He/\ys=(((ps.take k).filter fun q=>gB bs q.1 == gB bs pl).map (·.2)).map V.int) ⟨rfl,rfl⟩ (fun k ys H' _ ⟨e,_⟩=>by rw [e];exact g9d) (fun k ys H' hk ⟨_,e⟩=>by
   have:=List.length_filter_le (fun q:Nat × Int=>gB bs q.1 == gB bs pl) (ps.take k)
   rw [List.length_take] at this
   rw [e,List.length_map,List.length_map];exact As (by lia)) ?_ ?_
  ·rintro k r ys H' hr' ⟨rfl,rfl⟩
   obtain ⟨⟨u,v⟩,hx,rfl⟩:∃ y,ps[k]? = some y/\r=(.inl (y.1:Int),.int y.2):=by
    unfold AG at hr'
    rw [List.getElem?_map] at hr'
    cases e:ps[k]? with
    | none=>rw [e] at hr';cases hr'
    | some y=>rw [e] at hr';cases hr';exact ⟨y,rfl,rfl⟩
   have hum:(u,v)∈ps:=List.mem_of_getElem? hx
   have hu2:u < 2 ^ m:=(P.vl _ hum).1
   have dg:DGet H' d (.int (u:Int)) (some (.int v)):=.inl ⟨_,.inl (u:Int),.inr ⟨o,g9d⟩,rfl,(Gn P.nd hum).symm⟩
   have htk:(ps.take (k+1)).filter (fun q=>gB bs q.1 == gB bs pl)=(ps.take k).filter (fun q=>gB bs q.1 == gB bs pl)++(if (gB bs u == gB bs pl)=true then [(u,v)] else []):=by
    rw [List.take_add_one,hx,List.filter_append]
    congr 1
    by_cases h:(gB bs u == gB bs pl)=true
    ·rw [if_pos h];exact List.filter_cons_of_pos h
    ·rw [if_neg h];exact List.filter_cons_of_neg h
   rw [htk]
   refine ⟨_,_,.inr (.of g9t),gbs u hu2,_,_,.inr (.of g9t),gbs pl hpl,?_⟩
   refine Ak (fun e=>?_) (fun e=>?_)
   ·have e':(gB bs u == gB bs pl)=true:=by simpa using e
    refine ⟨d,.int v,rfl,dg,rfl,?_⟩
    rw [if_pos e',List.map_append,List.map_append]
    rfl
   ·have e':¬ (gB bs u == gB bs pl)=true:=fun z=>e (by show (false ^^ (gB bs u == gB bs pl))=true;rw [z];rfl)
    refine ⟨rfl,?_⟩
    rw [if_neg e',List.append_nil]
  ·rintro ys H' ⟨rfl,rfl⟩ lp hlp
   rw [B6,List.take_of_length_le (Nat.le_refl _)]
   refine ⟨_,.of AJ,?_⟩
   have es:((ps.filter fun q=>gB bs q.1 == gB bs pl).map (·.2)).sum=Bo bs (qF N (D - N) m) m pl:=by
    rw [D6]
    exact Ig P.nd (fun q hq=>(P.vl q hq).1) P.al (fun q=>if (gB bs q == gB bs pl)=true then qF N (D - N) m (pl ^^^ q) else 0) fun r hr=>by rw [(P.vl r hr).2]
   rw [es]
   exact ⟨_,_,_,rfl,f9.trans (Fz.of (Same.upd hlp))⟩
 rintro σ Hb ⟨z13,z14,z15,rfl,fb⟩
 rw [MO]
 have gbt:Hb tb=some (.tup (bs.map V.bl)):=fb.keep gat fun _ z=>by cases z
 have nM:∀ {x y:Int},Nb x 134->Nb y 134->Nb (BA bs m x y (2 ^ m)) 900:=fun {x y} hx hy=>(Nb.sum (f:=fun u=>CG bs m u * x ^ AF m u * (y - x) ^ (m - AF m u)) (a:=850) (n:=2 ^ m) fun u _=>by
  have h1:=(LY bs m6 u).mul (Dk (s:=u) m4 hx hy)
  unfold qF at h1
  rw [Int.mul_assoc]
  exact h1.up (by decide)).up (by lia)
 have hM:(0:Int) < ((2 ^ m:Nat):Int):=by have:=Nat.two_pow_pos m;lia
 have Mn:Nb ((2 ^ m:Nat):Int) 8:=by unfold Nb;lia
 have yn:Nb (Y ^ m) 540:=(nY.pow m).up (by lia)
 have dn:Nb (D ^ m) 540:=(nD4.pow m).up (by lia)
 have bn:Nb (((2 ^ m:Nat):Int) * Y ^ m) 550:=(Mn.mul yn).up (by lia)
 have bp:0 < ((2 ^ m:Nat):Int) * Y ^ m:=Int.mul_pos hM (Int.pow_pos yp)
 have gpm:0 < ((N.gcd D:Nat):Int) ^ m:=Int.pow_pos gp
 have n1:=Ef ((nM nX nY).up (show 900<=1000 by lia)) (bn.up (show 550<=1000 by lia)) bp
 have e1:stW m Y+stP m (wt m (AS bs)) X Y (m+1)=2 * ((2 ^ m:Nat):Int) * BA bs m X Y (2 ^ m):=Kr m bs X Y
 have e2:2 * stW m Y=2 * ((2 ^ m:Nat):Int) * (((2 ^ m:Nat):Int) * Y ^ m):=by
  unfold stW
  rw [show ((2 ^ (2 * m):Nat):Int)=((2 ^ m:Nat):Int) * ((2 ^ m:Nat):Int) by rw [<- Int.natCast_mul,<- Nat.pow_add,Nat.two_mul]]
  ac_rfl
 have ed:shD (stW m Y+stP m (wt m (AS bs)) X Y (m+1)) (2 * stW m Y)=shD (BA bs m X Y (2 ^ m)) (((2 ^ m:Nat):Int) * Y ^ m):=Et (c:=2 * ((2 ^ m:Nat):Int)) (by lia) e1 e2
 have e4:D ^ m * ((2 ^ m:Nat):Int)=((N.gcd D:Nat):Int) ^ m * (((2 ^ m:Nat):Int) * Y ^ m):=by
  have:D ^ m=((N.gcd D:Nat):Int) ^ m * Y ^ m:=by
   have:=congrArg (fun z=>z ^ m) eD
   simp only [Int.mul_pow] at this
   exact this
  rw [this]
  ac_rfl
 have ed2:shD (BA bs m N D (2 ^ m)) (D ^ m * ((2 ^ m:Nat):Int))=shD (BA bs m X Y (2 ^ m)) (((2 ^ m:Nat):Int) * Y ^ m):=Et (c:=((N.gcd D:Nat):Int) ^ m) gpm mscale e4
 have b8:Am (shD (BA bs m X Y (2 ^ m)) (((2 ^ m:Nat):Int) * Y ^ m))<=8000:=by rw [FM];decide
 have d8:AR (shD (BA bs m X Y (2 ^ m)) (((2 ^ m:Nat):Int) * Y ^ m))<=60:=by rw [Eu];decide
 refine ⟨m,bs,m1,m6,hb,.of gbt,fun v H9 s9 SV=>?_⟩
 refine ⟨m,wt m (AS bs),X,Y,SV,m4,KG m6 bs,(fb.trans (Fz.of s9)).sqT (.of gaf),yp,nX,nY,fun p H10 np s10 g10=>?_⟩
 have r1:=B4 (K:=K) g10
 rw [ed] at r1
 generalize shD (BA bs m X Y (2 ^ m)) (((2 ^ m:Nat):Int) * Y ^ m)=DD at *
 refine ⟨DD,r1,n1,b8,d8,?_⟩
 have esm:D ^ m * 2 ^ ((m:Int)).toNat=D ^ m * ((2 ^ m:Nat):Int):=by rw [Int.toNat_natCast,Int.natCast_pow];rfl
 refine ⟨⟨by lia,by lia,?_⟩,?_⟩
 ·exact dn.up (by decide)
 rw [esm]
 refine ⟨Int.mul_pos (Int.pow_pos D0) hM,(nM bN nD4).up (show 900<=1000 by lia),((dn.mul Mn).up (show 540+8<=1000 by decide)),fun p2 np2=>?_⟩
 refine ⟨DD,by rw [<- ed2];exact B4 AJ,n1,b8,d8,?_⟩
 exact Ak (fun e=>(D9 e).elim) (fun _=>⟨_,_,_,_,_,_,_,_,_,_,_,_,_,_,_,rfl,(S0.trans (Fz.of Sa)).trans (fb.trans (Fz.of (s9.trans (s10.trans (Same.upd np2)))))⟩)
end
theorem all_mk {l:W.OpenLaw} {w:World} {K:W.Frag} {h:Heap} {mg:Str->Option Value} {fa:Addr} (X:K.In h) (G:h.Ns mainGlobals mg) (hfa:mg "law" = some (.ref fa))
 {f0 f1 f2 f3 f4 f5 f6 f7 f8 f9 f10 f11 f12 f13 f14 f15 f16 f17 f18 f19 f20 f21 f22:Addr} {oc0 kV0 dc0 pm0 cd0 ct0 oc1 kV1 dc1 pm1 cd1 ct1 oc2 kV2 dc2 pm2 cd2 ct2 oc3 kV3 dc3 pm3 cd3 ct3 oc4 kV4 dc4 pm4 cd4 ct4 oc5 kV5 dc5 pm5 cd5 ct5 oc6 kV6 dc6 pm6 cd6 ct6 oc7 kV7 dc7 pm7 cd7 ct7 oc8 kV8 dc8 pm8 cd8 ct8 oc9 kV9 dc9 pm9 cd9 ct9 oc10 kV10 dc10 pm10 cd10 ct10 oc11 kV11 dc11 pm11 cd11 ct11 oc12 kV12 dc12 pm12 cd12 ct12 oc13 kV13 dc13 pm13 cd13 ct13 oc14 kV14 dc14 pm14 cd14 ct14 oc15 kV15 dc15 pm15 cd15 ct15 oc16 kV16 dc16 pm16 cd16 ct16 oc17 kV17 dc17 pm17 cd17 ct17 oc18 kV18 dc18 pm18 cd18 ct18 oc19 kV19 dc19 pm19 cd19 ct19 oc20 kV20 dc20 pm20 cd20 ct20 oc21 kV21 dc21 pm21 cd21 ct21 oc22 kV22 dc22 pm22 cd22 ct22:Value} {od0 an0 od1 an1 od2 an2 od3 an3 od4 an4 od5 an5 od6 an6 od7 an7 od8 an8 od9 an9 od10 an10 od11 an11 od12 an12 od13 an13 od14 an14 od15 an15 od16 an16 od17 an17 od18 an18 od19 an19 od20 an20 od21 an21 od22 an22:Option Addr} {sl0 sl1 sl2 sl3 sl4 sl5 sl6 sl7 sl8 sl9 sl10 sl11 sl12 sl13 sl14 sl15 sl16 sl17 sl18 sl19 sl20 sl21 sl22:Array (Option Value)}
 (a0:W.nsIn K mainGlobals "two_to" = some (some (.ref f0)))
 (l0:K.lookup f0=some ⟨oc0,od0,.func (W.fnOf "two_to" "two_to" (Aa Cg) (AZ Cg) (AK Cg) .none kV0 dc0 pm0 an0 cd0 ct0),sl0⟩)
 (c0:W.codeIn K cd0 "two_to" = true)
 (k0:W.keepIn K (.ref f0)=true)
 (a1:W.nsIn K mainGlobals "power_of" = some (some (.ref f1)))
 (l1:K.lookup f1=some ⟨oc1,od1,.func (W.fnOf "power_of" "power_of" (Aa Cq) (AZ Cq) (AK Cq) .none kV1 dc1 pm1 an1 cd1 ct1),sl1⟩)
 (c1:W.codeIn K cd1 "power_of" = true)
 (k1:W.keepIn K (.ref f1)=true)
 (a2:W.nsIn K mainGlobals "many_in" = some (some (.ref f2)))
 (l2:K.lookup f2=some ⟨oc2,od2,.func (W.fnOf "many_in" "many_in" (Aa Ca) (AZ Ca) (AK Ca) .none kV2 dc2 pm2 an2 cd2 ct2),sl2⟩)
 (c2:W.codeIn K cd2 "many_in" = true)
 (k2:W.keepIn K (.ref f2)=true)
 (a3:W.nsIn K mainGlobals "share_of" = some (some (.ref f3)))
 (l3:K.lookup f3=some ⟨oc3,od3,.func (W.fnOf "share_of" "share_of" (Aa Ce) (AZ Ce) (AK Ce) .none kV3 dc3 pm3 an3 cd3 ct3),sl3⟩)
 (c3:W.codeIn K cd3 "share_of" = true)
 (k3:W.keepIn K (.ref f3)=true)
 (a4:W.nsIn K mainGlobals "common_divisor" = some (some (.ref f4)))
 (l4:K.lookup f4=some ⟨oc4,od4,.func (W.fnOf "common_divisor" "common_divisor" (Aa Cb) (AZ Cb) (AK Cb) .none kV4 dc4 pm4 an4 cd4 ct4),sl4⟩)
 (c4:W.codeIn K cd4 "common_divisor" = true)
 (k4:W.keepIn K (.ref f4)=true)
 (a5:W.nsIn K mainGlobals "squares_by_level" = some (some (.ref f5)))
 (l5:K.lookup f5=some ⟨oc5,od5,.func (W.fnOf "squares_by_level" "squares_by_level" (Aa CI) (AZ CI) (AK CI) .none kV5 dc5 pm5 an5 cd5 ct5),sl5⟩)
 (c5:W.codeIn K cd5 "squares_by_level" = true)
 (k5:W.keepIn K (.ref f5)=true)
 (a6:W.nsIn K mainGlobals "stays" = some (some (.ref f6)))
 (l6:K.lookup f6=some ⟨oc6,od6,.func (W.fnOf "stays" "stays" (Aa Cu) (AZ Cu) (AK Cu) .none kV6 dc6 pm6 an6 cd6 ct6),sl6⟩)
 (c6:W.codeIn K cd6 "stays" = true)
 (k6:W.keepIn K (.ref f6)=true)
 (a7:W.nsIn K mainGlobals "stays_by" = some (some (.ref f7)))
 (l7:K.lookup f7=some ⟨oc7,od7,.func (W.fnOf "stays_by" "stays_by" (Aa Ch) (AZ Ch) (AK Ch) .none kV7 dc7 pm7 an7 cd7 ct7),sl7⟩)
 (c7:W.codeIn K cd7 "stays_by" = true)
 (k7:W.keepIn K (.ref f7)=true)
 (a8:W.nsIn K mainGlobals "once_for" = some (some (.ref f8)))
 (l8:K.lookup f8=some ⟨oc8,od8,.func (W.fnOf "once_for" "once_for" (Aa CT) (AZ CT) (AK CT) .none kV8 dc8 pm8 an8 cd8 ct8),sl8⟩)
 (c8:W.codeIn K cd8 "once_for" = true)
 (k8:W.keepIn K (.ref f8)=true)
 (a9:W.nsIn K mainGlobals "ways" = some (some (.ref f9)))
 (l9:K.lookup f9=some ⟨oc9,od9,.func (W.fnOf "ways" "ways" (Aa C8) (AZ C8) (AK C8) .none kV9 dc9 pm9 an9 cd9 ct9),sl9⟩)
 (c9:W.codeIn K cd9 "ways" = true)
 (k9:W.keepIn K (.ref f9)=true)
 (a10:W.nsIn K mainGlobals "tops_from" = some (some (.ref f10)))
 (l10:K.lookup f10=some ⟨oc10,od10,.func (W.fnOf "tops_from" "tops_from" (Aa CK) (AZ CK) (AK CK) .none kV10 dc10 pm10 an10 cd10 ct10),sl10⟩)
 (c10:W.codeIn K cd10 "tops_from" = true)
 (k10:W.keepIn K (.ref f10)=true)
 (a11:W.nsIn K mainGlobals "top_of" = some (some (.ref f11)))
 (l11:K.lookup f11=some ⟨oc11,od11,.func (W.fnOf "top_of" "top_of" (Aa Cs) (AZ Cs) (AK Cs) .none kV11 dc11 pm11 an11 cd11 ct11),sl11⟩)
 (c11:W.codeIn K cd11 "top_of" = true)
 (k11:W.keepIn K (.ref f11)=true)
 (a12:W.nsIn K mainGlobals "_law_feed" = some (some (.ref f12)))
 (l12:K.lookup f12=some ⟨oc12,od12,.func (W.fnOf "_law_feed" "_law_feed" (Aa CV) (AZ CV) (AK CV) .none kV12 dc12 pm12 an12 cd12 ct12),sl12⟩)
 (c12:W.codeIn K cd12 "_law_feed" = true)
 (k12:W.keepIn K (.ref f12)=true)
 (a13:W.nsIn K mainGlobals "_law_draw" = some (some (.ref f13)))
 (l13:K.lookup f13=some ⟨oc13,od13,.func (W.fnOf "_law_draw" "_law_draw" (Aa Cv) (AZ Cv) (AK Cv) .none kV13 dc13 pm13 an13 cd13 ct13),sl13⟩)
 (c13:W.codeIn K cd13 "_law_draw" = true)
 (k13:W.keepIn K (.ref f13)=true)
 (a14:W.nsIn K mainGlobals "_law_many" = some (some (.ref f14)))
 (l14:K.lookup f14=some ⟨oc14,od14,.func (W.fnOf "_law_many" "_law_many" (Aa CU) (AZ CU) (AK CU) .none kV14 dc14 pm14 an14 cd14 ct14),sl14⟩)
 (c14:W.codeIn K cd14 "_law_many" = true)
 (k14:W.keepIn K (.ref f14)=true)
 (a15:W.nsIn K mainGlobals "_law_table" = some (some (.ref f15)))
 (l15:K.lookup f15=some ⟨oc15,od15,.func (W.fnOf "_law_table" "_law_table" (Aa Cd) (AZ Cd) (AK Cd) .none kV15 dc15 pm15 an15 cd15 ct15),sl15⟩)
 (c15:W.codeIn K cd15 "_law_table" = true)
 (k15:W.keepIn K (.ref f15)=true)
 (a16:W.nsIn K mainGlobals "_law_sum" = some (some (.ref f16)))
 (l16:K.lookup f16=some ⟨oc16,od16,.func (W.fnOf "_law_sum" "_law_sum" (Aa CO) (AZ CO) (AK CO) .none kV16 dc16 pm16 an16 cd16 ct16),sl16⟩)
 (c16:W.codeIn K cd16 "_law_sum" = true)
 (k16:W.keepIn K (.ref f16)=true)
 (a17:W.nsIn K mainGlobals "_law_share" = some (some (.ref f17)))
 (l17:K.lookup f17=some ⟨oc17,od17,.func (W.fnOf "_law_share" "_law_share" (Aa CS) (AZ CS) (AK CS) .none kV17 dc17 pm17 an17 cd17 ct17),sl17⟩)
 (c17:W.codeIn K cd17 "_law_share" = true)
 (k17:W.keepIn K (.ref f17)=true)
 (a18:W.nsIn K mainGlobals "_law_shaking" = some (some (.ref f18)))
 (l18:K.lookup f18=some ⟨oc18,od18,.func (W.fnOf "_law_shaking" "_law_shaking" (Aa Cj) (AZ Cj) (AK Cj) .none kV18 dc18 pm18 an18 cd18 ct18),sl18⟩)
 (c18:W.codeIn K cd18 "_law_shaking" = true)
 (k18:W.keepIn K (.ref f18)=true)
 (a19:W.nsIn K mainGlobals "_law_ways" = some (some (.ref f19)))
 (l19:K.lookup f19=some ⟨oc19,od19,.func (W.fnOf "_law_ways" "_law_ways" (Aa C7) (AZ C7) (AK C7) .none kV19 dc19 pm19 an19 cd19 ct19),sl19⟩)
 (c19:W.codeIn K cd19 "_law_ways" = true)
 (k19:W.keepIn K (.ref f19)=true)
 (a20:W.nsIn K mainGlobals "_law_power" = some (some (.ref f20)))
 (l20:K.lookup f20=some ⟨oc20,od20,.func (W.fnOf "_law_power" "_law_power" (Aa C4) (AZ C4) (AK C4) .none kV20 dc20 pm20 an20 cd20 ct20),sl20⟩)
 (c20:W.codeIn K cd20 "_law_power" = true)
 (k20:W.keepIn K (.ref f20)=true)
 (a21:W.nsIn K mainGlobals "_law_twice" = some (some (.ref f21)))
 (l21:K.lookup f21=some ⟨oc21,od21,.func (W.fnOf "_law_twice" "_law_twice" (Aa CW) (AZ CW) (AK CW) .none kV21 dc21 pm21 an21 cd21 ct21),sl21⟩)
 (c21:W.codeIn K cd21 "_law_twice" = true)
 (k21:W.keepIn K (.ref f21)=true)
 (a22:W.nsIn K mainGlobals "law" = some (some (.ref f22)))
 (l22:K.lookup f22=some ⟨oc22,od22,.func (W.fnOf "law" "law" (Aa Be) (AZ Be) (AK Be) .none kV22 dc22 pm22 an22 cd22 ct22),sl22⟩)
 (c22:W.codeIn K cd22 "law" = true)
 (k22:W.keepIn K (.ref f22)=true)
 (z_abs:W.nsIn K mainGlobals "abs" = some none)
 (z_enumerate:W.nsIn K mainGlobals "enumerate" = some none)
 (z_int:W.nsIn K mainGlobals "int" = some none)
 (z_len:W.nsIn K mainGlobals "len" = some none)
 (z_max:W.nsIn K mainGlobals "max" = some none)
 (z_range:W.nsIn K mainGlobals "range" = some none)
 (z_repr:W.nsIn K mainGlobals "repr" = some none)
 (z_sorted:W.nsIn K mainGlobals "sorted" = some none)
 (z_sum:W.nsIn K mainGlobals "sum" = some none)
 (z_tuple:W.nsIn K mainGlobals "tuple" = some none) :
 ∃ fd:FuncData,(∀ (s:Shared) (v:Value),BindsTo s fd ⟨[v],[]⟩ [("_law_script",v)])/\∀ base:Heap,K.In base->base.Ns mainGlobals mg->FnOk l.prog w K mg base CX0 5 fa fd ["_law_script"] (Dh K):=by
 have e:=hfa.symm.trans (W.mg_of X G a22)
 cases e
 have F0:=Aj (st:=Cg) l0 c0 k0
 have b0:=F0.binds (ps:=["n"]) fun _ _ _ _ _ _=>L2.on1 (fun _=>rfl)
 have F1:=Aj (st:=Cq) l1 c1 k1
 have b1:=F1.binds (ps:=["base","times"]) fun _ _ _ _ _ _=>L2.on2 (fun _ _=>rfl)
 have F2:=Aj (st:=Ca) l2 c2 k2
 have b2:=F2.binds (ps:=["subset"]) fun _ _ _ _ _ _=>L2.on1 (fun _=>rfl)
 have F3:=Aj (st:=Ce) l3 c3 k3
 have b3:=F3.binds (ps:=["top","bottom"]) fun _ _ _ _ _ _=>L2.on2 (fun _ _=>rfl)
 have F4:=Aj (st:=Cb) l4 c4 k4
 have b4:=F4.binds (ps:=["one","other"]) fun _ _ _ _ _ _=>L2.on2 (fun _ _=>rfl)
 have F5:=Aj (st:=CI) l5 c5 k5
 have b5:=F5.binds (ps:=["one"]) fun _ _ _ _ _ _=>L2.on1 (fun _=>rfl)
 have F6:=Aj (st:=Cu) l6 c6 k6
 have b6:=F6.binds (ps:=["one","share"]) fun _ _ _ _ _ _=>L2.on2 (fun _ _=>rfl)
 have F7:=Aj (st:=Ch) l7 c7 k7
 have b7:=F7.binds (ps:=["n","squares","share"]) fun _ _ _ _ _ _=>L2.on3 (fun _ _ _=>rfl)
 have F8:=Aj (st:=CT) l8 c8 k8
 have b8:=F8.binds (ps:=["one","other"]) fun _ _ _ _ _ _=>L2.on2 (fun _ _=>rfl)
 have F9:=Aj (st:=C8) l9 c9 k9
 have b9:=F9.binds (ps:=["n","place","share"]) fun _ _ _ _ _ _=>L2.on3 (fun _ _ _=>rfl)
 have F10:=Aj (st:=CK) l10 c10 k10
 have b10:=F10.binds (ps:=["n","place","share"]) fun _ _ _ _ _ _=>L2.on3 (fun _ _ _=>rfl)
 have F11:=Aj (st:=Cs) l11 c11 k11
 have b11:=F11.binds (ps:=["n","turned","share"]) fun _ _ _ _ _ _=>L2.on3 (fun _ _ _=>rfl)
 have F12:=Aj (st:=CV) l12 c12 k12
 have b12:=F12.binds (ps:=["_law_script","_law_k"]) fun _ _ _ _ _ _=>L2.on2 (fun _ _=>rfl)
 have F13:=Aj (st:=Cv) l13 c13 k13
 have b13:=F13.binds (ps:=["_law_feed_here","_law_many_here"]) fun _ _ _ _ _ _=>L2.on2 (fun _ _=>rfl)
 have F14:=Aj (st:=CU) l14 c14 k14
 have b14:=F14.binds (ps:=["_law_number"]) fun _ _ _ _ _ _=>L2.on1 (fun _=>rfl)
 have F15:=Aj (st:=Cd) l15 c15 k15
 have b15:=F15.binds (ps:=["_law_feed_here","_law_n"]) fun _ _ _ _ _ _=>L2.on2 (fun _ _=>rfl)
 have F16:=Aj (st:=CO) l16 c16 k16
 have b16:=F16.binds (ps:=["_law_table_here"]) fun _ _ _ _ _ _=>L2.on1 (fun _=>rfl)
 have F17:=Aj (st:=CS) l17 c17 k17
 have b17:=F17.binds (ps:=["_law_top","_law_bottom"]) fun _ _ _ _ _ _=>L2.on2 (fun _ _=>rfl)
 have F18:=Aj (st:=Cj) l18 c18 k18
 have b18:=F18.binds (ps:=["_law_feed_here","_law_part"]) fun _ _ _ _ _ _=>L2.on2 (fun _ _=>rfl)
 have F19:=Aj (st:=C7) l19 c19 k19
 have b19:=F19.binds (ps:=["_law_n","_law_place","_law_share_here"]) fun _ _ _ _ _ _=>L2.on3 (fun _ _ _=>rfl)
 have F20:=Aj (st:=C4) l20 c20 k20
 have b20:=F20.binds (ps:=["_law_base","_law_times"]) fun _ _ _ _ _ _=>L2.on2 (fun _ _=>rfl)
 have F21:=Aj (st:=CW) l21 c21 k21
 have b21:=F21.binds (ps:=["_law_place","_law_firsts","_law_seconds"]) fun _ _ _ _ _ _=>L2.on3 (fun _ _ _=>rfl)
 have F22:=Aj (st:=Be) l22 c22 k22
 have b22:=F22.binds (ps:=["_law_script"]) fun _ _ _ _ _ _=>L2.on1 (fun _=>rfl)
 let T:Txt K mg:={ f_z35:=f0,d_z35:=_,F_z35:=F0,b_z35:=b0,m_z35:=W.mg_of X G a0,f_z28:=f1,d_z28:=_,F_z28:=F1,b_z28:=b1,m_z28:=W.mg_of X G a1,f_z33:=f2,d_z33:=_,F_z33:=F2,b_z33:=b2,m_z33:=W.mg_of X G a2,f_z29:=f3,d_z29:=_,F_z29:=F3,b_z29:=b3,m_z29:=W.mg_of X G a3,f_z17:=f4,d_z17:=_,F_z17:=F4,b_z17:=b4,m_z17:=W.mg_of X G a4,f_z16:=f5,d_z16:=_,F_z16:=F5,b_z16:=b5,m_z16:=W.mg_of X G a5,f_z36:=f6,d_z36:=_,F_z36:=F6,b_z36:=b6,m_z36:=W.mg_of X G a6,f_z31:=f7,d_z31:=_,F_z31:=F7,b_z31:=b7,m_z31:=W.mg_of X G a7,f_z30:=f8,d_z30:=_,F_z30:=F8,b_z30:=b8,m_z30:=W.mg_of X G a8,f_z37:=f9,d_z37:=_,F_z37:=F9,b_z37:=b9,m_z37:=W.mg_of X G a9,f_z27:=f10,d_z27:=_,F_z27:=F10,b_z27:=b10,m_z27:=W.mg_of X G a10,f_z34:=f11,d_z34:=_,F_z34:=F11,b_z34:=b11,m_z34:=W.mg_of X G a11,f_z24:=f12,d_z24:=_,F_z24:=F12,b_z24:=b12,m_z24:=W.mg_of X G a12,f_z23:=f13,d_z23:=_,F_z23:=F13,b_z23:=b13,m_z23:=W.mg_of X G a13,f_z25:=f14,d_z25:=_,F_z25:=F14,b_z25:=b14,m_z25:=W.mg_of X G a14,f_z22:=f15,d_z22:=_,F_z22:=F15,b_z22:=b15,m_z22:=W.mg_of X G a15,f_z32:=f16,d_z32:=_,F_z32:=F16,b_z32:=b16,m_z32:=W.mg_of X G a16,f_z21:=f17,d_z21:=_,F_z21:=F17,b_z21:=b17,m_z21:=W.mg_of X G a17,f_z18:=f18,d_z18:=_,F_z18:=F18,b_z18:=b18,m_z18:=W.mg_of X G a18,f_z26:=f19,d_z26:=_,F_z26:=F19,b_z26:=b19,m_z26:=W.mg_of X G a19,f_z20:=f20,d_z20:=_,F_z20:=F20,b_z20:=b20,m_z20:=W.mg_of X G a20,f_z19:=f21,d_z19:=_,F_z19:=F21,b_z19:=b21,m_z19:=W.mg_of X G a21,f_law:=fa,d_law:=_,F_law:=F22,b_law:=b22,m_law:=W.mg_of X G a22,z_abs:=W.mg_none_of X G z_abs,z_enumerate:=W.mg_none_of X G z_enumerate,z_int:=W.mg_none_of X G z_int,z_len:=W.mg_none_of X G z_len,z_max:=W.mg_none_of X G z_max,z_range:=W.mg_none_of X G z_range,z_repr:=W.mg_none_of X G z_repr,z_sorted:=W.mg_none_of X G z_sorted,z_sum:=W.mg_none_of X G z_sum,z_tuple:=W.mg_none_of X G z_tuple }
 exact ⟨W.fnOf "law" "law" (Aa Be) (AZ Be) (AK Be) .none kV22 dc22 pm22 an22 cd22 ct22,fun s v=>.of_eq rfl,fun base _ _=>Kg T⟩
theorem walk {l:W.OpenLaw} {q:Program} {loose:List Str} {XP:(Str->Option Value)->Heap->Prop} {YP:World->Heap->Prop} {d:DefRec} {K:Params->W.Frag} (hn:l.most=some 63) (hdf:d.params.defaults=[])
 (hY:∀ (w:World) (h:Heap),YP w h->(K w.params).In h)
 (F:∀ (w:World) (mg:Str->Option Value) (fa:Addr) (h:Heap),(K w.params).In h->h.Ns mainGlobals mg->mg d.name=some (.ref fa) ->
   ∃ fd:FuncData,(∀ (s:Shared) (u:Value),BindsTo s fd ⟨[u],[]⟩ [("_law_script",u)])/\∀ base:Heap,(K w.params).In base->base.Ns mainGlobals mg->FnOk l.prog w (K w.params) mg base CX0 5 fa fd ["_law_script"] (Dh (K w.params))) :
 W.WalkO q loose XP YP l.row.toRowW d [] (fun f vs=>PySem.call f vs) :=
 L2.walk_of (n:=63) (k:=5) (x:="_law_script") (CX:=fun _=>CX0) (sp:=fun w=>Dh (K w.params)) hn (by decide) hdf ⟨rfl,by decide,by decide,rfl⟩ hY F (fun _ _ a ns hl _ hS=>⟨a,ns,rfl,hS,hl,fun _=>rfl⟩) fun _ _ _ _ _ z=>z
end Mine
theorem PySem.W.Fast.te10743702995632456002:True:=trivial
def PySem.W.Fast.tw12333071964729749045:PySem.Program:=PySem.Challenge.pw_flips_k26_whole_shaken_twice
theorem PySem.W.Fast.te12333071964729749045:PySem.Challenge.pw_flips_k26_whole_shaken_twice=PySem.W.Fast.tw12333071964729749045:=rfl
def PySem.W.Fast.pickB:List Bool->List PySem.Stmt->List PySem.Stmt
 | [],_=>[]
 | b::k,l=>match b,l with
  | true,s::r=>s::PySem.W.Fast.pickB k r
  | false,_::r=>PySem.W.Fast.pickB k r
  | _,[]=>[]
def PySem.W.Fast.tw5119267304191503335:PySem.Program:={ PySem.Challenge.pw_flips_k26_whole_shaken_twice with main:={ (PySem.Challenge.pw_flips_k26_whole_shaken_twice).main with body:=PySem.W.Fast.pickB [false,true,true,false,true,false,true,true,false,true,false,true,true,true,false,true,true,true,false,true,true,true,true,true,true,true,true,true,true,true] (PySem.Challenge.pw_flips_k26_whole_shaken_twice).main.body } }
theorem PySem.W.Fast.te5119267304191503335:PySem.W.Fast.tw5119267304191503335=PySem.W.Fast.tw5119267304191503335:=rfl
def PySem.W.Fast.tw7003880792717741336:List PySem.Stmt:=((PySem.Challenge.pw_flips_k26_whole_shaken_twice).main.body.drop 17).take 13
theorem PySem.W.Fast.te7003880792717741336:PySem.W.Fast.tw7003880792717741336=PySem.W.Fast.tw7003880792717741336:=rfl
def PySem.W.Fast.tw13640127430780174379:List PySem.Stmt:=((PySem.Challenge.pw_flips_k26_whole_shaken_twice).main.body.drop 0).take 17
theorem PySem.W.Fast.te13640127430780174379:PySem.W.Fast.tw13640127430780174379=PySem.W.Fast.tw13640127430780174379:=rfl
open PySem PySem.W PyProof.Rows
set_option maxRecDepth 100000 in
set_option maxHeartbeats 0 in
theorem PySem.Challenge.cw_flips_k26_whole_shaken_twice_holds : PySem.Challenge.rw_flips_k26_whole_shaken_twice.Holds := by
 w_on;o_law;k_head;(case hw=>w_witness2)
 k_fill
 refine Mine.walk (l:=PySem.Challenge.rw_flips_k26_whole_shaken_twice) rfl rfl (fun w h Y=>PySem.W.kIn_of Y) ?F
 case F =>
  intro w mg fa h KX G hmg
  refine' Mine.all_mk KX G hmg ?a0 ?l0 ?c0 ?k0 ?a1 ?l1 ?c1 ?k1 ?a2 ?l2 ?c2 ?k2 ?a3 ?l3 ?c3 ?k3 ?a4 ?l4 ?c4 ?k4 ?a5 ?l5 ?c5 ?k5 ?a6 ?l6 ?c6 ?k6 ?a7 ?l7 ?c7 ?k7 ?a8 ?l8 ?c8 ?k8 ?a9 ?l9 ?c9 ?k9 ?a10 ?l10 ?c10 ?k10 ?a11 ?l11 ?c11 ?k11 ?a12 ?l12 ?c12 ?k12 ?a13 ?l13 ?c13 ?k13 ?a14 ?l14 ?c14 ?k14 ?a15 ?l15 ?c15 ?k15 ?a16 ?l16 ?c16 ?k16 ?a17 ?l17 ?c17 ?k17 ?a18 ?l18 ?c18 ?k18 ?a19 ?l19 ?c19 ?k19 ?a20 ?l20 ?c20 ?k20 ?a21 ?l21 ?c21 ?k21 ?a22 ?l22 ?c22 ?k22 ?z_abs ?z_enumerate ?z_int ?z_len ?z_max ?z_range ?z_repr ?z_sorted ?z_sum ?z_tuple
  (case a0 | l0 | c0 | k0 | a1 | l1 | c1 | k1 | a2 | l2 | c2 | k2 | a3 | l3 | c3 | k3 | a4 | l4 | c4 | k4 | a5 | l5 | c5 | k5 | a6 | l6 | c6 | k6 | a7 | l7 | c7 | k7 | a8 | l8 | c8 | k8 | a9 | l9 | c9 | k9 | a10 | l10 | c10 | k10 | a11 | l11 | c11 | k11 | a12 | l12 | c12 | k12 | a13 | l13 | c13 | k13 | a14 | l14 | c14 | k14 | a15 | l15 | c15 | k15 | a16 | l16 | c16 | k16 | a17 | l17 | c17 | k17 | a18 | l18 | c18 | k18 | a19 | l19 | c19 | k19 | a20 | l20 | c20 | k20 | a21 | l21 | c21 | k21 | a22 | l22 | c22 | k22 | z_abs | z_enumerate | z_int | z_len | z_max | z_range | z_repr | z_sorted | z_sum | z_tuple=>k_is)
