import PyProof.Rows.All
import Wide.All
import OpenK.AllK
import Wide.FinOn
import Lean
import PyProof.EqAt
import PyProof.EqKinds
import PyProof.TupleCall
import PyProof.NeKinds
import PyProof.ReprRoads
import PyProof.ReprBulk
import PyProof.Draws
import PyProof.EnumMake
import KE.BitLaws
import PyProof.ListIndex
import PyProof.AttrMissHeap
import PyProof.DictUpdate
import KE.KDictOf
import PyProof.FactsAll.enumerate_1
import PyProof.FactsAll.tuple_2
import PyProof.ListMulRoad
import PyProof.ListRange
import PyProof.FactsAll.list_3
import PyProof.Rows.SortWalk
import PyProof.Rows.MinMaxN
import KE.KEqDict
import KE.KDictSum
import PyProof.WalksMore
import PyProof.Rows.SetFrom
import PyProof.SetRoads
import PyProof.FactsAll.set_1
import KE.KItemsList
import KE.KSortTup
import KE.KLam
import PyProof.FactsAll.dict_1
import PySem.Challenge.RW_flips_k43_whole_trees_let_by
set_option Elab.async false
set_option linter.all false
set_option maxRecDepth 100000
set_option maxHeartbeats 4000000
-- CHANGE: your row's module here, as the last of these rows
namespace L2
open PySem PySem.Spec PyProof.Rows
abbrev Key := Sum Int Str
def keyIs : Key -> Value -> Bool
 | .inl k, v => Value.isInt k v
 | .inr x, v => Value.isStrOf x v
def keyH (w : World) : Key -> Int
 | .inl k => hashInt k
 | .inr x => hashStr w x
theorem keyIs_shape : ∀ {k : Key} {v : Value}, keyIs k v = true -> (∃ i t, k = Sum.inl i /\ v = Value.int i t) \/ (∃ x t, k = Sum.inr x /\ v = Value.str x t)
 | .inl i, v, h => by
  obtain ⟨t, e⟩ := Value.isInt_shape (k := i) (v := v) h
  exact .inl ⟨i, t, rfl, e⟩
 | .inr x, v, h => by
  obtain ⟨t, e⟩ := Value.isStrOf_shape (x := x) (v := v) h
  exact .inr ⟨x, t, rfl, e⟩
theorem keyIs_int (i : Int) (t : Tok) : keyIs (.inl i) (.int i t) = true := by simp [keyIs, Value.isInt]
theorem keyIs_str (x : Str) (t : Tok) : keyIs (.inr x) (.str x t) = true := by simp [keyIs, Value.isStrOf]
theorem key_ll (a b : Int) : decide ((Sum.inl a : Key) = Sum.inl b) = (a == b) := by
 by_cases e : a = b
 ·subst e; simp
 ·have h : ¬ (Sum.inl a : Key) = Sum.inl b := fun q => e (Sum.inl.inj q)
  rw [decide_eq_false h]
  exact (beq_eq_false_iff_ne.mpr e).symm
theorem key_rr (a b : Str) : decide ((Sum.inr a : Key) = Sum.inr b) = decide (a = b) := by
 by_cases e : a = b
 ·subst e; simp
 ·have h : ¬ (Sum.inr a : Key) = Sum.inr b := fun q => e (Sum.inr.inj q)
  rw [decide_eq_false h, decide_eq_false e]
theorem key_lr (a : Int) (b : Str) : decide ((Sum.inl a : Key) = Sum.inr b) = false := decide_eq_false (fun q => nomatch q)
theorem key_rl (a : Str) (b : Int) : decide ((Sum.inr a : Key) = Sum.inl b) = false := decide_eq_false (fun q => nomatch q)
def mixKind (prog : Program) (w : World) : PySem.KeyKind prog w Key where
 is := keyIs
 hash := keyH w
 inj := fun v a b ha hb => by
  rcases keyIs_shape ha with ⟨i, t, rfl, rfl⟩ | ⟨x, t, rfl, rfl⟩
  ·rcases keyIs_shape hb with ⟨j, u, rfl, e⟩ | ⟨y, u, rfl, e⟩
   ·injection e with e1 _; rw [e1]
   ·exact nomatch e
  ·rcases keyIs_shape hb with ⟨j, u, rfl, e⟩ | ⟨y, u, rfl, e⟩
   ·exact nomatch e
   ·injection e with e1 _; rw [e1]
 byValue := fun k v h => by
  rcases keyIs_shape h with ⟨i, t, rfl, rfl⟩ | ⟨x, t, rfl, rfl⟩ <;> rfl
 pyHash := fun hv h => by
  rcases keyIs_shape hv with ⟨i, t, rfl, rfl⟩ | ⟨x, t, rfl, rfl⟩
  ·exact wpAny_pyHash_int h
  ·exact wpAny_pyHash_str h
 eqBool := fun hu hv h => by
  rcases keyIs_shape hu with ⟨i, t, rfl, rfl⟩ | ⟨x, t, rfl, rfl⟩
  ·rcases keyIs_shape hv with ⟨j, u, rfl, rfl⟩ | ⟨y, u, rfl, rfl⟩
   ·rw [key_ll] at h; exact wpAny_eqBool_int h
   ·rw [key_lr] at h; exact SeqAt.EqAt.int_str i t y u _ _ _ _ h
  ·rcases keyIs_shape hv with ⟨j, u, rfl, rfl⟩ | ⟨y, u, rfl, rfl⟩
   ·rw [key_rl] at h; exact SeqAt.EqAt.str_int x t j u _ _ _ _ h
   ·rw [key_rr] at h; exact wpAny_eqBool_str h
 «strs» := fun k x t v h => by
  rcases keyIs_shape h with ⟨i, u, rfl, e⟩ | ⟨y, u, rfl, e⟩
  ·exact nomatch e
  ·injection e with e1 _
   subst e1
   cases v <;> rfl
theorem mixKind_int (prog : Program) (w : World) (i : Int) (t : Tok) : (mixKind prog w).is (.inl i) (.int i t) = true := keyIs_int i t
theorem mixKind_str (prog : Program) (w : World) (x : Str) (t : Tok) : (mixKind prog w).is (.inr x) (.str x t) = true := keyIs_str x t
inductive V where
 | non | bl (b : Bool) | int (i : Int) | str (x : Str) | byt (b : Array UInt8) | flt (b : UInt64) | ref (a : Addr) | ty (n : String)
 deriving DecidableEq
def RelV : V -> Value -> Prop
 | .non, u => u = Value.none
 | .bl b, u => u = Value.bool b
 | .int i, u => ∃ t, u = Value.int i t
 | .str x, u => ∃ t, u = Value.str x t
 | .byt b, u => ∃ t, u = Value.bytes b t
 | .flt b, u => ∃ t, u = Value.float b t
 | .ref a, u => u = Value.ref a
 | .ty n, u => u = Value.type n
abbrev Vals : List V -> List Value -> Prop := Paired RelV
theorem Vals.length {xs : List V} {us : List Value} (r : Vals xs us) : xs.length = us.length := Paired.length r
theorem Vals.get : ∀ {xs : List V} {us : List Value} {i : Nat} {x : V}, Vals xs us -> xs[i]? = some x -> ∃ u, us[i]? = some u /\ RelV x u
 | _, _, _, _, .nil, e => by simp at e
 | _, _, 0, _, .cons r _, e => by simp at e; subst e; exact ⟨_, rfl, r⟩
 | _, _, i + 1, x, .cons _ t, e => by
  obtain ⟨u, h1, h2⟩ := Vals.get (i := i) (x := x) t (by simpa using e)
  exact ⟨u, by simpa using h1, h2⟩
theorem Vals.set {x : V} {u : Value} (r : RelV x u) : ∀ {xs : List V} {us : List Value} (i : Nat), Vals xs us -> Vals (xs.set i x) (us.set i u)
 | _, _, _, .nil => .nil
 | _, _, 0, .cons _ t => .cons r t
 | _, _, i + 1, .cons q t => .cons q (Vals.set r i t)
theorem Vals.append : ∀ {xs ys : List V} {us ws : List Value}, Vals xs us -> Vals ys ws -> Vals (xs ++ ys) (us ++ ws)
 | _, _, _, _, .nil, s => s
 | _, _, _, _, .cons r t, s => .cons r (Vals.append t s)
theorem Vals.take : ∀ {xs : List V} {us : List Value} (n : Nat), Vals xs us -> Vals (xs.take n) (us.take n)
 | _, _, 0, _ => .nil
 | _, _, _ + 1, .nil => .nil
 | _, _, n + 1, .cons r t => .cons r (Vals.take n t)
theorem Vals.drop : ∀ {xs : List V} {us : List Value} (n : Nat), Vals xs us -> Vals (xs.drop n) (us.drop n)
 | _, _, 0, r => r
 | _, _, _ + 1, .nil => .nil
 | _, _, n + 1, .cons _ t => Vals.drop n t
def RelO : Option V -> Option Value -> Prop
 | some v, some u => RelV v u
 | none, none => True
 | _, _ => False
def KV {κ : Type} : List (κ × V) -> List (κ × Value) -> Prop := Paired fun (p : κ × V) (q : κ × Value) => p.1 = q.1 /\ RelV p.2 q.2
def kV : Key -> V
 | .inl i => .int i
 | .inr x => .str x
inductive HO where
 | lst (xs : List V)
 | tup (xs : List V)
 | dK (kvs : List (Key × V)) | dT (kvs : List (List Key × V))
 | set (S : Int -> Bool) (n : Nat)
 | ins (C dx : Addr) (fs : List (Str × V))
 | own (x : Addr)
 | xd (fs : List (Str × V))
 | met (f x : Addr)
 | rng (lo hi : Int)
 | frz (o : Obj) (u : HO)
 | tbl (ps : Array Value)
 | ext (φ : Heap -> Prop)
abbrev Hp := Addr -> Option HO
def upd (H : Hp) (a : Addr) (o : HO) : Hp := fun b => if b = a then some o else H b
theorem upd_same {H : Hp} {a : Addr} {o : HO} : upd H a o a = some o := by unfold upd; rw [if_pos rfl]
theorem upd_ne {H : Hp} {a b : Addr} {o : HO} (h : b ≠ a) : upd H a o b = H b := by unfold upd; rw [if_neg h]
theorem ne_of {H : Hp} {a b : Addr} {o u : HO} (h : H a = some o) (h' : H b = some u) (d : o ≠ u) : a ≠ b := by
 intro e; subst e; rw [h] at h'; exact d (Option.some.inj h')
theorem ne_of_none {H : Hp} {a b : Addr} {o : HO} (h : H a = some o) (h' : H b = none) : a ≠ b := by
 intro e; subst e; rw [h] at h'; cases h'
def IsTupN (h : Heap) (a : Addr) (items : Array Value) : Prop := ∃ o, h.get? a = some o /\ o.cls = .type "tuple" /\ (∃ n, o.data = .seq items n) /\ o.dict = none
theorem IsTupN.tup {h : Heap} {a : Addr} {items : Array Value} (x : IsTupN h a items) : PyProof.Rows.IsTup h a items := by
 obtain ⟨o, e, c, d, _⟩ := x
 exact ⟨o, e, c, d⟩
theorem IsTupN.new (h : Heap) (items : Array Value) : IsTupN (h.push { cls := .type "tuple", data := .seq items }) h.objs.size items := ⟨_, Heap.get?_push_size _ rfl, rfl, ⟨_, rfl⟩, rfl⟩
section
variable (P : Program) (w : World)
def ObjOk (H : Hp) (h : Heap) (a : Addr) : HO -> Prop
 | .lst xs => xs.length <= sizeLine /\ ∃ (its : List Value) (n : Nat), Vals xs its /\ h.get? a = some { cls := .type "list", data := .seq its.toArray n }
 | .tup xs => xs.length <= sizeLine /\ ∃ its : List Value, Vals xs its /\ IsTupN h a its.toArray
 | .dK kvs => kvs.length <= sizeLine /\ (a == sysModules) = false /\ ∃ vs, KV kvs vs /\ h.DictOf (mixKind P w) a vs
 | .dT kvs => kvs.length <= sizeLine /\ (a == sysModules) = false /\ ∃ xs : List (List Key × Addr × Value),
  Paired (fun (p : List Key × V) (q : List Key × Addr × Value) => p.1 = q.1 /\ H q.2.1 = some (.tup (p.1.map kV)) /\ RelV p.2 q.2.2) kvs xs /\
  ∃ o es ep, h.get? a = some o /\ o.ExactDict /\ o.data = .dict es ep /\ es.toList = xs.map (entryOfKey (tupleKind (mixKind P w))) /\ (xs.map (·.1)).Nodup
 | .set S n => h.SetOf (intKind P w) a S n
 | .ins C dx fs => H dx = some (.own a) /\ fs.length <= 1000 /\ dx ≠ a /\ h.get? a = some (PySem.W.instObj C dx) /\
  ∃ mA, h.Ns1 dx mA /\ (∀ f, RelO (fs.lookup f) (mA f)) /\ PySem.Within mA (fs.map (·.1))
 | .own _ => ∃ o, h.get? a = some o
 | .xd fs => ∃ mA, h.Ns1 a mA /\ ∀ f, RelO (fs.lookup f) (mA f)
 | .rng lo hi => ∃ t u v, h.get? a = some { cls := .type "range", data := .fields #[.int lo t, .int hi u, .int 1 v] }
 | .frz o u => h.get? a = some o /\ ObjOk H h a u
 | .tbl ps => h.get? a = some { cls := .none, data := .fields ps }
 | .met f x => h.get? a = some (PySem.W.methodObj (.ref f) (.ref x))
 | .ext φ => φ h /\ (∃ o, h.get? a = some o) /\ ∀ h1 h2 : Heap, φ h1 -> (∀ o, h1.get? a = some o -> h2.get? a = some o) -> φ h2
def HOk (H : Hp) (h : Heap) : Prop := ∀ a o, H a = some o -> ObjOk P w H h a o
end
section
variable {P : Program} {w : World} {H H' : Hp} {h h' : Heap} {a : Addr} {o : HO}
theorem ObjOk.lt (x : ObjOk P w H h a o) : a < h.objs.size := by
 cases o with
 | lst xs => obtain ⟨_, _, _, _, e⟩ := x; exact Heap.lt_size e
 | tup xs => obtain ⟨_, _, _, p⟩ := x; exact p.tup.lt
 | dK kvs => obtain ⟨_, _, _, _, o, _, _, e, _⟩ := x; exact Heap.lt_size e
 | dT kvs => obtain ⟨_, _, _, _, o, _, _, e, _⟩ := x; exact Heap.lt_size e
 | set S n => obtain ⟨o, _, _, _, e, _⟩ := x; exact Heap.lt_size e
 | ins C dx fs => obtain ⟨_, _, _, e, _⟩ := x; exact Heap.lt_size e
 | own y => obtain ⟨_, e⟩ := x; exact Heap.lt_size e
 | xd fs => obtain ⟨_, ⟨_, _, _, e, _⟩, _⟩ := x; exact Heap.lt_size e
 | rng lo hi => obtain ⟨_, _, _, e⟩ := x; exact Heap.lt_size e
 | frz ob u => obtain ⟨e, _⟩ := x; exact Heap.lt_size e
 | tbl ps => exact Heap.lt_size (show h.get? a = some _ from x)
 | met f y => exact Heap.lt_size (show h.get? a = some _ from x)
 | ext φ => obtain ⟨_, ⟨_, e⟩, _⟩ := x; exact Heap.lt_size e
theorem Paired.mapP {α β : Type} {F G : α -> β -> Prop} : ∀ {l₁ : List α} {l₂ : List β}, Paired F l₁ l₂ -> (∀ a b, F a b -> G a b) -> Paired G l₁ l₂
 | _, _, .nil, _ => .nil
 | _, _, .cons r t, f => .cons (f _ _ r) (Paired.mapP t f)
theorem ObjOk.stay (x : ObjOk P w H h a o) (k : ∀ b u, (b = a \/ H b = some (.own a)) -> h.get? b = some u -> h'.get? b = some u)
 (ho : ∀ b, H b = some (.own a) -> H' b = some (.own a)) (ht : ∀ b xs, H b = some (.tup xs) -> H' b = some (.tup xs)) : ObjOk P w H' h' a o := by
 induction o with
 | lst xs => obtain ⟨z, its, n, r, e⟩ := x; exact ⟨z, its, n, r, k _ _ (.inl rfl) e⟩
 | tup xs => obtain ⟨z, its, r, ob, e, c⟩ := x; exact ⟨z, its, r, ob, k _ _ (.inl rfl) e, c⟩
 | dK kvs => obtain ⟨z, y, vs, r, ob, es, ep, e, c⟩ := x; exact ⟨z, y, vs, r, ob, es, ep, k _ _ (.inl rfl) e, c⟩
 | dT kvs =>
  obtain ⟨z, y, xs, r, ob, es, ep, e, c⟩ := x
  exact ⟨z, y, xs, Paired.mapP r fun p q z => ⟨z.1, ht _ _ z.2.1, z.2.2⟩, ob, es, ep, k _ _ (.inl rfl) e, c⟩
 | set S n => obtain ⟨ob, es, ep, t, e, c⟩ := x; exact ⟨ob, es, ep, t, k _ _ (.inl rfl) e, c⟩
 | ins C dx fs =>
  obtain ⟨d, z, ne, e, mA, ⟨od, es, ep, e2, c⟩, r⟩ := x
  exact ⟨ho _ d, z, ne, k _ _ (.inl rfl) e, mA, ⟨od, es, ep, k _ _ (.inr d) e2, c⟩, r⟩
 | own y => obtain ⟨ob, e⟩ := x; exact ⟨ob, k _ _ (.inl rfl) e⟩
 | xd fs => obtain ⟨mA, ⟨od, es, ep, e, c⟩, r⟩ := x; exact ⟨mA, ⟨od, es, ep, k _ _ (.inl rfl) e, c⟩, r⟩
 | rng lo hi => obtain ⟨t, u, v, e⟩ := x; exact ⟨t, u, v, k _ _ (.inl rfl) e⟩
 | frz ob u ih => obtain ⟨e, q⟩ := x; exact ⟨k _ _ (.inl rfl) e, ih q⟩
 | tbl ps =>
  have e : h.get? a = some { cls := .none, data := .fields ps } := x
  show h'.get? a = some { cls := .none, data := .fields ps }
  exact k a _ (.inl rfl) e
 | met f y =>
  have e : h.get? a = some (PySem.W.methodObj (.ref f) (.ref y)) := x
  show h'.get? a = some (PySem.W.methodObj (.ref f) (.ref y))
  exact k a _ (.inl rfl) e
 | ext φ => obtain ⟨p, ⟨o, e⟩, st⟩ := x; exact ⟨st _ _ p fun o q => k _ _ (.inl rfl) q, ⟨o, k _ _ (.inl rfl) e⟩, st⟩
theorem HOk.lt (x : HOk P w H h) (e : H a = some o) : a < h.objs.size := (x a o e).lt
theorem HOk.fresh (x : HOk P w H h) (e : h.objs.size <= a) : H a = none := by
 cases q : H a with
 | none => rfl
 | some u => exact absurd (Nat.lt_of_lt_of_le (x.lt q) e) (Nat.lt_irrefl _)
theorem HOk.kept (x : HOk P w H h) (k : ∀ b u, h.get? b = some u -> h'.get? b = some u) : HOk P w H h' := fun a o e =>
 (x a o e).stay (fun b u _ q => k b u q) (fun _ q => q) fun _ _ q => q
theorem HOk.laid (x : HOk P w H h) (k : ∀ b u, h.get? b = some u -> h'.get? b = some u) (hp : h.objs.size <= a) (new : ObjOk P w (upd H a o) h' a o) : HOk P w (upd H a o) h' := fun b u e => by
 have hn := x.fresh hp
 by_cases hb : b = a
 ·subst hb; rw [upd_same] at e; cases e; exact new
 ·rw [upd_ne hb] at e
  exact (x b u e).stay (fun c v _ q => k c v q) (fun c q => by rw [upd_ne (ne_of_none q hn)]; exact q) fun c xs q => by rw [upd_ne (ne_of_none q hn)]; exact q
end
def Rd (H : Hp) (a : Addr) (u : HO) : Prop := H a = some u \/ ∃ o, H a = some (.frz o u)
theorem Rd.of {H : Hp} {a : Addr} {u : HO} (h : H a = some u) : Rd H a u := .inl h
theorem Rd.ok {P : Program} {w : World} {H : Hp} {h : Heap} {a : Addr} {u : HO} (r : Rd H a u) (x : HOk P w H h) : ObjOk P w H h a u := by
 rcases r with r | ⟨o, r⟩
 ·exact x a u r
 ·obtain ⟨_, q⟩ := x a _ r
  exact q
def Mut : Option HO -> Prop
 | some (.lst _) => True
 | some (.dK _) => True
 | some (.dT _) => True
 | some (.set _ _) => True
 | some (.ins _ _ _) => True
 | some (.ext _) => True
 | _ => False
section
variable {P : Program} {w : World} {H : Hp} {h h' : Heap} {x e : Addr} {o' : HO}
theorem HOk.write (ok : HOk P w H h) (mu : Mut (H x)) (he : e = x \/ H e = some (.own x)) (k : ∀ b u, b ≠ e -> h.get? b = some u -> h'.get? b = some u) (heo : ∃ u, h'.get? e = some u)
 (new : ObjOk P w (upd H x o') h' x o') : HOk P w (upd H x o') h' := fun b u q => by
 have nown : ∀ c y, H c = some (.own y) -> c ≠ x := fun c y r z => by subst z; rw [r] at mu; exact mu
 have ntup : ∀ c xs, H c = some (.tup xs) -> c ≠ x := fun c xs r z => by subst z; rw [r] at mu; exact mu
 by_cases hb : b = x
 ·subst hb; rw [upd_same] at q; cases q; exact new
 ·rw [upd_ne hb] at q
  by_cases hbe : b = e
  ·have q' : H b = some (.own x) := by
    rcases he with z | z
    ·exact absurd (hbe.trans z) hb
    ·rw [hbe]; exact z
   rw [q] at q'; cases q'
   obtain ⟨v, hv⟩ := heo
   exact ⟨v, by rw [hbe]; exact hv⟩
  ·refine (ok b u q).stay (fun c v hc r => k c v ?_ r) (fun c r => by rw [upd_ne (nown c b r)]; exact r) fun c xs r => by rw [upd_ne (ntup c xs r)]; exact r
   rcases hc with rfl | hc
   ·exact hbe
   ·rintro rfl
    rcases he with z | z
    ·exact nown c b hc z
    ·rw [hc] at z; cases z; exact hb rfl
end
structure Un (fs ex : List Addr) (H H' : Hp) (h h' : Heap) : Prop where
 keep : ∀ b o, h.get? b = some o -> H b = none -> b ∉ fs -> b ∉ ex -> h'.get? b = some o
 slot : ∀ b o, h.get? b = some o -> H b = none -> b ∈ fs -> b ∉ ex -> ∃ sl, h'.get? b = some { o with slots := sl }
 free : ∀ b o, h.get? b = some o -> H b = none -> b ∉ ex -> H' b = none
 there : ∀ b o, h.get? b = some o -> b ∉ ex -> ∃ o', h'.get? b = some o'
 tups : ∀ b xs, H b = some (.tup xs) -> H' b = some (.tup xs)
 frzs : ∀ b o u, H b = some (.frz o u) -> H' b = some (.frz o u)
 tbls : ∀ b ps, H b = some (.tbl ps) -> ∃ more, H' b = some (.tbl (ps ++ more))
section
variable {fs fs' ex ex' : List Addr} {H H1 H2 : Hp} {h h1 h2 h' : Heap} {a x e : Addr} {o : HO}
theorem Un.any (u : Un fs ex H H1 h h1) {b : Addr} {ob : Obj} (q : h.get? b = some ob) (n : H b = none) (hx : b ∉ ex) : ∃ sl, h1.get? b = some { ob with slots := sl } := by
 by_cases hb : b ∈ fs
 ·exact u.slot b ob q n hb hx
 ·exact ⟨ob.slots, u.keep b ob q n hb hx⟩
theorem Un.kept (k : ∀ b u, h.get? b = some u -> h'.get? b = some u) : Un fs ex H H h h' :=
 ⟨fun b ob q _ _ _ => k b ob q, fun b ob q _ _ _ => ⟨ob.slots, k b ob q⟩, fun _ _ _ n _ => n, fun b ob q _ => ⟨ob, k b ob q⟩, fun _ _ q => q, fun _ _ _ q => q, fun _ ps q => ⟨#[], by rw [q]; simp⟩⟩
theorem Un.refl : Un fs ex H H h h := Un.kept fun _ _ q => q
theorem Un.laid (k : ∀ b u, h.get? b = some u -> h'.get? b = some u) (hp : h.objs.size <= a) (hn : H a = none) : Un fs ex H (upd H a o) h h' where
 keep := fun b u q _ _ _ => k b u q
 slot := fun b u q _ _ _ => ⟨u.slots, k b u q⟩
 free := fun b u q n _ => by rw [upd_ne (Nat.ne_of_lt (Nat.lt_of_lt_of_le (Heap.lt_size q) hp))]; exact n
 there := fun b u q _ => ⟨u, k b u q⟩
 tups := fun b xs q => by rw [upd_ne (ne_of_none q hn)]; exact q
 frzs := fun b u xs q => by rw [upd_ne (ne_of_none q hn)]; exact q
 tbls := fun b ps q => ⟨#[], by rw [upd_ne (ne_of_none q hn), q]; simp⟩
theorem Un.write (mu : Mut (H x)) (he : e = x \/ H e = some (.own x)) (k : ∀ b u, b ≠ e -> h.get? b = some u -> h'.get? b = some u) (heo : ∃ u, h'.get? e = some u) : Un fs ex H (upd H x o) h h' := by
 have hx : ∀ b, H b = none -> b ≠ x := fun b n z => by subst z; rw [n] at mu; exact mu
 have hb : ∀ b, H b = none -> b ≠ e := fun b n z => by
  subst z
  rcases he with r | r
  ·exact hx b n r
  ·rw [n] at r; cases r
 have hm : ∀ b u, H b = some u -> ¬ Mut (some u) -> b ≠ x := fun b u q nm z => by subst z; rw [q] at mu; exact nm mu
 refine ⟨fun b u q n _ _ => k b u (hb b n) q, fun b u q n _ _ => ⟨u.slots, k b u (hb b n) q⟩, fun b u q n _ => by rw [upd_ne (hx b n)]; exact n, fun b u q _ => ?_,
  fun b xs q => by rw [upd_ne (hm b _ q fun z => z)]; exact q, fun b u xs q => by rw [upd_ne (hm b _ q fun z => z)]; exact q, fun b ps q => ⟨#[], by rw [upd_ne (hm b _ q fun z => z), q]; simp⟩⟩
 by_cases hbe : b = e
 ·subst hbe; exact heo
 ·exact ⟨u, k b u hbe q⟩
end
def trk (h : Heap) (H : Hp) : List Addr := (List.range h.objs.size).filter fun a => (H a).isSome
def hidT (h : Heap) (H : Hp) : Heap := PySem.W.hideAll h (trk h H)
theorem hidT_size (h : Heap) (H : Hp) : (hidT h H).objs.size = h.objs.size := PySem.W.hideAll_size _ _
theorem hidT_get {h : Heap} {H : Hp} {b : Addr} {o : Obj} (e : h.get? b = some o) (n : H b = none) : (hidT h H).get? b = some o :=
 PySem.W.hideAll_get _ e fun hm => by
  have q : (H b).isSome = true := (List.mem_filter.mp hm).2
  rw [n] at q; simp at q
theorem of_hidT {h : Heap} {H : Hp} {b : Addr} {o : Obj} (e : (hidT h H).get? b = some o) : h.get? b = some o /\ H b = none := by
 have e' : h.get? b = some o := PySem.W.of_hideAll (trk h H) e
 refine ⟨e', ?_⟩
 cases q : H b with
 | none => rfl
 | some x =>
  have hm : b ∈ trk h H := List.mem_filter.mpr ⟨List.mem_range.mpr (Heap.lt_size e'), by simp [q]⟩
  have z : (hidT h H).get? b = none := PySem.W.hideAll_none (trk h H) hm
  rw [z] at e; cases e
def allNews (g h : Heap) (L : Addr) : List (Addr × Obj) := (List.range h.objs.size).filterMap fun a => if a = L \/ (g.get? a).isSome = true then none else (h.get? a).map fun o => (a, o)
def rest (g h : Heap) (L d : Addr) : List (Addr × Obj) := (allNews g h L).filter fun p => decide (p.1 ≠ d)
structure Mod (K : PySem.W.Frag) (mg : Str -> Option Value) (base : Heap) : Prop where
 kin : K.In base
 glob : base.Ns mainGlobals mg
 blt : ∃ mb, base.Ns builtinsNs mb /\ ∀ x : Str, x ≠ "__name__" -> mb x = bootBuiltins x
 nolimit : base.NoLimit
structure Cx where
 prog : Program
 w : World
 K : PySem.W.Frag
 mg : Str -> Option Value
 base : Heap
 A : Around
 N : List Str
 s₀ : Shared
 H₀ : Hp
 env : Env
 outer : List Env
 stack : List Env
 ex : List Addr
 fn : Str -> Bool
 calm : Bool
 pn : List (Addr × Obj)
 xe : Value -> Shared -> Prop
def frs (l : List Env) : List Addr := l.filterMap (·.frame)
abbrev Cx.fs (X : Cx) : List Addr := frs X.outer
def Vis (sc : Scope) (x : Str) : Prop := sc.names.lookup x = some .local \/ sc.names.lookup x = some .cell \/ sc.names.lookup x = some .free
def Loc (sc : Scope) (x : Str) : Prop := sc.names.lookup x = some .local \/ sc.names.lookup x = some .cell
def Look (env : Env) (h : Heap) (m : Str -> Option Value) (x : Str) (u : Value) : Prop :=
 (env.kindOf x = some .local /\ m x = some u) \/ ((env.kindOf x = some .cell \/ env.kindOf x = some .free) /\ ∃ c, env.cells.lookup x = some c /\ h.IsCell c (some u))
structure Cx.Ok (X : Cx) : Prop where
 mod : Mod X.K X.mg X.base
 kind : X.env.scope.kind = .function
 glob : X.env.globals = mainGlobals
 blt : X.env.builtins = builtinsNs
 above : X.s₀.heap.objs.size <= X.env.locals
 inj : ∀ x y c, X.env.cells.lookup x = some c -> X.env.cells.lookup y = some c -> x = y
 has : ∀ x, (X.env.kindOf x = some .cell \/ X.env.kindOf x = some .free) -> ∃ c, X.env.cells.lookup x = some c
 cab : ∀ x c, X.fn x = true -> X.env.cells.lookup x = some c -> X.s₀.heap.objs.size <= c
 hd : X.calm = true -> X.A.handled = none
 frames : X.A.frames = some X.stack
 stk : X.stack = X.outer \/ (X.stack = X.env :: X.outer /\ X.env.frame = some X.env.locals)
 exf : ∀ b ∈ X.ex, b ≠ X.env.locals /\ ∀ x c, X.env.cells.lookup x = some c -> c ≠ b
 bs : ∀ b o, X.base.get? b = some o -> X.s₀.heap.get? b = some o /\ X.H₀ b = none
 bsz : X.base.objs.size <= X.s₀.heap.objs.size
 noex : ∀ b o, X.base.get? b = some o -> b ∉ X.ex
 exfs : ∀ b ∈ X.ex, b ∉ X.fs
 funs : X.s₀.heap.FunFrames X.base X.outer
 frf : ∀ b ∈ X.fs, X.H₀ b = none
structure Inv (X : Cx) (pins : List (Addr × Obj)) (σ : List (Option V)) (H : Hp) (s : Shared) : Prop where
 ok : X.Ok
 os : s.os = X.s₀.os
 bare : AllBare s.gens
 base : Un X.fs X.ex X.H₀ H X.s₀.heap s.heap
 loc : ∃ m, s.heap.Ns X.env.locals m /\ ∀ (i : Nat) (x : Str) (v : V), X.N[i]? = some x -> σ[i]? = some (some v) -> Vis X.env.scope x -> ∃ u, RelV v u /\ Look X.env s.heap m x u
 cell : ∀ x c, X.env.cells.lookup x = some c -> ∃ v, s.heap.IsCell c v
 free : H X.env.locals = none
 freeC : ∀ x c, X.env.cells.lookup x = some c -> H c = none
 pin : ∀ p ∈ X.pn ++ pins, s.heap.get? p.1 = some p.2 /\ H p.1 = none /\ p.1 ≠ X.env.locals /\ p.1 ∉ X.fs /\ ∀ v, p.2.data ≠ .cell v
 hok : HOk X.prog X.w H s.heap
 len : σ.length = X.N.length
section
variable {X : Cx} {pins : List (Addr × Obj)} {σ : List (Option V)} {H H' : Hp} {s : Shared} {h' : Heap}
theorem Cx.Ok.nofr (ok : X.Ok) {b : Addr} {o : Obj} (e : X.base.get? b = some o) : b ∉ X.fs := fun hb => by
 have := (ok.funs.mem hb).1
 rw [e] at this; cases this
theorem Inv.bs (I : Inv X pins σ H s) : ∀ b o, X.base.get? b = some o -> s.heap.get? b = some o /\ H b = none := fun b o e =>
 ⟨I.base.keep b o (I.ok.bs b o e).1 (I.ok.bs b o e).2 (I.ok.nofr e) (I.ok.noex b o e), I.base.free b o (I.ok.bs b o e).1 (I.ok.bs b o e).2 (I.ok.noex b o e)⟩
theorem Inv.bk (I : Inv X pins σ H s) : ∀ b o, X.base.get? b = some o -> s.heap.get? b = some o := fun b o e => (I.bs b o e).1
theorem Inv.mod (I : Inv X pins σ H s) : Mod X.K X.mg X.base := I.ok.mod
theorem Inv.kIn (I : Inv X pins σ H s) : X.K.In s.heap := I.ok.mod.kin.keeps I.bk
theorem Inv.lt (I : Inv X pins σ H s) : X.env.locals < s.heap.objs.size := let ⟨_, hn, _⟩ := I.loc; hn.lt
theorem Inv.sz (I : Inv X pins σ H s) : X.s₀.heap.objs.size <= s.heap.objs.size := Nat.le_trans I.ok.above (Nat.le_of_lt I.lt)
theorem Inv.nofs (I : Inv X pins σ H s) {a : Addr} (h : s.heap.objs.size <= a) : a ∉ X.fs := fun hb => by
 obtain ⟨_, o, ho, _⟩ := I.ok.funs.mem hb
 exact absurd (Nat.lt_of_lt_of_le (Heap.lt_size ho) (Nat.le_trans I.sz h)) (Nat.lt_irrefl _)
theorem Inv.cne (I : Inv X pins σ H s) : ∀ x c, X.env.cells.lookup x = some c -> c ≠ X.env.locals := fun x c e z => by
 obtain ⟨v, o, ho, hd⟩ := I.cell x c e
 obtain ⟨m, ⟨o', es, ep, ho', hd', _⟩, _⟩ := I.loc
 rw [z, ho'] at ho; cases ho; rw [hd'] at hd; cases hd
theorem Inv.funs (I : Inv X pins σ H s) : s.heap.FunFrames X.base X.outer := by
 have all : ∀ (l : List Env), (∀ b ∈ frs l, b ∈ X.fs) -> X.s₀.heap.FunFrames X.base l -> s.heap.FunFrames X.base l := by
  intro l
  induction l with
  | nil => intro _ _; trivial
  | cons env r ih =>
   intro hs hl
   obtain ⟨hk, ⟨L, o, hf, hn, ho, hd⟩, hr⟩ := hl
   have hL : L ∈ X.fs := hs L (by unfold frs; rw [List.filterMap_cons, hf]; exact List.mem_cons_self)
   obtain ⟨sl, e⟩ := I.base.slot L o ho (I.ok.frf L hL) hL fun z => I.ok.exfs L z hL
   exact ⟨hk, ⟨L, _, hf, hn, e, hd⟩, ih (fun b hb => hs b (by unfold frs; rw [List.filterMap_cons, hf]; exact List.mem_cons_of_mem _ hb)) hr⟩
 exact all X.outer (fun _ hb => hb) I.ok.funs
theorem Inv.stack (I : Inv X pins σ H s) : s.heap.FunFrames X.base X.stack := by
 rcases I.ok.stk with e | ⟨e, hf⟩
 ·rw [e]; exact I.funs
 ·rw [e]
  obtain ⟨m, hn, _⟩ := I.loc
  refine .cons (by rw [I.ok.kind]; decide) hf hn ?_ I.funs
  exact Heap.get?_none_of_le (Nat.le_trans I.ok.bsz I.ok.above)
theorem Inv.stkSub (I : Inv X pins σ H s) : ∀ b ∈ frs X.stack, b ∈ X.env.locals :: X.fs := fun b hb => by
 rcases I.ok.stk with e | ⟨e, hf⟩
 ·rw [e] at hb; exact List.mem_cons_of_mem _ hb
 ·rw [e] at hb
  unfold frs at hb
  rw [List.filterMap_cons, hf] at hb
  exact hb
theorem Inv.stkFree (I : Inv X pins σ H s) : ∀ b ∈ frs X.stack, H b = none := fun b hb => by
 rcases List.mem_cons.mp (I.stkSub b hb) with e | hb
 ·rw [e]; exact I.free
 ·obtain ⟨_, o, ho, _⟩ := I.ok.funs.mem hb
  exact I.base.free b o ho (I.ok.frf b hb) fun z => I.ok.exfs b z hb
theorem Inv.step {g' : Array GenState} {t' : Nat} {d' : Drawn} {ch : List Addr} (I : Inv X pins σ H s)
 (hch : ∀ b ∈ ch, (b ∈ X.ex \/ X.s₀.heap.objs.size <= b) /\ b ≠ X.env.locals /\ (∀ x c, X.env.cells.lookup x = some c -> c ≠ b) /\ ∀ p ∈ X.pn ++ pins, p.1 ≠ b)
 (keep : ∀ b o, b ≠ X.env.locals -> b ∉ X.fs -> b ∉ ch -> s.heap.get? b = some o -> H b = none -> h'.get? b = some o)
 (slot : ∀ b o, b ≠ X.env.locals -> b ∈ X.fs -> b ∉ ch -> s.heap.get? b = some o -> H b = none -> ∃ sl, h'.get? b = some { o with slots := sl }) (free : ∀ b o, b ∉ ch -> s.heap.get? b = some o -> H b = none -> H' b = none)
 (there : ∀ b o, b ∉ ch -> s.heap.get? b = some o -> ∃ o', h'.get? b = some o')
 (tups : ∀ b xs, H b = some (.tup xs) -> H' b = some (.tup xs)) (frzs : ∀ b o u, H b = some (.frz o u) -> H' b = some (.frz o u)) (tbls : ∀ b ps, H b = some (.tbl ps) -> ∃ more, H' b = some (.tbl (ps ++ more)))
 (ns : ∀ m, s.heap.Ns X.env.locals m -> h'.Ns X.env.locals m) (hok : HOk X.prog X.w H' h') (hg : AllBare g') :
 Inv X pins σ H' { s with heap := h', gens := g', drawn := d', toks := t' } := by
 have neL : ∀ b o, X.s₀.heap.get? b = some o -> b ≠ X.env.locals := fun b o e => Nat.ne_of_lt (Nat.lt_of_lt_of_le (Heap.lt_size e) I.ok.above)
 have neC : ∀ b o, X.s₀.heap.get? b = some o -> b ∉ X.ex -> b ∉ ch := fun b o e hx hb => by
  rcases (hch b hb).1 with z | z
  ·exact hx z
  ·exact absurd (Nat.lt_of_lt_of_le (Heap.lt_size e) z) (Nat.lt_irrefl _)
 have cellK : ∀ x c, X.env.cells.lookup x = some c -> ∀ v, s.heap.IsCell c v -> h'.IsCell c v := fun x c e v ⟨o, ho, hd⟩ => by
  have nch : c ∉ ch := fun z => (hch c z).2.2.1 x c e rfl
  by_cases hc : c ∈ X.fs
  ·obtain ⟨sl, q⟩ := slot c o (I.cne x c e) hc nch ho (I.freeC x c e)
   exact ⟨_, q, hd⟩
  ·exact ⟨o, keep c o (I.cne x c e) hc nch ho (I.freeC x c e), hd⟩
 refine ⟨I.ok, I.os, hg, ⟨fun b o e n hb hx => ?_, fun b o e n hb hx => ?_, fun b o e n hx => ?_, fun b o e hx => ?_, fun b xs e => tups b xs (I.base.tups b xs e), fun b o xs e => frzs b o xs (I.base.frzs b o xs e), fun b ps e => ?_⟩, ?_, fun x c e => ?_, ?_, fun x c e => ?_, fun p hp => ?_, hok, I.len⟩
 ·exact keep b o (neL b o e) hb (neC b o e hx) (I.base.keep b o e n hb hx) (I.base.free b o e n hx)
 ·obtain ⟨sl, e1⟩ := I.base.slot b o e n hb hx
  obtain ⟨sl', e2⟩ := slot b _ (neL b o e) hb (neC b o e hx) e1 (I.base.free b o e n hx)
  exact ⟨sl', e2⟩
 ·obtain ⟨o', e1⟩ := I.base.there b o e hx
  exact free b o' (neC b o e hx) e1 (I.base.free b o e n hx)
 ·obtain ⟨o', e1⟩ := I.base.there b o e hx
  exact there b o' (neC b o e hx) e1
 ·obtain ⟨m1, e1⟩ := I.base.tbls b ps e
  obtain ⟨m2, e2⟩ := tbls b _ e1
  exact ⟨m1 ++ m2, by rw [e2, Array.append_assoc]⟩
 ·obtain ⟨m, hn, hl⟩ := I.loc
  refine ⟨m, ns m hn, fun i x v e1 e2 e3 => ?_⟩
  obtain ⟨u, r, l⟩ := hl i x v e1 e2 e3
  refine ⟨u, r, ?_⟩
  rcases l with l | ⟨k, c, e, z⟩
  ·exact .inl l
  ·exact .inr ⟨k, c, e, cellK x c e _ z⟩
 ·obtain ⟨v, z⟩ := I.cell x c e
  exact ⟨v, cellK x c e v z⟩
 ·obtain ⟨m, ⟨o, _, _, ho, _⟩, _⟩ := I.loc
  exact free _ o (fun z => (hch _ z).2.1 rfl) ho I.free
 ·obtain ⟨v, o, ho, hd⟩ := I.cell x c e
  exact free c o (fun z => (hch c z).2.2.1 x c e rfl) ho (I.freeC x c e)
 ·obtain ⟨e, n, ne, nf, d⟩ := I.pin p hp
  have nch : p.1 ∉ ch := fun z => (hch p.1 z).2.2.2 p hp rfl
  exact ⟨keep p.1 p.2 ne nf nch e n, free p.1 p.2 nch e n, ne, nf, d⟩
theorem Inv.un {t' : Nat} (I : Inv X pins σ H s) (u : Un X.fs [] H H' s.heap h') (hok : HOk X.prog X.w H' h') : Inv X pins σ H' { s with heap := h', toks := t' } := by
 obtain ⟨m, ⟨o, es, ep, ho, r⟩, _⟩ := id I.loc
 obtain ⟨sl, hL⟩ := u.any ho I.free (by simp)
 exact I.step (g' := s.gens) (d' := s.drawn) (ch := []) (fun _ z => nomatch z) (fun b o _ hb _ e n => u.keep b o e n hb (by simp)) (fun b o _ hb _ e n => u.slot b o e n hb (by simp)) (fun b o _ e n => u.free b o e n (by simp)) (fun b o _ e => u.there b o e (by simp)) u.tups u.frzs u.tbls (fun m' hm => by
  obtain ⟨o', es', ep', ho', r'⟩ := hm
  rw [ho] at ho'; cases ho'
  exact ⟨_, es', ep', hL, r'⟩) hok I.bare
theorem Inv.call {g' : Array GenState} {t' : Nat} {d' : Drawn} {ch : List Addr} (I : Inv X pins σ H s) (u : Un (frs X.stack) ch H H' s.heap h') (hok : HOk X.prog X.w H' h') (hg : AllBare g')
 (hch : ∀ b ∈ ch, (b ∈ X.ex \/ X.s₀.heap.objs.size <= b) /\ b ≠ X.env.locals /\ (∀ x c, X.env.cells.lookup x = some c -> c ≠ b) /\ ∀ p ∈ X.pn ++ pins, p.1 ≠ b) :
 Inv X pins σ H' { s with heap := h', gens := g', drawn := d', toks := t' } := by
 obtain ⟨m, ⟨o, es, ep, ho, r⟩, _⟩ := id I.loc
 obtain ⟨sl, hL⟩ := u.any ho I.free fun z => (hch _ z).2.1 rfl
 exact I.step (ch := ch) hch (fun b o hL hb hc e n => u.keep b o e n (fun z => (List.mem_cons.mp (I.stkSub b z)).elim hL hb) hc) (fun b o _ _ hc e n => u.any e n hc) (fun b o hc e n => u.free b o e n hc) (fun b o hc e => u.there b o e hc) u.tups u.frzs u.tbls (fun m' hm => by
  obtain ⟨o', es', ep', ho', r'⟩ := hm
  rw [ho] at ho'; cases ho'
  exact ⟨_, es', ep', hL, r'⟩) hok hg
theorem Inv.turned {t' : Nat} {it : Addr} (I : Inv X pins σ H s) (k : ∀ b o, b ≠ it -> s.heap.get? b = some o -> h'.get? b = some o) (hn : H it = none) (hL : it ≠ X.env.locals)
 (h1 : it ∈ X.ex \/ X.s₀.heap.objs.size <= it) (h2 : ∀ x c, X.env.cells.lookup x = some c -> c ≠ it) (h3 : ∀ p ∈ X.pn ++ pins, p.1 ≠ it) : Inv X pins σ H { s with heap := h', toks := t' } := by
 have nit : ∀ b u, H b = some u -> b ≠ it := fun b u e z => by rw [z, hn] at e; cases e
 refine I.step (g' := s.gens) (d' := s.drawn) (ch := [it]) (fun b hb => ?_) (fun b o _ _ hc e _ => k b o (fun z => hc (by simp [z])) e) (fun b o _ _ hc e _ => ⟨o.slots, k b o (fun z => hc (by simp [z])) e⟩) (fun _ _ _ _ n => n)
  (fun b o hc e => ⟨o, k b o (fun z => hc (by simp [z])) e⟩) (fun _ _ e => e) (fun _ _ _ e => e) (fun b ps e => ⟨#[], by rw [e]; simp⟩) (fun m hm => ?_) (fun b u e => ?_) I.bare
 ·have e : b = it := by simpa using hb
  subst e
  exact ⟨h1, hL, h2, h3⟩
 ·obtain ⟨o, es, ep, ho, r⟩ := hm
  exact ⟨o, es, ep, k _ o (Ne.symm hL) ho, r⟩
 ·refine (I.hok b u e).stay (fun c v hc q => k c v ?_ q) (fun _ q => q) fun _ _ q => q
  rcases hc with z | z
  ·rw [z]; exact nit b u e
  ·exact nit c _ z
theorem Inv.tok (I : Inv X pins σ H s) (t : Nat) : Inv X pins σ H { s with toks := t } := I.un (h' := s.heap) (t' := t) Un.refl I.hok
theorem Inv.kept {t' : Nat} (I : Inv X pins σ H s) (k : ∀ b u, s.heap.get? b = some u -> h'.get? b = some u) : Inv X pins σ H { s with heap := h', toks := t' } := I.un (Un.kept k) (I.hok.kept k)
theorem Inv.laid {a : Addr} {o : HO} {t' : Nat} (I : Inv X pins σ H s) (k : ∀ b u, s.heap.get? b = some u -> h'.get? b = some u) (hp : s.heap.objs.size <= a) (new : ObjOk X.prog X.w (upd H a o) h' a o) :
 Inv X pins σ (upd H a o) { s with heap := h', toks := t' } := I.un (Un.laid k hp (I.hok.fresh hp)) (I.hok.laid k hp new)
theorem Inv.write {x e : Addr} {o : HO} {t' : Nat} (I : Inv X pins σ H s) (mu : Mut (H x)) (he : e = x \/ H e = some (.own x)) (k : ∀ b u, b ≠ e -> s.heap.get? b = some u -> h'.get? b = some u) (heo : ∃ u, h'.get? e = some u)
 (new : ObjOk X.prog X.w (upd H x o) h' x o) : Inv X pins σ (upd H x o) { s with heap := h', toks := t' } := I.un (Un.write mu he k heo) (I.hok.write mu he k heo new)
theorem Inv.weak {σ' : List (Option V)} (I : Inv X pins σ H s) (hl : σ'.length = σ.length) (w : ∀ (i : Nat) v, σ'[i]? = some (some v) -> σ[i]? = some (some v)) : Inv X pins σ' H s :=
 ⟨I.ok, I.os, I.bare, I.base, let ⟨m, hn, hl'⟩ := I.loc; ⟨m, hn, fun i x v e1 e2 e3 => hl' i x v e1 (w i v e2) e3⟩, I.cell, I.free, I.freeC, I.pin, I.hok, hl.trans I.len⟩
theorem Inv.pins_of {pins' : List (Addr × Obj)} (I : Inv X pins σ H s) (h : ∀ p ∈ pins', s.heap.get? p.1 = some p.2 /\ H p.1 = none /\ p.1 ≠ X.env.locals /\ p.1 ∉ X.fs /\ ∀ v, p.2.data ≠ .cell v) : Inv X pins' σ H s :=
 ⟨I.ok, I.os, I.bare, I.base, I.loc, I.cell, I.free, I.freeC, fun p hp => (List.mem_append.mp hp).elim (fun z => I.pin p (List.mem_append_left _ z)) (h p), I.hok, I.len⟩
theorem nodup_ix {N : List Str} (hN : N.Nodup) {i j : Nat} {x : Str} (a : N[i]? = some x) (b : N[j]? = some x) : i = j := by
 obtain ⟨h1, e1⟩ := List.getElem?_eq_some_iff.mp a
 obtain ⟨h2, e2⟩ := List.getElem?_eq_some_iff.mp b
 exact (List.getElem_inj hN).mp (e1.trans e2.symm)
theorem store_ok2 {M : Model} {A : Around} {E : Value -> Shared -> Prop} {i : Nat} {x : Str} {v : V} {u : Value} {Q : Unit -> Shared -> Prop} (I : Inv X pins σ H s) (hN : X.N.Nodup) (hi : X.N[i]? = some x) (hx : Loc X.env.scope x) (r : RelV v u)
 (h : ∀ s', Inv X pins (σ.set i (some v)) H s' -> (∃ a, Heap.SameBut a s.heap s'.heap /\ (a = X.env.locals \/ X.env.cells.lookup x = some a)) -> Q () s') (hf : X.fn x = true \/ X.env.scope.names.lookup x = some .local := by first | exact .inl rfl | exact .inr rfl | assumption) : wpAny M A (storeName X.env x u) Q E s := by
 obtain ⟨m, hn, hl⟩ := id I.loc
 have hcls : (X.env.scope.kind == .class || (X.env.scope.kind == .module && X.env.locals != X.env.globals)) = false := by rw [I.ok.kind]; rfl
 have hiσ : i < σ.length := by rw [I.len]; exact (List.getElem?_eq_some_iff.mp hi).1
 have cne := I.cne
 have tracked : ∀ {a : Addr} {h' : Heap}, (∃ o, s.heap.get? a = some o /\ H a = none) -> Heap.SameBut a s.heap h' -> HOk X.prog X.w H h' := fun {a h'} ha hs b ob e => by
  obtain ⟨_, _, hfree⟩ := ha
  refine (I.hok b ob e).stay (fun c w' hc q => (hs.2 c ?_).trans q) (fun _ q => q) fun _ _ q => q
  rintro rfl
  rcases hc with rfl | hc
  ·rw [hfree] at e; cases e
  ·rw [hfree] at hc; cases hc
 rcases hx with hk | hk
 ·refine wpAny_storeName_local hk hn (fun h' hn' hs => ?_) hcls
  obtain ⟨oL, _, _, hoL, _⟩ := id hn
  refine h _ ⟨I.ok, I.os, I.bare, ⟨fun b o e n hb hx => ?_, fun b o e n hb hx => ?_, I.base.free, fun b o e hx => ?_, I.base.tups, I.base.frzs, I.base.tbls⟩, ⟨_, hn', fun j y v' e1 e2 e3 => ?_⟩, fun y c e => ?_, I.free, I.freeC, fun p hp => ?_, tracked ⟨oL, hoL, I.free⟩ hs, by simpa using I.len⟩ ⟨_, hs, .inl rfl⟩
  ·exact (hs.2 b (Nat.ne_of_lt (Nat.lt_of_lt_of_le (Heap.lt_size e) I.ok.above))).trans (I.base.keep b o e n hb hx)
  ·obtain ⟨sl, e1⟩ := I.base.slot b o e n hb hx
   exact ⟨sl, (hs.2 b (Nat.ne_of_lt (Nat.lt_of_lt_of_le (Heap.lt_size e) I.ok.above))).trans e1⟩
  ·obtain ⟨o', e1⟩ := I.base.there b o e hx
   exact ⟨o', (hs.2 b (Nat.ne_of_lt (Nat.lt_of_lt_of_le (Heap.lt_size e) I.ok.above))).trans e1⟩
  ·by_cases hj : j = i
   ·subst hj
    rw [hi] at e1; cases e1
    rw [List.getElem?_set_self hiσ] at e2
    cases e2
    exact ⟨u, r, .inl ⟨hk, by simp⟩⟩
   ·rw [List.getElem?_set_ne (Ne.symm hj)] at e2
    obtain ⟨u', r', q⟩ := hl j y v' e1 e2 e3
    refine ⟨u', r', ?_⟩
    rcases q with ⟨k, e⟩ | ⟨k, c, e, z⟩
    ·refine .inl ⟨k, ?_⟩
     have : y ≠ x := fun e => hj (nodup_ix hN e1 (e ▸ hi))
     simp [this, e]
    ·exact .inr ⟨k, c, e, z.sameBut hs (cne y c e)⟩
  ·obtain ⟨w', z⟩ := I.cell y c e
   exact ⟨w', z.sameBut hs (cne y c e)⟩
  ·obtain ⟨e, n, ne, nf, d⟩ := I.pin p hp
   exact ⟨(hs.2 p.1 ne).trans e, n, ne, nf, d⟩
 ·have hfn : X.fn x = true := by
   rcases hf with z | z
   ·exact z
   ·rw [z] at hk; cases hk
  obtain ⟨c, hc⟩ := I.ok.has x (.inl hk)
  obtain ⟨w', z⟩ := I.cell x c hc
  refine wpAny_storeName_cell I.ok.kind hk hc z (fun h' hc' hs => ?_)
  obtain ⟨oc, hoc, hocd⟩ := id z
  refine h { s with heap := h' } ⟨I.ok, I.os, I.bare, ⟨fun b o e n hb hx => ?_, fun b o e n hb hx => ?_, I.base.free, fun b o e hx => ?_, I.base.tups, I.base.frzs, I.base.tbls⟩, ⟨m, hn.sameBut hs (Ne.symm (cne x c hc)), fun j y v' e1 e2 e3 => ?_⟩, fun y c' e => ?_, I.free, I.freeC, fun p hp => ?_, tracked ⟨oc, hoc, I.freeC x c hc⟩ hs, by simpa using I.len⟩ ⟨c, hs, .inr hc⟩
  ·exact (hs.2 b (Nat.ne_of_lt (Nat.lt_of_lt_of_le (Heap.lt_size e) (I.ok.cab x c hfn hc)))).trans (I.base.keep b o e n hb hx)
  ·obtain ⟨sl, e1⟩ := I.base.slot b o e n hb hx
   exact ⟨sl, (hs.2 b (Nat.ne_of_lt (Nat.lt_of_lt_of_le (Heap.lt_size e) (I.ok.cab x c hfn hc)))).trans e1⟩
  ·obtain ⟨o', e1⟩ := I.base.there b o e hx
   exact ⟨o', (hs.2 b (Nat.ne_of_lt (Nat.lt_of_lt_of_le (Heap.lt_size e) (I.ok.cab x c hfn hc)))).trans e1⟩
  ·by_cases hj : j = i
   ·subst hj
    rw [hi] at e1; cases e1
    rw [List.getElem?_set_self hiσ] at e2
    cases e2
    exact ⟨u, r, .inr ⟨.inl hk, c, hc, hc'⟩⟩
   ·rw [List.getElem?_set_ne (Ne.symm hj)] at e2
    obtain ⟨u', r', q⟩ := hl j y v' e1 e2 e3
    refine ⟨u', r', ?_⟩
    rcases q with q | ⟨k, c', e, z'⟩
    ·exact .inl q
    ·refine .inr ⟨k, c', e, z'.sameBut hs ?_⟩
     rintro rfl
     exact hj (nodup_ix hN e1 (I.ok.inj _ _ _ e hc ▸ hi))
  ·by_cases hcc : c' = c
   ·subst hcc; exact ⟨_, hc'⟩
   ·obtain ⟨w2, z2⟩ := I.cell y c' e
    exact ⟨w2, z2.sameBut hs hcc⟩
  ·obtain ⟨e, n, ne, nf, d⟩ := I.pin p hp
   refine ⟨(hs.2 p.1 ?_).trans e, n, ne, nf, d⟩
   intro q
   rw [q, hoc] at e
   have q' : oc = p.2 := Option.some.inj e
   exact d w' (by rw [<- q']; exact hocd)
theorem store_ok {M : Model} {A : Around} {E : Value -> Shared -> Prop} {i : Nat} {x : Str} {v : V} {u : Value} {Q : Unit -> Shared -> Prop} (I : Inv X pins σ H s) (hN : X.N.Nodup) (hi : X.N[i]? = some x) (hx : Loc X.env.scope x) (r : RelV v u)
 (h : ∀ s', Inv X pins (σ.set i (some v)) H s' -> Q () s') (hf : X.fn x = true \/ X.env.scope.names.lookup x = some .local := by first | exact .inl rfl | exact .inr rfl | assumption) : wpAny M A (storeName X.env x u) Q E s :=
 store_ok2 I hN hi hx r (fun s' I' _ => h s' I') hf
theorem Inv.call' {s' : Shared} {ch : List Addr} (I : Inv X pins σ H s) (ho : s'.os = s.os) (u : Un (frs X.stack) ch H H' s.heap s'.heap) (hok : HOk X.prog X.w H' s'.heap) (hg : AllBare s'.gens)
 (hch : ∀ b ∈ ch, (b ∈ X.ex \/ X.s₀.heap.objs.size <= b) /\ b ≠ X.env.locals /\ (∀ x c, X.env.cells.lookup x = some c -> c ≠ b) /\ ∀ p ∈ X.pn ++ pins, p.1 ≠ b) : Inv X pins σ H' s' := by
 obtain ⟨h', g', d', t', o'⟩ := s'
 have e : o' = s.os := ho
 subst e
 exact I.call (g' := g') (t' := t') (d' := d') u hok hg hch
end
abbrev XK := Value -> Option Addr -> Hp -> Prop
abbrev St := List (Option V)
abbrev VK := V -> Hp -> Prop
abbrev TE := St -> Hp -> VK -> Prop
abbrev TT := St -> Hp -> (Bool -> Hp -> Prop) -> Prop
abbrev TA := St -> Hp -> (List V -> Hp -> Prop) -> Prop
structure Ends where
 nx : St -> Hp -> Prop
 rt : VK
 bk : St -> Hp -> Prop := fun _ _ => False
 ct : St -> Hp -> Prop := fun _ _ => False
abbrev TS := Ends -> St -> Hp -> Prop
def EP (X : Cx) (pins : List (Addr × Obj)) (σ : St) (Q : VK) (u : Value) (s' : Shared) : Prop := ∃ v H', Inv X pins σ H' s' /\ RelV v u /\ Q v H'
def TP (X : Cx) (pins : List (Addr × Obj)) (σ : St) (Q : Bool -> Hp -> Prop) (b : Bool) (s' : Shared) : Prop := ∃ H', Inv X pins σ H' s' /\ Q b H'
def AP (X : Cx) (pins : List (Addr × Obj)) (σ : St) (Q : List V -> Hp -> Prop) (us : List Value) (s' : Shared) : Prop := ∃ vs H', Inv X pins σ H' s' /\ Vals vs us /\ Q vs H'
def SP (X : Cx) (pins : List (Addr × Obj)) (D : Ends) (f : Flow) (s' : Shared) : Prop :=
 match f with
 | .next => ∃ σ' H', Inv X pins σ' H' s' /\ D.nx σ' H'
 | .brk => ∃ σ' H', Inv X pins σ' H' s' /\ D.bk σ' H'
 | .cont => ∃ σ' H', Inv X pins σ' H' s' /\ D.ct σ' H'
 | .ret u => ∃ v σ' H', Inv X pins σ' H' s' /\ RelV v u /\ D.rt v H'
def PE (X : Cx) (e : Expr) (t : TE) : Prop :=
 ∀ (pins : List (Addr × Obj)) (s : Shared) (σ : St) (H : Hp) (Q : VK), Inv X pins σ H s -> t σ H Q -> wpAny (model X.prog X.w) X.A (eval e X.env) (EP X pins σ Q) X.xe s
def PT (X : Cx) (e : Expr) (t : TT) : Prop :=
 ∀ (pins : List (Addr × Obj)) (s : Shared) (σ : St) (H : Hp) (Q : Bool -> Hp -> Prop), Inv X pins σ H s -> t σ H Q -> wpAny (model X.prog X.w) X.A (isTrue e X.env (eval e X.env)) (TP X pins σ Q) X.xe s
def PW (X : Cx) (e : Expr) (t : TT) : Prop :=
 ∀ (whole : Sem Value) (pins : List (Addr × Obj)) (s : Shared) (σ : St) (H : Hp) (Q : Bool -> Hp -> Prop), Inv X pins σ H s -> t σ H Q -> wpAny (model X.prog X.w) X.A (isTrue e X.env whole) (TP X pins σ Q) X.xe s
theorem PW.pt {X : Cx} {e : Expr} {t : TT} (h : PW X e t) : PT X e t := h _
def PA (X : Cx) (es : List Expr) (t : TA) : Prop :=
 ∀ (pos : Pos) (pins : List (Addr × Obj)) (s : Shared) (σ : St) (H : Hp) (Q : List V -> Hp -> Prop), Inv X pins σ H s -> t σ H Q -> wpAny (model X.prog X.w) X.A (spliced (backTo pos (starEach es X.env))) (AP X pins σ Q) X.xe s
def PS (X : Cx) (st : Stmt) (t : TS) : Prop :=
 ∀ (pins : List (Addr × Obj)) (s : Shared) (σ : St) (H : Hp) (D : Ends), Inv X pins σ H s -> t D σ H -> wpAny (model X.prog X.w) X.A (exec st X.env) (SP X pins D) X.xe s
def PSs (X : Cx) (st : List Stmt) (t : TS) : Prop :=
 ∀ (pins : List (Addr × Obj)) (s : Shared) (σ : St) (H : Hp) (D : Ends), Inv X pins σ H s -> t D σ H -> wpAny (model X.prog X.w) X.A (execs st X.env) (SP X pins D) X.xe s
theorem thn {α : Type} {t : Sem α} {Q Q' : α -> Shared -> Prop} {M : Model} {A : Around} {E : Value -> Shared -> Prop} {s : Shared} (h : wpAny M A t Q E s) (hQ : ∀ a s, Q a s -> Q' a s) : wpAny M A t Q' E s := wpAny_mono h hQ fun _ _ x => x
section
variable {X : Cx}
def tVar (i : Nat) : TE := fun σ H Q => ∃ v, σ[i]? = some (some v) /\ Q v H
def tC (v : V) : TE := fun _ H Q => Q v H
theorem pe_var {i : Nat} {x : Str} {pos : Pos} (hN : X.N[i]? = some x) (hv : Vis X.env.scope x) (hd : (x == ("__debug__" : Str)) = false := by decide) (hcd : (x == ("__classdict__" : Str)) = false := by decide) : PE X (.Name x pos) (tVar i) := by
 intro pins s σ H Q I h
 obtain ⟨v, e, h⟩ := h
 obtain ⟨m, hn, hl⟩ := I.loc
 obtain ⟨u, r, l⟩ := hl i x v hN e hv
 have fin : EP X pins σ Q u s := ⟨v, H, I, r, h⟩
 rcases l with ⟨hk, hm⟩ | ⟨hk, c, hc, hcell⟩
 ·exact wpAny_Name (wpAny_loadName_local I.ok.kind hk hn hm fin) hd
 ·rcases hk with hk | hk
  ·exact wpAny_Name (wpAny_loadName_cell I.ok.kind hk hc hcell fin) hd
  ·exact wpAny_Name (wpAny_loadName_free I.ok.kind hk hc hcell fin hcd) hd
theorem pe_int {i j pos} : PE X (.Constant (.int i) j pos) (tC (.int i)) := fun _ _ _ H _ I h => wpAny_Constant_int ⟨.int i, H, I.tok _, ⟨_, rfl⟩, h⟩
theorem pe_bl {b j pos} : PE X (.Constant (.bool b) j pos) (tC (.bl b)) := fun _ _ _ H _ I h => Constant_bool ⟨.bl b, H, I, rfl, h⟩
theorem pe_non {j pos} : PE X (.Constant .none j pos) (tC .non) := fun _ _ _ H _ I h => Constant_none ⟨.non, H, I, rfl, h⟩
theorem pe_str {x j pos} : PE X (.Constant (.str x) j pos) (tC (.str x)) := fun _ _ _ H _ I h => Calls.Constant_str ⟨.str x, H, I.tok _, ⟨_, rfl⟩, h⟩
def Gl (X : Cx) (x : Str) : Prop := X.env.kindOf x = some .globalImplicit
theorem ld_glob {E : Value -> Shared -> Prop} {pins : List (Addr × Obj)} {s : Shared} {σ : St} {H : Hp} {x : Str} {u : Value} {pos : Pos} {Q : Value -> Shared -> Prop} (I : Inv X pins σ H s) (hg : Gl X x) (hm : X.mg x = some u) (h : Q u s)
 (hd : (x == ("__debug__" : Str)) = false := by decide) : wpAny (model X.prog X.w) X.A (eval (.Name x pos) X.env) Q E s :=
 Calls.Name_function_global I.ok.kind hg (Calls.loadGlobal_global (by rw [I.ok.glob]; exact I.mod.glob.keeps I.bk) hm h) hd
theorem ld_blt {E : Value -> Shared -> Prop} {pins : List (Addr × Obj)} {s : Shared} {σ : St} {H : Hp} {x : Str} {u : Value} {pos : Pos} {Q : Value -> Shared -> Prop} (I : Inv X pins σ H s) (hg : Gl X x) (hm : X.mg x = none) (hv : bootBuiltins x = some u) (h : Q u s)
 (hn : x ≠ "__name__" := by decide) (hd : (x == ("__debug__" : Str)) = false := by decide) : wpAny (model X.prog X.w) X.A (eval (.Name x pos) X.env) Q E s := by
 obtain ⟨mb, h1, h2⟩ := I.mod.blt
 exact Calls.Name_function_global I.ok.kind hg (Calls.loadGlobal_builtin (by rw [I.ok.glob]; exact I.mod.glob.keeps I.bk) hm (by rw [I.ok.blt]; exact h1.keeps I.bk) ((h2 x hn).trans hv) h) hd
theorem pe_glob {x : Str} {v : V} {u : Value} {pos : Pos} (hg : Gl X x) (hm : X.mg x = some u) (r : RelV v u) (hd : (x == ("__debug__" : Str)) = false := by decide) : PE X (.Name x pos) (tC v) :=
 fun _ _ _ H _ I h => ld_glob I hg hm ⟨v, H, I, r, h⟩ hd
theorem pe_bltn {x : Str} {v : V} {u : Value} {pos : Pos} (hg : Gl X x) (hm : X.mg x = none) (hv : bootBuiltins x = some u) (r : RelV v u) (hn : x ≠ "__name__" := by decide) (hd : (x == ("__debug__" : Str)) = false := by decide) : PE X (.Name x pos) (tC v) :=
 fun _ _ _ H _ I h => ld_blt I hg hm hv ⟨v, H, I, r, h⟩ hn hd
variable {a b : Expr} {ta tb : TE} {pos : Pos}
theorem nobehind (b : Expr) {op : CmpOp} (h : op ≠ .In) (h2 : op ≠ .NotIn) : behindInMarks op b = false := by
 have e1 : (op == CmpOp.In) = false := by cases op <;> first | rfl | exact absurd rfl h
 have e2 : (op == CmpOp.NotIn) = false := by cases op <;> first | rfl | exact absurd rfl h2
 cases b <;> simp [behindInMarks, e1, e2]
variable {tA tB' : TT} {rest : List Expr}
def tAnd (t u : TT) : TT := fun σ H Q => t σ H fun c H1 => if c = true then u σ H1 Q else Q false H1
def tOr (t u : TT) : TT := fun σ H Q => t σ H fun c H1 => if c = true then Q true H1 else u σ H1 Q
def tNot (t : TT) : TT := fun σ H Q => t σ H fun c H1 => Q (!c) H1
theorem pw_and1 (ha : PT X a tA) : PW X (.BoolOp .And [a] pos) tA := by
 intro wh pins s σ H Q I h
 refine isTrue_and (thn (ha pins s σ H Q I h) fun c s1 e => ?_)
 cases c with
 | true => exact isTrue_and_nil e
 | false => exact e
theorem pw_or1 (ha : PT X a tA) : PW X (.BoolOp .Or [a] pos) tA := by
 intro wh pins s σ H Q I h
 refine isTrue_or (thn (ha pins s σ H Q I h) fun c s1 e => ?_)
 cases c with
 | false => exact isTrue_or_nil e
 | true => exact e
theorem pw_and (ha : PT X a tA) (hb : PW X (.BoolOp .And (b :: rest) pos) tB') : PW X (.BoolOp .And (a :: b :: rest) pos) (tAnd tA tB') := by
 intro wh pins s σ H Q I h
 refine isTrue_and (thn (ha pins s σ H _ I h) fun c s1 ⟨H1, I1, q1⟩ => ?_)
 cases c with
 | true => exact hb wh pins s1 σ H1 Q I1 q1
 | false => exact ⟨H1, I1, q1⟩
theorem pw_or (ha : PT X a tA) (hb : PW X (.BoolOp .Or (b :: rest) pos) tB') : PW X (.BoolOp .Or (a :: b :: rest) pos) (tOr tA tB') := by
 intro wh pins s σ H Q I h
 refine isTrue_or (thn (ha pins s σ H _ I h) fun c s1 ⟨H1, I1, q1⟩ => ?_)
 cases c with
 | true => exact ⟨H1, I1, q1⟩
 | false => exact hb wh pins s1 σ H1 Q I1 q1
theorem pt_not (ha : PT X a tA) : PT X (.UnaryOp .Not a pos) (tNot tA) := by
 intro pins s σ H Q I h
 exact isTrue_not (ha pins s σ H (fun c H1 => Q (!c) H1) I h)
def tAndV (ta tb : TE) : TE := fun σ H Q => ta σ H fun x H1 => ∃ c, x = .bl c /\ if c = true then tb σ H1 Q else Q (.bl false) H1
def tOrV (ta tb : TE) : TE := fun σ H Q => ta σ H fun x H1 => ∃ c, x = .bl c /\ if c = true then Q (.bl true) H1 else tb σ H1 Q
def tNotV (ta : TE) : TE := fun σ H Q => ta σ H fun x H1 => ∃ c, x = .bl c /\ Q (.bl (!c)) H1
theorem pe_one {op} {t : TE} (h : PE X a t) : PE X (.BoolOp op [a] pos) t := fun pins s σ H Q I hw => BoolOp_one (h pins s σ H Q I hw)
theorem pe_and (ha : PE X a ta) (hb : PE X (.BoolOp .And (b :: rest) pos) tb) : PE X (.BoolOp .And (a :: b :: rest) pos) (tAndV ta tb) := by
 intro pins s σ H Q I h
 refine BoolOp_and (thn (ha pins s σ H _ I h) fun v s1 ⟨x, H1, I1, r1, q1⟩ => ?_)
 obtain ⟨c, rfl, q1⟩ := q1
 cases r1
 refine wpAny_truthy_bool ?_
 cases c with
 | true => exact hb pins s1 σ H1 Q I1 q1
 | false => exact ⟨.bl false, H1, I1, rfl, q1⟩
theorem pe_or (ha : PE X a ta) (hb : PE X (.BoolOp .Or (b :: rest) pos) tb) : PE X (.BoolOp .Or (a :: b :: rest) pos) (tOrV ta tb) := by
 intro pins s σ H Q I h
 refine BoolOp_or (thn (ha pins s σ H _ I h) fun v s1 ⟨x, H1, I1, r1, q1⟩ => ?_)
 obtain ⟨c, rfl, q1⟩ := q1
 cases r1
 refine wpAny_truthy_bool ?_
 cases c with
 | false => exact hb pins s1 σ H1 Q I1 q1
 | true => exact ⟨.bl true, H1, I1, rfl, q1⟩
theorem pe_not (ha : PE X a ta) : PE X (.UnaryOp .Not a pos) (tNotV ta) := by
 intro pins s σ H Q I h
 refine UnaryOp_ (thn (ha pins s σ H _ I h) fun v s1 ⟨x, H1, I1, r1, q1⟩ => ?_)
 obtain ⟨c, rfl, q1⟩ := q1
 cases r1
 exact not_of (wpAny_truthy_bool ⟨.bl (!c), H1, I1, rfl, q1⟩)
def tIf (t : TT) (ta tb : TE) : TE := fun σ H Q => t σ H fun c H1 => if c = true then ta σ H1 Q else tb σ H1 Q
theorem pe_ifExp {c : Expr} (hc : PT X c tA) (ha : PE X a ta) (hb : PE X b tb) : PE X (.IfExp c a b pos) (tIf tA ta tb) := by
 intro pins s σ H Q I h
 refine wpAny_IfExp (thn (hc pins s σ H _ I h) fun d s1 ⟨H1, I1, q1⟩ => ?_)
 cases d with
 | true => exact ha pins s1 σ H1 Q I1 q1
 | false => exact hb pins s1 σ H1 Q I1 q1
end
def SqL (K : PySem.W.Frag) (H : Hp) (a : Addr) (xs : List V) : Prop :=
 Rd H a (.lst xs) \/
  ∃ (o : Obj) (its : Array Value) (n : Nat), K.lookup a = some o /\ o.cls = .type "list" /\ o.dict = none /\ o.data = .seq its n /\ its.size <= sizeLine /\ Vals xs its.toList
def SqT (K : PySem.W.Frag) (H : Hp) (a : Addr) (xs : List V) : Prop :=
 Rd H a (.tup xs) \/
  ∃ (o : Obj) (its : Array Value) (n : Nat), K.lookup a = some o /\ o.cls = .type "tuple" /\ o.dict = none /\ o.data = .seq its n /\ its.size <= sizeLine /\ Vals xs its.toList
def absV : Value -> Option V
 | .none => some .non
 | .bool b => some (.bl b)
 | .int i _ => some (.int i)
 | .str x _ => some (.str x)
 | .bytes b _ => some (.byt b)
 | .float b _ => some (.flt b)
 | .ref a => some (.ref a)
 | .type n => some (.ty n)
 | _ => none
theorem RelV.abs {x : V} {u : Value} (r : RelV x u) : absV u = some x := by
 cases x with
 | non => cases r; rfl
 | bl _ => cases r; rfl
 | int _ => obtain ⟨t, rfl⟩ := r; rfl
 | str _ => obtain ⟨t, rfl⟩ := r; rfl
 | byt _ => obtain ⟨t, rfl⟩ := r; rfl
 | flt _ => obtain ⟨t, rfl⟩ := r; rfl
 | ref _ => cases r; rfl
 | ty _ => cases r; rfl
theorem RelV.inj {x y : V} {u : Value} (r : RelV x u) (q : RelV y u) : x = y := Option.some.inj (r.abs.symm.trans q.abs)
theorem Vals.inj : ∀ {xs ys : List V} {us : List Value}, Vals xs us -> Vals ys us -> xs = ys
 | _, _, _, .nil, .nil => rfl
 | _, _, _, .cons r t, .cons r' t' => by rw [r.inj r', Vals.inj t t']
section
variable {X : Cx} {pins : List (Addr × Obj)} {σ : St} {H : Hp} {s : Shared} {a : Addr} {xs ys : List V}
theorem SqL.of {K : PySem.W.Frag} (h : H a = some (.lst xs)) : SqL K H a xs := .inl (.inl h)
theorem SqT.of {K : PySem.W.Frag} (h : H a = some (.tup xs)) : SqT K H a xs := .inl (.inl h)
theorem Inv.list (I : Inv X pins σ H s) (h : SqL X.K H a xs) : ∃ its : List Value, Vals xs its /\ PlainL s.heap a its.toArray /\ xs.length <= sizeLine := by
 rcases h with h | ⟨o, its, n, hk, hc, hd, hs, hz, r⟩
 ·obtain ⟨z, its, n, r, e⟩ := h.ok I.hok
  exact ⟨its, r, ⟨_, n, e, rfl, rfl, rfl⟩, z⟩
 ·refine ⟨its.toList, r, ⟨o, n, I.kIn a o hk, hc, hd, by simpa using hs⟩, ?_⟩
  have e := r.length
  simp only [Array.length_toList] at e
  omega
theorem Inv.tuple (I : Inv X pins σ H s) (h : SqT X.K H a xs) : ∃ its : List Value, Vals xs its /\ IsTup s.heap a its.toArray /\ xs.length <= sizeLine := by
 rcases h with h | ⟨o, its, n, hk, hc, hdd, hs, hz, r⟩
 ·obtain ⟨z, its, r, p⟩ := h.ok I.hok
  exact ⟨its, r, p.tup, z⟩
 ·refine ⟨its.toList, r, ⟨o, I.kIn a o hk, hc, n, by simpa using hs⟩, ?_⟩
  have e := r.length
  simp only [Array.length_toList] at e
  omega
theorem Inv.list_inj (I : Inv X pins σ H s) (h : SqL X.K H a xs) (h' : SqL X.K H a ys) : xs = ys := by
 obtain ⟨its, r, ⟨o, n, e, _, _, d⟩, _⟩ := I.list h
 obtain ⟨its', r', ⟨o', n', e', _, _, d'⟩, _⟩ := I.list h'
 rw [e] at e'; cases e'
 rw [d] at d'
 injection d' with d1 _
 have : its = its' := by simpa using congrArg Array.toList d1
 subst this
 exact r.inj r'
theorem Inv.tuple_inj (I : Inv X pins σ H s) (h : SqT X.K H a xs) (h' : SqT X.K H a ys) : xs = ys := by
 obtain ⟨its, r, ⟨o, e, _, n, d⟩, _⟩ := I.tuple h
 obtain ⟨its', r', ⟨o', e', _, n', d'⟩, _⟩ := I.tuple h'
 rw [e] at e'; cases e'
 rw [d] at d'
 injection d' with d1 _
 have : its = its' := by simpa using congrArg Array.toList d1
 subst this
 exact r.inj r'
end
abbrev Cx.wish (X : Cx) (E : Value -> Shared -> Prop) : Cx := { X with xe := E }
abbrev Cx.nox (X : Cx) : Cx := X.wish fun _ _ => False
theorem Cx.Ok.wish {X : Cx} (ok : X.Ok) (E : Value -> Shared -> Prop) : (X.wish E).Ok :=
 ⟨ok.mod, ok.kind, ok.glob, ok.blt, ok.above, ok.inj, ok.has, ok.cab, ok.hd, ok.frames, ok.stk, ok.exf, ok.bs, ok.bsz, ok.noex, ok.exfs, ok.funs, ok.frf⟩
theorem Cx.Ok.unwish {X : Cx} {E : Value -> Shared -> Prop} (ok : (X.wish E).Ok) : X.Ok :=
 ⟨ok.mod, ok.kind, ok.glob, ok.blt, ok.above, ok.inj, ok.has, ok.cab, ok.hd, ok.frames, ok.stk, ok.exf, ok.bs, ok.bsz, ok.noex, ok.exfs, ok.funs, ok.frf⟩
section
variable {X : Cx} {pins : List (Addr × Obj)} {σ : St} {H : Hp} {s : Shared} {E : Value -> Shared -> Prop}
theorem Inv.wish (I : Inv X pins σ H s) (E : Value -> Shared -> Prop) : Inv (X.wish E) pins σ H s := ⟨I.ok.wish E, I.os, I.bare, I.base, I.loc, I.cell, I.free, I.freeC, I.pin, I.hok, I.len⟩
theorem Inv.unwish (I : Inv (X.wish E) pins σ H s) : Inv X pins σ H s := ⟨I.ok.unwish, I.os, I.bare, I.base, I.loc, I.cell, I.free, I.freeC, I.pin, I.hok, I.len⟩
theorem SP.unwish {D : Ends} {f : Flow} {s' : Shared} (h : SP (X.wish E) pins D f s') : SP X pins D f s' := by
 cases f with
 | next => obtain ⟨σ', H', I, q⟩ := h; exact ⟨σ', H', I.unwish, q⟩
 | brk => obtain ⟨σ', H', I, q⟩ := h; exact ⟨σ', H', I.unwish, q⟩
 | cont => obtain ⟨σ', H', I, q⟩ := h; exact ⟨σ', H', I.unwish, q⟩
 | ret u => obtain ⟨v, σ', H', I, r, q⟩ := h; exact ⟨v, σ', H', I.unwish, r, q⟩
theorem PSs.nox {st : List Stmt} {t : TS} (h : PSs X.nox st t) : PSs X st t := fun pins s σ H D I hw =>
 wpAny_mono (h pins s σ H D (I.wish _) hw) (fun _ _ q => q.unwish) fun _ _ z => False.elim z
end
section
variable {X : Cx} {st : Stmt} {rest : List Stmt} {t u : TS} {e : Expr} {te : TE} {pos : Pos}
def tNext : TS := fun D σ H => D.nx σ H
def tSeq (t u : TS) : TS := fun D σ H => t { D with nx := u D } σ H
theorem pss_nil : PSs X [] tNext := fun _ _ σ H _ I h => wpAny_execs_nil ⟨σ, H, I, h⟩
theorem pss_cons (h1 : PS X st t) (h2 : PSs X rest u) : PSs X (st :: rest) (tSeq t u) := by
 intro pins s σ H D I h
 refine wpAny_execs_cons (thn (h1 pins s σ H { D with nx := u D } I h) fun f s1 q => ?_)
 cases f with
 | next =>
  obtain ⟨σ', H', I', q⟩ := q
  exact h2 pins s1 σ' H' D I' q
 | ret v => exact q
 | brk => exact q
 | cont => exact q
theorem pss_one (h1 : PS X st t) : PSs X [st] t := by
 intro pins s σ H D I h
 refine wpAny_execs_cons (thn (h1 pins s σ H D I h) fun f s1 q => ?_)
 cases f with
 | next => exact wpAny_execs_nil q
 | ret v => exact q
 | brk => exact q
 | cont => exact q
theorem Inv.quiet {pins : List (Addr × Obj)} {σ : St} {H : Hp} {s : Shared} (I : Inv X pins σ H s) : interactive X.env = false := by simp [interactive, I.ok.kind]
def tDrop (te : TE) : TS := fun D σ H => te σ H fun _ H1 => D.nx σ H1
theorem ps_expr (he : PE X e te) (hs : swapsWith e none pos.line X.env = pure false := by rfl) : PS X (.Expr e pos) (tDrop te) := by
 intro pins s σ H D I h
 exact wpAny_Expr_any (thn (he pins s σ H _ I h) fun v s1 ⟨x, H1, I1, r1, q1⟩ => ⟨σ, H1, I1, q1⟩) I.quiet hs
def tRet (te : TE) : TS := fun D σ H => te σ H D.rt
theorem ps_ret (he : PE X e te) : PS X (.Return (some e) pos) (tRet te) := by
 intro pins s σ H D I h
 exact wpAny_Return_some (thn (he pins s σ H _ I h) fun v s1 ⟨x, H1, I1, r1, q1⟩ => ⟨x, σ, H1, I1, r1, q1⟩)
def tIfS (c : TT) (t u : TS) : TS := fun D σ H => c σ H fun b H1 => if b = true then t D σ H1 else u D σ H1
theorem ps_if {c : Expr} {a b : List Stmt} {tc : TT} (hc : PT X c tc) (ha : PSs X a t) (hb : PSs X b u) : PS X (.If c a b pos) (tIfS tc t u) := by
 intro pins s σ H D I h
 refine wpAny_If (thn (hc pins s σ H _ I h) fun d s1 ⟨H1, I1, q1⟩ => ?_)
 cases d with
 | true => exact ha pins s1 σ H1 D I1 q1
 | false => exact hb pins s1 σ H1 D I1 q1
def tNever : TS := fun _ _ _ => False
theorem pss_never {sts : List Stmt} : PSs X sts tNever := fun _ _ _ _ _ _ h => h.elim
end
abbrev TG := V -> St -> Hp -> (St -> Hp -> Prop) -> Prop
def PG (X : Cx) (target : Expr) (t : TG) : Prop :=
 ∀ (pins : List (Addr × Obj)) (s : Shared) (σ : St) (H : Hp) (v : V) (u : Value) (Q : St -> Hp -> Prop), Inv X pins σ H s -> RelV v u -> t v σ H Q ->
  wpAny (model X.prog X.w) X.A (assign target X.env u) (fun _ s' => ∃ σ' H', Inv X pins σ' H' s' /\ Q σ' H') X.xe s
abbrev TSet := V -> V -> V -> Hp -> (Hp -> Prop) -> Prop
def PSet (X : Cx) (t : TSet) : Prop :=
 ∀ (pins : List (Addr × Obj)) (s : Shared) (σ : St) (H : Hp) (o i v : V) (ov iv u : Value) (Q : Hp -> Prop), Inv X pins σ H s -> RelV o ov -> RelV i iv -> RelV v u -> t o i v H Q ->
  wpAny (model X.prog X.w) X.A (setItem ov iv u) (fun _ s' => ∃ H', Inv X pins σ H' s' /\ Q H') X.xe s
section
variable {X : Cx} {pos : Pos}
def gName (i : Nat) : TG := fun v σ H Q => Q (σ.set i (some v)) H
theorem pg_name {i : Nat} {x : Str} (hN : X.N.Nodup) (hi : X.N[i]? = some x) (hx : Loc X.env.scope x) (hf : X.fn x = true \/ X.env.scope.names.lookup x = some .local := by first | exact .inl rfl | exact .inr rfl | assumption) : PG X (.Name x pos) (gName i) := by
 intro pins s σ H v u Q I r h
 exact wpAny_assign_Name (store_ok I hN hi hx r (fun s' I' => ⟨_, H, I', h⟩) hf)
def gSub (to ti : TE) (t : TSet) : TG := fun v σ H Q => to σ H fun o H1 => ti σ H1 fun i H2 => t o i v H2 fun H3 => Q σ H3
theorem pg_sub {o i : Expr} {to ti : TE} {t : TSet} (ho : PE X o to) (hi : PE X i ti) (hs : PSet X t)
 (ha : ∀ v, assign (.Subscript o i pos) X.env v = (do
   let ov <- holding [v] (eval o X.env)
   let iv <- holding [v, ov] (eval i X.env)
   standAt pos
   holding [v, ov, iv] (setItem ov iv v)
   release [v, ov, iv] []) := by intro _; rfl) : PG X (.Subscript o i pos) (gSub to ti t) := by
 intro pins s σ H v u Q I r h
 rw [ha]
 refine wpAny_bind (wpAny_holding (thn (ho pins s σ H _ I h) fun ov s1 ⟨x, H1, I1, r1, q1⟩ => ?_))
 refine wpAny_bind (wpAny_holding (thn (hi pins s1 σ H1 _ I1 q1) fun iv s2 ⟨y, H2, I2, r2, q2⟩ => ?_))
 refine wpAny_bind (wpAny_standAt (wpAny_bind (wpAny_holding (thn (hs pins s2 σ H2 x y v ov iv u _ I2 r1 r2 r q2) fun _ s3 ⟨H3, I3, q3⟩ => ?_))))
 exact wpAny_release ⟨σ, H3, I3, q3⟩
def tAsg (te : TE) (g : TG) : TS := fun D σ H => te σ H fun x H1 => g x σ H1 D.nx
theorem ps_asg {tg e : Expr} {te : TE} {g : TG} (he : PE X e te) (hg : PG X tg g) (hs : swapsWithSole [tg] e pos.line X.env = pure false := by rfl) (hw : swappedStores [tg] e X.env = pure none := by rfl)
 (h1 : (assignEach [tg] X.env).map (·.2) = [assign tg X.env] := by rfl) : PS X (.Assign [tg] e pos) (tAsg te g) := by
 intro pins s σ H D I h
 refine wpAny_Assign_stores (thn (he pins s σ H _ I h) fun v s1 ⟨x, H1, I1, r1, q1⟩ => ?_) hs hw
 rw [h1]
 exact thn (hg pins s1 σ H1 x v _ I1 r1 q1) fun _ s2 q => q
theorem ps_set {i : Nat} {x : Str} {e : Expr} {te : TE} {pos' : Pos} (hN : X.N.Nodup) (hi : X.N[i]? = some x) (hx : Loc X.env.scope x) (he : PE X e te) (hs : swapsWith e (some (.Name x pos')) pos.line X.env = pure false := by rfl) (hf : X.fn x = true \/ X.env.scope.names.lookup x = some .local := by first | exact .inl rfl | exact .inr rfl | assumption) :
 PS X (.Assign [.Name x pos'] e pos) (tAsg te (gName i)) := by
 intro pins s σ H D I h
 refine wpAny_Assign_Name (thn (he pins s σ H _ I h) fun v s1 ⟨y, H1, I1, r1, q1⟩ => ?_) hs
 exact store_ok I1 hN hi hx r1 (fun s2 I2 => ⟨_, H1, I2, q1⟩) hf
end
section
variable {X : Cx} {pos : Pos}
end
structure It where
 go : Nat -> Hp -> Prop
 yld : Nat -> Hp -> V -> Hp -> Prop
 stop : Nat -> Hp -> Prop
def FpOk (X : Cx) (pins : List (Addr × Obj)) (H : Hp) (b : Addr) : Prop :=
 H b = none /\ b ≠ X.env.locals /\ b ∉ X.fs /\ (b ∈ X.ex \/ X.s₀.heap.objs.size <= b) /\ (∀ x c, X.env.cells.lookup x = some c -> c ≠ b) /\ ∀ p ∈ X.pn ++ pins, p.1 ≠ b
theorem Inv.fpOk {X : Cx} {pins : List (Addr × Obj)} {σ : St} {H H' : Hp} {s : Shared} {b : Addr} (I : Inv X pins σ H s) (hb : s.heap.objs.size <= b) (hn : H' b = none) : FpOk X pins H' b := by
 refine ⟨hn, Nat.ne_of_gt (Nat.lt_of_lt_of_le I.lt hb), I.nofs hb, .inr (Nat.le_trans I.sz hb), fun x c e z => ?_, fun p hp z => ?_⟩
 ·obtain ⟨v, q⟩ := I.cell x c e
  exact absurd (Nat.lt_of_lt_of_le q.lt (by rw [z]; exact hb)) (Nat.lt_irrefl _)
 ·exact absurd (Nat.lt_of_lt_of_le (Heap.lt_size (I.pin p hp).1) (by rw [z]; exact hb)) (Nat.lt_irrefl _)
structure Turn (P : Program) (w : World) (K : PySem.W.Frag) (tg : Expr) (J : It) (fp : List Addr) (it : Addr) (tn : Nat -> Heap -> Prop) : Prop where
 mem : it ∈ fp
 obj : ∀ i h, tn i h -> ∀ b ∈ fp, ∃ o, h.get? b = some o /\ ∀ v, o.data ≠ .cell v
 keep : ∀ i h h', tn i h -> (∀ b ∈ fp, ∀ o, h.get? b = some o -> h'.get? b = some o) -> tn i h'
 item : ∀ (X : Cx), X.prog = P -> X.w = w -> X.K = K -> X.calm = true -> ∀ (i : Nat) (pins : List (Addr × Obj)) (s : Shared) (σ : St) (H : Hp) (E : Value -> Shared -> Prop), Inv X pins σ H s -> (∀ b ∈ fp, FpOk X pins H b) -> tn i s.heap -> J.go i H ->
  wpAny (model P w) X.A (pyNext (.ref it)) (fun r s1 => ∃ u, r = some u /\
   wpAny (model P w) X.A (letOwnedTupleGo tg (.ref it) u) (fun _ s2 => ∃ x H', Inv X pins σ H' s2 /\ RelV x u /\ J.yld i H x H' /\ tn (i + 1) s2.heap /\ ∀ b ∈ fp, H' b = none) E s1) E s
 done : ∀ (X : Cx), X.prog = P -> X.w = w -> X.K = K -> X.calm = true -> ∀ (i : Nat) (pins : List (Addr × Obj)) (s : Shared) (σ : St) (H : Hp) (E : Value -> Shared -> Prop), Inv X pins σ H s -> (∀ b ∈ fp, FpOk X pins H b) -> tn i s.heap -> J.stop i H ->
  wpAny (model P w) X.A (pyNext (.ref it)) (fun r s1 => r = none /\ Inv X pins σ H s1) E s
 self : ∀ (A : Around) (i : Nat) (s : Shared) (Q : Value -> Shared -> Prop) (E : Value -> Shared -> Prop), tn i s.heap -> Q (.ref it) s -> wpAny (model P w) A (pyIter (.ref it)) Q E s
abbrev TI := St -> Hp -> (It -> Hp -> Prop) -> Prop
def PIE (X : Cx) (pins : List (Addr × Obj)) (σ : St) (tg : Expr) (R : It -> Hp -> Prop) (itv : Value) (s2 : Shared) : Prop :=
 ∃ (it : Addr) (fp : List Addr) (tn : Nat -> Heap -> Prop) (J : It) (H' : Hp), itv = .ref it /\ Inv X pins σ H' s2 /\ Turn X.prog X.w X.K tg J fp it tn /\ tn 0 s2.heap /\ (∀ b ∈ fp, FpOk X pins H' b) /\ R J H'
def PI (X : Cx) (tg iter : Expr) (wi : TI) : Prop :=
 ∀ (pins : List (Addr × Obj)) (s : Shared) (σ : St) (H : Hp) (R : It -> Hp -> Prop), Inv X pins σ H s -> wi σ H R ->
  wpAny (model X.prog X.w) X.A (eval iter X.env) (fun v s1 => wpAny (model X.prog X.w) X.A (pyIter v) (PIE X pins σ tg R) X.xe s1) X.xe s
theorem go_of {M : Model} {A : Around} {E : Value -> Shared -> Prop} {s : Shared} {tg : Expr} {it : Addr} {u : Value} {o : Obj} {n : String} {vs : Array Value} {Q : Unit -> Shared -> Prop} (ho : s.heap.get? it = some o) (hc : o.cls = .type n) (hd : o.data = .fields vs)
 (hn : ["enumerate", "zip", "dict_itemiterator", "dict_reverseitemiterator", "odict_iterator", "itertools.zip_longest", "itertools.pairwise"].contains n = false) (hQ : Q () s) : wpAny M A (letOwnedTupleGo tg (.ref it) u) Q E s := by
 unfold letOwnedTupleGo
 cases tg <;> first
  | exact wpAny_pure hQ
  | (cases u <;> first
      | exact wpAny_pure hQ
      | (refine wpAny_bind (wpAny_load ho ?_)
         rw [hc, hd]
         show wpAny M A (if (["enumerate", "zip", "dict_itemiterator", "dict_reverseitemiterator", "odict_iterator", "itertools.zip_longest", "itertools.pairwise"].contains n && vs[0]? == some (rawInt _)) = true then _ else _) Q E s
         rw [if_neg (by intro h; rw [hn, Bool.false_and] at h; cases h)]
         exact wpAny_pure hQ))
def Itl (K : PySem.W.Frag) (a : Addr) : It :=
 ⟨fun i H => ∃ xs x, SqL K H a xs /\ xs[i]? = some x, fun i H x H' => H' = H /\ ∀ xs, SqL K H a xs -> xs[i]? = some x, fun i H => ∃ xs, SqL K H a xs /\ xs.length <= i⟩
def Itt (K : PySem.W.Frag) (a : Addr) : It :=
 ⟨fun i H => ∃ xs x, SqT K H a xs /\ xs[i]? = some x, fun i H x H' => H' = H /\ ∀ xs, SqT K H a xs -> xs[i]? = some x, fun i H => ∃ xs, SqT K H a xs /\ xs.length <= i⟩
def Itr (lo : Int) (n : Nat) : It := ⟨fun i _ => i < n, fun i H x H' => H' = H /\ x = .int (lo + i), fun i _ => n <= i⟩
theorem turn_list {P : Program} {w : World} {K : PySem.W.Frag} {tg : Expr} (a it : Addr) : Turn P w K tg (Itl K a) [it] it (fun i h => h.IsListIter it a i) where
 mem := by simp
 obj := fun i h st b hb => by
  have e : b = it := by simpa using hb
  subst e
  obtain ⟨o, e, c, d⟩ := st
  exact ⟨o, e, fun v z => by rw [d] at z; cases z⟩
 keep := fun i h h' st k => st.at fun o e => k it (by simp) o e
 item := by
  intro X hP hw hK hc i pins s σ H E I hf st hg
  subst hP hw hK
  obtain ⟨xs, x, hq, hx⟩ := hg
  obtain ⟨its, rv, p, hz⟩ := I.list hq
  obtain ⟨u, hu, ru⟩ := rv.get hx
  obtain ⟨f0, f1, f2, f3, f4, f5⟩ := hf it (by simp)
  refine wpAny_pyNext_list_item st p.isList (x := u) (by simpa using hu) fun h' st' sb => ?_
  have I1 : Inv X pins σ H { s with heap := h' } := I.turned (t' := s.toks) (fun b o hb e => (sb.2 b hb).trans e) f0 f1 f3 f4 f5
  obtain ⟨o, e, c, d⟩ := id st'
  exact ⟨u, rfl, go_of (s := { s with heap := h' }) e c d (by decide) ⟨x, H, I1, ru, ⟨rfl, fun ys hy => by rw [I.list_inj hy hq]; exact hx⟩, st', fun b hb => (hf b hb).1⟩⟩
 done := by
  intro X hP hw hK hc i pins s σ H E I hf st hg
  subst hP hw hK
  obtain ⟨xs, hq, hx⟩ := hg
  obtain ⟨its, rv, p, hz⟩ := I.list hq
  obtain ⟨f0, f1, f2, f3, f4, f5⟩ := hf it (by simp)
  have hl := rv.length
  exact wpAny_pyNext_list_end (I.ok.hd hc) st p.isList (by simp; omega) fun h' eb => ⟨rfl, I.turned (t' := s.toks) (fun b o hb e => eb b o hb e) f0 f1 f3 f4 f5⟩
 self := fun _ _ _ _ _ st h => wpAny_pyIter_listiter st h
theorem turn_tuple {P : Program} {w : World} {K : PySem.W.Frag} {tg : Expr} (a it : Addr) : Turn P w K tg (Itt K a) [it] it (fun i h => h.IsTupleIter it a i) where
 mem := by simp
 obj := fun i h st b hb => by
  have e : b = it := by simpa using hb
  subst e
  obtain ⟨o, e, c, d⟩ := st
  exact ⟨o, e, fun v z => by rw [d] at z; cases z⟩
 keep := fun i h h' st k => st.at fun o e => k it (by simp) o e
 item := by
  intro X hP hw hK hc i pins s σ H E I hf st hg
  subst hP hw hK
  obtain ⟨xs, x, hq, hx⟩ := hg
  obtain ⟨its, rv, p, hz⟩ := I.tuple hq
  obtain ⟨u, hu, ru⟩ := rv.get hx
  obtain ⟨f0, f1, f2, f3, f4, f5⟩ := hf it (by simp)
  refine wpAny_pyNext_tuple_item st (show s.heap.IsTuple a its.toArray from p) (x := u) (by simpa using hu) fun h' st' sb => ?_
  have I1 : Inv X pins σ H { s with heap := h' } := I.turned (t' := s.toks) (fun b o hb e => (sb.2 b hb).trans e) f0 f1 f3 f4 f5
  obtain ⟨o, e, c, d⟩ := id st'
  exact ⟨u, rfl, go_of (s := { s with heap := h' }) e c d (by decide) ⟨x, H, I1, ru, ⟨rfl, fun ys hy => by rw [I.tuple_inj hy hq]; exact hx⟩, st', fun b hb => (hf b hb).1⟩⟩
 done := by
  intro X hP hw hK hc i pins s σ H E I hf st hg
  subst hP hw hK
  obtain ⟨xs, hq, hx⟩ := hg
  obtain ⟨its, rv, p, hz⟩ := I.tuple hq
  obtain ⟨f0, f1, f2, f3, f4, f5⟩ := hf it (by simp)
  have hl := rv.length
  exact wpAny_pyNext_tuple_end (I.ok.hd hc) st (show s.heap.IsTuple a its.toArray from p) (by simp; omega) fun h' eb => ⟨rfl, I.turned (t' := s.toks) (fun b o hb e => eb b o hb e) f0 f1 f3 f4 f5⟩
 self := fun _ _ _ _ _ st h => wpAny_pyIter_tupleiter st h
theorem turn_range {P : Program} {w : World} {K : PySem.W.Frag} {tg : Expr} (it : Addr) (lo : Int) (n : Nat) : Turn P w K tg (Itr lo n) [it] it (fun i h => IsRangeIter h it (lo + (i : Nat) * 1) ((n : Int) - (i : Nat)) 1) where
 mem := by simp
 obj := fun i h st b hb => by
  have e : b = it := by simpa using hb
  subst e
  exact ⟨_, st, fun v z => by
   have z' : Data.fields _ = Data.cell v := z
   cases z'⟩
 keep := fun i h h' st k => k it (by simp) _ st
 item := by
  intro X hP hw hK hc i pins s σ H E I hf st hg
  subst hP hw hK
  obtain ⟨f0, f1, f2, f3, f4, f5⟩ := hf it (by simp)
  have W := Walks.range (prog := X.prog) (w := X.w) (I.ok.hd hc) it lo 1 n
  refine W.item i s _ _ hg st fun v h' tk hv st' kk => ?_
  obtain ⟨t, rfl⟩ := hv
  have I1 : Inv X pins σ H { s with heap := h', toks := tk } := I.turned (fun b o hb e => kk b o (by simpa using hb) e) f0 f1 f3 f4 f5
  refine ⟨_, rfl, go_of (s := { s with heap := h', toks := tk }) (n := "range_iterator") st' rfl rfl (by decide) ⟨.int (lo + i), H, I1, ⟨t, ?_⟩, ⟨rfl, rfl⟩, st', fun b hb => (hf b hb).1⟩⟩
  rw [Int.mul_one]
 done := by
  intro X hP hw hK hc i pins s σ H E I hf st hg
  subst hP hw hK
  obtain ⟨f0, f1, f2, f3, f4, f5⟩ := hf it (by simp)
  exact wpAny_pyNext_range_end (I.ok.hd hc) st (by have : n <= i := hg; omega) fun h' eb => ⟨rfl, I.turned (t' := s.toks) (fun b o hb e => eb b o hb e) f0 f1 f3 f4 f5⟩
 self := fun _ _ _ _ _ st h => wpAny_pyIter_rangeiter st h
section
variable {X : Cx} {tg : Expr}
theorem range_it {pins : List (Addr × Obj)} {σ : St} {H : Hp} {s : Shared} {R : It -> Hp -> Prop} {E : Value -> Shared -> Prop} {lo hi : Int} {t u v : Tok} {tk : Nat} (I : Inv X pins σ H s) (h1 : -(2 ^ 62) <= lo) (h2 : lo < 2 ^ 62) (h3 : -(2 ^ 62) <= hi) (h4 : hi < 2 ^ 62)
 (q : R (Itr lo (hi - lo).toNat) H) : wpAny (model X.prog X.w) X.A (pyIter (.ref s.heap.objs.size)) (PIE X pins σ tg R) E { s with heap := s.heap.push { cls := .type "range", data := .fields #[.int lo t, .int hi u, .int 1 v] }, toks := tk } := by
 refine wpAny_pyIter_range (IsRange.new ..) (small_one h1 h2 h3 h4) ?_
 have I1 : Inv X pins σ H { s with heap := s.heap.push { cls := .type "range", data := .fields #[.int lo t, .int hi u, .int 1 v] }, toks := tk } := I.kept fun b o e => Heap.get?_push_of_some _ e
 refine ⟨(s.heap.push { cls := .type "range", data := .fields #[.int lo t, .int hi u, .int 1 v] }).objs.size, [(s.heap.push { cls := .type "range", data := .fields #[.int lo t, .int hi u, .int 1 v] }).objs.size], _, _, H, rfl,
  I1.kept (t' := tk) fun b o e => Heap.get?_push_of_some _ e, turn_range _ lo (hi - lo).toNat, ?_, fun b hb => ?_, q⟩
 ·have e1 : lo + ((0 : Nat) : Int) * 1 = lo := by simp
  have e2 : (((hi - lo).toNat : Nat) : Int) - ((0 : Nat) : Int) = Builtin.Range.rangeSize lo hi 1 := by rw [rangeSize_one]; split <;> omega
  show IsRangeIter _ _ (lo + ((0 : Nat) : Int) * 1) ((((hi - lo).toNat : Nat) : Int) - ((0 : Nat) : Int)) 1
  rw [e1, e2]
  exact Heap.get?_push_size _ rfl
 ·have e : b = (s.heap.push { cls := .type "range", data := .fields #[.int lo t, .int hi u, .int 1 v] }).objs.size := by simpa using hb
  subst e
  exact I1.fpOk (Nat.le_refl _) (I1.hok.fresh (Nat.le_refl _))
def iRng1 (ta : TA) : TI := fun σ H R => ta σ H fun vs H1 => ∃ j : Int, vs = [.int j] /\ -(2 ^ 62) <= j /\ j < 2 ^ 62 /\ R (Itr 0 j.toNat) H1
def iRng2 (ta : TA) : TI := fun σ H R => ta σ H fun vs H1 => ∃ i j : Int, vs = [.int i, .int j] /\ (-(2 ^ 62) <= i /\ i < 2 ^ 62 /\ -(2 ^ 62) <= j /\ j < 2 ^ 62) /\ R (Itr i (j - i).toNat) H1
theorem pi_range1 {a : Expr} {ta : TA} {p pos : Pos} (hg : Gl X "range") (hm : X.mg "range" = none) (ha : PA X [a] ta) (hs : starEach [a] X.env = [(false, eval a X.env)] := by rfl) : PI X tg (.Call (.Name "range" p) [a] [] pos) (iRng1 ta) := by
 intro pins s σ H R I h
 refine Call_ (ld_blt I hg hm boot_range (PyProof.Rows.callWith_type1 (thn (ha pos pins s σ H _ I h) fun us s1 ⟨vs, H1, I1, r1, q1⟩ => ?_) hs rfl))
 obtain ⟨j, e, q1, q2, q⟩ := q1
 subst e
 cases r1 with
 | cons r rr =>
  cases rr
  obtain ⟨t, rfl⟩ := r
  exact call_range_1 (range_it I1 (by omega) (by omega) q1 q2 (by simpa using q))
theorem pi_range2 {a b : Expr} {ta : TA} {p pos : Pos} (hg : Gl X "range") (hm : X.mg "range" = none) (ha : PA X [a, b] ta) (hs : starEach [a, b] X.env = [(false, eval a X.env), (false, eval b X.env)] := by rfl) (hs2 : starEach [b] X.env = [(false, eval b X.env)] := by rfl) :
 PI X tg (.Call (.Name "range" p) [a, b] [] pos) (iRng2 ta) := by
 intro pins s σ H R I h
 refine Call_ (ld_blt I hg hm boot_range (PyProof.Rows.callWith_type1 (thn (ha pos pins s σ H _ I h) fun us s1 ⟨vs, H1, I1, r1, q1⟩ => ?_) (by rw [hs, hs2]) (by rw [hs2]; rfl)))
 obtain ⟨i, j, e, ⟨q1, q2, q3, q4⟩, q⟩ := q1
 subst e
 cases r1 with
 | cons r rr =>
  cases rr with
  | cons r' rr =>
   cases rr
   obtain ⟨t, rfl⟩ := r
   obtain ⟨t', rfl⟩ := r'
   exact call_range_2 (range_it I1 q1 q2 q3 q4 q)
def tFor (wi : TI) (g : TG) (tb : TS) : TS := fun D σ H => wi σ H fun J H1 => ∃ W : Nat -> Nat -> St -> Hp -> Prop, (∃ m, W 0 m σ H1) /\ ∀ i m σ H, W i m σ H ->
 (J.stop i H /\ D.nx σ H) \/ (J.go i H /\ ∃ N : St -> Hp -> Prop, (∀ σ' H', N σ' H' -> ∃ m', m' < m /\ W (i + 1) m' σ' H') /\ ∀ x H', J.yld i H x H' -> g x σ H' fun σ2 H2 => tb { D with nx := N, ct := N, bk := D.nx } σ2 H2)
def pinsAt (fp : List Addr) (h : Heap) : List (Addr × Obj) := fp.filterMap fun b => (h.get? b).map fun o => (b, o)
theorem mem_pinsAt {fp : List Addr} {h : Heap} {b : Addr} {o : Obj} (hb : b ∈ fp) (e : h.get? b = some o) : (b, o) ∈ pinsAt fp h := List.mem_filterMap.mpr ⟨b, hb, by rw [e]; rfl⟩
theorem of_pinsAt {fp : List Addr} {h : Heap} {p : Addr × Obj} (hp : p ∈ pinsAt fp h) : p.1 ∈ fp /\ h.get? p.1 = some p.2 := by
 obtain ⟨b, hb, e⟩ := List.mem_filterMap.mp hp
 cases q : h.get? b with
 | none => rw [q] at e; cases e
 | some o =>
  rw [q] at e
  have e' : (b, o) = p := Option.some.inj e
  subst e'
  exact ⟨hb, q⟩
theorem Inv.pinned {pins : List (Addr × Obj)} {σ : St} {H : Hp} {s : Shared} {fp : List Addr} (I : Inv X pins σ H s) (hf : ∀ b ∈ fp, FpOk X pins H b) (ho : ∀ b ∈ fp, ∃ o, s.heap.get? b = some o /\ ∀ v, o.data ≠ .cell v) : Inv X (pins ++ pinsAt fp s.heap) σ H s :=
 I.pins_of fun p hp => (List.mem_append.mp hp).elim (fun z => I.pin p (List.mem_append_right _ z)) fun z => by
  obtain ⟨hb, e⟩ := of_pinsAt z
  obtain ⟨f0, f1, f2, _⟩ := hf p.1 hb
  obtain ⟨o, e', d⟩ := ho p.1 hb
  rw [e] at e'; cases e'
  exact ⟨e, f0, f1, f2, d⟩
theorem Inv.unpinned {pins pl : List (Addr × Obj)} {σ : St} {H : Hp} {s : Shared} (I : Inv X (pins ++ pl) σ H s) : Inv X pins σ H s := I.pins_of fun p hp => I.pin p (List.mem_append_right _ (List.mem_append_left _ hp))
theorem ps_for {iter : Expr} {body : List Stmt} {wi : TI} {g : TG} {tb : TS} {pos : Pos} (hp : PassesOwn (model X.prog X.w) X.A X.env X.xe) (hc : X.calm = true) (hi : PI X tg iter wi) (hg : PG X tg g) (hb : PSs X body tb)
 (hs : ∀ x, foldedSetIterable iter X.env x = pure x := by intro _; rfl) : PS X (.For tg iter body [] pos) (tFor wi g tb) := by
 intro pins s σ H D I h
 refine wpAny_For (thn (hi pins s σ H _ I h) fun v s1 h1 => thn h1 fun itv s2 h2 => ?_) hs
 obtain ⟨it, fp, tn, J, H2, e, I2, T, st2, f2, W, ⟨m0, w0⟩, turn⟩ := h2
 subst e
 -- what stays true of the iterator's objects through the loop
 have stat : ∀ {H' : Hp}, (∀ b ∈ fp, H' b = none) -> ∀ b ∈ fp, FpOk X pins H' b := fun hn b hb => ⟨hn b hb, (f2 b hb).2⟩
 refine codeAny_forLoop_any (fun n s' => ∃ i σ' H', Inv X pins σ' H' s' /\ tn i s'.heap /\ (∀ b ∈ fp, H' b = none) /\ W i n σ' H') ?_ m0 ⟨0, σ, H2, I2, st2, fun b hb => (f2 b hb).1, w0⟩
 rintro n s3 ⟨i, σ3, H3, I3, st3, fr3, w3⟩
 rcases turn i n σ3 H3 w3 with ⟨stop, qn⟩ | ⟨go, N, hN, step⟩
 ·refine wpAny_passesOwn hp (thn (T.done X rfl rfl rfl hc i pins s3 σ3 H3 X.xe I3 (stat fr3) st3 stop) fun r s4 ⟨hr, I4⟩ => ?_)
  subst hr
  exact wpAny_execs_nil ⟨σ3, H3, I4, qn⟩
 ·refine wpAny_passesOwn hp (thn (T.item X rfl rfl rfl hc i pins s3 σ3 H3 X.xe I3 (stat fr3) st3 go) fun r s4 ⟨u, hr, h4⟩ => ?_)
  subst hr
  refine wpAny_passesOwn hp (thn h4 fun _ s5 ⟨x, H5, I5, r5, y5, st5, fr5⟩ => ?_)
  have I5' := I5.pinned (stat fr5) (T.obj _ _ st5)
  refine wpAny_passesOwn hp (thn (hg _ s5 σ3 H5 x u _ I5' r5 (step x H5 y5)) fun _ s6 ⟨σ6, H6, I6, q6⟩ => ?_)
  refine wpAny_passesOwn hp (thn (hb _ s6 σ6 H6 _ I6 q6) fun f s7 q7 => ?_)
  have again : ∀ {σ7 : St} {H7 : Hp}, Inv X (pins ++ pinsAt fp s5.heap) σ7 H7 s7 -> N σ7 H7 -> ∃ m, m < n /\ ∃ i σ' H', Inv X pins σ' H' s7 /\ tn i s7.heap /\ (∀ b ∈ fp, H' b = none) /\ W i m σ' H' := fun {σ7 H7} I7 n7 => by
   obtain ⟨m', hm, w7⟩ := hN σ7 H7 n7
   refine ⟨m', hm, i + 1, σ7, H7, I7.unpinned, T.keep _ _ _ st5 fun b hb o e => (I7.pin (b, o) (List.mem_append_right _ (List.mem_append_right _ (mem_pinsAt hb e)))).1, fun b hb => ?_, w7⟩
   obtain ⟨o, e, d⟩ := T.obj _ _ st5 b hb
   exact (I7.pin (b, o) (List.mem_append_right _ (List.mem_append_right _ (mem_pinsAt hb e)))).2.1
  cases f with
  | next => obtain ⟨σ7, H7, I7, n7⟩ := q7; exact again I7 n7
  | cont => obtain ⟨σ7, H7, I7, n7⟩ := q7; exact again I7 n7
  | brk => obtain ⟨σ7, H7, I7, q7⟩ := q7; exact ⟨σ7, H7, I7.unpinned, q7⟩
  | ret v => obtain ⟨x7, σ7, H7, I7, r7, q7⟩ := q7; exact ⟨x7, σ7, H7, I7.unpinned, r7, q7⟩
end
theorem for_list {K : PySem.W.Frag} {a : Addr} {xs : List V} {g : TG} {tb : TS} {D : Ends} {σ : St} {H : Hp} (Pv : Nat -> St -> Hp -> Prop) (h0 : Pv 0 σ H) (hl : ∀ i σ H, i <= xs.length -> Pv i σ H -> SqL K H a xs)
 (hs : ∀ i x σ H, xs[i]? = some x -> Pv i σ H -> g x σ H fun σ2 H2 => tb { D with nx := Pv (i + 1), ct := Pv (i + 1), bk := D.nx } σ2 H2) (hd : ∀ σ H, Pv xs.length σ H -> D.nx σ H) :
 ∃ W : Nat -> Nat -> St -> Hp -> Prop, (∃ m, W 0 m σ H) /\ ∀ i m σ H, W i m σ H ->
  ((Itl K a).stop i H /\ D.nx σ H) \/ ((Itl K a).go i H /\ ∃ N : St -> Hp -> Prop, (∀ σ' H', N σ' H' -> ∃ m', m' < m /\ W (i + 1) m' σ' H') /\ ∀ x H', (Itl K a).yld i H x H' -> g x σ H' fun σ2 H2 => tb { D with nx := N, ct := N, bk := D.nx } σ2 H2) := by
 refine ⟨fun i m σ H => m = xs.length - i /\ i <= xs.length /\ Pv i σ H, ⟨xs.length, by simp, Nat.zero_le _, h0⟩, ?_⟩
 rintro i m σ H ⟨rfl, hi, p⟩
 have q := hl i σ H hi p
 by_cases hlt : i < xs.length
 ·refine .inr ⟨⟨xs, xs[i], q, by simp [hlt]⟩, Pv (i + 1), fun σ' H' p' => ⟨xs.length - (i + 1), by omega, rfl, hlt, p'⟩, fun x H' y => ?_⟩
  obtain ⟨e, y⟩ := y
  subst e
  exact hs i x σ _ (y xs q) p
 ·have e : i = xs.length := by omega
  subst e
  exact .inl ⟨⟨xs, q, Nat.le_refl _⟩, hd σ H p⟩
theorem for_range {lo : Int} {n : Nat} {g : TG} {tb : TS} {D : Ends} {σ : St} {H : Hp} (Pv : Nat -> St -> Hp -> Prop) (h0 : Pv 0 σ H)
 (hs : ∀ i σ H, i < n -> Pv i σ H -> g (.int (lo + i)) σ H fun σ2 H2 => tb { D with nx := Pv (i + 1), ct := Pv (i + 1), bk := D.nx } σ2 H2) (hd : ∀ σ H, Pv n σ H -> D.nx σ H) :
 ∃ W : Nat -> Nat -> St -> Hp -> Prop, (∃ m, W 0 m σ H) /\ ∀ i m σ H, W i m σ H ->
  ((Itr lo n).stop i H /\ D.nx σ H) \/ ((Itr lo n).go i H /\ ∃ N : St -> Hp -> Prop, (∀ σ' H', N σ' H' -> ∃ m', m' < m /\ W (i + 1) m' σ' H') /\ ∀ x H', (Itr lo n).yld i H x H' -> g x σ H' fun σ2 H2 => tb { D with nx := N, ct := N, bk := D.nx } σ2 H2) := by
 refine ⟨fun i m σ H => m = n - i /\ i <= n /\ Pv i σ H, ⟨n, by simp, Nat.zero_le _, h0⟩, ?_⟩
 rintro i m σ H ⟨rfl, hi, p⟩
 by_cases hlt : i < n
 ·refine .inr ⟨hlt, Pv (i + 1), fun σ' H' p' => ⟨n - (i + 1), by omega, rfl, hlt, p'⟩, fun x H' y => ?_⟩
  obtain ⟨e, y⟩ := y
  subst e y
  exact hs i σ _ hlt p
 ·have e : i = n := by omega
  subst e
  exact .inl ⟨Nat.le_refl _, hd σ H p⟩
abbrev R2 := V -> V -> Hp -> VK -> Prop
def OpR (X : Cx) (f : Value -> Value -> Sem Value) (r : R2) : Prop :=
 ∀ (pins : List (Addr × Obj)) (s : Shared) (σ : St) (H : Hp) (x y : V) (v u : Value) (Q : VK), Inv X pins σ H s -> RelV x v -> RelV y u -> r x y H Q ->
  wpAny (model X.prog X.w) X.A (f v u) (EP X pins σ Q) X.xe s
def UnR (X : Cx) (f : Value -> Sem Value) (r : V -> Hp -> VK -> Prop) : Prop :=
 ∀ (pins : List (Addr × Obj)) (s : Shared) (σ : St) (H : Hp) (x : V) (v : Value) (Q : VK), Inv X pins σ H s -> RelV x v -> r x H Q ->
  wpAny (model X.prog X.w) X.A (f v) (EP X pins σ Q) X.xe s
def CallR (X : Cx) (f : Value) (r : List V -> Hp -> VK -> Prop) : Prop :=
 ∀ (pins : List (Addr × Obj)) (s : Shared) (σ : St) (H : Hp) (xs : List V) (us : List Value) (Q : VK), Inv X pins σ H s -> Vals xs us -> r xs H Q ->
  wpAny (model X.prog X.w) X.A (call f us) (EP X pins σ Q) X.xe s
def tOp (r : R2) (ta tb : TE) : TE := fun σ H Q => ta σ H fun x H1 => tb σ H1 fun y H2 => r x y H2 Q
def tUn (r : V -> Hp -> VK -> Prop) (ta : TE) : TE := fun σ H Q => ta σ H fun x H1 => r x H1 Q
def rI (C : Int -> Int -> Prop) (g : Int -> Int -> V) : R2 := fun x y H Q => ∃ i j, x = .int i /\ y = .int j /\ C i j /\ Q (g i j) H
def rI0 (g : Int -> Int -> V) : R2 := fun x y H Q => ∃ i j, x = .int i /\ y = .int j /\ Q (g i j) H
def rU (g : Int -> V) : V -> Hp -> VK -> Prop := fun x H Q => ∃ i, x = .int i /\ Q (g i) H
section
variable {X : Cx} {a b c : Expr} {ta tb tc : TE} {pos : Pos}
theorem binT (ha : PE X a ta) (hb : PE X b tb) {pins : List (Addr × Obj)} {s : Shared} {σ : St} {H : Hp} {R : V -> V -> Hp -> Prop} (I : Inv X pins σ H s)
 (h : ta σ H fun x H1 => tb σ H1 fun y H2 => R x y H2) {Q : Value -> Shared -> Prop} {f : Value -> Value -> Sem Value}
 (hf : ∀ v u s2 x y H2, Inv X pins σ H2 s2 -> RelV x v -> RelV y u -> R x y H2 -> wpAny (model X.prog X.w) X.A (f v u) Q X.xe s2) :
 wpAny (model X.prog X.w) X.A (eval a X.env) (fun v s₁ => wpAny (model X.prog X.w) X.A (eval b X.env) (fun u s₂ => wpAny (model X.prog X.w) X.A (f v u) Q X.xe s₂) X.xe s₁) X.xe s := by
 refine thn (ha pins s σ H _ I h) fun v s1 ⟨x, H1, I1, r1, q1⟩ => ?_
 refine thn (hb pins s1 σ H1 _ I1 q1) fun u s2 ⟨y, H2, I2, r2, q2⟩ => ?_
 exact hf v u s2 x y H2 I2 r1 r2 q2
theorem pe_op {op : Operator} {r : R2} (ho : OpR X (binaryOp op) r) (ha : PE X a ta) (hb : PE X b tb) : PE X (.BinOp a op b pos) (tOp r ta tb) := by
 intro pins s σ H Q I h
 exact wpAny_BinOp (binT ha hb I h fun v u s2 x y H2 I2 rx ry q => ho pins s2 σ H2 x y v u Q I2 rx ry q)
theorem pe_un {op : UnaryOp} {r : V -> Hp -> VK -> Prop} (ho : UnR X (unaryOp op) r) (ha : PE X a ta) : PE X (.UnaryOp op a pos) (tUn r ta) := by
 intro pins s σ H Q I h
 exact UnaryOp_ (thn (ha pins s σ H _ I h) fun v s1 ⟨x, H1, I1, r1, q1⟩ => ho pins s1 σ H1 x v Q I1 r1 q1)
theorem opI {f : Value -> Value -> Sem Value} {C : Int -> Int -> Prop} {g : Int -> Int -> Int}
 (rule : ∀ (i j : Int) (t u : Tok) (s : Shared) (Q : Value -> Shared -> Prop) (E : Value -> Shared -> Prop), C i j -> Q (.int (g i j) s.toks) { s with toks := s.toks + 1 } -> wpAny (model X.prog X.w) X.A (f (.int i t) (.int j u)) Q E s) :
 OpR X f (rI C fun i j => .int (g i j)) := by
 intro pins s σ H x y v u Q I rx ry h
 obtain ⟨i, j, rfl, rfl, hc, q⟩ := h
 obtain ⟨t, rfl⟩ := rx
 obtain ⟨t', rfl⟩ := ry
 exact rule i j t t' s _ _ hc ⟨.int (g i j), H, I.tok _, ⟨_, rfl⟩, q⟩
theorem opI0 {f : Value -> Value -> Sem Value} {g : Int -> Int -> Int}
 (rule : ∀ (i j : Int) (t u : Tok) (s : Shared) (Q : Value -> Shared -> Prop) (E : Value -> Shared -> Prop), Q (.int (g i j) s.toks) { s with toks := s.toks + 1 } -> wpAny (model X.prog X.w) X.A (f (.int i t) (.int j u)) Q E s) :
 OpR X f (rI0 fun i j => .int (g i j)) := by
 intro pins s σ H x y v u Q I rx ry h
 obtain ⟨i, j, rfl, rfl, q⟩ := h
 obtain ⟨t, rfl⟩ := rx
 obtain ⟨t', rfl⟩ := ry
 exact rule i j t t' s _ _ ⟨.int (g i j), H, I.tok _, ⟨_, rfl⟩, q⟩
theorem opB0 {f : Value -> Value -> Sem Value} {g : Int -> Int -> Bool}
 (rule : ∀ (i j : Int) (t u : Tok) (s : Shared) (Q : Value -> Shared -> Prop) (E : Value -> Shared -> Prop), Q (.bool (g i j)) s -> wpAny (model X.prog X.w) X.A (f (.int i t) (.int j u)) Q E s) :
 OpR X f (rI0 fun i j => .bl (g i j)) := by
 intro pins s σ H x y v u Q I rx ry h
 obtain ⟨i, j, rfl, rfl, q⟩ := h
 obtain ⟨t, rfl⟩ := rx
 obtain ⟨t', rfl⟩ := ry
 exact rule i j t t' s _ _ ⟨.bl (g i j), H, I, rfl, q⟩
def CPow (i j : Int) : Prop := 0 <= j /\ j <= 1000000 /\ i.natAbs < 2 ^ 64
def CMul (i j : Int) : Prop := (-(2 ^ 64) < i /\ i < 2 ^ 64) \/ (-(2 ^ 64) < j /\ j < 2 ^ 64)
theorem CMul.ok {i j : Int} (h : CMul i j) : IntMulOk i j := by
 rcases h with ⟨h1, h2⟩ | ⟨h1, h2⟩
 ·exact .of_left (intBits_le_64 h1 h2)
 ·exact .of_right (intBits_le_64 h1 h2)
theorem two_pow_nn (k : Nat) : (0 : Int) <= 2 ^ k := by
 rw [two_pow_cast]
 exact Int.natCast_nonneg _
theorem op_add : OpR X (binaryOp .Add) (rI0 fun i j => .int (i + j)) := opI0 fun _ _ _ _ _ _ _ q => add_int q
theorem op_sub : OpR X (binaryOp .Sub) (rI0 fun i j => .int (i - j)) := opI0 fun _ _ _ _ _ _ _ q => sub_int q
theorem op_mod : OpR X (binaryOp .Mod) (rI (fun _ j => 0 < j) fun i j => .int (i % j)) := opI fun i j _ _ _ _ _ hc q => by
 have h1 : (0 : Int) < j := hc
 exact mod_int' (by omega) (by rw [Int.fmod_eq_emod_of_nonneg i (by omega)]; exact q)
theorem op_pow : OpR X (binaryOp .Pow) (rI CPow fun i j => .int (i ^ j.toNat)) := opI fun _ _ _ _ _ _ _ hc q => pow_int_small hc.1 hc.2.1 hc.2.2 q
theorem op_shl : OpR X (binaryOp .LShift) (rI CPow fun i j => .int (i * 2 ^ j.toNat)) := opI fun _ _ _ _ _ _ _ hc q => lshift_int_small hc.1 hc.2.1 hc.2.2 q
theorem op_shr : OpR X (binaryOp .RShift) (rI (fun _ j => 0 <= j) fun i j => .int (i / 2 ^ j.toNat)) := opI fun i j _ _ _ _ _ hc q =>
 rshift_int hc (by rw [Int.fdiv_eq_ediv_of_nonneg i (two_pow_nn _)]; exact q)
theorem op_and : OpR X (binaryOp .BitAnd) (rI0 fun i j => .int (Builtin.bitAnd i j)) := opI0 fun _ _ _ _ _ _ _ q => and_int q
theorem unI {f : Value -> Sem Value} {g : Int -> Int}
 (rule : ∀ (i : Int) (t : Tok) (s : Shared) (Q : Value -> Shared -> Prop) (E : Value -> Shared -> Prop), Q (.int (g i) s.toks) { s with toks := s.toks + 1 } -> wpAny (model X.prog X.w) X.A (f (.int i t)) Q E s) :
 UnR X f (rU fun i => .int (g i)) := by
 intro pins s σ H x v Q I rx h
 obtain ⟨i, rfl, q⟩ := h
 obtain ⟨t, rfl⟩ := rx
 exact rule i t s _ _ ⟨.int (g i), H, I.tok _, ⟨_, rfl⟩, q⟩
theorem un_neg : UnR X (unaryOp .USub) (rU fun i => .int (-i)) := unI fun _ _ _ _ _ q => neg_int q
end
section
variable {X : Cx} {a b c : Expr} {ta tb tc : TE} {pos : Pos}
theorem fin_bl {pins : List (Addr × Obj)} {σ : St} {H : Hp} {s : Shared} {Q : VK} {k k' : Bool} (I : Inv X pins σ H s) (q : Q (.bl k) H) (e : k = k') : EP X pins σ Q (.bool k') s := by
 subst e
 exact ⟨.bl k, H, I, rfl, q⟩
theorem op_lt : OpR X (compareOp .Lt) (rI0 fun i j => .bl (decide (i < j))) := opB0 fun _ _ _ _ _ _ _ q => lt_int q
theorem op_le : OpR X (compareOp .LtE) (rI0 fun i j => .bl (decide (i <= j))) := opB0 fun _ _ _ _ _ _ _ q => le_int q
theorem op_gt : OpR X (compareOp .Gt) (rI0 fun i j => .bl (decide (j < i))) := opB0 fun _ _ _ _ _ _ _ q => gt_int q
theorem op_ge : OpR X (compareOp .GtE) (rI0 fun i j => .bl (decide (j <= i))) := opB0 fun _ _ _ _ _ _ _ q => ge_int q
theorem op_isN : OpR X (compareOp .Is) (fun x y H Q => y = .non /\ Q (.bl (decide (x = .non))) H) := by
 intro pins s σ H x y v u Q I rx ry h
 obtain ⟨rfl, q⟩ := h
 cases ry
 refine is_none_gen (fin_bl I q ?_)
 cases x <;> first
  | (cases rx; rfl)
  | (obtain ⟨t, rfl⟩ := rx; rfl)
theorem op_notN : OpR X (compareOp .IsNot) (fun x y H Q => y = .non /\ Q (.bl (!decide (x = .non))) H) := by
 intro pins s σ H x y v u Q I rx ry h
 obtain ⟨rfl, q⟩ := h
 cases ry
 refine isnot_none_gen (fin_bl I q ?_)
 cases x <;> first
  | (cases rx; rfl)
  | (obtain ⟨t, rfl⟩ := rx; rfl)
theorem pe_cmpR {op : CmpOp} {r : R2} (ho : OpR X (compareOp op) r) (ha : PE X a ta) (hb : PE X b tb) (hm : behindInMarks op b = false) : PE X (.Compare a [op] [b] pos) (tOp r ta tb) := by
 intro pins s σ H Q I h
 exact wpAny_Compare1 (binT ha hb I h fun v u s2 x y H2 I2 rx ry q => ho pins s2 σ H2 x y v u Q I2 rx ry q) hm
theorem line63 : (sizeLine : Nat) < 2 ^ 63 := by rw [sizeLine_eq]; decide
theorem op_add_str : OpR X (binaryOp .Add) (fun x y H Q => ∃ i j, x = .str i /\ y = .str j /\ i.length + j.length <= sizeLine /\ Q (.str (i ++ j)) H) := by
 intro pins s σ H x y v u Q I rx ry h
 obtain ⟨i, j, rfl, rfl, hz, q⟩ := h
 obtain ⟨t, rfl⟩ := rx
 obtain ⟨t', rfl⟩ := ry
 exact add_str (fun t' tk => ⟨.str (i ++ j), H, I.tok _, ⟨_, rfl⟩, q⟩) hz
theorem vals1 {x : V} {us : List Value} (r : Vals [x] us) : ∃ u, us = [u] /\ RelV x u := by
 cases r with
 | cons r1 r2 => cases r2; exact ⟨_, rfl, r1⟩
theorem vals2 {x y : V} {us : List Value} (r : Vals [x, y] us) : ∃ u w', us = [u, w'] /\ RelV x u /\ RelV y w' := by
 cases r with
 | cons r1 r2 =>
  cases r2 with
  | cons r3 r4 => cases r4; exact ⟨_, _, rfl, r1, r3⟩
theorem call_max2 (hc : X.calm = true) : CallR X (.builtin "max") (fun xs H Q => ∃ i j, xs = [.int i, .int j] /\ Q (.int (if j > i then j else i)) H) := by
 intro pins s σ H xs us Q I r h
 obtain ⟨i, j, rfl, q⟩ := h
 obtain ⟨u, w', rfl, ⟨t, rfl⟩, ⟨t', rfl⟩⟩ := vals2 r
 refine max_two_ints (I.ok.hd hc) fun h' tk k => ⟨_, H, I.kept k, ?_, q⟩
 by_cases hj : j > i
 ·rw [if_pos hj, if_pos hj]; exact ⟨_, rfl⟩
 ·rw [if_neg hj, if_neg hj]; exact ⟨_, rfl⟩
theorem call_min2 (hc : X.calm = true) : CallR X (.builtin "min") (fun xs H Q => ∃ i j, xs = [.int i, .int j] /\ Q (.int (if j < i then j else i)) H) := by
 intro pins s σ H xs us Q I r h
 obtain ⟨i, j, rfl, q⟩ := h
 obtain ⟨u, w', rfl, ⟨t, rfl⟩, ⟨t', rfl⟩⟩ := vals2 r
 refine min_two_ints (I.ok.hd hc) fun h' tk k => ⟨_, H, I.kept k, ?_, q⟩
 by_cases hj : j < i
 ·rw [if_pos hj, if_pos hj]; exact ⟨_, rfl⟩
 ·rw [if_neg hj, if_neg hj]; exact ⟨_, rfl⟩
theorem call_int1 : CallR X (.type "int") (fun xs H Q => (∃ i, xs = [.int i] /\ Q (.int i) H) \/ ∃ k, xs = [.bl k] /\ Q (.int (if k then 1 else 0)) H) := by
 intro pins s σ H xs us Q I r h
 rcases h with ⟨i, rfl, q⟩ | ⟨k, rfl, q⟩
 ·obtain ⟨u, rfl, t, rfl⟩ := vals1 r
  exact call_int_int ⟨.int i, H, I, ⟨_, rfl⟩, q⟩
 ·obtain ⟨u, rfl, r1⟩ := vals1 r
  cases r1
  exact call_int_bool ⟨.int (if k then 1 else 0), H, I.tok _, ⟨_, rfl⟩, q⟩
theorem call_str_int : CallR X (.type "str") (fun xs H Q => ∃ i, xs = [.int i] /\ i.natAbs.log2 < 1920 /\ Q (.str (toString i)) H) := by
 intro pins s σ H xs us Q I r h
 obtain ⟨i, rfl, hz, q⟩ := h
 obtain ⟨u, rfl, t, rfl⟩ := vals1 r
 exact PySem.P.str_of_int hz ⟨.str _, H, I.tok _, ⟨_, rfl⟩, q⟩
def LenV (K : PySem.W.Frag) (x : V) (H : Hp) (n : Nat) : Prop :=
 match x with
 | .str y => y.length <= sizeLine /\ n = y.length
 | .byt y => y.size <= sizeLine /\ n = y.size
 | .ref p => (∃ xs, SqL K H p xs /\ n = xs.length) \/ ∃ xs, SqT K H p xs /\ n = xs.length
 | _ => False
theorem call_len : CallR X (.builtin "len") (fun xs H Q => ∃ x n, xs = [x] /\ LenV X.K x H n /\ Q (.int n) H) := by
 intro pins s σ H xs us Q I r h
 obtain ⟨x, n, rfl, e, q⟩ := h
 obtain ⟨u, rfl, rx⟩ := vals1 r
 have hl := line63
 have hs : sizeLine = 16777216 := sizeLine_eq
 cases x with
 | str y =>
  obtain ⟨t, rfl⟩ := rx
  obtain ⟨hy, e'⟩ : y.length <= sizeLine /\ n = y.length := e
  subst e'
  exact len_str (by omega) ⟨.int _, H, I.tok _, ⟨_, rfl⟩, q⟩
 | byt y =>
  obtain ⟨t, rfl⟩ := rx
  obtain ⟨hy, e'⟩ : y.size <= sizeLine /\ n = y.size := e
  subst e'
  exact PySem.W.len_bytes (by omega) ⟨.int _, H, I.tok _, ⟨_, rfl⟩, q⟩
 | ref p =>
  cases rx
  have e' : (∃ xs, SqL X.K H p xs /\ n = xs.length) \/ ∃ xs, SqT X.K H p xs /\ n = xs.length := e
  rcases e' with ⟨xs, hx, e'⟩ | ⟨xs, hx, e'⟩
  ·subst e'
   obtain ⟨its, r', pl, hz⟩ := I.list hx
   have hlen := r'.length
   exact Calls.call_len_list pl.isList (by simp only [List.size_toArray]; omega) ⟨.int xs.length, H, I.tok _, ⟨_, by simp only [List.size_toArray]; rw [hlen]⟩, q⟩
  ·subst e'
   obtain ⟨its, r', pl, hz⟩ := I.tuple hx
   have hlen := r'.length
   exact len_tuple pl (by simp only [List.size_toArray]; omega) ⟨.int xs.length, H, I.tok _, ⟨_, by simp only [List.size_toArray]; rw [hlen]⟩, q⟩
 | _ => exact (show False from e).elim
end
structure ObjM (h : Heap) (x dx C : Addr) (mA : Str -> Option Value) : Prop where
 obj : h.get? x = some (PySem.W.instObj C dx)
 ns : h.Ns1 dx mA
 ne : dx ≠ x
theorem lookIn_ns {h : Heap} {dx : Addr} {mA : Str -> Option Value} (n : h.Ns1 dx mA) : ∃ od, h.get? dx = some od /\ ∀ name, PySem.W.lookIn name od = some (mA name) := by
 obtain ⟨o, es, ep, ho, hd, hk, _, hm⟩ := n
 refine ⟨o, ho, fun name => ?_⟩
 have e := hm name
 unfold nsFind findBy at e
 rw [<- Array.find?_toList] at e
 unfold PySem.W.lookIn
 rw [hd]
 dsimp only
 split
 ·rename_i y q
  rw [q] at e
  exact congrArg some e
 ·rename_i q
  rw [q] at e
  have a : es.toList.any (·.refKey) = false := by
   rw [List.any_eq_false]
   intro y hy
   obtain ⟨z, t, hkey⟩ := hk y (Array.mem_toList_iff.mp hy)
   simp [DictEntry.refKey, hkey]
  have a' : ¬ es.toList.any (·.refKey) = true := by rw [a]; exact Bool.false_ne_true
  rw [if_neg a']
  exact congrArg some e
theorem ObjM.look {h : Heap} {x dx C : Addr} {mA : Str -> Option Value} (I : ObjM h x dx C mA) : ∃ od, PySem.W.InstAt h x (PySem.W.instObj C dx) C (some od) /\ ∀ name, PySem.W.lookIn name od = some (mA name) :=
 let ⟨od, ho, hl⟩ := lookIn_ns I.ns
 ⟨od, ⟨I.obj, rfl, rfl, ho⟩, hl⟩
section
variable {prog : Program} {w : World} {A : Around} {E : Value -> Shared -> Prop} {s : Shared} {K : PySem.W.Frag} {x dx C f : Addr} {mA : Str -> Option Value} {name : Str} {v : Value}
end
theorem RelO.some_of {v : V} {o : Option Value} (r : RelO (some v) o) : ∃ u, o = some u /\ RelV v u := by
 cases o with
 | none => exact (show False from r).elim
 | some u => exact ⟨u, rfl, r⟩
section
variable {P : Program} {w : World} {H H' : Hp} {h h' : Heap} {a C dx : Addr} {fs fs' : List (Str × V)}
theorem ins_get (hok : HOk P w H h) (e : H a = some (.ins C dx fs)) : ∃ mA, ObjM h a dx C mA /\ (∀ f, RelO (fs.lookup f) (mA f)) /\ PySem.Within mA (fs.map (·.1)) /\ fs.length <= 1000 /\ H dx = some (.own a) := by
 obtain ⟨d, z, ne, ob, mA, n, r, q⟩ := (show ObjOk P w H h a (.ins C dx fs) from hok a _ e)
 exact ⟨mA, ⟨ob, n, ne⟩, r, q, z, d⟩
end
structure Cls (K : PySem.W.Frag) (C : Addr) : Prop where
 pg : PySem.W.plainGet K C Str.empty = true
 hd : PySem.W.hasDictIn K C = true
 po : PySem.W.plainOver K C = true
 sa : PySem.W.findIn K (.ref C) "__setattr__" = some (some (.builtin "object.__setattr__"))
theorem Cls.get {K : PySem.W.Frag} {C : Addr} (c : Cls K C) (f : Str) : PySem.W.plainGet K C f = true := c.pg
structure Con (K : PySem.W.Frag) (C : Addr) (f : Str) (v : V) (u : Value) : Prop where
 at_ : PySem.W.findIn K (.ref C) f = some (some u)
 rel : RelV v u
 get : PySem.W.specialIn K u "__get__" = some none
 cp : PySem.W.copiedNames.contains f = false
structure Meth (K : PySem.W.Frag) (C : Addr) (m : Str) (f : Addr) : Prop where
 at_ : PySem.W.findIn K (.ref C) m = some (some (.ref f))
 fn : PySem.W.isFn K (.ref f) = true
 kp : PySem.W.keepIn K (.ref f) = true
section
variable {X : Cx} {pins : List (Addr × Obj)} {σ : St} {H : Hp} {s : Shared} {a C dx : Addr} {fs : List (Str × V)} {f : Str} {v : V} {A : Around} {E : Value -> Shared -> Prop}
end
section
variable {X : Cx} {o e value : Expr} {f : Str} {pos pos' tpos : Pos} {ta tv : TE}
end
section
variable {X : Cx} {pins : List (Addr × Obj)} {σ : St} {H : Hp} {s : Shared} {A : Around} {E : Value -> Shared -> Prop} {Q : Value -> Shared -> Prop} {c : Value} {b : Bool}
inductive TyOf (K : PySem.W.Frag) (H : Hp) : V -> Value -> Prop where
 | non : TyOf K H .non (.type "NoneType")
 | bl (x : Bool) : TyOf K H (.bl x) (.type "bool")
 | int (i : Int) : TyOf K H (.int i) (.type "int")
 | str (x : Str) : TyOf K H (.str x) (.type "str")
 | flt (x : UInt64) : TyOf K H (.flt x) (.type "float")
 | lst {a : Addr} {xs : List V} (e : H a = some (.lst xs)) : TyOf K H (.ref a) (.type "list")
 | frz {a : Addr} {o : Obj} {xs : List V} (e : H a = some (.frz o (.lst xs))) : TyOf K H (.ref a) (.type "list")
 | tup {a : Addr} {xs : List V} (e : H a = some (.tup xs)) : TyOf K H (.ref a) (.type "tuple")
 | dK {a : Addr} {kvs : List (Key × V)} (e : H a = some (.dK kvs)) : TyOf K H (.ref a) (.type "dict")
 | dT {a : Addr} {kvs : List (List Key × V)} (e : H a = some (.dT kvs)) : TyOf K H (.ref a) (.type "dict")
 | ins {a C dx : Addr} {fs : List (Str × V)} (e : H a = some (.ins C dx fs)) (cl : Cls K C) (ha : PySem.W.findIn K (.ref C) "__class__" = some (some (.builtin "object.__class__")))
  (hn : PySem.W.specialIn K (.builtin "object.__class__") "__get__" = some (some (.builtin "getset_descriptor.__get__"))) (htk : PySem.W.takesIn K (.builtin "object.__class__") = some true)
  (hm : PySem.W.mroIn K C (.type "object") = some true) : TyOf K H (.ref a) (.ref C)
theorem isinst_ok {x : V} {u t : Value} (I : Inv X pins σ H s) (rx : RelV x u) (ty : TyOf X.K H x t) (e : PySem.W.kitOne X.K t c = some b) (h : ∀ tk, Q (.bool b) { s with toks := tk }) :
 wpAny (model X.prog X.w) A (call (.builtin "isinstance") [u, c]) Q E s := by
 cases ty with
 | non => cases (show u = Value.none from rx); exact PySem.W.kia_one PySem.W.kitx_none I.kIn True.intro e (fun z => nomatch z) h
 | bl y => cases (show u = Value.bool y from rx); exact PySem.W.kia_one PySem.W.kitx_bool I.kIn True.intro e (fun z => nomatch z) h
 | int i => obtain ⟨t, q⟩ := (show ∃ t, u = Value.int i t from rx); cases q; exact PySem.W.kia_one PySem.W.kitx_int I.kIn True.intro e (fun z => nomatch z) h
 | str y => obtain ⟨t, q⟩ := (show ∃ t, u = Value.str y t from rx); cases q; exact PySem.W.kia_one PySem.W.kitx_str I.kIn True.intro e (fun z => nomatch z) h
 | flt y => obtain ⟨t, q⟩ := (show ∃ t, u = Value.float y t from rx); cases q; exact PySem.W.kia_one PySem.W.kitx_float I.kIn True.intro e (fun z => nomatch z) h
 | @lst a xs ea =>
  cases (show u = Value.ref a from rx)
  obtain ⟨_, _, n, _, h1⟩ := (show ObjOk X.prog X.w H s.heap a (.lst xs) from I.hok a _ ea)
  exact PySem.W.kia_one PySem.W.kitx_list I.kIn ⟨_, h1, rfl⟩ e (fun z => nomatch z) h
 | @frz a ob xs ea =>
  cases (show u = Value.ref a from rx)
  obtain ⟨_, _, _, n, _, h1⟩ := (show ObjOk X.prog X.w H s.heap a (.frz ob (.lst xs)) from I.hok a _ ea)
  exact PySem.W.kia_one PySem.W.kitx_list I.kIn ⟨_, h1, rfl⟩ e (fun z => nomatch z) h
 | @tup a xs ea =>
  cases (show u = Value.ref a from rx)
  obtain ⟨_, _, _, p⟩ := (show ObjOk X.prog X.w H s.heap a (.tup xs) from I.hok a _ ea)
  obtain ⟨o, h1, h2, _⟩ := p
  exact PySem.W.kia_one PySem.W.kitx_tuple I.kIn ⟨o, h1, h2⟩ e (fun z => nomatch z) h
 | @dK a kvs ea =>
  cases (show u = Value.ref a from rx)
  obtain ⟨_, _, vs, _, p⟩ := (show ObjOk X.prog X.w H s.heap a (.dK kvs) from I.hok a _ ea)
  obtain ⟨o, es, ep, h1, h2, _⟩ := p
  exact PySem.W.kia_one PySem.W.kitx_dict I.kIn ⟨o, h1, h2.1⟩ e (fun z => nomatch z) h
 | @dT a kvs ea =>
  cases (show u = Value.ref a from rx)
  obtain ⟨_, _, xs, _, o, es, ep, h1, h2, _⟩ := (show ObjOk X.prog X.w H s.heap a (.dT kvs) from I.hok a _ ea)
  exact PySem.W.kia_one PySem.W.kitx_dict I.kIn ⟨o, h1, h2.1⟩ e (fun z => nomatch z) h
 | @ins a C dx fs ea cl ha hn htk hm =>
  cases (show u = Value.ref a from rx)
  obtain ⟨mA, O, _⟩ := ins_get I.hok ea
  obtain ⟨od, J, _⟩ := O.look
  exact PySem.W.kia_one (PySem.W.kitx_own (cl.get _) cl.hd ha hn htk hm) I.kIn J e (fun z => nomatch z) h
end
structure Room (k : Nat) (A : Around) : Prop where
 hd : A.handled = none
 dp : A.depth + 3 * k + 5 < recursionLimit
 un : A.units + 16 * k + 200 < cLine
 gd : A.guards = some []
theorem Room.mono {j k : Nat} {A : Around} (r : Room k A) (h : j <= k) : Room j A := ⟨r.hd, by have := r.dp; omega, by have := r.un; omega, r.gd⟩
theorem Room.deeper {k : Nat} {A : Around} (r : Room (k + 1) A) (env : Env) : Room k (A.deeper env) :=
 ⟨r.hd, by have := r.dp; show A.depth + 1 + 3 * k + 5 < _; omega, by have := r.un; show A.units + 3 + 16 * k + 200 < _; omega, r.gd⟩
theorem Room.depth {k : Nat} {A : Around} (r : Room k A) : A.depth < recursionLimit := by have := r.dp; omega
def tNil : TA := fun _ H Q => Q [] H
def tCons (ta : TE) (tr : TA) : TA := fun σ H Q => ta σ H fun x H1 => tr σ H1 fun xs H2 => Q (x :: xs) H2
section
variable {X : Cx} {e : Expr} {es : List Expr} {te : TE} {t : TA} {pos : Pos}
theorem pa_nil : PA X [] tNil := fun _ _ _ _ H Q I h => Calls.spliced_nil ⟨[], H, I, .nil, h⟩
theorem pa_cons (ha : PE X e te) (hr : PA X es t) (hs : starEach (e :: es) X.env = (false, eval e X.env) :: starEach es X.env := by rfl) : PA X (e :: es) (tCons te t) := by
 intro pos pins s σ H Q I h
 rw [hs]
 show wpAny _ _ (spliced ((false, eval e X.env) :: backTo pos (starEach es X.env))) _ _ s
 refine Calls.spliced_cons (thn (ha pins s σ H _ I h) fun u s1 ⟨x, H1, I1, r1, q1⟩ => ?_)
 exact thn (hr pos pins s1 σ H1 _ I1 q1) fun us s2 ⟨xs, H2, I2, r2, q2⟩ => ⟨x :: xs, H2, I2, .cons r1 r2, q2⟩
def tTup (t : TA) : TE := fun σ H Q => t σ H fun xs H1 => xs.length <= sizeLine /\ ∀ p, H1 p = none -> Q (.ref p) (upd H1 p (.tup xs))
def tLst (t : TA) : TE := fun σ H Q => t σ H fun xs H1 => xs.length <= sizeLine /\ ∀ p, H1 p = none -> Q (.ref p) (upd H1 p (.lst xs))
theorem pe_tup {x1} (h : PA X es t) : PE X (.Tuple es x1 pos) (tTup t) := by
 intro pins s σ H Q I hq
 refine wpAny_Tuple_spliced (thn (h pos pins s σ H _ I hq) fun us s1 ⟨xs, H1, I1, r, z, q⟩ => ⟨by rw [<- r.length]; exact z, ?_⟩)
 have hf : H1 s1.heap.objs.size = none := I1.hok.fresh (Nat.le_refl _)
 refine ⟨.ref s1.heap.objs.size, upd H1 s1.heap.objs.size (.tup xs), I1.laid (t' := s1.toks) (fun b u e => Heap.get?_push_of_some _ e) (Nat.le_refl _) ?_, rfl, q _ hf⟩
 exact ⟨z, us, r, ⟨_, Heap.get?_push_size _ rfl, rfl, ⟨_, rfl⟩, rfl⟩⟩
theorem pe_lst (h : PA X es t) : PE X (.List es pos) (tLst t) := by
 intro pins s σ H Q I hq
 refine wpAny_List_spliced (thn (h pos pins s σ H _ I hq) fun us s1 ⟨xs, H1, I1, r, z, q⟩ => ⟨by rw [<- r.length]; exact z, ?_⟩)
 have hf : H1 s1.heap.objs.size = none := I1.hok.fresh (Nat.le_refl _)
 refine ⟨.ref s1.heap.objs.size, upd H1 s1.heap.objs.size (.lst xs), I1.laid (t' := s1.toks) (fun b u e => Heap.get?_push_of_some _ e) (Nat.le_refl _) ?_, rfl, q _ hf⟩
 exact ⟨z, us, 0, r, Heap.get?_push_size _ rfl⟩
end
abbrev Sp := List V -> Hp -> VK -> XK -> Prop
abbrev CXT := List Env -> Hp -> Shared -> XK -> Value -> Shared -> Prop
structure Env0 (P : Program) (w : World) (K : PySem.W.Frag) (mg : Str -> Option Value) (base : Heap) (A : Around) (outer : List Env) (s : Shared) (H : Hp) : Prop where
 frames : A.frames = some outer
 mod : Mod K mg base
 bs : ∀ b o, base.get? b = some o -> s.heap.get? b = some o /\ H b = none
 bsz : base.objs.size <= s.heap.objs.size
 funs : s.heap.FunFrames base outer
 frf : ∀ b ∈ frs outer, H b = none
 hok : HOk P w H s.heap
 bare : AllBare s.gens
def CE (outer : List Env) (P : Program) (w : World) (H : Hp) (s : Shared) (Q : VK) (u : Value) (s' : Shared) : Prop :=
 ∃ v H', s'.os = s.os /\ AllBare s'.gens /\ Un (frs outer) [] H H' s.heap s'.heap /\ HOk P w H' s'.heap /\ RelV v u /\ Q v H'
def CR (CX : CXT) (outer : List Env) (P : Program) (w : World) (H : Hp) (s : Shared) (Q : VK) (E : XK) (r : Result) (s' : Shared) : Prop :=
 match r with
 | .ok (.ret u) => CE outer P w H s Q u s'
 | .ok _ => False
 | .error e => CX outer H s E e s'
structure FnOk (P : Program) (w : World) (K : PySem.W.Frag) (mg : Str -> Option Value) (base : Heap) (CX : CXT) (k : Nat) (f : Addr) (fd : FuncData) (ps : List Str) (sp : Sp) : Prop where
 len : ∀ vs H Q E, sp vs H Q E -> vs.length = ps.length
 run : ∀ (A : Around) (outer : List Env) (s : Shared) (H : Hp) (args : Args) (us : List Value) (vs : List V) (Q : VK) (E : XK), Room k A -> Env0 P w K mg base A outer s H -> BindsTo s fd args (ps.zip us) -> Vals vs us -> sp vs H Q E ->
  codeAny (model P w) A (.call (.ref f) args) (CR CX outer P w H s Q E) s
theorem FnOk.imp {P : Program} {w : World} {K : PySem.W.Frag} {mg : Str -> Option Value} {base : Heap} {CX : CXT} {k : Nat} {f : Addr} {fd : FuncData} {ps : List Str} {sp sp' : Sp} (F : FnOk P w K mg base CX k f fd ps sp)
 (h : ∀ vs H Q E, sp' vs H Q E -> sp vs H Q E) : FnOk P w K mg base CX k f fd ps sp' :=
 ⟨fun vs H Q E q => F.len vs H Q E (h _ _ _ _ q), fun A outer s H args us vs Q E hr he hb hv hs => F.run A outer s H args us vs Q E hr he hb hv (h _ _ _ _ hs)⟩
section
variable {X : Cx} {pins : List (Addr × Obj)} {σ : St} {H : Hp} {s s' : Shared}
theorem Inv.env0 (I : Inv X pins σ H s) : Env0 X.prog X.w X.K X.mg X.base X.A X.stack s H :=
 ⟨I.ok.frames, I.ok.mod, I.bs, Nat.le_trans I.ok.bsz I.sz, I.stack, I.stkFree, I.hok, I.bare⟩
theorem Inv.after {Q : VK} {u : Value} (I : Inv X pins σ H s) (h : CE X.stack X.prog X.w H s Q u s') : EP X pins σ Q u s' := by
 obtain ⟨v, H', os, bare, un, hok, r, q⟩ := h
 obtain ⟨hh, g, d, t, os'⟩ := s'
 obtain rfl : os' = s.os := os
 exact ⟨v, H', I.call (h' := hh) (g' := g) (d' := d) (t' := t) (ch := []) un hok bare (fun b z => absurd z (by simp)), r, q⟩
end
def tCall (sp : Sp) (dvs : List V) (E : XK) (t : TA) : TE := fun σ H Q => t σ H fun vs H1 => sp (vs ++ dvs) H1 Q E
def Binds (K : PySem.W.Frag) (fd : FuncData) (ps : List Str) (ds : List Value) : Prop :=
 ∀ (s : Shared) (us : List Value), K.In s.heap -> (us ++ ds).length = ps.length -> BindsTo s fd ⟨us, []⟩ (ps.zip (us ++ ds))
theorem Binds.all {K : PySem.W.Frag} {fd : FuncData} {ps : List Str} (h : ∀ us : List Value, us.length = ps.length -> bindArgs fd ⟨us, []⟩ = pure (ps.zip us)) : Binds K fd ps [] := fun s us _ hl => by
 rw [List.append_nil] at hl ⊢
 exact .of_eq (h us hl)
def Passes (CX : CXT) (X : Cx) (E : XK) : Prop := ∀ (pins : List (Addr × Obj)) (σ : St) (H : Hp) (s : Shared) (e : Value) (s' : Shared), Inv X pins σ H s -> CX X.stack H s E e s' -> X.xe e s'
section
variable {X : Cx} {CX : CXT} {k : Nat} {f C : Addr} {fd : FuncData} {ps : List Str} {sp : Sp} {dvs : List V} {ds : List Value} {E : XK} {x m : Str} {p pos apos : Pos} {e o : Expr} {es : List Expr} {ta : TE} {t : TA}
theorem run_fn {pins : List (Addr × Obj)} {σ : St} {H : Hp} {s : Shared} {Q : VK} {us : List Value} {vs : List V} (F : FnOk X.prog X.w X.K X.mg X.base CX k f fd ps sp) (hr : Room k X.A) (hb : Binds X.K fd ps ds) (hd : Vals dvs ds) (hx : Passes CX X E)
 (I : Inv X pins σ H s) (r : Vals vs us) (h : sp (vs ++ dvs) H Q E) : wpAny (model X.prog X.w) X.A (call (.ref f) us) (EP X pins σ Q) X.xe s := by
 have r2 : Vals (vs ++ dvs) (us ++ ds) := r.append hd
 have hl : (us ++ ds).length = ps.length := by rw [<- r2.length]; exact F.len _ _ _ _ h
 refine wpAny_call (codeAny_mono (F.run X.A X.stack s H ⟨us, []⟩ (us ++ ds) (vs ++ dvs) Q E hr I.env0 (hb s us I.kIn hl) r2 h) fun r s' hq => ?_)
 cases r with
 | error e => exact hx pins σ H s e s' I hq
 | ok fl =>
  cases fl with
  | ret u => exact I.after hq
  | next => exact False.elim hq
  | brk => exact False.elim hq
  | cont => exact False.elim hq
theorem pe_call (F : FnOk X.prog X.w X.K X.mg X.base CX k f fd ps sp) (hr : Room k X.A) (hg : Gl X x) (hm : X.mg x = some (.ref f)) (hk : PySem.W.keepIn X.K (.ref f) = true) (hb : Binds X.K fd ps ds) (hd : Vals dvs ds) (hx : Passes CX X E)
 (ha : PA X (e :: es) t) (hdb : (x == ("__debug__" : Str)) = false := by decide) (he : starEach (e :: es) X.env = (false, eval e X.env) :: starEach es X.env := by rfl) (hpl : (backTo pos (starEach es X.env)).any (·.1) = false := by rfl) :
 PE X (.Call (.Name x p) (e :: es) [] pos) (tCall sp dvs E t) := by
 intro pins s σ H Q I h
 refine wpAny_Call_Name_kw (ld_glob I hg hm ?_ hdb)
 refine PySem.W.callWith_K (h₀ := X.base) I.ok.mod.kin hk (thn (ha pos pins s σ H _ I h) fun us s1 ⟨vs, H1, I1, r, q⟩ => ⟨I1.kIn, ?_⟩) he hpl
 exact run_fn F hr hb hd hx I1 r q
structure Mk (K : PySem.W.Frag) (C f : Addr) : Prop where
 makes : PySem.W.makesIn K C = true
 init : PySem.W.findIn K (.ref C) "__init__" = some (some (.ref f))
 fn : PySem.W.isFn K (.ref f) = true
 kp : PySem.W.keepIn K (.ref C) = true
end
section
variable {X : Cx} {CX : CXT} {k : Nat} {f C : Addr} {fd : FuncData} {ps ks : List Str} {sp : Sp} {E : XK} {x m : Str} {p pos apos kpos : Pos} {e o : Expr} {es : List Expr} {kws : List Keyword} {te ta : TE} {t tk : TA} {nm : Option Str}
structure KBinds (K : PySem.W.Frag) (fd : FuncData) (ps ks : List Str) (g : List Value -> List Value -> List Value) (gV : List V -> List V -> List V) : Prop where
 to : ∀ (s : Shared) (us ws : List Value), K.In s.heap -> (g us ws).length = ps.length -> BindsTo s fd ⟨us, ks.zip ws⟩ (ps.zip (g us ws))
 rel : ∀ {vs : List V} {us : List Value} {zs : List V} {ws : List Value}, Vals vs us -> Vals zs ws -> Vals (gV vs zs) (g us ws)
variable {g : List Value -> List Value -> List Value} {gV : List V -> List V -> List V}
end
structure FnScope (N P : List Str) (sc : Scope) : Prop where
 kind : sc.kind = .function
 co : sc.isCoroutine = false
 gen : sc.isGenerator = false
 nd : N.Nodup
 pre : N.take P.length = P
 par : ∀ x ∈ P, sc.names.lookup x = some .local \/ sc.names.lookup x = some .cell
 nofree : ∀ y ∈ sc.names, y.2 ≠ .free
theorem bindL_out {kindOf : Str -> Option NameKind} {x : Str} : ∀ {binds : List (Str × Value)} {m : Str -> Option Value}, (∀ v, (x, v) ∉ binds) -> bindL kindOf binds m x = m x
 | [], _, _ => rfl
 | (n, v) :: r, m, h => by
  unfold bindL
  rw [bindL_out fun w hw => h w (List.mem_cons_of_mem _ hw)]
  split
  ·have : x ≠ n := by rintro rfl; exact h v List.mem_cons_self
   simp [this]
  ·rfl
theorem bindC_out {kindOf : Str -> Option NameKind} {x : Str} : ∀ {binds : List (Str × Value)} {m : Str -> Option Value}, (∀ v, (x, v) ∉ binds) -> bindC kindOf binds m x = m x
 | [], _, _ => rfl
 | (n, v) :: r, m, h => by
  unfold bindC
  rw [bindC_out fun w hw => h w (List.mem_cons_of_mem _ hw)]
  split
  ·rfl
  ·have : x ≠ n := by rintro rfl; exact h v List.mem_cons_self
   simp [this]
theorem bindL_get {kindOf : Str -> Option NameKind} {x : Str} {v : Value} : ∀ {P : List Str} {vs : List Value} {i : Nat} {m : Str -> Option Value}, P.Nodup -> P[i]? = some x -> vs[i]? = some v -> kindOf x = some .local ->
 bindL kindOf (P.zip vs) m x = some v
 | [], _, _, _, _, h, _, _ => by simp at h
 | _ :: _, [], _, _, _, _, h, _ => by simp at h
 | p :: P, w :: vs, 0, m, nd, h1, h2, hk => by
  simp at h1 h2; subst h1; subst h2
  show bindL kindOf ((p, w) :: P.zip vs) m p = _
  unfold bindL
  rw [bindL_out fun v hv => (List.nodup_cons.mp nd).1 (List.of_mem_zip hv).1, if_pos hk]
  simp
 | p :: P, w :: vs, i + 1, m, nd, h1, h2, hk => by
  show bindL kindOf ((p, w) :: P.zip vs) m x = _
  unfold bindL
  exact bindL_get (i := i) (List.nodup_cons.mp nd).2 (by simpa using h1) (by simpa using h2) hk
theorem bindC_get {kindOf : Str -> Option NameKind} {x : Str} {v : Value} : ∀ {P : List Str} {vs : List Value} {i : Nat} {m : Str -> Option Value}, P.Nodup -> P[i]? = some x -> vs[i]? = some v -> kindOf x ≠ some .local ->
 bindC kindOf (P.zip vs) m x = some v
 | [], _, _, _, _, h, _, _ => by simp at h
 | _ :: _, [], _, _, _, _, h, _ => by simp at h
 | p :: P, w :: vs, 0, m, nd, h1, h2, hk => by
  simp at h1 h2; subst h1; subst h2
  show bindC kindOf ((p, w) :: P.zip vs) m p = _
  unfold bindC
  rw [bindC_out fun v hv => (List.nodup_cons.mp nd).1 (List.of_mem_zip hv).1, if_neg hk]
  simp
 | p :: P, w :: vs, i + 1, m, nd, h1, h2, hk => by
  show bindC kindOf ((p, w) :: P.zip vs) m x = _
  unfold bindC
  exact bindC_get (i := i) (List.nodup_cons.mp nd).2 (by simpa using h1) (by simpa using h2) hk
def start (N : List Str) (vs : List V) : St := vs.map some ++ List.replicate (N.length - vs.length) none
def cxOf (CX : CXT) (P : Program) (w : World) (K : PySem.W.Frag) (mg : Str -> Option Value) (base : Heap) (N : List Str) (qual : Str) (scope : Scope) (f : Addr) (cd : Value) (A : Around) (outer : List Env) (s : Shared) (H : Hp) (E : XK) : Cx where
 prog := P
 w := w
 K := K
 mg := mg
 base := base
 A := A.deeper (envOfC qual scope s.heap.objs.size f cd)
 N := N
 s₀ := s
 H₀ := H
 env := envOfC qual scope s.heap.objs.size f cd
 outer := outer
 stack := envOfC qual scope s.heap.objs.size f cd :: outer
 ex := []
 calm := true
 fn := fun _ => true
 pn := []
 xe := fun e s' => wpAny (model P w) (A.deeper (envOfC qual scope s.heap.objs.size f cd)) (leaving (envOfC qual scope s.heap.objs.size f cd) e) (fun _ s'' => CX outer H s E e s'') (fun e' s'' => CX outer H s E e' s'') s'
theorem cell_has {sc : Scope} {n : Nat} {x : Str} (h : sc.names.lookup x = some .cell) : ∃ c, (cellsFrom n sc.names []).lookup x = some c := by
 have q := PySem.W.cellsFrom_some sc.names n [] (.inl h)
 exact Option.isSome_iff_exists.mp q
theorem inv_start {CX : CXT} {P : Program} {w : World} {K : PySem.W.Frag} {mg : Str -> Option Value} {base : Heap} {N ps : List Str} {qual : Str} {scope : Scope} {f : Addr} {cd : Value} {A : Around} {outer : List Env} {s s1 : Shared} {H : Hp} {E : XK} {us : List Value} {vs : List V}
 (S : FnScope N ps scope) (hd : A.handled = none) (e0 : Env0 P w K mg base A outer s H) (hl : vs.length = ps.length) (r : Vals vs us)
 (x : InCallC s s.heap.objs.size (bindL (envOfC qual scope s.heap.objs.size f cd).kindOf (ps.zip us) fun _ => none) (cellsFrom (s.heap.objs.size + 1) scope.names []) (bindC (envOfC qual scope s.heap.objs.size f cd).kindOf (ps.zip us) fun _ => none) s1) :
 Inv (cxOf CX P w K mg base N qual scope f cd A outer s H E) [] (start N vs) H s1 := by
 have hpl : ps.length <= N.length := by have := congrArg List.length S.pre; rw [List.length_take] at this; omega
 obtain ⟨h1, tk, rfl, hk⟩ := x.done
 have noA : ∀ b : Addr, b ∉ (cxOf CX P w K mg base N qual scope f cd A outer s H E).ex := fun b z => absurd (show b ∈ ([] : List Addr) from z) (by simp)
 refine ⟨⟨e0.mod, S.kind, rfl, rfl, Nat.le_refl _, fun y z c h1 h2 => ?_, fun y hy => ?_, fun y c _ h => ?_, fun _ => hd, Around.frames_deeper e0.frames, .inr ⟨rfl, rfl⟩, fun b z => absurd z (noA b), e0.bs, e0.bsz, fun b _ _ => noA b, fun b z => absurd z (noA b), e0.funs, e0.frf⟩,
  rfl, e0.bare, Un.kept hk, ⟨_, x.toInCall.ns, fun i y v h1 h2 h3 => ?_⟩, fun y c h => ⟨_, x.cell y c h⟩, e0.hok.fresh (Nat.le_refl _), fun y c h => ?_, fun p hp => absurd (show p ∈ ([] : List (Addr × Obj)) from hp) (by simp), e0.hok.kept hk, ?_⟩
 ·exact name_of_addr x.apart (PySem.mem_of_lookup h1) (PySem.mem_of_lookup h2)
 ·have hy : scope.names.lookup y = some .cell \/ scope.names.lookup y = some .free := hy
  rcases hy with hy | hy
  ·exact cell_has hy
  ·exact absurd rfl (S.nofree _ (PySem.mem_of_lookup hy))
 ·exact Nat.le_of_lt (x.above y c (PySem.mem_of_lookup h))
 ·have hi : i < vs.length := by
   unfold start at h2
   by_cases hi : i < vs.length
   ·exact hi
   ·rw [List.getElem?_append_right (by simpa using hi)] at h2
    rw [List.getElem?_replicate] at h2
    split at h2 <;> cases h2
  have ha : vs[i]? = some v := by
   unfold start at h2
   rw [List.getElem?_append_left (by simpa using hi), List.getElem?_map] at h2
   cases e : vs[i]? with
   | none => rw [e] at h2; cases h2
   | some a => rw [e] at h2; cases h2; rfl
  obtain ⟨u, hu, rv⟩ := r.get ha
  have hp : ps[i]? = some y := by
   rw [<- S.pre, List.getElem?_take_of_lt (by omega)]; exact h1
  have ndP : ps.Nodup := by rw [<- S.pre]; exact S.nd.sublist (List.take_sublist _ _)
  refine ⟨u, rv, ?_⟩
  rcases S.par y (List.mem_of_getElem? hp) with k | k
  ·exact .inl ⟨k, bindL_get ndP hp hu k⟩
  ·obtain ⟨c, e⟩ := cell_has (n := s.heap.objs.size + 1) k
   refine .inr ⟨.inl k, c, e, ?_⟩
   have q := x.cell y c e
   rw [bindC_get ndP hp hu (by show scope.names.lookup y ≠ _; rw [k]; decide)] at q
   exact q
 ·exact e0.hok.fresh (Nat.le_of_lt (x.above y c (PySem.mem_of_lookup h)))
 ·unfold start
  show _ = N.length
  rw [List.length_append, List.length_map, List.length_replicate]
  omega
theorem fn_of {CX : CXT} {P : Program} {w : World} {K : PySem.W.Frag} {mg : Str -> Option Value} {base : Heap} {k : Nat} {f : Addr} {name qual : Str} {params : Arguments} {body : List Stmt} {scope : Scope} {dV kV doc pm cdv ct oc : Value} {an od : Option Addr}
 {osl : Array (Option Value)} {N ps : List Str} {sp : Sp} (lk : K.lookup f = some ⟨oc, od, .func (PySem.W.fnOf name qual params body scope dV kV doc pm an cdv ct), osl⟩) (hcd : PySem.W.codeIn K cdv qual = true) (S : FnScope N ps scope)
 (len : ∀ vs H Q E, sp vs H Q E -> vs.length = ps.length)
 (hbody : ∀ (A : Around) (outer : List Env) (s : Shared) (H : Hp) (vs : List V) (Q : VK) (E : XK), Room k (A.deeper (envOfC qual scope s.heap.objs.size f cdv)) -> sp vs H Q E ->
   ∃ t, PSs (cxOf CX P w K mg base N qual scope f cdv A outer s H E) body t /\ t { nx := fun _ H' => Q .non H', rt := Q } (start N vs) H) :
 FnOk P w K mg base CX (k + 1) f (PySem.W.fnOf name qual params body scope dV kV doc pm an cdv ct) ps sp := by
 refine ⟨len, fun A outer s H args us vs Q E hr e0 hb r hsp => ?_⟩
 have hl := len _ _ _ _ hsp
 have KX : K.In s.heap := e0.mod.kin.keeps fun b o e => (e0.bs b o e).1
 have lim : s.heap.NoLimit := e0.mod.nolimit.keeps fun b o e => (e0.bs b o e).1
 have hkind : ∀ y ∈ ps.zip us, scope.names.lookup y.1 = some .local \/ (scope.names.lookup y.1 = some .cell /\ ((cellsFrom (s.heap.objs.size + 1) scope.names []).lookup y.1).isSome = true) := fun ⟨n, v⟩ hy => by
  rcases S.par n (List.of_mem_zip hy).1 with q | q
  ·exact .inl q
  ·exact .inr ⟨q, PySem.W.cellsFrom_some _ _ _ (.inl q)⟩
 refine codeAny_call_function hr.depth (KX _ _ lk) rfl S.co S.gen rfl (PySem.W.codeRec_of KX hcd) (hb _ _ _ _ ?_)
 refine wpAny_newFunctionEnv_cells S.kind hkind fun env he s1 x => ?_
 subst he
 refine ⟨lim.keeps x.toInCall.keep, codeAny_func ?_⟩
 obtain ⟨t, ht, hq⟩ := hbody A outer s H vs Q E (hr.deeper _) hsp
 have I : Inv (cxOf CX P w K mg base N qual scope f cdv A outer s H E) [] (start N vs) H s1 := inv_start S hr.hd e0 hl r x
 refine wpAny_mono (ht [] s1 (start N vs) H _ I hq) (fun fl s' hs => ?_) fun e s' hs => hs
 have fin : ∀ {σ' : St} {H' : Hp} {v : V} {u : Value}, Inv (cxOf CX P w K mg base N qual scope f cdv A outer s H E) [] σ' H' s' -> RelV v u -> Q v H' -> CE outer P w H s Q u s' :=
  fun {σ' H' v u} J rv q => ⟨v, H', J.os, J.bare, J.base, J.hok, rv, q⟩
 cases fl with
 | ret u =>
  obtain ⟨v, σ', H', J, rv, q⟩ := hs
  exact fin J rv q
 | next =>
  obtain ⟨σ', H', J, q⟩ := hs
  exact fin (v := V.non) (u := Value.none) J rfl q
 | brk =>
  obtain ⟨_, _, _, q⟩ := hs
  exact False.elim q
 | cont =>
  obtain ⟨_, _, _, q⟩ := hs
  exact False.elim q
section
variable {X : Cx} {x : Str} {p pos : Pos} {e : Expr} {es : List Expr} {t : TA} {id T : String} {r : List V -> Hp -> VK -> Prop}
def tCB (r : List V -> Hp -> VK -> Prop) (t : TA) : TE := fun σ H Q => t σ H fun vs H1 => r vs H1 Q
theorem pe_callB (hc : CallR X (.builtin id) r) (hg : Gl X x) (hm : X.mg x = none) (hv : bootBuiltins x = some (.builtin id)) (ha : PA X (e :: es) t) (hn : x ≠ "__name__" := by decide) (hdb : (x == ("__debug__" : Str)) = false := by decide)
 (he : starEach (e :: es) X.env = (false, eval e X.env) :: starEach es X.env := by rfl) (hpl : (backTo pos (starEach es X.env)).any (·.1) = false := by rfl) : PE X (.Call (.Name x p) (e :: es) [] pos) (tCB r t) := by
 intro pins s σ H Q I h
 refine wpAny_Call_Name_kw (ld_blt I hg hm hv ?_ hn hdb)
 exact PyProof.Rows.callWith_builtin1 (thn (ha pos pins s σ H _ I h) fun us s1 ⟨vs, H1, I1, r1, q1⟩ => hc pins s1 σ H1 vs us Q I1 r1 q1) he hpl
theorem pe_callTy (hc : CallR X (.type T) r) (hg : Gl X x) (hm : X.mg x = none) (hv : bootBuiltins x = some (.type T)) (ha : PA X (e :: es) t) (hn : x ≠ "__name__" := by decide) (hdb : (x == ("__debug__" : Str)) = false := by decide)
 (he : starEach (e :: es) X.env = (false, eval e X.env) :: starEach es X.env := by rfl) (hpl : (backTo pos (starEach es X.env)).any (·.1) = false := by rfl) : PE X (.Call (.Name x p) (e :: es) [] pos) (tCB r t) := by
 intro pins s σ H Q I h
 refine wpAny_Call_Name_kw (ld_blt I hg hm hv ?_ hn hdb)
 exact PyProof.Rows.callWith_type1 (thn (ha pos pins s σ H _ I h) fun us s1 ⟨vs, H1, I1, r1, q1⟩ => hc pins s1 σ H1 vs us Q I1 r1 q1) he hpl
end
end L2
namespace HT
open PySem PyProof.Rows
section
open PySem.SeqAt
open PySem.AutoSeq1 (wpAny_loadPart')
open PySem.MeetsSeq PySem.MeetsSeq2 PySem.MeetsSeq3
end
section
variable {prog : Program} {w : World} {A : Around} {E : Value -> Shared -> Prop} {s : Shared}
theorem cat_tup {t b : Addr} {vs ws : List Value} {Q : Value -> Shared -> Prop} (ht : IsTup s.heap t vs.toArray) (hb : IsTup s.heap b ws.toArray) (hv : vs ≠ [])
 (h1 : ws = [] -> Q (.ref t) s) (h2 : ws ≠ [] -> Q (.ref s.heap.objs.size) { s with heap := s.heap.push { cls := .type "tuple", data := .seq (vs ++ ws).toArray } })
 (hsz : vs.length + ws.length <= sizeLine) : wpAny (model prog w) A (binaryOp .Add (.ref t) (.ref b)) Q E s := by
 obtain ⟨⟨cls, dd, data, sl⟩, ho, hc, n, hd⟩ := id ht
 obtain ⟨⟨cls2, dd2, data2, sl2⟩, ho2, hc2, n2, hd2⟩ := id hb
 simp only at hc hd hc2 hd2
 subst hc hd hc2 hd2
 have e : vs.toArray ++ ws.toArray = (vs ++ ws).toArray := by simp
 by_cases hw : ws = []
 ·exact concat_meets ⟨_, ho, rfl⟩ ⟨_, ho2, rfl⟩ noFill_tuple_add seq_tuple_add PySem.F.slot_tuple_add PySem.F.entry_tuple_add (PySem.F.args_tuple_add_2 _ _)
   (tuple_addW1 t b vs.toArray ws.toArray n n2 dd dd2 sl sl2 (by simpa using hv) (by simp [hw])) ⟨ho, ho2, h1 hw⟩
 ·refine concat_meets ⟨_, ho, rfl⟩ ⟨_, ho2, rfl⟩ noFill_tuple_add seq_tuple_add PySem.F.slot_tuple_add PySem.F.entry_tuple_add (PySem.F.args_tuple_add_2 _ _)
   (tuple_addW2 t b vs.toArray ws.toArray n n2 dd dd2 sl sl2 (by simpa using hv) (by simpa using hw) (by rw [List.size_toArray, List.size_toArray]; exact hsz)) ⟨ho, ho2, ?_⟩
  rw [e]
  exact h2 hw
def sIx (n d : Nat) : Option Int -> Nat
 | none => d
 | some v => if v < 0 then (v + (n : Int)).toNat else min v.toNat n
theorem sIx_none (n d : Nat) : sIx n d none = d := rfl
theorem sIx_nat (n d k : Nat) : sIx n d (some (k : Int)) = min k n := by
 show (if (k : Int) < 0 then ((k : Int) + (n : Int)).toNat else min (k : Int).toNat n) = min k n
 rw [if_neg (by omega), Int.toNat_natCast]
theorem sIx_le (n d : Nat) (hd : d <= n) (o : Option Int) : sIx n d o <= n := by
 cases o with
 | none => exact hd
 | some v =>
  show (if v < 0 then (v + (n : Int)).toNat else min v.toNat n) <= n
  by_cases hv : v < 0
  ·rw [if_pos hv]; omega
  ·rw [if_neg hv]; exact Nat.min_le_right _ _
theorem clip_eq (v : Int) (n d : Nat) : (if v < 0 then max (v + (n : Int)) 0 else min v (n : Int)) = ((sIx n d (some v) : Nat) : Int) := by
 show (if v < 0 then max (v + (n : Int)) 0 else min v (n : Int)) = (((if v < 0 then (v + (n : Int)).toNat else min v.toNat n) : Nat) : Int)
 by_cases hv : v < 0
 ·simp only [if_pos hv]; omega
 ·simp only [if_neg hv]; omega
theorem adjust_gen (lo hi : Option Int) (n : Nat) : Builtin.Slice.sliceAdjust lo hi 1 (n : Int) = (((sIx n 0 lo : Nat) : Int), ((sIx n n hi : Nat) : Int)) := by
 have h1 : ¬ ((1 : Int) < 0) := by omega
 unfold Builtin.Slice.sliceAdjust
 simp only [h1, if_false]
 refine Prod.ext ?_ ?_
 ·cases lo with
  | none => rfl
  | some v => exact clip_eq v n 0
 ·cases hi with
  | none => rfl
  | some v => exact clip_eq v n n
theorem places_gen (i j : Nat) : Builtin.Slice.slicePlaces (i : Int) (j : Int) 1 = j - i := by
 unfold Builtin.Slice.slicePlaces
 have h1 : (1 : Int) > 0 := by omega
 simp only [h1, if_true, Int.ediv_one]
 split <;> omega
theorem slicePart_ {v : Value} {o : Option Int} {Q : Option Int -> Shared -> Prop} (p : IsPart v o) (h : Q o s) : wpAny (model prog w) A (Builtin.Slice.slicePartIndex v) Q E s := by
 cases p with
 | none => exact slicePart_none h
 | int i t => exact slicePart_int h
theorem sliceApplied_gen {sl : Addr} {vl vu : Value} {lo hi : Option Int} {n : Nat} {Q : Int × Int × Nat -> Shared -> Prop} (hs : s.heap.IsSliceOf sl vl vu .none) (pl : IsPart vl lo) (pu : IsPart vu hi)
 (h : Q (((sIx n 0 lo : Nat) : Int), 1, sIx n n hi - sIx n 0 lo) s) : wpAny (model prog w) A (Builtin.Slice.sliceApplied (.ref sl) (pure (n : Int))) Q E s := by
 obtain ⟨os, hos, hcs, hds⟩ := id hs
 unfold Builtin.Slice.sliceApplied Builtin.Slice.sliceFields
 refine wpAny_bind (wpAny_bind (wpAny_field hos hds (x := vl) rfl (wpAny_bind (wpAny_field hos hds (x := vu) rfl (wpAny_bind (wpAny_field hos hds (x := .none) rfl (wpAny_pure ?_)))))))
 refine wpAny_bind (slicePart_none ?_)
 show wpAny _ _ (if ((1 : Int) == 0) = true then _ else _) _ _ s
 rw [if_neg (by decide)]
 refine wpAny_bind (slicePart_ pl (wpAny_bind (slicePart_ pu (wpAny_bind (wpAny_pure ?_)))))
 show wpAny _ _ (match Builtin.Slice.sliceAdjust lo hi 1 (n : Int) with | (lo, hi) => pure (lo, (1 : Int), Builtin.Slice.slicePlaces lo hi 1)) _ _ s
 rw [adjust_gen lo hi n]
 show wpAny _ _ (pure (((sIx n 0 lo : Nat) : Int), (1 : Int), Builtin.Slice.slicePlaces ((sIx n 0 lo : Nat) : Int) ((sIx n n hi : Nat) : Int) 1)) _ _ s
 rw [places_gen]
 exact wpAny_pure h
theorem pick_gen (xs : Array Value) (i k : Nat) : ((List.range k).filterMap fun (m : Nat) => xs[((i : Int) + (m : Int) * 1).toNat]?).toArray = ((xs.toList.drop i).take k).toArray := by
 have e : (fun (m : Nat) => xs[((i : Int) + (m : Int) * 1).toNat]?) = fun m => xs[i + m]? := by
  funext m
  have : ((i : Int) + (m : Int) * 1).toNat = i + m := by omega
  rw [this]
 rw [e]
 have := pick_run xs i k
 rw [List.filterMap_map] at this
 have e2 : ((fun x => xs[x]?) ∘ fun x => i + x) = fun m => xs[i + m]? := rfl
 rw [e2] at this
 rw [this]
theorem getItem_tuple_cut {t sl : Addr} {items : Array Value} {vl vu : Value} {lo hi : Option Int} {Q : Value -> Shared -> Prop} (ht : IsTup s.heap t items) (hs : s.heap.IsSliceOf sl vl vu .none) (pl : IsPart vl lo) (pu : IsPart vu hi)
 (hw : ¬ (sIx items.size 0 lo = 0 /\ sIx items.size items.size hi = items.size))
 (h : Q (.ref s.heap.objs.size) { s with heap := s.heap.push { cls := .type "tuple", data := .seq ((items.toList.drop (sIx items.size 0 lo)).take (sIx items.size items.size hi - sIx items.size 0 lo)).toArray } })
 (hsz : items.size <= sizeLine) : wpAny (model prog w) A (getItem (.ref t) (.ref sl)) Q E s := by
 have htake : sizeOk (.seq ((items.toList.drop (sIx items.size 0 lo)).take (sIx items.size items.size hi - sIx items.size 0 lo)).toArray) := by
  show ((items.toList.drop (sIx items.size 0 lo)).take (sIx items.size items.size hi - sIx items.size 0 lo)).toArray.size <= sizeLine
  rw [List.size_toArray, List.length_take, List.length_drop, Array.length_toList]
  omega
 have hj : sIx items.size items.size hi <= items.size := sIx_le _ _ (Nat.le_refl _) hi
 obtain ⟨os, hos, hcs, hds⟩ := id hs
 have hTs : s.TypeIs (.ref sl) "slice" := ⟨os, hos, hcs⟩
 unfold getItem
 try with_reducible refine wpAny_holding ?_
 first | refine wpAny_bind (wpAny_pure ?_) | skip
 refine wpAny_bind (wpAny_sequenceKey ht.typeIs (by decide) ?_)
 refine wpAny_bind (wpAny_callSpecial?_slot (name := Str.ofString "__getitem__") ht.typeIs PyProof.Rows.slot_tuple_getitem
  (wpAny_call_entry PyProof.Rows.slot_tuple_getitem ht.typeIs entry_tuple_getitem ?_ (args_tuple_getitem _ _)))
 show wpAny _ _ (Builtin.Tuple.tupleItemsOf (.ref t) >>= _) _ _ s
 refine wpAny_bind (tupleItemsOf_ ht ?_)
 refine wpAny_bind (wpAny_typeOf hTs ?_)
 rw [if_pos (by decide)]
 refine wpAny_bind (sliceApplied_gen hs pl pu ?_)
 have hno : ¬ ((((sIx items.size 0 lo : Nat) : Int) == 0 && (1 : Int) == 1 && (sIx items.size items.size hi - sIx items.size 0 lo) == items.size) = true) := by
  intro q
  rw [Bool.and_eq_true, Bool.and_eq_true] at q
  have q1 : ((sIx items.size 0 lo : Nat) : Int) = 0 := eq_of_beq q.1.1
  have q2 : sIx items.size items.size hi - sIx items.size 0 lo = items.size := eq_of_beq q.2
  exact hw ⟨by omega, by omega⟩
 show wpAny _ _ (if (((sIx items.size 0 lo : Nat) : Int) == 0 && (1 : Int) == 1 && (sIx items.size items.size hi - sIx items.size 0 lo) == items.size) = true then _ else _) _ _ s
 rw [if_neg hno, pick_gen]
 first
  | exact wpAny_bind (m := Builtin.Tuple.tupleExact _) (wpAny_newObj_type (wpAny_pure ⟨_, rfl, wpAny_pure h⟩) htake)
  | exact wpAny_bind (m := Builtin.Tuple.tupleExact _) (wpAny_newObj_type (wpAny_bind (wpAny_pure (wpAny_pure ⟨_, rfl, wpAny_pure h⟩))) htake)
  | exact wpAny_bind (wpAny_bind (m := Builtin.Tuple.tupleExact _) (wpAny_newObj_type (wpAny_pure (wpAny_pure ⟨_, rfl, wpAny_pure h⟩)) htake))
  | exact wpAny_bind (wpAny_bind (m := Builtin.Tuple.tupleExact _) (wpAny_newObj_type (wpAny_pure ⟨_, rfl, wpAny_pure h⟩) htake))
end
end HT
namespace L2
open PySem PySem.Spec PyProof.Rows
abbrev TO := St -> Hp -> (Option Int -> Hp -> Prop) -> Prop
def PO (X : Cx) (e : Option Expr) (t : TO) : Prop :=
 ∀ (pins : List (Addr × Obj)) (s : Shared) (σ : St) (H : Hp) (Q : Option Int -> Hp -> Prop), Inv X pins σ H s -> t σ H Q ->
  wpAny (model X.prog X.w) X.A (evalPart e X.env) (fun u s' => ∃ o H', Inv X pins σ H' s' /\ IsPart u o /\ Q o H') X.xe s
def tNoPart : TO := fun _ H Q => Q none H
def tPart (t : TE) : TO := fun σ H Q => t σ H fun x H1 => ∃ i, x = .int i /\ Q (some i) H1
theorem intsAre_of {ns : List Int} : ∀ {us : List Value}, Vals (ns.map V.int) us -> IntsAre us ns := by
 induction ns with
 | nil => intro us r; rw [List.map_nil] at r; cases r; exact .nil
 | cons n ns ih =>
  intro us r
  rw [List.map_cons] at r
  cases r with
  | cons r1 r2 =>
   obtain ⟨t, e⟩ := r1
   subst e
   exact .cons n t (ih r2)
section
variable {X : Cx} {e : Expr} {te : TE} {lo hi : Option Expr} {tl th : TO} {pos p2 : Pos}
theorem po_none : PO X none tNoPart := by
 intro pins s σ H Q I h
 rw [evalPart_none]
 exact wpAny_pure ⟨none, H, I, .none, h⟩
theorem po_some (h : PE X e te) : PO X (some e) (tPart te) := by
 intro pins s σ H Q I hw
 rw [evalPart_some]
 refine thn (h pins s σ H _ I hw) fun u s1 ⟨x, H1, I1, r1, q1⟩ => ?_
 obtain ⟨i, rfl, q⟩ := q1
 obtain ⟨t, rfl⟩ := r1
 exact ⟨some i, H1, I1, .int i t, q⟩
def SlR (X : Cx) (r : V -> Option Int -> Option Int -> Hp -> VK -> Prop) : Prop :=
 ∀ (pins : List (Addr × Obj)) (s : Shared) (σ : St) (H : Hp) (x : V) (v vl vu : Value) (lo hi : Option Int) (sl : Addr) (Q : VK), Inv X pins σ H s -> RelV x v -> s.heap.IsSliceOf sl vl vu .none -> IsPart vl lo -> IsPart vu hi -> r x lo hi H Q ->
  ∃ T id, typeLookup (.type T) "__getitem__" = pure (some (.builtin id)) /\ s.TypeIs v T /\ wpAny (model X.prog X.w) X.A (getItem v (.ref sl)) (EP X pins σ Q) X.xe s
def tSl (r : V -> Option Int -> Option Int -> Hp -> VK -> Prop) (te : TE) (tl th : TO) : TE := fun σ H Q => te σ H fun x H1 => tl σ H1 fun l H2 => th σ H2 fun u H3 => r x l u H3 Q
theorem pe_slice {r : V -> Option Int -> Option Int -> Hp -> VK -> Prop} (hr : SlR X r) (he : PE X e te) (hl : PO X lo tl) (hu : PO X hi th) : PE X (.Subscript e (.Slice lo hi none p2) pos) (tSl r te tl th) := by
 intro pins s σ H Q I h
 refine Subscript_ (thn (he pins s σ H _ I h) fun v s1 ⟨x, H1, I1, r1, q1⟩ => ?_)
 refine wpAny_Slice (thn (hl pins s1 σ H1 _ I1 q1) fun vl s2 ⟨l, H2, I2, pl, q2⟩ => thn (hu pins s2 σ H2 _ I2 q2) fun vu s3 ⟨u, H3, I3, pu, q3⟩ => ?_)
 rw [evalPart_none]
 refine wpAny_pure ?_
 have I4 : Inv X pins σ H3 { s3 with heap := s3.heap.push { cls := .type "slice", data := .fields #[vl, vu, .none] } } := I3.kept (t' := s3.toks) fun b ob q => Heap.get?_push_of_some _ q
 obtain ⟨T, id, hT, ht, hg⟩ := hr pins { s3 with heap := s3.heap.push { cls := .type "slice", data := .fields #[vl, vu, .none] } } σ H3 x v vl vu l u s3.heap.objs.size Q I4 r1 (Heap.IsSliceOf.new ..) pl pu q3
 show wpAny (model X.prog X.w) X.A (subscriptTail e (.Slice lo hi none p2) v (.ref s3.heap.objs.size)) (EP X pins σ Q) X.xe { s3 with heap := s3.heap.push { cls := .type "slice", data := .fields #[vl, vu, .none] } }
 exact tail_any (ops := [.ref s3.heap.objs.size, v]) ht hT hg (by with_unfolding_all rfl)
def cutV (xs : List V) (lo hi : Option Int) : List V := (xs.drop (HT.sIx xs.length 0 lo)).take (HT.sIx xs.length xs.length hi - HT.sIx xs.length 0 lo)
theorem cutV_length (xs : List V) (lo hi : Option Int) : (cutV xs lo hi).length <= xs.length := by
 unfold cutV
 rw [List.length_take, List.length_drop]
 omega
def rSlT (K : PySem.W.Frag) : V -> Option Int -> Option Int -> Hp -> VK -> Prop := fun x lo hi H Q => ∃ a xs, x = .ref a /\ SqT K H a xs /\
 ¬ (HT.sIx xs.length 0 lo = 0 /\ HT.sIx xs.length xs.length hi = xs.length) /\ ∀ p, H p = none -> Q (.ref p) (upd H p (.tup (cutV xs lo hi)))
theorem sl_tup : SlR X (rSlT X.K) := by
 intro pins s σ H x v vl vu lo hi sl Q I rx hs pl pu h
 obtain ⟨a, xs, rfl, hx, hw, q⟩ := h
 cases rx
 obtain ⟨its, r, ht, hz⟩ := I.tuple hx
 have hlen : its.toArray.size = xs.length := by rw [List.size_toArray]; exact r.length.symm
 refine ⟨"tuple", _, PyProof.Rows.slot_tuple_getitem.lookup, ht.typeIs, ?_⟩
 refine HT.getItem_tuple_cut ht hs pl pu (by rw [hlen]; exact hw) ?_ (by rw [hlen]; exact hz)
 rw [hlen]
 refine ⟨.ref s.heap.objs.size, _, I.laid (t' := s.toks) (o := .tup (cutV xs lo hi)) (fun b ob q => Heap.get?_push_of_some _ q) (Nat.le_refl _) ?_, rfl, q _ (I.hok.fresh (Nat.le_refl _))⟩
 exact ⟨Nat.le_trans (cutV_length xs lo hi) hz, _, (r.drop (HT.sIx xs.length 0 lo)).take (HT.sIx xs.length xs.length hi - HT.sIx xs.length 0 lo), IsTupN.new _ _⟩
def rCatT (K : PySem.W.Frag) : R2 := fun x y H Q => ∃ a b xs ys, x = .ref a /\ y = .ref b /\ SqT K H a xs /\ SqT K H b ys /\ xs ≠ [] /\ xs.length + ys.length <= sizeLine /\
 (ys = [] -> Q (.ref a) H) /\ (ys ≠ [] -> ∀ p, H p = none -> Q (.ref p) (upd H p (.tup (xs ++ ys))))
theorem Vals.nil_iff {xs : List V} {us : List Value} (r : Vals xs us) : us = [] ↔ xs = [] := by
 cases r with
 | nil => simp
 | cons _ _ => simp
theorem op_catT : OpR X (binaryOp .Add) (rCatT X.K) := by
 intro pins s σ H x y v u Q I rx ry h
 obtain ⟨a, b, xs, ys, rfl, rfl, ha, hb, hx, hz, q1, q2⟩ := h
 cases rx
 cases ry
 obtain ⟨its, r1, p1, _⟩ := I.tuple ha
 obtain ⟨its2, r2, p2, _⟩ := I.tuple hb
 refine HT.cat_tup p1 p2 (fun z => hx (r1.nil_iff.mp z)) (fun z => ⟨.ref a, H, I, rfl, q1 (r2.nil_iff.mp z)⟩) (fun z => ?_) (by rw [<- r1.length, <- r2.length]; exact hz)
 refine ⟨.ref s.heap.objs.size, _, I.laid (t' := s.toks) (o := .tup (xs ++ ys)) (fun b ob q => Heap.get?_push_of_some _ q) (Nat.le_refl _) ?_, rfl, q2 (fun w => z (r2.nil_iff.mpr w)) _ (I.hok.fresh (Nat.le_refl _))⟩
 exact ⟨by rw [List.length_append]; exact hz, _, r1.append r2, IsTupN.new _ _⟩
end
def ixN (n : Nat) (i : Int) : Option Nat := if 0 <= i then (if i < n then some i.toNat else none) else if -(n : Int) <= i then some (i + n).toNat else none
def atI {α : Type} (xs : List α) (i : Int) : Option α := (ixN xs.length i).bind fun j => xs[j]?
theorem ixN_seq {n : Nat} {i : Int} {j : Nat} (h : ixN n i = some j) : seqIndex? i n = some j /\ j < n /\ -(n : Int) <= i /\ i < n := by
 unfold ixN at h
 by_cases h0 : 0 <= i
 ·rw [if_pos h0] at h
  by_cases h1 : i < n
  ·rw [if_pos h1] at h
   have e : i.toNat = j := Option.some.inj h
   exact ⟨by rw [seqIndex_of h0 h1, e], by omega, by omega, h1⟩
  ·rw [if_neg h1] at h; cases h
 ·rw [if_neg h0] at h
  by_cases h1 : -(n : Int) <= i
  ·rw [if_pos h1] at h
   have e : (i + n).toNat = j := Option.some.inj h
   exact ⟨by rw [seqIndex_neg (by omega) h1, e], by omega, h1, by omega⟩
  ·rw [if_neg h1] at h; cases h
theorem atI_get {α : Type} {xs : List α} {i : Int} {v : α} (h : atI xs i = some v) : ∃ j, seqIndex? i xs.length = some j /\ xs[j]? = some v /\ j < xs.length /\ -(xs.length : Int) <= i /\ i < xs.length := by
 unfold atI at h
 cases e : ixN xs.length i with
 | none => rw [e] at h; cases h
 | some j =>
  rw [e] at h
  obtain ⟨h1, h2, h3, h4⟩ := ixN_seq e
  exact ⟨j, h1, h, h2, h3, h4⟩
def PlainIx (b : Expr) : Prop := ∀ o i, subscripted b false o i = operate [o, i] (getItem o i)
def IxR (X : Cx) (r : R2) : Prop :=
 ∀ (value slice : Expr) (pins : List (Addr × Obj)) (s : Shared) (σ : St) (H : Hp) (x y : V) (v u : Value) (Q : VK), Inv X pins σ H s -> RelV x v -> RelV y u -> r x y H Q ->
  subscripted slice false v u = operate [v, u] (getItem v u) -> wpAny (model X.prog X.w) X.A (subscriptTail value slice v u) (EP X pins σ Q) X.xe s
def MtR (X : Cx) (id : String) (r : V -> List V -> Hp -> VK -> Prop) : Prop :=
 ∀ (pins : List (Addr × Obj)) (s : Shared) (σ : St) (H : Hp) (x : V) (xs : List V) (v : Value) (us : List Value) (Q : VK), Inv X pins σ H s -> RelV x v -> Vals xs us -> r x xs H Q ->
  wpAny (model X.prog X.w) X.A (call (.builtin id) (v :: us)) (EP X pins σ Q) X.xe s
section
variable {X : Cx} {a b : Expr} {ta tb : TE} {pos : Pos}
theorem IxR.or {r r' : R2} (h : IxR X r) (h' : IxR X r') : IxR X (fun x y H Q => r x y H Q \/ r' x y H Q) := by
 intro value slice pins s σ H x y v u Q I rx ry q hs
 rcases q with q | q
 ·exact h value slice pins s σ H x y v u Q I rx ry q hs
 ·exact h' value slice pins s σ H x y v u Q I rx ry q hs
theorem pe_ix {r : R2} (hr : IxR X r) (ha : PE X a ta) (hb : PE X b tb) (hs : PlainIx b) : PE X (.Subscript a b pos) (tOp r ta tb) := by
 intro pins s σ H Q I h
 exact Subscript_ (binT ha hb I h fun v u s2 x y H2 I2 rx ry q => hr a b pins s2 σ H2 x y v u Q I2 rx ry q (hs _ _))
def rIxL (K : PySem.W.Frag) : R2 := fun x y H Q => ∃ p xs i v, x = .ref p /\ y = .int i /\ SqL K H p xs /\ atI xs i = some v /\ Q v H
def rIxT (K : PySem.W.Frag) : R2 := fun x y H Q => ∃ p xs i v, x = .ref p /\ y = .int i /\ SqT K H p xs /\ atI xs i = some v /\ Q v H
def rIxS : R2 := fun x y H Q => ∃ z i c, x = .str z /\ y = .int i /\ z.length <= sizeLine /\ atI z.cps.toList i = some c /\ Q (.str ⟨#[c]⟩) H
theorem ix_list : IxR X (rIxL X.K) := by
 intro value slice pins s σ H x y v u Q I rx ry h hs
 obtain ⟨p, xs, i, z, rfl, rfl, hq, he, q⟩ := h
 cases rx
 obtain ⟨t, rfl⟩ := ry
 obtain ⟨its, r, pl, hz⟩ := I.list hq
 obtain ⟨j, h1, h2, h3, h4, h5⟩ := atI_get he
 obtain ⟨w, ew, rw'⟩ := r.get h2
 have hl := r.length
 have hn := line63
 have fin : EP X pins σ Q w s := ⟨z, H, I, rw', q⟩
 by_cases h0 : 0 <= i
 ·have hj : i.toNat = j := by
   rw [seqIndex_of h0 h5] at h1
   exact Option.some.inj h1
  exact item_listR pl.isList h0 (by omega) (by rw [hj]; simpa using ew) fin hs
 ·have hj : (i + (its.toArray.size : Int)).toNat = j := by
   rw [seqIndex_neg (by omega) h4] at h1
   rw [List.size_toArray, <- hl]
   exact Option.some.inj h1
  exact subscriptTail_builtinR (x := w) pl.isList.typeIs slot_list_getitem.lookup
   (wpAny_getItem_list_neg (Q := fun r s' => r = w /\ EP X pins σ Q r s') pl.isList (by omega) (by rw [List.size_toArray] <;> omega) (by omega) (by rw [hj]; simpa using ew) ⟨rfl, fin⟩) hs
theorem ix_tup : IxR X (rIxT X.K) := by
 intro value slice pins s σ H x y v u Q I rx ry h hs
 obtain ⟨p, xs, i, z, rfl, rfl, hq, he, q⟩ := h
 cases rx
 obtain ⟨t, rfl⟩ := ry
 obtain ⟨its, r, pl, hz⟩ := I.tuple hq
 obtain ⟨j, h1, h2, h3, h4, h5⟩ := atI_get he
 obtain ⟨w, ew, rw'⟩ := r.get h2
 have hl := r.length
 have hn := line63
 have fin : EP X pins σ Q w s := ⟨z, H, I, rw', q⟩
 exact subscriptTail_builtinR (x := w) pl.typeIs slot_tuple_getitem.lookup
  (getItem_tuple (j := j) (Q := fun r s' => r = w /\ EP X pins σ Q r s') pl (by omega) (by omega) (by rw [List.size_toArray, <- hl]; exact h1) (by simpa using ew) ⟨rfl, fin⟩) hs
theorem ix_str : IxR X rIxS := by
 intro value slice pins s σ H x y v u Q I rx ry h hs
 obtain ⟨z, i, c, rfl, rfl, hz, he, q⟩ := h
 obtain ⟨t, rfl⟩ := rx
 obtain ⟨t', rfl⟩ := ry
 obtain ⟨j, h1, h2, h3, h4, h5⟩ := atI_get he
 have hl : z.cps.toList.length = z.length := by simp [Str.length]
 rw [hl] at h1 h4 h5
 have hn := line63
 exact tail_any (typeIs_str s z t) slot_str_getitem.lookup (getItem_str (c := c) (by
  have e1 : decide (i < -(2 ^ 63 : Int)) = false := decide_eq_false (by omega)
  have e2 : decide (i ≥ 2 ^ 63) = false := decide_eq_false (by omega)
  rw [e1, e2, Bool.or_false]) (by rw [h1]; simpa using h2) ⟨.str ⟨#[c]⟩, H, I.tok _, ⟨_, rfl⟩, q⟩) hs
def rIx (K : PySem.W.Frag) : R2 := fun x y H Q => rIxL K x y H Q \/ rIxT K x y H Q \/ rIxS x y H Q
theorem ix_seq : IxR X (rIx X.K) := ix_list.or (ix_tup.or ix_str)
theorem mapSeq_set (its : List Value) (n j : Nat) (u : Value) : Obj.mapSeq (·.setIfInBounds j u) { cls := .type "list", data := .seq its.toArray n } = { cls := .type "list", data := .seq (its.set j u).toArray n } := by
 simp [Obj.mapSeq]
theorem Inv.lst {pins : List (Addr × Obj)} {σ : St} {H : Hp} {s : Shared} {p : Addr} {xs : List V} (I : Inv X pins σ H s) (h : H p = some (.lst xs)) :
 ∃ (its : List Value) (n : Nat), Vals xs its /\ s.heap.get? p = some { cls := .type "list", data := .seq its.toArray n } /\ xs.length <= sizeLine := by
 obtain ⟨z, its, n, r, e⟩ := I.hok p _ h
 exact ⟨its, n, r, e, z⟩
theorem Inv.lstUpd {pins : List (Addr × Obj)} {σ : St} {H : Hp} {s : Shared} {p : Addr} {xs ys : List V} {its its' : List Value} {n n' : Nat} {f : Obj -> Obj} (I : Inv X pins σ H s) (h : H p = some (.lst xs))
 (ho : s.heap.get? p = some { cls := .type "list", data := .seq its.toArray n }) (hf : f { cls := .type "list", data := .seq its.toArray n } = { cls := .type "list", data := .seq its'.toArray n' }) (r : Vals ys its') (hz : ys.length <= sizeLine) (t : Nat) :
 Inv X pins σ (upd H p (.lst ys)) { s with heap := s.heap.update p f, toks := t } := by
 have e : (s.heap.update p f).get? p = some { cls := .type "list", data := .seq its'.toArray n' } := by
  rw [Heap.get?_update_self f ho (by rw [hf] <;> rfl), hf]
 refine I.write (x := p) (e := p) (by rw [h]; trivial) (.inl rfl) (fun b u hb q => (Heap.get?_update_other _ _ (Ne.symm hb)).trans q) ⟨_, e⟩ ?_
 exact ⟨hz, its', n', r, e⟩
def rSetL : V -> V -> V -> Hp -> (Hp -> Prop) -> Prop := fun o i v H Q => ∃ p xs k j, o = .ref p /\ i = .int k /\ H p = some (.lst xs) /\ ixN xs.length k = some j /\ Q (upd H p (.lst (xs.set j v)))
theorem set_list : PSet X rSetL := by
 intro pins s σ H o i v ov iv u Q I ro ri rv h
 obtain ⟨p, xs, k, j, rfl, rfl, hp, hj, q⟩ := h
 cases ro
 obtain ⟨t, rfl⟩ := ri
 obtain ⟨its, n, r, ho, hz⟩ := I.lst hp
 obtain ⟨h1, h2, h3, h4⟩ := ixN_seq hj
 have hl := r.length
 have hn := line63
 have I' : Inv X pins σ (upd H p (.lst (xs.set j v))) { s with heap := s.heap.update p (Obj.mapSeq (·.setIfInBounds j u)) } :=
  I.lstUpd hp ho (mapSeq_set its n j u) (r.set rv j) (by rw [List.length_set]; exact hz) s.toks
 by_cases h0 : 0 <= k
 ·have hk : k.toNat = j := by
   rw [seqIndex_of h0 h4] at h1
   exact Option.some.inj h1
  exact PySem.W.ki_setAt ho h0 (by omega) (by rw [List.size_toArray, <- hl]; exact h4) (by rw [hk]; exact ⟨_, I', q⟩)
 ·have hk : (k + (its.toArray.size : Int)).toNat = j := by
   rw [seqIndex_neg (by omega) h3] at h1
   rw [List.size_toArray, <- hl]
   exact Option.some.inj h1
  exact PySem.W.ki_setBack ho (by omega) (by rw [List.size_toArray, <- hl]; exact h3) (by omega) (by rw [hk]; exact ⟨_, I', q⟩)
theorem slice_bounds (lo hi : Option Int) (n : Nat) : (sliceBounds lo hi none n).1 = ((HT.sIx n 0 lo : Nat) : Int) /\ (sliceBounds lo hi none n).2.1 = ((HT.sIx n n hi : Nat) : Int) /\ (sliceBounds lo hi none n).2.2 = 1 := by
 refine ⟨?_, ?_, rfl⟩
 ·cases lo with
  | none => simp [sliceBounds, HT.sIx]
  | some i =>
   simp only [sliceBounds, HT.sIx, Option.getD_none, show (1 : Int) > 0 by decide, if_true]
   by_cases h : i < 0
   ·simp only [h, if_true] <;> omega
   ·simp only [h, if_false] <;> omega
 ·cases hi with
  | none => simp [sliceBounds, HT.sIx]
  | some i =>
   simp only [sliceBounds, HT.sIx, Option.getD_none, show (1 : Int) > 0 by decide, if_true]
   by_cases h : i < 0
   ·simp only [h, if_true] <;> omega
   ·simp only [h, if_false] <;> omega
theorem slicePick_cut (its : List Value) (lo hi : Option Int) : slicePick its.toArray lo hi none = ((its.drop (HT.sIx its.length 0 lo)).take (HT.sIx its.length its.length hi - HT.sIx its.length 0 lo)).toArray := by
 obtain ⟨h1, h2, h3⟩ := slice_bounds lo hi its.toArray.size
 unfold slicePick
 rw [h1, h2, h3]
 simp only [sliceRange_one, pick_run, List.size_toArray] <;> rfl
def rSlL (K : PySem.W.Frag) : V -> Option Int -> Option Int -> Hp -> VK -> Prop := fun x lo hi H Q => ∃ a xs, x = .ref a /\ SqL K H a xs /\ ∀ p, H p = none -> Q (.ref p) (upd H p (.lst (cutV xs lo hi)))
theorem sl_list : SlR X (rSlL X.K) := by
 intro pins s σ H x v vl vu lo hi sl Q I rx hs pl pu h
 obtain ⟨a, xs, rfl, hx, q⟩ := h
 cases rx
 obtain ⟨its, r, ht, hz⟩ := I.list hx
 have hlen := r.length
 refine ⟨"list", _, slot_list_getitem.lookup, ht.isList.typeIs, ?_⟩
 refine wpAny_getItem_list_slice ht.isList hs pl pu .none (by simp) ?_ (by rw [List.size_toArray] <;> omega)
 rw [slicePick_cut, <- hlen]
 refine ⟨.ref s.heap.objs.size, _, I.laid (t' := s.toks) (o := .lst (cutV xs lo hi)) (fun b ob q => Heap.get?_push_of_some _ q) (Nat.le_refl _) ?_, rfl, q _ (I.hok.fresh (Nat.le_refl _))⟩
 exact ⟨Nat.le_trans (cutV_length xs lo hi) hz, _, 0, (r.drop (HT.sIx xs.length 0 lo)).take (HT.sIx xs.length xs.length hi - HT.sIx xs.length 0 lo), Heap.get?_push_size _ rfl⟩
def flatV : V -> Bool
 | .non => true
 | .bl _ => true
 | .int _ => true
 | .str _ => true
 | _ => false
def eqV : V -> V -> Bool
 | .non, .non => true
 | .bl a, .bl b => a == b
 | .bl a, .int b => (if a then 1 else 0) == b
 | .int a, .bl b => a == (if b then 1 else 0)
 | .int a, .int b => a == b
 | .str a, .str b => a == b
 | _, _ => false
theorem eqAt_V {A : Around} {s : Shared} {y x : V} {u v : Value} (ry : RelV y u) (rx : RelV x v) (fy : flatV y = true) (fx : flatV x = true) : SeqAt.EqAt A s u v (eqV y x) := by
 cases y with
 | non =>
  cases ry
  cases x with
  | non => cases rx; exact SeqAt.EqAt.same _
  | bl b => cases rx; exact SeqAt.EqAt.none_bool b
  | int b => obtain ⟨t, rfl⟩ := rx; exact SeqAt.EqAt.none_int b t
  | str b => obtain ⟨t, rfl⟩ := rx; exact SeqAt.EqAt.none_str b t
  | _ => exact absurd (show false = true from fx) Bool.false_ne_true
 | bl a =>
  cases ry
  cases x with
  | non => cases rx; exact SeqAt.EqAt.bool_none a
  | bl b => cases rx; exact SeqAt.EqAt.bool_bool a b
  | int b => obtain ⟨t, rfl⟩ := rx; exact SeqAt.EqAt.bool_int a b t
  | str b => obtain ⟨t, rfl⟩ := rx; exact SeqAt.EqAt.bool_str a b t
  | _ => exact absurd (show false = true from fx) Bool.false_ne_true
 | int a =>
  obtain ⟨t', rfl⟩ := ry
  cases x with
  | non => cases rx; exact SeqAt.EqAt.int_none a t'
  | bl b => cases rx; exact SeqAt.EqAt.int_bool a t' b
  | int b => obtain ⟨t, rfl⟩ := rx; exact SeqAt.EqAt.int_int a t' b t
  | str b => obtain ⟨t, rfl⟩ := rx; exact SeqAt.EqAt.int_str a t' b t
  | _ => exact absurd (show false = true from fx) Bool.false_ne_true
 | str a =>
  obtain ⟨t', rfl⟩ := ry
  cases x with
  | non => cases rx; exact SeqAt.EqAt.str_none a t'
  | bl b => cases rx; exact SeqAt.EqAt.str_bool a t' b
  | int b => obtain ⟨t, rfl⟩ := rx; exact SeqAt.EqAt.str_int a t' b t
  | str b => obtain ⟨t, rfl⟩ := rx; exact SeqAt.EqAt.str_str a t' b t
  | _ => exact absurd (show false = true from fx) Bool.false_ne_true
 | _ => exact absurd (show false = true from fy) Bool.false_ne_true
def eqU (x : V) (u : Value) : Bool := match u with
 | .none => eqV .non x
 | .bool b => eqV (.bl b) x
 | .int i _ => eqV (.int i) x
 | .str z _ => eqV (.str z) x
 | _ => false
theorem eqU_of {x y : V} {u : Value} (r : RelV y u) (f : flatV y = true) : eqU x u = eqV y x := by
 cases y with
 | non => cases r; rfl
 | bl b => cases r; rfl
 | int i => obtain ⟨t, rfl⟩ := r; rfl
 | str z => obtain ⟨t, rfl⟩ := r; rfl
 | _ => exact absurd (show false = true from f) Bool.false_ne_true
theorem any_eqU {x : V} : ∀ {xs : List V} {us : List Value}, Vals xs us -> xs.all flatV = true -> us.any (eqU x) = xs.any fun y => eqV y x
 | _, _, .nil, _ => rfl
 | y :: xs, u :: us, .cons r t, f => by
  rw [List.all_cons, Bool.and_eq_true] at f
  rw [List.any_cons, List.any_cons, eqU_of r f.1, any_eqU t f.2]
theorem mem_eqAt {A : Around} {s : Shared} {x : V} {v : Value} (rx : RelV x v) (fx : flatV x = true) : ∀ {xs : List V} {us : List Value}, Vals xs us -> xs.all flatV = true -> ∀ u ∈ us, SeqAt.EqAt A s u v (eqU x u)
 | _, _, .nil, _ => fun u hu => by cases hu
 | y :: xs, u :: us, .cons r t, f => fun u' hu => by
  rw [List.all_cons, Bool.and_eq_true] at f
  rcases List.mem_cons.mp hu with rfl | hu
  ·rw [eqU_of r f.1]; exact eqAt_V r rx f.1 fx
  ·exact mem_eqAt rx fx t f.2 u' hu
def inV (x : V) (xs : List V) : Bool := xs.any fun y => eqV y x
def rIn (K : PySem.W.Frag) (neg : Bool) : R2 := fun x y H Q => ∃ p xs, y = .ref p /\ (SqL K H p xs \/ SqT K H p xs) /\ flatV x = true /\ xs.all flatV = true /\ Q (.bl (if neg then !inV x xs else inV x xs)) H
theorem op_in_seq : OpR X (compareOp .In) (rIn X.K false) := by
 intro pins s σ H x y v u Q I rx ry h
 obtain ⟨p, xs, rfl, hq, fx, fs, q⟩ := h
 cases ry
 rcases hq with hq | hq
 ·obtain ⟨its, r, pl, hz⟩ := I.list hq
  refine SeqAt.in_listAt (eqU x) pl.isList (fun w hw => mem_eqAt rx fx r fs w (by simpa using hw)) ⟨.bl _, H, I, rfl, ?_⟩
  rw [show its.toArray.any (eqU x) = its.any (eqU x) by simp, any_eqU r fs]
  exact q
 ·obtain ⟨its, r, pl, hz⟩ := I.tuple hq
  refine SeqAt.in_tupleAt (eqU x) pl (fun w hw => mem_eqAt rx fx r fs w (by simpa using hw)) ⟨.bl _, H, I, rfl, ?_⟩
  rw [show its.toArray.any (eqU x) = its.any (eqU x) by simp, any_eqU r fs]
  exact q
theorem op_notIn_seq : OpR X (compareOp .NotIn) (rIn X.K true) := by
 intro pins s σ H x y v u Q I rx ry h
 obtain ⟨p, xs, rfl, hq, fx, fs, q⟩ := h
 cases ry
 rcases hq with hq | hq
 ·obtain ⟨its, r, pl, hz⟩ := I.list hq
  refine SeqAt.notIn_listAt (eqU x) pl.isList (fun w hw => mem_eqAt rx fx r fs w (by simpa using hw)) ⟨.bl _, H, I, rfl, ?_⟩
  rw [show its.toArray.any (eqU x) = its.any (eqU x) by simp, any_eqU r fs]
  exact q
 ·obtain ⟨its, r, pl, hz⟩ := I.tuple hq
  refine SeqAt.notIn_tupleAt (eqU x) pl (fun w hw => mem_eqAt rx fx r fs w (by simpa using hw)) ⟨.bl _, H, I, rfl, ?_⟩
  rw [show its.toArray.any (eqU x) = its.any (eqU x) by simp, any_eqU r fs]
  exact q
theorem call_list_of : CallR X (.type "list") (fun xs H Q => ∃ p ys, xs = [.ref p] /\ (SqL X.K H p ys \/ SqT X.K H p ys) /\ ∀ l, H l = none -> Q (.ref l) (upd H l (.lst ys))) := by
 intro pins s σ H xs us Q I r h
 obtain ⟨p, ys, rfl, hq, q⟩ := h
 obtain ⟨u, rfl, rx⟩ := vals1 r
 cases rx
 have fin : ∀ (its : List Value), Vals ys its -> ys.length <= sizeLine -> ∀ (h' : Heap) (c' : Nat), (∀ b o', s.heap.get? b = some o' -> h'.get? b = some o') ->
  h'.get? s.heap.objs.size = some { cls := .type "list", dict := none, data := .seq its.toArray c', slots := #[] } -> EP X pins σ Q (.ref s.heap.objs.size) { s with heap := h' } := fun its r' hz h' c' kp e =>
  ⟨.ref s.heap.objs.size, _, I.laid (t' := s.toks) kp (Nat.le_refl _) (show ObjOk X.prog X.w _ h' _ (.lst ys) from ⟨hz, its, c', r', e⟩), rfl, q _ (I.hok.fresh (Nat.le_refl _))⟩
 rcases hq with hq | hq
 ·obtain ⟨its, r', pl, hz⟩ := I.list hq
  have hlen := r'.length
  obtain ⟨o, ho, hc, n, hd⟩ := pl.isList
  exact call_list_seq p (.inl rfl) ho hc hd (fun h' c' kp e => fin its r' hz h' c' kp e) (by simp only [List.size_toArray] <;> omega)
 ·obtain ⟨its, r', pl, hz⟩ := I.tuple hq
  have hlen := r'.length
  obtain ⟨o, ho, hc, n, hd⟩ := pl
  exact call_list_seq p (.inr rfl) ho hc hd (fun h' c' kp e => fin its r' hz h' c' kp e) (by simp only [List.size_toArray] <;> omega)
theorem call_tuple_of : CallR X (.type "tuple") (fun xs H Q => ∃ p ys, xs = [.ref p] /\ ((SqL X.K H p ys /\ ∀ l, H l = none -> Q (.ref l) (upd H l (.tup ys))) \/ (SqT X.K H p ys /\ Q (.ref p) H))) := by
 intro pins s σ H xs us Q I r h
 obtain ⟨p, ys, rfl, h⟩ := h
 obtain ⟨u, rfl, rx⟩ := vals1 r
 cases rx
 rcases h with ⟨hq, q⟩ | ⟨hq, q⟩
 ·obtain ⟨its, r', pl, hz⟩ := I.list hq
  have hlen := r'.length
  refine call_tuple_list pl.isList (fun h' kp => ?_) (by simp only [List.size_toArray] <;> omega)
  have I1 : Inv X pins σ H { s with heap := h' } := I.kept (t' := s.toks) kp
  have I2 : Inv X pins σ (upd H h'.objs.size (.tup ys)) { s with heap := h'.push { cls := .type "tuple", data := .seq its.toArray } } :=
   I1.laid (t' := s.toks) (fun b o e => Heap.get?_push_of_some _ e) (Nat.le_refl _) (show ObjOk X.prog X.w _ _ _ (.tup ys) from ⟨hz, its, r', IsTupN.new _ _⟩)
  exact ⟨.ref h'.objs.size, _, I2, rfl, q _ (I1.hok.fresh (Nat.le_refl _))⟩
 ·obtain ⟨its, r', pl, hz⟩ := I.tuple hq
  exact call_tuple_same pl ⟨.ref p, H, I, rfl, q⟩
def tyV (K : PySem.W.Frag) (T : String) (x : V) (H : Hp) : Prop := match x with
 | .str _ => T = "str"
 | .int _ => T = "int"
 | .ref p => (T = "list" /\ ∃ xs, SqL K H p xs) \/ (T = "tuple" /\ ∃ o, K.lookup p = some o /\ o.cls = .type "tuple" /\ o.dict = none) \/
  (T = "dict" /\ ((∃ kvs, H p = some (.dK kvs)) \/ ∃ kvs, H p = some (.dT kvs))) \/ (T = "set" /\ ∃ S n, H p = some (.set S n))
 | _ => False
theorem tyV_is {pins : List (Addr × Obj)} {σ : St} {H : Hp} {s : Shared} {T : String} {x : V} {v : Value} (I : Inv X pins σ H s) (r : RelV x v) (ty : tyV X.K T x H) :
 s.TypeIs v T /\ ∀ a, v = .ref a -> ∃ ob, s.heap.get? a = some ob /\ ob.dict = none := by
 cases x with
 | str z =>
  obtain ⟨t, rfl⟩ := r
  cases (show T = "str" from ty)
  exact ⟨typeIs_str s z t, fun _ e => nomatch e⟩
 | int i =>
  obtain ⟨t, rfl⟩ := r
  cases (show T = "int" from ty)
  exact ⟨typeIs_int s i t, fun _ e => nomatch e⟩
 | ref p =>
  cases r
  rcases ty with ⟨rfl, xs, hq⟩ | ⟨rfl, o, hk, hc, hd⟩ | ⟨rfl, hk⟩ | ⟨rfl, S, n, hk⟩
  ·obtain ⟨its, _, pl, _⟩ := I.list hq
   refine ⟨pl.isList.typeIs, fun a e => ?_⟩
   cases e
   obtain ⟨o, n, e, c, hd, _⟩ := pl
   exact ⟨o, e, hd⟩
  ·refine ⟨⟨o, I.kIn p o hk, hc⟩, fun a e => ?_⟩
   cases e
   exact ⟨o, I.kIn _ o hk, hd⟩
  ·have z : ∃ o, s.heap.get? p = some o /\ o.ExactDict := by
    rcases hk with ⟨kvs, hk⟩ | ⟨kvs, hk⟩
    ·obtain ⟨_, _, _, _, o, _, _, e, ex, _⟩ := I.hok p _ hk
     exact ⟨o, e, ex⟩
    ·obtain ⟨_, _, _, _, o, _, _, e, ex, _⟩ := I.hok p _ hk
     exact ⟨o, e, ex⟩
   obtain ⟨o, e, ex⟩ := z
   refine ⟨⟨o, e, ex.1⟩, fun a e2 => ?_⟩
   cases e2
   exact ⟨o, e, ex.2.1⟩
  ·obtain ⟨o, _, _, _, e, ex, _⟩ := I.hok p _ hk
   refine ⟨⟨o, e, ex.1⟩, fun a e2 => ?_⟩
   cases e2
   exact ⟨o, e, ex.2.1⟩
 | _ => exact False.elim ty
def tBM (K : PySem.W.Frag) (T : String) (r : V -> List V -> Hp -> VK -> Prop) (to : TE) (t : TA) : TE := fun σ H Q => to σ H fun x H1 => tyV K T x H1 /\ t σ H1 fun xs H2 => r x xs H2 Q
variable {o e : Expr} {es : List Expr} {to : TE} {t : TA} {name : Str} {apos cpos : Pos} {T id : String} {r : V -> List V -> Hp -> VK -> Prop}
theorem pe_bm (pa : PlainAttrs T) (slot : Slot T name id) (hty : typeOf (.builtin id) = pure (.type "method_descriptor")) (hm : MtR X id r) (ho : PE X o to) (ha : PA X (e :: es) t)
 (hbase : attributeBase o name X.env (eval o X.env) = eval o X.env := by rfl)
 (hfew : ((backTo cpos (starEach (e :: es) X.env)).all (fun x => !x.1) && (backToKw cpos (keywordEach [] X.env)).all (fun x => x.1.isSome)
   && decide ((e :: es).length + ([] : List Keyword).length + (if ([] : List Keyword).isEmpty then 0 else 1) < 30)) = true := by rfl)
 (hline : (apos.endLine == cpos.line) = true := by rfl) (hs : starEach (e :: es) X.env = (false, eval e X.env) :: starEach es X.env := by rfl) (hplain : (backTo cpos (starEach es X.env)).any (·.1) = false := by rfl) :
 PE X (.Call (.Attribute o name apos) (e :: es) [] cpos) (tBM X.K T r to t) := by
 intro pins s σ H Q I h
 refine wpAny_Call_method_late hbase hfew hline rfl (thn (ho pins s σ H _ I h) fun v s1 ⟨x, H1, I1, r1, ty, q1⟩ => ?_)
 obtain ⟨h1, h2⟩ := tyV_is I1 r1 ty
 refine ⟨T, id, pa, slot, hty, h1, h2, ?_⟩
 have hA := ha cpos pins s1 σ H1 _ I1 q1
 rw [hs] at hA ⊢
 refine Calls.callWith_builtin (by show (false || (backTo cpos (starEach es X.env)).any (·.1)) = false; rw [hplain] <;> rfl) (Calls.evalArgs_plain ?_)
 exact thn hA fun us s2 ⟨vs, H2, I2, r2, q2⟩ => hm pins s2 σ H2 x vs v us Q I2 r1 r2 q2
end
def MtM (X : Cx) (id : String) (r : V -> List V -> Hp -> VK -> Prop) : Prop :=
 ∀ (pins : List (Addr × Obj)) (s : Shared) (σ : St) (H : Hp) (x : V) (xs : List V) (v : Value) (us : List Value) (Q : VK), Inv X pins σ H s -> RelV x v -> Vals xs us -> r x xs H Q ->
  wpAny (model X.prog X.w) X.A (call (.builtin id) (v :: us)) (EP X pins σ Q) X.xe s
theorem Vals.one : ∀ {x : V} {us : List Value}, Vals [x] us -> ∃ u, us = [u] /\ RelV x u
 | _, _, .cons r .nil => ⟨_, rfl, r⟩
theorem Vals.zero : ∀ {us : List Value}, Vals [] us -> us = []
 | _, .nil => rfl
theorem Vals.rep {xs : List V} {us : List Value} (h : Vals xs us) : ∀ k : Nat, Vals (List.replicate k xs).flatten (List.replicate k us).flatten
 | 0 => .nil
 | k + 1 => by
  rw [List.replicate_succ, List.replicate_succ, List.flatten_cons, List.flatten_cons]
  exact Vals.append h (Vals.rep h k)
theorem foldl_rep (its : List Value) : ∀ (k : Nat) (acc : List Value),
 List.foldl (fun x1 x2 => x1 ++ x2) acc.toArray (List.replicate k its.toArray) = (acc ++ (List.replicate k its).flatten).toArray
 | 0, acc => by simp
 | k + 1, acc => by
  have e : acc.toArray ++ its.toArray = (acc ++ its).toArray := by simp
  have e2 : (acc ++ its) ++ (List.replicate k its).flatten = acc ++ (List.replicate (k + 1) its).flatten := by
   rw [List.replicate_succ, List.flatten_cons, List.append_assoc]
  rw [<- e2, <- foldl_rep its k (acc ++ its), <- e, List.replicate_succ, List.foldl_cons]
section
variable {X : Cx} {pins : List (Addr × Obj)} {σ : St} {H : Hp} {s : Shared} {l b : Addr} {xs ys zs : List V}
theorem Inv.lset {its its' : List Value} {n : Nat} {f : Array Value -> Array Value} {t' : Nat} (I : Inv X pins σ H s) (hH : H l = some (.lst xs))
 (e : s.heap.get? l = some { cls := .type "list", data := .seq its.toArray n }) (hf : f its.toArray = its'.toArray) (hv : Vals ys its') (hz : ys.length <= sizeLine) :
 Inv X pins σ (upd H l (.lst ys)) { s with heap := s.heap.update l (Obj.mapSeq f), toks := t' } := by
 have q := PySem.IsL.update e f
 rw [hf] at q
 refine I.write (x := l) (e := l) (by rw [hH]; exact trivial) (.inl rfl) (fun b' u hb hu => (Heap.get?_update_other s.heap (Obj.mapSeq f) (Ne.symm hb)).trans hu) ⟨_, q⟩ ?_
 exact ⟨hz, its', _, hv, q⟩
theorem Inv.lnew {its : List Value} {t' : Nat} (I : Inv X pins σ H s) (hv : Vals ys its) (hz : ys.length <= sizeLine) :
 Inv X pins σ (upd H s.heap.objs.size (.lst ys)) { s with heap := s.heap.push { cls := .type "list", data := .seq its.toArray }, toks := t' } :=
 I.laid (fun _ _ q => Heap.get?_push_of_some _ q) (Nat.le_refl _) ⟨hz, its, 0, hv, Heap.get?_push_size _ rfl⟩
theorem Inv.fresh (I : Inv X pins σ H s) : H s.heap.objs.size = none := I.hok.fresh (Nat.le_refl _)
theorem Inv.lstM (I : Inv X pins σ H s) (hH : H l = some (.lst xs)) : xs.length <= sizeLine /\ ∃ (its : List Value) (n : Nat), Vals xs its /\ xs.length = its.length /\ s.heap.get? l = some { cls := .type "list", data := .seq its.toArray n } := by
 obtain ⟨z, its, n, r, e⟩ := I.hok l _ hH
 exact ⟨z, its, n, r, r.length, e⟩
theorem notLongL {n : Nat} (h : n <= sizeLine) : Builtin.List.listTooLong n = false := by
 unfold Builtin.List.listTooLong
 exact decide_eq_false (by omega)
end
section
variable {X : Cx}
def rAppend : V -> List V -> Hp -> VK -> Prop := fun x vs H Q => ∃ l xs y, x = .ref l /\ vs = [y] /\ H l = some (.lst xs) /\ xs.length < sizeLine /\ Q .non (upd H l (.lst (xs ++ [y])))
theorem mt_append : MtM X "list.append" rAppend := by
 intro pins s σ H x vs v us Q I rx rv h
 obtain ⟨l, xs, y, rfl, rfl, hH, hz, q⟩ := h
 cases rx
 obtain ⟨u, rfl, ru⟩ := rv.one
 obtain ⟨z, its, n, r, hl, e⟩ := I.lstM hH
 refine call_meets F.slot_list_append ⟨_, e, rfl⟩ F.entry_list_append (F.args_list_append_2 _ _) (PySem.list_append l its.toArray n u (by rw [List.size_toArray]; omega)) ⟨e, ?_⟩
 refine ⟨.non, _, I.lset (its' := its ++ [u]) hH e (by simp) (r.append (.cons ru .nil)) ?_, rfl, q⟩
 rw [List.length_append, List.length_singleton]
 omega
def rCat : R2 := fun x y H Q => ∃ l b xs zs, x = .ref l /\ y = .ref b /\ H l = some (.lst xs) /\ H b = some (.lst zs) /\ xs.length + zs.length <= sizeLine /\ ∀ p, H p = none -> Q (.ref p) (upd H p (.lst (xs ++ zs)))
theorem op_cat : OpR X (binaryOp .Add) rCat := by
 intro pins s σ H x y v u Q I rx ry h
 obtain ⟨l, b, xs, zs, rfl, rfl, hH, hB, hz, q⟩ := h
 cases rx
 cases ry
 obtain ⟨z, its, n, r, hl, e⟩ := I.lstM hH
 obtain ⟨z2, its2, n2, r2, hl2, e2⟩ := I.lstM hB
 refine PySem.P.add_list e e2 ?_ (by rw [List.size_toArray, List.size_toArray]; omega)
 have ea : its.toArray ++ its2.toArray = (its ++ its2).toArray := by simp
 rw [ea]
 exact ⟨.ref _, _, I.lnew (t' := s.toks) (r.append r2) (by rw [List.length_append]; omega), rfl, q _ I.fresh⟩
def rRep : R2 := fun x y H Q => ∃ l k xs, x = .ref l /\ y = .int k /\ H l = some (.lst xs) /\ -(2 ^ 63) <= k /\ k < 2 ^ 63 /\ xs.length * k.toNat <= sizeLine /\
 ∀ p, H p = none -> Q (.ref p) (upd H p (.lst (List.replicate k.toNat xs).flatten))
theorem len_rep {α : Type} (xs : List α) (k : Nat) : (List.replicate k xs).flatten.length = k * xs.length := by
 induction k with
 | zero => simp
 | succ k ih => rw [List.replicate_succ, List.flatten_cons, List.length_append, ih, Nat.succ_mul, Nat.add_comm]
theorem op_rep : OpR X (binaryOp .Mult) rRep := by
 intro pins s σ H x y v u Q I rx ry h
 obtain ⟨l, k, xs, rfl, rfl, hH, h1, h2, hz, q⟩ := h
 cases rx
 obtain ⟨t, rfl⟩ := ry
 obtain ⟨z, its, n, r, hl, e⟩ := I.lstM hH
 have hlen : its.toArray.size * k.toNat <= sizeLine := by rw [List.size_toArray, <- hl]; exact hz
 have hcap : ¬ its.toArray.size * k.toNat > (2 ^ 63 - 1) / 8 := by
  have : (sizeLine : Nat) <= (2 ^ 63 - 1) / 8 := by decide
  omega
 have hfit : ¬ (!Builtin.List.listFitsIndex k) = true := by
  rw [fitsIndex_both h1 h2]
  exact Bool.false_ne_true
 have hlong : ¬ Builtin.List.listTooLong (its.toArray.size * k.toNat) = true := by
  rw [notLongL hlen]
  exact Bool.false_ne_true
 have hnew : List.foldl (fun x1 x2 => x1 ++ x2) #[] (List.replicate (if its.toArray.isEmpty = true then 0 else k.toNat) its.toArray) = (List.replicate k.toNat its).flatten.toArray := by
  have f0 : ∀ m : Nat, List.foldl (fun x1 x2 => x1 ++ x2) #[] (List.replicate m its.toArray) = (List.replicate m its).flatten.toArray := fun m => by
   have := foldl_rep its m []
   rw [List.nil_append] at this
   exact this
  rw [f0]
  cases its with
  | nil => simp
  | cons a r' => rw [if_neg (by simp)]
 refine wpAny_binaryOp_repeat_ref (T := "list") (U := "int") (by decide) ⟨_, e, rfl⟩ (fun s' => typeIs_int s' k t) noFill_list_mul F.fills_int_mul F.slot_int_rmul repeat_list F.slot_int_index.lookup
  (call_meets F.slot_int_rmul (typeIs_int s k t) F.entry_int_rmul (F.args_int_rmul_2 _ _) (int___rmul___int_list k t l its.toArray n)
    ⟨e, rfl, ⟨_, e, rfl⟩, call_meets F.slot_list_mul ⟨_, e, rfl⟩ F.entry_list_mul (F.args_list_mul_2 _ _) (AutoListH.list___mul___list_int_3 l its.toArray n k t hfit hcap hlong) ⟨e, ?_⟩⟩)
 rw [hnew]
 exact ⟨.ref _, _, I.lnew (t' := s.toks) (r.rep k.toNat) (by rw [len_rep, Nat.mul_comm]; exact hz), rfl, q _ I.fresh⟩
end
section
variable {prog : Program} {w : World} {A : Around} {E : Value -> Shared -> Prop} {s : Shared}
end
section
variable {X : Cx}
end
end L2
namespace Att
open PySem PySem.W PySem.Calls PyProof.Rows
theorem ints_of_wellAll {P : Params} {h : Heap} : ∀ (ns : List Int) (vs : List Value), WellAll P h vs (ns.map WData.int) -> IntsAre vs ns := by
 intro ns
 induction ns with
 | nil =>
  intro vs w
  rw [List.map_nil] at w
  cases w
  exact .nil
 | cons n ns ih =>
  intro vs w
  rw [List.map_cons] at w
  cases w with
  | cons a b =>
   cases a
   exact .cons _ _ (ih _ b)
theorem script_of {l : OpenLaw} {n : Nat} (hn : l.most = some n) {P : Params} {h : Heap} {args : List WData} {vals : List Value}
 (hpre : l.row.toRowW.claim.pre args = true) (hwl : WellAll P h vals args) :
 ∃ a vs ns, vals = [Value.ref a] /\ args = [WData.list (ns.map WData.int)] /\ h.get? a = some { cls := .type "list", data := .seq vs.toArray } /\ IntsAre vs ns /\ ns.length <= n := by
 have hsh : WShape.hasAll [] args [.list .int] = true := (pre_splitW hpre).1
 have hc : l.pre.holds [] { args := args } = true := (pre_splitW hpre).2
 obtain ⟨d, r, rfl, h1, h2⟩ := hasAllW_cons hsh
 obtain rfl := hasAllW_nil h2
 obtain ⟨xs, rfl, h3⟩ := hasW_list h1
 obtain ⟨ns, rfl⟩ := items_int h3
 have hlen : ns.length <= n := by
  unfold OpenLaw.pre at hc
  have h4 : (WTm.not (.lt (.lit (.int (n : Int))) (.len (.arg 0)))).holds [] { args := [.list (ns.map .int)] } = true := by
   have h4 := (holds_andW hc).1
   rw [hn] at h4
   exact h4
  have h5 := condW_of h4 (w_not (w_lt w_lit (w_len_list (w_arg rfl))))
  rw [List.length_map] at h5
  refine Nat.le_of_not_lt fun q => ?_
  have q' : (n : Int) < ((ns.length : Nat) : Int) := by omega
  first
   | (rw [decide_eq_true q'] at h5; exact absurd h5 (by decide))
   | (simp at h5; omega)
 cases hwl with
 | cons w1 w2 =>
  cases w2
  cases w1 with
  | list ho hall => exact ⟨_, _, ns, rfl, rfl, ho, ints_of_wellAll ns _ hall, hlen⟩
theorem post_true (l : OpenLaw) (args : List WData) : l.row.toRowW.claim.post args (.bool true) args = true :=
 postW_of (r := l.row.toRowW) (X := (true == true))
  (show WShape.has [] (.bool true) .bool = true by first | rfl | decide | simp [WShape.has, WShape.arms, WShape.armsAll])
  (show (WTm.eq .res (.lit (.bool true))).value [] { args := args, res := some (.bool true), after := args } = some (.bool (true == true)) from w_eq_bool (w_res rfl) w_lit) rfl
theorem attach_call {l : OpenLaw} {n : Nat} {q : Program} {loose : List Str} {XP : (Str -> Option Value) -> Heap -> Prop} {YP : World -> Heap -> Prop} {d : DefRec}
 (hn : l.most = some n) (hdf : d.params.defaults = [])
 (call : ∀ (w : World) (s₀ s₁ : Shared) (mg mb : Str -> Option Value) (fa : Addr) (o : Obj) (pm cd doc : Value) (a : Addr) (vs : List Value) (ns : List Int),
   Ground q loose [] XP w s₀ mg mb s₁.heap -> YP w s₁.heap ->
   s₁.heap.get? fa = some o -> o.data = .func (docDef d.name d.params d.body d.scope pm cd doc) -> s₁.heap.CodeRec cd d.name -> mg d.name = some (.ref fa) ->
   s₁.heap.get? a = some { cls := .type "list", data := .seq vs.toArray } -> IntsAre vs ns -> ns.length <= n -> s₁.gens = #[] ->
   codeAny (model l.prog w) callerA (.call (.ref fa) ⟨[.ref a], []⟩) (fun r s' => r = .ok (.ret (.bool true)) /\ OldK s₁.heap s'.heap /\ s'.os = s₁.os /\ AllBare s'.gens) s₁) :
 WalkO q loose XP YP l.row.toRowW d [] (fun f vs => PySem.call f vs) := by
 intro w s₀ s₁ mg mb G Y fa o pm cd doc dV kV ho hd hcd hD hmg hg args vals as hpre hlay hrd hwl hlo
 obtain rfl : dV = .none := Dflts.none hD hdf
 obtain rfl : kV = .none := Dflts.noKw hD
 obtain ⟨a, vs, ns, rfl, rfl, hobj, hints, hlen⟩ := script_of hn hpre hwl
 refine enter_call (codeAny_mono (call w s₀ s₁ mg mb fa o pm cd doc a vs ns G Y ho (fd_plain hd) hcd hmg hobj hints hlen hg) fun r s' hq => ?_)
 obtain ⟨rfl, h2, h3, h4⟩ := hq
 exact ⟨.inl ⟨.bool true, .bool true, [], rfl, fun _ => rfl, .bool true, post_true l _, fun _ => ⟨List.Pairwise.nil, fun _ hm => (nomatch hm)⟩⟩, h2, h3, h4⟩
section
variable {prog : Program} {w : World} {A : Around} {E : Value -> Shared -> Prop} {s : Shared} {K : Frag}
def noObjs (h : Heap) : Heap := { h with objs := #[] }
theorem noObjs_get (h : Heap) (b : Addr) : (noObjs h).get? b = none := by
 cases e : (noObjs h).get? b with
 | none => rfl
 | some o => exact absurd (Heap.lt_size e) (Nat.not_lt_zero _)
theorem fr_all {h : Heap} {L : Addr} {m : Str -> Option Value} (n : h.Ns L m) : Fr (noObjs h) L h m :=
 ⟨n, fun b o e => (by rw [noObjs_get] at e; cases e), Nat.zero_le _⟩
end
end Att
namespace L2
open PySem PySem.Spec PyProof.Rows
theorem vals_ints : ∀ {vs : List Value} {ns : List Int}, IntsAre vs ns -> Vals (ns.map V.int) vs
 | _, _, .nil => .nil
 | _, _, .cons n t h => .cons ⟨t, rfl⟩ (vals_ints h)
def defArgs (s : Stmt) : Arguments := match s with
 | .FunctionDef _ a _ _ _ _ _ _ _ _ => a
 | _ => { posonlyargs := [], args := [], vararg := none, kwonlyargs := [], kw_defaults := [], kwarg := none, defaults := [] }
def defBody (s : Stmt) : List Stmt := match s with
 | .FunctionDef _ _ b _ _ _ _ _ _ _ => b
 | _ => []
def defScope (s : Stmt) : Scope := match s with
 | .FunctionDef _ _ _ _ _ _ sc _ _ _ => sc
 | _ => { kind := .function, names := [], isGenerator := false, isCoroutine := false }
abbrev CX0 : CXT := fun _ _ _ _ _ _ => False
abbrev E0 : XK := fun _ _ _ => False
theorem pass0 {X : Cx} : Passes CX0 X E0 := fun _ _ _ _ _ _ _ h => h.elim
structure Fun (K : PySem.W.Frag) (x qual : Str) (st : Stmt) (f : Addr) (fd : FuncData) : Prop where
 ex : ∃ (oc : Value) (od : Option Addr) (kV doc pm : Value) (an : Option Addr) (cdv ct : Value) (osl : Array (Option Value)),
  fd = PySem.W.fnOf x qual (defArgs st) (defBody st) (defScope st) .none kV doc pm an cdv ct /\ K.lookup f = some ⟨oc, od, .func fd, osl⟩ /\ PySem.W.codeIn K cdv qual = true
 kp : PySem.W.keepIn K (.ref f) = true
section
variable {P : Program} {w : World} {K : PySem.W.Frag} {mg : Str -> Option Value} {base : Heap}
theorem Fun.ok {x qual : Str} {st : Stmt} {f : Addr} {fd : FuncData} {N ps : List Str} {k : Nat} {sp : Sp} (F : Fun K x qual st f fd) (S : FnScope N ps (defScope st)) (len : ∀ vs H Q E, sp vs H Q E -> vs.length = ps.length)
 (hbody : ∀ (cdv : Value) (A : Around) (outer : List Env) (s : Shared) (H : Hp) (vs : List V) (Q : VK) (E : XK), Room k (A.deeper (envOfC qual (defScope st) s.heap.objs.size f cdv)) -> sp vs H Q E ->
   ∃ t, PSs (cxOf CX0 P w K mg base N qual (defScope st) f cdv A outer s H E).nox (defBody st) t /\ t { nx := fun _ H' => Q .non H', rt := Q } (start N vs) H) : FnOk P w K mg base CX0 (k + 1) f fd ps sp := by
 obtain ⟨oc, od, kV, doc, pm, an, cdv, ct, osl, rfl, lk, hcd⟩ := F.ex
 refine fn_of lk hcd S len fun A outer s H vs Q E hr hsp => ?_
 obtain ⟨t, h, q⟩ := hbody cdv A outer s H vs Q E hr hsp
 exact ⟨t, h.nox, q⟩
theorem Fun.binds {x qual : Str} {st : Stmt} {f : Addr} {fd : FuncData} {ps : List Str} (F : Fun K x qual st f fd)
 (h : ∀ (kV doc pm : Value) (an : Option Addr) (cdv ct : Value) (us : List Value), us.length = ps.length -> bindArgs (PySem.W.fnOf x qual (defArgs st) (defBody st) (defScope st) .none kV doc pm an cdv ct) ⟨us, []⟩ = pure (ps.zip us)) : Binds K fd ps [] := by
 obtain ⟨oc, od, kV, doc, pm, an, cdv, ct, osl, rfl, lk, hcd⟩ := F.ex
 exact .all (h kV doc pm an cdv ct)
theorem fun_mk {x qual : Str} {st : Stmt} {f : Addr} {oc : Value} {od an : Option Addr} {osl : Array (Option Value)} {kV doc pm cdv ct : Value} (l : K.lookup f = some ⟨oc, od, .func (PySem.W.fnOf x qual (defArgs st) (defBody st) (defScope st) .none kV doc pm an cdv ct), osl⟩)
 (c : PySem.W.codeIn K cdv qual = true) (k : PySem.W.keepIn K (.ref f) = true) : Fun K x qual st f (PySem.W.fnOf x qual (defArgs st) (defBody st) (defScope st) .none kV doc pm an cdv ct) := ⟨⟨oc, od, kV, doc, pm, an, cdv, ct, osl, rfl, l, c⟩, k⟩
end
theorem small1000 {n : Nat} (h : n <= 1000) : n < sizeLine := Nat.lt_of_le_of_lt h (by decide)
section
variable {X : Cx}
end
theorem iteT {A B : Prop} (h : A) : if true = true then A else B := by
 rw [if_pos rfl]
 exact h
theorem ite2 {c A B : Prop} [Decidable c] (h1 : c -> A) (h2 : ¬ c -> B) : if c then A else B := by
 by_cases h : c
 ·rw [if_pos h]
  exact h1 h
 ·rw [if_neg h]
  exact h2 h
def Same (H H' : Hp) : Prop := ∀ b o, H b = some o -> H' b = some o
theorem Same.refl (H : Hp) : Same H H := fun _ _ h => h
theorem Same.trans {H H1 H2 : Hp} (a : Same H H1) (b : Same H1 H2) : Same H H2 := fun c o h => b c o (a c o h)
theorem Same.free {H H' : Hp} (e : Same H H') {l : Addr} (h : H' l = Option.none) : H l = Option.none := by
 cases q : H l with
 | none => rfl
 | some o =>
  rw [e l o q] at h
  cases h
theorem Same.seq {K : PySem.W.Frag} {H H' : Hp} {a : Addr} {xs : List V} (e : Same H H') (h : SqL K H a xs) : SqL K H' a xs := by
 rcases h with (h | ⟨o, h⟩) | h
 ·exact .inl (.inl (e _ _ h))
 ·exact .inl (.inr ⟨o, e _ _ h⟩)
 ·exact .inr h
theorem cellsFrom_app : ∀ (names : List (Str × NameKind)) (n : Nat) (acc : List (Str × Addr)), cellsFrom n names acc = cellsFrom n names [] ++ acc
 | [], _, _ => rfl
 | (name, kind) :: r, n, acc => by
  unfold cellsFrom
  split
  ·rw [cellsFrom_app r (n + 1) ((name, n) :: acc), cellsFrom_app r (n + 1) [(name, n)], List.append_assoc]; rfl
  ·exact cellsFrom_app r n acc
theorem cellsFrom_kind : ∀ (names : List (Str × NameKind)) (n : Nat) (acc : List (Str × Addr)) (x : Str) (c : Addr), (x, c) ∈ cellsFrom n names acc -> (x, c) ∈ acc \/ (x, NameKind.cell) ∈ names
 | [], _, _, _, _, h => .inl h
 | (name, kind) :: r, n, acc, x, c, h => by
  unfold cellsFrom at h
  split at h
  ·rename_i hk
   rcases cellsFrom_kind r _ _ x c h with h | h
   ·rcases List.mem_cons.mp h with e | h
    ·cases e
     have : kind = .cell := by simpa using hk
     subst this
     exact .inr List.mem_cons_self
    ·exact .inl h
   ·exact .inr (List.mem_cons_of_mem _ h)
  ·rcases cellsFrom_kind r _ _ x c h with h | h
   ·exact .inl h
   ·exact .inr (List.mem_cons_of_mem _ h)
theorem lookup_app {α : Type} {x : Str} : ∀ (l r : List (Str × α)), (l ++ r).lookup x = (match l.lookup x with | some c => some c | none => r.lookup x)
 | [], r => rfl
 | (k, v) :: l, r => by
  show List.lookup x ((k, v) :: (l ++ r)) = _
  rw [List.lookup_cons, List.lookup_cons]
  cases x == k with
  | true => rfl
  | false => exact lookup_app l r
theorem lookup_none_of {α : Type} {x : Str} : ∀ {l : List (Str × α)}, (∀ c, (x, c) ∉ l) -> l.lookup x = none
 | [], _ => rfl
 | (k, v) :: l, h => by
  rw [List.lookup_cons]
  cases hb : x == k with
  | true =>
   have : x = k := by simpa using hb
   subst this
   exact absurd List.mem_cons_self (h v)
  | false => exact lookup_none_of fun c hc => h c (List.mem_cons_of_mem _ hc)
def clOf (cells : List (Str × Addr)) : List (Str × NameKind) -> List (Str × Addr) -> List (Str × Addr)
 | [], acc => acc
 | (n, k) :: r, acc => if k == .free then clOf cells r ((n, (cells.lookup n).getD 0) :: acc) else clOf cells r acc
theorem closureFor_eq {scope : Scope} {env : Env} (h : ∀ y ∈ scope.names, y.2 = .free -> ∃ c, env.cells.lookup y.1 = some c) : closureFor scope env = pure (clOf env.cells scope.names []) := by
 have all : ∀ (names : List (Str × NameKind)) (acc : List (Str × Addr)), (∀ y ∈ names, y.2 = .free -> ∃ c, env.cells.lookup y.1 = some c) ->
  (forIn names acc fun (x : Str × NameKind) cs => (if (x.2 == NameKind.free) = true then (do let a <- cellOf env x.1; pure (ForInStep.yield ((x.1, a) :: cs))) else pure (ForInStep.yield cs) : Sem (ForInStep (List (Str × Addr))))) = (pure (clOf env.cells names acc) : Sem _) := by
  intro names
  induction names with
  | nil => intro acc _; rfl
  | cons y r ih =>
   intro acc hy
   obtain ⟨n, k⟩ := y
   rw [List.forIn_cons]
   have hr : ∀ y ∈ r, y.2 = .free -> ∃ c, env.cells.lookup y.1 = some c := fun y hm => hy y (List.mem_cons_of_mem _ hm)
   unfold clOf
   by_cases hk : (k == NameKind.free) = true
   ·obtain ⟨c, e⟩ := hy (n, k) List.mem_cons_self (by simpa using hk)
    rw [if_pos hk, if_pos hk]
    have e2 : cellOf env n = pure c := by unfold cellOf; rw [show env.cells.lookup n = some c from e]
    rw [e2]
    rw [show env.cells.lookup n = some c from e]
    exact ih _ hr
   ·rw [if_neg hk, if_neg hk]
    exact ih _ hr
 have q := all scope.names [] h
 unfold closureFor
 refine Eq.trans ?_ (congrArg (fun t => t >>= pure) q |>.trans (by rfl))
 congr 1
theorem clOf_mem {cells : List (Str × Addr)} : ∀ (names : List (Str × NameKind)) (acc : List (Str × Addr)) (x : Str) (c : Addr), (∀ y ∈ names, y.2 = .free -> ∃ c, cells.lookup y.1 = some c) -> (x, c) ∈ clOf cells names acc -> (x, c) ∈ acc \/ ((x, NameKind.free) ∈ names /\ cells.lookup x = some c)
 | [], _, _, _, _, h => .inl h
 | (n, k) :: r, acc, x, c, hy, h => by
  have hr : ∀ y ∈ r, y.2 = .free -> ∃ c, cells.lookup y.1 = some c := fun y hm => hy y (List.mem_cons_of_mem _ hm)
  unfold clOf at h
  split at h
  ·rename_i hk
   have hk' : k = .free := by simpa using hk
   subst hk'
   obtain ⟨d, e⟩ := hy (n, .free) List.mem_cons_self rfl
   rcases clOf_mem r _ x c hr h with h | ⟨h, h'⟩
   ·rcases List.mem_cons.mp h with e' | h
    ·obtain ⟨e1, e2⟩ := Prod.mk.inj e'
     rw [show cells.lookup n = some d from e] at e2
     subst e1
     exact .inr ⟨List.mem_cons_self, by rw [e2]; exact e⟩
    ·exact .inl h
   ·exact .inr ⟨List.mem_cons_of_mem _ h, h'⟩
  ·rcases clOf_mem r _ x c hr h with h | ⟨h, h'⟩
   ·exact .inl h
   ·exact .inr ⟨List.mem_cons_of_mem _ h, h'⟩
theorem clOf_keep {cells : List (Str × Addr)} {x : Str} : ∀ (names : List (Str × NameKind)) (acc : List (Str × Addr)), (∃ c, (x, c) ∈ acc) -> ∃ c, (x, c) ∈ clOf cells names acc
 | [], _, h => h
 | (n, k) :: r, acc, ⟨c, h⟩ => by
  unfold clOf
  split
  ·exact clOf_keep r _ ⟨c, List.mem_cons_of_mem _ h⟩
  ·exact clOf_keep r _ ⟨c, h⟩
theorem clOf_has {cells : List (Str × Addr)} {x : Str} : ∀ (names : List (Str × NameKind)) (acc : List (Str × Addr)), (x, NameKind.free) ∈ names -> ∃ c, (x, c) ∈ clOf cells names acc
 | (n, k) :: r, acc, h => by
  unfold clOf
  rcases List.mem_cons.mp h with e | h
  ·cases e
   rw [if_pos (by decide)]
   exact clOf_keep r _ ⟨_, List.mem_cons_self⟩
  ·split
   ·exact clOf_has r _ h
   ·exact clOf_has r _ h
theorem lookup_of_mem {α : Type} {x : Str} : ∀ {l : List (Str × α)}, (∃ c, (x, c) ∈ l) -> ∃ c, l.lookup x = some c
 | (k, v) :: l, ⟨c, h⟩ => by
  rw [List.lookup_cons]
  cases hb : x == k with
  | true => exact ⟨v, rfl⟩
  | false =>
   rcases List.mem_cons.mp h with e | h
   ·cases e; simp at hb
   ·exact lookup_of_mem ⟨c, h⟩
def relS (scope sc : Scope) : Scope :=
 { scope with names := scope.names.map fun (n, k) => if (k == .free && sc.kind == .function && sc.names.lookup n == some .cell) then (n, .cell) else (n, k) }
structure CompScope (scope sc : Scope) : Prop where
 kind : scope.kind = .function
 nd : (scope.names.map (·.1)).Nodup
 fr : ∀ y ∈ scope.names, y.2 = .free -> sc.names.lookup y.1 = some .cell \/ sc.names.lookup y.1 = some .free
theorem lookup_nd {α : Type} : ∀ {l : List (Str × α)} {x : Str} {c : α}, (l.map (·.1)).Nodup -> (x, c) ∈ l -> l.lookup x = some c
 | (k, v) :: l, x, c, nd, h => by
  obtain ⟨n1, n2⟩ := List.nodup_cons.mp (show (k :: l.map (·.1)).Nodup from nd)
  rw [List.lookup_cons]
  rcases List.mem_cons.mp h with e | h
  ·cases e; simp
  ·have hne : ¬ x = k := fun e => n1 (by rw [<- e]; exact List.mem_map.mpr ⟨(x, c), h, rfl⟩)
   have : (x == k) = false := by simpa using hne
   rw [this]
   exact lookup_nd n2 h
theorem relS_lookup {scope sc : Scope} {x : Str} : (relS scope sc).names.lookup x = (scope.names.lookup x).map fun k => if (k == .free && sc.kind == .function && sc.names.lookup x == some .cell) then NameKind.cell else k := by
 show (scope.names.map _).lookup x = _
 generalize scope.names = names
 induction names with
 | nil => rfl
 | cons y r ih =>
  obtain ⟨n, k⟩ := y
  rw [List.map_cons]
  by_cases hc : (k == .free && sc.kind == .function && sc.names.lookup n == some .cell) = true
  ·show List.lookup x ((if (k == .free && sc.kind == .function && sc.names.lookup n == some .cell) = true then (n, NameKind.cell) else (n, k)) :: _) = _
   rw [if_pos hc, List.lookup_cons, List.lookup_cons]
   cases hb : x == n with
   | true =>
    have hx : x = n := by simpa using hb
    subst hx
    show some NameKind.cell = some (if _ then _ else _)
    rw [if_pos hc]
   | false => exact ih
  ·show List.lookup x ((if (k == .free && sc.kind == .function && sc.names.lookup n == some .cell) = true then (n, NameKind.cell) else (n, k)) :: _) = _
   rw [if_neg hc, List.lookup_cons, List.lookup_cons]
   cases hb : x == n with
   | true =>
    have hx : x = n := by simpa using hb
    subst hx
    show some k = some (if _ then _ else _)
    rw [if_neg hc]
   | false => exact ih
structure CArgs where
 pins : List (Addr × Obj)
 cells : List (Str × Addr)
 s : Shared
 H : Hp
 fp : List Addr
 C : Addr
def Cx.comp (X : Cx) (scope : Scope) (N' : List Str) (c : CArgs) : Cx where
 prog := X.prog
 w := X.w
 K := X.K
 mg := X.mg
 base := X.base
 A := X.A
 N := N'
 s₀ := c.s
 H₀ := c.H
 env := compEnvC scope c.cells c.C X.env
 outer := X.stack
 stack := X.stack
 ex := c.fp
 fn := fun x => scope.names.lookup x == some .cell
 calm := X.calm
 pn := X.pn ++ c.pins
 xe := fun _ _ => False
def cSt (own : Nat) (ix : List Nat) (σ : St) : St := List.replicate own none ++ ix.map fun i => (σ[i]?).join
section
variable {X : Cx} {pins : List (Addr × Obj)} {σ : St} {H : Hp} {s s4 : Shared} {fp : List Addr} {scope : Scope} {N' : List Str} {own : Nat} {ix : List Nat}
theorem comp_inv (I : Inv X pins σ H s) (f2 : ∀ b ∈ fp, FpOk X pins H b) (hob : ∀ b ∈ fp, ∃ o, s.heap.get? b = some o) (S : CompScope scope X.env.scope)
 (hlen : N'.length = own + ix.length) (hN : (N'.drop own).map some = ix.map (X.N[·]?)) (hfr : ∀ x ∈ N'.drop own, scope.names.lookup x = some .free)
 {C : Addr} (hC : s.heap.objs.size < C) (k4 : ∀ b o, s.heap.get? b = some o -> s4.heap.get? b = some o) (os4 : s4.os = s.os) (g4 : s4.gens = s.gens)
 (n4 : ∃ m, s4.heap.Ns C m) (own4 : ∀ x c, (x, c) ∈ cellsFrom (C + 1) scope.names [] -> s4.heap.IsCell c none /\ C + 1 <= c)
 (apart : (cellsFrom (C + 1) scope.names []).Pairwise fun x y => x.2 ≠ y.2) :
 Inv (X.comp scope N' ⟨pins, cellsFrom (C + 1) scope.names (clOf X.env.cells scope.names []), s, H, fp, C⟩) [] (cSt own ix σ) H s4 := by
 have hfree : ∀ y ∈ scope.names, y.2 = .free -> ∃ c, X.env.cells.lookup y.1 = some c := fun y hy h => I.ok.has y.1 (S.fr y hy h)
 -- a cell of the block
 have cases : ∀ x c, (cellsFrom (C + 1) scope.names (clOf X.env.cells scope.names [])).lookup x = some c ->
  ((x, c) ∈ cellsFrom (C + 1) scope.names [] /\ scope.names.lookup x = some .cell) \/ ((x, NameKind.free) ∈ scope.names /\ X.env.cells.lookup x = some c) := fun x c h => by
  rw [cellsFrom_app, lookup_app] at h
  cases e : (cellsFrom (C + 1) scope.names []).lookup x with
  | some d =>
   rw [e] at h
   cases h
   have m := mem_of_lookup e
   rcases cellsFrom_kind _ _ _ _ _ m with z | z
   ·exact absurd z (by simp)
   ·exact .inl ⟨m, lookup_nd S.nd z⟩
  | none =>
   rw [e] at h
   rcases clOf_mem _ _ _ _ hfree (mem_of_lookup h) with z | z
   ·exact absurd z (by simp)
   ·exact .inr z
 have oldlt : ∀ x c, X.env.cells.lookup x = some c -> c < s.heap.objs.size := fun x c e => let ⟨v, q⟩ := I.cell x c e; q.lt
 have kin : ∀ x, (relS scope X.env.scope).names.lookup x = some .cell \/ (relS scope X.env.scope).names.lookup x = some .free -> (scope.names.lookup x = some .cell \/ scope.names.lookup x = some .free) := fun x h => by
  rw [relS_lookup] at h
  cases e : scope.names.lookup x with
  | none => rw [e] at h; simp at h
  | some k =>
   rw [e] at h
   cases k with
   | cell => exact .inl rfl
   | free => exact .inr rfl
   | _ => exact absurd h (by simp)
 have hCn : ∀ b o, s.heap.get? b = some o -> b ≠ C := fun b o e z => by have := Heap.lt_size e; rw [z] at this; exact Nat.lt_irrefl _ (Nat.lt_trans this hC)
 have lk : ∀ x, (x, NameKind.free) ∈ scope.names -> ∀ c, X.env.cells.lookup x = some c -> (cellsFrom (C + 1) scope.names (clOf X.env.cells scope.names [])).lookup x = some c := fun x hx c hc => by
  have hl : scope.names.lookup x = some .free := lookup_nd S.nd hx
  rw [cellsFrom_app, lookup_app, lookup_none_of (l := cellsFrom (C + 1) scope.names []) fun d hd => ?_]
  ·obtain ⟨d, hd⟩ := lookup_of_mem (clOf_has (cells := X.env.cells) scope.names [] hx)
   rcases clOf_mem _ _ _ _ hfree (mem_of_lookup hd) with z | ⟨_, z⟩
   ·exact absurd z (by simp)
   ·rw [hc] at z; cases z; exact hd
  ·rcases cellsFrom_kind _ _ _ _ _ hd with z | z
   ·exact absurd z (by simp)
   ·rw [lookup_nd S.nd z] at hl; cases hl
 refine ⟨⟨I.ok.mod, S.kind, I.ok.glob, I.ok.blt, Nat.le_of_lt hC, fun x y c hx hy => ?_, fun x hx => ?_, fun x c hf hx => ?_, I.ok.hd, I.ok.frames, .inl rfl, fun b hb => ⟨?_, fun x c hx => ?_⟩, fun b o e => I.bs b o e, Nat.le_trans I.ok.bsz I.sz, fun b o e hb => ?_, fun b hb z => ?_, I.stack, I.stkFree⟩,
  os4, by rw [g4]; exact I.bare, Un.kept k4, ?_, fun x c hx => ?_, ?_, fun x c hx => ?_, fun p hp => ?_, I.hok.kept k4, ?_⟩
 ·-- inj
  rcases cases x c hx with ⟨m1, _⟩ | ⟨_, m1⟩ <;> rcases cases y c hy with ⟨m2, _⟩ | ⟨_, m2⟩
  ·exact name_of_addr apart m1 m2
  ·exact absurd (Nat.lt_of_lt_of_le (Nat.lt_trans (oldlt y c m2) hC) (Nat.le_of_succ_le (own4 x c m1).2)) (Nat.lt_irrefl _)
  ·exact absurd (Nat.lt_of_lt_of_le (Nat.lt_trans (oldlt x c m1) hC) (Nat.le_of_succ_le (own4 y c m2).2)) (Nat.lt_irrefl _)
  ·exact I.ok.inj x y c m1 m2
 ·-- has
  rcases kin x hx with h | h
  ·have q := PySem.W.cellsFrom_some scope.names (C + 1) (clOf X.env.cells scope.names []) (.inl h)
   exact Option.isSome_iff_exists.mp q
  ·obtain ⟨c, e⟩ := hfree (x, .free) (mem_of_lookup h) rfl
   exact ⟨c, lk x (mem_of_lookup h) c e⟩
 ·-- cab
  rcases cases x c hx with ⟨m1, _⟩ | ⟨m1, _⟩
  ·exact Nat.le_of_lt (Nat.lt_of_lt_of_le hC (Nat.le_of_succ_le (own4 x c m1).2))
  ·have hl := lookup_nd S.nd m1
   have hf' : (scope.names.lookup x == some NameKind.cell) = true := hf
   rw [hl] at hf'; cases hf'
 ·obtain ⟨o, e⟩ := hob b hb
  exact hCn b o e
 ·intro z
  obtain ⟨o, e⟩ := hob b hb
  have hlt := Heap.lt_size e
  rcases cases x c hx with ⟨m1, _⟩ | ⟨_, m1⟩
  ·subst z; exact absurd (Nat.lt_of_lt_of_le (Nat.lt_trans hlt hC) (Nat.le_of_succ_le (own4 x c m1).2)) (Nat.lt_irrefl _)
  ·exact (f2 b hb).2.2.2.2.1 x c m1 z
 ·-- noex
  have e1 := (I.ok.bs b o e).1
  rcases (f2 b hb).2.2.2.1 with z | z
  ·exact I.ok.noex b o e z
  ·exact absurd (Nat.lt_of_lt_of_le (Heap.lt_size e1) z) (Nat.lt_irrefl _)
 ·-- exfs
  rcases List.mem_cons.mp (I.stkSub b z) with e | z
  ·exact (f2 b hb).2.1 e
  ·exact (f2 b hb).2.2.1 z
 ·-- loc
  obtain ⟨m, hm⟩ := n4
  obtain ⟨m0, hn0, hl0⟩ := I.loc
  refine ⟨m, hm, fun i x v h1 h2 h3 => ?_⟩
  have h1 : N'[i]? = some x := h1
  unfold cSt at h2
  by_cases hi : i < own
  ·rw [List.getElem?_append_left (by simpa using hi), List.getElem?_replicate] at h2
   split at h2 <;> cases h2
  ·rw [List.getElem?_append_right (by simpa using hi), List.length_replicate, List.getElem?_map] at h2
   obtain ⟨j, hj⟩ : ∃ j, i = own + j := ⟨i - own, by omega⟩
   subst hj
   rw [Nat.add_sub_cancel_left] at h2
   cases e : ix[j]? with
   | none => rw [e] at h2; cases h2
   | some q =>
    rw [e] at h2
    have h2 : some (σ[q]?).join = some (some v) := h2
    have h2 : (σ[q]?).join = some v := Option.some.inj h2
    have hσ : σ[q]? = some (some v) := by
     cases eq : σ[q]? with
     | none => rw [eq] at h2; cases h2
     | some z => rw [eq] at h2; simp at h2; rw [h2]
    have hx : (N'.drop own)[j]? = some x := by rw [List.getElem?_drop]; exact h1
    have hNq : X.N[q]? = some x := by
     have := congrArg (·[j]?) hN
     simp only [List.getElem?_map, hx, e, Option.map_some] at this
     exact (Option.some.inj this).symm
    have hfx := hfr x (List.mem_of_getElem? hx)
    have hmem := mem_of_lookup hfx
    have kx := S.fr (x, .free) hmem rfl
    have vis : Vis X.env.scope x := .inr kx
    obtain ⟨u, r, l⟩ := hl0 q x v hNq hσ vis
    refine ⟨u, r, ?_⟩
    rcases l with ⟨k, _⟩ | ⟨k, c, hc, z⟩
    ·exfalso
     have k' : X.env.scope.names.lookup x = some .local := k
     rcases kx with kx | kx
     ·rw [show X.env.scope.names.lookup x = some .cell from kx] at k'; cases k'
     ·rw [show X.env.scope.names.lookup x = some .free from kx] at k'; cases k'
    ·refine .inr ⟨?_, c, lk x hmem c hc, z.keeps k4⟩
     show (relS scope X.env.scope).names.lookup x = some .cell \/ (relS scope X.env.scope).names.lookup x = some .free
     rw [relS_lookup, hfx]
     by_cases hc : (NameKind.free == .free && X.env.scope.kind == .function && X.env.scope.names.lookup x == some .cell) = true
     ·exact .inl (by rw [Option.map_some, if_pos hc])
     ·exact .inr (by rw [Option.map_some, if_neg hc])
 ·rcases cases x c hx with ⟨m1, _⟩ | ⟨_, m1⟩
  ·exact ⟨_, (own4 x c m1).1⟩
  ·obtain ⟨v, q⟩ := I.cell x c m1
   exact ⟨v, q.keeps k4⟩
 ·exact I.hok.fresh (Nat.le_of_lt hC)
 ·rcases cases x c hx with ⟨m1, _⟩ | ⟨_, m1⟩
  ·exact I.hok.fresh (Nat.le_of_lt (Nat.lt_of_lt_of_le hC (Nat.le_of_succ_le (own4 x c m1).2)))
  ·exact I.freeC x c m1
 ·have hp : p ∈ X.pn ++ pins := by
   have : p ∈ (X.pn ++ pins) ++ [] := hp
   rwa [List.append_nil] at this
  obtain ⟨e, n, ne, nf, d⟩ := I.pin p hp
  refine ⟨k4 _ _ e, n, hCn _ _ e, fun z => ?_, d⟩
  rcases List.mem_cons.mp (I.stkSub _ z) with q | q
  ·exact ne q
  ·exact nf q
 ·unfold cSt
  rw [List.length_append, List.length_replicate, List.length_map]
  exact hlen.symm
end
section
variable {prog : Program} {w : World} {A : Around} {R : Result -> Shared -> Prop} {s : Shared}
theorem codeAny_compLoop_any {elt target iter : Expr} {ifs : List Expr} {scope : Scope} {pos : Pos} {it acc : Value} {env : Env} (I : Nat -> Shared -> Prop)
 (turn : ∀ n s, I n s -> wpAny (model prog w) A (pyNext it) (fun r s₁ => match r with
   | none => R (.ok .next) s₁
   | some v => wpAny (model prog w) A (letOwnedTupleGo target it v) (fun _ s₁' => wpAny (model prog w) A (assign target env v) (fun _ s₂ =>
    wpAny (model prog w) A (forIn ifs true fun c r => if r = true then do let ok <- isTrue c env (eval c env); pure (ForInStep.yield ok) else pure (ForInStep.yield r)) (fun ok s₃ =>
     if ok = true then wpAny (model prog w) A (eval elt env) (fun x s₄ =>
      wpAny (model prog w) A (call (.builtin "list.append") [acc, x]) (fun _ s₅ => ∃ m, m < n /\ I m s₅) (fun _ _ => False) s₄) (fun _ _ => False) s₃
     else ∃ m, m < n /\ I m s₃) (fun _ _ => False) s₂) (fun _ _ => False) s₁') (fun _ _ => False) s₁) (fun _ _ => False) s)
 (n : Nat) (h : I n s) :
 codeAny (model prog w) A (.compLoop (.ListComp elt [⟨target, iter, ifs, 0⟩] scope pos) 0 it acc env) R s := by
 refine codeAny_loop rfl I (fun n s hI => ?_) n h
 show wpAny _ A ((compTurn (.ListComp elt [⟨target, iter, ifs, 0⟩] scope pos) 0 it acc env).onRaise (fun x => do noteFrame x env; theTreesLotGoes x)) _ _ s
 refine wpAny_noted ?_
 rw [compTurn_list]
 refine wpAny_bind (wpAny_standAt (wpAny_bind (wpAny_mono (turn n s hI) (fun r s₁ h₁ => ?_) fun _ _ h' => h'.elim)))
 cases r with
 | none => exact wpAny_pure h₁
 | some v =>
  refine wpAny_bind (wpAny_mono h₁ (fun _ s₁' h₁' => ?_) fun _ _ h' => h'.elim)
  refine wpAny_bind (wpAny_mono h₁' (fun _ s₂ h₂ => wpAny_bind (wpAny_mono h₂ (fun ok s₃ h₃ => ?_) fun _ _ h' => h'.elim)) fun _ _ h' => h'.elim)
  cases ok with
  | false => exact wpAny_pure ⟨rfl, h₃⟩
  | true =>
   exact wpAny_bind (wpAny_bind (wpAny_mono h₃ (fun x s₄ h₄ => wpAny_bind (wpAny_mono h₄ (fun _ s₅ h₅ => wpAny_pure (wpAny_pure ⟨rfl, h₅⟩)) fun _ _ h' => h'.elim)) fun _ _ h' => h'.elim))
end
def PTs (X : Cx) (ifs : List Expr) (t : TT) : Prop :=
 ∀ (pins : List (Addr × Obj)) (s : Shared) (σ : St) (H : Hp) (Q : Bool -> Hp -> Prop), Inv X pins σ H s -> t σ H Q ->
  wpAny (model X.prog X.w) X.A (forIn ifs true fun c r => if r = true then do let ok <- isTrue c X.env (eval c X.env); pure (ForInStep.yield ok) else pure (ForInStep.yield r)) (TP X pins σ Q) X.xe s
def tTrue : TT := fun _ H Q => Q true H
theorem pts_nil {X : Cx} : PTs X [] tTrue := fun _ _ _ H _ I h => wpAny_tests_nil ⟨H, I, h⟩
theorem pts_one {X : Cx} {c : Expr} {t : TT} (h : PT X c t) : PTs X [c] t := fun pins s σ H Q I hq => wpAny_tests_one (h pins s σ H Q I hq)
def GOwn (own : Nat) (g : TG) : Prop := ∀ x σ H Q, g x σ H Q -> g x σ H fun σ' H' => (σ'.length = σ.length /\ ∀ i, own <= i -> σ'[i]? = σ[i]?) /\ Q σ' H'
theorem go_name {own i : Nat} (h : i < own) : GOwn own (gName i) := fun x σ H Q q =>
 ⟨⟨by simp, fun j hj => by rw [List.getElem?_set_ne (by omega)]⟩, q⟩
def GMono (g : TG) : Prop := ∀ x σ H (Q Q' : St -> Hp -> Prop), (∀ σ H, Q σ H -> Q' σ H) -> g x σ H Q -> g x σ H Q'
theorem gm_name {i : Nat} : GMono (gName i) := fun _ _ _ _ _ h q => h _ _ q
theorem cSt_own {own : Nat} {ix : List Nat} {σ : St} {i : Nat} {v : V} (h : (cSt own ix σ)[i]? = some (some v)) : own <= i := by
 unfold cSt at h
 by_cases hi : i < own
 ·rw [List.getElem?_append_left (by simpa using hi), List.getElem?_replicate] at h
  split at h <;> cases h
 ·omega
def CompTurns (J : It) (g : TG) (tc : TT) (te : TE) (σc : St) (Q : VK) (H1 : Hp) : Prop :=
 ∃ W : Nat -> Nat -> List V -> Hp -> Prop, (∃ m, W 0 m [] H1) /\ ∀ i m ys H, W i m ys H ->
  (J.stop i H /\ ∀ p, H p = none -> Q (.ref p) (upd H p (.lst ys))) \/
  (J.go i H /\ ys.length < sizeLine /\ ∃ N : List V -> Hp -> Prop, (∀ ys' H', N ys' H' -> ∃ m', m' < m /\ W (i + 1) m' ys' H') /\ ∀ x H', J.yld i H x H' -> g x σc H' fun σ4 H4 => tc σ4 H4 fun b H5 =>
    if b = true then te σ4 H5 fun y H6 => N (ys ++ [y]) H6 else N ys H5)
def tComp (wi : TI) (own : Nat) (ix : List Nat) (g : TG) (tc : TT) (te : TE) : TE := fun σ H Q => wi σ H fun J H1 => CompTurns J g tc te (cSt own ix σ) Q H1
section
variable {X : Cx} {pins : List (Addr × Obj)} {σ : St} {H : Hp} {s : Shared} {fp : List Addr} {it : Addr} {tn : Nat -> Heap -> Prop} {J : It} {tg iter elt : Expr} {ifs : List Expr} {scope : Scope} {pos : Pos} {N' : List Str} {own : Nat} {ix : List Nat} {g : TG} {tc : TT} {te : TE} {Q : VK} {E : Value -> Shared -> Prop}
theorem comp_block (I : Inv X pins σ H s) (T : Turn X.prog X.w X.K tg J fp it tn) (st : tn 0 s.heap) (f2 : ∀ b ∈ fp, FpOk X pins H b) (hc : X.calm = true) (S : CompScope scope X.env.scope)
 (hlen : N'.length = own + ix.length) (hN : (N'.drop own).map some = ix.map (X.N[·]?)) (hfr : ∀ x ∈ N'.drop own, scope.names.lookup x = some .free)
 (hg : ∀ c, PG (X.comp scope N' c) tg g) (hgo : GOwn own g) (ht : ∀ c, PTs (X.comp scope N' c) ifs tc) (he : ∀ c, PE (X.comp scope N' c) elt te)
 (hq : CompTurns J g tc te (cSt own ix σ) Q H) {RR : Value -> Addr -> Result -> Shared -> Prop}
 (fin : ∀ (D C : Addr) (s' : Shared) (H' : Hp) (ys : List V) (its : List Value) (n : Nat), s'.os = s.os -> AllBare s'.gens -> Un (frs X.stack) fp H H' s.heap s'.heap -> HOk X.prog X.w H' s'.heap -> (∃ m, s'.heap.Ns C m) -> H' C = none -> s.heap.objs.size <= C ->
   H' D = none -> s.heap.objs.size <= D -> D ≠ C -> s'.heap.get? D = some { cls := .type "list", data := .seq its.toArray n } -> Vals ys its -> ys.length <= sizeLine -> (∀ p, H' p = none -> Q (.ref p) (upd H' p (.lst ys))) -> RR (.ref D) C (.ok .next) s') :
 wpAny (model X.prog X.w) X.A (newList []) (fun acc s₃ => wpAny (model X.prog X.w) X.A (newFunctionEnv scope X.env.globals (clOf X.env.cells scope.names []) [] X.env.qual none .none (some X.env)) (fun cenv s₄ =>
  codeAny (model X.prog X.w) X.A (.compStart (.ListComp elt [⟨tg, iter, ifs, 0⟩] scope pos) 0 (.ref it) acc { cenv with scope := relabel scope X.env }) (RR acc cenv.locals) s₄) E s₃) E s := by
 obtain ⟨W, ⟨m0, w0⟩, turn⟩ := hq
 have hob : ∀ b ∈ fp, ∃ o, s.heap.get? b = some o := fun b hb => let ⟨o, e, _⟩ := T.obj 0 _ st b hb; ⟨o, e⟩
 refine wpAny_newObj_type ?_
 generalize hH1 : s.heap.push { cls := .type "list", dict := none, data := .seq ([] : List Value).toArray } = h1
 have hs1 : h1.objs.size = s.heap.objs.size + 1 := by rw [<- hH1, Heap.size_push]
 have k1 : ∀ b o, s.heap.get? b = some o -> h1.get? b = some o := fun b o e => by rw [<- hH1]; exact Heap.get?_push_of_some _ e
 have d1 : h1.get? s.heap.objs.size = some { cls := .type "list", data := .seq ([] : List Value).toArray } := by rw [<- hH1]; exact Heap.get?_push_size _ rfl
 simp only [newFunctionEnv, Option.isSome_some, if_true]
 refine wpAny_bind (wpAny_alloc ?_)
 generalize hH2 : (({ s with heap := h1 } : Shared).heap.push { cls := .type "dict", data := .dict #[] }) = h2
 have hH2' : h1.push { cls := .type "dict", data := .dict #[] } = h2 := hH2
 have hs2 : h2.objs.size = h1.objs.size + 1 := by rw [<- hH2', Heap.size_push]
 have k2 : ∀ b o, h1.get? b = some o -> h2.get? b = some o := fun b o e => by rw [<- hH2']; exact Heap.get?_push_of_some _ e
 have n2 : h2.Ns h1.objs.size (fun _ => none) := by rw [<- hH2']; exact Heap.Ns.new h1 (.type "dict")
 refine wpAny_bind (wpAny_layCells _ (fun name kind cells => by cases hkc : kind == NameKind.cell <;> simp [hkc]) _ _ _ _ ?_)
 have ok := cellsFrom_ok scope.names h2 (h1.objs.size + 1) [] ⟨fun _ _ hm => (nomatch hm), List.Pairwise.nil⟩ (by rw [hs2]; exact Nat.le_refl _)
 rw [hs2] at ok
 show wpAny _ _ (forIn ([] : List (Str × Value)) PUnit.unit _ >>= _) _ _ _
 rw [List.forIn_nil]
 refine wpAny_bind (wpAny_pure (wpAny_pure ?_))
 show codeAny _ _ (.compStart _ 0 (.ref it) (.ref s.heap.objs.size) (compEnvC scope (cellsFrom h2.objs.size scope.names (clOf X.env.cells scope.names [])) h1.objs.size X.env)) (RR (.ref s.heap.objs.size) h1.objs.size) { s with heap := pushCells h2 scope.names }
 rw [hs2]
 generalize hH3 : pushCells h2 scope.names = h3 at ok ⊢
 have k3 : ∀ b o, h2.get? b = some o -> h3.get? b = some o := fun b o e => by rw [<- hH3]; exact pushCells_keeps _ _ b o e
 have kk : ∀ b o, s.heap.get? b = some o -> h3.get? b = some o := fun b o e => k3 b o (k2 b o (k1 b o e))
 have d3 : h3.get? s.heap.objs.size = some { cls := .type "list", data := .seq ([] : List Value).toArray } := k3 _ _ (k2 _ _ d1)
 have hC : s.heap.objs.size < h1.objs.size := by rw [hs1]; exact Nat.lt_succ_self _
 have I3 : Inv (X.comp scope N' ⟨pins, cellsFrom (h1.objs.size + 1) scope.names (clOf X.env.cells scope.names []), s, H, fp, h1.objs.size⟩) [] (cSt own ix σ) H { s with heap := h3 } :=
  comp_inv (s4 := { s with heap := h3 }) I f2 hob S hlen hN hfr hC kk rfl rfl ⟨_, n2.keeps k3⟩ (fun x c hm => ok.empty x c hm) ok.apart
 generalize hcs : cellsFrom (h1.objs.size + 1) scope.names (clOf X.env.cells scope.names []) = cs at I3 ⊢
 generalize hCC : h1.objs.size = C at *
 generalize hDD : s.heap.objs.size = D at *
 have hY := I3.ok
 -- what is fixed of the records
 have sD : D ≠ C /\ (∀ x c, cs.lookup x = some c -> c ≠ D) /\ D ∉ frs X.stack /\ ∀ p ∈ X.pn ++ pins, p.1 ≠ D := by
  refine ⟨Nat.ne_of_lt hC, fun x c e z => ?_, fun z => ?_, fun p hp z => ?_⟩
  ·subst z
   have e' := e
   rw [<- hcs, cellsFrom_app, lookup_app] at e'
   cases q : (cellsFrom (C + 1) scope.names []).lookup x with
   | some d =>
    rw [q] at e'; cases e'
    have := (ok.empty x c (mem_of_lookup q)).2
    exact absurd (Nat.lt_of_lt_of_le hC (Nat.le_of_succ_le this)) (Nat.lt_irrefl _)
   | none =>
    rw [q] at e'
    have hfree : ∀ y ∈ scope.names, y.2 = .free -> ∃ c, X.env.cells.lookup y.1 = some c := fun y hy h => I.ok.has y.1 (S.fr y hy h)
    rcases clOf_mem _ _ _ _ hfree (mem_of_lookup e') with z | ⟨_, z⟩
    ·exact absurd z (by simp)
    ·obtain ⟨v, q⟩ := I.cell x c z
     have := q.lt
     rw [hDD] at this
     exact Nat.lt_irrefl _ this
  ·exact (I3.nofs (a := D) (by exact absurd z (by
    intro z'
    obtain ⟨_, o, ho, _⟩ := (show s.heap.FunFrames X.base X.stack from I.stack).mem z'
    have := Heap.lt_size ho
    rw [hDD] at this
    exact Nat.lt_irrefl _ this))) z
  ·have := Heap.lt_size (I.pin p hp).1
   rw [z, hDD] at this
   exact Nat.lt_irrefl _ this
 have stat : ∀ {H' : Hp}, (∀ b ∈ fp, H' b = none) -> ∀ b ∈ fp, FpOk (X.comp scope N' ⟨pins, cs, s, H, fp, C⟩) [] H' b := fun {H'} hn b hb => by
  refine ⟨hn b hb, (hY.exf b hb).1, hY.exfs b hb, .inl hb, (hY.exf b hb).2, fun p hp => ?_⟩
  have hp : p ∈ (X.pn ++ pins) ++ [] := hp
  rw [List.append_nil] at hp
  exact (f2 b hb).2.2.2.2.2 p hp
 have statD : ∀ {H' : Hp}, H' D = none -> FpOk (X.comp scope N' ⟨pins, cs, s, H, fp, C⟩) [] H' D := fun {H'} hn => by
  refine ⟨hn, sD.1, sD.2.2.1, .inr (Nat.le_of_eq hDD), sD.2.1, fun p hp => ?_⟩
  have hp : p ∈ (X.pn ++ pins) ++ [] := hp
  rw [List.append_nil] at hp
  exact sD.2.2.2 p hp
 have loop : codeAny (model X.prog X.w) X.A (.compLoop (.ListComp elt [⟨tg, iter, ifs, 0⟩] scope pos) 0 (.ref it) (.ref D) (compEnvC scope cs C X.env)) (RR (.ref D) C) { s with heap := h3 } := by
  refine codeAny_compLoop_any (fun n s' => ∃ (i : Nat) (H' : Hp) (ys : List V) (its : List Value) (k : Nat), Inv (X.comp scope N' ⟨pins, cs, s, H, fp, C⟩) [] (cSt own ix σ) H' s' /\ tn i s'.heap /\ (∀ b ∈ fp, H' b = none) /\ H' D = none /\
   s'.heap.get? D = some { cls := .type "list", data := .seq its.toArray k } /\ Vals ys its /\ ys.length <= sizeLine /\ W i n ys H') ?_ m0
   ⟨0, H, [], [], 0, I3, T.keep _ _ _ st fun b _ o e => kk b o e, fun b hb => (f2 b hb).1, I.hok.fresh (Nat.le_of_eq hDD), d3, .nil, Nat.zero_le _, w0⟩
  rintro n s4 ⟨i, H4, ys, its, k, I4, st4, fr4, dn4, d4, rv4, z4, w4⟩
  rcases turn i n ys H4 w4 with ⟨stop, qn⟩ | ⟨go, zl, N, hN2, step⟩
  ·have ID := I4.pinned (fp := [D]) (fun b hb => by rw [List.mem_singleton.mp hb]; exact statD dn4) (fun b hb => by rw [List.mem_singleton.mp hb]; exact ⟨_, d4, fun v z => nomatch z⟩)
   have nD : ∀ b ∈ fp, b ≠ D := fun b hb z => by
    obtain ⟨o, e⟩ := hob b hb
    have := Heap.lt_size e
    rw [z, hDD] at this
    exact Nat.lt_irrefl _ this
   have stat' : ∀ b ∈ fp, FpOk (X.comp scope N' ⟨pins, cs, s, H, fp, C⟩) ([] ++ pinsAt [D] s4.heap) H4 b := fun b hb => by
    obtain ⟨q1, q2, q3, q4, q5, q6⟩ := stat fr4 b hb
    refine ⟨q1, q2, q3, q4, q5, fun p hp => ?_⟩
    rcases List.mem_append.mp hp with z | z
    ·exact q6 p (List.mem_append_left _ z)
    ·have := (of_pinsAt (by simpa using z : p ∈ pinsAt [D] s4.heap)).1
     rw [List.mem_singleton.mp this]
     exact fun z => nD b hb z.symm
   refine thn (T.done (X.comp scope N' ⟨pins, cs, s, H, fp, C⟩) rfl rfl rfl hc i _ s4 _ H4 (fun _ _ => False) ID stat' st4 stop) fun r s5 ⟨hr, I5⟩ => ?_
   subst hr
   obtain ⟨m, hm, _⟩ := I5.loc
   refine fin D C s5 H4 ys its k I5.os I5.bare I5.base I5.hok ⟨m, hm⟩ I5.free (Nat.le_of_lt hC) dn4 (Nat.le_refl _) sD.1 ?_ rv4 z4 qn
   ·exact (I5.pin (D, _) (List.mem_append_right _ (List.mem_append_right _ (mem_pinsAt (List.mem_singleton.mpr rfl) d4)))).1
  ·have nD : ∀ b ∈ fp, b ≠ D := fun b hb z => by
    obtain ⟨o, e⟩ := hob b hb
    have := Heap.lt_size e
    rw [z, hDD] at this
    exact Nat.lt_irrefl _ this
   have ID := I4.pinned (fp := [D]) (fun b hb => by rw [List.mem_singleton.mp hb]; exact statD dn4) (fun b hb => by rw [List.mem_singleton.mp hb]; exact ⟨_, d4, fun v z => nomatch z⟩)
   have statP : ∀ {H' : Hp}, (∀ b ∈ fp, H' b = none) -> ∀ b ∈ fp, FpOk (X.comp scope N' ⟨pins, cs, s, H, fp, C⟩) ([] ++ pinsAt [D] s4.heap) H' b := fun {H'} hn b hb => by
    obtain ⟨q1, q2, q3, q4, q5, q6⟩ := stat hn b hb
    refine ⟨q1, q2, q3, q4, q5, fun p hp => ?_⟩
    rcases List.mem_append.mp hp with z | z
    ·exact q6 p (List.mem_append_left _ z)
    ·have := (of_pinsAt (by simpa using z : p ∈ pinsAt [D] s4.heap)).1
     rw [List.mem_singleton.mp this]
     exact fun z => nD b hb z.symm
   refine thn (T.item (X.comp scope N' ⟨pins, cs, s, H, fp, C⟩) rfl rfl rfl hc i _ s4 _ H4 (fun _ _ => False) ID (statP fr4) st4 go) fun r s5 ⟨u, hr, h5⟩ => ?_
   subst hr
   refine thn h5 fun _ s6 ⟨x, H6, I6, r6, y6, st6, fr6⟩ => ?_
   have I6' := I6.pinned (statP fr6) (T.obj _ _ st6)
   refine thn (hg _ _ s6 _ H6 x u _ I6' r6 (hgo _ _ _ _ (step x H6 y6))) fun _ s7 ⟨σ7, H7, I7, ⟨e7, k7⟩, q7⟩ => ?_
   have I7' : Inv (X.comp scope N' ⟨pins, cs, s, H, fp, C⟩) ([] ++ pinsAt [D] s4.heap ++ pinsAt fp s6.heap) σ7 H7 s7 := I7
   refine thn (ht _ _ s7 σ7 H7 _ I7' q7) fun b s8 ⟨H8, I8, q8⟩ => ?_
   -- what is kept through the turn
   have back : ∀ {s9 : Shared} {H9 : Hp}, Inv (X.comp scope N' ⟨pins, cs, s, H, fp, C⟩) ([] ++ pinsAt [D] s4.heap ++ pinsAt fp s6.heap) σ7 H9 s9 ->
    Inv (X.comp scope N' ⟨pins, cs, s, H, fp, C⟩) [] (cSt own ix σ) H9 s9 /\ tn (i + 1) s9.heap /\ (∀ b ∈ fp, H9 b = none) /\ H9 D = none /\ s9.heap.get? D = some { cls := .type "list", data := .seq its.toArray k } := fun {s9 H9} I9 => by
    have pD := I9.pin (D, _) (List.mem_append_right _ (List.mem_append_left _ (List.mem_append_right _ (mem_pinsAt (List.mem_singleton.mpr rfl) d4))))
    refine ⟨I9.unpinned.unpinned.weak (by rw [e7]) fun j v hj => ?_, T.keep _ _ _ st6 fun b hb o e => (I9.pin (b, o) (List.mem_append_right _ (List.mem_append_right _ (mem_pinsAt hb e)))).1, fun b hb => ?_, pD.2.1, pD.1⟩
    ·rw [k7 j (cSt_own hj)]; exact hj
    ·obtain ⟨o, e, _⟩ := T.obj _ _ st6 b hb
     exact (I9.pin (b, o) (List.mem_append_right _ (List.mem_append_right _ (mem_pinsAt hb e)))).2.1
   cases b with
   | false =>
    rw [if_neg Bool.false_ne_true] at q8
    obtain ⟨m', hm, w8⟩ := hN2 _ _ q8
    obtain ⟨b1, b2, b3, b4, b5⟩ := back I8
    exact ⟨m', hm, i + 1, H8, ys, its, k, b1, b2, b3, b4, b5, rv4, z4, w8⟩
   | true =>
    rw [if_pos rfl] at q8
    rw [if_pos rfl]
    refine thn (he _ _ s8 σ7 H8 _ I8 q8) fun yv s9 ⟨y, H9, I9, r9, q9⟩ => ?_
    obtain ⟨m', hm, w9⟩ := hN2 _ _ q9
    obtain ⟨b1, b2, b3, b4, b5⟩ := back I9
    have hl := rv4.length
    refine call_meets F.slot_list_append ⟨_, b5, rfl⟩ F.entry_list_append (F.args_list_append_2 _ _) (PySem.list_append D its.toArray k yv (by rw [List.size_toArray]; omega)) ⟨b5, ?_⟩
    have up := PySem.IsL.update b5 (fun a => a.push yv)
    have keep : ∀ b o, b ≠ D -> s9.heap.get? b = some o -> (s9.heap.update D (Obj.mapSeq fun a => a.push yv)).get? b = some o := fun b o hb q => (Heap.get?_update_other _ _ (Ne.symm hb)).trans q
    obtain ⟨f0, f1, f2', f3, f4, f5⟩ := statD b4
    refine ⟨m', hm, i + 1, H9, ys ++ [y], its ++ [yv], (if ((its.toArray.push yv).size == its.toArray.size) = true then k else k + 1), b1.turned (t' := s9.toks) keep b4 f1 f3 f4 f5, ?_, b3, b4, ?_, rv4.append (.cons r9 .nil), ?_, w9⟩
    ·exact T.keep _ _ _ b2 fun b hb o e => keep b o (nD b hb) e
    ·have e2 : (its.toArray.push yv) = (its ++ [yv]).toArray := by simp
     rw [<- e2]
     exact up
    ·rw [List.length_append, List.length_singleton]
     omega
 exact codeAny_compStart_list loop (T.self X.A 0 _ _ _ (T.keep _ _ _ st fun b _ o e => kk b o e) loop)
end
section
variable {X : Cx} {pins : List (Addr × Obj)} {σ : St} {H : Hp} {s : Shared} {fp : List Addr} {it : Addr} {tn : Nat -> Heap -> Prop} {J : It} {tg iter elt : Expr} {ifs : List Expr} {scope : Scope} {pos : Pos} {N' : List Str} {own : Nat} {ix : List Nat} {g : TG} {tc : TT} {te : TE} {wi : TI} {E : Value -> Shared -> Prop}
theorem comp_adopt {H' : Hp} {s' : Shared} {D : Addr} {ys : List V} {its : List Value} {n : Nat} (I : Inv X pins σ H s) (f2 : ∀ b ∈ fp, FpOk X pins H b) (ho : s'.os = s.os) (hg : AllBare s'.gens) (u : Un (frs X.stack) fp H H' s.heap s'.heap) (hok : HOk X.prog X.w H' s'.heap)
 (dn : H' D = none) (ds : s.heap.objs.size <= D) (d : s'.heap.get? D = some { cls := .type "list", data := .seq its.toArray n }) (rv : Vals ys its) (z : ys.length <= sizeLine) : Inv X pins σ (upd H' D (.lst ys)) s' := by
 have nD : ∀ b o, s.heap.get? b = some o -> b ≠ D := fun b o e q => by rw [q, Heap.get?_none_of_le ds] at e; cases e
 have nH : ∀ b o, H' b = some o -> b ≠ D := fun b o e q => by rw [q, dn] at e; cases e
 refine I.call' (ch := fp) ho ⟨u.keep, u.slot, fun b o e q hx => ?_, u.there, fun b xs e => ?_, fun b o v e => ?_, fun b ps e => ?_⟩ (fun b o e => ?_) hg fun b hb => ?_
 ·rw [upd_ne (nD b o e)]; exact u.free b o e q hx
 ·have := u.tups b xs e
  rw [upd_ne (nH _ _ this)]; exact this
 ·have := u.frzs b o v e
  rw [upd_ne (nH _ _ this)]; exact this
 ·obtain ⟨more, q⟩ := u.tbls b ps e
  exact ⟨more, by rw [upd_ne (nH _ _ q)]; exact q⟩
 ·by_cases hb : b = D
  ·subst hb
   rw [upd_same] at e
   cases e
   exact ⟨z, its, n, rv, d⟩
  ·rw [upd_ne hb] at e
   exact (hok b o e).stay (fun _ _ _ q => q) (fun c q => by rw [upd_ne (nH _ _ q)]; exact q) fun c xs q => by rw [upd_ne (nH _ _ q)]; exact q
 ·obtain ⟨q1, q2, q3, q4, q5, q6⟩ := f2 b hb
  exact ⟨q4, q2, q5, q6⟩
theorem Inv.dictGone {s' : Shared} {h' : Heap} {C : Addr} {H' : Hp} {σ' : St} (I : Inv X pins σ H s) (J : Inv X pins σ' H' s') (hC : s.heap.objs.size <= C) (hn : H' C = none) (k : Heap.SameBut C s'.heap h') : Inv X pins σ' H' { s' with heap := h' } := by
 have hC0 := Heap.get?_none_of_le hC
 refine J.turned (t' := s'.toks) (fun b o hb e => (k.2 b hb).trans e) hn (fun z => ?_) (.inr (Nat.le_trans I.sz hC)) (fun x c e z => ?_) fun p hp z => ?_
 ·obtain ⟨m, ⟨o, _, _, ho, _⟩, _⟩ := I.loc
  rw [<- z, hC0] at ho; cases ho
 ·obtain ⟨v, o, ho, _⟩ := I.cell x c e
  rw [z, hC0] at ho; cases ho
 ·have := (I.pin p hp).1
  rw [z, hC0] at this; cases this
theorem pe_comp (hc : X.calm = true) (hi : PI X tg iter wi) (S : CompScope scope X.env.scope)
 (hlen : N'.length = own + ix.length) (hN : (N'.drop own).map some = ix.map (X.N[·]?)) (hfr : ∀ x ∈ N'.drop own, scope.names.lookup x = some .free)
 (hg : ∀ c, PG (X.comp scope N' c) tg g) (hgo : GOwn own g) (ht : ∀ c, PTs (X.comp scope N' c) ifs tc) (he : ∀ c, PE (X.comp scope N' c) elt te)
 (hs : ∀ x, foldedSetIterable iter X.env x = pure x := by intro _; rfl) : PE X (.ListComp elt [⟨tg, iter, ifs, 0⟩] scope pos) (tComp wi own ix g tc te) := by
 intro pins s σ H Q I h
 rw [eval_ListComp]
 have hfree : ∀ y ∈ scope.names, y.2 = .free -> ∃ c, X.env.cells.lookup y.1 = some c := fun y hy h => I.ok.has y.1 (S.fr y hy h)
 refine wpAny_comprehension_free (use := none) rfl hs (closureFor_eq hfree) S.kind (fun y hy hl => lookup_nd S.nd (by rw [<- hl]; exact hy)) ?_
 refine thn (hi pins s σ H _ I h) fun v s1 h1 => thn h1 fun itv s2 h2 => ?_
 obtain ⟨it, fp, tn, J, H2, e, I2, T, st2, f2, q2⟩ := h2
 subst e
 refine comp_block (RR := fun acc C => compPost (model X.prog X.w) X.A X.xe none (EP X pins σ Q) acc C) I2 T st2 f2 hc S hlen hN hfr hg hgo ht he q2 ?_
 intro D C s' H' ys its n ho hgn u hok hm hC hCs hD hDs hDC d rv z q
 obtain ⟨m, hm⟩ := hm
 have I3 := comp_adopt I2 f2 ho hgn u hok hD hDs d rv z
 refine ⟨m, hm, fun h' hs' => ?_⟩
 exact ⟨.ref D, _, I2.dictGone I3 hCs (by rw [upd_ne (Ne.symm hDC)]; exact hC) hs', rfl, q D hD⟩
theorem ps_comp {i : Nat} {y : Str} {py spos : Pos} (hc : X.calm = true) (hnd : X.N.Nodup) (hiy : X.N[i]? = some y) (hy : X.env.scope.names.lookup y = some .local) (hi : PI X tg iter wi) (S : CompScope scope X.env.scope)
 (hlen : N'.length = own + ix.length) (hN : (N'.drop own).map some = ix.map (X.N[·]?)) (hfr : ∀ x ∈ N'.drop own, scope.names.lookup x = some .free)
 (hg : ∀ c, PG (X.comp scope N' c) tg g) (hgo : GOwn own g) (ht : ∀ c, PTs (X.comp scope N' c) ifs tc) (he : ∀ c, PE (X.comp scope N' c) elt te)
 (hsw : swapsWith (.ListComp elt [⟨tg, iter, ifs, 0⟩] scope pos) (some (.Name y py)) spos.line X.env = pure true)
 (hs : ∀ x, foldedSetIterable iter X.env x = pure x := by intro _; rfl) : PS X (.Assign [.Name y py] (.ListComp elt [⟨tg, iter, ifs, 0⟩] scope pos) spos) (tAsg (tComp wi own ix g tc te) (gName i)) := by
 intro pins s σ H D I h
 rw [exec_Assign_Name_used _ _ _ _ hsw]
 refine wpAny_bind (wpAny_standAt (wpAny_bind ?_))
 show wpAny _ _ (do let _ <- comprehension (.ListComp elt [⟨tg, iter, ifs, 0⟩] scope pos) scope X.env _ (newList []) false (eval iter X.env) (some (assign (.Name y py) X.env))) _ _ s
 have hfree : ∀ y ∈ scope.names, y.2 = .free -> ∃ c, X.env.cells.lookup y.1 = some c := fun y hy h => I.ok.has y.1 (S.fr y hy h)
 refine wpAny_bind (wpAny_mono (wpAny_comprehension_free (use := some (assign (.Name y py) X.env)) (Q := fun _ s' => SP X pins D .next s') rfl hs (closureFor_eq hfree) S.kind (fun y hy hl => lookup_nd S.nd (by rw [<- hl]; exact hy)) ?_) (fun _ s' hq => wpAny_pure (wpAny_pure hq)) fun _ _ e => e)
 refine thn (hi pins s σ H _ I h) fun v s1 h1 => thn h1 fun itv s2 h2 => ?_
 obtain ⟨it, fp, tn, J, H2, e, I2, T, st2, f2, q2⟩ := h2
 subst e
 refine comp_block (RR := fun acc C => compPost (model X.prog X.w) X.A X.xe (some (assign (.Name y py) X.env)) (fun _ s' => SP X pins D .next s') acc C) I2 T st2 f2 hc S hlen hN hfr hg hgo ht he q2 ?_
 intro d C s' H' ys its n ho hgn u hok hm hC hCs hD hDs hDC hd rv z q
 obtain ⟨m, hm⟩ := hm
 have I3 := comp_adopt I2 f2 ho hgn u hok hD hDs hd rv z
 show wpAny _ _ (assign (.Name y py) X.env (.ref d)) _ _ s'
 have hCn : (upd H' d (.lst ys)) C = none := by rw [upd_ne (Ne.symm hDC)]; exact hC
 refine wpAny_assign_Name (store_ok2 I3 hnd hiy (.inl hy) (v := .ref d) rfl (fun s3 I4 ⟨a, sb, ha⟩ => ?_) (.inr hy))
 have ha' : a ≠ C := fun e => by
  have hC0 := Heap.get?_none_of_le hCs
  rcases ha with z | z
  ·obtain ⟨m, ⟨o, _, _, ho, _⟩, _⟩ := I2.loc
   rw [<- z, e, hC0] at ho; cases ho
  ·obtain ⟨v, o, ho, _⟩ := I2.cell y a z
   rw [e, hC0] at ho; cases ho
 refine ⟨m, hm.sameBut sb (Ne.symm ha'), fun h' hs' => ?_⟩
 exact ⟨_, _, I2.dictGone I4 hCs hCn hs', q d hD⟩
end
section
variable {X : Cx}
theorem PE.imp {e : Expr} {t t' : TE} (h : PE X e t) (f : ∀ σ H Q, t' σ H Q -> t σ H Q) : PE X e t' := fun pins s σ H Q I q => h pins s σ H Q I (f σ H Q q)
theorem OpR.imp {f : Value -> Value -> Sem Value} {r r' : R2} (h : OpR X f r) (g : ∀ x y H Q, r' x y H Q -> r x y H Q) : OpR X f r' := fun pins s σ H x y v u Q I rx ry q => h pins s σ H x y v u Q I rx ry (g _ _ _ _ q)
theorem CallR.imp {f : Value} {r r' : List V -> Hp -> VK -> Prop} (h : CallR X f r) (g : ∀ x H Q, r' x H Q -> r x H Q) : CallR X f r' := fun pins s σ H xs us Q I r q => h pins s σ H xs us Q I r (g _ _ _ q)
def vVar (i : Nat) : TE := fun σ H Q => match σ[i]? with
 | some (some v) => Q v H
 | _ => False
theorem vv (i : Nat) {x : Str} {pos : Pos} (hN : X.N[i]? = some x := by rfl) (hv : Vis X.env.scope x := by first | exact Or.inl rfl | exact Or.inr (Or.inl rfl) | exact Or.inr (Or.inr rfl)) (hd : (x == ("__debug__" : Str)) = false := by decide)
 (hcd : (x == ("__classdict__" : Str)) = false := by decide) : PE X (.Name x pos) (vVar i) := (pe_var hN hv hd hcd).imp fun σ H Q q => by
 unfold vVar at q
 split at q
 ·rename_i v e; exact ⟨v, e, q⟩
 ·exact q.elim
def okMul (i j : Int) : Prop := (i.natAbs < 2 ^ 4096 /\ j.natAbs < 2 ^ 4096) \/ (-(2 ^ 64) < i /\ i < 2 ^ 64) \/ (-(2 ^ 64) < j /\ j < 2 ^ 64)
theorem bits_of {i : Int} (h : i.natAbs < 2 ^ 4096) : Builtin.Int.intBits i <= 2 ^ 20 := by
 unfold Builtin.Int.intBits
 split
 ·exact Nat.zero_le _
 ·rename_i hz
  have hne : i.natAbs ≠ 0 := by
   have : ¬ i = 0 := by simpa using hz
   omega
  have := (Nat.log2_lt hne).mpr h
  have e : (2 : Nat) ^ 20 = 1048576 := by decide
  omega
theorem okMul.ok {i j : Int} (h : okMul i j) : IntMulOk i j := by
 rcases h with ⟨h1, h2⟩ | h | h
 ·exact .of_bits (bits_of h1) (bits_of h2)
 ·exact CMul.ok (.inl h)
 ·exact CMul.ok (.inr h)
def okDiv (j : Int) : Prop := 0 < j /\ j < 2 ^ 4096
theorem okDiv.ok {i j : Int} (h : okDiv j) : Builtin.divisionGoesByPylong i j = false := by
 refine PyProof.noPylong_of_log2 ?_
 obtain ⟨h1, h2⟩ := h
 have hne : j.natAbs ≠ 0 := by omega
 have h3 : j.natAbs < 2 ^ 4096 := by
  have e : ((j.natAbs : Int)) = j := by omega
  have h2' : ((j.natAbs : Nat) : Int) < ((2 ^ 4096 : Nat) : Int) := by rw [e, Int.natCast_pow]; exact h2
  exact Int.ofNat_lt.mp h2'
 have := (Nat.log2_lt hne).mpr h3
 omega
def mAdd (K : PySem.W.Frag) : R2 := fun x y H Q => match x, y with
 | .int i, .int j => Q (.int (i + j)) H
 | .str a, .str b => a.length + b.length <= sizeLine /\ Q (.str (a ++ b)) H
 | .ref a, .ref b => rCat (.ref a) (.ref b) H Q \/ rCatT K (.ref a) (.ref b) H Q
 | _, _ => False
theorem om_add : OpR X (binaryOp .Add) (mAdd X.K) := by
 intro pins s σ H x y v u Q I rx ry q
 cases x <;> cases y <;> first
  | exact False.elim q
  | exact op_add pins s σ H _ _ v u Q I rx ry ⟨_, _, rfl, rfl, q⟩
  | exact op_add_str pins s σ H _ _ v u Q I rx ry ⟨_, _, rfl, rfl, q.1, q.2⟩
  | (rcases q with q | q
     ·exact op_cat pins s σ H _ _ v u Q I rx ry q
     ·exact op_catT pins s σ H _ _ v u Q I rx ry q)
def mSub : R2 := fun x y H Q => match x, y with
 | .int i, .int j => Q (.int (i - j)) H
 | _, _ => False
theorem om_sub : OpR X (binaryOp .Sub) mSub := by
 intro pins s σ H x y v u Q I rx ry q
 cases x <;> cases y <;> first
  | exact False.elim q
  | exact op_sub pins s σ H _ _ v u Q I rx ry ⟨_, _, rfl, rfl, q⟩
def mMul : R2 := fun x y H Q => match x, y with
 | .int i, .int j => okMul i j /\ Q (.int (i * j)) H
 | .ref a, .int k => rRep (.ref a) (.int k) H Q
 | _, _ => False
theorem om_mul : OpR X (binaryOp .Mult) mMul := by
 have hI : OpR X (binaryOp .Mult) (rI okMul fun i j => .int (i * j)) := opI fun _ _ _ _ _ _ _ hc q => mul_int q hc.ok
 intro pins s σ H x y v u Q I rx ry q
 cases x <;> cases y <;> first
  | exact False.elim q
  | exact hI pins s σ H _ _ v u Q I rx ry ⟨_, _, rfl, rfl, q.1, q.2⟩
  | exact op_rep pins s σ H _ _ v u Q I rx ry q
def mDiv : R2 := fun x y H Q => match x, y with
 | .int i, .int j => okDiv j /\ Q (.int (i / j)) H
 | _, _ => False
theorem om_div : OpR X (binaryOp .FloorDiv) mDiv := by
 have hI : OpR X (binaryOp .FloorDiv) (rI (fun _ j => okDiv j) fun i j => .int (i / j)) := opI fun i j _ _ _ _ _ hc q => by
  refine floordiv_int (by have := hc.1; omega) ?_ (.inl hc.ok)
  rw [Int.fdiv_eq_ediv_of_nonneg i (by have := hc.1; omega)]
  exact q
 intro pins s σ H x y v u Q I rx ry q
 cases x <;> cases y <;> first
  | exact False.elim q
  | exact hI pins s σ H _ _ v u Q I rx ry ⟨_, _, rfl, rfl, q.1, q.2⟩
def mMod : R2 := fun x y H Q => match x, y with
 | .int i, .int j => 0 < j /\ Q (.int (i % j)) H
 | _, _ => False
theorem om_mod : OpR X (binaryOp .Mod) mMod := by
 intro pins s σ H x y v u Q I rx ry q
 cases x <;> cases y <;> first
  | exact False.elim q
  | exact op_mod pins s σ H _ _ v u Q I rx ry ⟨_, _, rfl, rfl, q.1, q.2⟩
def mPow : R2 := fun x y H Q => match x, y with
 | .int i, .int j => CPow i j /\ Q (.int (i ^ j.toNat)) H
 | _, _ => False
theorem om_pow : OpR X (binaryOp .Pow) mPow := by
 intro pins s σ H x y v u Q I rx ry q
 cases x <;> cases y <;> first
  | exact False.elim q
  | exact op_pow pins s σ H _ _ v u Q I rx ry ⟨_, _, rfl, rfl, q.1, q.2⟩
def mBit (f : Int -> Int -> Int) : R2 := fun x y H Q => match x, y with
 | .int i, .int j => Q (.int (f i j)) H
 | _, _ => False
theorem om_and : OpR X (binaryOp .BitAnd) (mBit Builtin.bitAnd) := by
 intro pins s σ H x y v u Q I rx ry q
 cases x <;> cases y <;> first
  | exact False.elim q
  | exact op_and pins s σ H _ _ v u Q I rx ry ⟨_, _, rfl, rfl, q⟩
def mShr : R2 := fun x y H Q => match x, y with
 | .int i, .int j => 0 <= j /\ Q (.int (i / 2 ^ j.toNat)) H
 | _, _ => False
theorem om_shr : OpR X (binaryOp .RShift) mShr := by
 intro pins s σ H x y v u Q I rx ry q
 cases x <;> cases y <;> first
  | exact False.elim q
  | exact op_shr pins s σ H _ _ v u Q I rx ry ⟨_, _, rfl, rfl, q.1, q.2⟩
def mShl : R2 := fun x y H Q => match x, y with
 | .int i, .int j => CPow i j /\ Q (.int (i * 2 ^ j.toNat)) H
 | _, _ => False
theorem om_shl : OpR X (binaryOp .LShift) mShl := by
 intro pins s σ H x y v u Q I rx ry q
 cases x <;> cases y <;> first
  | exact False.elim q
  | exact op_shl pins s σ H _ _ v u Q I rx ry ⟨_, _, rfl, rfl, q.1, q.2⟩
def mNeg : V -> Hp -> VK -> Prop := fun x H Q => match x with
 | .int i => Q (.int (-i)) H
 | _ => False
theorem um_neg : UnR X (unaryOp .USub) mNeg := by
 intro pins s σ H x v Q I rx q
 cases x <;> first
  | exact False.elim q
  | exact un_neg pins s σ H _ v Q I rx ⟨_, rfl, q⟩
def mCmp (p : Int -> Int -> Bool) : R2 := fun x y H Q => match x, y with
 | .int i, .int j => Q (.bl (p i j)) H
 | _, _ => False
theorem om_lt : OpR X (compareOp .Lt) (mCmp fun i j => decide (i < j)) := by
 intro pins s σ H x y v u Q I rx ry q
 cases x <;> cases y <;> first
  | exact False.elim q
  | exact op_lt pins s σ H _ _ v u Q I rx ry ⟨_, _, rfl, rfl, q⟩
theorem om_le : OpR X (compareOp .LtE) (mCmp fun i j => decide (i <= j)) := by
 intro pins s σ H x y v u Q I rx ry q
 cases x <;> cases y <;> first
  | exact False.elim q
  | exact op_le pins s σ H _ _ v u Q I rx ry ⟨_, _, rfl, rfl, q⟩
theorem om_gt : OpR X (compareOp .Gt) (mCmp fun i j => decide (j < i)) := by
 intro pins s σ H x y v u Q I rx ry q
 cases x <;> cases y <;> first
  | exact False.elim q
  | exact op_gt pins s σ H _ _ v u Q I rx ry ⟨_, _, rfl, rfl, q⟩
theorem om_ge : OpR X (compareOp .GtE) (mCmp fun i j => decide (j <= i)) := by
 intro pins s σ H x y v u Q I rx ry q
 cases x <;> cases y <;> first
  | exact False.elim q
  | exact op_ge pins s σ H _ _ v u Q I rx ry ⟨_, _, rfl, rfl, q⟩
end
inductive Dv where
 | non | bl (b : Bool) | int (i : Int) | str (x : Str) | tup (ds : List Dv) | lst (ds : List Dv)
mutual
def Rep (K : PySem.W.Frag) (H : Hp) : Dv -> V -> Prop
 | .non, v => v = .non
 | .bl b, v => v = .bl b
 | .int i, v => v = .int i
 | .str x, v => v = .str x
 | .tup ds, v => ∃ a xs, v = .ref a /\ SqT K H a xs /\ Reps K H ds xs
 | .lst ds, v => ∃ a xs, v = .ref a /\ SqL K H a xs /\ Reps K H ds xs
def Reps (K : PySem.W.Frag) (H : Hp) : List Dv -> List V -> Prop
 | [], xs => xs = []
 | d :: ds, xs => ∃ x r, xs = x :: r /\ Rep K H d x /\ Reps K H ds r
end
mutual
def eqD : Dv -> Dv -> Bool
 | .non, .non => true
 | .bl a, .bl b => a == b
 | .bl a, .int b => (if a then 1 else 0) == b
 | .int a, .bl b => a == (if b then 1 else 0)
 | .int a, .int b => a == b
 | .str a, .str b => a == b
 | .tup ds, .tup es => eqDs ds es
 | .lst ds, .lst es => eqDs ds es
 | _, _ => false
def eqDs : List Dv -> List Dv -> Bool
 | [], [] => true
 | d :: ds, e :: es => eqD d e && eqDs ds es
 | _, _ => false
end
mutual
def depD : Dv -> Nat
 | .tup ds => depDs ds + 1
 | .lst ds => depDs ds + 1
 | _ => 0
def depDs : List Dv -> Nat
 | [] => 0
 | d :: ds => max (depD d) (depDs ds)
end
theorem eqD_tup (ds es : List Dv) : eqD (.tup ds) (.tup es) = eqDs ds es := by rw [eqD]
theorem eqD_lst (ds es : List Dv) : eqD (.lst ds) (.lst es) = eqDs ds es := by rw [eqD]
theorem Reps.length {K : PySem.W.Frag} {H : Hp} : ∀ {ds : List Dv} {xs : List V}, Reps K H ds xs -> ds.length = xs.length
 | [], xs, h => by unfold Reps at h; subst h; rfl
 | d :: ds, xs, h => by
  unfold Reps at h
  obtain ⟨x, r, rfl, _, h⟩ := h
  rw [List.length_cons, List.length_cons, Reps.length h]
theorem Reps.get {K : PySem.W.Frag} {H : Hp} : ∀ {ds : List Dv} {xs : List V} {i : Nat} {d : Dv}, Reps K H ds xs -> ds[i]? = some d -> ∃ x, xs[i]? = some x /\ Rep K H d x
 | [], _, _, _, _, e => by simp at e
 | d :: ds, xs, 0, _, h, e => by
  unfold Reps at h
  obtain ⟨x, r, rfl, h1, _⟩ := h
  simp at e; subst e
  exact ⟨x, rfl, h1⟩
 | d :: ds, xs, i + 1, _, h, e => by
  unfold Reps at h
  obtain ⟨x, r, rfl, _, h⟩ := h
  obtain ⟨y, h1, h2⟩ := Reps.get (i := i) h (by simpa using e)
  exact ⟨y, by simpa using h1, h2⟩
theorem depD_le {ds : List Dv} {i : Nat} {d : Dv} (h : ds[i]? = some d) : depD d <= depDs ds := by
 induction ds generalizing i with
 | nil => simp at h
 | cons e es ih =>
  unfold depDs
  cases i with
  | zero => simp at h; subst h; omega
  | succ i => have := ih (i := i) (by simpa using h); omega
theorem eqDs_all : ∀ (ds es : List Dv), ds.length = es.length -> eqDs ds es = (List.range ds.length).all fun i => match ds[i]?, es[i]? with | some d, some e => eqD d e | _, _ => false
 | [], [], _ => by unfold eqDs; rfl
 | d :: ds, e :: es, h => by
  unfold eqDs
  rw [List.length_cons, List.range_succ_eq_map, List.all_cons, List.all_map, eqDs_all ds es (by simpa using h)]
  congr 1
 | [], e :: es, h => by simp at h
 | d :: ds, [], h => by simp at h
theorem eqDs_len : ∀ (ds es : List Dv), ds.length ≠ es.length -> eqDs ds es = false
 | [], [], h => absurd rfl h
 | [], _ :: _, _ => by unfold eqDs; rfl
 | _ :: _, [], _ => by unfold eqDs; rfl
 | d :: ds, e :: es, h => by unfold eqDs; rw [eqDs_len ds es (fun z => h (by simp [z])), Bool.and_false]
mutual
theorem eqD_refl : ∀ d : Dv, eqD d d = true
 | .non => by unfold eqD; rfl
 | .bl b => by unfold eqD; simp
 | .int i => by unfold eqD; simp
 | .str x => by unfold eqD; simp
 | .tup ds => by unfold eqD; exact eqDs_refl ds
 | .lst ds => by unfold eqD; exact eqDs_refl ds
theorem eqDs_refl : ∀ ds : List Dv, eqDs ds ds = true
 | [] => by unfold eqDs; rfl
 | d :: ds => by unfold eqDs; rw [eqD_refl d, eqDs_refl ds]; rfl
end
section
variable {X : Cx} {pins : List (Addr × Obj)} {σ : St} {H : Hp} {s : Shared}
theorem no_both {a : Addr} {xs ys : List V} (I : Inv X pins σ H s) (h : SqL X.K H a xs) (h' : SqT X.K H a ys) : False := by
 obtain ⟨its, _, ⟨o, n, e, c, _⟩, _⟩ := I.list h
 obtain ⟨its', _, ⟨o', e', c', _⟩, _⟩ := I.tuple h'
 rw [e] at e'; cases e'
 rw [c] at c'
 exact absurd c' (by decide)
mutual
theorem rep_inj (I : Inv X pins σ H s) : ∀ (d e : Dv) (x : V), Rep X.K H d x -> Rep X.K H e x -> d = e
 | .non, e, x, h, h' => by
  unfold Rep at h; subst h
  cases e <;> unfold Rep at h' <;> first | rfl | (obtain ⟨a, xs, q, _⟩ := h'; cases q; done) | (cases h'; done)
 | .bl b, e, x, h, h' => by
  unfold Rep at h; subst h
  cases e <;> unfold Rep at h' <;> first | (obtain ⟨a, xs, q, _⟩ := h'; cases q; done) | (cases h'; rfl) | (cases h'; done)
 | .int b, e, x, h, h' => by
  unfold Rep at h; subst h
  cases e <;> unfold Rep at h' <;> first | (obtain ⟨a, xs, q, _⟩ := h'; cases q; done) | (cases h'; rfl) | (cases h'; done)
 | .str b, e, x, h, h' => by
  unfold Rep at h; subst h
  cases e <;> unfold Rep at h' <;> first | (obtain ⟨a, xs, q, _⟩ := h'; cases q; done) | (cases h'; rfl) | (cases h'; done)
 | .tup ds, e, x, h, h' => by
  unfold Rep at h
  obtain ⟨a, xs, rfl, hs, hr⟩ := h
  cases e with
  | tup es =>
   unfold Rep at h'
   obtain ⟨b, ys, q, hs', hr'⟩ := h'
   cases q
   rw [I.tuple_inj hs' hs] at hr'
   rw [reps_inj I ds es xs hr hr']
  | lst es =>
   unfold Rep at h'
   obtain ⟨b, ys, q, hs', hr'⟩ := h'
   cases q
   exact (no_both I hs' hs).elim
  | _ => unfold Rep at h'; cases h'
 | .lst ds, e, x, h, h' => by
  unfold Rep at h
  obtain ⟨a, xs, rfl, hs, hr⟩ := h
  cases e with
  | lst es =>
   unfold Rep at h'
   obtain ⟨b, ys, q, hs', hr'⟩ := h'
   cases q
   rw [I.list_inj hs' hs] at hr'
   rw [reps_inj I ds es xs hr hr']
  | tup es =>
   unfold Rep at h'
   obtain ⟨b, ys, q, hs', hr'⟩ := h'
   cases q
   exact (no_both I hs hs').elim
  | _ => unfold Rep at h'; cases h'
theorem reps_inj (I : Inv X pins σ H s) : ∀ (ds es : List Dv) (xs : List V), Reps X.K H ds xs -> Reps X.K H es xs -> ds = es
 | [], es, xs, h, h' => by
  unfold Reps at h; subst h
  cases es with
  | nil => rfl
  | cons e es => unfold Reps at h'; obtain ⟨x, r, q, _⟩ := h'; cases q
 | d :: ds, es, xs, h, h' => by
  unfold Reps at h
  obtain ⟨x, r, rfl, h1, h2⟩ := h
  cases es with
  | nil => unfold Reps at h'; cases h'
  | cons e es =>
   unfold Reps at h'
   obtain ⟨y, r', q, h3, h4⟩ := h'
   cases q
   rw [rep_inj I d e _ h1 h3, reps_inj I ds es _ h2 h4]
end
abbrev Eq3 (A : Around) (s : Shared) (u v : Value) (b : Bool) : Prop := SeqAt.EqAt A s u v b /\ SeqAt.RcAt A s u v b /\ SeqAt.RcNeAt A s u v (!b)
theorem eq3_tup {A : Around} {a b : Addr} {xs ys : List V} {ds es : List Dv} (I : Inv X pins σ H s) (hu : A.units < cLine) (ha : SqT X.K H a xs) (hb : SqT X.K H b ys) (hd : Reps X.K H ds xs) (he : Reps X.K H es ys)
 (ih : ∀ (i : Nat) (d e : Dv) (x y : V) (u v : Value), ds[i]? = some d -> es[i]? = some e -> xs[i]? = some x -> ys[i]? = some y -> RelV x u -> RelV y v -> SeqAt.EqAt A.in1 s u v (eqD d e)) : Eq3 A s (.ref a) (.ref b) (eqD (.tup ds) (.tup es)) := by
 obtain ⟨its, r1, p1, _⟩ := I.tuple ha
 obtain ⟨its2, r2, p2, _⟩ := I.tuple hb
 have l1 := hd.length; have l2 := he.length; have l3 := r1.length; have l4 := r2.length
 have hitem : ∀ j (h1 : j < its.toArray.size) (h2 : j < its2.toArray.size), SeqAt.EqAt A.in1 s its.toArray[j] its2.toArray[j] (match ds[j]?, es[j]? with | some d, some e => eqD d e | _, _ => false) := fun j h1 h2 => by
  rw [List.size_toArray] at h1 h2
  have e1 : ds[j]? = some ds[j] := List.getElem?_eq_getElem (by omega)
  have e2 : es[j]? = some es[j] := List.getElem?_eq_getElem (by omega)
  have e3 : xs[j]? = some xs[j] := List.getElem?_eq_getElem (by omega)
  have e4 : ys[j]? = some ys[j] := List.getElem?_eq_getElem (by omega)
  obtain ⟨u, q1, q2⟩ := r1.get e3
  obtain ⟨v, q3, q4⟩ := r2.get e4
  rw [e1, e2]
  have z1 : its.toArray[j] = u := by rw [List.getElem_toArray]; rw [List.getElem?_eq_getElem h1] at q1; exact Option.some.inj q1
  have z2 : its2.toArray[j] = v := by rw [List.getElem_toArray]; rw [List.getElem?_eq_getElem h2] at q3; exact Option.some.inj q3
  rw [z1, z2]
  exact ih j _ _ _ _ _ _ e1 e2 e3 e4 q2 q4
 have val : ((List.range (min its.toArray.size its2.toArray.size)).all (fun j => match ds[j]?, es[j]? with | some d, some e => eqD d e | _, _ => false) && its.toArray.size == its2.toArray.size) = eqD (.tup ds) (.tup es) := by
  rw [List.size_toArray, List.size_toArray, <- l3, <- l4, <- l1, <- l2, eqD_tup]
  by_cases h : ds.length = es.length
  ·rw [h, Nat.min_self, <- h, eqDs_all ds es h]
   simp
  ·rw [eqDs_len ds es h]
   have : (ds.length == es.length) = false := by simpa using h
   rw [this, Bool.and_false]
 have R := SeqAt.RcAt.tuples (A := A) p1 p2 hu hitem
 have N := SeqAt.RcNeAt.tuples (A := A) p1 p2 hu hitem
 rw [val] at R N
 refine ⟨?_, R, N⟩
 by_cases hab : a = b
 ·subst hab
  have e : ds = es := by
   have := rep_inj I (.tup ds) (.tup es) (.ref a) (by unfold Rep; exact ⟨a, xs, rfl, ha, hd⟩) (by unfold Rep; exact ⟨a, ys, rfl, hb, he⟩)
   cases this; rfl
  subst e
  rw [eqD_refl]
  exact SeqAt.EqAt.same _
 ·exact .of_refs hab R
theorem eq3_lst {A : Around} {a b : Addr} {xs ys : List V} {ds es : List Dv} (I : Inv X pins σ H s) (hu : A.units < cLine) (ha : SqL X.K H a xs) (hb : SqL X.K H b ys) (hd : Reps X.K H ds xs) (he : Reps X.K H es ys)
 (ih : ∀ (i : Nat) (d e : Dv) (x y : V) (u v : Value), ds[i]? = some d -> es[i]? = some e -> xs[i]? = some x -> ys[i]? = some y -> RelV x u -> RelV y v -> SeqAt.EqAt A.in1 s u v (eqD d e)) : Eq3 A s (.ref a) (.ref b) (eqD (.lst ds) (.lst es)) := by
 obtain ⟨its, r1, p1, _⟩ := I.list ha
 obtain ⟨its2, r2, p2, _⟩ := I.list hb
 have l1 := hd.length; have l2 := he.length; have l3 := r1.length; have l4 := r2.length
 have hitem : ∀ j (h1 : j < its.toArray.size) (h2 : j < its2.toArray.size), SeqAt.EqAt A.in1 s its.toArray[j] its2.toArray[j] (match ds[j]?, es[j]? with | some d, some e => eqD d e | _, _ => false) := fun j h1 h2 => by
  rw [List.size_toArray] at h1 h2
  have e1 : ds[j]? = some ds[j] := List.getElem?_eq_getElem (by omega)
  have e2 : es[j]? = some es[j] := List.getElem?_eq_getElem (by omega)
  have e3 : xs[j]? = some xs[j] := List.getElem?_eq_getElem (by omega)
  have e4 : ys[j]? = some ys[j] := List.getElem?_eq_getElem (by omega)
  obtain ⟨u, q1, q2⟩ := r1.get e3
  obtain ⟨v, q3, q4⟩ := r2.get e4
  rw [e1, e2]
  have z1 : its.toArray[j] = u := by rw [List.getElem_toArray]; rw [List.getElem?_eq_getElem h1] at q1; exact Option.some.inj q1
  have z2 : its2.toArray[j] = v := by rw [List.getElem_toArray]; rw [List.getElem?_eq_getElem h2] at q3; exact Option.some.inj q3
  rw [z1, z2]
  exact ih j _ _ _ _ _ _ e1 e2 e3 e4 q2 q4
 have RN : SeqAt.RcAt A s (.ref a) (.ref b) (eqD (.lst ds) (.lst es)) /\ SeqAt.RcNeAt A s (.ref a) (.ref b) (!eqD (.lst ds) (.lst es)) := by
  by_cases h : ds.length = es.length
  ·have hsz : its.toArray.size = its2.toArray.size := by rw [List.size_toArray, List.size_toArray]; omega
   have val : (List.range its.toArray.size).all (fun j => match ds[j]?, es[j]? with | some d, some e => eqD d e | _, _ => false) = eqD (.lst ds) (.lst es) := by
    rw [eqD_lst, List.size_toArray, <- l3, <- l1, eqDs_all ds es h]
   have R := SeqAt.RcAt.lists (A := A) p1.isList p2.isList hsz hu hitem
   have N := SeqAt.RcNeAt.lists (A := A) p1.isList p2.isList hsz hu hitem
   rw [val] at R N
   exact ⟨R, N⟩
  ·have hsz : (its.toArray.size != its2.toArray.size) = true := by rw [List.size_toArray, List.size_toArray]; simp; omega
   have val : eqD (.lst ds) (.lst es) = false := by rw [eqD_lst]; exact eqDs_len ds es h
   rw [val]
   exact ⟨SeqAt.RcAt.lists_lengths p1.isList p2.isList hsz hu, SeqAt.RcNeAt.lists_lengths p1.isList p2.isList hsz hu⟩
 refine ⟨?_, RN.1, RN.2⟩
 by_cases hab : a = b
 ·subst hab
  have e : ds = es := by
   have := rep_inj I (.lst ds) (.lst es) (.ref a) (by unfold Rep; exact ⟨a, xs, rfl, ha, hd⟩) (by unfold Rep; exact ⟨a, ys, rfl, hb, he⟩)
   cases this; rfl
  subst e
  rw [eqD_refl]
  exact SeqAt.EqAt.same _
 ·exact .of_refs hab RN.1
theorem eq_all (I : Inv X pins σ H s) : ∀ (n : Nat) (A : Around) (d e : Dv) (x y : V) (u v : Value), depD d <= n -> A.units + n < cLine -> Rep X.K H d x -> Rep X.K H e y -> RelV x u -> RelV y v -> Eq3 A s u v (eqD d e) := by
 intro n
 induction n with
 | zero =>
  intro A d e x y u v hd hu hx hy ru rv
  have hu' : A.units < cLine := by omega
  cases d with
  | tup ds => unfold depD at hd; omega
  | lst ds => unfold depD at hd; omega
  | non =>
   unfold Rep at hx; subst hx; cases ru
   cases e <;> unfold Rep at hy
   case non => subst hy; cases rv; exact ⟨SeqAt.EqAt.same _, SeqAt.RcAt.none_none, SeqAt.RcNeAt.none_none⟩
   case bl => subst hy; cases rv; exact ⟨.none_bool _, .none_bool _, .none_bool _⟩
   case int => subst hy; obtain ⟨t, rfl⟩ := rv; exact ⟨.none_int _ _, .none_int _ _, .none_int _ _⟩
   case str => subst hy; obtain ⟨t, rfl⟩ := rv; exact ⟨.none_str _ _, .none_str _ _, .none_str _ _⟩
   case tup => obtain ⟨a, xs, rfl, ha, _⟩ := hy; cases rv; obtain ⟨its, _, p, _⟩ := I.tuple ha; exact ⟨.none_tuple p hu', .none_tuple p hu', .none_tuple p hu'⟩
   case lst => obtain ⟨a, xs, rfl, ha, _⟩ := hy; cases rv; obtain ⟨its, _, p, _⟩ := I.list ha; exact ⟨.none_list p.isList hu', .none_list p.isList hu', .none_list p.isList hu'⟩
  | bl c =>
   unfold Rep at hx; subst hx; cases ru
   cases e <;> unfold Rep at hy
   case non => subst hy; cases rv; exact ⟨.bool_none _, .bool_none _, .bool_none _⟩
   case bl => subst hy; cases rv; unfold eqD; exact ⟨.bool_bool _ _, .bool_bool _ _, .bool_bool _ _⟩
   case int => subst hy; obtain ⟨t, rfl⟩ := rv; unfold eqD; exact ⟨.bool_int _ _ _, .bool_int _ _ _, .bool_int _ _ _⟩
   case str => subst hy; obtain ⟨t, rfl⟩ := rv; exact ⟨.bool_str _ _ _, .bool_str _ _ _, .bool_str _ _ _⟩
   case tup => obtain ⟨a, xs, rfl, ha, _⟩ := hy; cases rv; obtain ⟨its, _, p, _⟩ := I.tuple ha; exact ⟨.bool_tuple _ p hu', .bool_tuple _ p hu', .bool_tuple _ p hu'⟩
   case lst => obtain ⟨a, xs, rfl, ha, _⟩ := hy; cases rv; obtain ⟨its, _, p, _⟩ := I.list ha; exact ⟨.bool_list _ p.isList hu', .bool_list _ p.isList hu', .bool_list _ p.isList hu'⟩
  | int c =>
   unfold Rep at hx; subst hx; obtain ⟨t0, rfl⟩ := ru
   cases e <;> unfold Rep at hy
   case non => subst hy; cases rv; exact ⟨.int_none _ _, .int_none _ _, .int_none _ _⟩
   case bl => subst hy; cases rv; unfold eqD; exact ⟨.int_bool _ _ _, .int_bool _ _ _, .int_bool _ _ _⟩
   case int => subst hy; obtain ⟨t, rfl⟩ := rv; unfold eqD; exact ⟨.int_int _ _ _ _, .int_int _ _ _ _, .int_int _ _ _ _⟩
   case str => subst hy; obtain ⟨t, rfl⟩ := rv; exact ⟨.int_str _ _ _ _, .int_str _ _ _ _, .int_str _ _ _ _⟩
   case tup => obtain ⟨a, xs, rfl, ha, _⟩ := hy; cases rv; obtain ⟨its, _, p, _⟩ := I.tuple ha; exact ⟨.int_tuple _ _ p hu', .int_tuple _ _ p hu', .int_tuple _ _ p hu'⟩
   case lst => obtain ⟨a, xs, rfl, ha, _⟩ := hy; cases rv; obtain ⟨its, _, p, _⟩ := I.list ha; exact ⟨.int_list _ _ p.isList hu', .int_list _ _ p.isList hu', .int_list _ _ p.isList hu'⟩
  | str c =>
   unfold Rep at hx; subst hx; obtain ⟨t0, rfl⟩ := ru
   cases e <;> unfold Rep at hy
   case non => subst hy; cases rv; exact ⟨.str_none _ _, .str_none _ _, .str_none _ _⟩
   case bl => subst hy; cases rv; exact ⟨.str_bool _ _ _, .str_bool _ _ _, .str_bool _ _ _⟩
   case int => subst hy; obtain ⟨t, rfl⟩ := rv; exact ⟨.str_int _ _ _ _, .str_int _ _ _ _, .str_int _ _ _ _⟩
   case str => subst hy; obtain ⟨t, rfl⟩ := rv; unfold eqD; exact ⟨.str_str _ _ _ _, .str_str _ _ _ _, .str_str _ _ _ _⟩
   case tup => obtain ⟨a, xs, rfl, ha, _⟩ := hy; cases rv; obtain ⟨its, _, p, _⟩ := I.tuple ha; exact ⟨.str_tuple _ _ p hu', .str_tuple _ _ p hu', .str_tuple _ _ p hu'⟩
   case lst => obtain ⟨a, xs, rfl, ha, _⟩ := hy; cases rv; obtain ⟨its, _, p, _⟩ := I.list ha; exact ⟨.str_list _ _ p.isList hu', .str_list _ _ p.isList hu', .str_list _ _ p.isList hu'⟩
 | succ n ih =>
  intro A d e x y u v hd hu hx hy ru rv
  have hu' : A.units < cLine := by omega
  have hin : A.in1.units + n < cLine := by show A.units + 1 + n < cLine; omega
  cases d with
  | tup ds =>
   unfold depD at hd
   unfold Rep at hx
   obtain ⟨a, xs, rfl, ha, hr⟩ := hx
   cases ru
   cases e <;> unfold Rep at hy
   case tup es =>
    obtain ⟨b, ys, rfl, hb, hr'⟩ := hy
    cases rv
    refine eq3_tup I hu' ha hb hr hr' fun i d e x y u v e1 e2 e3 e4 ru rv => ?_
    obtain ⟨x', q1, q2⟩ := hr.get e1
    obtain ⟨y', q3, q4⟩ := hr'.get e2
    rw [e3] at q1; cases q1
    rw [e4] at q3; cases q3
    exact (ih A.in1 d e x y u v (by have := depD_le e1; omega) hin q2 q4 ru rv).1
   case non => subst hy; cases rv; obtain ⟨its, _, p, _⟩ := I.tuple ha; exact ⟨.tuple_none p hu', .tuple_none p hu', .tuple_none p hu'⟩
   case bl => subst hy; cases rv; obtain ⟨its, _, p, _⟩ := I.tuple ha; exact ⟨.tuple_bool _ p hu', .tuple_bool _ p hu', .tuple_bool _ p hu'⟩
   case int => subst hy; obtain ⟨t, rfl⟩ := rv; obtain ⟨its, _, p, _⟩ := I.tuple ha; exact ⟨.tuple_int _ _ p hu', .tuple_int _ _ p hu', .tuple_int _ _ p hu'⟩
   case str => subst hy; obtain ⟨t, rfl⟩ := rv; obtain ⟨its, _, p, _⟩ := I.tuple ha; exact ⟨.tuple_str _ _ p hu', .tuple_str _ _ p hu', .tuple_str _ _ p hu'⟩
   case lst => obtain ⟨b, ys, rfl, hb, _⟩ := hy; cases rv; obtain ⟨its, _, p, _⟩ := I.tuple ha; obtain ⟨its2, _, p2, _⟩ := I.list hb; exact ⟨.tuple_list p p2.isList hu', .tuple_list p p2.isList hu', .tuple_list p p2.isList hu'⟩
  | lst ds =>
   unfold depD at hd
   unfold Rep at hx
   obtain ⟨a, xs, rfl, ha, hr⟩ := hx
   cases ru
   cases e <;> unfold Rep at hy
   case lst es =>
    obtain ⟨b, ys, rfl, hb, hr'⟩ := hy
    cases rv
    refine eq3_lst I hu' ha hb hr hr' fun i d e x y u v e1 e2 e3 e4 ru rv => ?_
    obtain ⟨x', q1, q2⟩ := hr.get e1
    obtain ⟨y', q3, q4⟩ := hr'.get e2
    rw [e3] at q1; cases q1
    rw [e4] at q3; cases q3
    exact (ih A.in1 d e x y u v (by have := depD_le e1; omega) hin q2 q4 ru rv).1
   case non => subst hy; cases rv; obtain ⟨its, _, p, _⟩ := I.list ha; exact ⟨.list_none p.isList hu', .list_none p.isList hu', .list_none p.isList hu'⟩
   case bl => subst hy; cases rv; obtain ⟨its, _, p, _⟩ := I.list ha; exact ⟨.list_bool _ p.isList hu', .list_bool _ p.isList hu', .list_bool _ p.isList hu'⟩
   case int => subst hy; obtain ⟨t, rfl⟩ := rv; obtain ⟨its, _, p, _⟩ := I.list ha; exact ⟨.list_int _ _ p.isList hu', .list_int _ _ p.isList hu', .list_int _ _ p.isList hu'⟩
   case str => subst hy; obtain ⟨t, rfl⟩ := rv; obtain ⟨its, _, p, _⟩ := I.list ha; exact ⟨.list_str _ _ p.isList hu', .list_str _ _ p.isList hu', .list_str _ _ p.isList hu'⟩
   case tup => obtain ⟨b, ys, rfl, hb, _⟩ := hy; cases rv; obtain ⟨its, _, p, _⟩ := I.list ha; obtain ⟨its2, _, p2, _⟩ := I.tuple hb; exact ⟨.list_tuple p.isList p2 hu', .list_tuple p.isList p2 hu', .list_tuple p.isList p2 hu'⟩
  | non => exact ih A .non e x y u v (by unfold depD; omega) (by omega) hx hy ru rv
  | bl c => exact ih A (.bl c) e x y u v (by unfold depD; omega) (by omega) hx hy ru rv
  | int c => exact ih A (.int c) e x y u v (by unfold depD; omega) (by omega) hx hy ru rv
  | str c => exact ih A (.str c) e x y u v (by unfold depD; omega) (by omega) hx hy ru rv
end
section
variable {X : Cx}
def mEq (neg : Bool) (K : PySem.W.Frag) : R2 := fun x y H Q => match x, y with
 | .non, .non => Q (.bl (neg ^^ true)) H
 | .bl a, .bl b => Q (.bl (neg ^^ (a == b))) H
 | .int a, .int b => Q (.bl (neg ^^ (a == b))) H
 | .str a, .str b => Q (.bl (neg ^^ (a == b))) H
 | x, y => ∃ d e, Rep K H d x /\ Rep K H e y /\ depD d <= 60 /\ Q (.bl (neg ^^ eqD d e)) H
theorem om_eqAll (hu : X.A.units + 60 < cLine) : OpR X (compareOp .Eq) (fun x y H Q => ∃ d e, Rep X.K H d x /\ Rep X.K H e y /\ depD d <= 60 /\ Q (.bl (eqD d e)) H) := by
 intro pins s σ H x y v u Q I rx ry h
 obtain ⟨d, e, h1, h2, h3, q⟩ := h
 exact (eq_all I 60 X.A d e x y v u h3 hu h1 h2 rx ry).2.1 X.prog X.w _ _ ⟨.bl _, H, I, rfl, q⟩
theorem om_neAll (hu : X.A.units + 60 < cLine) : OpR X (compareOp .NotEq) (fun x y H Q => ∃ d e, Rep X.K H d x /\ Rep X.K H e y /\ depD d <= 60 /\ Q (.bl (!eqD d e)) H) := by
 intro pins s σ H x y v u Q I rx ry h
 obtain ⟨d, e, h1, h2, h3, q⟩ := h
 exact (eq_all I 60 X.A d e x y v u h3 hu h1 h2 rx ry).2.2 X.prog X.w _ _ ⟨.bl _, H, I, rfl, q⟩
theorem mEq_imp {neg : Bool} {K : PySem.W.Frag} {x y : V} {H : Hp} {Q : VK} (h : mEq neg K x y H Q) : ∃ d e, Rep K H d x /\ Rep K H e y /\ depD d <= 60 /\ Q (.bl (neg ^^ eqD d e)) H := by
 unfold mEq at h
 split at h
 ·exact ⟨.non, .non, by unfold Rep; rfl, by unfold Rep; rfl, by unfold depD; omega, by unfold eqD; exact h⟩
 ·rename_i a b; exact ⟨.bl a, .bl b, by unfold Rep; rfl, by unfold Rep; rfl, by unfold depD; omega, by unfold eqD; exact h⟩
 ·rename_i a b; exact ⟨.int a, .int b, by unfold Rep; rfl, by unfold Rep; rfl, by unfold depD; omega, by unfold eqD; exact h⟩
 ·rename_i a b; exact ⟨.str a, .str b, by unfold Rep; rfl, by unfold Rep; rfl, by unfold depD; omega, by unfold eqD; exact h⟩
 ·exact h
theorem om_eq (hu : X.A.units + 60 < cLine) : OpR X (compareOp .Eq) (mEq false X.K) := (om_eqAll hu).imp fun x y H Q h => by
 obtain ⟨d, e, h1, h2, h3, q⟩ := mEq_imp h
 exact ⟨d, e, h1, h2, h3, by rw [Bool.false_xor] at q; exact q⟩
theorem om_ne (hu : X.A.units + 60 < cLine) : OpR X (compareOp .NotEq) (mEq true X.K) := (om_neAll hu).imp fun x y H Q h => by
 obtain ⟨d, e, h1, h2, h3, q⟩ := mEq_imp h
 exact ⟨d, e, h1, h2, h3, by rw [Bool.true_xor] at q; exact q⟩
end
section
variable {X : Cx} {a b c e : Expr} {es : List Expr} {ta tb tc te : TE} {tA tB' : TT} {t : TA} {pos p : Pos} {x : Str}
def isB (v : V) (Q : Bool -> Prop) : Prop := match v with
 | .bl c => Q c
 | _ => False
theorem isB_of {v : V} {Q : Bool -> Prop} (h : isB v Q) : ∃ c, v = .bl c /\ Q c := by
 cases v <;> first | exact False.elim h | exact ⟨_, rfl, h⟩
def EMono (t : TE) : Prop := ∀ σ H (Q Q' : VK), (∀ v H, Q v H -> Q' v H) -> t σ H Q -> t σ H Q'
def uB (t : TE) : TT := fun σ H Q => t σ H fun x H1 => isB x fun c => Q c H1
theorem tu_cmp {op : CmpOp} {r : R2} (ho : OpR X (compareOp op) r) (ha : PE X a ta) (hb : PE X b tb) (hm : behindInMarks op b = false := by first | exact nobehind _ (by decide) (by decide) | rfl) : PT X (.Compare a [op] [b] pos) (uB (tOp r ta tb)) := by
 intro pins s σ H Q I h
 refine wpAny_isTrue_Compare1 (thn (ha pins s σ H _ I h) fun v s1 ⟨x, H1, I1, r1, q1⟩ => thn (hb pins s1 σ H1 _ I1 q1) fun u s2 ⟨y, H2, I2, r2, q2⟩ =>
  thn (ho pins s2 σ H2 x y v u _ I2 r1 r2 q2) fun c s3 ⟨z, H3, I3, r3, q⟩ => ?_) hm
 obtain ⟨k, e, q3⟩ := isB_of q
 subst e
 cases r3
 exact wpAny_truthy_bool ⟨H3, I3, q3⟩
theorem pe_cmpM {op : CmpOp} {r : R2} (ho : OpR X (compareOp op) r) (ha : PE X a ta) (hb : PE X b tb) (hm : behindInMarks op b = false := by first | exact nobehind _ (by decide) (by decide) | rfl) : PE X (.Compare a [op] [b] pos) (tOp r ta tb) := pe_cmpR ho ha hb hm
theorem tu_val (h : PE X e te) (he : ∀ whole, isTrue e X.env whole = (do let v <- whole; standAt e.pos; holding [v] (truthy v)) := by intro _; rfl) : PT X e (uB te) := by
 intro pins s σ H Q I hq
 refine isTrue_plain (thn (h pins s σ H _ I hq) fun v s1 ⟨x, H1, I1, r1, q1⟩ => ?_) (he _)
 obtain ⟨k, e, q⟩ := isB_of q1
 subst e
 cases r1
 exact wpAny_truthy_bool ⟨H1, I1, q⟩
def vChain (r r' : R2) (ta tb tc : TE) : TE := fun σ H Q => ta σ H fun x H1 => tb σ H1 fun y H2 => r x y H2 fun z H3 => isB z fun k =>
 (if k = true then tc σ H3 fun w' H4 => r' y w' H4 Q else Q (.bl false) H3)
theorem pe_chainM {op op' : CmpOp} {r r' : R2} (ho : OpR X (compareOp op) r) (ho' : OpR X (compareOp op') r') (ha : PE X a ta) (hb : PE X b tb) (hc : PE X c tc)
 (hm : lastMarks [op, op'] [b, c] = false := by with_unfolding_all rfl) : PE X (.Compare a [op, op'] [b, c] pos) (vChain r r' ta tb tc) := by
 intro pins s σ H Q I h
 refine Compare_chain (thn (ha pins s σ H _ I h) fun v s1 ⟨x, H1, I1, r1, q1⟩ => chain_link (thn (hb pins s1 σ H1 _ I1 q1) fun u s2 ⟨y, H2, I2, r2, q2⟩ =>
  thn (ho pins s2 σ H2 x y v u _ I2 r1 r2 q2) fun d s3 ⟨z, H3, I3, r3, q⟩ => ?_)) hm
 obtain ⟨k, e, q3⟩ := isB_of q
 subst e
 cases r3
 refine wpAny_truthy_bool ?_
 cases k with
 | false => exact ite_ff ⟨.bl false, H3, I3, rfl, q3⟩
 | true => exact ite_tt (chain_last (thn (hc pins s3 σ H3 _ I3 q3) fun w' s4 ⟨z', H4, I4, r4, q4⟩ => ho' pins s4 σ H4 y z' u w' Q I4 r2 r4 q4))
def vAnd (ta tb : TE) : TE := fun σ H Q => ta σ H fun x H1 => isB x fun c => if c = true then tb σ H1 Q else Q (.bl false) H1
def vOr (ta tb : TE) : TE := fun σ H Q => ta σ H fun x H1 => isB x fun c => if c = true then Q (.bl true) H1 else tb σ H1 Q
def vNot (ta : TE) : TE := fun σ H Q => ta σ H fun x H1 => isB x fun c => Q (.bl (!c)) H1
theorem pe_andM (ha : PE X a ta) (hb : PE X (.BoolOp .And (b :: es) pos) tb) : PE X (.BoolOp .And (a :: b :: es) pos) (vAnd ta tb) := by
 have ha' : PE X a (fun σ H Q => ta σ H fun x H1 => isB x fun c => Q (.bl c) H1) := fun pins s σ H Q I h => thn (ha pins s σ H _ I h) fun v s1 ⟨x, H1, I1, r1, q1⟩ => by
  obtain ⟨c, e, q⟩ := isB_of q1
  subst e
  exact ⟨.bl c, H1, I1, r1, q⟩
 have h := pe_and (pos := pos) ha' hb
 exact h.imp fun σ H Q q => by
  show ta σ H fun x H1 => isB x fun c => ∃ c', V.bl c = .bl c' /\ if c' = true then tb σ H1 Q else Q (.bl false) H1
  have e : (fun (x : V) (H1 : Hp) => isB x fun c => ∃ c', V.bl c = .bl c' /\ if c' = true then tb σ H1 Q else Q (.bl false) H1) = fun x H1 => isB x fun c => if c = true then tb σ H1 Q else Q (.bl false) H1 := by
   funext x H1
   cases x <;> first | rfl | (apply propext; constructor; (rintro ⟨c', e, h⟩; cases e; exact h); (intro h; exact ⟨_, rfl, h⟩))
  rw [e]
  exact q
theorem pe_orM (ha : PE X a ta) (hb : PE X (.BoolOp .Or (b :: es) pos) tb) : PE X (.BoolOp .Or (a :: b :: es) pos) (vOr ta tb) := by
 have ha' : PE X a (fun σ H Q => ta σ H fun x H1 => isB x fun c => Q (.bl c) H1) := fun pins s σ H Q I h => thn (ha pins s σ H _ I h) fun v s1 ⟨x, H1, I1, r1, q1⟩ => by
  obtain ⟨c, e, q⟩ := isB_of q1
  subst e
  exact ⟨.bl c, H1, I1, r1, q⟩
 have h := pe_or (pos := pos) ha' hb
 exact h.imp fun σ H Q q => by
  show ta σ H fun x H1 => isB x fun c => ∃ c', V.bl c = .bl c' /\ if c' = true then Q (.bl true) H1 else tb σ H1 Q
  have e : (fun (x : V) (H1 : Hp) => isB x fun c => ∃ c', V.bl c = .bl c' /\ if c' = true then Q (.bl true) H1 else tb σ H1 Q) = fun x H1 => isB x fun c => if c = true then Q (.bl true) H1 else tb σ H1 Q := by
   funext x H1
   cases x <;> first | rfl | (apply propext; constructor; (rintro ⟨c', e, h⟩; cases e; exact h); (intro h; exact ⟨_, rfl, h⟩))
  rw [e]
  exact q
theorem pe_notM (ha : PE X a ta) : PE X (.UnaryOp .Not a pos) (vNot ta) := by
 have ha' : PE X a (fun σ H Q => ta σ H fun x H1 => isB x fun c => Q (.bl c) H1) := fun pins s σ H Q I h => thn (ha pins s σ H _ I h) fun v s1 ⟨x, H1, I1, r1, q1⟩ => by
  obtain ⟨c, e, q⟩ := isB_of q1
  subst e
  exact ⟨.bl c, H1, I1, r1, q⟩
 have h := pe_not (pos := pos) ha'
 exact h.imp fun σ H Q q => by
  show ta σ H fun x H1 => isB x fun c => ∃ c', V.bl c = .bl c' /\ Q (.bl (!c')) H1
  have e : (fun (x : V) (H1 : Hp) => isB x fun c => ∃ c', V.bl c = .bl c' /\ Q (.bl (!c')) H1) = fun x H1 => isB x fun c => Q (.bl (!c)) H1 := by
   funext x H1
   cases x <;> first | rfl | (apply propext; constructor; (rintro ⟨c', e, h⟩; cases e; exact h); (intro h; exact ⟨_, rfl, h⟩))
  rw [e]
  exact q
def SqA (K : PySem.W.Frag) (H : Hp) (p : Addr) (xs : List V) : Prop := SqL K H p xs \/ SqT K H p xs
def mIx (K : PySem.W.Frag) : R2 := fun x y H Q => match x, y with
 | .ref p, .int i => ∃ xs v, SqA K H p xs /\ atI xs i = some v /\ Q v H
 | .str z, .int i => ∃ c, z.length <= sizeLine /\ atI z.cps.toList i = some c /\ Q (.str ⟨#[c]⟩) H
 | _, _ => False
theorem IxR.imp {r r' : R2} (h : IxR X r) (g : ∀ x y H Q, r' x y H Q -> r x y H Q) : IxR X r' := fun a b pins s σ H x y v u Q I rx ry q z => h a b pins s σ H x y v u Q I rx ry (g _ _ _ _ q) z
theorem xm_ix : IxR X (mIx X.K) := ix_seq.imp fun x y H Q q => by
 cases x <;> cases y <;> first
  | exact False.elim q
  | (obtain ⟨xs, v, h | h, e, q⟩ := q
     ·exact .inl ⟨_, xs, _, v, rfl, rfl, h, e, q⟩
     ·exact .inr (.inl ⟨_, xs, _, v, rfl, rfl, h, e, q⟩))
  | (obtain ⟨c, hz, e, q⟩ := q
     exact .inr (.inr ⟨_, _, c, rfl, rfl, hz, e, q⟩))
theorem pe_ixM (ha : PE X a ta) (hb : PE X b tb) (hs : PlainIx b := by intro _ _; rfl) : PE X (.Subscript a b pos) (tOp (mIx X.K) ta tb) := pe_ix xm_ix ha hb hs
def mLen (K : PySem.W.Frag) : List V -> Hp -> VK -> Prop := fun xs H Q => match xs with
 | [x] => ∃ n, LenV K x H n /\ Q (.int n) H
 | _ => False
theorem cm_len : CallR X (.builtin "len") (mLen X.K) := call_len.imp fun xs H Q q => by
 match xs, q with
 | [x], ⟨n, h, q⟩ => exact ⟨x, n, rfl, h, q⟩
def mMax : List V -> Hp -> VK -> Prop := fun xs H Q => match xs with
 | [.int i, .int j] => Q (.int (max i j)) H
 | _ => False
theorem cm_max (hc : X.calm = true) : CallR X (.builtin "max") mMax := (call_max2 hc).imp fun xs H Q q => by
 match xs, q with
 | [.int i, .int j], q =>
  refine ⟨i, j, rfl, ?_⟩
  have e : (if j > i then j else i) = max i j := by split <;> omega
  rw [e]
  exact q
def mMin : List V -> Hp -> VK -> Prop := fun xs H Q => match xs with
 | [.int i, .int j] => Q (.int (min i j)) H
 | _ => False
theorem cm_min (hc : X.calm = true) : CallR X (.builtin "min") mMin := (call_min2 hc).imp fun xs H Q q => by
 match xs, q with
 | [.int i, .int j], q =>
  refine ⟨i, j, rfl, ?_⟩
  have e : (if j < i then j else i) = min i j := by split <;> omega
  rw [e]
  exact q
def mInt : List V -> Hp -> VK -> Prop := fun xs H Q => match xs with
 | [.int i] => Q (.int i) H
 | [.bl k] => Q (.int (if k then 1 else 0)) H
 | _ => False
theorem cm_int : CallR X (.type "int") mInt := call_int1.imp fun xs H Q q => by
 match xs, q with
 | [.int i], q => exact .inl ⟨i, rfl, q⟩
 | [.bl k], q => exact .inr ⟨k, rfl, q⟩
def mTuple (K : PySem.W.Frag) : List V -> Hp -> VK -> Prop := fun xs H Q => match xs with
 | [.ref p] => ∃ ys, (SqL K H p ys /\ ∀ l, H l = none -> Q (.ref l) (upd H l (.tup ys))) \/ (SqT K H p ys /\ Q (.ref p) H)
 | _ => False
theorem cm_tuple : CallR X (.type "tuple") (mTuple X.K) := call_tuple_of.imp fun xs H Q q => by
 match xs, q with
 | [.ref p], ⟨ys, q⟩ => exact ⟨p, ys, rfl, q⟩
def mList (K : PySem.W.Frag) : List V -> Hp -> VK -> Prop := fun xs H Q => match xs with
 | [.ref p] => ∃ ys, SqA K H p ys /\ ∀ l, H l = none -> Q (.ref l) (upd H l (.lst ys))
 | _ => False
theorem cm_list : CallR X (.type "list") (mList X.K) := call_list_of.imp fun xs H Q q => by
 match xs, q with
 | [.ref p], ⟨ys, h, q⟩ => exact ⟨p, ys, rfl, h, q⟩
def isiT (K : PySem.W.Frag) (T : String) (x : V) (H : Hp) (b : Bool) : Prop := match x with
 | .non => b = (T == "NoneType")
 | .bl _ => b = (T == "bool" || T == "int")
 | .int _ => b = (T == "int")
 | .str _ => b = (T == "str")
 | .ref a => (∃ xs, (H a = some (.lst xs) \/ ∃ o, H a = some (.frz o (.lst xs))) /\ b = (T == "list")) \/ (∃ xs, H a = some (.tup xs) /\ b = (T == "tuple")) \/ ((∃ kvs, H a = some (.dK kvs)) /\ b = (T == "dict")) \/ ((∃ kvs, H a = some (.dT kvs)) /\ b = (T == "dict"))
 | _ => False
def kinds : List String := ["int", "bool", "str", "tuple", "list", "dict"]
theorem kit_all (K : PySem.W.Frag) : ∀ T ∈ kinds, PySem.W.kitOne K (.type "NoneType") (.type T) = some (T == "NoneType") /\ PySem.W.kitOne K (.type "bool") (.type T) = some (T == "bool" || T == "int") /\
 PySem.W.kitOne K (.type "int") (.type T) = some (T == "int") /\ PySem.W.kitOne K (.type "str") (.type T) = some (T == "str") /\ PySem.W.kitOne K (.type "list") (.type T) = some (T == "list") /\
 PySem.W.kitOne K (.type "tuple") (.type T) = some (T == "tuple") /\ PySem.W.kitOne K (.type "dict") (.type T) = some (T == "dict") := by
 intro T h
 unfold kinds at h
 rcases List.mem_cons.mp h with rfl | h
 ·exact ⟨rfl, rfl, rfl, rfl, rfl, rfl, rfl⟩
 rcases List.mem_cons.mp h with rfl | h
 ·exact ⟨rfl, rfl, rfl, rfl, rfl, rfl, rfl⟩
 rcases List.mem_cons.mp h with rfl | h
 ·exact ⟨rfl, rfl, rfl, rfl, rfl, rfl, rfl⟩
 rcases List.mem_cons.mp h with rfl | h
 ·exact ⟨rfl, rfl, rfl, rfl, rfl, rfl, rfl⟩
 rcases List.mem_cons.mp h with rfl | h
 ·exact ⟨rfl, rfl, rfl, rfl, rfl, rfl, rfl⟩
 rcases List.mem_cons.mp h with rfl | h
 ·exact ⟨rfl, rfl, rfl, rfl, rfl, rfl, rfl⟩
 ·exact absurd h (by simp)
theorem isiT_ty {K : PySem.W.Frag} {T : String} {v : V} {H : Hp} {k : Bool} (hT : T ∈ kinds) (h : isiT K T v H k) : ∃ ty, TyOf K H v ty /\ PySem.W.kitOne K ty (.type T) = some k := by
 obtain ⟨k1, k2, k3, k4, k5, k6, k7⟩ := kit_all K T hT
 cases v with
 | non => cases (show k = _ from h); exact ⟨_, .non, k1⟩
 | bl _ => cases (show k = _ from h); exact ⟨_, .bl _, k2⟩
 | int _ => cases (show k = _ from h); exact ⟨_, .int _, k3⟩
 | str _ => cases (show k = _ from h); exact ⟨_, .str _, k4⟩
 | ref q =>
  rcases h with ⟨xs, h | ⟨o, h⟩, e⟩ | ⟨xs, h, e⟩ | ⟨⟨kvs, h⟩, e⟩ | ⟨⟨kvs, h⟩, e⟩
  ·subst e; exact ⟨_, .lst h, k5⟩
  ·subst e; exact ⟨_, .frz h, k5⟩
  ·subst e; exact ⟨_, .tup h, k6⟩
  ·subst e; exact ⟨_, .dK h, k7⟩
  ·subst e; exact ⟨_, .dT h, k7⟩
 | _ => exact False.elim h
def mIsi (K : PySem.W.Frag) : List V -> Hp -> VK -> Prop := fun xs H Q => match xs with
 | [x, .ty T] => T ∈ kinds /\ ∃ k, isiT K T x H k /\ Q (.bl k) H
 | _ => False
theorem cm_isi : CallR X (.builtin "isinstance") (mIsi X.K) := by
 intro pins s σ H xs us Q I r q
 match xs, q with
 | [x, .ty T], q =>
  obtain ⟨hT, k, h, q⟩ := q
  obtain ⟨u, w', rfl, ru, rw'⟩ := vals2 r
  cases rw'
  obtain ⟨ty, h1, h2⟩ := isiT_ty hT h
  exact isinst_ok I ru h1 h2 fun tk => ⟨.bl k, H, I.tok _, rfl, q⟩
end
def compOkB (scope sc : Scope) : Bool :=
 decide (scope.kind = .function) && decide (scope.names.map (·.1)).Nodup && scope.names.all fun y => !(y.2 == .free) || (sc.names.lookup y.1 == some .cell || sc.names.lookup y.1 == some .free)
theorem CompScope.of {scope sc : Scope} (h : compOkB scope sc = true) : CompScope scope sc := by
 unfold compOkB at h
 rw [Bool.and_eq_true, Bool.and_eq_true] at h
 obtain ⟨⟨h1, h2⟩, h3⟩ := h
 refine ⟨of_decide_eq_true h1, of_decide_eq_true h2, fun y hy hf => ?_⟩
 have := List.all_eq_true.mp h3 y hy
 rw [hf] at this
 rcases (Bool.or_eq_true _ _).mp this with z | z
 ·exact absurd z (by decide)
 ·rcases (Bool.or_eq_true _ _).mp z with z | z
  ·exact .inl (by simpa using z)
  ·exact .inr (by simpa using z)
section
variable {X : Cx} {tg iter elt : Expr} {ifs : List Expr} {scope : Scope} {pos : Pos} {N' : List Str} {own : Nat} {ix : List Nat} {g : TG} {tc : TT} {te : TE} {wi : TI}
theorem frB {l : List Str} (h : (l.all fun x => scope.names.lookup x == some .free) = true) : ∀ x ∈ l, scope.names.lookup x = some .free := fun x hx => by
 have := List.all_eq_true.mp h x hx
 simpa using this
theorem pe_compB (hc : X.calm = true) (hi : PI X tg iter wi) (S : compOkB scope X.env.scope = true)
 (hlen : N'.length = own + ix.length) (hN : (N'.drop own).map some = ix.map (X.N[·]?)) (hfr : ((N'.drop own).all fun x => scope.names.lookup x == some .free) = true)
 (hg : ∀ c, PG (X.comp scope N' c) tg g) (hgo : GOwn own g) (ht : ∀ c, PTs (X.comp scope N' c) ifs tc) (he : ∀ c, PE (X.comp scope N' c) elt te)
 (hs : ∀ x, foldedSetIterable iter X.env x = pure x := by intro _; rfl) : PE X (.ListComp elt [⟨tg, iter, ifs, 0⟩] scope pos) (tComp wi own ix g tc te) :=
 pe_comp hc hi (.of S) hlen hN (frB hfr) hg hgo ht he hs
theorem ps_compB {i : Nat} {y : Str} {py spos : Pos} (hc : X.calm = true) (hnd : X.N.Nodup) (hiy : X.N[i]? = some y) (hy : X.env.scope.names.lookup y = some .local) (hi : PI X tg iter wi) (S : compOkB scope X.env.scope = true)
 (hlen : N'.length = own + ix.length) (hN : (N'.drop own).map some = ix.map (X.N[·]?)) (hfr : ((N'.drop own).all fun x => scope.names.lookup x == some .free) = true)
 (hg : ∀ c, PG (X.comp scope N' c) tg g) (hgo : GOwn own g) (ht : ∀ c, PTs (X.comp scope N' c) ifs tc) (he : ∀ c, PE (X.comp scope N' c) elt te)
 (hsw : swapsWith (.ListComp elt [⟨tg, iter, ifs, 0⟩] scope pos) (some (.Name y py)) spos.line X.env = pure true)
 (hs : ∀ x, foldedSetIterable iter X.env x = pure x := by intro _; rfl) : PS X (.Assign [.Name y py] (.ListComp elt [⟨tg, iter, ifs, 0⟩] scope pos) spos) (tAsg (tComp wi own ix g tc te) (gName i)) :=
 ps_comp hc hnd hiy hy hi (.of S) hlen hN (frB hfr) hg hgo ht he hsw hs
def iSeq (K : PySem.W.Frag) (tl : TE) : TI := fun σ H R => tl σ H fun x H1 => match x with
 | .ref a => ((∃ xs, SqL K H1 a xs) /\ R (Itl K a) H1) \/ ((∃ xs, SqT K H1 a xs) /\ R (Itt K a) H1)
 | _ => False
theorem pi_seq {l : Expr} {tl : TE} (hl : PE X l tl) : PI X tg l (iSeq X.K tl) := by
 intro pins s σ H R I h
 refine thn (hl pins s σ H _ I h) fun v s1 ⟨x, H1, I1, r1, q1⟩ => ?_
 cases x with
 | ref a =>
  cases r1
  rcases q1 with ⟨⟨xs, hq⟩, q⟩ | ⟨⟨xs, hq⟩, q⟩
  ·obtain ⟨its, rv, p, hz⟩ := I1.list hq
   refine wpAny_pyIter_list p.isList ?_
   refine ⟨s1.heap.objs.size, [s1.heap.objs.size], _, _, H1, rfl, I1.kept (t' := s1.toks) fun b o e => Heap.get?_push_of_some _ e, turn_list a _, ⟨_, Heap.get?_push_size _ rfl, rfl, rfl⟩, fun b hb => ?_, q⟩
   have e : b = s1.heap.objs.size := by simpa using hb
   subst e
   exact I1.fpOk (Nat.le_refl _) (I1.hok.fresh (Nat.le_refl _))
  ·obtain ⟨its, rv, p, hz⟩ := I1.tuple hq
   refine wpAny_pyIter_tuple (show s1.heap.IsTuple a its.toArray from p) ?_
   refine ⟨s1.heap.objs.size, [s1.heap.objs.size], _, _, H1, rfl, I1.kept (t' := s1.toks) fun b o e => Heap.get?_push_of_some _ e, turn_tuple a _, ⟨_, Heap.get?_push_size _ rfl, rfl, rfl⟩, fun b hb => ?_, q⟩
   have e : b = s1.heap.objs.size := by simpa using hb
   subst e
   exact I1.fpOk (Nat.le_refl _) (I1.hok.fresh (Nat.le_refl _))
 | _ => exact False.elim q1
def mSet : TSet := fun o i v H Q => match o, i with
 | .ref p, .int k => ∃ xs j, H p = some (.lst xs) /\ ixN xs.length k = some j /\ Q (upd H p (.lst (xs.set j v)))
 | _, _ => False
theorem set_any : PSet X mSet := by
 intro pins s σ H o i v ov iv u Q I ro ri rv h
 cases o <;> cases i <;> first
  | exact False.elim h
  | (obtain ⟨xs, j, h1, h2, q⟩ := h
     exact set_list pins s σ H _ _ v ov iv u Q I ro ri rv ⟨_, xs, _, j, rfl, rfl, h1, h2, q⟩)
theorem comp_list {K : PySem.W.Frag} {a : Addr} {xs : List V} {σc : St} {Q : VK} {H : Hp} (Pv : Nat -> List V -> Hp -> Prop) (h0 : Pv 0 [] H) (hl : ∀ i ys H, i <= xs.length -> Pv i ys H -> SqL K H a xs) (hz : ∀ i ys H, i < xs.length -> Pv i ys H -> ys.length < sizeLine)
 (hs : ∀ i x ys H, xs[i]? = some x -> Pv i ys H -> g x σc H fun σ2 H2 => tc σ2 H2 fun b H3 => if b = true then te σ2 H3 fun y H4 => Pv (i + 1) (ys ++ [y]) H4 else Pv (i + 1) ys H3)
 (hd : ∀ ys H, Pv xs.length ys H -> ∀ p, H p = none -> Q (.ref p) (upd H p (.lst ys))) : CompTurns (Itl K a) g tc te σc Q H := by
 refine ⟨fun i m ys H => m = xs.length - i /\ i <= xs.length /\ Pv i ys H, ⟨xs.length, by simp, Nat.zero_le _, h0⟩, ?_⟩
 rintro i m ys H ⟨rfl, hi, p⟩
 have q := hl i ys H hi p
 by_cases hlt : i < xs.length
 ·refine .inr ⟨⟨xs, xs[i], q, by simp [hlt]⟩, hz i ys H hlt p, Pv (i + 1), fun ys' H' p' => ⟨xs.length - (i + 1), by omega, rfl, hlt, p'⟩, fun x H' y => ?_⟩
  obtain ⟨e, y⟩ := y
  subst e
  exact hs i x ys _ (y xs q) p
 ·have e : i = xs.length := by omega
  subst e
  exact .inl ⟨⟨xs, q, Nat.le_refl _⟩, hd ys H p⟩
theorem comp_tup {K : PySem.W.Frag} {a : Addr} {xs : List V} {σc : St} {Q : VK} {H : Hp} (Pv : Nat -> List V -> Hp -> Prop) (h0 : Pv 0 [] H) (hl : ∀ i ys H, i <= xs.length -> Pv i ys H -> SqT K H a xs) (hz : ∀ i ys H, i < xs.length -> Pv i ys H -> ys.length < sizeLine)
 (hs : ∀ i x ys H, xs[i]? = some x -> Pv i ys H -> g x σc H fun σ2 H2 => tc σ2 H2 fun b H3 => if b = true then te σ2 H3 fun y H4 => Pv (i + 1) (ys ++ [y]) H4 else Pv (i + 1) ys H3)
 (hd : ∀ ys H, Pv xs.length ys H -> ∀ p, H p = none -> Q (.ref p) (upd H p (.lst ys))) : CompTurns (Itt K a) g tc te σc Q H := by
 refine ⟨fun i m ys H => m = xs.length - i /\ i <= xs.length /\ Pv i ys H, ⟨xs.length, by simp, Nat.zero_le _, h0⟩, ?_⟩
 rintro i m ys H ⟨rfl, hi, p⟩
 have q := hl i ys H hi p
 by_cases hlt : i < xs.length
 ·refine .inr ⟨⟨xs, xs[i], q, by simp [hlt]⟩, hz i ys H hlt p, Pv (i + 1), fun ys' H' p' => ⟨xs.length - (i + 1), by omega, rfl, hlt, p'⟩, fun x H' y => ?_⟩
  obtain ⟨e, y⟩ := y
  subst e
  exact hs i x ys _ (y xs q) p
 ·have e : i = xs.length := by omega
  subst e
  exact .inl ⟨⟨xs, q, Nat.le_refl _⟩, hd ys H p⟩
theorem comp_range {lo : Int} {n : Nat} {σc : St} {Q : VK} {H : Hp} (Pv : Nat -> List V -> Hp -> Prop) (h0 : Pv 0 [] H) (hz : ∀ i ys H, i < n -> Pv i ys H -> ys.length < sizeLine)
 (hs : ∀ i ys H, i < n -> Pv i ys H -> g (.int (lo + i)) σc H fun σ2 H2 => tc σ2 H2 fun b H3 => if b = true then te σ2 H3 fun y H4 => Pv (i + 1) (ys ++ [y]) H4 else Pv (i + 1) ys H3)
 (hd : ∀ ys H, Pv n ys H -> ∀ p, H p = none -> Q (.ref p) (upd H p (.lst ys))) : CompTurns (Itr lo n) g tc te σc Q H := by
 refine ⟨fun i m ys H => m = n - i /\ i <= n /\ Pv i ys H, ⟨n, by simp, Nat.zero_le _, h0⟩, ?_⟩
 rintro i m ys H ⟨rfl, hi, p⟩
 by_cases hlt : i < n
 ·refine .inr ⟨hlt, hz i ys H hlt p, Pv (i + 1), fun ys' H' p' => ⟨n - (i + 1), by omega, rfl, hlt, p'⟩, fun x H' y => ?_⟩
  obtain ⟨e, y⟩ := y
  subst e y
  exact hs i ys _ hlt p
 ·have e : i = n := by omega
  subst e
  exact .inl ⟨Nat.le_refl _, hd ys H p⟩
def vWhile (c : TT) (tb : TS) : TS := fun D σ H => ∃ W : Nat -> St -> Hp -> Prop, (∃ m, W m σ H) /\ ∀ m σ H, W m σ H ->
 c σ H fun b H1 => if b = true then tb { D with nx := fun σ' H' => ∃ m', m' < m /\ W m' σ' H', ct := fun σ' H' => ∃ m', m' < m /\ W m' σ' H', bk := D.nx } σ H1 else D.nx σ H1
theorem ps_whileM {c : Expr} {body : List Stmt} {tc : TT} {tb : TS} (hp : PassesOwn (model X.prog X.w) X.A X.env X.xe) (hc : PT X c tc) (hb : PSs X body tb) : PS X (.While c body [] pos) (vWhile tc tb) := by
 intro pins s σ H D I h
 obtain ⟨W, ⟨m0, w0⟩, turn⟩ := h
 refine wpAny_While (codeAny_whileLoop (fun n s' => ∃ σ' H', Inv X pins σ' H' s' /\ W n σ' H') ?_ m0 ⟨σ, H, I, w0⟩)
 rintro n s1 ⟨σ1, H1, I1, w1⟩
 refine wpAny_passesOwn hp (thn (hc pins s1 σ1 H1 _ I1 (turn n σ1 H1 w1)) fun b s2 ⟨H2, I2, q2⟩ => ?_)
 cases b with
 | true =>
  rw [if_pos rfl] at q2
  rw [if_pos rfl]
  refine wpAny_passesOwn hp (thn (hb pins s2 σ1 H2 _ I2 q2) fun f s3 q3 => ?_)
  cases f with
  | next =>
   obtain ⟨σ3, H3, I3, m', hm, w3⟩ := q3
   exact ⟨m', hm, σ3, H3, I3, w3⟩
  | cont =>
   obtain ⟨σ3, H3, I3, m', hm, w3⟩ := q3
   exact ⟨m', hm, σ3, H3, I3, w3⟩
  | brk => exact q3
  | ret v => exact q3
 | false =>
  rw [if_neg Bool.false_ne_true] at q2
  rw [if_neg Bool.false_ne_true]
  exact wpAny_execs_nil ⟨σ1, H2, I2, q2⟩
end
theorem hu60 {A : Around} {k : Nat} (hr : Room k A) : A.units + 60 < cLine := by have := hr.un; omega
def Frm (t : Addr) (H H' : Hp) : Prop := ∀ b o, b ≠ t -> H b = some o -> H' b = some o
theorem Frm.refl {t : Addr} {H : Hp} : Frm t H H := fun _ _ _ h => h
theorem Frm.trans {t : Addr} {H H1 H2 : Hp} (a : Frm t H H1) (b : Frm t H1 H2) : Frm t H H2 := fun c o n h => b c o n (a c o n h)
theorem Frm.upd {t p : Addr} {H : Hp} {o : HO} (h : H p = none) : Frm t H (upd H p o) := fun b u _ e => by rw [upd_ne (ne_of_none e h)]; exact e
theorem Frm.updT {t : Addr} {H : Hp} {o : HO} : Frm t H (L2.upd H t o) := fun b u n e => by rw [upd_ne n]; exact e
theorem Same.upd {p : Addr} {H : Hp} {o : HO} (h : H p = none) : Same H (L2.upd H p o) := fun b u e => by rw [upd_ne (ne_of_none e h)]; exact e
theorem Same.frm {t : Addr} {H H' : Hp} (h : Same H H') : Frm t H H' := fun b o _ e => h b o e
theorem sqL_stay {K : PySem.W.Frag} {H H' : Hp} {a : Addr} {xs : List V} (h : SqL K H a xs) (k : ∀ o, H a = some o -> H' a = some o) : SqL K H' a xs := by
 rcases h with (h | ⟨o, h⟩) | h
 ·exact .inl (.inl (k _ h))
 ·exact .inl (.inr ⟨o, k _ h⟩)
 ·exact .inr h
theorem sqT_stay {K : PySem.W.Frag} {H H' : Hp} {a : Addr} {xs : List V} (h : SqT K H a xs) (k : ∀ o, H a = some o -> H' a = some o) : SqT K H' a xs := by
 rcases h with (h | ⟨o, h⟩) | h
 ·exact .inl (.inl (k _ h))
 ·exact .inl (.inr ⟨o, k _ h⟩)
 ·exact .inr h
def ScrAt (K : PySem.W.Frag) (H : Hp) (t a : Addr) (ns : List Int) : Prop :=
 (Rd H a (.lst (ns.map V.int)) /\ a ≠ t) \/ ∃ (o : Obj) (its : Array Value) (n : Nat), K.lookup a = some o /\ o.cls = .type "list" /\ o.dict = none /\ o.data = .seq its n /\ its.size <= sizeLine /\ Vals (ns.map V.int) its.toList
structure Tape (K : PySem.W.Frag) (H : Hp) (t a : Addr) (ns : List Int) : Prop where
 at_ : ∃ i r c : Int, 0 <= i /\ 0 <= r /\ H t = some (.lst [.ref a, .int i, .int r, .int c])
 scr : ScrAt K H t a ns
theorem atI_of {xs : List V} {i : Int} {n : Nat} {v : V} (h : i = (n : Int)) (hx : xs[n]? = some v) : atI xs i = some v := by
 subst h
 have hn : n < xs.length := (List.getElem?_eq_some_iff.mp hx).1
 unfold atI ixN
 rw [if_pos (Int.natCast_nonneg n), if_pos (by omega)]
 simpa using hx
theorem atI_int {ns : List Int} {i : Int} (h0 : 0 <= i) (h1 : i < ns.length) : ∃ z, atI (ns.map V.int) i = some (.int z) := by
 obtain ⟨n, rfl⟩ := Int.eq_ofNat_of_zero_le h0
 have hn : n < ns.length := by omega
 exact ⟨ns[n], atI_of rfl (by rw [List.getElem?_map, List.getElem?_eq_getElem hn]; rfl)⟩
theorem okDiv_of {j : Int} (h1 : 0 < j) (h2 : j <= 2 ^ 1000) : okDiv j := ⟨h1, Int.lt_of_le_of_lt h2 (by decide)⟩
theorem small_le {n : Nat} (h : n <= 1000) : n <= sizeLine := Nat.le_of_lt (small1000 h)
def TMono (t : TT) : Prop := ∀ σ H (Q Q' : Bool -> Hp -> Prop), (∀ b H, Q b H -> Q' b H) -> t σ H Q -> t σ H Q'
def AMono (t : TA) : Prop := ∀ σ H (Q Q' : List V -> Hp -> Prop), (∀ b H, Q b H -> Q' b H) -> t σ H Q -> t σ H Q'
def RMono (r : R2) : Prop := ∀ x y H (Q Q' : VK), (∀ v H, Q v H -> Q' v H) -> r x y H Q -> r x y H Q'
def UMono (r : V -> Hp -> VK -> Prop) : Prop := ∀ x H (Q Q' : VK), (∀ v H, Q v H -> Q' v H) -> r x H Q -> r x H Q'
def CMono (r : List V -> Hp -> VK -> Prop) : Prop := ∀ xs H (Q Q' : VK), (∀ v H, Q v H -> Q' v H) -> r xs H Q -> r xs H Q'
def BMono (r : V -> List V -> Hp -> VK -> Prop) : Prop := ∀ x xs H (Q Q' : VK), (∀ v H, Q v H -> Q' v H) -> r x xs H Q -> r x xs H Q'
def SpMono (sp : Sp) : Prop := ∀ vs H (Q Q' : VK) E, (∀ v H, Q v H -> Q' v H) -> sp vs H Q E -> sp vs H Q' E
def IMono (t : TI) : Prop := ∀ σ H (Q Q' : It -> Hp -> Prop), (∀ J H, Q J H -> Q' J H) -> t σ H Q -> t σ H Q'
def SetMono (t : TSet) : Prop := ∀ o i v H (Q Q' : Hp -> Prop), (∀ H, Q H -> Q' H) -> t o i v H Q -> t o i v H Q'
structure Ends.le (D D' : Ends) : Prop where
 nx : ∀ σ H, D.nx σ H -> D'.nx σ H
 rt : ∀ v H, D.rt v H -> D'.rt v H
 bk : ∀ σ H, D.bk σ H -> D'.bk σ H
 ct : ∀ σ H, D.ct σ H -> D'.ct σ H
def SMono (t : TS) : Prop := ∀ D D' σ H, Ends.le D D' -> t D σ H -> t D' σ H
theorem em_var {i : Nat} : EMono (vVar i) := fun σ H Q Q' h q => by
 unfold vVar at *
 split at q
 ·exact h _ _ q
 ·exact q.elim
theorem em_c {v : V} : EMono (tC v) := fun _ _ _ _ h q => h _ _ q
theorem em_op {r : R2} {ta tb : TE} (hr : RMono r) (ha : EMono ta) (hb : EMono tb) : EMono (tOp r ta tb) := fun σ H Q Q' h q => ha _ _ _ _ (fun _ _ q => hb _ _ _ _ (fun _ _ q => hr _ _ _ _ _ h q) q) q
theorem em_un {r : V -> Hp -> VK -> Prop} {ta : TE} (hr : UMono r) (ha : EMono ta) : EMono (tUn r ta) := fun σ H Q Q' h q => ha _ _ _ _ (fun _ _ q => hr _ _ _ _ h q) q
theorem rm_add {K} : RMono (mAdd K) := fun x y H Q Q' h q => by
 unfold mAdd at *
 split at q
 ·exact h _ _ q
 ·exact ⟨q.1, h _ _ q.2⟩
 ·rcases q with ⟨l, b, xs, zs, e1, e2, h1, h2, h3, q⟩ | ⟨a, b, xs, ys, e1, e2, h1, h2, h3, h4, q1, q2⟩
  ·exact .inl ⟨l, b, xs, zs, e1, e2, h1, h2, h3, fun p hp => h _ _ (q p hp)⟩
  ·exact .inr ⟨a, b, xs, ys, e1, e2, h1, h2, h3, h4, fun e => h _ _ (q1 e), fun e p hp => h _ _ (q2 e p hp)⟩
 ·exact q.elim
theorem rm_sub : RMono mSub := fun x y H Q Q' h q => by unfold mSub at *; split at q <;> first | exact h _ _ q | exact q.elim
theorem rm_mul : RMono mMul := fun x y H Q Q' h q => by
 unfold mMul at *
 split at q
 ·exact ⟨q.1, h _ _ q.2⟩
 ·obtain ⟨l, k, xs, e1, e2, h1, h2, h3, h4, q⟩ := q
  exact ⟨l, k, xs, e1, e2, h1, h2, h3, h4, fun p hp => h _ _ (q p hp)⟩
 ·exact q.elim
theorem rm_div : RMono mDiv := fun x y H Q Q' h q => by unfold mDiv at *; split at q <;> first | exact ⟨q.1, h _ _ q.2⟩ | exact q.elim
theorem rm_mod : RMono mMod := fun x y H Q Q' h q => by unfold mMod at *; split at q <;> first | exact ⟨q.1, h _ _ q.2⟩ | exact q.elim
theorem rm_pow : RMono mPow := fun x y H Q Q' h q => by unfold mPow at *; split at q <;> first | exact ⟨q.1, h _ _ q.2⟩ | exact q.elim
theorem rm_shl : RMono mShl := fun x y H Q Q' h q => by unfold mShl at *; split at q <;> first | exact ⟨q.1, h _ _ q.2⟩ | exact q.elim
theorem um_neg_ : UMono mNeg := fun x H Q Q' h q => by unfold mNeg at *; split at q <;> first | exact h _ _ q | exact q.elim
theorem rm_cmp {p} : RMono (mCmp p) := fun x y H Q Q' h q => by unfold mCmp at *; split at q <;> first | exact h _ _ q | exact q.elim
theorem rm_eq {n K} : RMono (mEq n K) := fun x y H Q Q' h q => by
 unfold mEq at *
 split at q <;> first | exact h _ _ q | (obtain ⟨d, e, h1, h2, h3, q⟩ := q; exact ⟨d, e, h1, h2, h3, h _ _ q⟩)
theorem rm_ix {K} : RMono (mIx K) := fun x y H Q Q' h q => by
 unfold mIx at *
 split at q
 ·obtain ⟨xs, v, h1, h2, q⟩ := q; exact ⟨xs, v, h1, h2, h _ _ q⟩
 ·obtain ⟨c, h1, h2, q⟩ := q; exact ⟨c, h1, h2, h _ _ q⟩
 ·exact q.elim
theorem isB_mono {v : V} {Q Q' : Bool -> Prop} (h : ∀ b, Q b -> Q' b) (q : isB v Q) : isB v Q' := by
 cases v <;> first | exact h _ q | exact q
theorem tm_b {t : TE} (h : EMono t) : TMono (uB t) := fun σ H Q Q' k q => h _ _ _ _ (fun _ _ q => isB_mono (fun b q => k b _ q) q) q
theorem em_and {ta tb : TE} (ha : EMono ta) (hb : EMono tb) : EMono (vAnd ta tb) := fun σ H Q Q' h q => ha _ _ _ _ (fun _ _ q => isB_mono (fun b q => by
 split
 ·rename_i e; rw [if_pos e] at q; exact hb _ _ _ _ h q
 ·rename_i e; rw [if_neg e] at q; exact h _ _ q) q) q
theorem em_not {ta : TE} (ha : EMono ta) : EMono (vNot ta) := fun σ H Q Q' h q => ha _ _ _ _ (fun _ _ q => isB_mono (fun b q => h _ _ q) q) q
theorem em_if {t : TT} {ta tb : TE} (ht : TMono t) (ha : EMono ta) (hb : EMono tb) : EMono (tIf t ta tb) := fun σ H Q Q' h q => ht _ _ _ _ (fun b _ q => by
 cases b with
 | true => exact ha _ _ _ _ h q
 | false => exact hb _ _ _ _ h q) q
theorem tm_and {t u : TT} (ht : TMono t) (hu : TMono u) : TMono (tAnd t u) := fun σ H Q Q' h q => ht _ _ _ _ (fun b _ q => by
 cases b with
 | true => exact hu _ _ _ _ h q
 | false => exact h _ _ q) q
theorem tm_or {t u : TT} (ht : TMono t) (hu : TMono u) : TMono (tOr t u) := fun σ H Q Q' h q => ht _ _ _ _ (fun b _ q => by
 cases b with
 | true => exact h _ _ q
 | false => exact hu _ _ _ _ h q) q
theorem tm_not {t : TT} (ht : TMono t) : TMono (tNot t) := fun σ H Q Q' h q => ht _ _ _ _ (fun b _ q => h _ _ q) q
theorem am_nil : AMono tNil := fun _ _ _ _ h q => h _ _ q
theorem am_cons {ta : TE} {t : TA} (ha : EMono ta) (ht : AMono t) : AMono (tCons ta t) := fun σ H Q Q' h q => ha _ _ _ _ (fun _ _ q => ht _ _ _ _ (fun _ _ q => h _ _ q) q) q
theorem em_cb {r} {t : TA} (hr : CMono r) (ht : AMono t) : EMono (tCB r t) := fun σ H Q Q' h q => ht _ _ _ _ (fun _ _ q => hr _ _ _ _ h q) q
theorem em_call {sp dvs E} {t : TA} (hs : SpMono sp) (ht : AMono t) : EMono (tCall sp dvs E t) := fun σ H Q Q' h q => ht _ _ _ _ (fun _ _ q => hs _ _ _ _ _ h q) q
theorem em_tup {t : TA} (ht : AMono t) : EMono (tTup t) := fun σ H Q Q' h q => ht _ _ _ _ (fun _ _ q => ⟨q.1, fun p hp => h _ _ (q.2 p hp)⟩) q
theorem em_lst {t : TA} (ht : AMono t) : EMono (tLst t) := fun σ H Q Q' h q => ht _ _ _ _ (fun _ _ q => ⟨q.1, fun p hp => h _ _ (q.2 p hp)⟩) q
theorem em_comp {wi own ix g tc te} (hi : IMono wi) : EMono (tComp wi own ix g tc te) := fun σ H Q Q' h q => hi _ _ _ _ (fun J H1 q => by
 obtain ⟨W, w0, turn⟩ := q
 refine ⟨W, w0, fun i m ys H w => ?_⟩
 rcases turn i m ys H w with ⟨a, b⟩ | r
 ·exact .inl ⟨a, fun p hp => h _ _ (b p hp)⟩
 ·exact .inr r) q
theorem cm_len_ {K} : CMono (mLen K) := fun xs H Q Q' h q => by unfold mLen at *; split at q <;> first | (obtain ⟨n, a, q⟩ := q; exact ⟨n, a, h _ _ q⟩) | exact q.elim
theorem cm_max_ : CMono mMax := fun xs H Q Q' h q => by unfold mMax at *; split at q <;> first | exact h _ _ q | exact q.elim
theorem cm_min_ : CMono mMin := fun xs H Q Q' h q => by unfold mMin at *; split at q <;> first | exact h _ _ q | exact q.elim
theorem cm_int_ : CMono mInt := fun xs H Q Q' h q => by unfold mInt at *; split at q <;> first | exact h _ _ q | exact q.elim
theorem cm_tuple_ {K} : CMono (mTuple K) := fun xs H Q Q' h q => by
 unfold mTuple at *
 split at q
 ·obtain ⟨ys, ⟨a, q⟩ | ⟨a, q⟩⟩ := q
  ·exact ⟨ys, .inl ⟨a, fun l hl => h _ _ (q l hl)⟩⟩
  ·exact ⟨ys, .inr ⟨a, h _ _ q⟩⟩
 ·exact q.elim
theorem im_seq {K} {tl : TE} (h : EMono tl) : IMono (iSeq K tl) := fun σ H Q Q' k q => h _ _ _ _ (fun v H1 q => by
 cases v <;> first | exact q.elim | (rcases q with ⟨a, q⟩ | ⟨a, q⟩
                                     ·exact .inl ⟨a, k _ _ q⟩
                                     ·exact .inr ⟨a, k _ _ q⟩)) q
theorem im_rng1 {ta : TA} (h : AMono ta) : IMono (iRng1 ta) := fun σ H Q Q' k q => h _ _ _ _ (fun _ _ ⟨j, e, a, b, q⟩ => ⟨j, e, a, b, k _ _ q⟩) q
theorem im_rng2 {ta : TA} (h : AMono ta) : IMono (iRng2 ta) := fun σ H Q Q' k q => h _ _ _ _ (fun _ _ ⟨i, j, e, a, q⟩ => ⟨i, j, e, a, k _ _ q⟩) q
theorem sm_set : SetMono mSet := fun o i v H Q Q' h q => by
 unfold mSet at *
 split at q
 ·obtain ⟨xs, j, a, b, q⟩ := q; exact ⟨xs, j, a, b, h _ q⟩
 ·exact q.elim
theorem gm_sub {to ti : TE} {t : TSet} (h1 : EMono to) (h2 : EMono ti) (h3 : SetMono t) : GMono (gSub to ti t) := fun v σ H Q Q' h q => h1 _ _ _ _ (fun _ _ q => h2 _ _ _ _ (fun _ _ q => h3 _ _ _ _ _ _ (fun H q => h _ _ q) q) q) q
theorem sm_next : SMono tNext := fun D D' σ H h q => h.nx _ _ q
theorem sm_seq {t u : TS} (h1 : SMono t) (h2 : SMono u) : SMono (tSeq t u) := fun D D' σ H h q => h1 { D with nx := u D } { D' with nx := u D' } σ H ⟨fun σ H q => h2 D D' σ H h q, h.rt, h.bk, h.ct⟩ q
theorem sm_asg {te : TE} {g : TG} (h1 : EMono te) (h2 : GMono g) : SMono (tAsg te g) := fun D D' σ H h q => h1 _ _ _ _ (fun _ _ q => h2 _ _ _ _ _ h.nx q) q
theorem sm_ret {te : TE} (h1 : EMono te) : SMono (tRet te) := fun D D' σ H h q => h1 _ _ _ _ h.rt q
theorem sm_drop {te : TE} (h1 : EMono te) : SMono (tDrop te) := fun D D' σ H h q => h1 _ _ _ _ (fun _ _ q => h.nx _ _ q) q
theorem sm_if {c : TT} {t u : TS} (hc : TMono c) (h1 : SMono t) (h2 : SMono u) : SMono (tIfS c t u) := fun D D' σ H h q => hc _ _ _ _ (fun b _ q => by
 cases b with
 | true => exact h1 _ _ _ _ h q
 | false => exact h2 _ _ _ _ h q) q
theorem sm_while {c : TT} {tb : TS} (hc : TMono c) (h1 : SMono tb) : SMono (vWhile c tb) := fun D D' σ H h q => by
 obtain ⟨W, w0, turn⟩ := q
 refine ⟨W, w0, fun m σ H w => hc _ _ _ _ (fun b H1 q => ?_) (turn m σ H w)⟩
 cases b with
 | true => exact h1 { D with nx := fun σ' H' => ∃ m', m' < m /\ W m' σ' H', ct := fun σ' H' => ∃ m', m' < m /\ W m' σ' H', bk := D.nx } _ _ _ ⟨fun _ _ q => q, h.rt, h.nx, fun _ _ q => q⟩ q
 | false => exact h.nx _ _ q
theorem sm_for {wi : TI} {g : TG} {tb : TS} (hi : IMono wi) (hg : GMono g) (h1 : SMono tb) : SMono (tFor wi g tb) := fun D D' σ H h q => hi _ _ _ _ (fun J H1 q => by
 obtain ⟨W, w0, turn⟩ := q
 refine ⟨W, w0, fun i m σ H w => ?_⟩
 rcases turn i m σ H w with ⟨a, b⟩ | ⟨a, N, hN, step⟩
 ·exact .inl ⟨a, h.nx _ _ b⟩
 ·exact .inr ⟨a, N, hN, fun x H' y => hg _ _ _ _ _ (fun σ2 H2 q => h1 { D with nx := N, ct := N, bk := D.nx } _ _ _ ⟨fun _ _ q => q, h.rt, h.nx, fun _ _ q => q⟩ q) (step x H' y)⟩) q
theorem seq_at {t u : TS} {D : Ends} {σ : St} {H : Hp} (J : St -> Hp -> Prop) (h1 : t { D with nx := J } σ H) (h2 : ∀ σ' H', J σ' H' -> u D σ' H') (hm : SMono t) : tSeq t u D σ H :=
 hm { D with nx := J } { D with nx := u D } σ H ⟨h2, fun _ _ q => q, fun _ _ q => q, fun _ _ q => q⟩ h1
section
variable {X : Cx} {K : PySem.W.Frag} {a b c e l tg : Expr} {es : List Expr} {ta tb tc te tl : TE} {pos p : Pos}
theorem kAdd (hK : X.K = K := by rfl) : OpR X (binaryOp .Add) (mAdd K) := hK ▸ om_add
theorem kEq (hu : X.A.units + 60 < cLine) (hK : X.K = K := by rfl) : OpR X (compareOp .Eq) (mEq false K) := hK ▸ om_eq hu
theorem kNe (hu : X.A.units + 60 < cLine) (hK : X.K = K := by rfl) : OpR X (compareOp .NotEq) (mEq true K) := hK ▸ om_ne hu
theorem kIx (ha : PE X a ta) (hb : PE X b tb) (hs : PlainIx b := by intro _ _; rfl) (hK : X.K = K := by rfl) : PE X (.Subscript a b pos) (tOp (mIx K) ta tb) := hK ▸ pe_ixM ha hb hs
theorem kLen (hK : X.K = K := by rfl) : CallR X (.builtin "len") (mLen K) := hK ▸ cm_len
theorem kTuple (hK : X.K = K := by rfl) : CallR X (.type "tuple") (mTuple K) := hK ▸ cm_tuple
theorem kList (hK : X.K = K := by rfl) : CallR X (.type "list") (mList K) := hK ▸ cm_list
theorem kSeq (hl : PE X l tl) (hK : X.K = K := by rfl) : PI X tg l (iSeq K tl) := hK ▸ pi_seq hl
end
section
variable {X : Cx}
end
section
variable {X : Cx} {K : PySem.W.Frag} {o e : Expr} {es : List Expr} {to : TE} {t : TA} {apos cpos : Pos}
def mAppend : V -> List V -> Hp -> VK -> Prop := fun x vs H Q => match x, vs with
 | .ref l, [y] => ∃ xs, H l = some (.lst xs) /\ xs.length < sizeLine /\ Q .non (upd H l (.lst (xs ++ [y])))
 | _, _ => False
theorem mm_append : MtR X "list.append" mAppend := by
 intro pins s σ H x vs v us Q I rx rv q
 match x, vs, q with
 | .ref l, [y], ⟨xs, h1, h2, q⟩ => exact mt_append pins s σ H _ _ v us Q I rx rv ⟨l, xs, y, rfl, rfl, h1, h2, q⟩
theorem kAppend (ho : PE X o to) (ha : PA X [e] t) (hbase : attributeBase o "append" X.env (eval o X.env) = eval o X.env := by rfl)
 (hfew : ((backTo cpos (starEach [e] X.env)).all (fun x => !x.1) && (backToKw cpos (keywordEach [] X.env)).all (fun x => x.1.isSome)
   && decide ([e].length + ([] : List Keyword).length + (if ([] : List Keyword).isEmpty then 0 else 1) < 30)) = true := by rfl)
 (hline : (apos.endLine == cpos.line) = true := by rfl) (hs : starEach [e] X.env = (false, eval e X.env) :: starEach [] X.env := by rfl) (hplain : (backTo cpos (starEach [] X.env)).any (·.1) = false := by rfl) (hK : X.K = K := by rfl) :
 PE X (.Call (.Attribute o "append" apos) [e] [] cpos) (tBM K "list" mAppend to t) := hK ▸ pe_bm PySem.F.plainAttrs_list PySem.F.slot_list_append PySem.F.type_list_append mm_append ho ha hbase hfew hline hs hplain
theorem em_bm {T : String} {r : V -> List V -> Hp -> VK -> Prop} (h1 : EMono to) (h2 : AMono t) (h3 : BMono r) : EMono (tBM K T r to t) := fun σ H Q Q' h q => h1 _ _ _ _ (fun _ _ q => ⟨q.1, h2 _ _ _ _ (fun _ _ q => h3 _ _ _ _ _ h q) q.2⟩) q
theorem bm_append : BMono mAppend := fun x xs H Q Q' h q => by
 unfold mAppend at *
 split at q
 ·obtain ⟨ys, a, b, q⟩ := q; exact ⟨ys, a, b, h _ _ q⟩
 ·exact q.elim
def mAll (K : PySem.W.Frag) : List V -> Hp -> VK -> Prop := fun xs H Q => match xs with
 | [.ref l] => ∃ bs : List Bool, SqL K H l (bs.map V.bl) /\ Q (.bl (bs.all id)) H
 | _ => False
theorem cm_all (hc : X.calm = true) : CallR X (.builtin "all") (mAll X.K) := by
 intro pins s σ H xs us Q I r q
 match xs, q with
 | [.ref l], q =>
 obtain ⟨bs, hl, q⟩ := q
 obtain ⟨u, rfl, ru⟩ := vals1 r
 cases ru
 obtain ⟨its, rv, pl, hz⟩ := I.list hl
 have hlen := rv.length
 rw [List.length_map] at hlen
 obtain ⟨o1, n1, g1, _⟩ := id pl
 have hlt := Heap.lt_size g1
 refine call_all_walk (wpAny_pyIter_list pl.isList ?_)
 have hne : l ≠ s.heap.objs.size := Nat.ne_of_lt hlt
 refine ⟨_, _, _, _, _, _, fun i => bs.getD i false, rfl, Walks.list (A := X.A.in1) (I.ok.hd hc) s.heap.objs.size l hne its.toArray, ?_, ?_, fun h' tk hk => ?_⟩
 ·exact ⟨⟨_, Heap.get?_push_size _ rfl, rfl, rfl⟩, (show s.heap.IsList l its.toArray from pl.isList).at fun o e => Heap.get?_push_of_some _ e⟩
 ·intro i v s' Q' E' hv hq
  have hv : its.toArray[i]? = some v := hv
  have hi : i < its.length := by
   have := (Array.getElem?_eq_some_iff.mp hv).1
   simpa using this
  have hb : (bs.map V.bl)[i]? = some (.bl bs[i]) := by rw [List.getElem?_map, List.getElem?_eq_getElem (by omega)]; rfl
  obtain ⟨w', q1, q2⟩ := rv.get hb
  have e : v = w' := by simp at hv; rw [q1] at hv; exact (Option.some.inj hv).symm
  subst e
  cases q2
  refine wpAny_truthy_bool ?_
  have e2 : bs.getD i false = bs[i] := by rw [List.getD_eq_getElem?_getD, List.getElem?_eq_getElem (by omega)]; rfl
  have hq : Q' (bs.getD i false) s' := hq
  rw [e2] at hq
  exact hq
 ·refine ⟨.bl _, H, I.kept (fun b o e => hk b o ?_ (Heap.get?_push_of_some _ e)), rfl, ?_⟩
  ·simp only [List.mem_singleton]
   exact Nat.ne_of_lt (Heap.lt_size e)
  ·have e : (List.range its.toArray.size).all (fun i => bs.getD i false) = bs.all id := by
    rw [List.size_toArray, <- hlen]
    rw [Bool.eq_iff_iff, List.all_eq_true, List.all_eq_true]
    constructor
    ·intro h b hb
     obtain ⟨i, hi, rfl⟩ := List.mem_iff_getElem.mp hb
     have := h i (List.mem_range.mpr hi)
     rw [List.getD_eq_getElem?_getD, List.getElem?_eq_getElem hi] at this
     exact this
    ·intro h i hi
     have hi' := List.mem_range.mp hi
     rw [List.getD_eq_getElem?_getD, List.getElem?_eq_getElem hi']
     exact h _ (List.getElem_mem hi')
   rw [e]
   exact q
theorem kAll (hc : X.calm = true) (hK : X.K = K := by rfl) : CallR X (.builtin "all") (mAll K) := hK ▸ cm_all hc
end
section
variable {prog : Program} {w : World} {A : Around} {E : Value -> Shared -> Prop} {s : Shared}
end
section
variable {X : Cx} {K : PySem.W.Frag} {pos p2 : Pos} {e : Expr} {lo hi : Option Expr} {te : TE} {tl th : TO}
def mCut (K : PySem.W.Frag) : V -> Option Int -> Option Int -> Hp -> VK -> Prop := fun x lo hi H Q => match x with
 | .ref a => ∃ xs, (SqL K H a xs /\ ∀ p, H p = none -> Q (.ref p) (upd H p (.lst (cutV xs lo hi)))) \/
  (SqT K H a xs /\ ¬ (HT.sIx xs.length 0 lo = 0 /\ HT.sIx xs.length xs.length hi = xs.length) /\ ∀ p, H p = none -> Q (.ref p) (upd H p (.tup (cutV xs lo hi))))
 | _ => False
theorem sm_cut : SlR X (mCut X.K) := by
 intro pins s σ H x v vl vu lo hi sl Q I rx hs pl pu q
 cases x with
 | ref a =>
  obtain ⟨xs, ⟨h, q⟩ | ⟨h, h2, q⟩⟩ := q
  ·exact sl_list pins s σ H _ v vl vu lo hi sl Q I rx hs pl pu ⟨a, xs, rfl, h, q⟩
  ·exact sl_tup pins s σ H _ v vl vu lo hi sl Q I rx hs pl pu ⟨a, xs, rfl, h, h2, q⟩
 | _ => exact False.elim q
theorem kCut (he : PE X e te) (hl : PO X lo tl) (hu : PO X hi th) (hK : X.K = K := by rfl) : PE X (.Subscript e (.Slice lo hi none p2) pos) (tSl (mCut K) te tl th) := hK ▸ pe_slice sm_cut he hl hu
def OMono (t : TO) : Prop := ∀ σ H (Q Q' : Option Int -> Hp -> Prop), (∀ b H, Q b H -> Q' b H) -> t σ H Q -> t σ H Q'
theorem om_none : OMono tNoPart := fun _ _ _ _ h q => h _ _ q
theorem om_some (h : EMono te) : OMono (tPart te) := fun σ H Q Q' k q => h _ _ _ _ (fun _ _ ⟨i, e, q⟩ => ⟨i, e, k _ _ q⟩) q
end
theorem sqT_same {K : PySem.W.Frag} {H H' : Hp} {a : Addr} {xs : List V} (h : SqT K H a xs) (s : Same H H') : SqT K H' a xs := sqT_stay h fun o e => s a o e
mutual
theorem Rep.same {K : PySem.W.Frag} {H H' : Hp} (s : Same H H') : ∀ (d : Dv) (v : V), Rep K H d v -> Rep K H' d v
 | .non, v, h => by unfold Rep at *; exact h
 | .bl b, v, h => by unfold Rep at *; exact h
 | .int i, v, h => by unfold Rep at *; exact h
 | .str x, v, h => by unfold Rep at *; exact h
 | .tup ds, v, h => by
  unfold Rep at *
  obtain ⟨a, xs, e, h1, h2⟩ := h
  exact ⟨a, xs, e, sqT_same h1 s, Reps.same s ds xs h2⟩
 | .lst ds, v, h => by
  unfold Rep at *
  obtain ⟨a, xs, e, h1, h2⟩ := h
  exact ⟨a, xs, e, sqL_stay h1 fun o e => s a o e, Reps.same s ds xs h2⟩
theorem Reps.same {K : PySem.W.Frag} {H H' : Hp} (s : Same H H') : ∀ (ds : List Dv) (xs : List V), Reps K H ds xs -> Reps K H' ds xs
 | [], xs, h => by unfold Reps at *; exact h
 | d :: ds, xs, h => by
  unfold Reps at *
  obtain ⟨x, r, e, h1, h2⟩ := h
  exact ⟨x, r, e, Rep.same s d x h1, Reps.same s ds r h2⟩
end
mutual
def tupOnly : Dv -> Bool
 | .tup ds => tupsOnly ds
 | .lst _ => false
 | _ => true
def tupsOnly : List Dv -> Bool
 | [] => true
 | d :: ds => tupOnly d && tupsOnly ds
end
mutual
theorem Rep.frm {K : PySem.W.Frag} {H H' : Hp} {t : Addr} (s : Frm t H H') (ht : ∃ zs, H t = some (.lst zs)) : ∀ (d : Dv) (v : V), tupOnly d = true -> Rep K H d v -> Rep K H' d v
 | .non, v, _, h => by unfold Rep at *; exact h
 | .bl b, v, _, h => by unfold Rep at *; exact h
 | .int i, v, _, h => by unfold Rep at *; exact h
 | .str x, v, _, h => by unfold Rep at *; exact h
 | .tup ds, v, hd, h => by
  unfold tupOnly at hd
  unfold Rep at *
  obtain ⟨a, xs, e, h1, h2⟩ := h
  refine ⟨a, xs, e, ?_, Reps.frm s ht ds xs hd h2⟩
  obtain ⟨zs, hz⟩ := ht
  rcases h1 with (h1 | ⟨o, h1⟩) | h1
  ·exact .inl (.inl (s a _ (fun q => by rw [q, hz] at h1; cases h1) h1))
  ·exact .inl (.inr ⟨o, s a _ (fun q => by rw [q, hz] at h1; cases h1) h1⟩)
  ·exact .inr h1
 | .lst ds, v, hd, h => by unfold tupOnly at hd; cases hd
theorem Reps.frm {K : PySem.W.Frag} {H H' : Hp} {t : Addr} (s : Frm t H H') (ht : ∃ zs, H t = some (.lst zs)) : ∀ (ds : List Dv) (xs : List V), tupsOnly ds = true -> Reps K H ds xs -> Reps K H' ds xs
 | [], xs, _, h => by unfold Reps at *; exact h
 | d :: ds, xs, hd, h => by
  unfold tupsOnly at hd
  rw [Bool.and_eq_true] at hd
  unfold Reps at *
  obtain ⟨x, r, e, h1, h2⟩ := h
  exact ⟨x, r, e, Rep.frm s ht d x hd.1 h1, Reps.frm s ht ds r hd.2 h2⟩
end
theorem Tape.lst {K : PySem.W.Frag} {H : Hp} {t a : Addr} {ns : List Int} (T : Tape K H t a ns) : ∃ zs, H t = some (.lst zs) := by
 obtain ⟨i, r, c, _, _, h⟩ := T.at_
 exact ⟨_, h⟩
theorem rep_tup1 {K : PySem.W.Frag} {H : Hp} {p : Addr} {xs : List V} {ds : List Dv} (h : H p = some (.tup xs)) (r : Reps K H ds xs) : Rep K H (.tup ds) (.ref p) := by unfold Rep; exact ⟨p, xs, rfl, .of h, r⟩
theorem reps_nil {K : PySem.W.Frag} {H : Hp} : Reps K H [] [] := by unfold Reps; rfl
theorem reps_cons {K : PySem.W.Frag} {H : Hp} {d : Dv} {ds : List Dv} {x : V} {xs : List V} (h : Rep K H d x) (r : Reps K H ds xs) : Reps K H (d :: ds) (x :: xs) := by unfold Reps; exact ⟨x, xs, rfl, h, r⟩
theorem rep_int {K : PySem.W.Frag} {H : Hp} {x : Int} : Rep K H (.int x) (.int x) := by unfold Rep; rfl
theorem rep_bl {K : PySem.W.Frag} {H : Hp} {x : Bool} : Rep K H (.bl x) (.bl x) := by unfold Rep; rfl
theorem Reps.append {K : PySem.W.Frag} {H : Hp} : ∀ {ds es : List Dv} {xs ys : List V}, Reps K H ds xs -> Reps K H es ys -> Reps K H (ds ++ es) (xs ++ ys)
 | [], es, xs, ys, h, h' => by unfold Reps at h; subst h; exact h'
 | d :: ds, es, xs, ys, h, h' => by
  unfold Reps at h
  obtain ⟨x, r, rfl, h1, h2⟩ := h
  exact reps_cons h1 (Reps.append h2 h')
section
variable {κ : Type} [DecidableEq κ]
def valV (kvs : List (κ × V)) (k : κ) : Option V := (kvs.find? fun kv => decide (kv.1 = k)).map (·.2)
def putK (kvs : List (κ × V)) (k : κ) (v : V) : List (κ × V) :=
 if (kvs.any fun kv => decide (kv.1 = k)) = true then kvs.map (fun kv => if kv.1 = k then (kv.1, v) else kv) else kvs ++ [(k, v)]
theorem valV_pos {p : κ × V} {r : List (κ × V)} {k : κ} (e : p.1 = k) : valV (p :: r) k = some p.2 := by simp [valV, List.find?_cons, e]
theorem valV_neg {p : κ × V} {r : List (κ × V)} {k : κ} (e : ¬ p.1 = k) : valV (p :: r) k = valV r k := by simp [valV, List.find?_cons, e]
theorem valV_any (k : κ) : ∀ kvs : List (κ × V), (kvs.any fun kv => decide (kv.1 = k)) = (valV kvs k).isSome
 | [] => rfl
 | p :: r => by
  rw [List.any_cons]
  by_cases e : p.1 = k
  ·simp only [valV_pos e, decide_eq_true e, Bool.true_or, Option.isSome_some]
  ·rw [valV_neg e, decide_eq_false e, Bool.false_or]; exact valV_any k r
theorem valV_map (k j : κ) (y : V) : ∀ kvs : List (κ × V), valV (kvs.map fun kv => if kv.1 = k then (kv.1, y) else kv) j = (valV kvs j).map fun x => if j = k then y else x
 | [] => rfl
 | p :: r => by
  have ih := valV_map k j y r
  rw [List.map_cons]
  by_cases h : p.1 = k
  ·rw [if_pos h]
   by_cases e : p.1 = j
   ·rw [valV_pos (p := (p.1, y)) e, valV_pos e, Option.map_some, if_pos (e.symm.trans h)]
   ·rw [valV_neg (p := (p.1, y)) e, valV_neg e, ih]
  ·rw [if_neg h]
   by_cases e : p.1 = j
   ·rw [valV_pos (p := p) e, valV_pos e, Option.map_some, if_neg (fun z => h (e.trans z))]
   ·rw [valV_neg (p := p) e, valV_neg e, ih]
theorem valV_snoc (k j : κ) (y : V) : ∀ kvs : List (κ × V), valV kvs k = none -> valV (kvs ++ [(k, y)]) j = if j = k then some y else valV kvs j
 | [], _ => by
  by_cases e : k = j
  ·rw [if_pos e.symm]; exact valV_pos (p := (k, y)) e
  ·rw [if_neg (fun z => e z.symm)]; exact valV_neg (p := (k, y)) e
 | p :: r, hn => by
  rw [List.cons_append]
  have hk : ¬ p.1 = k := fun z => by rw [valV_pos z] at hn; cases hn
  rw [valV_neg hk] at hn
  have ih := valV_snoc k j y r hn
  by_cases e : p.1 = j
  ·rw [valV_pos e, valV_pos e, if_neg (fun z => hk (e.trans z))]
  ·rw [valV_neg e, valV_neg e, ih]
theorem valV_put (kvs : List (κ × V)) (k j : κ) (y : V) : valV (putK kvs k y) j = if j = k then some y else valV kvs j := by
 unfold putK
 by_cases a : (kvs.any fun kv => decide (kv.1 = k)) = true
 ·rw [if_pos a, valV_map]
  rw [valV_any] at a
  by_cases e : j = k
  ·obtain ⟨x, hx⟩ := Option.isSome_iff_exists.mp a
   rw [if_pos e, e, hx, Option.map_some, if_pos rfl]
  ·rw [if_neg e]
   cases valV kvs j with
   | none => rfl
   | some x => rw [Option.map_some, if_neg e]
 ·rw [if_neg a]
  refine valV_snoc k j y kvs ?_
  rw [valV_any] at a
  cases q : valV kvs k with
  | none => rfl
  | some x => rw [q] at a; exact (a rfl).elim
theorem length_putK (kvs : List (κ × V)) (k : κ) (v : V) : (putK kvs k v).length <= kvs.length + 1 := by
 unfold putK
 split
 ·rw [List.length_map]; omega
 ·rw [List.length_append, List.length_cons, List.length_nil]; omega
theorem RelO.isSome_eq {o : Option V} {u : Option Value} (r : RelO o u) : o.isSome = u.isSome := by
 cases o with
 | none => cases u with
  | none => rfl
  | some _ => exact (show False from r).elim
 | some _ => cases u with
  | none => exact (show False from r).elim
  | some _ => rfl
theorem RelO.getD {o : Option V} {u : Option Value} {d : V} {d' : Value} (r : RelO o u) (rd : RelV d d') : RelV (o.getD d) (u.getD d') := by
 cases o with
 | none => cases u with
  | none => exact rd
  | some _ => exact (show False from r).elim
 | some _ => cases u with
  | none => exact (show False from r).elim
  | some _ => exact r
theorem KV.val {kvs : List (κ × V)} {vs : List (κ × Value)} (r : KV kvs vs) (k : κ) : RelO (valV kvs k) (valueAt vs k) := by
 unfold KV at r
 induction r with
 | nil => exact True.intro
 | @cons p q ps qs h t ih =>
  obtain ⟨h1, h2⟩ := h
  by_cases e : p.1 = k
  ·have e' : q.1 = k := h1.symm.trans e
   have b : valueAt (q :: qs) k = some q.2 := by simp [valueAt, List.find?_cons, e']
   rw [valV_pos e, b]; exact h2
  ·have e' : ¬ q.1 = k := fun z => e (h1.trans z)
   have b : valueAt (q :: qs) k = valueAt qs k := by simp [valueAt, List.find?_cons, e']
   rw [valV_neg e, b]; exact ih
theorem KV.any {kvs : List (κ × V)} {vs : List (κ × Value)} (r : KV kvs vs) (k : κ) : (kvs.any fun kv => decide (kv.1 = k)) = vs.any fun kv => decide (kv.1 = k) := by
 unfold KV at r
 induction r with
 | nil => rfl
 | cons h t ih => rw [List.any_cons, List.any_cons, ih, h.1]
theorem KV.repl {kvs : List (κ × V)} {vs : List (κ × Value)} (r : KV kvs vs) (k : κ) {y : V} {u : Value} (ry : RelV y u) :
 KV (kvs.map fun kv => if kv.1 = k then (kv.1, y) else kv) (vs.map fun kv => if kv.1 = k then (kv.1, u) else kv) := by
 unfold KV at r ⊢
 induction r with
 | nil => exact .nil
 | @cons p q ps qs h t ih =>
  rw [List.map_cons, List.map_cons]
  refine .cons ?_ ih
  obtain ⟨h1, h2⟩ := h
  by_cases e : p.1 = k
  ·rw [if_pos e, if_pos (h1.symm.trans e)]; exact ⟨h1, ry⟩
  ·rw [if_neg e, if_neg (fun z => e (h1.trans z))]; exact ⟨h1, h2⟩
theorem KV.put {kvs : List (κ × V)} {vs : List (κ × Value)} (r : KV kvs vs) (k : κ) {y : V} {u : Value} (ry : RelV y u) : KV (putK kvs k y) (stored vs k u) := by
 unfold putK stored
 rw [r.any k]
 by_cases e : (vs.any fun kv => decide (kv.1 = k)) = true
 ·rw [if_pos e, if_pos e]; exact r.repl k ry
 ·rw [if_neg e, if_neg e]; exact Paired.snoc r ⟨rfl, ry⟩
theorem KV.length {kvs : List (κ × V)} {vs : List (κ × Value)} (r : KV kvs vs) : kvs.length = vs.length := Paired.length r
end
theorem kV_is {P : Program} {w : World} {k : Key} {u : Value} (r : RelV (kV k) u) : (mixKind P w).is k u = true := by
 cases k with
 | inl i => obtain ⟨t, e⟩ := (show ∃ t, u = Value.int i t from r); subst e; exact mixKind_int P w i t
 | inr x => obtain ⟨t, e⟩ := (show ∃ t, u = Value.str x t from r); subst e; exact mixKind_str P w x t
theorem items_are {P : Program} {w : World} : ∀ {ks : List Key} {us : List Value}, Vals (ks.map kV) us -> ItemsAre (mixKind P w) ks us
 | [], _, r => by rw [List.map_nil] at r; cases r; exact .nil
 | k :: ks, _, r => by
  rw [List.map_cons] at r
  cases r with
  | cons h t => exact .cons (kV_is h) (items_are t)
abbrev KT (H : Hp) : List (List Key × V) -> List (List Key × Addr × Value) -> Prop := Paired fun p q => p.1 = q.1 /\ H q.2.1 = some (.tup (p.1.map kV)) /\ RelV p.2 q.2.2
theorem KT.val {H : Hp} {kvs : List (List Key × V)} {xs : List (List Key × Addr × Value)} (r : KT H kvs xs) (k : List Key) : RelO (valV kvs k) ((atKey xs k).map (·.2)) := by
 induction r with
 | nil => exact True.intro
 | @cons p q ps qs h t ih =>
  obtain ⟨h1, _, h2⟩ := h
  by_cases e : p.1 = k
  ·have e' : q.1 = k := h1.symm.trans e
   have b : atKey (q :: qs) k = some q.2 := by simp [atKey, List.find?_cons, e']
   rw [valV_pos e, b]; exact h2
  ·have e' : ¬ q.1 = k := fun z => e (h1.trans z)
   have b : atKey (q :: qs) k = atKey qs k := by simp [atKey, List.find?_cons, e']
   rw [valV_neg e, b]; exact ih
theorem KT.repl {H : Hp} {kvs : List (List Key × V)} {xs : List (List Key × Addr × Value)} (r : KT H kvs xs) (k : List Key) {y : V} {u : Value} (ry : RelV y u) :
 KT H (kvs.map fun kv => if kv.1 = k then (kv.1, y) else kv) (xs.map (putAt k u)) := by
 induction r with
 | nil => exact .nil
 | @cons p q ps qs h t ih =>
  rw [List.map_cons, List.map_cons]
  refine .cons ?_ ih
  obtain ⟨h1, h2, h3⟩ := h
  unfold putAt
  by_cases e : p.1 = k
  ·rw [if_pos e, if_pos (h1.symm.trans e)]; exact ⟨h1, h2, ry⟩
  ·rw [if_neg e, if_neg (fun z => e (h1.trans z))]; exact ⟨h1, h2, h3⟩
theorem KT.put {H : Hp} {kvs : List (List Key × V)} {xs : List (List Key × Addr × Value)} (r : KT H kvs xs) (k : List Key) {b : Addr} {y : V} {u : Value} (hb : H b = some (.tup (k.map kV))) (ry : RelV y u) :
 KT H (putK kvs k y) (storedH xs k b u) := by
 have e : (kvs.any fun kv => decide (kv.1 = k)) = (atKey xs k).isSome := by
  rw [valV_any, (r.val k).isSome_eq, Option.isSome_map]
 unfold putK storedH
 rw [e]
 by_cases q : (atKey xs k).isSome = true
 ·rw [if_pos q, if_pos q]; exact r.repl k ry
 ·rw [if_neg q, if_neg q]; exact Paired.snoc r ⟨rfl, hb, ry⟩
theorem KT.keeps {H H' : Hp} {kvs : List (List Key × V)} {xs : List (List Key × Addr × Value)} (r : KT H kvs xs) (ht : ∀ b ys, H b = some (.tup ys) -> H' b = some (.tup ys)) : KT H' kvs xs :=
 Paired.mapP r fun _ _ z => ⟨z.1, ht _ _ z.2.1, z.2.2⟩
section
variable {P : Program} {w : World} {H : Hp} {h : Heap} {a : Addr}
theorem rd_of {u : HO} (ok : HOk P w H h) (e : Rd H a u) : ObjOk P w H h a u := e.ok ok
theorem dk_rd {kvs : List (Key × V)} (ok : HOk P w H h) (e : Rd H a (.dK kvs)) : kvs.length <= sizeLine /\ (a == sysModules) = false /\ ∃ vs, KV kvs vs /\ h.DictOf (mixKind P w) a vs :=
 show ObjOk P w H h a (.dK kvs) from rd_of ok e
theorem dk_of {kvs : List (Key × V)} (ok : HOk P w H h) (e : H a = some (.dK kvs)) : kvs.length <= sizeLine /\ (a == sysModules) = false /\ ∃ vs, KV kvs vs /\ h.DictOf (mixKind P w) a vs := dk_rd ok (.inl e)
theorem key_of {ks : List Key} (ok : HOk P w H h) (e : H a = some (.tup (ks.map kV))) : (tupleKind (mixKind P w)).is h ks a := by
 obtain ⟨_, its, r, o, h1, h2, ⟨n, h3⟩, _⟩ := (show ObjOk P w H h a (.tup (ks.map kV)) from ok a _ e)
 exact ⟨o, its.toArray, n, h1, h2, h3, by simpa using items_are r⟩
theorem dt_rd {kvs : List (List Key × V)} (ok : HOk P w H h) (e : Rd H a (.dT kvs)) : kvs.length <= sizeLine /\ (a == sysModules) = false /\
 ∃ xs, KT H kvs xs /\ h.DictOfH (tupleKind (mixKind P w)) a xs := by
 obtain ⟨z, y, xs, r, o, es, ep, h1, h2, h3, h4, h5⟩ := (show ObjOk P w H h a (.dT kvs) from rd_of ok e)
 refine ⟨z, y, xs, r, o, es, ep, h1, h2, h3, h4, fun x hx => ?_, h5⟩
 have all : ∀ {l : List (List Key × V)} {m : List (List Key × Addr × Value)}, KT H l m -> ∀ x ∈ m, (tupleKind (mixKind P w)).is h x.1 x.2.1 := by
  intro l m q
  induction q with
  | nil => intro x hx; exact nomatch hx
  | @cons p q ps qs hq t ih =>
   intro x hx
   rcases List.mem_cons.mp hx with e | hx
   ·subst e
    exact key_of ok (by rw [<- hq.1]; exact hq.2.1)
   ·exact ih x hx
 exact all r x hx
theorem dt_of {kvs : List (List Key × V)} (ok : HOk P w H h) (e : H a = some (.dT kvs)) : kvs.length <= sizeLine /\ (a == sysModules) = false /\
 ∃ xs, KT H kvs xs /\ h.DictOfH (tupleKind (mixKind P w)) a xs := dt_rd ok (.inl e)
end
def DGet (H : Hp) (a : Addr) (y : V) (r : Option V) : Prop :=
 (∃ kvs k, Rd H a (.dK kvs) /\ y = kV k /\ r = valV kvs k) \/ ∃ kvs k b, Rd H a (.dT kvs) /\ y = .ref b /\ H b = some (.tup (k.map kV)) /\ r = valV kvs k
def DPut (H : Hp) (a : Addr) (y v : V) (H' : Hp) : Prop :=
 (∃ kvs k, H a = some (.dK kvs) /\ y = kV k /\ kvs.length < sizeLine /\ H' = upd H a (.dK (putK kvs k v))) \/
 ∃ kvs k b, H a = some (.dT kvs) /\ y = .ref b /\ H b = some (.tup (k.map kV)) /\ kvs.length < sizeLine /\ H' = upd H a (.dT (putK kvs k v))
theorem DGet.k {H : Hp} {a : Addr} {kvs : List (Key × V)} {k : Key} (e : H a = some (.dK kvs)) : DGet H a (kV k) (valV kvs k) := .inl ⟨kvs, k, .inl e, rfl, rfl⟩
theorem DGet.t {H : Hp} {a b : Addr} {kvs : List (List Key × V)} {k : List Key} (e : H a = some (.dT kvs)) (eb : H b = some (.tup (k.map kV))) : DGet H a (.ref b) (valV kvs k) := .inr ⟨kvs, k, b, .inl e, rfl, eb, rfl⟩
theorem DPut.k {H : Hp} {a : Addr} {kvs : List (Key × V)} {k : Key} {v : V} (e : H a = some (.dK kvs)) (hl : kvs.length < sizeLine) : DPut H a (kV k) v (upd H a (.dK (putK kvs k v))) := .inl ⟨kvs, k, e, rfl, hl, rfl⟩
theorem DPut.t {H : Hp} {a b : Addr} {kvs : List (List Key × V)} {k : List Key} {v : V} (e : H a = some (.dT kvs)) (eb : H b = some (.tup (k.map kV))) (hl : kvs.length < sizeLine) :
 DPut H a (.ref b) v (upd H a (.dT (putK kvs k v))) := .inr ⟨kvs, k, b, e, rfl, eb, hl, rfl⟩
section
variable {X : Cx} {pins : List (Addr × Obj)} {σ : St} {H : Hp} {s : Shared} {a : Addr} {y v : V} {u r : Value} {o : Option V} {A : Around} {E : Value -> Shared -> Prop}
theorem Inv.big (I : Inv X pins σ H s) : sysModules < s.heap.objs.size := by
 have h : mainGlobals < s.heap.objs.size := (I.mod.glob.keeps I.bk).lt
 exact Nat.lt_trans (by decide) h
theorem d_getItem {Q : Value -> Shared -> Prop} (hu : A.units + 1 < cLine) (I : Inv X pins σ H s) (g : DGet H a y (some v)) (ry : RelV y u) (h : ∀ w' s', Inv X pins σ H s' -> RelV v w' -> Q w' s') :
 wpAny (model X.prog X.w) A (getItem (.ref a) u) Q E s := by
 rcases g with ⟨kvs, k, e, ey, l⟩ | ⟨kvs, k, b, e, ey, eb, l⟩
 ·subst ey
  obtain ⟨z, hd, vs, rel, dd⟩ := dk_rd I.hok e
  obtain ⟨w', hw, rw'⟩ := RelO.some_of (v := v) (o := valueAt vs k) (by rw [l]; exact rel.val k)
  exact wpAny_getItem_of (kV_is ry) dd.mapOf hw (h w' _ (I.tok _) rw')
 ·subst ey
  cases (show u = Value.ref b from ry)
  obtain ⟨z, hd, xs, rel, dd⟩ := dt_rd I.hok e
  obtain ⟨w', hw, rw'⟩ := RelO.some_of (v := v) (o := (atKey xs k).map (·.2)) (by rw [l]; exact rel.val k)
  obtain ⟨p, hp, hp2⟩ := Option.map_eq_some_iff.mp hw
  refine wpAny_getItem_heap (tupleKind_room_in1 hu) (key_of I.hok eb) dd hp ?_
  rw [hp2]
  exact h w' _ (I.tok _) rw'
theorem d_notIn {Q : Value -> Shared -> Prop} (hu : A.units + 1 < cLine) (I : Inv X pins σ H s) (g : DGet H a y o) (ry : RelV y u) (h : ∀ s', Inv X pins σ H s' -> Q (.bool (!o.isSome)) s') :
 wpAny (model X.prog X.w) A (compareOp .NotIn u (.ref a)) Q E s := by
 rcases g with ⟨kvs, k, e, ey, l⟩ | ⟨kvs, k, b, e, ey, eb, l⟩
 ·subst ey
  obtain ⟨z, hd, vs, rel, dd⟩ := dk_rd I.hok e
  refine wpAny_notIn_of (kV_is ry) hd dd.mapOf ?_
  rw [<- (rel.val k).isSome_eq, <- l]
  exact h _ (I.tok _)
 ·subst ey
  cases (show u = Value.ref b from ry)
  obtain ⟨z, hd, xs, rel, dd⟩ := dt_rd I.hok e
  refine wpAny_notIn_heap (tupleKind_room_in1 hu) (key_of I.hok eb) hd dd ?_
  have q := (rel.val k).isSome_eq
  rw [Option.isSome_map] at q
  rw [<- q, <- l]
  exact h _ (I.tok _)
theorem d_write {h' : Heap} {t' : Nat} {ob : HO} (I : Inv X pins σ H s) (mu : Mut (H a)) (hs : Heap.SameBut a s.heap h') (he : ∃ q, h'.get? a = some q) (new : ObjOk X.prog X.w (upd H a ob) h' a ob) :
 Inv X pins σ (upd H a ob) { s with heap := h', toks := t' } :=
 I.write (x := a) (e := a) mu (.inl rfl) (fun b q hb z => (hs.2 b hb).trans z) he new
theorem dk_new {P : Program} {w : World} {H' : Hp} {h' : Heap} {kvs : List (Key × V)} {vs : List (Key × Value)} (z : kvs.length <= sizeLine) (hd : (a == sysModules) = false) (rel : KV kvs vs) (dd : h'.DictOf (mixKind P w) a vs) :
 ObjOk P w H' h' a (.dK kvs) := ⟨z, hd, vs, rel, dd⟩
theorem d_setItem {H' : Hp} {Q : Unit -> Shared -> Prop} (hu : A.units + 1 < cLine) (I : Inv X pins σ H s) (g : DPut H a y v H') (ry : RelV y u) (rv : RelV v r) (h : ∀ s', Inv X pins σ H' s' -> Q () s') :
 wpAny (model X.prog X.w) A (setItem (.ref a) u r) Q E s := by
 rcases g with ⟨kvs, k, e, ey, l, eH⟩ | ⟨kvs, k, b, e, ey, eb, l, eH⟩
 ·subst ey eH
  obtain ⟨z, hd, vs, rel, dd⟩ := dk_of I.hok e
  have hz : vs.length <= sizeLine := by rw [<- rel.length]; exact z
  have hl : (putK kvs k v).length <= sizeLine := by have := length_putK kvs k v; omega
  refine wpAny_setItem_pairs (hsz := hz) (kV_is ry) dd fun h' dd' hs => h _ ?_
  have he : ∃ q, h'.get? a = some q := let ⟨q, _, _, hq, _⟩ := dd'; ⟨q, hq⟩
  exact d_write I (by rw [e]; exact True.intro) hs he (dk_new hl hd (rel.put k rv) dd')
 ·subst ey eH
  cases (show u = Value.ref b from ry)
  obtain ⟨z, hd, xs, rel, dd⟩ := dt_of I.hok e
  have hz : xs.length <= sizeLine := by rw [<- Paired.length rel]; exact z
  have hl : (putK kvs k v).length <= sizeLine := by have := length_putK kvs k v; omega
  refine wpAny_setItem_heap (hsz := hz) (tupleKind_room_in1 hu) (key_of I.hok eb) dd fun h' dd' hs => h _ ?_
  obtain ⟨q, es, ep, hq, h2, h3, h4, _, h5⟩ := dd'
  refine d_write I (by rw [e]; exact True.intro) hs ⟨q, hq⟩ ⟨hl, hd, _, (rel.put k eb rv).keeps fun c ys ec => ?_, q, es, ep, hq, h2, h3, h4, h5⟩
  rw [upd_ne (ne_of ec e (fun z => nomatch z))]
  exact ec
end
section
variable {X : Cx} {pins : List (Addr × Obj)} {σ : St} {H : Hp} {s : Shared} {a : Addr} {kvs : List (Key × V)} {k : Key} {u : Value} {A : Around} {E : Value -> Shared -> Prop}
end
def NoSl (i : Expr) : Prop := ∀ ov iv, subscripted i false ov iv = operate [ov, iv] (getItem ov iv)
theorem subD_of {prog : Program} {w : World} {A : Around} {E : Value -> Shared -> Prop} {s : Shared} {env : Env} {value slice : Expr} {pos : Pos} {T id : String} {Q : Value -> Shared -> Prop}
 (hl : typeLookup (.type T) "__getitem__" = pure (some (.builtin id))) (hs : NoSl slice)
 (h : wpAny (model prog w) A (eval value env) (fun o s₁ => wpAny (model prog w) A (eval slice env) (fun i s₂ => s₂.TypeIs o T /\ wpAny (model prog w) A (getItem o i) Q E s₂) E s₁) E s) :
 wpAny (model prog w) A (eval (.Subscript value slice pos) env) Q E s := by
 refine Subscript_ (wpAny_mono h (fun o s₁ h₁ => wpAny_mono h₁ (fun i s₂ h₂ => ?_) fun _ _ x => x) fun _ _ x => x)
 obtain ⟨hT, h₂⟩ := h₂
 unfold subscriptTail
 refine wpAny_bind ?_
 rw [getitemInPython_of_ne hT.not_modules]
 refine wpAny_bind (wpAny_specialOf hT hl ?_)
 have fin : wpAny (model prog w) A (subscripted slice false o i) (fun r s₃ => wpAny (model prog w) A (letTemporaryGo value o r >>= fun _ => pure r) Q E s₃) E s₂ := by
  rw [hs o i]
  exact wpAny_operating (wpAny_mono h₂ (fun r s₃ h₃ => wpAny_bind (wpAny_letTemporaryGo (wpAny_pure h₃))) fun _ _ x => x)
 first
  | exact wpAny_pure (wpAny_bind fin)
  | exact wpAny_bind (wpAny_pure (wpAny_bind fin))
  | exact wpAny_bind fin
theorem dict_typeIs {X : Cx} {pins : List (Addr × Obj)} {σ : St} {H : Hp} {s : Shared} {a : Addr} {y : V} {o : Option V} (I : Inv X pins σ H s) (g : DGet H a y o) : s.TypeIs (.ref a) "dict" := by
 rcases g with ⟨kvs, k, e, _, _⟩ | ⟨kvs, k, b, e, _, _, _⟩
 ·obtain ⟨_, _, vs, _, dd⟩ := dk_rd I.hok e
  exact dd.typeIs
 ·obtain ⟨_, _, xs, _, dd⟩ := dt_rd I.hok e
  exact dd.typeIs
def tDGet (td ty : TE) : TE := fun σ H Q => td σ H fun x H1 => ty σ H1 fun y H2 => ∃ a v, x = .ref a /\ DGet H2 a y (some v) /\ Q v H2
def sDPut (td ty tv : TE) : TS := fun D σ H => tv σ H fun v H1 => td σ H1 fun x H2 => ty σ H2 fun y H3 => ∃ a H4, x = .ref a /\ DPut H3 a y v H4 /\ D.nx σ H4
section
variable {X : Cx} {o i e value : Expr} {pos pos' tpos : Pos} {td ty tv : TE}
theorem pe_dget (hu : X.A.units + 1 < cLine) (ho : PE X o td) (hi : PE X i ty) (hs : NoSl i) : PE X (.Subscript o i pos) (tDGet td ty) := by
 intro pins s σ H Q I h
 refine subD_of PySem.F.slot_dict_getitem.lookup hs (thn (ho pins s σ H _ I h) fun u s1 ⟨x, H1, I1, rx, q1⟩ => thn (hi pins s1 σ H1 _ I1 q1) fun iv s2 ⟨y, H2, I2, ry, a, v, ex, g, q2⟩ => ?_)
 subst ex
 obtain rfl : u = Value.ref a := rx
 exact ⟨dict_typeIs I2 g, d_getItem hu I2 g ry fun w' s3 I3 rw' => ⟨v, H2, I3, rw', q2⟩⟩
theorem ps_dput (hu : X.A.units + 1 < cLine) (ho : PE X o td) (hi : PE X i ty) (hv : PE X value tv) (hs : swapsWith value (some (.Subscript o i pos')) pos.line X.env = pure false) :
 PS X (.Assign [.Subscript o i pos'] value pos) (sDPut td ty tv) := by
 intro pins s σ H D I h
 refine wpAny_Assign_Subscript (thn (hv pins s σ H _ I h) fun r s1 ⟨v, H1, I1, rv, q1⟩ => thn (ho pins s1 σ H1 _ I1 q1) fun u s2 ⟨x, H2, I2, rx, q2⟩ => thn (hi pins s2 σ H2 _ I2 q2) fun iv s3 ⟨y, H3, I3, ry, a, H4, ex, g, q3⟩ => ?_) hs
 subst ex
 obtain rfl : u = Value.ref a := rx
 exact d_setItem hu I3 g ry rv fun s4 I4 => ⟨σ, H4, I4, q3⟩
end
theorem dk_empty {P : Program} {w : World} {H : Hp} (h : Heap) (hb : sysModules < h.objs.size) : ObjOk P w H (h.push { cls := .type "dict", data := .dict #[] }) h.objs.size (.dK []) :=
 ⟨Nat.zero_le _, beq_eq_false_iff_ne.mpr (Ne.symm (Nat.ne_of_lt hb)), [], .nil, Heap.DictOf.new h⟩
theorem dt_empty {P : Program} {w : World} {H : Hp} (h : Heap) (hb : sysModules < h.objs.size) : ObjOk P w H (h.push { cls := .type "dict", data := .dict #[] }) h.objs.size (.dT []) :=
 ⟨Nat.zero_le _, beq_eq_false_iff_ne.mpr (Ne.symm (Nat.ne_of_lt hb)), [], .nil, _, #[], 0, Heap.get?_push_size _ rfl, ⟨rfl, rfl, rfl⟩, rfl, rfl, List.nodup_nil⟩
def tDNewK : TE := fun _ H Q => ∀ p, H p = none -> Q (.ref p) (upd H p (.dK []))
def tDNewT : TE := fun _ H Q => ∀ p, H p = none -> Q (.ref p) (upd H p (.dT []))
section
variable {X : Cx} {pos : Pos}
theorem pe_dnewK : PE X (.Dict [] [] pos) tDNewK := fun pins s σ H Q I h =>
 wpAny_Dict_empty ⟨.ref s.heap.objs.size, _, I.laid (a := s.heap.objs.size) (o := .dK []) (t' := s.toks) (fun _ _ q => Heap.get?_push_of_some _ q) (Nat.le_refl _) (dk_empty s.heap I.big), rfl, h _ (I.hok.fresh (Nat.le_refl _))⟩
theorem pe_dnewT : PE X (.Dict [] [] pos) tDNewT := fun pins s σ H Q I h =>
 wpAny_Dict_empty ⟨.ref s.heap.objs.size, _, I.laid (a := s.heap.objs.size) (o := .dT []) (t' := s.toks) (fun _ _ q => Heap.get?_push_of_some _ q) (Nat.le_refl _) (dt_empty s.heap I.big), rfl, h _ (I.hok.fresh (Nat.le_refl _))⟩
end
def tPairs : List (TE × TE) -> St -> Hp -> (List (V × V) -> Hp -> Prop) -> Prop
 | [], _, H, Q => Q [] H
 | (tk, tv) :: r, σ, H, Q => tk σ H fun x H1 => tv σ H1 fun y H2 => tPairs r σ H2 fun ps H3 => Q ((x, y) :: ps) H3
abbrev VV : List (V × V) -> List (Value × Value) -> Prop := Paired fun p q => RelV p.1 q.1 /\ RelV p.2 q.2
def PPs (X : Cx) (pos : Pos) (keys : List (Option Expr)) (values : List Expr) (trs : List (TE × TE)) : Prop :=
 ∀ (pins : List (Addr × Obj)) (s : Shared) (σ : St) (H : Hp) (Q : List (V × V) -> Hp -> Prop), Inv X pins σ H s -> tPairs trs σ H Q ->
  wpAny (model X.prog X.w) X.A (evalPairs (pairTrees keys values X.env pos)) (fun vs s' => ∃ ps H', Inv X pins σ H' s' /\ VV ps vs /\ Q ps H') X.xe s
theorem pps_nil {X : Cx} {pos : Pos} : PPs X pos [] [] [] := fun pins s σ H Q I h => pairTrees_nil_walk ⟨[], H, I, .nil, h⟩
theorem pps_cons {X : Cx} {pos : Pos} {k v : Expr} {ks : List (Option Expr)} {vs : List Expr} {tk tv : TE} {trs : List (TE × TE)} (hk : PE X k tk) (hv : PE X v tv) (hr : PPs X pos ks vs trs) :
 PPs X pos (some k :: ks) (v :: vs) ((tk, tv) :: trs) := fun pins s σ H Q I h =>
 pairTrees_cons_walk (thn (hk pins s σ H _ I h) fun u s1 ⟨x, H1, I1, rx, q1⟩ => thn (hv pins s1 σ H1 _ I1 q1) fun w2 s2 ⟨y, H2, I2, ry, q2⟩ =>
  thn (hr pins s2 σ H2 _ I2 q2) fun ws s3 ⟨ps, H3, I3, rel, q3⟩ => ⟨(x, y) :: ps, H3, I3, .cons ⟨rx, ry⟩ rel, q3⟩)
def mergeK (kvs more : List (Key × V)) : List (Key × V) := more.foldl (fun acc kv => putK acc kv.1 kv.2) kvs
theorem KV.merge : ∀ {more : List (Key × V)} {rs : List (Key × Value)} {kvs : List (Key × V)} {vs : List (Key × Value)}, KV more rs -> KV kvs vs -> KV (mergeK kvs more) (merged vs rs) := by
 intro more rs kvs vs r
 unfold KV at r
 induction r generalizing kvs vs with
 | nil => intro q; exact q
 | @cons p q ps qs h t ih =>
  intro r0
  have e : KV (putK kvs p.1 p.2) (stored vs q.1 q.2) := by
   have := r0.put p.1 h.2
   rw [<- h.1]; exact this
  exact ih e
theorem length_mergeK : ∀ (more kvs : List (Key × V)), (mergeK kvs more).length <= kvs.length + more.length
 | [], kvs => by show kvs.length <= kvs.length + 0; omega
 | p :: r, kvs => by
  have h1 := length_mergeK r (putK kvs p.1 p.2)
  have h2 := length_putK kvs p.1 p.2
  show (mergeK (putK kvs p.1 p.2) r).length <= _
  rw [List.length_cons]; omega
theorem carries_of {P : Program} {w : World} : ∀ {kvs : List (Key × V)} {ws : List (Value × Value)}, VV (kvs.map fun kv => (kV kv.1, kv.2)) ws -> ∃ rs, Carries (mixKind P w) ws rs /\ KV kvs rs
 | [], _, r => by rw [List.map_nil] at r; cases r; exact ⟨[], True.intro, .nil⟩
 | p :: kvs, _, r => by
  rw [List.map_cons] at r
  cases r with
  | @cons a b as bs h t =>
   obtain ⟨rs, c, q⟩ := carries_of (P := P) (w := w) t
   obtain ⟨b1, b2⟩ := b
   exact ⟨(p.1, b2) :: rs, ⟨kV_is h.1, rfl, c⟩, .cons ⟨rfl, h.2⟩ q⟩
def tDisp (trs : List (TE × TE)) : TE := fun σ H Q => ∀ p, H p = none -> tPairs trs σ (upd H p (.dK [])) fun ps H2 => H2 p = some (.dK []) /\ ∃ kvs : List (Key × V), ps = kvs.map (fun kv => (kV kv.1, kv.2)) /\ kvs.length <= 15 /\ Q (.ref p) (upd H2 p (.dK (mergeK [] kvs)))
theorem pe_disp {X : Cx} {pos : Pos} {keys : List (Option Expr)} {values : List Expr} {trs : List (TE × TE)} (h : PPs X pos keys values trs) (hall : keys.all (·.isSome) = true) (hl : keys.length = values.length) (h0 : keys ≠ [])
 (h15 : keys.length <= 15) : PE X (.Dict keys values pos) (tDisp trs) := by
 intro pins s σ H Q I q
 have hn := I.hok.fresh (Nat.le_refl s.heap.objs.size)
 have I1 := I.laid (a := s.heap.objs.size) (o := .dK []) (h' := s.heap.push { cls := .type "dict", data := .dict #[] }) (t' := s.toks) (fun _ _ q => Heap.get?_push_of_some _ q) (Nat.le_refl _) (dk_empty s.heap I.big)
 refine wpAny_Dict_walk (knd := mixKind X.prog X.w) hall hl h0 h15 (thn (h pins _ σ _ _ I1 (q _ hn)) fun ws s2 ⟨ps, H2, I2, rel, e, kvs, ep, lk, q2⟩ => ?_)
 subst ep
 obtain ⟨rs, c, rk⟩ := carries_of (P := X.prog) (w := X.w) rel
 obtain ⟨z, hd, vs0, r0, dd⟩ := dk_of I2.hok e
 cases r0
 refine ⟨rs, c, dd, fun h' dd' hs => ⟨.ref s.heap.objs.size, _, ?_, rfl, q2⟩⟩
 have hz : (mergeK [] kvs).length <= sizeLine := by
  have h1 := length_mergeK kvs []
  rw [List.length_nil] at h1
  rw [sizeLine_eq]; omega
 have he : ∃ q, h'.get? s.heap.objs.size = some q := let ⟨q, _, _, hq, _⟩ := dd'; ⟨q, hq⟩
 exact d_write I2 (by rw [e]; exact True.intro) hs he (dk_new hz hd (rk.merge .nil) dd')
structure M1 (X : Cx) (o : Expr) (m : Str) (apos : Pos) (e : Expr) (cpos : Pos) : Prop where
 base : attributeBase o m X.env (eval o X.env) = eval o X.env
 few : ((backTo cpos (starEach [e] X.env)).all (fun x => !x.1) && (backToKw cpos (keywordEach [] X.env)).all (fun x => x.1.isSome)
  && decide (([e] : List Expr).length + ([] : List Keyword).length + (if ([] : List Keyword).isEmpty then 0 else 1) < 30)) = true
 line : (apos.endLine == cpos.line) = true
 trees : backTo cpos (starEach [e] X.env) = [(false, eval e X.env)]
structure M2 (X : Cx) (o : Expr) (m : Str) (apos : Pos) (e f : Expr) (cpos : Pos) : Prop where
 base : attributeBase o m X.env (eval o X.env) = eval o X.env
 few : ((backTo cpos (starEach [e, f] X.env)).all (fun x => !x.1) && (backToKw cpos (keywordEach [] X.env)).all (fun x => x.1.isSome)
  && decide (([e, f] : List Expr).length + ([] : List Keyword).length + (if ([] : List Keyword).isEmpty then 0 else 1) < 30)) = true
 line : (apos.endLine == cpos.line) = true
 trees : backTo cpos (starEach [e, f] X.env) = [(false, eval e X.env), (false, eval f X.env)]
section
variable {X : Cx} {pins : List (Addr × Obj)} {σ : St} {H : Hp} {s : Shared} {a : Addr} {y d : V} {u r : Value} {o : Option V} {A : Around} {E : Value -> Shared -> Prop}
end
section
variable {X : Cx} {o e f : Expr} {apos cpos : Pos} {td ty tx : TE}
end
section
variable {X : Cx} {pins : List (Addr × Obj)} {σ : St} {H : Hp} {s : Shared} {a : Addr} {kvs : List (Key × V)} {A : Around} {E : Value -> Shared -> Prop}
end
section
variable {X : Cx} {pins : List (Addr × Obj)} {σ : St} {H : Hp} {s : Shared} {a : Addr} {y : V} {u : Value} {A : Around} {E : Value -> Shared -> Prop}
end
theorem intOfSelf_bool {M : Model} {A : Around} {E : Value -> Shared -> Prop} {s : Shared} {b : Bool} {Q : Int -> Shared -> Prop} (h : Q (if b = true then 1 else 0) s) : wpAny M A (Builtin.Int.intOfSelf (.bool b)) Q E s := by
 unfold Builtin.Int.intOfSelf
 exact wpAny_pure h
theorem pyHash_bool {prog : Program} {w : World} {A : Around} {E : Value -> Shared -> Prop} {s : Shared} {b : Bool} {Q : Int -> Shared -> Prop} (h : Q (if b = true then 1 else 0) { s with toks := s.toks + 1 }) : wpAny (model prog w) A (pyHash (.bool b)) Q E s := by
 show wpAny _ _ (pyHashByItsType (.bool b)) _ _ _
 refine PySem.W.pyHash_slot (T := "bool") rfl PySem.F.slot_bool_hash PySem.F.entry_int_hash (PySem.F.args_int_hash_1 _) rfl (.inl rfl) ?_
 unfold Builtin.«int.__hash__» Builtin.Int.intSlot0
 refine wpAny_bind (wpAny_bind ?_)
 show wpAny _ _ (pure (Value.bool b, [])) _ _ _
 refine wpAny_pure (wpAny_bind (intOfSelf_bool (wpAny_pure ?_)))
 cases b with
 | true => exact wpAny_bind (wpAny_mkInt (wpAny_pure ⟨_, _, rfl, h⟩))
 | false => exact wpAny_bind (wpAny_mkInt (wpAny_pure ⟨_, _, rfl, h⟩))
def boolIs : Bool -> Value -> Bool
 | b, .bool c => b == c
 | _, _ => false
theorem boolIs_shape {b : Bool} {v : Value} (h : boolIs b v = true) : v = .bool b := by
 unfold boolIs at h
 split at h
 ·rw [beq_iff_eq.mp h]
 ·cases h
def boolKind (prog : Program) (w : World) : PySem.KeyKind prog w Bool where
 is := boolIs
 hash := fun b => if b = true then 1 else 0
 inj := fun v a b ha hb => by
  have e1 := boolIs_shape ha
  have e2 := boolIs_shape hb
  rw [e1] at e2
  injection e2
 byValue := fun k v h => by rw [boolIs_shape h]; rfl
 pyHash := fun hv h => by rw [boolIs_shape hv]; exact pyHash_bool h
 eqBool := fun {A E s a b u v Q} hu hv h => by
  rw [boolIs_shape hu, boolIs_shape hv]
  refine SeqAt.EqAt.bool_bool a b _ _ _ _ ?_
  have e : (a == b) = decide (a = b) := by cases a <;> cases b <;> rfl
  rw [e]; exact h
 «strs» := fun k x t v h => by
  have := boolIs_shape h
  cases this
section
variable {P : Program} {w : World} {H : Hp} {h : Heap} {a : Addr}
end
section
variable {X : Cx} {o i e value : Expr} {pos pos' tpos : Pos} {td ty tv : TE}
end
section
variable {X : Cx} {P : Program} {w : World} {o i : Expr} {pos : Pos} {td ty : TE}
end
section
variable {X : Cx} {K : PySem.W.Frag} {o : Expr} {to : TE} {apos cpos : Pos}
end
section
variable {X : Cx}
end
def TyS (K : PySem.W.Frag) (H : Hp) (x : V) (t : String) : Prop := match x with
 | .int _ => t = "int"
 | .bl _ => t = "bool"
 | .ref a => (t = "tuple" /\ ∃ xs, SqT K H a xs) \/ (t = "list" /\ ∃ xs, SqL K H a xs)
 | _ => False
def isTy (t T : String) : Bool := t == T || (t == "bool" && T == "int")
section
variable {X : Cx} {K : PySem.W.Frag}
theorem tyS_kit {pins : List (Addr × Obj)} {σ : St} {H : Hp} {s : Shared} {x : V} {u : Value} {t : String} (I : Inv X pins σ H s) (rx : RelV x u) (h : TyS X.K H x t) :
 (t = "int" \/ t = "bool" \/ t = "tuple" \/ t = "list") /\ u ≠ Value.builtin "__main__.__loader__#opaque" /\ ∃ Hh : Heap -> Prop, PySem.W.KitX X.K u (.type t) Hh /\ Hh s.heap := by
 cases x with
 | int i =>
  obtain ⟨k, rfl⟩ := (show ∃ t, u = Value.int i t from rx)
  cases (show t = "int" from h)
  exact ⟨.inl rfl, (fun z => nomatch z), _, PySem.W.kitx_int, True.intro⟩
 | bl b =>
  cases (show u = Value.bool b from rx)
  cases (show t = "bool" from h)
  exact ⟨.inr (.inl rfl), (fun z => nomatch z), _, PySem.W.kitx_bool, True.intro⟩
 | ref a =>
  cases (show u = Value.ref a from rx)
  rcases h with ⟨rfl, xs, hq⟩ | ⟨rfl, xs, hq⟩
  ·obtain ⟨its, rv, p, _⟩ := I.tuple hq
   obtain ⟨o, h1, h2, _⟩ := p
   exact ⟨.inr (.inr (.inl rfl)), (fun z => nomatch z), _, PySem.W.kitx_tuple, ⟨o, h1, h2⟩⟩
  ·obtain ⟨its, rv, p, _⟩ := I.list hq
   obtain ⟨o, n, h1, h2, _⟩ := p
   exact ⟨.inr (.inr (.inr rfl)), (fun z => nomatch z), _, PySem.W.kitx_list, ⟨o, h1, h2⟩⟩
 | _ => exact False.elim h
end
def shortI (i : Int) : Bool := decide (i.natAbs.log2 < 1900)
section
variable {X : Cx} {pins : List (Addr × Obj)} {σ : St} {H : Hp} {s : Shared}
end
section
variable {X : Cx} {K : PySem.W.Frag}
end
open AutoSeq1 (wpAny_loadPart')
section
variable {prog : Program} {w : World} {A : Around} {E : Value -> Shared -> Prop} {s : Shared}
end
section
variable {X : Cx}
end
structure Feed (H : Hp) (t : Addr) : Prop where
 at_ : ∃ a b k c : Int, 0 <= a /\ H t = some (.lst [.int a, .int b, .int k, .int c])
theorem xor_half (a b : Nat) : (a ^^^ b) / 2 = a / 2 ^^^ b / 2 := by
 have := Nat.xor_div_two_pow (a := a) (b := b) (n := 1)
 simpa using this
theorem low3 (a b : Nat) : (a &&& b) % 2 = a % 2 * (b % 2) /\ (a ^^^ b) % 2 = (a % 2 + b % 2) % 2 /\ (a ||| b) % 2 = a % 2 + b % 2 - a % 2 * (b % 2) := by
 have h1 := Nat.and_mod_two_pow (a := a) (b := b) (n := 1)
 have h2 := Nat.xor_mod_two_pow (a := a) (b := b) (n := 1)
 have h3 := Nat.or_mod_two_pow (a := a) (b := b) (n := 1)
 rw [Nat.pow_one] at h1 h2 h3
 rw [h1, h2, h3]
 have ha : a % 2 = 0 \/ a % 2 = 1 := by omega
 have hb : b % 2 = 0 \/ b % 2 = 1 := by omega
 rcases ha with ha | ha <;> rcases hb with hb | hb <;> rw [ha, hb] <;> decide
def iL (xs : List Nat) : List V := xs.map fun i => V.int (i : Nat)
def iD (xs : List Nat) : List Dv := xs.map fun i => Dv.int (i : Nat)
theorem iL_len (xs : List Nat) : (iL xs).length = xs.length := by unfold iL; rw [List.length_map]
theorem iL_app (xs ys : List Nat) : iL (xs ++ ys) = iL xs ++ iL ys := by unfold iL; rw [List.map_append]
theorem iL_at {xs : List Nat} {i : Nat} {v : V} (h : (iL xs)[i]? = some v) : ∃ x, xs[i]? = some x /\ x ∈ xs /\ v = .int (x : Nat) := by
 unfold iL at h
 rw [List.getElem?_map] at h
 cases e : xs[i]? with
 | none => rw [e] at h; cases h
 | some x => rw [e] at h; exact ⟨x, rfl, List.mem_of_getElem? e, (Option.some.inj h).symm⟩
theorem reps_iD {K : PySem.W.Frag} {H : Hp} : ∀ xs : List Nat, Reps K H (iD xs) (iL xs)
 | [] => by unfold iD iL Reps; rfl
 | x :: xs => by
  show Reps K H (Dv.int (x : Nat) :: iD xs) (V.int (x : Nat) :: iL xs)
  unfold Reps
  exact ⟨_, _, rfl, by unfold Rep; rfl, reps_iD xs⟩
theorem depDs_iD : ∀ xs : List Nat, depDs (iD xs) = 0
 | [] => by unfold iD; simp [depDs]
 | x :: xs => by
  show depDs (Dv.int (x : Nat) :: iD xs) = _
  unfold depDs
  rw [depDs_iD xs]
  unfold depD
  rfl
theorem same_put {H0 H : Hp} {t : Addr} {o : HO} (s : Same H0 H) (ht : H0 t = none) : Same H0 (upd H t o) := fun b u e => by
 rw [upd_ne (ne_of_none e ht)]; exact s b u e
theorem Same.sqT {K : PySem.W.Frag} {H H' : Hp} {a : Addr} {xs : List V} (e : Same H H') (h : SqT K H a xs) : SqT K H' a xs := sqT_stay h (fun o k => e _ _ k)
theorem Same.sqL {K : PySem.W.Frag} {H H' : Hp} {a : Addr} {xs : List V} (e : Same H H') (h : SqL K H a xs) : SqL K H' a xs := sqL_stay h (fun o k => e _ _ k)
def sumTo (f : Nat -> Int) : Nat -> Int
 | 0 => 0
 | n + 1 => sumTo f n + f n
theorem sumTo_congr {f g : Nat -> Int} : ∀ {n : Nat}, (∀ j, j < n -> f j = g j) -> sumTo f n = sumTo g n
 | 0, _ => rfl
 | n + 1, h => by
  show sumTo f n + f n = sumTo g n + g n
  rw [sumTo_congr fun j hj => h j (Nat.lt_succ_of_lt hj), h n (Nat.lt_succ_self n)]
theorem sumTo_plus (f g : Nat -> Int) : ∀ n, sumTo f n + sumTo g n = sumTo (fun j => f j + g j) n
 | 0 => rfl
 | n + 1 => by
  show sumTo f n + f n + (sumTo g n + g n) = sumTo (fun j => f j + g j) n + (f n + g n)
  rw [<- sumTo_plus f g n]; omega
theorem sumTo_minus (f g : Nat -> Int) : ∀ n, sumTo f n - sumTo g n = sumTo (fun j => f j - g j) n
 | 0 => rfl
 | n + 1 => by
  show sumTo f n + f n - (sumTo g n + g n) = sumTo (fun j => f j - g j) n + (f n - g n)
  rw [<- sumTo_minus f g n]; omega
theorem sumTo_mul (c : Int) (f : Nat -> Int) : ∀ n, c * sumTo f n = sumTo (fun j => c * f j) n
 | 0 => by show c * 0 = 0; omega
 | n + 1 => by
  show c * (sumTo f n + f n) = sumTo (fun j => c * f j) n + c * f n
  rw [<- sumTo_mul c f n, Int.mul_add]
theorem sumTo_mulr (c : Int) (f : Nat -> Int) (n : Nat) : sumTo f n * c = sumTo (fun j => f j * c) n := by
 rw [Int.mul_comm, sumTo_mul]
 exact sumTo_congr fun j _ => Int.mul_comm _ _
theorem sumTo_zero : ∀ n, sumTo (fun _ => 0) n = 0
 | 0 => rfl
 | n + 1 => by show sumTo (fun _ => 0) n + 0 = 0; rw [sumTo_zero n]; rfl
theorem sumTo_swap (f : Nat -> Nat -> Int) (m : Nat) : ∀ n, sumTo (fun i => sumTo (fun j => f i j) m) n = sumTo (fun j => sumTo (fun i => f i j) n) m
 | 0 => by show (0 : Int) = sumTo (fun _ => 0) m; rw [sumTo_zero]
 | n + 1 => by
  show sumTo (fun i => sumTo (fun j => f i j) m) n + sumTo (fun j => f n j) m = sumTo (fun j => sumTo (fun i => f i j) n + f n j) m
  rw [sumTo_swap f m n, sumTo_plus]
theorem sumTo_pick (g : Nat -> Int) (x : Nat) : ∀ n, sumTo (fun y => if x = y then g y else 0) n = if x < n then g x else 0
 | 0 => by simp [sumTo]
 | n + 1 => by
  show sumTo (fun y => if x = y then g y else 0) n + (if x = n then g n else 0) = _
  rw [sumTo_pick g x n]
  by_cases h : x = n
  ·subst h; rw [if_neg (by omega), if_pos rfl, if_pos (by omega)]; omega
  ·by_cases h2 : x < n
   ·rw [if_pos h2, if_neg h, if_pos (by omega)]; omega
   ·rw [if_neg h2, if_neg h, if_neg (by omega)]; rfl
theorem sumTo_two (f : Nat -> Int) : ∀ m, sumTo f (2 * m) = sumTo (fun j => f (2 * j) + f (2 * j + 1)) m
 | 0 => rfl
 | m + 1 => by
  show sumTo f (2 * m) + f (2 * m) + f (2 * m + 1) = sumTo (fun j => f (2 * j) + f (2 * j + 1)) m + (f (2 * m) + f (2 * m + 1))
  rw [sumTo_two f m]; omega
def chi : Nat -> Nat -> Nat -> Int
 | 0, _, _ => 1
 | n + 1, a, b => (if a % 2 = 1 /\ b % 2 = 1 then -1 else 1) * chi n (a / 2) (b / 2)
theorem chi_xor : ∀ n a b c, chi n a (b ^^^ c) = chi n a b * chi n a c
 | 0, _, _, _ => rfl
 | n + 1, a, b, c => by
  show _ * chi n (a / 2) ((b ^^^ c) / 2) = (_ * chi n (a / 2) (b / 2)) * (_ * chi n (a / 2) (c / 2))
  rw [xor_half, chi_xor n]
  generalize chi n (a / 2) (b / 2) = x
  generalize chi n (a / 2) (c / 2) = y
  have e := (low3 b c).2.1
  have ha : a % 2 = 0 \/ a % 2 = 1 := by omega
  have hb : b % 2 = 0 \/ b % 2 = 1 := by omega
  have hc : c % 2 = 0 \/ c % 2 = 1 := by omega
  rw [e]
  rcases ha with ha | ha <;> rcases hb with hb | hb <;> rcases hc with hc | hc <;> rw [ha, hb, hc] <;> simp [Int.mul_neg, Int.neg_mul]
theorem chi_one : ∀ n a b, chi n a b = 1 \/ chi n a b = -1
 | 0, _, _ => .inl rfl
 | n + 1, a, b => by
  show _ * chi n (a / 2) (b / 2) = 1 \/ _ * chi n (a / 2) (b / 2) = -1
  rcases chi_one n (a / 2) (b / 2) with h | h <;> rw [h] <;> by_cases g : a % 2 = 1 /\ b % 2 = 1 <;> simp [g]
theorem chi_sq (n a b : Nat) : chi n a b * chi n a b = 1 := by
 rcases chi_one n a b with h | h <;> rw [h] <;> rfl
theorem chi_zero : ∀ n a, chi n a 0 = 1
 | 0, _ => rfl
 | n + 1, a => by
  show (if a % 2 = 1 /\ 0 % 2 = 1 then -1 else 1) * chi n (a / 2) (0 / 2) = 1
  rw [if_neg (by omega), Nat.zero_div, chi_zero n]; rfl
theorem chi_sum : ∀ n b, b < 2 ^ n -> sumTo (fun a => chi n a b) (2 ^ n) = if b = 0 then ((2 ^ n : Nat) : Int) else 0
 | 0, b, h => by
  have : b = 0 := by simpa using h
  subst this; rfl
 | n + 1, b, h => by
  rw [Nat.pow_succ, Nat.mul_comm, sumTo_two]
  have e : ∀ j, chi (n + 1) (2 * j) b + chi (n + 1) (2 * j + 1) b = (if b % 2 = 1 then 0 else 2) * chi n j (b / 2) := fun j => by
   show (if 2 * j % 2 = 1 /\ b % 2 = 1 then -1 else 1) * chi n (2 * j / 2) (b / 2) + (if (2 * j + 1) % 2 = 1 /\ b % 2 = 1 then -1 else 1) * chi n ((2 * j + 1) / 2) (b / 2) = _
   rw [show 2 * j / 2 = j by omega, show (2 * j + 1) / 2 = j by omega, if_neg (by omega)]
   by_cases hb : b % 2 = 1
   ·rw [if_pos ⟨by omega, hb⟩, if_pos hb]; omega
   ·rw [if_neg (fun z => hb z.2), if_neg hb]; omega
  rw [sumTo_congr (g := fun j => (if b % 2 = 1 then 0 else 2) * chi n j (b / 2)) fun j _ => e j, <- sumTo_mul, chi_sum n (b / 2) (by rw [Nat.pow_succ] at h; omega)]
  by_cases hb : b % 2 = 1
  ·rw [if_pos hb, Int.zero_mul, if_neg (by omega)]
  ·rw [if_neg hb]
   by_cases h0 : b = 0
   ·subst h0; simp [Int.natCast_mul]
   ·rw [if_neg (by omega), if_neg h0]; rfl
theorem xor_eq_zero {a b : Nat} : a ^^^ b = 0 ↔ a = b := by
 constructor
 ·intro h
  have := congrArg (fun z => z ^^^ b) h
  simpa [Nat.xor_assoc] using this
 ·intro h; subst h; exact Nat.xor_self a
def wt (n : Nat) (v : Nat -> Int) (s : Nat) : Int := sumTo (fun p => chi n s p * v p) (2 ^ n)
theorem wt_mul (n : Nat) (a b : Nat -> Int) : sumTo (fun s => wt n a s * wt n b s) (2 ^ n) = ((2 ^ n : Nat) : Int) * sumTo (fun x => a x * b x) (2 ^ n) := by
 have e1 : ∀ s, wt n a s * wt n b s = sumTo (fun x => sumTo (fun y => (a x * b y) * chi n s (x ^^^ y)) (2 ^ n)) (2 ^ n) := fun s => by
  unfold wt
  rw [sumTo_mulr]
  refine sumTo_congr fun x _ => ?_
  rw [sumTo_mul]
  refine sumTo_congr fun y _ => ?_
  rw [chi_xor]
  ac_rfl
 rw [sumTo_congr fun s _ => e1 s, sumTo_swap, sumTo_mul]
 refine sumTo_congr fun x hx => ?_
 rw [sumTo_swap]
 have e2 : ∀ y, y < 2 ^ n -> sumTo (fun s => a x * b y * chi n s (x ^^^ y)) (2 ^ n) = if x = y then ((2 ^ n : Nat) : Int) * (a x * b y) else 0 := fun y hy => by
  rw [<- sumTo_mul, chi_sum n _ (Nat.xor_lt_two_pow hx hy)]
  by_cases h : x = y
  ·rw [if_pos (xor_eq_zero.mpr h), if_pos h, Int.mul_comm]
  ·rw [if_neg (fun z => h (xor_eq_zero.mp z)), if_neg h, Int.mul_zero]
 rw [sumTo_congr e2, sumTo_pick (fun y => ((2 ^ n : Nat) : Int) * (a x * b y)), if_pos hx]
theorem sumTo_xor : ∀ (n : Nat) (f : Nat -> Int) (t : Nat), t < 2 ^ n -> sumTo (fun x => f (x ^^^ t)) (2 ^ n) = sumTo f (2 ^ n)
 | 0, f, t, h => by
  have : t = 0 := by simpa using h
  subst this
  exact sumTo_congr fun j _ => by rw [Nat.xor_zero]
 | n + 1, f, t, h => by
  rw [Nat.pow_succ, Nat.mul_comm, sumTo_two, sumTo_two]
  have ih := sumTo_xor n (fun j => f (2 * j) + f (2 * j + 1)) (t / 2) (by rw [Nat.pow_succ] at h; omega)
  rw [<- ih]
  refine sumTo_congr fun j _ => ?_
  have k1 := xor_half (2 * j) t
  have k2 := xor_half (2 * j + 1) t
  have l1 := (low3 (2 * j) t).2.1
  have l2 := (low3 (2 * j + 1) t).2.1
  rw [show 2 * j / 2 = j by omega] at k1
  rw [show (2 * j + 1) / 2 = j by omega] at k2
  have ht : t % 2 = 0 \/ t % 2 = 1 := by omega
  rcases ht with ht | ht
  ·have e1 : 2 * j ^^^ t = 2 * (j ^^^ t / 2) := by omega
   have e2 : 2 * j + 1 ^^^ t = 2 * (j ^^^ t / 2) + 1 := by omega
   rw [e1, e2]
  ·have e1 : 2 * j ^^^ t = 2 * (j ^^^ t / 2) + 1 := by omega
   have e2 : 2 * j + 1 ^^^ t = 2 * (j ^^^ t / 2) := by omega
   rw [e1, e2, Int.add_comm]
theorem wt_shift (n : Nat) (v : Nat -> Int) (s t : Nat) (ht : t < 2 ^ n) : chi n s t * wt n v s = wt n (fun x => v (x ^^^ t)) s := by
 unfold wt
 rw [<- sumTo_xor n (fun p => chi n s p * v p) t ht, sumTo_mul]
 refine sumTo_congr fun x _ => ?_
 rw [chi_xor, <- Int.mul_assoc, Int.mul_comm (chi n s x), <- Int.mul_assoc, chi_sq, Int.one_mul]
theorem wt_auto (n : Nat) (v : Nat -> Int) (t : Nat) (ht : t < 2 ^ n) : sumTo (fun s => chi n s t * (wt n v s * wt n v s)) (2 ^ n) = ((2 ^ n : Nat) : Int) * sumTo (fun x => v (x ^^^ t) * v x) (2 ^ n) := by
 rw [<- wt_mul n (fun x => v (x ^^^ t)) v]
 refine sumTo_congr fun s _ => ?_
 rw [<- Int.mul_assoc, wt_shift n v s t ht]
def hs (v : Nat -> Int) (s k : Nat) : Int := sumTo (fun j => chi s (k % 2 ^ s) j * v (k / 2 ^ s * 2 ^ s + j)) (2 ^ s)
def manyF : Nat -> Nat -> Nat
 | 0, _ => 0
 | f + 1, x => x % 2 + manyF f (x / 2)
@[irreducible] def many (x : Nat) : Nat := manyF 64 x
def valB (b : Bool) : Int := if b = true then -1 else 1
def valF (bs : List Bool) (p : Nat) : Int := valB (bs.getD p false)
def termD (q : Nat × Int) : Dv := .tup [.int q.1, .int q.2]
structure SumAt (K : PySem.W.Frag) (H : Hp) (v : V) (m : Nat) (ts : List (Nat × Int)) : Prop where
 at_ : ∃ (a b : Addr) (vs : List V), v = .ref a /\ SqT K H a [.int m, .ref b] /\ SqT K H b vs /\ Reps K H (ts.map termD) vs
def gB (bs : List Bool) (i : Nat) : Bool := bs.getD i false
def matF (bs : List Bool) (s i : Nat) : Bool := gB bs (i ^^^ s) != gB bs i
def matL (bs : List Bool) (s n : Nat) : List Nat := (List.range n).filter (matF bs s)
theorem matL_succ (bs : List Bool) (s n : Nat) : matL bs s (n + 1) = matL bs s n ++ (if matF bs s n = true then [n] else []) := by
 unfold matL
 rw [List.range_succ, List.filter_append]
 congr 1
 by_cases h : matF bs s n = true
 ·rw [if_pos h, List.filter_cons_of_pos h]; rfl
 ·rw [if_neg h, List.filter_cons_of_neg h]; rfl
theorem gB_get {bs : List Bool} {i : Nat} (h : i < bs.length) : gB bs i = bs[i] := by unfold gB; rw [List.getD_eq_getElem?_getD, List.getElem?_eq_getElem h]; rfl
theorem gB_at {bs : List Bool} {i : Nat} (h : i < bs.length) : atI (bs.map V.bl) ((i : Nat) : Int) = some (.bl (gB bs i)) := by
 rw [gB_get h]
 exact atI_of rfl (by rw [List.getElem?_map, List.getElem?_eq_getElem h]; rfl)
theorem val_prod (bs : List Bool) (s i : Nat) : valF bs (i ^^^ s) * valF bs i = 1 - 2 * (if matF bs s i = true then 1 else 0) := by
 unfold valF matF gB valB
 cases bs.getD (i ^^^ s) false <;> cases bs.getD i false <;> decide
theorem mat_sum (bs : List Bool) (s : Nat) : ∀ n, sumTo (fun i => valF bs (i ^^^ s) * valF bs i) n = (n : Int) - 2 * ((matL bs s n).length : Int)
 | 0 => rfl
 | n + 1 => by
  show sumTo _ n + valF bs (n ^^^ s) * valF bs n = _
  rw [mat_sum bs s n, val_prod, matL_succ, List.length_append]
  by_cases h : matF bs s n = true
  ·rw [if_pos h, if_pos h, List.length_singleton]; omega
  ·rw [if_neg h, if_neg h, List.length_nil]; omega
theorem mat_zero (bs : List Bool) : ∀ n, matL bs 0 n = []
 | 0 => rfl
 | n + 1 => by
  rw [matL_succ, mat_zero bs n, if_neg]
  ·rfl
  ·unfold matF; rw [Nat.xor_zero]; simp
def oddSq (m : Nat) (g : Nat -> Int) (t : Nat) : Int := sumTo (fun s => if chi m s t = -1 then g s * g s else 0) (2 ^ m)
theorem odd_squares (m : Nat) (bs : List Bool) (t : Nat) (ht : t < 2 ^ m) : oddSq m (wt m (valF bs)) t = ((2 ^ m : Nat) : Int) * ((matL bs t (2 ^ m)).length : Int) := by
 have a1 := wt_auto m (valF bs) t ht
 have a0 := wt_auto m (valF bs) 0 (Nat.two_pow_pos m)
 rw [mat_sum] at a1 a0
 rw [mat_zero] at a0
 have e : ∀ s, (if chi m s t = -1 then wt m (valF bs) s * wt m (valF bs) s else 0) * 2 = chi m s 0 * (wt m (valF bs) s * wt m (valF bs) s) - chi m s t * (wt m (valF bs) s * wt m (valF bs) s) := fun s => by
  rw [chi_zero]
  rcases chi_one m s t with h | h
  ·rw [h, if_neg (by decide)]; omega
  ·rw [h, if_pos rfl]; omega
 have k : oddSq m (wt m (valF bs)) t * 2 = ((2 ^ m : Nat) : Int) * (((2 ^ m : Nat) : Int) - 2 * (([] : List Nat).length : Int)) - ((2 ^ m : Nat) : Int) * (((2 ^ m : Nat) : Int) - 2 * ((matL bs t (2 ^ m)).length : Int)) := by
  unfold oddSq
  rw [sumTo_mulr, sumTo_congr fun s _ => e s, <- sumTo_minus, a0, a1]
 have z : ((([] : List Nat).length : Nat) : Int) = 0 := rfl
 rw [z, Int.mul_zero, Int.sub_zero, Int.mul_sub] at k
 have k2 : ((2 ^ m : Nat) : Int) * (2 * ((matL bs t (2 ^ m)).length : Int)) = 2 * (((2 ^ m : Nat) : Int) * ((matL bs t (2 ^ m)).length : Int)) := by ac_rfl
 rw [k2] at k
 generalize ((2 ^ m : Nat) : Int) * ((matL bs t (2 ^ m)).length : Int) = y at *
 generalize ((2 ^ m : Nat) : Int) * ((2 ^ m : Nat) : Int) = u at *
 generalize oddSq m (wt m (valF bs)) t = x at *
 omega
theorem sumTo_range {f : Nat -> Int} {B : Int} : ∀ {n : Nat}, (∀ j, j < n -> 0 <= f j /\ f j <= B) -> 0 <= sumTo f n /\ sumTo f n <= n * B
 | 0, _ => by show (0 : Int) <= 0 /\ (0 : Int) <= ((0 : Nat) : Int) * B; simp
 | n + 1, h => by
  have i := sumTo_range fun j hj => h j (Nat.lt_succ_of_lt hj)
  have k := h n (Nat.lt_succ_self n)
  show 0 <= sumTo f n + f n /\ sumTo f n + f n <= ((n + 1 : Nat) : Int) * B
  rw [Int.natCast_add, Int.add_mul]
  have : ((1 : Nat) : Int) * B = B := by simp
  omega
theorem Feed.lst {H : Hp} {t : Addr} (F : Feed H t) : ∃ zs, H t = some (.lst zs) := by
 obtain ⟨a, b, k, c, _, h⟩ := F.at_
 exact ⟨_, h⟩
theorem chi_bit : ∀ (m i s : Nat), i < m -> (chi m s (2 ^ i) = -1 ↔ s.testBit i = true)
 | 0, _, _, h => by omega
 | m + 1, 0, s, _ => by
  show (if s % 2 = 1 /\ 2 ^ 0 % 2 = 1 then -1 else 1) * chi m (s / 2) (2 ^ 0 / 2) = -1 ↔ _
  rw [show (2 : Nat) ^ 0 / 2 = 0 from rfl, chi_zero, Int.mul_one, Nat.testBit_zero, decide_eq_true_eq]
  by_cases h : s % 2 = 1
  ·rw [if_pos ⟨h, rfl⟩]; exact ⟨fun _ => h, fun _ => rfl⟩
  ·rw [if_neg (fun z => h z.1)]; exact ⟨fun z => by omega, fun z => absurd z h⟩
 | m + 1, i + 1, s, h => by
  show (if s % 2 = 1 /\ 2 ^ (i + 1) % 2 = 1 then -1 else 1) * chi m (s / 2) (2 ^ (i + 1) / 2) = -1 ↔ _
  rw [if_neg (fun z => by have := z.2; rw [Nat.pow_succ] at this; omega), Int.one_mul, Nat.pow_succ, Nat.mul_div_cancel _ (by decide), Nat.testBit_succ]
  exact chi_bit m i (s / 2) (by omega)
theorem sumTo_pos {f : Nat -> Int} : ∀ {n : Nat}, (∀ j, j < n -> 0 <= f j) -> (0 < sumTo f n ↔ ∃ j, j < n /\ 0 < f j)
 | 0, _ => ⟨fun z => absurd z (by show ¬ (0 : Int) < 0; omega), fun ⟨j, h, _⟩ => by omega⟩
 | n + 1, h => by
  have i := sumTo_pos fun j hj => h j (Nat.lt_succ_of_lt hj)
  have z := sumTo_range (f := fun j => -(-(f j))) (n := n) (B := sumTo f n) 
  have nn : 0 <= sumTo f n := by
   by_cases c : 0 < sumTo f n
   ·omega
   ·have : ∀ k, k <= n -> 0 <= sumTo f k := fun k => by
     induction k with
     | zero => intro _; exact Int.le_refl _
     | succ k ih =>
      intro hk
      have := ih (by omega)
      have := h k (by omega)
      show 0 <= sumTo f k + f k
      omega
    exact this n (Nat.le_refl _)
  have fn := h n (Nat.lt_succ_self n)
  show 0 < sumTo f n + f n ↔ _
  constructor
  ·intro hh
   by_cases c : 0 < f n
   ·exact ⟨n, Nat.lt_succ_self n, c⟩
   ·obtain ⟨j, hj, hp⟩ := i.mp (by omega)
    exact ⟨j, by omega, hp⟩
  ·rintro ⟨j, hj, hp⟩
   by_cases e : j = n
   ·subst e; omega
   ·have := i.mpr ⟨j, by omega, hp⟩
    omega
theorem sq_nonneg (a : Int) : 0 <= a * a := by
 rw [show a * a = ((a.natAbs * a.natAbs : Nat) : Int) by rw [Int.natCast_mul, Int.natAbs_mul_self' a]]
 omega
theorem sq_pos {a : Int} : 0 < a * a ↔ a ≠ 0 := by
 have := sq_nonneg a
 constructor
 ·intro h z; subst z; simp at h
 ·intro h
  have : a * a ≠ 0 := Int.mul_ne_zero h h
  omega
def cntS (bs : List Bool) (m i : Nat) : Nat := (matL bs (2 ^ i) (2 ^ m)).length
theorem cnt_pos {m i : Nat} (bs : List Bool) (h : i < m) : 0 < cntS bs m i ↔ ∃ s, s < 2 ^ m /\ wt m (valF bs) s ≠ 0 /\ s.testBit i = true := by
 have o := odd_squares m bs (2 ^ i) (Nat.pow_lt_pow_right (by decide) h)
 have p := sumTo_pos (f := fun s => if chi m s (2 ^ i) = -1 then wt m (valF bs) s * wt m (valF bs) s else 0) (n := 2 ^ m) fun j _ => by
  show 0 <= (if chi m j (2 ^ i) = -1 then wt m (valF bs) j * wt m (valF bs) j else 0)
  split
  ·exact sq_nonneg _
  ·exact Int.le_refl _
 have hM : 0 < ((2 ^ m : Nat) : Int) := by have := Nat.two_pow_pos m; omega
 have e : 0 < cntS bs m i ↔ 0 < oddSq m (wt m (valF bs)) (2 ^ i) := by
  rw [o]
  unfold cntS
  constructor
  ·intro z; exact Int.mul_pos hM (by omega)
  ·intro z
   rcases Nat.eq_zero_or_pos (matL bs (2 ^ i) (2 ^ m)).length with h0 | h0
   ·rw [h0] at z; simp at z
   ·exact h0
 rw [e]
 unfold oddSq
 rw [p]
 constructor
 ·rintro ⟨s, hs, hp⟩
  split at hp
  ·rename_i hc
   exact ⟨s, hs, sq_pos.mp hp, (chi_bit m i s h).mp hc⟩
  ·omega
 ·rintro ⟨s, hs, hw, hb⟩
  refine ⟨s, hs, ?_⟩
  rw [if_pos ((chi_bit m i s h).mpr hb)]
  exact sq_pos.mpr hw
section
variable {X : Cx} {K : PySem.W.Frag}
end
def newL (H : Hp) (Q : VK) (xs : List V) : Prop := ∀ p H', H p = none -> Same H H' -> H' p = some (.lst xs) -> Q (.ref p) H'
theorem newL_mono {H : Hp} {Q Q' : VK} {xs : List V} (h : ∀ v H, Q v H -> Q' v H) (q : newL H Q xs) : newL H Q' xs := fun p H' a b c => h _ _ (q p H' a b c)
theorem bl_list (f : Nat -> Bool) (n : Nat) : ((List.range (n + 1)).map f).map V.bl = ((List.range n).map f).map V.bl ++ [V.bl (f n)] := by
 rw [List.range_succ, List.map_append, List.map_append]; rfl
theorem em_dget {td ty : TE} (h1 : EMono td) (h2 : EMono ty) : EMono (tDGet td ty) := fun σ H Q Q' h q => h1 _ _ _ _ (fun _ _ q => h2 _ _ _ _ (fun _ _ ⟨a, v, e, g, q⟩ => ⟨a, v, e, g, h _ _ q⟩) q) q
theorem sm_dput {td ty tv : TE} (h1 : EMono td) (h2 : EMono ty) (h3 : EMono tv) : SMono (sDPut td ty tv) := fun D D' σ H h q => h3 _ _ _ _ (fun _ _ q => h1 _ _ _ _ (fun _ _ q => h2 _ _ _ _ (fun _ _ ⟨a, H4, e, g, q⟩ => ⟨a, H4, e, g, h.nx _ _ q⟩) q) q) q
theorem hu_one {A : Around} (h : A.units + 60 < cLine) : A.units + 1 < cLine := by omega
end L2
namespace HT
open PySem PyProof.Rows
section
variable {prog : Program} {w : World} {A : Around} {E : Value -> Shared -> Prop} {s : Shared}
end
end HT
namespace L2
open PySem PySem.Spec PyProof.Rows
section
variable {X : Cx} {K : PySem.W.Frag} {e sx : Expr} {te ts : TE} {lo hi : Option Expr} {tl th : TO} {pos p2 : Pos}
def mIs (neg : Bool) : R2 := fun x y H Q => match x, y with
 | .bl a, .bl b => Q (.bl (neg ^^ (a == b))) H
 | x, .non => Q (.bl (neg ^^ decide (x = .non))) H
 | _, _ => False
theorem om_is : OpR X (compareOp .Is) (mIs false) := by
 intro pins s σ H x y v u Q I rx ry h
 unfold mIs at h
 split at h
 ·cases rx; cases ry
  rename_i a b
  exact wpAny_of_eq (show compareOp .Is (.bool a) (.bool b) = pure (.bool (a == b)) by cases a <;> cases b <;> rfl) ⟨.bl (a == b), H, I, rfl, by rw [Bool.false_xor] at h; exact h⟩
 ·exact op_isN pins s σ H _ _ v u Q I rx ry ⟨rfl, by rw [Bool.false_xor] at h; exact h⟩
 ·exact h.elim
theorem om_isn : OpR X (compareOp .IsNot) (mIs true) := by
 intro pins s σ H x y v u Q I rx ry h
 unfold mIs at h
 split at h
 ·cases rx; cases ry
  rename_i a b
  exact wpAny_of_eq (show compareOp .IsNot (.bool a) (.bool b) = pure (.bool (!(a == b))) by cases a <;> cases b <;> rfl) ⟨.bl (!(a == b)), H, I, rfl, by rw [Bool.true_xor] at h; exact h⟩
 ·exact op_notN pins s σ H _ _ v u Q I rx ry ⟨rfl, by rw [Bool.true_xor] at h; exact h⟩
 ·exact h.elim
theorem rm_is {neg : Bool} : RMono (mIs neg) := fun x y H Q Q' h q => by
 unfold mIs at *
 split at q
 ·exact h _ _ q
 ·exact h _ _ q
 ·exact q.elim
end
structure GFeed (H : Hp) (t : Addr) (N : Nat) : Prop where
 at_ : ∃ (l : Addr) (i g c : Int) (ns : List Int), 0 <= i /\ 0 <= g /\ 0 <= c /\ c <= N /\ H t = some (.lst [.ref l, .int i, .int g, .int c]) /\ l ≠ t /\ H l = some (.lst (ns.map V.int)) /\ ns.length ≠ 0
theorem GFeed.same {H H' : Hp} {t : Addr} {N : Nat} (F : GFeed H t N) (h : Same H H') : GFeed H' t N := by
 obtain ⟨l, i, g, c, ns, h1, h2, h3, h4, h5, h6, h7, h8⟩ := F.at_
 exact ⟨l, i, g, c, ns, h1, h2, h3, h4, h _ _ h5, h6, h _ _ h7, h8⟩
theorem GFeed.upd {H : Hp} {t p : Addr} {o : HO} {N : Nat} (F : GFeed H t N) (h : H p = none) : GFeed (L2.upd H p o) t N := F.same (Same.upd h)
theorem GFeed.mono {H : Hp} {t : Addr} {N N' : Nat} (F : GFeed H t N) (h : N <= N') : GFeed H t N' := by
 obtain ⟨l, i, g, c, ns, h1, h2, h3, h4, h5⟩ := F.at_
 exact ⟨l, i, g, c, ns, h1, h2, h3, by omega, h5⟩
theorem GFeed.lst {H : Hp} {t : Addr} {N : Nat} (F : GFeed H t N) : ∃ zs, H t = some (.lst zs) := by
 obtain ⟨l, i, g, c, ns, h1, h2, h3, h4, h5, _⟩ := F.at_
 exact ⟨_, h5⟩
theorem GFeed.neT {H : Hp} {t p : Addr} {N : Nat} (F : GFeed H t N) (hp : H p = none) : p ≠ t := fun e => by
 obtain ⟨zs, h⟩ := F.lst
 rw [e, h] at hp; cases hp
theorem GFeed.free {H H' : Hp} {t p : Addr} {N : Nat} (F : GFeed H' t N) (h : Frm t H H') (hp : H' p = none) : H p = none := by
 cases e : H p with
 | none => rfl
 | some o =>
  by_cases hpt : p = t
  ·subst hpt
   obtain ⟨zs, h3⟩ := F.lst
   rw [h3] at hp; cases hp
  ·rw [h p o hpt e] at hp; cases hp
def spGDraw : Sp := fun vs H Q _ => match vs with
 | [.ref t, .int m] => ∃ N, GFeed H t N /\ N <= 1000000000 /\ okDiv m /\ ∀ d H', 0 <= d -> d < m -> GFeed H' t (N + 1) -> (∀ b, b ≠ t -> H' b = H b) -> Q (.int d) H'
 | _ => False
theorem spGDraw_mono : SpMono spGDraw := fun vs H Q Q' E h q => by
 unfold spGDraw at *
 split at q
 ·obtain ⟨N, h1, h2, h3, q⟩ := q; exact ⟨N, h1, h2, h3, fun d H' a b c e => h _ _ (q d H' a b c e)⟩
 ·exact q.elim
def spGFeed (K : PySem.W.Frag) : Sp := fun vs H Q _ => match vs with
 | [.ref a] => ∃ ns : List Int, SqL K H a (ns.map V.int) /\ ∀ t H', H t = none -> Same H H' -> GFeed H' t 0 -> Q (.ref t) H'
 | _ => False
theorem reps_ints {K : PySem.W.Frag} {H : Hp} : ∀ ns : List Int, Reps K H (ns.map Dv.int) (ns.map V.int)
 | [] => reps_nil
 | n :: ns => reps_cons rep_int (reps_ints ns)
theorem depDs_ints : ∀ ns : List Int, depDs (ns.map Dv.int) = 0
 | [] => by rw [List.map_nil]; unfold depDs; rfl
 | n :: ns => by rw [List.map_cons]; unfold depDs; rw [depDs_ints ns]; unfold depD; rfl
def tyD : Dv -> String
 | .non => "NoneType"
 | .bl _ => "bool"
 | .int _ => "int"
 | .str _ => "str"
 | .tup _ => "tuple"
 | .lst _ => "list"
def mIsiD (K : PySem.W.Frag) : List V -> Hp -> VK -> Prop := fun xs H Q => match xs with
 | [x, .ty T] => T ∈ kinds /\ ∃ d, Rep K H d x /\ Q (.bl (isTy (tyD d) T)) H
 | _ => False
theorem kitD {K : PySem.W.Frag} {t T : String} (ht : t = "int" \/ t = "bool" \/ t = "tuple" \/ t = "list") (hT : T ∈ kinds) : PySem.W.kitOne K (.type t) (.type T) = some (isTy t T) := by
 unfold kinds at hT
 simp only [List.mem_cons, List.mem_nil_iff, or_false] at hT
 rcases ht with rfl | rfl | rfl | rfl <;> rcases hT with rfl | rfl | rfl | rfl | rfl | rfl <;> rfl
theorem cm_isiD {X : Cx} : CallR X (.builtin "isinstance") (mIsiD X.K) := by
 intro pins s σ H xs us Q I r q
 match xs, q with
 | [x, .ty T], q =>
  obtain ⟨hT, d, h, q⟩ := q
  have go : ∀ t, TyS X.K H x t -> Q (.bl (isTy t T)) H -> wpAny (model X.prog X.w) X.A (call (.builtin "isinstance") us) (EP X pins σ Q) X.xe s := fun t ht hq => by
   obtain ⟨u, w', rfl, ru, rw'⟩ := vals2 r
   cases rw'
   obtain ⟨ht, hn, Hh, k, hh⟩ := tyS_kit I ru ht
   exact PySem.W.kia_one k I.kIn hh (kitD ht hT) hn fun tk => ⟨.bl (isTy t T), H, I.tok _, rfl, hq⟩
  have hT' := hT
  unfold kinds at hT'
  simp only [List.mem_cons, List.mem_nil_iff, or_false] at hT'
  cases d with
  | non =>
   unfold Rep at h; subst h
   refine cm_isi pins s σ H _ us Q I r ⟨hT, _, rfl, ?_⟩
   have e : (T == "NoneType") = isTy (tyD .non) T := by rcases hT' with rfl | rfl | rfl | rfl | rfl | rfl <;> rfl
   rw [e]; exact q
  | str z =>
   unfold Rep at h; subst h
   refine cm_isi pins s σ H _ us Q I r ⟨hT, _, rfl, ?_⟩
   have e : (T == "str") = isTy (tyD (.str z)) T := by rcases hT' with rfl | rfl | rfl | rfl | rfl | rfl <;> rfl
   rw [e]; exact q
  | bl b => unfold Rep at h; subst h; exact go _ rfl q
  | int i => unfold Rep at h; subst h; exact go _ rfl q
  | tup ds => unfold Rep at h; obtain ⟨a, xs, rfl, hs, _⟩ := h; exact go _ (.inl ⟨rfl, xs, hs⟩) q
  | lst ds => unfold Rep at h; obtain ⟨a, xs, rfl, hs, _⟩ := h; exact go _ (.inr ⟨rfl, xs, hs⟩) q
theorem reps_bl {K : PySem.W.Frag} {H : Hp} : ∀ bs : List Bool, Reps K H (bs.map Dv.bl) (bs.map V.bl)
 | [] => reps_nil
 | b :: bs => reps_cons rep_bl (reps_bl bs)
theorem rep_tup_inv {K : PySem.W.Frag} {H : Hp} {ds : List Dv} {v : V} (h : Rep K H (.tup ds) v) : ∃ a xs, v = .ref a /\ SqT K H a xs /\ Reps K H ds xs := by unfold Rep at h; exact h
theorem rep_tup2 {K : PySem.W.Frag} {H : Hp} {p : Addr} {xs : List V} {ds : List Dv} (h : SqT K H p xs) (r : Reps K H ds xs) : Rep K H (.tup ds) (.ref p) := by unfold Rep; exact ⟨p, xs, rfl, h, r⟩
theorem tupsOnly_app : ∀ ds es : List Dv, tupsOnly (ds ++ es) = (tupsOnly ds && tupsOnly es)
 | [], es => by rw [List.nil_append]; simp [tupsOnly]
 | d :: ds, es => by
  rw [List.cons_append]
  show (tupOnly d && tupsOnly (ds ++ es)) = (tupOnly d && tupsOnly ds && tupsOnly es)
  rw [tupsOnly_app ds es, Bool.and_assoc]
theorem tups_bl : ∀ bs : List Bool, tupsOnly (bs.map Dv.bl) = true
 | [] => rfl
 | b :: bs => by
  show (true && tupsOnly (bs.map Dv.bl)) = true
  rw [tups_bl bs]; rfl
section
variable {X : Cx} {pins : List (Addr × Obj)} {σ : St} {H : Hp} {s : Shared}
theorem KV.get {kvs : List (Key × V)} {vs : List (Key × Value)} (r : KV kvs vs) : ∀ {i : Nat} {q : Key × V}, kvs[i]? = some q -> ∃ v, vs[i]? = some (q.1, v) /\ RelV q.2 v := by
 induction r with
 | nil => intro i q e; simp at e
 | @cons a b l1 l2 h t ih =>
  intro i q e
  cases i with
  | zero =>
   simp at e; subst e
   obtain ⟨b1, b2⟩ := b
   obtain ⟨h1, h2⟩ := h
   exact ⟨b2, by simp; exact h1.symm, h2⟩
  | succ i =>
   obtain ⟨v, h1, h2⟩ := ih (i := i) (q := q) (by simpa using e)
   exact ⟨v, by simpa using h1, h2⟩
end
section
variable {X : Cx} {K : PySem.W.Frag} {tg oe : Expr} {to : TE} {ts : List Expr} {kt : Nat} {tpos apos cpos : Pos}
end
end L2
namespace L2
open PySem PyProof.Rows
section
variable {prog : Program} {w : World} {A : Around} {E : Value -> Shared -> Prop} {s : Shared}
end
section
variable {X : Cx}
end
end L2
namespace L2
open PySem PySem.Spec PyProof.Rows
end L2
namespace L2
open PySem PySem.Spec PyProof.Rows PySem.W
open Att (noObjs noObjs_get fr_all)
def CdO (a : Addr) (q : Str) : HO := .ext fun h => h.CodeRec (.ref a) q
theorem cd_ok {P : Program} {w : World} {H : Hp} {h : Heap} {a : Addr} {q : Str} (r : h.CodeRec (.ref a) q) : ObjOk P w H h a (CdO a q) := by
 refine ⟨r, ?_, fun h1 h2 p k => ?_⟩
 ·obtain ⟨c, o, vs, t, e, g, _⟩ := r
  cases e
  exact ⟨o, g⟩
 ·obtain ⟨c, o, vs, t, e, g, z⟩ := p
  cases e
  exact ⟨_, o, vs, t, rfl, k o g, z⟩
def Lam (Pt : Addr) (pos : Pos) (q : Str) (H : Hp) : Prop :=
 ∃ ps : Array Value, H Pt = some (.tbl ps) /\ TriplesOk ps.toList /\ (codeAmong pos ps.toList = none \/ ∃ c', codeAmong pos ps.toList = some (.ref c') /\ H c' = some (CdO c' q))
def Grow (Pt : Addr) (H H' : Hp) : Prop := ∀ b o, b ≠ Pt -> H b = some o -> H' b = some o
theorem Grow.refl (Pt : Addr) (H : Hp) : Grow Pt H H := fun _ _ _ e => e
theorem Grow.trans {Pt : Addr} {H H1 H2 : Hp} (a : Grow Pt H H1) (b : Grow Pt H1 H2) : Grow Pt H H2 := fun c o n e => b c o n (a c o n e)
theorem Grow.same {Pt : Addr} {H H' : Hp} (h : Same H H') : Grow Pt H H' := fun b o _ e => h b o e
theorem Lam.same {Pt : Addr} {pos : Pos} {q : Str} {H H' : Hp} (l : Lam Pt pos q H) (h : Same H H') : Lam Pt pos q H' := by
 obtain ⟨ps, a, b, c⟩ := l
 refine ⟨ps, h _ _ a, b, ?_⟩
 rcases c with c | ⟨c', c, d⟩
 ·exact .inl c
 ·exact .inr ⟨c', c, h _ _ d⟩
theorem sqT_tab {K : PySem.W.Frag} {Pt : Addr} {ps : Array Value} {H H' : Hp} {a : Addr} {xs : List V} (s : Grow Pt H H') (hz : H Pt = some (.tbl ps)) (h1 : SqT K H a xs) : SqT K H' a xs := by
 rcases h1 with (h1 | ⟨o, h1⟩) | h1
 ·exact .inl (.inl (s a _ (fun q => by rw [q, hz] at h1; cases h1) h1))
 ·exact .inl (.inr ⟨o, s a _ (fun q => by rw [q, hz] at h1; cases h1) h1⟩)
 ·exact .inr h1
theorem sqL_tab {K : PySem.W.Frag} {Pt : Addr} {ps : Array Value} {H H' : Hp} {a : Addr} {xs : List V} (s : Grow Pt H H') (hz : H Pt = some (.tbl ps)) (h1 : SqL K H a xs) : SqL K H' a xs := by
 rcases h1 with (h1 | ⟨o, h1⟩) | h1
 ·exact .inl (.inl (s a _ (fun q => by rw [q, hz] at h1; cases h1) h1))
 ·exact .inl (.inr ⟨o, s a _ (fun q => by rw [q, hz] at h1; cases h1) h1⟩)
 ·exact .inr h1
mutual
theorem Rep.tab {K : PySem.W.Frag} {Pt : Addr} {ps : Array Value} {H H' : Hp} (s : Grow Pt H H') (hz : H Pt = some (.tbl ps)) : ∀ (d : Dv) (v : V), Rep K H d v -> Rep K H' d v
 | .non, v, h => by unfold Rep at *; exact h
 | .bl b, v, h => by unfold Rep at *; exact h
 | .int i, v, h => by unfold Rep at *; exact h
 | .str x, v, h => by unfold Rep at *; exact h
 | .tup ds, v, h => by
  unfold Rep at *
  obtain ⟨a, xs, e, h1, h2⟩ := h
  exact ⟨a, xs, e, sqT_tab s hz h1, Reps.tab s hz ds xs h2⟩
 | .lst ds, v, h => by
  unfold Rep at *
  obtain ⟨a, xs, e, h1, h2⟩ := h
  exact ⟨a, xs, e, sqL_tab s hz h1, Reps.tab s hz ds xs h2⟩
theorem Reps.tab {K : PySem.W.Frag} {Pt : Addr} {ps : Array Value} {H H' : Hp} (s : Grow Pt H H') (hz : H Pt = some (.tbl ps)) : ∀ (ds : List Dv) (xs : List V), Reps K H ds xs -> Reps K H' ds xs
 | [], xs, h => by unfold Reps at *; exact h
 | d :: ds, xs, h => by
  unfold Reps at *
  obtain ⟨x, r, e, h1, h2⟩ := h
  exact ⟨x, r, e, Rep.tab s hz d x h1, Reps.tab s hz ds r h2⟩
end
def BMn (mg : Str -> Option Value) (h : Heap) : Prop := ∃ bm ob, mg "__builtins__" = some (.ref bm) /\ bm ≠ builtinsNs /\ h.get? bm = some ob /\ ob.cls = .type "module" /\ ob.dict = some builtinsNs /\ ob.data = .plain
section
variable {X : Cx} {pins : List (Addr × Obj)} {σ : List (Option V)} {H : Hp} {s : Shared} {h' : Heap}
theorem Inv.grow {Pt c' : Addr} {ps more : Array Value} {t' : Nat} {q : Str} (I : Inv X pins σ H s) (hP : H Pt = some (.tbl ps)) (hx : Heap.ExtBut Pt s.heap h') (hP' : h'.get? Pt = some (tabObj (ps ++ more)))
 (hc : s.heap.objs.size <= c') (hr : h'.CodeRec (.ref c') q) : Inv X pins σ (upd (upd H Pt (.tbl (ps ++ more))) c' (CdO c' q)) { s with heap := h', toks := t' } := by
 have hcn : H c' = none := I.hok.fresh hc
 have hcP : c' ≠ Pt := fun z => by rw [z, hP] at hcn; cases hcn
 have hn : ∀ b, H b = none -> b ≠ Pt := fun b e z => by rw [z, hP] at e; cases e
 have hs : ∀ b u, H b = some u -> b ≠ c' := fun b u e z => by rw [z, hcn] at e; cases e
 have up : ∀ b, b ≠ c' -> b ≠ Pt -> upd (upd H Pt (.tbl (ps ++ more))) c' (CdO c' q) b = H b := fun b n1 n2 => by rw [upd_ne n1, upd_ne n2]
 refine I.un ⟨fun b o e n _ _ => hx b o (hn b n) e, fun b o e n _ _ => ⟨o.slots, hx b o (hn b n) e⟩, fun b o e n _ => ?_, fun b o e _ => ?_, fun b xs e => ?_, fun b o u e => ?_, fun b qs e => ?_⟩ fun b u e => ?_
 ·rw [up b (Nat.ne_of_lt (Nat.lt_of_lt_of_le (Heap.lt_size e) hc)) (hn b n)]; exact n
 ·by_cases z : b = Pt
  ·subst z; exact ⟨_, hP'⟩
  ·exact ⟨o, hx b o z e⟩
 ·have z : b ≠ Pt := fun z => by rw [z, hP] at e; cases e
  rw [up b (hs b _ e) z]; exact e
 ·have z : b ≠ Pt := fun z => by rw [z, hP] at e; cases e
  rw [up b (hs b _ e) z]; exact e
 ·by_cases z : b = Pt
  ·subst z
   rw [hP] at e; cases e
   exact ⟨more, by rw [upd_ne (Ne.symm hcP), upd_same]⟩
  ·exact ⟨#[], by rw [up b (hs b _ e) z, e]; simp⟩
 ·by_cases z : b = c'
  ·subst z
   rw [upd_same] at e; cases e
   exact cd_ok hr
  ·rw [upd_ne z] at e
   by_cases y : b = Pt
   ·subst y
    rw [upd_same] at e; cases e
    exact hP'
   ·rw [upd_ne y] at e
    refine (I.hok b u e).stay (fun c v hc' r => hx c v ?_ r) (fun c r => ?_) fun c xs r => ?_
    ·rcases hc' with k | k
     ·rw [k]; exact y
     ·rintro rfl; rw [hP] at k; cases k
    ·rw [up c (hs c _ r) (fun k => by rw [k, hP] at r; cases r)]; exact r
    ·rw [up c (hs c _ r) (fun k => by rw [k, hP] at r; cases r)]; exact r
end
section
variable {prog : Program} {w : World} {A : Around} {s : Shared}
end
section
variable {X : Cx} {Pt c : Addr} {e : Expr} {te : TE} {p pos kpos lpos np cp sp : Pos} {x qual : Str} {params : Arguments} {scope : Scope} {kd : Nat} {i : Int} {K : PySem.W.Frag}
end
theorem law_callT {P : Program} {w : World} {K : PySem.W.Frag} {mg mb : Str -> Option Value} {CX : CXT} {k : Nat} {fa a : Addr} {fd : FuncData} {x : Str} {sp : Sp} {s₁ : Shared} {vs : List Value} {ns : List Int} {ts : List (Addr × Addr)}
 (KX : K.In s₁.heap) (hns : s₁.heap.Ns mainGlobals mg) (hb : s₁.heap.Ns builtinsNs mb) (hbb : ∀ x : Str, x ≠ "__name__" -> mb x = bootBuiltins x) (hlim : s₁.heap.NoLimit) (hg : s₁.gens = #[])
 (ha : s₁.heap.get? a = some { cls := .type "list", data := .seq vs.toArray }) (hi : IntsAre vs ns) (hl : ns.length <= sizeLine) (hr : Room k callerA) (hbm : BMn mg s₁.heap) (hT : TabsAt ts s₁.heap) (hnt : noTabs K = true)
 (F : ∀ base : Heap, K.In base -> base.Ns mainGlobals mg -> BMn mg base -> FnOk P w K mg base CX k fa fd [x] sp) (hbind : ∀ (s : Shared) (u : Value), BindsTo s fd ⟨[u], []⟩ [(x, u)])
 (hsp : ∀ H : Hp, (∀ q ∈ ts, H q.2 = some (.tbl #[])) -> SqL K H a (ns.map V.int) -> sp [.ref a] H (fun v _ => v = .bl true) fun _ _ _ => False)
 (hCX : ∀ H e s', CX [] H s₁ (fun _ _ _ => False) e s' -> False) :
 codeAny (model P w) callerA (.call (.ref fa) ⟨[.ref a], []⟩) (fun r s' => r = .ok (.ret (.bool true)) /\ OldK s₁.heap s'.heap /\ s'.os = s₁.os /\ AllBare s'.gens) s₁ := by
 have rv := vals_ints hi
 have lenV := hi.length
 have tabK : ∀ b, b ∈ ts.map (·.2) -> K.lookup b = none := fun b hb' => by
  obtain ⟨q, hq, rfl⟩ := List.mem_map.mp hb'
  cases e : K.lookup q.2 with
  | none => rfl
  | some o =>
   have e1 := KX _ _ e
   rw [(hT q hq).2] at e1
   cases e1
   have h2 := List.all_eq_true.mp hnt (q.2, tabObj #[]) (mem_of_lookupK e)
   exact absurd (show false = true from h2) Bool.false_ne_true
 have tabO : ∀ b, b ∈ ts.map (·.2) -> s₁.heap.get? b = some (tabObj #[]) := fun b hb' => by
  obtain ⟨q, hq, rfl⟩ := List.mem_map.mp hb'
  exact (hT q hq).2
 have core : ∀ H : Hp, (∀ b, H b = none \/ (∃ o xs, H b = some (.frz o (.lst xs))) \/ (b ∈ ts.map (·.2) /\ H b = some (.tbl #[]))) -> (∀ q ∈ ts, H q.2 = some (.tbl #[])) -> SqL K H a (ns.map V.int) -> HOk P w H s₁.heap -> (∀ b, H b ≠ none -> b = a \/ b ∈ ts.map (·.2)) -> (H a ≠ none -> K.lookup a = none) ->
  codeAny (model P w) callerA (.call (.ref fa) ⟨[.ref a], []⟩) (fun r s' => r = .ok (.ret (.bool true)) /\ OldK s₁.heap s'.heap /\ s'.os = s₁.os /\ AllBare s'.gens) s₁ := by
  intro H hO hTs hS hok hA hK
  have base_of : ∀ {b : Addr} {o : Obj}, s₁.heap.get? b = some o -> H b = none -> (hidT s₁.heap H).get? b = some o := fun e n => hidT_get e n
  have noA : ∀ {b : Addr} {o : Obj}, s₁.heap.get? b = some o -> (∀ as n, o.data ≠ .seq as n) -> (∀ as, o.data ≠ .fields as) -> H b = none := fun {b o} e d d2 => by
   cases q : H b with
   | none => rfl
   | some u =>
    rcases hA b (by rw [q]; simp) with e' | e'
    ·subst e'
     rw [ha] at e; cases e
     exact absurd rfl (d _ _)
    ·rw [tabO b e'] at e; cases e
     exact absurd rfl (d2 _)
  have nsK : ∀ {b : Addr} {m : Str -> Option Value}, s₁.heap.Ns b m -> (hidT s₁.heap H).Ns b m := fun {b m} ⟨o, es, ep, e, d, r⟩ => ⟨o, es, ep, base_of e (noA e (fun _ _ => by rw [d]; simp) (fun _ => by rw [d]; simp)), d, r⟩
  have hKb : K.In (hidT s₁.heap H) := fun b o e => base_of (KX b o e) (by
   cases q : H b with
   | none => rfl
   | some u =>
    rcases hA b (by rw [q]; simp) with e' | e'
    ·subst e'
     rw [hK (by rw [q]; simp)] at e; cases e
    ·rw [tabK b e'] at e; cases e)
  have hM : Mod K mg (hidT s₁.heap H) := ⟨hKb, nsK hns, ⟨mb, nsK hb, hbb⟩, let ⟨mc, h1, h2⟩ := hlim; ⟨mc, nsK h1, h2⟩⟩
  have hBb : BMn mg (hidT s₁.heap H) := by
   obtain ⟨bm, ob, b1, b2, b3, b4, b5, b6⟩ := hbm
   exact ⟨bm, ob, b1, b2, base_of b3 (noA b3 (fun _ _ => by rw [b6]; simp) (fun _ => by rw [b6]; simp)), b4, b5, b6⟩
  have e0 : Env0 P w K mg (hidT s₁.heap H) callerA [] s₁ H := ⟨rfl, hM, fun b o e => of_hidT e, Nat.le_of_eq (hidT_size _ _), trivial, fun b hb => absurd (show b ∈ ([] : List Addr) from hb) (by simp), hok, .of_eq hg⟩
  refine codeAny_mono ((F _ hKb (nsK hns) hBb).run callerA [] s₁ H ⟨[.ref a], []⟩ [.ref a] [.ref a] _ _ hr e0 (hbind s₁ (.ref a)) (.cons rfl .nil) (hsp H hTs hS)) fun r s' h => ?_
  cases r with
  | error e => exact (hCX H e s' h).elim
  | ok fl =>
   cases fl with
   | next => exact False.elim h
   | brk => exact False.elim h
   | cont => exact False.elim h
   | ret u =>
    obtain ⟨v, H', os, bare, un, hok', r', q⟩ := h
    have q' : v = .bl true := q
    subst q'
    obtain rfl : u = Value.bool true := r'
    have kk : ∀ b o, s₁.heap.get? b = some o -> b ∉ ts.map (·.2) -> s'.heap.get? b = some o := fun b o e nb => by
     cases q : H b with
     | none => exact un.keep b o e q (by intro z; exact absurd (show b ∈ ([] : List Addr) from z) (by simp)) (by simp)
     | some u =>
      rcases hO b with z | ⟨ob, xs, z⟩ | ⟨z, _⟩
      ·rw [q] at z; cases z
      ·have z2 := un.frzs b ob _ z
       obtain ⟨e1, _⟩ := hok b _ z
       obtain ⟨e2, _⟩ := hok' b _ z2
       rw [e] at e1; cases e1
       exact e2
      ·exact absurd z nb
    have tt : ∀ b, b ∈ ts.map (·.2) -> ∃ more, s'.heap.get? b = some (tabObj more) := fun b hb' => by
     obtain ⟨q, hq, rfl⟩ := List.mem_map.mp hb'
     obtain ⟨more, e⟩ := un.tbls _ _ (hTs q hq)
     exact ⟨_, hok' _ _ e⟩
    refine ⟨rfl, ⟨fun b o e => ?_, fun b o e => ?_⟩, os, bare⟩
    ·by_cases z : b ∈ ts.map (·.2)
     ·obtain ⟨more, e2⟩ := tt b z
      have e3 := tabO b z
      rw [e] at e3; cases e3
      obtain ⟨q, hq, rfl⟩ := List.mem_map.mp z
      refine .inr (.inl ⟨((hT q hq).1.tab (hT q hq).2).isCodeTable, rfl, #[], more, rfl, by rw [e2]; simp⟩)
     ·exact .inl (kk b o e z)
    ·by_cases z : b ∈ ts.map (·.2)
     ·obtain ⟨more, e2⟩ := tt b z
      exact ⟨_, e2⟩
     ·exact ⟨o, kk b o e z⟩
 have aT : a ∉ ts.map (·.2) := fun z => by
  have e := tabO a z
  rw [ha] at e; cases e
 have tm : ∀ q ∈ ts, q.2 ∈ ts.map (·.2) := fun q hq => List.mem_map_of_mem hq
 cases hk : K.lookup a with
 | some o =>
  have e := KX a o hk
  rw [ha] at e
  cases e
  refine core (fun b => if b ∈ ts.map (·.2) then some (.tbl #[]) else none) (fun b => ?_) (fun q hq => if_pos (tm q hq)) (.inr ⟨_, vs.toArray, _, hk, rfl, rfl, rfl, by rw [List.size_toArray, lenV]; exact hl, by simpa using rv⟩) (fun b u z => ?_) (fun b z => ?_) fun z => absurd (if_neg aT) z
  ·by_cases z : b ∈ ts.map (·.2)
   ·exact .inr (.inr ⟨z, if_pos z⟩)
   ·exact .inl (if_neg z)
  ·by_cases y : b ∈ ts.map (·.2)
   ·have z' := (if_pos y).symm.trans z
    cases z'
    exact tabO b y
   ·have z' := (if_neg y).symm.trans z
    cases z'
  ·by_cases y : b ∈ ts.map (·.2)
   ·exact .inr y
   ·exact absurd (if_neg y) z
 | none =>
  refine core (fun b => if b = a then some (.frz { cls := .type "list", data := .seq vs.toArray } (.lst (ns.map V.int))) else if b ∈ ts.map (·.2) then some (.tbl #[]) else none) (fun b => ?_) (fun q hq => ?_) (.inl (.inr ⟨{ cls := .type "list", data := .seq vs.toArray }, if_pos rfl⟩)) (fun b u z => ?_) (fun b z => ?_) fun _ => hk
  ·by_cases hb : b = a
   ·exact .inr (.inl ⟨_, _, if_pos hb⟩)
   ·by_cases y : b ∈ ts.map (·.2)
    ·exact .inr (.inr ⟨y, (if_neg hb).trans (if_pos y)⟩)
    ·exact .inl ((if_neg hb).trans (if_neg y))
  ·have hb : q.2 ≠ a := fun z => aT (z ▸ tm q hq)
   exact (if_neg hb).trans (if_pos (tm q hq))
  ·by_cases hb : b = a
   ·have z' := (if_pos hb).symm.trans z
    cases z'
    subst hb
    exact ⟨ha, by rw [List.length_map]; exact hl, vs, _, rv, ha⟩
   ·by_cases y : b ∈ ts.map (·.2)
    ·have z' := ((if_neg hb).trans (if_pos y)).symm.trans z
     cases z'
     exact tabO b y
    ·have z' := ((if_neg hb).trans (if_neg y)).symm.trans z
     cases z'
  ·by_cases hb : b = a
   ·exact .inl hb
   ·by_cases y : b ∈ ts.map (·.2)
    ·exact .inr y
    ·exact absurd ((if_neg hb).trans (if_neg y)) z
theorem walk_ofT {l : PySem.W.OpenLaw} {n k : Nat} {q : Program} {loose : List Str} {XP : (Str -> Option Value) -> Heap -> Prop} {YP : World -> Heap -> Prop} {d : DefRec} {K : Params -> PySem.W.Frag} {sp : World -> List Addr -> Sp} {x : Str}
 (hn : l.most = some n) (hn2 : n <= sizeLine) (hdf : d.params.defaults = []) (hr : Room k callerA)
 (hY : ∀ (w : World) (h : Heap), YP w h -> (K w.params).In h)
 (F : ∀ (w : World) (mg : Str -> Option Value) (fa : Addr) (h : Heap), YP w h -> (K w.params).In h -> h.Ns mainGlobals mg -> mg d.name = some (.ref fa) ->
   ∃ (fd : FuncData) (ts : List (Addr × Addr)), TabsAt ts h /\ noTabs (K w.params) = true /\ (∀ (s : Shared) (u : Value), BindsTo s fd ⟨[u], []⟩ [(x, u)]) /\
    ∀ base : Heap, (K w.params).In base -> base.Ns mainGlobals mg -> BMn mg base -> FnOk l.prog w (K w.params) mg base CX0 k fa fd [x] (sp w (ts.map (·.2))))
 (hsp : ∀ (w : World) (H : Hp) (a : Addr) (ns : List Int) (ts : List Addr), ns.length <= n -> (∀ Pt ∈ ts, H Pt = some (.tbl #[])) -> SqL (K w.params) H a (ns.map V.int) -> sp w ts [.ref a] H (fun v _ => v = .bl true) fun _ _ _ => False) :
 PySem.W.WalkO q loose XP YP l.row.toRowW d [] (fun f vs => PySem.call f vs) := by
 refine Att.attach_call hn hdf fun w s₀ s₁ mg mb fa o pm cd doc a vs ns G Y ho hd hcd hmg hobj hints hlen hg => ?_
 have KX := hY w _ Y
 obtain ⟨fd, ts, hT, hnt, hb, hF⟩ := F w mg fa _ Y KX G.T.g hmg
 exact law_callT KX G.T.g G.T.b G.T.builtins G.T.nolimit hg hobj hints (Nat.le_trans hlen hn2) hr G.T.bmain hT hnt hF hb (fun H hO hS => hsp w H a ns _ hlen (fun Pt hP => by
  obtain ⟨q, hq, rfl⟩ := List.mem_map.mp hP
  exact hO q hq) hS) fun H e s' z => z
theorem Fun.okC {P : Program} {w : World} {K : PySem.W.Frag} {mg : Str -> Option Value} {base : Heap} {x qual : Str} {st : Stmt} {f c : Addr} {fd : FuncData} {N ps : List Str} {k : Nat} {sp : Sp} (F : Fun K x qual st f fd) (hc : fd.code = .ref c) (S : FnScope N ps (defScope st)) (len : ∀ vs H Q E, sp vs H Q E -> vs.length = ps.length)
 (hbody : ∀ (A : Around) (outer : List Env) (s : Shared) (H : Hp) (vs : List V) (Q : VK) (E : XK), Room k (A.deeper (envOfC qual (defScope st) s.heap.objs.size f (.ref c))) -> sp vs H Q E ->
   ∃ t, PSs (cxOf CX0 P w K mg base N qual (defScope st) f (.ref c) A outer s H E).nox (defBody st) t /\ t { nx := fun _ H' => Q .non H', rt := Q } (start N vs) H) : FnOk P w K mg base CX0 (k + 1) f fd ps sp := by
 obtain ⟨oc, od, kV, doc, pm, an, cdv, ct, osl, rfl, lk, hcd⟩ := F.ex
 cases hc
 refine fn_of lk hcd S len fun A outer s H vs Q E hr hsp => ?_
 obtain ⟨t, h, q⟩ := hbody A outer s H vs Q E hr hsp
 exact ⟨t, h.nox, q⟩
end L2
namespace L2
open PySem
def spLawT (K : PySem.W.Frag) (ts : List Addr) : Sp := fun vs H Q _ => ∃ (a : Addr) (ns : List Int), vs = [.ref a] /\ SqL K H a (ns.map V.int) /\ ns.length <= 63 /\ (∀ Pt ∈ ts, H Pt = some (.tbl #[])) /\ ∀ H', Q (.bl true) H'
theorem lam_new {Pt : Addr} {pos : Pos} {q : Str} {H : Hp} (h : H Pt = some (.tbl #[])) : Lam Pt pos q H := ⟨#[], h, trivial, .inl rfl⟩
end L2
namespace L2
open PySem PySem.Spec PyProof.Rows
section
variable {X : Cx} {tg oe : Expr} {to : TE} {apos cpos : Pos}
end
def mIn (K : PySem.W.Frag) (neg : Bool) : R2 := fun x y H Q => match y with
 | .ref p => ∃ xs, (SqL K H p xs \/ SqT K H p xs) /\ flatV x = true /\ xs.all flatV = true /\ Q (.bl (neg ^^ inV x xs)) H
 | _ => False
section
variable {X : Cx} {K : PySem.W.Frag}
theorem kIn (hK : X.K = K := by rfl) : OpR X (compareOp .In) (mIn K false) := by
 subst hK
 intro pins s σ H x y v u Q I rx ry h
 cases y with
 | ref p =>
  obtain ⟨xs, h1, h2, h3, q⟩ := h
  exact op_in_seq pins s σ H x _ v u Q I rx ry ⟨p, xs, rfl, h1, h2, h3, by simpa using q⟩
 | _ => exact False.elim h
theorem kNotIn (hK : X.K = K := by rfl) : OpR X (compareOp .NotIn) (mIn K true) := by
 subst hK
 intro pins s σ H x y v u Q I rx ry h
 cases y with
 | ref p =>
  obtain ⟨xs, h1, h2, h3, q⟩ := h
  exact op_notIn_seq pins s σ H x _ v u Q I rx ry ⟨p, xs, rfl, h1, h2, h3, by simpa using q⟩
 | _ => exact False.elim h
end
section
variable {X : Cx} {K : PySem.W.Frag}
end
end L2
namespace L2
theorem on1 {α : Type} {P : List α -> Prop} (h : ∀ a, P [a]) : ∀ us : List α, us.length = 1 -> P us
 | [a], _ => h a
theorem on2 {α : Type} {P : List α -> Prop} (h : ∀ a b, P [a, b]) : ∀ us : List α, us.length = 2 -> P us
 | [a, b], _ => h a b
theorem on3 {α : Type} {P : List α -> Prop} (h : ∀ a b c, P [a, b, c]) : ∀ us : List α, us.length = 3 -> P us
 | [a, b, c], _ => h a b c
theorem on4 {α : Type} {P : List α -> Prop} (h : ∀ a b c d, P [a, b, c, d]) : ∀ us : List α, us.length = 4 -> P us
 | [a, b, c, d], _ => h a b c d
open PySem in
theorem star_lst {xs es : List PySem.Expr} {p : Pos} {env : Env} : starEach (.List xs p :: es) env = (false, eval (.List xs p) env) :: starEach es env := by rfl
end L2
namespace L2
open PySem
def isComp : Expr -> Bool
 | .ListComp .. => true
 | .SetComp .. => true
 | .DictComp .. => true
 | _ => false
theorem swaps_not {e : Expr} {t : Option Expr} {l : Nat} {env : Env} (h : isComp e = false) : swapsWith e t l env = pure false := by
 cases e <;> first | rfl | cases h
theorem ps_setN {X : Cx} {pos : Pos} {i : Nat} {x : Str} {e : Expr} {te : TE} {pos' : Pos} (hN : X.N.Nodup) (hi : X.N[i]? = some x) (hx : Loc X.env.scope x) (he : PE X e te) (hs : isComp e = false) (hf : X.fn x = true \/ X.env.scope.names.lookup x = some .local) :
 PS X (.Assign [.Name x pos'] e pos) (tAsg te (gName i)) := ps_set hN hi hx he (swaps_not hs) hf
end L2
namespace L2
open PySem PyProof.Rows
section
variable {prog : Program} {w : World} {A : Around} {E : Value -> Shared -> Prop} {s : Shared}
end
section
variable {X : Cx}
end
abbrev IsZp (h : Heap) (z TI TO : Addr) (f0 bb : Value) : Prop :=
 h.get? z = some { cls := .type "zip", dict := none, data := .fields #[f0, bb, .bool false, .ref TI, .ref TO], slots := #[] }
section
variable {prog : Program} {w : World} {A : Around} {E : Value -> Shared -> Prop} {s : Shared}
end
section
variable {prog : Program} {w : World} {A : Around} {E : Value -> Shared -> Prop} {s : Shared}
structure ZS (z TI TO i1 i2 l1 l2 T0 : Addr) (xs ys : Array Value) (i : Nat) (h : Heap) : Prop where
 zp : (i = 0 /\ IsZip h z TI TO .none) \/ (0 < i /\ (∃ b, IsZp h z TI TO (rawInt T0) b) /\ ∃ a b, IsPair h T0 a b)
 ti : IsPair h TI (.ref i1) (.ref i2)
 to : ∃ a b, IsPair h TO a b
 a1 : h.IsTupleIter i1 l1 i
 a2 : h.IsTupleIter i2 l2 i
 t1 : h.IsTuple l1 xs
 t2 : h.IsTuple l2 ys
end
section
variable {prog : Program} {w : World} {A : Around} {R : Result -> Shared -> Prop}
end
section
variable {prog : Program} {w : World} {A : Around} {R : Result -> Shared -> Prop} {s : Shared}
end
section
variable {prog : Program} {w : World} {A : Around} {E : Value -> Shared -> Prop} {s : Shared}
end
section
variable {X : Cx}
end
end L2
namespace L2
open PySem
def ins : Nat -> Nat -> Nat -> Nat
 | 0, b, q => 2 * q + b
 | i + 1, b, q => 2 * ins i b (q / 2) + q % 2
end L2
namespace L2
open PySem PyProof.Rows
section
variable {prog : Program} {w : World} {A : Around} {E : Value -> Shared -> Prop} {s : Shared}
end
section
variable {prog : Program} {w : World} {K : Type} [DecidableEq K] {knd : KeyKind prog w K} {A : Around} {R : Result -> Shared -> Prop}
end
section
variable {prog : Program} {w : World} {K : Type} [DecidableEq K] {knd : KeyKind prog w K} {A : Around} {E : Value -> Shared -> Prop} {s : Shared}
end
section
variable {X : Cx}
end
section
variable {prog : Program} {w : World} {A : Around} {E : Value -> Shared -> Prop} {s : Shared}
end
section
variable {prog : Program} {w : World} {A : Around} {E : Value -> Shared -> Prop} {s : Shared}
end
section
variable {prog : Program} {w : World} {K : Type} [DecidableEq K] {knd : KeyKind prog w K} {A : Around} {R : Result -> Shared -> Prop}
end
section
variable {prog : Program} {w : World} {K : Type} [DecidableEq K] {knd : KeyKind prog w K} {A : Around} {E : Value -> Shared -> Prop} {s : Shared}
end
section
variable {X : Cx}
end
section
variable {X : Cx}
end
section
variable {X : Cx} {K : PySem.W.Frag}
end
def mInsert : V -> List V -> Hp -> VK -> Prop := fun x vs H Q => match x, vs with
 | .ref l, [.int i, y] => ∃ xs, H l = some (.lst xs) /\ 0 <= i /\ i <= xs.length /\ xs.length < 1000 /\ Q .non (upd H l (.lst (xs.take i.toNat ++ y :: xs.drop i.toNat)))
 | _, _ => False
theorem vals_put : ∀ {xs : List V} {us : List Value} {y : V} {u : Value} (k : Nat), Vals xs us -> RelV y u -> Vals (xs.take k ++ y :: xs.drop k) (us.take k ++ u :: us.drop k)
 | _, _, _, _, 0, r, ry => by simpa using Paired.cons ry r
 | _, _, _, _, k + 1, .nil, ry => by simpa using Paired.cons ry .nil
 | _, _, _, _, k + 1, .cons r t, ry => by simpa using Paired.cons r (vals_put k t ry)
section
variable {X : Cx} {K : PySem.W.Frag} {o e e2 : Expr} {to : TE} {t : TA} {apos cpos : Pos}
theorem mm_insert : MtR X "list.insert" mInsert := by
 intro pins s σ H x vs v us Q I rx rv q
 match x, vs, q with
 | .ref l, [.int i, y], ⟨xs, hH, h1, h2, h3, q⟩ =>
 cases rx
 obtain ⟨u1, u, rfl, ⟨tk, rfl⟩, ru⟩ := vals2 rv
 obtain ⟨z, its, n, r, hl, e⟩ := I.lstM hH
 have hi63 : i < 2 ^ 63 := by omega
 have hfit : ¬ (!Builtin.List.listFitsIndex i) = true := by
  rw [fitsIndex_both (by omega) hi63]
  exact Bool.false_ne_true
 refine call_meets F.slot_list_insert ⟨_, e, rfl⟩ F.entry_list_insert (F.args_list_insert_3 _ _ _) (AutoListH.list_insert_list_int_val_1 l its.toArray n i tk u hfit (by rw [List.size_toArray]; omega)) ⟨e, ?_⟩
 refine ⟨.non, _, I.lset (its' := its.take i.toNat ++ u :: its.drop i.toNat) hH e ?_ (vals_put i.toNat r ru) ?_, rfl, q⟩
 ·have hm : min i.toNat its.length = i.toNat := by omega
  show (have k := if i < 0 then (i + ((its.toArray.size : Nat) : Int)).toNat else min i.toNat its.toArray.size; (its.toArray.extract 0 k).push u ++ its.toArray.extract k) = _
  rw [if_neg (by omega), List.size_toArray, hm]
  apply Array.toList_inj.mp
  simp
  exact List.take_of_length_le (by rw [List.length_drop]; exact Nat.le_refl _)
 ·rw [List.length_append, List.length_cons, List.length_take, List.length_drop]
  exact small_le (by omega)
theorem kInsert (ho : PE X o to) (ha : PA X [e, e2] t) (hbase : attributeBase o "insert" X.env (eval o X.env) = eval o X.env := by rfl)
 (hfew : ((backTo cpos (starEach [e, e2] X.env)).all (fun x => !x.1) && (backToKw cpos (keywordEach [] X.env)).all (fun x => x.1.isSome)
   && decide ([e, e2].length + ([] : List Keyword).length + (if ([] : List Keyword).isEmpty then 0 else 1) < 30)) = true := by rfl)
 (hline : (apos.endLine == cpos.line) = true := by rfl) (hs : starEach [e, e2] X.env = (false, eval e X.env) :: starEach [e2] X.env := by rfl) (hplain : (backTo cpos (starEach [e2] X.env)).any (·.1) = false := by rfl) (hK : X.K = K := by rfl) :
 PE X (.Call (.Attribute o "insert" apos) [e, e2] [] cpos) (tBM K "list" mInsert to t) := hK ▸ pe_bm PySem.F.plainAttrs_list PySem.F.slot_list_insert PySem.F.type_list_insert mm_insert ho ha hbase hfew hline hs hplain
theorem bm_insert : BMono mInsert := fun x xs H Q Q' h q => by
 unfold mInsert at *
 split at q
 ·obtain ⟨ys, a, b, c, d, q⟩ := q; exact ⟨ys, a, b, c, d, h _ _ q⟩
 ·exact q.elim
end
end L2
namespace L2
open PySem PySem.Spec PyProof.Rows
section
variable {X : Cx} {K : PySem.W.Frag}
end
end L2
namespace L2
open PySem PyProof.Rows
section
variable {X : Cx}
end
section
variable {X : Cx}
end
section
variable {X : Cx} {K : PySem.W.Frag}
end
end L2
namespace HT
open PySem PyProof.Rows
section
variable {prog : Program} {w : World} {A : Around} {E : Value -> Shared -> Prop} {s : Shared}
theorem sliceApplied_back {sl : Addr} {n : Nat} {u : Tok} {Q : Int × Int × Nat -> Shared -> Prop} (hs : s.heap.IsSliceOf sl .none .none (.int (-1) u))
 (h : Q ((n : Int) - 1, -1, n) s) : wpAny (model prog w) A (Builtin.Slice.sliceApplied (.ref sl) (pure (n : Int))) Q E s := by
 obtain ⟨os, hos, hcs, hds⟩ := id hs
 unfold Builtin.Slice.sliceApplied Builtin.Slice.sliceFields
 refine wpAny_bind (wpAny_bind (wpAny_field hos hds (x := .none) rfl (wpAny_bind (wpAny_field hos hds (x := .none) rfl (wpAny_bind (wpAny_field hos hds (x := .int (-1) u) rfl (wpAny_pure ?_)))))))
 refine wpAny_bind (slicePart_int ?_)
 show wpAny _ _ (if ((-1 : Int) == 0) = true then _ else _) _ _ s
 rw [if_neg (by decide)]
 refine wpAny_bind (slicePart_ (o := none) .none (wpAny_bind (slicePart_ (o := none) .none (wpAny_bind (wpAny_pure ?_)))))
 show wpAny _ _ (pure ((n : Int) - 1, (-1 : Int), Builtin.Slice.slicePlaces ((n : Int) - 1) (-1) (-1))) _ _ s
 have e : Builtin.Slice.slicePlaces ((n : Int) - 1) (-1) (-1) = n := by
  unfold Builtin.Slice.slicePlaces
  rw [if_neg (by decide)]
  by_cases h : n = 0
  ·subst h; rfl
  ·rw [if_pos (by omega), show (-(-1) : Int) = 1 from rfl, Int.ediv_one]
   omega
 rw [e]
 exact wpAny_pure h
theorem back_pick {α : Type} (xs : List α) : ∀ n, n <= xs.length -> ((List.range n).filterMap fun (k : Nat) => xs[((xs.length : Int) - 1 + (k : Int) * (-1)).toNat]?) = xs.reverse.take n
 | 0, _ => rfl
 | n + 1, h => by
  rw [List.range_succ, List.filterMap_append, back_pick xs n (by omega), List.take_add_one]
  congr 1
  have e : ((xs.length : Int) - 1 + (n : Int) * (-1)).toNat = xs.length - 1 - n := by omega
  simp only [List.filterMap_cons, List.filterMap_nil]
  rw [e, List.getElem?_reverse (by omega)]
  cases xs[xs.length - 1 - n]? <;> rfl
theorem getItem_tuple_back {t sl : Addr} {items : Array Value} {u : Tok} {Q : Value -> Shared -> Prop} (ht : IsTup s.heap t items) (hs : s.heap.IsSliceOf sl .none .none (.int (-1) u))
 (h : Q (.ref s.heap.objs.size) { s with heap := s.heap.push { cls := .type "tuple", data := .seq items.toList.reverse.toArray } })
 (hsz : items.size <= sizeLine) : wpAny (model prog w) A (getItem (.ref t) (.ref sl)) Q E s := by
 have htake : sizeOk (.seq items.toList.reverse.toArray) := by
  show items.toList.reverse.toArray.size <= sizeLine
  rw [List.size_toArray, List.length_reverse, Array.length_toList]
  exact hsz
 obtain ⟨os, hos, hcs, hds⟩ := id hs
 have hTs : s.TypeIs (.ref sl) "slice" := ⟨os, hos, hcs⟩
 unfold getItem
 try with_reducible refine wpAny_holding ?_
 first | refine wpAny_bind (wpAny_pure ?_) | skip
 refine wpAny_bind (wpAny_sequenceKey ht.typeIs (by decide) ?_)
 refine wpAny_bind (wpAny_callSpecial?_slot (name := Str.ofString "__getitem__") ht.typeIs PyProof.Rows.slot_tuple_getitem
  (wpAny_call_entry PyProof.Rows.slot_tuple_getitem ht.typeIs entry_tuple_getitem ?_ (args_tuple_getitem _ _)))
 show wpAny _ _ (Builtin.Tuple.tupleItemsOf (.ref t) >>= _) _ _ s
 refine wpAny_bind (tupleItemsOf_ ht ?_)
 refine wpAny_bind (wpAny_typeOf hTs ?_)
 rw [if_pos (by decide)]
 refine wpAny_bind (sliceApplied_back hs ?_)
 have hno : ¬ (((items.size : Int) - 1 == 0 && (-1 : Int) == 1 && items.size == items.size) = true) := by
  intro q
  rw [Bool.and_eq_true, Bool.and_eq_true] at q
  exact absurd q.1.2 (by decide)
 show wpAny _ _ (if ((items.size : Int) - 1 == 0 && (-1 : Int) == 1 && items.size == items.size) = true then _ else _) _ _ s
 have epick : ((List.range items.size).filterMap fun (k : Nat) => items[((items.size : Int) - 1 + (k : Int) * (-1)).toNat]?) = items.toList.reverse := by
  have h1 := back_pick items.toList items.toList.length (Nat.le_refl _)
  rw [List.take_of_length_le (by simp), Array.length_toList] at h1
  rw [<- h1]
  congr 1
  funext k
  rw [Array.getElem?_toList]
 rw [if_neg hno, epick]
 first
  | exact wpAny_bind (m := Builtin.Tuple.tupleExact _) (wpAny_newObj_type (wpAny_pure ⟨_, rfl, wpAny_pure h⟩) htake)
  | exact wpAny_bind (m := Builtin.Tuple.tupleExact _) (wpAny_newObj_type (wpAny_bind (wpAny_pure (wpAny_pure ⟨_, rfl, wpAny_pure h⟩))) htake)
  | exact wpAny_bind (wpAny_bind (m := Builtin.Tuple.tupleExact _) (wpAny_newObj_type (wpAny_pure (wpAny_pure ⟨_, rfl, wpAny_pure h⟩)) htake))
  | exact wpAny_bind (wpAny_bind (m := Builtin.Tuple.tupleExact _) (wpAny_newObj_type (wpAny_pure ⟨_, rfl, wpAny_pure h⟩) htake))
theorem getItem_tuple_whole {t sl : Addr} {items : Array Value} {vl vu : Value} {lo hi : Option Int} {Q : Value -> Shared -> Prop} (ht : IsTup s.heap t items) (hs : s.heap.IsSliceOf sl vl vu .none) (pl : IsPart vl lo) (pu : IsPart vu hi)
 (hw : sIx items.size 0 lo = 0 /\ sIx items.size items.size hi = items.size)
 (h : Q (.ref t) s) : wpAny (model prog w) A (getItem (.ref t) (.ref sl)) Q E s := by
 obtain ⟨os, hos, hcs, hds⟩ := id hs
 have hTs : s.TypeIs (.ref sl) "slice" := ⟨os, hos, hcs⟩
 unfold getItem
 try with_reducible refine wpAny_holding ?_
 first | refine wpAny_bind (wpAny_pure ?_) | skip
 refine wpAny_bind (wpAny_sequenceKey ht.typeIs (by decide) ?_)
 refine wpAny_bind (wpAny_callSpecial?_slot (name := Str.ofString "__getitem__") ht.typeIs PyProof.Rows.slot_tuple_getitem
  (wpAny_call_entry PyProof.Rows.slot_tuple_getitem ht.typeIs entry_tuple_getitem ?_ (args_tuple_getitem _ _)))
 show wpAny _ _ (Builtin.Tuple.tupleItemsOf (.ref t) >>= _) _ _ s
 refine wpAny_bind (tupleItemsOf_ ht ?_)
 refine wpAny_bind (wpAny_typeOf hTs ?_)
 rw [if_pos (by decide)]
 refine wpAny_bind (sliceApplied_gen hs pl pu ?_)
 rw [hw.1, hw.2]
 show wpAny _ _ (if (((0 : Nat) : Int) == 0 && (1 : Int) == 1 && (items.size - 0) == items.size) = true then _ else _) _ _ s
 have hyes : (((0 : Nat) : Int) == 0 && (1 : Int) == 1 && (items.size - 0) == items.size) = true := by simp
 rw [if_pos hyes]
 unfold Builtin.Tuple.tupleIsExact
 refine wpAny_bind (wpAny_bind (wpAny_typeOf ht.typeIs (wpAny_pure ?_)))
 rw [if_pos (by decide)]
 refine wpAny_bind (wpAny_rule ?_)
 first
  | exact wpAny_bind (wpAny_pure ⟨_, rfl, wpAny_pure h⟩)
  | exact wpAny_pure ⟨_, rfl, wpAny_pure h⟩
  | exact wpAny_bind (wpAny_pure (wpAny_pure ⟨_, rfl, wpAny_pure h⟩))
  | exact wpAny_bind (wpAny_bind (wpAny_pure (wpAny_pure ⟨_, rfl, wpAny_pure h⟩)))
end
end HT
namespace L2
open PySem PySem.Spec PyProof.Rows
section
variable {X : Cx} {K : PySem.W.Frag} {e sx : Expr} {te ts : TE} {lo hi : Option Expr} {tl th : TO} {pos p2 : Pos}
theorem Vals.rev : ∀ {xs : List V} {us : List Value}, Vals xs us -> Vals xs.reverse us.reverse
 | _, _, .nil => .nil
 | _, _, .cons h r => by
  rw [List.reverse_cons, List.reverse_cons]
  exact (Vals.rev r).append (.cons h .nil)
def mBack (K : PySem.W.Frag) : V -> Hp -> VK -> Prop := fun x H Q => match x with
 | .ref a => ∃ xs, SqT K H a xs /\ ∀ p, H p = none -> Q (.ref p) (upd H p (.tup xs.reverse))
 | _ => False
def tBack (K : PySem.W.Frag) (te ts : TE) : TE := fun σ H Q => te σ H fun x H1 => ts σ H1 fun k H4 => k = .int (-1) /\ mBack K x H4 Q
theorem kBack (he : PE X e te) (hs : PE X sx ts) (hK : X.K = K := by rfl) : PE X (.Subscript e (.Slice none none (some sx) p2) pos) (tBack K te ts) := by
 subst hK
 intro pins s σ H Q I h
 refine Subscript_ (thn (he pins s σ H _ I h) fun v s1 ⟨x, H1, I1, r1, q1⟩ => ?_)
 refine wpAny_Slice ?_
 refine wpAny_pure (wpAny_pure ?_)
 rw [evalPart_some]
 refine thn (hs pins s1 σ H1 _ I1 q1) fun vk s4 ⟨z, H4, I4, r4, q4⟩ => ?_
 obtain ⟨rfl, q4⟩ := q4
 have I5 : Inv X pins σ H4 { s4 with heap := s4.heap.push { cls := .type "slice", data := .fields #[.none, .none, vk] } } := I4.kept (t' := s4.toks) fun b ob q => Heap.get?_push_of_some _ q
 cases x with
 | ref a =>
  cases r1
  obtain ⟨tk, rfl⟩ := r4
  obtain ⟨xs, hx, q⟩ := q4
  obtain ⟨its, r, ht, hz⟩ := I5.tuple hx
  have hlen : its.toArray.size = xs.length := by rw [List.size_toArray]; exact r.length.symm
  show wpAny (model X.prog X.w) X.A (subscriptTail e (.Slice none none (some sx) p2) (.ref a) (.ref s4.heap.objs.size)) (EP X pins σ Q) X.xe { s4 with heap := s4.heap.push { cls := .type "slice", data := .fields #[.none, .none, .int (-1) tk] } }
  refine tail_any (ops := [.ref a, .ref s4.heap.objs.size]) ht.typeIs PyProof.Rows.slot_tuple_getitem.lookup ?_ (by with_unfolding_all rfl)
  refine HT.getItem_tuple_back ht (Heap.IsSliceOf.new ..) ?_ (by rw [hlen]; exact hz)
  generalize s4.heap.push { cls := .type "slice", data := .fields #[.none, .none, .int (-1) tk] } = h5 at *
  refine ⟨.ref h5.objs.size, _, I5.laid (t' := s4.toks) (o := .tup xs.reverse) (fun b ob q => Heap.get?_push_of_some _ q) (Nat.le_refl _) ?_, rfl, q _ (I5.hok.fresh (Nat.le_refl _))⟩
  exact ⟨by rw [List.length_reverse]; exact hz, its.reverse, r.rev, IsTupN.new _ _⟩
 | _ => exact False.elim q4
theorem em_back (h : EMono te) (h3 : EMono ts) : EMono (tBack K te ts) := fun σ H Q Q' k q => h _ _ _ _ (fun v _ q => h3 _ _ _ _ (fun z _ ⟨e, q⟩ => ⟨e, by
 unfold mBack at *
 split at q
 ·obtain ⟨xs, a, q⟩ := q; exact ⟨xs, a, fun p hp => k _ _ (q p hp)⟩
 ·exact q.elim⟩) q) q
def mCutA (K : PySem.W.Frag) : V -> Option Int -> Option Int -> Hp -> VK -> Prop := fun x lo hi H Q => match x with
 | .ref a => ∃ xs, SqT K H a xs /\ ∀ p H', Same H H' -> SqT K H' p (cutV xs lo hi) -> Q (.ref p) H'
 | _ => False
theorem sl_cutA : SlR X (mCutA X.K) := by
 intro pins s σ H x v vl vu lo hi sl Q I rx hs pl pu q
 cases x with
 | ref a =>
  obtain ⟨xs, hx, q⟩ := q
  by_cases hw : HT.sIx xs.length 0 lo = 0 /\ HT.sIx xs.length xs.length hi = xs.length
  ·cases rx
   obtain ⟨its, r, ht, hz⟩ := I.tuple hx
   have hlen : its.toArray.size = xs.length := by rw [List.size_toArray]; exact r.length.symm
   refine ⟨"tuple", _, PyProof.Rows.slot_tuple_getitem.lookup, ht.typeIs, ?_⟩
   refine HT.getItem_tuple_whole ht hs pl pu (by rw [hlen]; exact hw) ⟨.ref a, H, I, rfl, q a H (fun _ _ h => h) ?_⟩
   have : cutV xs lo hi = xs := by
    unfold cutV
    rw [hw.1, hw.2, List.drop_zero, List.take_of_length_le (by omega)]
   rw [this]
   exact hx
  ·exact sl_tup pins s σ H _ v vl vu lo hi sl Q I rx hs pl pu ⟨a, xs, rfl, hx, hw, fun p hp => q p _ (Same.upd hp) (.of upd_same)⟩
 | _ => exact False.elim q
theorem kCutA (he : PE X e te) (hl : PO X lo tl) (hu : PO X hi th) (hK : X.K = K := by rfl) : PE X (.Subscript e (.Slice lo hi none p2) pos) (tSl (mCutA K) te tl th) := hK ▸ pe_slice sl_cutA he hl hu
theorem em_cutA (h : EMono te) (h1 : OMono tl) (h2 : OMono th) : EMono (tSl (mCutA K) te tl th) := fun σ H Q Q' k q => h _ _ _ _ (fun v _ q => h1 _ _ _ _ (fun _ _ q => h2 _ _ _ _ (fun _ _ q => by
 cases v <;> first | exact False.elim q | (obtain ⟨xs, a, q⟩ := q; exact ⟨xs, a, fun p H' s r => k _ _ (q p H' s r)⟩)) q) q) q
end
end L2
namespace HT
open PySem PyProof.Rows
section
variable {prog : Program} {w : World} {A : Around} {E : Value -> Shared -> Prop} {s : Shared}
theorem cat_none {t b : Addr} {ws : List Value} {Q : Value -> Shared -> Prop} (ht : IsTup s.heap t #[]) (hb : IsTup s.heap b ws.toArray) (h : Q (.ref b) s) :
 wpAny (model prog w) A (binaryOp .Add (.ref t) (.ref b)) Q E s := by
 obtain ⟨⟨cls, dd, data, sl⟩, ho, hc, n, hd⟩ := id ht
 obtain ⟨⟨cls2, dd2, data2, sl2⟩, ho2, hc2, n2, hd2⟩ := id hb
 simp only at hc hd hc2 hd2
 subst hc hd hc2 hd2
 exact concat_meets ⟨_, ho, rfl⟩ ⟨_, ho2, rfl⟩ noFill_tuple_add seq_tuple_add PySem.F.slot_tuple_add PySem.F.entry_tuple_add (PySem.F.args_tuple_add_2 _ _)
  (tuple_addW0 t b #[] ws.toArray n n2 dd dd2 sl sl2 rfl) ⟨ho, ho2, h⟩
end
end HT
namespace L2
open PySem PySem.Spec PyProof.Rows
section
variable {X : Cx} {K : PySem.W.Frag}
def mAddA (K : PySem.W.Frag) : R2 := fun x y H Q => match x, y with
 | .int i, .int j => Q (.int (i + j)) H
 | .ref a, .ref b => rCat (.ref a) (.ref b) H Q \/ ∃ xs ys, SqT K H a xs /\ SqT K H b ys /\ xs.length + ys.length <= sizeLine /\ ∀ p H', Same H H' -> SqT K H' p (xs ++ ys) -> Q (.ref p) H'
 | _, _ => False
theorem om_addA : OpR X (binaryOp .Add) (mAddA X.K) := by
 intro pins s σ H x y v u Q I rx ry q
 cases x <;> cases y <;> first
  | exact False.elim q
  | exact op_add pins s σ H _ _ v u Q I rx ry ⟨_, _, rfl, rfl, q⟩
  | skip
 rename_i a b
 rcases q with q | ⟨xs, ys, ha, hb, hz, q⟩
 ·exact op_cat pins s σ H _ _ v u Q I rx ry q
 by_cases hx : xs = []
 ·subst hx
  cases rx
  cases ry
  obtain ⟨its, r1, p1, _⟩ := I.tuple ha
  obtain ⟨its2, r2, p2, _⟩ := I.tuple hb
  cases r1
  exact HT.cat_none p1 p2 ⟨.ref b, H, I, rfl, q b H (fun _ _ h => h) hb⟩
 ·exact op_catT pins s σ H _ _ v u Q I rx ry ⟨a, b, xs, ys, rfl, rfl, ha, hb, hx, hz, fun e => q a H (fun _ _ h => h) (by rw [e, List.append_nil]; exact ha), fun _ p hp => q p _ (Same.upd hp) (.of upd_same)⟩
theorem kAddA (hK : X.K = K := by rfl) : OpR X (binaryOp .Add) (mAddA K) := hK ▸ om_addA
theorem rm_addA : RMono (mAddA K) := fun x y H Q Q' m q => by
 cases x <;> cases y <;> first
  | exact False.elim q
  | exact m _ _ q
  | skip
 rcases q with ⟨l, b, xs, zs, h1, h2, h3, h4, h5, q⟩ | ⟨xs, ys, ha, hb, hz, q⟩
 ·exact .inl ⟨l, b, xs, zs, h1, h2, h3, h4, h5, fun p hp => m _ _ (q p hp)⟩
 ·exact .inr ⟨xs, ys, ha, hb, hz, fun p H' a b => m _ _ (q p H' a b)⟩
end
section
variable {X : Cx} {K : PySem.W.Frag}
end
section
variable {X : Cx} {K : PySem.W.Frag} {e sx : Expr} {te ts : TE} {lo hi : Option Expr} {tl th : TO} {pos p2 : Pos}
end
abbrev BV := List (List Bool × Addr × V)
abbrev BVr : BV -> List (List Bool × Addr × Value) -> Prop := Paired fun p q => p.1 = q.1 /\ p.2.1 = q.2.1 /\ RelV p.2.2 q.2.2
def dV (P : Program) (w : World) (a : Addr) (kvs : BV) : HO := .ext fun h => ∃ xs o es ep, BVr kvs xs /\ h.get? a = some o /\ o.ExactDict /\ o.data = .dict es ep /\ es.toList = xs.map (entryOfKey (tupleKind (boolKind P w))) /\ (xs.map (·.1)).Nodup /\ xs.length <= sizeLine /\ (a == sysModules) = false
section
variable {P : Program} {w : World} {H : Hp} {h : Heap} {a : Addr}
end
section
variable {X : Cx} {o i e f value : Expr} {pos pos' tpos apos cpos : Pos} {td ty tx tv : TE}
end
section
variable {X : Cx} {P : Program} {w : World} {o i e f : Expr} {pos apos cpos : Pos} {td ty tx : TE}
end
section
variable {prog : Program} {w : World} {A : Around} {E : Value -> Shared -> Prop} {s : Shared} {d it : Addr} {o : Obj} {es : Array DictEntry} {ep i : Nat}
end
section
variable {X : Cx} {pins : List (Addr × Obj)} {σ : St} {H : Hp} {s : Shared}
theorem BVr.get {kvs : BV} {xs : List (List Bool × Addr × Value)} (r : BVr kvs xs) : ∀ {i : Nat} {q : List Bool × Addr × V}, kvs[i]? = some q -> ∃ x, xs[i]? = some x /\ x.2.1 = q.2.1 := by
 induction r with
 | nil => intro i q e; simp at e
 | @cons a b l1 l2 h t ih =>
  intro i q e
  cases i with
  | zero =>
   simp at e; subst e
   exact ⟨b, by simp, h.2.1.symm⟩
  | succ i =>
   obtain ⟨v, h1, h2⟩ := ih (i := i) (q := q) (by simpa using e)
   exact ⟨v, by simpa using h1, h2⟩
end
section
variable {X : Cx} {K : PySem.W.Frag}
end
section
variable {X : Cx} {K : PySem.W.Frag}
def mMaxL (K : PySem.W.Frag) : List V -> Hp -> VK -> Prop := fun xs H Q => match xs with
 | [.ref l] => ∃ ns : List Int, SqL K H l (ns.map V.int) /\ 0 < ns.length /\ ∀ M, M ∈ ns -> (∀ a ∈ ns, a <= M) -> Q (.int M) H
 | _ => False
theorem cm_maxL (hc : X.calm = true) : CallR X (.builtin "max") (mMaxL X.K) := by
 intro pins s σ H xs us Q I r q
 match xs, q with
 | [.ref l], q =>
 obtain ⟨ns, hl, hne, q⟩ := q
 obtain ⟨u, rfl, ru⟩ := vals1 r
 cases ru
 obtain ⟨its, rv, pl, hz⟩ := I.list hl
 have hi : IntsAre its ns := by simpa using intsAre_of rv
 obtain ⟨zs, hzs⟩ := (hi.allInts).items
 have pl' := pl.isList
 rw [hzs] at pl'
 have hns : ns = zs.toList.map (·.1) := by
  rw [<- hi.numsOf, <- nums_intItems, <- hzs]
 have hsz : 0 < zs.size := by
  rw [hns, List.length_map, Array.length_toList] at hne; exact hne
 refine max_intList (I.ok.hd hc) pl' hsz fun v h' tk hv hk => ?_
 obtain ⟨t, rfl⟩ := intItems_at hv
 obtain ⟨h1, h2⟩ := argBest_gt (numAt zs) (zs.size - 1)
 refine ⟨.int _, H, I.kept hk, ⟨t, rfl⟩, q _ ?_ fun a ha => ?_⟩
 ·rw [hns, numAt_eq]; exact getD_mem (by rw [List.length_map, Array.length_toList]; omega)
 ·rw [hns] at ha
  obtain ⟨j, hj, rfl⟩ := mem_getD ha
  rw [List.length_map, Array.length_toList] at hj
  rw [<- numAt_eq]; exact h2 j (by omega)
theorem kMaxL (hc : X.calm = true) (hK : X.K = K := by rfl) : CallR X (.builtin "max") (mMaxL K) := hK ▸ cm_maxL hc
theorem cm_maxL_ : CMono (mMaxL K) := fun xs H Q Q' h q => by
 unfold mMaxL at *
 split at q
 ·obtain ⟨ns, a, b, q⟩ := q; exact ⟨ns, a, b, fun M x y => h _ _ (q M x y)⟩
 ·exact q.elim
end
def mInD (K : PySem.W.Frag) (neg : Bool) : R2 := fun x y H Q => match y with
 | .ref p => ∃ (xs : List V) (ds : List Dv) (d : Dv), SqA K H p xs /\ Reps K H ds xs /\ Rep K H d x /\ (∀ e ∈ ds, depD e <= 50) /\ Q (.bl (neg ^^ ds.any fun e => eqD e d)) H
 | _ => False
theorem relV_inj {x y : V} {u : Value} (h1 : RelV x u) (h2 : RelV y u) : x = y := by
 cases x <;> cases y <;> simp only [RelV] at h1 h2 <;> (first | (obtain ⟨t, rfl⟩ := h1) | subst h1) <;> (first | (obtain ⟨t', e⟩ := h2; cases e; done) | (obtain ⟨t', e⟩ := h2; cases e; rfl) | (cases h2; done) | (cases h2; rfl))
open Classical in
noncomputable def dataU (K : PySem.W.Frag) (H : Hp) (u : Value) : Dv := if h : ∃ d x, RelV x u /\ Rep K H d x then h.choose else .non
section
variable {X : Cx} {K : PySem.W.Frag} {pins : List (Addr × Obj)} {σ : St} {H : Hp} {s : Shared}
theorem dataU_eq (I : Inv X pins σ H s) {d : Dv} {x : V} {u : Value} (r : RelV x u) (h : Rep X.K H d x) : dataU X.K H u = d := by
 have hx : ∃ d x, RelV x u /\ Rep X.K H d x := ⟨d, x, r, h⟩
 unfold dataU
 rw [dif_pos hx]
 obtain ⟨y, r', h'⟩ := hx.choose_spec
 obtain rfl := relV_inj r r'
 exact rep_inj I _ _ _ h' h
theorem any_data (I : Inv X pins σ H s) {d : Dv} : ∀ {ds : List Dv} {xs : List V} {us : List Value}, Reps X.K H ds xs -> Vals xs us -> us.any (fun u => eqD (dataU X.K H u) d) = ds.any fun e => eqD e d
 | [], _, _, h, r => by
  unfold Reps at h
  subst h
  cases r
  rfl
 | e :: ds, xs, us, h, r => by
  unfold Reps at h
  obtain ⟨x, l, rfl, h1, h2⟩ := h
  cases r with
  | cons r1 r2 => rw [List.any_cons, List.any_cons, any_data I h2 r2, dataU_eq I r1 h1]
theorem mem_data {d : Dv} : ∀ {ds : List Dv} {xs : List V} {us : List Value}, Reps K H ds xs -> Vals xs us -> ∀ u ∈ us, ∃ e ∈ ds, ∃ x, RelV x u /\ Rep K H e x
 | [], _, _, h, r => by
  unfold Reps at h
  subst h
  cases r
  intro u hu
  cases hu
 | e :: ds, xs, us, h, r => by
  unfold Reps at h
  obtain ⟨x, l, rfl, h1, h2⟩ := h
  cases r with
  | cons r1 r2 =>
   intro u hu
   rcases List.mem_cons.mp hu with rfl | hu
   ·exact ⟨e, List.mem_cons_self, x, r1, h1⟩
   ·obtain ⟨e', h3, h4⟩ := mem_data (d := d) h2 r2 u hu
    exact ⟨e', List.mem_cons_of_mem _ h3, h4⟩
theorem in_data (hu : X.A.units + 60 < cLine) (I : Inv X pins σ H s) {d : Dv} {x : V} {v : Value} {ds : List Dv} {xs : List V} {us : List Value} (rx : RelV x v) (hx : Rep X.K H d x) (hR : Reps X.K H ds xs) (r : Vals xs us) (hd : ∀ e ∈ ds, depD e <= 50) : ∀ y, y ∈ us -> SeqAt.EqAt X.A.in1 s y v (eqD (dataU X.K H y) d) := by
 intro y hy
 obtain ⟨e, he, z, r1, h1⟩ := mem_data (d := d) hR r y hy
 rw [dataU_eq I r1 h1]
 exact (eq_all I 50 X.A.in1 e d z x y v (hd e he) (by show X.A.units + 1 + 50 < cLine; omega) h1 hx r1 rx).1
theorem om_notInD (hu : X.A.units + 60 < cLine) : OpR X (compareOp .NotIn) (mInD X.K true) := by
 intro pins s σ H x y v u Q I rx ry h
 cases y <;> first | exact False.elim h | skip
 obtain ⟨xs, ds, d, hq, hR, hx, hd, q⟩ := h
 cases ry
 rcases hq with hq | hq
 ·obtain ⟨its, r, pl, hz⟩ := I.list hq
  refine SeqAt.notIn_listAt (fun y => eqD (dataU X.K H y) d) pl.isList (fun w hw => in_data hu I rx hx hR r hd w (by simpa using hw)) ⟨.bl _, H, I, rfl, ?_⟩
  rw [show its.toArray.any (fun y => eqD (dataU X.K H y) d) = its.any (fun y => eqD (dataU X.K H y) d) by simp, any_data I hR r]
  simpa using q
 ·obtain ⟨its, r, pl, hz⟩ := I.tuple hq
  refine SeqAt.notIn_tupleAt (fun y => eqD (dataU X.K H y) d) pl (fun w hw => in_data hu I rx hx hR r hd w (by simpa using hw)) ⟨.bl _, H, I, rfl, ?_⟩
  rw [show its.toArray.any (fun y => eqD (dataU X.K H y) d) = its.any (fun y => eqD (dataU X.K H y) d) by simp, any_data I hR r]
  simpa using q
theorem kNotInD (hu : X.A.units + 60 < cLine) (hK : X.K = K := by rfl) : OpR X (compareOp .NotIn) (mInD K true) := hK ▸ om_notInD hu
theorem rm_inD {neg : Bool} : RMono (mInD K neg) := fun x y H Q Q' h q => by
 cases y with
 | ref p => obtain ⟨xs, ds, d, h1, h2, h3, h4, q⟩ := q; exact ⟨xs, ds, d, h1, h2, h3, h4, h _ _ q⟩
 | _ => exact False.elim q
end
structure GFd (H : Hp) (t l : Addr) (N : Nat) : Prop where
 at_ : ∃ (i g c : Int) (ns : List Int), 0 <= i /\ 0 <= g /\ 0 <= c /\ c <= N /\ H t = some (.lst [.ref l, .int i, .int g, .int c]) /\ l ≠ t /\ H l = some (.lst (ns.map V.int)) /\ ns.length ≠ 0
theorem GFeed.told {H : Hp} {t : Addr} {N : Nat} (F : GFeed H t N) : ∃ l, GFd H t l N := by
 obtain ⟨l, i, g, c, ns, h⟩ := F.at_
 exact ⟨l, i, g, c, ns, h⟩
theorem GFd.feed {H : Hp} {t l : Addr} {N : Nat} (F : GFd H t l N) : GFeed H t N := by
 obtain ⟨i, g, c, ns, h⟩ := F.at_
 exact ⟨l, i, g, c, ns, h⟩
theorem GFd.same {H H' : Hp} {t l : Addr} {N : Nat} (F : GFd H t l N) (h : Same H H') : GFd H' t l N := by
 obtain ⟨i, g, c, ns, h1, h2, h3, h4, h5, h6, h7, h8⟩ := F.at_
 exact ⟨i, g, c, ns, h1, h2, h3, h4, h _ _ h5, h6, h _ _ h7, h8⟩
theorem GFd.upd {H : Hp} {t l p : Addr} {o : HO} {N : Nat} (F : GFd H t l N) (h : H p = none) : GFd (L2.upd H p o) t l N := F.same (Same.upd h)
theorem GFd.ne {H : Hp} {t l p : Addr} {N : Nat} (F : GFd H t l N) (h : H p = none) : p ≠ t /\ p ≠ l := by
 obtain ⟨i, g, c, ns, h1, h2, h3, h4, h5, h6, h7, h8⟩ := F.at_
 exact ⟨fun e => (by rw [e, h5] at h; exact nomatch h), fun e => (by rw [e, h7] at h; exact nomatch h)⟩
theorem GFd.put {H : Hp} {t l p : Addr} {o : HO} {N : Nat} (F : GFd H t l N) (h : p ≠ t /\ p ≠ l) : GFd (L2.upd H p o) t l N := by
 obtain ⟨i, g, c, ns, h1, h2, h3, h4, h5, h6, h7, h8⟩ := F.at_
 exact ⟨i, g, c, ns, h1, h2, h3, h4, by rw [upd_ne (Ne.symm h.1)]; exact h5, h6, by rw [upd_ne (Ne.symm h.2)]; exact h7, h8⟩
theorem GFeed.put {H : Hp} {t p : Addr} {o : HO} {N : Nat} {xs : List V} (F : GFeed H t N) (hp : p ≠ t) (hx : H p = some (.lst xs)) (hn : ∀ ns : List Int, ns.length ≠ 0 -> xs ≠ ns.map V.int) : GFeed (L2.upd H p o) t N := by
 obtain ⟨l, i, g, c, ns, h1, h2, h3, h4, h5, h6, h7, h8⟩ := F.at_
 have : p ≠ l := fun e => by
  rw [e, h7] at hx
  cases hx
  exact hn ns h8 rfl
 exact ⟨l, i, g, c, ns, h1, h2, h3, h4, by rw [upd_ne (Ne.symm hp)]; exact h5, h6, by rw [upd_ne (Ne.symm this)]; exact h7, h8⟩
def spGDraw2 : Sp := fun vs H Q _ => match vs with
 | [.ref t, .int m] => ∃ l N, GFd H t l N /\ N <= 1000000000 /\ okDiv m /\ ∀ d H', 0 <= d -> d < m -> GFd H' t l (N + 1) -> (∀ b, b ≠ t -> H' b = H b) -> Q (.int d) H'
 | _ => False
theorem spGDraw2_mono : SpMono spGDraw2 := fun vs H Q Q' E h q => by
 unfold spGDraw2 at *
 split at q
 ·obtain ⟨l, N, h1, h2, h3, q⟩ := q; exact ⟨l, N, h1, h2, h3, fun d H' a b c e => h _ _ (q d H' a b c e)⟩
 ·exact q.elim
theorem spGDraw_of (vs : List V) (H : Hp) (Q : VK) (E : XK) (h : spGDraw vs H Q E) : spGDraw2 vs H Q E := by
 unfold spGDraw at h
 unfold spGDraw2
 split at h
 ·obtain ⟨N, F, h2, h3, q⟩ := h
  obtain ⟨l, F⟩ := F.told
  exact ⟨l, N, F, h2, h3, fun d H' a b c e => q d H' a b c.feed e⟩
 ·exact h.elim
inductive Dw where
 | non | bl (b : Bool) | int (i : Int) | str (x : Str) | tup (ds : List Dw) | lst (ds : List Dw) | emp
def LstP (a : Addr) (xs : List V) : Heap -> Prop := fun h => a ≠ sysModules /\ ∃ (its : List Value) (n : Nat), Vals xs its /\ h.get? a = some { cls := .type "list", data := .seq its.toArray n }
mutual
def RepW (K : PySem.W.Frag) (H : Hp) : Dw -> V -> Prop
 | .non, v => v = .non
 | .bl b, v => v = .bl b
 | .int i, v => v = .int i
 | .str x, v => v = .str x
 | .tup ds, v => ∃ a xs, v = .ref a /\ SqT K H a xs /\ RepsW K H ds xs
 | .lst ds, v => ∃ a xs, v = .ref a /\ H a = some (.ext (LstP a xs)) /\ RepsW K H ds xs
 | .emp, v => ∃ a, v = .ref a /\ H a = some (.dK [])
def RepsW (K : PySem.W.Frag) (H : Hp) : List Dw -> List V -> Prop
 | [], xs => xs = []
 | d :: ds, xs => ∃ x r, xs = x :: r /\ RepW K H d x /\ RepsW K H ds r
end
theorem RepsW.length {K : PySem.W.Frag} {H : Hp} : ∀ {ds : List Dw} {xs : List V}, RepsW K H ds xs -> ds.length = xs.length
 | [], xs, h => by unfold RepsW at h; subst h; rfl
 | d :: ds, xs, h => by
  unfold RepsW at h
  obtain ⟨x, r, rfl, _, h⟩ := h
  rw [List.length_cons, List.length_cons, RepsW.length h]
theorem RepsW.get {K : PySem.W.Frag} {H : Hp} : ∀ {ds : List Dw} {xs : List V} {i : Nat} {d : Dw}, RepsW K H ds xs -> ds[i]? = some d -> ∃ x, xs[i]? = some x /\ RepW K H d x
 | [], _, _, _, _, e => by simp at e
 | d :: ds, xs, 0, _, h, e => by
  unfold RepsW at h
  obtain ⟨x, r, rfl, h1, _⟩ := h
  simp at e; subst e
  exact ⟨x, rfl, h1⟩
 | d :: ds, xs, i + 1, _, h, e => by
  unfold RepsW at h
  obtain ⟨x, r, rfl, _, h⟩ := h
  obtain ⟨y, h1, h2⟩ := RepsW.get (i := i) h (by simpa using e)
  exact ⟨y, by simpa using h1, h2⟩
theorem repW_non {K : PySem.W.Frag} {H : Hp} : RepW K H .non .non := by unfold RepW; rfl
theorem repW_bl {K : PySem.W.Frag} {H : Hp} {b : Bool} : RepW K H (.bl b) (.bl b) := by unfold RepW; rfl
theorem repW_int {K : PySem.W.Frag} {H : Hp} {i : Int} : RepW K H (.int i) (.int i) := by unfold RepW; rfl
theorem repW_str {K : PySem.W.Frag} {H : Hp} {x : Str} : RepW K H (.str x) (.str x) := by unfold RepW; rfl
theorem repW_tup {K : PySem.W.Frag} {H : Hp} {p : Addr} {xs : List V} {ds : List Dw} (h : SqT K H p xs) (r : RepsW K H ds xs) : RepW K H (.tup ds) (.ref p) := by unfold RepW; exact ⟨p, xs, rfl, h, r⟩
theorem repW_lst {K : PySem.W.Frag} {H : Hp} {p : Addr} {xs : List V} {ds : List Dw} (h : H p = some (.ext (LstP p xs))) (r : RepsW K H ds xs) : RepW K H (.lst ds) (.ref p) := by unfold RepW; exact ⟨p, xs, rfl, h, r⟩
theorem repW_emp {K : PySem.W.Frag} {H : Hp} {p : Addr} (h : H p = some (.dK [])) : RepW K H .emp (.ref p) := by unfold RepW; exact ⟨p, rfl, h⟩
theorem repW_tup_inv {K : PySem.W.Frag} {H : Hp} {ds : List Dw} {v : V} (h : RepW K H (.tup ds) v) : ∃ a xs, v = .ref a /\ SqT K H a xs /\ RepsW K H ds xs := by unfold RepW at h; exact h
theorem repsW_nil {K : PySem.W.Frag} {H : Hp} : RepsW K H [] [] := by unfold RepsW; rfl
theorem repsW_cons {K : PySem.W.Frag} {H : Hp} {d : Dw} {ds : List Dw} {x : V} {xs : List V} (h : RepW K H d x) (r : RepsW K H ds xs) : RepsW K H (d :: ds) (x :: xs) := by unfold RepsW; exact ⟨x, xs, rfl, h, r⟩
theorem RepsW.append {K : PySem.W.Frag} {H : Hp} : ∀ {ds es : List Dw} {xs ys : List V}, RepsW K H ds xs -> RepsW K H es ys -> RepsW K H (ds ++ es) (xs ++ ys)
 | [], es, xs, ys, h, h' => by unfold RepsW at h; subst h; exact h'
 | d :: ds, es, xs, ys, h, h' => by
  unfold RepsW at h
  obtain ⟨x, r, rfl, h1, h2⟩ := h
  exact repsW_cons h1 (RepsW.append h2 h')
theorem RepsW.take {K : PySem.W.Frag} {H : Hp} : ∀ (k : Nat) {ds : List Dw} {xs : List V}, RepsW K H ds xs -> RepsW K H (ds.take k) (xs.take k)
 | 0, _, _, _ => by simpa using repsW_nil
 | k + 1, [], xs, h => by unfold RepsW at h; subst h; simpa using repsW_nil
 | k + 1, d :: ds, xs, h => by
  unfold RepsW at h
  obtain ⟨x, r, rfl, h1, h2⟩ := h
  simpa using repsW_cons h1 (RepsW.take k h2)
theorem RepsW.drop {K : PySem.W.Frag} {H : Hp} : ∀ (k : Nat) {ds : List Dw} {xs : List V}, RepsW K H ds xs -> RepsW K H (ds.drop k) (xs.drop k)
 | 0, _, _, h => by simpa using h
 | k + 1, [], xs, h => by unfold RepsW at h; subst h; simpa using repsW_nil
 | k + 1, d :: ds, xs, h => by
  unfold RepsW at h
  obtain ⟨x, r, rfl, h1, h2⟩ := h
  simpa using RepsW.drop k h2
theorem RepsW.reverse {K : PySem.W.Frag} {H : Hp} : ∀ {ds : List Dw} {xs : List V}, RepsW K H ds xs -> RepsW K H ds.reverse xs.reverse
 | [], xs, h => by unfold RepsW at h; subst h; simpa using repsW_nil
 | d :: ds, xs, h => by
  unfold RepsW at h
  obtain ⟨x, r, rfl, h1, h2⟩ := h
  rw [List.reverse_cons, List.reverse_cons]
  exact RepsW.append (RepsW.reverse h2) (repsW_cons h1 repsW_nil)
mutual
theorem RepW.same {K : PySem.W.Frag} {H H' : Hp} (s : Same H H') : ∀ (d : Dw) (v : V), RepW K H d v -> RepW K H' d v
 | .non, v, h => by unfold RepW at *; exact h
 | .bl b, v, h => by unfold RepW at *; exact h
 | .int i, v, h => by unfold RepW at *; exact h
 | .str x, v, h => by unfold RepW at *; exact h
 | .emp, v, h => by unfold RepW at *; obtain ⟨a, e, h⟩ := h; exact ⟨a, e, s _ _ h⟩
 | .tup ds, v, h => by
  unfold RepW at *
  obtain ⟨a, xs, e, h1, h2⟩ := h
  exact ⟨a, xs, e, sqT_same h1 s, RepsW.same s ds xs h2⟩
 | .lst ds, v, h => by
  unfold RepW at *
  obtain ⟨a, xs, e, h1, h2⟩ := h
  exact ⟨a, xs, e, s _ _ h1, RepsW.same s ds xs h2⟩
theorem RepsW.same {K : PySem.W.Frag} {H H' : Hp} (s : Same H H') : ∀ (ds : List Dw) (xs : List V), RepsW K H ds xs -> RepsW K H' ds xs
 | [], xs, h => by unfold RepsW at *; exact h
 | d :: ds, xs, h => by
  unfold RepsW at *
  obtain ⟨x, r, e, h1, h2⟩ := h
  exact ⟨x, r, e, RepW.same s d x h1, RepsW.same s ds r h2⟩
end
mutual
theorem RepW.frm {K : PySem.W.Frag} {H H' : Hp} {t : Addr} (s : Frm t H H') (ht : ∃ zs, H t = some (.lst zs)) : ∀ (d : Dw) (v : V), RepW K H d v -> RepW K H' d v
 | .non, v, h => by unfold RepW at *; exact h
 | .bl b, v, h => by unfold RepW at *; exact h
 | .int i, v, h => by unfold RepW at *; exact h
 | .str x, v, h => by unfold RepW at *; exact h
 | .emp, v, h => by
  unfold RepW at *
  obtain ⟨a, e, h⟩ := h
  obtain ⟨zs, hz⟩ := ht
  exact ⟨a, e, s a _ (fun q => by rw [q, hz] at h; cases h) h⟩
 | .tup ds, v, h => by
  unfold RepW at *
  obtain ⟨a, xs, e, h1, h2⟩ := h
  refine ⟨a, xs, e, ?_, RepsW.frm s ht ds xs h2⟩
  obtain ⟨zs, hz⟩ := ht
  rcases h1 with (h1 | ⟨o, h1⟩) | h1
  ·exact .inl (.inl (s a _ (fun q => by rw [q, hz] at h1; cases h1) h1))
  ·exact .inl (.inr ⟨o, s a _ (fun q => by rw [q, hz] at h1; cases h1) h1⟩)
  ·exact .inr h1
 | .lst ds, v, h => by
  unfold RepW at *
  obtain ⟨a, xs, e, h1, h2⟩ := h
  obtain ⟨zs, hz⟩ := id ht
  exact ⟨a, xs, e, s a _ (fun q => by rw [q, hz] at h1; cases h1) h1, RepsW.frm s ht ds xs h2⟩
theorem RepsW.frm {K : PySem.W.Frag} {H H' : Hp} {t : Addr} (s : Frm t H H') (ht : ∃ zs, H t = some (.lst zs)) : ∀ (ds : List Dw) (xs : List V), RepsW K H ds xs -> RepsW K H' ds xs
 | [], xs, h => by unfold RepsW at *; exact h
 | d :: ds, xs, h => by
  unfold RepsW at *
  obtain ⟨x, r, e, h1, h2⟩ := h
  exact ⟨x, r, e, RepW.frm s ht d x h1, RepsW.frm s ht ds r h2⟩
end
mutual
def upW : Dv -> Dw
 | .non => .non
 | .bl b => .bl b
 | .int i => .int i
 | .str x => .str x
 | .tup ds => .tup (upsW ds)
 | .lst ds => .lst (upsW ds)
def upsW : List Dv -> List Dw
 | [] => []
 | d :: ds => upW d :: upsW ds
end
mutual
theorem repW_of {K : PySem.W.Frag} {H : Hp} : ∀ (d : Dv) (v : V), tupOnly d = true -> Rep K H d v -> RepW K H (upW d) v
 | .non, v, _, h => by unfold upW RepW; unfold Rep at h; exact h
 | .bl b, v, _, h => by unfold upW RepW; unfold Rep at h; exact h
 | .int i, v, _, h => by unfold upW RepW; unfold Rep at h; exact h
 | .str x, v, _, h => by unfold upW RepW; unfold Rep at h; exact h
 | .tup ds, v, hd, h => by
  unfold tupOnly at hd
  unfold Rep at h
  obtain ⟨a, xs, e, h1, h2⟩ := h
  unfold upW RepW
  exact ⟨a, xs, e, h1, repsW_of ds xs hd h2⟩
 | .lst ds, v, hd, h => by unfold tupOnly at hd; cases hd
theorem repsW_of {K : PySem.W.Frag} {H : Hp} : ∀ (ds : List Dv) (xs : List V), tupsOnly ds = true -> Reps K H ds xs -> RepsW K H (upsW ds) xs
 | [], xs, _, h => by unfold upsW RepsW; unfold Reps at h; exact h
 | d :: ds, xs, hd, h => by
  unfold tupsOnly at hd
  rw [Bool.and_eq_true] at hd
  unfold Reps at h
  obtain ⟨x, r, e, h1, h2⟩ := h
  unfold upsW RepsW
  exact ⟨x, r, e, repW_of d x hd.1 h1, repsW_of ds r hd.2 h2⟩
end
def tLstX (t : TA) : TE := fun σ H Q => t σ H fun xs H1 => xs.length <= sizeLine /\ ∀ p, H1 p = none -> Q (.ref p) (upd H1 p (.ext (LstP p xs)))
section
variable {X : Cx} {K : PySem.W.Frag} {es : List Expr} {t : TA} {pos : Pos}
theorem lstP_ok {H : Hp} {h : Heap} {P : Program} {w : World} {a : Addr} {xs : List V} (x : LstP a xs h) : ObjOk P w H h a (.ext (LstP a xs)) := by
 refine ⟨x, ?_, fun h1 h2 ⟨hs, its, n, r, e⟩ k => ⟨hs, its, n, r, k _ e⟩⟩
 obtain ⟨hs, its, n, r, e⟩ := x
 exact ⟨_, e⟩
theorem pe_lstX (h : PA X es t) : PE X (.List es pos) (tLstX t) := by
 intro pins s σ H Q I hq
 refine wpAny_List_spliced (thn (h pos pins s σ H _ I hq) fun us s1 ⟨xs, H1, I1, r, z, q⟩ => ⟨by rw [<- r.length]; exact z, ?_⟩)
 have hf : H1 s1.heap.objs.size = none := I1.hok.fresh (Nat.le_refl _)
 refine ⟨.ref s1.heap.objs.size, upd H1 s1.heap.objs.size (.ext (LstP s1.heap.objs.size xs)), I1.laid (t' := s1.toks) (fun b u e => Heap.get?_push_of_some _ e) (Nat.le_refl _) ?_, rfl, q _ hf⟩
 exact lstP_ok ⟨Nat.ne_of_gt I1.big, us, 0, r, Heap.get?_push_size _ rfl⟩
def mListX (K : PySem.W.Frag) : List V -> Hp -> VK -> Prop := fun xs H Q => match xs with
 | [.ref p] => ∃ ys, SqT K H p ys /\ ∀ l, H l = none -> Q (.ref l) (upd H l (.ext (LstP l ys)))
 | _ => False
theorem cm_listX : CallR X (.type "list") (mListX X.K) := by
 intro pins s σ H xs us Q I r h
 match xs, h with
 | [.ref p], h =>
 obtain ⟨ys, hq, q⟩ := h
 obtain ⟨u, rfl, rx⟩ := vals1 r
 cases rx
 have fin : ∀ (its : List Value), Vals ys its -> ∀ (h' : Heap) (c' : Nat), (∀ b o', s.heap.get? b = some o' -> h'.get? b = some o') ->
  h'.get? s.heap.objs.size = some { cls := .type "list", dict := none, data := .seq its.toArray c', slots := #[] } -> EP X pins σ Q (.ref s.heap.objs.size) { s with heap := h' } := fun its r' h' c' kp e =>
  ⟨.ref s.heap.objs.size, _, I.laid (t' := s.toks) kp (Nat.le_refl _) (lstP_ok (xs := ys) ⟨Nat.ne_of_gt I.big, its, c', r', e⟩), rfl, q _ (I.hok.fresh (Nat.le_refl _))⟩
 obtain ⟨its, r', pl, hz⟩ := I.tuple hq
 have hlen := r'.length
 obtain ⟨o, ho, hc, n, hd⟩ := pl
 exact call_list_seq p (.inr rfl) ho hc hd (fun h' c' kp e => fin its r' h' c' kp e) (by simp only [List.size_toArray] <;> omega)
theorem kListX (hK : X.K = K := by rfl) : CallR X (.type "list") (mListX K) := hK ▸ cm_listX
theorem cm_listX_ : CMono (mListX K) := fun xs H Q Q' h q => by
 unfold mListX at *
 split at q
 ·obtain ⟨ys, a, q⟩ := q; exact ⟨ys, a, fun l hl => h _ _ (q l hl)⟩
 ·exact q.elim
end
def tyW : Dw -> String
 | .non => "NoneType"
 | .bl _ => "bool"
 | .int _ => "int"
 | .str _ => "str"
 | .tup _ => "tuple"
 | .lst _ => "list"
 | .emp => "dict"
def mIsiW (K : PySem.W.Frag) : List V -> Hp -> VK -> Prop := fun xs H Q => match xs with
 | [x, .ty T] => T ∈ kinds /\ ∃ d, RepW K H d x /\ Q (.bl (isTy (tyW d) T)) H
 | _ => False
theorem cm_isiW {X : Cx} : CallR X (.builtin "isinstance") (mIsiW X.K) := by
 intro pins s σ H xs us Q I r q
 match xs, q with
 | [x, .ty T], q =>
  obtain ⟨hT, d, h, q⟩ := q
  have hT' := hT
  unfold kinds at hT'
  simp only [List.mem_cons, List.mem_nil_iff, or_false] at hT'
  cases d with
  | non =>
   unfold RepW at h; subst h
   exact cm_isiD pins s σ H _ us Q I r ⟨hT, .non, by unfold Rep; rfl, q⟩
  | str z =>
   unfold RepW at h; subst h
   exact cm_isiD pins s σ H _ us Q I r ⟨hT, .str z, by unfold Rep; rfl, q⟩
  | bl b =>
   unfold RepW at h; subst h
   exact cm_isiD pins s σ H _ us Q I r ⟨hT, .bl b, by unfold Rep; rfl, q⟩
  | int i =>
   unfold RepW at h; subst h
   exact cm_isiD pins s σ H _ us Q I r ⟨hT, .int i, by unfold Rep; rfl, q⟩
  | tup ds =>
   unfold RepW at h
   obtain ⟨a, ys, rfl, hs, _⟩ := h
   obtain ⟨u, w', rfl, ru, rw'⟩ := vals2 r
   cases rw'
   obtain ⟨ht, hn, Hh, k, hh⟩ := tyS_kit I ru (show TyS X.K H (.ref a) "tuple" from .inl ⟨rfl, ys, hs⟩)
   exact PySem.W.kia_one k I.kIn hh (kitD ht hT) hn fun tk => ⟨.bl (isTy "tuple" T), H, I.tok _, rfl, q⟩
  | lst ds =>
   unfold RepW at h
   obtain ⟨a, ys, rfl, hs, _⟩ := h
   obtain ⟨u, w', rfl, ru, rw'⟩ := vals2 r
   cases rw'
   cases ru
   obtain ⟨⟨_, its, n, _, h1⟩, _⟩ := (show ObjOk X.prog X.w H s.heap a (.ext (LstP a ys)) from I.hok a _ hs)
   exact PySem.W.kia_one PySem.W.kitx_list I.kIn ⟨_, h1, rfl⟩ (kitD (.inr (.inr (.inr rfl))) hT) (fun z => nomatch z) fun tk => ⟨.bl (isTy "list" T), H, I.tok _, rfl, q⟩
  | emp =>
   unfold RepW at h
   obtain ⟨a, rfl, hs⟩ := h
   refine cm_isi pins s σ H _ us Q I r ⟨hT, _, .inr (.inr (.inl ⟨⟨_, hs⟩, rfl⟩)), ?_⟩
   have e : (T == "dict") = isTy (tyW .emp) T := by rcases hT' with rfl | rfl | rfl | rfl | rfl | rfl <;> rfl
   rw [e]; exact q
theorem kIsiW {X : Cx} {K : PySem.W.Frag} (hK : X.K = K := by rfl) : CallR X (.builtin "isinstance") (mIsiW K) := hK ▸ cm_isiW
theorem cm_isiW_ {K : PySem.W.Frag} : CMono (mIsiW K) := fun xs H Q Q' h q => by
 unfold mIsiW at *
 split at q
 ·obtain ⟨a, t, b, q⟩ := q; exact ⟨a, t, b, h _ _ q⟩
 ·exact q.elim
mutual
def pyW : Dw -> PyData
 | .non => .none
 | .bl b => .bool b
 | .int i => .int i
 | .str x => .str x
 | .tup ds => .tuple (pyWs ds)
 | .lst ds => .list (pyWs ds)
 | .emp => .dict []
def pyWs : List Dw -> List PyData
 | [] => []
 | d :: ds => pyW d :: pyWs ds
end
mutual
def depW : Dw -> Nat
 | .tup ds => depWs ds + 1
 | .lst ds => depWs ds + 1
 | .emp => 1
 | _ => 0
def depWs : List Dw -> Nat
 | [] => 0
 | d :: ds => max (depW d) (depWs ds)
end
mutual
def niceW : Dw -> Bool
 | .non => true
 | .bl _ => true
 | .int i => shortI i
 | .str x => x.cps.toList.all fun c => decide (c < 16 ^ 8)
 | .tup ds => niceWs ds
 | .lst ds => niceWs ds
 | .emp => true
def niceWs : List Dw -> Bool
 | [] => true
 | d :: ds => niceW d && niceWs ds
end
mutual
def bulkW : Dw -> Nat
 | .str x => x.cps.size
 | .tup ds => bulkWs ds
 | .lst ds => bulkWs ds
 | _ => 0
def bulkWs : List Dw -> Nat
 | [] => 0
 | d :: ds => bulkW d + 1 + bulkWs ds
end
mutual
theorem pyW_dep : ∀ d : Dw, (pyW d).depth = depW d
 | .non => by simp [pyW, depW, PyData.depth]
 | .bl _ => by simp [pyW, depW, PyData.depth]
 | .int _ => by simp [pyW, depW, PyData.depth]
 | .str _ => by simp [pyW, depW, PyData.depth]
 | .emp => by simp [pyW, depW, PyData.depth, PyData.depthKv]
 | .tup ds => by simp [pyW, depW, PyData.depth, pyWs_dep ds]
 | .lst ds => by simp [pyW, depW, PyData.depth, pyWs_dep ds]
theorem pyWs_dep : ∀ ds : List Dw, PyData.depthAll (pyWs ds) = depWs ds
 | [] => by simp [pyWs, depWs, PyData.depthAll]
 | d :: ds => by simp [pyWs, depWs, PyData.depthAll, pyW_dep d, pyWs_dep ds]
end
mutual
theorem pyW_bulk : ∀ d : Dw, (pyW d).bulk = bulkW d
 | .non => by simp [pyW, PyData.bulk, bulkW]
 | .bl _ => by simp [pyW, PyData.bulk, bulkW]
 | .int _ => by simp [pyW, PyData.bulk, bulkW]
 | .str _ => by simp [pyW, PyData.bulk, bulkW]
 | .emp => by simp [pyW, PyData.bulk, PyData.bulkKv, bulkW]
 | .tup ds => by simp [pyW, PyData.bulk, bulkW, pyWs_bulk ds]
 | .lst ds => by simp [pyW, PyData.bulk, bulkW, pyWs_bulk ds]
theorem pyWs_bulk : ∀ ds : List Dw, PyData.bulkAll (pyWs ds) = bulkWs ds
 | [] => by simp [pyWs, PyData.bulkAll, bulkWs]
 | d :: ds => by simp [pyWs, PyData.bulkAll, bulkWs, pyW_bulk d, pyWs_bulk ds]
end
mutual
theorem pyW_show : ∀ d : Dw, niceW d = true -> (pyW d).showable = true /\ (pyW d).leavesShort 1921 = true
 | .non, _ => by simp [pyW, PyData.showable, PyData.leavesShort]
 | .bl _, _ => by simp [pyW, PyData.showable, PyData.leavesShort]
 | .int i, h => by
  have h1 : i.natAbs.log2 < 1900 := by simpa [niceW, shortI] using h
  have h2 : i.natAbs.log2 < 1920 := by omega
  refine ⟨by simpa [pyW, PyData.showable] using h2, ?_⟩
  simp only [pyW, PyData.leavesShort, decide_eq_true_eq, PyData.shown]
  exact decide_eq_true (PyProof.Rows.int_text_len_1921 h2)
 | .str x, h => by
  refine ⟨by simp [pyW, PyData.showable], ?_⟩
  unfold niceW at h
  unfold pyW PyData.leavesShort
  exact h
 | .emp, _ => by simp [pyW, PyData.showable, PyData.leavesShort, PyData.showableKv, PyData.leavesShortKv]
 | .tup ds, h => by
  have h' := pyWs_show ds (by simpa [niceW] using h)
  simpa [pyW, PyData.showable, PyData.leavesShort] using h'
 | .lst ds, h => by
  have h' := pyWs_show ds (by simpa [niceW] using h)
  simpa [pyW, PyData.showable, PyData.leavesShort] using h'
theorem pyWs_show : ∀ ds : List Dw, niceWs ds = true -> PyData.showableAll (pyWs ds) = true /\ PyData.leavesShortAll 1921 (pyWs ds) = true
 | [], _ => by simp [pyWs, PyData.showableAll, PyData.leavesShortAll]
 | d :: ds, h => by
  have h' : niceW d = true /\ niceWs ds = true := by simpa [niceWs] using h
  have h1 := pyW_show d h'.1
  have h2 := pyWs_show ds h'.2
  simp [pyWs, PyData.showableAll, PyData.leavesShortAll, h1, h2]
end
def shownW (d : Dw) : Str := (pyW d).shown
section
variable {X : Cx} {pins : List (Addr × Obj)} {σ : St} {H : Hp} {s : Shared}
mutual
theorem repW_reads (I : Inv X pins σ H s) : ∀ (d : Dw) (x : V) (u : Value), RepW X.K H d x -> RelV x u -> ∃ as, Reads s.heap u (pyW d) as /\ sysModules ∉ as
 | .non, x, u, h, r => by unfold RepW at h; subst h; cases r; exact ⟨_, by rw [pyW]; exact .none, by simp⟩
 | .bl b, x, u, h, r => by unfold RepW at h; subst h; cases r; exact ⟨_, by rw [pyW]; exact .bool b, by simp⟩
 | .int i, x, u, h, r => by unfold RepW at h; subst h; obtain ⟨t, rfl⟩ := r; exact ⟨_, by rw [pyW]; exact .int i t, by simp⟩
 | .str y, x, u, h, r => by unfold RepW at h; subst h; obtain ⟨t, rfl⟩ := r; exact ⟨_, by rw [pyW]; exact .str y t, by simp⟩
 | .tup ds, x, u, h, r => by
  unfold RepW at h
  obtain ⟨a, xs, rfl, hs, hr⟩ := h
  cases r
  obtain ⟨its, rv, ⟨o, h1, h2, n, h3⟩, _⟩ := I.tuple hs
  obtain ⟨as, ha, hn⟩ := repsW_reads I ds xs its hr rv
  exact ⟨as, by rw [pyW]; exact .tuple h1 h2 h3 ha, hn⟩
 | .lst ds, x, u, h, r => by
  unfold RepW at h
  obtain ⟨a, xs, rfl, hs, hr⟩ := h
  cases r
  obtain ⟨⟨hne, its, n, rv, h1⟩, _⟩ := (show ObjOk X.prog X.w H s.heap a (.ext (LstP a xs)) from I.hok a _ hs)
  obtain ⟨as, ha, hn⟩ := repsW_reads I ds xs its hr rv
  refine ⟨a :: as, by rw [pyW]; exact .list h1 rfl rfl ha, fun hm => ?_⟩
  rcases List.mem_cons.mp hm with e | e
  ·exact hne e.symm
  ·exact hn e
 | .emp, x, u, h, r => by
  unfold RepW at h
  obtain ⟨a, rfl, hs⟩ := h
  cases r
  obtain ⟨_, hne, vs, rel, o, es, ep, h1, h2, h3, _, h5, _⟩ := dk_of I.hok hs
  cases rel
  have he : es.toList = [] := by
   cases q : es.toList with
   | nil => rfl
   | cons e l => rw [q] at h5; cases h5
  refine ⟨a :: [] ++ [], ?_, ?_⟩
  ·rw [pyW]
   exact .dict (kvs := []) h1 h2.1 h3 (by rw [he]; exact .nil) (by rw [he]; exact .nil)
  ·intro hm
   have : sysModules = a := by simpa using hm
   rw [<- this] at hne
   simp at hne
theorem repsW_reads (I : Inv X pins σ H s) : ∀ (ds : List Dw) (xs : List V) (us : List Value), RepsW X.K H ds xs -> Vals xs us -> ∃ as, ReadsAll s.heap us (pyWs ds) as /\ sysModules ∉ as
 | [], xs, us, h, r => by unfold RepsW at h; subst h; cases r; exact ⟨_, by rw [pyWs]; exact .nil, by simp⟩
 | d :: ds, xs, us, h, r => by
  unfold RepsW at h
  obtain ⟨x, l, rfl, h1, h2⟩ := h
  cases r with
  | cons r1 r2 =>
  obtain ⟨as, ha, hn⟩ := repW_reads I d x _ h1 r1
  obtain ⟨bs, hb, hm⟩ := repsW_reads I ds l _ h2 r2
  exact ⟨_, by rw [pyWs]; exact .cons ha hb, fun z => (List.mem_append.mp z).elim hn hm⟩
end
end
section
variable {X : Cx} {K : PySem.W.Frag}
def mNeX (K : PySem.W.Frag) : R2 := fun x y H Q => match x, y with
 | .int a, .int b => Q (.bl (!(a == b))) H
 | .ref a, .ref b => ∃ xs, ((SqT K H a xs /\ SqT K H b []) \/ (SqL K H a xs /\ SqL K H b [])) /\ Q (.bl (!xs.isEmpty)) H
 | _, _ => False
theorem om_neX (hu : X.A.units + 60 < cLine) : OpR X (compareOp .NotEq) (mNeX X.K) := by
 intro pins s σ H x y v u Q I rx ry q
 have hu' : X.A.units < cLine := by omega
 cases x <;> cases y <;> first | exact False.elim q | skip
 ·rename_i a b
  exact om_neAll hu pins s σ H _ _ v u Q I rx ry ⟨.int a, .int b, by unfold Rep; rfl, by unfold Rep; rfl, by unfold depD; omega, by unfold eqD; exact q⟩
 rename_i a b
 cases rx
 cases ry
 obtain ⟨xs, hq, q⟩ := q
 rcases hq with ⟨ha, hb⟩ | ⟨ha, hb⟩
 ·obtain ⟨its, r1, p1, _⟩ := I.tuple ha
  obtain ⟨its2, r2, p2, _⟩ := I.tuple hb
  cases r2
  have N := SeqAt.RcNeAt.tuples (A := X.A) (e := fun _ => false) p1 p2 hu' (fun j h1 h2 => absurd h2 (by simp))
  refine N X.prog X.w _ _ ⟨.bl _, H, I, rfl, ?_⟩
  cases r1 <;> simpa using q
 ·obtain ⟨its, r1, p1, _⟩ := I.list ha
  obtain ⟨its2, r2, p2, _⟩ := I.list hb
  cases r2
  cases r1 with
  | nil =>
   have N := SeqAt.RcNeAt.lists (A := X.A) (e := fun _ => false) p1.isList p2.isList rfl hu' (fun j h1 h2 => absurd h2 (by simp))
   refine N X.prog X.w _ _ ⟨.bl _, H, I, rfl, ?_⟩
   simpa using q
  | cons r t =>
   have N := SeqAt.RcNeAt.lists_lengths (A := X.A) p1.isList p2.isList (by simp) hu'
   refine N X.prog X.w _ _ ⟨.bl _, H, I, rfl, ?_⟩
   simpa using q
theorem kNeX (hu : X.A.units + 60 < cLine) (hK : X.K = K := by rfl) : OpR X (compareOp .NotEq) (mNeX K) := hK ▸ om_neX hu
theorem rm_neX : RMono (mNeX K) := fun x y H Q Q' m q => by
 cases x <;> cases y <;> first
  | exact False.elim q
  | exact m _ _ q
  | skip
 obtain ⟨xs, h, q⟩ := q
 exact ⟨xs, h, m _ _ q⟩
end
def mStr : List V -> Hp -> VK -> Prop := fun xs H Q => match xs with
 | [.int i] => i.natAbs.log2 < 1920 /\ Q (.str (toString i)) H
 | _ => False
theorem cm_str {X : Cx} : CallR X (.type "str") mStr := call_str_int.imp fun xs H Q q => by
 match xs, q with
 | [.int i], ⟨h, q⟩ => exact ⟨i, rfl, h, q⟩
theorem cm_str_ : CMono mStr := fun xs H Q Q' h q => by
 unfold mStr at *
 split at q
 ·exact ⟨q.1, h _ _ q.2⟩
 ·exact q.elim
theorem ofString_nice (x : String) : ((x : Str).cps.toList.all fun c => decide (c < 16 ^ 8)) = true := by
 rw [List.all_eq_true]
 intro c hc
 have hc' : c ∈ (Str.ofString x).cps.toList := hc
 have e : (Str.ofString x).cps.toList = x.toList.map Char.toNat := by
  show (cpsOfBytes 0 0 x.toByteArray.data.toList).toArray.toList = _
  rw [cpsOfBytes_string]
 rw [e] at hc'
 obtain ⟨d, _, rfl⟩ := List.mem_map.mp hc'
 rw [decide_eq_true_eq]
 exact Nat.lt_of_lt_of_le (UInt32.toNat_lt d.val) (by decide)
mutual
def okW (n : Nat) : Dw -> Bool
 | .int i => decide (i.natAbs <= n)
 | .str x => x.cps.toList.all fun c => decide (c < 16 ^ 8)
 | .tup ds => okWs n ds
 | .lst ds => okWs n ds
 | _ => true
def okWs (n : Nat) : List Dw -> Bool
 | [] => true
 | d :: ds => okW n d && okWs n ds
end
theorem okWs_all (n : Nat) : ∀ ds : List Dw, okWs n ds = ds.all (okW n)
 | [] => by simp [okWs]
 | d :: ds => by simp [okWs, okWs_all n ds]
mutual
theorem okW_mono {n m : Nat} (h : n <= m) : ∀ d : Dw, okW n d = true -> okW m d = true
 | .non, _ => by simp [okW]
 | .bl _, _ => by simp [okW]
 | .emp, _ => by simp [okW]
 | .int i, k => by
  unfold okW at *
  rw [decide_eq_true_eq] at *
  omega
 | .str x, k => by unfold okW at *; exact k
 | .tup ds, k => by unfold okW at *; exact okWs_mono h ds k
 | .lst ds, k => by unfold okW at *; exact okWs_mono h ds k
theorem okWs_mono {n m : Nat} (h : n <= m) : ∀ ds : List Dw, okWs n ds = true -> okWs m ds = true
 | [], _ => by simp [okWs]
 | d :: ds, k => by
  unfold okWs at *
  rw [Bool.and_eq_true] at *
  exact ⟨okW_mono h d k.1, okWs_mono h ds k.2⟩
end
mutual
theorem okW_nice {n : Nat} (h : n < 2 ^ 100) : ∀ d : Dw, okW n d = true -> niceW d = true
 | .non, _ => by simp [niceW]
 | .bl _, _ => by simp [niceW]
 | .emp, _ => by simp [niceW]
 | .int i, k => by
  unfold okW at k
  rw [decide_eq_true_eq] at k
  unfold niceW shortI
  rw [decide_eq_true_eq]
  by_cases h0 : i.natAbs = 0
  ·rw [h0]; decide
  ·have := (Nat.log2_lt h0).mpr (Nat.lt_of_le_of_lt k h)
   omega
 | .str x, k => by unfold okW at k; unfold niceW; exact k
 | .tup ds, k => by unfold okW at k; unfold niceW; exact okWs_nice h ds k
 | .lst ds, k => by unfold okW at k; unfold niceW; exact okWs_nice h ds k
theorem okWs_nice {n : Nat} (h : n < 2 ^ 100) : ∀ ds : List Dw, okWs n ds = true -> niceWs ds = true
 | [], _ => by simp [niceWs]
 | d :: ds, k => by
  unfold okWs at k
  unfold niceWs
  rw [Bool.and_eq_true] at *
  exact ⟨okW_nice h d k.1, okWs_nice h ds k.2⟩
end
theorem depWs_le {D : Nat} : ∀ {ds : List Dw}, depWs ds <= D ↔ ∀ e ∈ ds, depW e <= D
 | [] => by simp [depWs]
 | d :: ds => by
  unfold depWs
  simp only [List.mem_cons, forall_eq_or_imp, <- depWs_le (ds := ds)]
  omega
theorem bulkWs_app : ∀ ds es : List Dw, bulkWs (ds ++ es) = bulkWs ds + bulkWs es
 | [], es => by rw [List.nil_append]; simp [bulkWs]
 | d :: ds, es => by
  rw [List.cons_append]
  show bulkW d + 1 + bulkWs (ds ++ es) = bulkW d + 1 + bulkWs ds + bulkWs es
  rw [bulkWs_app ds es]
  omega
theorem bulkWs_take (ds : List Dw) (k : Nat) : bulkWs (ds.take k) <= bulkWs ds := by
 have := bulkWs_app (ds.take k) (ds.drop k)
 rw [List.take_append_drop] at this
 omega
theorem bulkWs_drop (ds : List Dw) (k : Nat) : bulkWs (ds.drop k) <= bulkWs ds := by
 have := bulkWs_app (ds.take k) (ds.drop k)
 rw [List.take_append_drop] at this
 omega
theorem bulkWs_rev : ∀ ds : List Dw, bulkWs ds.reverse = bulkWs ds
 | [] => rfl
 | d :: ds => by
  rw [List.reverse_cons, bulkWs_app, bulkWs_rev ds]
  show bulkWs ds + (bulkW d + 1 + 0) = bulkW d + 1 + bulkWs ds
  omega
theorem bulkWs_at {ds : List Dw} {i : Nat} {d : Dw} (h : ds[i]? = some d) : bulkWs (ds.take i) + (bulkW d + 1) + bulkWs (ds.drop (i + 1)) = bulkWs ds := by
 have hi := (List.getElem?_eq_some_iff.mp h).1
 have e : ds = ds.take i ++ d :: ds.drop (i + 1) := by
  have h2 := List.getElem?_eq_some_iff.mp h
  rw [<- h2.2, List.getElem_cons_drop, List.take_append_drop]
 have := congrArg bulkWs e
 rw [bulkWs_app] at this
 have e2 : bulkWs (d :: ds.drop (i + 1)) = bulkW d + 1 + bulkWs (ds.drop (i + 1)) := rfl
 omega
theorem bulkWs_len : ∀ ds : List Dw, ds.length <= bulkWs ds
 | [] => Nat.zero_le _
 | d :: ds => by
  have := bulkWs_len ds
  show ds.length + 1 <= bulkW d + 1 + bulkWs ds
  omega
structure Fit (n D B : Nat) (d : Dw) : Prop where
 ok : okW n d = true
 dep : depW d <= D
 bulk : bulkW d <= B
theorem fit_tup {n D B : Nat} {ds : List Dw} : Fit n (D + 1) B (.tup ds) ↔ (∀ e ∈ ds, okW n e = true /\ depW e <= D) /\ bulkWs ds <= B := by
 constructor
 ·rintro ⟨h1, h2, h3⟩
  unfold okW at h1
  unfold depW at h2
  unfold bulkW at h3
  rw [okWs_all] at h1
  exact ⟨fun e he => ⟨List.all_eq_true.mp h1 e he, depWs_le.mp (by omega) e he⟩, h3⟩
 ·rintro ⟨h1, h3⟩
  refine ⟨?_, ?_, ?_⟩
  ·unfold okW; rw [okWs_all]; exact List.all_eq_true.mpr fun e he => (h1 e he).1
  ·unfold depW
   have := depWs_le.mpr fun e he => (h1 e he).2
   omega
  ·unfold bulkW; exact h3
theorem fit_lst {n D B : Nat} {ds : List Dw} : Fit n D B (.lst ds) ↔ Fit n D B (.tup ds) := by
 constructor
 ·rintro ⟨h1, h2, h3⟩
  exact ⟨by unfold okW at *; exact h1, by unfold depW at *; exact h2, by unfold bulkW at *; exact h3⟩
 ·rintro ⟨h1, h2, h3⟩
  exact ⟨by unfold okW at *; exact h1, by unfold depW at *; exact h2, by unfold bulkW at *; exact h3⟩
theorem fit_non {n D B : Nat} : Fit n D B .non := ⟨by simp [okW], by simp [depW], by simp [bulkW]⟩
theorem fit_bl {n D B : Nat} {b : Bool} : Fit n D B (.bl b) := ⟨by simp [okW], by simp [depW], by simp [bulkW]⟩
theorem fit_int {n D B : Nat} {i : Int} (h : i.natAbs <= n) : Fit n D B (.int i) := ⟨by simp [okW, h], by simp [depW], by simp [bulkW]⟩
theorem fit_emp {n D B : Nat} : Fit n (D + 1) B .emp := ⟨by simp [okW], by simp [depW], by simp [bulkW]⟩
theorem fit_str {n D B : Nat} {x : String} (h : x.length <= B) : Fit n D B (.str (x : Str)) := by
 refine ⟨by unfold okW; exact ofString_nice x, by simp [depW], ?_⟩
 have : ((x : Str) : Str).length = x.length := PySem.ofString_length x
 unfold bulkW
 exact Nat.le_trans (Nat.le_of_eq this) h
theorem fit_num {n D B : Nat} {i : Int} (h : i.natAbs < 10 ^ 30) (hB : 31 <= B) : Fit n D B (.str ((toString i : String) : Str)) := fit_str (Nat.le_trans (PySem.int_text_length_le10 (k := 30) (by decide) h) hB)
theorem firstMet_nodup (val : Nat -> Int) : ∀ i, (firstMet val i).Nodup
 | 0 => by rw [firstMet_zero]; exact List.nodup_nil
 | i + 1 => by
  rw [firstMet_succ]
  unfold step_dedup
  have ih := firstMet_nodup val i
  split
  ·exact ih
  ·rename_i h
   rw [List.nodup_append]
   refine ⟨ih, by simp, ?_⟩
   intro a ha b hb e
   rw [List.mem_singleton.mp hb] at e
   exact h (List.any_eq_true.mpr ⟨a, ha, by rw [e]; simp⟩)
theorem firstMet_mem (ns : List Int) (k : Int) : k ∈ firstMet (fun i => ns.getD i 0) ns.length ↔ k ∈ ns := by
 have h := firstMet_any (fun i => ns.getD i 0) ns.length k
 have e : (List.range ns.length).map (fun i => ns.getD i 0) = ns := by
  apply List.ext_getElem
  ·simp
  ·intro i h1 h2
   simp
   rw [List.getElem?_eq_getElem h2]; rfl
 rw [e] at h
 have a1 : ∀ l : List Int, l.any (· == k) = true ↔ k ∈ l := fun l => by simp
 rw [<- a1, <- a1, h]
def setO (ds : List Int) : HO := .set (fun k => ds.any (· == k)) ds.length
def mSetL (K : PySem.W.Frag) : List V -> Hp -> VK -> Prop := fun xs H Q => match xs with
 | [.ref p] => ∃ ns : List Int, SqL K H p (ns.map V.int) /\ ns.length <= 1000 /\ ∀ (ds : List Int) q, ds.Nodup -> (∀ k, k ∈ ds ↔ k ∈ ns) -> H q = none -> Q (.ref q) (upd H q (setO ds))
 | _ => False
section
variable {X : Cx} {K : PySem.W.Frag}
theorem cm_setL (hh : X.calm = true) : CallR X (.type "set") (mSetL X.K) := by
 intro pins s σ H xs us Q I r h
 match xs, h with
 | [.ref p], h =>
 obtain ⟨ns, hq, hn, q⟩ := h
 obtain ⟨u, rfl, rx⟩ := vals1 r
 cases rx
 obtain ⟨its, rv, pl, hz⟩ := I.list hq
 have hi : IntsAre its ns := by simpa using intsAre_of rv
 have hlen : its.length = ns.length := by rw [<- rv.length, List.length_map]
 refine call_set_list (ns := ns) (I.ok.hd hh) pl.isList (by simpa using hi) (by rw [List.size_toArray, hlen]; show ns.length + 1 < 4096; omega) fun h' tk hs hk => ?_
 have hsz : its.toArray.size = ns.length := by rw [List.size_toArray, hlen]
 rw [hsz] at hs
 refine ⟨.ref s.heap.objs.size, _, I.laid (t' := tk) (o := setO (firstMet (fun i => ns.getD i 0) ns.length)) (fun b o e => hk b o (Heap.lt_size e) e) (Nat.le_refl _) hs, rfl, q _ _ (firstMet_nodup _ _) (firstMet_mem ns) (I.hok.fresh (Nat.le_refl _))⟩
theorem kSetL (hh : X.calm = true) (hK : X.K = K := by rfl) : CallR X (.type "set") (mSetL K) := hK ▸ cm_setL hh
theorem cm_setL_ : CMono (mSetL K) := fun xs H Q Q' h q => by
 unfold mSetL at *
 split at q
 ·obtain ⟨ns, a, b, q⟩ := q; exact ⟨ns, a, b, fun ds p x1 x2 x3 => h _ _ (q ds p x1 x2 x3)⟩
 ·exact q.elim
def mLenSet : List V -> Hp -> VK -> Prop := fun xs H Q => match xs with
 | [.ref p] => ∃ ds : List Int, H p = some (setO ds) /\ Q (.int ds.length) H
 | _ => False
theorem cm_lenSet : CallR X (.builtin "len") mLenSet := by
 intro pins s σ H xs us Q I r h
 match xs, h with
 | [.ref p], h =>
 obtain ⟨ds, hq, q⟩ := h
 obtain ⟨u, rfl, rx⟩ := vals1 r
 cases rx
 obtain ⟨o, es, ep, t, h1, h2, h3, _, _, h6, h7, h8⟩ := (show ObjOk X.prog X.w H s.heap p (setO ds) from I.hok p _ hq)
 refine call_len_set h1 h2 h3 h7 (Int.lt_trans (Int.ofNat_lt.mpr h6) (by decide)) ⟨.int ds.length, H, I.tok _, ⟨_, by rw [h8]⟩, q⟩
theorem cm_lenSet_ : CMono mLenSet := fun xs H Q Q' h q => by
 unfold mLenSet at *
 split at q
 ·obtain ⟨ds, a, q⟩ := q; exact ⟨ds, a, h _ _ q⟩
 ·exact q.elim
end
def Ris (xs : Array Nat) : Prop := xs.toList.Pairwise (· < ·)
structure TabG (w : World) (t : SetTable) : Prop where
 led : t.led = !w.params.followText "set-order"
 ris : Ris t.place
def SetW (P : Program) (w : World) (h : Heap) (a : Addr) (S : Int -> Bool) (n : Nat) : Prop :=
 ∃ o es ep t, h.get? a = some o /\ o.ExactSet /\ o.data = .set es ep t /\ ElemsOf (intKind P w) es.toList /\ (∀ k, S k = true ↔ ∃ e ∈ es.toList, (intKind P w).is k e.2 = true) /\ es.size < scanBound /\ t.fits es.size = true /\ es.size = n /\ TabG w t
section
variable {P : Program} {w : World} {A : Around} {E : Value -> Shared -> Prop} {s : Shared} {a : Addr}
theorem SetW.at {h h' : Heap} {S : Int -> Bool} {n : Nat} (x : SetW P w h a S n) (k : ∀ o, h.get? a = some o -> h'.get? a = some o) : SetW P w h' a S n := by
 obtain ⟨o, es, ep, t, h1, r⟩ := x; exact ⟨o, es, ep, t, k _ h1, r⟩
end
section
variable {P : Program} {w : World} {A : Around} {E : Value -> Shared -> Prop} {s : Shared} {a : Addr}
theorem SetW.congr {h : Heap} {S S' : Int -> Bool} {n n' : Nat} (x : SetW P w h a S n) (e : ∀ k, S k = S' k) (en : n = n') : SetW P w h a S' n' := by
 obtain rfl : S = S' := funext e
 subst en; exact x
end
namespace F
end F
def IsSetIter (h : Heap) (I : Addr) (f : Value) (i : Nat) (a : Addr) (n ep : Nat) : Prop := ∃ o, h.get? I = some o /\ o.cls = .type "set_iterator" /\ o.data = .fields #[f, .int i 0, .ref a, .int n 0, .int ep 0]
theorem IsSetIter.at {h h' : Heap} {I a : Addr} {f : Value} {i n ep : Nat} (x : IsSetIter h I f i a n ep) (e : ∀ o, h.get? I = some o -> h'.get? I = some o) : IsSetIter h' I f i a n ep := let ⟨o, ho, r⟩ := x; ⟨o, e _ ho, r⟩
section
variable {P : Program} {w : World} {A : Around} {E : Value -> Shared -> Prop} {s : Shared} {a I : Addr}
end
section
variable {P : Program} {w : World} {A : Around} {E : Value -> Shared -> Prop} {s : Shared} {a I : Addr}
end
end L2
namespace L2
open PySem PySem.Spec PyProof.Rows PySem.W PySem.Calls
section
variable {P : Program} {w : World} {A : Around} {E : Value -> Shared -> Prop} {s : Shared} {a I : Addr}
end
end L2
namespace L2
open PySem PySem.Spec PyProof.Rows
section
variable {X : Cx} {K : PySem.W.Frag} {P : Program} {w : World}
variable {C : Addr} {f : Str} {e o value : Expr} {ta tv td ty : TE} {pos pos' : Pos}
def mDIn (neg : Bool) : R2 := fun y x H Q => match x with
 | .ref a => ∃ o, DGet H a y o /\ Q (.bl (xor neg o.isSome)) H
 | _ => False
theorem kDNot (hu : X.A.units + 60 < cLine) : OpR X (compareOp .NotIn) (mDIn true) := by
 intro pins s σ H y x v u Q I ry rx q
 match x, q with
 | .ref a, ⟨o, g, q⟩ =>
 obtain rfl : u = Value.ref a := rx
 exact d_notIn (hu_one hu) I g ry fun s3 I3 => ⟨.bl (!o.isSome), H, I3, rfl, (by cases o <;> exact q)⟩
theorem rm_dIn {b : Bool} : RMono (mDIn b) := fun x y H Q Q' h q => by
 unfold mDIn at *
 split at q
 ·obtain ⟨o, a, q⟩ := q; exact ⟨o, a, h _ _ q⟩
 ·exact q.elim
end
theorem em_dnewT : EMono tDNewT := fun σ H Q Q' h q p hp => h _ _ (q p hp)
end L2
namespace L2
open PySem PySem.Spec PyProof.Rows PySem.W
end L2
namespace L2
open PySem PySem.Spec PyProof.Rows PySem.W PySem.Calls
section
variable {P : Program} {w : World} {A : Around} {E : Value -> Shared -> Prop} {s : Shared}
end
end L2
namespace L2
open PySem PySem.Spec PyProof.Rows PySem.W
section
variable {P : Program} {w : World} {A : Around} {E : Value -> Shared -> Prop} {s : Shared}
end
section
variable {X : Cx}
end
def KeepV (K : PySem.W.Frag) (base : Heap) (f : Addr) : Prop := PySem.W.keepIn K (.ref f) = true \/ ∃ o fd, base.get? f = some o /\ o.data = .func fd
def tCallV (f : Addr) (sp : Sp) (tn : TE) (t : TA) : TE := fun σ H Q => tn σ H fun v H1 => v = .ref f /\ t σ H1 fun vs H2 => sp vs H2 Q E0
section
variable {X : Cx} {k : Nat} {f : Addr} {fd : FuncData} {ps : List Str} {sp : Sp} {x : Str} {p pos : Pos} {e : Expr} {es : List Expr} {t : TA} {tn : TE}
theorem pe_callV (hn : PE X (.Name x p) tn) (F : FnOk X.prog X.w X.K X.mg X.base CX0 k f fd ps sp) (hr : Room k X.A) (hf : KeepV X.K X.base f) (hb : Binds X.K fd ps []) (ha : PA X (e :: es) t)
 (he : starEach (e :: es) X.env = (false, eval e X.env) :: starEach es X.env := by rfl) (hpl : (backTo pos (starEach es X.env)).any (·.1) = false := by rfl) :
 PE X (.Call (.Name x p) (e :: es) [] pos) (tCallV f sp tn t) := by
 intro pins s σ H Q I h
 refine wpAny_Call_Name_kw (thn (hn pins s σ H _ I h) fun v s1 ⟨y, H1, I1, r1, q1⟩ => ?_)
 obtain ⟨rfl, q1⟩ := q1
 cases r1
 have fin : ∀ (us : List Value) (s2 : Shared), (∃ vs H2, Inv X pins σ H2 s2 /\ Vals vs us /\ sp vs H2 Q E0) -> wpAny (model X.prog X.w) X.A (call (.ref f) us) (EP X pins σ Q) X.xe s2 := fun us s2 ⟨vs, H2, I2, r, q⟩ =>
  run_fn F hr hb .nil pass0 I2 r (by rw [List.append_nil]; exact q)
 rcases hf with hk | ⟨o, fd', e1, e2⟩
 ·refine PySem.W.callWith_K (h₀ := X.base) I.ok.mod.kin hk (thn (ha pos pins s1 σ H1 _ I1 q1) fun us s2 ⟨vs, H2, I2, r, q⟩ => ⟨I2.kIn, fin us s2 ⟨vs, H2, I2, r, q⟩⟩) he hpl
 ·have h0 := thn (ha pos pins s1 σ H1 _ I1 q1) fun us s2 ⟨vs, H2, I2, r, q⟩ => (show s2.heap.get? f = some o /\ wpAny (model X.prog X.w) X.A (call (.ref f) ([] ++ us)) (EP X pins σ Q) X.xe s2 from ⟨I2.bk _ _ e1, fin us s2 ⟨vs, H2, I2, r, q⟩⟩)
  rw [he] at h0 ⊢
  refine callWith_of (P := fun h => h.get? f = some o) (by show ((false || (backTo pos (starEach es X.env)).any (·.1)) || false) = false; rw [hpl]; rfl) (fun h hh => ⟨.frame, .inl rfl, (Looks.ld (part := none) hh).andThen ?_⟩) (Calls.evalArgs_plain h0)
  rw [e2]
  exact .now
theorem em_callV (h1 : EMono tn) (h2 : AMono t) (hs : SpMono sp) : EMono (tCallV f sp tn t) := fun σ H Q Q' k q => h1 _ _ _ _ (fun v H1 q => ⟨q.1, h2 _ _ _ _ (fun vs H2 q => hs vs H2 Q Q' E0 k q) q.2⟩) q
end
section
variable {X : Cx} {pins : List (Addr × Obj)} {σ : St} {H : Hp} {s : Shared}
theorem Inv.pin1 (I : Inv X pins σ H s) {a : Addr} {o : Obj} (ha : s.heap.get? a = some o) (n : H a = none) (h1 : a ≠ X.env.locals) (h2 : a ∉ X.fs) (h3 : ∀ v, o.data ≠ .cell v) : Inv X ((a, o) :: pins) σ H s := by
 refine ⟨I.ok, I.os, I.bare, I.base, I.loc, I.cell, I.free, I.freeC, fun p hp => ?_, I.hok, I.len⟩
 rcases List.mem_append.mp hp with z | z
 ·exact I.pin p (List.mem_append_left _ z)
 ·rcases List.mem_cons.mp z with rfl | z
  ·exact ⟨ha, n, h1, h2, h3⟩
  ·exact I.pin p (List.mem_append_right _ z)
theorem Inv.unpin1 {q : Addr × Obj} (I : Inv X (q :: pins) σ H s) : Inv X pins σ H s := by
 refine ⟨I.ok, I.os, I.bare, I.base, I.loc, I.cell, I.free, I.freeC, fun p hp => ?_, I.hok, I.len⟩
 rcases List.mem_append.mp hp with z | z
 ·exact I.pin p (List.mem_append_left _ z)
 ·exact I.pin p (List.mem_append_right _ (List.mem_cons_of_mem _ z))
def bigH (X : Cx) (H : Hp) : Hp := fun b => if b ∈ frs X.stack then some (.tup []) else H b
def bigB (X : Cx) (H : Hp) (s : Shared) : Heap := hidT s.heap (bigH X H)
theorem big_get {b : Addr} {o : Obj} (e : s.heap.get? b = some o) (n : H b = none) (f : b ∉ frs X.stack) : (bigB X H s).get? b = some o := hidT_get e (by unfold bigH; rw [if_neg f]; exact n)
theorem big_of {b : Addr} {o : Obj} (e : (bigB X H s).get? b = some o) : s.heap.get? b = some o /\ H b = none /\ b ∉ frs X.stack := by
 obtain ⟨h1, h2⟩ := of_hidT e
 unfold bigH at h2
 by_cases f : b ∈ frs X.stack
 ·rw [if_pos f] at h2; cases h2
 ·rw [if_neg f] at h2; exact ⟨h1, h2, f⟩
theorem funFrames_re {h base base' : Heap} : ∀ {l : List Env}, h.FunFrames base l -> (∀ b ∈ frs l, base'.get? b = none) -> h.FunFrames base' l
 | [], _, _ => trivial
 | env :: l, ⟨a, ⟨L, o, e1, _, e3, e4⟩, r⟩, hb => by
  refine ⟨a, ⟨L, o, e1, hb L ?_, e3, e4⟩, funFrames_re r fun b hb' => hb b ?_⟩
  ·rw [frs, List.filterMap_cons, e1]; exact List.mem_cons_self ..
  ·rw [frs, List.filterMap_cons, e1]; exact List.mem_cons_of_mem _ hb'
theorem big_sub (I : Inv X pins σ H s) : ∀ b o, X.base.get? b = some o -> (bigB X H s).get? b = some o := fun b o e =>
 big_get (I.bs b o e).1 (I.bs b o e).2 fun z => by
  have := (I.stack.mem z).1
  rw [e] at this; cases this
theorem big_env (I : Inv X pins σ H s) : Env0 X.prog X.w X.K X.mg (bigB X H s) X.A X.stack s H := by
 have sub := big_sub I
 refine ⟨I.ok.frames, ⟨I.ok.mod.kin.keeps sub, I.ok.mod.glob.keeps sub, let ⟨mb, h1, h2⟩ := I.ok.mod.blt; ⟨mb, h1.keeps sub, h2⟩, I.ok.mod.nolimit.keeps sub⟩, fun b o e => ⟨(big_of e).1, (big_of e).2.1⟩, Nat.le_of_eq (hidT_size _ _), funFrames_re I.stack fun b hb => ?_, I.stkFree, I.hok, I.bare⟩
 cases e : (bigB X H s).get? b with
 | none => rfl
 | some o => exact absurd hb (big_of e).2.2
theorem run_big {k : Nat} {f : Addr} {fd : FuncData} {ps : List Str} {sp : Sp} {us : List Value} {vs : List V} {Q : VK} (I : Inv X pins σ H s) (F : FnOk X.prog X.w X.K X.mg (bigB X H s) CX0 k f fd ps sp) (hr : Room k X.A) (hb : Binds X.K fd ps [])
 (r : Vals vs us) (h : sp vs H Q E0) : wpAny (model X.prog X.w) X.A (call (.ref f) us) (EP X pins σ Q) X.xe s := by
 have hl : (us ++ []).length = ps.length := by rw [List.append_nil, <- r.length]; exact F.len _ _ _ _ h
 have hbb := hb s us I.kIn hl
 rw [List.append_nil] at hbb
 refine wpAny_call (codeAny_mono (F.run X.A X.stack s H ⟨us, []⟩ us vs Q E0 hr (big_env I) hbb r h) fun r s' hq => ?_)
 cases r with
 | error e => exact False.elim hq
 | ok fl =>
  cases fl with
  | ret u => exact I.after hq
  | next => exact False.elim hq
  | brk => exact False.elim hq
  | cont => exact False.elim hq
end
section
variable {X : Cx} {Pt c f : Addr} {fd : FuncData} {ps : List Str} {k i : Nat} {kn a : Str} {kp pos lpos : Pos} {params : Arguments} {body : Expr} {scope : Scope} {e : Expr} {es : List Expr} {t : TA} {qual : Str} {spK : Addr -> Addr -> V -> Sp}
def tLamCall (Pt : Addr) (lpos : Pos) (qual : Str) (i : Nat) (spK : Addr -> Addr -> V -> Sp) (t : TA) : TE := fun σ H Q => ∃ vA, σ[i]? = some (some vA) /\ Lam Pt lpos qual H /\
 ∀ lam c' H1, Grow Pt H H1 -> Lam Pt lpos qual H1 -> H1 c' = some (CdO c' qual) -> H1 lam = none -> t σ H1 fun vs H2 => spK lam c' vA (.ref lam :: vs) H2 Q E0
theorem pe_lamcall (hg : Gl X kn) (hm : X.mg kn = some (.ref f)) (hk : PySem.W.keepIn X.K (.ref f) = true) (hr : Room k X.A) (hb : Binds X.K fd ps []) (hcode : X.env.code = .ref c) (hcK : codeHdIn X.K c Pt = true) (hbm : BMn X.mg X.base)
 (hq : X.env.qual ++ "<lambda>" = qual) (hdef : defaultsOf params X.env = ([], [])) (hN : X.N[i]? = some a) (hcl : ∀ cell, X.env.cells.lookup a = some cell -> closureFor scope X.env = pure [(a, cell)]) (hka : X.env.kindOf a = some .cell) (hfn : X.fn a = true)
 (hF : ∀ (base' : Heap) (lam cell c' : Addr) (pm ctv uA : Value) (vA : V), (∀ b o, X.base.get? b = some o -> base'.get? b = some o) -> base'.get? lam = some (kla_obj "<lambda>" qual params body scope [(a, cell)] pm c' ctv) -> base'.IsCell cell (some uA) -> RelV vA uA -> FnOk X.prog X.w X.K X.mg base' CX0 k f fd ps (spK lam c' vA))
 (ha : PA X (e :: es) t) (hd : (kn == ("__debug__" : Str)) = false := by decide)
 (he : starEach (.Lambda params body scope lpos :: e :: es) X.env = (false, eval (.Lambda params body scope lpos) X.env) :: starEach (e :: es) X.env := by rfl) (hpl : (backTo pos (starEach (e :: es) X.env)).any (·.1) = false := by rfl) :
 PE X (.Call (.Name kn kp) (.Lambda params body scope lpos :: e :: es) [] pos) (tLamCall Pt lpos qual i spK t) := by
 intro pins s1 σ H1 Q I1 h
 subst hq
 obtain ⟨vA, hv, hL, hQ⟩ := h
 refine wpAny_Call_Name_kw (ld_glob I1 hg hm ?_ hd)
 refine PySem.W.callWith_K (h₀ := X.base) I1.ok.mod.kin hk ?_ he hpl
 rw [he]
 show wpAny _ _ (spliced ((false, eval (.Lambda params body scope lpos) X.env) :: backTo pos (starEach (e :: es) X.env))) _ _ s1
 refine Calls.spliced_cons ?_
 obtain ⟨Pps, hP, htr, hcs⟩ := id hL
 have fin : ∀ (H2 : Hp) (s2 : Shared) (lam c' cell : Addr) (pm ctv : Value), Inv X pins σ H2 s2 -> X.env.cells.lookup a = some cell -> s2.heap.get? lam = some (kla_obj "<lambda>" (X.env.qual ++ "<lambda>") params body scope [(a, cell)] pm c' ctv) ->
  H2 lam = none -> lam ≠ X.env.locals -> lam ∉ X.fs -> Grow Pt H1 H2 -> Lam Pt lpos (X.env.qual ++ "<lambda>") H2 -> H2 c' = some (CdO c' (X.env.qual ++ "<lambda>")) ->
  wpAny (model X.prog X.w) X.A (spliced (backTo pos (starEach (e :: es) X.env))) (fun us s3 => X.K.In s3.heap /\ wpAny (model X.prog X.w) X.A (call (.ref f) ([] ++ Value.ref lam :: us)) (EP X pins σ Q) X.xe s3) X.xe s2 := by
  intro H2 s2 lam c' cell pm ctv I2 hcell hf hn hnl hnf hG hL2 hc'
  have J := I2.pin1 hf hn hnl hnf (fun v z => by cases z)
  refine thn (ha pos _ s2 σ H2 _ J (hQ lam c' H2 hG hL2 hc' hn)) fun us s3 ⟨vs, H3, I3, r3, q3⟩ => ⟨I3.kIn, ?_⟩
  have hl3 := (I3.pin (lam, _) (List.mem_append_right _ (List.mem_cons_self ..)))
  obtain ⟨m, hns, hloc⟩ := I3.loc
  obtain ⟨uA, rA, look⟩ := hloc i a vA hN hv (.inr (.inl hka))
  rcases look with ⟨z, _⟩ | ⟨_, cell', e1, e2⟩
  ·rw [hka] at z; cases z
  rw [hcell] at e1
  cases e1
  have I4 := I3.unpin1
  have lamS : lam ∉ frs X.stack := fun z => by
   rcases List.mem_cons.mp (I3.stkSub _ z) with z | z
   ·exact hl3.2.2.1 z
   ·exact hl3.2.2.2.1 z
  have cellS : cell ∉ frs X.stack := fun z => by
   rcases List.mem_cons.mp (I3.stkSub _ z) with z | z
   ·exact I3.cne _ _ hcell z
   ·obtain ⟨_, o, ho, _⟩ := I3.ok.funs.mem z
    exact absurd (Nat.lt_of_lt_of_le (Heap.lt_size ho) (I3.ok.cab a cell hfn hcell)) (Nat.lt_irrefl _)
  refine run_big I4 (hF _ lam cell c' pm ctv uA vA (big_sub I4) (big_get hl3.1 hl3.2.1 lamS) ?_ rA) hr hb (.cons (show RelV (.ref lam) (.ref lam) from rfl) r3) q3
  obtain ⟨o, ho, hd'⟩ := e2
  exact ⟨o, big_get ho (I3.freeC _ _ hcell) cellS, hd'⟩
 obtain ⟨cell, hcell⟩ := I1.ok.has a (.inl hka)
 have gl : ∀ {s : Shared} {H : Hp}, Inv X pins σ H s -> s.heap.Ns mainGlobals X.mg := fun J => J.mod.glob.keeps J.bk
 have C : CodeHd s1.heap c Pt := codeHd_of_K I1.kIn hcK
 have hPt : s1.heap.get? Pt = some (tabObj Pps) := I1.hok _ _ hP
 have gP : mainGlobals ≠ Pt := fun z => by
  obtain ⟨o, es, ep, e, hd, _⟩ := gl I1
  rw [z, hPt] at e; cases e; cases hd
 have hB : s1.heap.BuiltinsAt X.mg Pt := by
  obtain ⟨bm, ob, b1, b2, b3, b4, b5, b6⟩ := hbm
  have e := I1.bk _ _ b3
  refine ⟨bm, ob, b1, b2, fun z => ?_, fun z => ?_, e, b4, b5, b6⟩
  ·obtain ⟨o, es, ep, e', hd, _⟩ := gl I1
   rw [z, e'] at e; cases e; rw [hd] at b6; cases b6
  ·rw [z, hPt] at e; cases e; cases b4
 refine kla_eval hdef ?_
 rcases hcs with hnf | ⟨c', hf, hc'⟩
 ·refine kla_makeFunction (hcl cell hcell) I1.ok.glob (gl I1) hcode C hPt htr hnf gP hB fun c' ctv h' tk hx' hge hlt hrec htb => ?_
  have J := I1.grow (t' := tk) hP hx' htb hge hrec
  have J' := J.kept (h' := h'.push _) (t' := tk) fun b u e => Heap.get?_push_of_some (kla_obj "<lambda>" (X.env.qual ++ "<lambda>") params body scope [(a, cell)] ((X.mg "__name__").getD .none) c' ctv) e
  have hcn : H1 c' = none := I1.hok.fresh hge
  have hcP : c' ≠ Pt := fun z => by rw [z, hP] at hcn; cases hcn
  refine fin _ _ h'.objs.size c' cell _ ctv J' hcell (Heap.get?_push_size _ rfl) (J.hok.fresh (Nat.le_refl _)) (Nat.ne_of_gt J.lt) (J.nofs (Nat.le_refl _)) (fun b o n e => ?_) ⟨_, by rw [upd_ne (Ne.symm hcP), upd_same], ?_, .inr ⟨c', ?_, upd_same⟩⟩ upd_same
  ·have hbc : b ≠ c' := fun z => by rw [z, hcn] at e; cases e
   rw [upd_ne hbc, upd_ne n]; exact e
  ·rw [Array.toList_append]
   exact TriplesOk_snoc _ _ _ _ htr
  ·rw [Array.toList_append]
   exact codeAmong_snoc _ htr hnf
 ·refine kla_makeFunctionHit (hcl cell hcell) I1.ok.glob (gl I1) hcode C hPt htr hf hB fun ctv h' tk hk' hsz => ?_
  have J0 : Inv X pins σ H1 { s1 with heap := h', toks := tk } := I1.kept hk'
  have J := I1.kept (h' := h'.push _) (t' := tk) fun b u e => Heap.get?_push_of_some (kla_obj "<lambda>" (X.env.qual ++ "<lambda>") params body scope [(a, cell)] ((X.mg "__name__").getD .none) c' ctv) (hk' b u e)
  exact fin _ _ h'.objs.size c' cell _ ctv J hcell (Heap.get?_push_size _ rfl) (J0.hok.fresh (Nat.le_refl _)) (Nat.ne_of_gt J0.lt) (J0.nofs (Nat.le_refl _)) (Grow.refl _ _) hL hc'
end
abbrev lamEnv (scope : Scope) (L : Addr) (a : Str) (cell : Addr) (qual : Str) (lam c' : Addr) : Env := newEnv scope L mainGlobals [(a, cell)] (qual ++ ".<locals>.") (some lam) (.ref c') none builtinsNs
def lamCx (P : Program) (w : World) (K : PySem.W.Frag) (mg : Str -> Option Value) (base : Heap) (scope : Scope) (a x : Str) (cell : Addr) (qual : Str) (lam c' : Addr) (A : Around) (outer : List Env) (s : Shared) (H : Hp) : Cx where
 prog := P
 w := w
 K := K
 mg := mg
 base := base
 A := A.deeper (lamEnv scope s.heap.objs.size a cell qual lam c')
 N := [x, a]
 s₀ := s
 H₀ := H
 env := lamEnv scope s.heap.objs.size a cell qual lam c'
 outer := outer
 stack := lamEnv scope s.heap.objs.size a cell qual lam c' :: outer
 ex := []
 calm := true
 fn := fun _ => false
 pn := []
 xe := fun _ _ => False
def spLamB (c' : Addr) (qual : Str) (spB : V -> Hp -> VK -> Prop) : Sp := fun vs H Q _ => match vs with
 | [v] => H c' = some (CdO c' qual) /\ spB v H Q
 | _ => False
theorem spLamB_mono {c' : Addr} {qual : Str} {spB : V -> Hp -> VK -> Prop} (h : ∀ v H Q Q', (∀ y H', Q y H' -> Q' y H') -> spB v H Q -> spB v H Q') : SpMono (spLamB c' qual spB) := fun vs H Q Q' E k q => by
 unfold spLamB at *
 split at q
 ·exact ⟨q.1, h _ _ _ _ k q.2⟩
 ·exact q.elim
theorem lam_fnOk2 {P : Program} {w : World} {K : PySem.W.Frag} {mg : Str -> Option Value} {base : Heap} {k : Nat} {lam cell c' : Addr} {qual a x : Str} {params : Arguments} {body : Expr} {scope : Scope} {pm ctv : Value} {spB : V -> Hp -> VK -> Prop} {vA : V} {uA : Value}
 (hl : base.get? lam = some (kla_obj "<lambda>" qual params body scope [(a, cell)] pm c' ctv)) (hc : base.IsCell cell (some uA)) (rA : RelV vA uA)
 (hx : scope.names.lookup x = some .local) (ha : scope.names.lookup a = some .free) (hfr : ∀ y, scope.names.lookup y = some .free -> y = a) (hco : scope.isCoroutine = false) (hgen : scope.isGenerator = false) (hkind : scope.kind = .function)
 (hcell : ∀ y ∈ scope.names, y.2 ≠ .cell)
 (hbody : ∀ (A : Around) (outer : List Env) (s : Shared) (H : Hp) (v : V) (Q : VK), Room k (A.deeper (lamEnv scope s.heap.objs.size a cell qual lam c')) -> spB v H Q ->
   ∃ te, PE (lamCx P w K mg base scope a x cell qual lam c' A outer s H) body te /\ te [some v, some vA] H Q) :
 FnOk P w K mg base CX0 (k + 1) lam (kla_fn "<lambda>" qual params body scope [(a, cell)] pm (.ref c') ctv) [x] (spLamB c' qual spB) := by
 refine ⟨fun vs H Q E h => by unfold spLamB at h; split at h; rfl; exact h.elim, fun A outer s H args us vs Q E hr e0 hbd r hsp => ?_⟩
 match vs, hsp, r with
 | [v], ⟨hcd, hq⟩, r =>
 obtain ⟨u, rfl, ru⟩ := vals1 r
 have lim : s.heap.NoLimit := e0.mod.nolimit.keeps fun b o e => (e0.bs b o e).1
 obtain ⟨hcr, _⟩ := e0.hok _ _ hcd
 refine kla_callFunE hr.depth (e0.bs _ _ hl).1 rfl hco hgen rfl hcr (hbd _ _ _ _ ?_)
 refine wpAny_newFunctionEnv hcell (fun y hy => by rw [List.mem_singleton.mp hy]; exact hx) (fun h₁ hns hsb => ⟨lim.fresh _ hsb, ?_⟩) hkind
 have hk₁ : ∀ b o, s.heap.get? b = some o -> h₁.get? b = some o := fun b o e => hsb.extBut b o (Nat.ne_of_lt (Heap.lt_size e)) (Heap.get?_push_of_some _ e)
 refine kla_codeExpr ?_
 obtain ⟨te, ht, hte⟩ := hbody A outer s H v Q (hr.deeper _) hq
 have hcell1 : h₁.IsCell cell (some uA) := by
  obtain ⟨o, e, d⟩ := hc
  exact ⟨o, hk₁ _ _ (e0.bs _ _ e).1, d⟩
 have hcH : H cell = none := by
  obtain ⟨o, e, d⟩ := hc
  exact (e0.bs _ _ e).2
 have lk : ∀ y c, List.lookup y [(a, cell)] = some c -> y = a /\ c = cell := fun y c e => by
  rw [List.lookup_cons] at e
  by_cases z : y = a
  ·subst z
   simp at e
   exact ⟨rfl, e.symm⟩
  ·rw [beq_eq_false_iff_ne.mpr z] at e
   cases e
 have noA : ∀ b : Addr, b ∉ (lamCx P w K mg base scope a x cell qual lam c' A outer s H).ex := fun b z => absurd (show b ∈ ([] : List Addr) from z) (by simp)
 have kindc : ∀ y, scope.names.lookup y ≠ some .cell := fun y z => hcell _ (PySem.mem_of_lookup z) rfl
 have nax : a ≠ x := fun z => by rw [z, hx] at ha; cases ha
 have I : Inv (lamCx P w K mg base scope a x cell qual lam c' A outer s H) [] [some v, some vA] H { s with heap := h₁, toks := s.toks + [(x, u)].length } := by
  refine ⟨⟨e0.mod, hkind, rfl, rfl, Nat.le_refl _, fun y z c h1 h2 => ?_, fun y hy => ?_, fun y c hf _ => ?_, fun _ => hr.hd, Around.frames_deeper e0.frames, .inr ⟨rfl, rfl⟩, fun b z => absurd z (noA b), e0.bs, e0.bsz, fun b _ _ => noA b, fun b z => absurd z (noA b), e0.funs, e0.frf⟩,
   rfl, e0.bare, Un.kept hk₁, ⟨_, hns, fun i y z h1 h2 h3 => ?_⟩, fun y c h => ?_, e0.hok.fresh (Nat.le_refl _), fun y c h => ?_, fun p hp => absurd (show p ∈ ([] : List (Addr × Obj)) from hp) (by simp), e0.hok.kept hk₁, rfl⟩
  ·exact (lk _ _ h1).1.trans (lk _ _ h2).1.symm
  ·have hy : scope.names.lookup y = some .cell \/ scope.names.lookup y = some .free := hy
   rcases hy with hy | hy
   ·exact absurd hy (kindc y)
   ·rw [hfr y hy]
    exact ⟨cell, by show List.lookup a [(a, cell)] = _; simp⟩
  ·cases hf
  ·match i, h1, h2 with
   | 0, h1, h2 =>
    cases h1; cases h2
    exact ⟨u, ru, .inl ⟨hx, by simp⟩⟩
   | 1, h1, h2 =>
    cases h1; cases h2
    exact ⟨uA, rA, .inr ⟨.inr ha, cell, by show List.lookup a [(a, cell)] = _; simp, hcell1⟩⟩
   | n + 2, h1, h2 => cases h2
  ·obtain ⟨_, rfl⟩ := lk y c h
   exact ⟨_, hcell1⟩
  ·obtain ⟨_, rfl⟩ := lk y c h
   exact hcH
 refine wpAny_mono (ht [] _ _ _ _ I hte) (fun u' s' hs => ?_) fun e s' hs => False.elim hs
 obtain ⟨v', H', J, rv, q⟩ := hs
 exact ⟨v', H', J.os, J.bare, J.base, J.hok, rv, q⟩
end L2
namespace L2
open PySem PyProof.Rows
def mExtT (K : PySem.W.Frag) : V -> List V -> Hp -> VK -> Prop := fun x vs H Q => match x, vs with
 | .ref l, [.ref b] => ∃ xs ys, H l = some (.lst xs) /\ SqT K H b ys /\ xs.length + ys.length <= 100000 /\ Q .non (upd H l (.lst (xs ++ ys)))
 | _, _ => False
section
variable {X : Cx} {K : PySem.W.Frag} {o e : Expr} {to : TE} {t : TA} {apos cpos : Pos}
theorem mm_extT : MtR X "list.extend" (mExtT X.K) := by
 intro pins s σ H x vs v us Q I rx rv q
 match x, vs, q with
 | .ref l, [.ref b], ⟨xs, ys, hH, hb, h3, q⟩ =>
 cases rx
 obtain ⟨u, rfl, ru⟩ := vals1 rv
 cases ru
 obtain ⟨z, its, n, r, hl, e⟩ := I.lstM hH
 obtain ⟨its2, r2, ⟨o2, e2, c2, n2, d2⟩, hz2⟩ := I.tuple hb
 have l1 := r.length
 have l2 := r2.length
 have hlb : l ≠ b := fun q => by
  rw [q, e2] at e
  cases e
  exact absurd c2 (by simp)
 refine wpAny_call_entry F.slot_list_extend ⟨_, e, rfl⟩ F.entry_list_extend ?_ (F.args_list_extend_2 _ _)
 show wpAny _ _ (Builtin.List.listExtendWith (.ref l) (.ref b) .none) _ _ s
 unfold Builtin.List.listExtendWith
 refine wpAny_bind (wpAny_typeOf (T := "tuple") ⟨o2, e2, c2⟩ ?_)
 have h1 : Builtin.List.listSameRef (.ref l) (.ref b) = false := by simp [Builtin.List.listSameRef, hlb]
 have h2 : (Value.type "tuple" == Value.type "list") = false := by decide
 have h3' : (Value.type "tuple" == Value.type "tuple") = true := by decide
 simp only [h1, h2, h3', Bool.or_true, if_true]
 refine wpAny_bind (listItems_at e2 d2 (wpAny_bind (listItems_at e rfl ?_)))
 rw [if_neg (by
  rw [Bool.and_eq_true]
  rintro ⟨_, q⟩
  unfold Builtin.List.listTooLong at q
  simp [sizeLine_eq] at q
  omega)]
 refine wpAny_bind (listUpdate_at e rfl ?_ (by rw [List.size_toArray, sizeLine_eq]; omega) (by rw [Array.size_append, List.size_toArray, List.size_toArray, sizeLine_eq]; omega))
 refine wpAny_pure ⟨_, rfl, ?_⟩
 exact ⟨.non, _, I.lset (its' := its ++ its2) hH e (by simp) (r.append r2) (by rw [List.length_append, sizeLine_eq]; omega), rfl, q⟩
theorem kExtT (ho : PE X o to) (ha : PA X [e] t) (hbase : attributeBase o "extend" X.env (eval o X.env) = eval o X.env := by rfl)
 (hfew : ((backTo cpos (starEach [e] X.env)).all (fun x => !x.1) && (backToKw cpos (keywordEach [] X.env)).all (fun x => x.1.isSome)
   && decide ([e].length + ([] : List Keyword).length + (if ([] : List Keyword).isEmpty then 0 else 1) < 30)) = true := by rfl)
 (hline : (apos.endLine == cpos.line) = true := by rfl) (hs : starEach [e] X.env = (false, eval e X.env) :: starEach [] X.env := by rfl) (hplain : (backTo cpos (starEach [] X.env)).any (·.1) = false := by rfl) (hK : X.K = K := by rfl) :
 PE X (.Call (.Attribute o "extend" apos) [e] [] cpos) (tBM K "list" (mExtT K) to t) := hK ▸ pe_bm PySem.F.plainAttrs_list PySem.F.slot_list_extend PySem.F.type_list_extend mm_extT ho ha hbase hfew hline hs hplain
theorem bm_extT : BMono (mExtT K) := fun x xs H Q Q' h q => by
 unfold mExtT at *
 split at q
 ·obtain ⟨a, b, c, d, e, q⟩ := q; exact ⟨a, b, c, d, e, h _ _ q⟩
 ·exact q.elim
end
end L2
namespace L2
open PySem PySem.Spec PyProof.Rows PySem.SeqAt
theorem sub_str_dict : isSubtype (.type "str") (.type "dict") = pure false := by rw [isSubtype_type]; kernel_rfl
theorem dict_eq_declines_str (l : Addr) (es : Array DictEntry) (ep : Nat) (dd : Option Addr) (sl : Array (Option Value)) (b : Str) (u : Tok) :
 Meets (Builtin.«dict.__eq__» ⟨[.ref l, .str b u], []⟩) (fun _ R s => s.heap.get? l = some { cls := .type "dict", dict := dd, data := .dict es ep, slots := sl } /\ R (.ok (.ret .notImplemented)) s) :=
 .of_wp fun prog w A R s h => by obtain ⟨hp, g, d, tk, os⟩ := s; obtain ⟨hl, h⟩ := h; have f1 := sub_str_dict; wp_walk using AutoSeq1.wpAny_loadPart' hl; exact ⟨_, rfl, h⟩
theorem str_eq_declines_dict (b : Str) (u : Tok) (l : Addr) (es : Array DictEntry) (ep : Nat) (dd : Option Addr) (sl : Array (Option Value)) :
 Meets (Builtin.«str.__eq__» ⟨[.str b u, .ref l], []⟩) (fun _ R s => s.heap.get? l = some { cls := .type "dict", dict := dd, data := .dict es ep, slots := sl } /\ R (.ok (.ret .notImplemented)) s) :=
 .of_wp fun prog w A R s h => by obtain ⟨hp, g, d, tk, os⟩ := s; obtain ⟨hl, h⟩ := h; wp_walk using AutoSeq1.wpAny_loadPart' hl, wpAny_load hl; exact ⟨_, rfl, h⟩
theorem rc_dict_str {A : Around} {s : Shared} {l : Addr} {o : Obj} {es : Array DictEntry} {ep : Nat} (b : Str) (u : Tok) (ho : s.heap.get? l = some o) (hc : o.cls = .type "dict") (hd : o.data = .dict es ep) (hu : A.units < cLine) : RcAt A s (.ref l) (.str b u) false := fun prog w E Q h => by
 obtain ⟨cls, dd, data, sl⟩ := o
 simp only at hc hd
 subst hc hd
 exact rc_eq_decline_or (k := false) ⟨_, ho, rfl⟩ (typeIs_str s b u) (by decide) sub_str_dict F.slot_dict_eq F.slot_str_eq_refl
  (fun _ hq => call_meets F.slot_dict_eq ⟨_, ho, rfl⟩ F.entry_dict_eq (F.args_dict_eq_2 _ _) (dict_eq_declines_str l es ep dd sl b u) ⟨ho, hq⟩)
  (fun _ hq => call_meets F.slot_str_eq_refl (typeIs_str s b u) F.entry_str_eq (F.args_str_eq_2 _ _) (str_eq_declines_dict b u l es ep dd sl) ⟨ho, hq⟩)
  (fun _ hq => wpAny_of_eq (rfl : isSame (.ref l) (.str b u) = pure false) hq) (.inr hu) h
def isStrW (s : Str) : Dw -> Bool
 | .str x => x == s
 | _ => false
def mEqW (K : PySem.W.Frag) : R2 := fun x y H Q => match y with
 | .str s => ∃ d, RepW K H d x /\ Q (.bl (isStrW s d)) H
 | _ => False
section
variable {X : Cx} {K : PySem.W.Frag}
theorem om_eqW (hu : X.A.units + 60 < cLine) : OpR X (compareOp .Eq) (mEqW X.K) := by
 intro pins s σ H x y v u Q I rx ry q
 have hu' : X.A.units < cLine := by omega
 cases y with
 | str b =>
  obtain ⟨d, hd, q⟩ := q
  obtain ⟨t, rfl⟩ := ry
  cases d with
  | non => unfold RepW at hd; subst hd; cases rx; exact RcAt.none_str b t X.prog X.w _ _ ⟨.bl false, H, I, rfl, q⟩
  | bl c => unfold RepW at hd; subst hd; cases rx; exact RcAt.bool_str c b t X.prog X.w _ _ ⟨.bl false, H, I, rfl, q⟩
  | int c => unfold RepW at hd; subst hd; obtain ⟨t', rfl⟩ := rx; exact RcAt.int_str c t' b t X.prog X.w _ _ ⟨.bl false, H, I, rfl, q⟩
  | str c => unfold RepW at hd; subst hd; obtain ⟨t', rfl⟩ := rx; exact RcAt.str_str c t' b t X.prog X.w _ _ ⟨.bl (c == b), H, I, rfl, q⟩
  | tup ds =>
   obtain ⟨a, xs, rfl, ha, _⟩ := repW_tup_inv hd
   cases rx
   obtain ⟨its, _, p, _⟩ := I.tuple ha
   exact RcAt.tuple_str b t p hu' X.prog X.w _ _ ⟨.bl false, H, I, rfl, q⟩
  | lst ds =>
   unfold RepW at hd
   obtain ⟨a, xs, rfl, ha, _⟩ := hd
   cases rx
   obtain ⟨⟨_, its, n, _, e⟩, _⟩ := I.hok _ _ ha
   exact RcAt.list_str b t ⟨_, e, rfl, n, rfl⟩ hu' X.prog X.w _ _ ⟨.bl false, H, I, rfl, q⟩
  | emp =>
   unfold RepW at hd
   obtain ⟨a, rfl, ha⟩ := hd
   cases rx
   obtain ⟨_, _, vs, _, dd⟩ := dk_of I.hok ha
   obtain ⟨o, es, ep, e1, e2, e3, _⟩ := dd
   exact rc_dict_str b t e1 e2.1 e3 hu' X.prog X.w _ _ ⟨.bl false, H, I, rfl, q⟩
 | _ => exact False.elim q
theorem kEqW (hu : X.A.units + 60 < cLine) (hK : X.K = K := by rfl) : OpR X (compareOp .Eq) (mEqW K) := hK ▸ om_eqW hu
end
end L2
namespace L2
open PySem PySem.Spec PyProof.Rows
mutual
theorem pyW_short {n : Nat} (h : n < 10 ^ 30) : ∀ d : Dw, okW n d = true -> (pyW d).leavesShort 31 = true
 | .non, _ => by simp [pyW, PyData.leavesShort]
 | .bl _, _ => by simp [pyW, PyData.leavesShort]
 | .int i, ho => by
  have h1 : i.natAbs <= n := by simpa [okW] using ho
  simp only [pyW, PyData.leavesShort, PyData.shown]
  refine decide_eq_true ?_
  have : ((toString i : String) : Str).length = (toString i).length := PySem.ofString_length _
  exact Nat.le_trans (Nat.le_of_eq this) (PySem.int_text_length_le10 (k := 30) (by decide) (Nat.lt_of_le_of_lt h1 h))
 | .str x, ho => by
  unfold okW at ho
  unfold pyW PyData.leavesShort
  exact ho
 | .emp, _ => by simp [pyW, PyData.leavesShort, PyData.leavesShortKv]
 | .tup ds, ho => by
  have h' := pyWs_short h ds (by simpa [okW] using ho)
  simpa [pyW, PyData.leavesShort] using h'
 | .lst ds, ho => by
  have h' := pyWs_short h ds (by simpa [okW] using ho)
  simpa [pyW, PyData.leavesShort] using h'
theorem pyWs_short {n : Nat} (h : n < 10 ^ 30) : ∀ ds : List Dw, okWs n ds = true -> PyData.leavesShortAll 31 (pyWs ds) = true
 | [], _ => by simp [pyWs, PyData.leavesShortAll]
 | d :: ds, ho => by
  have h' : okW n d = true /\ okWs n ds = true := by simpa [okWs] using ho
  have h1 := pyW_short h d h'.1
  have h2 := pyWs_short h ds h'.2
  simp [pyWs, PyData.leavesShortAll, h1, h2]
end
theorem shownW_fitsF {n : Nat} {d : Dw} (ho : okW n d = true) (h : n < 10 ^ 30) (hb : bulkW d <= 400000) : (shownW d).length <= sizeLine := by
 have h1 := PyData.shown_le_bulk 31 (by decide) (pyW d) (pyW_short h d ho)
 rw [pyW_bulk d] at h1
 have e : sizeLine = 16777216 := by decide
 unfold shownW
 rw [e]
 omega
def mReprF (K : PySem.W.Frag) : List V -> Hp -> VK -> Prop := fun xs H Q => match xs with
 | [x] => ∃ d n, RepW K H d x /\ okW n d = true /\ n < 10 ^ 30 /\ bulkW d <= 400000 /\ depW d <= 60 /\ Q (.str (shownW d)) H
 | _ => False
section
variable {X : Cx} {K : PySem.W.Frag}
theorem cm_reprF0 (hg : X.A.guards = some []) (hu : X.A.units + 62 < cLine) : CallR X (.builtin "repr") (mReprF X.K) := by
 intro pins s σ H xs us Q I r q
 match xs, q with
 | [x], q =>
  obtain ⟨d, n, hd, ho, hn30, hb, hp, q⟩ := q
  have hn := okW_nice (n := n) (Nat.lt_trans hn30 (by decide)) d ho
  cases r with
  | cons r1 r2 =>
  cases r2
  rename_i u
  have fits := shownW_fitsF ho hn30 hb
  have shw := (pyW_show d hn).1
  have done : ∀ (h' : Heap) (t tk : Nat), (∀ b o, s.heap.get? b = some o -> h'.get? b = some o) -> EP X pins σ Q (.str (shownW d) t) { s with heap := h', toks := tk } := fun h' t tk hk =>
   ⟨.str (shownW d), H, I.kept (t' := tk) hk, ⟨t, rfl⟩, q⟩
  obtain ⟨as, hr, hm⟩ := repW_reads I d x u hd r1
  cases hx : u with
  | ref a =>
   rw [hx] at hr
   refine PySem.repr_of_reads' hr shw (fun _ => hm) hg ?_ (fun _ _ e => e) (fun h' t tk hk => done h' t tk hk) fits
   rw [pyW_dep]; omega
  | none =>
   rw [hx] at hr
   generalize hp : pyW d = p at hr
   cases hr
   have e : shownW d = ("None" : Str) := by unfold shownW; rw [hp, PyData.shown_none]
   refine PySem.P.repr_of_none ?_
   rw [<- e]; exact done s.heap _ _ (fun _ _ e => e)
  | bool b =>
   rw [hx] at hr
   generalize hp : pyW d = p at hr
   cases hr
   have e : shownW d = ((if b then "True" else "False" : Str)) := by unfold shownW; rw [hp, PyData.shown_bool]
   refine PySem.P.repr_of_bool ?_
   rw [<- e]; exact done s.heap _ _ (fun _ _ e => e)
  | int i t =>
   rw [hx] at hr
   generalize hp : pyW d = p at hr
   cases hr
   have e : shownW d = ((toString i : String) : Str) := by unfold shownW; rw [hp, PyData.shown_int]
   rw [hp] at shw
   refine PySem.P.repr_of_int (by simpa [PyData.showable] using shw) ?_
   rw [<- e]; exact done s.heap _ _ (fun _ _ e => e)
  | str y t =>
   rw [hx] at hr
   generalize hp : pyW d = p at hr
   cases hr
   have e : shownW d = reprText y := by unfold shownW; rw [hp]; rfl
   refine PySem.P.repr_of_str ?_ (by rw [<- e]; exact fits)
   rw [<- e]; exact done s.heap _ _ (fun _ _ e => e)
  | _ => rw [hx] at hr; cases hr
theorem kReprF {k : Nat} (hr : Room k X.A) (hK : X.K = K := by rfl) : CallR X (.builtin "repr") (mReprF K) := hK ▸ cm_reprF0 hr.gd (by have := hr.un; omega)
theorem cm_reprF_ : CMono (mReprF K) := fun xs H Q Q' h q => by
 unfold mReprF at *
 split at q
 ·obtain ⟨d, n, a, b, c, e, f, q⟩ := q; exact ⟨d, n, a, b, c, e, f, h _ _ q⟩
 ·exact q.elim
end
def TPMono (trs : List (TE × TE)) : Prop := ∀ (σ : St) (H : Hp) (Q Q' : List (V × V) -> Hp -> Prop), (∀ ps H', Q ps H' -> Q' ps H') -> tPairs trs σ H Q -> tPairs trs σ H Q'
theorem tpm_nil : TPMono [] := fun _ _ _ _ h q => h _ _ q
theorem tpm_cons {tk tv : TE} {trs : List (TE × TE)} (hk : EMono tk) (hv : EMono tv) (h : TPMono trs) : TPMono ((tk, tv) :: trs) := fun σ H Q Q' i q =>
 hk σ H _ _ (fun x H1 q1 => hv σ H1 _ _ (fun y H2 q2 => h σ H2 _ _ (fun ps H3 q3 => i _ _ q3) q2) q1) q
theorem em_disp {trs : List (TE × TE)} (h : TPMono trs) : EMono (tDisp trs) := fun _ _ _ _ i q p hp =>
 h _ _ _ _ (fun ps H2 ⟨h1, kvs, h2, h3, q⟩ => ⟨h1, kvs, h2, h3, i _ _ q⟩) (q p hp)
end L2
namespace Mine
open PySem L2
def top (i : Nat) : Stmt := PySem.Challenge.pw_flips_k43_whole_trees_let_by.main.body.getD i (.Pass ⟨0, 0, 0, 0⟩)
abbrev s_keeps_to : Stmt := top 1
abbrev s_is_whole : Stmt := top 3
abbrev s_is_below : Stmt := top 4
abbrev s_is_tree : Stmt := top 8
abbrev s_has_tree_form : Stmt := top 9
abbrev s_trees_within : Stmt := top 10
abbrev s_is_too_large_tree : Stmt := top 11
abbrev s_asked : Stmt := top 12
abbrev s_lets_tree : Stmt := top 14
abbrev s_comes_home : Stmt := top 15
abbrev s_Zfeed : Stmt := top 17
abbrev s_Zdraw : Stmt := top 18
abbrev s_Ztable : Stmt := top 19
abbrev s_Ztable_game : Stmt := top 20
abbrev s_Zclass : Stmt := top 21
abbrev s_Zclass_game : Stmt := top 22
abbrev s_Zpicks : Stmt := top 23
abbrev s_Zany_game : Stmt := top 24
abbrev s_Zgame : Stmt := top 25
abbrev s_Zpair : Stmt := top 26
abbrev s_Zending : Stmt := top 27
abbrev s_Zsides : Stmt := top 28
abbrev s_Zneed : Stmt := top 29
abbrev s_Ztree : Stmt := top 30
abbrev s_Zbent : Stmt := top 31
abbrev s_Zthrough : Stmt := top 32
abbrev s_Zis_number : Stmt := top 33
abbrev s_Zmany : Stmt := top 34
abbrev s_Zdeep : Stmt := top 35
abbrev s_Zjudged : Stmt := top 36
abbrev s_Zother : Stmt := top 37
abbrev s_law : Stmt := top 38
local macro_rules | `(tactic| walk_at "f") => `(tactic| exact ⟨rfl, rfl, rfl, by decide +kernel, rfl, by decide +kernel, by decide +kernel⟩)
theorem sc_keeps_to : FnScope ["has_form", "parts_within", "is_beyond", "thing", "level", "depth", "many", "below", "part"] ["has_form", "parts_within", "is_beyond", "thing"] (defScope s_keeps_to) := by walk_at "f"
theorem sc_is_whole : FnScope ["thing"] ["thing"] (defScope s_is_whole) := by walk_at "f"
theorem sc_is_below : FnScope ["bound", "thing"] ["bound", "thing"] (defScope s_is_below) := by walk_at "f"
theorem sc_is_tree : FnScope ["game", "thing"] ["game", "thing"] (defScope s_is_tree) := by walk_at "f"
theorem sc_has_tree_form : FnScope ["questions", "thing"] ["questions", "thing"] (defScope s_has_tree_form) := by walk_at "f"
theorem sc_trees_within : FnScope ["tree"] ["tree"] (defScope s_trees_within) := by walk_at "f"
theorem sc_is_too_large_tree : FnScope ["many", "depth"] ["many", "depth"] (defScope s_is_too_large_tree) := by walk_at "f"
theorem sc_asked : FnScope ["game", "tree", "thing", "spot", "asks"] ["game", "tree", "thing"] (defScope s_asked) := by walk_at "f"
theorem sc_lets_tree : FnScope ["game", "d", "thing"] ["game", "d", "thing"] (defScope s_lets_tree) := by walk_at "f"
theorem sc_comes_home : FnScope ["game", "d", "tree", "hidden", "found"] ["game", "d", "tree", "hidden"] (defScope s_comes_home) := by walk_at "f"
theorem sc_Zfeed : FnScope ["_law_script"] ["_law_script"] (defScope s_Zfeed) := by walk_at "f"
theorem sc_Zdraw : FnScope ["_law_feed_here", "_law_many_here", "_law_turn", "_law_cell", "_law_mixed", "_law_digit"] ["_law_feed_here", "_law_many_here"] (defScope s_Zdraw) := by walk_at "f"
theorem sc_Ztable : FnScope ["_law_feed_here", "_law_n", "_law_many_here", "_law_way", "_law_place", "_law_one", "_law_answer"] ["_law_feed_here", "_law_n"] (defScope s_Ztable) := by walk_at "f"
theorem sc_Ztable_game : FnScope ["_law_table_here", "_law_rows", "_law_many_here"] ["_law_table_here"] (defScope s_Ztable_game) := by walk_at "f"
theorem sc_Zclass : FnScope ["_law_feed_here", "_law_n", "_law_many_here", "_law_tables", "_law_at", "_law_k", "_law_table_here"] ["_law_feed_here", "_law_n", "_law_many_here"] (defScope s_Zclass) := by walk_at "f"
theorem sc_Zclass_game : FnScope ["_law_tables", "_law_rows"] ["_law_tables"] (defScope s_Zclass_game) := by walk_at "f"
theorem sc_Zpicks : FnScope ["_law_feed_here", "_law_many_here", "_law_first", "_law_labels", "_law_rows"] ["_law_feed_here"] (defScope s_Zpicks) := by walk_at "f"
theorem sc_Zany_game : FnScope ["_law_feed_here", "_law_many_here", "_law_width", "_law_names", "_law_labels", "_law_rows", "_law_k"] ["_law_feed_here"] (defScope s_Zany_game) := by walk_at "f"
theorem sc_Zgame : FnScope ["_law_feed_here", "_law_way"] ["_law_feed_here"] (defScope s_Zgame) := by walk_at "f"
theorem sc_Zpair : FnScope ["_law_game_here", "_law_answers", "_law_one", "_law_other_here"] ["_law_game_here"] (defScope s_Zpair) := by walk_at "f"
theorem sc_Zending : FnScope ["_law_game_here", "_law_labels", "_law_pair_here"] ["_law_game_here"] (defScope s_Zending) := by walk_at "f"
theorem sc_Zsides : FnScope ["_law_game_here", "_law_things", "_law_question", "_law_row"] ["_law_game_here", "_law_things", "_law_question"] (defScope s_Zsides) := by walk_at "f"
theorem sc_Zneed : FnScope ["_law_game_here", "_law_things", "_law_known", "_law_least", "_law_question", "_law_sides_here"] ["_law_game_here", "_law_things", "_law_known"] (defScope s_Zneed) := by walk_at "f"
theorem sc_Ztree : FnScope ["_law_feed_here", "_law_game_here", "_law_things", "_law_deep_here", "_law_alike", "_law_some", "_law_question", "_law_sides_here", "_law_no_part"] ["_law_feed_here", "_law_game_here", "_law_things", "_law_deep_here"] (defScope s_Ztree) := by walk_at "f"
theorem sc_Zbent : FnScope ["_law_feed_here", "_law_thing", "_law_at", "_law_way"] ["_law_feed_here", "_law_thing"] (defScope s_Zbent) := by walk_at "f"
theorem sc_Zthrough : FnScope ["_law_game_here", "_law_tree_here", "_law_thing", "_law_many_here"] ["_law_game_here", "_law_tree_here", "_law_thing"] (defScope s_Zthrough) := by walk_at "f"
theorem sc_Zis_number : FnScope ["_law_thing"] ["_law_thing"] (defScope s_Zis_number) := by walk_at "f"
theorem sc_Zmany : FnScope ["_law_game_here", "_law_thing", "_law_left"] ["_law_game_here", "_law_thing", "_law_left"] (defScope s_Zmany) := by walk_at "f"
theorem sc_Zdeep : FnScope ["_law_game_here", "_law_thing", "_law_gone"] ["_law_game_here", "_law_thing"] (defScope s_Zdeep) := by walk_at "f"
theorem sc_Zjudged : FnScope ["_law_game_here", "_law_thing", "_law_known", "_law_deep_here", "_law_d", "_law_found"] ["_law_game_here", "_law_thing", "_law_known"] (defScope s_Zjudged) := by walk_at "f"
theorem sc_Zother : FnScope ["_law_feed_here", "_law_game_here", "_law_tree_here", "_law_way"] ["_law_feed_here", "_law_game_here", "_law_tree_here"] (defScope s_Zother) := by walk_at "f"
theorem sc_law : FnScope ["_law_script", "_law_feed_here", "_law_k", "_law_game_here", "_law_things", "_law_known", "_law_tree_here", "_law_some", "_law_thing", "_law_handed"] ["_law_script"] (defScope s_law) := by walk_at "f"
def lamQ_is_tree : Str := PySem.Str.ofString "is_tree" ++ PySem.Str.ofString ".<locals>." ++ PySem.Str.ofString "<lambda>"
def lamP_is_tree : Pos := ⟨27, 20, 27, 66⟩
set_option genInjectivity false
set_option genSizeOf false
structure Txt (K : W.Frag) (mg : Str -> Option Value) where
 f_keeps_to : Addr
 d_keeps_to : FuncData
 F_keeps_to : Fun K "keeps_to" "keeps_to" s_keeps_to f_keeps_to d_keeps_to
 b_keeps_to : Binds K d_keeps_to ["has_form", "parts_within", "is_beyond", "thing"] []
 m_keeps_to : mg "keeps_to" = some (.ref f_keeps_to)
 f_is_whole : Addr
 d_is_whole : FuncData
 F_is_whole : Fun K "is_whole" "is_whole" s_is_whole f_is_whole d_is_whole
 b_is_whole : Binds K d_is_whole ["thing"] []
 m_is_whole : mg "is_whole" = some (.ref f_is_whole)
 f_is_below : Addr
 d_is_below : FuncData
 F_is_below : Fun K "is_below" "is_below" s_is_below f_is_below d_is_below
 b_is_below : Binds K d_is_below ["bound", "thing"] []
 m_is_below : mg "is_below" = some (.ref f_is_below)
 f_is_tree : Addr
 d_is_tree : FuncData
 F_is_tree : Fun K "is_tree" "is_tree" s_is_tree f_is_tree d_is_tree
 b_is_tree : Binds K d_is_tree ["game", "thing"] []
 m_is_tree : mg "is_tree" = some (.ref f_is_tree)
 f_has_tree_form : Addr
 d_has_tree_form : FuncData
 F_has_tree_form : Fun K "has_tree_form" "has_tree_form" s_has_tree_form f_has_tree_form d_has_tree_form
 b_has_tree_form : Binds K d_has_tree_form ["questions", "thing"] []
 m_has_tree_form : mg "has_tree_form" = some (.ref f_has_tree_form)
 f_trees_within : Addr
 d_trees_within : FuncData
 F_trees_within : Fun K "trees_within" "trees_within" s_trees_within f_trees_within d_trees_within
 b_trees_within : Binds K d_trees_within ["tree"] []
 m_trees_within : mg "trees_within" = some (.ref f_trees_within)
 f_is_too_large_tree : Addr
 d_is_too_large_tree : FuncData
 F_is_too_large_tree : Fun K "is_too_large_tree" "is_too_large_tree" s_is_too_large_tree f_is_too_large_tree d_is_too_large_tree
 b_is_too_large_tree : Binds K d_is_too_large_tree ["many", "depth"] []
 m_is_too_large_tree : mg "is_too_large_tree" = some (.ref f_is_too_large_tree)
 f_asked : Addr
 d_asked : FuncData
 F_asked : Fun K "asked" "asked" s_asked f_asked d_asked
 b_asked : Binds K d_asked ["game", "tree", "thing"] []
 m_asked : mg "asked" = some (.ref f_asked)
 f_lets_tree : Addr
 d_lets_tree : FuncData
 F_lets_tree : Fun K "lets_tree" "lets_tree" s_lets_tree f_lets_tree d_lets_tree
 b_lets_tree : Binds K d_lets_tree ["game", "d", "thing"] []
 m_lets_tree : mg "lets_tree" = some (.ref f_lets_tree)
 f_comes_home : Addr
 d_comes_home : FuncData
 F_comes_home : Fun K "comes_home" "comes_home" s_comes_home f_comes_home d_comes_home
 b_comes_home : Binds K d_comes_home ["game", "d", "tree", "hidden"] []
 m_comes_home : mg "comes_home" = some (.ref f_comes_home)
 f_Zfeed : Addr
 d_Zfeed : FuncData
 F_Zfeed : Fun K "_law_feed" "_law_feed" s_Zfeed f_Zfeed d_Zfeed
 b_Zfeed : Binds K d_Zfeed ["_law_script"] []
 m_Zfeed : mg "_law_feed" = some (.ref f_Zfeed)
 f_Zdraw : Addr
 d_Zdraw : FuncData
 F_Zdraw : Fun K "_law_draw" "_law_draw" s_Zdraw f_Zdraw d_Zdraw
 b_Zdraw : Binds K d_Zdraw ["_law_feed_here", "_law_many_here"] []
 m_Zdraw : mg "_law_draw" = some (.ref f_Zdraw)
 f_Ztable : Addr
 d_Ztable : FuncData
 F_Ztable : Fun K "_law_table" "_law_table" s_Ztable f_Ztable d_Ztable
 b_Ztable : Binds K d_Ztable ["_law_feed_here", "_law_n"] []
 m_Ztable : mg "_law_table" = some (.ref f_Ztable)
 f_Ztable_game : Addr
 d_Ztable_game : FuncData
 F_Ztable_game : Fun K "_law_table_game" "_law_table_game" s_Ztable_game f_Ztable_game d_Ztable_game
 b_Ztable_game : Binds K d_Ztable_game ["_law_table_here"] []
 m_Ztable_game : mg "_law_table_game" = some (.ref f_Ztable_game)
 f_Zclass : Addr
 d_Zclass : FuncData
 F_Zclass : Fun K "_law_class" "_law_class" s_Zclass f_Zclass d_Zclass
 b_Zclass : Binds K d_Zclass ["_law_feed_here", "_law_n", "_law_many_here"] []
 m_Zclass : mg "_law_class" = some (.ref f_Zclass)
 f_Zclass_game : Addr
 d_Zclass_game : FuncData
 F_Zclass_game : Fun K "_law_class_game" "_law_class_game" s_Zclass_game f_Zclass_game d_Zclass_game
 b_Zclass_game : Binds K d_Zclass_game ["_law_tables"] []
 m_Zclass_game : mg "_law_class_game" = some (.ref f_Zclass_game)
 f_Zpicks : Addr
 d_Zpicks : FuncData
 F_Zpicks : Fun K "_law_picks" "_law_picks" s_Zpicks f_Zpicks d_Zpicks
 b_Zpicks : Binds K d_Zpicks ["_law_feed_here"] []
 m_Zpicks : mg "_law_picks" = some (.ref f_Zpicks)
 f_Zany_game : Addr
 d_Zany_game : FuncData
 F_Zany_game : Fun K "_law_any_game" "_law_any_game" s_Zany_game f_Zany_game d_Zany_game
 b_Zany_game : Binds K d_Zany_game ["_law_feed_here"] []
 m_Zany_game : mg "_law_any_game" = some (.ref f_Zany_game)
 f_Zgame : Addr
 d_Zgame : FuncData
 F_Zgame : Fun K "_law_game" "_law_game" s_Zgame f_Zgame d_Zgame
 b_Zgame : Binds K d_Zgame ["_law_feed_here"] []
 m_Zgame : mg "_law_game" = some (.ref f_Zgame)
 f_Zpair : Addr
 d_Zpair : FuncData
 F_Zpair : Fun K "_law_pair" "_law_pair" s_Zpair f_Zpair d_Zpair
 b_Zpair : Binds K d_Zpair ["_law_game_here"] []
 m_Zpair : mg "_law_pair" = some (.ref f_Zpair)
 f_Zending : Addr
 d_Zending : FuncData
 F_Zending : Fun K "_law_ending" "_law_ending" s_Zending f_Zending d_Zending
 b_Zending : Binds K d_Zending ["_law_game_here"] []
 m_Zending : mg "_law_ending" = some (.ref f_Zending)
 f_Zsides : Addr
 d_Zsides : FuncData
 F_Zsides : Fun K "_law_sides" "_law_sides" s_Zsides f_Zsides d_Zsides
 b_Zsides : Binds K d_Zsides ["_law_game_here", "_law_things", "_law_question"] []
 m_Zsides : mg "_law_sides" = some (.ref f_Zsides)
 f_Zneed : Addr
 d_Zneed : FuncData
 F_Zneed : Fun K "_law_need" "_law_need" s_Zneed f_Zneed d_Zneed
 b_Zneed : Binds K d_Zneed ["_law_game_here", "_law_things", "_law_known"] []
 m_Zneed : mg "_law_need" = some (.ref f_Zneed)
 f_Ztree : Addr
 d_Ztree : FuncData
 F_Ztree : Fun K "_law_tree" "_law_tree" s_Ztree f_Ztree d_Ztree
 b_Ztree : Binds K d_Ztree ["_law_feed_here", "_law_game_here", "_law_things", "_law_deep_here"] []
 m_Ztree : mg "_law_tree" = some (.ref f_Ztree)
 f_Zbent : Addr
 d_Zbent : FuncData
 F_Zbent : Fun K "_law_bent" "_law_bent" s_Zbent f_Zbent d_Zbent
 b_Zbent : Binds K d_Zbent ["_law_feed_here", "_law_thing"] []
 m_Zbent : mg "_law_bent" = some (.ref f_Zbent)
 f_Zthrough : Addr
 d_Zthrough : FuncData
 F_Zthrough : Fun K "_law_through" "_law_through" s_Zthrough f_Zthrough d_Zthrough
 b_Zthrough : Binds K d_Zthrough ["_law_game_here", "_law_tree_here", "_law_thing"] []
 m_Zthrough : mg "_law_through" = some (.ref f_Zthrough)
 f_Zis_number : Addr
 d_Zis_number : FuncData
 F_Zis_number : Fun K "_law_is_number" "_law_is_number" s_Zis_number f_Zis_number d_Zis_number
 b_Zis_number : Binds K d_Zis_number ["_law_thing"] []
 m_Zis_number : mg "_law_is_number" = some (.ref f_Zis_number)
 f_Zmany : Addr
 d_Zmany : FuncData
 F_Zmany : Fun K "_law_many" "_law_many" s_Zmany f_Zmany d_Zmany
 b_Zmany : Binds K d_Zmany ["_law_game_here", "_law_thing", "_law_left"] []
 m_Zmany : mg "_law_many" = some (.ref f_Zmany)
 f_Zdeep : Addr
 d_Zdeep : FuncData
 F_Zdeep : Fun K "_law_deep" "_law_deep" s_Zdeep f_Zdeep d_Zdeep
 b_Zdeep : Binds K d_Zdeep ["_law_game_here", "_law_thing"] []
 m_Zdeep : mg "_law_deep" = some (.ref f_Zdeep)
 f_Zjudged : Addr
 d_Zjudged : FuncData
 F_Zjudged : Fun K "_law_judged" "_law_judged" s_Zjudged f_Zjudged d_Zjudged
 b_Zjudged : Binds K d_Zjudged ["_law_game_here", "_law_thing", "_law_known"] []
 m_Zjudged : mg "_law_judged" = some (.ref f_Zjudged)
 f_Zother : Addr
 d_Zother : FuncData
 F_Zother : Fun K "_law_other" "_law_other" s_Zother f_Zother d_Zother
 b_Zother : Binds K d_Zother ["_law_feed_here", "_law_game_here", "_law_tree_here"] []
 m_Zother : mg "_law_other" = some (.ref f_Zother)
 f_law : Addr
 d_law : FuncData
 F_law : Fun K "law" "law" s_law f_law d_law
 b_law : Binds K d_law ["_law_script"] []
 m_law : mg "law" = some (.ref f_law)
 g_is_tree : Addr
 p_is_tree : Addr
 gc_is_tree : d_is_tree.code = .ref g_is_tree
 gh_is_tree : W.codeHdIn K g_is_tree p_is_tree = true
 z_all : mg "all" = none
 z_bool : mg "bool" = none
 z_int : mg "int" = none
 z_isinstance : mg "isinstance" = none
 z_len : mg "len" = none
 z_list : mg "list" = none
 z_max : mg "max" = none
 z_min : mg "min" = none
 z_range : mg "range" = none
 z_repr : mg "repr" = none
 z_set : mg "set" = none
 z_str : mg "str" = none
 z_tuple : mg "tuple" = none
 t_MOST_TREES : Tok
 c_MOST_TREES : mg "MOST_TREES" = some (.int 2000 t_MOST_TREES)
 t_MOST_WITHIN : Tok
 c_MOST_WITHIN : mg "MOST_WITHIN" = some (.int 16 t_MOST_WITHIN)
set_option genInjectivity true
set_option genSizeOf true
section
variable {P : Program} {w : World} {K : W.Frag} {mg : Str -> Option Value} {base : Heap} (T : Txt K mg)
local macro_rules | `(tactic| walk_at "sm") => `(tactic| repeat' with_reducible first | exact sm_next | apply sm_seq | apply sm_asg | apply sm_ret | apply sm_drop | apply sm_if | apply sm_while | apply sm_for | exact em_var | exact em_c | apply em_op | apply em_un | apply em_and | apply em_not | apply em_if | apply em_cb | apply em_call | apply em_tup | apply em_lst | apply em_comp | exact rm_add | exact rm_addA | exact rm_sub | exact rm_mul | exact rm_div | exact rm_mod | exact rm_pow | exact rm_shl | exact um_neg_ | exact rm_cmp | exact rm_eq | exact rm_ix | apply tm_b | apply tm_and | apply tm_or | apply tm_not | exact am_nil | apply am_cons | exact cm_len_ | exact cm_max_ | exact cm_min_ | exact cm_maxL_ | exact cm_int_ | exact cm_tuple_ | apply im_seq | apply im_rng1 | apply im_rng2 | apply gm_sub | exact gm_name | exact sm_set | exact spGDraw_mono | exact spGDraw2_mono | exact rm_is | apply em_back | apply em_cutA | apply em_disp | exact tpm_nil | apply tpm_cons | apply em_dget | apply sm_dput | exact rm_inD | exact rm_neX | exact cm_listX_ | exact cm_isiW_ | exact cm_reprF_ | exact cm_str_ | exact cm_setL_ | exact cm_lenSet_ | apply em_bm | exact bm_append | exact bm_extT | apply em_callV | exact bm_insert | exact em_dnewT | exact rm_dIn | exact om_none | apply om_some | assumption)
theorem vw {X : Cx} (i : Nat) {x : Str} {pos : Pos} (h : X.N[i]? = some x /\ Vis X.env.scope x /\ (x == ("__debug__" : Str)) = false /\ (x == ("__classdict__" : Str)) = false) : PE X (.Name x pos) (vVar i) := vv i h.1 h.2.1 h.2.2.1 h.2.2.2
theorem pa1 {X : Cx} {e : PySem.Expr} {te : TE} (ha : PE X e te) (hs : starEach [e] X.env = [(false, eval e X.env)]) : PA X [e] (tCons te tNil) := pa_cons ha pa_nil hs
local macro_rules | `(tactic| left) => `(tactic| exact ⟨by rfl, by first | exact Or.inl rfl | exact Or.inr (Or.inl rfl) | exact Or.inr (Or.inr rfl), by decide, by decide⟩)
local macro_rules | `(tactic| walk_at "m") => `(tactic| with_reducible first | refine Exists.imp fun _ => ?_ | refine And.imp_right ?_ | refine forall_imp fun _ => ?_)
local macro_rules | `(tactic| walk_at "o") => `(tactic| first | exact Or.inl rfl | exact Or.inr (Or.inl rfl) | exact Or.inr (Or.inr rfl))
local macro_rules | `(tactic| symm) => `(tactic| first | exact .inl rfl | exact .inr rfl | assumption)
local macro_rules | `(tactic| right) => `(tactic| first | exact Or.inl rfl | exact Or.inr rfl)
local macro_rules | `(tactic| walk_at "n") => `(tactic| first | exact nobehind _ (by decide) (by decide) | rfl)
theorem ok_Zfeed : FnOk P w K mg base CX0 1 T.f_Zfeed T.d_Zfeed ["_law_script"] (spGFeed K) := by
 refine T.F_Zfeed.ok sc_Zfeed (fun vs H Q E h => by unfold spGFeed at h; split at h <;> first | rfl | exact h.elim) (fun cdv A outer s H vs Q E hr h => ?_)
 have hu := hu60 hr
 unfold spGFeed at h
 split at h
 rotate_left
 ·exact h.elim
 rename_i a
 obtain ⟨ns, hs, q⟩ := h
 refine ⟨_, (@pss_one _ _ _ (@ps_ret _ _ _ _ (@pe_lst _ _ _ _ (@pa_cons _ _ _ _ _ (@pe_op _ _ _ _ _ _ _ _ (kAdd (K := K)) (@pe_callTy _ _ _ _ _ _ _ _ _ (kList (K := K)) rfl T.z_list (by rfl) (@pa1 _ _ _ (@kCut _ K _ _ _ _ _ _ _ _ (@vw _ 0 _ _ (by left)) (@po_none _) (@po_some _ _ _ (@pe_int _ _ _ _)) (by rfl)) (by rfl)) (by decide) (by decide) (by rfl) (by rfl)) (@pe_op _ _ _ _ _ _ _ _ om_mul (@pe_lst _ _ _ _ (@pa1 _ _ _ (@pe_int _ _ _ _) (by rfl))) (@pe_callTy _ _ _ _ _ _ _ _ _ cm_int rfl T.z_int (by rfl) (@pa1 _ _ _ (@pe_cmpM _ _ _ _ _ _ _ _ (kEq (K := K) hu) (@vw _ 0 _ _ (by left)) (@pe_lst _ _ _ _ (@pa_nil _)) (by walk_at "n")) (by rfl)) (by decide) (by decide) (by rfl) (by rfl)))) (@pa_cons _ _ _ _ _ (@pe_int _ _ _ _) (@pa_cons _ _ _ _ _ (@pe_int _ _ _ _) (@pa1 _ _ _ (@pe_int _ _ _ _) (by rfl)) (by rfl)) (by rfl)) (by rfl))))), ?_⟩
 refine ⟨63, rfl, _, .inl ⟨hs, fun p hp => ?_⟩⟩
 have ecut : cutV (ns.map V.int) none (some 63) = (ns.take (HT.sIx ns.length ns.length (some 63))).map V.int := by
  unfold cutV
  rw [List.length_map]
  simp [HT.sIx, List.map_take]
 rw [ecut]
 generalize hns : ns.take (HT.sIx ns.length ns.length (some 63)) = ms
 have hms : ns ≠ [] -> ms ≠ [] := by
  intro hne
  rw [<- hns]
  cases ns with
  | nil => exact absurd rfl hne
  | cons x xs =>
   have e : HT.sIx (x :: xs).length (x :: xs).length (some 63) = min 63 (xs.length + 1) := HT.sIx_nat _ _ 63
   rw [e, show min 63 (xs.length + 1) = (min 62 xs.length) + 1 by omega, List.take_succ_cons]
   exact fun z => nomatch z
 have hml : ms.length <= 63 := by
  rw [<- hns, List.length_take]
  have e : HT.sIx ns.length ns.length (some 63) = min 63 ns.length := HT.sIx_nat _ _ 63
  omega
 refine ⟨_, .inl (.of upd_same), fun p2 hp2 => ?_⟩
 have s2 : Same H (upd (upd H p (.lst (ms.map V.int))) p2 (.lst (ms.map V.int))) := (Same.upd hp).trans (Same.upd hp2)
 have g2 : upd (upd H p (.lst (ms.map V.int))) p2 (.lst (ms.map V.int)) p2 = some (.lst (ms.map V.int)) := upd_same
 generalize upd (upd H p (.lst (ms.map V.int))) p2 (.lst (ms.map V.int)) = H2 at *
 refine ⟨small_le (show 1 <= 1000 by decide), fun p3 hp3 => ?_⟩
 have s3 : Same H2 (upd H2 p3 (.lst [.int 0])) := Same.upd hp3
 have g3 : upd H2 p3 (.lst [.int 0]) p3 = some (.lst [.int 0]) := upd_same
 generalize upd H2 p3 (.lst [.int 0]) = H3 at *
 refine ⟨small_le (show 0 <= 1000 by decide), fun p4 hp4 => ?_⟩
 have s4 : Same H3 (upd H3 p4 (.lst [])) := Same.upd hp4
 have g4 : upd H3 p4 (.lst []) p4 = some (.lst []) := upd_same
 generalize upd H3 p4 (.lst []) = H4 at *
 have S4 := s2.trans (s3.trans s4)
 refine ⟨.lst (ns.map Dv.int), .lst [], ?_, ?_, ?_, ?_⟩
 ·unfold Rep; exact ⟨a, _, rfl, S4.sqL hs, reps_ints ns⟩
 ·unfold Rep; exact ⟨p4, _, rfl, .of g4, reps_nil⟩
 ·unfold depD; rw [depDs_ints]; omega
 have eb : eqD (.lst (ns.map Dv.int)) (.lst []) = decide (ns = []) := by
  rw [eqD_lst]
  cases ns with
  | nil => rfl
  | cons x xs => rfl
 rw [eb]
 have fin : ∀ (k : Nat), k <= 1 -> (ns = [] -> k = 1) -> ∀ H5 p5, Same H4 H5 -> H5 p5 = some (.lst (List.replicate k (V.int 0))) -> ∃ l b xs zs, V.ref p2 = .ref l /\ V.ref p5 = .ref b /\ H5 l = some (.lst xs) /\ H5 b = some (.lst zs) /\ xs.length + zs.length <= sizeLine /\ ∀ p6, H5 p6 = none ->
  4 <= sizeLine /\ ∀ p7, upd H5 p6 (.lst (xs ++ zs)) p7 = none -> Q (.ref p7) (upd (upd H5 p6 (.lst (xs ++ zs))) p7 (.lst [.ref p6, .int 0, .int 0, .int 0])) := by
  intro k hk hk1 H5 p5 s5 g5
  refine ⟨p2, p5, _, _, rfl, rfl, s5 _ _ (s4 _ _ (s3 _ _ g2)), g5, small_le (by rw [List.length_map, List.length_replicate]; omega), fun p6 hp6 => ⟨small_le (by decide), fun p7 hp7 => ?_⟩⟩
  have S5 := S4.trans s5
  have S6 := S5.trans (Same.upd (o := .lst (ms.map V.int ++ List.replicate k (V.int 0))) hp6)
  refine q p7 _ (S6.free hp7) (S6.trans (Same.upd hp7)) ⟨p6, 0, 0, 0, ms ++ List.replicate k 0, by decide, by decide, by decide, by decide, upd_same, ?_, ?_, ?_⟩
  ·exact fun e => by rw [<- e, upd_same] at hp7; cases hp7
  ·rw [upd_ne (fun e => by rw [<- e, upd_same] at hp7; cases hp7), upd_same]
   rw [List.map_append, List.map_replicate]
  ·rw [List.length_append, List.length_replicate]
   by_cases hne : ns = []
   ·rw [hk1 hne]; omega
   ·have := hms hne
    have : ms.length ≠ 0 := fun z => this (List.length_eq_zero_iff.mp z)
    omega
 by_cases hne : ns = []
 ·rw [decide_eq_true hne]
  refine ⟨p3, 1, _, rfl, rfl, s4 _ _ g3, by decide, by decide, small_le (by decide), fun p5 hp5 => .inl ?_⟩
  exact fin 1 (by decide) (fun _ => rfl) _ p5 (Same.upd hp5) upd_same
 ·rw [decide_eq_false hne]
  refine ⟨p3, 0, _, rfl, rfl, s4 _ _ g3, by decide, by decide, small_le (by decide), fun p5 hp5 => .inl ?_⟩
  exact fin 0 (by decide) (fun z => absurd z hne) _ p5 (Same.upd hp5) upd_same
theorem ok2_Zdraw : FnOk P w K mg base CX0 1 T.f_Zdraw T.d_Zdraw ["_law_feed_here", "_law_many_here"] spGDraw2 := by
 refine T.F_Zdraw.ok sc_Zdraw (fun vs H Q E h => by unfold spGDraw2 at h; split at h <;> first | rfl | exact h.elim) (fun cdv A outer s H vs Q E hr h => ?_)
 have hu := hu60 hr
 match vs, h with
 | [.ref t, .int m], h =>
 obtain ⟨l, N, F, hN, hm, k⟩ := h
 obtain ⟨i, g, c, ns, i0, g0, c0, cN, ht, lt, hl, nl⟩ := F.at_
 have hm0 : 0 < m := hm.1
 refine ⟨_, (@pss_cons _ _ _ _ _ (@ps_asg _ _ _ _ _ _ (@pe_op _ _ _ _ _ _ _ _ (kAdd (K := K)) (@kIx _ K _ _ _ _ _ (@vw _ 0 _ _ (by left)) (@pe_int _ _ _ _) (by intro _ _; rfl) (by rfl)) (@pe_int _ _ _ _)) (@pg_sub _ _ _ _ _ _ _ (@vw _ 0 _ _ (by left)) (@pe_int _ _ _ _) set_any (by intro _; rfl)) (by rfl) (by rfl) (by rfl)) (@pss_cons _ _ _ _ _ (@ps_set _ _ 2 _ _ _ _ sc_Zdraw.nd rfl (by right) (@kIx _ K _ _ _ _ _ (@vw _ 0 _ _ (by left)) (@pe_int _ _ _ _) (by intro _ _; rfl) (by rfl)) (by rfl) (by symm)) (@pss_cons _ _ _ _ _ (@ps_if _ _ _ _ _ _ _ _ (@tu_cmp _ _ _ _ _ _ _ _ (kEq (K := K) hu) (@kIx _ K _ _ _ _ _ (@vw _ 0 _ _ (by left)) (@pe_int _ _ _ _) (by intro _ _; rfl) (by rfl)) (@pe_int _ _ _ _) (by walk_at "n")) (@pss_cons _ _ _ _ _ (@ps_set _ _ 3 _ _ _ _ sc_Zdraw.nd rfl (by right) (@kIx _ K _ _ _ _ _ (@kIx _ K _ _ _ _ _ (@vw _ 0 _ _ (by left)) (@pe_int _ _ _ _) (by intro _ _; rfl) (by rfl)) (@pe_op _ _ _ _ _ _ _ _ om_mod (@kIx _ K _ _ _ _ _ (@vw _ 0 _ _ (by left)) (@pe_int _ _ _ _) (by intro _ _; rfl) (by rfl)) (@pe_callB _ _ _ _ _ _ _ _ _ (kLen (K := K)) rfl T.z_len (by rfl) (@pa1 _ _ _ (@kIx _ K _ _ _ _ _ (@vw _ 0 _ _ (by left)) (@pe_int _ _ _ _) (by intro _ _; rfl) (by rfl)) (by rfl)) (by decide) (by decide) (by rfl) (by rfl))) (by intro _ _; rfl) (by rfl)) (by rfl) (by symm)) (@pss_cons _ _ _ _ _ (@ps_asg _ _ _ _ _ _ (@pe_op _ _ _ _ _ _ _ _ (kAdd (K := K)) (@kIx _ K _ _ _ _ _ (@vw _ 0 _ _ (by left)) (@pe_int _ _ _ _) (by intro _ _; rfl) (by rfl)) (@pe_int _ _ _ _)) (@pg_sub _ _ _ _ _ _ _ (@vw _ 0 _ _ (by left)) (@pe_int _ _ _ _) set_any (by intro _; rfl)) (by rfl) (by rfl) (by rfl)) (@pss_cons _ _ _ _ _ (@ps_if _ _ _ _ _ _ _ _ (@tu_cmp _ _ _ _ _ _ _ _ om_lt (@vw _ 3 _ _ (by left)) (@pe_op _ _ _ _ _ _ _ _ om_pow (@pe_int _ _ _ _) (@pe_int _ _ _ _)) (by walk_at "n")) (@pss_cons _ _ _ _ _ (@ps_set _ _ 4 _ _ _ _ sc_Zdraw.nd rfl (by right) (@pe_op _ _ _ _ _ _ _ _ (kAdd (K := K)) (@pe_op _ _ _ _ _ _ _ _ (kAdd (K := K)) (@pe_op _ _ _ _ _ _ _ _ (kAdd (K := K)) (@pe_op _ _ _ _ _ _ _ _ om_mod (@vw _ 3 _ _ (by left)) (@pe_int _ _ _ _)) (@pe_op _ _ _ _ _ _ _ _ om_mul (@pe_op _ _ _ _ _ _ _ _ om_mul (@pe_int _ _ _ _) (@vw _ 2 _ _ (by left))) (@vw _ 2 _ _ (by left)))) (@pe_op _ _ _ _ _ _ _ _ om_mul (@pe_int _ _ _ _) (@vw _ 2 _ _ (by left)))) (@pe_int _ _ _ _)) (by rfl) (by symm)) (@pss_cons _ _ _ _ _ (@ps_set _ _ 4 _ _ _ _ sc_Zdraw.nd rfl (by right) (@pe_op _ _ _ _ _ _ _ _ om_mul (@pe_op _ _ _ _ _ _ _ _ om_div (@pe_op _ _ _ _ _ _ _ _ om_mod (@pe_op _ _ _ _ _ _ _ _ om_mul (@vw _ 4 _ _ (by left)) (@pe_int _ _ _ _)) (@pe_int _ _ _ _)) (@pe_int _ _ _ _)) (@pe_int _ _ _ _)) (by rfl) (by symm)) (@pss_one _ _ _ (@ps_ret _ _ _ _ (@pe_op _ _ _ _ _ _ _ _ om_mod (@pe_op _ _ _ _ _ _ _ _ om_div (@pe_op _ _ _ _ _ _ _ _ om_mod (@vw _ 4 _ _ (by left)) (@pe_int _ _ _ _)) (@pe_int _ _ _ _)) (@vw _ 1 _ _ (by left))))))) (@pss_nil _)) (@pss_one _ _ _ (@ps_asg _ _ _ _ _ _ (@vw _ 3 _ _ (by left)) (@pg_sub _ _ _ _ _ _ _ (@vw _ 0 _ _ (by left)) (@pe_int _ _ _ _) set_any (by intro _; rfl)) (by rfl) (by rfl) (by rfl)))))) (@pss_nil _)) (@pss_cons _ _ _ _ _ (@ps_set _ _ 5 _ _ _ _ sc_Zdraw.nd rfl (by right) (@pe_op _ _ _ _ _ _ _ _ om_mod (@kIx _ K _ _ _ _ _ (@vw _ 0 _ _ (by left)) (@pe_int _ _ _ _) (by intro _ _; rfl) (by rfl)) (@vw _ 1 _ _ (by left))) (by rfl) (by symm)) (@pss_cons _ _ _ _ _ (@ps_asg _ _ _ _ _ _ (@pe_op _ _ _ _ _ _ _ _ om_div (@kIx _ K _ _ _ _ _ (@vw _ 0 _ _ (by left)) (@pe_int _ _ _ _) (by intro _ _; rfl) (by rfl)) (@vw _ 1 _ _ (by left))) (@pg_sub _ _ _ _ _ _ _ (@vw _ 0 _ _ (by left)) (@pe_int _ _ _ _) set_any (by intro _; rfl)) (by rfl) (by rfl) (by rfl)) (@pss_one _ _ _ (@ps_ret _ _ _ _ (@vw _ 5 _ _ (by left))))))))), ?_⟩
 refine seq_at (fun σ' H1 => σ' = [some (.ref t), some (.int m), none, none, none, none] /\ (∀ b, b ≠ t -> H1 b = H b) /\ H1 t = some (.lst [.ref l, .int i, .int g, .int (c + 1)])) ?_ ?_ (by walk_at "sm")
 ·exact ⟨_, _, .inl (.of ht), rfl, _, _, ht, rfl, rfl, fun b n => upd_ne n, upd_same⟩
 rintro σ' H1 ⟨rfl, f1, ht1⟩
 refine ⟨_, _, .inl (.of ht1), rfl, ?_⟩
 have hl1 : H1 l = some (.lst (ns.map V.int)) := by rw [f1 l lt]; exact hl
 have pos : (0 : Int) < (ns.length : Int) := by omega
 dsimp only [gName]
 refine seq_at (fun σ' H2 => ∃ (z3 z4 : Option V) (i2 g2 : Int), σ' = [some (.ref t), some (.int m), some (.int (c + 1)), z3, z4, none] /\ (∀ b, b ≠ t -> H2 b = H b) /\ 0 <= i2 /\ 0 <= g2 /\ H2 t = some (.lst [.ref l, .int i2, .int g2, .int (c + 1)])) ?_ ?_ (by walk_at "sm")
 ·refine ⟨_, _, .inl (.of ht1), rfl, ?_⟩
  refine ite2 (fun e => ?_) (fun e => ⟨none, none, i, g, rfl, f1, i0, g0, ht1⟩)
  obtain ⟨z, hz⟩ := atI_int (ns := ns) (Int.emod_nonneg i (show (ns.length : Int) ≠ 0 by omega)) (Int.emod_lt_of_pos i pos)
  refine seq_at (fun σ' H2 => σ' = [some (.ref t), some (.int m), some (.int (c + 1)), some (.int z), none, none] /\ H1 = H2) ?_ ?_ (by walk_at "sm")
  ·exact ⟨_, _, .inl (.of ht1), rfl, _, _, .inl (.of ht1), rfl, _, _, .inl (.of ht1), rfl, ns.length, .inl ⟨_, .of hl1, by rw [List.length_map]⟩, pos, _, _, .inl (.of hl1), hz, rfl, rfl⟩
  rintro σ' _ ⟨rfl, rfl⟩
  refine seq_at (fun σ' H2 => σ' = [some (.ref t), some (.int m), some (.int (c + 1)), some (.int z), none, none] /\ (∀ b, b ≠ t -> H2 b = H b) /\ H2 t = some (.lst [.ref l, .int (i + 1), .int g, .int (c + 1)])) ?_ ?_ (by walk_at "sm")
  ·exact ⟨_, _, .inl (.of ht1), rfl, _, _, ht1, rfl, rfl, fun b n => by rw [upd_ne n]; exact f1 b n, upd_same⟩
  rintro σ' H2 ⟨rfl, f2, ht2⟩
  refine seq_at (fun σ' H3 => σ' = [some (.ref t), some (.int m), some (.int (c + 1)), some (.int z), none, none] /\ H2 = H3 /\ ¬ z < 1000000000000000000) ?_ ?_ (by walk_at "sm")
  ·refine ⟨⟨by decide, by decide, by decide⟩, ?_⟩
   refine ite2 (fun e => ?_) (fun e => ⟨rfl, rfl, ?_⟩)
   ·refine ⟨by decide, .inr (.inl ⟨by decide, by decide⟩), .inr (.inl ⟨by omega, by omega⟩), .inr (.inl ⟨by decide, by decide⟩), ?_⟩
    refine ⟨.inr (.inr ⟨by decide, by decide⟩), by decide, okDiv_of (by decide) (by decide), .inr (.inr ⟨by decide, by decide⟩), ?_⟩
    refine ⟨by decide, okDiv_of (by decide) (by decide), hm0, ?_⟩
    exact k _ _ (Int.emod_nonneg _ (by omega)) (Int.emod_lt_of_pos _ hm0) ⟨i + 1, g, c + 1, ns, by omega, g0, by omega, by omega, ht2, lt, by rw [f2 l lt]; exact hl, nl⟩ f2
   ·intro z'
    exact e (decide_eq_true z')
  rintro σ' _ ⟨rfl, rfl, hz2⟩
  exact ⟨_, _, ht2, rfl, _, _, _, _, rfl, fun b n => by rw [upd_ne n]; exact f2 b n, show 0 <= i + 1 by omega, show 0 <= z by omega, upd_same⟩
 rintro σ' H2 ⟨z3, z4, i2, g2, rfl, f2, i0', g0', ht2⟩
 refine ⟨_, _, .inl (.of ht2), rfl, hm0, ?_⟩
 dsimp only [gName]
 refine ⟨_, _, .inl (.of ht2), rfl, hm, _, _, ht2, rfl, ?_⟩
 refine k _ _ (Int.emod_nonneg _ (by omega)) (Int.emod_lt_of_pos _ hm0) ⟨i2, g2 / m, c + 1, ns, i0', Int.ediv_nonneg g0' (by omega), by omega, by omega, upd_same, lt, ?_, nl⟩ (fun b n => by rw [upd_ne n]; exact f2 b n)
 rw [upd_ne lt, f2 l lt]; exact hl
theorem ok_Zdraw : FnOk P w K mg base CX0 1 T.f_Zdraw T.d_Zdraw ["_law_feed_here", "_law_many_here"] spGDraw := (ok2_Zdraw T).imp spGDraw_of
def One (L : Nat -> Int) (S : Nat -> Bool) : Prop := ∀ i j, S i = true -> S j = true -> L i = L j
def Can (L : Nat -> Int) (Y : List (Nat -> Bool)) : Nat -> (Nat -> Bool) -> Prop
 | 0, S => One L S
 | n + 1, S => One L S \/ ∃ y ∈ Y, Can L Y n (fun k => S k && y k) /\ Can L Y n (fun k => S k && !y k)
section
variable {L L' : Nat -> Int} {Y Y' : List (Nat -> Bool)} {S S' : Nat -> Bool} {n m a b c : Nat}
theorem one_sub (h : ∀ k, S' k = true -> S k = true) (o : One L S) : One L S' := fun i j x y => o i j (h i x) (h j y)
theorem can_sub : ∀ {n : Nat} {S S' : Nat -> Bool}, (∀ k, S' k = true -> S k = true) -> Can L Y n S -> Can L Y n S'
 | 0, _, _, h, o => one_sub h o
 | n + 1, S, S', h, .inl o => .inl (one_sub h o)
 | n + 1, S, S', h, .inr ⟨y, hy, p, q⟩ => .inr ⟨y, hy, can_sub (fun k z => by simp only [Bool.and_eq_true] at z ⊢; exact ⟨h k z.1, z.2⟩) p, can_sub (fun k z => by simp only [Bool.and_eq_true] at z ⊢; exact ⟨h k z.1, z.2⟩) q⟩
theorem can_succ : ∀ {n : Nat} {S : Nat -> Bool}, Can L Y n S -> Can L Y (n + 1) S
 | 0, _, o => .inl o
 | n + 1, S, .inl o => .inl o
 | n + 1, S, .inr ⟨y, hy, p, q⟩ => .inr ⟨y, hy, can_succ p, can_succ q⟩
theorem can_mono (h : n <= m) (p : Can L Y n S) : Can L Y m S := by
 induction h with
 | refl => exact p
 | step _ ih => exact can_succ ih
def IsFew (L : Nat -> Int) (Y : List (Nat -> Bool)) (S : Nat -> Bool) (m : Nat) : Prop := Can L Y m S /\ ∀ n, Can L Y n S -> m <= n
theorem few_eq (x : IsFew L Y S a) (y : IsFew L Y S b) : a = b := Nat.le_antisymm (x.2 _ y.1) (y.2 _ x.1)
theorem few_split {y : Nat -> Bool} (hy : y ∈ Y) (x : IsFew L Y S a) (p : IsFew L Y (fun k => S k && y k) b) (q : IsFew L Y (fun k => S k && !y k) c) : a <= 1 + max b c := by
 rw [Nat.add_comm]
 exact x.2 (max b c + 1) (.inr ⟨y, hy, can_mono (Nat.le_max_left ..) p.1, can_mono (Nat.le_max_right ..) q.1⟩)
def Parts (S y : Nat -> Bool) : Prop := (∃ k, S k = true /\ y k = true) /\ ∃ k, S k = true /\ y k = false
theorem not_parts {y : Nat -> Bool} (h : ¬ Parts S y) : (∀ k, S k = true -> (S k && y k) = true) \/ ∀ k, S k = true -> (S k && !y k) = true := by
 by_cases z : ∃ k, S k = true /\ y k = true
 ·refine .inl fun k hk => ?_
  rw [hk, Bool.true_and]
  cases e : y k with
  | true => rfl
  | false => exact absurd ⟨z, k, hk, e⟩ h
 ·refine .inr fun k hk => ?_
  rw [hk, Bool.true_and]
  cases e : y k with
  | false => rfl
  | true => exact absurd ⟨k, hk, e⟩ z
theorem can_labels : ∀ {n : Nat} {S : Nat -> Bool} (ds : List Int), Can L Y n S -> ds.Nodup -> (∀ d ∈ ds, ∃ k, S k = true /\ L k = d) -> ds.length <= 2 ^ n := by
 have one : ∀ {S : Nat -> Bool} (ds : List Int), One L S -> ds.Nodup -> (∀ d ∈ ds, ∃ k, S k = true /\ L k = d) -> ds.length <= 1 := by
  intro S ds o nd h
  match ds, nd, h with
  | [], _, _ => exact Nat.zero_le _
  | [_], _, _ => exact Nat.le_refl _
  | x :: y :: r, nd, h =>
   obtain ⟨i, hi, ei⟩ := h x (by simp)
   obtain ⟨j, hj, ej⟩ := h y (by simp)
   have := o i j hi hj
   rw [ei, ej] at this
   simp [this] at nd
 intro n
 induction n with
 | zero => exact fun ds o nd h => one ds o nd h
 | succ n ih =>
  intro S ds c nd h
  rcases c with o | ⟨y, hy, p, q⟩
  ·exact Nat.le_trans (one ds o nd h) Nat.one_le_two_pow
  ·classical
   have e : ds.length = (ds.filter fun d => decide (∃ k, (S k && y k) = true /\ L k = d)).length + (ds.filter fun d => !decide (∃ k, (S k && y k) = true /\ L k = d)).length := by
    clear nd h
    induction ds with
    | nil => rfl
    | cons x r ih2 =>
     rw [List.filter_cons, List.filter_cons]
     cases decide (∃ k, (S k && y k) = true /\ L k = x) <;> simp [ih2] <;> omega
   have a1 := ih (ds.filter fun d => decide (∃ k, (S k && y k) = true /\ L k = d)) p (nd.filter _) fun d hd => by
    have := (List.mem_filter.mp hd).2
    exact of_decide_eq_true this
   have a2 := ih (ds.filter fun d => !decide (∃ k, (S k && y k) = true /\ L k = d)) q (nd.filter _) fun d hd => by
    obtain ⟨h1, h2⟩ := List.mem_filter.mp hd
    obtain ⟨k, hk, ek⟩ := h d h1
    refine ⟨k, ?_, ek⟩
    cases z : y k with
    | false => rw [hk]; rfl
    | true =>
     have : decide (∃ k, (S k && y k) = true /\ L k = d) = true := decide_eq_true ⟨k, by rw [hk, z]; rfl, ek⟩
     rw [this] at h2
     cases h2
   rw [Nat.pow_succ]
   omega
def card (N : Nat) (S : Nat -> Bool) : Nat := ((List.range N).filter S).length
theorem card_succ (N : Nat) (S : Nat -> Bool) : card (N + 1) S = card N S + if S N = true then 1 else 0 := by
 unfold card
 rw [List.range_succ, List.filter_append, List.length_append]
 cases h : S N <;> simp [h]
theorem card_split (N : Nat) (S y : Nat -> Bool) : card N S = card N (fun k => S k && y k) + card N (fun k => S k && !y k) := by
 induction N with
 | zero => rfl
 | succ N ih =>
  rw [card_succ, card_succ, card_succ, ih]
  cases S N <;> cases y N <;> simp <;> omega
theorem card_pos {N : Nat} {S : Nat -> Bool} {k : Nat} (hk : k < N) (hs : S k = true) : 1 <= card N S := List.length_pos_of_mem (List.mem_filter.mpr ⟨List.mem_range.mpr hk, hs⟩)
theorem card_two {N : Nat} {S : Nat -> Bool} {i j : Nat} (hi : i < N) (hj : j < N) (si : S i = true) (sj : S j = true) (ne : i ≠ j) : 2 <= card N S := by
 rw [card_split N S (fun k => k == i)]
 have := card_pos (S := fun k => S k && k == i) hi (by simp [si])
 have := card_pos (S := fun k => S k && !(k == i)) hj (by simp [sj, Ne.symm ne])
 omega
theorem card_parts {N : Nat} (hS : ∀ k, S k = true -> k < N) {y : Nat -> Bool} (h : Parts S y) : card N (fun k => S k && y k) < card N S /\ card N (fun k => S k && !y k) < card N S := by
 obtain ⟨⟨i, hi, yi⟩, j, hj, yj⟩ := h
 have := card_split N S y
 have := card_pos (S := fun k => S k && y k) (hS i hi) (by simp [hi, yi])
 have := card_pos (S := fun k => S k && !y k) (hS j hj) (by simp [hj, yj])
 omega
theorem can_ends {N : Nat} (he : ∀ i j, i < N -> j < N -> (∀ y ∈ Y, y i = y j) -> L i = L j) : ∀ (n : Nat) (S : Nat -> Bool), (∀ k, S k = true -> k < N) -> card N S <= n + 1 -> Can L Y n S := by
 intro n
 induction n with
 | zero =>
  intro S hS hc i j hi hj
  by_cases e : i = j
  ·rw [e]
  ·have := card_two (hS i hi) (hS j hj) hi hj e
   omega
 | succ n ih =>
  intro S hS hc
  by_cases o : One L S
  ·exact .inl o
  ·have : ∃ i j, S i = true /\ S j = true /\ L i ≠ L j := by
    refine Classical.byContradiction fun z => o fun i j hi hj => Classical.byContradiction fun q => z ⟨i, j, hi, hj, q⟩
   obtain ⟨i, j, hi, hj, ne⟩ := this
   have : ∃ y ∈ Y, y i ≠ y j := by
    refine Classical.byContradiction fun z => ne (he i j (hS i hi) (hS j hj) fun y hy => Classical.byContradiction fun q => z ⟨y, hy, q⟩)
   obtain ⟨y, hy, hne⟩ := this
   have hp : Parts S y := by
    cases yi : y i with
    | true =>
     refine ⟨⟨i, hi, yi⟩, j, hj, ?_⟩
     cases yj : y j with
     | false => rfl
     | true => rw [yi, yj] at hne; exact absurd rfl hne
    | false =>
     refine ⟨⟨j, hj, ?_⟩, i, hi, yi⟩
     cases yj : y j with
     | true => rfl
     | false => rw [yi, yj] at hne; exact absurd rfl hne
   obtain ⟨c1, c2⟩ := card_parts hS hp
   exact .inr ⟨y, hy, ih _ (fun k z => hS k (by simp only [Bool.and_eq_true] at z; exact z.1)) (by omega), ih _ (fun k z => hS k (by simp only [Bool.and_eq_true] at z; exact z.1)) (by omega)⟩
theorem few_exists : ∀ {n : Nat} {S : Nat -> Bool}, Can L Y n S -> ∃ m, IsFew L Y S m := by
 intro n S h
 induction n with
 | zero => exact ⟨0, h, fun _ _ => Nat.zero_le _⟩
 | succ n ih =>
  by_cases z : Can L Y n S
  ·exact ih z
  ·exact ⟨n + 1, h, fun k hk => by
    rcases Nat.lt_or_ge k (n + 1) with q | q
    ·exact absurd (can_mono (by omega) hk) z
    ·exact q⟩
end
def msk (ts : List Nat) : Nat := (ts.map (2 ^ ·)).sum
theorem msk_cons (t : Nat) (ts : List Nat) : msk (t :: ts) = 2 ^ t + msk ts := by unfold msk; rw [List.map_cons, List.sum_cons]
theorem msk_app (ts us : List Nat) : msk (ts ++ us) = msk ts + msk us := by unfold msk; rw [List.map_append, List.sum_append]
theorem msk_lt : ∀ (ts : List Nat) (N : Nat), ts.Pairwise (fun a b => b < a) -> (∀ t ∈ ts, t < N) -> msk ts < 2 ^ N /\ ∀ k, (msk ts).testBit k = decide (k ∈ ts)
 | [], N, _, _ => ⟨Nat.two_pow_pos N, fun k => by simp [msk]⟩
 | t :: ts, N, hp, hl => by
  obtain ⟨h1, h2⟩ := List.pairwise_cons.mp hp
  obtain ⟨i1, i2⟩ := msk_lt ts t h2 h1
  rw [msk_cons]
  have ht : t < N := hl t (by simp)
  have e2 : 2 ^ t + 2 ^ t <= 2 ^ N := by rw [<- Nat.two_mul, Nat.mul_comm, <- Nat.pow_succ]; exact Nat.pow_le_pow_right (by decide) ht
  refine ⟨by omega, fun k => ?_⟩
  rcases Nat.lt_trichotomy k t with z | z | z
  ·rw [Nat.testBit_two_pow_add_gt z, i2 k]
   simp only [List.mem_cons, show k ≠ t by omega, false_or]
  ·subst z
   rw [Nat.testBit_two_pow_add_eq, i2 k]
   have : k ∉ ts := fun q => Nat.lt_irrefl _ (h1 k q)
   simp [this]
  ·have : 2 ^ t + msk ts < 2 ^ k := by
    have : 2 ^ (t + 1) <= 2 ^ k := Nat.pow_le_pow_right (by decide) z
    rw [Nat.pow_succ] at this
    omega
   rw [Nat.testBit_lt_two_pow this]
   have h3 : k ∉ ts := fun q => Nat.lt_irrefl _ (Nat.lt_trans z (h1 k q))
   simp [h3, show k ≠ t by omega]
theorem msk_rev (ts : List Nat) : msk ts.reverse = msk ts := by
 induction ts with
 | nil => rfl
 | cons t ts ih => rw [List.reverse_cons, msk_app, ih, msk_cons, msk_cons]; simp [msk]; omega
theorem msk_rise {ts : List Nat} {N : Nat} (hp : ts.Pairwise (· < ·)) (hl : ∀ t ∈ ts, t < N) : msk ts < 2 ^ N /\ ∀ k, (msk ts).testBit k = decide (k ∈ ts) := by
 have := msk_lt ts.reverse N (List.pairwise_reverse.mpr hp) (fun t ht => hl t (List.mem_reverse.mp ht))
 rw [msk_rev] at this
 exact ⟨this.1, fun k => by rw [this.2 k]; simp⟩
def labF (ls : List Int) (k : Nat) : Int := ls.getD k 0
def rowF (ys : List Nat) : List (Nat -> Bool) := ys.map Nat.testBit
def flds (a b c d : V) : List (Str × V) := [("labels", a), ("yeses", b), ("alike", c), ("known", d)]
structure Memo (ls : List Int) (ys : List Nat) (kvs : List (Key × V)) : Prop where
 nd : (kvs.map (·.1)).Nodup
 ok : ∀ e ∈ kvs, ∃ S m : Nat, e = ((Sum.inl (S : Int) : Key), V.int (m : Int)) /\ S < 2 ^ ls.length /\ IsFew (labF ls) (rowF ys) S.testBit m
theorem pigeon : ∀ (N : Nat) (l : List Nat), l.Nodup -> (∀ x ∈ l, x < N) -> l.length <= N
 | 0, l, _, h => by
  cases l with
  | nil => exact Nat.le_refl _
  | cons x r => exact absurd (h x (by simp)) (by omega)
 | N + 1, l, nd, h => by
  have := pigeon N (l.erase N) (nd.erase N) (fun x hx => by
   have h2 := (nd.mem_erase_iff).mp hx
   have := h x h2.2
   have := h2.1
   omega)
  by_cases z : N ∈ l
  ·have e := List.length_erase_of_mem z
   omega
  ·have e := List.erase_of_not_mem z
   rw [e] at this
   omega
theorem val_mem {kvs : List (Key × V)} {k : Key} {v : V} (h : valV kvs k = some v) : (k, v) ∈ kvs := by
 unfold valV at h
 cases e : kvs.find? fun kv => decide (kv.1 = k) with
 | none => rw [e] at h; cases h
 | some x =>
  rw [e] at h
  have h1 := List.find?_some e
  have h2 := List.mem_of_find?_eq_some e
  cases h
  have : x.1 = k := of_decide_eq_true h1
  rw [<- this]
  exact h2
theorem Memo.get {ls : List Int} {ys : List Nat} {kvs : List (Key × V)} (h : Memo ls ys kvs) {S : Nat} {v : V} (e : valV kvs (Sum.inl (S : Int) : Key) = some v) : ∃ m : Nat, v = .int m /\ IsFew (labF ls) (rowF ys) S.testBit m := by
 obtain ⟨S', m, ee, _, hf⟩ := h.ok _ (val_mem e)
 have e1 : (Sum.inl (S : Int) : Key) = Sum.inl (S' : Int) := congrArg Prod.fst ee
 have e2 : v = V.int m := congrArg Prod.snd ee
 have : (S : Int) = S' := Sum.inl.inj e1
 have : S = S' := by omega
 subst this
 exact ⟨m, e2, hf⟩
def AlikeOk (ls : List Int) (as : List Nat) : Prop := ∀ S, S < 2 ^ ls.length -> (as.any (fun a => decide (S &&& a = S)) = true ↔ One (labF ls) S.testBit)
structure RkAt (K : W.Frag) (C : Addr) (ls : List Int) (ys : List Nat) (H : Hp) (p d : Addr) : Prop where
 at_ : ∃ dx tl yl al as kvs, H p = some (.ins C dx (flds (.ref tl) (.ref yl) (.ref al) (.ref d))) /\ SqT K H tl (ls.map V.int) /\ H yl = some (.lst (iL ys)) /\ H al = some (.lst (iL as)) /\ H d = some (.dK kvs) /\ as.length <= 100 /\ AlikeOk ls as /\ Memo ls ys kvs
 l16 : ls.length <= 16
 y16 : ys.length <= 16
def NoTup (o : HO) : Prop := (∀ xs, o ≠ .tup xs) /\ ∀ ob u, o ≠ .frz ob u
theorem frm_sqT {K : W.Frag} {d a : Addr} {H H' : Hp} {xs : List V} {o : HO} (f : Frm d H H') (hd : H d = some o) (no : NoTup o) (h : SqT K H a xs) : SqT K H' a xs := by
 by_cases e : a = d
 ·subst e
  rcases h with (h | ⟨ob, h⟩) | h
  ·rw [hd] at h; exact absurd (Option.some.inj h) (no.1 _)
  ·rw [hd] at h; exact absurd (Option.some.inj h) (no.2 _ _)
  ·exact .inr h
 ·exact sqT_stay h fun o k => f _ _ e k
theorem noTup_dK {kvs : List (Key × V)} : NoTup (.dK kvs) := ⟨(fun _ z => nomatch z), (fun _ _ z => nomatch z)⟩
theorem same_frm' {t : Addr} {H H' : Hp} (s : Same H H') : Frm t H H' := fun b o _ e => s b o e
def sp_gtable : Sp := fun vs H Q _ => match vs with
 | [.ref t, .int n] => ∃ m N : Nat, GFeed H t N /\ N <= 900000000 /\ n = m /\ 1 <= m /\ m <= 4 /\ ∀ (bs : List Bool) p H', bs.length = 2 ^ m -> H p = none -> H' p = some (.tup (bs.map V.bl)) -> GFeed H' t (N + 18) -> Frm t H H' -> Q (.ref p) H'
 | _ => False
theorem sp_gtable_mono : SpMono sp_gtable := fun vs H Q Q' E h q => by
 unfold sp_gtable at *
 split at q
 ·revert q; repeat' first | exact h _ _ | exact newL_mono h | exact out_mono h | exact outT_mono h | walk_at "m"
 ·exact q.elim
theorem frm_all {t : Addr} {H H' : Hp} (h : ∀ b, b ≠ t -> H' b = H b) : Frm t H H' := fun b o n e => by rw [h b n]; exact e
theorem ok_Ztable : FnOk P w K mg base CX0 2 T.f_Ztable T.d_Ztable ["_law_feed_here", "_law_n"] sp_gtable := by
 have G_Zdraw := ok_Zdraw (P := P) (w := w) (base := base) T
 refine T.F_Ztable.ok sc_Ztable (fun vs H Q E h => by unfold sp_gtable at h; split at h <;> first | rfl | exact h.elim) (fun cdv A outer s H vs Q E hr h => ?_)
 have hu := hu60 hr
 have hr_Zdraw := hr.mono (show 1 <= _ by decide)
 unfold sp_gtable at h
 split at h
 rotate_left
 ·exact h.elim
 rename_i t n
 obtain ⟨m, N, F, hN, e1, m1, m4, q⟩ := h
 subst e1
 refine ⟨_, (@pss_cons _ _ _ _ _ (@ps_set _ _ 2 _ _ _ _ sc_Ztable.nd rfl (by right) (@pe_op _ _ _ _ _ _ _ _ om_shl (@pe_int _ _ _ _) (@vw _ 1 _ _ (by left))) (by rfl) (by symm)) (@pss_cons _ _ _ _ _ (@ps_set _ _ 3 _ _ _ _ sc_Ztable.nd rfl (by right) (@pe_call _ _ _ _ _ _ _ _ _ _ _ _ _ _ _ _ G_Zdraw hr_Zdraw rfl T.m_Zdraw T.F_Zdraw.kp T.b_Zdraw .nil pass0 (@pa_cons _ _ _ _ _ (@vw _ 0 _ _ (by left)) (@pa1 _ _ _ (@pe_int _ _ _ _) (by rfl)) (by rfl)) (by decide) (by rfl) (by rfl)) (by rfl) (by symm)) (@pss_cons _ _ _ _ _ (@ps_if _ _ _ _ _ _ _ _ (@tu_cmp _ _ _ _ _ _ _ _ om_lt (@vw _ 3 _ _ (by left)) (@pe_int _ _ _ _) (by walk_at "n")) (@pss_one _ _ _ (@ps_ret _ _ _ _ (@pe_callTy _ _ _ _ _ _ _ _ _ (kTuple (K := K)) rfl T.z_tuple (by rfl) (@pa1 _ _ _ (@pe_compB _ _ _ _ _ _ _ (["_law_k", "_law_feed_here"]) 1 [0] _ _ _ _ rfl (@pi_range1 _ _ _ _ _ _ rfl T.z_range (@pa1 _ _ _ (@vw _ 2 _ _ (by left)) (by rfl)) (by rfl)) (by kernel_rfl) rfl rfl (by kernel_rfl) (fun c => @pg_name _ _ 0 _ (show (["_law_k", "_law_feed_here"] : List Str).Nodup by decide +kernel) rfl (by right) (by symm)) (go_name (by decide)) (fun c => @pts_nil _) (fun c => (@pe_cmpM _ _ _ _ _ _ _ _ (kEq (K := K) hu) (@pe_call _ _ _ _ _ _ _ _ _ _ _ _ _ _ _ _ G_Zdraw hr_Zdraw rfl T.m_Zdraw T.F_Zdraw.kp T.b_Zdraw .nil pass0 (@pa_cons _ _ _ _ _ (@vw _ 1 _ _ (by left)) (@pa1 _ _ _ (@pe_int _ _ _ _) (by rfl)) (by rfl)) (by decide) (by rfl) (by rfl)) (@pe_int _ _ _ _) (by walk_at "n"))) (by intro _; rfl)) (by rfl)) (by decide) (by decide) (by rfl) (by rfl)))) (@pss_nil _)) (@pss_cons _ _ _ _ _ (@ps_if _ _ _ _ _ _ _ _ (@tu_cmp _ _ _ _ _ _ _ _ (kEq (K := K) hu) (@vw _ 3 _ _ (by left)) (@pe_int _ _ _ _) (by walk_at "n")) (@pss_cons _ _ _ _ _ (@ps_set _ _ 4 _ _ _ _ sc_Ztable.nd rfl (by right) (@pe_call _ _ _ _ _ _ _ _ _ _ _ _ _ _ _ _ G_Zdraw hr_Zdraw rfl T.m_Zdraw T.F_Zdraw.kp T.b_Zdraw .nil pass0 (@pa_cons _ _ _ _ _ (@vw _ 0 _ _ (by left)) (@pa1 _ _ _ (@vw _ 2 _ _ (by left)) (by rfl)) (by rfl)) (by decide) (by rfl) (by rfl)) (by rfl) (by symm)) (@pss_one _ _ _ (@ps_ret _ _ _ _ (@pe_callTy _ _ _ _ _ _ _ _ _ (kTuple (K := K)) rfl T.z_tuple (by rfl) (@pa1 _ _ _ (@pe_compB _ _ _ _ _ _ _ (["_law_k", "_law_place"]) 1 [4] _ _ _ _ rfl (@pi_range1 _ _ _ _ _ _ rfl T.z_range (@pa1 _ _ _ (@vw _ 2 _ _ (by left)) (by rfl)) (by rfl)) (by kernel_rfl) rfl rfl (by kernel_rfl) (fun c => @pg_name _ _ 0 _ (show (["_law_k", "_law_place"] : List Str).Nodup by decide +kernel) rfl (by right) (by symm)) (go_name (by decide)) (fun c => @pts_nil _) (fun c => (@pe_cmpM _ _ _ _ _ _ _ _ (kEq (K := K) hu) (@vw _ 0 _ _ (by left)) (@vw _ 1 _ _ (by left)) (by walk_at "n"))) (by intro _; rfl)) (by rfl)) (by decide) (by decide) (by rfl) (by rfl))))) (@pss_nil _)) (@pss_cons _ _ _ _ _ (@ps_if _ _ _ _ _ _ _ _ (@tu_cmp _ _ _ _ _ _ _ _ (kEq (K := K) hu) (@vw _ 3 _ _ (by left)) (@pe_int _ _ _ _) (by walk_at "n")) (@pss_cons _ _ _ _ _ (@ps_set _ _ 5 _ _ _ _ sc_Ztable.nd rfl (by right) (@pe_call _ _ _ _ _ _ _ _ _ _ _ _ _ _ _ _ G_Zdraw hr_Zdraw rfl T.m_Zdraw T.F_Zdraw.kp T.b_Zdraw .nil pass0 (@pa_cons _ _ _ _ _ (@vw _ 0 _ _ (by left)) (@pa1 _ _ _ (@vw _ 1 _ _ (by left)) (by rfl)) (by rfl)) (by decide) (by rfl) (by rfl)) (by rfl) (by symm)) (@pss_one _ _ _ (@ps_ret _ _ _ _ (@pe_callTy _ _ _ _ _ _ _ _ _ (kTuple (K := K)) rfl T.z_tuple (by rfl) (@pa1 _ _ _ (@pe_compB _ _ _ _ _ _ _ (["_law_k", "_law_one"]) 1 [5] _ _ _ _ rfl (@pi_range1 _ _ _ _ _ _ rfl T.z_range (@pa1 _ _ _ (@vw _ 2 _ _ (by left)) (by rfl)) (by rfl)) (by kernel_rfl) rfl rfl (by kernel_rfl) (fun c => @pg_name _ _ 0 _ (show (["_law_k", "_law_one"] : List Str).Nodup by decide +kernel) rfl (by right) (by symm)) (go_name (by decide)) (fun c => @pts_nil _) (fun c => (@pe_cmpM _ _ _ _ _ _ _ _ (kEq (K := K) hu) (@pe_op _ _ _ _ _ _ _ _ om_and (@pe_op _ _ _ _ _ _ _ _ om_shr (@vw _ 0 _ _ (by left)) (@vw _ 1 _ _ (by left))) (@pe_int _ _ _ _)) (@pe_int _ _ _ _) (by walk_at "n"))) (by intro _; rfl)) (by rfl)) (by decide) (by decide) (by rfl) (by rfl))))) (@pss_nil _)) (@pss_cons _ _ _ _ _ (@ps_set _ _ 6 _ _ _ _ sc_Ztable.nd rfl (by right) (@pe_cmpM _ _ _ _ _ _ _ _ (kEq (K := K) hu) (@pe_call _ _ _ _ _ _ _ _ _ _ _ _ _ _ _ _ G_Zdraw hr_Zdraw rfl T.m_Zdraw T.F_Zdraw.kp T.b_Zdraw .nil pass0 (@pa_cons _ _ _ _ _ (@vw _ 0 _ _ (by left)) (@pa1 _ _ _ (@pe_int _ _ _ _) (by rfl)) (by rfl)) (by decide) (by rfl) (by rfl)) (@pe_int _ _ _ _) (by walk_at "n")) (by rfl) (by symm)) (@pss_one _ _ _ (@ps_ret _ _ _ _ (@pe_callTy _ _ _ _ _ _ _ _ _ (kTuple (K := K)) rfl T.z_tuple (by rfl) (@pa1 _ _ _ (@pe_compB _ _ _ _ _ _ _ (["_law_k", "_law_answer"]) 1 [6] _ _ _ _ rfl (@pi_range1 _ _ _ _ _ _ rfl T.z_range (@pa1 _ _ _ (@vw _ 2 _ _ (by left)) (by rfl)) (by rfl)) (by kernel_rfl) rfl rfl (by kernel_rfl) (fun c => @pg_name _ _ 0 _ (show (["_law_k", "_law_answer"] : List Str).Nodup by decide +kernel) rfl (by right) (by symm)) (go_name (by decide)) (fun c => @pts_nil _) (fun c => (@vw _ 1 _ _ (by left))) (by intro _; rfl)) (by rfl)) (by decide) (by decide) (by rfl) (by rfl)))))))))), ?_⟩
 have e2 : (1 : Int) * 2 ^ ((m : Int).toNat) = ((2 ^ m : Nat) : Int) := by rw [Int.toNat_natCast, Int.natCast_pow, Int.one_mul]; rfl
 have h16 : 2 ^ m <= 16 := Nat.pow_le_pow_right (n := 2) (by decide) m4
 have h2 : 2 <= 2 ^ m := Nat.pow_le_pow_right (n := 2) (i := 1) (by decide) m1
 refine ⟨⟨by omega, by omega, by decide⟩, ?_⟩
 rw [e2]
 generalize hM : 2 ^ m = M at *
 have hMd : okDiv (M : Int) := okDiv_of (by omega) (Int.le_trans (Int.ofNat_le.mpr h16) (by decide))
 have fin : ∀ (N' : Nat) (H1 : Hp) (bs : List Bool) (l : Addr), GFeed H1 t N' -> N' <= N + 18 -> Frm t H H1 -> bs.length = M -> H1 l = none -> ∃ ys, (SqL K (upd H1 l (.lst (bs.map V.bl))) l ys /\ ∀ p, upd H1 l (.lst (bs.map V.bl)) p = none -> Q (.ref p) (upd (upd H1 l (.lst (bs.map V.bl))) p (.tup ys))) \/ (SqT K (upd H1 l (.lst (bs.map V.bl))) l ys /\ Q (.ref l) (upd H1 l (.lst (bs.map V.bl)))) := by
  intro N' H1 bs l F1 hN' fr hb hl
  refine ⟨_, .inl ⟨.of upd_same, fun p hp => ?_⟩⟩
  have f2 : Frm t H (upd H1 l (.lst (bs.map V.bl))) := fr.trans (Frm.upd hl)
  have F2 := F1.upd (o := .lst (bs.map V.bl)) hl
  exact q bs p _ hb (F2.free f2 hp) upd_same ((F2.upd hp).mono (by omega)) (f2.trans (Frm.upd hp))
 refine ⟨N, F, by omega, okDiv_of (by decide) (by decide), fun way H2 w0 w1 F2 f2 => ?_⟩
 dsimp only [gName]
 refine ite2 (fun e => ?_) (fun e => ?_)
 ·refine ⟨(M : Int), rfl, by omega, by omega, ?_⟩
  refine comp_range (fun i ys H' => GFeed H' t (N + 1 + i) /\ Frm t H H' /\ ∃ bs : List Bool, ys = bs.map V.bl /\ bs.length = i) ⟨F2, frm_all f2, [], rfl, rfl⟩ (fun i ys H' hi ⟨_, _, bs, e, el⟩ => by
   rw [e]; exact small1000 (by rw [List.length_map]; omega)) ?_ ?_
  ·rintro i ys H' hi ⟨Fi, fi, bs, rfl, rfl⟩
   refine ⟨_, Fi, by omega, okDiv_of (by decide) (by decide), fun d H3 _ _ F3 f3 => ?_⟩
   exact ⟨F3.mono (by omega), fi.trans (frm_all f3), bs ++ [(false ^^ (d == 1))], by rw [List.map_append]; rfl, by rw [List.length_append]; rfl⟩
  ·rintro ys H' ⟨Fi, fi, bs, rfl, hb⟩ l' hl
   exact fin _ _ bs l' Fi (by omega) fi (by omega) hl
 dsimp only [tNext]
 refine ite2 (fun e => ?_) (fun e => ?_)
 ·refine ⟨_, F2, by omega, hMd, fun pl H3 p0 p1 F3 f3 => ?_⟩
  dsimp only [gName]
  refine ⟨(M : Int), rfl, by omega, by omega, ?_⟩
  refine comp_range (fun i ys H' => H' = H3 /\ ∃ bs : List Bool, ys = bs.map V.bl /\ bs.length = i) ⟨rfl, [], rfl, rfl⟩ (fun i ys H' hi ⟨_, bs, e, el⟩ => by
   rw [e]; exact small1000 (by rw [List.length_map]; omega)) ?_ ?_
  ·rintro i ys H' hi ⟨rfl, bs, rfl, rfl⟩
   exact ⟨rfl, bs ++ [(false ^^ ((0 + (bs.length : Int)) == pl))], by rw [List.map_append]; rfl, by rw [List.length_append]; rfl⟩
  ·rintro ys H' ⟨rfl, bs, rfl, hb⟩ l' hl
   exact fin _ _ bs l' F3 (by omega) ((frm_all f2).trans (frm_all f3)) (by omega) hl
 dsimp only [tNext]
 refine ite2 (fun e => ?_) (fun e => ?_)
 ·refine ⟨_, F2, by omega, okDiv_of (by omega) (by omega), fun on H3 p0 p1 F3 f3 => ?_⟩
  dsimp only [gName]
  refine ⟨(M : Int), rfl, by omega, by omega, ?_⟩
  refine comp_range (fun i ys H' => H' = H3 /\ ∃ bs : List Bool, ys = bs.map V.bl /\ bs.length = i) ⟨rfl, [], rfl, rfl⟩ (fun i ys H' hi ⟨_, bs, e, el⟩ => by
   rw [e]; exact small1000 (by rw [List.length_map]; omega)) ?_ ?_
  ·rintro i ys H' hi ⟨rfl, bs, rfl, rfl⟩
   refine ⟨p0, ?_⟩
   exact ⟨rfl, bs ++ [_], by rw [List.map_append]; rfl, by rw [List.length_append]; rfl⟩
  ·rintro ys H' ⟨rfl, bs, rfl, hb⟩ l' hl
   exact fin _ _ bs l' F3 (by omega) ((frm_all f2).trans (frm_all f3)) (by omega) hl
 dsimp only [tNext]
 refine ⟨_, F2, by omega, okDiv_of (by decide) (by decide), fun an H3 p0 p1 F3 f3 => ?_⟩
 dsimp only [gName, mEq]
 refine ⟨(M : Int), rfl, by omega, by omega, ?_⟩
 refine comp_range (fun i ys H' => H' = H3 /\ ∃ bs : List Bool, ys = bs.map V.bl /\ bs.length = i) ⟨rfl, [], rfl, rfl⟩ (fun i ys H' hi ⟨_, bs, e, el⟩ => by
  rw [e]; exact small1000 (by rw [List.length_map]; omega)) ?_ ?_
 ·rintro i ys H' hi ⟨rfl, bs, rfl, rfl⟩
  exact ⟨rfl, bs ++ [_], by rw [List.map_append]; rfl, by rw [List.length_append]; rfl⟩
 ·rintro ys H' ⟨rfl, bs, rfl, hb⟩ l' hl
  exact fin _ _ bs l' F3 (by omega) ((frm_all f2).trans (frm_all f3)) (by omega) hl
def rowB (m i : Nat) : List Bool := (List.range (2 ^ m)).map fun p => p / 2 ^ i % 2 == 1
def labD (bs : List Bool) : List Dv := bs.map fun b => Dv.int (if b then 1 else 0)
def labV (bs : List Bool) : List V := bs.map fun b => V.int (if b then 1 else 0)
def rowsD (m n : Nat) : List Dv := (List.range n).map fun i => .tup ((rowB m i).map Dv.bl)
def gameD (bs : List Bool) (m : Nat) : Dv := .tup [.tup (labD bs), .tup (rowsD m m)]
theorem rowB_len (m i : Nat) : (rowB m i).length = 2 ^ m := by unfold rowB; simp
theorem rowsD_succ (m n : Nat) : rowsD m (n + 1) = rowsD m n ++ [.tup ((rowB m n).map Dv.bl)] := by unfold rowsD; rw [List.range_succ, List.map_append]; rfl
theorem rowsD_len (m n : Nat) : (rowsD m n).length = n := by unfold rowsD; simp
theorem reps_lab {K : W.Frag} {H : Hp} : ∀ bs : List Bool, Reps K H (labD bs) (labV bs)
 | [] => reps_nil
 | b :: bs => reps_cons rep_int (reps_lab bs)
theorem labV_len (bs : List Bool) : (labV bs).length = bs.length := by unfold labV; simp
theorem labV_app (bs cs : List Bool) : labV (bs ++ cs) = labV bs ++ labV cs := by unfold labV; simp
theorem tups_rows (m : Nat) : ∀ n, tupsOnly (rowsD m n) = true
 | 0 => rfl
 | n + 1 => by
  rw [rowsD_succ, tupsOnly_app, tups_rows m n]
  unfold tupsOnly tupOnly
  rw [tups_bl]
  rfl
def newG (K : W.Frag) (H : Hp) (Q : VK) (d : Dv) : Prop := ∀ u H', Same H H' -> Rep K H' d u -> Q u H'
def sp_game1 (K : W.Frag) : Sp := fun vs H Q _ => match vs with
 | [.ref p] => ∃ (bs : List Bool) (m : Nat), SqT K H p (bs.map V.bl) /\ bs.length = 2 ^ m /\ 1 <= m /\ m <= 4 /\ newG K H Q (gameD bs m)
 | _ => False
theorem ok_Ztable_game : FnOk P w K mg base CX0 1 T.f_Ztable_game T.d_Ztable_game ["_law_table_here"] (sp_game1 K) := by
 refine T.F_Ztable_game.ok sc_Ztable_game (fun vs H Q E h => by unfold sp_game1 at h; split at h <;> first | rfl | exact h.elim) (fun cdv A outer s H vs Q E hr h => ?_)
 have hu := hu60 hr
 unfold sp_game1 at h
 split at h
 rotate_left
 ·exact h.elim
 rename_i p
 obtain ⟨bs, m, hp, hb, m1, m4, q⟩ := h
 have h16 : 2 ^ m <= 16 := Nat.pow_le_pow_right (n := 2) (by decide) m4
 have hbl : (bs.map V.bl).length = 2 ^ m := by rw [List.length_map]; exact hb
 refine ⟨_, (@pss_cons _ _ _ _ _ (@ps_set _ _ 1 _ _ _ _ sc_Ztable_game.nd rfl (by right) (@pe_lst _ _ _ _ (@pa_nil _)) (by rfl) (by symm)) (@pss_cons _ _ _ _ _ (@ps_set _ _ 2 _ _ _ _ sc_Ztable_game.nd rfl (by right) (@pe_int _ _ _ _) (by rfl) (by symm)) (@pss_cons _ _ _ _ _ (@ps_whileM _ _ _ _ _ _ PassesOwn.never (@tu_cmp _ _ _ _ _ _ _ _ om_lt (@vw _ 2 _ _ (by left)) (@pe_callB _ _ _ _ _ _ _ _ _ (kLen (K := K)) rfl T.z_len (by rfl) (@pa1 _ _ _ (@vw _ 0 _ _ (by left)) (by rfl)) (by decide) (by decide) (by rfl) (by rfl)) (by walk_at "n")) (@pss_cons _ _ _ _ _ (@ps_expr _ _ _ _ (@kAppend _ K _ _ _ _ _ _ (@vw _ 1 _ _ (by left)) (@pa1 _ _ _ (@pe_callTy _ _ _ _ _ _ _ _ _ (kTuple (K := K)) rfl T.z_tuple (by rfl) (@pa1 _ _ _ (@pe_compB _ _ _ _ _ _ _ (["_law_k", "_law_many_here"]) 1 [2] _ _ _ _ rfl (@pi_range1 _ _ _ _ _ _ rfl T.z_range (@pa1 _ _ _ (@pe_callB _ _ _ _ _ _ _ _ _ (kLen (K := K)) rfl T.z_len (by rfl) (@pa1 _ _ _ (@vw _ 0 _ _ (by left)) (by rfl)) (by decide) (by decide) (by rfl) (by rfl)) (by rfl)) (by rfl)) (by kernel_rfl) rfl rfl (by kernel_rfl) (fun c => @pg_name _ _ 0 _ (show (["_law_k", "_law_many_here"] : List Str).Nodup by decide +kernel) rfl (by right) (by symm)) (go_name (by decide)) (fun c => @pts_nil _) (fun c => (@pe_cmpM _ _ _ _ _ _ _ _ (kEq (K := K) hu) (@pe_op _ _ _ _ _ _ _ _ om_mod (@pe_op _ _ _ _ _ _ _ _ om_div (@vw _ 0 _ _ (by left)) (@vw _ 1 _ _ (by left))) (@pe_int _ _ _ _)) (@pe_int _ _ _ _) (by walk_at "n"))) (by intro _; rfl)) (by rfl)) (by decide) (by decide) (by rfl) (by rfl)) (by rfl)) (by rfl) (by rfl) (by rfl) (by rfl) (by rfl) (by rfl)) (by rfl)) (@pss_one _ _ _ (@ps_set _ _ 2 _ _ _ _ sc_Ztable_game.nd rfl (by right) (@pe_op _ _ _ _ _ _ _ _ om_mul (@pe_int _ _ _ _) (@vw _ 2 _ _ (by left))) (by rfl) (by symm))))) (@pss_one _ _ _ (@ps_ret _ _ _ _ (@pe_tup _ _ _ _ _ (@pa_cons _ _ _ _ _ (@pe_callTy _ _ _ _ _ _ _ _ _ (kTuple (K := K)) rfl T.z_tuple (by rfl) (@pa1 _ _ _ (@pe_compB _ _ _ _ _ _ _ ["_law_answer"] 1 [] _ _ _ _ rfl (@kSeq _ K _ _ _ (@vw _ 0 _ _ (by left)) (by rfl)) (by kernel_rfl) rfl rfl (by kernel_rfl) (fun c => @pg_name _ _ 0 _ (show (["_law_answer"] : List Str).Nodup by decide +kernel) rfl (by right) (by symm)) (go_name (by decide)) (fun c => @pts_nil _) (fun c => (@pe_callTy _ _ _ _ _ _ _ _ _ cm_int rfl T.z_int (by rfl) (@pa1 _ _ _ (@vw _ 0 _ _ (by left)) (by rfl)) (by decide) (by decide) (by rfl) (by rfl))) (by intro _; rfl)) (by rfl)) (by decide) (by decide) (by rfl) (by rfl)) (@pa1 _ _ _ (@pe_callTy _ _ _ _ _ _ _ _ _ (kTuple (K := K)) rfl T.z_tuple (by rfl) (@pa1 _ _ _ (@vw _ 1 _ _ (by left)) (by rfl)) (by decide) (by decide) (by rfl) (by rfl)) (by rfl)) (by rfl)))))))), ?_⟩
 refine ⟨small_le (show 0 <= 1000 by decide), fun l hl => ?_⟩
 dsimp only [gName]
 refine seq_at (fun σ H' => σ = [some (.ref p), some (.ref l), some (.int 1)] /\ upd H l (.lst []) = H') ⟨rfl, rfl⟩ ?_ (by walk_at "sm")
 rintro σ _ ⟨rfl, rfl⟩
 refine seq_at (fun σ H' => ∃ (z : Option V) (rs : List V), σ = [some (.ref p), some (.ref l), z] /\ Same H H' /\ H' l = some (.lst rs) /\ Reps K H' (rowsD m m) rs) ?_ ?_ (by walk_at "sm")
 ·refine ⟨fun μ σ H' => ∃ (i : Nat) (rs : List V), μ = m - i /\ i <= m /\ σ = [some (.ref p), some (.ref l), some (.int (2 ^ i : Nat))] /\ Same H H' /\ H' l = some (.lst rs) /\ Reps K H' (rowsD m i) rs, ⟨m, 0, [], by omega, by omega, rfl, Same.upd hl, upd_same, reps_nil⟩, ?_⟩
  rintro μ σ H1 ⟨i, rs, rfl, hi, rfl, S1, g1, R1⟩
  have hrl : rs.length = i := by have := R1.length; rw [rowsD_len] at this; omega
  have hpi : (0 : Nat) < 2 ^ i := Nat.two_pow_pos i
  have hle : (2 : Nat) ^ i <= 2 ^ m := Nat.pow_le_pow_right (by decide) hi
  refine ⟨2 ^ m, .inr ⟨_, S1.sqT hp, hbl.symm⟩, ?_⟩
  refine ite2 (fun e => ?_) (fun e => ?_)
  ·have him : i < m := by
    have e' : ((2 ^ i : Nat) : Int) < ((2 ^ m : Nat) : Int) := of_decide_eq_true e
    rcases Nat.lt_or_ge i m with z | z
    ·exact z
    ·have : i = m := by omega
     subst this; omega
   refine ⟨.inl ⟨rfl, _, .of g1⟩, ?_⟩
   refine ⟨2 ^ m, .inr ⟨_, S1.sqT hp, hbl.symm⟩, ((2 ^ m : Nat) : Int), rfl, by omega, by omega, ?_⟩
   refine comp_range (fun k ys H' => H' = H1 /\ ys = ((List.range k).map (fun q => q / 2 ^ i % 2 == 1)).map V.bl) ⟨rfl, rfl⟩ (fun k ys H' hk ⟨_, e⟩ => by
    rw [e, List.length_map, List.length_map, List.length_range]; exact small1000 (by omega)) ?_ ?_
   ·rintro k ys H' hk ⟨rfl, rfl⟩
    refine ⟨okDiv_of (by omega) (Int.le_trans (Int.ofNat_le.mpr (Nat.le_trans hle h16)) (by decide)), by decide, rfl, ?_⟩
    have ee : (false ^^ (((0 : Int) + (k : Int)) / ((2 ^ i : Nat) : Int) % 2 == 1)) = (k / 2 ^ i % 2 == 1) := by
     rw [Bool.false_xor, Int.zero_add, <- Int.natCast_ediv, Bool.eq_iff_iff]
     simp only [beq_iff_eq]
     omega
    rw [bl_list, <- ee]
   ·rintro ys H' ⟨rfl, rfl⟩ k hk
    rw [Int.toNat_natCast]
    refine ⟨_, .inl ⟨.of upd_same, fun p3 hp3 => ?_⟩⟩
    have erow : ((List.range (2 ^ m)).map (fun q => q / 2 ^ i % 2 == 1)).map V.bl = (rowB m i).map V.bl := rfl
    rw [erow]
    have s3 := (Same.upd (o := .lst ((rowB m i).map V.bl)) hk).trans (Same.upd (o := .tup ((rowB m i).map V.bl)) hp3)
    have g3p := upd_same (H := upd H' k (.lst ((rowB m i).map V.bl))) (a := p3) (o := .tup ((rowB m i).map V.bl))
    have nl : p3 ≠ l := Ne.symm (ne_of_none (Same.upd (o := .lst ((rowB m i).map V.bl)) hk _ _ g1) hp3)
    generalize upd (upd H' k (.lst ((rowB m i).map V.bl))) p3 (.tup ((rowB m i).map V.bl)) = H3 at *
    refine ⟨_, s3 _ _ g1, small1000 (by omega), ?_⟩
    dsimp only [tNext, tDrop, gName]
    refine ⟨.inr (.inl ⟨by decide, by decide⟩), ?_⟩
    have R3 : Reps K H3 (rowsD m i) rs := Reps.same s3 _ _ R1
    have fr : Frm l H3 (upd H3 l (.lst (rs ++ [.ref p3]))) := Frm.updT
    have R4 : Reps K (upd H3 l (.lst (rs ++ [.ref p3]))) (rowsD m (i + 1)) (rs ++ [.ref p3]) := by
     rw [rowsD_succ]
     refine Reps.append (Reps.frm fr ⟨_, s3 _ _ g1⟩ _ _ (tups_rows m i) R3) (reps_cons ?_ reps_nil)
     exact rep_tup1 (by rw [upd_ne nl]; exact g3p) (reps_bl _)
    refine ⟨m - (i + 1), by omega, i + 1, _, rfl, him, ?_, same_put (S1.trans s3) hl, upd_same, R4⟩
    have : (2 : Int) * ((2 ^ i : Nat) : Int) = ((2 ^ (i + 1) : Nat) : Int) := by rw [Nat.pow_succ]; omega
    rw [<- this]
    rfl
  ·have him : i = m := by
    rcases Nat.lt_or_ge i m with z | z
    ·exact absurd (decide_eq_true (show ((2 ^ i : Nat) : Int) < ((2 ^ m : Nat) : Int) from Int.ofNat_lt.mpr (Nat.pow_lt_pow_right (by decide) z))) e
    ·omega
   subst him
   exact ⟨_, rs, rfl, S1, g1, R1⟩
 rintro σ H1 ⟨z, rs, rfl, S1, g1, R1⟩
 have hrl : rs.length = m := by have := R1.length; rw [rowsD_len] at this; omega
 refine .inr ⟨⟨_, S1.sqT hp⟩, ?_⟩
 refine comp_tup (xs := bs.map V.bl) (fun i ys H' => H' = H1 /\ ys = labV (bs.take i)) ⟨rfl, rfl⟩ (fun i ys H' _ ⟨e, _⟩ => by rw [e]; exact S1.sqT hp) (fun i ys H' hi ⟨_, e⟩ => by
  rw [e, labV_len, List.length_take]; exact small1000 (by omega)) ?_ ?_
 ·rintro i x ys H' hx ⟨rfl, rfl⟩
  have hi : i < bs.length := by
   have := (List.getElem?_eq_some_iff.mp hx).1
   rwa [List.length_map] at this
  rw [List.getElem?_map, List.getElem?_eq_getElem hi] at hx
  cases hx
  refine ⟨rfl, ?_⟩
  rw [List.take_add_one, List.getElem?_eq_getElem hi, labV_app]
  rfl
 ·rintro ys H' ⟨rfl, rfl⟩ k hk
  rw [List.take_of_length_le (by rw [List.length_map]; exact Nat.le_refl _)]
  refine ⟨_, .inl ⟨.of upd_same, fun p3 hp3 => ?_⟩⟩
  have s3 := (Same.upd (o := .lst (labV bs)) hk).trans (Same.upd (o := .tup (labV bs)) hp3)
  have g3p := upd_same (H := upd H' k (.lst (labV bs))) (a := p3) (o := .tup (labV bs))
  generalize upd (upd H' k (.lst (labV bs))) p3 (.tup (labV bs)) = H3 at *
  refine ⟨_, .inl ⟨.of (s3 _ _ g1), fun p4 hp4 => ?_⟩⟩
  refine ⟨small_le (show 2 <= 1000 by decide), fun p5 hp5 => ?_⟩
  have s5 := (Same.upd (o := .tup rs) hp4).trans (Same.upd (o := .tup [.ref p3, .ref p4]) hp5)
  refine q _ _ (S1.trans (s3.trans s5)) ?_
  refine rep_tup1 upd_same (reps_cons (rep_tup1 (s5 _ _ g3p) (reps_lab bs)) (reps_cons (rep_tup1 (Same.upd hp5 _ _ upd_same) ?_) reps_nil))
  exact Reps.same (s3.trans s5) _ _ R1
def tabsD (ts : List (List Bool)) : List Dv := ts.map fun b => .tup (b.map Dv.bl)
def gmD (ls : List Int) (rs : List (List Bool)) : Dv := .tup [.tup (ls.map Dv.int), .tup (tabsD rs)]
structure Gm (ls : List Int) (rs : List (List Bool)) : Prop where
 l1 : 1 <= ls.length
 l16 : ls.length <= 16
 r1 : 1 <= rs.length
 r16 : rs.length <= 16
 row : ∀ r ∈ rs, r.length = ls.length
 sm : ∀ x ∈ ls, x.natAbs <= 100000000000000000000
theorem tups_tabs : ∀ ts : List (List Bool), tupsOnly (tabsD ts) = true
 | [] => rfl
 | b :: ts => by
  show tupsOnly (Dv.tup (b.map Dv.bl) :: tabsD ts) = true
  unfold tupsOnly tupOnly
  rw [tups_bl, tups_tabs ts]
  rfl
theorem tabsD_len (ts : List (List Bool)) : (tabsD ts).length = ts.length := List.length_map ..
theorem reps_take {K : W.Frag} {H : Hp} : ∀ (k : Nat) {ds : List Dv} {xs : List V}, Reps K H ds xs -> Reps K H (ds.take k) (xs.take k)
 | 0, _, _, _ => by simpa using reps_nil
 | k + 1, [], xs, h => by unfold Reps at h; subst h; simpa using reps_nil
 | k + 1, d :: ds, xs, h => by
  unfold Reps at h
  obtain ⟨x, r, rfl, h1, h2⟩ := h
  simpa using reps_cons h1 (reps_take k h2)
theorem reps_drop {K : W.Frag} {H : Hp} : ∀ (k : Nat) {ds : List Dv} {xs : List V}, Reps K H ds xs -> Reps K H (ds.drop k) (xs.drop k)
 | 0, _, _, h => by simpa using h
 | k + 1, [], xs, h => by unfold Reps at h; subst h; simpa using reps_nil
 | k + 1, d :: ds, xs, h => by
  unfold Reps at h
  obtain ⟨x, r, rfl, h1, h2⟩ := h
  simpa using reps_drop k h2
theorem tabsD_put (ts : List (List Bool)) (b : List Bool) (k : Nat) : tabsD (ts.take k ++ b :: ts.drop k) = (tabsD ts).take k ++ .tup (b.map Dv.bl) :: (tabsD ts).drop k := by
 unfold tabsD
 rw [List.map_append, List.map_cons, List.map_take, List.map_drop]
theorem depDs_bls : ∀ bs : List Bool, depDs (bs.map Dv.bl) = 0
 | [] => by simp [depDs]
 | b :: bs => by
  show depDs (Dv.bl b :: bs.map Dv.bl) = _
  unfold depDs
  rw [depDs_bls bs]
  rfl
theorem tabsD_dep (ts : List (List Bool)) : ∀ e ∈ tabsD ts, depD e <= 50 := by
 intro e he
 obtain ⟨b, _, rfl⟩ := List.mem_map.mp he
 unfold depD
 rw [depDs_bls]
 omega
theorem cut_to (xs : List V) (a : Nat) (h : a <= xs.length) : cutV xs none (some (a : Int)) = xs.take a := by
 unfold cutV
 rw [HT.sIx_nat, HT.sIx_none, List.drop_zero, Nat.sub_zero, Nat.min_eq_left h]
theorem cut_from (xs : List V) (a : Nat) (h : a <= xs.length) : cutV xs (some (a : Int)) none = xs.drop a := by
 unfold cutV
 rw [HT.sIx_nat, HT.sIx_none, Nat.min_eq_left h, List.take_of_length_le (by rw [List.length_drop]; omega)]
theorem tabs_ref {K : W.Frag} {H : Hp} {ts : List (List Bool)} {xs : List V} (h : Reps K H (tabsD ts) xs) : ∀ ns : List Int, ns.length ≠ 0 -> xs ≠ ns.map V.int := by
 intro ns hn e
 cases ts with
 | nil =>
  have : xs = [] := by simpa [tabsD, Reps] using h
  subst this
  cases ns with
  | nil => exact hn rfl
  | cons _ _ => cases e
 | cons b ts =>
  have h' : Reps K H (Dv.tup (b.map Dv.bl) :: tabsD ts) xs := h
  unfold Reps at h'
  obtain ⟨x, r, rfl, h1, _⟩ := h'
  unfold Rep at h1
  obtain ⟨a, zs, rfl, _⟩ := h1
  cases ns with
  | nil => exact hn rfl
  | cons _ _ => cases e
theorem frm_new {t p : Addr} {H0 H : Hp} {o : HO} (f : Frm t H0 H) (hp : H0 p = none) : Frm t H0 (upd H p o) := fun b u n e => by
 rw [upd_ne (ne_of_none e hp)]
 exact f b u n e
def sp_class (K : W.Frag) : Sp := fun vs H Q _ => match vs with
 | [.ref t, .int n, .int y] => ∃ m M N : Nat, GFeed H t N /\ N <= 850000000 /\ n = m /\ 1 <= m /\ m <= 3 /\ y = M /\ 2 <= M /\ M <= 6 /\ ∀ (ts : List (List Bool)) xs p H', 2 <= ts.length -> ts.length <= M -> (∀ b ∈ ts, b.length = 2 ^ m) -> H p = none -> H' p = some (.lst xs) -> Reps K H' (tabsD ts) xs -> GFeed H' t (N + 400) -> Frm t H H' -> Q (.ref p) H'
 | _ => False
theorem ok_Zclass : FnOk P w K mg base CX0 3 T.f_Zclass T.d_Zclass ["_law_feed_here", "_law_n", "_law_many_here"] (sp_class K) := by
 have G_Zdraw := ok_Zdraw (P := P) (w := w) (base := base) T; have G_Ztable := ok_Ztable (P := P) (w := w) (base := base) T
 refine T.F_Zclass.ok sc_Zclass (fun vs H Q E h => by unfold sp_class at h; split at h <;> first | rfl | exact h.elim) (fun cdv A outer s H vs Q E hr h => ?_)
 have hu := hu60 hr
 have hr_Zdraw := hr.mono (show 1 <= _ by decide); have hr_Ztable := hr.mono (show 2 <= _ by decide)
 unfold sp_class at h
 split at h
 rotate_left
 ·exact h.elim
 rename_i t n y
 obtain ⟨m, M, N, F, hN, e1, m1, m3, e2, M2, M6, q⟩ := h
 subst e1 e2
 refine ⟨_, (@pss_cons _ _ _ _ _ (@ps_set _ _ 3 _ _ _ _ sc_Zclass.nd rfl (by right) (@pe_lst _ _ _ _ (@pa1 _ _ _ (@pe_call _ _ _ _ _ _ _ _ _ _ _ _ _ _ _ _ G_Ztable hr_Ztable rfl T.m_Ztable T.F_Ztable.kp T.b_Ztable .nil pass0 (@pa_cons _ _ _ _ _ (@vw _ 0 _ _ (by left)) (@pa1 _ _ _ (@vw _ 1 _ _ (by left)) (by rfl)) (by rfl)) (by decide) (by rfl) (by rfl)) (by rfl))) (by rfl) (by symm)) (@pss_cons _ _ _ _ _ (@ps_set _ _ 4 _ _ _ _ sc_Zclass.nd rfl (by right) (@pe_call _ _ _ _ _ _ _ _ _ _ _ _ _ _ _ _ G_Zdraw hr_Zdraw rfl T.m_Zdraw T.F_Zdraw.kp T.b_Zdraw .nil pass0 (@pa_cons _ _ _ _ _ (@vw _ 0 _ _ (by left)) (@pa1 _ _ _ (@pe_op _ _ _ _ _ _ _ _ om_shl (@pe_int _ _ _ _) (@vw _ 1 _ _ (by left))) (by rfl)) (by rfl)) (by decide) (by rfl) (by rfl)) (by rfl) (by symm)) (@pss_cons _ _ _ _ _ (@ps_expr _ _ _ _ (@kAppend _ K _ _ _ _ _ _ (@vw _ 3 _ _ (by left)) (@pa1 _ _ _ (@pe_op _ _ _ _ _ _ _ _ (kAddA (K := K)) (@pe_op _ _ _ _ _ _ _ _ (kAddA (K := K)) (@kCutA _ K _ _ _ _ _ _ _ _ (@kIx _ K _ _ _ _ _ (@vw _ 3 _ _ (by left)) (@pe_int _ _ _ _) (by intro _ _; rfl) (by rfl)) (@po_none _) (@po_some _ _ _ (@vw _ 4 _ _ (by left))) (by rfl)) (@pe_tup _ _ _ _ _ (@pa1 _ _ _ (@pe_notM _ _ _ _ (@kIx _ K _ _ _ _ _ (@kIx _ K _ _ _ _ _ (@vw _ 3 _ _ (by left)) (@pe_int _ _ _ _) (by intro _ _; rfl) (by rfl)) (@vw _ 4 _ _ (by left)) (by intro _ _; rfl) (by rfl))) (by rfl)))) (@kCutA _ K _ _ _ _ _ _ _ _ (@kIx _ K _ _ _ _ _ (@vw _ 3 _ _ (by left)) (@pe_int _ _ _ _) (by intro _ _; rfl) (by rfl)) (@po_some _ _ _ (@pe_op _ _ _ _ _ _ _ _ (kAddA (K := K)) (@vw _ 4 _ _ (by left)) (@pe_int _ _ _ _))) (@po_none _) (by rfl))) (by rfl)) (by rfl) (by rfl) (by rfl) (by rfl) (by rfl) (by rfl)) (by rfl)) (@pss_cons _ _ _ _ _ (@ps_for _ _ _ _ _ _ _ _ PassesOwn.never rfl (@pi_range1 _ _ _ _ _ _ rfl T.z_range (@pa1 _ _ _ (@pe_op _ _ _ _ _ _ _ _ om_mul (@pe_int _ _ _ _) (@vw _ 2 _ _ (by left))) (by rfl)) (by rfl)) (@pg_name _ _ 5 _ sc_Zclass.nd rfl (by right) (by symm)) (@pss_cons _ _ _ _ _ (@ps_set _ _ 6 _ _ _ _ sc_Zclass.nd rfl (by right) (@pe_call _ _ _ _ _ _ _ _ _ _ _ _ _ _ _ _ G_Ztable hr_Ztable rfl T.m_Ztable T.F_Ztable.kp T.b_Ztable .nil pass0 (@pa_cons _ _ _ _ _ (@vw _ 0 _ _ (by left)) (@pa1 _ _ _ (@vw _ 1 _ _ (by left)) (by rfl)) (by rfl)) (by decide) (by rfl) (by rfl)) (by rfl) (by symm)) (@pss_one _ _ _ (@ps_if _ _ _ _ _ _ _ _ (PW.pt (@pw_and _ _ _ _ _ _ _ (@tu_cmp _ _ _ _ _ _ _ _ om_lt (@pe_callB _ _ _ _ _ _ _ _ _ (kLen (K := K)) rfl T.z_len (by rfl) (@pa1 _ _ _ (@vw _ 3 _ _ (by left)) (by rfl)) (by decide) (by decide) (by rfl) (by rfl)) (@vw _ 2 _ _ (by left)) (by walk_at "n")) (@pw_and1 _ _ _ _ (@tu_cmp _ _ _ _ _ _ _ _ (kNotInD (K := K) hu) (@vw _ 6 _ _ (by left)) (@vw _ 3 _ _ (by left)) (by walk_at "n"))))) (@pss_one _ _ _ (@ps_expr _ _ _ _ (@kInsert _ K _ _ _ _ _ _ _ (@vw _ 3 _ _ (by left)) (@pa_cons _ _ _ _ _ (@pe_call _ _ _ _ _ _ _ _ _ _ _ _ _ _ _ _ G_Zdraw hr_Zdraw rfl T.m_Zdraw T.F_Zdraw.kp T.b_Zdraw .nil pass0 (@pa_cons _ _ _ _ _ (@vw _ 0 _ _ (by left)) (@pa1 _ _ _ (@pe_op _ _ _ _ _ _ _ _ (kAddA (K := K)) (@pe_callB _ _ _ _ _ _ _ _ _ (kLen (K := K)) rfl T.z_len (by rfl) (@pa1 _ _ _ (@vw _ 3 _ _ (by left)) (by rfl)) (by decide) (by decide) (by rfl) (by rfl)) (@pe_int _ _ _ _)) (by rfl)) (by rfl)) (by decide) (by rfl) (by rfl)) (@pa1 _ _ _ (@vw _ 6 _ _ (by left)) (by rfl)) (by rfl)) (by rfl) (by rfl) (by rfl) (by rfl) (by rfl) (by rfl)) (by rfl))) (@pss_nil _)))) (by intro _; rfl)) (@pss_one _ _ _ (@ps_ret _ _ _ _ (@vw _ 3 _ _ (by left)))))))), ?_⟩
 have hmo := sp_gtable_mono
 have h2 : 2 <= 2 ^ m := Nat.pow_le_pow_right (n := 2) (i := 1) (by decide) m1
 have h8 : 2 ^ m <= 8 := Nat.pow_le_pow_right (n := 2) (i := m) (j := 3) (by decide) m3
 have em : (1 : Int) * 2 ^ ((m : Int).toNat) = ((2 ^ m : Nat) : Int) := by rw [Int.toNat_natCast, Int.natCast_pow, Int.one_mul]; rfl
 refine ⟨m, N, F, by omega, rfl, m1, by omega, fun bs p1 H1 hb hp1 g1 F1 f1 => ?_⟩
 refine ⟨small_le (show 1 <= 1000 by decide), fun l hl => ?_⟩
 have hlH : H l = none := F1.free f1 hl
 have lt : l ≠ t := F.neT hlH
 dsimp only [gName]
 refine seq_at (fun σ H' => ∃ a : Nat, a < 2 ^ m /\ σ = [some (.ref t), some (.int m), some (.int M), some (.ref l), some (.int a), none, none] /\ GFeed H' t (N + 19) /\ Frm t H H' /\ H' l = some (.lst [.ref p1]) /\ H' p1 = some (.tup (bs.map V.bl))) ?_ ?_ (by walk_at "sm")
 ·refine ⟨⟨by omega, by omega, by decide⟩, ?_⟩
  rw [em]
  have F2 := F1.upd (o := .lst [.ref p1]) hl
  refine ⟨_, F2, by omega, okDiv_of (by omega) (by omega), fun a H3 a0 a1 F3 f3 => ?_⟩
  have f2 : Frm t H1 (upd H1 l (.lst [.ref p1])) := Frm.upd hl
  have n1 : p1 ≠ t := F.neT hp1
  have nl : p1 ≠ l := fun e => by rw [e, hl] at g1; cases g1
  refine ⟨a.toNat, by omega, ?_, F3, f1.trans (f2.trans (frm_all f3)), by rw [f3 l lt, upd_same], by rw [f3 p1 n1, upd_ne nl]; exact g1⟩
  rw [Int.toNat_of_nonneg a0]
  rfl
 rintro σ H2 ⟨a, ha, rfl, F2, f2, gl2, gp2⟩
 have hbl : (bs.map V.bl).length = 2 ^ m := by rw [List.length_map]; exact hb
 have hix : atI (bs.map V.bl) (a : Int) = some (.bl (bs.getD a false)) := atI_of rfl (by rw [List.getElem?_map, List.getD_eq_getElem?_getD, List.getElem?_eq_getElem (show a < bs.length by omega)]; rfl)
 refine seq_at (fun σ H' => ∃ (ts : List (List Bool)) (xs : List V) (z5 z6 : Option V), σ = [some (.ref t), some (.int m), some (.int M), some (.ref l), some (.int a), z5, z6] /\ 2 <= ts.length /\ ts.length <= M /\ (∀ b ∈ ts, b.length = 2 ^ m) /\ H' l = some (.lst xs) /\ Reps K H' (tabsD ts) xs /\ GFeed H' t (N + 19) /\ Frm t H H') ?_ ?_ (by walk_at "sm")
 ·refine ⟨.inl ⟨rfl, _, .of gl2⟩, ?_⟩
  refine ⟨_, _, .inl (.of gl2), rfl, ?_⟩
  refine ⟨(a : Int), rfl, _, .of gp2, fun q1 H3 S3 t3 => ?_⟩
  rw [cut_to _ a (by omega)] at t3
  refine ⟨_, _, .inl (.of (S3 _ _ gl2)), rfl, _, _, .inr (.of (S3 _ _ gp2)), hix, ?_⟩
  refine ⟨small_le (show 1 <= 1000 by decide), fun q2 hq2 => ?_⟩
  have S4 : Same H3 (upd H3 q2 (.tup [.bl (!bs.getD a false)])) := Same.upd hq2
  have t4 : SqT K (upd H3 q2 (.tup [.bl (!bs.getD a false)])) q2 [.bl (!bs.getD a false)] := .of upd_same
  generalize upd H3 q2 (.tup [.bl (!bs.getD a false)]) = H4 at *
  refine .inr ⟨_, _, S4.sqT t3, t4, small_le (by rw [List.length_take]; show _ + 1 <= 1000; omega), fun q3 H5 S5 t5 => ?_⟩
  have S25 := S3.trans (S4.trans S5)
  refine ⟨_, _, .inl (.of (S25 _ _ gl2)), rfl, ?_⟩
  refine ⟨(a + 1 : Nat), rfl, _, .of (S25 _ _ gp2), fun q4 H6 S6 t6 => ?_⟩
  rw [cut_from _ (a + 1) (by omega)] at t6
  refine .inr ⟨_, _, S6.sqT t5, t6, small_le (by rw [List.length_append, List.length_take, List.length_drop]; show _ + 1 + _ <= 1000; omega), fun q5 H7 S7 t7 => ?_⟩
  have S27 := S25.trans (S6.trans S7)
  generalize hcs : bs.take a ++ (!bs.getD a false) :: bs.drop (a + 1) = cs
  have ecs : (bs.map V.bl).take a ++ [V.bl (!bs.getD a false)] ++ (bs.map V.bl).drop (a + 1) = cs.map V.bl := by
   rw [<- hcs, List.map_append, List.map_cons, List.map_take, List.map_drop, List.append_assoc]
   rfl
  have hcl : cs.length = 2 ^ m := by
   rw [<- hcs, List.length_append, List.length_cons, List.length_take, List.length_drop]
   omega
  rw [ecs] at t7
  refine ⟨_, S27 _ _ gl2, small1000 (show 1 <= 1000 by decide), ?_⟩
  have fr : Frm l H7 (upd H7 l (.lst ([.ref p1] ++ [.ref q5]))) := Frm.updT
  have R7 : Reps K H7 (tabsD [bs, cs]) [.ref p1, .ref q5] := reps_cons (rep_tup1 (S27 _ _ gp2) (reps_bl bs)) (reps_cons (by unfold Rep; exact ⟨q5, _, rfl, t7, reps_bl cs⟩) reps_nil)
  refine ⟨[bs, cs], _, _, _, rfl, Nat.le_refl 2, M2, ?_, upd_same, Reps.frm fr ⟨_, S27 _ _ gl2⟩ _ _ (tups_tabs _) R7, ?_, ?_⟩
  ·intro b hb'
   rcases List.mem_cons.mp hb' with rfl | hb'
   ·exact hb
   ·rcases List.mem_cons.mp hb' with rfl | hb'
    ·exact hcl
    ·cases hb'
  ·exact (F2.same S27).put lt (S27 _ _ gl2) fun ns hn e => by
    cases ns with
    | nil => exact hn rfl
    | cons _ _ => cases e
  ·exact frm_new (f2.trans fun b o _ e => S27 b o e) hlH
 rintro σ H3 ⟨ts, xs, z5, z6, rfl, t2, tM, tb, gl3, R3, F3, f3⟩
 refine seq_at (fun σ H' => ∃ (ts : List (List Bool)) (xs : List V) (z5 z6 : Option V), σ = [some (.ref t), some (.int m), some (.int M), some (.ref l), some (.int a), z5, z6] /\ 2 <= ts.length /\ ts.length <= M /\ (∀ b ∈ ts, b.length = 2 ^ m) /\ H' l = some (.lst xs) /\ Reps K H' (tabsD ts) xs /\ GFeed H' t (N + 400) /\ Frm t H H') ?_ ?_ (by walk_at "sm")
 ·refine ⟨.inr (.inl ⟨by decide, by decide⟩), 2 * (M : Int), rfl, by omega, by omega, ?_⟩
  refine for_range (fun i σ H' => ∃ (ts : List (List Bool)) (xs : List V) (z5 z6 : Option V), σ = [some (.ref t), some (.int m), some (.int M), some (.ref l), some (.int a), z5, z6] /\ 2 <= ts.length /\ ts.length <= M /\ (∀ b ∈ ts, b.length = 2 ^ m) /\ H' l = some (.lst xs) /\ Reps K H' (tabsD ts) xs /\ GFeed H' t (N + 19 + 19 * i) /\ Frm t H H') ⟨ts, xs, z5, z6, rfl, t2, tM, tb, gl3, R3, F3, f3⟩ ?_ ?_
  ·rintro i σ H4 hi ⟨ts, xs, z5, z6, rfl, t2, tM, tb, gl4, R4, F4, f4⟩
   have hxl : xs.length = ts.length := by rw [<- R4.length, tabsD_len]
   refine ⟨m, _, F4, by omega, rfl, m1, by omega, fun bs2 p2 H5 hb2 hp2 g2 F5 f5 => ?_⟩
   have R5 : Reps K H5 (tabsD ts) xs := Reps.frm f5 F4.lst _ _ (tups_tabs _) R4
   have gl5 : H5 l = some (.lst xs) := f5 _ _ lt gl4
   dsimp only [gName]
   have stay : ∃ (ts : List (List Bool)) (xs : List V) (z5' z6' : Option V), [some (V.ref t), some (.int m), some (.int M), some (.ref l), some (.int a), some (.int (0 + i)), some (.ref p2)] = [some (.ref t), some (.int m), some (.int M), some (.ref l), some (.int a), z5', z6'] /\ 2 <= ts.length /\ ts.length <= M /\ (∀ b ∈ ts, b.length = 2 ^ m) /\ H5 l = some (.lst xs) /\ Reps K H5 (tabsD ts) xs /\ GFeed H5 t (N + 19 + 19 * (i + 1)) /\ Frm t H H5 :=
    ⟨ts, xs, _, _, rfl, t2, tM, tb, gl5, R5, F5.mono (by omega), f4.trans f5⟩
   have ep2 : Rep K H5 (.tup (bs2.map Dv.bl)) (.ref p2) := rep_tup1 g2 (reps_bl bs2)
   refine ⟨_, .inl ⟨_, .of gl5, rfl⟩, ?_⟩
   refine ite2 (fun e => ?_) (fun e => stay)
   have e' : (xs.length : Int) < (M : Int) := of_decide_eq_true e
   refine ⟨_, _, _, .inl (.of gl5), R5, ep2, tabsD_dep ts, ?_⟩
   refine ite2 (fun e => ?_) (fun e => stay)
   refine ⟨.inl ⟨rfl, _, .of gl5⟩, ?_⟩
   refine ⟨_, .inl ⟨_, .of gl5, rfl⟩, ?_⟩
   refine ⟨_, F5, by omega, okDiv_of (by omega) (Int.le_trans (show (xs.length : Int) + 1 <= 7 by omega) (by decide)), fun d H6 d0 d1 F6 f6 => ?_⟩
   have gl6 : H6 l = some (.lst xs) := by rw [f6 l lt]; exact gl5
   refine ⟨xs, gl6, d0, by omega, by omega, ?_⟩
   have R6 : Reps K H6 (tabsD ts) xs := Reps.frm (frm_all f6) F5.lst _ _ (tups_tabs _) R5
   have ep6 : Reps K H6 [.tup (bs2.map Dv.bl)] [.ref p2] := reps_cons (rep_tup1 (by rw [f6 p2 (F4.neT hp2)]; exact g2) (reps_bl bs2)) reps_nil
   have R7 : Reps K H6 (tabsD (ts.take d.toNat ++ bs2 :: ts.drop d.toNat)) (xs.take d.toNat ++ .ref p2 :: xs.drop d.toNat) := by
    rw [tabsD_put]
    exact Reps.append (reps_take _ R6) (Reps.append ep6 (reps_drop _ R6))
   refine ⟨_, _, _, _, rfl, ?_, ?_, ?_, upd_same, Reps.frm Frm.updT ⟨_, gl6⟩ _ _ (tups_tabs _) R7, (F6.put lt gl6 (tabs_ref R6)).mono (by omega), frm_new (f4.trans (f5.trans (frm_all f6))) hlH⟩
   ·rw [List.length_append, List.length_cons, List.length_take, List.length_drop]; omega
   ·rw [List.length_append, List.length_cons, List.length_take, List.length_drop]; omega
   ·intro b hb'
    rcases List.mem_append.mp hb' with h | h
    ·exact tb b (List.mem_of_mem_take h)
    ·rcases List.mem_cons.mp h with rfl | h
     ·exact hb2
     ·exact tb b (List.mem_of_mem_drop h)
  ·rintro σ H4 ⟨ts, xs, z5, z6, rfl, t2, tM, tb, gl4, R4, F4, f4⟩
   exact ⟨ts, xs, z5, z6, rfl, t2, tM, tb, gl4, R4, F4.mono (by omega), f4⟩
 rintro σ H4 ⟨ts, xs, z5, z6, rfl, t2, tM, tb, gl4, R4, F4, f4⟩
 exact q ts xs l H4 t2 tM tb hlH gl4 R4 F4 f4
theorem reps_blJ {K : W.Frag} {H : Hp} : ∀ (cs : List Bool) (zs : List V), Reps K H (cs.map Dv.bl) zs -> zs = cs.map V.bl
 | [], zs, h => by
  have h' : Reps K H [] zs := h
  unfold Reps at h'
  exact h'
 | c :: cs, zs, h => by
  have h' : Reps K H (Dv.bl c :: cs.map Dv.bl) zs := h
  unfold Reps at h'
  obtain ⟨x, r, rfl, h1, h2⟩ := h'
  unfold Rep at h1
  rw [h1, reps_blJ cs r h2]
  rfl
theorem reps_int1 {K : W.Frag} {H : Hp} : ∀ ns : List Int, Reps K H (ns.map Dv.int) (ns.map V.int)
 | [] => reps_nil
 | _ :: ns => reps_cons rep_int (reps_int1 ns)
def sp_cgame (K : W.Frag) : Sp := fun vs H Q _ => match vs with
 | [.ref l] => ∃ (ts : List (List Bool)) (xs : List V) (M : Nat), H l = some (.lst xs) /\ Reps K H (tabsD ts) xs /\ 2 <= ts.length /\ ts.length <= 6 /\ (∀ b ∈ ts, b.length = M) /\ 1 <= M /\ M <= 8 /\ ∀ ls rs u H', Gm ls rs -> Same H H' -> Rep K H' (gmD ls rs) u -> Q u H'
 | _ => False
theorem ok_Zclass_game : FnOk P w K mg base CX0 1 T.f_Zclass_game T.d_Zclass_game ["_law_tables"] (sp_cgame K) := by
 refine T.F_Zclass_game.ok sc_Zclass_game (fun vs H Q E h => by unfold sp_cgame at h; split at h <;> first | rfl | exact h.elim) (fun cdv A outer s H vs Q E hr h => ?_)
 have hu := hu60 hr
 unfold sp_cgame at h
 split at h
 rotate_left
 ·exact h.elim
 rename_i l
 obtain ⟨ts, xs, M, gl, R, t2, t6, tb, M1, M8, q⟩ := h
 refine ⟨_, (@pss_cons _ _ _ _ _ (@ps_compB _ _ _ _ _ _ _ (["_law_k", "_law_tables"]) 1 [0] _ _ _ _ 1 _ _ _ rfl sc_Zclass_game.nd rfl rfl (@pi_range1 _ _ _ _ _ _ rfl T.z_range (@pa1 _ _ _ (@pe_callB _ _ _ _ _ _ _ _ _ (kLen (K := K)) rfl T.z_len (by rfl) (@pa1 _ _ _ (@kIx _ K _ _ _ _ _ (@vw _ 0 _ _ (by left)) (@pe_int _ _ _ _) (by intro _ _; rfl) (by rfl)) (by rfl)) (by decide) (by decide) (by rfl) (by rfl)) (by rfl)) (by rfl)) (by kernel_rfl) rfl rfl (by kernel_rfl) (fun c => @pg_name _ _ 0 _ (show (["_law_k", "_law_tables"] : List Str).Nodup by decide +kernel) rfl (by right) (by symm)) (go_name (by decide)) (fun c => @pts_nil _) (fun c => (@pe_callTy _ _ _ _ _ _ _ _ _ (kTuple (K := K)) rfl T.z_tuple (by rfl) (@pa1 _ _ _ (@pe_compB _ _ _ _ _ _ _ (["_law_table_here", "_law_k"]) 1 [0] _ _ _ _ rfl (@kSeq _ K _ _ _ (@vw _ 1 _ _ (by left)) (by rfl)) (by kernel_rfl) rfl rfl (by kernel_rfl) (fun c => @pg_name _ _ 0 _ (show (["_law_table_here", "_law_k"] : List Str).Nodup by decide +kernel) rfl (by right) (by symm)) (go_name (by decide)) (fun c => @pts_nil _) (fun c => (@kIx _ K _ _ _ _ _ (@vw _ 0 _ _ (by left)) (@vw _ 1 _ _ (by left)) (by intro _ _; rfl) (by rfl))) (by intro _; rfl)) (by rfl)) (by decide) (by decide) (by rfl) (by rfl))) (by rfl) (by intro _; rfl)) (@pss_one _ _ _ (@ps_ret _ _ _ _ (@pe_tup _ _ _ _ _ (@pa_cons _ _ _ _ _ (@pe_callTy _ _ _ _ _ _ _ _ _ (kTuple (K := K)) rfl T.z_tuple (by rfl) (@pa1 _ _ _ (@pe_compB _ _ _ _ _ _ _ ["_law_k"] 1 [] _ _ _ _ rfl (@pi_range1 _ _ _ _ _ _ rfl T.z_range (@pa1 _ _ _ (@pe_callB _ _ _ _ _ _ _ _ _ (kLen (K := K)) rfl T.z_len (by rfl) (@pa1 _ _ _ (@vw _ 0 _ _ (by left)) (by rfl)) (by decide) (by decide) (by rfl) (by rfl)) (by rfl)) (by rfl)) (by kernel_rfl) rfl rfl (by kernel_rfl) (fun c => @pg_name _ _ 0 _ (show (["_law_k"] : List Str).Nodup by decide +kernel) rfl (by right) (by symm)) (go_name (by decide)) (fun c => @pts_nil _) (fun c => (@vw _ 0 _ _ (by left))) (by intro _; rfl)) (by rfl)) (by decide) (by decide) (by rfl) (by rfl)) (@pa1 _ _ _ (@pe_callTy _ _ _ _ _ _ _ _ _ (kTuple (K := K)) rfl T.z_tuple (by rfl) (@pa1 _ _ _ (@vw _ 1 _ _ (by left)) (by rfl)) (by decide) (by decide) (by rfl) (by rfl)) (by rfl)) (by rfl)))))), ?_⟩
 have hxl : xs.length = ts.length := by rw [<- R.length, tabsD_len]
 have at_ : ∀ (j : Nat) (x : V), xs[j]? = some x -> ∃ (a : Addr) (bs : List Bool), x = .ref a /\ SqT K H a (bs.map V.bl) /\ bs.length = M := by
  intro j x hx
  have hj : j < ts.length := by have := (List.getElem?_eq_some_iff.mp hx).1; omega
  obtain ⟨y, h1, h2⟩ := R.get (i := j) (d := .tup (ts[j].map Dv.bl)) (by unfold tabsD; rw [List.getElem?_map, List.getElem?_eq_getElem hj]; rfl)
  rw [hx] at h1
  cases h1
  unfold Rep at h2
  obtain ⟨a, zs, rfl, h3, h4⟩ := h2
  rw [reps_blJ _ _ h4] at h3
  exact ⟨a, ts[j], rfl, h3, tb _ (List.getElem_mem hj)⟩
 obtain ⟨x0, hx0⟩ : ∃ x, xs[0]? = some x := ⟨_, List.getElem?_eq_getElem (show 0 < xs.length by omega)⟩
 obtain ⟨a0, bs0, rfl, q0, l0⟩ := at_ 0 _ hx0
 refine ⟨_, _, .inl (.of gl), atI_of (n := 0) rfl hx0, _, .inr ⟨_, q0, rfl⟩, ?_⟩
 rw [List.length_map, l0]
 refine ⟨(M : Int), rfl, by omega, by omega, ?_⟩
 refine comp_range (fun i ys H' => Same H H' /\ ∃ rs : List (List Bool), rs.length = i /\ (∀ r ∈ rs, r.length = ts.length) /\ Reps K H' (tabsD rs) ys) ⟨fun _ _ e => e, [], rfl, nofun, reps_nil⟩ (fun i ys H' hi ⟨_, rs, e, _, R'⟩ => by
  rw [<- R'.length, tabsD_len]; exact small1000 (by omega)) ?_ ?_
 ·rintro i ys H1 hi ⟨S1, rs, rfl, hr1, R1⟩
  refine .inl ⟨⟨_, .of (S1 _ _ gl)⟩, ?_⟩
  refine comp_list (xs := xs) (fun j zs H' => H' = H1 /\ ∃ bs : List Bool, zs = bs.map V.bl /\ bs.length = j) ⟨rfl, [], rfl, rfl⟩ (fun j zs H' _ ⟨e, _⟩ => by rw [e]; exact .of (S1 _ _ gl)) (fun j zs H' hj ⟨_, bs, e, el⟩ => by
   rw [e, List.length_map, el]; exact small1000 (by omega)) ?_ ?_
  ·rintro j x zs H' hx ⟨rfl, bs, rfl, rfl⟩
   obtain ⟨a, cs, rfl, h1, h2⟩ := at_ _ _ hx
   refine ⟨_, _, .inr (S1.sqT h1), atI_of (n := rs.length) (by omega) (by rw [List.getElem?_map, List.getElem?_eq_getElem (show rs.length < cs.length by omega)]; rfl), ?_⟩
   exact ⟨rfl, bs ++ [_], by rw [List.map_append]; rfl, by rw [List.length_append]; rfl⟩
  ·rintro zs H' ⟨rfl, bs, rfl, hb⟩ k hk
   refine ⟨_, .inl ⟨.of upd_same, fun p hp => ?_⟩⟩
   have s3 := (Same.upd (o := .lst (bs.map V.bl)) hk).trans (Same.upd (o := .tup (bs.map V.bl)) hp)
   refine ⟨S1.trans s3, rs ++ [bs], by rw [List.length_append]; rfl, ?_, ?_⟩
   ·intro r hr'
    rcases List.mem_append.mp hr' with h | h
    ·exact hr1 r h
    ·rw [List.mem_singleton.mp h]; omega
   ·have e : tabsD (rs ++ [bs]) = tabsD rs ++ [.tup (bs.map Dv.bl)] := by unfold tabsD; rw [List.map_append]; rfl
    rw [e]
    exact Reps.append (Reps.same s3 _ _ R1) (reps_cons (rep_tup1 upd_same (reps_bl bs)) reps_nil)
 ·rintro ys H1 ⟨S1, rs, hrl, hr1, R1⟩ k hk
  have s2 : Same H1 (upd H1 k (.lst ys)) := Same.upd hk
  have g2 : upd H1 k (.lst ys) k = some (.lst ys) := upd_same
  generalize upd H1 k (.lst ys) = H2 at *
  dsimp only [gName]
  refine ⟨_, .inl ⟨_, .of (s2 _ _ (S1 _ _ gl)), rfl⟩, (xs.length : Int), rfl, by omega, by omega, ?_⟩
  refine comp_range (fun i ys H' => H' = H2 /\ ∃ ls : List Int, ys = ls.map V.int /\ ls.length = i /\ ∀ x ∈ ls, x.natAbs <= 6) ⟨rfl, [], rfl, rfl, nofun⟩ (fun i ys H' hi ⟨_, ls, e, el, _⟩ => by
   rw [e, List.length_map, el]; exact small1000 (by omega)) ?_ ?_
  ·rintro i ys H' hi ⟨rfl, ls, rfl, el, hs⟩
   refine ⟨rfl, ls ++ [0 + (i : Int)], by rw [List.map_append]; rfl, by rw [List.length_append, el]; rfl, ?_⟩
   intro x hx
   rcases List.mem_append.mp hx with h | h
   ·exact hs x h
   ·rw [List.mem_singleton.mp h]; omega
  ·rintro ys' H' ⟨rfl, ls, rfl, el, hs⟩ k3 hk3
   refine ⟨_, .inl ⟨.of upd_same, fun p hp => ?_⟩⟩
   have s3 := (Same.upd (o := .lst (ls.map V.int)) hk3).trans (Same.upd (o := .tup (ls.map V.int)) hp)
   have g3 : upd (upd H' k3 (.lst (ls.map V.int))) p (.tup (ls.map V.int)) p = some (.tup (ls.map V.int)) := upd_same
   generalize upd (upd H' k3 (.lst (ls.map V.int))) p (.tup (ls.map V.int)) = H3 at *
   refine ⟨_, .inl ⟨.of (s3 _ _ g2), fun p4 hp4 => ?_⟩⟩
   refine ⟨small_le (show 2 <= 1000 by decide), fun p5 hp5 => ?_⟩
   have s5 := (Same.upd (o := .tup ys) hp4).trans (Same.upd (o := .tup [.ref p, .ref p4]) hp5)
   refine q ls rs _ _ ⟨by omega, by omega, by omega, by omega, fun r h => by rw [hr1 r h]; omega, fun x h => Nat.le_trans (hs x h) (by decide)⟩ (S1.trans (s2.trans (s3.trans s5))) ?_
   exact rep_tup1 upd_same (reps_cons (rep_tup1 (s5 _ _ g3) (reps_int1 ls)) (reps_cons (rep_tup1 (Same.upd hp5 _ _ upd_same) (Reps.same (s2.trans (s3.trans s5)) _ _ R1)) reps_nil))
def sp_gnew (K : W.Frag) (n b : Nat) : Sp := fun vs H Q _ => match vs with
 | [.ref t] => ∃ N : Nat, GFeed H t N /\ N <= b /\ ∀ ls rs u H', Gm ls rs -> Rep K H' (gmD ls rs) u -> GFeed H' t (N + n) -> Frm t H H' -> Q u H'
 | _ => False
theorem sp_gnew_mono {n b : Nat} : SpMono (sp_gnew K n b) := fun vs H Q Q' E h q => by
 unfold sp_gnew at *
 split at q
 ·revert q; repeat' first | exact h _ _ | exact newL_mono h | exact out_mono h | exact outT_mono h | walk_at "m"
 ·exact q.elim
theorem ok_Zpicks : FnOk P w K mg base CX0 2 T.f_Zpicks T.d_Zpicks ["_law_feed_here"] (sp_gnew K 10 850000000) := by
 have G_Zdraw := ok_Zdraw (P := P) (w := w) (base := base) T
 have G_Zdraw := ok2_Zdraw (P := P) (w := w) (base := base) T
 refine T.F_Zpicks.ok sc_Zpicks (fun vs H Q E h => by unfold sp_gnew at h; split at h <;> first | rfl | exact h.elim) (fun cdv A outer s H vs Q E hr h => ?_)
 have hu := hu60 hr
 have hr_Zdraw := hr.mono (show 1 <= _ by decide)
 unfold sp_gnew at h
 split at h
 rotate_left
 ·exact h.elim
 rename_i t
 obtain ⟨N, F, hN, q⟩ := h
 refine ⟨_, (@pss_cons _ _ _ _ _ (@ps_set _ _ 1 _ _ _ _ sc_Zpicks.nd rfl (by right) (@pe_op _ _ _ _ _ _ _ _ (kAdd (K := K)) (@pe_int _ _ _ _) (@pe_call _ _ _ _ _ _ _ _ _ _ _ _ _ _ _ _ G_Zdraw hr_Zdraw rfl T.m_Zdraw T.F_Zdraw.kp T.b_Zdraw .nil pass0 (@pa_cons _ _ _ _ _ (@vw _ 0 _ _ (by left)) (@pa1 _ _ _ (@pe_int _ _ _ _) (by rfl)) (by rfl)) (by decide) (by rfl) (by rfl))) (by rfl) (by symm)) (@pss_cons _ _ _ _ _ (@ps_set _ _ 2 _ _ _ _ sc_Zpicks.nd rfl (by right) (@pe_call _ _ _ _ _ _ _ _ _ _ _ _ _ _ _ _ G_Zdraw hr_Zdraw rfl T.m_Zdraw T.F_Zdraw.kp T.b_Zdraw .nil pass0 (@pa_cons _ _ _ _ _ (@vw _ 0 _ _ (by left)) (@pa1 _ _ _ (@pe_int _ _ _ _) (by rfl)) (by rfl)) (by decide) (by rfl) (by rfl)) (by rfl) (by symm)) (@pss_cons _ _ _ _ _ (@ps_compB _ _ _ _ _ _ _ ["_law_k"] 1 [] _ _ _ _ 3 _ _ _ rfl sc_Zpicks.nd rfl rfl (@pi_range1 _ _ _ _ _ _ rfl T.z_range (@pa1 _ _ _ (@vw _ 1 _ _ (by left)) (by rfl)) (by rfl)) (by kernel_rfl) rfl rfl (by kernel_rfl) (fun c => @pg_name _ _ 0 _ (show (["_law_k"] : List Str).Nodup by decide +kernel) rfl (by right) (by symm)) (go_name (by decide)) (fun c => @pts_nil _) (fun c => (@vw _ 0 _ _ (by left))) (by rfl) (by intro _; rfl)) (@pss_cons _ _ _ _ _ (@ps_if _ _ _ _ _ _ _ _ (@tu_cmp _ _ _ _ _ _ _ _ (kEq (K := K) hu) (@pe_call _ _ _ _ _ _ _ _ _ _ _ _ _ _ _ _ G_Zdraw hr_Zdraw rfl T.m_Zdraw T.F_Zdraw.kp T.b_Zdraw .nil pass0 (@pa_cons _ _ _ _ _ (@vw _ 0 _ _ (by left)) (@pa1 _ _ _ (@pe_int _ _ _ _) (by rfl)) (by rfl)) (by decide) (by rfl) (by rfl)) (@pe_int _ _ _ _) (by walk_at "n")) (@pss_one _ _ _ (@ps_asg _ _ _ _ _ _ (@pe_call _ _ _ _ _ _ _ _ _ _ _ _ _ _ _ _ G_Zdraw hr_Zdraw rfl T.m_Zdraw T.F_Zdraw.kp T.b_Zdraw .nil pass0 (@pa_cons _ _ _ _ _ (@vw _ 0 _ _ (by left)) (@pa1 _ _ _ (@vw _ 1 _ _ (by left)) (by rfl)) (by rfl)) (by decide) (by rfl) (by rfl)) (@pg_sub _ _ _ _ _ _ _ (@vw _ 3 _ _ (by left)) (@pe_call _ _ _ _ _ _ _ _ _ _ _ _ _ _ _ _ G_Zdraw hr_Zdraw rfl T.m_Zdraw T.F_Zdraw.kp T.b_Zdraw .nil pass0 (@pa_cons _ _ _ _ _ (@vw _ 0 _ _ (by left)) (@pa1 _ _ _ (@vw _ 1 _ _ (by left)) (by rfl)) (by rfl)) (by decide) (by rfl) (by rfl)) set_any (by intro _; rfl)) (by rfl) (by rfl) (by rfl))) (@pss_nil _)) (@pss_cons _ _ _ _ _ (@ps_compB _ _ _ _ _ _ _ (["_law_one", "_law_many_here"]) 1 [1] _ _ _ _ 4 _ _ _ rfl sc_Zpicks.nd rfl rfl (@pi_range2 _ _ _ _ _ _ _ rfl T.z_range (@pa_cons _ _ _ _ _ (@vw _ 2 _ _ (by left)) (@pa1 _ _ _ (@vw _ 1 _ _ (by left)) (by rfl)) (by rfl)) (by rfl) (by rfl)) (by kernel_rfl) rfl rfl (by kernel_rfl) (fun c => @pg_name _ _ 0 _ (show (["_law_one", "_law_many_here"] : List Str).Nodup by decide +kernel) rfl (by right) (by symm)) (go_name (by decide)) (fun c => @pts_nil _) (fun c => (@pe_callTy _ _ _ _ _ _ _ _ _ (kTuple (K := K)) rfl T.z_tuple (by rfl) (@pa1 _ _ _ (@pe_compB _ _ _ _ _ _ _ (["_law_k", "_law_one"]) 1 [0] _ _ _ _ rfl (@pi_range1 _ _ _ _ _ _ rfl T.z_range (@pa1 _ _ _ (@vw _ 1 _ _ (by left)) (by rfl)) (by rfl)) (by kernel_rfl) rfl rfl (by kernel_rfl) (fun c => @pg_name _ _ 0 _ (show (["_law_k", "_law_one"] : List Str).Nodup by decide +kernel) rfl (by right) (by symm)) (go_name (by decide)) (fun c => @pts_nil _) (fun c => (@pe_cmpM _ _ _ _ _ _ _ _ (kEq (K := K) hu) (@vw _ 0 _ _ (by left)) (@vw _ 1 _ _ (by left)) (by walk_at "n"))) (by intro _; rfl)) (by rfl)) (by decide) (by decide) (by rfl) (by rfl))) (by rfl) (by intro _; rfl)) (@pss_one _ _ _ (@ps_ret _ _ _ _ (@pe_tup _ _ _ _ _ (@pa_cons _ _ _ _ _ (@pe_callTy _ _ _ _ _ _ _ _ _ (kTuple (K := K)) rfl T.z_tuple (by rfl) (@pa1 _ _ _ (@vw _ 3 _ _ (by left)) (by rfl)) (by decide) (by decide) (by rfl) (by rfl)) (@pa1 _ _ _ (@pe_callTy _ _ _ _ _ _ _ _ _ (kTuple (K := K)) rfl T.z_tuple (by rfl) (@pa1 _ _ _ (@vw _ 4 _ _ (by left)) (by rfl)) (by decide) (by decide) (by rfl) (by rfl)) (by rfl)) (by rfl)))))))))), ?_⟩
 obtain ⟨c, F⟩ := F.told
 refine ⟨c, N, F, by omega, okDiv_of (by decide) (by decide), fun d1 H1 a0 a1 F1 f1 => ?_⟩
 dsimp only [gName, mAdd]
 obtain ⟨M, rfl⟩ : ∃ M : Nat, d1 = M := ⟨d1.toNat, by omega⟩
 refine ⟨c, _, F1, by omega, okDiv_of (by decide) (by decide), fun d2 H2 b0 b1 F2 f2 => ?_⟩
 dsimp only [gName]
 have f2' : Frm t H H2 := (frm_all f1).trans (frm_all f2)
 refine seq_at (fun σ H' => ∃ (l : Addr) (ls : List Int), σ = [some (.ref t), some (.int (2 + M)), some (.int d2), some (.ref l), none] /\ H l = none /\ l ≠ t /\ l ≠ c /\ H' l = some (.lst (ls.map V.int)) /\ ls.length = M + 2 /\ (∀ x ∈ ls, x.natAbs <= 10) /\ GFd H' t c (N + 2) /\ Frm t H H') ?_ ?_ (by walk_at "sm")
 ·refine ⟨(2 + M : Int), rfl, by omega, by omega, ?_⟩
  refine comp_range (fun i ys H' => H' = H2 /\ ∃ ls : List Int, ys = ls.map V.int /\ ls.length = i /\ ∀ x ∈ ls, x.natAbs <= 10) ⟨rfl, [], rfl, rfl, nofun⟩ (fun i ys H' hi ⟨_, ls, e, el, _⟩ => by
   rw [e, List.length_map, el]; exact small1000 (by omega)) ?_ ?_
  ·rintro i ys H' hi ⟨rfl, ls, rfl, el, hs⟩
   refine ⟨rfl, ls ++ [0 + (i : Int)], by rw [List.map_append]; rfl, by rw [List.length_append, el]; rfl, ?_⟩
   intro x hx
   rcases List.mem_append.mp hx with h | h
   ·exact hs x h
   ·rw [List.mem_singleton.mp h]; omega
  ·rintro ys H' ⟨rfl, ls, rfl, el, hs⟩ l hl
   have hne := F2.ne hl
   exact ⟨l, ls, rfl, F2.feed.free f2' hl, hne.1, hne.2, upd_same, by omega, hs, F2.upd hl, f2'.trans (Frm.upd hl)⟩
 rintro σ H3 ⟨l, ls, rfl, hl, lt, lc, gl3, ll, hs, F3, f3⟩
 refine seq_at (fun σ H' => ∃ (ls : List Int), σ = [some (.ref t), some (.int (2 + M)), some (.int d2), some (.ref l), none] /\ H' l = some (.lst (ls.map V.int)) /\ ls.length = M + 2 /\ (∀ x ∈ ls, x.natAbs <= 10) /\ GFeed H' t (N + 10) /\ Frm t H H') ?_ ?_ (by walk_at "sm")
 ·refine ⟨c, _, F3, by omega, okDiv_of (by decide) (by decide), fun d3 H4 _ _ F4 f4 => ?_⟩
  have gl4 : H4 l = some (.lst (ls.map V.int)) := by rw [f4 l lt]; exact gl3
  refine ite2 (fun e => ?_) (fun e => ⟨ls, rfl, gl4, ll, hs, F4.feed.mono (by omega), f3.trans (frm_all f4)⟩)
  refine ⟨c, _, F4, by omega, okDiv_of (by omega) (by omega), fun d4 H5 p0 p1 F5 f5 => ?_⟩
  refine ⟨c, _, F5, by omega, okDiv_of (by omega) (by omega), fun d5 H6 q0 q1 F6 f6 => ?_⟩
  have gl6 : H6 l = some (.lst (ls.map V.int)) := by rw [f6 l lt, f5 l lt]; exact gl4
  have hd5 : ixN (ls.map V.int).length d5 = some d5.toNat := by
   rw [List.length_map]
   unfold ixN
   rw [if_pos (by omega), if_pos (by omega)]
  refine ⟨_, _, gl6, hd5, ls.set d5.toNat d4, rfl, by rw [upd_same, List.map_set], by rw [List.length_set]; exact ll, ?_, (F6.put ⟨lt, lc⟩).feed.mono (by omega), frm_new (f3.trans ((frm_all f4).trans ((frm_all f5).trans (frm_all f6)))) hl⟩
  intro x hx
  rcases List.mem_or_eq_of_mem_set hx with h | h
  ·exact hs x h
  ·rw [h]; omega
 rintro σ H4 ⟨ls, rfl, gl4, ll, hs, F4, f4⟩
 have n0 : (0 : Int) <= 2 + M - d2 := by omega
 refine ⟨d2, 2 + M, rfl, ⟨by omega, by omega, by omega, by omega⟩, ?_⟩
 obtain ⟨W, hW, w1, w7⟩ : ∃ W : Nat, (2 + (M : Int) - d2).toNat = W /\ 1 <= W /\ W <= 7 := ⟨_, rfl, by omega, by omega⟩
 rw [hW]
 refine comp_range (fun i ys H' => Same H4 H' /\ ∃ rs : List (List Bool), rs.length = i /\ (∀ r ∈ rs, r.length = M + 2) /\ Reps K H' (tabsD rs) ys) ⟨fun _ _ e => e, [], rfl, nofun, reps_nil⟩ (fun i ys H' hi ⟨_, rs, e, _, R'⟩ => by
  rw [<- R'.length, tabsD_len]; exact small1000 (by omega)) ?_ ?_
 ·rintro i ys H1 hi ⟨S1, rs, rfl, hr1, R1⟩
  refine ⟨(2 + M : Int), rfl, by omega, by omega, ?_⟩
  refine comp_range (fun j zs H' => H' = H1 /\ ∃ bs : List Bool, zs = bs.map V.bl /\ bs.length = j) ⟨rfl, [], rfl, rfl⟩ (fun j zs H' hj ⟨_, bs, e, el⟩ => by
   rw [e, List.length_map, el]; exact small1000 (by omega)) ?_ ?_
  ·rintro j zs H' hj ⟨rfl, bs, rfl, rfl⟩
   exact ⟨rfl, bs ++ [_], by rw [List.map_append]; rfl, by rw [List.length_append]; rfl⟩
  ·rintro zs H' ⟨rfl, bs, rfl, hb⟩ k hk
   refine ⟨_, .inl ⟨.of upd_same, fun p hp => ?_⟩⟩
   have s3 := (Same.upd (o := .lst (bs.map V.bl)) hk).trans (Same.upd (o := .tup (bs.map V.bl)) hp)
   refine ⟨S1.trans s3, rs ++ [bs], by rw [List.length_append]; rfl, ?_, ?_⟩
   ·intro r hr'
    rcases List.mem_append.mp hr' with h | h
    ·exact hr1 r h
    ·rw [List.mem_singleton.mp h]; omega
   ·have e : tabsD (rs ++ [bs]) = tabsD rs ++ [.tup (bs.map Dv.bl)] := by unfold tabsD; rw [List.map_append]; rfl
    rw [e]
    exact Reps.append (Reps.same s3 _ _ R1) (reps_cons (rep_tup1 upd_same (reps_bl bs)) reps_nil)
 ·rintro ys H1 ⟨S1, rs, hrl, hr1, R1⟩ k hk
  have s2 : Same H1 (upd H1 k (.lst ys)) := Same.upd hk
  have g2 : upd H1 k (.lst ys) k = some (.lst ys) := upd_same
  generalize upd H1 k (.lst ys) = H2' at *
  dsimp only [gName]
  refine ⟨_, .inl ⟨.of (s2 _ _ (S1 _ _ gl4)), fun p hp => ?_⟩⟩
  have s3 : Same H2' (upd H2' p (.tup (ls.map V.int))) := Same.upd hp
  have g3 : upd H2' p (.tup (ls.map V.int)) p = some (.tup (ls.map V.int)) := upd_same
  generalize upd H2' p (.tup (ls.map V.int)) = H3' at *
  refine ⟨_, .inl ⟨.of (s3 _ _ g2), fun p4 hp4 => ?_⟩⟩
  refine ⟨small_le (show 2 <= 1000 by decide), fun p5 hp5 => ?_⟩
  have s5 := (Same.upd (o := .tup ys) hp4).trans (Same.upd (o := .tup [.ref p, .ref p4]) hp5)
  have S5 := S1.trans (s2.trans (s3.trans s5))
  refine q ls rs _ _ ⟨by omega, by omega, by omega, by omega, fun r h => by rw [hr1 r h]; omega, fun x h => Nat.le_trans (hs x h) (by decide)⟩ ?_ (F4.same S5) (f4.trans fun b o _ e => S5 b o e)
  exact rep_tup1 upd_same (reps_cons (rep_tup1 (s5 _ _ g3) (reps_int1 ls)) (reps_cons (rep_tup1 (Same.upd hp5 _ _ upd_same) (Reps.same (s2.trans (s3.trans s5)) _ _ R1)) reps_nil))
theorem atI_bd {ns : List Int} {i lo hi : Int} (h0 : 0 <= i) (h1 : i < ns.length) (h : ∀ x ∈ ns, lo <= x /\ x <= hi) : ∃ z, atI (ns.map V.int) i = some (.int z) /\ lo <= z /\ z <= hi := by
 have hi' : i.toNat < ns.length := by omega
 exact ⟨ns[i.toNat], atI_of (n := i.toNat) (by omega) (by rw [List.getElem?_map, List.getElem?_eq_getElem hi']; rfl), h _ (List.getElem_mem hi')⟩
theorem three_at {a b c : V} {i : Int} (h0 : 0 <= i) (h1 : i < 3) : ∃ z, atI [a, b, c] i = some z /\ (z = a \/ z = b \/ z = c) := by
 obtain ⟨n, rfl⟩ : ∃ n : Nat, i = n := ⟨i.toNat, by omega⟩
 match n, h1 with
 | 0, _ => exact ⟨a, rfl, .inl rfl⟩
 | 1, _ => exact ⟨b, rfl, .inr (.inl rfl)⟩
 | 2, _ => exact ⟨c, rfl, .inr (.inr rfl)⟩
 | n + 3, h => omega
theorem ok_Zany_game : FnOk P w K mg base CX0 2 T.f_Zany_game T.d_Zany_game ["_law_feed_here"] (sp_gnew K 300 850000000) := by
 have G_Zdraw := ok_Zdraw (P := P) (w := w) (base := base) T
 refine T.F_Zany_game.ok sc_Zany_game (fun vs H Q E h => by unfold sp_gnew at h; split at h <;> first | rfl | exact h.elim) (fun cdv A outer s H vs Q E hr h => ?_)
 have hu := hu60 hr
 have hr_Zdraw := hr.mono (show 1 <= _ by decide)
 unfold sp_gnew at h
 split at h
 rotate_left
 ·exact h.elim
 rename_i t
 obtain ⟨N, F, hN, q⟩ := h
 refine ⟨_, (@pss_cons _ _ _ _ _ (@ps_set _ _ 1 _ _ _ _ sc_Zany_game.nd rfl (by right) (@pe_lst _ _ _ _ (@pa_cons _ _ _ _ _ (@pe_op _ _ _ _ _ _ _ _ (kAdd (K := K)) (@pe_int _ _ _ _) (@pe_call _ _ _ _ _ _ _ _ _ _ _ _ _ _ _ _ G_Zdraw hr_Zdraw rfl T.m_Zdraw T.F_Zdraw.kp T.b_Zdraw .nil pass0 (@pa_cons _ _ _ _ _ (@vw _ 0 _ _ (by left)) (@pa1 _ _ _ (@pe_int _ _ _ _) (by rfl)) (by rfl)) (by decide) (by rfl) (by rfl))) (@pa_cons _ _ _ _ _ (@pe_op _ _ _ _ _ _ _ _ (kAdd (K := K)) (@pe_int _ _ _ _) (@pe_call _ _ _ _ _ _ _ _ _ _ _ _ _ _ _ _ G_Zdraw hr_Zdraw rfl T.m_Zdraw T.F_Zdraw.kp T.b_Zdraw .nil pass0 (@pa_cons _ _ _ _ _ (@vw _ 0 _ _ (by left)) (@pa1 _ _ _ (@pe_int _ _ _ _) (by rfl)) (by rfl)) (by decide) (by rfl) (by rfl))) (@pa_cons _ _ _ _ _ (@pe_op _ _ _ _ _ _ _ _ (kAdd (K := K)) (@pe_int _ _ _ _) (@pe_call _ _ _ _ _ _ _ _ _ _ _ _ _ _ _ _ G_Zdraw hr_Zdraw rfl T.m_Zdraw T.F_Zdraw.kp T.b_Zdraw .nil pass0 (@pa_cons _ _ _ _ _ (@vw _ 0 _ _ (by left)) (@pa1 _ _ _ (@pe_int _ _ _ _) (by rfl)) (by rfl)) (by decide) (by rfl) (by rfl))) (@pa1 _ _ _ (@pe_op _ _ _ _ _ _ _ _ (kAdd (K := K)) (@pe_int _ _ _ _) (@pe_call _ _ _ _ _ _ _ _ _ _ _ _ _ _ _ _ G_Zdraw hr_Zdraw rfl T.m_Zdraw T.F_Zdraw.kp T.b_Zdraw .nil pass0 (@pa_cons _ _ _ _ _ (@vw _ 0 _ _ (by left)) (@pa1 _ _ _ (@pe_int _ _ _ _) (by rfl)) (by rfl)) (by decide) (by rfl) (by rfl))) (by rfl)) (by rfl)) (by rfl)) (by rfl))) (by rfl) (by symm)) (@pss_cons _ _ _ _ _ (@ps_set _ _ 1 _ _ _ _ sc_Zany_game.nd rfl (by right) (@kIx _ K _ _ _ _ _ (@vw _ 1 _ _ (by left)) (@pe_call _ _ _ _ _ _ _ _ _ _ _ _ _ _ _ _ G_Zdraw hr_Zdraw rfl T.m_Zdraw T.F_Zdraw.kp T.b_Zdraw .nil pass0 (@pa_cons _ _ _ _ _ (@vw _ 0 _ _ (by left)) (@pa1 _ _ _ (@pe_int _ _ _ _) (by rfl)) (by rfl)) (by decide) (by rfl) (by rfl)) (by intro _ _; rfl) (by rfl)) (by rfl) (by symm)) (@pss_cons _ _ _ _ _ (@ps_set _ _ 2 _ _ _ _ sc_Zany_game.nd rfl (by right) (@kIx _ K _ _ _ _ _ (@pe_lst _ _ _ _ (@pa_cons _ _ _ _ _ (@pe_op _ _ _ _ _ _ _ _ (kAdd (K := K)) (@pe_int _ _ _ _) (@pe_call _ _ _ _ _ _ _ _ _ _ _ _ _ _ _ _ G_Zdraw hr_Zdraw rfl T.m_Zdraw T.F_Zdraw.kp T.b_Zdraw .nil pass0 (@pa_cons _ _ _ _ _ (@vw _ 0 _ _ (by left)) (@pa1 _ _ _ (@pe_int _ _ _ _) (by rfl)) (by rfl)) (by decide) (by rfl) (by rfl))) (@pa_cons _ _ _ _ _ (@pe_op _ _ _ _ _ _ _ _ (kAdd (K := K)) (@pe_int _ _ _ _) (@pe_call _ _ _ _ _ _ _ _ _ _ _ _ _ _ _ _ G_Zdraw hr_Zdraw rfl T.m_Zdraw T.F_Zdraw.kp T.b_Zdraw .nil pass0 (@pa_cons _ _ _ _ _ (@vw _ 0 _ _ (by left)) (@pa1 _ _ _ (@pe_int _ _ _ _) (by rfl)) (by rfl)) (by decide) (by rfl) (by rfl))) (@pa1 _ _ _ (@pe_op _ _ _ _ _ _ _ _ (kAdd (K := K)) (@pe_int _ _ _ _) (@pe_call _ _ _ _ _ _ _ _ _ _ _ _ _ _ _ _ G_Zdraw hr_Zdraw rfl T.m_Zdraw T.F_Zdraw.kp T.b_Zdraw .nil pass0 (@pa_cons _ _ _ _ _ (@vw _ 0 _ _ (by left)) (@pa1 _ _ _ (@pe_int _ _ _ _) (by rfl)) (by rfl)) (by decide) (by rfl) (by rfl))) (by rfl)) (by rfl)) (by rfl))) (@pe_call _ _ _ _ _ _ _ _ _ _ _ _ _ _ _ _ G_Zdraw hr_Zdraw rfl T.m_Zdraw T.F_Zdraw.kp T.b_Zdraw .nil pass0 (@pa_cons _ _ _ _ _ (@vw _ 0 _ _ (by left)) (@pa1 _ _ _ (@pe_int _ _ _ _) (by rfl)) (by rfl)) (by decide) (by rfl) (by rfl)) (by intro _ _; rfl) (by rfl)) (by rfl) (by symm)) (@pss_cons _ _ _ _ _ (@ps_setN _ _ 3 _ _ _ _ sc_Zany_game.nd rfl (by right) (@kIx _ K _ _ _ _ _ (@pe_lst _ _ _ _ (@pa_cons _ _ _ _ _ (@pe_lst _ _ _ _ (@pa_cons _ _ _ _ _ (@pe_int _ _ _ _) (@pa1 _ _ _ (@pe_int _ _ _ _) (by rfl)) (by rfl))) (@pa_cons _ _ _ _ _ (@pe_lst _ _ _ _ (@pa_cons _ _ _ _ _ (@pe_un _ _ _ _ _ _ um_neg (@pe_int _ _ _ _)) (@pa_cons _ _ _ _ _ (@pe_op _ _ _ _ _ _ _ _ om_pow (@pe_int _ _ _ _) (@pe_int _ _ _ _)) (@pa1 _ _ _ (@pe_int _ _ _ _) (by rfl)) (by rfl)) (by rfl))) (@pa_cons _ _ _ _ _ (@pe_lst _ _ _ _ (@pa_cons _ _ _ _ _ (@pe_int _ _ _ _) (@pa_cons _ _ _ _ _ (@pe_int _ _ _ _) (@pa_cons _ _ _ _ _ (@pe_int _ _ _ _) (@pa_cons _ _ _ _ _ (@pe_int _ _ _ _) (@pa_cons _ _ _ _ _ (@pe_int _ _ _ _) (@pa_cons _ _ _ _ _ (@pe_int _ _ _ _) (@pa_cons _ _ _ _ _ (@pe_int _ _ _ _) (@pa_cons _ _ _ _ _ (@pe_int _ _ _ _) (@pa_cons _ _ _ _ _ (@pe_int _ _ _ _) (@pa1 _ _ _ (@pe_int _ _ _ _) (by rfl)) (by rfl)) (by rfl)) (by rfl)) (by rfl)) (by rfl)) (by rfl)) (by rfl)) (by rfl)) (by rfl))) (@pa_nil _) L2.star_lst) L2.star_lst) L2.star_lst)) (@pe_call _ _ _ _ _ _ _ _ _ _ _ _ _ _ _ _ G_Zdraw hr_Zdraw rfl T.m_Zdraw T.F_Zdraw.kp T.b_Zdraw .nil pass0 (@pa_cons _ _ _ _ _ (@vw _ 0 _ _ (by left)) (@pa1 _ _ _ (@pe_int _ _ _ _) (by rfl)) (by rfl)) (by decide) (by rfl) (by rfl)) (by intro _ _; rfl) (by rfl)) rfl (by first | exact .inl rfl | exact .inr rfl)) (@pss_cons _ _ _ _ _ (@ps_compB _ _ _ _ _ _ _ (["_law_k", "_law_names", "_law_feed_here"]) 1 ([3, 0]) _ _ _ _ 4 _ _ _ rfl sc_Zany_game.nd rfl rfl (@pi_range1 _ _ _ _ _ _ rfl T.z_range (@pa1 _ _ _ (@vw _ 1 _ _ (by left)) (by rfl)) (by rfl)) (by kernel_rfl) rfl rfl (by kernel_rfl) (fun c => @pg_name _ _ 0 _ (show (["_law_k", "_law_names", "_law_feed_here"] : List Str).Nodup by decide +kernel) rfl (by right) (by symm)) (go_name (by decide)) (fun c => @pts_nil _) (fun c => (@kIx _ K _ _ _ _ _ (@vw _ 1 _ _ (by left)) (@pe_call _ _ _ _ _ _ _ _ _ _ _ _ _ _ _ _ G_Zdraw hr_Zdraw rfl T.m_Zdraw T.F_Zdraw.kp T.b_Zdraw .nil pass0 (@pa_cons _ _ _ _ _ (@vw _ 2 _ _ (by left)) (@pa1 _ _ _ (@pe_callB _ _ _ _ _ _ _ _ _ (kLen (K := K)) rfl T.z_len (by rfl) (@pa1 _ _ _ (@vw _ 1 _ _ (by left)) (by rfl)) (by decide) (by decide) (by rfl) (by rfl)) (by rfl)) (by rfl)) (by decide) (by rfl) (by rfl)) (by intro _ _; rfl) (by rfl))) (by rfl) (by intro _; rfl)) (@pss_cons _ _ _ _ _ (@ps_set _ _ 5 _ _ _ _ sc_Zany_game.nd rfl (by right) (@pe_lst _ _ _ _ (@pa_nil _)) (by rfl) (by symm)) (@pss_cons _ _ _ _ _ (@ps_for _ _ _ _ _ _ _ _ PassesOwn.never rfl (@pi_range1 _ _ _ _ _ _ rfl T.z_range (@pa1 _ _ _ (@vw _ 2 _ _ (by left)) (by rfl)) (by rfl)) (@pg_name _ _ 6 _ sc_Zany_game.nd rfl (by right) (by symm)) (@pss_one _ _ _ (@ps_expr _ _ _ _ (@kAppend _ K _ _ _ _ _ _ (@vw _ 5 _ _ (by left)) (@pa1 _ _ _ (@pe_callTy _ _ _ _ _ _ _ _ _ (kTuple (K := K)) rfl T.z_tuple (by rfl) (@pa1 _ _ _ (@pe_compB _ _ _ _ _ _ _ (["_law_thing", "_law_feed_here"]) 1 [0] _ _ _ _ rfl (@pi_range1 _ _ _ _ _ _ rfl T.z_range (@pa1 _ _ _ (@vw _ 1 _ _ (by left)) (by rfl)) (by rfl)) (by kernel_rfl) rfl rfl (by kernel_rfl) (fun c => @pg_name _ _ 0 _ (show (["_law_thing", "_law_feed_here"] : List Str).Nodup by decide +kernel) rfl (by right) (by symm)) (go_name (by decide)) (fun c => @pts_nil _) (fun c => (@pe_cmpM _ _ _ _ _ _ _ _ (kEq (K := K) hu) (@pe_call _ _ _ _ _ _ _ _ _ _ _ _ _ _ _ _ G_Zdraw hr_Zdraw rfl T.m_Zdraw T.F_Zdraw.kp T.b_Zdraw .nil pass0 (@pa_cons _ _ _ _ _ (@vw _ 1 _ _ (by left)) (@pa1 _ _ _ (@pe_int _ _ _ _) (by rfl)) (by rfl)) (by decide) (by rfl) (by rfl)) (@pe_int _ _ _ _) (by walk_at "n"))) (by intro _; rfl)) (by rfl)) (by decide) (by decide) (by rfl) (by rfl)) (by rfl)) (by rfl) (by rfl) (by rfl) (by rfl) (by rfl) (by rfl)) (by rfl))) (by intro _; rfl)) (@pss_one _ _ _ (@ps_ret _ _ _ _ (@pe_tup _ _ _ _ _ (@pa_cons _ _ _ _ _ (@pe_callTy _ _ _ _ _ _ _ _ _ (kTuple (K := K)) rfl T.z_tuple (by rfl) (@pa1 _ _ _ (@vw _ 4 _ _ (by left)) (by rfl)) (by decide) (by decide) (by rfl) (by rfl)) (@pa1 _ _ _ (@pe_callTy _ _ _ _ _ _ _ _ _ (kTuple (K := K)) rfl T.z_tuple (by rfl) (@pa1 _ _ _ (@vw _ 5 _ _ (by left)) (by rfl)) (by decide) (by decide) (by rfl) (by rfl)) (by rfl)) (by rfl)))))))))))), ?_⟩
 have d4 : okDiv 4 := okDiv_of (by decide) (by decide)
 have d5 : okDiv 5 := okDiv_of (by decide) (by decide)
 have d6 : okDiv 6 := okDiv_of (by decide) (by decide)
 have d3 : okDiv 3 := okDiv_of (by decide) (by decide)
 have d16 : okDiv 16 := okDiv_of (by decide) (by decide)
 refine seq_at (fun σ H' => ∃ (l : Addr) (a b c d : Int), σ = [some (.ref t), some (.ref l), none, none, none, none, none] /\ H' l = some (.lst ([a, b, c, d].map V.int)) /\ l ≠ t /\ (∀ x ∈ [a, b, c, d], 1 <= x /\ x <= 10) /\ GFeed H' t (N + 4) /\ Frm t H H') ?_ ?_ (by walk_at "sm")
 ·refine ⟨_, F, by omega, d6, fun a H1 a0 a1 F1 f1 => ?_⟩
  refine ⟨_, F1, by omega, d6, fun b H2 b0 b1 F2 f2 => ?_⟩
  refine ⟨_, F2, by omega, d6, fun c H3 c0 c1 F3 f3 => ?_⟩
  refine ⟨_, F3, by omega, d4, fun d H4 d0 d1 F4 f4 => ?_⟩
  refine ⟨small_le (show 4 <= 1000 by decide), fun l hl => ?_⟩
  refine ⟨l, 1 + a, 2 + b, 2 + c, 7 + d, rfl, upd_same, F4.neT hl, ?_, F4.upd hl, (((frm_all f1).trans (frm_all f2)).trans ((frm_all f3).trans (frm_all f4))).trans (Frm.upd hl)⟩
  simp only [List.mem_cons, List.not_mem_nil, or_false]
  omega
 rintro σ H1 ⟨l, a, b, c, d, rfl, gl, lt, hb, F1, f1⟩
 refine seq_at (fun σ H' => ∃ M : Nat, σ = [some (.ref t), some (.int M), none, none, none, none, none] /\ 1 <= M /\ M <= 10 /\ GFeed H' t (N + 5) /\ Frm t H H') ?_ ?_ (by walk_at "sm")
 ·refine ⟨_, F1, by omega, d4, fun i H2 i0 i1 F2 f2 => ?_⟩
  obtain ⟨z, hz, z1, z2⟩ := atI_bd (ns := [a, b, c, d]) i0 i1 hb
  refine ⟨_, _, .inl (.of (by rw [f2 l lt]; exact gl)), hz, z.toNat, ?_, by omega, by omega, F2, f1.trans (frm_all f2)⟩
  rw [Int.toNat_of_nonneg (by omega)]
  rfl
 clear gl lt hb F1 f1
 rintro σ H1 ⟨M, rfl, M1, M10, F1, f1⟩
 refine seq_at (fun σ H' => ∃ W : Nat, σ = [some (.ref t), some (.int M), some (.int W), none, none, none, none] /\ 1 <= W /\ W <= 16 /\ GFeed H' t (N + 9) /\ Frm t H H') ?_ ?_ (by walk_at "sm")
 ·refine ⟨_, F1, by omega, d5, fun a H2 a0 a1 F2 f2 => ?_⟩
  refine ⟨_, F2, by omega, d4, fun b H3 b0 b1 F3 f3 => ?_⟩
  refine ⟨_, F3, by omega, d16, fun c H4 c0 c1 F4 f4 => ?_⟩
  refine ⟨small_le (show 3 <= 1000 by decide), fun l hl => ?_⟩
  have F5 := F4.upd (o := .lst [.int (1 + a), .int (2 + b), .int (1 + c)]) hl
  refine ⟨_, F5, by omega, d3, fun i H6 i0 i1 F6 f6 => ?_⟩
  obtain ⟨z, hz, z1, z2⟩ := atI_bd (ns := [1 + a, 2 + b, 1 + c]) (lo := 1) (hi := 16) i0 i1 (by
   simp only [List.mem_cons, List.not_mem_nil, or_false]
   omega)
  refine ⟨_, _, .inl (.of (by rw [f6 l (F4.neT hl)]; exact upd_same)), hz, z.toNat, ?_, by omega, by omega, F6.mono (by omega), f1.trans (((frm_all f2).trans ((frm_all f3).trans (frm_all f4))).trans ((Frm.upd hl).trans (frm_all f6)))⟩
  rw [Int.toNat_of_nonneg (by omega)]
  rfl
 clear F1 f1
 rintro σ H1 ⟨W, rfl, W1, W16, F1, f1⟩
 refine seq_at (fun σ H' => ∃ (l : Addr) (ns : List Int), σ = [some (.ref t), some (.int M), some (.int W), some (.ref l), none, none, none] /\ H' l = some (.lst (ns.map V.int)) /\ l ≠ t /\ 1 <= ns.length /\ ns.length <= 10 /\ (∀ x ∈ ns, x.natAbs <= 100000000000000000000) /\ GFeed H' t (N + 10) /\ Frm t H H') ?_ ?_ (by walk_at "sm")
 ·have bound : ∀ (x : V) (l : Addr) (ns : List Int) (H' : Hp), x = .ref l -> H' l = some (.lst (ns.map V.int)) -> l ≠ t -> 1 <= ns.length -> ns.length <= 10 -> (∀ x ∈ ns, x.natAbs <= 100000000000000000000) -> GFeed H' t (N + 10) -> Frm t H H' -> ∃ (l : Addr) (ns : List Int), [some (V.ref t), some (.int M), some (.int W), some x, none, none, none] = [some (.ref t), some (.int M), some (.int W), some (.ref l), none, none, none] /\ H' l = some (.lst (ns.map V.int)) /\ l ≠ t /\ 1 <= ns.length /\ ns.length <= 10 /\ (∀ x ∈ ns, x.natAbs <= 100000000000000000000) /\ GFeed H' t (N + 10) /\ Frm t H H' :=
   fun x l ns H' e h1 h2 h3 h4 h5 h6 h7 => ⟨l, ns, by rw [e], h1, h2, h3, h4, h5, h6, h7⟩
  refine ⟨small_le (show 2 <= 1000 by decide), fun p hp => ?_⟩
  have sa : Same H1 (upd H1 p (.lst [.int 0, .int 1])) := Same.upd hp
  have ga : upd H1 p (.lst [.int 0, .int 1]) p = some (.lst [.int 0, .int 1]) := upd_same
  generalize upd H1 p (.lst [.int 0, .int 1]) = Ha at *
  refine ⟨⟨by decide, by decide, by decide⟩, ?_⟩
  refine ⟨small_le (show 3 <= 1000 by decide), fun p2 hp2 => ?_⟩
  generalize hten : (10 : Int) ^ Int.toNat 20 = ten
  have sb : Same Ha (upd Ha p2 (.lst [.int (-7), .int ten, .int 3])) := Same.upd hp2
  have gb : upd Ha p2 (.lst [.int (-7), .int ten, .int 3]) p2 = some (.lst [.int (-7), .int ten, .int 3]) := upd_same
  generalize upd Ha p2 (.lst [.int (-7), .int ten, .int 3]) = Hb at *
  refine ⟨small_le (show 10 <= 1000 by decide), fun p3 hp3 => ?_⟩
  have sc : Same Hb (upd Hb p3 (.lst ([5, 1, 4, 2, 3, 0, 7, 6, 8, 9].map V.int))) := Same.upd hp3
  have gc : upd Hb p3 (.lst ([5, 1, 4, 2, 3, 0, 7, 6, 8, 9].map V.int)) p3 = some (.lst ([5, 1, 4, 2, 3, 0, 7, 6, 8, 9].map V.int)) := upd_same
  refine (show ∀ Hc, Same Hb Hc -> Hc p3 = some (.lst ([5, 1, 4, 2, 3, 0, 7, 6, 8, 9].map V.int)) -> _ from ?_) (upd Hb p3 (.lst ([5, 1, 4, 2, 3, 0, 7, 6, 8, 9].map V.int))) sc gc
  clear sc gc
  intro Hc sc gc
  refine ⟨small_le (show 3 <= 1000 by decide), fun p4 hp4 => ?_⟩
  have sd : Same Hc (upd Hc p4 (.lst [.ref p, .ref p2, .ref p3])) := Same.upd hp4
  have gd : upd Hc p4 (.lst [.ref p, .ref p2, .ref p3]) p4 = some (.lst [.ref p, .ref p2, .ref p3]) := upd_same
  have Fc := F1.same (sa.trans (sb.trans sc))
  have pt : p ≠ t := F1.neT hp
  have pt2 : p2 ≠ t := (F1.same sa).neT hp2
  have pt3 : p3 ≠ t := (F1.same (sa.trans sb)).neT hp3
  have pt4 : p4 ≠ t := Fc.neT hp4
  generalize upd Hc p4 (.lst [.ref p, .ref p2, .ref p3]) = Hd at *
  have S := sa.trans (sb.trans (sc.trans sd))
  refine ⟨_, F1.same S, by omega, d3, fun i H5 i0 i1 F5 f5 => ?_⟩
  obtain ⟨z, hz, hz3⟩ := three_at (a := V.ref p) (b := V.ref p2) (c := V.ref p3) i0 i1
  refine ⟨_, _, .inl (.of (by rw [f5 p4 pt4]; exact gd)), hz, ?_⟩
  have f : Frm t H H5 := f1.trans (Frm.trans (fun b o _ e => S b o e) (frm_all f5))
  rcases hz3 with e | e | e
  ·exact bound z p [0, 1] H5 e (by rw [f5 p pt]; exact (sb.trans (sc.trans sd)) _ _ ga) pt (by decide) (by decide) (by decide) F5 f
  ·refine bound z p2 [-7, ten, 3] H5 e (by rw [f5 p2 pt2]; exact (sc.trans sd) _ _ gb) pt2 (show 1 <= 3 by decide) (show 3 <= 10 by decide) ?_ F5 f
   rw [<- hten]
   decide
  ·exact bound z p3 [5, 1, 4, 2, 3, 0, 7, 6, 8, 9] H5 e (by rw [f5 p3 pt3]; exact sd _ _ gc) pt3 (by decide) (by decide) (by decide) F5 f
 rintro σ H2 ⟨l, ns, rfl, gl, lt, n1, n10, hn, F2, f2⟩
 refine seq_at (fun σ H' => ∃ (z : V) (k : Addr) (ls : List Int), σ = [some (.ref t), some (.int M), some (.int W), z, some (.ref k), none, none] /\ H' k = some (.lst (ls.map V.int)) /\ k ≠ t /\ ls.length = M /\ (∀ x ∈ ls, x.natAbs <= 100000000000000000000) /\ GFeed H' t (N + 10 + M) /\ Frm t H H') ?_ ?_ (by walk_at "sm")
 ·refine ⟨(M : Int), rfl, by omega, by omega, ?_⟩
  refine comp_range (fun i ys H' => GFeed H' t (N + 10 + i) /\ Frm t H H' /\ H' l = some (.lst (ns.map V.int)) /\ ∃ ls : List Int, ys = ls.map V.int /\ ls.length = i /\ ∀ x ∈ ls, x.natAbs <= 100000000000000000000) ⟨F2, f2, gl, [], rfl, rfl, nofun⟩ (fun i ys H' hi ⟨_, _, _, ls, e, el, _⟩ => by
   rw [e, List.length_map, el]; exact small1000 (by omega)) ?_ ?_
  ·rintro i ys H3 hi ⟨F3, f3, gl3, ls, rfl, el, hs⟩
   refine ⟨_, .inl ⟨_, .of gl3, rfl⟩, ?_⟩
   refine ⟨_, F3, by omega, okDiv_of (by rw [List.length_map]; omega) (by rw [List.length_map]; omega), fun d H4 x0 x1 F4 f4 => ?_⟩
   rw [List.length_map] at x1
   have hd : d.toNat < ns.length := by omega
   refine ⟨_, _, .inl (.of (by rw [f4 l lt]; exact gl3)), atI_of (n := d.toNat) (by omega) (by rw [List.getElem?_map, List.getElem?_eq_getElem hd]; rfl), F4.mono (by omega), f3.trans (frm_all f4), by rw [f4 l lt]; exact gl3, ls ++ [ns[d.toNat]], by rw [List.map_append]; rfl, by rw [List.length_append, el]; rfl, ?_⟩
   intro x hx
   rcases List.mem_append.mp hx with h | h
   ·exact hs x h
   ·rw [List.mem_singleton.mp h]; exact hn _ (List.getElem_mem hd)
  ·rintro ys H3 ⟨F3, f3, gl3, ls, rfl, el, hs⟩ k hk
   rw [Int.toNat_natCast] at el F3
   exact ⟨_, k, ls, rfl, upd_same, F3.neT hk, el, hs, F3.upd hk, f3.trans (Frm.upd hk)⟩
 clear F2 f2 gl
 rintro σ H2 ⟨z, k, ls, rfl, gk, kt, ll, hs, F2, f2⟩
 refine ⟨small_le (show 0 <= 1000 by decide), fun r hr' => ?_⟩
 have hrH : H r = none := F2.free f2 hr'
 have rt : r ≠ t := F2.neT hr'
 have rk : k ≠ r := fun e => by rw [e, hr'] at gk; cases gk
 dsimp only [gName]
 refine seq_at (fun σ H' => ∃ (z6 : Option V) (rs : List (List Bool)) (ys : List V), σ = [some (.ref t), some (.int M), some (.int W), z, some (.ref k), some (.ref r), z6] /\ H' k = some (.lst (ls.map V.int)) /\ H' r = some (.lst ys) /\ rs.length = W /\ (∀ b ∈ rs, b.length = M) /\ Reps K H' (tabsD rs) ys /\ GFeed H' t (N + 300) /\ Frm t H H') ?_ ?_ (by walk_at "sm")
 ·refine ⟨(W : Int), rfl, by omega, by omega, ?_⟩
  refine for_range (fun i σ H' => ∃ (z6 : Option V) (rs : List (List Bool)) (ys : List V), σ = [some (.ref t), some (.int M), some (.int W), z, some (.ref k), some (.ref r), z6] /\ H' k = some (.lst (ls.map V.int)) /\ H' r = some (.lst ys) /\ rs.length = i /\ (∀ b ∈ rs, b.length = M) /\ Reps K H' (tabsD rs) ys /\ GFeed H' t (N + 10 + M + M * i) /\ Frm t H H') ⟨none, [], [], rfl, by rw [upd_ne rk]; exact gk, upd_same, rfl, nofun, reps_nil, F2.upd hr', f2.trans (Frm.upd hr')⟩ ?_ ?_
  ·rintro i σ H3 hi ⟨z6, rs, ys, rfl, gk3, gr3, rl, hb, R3, F3, f3⟩
   have hMi : M * i <= 160 := Nat.le_trans (Nat.mul_le_mul M10 (show i <= 16 by omega)) (by decide)
   have hyl : ys.length = i := by rw [<- R3.length, tabsD_len, rl]
   refine ⟨.inl ⟨rfl, _, .of gr3⟩, ?_⟩
   refine ⟨(M : Int), rfl, by omega, by omega, ?_⟩
   refine comp_range (fun j zs H' => GFeed H' t (N + 10 + M + M * i + j) /\ Frm t H3 H' /\ ∃ bs : List Bool, zs = bs.map V.bl /\ bs.length = j) ⟨F3, Frm.refl, [], rfl, rfl⟩ (fun j zs H' hj ⟨_, _, bs, e, el⟩ => by
    rw [e, List.length_map, el]; exact small1000 (by omega)) ?_ ?_
   ·rintro j zs H4 hj ⟨F4, f4, bs, rfl, rfl⟩
    refine ⟨_, F4, by omega, okDiv_of (by decide) (by decide), fun d H5 _ _ F5 f5 => ?_⟩
    exact ⟨F5.mono (by omega), f4.trans (frm_all f5), bs ++ [_], by rw [List.map_append]; rfl, by rw [List.length_append]; rfl⟩
   ·rintro zs H4 ⟨F4, f4, bs, rfl, el⟩ k4 hk4
    rw [Int.toNat_natCast] at el F4
    refine ⟨_, .inl ⟨.of upd_same, fun p hp => ?_⟩⟩
    have s5 := (Same.upd (o := .lst (bs.map V.bl)) hk4).trans (Same.upd (o := .tup (bs.map V.bl)) hp)
    have g5 := upd_same (H := upd H4 k4 (.lst (bs.map V.bl))) (a := p) (o := .tup (bs.map V.bl))
    generalize upd (upd H4 k4 (.lst (bs.map V.bl))) p (.tup (bs.map V.bl)) = H5 at *
    have f35 : Frm t H3 H5 := f4.trans fun b o _ e => s5 b o e
    have gr5 : H5 r = some (.lst ys) := f35 _ _ rt gr3
    have R5 : Reps K H5 (tabsD (rs ++ [bs])) (ys ++ [.ref p]) := by
     have e : tabsD (rs ++ [bs]) = tabsD rs ++ [.tup (bs.map Dv.bl)] := by unfold tabsD; rw [List.map_append]; rfl
     rw [e]
     exact Reps.append (Reps.frm f35 F3.lst _ _ (tups_tabs _) R3) (reps_cons (rep_tup1 g5 (reps_bl bs)) reps_nil)
    refine ⟨_, gr5, small1000 (by omega), ?_⟩
    refine ⟨_, rs ++ [bs], _, rfl, by rw [upd_ne rk]; exact f35 _ _ kt gk3, upd_same, by rw [List.length_append, rl]; rfl, ?_, Reps.frm Frm.updT ⟨_, gr5⟩ _ _ (tups_tabs _) R5, ((F4.same s5).put rt gr5 (tabs_ref (Reps.frm f35 F3.lst _ _ (tups_tabs _) R3))).mono (by rw [Nat.mul_succ]; omega), frm_new (f3.trans f35) hrH⟩
    intro b hb'
    rcases List.mem_append.mp hb' with h | h
    ·exact hb b h
    ·rw [List.mem_singleton.mp h]; exact el
  ·rintro σ H3 ⟨z6, rs, ys, rfl, gk3, gr3, rl, hb, R3, F3, f3⟩
   rw [Int.toNat_natCast] at rl F3
   have hMi : M * W <= 160 := Nat.le_trans (Nat.mul_le_mul M10 W16) (by decide)
   exact ⟨z6, rs, ys, rfl, gk3, gr3, rl, hb, R3, F3.mono (by omega), f3⟩
 rintro σ H3 ⟨z6, rs, ys, rfl, gk3, gr3, rl, hb, R3, F3, f3⟩
 refine ⟨_, .inl ⟨.of gk3, fun p hp => ?_⟩⟩
 have s4 : Same H3 (upd H3 p (.tup (ls.map V.int))) := Same.upd hp
 have g4 : upd H3 p (.tup (ls.map V.int)) p = some (.tup (ls.map V.int)) := upd_same
 generalize upd H3 p (.tup (ls.map V.int)) = H4 at *
 refine ⟨_, .inl ⟨.of (s4 _ _ gr3), fun p4 hp4 => ?_⟩⟩
 refine ⟨small_le (show 2 <= 1000 by decide), fun p5 hp5 => ?_⟩
 have s5 := (Same.upd (o := .tup ys) hp4).trans (Same.upd (o := .tup [.ref p, .ref p4]) hp5)
 have S5 := s4.trans s5
 refine q ls rs _ _ ⟨by omega, by omega, by omega, by omega, fun r h => by rw [hb r h]; omega, hs⟩ ?_ (F3.same S5) (f3.trans fun b o _ e => S5 b o e)
 exact rep_tup1 upd_same (reps_cons (rep_tup1 (s5 _ _ g4) (reps_int1 ls)) (reps_cons (rep_tup1 (Same.upd hp5 _ _ upd_same) (Reps.same S5 _ _ R3)) reps_nil))
theorem gameD_gm (bs : List Bool) (m : Nat) (h : bs.length = 2 ^ m) (m1 : 1 <= m) (m4 : m <= 4) : ∃ ls rs, gameD bs m = gmD ls rs /\ Gm ls rs := by
 have h16 : 2 ^ m <= 16 := Nat.pow_le_pow_right (n := 2) (j := 4) (by decide) m4
 have h2 : 2 <= 2 ^ m := Nat.pow_le_pow_right (n := 2) (i := 1) (by decide) m1
 refine ⟨bs.map fun b => if b then 1 else 0, (List.range m).map (rowB m), ?_, ?_⟩
 ·unfold gameD gmD labD rowsD tabsD
  rw [List.map_map, List.map_map]
  rfl
 ·refine ⟨by rw [List.length_map]; omega, by rw [List.length_map]; omega, by rw [List.length_map, List.length_range]; omega, by rw [List.length_map, List.length_range]; omega, ?_, ?_⟩
  ·intro r hr
   obtain ⟨i, _, rfl⟩ := List.mem_map.mp hr
   rw [rowB_len, List.length_map, h]
  ·intro x hx
   obtain ⟨b, _, rfl⟩ := List.mem_map.mp hx
   cases b <;> decide
theorem ok_Zgame : FnOk P w K mg base CX0 4 T.f_Zgame T.d_Zgame ["_law_feed_here"] (sp_gnew K 500 800000000) := by
 have G_Zdraw := ok_Zdraw (P := P) (w := w) (base := base) T; have G_Ztable_game := ok_Ztable_game (P := P) (w := w) (base := base) T; have G_Zclass_game := ok_Zclass_game (P := P) (w := w) (base := base) T; have G_Zpicks := ok_Zpicks (P := P) (w := w) (base := base) T; have G_Zany_game := ok_Zany_game (P := P) (w := w) (base := base) T; have G_Ztable := ok_Ztable (P := P) (w := w) (base := base) T; have G_Zclass := ok_Zclass (P := P) (w := w) (base := base) T
 refine T.F_Zgame.ok sc_Zgame (fun vs H Q E h => by unfold sp_gnew at h; split at h <;> first | rfl | exact h.elim) (fun cdv A outer s H vs Q E hr h => ?_)
 have hu := hu60 hr
 have hr_Zdraw := hr.mono (show 1 <= _ by decide); have hr_Ztable_game := hr.mono (show 1 <= _ by decide); have hr_Zclass_game := hr.mono (show 1 <= _ by decide); have hr_Zpicks := hr.mono (show 2 <= _ by decide); have hr_Zany_game := hr.mono (show 2 <= _ by decide); have hr_Ztable := hr.mono (show 2 <= _ by decide); have hr_Zclass := hr.mono (show 3 <= _ by decide)
 unfold sp_gnew at h
 split at h
 rotate_left
 ·exact h.elim
 rename_i t
 obtain ⟨N, F, hN, q⟩ := h
 refine ⟨_, (@pss_cons _ _ _ _ _ (@ps_set _ _ 1 _ _ _ _ sc_Zgame.nd rfl (by right) (@pe_call _ _ _ _ _ _ _ _ _ _ _ _ _ _ _ _ G_Zdraw hr_Zdraw rfl T.m_Zdraw T.F_Zdraw.kp T.b_Zdraw .nil pass0 (@pa_cons _ _ _ _ _ (@vw _ 0 _ _ (by left)) (@pa1 _ _ _ (@pe_int _ _ _ _) (by rfl)) (by rfl)) (by decide) (by rfl) (by rfl)) (by rfl) (by symm)) (@pss_cons _ _ _ _ _ (@ps_if _ _ _ _ _ _ _ _ (@tu_cmp _ _ _ _ _ _ _ _ (kEq (K := K) hu) (@vw _ 1 _ _ (by left)) (@pe_int _ _ _ _) (by walk_at "n")) (@pss_one _ _ _ (@ps_ret _ _ _ _ (@pe_call _ _ _ _ _ _ _ _ _ _ _ _ _ _ _ _ G_Ztable_game hr_Ztable_game rfl T.m_Ztable_game T.F_Ztable_game.kp T.b_Ztable_game .nil pass0 (@pa1 _ _ _ (@pe_call _ _ _ _ _ _ _ _ _ _ _ _ _ _ _ _ G_Ztable hr_Ztable rfl T.m_Ztable T.F_Ztable.kp T.b_Ztable .nil pass0 (@pa_cons _ _ _ _ _ (@vw _ 0 _ _ (by left)) (@pa1 _ _ _ (@pe_op _ _ _ _ _ _ _ _ (kAdd (K := K)) (@pe_int _ _ _ _) (@pe_call _ _ _ _ _ _ _ _ _ _ _ _ _ _ _ _ G_Zdraw hr_Zdraw rfl T.m_Zdraw T.F_Zdraw.kp T.b_Zdraw .nil pass0 (@pa_cons _ _ _ _ _ (@vw _ 0 _ _ (by left)) (@pa1 _ _ _ (@pe_int _ _ _ _) (by rfl)) (by rfl)) (by decide) (by rfl) (by rfl))) (by rfl)) (by rfl)) (by decide) (by rfl) (by rfl)) (by rfl)) (by decide) (by rfl) (by rfl)))) (@pss_nil _)) (@pss_cons _ _ _ _ _ (@ps_if _ _ _ _ _ _ _ _ (@tu_cmp _ _ _ _ _ _ _ _ (kEq (K := K) hu) (@vw _ 1 _ _ (by left)) (@pe_int _ _ _ _) (by walk_at "n")) (@pss_one _ _ _ (@ps_ret _ _ _ _ (@pe_call _ _ _ _ _ _ _ _ _ _ _ _ _ _ _ _ G_Zclass_game hr_Zclass_game rfl T.m_Zclass_game T.F_Zclass_game.kp T.b_Zclass_game .nil pass0 (@pa1 _ _ _ (@pe_call _ _ _ _ _ _ _ _ _ _ _ _ _ _ _ _ G_Zclass hr_Zclass rfl T.m_Zclass T.F_Zclass.kp T.b_Zclass .nil pass0 (@pa_cons _ _ _ _ _ (@vw _ 0 _ _ (by left)) (@pa_cons _ _ _ _ _ (@pe_op _ _ _ _ _ _ _ _ (kAdd (K := K)) (@pe_int _ _ _ _) (@pe_call _ _ _ _ _ _ _ _ _ _ _ _ _ _ _ _ G_Zdraw hr_Zdraw rfl T.m_Zdraw T.F_Zdraw.kp T.b_Zdraw .nil pass0 (@pa_cons _ _ _ _ _ (@vw _ 0 _ _ (by left)) (@pa1 _ _ _ (@pe_int _ _ _ _) (by rfl)) (by rfl)) (by decide) (by rfl) (by rfl))) (@pa1 _ _ _ (@pe_op _ _ _ _ _ _ _ _ (kAdd (K := K)) (@pe_int _ _ _ _) (@pe_call _ _ _ _ _ _ _ _ _ _ _ _ _ _ _ _ G_Zdraw hr_Zdraw rfl T.m_Zdraw T.F_Zdraw.kp T.b_Zdraw .nil pass0 (@pa_cons _ _ _ _ _ (@vw _ 0 _ _ (by left)) (@pa1 _ _ _ (@pe_int _ _ _ _) (by rfl)) (by rfl)) (by decide) (by rfl) (by rfl))) (by rfl)) (by rfl)) (by rfl)) (by decide) (by rfl) (by rfl)) (by rfl)) (by decide) (by rfl) (by rfl)))) (@pss_nil _)) (@pss_one _ _ _ (@ps_ret _ _ _ _ (@pe_ifExp _ _ _ _ _ _ _ _ (@tu_cmp _ _ _ _ _ _ _ _ (kEq (K := K) hu) (@vw _ 1 _ _ (by left)) (@pe_int _ _ _ _) (by walk_at "n")) (@pe_call _ _ _ _ _ _ _ _ _ _ _ _ _ _ _ _ G_Zpicks hr_Zpicks rfl T.m_Zpicks T.F_Zpicks.kp T.b_Zpicks .nil pass0 (@pa1 _ _ _ (@vw _ 0 _ _ (by left)) (by rfl)) (by decide) (by rfl) (by rfl)) (@pe_call _ _ _ _ _ _ _ _ _ _ _ _ _ _ _ _ G_Zany_game hr_Zany_game rfl T.m_Zany_game T.F_Zany_game.kp T.b_Zany_game .nil pass0 (@pa1 _ _ _ (@vw _ 0 _ _ (by left)) (by rfl)) (by decide) (by rfl) (by rfl)))))))), ?_⟩
 have d4 : okDiv 4 := okDiv_of (by decide) (by decide)
 have d5 : okDiv 5 := okDiv_of (by decide) (by decide)
 have d6 : okDiv 6 := okDiv_of (by decide) (by decide)
 have d3 : okDiv 3 := okDiv_of (by decide) (by decide)
 refine ⟨_, F, by omega, d6, fun way H1 w0 w1 F1 f1 => ?_⟩
 dsimp only [gName]
 refine ite2 (fun e => ?_) (fun e => ?_)
 ·refine ⟨_, F1, by omega, d4, fun a H2 a0 a1 F2 f2 => ?_⟩
  obtain ⟨m, hm⟩ : ∃ m : Nat, 1 + a = m := ⟨(1 + a).toNat, by omega⟩
  rw [show mAdd K (V.int 1) (V.int a) H2 = fun Q => Q (.int (1 + a)) H2 from rfl]
  rw [hm]
  refine ⟨m, _, F2, by omega, rfl, by omega, by omega, fun bs p H3 hb hp g3 F3 f3 => ?_⟩
  refine ⟨bs, m, .of g3, hb, by omega, by omega, fun u H4 s4 r4 => ?_⟩
  obtain ⟨ls, rs, e, g⟩ := gameD_gm bs m hb (by omega) (by omega)
  rw [e] at r4
  exact q ls rs u H4 g r4 ((F3.same s4).mono (by omega)) ((frm_all f1).trans ((frm_all f2).trans (f3.trans fun b o _ e => s4 b o e)))
 dsimp only [tNext]
 refine ite2 (fun e => ?_) (fun e => ?_)
 ·refine ⟨_, F1, by omega, d3, fun a H2 a0 a1 F2 f2 => ?_⟩
  refine ⟨_, F2, by omega, d5, fun b H3 b0 b1 F3 f3 => ?_⟩
  obtain ⟨m, hm⟩ : ∃ m : Nat, 1 + a = m := ⟨(1 + a).toNat, by omega⟩
  obtain ⟨M, hM⟩ : ∃ M : Nat, 2 + b = M := ⟨(2 + b).toNat, by omega⟩
  refine ⟨m, M, _, F3, by omega, hm, by omega, by omega, hM, by omega, by omega, fun ts xs p H4 t2 tM tb hp g4 R4 F4 f4 => ?_⟩
  have h8 : 2 ^ m <= 8 := Nat.pow_le_pow_right (n := 2) (j := 3) (by decide) (by omega)
  refine ⟨ts, xs, 2 ^ m, g4, R4, t2, by omega, tb, Nat.two_pow_pos m, h8, fun ls rs u H5 g s5 r5 => ?_⟩
  exact q ls rs u H5 g r5 ((F4.same s5).mono (by omega)) ((frm_all f1).trans ((frm_all f2).trans ((frm_all f3).trans (f4.trans fun b o _ e => s5 b o e))))
 dsimp only [tNext]
 refine ite2 (fun e => ?_) (fun e => ?_)
 ·exact ⟨_, F1, by omega, fun ls rs u H2 g r2 F2 f2 => q ls rs u H2 g r2 (F2.mono (by omega)) ((frm_all f1).trans f2)⟩
 ·exact ⟨_, F1, by omega, fun ls rs u H2 g r2 F2 f2 => q ls rs u H2 g r2 (F2.mono (by omega)) ((frm_all f1).trans f2)⟩
def lefts (rb : List Bool) (ans : Bool) (ts : List Nat) : List Nat := ts.filter fun k => gB rb k == ans
theorem lefts_take {rb : List Bool} {ans : Bool} {ts : List Nat} {i k : Nat} (h : ts[i]? = some k) : lefts rb ans (ts.take (i + 1)) = lefts rb ans (ts.take i) ++ (if (gB rb k == ans) = true then [k] else []) := by
 unfold lefts
 rw [List.take_add_one, h, List.filter_append]
 congr 1
 simp only [Option.toList_some, List.filter_cons, List.filter_nil]
theorem lefts_len (rb : List Bool) (ans : Bool) (ts : List Nat) : (lefts rb ans ts).length <= ts.length := List.length_filter_le _ _
theorem rep_two_inv {K : W.Frag} {H : Hp} {d1 d2 : Dv} {v : V} (h : Rep K H (.tup [d1, d2]) v) : ∃ a x1 x2, v = .ref a /\ SqT K H a [x1, x2] /\ Rep K H d1 x1 /\ Rep K H d2 x2 := by
 obtain ⟨a, xs, rfl, hs, hx⟩ := rep_tup_inv h
 obtain ⟨x1, r1, rfl, hx1, hx'⟩ := (show ∃ x r, xs = x :: r /\ Rep K H d1 x /\ Reps K H [d2] r by unfold Reps at hx; exact hx)
 obtain ⟨x2, r2, rfl, hx2, hx''⟩ := (show ∃ x r, r1 = x :: r /\ Rep K H d2 x /\ Reps K H [] r by unfold Reps at hx'; exact hx')
 obtain rfl : r2 = [] := by unfold Reps at hx''; exact hx''
 exact ⟨a, x1, x2, rfl, hs, hx1, hx2⟩
theorem reps_bl_inv {K : W.Frag} {H : Hp} : ∀ {bs : List Bool} {xs : List V}, Reps K H (bs.map Dv.bl) xs -> xs = bs.map V.bl
 | [], xs, h => by unfold Reps at h; exact h
 | b :: bs, xs, h => by
  rw [List.map_cons] at h
  unfold Reps at h
  obtain ⟨x, r, rfl, h1, h2⟩ := h
  unfold Rep at h1
  rw [h1, reps_bl_inv h2]
  rfl
theorem reps_int_inv {K : W.Frag} {H : Hp} : ∀ {bs : List Int} {xs : List V}, Reps K H (bs.map Dv.int) xs -> xs = bs.map V.int
 | [], xs, h => by unfold Reps at h; exact h
 | b :: bs, xs, h => by
  rw [List.map_cons] at h
  unfold Reps at h
  obtain ⟨x, r, rfl, h1, h2⟩ := h
  unfold Rep at h1
  rw [h1, reps_int_inv h2]
  rfl
structure GmAt (K : W.Frag) (H : Hp) (ls : List Int) (rs : List (List Bool)) (a tl rl : Addr) (ps : List Addr) : Prop where
 two : SqT K H a [.ref tl, .ref rl]
 lab : SqT K H tl (ls.map V.int)
 rows : SqT K H rl (ps.map V.ref)
 len : ps.length = rs.length
 row : ∀ (i : Nat) (q : Addr) (r : List Bool), ps[i]? = some q -> rs[i]? = some r -> SqT K H q (r.map V.bl)
theorem reps_tabs {K : W.Frag} {H : Hp} : ∀ {rs : List (List Bool)} {xs : List V}, Reps K H (tabsD rs) xs -> ∃ ps : List Addr, xs = ps.map V.ref /\ ps.length = rs.length /\ ∀ (i : Nat) (q : Addr) (r : List Bool), ps[i]? = some q -> rs[i]? = some r -> SqT K H q (r.map V.bl)
 | [], xs, h => by
  have : xs = [] := by simpa [tabsD, Reps] using h
  exact ⟨[], this, rfl, fun i q r z => by simp at z⟩
 | r :: rs, xs, h => by
  have h' : Reps K H (Dv.tup (r.map Dv.bl) :: tabsD rs) xs := h
  unfold Reps at h'
  obtain ⟨x, ys, rfl, h1, h2⟩ := h'
  obtain ⟨a, zs, rfl, hs, hz⟩ := rep_tup_inv h1
  obtain rfl := reps_bl_inv hz
  obtain ⟨ps, rfl, hl, hr⟩ := reps_tabs h2
  refine ⟨a :: ps, rfl, by rw [List.length_cons, List.length_cons, hl], fun i q r' hi hr' => ?_⟩
  cases i with
  | zero => cases hi; cases hr'; exact hs
  | succ i => exact hr i q r' hi hr'
theorem gm_open {K : W.Frag} {H : Hp} {ls : List Int} {rs : List (List Bool)} {v : V} (h : Rep K H (gmD ls rs) v) : ∃ a tl rl ps, v = .ref a /\ GmAt K H ls rs a tl rl ps := by
 obtain ⟨a, x1, x2, rfl, hs, h1, h2⟩ := rep_two_inv h
 obtain ⟨tl, zs, rfl, hl, hz⟩ := rep_tup_inv h1
 obtain rfl := reps_int_inv hz
 obtain ⟨rl, ws, rfl, hr, hw⟩ := rep_tup_inv h2
 obtain ⟨ps, rfl, e, hp⟩ := reps_tabs hw
 exact ⟨a, tl, rl, ps, rfl, hs, hl, hr, e, hp⟩
theorem GmAt.same {K : W.Frag} {H H' : Hp} {ls : List Int} {rs : List (List Bool)} {a tl rl : Addr} {ps : List Addr} (g : GmAt K H ls rs a tl rl ps) (s : Same H H') : GmAt K H' ls rs a tl rl ps :=
 ⟨s.sqT g.two, s.sqT g.lab, s.sqT g.rows, g.len, fun i q r x y => s.sqT (g.row i q r x y)⟩
theorem GmAt.frm {K : W.Frag} {H H' : Hp} {ls : List Int} {rs : List (List Bool)} {a tl rl t : Addr} {ps : List Addr} {o : HO} (g : GmAt K H ls rs a tl rl ps) (f : Frm t H H') (ht : H t = some o) (no : NoTup o) : GmAt K H' ls rs a tl rl ps :=
 ⟨frm_sqT f ht no g.two, frm_sqT f ht no g.lab, frm_sqT f ht no g.rows, g.len, fun i q r x y => frm_sqT f ht no (g.row i q r x y)⟩
def colB (rs : List (List Bool)) (k : Nat) : List Bool := rs.map fun r => gB r k
def colsD (rs : List (List Bool)) (n : Nat) : List Dv := (List.range n).map fun k => .lst ((colB rs k).map Dv.bl)
def BadP (ls : List Int) (rs : List (List Bool)) (i j : Nat) : Prop := i < j /\ j < ls.length /\ labF ls i ≠ labF ls j /\ colB rs i = colB rs j
def FirstP (ls : List Int) (rs : List (List Bool)) (i j : Nat) : Prop := BadP ls rs i j /\ ∀ i' j', BadP ls rs i' j' -> i < i' \/ i = i' /\ j <= j'
def EndsP (ls : List Int) (rs : List (List Bool)) : Prop := ∀ i j, ¬ BadP ls rs i j
theorem eqDs_bl : ∀ as bs : List Bool, eqDs (as.map Dv.bl) (bs.map Dv.bl) = true -> as = bs
 | [], [], _ => rfl
 | [], u :: us, h => by simp [eqDs] at h
 | t :: ts, [], h => by simp [eqDs] at h
 | t :: ts, u :: us, h => by
  rw [List.map_cons, List.map_cons, eqDs, eqD, Bool.and_eq_true, beq_iff_eq] at h
  rw [h.1, eqDs_bl ts us h.2]
theorem eqD_col (a b : List Bool) : eqD (.lst (a.map Dv.bl)) (.lst (b.map Dv.bl)) = decide (a = b) := by
 rw [eqD_lst, Bool.eq_iff_iff, decide_eq_true_eq]
 exact ⟨eqDs_bl a b, fun e => by rw [e]; exact eqDs_refl _⟩
theorem colsD_succ (rs : List (List Bool)) (n : Nat) : colsD rs (n + 1) = colsD rs n ++ [.lst ((colB rs n).map Dv.bl)] := by unfold colsD; rw [List.range_succ, List.map_append]; rfl
theorem colsD_len (rs : List (List Bool)) (n : Nat) : (colsD rs n).length = n := by unfold colsD; rw [List.length_map, List.length_range]
theorem colsD_get (rs : List (List Bool)) {n k : Nat} (h : k < n) : (colsD rs n)[k]? = some (.lst ((colB rs k).map Dv.bl)) := by unfold colsD; rw [List.getElem?_map, List.getElem?_range h]; rfl
theorem lab_at {ls : List Int} {i : Nat} (h : i < ls.length) : atI (ls.map V.int) ((i : Nat) : Int) = some (.int (labF ls i)) := by
 refine atI_of rfl ?_
 rw [List.getElem?_map, List.getElem?_eq_getElem h]
 unfold labF
 rw [List.getD_eq_getElem?_getD, List.getElem?_eq_getElem h]
 rfl
def sp_pair (K : W.Frag) : Sp := fun vs H Q _ => match vs with
 | [v] => ∃ ls rs, Rep K H (gmD ls rs) v /\ Gm ls rs /\ (∀ H', Same H H' -> EndsP ls rs -> Q .non H') /\ ∀ (i j : Nat) t H', FirstP ls rs i j -> H t = none -> Same H H' -> H' t = some (.tup [.int (i : Nat), .int (j : Nat)]) -> Q (.ref t) H'
 | _ => False
theorem sp_pair_mono : SpMono (sp_pair K) := fun vs H Q Q' E h q => by
 unfold sp_pair at *
 split at q
 ·obtain ⟨ls, rs, h1, h2, q1, q2⟩ := q
  exact ⟨ls, rs, h1, h2, fun H' x y => h _ _ (q1 H' x y), fun i j t H' x1 x2 x3 x4 => h _ _ (q2 i j t H' x1 x2 x3 x4)⟩
 ·exact q.elim
theorem col_comp {K : W.Frag} {H : Hp} {ls : List Int} {rs : List (List Bool)} {a tl rl : Addr} {ps : List Addr} (g : GmAt K H ls rs a tl rl ps) (G : Gm ls rs) {k : Nat} (hk : k < ls.length) {j : Nat} {q : Addr} (hj : ps[j]? = some q) :
 ∃ r, rs[j]? = some r /\ SqT K H q (r.map V.bl) /\ atI (r.map V.bl) ((k : Nat) : Int) = some (.bl (gB r k)) := by
 have hj' : j < rs.length := by rw [<- g.len]; exact (List.getElem?_eq_some_iff.mp hj).1
 have er : rs[j]? = some rs[j] := List.getElem?_eq_getElem hj'
 exact ⟨rs[j], er, g.row j q _ hj er, gB_at (by rw [G.row _ (List.getElem_mem hj')]; exact hk)⟩
theorem ref_at {ps : List Addr} {k : Nat} {x : V} (h : (ps.map V.ref)[k]? = some x) : ∃ q, ps[k]? = some q /\ x = .ref q := by
 rw [List.getElem?_map] at h
 cases e : ps[k]? with
 | none => rw [e] at h; cases h
 | some q => rw [e] at h; cases h; exact ⟨q, rfl, rfl⟩
theorem ok_Zpair : FnOk P w K mg base CX0 1 T.f_Zpair T.d_Zpair ["_law_game_here"] (sp_pair K) := by
 refine T.F_Zpair.ok sc_Zpair (fun vs H Q E h => by unfold sp_pair at h; split at h <;> first | rfl | exact h.elim) (fun cdv A outer s H vs Q E hr h => ?_)
 have hu := hu60 hr
 unfold sp_pair at h
 split at h
 rotate_left
 ·exact h.elim
 rename_i v
 obtain ⟨ls, rs, hv, G, q1, q2⟩ := h
 obtain ⟨a, tl, rl, ps, rfl, g⟩ := gm_open hv
 have l16 := G.l16
 have r16 := G.r16
 refine ⟨_, (@pss_cons _ _ _ _ _ (@ps_compB _ _ _ _ _ _ _ (["_law_k", "_law_game_here"]) 1 [0] _ _ _ _ 1 _ _ _ rfl sc_Zpair.nd rfl rfl (@pi_range1 _ _ _ _ _ _ rfl T.z_range (@pa1 _ _ _ (@pe_callB _ _ _ _ _ _ _ _ _ (kLen (K := K)) rfl T.z_len (by rfl) (@pa1 _ _ _ (@kIx _ K _ _ _ _ _ (@vw _ 0 _ _ (by left)) (@pe_int _ _ _ _) (by intro _ _; rfl) (by rfl)) (by rfl)) (by decide) (by decide) (by rfl) (by rfl)) (by rfl)) (by rfl)) (by kernel_rfl) rfl rfl (by kernel_rfl) (fun c => @pg_name _ _ 0 _ (show (["_law_k", "_law_game_here"] : List Str).Nodup by decide +kernel) rfl (by right) (by symm)) (go_name (by decide)) (fun c => @pts_nil _) (fun c => (@pe_compB _ _ _ _ _ _ _ (["_law_row", "_law_k"]) 1 [0] _ _ _ _ rfl (@kSeq _ K _ _ _ (@kIx _ K _ _ _ _ _ (@vw _ 1 _ _ (by left)) (@pe_int _ _ _ _) (by intro _ _; rfl) (by rfl)) (by rfl)) (by kernel_rfl) rfl rfl (by kernel_rfl) (fun c => @pg_name _ _ 0 _ (show (["_law_row", "_law_k"] : List Str).Nodup by decide +kernel) rfl (by right) (by symm)) (go_name (by decide)) (fun c => @pts_nil _) (fun c => (@kIx _ K _ _ _ _ _ (@vw _ 0 _ _ (by left)) (@vw _ 1 _ _ (by left)) (by intro _ _; rfl) (by rfl))) (by intro _; rfl))) (by rfl) (by intro _; rfl)) (@pss_cons _ _ _ _ _ (@ps_for _ _ _ _ _ _ _ _ PassesOwn.never rfl (@pi_range1 _ _ _ _ _ _ rfl T.z_range (@pa1 _ _ _ (@pe_callB _ _ _ _ _ _ _ _ _ (kLen (K := K)) rfl T.z_len (by rfl) (@pa1 _ _ _ (@vw _ 1 _ _ (by left)) (by rfl)) (by decide) (by decide) (by rfl) (by rfl)) (by rfl)) (by rfl)) (@pg_name _ _ 2 _ sc_Zpair.nd rfl (by right) (by symm)) (@pss_one _ _ _ (@ps_for _ _ _ _ _ _ _ _ PassesOwn.never rfl (@pi_range2 _ _ _ _ _ _ _ rfl T.z_range (@pa_cons _ _ _ _ _ (@pe_op _ _ _ _ _ _ _ _ (kAdd (K := K)) (@vw _ 2 _ _ (by left)) (@pe_int _ _ _ _)) (@pa1 _ _ _ (@pe_callB _ _ _ _ _ _ _ _ _ (kLen (K := K)) rfl T.z_len (by rfl) (@pa1 _ _ _ (@vw _ 1 _ _ (by left)) (by rfl)) (by decide) (by decide) (by rfl) (by rfl)) (by rfl)) (by rfl)) (by rfl) (by rfl)) (@pg_name _ _ 3 _ sc_Zpair.nd rfl (by right) (by symm)) (@pss_one _ _ _ (@ps_if _ _ _ _ _ _ _ _ (PW.pt (@pw_and _ _ _ _ _ _ _ (@tu_cmp _ _ _ _ _ _ _ _ (kEq (K := K) hu) (@kIx _ K _ _ _ _ _ (@vw _ 1 _ _ (by left)) (@vw _ 2 _ _ (by left)) (by intro _ _; rfl) (by rfl)) (@kIx _ K _ _ _ _ _ (@vw _ 1 _ _ (by left)) (@vw _ 3 _ _ (by left)) (by intro _ _; rfl) (by rfl)) (by walk_at "n")) (@pw_and1 _ _ _ _ (@tu_cmp _ _ _ _ _ _ _ _ (kNe (K := K) hu) (@kIx _ K _ _ _ _ _ (@kIx _ K _ _ _ _ _ (@vw _ 0 _ _ (by left)) (@pe_int _ _ _ _) (by intro _ _; rfl) (by rfl)) (@vw _ 2 _ _ (by left)) (by intro _ _; rfl) (by rfl)) (@kIx _ K _ _ _ _ _ (@kIx _ K _ _ _ _ _ (@vw _ 0 _ _ (by left)) (@pe_int _ _ _ _) (by intro _ _; rfl) (by rfl)) (@vw _ 3 _ _ (by left)) (by intro _ _; rfl) (by rfl)) (by walk_at "n"))))) (@pss_one _ _ _ (@ps_ret _ _ _ _ (@pe_tup _ _ _ _ _ (@pa_cons _ _ _ _ _ (@vw _ 2 _ _ (by left)) (@pa1 _ _ _ (@vw _ 3 _ _ (by left)) (by rfl)) (by rfl))))) (@pss_nil _))) (by intro _; rfl))) (by intro _; rfl)) (@pss_one _ _ _ (@ps_ret _ _ _ _ (@pe_non _ _ _))))), ?_⟩
 refine seq_at (fun σ H' => ∃ (l : Addr) (xs : List V), σ = [some (.ref a), some (.ref l), none, none] /\ Same H H' /\ H' l = some (.lst xs) /\ Reps K H' (colsD rs ls.length) xs) ?_ ?_ (by walk_at "sm")
 ·refine ⟨_, .ref tl, .inr g.two, rfl, ls.length, .inr ⟨_, g.lab, by rw [List.length_map]⟩, (ls.length : Int), rfl, by omega, by omega, ?_⟩
  rw [Int.toNat_natCast]
  refine comp_range (fun k ys H' => Same H H' /\ Reps K H' (colsD rs k) ys) ⟨Same.refl _, reps_nil⟩ (fun k ys H' hk ⟨_, R⟩ => by rw [<- R.length, colsD_len]; exact small1000 (by omega)) ?_ ?_
  ·rintro k ys H1 hk ⟨s1, R1⟩
   have g1 := g.same s1
   have e0 : (0 : Int) + (k : Int) = ((k : Nat) : Int) := by omega
   rw [e0]
   refine ⟨_, .ref rl, .inr g1.two, rfl, .inr ⟨⟨_, g1.rows⟩, ?_⟩⟩
   refine comp_tup (xs := ps.map V.ref) (fun j zs H' => H' = H1 /\ zs = ((rs.take j).map fun r => gB r k).map V.bl) ⟨rfl, rfl⟩ (fun j zs H' _ ⟨e, _⟩ => by rw [e]; exact g1.rows) (fun j zs H' hj ⟨_, e⟩ => by
    rw [List.length_map, g1.len] at hj
    rw [e, List.length_map, List.length_map, List.length_take]; exact small1000 (by omega)) ?_ ?_
   ·rintro j x zs H' hx ⟨rfl, rfl⟩
    obtain ⟨b, hb, rfl⟩ := ref_at hx
    obtain ⟨r, er, hs, ha⟩ := col_comp g1 G hk hb
    refine ⟨_, .bl (gB r k), .inr hs, ha, rfl, ?_⟩
    rw [List.take_add_one, er, List.map_append, List.map_append]
    rfl
   ·rintro zs H' ⟨rfl, rfl⟩ l hl
    rw [List.length_map, g1.len, List.take_length]
    have s2 : Same H' (upd H' l (.lst ((rs.map fun r => gB r k).map V.bl))) := Same.upd hl
    refine ⟨s1.trans s2, ?_⟩
    rw [colsD_succ]
    exact Reps.append (Reps.same s2 _ _ R1) (reps_cons (by unfold Rep; exact ⟨l, _, rfl, .of upd_same, reps_bl _⟩) reps_nil)
  ·rintro ys H1 ⟨s1, R1⟩ l hl
   have s2 : Same H1 (upd H1 l (.lst ys)) := Same.upd hl
   exact ⟨l, ys, rfl, s1.trans s2, upd_same, Reps.same s2 _ _ R1⟩
 rintro σ H1 ⟨l, xs, rfl, s1, gl, R⟩
 have g1 := g.same s1
 refine seq_at (fun σ H' => H' = H1 /\ (∃ x y, σ = [some (.ref a), some (.ref l), x, y]) /\ EndsP ls rs) ?_ ?_ (by walk_at "sm")
 rotate_left
 ·rintro σ H' ⟨rfl, ⟨x, y, rfl⟩, he⟩
  exact q1 _ s1 he
 refine ⟨ls.length, .inl ⟨_, .of gl, by rw [<- R.length, colsD_len]⟩, (ls.length : Int), rfl, by omega, by omega, ?_⟩
 rw [Int.toNat_natCast]
 refine for_range (fun k σ H' => H' = H1 /\ (∃ x y, σ = [some (.ref a), some (.ref l), x, y]) /\ ∀ i' j', i' < k -> ¬ BadP ls rs i' j') ⟨rfl, ⟨none, none, rfl⟩, fun i' j' h => absurd h (Nat.not_lt_zero _)⟩ ?_ ?_
 rotate_left
 ·rintro σ H' ⟨rfl, hσ, h⟩
  exact ⟨rfl, hσ, fun i j hb => h i j (by have := hb.1; have := hb.2.1; omega) hb⟩
 rintro i σ H' hi ⟨rfl, ⟨x, y, rfl⟩, hno⟩
 have e0 : (0 : Int) + (i : Int) = ((i : Nat) : Int) := by omega
 rw [e0]
 refine ⟨ls.length, .inl ⟨_, .of gl, by rw [<- R.length, colsD_len]⟩, ((i : Int) + 1), (ls.length : Int), rfl, ⟨by omega, by omega, by omega, by omega⟩, ?_⟩
 obtain ⟨W, hW⟩ : ∃ W : Nat, ((ls.length : Int) - ((i : Int) + 1)).toNat = W := ⟨_, rfl⟩
 rw [hW]
 refine for_range (fun k σ H2 => H2 = H' /\ (∃ y, σ = [some (.ref a), some (.ref l), some (.int (i : Nat)), y]) /\ ∀ j', j' < i + 1 + k -> ¬ BadP ls rs i j') ⟨rfl, ⟨y, rfl⟩, fun j' h hb => by have := hb.1; omega⟩ ?_ ?_
 rotate_left
 ·rintro σ H2 ⟨rfl, ⟨y, rfl⟩, h⟩
  refine ⟨rfl, ⟨_, y, rfl⟩, fun i' j' hi' hb => ?_⟩
  rcases Nat.lt_or_ge i' i with z | z
  ·exact hno i' j' z hb
  ·have : i' = i := by omega
   subst this
   exact h j' (by have := hb.2.1; omega) hb
 rintro k σ H2 hk ⟨rfl, ⟨y, rfl⟩, hno2⟩
 have e1 : (i : Int) + 1 + (k : Int) = ((i + 1 + k : Nat) : Int) := by omega
 rw [e1]
 have hj : i + 1 + k < ls.length := by omega
 have next : ¬ BadP ls rs i (i + 1 + k) -> ∀ j', j' < i + 1 + (k + 1) -> ¬ BadP ls rs i j' := fun h j' hj' => by
  rcases Nat.lt_or_ge j' (i + 1 + k) with z | z
  ·exact hno2 j' z
  ·have : j' = i + 1 + k := by omega
   rw [this]; exact h
 obtain ⟨x1, hx1, r1⟩ := R.get (colsD_get rs hi)
 obtain ⟨x2, hx2, r2⟩ := R.get (colsD_get rs hj)
 refine ⟨_, x1, .inl (.of gl), atI_of rfl hx1, _, x2, .inl (.of gl), atI_of rfl hx2, ?_⟩
 have r1' := r1
 have r2' := r2
 unfold Rep at r1' r2'
 obtain ⟨b1, _, rfl, _⟩ := r1'
 obtain ⟨b2, _, rfl, _⟩ := r2'
 refine ⟨_, _, r1, r2, by unfold depD; rw [depDs_bls]; omega, ?_⟩
 rw [eqD_col, Bool.false_xor]
 refine ite2 (fun e2 => ?_) (fun e2 => ?_)
 ·refine ⟨_, .ref tl, .inr g1.two, rfl, _, .int (labF ls i), .inr g1.lab, lab_at hi, _, .ref tl, .inr g1.two, rfl, _, .int (labF ls (i + 1 + k)), .inr g1.lab, lab_at hj, ?_⟩
  refine ite2 (fun e => ?_) (fun e => ?_)
  ·have ne : labF ls i ≠ labF ls (i + 1 + k) := by simpa using e
   have hb : BadP ls rs i (i + 1 + k) := ⟨by omega, hj, ne, of_decide_eq_true e2⟩
   refine ⟨small_le (show 2 <= 1000 by decide), fun t ht => ?_⟩
   refine q2 i (i + 1 + k) t _ ⟨hb, fun i' j' hb' => ?_⟩ (s1.free ht) (s1.trans (Same.upd ht)) upd_same
   rcases Nat.lt_trichotomy i' i with z | z | z
   ·exact absurd hb' (hno i' j' z)
   ·subst z
    exact .inr ⟨rfl, Nat.le_of_not_lt fun w => hno2 j' w hb'⟩
   ·exact .inl z
  ·have eq : labF ls i = labF ls (i + 1 + k) := by simpa using e
   exact ⟨rfl, ⟨_, rfl⟩, next fun hb => hb.2.2.1 eq⟩
 ·exact ⟨rfl, ⟨_, rfl⟩, next fun hb => e2 (decide_eq_true hb.2.2.2)⟩
noncomputable def badS (ls : List Int) (rs : List (List Bool)) : Nat -> Bool := fun j => by classical exact decide (∃ i, BadP ls rs i j)
theorem badS_iff {ls : List Int} {rs : List (List Bool)} {j : Nat} : badS ls rs j = true ↔ ∃ i, BadP ls rs i j := by unfold badS; simp
theorem card_mono {N : Nat} {S S' : Nat -> Bool} (h : ∀ k, S' k = true -> S k = true) : card N S' <= card N S := by
 induction N with
 | zero => exact Nat.le_refl _
 | succ N ih =>
  rw [card_succ, card_succ]
  cases e : S' N with
  | false => simp; omega
  | true => rw [h N e]; simp; omega
theorem lab_set {ls : List Int} {j : Nat} (hj : j < ls.length) (x : Int) (k : Nat) : labF (ls.set j x) k = if k = j then x else labF ls k := by
 unfold labF
 rw [List.getD_eq_getElem?_getD, List.getD_eq_getElem?_getD, List.getElem?_set]
 by_cases e : j = k
 ·subst e; simp [hj]
 ·simp [e, Ne.symm e]
theorem bad_less {ls : List Int} {rs : List (List Bool)} {i j : Nat} (h : FirstP ls rs i j) : card ls.length (badS (ls.set j (labF ls i)) rs) < card ls.length (badS ls rs) := by
 obtain ⟨⟨h1, h2, h3, h4⟩, h5⟩ := h
 have hl := lab_set h2 (labF ls i)
 have len : (ls.set j (labF ls i)).length = ls.length := List.length_set
 have key : ∀ j', badS (ls.set j (labF ls i)) rs j' = true -> (badS ls rs j' && !(j' == j)) = true := by
  intro j' hb
  obtain ⟨i', b1, b2, b3, b4⟩ := badS_iff.mp hb
  rw [len] at b2
  rw [hl, hl] at b3
  have hne : j' ≠ j := by
   intro e
   subst e
   rw [if_neg (show i' ≠ j' by omega), if_pos rfl] at b3
   rcases Nat.lt_trichotomy i' i with z | z | z
   ·rcases h5 i' i ⟨z, by omega, b3, b4.trans h4.symm⟩ with y | y
    ·omega
    ·omega
   ·subst z; exact b3 rfl
   ·rcases h5 i i' ⟨z, by omega, Ne.symm b3, h4.trans b4.symm⟩ with y | y
    ·omega
    ·omega
  rw [if_neg hne] at b3
  have : badS ls rs j' = true := by
   by_cases e : i' = j
   ·subst e
    rw [if_pos rfl] at b3
    exact badS_iff.mpr ⟨i, by omega, b2, b3, h4.trans b4⟩
   ·rw [if_neg e] at b3
    exact badS_iff.mpr ⟨i', b1, b2, b3, b4⟩
  rw [this]
  simpa using hne
 have c1 := card_mono (N := ls.length) key
 have c2 := card_split ls.length (badS ls rs) (fun k => k == j)
 have c3 := card_pos (S := fun k => badS ls rs k && k == j) h2 (by rw [badS_iff.mpr ⟨i, h1, h2, h3, h4⟩]; simp)
 omega
theorem Gm.set {ls : List Int} {rs : List (List Bool)} (G : Gm ls rs) {i : Nat} (j : Nat) (hi : i < ls.length) : Gm (ls.set j (labF ls i)) rs := by
 refine ⟨by rw [List.length_set]; exact G.l1, by rw [List.length_set]; exact G.l16, G.r1, G.r16, fun r hr => by rw [List.length_set]; exact G.row r hr, fun x hx => ?_⟩
 rcases List.mem_or_eq_of_mem_set hx with h | h
 ·exact G.sm x h
 ·rw [h]
  unfold labF
  rw [List.getD_eq_getElem?_getD, List.getElem?_eq_getElem hi]
  exact G.sm _ (List.getElem_mem hi)
def sp_ending (K : W.Frag) : Sp := fun vs H Q _ => match vs with
 | [v] => ∃ ls rs, Rep K H (gmD ls rs) v /\ Gm ls rs /\ ∀ ls' u H', Same H H' -> Gm ls' rs -> EndsP ls' rs -> Rep K H' (gmD ls' rs) u -> Q u H'
 | _ => False
theorem sp_ending_mono : SpMono (sp_ending K) := fun vs H Q Q' E h q => by
 unfold sp_ending at *
 split at q
 ·revert q; repeat' first | exact h _ _ | exact newL_mono h | exact out_mono h | exact outT_mono h | walk_at "m"
 ·exact q.elim
theorem rep_gm {K : W.Frag} {H : Hp} {ls : List Int} {rs : List (List Bool)} {t tl : Addr} {x2 : V} (h : H t = some (.tup [.ref tl, x2])) (h1 : SqT K H tl (ls.map V.int)) (h2 : Rep K H (.tup (tabsD rs)) x2) : Rep K H (gmD ls rs) (.ref t) :=
 rep_tup2 (.of h) (reps_cons (rep_tup2 h1 (reps_ints ls)) (reps_cons h2 reps_nil))
theorem ok_Zending : FnOk P w K mg base CX0 2 T.f_Zending T.d_Zending ["_law_game_here"] (sp_ending K) := by
 have G_Zpair := ok_Zpair (P := P) (w := w) (base := base) T
 refine T.F_Zending.ok sc_Zending (fun vs H Q E h => by unfold sp_ending at h; split at h <;> first | rfl | exact h.elim) (fun cdv A outer s H vs Q E hr h => ?_)
 have hu := hu60 hr
 have hr_Zpair := hr.mono (show 1 <= _ by decide)
 unfold sp_ending at h
 split at h
 rotate_left
 ·exact h.elim
 rename_i v
 obtain ⟨ls, rs, hv, G, q⟩ := h
 obtain ⟨a, x1, x2, rfl, hs2, hx1, hx2⟩ := rep_two_inv hv
 obtain ⟨tl, zs, rfl, hlab, hz⟩ := rep_tup_inv hx1
 obtain rfl := reps_int_inv hz
 have mono1 : SpMono (sp_pair K) := sp_pair_mono
 refine ⟨_, (@pss_cons _ _ _ _ _ (@ps_set _ _ 1 _ _ _ _ sc_Zending.nd rfl (by right) (@pe_callTy _ _ _ _ _ _ _ _ _ (kList (K := K)) rfl T.z_list (by rfl) (@pa1 _ _ _ (@kIx _ K _ _ _ _ _ (@vw _ 0 _ _ (by left)) (@pe_int _ _ _ _) (by intro _ _; rfl) (by rfl)) (by rfl)) (by decide) (by decide) (by rfl) (by rfl)) (by rfl) (by symm)) (@pss_cons _ _ _ _ _ (@ps_set _ _ 2 _ _ _ _ sc_Zending.nd rfl (by right) (@pe_call _ _ _ _ _ _ _ _ _ _ _ _ _ _ _ _ G_Zpair hr_Zpair rfl T.m_Zpair T.F_Zpair.kp T.b_Zpair .nil pass0 (@pa1 _ _ _ (@vw _ 0 _ _ (by left)) (by rfl)) (by decide) (by rfl) (by rfl)) (by rfl) (by symm)) (@pss_cons _ _ _ _ _ (@ps_whileM _ _ _ _ _ _ PassesOwn.never (@tu_cmp _ _ _ _ _ _ _ _ om_isn (@vw _ 2 _ _ (by left)) (@pe_non _ _ _) (by walk_at "n")) (@pss_cons _ _ _ _ _ (@ps_asg _ _ _ _ _ _ (@kIx _ K _ _ _ _ _ (@vw _ 1 _ _ (by left)) (@kIx _ K _ _ _ _ _ (@vw _ 2 _ _ (by left)) (@pe_int _ _ _ _) (by intro _ _; rfl) (by rfl)) (by intro _ _; rfl) (by rfl)) (@pg_sub _ _ _ _ _ _ _ (@vw _ 1 _ _ (by left)) (@kIx _ K _ _ _ _ _ (@vw _ 2 _ _ (by left)) (@pe_int _ _ _ _) (by intro _ _; rfl) (by rfl)) set_any (by intro _; rfl)) (by rfl) (by rfl) (by rfl)) (@pss_one _ _ _ (@ps_set _ _ 2 _ _ _ _ sc_Zending.nd rfl (by right) (@pe_call _ _ _ _ _ _ _ _ _ _ _ _ _ _ _ _ G_Zpair hr_Zpair rfl T.m_Zpair T.F_Zpair.kp T.b_Zpair .nil pass0 (@pa1 _ _ _ (@pe_tup _ _ _ _ _ (@pa_cons _ _ _ _ _ (@pe_callTy _ _ _ _ _ _ _ _ _ (kTuple (K := K)) rfl T.z_tuple (by rfl) (@pa1 _ _ _ (@vw _ 1 _ _ (by left)) (by rfl)) (by decide) (by decide) (by rfl) (by rfl)) (@pa1 _ _ _ (@kIx _ K _ _ _ _ _ (@vw _ 0 _ _ (by left)) (@pe_int _ _ _ _) (by intro _ _; rfl) (by rfl)) (by rfl)) (by rfl))) (by rfl)) (by decide) (by rfl) (by rfl)) (by rfl) (by symm))))) (@pss_one _ _ _ (@ps_ret _ _ _ _ (@pe_tup _ _ _ _ _ (@pa_cons _ _ _ _ _ (@pe_callTy _ _ _ _ _ _ _ _ _ (kTuple (K := K)) rfl T.z_tuple (by rfl) (@pa1 _ _ _ (@vw _ 1 _ _ (by left)) (by rfl)) (by decide) (by decide) (by rfl) (by rfl)) (@pa1 _ _ _ (@kIx _ K _ _ _ _ _ (@vw _ 0 _ _ (by left)) (@pe_int _ _ _ _) (by intro _ _; rfl) (by rfl)) (by rfl)) (by rfl)))))))), ?_⟩
 refine ⟨_, .ref tl, .inr hs2, rfl, _, .inr hlab, fun l hl => ?_⟩
 dsimp only [gName]
 have s1 : Same H (upd H l (.lst (ls.map V.int))) := Same.upd hl
 have gl1 : upd H l (.lst (ls.map V.int)) l = some (.lst (ls.map V.int)) := upd_same
 generalize upd H l (.lst (ls.map V.int)) = H1 at *
 refine seq_at (fun σ H2 => ∃ u0, σ = [some (.ref a), some (.ref l), some u0] /\ Same H H2 /\ H2 l = some (.lst (ls.map V.int)) /\ ((u0 = .non /\ EndsP ls rs) \/ ∃ (i j : Nat) (t : Addr), u0 = .ref t /\ FirstP ls rs i j /\ H2 t = some (.tup [.int (i : Nat), .int (j : Nat)]))) ?_ ?_ (by walk_at "sm")
 ·exact ⟨ls, rs, Rep.same s1 _ _ hv, G, fun H3 s3 he => ⟨_, rfl, s1.trans s3, s3 _ _ gl1, .inl ⟨rfl, he⟩⟩, fun i j t H3 hf ht s3 gt => ⟨_, rfl, s1.trans s3, s3 _ _ gl1, .inr ⟨i, j, t, rfl, hf, gt⟩⟩⟩
 rintro σ H2 ⟨u0, rfl, s2, gl2, hu2⟩
 refine seq_at (fun σ H3 => ∃ (ls1 : List Int) (u : V), σ = [some (.ref a), some (.ref l), some u] /\ Same H H3 /\ H3 l = some (.lst (ls1.map V.int)) /\ Gm ls1 rs /\ EndsP ls1 rs) ?_ ?_ (by walk_at "sm")
 ·refine ⟨fun m σ H3 => ∃ (ls1 : List Int) (u : V), σ = [some (.ref a), some (.ref l), some u] /\ m = card ls.length (badS ls1 rs) /\ Same H H3 /\ H3 l = some (.lst (ls1.map V.int)) /\ ls1.length = ls.length /\ Gm ls1 rs /\
   ((u = .non /\ EndsP ls1 rs) \/ ∃ (i j : Nat) (t : Addr), u = .ref t /\ FirstP ls1 rs i j /\ H3 t = some (.tup [.int (i : Nat), .int (j : Nat)])), ⟨_, ls, u0, rfl, rfl, s2, gl2, rfl, G, hu2⟩, ?_⟩
  rintro m σ H3 ⟨ls1, u, rfl, rfl, s3, gl3, ll, G1, hu3⟩
  rcases hu3 with ⟨rfl, he⟩ | ⟨i, j, t, rfl, hf, gt⟩
  ·exact ⟨ls1, _, rfl, s3, gl3, G1, he⟩
  ·obtain ⟨⟨b1, b2, _⟩, _⟩ := id hf
   refine ⟨_, .int (i : Nat), .inr (.of gt), rfl, _, .int (labF ls1 i), .inl (.of gl3), lab_at (by omega), ?_⟩
   refine ⟨_, .int (j : Nat), .inr (.of gt), rfl, _, j, gl3, by rw [List.length_map]; unfold ixN; rw [if_pos (by omega), if_pos (by omega), Int.toNat_natCast], ?_⟩
   rw [<- List.map_set]
   have s4 : Same H (upd H3 l (.lst ((ls1.set j (labF ls1 i)).map V.int))) := fun b o e => by
    rw [upd_ne (ne_of_none e hl)]
    exact s3 _ _ e
   have gl4 : upd H3 l (.lst ((ls1.set j (labF ls1 i)).map V.int)) l = some (.lst ((ls1.set j (labF ls1 i)).map V.int)) := upd_same
   generalize upd H3 l (.lst ((ls1.set j (labF ls1 i)).map V.int)) = H4 at *
   refine ⟨_, .inl ⟨.of gl4, fun t1 ht1 => ?_⟩⟩
   have s5 : Same H4 (upd H4 t1 (.tup ((ls1.set j (labF ls1 i)).map V.int))) := Same.upd ht1
   have g5 : upd H4 t1 (.tup ((ls1.set j (labF ls1 i)).map V.int)) t1 = some (.tup ((ls1.set j (labF ls1 i)).map V.int)) := upd_same
   generalize upd H4 t1 (.tup ((ls1.set j (labF ls1 i)).map V.int)) = H5 at *
   refine ⟨_, x2, .inr ((s4.trans s5).sqT hs2), rfl, small_le (show 2 <= 1000 by decide), fun t2 ht2 => ?_⟩
   have s6 : Same H5 (upd H5 t2 (.tup [.ref t1, x2])) := Same.upd ht2
   have g6 : upd H5 t2 (.tup [.ref t1, x2]) t2 = some (.tup [.ref t1, x2]) := upd_same
   generalize upd H5 t2 (.tup [.ref t1, x2]) = H6 at *
   have S6 := s4.trans (s5.trans s6)
   have G2 := G1.set j (show i < ls1.length by omega)
   have less := bad_less hf
   rw [ll] at less
   exact ⟨_, rs, rep_gm g6 (.of (s6 _ _ g5)) (Rep.same S6 _ _ hx2), G2, fun H7 s7 he => ⟨_, less, _, _, rfl, rfl, S6.trans s7, s7 _ _ (s6 _ _ (s5 _ _ gl4)), by rw [List.length_set]; exact ll, G2, .inl ⟨rfl, he⟩⟩,
    fun i' j' t' H7 hf' ht' s7 gt' => ⟨_, less, _, _, rfl, rfl, S6.trans s7, s7 _ _ (s6 _ _ (s5 _ _ gl4)), by rw [List.length_set]; exact ll, G2, .inr ⟨i', j', t', rfl, hf', gt'⟩⟩⟩
 ·rintro σ H3 ⟨ls1, u, rfl, s3, gl3, G1, he⟩
  refine ⟨_, .inl ⟨.of gl3, fun t1 ht1 => ?_⟩⟩
  have s5 : Same H3 (upd H3 t1 (.tup (ls1.map V.int))) := Same.upd ht1
  have g5 : upd H3 t1 (.tup (ls1.map V.int)) t1 = some (.tup (ls1.map V.int)) := upd_same
  generalize upd H3 t1 (.tup (ls1.map V.int)) = H5 at *
  refine ⟨_, x2, .inr ((s3.trans s5).sqT hs2), rfl, small_le (show 2 <= 1000 by decide), fun t2 ht2 => ?_⟩
  have s6 : Same H5 (upd H5 t2 (.tup [.ref t1, x2])) := Same.upd ht2
  have g6 : upd H5 t2 (.tup [.ref t1, x2]) t2 = some (.tup [.ref t1, x2]) := upd_same
  generalize upd H5 t2 (.tup [.ref t1, x2]) = H6 at *
  have S6 := s3.trans (s5.trans s6)
  exact q ls1 _ H6 S6 G1 he (rep_gm g6 (.of (s6 _ _ g5)) (Rep.same S6 _ _ hx2))
theorem nodup_le {α : Type} [DecidableEq α] : ∀ {ds ls : List α}, ds.Nodup -> (∀ z ∈ ds, z ∈ ls) -> ds.length <= ls.length
 | [], ls, _, _ => Nat.zero_le _
 | z :: ds, ls, nd, h => by
  obtain ⟨h1, h2⟩ := List.nodup_cons.mp nd
  have hz : z ∈ ls := h z (by simp)
  have := nodup_le (ds := ds) (ls := ls.erase z) h2 (fun x hx => (List.mem_erase_of_ne (fun e : x = z => h1 (e ▸ hx))).mpr (h x (List.mem_cons_of_mem _ hx)))
  have e := List.length_erase_of_mem hz
  have : 0 < ls.length := List.length_pos_of_mem hz
  rw [List.length_cons]
  omega
theorem rise_len {ts : List Nat} {n : Nat} (h1 : ts.Pairwise (· < ·)) (h2 : ∀ t ∈ ts, t < n) : ts.length <= n := pigeon n ts (h1.imp fun h => Nat.ne_of_lt h) h2
theorem mem_lefts {rb : List Bool} {ans : Bool} {ts : List Nat} {k : Nat} : k ∈ lefts rb ans ts ↔ k ∈ ts /\ gB rb k = ans := by unfold lefts; rw [List.mem_filter, beq_iff_eq]
theorem lefts_yes (rb : List Bool) (ts : List Nat) : (fun k => decide (k ∈ lefts rb true ts)) = fun k => decide (k ∈ ts) && gB rb k := by
 funext k
 rw [Bool.eq_iff_iff, decide_eq_true_eq, mem_lefts, Bool.and_eq_true, decide_eq_true_eq]
theorem lefts_no (rb : List Bool) (ts : List Nat) : (fun k => decide (k ∈ lefts rb false ts)) = fun k => decide (k ∈ ts) && !gB rb k := by
 funext k
 rw [Bool.eq_iff_iff, decide_eq_true_eq, mem_lefts, Bool.and_eq_true, decide_eq_true_eq, Bool.not_eq_true']
theorem lefts_rise {rb : List Bool} {ans : Bool} {ts : List Nat} (h : ts.Pairwise (· < ·)) : (lefts rb ans ts).Pairwise (· < ·) := h.filter _
theorem card_things {N : Nat} {ts : List Nat} : card N (fun k => decide (k ∈ ts)) <= ts.length := by
 unfold card
 refine nodup_le (List.nodup_range.filter _) fun z hz => ?_
 exact of_decide_eq_true (List.mem_filter.mp hz).2
theorem ends_can {ls : List Int} {rs : List (List Bool)} (he : EndsP ls rs) : ∀ i j, i < ls.length -> j < ls.length -> (∀ y ∈ rs.map gB, y i = y j) -> labF ls i = labF ls j := by
 have key : ∀ i j, i < j -> j < ls.length -> (∀ y ∈ rs.map gB, y i = y j) -> labF ls i = labF ls j := fun i j hij hj h =>
  Classical.byContradiction fun ne => he i j ⟨hij, hj, ne, by
   unfold colB
   apply List.map_congr_left
   intro r hr
   exact h _ (List.mem_map.mpr ⟨r, hr, rfl⟩)⟩
 intro i j hi hj h
 rcases Nat.lt_trichotomy i j with z | z | z
 ·exact key i j z hj h
 ·rw [z]
 ·exact (key j i z hi fun y hy => (h y hy).symm).symm
theorem can_things {ls : List Int} {rs : List (List Bool)} (he : EndsP ls rs) {ts : List Nat} (hlt : ∀ t ∈ ts, t < ls.length) : Can (labF ls) (rs.map gB) (ts.length - 1) (fun k => decide (k ∈ ts)) := by
 refine can_ends (ends_can he) _ _ (fun k hk => hlt k (of_decide_eq_true hk)) ?_
 have := card_things (N := ls.length) (ts := ts)
 omega
theorem few_few {ls : List Int} {rs : List (List Bool)} (he : EndsP ls rs) {ts : List Nat} (hlt : ∀ t ∈ ts, t < ls.length) {m : Nat} (h : IsFew (labF ls) (rs.map gB) (fun k => decide (k ∈ ts)) m) : m <= ts.length - 1 := h.2 _ (can_things he hlt)
theorem one_labels {ls : List Int} {ts : List Nat} {ds : List Int} (nd : ds.Nodup) (hm : ∀ k, k ∈ ds ↔ k ∈ ts.map (labF ls)) : ds.length < 2 ↔ One (labF ls) (fun k => decide (k ∈ ts)) := by
 constructor
 ·intro h i j hi hj
  have a1 := (hm _).mpr (List.mem_map.mpr ⟨i, of_decide_eq_true hi, rfl⟩)
  have a2 := (hm _).mpr (List.mem_map.mpr ⟨j, of_decide_eq_true hj, rfl⟩)
  match ds, h with
  | [], _ => simp at a1
  | [x], _ => rw [List.mem_singleton.mp a1, List.mem_singleton.mp a2]
  | x :: y :: r, h => simp at h; omega
 ·intro o
  have := can_labels (Y := []) (n := 0) ds o nd fun d hd => by
   obtain ⟨k, hk, e⟩ := List.mem_map.mp ((hm d).mp hd)
   exact ⟨k, decide_eq_true hk, e⟩
  simp at this
  omega
theorem rise_ext : ∀ (l m : List Nat), l.Pairwise (· < ·) -> m.Pairwise (· < ·) -> (∀ k, k ∈ l ↔ k ∈ m) -> l = m
 | [], [], _, _, _ => rfl
 | [], b :: m, _, _, h => absurd ((h b).mpr (by simp)) (by simp)
 | a :: l, [], _, _, h => absurd ((h a).mp (by simp)) (by simp)
 | a :: l, b :: m, h1, h2, h => by
  obtain ⟨p1, p2⟩ := List.pairwise_cons.mp h1
  obtain ⟨q1, q2⟩ := List.pairwise_cons.mp h2
  have e : a = b := by
   rcases List.mem_cons.mp ((h a).mp (by simp)) with x | x
   ·exact x
   ·rcases List.mem_cons.mp ((h b).mpr (by simp)) with y | y
    ·exact y.symm
    ·have := q1 a x
     have := p1 b y
     omega
  subst e
  rw [rise_ext l m p2 q2 fun k => ?_]
  constructor
  ·intro hk
   rcases List.mem_cons.mp ((h k).mp (List.mem_cons_of_mem _ hk)) with x | x
   ·have := p1 k hk; omega
   ·exact x
  ·intro hk
   rcases List.mem_cons.mp ((h k).mpr (List.mem_cons_of_mem _ hk)) with x | x
   ·have := q1 k hk; omega
   ·exact x
def keyT (ts : List Nat) : List Key := ts.map fun t => Sum.inl ((t : Nat) : Int)
theorem keyT_V (ts : List Nat) : (keyT ts).map kV = iL ts := by unfold keyT iL; rw [List.map_map]; rfl
structure NMemo (ls : List Int) (rs : List (List Bool)) (kvs : List (List Key × V)) : Prop where
 nd : (kvs.map (·.1)).Nodup
 ok : ∀ e ∈ kvs, ∃ (ts : List Nat) (m : Nat), e = (keyT ts, V.int (m : Int)) /\ ts.Pairwise (· < ·) /\ (∀ t ∈ ts, t < ls.length) /\ IsFew (labF ls) (rs.map gB) (fun k => decide (k ∈ ts)) m
theorem val_memT {kvs : List (List Key × V)} {k : List Key} {v : V} (h : valV kvs k = some v) : (k, v) ∈ kvs := by
 unfold valV at h
 cases e : kvs.find? fun kv => decide (kv.1 = k) with
 | none => rw [e] at h; cases h
 | some x =>
  rw [e] at h
  have h1 := List.find?_some e
  have h2 := List.mem_of_find?_eq_some e
  cases h
  have : x.1 = k := of_decide_eq_true h1
  rw [<- this]
  exact h2
theorem keyT_inj {ts us : List Nat} (h : keyT ts = keyT us) : ts = us := by
 have := congrArg (List.map fun k : Key => match k with | Sum.inl z => z.toNat | Sum.inr _ => 0) h
 unfold keyT at this
 rw [List.map_map, List.map_map] at this
 have e : ((fun k : Key => match k with | Sum.inl z => z.toNat | Sum.inr _ => 0) ∘ fun t : Nat => (Sum.inl ((t : Nat) : Int) : Key)) = id := by funext t; exact Int.toNat_natCast t
 rw [e, List.map_id, List.map_id] at this
 exact this
theorem NMemo.get {ls : List Int} {rs : List (List Bool)} {kvs : List (List Key × V)} (h : NMemo ls rs kvs) {ts : List Nat} {v : V} (e : valV kvs (keyT ts) = some v) : ∃ m : Nat, v = .int m /\ IsFew (labF ls) (rs.map gB) (fun k => decide (k ∈ ts)) m := by
 obtain ⟨us, m, ee, _, _, hf⟩ := h.ok _ (val_memT e)
 have e1 : keyT ts = keyT us := congrArg Prod.fst ee
 have e2 : v = V.int m := congrArg Prod.snd ee
 have := keyT_inj e1
 subst this
 exact ⟨m, e2, hf⟩
theorem NMemo.put {ls : List Int} {rs : List (List Bool)} {kvs : List (List Key × V)} (h : NMemo ls rs kvs) {ts : List Nat} {m : Nat} (h1 : ts.Pairwise (· < ·)) (h2 : ∀ t ∈ ts, t < ls.length) (hf : IsFew (labF ls) (rs.map gB) (fun k => decide (k ∈ ts)) m) : NMemo ls rs (putK kvs (keyT ts) (V.int m)) := by
 unfold putK
 split
 ·refine ⟨?_, ?_⟩
  ·have e : (kvs.map (fun kv => if kv.1 = keyT ts then (kv.1, V.int m) else kv)).map (·.1) = kvs.map (·.1) := by
    rw [List.map_map]
    apply List.map_congr_left
    intro a _
    simp only [Function.comp]
    split <;> rfl
   rw [e]
   exact h.nd
  ·intro e he
   obtain ⟨a, ha, rfl⟩ := List.mem_map.mp he
   split
   ·rename_i q
    exact ⟨ts, m, by rw [q], h1, h2, hf⟩
   ·exact h.ok a ha
 ·rename_i z
  refine ⟨?_, ?_⟩
  ·rw [List.map_append, List.nodup_append]
   refine ⟨h.nd, by simp, ?_⟩
   intro a ha b hb q
   have hb' : b = keyT ts := by simpa using hb
   obtain ⟨x, hx, rfl⟩ := List.mem_map.mp ha
   exact z (List.any_eq_true.mpr ⟨x, hx, decide_eq_true (q.trans hb')⟩)
  ·intro e he
   rcases List.mem_append.mp he with q | q
   ·exact h.ok e q
   ·rw [List.mem_singleton] at q
    exact ⟨ts, m, q, h1, h2, hf⟩
def keyM (k : List Key) : Nat := msk (k.map fun x => match x with | Sum.inl z => z.toNat | Sum.inr _ => 0)
theorem keyM_T (ts : List Nat) : keyM (keyT ts) = msk ts := by
 unfold keyM keyT
 rw [List.map_map]
 have e : ((fun k : Key => match k with | Sum.inl z => z.toNat | Sum.inr _ => 0) ∘ fun t : Nat => (Sum.inl ((t : Nat) : Int) : Key)) = id := by funext t; exact Int.toNat_natCast t
 rw [e, List.map_id]
theorem NMemo.len {ls : List Int} {rs : List (List Bool)} {kvs : List (List Key × V)} (h : NMemo ls rs kvs) (h16 : ls.length <= 16) : kvs.length < 2 ^ 24 := by
 have hl : kvs.length <= 2 ^ ls.length := by
  have e : (kvs.map fun e => keyM e.1).length = kvs.length := List.length_map ..
  rw [<- e]
  apply pigeon
  ·refine List.pairwise_map.mpr ?_
   have nd := List.pairwise_map.mp h.nd
   refine List.Pairwise.imp_of_mem ?_ nd
   intro a b ha hb ne q
   obtain ⟨ts, m, ea, r1, b1, _⟩ := h.ok a ha
   obtain ⟨us, m', eb, r2, b2, _⟩ := h.ok b hb
   subst ea eb
   apply ne
   rw [keyM_T, keyM_T] at q
   have x1 := (msk_rise r1 b1).2
   have x2 := (msk_rise r2 b2).2
   have : ts = us := rise_ext ts us r1 r2 fun k => by
    have := x1 k
    rw [q, x2 k] at this
    exact ⟨fun z => of_decide_eq_true (this.trans (decide_eq_true z)), fun z => of_decide_eq_true (this.symm.trans (decide_eq_true z))⟩
   rw [this]
  ·intro x hx
   obtain ⟨a, ha, rfl⟩ := List.mem_map.mp hx
   obtain ⟨ts, m, ea, r1, b1, _⟩ := h.ok a ha
   subst ea
   rw [keyM_T]
   exact (msk_rise r1 b1).1
 have : 2 ^ ls.length <= 2 ^ 16 := Nat.pow_le_pow_right (by decide) h16
 omega
theorem need_min {L : Nat -> Int} {Y : List (Nat -> Bool)} {S : Nat -> Bool} {F least : Nat} (ho : ¬ One L S) (hF : IsFew L Y S F) (h1 : F <= least)
 (h2 : ∀ y ∈ Y, Parts S y -> ∃ b c, IsFew L Y (fun k => S k && y k) b /\ IsFew L Y (fun k => S k && !y k) c /\ least <= 1 + max b c) : IsFew L Y S least := by
 have : least = F := by
  obtain ⟨hc, hmin⟩ := hF
  cases F with
  | zero => exact absurd hc ho
  | succ n =>
   rcases hc with o | ⟨y, hy, p, q⟩
   ·exact absurd o ho
   ·by_cases h : Parts S y
    ·obtain ⟨b, c, hb, hc', hle⟩ := h2 y hy h
     have := hb.2 _ p
     have := hc'.2 _ q
     omega
    ·rcases not_parts h with z | z
     ·have := hmin n (can_sub z p); omega
     ·have := hmin n (can_sub z q); omega
 rw [this]
 exact hF
theorem reps_tabs_close {K : W.Frag} {H : Hp} : ∀ {rs : List (List Bool)} {ps : List Addr}, ps.length = rs.length -> (∀ (i : Nat) (q : Addr) (r : List Bool), ps[i]? = some q -> rs[i]? = some r -> SqT K H q (r.map V.bl)) -> Reps K H (tabsD rs) (ps.map V.ref)
 | [], [], _, _ => reps_nil
 | [], _ :: _, h, _ => by simp at h
 | _ :: _, [], h, _ => by simp at h
 | r :: rs, q :: ps, h, hr => reps_cons (rep_tup2 (hr 0 q r rfl rfl) (reps_bl r)) (reps_tabs_close (by simpa using h) fun i q' r' a b => hr (i + 1) q' r' a b)
theorem gm_close {K : W.Frag} {H : Hp} {ls : List Int} {rs : List (List Bool)} {a tl rl : Addr} {ps : List Addr} (g : GmAt K H ls rs a tl rl ps) : Rep K H (gmD ls rs) (.ref a) :=
 rep_tup2 g.two (reps_cons (rep_tup2 g.lab (reps_ints ls)) (reps_cons (rep_tup2 g.rows (reps_tabs_close g.len g.row)) reps_nil))
def sp_sides (K : W.Frag) : Sp := fun vs H Q _ => match vs with
 | [v, .ref p, .int z] => ∃ ls rs ts j r, Rep K H (gmD ls rs) v /\ Gm ls rs /\ SqT K H p (iL ts) /\ ts.length <= 100 /\ (∀ t ∈ ts, t < ls.length) /\ z = (j : Nat) /\ rs[j]? = some r /\ ∀ l pn py H', H l = none -> Same H H' -> H' l = some (.lst [.ref pn, .ref py]) -> H' pn = some (.tup (iL (lefts r false ts))) -> H' py = some (.tup (iL (lefts r true ts))) -> Q (.ref l) H'
 | _ => False
theorem sp_sides_mono : SpMono (sp_sides K) := fun vs H Q Q' E h q => by
 unfold sp_sides at *
 split at q
 ·revert q; repeat' first | exact h _ _ | exact newL_mono h | exact out_mono h | exact outT_mono h | walk_at "m"
 ·exact q.elim
theorem ok_Zsides : FnOk P w K mg base CX0 1 T.f_Zsides T.d_Zsides ["_law_game_here", "_law_things", "_law_question"] (sp_sides K) := by
 refine T.F_Zsides.ok sc_Zsides (fun vs H Q E h => by unfold sp_sides at h; split at h <;> first | rfl | exact h.elim) (fun cdv A outer s H vs Q E hr h => ?_)
 have hu := hu60 hr
 unfold sp_sides at h
 split at h
 rotate_left
 ·exact h.elim
 rename_i v p z
 obtain ⟨ls, rs, ts, j, r, hv, G, hp, hl, hlt, e1, hj, q⟩ := h
 subst e1
 obtain ⟨a, tl, rl, ps, rfl, g⟩ := gm_open hv
 have hj' : j < rs.length := (List.getElem?_eq_some_iff.mp hj).1
 obtain ⟨b, hb⟩ : ∃ b, ps[j]? = some b := ⟨_, List.getElem?_eq_getElem (by rw [g.len]; exact hj')⟩
 have hrow := g.row j b r hb hj
 have hrl : r.length = ls.length := G.row r (List.mem_of_getElem? hj)
 refine ⟨_, (@pss_cons _ _ _ _ _ (@ps_set _ _ 3 _ _ _ _ sc_Zsides.nd rfl (by right) (@kIx _ K _ _ _ _ _ (@kIx _ K _ _ _ _ _ (@vw _ 0 _ _ (by left)) (@pe_int _ _ _ _) (by intro _ _; rfl) (by rfl)) (@vw _ 2 _ _ (by left)) (by intro _ _; rfl) (by rfl)) (by rfl) (by symm)) (@pss_one _ _ _ (@ps_ret _ _ _ _ (@pe_compB _ _ _ _ _ _ _ (["_law_answer", "_law_things", "_law_row"]) 1 ([1, 3]) _ _ _ _ rfl (@kSeq _ K _ _ _ (@pe_tup _ _ _ _ _ (@pa_cons _ _ _ _ _ (@pe_bl _ _ _ _) (@pa1 _ _ _ (@pe_bl _ _ _ _) (by rfl)) (by rfl))) (by rfl)) (by kernel_rfl) rfl rfl (by kernel_rfl) (fun c => @pg_name _ _ 0 _ (show (["_law_answer", "_law_things", "_law_row"] : List Str).Nodup by decide +kernel) rfl (by right) (by symm)) (go_name (by decide)) (fun c => @pts_nil _) (fun c => (@pe_callTy _ _ _ _ _ _ _ _ _ (kTuple (K := K)) rfl T.z_tuple (by rfl) (@pa1 _ _ _ (@pe_compB _ _ _ _ _ _ _ (["_law_k", "_law_row", "_law_answer"]) 1 ([2, 0]) _ _ _ _ rfl (@kSeq _ K _ _ _ (@vw _ 1 _ _ (by left)) (by rfl)) (by kernel_rfl) rfl rfl (by kernel_rfl) (fun c => @pg_name _ _ 0 _ (show (["_law_k", "_law_row", "_law_answer"] : List Str).Nodup by decide +kernel) rfl (by right) (by symm)) (go_name (by decide)) (fun c => @pts_one _ _ _ (@tu_cmp _ _ _ _ _ _ _ _ (kEq (K := K) hu) (@kIx _ K _ _ _ _ _ (@vw _ 1 _ _ (by left)) (@vw _ 0 _ _ (by left)) (by intro _ _; rfl) (by rfl)) (@vw _ 2 _ _ (by left)) (by walk_at "n"))) (fun c => (@vw _ 0 _ _ (by left))) (by intro _; rfl)) (by rfl)) (by decide) (by decide) (by rfl) (by rfl))) (by intro _; rfl))))), ?_⟩
 refine ⟨_, .ref rl, .inr g.two, rfl, _, .ref b, .inr g.rows, atI_of rfl (by rw [List.getElem?_map, hb]; rfl), ?_⟩
 dsimp only [gName]
 refine ⟨small_le (show 2 <= 1000 by decide), fun t ht => .inr ⟨⟨_, .of upd_same⟩, ?_⟩⟩
 have s1 : Same H (upd H t (.tup [.bl false, .bl true])) := Same.upd ht
 have gt1 : upd H t (.tup [.bl false, .bl true]) t = some (.tup [.bl false, .bl true]) := upd_same
 generalize upd H t (.tup [.bl false, .bl true]) = H1 at *
 refine comp_tup (xs := [.bl false, .bl true]) (fun k zs H' => Same H1 H' /\ ∃ qs : List Addr, zs = qs.map V.ref /\ qs.length = k /\ ∀ (i : Nat) (c : Addr), qs[i]? = some c -> H' c = some (.tup (iL (lefts r (i == 1) ts)))) ⟨Same.refl _, [], rfl, rfl, fun i c hc => by simp at hc⟩ (fun k zs H' _ ⟨s, _⟩ => s.sqT (.of gt1)) (fun k zs H' hk ⟨_, qs, e, hq, _⟩ => by
  rw [e, List.length_map, hq]; exact small1000 (by simp at hk; omega)) ?_ ?_
 ·rintro k x zs H2 hx ⟨s2, qs, rfl, hq, hall⟩
  obtain ⟨ans, rfl, ea⟩ : ∃ ans : Bool, x = .bl ans /\ ans = (k == 1) := by
   match k, hx with
   | 0, hx => cases hx; exact ⟨false, rfl, rfl⟩
   | 1, hx => cases hx; exact ⟨true, rfl, rfl⟩
   | k + 2, hx => simp at hx
  have S2 := s1.trans s2
  refine .inr ⟨⟨_, S2.sqT hp⟩, ?_⟩
  refine comp_tup (xs := iL ts) (fun k ys H' => H' = H2 /\ ys = iL (lefts r ans (ts.take k))) ⟨rfl, rfl⟩ (fun k ys H' _ ⟨e, _⟩ => by rw [e]; exact S2.sqT hp) (fun k ys H' hk ⟨_, e⟩ => by
   have := lefts_len r ans (ts.take k)
   rw [List.length_take] at this
   rw [e, iL_len]; exact small1000 (by omega)) ?_ ?_
  ·rintro k' x ys H' hx ⟨rfl, rfl⟩
   obtain ⟨t, ht, hmem, rfl⟩ := iL_at hx
   refine ⟨_, .bl (gB r t), .inr (S2.sqT hrow), gB_at (by rw [hrl]; exact hlt t hmem), ?_⟩
   rw [lefts_take ht, iL_app]
   refine ite2 (fun e => ?_) (fun e => ?_)
   ·have e' : (gB r t == ans) = true := by rw [<- Bool.false_xor (gB r t == ans)]; exact e
    rw [if_pos e']
    exact ⟨rfl, rfl⟩
   ·have e' : ¬ (gB r t == ans) = true := by rw [<- Bool.false_xor (gB r t == ans)]; exact e
    rw [if_neg e']
    exact ⟨rfl, by show _ = _ ++ []; rw [List.append_nil]⟩
  ·rintro ys H' ⟨rfl, rfl⟩ l hl2
   rw [List.take_of_length_le (by rw [iL_len]; exact Nat.le_refl _)]
   refine ⟨_, .inl ⟨.of upd_same, fun c hc => ?_⟩⟩
   have s3 := (Same.upd (o := .lst (iL (lefts r ans ts))) hl2).trans (Same.upd (o := .tup (iL (lefts r ans ts))) hc)
   refine ⟨s2.trans s3, qs ++ [c], by rw [List.map_append]; rfl, by rw [List.length_append, hq]; rfl, fun i d hd => ?_⟩
   rcases Nat.lt_trichotomy i qs.length with z | z | z
   ·rw [List.getElem?_append_left z] at hd
    exact s3 _ _ (hall i d hd)
   ·subst z
    rw [List.getElem?_append_right (Nat.le_refl _), Nat.sub_self] at hd
    cases hd
    rw [hq, <- ea]
    exact upd_same
   ·rw [List.getElem?_append_right (Nat.le_of_lt z), List.getElem?_eq_none (by simp; omega)] at hd
    cases hd
 ·rintro zs H' ⟨s2, qs, rfl, hq, hall⟩ l hl'
  match qs, hq, hall with
  | [b0, b1], _, hall =>
  have s3 : Same H' (upd H' l (.lst ([b0, b1].map V.ref))) := Same.upd hl'
  exact q l b0 b1 _ ((s1.trans s2).free hl') (s1.trans (s2.trans s3)) upd_same (s3 _ _ (hall 0 b0 rfl)) (s3 _ _ (hall 1 b1 rfl))
def sp_need (K : W.Frag) (c : Nat) : Sp := fun vs H Q _ => match vs with
 | [v, .ref p, .ref d] => ∃ ls rs ts kvs, Rep K H (gmD ls rs) v /\ Gm ls rs /\ EndsP ls rs /\ H p = some (.tup (iL ts)) /\ ts.Pairwise (· < ·) /\ (∀ t ∈ ts, t < ls.length) /\ ts.length < c /\ H d = some (.dT kvs) /\ NMemo ls rs kvs /\ ∀ (m : Nat) (kvs' : List (List Key × V)) H', IsFew (labF ls) (rs.map gB) (fun k => decide (k ∈ ts)) m -> Frm d H H' -> H' d = some (.dT kvs') -> NMemo ls rs kvs' -> Q (.int (m : Nat)) H'
 | _ => False
theorem sp_need_mono {c : Nat} : SpMono (sp_need K c) := fun vs H Q Q' E h q => by
 unfold sp_need at *
 split at q
 ·revert q; repeat' first | exact h _ _ | exact newL_mono h | exact out_mono h | exact outT_mono h | walk_at "m"
 ·exact q.elim
theorem noTup_dT {kvs : List (List Key × V)} : NoTup (.dT kvs) := ⟨(fun _ z => nomatch z), (fun _ _ z => nomatch z)⟩
theorem eqD_nil (ts : List Nat) : eqD (.tup (iD ts)) (.tup []) = decide (ts = []) := by
 rw [eqD_tup]
 cases ts with
 | nil => rfl
 | cons t ts => rfl
theorem reps_iD {K : W.Frag} {H : Hp} : ∀ ts : List Nat, Reps K H (iD ts) (iL ts)
 | [] => reps_nil
 | t :: ts => reps_cons (by unfold Rep; rfl) (reps_iD ts)
theorem depDs_iD : ∀ ts : List Nat, depDs (iD ts) = 0
 | [] => by simp [iD, depDs]
 | t :: ts => by
  show depDs (Dv.int (t : Nat) :: iD ts) = _
  unfold depDs
  rw [depDs_iD ts]
  rfl
theorem parts_lefts {r : List Bool} {ts : List Nat} : Parts (fun k => decide (k ∈ ts)) (gB r) ↔ lefts r true ts ≠ [] /\ lefts r false ts ≠ [] := by
 have key : ∀ ans, lefts r ans ts ≠ [] ↔ ∃ k, k ∈ ts /\ gB r k = ans := fun ans => by
  constructor
  ·intro h
   obtain ⟨x, hx⟩ := List.exists_mem_of_ne_nil _ h
   exact ⟨x, mem_lefts.mp hx⟩
  ·rintro ⟨k, hk⟩ e
   have := mem_lefts.mpr hk
   rw [e] at this
   simp at this
 unfold Parts
 rw [key true, key false]
 simp only [decide_eq_true_eq]
theorem lefts_less {r : List Bool} {ts : List Nat} (h : Parts (fun k => decide (k ∈ ts)) (gB r)) (ans : Bool) : (lefts r ans ts).length < ts.length := by
 obtain ⟨⟨i, hi, yi⟩, j, hj, yj⟩ := h
 have hi := of_decide_eq_true hi
 have hj := of_decide_eq_true hj
 have key : ∀ (k : Nat) (b : Bool), k ∈ ts -> gB r k = b -> (lefts r (!b) ts).length < ts.length := fun k b hk hb => by
  unfold lefts
  refine Nat.lt_of_le_of_ne (List.length_filter_le _ _) fun e => ?_
  have := List.length_filter_eq_length_iff.mp e k hk
  rw [hb] at this
  cases b <;> simp at this
 cases ans with
 | true => exact key j false hj yj
 | false => exact key i true hi yi
structure Least (ls : List Int) (rs : List (List Bool)) (ts : List Nat) (k least : Nat) : Prop where
 lo : ∀ F, IsFew (labF ls) (rs.map gB) (fun k => decide (k ∈ ts)) F -> F <= least
 hi : ∀ (i : Nat) (r : List Bool), i < k -> rs[i]? = some r -> Parts (fun k => decide (k ∈ ts)) (gB r) -> ∃ b c, IsFew (labF ls) (rs.map gB) (fun k => decide (k ∈ lefts r true ts)) b /\ IsFew (labF ls) (rs.map gB) (fun k => decide (k ∈ lefts r false ts)) c /\ least <= 1 + max b c
theorem need_at (c : Nat) (G_Zneed : FnOk P w K mg base CX0 (c + 2) T.f_Zneed T.d_Zneed ["_law_game_here", "_law_things", "_law_known"] (sp_need K c)) :
 FnOk P w K mg base CX0 (c + 3) T.f_Zneed T.d_Zneed ["_law_game_here", "_law_things", "_law_known"] (sp_need K (c + 1)) := by
 have G_Zsides := ok_Zsides (P := P) (w := w) (base := base) T
 refine T.F_Zneed.ok sc_Zneed (fun vs H Q E h => by unfold sp_need at h; split at h <;> first | rfl | exact h.elim) (fun cdv A outer s H vs Q E hr h => ?_)
 have hu := hu60 hr
 have hr_Zneed := hr
 have hr_Zsides := hr.mono (show 1 <= c + 2 by omega)
 unfold sp_need at h
 split at h
 rotate_left
 ·exact h.elim
 rename_i v p d
 obtain ⟨ls, rs, ts, kvs, hv, G, he, hp, hrise, hlt, hc, hd, M, q⟩ := h
 obtain ⟨a, tl, rl, ps, rfl, g⟩ := gm_open hv
 have l16 := G.l16
 have r16 := G.r16
 have tl16 := rise_len hrise hlt
 have npd : p ≠ d := ne_of hp hd (by intro z; cases z)
 have mo1 : SpMono (sp_need K c) := sp_need_mono
 have mo2 : SpMono (sp_sides K) := sp_sides_mono
 obtain ⟨F, hF⟩ := few_exists (can_things he hlt)
 refine ⟨_, (@pss_cons _ _ _ _ _ (@ps_if _ _ _ _ _ _ _ _ (@tu_cmp _ _ _ _ _ _ _ _ om_lt (@pe_callB _ _ _ _ _ _ _ _ _ cm_lenSet rfl T.z_len (by rfl) (@pa1 _ _ _ (@pe_callTy _ _ _ _ _ _ _ _ _ (kSetL (K := K) rfl) rfl T.z_set (by rfl) (@pa1 _ _ _ (@pe_compB _ _ _ _ _ _ _ (["_law_k", "_law_game_here"]) 1 [0] _ _ _ _ rfl (@kSeq _ K _ _ _ (@vw _ 1 _ _ (by left)) (by rfl)) (by kernel_rfl) rfl rfl (by kernel_rfl) (fun c => @pg_name _ _ 0 _ (show (["_law_k", "_law_game_here"] : List Str).Nodup by decide +kernel) rfl (by right) (by symm)) (go_name (by decide)) (fun c => @pts_nil _) (fun c => (@kIx _ K _ _ _ _ _ (@kIx _ K _ _ _ _ _ (@vw _ 1 _ _ (by left)) (@pe_int _ _ _ _) (by intro _ _; rfl) (by rfl)) (@vw _ 0 _ _ (by left)) (by intro _ _; rfl) (by rfl))) (by intro _; rfl)) (by rfl)) (by decide) (by decide) (by rfl) (by rfl)) (by rfl)) (by decide) (by decide) (by rfl) (by rfl)) (@pe_int _ _ _ _) (by walk_at "n")) (@pss_one _ _ _ (@ps_ret _ _ _ _ (@pe_int _ _ _ _))) (@pss_nil _)) (@pss_cons _ _ _ _ _ (@ps_if _ _ _ _ _ _ _ _ (@tu_cmp _ _ _ _ _ _ _ _ (kDNot hu) (@vw _ 1 _ _ (by left)) (@vw _ 2 _ _ (by left)) (by walk_at "n")) (@pss_cons _ _ _ _ _ (@ps_set _ _ 3 _ _ _ _ sc_Zneed.nd rfl (by right) (@pe_callB _ _ _ _ _ _ _ _ _ (kLen (K := K)) rfl T.z_len (by rfl) (@pa1 _ _ _ (@vw _ 1 _ _ (by left)) (by rfl)) (by decide) (by decide) (by rfl) (by rfl)) (by rfl) (by symm)) (@pss_cons _ _ _ _ _ (@ps_for _ _ _ _ _ _ _ _ PassesOwn.never rfl (@pi_range1 _ _ _ _ _ _ rfl T.z_range (@pa1 _ _ _ (@pe_callB _ _ _ _ _ _ _ _ _ (kLen (K := K)) rfl T.z_len (by rfl) (@pa1 _ _ _ (@kIx _ K _ _ _ _ _ (@vw _ 0 _ _ (by left)) (@pe_int _ _ _ _) (by intro _ _; rfl) (by rfl)) (by rfl)) (by decide) (by decide) (by rfl) (by rfl)) (by rfl)) (by rfl)) (@pg_name _ _ 4 _ sc_Zneed.nd rfl (by right) (by symm)) (@pss_cons _ _ _ _ _ (@ps_set _ _ 5 _ _ _ _ sc_Zneed.nd rfl (by right) (@pe_call _ _ _ _ _ _ _ _ _ _ _ _ _ _ _ _ G_Zsides hr_Zsides rfl T.m_Zsides T.F_Zsides.kp T.b_Zsides .nil pass0 (@pa_cons _ _ _ _ _ (@vw _ 0 _ _ (by left)) (@pa_cons _ _ _ _ _ (@vw _ 1 _ _ (by left)) (@pa1 _ _ _ (@vw _ 4 _ _ (by left)) (by rfl)) (by rfl)) (by rfl)) (by decide) (by rfl) (by rfl)) (by rfl) (by symm)) (@pss_one _ _ _ (@ps_if _ _ _ _ _ _ _ _ (@tu_cmp _ _ _ _ _ _ _ _ (kNotInD (K := K) hu) (@pe_tup _ _ _ _ _ (@pa_nil _)) (@vw _ 5 _ _ (by left)) (by walk_at "n")) (@pss_one _ _ _ (@ps_set _ _ 3 _ _ _ _ sc_Zneed.nd rfl (by right) (@pe_callB _ _ _ _ _ _ _ _ _ (cm_min rfl) rfl T.z_min (by rfl) (@pa_cons _ _ _ _ _ (@vw _ 3 _ _ (by left)) (@pa1 _ _ _ (@pe_op _ _ _ _ _ _ _ _ (kAdd (K := K)) (@pe_int _ _ _ _) (@pe_callB _ _ _ _ _ _ _ _ _ (kMaxL (K := K) rfl) rfl T.z_max (by rfl) (@pa1 _ _ _ (@pe_compB _ _ _ _ _ _ _ (["_law_side", "_law_game_here", "_law_known"]) 1 ([0, 2]) _ _ _ _ rfl (@kSeq _ K _ _ _ (@vw _ 5 _ _ (by left)) (by rfl)) (by kernel_rfl) rfl rfl (by kernel_rfl) (fun c => @pg_name _ _ 0 _ (show (["_law_side", "_law_game_here", "_law_known"] : List Str).Nodup by decide +kernel) rfl (by right) (by symm)) (go_name (by decide)) (fun c => @pts_nil _) (fun c => (@pe_call _ _ _ _ _ _ _ _ _ _ _ _ _ _ _ _ G_Zneed hr_Zneed rfl T.m_Zneed T.F_Zneed.kp T.b_Zneed .nil pass0 (@pa_cons _ _ _ _ _ (@vw _ 1 _ _ (by left)) (@pa_cons _ _ _ _ _ (@vw _ 0 _ _ (by left)) (@pa1 _ _ _ (@vw _ 2 _ _ (by left)) (by rfl)) (by rfl)) (by rfl)) (by decide) (by rfl) (by rfl))) (by intro _; rfl)) (by rfl)) (by decide) (by decide) (by rfl) (by rfl))) (by rfl)) (by rfl)) (by decide) (by decide) (by rfl) (by rfl)) (by rfl) (by symm))) (@pss_nil _)))) (by intro _; rfl)) (@pss_one _ _ _ (@ps_dput _ _ _ _ _ _ _ _ _ (hu_one hu) (@vw _ 2 _ _ (by left)) (@vw _ 1 _ _ (by left)) (@vw _ 3 _ _ (by left)) (by rfl))))) (@pss_nil _)) (@pss_one _ _ _ (@ps_ret _ _ _ _ (@pe_dget _ _ _ _ _ _ (hu_one hu) (@vw _ 2 _ _ (by left)) (@vw _ 1 _ _ (by left)) (by intro _ _; rfl)))))), ?_⟩
 refine seq_at (fun σ H' => σ = [some (.ref a), some (.ref p), some (.ref d), none, none, none] /\ Same H H' /\ ¬ One (labF ls) (fun k => decide (k ∈ ts))) ?_ ?_ (by walk_at "sm")
 ·refine .inr ⟨⟨_, .of hp⟩, ?_⟩
  refine comp_tup (xs := iL ts) (fun k zs H' => H' = H /\ zs = ((ts.take k).map (labF ls)).map V.int) ⟨rfl, rfl⟩ (fun k zs H' _ ⟨e, _⟩ => by rw [e]; exact .of hp) (fun k zs H' hk ⟨_, e⟩ => by
   rw [iL_len] at hk
   rw [e, List.length_map, List.length_map, List.length_take]; exact small1000 (by omega)) ?_ ?_
  ·rintro k x zs H' hx ⟨rfl, rfl⟩
   obtain ⟨t, ht, hmem, rfl⟩ := iL_at hx
   refine ⟨_, .ref tl, .inr g.two, rfl, _, .int (labF ls t), .inr g.lab, lab_at (hlt t hmem), rfl, ?_⟩
   rw [List.take_add_one, ht, List.map_append, List.map_append]
   rfl
  ·rintro zs H' ⟨rfl, rfl⟩ l hl'
   rw [iL_len, List.take_length]
   refine ⟨_, .of upd_same, by rw [List.length_map]; omega, fun ds qs nd hmem hqs => ?_⟩
   have S := (Same.upd (o := .lst ((ts.map (labF ls)).map V.int)) hl').trans (Same.upd (o := setO ds) hqs)
   have o1 := one_labels (ls := ls) nd hmem
   refine ⟨ds, upd_same, ?_⟩
   refine ite2 (fun e => ?_) (fun e => ⟨rfl, S, fun o => e (decide_eq_true (by have := o1.mpr o; omega))⟩)
   have e : ((ds.length : Nat) : Int) < 2 := of_decide_eq_true e
   exact q 0 kvs _ ⟨o1.mp (by omega), fun _ _ => Nat.zero_le _⟩ (same_frm' S) (S _ _ hd) M
 rintro σ H1 ⟨rfl, s1, ho⟩
 have hd1 := s1 _ _ hd
 have hp1 := s1 _ _ hp
 refine seq_at (fun σ H' => (∃ x y z, σ = [some (.ref a), some (.ref p), some (.ref d), x, y, z]) /\ Frm d H1 H' /\ ∃ (kvs' : List (List Key × V)) (m : Nat), H' d = some (.dT kvs') /\ NMemo ls rs kvs' /\ valV kvs' (keyT ts) = some (.int (m : Nat)) /\ IsFew (labF ls) (rs.map gB) (fun k => decide (k ∈ ts)) m) ?_ ?_ (by walk_at "sm")
 rotate_left
 ·rintro σ H2 ⟨⟨x, y, z, rfl⟩, f2, kvs', m, hd2, M2, hv2, hm⟩
  refine ⟨d, .int (m : Nat), rfl, ?_, q m kvs' H2 hm ((same_frm' s1).trans f2) hd2 M2⟩
  rw [<- hv2]
  exact DGet.t hd2 (by rw [keyT_V]; exact f2 _ _ npd hp1)
 refine ⟨valV kvs (keyT ts), DGet.t hd1 (by rw [keyT_V]; exact hp1), ?_⟩
 cases e : valV kvs (keyT ts) with
 | some v0 =>
  obtain ⟨m, rfl, hm⟩ := M.get e
  exact ⟨⟨_, _, _, rfl⟩, Frm.refl, kvs, m, hd1, M, e, hm⟩
 | none =>
  refine ⟨ts.length, .inr ⟨_, .of hp1, by rw [iL_len]⟩, ?_⟩
  dsimp only [gName]
  refine seq_at (fun σ H' => ∃ (y z : Option V) (least : Nat), σ = [some (.ref a), some (.ref p), some (.ref d), some (.int (least : Nat)), y, z] /\ Frm d H1 H' /\ (∃ kvs', H' d = some (.dT kvs') /\ NMemo ls rs kvs') /\ Least ls rs ts rs.length least) ?_ ?_ (by walk_at "sm")
  rotate_left
  ·rintro σ H2 ⟨y, z, least, rfl, f2, ⟨kvs', hd2, M2⟩, hL⟩
   have hm : IsFew (labF ls) (rs.map gB) (fun k => decide (k ∈ ts)) least := need_min ho hF (hL.lo F hF) fun y hy hpt => by
    obtain ⟨r, hr', rfl⟩ := List.mem_map.mp hy
    obtain ⟨i, hi, ei⟩ := List.getElem_of_mem hr'
    obtain ⟨b, c', h1, h2, h3⟩ := hL.hi i r hi (by rw [List.getElem?_eq_getElem hi, ei]) hpt
    rw [lefts_yes] at h1
    rw [lefts_no] at h2
    exact ⟨b, c', h1, h2, h3⟩
   refine ⟨d, _, rfl, DPut.t hd2 (show H2 p = some (.tup ((keyT ts).map kV)) by rw [keyT_V]; exact f2 _ _ npd hp1) (M2.len l16), ?_⟩
   exact ⟨⟨_, _, _, rfl⟩, f2.trans Frm.updT, _, least, upd_same, M2.put hrise hlt hm, by rw [valV_put, if_pos rfl], hm⟩
  have g1 := g.same s1
  refine ⟨_, .ref rl, .inr g1.two, rfl, rs.length, .inr ⟨_, g1.rows, by rw [List.length_map, g1.len]⟩, (rs.length : Int), rfl, by omega, by omega, ?_⟩
  rw [Int.toNat_natCast]
  refine for_range (fun k σ H' => ∃ (y z : Option V) (least : Nat), σ = [some (.ref a), some (.ref p), some (.ref d), some (.int (least : Nat)), y, z] /\ Frm d H1 H' /\ (∃ kvs', H' d = some (.dT kvs') /\ NMemo ls rs kvs') /\ Least ls rs ts k least) ⟨none, none, ts.length, rfl, Frm.refl, ⟨kvs, hd1, M⟩, fun F' hF' => by have := few_few he hlt hF'; omega, fun i r hi => absurd hi (Nat.not_lt_zero _)⟩ ?_ (fun σ H' h => h)
  rintro i σ H2 hi ⟨y, z, least, rfl, f2, ⟨kvs2, hd2, M2⟩, hL⟩
  have ez : (0 : Int) + (i : Int) = ((i : Nat) : Int) := by omega
  rw [ez]
  have er : rs[i]? = some rs[i] := List.getElem?_eq_getElem hi
  have g2 := g1.frm f2 hd1 noTup_dT
  have hp2 := f2 _ _ npd hp1
  have stay : (¬ Parts (fun k => decide (k ∈ ts)) (gB rs[i])) -> Least ls rs ts (i + 1) least := fun hn => ⟨hL.lo, fun i' r' hi' er' hpt => by
   rcases Nat.lt_or_ge i' i with w | w
   ·exact hL.hi i' r' w er' hpt
   ·have : i' = i := by omega
    subst this
    rw [er] at er'
    cases er'
    exact absurd hpt hn⟩
  refine ⟨ls, rs, ts, i, rs[i], gm_close g2, G, .of hp2, by omega, hlt, rfl, er, fun l pn py H3 hl s3 gl3 hn3 hy3 => ?_⟩
  dsimp only [gName]
  refine ⟨small_le (show 0 <= 1000 by decide), fun t0 ht0 => ?_⟩
  have s4 : Same H3 (upd H3 t0 (.tup [])) := Same.upd ht0
  have gt4 : upd H3 t0 (.tup []) t0 = some (.tup []) := upd_same
  generalize upd H3 t0 (.tup []) = H4 at *
  have S4 := s3.trans s4
  refine ⟨[.ref pn, .ref py], [.tup (iD (lefts rs[i] false ts)), .tup (iD (lefts rs[i] true ts))], .tup [], .inl (.of (s4 _ _ gl3)), reps_cons (rep_tup2 (.of (s4 _ _ hn3)) (reps_iD _)) (reps_cons (rep_tup2 (.of (s4 _ _ hy3)) (reps_iD _)) reps_nil), rep_tup2 (.of gt4) reps_nil, fun e he' => ?_, ?_⟩
  ·simp only [List.mem_cons, List.not_mem_nil, or_false] at he'
   rcases he' with rfl | rfl <;> (unfold depD; rw [depDs_iD]; omega)
  have eany : (([Dv.tup (iD (lefts rs[i] false ts)), Dv.tup (iD (lefts rs[i] true ts))]).any fun e => eqD e (.tup [])) = decide (lefts rs[i] false ts = [] \/ lefts rs[i] true ts = []) := by
   rw [List.any_cons, List.any_cons, List.any_nil, eqD_nil, eqD_nil, Bool.or_false, Bool.eq_iff_iff]
   simp
  rw [eany]
  refine ite2 (fun e2 => ?_) (fun e2 => ?_)
  ·have hpt : Parts (fun k => decide (k ∈ ts)) (gB rs[i]) := parts_lefts.mpr (by
    have : ¬ (lefts rs[i] false ts = [] \/ lefts rs[i] true ts = []) := by
     intro w
     rw [decide_eq_true w] at e2
     cases e2
    exact ⟨fun w => this (.inr w), fun w => this (.inl w)⟩)
   have gl4 := s4 _ _ gl3
   have hd4 := S4 _ _ hd2
   have nld : l ≠ d := ne_of gl4 hd4 (by intro z; cases z)
   have nnd : pn ≠ d := ne_of (s4 _ _ hn3) hd4 (by intro z; cases z)
   have nyd : py ≠ d := ne_of (s4 _ _ hy3) hd4 (by intro z; cases z)
   have g4 := g2.same S4
   have hltL : ∀ ans, ∀ t ∈ lefts rs[i] ans ts, t < ls.length := fun ans t ht => hlt t (mem_lefts.mp ht).1
   refine .inl ⟨⟨_, .of gl4⟩, ?_⟩
   refine comp_list (xs := [.ref pn, .ref py]) (fun k zs H' => Frm d H4 H' /\ (∃ kvs', H' d = some (.dT kvs') /\ NMemo ls rs kvs') /\ ∃ ms : List Nat, zs = iL ms /\ ms.length = k /\ ∀ (j : Nat) (b : Nat), ms[j]? = some b -> IsFew (labF ls) (rs.map gB) (fun k => decide (k ∈ lefts rs[i] (j == 1) ts)) b) ⟨Frm.refl, ⟨kvs2, hd4, M2⟩, [], rfl, rfl, fun j b hb => by simp at hb⟩ (fun k zs H' _ ⟨f, _⟩ => .of (f _ _ nld gl4)) (fun k zs H' hk ⟨_, _, ms, e, hq, _⟩ => by
    rw [e, iL_len, hq]; exact small1000 (by simp at hk; omega)) ?_ ?_
   ·rintro k x zs H5 hx ⟨f5, ⟨kvs5, hd5, M5⟩, ms, rfl, hq, hall⟩
    obtain ⟨b, rfl, hb⟩ : ∃ b, x = .ref b /\ H5 b = some (.tup (iL (lefts rs[i] (k == 1) ts))) := by
     match k, hx with
     | 0, hx => cases hx; exact ⟨pn, rfl, f5 _ _ nnd (s4 _ _ hn3)⟩
     | 1, hx => cases hx; exact ⟨py, rfl, f5 _ _ nyd (s4 _ _ hy3)⟩
     | k + 2, hx => simp at hx
    have g5 := g4.frm f5 hd4 noTup_dT
    refine ⟨ls, rs, _, kvs5, gm_close g5, G, he, hb, lefts_rise hrise, hltL _, by have := lefts_less hpt (k == 1); omega, hd5, M5, fun m kvs6 H6 hm f6 hd6 M6 => ?_⟩
    refine ⟨f5.trans f6, ⟨kvs6, hd6, M6⟩, ms ++ [m], by rw [iL_app]; rfl, by rw [List.length_append, hq]; rfl, fun j c' hc' => ?_⟩
    rcases Nat.lt_trichotomy j ms.length with z | z | z
    ·rw [List.getElem?_append_left z] at hc'
     exact hall j c' hc'
    ·subst z
     rw [List.getElem?_append_right (Nat.le_refl _), Nat.sub_self] at hc'
     cases hc'
     rw [hq]
     exact hm
    ·rw [List.getElem?_append_right (Nat.le_of_lt z), List.getElem?_eq_none (by simp; omega)] at hc'
     cases hc'
   ·rintro zs H5 ⟨f5, ⟨kvs5, hd5, M5⟩, ms, rfl, hq, hall⟩ l2 hl2
    match ms, hq, hall with
    | [m0, m1], _, hall =>
    have s6 : Same H5 (upd H5 l2 (.lst (iL [m0, m1]))) := Same.upd hl2
    refine ⟨[(m0 : Int), (m1 : Int)], .of upd_same, by simp, fun Mx hM hle => ?_⟩
    have f0 := hall 0 m0 rfl
    have f1 := hall 1 m1 rfl
    have h0 := hle (m0 : Int) (by simp)
    have h1 := hle (m1 : Int) (by simp)
    have hM' : Mx = ((max m0 m1 : Nat) : Int) := by
     simp only [List.mem_cons, List.not_mem_nil, or_false] at hM
     omega
    subst hM'
    have el : min ((least : Nat) : Int) (1 + ((max m0 m1 : Nat) : Int)) = ((min least (1 + max m0 m1) : Nat) : Int) := by omega
    have sp := few_split (List.mem_map.mpr ⟨rs[i], List.getElem_mem hi, rfl⟩) hF (by rw [<- lefts_yes]; exact f1) (by rw [<- lefts_no]; exact f0)
    refine ⟨some (.int ((i : Nat) : Int)), some (.ref l), min least (1 + max m0 m1), ?_, f2.trans ((same_frm' S4).trans (f5.trans (same_frm' s6))), ⟨kvs5, s6 _ _ hd5, M5⟩, ⟨fun F' hF' => ?_, fun i' r' hi' er' hpt' => ?_⟩⟩
    ·show _ = [some (V.ref a), some (.ref p), some (.ref d), some (.int ((min least (1 + max m0 m1) : Nat) : Int)), some (.int ((i : Nat) : Int)), some (.ref l)]
     rw [<- el]
     rfl
    ·have := hL.lo F' hF'
     rw [few_eq hF' hF]
     rw [few_eq hF' hF] at this
     omega
    ·rcases Nat.lt_or_ge i' i with w | w
     ·obtain ⟨b, c', h1', h2', h3'⟩ := hL.hi i' r' w er' hpt'
      exact ⟨b, c', h1', h2', by omega⟩
     ·have : i' = i := by omega
      subst this
      rw [er] at er'
      cases er'
      exact ⟨m1, m0, f1, f0, by omega⟩
  ·have hn : ¬ Parts (fun k => decide (k ∈ ts)) (gB rs[i]) := fun w => by
    obtain ⟨w1, w2⟩ := parts_lefts.mp w
    apply e2
    rw [decide_eq_false (fun z => z.elim w2 w1)]
    rfl
   exact ⟨_, _, least, rfl, f2.trans (same_frm' S4), ⟨kvs2, S4 _ _ hd2, M2⟩, stay hn⟩
theorem need_all : ∀ c : Nat, FnOk P w K mg base CX0 (c + 2) T.f_Zneed T.d_Zneed ["_law_game_here", "_law_things", "_law_known"] (sp_need K c)
 | 0 => by
  have no : ∀ vs H Q E, ¬ sp_need K 0 vs H Q E := fun vs H Q E h => by
   unfold sp_need at h
   split at h
   ·obtain ⟨ls, rs, ts, kvs, _, _, _, _, _, _, z, _⟩ := h; exact absurd z (Nat.not_lt_zero _)
   ·exact h
  exact ⟨fun vs H Q E h => (no _ _ _ _ h).elim, fun A outer s H args us vs Q E _ _ _ _ h => (no _ _ _ _ h).elim⟩
 | c + 1 => need_at T c (need_all c)
theorem ok_Zneed : FnOk P w K mg base CX0 19 T.f_Zneed T.d_Zneed ["_law_game_here", "_law_things", "_law_known"] (sp_need K 17) := need_all T 17
def isWholeW : Dw -> Bool
 | .int _ => true
 | _ => false
def sp_dB (K : W.Frag) (f : Dw -> Bool) : Sp := fun vs H Q _ => match vs with
 | [v] => ∃ d, RepW K H d v /\ Q (.bl (f d)) H
 | _ => False
theorem sp_dB_mono {f : Dw -> Bool} : SpMono (sp_dB K f) := fun vs H Q Q' E h q => by
 unfold sp_dB at *
 split at q
 ·revert q; repeat' first | exact h _ _ | exact newL_mono h | exact out_mono h | exact outT_mono h | walk_at "m"
 ·exact q.elim
theorem ok_is_whole : FnOk P w K mg base CX0 1 T.f_is_whole T.d_is_whole ["thing"] (sp_dB K isWholeW) := by
 refine T.F_is_whole.ok sc_is_whole (fun vs H Q E h => by unfold sp_dB at h; split at h <;> first | rfl | exact h.elim) (fun cdv A outer s H vs Q E hr h => ?_)
 have hu := hu60 hr
 unfold sp_dB at h
 split at h
 rotate_left
 ·exact h.elim
 rename_i v
 obtain ⟨d, hd, q⟩ := h
 refine ⟨_, (@pss_one _ _ _ (@ps_ret _ _ _ _ (@pe_andM _ _ _ _ _ _ _ (@pe_callB _ _ _ _ _ _ _ _ _ (kIsiW (K := K)) rfl T.z_isinstance (by rfl) (@pa_cons _ _ _ _ _ (@vw _ 0 _ _ (by left)) (@pa1 _ _ _ (@pe_bltn _ _ (.ty "int") _ _ rfl T.z_int (by rfl) rfl (by decide) (by decide)) (by rfl)) (by rfl)) (by decide) (by decide) (by rfl) (by rfl)) (@pe_one _ _ _ _ _ (@pe_notM _ _ _ _ (@pe_callB _ _ _ _ _ _ _ _ _ (kIsiW (K := K)) rfl T.z_isinstance (by rfl) (@pa_cons _ _ _ _ _ (@vw _ 0 _ _ (by left)) (@pa1 _ _ _ (@pe_bltn _ _ (.ty "bool") _ _ rfl T.z_bool (by rfl) rfl (by decide) (by decide)) (by rfl)) (by rfl)) (by decide) (by decide) (by rfl) (by rfl))))))), ?_⟩
 refine ⟨by decide, d, hd, ?_⟩
 refine ite2 (fun e => ⟨by decide, d, hd, ?_⟩) (fun e => ?_)
 ·have : isWholeW d = !isTy (tyW d) "bool" := by
   revert e
   cases d <;> intro e <;> first | rfl | (simp [isTy, tyW] at e; done)
  rw [this] at q
  exact q
 ·have : isWholeW d = false := by
   revert e
   cases d <;> intro e <;> first | rfl | exact absurd (show isTy _ _ = true by simp [isTy, tyW]) e
  rw [this] at q
  exact q
def belowW (m : Nat) : Dw -> Bool
 | .int i => decide (0 <= i) && decide (i < (m : Int))
 | _ => false
def sp_belowW (K : W.Frag) : Sp := fun vs H Q _ => match vs with
 | [.int z, v] => ∃ (m : Nat) (d : Dw), z = m /\ RepW K H d v /\ Q (.bl (belowW m d)) H
 | _ => False
theorem ok_is_below : FnOk P w K mg base CX0 2 T.f_is_below T.d_is_below ["bound", "thing"] (sp_belowW K) := by
 have G_is_whole := ok_is_whole (P := P) (w := w) (base := base) T
 refine T.F_is_below.ok sc_is_below (fun vs H Q E h => by unfold sp_belowW at h; split at h <;> first | rfl | exact h.elim) (fun cdv A outer s H vs Q E hr h => ?_)
 have hu := hu60 hr
 have hr_is_whole := hr.mono (show 1 <= _ by decide)
 match vs, h with
 | [.int n, v], ⟨m, d, e1, hd, q⟩ =>
 subst e1
 refine ⟨_, (@pss_one _ _ _ (@ps_ret _ _ _ _ (@pe_andM _ _ _ _ _ _ _ (@pe_call _ _ _ _ _ _ _ _ _ _ _ _ _ _ _ _ G_is_whole hr_is_whole rfl T.m_is_whole T.F_is_whole.kp T.b_is_whole .nil pass0 (@pa1 _ _ _ (@vw _ 1 _ _ (by left)) (by rfl)) (by decide) (by rfl) (by rfl)) (@pe_one _ _ _ _ _ (@pe_chainM _ _ _ _ _ _ _ _ _ _ _ _ om_le om_lt (@pe_int _ _ _ _) (@vw _ 1 _ _ (by left)) (@vw _ 0 _ _ (by left)) (by with_unfolding_all rfl)))))), ?_⟩
 refine ⟨d, hd, ?_⟩
 cases d with
 | int i =>
  unfold RepW at hd
  subst hd
  have q : Q (.bl (decide (0 <= i) && decide (i < (m : Int)))) H := q
  refine ite2 (fun e => ?_) (fun e => ?_)
  ·have e' : 0 <= i := of_decide_eq_true e
   rw [decide_eq_true e', Bool.true_and] at q
   exact q
  ·rw [decide_eq_false (fun z => e (decide_eq_true z)), Bool.false_and] at q
   exact q
 | _ => exact q
def sayS : Str := Str.ofString "say"
def askS : Str := Str.ofString "ask"
def formW (m : Nat) : Dw -> Bool
 | .tup (d0 :: d1 :: ds) => if isStrW sayS d0 = true then (ds.length == 0) && isWholeW d1 else isStrW askS d0 && ((ds.length == 2) && belowW m d1)
 | _ => false
def sp_formW (K : W.Frag) : Sp := fun vs H Q _ => match vs with
 | [.int z, v] => ∃ (m : Nat) (d : Dw), z = m /\ RepW K H d v /\ Q (.bl (formW m d)) H
 | _ => False
theorem ok_has_tree_form : FnOk P w K mg base CX0 3 T.f_has_tree_form T.d_has_tree_form ["questions", "thing"] (sp_formW K) := by
 have G_is_below := ok_is_below (P := P) (w := w) (base := base) T; have G_is_whole := ok_is_whole (P := P) (w := w) (base := base) T
 refine T.F_has_tree_form.ok sc_has_tree_form (fun vs H Q E h => by unfold sp_formW at h; split at h <;> first | rfl | exact h.elim) (fun cdv A outer s H vs Q E hr h => ?_)
 have hu := hu60 hr
 have hr_is_below := hr.mono (show 2 <= _ by decide); have hr_is_whole := hr.mono (show 1 <= _ by decide)
 match vs, h with
 | [.int z, v], ⟨m, d, e1, hv, q⟩ =>
 subst e1
 refine ⟨_, (@pss_cons _ _ _ _ _ (@ps_if _ _ _ _ _ _ _ _ (PW.pt (@pw_or _ _ _ _ _ _ _ (@pt_not _ _ _ _ (@tu_val _ _ _ (@pe_callB _ _ _ _ _ _ _ _ _ (kIsiW (K := K)) rfl T.z_isinstance (by rfl) (@pa_cons _ _ _ _ _ (@vw _ 1 _ _ (by left)) (@pa1 _ _ _ (@pe_bltn _ _ (.ty "tuple") _ _ rfl T.z_tuple (by rfl) rfl (by decide) (by decide)) (by rfl)) (by rfl)) (by decide) (by decide) (by rfl) (by rfl)) (by intro _; rfl))) (@pw_or1 _ _ _ _ (@tu_cmp _ _ _ _ _ _ _ _ om_lt (@pe_callB _ _ _ _ _ _ _ _ _ (kLen (K := K)) rfl T.z_len (by rfl) (@pa1 _ _ _ (@vw _ 1 _ _ (by left)) (by rfl)) (by decide) (by decide) (by rfl) (by rfl)) (@pe_int _ _ _ _) (by walk_at "n"))))) (@pss_one _ _ _ (@ps_ret _ _ _ _ (@pe_bl _ _ _ _))) (@pss_nil _)) (@pss_cons _ _ _ _ _ (@ps_if _ _ _ _ _ _ _ _ (@tu_cmp _ _ _ _ _ _ _ _ (kEqW (K := K) hu) (@kIx _ K _ _ _ _ _ (@vw _ 1 _ _ (by left)) (@pe_int _ _ _ _) (by intro _ _; rfl) (by rfl)) (@pe_str _ _ _ _) (by walk_at "n")) (@pss_one _ _ _ (@ps_ret _ _ _ _ (@pe_andM _ _ _ _ _ _ _ (@pe_cmpM _ _ _ _ _ _ _ _ (kEq (K := K) hu) (@pe_callB _ _ _ _ _ _ _ _ _ (kLen (K := K)) rfl T.z_len (by rfl) (@pa1 _ _ _ (@vw _ 1 _ _ (by left)) (by rfl)) (by decide) (by decide) (by rfl) (by rfl)) (@pe_int _ _ _ _) (by walk_at "n")) (@pe_one _ _ _ _ _ (@pe_call _ _ _ _ _ _ _ _ _ _ _ _ _ _ _ _ G_is_whole hr_is_whole rfl T.m_is_whole T.F_is_whole.kp T.b_is_whole .nil pass0 (@pa1 _ _ _ (@kIx _ K _ _ _ _ _ (@vw _ 1 _ _ (by left)) (@pe_int _ _ _ _) (by intro _ _; rfl) (by rfl)) (by rfl)) (by decide) (by rfl) (by rfl)))))) (@pss_nil _)) (@pss_one _ _ _ (@ps_ret _ _ _ _ (@pe_andM _ _ _ _ _ _ _ (@pe_cmpM _ _ _ _ _ _ _ _ (kEqW (K := K) hu) (@kIx _ K _ _ _ _ _ (@vw _ 1 _ _ (by left)) (@pe_int _ _ _ _) (by intro _ _; rfl) (by rfl)) (@pe_str _ _ _ _) (by walk_at "n")) (@pe_andM _ _ _ _ _ _ _ (@pe_cmpM _ _ _ _ _ _ _ _ (kEq (K := K) hu) (@pe_callB _ _ _ _ _ _ _ _ _ (kLen (K := K)) rfl T.z_len (by rfl) (@pa1 _ _ _ (@vw _ 1 _ _ (by left)) (by rfl)) (by decide) (by decide) (by rfl) (by rfl)) (@pe_int _ _ _ _) (by walk_at "n")) (@pe_one _ _ _ _ _ (@pe_call _ _ _ _ _ _ _ _ _ _ _ _ _ _ _ _ G_is_below hr_is_below rfl T.m_is_below T.F_is_below.kp T.b_is_below .nil pass0 (@pa_cons _ _ _ _ _ (@vw _ 0 _ _ (by left)) (@pa1 _ _ _ (@kIx _ K _ _ _ _ _ (@vw _ 1 _ _ (by left)) (@pe_int _ _ _ _) (by intro _ _; rfl) (by rfl)) (by rfl)) (by rfl)) (by decide) (by rfl) (by rfl))))))))), ?_⟩
 refine ⟨by decide, d, hv, ?_⟩
 cases d with
 | tup ds =>
  obtain ⟨p, xs, rfl, hp, hx⟩ := repW_tup_inv hv
  have hxl := hx.length
  refine ⟨xs.length, .inr ⟨_, hp, rfl⟩, ?_⟩
  match ds, hxl with
  | [], hxl =>
   refine ite2 (fun e => q) (fun e => absurd (decide_eq_true (show ((xs.length : Nat) : Int) < 2 by rw [<- hxl]; decide)) e)
  | [d0], hxl =>
   refine ite2 (fun e => q) (fun e => absurd (decide_eq_true (show ((xs.length : Nat) : Int) < 2 by rw [<- hxl]; show (1 : Int) < 2; decide)) e)
  | d0 :: d1 :: ds', hxl =>
   have hl2 : xs.length = ds'.length + 2 := hxl.symm
   refine ite2 (fun e => absurd (of_decide_eq_true e : ((xs.length : Nat) : Int) < 2) (by omega)) (fun e => ?_)
   obtain ⟨x0, e0, r0⟩ := hx.get (i := 0) rfl
   obtain ⟨x1, e1, r1⟩ := hx.get (i := 1) rfl
   have q : Q (.bl (if isStrW sayS d0 = true then (ds'.length == 0) && isWholeW d1 else isStrW askS d0 && ((ds'.length == 2) && belowW m d1))) H := q
   refine ⟨_, x0, .inr hp, atI_of (n := 0) rfl e0, d0, r0, ?_⟩
   have len_eq : ∀ c : Nat, (false ^^ (((xs.length : Nat) : Int) == ((c + 2 : Nat) : Int))) = (ds'.length == c) := fun c => by
    rw [Bool.false_xor, Bool.eq_iff_iff]
    simp only [beq_iff_eq]
    omega
   refine ite2 (fun e2 => ?_) (fun e2 => ?_)
   ·rw [if_pos (show isStrW sayS d0 = true from e2)] at q
    refine ⟨xs.length, .inr ⟨_, hp, rfl⟩, ?_⟩
    have l0 : (false ^^ (((xs.length : Nat) : Int) == 2)) = (ds'.length == 0) := len_eq 0
    refine ite2 (fun e3 => ?_) (fun e3 => ?_)
    ·rw [show (ds'.length == 0) = true from l0.symm.trans e3, Bool.true_and] at q
     exact ⟨_, x1, .inr hp, atI_of (n := 1) rfl e1, d1, r1, q⟩
    ·have e4 : (ds'.length == 0) = false := by
      rw [<- l0]; simpa using e3
     rw [e4, Bool.false_and] at q
     exact q
   ·rw [if_neg (show ¬ isStrW sayS d0 = true from e2)] at q
    refine ⟨_, x0, .inr hp, atI_of (n := 0) rfl e0, d0, r0, ?_⟩
    refine ite2 (fun e3 => ?_) (fun e3 => ?_)
    ·rw [show isStrW askS d0 = true from e3, Bool.true_and] at q
     refine ⟨xs.length, .inr ⟨_, hp, rfl⟩, ?_⟩
     have l0 : (false ^^ (((xs.length : Nat) : Int) == 4)) = (ds'.length == 2) := len_eq 2
     refine ite2 (fun e5 => ?_) (fun e5 => ?_)
     ·rw [show (ds'.length == 2) = true from l0.symm.trans e5, Bool.true_and] at q
      exact ⟨_, x1, .inr hp, atI_of (n := 1) rfl e1, m, d1, rfl, r1, q⟩
     ·have e4 : (ds'.length == 2) = false := by
       rw [<- l0]; simpa using e5
      rw [e4, Bool.false_and] at q
      exact q
    ·have e4 : isStrW askS d0 = false := by
      have : ¬ isStrW askS d0 = true := e3
      simpa using this
     rw [e4, Bool.false_and] at q
     exact q
 | _ => exact q
def kidsW : Dw -> List Dw
 | .tup (d0 :: ds) => if isStrW sayS d0 = true then [] else ds.drop 1
 | _ => []
def sp_kidsW (K : W.Frag) : Sp := fun vs H Q _ => match vs with
 | [v] => ∃ (m : Nat) (d : Dw), RepW K H d v /\ formW m d = true /\ ∀ p xs H', Same H H' -> SqT K H' p xs -> RepsW K H (kidsW d) xs -> Q (.ref p) H'
 | _ => False
theorem sp_kidsW_mono : SpMono (sp_kidsW K) := fun vs H Q Q' E h q => by
 unfold sp_kidsW at *
 split at q
 ·revert q; repeat' first | exact h _ _ | exact newL_mono h | exact out_mono h | exact outT_mono h | walk_at "m"
 ·exact q.elim
theorem formW_two {m : Nat} {d : Dw} (h : formW m d = true) : ∃ d0 d1 ds, d = .tup (d0 :: d1 :: ds) /\ ds.length <= 2 := by
 unfold formW at h
 split at h
 ·rename_i d0 d1 ds
  refine ⟨d0, d1, ds, rfl, ?_⟩
  by_cases e : isStrW sayS d0 = true
  ·rw [if_pos e, Bool.and_eq_true] at h
   have : ds.length = 0 := by simpa using h.1
   omega
  ·rw [if_neg e, Bool.and_eq_true, Bool.and_eq_true] at h
   have : ds.length = 2 := by simpa using h.2.1
   omega
 ·cases h
theorem ok_trees_within : FnOk P w K mg base CX0 1 T.f_trees_within T.d_trees_within ["tree"] (sp_kidsW K) := by
 refine T.F_trees_within.ok sc_trees_within (fun vs H Q E h => by unfold sp_kidsW at h; split at h <;> first | rfl | exact h.elim) (fun cdv A outer s H vs Q E hr h => ?_)
 have hu := hu60 hr
 unfold sp_kidsW at h
 split at h
 rotate_left
 ·exact h.elim
 rename_i v
 obtain ⟨m, d, hv, hf, q⟩ := h
 refine ⟨_, (@pss_one _ _ _ (@ps_ret _ _ _ _ (@pe_ifExp _ _ _ _ _ _ _ _ (@tu_cmp _ _ _ _ _ _ _ _ (kEqW (K := K) hu) (@kIx _ K _ _ _ _ _ (@vw _ 0 _ _ (by left)) (@pe_int _ _ _ _) (by intro _ _; rfl) (by rfl)) (@pe_str _ _ _ _) (by walk_at "n")) (@pe_tup _ _ _ _ _ (@pa_nil _)) (@kCutA _ K _ _ _ _ _ _ _ _ (@vw _ 0 _ _ (by left)) (@po_some _ _ _ (@pe_int _ _ _ _)) (@po_none _) (by rfl))))), ?_⟩
 obtain ⟨d0, d1, ds, rfl, hl⟩ := formW_two hf
 obtain ⟨p, xs, rfl, hp, hx⟩ := repW_tup_inv hv
 obtain ⟨x0, e0, r0⟩ := hx.get (i := 0) rfl
 have ek : kidsW (.tup (d0 :: d1 :: ds)) = if isStrW sayS d0 = true then [] else ds := rfl
 refine ⟨_, x0, .inr hp, atI_of (n := 0) rfl e0, d0, r0, ?_⟩
 refine ite2 (fun e => ?_) (fun e => ?_)
 ·rw [ek, if_pos (show isStrW sayS d0 = true from e)] at q
  exact ⟨Nat.zero_le _, fun p1 n1 => q p1 [] _ (Same.upd n1) (.of upd_same) repsW_nil⟩
 ·rw [ek, if_neg (show ¬ isStrW sayS d0 = true from e)] at q
  refine ⟨2, rfl, _, hp, fun p1 H' s' h' => q p1 _ H' s' h' ?_⟩
  have hd := RepsW.drop 2 hx
  have hxl := hx.length
  have hxl2 : xs.length = ds.length + 2 := hxl.symm
  have ec : cutV xs (some 2) none = xs.drop 2 := by
   unfold cutV
   have e2 : HT.sIx xs.length 0 (some 2) = 2 := by
    have := HT.sIx_nat xs.length 0 2
    rw [show min 2 xs.length = 2 by omega] at this
    exact this
   rw [e2, HT.sIx_none, List.take_of_length_le (by rw [List.length_drop]; omega)]
  rw [ec]
  exact hd
def sp_large : Sp := fun vs H Q _ => match vs with
 | [.int m, .int d] => Q (.bl (decide (2000 < m) || decide (16 < d))) H
 | _ => False
theorem sp_large_mono : SpMono sp_large := fun vs H Q Q' E h q => by
 unfold sp_large at *
 split at q
 ·exact h _ _ q
 ·exact q.elim
theorem ok_is_too_large_tree : FnOk P w K mg base CX0 1 T.f_is_too_large_tree T.d_is_too_large_tree ["many", "depth"] sp_large := by
 refine T.F_is_too_large_tree.ok sc_is_too_large_tree (fun vs H Q E h => by unfold sp_large at h; split at h <;> first | rfl | exact h.elim) (fun cdv A outer s H vs Q E hr h => ?_)
 have hu := hu60 hr
 unfold sp_large at h
 split at h
 rotate_left
 ·exact h.elim
 rename_i m d
 have q := h
 have q : Q (.bl (decide (2000 < m) || decide (16 < d))) H := q
 refine ⟨_, (@pss_one _ _ _ (@ps_ret _ _ _ _ (@pe_orM _ _ _ _ _ _ _ (@pe_cmpM _ _ _ _ _ _ _ _ om_gt (@vw _ 0 _ _ (by left)) (@pe_glob _ _ (.int 2000) _ _ rfl T.c_MOST_TREES ⟨_, rfl⟩ (by decide)) (by walk_at "n")) (@pe_one _ _ _ _ _ (@pe_cmpM _ _ _ _ _ _ _ _ om_gt (@vw _ 1 _ _ (by left)) (@pe_glob _ _ (.int 16) _ _ rfl T.c_MOST_WITHIN ⟨_, rfl⟩ (by decide)) (by walk_at "n")))))), ?_⟩
 refine ite2 (fun e => ?_) (fun e => ?_)
 ·have e' : (2000 : Int) < m := of_decide_eq_true e
  rw [decide_eq_true e', Bool.true_or] at q
  first | exact q | (rw [<- decide_eq_true e'] at q; exact q)
 ·have e' : ¬ (2000 : Int) < m := fun z => e (decide_eq_true z)
  rw [decide_eq_false e', Bool.false_or] at q
  exact q
section
variable {α : Type} (f : α -> Bool) (kids : α -> List α)
def lvB (bound : Nat) : Nat -> List α -> Nat -> Bool
 | _, [], _ => true
 | 0, _ :: _, _ => false
 | k + 1, d :: L, m => decide (m <= bound) && ((d :: L).all f && lvB bound k ((d :: L).flatMap kids) (m + ((d :: L).flatMap kids).length))
def cntL (g : α -> Nat) (L : List α) : Nat := (L.map g).sum
def cnt : Nat -> α -> Nat
 | 0, _ => 0
 | k + 1, d => if f d = true /\ (∀ e ∈ kids d, 0 < cnt k e) then 1 + cntL (cnt k) (kids d) else 0
theorem cntL_app (g : α -> Nat) (L M : List α) : cntL g (L ++ M) = cntL g L + cntL g M := by unfold cntL; rw [List.map_append, List.sum_append]
theorem cntL_ge {g : α -> Nat} : ∀ {L : List α}, (∀ d ∈ L, 0 < g d) -> L.length <= cntL g L
 | [], _ => Nat.le_refl _
 | d :: L, h => by
  have h1 := cntL_ge (g := g) (L := L) fun e he => h e (List.mem_cons_of_mem _ he)
  have h2 := h d (List.mem_cons_self ..)
  show L.length + 1 <= g d + cntL g L
  omega
theorem cnt_pos {k : Nat} {d : α} : 0 < cnt f kids (k + 1) d ↔ f d = true /\ ∀ e ∈ kids d, 0 < cnt f kids k e := by
 show 0 < (if f d = true /\ (∀ e ∈ kids d, 0 < cnt f kids k e) then 1 + cntL (cnt f kids k) (kids d) else 0) ↔ _
 by_cases h : f d = true /\ ∀ e ∈ kids d, 0 < cnt f kids k e
 ·rw [if_pos h]; exact ⟨fun _ => h, fun _ => by omega⟩
 ·rw [if_neg h]; exact ⟨fun z => absurd z (Nat.lt_irrefl _), fun z => absurd z h⟩
theorem cnt_at {k : Nat} {d : α} (h : 0 < cnt f kids (k + 1) d) : cnt f kids (k + 1) d = 1 + cntL (cnt f kids k) (kids d) := by
 have h' := (cnt_pos f kids).mp h
 show (if f d = true /\ (∀ e ∈ kids d, 0 < cnt f kids k e) then _ else _) = _
 rw [if_pos h']
theorem cnt_all {k : Nat} : ∀ {L : List α}, (∀ d ∈ L, 0 < cnt f kids (k + 1) d) -> cntL (cnt f kids (k + 1)) L = L.length + cntL (cnt f kids k) (L.flatMap kids)
 | [], _ => rfl
 | d :: L, h => by
  have h1 := cnt_all (k := k) (L := L) fun e he => h e (List.mem_cons_of_mem _ he)
  have h2 := cnt_at f kids (h d (List.mem_cons_self ..))
  show cnt f kids (k + 1) d + cntL (cnt f kids (k + 1)) L = (L.length + 1) + cntL (cnt f kids k) (kids d ++ L.flatMap kids)
  rw [cntL_app, h1, h2]
  omega
theorem lvB_eq (bound : Nat) : ∀ (k : Nat) (L : List α) (c : Nat), c <= bound -> (lvB f kids bound k L (c + L.length) = true ↔ (∀ d ∈ L, 0 < cnt f kids k d) /\ c + cntL (cnt f kids k) L <= bound)
 | k, [], c, hc => by
  have e : lvB f kids bound k ([] : List α) (c + 0) = true := by cases k <;> rfl
  exact ⟨fun _ => ⟨nofun, hc⟩, fun _ => e⟩
 | 0, d :: L, c, hc => by
  refine ⟨(fun h => by cases h), fun h => ?_⟩
  exact absurd (h.1 d (List.mem_cons_self ..)) (Nat.lt_irrefl _)
 | k + 1, d :: L, c, hc => by
  have e : lvB f kids bound (k + 1) (d :: L) (c + (d :: L).length) = (decide (c + (d :: L).length <= bound) && ((d :: L).all f && lvB f kids bound k ((d :: L).flatMap kids) (c + (d :: L).length + ((d :: L).flatMap kids).length))) := rfl
  rw [e, Bool.and_eq_true, Bool.and_eq_true, decide_eq_true_iff, List.all_eq_true]
  generalize d :: L = M
  constructor
  ·rintro ⟨h1, h2, h3⟩
   obtain ⟨h4, h5⟩ := (lvB_eq bound k (M.flatMap kids) (c + M.length) h1).mp h3
   have hall : ∀ x ∈ M, 0 < cnt f kids (k + 1) x := fun x hx => (cnt_pos f kids).mpr ⟨h2 x hx, fun y hy => h4 y (List.mem_flatMap.mpr ⟨x, hx, hy⟩)⟩
   refine ⟨hall, ?_⟩
   rw [cnt_all f kids hall]
   omega
  ·rintro ⟨h1, h2⟩
   have h3 := cnt_all f kids h1
   have h4 := cntL_ge h1
   refine ⟨by omega, fun x hx => ((cnt_pos f kids).mp (h1 x hx)).1, (lvB_eq bound k (M.flatMap kids) (c + M.length) (by omega)).mpr ⟨fun y hy => ?_, by omega⟩⟩
   obtain ⟨x, hx, hy⟩ := List.mem_flatMap.mp hy
   exact ((cnt_pos f kids).mp (h1 x hx)).2 y hy
end
def lamBW (K : W.Frag) (vA : V) : V -> Hp -> VK -> Prop := fun v H Q => ∃ ls rs d, Rep K H (gmD ls rs) vA /\ Gm ls rs /\ RepW K H d v /\ Q (.bl (formW rs.length d)) H
theorem lamBW_mono {vA : V} : ∀ v H Q Q', (∀ y H', Q y H' -> Q' y H') -> lamBW K vA v H Q -> lamBW K vA v H Q' := fun v H Q Q' k q => by
 obtain ⟨ls, rs, d, h1, h2, h3, q⟩ := q
 exact ⟨ls, rs, d, h1, h2, h3, k _ _ q⟩
def treeW (m : Nat) (d : Dw) : Bool := lvB (formW m) kidsW 2000 16 [d] 1
def sp_keepsW (K : W.Frag) (ftw fil lam c' : Addr) (qual : Str) (vA : V) : Sp := fun vs H Q _ => match vs with
 | [.ref a, .ref b, .ref c, v] => a = lam /\ b = ftw /\ c = fil /\ H c' = some (CdO c' qual) /\ ∃ ls rs d, Rep K H (gmD ls rs) vA /\ Gm ls rs /\ RepW K H d v /\ ∀ H', Same H H' -> Q (.bl (treeW rs.length d)) H'
 | _ => False
theorem kidsW_len {m : Nat} {d : Dw} (h : formW m d = true) : (kidsW d).length <= 2 := by
 obtain ⟨d0, d1, ds, rfl, hl⟩ := formW_two h
 show (if isStrW sayS d0 = true then [] else ds).length <= 2
 by_cases e : isStrW sayS d0 = true
 ·rw [if_pos e]; exact Nat.zero_le _
 ·rw [if_neg e]; exact hl
theorem kidsW_all {m : Nat} : ∀ {L : List Dw}, (∀ d ∈ L, formW m d = true) -> (L.flatMap kidsW).length <= 2 * L.length
 | [], _ => Nat.le_refl _
 | d :: L, h => by
  have h1 := kidsW_all (L := L) fun e he => h e (List.mem_cons_of_mem _ he)
  have h2 := kidsW_len (h d (List.mem_cons_self ..))
  rw [List.flatMap_cons, List.length_append, List.length_cons]
  omega
theorem repsW_at {H : Hp} : ∀ {ds : List Dw} {xs : List V} {i : Nat} {x : V}, RepsW K H ds xs -> xs[i]? = some x -> ∃ d, ds[i]? = some d /\ RepW K H d x
 | [], xs, i, x, h, e => by unfold RepsW at h; subst h; cases e
 | d :: ds, xs, i, x, h, e => by
  unfold RepsW at h
  obtain ⟨y, l, rfl, r, h⟩ := h
  cases i with
  | zero => cases e; exact ⟨d, rfl, r⟩
  | succ i => exact repsW_at (ds := ds) (i := i) h (by simpa using e)
theorem lvB_no {m k mn : Nat} {L : List Dw} {d : Dw} (hd : d ∈ L) (h : formW m d = false) : lvB (formW m) kidsW 2000 k L mn = false := by
 cases L with
 | nil => cases hd
 | cons x L =>
  cases k with
  | zero => rfl
  | succ k =>
   show (decide (mn <= 2000) && ((x :: L).all (formW m) && _)) = false
   have : (x :: L).all (formW m) = false := by
    cases e : (x :: L).all (formW m) with
    | false => rfl
    | true => rw [List.all_eq_true.mp e d hd] at h; cases h
   rw [this, Bool.false_and, Bool.and_false]
theorem keeps_okW {lam c' : Addr} {vA : V} {qual x : Str} {fdl : FuncData} (FV_has_form : FnOk P w K mg base CX0 6 lam fdl [x] (spLamB c' qual (lamBW K vA))) (KV_has_form : KeepV K base lam) (BV_has_form : Binds K fdl [x] []) :
 FnOk P w K mg base CX0 8 T.f_keeps_to T.d_keeps_to ["has_form", "parts_within", "is_beyond", "thing"] (sp_keepsW K T.f_trees_within T.f_is_too_large_tree lam c' qual vA) := by
 have FV_parts_within := ok_trees_within (P := P) (w := w) (base := base) T
 have FV_is_beyond := ok_is_too_large_tree (P := P) (w := w) (base := base) T
 have KV_parts_within : KeepV K base T.f_trees_within := .inl T.F_trees_within.kp
 have KV_is_beyond : KeepV K base T.f_is_too_large_tree := .inl T.F_is_too_large_tree.kp
 have BV_parts_within := T.b_trees_within
 have BV_is_beyond := T.b_is_too_large_tree
 refine T.F_keeps_to.ok sc_keeps_to (fun vs H Q E h => by unfold sp_keepsW at h; split at h <;> first | rfl | exact h.elim) (fun cdv A outer s H vs Q E hr h => ?_)
 have hu := hu60 hr
 have mo1 : SpMono (spLamB c' qual (lamBW K vA)) := spLamB_mono lamBW_mono
 have mo2 : SpMono (sp_kidsW K) := sp_kidsW_mono
 have mo3 : SpMono sp_large := sp_large_mono
 have RV_has_form := hr.mono (show 6 <= _ by decide)
 have RV_parts_within := hr.mono (show 1 <= _ by decide)
 have RV_is_beyond := hr.mono (show 1 <= _ by decide)
 match vs, h with
 | [.ref a, .ref b, .ref c, v], h =>
 obtain ⟨e1, e2, e3, hcd, ls, rs, d0, hg, G, hv, q⟩ := h
 subst e1 e2 e3
 refine ⟨_, (@pss_cons _ _ _ _ _ (@ps_set _ _ 4 _ _ _ _ sc_keeps_to.nd rfl (by right) (@pe_lst _ _ _ _ (@pa1 _ _ _ (@vw _ 3 _ _ (by left)) (by rfl))) (by rfl) (by symm)) (@pss_cons _ _ _ _ _ (@ps_set _ _ 5 _ _ _ _ sc_keeps_to.nd rfl (by right) (@pe_int _ _ _ _) (by rfl) (by symm)) (@pss_cons _ _ _ _ _ (@ps_set _ _ 6 _ _ _ _ sc_keeps_to.nd rfl (by right) (@pe_int _ _ _ _) (by rfl) (by symm)) (@pss_cons _ _ _ _ _ (@ps_whileM _ _ _ _ _ _ PassesOwn.never (@tu_cmp _ _ _ _ _ _ _ _ om_gt (@pe_callB _ _ _ _ _ _ _ _ _ (kLen (K := K)) rfl T.z_len (by rfl) (@pa1 _ _ _ (@vw _ 4 _ _ (by left)) (by rfl)) (by decide) (by decide) (by rfl) (by rfl)) (@pe_int _ _ _ _) (by walk_at "n")) (@pss_cons _ _ _ _ _ (@ps_if _ _ _ _ _ _ _ _ (@tu_val _ _ _ (@pe_callV _ _ _ _ _ _ _ _ _ _ _ _ _ (@vw _ 2 _ _ (by left)) FV_is_beyond RV_is_beyond KV_is_beyond BV_is_beyond (@pa_cons _ _ _ _ _ (@vw _ 6 _ _ (by left)) (@pa1 _ _ _ (@vw _ 5 _ _ (by left)) (by rfl)) (by rfl)) (by rfl) (by rfl)) (by intro _; rfl)) (@pss_one _ _ _ (@ps_ret _ _ _ _ (@pe_bl _ _ _ _))) (@pss_nil _)) (@pss_cons _ _ _ _ _ (@ps_set _ _ 7 _ _ _ _ sc_keeps_to.nd rfl (by right) (@pe_lst _ _ _ _ (@pa_nil _)) (by rfl) (by symm)) (@pss_cons _ _ _ _ _ (@ps_for _ _ _ _ _ _ _ _ PassesOwn.never rfl (@kSeq _ K _ _ _ (@vw _ 4 _ _ (by left)) (by rfl)) (@pg_name _ _ 8 _ sc_keeps_to.nd rfl (by right) (by symm)) (@pss_cons _ _ _ _ _ (@ps_if _ _ _ _ _ _ _ _ (@pt_not _ _ _ _ (@tu_val _ _ _ (@pe_callV _ _ _ _ _ _ _ _ _ _ _ _ _ (@vw _ 0 _ _ (by left)) FV_has_form RV_has_form KV_has_form BV_has_form (@pa1 _ _ _ (@vw _ 8 _ _ (by left)) (by rfl)) (by rfl) (by rfl)) (by intro _; rfl))) (@pss_one _ _ _ (@ps_ret _ _ _ _ (@pe_bl _ _ _ _))) (@pss_nil _)) (@pss_one _ _ _ (@ps_expr _ _ _ _ (@kExtT _ K _ _ _ _ _ _ (@vw _ 7 _ _ (by left)) (@pa1 _ _ _ (@pe_callV _ _ _ _ _ _ _ _ _ _ _ _ _ (@vw _ 1 _ _ (by left)) FV_parts_within RV_parts_within KV_parts_within BV_parts_within (@pa1 _ _ _ (@vw _ 8 _ _ (by left)) (by rfl)) (by rfl) (by rfl)) (by rfl)) (by rfl) (by rfl) (by rfl) (by rfl) (by rfl) (by rfl)) (by rfl)))) (by intro _; rfl)) (@pss_cons _ _ _ _ _ (@ps_set _ _ 4 _ _ _ _ sc_keeps_to.nd rfl (by right) (@vw _ 7 _ _ (by left)) (by rfl) (by symm)) (@pss_cons _ _ _ _ _ (@ps_set _ _ 5 _ _ _ _ sc_keeps_to.nd rfl (by right) (@pe_op _ _ _ _ _ _ _ _ (kAdd (K := K)) (@vw _ 5 _ _ (by left)) (@pe_int _ _ _ _)) (by rfl) (by symm)) (@pss_one _ _ _ (@ps_set _ _ 6 _ _ _ _ sc_keeps_to.nd rfl (by right) (@pe_op _ _ _ _ _ _ _ _ (kAdd (K := K)) (@vw _ 6 _ _ (by left)) (@pe_callB _ _ _ _ _ _ _ _ _ (kLen (K := K)) rfl T.z_len (by rfl) (@pa1 _ _ _ (@vw _ 4 _ _ (by left)) (by rfl)) (by decide) (by decide) (by rfl) (by rfl))) (by rfl) (by symm))))))))) (@pss_one _ _ _ (@ps_ret _ _ _ _ (@pe_bl _ _ _ _))))))), ?_⟩
 refine ⟨small_le (show 1 <= 1000 by decide), fun l nl => ?_⟩
 dsimp only [gName]
 refine ⟨fun mm σ H' => ∃ (l : Addr) (L : List Dw) (xs : List V) (d mn : Nat) (z7 z8 : Option V), mm = 18 - d /\ σ = [some (.ref a), some (.ref T.f_trees_within), some (.ref T.f_is_too_large_tree), some v, some (.ref l), some (.int d), some (.int mn), z7, z8] /\ Same H H' /\ H l = none /\ H' l = some (.lst xs) /\ RepsW K H' L xs /\
  treeW rs.length d0 = lvB (formW rs.length) kidsW 2000 (17 - d) L mn /\ L.length <= mn /\ 1 <= d /\ d <= 17, ⟨18 - 1, l, [d0], [v], 1, 1, none, none, rfl, rfl, Same.upd nl, nl, upd_same, repsW_cons (RepW.same (Same.upd nl) _ _ hv) repsW_nil, rfl, Nat.le_refl _, Nat.le_refl _, by decide⟩, ?_⟩
 rintro mm σ H1 ⟨l1, L, xs, d, mn, z7, z8, rfl, rfl, s1, nl1, g1, hx, het, hLm, hd1, hd17⟩
 have hxl := hx.length
 refine ⟨xs.length, .inl ⟨xs, .of g1, rfl⟩, ?_⟩
 refine ite2 (fun e => ?_) (fun e => ?_)
 ·have hpos : 0 < L.length := by
   have : (0 : Int) < (xs.length : Int) := of_decide_eq_true e
   omega
  obtain ⟨u0, L', rfl⟩ : ∃ u0 L', L = u0 :: L' := by
   cases L with
   | nil => exact absurd hpos (Nat.lt_irrefl _)
   | cons u0 L' => exact ⟨u0, L', rfl⟩
  refine ⟨rfl, ?_⟩
  show (if (decide ((2000 : Int) < (mn : Int)) || decide ((16 : Int) < (d : Int))) = true then _ else _)
  refine ite2 (fun e2 => ?_) (fun e2 => ?_)
  ·have e0 : treeW rs.length d0 = false := by
    rw [het]
    rw [Bool.or_eq_true, decide_eq_true_iff, decide_eq_true_iff] at e2
    by_cases hd : d = 17
    ·subst hd; rfl
    ·obtain ⟨k, hk⟩ : ∃ k, 17 - d = k + 1 := ⟨16 - d, by omega⟩
     rw [hk]
     show (decide (mn <= 2000) && _) = false
     rw [decide_eq_false (by omega), Bool.false_and]
   rw [e0] at q
   exact q H1 s1
  have e2' : ¬ ((2000 : Int) < (mn : Int)) /\ ¬ ((16 : Int) < (d : Int)) := by
   rw [Bool.or_eq_true, decide_eq_true_iff, decide_eq_true_iff] at e2
   exact ⟨fun z => e2 (.inl z), fun z => e2 (.inr z)⟩
  obtain ⟨k, hk⟩ : ∃ k, 17 - d = k + 1 := ⟨16 - d, by omega⟩
  have hk2 : 17 - (d + 1) = k := by omega
  rw [hk] at het
  have het' : treeW rs.length d0 = (decide (mn <= 2000) && ((u0 :: L').all (formW rs.length) && lvB (formW rs.length) kidsW 2000 k ((u0 :: L').flatMap kidsW) (mn + ((u0 :: L').flatMap kidsW).length))) := het
  rw [decide_eq_true (by omega), Bool.true_and] at het'
  have hno : ∀ y ∈ u0 :: L', formW rs.length y = false -> treeW rs.length d0 = false := fun y hy hf => het.trans (lvB_no hy hf)
  generalize u0 :: L' = L at *
  dsimp only [tNext]
  refine ⟨Nat.zero_le _, fun b nb => ?_⟩
  dsimp only [gName]
  have nb0 : H b = none := s1.free nb
  have hbl : b ≠ l1 := fun z => by rw [z, g1] at nb; cases nb
  refine seq_at (fun σ H' => ∃ (ys : List V) (z8 : Option V), σ = [some (.ref a), some (.ref T.f_trees_within), some (.ref T.f_is_too_large_tree), some v, some (.ref l1), some (.int d), some (.int mn), some (.ref b), z8] /\ Same H H' /\ H' b = some (.lst ys) /\ RepsW K H' (L.flatMap kidsW) ys /\ ∀ y ∈ L, formW rs.length y = true) ?_ ?_ (by walk_at "sm")
  ·refine .inl ⟨⟨_, .inl (.of (by rw [upd_ne (Ne.symm hbl)]; exact g1))⟩, ?_⟩
   refine for_list (xs := xs) (fun j σ H' => ∃ (ys : List V) (z8 : Option V), σ = [some (.ref a), some (.ref T.f_trees_within), some (.ref T.f_is_too_large_tree), some v, some (.ref l1), some (.int d), some (.int mn), some (.ref b), z8] /\ Same H H' /\ H' l1 = some (.lst xs) /\ H' b = some (.lst ys) /\ RepsW K H' ((L.take j).flatMap kidsW) ys /\ RepsW K H' L xs /\ ∀ y ∈ L.take j, formW rs.length y = true) ⟨[], z8, rfl, same_put s1 nb0, by rw [upd_ne (Ne.symm hbl)]; exact g1, upd_same, repsW_nil, RepsW.same (Same.upd nb) _ _ hx, nofun⟩ (fun j σ H' _ ⟨_, _, _, _, g, _⟩ => .inl (.of g)) ?_ ?_
   ·rintro j xv σ H2 hxj ⟨ys, z8', rfl, s2, g2, gb2, hy, hx2, hall⟩
    obtain ⟨u, hu', rdd⟩ := repsW_at hx2 hxj
    have hum := List.mem_of_getElem? hu'
    refine ⟨rfl, s2 _ _ hcd, ls, rs, u, Rep.same s2 _ _ hg, G, rdd, ?_⟩
    cases hf : formW rs.length u with
    | false =>
     rw [hno u hum hf] at q
     exact q H2 s2
    | true =>
    refine ⟨.inl ⟨rfl, _, .of gb2⟩, rfl, rs.length, u, rdd, hf, fun p zs H3 s3 hp3 hz3 => ?_⟩
    have hyl := hy.length
    have hkl := kidsW_all hall
    rw [List.length_take] at hkl
    have hzl := hz3.length
    have hul := kidsW_len hf
    have f3 : Frm b H3 (upd H3 b (.lst (ys ++ zs))) := fun b' o n e => by rw [upd_ne n]; exact e
    have lb : ∃ ws, H3 b = some (.lst ws) := ⟨_, s3 _ _ gb2⟩
    have fz := fun (M : List Dw) (ws : List V) (r : RepsW K H2 M ws) => RepsW.frm f3 lb _ _ (RepsW.same s3 _ _ r)
    refine ⟨ys, zs, s3 _ _ gb2, hp3, by omega, ys ++ zs, _, rfl, same_put (s2.trans s3) nb0, by rw [upd_ne (Ne.symm hbl)]; exact s3 _ _ g2, upd_same, ?_, fz L xs hx2, ?_⟩
    ·rw [List.take_add_one, hu', List.flatMap_append]
     refine (fz _ _ hy).append ?_
     have e0 : ((some u).toList.flatMap kidsW) = kidsW u := by simp
     rw [e0]
     exact fz _ _ hz3
    ·intro y hy'
     rw [List.take_add_one, hu'] at hy'
     rcases List.mem_append.mp hy' with h | h
     ·exact hall y h
     ·have : y = u := by simpa using h
      rw [this]; exact hf
   ·rintro σ H2 ⟨ys, z8', rfl, s2, g2, gb2, hy, _, hall⟩
    rw [<- hxl, List.take_length] at hy hall
    exact ⟨ys, _, rfl, s2, gb2, hy, hall⟩
  rintro σ H2 ⟨ys, z8', rfl, s2, gb2, hy, hall⟩
  have hyl := hy.length
  rw [List.all_eq_true.mpr hall, Bool.true_and] at het'
  refine ⟨ys.length, .inl ⟨ys, .of gb2, rfl⟩, ?_⟩
  refine ⟨18 - (d + 1), by omega, b, L.flatMap kidsW, ys, d + 1, mn + ys.length, _, _, rfl, rfl, s2, nb0, gb2, hy, ?_, by omega, by omega, by omega⟩
  rw [hk2, <- hyl]
  exact het'
 ·have hz : L = [] := by
   have : ¬ (0 : Int) < (xs.length : Int) := fun z => e (decide_eq_true z)
   exact List.length_eq_zero_iff.mp (by omega)
  subst hz
  have e0 : treeW rs.length d0 = true := by
   rw [het]
   cases 17 - d <;> rfl
  rw [e0] at q
  exact q H1 s1
def lamOf (b : List Stmt) : Expr := match b with
 | [.Return (some (.Call _ (l :: _) _ _)) _] => l
 | _ => .Name "" ⟨0, 0, 0, 0⟩
def lamPar (e : Expr) : Arguments := match e with
 | .Lambda p _ _ _ => p
 | _ => { posonlyargs := [], args := [], vararg := none, kwonlyargs := [], kw_defaults := [], kwarg := none, defaults := [] }
def lamBod (e : Expr) : Expr := match e with
 | .Lambda _ b _ _ => b
 | e => e
def lamSco (e : Expr) : Scope := match e with
 | .Lambda _ _ s _ => s
 | _ => { kind := .function, names := [], isGenerator := false, isCoroutine := false }
def lamE_is_tree : Expr := lamOf (defBody s_is_tree)
theorem lamtree_ok (T : Txt K mg) {lam cell c' : Addr} {pm ctv uA : Value} {vA : V} (hl : base.get? lam = some (W.kla_obj "<lambda>" lamQ_is_tree (lamPar lamE_is_tree) (lamBod lamE_is_tree) (lamSco lamE_is_tree) [("game", cell)] pm c' ctv)) (hc : base.IsCell cell (some uA)) (rA : RelV vA uA) :
 FnOk P w K mg base CX0 6 lam (W.kla_fn "<lambda>" lamQ_is_tree (lamPar lamE_is_tree) (lamBod lamE_is_tree) (lamSco lamE_is_tree) [("game", cell)] pm (.ref c') ctv) ["part"] (spLamB c' lamQ_is_tree (lamBW K vA)) := by
 have G_has_tree_form := ok_has_tree_form (P := P) (w := w) (base := base) T
 refine lam_fnOk2 (k := 5) hl hc rA rfl rfl ?_ rfl rfl rfl ?_ fun A outer s H v Q hr h => ?_
 ·intro y hy
  have h := List.all_eq_true.mp (show (lamSco lamE_is_tree).names.all (fun p => p.2 != .free || p.1 == "game") = true by decide +kernel) _ (PySem.mem_of_lookup hy)
  simpa using h
 ·decide +kernel
 have hr_has_tree_form := hr.mono (show 3 <= _ by decide)
 obtain ⟨ls, rs, d, hg, G, hv, q⟩ := h
 obtain ⟨a, tl, rl, ps, rfl, g⟩ := gm_open hg
 refine ⟨_, (@pe_call _ _ _ _ _ _ _ _ _ _ _ _ _ _ _ _ G_has_tree_form hr_has_tree_form rfl T.m_has_tree_form T.F_has_tree_form.kp T.b_has_tree_form .nil pass0 (@pa_cons _ _ _ _ _ (@pe_callB _ _ _ _ _ _ _ _ _ (kLen (K := K)) rfl T.z_len (by rfl) (@pa1 _ _ _ (@kIx _ K _ _ _ _ _ (@vw _ 1 _ _ (by left)) (@pe_int _ _ _ _) (by intro _ _; rfl) (by rfl)) (by rfl)) (by decide) (by decide) (by rfl) (by rfl)) (@pa1 _ _ _ (@vw _ 0 _ _ (by left)) (by rfl)) (by rfl)) (by decide) (by rfl) (by rfl)), ?_⟩
 exact ⟨_, _, .inr g.two, atI_of (n := 1) rfl rfl, rs.length, .inr ⟨_, g.rows, by rw [List.length_map, g.len]⟩, rs.length, d, rfl, hv, q⟩
mutual
theorem RepW.tab {Pt : Addr} {ps : Array Value} {H H' : Hp} (s : Grow Pt H H') (hz : H Pt = some (.tbl ps)) : ∀ (d : Dw) (v : V), RepW K H d v -> RepW K H' d v
 | .non, v, h => by unfold RepW at *; exact h
 | .bl b, v, h => by unfold RepW at *; exact h
 | .int i, v, h => by unfold RepW at *; exact h
 | .str x, v, h => by unfold RepW at *; exact h
 | .tup ds, v, h => by
  unfold RepW at *
  obtain ⟨a, xs, e, h1, h2⟩ := h
  exact ⟨a, xs, e, sqT_tab s hz h1, RepsW.tab s hz ds xs h2⟩
 | .lst ds, v, h => by
  unfold RepW at *
  obtain ⟨a, xs, e, h1, h2⟩ := h
  exact ⟨a, xs, e, s _ _ (fun z => by rw [z, hz] at h1; cases h1) h1, RepsW.tab s hz ds xs h2⟩
 | .emp, v, h => by
  unfold RepW at *
  obtain ⟨a, e, h1⟩ := h
  exact ⟨a, e, s _ _ (fun z => by rw [z, hz] at h1; cases h1) h1⟩
theorem RepsW.tab {Pt : Addr} {ps : Array Value} {H H' : Hp} (s : Grow Pt H H') (hz : H Pt = some (.tbl ps)) : ∀ (ds : List Dw) (xs : List V), RepsW K H ds xs -> RepsW K H' ds xs
 | [], xs, h => by unfold RepsW at *; exact h
 | d :: ds, xs, h => by
  unfold RepsW at *
  obtain ⟨x, r, e, h1, h2⟩ := h
  exact ⟨x, r, e, RepW.tab s hz d x h1, RepsW.tab s hz ds r h2⟩
end
def sp_istree (K : W.Frag) (Pt : Addr) : Sp := fun vs H Q _ => match vs with
 | [u, v] => ∃ ls rs d, Rep K H (gmD ls rs) u /\ Gm ls rs /\ RepW K H d v /\ Lam Pt lamP_is_tree lamQ_is_tree H /\ ∀ H', Grow Pt H H' -> Lam Pt lamP_is_tree lamQ_is_tree H' -> Q (.bl (treeW rs.length d)) H'
 | _ => False
theorem sp_istree_mono {Pt : Addr} : SpMono (sp_istree K Pt) := fun vs H Q Q' E h q => by
 unfold sp_istree at *
 split at q
 ·revert q; repeat' first | exact h _ _ | exact newL_mono h | exact out_mono h | exact outT_mono h | walk_at "m"
 ·exact q.elim
theorem ok_is_tree (B : BMn mg base) : FnOk P w K mg base CX0 9 T.f_is_tree T.d_is_tree ["game", "thing"] (sp_istree K T.p_is_tree) := by
 refine T.F_is_tree.okC T.gc_is_tree sc_is_tree (fun vs H Q E h => by unfold sp_istree at h; split at h <;> first | rfl | exact h.elim) (fun A outer s H vs Q E hr h => ?_)
 have hu := hu60 hr
 have hr_keeps_to := hr.mono (show 8 <= _ by decide)
 unfold sp_istree at h
 split at h
 rotate_left
 ·exact h.elim
 rename_i u v
 obtain ⟨ls, rs, d, hg, G, hv, hL, q⟩ := h
 let spK : Addr -> Addr -> V -> Sp := fun lam c' vA => sp_keepsW K T.f_trees_within T.f_is_too_large_tree lam c' lamQ_is_tree vA
 have hFL : ∀ (base' : Heap) (lam cell c' : Addr) (pm ctv uA : Value) (vA : V), (∀ b o, base.get? b = some o -> base'.get? b = some o) -> base'.get? lam = some (W.kla_obj "<lambda>" lamQ_is_tree (lamPar lamE_is_tree) (lamBod lamE_is_tree) (lamSco lamE_is_tree) [("game", cell)] pm c' ctv) -> base'.IsCell cell (some uA) -> RelV vA uA -> FnOk P w K mg base' CX0 8 T.f_keeps_to T.d_keeps_to ["has_form", "parts_within", "is_beyond", "thing"] (spK lam c' vA) :=
  fun base' lam cell c' pm ctv uA vA _ hl hc rA => keeps_okW (base := base') T (lamtree_ok (base := base') T hl hc rA) (.inr ⟨_, _, hl, rfl⟩) (.all fun us hl => match us, hl with | [_], _ => rfl)
 have hclL : ∀ cell, (PyProof.Rows.envOfC "is_tree" (defScope s_is_tree) s.heap.objs.size T.f_is_tree (.ref T.g_is_tree)).cells.lookup (PySem.Str.ofString "game") = some cell -> closureFor (lamSco lamE_is_tree) (PyProof.Rows.envOfC "is_tree" (defScope s_is_tree) s.heap.objs.size T.f_is_tree (.ref T.g_is_tree)) = pure [((PySem.Str.ofString "game" : Str), cell)] := fun cell h => by
  have e : some (s.heap.objs.size + 1) = some cell := h
  cases e
  rfl
 refine ⟨_, (@pss_one _ _ _ (@ps_ret _ _ _ _ (@pe_lamcall _ T.p_is_tree T.g_is_tree _ _ _ _ 0 _ "game" _ _ _ _ _ _ _ _ _ lamQ_is_tree spK rfl T.m_keeps_to T.F_keeps_to.kp hr_keeps_to T.b_keeps_to rfl T.gh_is_tree B rfl rfl rfl hclL rfl rfl hFL (@pa_cons _ _ _ _ _ (@pe_glob _ _ (.ref T.f_trees_within) _ _ rfl T.m_trees_within rfl (by decide)) (@pa_cons _ _ _ _ _ (@pe_glob _ _ (.ref T.f_is_too_large_tree) _ _ rfl T.m_is_too_large_tree rfl (by decide)) (@pa1 _ _ _ (@vw _ 1 _ _ (by left)) (by rfl)) (by rfl)) (by rfl)) (by decide) (by rfl) (by rfl)))), ?_⟩
 refine ⟨u, rfl, hL, fun lam c' H1 g1 l1 hc1 hn1 => ?_⟩
 obtain ⟨pz, hP, _⟩ := id hL
 exact ⟨rfl, rfl, rfl, hc1, ls, rs, d, Rep.tab g1 hP _ _ hg, G, RepW.tab g1 hP _ _ hv, fun H' s' => q H' (g1.trans (Grow.same s')) (l1.same s')⟩
theorem ok_Zis_number : FnOk P w K mg base CX0 1 T.f_Zis_number T.d_Zis_number ["_law_thing"] (sp_dB K isWholeW) := by
 refine T.F_Zis_number.ok sc_Zis_number (fun vs H Q E h => by unfold sp_dB at h; split at h <;> first | rfl | exact h.elim) (fun cdv A outer s H vs Q E hr h => ?_)
 have hu := hu60 hr
 unfold sp_dB at h
 split at h
 rotate_left
 ·exact h.elim
 rename_i v
 obtain ⟨d, hd, q⟩ := h
 refine ⟨_, (@pss_one _ _ _ (@ps_ret _ _ _ _ (@pe_andM _ _ _ _ _ _ _ (@pe_callB _ _ _ _ _ _ _ _ _ (kIsiW (K := K)) rfl T.z_isinstance (by rfl) (@pa_cons _ _ _ _ _ (@vw _ 0 _ _ (by left)) (@pa1 _ _ _ (@pe_bltn _ _ (.ty "int") _ _ rfl T.z_int (by rfl) rfl (by decide) (by decide)) (by rfl)) (by rfl)) (by decide) (by decide) (by rfl) (by rfl)) (@pe_one _ _ _ _ _ (@pe_notM _ _ _ _ (@pe_callB _ _ _ _ _ _ _ _ _ (kIsiW (K := K)) rfl T.z_isinstance (by rfl) (@pa_cons _ _ _ _ _ (@vw _ 0 _ _ (by left)) (@pa1 _ _ _ (@pe_bltn _ _ (.ty "bool") _ _ rfl T.z_bool (by rfl) rfl (by decide) (by decide)) (by rfl)) (by rfl)) (by decide) (by decide) (by rfl) (by rfl))))))), ?_⟩
 refine ⟨by decide, d, hd, ?_⟩
 refine ite2 (fun e => ⟨by decide, d, hd, ?_⟩) (fun e => ?_)
 ·have : isWholeW d = !isTy (tyW d) "bool" := by
   revert e
   cases d <;> intro e <;> first | rfl | (simp [isTy, tyW] at e; done)
  rw [this] at q
  exact q
 ·have : isWholeW d = false := by
   revert e
   cases d <;> intro e <;> first | rfl | exact absurd (show isTy _ _ = true by simp [isTy, tyW]) e
  rw [this] at q
  exact q
def manyW (m : Nat) : Nat -> Dw -> Nat
 | 0, _ => 3000
 | k + 1, d => match d with
  | .tup [d0, d1] => if (isStrW sayS d0 && isWholeW d1) = true then 1 else 3000
  | .tup [d0, d1, d2, d3] => if (isStrW askS d0 && belowW m d1) = true then 1 + manyW m k d2 + manyW m k d3 else 3000
  | _ => 3000
theorem say_not_ask {d : Dw} (h : isStrW sayS d = true) : isStrW askS d = false := by
 cases d with
 | str x =>
  have e : x = sayS := by simpa [isStrW] using h
  subst e
  decide
 | _ => cases h
theorem many_cnt {m : Nat} : ∀ (k : Nat) (d : Dw), (0 < cnt (formW m) kidsW k d -> manyW m k d = cnt (formW m) kidsW k d) /\ (cnt (formW m) kidsW k d = 0 -> 3000 <= manyW m k d)
 | 0, d => ⟨(fun h => absurd h (Nat.lt_irrefl _)), fun _ => Nat.le_refl _⟩
 | k + 1, d => by
  constructor
  ·intro h
   have h1 := (cnt_pos _ _).mp h
   rw [cnt_at _ _ h]
   obtain ⟨d0, d1, ds, rfl, hl⟩ := formW_two h1.1
   have hf : (if isStrW sayS d0 = true then (ds.length == 0) && isWholeW d1 else isStrW askS d0 && ((ds.length == 2) && belowW m d1)) = true := h1.1
   have hk : kidsW (.tup (d0 :: d1 :: ds)) = if isStrW sayS d0 = true then [] else ds := rfl
   rw [hk] at h1 ⊢
   by_cases e : isStrW sayS d0 = true
   ·rw [if_pos e] at hf ⊢
    rw [Bool.and_eq_true] at hf
    have : ds = [] := List.length_eq_zero_iff.mp (by simpa using hf.1)
    subst this
    show (if (isStrW sayS d0 && isWholeW d1) = true then 1 else 3000) = 1 + 0
    rw [e, hf.2]
    rfl
   ·rw [if_neg e] at hf h1 ⊢
    rw [Bool.and_eq_true, Bool.and_eq_true] at hf
    have hl2 : ds.length = 2 := by simpa using hf.2.1
    match ds, hl2 with
    | [d2, d3], _ =>
    have a2 := (many_cnt k d2).1 (h1.2 d2 (by simp))
    have a3 := (many_cnt k d3).1 (h1.2 d3 (by simp))
    show (if (isStrW askS d0 && belowW m d1) = true then 1 + manyW m k d2 + manyW m k d3 else 3000) = 1 + (cnt (formW m) kidsW k d2 + (cnt (formW m) kidsW k d3 + 0))
    rw [hf.1, hf.2.2, a2, a3]
    show 1 + _ + _ = _
    omega
  ·intro h
   have hn : ¬ (formW m d = true /\ ∀ e ∈ kidsW d, 0 < cnt (formW m) kidsW k e) := fun z => by
    have := (cnt_pos (formW m) kidsW (k := k)).mpr z
    omega
   unfold manyW
   split
   ·rename_i d0 d1
    split
    ·rename_i e
     exfalso
     rw [Bool.and_eq_true] at e
     refine hn ⟨?_, fun x hx => ?_⟩
     ·show (if isStrW sayS d0 = true then true && isWholeW d1 else _) = true
      rw [if_pos e.1, e.2]; rfl
     ·have hk : kidsW (.tup [d0, d1]) = if isStrW sayS d0 = true then [] else [] := rfl
      rw [hk, if_pos e.1] at hx
      cases hx
    ·exact Nat.le_refl _
   ·rename_i d0 d1 d2 d3
    split
    ·rename_i e
     rw [Bool.and_eq_true] at e
     have hns : ¬ isStrW sayS d0 = true := fun z => by rw [say_not_ask z] at e; cases e.1
     have hk : kidsW (.tup [d0, d1, d2, d3]) = if isStrW sayS d0 = true then [] else [d2, d3] := rfl
     have hfm : formW m (.tup [d0, d1, d2, d3]) = true := by
      show (if isStrW sayS d0 = true then _ else isStrW askS d0 && (true && belowW m d1)) = true
      rw [if_neg hns, e.1, e.2]; rfl
     rw [hk, if_neg hns] at hn
     by_cases c2 : cnt (formW m) kidsW k d2 = 0
     ·have := (many_cnt k d2).2 c2; omega
     ·by_cases c3 : cnt (formW m) kidsW k d3 = 0
      ·have := (many_cnt k d3).2 c3; omega
      ·exfalso
       refine hn ⟨hfm, fun x hx => ?_⟩
       simp only [List.mem_cons, List.not_mem_nil, or_false] at hx
       rcases hx with rfl | rfl <;> omega
    ·exact Nat.le_refl _
   ·exact Nat.le_refl _
theorem tree_many (m : Nat) (d : Dw) : treeW m d = decide (manyW m 16 d <= 2000) := by
 have h := lvB_eq (formW m) kidsW 2000 16 [d] 0 (by decide)
 have hm := many_cnt (m := m) 16 d
 have e : treeW m d = lvB (formW m) kidsW 2000 16 [d] (0 + [d].length) := rfl
 rw [e, Bool.eq_iff_iff, h, decide_eq_true_iff]
 have ec : cntL (cnt (formW m) kidsW 16) [d] = cnt (formW m) kidsW 16 d + 0 := rfl
 rw [ec]
 constructor
 ·rintro ⟨h1, h2⟩
  rw [hm.1 (h1 d (by simp))]
  omega
 ·intro h1
  have hp : 0 < cnt (formW m) kidsW 16 d := by
   rcases Nat.eq_zero_or_pos (cnt (formW m) kidsW 16 d) with z | z
   ·have := hm.2 z; omega
   ·exact z
  rw [hm.1 hp] at h1
  refine ⟨fun x hx => ?_, by omega⟩
  have : x = d := by simpa using hx
  rw [this]; exact hp
def spM (K : W.Frag) (D : Nat) : Sp := fun vs H Q _ => match vs with
 | [u, v, .int z] => ∃ (ls : List Int) (rs : List (List Bool)) (d : Dw) (k : Nat), Rep K H (gmD ls rs) u /\ Gm ls rs /\ RepW K H d v /\ z = (k : Nat) /\ k < D /\ ∀ H', Same H H' -> Q (.int (manyW rs.length k d : Nat)) H'
 | _ => False
theorem spM_mono {D : Nat} : SpMono (spM K D) := fun vs H Q Q' E h q => by
 unfold spM at *
 split at q
 ·revert q; repeat' first | exact h _ _ | exact newL_mono h | exact out_mono h | exact outT_mono h | walk_at "m"
 ·exact q.elim
theorem many_at (D : Nat) (G_Zmany : FnOk P w K mg base CX0 (D + 3) T.f_Zmany T.d_Zmany ["_law_game_here", "_law_thing", "_law_left"] (spM K D)) : FnOk P w K mg base CX0 (D + 4) T.f_Zmany T.d_Zmany ["_law_game_here", "_law_thing", "_law_left"] (spM K (D + 1)) := by
 have G_Zis_number := ok_Zis_number (P := P) (w := w) (base := base) T
 refine T.F_Zmany.ok sc_Zmany (fun vs H Q E h => by unfold spM at h; split at h <;> first | rfl | exact h.elim) (fun cdv A outer s H vs Q E hr h => ?_)
 have hu := hu60 hr
 have hr_Zmany := hr
 have hr_Zis_number := hr.mono (show 1 <= D + 3 by omega)
 have mo1 : SpMono (spM K D) := spM_mono
 have mo2 : SpMono (sp_dB K isWholeW) := sp_dB_mono
 match vs, h with
 | [u, v, .int z], ⟨ls, rs, d, k, hg, G, hv, e1, hD, q⟩ =>
 subst e1
 refine ⟨_, (@pss_cons _ _ _ _ _ (@ps_if _ _ _ _ _ _ _ _ (PW.pt (@pw_or _ _ _ _ _ _ _ (@tu_cmp _ _ _ _ _ _ _ _ (kEq (K := K) hu) (@vw _ 2 _ _ (by left)) (@pe_int _ _ _ _) (by walk_at "n")) (@pw_or _ _ _ _ _ _ _ (@pt_not _ _ _ _ (@tu_val _ _ _ (@pe_callB _ _ _ _ _ _ _ _ _ (kIsiW (K := K)) rfl T.z_isinstance (by rfl) (@pa_cons _ _ _ _ _ (@vw _ 1 _ _ (by left)) (@pa1 _ _ _ (@pe_bltn _ _ (.ty "tuple") _ _ rfl T.z_tuple (by rfl) rfl (by decide) (by decide)) (by rfl)) (by rfl)) (by decide) (by decide) (by rfl) (by rfl)) (by intro _; rfl))) (@pw_or1 _ _ _ _ (@tu_cmp _ _ _ _ _ _ _ _ (kNotIn (K := K)) (@pe_callB _ _ _ _ _ _ _ _ _ (kLen (K := K)) rfl T.z_len (by rfl) (@pa1 _ _ _ (@vw _ 1 _ _ (by left)) (by rfl)) (by decide) (by decide) (by rfl) (by rfl)) (@pe_tup _ _ _ _ _ (@pa_cons _ _ _ _ _ (@pe_int _ _ _ _) (@pa1 _ _ _ (@pe_int _ _ _ _) (by rfl)) (by rfl))) (by walk_at "n")))))) (@pss_one _ _ _ (@ps_ret _ _ _ _ (@pe_int _ _ _ _))) (@pss_nil _)) (@pss_cons _ _ _ _ _ (@ps_if _ _ _ _ _ _ _ _ (@tu_cmp _ _ _ _ _ _ _ _ (kEq (K := K) hu) (@pe_callB _ _ _ _ _ _ _ _ _ (kLen (K := K)) rfl T.z_len (by rfl) (@pa1 _ _ _ (@vw _ 1 _ _ (by left)) (by rfl)) (by decide) (by decide) (by rfl) (by rfl)) (@pe_int _ _ _ _) (by walk_at "n")) (@pss_one _ _ _ (@ps_ret _ _ _ _ (@pe_ifExp _ _ _ _ _ _ _ _ (PW.pt (@pw_and _ _ _ _ _ _ _ (@tu_val _ _ _ (@pe_callB _ _ _ _ _ _ _ _ _ (kIsiW (K := K)) rfl T.z_isinstance (by rfl) (@pa_cons _ _ _ _ _ (@kIx _ K _ _ _ _ _ (@vw _ 1 _ _ (by left)) (@pe_int _ _ _ _) (by intro _ _; rfl) (by rfl)) (@pa1 _ _ _ (@pe_bltn _ _ (.ty "str") _ _ rfl T.z_str (by rfl) rfl (by decide) (by decide)) (by rfl)) (by rfl)) (by decide) (by decide) (by rfl) (by rfl)) (by intro _; rfl)) (@pw_and _ _ _ _ _ _ _ (@tu_cmp _ _ _ _ _ _ _ _ (kEq (K := K) hu) (@kIx _ K _ _ _ _ _ (@vw _ 1 _ _ (by left)) (@pe_int _ _ _ _) (by intro _ _; rfl) (by rfl)) (@pe_str _ _ _ _) (by walk_at "n")) (@pw_and1 _ _ _ _ (@tu_val _ _ _ (@pe_call _ _ _ _ _ _ _ _ _ _ _ _ _ _ _ _ G_Zis_number hr_Zis_number rfl T.m_Zis_number T.F_Zis_number.kp T.b_Zis_number .nil pass0 (@pa1 _ _ _ (@kIx _ K _ _ _ _ _ (@vw _ 1 _ _ (by left)) (@pe_int _ _ _ _) (by intro _ _; rfl) (by rfl)) (by rfl)) (by decide) (by rfl) (by rfl)) (by intro _; rfl)))))) (@pe_int _ _ _ _) (@pe_int _ _ _ _)))) (@pss_nil _)) (@pss_cons _ _ _ _ _ (@ps_if _ _ _ _ _ _ _ _ (PW.pt (@pw_or _ _ _ _ _ _ _ (@pt_not _ _ _ _ (@tu_val _ _ _ (@pe_callB _ _ _ _ _ _ _ _ _ (kIsiW (K := K)) rfl T.z_isinstance (by rfl) (@pa_cons _ _ _ _ _ (@kIx _ K _ _ _ _ _ (@vw _ 1 _ _ (by left)) (@pe_int _ _ _ _) (by intro _ _; rfl) (by rfl)) (@pa1 _ _ _ (@pe_bltn _ _ (.ty "str") _ _ rfl T.z_str (by rfl) rfl (by decide) (by decide)) (by rfl)) (by rfl)) (by decide) (by decide) (by rfl) (by rfl)) (by intro _; rfl))) (@pw_or _ _ _ _ _ _ _ (@tu_cmp _ _ _ _ _ _ _ _ (kNe (K := K) hu) (@kIx _ K _ _ _ _ _ (@vw _ 1 _ _ (by left)) (@pe_int _ _ _ _) (by intro _ _; rfl) (by rfl)) (@pe_str _ _ _ _) (by walk_at "n")) (@pw_or1 _ _ _ _ (@pt_not _ _ _ _ (@tu_val _ _ _ (@pe_call _ _ _ _ _ _ _ _ _ _ _ _ _ _ _ _ G_Zis_number hr_Zis_number rfl T.m_Zis_number T.F_Zis_number.kp T.b_Zis_number .nil pass0 (@pa1 _ _ _ (@kIx _ K _ _ _ _ _ (@vw _ 1 _ _ (by left)) (@pe_int _ _ _ _) (by intro _ _; rfl) (by rfl)) (by rfl)) (by decide) (by rfl) (by rfl)) (by intro _; rfl))))))) (@pss_one _ _ _ (@ps_ret _ _ _ _ (@pe_int _ _ _ _))) (@pss_nil _)) (@pss_cons _ _ _ _ _ (@ps_if _ _ _ _ _ _ _ _ (PW.pt (@pw_or _ _ _ _ _ _ _ (@tu_cmp _ _ _ _ _ _ _ _ om_lt (@kIx _ K _ _ _ _ _ (@vw _ 1 _ _ (by left)) (@pe_int _ _ _ _) (by intro _ _; rfl) (by rfl)) (@pe_int _ _ _ _) (by walk_at "n")) (@pw_or1 _ _ _ _ (@tu_cmp _ _ _ _ _ _ _ _ om_ge (@kIx _ K _ _ _ _ _ (@vw _ 1 _ _ (by left)) (@pe_int _ _ _ _) (by intro _ _; rfl) (by rfl)) (@pe_callB _ _ _ _ _ _ _ _ _ (kLen (K := K)) rfl T.z_len (by rfl) (@pa1 _ _ _ (@kIx _ K _ _ _ _ _ (@vw _ 0 _ _ (by left)) (@pe_int _ _ _ _) (by intro _ _; rfl) (by rfl)) (by rfl)) (by decide) (by decide) (by rfl) (by rfl)) (by walk_at "n"))))) (@pss_one _ _ _ (@ps_ret _ _ _ _ (@pe_int _ _ _ _))) (@pss_nil _)) (@pss_one _ _ _ (@ps_ret _ _ _ _ (@pe_op _ _ _ _ _ _ _ _ (kAdd (K := K)) (@pe_op _ _ _ _ _ _ _ _ (kAdd (K := K)) (@pe_int _ _ _ _) (@pe_call _ _ _ _ _ _ _ _ _ _ _ _ _ _ _ _ G_Zmany hr_Zmany rfl T.m_Zmany T.F_Zmany.kp T.b_Zmany .nil pass0 (@pa_cons _ _ _ _ _ (@vw _ 0 _ _ (by left)) (@pa_cons _ _ _ _ _ (@kIx _ K _ _ _ _ _ (@vw _ 1 _ _ (by left)) (@pe_int _ _ _ _) (by intro _ _; rfl) (by rfl)) (@pa1 _ _ _ (@pe_op _ _ _ _ _ _ _ _ om_sub (@vw _ 2 _ _ (by left)) (@pe_int _ _ _ _)) (by rfl)) (by rfl)) (by rfl)) (by decide) (by rfl) (by rfl))) (@pe_call _ _ _ _ _ _ _ _ _ _ _ _ _ _ _ _ G_Zmany hr_Zmany rfl T.m_Zmany T.F_Zmany.kp T.b_Zmany .nil pass0 (@pa_cons _ _ _ _ _ (@vw _ 0 _ _ (by left)) (@pa_cons _ _ _ _ _ (@kIx _ K _ _ _ _ _ (@vw _ 1 _ _ (by left)) (@pe_int _ _ _ _) (by intro _ _; rfl) (by rfl)) (@pa1 _ _ _ (@pe_op _ _ _ _ _ _ _ _ om_sub (@vw _ 2 _ _ (by left)) (@pe_int _ _ _ _)) (by rfl)) (by rfl)) (by rfl)) (by decide) (by rfl) (by rfl))))))))), ?_⟩
 refine ite2 (fun e => ?_) (fun e => ?_)
 ·have hk : k = 0 := by
   have : (k : Int) = 0 := by simpa using e
   omega
  subst hk
  exact q H (Same.refl _)
 obtain ⟨k, rfl⟩ : ∃ k', k = k' + 1 := ⟨k - 1, by
  have : k ≠ 0 := fun z => e (by rw [z]; rfl)
  omega⟩
 refine ⟨by decide, d, hv, ?_⟩
 cases d with
 | tup ds =>
  obtain ⟨p, xs, rfl, hp, hx⟩ := repW_tup_inv hv
  have hxl := hx.length
  refine ⟨xs.length, .inr ⟨_, hp, rfl⟩, ?_⟩
  refine ⟨small_le (show 2 <= 1000 by decide), fun p1 n1 => ⟨[.int 2, .int 4], .inr (.of upd_same), rfl, rfl, ?_⟩⟩
  have s1 := Same.upd (o := .tup [.int 2, .int 4]) n1
  have hp1 := s1.sqT hp
  have hx1 := RepsW.same s1 _ _ hx
  have hg1 := Rep.same s1 _ _ hg
  generalize upd H p1 (.tup [.int 2, .int 4]) = H1 at *
  clear hx hp hv
  match ds, hx1, q with
  | [], hx1, q =>
   unfold RepsW at hx1
   subst hx1
   exact q H1 s1
  | [d0], hx1, q =>
   unfold RepsW at hx1
   obtain ⟨x0, l0, rfl, r0, hx1⟩ := hx1
   unfold RepsW at hx1
   subst hx1
   exact q H1 s1
  | [d0, d1], hx1, q =>
   unfold RepsW at hx1
   obtain ⟨x0, l0, rfl, r0, hx1⟩ := hx1
   unfold RepsW at hx1
   obtain ⟨x1, l1, rfl, r1, hx1⟩ := hx1
   unfold RepsW at hx1
   subst hx1
   have q2 : ∀ H', Same H H' -> Q (.int (((if (isStrW sayS d0 && isWholeW d1) = true then 1 else 3000 : Nat)) : Int)) H' := q
   refine ⟨2, .inr ⟨_, hp1, rfl⟩, ?_⟩
   refine ⟨_, x0, .inr hp1, atI_of (n := 0) rfl rfl, by decide, d0, r0, ?_⟩
   cases d0 with
   | str s0 =>
    unfold RepW at r0
    subst r0
    refine ⟨_, _, .inr hp1, atI_of (n := 0) rfl rfl, ?_⟩
    refine ite2 (fun e2 => ?_) (fun e2 => ?_)
    ·have e3 : isStrW sayS (.str s0) = true := by
      show (s0 == sayS) = true
      rw [<- Bool.false_xor (s0 == sayS)]; exact e2
     rw [e3, Bool.true_and] at q2
     refine ⟨_, x1, .inr hp1, atI_of (n := 1) rfl rfl, d1, r1, ?_⟩
     refine ite2 (fun e4 => ?_) (fun e4 => ?_)
     ·rw [if_pos e4] at q2
      exact q2 H1 s1
     ·rw [if_neg e4] at q2
      exact q2 H1 s1
    ·have e3 : ¬ isStrW sayS (.str s0) = true := fun z => e2 (by
      have z' : (s0 == sayS) = true := z
      show (false ^^ (s0 == sayS)) = true
      rw [Bool.false_xor]; exact z')
     have e4 : isStrW sayS (.str s0) = false := by simpa using e3
     rw [e4, Bool.false_and, if_neg (by decide)] at q2
     exact q2 H1 s1
   | _ => exact q2 H1 s1
  | [d0, d1, d2], hx1, q =>
   unfold RepsW at hx1
   obtain ⟨x0, l0, rfl, r0, hx1⟩ := hx1
   unfold RepsW at hx1
   obtain ⟨x1, l1, rfl, r1, hx1⟩ := hx1
   unfold RepsW at hx1
   obtain ⟨x2, l2, rfl, r2, hx1⟩ := hx1
   unfold RepsW at hx1
   subst hx1
   exact q H1 s1
  | [d0, d1, d2, d3], hx1, q =>
   unfold RepsW at hx1
   obtain ⟨x0, l0, rfl, r0, hx1⟩ := hx1
   unfold RepsW at hx1
   obtain ⟨x1, l1, rfl, r1, hx1⟩ := hx1
   unfold RepsW at hx1
   obtain ⟨x2, l2, rfl, r2, hx1⟩ := hx1
   unfold RepsW at hx1
   obtain ⟨x3, l3, rfl, r3, hx1⟩ := hx1
   unfold RepsW at hx1
   subst hx1
   have q2 : ∀ H', Same H H' -> Q (.int (((if (isStrW askS d0 && belowW rs.length d1) = true then 1 + manyW rs.length k d2 + manyW rs.length k d3 else 3000 : Nat)) : Int)) H' := q
   refine ⟨4, .inr ⟨_, hp1, rfl⟩, ?_⟩
   refine ⟨_, x0, .inr hp1, atI_of (n := 0) rfl rfl, by decide, d0, r0, ?_⟩
   cases d0 with
   | str s0 =>
    unfold RepW at r0
    subst r0
    refine ⟨_, _, .inr hp1, atI_of (n := 0) rfl rfl, ?_⟩
    refine ite2 (fun e2 => ?_) (fun e2 => ?_)
    ·have e4 : isStrW askS (.str s0) = false := by
      show (s0 == askS) = false
      have e2' : (true ^^ (s0 == askS)) = true := e2
      simpa using e2'
     rw [e4, Bool.false_and, if_neg (by decide)] at q2
     exact q2 H1 s1
    ·have e3 : isStrW askS (.str s0) = true := by
      show (s0 == askS) = true
      have e2' : ¬ (true ^^ (s0 == askS)) = true := e2
      simpa using e2'
     rw [e3, Bool.true_and] at q2
     refine ⟨_, x1, .inr hp1, atI_of (n := 1) rfl rfl, d1, r1, ?_⟩
     cases d1 with
     | int c =>
      unfold RepW at r1
      subst r1
      have q3 : ∀ H', Same H H' -> Q (.int (((if (decide (0 <= c) && decide (c < (rs.length : Int))) = true then 1 + manyW rs.length k d2 + manyW rs.length k d3 else 3000 : Nat)) : Int)) H' := q2
      refine ⟨_, _, .inr hp1, atI_of (n := 1) rfl rfl, ?_⟩
      refine ite2 (fun e5 => ?_) (fun e5 => ?_)
      ·have : c < 0 := of_decide_eq_true e5
       rw [decide_eq_false (by omega), Bool.false_and, if_neg (by decide)] at q3
       exact q3 H1 s1
      have e5' : ¬ c < 0 := fun z => e5 (decide_eq_true z)
      rw [decide_eq_true (by omega), Bool.true_and] at q3
      obtain ⟨a, tl, rl, ps, rfl, g⟩ := gm_open hg1
      refine ⟨_, _, .inr hp1, atI_of (n := 1) rfl rfl, _, .ref rl, .inr g.two, rfl, rs.length, .inr ⟨_, g.rows, by rw [List.length_map, g.len]⟩, ?_⟩
      refine ite2 (fun e6 => ?_) (fun e6 => ?_)
      ·have : (rs.length : Int) <= c := of_decide_eq_true e6
       rw [decide_eq_false (by omega), if_neg (by decide)] at q3
       exact q3 H1 s1
      have e6' : ¬ (rs.length : Int) <= c := fun z => e6 (decide_eq_true z)
      rw [decide_eq_true (by omega), if_pos rfl] at q3
      refine ⟨_, x2, .inr hp1, atI_of (n := 2) rfl rfl, ?_⟩
      have hk1 : ((k + 1 : Nat) : Int) - 1 = (k : Int) := by omega
      refine ⟨ls, rs, d2, k, hg1, G, r2, hk1, by omega, fun H2 s2 => ?_⟩
      refine ⟨_, x3, .inr (s2.sqT hp1), atI_of (n := 3) rfl rfl, ?_⟩
      refine ⟨ls, rs, d3, k, Rep.same s2 _ _ hg1, G, RepW.same s2 _ _ r3, hk1, by omega, fun H3 s3 => ?_⟩
      have q4 := q3 H3 (s1.trans (s2.trans s3))
      have en : ((1 + manyW rs.length k d2 + manyW rs.length k d3 : Nat) : Int) = 1 + (manyW rs.length k d2 : Int) + (manyW rs.length k d3 : Int) := by omega
      rw [en] at q4
      exact q4
     | _ => exact q2 H1 s1
   | _ => exact q2 H1 s1
  | d0 :: d1 :: d2 :: d3 :: d4 :: ds', hx1, q =>
   have hl5 := hx1.length
   have hin : (true ^^ inV (.int (xs.length : Nat)) [.int 2, .int 4]) = true := by
    have : xs.length = ds'.length + 5 := hl5.symm
    rw [this]
    unfold inV
    simp [eqV]
    omega
   show (if (true ^^ inV (.int (xs.length : Nat)) [.int 2, .int 4]) = true then _ else _)
   rw [hin]
   exact iteT (q H1 s1)
 | _ => exact q H (Same.refl _)
theorem many_all : ∀ D : Nat, FnOk P w K mg base CX0 (D + 3) T.f_Zmany T.d_Zmany ["_law_game_here", "_law_thing", "_law_left"] (spM K D)
 | 0 => by
  have no : ∀ vs H Q E, ¬ spM K 0 vs H Q E := fun vs H Q E h => by
   unfold spM at h
   split at h
   ·obtain ⟨_, _, _, _, _, _, _, _, z, _⟩ := h; exact absurd z (Nat.not_lt_zero _)
   ·exact h
  exact ⟨fun vs H Q E h => (no _ _ _ _ h).elim, fun A outer s H args us vs Q E _ _ _ _ h => (no _ _ _ _ h).elim⟩
 | c + 1 => many_at T c (many_all c)
theorem ok_Zmany : FnOk P w K mg base CX0 20 T.f_Zmany T.d_Zmany ["_law_game_here", "_law_thing", "_law_left"] (spM K 17) := many_all T 17
theorem reps_cons_inv {H : Hp} {d : Dv} {ds : List Dv} {xs : List V} (h : Reps K H (d :: ds) xs) : ∃ x l, xs = x :: l /\ Rep K H d x /\ Reps K H ds l := by unfold Reps at h; exact h
inductive Tr where
 | say (i : Int)
 | ask (q : Nat) (n y : Tr)
def Tr.dv : Tr -> Dv
 | .say i => .tup [.str (Str.ofString "say"), .int i]
 | .ask q n y => .tup [.str (Str.ofString "ask"), .int (q : Int), n.dv, y.dv]
def Tr.ok (m : Nat) : Tr -> Prop
 | .say _ => True
 | .ask q n y => q < m /\ n.ok m /\ y.ok m
def Tr.size : Tr -> Nat
 | .say _ => 1
 | .ask _ n y => 1 + n.size + y.size
def Tr.deep : Tr -> Nat
 | .say _ => 1
 | .ask _ n y => 1 + max n.deep y.deep
def Tr.kids : Tr -> List Tr
 | .say _ => []
 | .ask _ n y => [n, y]
theorem Tr.deep_pos (t : Tr) : 1 <= t.deep := by cases t <;> (unfold Tr.deep; omega)
theorem Tr.size_pos (t : Tr) : 1 <= t.size := by cases t <;> (unfold Tr.size; omega)
theorem Tr.tups : ∀ t : Tr, tupOnly t.dv = true
 | .say i => rfl
 | .ask q n y => by
  unfold Tr.dv tupOnly tupsOnly tupsOnly tupsOnly tupsOnly tupsOnly
  rw [Tr.tups n, Tr.tups y]
  rfl
theorem tr_say {H : Hp} {i : Int} {v : V} (h : Rep K H (Tr.say i).dv v) : ∃ p, v = .ref p /\ SqT K H p [.str (Str.ofString "say"), .int i] := by
 obtain ⟨a, xs, rfl, hs, hx⟩ := rep_tup_inv h
 obtain ⟨x0, l0, rfl, r0, hx⟩ := reps_cons_inv hx
 obtain ⟨x1, l1, rfl, r1, hx⟩ := reps_cons_inv hx
 unfold Reps at hx
 subst hx
 unfold Rep at r0 r1
 subst r0 r1
 exact ⟨a, rfl, hs⟩
theorem tr_ask {H : Hp} {q : Nat} {n y : Tr} {v : V} (h : Rep K H (Tr.ask q n y).dv v) : ∃ p x2 x3, v = .ref p /\ SqT K H p [.str (Str.ofString "ask"), .int (q : Int), x2, x3] /\ Rep K H n.dv x2 /\ Rep K H y.dv x3 := by
 obtain ⟨a, xs, rfl, hs, hx⟩ := rep_tup_inv h
 obtain ⟨x0, l0, rfl, r0, hx⟩ := reps_cons_inv hx
 obtain ⟨x1, l1, rfl, r1, hx⟩ := reps_cons_inv hx
 obtain ⟨x2, l2, rfl, r2, hx⟩ := reps_cons_inv hx
 obtain ⟨x3, l3, rfl, r3, hx⟩ := reps_cons_inv hx
 unfold Reps at hx
 subst hx
 unfold Rep at r0 r1
 subst r0 r1
 exact ⟨a, x2, x3, rfl, hs, r2, r3⟩
theorem tup_gm (ls : List Int) (rs : List (List Bool)) : tupOnly (gmD ls rs) = true := by
 have e1 : ∀ ls : List Int, tupsOnly (ls.map Dv.int) = true := by
  intro ls
  induction ls with
  | nil => rfl
  | cons x r ih => show (true && tupsOnly (r.map Dv.int)) = true; rw [ih]; rfl
 unfold gmD
 simp [tupOnly, tupsOnly, e1, tups_tabs]
theorem sqT_fr {t p : Addr} {H H' : Hp} {xs : List V} (f : Frm t H H') (ht : ∃ zs, H t = some (.lst zs)) (h : SqT K H p xs) : SqT K H' p xs := by
 obtain ⟨zs, hz⟩ := ht
 rcases h with (h1 | ⟨o, h1⟩) | h1
 ·exact .inl (.inl (f p _ (fun q => by rw [q, hz] at h1; cases h1) h1))
 ·exact .inl (.inr ⟨o, f p _ (fun q => by rw [q, hz] at h1; cases h1) h1⟩)
 ·exact .inr h1
def Tr.sm : Tr -> Prop
 | .say i => i.natAbs <= 100000000000000000000
 | .ask _ n y => n.sm /\ y.sm
def cst : Nat -> Nat
 | 0 => 4
 | d + 1 => 4 + 2 * cst d
theorem cst_pos : ∀ d, 4 <= cst d
 | 0 => Nat.le_refl _
 | d + 1 => by show 4 <= 4 + 2 * cst d; omega
theorem labat {ls : List Int} {k : Nat} (h : k < ls.length) : atI (ls.map V.int) (k : Int) = some (.int (ls.getD k 0)) := by
 refine atI_of rfl ?_
 rw [List.getElem?_map, List.getElem?_eq_getElem h, List.getD_eq_getElem?_getD, List.getElem?_eq_getElem h]
 rfl
theorem lab_sm {ls : List Int} {rs : List (List Bool)} (G : Gm ls rs) {k : Nat} (h : k < ls.length) : (ls.getD k 0).natAbs <= 100000000000000000000 := by
 refine G.sm _ ?_
 rw [List.getD_eq_getElem?_getD, List.getElem?_eq_getElem h]
 exact List.getElem_mem h
structure TS_ (K : W.Frag) (H : Hp) (t p : Addr) (N : Nat) (u : V) (ls : List Int) (rs : List (List Bool)) (ts : List Nat) : Prop where
 F : GFeed H t N
 r : Rep K H (gmD ls rs) u
 s : SqT K H p (iL ts)
section
variable {H H' : Hp} {t p : Addr} {N N' : Nat} {u : V} {ls : List Int} {rs : List (List Bool)} {ts : List Nat}
theorem TS_.same (n : TS_ K H t p N u ls rs ts) (s : Same H H') : TS_ K H' t p N u ls rs ts := ⟨n.F.same s, Rep.same s _ _ n.r, s.sqT n.s⟩
theorem TS_.mono (n : TS_ K H t p N u ls rs ts) (h : N <= N') : TS_ K H t p N' u ls rs ts := ⟨n.F.mono h, n.r, n.s⟩
theorem TS_.frm (n : TS_ K H t p N u ls rs ts) (F : GFeed H' t N') (f : Frm t H H') : TS_ K H' t p N' u ls rs ts := ⟨F, Rep.frm f n.F.lst _ _ (tup_gm ls rs) n.r, sqT_fr f n.F.lst n.s⟩
end
def spT (K : W.Frag) (D : Nat) : Sp := fun vs H Q _ => match vs with
 | [.ref t, u, .ref p, .int z] => ∃ (N d : Nat) (ls : List Int) (rs : List (List Bool)) (ts : List Nat), TS_ K H t p N u ls rs ts /\ N + cst d <= 900000000 /\ Gm ls rs /\ (∀ x ∈ ts, x < ls.length) /\ ts.length <= 16 /\ z = (d : Nat) /\ d < D /\
  ∀ (tr : Tr) v H', Rep K H' tr.dv v -> tr.ok rs.length -> tr.deep <= d + 1 -> tr.sm -> GFeed H' t (N + cst d) -> Frm t H H' -> Q v H'
 | _ => False
theorem spT_mono {D : Nat} : SpMono (spT K D) := fun vs H Q Q' E h q => by
 unfold spT at *
 split at q
 ·revert q; repeat' first | exact h _ _ | exact newL_mono h | exact out_mono h | exact outT_mono h | walk_at "m"
 ·exact q.elim
theorem lefts_sub {r : List Bool} {b : Bool} {ts : List Nat} {x : Nat} (h : x ∈ lefts r b ts) : x ∈ ts := by
 unfold lefts at h
 exact (List.mem_filter.mp h).1
theorem frm_un {t : Addr} {H H' : Hp} (h : ∀ b, b ≠ t -> H' b = H b) : Frm t H H' := fun b o n e => by rw [h b n]; exact e
theorem tree_at (D : Nat) (G_Ztree : FnOk P w K mg base CX0 (D + 3) T.f_Ztree T.d_Ztree ["_law_feed_here", "_law_game_here", "_law_things", "_law_deep_here"] (spT K D)) : FnOk P w K mg base CX0 (D + 4) T.f_Ztree T.d_Ztree ["_law_feed_here", "_law_game_here", "_law_things", "_law_deep_here"] (spT K (D + 1)) := by
 have G_Zsides := ok_Zsides (P := P) (w := w) (base := base) T
 have G_Zdraw := ok_Zdraw (P := P) (w := w) (base := base) T
 refine T.F_Ztree.ok sc_Ztree (fun vs H Q E h => by unfold spT at h; split at h <;> first | rfl | exact h.elim) (fun cdv A outer s H vs Q E hr h => ?_)
 have hu := hu60 hr
 have hr_Ztree := hr
 have hr_Zsides := hr.mono (show 1 <= D + 3 by omega)
 have hr_Zdraw := hr.mono (show 1 <= D + 3 by omega)
 have mo1 : SpMono (spT K D) := spT_mono
 have mo2 : SpMono (sp_sides K) := sp_sides_mono
 match vs, h with
 | [.ref t, u, .ref p, .int z], h =>
 obtain ⟨N, d, ls, rs, ts, n0, hN, G, hlt, hl16, e1, hD, q⟩ := h
 subst e1
 have l16 := G.l16
 have r16 := G.r16
 have r1 := G.r1
 have hcp := cst_pos d
 obtain ⟨a, tl, rl, ps, rfl, g⟩ := gm_open n0.r
 refine ⟨_, (@pss_cons _ _ _ _ _ (@ps_set _ _ 4 _ _ _ _ sc_Ztree.nd rfl (by right) (@pe_cmpM _ _ _ _ _ _ _ _ om_lt (@pe_callB _ _ _ _ _ _ _ _ _ cm_lenSet rfl T.z_len (by rfl) (@pa1 _ _ _ (@pe_callTy _ _ _ _ _ _ _ _ _ (kSetL (K := K) rfl) rfl T.z_set (by rfl) (@pa1 _ _ _ (@pe_compB _ _ _ _ _ _ _ (["_law_k", "_law_game_here"]) 1 [1] _ _ _ _ rfl (@kSeq _ K _ _ _ (@vw _ 2 _ _ (by left)) (by rfl)) (by kernel_rfl) rfl rfl (by kernel_rfl) (fun c => @pg_name _ _ 0 _ (show (["_law_k", "_law_game_here"] : List Str).Nodup by decide +kernel) rfl (by right) (by symm)) (go_name (by decide)) (fun c => @pts_nil _) (fun c => (@kIx _ K _ _ _ _ _ (@kIx _ K _ _ _ _ _ (@vw _ 1 _ _ (by left)) (@pe_int _ _ _ _) (by intro _ _; rfl) (by rfl)) (@vw _ 0 _ _ (by left)) (by intro _ _; rfl) (by rfl))) (by intro _; rfl)) (by rfl)) (by decide) (by decide) (by rfl) (by rfl)) (by rfl)) (by decide) (by decide) (by rfl) (by rfl)) (@pe_int _ _ _ _) (by walk_at "n")) (by rfl) (by symm)) (@pss_cons _ _ _ _ _ (@ps_if _ _ _ _ _ _ _ _ (PW.pt (@pw_or _ _ _ _ _ _ _ (@tu_cmp _ _ _ _ _ _ _ _ (kEq (K := K) hu) (@vw _ 3 _ _ (by left)) (@pe_int _ _ _ _) (by walk_at "n")) (@pw_or1 _ _ _ _ (PW.pt (@pw_and _ _ _ _ _ _ _ (@tu_val _ _ _ (@vw _ 4 _ _ (by left)) (by intro _; rfl)) (@pw_and1 _ _ _ _ (@tu_cmp _ _ _ _ _ _ _ _ om_gt (@pe_call _ _ _ _ _ _ _ _ _ _ _ _ _ _ _ _ G_Zdraw hr_Zdraw rfl T.m_Zdraw T.F_Zdraw.kp T.b_Zdraw .nil pass0 (@pa_cons _ _ _ _ _ (@vw _ 0 _ _ (by left)) (@pa1 _ _ _ (@pe_int _ _ _ _) (by rfl)) (by rfl)) (by decide) (by rfl) (by rfl)) (@pe_int _ _ _ _) (by walk_at "n")))))))) (@pss_one _ _ _ (@ps_ret _ _ _ _ (@pe_tup _ _ _ _ _ (@pa_cons _ _ _ _ _ (@pe_str _ _ _ _) (@pa1 _ _ _ (@pe_ifExp _ _ _ _ _ _ _ _ (@tu_cmp _ _ _ _ _ _ _ _ (kNeX (K := K) hu) (@vw _ 2 _ _ (by left)) (@pe_tup _ _ _ _ _ (@pa_nil _)) (by walk_at "n")) (@kIx _ K _ _ _ _ _ (@kIx _ K _ _ _ _ _ (@vw _ 1 _ _ (by left)) (@pe_int _ _ _ _) (by intro _ _; rfl) (by rfl)) (@kIx _ K _ _ _ _ _ (@vw _ 2 _ _ (by left)) (@pe_int _ _ _ _) (by intro _ _; rfl) (by rfl)) (by intro _ _; rfl) (by rfl)) (@pe_call _ _ _ _ _ _ _ _ _ _ _ _ _ _ _ _ G_Zdraw hr_Zdraw rfl T.m_Zdraw T.F_Zdraw.kp T.b_Zdraw .nil pass0 (@pa_cons _ _ _ _ _ (@vw _ 0 _ _ (by left)) (@pa1 _ _ _ (@pe_int _ _ _ _) (by rfl)) (by rfl)) (by decide) (by rfl) (by rfl))) (by rfl)) (by rfl))))) (@pss_nil _)) (@pss_cons _ _ _ _ _ (@ps_compB _ _ _ _ _ _ _ (["_law_k", "_law_game_here", "_law_things"]) 1 ([1, 2]) _ _ _ _ 5 _ _ _ rfl sc_Ztree.nd rfl rfl (@pi_range1 _ _ _ _ _ _ rfl T.z_range (@pa1 _ _ _ (@pe_callB _ _ _ _ _ _ _ _ _ (kLen (K := K)) rfl T.z_len (by rfl) (@pa1 _ _ _ (@kIx _ K _ _ _ _ _ (@vw _ 1 _ _ (by left)) (@pe_int _ _ _ _) (by intro _ _; rfl) (by rfl)) (by rfl)) (by decide) (by decide) (by rfl) (by rfl)) (by rfl)) (by rfl)) (by kernel_rfl) rfl rfl (by kernel_rfl) (fun c => @pg_name _ _ 0 _ (show (["_law_k", "_law_game_here", "_law_things"] : List Str).Nodup by decide +kernel) rfl (by right) (by symm)) (go_name (by decide)) (fun c => @pts_one _ _ _ (@tu_cmp _ _ _ _ _ _ _ _ (kNotInD (K := K) hu) (@pe_tup _ _ _ _ _ (@pa_nil _)) (@pe_call _ _ _ _ _ _ _ _ _ _ _ _ _ _ _ _ G_Zsides hr_Zsides rfl T.m_Zsides T.F_Zsides.kp T.b_Zsides .nil pass0 (@pa_cons _ _ _ _ _ (@vw _ 1 _ _ (by left)) (@pa_cons _ _ _ _ _ (@vw _ 2 _ _ (by left)) (@pa1 _ _ _ (@vw _ 0 _ _ (by left)) (by rfl)) (by rfl)) (by rfl)) (by decide) (by rfl) (by rfl)) (by walk_at "n"))) (fun c => (@vw _ 0 _ _ (by left))) (by rfl) (by intro _; rfl)) (@pss_cons _ _ _ _ _ (@ps_set _ _ 6 _ _ _ _ sc_Ztree.nd rfl (by right) (@pe_call _ _ _ _ _ _ _ _ _ _ _ _ _ _ _ _ G_Zdraw hr_Zdraw rfl T.m_Zdraw T.F_Zdraw.kp T.b_Zdraw .nil pass0 (@pa_cons _ _ _ _ _ (@vw _ 0 _ _ (by left)) (@pa1 _ _ _ (@pe_callB _ _ _ _ _ _ _ _ _ (kLen (K := K)) rfl T.z_len (by rfl) (@pa1 _ _ _ (@kIx _ K _ _ _ _ _ (@vw _ 1 _ _ (by left)) (@pe_int _ _ _ _) (by intro _ _; rfl) (by rfl)) (by rfl)) (by decide) (by decide) (by rfl) (by rfl)) (by rfl)) (by rfl)) (by decide) (by rfl) (by rfl)) (by rfl) (by symm)) (@pss_cons _ _ _ _ _ (@ps_if _ _ _ _ _ _ _ _ (PW.pt (@pw_and _ _ _ _ _ _ _ (@tu_cmp _ _ _ _ _ _ _ _ (kNeX (K := K) hu) (@vw _ 5 _ _ (by left)) (@pe_lst _ _ _ _ (@pa_nil _)) (by walk_at "n")) (@pw_and1 _ _ _ _ (@tu_cmp _ _ _ _ _ _ _ _ om_gt (@pe_call _ _ _ _ _ _ _ _ _ _ _ _ _ _ _ _ G_Zdraw hr_Zdraw rfl T.m_Zdraw T.F_Zdraw.kp T.b_Zdraw .nil pass0 (@pa_cons _ _ _ _ _ (@vw _ 0 _ _ (by left)) (@pa1 _ _ _ (@pe_int _ _ _ _) (by rfl)) (by rfl)) (by decide) (by rfl) (by rfl)) (@pe_int _ _ _ _) (by walk_at "n"))))) (@pss_one _ _ _ (@ps_set _ _ 6 _ _ _ _ sc_Ztree.nd rfl (by right) (@kIx _ K _ _ _ _ _ (@vw _ 5 _ _ (by left)) (@pe_call _ _ _ _ _ _ _ _ _ _ _ _ _ _ _ _ G_Zdraw hr_Zdraw rfl T.m_Zdraw T.F_Zdraw.kp T.b_Zdraw .nil pass0 (@pa_cons _ _ _ _ _ (@vw _ 0 _ _ (by left)) (@pa1 _ _ _ (@pe_callB _ _ _ _ _ _ _ _ _ (kLen (K := K)) rfl T.z_len (by rfl) (@pa1 _ _ _ (@vw _ 5 _ _ (by left)) (by rfl)) (by decide) (by decide) (by rfl) (by rfl)) (by rfl)) (by rfl)) (by decide) (by rfl) (by rfl)) (by intro _ _; rfl) (by rfl)) (by rfl) (by symm))) (@pss_nil _)) (@pss_cons _ _ _ _ _ (@ps_set _ _ 7 _ _ _ _ sc_Ztree.nd rfl (by right) (@pe_call _ _ _ _ _ _ _ _ _ _ _ _ _ _ _ _ G_Zsides hr_Zsides rfl T.m_Zsides T.F_Zsides.kp T.b_Zsides .nil pass0 (@pa_cons _ _ _ _ _ (@vw _ 1 _ _ (by left)) (@pa_cons _ _ _ _ _ (@vw _ 2 _ _ (by left)) (@pa1 _ _ _ (@vw _ 6 _ _ (by left)) (by rfl)) (by rfl)) (by rfl)) (by decide) (by rfl) (by rfl)) (by rfl) (by symm)) (@pss_cons _ _ _ _ _ (@ps_set _ _ 8 _ _ _ _ sc_Ztree.nd rfl (by right) (@pe_call _ _ _ _ _ _ _ _ _ _ _ _ _ _ _ _ G_Ztree hr_Ztree rfl T.m_Ztree T.F_Ztree.kp T.b_Ztree .nil pass0 (@pa_cons _ _ _ _ _ (@vw _ 0 _ _ (by left)) (@pa_cons _ _ _ _ _ (@vw _ 1 _ _ (by left)) (@pa_cons _ _ _ _ _ (@kIx _ K _ _ _ _ _ (@vw _ 7 _ _ (by left)) (@pe_int _ _ _ _) (by intro _ _; rfl) (by rfl)) (@pa1 _ _ _ (@pe_op _ _ _ _ _ _ _ _ om_sub (@vw _ 3 _ _ (by left)) (@pe_int _ _ _ _)) (by rfl)) (by rfl)) (by rfl)) (by rfl)) (by decide) (by rfl) (by rfl)) (by rfl) (by symm)) (@pss_one _ _ _ (@ps_ret _ _ _ _ (@pe_tup _ _ _ _ _ (@pa_cons _ _ _ _ _ (@pe_str _ _ _ _) (@pa_cons _ _ _ _ _ (@vw _ 6 _ _ (by left)) (@pa_cons _ _ _ _ _ (@vw _ 8 _ _ (by left)) (@pa1 _ _ _ (@pe_call _ _ _ _ _ _ _ _ _ _ _ _ _ _ _ _ G_Ztree hr_Ztree rfl T.m_Ztree T.F_Ztree.kp T.b_Ztree .nil pass0 (@pa_cons _ _ _ _ _ (@vw _ 0 _ _ (by left)) (@pa_cons _ _ _ _ _ (@vw _ 1 _ _ (by left)) (@pa_cons _ _ _ _ _ (@kIx _ K _ _ _ _ _ (@vw _ 7 _ _ (by left)) (@pe_int _ _ _ _) (by intro _ _; rfl) (by rfl)) (@pa1 _ _ _ (@pe_op _ _ _ _ _ _ _ _ om_sub (@vw _ 3 _ _ (by left)) (@pe_int _ _ _ _)) (by rfl)) (by rfl)) (by rfl)) (by rfl)) (by decide) (by rfl) (by rfl)) (by rfl)) (by rfl)) (by rfl)) (by rfl)))))))))))), ?_⟩
 refine seq_at (fun σ H' => ∃ b : Bool, σ = [some (.ref t), some (.ref a), some (.ref p), some (.int d), some (.bl b), none, none, none, none] /\ Same H H') ?_ ?_ (by walk_at "sm")
 ·refine .inr ⟨⟨_, n0.s⟩, ?_⟩
  refine comp_tup (xs := iL ts) (fun k zs H' => H' = H /\ zs = ((ts.take k).map fun i => ls.getD i 0).map V.int) ⟨rfl, rfl⟩ (fun k zs H' _ ⟨e, _⟩ => by rw [e]; exact n0.s) (fun k zs H' hk ⟨_, e⟩ => by
   rw [iL_len] at hk
   rw [e, List.length_map, List.length_map, List.length_take]; exact small1000 (by omega)) ?_ ?_
  ·rintro k x zs H' hx ⟨rfl, rfl⟩
   obtain ⟨i, hi, hmem, rfl⟩ := iL_at hx
   refine ⟨_, .ref tl, .inr g.two, rfl, _, .int (ls.getD i 0), .inr g.lab, labat (hlt i hmem), rfl, ?_⟩
   rw [List.take_add_one, hi, List.map_append, List.map_append]
   rfl
  ·rintro zs H' ⟨rfl, rfl⟩ l hl'
   rw [iL_len, List.take_length]
   refine ⟨_, .of upd_same, by rw [List.length_map]; omega, fun ds qs nd hmem hqs => ?_⟩
   have S := (Same.upd (o := .lst ((ts.map fun i => ls.getD i 0).map V.int)) hl').trans (Same.upd (o := setO ds) hqs)
   exact ⟨ds, upd_same, _, rfl, S⟩
 rintro σ H1 ⟨b, rfl, s1⟩
 have n1 := n0.same s1
 have f1 : Frm t H H1 := s1.frm
 have sayR : ∀ (b : Bool) (H2 : Hp) (N2 : Nat), TS_ K H2 t p N2 (.ref a) ls rs ts -> N2 + 1 <= N + cst d -> Frm t H H2 ->
  tTup (tCons (tC (V.str (Str.ofString "say"))) (tCons (tIf (uB (tOp (mNeX K) (vVar 2) (tTup tNil))) (tOp (mIx K) (tOp (mIx K) (vVar 1) (tC (V.int 0))) (tOp (mIx K) (vVar 2) (tC (V.int 0)))) (tCall spGDraw [] E0 (tCons (vVar 0) (tCons (tC (V.int 3)) tNil)))) tNil)) [some (.ref t), some (.ref a), some (.ref p), some (.int d), some (.bl b), none, none, none, none] H2 Q := by
  intro b H2 N2 n2 hN2 f2
  refine ⟨Nat.zero_le _, fun r0 m0 => ⟨iL ts, .inl ⟨(Same.upd m0).sqT n2.s, .of upd_same⟩, ?_⟩⟩
  have n3 := n2.same (Same.upd (o := .tup []) m0)
  have f3 := f2.trans (Same.upd (o := .tup []) m0).frm
  generalize upd H2 r0 (.tup []) = H3 at *
  obtain ⟨a', tl', rl', ps', ea, g'⟩ := gm_open n3.r
  cases ea
  refine ite2 (fun e => ?_) (fun e => ?_)
  ·have hpos : 0 < ts.length := by
    rcases Nat.eq_zero_or_pos ts.length with z | z
    ·rw [List.length_eq_zero_iff.mp z] at e
     cases e
    ·exact z
   have h0 : ts.getD 0 0 < ls.length := hlt _ (by rw [List.getD_eq_getElem?_getD, List.getElem?_eq_getElem hpos]; exact List.getElem_mem hpos)
   have ht0 : (iL ts)[0]? = some (.int (ts.getD 0 0 : Nat)) := by
    unfold iL
    rw [List.getElem?_map, List.getElem?_eq_getElem hpos, List.getD_eq_getElem?_getD, List.getElem?_eq_getElem hpos]
    rfl
   have hsm := lab_sm G h0
   have hat := labat h0
   generalize ts.getD 0 0 = t0 at *
   generalize ls.getD t0 0 = y at *
   refine ⟨_, .ref tl', .inr g'.two, rfl, _, .int (t0 : Int), .inr n3.s, atI_of (n := 0) rfl ht0, _, .int y, .inr g'.lab, hat, small_le (show 2 <= 1000 by decide), fun r m => ?_⟩
   exact q (.say y) _ _ (rep_tup2 (.of upd_same) (reps_cons (by unfold Rep; rfl) (reps_cons (by unfold Rep; rfl) reps_nil))) trivial (by show 1 <= d + 1; omega) hsm ((n3.F.same (Same.upd m)).mono (by omega)) (f3.trans (Same.upd m).frm)
  ·refine ⟨N2, n3.F, by omega, okDiv_of (by decide) (by decide), fun y H4 y0 y1 F4 f4 => ⟨small_le (show 2 <= 1000 by decide), fun r m => ?_⟩⟩
   exact q (.say y) _ _ (rep_tup2 (.of upd_same) (reps_cons (by unfold Rep; rfl) (reps_cons (by unfold Rep; rfl) reps_nil))) trivial (by show 1 <= d + 1; omega) (by show y.natAbs <= _; omega) ((F4.same (Same.upd m)).mono (by omega)) (f3.trans ((frm_un f4).trans (Same.upd m).frm))
 refine seq_at (fun σ H' => σ = [some (.ref t), some (.ref a), some (.ref p), some (.int d), some (.bl b), none, none, none, none] /\ TS_ K H' t p (N + 1) (.ref a) ls rs ts /\ Frm t H H' /\ 0 < d) ?_ ?_ (by walk_at "sm")
 ·refine ite2 (fun e => sayR b H1 N n1 (by omega) f1) (fun e => ?_)
  have hd0 : 0 < d := by
   rcases Nat.eq_zero_or_pos d with z | z
   ·subst z; exact absurd (by rfl) e
   ·exact z
  refine ite2 (fun e2 => ?_) (fun e2 => ⟨rfl, n1.mono (by omega), f1, hd0⟩)
  refine ⟨N, n1.F, by omega, okDiv_of (by decide) (by decide), fun y H2 y0 y1 F2 f2 => ?_⟩
  have n2 := n1.frm F2 (frm_un f2)
  have fr2 := f1.trans (frm_un f2)
  exact ite2 (fun e3 => sayR b H2 (N + 1) n2 (by omega) fr2) (fun e3 => ⟨rfl, n2, fr2, hd0⟩)
 rintro σ H2 ⟨rfl, n2, f2, hd0⟩
 clear s1 n1 f1 H1 g
 obtain ⟨e, rfl⟩ : ∃ e, d = e + 1 := ⟨d - 1, by omega⟩
 have hcst : cst (e + 1) = 4 + 2 * cst e := rfl
 obtain ⟨a', tl', rl', ps', ea, g⟩ := gm_open n2.r
 cases ea
 have hrow : ∀ i, i < rs.length -> rs[i]? = some (rs.getD i []) := fun i hi => by simp [List.getD_eq_getElem?_getD, hi]
 have hidep : ∀ xs : List Nat, depD (.tup (iD xs)) <= 50 := fun xs => by unfold depD; rw [depDs_iD]; omega
 refine seq_at (fun σ H' => ∃ (lx : Addr) (zs : List Nat), σ = [some (.ref t), some (.ref a), some (.ref p), some (.int ((e + 1 : Nat) : Int)), some (.bl b), some (.ref lx), none, none, none] /\ TS_ K H' t p (N + 1) (.ref a) ls rs ts /\ Frm t H H' /\ H' lx = some (.lst (iL zs)) /\ lx ≠ t /\ (∀ z ∈ zs, z < rs.length) /\ zs.length <= 16) ?_ ?_ (by walk_at "sm")
 ·refine ⟨_, .ref rl', .inr g.two, rfl, rs.length, .inr ⟨_, g.rows, by rw [List.length_map, g.len]⟩, rs.length, rfl, by omega, by omega, ?_⟩
  refine comp_range (fun i ys H' => Same H2 H' /\ ∃ zs : List Nat, ys = iL zs /\ (∀ z ∈ zs, z < rs.length) /\ zs.length <= i) ⟨Same.refl _, [], rfl, nofun, Nat.le_refl _⟩ (fun i ys H' hi ⟨_, zs, e', _, hz⟩ => by
   rw [e', iL_len]; exact small1000 (by omega)) ?_ ?_
  ·rintro i ys H3 hi ⟨s3, zs, rfl, hz, hzl⟩
   have hi' : i < rs.length := by omega
   rw [show (0 : Int) + (i : Int) = (i : Int) from Int.zero_add _]
   have n3 := n2.same s3
   refine ⟨Nat.zero_le _, fun r0 m0 => ⟨ls, rs, ts, i, rs.getD i [], Rep.same (Same.upd m0) _ _ n3.r, G, (Same.upd m0).sqT n3.s, by omega, hlt, rfl, hrow i hi', fun l pn py H4 hl4 s4 g4 gn4 gy4 => ?_⟩⟩
   have S4 := s3.trans ((Same.upd (o := .tup []) m0).trans s4)
   refine ⟨_, [.tup (iD (lefts (rs.getD i []) false ts)), .tup (iD (lefts (rs.getD i []) true ts))], .tup [], .inl (.of g4), reps_cons (rep_tup2 (.of gn4) (reps_iD _)) (reps_cons (rep_tup2 (.of gy4) (reps_iD _)) reps_nil), rep_tup2 (.of (s4 _ _ upd_same)) reps_nil, ?_, ?_⟩
   ·intro x hx
    simp only [List.mem_cons, List.not_mem_nil, or_false] at hx
    rcases hx with rfl | rfl
    ·exact hidep _
    ·exact hidep _
   ·refine ite2 (fun _ => ⟨S4, zs ++ [i], ?_, ?_, by rw [List.length_append]; show zs.length + 1 <= i + 1; omega⟩) (fun _ => ⟨S4, zs, rfl, hz, by omega⟩)
    ·rw [iL_app]; rfl
    ·intro z hz'
     rcases List.mem_append.mp hz' with h | h
     ·exact hz z h
     ·rw [List.mem_singleton.mp h]; exact hi'
  ·rintro ys H3 ⟨s3, zs, rfl, hz, hzl⟩ lx hlx
   have n3 := n2.same s3
   exact ⟨lx, zs, rfl, n3.same (Same.upd hlx), f2.trans (s3.trans (Same.upd hlx)).frm, upd_same, n3.F.neT hlx, hz, by omega⟩
 rintro σ H3 ⟨lx, zs, rfl, n3, f3, gx, nlx, hz, hzl⟩
 clear g
 obtain ⟨a', tl', rl', ps', ea, g⟩ := gm_open n3.r
 cases ea
 refine ⟨_, .ref rl', .inr g.two, rfl, rs.length, .inr ⟨_, g.rows, by rw [List.length_map, g.len]⟩, N + 1, n3.F, by omega, okDiv_of (by omega) (by omega), fun y H4 y0 y1 F4 f4 => ?_⟩
 obtain ⟨q0, rfl⟩ := Int.eq_ofNat_of_zero_le y0
 have n4 := n3.frm F4 (frm_un f4)
 have fr4 := f3.trans (frm_un f4)
 have gx4 : H4 lx = some (.lst (iL zs)) := by rw [f4 lx nlx]; exact gx
 dsimp only [gName]
 refine seq_at (fun σ H' => ∃ q1 : Nat, q1 < rs.length /\ σ = [some (.ref t), some (.ref a), some (.ref p), some (.int ((e + 1 : Nat) : Int)), some (.bl b), some (.ref lx), some (.int (q1 : Int)), none, none] /\ TS_ K H' t p (N + 4) (.ref a) ls rs ts /\ Frm t H H') ?_ ?_ (by walk_at "sm")
 ·refine ⟨Nat.zero_le _, fun r0 m0 => ⟨iL zs, .inr ⟨.of (Same.upd m0 _ _ gx4), .of upd_same⟩, ?_⟩⟩
  have n5 := n4.same (Same.upd (o := .lst []) m0)
  have fr5 := fr4.trans (Same.upd (o := .lst []) m0).frm
  have gx5 := Same.upd (o := .lst []) m0 _ _ gx4
  generalize upd H4 r0 (.lst []) = H5 at *
  refine ite2 (fun e1 => ?_) (fun e1 => ⟨q0, by omega, rfl, n5.mono (by omega), fr5⟩)
  have hzp : 0 < zs.length := by
   cases zs with
   | nil => cases e1
   | cons _ _ => exact Nat.succ_pos _
  refine ⟨N + 2, n5.F, by omega, okDiv_of (by decide) (by decide), fun y6 H6 y60 y61 F6 f6 => ?_⟩
  have n6 := n5.frm F6 (frm_un f6)
  have fr6 := fr5.trans (frm_un f6)
  have gx6 : H6 lx = some (.lst (iL zs)) := by rw [f6 lx nlx]; exact gx5
  refine ite2 (fun e2 => ?_) (fun e2 => ⟨q0, by omega, rfl, n6.mono (by omega), fr6⟩)
  refine ⟨zs.length, .inl ⟨_, .of gx6, by rw [iL_len]⟩, N + 3, n6.F, by omega, okDiv_of (by omega) (by omega), fun y7 H7 y70 y71 F7 f7 => ?_⟩
  obtain ⟨j7, rfl⟩ := Int.eq_ofNat_of_zero_le y70
  have hj7 : j7 < zs.length := by omega
  have gx7 : H7 lx = some (.lst (iL zs)) := by rw [f7 lx nlx]; exact gx6
  refine ⟨_, .int (zs[j7] : Nat), .inl (.of gx7), atI_of rfl ?_, zs[j7], hz _ (List.getElem_mem hj7), rfl, n6.frm F7 (frm_un f7), fr6.trans (frm_un f7)⟩
  unfold iL
  rw [List.getElem?_map, List.getElem?_eq_getElem hj7]
  rfl
 rintro σ H5 ⟨q1, hq1, rfl, n5, f5⟩
 refine ⟨ls, rs, ts, q1, rs.getD q1 [], n5.r, G, n5.s, by omega, hlt, rfl, hrow q1 hq1, fun l pn py H6 hl6 s6 g6 gn6 gy6 => ?_⟩
 have n6 := n5.same s6
 have f6 := f5.trans s6.frm
 dsimp only [gName]
 have hlm : ∀ b0 x, x ∈ lefts (rs.getD q1 []) b0 ts -> x < ls.length := fun b0 x hx => hlt x (lefts_sub hx)
 have hll : ∀ b0, (lefts (rs.getD q1 []) b0 ts).length <= 16 := fun b0 => Nat.le_trans (lefts_len _ _ _) hl16
 have he1 : ((e + 1 : Nat) : Int) - 1 = (e : Int) := by omega
 refine ⟨_, .ref pn, .inl (.of g6), rfl, ?_⟩
 refine ⟨N + 4, e, ls, rs, lefts (rs.getD q1 []) false ts, ⟨n6.F, n6.r, .of gn6⟩, by omega, G, hlm false, hll false, he1, by omega, fun tr1 v1 H7 r1' o1 d1 m1 F7 fr7 => ?_⟩
 dsimp only [gName]
 have nlt : l ≠ t := n5.F.neT hl6
 have g7 := fr7 _ _ nlt g6
 have n7 := n6.frm F7 fr7
 have gy7 : SqT K H7 py (iL (lefts (rs.getD q1 []) true ts)) := sqT_fr fr7 n6.F.lst (.of gy6)
 refine ⟨_, .ref py, .inl (.of g7), rfl, ?_⟩
 refine ⟨N + 4 + cst e, e, ls, rs, lefts (rs.getD q1 []) true ts, ⟨F7, n7.r, gy7⟩, by omega, G, hlm true, hll true, he1, by omega, fun tr2 v2 H8 r2' o2 d2 m2 F8 fr8 => ⟨small_le (show 4 <= 1000 by decide), fun r m => ?_⟩⟩
 have r1'' := Rep.same (Same.upd (o := .tup [.str (Str.ofString "ask"), .int (q1 : Int), v1, v2]) m) _ _ (Rep.frm fr8 F7.lst _ _ tr1.tups r1')
 have r2'' := Rep.same (Same.upd (o := .tup [.str (Str.ofString "ask"), .int (q1 : Int), v1, v2]) m) _ _ r2'
 exact q (.ask q1 tr1 tr2) _ _ (rep_tup2 (.of upd_same) (reps_cons (by unfold Rep; rfl) (reps_cons (by unfold Rep; rfl) (reps_cons r1'' (reps_cons r2'' reps_nil))))) ⟨hq1, o1, o2⟩ (by show 1 + max tr1.deep tr2.deep <= e + 1 + 1; omega) ⟨m1, m2⟩ ((F8.same (Same.upd m)).mono (by omega)) (f6.trans (fr7.trans (fr8.trans (Same.upd m).frm)))
theorem tree_all : ∀ D : Nat, FnOk P w K mg base CX0 (D + 3) T.f_Ztree T.d_Ztree ["_law_feed_here", "_law_game_here", "_law_things", "_law_deep_here"] (spT K D)
 | 0 => by
  have no : ∀ vs H Q E, ¬ spT K 0 vs H Q E := fun vs H Q E h => by
   unfold spT at h
   split at h
   ·obtain ⟨_, _, _, _, _, _, _, _, _, _, _, z, _⟩ := h; exact absurd z (Nat.not_lt_zero _)
   ·exact h
  exact ⟨fun vs H Q E h => (no _ _ _ _ h).elim, fun A outer s H args us vs Q E _ _ _ _ h => (no _ _ _ _ h).elim⟩
 | c + 1 => tree_at T c (tree_all c)
theorem ok_Ztree : FnOk P w K mg base CX0 14 T.f_Ztree T.d_Ztree ["_law_feed_here", "_law_game_here", "_law_things", "_law_deep_here"] (spT K 11) := tree_all T 11
theorem atI_mem {xs : List V} {i : Int} (h0 : 0 <= i) (h1 : i < xs.length) : ∃ z, atI xs i = some z /\ z ∈ xs := by
 obtain ⟨n, rfl⟩ := Int.eq_ofNat_of_zero_le h0
 have hn : n < xs.length := by omega
 exact ⟨xs[n], atI_of rfl (List.getElem?_eq_getElem hn), List.getElem_mem hn⟩
theorem cutW {K : W.Frag} {H : Hp} {ds : List Dw} {xs : List V} (lo hi : Option Int) (r : RepsW K H ds xs) : ∃ i k, RepsW K H ((ds.drop i).take k) (cutV xs lo hi) := by
 unfold cutV
 exact ⟨_, _, (r.drop _).take _⟩
theorem sqT_frm {K : W.Frag} {H H' : Hp} {t a : Addr} {xs : List V} (f : Frm t H H') (ht : ∃ zs, H t = some (.lst zs)) (h : SqT K H a xs) : SqT K H' a xs := by
 obtain ⟨zs, hz⟩ := ht
 rcases h with (h1 | ⟨o, h1⟩) | h1
 ·exact .inl (.inl (f a _ (fun q => by rw [q, hz] at h1; cases h1) h1))
 ·exact .inl (.inr ⟨o, f a _ (fun q => by rw [q, hz] at h1; cases h1) h1⟩)
 ·exact .inr h1
theorem szl {n : Nat} (h : n <= 100000) : n <= sizeLine := by
 have e : sizeLine = 16777216 := by decide
 omega
def spB (K : W.Frag) (D : Nat) : Sp := fun vs H Q _ => match vs with
 | [.ref t, v] => ∃ (d : Dw) (N n D' B : Nat), GFeed H t N /\ N + 2 * D <= 700000000 /\ RepW K H d v /\ Fit n D' B d /\ D' < D /\ B <= 8000 /\ 100000000000000000000 <= n /\ n <= 1000000000000000000000 /\ ∀ d' u H', RepW K H' d' u -> Fit (n + 1) (D' + 1) (2 * B + 62) d' -> GFeed H' t (N + 2 * D) -> Frm t H H' -> Q u H'
 | _ => False
theorem spB_mono {D : Nat} : SpMono (spB K D) := fun vs H Q Q' E h q => by
 unfold spB at *
 split at q
 ·revert q; repeat' first | exact h _ _ | exact newL_mono h | exact out_mono h | exact outT_mono h | walk_at "m"
 ·exact q.elim
theorem bent_d : ∀ D : Nat, FnOk P w K mg base CX0 (1 + D) T.f_Zbent T.d_Zbent ["_law_feed_here", "_law_thing"] (spB K D) := by
 intro D
 induction D with
 | zero =>
  refine T.F_Zbent.ok sc_Zbent (fun vs H Q E h => by unfold spB at h; split at h <;> first | rfl | exact h.elim) (fun cdv A outer s H vs Q E hr h => ?_)
  refine ⟨tNever, pss_never, ?_⟩
  unfold spB at h
  split at h
  ·obtain ⟨d, N, n, D', B, h1, h2, h3, h4, h5, _⟩ := h
   exact absurd h5 (by omega)
  ·exact h
 | succ D ih =>
  have G_Zbent := ih
  have G_Zdraw := ok_Zdraw (P := P) (w := w) (base := base) T
  refine T.F_Zbent.ok sc_Zbent (fun vs H Q E h => by unfold spB at h; split at h <;> first | rfl | exact h.elim) (fun cdv A outer s H vs Q E hr h => ?_)
  have hu := hu60 hr
  have hr_Zbent := hr
  have hr_Zdraw := hr.mono (show 1 <= 1 + D by omega)
  have mo : SpMono (spB K D) := spB_mono
  match vs, h with
  | [.ref t, v], h =>
  obtain ⟨d, N, n, D', B, F, hN, hd, fit, hD, hB, n20, n21, q⟩ := h
  refine ⟨_, (@pss_cons _ _ _ _ _ (@ps_if _ _ _ _ _ _ _ _ (PW.pt (@pw_and _ _ _ _ _ _ _ (@tu_val _ _ _ (@pe_callB _ _ _ _ _ _ _ _ _ (kIsiW (K := K)) rfl T.z_isinstance (by rfl) (@pa_cons _ _ _ _ _ (@vw _ 1 _ _ (by left)) (@pa1 _ _ _ (@pe_bltn _ _ (.ty "tuple") _ _ rfl T.z_tuple (by rfl) rfl (by decide) (by decide)) (by rfl)) (by rfl)) (by decide) (by decide) (by rfl) (by rfl)) (by intro _; rfl)) (@pw_and _ _ _ _ _ _ _ (@tu_cmp _ _ _ _ _ _ _ _ (kNeX (K := K) hu) (@vw _ 1 _ _ (by left)) (@pe_tup _ _ _ _ _ (@pa_nil _)) (by walk_at "n")) (@pw_and1 _ _ _ _ (@tu_cmp _ _ _ _ _ _ _ _ om_gt (@pe_call _ _ _ _ _ _ _ _ _ _ _ _ _ _ _ _ G_Zdraw hr_Zdraw rfl T.m_Zdraw T.F_Zdraw.kp T.b_Zdraw .nil pass0 (@pa_cons _ _ _ _ _ (@vw _ 0 _ _ (by left)) (@pa1 _ _ _ (@pe_int _ _ _ _) (by rfl)) (by rfl)) (by decide) (by rfl) (by rfl)) (@pe_int _ _ _ _) (by walk_at "n")))))) (@pss_cons _ _ _ _ _ (@ps_set _ _ 2 _ _ _ _ sc_Zbent.nd rfl (by right) (@pe_call _ _ _ _ _ _ _ _ _ _ _ _ _ _ _ _ G_Zdraw hr_Zdraw rfl T.m_Zdraw T.F_Zdraw.kp T.b_Zdraw .nil pass0 (@pa_cons _ _ _ _ _ (@vw _ 0 _ _ (by left)) (@pa1 _ _ _ (@pe_callB _ _ _ _ _ _ _ _ _ (kLen (K := K)) rfl T.z_len (by rfl) (@pa1 _ _ _ (@vw _ 1 _ _ (by left)) (by rfl)) (by decide) (by decide) (by rfl) (by rfl)) (by rfl)) (by rfl)) (by decide) (by rfl) (by rfl)) (by rfl) (by symm)) (@pss_one _ _ _ (@ps_ret _ _ _ _ (@pe_op _ _ _ _ _ _ _ _ (kAddA (K := K)) (@pe_op _ _ _ _ _ _ _ _ (kAddA (K := K)) (@kCutA _ K _ _ _ _ _ _ _ _ (@vw _ 1 _ _ (by left)) (@po_none _) (@po_some _ _ _ (@vw _ 2 _ _ (by left))) (by rfl)) (@pe_tup _ _ _ _ _ (@pa1 _ _ _ (@pe_call _ _ _ _ _ _ _ _ _ _ _ _ _ _ _ _ G_Zbent hr_Zbent rfl T.m_Zbent T.F_Zbent.kp T.b_Zbent .nil pass0 (@pa_cons _ _ _ _ _ (@vw _ 0 _ _ (by left)) (@pa1 _ _ _ (@kIx _ K _ _ _ _ _ (@vw _ 1 _ _ (by left)) (@vw _ 2 _ _ (by left)) (by intro _ _; rfl) (by rfl)) (by rfl)) (by rfl)) (by decide) (by rfl) (by rfl)) (by rfl)))) (@kCutA _ K _ _ _ _ _ _ _ _ (@vw _ 1 _ _ (by left)) (@po_some _ _ _ (@pe_op _ _ _ _ _ _ _ _ (kAddA (K := K)) (@vw _ 2 _ _ (by left)) (@pe_int _ _ _ _))) (@po_none _) (by rfl)))))) (@pss_nil _)) (@pss_cons _ _ _ _ _ (@ps_if _ _ _ _ _ _ _ _ (@tu_val _ _ _ (@pe_callB _ _ _ _ _ _ _ _ _ (kIsiW (K := K)) rfl T.z_isinstance (by rfl) (@pa_cons _ _ _ _ _ (@vw _ 1 _ _ (by left)) (@pa1 _ _ _ (@pe_bltn _ _ (.ty "tuple") _ _ rfl T.z_tuple (by rfl) rfl (by decide) (by decide)) (by rfl)) (by rfl)) (by decide) (by decide) (by rfl) (by rfl)) (by intro _; rfl)) (@pss_cons _ _ _ _ _ (@ps_set _ _ 3 _ _ _ _ sc_Zbent.nd rfl (by right) (@pe_call _ _ _ _ _ _ _ _ _ _ _ _ _ _ _ _ G_Zdraw hr_Zdraw rfl T.m_Zdraw T.F_Zdraw.kp T.b_Zdraw .nil pass0 (@pa_cons _ _ _ _ _ (@vw _ 0 _ _ (by left)) (@pa1 _ _ _ (@pe_int _ _ _ _) (by rfl)) (by rfl)) (by decide) (by rfl) (by rfl)) (by rfl) (by symm)) (@pss_one _ _ _ (@ps_ret _ _ _ _ (@kIx _ K _ _ _ _ _ (@pe_lst _ _ _ _ (@pa_cons _ _ _ _ _ (@pe_callTy _ _ _ _ _ _ _ _ _ (kListX (K := K)) rfl T.z_list (by rfl) (@pa1 _ _ _ (@vw _ 1 _ _ (by left)) (by rfl)) (by decide) (by decide) (by rfl) (by rfl)) (@pa_cons _ _ _ _ _ (@kCutA _ K _ _ _ _ _ _ _ _ (@vw _ 1 _ _ (by left)) (@po_some _ _ _ (@pe_int _ _ _ _)) (@po_none _) (by rfl)) (@pa_cons _ _ _ _ _ (@pe_op _ _ _ _ _ _ _ _ (kAddA (K := K)) (@vw _ 1 _ _ (by left)) (@kCutA _ K _ _ _ _ _ _ _ _ (@vw _ 1 _ _ (by left)) (@po_some _ _ _ (@pe_un _ _ _ _ _ _ um_neg (@pe_int _ _ _ _))) (@po_none _) (by rfl))) (@pa_cons _ _ _ _ _ (@kBack _ K _ _ _ _ _ _ (@vw _ 1 _ _ (by left)) (@pe_un _ _ _ _ _ _ um_neg (@pe_int _ _ _ _)) (by rfl)) (@pa_cons _ _ _ _ _ (@pe_op _ _ _ _ _ _ _ _ (kAddA (K := K)) (@vw _ 1 _ _ (by left)) (@pe_tup _ _ _ _ _ (@pa1 _ _ _ (@pe_int _ _ _ _) (by rfl)))) (@pa1 _ _ _ (@pe_tup _ _ _ _ _ (@pa_nil _)) (by rfl)) (by rfl)) (by rfl)) (by rfl)) (by rfl)) (by rfl))) (@vw _ 3 _ _ (by left)) (by intro _ _; rfl) (by rfl))))) (@pss_nil _)) (@pss_cons _ _ _ _ _ (@ps_if _ _ _ _ _ _ _ _ (@tu_val _ _ _ (@pe_callB _ _ _ _ _ _ _ _ _ (kIsiW (K := K)) rfl T.z_isinstance (by rfl) (@pa_cons _ _ _ _ _ (@vw _ 1 _ _ (by left)) (@pa1 _ _ _ (@pe_bltn _ _ (.ty "bool") _ _ rfl T.z_bool (by rfl) rfl (by decide) (by decide)) (by rfl)) (by rfl)) (by decide) (by decide) (by rfl) (by rfl)) (by intro _; rfl)) (@pss_one _ _ _ (@ps_ret _ _ _ _ (@kIx _ K _ _ _ _ _ (@pe_lst _ _ _ _ (@pa_cons _ _ _ _ _ (@pe_notM _ _ _ _ (@vw _ 1 _ _ (by left))) (@pa_cons _ _ _ _ _ (@pe_callTy _ _ _ _ _ _ _ _ _ cm_int rfl T.z_int (by rfl) (@pa1 _ _ _ (@vw _ 1 _ _ (by left)) (by rfl)) (by decide) (by decide) (by rfl) (by rfl)) (@pa1 _ _ _ (@pe_non _ _ _) (by rfl)) (by rfl)) (by rfl))) (@pe_call _ _ _ _ _ _ _ _ _ _ _ _ _ _ _ _ G_Zdraw hr_Zdraw rfl T.m_Zdraw T.F_Zdraw.kp T.b_Zdraw .nil pass0 (@pa_cons _ _ _ _ _ (@vw _ 0 _ _ (by left)) (@pa1 _ _ _ (@pe_int _ _ _ _) (by rfl)) (by rfl)) (by decide) (by rfl) (by rfl)) (by intro _ _; rfl) (by rfl)))) (@pss_nil _)) (@pss_cons _ _ _ _ _ (@ps_if _ _ _ _ _ _ _ _ (@tu_val _ _ _ (@pe_callB _ _ _ _ _ _ _ _ _ (kIsiW (K := K)) rfl T.z_isinstance (by rfl) (@pa_cons _ _ _ _ _ (@vw _ 1 _ _ (by left)) (@pa1 _ _ _ (@pe_bltn _ _ (.ty "int") _ _ rfl T.z_int (by rfl) rfl (by decide) (by decide)) (by rfl)) (by rfl)) (by decide) (by decide) (by rfl) (by rfl)) (by intro _; rfl)) (@pss_one _ _ _ (@ps_ret _ _ _ _ (@kIx _ K _ _ _ _ _ (@pe_lst _ _ _ _ (@pa_cons _ _ _ _ _ (@pe_op _ _ _ _ _ _ _ _ (kAddA (K := K)) (@vw _ 1 _ _ (by left)) (@pe_int _ _ _ _)) (@pa_cons _ _ _ _ _ (@pe_op _ _ _ _ _ _ _ _ om_sub (@vw _ 1 _ _ (by left)) (@pe_int _ _ _ _)) (@pa_cons _ _ _ _ _ (@pe_cmpM _ _ _ _ _ _ _ _ (kEq (K := K) hu) (@vw _ 1 _ _ (by left)) (@pe_int _ _ _ _) (by walk_at "n")) (@pa_cons _ _ _ _ _ (@pe_un _ _ _ _ _ _ um_neg (@vw _ 1 _ _ (by left))) (@pa_cons _ _ _ _ _ (@pe_callTy _ _ _ _ _ _ _ _ _ cm_str rfl T.z_str (by rfl) (@pa1 _ _ _ (@vw _ 1 _ _ (by left)) (by rfl)) (by decide) (by decide) (by rfl) (by rfl)) (@pa_cons _ _ _ _ _ (@pe_non _ _ _) (@pa_cons _ _ _ _ _ (@pe_int _ _ _ _) (@pa1 _ _ _ (@pe_op _ _ _ _ _ _ _ _ om_pow (@pe_int _ _ _ _) (@pe_int _ _ _ _)) (by rfl)) (by rfl)) (by rfl)) (by rfl)) (by rfl)) (by rfl)) (by rfl)) (by rfl))) (@pe_call _ _ _ _ _ _ _ _ _ _ _ _ _ _ _ _ G_Zdraw hr_Zdraw rfl T.m_Zdraw T.F_Zdraw.kp T.b_Zdraw .nil pass0 (@pa_cons _ _ _ _ _ (@vw _ 0 _ _ (by left)) (@pa1 _ _ _ (@pe_int _ _ _ _) (by rfl)) (by rfl)) (by decide) (by rfl) (by rfl)) (by intro _ _; rfl) (by rfl)))) (@pss_nil _)) (@pss_one _ _ _ (@ps_ret _ _ _ _ (@kIx _ K _ _ _ _ _ (@pe_lst _ _ _ _ (@pa_cons _ _ _ _ _ (@pe_non _ _ _) (@pa_cons _ _ _ _ _ (@pe_bl _ _ _ _) (@pa_cons _ _ _ _ _ (@pe_bl _ _ _ _) (@pa_cons _ _ _ _ _ (@pe_int _ _ _ _) (@pa_cons _ _ _ _ _ (@pe_int _ _ _ _) (@pa_cons _ _ _ _ _ (@pe_un _ _ _ _ _ _ um_neg (@pe_int _ _ _ _)) (@pa_cons _ _ _ _ _ (@pe_str _ _ _ _) (@pa_cons _ _ _ _ _ (@pe_str _ _ _ _) (@pa_cons _ _ _ _ _ (@pe_str _ _ _ _) (@pa_cons _ _ _ _ _ (@pe_tup _ _ _ _ _ (@pa_nil _)) (@pa_cons _ _ _ _ _ (@pe_lstX _ _ _ _ (@pa_nil _)) (@pa_cons _ _ _ _ _ (@pe_dnewK _ _) (@pa_cons _ _ _ _ _ (@pe_tup _ _ _ _ _ (@pa1 _ _ _ (@pe_int _ _ _ _) (by rfl))) (@pa1 _ _ _ (@pe_str _ _ _ _) (by rfl)) (by rfl)) (by rfl)) (by rfl)) (by rfl)) (by rfl)) (by rfl)) (by rfl)) (by rfl)) (by rfl)) (by rfl)) (by rfl)) (by rfl)) (by rfl))) (@pe_call _ _ _ _ _ _ _ _ _ _ _ _ _ _ _ _ G_Zdraw hr_Zdraw rfl T.m_Zdraw T.F_Zdraw.kp T.b_Zdraw .nil pass0 (@pa_cons _ _ _ _ _ (@vw _ 0 _ _ (by left)) (@pa1 _ _ _ (@pe_int _ _ _ _) (by rfl)) (by rfl)) (by decide) (by rfl) (by rfl)) (by intro _ _; rfl) (by rfl)))))))), ?_⟩
  have fin : ∀ (H1 H2 : Hp) (N1 : Nat) (l : Addr) (zs : List V) (i : Int), 0 <= i -> i < zs.length -> H1 l = some (.lst zs) -> l ≠ t -> (∃ ys, H1 t = some (.lst ys)) -> GFeed H2 t N1 -> N1 <= N + 2 * (D + 1) -> (∀ b, b ≠ t -> H2 b = H1 b) -> Frm t H H1 ->
   (∀ z ∈ zs, ∃ d', RepW K H1 d' z /\ Fit (n + 1) (D' + 1) (2 * B + 62) d') -> mIx K (.ref l) (.int i) H2 Q := by
   intro H1 H2 N1 l zs i i0 i1 gl lt ht F2 hN1 f2 f1 hz
   obtain ⟨z, h1, h2⟩ := atI_mem i0 i1
   obtain ⟨d', r, ft⟩ := hz z h2
   exact ⟨_, z, .inl (.of (by rw [f2 l lt]; exact gl)), h1, q d' z H2 (RepW.frm (frm_all f2) ht _ _ r) ft (F2.mono (by omega)) (f1.trans (frm_all f2))⟩
  by_cases ht : ∃ ds, d = .tup ds
  ·obtain ⟨ds, rfl⟩ := ht
   obtain ⟨a, xs, rfl, hs, hx⟩ := repW_tup_inv hd
   have hxl := hx.length
   obtain ⟨D0, rfl⟩ : ∃ D0, D' = D0 + 1 := ⟨D' - 1, by
    have := fit.dep
    unfold depW at this
    omega⟩
   obtain ⟨fi, fb⟩ := fit_tup.mp fit
   have hlen := bulkWs_len ds
   have fi' : ∀ e ∈ ds, okW (n + 1) e = true /\ depW e <= D0 + 1 := fun e he => ⟨okW_mono (by omega) _ (fi e he).1, by have := (fi e he).2; omega⟩
   refine seq_at (fun σ H' => σ = [some (.ref t), some (.ref a), none, none] /\ GFeed H' t (N + 1) /\ Frm t H H') ?_ ?_ (by walk_at "sm")
   ·refine ⟨by decide, _, hd, ?_⟩
    refine ⟨small_le (show 0 <= 1000 by decide), fun p0 hp0 => ?_⟩
    have s0 : Same H (upd H p0 (.tup [])) := Same.upd hp0
    have g0 : upd H p0 (.tup []) p0 = some (.tup []) := upd_same
    generalize upd H p0 (.tup []) = H0 at *
    have f0 : Frm t H H0 := fun b o _ e => s0 b o e
    have F0 := F.same s0
    refine ⟨xs, .inl ⟨s0.sqT hs, .of g0⟩, ?_⟩
    refine ite2 (fun e => ?_) (fun e => ⟨rfl, F0.mono (by omega), f0⟩)
    refine ⟨_, F0, by omega, okDiv_of (by decide) (by decide), fun k H1 _ _ F1 f1 => ?_⟩
    have f01 := f0.trans (frm_all f1)
    refine ite2 (fun e' => ?_) (fun e' => ⟨rfl, F1, f01⟩)
    have hs1 : SqT K H1 a xs := sqT_frm f01 F.lst hs
    have hx1 : RepsW K H1 ds xs := RepsW.frm f01 F.lst _ _ hx
    have hne : 1 <= xs.length := by cases xs with | nil => simp at e | cons _ _ => simp
    refine ⟨xs.length, .inr ⟨xs, hs1, rfl⟩, ?_⟩
    refine ⟨_, F1, by omega, okDiv_of (by omega) (Int.le_trans (show (xs.length : Int) <= 8000 by omega) (by decide)), fun k2 H2 k0 k1 F2 f2 => ?_⟩
    obtain ⟨j, rfl⟩ : ∃ j : Nat, k2 = j := ⟨k2.toNat, by omega⟩
    have hj : j < xs.length := by omega
    have hs2 : SqT K H2 a xs := sqT_frm (frm_all f2) F1.lst hs1
    have hx2 : RepsW K H2 ds xs := RepsW.frm (frm_all f2) F1.lst _ _ hx1
    dsimp only [gName]
    refine ⟨(j : Int), rfl, xs, hs2, fun q1 H3 s3 t3 => ?_⟩
    rw [cut_to _ j (by omega)] at t3
    have hjd : j < ds.length := by omega
    have hk := List.getElem?_eq_getElem hjd
    obtain ⟨y, hy, ry⟩ := hx2.get hk
    have hmem := List.getElem_mem hjd
    have hat := bulkWs_at hk
    generalize ds[j] = e0 at *
    refine ⟨_, y, .inr (s3.sqT hs2), atI_of rfl hy, ?_⟩
    have F3 := F2.same s3
    refine ⟨e0, _, n, D0, bulkW e0, F3, by omega, RepW.same s3 _ _ ry, ⟨(fi e0 hmem).1, (fi e0 hmem).2, Nat.le_refl _⟩, by omega, by omega, n20, n21, fun d' u H4 r4 ft4 F4 f4 => ?_⟩
    have t4 : SqT K H4 q1 (xs.take j) := sqT_frm f4 F3.lst t3
    have hs4 : SqT K H4 a xs := sqT_frm f4 F3.lst (s3.sqT hs2)
    have hx4 : RepsW K H4 ds xs := RepsW.frm f4 F3.lst _ _ (RepsW.same s3 _ _ hx2)
    refine ⟨small_le (show 1 <= 1000 by decide), fun q2 hq2 => ?_⟩
    have s5 : Same H4 (upd H4 q2 (.tup [u])) := Same.upd hq2
    have t5 : SqT K (upd H4 q2 (.tup [u])) q2 [u] := .of upd_same
    generalize upd H4 q2 (.tup [u]) = H5 at *
    refine .inr ⟨_, _, s5.sqT t4, t5, szl (by rw [List.length_take]; show _ + 1 <= _; omega), fun q3 H6 s6 t6 => ?_⟩
    have s46 := s5.trans s6
    refine ⟨(j + 1 : Nat), rfl, xs, s46.sqT hs4, fun q4 H7 s7 t7 => ?_⟩
    rw [cut_from _ (j + 1) (by omega)] at t7
    refine .inr ⟨_, _, s7.sqT t6, t7, szl (by rw [List.length_append, List.length_take, List.length_drop]; show _ + 1 + _ <= _; omega), fun q5 H8 s8 t8 => ?_⟩
    have s48 := s46.trans (s7.trans s8)
    have hx8 := RepsW.same s48 _ _ hx4
    have ft := ft4
    refine q (.tup (ds.take j ++ [d'] ++ ds.drop (j + 1))) _ H8 (repW_tup t8 (((hx8.take j).append (repsW_cons (RepW.same s48 _ _ r4) repsW_nil)).append (hx8.drop (j + 1)))) (fit_tup.mpr ⟨?_, ?_⟩) ((F4.same s48).mono (by omega)) (f01.trans ((frm_all f2).trans (Frm.trans (fun b o _ e => s3 b o e) (f4.trans fun b o _ e => s48 b o e))))
    ·intro e' he'
     rcases List.mem_append.mp he' with h | h
     ·rcases List.mem_append.mp h with h | h
      ·exact fi' e' (List.mem_of_mem_take h)
      ·rw [List.mem_singleton.mp h]; exact ⟨ft.ok, ft.dep⟩
     ·exact fi' e' (List.mem_of_mem_drop h)
    ·rw [bulkWs_app, bulkWs_app]
     have e1 : bulkWs [d'] = bulkW d' + 1 + 0 := rfl
     have e2 := ft.bulk
     omega
   rintro σ H1 ⟨rfl, F1, f1⟩
   have hs1 : SqT K H1 a xs := sqT_frm f1 F.lst hs
   have hd1 : RepW K H1 (.tup ds) (.ref a) := RepW.frm f1 F.lst _ _ hd
   have hx1 : RepsW K H1 ds xs := RepsW.frm f1 F.lst _ _ hx
   refine ⟨by decide, _, hd1, ?_⟩
   refine ⟨_, F1, by omega, okDiv_of (by decide) (by decide), fun way H2 w0 w1 F2 f2 => ?_⟩
   have hs2 : SqT K H2 a xs := sqT_frm (frm_all f2) F1.lst hs1
   have hx2 : RepsW K H2 ds xs := RepsW.frm (frm_all f2) F1.lst _ _ hx1
   dsimp only [gName]
   refine ⟨xs, hs2, fun l hl => ?_⟩
   have s3 : Same H2 (upd H2 l (.ext (LstP l xs))) := Same.upd hl
   have g3 : upd H2 l (.ext (LstP l xs)) l = some (.ext (LstP l xs)) := upd_same
   generalize upd H2 l (.ext (LstP l xs)) = H3 at *
   refine ⟨1, rfl, xs, s3.sqT hs2, fun q1 H4 s4 t4 => ?_⟩
   have S4 := s3.trans s4
   refine ⟨-1, rfl, xs, S4.sqT hs2, fun q2 H5 s5 t5 => ?_⟩
   have S5 := S4.trans s5
   have hc2 := cutV_length xs (some (-1)) none
   refine .inr ⟨_, _, S5.sqT hs2, t5, szl (by omega), fun q3 H6 s6 t6 => ?_⟩
   have S6 := S5.trans s6
   refine ⟨rfl, xs, S6.sqT hs2, fun q4 hq4 => ?_⟩
   have s7 : Same H6 (upd H6 q4 (.tup xs.reverse)) := Same.upd hq4
   have t7 : SqT K (upd H6 q4 (.tup xs.reverse)) q4 xs.reverse := .of upd_same
   generalize upd H6 q4 (.tup xs.reverse) = H7 at *
   refine ⟨small_le (show 1 <= 1000 by decide), fun q5 hq5 => ?_⟩
   have s8 : Same H7 (upd H7 q5 (.tup [.int 0])) := Same.upd hq5
   have t8 : SqT K (upd H7 q5 (.tup [.int 0])) q5 [.int 0] := .of upd_same
   generalize upd H7 q5 (.tup [.int 0]) = H8 at *
   refine .inr ⟨_, _, (S6.trans (s7.trans s8)).sqT hs2, t8, szl (by show _ + 1 <= _; omega), fun q6 H9 s9 t9 => ?_⟩
   refine ⟨small_le (show 0 <= 1000 by decide), fun q7 hq7 => ?_⟩
   have s10 : Same H9 (upd H9 q7 (.tup [])) := Same.upd hq7
   have t10 : SqT K (upd H9 q7 (.tup [])) q7 [] := .of upd_same
   generalize upd H9 q7 (.tup []) = H10 at *
   refine ⟨small_le (show 6 <= 1000 by decide), fun l2 hl2 => ?_⟩
   have s7' := s8.trans (s9.trans s10)
   have s5' := s6.trans (s7.trans s7')
   have S10 := S5.trans s5'
   have F10 := F2.same S10
   have s11 : Same H10 (upd H10 l2 (.lst [.ref l, .ref q1, .ref q3, .ref q4, .ref q6, .ref q7])) := Same.upd hl2
   have g11 : upd H10 l2 (.lst [.ref l, .ref q1, .ref q3, .ref q4, .ref q6, .ref q7]) l2 = some (.lst [.ref l, .ref q1, .ref q3, .ref q4, .ref q6, .ref q7]) := upd_same
   have l2t := F10.neT hl2
   generalize upd H10 l2 (.lst [.ref l, .ref q1, .ref q3, .ref q4, .ref q6, .ref q7]) = H11 at *
   have S11 := S10.trans s11
   have F11 := F2.same S11
   have hx11 := RepsW.same S11 _ _ hx2
   refine fin H11 H11 _ l2 [.ref l, .ref q1, .ref q3, .ref q4, .ref q6, .ref q7] way w0 w1 g11 l2t F11.lst F11 (by omega) (fun _ _ => rfl) (f1.trans ((frm_all f2).trans fun b o _ e => S11 b o e)) ?_
   have sub : ∀ (i k : Nat), ∀ e ∈ (ds.drop i).take k, okW (n + 1) e = true /\ depW e <= D0 + 1 := fun i k e he => fi' e (List.mem_of_mem_drop (List.mem_of_mem_take he))
   have subB : ∀ (i k : Nat), bulkWs ((ds.drop i).take k) <= B := fun i k => Nat.le_trans (bulkWs_take _ _) (Nat.le_trans (bulkWs_drop _ _) fb)
   have hrest := s5'.trans s11
   intro z hz
   simp only [List.mem_cons, List.not_mem_nil, or_false] at hz
   rcases hz with rfl | rfl | rfl | rfl | rfl | rfl
   ·exact ⟨.lst ds, repW_lst ((s4.trans (s5.trans hrest)) _ _ g3) hx11, fit_lst.mpr (fit_tup.mpr ⟨fi', by omega⟩)⟩
   ·obtain ⟨i, k, rc⟩ := cutW (some 1) none hx11
    exact ⟨_, repW_tup ((s5.trans hrest).sqT t4) rc, fit_tup.mpr ⟨sub i k, by have := subB i k; omega⟩⟩
   ·obtain ⟨i, k, rc⟩ := cutW (some (-1)) none hx11
    refine ⟨_, repW_tup (((s7.trans s7').trans s11).sqT t6) (hx11.append rc), fit_tup.mpr ⟨?_, ?_⟩⟩
    ·intro e he
     rcases List.mem_append.mp he with h | h
     ·exact fi' e h
     ·exact sub i k e h
    ·rw [bulkWs_app]
     have := subB i k
     omega
   ·exact ⟨_, repW_tup ((s7'.trans s11).sqT t7) hx11.reverse, fit_tup.mpr ⟨fun e he => fi' e (List.mem_reverse.mp he), by rw [bulkWs_rev]; omega⟩⟩
   ·refine ⟨_, repW_tup ((s10.trans s11).sqT t9) (hx11.append (repsW_cons repW_int repsW_nil)), fit_tup.mpr ⟨?_, ?_⟩⟩
    ·intro e he
     rcases List.mem_append.mp he with h | h
     ·exact fi' e h
     ·rw [List.mem_singleton.mp h]; exact ⟨by unfold okW; simp, by unfold depW; omega⟩
    ·rw [bulkWs_app]
     have : bulkWs [Dw.int 0] = 1 := rfl
     omega
   ·exact ⟨.tup [], repW_tup (s11.sqT t10) repsW_nil, fit_tup.mpr ⟨nofun, Nat.zero_le _⟩⟩
  ·have hleaf : isTy (tyW d) "tuple" = false := by
    cases d with
    | tup ds => exact absurd ⟨ds, rfl⟩ ht
    | _ => rfl
   refine seq_at (fun σ H' => σ = [some (.ref t), some v, none, none] /\ H = H') ?_ ?_ (by walk_at "sm")
   ·refine ⟨by decide, d, hd, ?_⟩
    rw [hleaf]
    exact ⟨rfl, rfl⟩
   rintro σ _ ⟨rfl, rfl⟩
   refine seq_at (fun σ H' => σ = [some (.ref t), some v, none, none] /\ H = H') ?_ ?_ (by walk_at "sm")
   ·refine ⟨by decide, d, hd, ?_⟩
    rw [hleaf]
    exact ⟨rfl, rfl⟩
   rintro σ _ ⟨rfl, rfl⟩
   by_cases hb : ∃ b, d = .bl b
   ·obtain ⟨b, rfl⟩ := hb
    unfold RepW at hd
    subst hd
    refine ⟨by decide, .bl b, repW_bl, ?_⟩
    refine ⟨small_le (show 3 <= 1000 by decide), fun l hl => ?_⟩
    have F1 := F.upd (o := .lst [.bl (!b), .int (if b then 1 else 0), .non]) hl
    refine ⟨_, F1, by omega, okDiv_of (by decide) (by decide), fun i H2 i0 i1 F2 f2 => ?_⟩
    refine fin _ H2 _ l [.bl (!b), .int (if b then 1 else 0), .non] i i0 i1 upd_same (F.neT hl) F1.lst F2 (by omega) f2 (Frm.upd hl) ?_
    intro z hz
    simp only [List.mem_cons, List.not_mem_nil, or_false] at hz
    rcases hz with rfl | rfl | rfl
    ·exact ⟨_, repW_bl, fit_bl⟩
    ·exact ⟨_, repW_int, fit_int (by cases b <;> simp <;> omega)⟩
    ·exact ⟨_, repW_non, fit_non⟩
   have hnb : isTy (tyW d) "bool" = false := by
    cases d with
    | bl b => exact absurd ⟨b, rfl⟩ hb
    | _ => rfl
   refine seq_at (fun σ H' => σ = [some (.ref t), some v, none, none] /\ H = H') ?_ ?_ (by walk_at "sm")
   ·refine ⟨by decide, d, hd, ?_⟩
    rw [hnb]
    exact ⟨rfl, rfl⟩
   rintro σ _ ⟨rfl, rfl⟩
   by_cases hi : ∃ i, d = .int i
   ·obtain ⟨i, rfl⟩ := hi
    unfold RepW at hd
    subst hd
    have hin : i.natAbs <= n := by
     have := fit.ok
     unfold okW at this
     exact of_decide_eq_true this
    refine ⟨by decide, .int i, repW_int, ?_⟩
    have h30 : i.natAbs < 10 ^ 30 := Nat.lt_of_le_of_lt (Nat.le_trans hin n21) (by decide)
    refine ⟨?_, ⟨by decide, by decide, by decide⟩, ?_⟩
    ·by_cases h0 : i.natAbs = 0
     ·rw [h0]; decide
     ·have := (Nat.log2_lt h0).mpr (Nat.lt_trans h30 (show 10 ^ 30 < 2 ^ 100 by decide))
      omega
    generalize hten : (10 : Int) ^ Int.toNat 20 = ten
    refine ⟨small_le (show 8 <= 1000 by decide), fun l hl => ?_⟩
    have hten' : ten.natAbs <= n + 1 := by rw [<- hten]; exact Nat.le_trans (by decide) (Nat.le_succ_of_le n20)
    have F1 := F.upd (o := .lst [.int (i + 1), .int (i - 1), .bl (false ^^ (i == 1)), .int (-i), .str ((toString i : String) : Str), .non, .int 16, .int ten]) hl
    refine ⟨_, F1, by omega, okDiv_of (by decide) (by decide), fun k H2 k0 k1 F2 f2 => ?_⟩
    refine fin _ H2 _ l [.int (i + 1), .int (i - 1), .bl (false ^^ (i == 1)), .int (-i), .str ((toString i : String) : Str), .non, .int 16, .int ten] k k0 k1 upd_same (F.neT hl) F1.lst F2 (by omega) f2 (Frm.upd hl) ?_
    intro z hz
    simp only [List.mem_cons, List.not_mem_nil, or_false] at hz
    rcases hz with rfl | rfl | rfl | rfl | rfl | rfl | rfl | rfl
    ·exact ⟨_, repW_int, fit_int (by omega)⟩
    ·exact ⟨_, repW_int, fit_int (by omega)⟩
    ·exact ⟨_, repW_bl, fit_bl⟩
    ·exact ⟨_, repW_int, fit_int (by omega)⟩
    ·exact ⟨_, repW_str, fit_num h30 (by omega)⟩
    ·exact ⟨_, repW_non, fit_non⟩
    ·exact ⟨_, repW_int, fit_int (by omega)⟩
    ·exact ⟨_, repW_int, fit_int hten'⟩
   have hni : isTy (tyW d) "int" = false := by
    cases d with
    | bl b => exact absurd ⟨b, rfl⟩ hb
    | int i => exact absurd ⟨i, rfl⟩ hi
    | _ => rfl
   refine seq_at (fun σ H' => σ = [some (.ref t), some v, none, none] /\ H = H') ?_ ?_ (by walk_at "sm")
   ·refine ⟨by decide, d, hd, ?_⟩
    rw [hni]
    exact ⟨rfl, rfl⟩
   rintro σ _ ⟨rfl, rfl⟩
   refine ⟨small_le (show 0 <= 1000 by decide), fun q1 hq1 => ?_⟩
   have s1 : Same H (upd H q1 (.tup [])) := Same.upd hq1
   have t1 : SqT K (upd H q1 (.tup [])) q1 [] := .of upd_same
   generalize upd H q1 (.tup []) = H1 at *
   refine ⟨small_le (show 0 <= 1000 by decide), fun q2 hq2 => ?_⟩
   have s2 : Same H1 (upd H1 q2 (.ext (LstP q2 []))) := Same.upd hq2
   have g2 : upd H1 q2 (.ext (LstP q2 [])) q2 = some (.ext (LstP q2 [])) := upd_same
   generalize upd H1 q2 (.ext (LstP q2 [])) = H2 at *
   refine fun q3 hq3 => ?_
   have s3 : Same H2 (upd H2 q3 (.dK [])) := Same.upd hq3
   have g3 : upd H2 q3 (.dK []) q3 = some (.dK []) := upd_same
   generalize upd H2 q3 (.dK []) = H3 at *
   refine ⟨small_le (show 1 <= 1000 by decide), fun q4 hq4 => ?_⟩
   have s4 : Same H3 (upd H3 q4 (.tup [.int 0])) := Same.upd hq4
   have t4 : SqT K (upd H3 q4 (.tup [.int 0])) q4 [.int 0] := .of upd_same
   generalize upd H3 q4 (.tup [.int 0]) = H4 at *
   refine ⟨small_le (show 14 <= 1000 by decide), fun l hl => ?_⟩
   have S4 := s1.trans (s2.trans (s3.trans s4))
   have F4 := F.same S4
   have s5 : Same H4 (upd H4 l (.lst [.non, .bl true, .bl false, .int 0, .int 1, .int (-1), .str (Str.ofString ""), .str (Str.ofString "say"), .str (Str.ofString "ask"), .ref q1, .ref q2, .ref q3, .ref q4, .str (Str.ofString "yes")])) := Same.upd hl
   have F5 := F4.same s5
   refine ⟨_, F5, by omega, okDiv_of (by decide) (by decide), fun k H6 k0 k1 F6 f6 => ?_⟩
   refine fin _ H6 _ l [.non, .bl true, .bl false, .int 0, .int 1, .int (-1), .str (Str.ofString ""), .str (Str.ofString "say"), .str (Str.ofString "ask"), .ref q1, .ref q2, .ref q3, .ref q4, .str (Str.ofString "yes")] k k0 k1 upd_same (F4.neT hl) F5.lst F6 (by omega) f6 (fun b o _ e => (S4.trans s5) b o e) ?_
   generalize upd H4 l (.lst [.non, .bl true, .bl false, .int 0, .int 1, .int (-1), .str (Str.ofString ""), .str (Str.ofString "say"), .str (Str.ofString "ask"), .ref q1, .ref q2, .ref q3, .ref q4, .str (Str.ofString "yes")]) = H5 at *
   intro z hz
   simp only [List.mem_cons, List.not_mem_nil, or_false] at hz
   rcases hz with rfl | rfl | rfl | rfl | rfl | rfl | rfl | rfl | rfl | rfl | rfl | rfl | rfl | rfl
   ·exact ⟨_, repW_non, fit_non⟩
   ·exact ⟨_, repW_bl, fit_bl⟩
   ·exact ⟨_, repW_bl, fit_bl⟩
   ·exact ⟨_, repW_int, fit_int (by omega)⟩
   ·exact ⟨_, repW_int, fit_int (by omega)⟩
   ·exact ⟨_, repW_int, fit_int (by omega)⟩
   ·exact ⟨_, repW_str, fit_str (Nat.le_trans (show "".length <= 3 by decide) (by omega))⟩
   ·exact ⟨_, repW_str, fit_str (Nat.le_trans (show "say".length <= 3 by decide) (by omega))⟩
   ·exact ⟨_, repW_str, fit_str (Nat.le_trans (show "ask".length <= 3 by decide) (by omega))⟩
   ·exact ⟨.tup [], repW_tup ((s2.trans (s3.trans (s4.trans s5))).sqT t1) repsW_nil, fit_tup.mpr ⟨nofun, Nat.zero_le _⟩⟩
   ·exact ⟨.lst [], repW_lst ((s3.trans (s4.trans s5)) _ _ g2) repsW_nil, fit_lst.mpr (fit_tup.mpr ⟨nofun, Nat.zero_le _⟩)⟩
   ·exact ⟨.emp, repW_emp ((s4.trans s5) _ _ g3), fit_emp⟩
   ·refine ⟨.tup [.int 0], repW_tup (s5.sqT t4) (repsW_cons repW_int repsW_nil), fit_tup.mpr ⟨?_, ?_⟩⟩
    ·intro e he
     rw [List.mem_singleton.mp he]; exact ⟨by unfold okW; simp, by unfold depW; omega⟩
    ·have : bulkWs [Dw.int 0] = 1 := rfl
     omega
   ·exact ⟨_, repW_str, fit_str (Nat.le_trans (show "yes".length <= 3 by decide) (by omega))⟩
theorem ok_Zbent : FnOk P w K mg base CX0 12 T.f_Zbent T.d_Zbent ["_law_feed_here", "_law_thing"] (spB K 11) := bent_d T 11
theorem form_tr {m : Nat} : ∀ t : Tr, t.ok m -> formW m (upW t.dv) = true
 | .say i, _ => by
  have e : formW m (upW (Tr.say i).dv) = (if isStrW sayS (.str (Str.ofString "say")) = true then ((0 : Nat) == 0) && true else isStrW askS (.str (Str.ofString "say")) && (((0 : Nat) == 2) && belowW m (.int i))) := rfl
  rw [e, if_pos (by decide)]
  rfl
 | .ask q n y, h => by
  have hq : q < m := h.1
  have e : formW m (upW (Tr.ask q n y).dv) = (if isStrW sayS (.str (Str.ofString "ask")) = true then ((2 : Nat) == 0) && true else isStrW askS (.str (Str.ofString "ask")) && (((2 : Nat) == 2) && (decide (0 <= (q : Int)) && decide ((q : Int) < (m : Int))))) := rfl
  rw [e, if_neg (by decide), decide_eq_true (show 0 <= (q : Int) by omega), decide_eq_true (show (q : Int) < (m : Int) by omega)]
  decide
theorem kids_tr : ∀ t : Tr, kidsW (upW t.dv) = t.kids.map fun u => upW u.dv
 | .say i => by
  have e : kidsW (upW (Tr.say i).dv) = if isStrW sayS (.str (Str.ofString "say")) = true then [] else [] := rfl
  rw [e, if_pos (by decide)]
  rfl
 | .ask q n y => by
  have e : kidsW (upW (Tr.ask q n y).dv) = if isStrW sayS (.str (Str.ofString "ask")) = true then [] else [upW n.dv, upW y.dv] := rfl
  rw [e, if_neg (by decide)]
  rfl
theorem cnt_tr {m : Nat} : ∀ (k : Nat) (t : Tr), t.ok m -> cnt (formW m) kidsW k (upW t.dv) = if t.deep <= k then t.size else 0
 | 0, t, _ => by
  have := t.deep_pos
  rw [if_neg (by omega)]
  rfl
 | k + 1, t, h => by
  have hf := form_tr t h
  have hk := kids_tr t
  show (if formW m (upW t.dv) = true /\ (∀ e ∈ kidsW (upW t.dv), 0 < cnt (formW m) kidsW k e) then 1 + cntL (cnt (formW m) kidsW k) (kidsW (upW t.dv)) else 0) = _
  rw [hk]
  cases t with
  | say i =>
   rw [if_pos ⟨hf, nofun⟩, if_pos (show (Tr.say i).deep <= k + 1 by show 1 <= k + 1; omega)]
   rfl
  | ask q n y =>
   have hn := cnt_tr k n h.2.1
   have hy := cnt_tr k y h.2.2
   have pn := n.size_pos
   have py := y.size_pos
   show (if formW m (upW (Tr.ask q n y).dv) = true /\ (∀ e ∈ [upW n.dv, upW y.dv], 0 < cnt (formW m) kidsW k e) then 1 + (cnt (formW m) kidsW k (upW n.dv) + (cnt (formW m) kidsW k (upW y.dv) + 0)) else 0) = if 1 + max n.deep y.deep <= k + 1 then 1 + n.size + y.size else 0
   by_cases c : 1 + max n.deep y.deep <= k + 1
   ·rw [if_pos (show n.deep <= k by omega)] at hn
    rw [if_pos (show y.deep <= k by omega)] at hy
    have hall : ∀ e ∈ [upW n.dv, upW y.dv], 0 < cnt (formW m) kidsW k e := fun e he => by
     simp only [List.mem_cons, List.not_mem_nil, or_false] at he
     rcases he with rfl | rfl
     ·rw [hn]; omega
     ·rw [hy]; omega
    rw [if_pos c, if_pos ⟨hf, hall⟩, hn, hy]
    omega
   ·rw [if_neg c, if_neg fun z => ?_]
    have z1 := z.2 (upW n.dv) (by simp)
    have z2 := z.2 (upW y.dv) (by simp)
    rw [hn] at z1
    rw [hy] at z2
    by_cases c1 : n.deep <= k
    ·by_cases c2 : y.deep <= k
     ·exact c (by omega)
     ·rw [if_neg c2] at z2; exact absurd z2 (Nat.lt_irrefl _)
    ·rw [if_neg c1] at z1; exact absurd z1 (Nat.lt_irrefl _)
theorem tree_tr {m : Nat} {t : Tr} (h : t.ok m) : treeW m (upW t.dv) = decide (t.deep <= 16 /\ t.size <= 2000) := by
 have e : treeW m (upW t.dv) = lvB (formW m) kidsW 2000 16 [upW t.dv] (0 + [upW t.dv].length) := rfl
 rw [e, Bool.eq_iff_iff, lvB_eq (formW m) kidsW 2000 16 [upW t.dv] 0 (by decide), decide_eq_true_iff]
 have ec : cntL (cnt (formW m) kidsW 16) [upW t.dv] = cnt (formW m) kidsW 16 (upW t.dv) + 0 := rfl
 have hc := cnt_tr 16 t h
 have hp := t.size_pos
 rw [ec]
 constructor
 ·rintro ⟨h1, h2⟩
  have h1' := h1 _ (List.mem_cons_self ..)
  rw [hc] at h1' h2
  by_cases c : t.deep <= 16
  ·rw [if_pos c] at h2; exact ⟨c, by omega⟩
  ·rw [if_neg c] at h1'; exact absurd h1' (Nat.lt_irrefl _)
 ·rintro ⟨h1, h2⟩
  rw [if_pos h1] at hc
  refine ⟨fun x hx => ?_, by rw [hc]; omega⟩
  have : x = upW t.dv := by simpa using hx
  rw [this, hc]; omega
theorem fit_tr {m : Nat} (hm : m <= 1000) : ∀ t : Tr, t.sm -> t.ok m -> okW 100000000000000000000 (upW t.dv) = true /\ depW (upW t.dv) = t.deep /\ bulkW (upW t.dv) <= 7 * t.size
 | .say i, h, _ => by
  have h : i.natAbs <= 100000000000000000000 := h
  refine ⟨?_, rfl, ?_⟩
  ·have e : okW 100000000000000000000 (upW (Tr.say i).dv) = (((Str.ofString "say").cps.toList.all fun c => decide (c < 16 ^ 8)) && (decide (i.natAbs <= 100000000000000000000) && true)) := rfl
   rw [e, decide_eq_true h]
   decide
  ·have e : bulkW (upW (Tr.say i).dv) = (Str.ofString "say").cps.size + 1 + (0 + 1 + 0) := rfl
   rw [e, show (Str.ofString "say").cps.size = 3 by decide]
   show 5 <= 7 * 1
   omega
 | .ask q n y, h, ho => by
  obtain ⟨a1, b1, c1⟩ := fit_tr hm n h.1 ho.2.1
  obtain ⟨a2, b2, c2⟩ := fit_tr hm y h.2 ho.2.2
  have hq : q < m := ho.1
  refine ⟨?_, ?_, ?_⟩
  ·have e : okW 100000000000000000000 (upW (Tr.ask q n y).dv) = (((Str.ofString "ask").cps.toList.all fun c => decide (c < 16 ^ 8)) && (decide ((q : Int).natAbs <= 100000000000000000000) && (okW 100000000000000000000 (upW n.dv) && (okW 100000000000000000000 (upW y.dv) && true)))) := rfl
   rw [e, decide_eq_true (show (q : Int).natAbs <= 100000000000000000000 by omega), a1, a2]
   decide
  ·have e : depW (upW (Tr.ask q n y).dv) = max 0 (max 0 (max (depW (upW n.dv)) (max (depW (upW y.dv)) 0))) + 1 := rfl
   rw [e, b1, b2]
   show _ = 1 + max n.deep y.deep
   omega
  ·have e : bulkW (upW (Tr.ask q n y).dv) = (Str.ofString "ask").cps.size + 1 + (0 + 1 + (bulkW (upW n.dv) + 1 + (bulkW (upW y.dv) + 1 + 0))) := rfl
   rw [e, show (Str.ofString "ask").cps.size = 3 by decide]
   show _ <= 7 * (1 + n.size + y.size)
   omega
theorem Tr.size_lt : ∀ t : Tr, t.size + 1 <= 2 ^ t.deep
 | .say i => by show 1 + 1 <= 2 ^ 1; decide
 | .ask q n y => by
  have h1 := n.size_lt
  have h2 := y.size_lt
  have h3 : 2 ^ n.deep <= 2 ^ max n.deep y.deep := Nat.pow_le_pow_right (by decide) (by omega)
  have h4 : 2 ^ y.deep <= 2 ^ max n.deep y.deep := Nat.pow_le_pow_right (by decide) (by omega)
  have e : 2 ^ (1 + max n.deep y.deep) = 2 * 2 ^ max n.deep y.deep := by rw [Nat.add_comm, Nat.pow_succ, Nat.mul_comm]
  show 1 + n.size + y.size + 1 <= 2 ^ (1 + max n.deep y.deep)
  rw [e]
  omega
theorem lam_frm {Pt t : Addr} {pos : Pos} {q : Str} {H H' : Hp} (l : Lam Pt pos q H) (f : Frm t H H') (ht : ∃ zs, H t = some (.lst zs)) : Lam Pt pos q H' := by
 obtain ⟨ps, a, b, c⟩ := l
 obtain ⟨zs, hz⟩ := ht
 refine ⟨ps, f _ _ (fun z => by rw [z, hz] at a; cases a) a, b, ?_⟩
 rcases c with c | ⟨c', c, d⟩
 ·exact .inl c
 ·exact .inr ⟨c', c, f _ _ (fun z => by rw [z, hz] at d; cases d) d⟩
theorem gfeed_tab {Pt t : Addr} {N : Nat} {H H' : Hp} {ps : Array Value} (F : GFeed H t N) (g : Grow Pt H H') (hz : H Pt = some (.tbl ps)) : GFeed H' t N := by
 obtain ⟨l, i, gg, c, ns, h1, h2, h3, h4, h5, h6, h7, h8⟩ := F.at_
 exact ⟨l, i, gg, c, ns, h1, h2, h3, h4, g _ _ (fun z => by rw [z, hz] at h5; cases h5) h5, h6, g _ _ (fun z => by rw [z, hz] at h7; cases h7) h7, h8⟩
def ansB (rs : List (List Bool)) (q k : Nat) : Bool := gB (rs.getD q []) k
def Tr.end_ (rs : List (List Bool)) (k : Nat) : Tr -> Int
 | .say i => i
 | .ask q n y => if ansB rs q k = true then y.end_ rs k else n.end_ rs k
def Tr.many (rs : List (List Bool)) (k : Nat) : Tr -> Nat
 | .say _ => 0
 | .ask q n y => 1 + (if ansB rs q k = true then y.many rs k else n.many rs k)
def sp_asked (K : W.Frag) : Sp := fun vs H Q _ => match vs with
 | [u, v, .int z] => ∃ ls rs t k, Rep K H (gmD ls rs) u /\ Gm ls rs /\ Rep K H (Tr.dv t) v /\ t.ok rs.length /\ z = (k : Nat) /\ k < ls.length /\ ∀ p H', Same H H' -> H' p = some (.tup [.int (t.end_ rs k), .int (t.many rs k : Nat)]) -> Q (.ref p) H'
 | _ => False
theorem sp_asked_mono : SpMono (sp_asked K) := fun vs H Q Q' E h q => by
 unfold sp_asked at *
 split at q
 ·revert q; repeat' first | exact h _ _ | exact newL_mono h | exact out_mono h | exact outT_mono h | walk_at "m"
 ·exact q.elim
theorem ok_asked : FnOk P w K mg base CX0 1 T.f_asked T.d_asked ["game", "tree", "thing"] (sp_asked K) := by
 refine T.F_asked.ok sc_asked (fun vs H Q E h => by unfold sp_asked at h; split at h <;> first | rfl | exact h.elim) (fun cdv A outer s H vs Q E hr h => ?_)
 have hu := hu60 hr
 match vs, h with
 | [u, v, .int z], ⟨ls, rs, t, k, hg, G, hv, hok, e1, hk, q⟩ =>
 subst e1
 obtain ⟨a, tl, rl, ps, rfl, g⟩ := gm_open hg
 refine ⟨_, (@pss_cons _ _ _ _ _ (@ps_set _ _ 3 _ _ _ _ sc_asked.nd rfl (by right) (@vw _ 1 _ _ (by left)) (by rfl) (by symm)) (@pss_cons _ _ _ _ _ (@ps_set _ _ 4 _ _ _ _ sc_asked.nd rfl (by right) (@pe_int _ _ _ _) (by rfl) (by symm)) (@pss_cons _ _ _ _ _ (@ps_whileM _ _ _ _ _ _ PassesOwn.never (@tu_cmp _ _ _ _ _ _ _ _ (kEq (K := K) hu) (@kIx _ K _ _ _ _ _ (@vw _ 3 _ _ (by left)) (@pe_int _ _ _ _) (by intro _ _; rfl) (by rfl)) (@pe_str _ _ _ _) (by walk_at "n")) (@pss_cons _ _ _ _ _ (@ps_set _ _ 3 _ _ _ _ sc_asked.nd rfl (by right) (@pe_ifExp _ _ _ _ _ _ _ _ (@tu_val _ _ _ (@kIx _ K _ _ _ _ _ (@kIx _ K _ _ _ _ _ (@kIx _ K _ _ _ _ _ (@vw _ 0 _ _ (by left)) (@pe_int _ _ _ _) (by intro _ _; rfl) (by rfl)) (@kIx _ K _ _ _ _ _ (@vw _ 3 _ _ (by left)) (@pe_int _ _ _ _) (by intro _ _; rfl) (by rfl)) (by intro _ _; rfl) (by rfl)) (@vw _ 2 _ _ (by left)) (by intro _ _; rfl) (by rfl)) (by intro _; rfl)) (@kIx _ K _ _ _ _ _ (@vw _ 3 _ _ (by left)) (@pe_int _ _ _ _) (by intro _ _; rfl) (by rfl)) (@kIx _ K _ _ _ _ _ (@vw _ 3 _ _ (by left)) (@pe_int _ _ _ _) (by intro _ _; rfl) (by rfl))) (by rfl) (by symm)) (@pss_one _ _ _ (@ps_set _ _ 4 _ _ _ _ sc_asked.nd rfl (by right) (@pe_op _ _ _ _ _ _ _ _ (kAdd (K := K)) (@vw _ 4 _ _ (by left)) (@pe_int _ _ _ _)) (by rfl) (by symm))))) (@pss_one _ _ _ (@ps_ret _ _ _ _ (@pe_tup _ _ _ _ _ (@pa_cons _ _ _ _ _ (@kIx _ K _ _ _ _ _ (@vw _ 3 _ _ (by left)) (@pe_int _ _ _ _) (by intro _ _; rfl) (by rfl)) (@pa1 _ _ _ (@vw _ 4 _ _ (by left)) (by rfl)) (by rfl)))))))), ?_⟩
 refine ⟨fun mm σ H' => ∃ (t' : Tr) (x : V) (c : Nat), mm = t'.size /\ σ = [some (.ref a), some v, some (.int k), some x, some (.int c)] /\ H' = H /\ Rep K H t'.dv x /\ t'.ok rs.length /\ c + t'.many rs k = t.many rs k /\ t'.end_ rs k = t.end_ rs k, ⟨_, t, v, 0, rfl, rfl, rfl, hv, hok, Nat.zero_add _, rfl⟩, ?_⟩
 rintro mm σ H1 ⟨t', x, c, rfl, rfl, rfl, hx, hok', hc, he⟩
 cases t' with
 | say i =>
  obtain ⟨p, rfl, hp⟩ := tr_say hx
  refine ⟨_, _, .inr hp, atI_of (n := 0) rfl rfl, ?_⟩
  refine ⟨_, _, .inr hp, atI_of (n := 1) rfl rfl, small_le (show 2 <= 1000 by decide), fun p1 n1 => q p1 _ (Same.upd n1) ?_⟩
  have e1 : i = t.end_ rs k := he
  have e2 : c + 0 = t.many rs k := hc
  rw [<- e1, <- e2]
  exact upd_same
 | ask q0 n y =>
  obtain ⟨p, x2, x3, rfl, hp, r2, r3⟩ := tr_ask hx
  have hq : q0 < rs.length := hok'.1
  have hb : ps[q0]? = some (ps.getD q0 0) := by simp [List.getD_eq_getElem?_getD, show q0 < ps.length by rw [g.len]; exact hq]
  have hr0 : rs[q0]? = some (rs.getD q0 []) := by simp [List.getD_eq_getElem?_getD, hq]
  have hrow := g.row q0 _ _ hb hr0
  have hrl : (rs.getD q0 []).length = ls.length := G.row _ (List.mem_of_getElem? hr0)
  refine ⟨_, _, .inr hp, atI_of (n := 0) rfl rfl, ?_⟩
  refine ⟨_, .ref rl, .inr g.two, rfl, _, _, .inr hp, atI_of (n := 1) rfl rfl, _, .ref (ps.getD q0 0), .inr g.rows, atI_of rfl (by rw [List.getElem?_map, hb]; rfl), _, .bl (gB (rs.getD q0 []) k), .inr hrow, gB_at (by rw [hrl]; exact hk), ?_⟩
  have hm : (Tr.ask q0 n y).many rs k = 1 + (if ansB rs q0 k = true then y.many rs k else n.many rs k) := rfl
  have hE : (Tr.ask q0 n y).end_ rs k = (if ansB rs q0 k = true then y.end_ rs k else n.end_ rs k) := rfl
  rw [hm] at hc
  rw [hE] at he
  refine ite2 (fun e => ?_) (fun e => ?_)
  ·have e' : ansB rs q0 k = true := e
   rw [if_pos e'] at hc he
   exact ⟨_, _, .inr hp, atI_of (n := 3) rfl rfl, y.size, by show y.size < 1 + n.size + y.size; omega, y, x3, c + 1, rfl, rfl, rfl, r3, hok'.2.2, by omega, he⟩
  ·have e' : ¬ ansB rs q0 k = true := e
   rw [if_neg e'] at hc he
   exact ⟨_, _, .inr hp, atI_of (n := 2) rfl rfl, n.size, by show n.size < 1 + n.size + y.size; omega, n, x2, c + 1, rfl, rfl, rfl, r2, hok'.2.1, by omega, he⟩
theorem ok_Zthrough : FnOk P w K mg base CX0 1 T.f_Zthrough T.d_Zthrough ["_law_game_here", "_law_tree_here", "_law_thing"] (sp_asked K) := by
 refine T.F_Zthrough.ok sc_Zthrough (fun vs H Q E h => by unfold sp_asked at h; split at h <;> first | rfl | exact h.elim) (fun cdv A outer s H vs Q E hr h => ?_)
 have hu := hu60 hr
 match vs, h with
 | [u, v, .int z], ⟨ls, rs, t, k, hg, G, hv, hok, e1, hk, q⟩ =>
 subst e1
 obtain ⟨a, tl, rl, ps, rfl, g⟩ := gm_open hg
 refine ⟨_, (@pss_cons _ _ _ _ _ (@ps_set _ _ 3 _ _ _ _ sc_Zthrough.nd rfl (by right) (@pe_int _ _ _ _) (by rfl) (by symm)) (@pss_cons _ _ _ _ _ (@ps_whileM _ _ _ _ _ _ PassesOwn.never (@tu_cmp _ _ _ _ _ _ _ _ (kEq (K := K) hu) (@kIx _ K _ _ _ _ _ (@vw _ 1 _ _ (by left)) (@pe_int _ _ _ _) (by intro _ _; rfl) (by rfl)) (@pe_str _ _ _ _) (by walk_at "n")) (@pss_cons _ _ _ _ _ (@ps_set _ _ 3 _ _ _ _ sc_Zthrough.nd rfl (by right) (@pe_op _ _ _ _ _ _ _ _ (kAdd (K := K)) (@vw _ 3 _ _ (by left)) (@pe_int _ _ _ _)) (by rfl) (by symm)) (@pss_one _ _ _ (@ps_set _ _ 1 _ _ _ _ sc_Zthrough.nd rfl (by right) (@kIx _ K _ _ _ _ _ (@vw _ 1 _ _ (by left)) (@pe_op _ _ _ _ _ _ _ _ (kAdd (K := K)) (@pe_int _ _ _ _) (@pe_callTy _ _ _ _ _ _ _ _ _ cm_int rfl T.z_int (by rfl) (@pa1 _ _ _ (@kIx _ K _ _ _ _ _ (@kIx _ K _ _ _ _ _ (@kIx _ K _ _ _ _ _ (@vw _ 0 _ _ (by left)) (@pe_int _ _ _ _) (by intro _ _; rfl) (by rfl)) (@kIx _ K _ _ _ _ _ (@vw _ 1 _ _ (by left)) (@pe_int _ _ _ _) (by intro _ _; rfl) (by rfl)) (by intro _ _; rfl) (by rfl)) (@vw _ 2 _ _ (by left)) (by intro _ _; rfl) (by rfl)) (by rfl)) (by decide) (by decide) (by rfl) (by rfl))) (by intro _ _; rfl) (by rfl)) (by rfl) (by symm))))) (@pss_one _ _ _ (@ps_ret _ _ _ _ (@pe_tup _ _ _ _ _ (@pa_cons _ _ _ _ _ (@kIx _ K _ _ _ _ _ (@vw _ 1 _ _ (by left)) (@pe_int _ _ _ _) (by intro _ _; rfl) (by rfl)) (@pa1 _ _ _ (@vw _ 3 _ _ (by left)) (by rfl)) (by rfl))))))), ?_⟩
 refine ⟨fun mm σ H' => ∃ (t' : Tr) (x : V) (c : Nat), mm = t'.size /\ σ = [some (.ref a), some x, some (.int k), some (.int c)] /\ H' = H /\ Rep K H t'.dv x /\ t'.ok rs.length /\ c + t'.many rs k = t.many rs k /\ t'.end_ rs k = t.end_ rs k, ⟨_, t, v, 0, rfl, rfl, rfl, hv, hok, Nat.zero_add _, rfl⟩, ?_⟩
 rintro mm σ H1 ⟨t', x, c, rfl, rfl, rfl, hx, hok', hc, he⟩
 cases t' with
 | say i =>
  obtain ⟨p, rfl, hp⟩ := tr_say hx
  refine ⟨_, _, .inr hp, atI_of (n := 0) rfl rfl, ?_⟩
  refine ⟨_, _, .inr hp, atI_of (n := 1) rfl rfl, small_le (show 2 <= 1000 by decide), fun p1 n1 => q p1 _ (Same.upd n1) ?_⟩
  have e1 : i = t.end_ rs k := he
  have e2 : c + 0 = t.many rs k := hc
  rw [<- e1, <- e2]
  exact upd_same
 | ask q0 n y =>
  obtain ⟨p, x2, x3, rfl, hp, r2, r3⟩ := tr_ask hx
  have hq : q0 < rs.length := hok'.1
  have hb : ps[q0]? = some (ps.getD q0 0) := by simp [List.getD_eq_getElem?_getD, show q0 < ps.length by rw [g.len]; exact hq]
  have hr0 : rs[q0]? = some (rs.getD q0 []) := by simp [List.getD_eq_getElem?_getD, hq]
  have hrow := g.row q0 _ _ hb hr0
  have hrl : (rs.getD q0 []).length = ls.length := G.row _ (List.mem_of_getElem? hr0)
  refine ⟨_, _, .inr hp, atI_of (n := 0) rfl rfl, ?_⟩
  have hm : (Tr.ask q0 n y).many rs k = 1 + (if ansB rs q0 k = true then y.many rs k else n.many rs k) := rfl
  have hE : (Tr.ask q0 n y).end_ rs k = (if ansB rs q0 k = true then y.end_ rs k else n.end_ rs k) := rfl
  rw [hm] at hc
  rw [hE] at he
  have ea : gB (rs.getD q0 []) k = ansB rs q0 k := rfl
  refine ⟨_, .ref rl, .inr g.two, rfl, _, _, .inr hp, atI_of (n := 1) rfl rfl, _, .ref (ps.getD q0 0), .inr g.rows, atI_of rfl (by rw [List.getElem?_map, hb]; rfl), _, .bl (gB (rs.getD q0 []) k), .inr hrow, gB_at (by rw [hrl]; exact hk), ?_⟩
  rw [ea]
  cases e : ansB rs q0 k with
  | true =>
   rw [e, if_pos rfl] at hc he
   exact ⟨_, _, .inr hp, atI_of (n := 3) rfl rfl, y.size, by show y.size < 1 + n.size + y.size; omega, y, x3, c + 1, rfl, rfl, rfl, r3, hok'.2.2, by omega, he⟩
  | false =>
   rw [e, if_neg (by decide)] at hc he
   exact ⟨_, _, .inr hp, atI_of (n := 2) rfl rfl, n.size, by show n.size < 1 + n.size + y.size; omega, n, x2, c + 1, rfl, rfl, rfl, r2, hok'.2.1, by omega, he⟩
theorem tr_ofW {H : Hp} : ∀ (t : Tr) (v : V), RepW K H (upW t.dv) v -> Rep K H t.dv v
 | .say i, v, h => by
  obtain ⟨a, xs, rfl, hs, hx⟩ := repW_tup_inv (show RepW K H (.tup [.str (Str.ofString "say"), .int i]) v from h)
  unfold RepsW at hx
  obtain ⟨x0, l0, rfl, r0, hx⟩ := hx
  unfold RepsW at hx
  obtain ⟨x1, l1, rfl, r1, hx⟩ := hx
  unfold RepsW at hx
  subst hx
  unfold RepW at r0 r1
  subst r0 r1
  exact rep_tup2 hs (reps_cons (by unfold Rep; rfl) (reps_cons (by unfold Rep; rfl) reps_nil))
 | .ask q n y, v, h => by
  obtain ⟨a, xs, rfl, hs, hx⟩ := repW_tup_inv (show RepW K H (.tup [.str (Str.ofString "ask"), .int (q : Int), upW n.dv, upW y.dv]) v from h)
  unfold RepsW at hx
  obtain ⟨x0, l0, rfl, r0, hx⟩ := hx
  unfold RepsW at hx
  obtain ⟨x1, l1, rfl, r1, hx⟩ := hx
  unfold RepsW at hx
  obtain ⟨x2, l2, rfl, r2, hx⟩ := hx
  unfold RepsW at hx
  obtain ⟨x3, l3, rfl, r3, hx⟩ := hx
  unfold RepsW at hx
  subst hx
  have r2' := tr_ofW n x2 r2
  have r3' := tr_ofW y x3 r3
  unfold RepW at r0 r1
  subst r0 r1
  exact rep_tup2 hs (reps_cons (by unfold Rep; rfl) (reps_cons (by unfold Rep; rfl) (reps_cons r2' (reps_cons r3' reps_nil))))
theorem isStrW_eq {s : Str} {d : Dw} (h : isStrW s d = true) : d = .str s := by
 cases d with
 | str x => have : (x == s) = true := h; rw [eq_of_beq this]
 | _ => cases h
theorem isWholeW_eq {d : Dw} (h : isWholeW d = true) : ∃ i, d = .int i := by
 cases d with
 | int i => exact ⟨i, rfl⟩
 | _ => cases h
theorem belowW_eq {m : Nat} {d : Dw} (h : belowW m d = true) : ∃ q : Nat, d = .int (q : Int) /\ q < m := by
 cases d with
 | int i =>
  have h' : (decide (0 <= i) && decide (i < (m : Int))) = true := h
  rw [Bool.and_eq_true, decide_eq_true_iff, decide_eq_true_iff] at h'
  exact ⟨i.toNat, by rw [Int.toNat_of_nonneg h'.1], by omega⟩
 | _ => cases h
theorem tr_of_cnt {m : Nat} : ∀ (k : Nat) (d : Dw), 0 < cnt (formW m) kidsW k d -> ∃ t : Tr, d = upW t.dv /\ t.ok m
 | 0, d, h => absurd h (Nat.lt_irrefl _)
 | k + 1, d, h => by
  obtain ⟨hf, hk⟩ := (cnt_pos (formW m) kidsW).mp h
  match d, hf, hk with
  | .tup (d0 :: d1 :: ds), hf, hk =>
   have hf' : (if isStrW sayS d0 = true then (ds.length == 0) && isWholeW d1 else isStrW askS d0 && ((ds.length == 2) && belowW m d1)) = true := hf
   by_cases e : isStrW sayS d0 = true
   ·rw [if_pos e, Bool.and_eq_true] at hf'
    obtain ⟨h1, h2⟩ := hf'
    obtain ⟨i, rfl⟩ := isWholeW_eq h2
    have : ds = [] := List.length_eq_zero_iff.mp (by simpa using h1)
    subst this
    rw [isStrW_eq e]
    exact ⟨.say i, rfl, trivial⟩
   ·rw [if_neg e, Bool.and_eq_true, Bool.and_eq_true] at hf'
    obtain ⟨h0, h1, h2⟩ := hf'
    obtain ⟨q, rfl, hq⟩ := belowW_eq h2
    have h1' : ds.length = 2 := by simpa using h1
    match ds, h1' with
    | [d2, d3], _ =>
    have ek : kidsW (.tup (d0 :: .int (q : Int) :: [d2, d3])) = [d2, d3] := by
     have : kidsW (.tup (d0 :: .int (q : Int) :: [d2, d3])) = if isStrW sayS d0 = true then [] else [d2, d3] := rfl
     rw [this, if_neg e]
    rw [ek] at hk
    obtain ⟨t2, e2, o2⟩ := tr_of_cnt k d2 (hk d2 (by simp))
    obtain ⟨t3, e3, o3⟩ := tr_of_cnt k d3 (hk d3 (by simp))
    rw [isStrW_eq h0, e2, e3]
    exact ⟨.ask q t2 t3, rfl, hq, o2, o3⟩
  | .tup [], hf, _ => cases hf
  | .tup [_], hf, _ => cases hf
  | .non, hf, _ => cases hf
  | .bl _, hf, _ => cases hf
  | .int _, hf, _ => cases hf
  | .str _, hf, _ => cases hf
  | .lst _, hf, _ => cases hf
  | .emp, hf, _ => cases hf
theorem treeW_inv {m : Nat} {d : Dw} (h : treeW m d = true) : ∃ t : Tr, d = upW t.dv /\ t.ok m /\ t.deep <= 16 /\ t.size <= 2000 := by
 have e : treeW m d = lvB (formW m) kidsW 2000 16 [d] (0 + [d].length) := rfl
 have h' := (lvB_eq (formW m) kidsW 2000 16 [d] 0 (by decide)).mp (e ▸ h)
 obtain ⟨t, rfl, o⟩ := tr_of_cnt 16 d (h'.1 _ (List.mem_cons_self ..))
 rw [tree_tr o, decide_eq_true_iff] at h
 exact ⟨t, rfl, o, h.1, h.2⟩
def homeB (ls : List Int) (rs : List (List Bool)) (z : Int) (t : Tr) (k : Nat) : Bool := decide (t.end_ rs k = labF ls k) && decide ((t.many rs k : Int) <= z)
theorem home_can {ls : List Int} {rs : List (List Bool)} : ∀ (t : Tr) (d : Nat) (S : Nat -> Bool), t.ok rs.length -> (∀ k, S k = true -> t.end_ rs k = labF ls k /\ t.many rs k <= d) -> Can (labF ls) (rs.map gB) d S
 | .say i, d, S, _, h => can_mono (Nat.zero_le d) (show Can (labF ls) (rs.map gB) 0 S from fun a b ha hb => by
  rw [<- (h a ha).1, <- (h b hb).1]; rfl)
 | .ask q n y, 0, S, _, h => fun a b ha _ => by
  have := (h a ha).2
  have e : (Tr.ask q n y).many rs a = 1 + (if ansB rs q a = true then y.many rs a else n.many rs a) := rfl
  omega
 | .ask q n y, d + 1, S, ho, h => by
  have hq : q < rs.length := ho.1
  have er : rs.getD q [] = rs[q] := by simp [List.getD_eq_getElem?_getD, hq]
  refine .inr ⟨gB rs[q], List.mem_map.mpr ⟨_, List.getElem_mem hq, rfl⟩, home_can y d _ ho.2.2 fun k hk => ?_, home_can n d _ ho.2.1 fun k hk => ?_⟩
  ·rw [Bool.and_eq_true] at hk
   have e : ansB rs q k = true := by unfold ansB; rw [er]; exact hk.2
   have h1 := h k hk.1
   have e1 : (Tr.ask q n y).many rs k = 1 + (if ansB rs q k = true then y.many rs k else n.many rs k) := rfl
   have e2 : (Tr.ask q n y).end_ rs k = (if ansB rs q k = true then y.end_ rs k else n.end_ rs k) := rfl
   rw [e1, e2, if_pos e, if_pos e] at h1
   exact ⟨h1.1, by omega⟩
  ·rw [Bool.and_eq_true, Bool.not_eq_true'] at hk
   have e : ¬ ansB rs q k = true := by unfold ansB; rw [er, hk.2]; exact Bool.false_ne_true
   have h1 := h k hk.1
   have e1 : (Tr.ask q n y).many rs k = 1 + (if ansB rs q k = true then y.many rs k else n.many rs k) := rfl
   have e2 : (Tr.ask q n y).end_ rs k = (if ansB rs q k = true then y.end_ rs k else n.end_ rs k) := rfl
   rw [e1, e2, if_neg e, if_neg e] at h1
   exact ⟨h1.1, by omega⟩
theorem end_col {rs : List (List Bool)} {i j : Nat} (h : colB rs i = colB rs j) : ∀ t : Tr, t.ok rs.length -> t.end_ rs i = t.end_ rs j
 | .say _, _ => rfl
 | .ask q n y, ho => by
  have hq : q < rs.length := ho.1
  have e : ansB rs q i = ansB rs q j := by
   have := congrArg (fun l => l.getD q false) h
   unfold colB at this
   simp only [List.getD_eq_getElem?_getD, List.getElem?_map, List.getElem?_eq_getElem hq] at this
   unfold ansB
   rw [show rs.getD q [] = rs[q] by simp [List.getD_eq_getElem?_getD, hq]]
   exact this
  have e1 := end_col h n ho.2.1
  have e2 := end_col h y ho.2.2
  show (if ansB rs q i = true then y.end_ rs i else n.end_ rs i) = if ansB rs q j = true then y.end_ rs j else n.end_ rs j
  rw [e, e1, e2]
theorem home_ends {ls : List Int} {rs : List (List Bool)} {t : Tr} (ho : t.ok rs.length) (h : ∀ k, k < ls.length -> t.end_ rs k = labF ls k) : EndsP ls rs := fun i j ⟨h1, h2, h3, h4⟩ => h3 (by
 rw [<- h i (by omega), <- h j h2]
 exact end_col h4 t ho)
theorem tr_inj : ∀ t t' : Tr, upW t.dv = upW t'.dv -> t = t'
 | .say i, .say j, h => by
  have h' : Dw.tup [.str (Str.ofString "say"), .int i] = .tup [.str (Str.ofString "say"), .int j] := h
  simp only [Dw.tup.injEq, List.cons.injEq, Dw.int.injEq, and_true, true_and] at h'
  rw [h']
 | .say i, .ask q n y, h => by
  have h' : Dw.tup [.str (Str.ofString "say"), .int i] = .tup [.str (Str.ofString "ask"), .int (q : Int), upW n.dv, upW y.dv] := h
  simp at h'
 | .ask q n y, .say i, h => by
  have h' : Dw.tup [.str (Str.ofString "ask"), .int (q : Int), upW n.dv, upW y.dv] = Dw.tup [.str (Str.ofString "say"), .int i] := h
  simp at h'
 | .ask q n y, .ask q' n' y', h => by
  have h' : Dw.tup [.str (Str.ofString "ask"), .int (q : Int), upW n.dv, upW y.dv] = .tup [.str (Str.ofString "ask"), .int (q' : Int), upW n'.dv, upW y'.dv] := h
  simp only [Dw.tup.injEq, List.cons.injEq, Dw.int.injEq, and_true, true_and] at h'
  obtain ⟨h1, h2, h3⟩ := h'
  have e1 : q = q' := by omega
  rw [e1, tr_inj n n' h2, tr_inj y y' h3]
def sp_home (K : W.Frag) : Sp := fun vs H Q _ => match vs with
 | [u, .int z, v, .int h] => ∃ ls rs t k, Rep K H (gmD ls rs) u /\ Gm ls rs /\ Rep K H (Tr.dv t) v /\ t.ok rs.length /\ h = (k : Nat) /\ k < ls.length /\ ∀ H', Same H H' -> Q (.bl (homeB ls rs z t k)) H'
 | _ => False
theorem sp_home_mono : SpMono (sp_home K) := fun vs H Q Q' E h q => by
 unfold sp_home at *
 split at q
 ·revert q; repeat' first | exact h _ _ | exact newL_mono h | exact out_mono h | exact outT_mono h | walk_at "m"
 ·exact q.elim
theorem ok_comes_home : FnOk P w K mg base CX0 2 T.f_comes_home T.d_comes_home ["game", "d", "tree", "hidden"] (sp_home K) := by
 have G_asked := ok_asked (P := P) (w := w) (base := base) T
 refine T.F_comes_home.ok sc_comes_home (fun vs H Q E h => by unfold sp_home at h; split at h <;> first | rfl | exact h.elim) (fun cdv A outer s H vs Q E hr h => ?_)
 have hu := hu60 hr
 have hr_asked := hr.mono (show 1 <= _ by decide)
 unfold sp_home at h
 split at h
 rotate_left
 ·exact h.elim
 rename_i u z v h0
 obtain ⟨ls, rs, t, k, hg, G, hv, hok, e1, hk, q⟩ := h
 subst e1
 have mo : SpMono (sp_asked K) := sp_asked_mono
 refine ⟨_, (@pss_cons _ _ _ _ _ (@ps_set _ _ 4 _ _ _ _ sc_comes_home.nd rfl (by right) (@pe_call _ _ _ _ _ _ _ _ _ _ _ _ _ _ _ _ G_asked hr_asked rfl T.m_asked T.F_asked.kp T.b_asked .nil pass0 (@pa_cons _ _ _ _ _ (@vw _ 0 _ _ (by left)) (@pa_cons _ _ _ _ _ (@vw _ 2 _ _ (by left)) (@pa1 _ _ _ (@vw _ 3 _ _ (by left)) (by rfl)) (by rfl)) (by rfl)) (by decide) (by rfl) (by rfl)) (by rfl) (by symm)) (@pss_one _ _ _ (@ps_ret _ _ _ _ (@pe_andM _ _ _ _ _ _ _ (@pe_cmpM _ _ _ _ _ _ _ _ (kEq (K := K) hu) (@kIx _ K _ _ _ _ _ (@vw _ 4 _ _ (by left)) (@pe_int _ _ _ _) (by intro _ _; rfl) (by rfl)) (@kIx _ K _ _ _ _ _ (@kIx _ K _ _ _ _ _ (@vw _ 0 _ _ (by left)) (@pe_int _ _ _ _) (by intro _ _; rfl) (by rfl)) (@vw _ 3 _ _ (by left)) (by intro _ _; rfl) (by rfl)) (by walk_at "n")) (@pe_one _ _ _ _ _ (@pe_cmpM _ _ _ _ _ _ _ _ om_le (@kIx _ K _ _ _ _ _ (@vw _ 4 _ _ (by left)) (@pe_int _ _ _ _) (by intro _ _; rfl) (by rfl)) (@vw _ 1 _ _ (by left)) (by walk_at "n"))))))), ?_⟩
 refine ⟨ls, rs, t, k, hg, G, hv, hok, rfl, hk, fun p H1 s1 g1 => ?_⟩
 dsimp only [gName]
 obtain ⟨a, tl, rl, ps, rfl, g⟩ := gm_open (Rep.same s1 _ _ hg)
 refine ⟨_, _, .inr (.of g1), atI_of (n := 0) rfl rfl, _, .ref tl, .inr g.two, rfl, _, _, .inr g.lab, lab_at hk, ?_⟩
 have e : homeB ls rs z t k = (decide (t.end_ rs k = labF ls k) && decide ((t.many rs k : Int) <= z)) := rfl
 have q' := q H1 s1
 rw [e] at q'
 generalize t.end_ rs k = x at *
 generalize labF ls k = y at *
 generalize ((t.many rs k : Nat) : Int) = m at *
 have e2 : (false ^^ (x == y)) = decide (x = y) := by rw [Bool.false_xor]; rfl
 show if (false ^^ (x == y)) = true then _ else _
 rw [e2]
 refine ite2 (fun h => ?_) (fun h => ?_)
 ·refine ⟨_, _, .inr (.of g1), atI_of (n := 1) rfl rfl, ?_⟩
  rw [h, Bool.true_and] at q'
  exact q'
 ·have : decide (x = y) = false := by simpa using h
  rw [this, Bool.false_and] at q'
  exact q'
def sp_lets (K : W.Frag) (Pt : Addr) : Sp := fun vs H Q _ => match vs with
 | [u, .int z, v] => ∃ ls rs d, Rep K H (gmD ls rs) u /\ Gm ls rs /\ RepW K H d v /\ Lam Pt lamP_is_tree lamQ_is_tree H /\ (treeW rs.length d = false -> ∀ H', Grow Pt H H' -> Lam Pt lamP_is_tree lamQ_is_tree H' -> Q (.bl false) H') /\ (∀ t : Tr, d = upW t.dv -> t.ok rs.length -> treeW rs.length d = true -> ∀ H', Grow Pt H H' -> Lam Pt lamP_is_tree lamQ_is_tree H' -> Q (.bl ((List.range ls.length).all (homeB ls rs z t))) H')
 | _ => False
theorem sp_lets_mono {Pt : Addr} : SpMono (sp_lets K Pt) := fun vs H Q Q' E h q => by
 unfold sp_lets at *
 split at q
 ·obtain ⟨ls, rs, d, h1, h2, h3, h4, q1, q2⟩ := q
  exact ⟨ls, rs, d, h1, h2, h3, h4, fun x1 H' x2 x3 => h _ _ (q1 x1 H' x2 x3), fun t x1 x2 x3 H' x4 x5 => h _ _ (q2 t x1 x2 x3 H' x4 x5)⟩
 ·exact q.elim
theorem ok_lets_tree (B : BMn mg base) : FnOk P w K mg base CX0 10 T.f_lets_tree T.d_lets_tree ["game", "d", "thing"] (sp_lets K T.p_is_tree) := by
 have G_is_tree := ok_is_tree (P := P) (w := w) (base := base) T B; have G_comes_home := ok_comes_home (P := P) (w := w) (base := base) T
 refine T.F_lets_tree.ok sc_lets_tree (fun vs H Q E h => by unfold sp_lets at h; split at h <;> first | rfl | exact h.elim) (fun cdv A outer s H vs Q E hr h => ?_)
 have hu := hu60 hr
 have hr_is_tree := hr.mono (show 9 <= _ by decide); have hr_comes_home := hr.mono (show 2 <= _ by decide)
 have mo1 : SpMono (sp_istree K T.p_is_tree) := sp_istree_mono
 have mo2 : SpMono (sp_home K) := sp_home_mono
 match vs, h with
 | [u, .int z, v], ⟨ls, rs, d, hg, G, hd, hL, q1, q2⟩ =>
 refine ⟨_, (@pss_cons _ _ _ _ _ (@ps_if _ _ _ _ _ _ _ _ (@pt_not _ _ _ _ (@tu_val _ _ _ (@pe_call _ _ _ _ _ _ _ _ _ _ _ _ _ _ _ _ G_is_tree hr_is_tree rfl T.m_is_tree T.F_is_tree.kp T.b_is_tree .nil pass0 (@pa_cons _ _ _ _ _ (@vw _ 0 _ _ (by left)) (@pa1 _ _ _ (@vw _ 2 _ _ (by left)) (by rfl)) (by rfl)) (by decide) (by rfl) (by rfl)) (by intro _; rfl))) (@pss_one _ _ _ (@ps_ret _ _ _ _ (@pe_bl _ _ _ _))) (@pss_nil _)) (@pss_one _ _ _ (@ps_ret _ _ _ _ (@pe_callB _ _ _ _ _ _ _ _ _ (kAll (K := K) rfl) rfl T.z_all (by rfl) (@pa1 _ _ _ (@pe_compB _ _ _ _ _ _ _ (["hidden", "game", "d", "thing"]) 1 ([0, 1, 2]) _ _ _ _ rfl (@pi_range1 _ _ _ _ _ _ rfl T.z_range (@pa1 _ _ _ (@pe_callB _ _ _ _ _ _ _ _ _ (kLen (K := K)) rfl T.z_len (by rfl) (@pa1 _ _ _ (@kIx _ K _ _ _ _ _ (@vw _ 0 _ _ (by left)) (@pe_int _ _ _ _) (by intro _ _; rfl) (by rfl)) (by rfl)) (by decide) (by decide) (by rfl) (by rfl)) (by rfl)) (by rfl)) (by kernel_rfl) rfl rfl (by kernel_rfl) (fun c => @pg_name _ _ 0 _ (show (["hidden", "game", "d", "thing"] : List Str).Nodup by decide +kernel) rfl (by right) (by symm)) (go_name (by decide)) (fun c => @pts_nil _) (fun c => (@pe_call _ _ _ _ _ _ _ _ _ _ _ _ _ _ _ _ G_comes_home hr_comes_home rfl T.m_comes_home T.F_comes_home.kp T.b_comes_home .nil pass0 (@pa_cons _ _ _ _ _ (@vw _ 1 _ _ (by left)) (@pa_cons _ _ _ _ _ (@vw _ 2 _ _ (by left)) (@pa_cons _ _ _ _ _ (@vw _ 3 _ _ (by left)) (@pa1 _ _ _ (@vw _ 0 _ _ (by left)) (by rfl)) (by rfl)) (by rfl)) (by rfl)) (by decide) (by rfl) (by rfl))) (by intro _; rfl)) (by rfl)) (by decide) (by decide) (by rfl) (by rfl))))), ?_⟩
 obtain ⟨pz, hP, _⟩ := id hL
 refine ⟨ls, rs, d, hg, G, hd, hL, fun H1 g1 L1 => ?_⟩
 have l16 := G.l16
 have hg1 := Rep.tab g1 hP _ _ hg
 have hd1 := RepW.tab g1 hP _ _ hd
 cases hb : treeW rs.length d with
 | false => exact q1 hb H1 g1 L1
 | true =>
  obtain ⟨t, rfl, hok, _, _⟩ := treeW_inv hb
  have hv := tr_ofW t v hd1
  obtain ⟨a, tl, rl, ps, rfl, g⟩ := gm_open hg1
  refine ⟨_, .ref tl, .inr g.two, rfl, ls.length, .inr ⟨_, g.lab, by rw [List.length_map]⟩, ls.length, rfl, by omega, by omega, ?_⟩
  refine comp_range (fun j ys H' => Same H1 H' /\ ys = ((List.range j).map (homeB ls rs z t)).map V.bl) ⟨Same.refl _, rfl⟩ (fun j ys H' hj ⟨_, e⟩ => by rw [e, List.length_map, List.length_map, List.length_range]; exact small1000 (by omega)) ?_ ?_
  ·rintro j ys H2 hj ⟨s2, rfl⟩
   rw [Int.toNat_natCast] at hj
   refine ⟨ls, rs, t, j, Rep.same s2 _ _ hg1, G, Rep.same s2 _ _ hv, hok, by rw [Int.zero_add], hj, fun H3 s3 => ⟨s2.trans s3, ?_⟩⟩
   rw [List.range_succ, List.map_append, List.map_append]
   rfl
  ·rintro ys H2 ⟨s2, rfl⟩ l nl
   rw [Int.toNat_natCast]
   refine ⟨(List.range ls.length).map (homeB ls rs z t), .of upd_same, ?_⟩
   have s3 := s2.trans (Same.upd (o := .lst (((List.range ls.length).map (homeB ls rs z t)).map V.bl)) nl)
   rw [show ((List.range ls.length).map (homeB ls rs z t)).all id = (List.range ls.length).all (homeB ls rs z t) by rw [List.all_map]; rfl]
   exact q2 t rfl hok hb _ (g1.trans (Grow.same s3)) (L1.same s3)
def sp_deep (K : W.Frag) : Sp := fun vs H Q _ => match vs with
 | [u, v] => ∃ ls rs d, Rep K H (gmD ls rs) u /\ Gm ls rs /\ RepW K H d v /\ (treeW rs.length d = false -> ∀ H', Same H H' -> Q .non H') /\ (∀ t : Tr, d = upW t.dv -> t.ok rs.length -> treeW rs.length d = true -> (∃ k, k < ls.length /\ t.end_ rs k ≠ labF ls k) -> ∀ H', Same H H' -> Q .non H') /\ (∀ (t : Tr) (M : Nat), d = upW t.dv -> t.ok rs.length -> treeW rs.length d = true -> (∀ k, k < ls.length -> t.end_ rs k = labF ls k /\ t.many rs k <= M) -> (∃ k, k < ls.length /\ t.many rs k = M) -> ∀ H', Same H H' -> Q (.int (M : Nat)) H')
 | _ => False
theorem sp_deep_mono : SpMono (sp_deep K) := fun vs H Q Q' E h q => by
 unfold sp_deep at *
 split at q
 ·obtain ⟨ls, rs, d, h1, h2, h3, q1, q2, q3⟩ := q
  exact ⟨ls, rs, d, h1, h2, h3, fun x1 H' x2 => h _ _ (q1 x1 H' x2), fun t x1 x2 x3 x4 H' x5 => h _ _ (q2 t x1 x2 x3 x4 H' x5), fun t M x1 x2 x3 x4 x5 H' x6 => h _ _ (q3 t M x1 x2 x3 x4 x5 H' x6)⟩
 ·exact q.elim
theorem rep_lst7 {H : Hp} {p : Addr} {xs : List V} {ds : List Dv} (h : H p = some (.lst xs)) (r : Reps K H ds xs) : Rep K H (.lst ds) (.ref p) := by unfold Rep; exact ⟨p, xs, rfl, .of h, r⟩
def gone (rs : List (List Bool)) (t : Tr) (k : Nat) : List V := [.int (t.end_ rs k), .int (t.many rs k : Nat)]
theorem ok_Zdeep : FnOk P w K mg base CX0 21 T.f_Zdeep T.d_Zdeep ["_law_game_here", "_law_thing"] (sp_deep K) := by
 have G_Zmany := ok_Zmany (P := P) (w := w) (base := base) T; have G_Zthrough := ok_Zthrough (P := P) (w := w) (base := base) T
 refine T.F_Zdeep.ok sc_Zdeep (fun vs H Q E h => by unfold sp_deep at h; split at h <;> first | rfl | exact h.elim) (fun cdv A outer s H vs Q E hr h => ?_)
 have hu := hu60 hr
 have hr_Zmany := hr.mono (show 20 <= _ by decide); have hr_Zthrough := hr.mono (show 1 <= _ by decide)
 have mo1 : SpMono (spM K 17) := spM_mono
 have mo2 : SpMono (sp_asked K) := sp_asked_mono
 unfold sp_deep at h
 split at h
 rotate_left
 ·exact h.elim
 rename_i u v
 obtain ⟨ls, rs, d, hg, G, hd, q1, q2, q3⟩ := h
 refine ⟨_, (@pss_cons _ _ _ _ _ (@ps_if _ _ _ _ _ _ _ _ (@tu_cmp _ _ _ _ _ _ _ _ om_gt (@pe_call _ _ _ _ _ _ _ _ _ _ _ _ _ _ _ _ G_Zmany hr_Zmany rfl T.m_Zmany T.F_Zmany.kp T.b_Zmany .nil pass0 (@pa_cons _ _ _ _ _ (@vw _ 0 _ _ (by left)) (@pa_cons _ _ _ _ _ (@vw _ 1 _ _ (by left)) (@pa1 _ _ _ (@pe_int _ _ _ _) (by rfl)) (by rfl)) (by rfl)) (by decide) (by rfl) (by rfl)) (@pe_int _ _ _ _) (by walk_at "n")) (@pss_one _ _ _ (@ps_ret _ _ _ _ (@pe_non _ _ _))) (@pss_nil _)) (@pss_cons _ _ _ _ _ (@ps_set _ _ 2 _ _ _ _ sc_Zdeep.nd rfl (by right) (@pe_compB _ _ _ _ _ _ _ (["_law_k", "_law_game_here", "_law_thing"]) 1 ([0, 1]) _ _ _ _ rfl (@pi_range1 _ _ _ _ _ _ rfl T.z_range (@pa1 _ _ _ (@pe_callB _ _ _ _ _ _ _ _ _ (kLen (K := K)) rfl T.z_len (by rfl) (@pa1 _ _ _ (@kIx _ K _ _ _ _ _ (@vw _ 0 _ _ (by left)) (@pe_int _ _ _ _) (by intro _ _; rfl) (by rfl)) (by rfl)) (by decide) (by decide) (by rfl) (by rfl)) (by rfl)) (by rfl)) (by kernel_rfl) rfl rfl (by kernel_rfl) (fun c => @pg_name _ _ 0 _ (show (["_law_k", "_law_game_here", "_law_thing"] : List Str).Nodup by decide +kernel) rfl (by right) (by symm)) (go_name (by decide)) (fun c => @pts_nil _) (fun c => (@pe_call _ _ _ _ _ _ _ _ _ _ _ _ _ _ _ _ G_Zthrough hr_Zthrough rfl T.m_Zthrough T.F_Zthrough.kp T.b_Zthrough .nil pass0 (@pa_cons _ _ _ _ _ (@vw _ 1 _ _ (by left)) (@pa_cons _ _ _ _ _ (@vw _ 2 _ _ (by left)) (@pa1 _ _ _ (@vw _ 0 _ _ (by left)) (by rfl)) (by rfl)) (by rfl)) (by decide) (by rfl) (by rfl))) (by intro _; rfl)) (by rfl) (by symm)) (@pss_cons _ _ _ _ _ (@ps_if _ _ _ _ _ _ _ _ (@tu_cmp _ _ _ _ _ _ _ _ (kNe (K := K) hu) (@pe_compB _ _ _ _ _ _ _ (["_law_k", "_law_gone", "_law_game_here"]) 1 ([2, 0]) _ _ _ _ rfl (@pi_range1 _ _ _ _ _ _ rfl T.z_range (@pa1 _ _ _ (@pe_callB _ _ _ _ _ _ _ _ _ (kLen (K := K)) rfl T.z_len (by rfl) (@pa1 _ _ _ (@kIx _ K _ _ _ _ _ (@vw _ 0 _ _ (by left)) (@pe_int _ _ _ _) (by intro _ _; rfl) (by rfl)) (by rfl)) (by decide) (by decide) (by rfl) (by rfl)) (by rfl)) (by rfl)) (by kernel_rfl) rfl rfl (by kernel_rfl) (fun c => @pg_name _ _ 0 _ (show (["_law_k", "_law_gone", "_law_game_here"] : List Str).Nodup by decide +kernel) rfl (by right) (by symm)) (go_name (by decide)) (fun c => @pts_one _ _ _ (@tu_cmp _ _ _ _ _ _ _ _ (kNe (K := K) hu) (@kIx _ K _ _ _ _ _ (@kIx _ K _ _ _ _ _ (@vw _ 1 _ _ (by left)) (@vw _ 0 _ _ (by left)) (by intro _ _; rfl) (by rfl)) (@pe_int _ _ _ _) (by intro _ _; rfl) (by rfl)) (@kIx _ K _ _ _ _ _ (@kIx _ K _ _ _ _ _ (@vw _ 2 _ _ (by left)) (@pe_int _ _ _ _) (by intro _ _; rfl) (by rfl)) (@vw _ 0 _ _ (by left)) (by intro _ _; rfl) (by rfl)) (by walk_at "n"))) (fun c => (@vw _ 0 _ _ (by left))) (by intro _; rfl)) (@pe_lst _ _ _ _ (@pa_nil _)) (by walk_at "n")) (@pss_one _ _ _ (@ps_ret _ _ _ _ (@pe_non _ _ _))) (@pss_nil _)) (@pss_one _ _ _ (@ps_ret _ _ _ _ (@pe_callB _ _ _ _ _ _ _ _ _ (kMaxL (K := K) rfl) rfl T.z_max (by rfl) (@pa1 _ _ _ (@pe_compB _ _ _ _ _ _ _ ["_law_way"] 1 [] _ _ _ _ rfl (@kSeq _ K _ _ _ (@vw _ 2 _ _ (by left)) (by rfl)) (by kernel_rfl) rfl rfl (by kernel_rfl) (fun c => @pg_name _ _ 0 _ (show (["_law_way"] : List Str).Nodup by decide +kernel) rfl (by right) (by symm)) (go_name (by decide)) (fun c => @pts_nil _) (fun c => (@kIx _ K _ _ _ _ _ (@vw _ 0 _ _ (by left)) (@pe_int _ _ _ _) (by intro _ _; rfl) (by rfl))) (by intro _; rfl)) (by rfl)) (by decide) (by decide) (by rfl) (by rfl))))))), ?_⟩
 have l16 := G.l16
 have l1 := G.l1
 refine ⟨ls, rs, d, 16, hg, G, hd, rfl, by decide, fun H1 s1 => ?_⟩
 have ht := tree_many rs.length d
 generalize manyW rs.length 16 d = M at *
 refine ite2 (fun e => ?_) (fun e => ?_)
 ·have e' : ((2000 : Int) < (M : Int)) := of_decide_eq_true e
  exact q1 (by rw [ht]; exact decide_eq_false (by omega)) H1 s1
 have e' : ¬ ((2000 : Int) < (M : Int)) := fun z => e (decide_eq_true z)
 have hb : treeW rs.length d = true := by rw [ht]; exact decide_eq_true (by omega)
 clear ht e e'
 obtain ⟨t, rfl, hok, _, _⟩ := treeW_inv hb
 have hg1 := Rep.same s1 _ _ hg
 have hv := tr_ofW t v (RepW.same s1 _ _ hd)
 obtain ⟨a, tl, rl, ps, rfl, g⟩ := gm_open hg1
 dsimp only [tNext]
 refine seq_at (fun σ H' => ∃ (l : Addr) (as : List Addr), σ = [some (.ref a), some v, some (.ref l)] /\ Same H1 H' /\ H' l = some (.lst (as.map V.ref)) /\ as.length = ls.length /\ ∀ (k : Nat) (p : Addr), as[k]? = some p -> H' p = some (.tup (gone rs t k))) ?_ ?_ (by walk_at "sm")
 ·refine ⟨_, .ref tl, .inr g.two, rfl, ls.length, .inr ⟨_, g.lab, by rw [List.length_map]⟩, ls.length, rfl, by omega, by omega, ?_⟩
  refine comp_range (fun j ys H' => ∃ as : List Addr, ys = as.map V.ref /\ as.length = j /\ Same H1 H' /\ ∀ (k : Nat) (p : Addr), as[k]? = some p -> H' p = some (.tup (gone rs t k))) ⟨[], rfl, rfl, Same.refl _, fun k p z => by simp at z⟩ (fun j ys H' hj ⟨as, e, e2, _⟩ => by rw [e, List.length_map, e2]; exact small1000 (by omega)) ?_ ?_
  ·rintro j ys H2 hj ⟨as, rfl, has, s2, h2⟩
   rw [Int.toNat_natCast] at hj
   refine ⟨ls, rs, t, j, Rep.same s2 _ _ hg1, G, Rep.same s2 _ _ hv, hok, by rw [Int.zero_add], hj, fun p H3 s3 g3 => ⟨as ++ [p], by rw [List.map_append]; rfl, by rw [List.length_append, has]; rfl, s2.trans s3, fun k p' hp => ?_⟩⟩
   rcases Nat.lt_or_ge k j with z | z
   ·rw [List.getElem?_append_left (by omega)] at hp
    exact s3 _ _ (h2 k p' hp)
   ·rw [List.getElem?_append_right (by omega)] at hp
    have : k - as.length = 0 := by
     rcases Nat.eq_zero_or_pos (k - as.length) with y | y
     ·exact y
     ·rw [List.getElem?_eq_none (by simp; omega)] at hp; cases hp
    rw [this] at hp
    cases hp
    have : k = j := by omega
    subst this
    exact g3
  ·rintro ys H2 ⟨as, rfl, has, s2, h2⟩ l nl
   rw [Int.toNat_natCast] at has
   have s3 := Same.upd (o := .lst (as.map V.ref)) nl
   exact ⟨l, as, rfl, s2.trans s3, upd_same, has, fun k p hp => s3 _ _ (h2 k p hp)⟩
 rintro σ H2 ⟨l, as, rfl, s2, gl, has, h2⟩
 have g2 := g.same s2
 have hat : ∀ k, k < ls.length -> ∃ p, atI (as.map V.ref) ((k : Nat) : Int) = some (.ref p) /\ H2 p = some (.tup (gone rs t k)) := fun k hk => by
  have e : as[k]? = some as[k] := List.getElem?_eq_getElem (by omega)
  exact ⟨as[k], atI_of rfl (by rw [List.getElem?_map, e]; rfl), h2 k _ e⟩
 refine seq_at (fun σ H' => σ = [some (.ref a), some v, some (.ref l)] /\ Same H2 H' /\ ∀ k, k < ls.length -> t.end_ rs k = labF ls k) ?_ ?_ (by walk_at "sm")
 ·refine ⟨_, .ref tl, .inr g2.two, rfl, ls.length, .inr ⟨_, g2.lab, by rw [List.length_map]⟩, ls.length, rfl, by omega, by omega, ?_⟩
  refine comp_range (fun j ys H' => H' = H2 /\ ys = iL ((List.range j).filter fun k => decide (t.end_ rs k ≠ labF ls k))) ⟨rfl, rfl⟩ (fun j ys H' hj ⟨_, e⟩ => by rw [e, iL_len]; exact Nat.lt_of_le_of_lt (List.length_filter_le _ _) (by rw [List.length_range]; exact small1000 (by omega))) ?_ ?_
  ·rintro j ys H3 hj ⟨rfl, rfl⟩
   rw [Int.toNat_natCast] at hj
   obtain ⟨p, hp, gp⟩ := hat j hj
   refine ⟨_, .ref p, .inl (.of gl), by rw [Int.zero_add]; exact hp, _, _, .inr (.of gp), atI_of (n := 0) rfl rfl, _, .ref tl, .inr g2.two, rfl, _, _, .inr g2.lab, by rw [Int.zero_add]; exact lab_at hj, ?_⟩
   rw [List.range_succ, List.filter_append, Int.zero_add]
   have e2 : (true ^^ (t.end_ rs j == labF ls j)) = decide (t.end_ rs j ≠ labF ls j) := by
    by_cases z : t.end_ rs j = labF ls j <;> simp [z]
   show if (true ^^ (t.end_ rs j == labF ls j)) = true then _ else _
   rw [e2]
   refine ite2 (fun h => ?_) (fun h => ?_)
   ·refine ⟨rfl, ?_⟩
    rw [List.filter_cons, if_pos h, List.filter_nil, iL_app]
    rfl
   ·refine ⟨rfl, ?_⟩
    rw [List.filter_cons, if_neg h, List.filter_nil, List.append_nil]
  ·rintro ys H3 ⟨rfl, rfl⟩ p np
   rw [Int.toNat_natCast]
   refine ⟨small_le (show 0 <= 1000 by decide), fun p2 n2 => ?_⟩
   have s3 := Same.upd (o := .lst (iL ((List.range ls.length).filter fun k => decide (t.end_ rs k ≠ labF ls k)))) np
   have s4 := Same.upd (o := .lst []) n2
   refine ⟨.lst (iD ((List.range ls.length).filter fun k => decide (t.end_ rs k ≠ labF ls k))), .lst [], rep_lst7 (s4 _ _ upd_same) (reps_iD _), rep_lst7 upd_same reps_nil, by unfold depD; rw [depDs_iD]; decide, ?_⟩
   generalize hxs : (List.range ls.length).filter (fun k => decide (t.end_ rs k ≠ labF ls k)) = xs at *
   cases xs with
   | nil =>
    refine ⟨rfl, s3.trans s4, fun k hk => ?_⟩
    have := List.filter_eq_nil_iff.mp hxs k (List.mem_range.mpr hk)
    simpa using this
   | cons x xs =>
    have hx : x ∈ (List.range ls.length).filter (fun k => decide (t.end_ rs k ≠ labF ls k)) := by rw [hxs]; exact List.mem_cons_self ..
    obtain ⟨m1, m2⟩ := List.mem_filter.mp hx
    exact q2 t rfl hok hb ⟨x, List.mem_range.mp m1, of_decide_eq_true m2⟩ _ (s1.trans (s2.trans (s3.trans s4)))
 rintro σ H3 ⟨rfl, s3, hend⟩
 refine .inl ⟨⟨_, .of (s3 _ _ gl)⟩, ?_⟩
 refine comp_list (xs := as.map V.ref) (fun j ys H' => H' = H3 /\ ys = ((List.range j).map fun k => ((t.many rs k : Nat) : Int)).map V.int) ⟨rfl, rfl⟩ (fun j ys H' _ ⟨e, _⟩ => by rw [e]; exact .of (s3 _ _ gl)) (fun j ys H' hj ⟨_, e⟩ => by rw [e, List.length_map, List.length_map, List.length_range]; rw [List.length_map] at hj; exact small1000 (by omega)) ?_ ?_
 ·rintro j x ys H4 hx ⟨rfl, rfl⟩
  rw [List.getElem?_map] at hx
  cases hp : as[j]? with
  | none => rw [hp] at hx; cases hx
  | some p =>
   rw [hp] at hx
   cases hx
   refine ⟨_, _, .inr (.of (s3 _ _ (h2 j p hp))), atI_of (n := 1) rfl rfl, rfl, ?_⟩
   rw [List.range_succ, List.map_append, List.map_append]
   rfl
 ·rintro ys H4 ⟨rfl, rfl⟩ p np
  rw [List.length_map, has]
  refine ⟨(List.range ls.length).map fun k => ((t.many rs k : Nat) : Int), .of upd_same, by rw [List.length_map, List.length_range]; omega, fun M hM hle => ?_⟩
  obtain ⟨k, hk, rfl⟩ := List.mem_map.mp hM
  have hk := List.mem_range.mp hk
  exact q3 t (t.many rs k) rfl hok hb (fun k' hk' => ⟨hend k' hk', by have := hle _ (List.mem_map.mpr ⟨k', List.mem_range.mpr hk', rfl⟩); omega⟩) ⟨k, hk, rfl⟩ _ (s1.trans (s2.trans (s3.trans (Same.upd np))))
def keyA : Key := Sum.inr (Str.ofString "asks")
def sp_judged (K : W.Frag) (Pt : Addr) : Sp := fun vs H Q _ => match vs with
 | [u, v, .ref kd] => ∃ ls rs d kvs A, Rep K H (gmD ls rs) u /\ Gm ls rs /\ RepW K H d v /\ H kd = some (.dK kvs) /\ valV kvs keyA = some (.int (A : Nat)) /\ (EndsP ls rs -> IsFew (labF ls) (rs.map gB) (fun k => decide (k ∈ List.range ls.length)) A) /\ Lam Pt lamP_is_tree lamQ_is_tree H /\ ∀ H', Grow Pt H H' -> Lam Pt lamP_is_tree lamQ_is_tree H' -> Q (.bl true) H'
 | _ => False
theorem sp_judged_mono {Pt : Addr} : SpMono (sp_judged K Pt) := fun vs H Q Q' E h q => by
 unfold sp_judged at *
 split at q
 ·obtain ⟨ls, rs, d, kvs, A, h1, h2, h3, h4, h5, h6, h7, q⟩ := q
  exact ⟨ls, rs, d, kvs, A, h1, h2, h3, h4, h5, h6, h7, fun H' x1 x2 => h _ _ (q H' x1 x2)⟩
 ·exact q.elim
theorem ok_Zjudged (B : BMn mg base) : FnOk P w K mg base CX0 22 T.f_Zjudged T.d_Zjudged ["_law_game_here", "_law_thing", "_law_known"] (sp_judged K T.p_is_tree) := by
 have G_Zdeep := ok_Zdeep (P := P) (w := w) (base := base) T; have G_lets_tree := ok_lets_tree (P := P) (w := w) (base := base) T B; have G_Zpair := ok_Zpair (P := P) (w := w) (base := base) T
 refine T.F_Zjudged.ok sc_Zjudged (fun vs H Q E h => by unfold sp_judged at h; split at h <;> first | rfl | exact h.elim) (fun cdv A outer s H vs Q E hr h => ?_)
 have hu := hu60 hr
 have hr_Zdeep := hr.mono (show 21 <= _ by decide); have hr_lets_tree := hr.mono (show 10 <= _ by decide); have hr_Zpair := hr.mono (show 1 <= _ by decide)
 have mo1 : SpMono (sp_deep K) := sp_deep_mono
 have mo2 : SpMono (sp_lets K T.p_is_tree) := sp_lets_mono
 have mo3 : SpMono (sp_pair K) := sp_pair_mono
 match vs, h with
 | [u, v, .ref kd], ⟨ls, rs, d, kvs, A0, hg, G, hd, hk, hA, hF, hL, q⟩ =>
 refine ⟨_, (@pss_cons _ _ _ _ _ (@ps_set _ _ 3 _ _ _ _ sc_Zjudged.nd rfl (by right) (@pe_call _ _ _ _ _ _ _ _ _ _ _ _ _ _ _ _ G_Zdeep hr_Zdeep rfl T.m_Zdeep T.F_Zdeep.kp T.b_Zdeep .nil pass0 (@pa_cons _ _ _ _ _ (@vw _ 0 _ _ (by left)) (@pa1 _ _ _ (@vw _ 1 _ _ (by left)) (by rfl)) (by rfl)) (by decide) (by rfl) (by rfl)) (by rfl) (by symm)) (@pss_cons _ _ _ _ _ (@ps_for _ _ _ _ _ _ _ _ PassesOwn.never rfl (@kSeq _ K _ _ _ (@pe_ifExp _ _ _ _ _ _ _ _ (@tu_cmp _ _ _ _ _ _ _ _ om_is (@vw _ 3 _ _ (by left)) (@pe_non _ _ _) (by walk_at "n")) (@pe_lst _ _ _ _ (@pa_cons _ _ _ _ _ (@pe_int _ _ _ _) (@pa_cons _ _ _ _ _ (@pe_int _ _ _ _) (@pa_cons _ _ _ _ _ (@pe_int _ _ _ _) (@pa_cons _ _ _ _ _ (@pe_int _ _ _ _) (@pa1 _ _ _ (@pe_int _ _ _ _) (by rfl)) (by rfl)) (by rfl)) (by rfl)) (by rfl))) (@pe_lst _ _ _ _ (@pa_cons _ _ _ _ _ (@pe_int _ _ _ _) (@pa_cons _ _ _ _ _ (@pe_callB _ _ _ _ _ _ _ _ _ (cm_max rfl) rfl T.z_max (by rfl) (@pa_cons _ _ _ _ _ (@pe_int _ _ _ _) (@pa1 _ _ _ (@pe_op _ _ _ _ _ _ _ _ om_sub (@vw _ 3 _ _ (by left)) (@pe_int _ _ _ _)) (by rfl)) (by rfl)) (by decide) (by decide) (by rfl) (by rfl)) (@pa_cons _ _ _ _ _ (@vw _ 3 _ _ (by left)) (@pa_cons _ _ _ _ _ (@pe_op _ _ _ _ _ _ _ _ (kAdd (K := K)) (@vw _ 3 _ _ (by left)) (@pe_int _ _ _ _)) (@pa1 _ _ _ (@pe_int _ _ _ _) (by rfl)) (by rfl)) (by rfl)) (by rfl)) (by rfl)))) (by rfl)) (@pg_name _ _ 4 _ sc_Zjudged.nd rfl (by right) (by symm)) (@pss_cons _ _ _ _ _ (@ps_set _ _ 5 _ _ _ _ sc_Zjudged.nd rfl (by right) (@pe_call _ _ _ _ _ _ _ _ _ _ _ _ _ _ _ _ G_lets_tree hr_lets_tree rfl T.m_lets_tree T.F_lets_tree.kp T.b_lets_tree .nil pass0 (@pa_cons _ _ _ _ _ (@vw _ 0 _ _ (by left)) (@pa_cons _ _ _ _ _ (@vw _ 4 _ _ (by left)) (@pa1 _ _ _ (@vw _ 1 _ _ (by left)) (by rfl)) (by rfl)) (by rfl)) (by decide) (by rfl) (by rfl)) (by rfl) (by symm)) (@pss_cons _ _ _ _ _ (@ps_if _ _ _ _ _ _ _ _ (PW.pt (@pw_or _ _ _ _ _ _ _ (@pt_not _ _ _ _ (@tu_val _ _ _ (@pe_callB _ _ _ _ _ _ _ _ _ (kIsiW (K := K)) rfl T.z_isinstance (by rfl) (@pa_cons _ _ _ _ _ (@vw _ 5 _ _ (by left)) (@pa1 _ _ _ (@pe_bltn _ _ (.ty "bool") _ _ rfl T.z_bool (by rfl) rfl (by decide) (by decide)) (by rfl)) (by rfl)) (by decide) (by decide) (by rfl) (by rfl)) (by intro _; rfl))) (@pw_or1 _ _ _ _ (@tu_cmp _ _ _ _ _ _ _ _ (kNe (K := K) hu) (@vw _ 5 _ _ (by left)) (@pe_andM _ _ _ _ _ _ _ (@pe_cmpM _ _ _ _ _ _ _ _ om_isn (@vw _ 3 _ _ (by left)) (@pe_non _ _ _) (by walk_at "n")) (@pe_one _ _ _ _ _ (@pe_cmpM _ _ _ _ _ _ _ _ om_le (@vw _ 3 _ _ (by left)) (@vw _ 4 _ _ (by left)) (by walk_at "n")))) (by walk_at "n"))))) (@pss_one _ _ _ (@ps_ret _ _ _ _ (@pe_bl _ _ _ _))) (@pss_nil _)) (@pss_one _ _ _ (@ps_if _ _ _ _ _ _ _ _ (PW.pt (@pw_and _ _ _ _ _ _ _ (@tu_val _ _ _ (@vw _ 5 _ _ (by left)) (by intro _; rfl)) (@pw_and1 _ _ _ _ (PW.pt (@pw_or _ _ _ _ _ _ _ (@tu_cmp _ _ _ _ _ _ _ _ om_isn (@pe_call _ _ _ _ _ _ _ _ _ _ _ _ _ _ _ _ G_Zpair hr_Zpair rfl T.m_Zpair T.F_Zpair.kp T.b_Zpair .nil pass0 (@pa1 _ _ _ (@vw _ 0 _ _ (by left)) (by rfl)) (by decide) (by rfl) (by rfl)) (@pe_non _ _ _) (by walk_at "n")) (@pw_or1 _ _ _ _ (@tu_cmp _ _ _ _ _ _ _ _ om_gt (@pe_dget _ _ _ _ _ _ (hu_one hu) (@vw _ 2 _ _ (by left)) (@pe_str _ _ _ _) (by intro _ _; rfl)) (@vw _ 4 _ _ (by left)) (by walk_at "n")))))))) (@pss_one _ _ _ (@ps_ret _ _ _ _ (@pe_bl _ _ _ _))) (@pss_nil _))))) (by intro _; rfl)) (@pss_one _ _ _ (@ps_ret _ _ _ _ (@pe_bl _ _ _ _))))), ?_⟩
 refine seq_at (fun σ H' => ∃ dv : V, σ = [some u, some v, some (.ref kd), some dv, none, none] /\ Same H H' /\ ((dv = .non /\ ∀ t : Tr, d = upW t.dv -> t.ok rs.length -> treeW rs.length d = true -> ∀ z, (List.range ls.length).all (homeB ls rs z t) = false) \/ ∃ (t : Tr) (M : Nat), dv = .int (M : Nat) /\ d = upW t.dv /\ t.ok rs.length /\ treeW rs.length d = true /\ (∀ k, k < ls.length -> t.end_ rs k = labF ls k /\ t.many rs k <= M) /\ ∃ k, k < ls.length /\ t.many rs k = M)) ?_ ?_ (by walk_at "sm")
 ·refine ⟨ls, rs, d, hg, G, hd, fun hb H1 s1 => ⟨_, rfl, s1, .inl ⟨rfl, fun t _ _ z => absurd (hb.symm.trans z) (by decide)⟩⟩, fun t e ho hb ⟨k, hk1, hk2⟩ H1 s1 => ⟨_, rfl, s1, .inl ⟨rfl, fun t' e' ho' _ z => ?_⟩⟩, fun t M e ho hb h1 h2 H1 s1 => ⟨_, rfl, s1, .inr ⟨t, M, rfl, e, ho, hb, h1, h2⟩⟩⟩
  have := tr_inj t t' (e.symm.trans e')
  subst this
  rw [Bool.eq_false_iff]
  intro hall
  have := List.all_eq_true.mp hall k (List.mem_range.mpr hk1)
  unfold homeB at this
  rw [Bool.and_eq_true, decide_eq_true_iff] at this
  exact hk2 this.1
 rintro σ H1 ⟨dv, rfl, s1, hh⟩
 obtain ⟨ex, hx1, hx2, hx3, hx4⟩ : ∃ ex : Int -> Bool, (treeW rs.length d = false -> ∀ z, ex z = false) /\ (∀ t : Tr, d = upW t.dv -> t.ok rs.length -> treeW rs.length d = true -> ∀ z, (List.range ls.length).all (homeB ls rs z t) = ex z) /\ (∀ z, 0 <= z -> ex z = true -> EndsP ls rs /\ (A0 : Int) <= z) /\ ((dv = .non /\ ∀ z, ex z = false) \/ ∃ M : Nat, dv = .int (M : Nat) /\ ∀ z, ex z = decide ((M : Int) <= z)) := by
  rcases hh with ⟨e1, h1⟩ | ⟨t, M, e1, e2, ho, hb, h1, k, hk1, hk2⟩
  ·exact ⟨fun _ => false, fun _ _ => rfl, h1, (fun z _ e => nomatch e), .inl ⟨e1, fun _ => rfl⟩⟩
  ·refine ⟨fun z => decide ((M : Int) <= z), fun h => absurd (h.symm.trans hb) (by decide), fun t' e' ho' _ z => ?_, fun z z0 e => ?_, .inr ⟨M, e1, fun _ => rfl⟩⟩
   ·have := tr_inj t t' (e2.symm.trans e')
    subst this
    rw [Bool.eq_iff_iff, List.all_eq_true, decide_eq_true_iff]
    constructor
    ·intro h
     have := h k (List.mem_range.mpr hk1)
     unfold homeB at this
     rw [Bool.and_eq_true, decide_eq_true_iff, decide_eq_true_iff] at this
     rw [<- hk2]
     exact this.2
    ·intro h x hx
     have := h1 x (List.mem_range.mp hx)
     unfold homeB
     rw [Bool.and_eq_true, decide_eq_true_iff, decide_eq_true_iff]
     exact ⟨this.1, by omega⟩
   ·have e := of_decide_eq_true e
    have he := home_ends ho fun k hk => (h1 k hk).1
    refine ⟨he, ?_⟩
    have := (hF he).2 M (home_can t M _ ho fun k hk => h1 k (List.mem_range.mp (of_decide_eq_true hk)))
    omega
 clear hh
 have lists : ∀ R : V -> Hp -> Prop, (∀ l xs H2, H2 l = some (.lst xs) -> Same H1 H2 -> (∀ x ∈ xs, ∃ z : Int, x = .int z /\ 0 <= z) -> R (.ref l) H2) -> tIf (uB (tOp (mIs false) (vVar 3) (tC V.non)))
  (tLst
    (tCons (tC (V.int 0))
      (tCons (tC (V.int 1)) (tCons (tC (V.int 2)) (tCons (tC (V.int 3)) (tCons (tC (V.int 20)) tNil))))))
  (tLst
    (tCons (tC (V.int 0))
      (tCons (tCB mMax (tCons (tC (V.int 0)) (tCons (tOp mSub (vVar 3) (tC (V.int 1))) tNil)))
        (tCons (vVar 3) (tCons (tOp (mAdd K) (vVar 3) (tC (V.int 1))) (tCons (tC (V.int 16)) tNil)))))) [some u, some v, some (V.ref kd), some dv, none, none] H1 R := by
  intro R h
  rcases hx4 with ⟨rfl, _⟩ | ⟨M, rfl, _⟩
  ·refine ⟨small_le (show 5 <= 1000 by decide), fun l nl => h l _ _ upd_same (Same.upd nl) fun x hx => ?_⟩
   simp only [List.mem_cons, List.not_mem_nil, or_false] at hx
   rcases hx with rfl | rfl | rfl | rfl | rfl <;> exact ⟨_, rfl, by decide⟩
  ·refine ⟨small_le (show 5 <= 1000 by decide), fun l nl => h l _ _ upd_same (Same.upd nl) fun x hx => ?_⟩
   simp only [List.mem_cons, List.not_mem_nil, or_false] at hx
   rcases hx with rfl | rfl | rfl | rfl | rfl
   ·exact ⟨_, rfl, by decide⟩
   ·exact ⟨_, rfl, by omega⟩
   ·exact ⟨_, rfl, by omega⟩
   ·exact ⟨_, rfl, by omega⟩
   ·exact ⟨_, rfl, by decide⟩
 refine seq_at (fun σ H' => (∃ z4 z5 : Option V, σ = [some u, some v, some (.ref kd), some dv, z4, z5]) /\ Grow T.p_is_tree H H' /\ Lam T.p_is_tree lamP_is_tree lamQ_is_tree H') ?_ (fun σ H' ⟨_, g, l⟩ => q H' g l) (by walk_at "sm")
 refine lists _ fun l xs H2 gl s2 hxs => .inl ⟨⟨_, .of gl⟩, ?_⟩
 have g2 : Grow T.p_is_tree H H2 := Grow.same (s1.trans s2)
 have L2' := hL.same (s1.trans s2)
 clear lists
 refine for_list (xs := xs) (fun j σ H' => (∃ z4 z5 : Option V, σ = [some u, some v, some (.ref kd), some dv, z4, z5]) /\ Grow T.p_is_tree H H' /\ Lam T.p_is_tree lamP_is_tree lamQ_is_tree H' /\ H' l = some (.lst xs)) ⟨⟨_, _, rfl⟩, g2, L2', gl⟩ (fun j σ H' _ ⟨_, _, _, e⟩ => .inl (.of e)) ?_ (fun σ H' ⟨e, g, l, _⟩ => ⟨e, g, l⟩)
 obtain ⟨pz, hP, _⟩ := id hL
 rintro j x σ H3 hx ⟨⟨z4, z5, rfl⟩, g3, L3, gl3⟩
 obtain ⟨z, rfl, hz⟩ := hxs x (List.mem_of_getElem? hx)
 obtain ⟨pz3, hP3, _⟩ := id L3
 refine seq_at (fun σ H' => σ = [some u, some v, some (.ref kd), some dv, some (.int z), some (.bl (ex z))] /\ Grow T.p_is_tree H3 H' /\ Lam T.p_is_tree lamP_is_tree lamQ_is_tree H') ?_ ?_ (by walk_at "sm")
 ·refine ⟨ls, rs, d, Rep.tab g3 hP _ _ hg, G, RepW.tab g3 hP _ _ hd, L3, fun hb H4 g4 L4 => ⟨?_, g4, L4⟩, fun t e ho hb H4 g4 L4 => ⟨?_, g4, L4⟩⟩
  ·rw [hx1 hb z]; rfl
  ·rw [hx2 t e ho hb z]; rfl
 rintro σ H4 ⟨rfl, g4, L4⟩
 have g04 := g3.trans g4
 have gl4 : H4 l = some (.lst xs) := g4 _ _ (fun z => by rw [z, hP3] at gl3; cases gl3) gl3
 refine seq_at (fun σ H' => σ = [some u, some v, some (.ref kd), some dv, some (.int z), some (.bl (ex z))] /\ H4 = H') ?_ ?_ (by walk_at "sm")
 ·refine ⟨by decide, .bl (ex z), repW_bl, ?_⟩
  rcases hx4 with ⟨rfl, he⟩ | ⟨M, rfl, he⟩
  ·rw [he z]
   exact ⟨rfl, rfl⟩
  ·rw [he z]
   generalize hq : decide ((M : Int) <= z) = b
   show if (true ^^ (b == decide ((M : Int) <= z))) = true then _ else _
   rw [hq, show (true ^^ (b == b)) = false by simp]
   exact ⟨rfl, rfl⟩
 rintro σ _ ⟨rfl, rfl⟩
 have hk4 : H4 kd = some (.dK kvs) := g04 _ _ (fun z => by rw [z, hP] at hk; cases hk) hk
 cases he : ex z with
 | false =>
  exact ⟨⟨_, _, rfl⟩, g04, L4, gl4⟩
 | true =>
  obtain ⟨hE, hA0⟩ := hx3 z hz he
  have hg4 := Rep.tab g04 hP _ _ hg
  refine ⟨ls, rs, hg4, G, fun H5 s5 _ => ?_, fun i j t H5 hf _ _ _ => absurd hf.1 (hE i j)⟩
  refine ⟨kd, .int (A0 : Nat), rfl, by rw [<- hA]; exact DGet.k (k := keyA) (s5 _ _ hk4), ?_⟩
  have e0 : decide (z < (A0 : Int)) = false := decide_eq_false (by omega)
  show if decide (z < (A0 : Int)) = true then _ else _
  rw [e0]
  exact ⟨⟨_, _, rfl⟩, g04.trans (Grow.same s5), L4.same s5, s5 _ _ gl4⟩
theorem fit_up {n D B n' D' B' : Nat} {d : Dw} (h : Fit n D B d) (h1 : n <= n') (h2 : D <= D') (h3 : B <= B') : Fit n' D' B' d := ⟨okW_mono h1 _ h.ok, Nat.le_trans h.dep h2, Nat.le_trans h.bulk h3⟩
theorem fit_ask {q : Int} {d1 d2 : Dw} {n D B1 B2 : Nat} (hq : q.natAbs <= n) (h1 : Fit n D B1 d1) (h2 : Fit n D B2 d2) : Fit n (D + 1) (7 + B1 + B2) (.tup [.str (Str.ofString "ask"), .int q, d1, d2]) := by
 refine fit_tup.mpr ⟨fun e he => ?_, ?_⟩
 ·have f1 : Fit n D 10 (.str (Str.ofString "ask")) := fit_str (by decide)
  have f2 : Fit n D 10 (.int q) := fit_int hq
  simp only [List.mem_cons, List.not_mem_nil, or_false] at he
  rcases he with rfl | rfl | rfl | rfl
  ·exact ⟨f1.ok, f1.dep⟩
  ·exact ⟨f2.ok, f2.dep⟩
  ·exact ⟨h1.ok, h1.dep⟩
  ·exact ⟨h2.ok, h2.dep⟩
 ·have e : bulkWs [.str (Str.ofString "ask"), .int q, d1, d2] = (Str.ofString "ask").cps.size + 1 + (0 + 1 + (bulkW d1 + 1 + (bulkW d2 + 1 + 0))) := rfl
  rw [e, show (Str.ofString "ask").cps.size = 3 by decide]
  have := h1.bulk
  have := h2.bulk
  omega
theorem fit_say {d : Dw} {n D : Nat} (h : Fit n D 0 d) : Fit n (D + 1) 5 (.tup [.str (Str.ofString "say"), d]) := by
 refine fit_tup.mpr ⟨fun e he => ?_, ?_⟩
 ·have f1 : Fit n D 10 (.str (Str.ofString "say")) := fit_str (by decide)
  simp only [List.mem_cons, List.not_mem_nil, or_false] at he
  rcases he with rfl | rfl
  ·exact ⟨f1.ok, f1.dep⟩
  ·exact ⟨h.ok, h.dep⟩
 ·have e : bulkWs [.str (Str.ofString "say"), d] = (Str.ofString "say").cps.size + 1 + (bulkW d + 1 + 0) := rfl
  rw [e, show (Str.ofString "say").cps.size = 3 by decide]
  have := h.bulk
  omega
def spO (K : W.Frag) (D : Nat) : Sp := fun vs H Q _ => match vs with
 | [.ref t, u, v] => ∃ (N : Nat) (ls : List Int) (rs : List (List Bool)) (tr : Tr), GFeed H t N /\ N + 3 * D <= 700000000 /\ Rep K H (gmD ls rs) u /\ Gm ls rs /\ Rep K H tr.dv v /\ tr.ok rs.length /\ tr.sm /\ tr.deep < D /\ ∀ d' x H', RepW K H' d' x -> Fit 100000000000000000001 (tr.deep + 1) (7 * tr.size + 12) d' -> GFeed H' t (N + 3 * D) -> Frm t H H' -> Q x H'
 | _ => False
theorem spO_mono {D : Nat} : SpMono (spO K D) := fun vs H Q Q' E h q => by
 unfold spO at *
 split at q
 ·revert q; repeat' first | exact h _ _ | exact newL_mono h | exact out_mono h | exact outT_mono h | walk_at "m"
 ·exact q.elim
theorem tr_fit {m : Nat} (hm : m <= 1000) {t : Tr} (h1 : t.sm) (h2 : t.ok m) : Fit 100000000000000000001 t.deep (7 * t.size) (upW t.dv) := by
 obtain ⟨a, b, c⟩ := fit_tr hm t h1 h2
 exact ⟨okW_mono (by decide) _ a, by omega, c⟩
theorem gmat_frm {H H' : Hp} {ls : List Int} {rs : List (List Bool)} {a tl rl t : Addr} {ps : List Addr} (g : GmAt K H ls rs a tl rl ps) (f : Frm t H H') (ht : ∃ zs, H t = some (.lst zs)) : GmAt K H' ls rs a tl rl ps := by
 obtain ⟨zs, hz⟩ := ht
 exact g.frm f hz ⟨(fun _ z => nomatch z), (fun _ _ z => nomatch z)⟩
theorem other_d : ∀ D : Nat, FnOk P w K mg base CX0 (1 + D) T.f_Zother T.d_Zother ["_law_feed_here", "_law_game_here", "_law_tree_here"] (spO K D) := by
 intro D
 induction D with
 | zero =>
  refine T.F_Zother.ok sc_Zother (fun vs H Q E h => by unfold spO at h; split at h <;> first | rfl | exact h.elim) (fun cdv A outer s H vs Q E hr h => ?_)
  refine ⟨tNever, pss_never, ?_⟩
  unfold spO at h
  split at h
  ·obtain ⟨N, ls, rs, tr, h1, h2, h3, h4, h5, h6, h7, h8, _⟩ := h
   exact absurd h8 (by omega)
  ·exact h
 | succ D ih =>
  have G_Zother := ih
  have G_Zdraw := ok_Zdraw (P := P) (w := w) (base := base) T
  refine T.F_Zother.ok sc_Zother (fun vs H Q E h => by unfold spO at h; split at h <;> first | rfl | exact h.elim) (fun cdv A outer s H vs Q E hr h => ?_)
  have hu := hu60 hr
  have hr_Zother := hr
  have hr_Zdraw := hr.mono (show 1 <= 1 + D by omega)
  have mo : SpMono (spO K D) := spO_mono
  match vs, h with
  | [.ref t, u, v], ⟨N, ls, rs, tr, F, hN, hg, G, hv, hok, hsm, hD, q⟩ =>
  have r16 := G.r16
  have r1 := G.r1
  refine ⟨_, (@pss_cons _ _ _ _ _ (@ps_if _ _ _ _ _ _ _ _ (@tu_cmp _ _ _ _ _ _ _ _ (kEq (K := K) hu) (@kIx _ K _ _ _ _ _ (@vw _ 2 _ _ (by left)) (@pe_int _ _ _ _) (by intro _ _; rfl) (by rfl)) (@pe_str _ _ _ _) (by walk_at "n")) (@pss_cons _ _ _ _ _ (@ps_set _ _ 3 _ _ _ _ sc_Zother.nd rfl (by right) (@pe_call _ _ _ _ _ _ _ _ _ _ _ _ _ _ _ _ G_Zdraw hr_Zdraw rfl T.m_Zdraw T.F_Zdraw.kp T.b_Zdraw .nil pass0 (@pa_cons _ _ _ _ _ (@vw _ 0 _ _ (by left)) (@pa1 _ _ _ (@pe_int _ _ _ _) (by rfl)) (by rfl)) (by decide) (by rfl) (by rfl)) (by rfl) (by symm)) (@pss_one _ _ _ (@ps_ret _ _ _ _ (@kIx _ K _ _ _ _ _ (@pe_lst _ _ _ _ (@pa_cons _ _ _ _ _ (@pe_tup _ _ _ _ _ (@pa_cons _ _ _ _ _ (@pe_str _ _ _ _) (@pa1 _ _ _ (@pe_op _ _ _ _ _ _ _ _ (kAdd (K := K)) (@kIx _ K _ _ _ _ _ (@vw _ 2 _ _ (by left)) (@pe_int _ _ _ _) (by intro _ _; rfl) (by rfl)) (@pe_int _ _ _ _)) (by rfl)) (by rfl))) (@pa_cons _ _ _ _ _ (@pe_tup _ _ _ _ _ (@pa_cons _ _ _ _ _ (@pe_str _ _ _ _) (@pa_cons _ _ _ _ _ (@pe_call _ _ _ _ _ _ _ _ _ _ _ _ _ _ _ _ G_Zdraw hr_Zdraw rfl T.m_Zdraw T.F_Zdraw.kp T.b_Zdraw .nil pass0 (@pa_cons _ _ _ _ _ (@vw _ 0 _ _ (by left)) (@pa1 _ _ _ (@pe_callB _ _ _ _ _ _ _ _ _ (kLen (K := K)) rfl T.z_len (by rfl) (@pa1 _ _ _ (@kIx _ K _ _ _ _ _ (@vw _ 1 _ _ (by left)) (@pe_int _ _ _ _) (by intro _ _; rfl) (by rfl)) (by rfl)) (by decide) (by decide) (by rfl) (by rfl)) (by rfl)) (by rfl)) (by decide) (by rfl) (by rfl)) (@pa_cons _ _ _ _ _ (@vw _ 2 _ _ (by left)) (@pa1 _ _ _ (@vw _ 2 _ _ (by left)) (by rfl)) (by rfl)) (by rfl)) (by rfl))) (@pa1 _ _ _ (@pe_tup _ _ _ _ _ (@pa_cons _ _ _ _ _ (@pe_str _ _ _ _) (@pa1 _ _ _ (@pe_cmpM _ _ _ _ _ _ _ _ (kEq (K := K) hu) (@kIx _ K _ _ _ _ _ (@vw _ 2 _ _ (by left)) (@pe_int _ _ _ _) (by intro _ _; rfl) (by rfl)) (@pe_int _ _ _ _) (by walk_at "n")) (by rfl)) (by rfl))) (by rfl)) (by rfl)) (by rfl))) (@vw _ 3 _ _ (by left)) (by intro _ _; rfl) (by rfl))))) (@pss_nil _)) (@pss_cons _ _ _ _ _ (@ps_set _ _ 3 _ _ _ _ sc_Zother.nd rfl (by right) (@pe_call _ _ _ _ _ _ _ _ _ _ _ _ _ _ _ _ G_Zdraw hr_Zdraw rfl T.m_Zdraw T.F_Zdraw.kp T.b_Zdraw .nil pass0 (@pa_cons _ _ _ _ _ (@vw _ 0 _ _ (by left)) (@pa1 _ _ _ (@pe_int _ _ _ _) (by rfl)) (by rfl)) (by decide) (by rfl) (by rfl)) (by rfl) (by symm)) (@pss_cons _ _ _ _ _ (@ps_if _ _ _ _ _ _ _ _ (@tu_cmp _ _ _ _ _ _ _ _ (kEq (K := K) hu) (@vw _ 3 _ _ (by left)) (@pe_int _ _ _ _) (by walk_at "n")) (@pss_one _ _ _ (@ps_ret _ _ _ _ (@pe_tup _ _ _ _ _ (@pa_cons _ _ _ _ _ (@pe_str _ _ _ _) (@pa_cons _ _ _ _ _ (@kIx _ K _ _ _ _ _ (@vw _ 2 _ _ (by left)) (@pe_int _ _ _ _) (by intro _ _; rfl) (by rfl)) (@pa_cons _ _ _ _ _ (@kIx _ K _ _ _ _ _ (@vw _ 2 _ _ (by left)) (@pe_int _ _ _ _) (by intro _ _; rfl) (by rfl)) (@pa1 _ _ _ (@kIx _ K _ _ _ _ _ (@vw _ 2 _ _ (by left)) (@pe_int _ _ _ _) (by intro _ _; rfl) (by rfl)) (by rfl)) (by rfl)) (by rfl)) (by rfl))))) (@pss_nil _)) (@pss_cons _ _ _ _ _ (@ps_if _ _ _ _ _ _ _ _ (@tu_cmp _ _ _ _ _ _ _ _ (kEq (K := K) hu) (@vw _ 3 _ _ (by left)) (@pe_int _ _ _ _) (by walk_at "n")) (@pss_one _ _ _ (@ps_ret _ _ _ _ (@kIx _ K _ _ _ _ _ (@vw _ 2 _ _ (by left)) (@pe_op _ _ _ _ _ _ _ _ (kAdd (K := K)) (@pe_int _ _ _ _) (@pe_call _ _ _ _ _ _ _ _ _ _ _ _ _ _ _ _ G_Zdraw hr_Zdraw rfl T.m_Zdraw T.F_Zdraw.kp T.b_Zdraw .nil pass0 (@pa_cons _ _ _ _ _ (@vw _ 0 _ _ (by left)) (@pa1 _ _ _ (@pe_int _ _ _ _) (by rfl)) (by rfl)) (by decide) (by rfl) (by rfl))) (by intro _ _; rfl) (by rfl)))) (@pss_nil _)) (@pss_cons _ _ _ _ _ (@ps_if _ _ _ _ _ _ _ _ (@tu_cmp _ _ _ _ _ _ _ _ (kEq (K := K) hu) (@vw _ 3 _ _ (by left)) (@pe_int _ _ _ _) (by walk_at "n")) (@pss_one _ _ _ (@ps_ret _ _ _ _ (@pe_tup _ _ _ _ _ (@pa_cons _ _ _ _ _ (@pe_str _ _ _ _) (@pa_cons _ _ _ _ _ (@pe_call _ _ _ _ _ _ _ _ _ _ _ _ _ _ _ _ G_Zdraw hr_Zdraw rfl T.m_Zdraw T.F_Zdraw.kp T.b_Zdraw .nil pass0 (@pa_cons _ _ _ _ _ (@vw _ 0 _ _ (by left)) (@pa1 _ _ _ (@pe_callB _ _ _ _ _ _ _ _ _ (kLen (K := K)) rfl T.z_len (by rfl) (@pa1 _ _ _ (@kIx _ K _ _ _ _ _ (@vw _ 1 _ _ (by left)) (@pe_int _ _ _ _) (by intro _ _; rfl) (by rfl)) (by rfl)) (by decide) (by decide) (by rfl) (by rfl)) (by rfl)) (by rfl)) (by decide) (by rfl) (by rfl)) (@pa_cons _ _ _ _ _ (@kIx _ K _ _ _ _ _ (@vw _ 2 _ _ (by left)) (@pe_int _ _ _ _) (by intro _ _; rfl) (by rfl)) (@pa1 _ _ _ (@kIx _ K _ _ _ _ _ (@vw _ 2 _ _ (by left)) (@pe_int _ _ _ _) (by intro _ _; rfl) (by rfl)) (by rfl)) (by rfl)) (by rfl)) (by rfl))))) (@pss_nil _)) (@pss_cons _ _ _ _ _ (@ps_if _ _ _ _ _ _ _ _ (@tu_cmp _ _ _ _ _ _ _ _ (kEq (K := K) hu) (@vw _ 3 _ _ (by left)) (@pe_int _ _ _ _) (by walk_at "n")) (@pss_one _ _ _ (@ps_ret _ _ _ _ (@pe_tup _ _ _ _ _ (@pa_cons _ _ _ _ _ (@pe_str _ _ _ _) (@pa_cons _ _ _ _ _ (@kIx _ K _ _ _ _ _ (@vw _ 2 _ _ (by left)) (@pe_int _ _ _ _) (by intro _ _; rfl) (by rfl)) (@pa_cons _ _ _ _ _ (@pe_call _ _ _ _ _ _ _ _ _ _ _ _ _ _ _ _ G_Zother hr_Zother rfl T.m_Zother T.F_Zother.kp T.b_Zother .nil pass0 (@pa_cons _ _ _ _ _ (@vw _ 0 _ _ (by left)) (@pa_cons _ _ _ _ _ (@vw _ 1 _ _ (by left)) (@pa1 _ _ _ (@kIx _ K _ _ _ _ _ (@vw _ 2 _ _ (by left)) (@pe_int _ _ _ _) (by intro _ _; rfl) (by rfl)) (by rfl)) (by rfl)) (by rfl)) (by decide) (by rfl) (by rfl)) (@pa1 _ _ _ (@kIx _ K _ _ _ _ _ (@vw _ 2 _ _ (by left)) (@pe_int _ _ _ _) (by intro _ _; rfl) (by rfl)) (by rfl)) (by rfl)) (by rfl)) (by rfl))))) (@pss_nil _)) (@pss_one _ _ _ (@ps_ret _ _ _ _ (@pe_tup _ _ _ _ _ (@pa_cons _ _ _ _ _ (@pe_str _ _ _ _) (@pa_cons _ _ _ _ _ (@kIx _ K _ _ _ _ _ (@vw _ 2 _ _ (by left)) (@pe_int _ _ _ _) (by intro _ _; rfl) (by rfl)) (@pa_cons _ _ _ _ _ (@kIx _ K _ _ _ _ _ (@vw _ 2 _ _ (by left)) (@pe_int _ _ _ _) (by intro _ _; rfl) (by rfl)) (@pa1 _ _ _ (@pe_call _ _ _ _ _ _ _ _ _ _ _ _ _ _ _ _ G_Zother hr_Zother rfl T.m_Zother T.F_Zother.kp T.b_Zother .nil pass0 (@pa_cons _ _ _ _ _ (@vw _ 0 _ _ (by left)) (@pa_cons _ _ _ _ _ (@vw _ 1 _ _ (by left)) (@pa1 _ _ _ (@kIx _ K _ _ _ _ _ (@vw _ 2 _ _ (by left)) (@pe_int _ _ _ _) (by intro _ _; rfl) (by rfl)) (by rfl)) (by rfl)) (by rfl)) (by decide) (by rfl) (by rfl)) (by rfl)) (by rfl)) (by rfl)) (by rfl))))))))))), ?_⟩
  obtain ⟨ga, tl, rl, ps, rfl, g⟩ := gm_open hg
  cases tr with
  | say i =>
   obtain ⟨p, rfl, hp⟩ := tr_say hv
   refine ⟨_, _, .inr hp, atI_of (n := 0) rfl rfl, ?_⟩
   have hsm' : i.natAbs <= 100000000000000000000 := hsm
   refine ⟨_, F, by omega, okDiv_of (by decide) (by decide), fun way H1 w0 w3 F1 f1 => ?_⟩
   have hp1 := sqT_fr (frm_un f1) F.lst hp
   have g1 := gmat_frm g (frm_un f1) F.lst
   refine ⟨_, _, .inr hp1, atI_of (n := 1) rfl rfl, small_le (show 2 <= 1000 by decide), fun p1 n1 => ?_⟩
   have s1 := Same.upd (o := .tup [.str (Str.ofString "say"), .int (i + 1)]) n1
   have e1 := upd_same (H := H1) (a := p1) (o := .tup [.str (Str.ofString "say"), .int (i + 1)])
   generalize upd H1 p1 (.tup [.str (Str.ofString "say"), .int (i + 1)]) = H2 at *
   have g2 := g1.same s1
   have F2 := F1.same s1
   refine ⟨_, .ref rl, .inr g2.two, rfl, rs.length, .inr ⟨_, g2.rows, by rw [List.length_map, g2.len]⟩, _, F2, by omega, okDiv_of (by omega) (Int.le_trans (show (rs.length : Int) <= 16 by omega) (by decide)), fun y H3 y0 y1 F3 f3 => ?_⟩
   have fr3 : Frm t H1 H3 := s1.frm.trans (frm_un f3)
   have hp3 := sqT_fr fr3 F1.lst hp1
   refine ⟨small_le (show 4 <= 1000 by decide), fun p2 n2 => ?_⟩
   have s4 := Same.upd (o := .tup [.str (Str.ofString "ask"), .int y, .ref p, .ref p]) n2
   refine ⟨_, _, .inr (s4.sqT hp3), atI_of (n := 1) rfl rfl, small_le (show 2 <= 1000 by decide), fun p3 n3 => ⟨small_le (show 3 <= 1000 by decide), fun l nl => ?_⟩⟩
   have s5 := Same.upd (o := .tup [.str (Str.ofString "say"), .bl (false ^^ (i == 1))]) n3
   have s6 := Same.upd (o := .lst [.ref p1, .ref p2, .ref p3]) nl
   have S := s4.trans (s5.trans s6)
   have F6 := F3.same S
   have f6 : Frm t H _ := (frm_un f1).trans (fr3.trans S.frm)
   have hpt : p1 ≠ t := fun z => by
    obtain ⟨zs, hz⟩ := F2.lst
    rw [z, hz] at e1
    cases e1
   have e3 : H3 p1 = some (.tup [.str (Str.ofString "say"), .int (i + 1)]) := by rw [f3 p1 hpt]; exact e1
   have hs6 := S.sqT hp3
   have a1 := S _ _ e3
   have a2 := (s5.trans s6) _ _ (upd_same (H := H3) (a := p2) (o := .tup [.str (Str.ofString "ask"), .int y, .ref p, .ref p]))
   have a3 := s6 _ _ (upd_same (H := upd H3 p2 (.tup [.str (Str.ofString "ask"), .int y, .ref p, .ref p])) (a := p3) (o := .tup [.str (Str.ofString "say"), .bl (false ^^ (i == 1))]))
   have a4 := upd_same (H := upd (upd H3 p2 (.tup [.str (Str.ofString "ask"), .int y, .ref p, .ref p])) p3 (.tup [.str (Str.ofString "say"), .bl (false ^^ (i == 1))])) (a := l) (o := .lst [.ref p1, .ref p2, .ref p3])
   generalize upd (upd (upd H3 p2 (.tup [.str (Str.ofString "ask"), .int y, .ref p, .ref p])) p3 (.tup [.str (Str.ofString "say"), .bl (false ^^ (i == 1))])) l (.lst [.ref p1, .ref p2, .ref p3]) = H6 at *
   generalize (false ^^ (i == 1)) = bb at *
   have fs : Fit 100000000000000000001 1 5 (.tup [.str (Str.ofString "say"), .int i]) := fit_say (fit_int (by omega))
   have rs6 : RepW K H6 (.tup [.str (Str.ofString "say"), .int i]) (.ref p) := repW_tup hs6 (repsW_cons repW_str (repsW_cons repW_int repsW_nil))
   have hw : way = 0 \/ way = 1 \/ way = 2 := by omega
   rcases hw with rfl | rfl | rfl
   ·exact ⟨_, .ref p1, .inl (.of a4), rfl, q (.tup [.str (Str.ofString "say"), .int (i + 1)]) _ _ (repW_tup (.of a1) (repsW_cons repW_str (repsW_cons repW_int repsW_nil))) (fit_up (fit_say (D := 0) (fit_int (by omega))) (Nat.le_refl _) (by omega) (by omega)) (F6.mono (by omega)) f6⟩
   ·exact ⟨_, .ref p2, .inl (.of a4), rfl, q (.tup [.str (Str.ofString "ask"), .int y, .tup [.str (Str.ofString "say"), .int i], .tup [.str (Str.ofString "say"), .int i]]) _ _ (repW_tup (.of a2) (repsW_cons repW_str (repsW_cons repW_int (repsW_cons rs6 (repsW_cons rs6 repsW_nil))))) (fit_up (fit_ask (q := y) (by omega) fs fs) (Nat.le_refl _) (Nat.le_refl _) (by show _ <= 7 * 1 + 12; omega)) (F6.mono (by omega)) f6⟩
   ·exact ⟨_, .ref p3, .inl (.of a4), rfl, q (.tup [.str (Str.ofString "say"), .bl bb]) _ _ (repW_tup (.of a3) (repsW_cons repW_str (repsW_cons repW_bl repsW_nil))) (fit_up (fit_say (D := 0) fit_bl) (Nat.le_refl _) (by omega) (by omega)) (F6.mono (by omega)) f6⟩
  | ask q0 n y =>
   obtain ⟨p, x2, x3, rfl, hp, h2, h3⟩ := tr_ask hv
   refine ⟨_, _, .inr hp, atI_of (n := 0) rfl rfl, ?_⟩
   have hq : q0 < rs.length := hok.1
   have dn : n.deep < D := by have : 1 + max n.deep y.deep < D + 1 := hD; omega
   have dy : y.deep < D := by have : 1 + max n.deep y.deep < D + 1 := hD; omega
   have hsz : (Tr.ask q0 n y).size = 1 + n.size + y.size := rfl
   have hdp : (Tr.ask q0 n y).deep = 1 + max n.deep y.deep := rfl
   have fn := fit_up (tr_fit (by omega) hsm.1 hok.2.1) (Nat.le_refl _) (Nat.le_max_left n.deep y.deep) (Nat.le_refl _)
   have fy := fit_up (tr_fit (by omega) hsm.2 hok.2.2) (Nat.le_refl _) (Nat.le_max_right n.deep y.deep) (Nat.le_refl _)
   have tn := n.tups
   have ty := y.tups
   refine ⟨_, F, by omega, okDiv_of (by decide) (by decide), fun way H1 w0 w6 F1 f1 => ?_⟩
   dsimp only [gName]
   have fr1 := frm_un f1
   have hp1 := sqT_fr fr1 F.lst hp
   have g1 := gmat_frm g fr1 F.lst
   have m2 := Rep.frm fr1 F.lst _ _ tn h2
   have m3 := Rep.frm fr1 F.lst _ _ ty h3
   have u2 := repW_of _ _ tn m2
   have u3 := repW_of _ _ ty m3
   have fin : ∀ (z : Int) (d1 d2 : Dw) (y1 y2 : V) (H2 : Hp) (B1 B2 N2 : Nat), z.natAbs <= 1000 -> GFeed H2 t N2 -> N2 <= N + 3 * (D + 1) -> Frm t H1 H2 -> RepW K H2 d1 y1 -> RepW K H2 d2 y2 -> Fit 100000000000000000001 (max n.deep y.deep + 1) B1 d1 -> Fit 100000000000000000001 (max n.deep y.deep + 1) B2 d2 -> B1 + B2 <= 7 * n.size + 7 * y.size + 12 -> ∀ pp, H2 pp = none -> Q (.ref pp) (upd H2 pp (.tup [.str (Str.ofString "ask"), .int z, y1, y2])) := by
    intro z d1 d2 y1 y2 H2 B1 B2 N2 hz F2 hN2 f2 r1 r2 ft1 ft2 hB pp npp
    have s3 := Same.upd (o := .tup [.str (Str.ofString "ask"), .int z, y1, y2]) npp
    exact q (.tup [.str (Str.ofString "ask"), .int z, d1, d2]) _ _ (repW_tup (.of upd_same) (repsW_cons repW_str (repsW_cons repW_int (repsW_cons (RepW.same s3 _ _ r1) (repsW_cons (RepW.same s3 _ _ r2) repsW_nil))))) (fit_up (fit_ask (q := z) (by omega) ft1 ft2) (Nat.le_refl _) (by omega) (by omega)) ((F2.same s3).mono hN2) (fr1.trans (f2.trans s3.frm))
   have fn' := fit_up fn (Nat.le_refl _) (Nat.le_succ _) (Nat.le_refl _)
   have fy' := fit_up fy (Nat.le_refl _) (Nat.le_succ _) (Nat.le_refl _)
   refine ite2 (fun e => ?_) (fun e => ?_)
   ·exact ⟨_, _, .inr hp1, atI_of (n := 1) rfl rfl, _, _, .inr hp1, atI_of (n := 3) rfl rfl, _, _, .inr hp1, atI_of (n := 2) rfl rfl, small_le (show 4 <= 1000 by decide), fin q0 _ _ _ _ H1 _ _ _ (by omega) F1 (by omega) Frm.refl u3 u2 fy' fn' (by omega)⟩
   refine ite2 (fun e => ?_) (fun e => ?_)
   ·refine ⟨_, F1, by omega, okDiv_of (by decide) (by decide), fun z H2 z0 z2 F2 f2 => ?_⟩
    have hp2 := sqT_fr (frm_un f2) F1.lst hp1
    have v2 := RepW.frm (frm_un f2) F1.lst _ _ u2
    have v3 := RepW.frm (frm_un f2) F1.lst _ _ u3
    have hw : z = 0 \/ z = 1 := by omega
    rcases hw with rfl | rfl
    ·exact ⟨_, _, .inr hp2, atI_of (n := 2) rfl rfl, q _ _ _ v2 (fit_up fn (Nat.le_refl _) (by omega) (by omega)) (F2.mono (by omega)) (fr1.trans (frm_un f2))⟩
    ·exact ⟨_, _, .inr hp2, atI_of (n := 3) rfl rfl, q _ _ _ v3 (fit_up fy (Nat.le_refl _) (by omega) (by omega)) (F2.mono (by omega)) (fr1.trans (frm_un f2))⟩
   refine ite2 (fun e => ?_) (fun e => ?_)
   ·refine ⟨_, .ref rl, .inr g1.two, rfl, rs.length, .inr ⟨_, g1.rows, by rw [List.length_map, g1.len]⟩, _, F1, by omega, okDiv_of (by omega) (Int.le_trans (show (rs.length : Int) <= 16 by omega) (by decide)), fun z H2 z0 z1 F2 f2 => ?_⟩
    have hp2 := sqT_fr (frm_un f2) F1.lst hp1
    exact ⟨_, _, .inr hp2, atI_of (n := 2) rfl rfl, _, _, .inr hp2, atI_of (n := 3) rfl rfl, small_le (show 4 <= 1000 by decide), fin z _ _ _ _ H2 _ _ _ (by omega) F2 (by omega) (frm_un f2) (RepW.frm (frm_un f2) F1.lst _ _ u2) (RepW.frm (frm_un f2) F1.lst _ _ u3) fn' fy' (by omega)⟩
   refine ite2 (fun e => ?_) (fun e => ?_)
   ·refine ⟨_, _, .inr hp1, atI_of (n := 1) rfl rfl, _, _, .inr hp1, atI_of (n := 2) rfl rfl, _, ls, rs, n, F1, by omega, Rep.frm fr1 F.lst _ _ (tup_gm ls rs) hg, G, m2, hok.2.1, hsm.1, dn, fun d' x H2 r2 ft2 F2 f2 => ?_⟩
    have hp2 := sqT_fr f2 F1.lst hp1
    exact ⟨_, _, .inr hp2, atI_of (n := 3) rfl rfl, small_le (show 4 <= 1000 by decide), fin q0 _ _ _ _ H2 _ _ _ (by omega) F2 (by omega) f2 r2 (RepW.frm f2 F1.lst _ _ u3) (fit_up ft2 (Nat.le_refl _) (by omega) (Nat.le_refl _)) fy' (by omega)⟩
   ·refine ⟨_, _, .inr hp1, atI_of (n := 1) rfl rfl, _, _, .inr hp1, atI_of (n := 2) rfl rfl, _, _, .inr hp1, atI_of (n := 3) rfl rfl, _, ls, rs, y, F1, by omega, Rep.frm fr1 F.lst _ _ (tup_gm ls rs) hg, G, m3, hok.2.2, hsm.2, dy, fun d' x H2 r2 ft2 F2 f2 => ?_⟩
    exact ⟨small_le (show 4 <= 1000 by decide), fin q0 _ _ _ _ H2 _ _ _ (by omega) F2 (by omega) f2 (RepW.frm f2 F1.lst _ _ u2) r2 fn' (fit_up ft2 (Nat.le_refl _) (by omega) (Nat.le_refl _)) (by omega)⟩
theorem ok_Zother : FnOk P w K mg base CX0 12 T.f_Zother T.d_Zother ["_law_feed_here", "_law_game_here", "_law_tree_here"] (spO K 11) := other_d T 11
theorem cst_le9 {d : Nat} (h : d <= 9) : cst d <= 4092 := by
 have : d = 0 \/ d = 1 \/ d = 2 \/ d = 3 \/ d = 4 \/ d = 5 \/ d = 6 \/ d = 7 \/ d = 8 \/ d = 9 := by omega
 rcases this with rfl | rfl | rfl | rfl | rfl | rfl | rfl | rfl | rfl | rfl <;> decide
structure Gs (K : W.Frag) (Pt : Addr) (pos : Pos) (qn : Str) (H : Hp) (t : Addr) (N : Nat) (ga : Addr) (ls : List Int) (rs : List (List Bool)) : Prop where
 F : GFeed H t N
 L : Lam Pt pos qn H
 r : Rep K H (gmD ls rs) (.ref ga)
section
variable {Pt : Addr} {pos : Pos} {qn : Str} {H H' : Hp} {t : Addr} {N N' : Nat} {ga : Addr} {ls : List Int} {rs : List (List Bool)}
theorem Gs.same (n : Gs K Pt pos qn H t N ga ls rs) (s : Same H H') : Gs K Pt pos qn H' t N ga ls rs := ⟨n.F.same s, n.L.same s, Rep.same s _ _ n.r⟩
theorem Gs.mono (n : Gs K Pt pos qn H t N ga ls rs) (h : N <= N') : Gs K Pt pos qn H t N' ga ls rs := ⟨n.F.mono h, n.L, n.r⟩
theorem Gs.frm (n : Gs K Pt pos qn H t N ga ls rs) (F : GFeed H' t N') (f : Frm t H H') : Gs K Pt pos qn H' t N' ga ls rs := ⟨F, lam_frm n.L f n.F.lst, Rep.frm f n.F.lst _ _ (tup_gm ls rs) n.r⟩
theorem Gs.grow (n : Gs K Pt pos qn H t N ga ls rs) (g : Grow Pt H H') (l : Lam Pt pos qn H') : Gs K Pt pos qn H' t N ga ls rs := by
 obtain ⟨pz, hP, _⟩ := id n.L
 exact ⟨gfeed_tab n.F g hP, l, Rep.tab g hP _ _ n.r⟩
theorem Gs.grW (n : Gs K Pt pos qn H t N ga ls rs) (g : Grow Pt H H') {d : Dw} {v : V} (r : RepW K H d v) : RepW K H' d v := by
 obtain ⟨pz, hP, _⟩ := id n.L
 exact RepW.tab g hP _ _ r
end
theorem gs_putD {Pt : Addr} {pos : Pos} {qn : Str} {H : Hp} {t kd : Addr} {N : Nat} {ga : Addr} {ls : List Int} {rs : List (List Bool)} {kvs : List (Key × V)} {o : HO} (n : Gs K Pt pos qn H t N ga ls rs) (hk : H kd = some (.dK kvs)) : Gs K Pt pos qn (upd H kd o) t N ga ls rs := by
 have f : Frm kd H (upd H kd o) := fun b o' hb e => by rw [upd_ne hb]; exact e
 refine ⟨?_, ?_, ?_⟩
 ·obtain ⟨l, i, gg, c, ns, h1, h2, h3, h4, h5, h6, h7, h8⟩ := n.F.at_
  exact ⟨l, i, gg, c, ns, h1, h2, h3, h4, f _ _ (fun z => by rw [z, hk] at h5; cases h5) h5, h6, f _ _ (fun z => by rw [z, hk] at h7; cases h7) h7, h8⟩
 ·obtain ⟨ps, a, b, c⟩ := n.L
  refine ⟨ps, f _ _ (fun z => by rw [z, hk] at a; cases a) a, b, ?_⟩
  rcases c with c | ⟨c', c, d⟩
  ·exact .inl c
  ·exact .inr ⟨c', c, f _ _ (fun z => by rw [z, hk] at d; cases d) d⟩
 ·obtain ⟨a, tl, rl, ps, ea, g⟩ := gm_open n.r
  cases ea
  exact gm_close (g.frm f hk noTup_dK)
theorem ok_law (B : BMn mg base) : FnOk P w K mg base CX0 23 T.f_law T.d_law ["_law_script"] (spLawT K [T.p_is_tree]) := by
 have G_Zfeed := ok_Zfeed (P := P) (w := w) (base := base) T; have G_Zgame := ok_Zgame (P := P) (w := w) (base := base) T; have G_Ztree := ok_Ztree (P := P) (w := w) (base := base) T; have G_Zdraw := ok_Zdraw (P := P) (w := w) (base := base) T; have G_Zending := ok_Zending (P := P) (w := w) (base := base) T; have G_Zpair := ok_Zpair (P := P) (w := w) (base := base) T; have G_Zneed := ok_Zneed (P := P) (w := w) (base := base) T; have G_Zother := ok_Zother (P := P) (w := w) (base := base) T; have G_Zbent := ok_Zbent (P := P) (w := w) (base := base) T; have G_Zjudged := ok_Zjudged (P := P) (w := w) (base := base) T B
 refine T.F_law.ok sc_law (fun vs H Q E h => by obtain ⟨a, ns, rfl, _⟩ := h; rfl) (fun cdv A outer s H vs Q E hr h => ?_)
 have hu := hu60 hr
 have hr_Zfeed := hr.mono (show 1 <= _ by decide); have hr_Zgame := hr.mono (show 4 <= _ by decide); have hr_Ztree := hr.mono (show 14 <= _ by decide); have hr_Zdraw := hr.mono (show 1 <= _ by decide); have hr_Zending := hr.mono (show 2 <= _ by decide); have hr_Zpair := hr.mono (show 1 <= _ by decide); have hr_Zneed := hr.mono (show 19 <= _ by decide); have hr_Zother := hr.mono (show 12 <= _ by decide); have hr_Zbent := hr.mono (show 12 <= _ by decide); have hr_Zjudged := hr.mono (show 22 <= _ by decide)
 obtain ⟨a, ns, rfl, hS, hlen, hPt, q⟩ := h
 refine ⟨_, (@pss_cons _ _ _ _ _ (@ps_set _ _ 1 _ _ _ _ sc_law.nd rfl (by right) (@pe_call _ _ _ _ _ _ _ _ _ _ _ _ _ _ _ _ G_Zfeed hr_Zfeed rfl T.m_Zfeed T.F_Zfeed.kp T.b_Zfeed .nil pass0 (@pa1 _ _ _ (@vw _ 0 _ _ (by left)) (by rfl)) (by decide) (by rfl) (by rfl)) (by rfl) (by symm)) (@pss_cons _ _ _ _ _ (@ps_for _ _ _ _ _ _ _ _ PassesOwn.never rfl (@pi_range1 _ _ _ _ _ _ rfl T.z_range (@pa1 _ _ _ (@pe_int _ _ _ _) (by rfl)) (by rfl)) (@pg_name _ _ 2 _ sc_law.nd rfl (by right) (by symm)) (@pss_cons _ _ _ _ _ (@ps_set _ _ 3 _ _ _ _ sc_law.nd rfl (by right) (@pe_call _ _ _ _ _ _ _ _ _ _ _ _ _ _ _ _ G_Zgame hr_Zgame rfl T.m_Zgame T.F_Zgame.kp T.b_Zgame .nil pass0 (@pa1 _ _ _ (@vw _ 1 _ _ (by left)) (by rfl)) (by decide) (by rfl) (by rfl)) (by rfl) (by symm)) (@pss_cons _ _ _ _ _ (@ps_if _ _ _ _ _ _ _ _ (@tu_cmp _ _ _ _ _ _ _ _ om_gt (@pe_call _ _ _ _ _ _ _ _ _ _ _ _ _ _ _ _ G_Zdraw hr_Zdraw rfl T.m_Zdraw T.F_Zdraw.kp T.b_Zdraw .nil pass0 (@pa_cons _ _ _ _ _ (@vw _ 1 _ _ (by left)) (@pa1 _ _ _ (@pe_int _ _ _ _) (by rfl)) (by rfl)) (by decide) (by rfl) (by rfl)) (@pe_int _ _ _ _) (by walk_at "n")) (@pss_one _ _ _ (@ps_set _ _ 3 _ _ _ _ sc_law.nd rfl (by right) (@pe_call _ _ _ _ _ _ _ _ _ _ _ _ _ _ _ _ G_Zending hr_Zending rfl T.m_Zending T.F_Zending.kp T.b_Zending .nil pass0 (@pa1 _ _ _ (@vw _ 3 _ _ (by left)) (by rfl)) (by decide) (by rfl) (by rfl)) (by rfl) (by symm))) (@pss_nil _)) (@pss_cons _ _ _ _ _ (@ps_set _ _ 4 _ _ _ _ sc_law.nd rfl (by right) (@pe_callTy _ _ _ _ _ _ _ _ _ (kTuple (K := K)) rfl T.z_tuple (by rfl) (@pa1 _ _ _ (@pe_compB _ _ _ _ _ _ _ ["_law_one"] 1 [] _ _ _ _ rfl (@pi_range1 _ _ _ _ _ _ rfl T.z_range (@pa1 _ _ _ (@pe_callB _ _ _ _ _ _ _ _ _ (kLen (K := K)) rfl T.z_len (by rfl) (@pa1 _ _ _ (@kIx _ K _ _ _ _ _ (@vw _ 3 _ _ (by left)) (@pe_int _ _ _ _) (by intro _ _; rfl) (by rfl)) (by rfl)) (by decide) (by decide) (by rfl) (by rfl)) (by rfl)) (by rfl)) (by kernel_rfl) rfl rfl (by kernel_rfl) (fun c => @pg_name _ _ 0 _ (show (["_law_one"] : List Str).Nodup by decide +kernel) rfl (by right) (by symm)) (go_name (by decide)) (fun c => @pts_nil _) (fun c => (@vw _ 0 _ _ (by left))) (by intro _; rfl)) (by rfl)) (by decide) (by decide) (by rfl) (by rfl)) (by rfl) (by symm)) (@pss_cons _ _ _ _ _ (@ps_set _ _ 5 _ _ _ _ sc_law.nd rfl (by right) (@pe_disp _ _ _ _ _ (@pps_cons _ _ _ _ _ _ _ _ _ (@pe_str _ _ _ _) (@pe_int _ _ _ _) (@pps_nil _ _)) rfl rfl (by simp) (by decide)) (by rfl) (by symm)) (@pss_cons _ _ _ _ _ (@ps_if _ _ _ _ _ _ _ _ (@tu_cmp _ _ _ _ _ _ _ _ om_is (@pe_call _ _ _ _ _ _ _ _ _ _ _ _ _ _ _ _ G_Zpair hr_Zpair rfl T.m_Zpair T.F_Zpair.kp T.b_Zpair .nil pass0 (@pa1 _ _ _ (@vw _ 3 _ _ (by left)) (by rfl)) (by decide) (by rfl) (by rfl)) (@pe_non _ _ _) (by walk_at "n")) (@pss_one _ _ _ (@ps_dput _ _ _ _ _ _ _ _ _ (hu_one hu) (@vw _ 5 _ _ (by left)) (@pe_str _ _ _ _) (@pe_call _ _ _ _ _ _ _ _ _ _ _ _ _ _ _ _ G_Zneed hr_Zneed rfl T.m_Zneed T.F_Zneed.kp T.b_Zneed .nil pass0 (@pa_cons _ _ _ _ _ (@vw _ 3 _ _ (by left)) (@pa_cons _ _ _ _ _ (@vw _ 4 _ _ (by left)) (@pa1 _ _ _ (@pe_dnewT _ _) (by rfl)) (by rfl)) (by rfl)) (by decide) (by rfl) (by rfl)) (by rfl))) (@pss_nil _)) (@pss_cons _ _ _ _ _ (@ps_set _ _ 6 _ _ _ _ sc_law.nd rfl (by right) (@pe_call _ _ _ _ _ _ _ _ _ _ _ _ _ _ _ _ G_Ztree hr_Ztree rfl T.m_Ztree T.F_Ztree.kp T.b_Ztree .nil pass0 (@pa_cons _ _ _ _ _ (@vw _ 1 _ _ (by left)) (@pa_cons _ _ _ _ _ (@vw _ 3 _ _ (by left)) (@pa_cons _ _ _ _ _ (@vw _ 4 _ _ (by left)) (@pa1 _ _ _ (@pe_op _ _ _ _ _ _ _ _ (kAdd (K := K)) (@pe_int _ _ _ _) (@pe_call _ _ _ _ _ _ _ _ _ _ _ _ _ _ _ _ G_Zdraw hr_Zdraw rfl T.m_Zdraw T.F_Zdraw.kp T.b_Zdraw .nil pass0 (@pa_cons _ _ _ _ _ (@vw _ 1 _ _ (by left)) (@pa1 _ _ _ (@pe_int _ _ _ _) (by rfl)) (by rfl)) (by decide) (by rfl) (by rfl))) (by rfl)) (by rfl)) (by rfl)) (by rfl)) (by decide) (by rfl) (by rfl)) (by rfl) (by symm)) (@pss_cons _ _ _ _ _ (@ps_set _ _ 7 _ _ _ _ sc_law.nd rfl (by right) (@pe_lst _ _ _ _ (@pa_cons _ _ _ _ _ (@vw _ 6 _ _ (by left)) (@pa_cons _ _ _ _ _ (@pe_call _ _ _ _ _ _ _ _ _ _ _ _ _ _ _ _ G_Zother hr_Zother rfl T.m_Zother T.F_Zother.kp T.b_Zother .nil pass0 (@pa_cons _ _ _ _ _ (@vw _ 1 _ _ (by left)) (@pa_cons _ _ _ _ _ (@vw _ 3 _ _ (by left)) (@pa1 _ _ _ (@vw _ 6 _ _ (by left)) (by rfl)) (by rfl)) (by rfl)) (by decide) (by rfl) (by rfl)) (@pa_cons _ _ _ _ _ (@pe_call _ _ _ _ _ _ _ _ _ _ _ _ _ _ _ _ G_Zother hr_Zother rfl T.m_Zother T.F_Zother.kp T.b_Zother .nil pass0 (@pa_cons _ _ _ _ _ (@vw _ 1 _ _ (by left)) (@pa_cons _ _ _ _ _ (@vw _ 3 _ _ (by left)) (@pa1 _ _ _ (@vw _ 6 _ _ (by left)) (by rfl)) (by rfl)) (by rfl)) (by decide) (by rfl) (by rfl)) (@pa_cons _ _ _ _ _ (@pe_call _ _ _ _ _ _ _ _ _ _ _ _ _ _ _ _ G_Zbent hr_Zbent rfl T.m_Zbent T.F_Zbent.kp T.b_Zbent .nil pass0 (@pa_cons _ _ _ _ _ (@vw _ 1 _ _ (by left)) (@pa1 _ _ _ (@vw _ 6 _ _ (by left)) (by rfl)) (by rfl)) (by decide) (by rfl) (by rfl)) (@pa_cons _ _ _ _ _ (@pe_non _ _ _) (@pa1 _ _ _ (@pe_tup _ _ _ _ _ (@pa_nil _)) (by rfl)) (by rfl)) (by rfl)) (by rfl)) (by rfl)) (by rfl))) (by rfl) (by symm)) (@pss_one _ _ _ (@ps_for _ _ _ _ _ _ _ _ PassesOwn.never rfl (@kSeq _ K _ _ _ (@pe_op _ _ _ _ _ _ _ _ (kAdd (K := K)) (@vw _ 7 _ _ (by left)) (@pe_lst _ _ _ _ (@pa_cons _ _ _ _ _ (@pe_tup _ _ _ _ _ (@pa_cons _ _ _ _ _ (@pe_str _ _ _ _) (@pa1 _ _ _ (@kIx _ K _ _ _ _ _ (@kIx _ K _ _ _ _ _ (@vw _ 3 _ _ (by left)) (@pe_int _ _ _ _) (by intro _ _; rfl) (by rfl)) (@pe_int _ _ _ _) (by intro _ _; rfl) (by rfl)) (by rfl)) (by rfl))) (@pa1 _ _ _ (@pe_tup _ _ _ _ _ (@pa_cons _ _ _ _ _ (@pe_str _ _ _ _) (@pa_cons _ _ _ _ _ (@pe_int _ _ _ _) (@pa_cons _ _ _ _ _ (@vw _ 6 _ _ (by left)) (@pa1 _ _ _ (@vw _ 6 _ _ (by left)) (by rfl)) (by rfl)) (by rfl)) (by rfl))) (by rfl)) (by rfl)))) (by rfl)) (@pg_name _ _ 8 _ sc_law.nd rfl (by right) (by symm)) (@pss_cons _ _ _ _ _ (@ps_set _ _ 9 _ _ _ _ sc_law.nd rfl (by right) (@pe_callB _ _ _ _ _ _ _ _ _ (kReprF (K := K) hr) rfl T.z_repr (by rfl) (@pa1 _ _ _ (@vw _ 8 _ _ (by left)) (by rfl)) (by decide) (by decide) (by rfl) (by rfl)) (by rfl) (by symm)) (@pss_one _ _ _ (@ps_if _ _ _ _ _ _ _ _ (PW.pt (@pw_or _ _ _ _ _ _ _ (@pt_not _ _ _ _ (@tu_val _ _ _ (@pe_call _ _ _ _ _ _ _ _ _ _ _ _ _ _ _ _ G_Zjudged hr_Zjudged rfl T.m_Zjudged T.F_Zjudged.kp T.b_Zjudged .nil pass0 (@pa_cons _ _ _ _ _ (@vw _ 3 _ _ (by left)) (@pa_cons _ _ _ _ _ (@vw _ 8 _ _ (by left)) (@pa1 _ _ _ (@vw _ 5 _ _ (by left)) (by rfl)) (by rfl)) (by rfl)) (by decide) (by rfl) (by rfl)) (by intro _; rfl))) (@pw_or1 _ _ _ _ (@tu_cmp _ _ _ _ _ _ _ _ (kNe (K := K) hu) (@pe_callB _ _ _ _ _ _ _ _ _ (kReprF (K := K) hr) rfl T.z_repr (by rfl) (@pa1 _ _ _ (@vw _ 8 _ _ (by left)) (by rfl)) (by decide) (by decide) (by rfl) (by rfl)) (@vw _ 9 _ _ (by left)) (by walk_at "n"))))) (@pss_one _ _ _ (@ps_ret _ _ _ _ (@pe_bl _ _ _ _))) (@pss_nil _)))) (by intro _; rfl)))))))))) (by intro _; rfl)) (@pss_one _ _ _ (@ps_ret _ _ _ _ (@pe_bl _ _ _ _))))), ?_⟩
 have mo1 : SpMono (sp_gnew K 500 800000000) := sp_gnew_mono
 have mo2 : SpMono (spT K 11) := spT_mono
 have mo3 : SpMono (sp_judged K T.p_is_tree) := sp_judged_mono
 have mo4 : SpMono (sp_pair K) := sp_pair_mono
 have mo5 : SpMono (spB K 11) := spB_mono
 have mo6 : SpMono (sp_need K 17) := sp_need_mono
 have mo7 : SpMono (spO K 11) := spO_mono
 have mo8 : SpMono (sp_ending K) := sp_ending_mono
 have L0 : Lam T.p_is_tree lamP_is_tree lamQ_is_tree H := lam_new (hPt _ (List.mem_singleton.mpr rfl))
 refine ⟨ns, hS, fun t H1 ht s1 F1 => ?_⟩
 dsimp only [gName]
 have L1 := L0.same s1
 refine seq_at (fun σ H' => ∃ z : List (Option V), σ = some (.ref a) :: some (.ref t) :: z) ?_ (fun σ H' _ => q H') (by walk_at "sm")
 refine ⟨5, rfl, by decide, by decide, ?_⟩
 refine for_range (fun i σ H' => (∃ z2 z3 z4 z5 z6 z7 z8 z9 : Option V, σ = [some (.ref a), some (.ref t), z2, z3, z4, z5, z6, z7, z8, z9]) /\ GFeed H' t (6000 * i) /\ Lam T.p_is_tree lamP_is_tree lamQ_is_tree H') ⟨⟨none, none, none, none, none, none, none, none, rfl⟩, F1, L1⟩ ?_ (fun σ H' ⟨⟨z2, z3, z4, z5, z6, z7, z8, z9, e⟩, _⟩ => ⟨_, e⟩)
 rintro i σ H2 hi ⟨⟨z2, z3, z4, z5, z6, z7, z8, z9, rfl⟩, F2, L2'⟩
 have hi6 : i < 5 := hi
 refine seq_at (fun σ H' => ∃ (ls : List Int) (rs : List (List Bool)) (ga : Addr), σ = [some (.ref a), some (.ref t), some (.int (0 + (i : Int))), some (.ref ga), z4, z5, z6, z7, z8, z9] /\ Gs K T.p_is_tree lamP_is_tree lamQ_is_tree H' t (6000 * i + 500) ga ls rs /\ Gm ls rs) ?_ ?_ (by walk_at "sm")
 ·refine ⟨_, F2, by omega, fun ls rs u H3 G r3 F3 f3 => ?_⟩
  obtain ⟨ga, tl, rl, ps, rfl, g⟩ := gm_open r3
  exact ⟨ls, rs, ga, rfl, ⟨F3, lam_frm L2' f3 F2.lst, r3⟩, G⟩
 clear F2 L2' H2 s1 F1 L1 L0
 rintro σ H2 ⟨ls, rs, ga, rfl, n2, G⟩
 refine seq_at (fun σ H' => ∃ (ls : List Int) (rs : List (List Bool)) (ga : Addr), σ = [some (.ref a), some (.ref t), some (.int (0 + (i : Int))), some (.ref ga), z4, z5, z6, z7, z8, z9] /\ Gs K T.p_is_tree lamP_is_tree lamQ_is_tree H' t (6000 * i + 501) ga ls rs /\ Gm ls rs) ?_ ?_ (by walk_at "sm")
 ·refine ⟨_, n2.F, by omega, okDiv_of (by decide) (by decide), fun y H3 y0 y3 F3 f3 => ?_⟩
  have n3 := n2.frm F3 (frm_un f3)
  refine ite2 (fun e => ?_) (fun e => ⟨ls, rs, ga, rfl, n3, G⟩)
  refine ⟨ls, rs, n3.r, G, fun ls' u H4 s4 G' _ r4 => ?_⟩
  obtain ⟨ga', tl, rl, ps, rfl, g⟩ := gm_open r4
  exact ⟨ls', rs, ga', rfl, ⟨n3.F.same s4, n3.L.same s4, r4⟩, G'⟩
 clear n2 H2 G ls rs ga
 rintro σ H2 ⟨ls, rs, ga, rfl, n2, G⟩
 have l16 := G.l16
 have l1 := G.l1
 have r16 := G.r16
 have r1 := G.r1
 obtain ⟨ga', tl, rl, ps, ea, g⟩ := gm_open n2.r
 cases ea
 refine seq_at (fun σ H' => ∃ (tp : Addr), σ = [some (.ref a), some (.ref t), some (.int (0 + (i : Int))), some (.ref ga), some (.ref tp), z5, z6, z7, z8, z9] /\ Same H2 H' /\ H2 tp = none /\ H' tp = some (.tup (iL (List.range ls.length)))) ?_ ?_ (by walk_at "sm")
 ·refine ⟨_, .ref tl, .inr g.two, rfl, ls.length, .inr ⟨_, g.lab, by rw [List.length_map]⟩, ls.length, rfl, by omega, by omega, ?_⟩
  refine comp_range (fun j ys H' => H' = H2 /\ ys = iL (List.range j)) ⟨rfl, rfl⟩ (fun j ys H' hj ⟨_, e⟩ => by rw [e, iL_len, List.length_range]; exact small1000 (by omega)) ?_ ?_
  ·rintro j ys H' hj ⟨rfl, rfl⟩
   refine ⟨rfl, ?_⟩
   rw [List.range_succ, iL_app, show (0 : Int) + (j : Int) = (j : Int) from Int.zero_add _]
   rfl
  ·rintro ys H' ⟨rfl, rfl⟩ lt hlt
   rw [Int.toNat_natCast]
   have s4 := Same.upd (o := .lst (iL (List.range ls.length))) hlt
   refine ⟨_, .inl ⟨.of upd_same, fun tp ntp => ?_⟩⟩
   have htp : tp ≠ lt := fun z => by rw [z, upd_same] at ntp; cases ntp
   exact ⟨tp, rfl, s4.trans (Same.upd ntp), by rw [upd_ne htp] at ntp; exact ntp, upd_same⟩
 rintro σ H3 ⟨tp, rfl, s3, ntp, gtp⟩
 have n3 := n2.same s3
 clear g
 refine seq_at (fun σ H' => ∃ (kd : Addr) (kvs : List (Key × V)), σ = [some (.ref a), some (.ref t), some (.int (0 + (i : Int))), some (.ref ga), some (.ref tp), some (.ref kd), z6, z7, z8, z9] /\ Gs K T.p_is_tree lamP_is_tree lamQ_is_tree H' t (6000 * i + 501) ga ls rs /\ H' tp = some (.tup (iL (List.range ls.length))) /\ H' kd = some (.dK kvs) /\ kvs.length <= 1 /\ valV kvs keyA = some (.int 99)) ?_ ?_ (by walk_at "sm")
 ·refine fun kd nkd => ⟨upd_same, [(keyA, .int 99)], rfl, by decide, ?_⟩
  have s4 : Same H3 (upd (upd H3 kd (.dK [])) kd (.dK (mergeK [] [(keyA, .int 99)]))) := fun b o e => by
   have : b ≠ kd := fun z => by rw [z, nkd] at e; cases e
   rw [upd_ne this, upd_ne this]; exact e
  refine ⟨kd, _, rfl, n3.same s4, s4 _ _ gtp, upd_same, ?_, ?_⟩
  ·exact Nat.le_trans (length_mergeK _ _) (by decide)
  ·exact (valV_put [] keyA keyA (.int 99)).trans (if_pos rfl)
 clear n3 gtp s3 H3 n2 ntp H2
 rintro σ H2 ⟨kd, kvs, rfl, n2, gtp, hk2, hkl, hk99⟩
 refine seq_at (fun σ H' => ∃ (kvs : List (Key × V)) (A : Nat), σ = [some (.ref a), some (.ref t), some (.int (0 + (i : Int))), some (.ref ga), some (.ref tp), some (.ref kd), z6, z7, z8, z9] /\ Gs K T.p_is_tree lamP_is_tree lamQ_is_tree H' t (6000 * i + 501) ga ls rs /\ H' tp = some (.tup (iL (List.range ls.length))) /\ H' kd = some (.dK kvs) /\ valV kvs keyA = some (.int (A : Nat)) /\ (EndsP ls rs -> IsFew (labF ls) (rs.map gB) (fun k => decide (k ∈ List.range ls.length)) A)) ?_ ?_ (by walk_at "sm")
 ·refine ⟨ls, rs, n2.r, G, fun H3 s3 hE => ?_, fun i' j' p H3 hf np s3 gp => ?_⟩
  ·refine fun dn ndn => ?_
   have s4 := Same.upd (o := .dT []) ndn
   have n4 := (n2.same s3).same s4
   have gtp4 := s4 _ _ (s3 _ _ gtp)
   have hk4 := s4 _ _ (s3 _ _ hk2)
   refine ⟨ls, rs, List.range ls.length, [], n4.r, G, hE, gtp4, List.pairwise_lt_range, fun x hx => List.mem_range.mp hx, by rw [List.length_range]; omega, upd_same, ⟨by simp, fun e he => by simp at he⟩, fun m kvs' H5 hm f5 _ _ => ?_⟩
   have s5 : Same H3 H5 := fun b o e => f5 b o (fun z => by rw [z, ndn] at e; cases e) (s4 b o e)
   have n5 := (n2.same s3).same s5
   have gtp5 := s5 _ _ (s3 _ _ gtp)
   have hk5 := s5 _ _ (s3 _ _ hk2)
   refine ⟨kd, _, rfl, DPut.k (k := keyA) hk5 (Nat.lt_of_le_of_lt hkl (by decide)), putK kvs keyA (.int (m : Nat)), m, rfl, gs_putD n5 hk5, ?_, upd_same, (valV_put kvs keyA keyA _).trans (if_pos rfl), fun _ => hm⟩
   rw [upd_ne (fun z => by rw [z, hk5] at gtp5; cases gtp5)]
   exact gtp5
  ·exact ⟨kvs, 99, rfl, n2.same s3, s3 _ _ gtp, s3 _ _ hk2, hk99, fun hE => absurd hf.1 (hE _ _)⟩
 clear n2 gtp hk2 hk99 hkl kvs H2
 rintro σ H2 ⟨kvs, A0, rfl, n2, gtp, hk2, hA, hF⟩
 have hkt : kd ≠ t := fun z => by
  obtain ⟨zs, hz⟩ := n2.F.lst
  rw [z, hz] at hk2
  cases hk2
 have htt : tp ≠ t := fun z => by
  obtain ⟨zs, hz⟩ := n2.F.lst
  rw [z, hz] at gtp
  cases gtp
 refine seq_at (fun σ H' => ∃ (tr : Tr) (v : V), σ = [some (.ref a), some (.ref t), some (.int (0 + (i : Int))), some (.ref ga), some (.ref tp), some (.ref kd), some v, z7, z8, z9] /\ Gs K T.p_is_tree lamP_is_tree lamQ_is_tree H' t (6000 * i + 4600) ga ls rs /\ H' kd = some (.dK kvs) /\ Rep K H' tr.dv v /\ tr.ok rs.length /\ tr.deep <= 10 /\ tr.sm) ?_ ?_ (by walk_at "sm")
 ·refine ⟨_, n2.F, by omega, okDiv_of (by decide) (by decide), fun y H3 y0 y7 F3 f3 => ?_⟩
  obtain ⟨d, rfl⟩ := Int.eq_ofNat_of_zero_le y0
  have n3 := n2.frm F3 (frm_un f3)
  have hc := cst_le9 (d := 3 + d) (by omega)
  refine ⟨_, 3 + d, ls, rs, List.range ls.length, ⟨n3.F, n3.r, .of (by rw [f3 tp htt]; exact gtp)⟩, by omega, G, fun x hx => List.mem_range.mp hx, by rw [List.length_range]; exact l16, by show (3 : Int) + (d : Int) = ((3 + d : Nat) : Int); omega, by omega, fun tr v H4 r4 o4 d4 m4 F4 f4 => ?_⟩
  exact ⟨tr, v, rfl, (n3.frm F4 f4).mono (by omega), f4 _ _ hkt (by rw [f3 kd hkt]; exact hk2), r4, o4, by omega, m4⟩
 clear n2 gtp hk2 htt H2
 rintro σ H2 ⟨tr, v, rfl, n2, hk2, rv2, o2, d2, m2⟩
 have hsz : tr.size + 1 <= 1024 := Nat.le_trans tr.size_lt (Nat.le_trans (Nat.pow_le_pow_right (by decide) d2) (by decide))
 have ftt := tr_fit (m := rs.length) (by omega) m2 o2
 have ft0 : Fit 100000000000000000000 10 7161 (upW tr.dv) := by
  obtain ⟨x1, x2, x3⟩ := fit_tr (m := rs.length) (by omega) tr m2 o2
  exact ⟨x1, by omega, by omega⟩
 have ft1 : Fit 100000000000000000001 11 7173 (upW tr.dv) := fit_up ftt (Nat.le_refl _) (by omega) (by omega)
 have tps := tr.tups
 refine seq_at (fun σ H' => ∃ (l : Addr) (xs : List V), σ = [some (.ref a), some (.ref t), some (.int (0 + (i : Int))), some (.ref ga), some (.ref tp), some (.ref kd), some v, some (.ref l), z8, z9] /\ Gs K T.p_is_tree lamP_is_tree lamQ_is_tree H' t (6000 * i + 5000) ga ls rs /\ H' kd = some (.dK kvs) /\ RepW K H' (upW tr.dv) v /\ H' l = some (.lst xs) /\ xs.length = 6 /\ ∀ x ∈ xs, ∃ d, RepW K H' d x /\ Fit 100000000000000000001 12 15000 d) ?_ ?_ (by walk_at "sm")
 ·refine ⟨_, ls, rs, tr, n2.F, by omega, n2.r, G, rv2, o2, m2, by omega, fun d1 x1 H3 r1' ft1' F3 f3 => ?_⟩
  have n3 := n2.frm F3 f3
  have rv3 := Rep.frm f3 n2.F.lst _ _ tps rv2
  refine ⟨_, ls, rs, tr, n3.F, by omega, n3.r, G, rv3, o2, m2, by omega, fun d3 x3 H4 r3' ft3' F4 f4 => ?_⟩
  have n4 := n3.frm F4 f4
  have rv4 := repW_of _ _ tps (Rep.frm f4 n3.F.lst _ _ tps rv3)
  refine ⟨upW tr.dv, _, 100000000000000000000, 10, 7161, n4.F, by omega, rv4, ft0, by decide, by decide, by decide, by decide, fun d5 x5 H5 r5 ft5 F5 f5 => ?_⟩
  have n5 := n4.frm F5 f5
  refine ⟨small_le (show 0 <= 1000 by decide), fun p6 n6 => ⟨small_le (show 6 <= 1000 by decide), fun l nl => ?_⟩⟩
  have s6 := Same.upd (o := .tup []) n6
  have s7 := Same.upd (o := .lst [v, x1, x3, x5, .non, .ref p6]) nl
  have S := s6.trans s7
  have rv7 := RepW.same S _ _ (RepW.frm f5 n4.F.lst _ _ rv4)
  refine ⟨l, _, rfl, (n5.same S).mono (by omega), S _ _ (f5 _ _ hkt (f4 _ _ hkt (f3 _ _ hkt hk2))), rv7, upd_same, rfl, fun x hx => ?_⟩
  simp only [List.mem_cons, List.not_mem_nil, or_false] at hx
  rcases hx with rfl | rfl | rfl | rfl | rfl | rfl
  ·exact ⟨_, rv7, fit_up ft1 (Nat.le_refl _) (by decide) (by decide)⟩
  ·exact ⟨d1, RepW.same S _ _ (RepW.frm f5 n4.F.lst _ _ (RepW.frm f4 n3.F.lst _ _ r1')), fit_up ft1' (Nat.le_refl _) (by omega) (by omega)⟩
  ·exact ⟨d3, RepW.same S _ _ (RepW.frm f5 n4.F.lst _ _ r3'), fit_up ft3' (Nat.le_refl _) (by omega) (by omega)⟩
  ·exact ⟨d5, RepW.same S _ _ r5, fit_up ft5 (by decide) (by decide) (by decide)⟩
  ·exact ⟨.non, repW_non, fit_non⟩
  ·exact ⟨.tup [], repW_tup (.of (s7 _ _ upd_same)) repsW_nil, fit_tup.mpr ⟨fun e he => by simp at he, by unfold bulkWs; omega⟩⟩
 clear n2 hk2 rv2 H2
 rintro σ H2 ⟨l, xs, rfl, n2, hk2, rv2, gl2, hxl, hx2⟩
 obtain ⟨ga', tl, rl, ps, ea, g⟩ := gm_open n2.r
 cases ea
 refine ⟨_, .ref tl, .inr g.two, rfl, _, _, .inr g.lab, lab_at (i := 0) l1, small_le (show 2 <= 1000 by decide), fun p3 m3 => ⟨small_le (show 4 <= 1000 by decide), fun p4 m4 => ⟨small_le (show 2 <= 1000 by decide), fun p5 m5 => ?_⟩⟩⟩
 have hlab : (labF ls 0).natAbs <= 100000000000000000000 := lab_sm G l1
 generalize labF ls 0 = lab at *
 have s3 := Same.upd (o := .tup [.str (Str.ofString "say"), .int lab]) m3
 have s4 := Same.upd (o := .tup [.str (Str.ofString "ask"), .int 0, v, v]) m4
 have s5 := Same.upd (o := .lst [.ref p3, .ref p4]) m5
 have S := s3.trans (s4.trans s5)
 refine .inl ⟨l, p5, _, _, rfl, rfl, S _ _ gl2, upd_same, small_le (by rw [hxl]; show 6 + 2 <= 1000; decide), fun r9 n9 => .inl ⟨⟨_, .inl (.of upd_same)⟩, ?_⟩⟩
 have s9 := Same.upd (o := .lst (xs ++ [.ref p3, .ref p4])) n9
 have S9 := S.trans s9
 have n10 := n2.same S9
 have hk10 := S9 _ _ hk2
 have rv10 := RepW.same S9 _ _ rv2
 have e3 := ((s4.trans s5).trans s9) _ _ (upd_same (H := H2) (a := p3) (o := .tup [.str (Str.ofString "say"), .int lab]))
 have e4 := (s5.trans s9) _ _ (upd_same (H := upd H2 p3 (.tup [.str (Str.ofString "say"), .int lab])) (a := p4) (o := .tup [.str (Str.ofString "ask"), .int 0, v, v]))
 have hall : ∀ x ∈ xs ++ [.ref p3, .ref p4], ∃ d, RepW K (upd (upd (upd (upd H2 p3 (.tup [.str (Str.ofString "say"), .int lab])) p4 (.tup [.str (Str.ofString "ask"), .int 0, v, v])) p5 (.lst [.ref p3, .ref p4])) r9 (.lst (xs ++ [.ref p3, .ref p4]))) d x /\ Fit 100000000000000000001 12 15000 d := fun x hx => by
  rcases List.mem_append.mp hx with h | h
  ·obtain ⟨d, r, ft⟩ := hx2 x h
   exact ⟨d, RepW.same S9 _ _ r, ft⟩
  ·simp only [List.mem_cons, List.not_mem_nil, or_false] at h
   rcases h with rfl | rfl
   ·exact ⟨.tup [.str (Str.ofString "say"), .int lab], repW_tup (.of e3) (repsW_cons repW_str (repsW_cons repW_int repsW_nil)), fit_up (fit_say (D := 0) (fit_int (n := 100000000000000000001) (by omega))) (Nat.le_refl _) (by decide) (by decide)⟩
   ·exact ⟨.tup [.str (Str.ofString "ask"), .int 0, upW tr.dv, upW tr.dv], repW_tup (.of e4) (repsW_cons repW_str (repsW_cons repW_int (repsW_cons rv10 (repsW_cons rv10 repsW_nil)))), fit_up (fit_ask (q := 0) (by decide) ft1 ft1) (Nat.le_refl _) (by decide) (by decide)⟩
 have g9 := upd_same (H := upd (upd (upd H2 p3 (.tup [.str (Str.ofString "say"), .int lab])) p4 (.tup [.str (Str.ofString "ask"), .int 0, v, v])) p5 (.lst [.ref p3, .ref p4])) (a := r9) (o := .lst (xs ++ [.ref p3, .ref p4]))
 generalize upd (upd (upd (upd H2 p3 (.tup [.str (Str.ofString "say"), .int lab])) p4 (.tup [.str (Str.ofString "ask"), .int 0, v, v])) p5 (.lst [.ref p3, .ref p4])) r9 (.lst (xs ++ [.ref p3, .ref p4])) = H9 at *
 generalize xs ++ [.ref p3, .ref p4] = ws at *
 refine for_list (xs := ws) (fun j σ H' => (∃ z8 z9 : Option V, σ = [some (.ref a), some (.ref t), some (.int (0 + (i : Int))), some (.ref ga), some (.ref tp), some (.ref kd), some v, some (.ref l), z8, z9]) /\ Gs K T.p_is_tree lamP_is_tree lamQ_is_tree H' t (6000 * i + 5000) ga ls rs /\ H' kd = some (.dK kvs) /\ H' r9 = some (.lst ws) /\ ∀ x ∈ ws, ∃ d, RepW K H' d x /\ Fit 100000000000000000001 12 15000 d) ⟨⟨_, _, rfl⟩, n10, hk10, g9, hall⟩ (fun j σ H' _ ⟨_, _, _, e, _⟩ => .inl (.of e)) ?_ ?_
 ·rintro j x σ H10 hx ⟨⟨z8, z9, rfl⟩, n10, hk10, g10, hall⟩
  obtain ⟨d, rd, fd⟩ := hall x (List.mem_of_getElem? hx)
  have hb : bulkW d <= 400000 := Nat.le_trans fd.bulk (by decide)
  have hdp : depW d <= 60 := Nat.le_trans fd.dep (by decide)
  refine ⟨d, _, rd, fd.ok, by decide, hb, hdp, ?_⟩
  generalize hsh : shownW d = tx
  dsimp only [gName]
  refine ⟨ls, rs, d, kvs, A0, n10.r, G, rd, hk10, hA, hF, n10.L, fun H11 g11 L11 => ?_⟩
  obtain ⟨pz, hP, _⟩ := id n10.L
  have n11 := n10.grow g11 L11
  refine ⟨d, _, n10.grW g11 rd, fd.ok, by decide, hb, hdp, ?_⟩
  rw [hsh]
  have e0 : (true ^^ (tx == tx)) = false := by simp
  show if (true ^^ (tx == tx)) = true then _ else _
  rw [e0]
  exact ⟨⟨_, _, rfl⟩, n11, g11 _ _ (fun z => by rw [z, hP] at hk10; cases hk10) hk10, g11 _ _ (fun z => by rw [z, hP] at g10; cases g10) g10, fun y hy => by
   obtain ⟨d, r, h⟩ := hall y hy
   exact ⟨d, n10.grW g11 r, h⟩⟩
 ·rintro σ H10 ⟨⟨z8, z9, rfl⟩, n10, _⟩
  exact ⟨⟨_, _, _, _, _, _, _, _, rfl⟩, n10.F.mono (by omega), n10.L⟩
end
theorem all_mk {l : W.OpenLaw} {w : World} {K : W.Frag} {h : Heap} {mg : Str -> Option Value} {fa : Addr} (X : K.In h) (G : h.Ns mainGlobals mg) (hfa : mg "law" = some (.ref fa))
 {f0 f1 f2 f4 f5 f6 f7 f8 f9 f10 f11 f12 f13 f14 f15 f16 f17 f18 f19 f20 f21 f22 f23 f24 f25 f26 f27 f28 f29 f30 f31 : Addr} {oc0 kV0 dc0 pm0 cd0 ct0 oc1 kV1 dc1 pm1 cd1 ct1 oc2 kV2 dc2 pm2 cd2 ct2 oc4 kV4 dc4 pm4 cd4 ct4 oc5 kV5 dc5 pm5 cd5 ct5 oc6 kV6 dc6 pm6 cd6 ct6 oc7 kV7 dc7 pm7 cd7 ct7 oc8 kV8 dc8 pm8 cd8 ct8 oc9 kV9 dc9 pm9 cd9 ct9 oc10 kV10 dc10 pm10 cd10 ct10 oc11 kV11 dc11 pm11 cd11 ct11 oc12 kV12 dc12 pm12 cd12 ct12 oc13 kV13 dc13 pm13 cd13 ct13 oc14 kV14 dc14 pm14 cd14 ct14 oc15 kV15 dc15 pm15 cd15 ct15 oc16 kV16 dc16 pm16 cd16 ct16 oc17 kV17 dc17 pm17 cd17 ct17 oc18 kV18 dc18 pm18 cd18 ct18 oc19 kV19 dc19 pm19 cd19 ct19 oc20 kV20 dc20 pm20 cd20 ct20 oc21 kV21 dc21 pm21 cd21 ct21 oc22 kV22 dc22 pm22 cd22 ct22 oc23 kV23 dc23 pm23 cd23 ct23 oc24 kV24 dc24 pm24 cd24 ct24 oc25 kV25 dc25 pm25 cd25 ct25 oc26 kV26 dc26 pm26 cd26 ct26 oc27 kV27 dc27 pm27 cd27 ct27 oc28 kV28 dc28 pm28 cd28 ct28 oc29 kV29 dc29 pm29 cd29 ct29 oc30 kV30 dc30 pm30 cd30 ct30 oc31 kV31 dc31 pm31 cd31 ct31 : Value} {od0 an0 od1 an1 od2 an2 od4 an4 od5 an5 od6 an6 od7 an7 od8 an8 od9 an9 od10 an10 od11 an11 od12 an12 od13 an13 od14 an14 od15 an15 od16 an16 od17 an17 od18 an18 od19 an19 od20 an20 od21 an21 od22 an22 od23 an23 od24 an24 od25 an25 od26 an26 od27 an27 od28 an28 od29 an29 od30 an30 od31 an31 : Option Addr} {sl0 sl1 sl2 sl4 sl5 sl6 sl7 sl8 sl9 sl10 sl11 sl12 sl13 sl14 sl15 sl16 sl17 sl18 sl19 sl20 sl21 sl22 sl23 sl24 sl25 sl26 sl27 sl28 sl29 sl30 sl31 : Array (Option Value)}
 {f3 : Addr} {oc3 kV3 dc3 pm3 ct3 : Value} {od3 an3 : Option Addr} {sl3 : Array (Option Value)} {g3 p3 : Addr} {cvs3 : Array Value} {cod3 : Option Addr} {csl3 : Array (Option Value)}
 {t_MOST_TREES : Tok}
 {t_MOST_WITHIN : Tok}
 (a0 : W.nsIn K mainGlobals "keeps_to" = some (some (.ref f0)))
 (l0 : K.lookup f0 = some ⟨oc0, od0, .func (W.fnOf "keeps_to" "keeps_to" (defArgs s_keeps_to) (defBody s_keeps_to) (defScope s_keeps_to) .none kV0 dc0 pm0 an0 cd0 ct0), sl0⟩)
 (c0 : W.codeIn K cd0 "keeps_to" = true)
 (k0 : W.keepIn K (.ref f0) = true)
 (a1 : W.nsIn K mainGlobals "is_whole" = some (some (.ref f1)))
 (l1 : K.lookup f1 = some ⟨oc1, od1, .func (W.fnOf "is_whole" "is_whole" (defArgs s_is_whole) (defBody s_is_whole) (defScope s_is_whole) .none kV1 dc1 pm1 an1 cd1 ct1), sl1⟩)
 (c1 : W.codeIn K cd1 "is_whole" = true)
 (k1 : W.keepIn K (.ref f1) = true)
 (a2 : W.nsIn K mainGlobals "is_below" = some (some (.ref f2)))
 (l2 : K.lookup f2 = some ⟨oc2, od2, .func (W.fnOf "is_below" "is_below" (defArgs s_is_below) (defBody s_is_below) (defScope s_is_below) .none kV2 dc2 pm2 an2 cd2 ct2), sl2⟩)
 (c2 : W.codeIn K cd2 "is_below" = true)
 (k2 : W.keepIn K (.ref f2) = true)
 (a3 : W.nsIn K mainGlobals "is_tree" = some (some (.ref f3)))
 (l3 : K.lookup f3 = some ⟨oc3, od3, .func (W.fnOf "is_tree" "is_tree" (defArgs s_is_tree) (defBody s_is_tree) (defScope s_is_tree) .none kV3 dc3 pm3 an3 (.ref g3) ct3), sl3⟩)
 (c3 : W.codeIn K (.ref g3) "is_tree" = true)
 (k3 : W.keepIn K (.ref f3) = true)
 (lc3 : K.lookup g3 = some ⟨.type "code", cod3, .fields cvs3, csl3⟩)
 (pv3 : cvs3[11]? = some (.ref p3))
 (gh3 : W.codeHdIn K g3 p3 = true)
 (gt3 : h.get? p3 = some (W.tabObj #[]))
 (a4 : W.nsIn K mainGlobals "has_tree_form" = some (some (.ref f4)))
 (l4 : K.lookup f4 = some ⟨oc4, od4, .func (W.fnOf "has_tree_form" "has_tree_form" (defArgs s_has_tree_form) (defBody s_has_tree_form) (defScope s_has_tree_form) .none kV4 dc4 pm4 an4 cd4 ct4), sl4⟩)
 (c4 : W.codeIn K cd4 "has_tree_form" = true)
 (k4 : W.keepIn K (.ref f4) = true)
 (a5 : W.nsIn K mainGlobals "trees_within" = some (some (.ref f5)))
 (l5 : K.lookup f5 = some ⟨oc5, od5, .func (W.fnOf "trees_within" "trees_within" (defArgs s_trees_within) (defBody s_trees_within) (defScope s_trees_within) .none kV5 dc5 pm5 an5 cd5 ct5), sl5⟩)
 (c5 : W.codeIn K cd5 "trees_within" = true)
 (k5 : W.keepIn K (.ref f5) = true)
 (a6 : W.nsIn K mainGlobals "is_too_large_tree" = some (some (.ref f6)))
 (l6 : K.lookup f6 = some ⟨oc6, od6, .func (W.fnOf "is_too_large_tree" "is_too_large_tree" (defArgs s_is_too_large_tree) (defBody s_is_too_large_tree) (defScope s_is_too_large_tree) .none kV6 dc6 pm6 an6 cd6 ct6), sl6⟩)
 (c6 : W.codeIn K cd6 "is_too_large_tree" = true)
 (k6 : W.keepIn K (.ref f6) = true)
 (a7 : W.nsIn K mainGlobals "asked" = some (some (.ref f7)))
 (l7 : K.lookup f7 = some ⟨oc7, od7, .func (W.fnOf "asked" "asked" (defArgs s_asked) (defBody s_asked) (defScope s_asked) .none kV7 dc7 pm7 an7 cd7 ct7), sl7⟩)
 (c7 : W.codeIn K cd7 "asked" = true)
 (k7 : W.keepIn K (.ref f7) = true)
 (a8 : W.nsIn K mainGlobals "lets_tree" = some (some (.ref f8)))
 (l8 : K.lookup f8 = some ⟨oc8, od8, .func (W.fnOf "lets_tree" "lets_tree" (defArgs s_lets_tree) (defBody s_lets_tree) (defScope s_lets_tree) .none kV8 dc8 pm8 an8 cd8 ct8), sl8⟩)
 (c8 : W.codeIn K cd8 "lets_tree" = true)
 (k8 : W.keepIn K (.ref f8) = true)
 (a9 : W.nsIn K mainGlobals "comes_home" = some (some (.ref f9)))
 (l9 : K.lookup f9 = some ⟨oc9, od9, .func (W.fnOf "comes_home" "comes_home" (defArgs s_comes_home) (defBody s_comes_home) (defScope s_comes_home) .none kV9 dc9 pm9 an9 cd9 ct9), sl9⟩)
 (c9 : W.codeIn K cd9 "comes_home" = true)
 (k9 : W.keepIn K (.ref f9) = true)
 (a10 : W.nsIn K mainGlobals "_law_feed" = some (some (.ref f10)))
 (l10 : K.lookup f10 = some ⟨oc10, od10, .func (W.fnOf "_law_feed" "_law_feed" (defArgs s_Zfeed) (defBody s_Zfeed) (defScope s_Zfeed) .none kV10 dc10 pm10 an10 cd10 ct10), sl10⟩)
 (c10 : W.codeIn K cd10 "_law_feed" = true)
 (k10 : W.keepIn K (.ref f10) = true)
 (a11 : W.nsIn K mainGlobals "_law_draw" = some (some (.ref f11)))
 (l11 : K.lookup f11 = some ⟨oc11, od11, .func (W.fnOf "_law_draw" "_law_draw" (defArgs s_Zdraw) (defBody s_Zdraw) (defScope s_Zdraw) .none kV11 dc11 pm11 an11 cd11 ct11), sl11⟩)
 (c11 : W.codeIn K cd11 "_law_draw" = true)
 (k11 : W.keepIn K (.ref f11) = true)
 (a12 : W.nsIn K mainGlobals "_law_table" = some (some (.ref f12)))
 (l12 : K.lookup f12 = some ⟨oc12, od12, .func (W.fnOf "_law_table" "_law_table" (defArgs s_Ztable) (defBody s_Ztable) (defScope s_Ztable) .none kV12 dc12 pm12 an12 cd12 ct12), sl12⟩)
 (c12 : W.codeIn K cd12 "_law_table" = true)
 (k12 : W.keepIn K (.ref f12) = true)
 (a13 : W.nsIn K mainGlobals "_law_table_game" = some (some (.ref f13)))
 (l13 : K.lookup f13 = some ⟨oc13, od13, .func (W.fnOf "_law_table_game" "_law_table_game" (defArgs s_Ztable_game) (defBody s_Ztable_game) (defScope s_Ztable_game) .none kV13 dc13 pm13 an13 cd13 ct13), sl13⟩)
 (c13 : W.codeIn K cd13 "_law_table_game" = true)
 (k13 : W.keepIn K (.ref f13) = true)
 (a14 : W.nsIn K mainGlobals "_law_class" = some (some (.ref f14)))
 (l14 : K.lookup f14 = some ⟨oc14, od14, .func (W.fnOf "_law_class" "_law_class" (defArgs s_Zclass) (defBody s_Zclass) (defScope s_Zclass) .none kV14 dc14 pm14 an14 cd14 ct14), sl14⟩)
 (c14 : W.codeIn K cd14 "_law_class" = true)
 (k14 : W.keepIn K (.ref f14) = true)
 (a15 : W.nsIn K mainGlobals "_law_class_game" = some (some (.ref f15)))
 (l15 : K.lookup f15 = some ⟨oc15, od15, .func (W.fnOf "_law_class_game" "_law_class_game" (defArgs s_Zclass_game) (defBody s_Zclass_game) (defScope s_Zclass_game) .none kV15 dc15 pm15 an15 cd15 ct15), sl15⟩)
 (c15 : W.codeIn K cd15 "_law_class_game" = true)
 (k15 : W.keepIn K (.ref f15) = true)
 (a16 : W.nsIn K mainGlobals "_law_picks" = some (some (.ref f16)))
 (l16 : K.lookup f16 = some ⟨oc16, od16, .func (W.fnOf "_law_picks" "_law_picks" (defArgs s_Zpicks) (defBody s_Zpicks) (defScope s_Zpicks) .none kV16 dc16 pm16 an16 cd16 ct16), sl16⟩)
 (c16 : W.codeIn K cd16 "_law_picks" = true)
 (k16 : W.keepIn K (.ref f16) = true)
 (a17 : W.nsIn K mainGlobals "_law_any_game" = some (some (.ref f17)))
 (l17 : K.lookup f17 = some ⟨oc17, od17, .func (W.fnOf "_law_any_game" "_law_any_game" (defArgs s_Zany_game) (defBody s_Zany_game) (defScope s_Zany_game) .none kV17 dc17 pm17 an17 cd17 ct17), sl17⟩)
 (c17 : W.codeIn K cd17 "_law_any_game" = true)
 (k17 : W.keepIn K (.ref f17) = true)
 (a18 : W.nsIn K mainGlobals "_law_game" = some (some (.ref f18)))
 (l18 : K.lookup f18 = some ⟨oc18, od18, .func (W.fnOf "_law_game" "_law_game" (defArgs s_Zgame) (defBody s_Zgame) (defScope s_Zgame) .none kV18 dc18 pm18 an18 cd18 ct18), sl18⟩)
 (c18 : W.codeIn K cd18 "_law_game" = true)
 (k18 : W.keepIn K (.ref f18) = true)
 (a19 : W.nsIn K mainGlobals "_law_pair" = some (some (.ref f19)))
 (l19 : K.lookup f19 = some ⟨oc19, od19, .func (W.fnOf "_law_pair" "_law_pair" (defArgs s_Zpair) (defBody s_Zpair) (defScope s_Zpair) .none kV19 dc19 pm19 an19 cd19 ct19), sl19⟩)
 (c19 : W.codeIn K cd19 "_law_pair" = true)
 (k19 : W.keepIn K (.ref f19) = true)
 (a20 : W.nsIn K mainGlobals "_law_ending" = some (some (.ref f20)))
 (l20 : K.lookup f20 = some ⟨oc20, od20, .func (W.fnOf "_law_ending" "_law_ending" (defArgs s_Zending) (defBody s_Zending) (defScope s_Zending) .none kV20 dc20 pm20 an20 cd20 ct20), sl20⟩)
 (c20 : W.codeIn K cd20 "_law_ending" = true)
 (k20 : W.keepIn K (.ref f20) = true)
 (a21 : W.nsIn K mainGlobals "_law_sides" = some (some (.ref f21)))
 (l21 : K.lookup f21 = some ⟨oc21, od21, .func (W.fnOf "_law_sides" "_law_sides" (defArgs s_Zsides) (defBody s_Zsides) (defScope s_Zsides) .none kV21 dc21 pm21 an21 cd21 ct21), sl21⟩)
 (c21 : W.codeIn K cd21 "_law_sides" = true)
 (k21 : W.keepIn K (.ref f21) = true)
 (a22 : W.nsIn K mainGlobals "_law_need" = some (some (.ref f22)))
 (l22 : K.lookup f22 = some ⟨oc22, od22, .func (W.fnOf "_law_need" "_law_need" (defArgs s_Zneed) (defBody s_Zneed) (defScope s_Zneed) .none kV22 dc22 pm22 an22 cd22 ct22), sl22⟩)
 (c22 : W.codeIn K cd22 "_law_need" = true)
 (k22 : W.keepIn K (.ref f22) = true)
 (a23 : W.nsIn K mainGlobals "_law_tree" = some (some (.ref f23)))
 (l23 : K.lookup f23 = some ⟨oc23, od23, .func (W.fnOf "_law_tree" "_law_tree" (defArgs s_Ztree) (defBody s_Ztree) (defScope s_Ztree) .none kV23 dc23 pm23 an23 cd23 ct23), sl23⟩)
 (c23 : W.codeIn K cd23 "_law_tree" = true)
 (k23 : W.keepIn K (.ref f23) = true)
 (a24 : W.nsIn K mainGlobals "_law_bent" = some (some (.ref f24)))
 (l24 : K.lookup f24 = some ⟨oc24, od24, .func (W.fnOf "_law_bent" "_law_bent" (defArgs s_Zbent) (defBody s_Zbent) (defScope s_Zbent) .none kV24 dc24 pm24 an24 cd24 ct24), sl24⟩)
 (c24 : W.codeIn K cd24 "_law_bent" = true)
 (k24 : W.keepIn K (.ref f24) = true)
 (a25 : W.nsIn K mainGlobals "_law_through" = some (some (.ref f25)))
 (l25 : K.lookup f25 = some ⟨oc25, od25, .func (W.fnOf "_law_through" "_law_through" (defArgs s_Zthrough) (defBody s_Zthrough) (defScope s_Zthrough) .none kV25 dc25 pm25 an25 cd25 ct25), sl25⟩)
 (c25 : W.codeIn K cd25 "_law_through" = true)
 (k25 : W.keepIn K (.ref f25) = true)
 (a26 : W.nsIn K mainGlobals "_law_is_number" = some (some (.ref f26)))
 (l26 : K.lookup f26 = some ⟨oc26, od26, .func (W.fnOf "_law_is_number" "_law_is_number" (defArgs s_Zis_number) (defBody s_Zis_number) (defScope s_Zis_number) .none kV26 dc26 pm26 an26 cd26 ct26), sl26⟩)
 (c26 : W.codeIn K cd26 "_law_is_number" = true)
 (k26 : W.keepIn K (.ref f26) = true)
 (a27 : W.nsIn K mainGlobals "_law_many" = some (some (.ref f27)))
 (l27 : K.lookup f27 = some ⟨oc27, od27, .func (W.fnOf "_law_many" "_law_many" (defArgs s_Zmany) (defBody s_Zmany) (defScope s_Zmany) .none kV27 dc27 pm27 an27 cd27 ct27), sl27⟩)
 (c27 : W.codeIn K cd27 "_law_many" = true)
 (k27 : W.keepIn K (.ref f27) = true)
 (a28 : W.nsIn K mainGlobals "_law_deep" = some (some (.ref f28)))
 (l28 : K.lookup f28 = some ⟨oc28, od28, .func (W.fnOf "_law_deep" "_law_deep" (defArgs s_Zdeep) (defBody s_Zdeep) (defScope s_Zdeep) .none kV28 dc28 pm28 an28 cd28 ct28), sl28⟩)
 (c28 : W.codeIn K cd28 "_law_deep" = true)
 (k28 : W.keepIn K (.ref f28) = true)
 (a29 : W.nsIn K mainGlobals "_law_judged" = some (some (.ref f29)))
 (l29 : K.lookup f29 = some ⟨oc29, od29, .func (W.fnOf "_law_judged" "_law_judged" (defArgs s_Zjudged) (defBody s_Zjudged) (defScope s_Zjudged) .none kV29 dc29 pm29 an29 cd29 ct29), sl29⟩)
 (c29 : W.codeIn K cd29 "_law_judged" = true)
 (k29 : W.keepIn K (.ref f29) = true)
 (a30 : W.nsIn K mainGlobals "_law_other" = some (some (.ref f30)))
 (l30 : K.lookup f30 = some ⟨oc30, od30, .func (W.fnOf "_law_other" "_law_other" (defArgs s_Zother) (defBody s_Zother) (defScope s_Zother) .none kV30 dc30 pm30 an30 cd30 ct30), sl30⟩)
 (c30 : W.codeIn K cd30 "_law_other" = true)
 (k30 : W.keepIn K (.ref f30) = true)
 (a31 : W.nsIn K mainGlobals "law" = some (some (.ref f31)))
 (l31 : K.lookup f31 = some ⟨oc31, od31, .func (W.fnOf "law" "law" (defArgs s_law) (defBody s_law) (defScope s_law) .none kV31 dc31 pm31 an31 cd31 ct31), sl31⟩)
 (c31 : W.codeIn K cd31 "law" = true)
 (k31 : W.keepIn K (.ref f31) = true)
 (z_all : W.nsIn K mainGlobals "all" = some none)
 (z_bool : W.nsIn K mainGlobals "bool" = some none)
 (z_int : W.nsIn K mainGlobals "int" = some none)
 (z_isinstance : W.nsIn K mainGlobals "isinstance" = some none)
 (z_len : W.nsIn K mainGlobals "len" = some none)
 (z_list : W.nsIn K mainGlobals "list" = some none)
 (z_max : W.nsIn K mainGlobals "max" = some none)
 (z_min : W.nsIn K mainGlobals "min" = some none)
 (z_range : W.nsIn K mainGlobals "range" = some none)
 (z_repr : W.nsIn K mainGlobals "repr" = some none)
 (z_set : W.nsIn K mainGlobals "set" = some none)
 (z_str : W.nsIn K mainGlobals "str" = some none)
 (z_tuple : W.nsIn K mainGlobals "tuple" = some none)
 (c_MOST_TREES : W.nsIn K mainGlobals "MOST_TREES" = some (some (.int 2000 t_MOST_TREES)))
 (c_MOST_WITHIN : W.nsIn K mainGlobals "MOST_WITHIN" = some (some (.int 16 t_MOST_WITHIN)))
 (hnt : W.noTabs K = true) :
 ∃ (fd : FuncData) (ts : List (Addr × Addr)), W.TabsAt ts h /\ W.noTabs K = true /\ (∀ (s : Shared) (v : Value), BindsTo s fd ⟨[v], []⟩ [("_law_script", v)]) /\ ∀ base : Heap, K.In base -> base.Ns mainGlobals mg -> BMn mg base -> FnOk l.prog w K mg base CX0 23 fa fd ["_law_script"] (spLawT K (ts.map (·.2))) := by
 have e := hfa.symm.trans (W.mg_of X G a31)
 cases e
 have F0 := fun_mk (st := s_keeps_to) l0 c0 k0
 have b0 := F0.binds (ps := ["has_form", "parts_within", "is_beyond", "thing"]) fun _ _ _ _ _ _ => L2.on4 (fun _ _ _ _ => rfl)
 have F1 := fun_mk (st := s_is_whole) l1 c1 k1
 have b1 := F1.binds (ps := ["thing"]) fun _ _ _ _ _ _ => L2.on1 (fun _ => rfl)
 have F2 := fun_mk (st := s_is_below) l2 c2 k2
 have b2 := F2.binds (ps := ["bound", "thing"]) fun _ _ _ _ _ _ => L2.on2 (fun _ _ => rfl)
 have F3 := fun_mk (st := s_is_tree) l3 c3 k3
 have b3 := F3.binds (ps := ["game", "thing"]) fun _ _ _ _ _ _ => L2.on2 (fun _ _ => rfl)
 have F4 := fun_mk (st := s_has_tree_form) l4 c4 k4
 have b4 := F4.binds (ps := ["questions", "thing"]) fun _ _ _ _ _ _ => L2.on2 (fun _ _ => rfl)
 have F5 := fun_mk (st := s_trees_within) l5 c5 k5
 have b5 := F5.binds (ps := ["tree"]) fun _ _ _ _ _ _ => L2.on1 (fun _ => rfl)
 have F6 := fun_mk (st := s_is_too_large_tree) l6 c6 k6
 have b6 := F6.binds (ps := ["many", "depth"]) fun _ _ _ _ _ _ => L2.on2 (fun _ _ => rfl)
 have F7 := fun_mk (st := s_asked) l7 c7 k7
 have b7 := F7.binds (ps := ["game", "tree", "thing"]) fun _ _ _ _ _ _ => L2.on3 (fun _ _ _ => rfl)
 have F8 := fun_mk (st := s_lets_tree) l8 c8 k8
 have b8 := F8.binds (ps := ["game", "d", "thing"]) fun _ _ _ _ _ _ => L2.on3 (fun _ _ _ => rfl)
 have F9 := fun_mk (st := s_comes_home) l9 c9 k9
 have b9 := F9.binds (ps := ["game", "d", "tree", "hidden"]) fun _ _ _ _ _ _ => L2.on4 (fun _ _ _ _ => rfl)
 have F10 := fun_mk (st := s_Zfeed) l10 c10 k10
 have b10 := F10.binds (ps := ["_law_script"]) fun _ _ _ _ _ _ => L2.on1 (fun _ => rfl)
 have F11 := fun_mk (st := s_Zdraw) l11 c11 k11
 have b11 := F11.binds (ps := ["_law_feed_here", "_law_many_here"]) fun _ _ _ _ _ _ => L2.on2 (fun _ _ => rfl)
 have F12 := fun_mk (st := s_Ztable) l12 c12 k12
 have b12 := F12.binds (ps := ["_law_feed_here", "_law_n"]) fun _ _ _ _ _ _ => L2.on2 (fun _ _ => rfl)
 have F13 := fun_mk (st := s_Ztable_game) l13 c13 k13
 have b13 := F13.binds (ps := ["_law_table_here"]) fun _ _ _ _ _ _ => L2.on1 (fun _ => rfl)
 have F14 := fun_mk (st := s_Zclass) l14 c14 k14
 have b14 := F14.binds (ps := ["_law_feed_here", "_law_n", "_law_many_here"]) fun _ _ _ _ _ _ => L2.on3 (fun _ _ _ => rfl)
 have F15 := fun_mk (st := s_Zclass_game) l15 c15 k15
 have b15 := F15.binds (ps := ["_law_tables"]) fun _ _ _ _ _ _ => L2.on1 (fun _ => rfl)
 have F16 := fun_mk (st := s_Zpicks) l16 c16 k16
 have b16 := F16.binds (ps := ["_law_feed_here"]) fun _ _ _ _ _ _ => L2.on1 (fun _ => rfl)
 have F17 := fun_mk (st := s_Zany_game) l17 c17 k17
 have b17 := F17.binds (ps := ["_law_feed_here"]) fun _ _ _ _ _ _ => L2.on1 (fun _ => rfl)
 have F18 := fun_mk (st := s_Zgame) l18 c18 k18
 have b18 := F18.binds (ps := ["_law_feed_here"]) fun _ _ _ _ _ _ => L2.on1 (fun _ => rfl)
 have F19 := fun_mk (st := s_Zpair) l19 c19 k19
 have b19 := F19.binds (ps := ["_law_game_here"]) fun _ _ _ _ _ _ => L2.on1 (fun _ => rfl)
 have F20 := fun_mk (st := s_Zending) l20 c20 k20
 have b20 := F20.binds (ps := ["_law_game_here"]) fun _ _ _ _ _ _ => L2.on1 (fun _ => rfl)
 have F21 := fun_mk (st := s_Zsides) l21 c21 k21
 have b21 := F21.binds (ps := ["_law_game_here", "_law_things", "_law_question"]) fun _ _ _ _ _ _ => L2.on3 (fun _ _ _ => rfl)
 have F22 := fun_mk (st := s_Zneed) l22 c22 k22
 have b22 := F22.binds (ps := ["_law_game_here", "_law_things", "_law_known"]) fun _ _ _ _ _ _ => L2.on3 (fun _ _ _ => rfl)
 have F23 := fun_mk (st := s_Ztree) l23 c23 k23
 have b23 := F23.binds (ps := ["_law_feed_here", "_law_game_here", "_law_things", "_law_deep_here"]) fun _ _ _ _ _ _ => L2.on4 (fun _ _ _ _ => rfl)
 have F24 := fun_mk (st := s_Zbent) l24 c24 k24
 have b24 := F24.binds (ps := ["_law_feed_here", "_law_thing"]) fun _ _ _ _ _ _ => L2.on2 (fun _ _ => rfl)
 have F25 := fun_mk (st := s_Zthrough) l25 c25 k25
 have b25 := F25.binds (ps := ["_law_game_here", "_law_tree_here", "_law_thing"]) fun _ _ _ _ _ _ => L2.on3 (fun _ _ _ => rfl)
 have F26 := fun_mk (st := s_Zis_number) l26 c26 k26
 have b26 := F26.binds (ps := ["_law_thing"]) fun _ _ _ _ _ _ => L2.on1 (fun _ => rfl)
 have F27 := fun_mk (st := s_Zmany) l27 c27 k27
 have b27 := F27.binds (ps := ["_law_game_here", "_law_thing", "_law_left"]) fun _ _ _ _ _ _ => L2.on3 (fun _ _ _ => rfl)
 have F28 := fun_mk (st := s_Zdeep) l28 c28 k28
 have b28 := F28.binds (ps := ["_law_game_here", "_law_thing"]) fun _ _ _ _ _ _ => L2.on2 (fun _ _ => rfl)
 have F29 := fun_mk (st := s_Zjudged) l29 c29 k29
 have b29 := F29.binds (ps := ["_law_game_here", "_law_thing", "_law_known"]) fun _ _ _ _ _ _ => L2.on3 (fun _ _ _ => rfl)
 have F30 := fun_mk (st := s_Zother) l30 c30 k30
 have b30 := F30.binds (ps := ["_law_feed_here", "_law_game_here", "_law_tree_here"]) fun _ _ _ _ _ _ => L2.on3 (fun _ _ _ => rfl)
 have F31 := fun_mk (st := s_law) l31 c31 k31
 have b31 := F31.binds (ps := ["_law_script"]) fun _ _ _ _ _ _ => L2.on1 (fun _ => rfl)
 let T : Txt K mg := { f_keeps_to := f0, d_keeps_to := _, F_keeps_to := F0, b_keeps_to := b0, m_keeps_to := W.mg_of X G a0, f_is_whole := f1, d_is_whole := _, F_is_whole := F1, b_is_whole := b1, m_is_whole := W.mg_of X G a1, f_is_below := f2, d_is_below := _, F_is_below := F2, b_is_below := b2, m_is_below := W.mg_of X G a2, g_is_tree := g3, p_is_tree := p3, gc_is_tree := rfl, gh_is_tree := gh3, f_is_tree := f3, d_is_tree := _, F_is_tree := F3, b_is_tree := b3, m_is_tree := W.mg_of X G a3, f_has_tree_form := f4, d_has_tree_form := _, F_has_tree_form := F4, b_has_tree_form := b4, m_has_tree_form := W.mg_of X G a4, f_trees_within := f5, d_trees_within := _, F_trees_within := F5, b_trees_within := b5, m_trees_within := W.mg_of X G a5, f_is_too_large_tree := f6, d_is_too_large_tree := _, F_is_too_large_tree := F6, b_is_too_large_tree := b6, m_is_too_large_tree := W.mg_of X G a6, f_asked := f7, d_asked := _, F_asked := F7, b_asked := b7, m_asked := W.mg_of X G a7, f_lets_tree := f8, d_lets_tree := _, F_lets_tree := F8, b_lets_tree := b8, m_lets_tree := W.mg_of X G a8, f_comes_home := f9, d_comes_home := _, F_comes_home := F9, b_comes_home := b9, m_comes_home := W.mg_of X G a9, f_Zfeed := f10, d_Zfeed := _, F_Zfeed := F10, b_Zfeed := b10, m_Zfeed := W.mg_of X G a10, f_Zdraw := f11, d_Zdraw := _, F_Zdraw := F11, b_Zdraw := b11, m_Zdraw := W.mg_of X G a11, f_Ztable := f12, d_Ztable := _, F_Ztable := F12, b_Ztable := b12, m_Ztable := W.mg_of X G a12, f_Ztable_game := f13, d_Ztable_game := _, F_Ztable_game := F13, b_Ztable_game := b13, m_Ztable_game := W.mg_of X G a13, f_Zclass := f14, d_Zclass := _, F_Zclass := F14, b_Zclass := b14, m_Zclass := W.mg_of X G a14, f_Zclass_game := f15, d_Zclass_game := _, F_Zclass_game := F15, b_Zclass_game := b15, m_Zclass_game := W.mg_of X G a15, f_Zpicks := f16, d_Zpicks := _, F_Zpicks := F16, b_Zpicks := b16, m_Zpicks := W.mg_of X G a16, f_Zany_game := f17, d_Zany_game := _, F_Zany_game := F17, b_Zany_game := b17, m_Zany_game := W.mg_of X G a17, f_Zgame := f18, d_Zgame := _, F_Zgame := F18, b_Zgame := b18, m_Zgame := W.mg_of X G a18, f_Zpair := f19, d_Zpair := _, F_Zpair := F19, b_Zpair := b19, m_Zpair := W.mg_of X G a19, f_Zending := f20, d_Zending := _, F_Zending := F20, b_Zending := b20, m_Zending := W.mg_of X G a20, f_Zsides := f21, d_Zsides := _, F_Zsides := F21, b_Zsides := b21, m_Zsides := W.mg_of X G a21, f_Zneed := f22, d_Zneed := _, F_Zneed := F22, b_Zneed := b22, m_Zneed := W.mg_of X G a22, f_Ztree := f23, d_Ztree := _, F_Ztree := F23, b_Ztree := b23, m_Ztree := W.mg_of X G a23, f_Zbent := f24, d_Zbent := _, F_Zbent := F24, b_Zbent := b24, m_Zbent := W.mg_of X G a24, f_Zthrough := f25, d_Zthrough := _, F_Zthrough := F25, b_Zthrough := b25, m_Zthrough := W.mg_of X G a25, f_Zis_number := f26, d_Zis_number := _, F_Zis_number := F26, b_Zis_number := b26, m_Zis_number := W.mg_of X G a26, f_Zmany := f27, d_Zmany := _, F_Zmany := F27, b_Zmany := b27, m_Zmany := W.mg_of X G a27, f_Zdeep := f28, d_Zdeep := _, F_Zdeep := F28, b_Zdeep := b28, m_Zdeep := W.mg_of X G a28, f_Zjudged := f29, d_Zjudged := _, F_Zjudged := F29, b_Zjudged := b29, m_Zjudged := W.mg_of X G a29, f_Zother := f30, d_Zother := _, F_Zother := F30, b_Zother := b30, m_Zother := W.mg_of X G a30, f_law := fa, d_law := _, F_law := F31, b_law := b31, m_law := W.mg_of X G a31, z_all := W.mg_none_of X G z_all, z_bool := W.mg_none_of X G z_bool, z_int := W.mg_none_of X G z_int, z_isinstance := W.mg_none_of X G z_isinstance, z_len := W.mg_none_of X G z_len, z_list := W.mg_none_of X G z_list, z_max := W.mg_none_of X G z_max, z_min := W.mg_none_of X G z_min, z_range := W.mg_none_of X G z_range, z_repr := W.mg_none_of X G z_repr, z_set := W.mg_none_of X G z_set, z_str := W.mg_none_of X G z_str, z_tuple := W.mg_none_of X G z_tuple, t_MOST_TREES := t_MOST_TREES, c_MOST_TREES := W.mg_of X G c_MOST_TREES, t_MOST_WITHIN := t_MOST_WITHIN, c_MOST_WITHIN := W.mg_of X G c_MOST_WITHIN }
 exact ⟨W.fnOf "law" "law" (defArgs s_law) (defBody s_law) (defScope s_law) .none kV31 dc31 pm31 an31 cd31 ct31, [(g3, p3)], List.forall_mem_cons.mpr ⟨⟨W.codeHd_of_K X gh3, gt3⟩, fun _ z => nomatch z⟩, hnt, fun s v => .of_eq rfl, fun base _ _ B => ok_law T B⟩
theorem walk {l : W.OpenLaw} {q : Program} {loose : List Str} {XP : (Str -> Option Value) -> Heap -> Prop} {YP : World -> Heap -> Prop} {d : DefRec} {K : Params -> W.Frag} (hn : l.most = some 63) (hdf : d.params.defaults = [])
 (hY : ∀ (w : World) (h : Heap), YP w h -> (K w.params).In h)
 (F : ∀ (w : World) (mg : Str -> Option Value) (fa : Addr) (h : Heap), YP w h -> (K w.params).In h -> h.Ns mainGlobals mg -> mg d.name = some (.ref fa) ->
   ∃ (fd : FuncData) (ts : List (Addr × Addr)), W.TabsAt ts h /\ W.noTabs (K w.params) = true /\ (∀ (s : Shared) (u : Value), BindsTo s fd ⟨[u], []⟩ [("_law_script", u)]) /\ ∀ base : Heap, (K w.params).In base -> base.Ns mainGlobals mg -> BMn mg base -> FnOk l.prog w (K w.params) mg base CX0 23 fa fd ["_law_script"] (spLawT (K w.params) (ts.map (·.2)))) :
 W.WalkO q loose XP YP l.row.toRowW d [] (fun f vs => PySem.call f vs) :=
 L2.walk_ofT (n := 63) (k := 23) (x := "_law_script") (sp := fun w ts => spLawT (K w.params) ts) hn (by decide) hdf ⟨rfl, by decide, by decide, rfl⟩ hY F (fun _ _ a ns ts hl hO hS => ⟨a, ns, rfl, hS, hl, hO, fun _ => rfl⟩)
end Mine
theorem PySem.W.Fast.te2558996420032644573 : True := trivial
def PySem.W.Fast.tw12067377240902811958 : PySem.Program := PySem.Challenge.pw_flips_k43_whole_trees_let_by
theorem PySem.W.Fast.te12067377240902811958 : PySem.Challenge.pw_flips_k43_whole_trees_let_by = PySem.W.Fast.tw12067377240902811958 := rfl
def PySem.W.Fast.pickB : List Bool -> List PySem.Stmt -> List PySem.Stmt
 | [], _ => []
 | b :: k, l => match b, l with
  | true, s :: r => s :: PySem.W.Fast.pickB k r
  | false, _ :: r => PySem.W.Fast.pickB k r
  | _, [] => []
def PySem.W.Fast.tw12229898339744418808 : PySem.Program := { PySem.Challenge.pw_flips_k43_whole_trees_let_by with main := { (PySem.Challenge.pw_flips_k43_whole_trees_let_by).main with body := PySem.W.Fast.pickB [false, true, false, true, true, false, true, true, true, true, true, true, true, false, true, true, false, true, true, true, true, true, true, true, true, true, true, true, true, true, true, true, true, true, true, true, true, true, true] (PySem.Challenge.pw_flips_k43_whole_trees_let_by).main.body } }
theorem PySem.W.Fast.te12229898339744418808 : PySem.W.Fast.tw12229898339744418808 = PySem.W.Fast.tw12229898339744418808 := rfl
def PySem.W.Fast.tw14710665906140911592 : List PySem.Stmt := ((PySem.Challenge.pw_flips_k43_whole_trees_let_by).main.body.drop 18).take 14
theorem PySem.W.Fast.te14710665906140911592 : PySem.W.Fast.tw14710665906140911592 = PySem.W.Fast.tw14710665906140911592 := rfl
def PySem.W.Fast.tw16693450077245528476 : List PySem.Stmt := ((PySem.Challenge.pw_flips_k43_whole_trees_let_by).main.body.drop 0).take 18
theorem PySem.W.Fast.te16693450077245528476 : PySem.W.Fast.tw16693450077245528476 = PySem.W.Fast.tw16693450077245528476 := rfl
def PySem.W.Fast.tw12687489408058781987 : List PySem.Stmt := ((PySem.Challenge.pw_flips_k43_whole_trees_let_by).main.body.drop 32).take 7
theorem PySem.W.Fast.te12687489408058781987 : PySem.W.Fast.tw12687489408058781987 = PySem.W.Fast.tw12687489408058781987 := rfl
open PySem PySem.W PyProof.Rows
set_option maxRecDepth 100000 in
set_option maxHeartbeats 0 in
theorem PySem.Challenge.cw_flips_k43_whole_trees_let_by_holds : PySem.Challenge.rw_flips_k43_whole_trees_let_by.Holds := by
 w_on; o_law; k_head; (case hw => w_witness2)
 k_fill
 refine Mine.walk (l := PySem.Challenge.rw_flips_k43_whole_trees_let_by) rfl rfl (fun w h Y => PySem.W.km_in_of Y) ?F
 case F =>
  intro w mg fa h Y KX G hmg
  refine' Mine.all_mk KX G hmg ?a0 ?l0 ?c0 ?k0 ?a1 ?l1 ?c1 ?k1 ?a2 ?l2 ?c2 ?k2 ?a3 ?l3 ?c3 ?k3 ?lc3 ?pv3 ?gh3 ?gt3 ?a4 ?l4 ?c4 ?k4 ?a5 ?l5 ?c5 ?k5 ?a6 ?l6 ?c6 ?k6 ?a7 ?l7 ?c7 ?k7 ?a8 ?l8 ?c8 ?k8 ?a9 ?l9 ?c9 ?k9 ?a10 ?l10 ?c10 ?k10 ?a11 ?l11 ?c11 ?k11 ?a12 ?l12 ?c12 ?k12 ?a13 ?l13 ?c13 ?k13 ?a14 ?l14 ?c14 ?k14 ?a15 ?l15 ?c15 ?k15 ?a16 ?l16 ?c16 ?k16 ?a17 ?l17 ?c17 ?k17 ?a18 ?l18 ?c18 ?k18 ?a19 ?l19 ?c19 ?k19 ?a20 ?l20 ?c20 ?k20 ?a21 ?l21 ?c21 ?k21 ?a22 ?l22 ?c22 ?k22 ?a23 ?l23 ?c23 ?k23 ?a24 ?l24 ?c24 ?k24 ?a25 ?l25 ?c25 ?k25 ?a26 ?l26 ?c26 ?k26 ?a27 ?l27 ?c27 ?k27 ?a28 ?l28 ?c28 ?k28 ?a29 ?l29 ?c29 ?k29 ?a30 ?l30 ?c30 ?k30 ?a31 ?l31 ?c31 ?k31 ?z_all ?z_bool ?z_int ?z_isinstance ?z_len ?z_list ?z_max ?z_min ?z_range ?z_repr ?z_set ?z_str ?z_tuple ?c_MOST_TREES ?c_MOST_WITHIN ?hnt
  (case a0 | l0 | c0 | k0 | a1 | l1 | c1 | k1 | a2 | l2 | c2 | k2 | a3 | l3 | c3 | k3 | lc3 | a4 | l4 | c4 | k4 | a5 | l5 | c5 | k5 | a6 | l6 | c6 | k6 | a7 | l7 | c7 | k7 | a8 | l8 | c8 | k8 | a9 | l9 | c9 | k9 | a10 | l10 | c10 | k10 | a11 | l11 | c11 | k11 | a12 | l12 | c12 | k12 | a13 | l13 | c13 | k13 | a14 | l14 | c14 | k14 | a15 | l15 | c15 | k15 | a16 | l16 | c16 | k16 | a17 | l17 | c17 | k17 | a18 | l18 | c18 | k18 | a19 | l19 | c19 | k19 | a20 | l20 | c20 | k20 | a21 | l21 | c21 | k21 | a22 | l22 | c22 | k22 | a23 | l23 | c23 | k23 | a24 | l24 | c24 | k24 | a25 | l25 | c25 | k25 | a26 | l26 | c26 | k26 | a27 | l27 | c27 | k27 | a28 | l28 | c28 | k28 | a29 | l29 | c29 | k29 | a30 | l30 | c30 | k30 | a31 | l31 | c31 | k31 | z_all | z_bool | z_int | z_isinstance | z_len | z_list | z_max | z_min | z_range | z_repr | z_set | z_str | z_tuple | c_MOST_TREES | c_MOST_WITHIN => k_is)
  (case pv3 => rfl)
  (case gh3 => kernel_rfl)
  (case gt3 => exact PySem.W.km_tabs_of Y _ (by k_mem))
  (case hnt => kernel_rfl)
