import PyProof.Rows.All
import Wide.All
import OpenK.AllK
import Wide.FinOn
import Lean
import PyProof.EqAt
import PyProof.EqKinds
import PyProof.TupleCall
import PyProof.NeKinds
import PyProof.ReprRoads
import PyProof.ReprBulk
import PyProof.Draws
import PyProof.EnumMake
import KE.BitLaws
import PyProof.ListIndex
import PyProof.AttrMissHeap
import PyProof.DictUpdate
import KE.KDictOf
import PyProof.FactsAll.enumerate_1
import PyProof.FactsAll.tuple_2
import PyProof.ListMulRoad
import PyProof.ListRange
import PyProof.FactsAll.list_3
import PyProof.Rows.SortWalk
import PyProof.Rows.MinMaxN
import KE.KEqDict
import KE.KDictSum
import PyProof.WalksMore
import PyProof.Rows.SetFrom
import PyProof.SetRoads
import PyProof.FactsAll.set_1
import KE.KItemsList
import KE.KSortTup
import PySem.Challenge.RW_flips_k08_sums_by_kind
set_option Elab.async false
set_option linter.all false
set_option maxRecDepth 100000
set_option maxHeartbeats 4000000
-- CHANGE: your row's module here, as the last of these rows
namespace L2
open PySem PySem.Spec PyProof.Rows
abbrev Key := Sum Int Str
def keyIs : Key -> Value -> Bool
  | .inl k, v => Value.isInt k v
  | .inr x, v => Value.isStrOf x v
def keyH (w : World) : Key -> Int
  | .inl k => hashInt k
  | .inr x => hashStr w x
theorem keyIs_shape : ∀ {k : Key} {v : Value}, keyIs k v = true -> (∃ i t, k = Sum.inl i /\ v = Value.int i t) \/ (∃ x t, k = Sum.inr x /\ v = Value.str x t)
  | .inl i, v, h => by
    obtain ⟨t, e⟩ := Value.isInt_shape (k := i) (v := v) h
    exact .inl ⟨i, t, rfl, e⟩
  | .inr x, v, h => by
    obtain ⟨t, e⟩ := Value.isStrOf_shape (x := x) (v := v) h
    exact .inr ⟨x, t, rfl, e⟩
theorem keyIs_int (i : Int) (t : Tok) : keyIs (.inl i) (.int i t) = true := by simp [keyIs, Value.isInt]
theorem keyIs_str (x : Str) (t : Tok) : keyIs (.inr x) (.str x t) = true := by simp [keyIs, Value.isStrOf]
theorem key_ll (a b : Int) : decide ((Sum.inl a : Key) = Sum.inl b) = (a == b) := by
  by_cases e : a = b
  . subst e; simp
  . have h : ¬ (Sum.inl a : Key) = Sum.inl b := fun q => e (Sum.inl.inj q)
    rw [decide_eq_false h]
    exact (beq_eq_false_iff_ne.mpr e).symm
theorem key_rr (a b : Str) : decide ((Sum.inr a : Key) = Sum.inr b) = decide (a = b) := by
  by_cases e : a = b
  . subst e; simp
  . have h : ¬ (Sum.inr a : Key) = Sum.inr b := fun q => e (Sum.inr.inj q)
    rw [decide_eq_false h, decide_eq_false e]
theorem key_lr (a : Int) (b : Str) : decide ((Sum.inl a : Key) = Sum.inr b) = false := decide_eq_false (fun q => nomatch q)
theorem key_rl (a : Str) (b : Int) : decide ((Sum.inr a : Key) = Sum.inl b) = false := decide_eq_false (fun q => nomatch q)
def mixKind (prog : Program) (w : World) : PySem.KeyKind prog w Key where
  is := keyIs
  hash := keyH w
  inj := fun v a b ha hb => by
    rcases keyIs_shape ha with ⟨i, t, rfl, rfl⟩ | ⟨x, t, rfl, rfl⟩
    . rcases keyIs_shape hb with ⟨j, u, rfl, e⟩ | ⟨y, u, rfl, e⟩
      . injection e with e1 _; rw [e1]
      . exact nomatch e
    . rcases keyIs_shape hb with ⟨j, u, rfl, e⟩ | ⟨y, u, rfl, e⟩
      . exact nomatch e
      . injection e with e1 _; rw [e1]
  byValue := fun k v h => by
    rcases keyIs_shape h with ⟨i, t, rfl, rfl⟩ | ⟨x, t, rfl, rfl⟩ <;> rfl
  pyHash := fun hv h => by
    rcases keyIs_shape hv with ⟨i, t, rfl, rfl⟩ | ⟨x, t, rfl, rfl⟩
    . exact wpAny_pyHash_int h
    . exact wpAny_pyHash_str h
  eqBool := fun hu hv h => by
    rcases keyIs_shape hu with ⟨i, t, rfl, rfl⟩ | ⟨x, t, rfl, rfl⟩
    . rcases keyIs_shape hv with ⟨j, u, rfl, rfl⟩ | ⟨y, u, rfl, rfl⟩
      . rw [key_ll] at h; exact wpAny_eqBool_int h
      . rw [key_lr] at h; exact SeqAt.EqAt.int_str i t y u _ _ _ _ h
    . rcases keyIs_shape hv with ⟨j, u, rfl, rfl⟩ | ⟨y, u, rfl, rfl⟩
      . rw [key_rl] at h; exact SeqAt.EqAt.str_int x t j u _ _ _ _ h
      . rw [key_rr] at h; exact wpAny_eqBool_str h
  «strs» := fun k x t v h => by
    rcases keyIs_shape h with ⟨i, u, rfl, e⟩ | ⟨y, u, rfl, e⟩
    . exact nomatch e
    . injection e with e1 _
      subst e1
      cases v <;> rfl
theorem mixKind_int (prog : Program) (w : World) (i : Int) (t : Tok) : (mixKind prog w).is (.inl i) (.int i t) = true := keyIs_int i t
theorem mixKind_str (prog : Program) (w : World) (x : Str) (t : Tok) : (mixKind prog w).is (.inr x) (.str x t) = true := keyIs_str x t
inductive V where
  | non | bl (b : Bool) | int (i : Int) | str (x : Str) | byt (b : Array UInt8) | flt (b : UInt64) | ref (a : Addr) | ty (n : String)
  deriving DecidableEq
def RelV : V -> Value -> Prop
  | .non, u => u = Value.none
  | .bl b, u => u = Value.bool b
  | .int i, u => ∃ t, u = Value.int i t
  | .str x, u => ∃ t, u = Value.str x t
  | .byt b, u => ∃ t, u = Value.bytes b t
  | .flt b, u => ∃ t, u = Value.float b t
  | .ref a, u => u = Value.ref a
  | .ty n, u => u = Value.type n
abbrev Vals : List V -> List Value -> Prop := Paired RelV
theorem Vals.length {xs : List V} {us : List Value} (r : Vals xs us) : xs.length = us.length := Paired.length r
theorem Vals.get : ∀ {xs : List V} {us : List Value} {i : Nat} {x : V}, Vals xs us -> xs[i]? = some x -> ∃ u, us[i]? = some u /\ RelV x u
  | _, _, _, _, .nil, e => by simp at e
  | _, _, 0, _, .cons r _, e => by simp at e; subst e; exact ⟨_, rfl, r⟩
  | _, _, i + 1, x, .cons _ t, e => by
    obtain ⟨u, h1, h2⟩ := Vals.get (i := i) (x := x) t (by simpa using e)
    exact ⟨u, by simpa using h1, h2⟩
theorem Vals.set {x : V} {u : Value} (r : RelV x u) : ∀ {xs : List V} {us : List Value} (i : Nat), Vals xs us -> Vals (xs.set i x) (us.set i u)
  | _, _, _, .nil => .nil
  | _, _, 0, .cons _ t => .cons r t
  | _, _, i + 1, .cons q t => .cons q (Vals.set r i t)
theorem Vals.append : ∀ {xs ys : List V} {us ws : List Value}, Vals xs us -> Vals ys ws -> Vals (xs ++ ys) (us ++ ws)
  | _, _, _, _, .nil, s => s
  | _, _, _, _, .cons r t, s => .cons r (Vals.append t s)
theorem Vals.take : ∀ {xs : List V} {us : List Value} (n : Nat), Vals xs us -> Vals (xs.take n) (us.take n)
  | _, _, 0, _ => .nil
  | _, _, _ + 1, .nil => .nil
  | _, _, n + 1, .cons r t => .cons r (Vals.take n t)
theorem Vals.drop : ∀ {xs : List V} {us : List Value} (n : Nat), Vals xs us -> Vals (xs.drop n) (us.drop n)
  | _, _, 0, r => r
  | _, _, _ + 1, .nil => .nil
  | _, _, n + 1, .cons _ t => Vals.drop n t
def RelO : Option V -> Option Value -> Prop
  | some v, some u => RelV v u
  | none, none => True
  | _, _ => False
def KV {κ : Type} : List (κ × V) -> List (κ × Value) -> Prop := Paired fun (p : κ × V) (q : κ × Value) => p.1 = q.1 /\ RelV p.2 q.2
def kV : Key -> V
  | .inl i => .int i
  | .inr x => .str x
inductive HO where
    | lst (xs : List V)
    | tup (xs : List V)
    | dK (kvs : List (Key × V)) | dT (kvs : List (List Key × V))
    | set (S : Int -> Bool) (n : Nat)
    | ins (C dx : Addr) (fs : List (Str × V))
    | own (x : Addr)
    | xd (fs : List (Str × V))
    | met (f x : Addr)
    | rng (lo hi : Int)
    | frz (o : Obj) (u : HO)
    | tbl (ps : Array Value)
    | ext (φ : Heap -> Prop)
abbrev Hp := Addr -> Option HO
def upd (H : Hp) (a : Addr) (o : HO) : Hp := fun b => if b = a then some o else H b
theorem upd_same {H : Hp} {a : Addr} {o : HO} : upd H a o a = some o := by unfold upd; rw [if_pos rfl]
theorem upd_ne {H : Hp} {a b : Addr} {o : HO} (h : b ≠ a) : upd H a o b = H b := by unfold upd; rw [if_neg h]
theorem ne_of {H : Hp} {a b : Addr} {o u : HO} (h : H a = some o) (h' : H b = some u) (d : o ≠ u) : a ≠ b := by
  intro e; subst e; rw [h] at h'; exact d (Option.some.inj h')
theorem ne_of_none {H : Hp} {a b : Addr} {o : HO} (h : H a = some o) (h' : H b = none) : a ≠ b := by
  intro e; subst e; rw [h] at h'; cases h'
def IsTupN (h : Heap) (a : Addr) (items : Array Value) : Prop := ∃ o, h.get? a = some o /\ o.cls = .type "tuple" /\ (∃ n, o.data = .seq items n) /\ o.dict = none
theorem IsTupN.tup {h : Heap} {a : Addr} {items : Array Value} (x : IsTupN h a items) : PyProof.Rows.IsTup h a items := by
  obtain ⟨o, e, c, d, _⟩ := x
  exact ⟨o, e, c, d⟩
theorem IsTupN.new (h : Heap) (items : Array Value) : IsTupN (h.push { cls := .type "tuple", data := .seq items }) h.objs.size items := ⟨_, Heap.get?_push_size _ rfl, rfl, ⟨_, rfl⟩, rfl⟩
section
variable (P : Program) (w : World)
def ObjOk (H : Hp) (h : Heap) (a : Addr) : HO -> Prop
  | .lst xs => xs.length <= sizeLine /\ ∃ (its : List Value) (n : Nat), Vals xs its /\ h.get? a = some { cls := .type "list", data := .seq its.toArray n }
  | .tup xs => xs.length <= sizeLine /\ ∃ its : List Value, Vals xs its /\ IsTupN h a its.toArray
  | .dK kvs => kvs.length <= sizeLine /\ (a == sysModules) = false /\ ∃ vs, KV kvs vs /\ h.DictOf (mixKind P w) a vs
  | .dT kvs => kvs.length <= sizeLine /\ (a == sysModules) = false /\ ∃ xs : List (List Key × Addr × Value),
      Paired (fun (p : List Key × V) (q : List Key × Addr × Value) => p.1 = q.1 /\ H q.2.1 = some (.tup (p.1.map kV)) /\ RelV p.2 q.2.2) kvs xs /\
      ∃ o es ep, h.get? a = some o /\ o.ExactDict /\ o.data = .dict es ep /\ es.toList = xs.map (entryOfKey (tupleKind (mixKind P w))) /\ (xs.map (·.1)).Nodup
  | .set S n => h.SetOf (intKind P w) a S n
  | .ins C dx fs => H dx = some (.own a) /\ fs.length <= 1000 /\ dx ≠ a /\ h.get? a = some (PySem.W.instObj C dx) /\
      ∃ mA, h.Ns1 dx mA /\ (∀ f, RelO (fs.lookup f) (mA f)) /\ PySem.Within mA (fs.map (·.1))
  | .own _ => ∃ o, h.get? a = some o
  | .xd fs => ∃ mA, h.Ns1 a mA /\ ∀ f, RelO (fs.lookup f) (mA f)
  | .rng lo hi => ∃ t u v, h.get? a = some { cls := .type "range", data := .fields #[.int lo t, .int hi u, .int 1 v] }
  | .frz o u => h.get? a = some o /\ ObjOk H h a u
  | .tbl ps => h.get? a = some { cls := .none, data := .fields ps }
  | .met f x => h.get? a = some (PySem.W.methodObj (.ref f) (.ref x))
  | .ext φ => φ h /\ (∃ o, h.get? a = some o) /\ ∀ h1 h2 : Heap, φ h1 -> (∀ o, h1.get? a = some o -> h2.get? a = some o) -> φ h2
def HOk (H : Hp) (h : Heap) : Prop := ∀ a o, H a = some o -> ObjOk P w H h a o
end
section
variable {P : Program} {w : World} {H H' : Hp} {h h' : Heap} {a : Addr} {o : HO}
theorem ObjOk.lt (x : ObjOk P w H h a o) : a < h.objs.size := by
  cases o with
  | lst xs => obtain ⟨_, _, _, _, e⟩ := x; exact Heap.lt_size e
  | tup xs => obtain ⟨_, _, _, p⟩ := x; exact p.tup.lt
  | dK kvs => obtain ⟨_, _, _, _, o, _, _, e, _⟩ := x; exact Heap.lt_size e
  | dT kvs => obtain ⟨_, _, _, _, o, _, _, e, _⟩ := x; exact Heap.lt_size e
  | set S n => obtain ⟨o, _, _, _, e, _⟩ := x; exact Heap.lt_size e
  | ins C dx fs => obtain ⟨_, _, _, e, _⟩ := x; exact Heap.lt_size e
  | own y => obtain ⟨_, e⟩ := x; exact Heap.lt_size e
  | xd fs => obtain ⟨_, ⟨_, _, _, e, _⟩, _⟩ := x; exact Heap.lt_size e
  | rng lo hi => obtain ⟨_, _, _, e⟩ := x; exact Heap.lt_size e
  | frz ob u => obtain ⟨e, _⟩ := x; exact Heap.lt_size e
  | tbl ps => exact Heap.lt_size (show h.get? a = some _ from x)
  | met f y => exact Heap.lt_size (show h.get? a = some _ from x)
  | ext φ => obtain ⟨_, ⟨_, e⟩, _⟩ := x; exact Heap.lt_size e
theorem Paired.mapP {α β : Type} {F G : α -> β -> Prop} : ∀ {l₁ : List α} {l₂ : List β}, Paired F l₁ l₂ -> (∀ a b, F a b -> G a b) -> Paired G l₁ l₂
  | _, _, .nil, _ => .nil
  | _, _, .cons r t, f => .cons (f _ _ r) (Paired.mapP t f)
theorem ObjOk.stay (x : ObjOk P w H h a o) (k : ∀ b u, (b = a \/ H b = some (.own a)) -> h.get? b = some u -> h'.get? b = some u)
    (ho : ∀ b, H b = some (.own a) -> H' b = some (.own a)) (ht : ∀ b xs, H b = some (.tup xs) -> H' b = some (.tup xs)) : ObjOk P w H' h' a o := by
  induction o with
  | lst xs => obtain ⟨z, its, n, r, e⟩ := x; exact ⟨z, its, n, r, k _ _ (.inl rfl) e⟩
  | tup xs => obtain ⟨z, its, r, ob, e, c⟩ := x; exact ⟨z, its, r, ob, k _ _ (.inl rfl) e, c⟩
  | dK kvs => obtain ⟨z, y, vs, r, ob, es, ep, e, c⟩ := x; exact ⟨z, y, vs, r, ob, es, ep, k _ _ (.inl rfl) e, c⟩
  | dT kvs =>
    obtain ⟨z, y, xs, r, ob, es, ep, e, c⟩ := x
    exact ⟨z, y, xs, Paired.mapP r fun p q z => ⟨z.1, ht _ _ z.2.1, z.2.2⟩, ob, es, ep, k _ _ (.inl rfl) e, c⟩
  | set S n => obtain ⟨ob, es, ep, t, e, c⟩ := x; exact ⟨ob, es, ep, t, k _ _ (.inl rfl) e, c⟩
  | ins C dx fs =>
    obtain ⟨d, z, ne, e, mA, ⟨od, es, ep, e2, c⟩, r⟩ := x
    exact ⟨ho _ d, z, ne, k _ _ (.inl rfl) e, mA, ⟨od, es, ep, k _ _ (.inr d) e2, c⟩, r⟩
  | own y => obtain ⟨ob, e⟩ := x; exact ⟨ob, k _ _ (.inl rfl) e⟩
  | xd fs => obtain ⟨mA, ⟨od, es, ep, e, c⟩, r⟩ := x; exact ⟨mA, ⟨od, es, ep, k _ _ (.inl rfl) e, c⟩, r⟩
  | rng lo hi => obtain ⟨t, u, v, e⟩ := x; exact ⟨t, u, v, k _ _ (.inl rfl) e⟩
  | frz ob u ih => obtain ⟨e, q⟩ := x; exact ⟨k _ _ (.inl rfl) e, ih q⟩
  | tbl ps =>
    have e : h.get? a = some { cls := .none, data := .fields ps } := x
    show h'.get? a = some { cls := .none, data := .fields ps }
    exact k a _ (.inl rfl) e
  | met f y =>
    have e : h.get? a = some (PySem.W.methodObj (.ref f) (.ref y)) := x
    show h'.get? a = some (PySem.W.methodObj (.ref f) (.ref y))
    exact k a _ (.inl rfl) e
  | ext φ => obtain ⟨p, ⟨o, e⟩, st⟩ := x; exact ⟨st _ _ p fun o q => k _ _ (.inl rfl) q, ⟨o, k _ _ (.inl rfl) e⟩, st⟩
theorem HOk.lt (x : HOk P w H h) (e : H a = some o) : a < h.objs.size := (x a o e).lt
theorem HOk.fresh (x : HOk P w H h) (e : h.objs.size <= a) : H a = none := by
  cases q : H a with
  | none => rfl
  | some u => exact absurd (Nat.lt_of_lt_of_le (x.lt q) e) (Nat.lt_irrefl _)
theorem HOk.kept (x : HOk P w H h) (k : ∀ b u, h.get? b = some u -> h'.get? b = some u) : HOk P w H h' := fun a o e =>
  (x a o e).stay (fun b u _ q => k b u q) (fun _ q => q) fun _ _ q => q
theorem HOk.laid (x : HOk P w H h) (k : ∀ b u, h.get? b = some u -> h'.get? b = some u) (hp : h.objs.size <= a) (new : ObjOk P w (upd H a o) h' a o) : HOk P w (upd H a o) h' := fun b u e => by
  have hn := x.fresh hp
  by_cases hb : b = a
  . subst hb; rw [upd_same] at e; cases e; exact new
  . rw [upd_ne hb] at e
    exact (x b u e).stay (fun c v _ q => k c v q) (fun c q => by rw [upd_ne (ne_of_none q hn)]; exact q) fun c xs q => by rw [upd_ne (ne_of_none q hn)]; exact q
end
def Rd (H : Hp) (a : Addr) (u : HO) : Prop := H a = some u \/ ∃ o, H a = some (.frz o u)
theorem Rd.of {H : Hp} {a : Addr} {u : HO} (h : H a = some u) : Rd H a u := .inl h
theorem Rd.ok {P : Program} {w : World} {H : Hp} {h : Heap} {a : Addr} {u : HO} (r : Rd H a u) (x : HOk P w H h) : ObjOk P w H h a u := by
  rcases r with r | ⟨o, r⟩
  . exact x a u r
  . obtain ⟨_, q⟩ := x a _ r
    exact q
def Mut : Option HO -> Prop
  | some (.lst _) => True
  | some (.dK _) => True
  | some (.dT _) => True
  | some (.set _ _) => True
  | some (.ins _ _ _) => True
  | some (.ext _) => True
  | _ => False
section
variable {P : Program} {w : World} {H : Hp} {h h' : Heap} {x e : Addr} {o' : HO}
theorem HOk.write (ok : HOk P w H h) (mu : Mut (H x)) (he : e = x \/ H e = some (.own x)) (k : ∀ b u, b ≠ e -> h.get? b = some u -> h'.get? b = some u) (heo : ∃ u, h'.get? e = some u)
    (new : ObjOk P w (upd H x o') h' x o') : HOk P w (upd H x o') h' := fun b u q => by
  have nown : ∀ c y, H c = some (.own y) -> c ≠ x := fun c y r z => by subst z; rw [r] at mu; exact mu
  have ntup : ∀ c xs, H c = some (.tup xs) -> c ≠ x := fun c xs r z => by subst z; rw [r] at mu; exact mu
  by_cases hb : b = x
  . subst hb; rw [upd_same] at q; cases q; exact new
  . rw [upd_ne hb] at q
    by_cases hbe : b = e
    . have q' : H b = some (.own x) := by
        rcases he with z | z
        . exact absurd (hbe.trans z) hb
        . rw [hbe]; exact z
      rw [q] at q'; cases q'
      obtain ⟨v, hv⟩ := heo
      exact ⟨v, by rw [hbe]; exact hv⟩
    . refine (ok b u q).stay (fun c v hc r => k c v ?_ r) (fun c r => by rw [upd_ne (nown c b r)]; exact r) fun c xs r => by rw [upd_ne (ntup c xs r)]; exact r
      rcases hc with rfl | hc
      . exact hbe
      . rintro rfl
        rcases he with z | z
        . exact nown c b hc z
        . rw [hc] at z; cases z; exact hb rfl
end
structure Un (fs ex : List Addr) (H H' : Hp) (h h' : Heap) : Prop where
  keep : ∀ b o, h.get? b = some o -> H b = none -> b ∉ fs -> b ∉ ex -> h'.get? b = some o
  slot : ∀ b o, h.get? b = some o -> H b = none -> b ∈ fs -> b ∉ ex -> ∃ sl, h'.get? b = some { o with slots := sl }
  free : ∀ b o, h.get? b = some o -> H b = none -> b ∉ ex -> H' b = none
  there : ∀ b o, h.get? b = some o -> b ∉ ex -> ∃ o', h'.get? b = some o'
  tups : ∀ b xs, H b = some (.tup xs) -> H' b = some (.tup xs)
  frzs : ∀ b o u, H b = some (.frz o u) -> H' b = some (.frz o u)
  tbls : ∀ b ps, H b = some (.tbl ps) -> ∃ more, H' b = some (.tbl (ps ++ more))
section
variable {fs fs' ex ex' : List Addr} {H H1 H2 : Hp} {h h1 h2 h' : Heap} {a x e : Addr} {o : HO}
theorem Un.any (u : Un fs ex H H1 h h1) {b : Addr} {ob : Obj} (q : h.get? b = some ob) (n : H b = none) (hx : b ∉ ex) : ∃ sl, h1.get? b = some { ob with slots := sl } := by
  by_cases hb : b ∈ fs
  . exact u.slot b ob q n hb hx
  . exact ⟨ob.slots, u.keep b ob q n hb hx⟩
theorem Un.kept (k : ∀ b u, h.get? b = some u -> h'.get? b = some u) : Un fs ex H H h h' :=
  ⟨fun b ob q _ _ _ => k b ob q, fun b ob q _ _ _ => ⟨ob.slots, k b ob q⟩, fun _ _ _ n _ => n, fun b ob q _ => ⟨ob, k b ob q⟩, fun _ _ q => q, fun _ _ _ q => q, fun _ ps q => ⟨#[], by rw [q]; simp⟩⟩
theorem Un.refl : Un fs ex H H h h := Un.kept fun _ _ q => q
theorem Un.laid (k : ∀ b u, h.get? b = some u -> h'.get? b = some u) (hp : h.objs.size <= a) (hn : H a = none) : Un fs ex H (upd H a o) h h' where
  keep := fun b u q _ _ _ => k b u q
  slot := fun b u q _ _ _ => ⟨u.slots, k b u q⟩
  free := fun b u q n _ => by rw [upd_ne (Nat.ne_of_lt (Nat.lt_of_lt_of_le (Heap.lt_size q) hp))]; exact n
  there := fun b u q _ => ⟨u, k b u q⟩
  tups := fun b xs q => by rw [upd_ne (ne_of_none q hn)]; exact q
  frzs := fun b u xs q => by rw [upd_ne (ne_of_none q hn)]; exact q
  tbls := fun b ps q => ⟨#[], by rw [upd_ne (ne_of_none q hn), q]; simp⟩
theorem Un.write (mu : Mut (H x)) (he : e = x \/ H e = some (.own x)) (k : ∀ b u, b ≠ e -> h.get? b = some u -> h'.get? b = some u) (heo : ∃ u, h'.get? e = some u) : Un fs ex H (upd H x o) h h' := by
  have hx : ∀ b, H b = none -> b ≠ x := fun b n z => by subst z; rw [n] at mu; exact mu
  have hb : ∀ b, H b = none -> b ≠ e := fun b n z => by
    subst z
    rcases he with r | r
    . exact hx b n r
    . rw [n] at r; cases r
  have hm : ∀ b u, H b = some u -> ¬ Mut (some u) -> b ≠ x := fun b u q nm z => by subst z; rw [q] at mu; exact nm mu
  refine ⟨fun b u q n _ _ => k b u (hb b n) q, fun b u q n _ _ => ⟨u.slots, k b u (hb b n) q⟩, fun b u q n _ => by rw [upd_ne (hx b n)]; exact n, fun b u q _ => ?_,
    fun b xs q => by rw [upd_ne (hm b _ q fun z => z)]; exact q, fun b u xs q => by rw [upd_ne (hm b _ q fun z => z)]; exact q, fun b ps q => ⟨#[], by rw [upd_ne (hm b _ q fun z => z), q]; simp⟩⟩
  by_cases hbe : b = e
  . subst hbe; exact heo
  . exact ⟨u, k b u hbe q⟩
end
def trk (h : Heap) (H : Hp) : List Addr := (List.range h.objs.size).filter fun a => (H a).isSome
def hidT (h : Heap) (H : Hp) : Heap := PySem.W.hideAll h (trk h H)
theorem hidT_size (h : Heap) (H : Hp) : (hidT h H).objs.size = h.objs.size := PySem.W.hideAll_size _ _
theorem hidT_get {h : Heap} {H : Hp} {b : Addr} {o : Obj} (e : h.get? b = some o) (n : H b = none) : (hidT h H).get? b = some o :=
  PySem.W.hideAll_get _ e fun hm => by
    have q : (H b).isSome = true := (List.mem_filter.mp hm).2
    rw [n] at q; simp at q
theorem of_hidT {h : Heap} {H : Hp} {b : Addr} {o : Obj} (e : (hidT h H).get? b = some o) : h.get? b = some o /\ H b = none := by
  have e' : h.get? b = some o := PySem.W.of_hideAll (trk h H) e
  refine ⟨e', ?_⟩
  cases q : H b with
  | none => rfl
  | some x =>
    have hm : b ∈ trk h H := List.mem_filter.mpr ⟨List.mem_range.mpr (Heap.lt_size e'), by simp [q]⟩
    have z : (hidT h H).get? b = none := PySem.W.hideAll_none (trk h H) hm
    rw [z] at e; cases e
def allNews (g h : Heap) (L : Addr) : List (Addr × Obj) := (List.range h.objs.size).filterMap fun a => if a = L \/ (g.get? a).isSome = true then none else (h.get? a).map fun o => (a, o)
def rest (g h : Heap) (L d : Addr) : List (Addr × Obj) := (allNews g h L).filter fun p => decide (p.1 ≠ d)
structure Mod (K : PySem.W.Frag) (mg : Str -> Option Value) (base : Heap) : Prop where
  kin : K.In base
  glob : base.Ns mainGlobals mg
  blt : ∃ mb, base.Ns builtinsNs mb /\ ∀ x : Str, x ≠ "__name__" -> mb x = bootBuiltins x
  nolimit : base.NoLimit
structure Cx where
  prog : Program
  w : World
  K : PySem.W.Frag
  mg : Str -> Option Value
  base : Heap
  A : Around
  N : List Str
  s₀ : Shared
  H₀ : Hp
  env : Env
  outer : List Env
  stack : List Env
  ex : List Addr
  fn : Str -> Bool
  calm : Bool
  pn : List (Addr × Obj)
  xe : Value -> Shared -> Prop
def frs (l : List Env) : List Addr := l.filterMap (·.frame)
abbrev Cx.fs (X : Cx) : List Addr := frs X.outer
def Vis (sc : Scope) (x : Str) : Prop := sc.names.lookup x = some .local \/ sc.names.lookup x = some .cell \/ sc.names.lookup x = some .free
def Loc (sc : Scope) (x : Str) : Prop := sc.names.lookup x = some .local \/ sc.names.lookup x = some .cell
def Look (env : Env) (h : Heap) (m : Str -> Option Value) (x : Str) (u : Value) : Prop :=
  (env.kindOf x = some .local /\ m x = some u) \/ ((env.kindOf x = some .cell \/ env.kindOf x = some .free) /\ ∃ c, env.cells.lookup x = some c /\ h.IsCell c (some u))
structure Cx.Ok (X : Cx) : Prop where
  mod : Mod X.K X.mg X.base
  kind : X.env.scope.kind = .function
  glob : X.env.globals = mainGlobals
  blt : X.env.builtins = builtinsNs
  above : X.s₀.heap.objs.size <= X.env.locals
  inj : ∀ x y c, X.env.cells.lookup x = some c -> X.env.cells.lookup y = some c -> x = y
  has : ∀ x, (X.env.kindOf x = some .cell \/ X.env.kindOf x = some .free) -> ∃ c, X.env.cells.lookup x = some c
  cab : ∀ x c, X.fn x = true -> X.env.cells.lookup x = some c -> X.s₀.heap.objs.size <= c
  hd : X.calm = true -> X.A.handled = none
  frames : X.A.frames = some X.stack
  stk : X.stack = X.outer \/ (X.stack = X.env :: X.outer /\ X.env.frame = some X.env.locals)
  exf : ∀ b ∈ X.ex, b ≠ X.env.locals /\ ∀ x c, X.env.cells.lookup x = some c -> c ≠ b
  bs : ∀ b o, X.base.get? b = some o -> X.s₀.heap.get? b = some o /\ X.H₀ b = none
  bsz : X.base.objs.size <= X.s₀.heap.objs.size
  noex : ∀ b o, X.base.get? b = some o -> b ∉ X.ex
  exfs : ∀ b ∈ X.ex, b ∉ X.fs
  funs : X.s₀.heap.FunFrames X.base X.outer
  frf : ∀ b ∈ X.fs, X.H₀ b = none
structure Inv (X : Cx) (pins : List (Addr × Obj)) (σ : List (Option V)) (H : Hp) (s : Shared) : Prop where
  ok : X.Ok
  os : s.os = X.s₀.os
  bare : AllBare s.gens
  base : Un X.fs X.ex X.H₀ H X.s₀.heap s.heap
  loc : ∃ m, s.heap.Ns X.env.locals m /\ ∀ (i : Nat) (x : Str) (v : V), X.N[i]? = some x -> σ[i]? = some (some v) -> Vis X.env.scope x -> ∃ u, RelV v u /\ Look X.env s.heap m x u
  cell : ∀ x c, X.env.cells.lookup x = some c -> ∃ v, s.heap.IsCell c v
  free : H X.env.locals = none
  freeC : ∀ x c, X.env.cells.lookup x = some c -> H c = none
  pin : ∀ p ∈ X.pn ++ pins, s.heap.get? p.1 = some p.2 /\ H p.1 = none /\ p.1 ≠ X.env.locals /\ p.1 ∉ X.fs /\ ∀ v, p.2.data ≠ .cell v
  hok : HOk X.prog X.w H s.heap
  len : σ.length = X.N.length
section
variable {X : Cx} {pins : List (Addr × Obj)} {σ : List (Option V)} {H H' : Hp} {s : Shared} {h' : Heap}
theorem Cx.Ok.nofr (ok : X.Ok) {b : Addr} {o : Obj} (e : X.base.get? b = some o) : b ∉ X.fs := fun hb => by
  have := (ok.funs.mem hb).1
  rw [e] at this; cases this
theorem Inv.bs (I : Inv X pins σ H s) : ∀ b o, X.base.get? b = some o -> s.heap.get? b = some o /\ H b = none := fun b o e =>
  ⟨I.base.keep b o (I.ok.bs b o e).1 (I.ok.bs b o e).2 (I.ok.nofr e) (I.ok.noex b o e), I.base.free b o (I.ok.bs b o e).1 (I.ok.bs b o e).2 (I.ok.noex b o e)⟩
theorem Inv.bk (I : Inv X pins σ H s) : ∀ b o, X.base.get? b = some o -> s.heap.get? b = some o := fun b o e => (I.bs b o e).1
theorem Inv.mod (I : Inv X pins σ H s) : Mod X.K X.mg X.base := I.ok.mod
theorem Inv.kIn (I : Inv X pins σ H s) : X.K.In s.heap := I.ok.mod.kin.keeps I.bk
theorem Inv.lt (I : Inv X pins σ H s) : X.env.locals < s.heap.objs.size := let ⟨_, hn, _⟩ := I.loc; hn.lt
theorem Inv.sz (I : Inv X pins σ H s) : X.s₀.heap.objs.size <= s.heap.objs.size := Nat.le_trans I.ok.above (Nat.le_of_lt I.lt)
theorem Inv.nofs (I : Inv X pins σ H s) {a : Addr} (h : s.heap.objs.size <= a) : a ∉ X.fs := fun hb => by
  obtain ⟨_, o, ho, _⟩ := I.ok.funs.mem hb
  exact absurd (Nat.lt_of_lt_of_le (Heap.lt_size ho) (Nat.le_trans I.sz h)) (Nat.lt_irrefl _)
theorem Inv.cne (I : Inv X pins σ H s) : ∀ x c, X.env.cells.lookup x = some c -> c ≠ X.env.locals := fun x c e z => by
  obtain ⟨v, o, ho, hd⟩ := I.cell x c e
  obtain ⟨m, ⟨o', es, ep, ho', hd', _⟩, _⟩ := I.loc
  rw [z, ho'] at ho; cases ho; rw [hd'] at hd; cases hd
theorem Inv.funs (I : Inv X pins σ H s) : s.heap.FunFrames X.base X.outer := by
  have all : ∀ (l : List Env), (∀ b ∈ frs l, b ∈ X.fs) -> X.s₀.heap.FunFrames X.base l -> s.heap.FunFrames X.base l := by
    intro l
    induction l with
    | nil => intro _ _; trivial
    | cons env r ih =>
      intro hs hl
      obtain ⟨hk, ⟨L, o, hf, hn, ho, hd⟩, hr⟩ := hl
      have hL : L ∈ X.fs := hs L (by unfold frs; rw [List.filterMap_cons, hf]; exact List.mem_cons_self)
      obtain ⟨sl, e⟩ := I.base.slot L o ho (I.ok.frf L hL) hL fun z => I.ok.exfs L z hL
      exact ⟨hk, ⟨L, _, hf, hn, e, hd⟩, ih (fun b hb => hs b (by unfold frs; rw [List.filterMap_cons, hf]; exact List.mem_cons_of_mem _ hb)) hr⟩
  exact all X.outer (fun _ hb => hb) I.ok.funs
theorem Inv.stack (I : Inv X pins σ H s) : s.heap.FunFrames X.base X.stack := by
  rcases I.ok.stk with e | ⟨e, hf⟩
  . rw [e]; exact I.funs
  . rw [e]
    obtain ⟨m, hn, _⟩ := I.loc
    refine .cons (by rw [I.ok.kind]; decide) hf hn ?_ I.funs
    exact Heap.get?_none_of_le (Nat.le_trans I.ok.bsz I.ok.above)
theorem Inv.stkSub (I : Inv X pins σ H s) : ∀ b ∈ frs X.stack, b ∈ X.env.locals :: X.fs := fun b hb => by
  rcases I.ok.stk with e | ⟨e, hf⟩
  . rw [e] at hb; exact List.mem_cons_of_mem _ hb
  . rw [e] at hb
    unfold frs at hb
    rw [List.filterMap_cons, hf] at hb
    exact hb
theorem Inv.stkFree (I : Inv X pins σ H s) : ∀ b ∈ frs X.stack, H b = none := fun b hb => by
  rcases List.mem_cons.mp (I.stkSub b hb) with e | hb
  . rw [e]; exact I.free
  . obtain ⟨_, o, ho, _⟩ := I.ok.funs.mem hb
    exact I.base.free b o ho (I.ok.frf b hb) fun z => I.ok.exfs b z hb
theorem Inv.step {g' : Array GenState} {t' : Nat} {d' : Drawn} {ch : List Addr} (I : Inv X pins σ H s)
    (hch : ∀ b ∈ ch, (b ∈ X.ex \/ X.s₀.heap.objs.size <= b) /\ b ≠ X.env.locals /\ (∀ x c, X.env.cells.lookup x = some c -> c ≠ b) /\ ∀ p ∈ X.pn ++ pins, p.1 ≠ b)
    (keep : ∀ b o, b ≠ X.env.locals -> b ∉ X.fs -> b ∉ ch -> s.heap.get? b = some o -> H b = none -> h'.get? b = some o)
    (slot : ∀ b o, b ≠ X.env.locals -> b ∈ X.fs -> b ∉ ch -> s.heap.get? b = some o -> H b = none -> ∃ sl, h'.get? b = some { o with slots := sl }) (free : ∀ b o, b ∉ ch -> s.heap.get? b = some o -> H b = none -> H' b = none)
    (there : ∀ b o, b ∉ ch -> s.heap.get? b = some o -> ∃ o', h'.get? b = some o')
    (tups : ∀ b xs, H b = some (.tup xs) -> H' b = some (.tup xs)) (frzs : ∀ b o u, H b = some (.frz o u) -> H' b = some (.frz o u)) (tbls : ∀ b ps, H b = some (.tbl ps) -> ∃ more, H' b = some (.tbl (ps ++ more)))
    (ns : ∀ m, s.heap.Ns X.env.locals m -> h'.Ns X.env.locals m) (hok : HOk X.prog X.w H' h') (hg : AllBare g') :
    Inv X pins σ H' { s with heap := h', gens := g', drawn := d', toks := t' } := by
  have neL : ∀ b o, X.s₀.heap.get? b = some o -> b ≠ X.env.locals := fun b o e => Nat.ne_of_lt (Nat.lt_of_lt_of_le (Heap.lt_size e) I.ok.above)
  have neC : ∀ b o, X.s₀.heap.get? b = some o -> b ∉ X.ex -> b ∉ ch := fun b o e hx hb => by
    rcases (hch b hb).1 with z | z
    . exact hx z
    . exact absurd (Nat.lt_of_lt_of_le (Heap.lt_size e) z) (Nat.lt_irrefl _)
  have cellK : ∀ x c, X.env.cells.lookup x = some c -> ∀ v, s.heap.IsCell c v -> h'.IsCell c v := fun x c e v ⟨o, ho, hd⟩ => by
    have nch : c ∉ ch := fun z => (hch c z).2.2.1 x c e rfl
    by_cases hc : c ∈ X.fs
    . obtain ⟨sl, q⟩ := slot c o (I.cne x c e) hc nch ho (I.freeC x c e)
      exact ⟨_, q, hd⟩
    . exact ⟨o, keep c o (I.cne x c e) hc nch ho (I.freeC x c e), hd⟩
  refine ⟨I.ok, I.os, hg, ⟨fun b o e n hb hx => ?_, fun b o e n hb hx => ?_, fun b o e n hx => ?_, fun b o e hx => ?_, fun b xs e => tups b xs (I.base.tups b xs e), fun b o xs e => frzs b o xs (I.base.frzs b o xs e), fun b ps e => ?_⟩, ?_, fun x c e => ?_, ?_, fun x c e => ?_, fun p hp => ?_, hok, I.len⟩
  . exact keep b o (neL b o e) hb (neC b o e hx) (I.base.keep b o e n hb hx) (I.base.free b o e n hx)
  . obtain ⟨sl, e1⟩ := I.base.slot b o e n hb hx
    obtain ⟨sl', e2⟩ := slot b _ (neL b o e) hb (neC b o e hx) e1 (I.base.free b o e n hx)
    exact ⟨sl', e2⟩
  . obtain ⟨o', e1⟩ := I.base.there b o e hx
    exact free b o' (neC b o e hx) e1 (I.base.free b o e n hx)
  . obtain ⟨o', e1⟩ := I.base.there b o e hx
    exact there b o' (neC b o e hx) e1
  . obtain ⟨m1, e1⟩ := I.base.tbls b ps e
    obtain ⟨m2, e2⟩ := tbls b _ e1
    exact ⟨m1 ++ m2, by rw [e2, Array.append_assoc]⟩
  . obtain ⟨m, hn, hl⟩ := I.loc
    refine ⟨m, ns m hn, fun i x v e1 e2 e3 => ?_⟩
    obtain ⟨u, r, l⟩ := hl i x v e1 e2 e3
    refine ⟨u, r, ?_⟩
    rcases l with l | ⟨k, c, e, z⟩
    . exact .inl l
    . exact .inr ⟨k, c, e, cellK x c e _ z⟩
  . obtain ⟨v, z⟩ := I.cell x c e
    exact ⟨v, cellK x c e v z⟩
  . obtain ⟨m, ⟨o, _, _, ho, _⟩, _⟩ := I.loc
    exact free _ o (fun z => (hch _ z).2.1 rfl) ho I.free
  . obtain ⟨v, o, ho, hd⟩ := I.cell x c e
    exact free c o (fun z => (hch c z).2.2.1 x c e rfl) ho (I.freeC x c e)
  . obtain ⟨e, n, ne, nf, d⟩ := I.pin p hp
    have nch : p.1 ∉ ch := fun z => (hch p.1 z).2.2.2 p hp rfl
    exact ⟨keep p.1 p.2 ne nf nch e n, free p.1 p.2 nch e n, ne, nf, d⟩
theorem Inv.un {t' : Nat} (I : Inv X pins σ H s) (u : Un X.fs [] H H' s.heap h') (hok : HOk X.prog X.w H' h') : Inv X pins σ H' { s with heap := h', toks := t' } := by
  obtain ⟨m, ⟨o, es, ep, ho, r⟩, _⟩ := id I.loc
  obtain ⟨sl, hL⟩ := u.any ho I.free (by simp)
  exact I.step (g' := s.gens) (d' := s.drawn) (ch := []) (fun _ z => nomatch z) (fun b o _ hb _ e n => u.keep b o e n hb (by simp)) (fun b o _ hb _ e n => u.slot b o e n hb (by simp)) (fun b o _ e n => u.free b o e n (by simp)) (fun b o _ e => u.there b o e (by simp)) u.tups u.frzs u.tbls (fun m' hm => by
    obtain ⟨o', es', ep', ho', r'⟩ := hm
    rw [ho] at ho'; cases ho'
    exact ⟨_, es', ep', hL, r'⟩) hok I.bare
theorem Inv.call {g' : Array GenState} {t' : Nat} {d' : Drawn} {ch : List Addr} (I : Inv X pins σ H s) (u : Un (frs X.stack) ch H H' s.heap h') (hok : HOk X.prog X.w H' h') (hg : AllBare g')
    (hch : ∀ b ∈ ch, (b ∈ X.ex \/ X.s₀.heap.objs.size <= b) /\ b ≠ X.env.locals /\ (∀ x c, X.env.cells.lookup x = some c -> c ≠ b) /\ ∀ p ∈ X.pn ++ pins, p.1 ≠ b) :
    Inv X pins σ H' { s with heap := h', gens := g', drawn := d', toks := t' } := by
  obtain ⟨m, ⟨o, es, ep, ho, r⟩, _⟩ := id I.loc
  obtain ⟨sl, hL⟩ := u.any ho I.free fun z => (hch _ z).2.1 rfl
  exact I.step (ch := ch) hch (fun b o hL hb hc e n => u.keep b o e n (fun z => (List.mem_cons.mp (I.stkSub b z)).elim hL hb) hc) (fun b o _ _ hc e n => u.any e n hc) (fun b o hc e n => u.free b o e n hc) (fun b o hc e => u.there b o e hc) u.tups u.frzs u.tbls (fun m' hm => by
    obtain ⟨o', es', ep', ho', r'⟩ := hm
    rw [ho] at ho'; cases ho'
    exact ⟨_, es', ep', hL, r'⟩) hok hg
theorem Inv.turned {t' : Nat} {it : Addr} (I : Inv X pins σ H s) (k : ∀ b o, b ≠ it -> s.heap.get? b = some o -> h'.get? b = some o) (hn : H it = none) (hL : it ≠ X.env.locals)
    (h1 : it ∈ X.ex \/ X.s₀.heap.objs.size <= it) (h2 : ∀ x c, X.env.cells.lookup x = some c -> c ≠ it) (h3 : ∀ p ∈ X.pn ++ pins, p.1 ≠ it) : Inv X pins σ H { s with heap := h', toks := t' } := by
  have nit : ∀ b u, H b = some u -> b ≠ it := fun b u e z => by rw [z, hn] at e; cases e
  refine I.step (g' := s.gens) (d' := s.drawn) (ch := [it]) (fun b hb => ?_) (fun b o _ _ hc e _ => k b o (fun z => hc (by simp [z])) e) (fun b o _ _ hc e _ => ⟨o.slots, k b o (fun z => hc (by simp [z])) e⟩) (fun _ _ _ _ n => n)
    (fun b o hc e => ⟨o, k b o (fun z => hc (by simp [z])) e⟩) (fun _ _ e => e) (fun _ _ _ e => e) (fun b ps e => ⟨#[], by rw [e]; simp⟩) (fun m hm => ?_) (fun b u e => ?_) I.bare
  . have e : b = it := by simpa using hb
    subst e
    exact ⟨h1, hL, h2, h3⟩
  . obtain ⟨o, es, ep, ho, r⟩ := hm
    exact ⟨o, es, ep, k _ o (Ne.symm hL) ho, r⟩
  . refine (I.hok b u e).stay (fun c v hc q => k c v ?_ q) (fun _ q => q) fun _ _ q => q
    rcases hc with z | z
    . rw [z]; exact nit b u e
    . exact nit c _ z
theorem Inv.tok (I : Inv X pins σ H s) (t : Nat) : Inv X pins σ H { s with toks := t } := I.un (h' := s.heap) (t' := t) Un.refl I.hok
theorem Inv.kept {t' : Nat} (I : Inv X pins σ H s) (k : ∀ b u, s.heap.get? b = some u -> h'.get? b = some u) : Inv X pins σ H { s with heap := h', toks := t' } := I.un (Un.kept k) (I.hok.kept k)
theorem Inv.laid {a : Addr} {o : HO} {t' : Nat} (I : Inv X pins σ H s) (k : ∀ b u, s.heap.get? b = some u -> h'.get? b = some u) (hp : s.heap.objs.size <= a) (new : ObjOk X.prog X.w (upd H a o) h' a o) :
    Inv X pins σ (upd H a o) { s with heap := h', toks := t' } := I.un (Un.laid k hp (I.hok.fresh hp)) (I.hok.laid k hp new)
theorem Inv.write {x e : Addr} {o : HO} {t' : Nat} (I : Inv X pins σ H s) (mu : Mut (H x)) (he : e = x \/ H e = some (.own x)) (k : ∀ b u, b ≠ e -> s.heap.get? b = some u -> h'.get? b = some u) (heo : ∃ u, h'.get? e = some u)
    (new : ObjOk X.prog X.w (upd H x o) h' x o) : Inv X pins σ (upd H x o) { s with heap := h', toks := t' } := I.un (Un.write mu he k heo) (I.hok.write mu he k heo new)
theorem Inv.weak {σ' : List (Option V)} (I : Inv X pins σ H s) (hl : σ'.length = σ.length) (w : ∀ (i : Nat) v, σ'[i]? = some (some v) -> σ[i]? = some (some v)) : Inv X pins σ' H s :=
  ⟨I.ok, I.os, I.bare, I.base, let ⟨m, hn, hl'⟩ := I.loc; ⟨m, hn, fun i x v e1 e2 e3 => hl' i x v e1 (w i v e2) e3⟩, I.cell, I.free, I.freeC, I.pin, I.hok, hl.trans I.len⟩
theorem Inv.pins_of {pins' : List (Addr × Obj)} (I : Inv X pins σ H s) (h : ∀ p ∈ pins', s.heap.get? p.1 = some p.2 /\ H p.1 = none /\ p.1 ≠ X.env.locals /\ p.1 ∉ X.fs /\ ∀ v, p.2.data ≠ .cell v) : Inv X pins' σ H s :=
  ⟨I.ok, I.os, I.bare, I.base, I.loc, I.cell, I.free, I.freeC, fun p hp => (List.mem_append.mp hp).elim (fun z => I.pin p (List.mem_append_left _ z)) (h p), I.hok, I.len⟩
theorem nodup_ix {N : List Str} (hN : N.Nodup) {i j : Nat} {x : Str} (a : N[i]? = some x) (b : N[j]? = some x) : i = j := by
  obtain ⟨h1, e1⟩ := List.getElem?_eq_some_iff.mp a
  obtain ⟨h2, e2⟩ := List.getElem?_eq_some_iff.mp b
  exact (List.getElem_inj hN).mp (e1.trans e2.symm)
theorem store_ok2 {M : Model} {A : Around} {E : Value -> Shared -> Prop} {i : Nat} {x : Str} {v : V} {u : Value} {Q : Unit -> Shared -> Prop} (I : Inv X pins σ H s) (hN : X.N.Nodup) (hi : X.N[i]? = some x) (hx : Loc X.env.scope x) (r : RelV v u)
    (h : ∀ s', Inv X pins (σ.set i (some v)) H s' -> (∃ a, Heap.SameBut a s.heap s'.heap /\ (a = X.env.locals \/ X.env.cells.lookup x = some a)) -> Q () s') (hf : X.fn x = true \/ X.env.scope.names.lookup x = some .local := by first | exact .inl rfl | exact .inr rfl | assumption) : wpAny M A (storeName X.env x u) Q E s := by
  obtain ⟨m, hn, hl⟩ := id I.loc
  have hcls : (X.env.scope.kind == .class || (X.env.scope.kind == .module && X.env.locals != X.env.globals)) = false := by rw [I.ok.kind]; rfl
  have hiσ : i < σ.length := by rw [I.len]; exact (List.getElem?_eq_some_iff.mp hi).1
  have cne := I.cne
  have tracked : ∀ {a : Addr} {h' : Heap}, (∃ o, s.heap.get? a = some o /\ H a = none) -> Heap.SameBut a s.heap h' -> HOk X.prog X.w H h' := fun {a h'} ha hs b ob e => by
    obtain ⟨_, _, hfree⟩ := ha
    refine (I.hok b ob e).stay (fun c w' hc q => (hs.2 c ?_).trans q) (fun _ q => q) fun _ _ q => q
    rintro rfl
    rcases hc with rfl | hc
    . rw [hfree] at e; cases e
    . rw [hfree] at hc; cases hc
  rcases hx with hk | hk
  . refine wpAny_storeName_local hk hn (fun h' hn' hs => ?_) hcls
    obtain ⟨oL, _, _, hoL, _⟩ := id hn
    refine h _ ⟨I.ok, I.os, I.bare, ⟨fun b o e n hb hx => ?_, fun b o e n hb hx => ?_, I.base.free, fun b o e hx => ?_, I.base.tups, I.base.frzs, I.base.tbls⟩, ⟨_, hn', fun j y v' e1 e2 e3 => ?_⟩, fun y c e => ?_, I.free, I.freeC, fun p hp => ?_, tracked ⟨oL, hoL, I.free⟩ hs, by simpa using I.len⟩ ⟨_, hs, .inl rfl⟩
    . exact (hs.2 b (Nat.ne_of_lt (Nat.lt_of_lt_of_le (Heap.lt_size e) I.ok.above))).trans (I.base.keep b o e n hb hx)
    . obtain ⟨sl, e1⟩ := I.base.slot b o e n hb hx
      exact ⟨sl, (hs.2 b (Nat.ne_of_lt (Nat.lt_of_lt_of_le (Heap.lt_size e) I.ok.above))).trans e1⟩
    . obtain ⟨o', e1⟩ := I.base.there b o e hx
      exact ⟨o', (hs.2 b (Nat.ne_of_lt (Nat.lt_of_lt_of_le (Heap.lt_size e) I.ok.above))).trans e1⟩
    . by_cases hj : j = i
      . subst hj
        rw [hi] at e1; cases e1
        rw [List.getElem?_set_self hiσ] at e2
        cases e2
        exact ⟨u, r, .inl ⟨hk, by simp⟩⟩
      . rw [List.getElem?_set_ne (Ne.symm hj)] at e2
        obtain ⟨u', r', q⟩ := hl j y v' e1 e2 e3
        refine ⟨u', r', ?_⟩
        rcases q with ⟨k, e⟩ | ⟨k, c, e, z⟩
        . refine .inl ⟨k, ?_⟩
          have : y ≠ x := fun e => hj (nodup_ix hN e1 (e ▸ hi))
          simp [this, e]
        . exact .inr ⟨k, c, e, z.sameBut hs (cne y c e)⟩
    . obtain ⟨w', z⟩ := I.cell y c e
      exact ⟨w', z.sameBut hs (cne y c e)⟩
    . obtain ⟨e, n, ne, nf, d⟩ := I.pin p hp
      exact ⟨(hs.2 p.1 ne).trans e, n, ne, nf, d⟩
  . have hfn : X.fn x = true := by
      rcases hf with z | z
      . exact z
      . rw [z] at hk; cases hk
    obtain ⟨c, hc⟩ := I.ok.has x (.inl hk)
    obtain ⟨w', z⟩ := I.cell x c hc
    refine wpAny_storeName_cell I.ok.kind hk hc z (fun h' hc' hs => ?_)
    obtain ⟨oc, hoc, hocd⟩ := id z
    refine h { s with heap := h' } ⟨I.ok, I.os, I.bare, ⟨fun b o e n hb hx => ?_, fun b o e n hb hx => ?_, I.base.free, fun b o e hx => ?_, I.base.tups, I.base.frzs, I.base.tbls⟩, ⟨m, hn.sameBut hs (Ne.symm (cne x c hc)), fun j y v' e1 e2 e3 => ?_⟩, fun y c' e => ?_, I.free, I.freeC, fun p hp => ?_, tracked ⟨oc, hoc, I.freeC x c hc⟩ hs, by simpa using I.len⟩ ⟨c, hs, .inr hc⟩
    . exact (hs.2 b (Nat.ne_of_lt (Nat.lt_of_lt_of_le (Heap.lt_size e) (I.ok.cab x c hfn hc)))).trans (I.base.keep b o e n hb hx)
    . obtain ⟨sl, e1⟩ := I.base.slot b o e n hb hx
      exact ⟨sl, (hs.2 b (Nat.ne_of_lt (Nat.lt_of_lt_of_le (Heap.lt_size e) (I.ok.cab x c hfn hc)))).trans e1⟩
    . obtain ⟨o', e1⟩ := I.base.there b o e hx
      exact ⟨o', (hs.2 b (Nat.ne_of_lt (Nat.lt_of_lt_of_le (Heap.lt_size e) (I.ok.cab x c hfn hc)))).trans e1⟩
    . by_cases hj : j = i
      . subst hj
        rw [hi] at e1; cases e1
        rw [List.getElem?_set_self hiσ] at e2
        cases e2
        exact ⟨u, r, .inr ⟨.inl hk, c, hc, hc'⟩⟩
      . rw [List.getElem?_set_ne (Ne.symm hj)] at e2
        obtain ⟨u', r', q⟩ := hl j y v' e1 e2 e3
        refine ⟨u', r', ?_⟩
        rcases q with q | ⟨k, c', e, z'⟩
        . exact .inl q
        . refine .inr ⟨k, c', e, z'.sameBut hs ?_⟩
          rintro rfl
          exact hj (nodup_ix hN e1 (I.ok.inj _ _ _ e hc ▸ hi))
    . by_cases hcc : c' = c
      . subst hcc; exact ⟨_, hc'⟩
      . obtain ⟨w2, z2⟩ := I.cell y c' e
        exact ⟨w2, z2.sameBut hs hcc⟩
    . obtain ⟨e, n, ne, nf, d⟩ := I.pin p hp
      refine ⟨(hs.2 p.1 ?_).trans e, n, ne, nf, d⟩
      intro q
      rw [q, hoc] at e
      have q' : oc = p.2 := Option.some.inj e
      exact d w' (by rw [<- q']; exact hocd)
theorem store_ok {M : Model} {A : Around} {E : Value -> Shared -> Prop} {i : Nat} {x : Str} {v : V} {u : Value} {Q : Unit -> Shared -> Prop} (I : Inv X pins σ H s) (hN : X.N.Nodup) (hi : X.N[i]? = some x) (hx : Loc X.env.scope x) (r : RelV v u)
    (h : ∀ s', Inv X pins (σ.set i (some v)) H s' -> Q () s') (hf : X.fn x = true \/ X.env.scope.names.lookup x = some .local := by first | exact .inl rfl | exact .inr rfl | assumption) : wpAny M A (storeName X.env x u) Q E s :=
  store_ok2 I hN hi hx r (fun s' I' _ => h s' I') hf
theorem Inv.call' {s' : Shared} {ch : List Addr} (I : Inv X pins σ H s) (ho : s'.os = s.os) (u : Un (frs X.stack) ch H H' s.heap s'.heap) (hok : HOk X.prog X.w H' s'.heap) (hg : AllBare s'.gens)
    (hch : ∀ b ∈ ch, (b ∈ X.ex \/ X.s₀.heap.objs.size <= b) /\ b ≠ X.env.locals /\ (∀ x c, X.env.cells.lookup x = some c -> c ≠ b) /\ ∀ p ∈ X.pn ++ pins, p.1 ≠ b) : Inv X pins σ H' s' := by
  obtain ⟨h', g', d', t', o'⟩ := s'
  have e : o' = s.os := ho
  subst e
  exact I.call (g' := g') (t' := t') (d' := d') u hok hg hch
end
abbrev XK := Value -> Option Addr -> Hp -> Prop
abbrev St := List (Option V)
abbrev VK := V -> Hp -> Prop
abbrev TE := St -> Hp -> VK -> Prop
abbrev TT := St -> Hp -> (Bool -> Hp -> Prop) -> Prop
abbrev TA := St -> Hp -> (List V -> Hp -> Prop) -> Prop
structure Ends where
  nx : St -> Hp -> Prop
  rt : VK
  bk : St -> Hp -> Prop := fun _ _ => False
  ct : St -> Hp -> Prop := fun _ _ => False
abbrev TS := Ends -> St -> Hp -> Prop
def EP (X : Cx) (pins : List (Addr × Obj)) (σ : St) (Q : VK) (u : Value) (s' : Shared) : Prop := ∃ v H', Inv X pins σ H' s' /\ RelV v u /\ Q v H'
def TP (X : Cx) (pins : List (Addr × Obj)) (σ : St) (Q : Bool -> Hp -> Prop) (b : Bool) (s' : Shared) : Prop := ∃ H', Inv X pins σ H' s' /\ Q b H'
def AP (X : Cx) (pins : List (Addr × Obj)) (σ : St) (Q : List V -> Hp -> Prop) (us : List Value) (s' : Shared) : Prop := ∃ vs H', Inv X pins σ H' s' /\ Vals vs us /\ Q vs H'
def SP (X : Cx) (pins : List (Addr × Obj)) (D : Ends) (f : Flow) (s' : Shared) : Prop :=
  match f with
  | .next => ∃ σ' H', Inv X pins σ' H' s' /\ D.nx σ' H'
  | .brk => ∃ σ' H', Inv X pins σ' H' s' /\ D.bk σ' H'
  | .cont => ∃ σ' H', Inv X pins σ' H' s' /\ D.ct σ' H'
  | .ret u => ∃ v σ' H', Inv X pins σ' H' s' /\ RelV v u /\ D.rt v H'
def PE (X : Cx) (e : Expr) (t : TE) : Prop :=
  ∀ (pins : List (Addr × Obj)) (s : Shared) (σ : St) (H : Hp) (Q : VK), Inv X pins σ H s -> t σ H Q -> wpAny (model X.prog X.w) X.A (eval e X.env) (EP X pins σ Q) X.xe s
def PT (X : Cx) (e : Expr) (t : TT) : Prop :=
  ∀ (pins : List (Addr × Obj)) (s : Shared) (σ : St) (H : Hp) (Q : Bool -> Hp -> Prop), Inv X pins σ H s -> t σ H Q -> wpAny (model X.prog X.w) X.A (isTrue e X.env (eval e X.env)) (TP X pins σ Q) X.xe s
def PW (X : Cx) (e : Expr) (t : TT) : Prop :=
  ∀ (whole : Sem Value) (pins : List (Addr × Obj)) (s : Shared) (σ : St) (H : Hp) (Q : Bool -> Hp -> Prop), Inv X pins σ H s -> t σ H Q -> wpAny (model X.prog X.w) X.A (isTrue e X.env whole) (TP X pins σ Q) X.xe s
theorem PW.pt {X : Cx} {e : Expr} {t : TT} (h : PW X e t) : PT X e t := h _
def PA (X : Cx) (es : List Expr) (t : TA) : Prop :=
  ∀ (pos : Pos) (pins : List (Addr × Obj)) (s : Shared) (σ : St) (H : Hp) (Q : List V -> Hp -> Prop), Inv X pins σ H s -> t σ H Q -> wpAny (model X.prog X.w) X.A (spliced (backTo pos (starEach es X.env))) (AP X pins σ Q) X.xe s
def PS (X : Cx) (st : Stmt) (t : TS) : Prop :=
  ∀ (pins : List (Addr × Obj)) (s : Shared) (σ : St) (H : Hp) (D : Ends), Inv X pins σ H s -> t D σ H -> wpAny (model X.prog X.w) X.A (exec st X.env) (SP X pins D) X.xe s
def PSs (X : Cx) (st : List Stmt) (t : TS) : Prop :=
  ∀ (pins : List (Addr × Obj)) (s : Shared) (σ : St) (H : Hp) (D : Ends), Inv X pins σ H s -> t D σ H -> wpAny (model X.prog X.w) X.A (execs st X.env) (SP X pins D) X.xe s
theorem thn {α : Type} {t : Sem α} {Q Q' : α -> Shared -> Prop} {M : Model} {A : Around} {E : Value -> Shared -> Prop} {s : Shared} (h : wpAny M A t Q E s) (hQ : ∀ a s, Q a s -> Q' a s) : wpAny M A t Q' E s := wpAny_mono h hQ fun _ _ x => x
section
variable {X : Cx}
def tVar (i : Nat) : TE := fun σ H Q => ∃ v, σ[i]? = some (some v) /\ Q v H
def tC (v : V) : TE := fun _ H Q => Q v H
theorem pe_var {i : Nat} {x : Str} {pos : Pos} (hN : X.N[i]? = some x) (hv : Vis X.env.scope x) (hd : (x == ("__debug__" : Str)) = false := by decide) (hcd : (x == ("__classdict__" : Str)) = false := by decide) : PE X (.Name x pos) (tVar i) := by
  intro pins s σ H Q I h
  obtain ⟨v, e, h⟩ := h
  obtain ⟨m, hn, hl⟩ := I.loc
  obtain ⟨u, r, l⟩ := hl i x v hN e hv
  have fin : EP X pins σ Q u s := ⟨v, H, I, r, h⟩
  rcases l with ⟨hk, hm⟩ | ⟨hk, c, hc, hcell⟩
  . exact wpAny_Name (wpAny_loadName_local I.ok.kind hk hn hm fin) hd
  . rcases hk with hk | hk
    . exact wpAny_Name (wpAny_loadName_cell I.ok.kind hk hc hcell fin) hd
    . exact wpAny_Name (wpAny_loadName_free I.ok.kind hk hc hcell fin hcd) hd
theorem pe_int {i j pos} : PE X (.Constant (.int i) j pos) (tC (.int i)) := fun _ _ _ H _ I h => wpAny_Constant_int ⟨.int i, H, I.tok _, ⟨_, rfl⟩, h⟩
theorem pe_bl {b j pos} : PE X (.Constant (.bool b) j pos) (tC (.bl b)) := fun _ _ _ H _ I h => Constant_bool ⟨.bl b, H, I, rfl, h⟩
theorem pe_non {j pos} : PE X (.Constant .none j pos) (tC .non) := fun _ _ _ H _ I h => Constant_none ⟨.non, H, I, rfl, h⟩
theorem pe_str {x j pos} : PE X (.Constant (.str x) j pos) (tC (.str x)) := fun _ _ _ H _ I h => Calls.Constant_str ⟨.str x, H, I.tok _, ⟨_, rfl⟩, h⟩
def Gl (X : Cx) (x : Str) : Prop := X.env.kindOf x = some .globalImplicit
theorem ld_glob {E : Value -> Shared -> Prop} {pins : List (Addr × Obj)} {s : Shared} {σ : St} {H : Hp} {x : Str} {u : Value} {pos : Pos} {Q : Value -> Shared -> Prop} (I : Inv X pins σ H s) (hg : Gl X x) (hm : X.mg x = some u) (h : Q u s)
    (hd : (x == ("__debug__" : Str)) = false := by decide) : wpAny (model X.prog X.w) X.A (eval (.Name x pos) X.env) Q E s :=
  Calls.Name_function_global I.ok.kind hg (Calls.loadGlobal_global (by rw [I.ok.glob]; exact I.mod.glob.keeps I.bk) hm h) hd
theorem ld_blt {E : Value -> Shared -> Prop} {pins : List (Addr × Obj)} {s : Shared} {σ : St} {H : Hp} {x : Str} {u : Value} {pos : Pos} {Q : Value -> Shared -> Prop} (I : Inv X pins σ H s) (hg : Gl X x) (hm : X.mg x = none) (hv : bootBuiltins x = some u) (h : Q u s)
    (hn : x ≠ "__name__" := by decide) (hd : (x == ("__debug__" : Str)) = false := by decide) : wpAny (model X.prog X.w) X.A (eval (.Name x pos) X.env) Q E s := by
  obtain ⟨mb, h1, h2⟩ := I.mod.blt
  exact Calls.Name_function_global I.ok.kind hg (Calls.loadGlobal_builtin (by rw [I.ok.glob]; exact I.mod.glob.keeps I.bk) hm (by rw [I.ok.blt]; exact h1.keeps I.bk) ((h2 x hn).trans hv) h) hd
theorem pe_glob {x : Str} {v : V} {u : Value} {pos : Pos} (hg : Gl X x) (hm : X.mg x = some u) (r : RelV v u) (hd : (x == ("__debug__" : Str)) = false := by decide) : PE X (.Name x pos) (tC v) :=
  fun _ _ _ H _ I h => ld_glob I hg hm ⟨v, H, I, r, h⟩ hd
theorem pe_bltn {x : Str} {v : V} {u : Value} {pos : Pos} (hg : Gl X x) (hm : X.mg x = none) (hv : bootBuiltins x = some u) (r : RelV v u) (hn : x ≠ "__name__" := by decide) (hd : (x == ("__debug__" : Str)) = false := by decide) : PE X (.Name x pos) (tC v) :=
  fun _ _ _ H _ I h => ld_blt I hg hm hv ⟨v, H, I, r, h⟩ hn hd
variable {a b : Expr} {ta tb : TE} {pos : Pos}
theorem nobehind (b : Expr) {op : CmpOp} (h : op ≠ .In) (h2 : op ≠ .NotIn) : behindInMarks op b = false := by
  have e1 : (op == CmpOp.In) = false := by cases op <;> first | rfl | exact absurd rfl h
  have e2 : (op == CmpOp.NotIn) = false := by cases op <;> first | rfl | exact absurd rfl h2
  cases b <;> simp [behindInMarks, e1, e2]
variable {tA tB' : TT} {rest : List Expr}
def tAnd (t u : TT) : TT := fun σ H Q => t σ H fun c H1 => if c = true then u σ H1 Q else Q false H1
def tOr (t u : TT) : TT := fun σ H Q => t σ H fun c H1 => if c = true then Q true H1 else u σ H1 Q
def tNot (t : TT) : TT := fun σ H Q => t σ H fun c H1 => Q (!c) H1
theorem pw_and1 (ha : PT X a tA) : PW X (.BoolOp .And [a] pos) tA := by
  intro wh pins s σ H Q I h
  refine isTrue_and (thn (ha pins s σ H Q I h) fun c s1 e => ?_)
  cases c with
  | true => exact isTrue_and_nil e
  | false => exact e
theorem pw_or1 (ha : PT X a tA) : PW X (.BoolOp .Or [a] pos) tA := by
  intro wh pins s σ H Q I h
  refine isTrue_or (thn (ha pins s σ H Q I h) fun c s1 e => ?_)
  cases c with
  | false => exact isTrue_or_nil e
  | true => exact e
theorem pw_and (ha : PT X a tA) (hb : PW X (.BoolOp .And (b :: rest) pos) tB') : PW X (.BoolOp .And (a :: b :: rest) pos) (tAnd tA tB') := by
  intro wh pins s σ H Q I h
  refine isTrue_and (thn (ha pins s σ H _ I h) fun c s1 ⟨H1, I1, q1⟩ => ?_)
  cases c with
  | true => exact hb wh pins s1 σ H1 Q I1 q1
  | false => exact ⟨H1, I1, q1⟩
theorem pw_or (ha : PT X a tA) (hb : PW X (.BoolOp .Or (b :: rest) pos) tB') : PW X (.BoolOp .Or (a :: b :: rest) pos) (tOr tA tB') := by
  intro wh pins s σ H Q I h
  refine isTrue_or (thn (ha pins s σ H _ I h) fun c s1 ⟨H1, I1, q1⟩ => ?_)
  cases c with
  | true => exact ⟨H1, I1, q1⟩
  | false => exact hb wh pins s1 σ H1 Q I1 q1
theorem pt_not (ha : PT X a tA) : PT X (.UnaryOp .Not a pos) (tNot tA) := by
  intro pins s σ H Q I h
  exact isTrue_not (ha pins s σ H (fun c H1 => Q (!c) H1) I h)
def tAndV (ta tb : TE) : TE := fun σ H Q => ta σ H fun x H1 => ∃ c, x = .bl c /\ if c = true then tb σ H1 Q else Q (.bl false) H1
def tNotV (ta : TE) : TE := fun σ H Q => ta σ H fun x H1 => ∃ c, x = .bl c /\ Q (.bl (!c)) H1
theorem pe_one {op} {t : TE} (h : PE X a t) : PE X (.BoolOp op [a] pos) t := fun pins s σ H Q I hw => BoolOp_one (h pins s σ H Q I hw)
theorem pe_and (ha : PE X a ta) (hb : PE X (.BoolOp .And (b :: rest) pos) tb) : PE X (.BoolOp .And (a :: b :: rest) pos) (tAndV ta tb) := by
  intro pins s σ H Q I h
  refine BoolOp_and (thn (ha pins s σ H _ I h) fun v s1 ⟨x, H1, I1, r1, q1⟩ => ?_)
  obtain ⟨c, rfl, q1⟩ := q1
  cases r1
  refine wpAny_truthy_bool ?_
  cases c with
  | true => exact hb pins s1 σ H1 Q I1 q1
  | false => exact ⟨.bl false, H1, I1, rfl, q1⟩
theorem pe_not (ha : PE X a ta) : PE X (.UnaryOp .Not a pos) (tNotV ta) := by
  intro pins s σ H Q I h
  refine UnaryOp_ (thn (ha pins s σ H _ I h) fun v s1 ⟨x, H1, I1, r1, q1⟩ => ?_)
  obtain ⟨c, rfl, q1⟩ := q1
  cases r1
  exact not_of (wpAny_truthy_bool ⟨.bl (!c), H1, I1, rfl, q1⟩)
def tIf (t : TT) (ta tb : TE) : TE := fun σ H Q => t σ H fun c H1 => if c = true then ta σ H1 Q else tb σ H1 Q
theorem pe_ifExp {c : Expr} (hc : PT X c tA) (ha : PE X a ta) (hb : PE X b tb) : PE X (.IfExp c a b pos) (tIf tA ta tb) := by
  intro pins s σ H Q I h
  refine wpAny_IfExp (thn (hc pins s σ H _ I h) fun d s1 ⟨H1, I1, q1⟩ => ?_)
  cases d with
  | true => exact ha pins s1 σ H1 Q I1 q1
  | false => exact hb pins s1 σ H1 Q I1 q1
end
def SqL (K : PySem.W.Frag) (H : Hp) (a : Addr) (xs : List V) : Prop :=
  Rd H a (.lst xs) \/
    ∃ (o : Obj) (its : Array Value) (n : Nat), K.lookup a = some o /\ o.cls = .type "list" /\ o.dict = none /\ o.data = .seq its n /\ its.size <= sizeLine /\ Vals xs its.toList
def SqT (K : PySem.W.Frag) (H : Hp) (a : Addr) (xs : List V) : Prop :=
  Rd H a (.tup xs) \/
    ∃ (o : Obj) (its : Array Value) (n : Nat), K.lookup a = some o /\ o.cls = .type "tuple" /\ o.dict = none /\ o.data = .seq its n /\ its.size <= sizeLine /\ Vals xs its.toList
def absV : Value -> Option V
  | .none => some .non
  | .bool b => some (.bl b)
  | .int i _ => some (.int i)
  | .str x _ => some (.str x)
  | .bytes b _ => some (.byt b)
  | .float b _ => some (.flt b)
  | .ref a => some (.ref a)
  | .type n => some (.ty n)
  | _ => none
theorem RelV.abs {x : V} {u : Value} (r : RelV x u) : absV u = some x := by
  cases x with
  | non => cases r; rfl
  | bl _ => cases r; rfl
  | int _ => obtain ⟨t, rfl⟩ := r; rfl
  | str _ => obtain ⟨t, rfl⟩ := r; rfl
  | byt _ => obtain ⟨t, rfl⟩ := r; rfl
  | flt _ => obtain ⟨t, rfl⟩ := r; rfl
  | ref _ => cases r; rfl
  | ty _ => cases r; rfl
theorem RelV.inj {x y : V} {u : Value} (r : RelV x u) (q : RelV y u) : x = y := Option.some.inj (r.abs.symm.trans q.abs)
theorem Vals.inj : ∀ {xs ys : List V} {us : List Value}, Vals xs us -> Vals ys us -> xs = ys
  | _, _, _, .nil, .nil => rfl
  | _, _, _, .cons r t, .cons r' t' => by rw [r.inj r', Vals.inj t t']
section
variable {X : Cx} {pins : List (Addr × Obj)} {σ : St} {H : Hp} {s : Shared} {a : Addr} {xs ys : List V}
theorem SqL.of {K : PySem.W.Frag} (h : H a = some (.lst xs)) : SqL K H a xs := .inl (.inl h)
theorem SqT.of {K : PySem.W.Frag} (h : H a = some (.tup xs)) : SqT K H a xs := .inl (.inl h)
theorem Inv.list (I : Inv X pins σ H s) (h : SqL X.K H a xs) : ∃ its : List Value, Vals xs its /\ PlainL s.heap a its.toArray /\ xs.length <= sizeLine := by
  rcases h with h | ⟨o, its, n, hk, hc, hd, hs, hz, r⟩
  . obtain ⟨z, its, n, r, e⟩ := h.ok I.hok
    exact ⟨its, r, ⟨_, n, e, rfl, rfl, rfl⟩, z⟩
  . refine ⟨its.toList, r, ⟨o, n, I.kIn a o hk, hc, hd, by simpa using hs⟩, ?_⟩
    have e := r.length
    simp only [Array.length_toList] at e
    omega
theorem Inv.tuple (I : Inv X pins σ H s) (h : SqT X.K H a xs) : ∃ its : List Value, Vals xs its /\ IsTup s.heap a its.toArray /\ xs.length <= sizeLine := by
  rcases h with h | ⟨o, its, n, hk, hc, hdd, hs, hz, r⟩
  . obtain ⟨z, its, r, p⟩ := h.ok I.hok
    exact ⟨its, r, p.tup, z⟩
  . refine ⟨its.toList, r, ⟨o, I.kIn a o hk, hc, n, by simpa using hs⟩, ?_⟩
    have e := r.length
    simp only [Array.length_toList] at e
    omega
theorem Inv.list_inj (I : Inv X pins σ H s) (h : SqL X.K H a xs) (h' : SqL X.K H a ys) : xs = ys := by
  obtain ⟨its, r, ⟨o, n, e, _, _, d⟩, _⟩ := I.list h
  obtain ⟨its', r', ⟨o', n', e', _, _, d'⟩, _⟩ := I.list h'
  rw [e] at e'; cases e'
  rw [d] at d'
  injection d' with d1 _
  have : its = its' := by simpa using congrArg Array.toList d1
  subst this
  exact r.inj r'
theorem Inv.tuple_inj (I : Inv X pins σ H s) (h : SqT X.K H a xs) (h' : SqT X.K H a ys) : xs = ys := by
  obtain ⟨its, r, ⟨o, e, _, n, d⟩, _⟩ := I.tuple h
  obtain ⟨its', r', ⟨o', e', _, n', d'⟩, _⟩ := I.tuple h'
  rw [e] at e'; cases e'
  rw [d] at d'
  injection d' with d1 _
  have : its = its' := by simpa using congrArg Array.toList d1
  subst this
  exact r.inj r'
end
abbrev Cx.wish (X : Cx) (E : Value -> Shared -> Prop) : Cx := { X with xe := E }
abbrev Cx.nox (X : Cx) : Cx := X.wish fun _ _ => False
theorem Cx.Ok.wish {X : Cx} (ok : X.Ok) (E : Value -> Shared -> Prop) : (X.wish E).Ok :=
  ⟨ok.mod, ok.kind, ok.glob, ok.blt, ok.above, ok.inj, ok.has, ok.cab, ok.hd, ok.frames, ok.stk, ok.exf, ok.bs, ok.bsz, ok.noex, ok.exfs, ok.funs, ok.frf⟩
theorem Cx.Ok.unwish {X : Cx} {E : Value -> Shared -> Prop} (ok : (X.wish E).Ok) : X.Ok :=
  ⟨ok.mod, ok.kind, ok.glob, ok.blt, ok.above, ok.inj, ok.has, ok.cab, ok.hd, ok.frames, ok.stk, ok.exf, ok.bs, ok.bsz, ok.noex, ok.exfs, ok.funs, ok.frf⟩
section
variable {X : Cx} {pins : List (Addr × Obj)} {σ : St} {H : Hp} {s : Shared} {E : Value -> Shared -> Prop}
theorem Inv.wish (I : Inv X pins σ H s) (E : Value -> Shared -> Prop) : Inv (X.wish E) pins σ H s := ⟨I.ok.wish E, I.os, I.bare, I.base, I.loc, I.cell, I.free, I.freeC, I.pin, I.hok, I.len⟩
theorem Inv.unwish (I : Inv (X.wish E) pins σ H s) : Inv X pins σ H s := ⟨I.ok.unwish, I.os, I.bare, I.base, I.loc, I.cell, I.free, I.freeC, I.pin, I.hok, I.len⟩
theorem SP.unwish {D : Ends} {f : Flow} {s' : Shared} (h : SP (X.wish E) pins D f s') : SP X pins D f s' := by
  cases f with
  | next => obtain ⟨σ', H', I, q⟩ := h; exact ⟨σ', H', I.unwish, q⟩
  | brk => obtain ⟨σ', H', I, q⟩ := h; exact ⟨σ', H', I.unwish, q⟩
  | cont => obtain ⟨σ', H', I, q⟩ := h; exact ⟨σ', H', I.unwish, q⟩
  | ret u => obtain ⟨v, σ', H', I, r, q⟩ := h; exact ⟨v, σ', H', I.unwish, r, q⟩
theorem PSs.nox {st : List Stmt} {t : TS} (h : PSs X.nox st t) : PSs X st t := fun pins s σ H D I hw =>
  wpAny_mono (h pins s σ H D (I.wish _) hw) (fun _ _ q => q.unwish) fun _ _ z => False.elim z
end
section
variable {X : Cx} {st : Stmt} {rest : List Stmt} {t u : TS} {e : Expr} {te : TE} {pos : Pos}
def tNext : TS := fun D σ H => D.nx σ H
def tSeq (t u : TS) : TS := fun D σ H => t { D with nx := u D } σ H
theorem pss_nil : PSs X [] tNext := fun _ _ σ H _ I h => wpAny_execs_nil ⟨σ, H, I, h⟩
theorem pss_cons (h1 : PS X st t) (h2 : PSs X rest u) : PSs X (st :: rest) (tSeq t u) := by
  intro pins s σ H D I h
  refine wpAny_execs_cons (thn (h1 pins s σ H { D with nx := u D } I h) fun f s1 q => ?_)
  cases f with
  | next =>
    obtain ⟨σ', H', I', q⟩ := q
    exact h2 pins s1 σ' H' D I' q
  | ret v => exact q
  | brk => exact q
  | cont => exact q
theorem pss_one (h1 : PS X st t) : PSs X [st] t := by
  intro pins s σ H D I h
  refine wpAny_execs_cons (thn (h1 pins s σ H D I h) fun f s1 q => ?_)
  cases f with
  | next => exact wpAny_execs_nil q
  | ret v => exact q
  | brk => exact q
  | cont => exact q
theorem Inv.quiet {pins : List (Addr × Obj)} {σ : St} {H : Hp} {s : Shared} (I : Inv X pins σ H s) : interactive X.env = false := by simp [interactive, I.ok.kind]
def tDrop (te : TE) : TS := fun D σ H => te σ H fun _ H1 => D.nx σ H1
theorem ps_expr (he : PE X e te) (hs : swapsWith e none pos.line X.env = pure false := by rfl) : PS X (.Expr e pos) (tDrop te) := by
  intro pins s σ H D I h
  exact wpAny_Expr_any (thn (he pins s σ H _ I h) fun v s1 ⟨x, H1, I1, r1, q1⟩ => ⟨σ, H1, I1, q1⟩) I.quiet hs
def tRet (te : TE) : TS := fun D σ H => te σ H D.rt
theorem ps_ret (he : PE X e te) : PS X (.Return (some e) pos) (tRet te) := by
  intro pins s σ H D I h
  exact wpAny_Return_some (thn (he pins s σ H _ I h) fun v s1 ⟨x, H1, I1, r1, q1⟩ => ⟨x, σ, H1, I1, r1, q1⟩)
def tIfS (c : TT) (t u : TS) : TS := fun D σ H => c σ H fun b H1 => if b = true then t D σ H1 else u D σ H1
theorem ps_if {c : Expr} {a b : List Stmt} {tc : TT} (hc : PT X c tc) (ha : PSs X a t) (hb : PSs X b u) : PS X (.If c a b pos) (tIfS tc t u) := by
  intro pins s σ H D I h
  refine wpAny_If (thn (hc pins s σ H _ I h) fun d s1 ⟨H1, I1, q1⟩ => ?_)
  cases d with
  | true => exact ha pins s1 σ H1 D I1 q1
  | false => exact hb pins s1 σ H1 D I1 q1
end
abbrev TG := V -> St -> Hp -> (St -> Hp -> Prop) -> Prop
abbrev TGs := List V -> St -> Hp -> (St -> Hp -> Prop) -> Prop
def PG (X : Cx) (target : Expr) (t : TG) : Prop :=
  ∀ (pins : List (Addr × Obj)) (s : Shared) (σ : St) (H : Hp) (v : V) (u : Value) (Q : St -> Hp -> Prop), Inv X pins σ H s -> RelV v u -> t v σ H Q ->
    wpAny (model X.prog X.w) X.A (assign target X.env u) (fun _ s' => ∃ σ' H', Inv X pins σ' H' s' /\ Q σ' H') X.xe s
def PGs (X : Cx) (ts : List Expr) (t : TGs) : Prop :=
  ∀ (pins : List (Addr × Obj)) (s : Shared) (σ : St) (H : Hp) (vs : List V) (us : List Value) (Q : St -> Hp -> Prop), Inv X pins σ H s -> Vals vs us -> t vs σ H Q ->
    wpAny (model X.prog X.w) X.A (assignInOrder ((assignEach ts X.env).map (·.2)) us) (fun _ s' => ∃ σ' H', Inv X pins σ' H' s' /\ Q σ' H') X.xe s
abbrev TSet := V -> V -> V -> Hp -> (Hp -> Prop) -> Prop
def PSet (X : Cx) (t : TSet) : Prop :=
  ∀ (pins : List (Addr × Obj)) (s : Shared) (σ : St) (H : Hp) (o i v : V) (ov iv u : Value) (Q : Hp -> Prop), Inv X pins σ H s -> RelV o ov -> RelV i iv -> RelV v u -> t o i v H Q ->
    wpAny (model X.prog X.w) X.A (setItem ov iv u) (fun _ s' => ∃ H', Inv X pins σ H' s' /\ Q H') X.xe s
section
variable {X : Cx} {pos : Pos}
def gName (i : Nat) : TG := fun v σ H Q => Q (σ.set i (some v)) H
theorem pg_name {i : Nat} {x : Str} (hN : X.N.Nodup) (hi : X.N[i]? = some x) (hx : Loc X.env.scope x) (hf : X.fn x = true \/ X.env.scope.names.lookup x = some .local := by first | exact .inl rfl | exact .inr rfl | assumption) : PG X (.Name x pos) (gName i) := by
  intro pins s σ H v u Q I r h
  exact wpAny_assign_Name (store_ok I hN hi hx r (fun s' I' => ⟨_, H, I', h⟩) hf)
def gNil : TGs := fun vs σ H Q => vs = [] /\ Q σ H
def gCons (t : TG) (u : TGs) : TGs := fun vs σ H Q => ∃ v r, vs = v :: r /\ t v σ H fun σ' H' => u r σ' H' Q
theorem pgs_nil : PGs X [] gNil := by
  intro pins s σ H vs us Q I r h
  obtain ⟨e, h⟩ := h
  subst e
  cases r
  exact assignInOrder_nil ⟨σ, H, I, h⟩
theorem pgs_cons {e : Expr} {es : List Expr} {t : TG} {u : TGs} (h1 : PG X e t) (h2 : PGs X es u)
    (hs : (assignEach (e :: es) X.env).map (·.2) = assign e X.env :: (assignEach es X.env).map (·.2) := by rfl) : PGs X (e :: es) (gCons t u) := by
  intro pins s σ H vs us Q I r h
  obtain ⟨v, vr, e1, h⟩ := h
  subst e1
  cases r with
  | cons r rr =>
    rw [hs]
    refine assignInOrder_cons (thn (h1 pins s σ H _ _ _ I r h) fun _ s1 ⟨σ1, H1, I1, q1⟩ => ?_)
    exact h2 pins s1 σ1 H1 _ _ Q I1 rr q1
def gTup (K : PySem.W.Frag) (n : Nat) (t : TGs) : TG := fun v σ H Q => ∃ a xs, v = .ref a /\ SqT K H a xs /\ xs.length = n /\ t xs σ H Q
theorem pg_tup {es : List Expr} {k : Nat} {t : TGs} {n : Nat} (hc : X.calm = true) (h : PGs X es t)
    (hn : (assignEach es X.env).length = n := by rfl) (hst : (assignEach es X.env).findIdx? (·.1) = none := by rfl) : PG X (.Tuple es k pos) (gTup X.K n t) := by
  intro pins s σ H v u Q I r hw
  obtain ⟨a, xs, e1, hq, hl, hw⟩ := hw
  subst e1
  cases r
  obtain ⟨its, rv, ht, hz⟩ := I.tuple hq
  refine assign_Tuple_tuple (I.ok.hd hc) ht (by simp [hn, <- hl, rv.length]) hst fun h' hx => ?_
  have I1 : Inv X pins σ H { s with heap := h' } := I.kept (t' := s.toks) fun b o e => hx b o (Nat.ne_of_lt (Heap.lt_size e)) e
  exact h pins _ σ H xs _ Q I1 (by simpa using rv) hw
def gSub (to ti : TE) (t : TSet) : TG := fun v σ H Q => to σ H fun o H1 => ti σ H1 fun i H2 => t o i v H2 fun H3 => Q σ H3
theorem pg_sub {o i : Expr} {to ti : TE} {t : TSet} (ho : PE X o to) (hi : PE X i ti) (hs : PSet X t)
    (ha : ∀ v, assign (.Subscript o i pos) X.env v = (do
      let ov <- holding [v] (eval o X.env)
      let iv <- holding [v, ov] (eval i X.env)
      standAt pos
      holding [v, ov, iv] (setItem ov iv v)
      release [v, ov, iv] []) := by intro _; rfl) : PG X (.Subscript o i pos) (gSub to ti t) := by
  intro pins s σ H v u Q I r h
  rw [ha]
  refine wpAny_bind (wpAny_holding (thn (ho pins s σ H _ I h) fun ov s1 ⟨x, H1, I1, r1, q1⟩ => ?_))
  refine wpAny_bind (wpAny_holding (thn (hi pins s1 σ H1 _ I1 q1) fun iv s2 ⟨y, H2, I2, r2, q2⟩ => ?_))
  refine wpAny_bind (wpAny_standAt (wpAny_bind (wpAny_holding (thn (hs pins s2 σ H2 x y v ov iv u _ I2 r1 r2 r q2) fun _ s3 ⟨H3, I3, q3⟩ => ?_))))
  exact wpAny_release ⟨σ, H3, I3, q3⟩
def tAsg (te : TE) (g : TG) : TS := fun D σ H => te σ H fun x H1 => g x σ H1 D.nx
theorem ps_asg {tg e : Expr} {te : TE} {g : TG} (he : PE X e te) (hg : PG X tg g) (hs : swapsWithSole [tg] e pos.line X.env = pure false := by rfl) (hw : swappedStores [tg] e X.env = pure none := by rfl)
    (h1 : (assignEach [tg] X.env).map (·.2) = [assign tg X.env] := by rfl) : PS X (.Assign [tg] e pos) (tAsg te g) := by
  intro pins s σ H D I h
  refine wpAny_Assign_stores (thn (he pins s σ H _ I h) fun v s1 ⟨x, H1, I1, r1, q1⟩ => ?_) hs hw
  rw [h1]
  exact thn (hg pins s1 σ H1 x v _ I1 r1 q1) fun _ s2 q => q
theorem ps_set {i : Nat} {x : Str} {e : Expr} {te : TE} {pos' : Pos} (hN : X.N.Nodup) (hi : X.N[i]? = some x) (hx : Loc X.env.scope x) (he : PE X e te) (hs : swapsWith e (some (.Name x pos')) pos.line X.env = pure false := by rfl) (hf : X.fn x = true \/ X.env.scope.names.lookup x = some .local := by first | exact .inl rfl | exact .inr rfl | assumption) :
    PS X (.Assign [.Name x pos'] e pos) (tAsg te (gName i)) := by
  intro pins s σ H D I h
  refine wpAny_Assign_Name (thn (he pins s σ H _ I h) fun v s1 ⟨y, H1, I1, r1, q1⟩ => ?_) hs
  exact store_ok I1 hN hi hx r1 (fun s2 I2 => ⟨_, H1, I2, q1⟩) hf
end
section
variable {X : Cx} {pos : Pos}
end
structure It where
  go : Nat -> Hp -> Prop
  yld : Nat -> Hp -> V -> Hp -> Prop
  stop : Nat -> Hp -> Prop
def FpOk (X : Cx) (pins : List (Addr × Obj)) (H : Hp) (b : Addr) : Prop :=
  H b = none /\ b ≠ X.env.locals /\ b ∉ X.fs /\ (b ∈ X.ex \/ X.s₀.heap.objs.size <= b) /\ (∀ x c, X.env.cells.lookup x = some c -> c ≠ b) /\ ∀ p ∈ X.pn ++ pins, p.1 ≠ b
theorem Inv.fpOk {X : Cx} {pins : List (Addr × Obj)} {σ : St} {H H' : Hp} {s : Shared} {b : Addr} (I : Inv X pins σ H s) (hb : s.heap.objs.size <= b) (hn : H' b = none) : FpOk X pins H' b := by
  refine ⟨hn, Nat.ne_of_gt (Nat.lt_of_lt_of_le I.lt hb), I.nofs hb, .inr (Nat.le_trans I.sz hb), fun x c e z => ?_, fun p hp z => ?_⟩
  . obtain ⟨v, q⟩ := I.cell x c e
    exact absurd (Nat.lt_of_lt_of_le q.lt (by rw [z]; exact hb)) (Nat.lt_irrefl _)
  . exact absurd (Nat.lt_of_lt_of_le (Heap.lt_size (I.pin p hp).1) (by rw [z]; exact hb)) (Nat.lt_irrefl _)
structure Turn (P : Program) (w : World) (K : PySem.W.Frag) (tg : Expr) (J : It) (fp : List Addr) (it : Addr) (tn : Nat -> Heap -> Prop) : Prop where
  mem : it ∈ fp
  obj : ∀ i h, tn i h -> ∀ b ∈ fp, ∃ o, h.get? b = some o /\ ∀ v, o.data ≠ .cell v
  keep : ∀ i h h', tn i h -> (∀ b ∈ fp, ∀ o, h.get? b = some o -> h'.get? b = some o) -> tn i h'
  item : ∀ (X : Cx), X.prog = P -> X.w = w -> X.K = K -> X.calm = true -> ∀ (i : Nat) (pins : List (Addr × Obj)) (s : Shared) (σ : St) (H : Hp) (E : Value -> Shared -> Prop), Inv X pins σ H s -> (∀ b ∈ fp, FpOk X pins H b) -> tn i s.heap -> J.go i H ->
    wpAny (model P w) X.A (pyNext (.ref it)) (fun r s1 => ∃ u, r = some u /\
      wpAny (model P w) X.A (letOwnedTupleGo tg (.ref it) u) (fun _ s2 => ∃ x H', Inv X pins σ H' s2 /\ RelV x u /\ J.yld i H x H' /\ tn (i + 1) s2.heap /\ ∀ b ∈ fp, H' b = none) E s1) E s
  done : ∀ (X : Cx), X.prog = P -> X.w = w -> X.K = K -> X.calm = true -> ∀ (i : Nat) (pins : List (Addr × Obj)) (s : Shared) (σ : St) (H : Hp) (E : Value -> Shared -> Prop), Inv X pins σ H s -> (∀ b ∈ fp, FpOk X pins H b) -> tn i s.heap -> J.stop i H ->
    wpAny (model P w) X.A (pyNext (.ref it)) (fun r s1 => r = none /\ Inv X pins σ H s1) E s
  self : ∀ (A : Around) (i : Nat) (s : Shared) (Q : Value -> Shared -> Prop) (E : Value -> Shared -> Prop), tn i s.heap -> Q (.ref it) s -> wpAny (model P w) A (pyIter (.ref it)) Q E s
abbrev TI := St -> Hp -> (It -> Hp -> Prop) -> Prop
def PIE (X : Cx) (pins : List (Addr × Obj)) (σ : St) (tg : Expr) (R : It -> Hp -> Prop) (itv : Value) (s2 : Shared) : Prop :=
  ∃ (it : Addr) (fp : List Addr) (tn : Nat -> Heap -> Prop) (J : It) (H' : Hp), itv = .ref it /\ Inv X pins σ H' s2 /\ Turn X.prog X.w X.K tg J fp it tn /\ tn 0 s2.heap /\ (∀ b ∈ fp, FpOk X pins H' b) /\ R J H'
def PI (X : Cx) (tg iter : Expr) (wi : TI) : Prop :=
  ∀ (pins : List (Addr × Obj)) (s : Shared) (σ : St) (H : Hp) (R : It -> Hp -> Prop), Inv X pins σ H s -> wi σ H R ->
    wpAny (model X.prog X.w) X.A (eval iter X.env) (fun v s1 => wpAny (model X.prog X.w) X.A (pyIter v) (PIE X pins σ tg R) X.xe s1) X.xe s
theorem go_of {M : Model} {A : Around} {E : Value -> Shared -> Prop} {s : Shared} {tg : Expr} {it : Addr} {u : Value} {o : Obj} {n : String} {vs : Array Value} {Q : Unit -> Shared -> Prop} (ho : s.heap.get? it = some o) (hc : o.cls = .type n) (hd : o.data = .fields vs)
    (hn : ["enumerate", "zip", "dict_itemiterator", "dict_reverseitemiterator", "odict_iterator", "itertools.zip_longest", "itertools.pairwise"].contains n = false) (hQ : Q () s) : wpAny M A (letOwnedTupleGo tg (.ref it) u) Q E s := by
  unfold letOwnedTupleGo
  cases tg <;> first
    | exact wpAny_pure hQ
    | (cases u <;> first
        | exact wpAny_pure hQ
        | (refine wpAny_bind (wpAny_load ho ?_)
           rw [hc, hd]
           show wpAny M A (if (["enumerate", "zip", "dict_itemiterator", "dict_reverseitemiterator", "odict_iterator", "itertools.zip_longest", "itertools.pairwise"].contains n && vs[0]? == some (rawInt _)) = true then _ else _) Q E s
           rw [if_neg (by intro h; rw [hn, Bool.false_and] at h; cases h)]
           exact wpAny_pure hQ))
def Itl (K : PySem.W.Frag) (a : Addr) : It :=
  ⟨fun i H => ∃ xs x, SqL K H a xs /\ xs[i]? = some x, fun i H x H' => H' = H /\ ∀ xs, SqL K H a xs -> xs[i]? = some x, fun i H => ∃ xs, SqL K H a xs /\ xs.length <= i⟩
def Itt (K : PySem.W.Frag) (a : Addr) : It :=
  ⟨fun i H => ∃ xs x, SqT K H a xs /\ xs[i]? = some x, fun i H x H' => H' = H /\ ∀ xs, SqT K H a xs -> xs[i]? = some x, fun i H => ∃ xs, SqT K H a xs /\ xs.length <= i⟩
def Itr (lo : Int) (n : Nat) : It := ⟨fun i _ => i < n, fun i H x H' => H' = H /\ x = .int (lo + i), fun i _ => n <= i⟩
theorem turn_list {P : Program} {w : World} {K : PySem.W.Frag} {tg : Expr} (a it : Addr) : Turn P w K tg (Itl K a) [it] it (fun i h => h.IsListIter it a i) where
  mem := by simp
  obj := fun i h st b hb => by
    have e : b = it := by simpa using hb
    subst e
    obtain ⟨o, e, c, d⟩ := st
    exact ⟨o, e, fun v z => by rw [d] at z; cases z⟩
  keep := fun i h h' st k => st.at fun o e => k it (by simp) o e
  item := by
    intro X hP hw hK hc i pins s σ H E I hf st hg
    subst hP hw hK
    obtain ⟨xs, x, hq, hx⟩ := hg
    obtain ⟨its, rv, p, hz⟩ := I.list hq
    obtain ⟨u, hu, ru⟩ := rv.get hx
    obtain ⟨f0, f1, f2, f3, f4, f5⟩ := hf it (by simp)
    refine wpAny_pyNext_list_item st p.isList (x := u) (by simpa using hu) fun h' st' sb => ?_
    have I1 : Inv X pins σ H { s with heap := h' } := I.turned (t' := s.toks) (fun b o hb e => (sb.2 b hb).trans e) f0 f1 f3 f4 f5
    obtain ⟨o, e, c, d⟩ := id st'
    exact ⟨u, rfl, go_of (s := { s with heap := h' }) e c d (by decide) ⟨x, H, I1, ru, ⟨rfl, fun ys hy => by rw [I.list_inj hy hq]; exact hx⟩, st', fun b hb => (hf b hb).1⟩⟩
  done := by
    intro X hP hw hK hc i pins s σ H E I hf st hg
    subst hP hw hK
    obtain ⟨xs, hq, hx⟩ := hg
    obtain ⟨its, rv, p, hz⟩ := I.list hq
    obtain ⟨f0, f1, f2, f3, f4, f5⟩ := hf it (by simp)
    have hl := rv.length
    exact wpAny_pyNext_list_end (I.ok.hd hc) st p.isList (by simp; omega) fun h' eb => ⟨rfl, I.turned (t' := s.toks) (fun b o hb e => eb b o hb e) f0 f1 f3 f4 f5⟩
  self := fun _ _ _ _ _ st h => wpAny_pyIter_listiter st h
theorem turn_tuple {P : Program} {w : World} {K : PySem.W.Frag} {tg : Expr} (a it : Addr) : Turn P w K tg (Itt K a) [it] it (fun i h => h.IsTupleIter it a i) where
  mem := by simp
  obj := fun i h st b hb => by
    have e : b = it := by simpa using hb
    subst e
    obtain ⟨o, e, c, d⟩ := st
    exact ⟨o, e, fun v z => by rw [d] at z; cases z⟩
  keep := fun i h h' st k => st.at fun o e => k it (by simp) o e
  item := by
    intro X hP hw hK hc i pins s σ H E I hf st hg
    subst hP hw hK
    obtain ⟨xs, x, hq, hx⟩ := hg
    obtain ⟨its, rv, p, hz⟩ := I.tuple hq
    obtain ⟨u, hu, ru⟩ := rv.get hx
    obtain ⟨f0, f1, f2, f3, f4, f5⟩ := hf it (by simp)
    refine wpAny_pyNext_tuple_item st (show s.heap.IsTuple a its.toArray from p) (x := u) (by simpa using hu) fun h' st' sb => ?_
    have I1 : Inv X pins σ H { s with heap := h' } := I.turned (t' := s.toks) (fun b o hb e => (sb.2 b hb).trans e) f0 f1 f3 f4 f5
    obtain ⟨o, e, c, d⟩ := id st'
    exact ⟨u, rfl, go_of (s := { s with heap := h' }) e c d (by decide) ⟨x, H, I1, ru, ⟨rfl, fun ys hy => by rw [I.tuple_inj hy hq]; exact hx⟩, st', fun b hb => (hf b hb).1⟩⟩
  done := by
    intro X hP hw hK hc i pins s σ H E I hf st hg
    subst hP hw hK
    obtain ⟨xs, hq, hx⟩ := hg
    obtain ⟨its, rv, p, hz⟩ := I.tuple hq
    obtain ⟨f0, f1, f2, f3, f4, f5⟩ := hf it (by simp)
    have hl := rv.length
    exact wpAny_pyNext_tuple_end (I.ok.hd hc) st (show s.heap.IsTuple a its.toArray from p) (by simp; omega) fun h' eb => ⟨rfl, I.turned (t' := s.toks) (fun b o hb e => eb b o hb e) f0 f1 f3 f4 f5⟩
  self := fun _ _ _ _ _ st h => wpAny_pyIter_tupleiter st h
theorem turn_range {P : Program} {w : World} {K : PySem.W.Frag} {tg : Expr} (it : Addr) (lo : Int) (n : Nat) : Turn P w K tg (Itr lo n) [it] it (fun i h => IsRangeIter h it (lo + (i : Nat) * 1) ((n : Int) - (i : Nat)) 1) where
  mem := by simp
  obj := fun i h st b hb => by
    have e : b = it := by simpa using hb
    subst e
    exact ⟨_, st, fun v z => by
      have z' : Data.fields _ = Data.cell v := z
      cases z'⟩
  keep := fun i h h' st k => k it (by simp) _ st
  item := by
    intro X hP hw hK hc i pins s σ H E I hf st hg
    subst hP hw hK
    obtain ⟨f0, f1, f2, f3, f4, f5⟩ := hf it (by simp)
    have W := Walks.range (prog := X.prog) (w := X.w) (I.ok.hd hc) it lo 1 n
    refine W.item i s _ _ hg st fun v h' tk hv st' kk => ?_
    obtain ⟨t, rfl⟩ := hv
    have I1 : Inv X pins σ H { s with heap := h', toks := tk } := I.turned (fun b o hb e => kk b o (by simpa using hb) e) f0 f1 f3 f4 f5
    refine ⟨_, rfl, go_of (s := { s with heap := h', toks := tk }) (n := "range_iterator") st' rfl rfl (by decide) ⟨.int (lo + i), H, I1, ⟨t, ?_⟩, ⟨rfl, rfl⟩, st', fun b hb => (hf b hb).1⟩⟩
    rw [Int.mul_one]
  done := by
    intro X hP hw hK hc i pins s σ H E I hf st hg
    subst hP hw hK
    obtain ⟨f0, f1, f2, f3, f4, f5⟩ := hf it (by simp)
    exact wpAny_pyNext_range_end (I.ok.hd hc) st (by have : n <= i := hg; omega) fun h' eb => ⟨rfl, I.turned (t' := s.toks) (fun b o hb e => eb b o hb e) f0 f1 f3 f4 f5⟩
  self := fun _ _ _ _ _ st h => wpAny_pyIter_rangeiter st h
section
variable {X : Cx} {tg : Expr}
theorem range_it {pins : List (Addr × Obj)} {σ : St} {H : Hp} {s : Shared} {R : It -> Hp -> Prop} {E : Value -> Shared -> Prop} {lo hi : Int} {t u v : Tok} {tk : Nat} (I : Inv X pins σ H s) (h1 : -(2 ^ 62) <= lo) (h2 : lo < 2 ^ 62) (h3 : -(2 ^ 62) <= hi) (h4 : hi < 2 ^ 62)
    (q : R (Itr lo (hi - lo).toNat) H) : wpAny (model X.prog X.w) X.A (pyIter (.ref s.heap.objs.size)) (PIE X pins σ tg R) E { s with heap := s.heap.push { cls := .type "range", data := .fields #[.int lo t, .int hi u, .int 1 v] }, toks := tk } := by
  refine wpAny_pyIter_range (IsRange.new ..) (small_one h1 h2 h3 h4) ?_
  have I1 : Inv X pins σ H { s with heap := s.heap.push { cls := .type "range", data := .fields #[.int lo t, .int hi u, .int 1 v] }, toks := tk } := I.kept fun b o e => Heap.get?_push_of_some _ e
  refine ⟨(s.heap.push { cls := .type "range", data := .fields #[.int lo t, .int hi u, .int 1 v] }).objs.size, [(s.heap.push { cls := .type "range", data := .fields #[.int lo t, .int hi u, .int 1 v] }).objs.size], _, _, H, rfl,
    I1.kept (t' := tk) fun b o e => Heap.get?_push_of_some _ e, turn_range _ lo (hi - lo).toNat, ?_, fun b hb => ?_, q⟩
  . have e1 : lo + ((0 : Nat) : Int) * 1 = lo := by simp
    have e2 : (((hi - lo).toNat : Nat) : Int) - ((0 : Nat) : Int) = Builtin.Range.rangeSize lo hi 1 := by rw [rangeSize_one]; split <;> omega
    show IsRangeIter _ _ (lo + ((0 : Nat) : Int) * 1) ((((hi - lo).toNat : Nat) : Int) - ((0 : Nat) : Int)) 1
    rw [e1, e2]
    exact Heap.get?_push_size _ rfl
  . have e : b = (s.heap.push { cls := .type "range", data := .fields #[.int lo t, .int hi u, .int 1 v] }).objs.size := by simpa using hb
    subst e
    exact I1.fpOk (Nat.le_refl _) (I1.hok.fresh (Nat.le_refl _))
def iRng1 (ta : TA) : TI := fun σ H R => ta σ H fun vs H1 => ∃ j : Int, vs = [.int j] /\ -(2 ^ 62) <= j /\ j < 2 ^ 62 /\ R (Itr 0 j.toNat) H1
theorem pi_range1 {a : Expr} {ta : TA} {p pos : Pos} (hg : Gl X "range") (hm : X.mg "range" = none) (ha : PA X [a] ta) (hs : starEach [a] X.env = [(false, eval a X.env)] := by rfl) : PI X tg (.Call (.Name "range" p) [a] [] pos) (iRng1 ta) := by
  intro pins s σ H R I h
  refine Call_ (ld_blt I hg hm boot_range (PyProof.Rows.callWith_type1 (thn (ha pos pins s σ H _ I h) fun us s1 ⟨vs, H1, I1, r1, q1⟩ => ?_) hs rfl))
  obtain ⟨j, e, q1, q2, q⟩ := q1
  subst e
  cases r1 with
  | cons r rr =>
    cases rr
    obtain ⟨t, rfl⟩ := r
    exact call_range_1 (range_it I1 (by omega) (by omega) q1 q2 (by simpa using q))
def tFor (wi : TI) (g : TG) (tb : TS) : TS := fun D σ H => wi σ H fun J H1 => ∃ W : Nat -> Nat -> St -> Hp -> Prop, (∃ m, W 0 m σ H1) /\ ∀ i m σ H, W i m σ H ->
  (J.stop i H /\ D.nx σ H) \/ (J.go i H /\ ∃ N : St -> Hp -> Prop, (∀ σ' H', N σ' H' -> ∃ m', m' < m /\ W (i + 1) m' σ' H') /\ ∀ x H', J.yld i H x H' -> g x σ H' fun σ2 H2 => tb { D with nx := N, ct := N, bk := D.nx } σ2 H2)
def pinsAt (fp : List Addr) (h : Heap) : List (Addr × Obj) := fp.filterMap fun b => (h.get? b).map fun o => (b, o)
theorem mem_pinsAt {fp : List Addr} {h : Heap} {b : Addr} {o : Obj} (hb : b ∈ fp) (e : h.get? b = some o) : (b, o) ∈ pinsAt fp h := List.mem_filterMap.mpr ⟨b, hb, by rw [e]; rfl⟩
theorem of_pinsAt {fp : List Addr} {h : Heap} {p : Addr × Obj} (hp : p ∈ pinsAt fp h) : p.1 ∈ fp /\ h.get? p.1 = some p.2 := by
  obtain ⟨b, hb, e⟩ := List.mem_filterMap.mp hp
  cases q : h.get? b with
  | none => rw [q] at e; cases e
  | some o =>
    rw [q] at e
    have e' : (b, o) = p := Option.some.inj e
    subst e'
    exact ⟨hb, q⟩
theorem Inv.pinned {pins : List (Addr × Obj)} {σ : St} {H : Hp} {s : Shared} {fp : List Addr} (I : Inv X pins σ H s) (hf : ∀ b ∈ fp, FpOk X pins H b) (ho : ∀ b ∈ fp, ∃ o, s.heap.get? b = some o /\ ∀ v, o.data ≠ .cell v) : Inv X (pins ++ pinsAt fp s.heap) σ H s :=
  I.pins_of fun p hp => (List.mem_append.mp hp).elim (fun z => I.pin p (List.mem_append_right _ z)) fun z => by
    obtain ⟨hb, e⟩ := of_pinsAt z
    obtain ⟨f0, f1, f2, _⟩ := hf p.1 hb
    obtain ⟨o, e', d⟩ := ho p.1 hb
    rw [e] at e'; cases e'
    exact ⟨e, f0, f1, f2, d⟩
theorem Inv.unpinned {pins pl : List (Addr × Obj)} {σ : St} {H : Hp} {s : Shared} (I : Inv X (pins ++ pl) σ H s) : Inv X pins σ H s := I.pins_of fun p hp => I.pin p (List.mem_append_right _ (List.mem_append_left _ hp))
theorem ps_for {iter : Expr} {body : List Stmt} {wi : TI} {g : TG} {tb : TS} {pos : Pos} (hp : PassesOwn (model X.prog X.w) X.A X.env X.xe) (hc : X.calm = true) (hi : PI X tg iter wi) (hg : PG X tg g) (hb : PSs X body tb)
    (hs : ∀ x, foldedSetIterable iter X.env x = pure x := by intro _; rfl) : PS X (.For tg iter body [] pos) (tFor wi g tb) := by
  intro pins s σ H D I h
  refine wpAny_For (thn (hi pins s σ H _ I h) fun v s1 h1 => thn h1 fun itv s2 h2 => ?_) hs
  obtain ⟨it, fp, tn, J, H2, e, I2, T, st2, f2, W, ⟨m0, w0⟩, turn⟩ := h2
  subst e
  -- what stays true of the iterator's objects through the loop
  have stat : ∀ {H' : Hp}, (∀ b ∈ fp, H' b = none) -> ∀ b ∈ fp, FpOk X pins H' b := fun hn b hb => ⟨hn b hb, (f2 b hb).2⟩
  refine codeAny_forLoop_any (fun n s' => ∃ i σ' H', Inv X pins σ' H' s' /\ tn i s'.heap /\ (∀ b ∈ fp, H' b = none) /\ W i n σ' H') ?_ m0 ⟨0, σ, H2, I2, st2, fun b hb => (f2 b hb).1, w0⟩
  rintro n s3 ⟨i, σ3, H3, I3, st3, fr3, w3⟩
  rcases turn i n σ3 H3 w3 with ⟨stop, qn⟩ | ⟨go, N, hN, step⟩
  . refine wpAny_passesOwn hp (thn (T.done X rfl rfl rfl hc i pins s3 σ3 H3 X.xe I3 (stat fr3) st3 stop) fun r s4 ⟨hr, I4⟩ => ?_)
    subst hr
    exact wpAny_execs_nil ⟨σ3, H3, I4, qn⟩
  . refine wpAny_passesOwn hp (thn (T.item X rfl rfl rfl hc i pins s3 σ3 H3 X.xe I3 (stat fr3) st3 go) fun r s4 ⟨u, hr, h4⟩ => ?_)
    subst hr
    refine wpAny_passesOwn hp (thn h4 fun _ s5 ⟨x, H5, I5, r5, y5, st5, fr5⟩ => ?_)
    have I5' := I5.pinned (stat fr5) (T.obj _ _ st5)
    refine wpAny_passesOwn hp (thn (hg _ s5 σ3 H5 x u _ I5' r5 (step x H5 y5)) fun _ s6 ⟨σ6, H6, I6, q6⟩ => ?_)
    refine wpAny_passesOwn hp (thn (hb _ s6 σ6 H6 _ I6 q6) fun f s7 q7 => ?_)
    have again : ∀ {σ7 : St} {H7 : Hp}, Inv X (pins ++ pinsAt fp s5.heap) σ7 H7 s7 -> N σ7 H7 -> ∃ m, m < n /\ ∃ i σ' H', Inv X pins σ' H' s7 /\ tn i s7.heap /\ (∀ b ∈ fp, H' b = none) /\ W i m σ' H' := fun {σ7 H7} I7 n7 => by
      obtain ⟨m', hm, w7⟩ := hN σ7 H7 n7
      refine ⟨m', hm, i + 1, σ7, H7, I7.unpinned, T.keep _ _ _ st5 fun b hb o e => (I7.pin (b, o) (List.mem_append_right _ (List.mem_append_right _ (mem_pinsAt hb e)))).1, fun b hb => ?_, w7⟩
      obtain ⟨o, e, d⟩ := T.obj _ _ st5 b hb
      exact (I7.pin (b, o) (List.mem_append_right _ (List.mem_append_right _ (mem_pinsAt hb e)))).2.1
    cases f with
    | next => obtain ⟨σ7, H7, I7, n7⟩ := q7; exact again I7 n7
    | cont => obtain ⟨σ7, H7, I7, n7⟩ := q7; exact again I7 n7
    | brk => obtain ⟨σ7, H7, I7, q7⟩ := q7; exact ⟨σ7, H7, I7.unpinned, q7⟩
    | ret v => obtain ⟨x7, σ7, H7, I7, r7, q7⟩ := q7; exact ⟨x7, σ7, H7, I7.unpinned, r7, q7⟩
end
theorem for_list {K : PySem.W.Frag} {a : Addr} {xs : List V} {g : TG} {tb : TS} {D : Ends} {σ : St} {H : Hp} (Pv : Nat -> St -> Hp -> Prop) (h0 : Pv 0 σ H) (hl : ∀ i σ H, i <= xs.length -> Pv i σ H -> SqL K H a xs)
    (hs : ∀ i x σ H, xs[i]? = some x -> Pv i σ H -> g x σ H fun σ2 H2 => tb { D with nx := Pv (i + 1), ct := Pv (i + 1), bk := D.nx } σ2 H2) (hd : ∀ σ H, Pv xs.length σ H -> D.nx σ H) :
    ∃ W : Nat -> Nat -> St -> Hp -> Prop, (∃ m, W 0 m σ H) /\ ∀ i m σ H, W i m σ H ->
      ((Itl K a).stop i H /\ D.nx σ H) \/ ((Itl K a).go i H /\ ∃ N : St -> Hp -> Prop, (∀ σ' H', N σ' H' -> ∃ m', m' < m /\ W (i + 1) m' σ' H') /\ ∀ x H', (Itl K a).yld i H x H' -> g x σ H' fun σ2 H2 => tb { D with nx := N, ct := N, bk := D.nx } σ2 H2) := by
  refine ⟨fun i m σ H => m = xs.length - i /\ i <= xs.length /\ Pv i σ H, ⟨xs.length, by simp, Nat.zero_le _, h0⟩, ?_⟩
  rintro i m σ H ⟨rfl, hi, p⟩
  have q := hl i σ H hi p
  by_cases hlt : i < xs.length
  . refine .inr ⟨⟨xs, xs[i], q, by simp [hlt]⟩, Pv (i + 1), fun σ' H' p' => ⟨xs.length - (i + 1), by omega, rfl, hlt, p'⟩, fun x H' y => ?_⟩
    obtain ⟨e, y⟩ := y
    subst e
    exact hs i x σ _ (y xs q) p
  . have e : i = xs.length := by omega
    subst e
    exact .inl ⟨⟨xs, q, Nat.le_refl _⟩, hd σ H p⟩
theorem for_tup {K : PySem.W.Frag} {a : Addr} {xs : List V} {g : TG} {tb : TS} {D : Ends} {σ : St} {H : Hp} (Pv : Nat -> St -> Hp -> Prop) (h0 : Pv 0 σ H) (hl : ∀ i σ H, i <= xs.length -> Pv i σ H -> SqT K H a xs)
    (hs : ∀ i x σ H, xs[i]? = some x -> Pv i σ H -> g x σ H fun σ2 H2 => tb { D with nx := Pv (i + 1), ct := Pv (i + 1), bk := D.nx } σ2 H2) (hd : ∀ σ H, Pv xs.length σ H -> D.nx σ H) :
    ∃ W : Nat -> Nat -> St -> Hp -> Prop, (∃ m, W 0 m σ H) /\ ∀ i m σ H, W i m σ H ->
      ((Itt K a).stop i H /\ D.nx σ H) \/ ((Itt K a).go i H /\ ∃ N : St -> Hp -> Prop, (∀ σ' H', N σ' H' -> ∃ m', m' < m /\ W (i + 1) m' σ' H') /\ ∀ x H', (Itt K a).yld i H x H' -> g x σ H' fun σ2 H2 => tb { D with nx := N, ct := N, bk := D.nx } σ2 H2) := by
  refine ⟨fun i m σ H => m = xs.length - i /\ i <= xs.length /\ Pv i σ H, ⟨xs.length, by simp, Nat.zero_le _, h0⟩, ?_⟩
  rintro i m σ H ⟨rfl, hi, p⟩
  have q := hl i σ H hi p
  by_cases hlt : i < xs.length
  . refine .inr ⟨⟨xs, xs[i], q, by simp [hlt]⟩, Pv (i + 1), fun σ' H' p' => ⟨xs.length - (i + 1), by omega, rfl, hlt, p'⟩, fun x H' y => ?_⟩
    obtain ⟨e, y⟩ := y
    subst e
    exact hs i x σ _ (y xs q) p
  . have e : i = xs.length := by omega
    subst e
    exact .inl ⟨⟨xs, q, Nat.le_refl _⟩, hd σ H p⟩
theorem for_range {lo : Int} {n : Nat} {g : TG} {tb : TS} {D : Ends} {σ : St} {H : Hp} (Pv : Nat -> St -> Hp -> Prop) (h0 : Pv 0 σ H)
    (hs : ∀ i σ H, i < n -> Pv i σ H -> g (.int (lo + i)) σ H fun σ2 H2 => tb { D with nx := Pv (i + 1), ct := Pv (i + 1), bk := D.nx } σ2 H2) (hd : ∀ σ H, Pv n σ H -> D.nx σ H) :
    ∃ W : Nat -> Nat -> St -> Hp -> Prop, (∃ m, W 0 m σ H) /\ ∀ i m σ H, W i m σ H ->
      ((Itr lo n).stop i H /\ D.nx σ H) \/ ((Itr lo n).go i H /\ ∃ N : St -> Hp -> Prop, (∀ σ' H', N σ' H' -> ∃ m', m' < m /\ W (i + 1) m' σ' H') /\ ∀ x H', (Itr lo n).yld i H x H' -> g x σ H' fun σ2 H2 => tb { D with nx := N, ct := N, bk := D.nx } σ2 H2) := by
  refine ⟨fun i m σ H => m = n - i /\ i <= n /\ Pv i σ H, ⟨n, by simp, Nat.zero_le _, h0⟩, ?_⟩
  rintro i m σ H ⟨rfl, hi, p⟩
  by_cases hlt : i < n
  . refine .inr ⟨hlt, Pv (i + 1), fun σ' H' p' => ⟨n - (i + 1), by omega, rfl, hlt, p'⟩, fun x H' y => ?_⟩
    obtain ⟨e, y⟩ := y
    subst e y
    exact hs i σ _ hlt p
  . have e : i = n := by omega
    subst e
    exact .inl ⟨Nat.le_refl _, hd σ H p⟩
abbrev R2 := V -> V -> Hp -> VK -> Prop
def OpR (X : Cx) (f : Value -> Value -> Sem Value) (r : R2) : Prop :=
  ∀ (pins : List (Addr × Obj)) (s : Shared) (σ : St) (H : Hp) (x y : V) (v u : Value) (Q : VK), Inv X pins σ H s -> RelV x v -> RelV y u -> r x y H Q ->
    wpAny (model X.prog X.w) X.A (f v u) (EP X pins σ Q) X.xe s
def UnR (X : Cx) (f : Value -> Sem Value) (r : V -> Hp -> VK -> Prop) : Prop :=
  ∀ (pins : List (Addr × Obj)) (s : Shared) (σ : St) (H : Hp) (x : V) (v : Value) (Q : VK), Inv X pins σ H s -> RelV x v -> r x H Q ->
    wpAny (model X.prog X.w) X.A (f v) (EP X pins σ Q) X.xe s
def CallR (X : Cx) (f : Value) (r : List V -> Hp -> VK -> Prop) : Prop :=
  ∀ (pins : List (Addr × Obj)) (s : Shared) (σ : St) (H : Hp) (xs : List V) (us : List Value) (Q : VK), Inv X pins σ H s -> Vals xs us -> r xs H Q ->
    wpAny (model X.prog X.w) X.A (call f us) (EP X pins σ Q) X.xe s
def tOp (r : R2) (ta tb : TE) : TE := fun σ H Q => ta σ H fun x H1 => tb σ H1 fun y H2 => r x y H2 Q
def tUn (r : V -> Hp -> VK -> Prop) (ta : TE) : TE := fun σ H Q => ta σ H fun x H1 => r x H1 Q
def rI (C : Int -> Int -> Prop) (g : Int -> Int -> V) : R2 := fun x y H Q => ∃ i j, x = .int i /\ y = .int j /\ C i j /\ Q (g i j) H
def rI0 (g : Int -> Int -> V) : R2 := fun x y H Q => ∃ i j, x = .int i /\ y = .int j /\ Q (g i j) H
def rU (g : Int -> V) : V -> Hp -> VK -> Prop := fun x H Q => ∃ i, x = .int i /\ Q (g i) H
section
variable {X : Cx} {a b c : Expr} {ta tb tc : TE} {pos : Pos}
theorem binT (ha : PE X a ta) (hb : PE X b tb) {pins : List (Addr × Obj)} {s : Shared} {σ : St} {H : Hp} {R : V -> V -> Hp -> Prop} (I : Inv X pins σ H s)
    (h : ta σ H fun x H1 => tb σ H1 fun y H2 => R x y H2) {Q : Value -> Shared -> Prop} {f : Value -> Value -> Sem Value}
    (hf : ∀ v u s2 x y H2, Inv X pins σ H2 s2 -> RelV x v -> RelV y u -> R x y H2 -> wpAny (model X.prog X.w) X.A (f v u) Q X.xe s2) :
    wpAny (model X.prog X.w) X.A (eval a X.env) (fun v s₁ => wpAny (model X.prog X.w) X.A (eval b X.env) (fun u s₂ => wpAny (model X.prog X.w) X.A (f v u) Q X.xe s₂) X.xe s₁) X.xe s := by
  refine thn (ha pins s σ H _ I h) fun v s1 ⟨x, H1, I1, r1, q1⟩ => ?_
  refine thn (hb pins s1 σ H1 _ I1 q1) fun u s2 ⟨y, H2, I2, r2, q2⟩ => ?_
  exact hf v u s2 x y H2 I2 r1 r2 q2
theorem pe_op {op : Operator} {r : R2} (ho : OpR X (binaryOp op) r) (ha : PE X a ta) (hb : PE X b tb) : PE X (.BinOp a op b pos) (tOp r ta tb) := by
  intro pins s σ H Q I h
  exact wpAny_BinOp (binT ha hb I h fun v u s2 x y H2 I2 rx ry q => ho pins s2 σ H2 x y v u Q I2 rx ry q)
theorem pe_un {op : UnaryOp} {r : V -> Hp -> VK -> Prop} (ho : UnR X (unaryOp op) r) (ha : PE X a ta) : PE X (.UnaryOp op a pos) (tUn r ta) := by
  intro pins s σ H Q I h
  exact UnaryOp_ (thn (ha pins s σ H _ I h) fun v s1 ⟨x, H1, I1, r1, q1⟩ => ho pins s1 σ H1 x v Q I1 r1 q1)
theorem opI {f : Value -> Value -> Sem Value} {C : Int -> Int -> Prop} {g : Int -> Int -> Int}
    (rule : ∀ (i j : Int) (t u : Tok) (s : Shared) (Q : Value -> Shared -> Prop) (E : Value -> Shared -> Prop), C i j -> Q (.int (g i j) s.toks) { s with toks := s.toks + 1 } -> wpAny (model X.prog X.w) X.A (f (.int i t) (.int j u)) Q E s) :
    OpR X f (rI C fun i j => .int (g i j)) := by
  intro pins s σ H x y v u Q I rx ry h
  obtain ⟨i, j, rfl, rfl, hc, q⟩ := h
  obtain ⟨t, rfl⟩ := rx
  obtain ⟨t', rfl⟩ := ry
  exact rule i j t t' s _ _ hc ⟨.int (g i j), H, I.tok _, ⟨_, rfl⟩, q⟩
theorem opI0 {f : Value -> Value -> Sem Value} {g : Int -> Int -> Int}
    (rule : ∀ (i j : Int) (t u : Tok) (s : Shared) (Q : Value -> Shared -> Prop) (E : Value -> Shared -> Prop), Q (.int (g i j) s.toks) { s with toks := s.toks + 1 } -> wpAny (model X.prog X.w) X.A (f (.int i t) (.int j u)) Q E s) :
    OpR X f (rI0 fun i j => .int (g i j)) := by
  intro pins s σ H x y v u Q I rx ry h
  obtain ⟨i, j, rfl, rfl, q⟩ := h
  obtain ⟨t, rfl⟩ := rx
  obtain ⟨t', rfl⟩ := ry
  exact rule i j t t' s _ _ ⟨.int (g i j), H, I.tok _, ⟨_, rfl⟩, q⟩
theorem opB0 {f : Value -> Value -> Sem Value} {g : Int -> Int -> Bool}
    (rule : ∀ (i j : Int) (t u : Tok) (s : Shared) (Q : Value -> Shared -> Prop) (E : Value -> Shared -> Prop), Q (.bool (g i j)) s -> wpAny (model X.prog X.w) X.A (f (.int i t) (.int j u)) Q E s) :
    OpR X f (rI0 fun i j => .bl (g i j)) := by
  intro pins s σ H x y v u Q I rx ry h
  obtain ⟨i, j, rfl, rfl, q⟩ := h
  obtain ⟨t, rfl⟩ := rx
  obtain ⟨t', rfl⟩ := ry
  exact rule i j t t' s _ _ ⟨.bl (g i j), H, I, rfl, q⟩
def CPow (i j : Int) : Prop := 0 <= j /\ j <= 1000000 /\ i.natAbs < 2 ^ 64
def CMul (i j : Int) : Prop := (-(2 ^ 64) < i /\ i < 2 ^ 64) \/ (-(2 ^ 64) < j /\ j < 2 ^ 64)
theorem CMul.ok {i j : Int} (h : CMul i j) : IntMulOk i j := by
  rcases h with ⟨h1, h2⟩ | ⟨h1, h2⟩
  . exact .of_left (intBits_le_64 h1 h2)
  . exact .of_right (intBits_le_64 h1 h2)
theorem op_add : OpR X (binaryOp .Add) (rI0 fun i j => .int (i + j)) := opI0 fun _ _ _ _ _ _ _ q => add_int q
theorem op_sub : OpR X (binaryOp .Sub) (rI0 fun i j => .int (i - j)) := opI0 fun _ _ _ _ _ _ _ q => sub_int q
theorem op_mod : OpR X (binaryOp .Mod) (rI (fun _ j => 0 < j) fun i j => .int (i % j)) := opI fun i j _ _ _ _ _ hc q => by
  have h1 : (0 : Int) < j := hc
  exact mod_int' (by omega) (by rw [Int.fmod_eq_emod_of_nonneg i (by omega)]; exact q)
theorem op_pow : OpR X (binaryOp .Pow) (rI CPow fun i j => .int (i ^ j.toNat)) := opI fun _ _ _ _ _ _ _ hc q => pow_int_small hc.1 hc.2.1 hc.2.2 q
theorem unI {f : Value -> Sem Value} {g : Int -> Int}
    (rule : ∀ (i : Int) (t : Tok) (s : Shared) (Q : Value -> Shared -> Prop) (E : Value -> Shared -> Prop), Q (.int (g i) s.toks) { s with toks := s.toks + 1 } -> wpAny (model X.prog X.w) X.A (f (.int i t)) Q E s) :
    UnR X f (rU fun i => .int (g i)) := by
  intro pins s σ H x v Q I rx h
  obtain ⟨i, rfl, q⟩ := h
  obtain ⟨t, rfl⟩ := rx
  exact rule i t s _ _ ⟨.int (g i), H, I.tok _, ⟨_, rfl⟩, q⟩
theorem un_neg : UnR X (unaryOp .USub) (rU fun i => .int (-i)) := unI fun _ _ _ _ _ q => neg_int q
end
section
variable {X : Cx} {a b c : Expr} {ta tb tc : TE} {pos : Pos}
theorem fin_bl {pins : List (Addr × Obj)} {σ : St} {H : Hp} {s : Shared} {Q : VK} {k k' : Bool} (I : Inv X pins σ H s) (q : Q (.bl k) H) (e : k = k') : EP X pins σ Q (.bool k') s := by
  subst e
  exact ⟨.bl k, H, I, rfl, q⟩
theorem op_lt : OpR X (compareOp .Lt) (rI0 fun i j => .bl (decide (i < j))) := opB0 fun _ _ _ _ _ _ _ q => lt_int q
theorem op_le : OpR X (compareOp .LtE) (rI0 fun i j => .bl (decide (i <= j))) := opB0 fun _ _ _ _ _ _ _ q => le_int q
theorem op_gt : OpR X (compareOp .Gt) (rI0 fun i j => .bl (decide (j < i))) := opB0 fun _ _ _ _ _ _ _ q => gt_int q
theorem op_ge : OpR X (compareOp .GtE) (rI0 fun i j => .bl (decide (j <= i))) := opB0 fun _ _ _ _ _ _ _ q => ge_int q
theorem op_isN : OpR X (compareOp .Is) (fun x y H Q => y = .non /\ Q (.bl (decide (x = .non))) H) := by
  intro pins s σ H x y v u Q I rx ry h
  obtain ⟨rfl, q⟩ := h
  cases ry
  refine is_none_gen (fin_bl I q ?_)
  cases x <;> first
    | (cases rx; rfl)
    | (obtain ⟨t, rfl⟩ := rx; rfl)
theorem pe_cmpR {op : CmpOp} {r : R2} (ho : OpR X (compareOp op) r) (ha : PE X a ta) (hb : PE X b tb) (hm : behindInMarks op b = false) : PE X (.Compare a [op] [b] pos) (tOp r ta tb) := by
  intro pins s σ H Q I h
  exact wpAny_Compare1 (binT ha hb I h fun v u s2 x y H2 I2 rx ry q => ho pins s2 σ H2 x y v u Q I2 rx ry q) hm
theorem line63 : (sizeLine : Nat) < 2 ^ 63 := by rw [sizeLine_eq]; decide
theorem op_add_str : OpR X (binaryOp .Add) (fun x y H Q => ∃ i j, x = .str i /\ y = .str j /\ i.length + j.length <= sizeLine /\ Q (.str (i ++ j)) H) := by
  intro pins s σ H x y v u Q I rx ry h
  obtain ⟨i, j, rfl, rfl, hz, q⟩ := h
  obtain ⟨t, rfl⟩ := rx
  obtain ⟨t', rfl⟩ := ry
  exact add_str (fun t' tk => ⟨.str (i ++ j), H, I.tok _, ⟨_, rfl⟩, q⟩) hz
theorem vals1 {x : V} {us : List Value} (r : Vals [x] us) : ∃ u, us = [u] /\ RelV x u := by
  cases r with
  | cons r1 r2 => cases r2; exact ⟨_, rfl, r1⟩
theorem vals2 {x y : V} {us : List Value} (r : Vals [x, y] us) : ∃ u w', us = [u, w'] /\ RelV x u /\ RelV y w' := by
  cases r with
  | cons r1 r2 =>
    cases r2 with
    | cons r3 r4 => cases r4; exact ⟨_, _, rfl, r1, r3⟩
theorem call_abs : CallR X (.builtin "abs") (fun xs H Q => ∃ i, xs = [.int i] /\ Q (.int (if i < 0 then -i else i)) H) := by
  intro pins s σ H xs us Q I r h
  obtain ⟨i, rfl, q⟩ := h
  obtain ⟨u, rfl, t, rfl⟩ := vals1 r
  exact call_abs_int fun u tk => ⟨.int (if i < 0 then -i else i), H, I.tok _, ⟨_, rfl⟩, q⟩
theorem call_max2 (hc : X.calm = true) : CallR X (.builtin "max") (fun xs H Q => ∃ i j, xs = [.int i, .int j] /\ Q (.int (if j > i then j else i)) H) := by
  intro pins s σ H xs us Q I r h
  obtain ⟨i, j, rfl, q⟩ := h
  obtain ⟨u, w', rfl, ⟨t, rfl⟩, ⟨t', rfl⟩⟩ := vals2 r
  refine max_two_ints (I.ok.hd hc) fun h' tk k => ⟨_, H, I.kept k, ?_, q⟩
  by_cases hj : j > i
  . rw [if_pos hj, if_pos hj]; exact ⟨_, rfl⟩
  . rw [if_neg hj, if_neg hj]; exact ⟨_, rfl⟩
theorem call_int1 : CallR X (.type "int") (fun xs H Q => (∃ i, xs = [.int i] /\ Q (.int i) H) \/ ∃ k, xs = [.bl k] /\ Q (.int (if k then 1 else 0)) H) := by
  intro pins s σ H xs us Q I r h
  rcases h with ⟨i, rfl, q⟩ | ⟨k, rfl, q⟩
  . obtain ⟨u, rfl, t, rfl⟩ := vals1 r
    exact call_int_int ⟨.int i, H, I, ⟨_, rfl⟩, q⟩
  . obtain ⟨u, rfl, r1⟩ := vals1 r
    cases r1
    exact call_int_bool ⟨.int (if k then 1 else 0), H, I.tok _, ⟨_, rfl⟩, q⟩
def LenV (K : PySem.W.Frag) (x : V) (H : Hp) (n : Nat) : Prop :=
  match x with
  | .str y => y.length <= sizeLine /\ n = y.length
  | .byt y => y.size <= sizeLine /\ n = y.size
  | .ref p => (∃ xs, SqL K H p xs /\ n = xs.length) \/ ∃ xs, SqT K H p xs /\ n = xs.length
  | _ => False
theorem call_len : CallR X (.builtin "len") (fun xs H Q => ∃ x n, xs = [x] /\ LenV X.K x H n /\ Q (.int n) H) := by
  intro pins s σ H xs us Q I r h
  obtain ⟨x, n, rfl, e, q⟩ := h
  obtain ⟨u, rfl, rx⟩ := vals1 r
  have hl := line63
  have hs : sizeLine = 16777216 := sizeLine_eq
  cases x with
  | str y =>
    obtain ⟨t, rfl⟩ := rx
    obtain ⟨hy, e'⟩ : y.length <= sizeLine /\ n = y.length := e
    subst e'
    exact len_str (by omega) ⟨.int _, H, I.tok _, ⟨_, rfl⟩, q⟩
  | byt y =>
    obtain ⟨t, rfl⟩ := rx
    obtain ⟨hy, e'⟩ : y.size <= sizeLine /\ n = y.size := e
    subst e'
    exact PySem.W.len_bytes (by omega) ⟨.int _, H, I.tok _, ⟨_, rfl⟩, q⟩
  | ref p =>
    cases rx
    have e' : (∃ xs, SqL X.K H p xs /\ n = xs.length) \/ ∃ xs, SqT X.K H p xs /\ n = xs.length := e
    rcases e' with ⟨xs, hx, e'⟩ | ⟨xs, hx, e'⟩
    . subst e'
      obtain ⟨its, r', pl, hz⟩ := I.list hx
      have hlen := r'.length
      exact Calls.call_len_list pl.isList (by simp only [List.size_toArray]; omega) ⟨.int xs.length, H, I.tok _, ⟨_, by simp only [List.size_toArray]; rw [hlen]⟩, q⟩
    . subst e'
      obtain ⟨its, r', pl, hz⟩ := I.tuple hx
      have hlen := r'.length
      exact len_tuple pl (by simp only [List.size_toArray]; omega) ⟨.int xs.length, H, I.tok _, ⟨_, by simp only [List.size_toArray]; rw [hlen]⟩, q⟩
  | _ => exact (show False from e).elim
end
structure ObjM (h : Heap) (x dx C : Addr) (mA : Str -> Option Value) : Prop where
  obj : h.get? x = some (PySem.W.instObj C dx)
  ns : h.Ns1 dx mA
  ne : dx ≠ x
theorem lookIn_ns {h : Heap} {dx : Addr} {mA : Str -> Option Value} (n : h.Ns1 dx mA) : ∃ od, h.get? dx = some od /\ ∀ name, PySem.W.lookIn name od = some (mA name) := by
  obtain ⟨o, es, ep, ho, hd, hk, _, hm⟩ := n
  refine ⟨o, ho, fun name => ?_⟩
  have e := hm name
  unfold nsFind findBy at e
  rw [<- Array.find?_toList] at e
  unfold PySem.W.lookIn
  rw [hd]
  dsimp only
  split
  . rename_i y q
    rw [q] at e
    exact congrArg some e
  . rename_i q
    rw [q] at e
    have a : es.toList.any (·.refKey) = false := by
      rw [List.any_eq_false]
      intro y hy
      obtain ⟨z, t, hkey⟩ := hk y (Array.mem_toList_iff.mp hy)
      simp [DictEntry.refKey, hkey]
    have a' : ¬ es.toList.any (·.refKey) = true := by rw [a]; exact Bool.false_ne_true
    rw [if_neg a']
    exact congrArg some e
theorem ObjM.look {h : Heap} {x dx C : Addr} {mA : Str -> Option Value} (I : ObjM h x dx C mA) : ∃ od, PySem.W.InstAt h x (PySem.W.instObj C dx) C (some od) /\ ∀ name, PySem.W.lookIn name od = some (mA name) :=
  let ⟨od, ho, hl⟩ := lookIn_ns I.ns
  ⟨od, ⟨I.obj, rfl, rfl, ho⟩, hl⟩
section
variable {prog : Program} {w : World} {A : Around} {E : Value -> Shared -> Prop} {s : Shared} {K : PySem.W.Frag} {x dx C f : Addr} {mA : Str -> Option Value} {name : Str} {v : Value}
end
section
variable {P : Program} {w : World} {H H' : Hp} {h h' : Heap} {a C dx : Addr} {fs fs' : List (Str × V)}
theorem ins_get (hok : HOk P w H h) (e : H a = some (.ins C dx fs)) : ∃ mA, ObjM h a dx C mA /\ (∀ f, RelO (fs.lookup f) (mA f)) /\ PySem.Within mA (fs.map (·.1)) /\ fs.length <= 1000 /\ H dx = some (.own a) := by
  obtain ⟨d, z, ne, ob, mA, n, r, q⟩ := (show ObjOk P w H h a (.ins C dx fs) from hok a _ e)
  exact ⟨mA, ⟨ob, n, ne⟩, r, q, z, d⟩
end
structure Cls (K : PySem.W.Frag) (C : Addr) : Prop where
  pg : PySem.W.plainGet K C Str.empty = true
  hd : PySem.W.hasDictIn K C = true
  po : PySem.W.plainOver K C = true
  sa : PySem.W.findIn K (.ref C) "__setattr__" = some (some (.builtin "object.__setattr__"))
theorem Cls.get {K : PySem.W.Frag} {C : Addr} (c : Cls K C) (f : Str) : PySem.W.plainGet K C f = true := c.pg
structure Con (K : PySem.W.Frag) (C : Addr) (f : Str) (v : V) (u : Value) : Prop where
  at_ : PySem.W.findIn K (.ref C) f = some (some u)
  rel : RelV v u
  get : PySem.W.specialIn K u "__get__" = some none
  cp : PySem.W.copiedNames.contains f = false
structure Meth (K : PySem.W.Frag) (C : Addr) (m : Str) (f : Addr) : Prop where
  at_ : PySem.W.findIn K (.ref C) m = some (some (.ref f))
  fn : PySem.W.isFn K (.ref f) = true
  kp : PySem.W.keepIn K (.ref f) = true
section
variable {X : Cx} {pins : List (Addr × Obj)} {σ : St} {H : Hp} {s : Shared} {a C dx : Addr} {fs : List (Str × V)} {f : Str} {v : V} {A : Around} {E : Value -> Shared -> Prop}
end
section
variable {X : Cx} {o e value : Expr} {f : Str} {pos pos' tpos : Pos} {ta tv : TE}
end
section
variable {X : Cx} {pins : List (Addr × Obj)} {σ : St} {H : Hp} {s : Shared} {A : Around} {E : Value -> Shared -> Prop} {Q : Value -> Shared -> Prop} {c : Value} {b : Bool}
inductive TyOf (K : PySem.W.Frag) (H : Hp) : V -> Value -> Prop where
  | non : TyOf K H .non (.type "NoneType")
  | bl (x : Bool) : TyOf K H (.bl x) (.type "bool")
  | int (i : Int) : TyOf K H (.int i) (.type "int")
  | str (x : Str) : TyOf K H (.str x) (.type "str")
  | flt (x : UInt64) : TyOf K H (.flt x) (.type "float")
  | lst {a : Addr} {xs : List V} (e : H a = some (.lst xs)) : TyOf K H (.ref a) (.type "list")
  | frz {a : Addr} {o : Obj} {xs : List V} (e : H a = some (.frz o (.lst xs))) : TyOf K H (.ref a) (.type "list")
  | tup {a : Addr} {xs : List V} (e : H a = some (.tup xs)) : TyOf K H (.ref a) (.type "tuple")
  | dK {a : Addr} {kvs : List (Key × V)} (e : H a = some (.dK kvs)) : TyOf K H (.ref a) (.type "dict")
  | dT {a : Addr} {kvs : List (List Key × V)} (e : H a = some (.dT kvs)) : TyOf K H (.ref a) (.type "dict")
  | ins {a C dx : Addr} {fs : List (Str × V)} (e : H a = some (.ins C dx fs)) (cl : Cls K C) (ha : PySem.W.findIn K (.ref C) "__class__" = some (some (.builtin "object.__class__")))
      (hn : PySem.W.specialIn K (.builtin "object.__class__") "__get__" = some (some (.builtin "getset_descriptor.__get__"))) (htk : PySem.W.takesIn K (.builtin "object.__class__") = some true)
      (hm : PySem.W.mroIn K C (.type "object") = some true) : TyOf K H (.ref a) (.ref C)
theorem isinst_ok {x : V} {u t : Value} (I : Inv X pins σ H s) (rx : RelV x u) (ty : TyOf X.K H x t) (e : PySem.W.kitOne X.K t c = some b) (h : ∀ tk, Q (.bool b) { s with toks := tk }) :
    wpAny (model X.prog X.w) A (call (.builtin "isinstance") [u, c]) Q E s := by
  cases ty with
  | non => cases (show u = Value.none from rx); exact PySem.W.kia_one PySem.W.kitx_none I.kIn True.intro e (fun z => nomatch z) h
  | bl y => cases (show u = Value.bool y from rx); exact PySem.W.kia_one PySem.W.kitx_bool I.kIn True.intro e (fun z => nomatch z) h
  | int i => obtain ⟨t, q⟩ := (show ∃ t, u = Value.int i t from rx); cases q; exact PySem.W.kia_one PySem.W.kitx_int I.kIn True.intro e (fun z => nomatch z) h
  | str y => obtain ⟨t, q⟩ := (show ∃ t, u = Value.str y t from rx); cases q; exact PySem.W.kia_one PySem.W.kitx_str I.kIn True.intro e (fun z => nomatch z) h
  | flt y => obtain ⟨t, q⟩ := (show ∃ t, u = Value.float y t from rx); cases q; exact PySem.W.kia_one PySem.W.kitx_float I.kIn True.intro e (fun z => nomatch z) h
  | @lst a xs ea =>
    cases (show u = Value.ref a from rx)
    obtain ⟨_, _, n, _, h1⟩ := (show ObjOk X.prog X.w H s.heap a (.lst xs) from I.hok a _ ea)
    exact PySem.W.kia_one PySem.W.kitx_list I.kIn ⟨_, h1, rfl⟩ e (fun z => nomatch z) h
  | @frz a ob xs ea =>
    cases (show u = Value.ref a from rx)
    obtain ⟨_, _, _, n, _, h1⟩ := (show ObjOk X.prog X.w H s.heap a (.frz ob (.lst xs)) from I.hok a _ ea)
    exact PySem.W.kia_one PySem.W.kitx_list I.kIn ⟨_, h1, rfl⟩ e (fun z => nomatch z) h
  | @tup a xs ea =>
    cases (show u = Value.ref a from rx)
    obtain ⟨_, _, _, p⟩ := (show ObjOk X.prog X.w H s.heap a (.tup xs) from I.hok a _ ea)
    obtain ⟨o, h1, h2, _⟩ := p
    exact PySem.W.kia_one PySem.W.kitx_tuple I.kIn ⟨o, h1, h2⟩ e (fun z => nomatch z) h
  | @dK a kvs ea =>
    cases (show u = Value.ref a from rx)
    obtain ⟨_, _, vs, _, p⟩ := (show ObjOk X.prog X.w H s.heap a (.dK kvs) from I.hok a _ ea)
    obtain ⟨o, es, ep, h1, h2, _⟩ := p
    exact PySem.W.kia_one PySem.W.kitx_dict I.kIn ⟨o, h1, h2.1⟩ e (fun z => nomatch z) h
  | @dT a kvs ea =>
    cases (show u = Value.ref a from rx)
    obtain ⟨_, _, xs, _, o, es, ep, h1, h2, _⟩ := (show ObjOk X.prog X.w H s.heap a (.dT kvs) from I.hok a _ ea)
    exact PySem.W.kia_one PySem.W.kitx_dict I.kIn ⟨o, h1, h2.1⟩ e (fun z => nomatch z) h
  | @ins a C dx fs ea cl ha hn htk hm =>
    cases (show u = Value.ref a from rx)
    obtain ⟨mA, O, _⟩ := ins_get I.hok ea
    obtain ⟨od, J, _⟩ := O.look
    exact PySem.W.kia_one (PySem.W.kitx_own (cl.get _) cl.hd ha hn htk hm) I.kIn J e (fun z => nomatch z) h
end
structure Room (k : Nat) (A : Around) : Prop where
  hd : A.handled = none
  dp : A.depth + 3 * k + 5 < recursionLimit
  un : A.units + 16 * k + 200 < cLine
  gd : A.guards = some []
theorem Room.mono {j k : Nat} {A : Around} (r : Room k A) (h : j <= k) : Room j A := ⟨r.hd, by have := r.dp; omega, by have := r.un; omega, r.gd⟩
theorem Room.deeper {k : Nat} {A : Around} (r : Room (k + 1) A) (env : Env) : Room k (A.deeper env) :=
  ⟨r.hd, by have := r.dp; show A.depth + 1 + 3 * k + 5 < _; omega, by have := r.un; show A.units + 3 + 16 * k + 200 < _; omega, r.gd⟩
theorem Room.depth {k : Nat} {A : Around} (r : Room k A) : A.depth < recursionLimit := by have := r.dp; omega
def tNil : TA := fun _ H Q => Q [] H
def tCons (ta : TE) (tr : TA) : TA := fun σ H Q => ta σ H fun x H1 => tr σ H1 fun xs H2 => Q (x :: xs) H2
section
variable {X : Cx} {e : Expr} {es : List Expr} {te : TE} {t : TA} {pos : Pos}
theorem pa_nil : PA X [] tNil := fun _ _ _ _ H Q I h => Calls.spliced_nil ⟨[], H, I, .nil, h⟩
theorem pa_cons (ha : PE X e te) (hr : PA X es t) (hs : starEach (e :: es) X.env = (false, eval e X.env) :: starEach es X.env := by rfl) : PA X (e :: es) (tCons te t) := by
  intro pos pins s σ H Q I h
  rw [hs]
  show wpAny _ _ (spliced ((false, eval e X.env) :: backTo pos (starEach es X.env))) _ _ s
  refine Calls.spliced_cons (thn (ha pins s σ H _ I h) fun u s1 ⟨x, H1, I1, r1, q1⟩ => ?_)
  exact thn (hr pos pins s1 σ H1 _ I1 q1) fun us s2 ⟨xs, H2, I2, r2, q2⟩ => ⟨x :: xs, H2, I2, .cons r1 r2, q2⟩
def tTup (t : TA) : TE := fun σ H Q => t σ H fun xs H1 => xs.length <= sizeLine /\ ∀ p, H1 p = none -> Q (.ref p) (upd H1 p (.tup xs))
def tLst (t : TA) : TE := fun σ H Q => t σ H fun xs H1 => xs.length <= sizeLine /\ ∀ p, H1 p = none -> Q (.ref p) (upd H1 p (.lst xs))
theorem pe_tup {x1} (h : PA X es t) : PE X (.Tuple es x1 pos) (tTup t) := by
  intro pins s σ H Q I hq
  refine wpAny_Tuple_spliced (thn (h pos pins s σ H _ I hq) fun us s1 ⟨xs, H1, I1, r, z, q⟩ => ⟨by rw [<- r.length]; exact z, ?_⟩)
  have hf : H1 s1.heap.objs.size = none := I1.hok.fresh (Nat.le_refl _)
  refine ⟨.ref s1.heap.objs.size, upd H1 s1.heap.objs.size (.tup xs), I1.laid (t' := s1.toks) (fun b u e => Heap.get?_push_of_some _ e) (Nat.le_refl _) ?_, rfl, q _ hf⟩
  exact ⟨z, us, r, ⟨_, Heap.get?_push_size _ rfl, rfl, ⟨_, rfl⟩, rfl⟩⟩
theorem pe_lst (h : PA X es t) : PE X (.List es pos) (tLst t) := by
  intro pins s σ H Q I hq
  refine wpAny_List_spliced (thn (h pos pins s σ H _ I hq) fun us s1 ⟨xs, H1, I1, r, z, q⟩ => ⟨by rw [<- r.length]; exact z, ?_⟩)
  have hf : H1 s1.heap.objs.size = none := I1.hok.fresh (Nat.le_refl _)
  refine ⟨.ref s1.heap.objs.size, upd H1 s1.heap.objs.size (.lst xs), I1.laid (t' := s1.toks) (fun b u e => Heap.get?_push_of_some _ e) (Nat.le_refl _) ?_, rfl, q _ hf⟩
  exact ⟨z, us, 0, r, Heap.get?_push_size _ rfl⟩
end
abbrev Sp := List V -> Hp -> VK -> XK -> Prop
abbrev CXT := List Env -> Hp -> Shared -> XK -> Value -> Shared -> Prop
structure Env0 (P : Program) (w : World) (K : PySem.W.Frag) (mg : Str -> Option Value) (base : Heap) (A : Around) (outer : List Env) (s : Shared) (H : Hp) : Prop where
  frames : A.frames = some outer
  mod : Mod K mg base
  bs : ∀ b o, base.get? b = some o -> s.heap.get? b = some o /\ H b = none
  bsz : base.objs.size <= s.heap.objs.size
  funs : s.heap.FunFrames base outer
  frf : ∀ b ∈ frs outer, H b = none
  hok : HOk P w H s.heap
  bare : AllBare s.gens
def CE (outer : List Env) (P : Program) (w : World) (H : Hp) (s : Shared) (Q : VK) (u : Value) (s' : Shared) : Prop :=
  ∃ v H', s'.os = s.os /\ AllBare s'.gens /\ Un (frs outer) [] H H' s.heap s'.heap /\ HOk P w H' s'.heap /\ RelV v u /\ Q v H'
def CR (CX : CXT) (outer : List Env) (P : Program) (w : World) (H : Hp) (s : Shared) (Q : VK) (E : XK) (r : Result) (s' : Shared) : Prop :=
  match r with
  | .ok (.ret u) => CE outer P w H s Q u s'
  | .ok _ => False
  | .error e => CX outer H s E e s'
structure FnOk (P : Program) (w : World) (K : PySem.W.Frag) (mg : Str -> Option Value) (base : Heap) (CX : CXT) (k : Nat) (f : Addr) (fd : FuncData) (ps : List Str) (sp : Sp) : Prop where
  len : ∀ vs H Q E, sp vs H Q E -> vs.length = ps.length
  run : ∀ (A : Around) (outer : List Env) (s : Shared) (H : Hp) (args : Args) (us : List Value) (vs : List V) (Q : VK) (E : XK), Room k A -> Env0 P w K mg base A outer s H -> BindsTo s fd args (ps.zip us) -> Vals vs us -> sp vs H Q E ->
    codeAny (model P w) A (.call (.ref f) args) (CR CX outer P w H s Q E) s
section
variable {X : Cx} {pins : List (Addr × Obj)} {σ : St} {H : Hp} {s s' : Shared}
theorem Inv.env0 (I : Inv X pins σ H s) : Env0 X.prog X.w X.K X.mg X.base X.A X.stack s H :=
  ⟨I.ok.frames, I.ok.mod, I.bs, Nat.le_trans I.ok.bsz I.sz, I.stack, I.stkFree, I.hok, I.bare⟩
theorem Inv.after {Q : VK} {u : Value} (I : Inv X pins σ H s) (h : CE X.stack X.prog X.w H s Q u s') : EP X pins σ Q u s' := by
  obtain ⟨v, H', os, bare, un, hok, r, q⟩ := h
  obtain ⟨hh, g, d, t, os'⟩ := s'
  obtain rfl : os' = s.os := os
  exact ⟨v, H', I.call (h' := hh) (g' := g) (d' := d) (t' := t) (ch := []) un hok bare (fun b z => absurd z (by simp)), r, q⟩
end
def tCall (sp : Sp) (dvs : List V) (E : XK) (t : TA) : TE := fun σ H Q => t σ H fun vs H1 => sp (vs ++ dvs) H1 Q E
def Binds (K : PySem.W.Frag) (fd : FuncData) (ps : List Str) (ds : List Value) : Prop :=
  ∀ (s : Shared) (us : List Value), K.In s.heap -> (us ++ ds).length = ps.length -> BindsTo s fd ⟨us, []⟩ (ps.zip (us ++ ds))
theorem Binds.all {K : PySem.W.Frag} {fd : FuncData} {ps : List Str} (h : ∀ us : List Value, us.length = ps.length -> bindArgs fd ⟨us, []⟩ = pure (ps.zip us)) : Binds K fd ps [] := fun s us _ hl => by
  rw [List.append_nil] at hl ⊢
  exact .of_eq (h us hl)
def Passes (CX : CXT) (X : Cx) (E : XK) : Prop := ∀ (pins : List (Addr × Obj)) (σ : St) (H : Hp) (s : Shared) (e : Value) (s' : Shared), Inv X pins σ H s -> CX X.stack H s E e s' -> X.xe e s'
section
variable {X : Cx} {CX : CXT} {k : Nat} {f C : Addr} {fd : FuncData} {ps : List Str} {sp : Sp} {dvs : List V} {ds : List Value} {E : XK} {x m : Str} {p pos apos : Pos} {e o : Expr} {es : List Expr} {ta : TE} {t : TA}
theorem run_fn {pins : List (Addr × Obj)} {σ : St} {H : Hp} {s : Shared} {Q : VK} {us : List Value} {vs : List V} (F : FnOk X.prog X.w X.K X.mg X.base CX k f fd ps sp) (hr : Room k X.A) (hb : Binds X.K fd ps ds) (hd : Vals dvs ds) (hx : Passes CX X E)
    (I : Inv X pins σ H s) (r : Vals vs us) (h : sp (vs ++ dvs) H Q E) : wpAny (model X.prog X.w) X.A (call (.ref f) us) (EP X pins σ Q) X.xe s := by
  have r2 : Vals (vs ++ dvs) (us ++ ds) := r.append hd
  have hl : (us ++ ds).length = ps.length := by rw [<- r2.length]; exact F.len _ _ _ _ h
  refine wpAny_call (codeAny_mono (F.run X.A X.stack s H ⟨us, []⟩ (us ++ ds) (vs ++ dvs) Q E hr I.env0 (hb s us I.kIn hl) r2 h) fun r s' hq => ?_)
  cases r with
  | error e => exact hx pins σ H s e s' I hq
  | ok fl =>
    cases fl with
    | ret u => exact I.after hq
    | next => exact False.elim hq
    | brk => exact False.elim hq
    | cont => exact False.elim hq
theorem pe_call (F : FnOk X.prog X.w X.K X.mg X.base CX k f fd ps sp) (hr : Room k X.A) (hg : Gl X x) (hm : X.mg x = some (.ref f)) (hk : PySem.W.keepIn X.K (.ref f) = true) (hb : Binds X.K fd ps ds) (hd : Vals dvs ds) (hx : Passes CX X E)
    (ha : PA X (e :: es) t) (hdb : (x == ("__debug__" : Str)) = false := by decide) (he : starEach (e :: es) X.env = (false, eval e X.env) :: starEach es X.env := by rfl) (hpl : (backTo pos (starEach es X.env)).any (·.1) = false := by rfl) :
    PE X (.Call (.Name x p) (e :: es) [] pos) (tCall sp dvs E t) := by
  intro pins s σ H Q I h
  refine wpAny_Call_Name_kw (ld_glob I hg hm ?_ hdb)
  refine PySem.W.callWith_K (h₀ := X.base) I.ok.mod.kin hk (thn (ha pos pins s σ H _ I h) fun us s1 ⟨vs, H1, I1, r, q⟩ => ⟨I1.kIn, ?_⟩) he hpl
  exact run_fn F hr hb hd hx I1 r q
structure Mk (K : PySem.W.Frag) (C f : Addr) : Prop where
  makes : PySem.W.makesIn K C = true
  init : PySem.W.findIn K (.ref C) "__init__" = some (some (.ref f))
  fn : PySem.W.isFn K (.ref f) = true
  kp : PySem.W.keepIn K (.ref C) = true
end
section
variable {X : Cx} {CX : CXT} {k : Nat} {f C : Addr} {fd : FuncData} {ps ks : List Str} {sp : Sp} {E : XK} {x m : Str} {p pos apos kpos : Pos} {e o : Expr} {es : List Expr} {kws : List Keyword} {te ta : TE} {t tk : TA} {nm : Option Str}
structure KBinds (K : PySem.W.Frag) (fd : FuncData) (ps ks : List Str) (g : List Value -> List Value -> List Value) (gV : List V -> List V -> List V) : Prop where
  to : ∀ (s : Shared) (us ws : List Value), K.In s.heap -> (g us ws).length = ps.length -> BindsTo s fd ⟨us, ks.zip ws⟩ (ps.zip (g us ws))
  rel : ∀ {vs : List V} {us : List Value} {zs : List V} {ws : List Value}, Vals vs us -> Vals zs ws -> Vals (gV vs zs) (g us ws)
variable {g : List Value -> List Value -> List Value} {gV : List V -> List V -> List V}
end
structure FnScope (N P : List Str) (sc : Scope) : Prop where
  kind : sc.kind = .function
  co : sc.isCoroutine = false
  gen : sc.isGenerator = false
  nd : N.Nodup
  pre : N.take P.length = P
  par : ∀ x ∈ P, sc.names.lookup x = some .local \/ sc.names.lookup x = some .cell
  nofree : ∀ y ∈ sc.names, y.2 ≠ .free
theorem bindL_out {kindOf : Str -> Option NameKind} {x : Str} : ∀ {binds : List (Str × Value)} {m : Str -> Option Value}, (∀ v, (x, v) ∉ binds) -> bindL kindOf binds m x = m x
  | [], _, _ => rfl
  | (n, v) :: r, m, h => by
    unfold bindL
    rw [bindL_out fun w hw => h w (List.mem_cons_of_mem _ hw)]
    split
    . have : x ≠ n := by rintro rfl; exact h v List.mem_cons_self
      simp [this]
    . rfl
theorem bindC_out {kindOf : Str -> Option NameKind} {x : Str} : ∀ {binds : List (Str × Value)} {m : Str -> Option Value}, (∀ v, (x, v) ∉ binds) -> bindC kindOf binds m x = m x
  | [], _, _ => rfl
  | (n, v) :: r, m, h => by
    unfold bindC
    rw [bindC_out fun w hw => h w (List.mem_cons_of_mem _ hw)]
    split
    . rfl
    . have : x ≠ n := by rintro rfl; exact h v List.mem_cons_self
      simp [this]
theorem bindL_get {kindOf : Str -> Option NameKind} {x : Str} {v : Value} : ∀ {P : List Str} {vs : List Value} {i : Nat} {m : Str -> Option Value}, P.Nodup -> P[i]? = some x -> vs[i]? = some v -> kindOf x = some .local ->
    bindL kindOf (P.zip vs) m x = some v
  | [], _, _, _, _, h, _, _ => by simp at h
  | _ :: _, [], _, _, _, _, h, _ => by simp at h
  | p :: P, w :: vs, 0, m, nd, h1, h2, hk => by
    simp at h1 h2; subst h1; subst h2
    show bindL kindOf ((p, w) :: P.zip vs) m p = _
    unfold bindL
    rw [bindL_out fun v hv => (List.nodup_cons.mp nd).1 (List.of_mem_zip hv).1, if_pos hk]
    simp
  | p :: P, w :: vs, i + 1, m, nd, h1, h2, hk => by
    show bindL kindOf ((p, w) :: P.zip vs) m x = _
    unfold bindL
    exact bindL_get (i := i) (List.nodup_cons.mp nd).2 (by simpa using h1) (by simpa using h2) hk
theorem bindC_get {kindOf : Str -> Option NameKind} {x : Str} {v : Value} : ∀ {P : List Str} {vs : List Value} {i : Nat} {m : Str -> Option Value}, P.Nodup -> P[i]? = some x -> vs[i]? = some v -> kindOf x ≠ some .local ->
    bindC kindOf (P.zip vs) m x = some v
  | [], _, _, _, _, h, _, _ => by simp at h
  | _ :: _, [], _, _, _, _, h, _ => by simp at h
  | p :: P, w :: vs, 0, m, nd, h1, h2, hk => by
    simp at h1 h2; subst h1; subst h2
    show bindC kindOf ((p, w) :: P.zip vs) m p = _
    unfold bindC
    rw [bindC_out fun v hv => (List.nodup_cons.mp nd).1 (List.of_mem_zip hv).1, if_neg hk]
    simp
  | p :: P, w :: vs, i + 1, m, nd, h1, h2, hk => by
    show bindC kindOf ((p, w) :: P.zip vs) m x = _
    unfold bindC
    exact bindC_get (i := i) (List.nodup_cons.mp nd).2 (by simpa using h1) (by simpa using h2) hk
def start (N : List Str) (vs : List V) : St := vs.map some ++ List.replicate (N.length - vs.length) none
def cxOf (CX : CXT) (P : Program) (w : World) (K : PySem.W.Frag) (mg : Str -> Option Value) (base : Heap) (N : List Str) (qual : Str) (scope : Scope) (f : Addr) (cd : Value) (A : Around) (outer : List Env) (s : Shared) (H : Hp) (E : XK) : Cx where
  prog := P
  w := w
  K := K
  mg := mg
  base := base
  A := A.deeper (envOfC qual scope s.heap.objs.size f cd)
  N := N
  s₀ := s
  H₀ := H
  env := envOfC qual scope s.heap.objs.size f cd
  outer := outer
  stack := envOfC qual scope s.heap.objs.size f cd :: outer
  ex := []
  calm := true
  fn := fun _ => true
  pn := []
  xe := fun e s' => wpAny (model P w) (A.deeper (envOfC qual scope s.heap.objs.size f cd)) (leaving (envOfC qual scope s.heap.objs.size f cd) e) (fun _ s'' => CX outer H s E e s'') (fun e' s'' => CX outer H s E e' s'') s'
theorem cell_has {sc : Scope} {n : Nat} {x : Str} (h : sc.names.lookup x = some .cell) : ∃ c, (cellsFrom n sc.names []).lookup x = some c := by
  have q := PySem.W.cellsFrom_some sc.names n [] (.inl h)
  exact Option.isSome_iff_exists.mp q
theorem inv_start {CX : CXT} {P : Program} {w : World} {K : PySem.W.Frag} {mg : Str -> Option Value} {base : Heap} {N ps : List Str} {qual : Str} {scope : Scope} {f : Addr} {cd : Value} {A : Around} {outer : List Env} {s s1 : Shared} {H : Hp} {E : XK} {us : List Value} {vs : List V}
    (S : FnScope N ps scope) (hd : A.handled = none) (e0 : Env0 P w K mg base A outer s H) (hl : vs.length = ps.length) (r : Vals vs us)
    (x : InCallC s s.heap.objs.size (bindL (envOfC qual scope s.heap.objs.size f cd).kindOf (ps.zip us) fun _ => none) (cellsFrom (s.heap.objs.size + 1) scope.names []) (bindC (envOfC qual scope s.heap.objs.size f cd).kindOf (ps.zip us) fun _ => none) s1) :
    Inv (cxOf CX P w K mg base N qual scope f cd A outer s H E) [] (start N vs) H s1 := by
  have hpl : ps.length <= N.length := by have := congrArg List.length S.pre; rw [List.length_take] at this; omega
  obtain ⟨h1, tk, rfl, hk⟩ := x.done
  have noA : ∀ b : Addr, b ∉ (cxOf CX P w K mg base N qual scope f cd A outer s H E).ex := fun b z => absurd (show b ∈ ([] : List Addr) from z) (by simp)
  refine ⟨⟨e0.mod, S.kind, rfl, rfl, Nat.le_refl _, fun y z c h1 h2 => ?_, fun y hy => ?_, fun y c _ h => ?_, fun _ => hd, Around.frames_deeper e0.frames, .inr ⟨rfl, rfl⟩, fun b z => absurd z (noA b), e0.bs, e0.bsz, fun b _ _ => noA b, fun b z => absurd z (noA b), e0.funs, e0.frf⟩,
    rfl, e0.bare, Un.kept hk, ⟨_, x.toInCall.ns, fun i y v h1 h2 h3 => ?_⟩, fun y c h => ⟨_, x.cell y c h⟩, e0.hok.fresh (Nat.le_refl _), fun y c h => ?_, fun p hp => absurd (show p ∈ ([] : List (Addr × Obj)) from hp) (by simp), e0.hok.kept hk, ?_⟩
  . exact name_of_addr x.apart (PySem.mem_of_lookup h1) (PySem.mem_of_lookup h2)
  . have hy : scope.names.lookup y = some .cell \/ scope.names.lookup y = some .free := hy
    rcases hy with hy | hy
    . exact cell_has hy
    . exact absurd rfl (S.nofree _ (PySem.mem_of_lookup hy))
  . exact Nat.le_of_lt (x.above y c (PySem.mem_of_lookup h))
  . have hi : i < vs.length := by
      unfold start at h2
      by_cases hi : i < vs.length
      . exact hi
      . rw [List.getElem?_append_right (by simpa using hi)] at h2
        rw [List.getElem?_replicate] at h2
        split at h2 <;> cases h2
    have ha : vs[i]? = some v := by
      unfold start at h2
      rw [List.getElem?_append_left (by simpa using hi), List.getElem?_map] at h2
      cases e : vs[i]? with
      | none => rw [e] at h2; cases h2
      | some a => rw [e] at h2; cases h2; rfl
    obtain ⟨u, hu, rv⟩ := r.get ha
    have hp : ps[i]? = some y := by
      rw [<- S.pre, List.getElem?_take_of_lt (by omega)]; exact h1
    have ndP : ps.Nodup := by rw [<- S.pre]; exact S.nd.sublist (List.take_sublist _ _)
    refine ⟨u, rv, ?_⟩
    rcases S.par y (List.mem_of_getElem? hp) with k | k
    . exact .inl ⟨k, bindL_get ndP hp hu k⟩
    . obtain ⟨c, e⟩ := cell_has (n := s.heap.objs.size + 1) k
      refine .inr ⟨.inl k, c, e, ?_⟩
      have q := x.cell y c e
      rw [bindC_get ndP hp hu (by show scope.names.lookup y ≠ _; rw [k]; decide)] at q
      exact q
  . exact e0.hok.fresh (Nat.le_of_lt (x.above y c (PySem.mem_of_lookup h)))
  . unfold start
    show _ = N.length
    rw [List.length_append, List.length_map, List.length_replicate]
    omega
theorem fn_of {CX : CXT} {P : Program} {w : World} {K : PySem.W.Frag} {mg : Str -> Option Value} {base : Heap} {k : Nat} {f : Addr} {name qual : Str} {params : Arguments} {body : List Stmt} {scope : Scope} {dV kV doc pm cdv ct oc : Value} {an od : Option Addr}
    {osl : Array (Option Value)} {N ps : List Str} {sp : Sp} (lk : K.lookup f = some ⟨oc, od, .func (PySem.W.fnOf name qual params body scope dV kV doc pm an cdv ct), osl⟩) (hcd : PySem.W.codeIn K cdv qual = true) (S : FnScope N ps scope)
    (len : ∀ vs H Q E, sp vs H Q E -> vs.length = ps.length)
    (hbody : ∀ (A : Around) (outer : List Env) (s : Shared) (H : Hp) (vs : List V) (Q : VK) (E : XK), Room k (A.deeper (envOfC qual scope s.heap.objs.size f cdv)) -> sp vs H Q E ->
      ∃ t, PSs (cxOf CX P w K mg base N qual scope f cdv A outer s H E) body t /\ t { nx := fun _ H' => Q .non H', rt := Q } (start N vs) H) :
    FnOk P w K mg base CX (k + 1) f (PySem.W.fnOf name qual params body scope dV kV doc pm an cdv ct) ps sp := by
  refine ⟨len, fun A outer s H args us vs Q E hr e0 hb r hsp => ?_⟩
  have hl := len _ _ _ _ hsp
  have KX : K.In s.heap := e0.mod.kin.keeps fun b o e => (e0.bs b o e).1
  have lim : s.heap.NoLimit := e0.mod.nolimit.keeps fun b o e => (e0.bs b o e).1
  have hkind : ∀ y ∈ ps.zip us, scope.names.lookup y.1 = some .local \/ (scope.names.lookup y.1 = some .cell /\ ((cellsFrom (s.heap.objs.size + 1) scope.names []).lookup y.1).isSome = true) := fun ⟨n, v⟩ hy => by
    rcases S.par n (List.of_mem_zip hy).1 with q | q
    . exact .inl q
    . exact .inr ⟨q, PySem.W.cellsFrom_some _ _ _ (.inl q)⟩
  refine codeAny_call_function hr.depth (KX _ _ lk) rfl S.co S.gen rfl (PySem.W.codeRec_of KX hcd) (hb _ _ _ _ ?_)
  refine wpAny_newFunctionEnv_cells S.kind hkind fun env he s1 x => ?_
  subst he
  refine ⟨lim.keeps x.toInCall.keep, codeAny_func ?_⟩
  obtain ⟨t, ht, hq⟩ := hbody A outer s H vs Q E (hr.deeper _) hsp
  have I : Inv (cxOf CX P w K mg base N qual scope f cdv A outer s H E) [] (start N vs) H s1 := inv_start S hr.hd e0 hl r x
  refine wpAny_mono (ht [] s1 (start N vs) H _ I hq) (fun fl s' hs => ?_) fun e s' hs => hs
  have fin : ∀ {σ' : St} {H' : Hp} {v : V} {u : Value}, Inv (cxOf CX P w K mg base N qual scope f cdv A outer s H E) [] σ' H' s' -> RelV v u -> Q v H' -> CE outer P w H s Q u s' :=
    fun {σ' H' v u} J rv q => ⟨v, H', J.os, J.bare, J.base, J.hok, rv, q⟩
  cases fl with
  | ret u =>
    obtain ⟨v, σ', H', J, rv, q⟩ := hs
    exact fin J rv q
  | next =>
    obtain ⟨σ', H', J, q⟩ := hs
    exact fin (v := V.non) (u := Value.none) J rfl q
  | brk =>
    obtain ⟨_, _, _, q⟩ := hs
    exact False.elim q
  | cont =>
    obtain ⟨_, _, _, q⟩ := hs
    exact False.elim q
section
variable {X : Cx} {x : Str} {p pos : Pos} {e : Expr} {es : List Expr} {t : TA} {id T : String} {r : List V -> Hp -> VK -> Prop}
def tCB (r : List V -> Hp -> VK -> Prop) (t : TA) : TE := fun σ H Q => t σ H fun vs H1 => r vs H1 Q
theorem pe_callB (hc : CallR X (.builtin id) r) (hg : Gl X x) (hm : X.mg x = none) (hv : bootBuiltins x = some (.builtin id)) (ha : PA X (e :: es) t) (hn : x ≠ "__name__" := by decide) (hdb : (x == ("__debug__" : Str)) = false := by decide)
    (he : starEach (e :: es) X.env = (false, eval e X.env) :: starEach es X.env := by rfl) (hpl : (backTo pos (starEach es X.env)).any (·.1) = false := by rfl) : PE X (.Call (.Name x p) (e :: es) [] pos) (tCB r t) := by
  intro pins s σ H Q I h
  refine wpAny_Call_Name_kw (ld_blt I hg hm hv ?_ hn hdb)
  exact PyProof.Rows.callWith_builtin1 (thn (ha pos pins s σ H _ I h) fun us s1 ⟨vs, H1, I1, r1, q1⟩ => hc pins s1 σ H1 vs us Q I1 r1 q1) he hpl
theorem pe_callTy (hc : CallR X (.type T) r) (hg : Gl X x) (hm : X.mg x = none) (hv : bootBuiltins x = some (.type T)) (ha : PA X (e :: es) t) (hn : x ≠ "__name__" := by decide) (hdb : (x == ("__debug__" : Str)) = false := by decide)
    (he : starEach (e :: es) X.env = (false, eval e X.env) :: starEach es X.env := by rfl) (hpl : (backTo pos (starEach es X.env)).any (·.1) = false := by rfl) : PE X (.Call (.Name x p) (e :: es) [] pos) (tCB r t) := by
  intro pins s σ H Q I h
  refine wpAny_Call_Name_kw (ld_blt I hg hm hv ?_ hn hdb)
  exact PyProof.Rows.callWith_type1 (thn (ha pos pins s σ H _ I h) fun us s1 ⟨vs, H1, I1, r1, q1⟩ => hc pins s1 σ H1 vs us Q I1 r1 q1) he hpl
end
end L2
namespace HT
open PySem PyProof.Rows
section
open PySem.SeqAt
open PySem.AutoSeq1 (wpAny_loadPart')
open PySem.MeetsSeq PySem.MeetsSeq2 PySem.MeetsSeq3
end
section
variable {prog : Program} {w : World} {A : Around} {E : Value -> Shared -> Prop} {s : Shared}
theorem cat_tup {t b : Addr} {vs ws : List Value} {Q : Value -> Shared -> Prop} (ht : IsTup s.heap t vs.toArray) (hb : IsTup s.heap b ws.toArray) (hv : vs ≠ [])
    (h1 : ws = [] -> Q (.ref t) s) (h2 : ws ≠ [] -> Q (.ref s.heap.objs.size) { s with heap := s.heap.push { cls := .type "tuple", data := .seq (vs ++ ws).toArray } })
    (hsz : vs.length + ws.length <= sizeLine) : wpAny (model prog w) A (binaryOp .Add (.ref t) (.ref b)) Q E s := by
  obtain ⟨⟨cls, dd, data, sl⟩, ho, hc, n, hd⟩ := id ht
  obtain ⟨⟨cls2, dd2, data2, sl2⟩, ho2, hc2, n2, hd2⟩ := id hb
  simp only at hc hd hc2 hd2
  subst hc hd hc2 hd2
  have e : vs.toArray ++ ws.toArray = (vs ++ ws).toArray := by simp
  by_cases hw : ws = []
  . exact concat_meets ⟨_, ho, rfl⟩ ⟨_, ho2, rfl⟩ noFill_tuple_add seq_tuple_add PySem.F.slot_tuple_add PySem.F.entry_tuple_add (PySem.F.args_tuple_add_2 _ _)
      (tuple_addW1 t b vs.toArray ws.toArray n n2 dd dd2 sl sl2 (by simpa using hv) (by simp [hw])) ⟨ho, ho2, h1 hw⟩
  . refine concat_meets ⟨_, ho, rfl⟩ ⟨_, ho2, rfl⟩ noFill_tuple_add seq_tuple_add PySem.F.slot_tuple_add PySem.F.entry_tuple_add (PySem.F.args_tuple_add_2 _ _)
      (tuple_addW2 t b vs.toArray ws.toArray n n2 dd dd2 sl sl2 (by simpa using hv) (by simpa using hw) (by rw [List.size_toArray, List.size_toArray]; exact hsz)) ⟨ho, ho2, ?_⟩
    rw [e]
    exact h2 hw
def sIx (n d : Nat) : Option Int -> Nat
  | none => d
  | some v => if v < 0 then (v + (n : Int)).toNat else min v.toNat n
theorem sIx_le (n d : Nat) (hd : d <= n) (o : Option Int) : sIx n d o <= n := by
  cases o with
  | none => exact hd
  | some v =>
    show (if v < 0 then (v + (n : Int)).toNat else min v.toNat n) <= n
    by_cases hv : v < 0
    . rw [if_pos hv]; omega
    . rw [if_neg hv]; exact Nat.min_le_right _ _
theorem clip_eq (v : Int) (n d : Nat) : (if v < 0 then max (v + (n : Int)) 0 else min v (n : Int)) = ((sIx n d (some v) : Nat) : Int) := by
  show (if v < 0 then max (v + (n : Int)) 0 else min v (n : Int)) = (((if v < 0 then (v + (n : Int)).toNat else min v.toNat n) : Nat) : Int)
  by_cases hv : v < 0
  . simp only [if_pos hv]; omega
  . simp only [if_neg hv]; omega
theorem adjust_gen (lo hi : Option Int) (n : Nat) : Builtin.Slice.sliceAdjust lo hi 1 (n : Int) = (((sIx n 0 lo : Nat) : Int), ((sIx n n hi : Nat) : Int)) := by
  have h1 : ¬ ((1 : Int) < 0) := by omega
  unfold Builtin.Slice.sliceAdjust
  simp only [h1, if_false]
  refine Prod.ext ?_ ?_
  . cases lo with
    | none => rfl
    | some v => exact clip_eq v n 0
  . cases hi with
    | none => rfl
    | some v => exact clip_eq v n n
theorem places_gen (i j : Nat) : Builtin.Slice.slicePlaces (i : Int) (j : Int) 1 = j - i := by
  unfold Builtin.Slice.slicePlaces
  have h1 : (1 : Int) > 0 := by omega
  simp only [h1, if_true, Int.ediv_one]
  split <;> omega
theorem slicePart_ {v : Value} {o : Option Int} {Q : Option Int -> Shared -> Prop} (p : IsPart v o) (h : Q o s) : wpAny (model prog w) A (Builtin.Slice.slicePartIndex v) Q E s := by
  cases p with
  | none => exact slicePart_none h
  | int i t => exact slicePart_int h
theorem sliceApplied_gen {sl : Addr} {vl vu : Value} {lo hi : Option Int} {n : Nat} {Q : Int × Int × Nat -> Shared -> Prop} (hs : s.heap.IsSliceOf sl vl vu .none) (pl : IsPart vl lo) (pu : IsPart vu hi)
    (h : Q (((sIx n 0 lo : Nat) : Int), 1, sIx n n hi - sIx n 0 lo) s) : wpAny (model prog w) A (Builtin.Slice.sliceApplied (.ref sl) (pure (n : Int))) Q E s := by
  obtain ⟨os, hos, hcs, hds⟩ := id hs
  unfold Builtin.Slice.sliceApplied Builtin.Slice.sliceFields
  refine wpAny_bind (wpAny_bind (wpAny_field hos hds (x := vl) rfl (wpAny_bind (wpAny_field hos hds (x := vu) rfl (wpAny_bind (wpAny_field hos hds (x := .none) rfl (wpAny_pure ?_)))))))
  refine wpAny_bind (slicePart_none ?_)
  show wpAny _ _ (if ((1 : Int) == 0) = true then _ else _) _ _ s
  rw [if_neg (by decide)]
  refine wpAny_bind (slicePart_ pl (wpAny_bind (slicePart_ pu (wpAny_bind (wpAny_pure ?_)))))
  show wpAny _ _ (match Builtin.Slice.sliceAdjust lo hi 1 (n : Int) with | (lo, hi) => pure (lo, (1 : Int), Builtin.Slice.slicePlaces lo hi 1)) _ _ s
  rw [adjust_gen lo hi n]
  show wpAny _ _ (pure (((sIx n 0 lo : Nat) : Int), (1 : Int), Builtin.Slice.slicePlaces ((sIx n 0 lo : Nat) : Int) ((sIx n n hi : Nat) : Int) 1)) _ _ s
  rw [places_gen]
  exact wpAny_pure h
theorem pick_gen (xs : Array Value) (i k : Nat) : ((List.range k).filterMap fun (m : Nat) => xs[((i : Int) + (m : Int) * 1).toNat]?).toArray = ((xs.toList.drop i).take k).toArray := by
  have e : (fun (m : Nat) => xs[((i : Int) + (m : Int) * 1).toNat]?) = fun m => xs[i + m]? := by
    funext m
    have : ((i : Int) + (m : Int) * 1).toNat = i + m := by omega
    rw [this]
  rw [e]
  have := pick_run xs i k
  rw [List.filterMap_map] at this
  have e2 : ((fun x => xs[x]?) ∘ fun x => i + x) = fun m => xs[i + m]? := rfl
  rw [e2] at this
  rw [this]
theorem getItem_tuple_cut {t sl : Addr} {items : Array Value} {vl vu : Value} {lo hi : Option Int} {Q : Value -> Shared -> Prop} (ht : IsTup s.heap t items) (hs : s.heap.IsSliceOf sl vl vu .none) (pl : IsPart vl lo) (pu : IsPart vu hi)
    (hw : ¬ (sIx items.size 0 lo = 0 /\ sIx items.size items.size hi = items.size))
    (h : Q (.ref s.heap.objs.size) { s with heap := s.heap.push { cls := .type "tuple", data := .seq ((items.toList.drop (sIx items.size 0 lo)).take (sIx items.size items.size hi - sIx items.size 0 lo)).toArray } })
    (hsz : items.size <= sizeLine) : wpAny (model prog w) A (getItem (.ref t) (.ref sl)) Q E s := by
  have htake : sizeOk (.seq ((items.toList.drop (sIx items.size 0 lo)).take (sIx items.size items.size hi - sIx items.size 0 lo)).toArray) := by
    show ((items.toList.drop (sIx items.size 0 lo)).take (sIx items.size items.size hi - sIx items.size 0 lo)).toArray.size <= sizeLine
    rw [List.size_toArray, List.length_take, List.length_drop, Array.length_toList]
    omega
  have hj : sIx items.size items.size hi <= items.size := sIx_le _ _ (Nat.le_refl _) hi
  obtain ⟨os, hos, hcs, hds⟩ := id hs
  have hTs : s.TypeIs (.ref sl) "slice" := ⟨os, hos, hcs⟩
  unfold getItem
  try with_reducible refine wpAny_holding ?_
  first | refine wpAny_bind (wpAny_pure ?_) | skip
  refine wpAny_bind (wpAny_sequenceKey ht.typeIs (by decide) ?_)
  refine wpAny_bind (wpAny_callSpecial?_slot (name := Str.ofString "__getitem__") ht.typeIs PyProof.Rows.slot_tuple_getitem
    (wpAny_call_entry PyProof.Rows.slot_tuple_getitem ht.typeIs entry_tuple_getitem ?_ (args_tuple_getitem _ _)))
  show wpAny _ _ (Builtin.Tuple.tupleItemsOf (.ref t) >>= _) _ _ s
  refine wpAny_bind (tupleItemsOf_ ht ?_)
  refine wpAny_bind (wpAny_typeOf hTs ?_)
  rw [if_pos (by decide)]
  refine wpAny_bind (sliceApplied_gen hs pl pu ?_)
  have hno : ¬ ((((sIx items.size 0 lo : Nat) : Int) == 0 && (1 : Int) == 1 && (sIx items.size items.size hi - sIx items.size 0 lo) == items.size) = true) := by
    intro q
    rw [Bool.and_eq_true, Bool.and_eq_true] at q
    have q1 : ((sIx items.size 0 lo : Nat) : Int) = 0 := eq_of_beq q.1.1
    have q2 : sIx items.size items.size hi - sIx items.size 0 lo = items.size := eq_of_beq q.2
    exact hw ⟨by omega, by omega⟩
  show wpAny _ _ (if (((sIx items.size 0 lo : Nat) : Int) == 0 && (1 : Int) == 1 && (sIx items.size items.size hi - sIx items.size 0 lo) == items.size) = true then _ else _) _ _ s
  rw [if_neg hno, pick_gen]
  first
    | exact wpAny_bind (m := Builtin.Tuple.tupleExact _) (wpAny_newObj_type (wpAny_pure ⟨_, rfl, wpAny_pure h⟩) htake)
    | exact wpAny_bind (m := Builtin.Tuple.tupleExact _) (wpAny_newObj_type (wpAny_bind (wpAny_pure (wpAny_pure ⟨_, rfl, wpAny_pure h⟩))) htake)
    | exact wpAny_bind (wpAny_bind (m := Builtin.Tuple.tupleExact _) (wpAny_newObj_type (wpAny_pure (wpAny_pure ⟨_, rfl, wpAny_pure h⟩)) htake))
    | exact wpAny_bind (wpAny_bind (m := Builtin.Tuple.tupleExact _) (wpAny_newObj_type (wpAny_pure ⟨_, rfl, wpAny_pure h⟩) htake))
end
end HT
namespace L2
open PySem PySem.Spec PyProof.Rows
abbrev TO := St -> Hp -> (Option Int -> Hp -> Prop) -> Prop
def PO (X : Cx) (e : Option Expr) (t : TO) : Prop :=
  ∀ (pins : List (Addr × Obj)) (s : Shared) (σ : St) (H : Hp) (Q : Option Int -> Hp -> Prop), Inv X pins σ H s -> t σ H Q ->
    wpAny (model X.prog X.w) X.A (evalPart e X.env) (fun u s' => ∃ o H', Inv X pins σ H' s' /\ IsPart u o /\ Q o H') X.xe s
def tNoPart : TO := fun _ H Q => Q none H
def tPart (t : TE) : TO := fun σ H Q => t σ H fun x H1 => ∃ i, x = .int i /\ Q (some i) H1
section
variable {X : Cx} {e : Expr} {te : TE} {lo hi : Option Expr} {tl th : TO} {pos p2 : Pos}
theorem po_none : PO X none tNoPart := by
  intro pins s σ H Q I h
  rw [evalPart_none]
  exact wpAny_pure ⟨none, H, I, .none, h⟩
theorem po_some (h : PE X e te) : PO X (some e) (tPart te) := by
  intro pins s σ H Q I hw
  rw [evalPart_some]
  refine thn (h pins s σ H _ I hw) fun u s1 ⟨x, H1, I1, r1, q1⟩ => ?_
  obtain ⟨i, rfl, q⟩ := q1
  obtain ⟨t, rfl⟩ := r1
  exact ⟨some i, H1, I1, .int i t, q⟩
def SlR (X : Cx) (r : V -> Option Int -> Option Int -> Hp -> VK -> Prop) : Prop :=
  ∀ (pins : List (Addr × Obj)) (s : Shared) (σ : St) (H : Hp) (x : V) (v vl vu : Value) (lo hi : Option Int) (sl : Addr) (Q : VK), Inv X pins σ H s -> RelV x v -> s.heap.IsSliceOf sl vl vu .none -> IsPart vl lo -> IsPart vu hi -> r x lo hi H Q ->
    ∃ T id, typeLookup (.type T) "__getitem__" = pure (some (.builtin id)) /\ s.TypeIs v T /\ wpAny (model X.prog X.w) X.A (getItem v (.ref sl)) (EP X pins σ Q) X.xe s
def tSl (r : V -> Option Int -> Option Int -> Hp -> VK -> Prop) (te : TE) (tl th : TO) : TE := fun σ H Q => te σ H fun x H1 => tl σ H1 fun l H2 => th σ H2 fun u H3 => r x l u H3 Q
theorem pe_slice {r : V -> Option Int -> Option Int -> Hp -> VK -> Prop} (hr : SlR X r) (he : PE X e te) (hl : PO X lo tl) (hu : PO X hi th) : PE X (.Subscript e (.Slice lo hi none p2) pos) (tSl r te tl th) := by
  intro pins s σ H Q I h
  refine Subscript_ (thn (he pins s σ H _ I h) fun v s1 ⟨x, H1, I1, r1, q1⟩ => ?_)
  refine wpAny_Slice (thn (hl pins s1 σ H1 _ I1 q1) fun vl s2 ⟨l, H2, I2, pl, q2⟩ => thn (hu pins s2 σ H2 _ I2 q2) fun vu s3 ⟨u, H3, I3, pu, q3⟩ => ?_)
  rw [evalPart_none]
  refine wpAny_pure ?_
  have I4 : Inv X pins σ H3 { s3 with heap := s3.heap.push { cls := .type "slice", data := .fields #[vl, vu, .none] } } := I3.kept (t' := s3.toks) fun b ob q => Heap.get?_push_of_some _ q
  obtain ⟨T, id, hT, ht, hg⟩ := hr pins { s3 with heap := s3.heap.push { cls := .type "slice", data := .fields #[vl, vu, .none] } } σ H3 x v vl vu l u s3.heap.objs.size Q I4 r1 (Heap.IsSliceOf.new ..) pl pu q3
  show wpAny (model X.prog X.w) X.A (subscriptTail e (.Slice lo hi none p2) v (.ref s3.heap.objs.size)) (EP X pins σ Q) X.xe { s3 with heap := s3.heap.push { cls := .type "slice", data := .fields #[vl, vu, .none] } }
  exact tail_any (ops := [.ref s3.heap.objs.size, v]) ht hT hg (by with_unfolding_all rfl)
def cutV (xs : List V) (lo hi : Option Int) : List V := (xs.drop (HT.sIx xs.length 0 lo)).take (HT.sIx xs.length xs.length hi - HT.sIx xs.length 0 lo)
theorem cutV_length (xs : List V) (lo hi : Option Int) : (cutV xs lo hi).length <= xs.length := by
  unfold cutV
  rw [List.length_take, List.length_drop]
  omega
def rSlT (K : PySem.W.Frag) : V -> Option Int -> Option Int -> Hp -> VK -> Prop := fun x lo hi H Q => ∃ a xs, x = .ref a /\ SqT K H a xs /\
  ¬ (HT.sIx xs.length 0 lo = 0 /\ HT.sIx xs.length xs.length hi = xs.length) /\ ∀ p, H p = none -> Q (.ref p) (upd H p (.tup (cutV xs lo hi)))
theorem sl_tup : SlR X (rSlT X.K) := by
  intro pins s σ H x v vl vu lo hi sl Q I rx hs pl pu h
  obtain ⟨a, xs, rfl, hx, hw, q⟩ := h
  cases rx
  obtain ⟨its, r, ht, hz⟩ := I.tuple hx
  have hlen : its.toArray.size = xs.length := by rw [List.size_toArray]; exact r.length.symm
  refine ⟨"tuple", _, PyProof.Rows.slot_tuple_getitem.lookup, ht.typeIs, ?_⟩
  refine HT.getItem_tuple_cut ht hs pl pu (by rw [hlen]; exact hw) ?_ (by rw [hlen]; exact hz)
  rw [hlen]
  refine ⟨.ref s.heap.objs.size, _, I.laid (t' := s.toks) (o := .tup (cutV xs lo hi)) (fun b ob q => Heap.get?_push_of_some _ q) (Nat.le_refl _) ?_, rfl, q _ (I.hok.fresh (Nat.le_refl _))⟩
  exact ⟨Nat.le_trans (cutV_length xs lo hi) hz, _, (r.drop (HT.sIx xs.length 0 lo)).take (HT.sIx xs.length xs.length hi - HT.sIx xs.length 0 lo), IsTupN.new _ _⟩
def rCatT (K : PySem.W.Frag) : R2 := fun x y H Q => ∃ a b xs ys, x = .ref a /\ y = .ref b /\ SqT K H a xs /\ SqT K H b ys /\ xs ≠ [] /\ xs.length + ys.length <= sizeLine /\
  (ys = [] -> Q (.ref a) H) /\ (ys ≠ [] -> ∀ p, H p = none -> Q (.ref p) (upd H p (.tup (xs ++ ys))))
theorem Vals.nil_iff {xs : List V} {us : List Value} (r : Vals xs us) : us = [] ↔ xs = [] := by
  cases r with
  | nil => simp
  | cons _ _ => simp
theorem op_catT : OpR X (binaryOp .Add) (rCatT X.K) := by
  intro pins s σ H x y v u Q I rx ry h
  obtain ⟨a, b, xs, ys, rfl, rfl, ha, hb, hx, hz, q1, q2⟩ := h
  cases rx
  cases ry
  obtain ⟨its, r1, p1, _⟩ := I.tuple ha
  obtain ⟨its2, r2, p2, _⟩ := I.tuple hb
  refine HT.cat_tup p1 p2 (fun z => hx (r1.nil_iff.mp z)) (fun z => ⟨.ref a, H, I, rfl, q1 (r2.nil_iff.mp z)⟩) (fun z => ?_) (by rw [<- r1.length, <- r2.length]; exact hz)
  refine ⟨.ref s.heap.objs.size, _, I.laid (t' := s.toks) (o := .tup (xs ++ ys)) (fun b ob q => Heap.get?_push_of_some _ q) (Nat.le_refl _) ?_, rfl, q2 (fun w => z (r2.nil_iff.mpr w)) _ (I.hok.fresh (Nat.le_refl _))⟩
  exact ⟨by rw [List.length_append]; exact hz, _, r1.append r2, IsTupN.new _ _⟩
end
def ixN (n : Nat) (i : Int) : Option Nat := if 0 <= i then (if i < n then some i.toNat else none) else if -(n : Int) <= i then some (i + n).toNat else none
def atI {α : Type} (xs : List α) (i : Int) : Option α := (ixN xs.length i).bind fun j => xs[j]?
theorem ixN_seq {n : Nat} {i : Int} {j : Nat} (h : ixN n i = some j) : seqIndex? i n = some j /\ j < n /\ -(n : Int) <= i /\ i < n := by
  unfold ixN at h
  by_cases h0 : 0 <= i
  . rw [if_pos h0] at h
    by_cases h1 : i < n
    . rw [if_pos h1] at h
      have e : i.toNat = j := Option.some.inj h
      exact ⟨by rw [seqIndex_of h0 h1, e], by omega, by omega, h1⟩
    . rw [if_neg h1] at h; cases h
  . rw [if_neg h0] at h
    by_cases h1 : -(n : Int) <= i
    . rw [if_pos h1] at h
      have e : (i + n).toNat = j := Option.some.inj h
      exact ⟨by rw [seqIndex_neg (by omega) h1, e], by omega, h1, by omega⟩
    . rw [if_neg h1] at h; cases h
theorem atI_get {α : Type} {xs : List α} {i : Int} {v : α} (h : atI xs i = some v) : ∃ j, seqIndex? i xs.length = some j /\ xs[j]? = some v /\ j < xs.length /\ -(xs.length : Int) <= i /\ i < xs.length := by
  unfold atI at h
  cases e : ixN xs.length i with
  | none => rw [e] at h; cases h
  | some j =>
    rw [e] at h
    obtain ⟨h1, h2, h3, h4⟩ := ixN_seq e
    exact ⟨j, h1, h, h2, h3, h4⟩
def PlainIx (b : Expr) : Prop := ∀ o i, subscripted b false o i = operate [o, i] (getItem o i)
def IxR (X : Cx) (r : R2) : Prop :=
  ∀ (value slice : Expr) (pins : List (Addr × Obj)) (s : Shared) (σ : St) (H : Hp) (x y : V) (v u : Value) (Q : VK), Inv X pins σ H s -> RelV x v -> RelV y u -> r x y H Q ->
    subscripted slice false v u = operate [v, u] (getItem v u) -> wpAny (model X.prog X.w) X.A (subscriptTail value slice v u) (EP X pins σ Q) X.xe s
def MtR (X : Cx) (id : String) (r : V -> List V -> Hp -> VK -> Prop) : Prop :=
  ∀ (pins : List (Addr × Obj)) (s : Shared) (σ : St) (H : Hp) (x : V) (xs : List V) (v : Value) (us : List Value) (Q : VK), Inv X pins σ H s -> RelV x v -> Vals xs us -> r x xs H Q ->
    wpAny (model X.prog X.w) X.A (call (.builtin id) (v :: us)) (EP X pins σ Q) X.xe s
section
variable {X : Cx} {a b : Expr} {ta tb : TE} {pos : Pos}
theorem IxR.or {r r' : R2} (h : IxR X r) (h' : IxR X r') : IxR X (fun x y H Q => r x y H Q \/ r' x y H Q) := by
  intro value slice pins s σ H x y v u Q I rx ry q hs
  rcases q with q | q
  . exact h value slice pins s σ H x y v u Q I rx ry q hs
  . exact h' value slice pins s σ H x y v u Q I rx ry q hs
theorem pe_ix {r : R2} (hr : IxR X r) (ha : PE X a ta) (hb : PE X b tb) (hs : PlainIx b) : PE X (.Subscript a b pos) (tOp r ta tb) := by
  intro pins s σ H Q I h
  exact Subscript_ (binT ha hb I h fun v u s2 x y H2 I2 rx ry q => hr a b pins s2 σ H2 x y v u Q I2 rx ry q (hs _ _))
def rIxL (K : PySem.W.Frag) : R2 := fun x y H Q => ∃ p xs i v, x = .ref p /\ y = .int i /\ SqL K H p xs /\ atI xs i = some v /\ Q v H
def rIxT (K : PySem.W.Frag) : R2 := fun x y H Q => ∃ p xs i v, x = .ref p /\ y = .int i /\ SqT K H p xs /\ atI xs i = some v /\ Q v H
def rIxS : R2 := fun x y H Q => ∃ z i c, x = .str z /\ y = .int i /\ z.length <= sizeLine /\ atI z.cps.toList i = some c /\ Q (.str ⟨#[c]⟩) H
theorem ix_list : IxR X (rIxL X.K) := by
  intro value slice pins s σ H x y v u Q I rx ry h hs
  obtain ⟨p, xs, i, z, rfl, rfl, hq, he, q⟩ := h
  cases rx
  obtain ⟨t, rfl⟩ := ry
  obtain ⟨its, r, pl, hz⟩ := I.list hq
  obtain ⟨j, h1, h2, h3, h4, h5⟩ := atI_get he
  obtain ⟨w, ew, rw'⟩ := r.get h2
  have hl := r.length
  have hn := line63
  have fin : EP X pins σ Q w s := ⟨z, H, I, rw', q⟩
  by_cases h0 : 0 <= i
  . have hj : i.toNat = j := by
      rw [seqIndex_of h0 h5] at h1
      exact Option.some.inj h1
    exact item_listR pl.isList h0 (by omega) (by rw [hj]; simpa using ew) fin hs
  . have hj : (i + (its.toArray.size : Int)).toNat = j := by
      rw [seqIndex_neg (by omega) h4] at h1
      rw [List.size_toArray, <- hl]
      exact Option.some.inj h1
    exact subscriptTail_builtinR (x := w) pl.isList.typeIs slot_list_getitem.lookup
      (wpAny_getItem_list_neg (Q := fun r s' => r = w /\ EP X pins σ Q r s') pl.isList (by omega) (by rw [List.size_toArray] <;> omega) (by omega) (by rw [hj]; simpa using ew) ⟨rfl, fin⟩) hs
theorem ix_tup : IxR X (rIxT X.K) := by
  intro value slice pins s σ H x y v u Q I rx ry h hs
  obtain ⟨p, xs, i, z, rfl, rfl, hq, he, q⟩ := h
  cases rx
  obtain ⟨t, rfl⟩ := ry
  obtain ⟨its, r, pl, hz⟩ := I.tuple hq
  obtain ⟨j, h1, h2, h3, h4, h5⟩ := atI_get he
  obtain ⟨w, ew, rw'⟩ := r.get h2
  have hl := r.length
  have hn := line63
  have fin : EP X pins σ Q w s := ⟨z, H, I, rw', q⟩
  exact subscriptTail_builtinR (x := w) pl.typeIs slot_tuple_getitem.lookup
    (getItem_tuple (j := j) (Q := fun r s' => r = w /\ EP X pins σ Q r s') pl (by omega) (by omega) (by rw [List.size_toArray, <- hl]; exact h1) (by simpa using ew) ⟨rfl, fin⟩) hs
theorem ix_str : IxR X rIxS := by
  intro value slice pins s σ H x y v u Q I rx ry h hs
  obtain ⟨z, i, c, rfl, rfl, hz, he, q⟩ := h
  obtain ⟨t, rfl⟩ := rx
  obtain ⟨t', rfl⟩ := ry
  obtain ⟨j, h1, h2, h3, h4, h5⟩ := atI_get he
  have hl : z.cps.toList.length = z.length := by simp [Str.length]
  rw [hl] at h1 h4 h5
  have hn := line63
  exact tail_any (typeIs_str s z t) slot_str_getitem.lookup (getItem_str (c := c) (by
    have e1 : decide (i < -(2 ^ 63 : Int)) = false := decide_eq_false (by omega)
    have e2 : decide (i ≥ 2 ^ 63) = false := decide_eq_false (by omega)
    rw [e1, e2, Bool.or_false]) (by rw [h1]; simpa using h2) ⟨.str ⟨#[c]⟩, H, I.tok _, ⟨_, rfl⟩, q⟩) hs
def rIx (K : PySem.W.Frag) : R2 := fun x y H Q => rIxL K x y H Q \/ rIxT K x y H Q \/ rIxS x y H Q
theorem ix_seq : IxR X (rIx X.K) := ix_list.or (ix_tup.or ix_str)
theorem mapSeq_set (its : List Value) (n j : Nat) (u : Value) : Obj.mapSeq (·.setIfInBounds j u) { cls := .type "list", data := .seq its.toArray n } = { cls := .type "list", data := .seq (its.set j u).toArray n } := by
  simp [Obj.mapSeq]
theorem Inv.lst {pins : List (Addr × Obj)} {σ : St} {H : Hp} {s : Shared} {p : Addr} {xs : List V} (I : Inv X pins σ H s) (h : H p = some (.lst xs)) :
    ∃ (its : List Value) (n : Nat), Vals xs its /\ s.heap.get? p = some { cls := .type "list", data := .seq its.toArray n } /\ xs.length <= sizeLine := by
  obtain ⟨z, its, n, r, e⟩ := I.hok p _ h
  exact ⟨its, n, r, e, z⟩
theorem Inv.lstUpd {pins : List (Addr × Obj)} {σ : St} {H : Hp} {s : Shared} {p : Addr} {xs ys : List V} {its its' : List Value} {n n' : Nat} {f : Obj -> Obj} (I : Inv X pins σ H s) (h : H p = some (.lst xs))
    (ho : s.heap.get? p = some { cls := .type "list", data := .seq its.toArray n }) (hf : f { cls := .type "list", data := .seq its.toArray n } = { cls := .type "list", data := .seq its'.toArray n' }) (r : Vals ys its') (hz : ys.length <= sizeLine) (t : Nat) :
    Inv X pins σ (upd H p (.lst ys)) { s with heap := s.heap.update p f, toks := t } := by
  have e : (s.heap.update p f).get? p = some { cls := .type "list", data := .seq its'.toArray n' } := by
    rw [Heap.get?_update_self f ho (by rw [hf] <;> rfl), hf]
  refine I.write (x := p) (e := p) (by rw [h]; trivial) (.inl rfl) (fun b u hb q => (Heap.get?_update_other _ _ (Ne.symm hb)).trans q) ⟨_, e⟩ ?_
  exact ⟨hz, its', n', r, e⟩
def rSetL : V -> V -> V -> Hp -> (Hp -> Prop) -> Prop := fun o i v H Q => ∃ p xs k j, o = .ref p /\ i = .int k /\ H p = some (.lst xs) /\ ixN xs.length k = some j /\ Q (upd H p (.lst (xs.set j v)))
theorem set_list : PSet X rSetL := by
  intro pins s σ H o i v ov iv u Q I ro ri rv h
  obtain ⟨p, xs, k, j, rfl, rfl, hp, hj, q⟩ := h
  cases ro
  obtain ⟨t, rfl⟩ := ri
  obtain ⟨its, n, r, ho, hz⟩ := I.lst hp
  obtain ⟨h1, h2, h3, h4⟩ := ixN_seq hj
  have hl := r.length
  have hn := line63
  have I' : Inv X pins σ (upd H p (.lst (xs.set j v))) { s with heap := s.heap.update p (Obj.mapSeq (·.setIfInBounds j u)) } :=
    I.lstUpd hp ho (mapSeq_set its n j u) (r.set rv j) (by rw [List.length_set]; exact hz) s.toks
  by_cases h0 : 0 <= k
  . have hk : k.toNat = j := by
      rw [seqIndex_of h0 h4] at h1
      exact Option.some.inj h1
    exact PySem.W.ki_setAt ho h0 (by omega) (by rw [List.size_toArray, <- hl]; exact h4) (by rw [hk]; exact ⟨_, I', q⟩)
  . have hk : (k + (its.toArray.size : Int)).toNat = j := by
      rw [seqIndex_neg (by omega) h3] at h1
      rw [List.size_toArray, <- hl]
      exact Option.some.inj h1
    exact PySem.W.ki_setBack ho (by omega) (by rw [List.size_toArray, <- hl]; exact h3) (by omega) (by rw [hk]; exact ⟨_, I', q⟩)
def flatV : V -> Bool
  | .non => true
  | .bl _ => true
  | .int _ => true
  | .str _ => true
  | _ => false
def eqV : V -> V -> Bool
  | .non, .non => true
  | .bl a, .bl b => a == b
  | .bl a, .int b => (if a then 1 else 0) == b
  | .int a, .bl b => a == (if b then 1 else 0)
  | .int a, .int b => a == b
  | .str a, .str b => a == b
  | _, _ => false
theorem eqAt_V {A : Around} {s : Shared} {y x : V} {u v : Value} (ry : RelV y u) (rx : RelV x v) (fy : flatV y = true) (fx : flatV x = true) : SeqAt.EqAt A s u v (eqV y x) := by
  cases y with
  | non =>
    cases ry
    cases x with
    | non => cases rx; exact SeqAt.EqAt.same _
    | bl b => cases rx; exact SeqAt.EqAt.none_bool b
    | int b => obtain ⟨t, rfl⟩ := rx; exact SeqAt.EqAt.none_int b t
    | str b => obtain ⟨t, rfl⟩ := rx; exact SeqAt.EqAt.none_str b t
    | _ => exact absurd (show false = true from fx) Bool.false_ne_true
  | bl a =>
    cases ry
    cases x with
    | non => cases rx; exact SeqAt.EqAt.bool_none a
    | bl b => cases rx; exact SeqAt.EqAt.bool_bool a b
    | int b => obtain ⟨t, rfl⟩ := rx; exact SeqAt.EqAt.bool_int a b t
    | str b => obtain ⟨t, rfl⟩ := rx; exact SeqAt.EqAt.bool_str a b t
    | _ => exact absurd (show false = true from fx) Bool.false_ne_true
  | int a =>
    obtain ⟨t', rfl⟩ := ry
    cases x with
    | non => cases rx; exact SeqAt.EqAt.int_none a t'
    | bl b => cases rx; exact SeqAt.EqAt.int_bool a t' b
    | int b => obtain ⟨t, rfl⟩ := rx; exact SeqAt.EqAt.int_int a t' b t
    | str b => obtain ⟨t, rfl⟩ := rx; exact SeqAt.EqAt.int_str a t' b t
    | _ => exact absurd (show false = true from fx) Bool.false_ne_true
  | str a =>
    obtain ⟨t', rfl⟩ := ry
    cases x with
    | non => cases rx; exact SeqAt.EqAt.str_none a t'
    | bl b => cases rx; exact SeqAt.EqAt.str_bool a t' b
    | int b => obtain ⟨t, rfl⟩ := rx; exact SeqAt.EqAt.str_int a t' b t
    | str b => obtain ⟨t, rfl⟩ := rx; exact SeqAt.EqAt.str_str a t' b t
    | _ => exact absurd (show false = true from fx) Bool.false_ne_true
  | _ => exact absurd (show false = true from fy) Bool.false_ne_true
def eqU (x : V) (u : Value) : Bool := match u with
  | .none => eqV .non x
  | .bool b => eqV (.bl b) x
  | .int i _ => eqV (.int i) x
  | .str z _ => eqV (.str z) x
  | _ => false
theorem eqU_of {x y : V} {u : Value} (r : RelV y u) (f : flatV y = true) : eqU x u = eqV y x := by
  cases y with
  | non => cases r; rfl
  | bl b => cases r; rfl
  | int i => obtain ⟨t, rfl⟩ := r; rfl
  | str z => obtain ⟨t, rfl⟩ := r; rfl
  | _ => exact absurd (show false = true from f) Bool.false_ne_true
theorem any_eqU {x : V} : ∀ {xs : List V} {us : List Value}, Vals xs us -> xs.all flatV = true -> us.any (eqU x) = xs.any fun y => eqV y x
  | _, _, .nil, _ => rfl
  | y :: xs, u :: us, .cons r t, f => by
    rw [List.all_cons, Bool.and_eq_true] at f
    rw [List.any_cons, List.any_cons, eqU_of r f.1, any_eqU t f.2]
theorem mem_eqAt {A : Around} {s : Shared} {x : V} {v : Value} (rx : RelV x v) (fx : flatV x = true) : ∀ {xs : List V} {us : List Value}, Vals xs us -> xs.all flatV = true -> ∀ u ∈ us, SeqAt.EqAt A s u v (eqU x u)
  | _, _, .nil, _ => fun u hu => by cases hu
  | y :: xs, u :: us, .cons r t, f => fun u' hu => by
    rw [List.all_cons, Bool.and_eq_true] at f
    rcases List.mem_cons.mp hu with rfl | hu
    . rw [eqU_of r f.1]; exact eqAt_V r rx f.1 fx
    . exact mem_eqAt rx fx t f.2 u' hu
def inV (x : V) (xs : List V) : Bool := xs.any fun y => eqV y x
def rIn (K : PySem.W.Frag) (neg : Bool) : R2 := fun x y H Q => ∃ p xs, y = .ref p /\ (SqL K H p xs \/ SqT K H p xs) /\ flatV x = true /\ xs.all flatV = true /\ Q (.bl (if neg then !inV x xs else inV x xs)) H
theorem op_in_seq : OpR X (compareOp .In) (rIn X.K false) := by
  intro pins s σ H x y v u Q I rx ry h
  obtain ⟨p, xs, rfl, hq, fx, fs, q⟩ := h
  cases ry
  rcases hq with hq | hq
  . obtain ⟨its, r, pl, hz⟩ := I.list hq
    refine SeqAt.in_listAt (eqU x) pl.isList (fun w hw => mem_eqAt rx fx r fs w (by simpa using hw)) ⟨.bl _, H, I, rfl, ?_⟩
    rw [show its.toArray.any (eqU x) = its.any (eqU x) by simp, any_eqU r fs]
    exact q
  . obtain ⟨its, r, pl, hz⟩ := I.tuple hq
    refine SeqAt.in_tupleAt (eqU x) pl (fun w hw => mem_eqAt rx fx r fs w (by simpa using hw)) ⟨.bl _, H, I, rfl, ?_⟩
    rw [show its.toArray.any (eqU x) = its.any (eqU x) by simp, any_eqU r fs]
    exact q
theorem call_list_of : CallR X (.type "list") (fun xs H Q => ∃ p ys, xs = [.ref p] /\ (SqL X.K H p ys \/ SqT X.K H p ys) /\ ∀ l, H l = none -> Q (.ref l) (upd H l (.lst ys))) := by
  intro pins s σ H xs us Q I r h
  obtain ⟨p, ys, rfl, hq, q⟩ := h
  obtain ⟨u, rfl, rx⟩ := vals1 r
  cases rx
  have fin : ∀ (its : List Value), Vals ys its -> ys.length <= sizeLine -> ∀ (h' : Heap) (c' : Nat), (∀ b o', s.heap.get? b = some o' -> h'.get? b = some o') ->
      h'.get? s.heap.objs.size = some { cls := .type "list", dict := none, data := .seq its.toArray c', slots := #[] } -> EP X pins σ Q (.ref s.heap.objs.size) { s with heap := h' } := fun its r' hz h' c' kp e =>
    ⟨.ref s.heap.objs.size, _, I.laid (t' := s.toks) kp (Nat.le_refl _) (show ObjOk X.prog X.w _ h' _ (.lst ys) from ⟨hz, its, c', r', e⟩), rfl, q _ (I.hok.fresh (Nat.le_refl _))⟩
  rcases hq with hq | hq
  . obtain ⟨its, r', pl, hz⟩ := I.list hq
    have hlen := r'.length
    obtain ⟨o, ho, hc, n, hd⟩ := pl.isList
    exact call_list_seq p (.inl rfl) ho hc hd (fun h' c' kp e => fin its r' hz h' c' kp e) (by simp only [List.size_toArray] <;> omega)
  . obtain ⟨its, r', pl, hz⟩ := I.tuple hq
    have hlen := r'.length
    obtain ⟨o, ho, hc, n, hd⟩ := pl
    exact call_list_seq p (.inr rfl) ho hc hd (fun h' c' kp e => fin its r' hz h' c' kp e) (by simp only [List.size_toArray] <;> omega)
theorem call_tuple_of : CallR X (.type "tuple") (fun xs H Q => ∃ p ys, xs = [.ref p] /\ ((SqL X.K H p ys /\ ∀ l, H l = none -> Q (.ref l) (upd H l (.tup ys))) \/ (SqT X.K H p ys /\ Q (.ref p) H))) := by
  intro pins s σ H xs us Q I r h
  obtain ⟨p, ys, rfl, h⟩ := h
  obtain ⟨u, rfl, rx⟩ := vals1 r
  cases rx
  rcases h with ⟨hq, q⟩ | ⟨hq, q⟩
  . obtain ⟨its, r', pl, hz⟩ := I.list hq
    have hlen := r'.length
    refine call_tuple_list pl.isList (fun h' kp => ?_) (by simp only [List.size_toArray] <;> omega)
    have I1 : Inv X pins σ H { s with heap := h' } := I.kept (t' := s.toks) kp
    have I2 : Inv X pins σ (upd H h'.objs.size (.tup ys)) { s with heap := h'.push { cls := .type "tuple", data := .seq its.toArray } } :=
      I1.laid (t' := s.toks) (fun b o e => Heap.get?_push_of_some _ e) (Nat.le_refl _) (show ObjOk X.prog X.w _ _ _ (.tup ys) from ⟨hz, its, r', IsTupN.new _ _⟩)
    exact ⟨.ref h'.objs.size, _, I2, rfl, q _ (I1.hok.fresh (Nat.le_refl _))⟩
  . obtain ⟨its, r', pl, hz⟩ := I.tuple hq
    exact call_tuple_same pl ⟨.ref p, H, I, rfl, q⟩
def tyV (K : PySem.W.Frag) (T : String) (x : V) (H : Hp) : Prop := match x with
  | .str _ => T = "str"
  | .int _ => T = "int"
  | .ref p => (T = "list" /\ ∃ xs, SqL K H p xs) \/ (T = "tuple" /\ ∃ o, K.lookup p = some o /\ o.cls = .type "tuple" /\ o.dict = none) \/
      (T = "dict" /\ ((∃ kvs, H p = some (.dK kvs)) \/ ∃ kvs, H p = some (.dT kvs))) \/ (T = "set" /\ ∃ S n, H p = some (.set S n))
  | _ => False
theorem tyV_is {pins : List (Addr × Obj)} {σ : St} {H : Hp} {s : Shared} {T : String} {x : V} {v : Value} (I : Inv X pins σ H s) (r : RelV x v) (ty : tyV X.K T x H) :
    s.TypeIs v T /\ ∀ a, v = .ref a -> ∃ ob, s.heap.get? a = some ob /\ ob.dict = none := by
  cases x with
  | str z =>
    obtain ⟨t, rfl⟩ := r
    cases (show T = "str" from ty)
    exact ⟨typeIs_str s z t, fun _ e => nomatch e⟩
  | int i =>
    obtain ⟨t, rfl⟩ := r
    cases (show T = "int" from ty)
    exact ⟨typeIs_int s i t, fun _ e => nomatch e⟩
  | ref p =>
    cases r
    rcases ty with ⟨rfl, xs, hq⟩ | ⟨rfl, o, hk, hc, hd⟩ | ⟨rfl, hk⟩ | ⟨rfl, S, n, hk⟩
    . obtain ⟨its, _, pl, _⟩ := I.list hq
      refine ⟨pl.isList.typeIs, fun a e => ?_⟩
      cases e
      obtain ⟨o, n, e, c, hd, _⟩ := pl
      exact ⟨o, e, hd⟩
    . refine ⟨⟨o, I.kIn p o hk, hc⟩, fun a e => ?_⟩
      cases e
      exact ⟨o, I.kIn _ o hk, hd⟩
    . have z : ∃ o, s.heap.get? p = some o /\ o.ExactDict := by
        rcases hk with ⟨kvs, hk⟩ | ⟨kvs, hk⟩
        . obtain ⟨_, _, _, _, o, _, _, e, ex, _⟩ := I.hok p _ hk
          exact ⟨o, e, ex⟩
        . obtain ⟨_, _, _, _, o, _, _, e, ex, _⟩ := I.hok p _ hk
          exact ⟨o, e, ex⟩
      obtain ⟨o, e, ex⟩ := z
      refine ⟨⟨o, e, ex.1⟩, fun a e2 => ?_⟩
      cases e2
      exact ⟨o, e, ex.2.1⟩
    . obtain ⟨o, _, _, _, e, ex, _⟩ := I.hok p _ hk
      refine ⟨⟨o, e, ex.1⟩, fun a e2 => ?_⟩
      cases e2
      exact ⟨o, e, ex.2.1⟩
  | _ => exact False.elim ty
def tBM (K : PySem.W.Frag) (T : String) (r : V -> List V -> Hp -> VK -> Prop) (to : TE) (t : TA) : TE := fun σ H Q => to σ H fun x H1 => tyV K T x H1 /\ t σ H1 fun xs H2 => r x xs H2 Q
variable {o e : Expr} {es : List Expr} {to : TE} {t : TA} {name : Str} {apos cpos : Pos} {T id : String} {r : V -> List V -> Hp -> VK -> Prop}
theorem pe_bm (pa : PlainAttrs T) (slot : Slot T name id) (hty : typeOf (.builtin id) = pure (.type "method_descriptor")) (hm : MtR X id r) (ho : PE X o to) (ha : PA X (e :: es) t)
    (hbase : attributeBase o name X.env (eval o X.env) = eval o X.env := by rfl)
    (hfew : ((backTo cpos (starEach (e :: es) X.env)).all (fun x => !x.1) && (backToKw cpos (keywordEach [] X.env)).all (fun x => x.1.isSome)
      && decide ((e :: es).length + ([] : List Keyword).length + (if ([] : List Keyword).isEmpty then 0 else 1) < 30)) = true := by rfl)
    (hline : (apos.endLine == cpos.line) = true := by rfl) (hs : starEach (e :: es) X.env = (false, eval e X.env) :: starEach es X.env := by rfl) (hplain : (backTo cpos (starEach es X.env)).any (·.1) = false := by rfl) :
    PE X (.Call (.Attribute o name apos) (e :: es) [] cpos) (tBM X.K T r to t) := by
  intro pins s σ H Q I h
  refine wpAny_Call_method_late hbase hfew hline rfl (thn (ho pins s σ H _ I h) fun v s1 ⟨x, H1, I1, r1, ty, q1⟩ => ?_)
  obtain ⟨h1, h2⟩ := tyV_is I1 r1 ty
  refine ⟨T, id, pa, slot, hty, h1, h2, ?_⟩
  have hA := ha cpos pins s1 σ H1 _ I1 q1
  rw [hs] at hA ⊢
  refine Calls.callWith_builtin (by show (false || (backTo cpos (starEach es X.env)).any (·.1)) = false; rw [hplain] <;> rfl) (Calls.evalArgs_plain ?_)
  exact thn hA fun us s2 ⟨vs, H2, I2, r2, q2⟩ => hm pins s2 σ H2 x vs v us Q I2 r1 r2 q2
end
def MtM (X : Cx) (id : String) (r : V -> List V -> Hp -> VK -> Prop) : Prop :=
  ∀ (pins : List (Addr × Obj)) (s : Shared) (σ : St) (H : Hp) (x : V) (xs : List V) (v : Value) (us : List Value) (Q : VK), Inv X pins σ H s -> RelV x v -> Vals xs us -> r x xs H Q ->
    wpAny (model X.prog X.w) X.A (call (.builtin id) (v :: us)) (EP X pins σ Q) X.xe s
theorem Vals.one : ∀ {x : V} {us : List Value}, Vals [x] us -> ∃ u, us = [u] /\ RelV x u
  | _, _, .cons r .nil => ⟨_, rfl, r⟩
theorem Vals.zero : ∀ {us : List Value}, Vals [] us -> us = []
  | _, .nil => rfl
theorem Vals.rep {xs : List V} {us : List Value} (h : Vals xs us) : ∀ k : Nat, Vals (List.replicate k xs).flatten (List.replicate k us).flatten
  | 0 => .nil
  | k + 1 => by
    rw [List.replicate_succ, List.replicate_succ, List.flatten_cons, List.flatten_cons]
    exact Vals.append h (Vals.rep h k)
theorem foldl_rep (its : List Value) : ∀ (k : Nat) (acc : List Value),
    List.foldl (fun x1 x2 => x1 ++ x2) acc.toArray (List.replicate k its.toArray) = (acc ++ (List.replicate k its).flatten).toArray
  | 0, acc => by simp
  | k + 1, acc => by
    have e : acc.toArray ++ its.toArray = (acc ++ its).toArray := by simp
    have e2 : (acc ++ its) ++ (List.replicate k its).flatten = acc ++ (List.replicate (k + 1) its).flatten := by
      rw [List.replicate_succ, List.flatten_cons, List.append_assoc]
    rw [<- e2, <- foldl_rep its k (acc ++ its), <- e, List.replicate_succ, List.foldl_cons]
section
variable {X : Cx} {pins : List (Addr × Obj)} {σ : St} {H : Hp} {s : Shared} {l b : Addr} {xs ys zs : List V}
theorem Inv.lset {its its' : List Value} {n : Nat} {f : Array Value -> Array Value} {t' : Nat} (I : Inv X pins σ H s) (hH : H l = some (.lst xs))
    (e : s.heap.get? l = some { cls := .type "list", data := .seq its.toArray n }) (hf : f its.toArray = its'.toArray) (hv : Vals ys its') (hz : ys.length <= sizeLine) :
    Inv X pins σ (upd H l (.lst ys)) { s with heap := s.heap.update l (Obj.mapSeq f), toks := t' } := by
  have q := PySem.IsL.update e f
  rw [hf] at q
  refine I.write (x := l) (e := l) (by rw [hH]; exact trivial) (.inl rfl) (fun b' u hb hu => (Heap.get?_update_other s.heap (Obj.mapSeq f) (Ne.symm hb)).trans hu) ⟨_, q⟩ ?_
  exact ⟨hz, its', _, hv, q⟩
theorem Inv.lnew {its : List Value} {t' : Nat} (I : Inv X pins σ H s) (hv : Vals ys its) (hz : ys.length <= sizeLine) :
    Inv X pins σ (upd H s.heap.objs.size (.lst ys)) { s with heap := s.heap.push { cls := .type "list", data := .seq its.toArray }, toks := t' } :=
  I.laid (fun _ _ q => Heap.get?_push_of_some _ q) (Nat.le_refl _) ⟨hz, its, 0, hv, Heap.get?_push_size _ rfl⟩
theorem Inv.fresh (I : Inv X pins σ H s) : H s.heap.objs.size = none := I.hok.fresh (Nat.le_refl _)
theorem Inv.lstM (I : Inv X pins σ H s) (hH : H l = some (.lst xs)) : xs.length <= sizeLine /\ ∃ (its : List Value) (n : Nat), Vals xs its /\ xs.length = its.length /\ s.heap.get? l = some { cls := .type "list", data := .seq its.toArray n } := by
  obtain ⟨z, its, n, r, e⟩ := I.hok l _ hH
  exact ⟨z, its, n, r, r.length, e⟩
theorem notLongL {n : Nat} (h : n <= sizeLine) : Builtin.List.listTooLong n = false := by
  unfold Builtin.List.listTooLong
  exact decide_eq_false (by omega)
end
section
variable {X : Cx}
def rAppend : V -> List V -> Hp -> VK -> Prop := fun x vs H Q => ∃ l xs y, x = .ref l /\ vs = [y] /\ H l = some (.lst xs) /\ xs.length < sizeLine /\ Q .non (upd H l (.lst (xs ++ [y])))
theorem mt_append : MtM X "list.append" rAppend := by
  intro pins s σ H x vs v us Q I rx rv h
  obtain ⟨l, xs, y, rfl, rfl, hH, hz, q⟩ := h
  cases rx
  obtain ⟨u, rfl, ru⟩ := rv.one
  obtain ⟨z, its, n, r, hl, e⟩ := I.lstM hH
  refine call_meets F.slot_list_append ⟨_, e, rfl⟩ F.entry_list_append (F.args_list_append_2 _ _) (PySem.list_append l its.toArray n u (by rw [List.size_toArray]; omega)) ⟨e, ?_⟩
  refine ⟨.non, _, I.lset (its' := its ++ [u]) hH e (by simp) (r.append (.cons ru .nil)) ?_, rfl, q⟩
  rw [List.length_append, List.length_singleton]
  omega
def rCat : R2 := fun x y H Q => ∃ l b xs zs, x = .ref l /\ y = .ref b /\ H l = some (.lst xs) /\ H b = some (.lst zs) /\ xs.length + zs.length <= sizeLine /\ ∀ p, H p = none -> Q (.ref p) (upd H p (.lst (xs ++ zs)))
theorem op_cat : OpR X (binaryOp .Add) rCat := by
  intro pins s σ H x y v u Q I rx ry h
  obtain ⟨l, b, xs, zs, rfl, rfl, hH, hB, hz, q⟩ := h
  cases rx
  cases ry
  obtain ⟨z, its, n, r, hl, e⟩ := I.lstM hH
  obtain ⟨z2, its2, n2, r2, hl2, e2⟩ := I.lstM hB
  refine PySem.P.add_list e e2 ?_ (by rw [List.size_toArray, List.size_toArray]; omega)
  have ea : its.toArray ++ its2.toArray = (its ++ its2).toArray := by simp
  rw [ea]
  exact ⟨.ref _, _, I.lnew (t' := s.toks) (r.append r2) (by rw [List.length_append]; omega), rfl, q _ I.fresh⟩
def rRep : R2 := fun x y H Q => ∃ l k xs, x = .ref l /\ y = .int k /\ H l = some (.lst xs) /\ -(2 ^ 63) <= k /\ k < 2 ^ 63 /\ xs.length * k.toNat <= sizeLine /\
  ∀ p, H p = none -> Q (.ref p) (upd H p (.lst (List.replicate k.toNat xs).flatten))
theorem len_rep {α : Type} (xs : List α) (k : Nat) : (List.replicate k xs).flatten.length = k * xs.length := by
  induction k with
  | zero => simp
  | succ k ih => rw [List.replicate_succ, List.flatten_cons, List.length_append, ih, Nat.succ_mul, Nat.add_comm]
theorem op_rep : OpR X (binaryOp .Mult) rRep := by
  intro pins s σ H x y v u Q I rx ry h
  obtain ⟨l, k, xs, rfl, rfl, hH, h1, h2, hz, q⟩ := h
  cases rx
  obtain ⟨t, rfl⟩ := ry
  obtain ⟨z, its, n, r, hl, e⟩ := I.lstM hH
  have hlen : its.toArray.size * k.toNat <= sizeLine := by rw [List.size_toArray, <- hl]; exact hz
  have hcap : ¬ its.toArray.size * k.toNat > (2 ^ 63 - 1) / 8 := by
    have : (sizeLine : Nat) <= (2 ^ 63 - 1) / 8 := by decide
    omega
  have hfit : ¬ (!Builtin.List.listFitsIndex k) = true := by
    rw [fitsIndex_both h1 h2]
    exact Bool.false_ne_true
  have hlong : ¬ Builtin.List.listTooLong (its.toArray.size * k.toNat) = true := by
    rw [notLongL hlen]
    exact Bool.false_ne_true
  have hnew : List.foldl (fun x1 x2 => x1 ++ x2) #[] (List.replicate (if its.toArray.isEmpty = true then 0 else k.toNat) its.toArray) = (List.replicate k.toNat its).flatten.toArray := by
    have f0 : ∀ m : Nat, List.foldl (fun x1 x2 => x1 ++ x2) #[] (List.replicate m its.toArray) = (List.replicate m its).flatten.toArray := fun m => by
      have := foldl_rep its m []
      rw [List.nil_append] at this
      exact this
    rw [f0]
    cases its with
    | nil => simp
    | cons a r' => rw [if_neg (by simp)]
  refine wpAny_binaryOp_repeat_ref (T := "list") (U := "int") (by decide) ⟨_, e, rfl⟩ (fun s' => typeIs_int s' k t) noFill_list_mul F.fills_int_mul F.slot_int_rmul repeat_list F.slot_int_index.lookup
    (call_meets F.slot_int_rmul (typeIs_int s k t) F.entry_int_rmul (F.args_int_rmul_2 _ _) (int___rmul___int_list k t l its.toArray n)
      ⟨e, rfl, ⟨_, e, rfl⟩, call_meets F.slot_list_mul ⟨_, e, rfl⟩ F.entry_list_mul (F.args_list_mul_2 _ _) (AutoListH.list___mul___list_int_3 l its.toArray n k t hfit hcap hlong) ⟨e, ?_⟩⟩)
  rw [hnew]
  exact ⟨.ref _, _, I.lnew (t' := s.toks) (r.rep k.toNat) (by rw [len_rep, Nat.mul_comm]; exact hz), rfl, q _ I.fresh⟩
end
section
variable {prog : Program} {w : World} {A : Around} {E : Value -> Shared -> Prop} {s : Shared}
end
section
variable {X : Cx}
end
end L2
namespace Att
open PySem PySem.W PySem.Calls PyProof.Rows
theorem ints_of_wellAll {P : Params} {h : Heap} : ∀ (ns : List Int) (vs : List Value), WellAll P h vs (ns.map WData.int) -> IntsAre vs ns := by
  intro ns
  induction ns with
  | nil =>
    intro vs w
    rw [List.map_nil] at w
    cases w
    exact .nil
  | cons n ns ih =>
    intro vs w
    rw [List.map_cons] at w
    cases w with
    | cons a b =>
      cases a
      exact .cons _ _ (ih _ b)
theorem script_of {l : OpenLaw} {n : Nat} (hn : l.most = some n) {P : Params} {h : Heap} {args : List WData} {vals : List Value}
    (hpre : l.row.toRowW.claim.pre args = true) (hwl : WellAll P h vals args) :
    ∃ a vs ns, vals = [Value.ref a] /\ args = [WData.list (ns.map WData.int)] /\ h.get? a = some { cls := .type "list", data := .seq vs.toArray } /\ IntsAre vs ns /\ ns.length <= n := by
  have hsh : WShape.hasAll [] args [.list .int] = true := (pre_splitW hpre).1
  have hc : l.pre.holds [] { args := args } = true := (pre_splitW hpre).2
  obtain ⟨d, r, rfl, h1, h2⟩ := hasAllW_cons hsh
  obtain rfl := hasAllW_nil h2
  obtain ⟨xs, rfl, h3⟩ := hasW_list h1
  obtain ⟨ns, rfl⟩ := items_int h3
  have hlen : ns.length <= n := by
    unfold OpenLaw.pre at hc
    have h4 : (WTm.not (.lt (.lit (.int (n : Int))) (.len (.arg 0)))).holds [] { args := [.list (ns.map .int)] } = true := by
      have h4 := (holds_andW hc).1
      rw [hn] at h4
      exact h4
    have h5 := condW_of h4 (w_not (w_lt w_lit (w_len_list (w_arg rfl))))
    rw [List.length_map] at h5
    refine Nat.le_of_not_lt fun q => ?_
    have q' : (n : Int) < ((ns.length : Nat) : Int) := by omega
    first
      | (rw [decide_eq_true q'] at h5; exact absurd h5 (by decide))
      | (simp at h5; omega)
  cases hwl with
  | cons w1 w2 =>
    cases w2
    cases w1 with
    | list ho hall => exact ⟨_, _, ns, rfl, rfl, ho, ints_of_wellAll ns _ hall, hlen⟩
theorem post_true (l : OpenLaw) (args : List WData) : l.row.toRowW.claim.post args (.bool true) args = true :=
  postW_of (r := l.row.toRowW) (X := (true == true))
    (show WShape.has [] (.bool true) .bool = true by first | rfl | decide | simp [WShape.has, WShape.arms, WShape.armsAll])
    (show (WTm.eq .res (.lit (.bool true))).value [] { args := args, res := some (.bool true), after := args } = some (.bool (true == true)) from w_eq_bool (w_res rfl) w_lit) rfl
theorem attach_call {l : OpenLaw} {n : Nat} {q : Program} {loose : List Str} {XP : (Str -> Option Value) -> Heap -> Prop} {YP : World -> Heap -> Prop} {d : DefRec}
    (hn : l.most = some n) (hdf : d.params.defaults = [])
    (call : ∀ (w : World) (s₀ s₁ : Shared) (mg mb : Str -> Option Value) (fa : Addr) (o : Obj) (pm cd doc : Value) (a : Addr) (vs : List Value) (ns : List Int),
      Ground q loose [] XP w s₀ mg mb s₁.heap -> YP w s₁.heap ->
      s₁.heap.get? fa = some o -> o.data = .func (docDef d.name d.params d.body d.scope pm cd doc) -> s₁.heap.CodeRec cd d.name -> mg d.name = some (.ref fa) ->
      s₁.heap.get? a = some { cls := .type "list", data := .seq vs.toArray } -> IntsAre vs ns -> ns.length <= n -> s₁.gens = #[] ->
      codeAny (model l.prog w) callerA (.call (.ref fa) ⟨[.ref a], []⟩) (fun r s' => r = .ok (.ret (.bool true)) /\ OldK s₁.heap s'.heap /\ s'.os = s₁.os /\ AllBare s'.gens) s₁) :
    WalkO q loose XP YP l.row.toRowW d [] (fun f vs => PySem.call f vs) := by
  intro w s₀ s₁ mg mb G Y fa o pm cd doc dV kV ho hd hcd hD hmg hg args vals as hpre hlay hrd hwl hlo
  obtain rfl : dV = .none := Dflts.none hD hdf
  obtain rfl : kV = .none := Dflts.noKw hD
  obtain ⟨a, vs, ns, rfl, rfl, hobj, hints, hlen⟩ := script_of hn hpre hwl
  refine enter_call (codeAny_mono (call w s₀ s₁ mg mb fa o pm cd doc a vs ns G Y ho (fd_plain hd) hcd hmg hobj hints hlen hg) fun r s' hq => ?_)
  obtain ⟨rfl, h2, h3, h4⟩ := hq
  exact ⟨.inl ⟨.bool true, .bool true, [], rfl, fun _ => rfl, .bool true, post_true l _, fun _ => ⟨List.Pairwise.nil, fun _ hm => (nomatch hm)⟩⟩, h2, h3, h4⟩
section
variable {prog : Program} {w : World} {A : Around} {E : Value -> Shared -> Prop} {s : Shared} {K : Frag}
def noObjs (h : Heap) : Heap := { h with objs := #[] }
theorem noObjs_get (h : Heap) (b : Addr) : (noObjs h).get? b = none := by
  cases e : (noObjs h).get? b with
  | none => rfl
  | some o => exact absurd (Heap.lt_size e) (Nat.not_lt_zero _)
theorem fr_all {h : Heap} {L : Addr} {m : Str -> Option Value} (n : h.Ns L m) : Fr (noObjs h) L h m :=
  ⟨n, fun b o e => (by rw [noObjs_get] at e; cases e), Nat.zero_le _⟩
end
end Att
namespace L2
open PySem PySem.Spec PyProof.Rows
theorem vals_ints : ∀ {vs : List Value} {ns : List Int}, IntsAre vs ns -> Vals (ns.map V.int) vs
  | _, _, .nil => .nil
  | _, _, .cons n t h => .cons ⟨t, rfl⟩ (vals_ints h)
def Only (H : Hp) : Prop := ∀ b, H b = none \/ ∃ o xs, H b = some (.frz o (.lst xs))
theorem law_call {P : Program} {w : World} {K : PySem.W.Frag} {mg mb : Str -> Option Value} {CX : CXT} {k : Nat} {fa a : Addr} {fd : FuncData} {x : Str} {sp : Sp} {s₁ : Shared} {vs : List Value} {ns : List Int}
    (KX : K.In s₁.heap) (hns : s₁.heap.Ns mainGlobals mg) (hb : s₁.heap.Ns builtinsNs mb) (hbb : ∀ x : Str, x ≠ "__name__" -> mb x = bootBuiltins x) (hlim : s₁.heap.NoLimit) (hg : s₁.gens = #[])
    (ha : s₁.heap.get? a = some { cls := .type "list", data := .seq vs.toArray }) (hi : IntsAre vs ns) (hl : ns.length <= sizeLine) (hr : Room k callerA)
    (F : ∀ base : Heap, K.In base -> base.Ns mainGlobals mg -> FnOk P w K mg base CX k fa fd [x] sp) (hbind : ∀ (s : Shared) (u : Value), BindsTo s fd ⟨[u], []⟩ [(x, u)])
    (hsp : ∀ H : Hp, Only H -> SqL K H a (ns.map V.int) -> sp [.ref a] H (fun v _ => v = .bl true) fun _ _ _ => False)
    (hCX : ∀ H e s', CX [] H s₁ (fun _ _ _ => False) e s' -> False) :
    codeAny (model P w) callerA (.call (.ref fa) ⟨[.ref a], []⟩) (fun r s' => r = .ok (.ret (.bool true)) /\ OldK s₁.heap s'.heap /\ s'.os = s₁.os /\ AllBare s'.gens) s₁ := by
  have rv := vals_ints hi
  have lenV := hi.length
  -- from an abstract heap in which nothing but the script may be tracked
  have core : ∀ H : Hp, Only H -> SqL K H a (ns.map V.int) -> HOk P w H s₁.heap -> (∀ b, H b ≠ none -> b = a) -> (H a ≠ none -> K.lookup a = none) ->
      codeAny (model P w) callerA (.call (.ref fa) ⟨[.ref a], []⟩) (fun r s' => r = .ok (.ret (.bool true)) /\ OldK s₁.heap s'.heap /\ s'.os = s₁.os /\ AllBare s'.gens) s₁ := by
    intro H hO hS hok hA hK
    have base_of : ∀ {b : Addr} {o : Obj}, s₁.heap.get? b = some o -> H b = none -> (hidT s₁.heap H).get? b = some o := fun e n => hidT_get e n
    have noA : ∀ {b : Addr} {o : Obj} {es : Array DictEntry} {ep : Nat}, s₁.heap.get? b = some o -> o.data = .dict es ep -> H b = none := fun {b o es ep} e d => by
      cases q : H b with
      | none => rfl
      | some u =>
        have e' : b = a := hA b (by rw [q]; simp)
        subst e'
        rw [ha] at e; cases e
        have d' : Data.seq vs.toArray _ = Data.dict es ep := d
        cases d'
    have nsK : ∀ {b : Addr} {m : Str -> Option Value}, s₁.heap.Ns b m -> (hidT s₁.heap H).Ns b m := fun {b m} ⟨o, es, ep, e, d, r⟩ => ⟨o, es, ep, base_of e (noA e d), d, r⟩
    have hKb : K.In (hidT s₁.heap H) := fun b o e => base_of (KX b o e) (by
      cases q : H b with
      | none => rfl
      | some u =>
        have e' : b = a := hA b (by rw [q]; simp)
        subst e'
        rw [hK (by rw [q]; simp)] at e; cases e)
    have hM : Mod K mg (hidT s₁.heap H) := ⟨hKb, nsK hns, ⟨mb, nsK hb, hbb⟩, let ⟨mc, h1, h2⟩ := hlim; ⟨mc, nsK h1, h2⟩⟩
    have e0 : Env0 P w K mg (hidT s₁.heap H) callerA [] s₁ H := ⟨rfl, hM, fun b o e => of_hidT e, Nat.le_of_eq (hidT_size _ _), trivial, fun b hb => absurd (show b ∈ ([] : List Addr) from hb) (by simp), hok, .of_eq hg⟩
    refine codeAny_mono ((F _ hKb (nsK hns)).run callerA [] s₁ H ⟨[.ref a], []⟩ [.ref a] [.ref a] _ _ hr e0 (hbind s₁ (.ref a)) (.cons rfl .nil) (hsp H hO hS)) fun r s' h => ?_
    cases r with
    | error e => exact (hCX H e s' h).elim
    | ok fl =>
      cases fl with
      | next => exact False.elim h
      | brk => exact False.elim h
      | cont => exact False.elim h
      | ret u =>
        obtain ⟨v, H', os, bare, un, hok', r', q⟩ := h
        have q' : v = .bl true := q
        subst q'
        obtain rfl : u = Value.bool true := r'
        refine ⟨rfl, OldK.of_keep fun b o e => ?_, os, bare⟩
        cases q : H b with
        | none => exact un.keep b o e q (by intro z; exact absurd (show b ∈ ([] : List Addr) from z) (by simp)) (by simp)
        | some u =>
          rcases hO b with z | ⟨ob, xs, z⟩
          . rw [q] at z; cases z
          . have z2 := un.frzs b ob _ z
            obtain ⟨e1, _⟩ := hok b _ z
            obtain ⟨e2, _⟩ := hok' b _ z2
            rw [e] at e1; cases e1
            exact e2
  cases hk : K.lookup a with
  | some o =>
    -- the script is one of the module's own objects
    have e := KX a o hk
    rw [ha] at e
    cases e
    refine core (fun _ => none) (fun _ => .inl rfl) (.inr ⟨_, vs.toArray, _, hk, rfl, rfl, rfl, by rw [List.size_toArray, lenV]; exact hl, by simpa using rv⟩) (fun b u z => by have z' : (none : Option HO) = some u := z; cases z') (fun b z => absurd rfl z) fun z => absurd rfl z
  | none =>
    refine core (fun b => if b = a then some (.frz { cls := .type "list", data := .seq vs.toArray } (.lst (ns.map V.int))) else none) (fun b => ?_) (.inl (.inr ⟨{ cls := .type "list", data := .seq vs.toArray }, if_pos rfl⟩)) (fun b u z => ?_) (fun b z => ?_) fun _ => hk
    . by_cases hb : b = a
      . exact .inr ⟨_, _, if_pos hb⟩
      . exact .inl (if_neg hb)
    . by_cases hb : b = a
      . have z' := (if_pos hb).symm.trans z
        cases z'
        subst hb
        exact ⟨ha, by rw [List.length_map]; exact hl, vs, _, rv, ha⟩
      . have z' := (if_neg hb).symm.trans z
        cases z'
    . by_cases hb : b = a
      . exact hb
      . exact absurd (if_neg hb) z
theorem walk_of {l : PySem.W.OpenLaw} {n k : Nat} {q : Program} {loose : List Str} {XP : (Str -> Option Value) -> Heap -> Prop} {YP : World -> Heap -> Prop} {d : DefRec} {K : Params -> PySem.W.Frag} {CX : World -> CXT} {sp : World -> Sp} {x : Str}
    (hn : l.most = some n) (hn2 : n <= sizeLine) (hdf : d.params.defaults = []) (hr : Room k callerA)
    (hY : ∀ (w : World) (h : Heap), YP w h -> (K w.params).In h)
    (F : ∀ (w : World) (mg : Str -> Option Value) (fa : Addr) (h : Heap), (K w.params).In h -> h.Ns mainGlobals mg -> mg d.name = some (.ref fa) ->
      ∃ fd : FuncData, (∀ (s : Shared) (u : Value), BindsTo s fd ⟨[u], []⟩ [(x, u)]) /\
        ∀ base : Heap, (K w.params).In base -> base.Ns mainGlobals mg -> FnOk l.prog w (K w.params) mg base (CX w) k fa fd [x] (sp w))
    (hsp : ∀ (w : World) (H : Hp) (a : Addr) (ns : List Int), ns.length <= n -> Only H -> SqL (K w.params) H a (ns.map V.int) -> sp w [.ref a] H (fun v _ => v = .bl true) fun _ _ _ => False)
    (hCX : ∀ (w : World) (H : Hp) (s : Shared) (e : Value) (s' : Shared), CX w [] H s (fun _ _ _ => False) e s' -> False) :
    PySem.W.WalkO q loose XP YP l.row.toRowW d [] (fun f vs => PySem.call f vs) := by
  refine Att.attach_call hn hdf fun w s₀ s₁ mg mb fa o pm cd doc a vs ns G Y ho hd hcd hmg hobj hints hlen hg => ?_
  have KX := hY w _ Y
  obtain ⟨fd, hb, hF⟩ := F w mg fa _ KX G.T.g hmg
  exact law_call KX G.T.g G.T.b G.T.builtins G.T.nolimit hg hobj hints (Nat.le_trans hlen hn2) hr hF hb (fun H hO hS => hsp w H a ns hlen hO hS) fun H e s' => hCX w H s₁ e s'
def defArgs (s : Stmt) : Arguments := match s with
  | .FunctionDef _ a _ _ _ _ _ _ _ _ => a
  | _ => { posonlyargs := [], args := [], vararg := none, kwonlyargs := [], kw_defaults := [], kwarg := none, defaults := [] }
def defBody (s : Stmt) : List Stmt := match s with
  | .FunctionDef _ _ b _ _ _ _ _ _ _ => b
  | _ => []
def defScope (s : Stmt) : Scope := match s with
  | .FunctionDef _ _ _ _ _ _ sc _ _ _ => sc
  | _ => { kind := .function, names := [], isGenerator := false, isCoroutine := false }
abbrev CX0 : CXT := fun _ _ _ _ _ _ => False
abbrev E0 : XK := fun _ _ _ => False
theorem pass0 {X : Cx} : Passes CX0 X E0 := fun _ _ _ _ _ _ _ h => h.elim
structure Fun (K : PySem.W.Frag) (x qual : Str) (st : Stmt) (f : Addr) (fd : FuncData) : Prop where
  ex : ∃ (oc : Value) (od : Option Addr) (kV doc pm : Value) (an : Option Addr) (cdv ct : Value) (osl : Array (Option Value)),
    fd = PySem.W.fnOf x qual (defArgs st) (defBody st) (defScope st) .none kV doc pm an cdv ct /\ K.lookup f = some ⟨oc, od, .func fd, osl⟩ /\ PySem.W.codeIn K cdv qual = true
  kp : PySem.W.keepIn K (.ref f) = true
section
variable {P : Program} {w : World} {K : PySem.W.Frag} {mg : Str -> Option Value} {base : Heap}
theorem Fun.ok {x qual : Str} {st : Stmt} {f : Addr} {fd : FuncData} {N ps : List Str} {k : Nat} {sp : Sp} (F : Fun K x qual st f fd) (S : FnScope N ps (defScope st)) (len : ∀ vs H Q E, sp vs H Q E -> vs.length = ps.length)
    (hbody : ∀ (cdv : Value) (A : Around) (outer : List Env) (s : Shared) (H : Hp) (vs : List V) (Q : VK) (E : XK), Room k (A.deeper (envOfC qual (defScope st) s.heap.objs.size f cdv)) -> sp vs H Q E ->
      ∃ t, PSs (cxOf CX0 P w K mg base N qual (defScope st) f cdv A outer s H E).nox (defBody st) t /\ t { nx := fun _ H' => Q .non H', rt := Q } (start N vs) H) : FnOk P w K mg base CX0 (k + 1) f fd ps sp := by
  obtain ⟨oc, od, kV, doc, pm, an, cdv, ct, osl, rfl, lk, hcd⟩ := F.ex
  refine fn_of lk hcd S len fun A outer s H vs Q E hr hsp => ?_
  obtain ⟨t, h, q⟩ := hbody cdv A outer s H vs Q E hr hsp
  exact ⟨t, h.nox, q⟩
theorem Fun.binds {x qual : Str} {st : Stmt} {f : Addr} {fd : FuncData} {ps : List Str} (F : Fun K x qual st f fd)
    (h : ∀ (kV doc pm : Value) (an : Option Addr) (cdv ct : Value) (us : List Value), us.length = ps.length -> bindArgs (PySem.W.fnOf x qual (defArgs st) (defBody st) (defScope st) .none kV doc pm an cdv ct) ⟨us, []⟩ = pure (ps.zip us)) : Binds K fd ps [] := by
  obtain ⟨oc, od, kV, doc, pm, an, cdv, ct, osl, rfl, lk, hcd⟩ := F.ex
  exact .all (h kV doc pm an cdv ct)
theorem fun_mk {x qual : Str} {st : Stmt} {f : Addr} {oc : Value} {od an : Option Addr} {osl : Array (Option Value)} {kV doc pm cdv ct : Value} (l : K.lookup f = some ⟨oc, od, .func (PySem.W.fnOf x qual (defArgs st) (defBody st) (defScope st) .none kV doc pm an cdv ct), osl⟩)
    (c : PySem.W.codeIn K cdv qual = true) (k : PySem.W.keepIn K (.ref f) = true) : Fun K x qual st f (PySem.W.fnOf x qual (defArgs st) (defBody st) (defScope st) .none kV doc pm an cdv ct) := ⟨⟨oc, od, kV, doc, pm, an, cdv, ct, osl, rfl, l, c⟩, k⟩
end
theorem small1000 {n : Nat} (h : n <= 1000) : n < sizeLine := Nat.lt_of_le_of_lt h (by decide)
section
variable {X : Cx}
end
theorem ite2 {c A B : Prop} [Decidable c] (h1 : c -> A) (h2 : ¬ c -> B) : if c then A else B := by
  by_cases h : c
  . rw [if_pos h]
    exact h1 h
  . rw [if_neg h]
    exact h2 h
def Same (H H' : Hp) : Prop := ∀ b o, H b = some o -> H' b = some o
theorem Same.refl (H : Hp) : Same H H := fun _ _ h => h
theorem Same.trans {H H1 H2 : Hp} (a : Same H H1) (b : Same H1 H2) : Same H H2 := fun c o h => b c o (a c o h)
theorem Same.free {H H' : Hp} (e : Same H H') {l : Addr} (h : H' l = Option.none) : H l = Option.none := by
  cases q : H l with
  | none => rfl
  | some o =>
    rw [e l o q] at h
    cases h
theorem Same.seq {K : PySem.W.Frag} {H H' : Hp} {a : Addr} {xs : List V} (e : Same H H') (h : SqL K H a xs) : SqL K H' a xs := by
  rcases h with (h | ⟨o, h⟩) | h
  . exact .inl (.inl (e _ _ h))
  . exact .inl (.inr ⟨o, e _ _ h⟩)
  . exact .inr h
theorem cellsFrom_app : ∀ (names : List (Str × NameKind)) (n : Nat) (acc : List (Str × Addr)), cellsFrom n names acc = cellsFrom n names [] ++ acc
  | [], _, _ => rfl
  | (name, kind) :: r, n, acc => by
    unfold cellsFrom
    split
    . rw [cellsFrom_app r (n + 1) ((name, n) :: acc), cellsFrom_app r (n + 1) [(name, n)], List.append_assoc]; rfl
    . exact cellsFrom_app r n acc
theorem cellsFrom_kind : ∀ (names : List (Str × NameKind)) (n : Nat) (acc : List (Str × Addr)) (x : Str) (c : Addr), (x, c) ∈ cellsFrom n names acc -> (x, c) ∈ acc \/ (x, NameKind.cell) ∈ names
  | [], _, _, _, _, h => .inl h
  | (name, kind) :: r, n, acc, x, c, h => by
    unfold cellsFrom at h
    split at h
    . rename_i hk
      rcases cellsFrom_kind r _ _ x c h with h | h
      . rcases List.mem_cons.mp h with e | h
        . cases e
          have : kind = .cell := by simpa using hk
          subst this
          exact .inr List.mem_cons_self
        . exact .inl h
      . exact .inr (List.mem_cons_of_mem _ h)
    . rcases cellsFrom_kind r _ _ x c h with h | h
      . exact .inl h
      . exact .inr (List.mem_cons_of_mem _ h)
theorem lookup_app {α : Type} {x : Str} : ∀ (l r : List (Str × α)), (l ++ r).lookup x = (match l.lookup x with | some c => some c | none => r.lookup x)
  | [], r => rfl
  | (k, v) :: l, r => by
    show List.lookup x ((k, v) :: (l ++ r)) = _
    rw [List.lookup_cons, List.lookup_cons]
    cases x == k with
    | true => rfl
    | false => exact lookup_app l r
theorem lookup_none_of {α : Type} {x : Str} : ∀ {l : List (Str × α)}, (∀ c, (x, c) ∉ l) -> l.lookup x = none
  | [], _ => rfl
  | (k, v) :: l, h => by
    rw [List.lookup_cons]
    cases hb : x == k with
    | true =>
      have : x = k := by simpa using hb
      subst this
      exact absurd List.mem_cons_self (h v)
    | false => exact lookup_none_of fun c hc => h c (List.mem_cons_of_mem _ hc)
def clOf (cells : List (Str × Addr)) : List (Str × NameKind) -> List (Str × Addr) -> List (Str × Addr)
  | [], acc => acc
  | (n, k) :: r, acc => if k == .free then clOf cells r ((n, (cells.lookup n).getD 0) :: acc) else clOf cells r acc
theorem closureFor_eq {scope : Scope} {env : Env} (h : ∀ y ∈ scope.names, y.2 = .free -> ∃ c, env.cells.lookup y.1 = some c) : closureFor scope env = pure (clOf env.cells scope.names []) := by
  have all : ∀ (names : List (Str × NameKind)) (acc : List (Str × Addr)), (∀ y ∈ names, y.2 = .free -> ∃ c, env.cells.lookup y.1 = some c) ->
      (forIn names acc fun (x : Str × NameKind) cs => (if (x.2 == NameKind.free) = true then (do let a <- cellOf env x.1; pure (ForInStep.yield ((x.1, a) :: cs))) else pure (ForInStep.yield cs) : Sem (ForInStep (List (Str × Addr))))) = (pure (clOf env.cells names acc) : Sem _) := by
    intro names
    induction names with
    | nil => intro acc _; rfl
    | cons y r ih =>
      intro acc hy
      obtain ⟨n, k⟩ := y
      rw [List.forIn_cons]
      have hr : ∀ y ∈ r, y.2 = .free -> ∃ c, env.cells.lookup y.1 = some c := fun y hm => hy y (List.mem_cons_of_mem _ hm)
      unfold clOf
      by_cases hk : (k == NameKind.free) = true
      . obtain ⟨c, e⟩ := hy (n, k) List.mem_cons_self (by simpa using hk)
        rw [if_pos hk, if_pos hk]
        have e2 : cellOf env n = pure c := by unfold cellOf; rw [show env.cells.lookup n = some c from e]
        rw [e2]
        rw [show env.cells.lookup n = some c from e]
        exact ih _ hr
      . rw [if_neg hk, if_neg hk]
        exact ih _ hr
  have q := all scope.names [] h
  unfold closureFor
  refine Eq.trans ?_ (congrArg (fun t => t >>= pure) q |>.trans (by rfl))
  congr 1
theorem clOf_mem {cells : List (Str × Addr)} : ∀ (names : List (Str × NameKind)) (acc : List (Str × Addr)) (x : Str) (c : Addr), (∀ y ∈ names, y.2 = .free -> ∃ c, cells.lookup y.1 = some c) -> (x, c) ∈ clOf cells names acc -> (x, c) ∈ acc \/ ((x, NameKind.free) ∈ names /\ cells.lookup x = some c)
  | [], _, _, _, _, h => .inl h
  | (n, k) :: r, acc, x, c, hy, h => by
    have hr : ∀ y ∈ r, y.2 = .free -> ∃ c, cells.lookup y.1 = some c := fun y hm => hy y (List.mem_cons_of_mem _ hm)
    unfold clOf at h
    split at h
    . rename_i hk
      have hk' : k = .free := by simpa using hk
      subst hk'
      obtain ⟨d, e⟩ := hy (n, .free) List.mem_cons_self rfl
      rcases clOf_mem r _ x c hr h with h | ⟨h, h'⟩
      . rcases List.mem_cons.mp h with e' | h
        . obtain ⟨e1, e2⟩ := Prod.mk.inj e'
          rw [show cells.lookup n = some d from e] at e2
          subst e1
          exact .inr ⟨List.mem_cons_self, by rw [e2]; exact e⟩
        . exact .inl h
      . exact .inr ⟨List.mem_cons_of_mem _ h, h'⟩
    . rcases clOf_mem r _ x c hr h with h | ⟨h, h'⟩
      . exact .inl h
      . exact .inr ⟨List.mem_cons_of_mem _ h, h'⟩
theorem clOf_keep {cells : List (Str × Addr)} {x : Str} : ∀ (names : List (Str × NameKind)) (acc : List (Str × Addr)), (∃ c, (x, c) ∈ acc) -> ∃ c, (x, c) ∈ clOf cells names acc
  | [], _, h => h
  | (n, k) :: r, acc, ⟨c, h⟩ => by
    unfold clOf
    split
    . exact clOf_keep r _ ⟨c, List.mem_cons_of_mem _ h⟩
    . exact clOf_keep r _ ⟨c, h⟩
theorem clOf_has {cells : List (Str × Addr)} {x : Str} : ∀ (names : List (Str × NameKind)) (acc : List (Str × Addr)), (x, NameKind.free) ∈ names -> ∃ c, (x, c) ∈ clOf cells names acc
  | (n, k) :: r, acc, h => by
    unfold clOf
    rcases List.mem_cons.mp h with e | h
    . cases e
      rw [if_pos (by decide)]
      exact clOf_keep r _ ⟨_, List.mem_cons_self⟩
    . split
      . exact clOf_has r _ h
      . exact clOf_has r _ h
theorem lookup_of_mem {α : Type} {x : Str} : ∀ {l : List (Str × α)}, (∃ c, (x, c) ∈ l) -> ∃ c, l.lookup x = some c
  | (k, v) :: l, ⟨c, h⟩ => by
    rw [List.lookup_cons]
    cases hb : x == k with
    | true => exact ⟨v, rfl⟩
    | false =>
      rcases List.mem_cons.mp h with e | h
      . cases e; simp at hb
      . exact lookup_of_mem ⟨c, h⟩
def relS (scope sc : Scope) : Scope :=
  { scope with names := scope.names.map fun (n, k) => if (k == .free && sc.kind == .function && sc.names.lookup n == some .cell) then (n, .cell) else (n, k) }
structure CompScope (scope sc : Scope) : Prop where
  kind : scope.kind = .function
  nd : (scope.names.map (·.1)).Nodup
  fr : ∀ y ∈ scope.names, y.2 = .free -> sc.names.lookup y.1 = some .cell \/ sc.names.lookup y.1 = some .free
theorem lookup_nd {α : Type} : ∀ {l : List (Str × α)} {x : Str} {c : α}, (l.map (·.1)).Nodup -> (x, c) ∈ l -> l.lookup x = some c
  | (k, v) :: l, x, c, nd, h => by
    obtain ⟨n1, n2⟩ := List.nodup_cons.mp (show (k :: l.map (·.1)).Nodup from nd)
    rw [List.lookup_cons]
    rcases List.mem_cons.mp h with e | h
    . cases e; simp
    . have hne : ¬ x = k := fun e => n1 (by rw [<- e]; exact List.mem_map.mpr ⟨(x, c), h, rfl⟩)
      have : (x == k) = false := by simpa using hne
      rw [this]
      exact lookup_nd n2 h
theorem relS_lookup {scope sc : Scope} {x : Str} : (relS scope sc).names.lookup x = (scope.names.lookup x).map fun k => if (k == .free && sc.kind == .function && sc.names.lookup x == some .cell) then NameKind.cell else k := by
  show (scope.names.map _).lookup x = _
  generalize scope.names = names
  induction names with
  | nil => rfl
  | cons y r ih =>
    obtain ⟨n, k⟩ := y
    rw [List.map_cons]
    by_cases hc : (k == .free && sc.kind == .function && sc.names.lookup n == some .cell) = true
    . show List.lookup x ((if (k == .free && sc.kind == .function && sc.names.lookup n == some .cell) = true then (n, NameKind.cell) else (n, k)) :: _) = _
      rw [if_pos hc, List.lookup_cons, List.lookup_cons]
      cases hb : x == n with
      | true =>
        have hx : x = n := by simpa using hb
        subst hx
        show some NameKind.cell = some (if _ then _ else _)
        rw [if_pos hc]
      | false => exact ih
    . show List.lookup x ((if (k == .free && sc.kind == .function && sc.names.lookup n == some .cell) = true then (n, NameKind.cell) else (n, k)) :: _) = _
      rw [if_neg hc, List.lookup_cons, List.lookup_cons]
      cases hb : x == n with
      | true =>
        have hx : x = n := by simpa using hb
        subst hx
        show some k = some (if _ then _ else _)
        rw [if_neg hc]
      | false => exact ih
structure CArgs where
  pins : List (Addr × Obj)
  cells : List (Str × Addr)
  s : Shared
  H : Hp
  fp : List Addr
  C : Addr
def Cx.comp (X : Cx) (scope : Scope) (N' : List Str) (c : CArgs) : Cx where
  prog := X.prog
  w := X.w
  K := X.K
  mg := X.mg
  base := X.base
  A := X.A
  N := N'
  s₀ := c.s
  H₀ := c.H
  env := compEnvC scope c.cells c.C X.env
  outer := X.stack
  stack := X.stack
  ex := c.fp
  fn := fun x => scope.names.lookup x == some .cell
  calm := X.calm
  pn := X.pn ++ c.pins
  xe := fun _ _ => False
def cSt (own : Nat) (ix : List Nat) (σ : St) : St := List.replicate own none ++ ix.map fun i => (σ[i]?).join
section
variable {X : Cx} {pins : List (Addr × Obj)} {σ : St} {H : Hp} {s s4 : Shared} {fp : List Addr} {scope : Scope} {N' : List Str} {own : Nat} {ix : List Nat}
theorem comp_inv (I : Inv X pins σ H s) (f2 : ∀ b ∈ fp, FpOk X pins H b) (hob : ∀ b ∈ fp, ∃ o, s.heap.get? b = some o) (S : CompScope scope X.env.scope)
    (hlen : N'.length = own + ix.length) (hN : (N'.drop own).map some = ix.map (X.N[·]?)) (hfr : ∀ x ∈ N'.drop own, scope.names.lookup x = some .free)
    {C : Addr} (hC : s.heap.objs.size < C) (k4 : ∀ b o, s.heap.get? b = some o -> s4.heap.get? b = some o) (os4 : s4.os = s.os) (g4 : s4.gens = s.gens)
    (n4 : ∃ m, s4.heap.Ns C m) (own4 : ∀ x c, (x, c) ∈ cellsFrom (C + 1) scope.names [] -> s4.heap.IsCell c none /\ C + 1 <= c)
    (apart : (cellsFrom (C + 1) scope.names []).Pairwise fun x y => x.2 ≠ y.2) :
    Inv (X.comp scope N' ⟨pins, cellsFrom (C + 1) scope.names (clOf X.env.cells scope.names []), s, H, fp, C⟩) [] (cSt own ix σ) H s4 := by
  have hfree : ∀ y ∈ scope.names, y.2 = .free -> ∃ c, X.env.cells.lookup y.1 = some c := fun y hy h => I.ok.has y.1 (S.fr y hy h)
  -- a cell of the block
  have cases : ∀ x c, (cellsFrom (C + 1) scope.names (clOf X.env.cells scope.names [])).lookup x = some c ->
      ((x, c) ∈ cellsFrom (C + 1) scope.names [] /\ scope.names.lookup x = some .cell) \/ ((x, NameKind.free) ∈ scope.names /\ X.env.cells.lookup x = some c) := fun x c h => by
    rw [cellsFrom_app, lookup_app] at h
    cases e : (cellsFrom (C + 1) scope.names []).lookup x with
    | some d =>
      rw [e] at h
      cases h
      have m := mem_of_lookup e
      rcases cellsFrom_kind _ _ _ _ _ m with z | z
      . exact absurd z (by simp)
      . exact .inl ⟨m, lookup_nd S.nd z⟩
    | none =>
      rw [e] at h
      rcases clOf_mem _ _ _ _ hfree (mem_of_lookup h) with z | z
      . exact absurd z (by simp)
      . exact .inr z
  have oldlt : ∀ x c, X.env.cells.lookup x = some c -> c < s.heap.objs.size := fun x c e => let ⟨v, q⟩ := I.cell x c e; q.lt
  have kin : ∀ x, (relS scope X.env.scope).names.lookup x = some .cell \/ (relS scope X.env.scope).names.lookup x = some .free -> (scope.names.lookup x = some .cell \/ scope.names.lookup x = some .free) := fun x h => by
    rw [relS_lookup] at h
    cases e : scope.names.lookup x with
    | none => rw [e] at h; simp at h
    | some k =>
      rw [e] at h
      cases k with
      | cell => exact .inl rfl
      | free => exact .inr rfl
      | _ => exact absurd h (by simp)
  have hCn : ∀ b o, s.heap.get? b = some o -> b ≠ C := fun b o e z => by have := Heap.lt_size e; rw [z] at this; exact Nat.lt_irrefl _ (Nat.lt_trans this hC)
  have lk : ∀ x, (x, NameKind.free) ∈ scope.names -> ∀ c, X.env.cells.lookup x = some c -> (cellsFrom (C + 1) scope.names (clOf X.env.cells scope.names [])).lookup x = some c := fun x hx c hc => by
    have hl : scope.names.lookup x = some .free := lookup_nd S.nd hx
    rw [cellsFrom_app, lookup_app, lookup_none_of (l := cellsFrom (C + 1) scope.names []) fun d hd => ?_]
    . obtain ⟨d, hd⟩ := lookup_of_mem (clOf_has (cells := X.env.cells) scope.names [] hx)
      rcases clOf_mem _ _ _ _ hfree (mem_of_lookup hd) with z | ⟨_, z⟩
      . exact absurd z (by simp)
      . rw [hc] at z; cases z; exact hd
    . rcases cellsFrom_kind _ _ _ _ _ hd with z | z
      . exact absurd z (by simp)
      . rw [lookup_nd S.nd z] at hl; cases hl
  refine ⟨⟨I.ok.mod, S.kind, I.ok.glob, I.ok.blt, Nat.le_of_lt hC, fun x y c hx hy => ?_, fun x hx => ?_, fun x c hf hx => ?_, I.ok.hd, I.ok.frames, .inl rfl, fun b hb => ⟨?_, fun x c hx => ?_⟩, fun b o e => I.bs b o e, Nat.le_trans I.ok.bsz I.sz, fun b o e hb => ?_, fun b hb z => ?_, I.stack, I.stkFree⟩,
    os4, by rw [g4]; exact I.bare, Un.kept k4, ?_, fun x c hx => ?_, ?_, fun x c hx => ?_, fun p hp => ?_, I.hok.kept k4, ?_⟩
  . -- inj
    rcases cases x c hx with ⟨m1, _⟩ | ⟨_, m1⟩ <;> rcases cases y c hy with ⟨m2, _⟩ | ⟨_, m2⟩
    . exact name_of_addr apart m1 m2
    . exact absurd (Nat.lt_of_lt_of_le (Nat.lt_trans (oldlt y c m2) hC) (Nat.le_of_succ_le (own4 x c m1).2)) (Nat.lt_irrefl _)
    . exact absurd (Nat.lt_of_lt_of_le (Nat.lt_trans (oldlt x c m1) hC) (Nat.le_of_succ_le (own4 y c m2).2)) (Nat.lt_irrefl _)
    . exact I.ok.inj x y c m1 m2
  . -- has
    rcases kin x hx with h | h
    . have q := PySem.W.cellsFrom_some scope.names (C + 1) (clOf X.env.cells scope.names []) (.inl h)
      exact Option.isSome_iff_exists.mp q
    . obtain ⟨c, e⟩ := hfree (x, .free) (mem_of_lookup h) rfl
      exact ⟨c, lk x (mem_of_lookup h) c e⟩
  . -- cab
    rcases cases x c hx with ⟨m1, _⟩ | ⟨m1, _⟩
    . exact Nat.le_of_lt (Nat.lt_of_lt_of_le hC (Nat.le_of_succ_le (own4 x c m1).2))
    . have hl := lookup_nd S.nd m1
      have hf' : (scope.names.lookup x == some NameKind.cell) = true := hf
      rw [hl] at hf'; cases hf'
  . obtain ⟨o, e⟩ := hob b hb
    exact hCn b o e
  . intro z
    obtain ⟨o, e⟩ := hob b hb
    have hlt := Heap.lt_size e
    rcases cases x c hx with ⟨m1, _⟩ | ⟨_, m1⟩
    . subst z; exact absurd (Nat.lt_of_lt_of_le (Nat.lt_trans hlt hC) (Nat.le_of_succ_le (own4 x c m1).2)) (Nat.lt_irrefl _)
    . exact (f2 b hb).2.2.2.2.1 x c m1 z
  . -- noex
    have e1 := (I.ok.bs b o e).1
    rcases (f2 b hb).2.2.2.1 with z | z
    . exact I.ok.noex b o e z
    . exact absurd (Nat.lt_of_lt_of_le (Heap.lt_size e1) z) (Nat.lt_irrefl _)
  . -- exfs
    rcases List.mem_cons.mp (I.stkSub b z) with e | z
    . exact (f2 b hb).2.1 e
    . exact (f2 b hb).2.2.1 z
  . -- loc
    obtain ⟨m, hm⟩ := n4
    obtain ⟨m0, hn0, hl0⟩ := I.loc
    refine ⟨m, hm, fun i x v h1 h2 h3 => ?_⟩
    have h1 : N'[i]? = some x := h1
    unfold cSt at h2
    by_cases hi : i < own
    . rw [List.getElem?_append_left (by simpa using hi), List.getElem?_replicate] at h2
      split at h2 <;> cases h2
    . rw [List.getElem?_append_right (by simpa using hi), List.length_replicate, List.getElem?_map] at h2
      obtain ⟨j, hj⟩ : ∃ j, i = own + j := ⟨i - own, by omega⟩
      subst hj
      rw [Nat.add_sub_cancel_left] at h2
      cases e : ix[j]? with
      | none => rw [e] at h2; cases h2
      | some q =>
        rw [e] at h2
        have h2 : some (σ[q]?).join = some (some v) := h2
        have h2 : (σ[q]?).join = some v := Option.some.inj h2
        have hσ : σ[q]? = some (some v) := by
          cases eq : σ[q]? with
          | none => rw [eq] at h2; cases h2
          | some z => rw [eq] at h2; simp at h2; rw [h2]
        have hx : (N'.drop own)[j]? = some x := by rw [List.getElem?_drop]; exact h1
        have hNq : X.N[q]? = some x := by
          have := congrArg (·[j]?) hN
          simp only [List.getElem?_map, hx, e, Option.map_some] at this
          exact (Option.some.inj this).symm
        have hfx := hfr x (List.mem_of_getElem? hx)
        have hmem := mem_of_lookup hfx
        have kx := S.fr (x, .free) hmem rfl
        have vis : Vis X.env.scope x := .inr kx
        obtain ⟨u, r, l⟩ := hl0 q x v hNq hσ vis
        refine ⟨u, r, ?_⟩
        rcases l with ⟨k, _⟩ | ⟨k, c, hc, z⟩
        . exfalso
          have k' : X.env.scope.names.lookup x = some .local := k
          rcases kx with kx | kx
          . rw [show X.env.scope.names.lookup x = some .cell from kx] at k'; cases k'
          . rw [show X.env.scope.names.lookup x = some .free from kx] at k'; cases k'
        . refine .inr ⟨?_, c, lk x hmem c hc, z.keeps k4⟩
          show (relS scope X.env.scope).names.lookup x = some .cell \/ (relS scope X.env.scope).names.lookup x = some .free
          rw [relS_lookup, hfx]
          by_cases hc : (NameKind.free == .free && X.env.scope.kind == .function && X.env.scope.names.lookup x == some .cell) = true
          . exact .inl (by rw [Option.map_some, if_pos hc])
          . exact .inr (by rw [Option.map_some, if_neg hc])
  . rcases cases x c hx with ⟨m1, _⟩ | ⟨_, m1⟩
    . exact ⟨_, (own4 x c m1).1⟩
    . obtain ⟨v, q⟩ := I.cell x c m1
      exact ⟨v, q.keeps k4⟩
  . exact I.hok.fresh (Nat.le_of_lt hC)
  . rcases cases x c hx with ⟨m1, _⟩ | ⟨_, m1⟩
    . exact I.hok.fresh (Nat.le_of_lt (Nat.lt_of_lt_of_le hC (Nat.le_of_succ_le (own4 x c m1).2)))
    . exact I.freeC x c m1
  . have hp : p ∈ X.pn ++ pins := by
      have : p ∈ (X.pn ++ pins) ++ [] := hp
      rwa [List.append_nil] at this
    obtain ⟨e, n, ne, nf, d⟩ := I.pin p hp
    refine ⟨k4 _ _ e, n, hCn _ _ e, fun z => ?_, d⟩
    rcases List.mem_cons.mp (I.stkSub _ z) with q | q
    . exact ne q
    . exact nf q
  . unfold cSt
    rw [List.length_append, List.length_replicate, List.length_map]
    exact hlen.symm
end
section
variable {prog : Program} {w : World} {A : Around} {R : Result -> Shared -> Prop} {s : Shared}
theorem codeAny_compLoop_any {elt target iter : Expr} {ifs : List Expr} {scope : Scope} {pos : Pos} {it acc : Value} {env : Env} (I : Nat -> Shared -> Prop)
    (turn : ∀ n s, I n s -> wpAny (model prog w) A (pyNext it) (fun r s₁ => match r with
      | none => R (.ok .next) s₁
      | some v => wpAny (model prog w) A (letOwnedTupleGo target it v) (fun _ s₁' => wpAny (model prog w) A (assign target env v) (fun _ s₂ =>
          wpAny (model prog w) A (forIn ifs true fun c r => if r = true then do let ok <- isTrue c env (eval c env); pure (ForInStep.yield ok) else pure (ForInStep.yield r)) (fun ok s₃ =>
            if ok = true then wpAny (model prog w) A (eval elt env) (fun x s₄ =>
              wpAny (model prog w) A (call (.builtin "list.append") [acc, x]) (fun _ s₅ => ∃ m, m < n /\ I m s₅) (fun _ _ => False) s₄) (fun _ _ => False) s₃
            else ∃ m, m < n /\ I m s₃) (fun _ _ => False) s₂) (fun _ _ => False) s₁') (fun _ _ => False) s₁) (fun _ _ => False) s)
    (n : Nat) (h : I n s) :
    codeAny (model prog w) A (.compLoop (.ListComp elt [⟨target, iter, ifs, 0⟩] scope pos) 0 it acc env) R s := by
  refine codeAny_loop rfl I (fun n s hI => ?_) n h
  show wpAny _ A ((compTurn (.ListComp elt [⟨target, iter, ifs, 0⟩] scope pos) 0 it acc env).onRaise (fun x => do noteFrame x env; theTreesLotGoes x)) _ _ s
  refine wpAny_noted ?_
  rw [compTurn_list]
  refine wpAny_bind (wpAny_standAt (wpAny_bind (wpAny_mono (turn n s hI) (fun r s₁ h₁ => ?_) fun _ _ h' => h'.elim)))
  cases r with
  | none => exact wpAny_pure h₁
  | some v =>
    refine wpAny_bind (wpAny_mono h₁ (fun _ s₁' h₁' => ?_) fun _ _ h' => h'.elim)
    refine wpAny_bind (wpAny_mono h₁' (fun _ s₂ h₂ => wpAny_bind (wpAny_mono h₂ (fun ok s₃ h₃ => ?_) fun _ _ h' => h'.elim)) fun _ _ h' => h'.elim)
    cases ok with
    | false => exact wpAny_pure ⟨rfl, h₃⟩
    | true =>
      exact wpAny_bind (wpAny_bind (wpAny_mono h₃ (fun x s₄ h₄ => wpAny_bind (wpAny_mono h₄ (fun _ s₅ h₅ => wpAny_pure (wpAny_pure ⟨rfl, h₅⟩)) fun _ _ h' => h'.elim)) fun _ _ h' => h'.elim))
end
def PTs (X : Cx) (ifs : List Expr) (t : TT) : Prop :=
  ∀ (pins : List (Addr × Obj)) (s : Shared) (σ : St) (H : Hp) (Q : Bool -> Hp -> Prop), Inv X pins σ H s -> t σ H Q ->
    wpAny (model X.prog X.w) X.A (forIn ifs true fun c r => if r = true then do let ok <- isTrue c X.env (eval c X.env); pure (ForInStep.yield ok) else pure (ForInStep.yield r)) (TP X pins σ Q) X.xe s
def tTrue : TT := fun _ H Q => Q true H
theorem pts_nil {X : Cx} : PTs X [] tTrue := fun _ _ _ H _ I h => wpAny_tests_nil ⟨H, I, h⟩
def GOwn (own : Nat) (g : TG) : Prop := ∀ x σ H Q, g x σ H Q -> g x σ H fun σ' H' => (σ'.length = σ.length /\ ∀ i, own <= i -> σ'[i]? = σ[i]?) /\ Q σ' H'
def GsOwn (own : Nat) (g : TGs) : Prop := ∀ x σ H Q, g x σ H Q -> g x σ H fun σ' H' => (σ'.length = σ.length /\ ∀ i, own <= i -> σ'[i]? = σ[i]?) /\ Q σ' H'
theorem go_name {own i : Nat} (h : i < own) : GOwn own (gName i) := fun x σ H Q q =>
  ⟨⟨by simp, fun j hj => by rw [List.getElem?_set_ne (by omega)]⟩, q⟩
theorem gos_nil {own : Nat} : GsOwn own gNil := fun x σ H Q ⟨e, q⟩ => ⟨e, ⟨rfl, fun _ _ => rfl⟩, q⟩
def GMono (g : TG) : Prop := ∀ x σ H (Q Q' : St -> Hp -> Prop), (∀ σ H, Q σ H -> Q' σ H) -> g x σ H Q -> g x σ H Q'
def GsMono (g : TGs) : Prop := ∀ x σ H (Q Q' : St -> Hp -> Prop), (∀ σ H, Q σ H -> Q' σ H) -> g x σ H Q -> g x σ H Q'
theorem gm_name {i : Nat} : GMono (gName i) := fun _ _ _ _ _ h q => h _ _ q
theorem gms_nil : GsMono gNil := fun _ _ _ _ _ h ⟨e, q⟩ => ⟨e, h _ _ q⟩
theorem gms_cons {t : TG} {u : TGs} (h1 : GMono t) (h2 : GsMono u) : GsMono (gCons t u) := fun _ _ _ _ _ h ⟨v, r, e, q⟩ => ⟨v, r, e, h1 _ _ _ _ _ (fun _ _ q => h2 _ _ _ _ _ h q) q⟩
theorem gos_cons {own : Nat} {t : TG} {u : TGs} (m : GMono t) (mu : GsMono u) (h1 : GOwn own t) (h2 : GsOwn own u) : GsOwn own (gCons t u) := fun x σ H Q ⟨v, r, e, q⟩ =>
  ⟨v, r, e, m _ _ _ _ _ (fun σ' H' ⟨⟨e1, e2⟩, q⟩ => mu _ _ _ _ _ (fun σ'' H'' ⟨⟨e3, e4⟩, q⟩ => ⟨⟨e3.trans e1, fun i hi => (e4 i hi).trans (e2 i hi)⟩, q⟩) (h2 r σ' H' Q q)) (h1 v σ H _ q)⟩
theorem go_tup {own : Nat} {K : PySem.W.Frag} {n : Nat} {t : TGs} (h : GsOwn own t) : GOwn own (gTup K n t) := fun x σ H Q ⟨a, xs, e, s, l, q⟩ => ⟨a, xs, e, s, l, h _ _ _ _ q⟩
theorem cSt_own {own : Nat} {ix : List Nat} {σ : St} {i : Nat} {v : V} (h : (cSt own ix σ)[i]? = some (some v)) : own <= i := by
  unfold cSt at h
  by_cases hi : i < own
  . rw [List.getElem?_append_left (by simpa using hi), List.getElem?_replicate] at h
    split at h <;> cases h
  . omega
def CompTurns (J : It) (g : TG) (tc : TT) (te : TE) (σc : St) (Q : VK) (H1 : Hp) : Prop :=
  ∃ W : Nat -> Nat -> List V -> Hp -> Prop, (∃ m, W 0 m [] H1) /\ ∀ i m ys H, W i m ys H ->
    (J.stop i H /\ ∀ p, H p = none -> Q (.ref p) (upd H p (.lst ys))) \/
    (J.go i H /\ ys.length < sizeLine /\ ∃ N : List V -> Hp -> Prop, (∀ ys' H', N ys' H' -> ∃ m', m' < m /\ W (i + 1) m' ys' H') /\ ∀ x H', J.yld i H x H' -> g x σc H' fun σ4 H4 => tc σ4 H4 fun b H5 =>
      if b = true then te σ4 H5 fun y H6 => N (ys ++ [y]) H6 else N ys H5)
def tComp (wi : TI) (own : Nat) (ix : List Nat) (g : TG) (tc : TT) (te : TE) : TE := fun σ H Q => wi σ H fun J H1 => CompTurns J g tc te (cSt own ix σ) Q H1
section
variable {X : Cx} {pins : List (Addr × Obj)} {σ : St} {H : Hp} {s : Shared} {fp : List Addr} {it : Addr} {tn : Nat -> Heap -> Prop} {J : It} {tg iter elt : Expr} {ifs : List Expr} {scope : Scope} {pos : Pos} {N' : List Str} {own : Nat} {ix : List Nat} {g : TG} {tc : TT} {te : TE} {Q : VK} {E : Value -> Shared -> Prop}
theorem comp_block (I : Inv X pins σ H s) (T : Turn X.prog X.w X.K tg J fp it tn) (st : tn 0 s.heap) (f2 : ∀ b ∈ fp, FpOk X pins H b) (hc : X.calm = true) (S : CompScope scope X.env.scope)
    (hlen : N'.length = own + ix.length) (hN : (N'.drop own).map some = ix.map (X.N[·]?)) (hfr : ∀ x ∈ N'.drop own, scope.names.lookup x = some .free)
    (hg : ∀ c, PG (X.comp scope N' c) tg g) (hgo : GOwn own g) (ht : ∀ c, PTs (X.comp scope N' c) ifs tc) (he : ∀ c, PE (X.comp scope N' c) elt te)
    (hq : CompTurns J g tc te (cSt own ix σ) Q H) {RR : Value -> Addr -> Result -> Shared -> Prop}
    (fin : ∀ (D C : Addr) (s' : Shared) (H' : Hp) (ys : List V) (its : List Value) (n : Nat), s'.os = s.os -> AllBare s'.gens -> Un (frs X.stack) fp H H' s.heap s'.heap -> HOk X.prog X.w H' s'.heap -> (∃ m, s'.heap.Ns C m) -> H' C = none -> s.heap.objs.size <= C ->
      H' D = none -> s.heap.objs.size <= D -> D ≠ C -> s'.heap.get? D = some { cls := .type "list", data := .seq its.toArray n } -> Vals ys its -> ys.length <= sizeLine -> (∀ p, H' p = none -> Q (.ref p) (upd H' p (.lst ys))) -> RR (.ref D) C (.ok .next) s') :
    wpAny (model X.prog X.w) X.A (newList []) (fun acc s₃ => wpAny (model X.prog X.w) X.A (newFunctionEnv scope X.env.globals (clOf X.env.cells scope.names []) [] X.env.qual none .none (some X.env)) (fun cenv s₄ =>
      codeAny (model X.prog X.w) X.A (.compStart (.ListComp elt [⟨tg, iter, ifs, 0⟩] scope pos) 0 (.ref it) acc { cenv with scope := relabel scope X.env }) (RR acc cenv.locals) s₄) E s₃) E s := by
  obtain ⟨W, ⟨m0, w0⟩, turn⟩ := hq
  have hob : ∀ b ∈ fp, ∃ o, s.heap.get? b = some o := fun b hb => let ⟨o, e, _⟩ := T.obj 0 _ st b hb; ⟨o, e⟩
  refine wpAny_newObj_type ?_
  generalize hH1 : s.heap.push { cls := .type "list", dict := none, data := .seq ([] : List Value).toArray } = h1
  have hs1 : h1.objs.size = s.heap.objs.size + 1 := by rw [<- hH1, Heap.size_push]
  have k1 : ∀ b o, s.heap.get? b = some o -> h1.get? b = some o := fun b o e => by rw [<- hH1]; exact Heap.get?_push_of_some _ e
  have d1 : h1.get? s.heap.objs.size = some { cls := .type "list", data := .seq ([] : List Value).toArray } := by rw [<- hH1]; exact Heap.get?_push_size _ rfl
  simp only [newFunctionEnv, Option.isSome_some, if_true]
  refine wpAny_bind (wpAny_alloc ?_)
  generalize hH2 : (({ s with heap := h1 } : Shared).heap.push { cls := .type "dict", data := .dict #[] }) = h2
  have hH2' : h1.push { cls := .type "dict", data := .dict #[] } = h2 := hH2
  have hs2 : h2.objs.size = h1.objs.size + 1 := by rw [<- hH2', Heap.size_push]
  have k2 : ∀ b o, h1.get? b = some o -> h2.get? b = some o := fun b o e => by rw [<- hH2']; exact Heap.get?_push_of_some _ e
  have n2 : h2.Ns h1.objs.size (fun _ => none) := by rw [<- hH2']; exact Heap.Ns.new h1 (.type "dict")
  refine wpAny_bind (wpAny_layCells _ (fun name kind cells => by cases hkc : kind == NameKind.cell <;> simp [hkc]) _ _ _ _ ?_)
  have ok := cellsFrom_ok scope.names h2 (h1.objs.size + 1) [] ⟨fun _ _ hm => (nomatch hm), List.Pairwise.nil⟩ (by rw [hs2]; exact Nat.le_refl _)
  rw [hs2] at ok
  show wpAny _ _ (forIn ([] : List (Str × Value)) PUnit.unit _ >>= _) _ _ _
  rw [List.forIn_nil]
  refine wpAny_bind (wpAny_pure (wpAny_pure ?_))
  show codeAny _ _ (.compStart _ 0 (.ref it) (.ref s.heap.objs.size) (compEnvC scope (cellsFrom h2.objs.size scope.names (clOf X.env.cells scope.names [])) h1.objs.size X.env)) (RR (.ref s.heap.objs.size) h1.objs.size) { s with heap := pushCells h2 scope.names }
  rw [hs2]
  generalize hH3 : pushCells h2 scope.names = h3 at ok ⊢
  have k3 : ∀ b o, h2.get? b = some o -> h3.get? b = some o := fun b o e => by rw [<- hH3]; exact pushCells_keeps _ _ b o e
  have kk : ∀ b o, s.heap.get? b = some o -> h3.get? b = some o := fun b o e => k3 b o (k2 b o (k1 b o e))
  have d3 : h3.get? s.heap.objs.size = some { cls := .type "list", data := .seq ([] : List Value).toArray } := k3 _ _ (k2 _ _ d1)
  have hC : s.heap.objs.size < h1.objs.size := by rw [hs1]; exact Nat.lt_succ_self _
  have I3 : Inv (X.comp scope N' ⟨pins, cellsFrom (h1.objs.size + 1) scope.names (clOf X.env.cells scope.names []), s, H, fp, h1.objs.size⟩) [] (cSt own ix σ) H { s with heap := h3 } :=
    comp_inv (s4 := { s with heap := h3 }) I f2 hob S hlen hN hfr hC kk rfl rfl ⟨_, n2.keeps k3⟩ (fun x c hm => ok.empty x c hm) ok.apart
  generalize hcs : cellsFrom (h1.objs.size + 1) scope.names (clOf X.env.cells scope.names []) = cs at I3 ⊢
  generalize hCC : h1.objs.size = C at *
  generalize hDD : s.heap.objs.size = D at *
  have hY := I3.ok
  -- what is fixed of the records
  have sD : D ≠ C /\ (∀ x c, cs.lookup x = some c -> c ≠ D) /\ D ∉ frs X.stack /\ ∀ p ∈ X.pn ++ pins, p.1 ≠ D := by
    refine ⟨Nat.ne_of_lt hC, fun x c e z => ?_, fun z => ?_, fun p hp z => ?_⟩
    . subst z
      have e' := e
      rw [<- hcs, cellsFrom_app, lookup_app] at e'
      cases q : (cellsFrom (C + 1) scope.names []).lookup x with
      | some d =>
        rw [q] at e'; cases e'
        have := (ok.empty x c (mem_of_lookup q)).2
        exact absurd (Nat.lt_of_lt_of_le hC (Nat.le_of_succ_le this)) (Nat.lt_irrefl _)
      | none =>
        rw [q] at e'
        have hfree : ∀ y ∈ scope.names, y.2 = .free -> ∃ c, X.env.cells.lookup y.1 = some c := fun y hy h => I.ok.has y.1 (S.fr y hy h)
        rcases clOf_mem _ _ _ _ hfree (mem_of_lookup e') with z | ⟨_, z⟩
        . exact absurd z (by simp)
        . obtain ⟨v, q⟩ := I.cell x c z
          have := q.lt
          rw [hDD] at this
          exact Nat.lt_irrefl _ this
    . exact (I3.nofs (a := D) (by exact absurd z (by
        intro z'
        obtain ⟨_, o, ho, _⟩ := (show s.heap.FunFrames X.base X.stack from I.stack).mem z'
        have := Heap.lt_size ho
        rw [hDD] at this
        exact Nat.lt_irrefl _ this))) z
    . have := Heap.lt_size (I.pin p hp).1
      rw [z, hDD] at this
      exact Nat.lt_irrefl _ this
  have stat : ∀ {H' : Hp}, (∀ b ∈ fp, H' b = none) -> ∀ b ∈ fp, FpOk (X.comp scope N' ⟨pins, cs, s, H, fp, C⟩) [] H' b := fun {H'} hn b hb => by
    refine ⟨hn b hb, (hY.exf b hb).1, hY.exfs b hb, .inl hb, (hY.exf b hb).2, fun p hp => ?_⟩
    have hp : p ∈ (X.pn ++ pins) ++ [] := hp
    rw [List.append_nil] at hp
    exact (f2 b hb).2.2.2.2.2 p hp
  have statD : ∀ {H' : Hp}, H' D = none -> FpOk (X.comp scope N' ⟨pins, cs, s, H, fp, C⟩) [] H' D := fun {H'} hn => by
    refine ⟨hn, sD.1, sD.2.2.1, .inr (Nat.le_of_eq hDD), sD.2.1, fun p hp => ?_⟩
    have hp : p ∈ (X.pn ++ pins) ++ [] := hp
    rw [List.append_nil] at hp
    exact sD.2.2.2 p hp
  have loop : codeAny (model X.prog X.w) X.A (.compLoop (.ListComp elt [⟨tg, iter, ifs, 0⟩] scope pos) 0 (.ref it) (.ref D) (compEnvC scope cs C X.env)) (RR (.ref D) C) { s with heap := h3 } := by
    refine codeAny_compLoop_any (fun n s' => ∃ (i : Nat) (H' : Hp) (ys : List V) (its : List Value) (k : Nat), Inv (X.comp scope N' ⟨pins, cs, s, H, fp, C⟩) [] (cSt own ix σ) H' s' /\ tn i s'.heap /\ (∀ b ∈ fp, H' b = none) /\ H' D = none /\
      s'.heap.get? D = some { cls := .type "list", data := .seq its.toArray k } /\ Vals ys its /\ ys.length <= sizeLine /\ W i n ys H') ?_ m0
      ⟨0, H, [], [], 0, I3, T.keep _ _ _ st fun b _ o e => kk b o e, fun b hb => (f2 b hb).1, I.hok.fresh (Nat.le_of_eq hDD), d3, .nil, Nat.zero_le _, w0⟩
    rintro n s4 ⟨i, H4, ys, its, k, I4, st4, fr4, dn4, d4, rv4, z4, w4⟩
    rcases turn i n ys H4 w4 with ⟨stop, qn⟩ | ⟨go, zl, N, hN2, step⟩
    . have ID := I4.pinned (fp := [D]) (fun b hb => by rw [List.mem_singleton.mp hb]; exact statD dn4) (fun b hb => by rw [List.mem_singleton.mp hb]; exact ⟨_, d4, fun v z => nomatch z⟩)
      have nD : ∀ b ∈ fp, b ≠ D := fun b hb z => by
        obtain ⟨o, e⟩ := hob b hb
        have := Heap.lt_size e
        rw [z, hDD] at this
        exact Nat.lt_irrefl _ this
      have stat' : ∀ b ∈ fp, FpOk (X.comp scope N' ⟨pins, cs, s, H, fp, C⟩) ([] ++ pinsAt [D] s4.heap) H4 b := fun b hb => by
        obtain ⟨q1, q2, q3, q4, q5, q6⟩ := stat fr4 b hb
        refine ⟨q1, q2, q3, q4, q5, fun p hp => ?_⟩
        rcases List.mem_append.mp hp with z | z
        . exact q6 p (List.mem_append_left _ z)
        . have := (of_pinsAt (by simpa using z : p ∈ pinsAt [D] s4.heap)).1
          rw [List.mem_singleton.mp this]
          exact fun z => nD b hb z.symm
      refine thn (T.done (X.comp scope N' ⟨pins, cs, s, H, fp, C⟩) rfl rfl rfl hc i _ s4 _ H4 (fun _ _ => False) ID stat' st4 stop) fun r s5 ⟨hr, I5⟩ => ?_
      subst hr
      obtain ⟨m, hm, _⟩ := I5.loc
      refine fin D C s5 H4 ys its k I5.os I5.bare I5.base I5.hok ⟨m, hm⟩ I5.free (Nat.le_of_lt hC) dn4 (Nat.le_refl _) sD.1 ?_ rv4 z4 qn
      . exact (I5.pin (D, _) (List.mem_append_right _ (List.mem_append_right _ (mem_pinsAt (List.mem_singleton.mpr rfl) d4)))).1
    . have nD : ∀ b ∈ fp, b ≠ D := fun b hb z => by
        obtain ⟨o, e⟩ := hob b hb
        have := Heap.lt_size e
        rw [z, hDD] at this
        exact Nat.lt_irrefl _ this
      have ID := I4.pinned (fp := [D]) (fun b hb => by rw [List.mem_singleton.mp hb]; exact statD dn4) (fun b hb => by rw [List.mem_singleton.mp hb]; exact ⟨_, d4, fun v z => nomatch z⟩)
      have statP : ∀ {H' : Hp}, (∀ b ∈ fp, H' b = none) -> ∀ b ∈ fp, FpOk (X.comp scope N' ⟨pins, cs, s, H, fp, C⟩) ([] ++ pinsAt [D] s4.heap) H' b := fun {H'} hn b hb => by
        obtain ⟨q1, q2, q3, q4, q5, q6⟩ := stat hn b hb
        refine ⟨q1, q2, q3, q4, q5, fun p hp => ?_⟩
        rcases List.mem_append.mp hp with z | z
        . exact q6 p (List.mem_append_left _ z)
        . have := (of_pinsAt (by simpa using z : p ∈ pinsAt [D] s4.heap)).1
          rw [List.mem_singleton.mp this]
          exact fun z => nD b hb z.symm
      refine thn (T.item (X.comp scope N' ⟨pins, cs, s, H, fp, C⟩) rfl rfl rfl hc i _ s4 _ H4 (fun _ _ => False) ID (statP fr4) st4 go) fun r s5 ⟨u, hr, h5⟩ => ?_
      subst hr
      refine thn h5 fun _ s6 ⟨x, H6, I6, r6, y6, st6, fr6⟩ => ?_
      have I6' := I6.pinned (statP fr6) (T.obj _ _ st6)
      refine thn (hg _ _ s6 _ H6 x u _ I6' r6 (hgo _ _ _ _ (step x H6 y6))) fun _ s7 ⟨σ7, H7, I7, ⟨e7, k7⟩, q7⟩ => ?_
      have I7' : Inv (X.comp scope N' ⟨pins, cs, s, H, fp, C⟩) ([] ++ pinsAt [D] s4.heap ++ pinsAt fp s6.heap) σ7 H7 s7 := I7
      refine thn (ht _ _ s7 σ7 H7 _ I7' q7) fun b s8 ⟨H8, I8, q8⟩ => ?_
      -- what is kept through the turn
      have back : ∀ {s9 : Shared} {H9 : Hp}, Inv (X.comp scope N' ⟨pins, cs, s, H, fp, C⟩) ([] ++ pinsAt [D] s4.heap ++ pinsAt fp s6.heap) σ7 H9 s9 ->
          Inv (X.comp scope N' ⟨pins, cs, s, H, fp, C⟩) [] (cSt own ix σ) H9 s9 /\ tn (i + 1) s9.heap /\ (∀ b ∈ fp, H9 b = none) /\ H9 D = none /\ s9.heap.get? D = some { cls := .type "list", data := .seq its.toArray k } := fun {s9 H9} I9 => by
        have pD := I9.pin (D, _) (List.mem_append_right _ (List.mem_append_left _ (List.mem_append_right _ (mem_pinsAt (List.mem_singleton.mpr rfl) d4))))
        refine ⟨I9.unpinned.unpinned.weak (by rw [e7]) fun j v hj => ?_, T.keep _ _ _ st6 fun b hb o e => (I9.pin (b, o) (List.mem_append_right _ (List.mem_append_right _ (mem_pinsAt hb e)))).1, fun b hb => ?_, pD.2.1, pD.1⟩
        . rw [k7 j (cSt_own hj)]; exact hj
        . obtain ⟨o, e, _⟩ := T.obj _ _ st6 b hb
          exact (I9.pin (b, o) (List.mem_append_right _ (List.mem_append_right _ (mem_pinsAt hb e)))).2.1
      cases b with
      | false =>
        rw [if_neg Bool.false_ne_true] at q8
        obtain ⟨m', hm, w8⟩ := hN2 _ _ q8
        obtain ⟨b1, b2, b3, b4, b5⟩ := back I8
        exact ⟨m', hm, i + 1, H8, ys, its, k, b1, b2, b3, b4, b5, rv4, z4, w8⟩
      | true =>
        rw [if_pos rfl] at q8
        rw [if_pos rfl]
        refine thn (he _ _ s8 σ7 H8 _ I8 q8) fun yv s9 ⟨y, H9, I9, r9, q9⟩ => ?_
        obtain ⟨m', hm, w9⟩ := hN2 _ _ q9
        obtain ⟨b1, b2, b3, b4, b5⟩ := back I9
        have hl := rv4.length
        refine call_meets F.slot_list_append ⟨_, b5, rfl⟩ F.entry_list_append (F.args_list_append_2 _ _) (PySem.list_append D its.toArray k yv (by rw [List.size_toArray]; omega)) ⟨b5, ?_⟩
        have up := PySem.IsL.update b5 (fun a => a.push yv)
        have keep : ∀ b o, b ≠ D -> s9.heap.get? b = some o -> (s9.heap.update D (Obj.mapSeq fun a => a.push yv)).get? b = some o := fun b o hb q => (Heap.get?_update_other _ _ (Ne.symm hb)).trans q
        obtain ⟨f0, f1, f2', f3, f4, f5⟩ := statD b4
        refine ⟨m', hm, i + 1, H9, ys ++ [y], its ++ [yv], (if ((its.toArray.push yv).size == its.toArray.size) = true then k else k + 1), b1.turned (t' := s9.toks) keep b4 f1 f3 f4 f5, ?_, b3, b4, ?_, rv4.append (.cons r9 .nil), ?_, w9⟩
        . exact T.keep _ _ _ b2 fun b hb o e => keep b o (nD b hb) e
        . have e2 : (its.toArray.push yv) = (its ++ [yv]).toArray := by simp
          rw [<- e2]
          exact up
        . rw [List.length_append, List.length_singleton]
          omega
  exact codeAny_compStart_list loop (T.self X.A 0 _ _ _ (T.keep _ _ _ st fun b _ o e => kk b o e) loop)
end
section
variable {X : Cx} {pins : List (Addr × Obj)} {σ : St} {H : Hp} {s : Shared} {fp : List Addr} {it : Addr} {tn : Nat -> Heap -> Prop} {J : It} {tg iter elt : Expr} {ifs : List Expr} {scope : Scope} {pos : Pos} {N' : List Str} {own : Nat} {ix : List Nat} {g : TG} {tc : TT} {te : TE} {wi : TI} {E : Value -> Shared -> Prop}
theorem comp_adopt {H' : Hp} {s' : Shared} {D : Addr} {ys : List V} {its : List Value} {n : Nat} (I : Inv X pins σ H s) (f2 : ∀ b ∈ fp, FpOk X pins H b) (ho : s'.os = s.os) (hg : AllBare s'.gens) (u : Un (frs X.stack) fp H H' s.heap s'.heap) (hok : HOk X.prog X.w H' s'.heap)
    (dn : H' D = none) (ds : s.heap.objs.size <= D) (d : s'.heap.get? D = some { cls := .type "list", data := .seq its.toArray n }) (rv : Vals ys its) (z : ys.length <= sizeLine) : Inv X pins σ (upd H' D (.lst ys)) s' := by
  have nD : ∀ b o, s.heap.get? b = some o -> b ≠ D := fun b o e q => by rw [q, Heap.get?_none_of_le ds] at e; cases e
  have nH : ∀ b o, H' b = some o -> b ≠ D := fun b o e q => by rw [q, dn] at e; cases e
  refine I.call' (ch := fp) ho ⟨u.keep, u.slot, fun b o e q hx => ?_, u.there, fun b xs e => ?_, fun b o v e => ?_, fun b ps e => ?_⟩ (fun b o e => ?_) hg fun b hb => ?_
  . rw [upd_ne (nD b o e)]; exact u.free b o e q hx
  . have := u.tups b xs e
    rw [upd_ne (nH _ _ this)]; exact this
  . have := u.frzs b o v e
    rw [upd_ne (nH _ _ this)]; exact this
  . obtain ⟨more, q⟩ := u.tbls b ps e
    exact ⟨more, by rw [upd_ne (nH _ _ q)]; exact q⟩
  . by_cases hb : b = D
    . subst hb
      rw [upd_same] at e
      cases e
      exact ⟨z, its, n, rv, d⟩
    . rw [upd_ne hb] at e
      exact (hok b o e).stay (fun _ _ _ q => q) (fun c q => by rw [upd_ne (nH _ _ q)]; exact q) fun c xs q => by rw [upd_ne (nH _ _ q)]; exact q
  . obtain ⟨q1, q2, q3, q4, q5, q6⟩ := f2 b hb
    exact ⟨q4, q2, q5, q6⟩
theorem Inv.dictGone {s' : Shared} {h' : Heap} {C : Addr} {H' : Hp} {σ' : St} (I : Inv X pins σ H s) (J : Inv X pins σ' H' s') (hC : s.heap.objs.size <= C) (hn : H' C = none) (k : Heap.SameBut C s'.heap h') : Inv X pins σ' H' { s' with heap := h' } := by
  have hC0 := Heap.get?_none_of_le hC
  refine J.turned (t' := s'.toks) (fun b o hb e => (k.2 b hb).trans e) hn (fun z => ?_) (.inr (Nat.le_trans I.sz hC)) (fun x c e z => ?_) fun p hp z => ?_
  . obtain ⟨m, ⟨o, _, _, ho, _⟩, _⟩ := I.loc
    rw [<- z, hC0] at ho; cases ho
  . obtain ⟨v, o, ho, _⟩ := I.cell x c e
    rw [z, hC0] at ho; cases ho
  . have := (I.pin p hp).1
    rw [z, hC0] at this; cases this
theorem pe_comp (hc : X.calm = true) (hi : PI X tg iter wi) (S : CompScope scope X.env.scope)
    (hlen : N'.length = own + ix.length) (hN : (N'.drop own).map some = ix.map (X.N[·]?)) (hfr : ∀ x ∈ N'.drop own, scope.names.lookup x = some .free)
    (hg : ∀ c, PG (X.comp scope N' c) tg g) (hgo : GOwn own g) (ht : ∀ c, PTs (X.comp scope N' c) ifs tc) (he : ∀ c, PE (X.comp scope N' c) elt te)
    (hs : ∀ x, foldedSetIterable iter X.env x = pure x := by intro _; rfl) : PE X (.ListComp elt [⟨tg, iter, ifs, 0⟩] scope pos) (tComp wi own ix g tc te) := by
  intro pins s σ H Q I h
  rw [eval_ListComp]
  have hfree : ∀ y ∈ scope.names, y.2 = .free -> ∃ c, X.env.cells.lookup y.1 = some c := fun y hy h => I.ok.has y.1 (S.fr y hy h)
  refine wpAny_comprehension_free (use := none) rfl hs (closureFor_eq hfree) S.kind (fun y hy hl => lookup_nd S.nd (by rw [<- hl]; exact hy)) ?_
  refine thn (hi pins s σ H _ I h) fun v s1 h1 => thn h1 fun itv s2 h2 => ?_
  obtain ⟨it, fp, tn, J, H2, e, I2, T, st2, f2, q2⟩ := h2
  subst e
  refine comp_block (RR := fun acc C => compPost (model X.prog X.w) X.A X.xe none (EP X pins σ Q) acc C) I2 T st2 f2 hc S hlen hN hfr hg hgo ht he q2 ?_
  intro D C s' H' ys its n ho hgn u hok hm hC hCs hD hDs hDC d rv z q
  obtain ⟨m, hm⟩ := hm
  have I3 := comp_adopt I2 f2 ho hgn u hok hD hDs d rv z
  refine ⟨m, hm, fun h' hs' => ?_⟩
  exact ⟨.ref D, _, I2.dictGone I3 hCs (by rw [upd_ne (Ne.symm hDC)]; exact hC) hs', rfl, q D hD⟩
theorem ps_comp {i : Nat} {y : Str} {py spos : Pos} (hc : X.calm = true) (hnd : X.N.Nodup) (hiy : X.N[i]? = some y) (hy : X.env.scope.names.lookup y = some .local) (hi : PI X tg iter wi) (S : CompScope scope X.env.scope)
    (hlen : N'.length = own + ix.length) (hN : (N'.drop own).map some = ix.map (X.N[·]?)) (hfr : ∀ x ∈ N'.drop own, scope.names.lookup x = some .free)
    (hg : ∀ c, PG (X.comp scope N' c) tg g) (hgo : GOwn own g) (ht : ∀ c, PTs (X.comp scope N' c) ifs tc) (he : ∀ c, PE (X.comp scope N' c) elt te)
    (hsw : swapsWith (.ListComp elt [⟨tg, iter, ifs, 0⟩] scope pos) (some (.Name y py)) spos.line X.env = pure true)
    (hs : ∀ x, foldedSetIterable iter X.env x = pure x := by intro _; rfl) : PS X (.Assign [.Name y py] (.ListComp elt [⟨tg, iter, ifs, 0⟩] scope pos) spos) (tAsg (tComp wi own ix g tc te) (gName i)) := by
  intro pins s σ H D I h
  rw [exec_Assign_Name_used _ _ _ _ hsw]
  refine wpAny_bind (wpAny_standAt (wpAny_bind ?_))
  show wpAny _ _ (do let _ <- comprehension (.ListComp elt [⟨tg, iter, ifs, 0⟩] scope pos) scope X.env _ (newList []) false (eval iter X.env) (some (assign (.Name y py) X.env))) _ _ s
  have hfree : ∀ y ∈ scope.names, y.2 = .free -> ∃ c, X.env.cells.lookup y.1 = some c := fun y hy h => I.ok.has y.1 (S.fr y hy h)
  refine wpAny_bind (wpAny_mono (wpAny_comprehension_free (use := some (assign (.Name y py) X.env)) (Q := fun _ s' => SP X pins D .next s') rfl hs (closureFor_eq hfree) S.kind (fun y hy hl => lookup_nd S.nd (by rw [<- hl]; exact hy)) ?_) (fun _ s' hq => wpAny_pure (wpAny_pure hq)) fun _ _ e => e)
  refine thn (hi pins s σ H _ I h) fun v s1 h1 => thn h1 fun itv s2 h2 => ?_
  obtain ⟨it, fp, tn, J, H2, e, I2, T, st2, f2, q2⟩ := h2
  subst e
  refine comp_block (RR := fun acc C => compPost (model X.prog X.w) X.A X.xe (some (assign (.Name y py) X.env)) (fun _ s' => SP X pins D .next s') acc C) I2 T st2 f2 hc S hlen hN hfr hg hgo ht he q2 ?_
  intro d C s' H' ys its n ho hgn u hok hm hC hCs hD hDs hDC hd rv z q
  obtain ⟨m, hm⟩ := hm
  have I3 := comp_adopt I2 f2 ho hgn u hok hD hDs hd rv z
  show wpAny _ _ (assign (.Name y py) X.env (.ref d)) _ _ s'
  have hCn : (upd H' d (.lst ys)) C = none := by rw [upd_ne (Ne.symm hDC)]; exact hC
  refine wpAny_assign_Name (store_ok2 I3 hnd hiy (.inl hy) (v := .ref d) rfl (fun s3 I4 ⟨a, sb, ha⟩ => ?_) (.inr hy))
  have ha' : a ≠ C := fun e => by
    have hC0 := Heap.get?_none_of_le hCs
    rcases ha with z | z
    . obtain ⟨m, ⟨o, _, _, ho, _⟩, _⟩ := I2.loc
      rw [<- z, e, hC0] at ho; cases ho
    . obtain ⟨v, o, ho, _⟩ := I2.cell y a z
      rw [e, hC0] at ho; cases ho
  refine ⟨m, hm.sameBut sb (Ne.symm ha'), fun h' hs' => ?_⟩
  exact ⟨_, _, I2.dictGone I4 hCs hCn hs', q d hD⟩
end
section
variable {X : Cx}
theorem PE.imp {e : Expr} {t t' : TE} (h : PE X e t) (f : ∀ σ H Q, t' σ H Q -> t σ H Q) : PE X e t' := fun pins s σ H Q I q => h pins s σ H Q I (f σ H Q q)
theorem OpR.imp {f : Value -> Value -> Sem Value} {r r' : R2} (h : OpR X f r) (g : ∀ x y H Q, r' x y H Q -> r x y H Q) : OpR X f r' := fun pins s σ H x y v u Q I rx ry q => h pins s σ H x y v u Q I rx ry (g _ _ _ _ q)
theorem CallR.imp {f : Value} {r r' : List V -> Hp -> VK -> Prop} (h : CallR X f r) (g : ∀ x H Q, r' x H Q -> r x H Q) : CallR X f r' := fun pins s σ H xs us Q I r q => h pins s σ H xs us Q I r (g _ _ _ q)
def vVar (i : Nat) : TE := fun σ H Q => match σ[i]? with
  | some (some v) => Q v H
  | _ => False
theorem vv (i : Nat) {x : Str} {pos : Pos} (hN : X.N[i]? = some x := by rfl) (hv : Vis X.env.scope x := by first | exact Or.inl rfl | exact Or.inr (Or.inl rfl) | exact Or.inr (Or.inr rfl)) (hd : (x == ("__debug__" : Str)) = false := by decide)
    (hcd : (x == ("__classdict__" : Str)) = false := by decide) : PE X (.Name x pos) (vVar i) := (pe_var hN hv hd hcd).imp fun σ H Q q => by
  unfold vVar at q
  split at q
  . rename_i v e; exact ⟨v, e, q⟩
  . exact q.elim
def okMul (i j : Int) : Prop := (i.natAbs < 2 ^ 4096 /\ j.natAbs < 2 ^ 4096) \/ (-(2 ^ 64) < i /\ i < 2 ^ 64) \/ (-(2 ^ 64) < j /\ j < 2 ^ 64)
theorem bits_of {i : Int} (h : i.natAbs < 2 ^ 4096) : Builtin.Int.intBits i <= 2 ^ 20 := by
  unfold Builtin.Int.intBits
  split
  . exact Nat.zero_le _
  . rename_i hz
    have hne : i.natAbs ≠ 0 := by
      have : ¬ i = 0 := by simpa using hz
      omega
    have := (Nat.log2_lt hne).mpr h
    have e : (2 : Nat) ^ 20 = 1048576 := by decide
    omega
theorem okMul.ok {i j : Int} (h : okMul i j) : IntMulOk i j := by
  rcases h with ⟨h1, h2⟩ | h | h
  . exact .of_bits (bits_of h1) (bits_of h2)
  . exact CMul.ok (.inl h)
  . exact CMul.ok (.inr h)
def okDiv (j : Int) : Prop := 0 < j /\ j < 2 ^ 4096
theorem okDiv.ok {i j : Int} (h : okDiv j) : Builtin.divisionGoesByPylong i j = false := by
  refine PyProof.noPylong_of_log2 ?_
  obtain ⟨h1, h2⟩ := h
  have hne : j.natAbs ≠ 0 := by omega
  have h3 : j.natAbs < 2 ^ 4096 := by
    have e : ((j.natAbs : Int)) = j := by omega
    have h2' : ((j.natAbs : Nat) : Int) < ((2 ^ 4096 : Nat) : Int) := by rw [e, Int.natCast_pow]; exact h2
    exact Int.ofNat_lt.mp h2'
  have := (Nat.log2_lt hne).mpr h3
  omega
def mAdd (K : PySem.W.Frag) : R2 := fun x y H Q => match x, y with
  | .int i, .int j => Q (.int (i + j)) H
  | .str a, .str b => a.length + b.length <= sizeLine /\ Q (.str (a ++ b)) H
  | .ref a, .ref b => rCat (.ref a) (.ref b) H Q \/ rCatT K (.ref a) (.ref b) H Q
  | _, _ => False
theorem om_add : OpR X (binaryOp .Add) (mAdd X.K) := by
  intro pins s σ H x y v u Q I rx ry q
  cases x <;> cases y <;> first
    | exact False.elim q
    | exact op_add pins s σ H _ _ v u Q I rx ry ⟨_, _, rfl, rfl, q⟩
    | exact op_add_str pins s σ H _ _ v u Q I rx ry ⟨_, _, rfl, rfl, q.1, q.2⟩
    | (rcases q with q | q
       . exact op_cat pins s σ H _ _ v u Q I rx ry q
       . exact op_catT pins s σ H _ _ v u Q I rx ry q)
def mSub : R2 := fun x y H Q => match x, y with
  | .int i, .int j => Q (.int (i - j)) H
  | _, _ => False
theorem om_sub : OpR X (binaryOp .Sub) mSub := by
  intro pins s σ H x y v u Q I rx ry q
  cases x <;> cases y <;> first
    | exact False.elim q
    | exact op_sub pins s σ H _ _ v u Q I rx ry ⟨_, _, rfl, rfl, q⟩
def mMul : R2 := fun x y H Q => match x, y with
  | .int i, .int j => okMul i j /\ Q (.int (i * j)) H
  | .ref a, .int k => rRep (.ref a) (.int k) H Q
  | _, _ => False
theorem om_mul : OpR X (binaryOp .Mult) mMul := by
  have hI : OpR X (binaryOp .Mult) (rI okMul fun i j => .int (i * j)) := opI fun _ _ _ _ _ _ _ hc q => mul_int q hc.ok
  intro pins s σ H x y v u Q I rx ry q
  cases x <;> cases y <;> first
    | exact False.elim q
    | exact hI pins s σ H _ _ v u Q I rx ry ⟨_, _, rfl, rfl, q.1, q.2⟩
    | exact op_rep pins s σ H _ _ v u Q I rx ry q
def mDiv : R2 := fun x y H Q => match x, y with
  | .int i, .int j => okDiv j /\ Q (.int (i / j)) H
  | _, _ => False
theorem om_div : OpR X (binaryOp .FloorDiv) mDiv := by
  have hI : OpR X (binaryOp .FloorDiv) (rI (fun _ j => okDiv j) fun i j => .int (i / j)) := opI fun i j _ _ _ _ _ hc q => by
    refine floordiv_int (by have := hc.1; omega) ?_ (.inl hc.ok)
    rw [Int.fdiv_eq_ediv_of_nonneg i (by have := hc.1; omega)]
    exact q
  intro pins s σ H x y v u Q I rx ry q
  cases x <;> cases y <;> first
    | exact False.elim q
    | exact hI pins s σ H _ _ v u Q I rx ry ⟨_, _, rfl, rfl, q.1, q.2⟩
def mMod : R2 := fun x y H Q => match x, y with
  | .int i, .int j => 0 < j /\ Q (.int (i % j)) H
  | _, _ => False
theorem om_mod : OpR X (binaryOp .Mod) mMod := by
  intro pins s σ H x y v u Q I rx ry q
  cases x <;> cases y <;> first
    | exact False.elim q
    | exact op_mod pins s σ H _ _ v u Q I rx ry ⟨_, _, rfl, rfl, q.1, q.2⟩
def mPow : R2 := fun x y H Q => match x, y with
  | .int i, .int j => CPow i j /\ Q (.int (i ^ j.toNat)) H
  | _, _ => False
theorem om_pow : OpR X (binaryOp .Pow) mPow := by
  intro pins s σ H x y v u Q I rx ry q
  cases x <;> cases y <;> first
    | exact False.elim q
    | exact op_pow pins s σ H _ _ v u Q I rx ry ⟨_, _, rfl, rfl, q.1, q.2⟩
def mNeg : V -> Hp -> VK -> Prop := fun x H Q => match x with
  | .int i => Q (.int (-i)) H
  | _ => False
theorem um_neg : UnR X (unaryOp .USub) mNeg := by
  intro pins s σ H x v Q I rx q
  cases x <;> first
    | exact False.elim q
    | exact un_neg pins s σ H _ v Q I rx ⟨_, rfl, q⟩
def mCmp (p : Int -> Int -> Bool) : R2 := fun x y H Q => match x, y with
  | .int i, .int j => Q (.bl (p i j)) H
  | _, _ => False
theorem om_lt : OpR X (compareOp .Lt) (mCmp fun i j => decide (i < j)) := by
  intro pins s σ H x y v u Q I rx ry q
  cases x <;> cases y <;> first
    | exact False.elim q
    | exact op_lt pins s σ H _ _ v u Q I rx ry ⟨_, _, rfl, rfl, q⟩
theorem om_le : OpR X (compareOp .LtE) (mCmp fun i j => decide (i <= j)) := by
  intro pins s σ H x y v u Q I rx ry q
  cases x <;> cases y <;> first
    | exact False.elim q
    | exact op_le pins s σ H _ _ v u Q I rx ry ⟨_, _, rfl, rfl, q⟩
theorem om_gt : OpR X (compareOp .Gt) (mCmp fun i j => decide (j < i)) := by
  intro pins s σ H x y v u Q I rx ry q
  cases x <;> cases y <;> first
    | exact False.elim q
    | exact op_gt pins s σ H _ _ v u Q I rx ry ⟨_, _, rfl, rfl, q⟩
theorem om_ge : OpR X (compareOp .GtE) (mCmp fun i j => decide (j <= i)) := by
  intro pins s σ H x y v u Q I rx ry q
  cases x <;> cases y <;> first
    | exact False.elim q
    | exact op_ge pins s σ H _ _ v u Q I rx ry ⟨_, _, rfl, rfl, q⟩
end
inductive Dv where
  | non | bl (b : Bool) | int (i : Int) | str (x : Str) | tup (ds : List Dv) | lst (ds : List Dv)
mutual
def Rep (K : PySem.W.Frag) (H : Hp) : Dv -> V -> Prop
  | .non, v => v = .non
  | .bl b, v => v = .bl b
  | .int i, v => v = .int i
  | .str x, v => v = .str x
  | .tup ds, v => ∃ a xs, v = .ref a /\ SqT K H a xs /\ Reps K H ds xs
  | .lst ds, v => ∃ a xs, v = .ref a /\ SqL K H a xs /\ Reps K H ds xs
def Reps (K : PySem.W.Frag) (H : Hp) : List Dv -> List V -> Prop
  | [], xs => xs = []
  | d :: ds, xs => ∃ x r, xs = x :: r /\ Rep K H d x /\ Reps K H ds r
end
mutual
def eqD : Dv -> Dv -> Bool
  | .non, .non => true
  | .bl a, .bl b => a == b
  | .bl a, .int b => (if a then 1 else 0) == b
  | .int a, .bl b => a == (if b then 1 else 0)
  | .int a, .int b => a == b
  | .str a, .str b => a == b
  | .tup ds, .tup es => eqDs ds es
  | .lst ds, .lst es => eqDs ds es
  | _, _ => false
def eqDs : List Dv -> List Dv -> Bool
  | [], [] => true
  | d :: ds, e :: es => eqD d e && eqDs ds es
  | _, _ => false
end
mutual
def depD : Dv -> Nat
  | .tup ds => depDs ds + 1
  | .lst ds => depDs ds + 1
  | _ => 0
def depDs : List Dv -> Nat
  | [] => 0
  | d :: ds => max (depD d) (depDs ds)
end
theorem eqD_tup (ds es : List Dv) : eqD (.tup ds) (.tup es) = eqDs ds es := by rw [eqD]
theorem eqD_lst (ds es : List Dv) : eqD (.lst ds) (.lst es) = eqDs ds es := by rw [eqD]
theorem Reps.length {K : PySem.W.Frag} {H : Hp} : ∀ {ds : List Dv} {xs : List V}, Reps K H ds xs -> ds.length = xs.length
  | [], xs, h => by unfold Reps at h; subst h; rfl
  | d :: ds, xs, h => by
    unfold Reps at h
    obtain ⟨x, r, rfl, _, h⟩ := h
    rw [List.length_cons, List.length_cons, Reps.length h]
theorem Reps.get {K : PySem.W.Frag} {H : Hp} : ∀ {ds : List Dv} {xs : List V} {i : Nat} {d : Dv}, Reps K H ds xs -> ds[i]? = some d -> ∃ x, xs[i]? = some x /\ Rep K H d x
  | [], _, _, _, _, e => by simp at e
  | d :: ds, xs, 0, _, h, e => by
    unfold Reps at h
    obtain ⟨x, r, rfl, h1, _⟩ := h
    simp at e; subst e
    exact ⟨x, rfl, h1⟩
  | d :: ds, xs, i + 1, _, h, e => by
    unfold Reps at h
    obtain ⟨x, r, rfl, _, h⟩ := h
    obtain ⟨y, h1, h2⟩ := Reps.get (i := i) h (by simpa using e)
    exact ⟨y, by simpa using h1, h2⟩
theorem depD_le {ds : List Dv} {i : Nat} {d : Dv} (h : ds[i]? = some d) : depD d <= depDs ds := by
  induction ds generalizing i with
  | nil => simp at h
  | cons e es ih =>
    unfold depDs
    cases i with
    | zero => simp at h; subst h; omega
    | succ i => have := ih (i := i) (by simpa using h); omega
theorem eqDs_all : ∀ (ds es : List Dv), ds.length = es.length -> eqDs ds es = (List.range ds.length).all fun i => match ds[i]?, es[i]? with | some d, some e => eqD d e | _, _ => false
  | [], [], _ => by unfold eqDs; rfl
  | d :: ds, e :: es, h => by
    unfold eqDs
    rw [List.length_cons, List.range_succ_eq_map, List.all_cons, List.all_map, eqDs_all ds es (by simpa using h)]
    congr 1
  | [], e :: es, h => by simp at h
  | d :: ds, [], h => by simp at h
theorem eqDs_len : ∀ (ds es : List Dv), ds.length ≠ es.length -> eqDs ds es = false
  | [], [], h => absurd rfl h
  | [], _ :: _, _ => by unfold eqDs; rfl
  | _ :: _, [], _ => by unfold eqDs; rfl
  | d :: ds, e :: es, h => by unfold eqDs; rw [eqDs_len ds es (fun z => h (by simp [z])), Bool.and_false]
mutual
theorem eqD_refl : ∀ d : Dv, eqD d d = true
  | .non => by unfold eqD; rfl
  | .bl b => by unfold eqD; simp
  | .int i => by unfold eqD; simp
  | .str x => by unfold eqD; simp
  | .tup ds => by unfold eqD; exact eqDs_refl ds
  | .lst ds => by unfold eqD; exact eqDs_refl ds
theorem eqDs_refl : ∀ ds : List Dv, eqDs ds ds = true
  | [] => by unfold eqDs; rfl
  | d :: ds => by unfold eqDs; rw [eqD_refl d, eqDs_refl ds]; rfl
end
section
variable {X : Cx} {pins : List (Addr × Obj)} {σ : St} {H : Hp} {s : Shared}
theorem no_both {a : Addr} {xs ys : List V} (I : Inv X pins σ H s) (h : SqL X.K H a xs) (h' : SqT X.K H a ys) : False := by
  obtain ⟨its, _, ⟨o, n, e, c, _⟩, _⟩ := I.list h
  obtain ⟨its', _, ⟨o', e', c', _⟩, _⟩ := I.tuple h'
  rw [e] at e'; cases e'
  rw [c] at c'
  exact absurd c' (by decide)
mutual
theorem rep_inj (I : Inv X pins σ H s) : ∀ (d e : Dv) (x : V), Rep X.K H d x -> Rep X.K H e x -> d = e
  | .non, e, x, h, h' => by
    unfold Rep at h; subst h
    cases e <;> unfold Rep at h' <;> first | rfl | (obtain ⟨a, xs, q, _⟩ := h'; cases q; done) | (cases h'; done)
  | .bl b, e, x, h, h' => by
    unfold Rep at h; subst h
    cases e <;> unfold Rep at h' <;> first | (obtain ⟨a, xs, q, _⟩ := h'; cases q; done) | (cases h'; rfl) | (cases h'; done)
  | .int b, e, x, h, h' => by
    unfold Rep at h; subst h
    cases e <;> unfold Rep at h' <;> first | (obtain ⟨a, xs, q, _⟩ := h'; cases q; done) | (cases h'; rfl) | (cases h'; done)
  | .str b, e, x, h, h' => by
    unfold Rep at h; subst h
    cases e <;> unfold Rep at h' <;> first | (obtain ⟨a, xs, q, _⟩ := h'; cases q; done) | (cases h'; rfl) | (cases h'; done)
  | .tup ds, e, x, h, h' => by
    unfold Rep at h
    obtain ⟨a, xs, rfl, hs, hr⟩ := h
    cases e with
    | tup es =>
      unfold Rep at h'
      obtain ⟨b, ys, q, hs', hr'⟩ := h'
      cases q
      rw [I.tuple_inj hs' hs] at hr'
      rw [reps_inj I ds es xs hr hr']
    | lst es =>
      unfold Rep at h'
      obtain ⟨b, ys, q, hs', hr'⟩ := h'
      cases q
      exact (no_both I hs' hs).elim
    | _ => unfold Rep at h'; cases h'
  | .lst ds, e, x, h, h' => by
    unfold Rep at h
    obtain ⟨a, xs, rfl, hs, hr⟩ := h
    cases e with
    | lst es =>
      unfold Rep at h'
      obtain ⟨b, ys, q, hs', hr'⟩ := h'
      cases q
      rw [I.list_inj hs' hs] at hr'
      rw [reps_inj I ds es xs hr hr']
    | tup es =>
      unfold Rep at h'
      obtain ⟨b, ys, q, hs', hr'⟩ := h'
      cases q
      exact (no_both I hs hs').elim
    | _ => unfold Rep at h'; cases h'
theorem reps_inj (I : Inv X pins σ H s) : ∀ (ds es : List Dv) (xs : List V), Reps X.K H ds xs -> Reps X.K H es xs -> ds = es
  | [], es, xs, h, h' => by
    unfold Reps at h; subst h
    cases es with
    | nil => rfl
    | cons e es => unfold Reps at h'; obtain ⟨x, r, q, _⟩ := h'; cases q
  | d :: ds, es, xs, h, h' => by
    unfold Reps at h
    obtain ⟨x, r, rfl, h1, h2⟩ := h
    cases es with
    | nil => unfold Reps at h'; cases h'
    | cons e es =>
      unfold Reps at h'
      obtain ⟨y, r', q, h3, h4⟩ := h'
      cases q
      rw [rep_inj I d e _ h1 h3, reps_inj I ds es _ h2 h4]
end
abbrev Eq3 (A : Around) (s : Shared) (u v : Value) (b : Bool) : Prop := SeqAt.EqAt A s u v b /\ SeqAt.RcAt A s u v b /\ SeqAt.RcNeAt A s u v (!b)
theorem eq3_tup {A : Around} {a b : Addr} {xs ys : List V} {ds es : List Dv} (I : Inv X pins σ H s) (hu : A.units < cLine) (ha : SqT X.K H a xs) (hb : SqT X.K H b ys) (hd : Reps X.K H ds xs) (he : Reps X.K H es ys)
    (ih : ∀ (i : Nat) (d e : Dv) (x y : V) (u v : Value), ds[i]? = some d -> es[i]? = some e -> xs[i]? = some x -> ys[i]? = some y -> RelV x u -> RelV y v -> SeqAt.EqAt A.in1 s u v (eqD d e)) : Eq3 A s (.ref a) (.ref b) (eqD (.tup ds) (.tup es)) := by
  obtain ⟨its, r1, p1, _⟩ := I.tuple ha
  obtain ⟨its2, r2, p2, _⟩ := I.tuple hb
  have l1 := hd.length; have l2 := he.length; have l3 := r1.length; have l4 := r2.length
  have hitem : ∀ j (h1 : j < its.toArray.size) (h2 : j < its2.toArray.size), SeqAt.EqAt A.in1 s its.toArray[j] its2.toArray[j] (match ds[j]?, es[j]? with | some d, some e => eqD d e | _, _ => false) := fun j h1 h2 => by
    rw [List.size_toArray] at h1 h2
    have e1 : ds[j]? = some ds[j] := List.getElem?_eq_getElem (by omega)
    have e2 : es[j]? = some es[j] := List.getElem?_eq_getElem (by omega)
    have e3 : xs[j]? = some xs[j] := List.getElem?_eq_getElem (by omega)
    have e4 : ys[j]? = some ys[j] := List.getElem?_eq_getElem (by omega)
    obtain ⟨u, q1, q2⟩ := r1.get e3
    obtain ⟨v, q3, q4⟩ := r2.get e4
    rw [e1, e2]
    have z1 : its.toArray[j] = u := by rw [List.getElem_toArray]; rw [List.getElem?_eq_getElem h1] at q1; exact Option.some.inj q1
    have z2 : its2.toArray[j] = v := by rw [List.getElem_toArray]; rw [List.getElem?_eq_getElem h2] at q3; exact Option.some.inj q3
    rw [z1, z2]
    exact ih j _ _ _ _ _ _ e1 e2 e3 e4 q2 q4
  have val : ((List.range (min its.toArray.size its2.toArray.size)).all (fun j => match ds[j]?, es[j]? with | some d, some e => eqD d e | _, _ => false) && its.toArray.size == its2.toArray.size) = eqD (.tup ds) (.tup es) := by
    rw [List.size_toArray, List.size_toArray, <- l3, <- l4, <- l1, <- l2, eqD_tup]
    by_cases h : ds.length = es.length
    . rw [h, Nat.min_self, <- h, eqDs_all ds es h]
      simp
    . rw [eqDs_len ds es h]
      have : (ds.length == es.length) = false := by simpa using h
      rw [this, Bool.and_false]
  have R := SeqAt.RcAt.tuples (A := A) p1 p2 hu hitem
  have N := SeqAt.RcNeAt.tuples (A := A) p1 p2 hu hitem
  rw [val] at R N
  refine ⟨?_, R, N⟩
  by_cases hab : a = b
  . subst hab
    have e : ds = es := by
      have := rep_inj I (.tup ds) (.tup es) (.ref a) (by unfold Rep; exact ⟨a, xs, rfl, ha, hd⟩) (by unfold Rep; exact ⟨a, ys, rfl, hb, he⟩)
      cases this; rfl
    subst e
    rw [eqD_refl]
    exact SeqAt.EqAt.same _
  . exact .of_refs hab R
theorem eq3_lst {A : Around} {a b : Addr} {xs ys : List V} {ds es : List Dv} (I : Inv X pins σ H s) (hu : A.units < cLine) (ha : SqL X.K H a xs) (hb : SqL X.K H b ys) (hd : Reps X.K H ds xs) (he : Reps X.K H es ys)
    (ih : ∀ (i : Nat) (d e : Dv) (x y : V) (u v : Value), ds[i]? = some d -> es[i]? = some e -> xs[i]? = some x -> ys[i]? = some y -> RelV x u -> RelV y v -> SeqAt.EqAt A.in1 s u v (eqD d e)) : Eq3 A s (.ref a) (.ref b) (eqD (.lst ds) (.lst es)) := by
  obtain ⟨its, r1, p1, _⟩ := I.list ha
  obtain ⟨its2, r2, p2, _⟩ := I.list hb
  have l1 := hd.length; have l2 := he.length; have l3 := r1.length; have l4 := r2.length
  have hitem : ∀ j (h1 : j < its.toArray.size) (h2 : j < its2.toArray.size), SeqAt.EqAt A.in1 s its.toArray[j] its2.toArray[j] (match ds[j]?, es[j]? with | some d, some e => eqD d e | _, _ => false) := fun j h1 h2 => by
    rw [List.size_toArray] at h1 h2
    have e1 : ds[j]? = some ds[j] := List.getElem?_eq_getElem (by omega)
    have e2 : es[j]? = some es[j] := List.getElem?_eq_getElem (by omega)
    have e3 : xs[j]? = some xs[j] := List.getElem?_eq_getElem (by omega)
    have e4 : ys[j]? = some ys[j] := List.getElem?_eq_getElem (by omega)
    obtain ⟨u, q1, q2⟩ := r1.get e3
    obtain ⟨v, q3, q4⟩ := r2.get e4
    rw [e1, e2]
    have z1 : its.toArray[j] = u := by rw [List.getElem_toArray]; rw [List.getElem?_eq_getElem h1] at q1; exact Option.some.inj q1
    have z2 : its2.toArray[j] = v := by rw [List.getElem_toArray]; rw [List.getElem?_eq_getElem h2] at q3; exact Option.some.inj q3
    rw [z1, z2]
    exact ih j _ _ _ _ _ _ e1 e2 e3 e4 q2 q4
  have RN : SeqAt.RcAt A s (.ref a) (.ref b) (eqD (.lst ds) (.lst es)) /\ SeqAt.RcNeAt A s (.ref a) (.ref b) (!eqD (.lst ds) (.lst es)) := by
    by_cases h : ds.length = es.length
    . have hsz : its.toArray.size = its2.toArray.size := by rw [List.size_toArray, List.size_toArray]; omega
      have val : (List.range its.toArray.size).all (fun j => match ds[j]?, es[j]? with | some d, some e => eqD d e | _, _ => false) = eqD (.lst ds) (.lst es) := by
        rw [eqD_lst, List.size_toArray, <- l3, <- l1, eqDs_all ds es h]
      have R := SeqAt.RcAt.lists (A := A) p1.isList p2.isList hsz hu hitem
      have N := SeqAt.RcNeAt.lists (A := A) p1.isList p2.isList hsz hu hitem
      rw [val] at R N
      exact ⟨R, N⟩
    . have hsz : (its.toArray.size != its2.toArray.size) = true := by rw [List.size_toArray, List.size_toArray]; simp; omega
      have val : eqD (.lst ds) (.lst es) = false := by rw [eqD_lst]; exact eqDs_len ds es h
      rw [val]
      exact ⟨SeqAt.RcAt.lists_lengths p1.isList p2.isList hsz hu, SeqAt.RcNeAt.lists_lengths p1.isList p2.isList hsz hu⟩
  refine ⟨?_, RN.1, RN.2⟩
  by_cases hab : a = b
  . subst hab
    have e : ds = es := by
      have := rep_inj I (.lst ds) (.lst es) (.ref a) (by unfold Rep; exact ⟨a, xs, rfl, ha, hd⟩) (by unfold Rep; exact ⟨a, ys, rfl, hb, he⟩)
      cases this; rfl
    subst e
    rw [eqD_refl]
    exact SeqAt.EqAt.same _
  . exact .of_refs hab RN.1
theorem eq_all (I : Inv X pins σ H s) : ∀ (n : Nat) (A : Around) (d e : Dv) (x y : V) (u v : Value), depD d <= n -> A.units + n < cLine -> Rep X.K H d x -> Rep X.K H e y -> RelV x u -> RelV y v -> Eq3 A s u v (eqD d e) := by
  intro n
  induction n with
  | zero =>
    intro A d e x y u v hd hu hx hy ru rv
    have hu' : A.units < cLine := by omega
    cases d with
    | tup ds => unfold depD at hd; omega
    | lst ds => unfold depD at hd; omega
    | non =>
      unfold Rep at hx; subst hx; cases ru
      cases e <;> unfold Rep at hy
      case non => subst hy; cases rv; exact ⟨SeqAt.EqAt.same _, SeqAt.RcAt.none_none, SeqAt.RcNeAt.none_none⟩
      case bl => subst hy; cases rv; exact ⟨.none_bool _, .none_bool _, .none_bool _⟩
      case int => subst hy; obtain ⟨t, rfl⟩ := rv; exact ⟨.none_int _ _, .none_int _ _, .none_int _ _⟩
      case str => subst hy; obtain ⟨t, rfl⟩ := rv; exact ⟨.none_str _ _, .none_str _ _, .none_str _ _⟩
      case tup => obtain ⟨a, xs, rfl, ha, _⟩ := hy; cases rv; obtain ⟨its, _, p, _⟩ := I.tuple ha; exact ⟨.none_tuple p hu', .none_tuple p hu', .none_tuple p hu'⟩
      case lst => obtain ⟨a, xs, rfl, ha, _⟩ := hy; cases rv; obtain ⟨its, _, p, _⟩ := I.list ha; exact ⟨.none_list p.isList hu', .none_list p.isList hu', .none_list p.isList hu'⟩
    | bl c =>
      unfold Rep at hx; subst hx; cases ru
      cases e <;> unfold Rep at hy
      case non => subst hy; cases rv; exact ⟨.bool_none _, .bool_none _, .bool_none _⟩
      case bl => subst hy; cases rv; unfold eqD; exact ⟨.bool_bool _ _, .bool_bool _ _, .bool_bool _ _⟩
      case int => subst hy; obtain ⟨t, rfl⟩ := rv; unfold eqD; exact ⟨.bool_int _ _ _, .bool_int _ _ _, .bool_int _ _ _⟩
      case str => subst hy; obtain ⟨t, rfl⟩ := rv; exact ⟨.bool_str _ _ _, .bool_str _ _ _, .bool_str _ _ _⟩
      case tup => obtain ⟨a, xs, rfl, ha, _⟩ := hy; cases rv; obtain ⟨its, _, p, _⟩ := I.tuple ha; exact ⟨.bool_tuple _ p hu', .bool_tuple _ p hu', .bool_tuple _ p hu'⟩
      case lst => obtain ⟨a, xs, rfl, ha, _⟩ := hy; cases rv; obtain ⟨its, _, p, _⟩ := I.list ha; exact ⟨.bool_list _ p.isList hu', .bool_list _ p.isList hu', .bool_list _ p.isList hu'⟩
    | int c =>
      unfold Rep at hx; subst hx; obtain ⟨t0, rfl⟩ := ru
      cases e <;> unfold Rep at hy
      case non => subst hy; cases rv; exact ⟨.int_none _ _, .int_none _ _, .int_none _ _⟩
      case bl => subst hy; cases rv; unfold eqD; exact ⟨.int_bool _ _ _, .int_bool _ _ _, .int_bool _ _ _⟩
      case int => subst hy; obtain ⟨t, rfl⟩ := rv; unfold eqD; exact ⟨.int_int _ _ _ _, .int_int _ _ _ _, .int_int _ _ _ _⟩
      case str => subst hy; obtain ⟨t, rfl⟩ := rv; exact ⟨.int_str _ _ _ _, .int_str _ _ _ _, .int_str _ _ _ _⟩
      case tup => obtain ⟨a, xs, rfl, ha, _⟩ := hy; cases rv; obtain ⟨its, _, p, _⟩ := I.tuple ha; exact ⟨.int_tuple _ _ p hu', .int_tuple _ _ p hu', .int_tuple _ _ p hu'⟩
      case lst => obtain ⟨a, xs, rfl, ha, _⟩ := hy; cases rv; obtain ⟨its, _, p, _⟩ := I.list ha; exact ⟨.int_list _ _ p.isList hu', .int_list _ _ p.isList hu', .int_list _ _ p.isList hu'⟩
    | str c =>
      unfold Rep at hx; subst hx; obtain ⟨t0, rfl⟩ := ru
      cases e <;> unfold Rep at hy
      case non => subst hy; cases rv; exact ⟨.str_none _ _, .str_none _ _, .str_none _ _⟩
      case bl => subst hy; cases rv; exact ⟨.str_bool _ _ _, .str_bool _ _ _, .str_bool _ _ _⟩
      case int => subst hy; obtain ⟨t, rfl⟩ := rv; exact ⟨.str_int _ _ _ _, .str_int _ _ _ _, .str_int _ _ _ _⟩
      case str => subst hy; obtain ⟨t, rfl⟩ := rv; unfold eqD; exact ⟨.str_str _ _ _ _, .str_str _ _ _ _, .str_str _ _ _ _⟩
      case tup => obtain ⟨a, xs, rfl, ha, _⟩ := hy; cases rv; obtain ⟨its, _, p, _⟩ := I.tuple ha; exact ⟨.str_tuple _ _ p hu', .str_tuple _ _ p hu', .str_tuple _ _ p hu'⟩
      case lst => obtain ⟨a, xs, rfl, ha, _⟩ := hy; cases rv; obtain ⟨its, _, p, _⟩ := I.list ha; exact ⟨.str_list _ _ p.isList hu', .str_list _ _ p.isList hu', .str_list _ _ p.isList hu'⟩
  | succ n ih =>
    intro A d e x y u v hd hu hx hy ru rv
    have hu' : A.units < cLine := by omega
    have hin : A.in1.units + n < cLine := by show A.units + 1 + n < cLine; omega
    cases d with
    | tup ds =>
      unfold depD at hd
      unfold Rep at hx
      obtain ⟨a, xs, rfl, ha, hr⟩ := hx
      cases ru
      cases e <;> unfold Rep at hy
      case tup es =>
        obtain ⟨b, ys, rfl, hb, hr'⟩ := hy
        cases rv
        refine eq3_tup I hu' ha hb hr hr' fun i d e x y u v e1 e2 e3 e4 ru rv => ?_
        obtain ⟨x', q1, q2⟩ := hr.get e1
        obtain ⟨y', q3, q4⟩ := hr'.get e2
        rw [e3] at q1; cases q1
        rw [e4] at q3; cases q3
        exact (ih A.in1 d e x y u v (by have := depD_le e1; omega) hin q2 q4 ru rv).1
      case non => subst hy; cases rv; obtain ⟨its, _, p, _⟩ := I.tuple ha; exact ⟨.tuple_none p hu', .tuple_none p hu', .tuple_none p hu'⟩
      case bl => subst hy; cases rv; obtain ⟨its, _, p, _⟩ := I.tuple ha; exact ⟨.tuple_bool _ p hu', .tuple_bool _ p hu', .tuple_bool _ p hu'⟩
      case int => subst hy; obtain ⟨t, rfl⟩ := rv; obtain ⟨its, _, p, _⟩ := I.tuple ha; exact ⟨.tuple_int _ _ p hu', .tuple_int _ _ p hu', .tuple_int _ _ p hu'⟩
      case str => subst hy; obtain ⟨t, rfl⟩ := rv; obtain ⟨its, _, p, _⟩ := I.tuple ha; exact ⟨.tuple_str _ _ p hu', .tuple_str _ _ p hu', .tuple_str _ _ p hu'⟩
      case lst => obtain ⟨b, ys, rfl, hb, _⟩ := hy; cases rv; obtain ⟨its, _, p, _⟩ := I.tuple ha; obtain ⟨its2, _, p2, _⟩ := I.list hb; exact ⟨.tuple_list p p2.isList hu', .tuple_list p p2.isList hu', .tuple_list p p2.isList hu'⟩
    | lst ds =>
      unfold depD at hd
      unfold Rep at hx
      obtain ⟨a, xs, rfl, ha, hr⟩ := hx
      cases ru
      cases e <;> unfold Rep at hy
      case lst es =>
        obtain ⟨b, ys, rfl, hb, hr'⟩ := hy
        cases rv
        refine eq3_lst I hu' ha hb hr hr' fun i d e x y u v e1 e2 e3 e4 ru rv => ?_
        obtain ⟨x', q1, q2⟩ := hr.get e1
        obtain ⟨y', q3, q4⟩ := hr'.get e2
        rw [e3] at q1; cases q1
        rw [e4] at q3; cases q3
        exact (ih A.in1 d e x y u v (by have := depD_le e1; omega) hin q2 q4 ru rv).1
      case non => subst hy; cases rv; obtain ⟨its, _, p, _⟩ := I.list ha; exact ⟨.list_none p.isList hu', .list_none p.isList hu', .list_none p.isList hu'⟩
      case bl => subst hy; cases rv; obtain ⟨its, _, p, _⟩ := I.list ha; exact ⟨.list_bool _ p.isList hu', .list_bool _ p.isList hu', .list_bool _ p.isList hu'⟩
      case int => subst hy; obtain ⟨t, rfl⟩ := rv; obtain ⟨its, _, p, _⟩ := I.list ha; exact ⟨.list_int _ _ p.isList hu', .list_int _ _ p.isList hu', .list_int _ _ p.isList hu'⟩
      case str => subst hy; obtain ⟨t, rfl⟩ := rv; obtain ⟨its, _, p, _⟩ := I.list ha; exact ⟨.list_str _ _ p.isList hu', .list_str _ _ p.isList hu', .list_str _ _ p.isList hu'⟩
      case tup => obtain ⟨b, ys, rfl, hb, _⟩ := hy; cases rv; obtain ⟨its, _, p, _⟩ := I.list ha; obtain ⟨its2, _, p2, _⟩ := I.tuple hb; exact ⟨.list_tuple p.isList p2 hu', .list_tuple p.isList p2 hu', .list_tuple p.isList p2 hu'⟩
    | non => exact ih A .non e x y u v (by unfold depD; omega) (by omega) hx hy ru rv
    | bl c => exact ih A (.bl c) e x y u v (by unfold depD; omega) (by omega) hx hy ru rv
    | int c => exact ih A (.int c) e x y u v (by unfold depD; omega) (by omega) hx hy ru rv
    | str c => exact ih A (.str c) e x y u v (by unfold depD; omega) (by omega) hx hy ru rv
end
section
variable {X : Cx}
def mEq (neg : Bool) (K : PySem.W.Frag) : R2 := fun x y H Q => match x, y with
  | .non, .non => Q (.bl (neg ^^ true)) H
  | .bl a, .bl b => Q (.bl (neg ^^ (a == b))) H
  | .int a, .int b => Q (.bl (neg ^^ (a == b))) H
  | .str a, .str b => Q (.bl (neg ^^ (a == b))) H
  | x, y => ∃ d e, Rep K H d x /\ Rep K H e y /\ depD d <= 60 /\ Q (.bl (neg ^^ eqD d e)) H
theorem om_eqAll (hu : X.A.units + 60 < cLine) : OpR X (compareOp .Eq) (fun x y H Q => ∃ d e, Rep X.K H d x /\ Rep X.K H e y /\ depD d <= 60 /\ Q (.bl (eqD d e)) H) := by
  intro pins s σ H x y v u Q I rx ry h
  obtain ⟨d, e, h1, h2, h3, q⟩ := h
  exact (eq_all I 60 X.A d e x y v u h3 hu h1 h2 rx ry).2.1 X.prog X.w _ _ ⟨.bl _, H, I, rfl, q⟩
theorem om_neAll (hu : X.A.units + 60 < cLine) : OpR X (compareOp .NotEq) (fun x y H Q => ∃ d e, Rep X.K H d x /\ Rep X.K H e y /\ depD d <= 60 /\ Q (.bl (!eqD d e)) H) := by
  intro pins s σ H x y v u Q I rx ry h
  obtain ⟨d, e, h1, h2, h3, q⟩ := h
  exact (eq_all I 60 X.A d e x y v u h3 hu h1 h2 rx ry).2.2 X.prog X.w _ _ ⟨.bl _, H, I, rfl, q⟩
theorem mEq_imp {neg : Bool} {K : PySem.W.Frag} {x y : V} {H : Hp} {Q : VK} (h : mEq neg K x y H Q) : ∃ d e, Rep K H d x /\ Rep K H e y /\ depD d <= 60 /\ Q (.bl (neg ^^ eqD d e)) H := by
  unfold mEq at h
  split at h
  . exact ⟨.non, .non, by unfold Rep; rfl, by unfold Rep; rfl, by unfold depD; omega, by unfold eqD; exact h⟩
  . rename_i a b; exact ⟨.bl a, .bl b, by unfold Rep; rfl, by unfold Rep; rfl, by unfold depD; omega, by unfold eqD; exact h⟩
  . rename_i a b; exact ⟨.int a, .int b, by unfold Rep; rfl, by unfold Rep; rfl, by unfold depD; omega, by unfold eqD; exact h⟩
  . rename_i a b; exact ⟨.str a, .str b, by unfold Rep; rfl, by unfold Rep; rfl, by unfold depD; omega, by unfold eqD; exact h⟩
  . exact h
theorem om_eq (hu : X.A.units + 60 < cLine) : OpR X (compareOp .Eq) (mEq false X.K) := (om_eqAll hu).imp fun x y H Q h => by
  obtain ⟨d, e, h1, h2, h3, q⟩ := mEq_imp h
  exact ⟨d, e, h1, h2, h3, by rw [Bool.false_xor] at q; exact q⟩
theorem om_ne (hu : X.A.units + 60 < cLine) : OpR X (compareOp .NotEq) (mEq true X.K) := (om_neAll hu).imp fun x y H Q h => by
  obtain ⟨d, e, h1, h2, h3, q⟩ := mEq_imp h
  exact ⟨d, e, h1, h2, h3, by rw [Bool.true_xor] at q; exact q⟩
end
section
variable {X : Cx} {a b c e : Expr} {es : List Expr} {ta tb tc te : TE} {tA tB' : TT} {t : TA} {pos p : Pos} {x : Str}
def isB (v : V) (Q : Bool -> Prop) : Prop := match v with
  | .bl c => Q c
  | _ => False
theorem isB_of {v : V} {Q : Bool -> Prop} (h : isB v Q) : ∃ c, v = .bl c /\ Q c := by
  cases v <;> first | exact False.elim h | exact ⟨_, rfl, h⟩
def EMono (t : TE) : Prop := ∀ σ H (Q Q' : VK), (∀ v H, Q v H -> Q' v H) -> t σ H Q -> t σ H Q'
def uB (t : TE) : TT := fun σ H Q => t σ H fun x H1 => isB x fun c => Q c H1
theorem tu_cmp {op : CmpOp} {r : R2} (ho : OpR X (compareOp op) r) (ha : PE X a ta) (hb : PE X b tb) (hm : behindInMarks op b = false := by first | exact nobehind _ (by decide) (by decide) | rfl) : PT X (.Compare a [op] [b] pos) (uB (tOp r ta tb)) := by
  intro pins s σ H Q I h
  refine wpAny_isTrue_Compare1 (thn (ha pins s σ H _ I h) fun v s1 ⟨x, H1, I1, r1, q1⟩ => thn (hb pins s1 σ H1 _ I1 q1) fun u s2 ⟨y, H2, I2, r2, q2⟩ =>
    thn (ho pins s2 σ H2 x y v u _ I2 r1 r2 q2) fun c s3 ⟨z, H3, I3, r3, q⟩ => ?_) hm
  obtain ⟨k, e, q3⟩ := isB_of q
  subst e
  cases r3
  exact wpAny_truthy_bool ⟨H3, I3, q3⟩
theorem pe_cmpM {op : CmpOp} {r : R2} (ho : OpR X (compareOp op) r) (ha : PE X a ta) (hb : PE X b tb) (hm : behindInMarks op b = false := by first | exact nobehind _ (by decide) (by decide) | rfl) : PE X (.Compare a [op] [b] pos) (tOp r ta tb) := pe_cmpR ho ha hb hm
theorem tu_val (h : PE X e te) (he : ∀ whole, isTrue e X.env whole = (do let v <- whole; standAt e.pos; holding [v] (truthy v)) := by intro _; rfl) : PT X e (uB te) := by
  intro pins s σ H Q I hq
  refine isTrue_plain (thn (h pins s σ H _ I hq) fun v s1 ⟨x, H1, I1, r1, q1⟩ => ?_) (he _)
  obtain ⟨k, e, q⟩ := isB_of q1
  subst e
  cases r1
  exact wpAny_truthy_bool ⟨H1, I1, q⟩
def vChain (r r' : R2) (ta tb tc : TE) : TE := fun σ H Q => ta σ H fun x H1 => tb σ H1 fun y H2 => r x y H2 fun z H3 => isB z fun k =>
  (if k = true then tc σ H3 fun w' H4 => r' y w' H4 Q else Q (.bl false) H3)
theorem pe_chainM {op op' : CmpOp} {r r' : R2} (ho : OpR X (compareOp op) r) (ho' : OpR X (compareOp op') r') (ha : PE X a ta) (hb : PE X b tb) (hc : PE X c tc)
    (hm : lastMarks [op, op'] [b, c] = false := by with_unfolding_all rfl) : PE X (.Compare a [op, op'] [b, c] pos) (vChain r r' ta tb tc) := by
  intro pins s σ H Q I h
  refine Compare_chain (thn (ha pins s σ H _ I h) fun v s1 ⟨x, H1, I1, r1, q1⟩ => chain_link (thn (hb pins s1 σ H1 _ I1 q1) fun u s2 ⟨y, H2, I2, r2, q2⟩ =>
    thn (ho pins s2 σ H2 x y v u _ I2 r1 r2 q2) fun d s3 ⟨z, H3, I3, r3, q⟩ => ?_)) hm
  obtain ⟨k, e, q3⟩ := isB_of q
  subst e
  cases r3
  refine wpAny_truthy_bool ?_
  cases k with
  | false => exact ite_ff ⟨.bl false, H3, I3, rfl, q3⟩
  | true => exact ite_tt (chain_last (thn (hc pins s3 σ H3 _ I3 q3) fun w' s4 ⟨z', H4, I4, r4, q4⟩ => ho' pins s4 σ H4 y z' u w' Q I4 r2 r4 q4))
def vAnd (ta tb : TE) : TE := fun σ H Q => ta σ H fun x H1 => isB x fun c => if c = true then tb σ H1 Q else Q (.bl false) H1
def vNot (ta : TE) : TE := fun σ H Q => ta σ H fun x H1 => isB x fun c => Q (.bl (!c)) H1
theorem pe_andM (ha : PE X a ta) (hb : PE X (.BoolOp .And (b :: es) pos) tb) : PE X (.BoolOp .And (a :: b :: es) pos) (vAnd ta tb) := by
  have ha' : PE X a (fun σ H Q => ta σ H fun x H1 => isB x fun c => Q (.bl c) H1) := fun pins s σ H Q I h => thn (ha pins s σ H _ I h) fun v s1 ⟨x, H1, I1, r1, q1⟩ => by
    obtain ⟨c, e, q⟩ := isB_of q1
    subst e
    exact ⟨.bl c, H1, I1, r1, q⟩
  have h := pe_and (pos := pos) ha' hb
  exact h.imp fun σ H Q q => by
    show ta σ H fun x H1 => isB x fun c => ∃ c', V.bl c = .bl c' /\ if c' = true then tb σ H1 Q else Q (.bl false) H1
    have e : (fun (x : V) (H1 : Hp) => isB x fun c => ∃ c', V.bl c = .bl c' /\ if c' = true then tb σ H1 Q else Q (.bl false) H1) = fun x H1 => isB x fun c => if c = true then tb σ H1 Q else Q (.bl false) H1 := by
      funext x H1
      cases x <;> first | rfl | (apply propext; constructor; (rintro ⟨c', e, h⟩; cases e; exact h); (intro h; exact ⟨_, rfl, h⟩))
    rw [e]
    exact q
theorem pe_notM (ha : PE X a ta) : PE X (.UnaryOp .Not a pos) (vNot ta) := by
  have ha' : PE X a (fun σ H Q => ta σ H fun x H1 => isB x fun c => Q (.bl c) H1) := fun pins s σ H Q I h => thn (ha pins s σ H _ I h) fun v s1 ⟨x, H1, I1, r1, q1⟩ => by
    obtain ⟨c, e, q⟩ := isB_of q1
    subst e
    exact ⟨.bl c, H1, I1, r1, q⟩
  have h := pe_not (pos := pos) ha'
  exact h.imp fun σ H Q q => by
    show ta σ H fun x H1 => isB x fun c => ∃ c', V.bl c = .bl c' /\ Q (.bl (!c')) H1
    have e : (fun (x : V) (H1 : Hp) => isB x fun c => ∃ c', V.bl c = .bl c' /\ Q (.bl (!c')) H1) = fun x H1 => isB x fun c => Q (.bl (!c)) H1 := by
      funext x H1
      cases x <;> first | rfl | (apply propext; constructor; (rintro ⟨c', e, h⟩; cases e; exact h); (intro h; exact ⟨_, rfl, h⟩))
    rw [e]
    exact q
def SqA (K : PySem.W.Frag) (H : Hp) (p : Addr) (xs : List V) : Prop := SqL K H p xs \/ SqT K H p xs
def mIx (K : PySem.W.Frag) : R2 := fun x y H Q => match x, y with
  | .ref p, .int i => ∃ xs v, SqA K H p xs /\ atI xs i = some v /\ Q v H
  | .str z, .int i => ∃ c, z.length <= sizeLine /\ atI z.cps.toList i = some c /\ Q (.str ⟨#[c]⟩) H
  | _, _ => False
theorem IxR.imp {r r' : R2} (h : IxR X r) (g : ∀ x y H Q, r' x y H Q -> r x y H Q) : IxR X r' := fun a b pins s σ H x y v u Q I rx ry q z => h a b pins s σ H x y v u Q I rx ry (g _ _ _ _ q) z
theorem xm_ix : IxR X (mIx X.K) := ix_seq.imp fun x y H Q q => by
  cases x <;> cases y <;> first
    | exact False.elim q
    | (obtain ⟨xs, v, h | h, e, q⟩ := q
       . exact .inl ⟨_, xs, _, v, rfl, rfl, h, e, q⟩
       . exact .inr (.inl ⟨_, xs, _, v, rfl, rfl, h, e, q⟩))
    | (obtain ⟨c, hz, e, q⟩ := q
       exact .inr (.inr ⟨_, _, c, rfl, rfl, hz, e, q⟩))
theorem pe_ixM (ha : PE X a ta) (hb : PE X b tb) (hs : PlainIx b := by intro _ _; rfl) : PE X (.Subscript a b pos) (tOp (mIx X.K) ta tb) := pe_ix xm_ix ha hb hs
def mLen (K : PySem.W.Frag) : List V -> Hp -> VK -> Prop := fun xs H Q => match xs with
  | [x] => ∃ n, LenV K x H n /\ Q (.int n) H
  | _ => False
theorem cm_len : CallR X (.builtin "len") (mLen X.K) := call_len.imp fun xs H Q q => by
  match xs, q with
  | [x], ⟨n, h, q⟩ => exact ⟨x, n, rfl, h, q⟩
def mAbs : List V -> Hp -> VK -> Prop := fun xs H Q => match xs with
  | [.int i] => Q (.int (i.natAbs : Int)) H
  | _ => False
theorem cm_abs : CallR X (.builtin "abs") mAbs := call_abs.imp fun xs H Q q => by
  match xs, q with
  | [.int i], q =>
    refine ⟨i, rfl, ?_⟩
    have e : (if i < 0 then -i else i) = (i.natAbs : Int) := by split <;> omega
    rw [e]
    exact q
def mMax : List V -> Hp -> VK -> Prop := fun xs H Q => match xs with
  | [.int i, .int j] => Q (.int (max i j)) H
  | _ => False
theorem cm_max (hc : X.calm = true) : CallR X (.builtin "max") mMax := (call_max2 hc).imp fun xs H Q q => by
  match xs, q with
  | [.int i, .int j], q =>
    refine ⟨i, j, rfl, ?_⟩
    have e : (if j > i then j else i) = max i j := by split <;> omega
    rw [e]
    exact q
def mInt : List V -> Hp -> VK -> Prop := fun xs H Q => match xs with
  | [.int i] => Q (.int i) H
  | [.bl k] => Q (.int (if k then 1 else 0)) H
  | _ => False
theorem cm_int : CallR X (.type "int") mInt := call_int1.imp fun xs H Q q => by
  match xs, q with
  | [.int i], q => exact .inl ⟨i, rfl, q⟩
  | [.bl k], q => exact .inr ⟨k, rfl, q⟩
def mTuple (K : PySem.W.Frag) : List V -> Hp -> VK -> Prop := fun xs H Q => match xs with
  | [.ref p] => ∃ ys, (SqL K H p ys /\ ∀ l, H l = none -> Q (.ref l) (upd H l (.tup ys))) \/ (SqT K H p ys /\ Q (.ref p) H)
  | _ => False
theorem cm_tuple : CallR X (.type "tuple") (mTuple X.K) := call_tuple_of.imp fun xs H Q q => by
  match xs, q with
  | [.ref p], ⟨ys, q⟩ => exact ⟨p, ys, rfl, q⟩
def mList (K : PySem.W.Frag) : List V -> Hp -> VK -> Prop := fun xs H Q => match xs with
  | [.ref p] => ∃ ys, SqA K H p ys /\ ∀ l, H l = none -> Q (.ref l) (upd H l (.lst ys))
  | _ => False
theorem cm_list : CallR X (.type "list") (mList X.K) := call_list_of.imp fun xs H Q q => by
  match xs, q with
  | [.ref p], ⟨ys, h, q⟩ => exact ⟨p, ys, rfl, h, q⟩
def isiT (K : PySem.W.Frag) (T : String) (x : V) (H : Hp) (b : Bool) : Prop := match x with
  | .non => b = (T == "NoneType")
  | .bl _ => b = (T == "bool" || T == "int")
  | .int _ => b = (T == "int")
  | .str _ => b = (T == "str")
  | .ref a => (∃ xs, (H a = some (.lst xs) \/ ∃ o, H a = some (.frz o (.lst xs))) /\ b = (T == "list")) \/ (∃ xs, H a = some (.tup xs) /\ b = (T == "tuple")) \/ ((∃ kvs, H a = some (.dK kvs)) /\ b = (T == "dict")) \/ ((∃ kvs, H a = some (.dT kvs)) /\ b = (T == "dict"))
  | _ => False
def kinds : List String := ["int", "bool", "str", "tuple", "list", "dict"]
theorem kit_all (K : PySem.W.Frag) : ∀ T ∈ kinds, PySem.W.kitOne K (.type "NoneType") (.type T) = some (T == "NoneType") /\ PySem.W.kitOne K (.type "bool") (.type T) = some (T == "bool" || T == "int") /\
    PySem.W.kitOne K (.type "int") (.type T) = some (T == "int") /\ PySem.W.kitOne K (.type "str") (.type T) = some (T == "str") /\ PySem.W.kitOne K (.type "list") (.type T) = some (T == "list") /\
    PySem.W.kitOne K (.type "tuple") (.type T) = some (T == "tuple") /\ PySem.W.kitOne K (.type "dict") (.type T) = some (T == "dict") := by
  intro T h
  unfold kinds at h
  rcases List.mem_cons.mp h with rfl | h
  . exact ⟨rfl, rfl, rfl, rfl, rfl, rfl, rfl⟩
  rcases List.mem_cons.mp h with rfl | h
  . exact ⟨rfl, rfl, rfl, rfl, rfl, rfl, rfl⟩
  rcases List.mem_cons.mp h with rfl | h
  . exact ⟨rfl, rfl, rfl, rfl, rfl, rfl, rfl⟩
  rcases List.mem_cons.mp h with rfl | h
  . exact ⟨rfl, rfl, rfl, rfl, rfl, rfl, rfl⟩
  rcases List.mem_cons.mp h with rfl | h
  . exact ⟨rfl, rfl, rfl, rfl, rfl, rfl, rfl⟩
  rcases List.mem_cons.mp h with rfl | h
  . exact ⟨rfl, rfl, rfl, rfl, rfl, rfl, rfl⟩
  . exact absurd h (by simp)
theorem isiT_ty {K : PySem.W.Frag} {T : String} {v : V} {H : Hp} {k : Bool} (hT : T ∈ kinds) (h : isiT K T v H k) : ∃ ty, TyOf K H v ty /\ PySem.W.kitOne K ty (.type T) = some k := by
  obtain ⟨k1, k2, k3, k4, k5, k6, k7⟩ := kit_all K T hT
  cases v with
  | non => cases (show k = _ from h); exact ⟨_, .non, k1⟩
  | bl _ => cases (show k = _ from h); exact ⟨_, .bl _, k2⟩
  | int _ => cases (show k = _ from h); exact ⟨_, .int _, k3⟩
  | str _ => cases (show k = _ from h); exact ⟨_, .str _, k4⟩
  | ref q =>
    rcases h with ⟨xs, h | ⟨o, h⟩, e⟩ | ⟨xs, h, e⟩ | ⟨⟨kvs, h⟩, e⟩ | ⟨⟨kvs, h⟩, e⟩
    . subst e; exact ⟨_, .lst h, k5⟩
    . subst e; exact ⟨_, .frz h, k5⟩
    . subst e; exact ⟨_, .tup h, k6⟩
    . subst e; exact ⟨_, .dK h, k7⟩
    . subst e; exact ⟨_, .dT h, k7⟩
  | _ => exact False.elim h
def mIsi (K : PySem.W.Frag) : List V -> Hp -> VK -> Prop := fun xs H Q => match xs with
  | [x, .ty T] => T ∈ kinds /\ ∃ k, isiT K T x H k /\ Q (.bl k) H
  | _ => False
theorem cm_isi : CallR X (.builtin "isinstance") (mIsi X.K) := by
  intro pins s σ H xs us Q I r q
  match xs, q with
  | [x, .ty T], q =>
    obtain ⟨hT, k, h, q⟩ := q
    obtain ⟨u, w', rfl, ru, rw'⟩ := vals2 r
    cases rw'
    obtain ⟨ty, h1, h2⟩ := isiT_ty hT h
    exact isinst_ok I ru h1 h2 fun tk => ⟨.bl k, H, I.tok _, rfl, q⟩
end
def compOkB (scope sc : Scope) : Bool :=
  decide (scope.kind = .function) && decide (scope.names.map (·.1)).Nodup && scope.names.all fun y => !(y.2 == .free) || (sc.names.lookup y.1 == some .cell || sc.names.lookup y.1 == some .free)
theorem CompScope.of {scope sc : Scope} (h : compOkB scope sc = true) : CompScope scope sc := by
  unfold compOkB at h
  rw [Bool.and_eq_true, Bool.and_eq_true] at h
  obtain ⟨⟨h1, h2⟩, h3⟩ := h
  refine ⟨of_decide_eq_true h1, of_decide_eq_true h2, fun y hy hf => ?_⟩
  have := List.all_eq_true.mp h3 y hy
  rw [hf] at this
  rcases (Bool.or_eq_true _ _).mp this with z | z
  . exact absurd z (by decide)
  . rcases (Bool.or_eq_true _ _).mp z with z | z
    . exact .inl (by simpa using z)
    . exact .inr (by simpa using z)
section
variable {X : Cx} {tg iter elt : Expr} {ifs : List Expr} {scope : Scope} {pos : Pos} {N' : List Str} {own : Nat} {ix : List Nat} {g : TG} {tc : TT} {te : TE} {wi : TI}
theorem frB {l : List Str} (h : (l.all fun x => scope.names.lookup x == some .free) = true) : ∀ x ∈ l, scope.names.lookup x = some .free := fun x hx => by
  have := List.all_eq_true.mp h x hx
  simpa using this
theorem pe_compB (hc : X.calm = true) (hi : PI X tg iter wi) (S : compOkB scope X.env.scope = true)
    (hlen : N'.length = own + ix.length) (hN : (N'.drop own).map some = ix.map (X.N[·]?)) (hfr : ((N'.drop own).all fun x => scope.names.lookup x == some .free) = true)
    (hg : ∀ c, PG (X.comp scope N' c) tg g) (hgo : GOwn own g) (ht : ∀ c, PTs (X.comp scope N' c) ifs tc) (he : ∀ c, PE (X.comp scope N' c) elt te)
    (hs : ∀ x, foldedSetIterable iter X.env x = pure x := by intro _; rfl) : PE X (.ListComp elt [⟨tg, iter, ifs, 0⟩] scope pos) (tComp wi own ix g tc te) :=
  pe_comp hc hi (.of S) hlen hN (frB hfr) hg hgo ht he hs
theorem ps_compB {i : Nat} {y : Str} {py spos : Pos} (hc : X.calm = true) (hnd : X.N.Nodup) (hiy : X.N[i]? = some y) (hy : X.env.scope.names.lookup y = some .local) (hi : PI X tg iter wi) (S : compOkB scope X.env.scope = true)
    (hlen : N'.length = own + ix.length) (hN : (N'.drop own).map some = ix.map (X.N[·]?)) (hfr : ((N'.drop own).all fun x => scope.names.lookup x == some .free) = true)
    (hg : ∀ c, PG (X.comp scope N' c) tg g) (hgo : GOwn own g) (ht : ∀ c, PTs (X.comp scope N' c) ifs tc) (he : ∀ c, PE (X.comp scope N' c) elt te)
    (hsw : swapsWith (.ListComp elt [⟨tg, iter, ifs, 0⟩] scope pos) (some (.Name y py)) spos.line X.env = pure true)
    (hs : ∀ x, foldedSetIterable iter X.env x = pure x := by intro _; rfl) : PS X (.Assign [.Name y py] (.ListComp elt [⟨tg, iter, ifs, 0⟩] scope pos) spos) (tAsg (tComp wi own ix g tc te) (gName i)) :=
  ps_comp hc hnd hiy hy hi (.of S) hlen hN (frB hfr) hg hgo ht he hsw hs
def iSeq (K : PySem.W.Frag) (tl : TE) : TI := fun σ H R => tl σ H fun x H1 => match x with
  | .ref a => ((∃ xs, SqL K H1 a xs) /\ R (Itl K a) H1) \/ ((∃ xs, SqT K H1 a xs) /\ R (Itt K a) H1)
  | _ => False
theorem pi_seq {l : Expr} {tl : TE} (hl : PE X l tl) : PI X tg l (iSeq X.K tl) := by
  intro pins s σ H R I h
  refine thn (hl pins s σ H _ I h) fun v s1 ⟨x, H1, I1, r1, q1⟩ => ?_
  cases x with
  | ref a =>
    cases r1
    rcases q1 with ⟨⟨xs, hq⟩, q⟩ | ⟨⟨xs, hq⟩, q⟩
    . obtain ⟨its, rv, p, hz⟩ := I1.list hq
      refine wpAny_pyIter_list p.isList ?_
      refine ⟨s1.heap.objs.size, [s1.heap.objs.size], _, _, H1, rfl, I1.kept (t' := s1.toks) fun b o e => Heap.get?_push_of_some _ e, turn_list a _, ⟨_, Heap.get?_push_size _ rfl, rfl, rfl⟩, fun b hb => ?_, q⟩
      have e : b = s1.heap.objs.size := by simpa using hb
      subst e
      exact I1.fpOk (Nat.le_refl _) (I1.hok.fresh (Nat.le_refl _))
    . obtain ⟨its, rv, p, hz⟩ := I1.tuple hq
      refine wpAny_pyIter_tuple (show s1.heap.IsTuple a its.toArray from p) ?_
      refine ⟨s1.heap.objs.size, [s1.heap.objs.size], _, _, H1, rfl, I1.kept (t' := s1.toks) fun b o e => Heap.get?_push_of_some _ e, turn_tuple a _, ⟨_, Heap.get?_push_size _ rfl, rfl, rfl⟩, fun b hb => ?_, q⟩
      have e : b = s1.heap.objs.size := by simpa using hb
      subst e
      exact I1.fpOk (Nat.le_refl _) (I1.hok.fresh (Nat.le_refl _))
  | _ => exact False.elim q1
def mSet : TSet := fun o i v H Q => match o, i with
  | .ref p, .int k => ∃ xs j, H p = some (.lst xs) /\ ixN xs.length k = some j /\ Q (upd H p (.lst (xs.set j v)))
  | _, _ => False
theorem set_any : PSet X mSet := by
  intro pins s σ H o i v ov iv u Q I ro ri rv h
  cases o <;> cases i <;> first
    | exact False.elim h
    | (obtain ⟨xs, j, h1, h2, q⟩ := h
       exact set_list pins s σ H _ _ v ov iv u Q I ro ri rv ⟨_, xs, _, j, rfl, rfl, h1, h2, q⟩)
theorem comp_tup {K : PySem.W.Frag} {a : Addr} {xs : List V} {σc : St} {Q : VK} {H : Hp} (Pv : Nat -> List V -> Hp -> Prop) (h0 : Pv 0 [] H) (hl : ∀ i ys H, i <= xs.length -> Pv i ys H -> SqT K H a xs) (hz : ∀ i ys H, i < xs.length -> Pv i ys H -> ys.length < sizeLine)
    (hs : ∀ i x ys H, xs[i]? = some x -> Pv i ys H -> g x σc H fun σ2 H2 => tc σ2 H2 fun b H3 => if b = true then te σ2 H3 fun y H4 => Pv (i + 1) (ys ++ [y]) H4 else Pv (i + 1) ys H3)
    (hd : ∀ ys H, Pv xs.length ys H -> ∀ p, H p = none -> Q (.ref p) (upd H p (.lst ys))) : CompTurns (Itt K a) g tc te σc Q H := by
  refine ⟨fun i m ys H => m = xs.length - i /\ i <= xs.length /\ Pv i ys H, ⟨xs.length, by simp, Nat.zero_le _, h0⟩, ?_⟩
  rintro i m ys H ⟨rfl, hi, p⟩
  have q := hl i ys H hi p
  by_cases hlt : i < xs.length
  . refine .inr ⟨⟨xs, xs[i], q, by simp [hlt]⟩, hz i ys H hlt p, Pv (i + 1), fun ys' H' p' => ⟨xs.length - (i + 1), by omega, rfl, hlt, p'⟩, fun x H' y => ?_⟩
    obtain ⟨e, y⟩ := y
    subst e
    exact hs i x ys _ (y xs q) p
  . have e : i = xs.length := by omega
    subst e
    exact .inl ⟨⟨xs, q, Nat.le_refl _⟩, hd ys H p⟩
theorem comp_range {lo : Int} {n : Nat} {σc : St} {Q : VK} {H : Hp} (Pv : Nat -> List V -> Hp -> Prop) (h0 : Pv 0 [] H) (hz : ∀ i ys H, i < n -> Pv i ys H -> ys.length < sizeLine)
    (hs : ∀ i ys H, i < n -> Pv i ys H -> g (.int (lo + i)) σc H fun σ2 H2 => tc σ2 H2 fun b H3 => if b = true then te σ2 H3 fun y H4 => Pv (i + 1) (ys ++ [y]) H4 else Pv (i + 1) ys H3)
    (hd : ∀ ys H, Pv n ys H -> ∀ p, H p = none -> Q (.ref p) (upd H p (.lst ys))) : CompTurns (Itr lo n) g tc te σc Q H := by
  refine ⟨fun i m ys H => m = n - i /\ i <= n /\ Pv i ys H, ⟨n, by simp, Nat.zero_le _, h0⟩, ?_⟩
  rintro i m ys H ⟨rfl, hi, p⟩
  by_cases hlt : i < n
  . refine .inr ⟨hlt, hz i ys H hlt p, Pv (i + 1), fun ys' H' p' => ⟨n - (i + 1), by omega, rfl, hlt, p'⟩, fun x H' y => ?_⟩
    obtain ⟨e, y⟩ := y
    subst e y
    exact hs i ys _ hlt p
  . have e : i = n := by omega
    subst e
    exact .inl ⟨Nat.le_refl _, hd ys H p⟩
end
theorem hu60 {A : Around} {k : Nat} (hr : Room k A) : A.units + 60 < cLine := by have := hr.un; omega
def Frm (t : Addr) (H H' : Hp) : Prop := ∀ b o, b ≠ t -> H b = some o -> H' b = some o
theorem Frm.trans {t : Addr} {H H1 H2 : Hp} (a : Frm t H H1) (b : Frm t H1 H2) : Frm t H H2 := fun c o n h => b c o n (a c o n h)
theorem Frm.upd {t p : Addr} {H : Hp} {o : HO} (h : H p = none) : Frm t H (upd H p o) := fun b u _ e => by rw [upd_ne (ne_of_none e h)]; exact e
theorem Frm.updT {t : Addr} {H : Hp} {o : HO} : Frm t H (L2.upd H t o) := fun b u n e => by rw [upd_ne n]; exact e
theorem Same.upd {p : Addr} {H : Hp} {o : HO} (h : H p = none) : Same H (L2.upd H p o) := fun b u e => by rw [upd_ne (ne_of_none e h)]; exact e
theorem Same.frm {t : Addr} {H H' : Hp} (h : Same H H') : Frm t H H' := fun b o _ e => h b o e
theorem sqL_stay {K : PySem.W.Frag} {H H' : Hp} {a : Addr} {xs : List V} (h : SqL K H a xs) (k : ∀ o, H a = some o -> H' a = some o) : SqL K H' a xs := by
  rcases h with (h | ⟨o, h⟩) | h
  . exact .inl (.inl (k _ h))
  . exact .inl (.inr ⟨o, k _ h⟩)
  . exact .inr h
theorem sqT_stay {K : PySem.W.Frag} {H H' : Hp} {a : Addr} {xs : List V} (h : SqT K H a xs) (k : ∀ o, H a = some o -> H' a = some o) : SqT K H' a xs := by
  rcases h with (h | ⟨o, h⟩) | h
  . exact .inl (.inl (k _ h))
  . exact .inl (.inr ⟨o, k _ h⟩)
  . exact .inr h
def ScrAt (K : PySem.W.Frag) (H : Hp) (t a : Addr) (ns : List Int) : Prop :=
  (Rd H a (.lst (ns.map V.int)) /\ a ≠ t) \/ ∃ (o : Obj) (its : Array Value) (n : Nat), K.lookup a = some o /\ o.cls = .type "list" /\ o.dict = none /\ o.data = .seq its n /\ its.size <= sizeLine /\ Vals (ns.map V.int) its.toList
theorem ScrAt.sq {K : PySem.W.Frag} {H : Hp} {t a : Addr} {ns : List Int} (h : ScrAt K H t a ns) : SqL K H a (ns.map V.int) := by
  rcases h with ⟨h, _⟩ | h
  . exact .inl h
  . exact .inr h
theorem ScrAt.stay {K : PySem.W.Frag} {H H' : Hp} {t a : Addr} {ns : List Int} (h : ScrAt K H t a ns) (k : ∀ o, a ≠ t -> H a = some o -> H' a = some o) : ScrAt K H' t a ns := by
  rcases h with ⟨h | ⟨o, h⟩, n⟩ | h
  . exact .inl ⟨.inl (k _ n h), n⟩
  . exact .inl ⟨.inr ⟨o, k _ n h⟩, n⟩
  . exact .inr h
theorem ScrAt.of {K : PySem.W.Frag} {H : Hp} {t a : Addr} {ns : List Int} (h : SqL K H a (ns.map V.int)) (ht : H t = none) : ScrAt K H t a ns := by
  rcases h with h | h
  . refine .inl ⟨h, fun e => ?_⟩
    subst e
    rcases h with h | ⟨o, h⟩ <;> rw [ht] at h <;> cases h
  . exact .inr h
structure Tape (K : PySem.W.Frag) (H : Hp) (t a : Addr) (ns : List Int) : Prop where
  at_ : ∃ i r c : Int, 0 <= i /\ 0 <= r /\ H t = some (.lst [.ref a, .int i, .int r, .int c])
  scr : ScrAt K H t a ns
theorem Tape.same {K : PySem.W.Frag} {H H' : Hp} {t a : Addr} {ns : List Int} (T : Tape K H t a ns) (h : Same H H') : Tape K H' t a ns := by
  obtain ⟨i, r, c, h1, h2, h3⟩ := T.at_
  exact ⟨⟨i, r, c, h1, h2, h _ _ h3⟩, T.scr.stay fun o _ e => h a o e⟩
theorem Tape.upd {K : PySem.W.Frag} {H : Hp} {t a p : Addr} {o : HO} {ns : List Int} (T : Tape K H t a ns) (h : H p = none) : Tape K (L2.upd H p o) t a ns := T.same (Same.upd h)
theorem Tape.free {K : PySem.W.Frag} {H H' : Hp} {t a p : Addr} {ns : List Int} (T : Tape K H' t a ns) (h : Frm t H H') (hp : H' p = none) : H p = none := by
  cases e : H p with
  | none => rfl
  | some o =>
    by_cases hpt : p = t
    . subst hpt
      obtain ⟨i, r, c, _, _, h3⟩ := T.at_
      rw [h3] at hp; cases hp
    . rw [h p o hpt e] at hp; cases hp
theorem Tape.neT {K : PySem.W.Frag} {H : Hp} {t a p : Addr} {ns : List Int} (T : Tape K H t a ns) (hp : H p = none) : p ≠ t := fun e => by
  obtain ⟨i, r, c, _, _, h3⟩ := T.at_
  rw [e, h3] at hp; cases hp
def spNext (K : PySem.W.Frag) : Sp := fun vs H Q _ => match vs with
  | [.ref t, .int m] => ∃ a ns, Tape K H t a ns /\ okDiv m /\ ∀ d H', 0 <= d -> d < m -> Tape K H' t a ns -> (∀ b, b ≠ t -> H' b = H b) -> Q (.int d) H'
  | _ => False
def spTape (K : PySem.W.Frag) : Sp := fun vs H Q _ => match vs with
  | [.ref a] => ∀ p, H p = none -> Q (.ref p) (upd H p (.lst [.ref a, .int 0, .int 0, .int 0]))
  | _ => False
def spLaw (K : PySem.W.Frag) : Sp := fun vs H Q _ => ∃ (a : Addr) (ns : List Int), vs = [.ref a] /\ SqL K H a (ns.map V.int) /\ ns.length <= 63 /\ ∀ H', Q (.bl true) H'
theorem atI_of {xs : List V} {i : Int} {n : Nat} {v : V} (h : i = (n : Int)) (hx : xs[n]? = some v) : atI xs i = some v := by
  subst h
  have hn : n < xs.length := (List.getElem?_eq_some_iff.mp hx).1
  unfold atI ixN
  rw [if_pos (Int.natCast_nonneg n), if_pos (by omega)]
  simpa using hx
theorem atI_int {ns : List Int} {i : Int} (h0 : 0 <= i) (h1 : i < ns.length) : ∃ z, atI (ns.map V.int) i = some (.int z) := by
  obtain ⟨n, rfl⟩ := Int.eq_ofNat_of_zero_le h0
  have hn : n < ns.length := by omega
  exact ⟨ns[n], atI_of rfl (by rw [List.getElem?_map, List.getElem?_eq_getElem hn]; rfl)⟩
theorem newTape {K : PySem.W.Frag} {H : Hp} {a p : Addr} {ns : List Int} (h : H p = none) (hs : SqL K H a (ns.map V.int)) : Tape K (L2.upd H p (.lst [.ref a, .int 0, .int 0, .int 0])) p a ns :=
  ⟨⟨0, 0, 0, Int.le_refl _, Int.le_refl _, upd_same⟩, (ScrAt.of hs h).stay fun o n e => by rw [upd_ne n]; exact e⟩
theorem okDiv_of {j : Int} (h1 : 0 < j) (h2 : j <= 2 ^ 1000) : okDiv j := ⟨h1, Int.lt_of_le_of_lt h2 (by decide)⟩
theorem small_le {n : Nat} (h : n <= 1000) : n <= sizeLine := Nat.le_of_lt (small1000 h)
def TMono (t : TT) : Prop := ∀ σ H (Q Q' : Bool -> Hp -> Prop), (∀ b H, Q b H -> Q' b H) -> t σ H Q -> t σ H Q'
def AMono (t : TA) : Prop := ∀ σ H (Q Q' : List V -> Hp -> Prop), (∀ b H, Q b H -> Q' b H) -> t σ H Q -> t σ H Q'
def RMono (r : R2) : Prop := ∀ x y H (Q Q' : VK), (∀ v H, Q v H -> Q' v H) -> r x y H Q -> r x y H Q'
def UMono (r : V -> Hp -> VK -> Prop) : Prop := ∀ x H (Q Q' : VK), (∀ v H, Q v H -> Q' v H) -> r x H Q -> r x H Q'
def CMono (r : List V -> Hp -> VK -> Prop) : Prop := ∀ xs H (Q Q' : VK), (∀ v H, Q v H -> Q' v H) -> r xs H Q -> r xs H Q'
def BMono (r : V -> List V -> Hp -> VK -> Prop) : Prop := ∀ x xs H (Q Q' : VK), (∀ v H, Q v H -> Q' v H) -> r x xs H Q -> r x xs H Q'
def SpMono (sp : Sp) : Prop := ∀ vs H (Q Q' : VK) E, (∀ v H, Q v H -> Q' v H) -> sp vs H Q E -> sp vs H Q' E
def IMono (t : TI) : Prop := ∀ σ H (Q Q' : It -> Hp -> Prop), (∀ J H, Q J H -> Q' J H) -> t σ H Q -> t σ H Q'
def SetMono (t : TSet) : Prop := ∀ o i v H (Q Q' : Hp -> Prop), (∀ H, Q H -> Q' H) -> t o i v H Q -> t o i v H Q'
structure Ends.le (D D' : Ends) : Prop where
  nx : ∀ σ H, D.nx σ H -> D'.nx σ H
  rt : ∀ v H, D.rt v H -> D'.rt v H
  bk : ∀ σ H, D.bk σ H -> D'.bk σ H
  ct : ∀ σ H, D.ct σ H -> D'.ct σ H
def SMono (t : TS) : Prop := ∀ D D' σ H, Ends.le D D' -> t D σ H -> t D' σ H
theorem em_var {i : Nat} : EMono (vVar i) := fun σ H Q Q' h q => by
  unfold vVar at *
  split at q
  . exact h _ _ q
  . exact q.elim
theorem em_c {v : V} : EMono (tC v) := fun _ _ _ _ h q => h _ _ q
theorem em_op {r : R2} {ta tb : TE} (hr : RMono r) (ha : EMono ta) (hb : EMono tb) : EMono (tOp r ta tb) := fun σ H Q Q' h q => ha _ _ _ _ (fun _ _ q => hb _ _ _ _ (fun _ _ q => hr _ _ _ _ _ h q) q) q
theorem em_un {r : V -> Hp -> VK -> Prop} {ta : TE} (hr : UMono r) (ha : EMono ta) : EMono (tUn r ta) := fun σ H Q Q' h q => ha _ _ _ _ (fun _ _ q => hr _ _ _ _ h q) q
theorem rm_add {K} : RMono (mAdd K) := fun x y H Q Q' h q => by
  unfold mAdd at *
  split at q
  . exact h _ _ q
  . exact ⟨q.1, h _ _ q.2⟩
  . rcases q with ⟨l, b, xs, zs, e1, e2, h1, h2, h3, q⟩ | ⟨a, b, xs, ys, e1, e2, h1, h2, h3, h4, q1, q2⟩
    . exact .inl ⟨l, b, xs, zs, e1, e2, h1, h2, h3, fun p hp => h _ _ (q p hp)⟩
    . exact .inr ⟨a, b, xs, ys, e1, e2, h1, h2, h3, h4, fun e => h _ _ (q1 e), fun e p hp => h _ _ (q2 e p hp)⟩
  . exact q.elim
theorem rm_mul : RMono mMul := fun x y H Q Q' h q => by
  unfold mMul at *
  split at q
  . exact ⟨q.1, h _ _ q.2⟩
  . obtain ⟨l, k, xs, e1, e2, h1, h2, h3, h4, q⟩ := q
    exact ⟨l, k, xs, e1, e2, h1, h2, h3, h4, fun p hp => h _ _ (q p hp)⟩
  . exact q.elim
theorem rm_div : RMono mDiv := fun x y H Q Q' h q => by unfold mDiv at *; split at q <;> first | exact ⟨q.1, h _ _ q.2⟩ | exact q.elim
theorem rm_mod : RMono mMod := fun x y H Q Q' h q => by unfold mMod at *; split at q <;> first | exact ⟨q.1, h _ _ q.2⟩ | exact q.elim
theorem rm_pow : RMono mPow := fun x y H Q Q' h q => by unfold mPow at *; split at q <;> first | exact ⟨q.1, h _ _ q.2⟩ | exact q.elim
theorem um_neg_ : UMono mNeg := fun x H Q Q' h q => by unfold mNeg at *; split at q <;> first | exact h _ _ q | exact q.elim
theorem rm_cmp {p} : RMono (mCmp p) := fun x y H Q Q' h q => by unfold mCmp at *; split at q <;> first | exact h _ _ q | exact q.elim
theorem rm_eq {n K} : RMono (mEq n K) := fun x y H Q Q' h q => by
  unfold mEq at *
  split at q <;> first | exact h _ _ q | (obtain ⟨d, e, h1, h2, h3, q⟩ := q; exact ⟨d, e, h1, h2, h3, h _ _ q⟩)
theorem rm_ix {K} : RMono (mIx K) := fun x y H Q Q' h q => by
  unfold mIx at *
  split at q
  . obtain ⟨xs, v, h1, h2, q⟩ := q; exact ⟨xs, v, h1, h2, h _ _ q⟩
  . obtain ⟨c, h1, h2, q⟩ := q; exact ⟨c, h1, h2, h _ _ q⟩
  . exact q.elim
theorem isB_mono {v : V} {Q Q' : Bool -> Prop} (h : ∀ b, Q b -> Q' b) (q : isB v Q) : isB v Q' := by
  cases v <;> first | exact h _ q | exact q
theorem tm_b {t : TE} (h : EMono t) : TMono (uB t) := fun σ H Q Q' k q => h _ _ _ _ (fun _ _ q => isB_mono (fun b q => k b _ q) q) q
theorem em_not {ta : TE} (ha : EMono ta) : EMono (vNot ta) := fun σ H Q Q' h q => ha _ _ _ _ (fun _ _ q => isB_mono (fun b q => h _ _ q) q) q
theorem em_if {t : TT} {ta tb : TE} (ht : TMono t) (ha : EMono ta) (hb : EMono tb) : EMono (tIf t ta tb) := fun σ H Q Q' h q => ht _ _ _ _ (fun b _ q => by
    cases b with
    | true => exact ha _ _ _ _ h q
    | false => exact hb _ _ _ _ h q) q
theorem tm_and {t u : TT} (ht : TMono t) (hu : TMono u) : TMono (tAnd t u) := fun σ H Q Q' h q => ht _ _ _ _ (fun b _ q => by
    cases b with
    | true => exact hu _ _ _ _ h q
    | false => exact h _ _ q) q
theorem am_nil : AMono tNil := fun _ _ _ _ h q => h _ _ q
theorem am_cons {ta : TE} {t : TA} (ha : EMono ta) (ht : AMono t) : AMono (tCons ta t) := fun σ H Q Q' h q => ha _ _ _ _ (fun _ _ q => ht _ _ _ _ (fun _ _ q => h _ _ q) q) q
theorem em_cb {r} {t : TA} (hr : CMono r) (ht : AMono t) : EMono (tCB r t) := fun σ H Q Q' h q => ht _ _ _ _ (fun _ _ q => hr _ _ _ _ h q) q
theorem em_call {sp dvs E} {t : TA} (hs : SpMono sp) (ht : AMono t) : EMono (tCall sp dvs E t) := fun σ H Q Q' h q => ht _ _ _ _ (fun _ _ q => hs _ _ _ _ _ h q) q
theorem em_tup {t : TA} (ht : AMono t) : EMono (tTup t) := fun σ H Q Q' h q => ht _ _ _ _ (fun _ _ q => ⟨q.1, fun p hp => h _ _ (q.2 p hp)⟩) q
theorem em_lst {t : TA} (ht : AMono t) : EMono (tLst t) := fun σ H Q Q' h q => ht _ _ _ _ (fun _ _ q => ⟨q.1, fun p hp => h _ _ (q.2 p hp)⟩) q
theorem em_comp {wi own ix g tc te} (hi : IMono wi) : EMono (tComp wi own ix g tc te) := fun σ H Q Q' h q => hi _ _ _ _ (fun J H1 q => by
    obtain ⟨W, w0, turn⟩ := q
    refine ⟨W, w0, fun i m ys H w => ?_⟩
    rcases turn i m ys H w with ⟨a, b⟩ | r
    . exact .inl ⟨a, fun p hp => h _ _ (b p hp)⟩
    . exact .inr r) q
theorem cm_len_ {K} : CMono (mLen K) := fun xs H Q Q' h q => by unfold mLen at *; split at q <;> first | (obtain ⟨n, a, q⟩ := q; exact ⟨n, a, h _ _ q⟩) | exact q.elim
theorem cm_max_ : CMono mMax := fun xs H Q Q' h q => by unfold mMax at *; split at q <;> first | exact h _ _ q | exact q.elim
theorem cm_int_ : CMono mInt := fun xs H Q Q' h q => by unfold mInt at *; split at q <;> first | exact h _ _ q | exact q.elim
theorem cm_tuple_ {K} : CMono (mTuple K) := fun xs H Q Q' h q => by
  unfold mTuple at *
  split at q
  . obtain ⟨ys, ⟨a, q⟩ | ⟨a, q⟩⟩ := q
    . exact ⟨ys, .inl ⟨a, fun l hl => h _ _ (q l hl)⟩⟩
    . exact ⟨ys, .inr ⟨a, h _ _ q⟩⟩
  . exact q.elim
theorem im_rng1 {ta : TA} (h : AMono ta) : IMono (iRng1 ta) := fun σ H Q Q' k q => h _ _ _ _ (fun _ _ ⟨j, e, a, b, q⟩ => ⟨j, e, a, b, k _ _ q⟩) q
theorem sm_set : SetMono mSet := fun o i v H Q Q' h q => by
  unfold mSet at *
  split at q
  . obtain ⟨xs, j, a, b, q⟩ := q; exact ⟨xs, j, a, b, h _ q⟩
  . exact q.elim
theorem gm_sub {to ti : TE} {t : TSet} (h1 : EMono to) (h2 : EMono ti) (h3 : SetMono t) : GMono (gSub to ti t) := fun v σ H Q Q' h q => h1 _ _ _ _ (fun _ _ q => h2 _ _ _ _ (fun _ _ q => h3 _ _ _ _ _ _ (fun H q => h _ _ q) q) q) q
theorem sm_next : SMono tNext := fun D D' σ H h q => h.nx _ _ q
theorem sm_seq {t u : TS} (h1 : SMono t) (h2 : SMono u) : SMono (tSeq t u) := fun D D' σ H h q => h1 { D with nx := u D } { D' with nx := u D' } σ H ⟨fun σ H q => h2 D D' σ H h q, h.rt, h.bk, h.ct⟩ q
theorem sm_asg {te : TE} {g : TG} (h1 : EMono te) (h2 : GMono g) : SMono (tAsg te g) := fun D D' σ H h q => h1 _ _ _ _ (fun _ _ q => h2 _ _ _ _ _ h.nx q) q
theorem sm_drop {te : TE} (h1 : EMono te) : SMono (tDrop te) := fun D D' σ H h q => h1 _ _ _ _ (fun _ _ q => h.nx _ _ q) q
theorem sm_if {c : TT} {t u : TS} (hc : TMono c) (h1 : SMono t) (h2 : SMono u) : SMono (tIfS c t u) := fun D D' σ H h q => hc _ _ _ _ (fun b _ q => by
    cases b with
    | true => exact h1 _ _ _ _ h q
    | false => exact h2 _ _ _ _ h q) q
theorem sm_for {wi : TI} {g : TG} {tb : TS} (hi : IMono wi) (hg : GMono g) (h1 : SMono tb) : SMono (tFor wi g tb) := fun D D' σ H h q => hi _ _ _ _ (fun J H1 q => by
  obtain ⟨W, w0, turn⟩ := q
  refine ⟨W, w0, fun i m σ H w => ?_⟩
  rcases turn i m σ H w with ⟨a, b⟩ | ⟨a, N, hN, step⟩
  . exact .inl ⟨a, h.nx _ _ b⟩
  . exact .inr ⟨a, N, hN, fun x H' y => hg _ _ _ _ _ (fun σ2 H2 q => h1 { D with nx := N, ct := N, bk := D.nx } _ _ _ ⟨fun _ _ q => q, h.rt, h.nx, fun _ _ q => q⟩ q) (step x H' y)⟩) q
theorem seq_at {t u : TS} {D : Ends} {σ : St} {H : Hp} (J : St -> Hp -> Prop) (h1 : t { D with nx := J } σ H) (h2 : ∀ σ' H', J σ' H' -> u D σ' H') (hm : SMono t) : tSeq t u D σ H :=
  hm { D with nx := J } { D with nx := u D } σ H ⟨h2, fun _ _ q => q, fun _ _ q => q, fun _ _ q => q⟩ h1
theorem spNext_mono {K} : SpMono (spNext K) := fun vs H Q Q' E h q => by
  unfold spNext at *
  split at q
  . obtain ⟨a, ns, x, y, q⟩ := q; exact ⟨a, ns, x, y, fun d H' e1 e2 e3 e4 => h _ _ (q d H' e1 e2 e3 e4)⟩
  . exact q.elim
section
variable {X : Cx} {K : PySem.W.Frag} {a b c e l tg : Expr} {es : List Expr} {ta tb tc te tl : TE} {pos p : Pos}
theorem kAdd (hK : X.K = K := by rfl) : OpR X (binaryOp .Add) (mAdd K) := hK ▸ om_add
theorem kEq (hu : X.A.units + 60 < cLine) (hK : X.K = K := by rfl) : OpR X (compareOp .Eq) (mEq false K) := hK ▸ om_eq hu
theorem kNe (hu : X.A.units + 60 < cLine) (hK : X.K = K := by rfl) : OpR X (compareOp .NotEq) (mEq true K) := hK ▸ om_ne hu
theorem kIx (ha : PE X a ta) (hb : PE X b tb) (hs : PlainIx b := by intro _ _; rfl) (hK : X.K = K := by rfl) : PE X (.Subscript a b pos) (tOp (mIx K) ta tb) := hK ▸ pe_ixM ha hb hs
theorem kLen (hK : X.K = K := by rfl) : CallR X (.builtin "len") (mLen K) := hK ▸ cm_len
theorem kTuple (hK : X.K = K := by rfl) : CallR X (.type "tuple") (mTuple K) := hK ▸ cm_tuple
theorem kList (hK : X.K = K := by rfl) : CallR X (.type "list") (mList K) := hK ▸ cm_list
theorem kIsi (hK : X.K = K := by rfl) : CallR X (.builtin "isinstance") (mIsi K) := hK ▸ cm_isi
theorem kSeq (hl : PE X l tl) (hK : X.K = K := by rfl) : PI X tg l (iSeq K tl) := hK ▸ pi_seq hl
theorem kTup {es : List Expr} {k : Nat} {t : TGs} {n : Nat} (hc : X.calm = true) (h : PGs X es t)
    (hn : (assignEach es X.env).length = n := by rfl) (hst : (assignEach es X.env).findIdx? (·.1) = none := by rfl) (hK : X.K = K := by rfl) : PG X (.Tuple es k pos) (gTup K n t) := hK ▸ pg_tup hc h hn hst
end
def Itz (K : PySem.W.Frag) (l1 l2 : Addr) : It :=
  ⟨fun i H => ∃ xs ys x y, SqL K H l1 xs /\ SqL K H l2 ys /\ xs[i]? = some x /\ ys[i]? = some y,
   fun i H v H' => ∃ p x y, H p = none /\ v = .ref p /\ H' = upd H p (.tup [x, y]) /\ (∀ xs, SqL K H l1 xs -> xs[i]? = some x) /\ (∀ ys, SqL K H l2 ys -> ys[i]? = some y),
   fun i H => ∃ xs ys, SqL K H l1 xs /\ SqL K H l2 ys /\ (xs.length <= i \/ ys.length <= i)⟩
theorem Inv.turnedNew {X : Cx} {pins : List (Addr × Obj)} {σ : St} {H : Hp} {s : Shared} {h' : Heap} {ch : List Addr} {T : Addr} {o : HO} (I : Inv X pins σ H s) (hf : ∀ b ∈ ch, FpOk X pins H b) (hT : s.heap.objs.size <= T)
    (k : ∀ b u, b ∉ ch -> s.heap.get? b = some u -> h'.get? b = some u) (new : ObjOk X.prog X.w (upd H T o) h' T o) (th : ∀ b ∈ ch, ∃ u, h'.get? b = some u) : Inv X pins σ (upd H T o) { s with heap := h' } := by
  have hTn : H T = none := I.hok.fresh hT
  have nT : ∀ b u, H b = some u -> b ≠ T := fun b u e z => by rw [z, hTn] at e; cases e
  have nc : ∀ b u, H b = some u -> b ∉ ch := fun b u e z => by rw [(hf b z).1] at e; cases e
  refine I.step (g' := s.gens) (d' := s.drawn) (t' := s.toks) (ch := ch) (fun b hb => ?_) (fun b u _ _ hc e _ => k b u hc e) (fun b u _ _ hc e _ => ⟨u.slots, k b u hc e⟩) (fun b u hc e n => ?_) (fun b u hc e => ⟨u, k b u hc e⟩)
    (fun b xs e => by rw [upd_ne (nT _ _ e)]; exact e) (fun b u v e => by rw [upd_ne (nT _ _ e)]; exact e) (fun b ps e => ⟨#[], by rw [upd_ne (nT _ _ e), e]; simp⟩) (fun m hm => ?_) (fun b u e => ?_) I.bare
  . obtain ⟨q1, q2, q3, q4, q5, q6⟩ := hf b hb
    exact ⟨q4, q2, q5, q6⟩
  . rw [upd_ne (Nat.ne_of_lt (Nat.lt_of_lt_of_le (Heap.lt_size e) hT))]; exact n
  . obtain ⟨u, es, ep, ho, r⟩ := hm
    exact ⟨u, es, ep, k _ u (fun z => (hf _ z).2.1 rfl) ho, r⟩
  . by_cases hb : b = T
    . subst hb; rw [upd_same] at e; cases e; exact new
    . rw [upd_ne hb] at e
      refine (I.hok b u e).stay (fun c v hc q => k c v ?_ q) (fun c q => by rw [upd_ne (nT _ _ q)]; exact q) fun c xs q => by rw [upd_ne (nT _ _ q)]; exact q
      rcases hc with z | z
      . rw [z]; exact nc b u e
      . exact nc c _ z
theorem turn_zip {P : Program} {w : World} {K : PySem.W.Frag} {es : List Expr} {kt : Nat} {tpos : Pos} {z TI TO i1 i2 l1 l2 : Addr} (D : ZipApart z TI TO i1 i2 l1 l2) :
    Turn P w K (.Tuple es kt tpos) (Itz K l1 l2) [z, TI, TO, i1, i2] z (fun i h => IsZip h z TI TO .none /\ IsPair h TI (.ref i1) (.ref i2) /\ (∃ a b, IsPair h TO a b) /\ h.IsListIter i1 l1 i /\ h.IsListIter i2 l2 i) where
  mem := by simp
  obj := fun i h st b hb => by
    obtain ⟨hz, hTI, ⟨a, c, hTO⟩, ⟨o1, e1, c1, d1⟩, ⟨o2, e2, c2, d2⟩⟩ := st
    simp only [List.mem_cons, List.mem_nil_iff, or_false] at hb
    rcases hb with rfl | rfl | rfl | rfl | rfl
    . exact ⟨_, hz, fun v q => nomatch q⟩
    . exact ⟨_, hTI, fun v q => nomatch q⟩
    . exact ⟨_, hTO, fun v q => nomatch q⟩
    . exact ⟨o1, e1, fun v q => by rw [d1] at q; cases q⟩
    . exact ⟨o2, e2, fun v q => by rw [d2] at q; cases q⟩
  keep := fun i h h' ⟨hz, hTI, ⟨a, c, hTO⟩, h1, h2⟩ k =>
    ⟨k z (by simp) _ hz, k TI (by simp) _ hTI, ⟨a, c, k TO (by simp) _ hTO⟩, h1.at fun o e => k i1 (by simp) o e, h2.at fun o e => k i2 (by simp) o e⟩
  item := by
    intro X hP hw hK hc i pins s σ H E I hf st hg
    subst hP hw hK
    obtain ⟨xs, ys, x, y, hq1, hq2, hx, hy⟩ := hg
    obtain ⟨hz, hTI, ⟨a, c, hTO⟩, h1, h2⟩ := st
    obtain ⟨its, rv, p, _⟩ := I.list hq1
    obtain ⟨its2, rv2, p2, _⟩ := I.list hq2
    obtain ⟨u, hu, ru⟩ := rv.get hx
    obtain ⟨u2, hu2, ru2⟩ := rv2.get hy
    refine wpAny_pyNext_zip_item D hz hTI hTO h1 h2 p.isList p2.isList (x := u) (y := u2) (by simpa using hu) (by simpa using hu2) fun h' z1 z2 z3 z4 z5 z6 z7 => ?_
    refine ⟨_, rfl, ?_⟩
    have z7' : ∀ b v, b ∉ [z, TO, i1, i2] -> s.heap.get? b = some v -> h'.get? b = some v := fun b v hb e => by
      simp only [List.mem_cons, List.mem_nil_iff, or_false, not_or] at hb
      exact z7 b v hb.1 hb.2.1 hb.2.2.1 hb.2.2.2 e
    have I1 : Inv X pins σ (upd H s.heap.objs.size (.tup [x, y])) { s with heap := h' } := by
      refine I.turnedNew (ch := [z, TO, i1, i2]) (fun b hb => hf b ?_) (Nat.le_refl _) z7' ?_ fun b hb => ?_
      . simp only [List.mem_cons, List.mem_nil_iff, or_false] at hb ⊢
        rcases hb with h | h | h | h <;> simp [h]
      . exact ⟨small_le (show 2 <= 1000 by decide), [u, u2], .cons ru (.cons ru2 .nil), ⟨_, z5, rfl, ⟨_, rfl⟩, rfl⟩⟩
      . simp only [List.mem_cons, List.mem_nil_iff, or_false] at hb
        rcases hb with rfl | rfl | rfl | rfl
        . exact ⟨_, z1⟩
        . exact ⟨_, z2⟩
        . obtain ⟨o, e, _⟩ := z3; exact ⟨o, e⟩
        . obtain ⟨o, e, _⟩ := z4; exact ⟨o, e⟩
    refine wpAny_letOwnedTupleGo_zip (s := { s with heap := h' }) z1 fun h'' z8 z9 => ?_
    have hfz := hf z (by simp)
    have neT : ∀ b, b ∈ [z, TI, TO, i1, i2] -> b ≠ s.heap.objs.size := fun b hb e => by
      have st' : ∃ o, s.heap.get? b = some o := by
        simp only [List.mem_cons, List.mem_nil_iff, or_false] at hb
        rcases hb with rfl | rfl | rfl | rfl | rfl
        . exact ⟨_, hz⟩
        . exact ⟨_, hTI⟩
        . exact ⟨_, hTO⟩
        . obtain ⟨o, e, _⟩ := h1; exact ⟨o, e⟩
        . obtain ⟨o, e, _⟩ := h2; exact ⟨o, e⟩
      obtain ⟨o, ho⟩ := st'
      have := Heap.lt_size ho
      rw [e] at this
      exact Nat.lt_irrefl _ this
    have hTH : ∀ b ∈ [z, TI, TO, i1, i2], upd H s.heap.objs.size (.tup [x, y]) b = none := fun b hb => by rw [upd_ne (neT b hb)]; exact (hf b hb).1
    have I2 : Inv X pins σ (upd H s.heap.objs.size (.tup [x, y])) { s with heap := h'' } :=
      I1.turned (t' := s.toks) (fun b o hb e => (z9.2 b hb).trans e) (hTH z (by simp)) hfz.2.1 hfz.2.2.2.1 hfz.2.2.2.2.1 hfz.2.2.2.2.2
    have up : ∀ b o, b ≠ z -> h'.get? b = some o -> h''.get? b = some o := fun b o hb e => (z9.2 b hb).trans e
    refine ⟨.ref s.heap.objs.size, _, I2, rfl, ⟨_, x, y, I.hok.fresh (Nat.le_refl _), rfl, rfl, fun xs' h => by rw [I.list_inj h hq1]; exact hx, fun ys' h => by rw [I.list_inj h hq2]; exact hy⟩, ⟨z8, ?_, ⟨u, u2, up _ _ D.TOz z2⟩, z3.at fun o e => up _ o D.i1z e, z4.at fun o e => up _ o D.i2z e⟩, hTH⟩
    exact up _ _ D.TIz (z7 _ _ D.TIz D.TITO D.TIi1 D.TIi2 hTI)
  done := by
    intro X hP hw hK hc i pins s σ H E I hf st hg
    subst hP hw hK
    obtain ⟨xs, ys, hq1, hq2, hl⟩ := hg
    obtain ⟨hz, hTI, ⟨a, c, hTO⟩, h1, h2⟩ := st
    obtain ⟨its, rv, p, _⟩ := I.list hq1
    obtain ⟨its2, rv2, p2, _⟩ := I.list hq2
    have e1 := rv.length
    have e2 := rv2.length
    refine wpAny_pyNext_zip_end (I.ok.hd hc) D hz hTI hTO h1 h2 p.isList p2.isList (by
      rcases hl with h | h
      . exact .inl (by simp; omega)
      . exact .inr (by simp; omega)) fun h' z7 => ⟨rfl, ?_⟩
    have nc : ∀ b u, H b = some u -> b ∉ [z, TO, i1, i2] := fun b u e q => by
      have : b ∈ [z, TI, TO, i1, i2] := by
        simp only [List.mem_cons, List.mem_nil_iff, or_false] at q ⊢
        rcases q with h | h | h | h <;> simp [h]
      rw [(hf b this).1] at e; cases e
    have z7' : ∀ b v, b ∉ [z, TO, i1, i2] -> s.heap.get? b = some v -> h'.get? b = some v := fun b v hb e => by
      simp only [List.mem_cons, List.mem_nil_iff, or_false, not_or] at hb
      exact z7 b v hb.1 hb.2.1 hb.2.2.1 hb.2.2.2 e
    refine I.step (g' := s.gens) (d' := s.drawn) (t' := s.toks) (ch := [z, TO, i1, i2]) (fun b hb => ?_) (fun b u _ _ hc e _ => z7' b u hc e) (fun b u _ _ hc e _ => ⟨u.slots, z7' b u hc e⟩) (fun b u hc e n => n) (fun b u hc e => ⟨u, z7' b u hc e⟩)
      (fun _ _ e => e) (fun _ _ _ e => e) (fun b ps e => ⟨#[], by rw [e]; simp⟩) (fun m hm => ?_) (fun b u e => ?_) I.bare
    . have : b ∈ [z, TI, TO, i1, i2] := by
        simp only [List.mem_cons, List.mem_nil_iff, or_false] at hb ⊢
        rcases hb with h | h | h | h <;> simp [h]
      obtain ⟨q1, q2, q3, q4, q5, q6⟩ := hf b this
      exact ⟨q4, q2, q5, q6⟩
    . obtain ⟨u, es, ep, ho, r⟩ := hm
      refine ⟨u, es, ep, z7' _ u (fun q => ?_) ho, r⟩
      have : X.env.locals ∈ [z, TI, TO, i1, i2] := by
        simp only [List.mem_cons, List.mem_nil_iff, or_false] at q ⊢
        rcases q with h | h | h | h <;> simp [h]
      exact (hf _ this).2.1 rfl
    . refine (I.hok b u e).stay (fun c v hc q => z7' c v ?_ q) (fun _ q => q) fun _ _ q => q
      rcases hc with h | h
      . rw [h]; exact nc b u e
      . exact nc c _ h
  self := fun _ _ _ _ _ st h => wpAny_pyIter_zip st.1 h
section
variable {X : Cx}
def iZip (K : PySem.W.Frag) (ta : TA) : TI := fun σ H R => ta σ H fun vs H1 => match vs with
  | [.ref a, .ref b] => (∃ xs, SqL K H1 a xs) /\ (∃ ys, SqL K H1 b ys) /\ R (Itz K a b) H1
  | _ => False
theorem kZip {K : PySem.W.Frag} {a b : Expr} {ta : TA} {p pos : Pos} {es : List Expr} {kt : Nat} {tpos : Pos} (hg : Gl X "zip") (hm : X.mg "zip" = none) (ha : PA X [a, b] ta)
    (hs : starEach [a, b] X.env = [(false, eval a X.env), (false, eval b X.env)] := by rfl) (hs2 : starEach [b] X.env = [(false, eval b X.env)] := by rfl) (hK : X.K = K := by rfl) :
    PI X (.Tuple es kt tpos) (.Call (.Name "zip" p) [a, b] [] pos) (iZip K ta) := by
  subst hK
  intro pins s σ H R I h
  refine Call_ (ld_blt I hg hm (by rfl : bootBuiltins "zip" = some (.type "zip")) (PyProof.Rows.callWith_type1 (thn (ha pos pins s σ H _ I h) fun us s1 ⟨vs, H1, I1, r1, q1⟩ => ?_) (by rw [hs, hs2]) (by rw [hs2]; rfl)))
  match vs, q1, r1 with
  | [.ref l1, .ref l2], ⟨⟨xs, hx⟩, ⟨ys, hy⟩, q⟩, r1 =>
  cases r1 with
  | cons r rr =>
  cases rr with
  | cons r' rr =>
  cases rr
  cases r
  cases r'
  obtain ⟨its, rv, p1, _⟩ := I1.list hx
  obtain ⟨its2, rv2, p2, _⟩ := I1.list hy
  obtain ⟨o1, n1, g1, _⟩ := id p1
  obtain ⟨o2, n2, g2, _⟩ := id p2
  have lt1 := Heap.lt_size g1
  have lt2 := Heap.lt_size g2
  refine call_zip_2 p1.isList p2.isList fun h' z1 z2 z3 z4 z5 z6 z7 => ?_
  refine wpAny_pyIter_zip (s := { s1 with heap := h' }) z1 ?_
  have I2 : Inv X pins σ H1 { s1 with heap := h' } := I1.kept (t' := s1.toks) z7
  refine ⟨_, _, _, _, H1, rfl, I2, turn_zip (i1 := s1.heap.objs.size) (i2 := s1.heap.objs.size + 1) (l1 := l1) (l2 := l2) (PyProof.Rows.zipApart_new lt1 lt2), ⟨z1, z2, ⟨_, _, z3⟩, z4, z5⟩, fun b hb => ?_, q⟩
  refine I1.fpOk ?_ ?_
  . simp only [List.mem_cons, List.mem_nil_iff, or_false] at hb
    rcases hb with rfl | rfl | rfl | rfl | rfl
    . exact Nat.le_add_right _ _
    . exact Nat.le_add_right _ _
    . exact Nat.le_add_right _ _
    . exact Nat.le_refl _
    . exact Nat.le_add_right _ _
  . refine I1.hok.fresh ?_
    simp only [List.mem_cons, List.mem_nil_iff, or_false] at hb
    rcases hb with rfl | rfl | rfl | rfl | rfl
    . exact Nat.le_add_right _ _
    . exact Nat.le_add_right _ _
    . exact Nat.le_add_right _ _
    . exact Nat.le_refl _
    . exact Nat.le_add_right _ _
theorem im_zip {K : PySem.W.Frag} {ta : TA} (h : AMono ta) : IMono (iZip K ta) := fun σ H Q Q' k q => h _ _ _ _ (fun vs _ q => by
  match vs, q with
  | [.ref a, .ref b], ⟨h1, h2, q⟩ => exact ⟨h1, h2, k _ _ q⟩) q
theorem comp_zip {K : PySem.W.Frag} {l1 l2 : Addr} {xs ys : List V} {g : TG} {tc : TT} {te : TE} {σc : St} {Q : VK} {H : Hp} (Pv : Nat -> List V -> Hp -> Prop) (h0 : Pv 0 [] H) (hlen : xs.length = ys.length) (hl : ∀ i zs H, i <= xs.length -> Pv i zs H -> SqL K H l1 xs /\ SqL K H l2 ys) (hz : ∀ i zs H, i < xs.length -> Pv i zs H -> zs.length < sizeLine)
    (hs : ∀ i x y zs H p, xs[i]? = some x -> ys[i]? = some y -> Pv i zs H -> H p = none -> g (.ref p) σc (upd H p (.tup [x, y])) fun σ2 H2 => tc σ2 H2 fun b H3 => if b = true then te σ2 H3 fun v H4 => Pv (i + 1) (zs ++ [v]) H4 else Pv (i + 1) zs H3)
    (hd : ∀ zs H, Pv xs.length zs H -> ∀ p, H p = none -> Q (.ref p) (upd H p (.lst zs))) : CompTurns (Itz K l1 l2) g tc te σc Q H := by
  refine ⟨fun i m zs H => m = xs.length - i /\ i <= xs.length /\ Pv i zs H, ⟨xs.length, by simp, Nat.zero_le _, h0⟩, ?_⟩
  rintro i m zs H ⟨rfl, hi, p⟩
  obtain ⟨q1, q2⟩ := hl i zs H hi p
  by_cases hlt : i < xs.length
  . refine .inr ⟨⟨xs, ys, xs[i], ys[i], q1, q2, by simp [hlt], List.getElem?_eq_getElem (by omega)⟩, hz i zs H hlt p, Pv (i + 1), fun zs' H' p' => ⟨xs.length - (i + 1), by omega, rfl, hlt, p'⟩, ?_⟩
    rintro v H' ⟨pp, x, y, hp, rfl, rfl, k1, k2⟩
    exact hs i x y zs H pp (k1 xs q1) (k2 ys q2) p hp
  . have e : i = xs.length := by omega
    subst e
    exact .inl ⟨⟨xs, ys, q1, q2, .inl (Nat.le_refl _)⟩, hd zs H p⟩
end
section
variable {X : Cx} {K : PySem.W.Frag} {o e : Expr} {es : List Expr} {to : TE} {t : TA} {apos cpos : Pos}
def mAppend : V -> List V -> Hp -> VK -> Prop := fun x vs H Q => match x, vs with
  | .ref l, [y] => ∃ xs, H l = some (.lst xs) /\ xs.length < sizeLine /\ Q .non (upd H l (.lst (xs ++ [y])))
  | _, _ => False
theorem mm_append : MtR X "list.append" mAppend := by
  intro pins s σ H x vs v us Q I rx rv q
  match x, vs, q with
  | .ref l, [y], ⟨xs, h1, h2, q⟩ => exact mt_append pins s σ H _ _ v us Q I rx rv ⟨l, xs, y, rfl, rfl, h1, h2, q⟩
theorem kAppend (ho : PE X o to) (ha : PA X [e] t) (hbase : attributeBase o "append" X.env (eval o X.env) = eval o X.env := by rfl)
    (hfew : ((backTo cpos (starEach [e] X.env)).all (fun x => !x.1) && (backToKw cpos (keywordEach [] X.env)).all (fun x => x.1.isSome)
      && decide ([e].length + ([] : List Keyword).length + (if ([] : List Keyword).isEmpty then 0 else 1) < 30)) = true := by rfl)
    (hline : (apos.endLine == cpos.line) = true := by rfl) (hs : starEach [e] X.env = (false, eval e X.env) :: starEach [] X.env := by rfl) (hplain : (backTo cpos (starEach [] X.env)).any (·.1) = false := by rfl) (hK : X.K = K := by rfl) :
    PE X (.Call (.Attribute o "append" apos) [e] [] cpos) (tBM K "list" mAppend to t) := hK ▸ pe_bm PySem.F.plainAttrs_list PySem.F.slot_list_append PySem.F.type_list_append mm_append ho ha hbase hfew hline hs hplain
def mCount (K : PySem.W.Frag) : V -> List V -> Hp -> VK -> Prop := fun x vs H Q => match x, vs with
  | .ref l, [y] => ∃ xs, SqL K H l xs /\ flatV y = true /\ xs.all flatV = true /\ Q (.int (xs.countP fun v => eqV v y : Nat)) H
  | _, _ => False
theorem countP_eqU {y : V} : ∀ {xs : List V} {us : List Value}, Vals xs us -> xs.all flatV = true -> us.countP (eqU y) = xs.countP fun v => eqV v y
  | _, _, .nil, _ => rfl
  | x :: xs, u :: us, .cons r t, f => by
    rw [List.all_cons, Bool.and_eq_true] at f
    rw [List.countP_cons, List.countP_cons, eqU_of r f.1, countP_eqU t f.2]
theorem mm_count : MtR X "list.count" (mCount X.K) := by
  intro pins s σ H x vs v us Q I rx rv q
  match x, vs, q with
  | .ref l, [y], ⟨xs, h1, h2, h3, q⟩ =>
  cases rx
  obtain ⟨u, rfl, ru⟩ := rv.one
  obtain ⟨its, r, pl, hz⟩ := I.list h1
  obtain ⟨⟨cls, dd, data, sl⟩, n, ho, hc, hd, hs⟩ := id pl
  simp only at hc hs
  subst hc hs
  refine call_meets F.slot_list_count ⟨_, ho, rfl⟩ F.entry_list_count (F.args_list_count_2 _ _) (SeqAt.list_countAt l its.toArray n dd sl u (eqU y)) ⟨ho, fun w hw => mem_eqAt ru h2 r h3 w (by simpa using hw), ?_⟩
  refine ⟨.int _, H, I.tok _, ⟨_, rfl⟩, ?_⟩
  have e : its.toArray.toList.countP (eqU y) = xs.countP fun v => eqV v y := by rw [show its.toArray.toList = its by simp]; exact countP_eqU r h3
  rw [e]
  exact q
theorem kCount (ho : PE X o to) (ha : PA X [e] t) (hbase : attributeBase o "count" X.env (eval o X.env) = eval o X.env := by rfl)
    (hfew : ((backTo cpos (starEach [e] X.env)).all (fun x => !x.1) && (backToKw cpos (keywordEach [] X.env)).all (fun x => x.1.isSome)
      && decide ([e].length + ([] : List Keyword).length + (if ([] : List Keyword).isEmpty then 0 else 1) < 30)) = true := by rfl)
    (hline : (apos.endLine == cpos.line) = true := by rfl) (hs : starEach [e] X.env = (false, eval e X.env) :: starEach [] X.env := by rfl) (hplain : (backTo cpos (starEach [] X.env)).any (·.1) = false := by rfl) (hK : X.K = K := by rfl) :
    PE X (.Call (.Attribute o "count" apos) [e] [] cpos) (tBM K "list" (mCount K) to t) := hK ▸ pe_bm PySem.F.plainAttrs_list PySem.F.slot_list_count PySem.F.type_list_count mm_count ho ha hbase hfew hline hs hplain
def mIndex (K : PySem.W.Frag) : V -> List V -> Hp -> VK -> Prop := fun x vs H Q => match x, vs with
  | .ref l, [y] => ∃ (xs : List V) (j : Nat) (z : V), SqL K H l xs /\ flatV y = true /\ xs.all flatV = true /\ xs[j]? = some z /\ eqV z y = true /\ (∀ (m : Nat) (v : V), m < j -> xs[m]? = some v -> eqV v y = false) /\ Q (.int j) H
  | _, _ => False
theorem mm_index : MtR X "list.index" (mIndex X.K) := by
  intro pins s σ H x vs v us Q I rx rv q
  match x, vs, q with
  | .ref l, [y], ⟨xs, j, z, h1, h2, h3, h4, h5, h6, q⟩ =>
  cases rx
  obtain ⟨u, rfl, ru⟩ := rv.one
  obtain ⟨its, r, pl, hz⟩ := I.list h1
  obtain ⟨⟨cls, dd, data, sl⟩, n, ho, hc, hd, hs⟩ := id pl
  simp only at hc hs
  subst hc hs
  have hj : j < xs.length := (List.getElem?_eq_some_iff.mp h4).1
  have hlen := r.length
  have flat : ∀ (m : Nat) (v : V), xs[m]? = some v -> flatV v = true := fun m v e => List.all_eq_true.mp h3 v (List.mem_of_getElem? e)
  have val : ∀ (m : Nat) (hm : m < its.toArray.size) (v : V), xs[m]? = some v -> eqU y its.toArray[m] = eqV v y := fun m hm v e => by
    obtain ⟨w', q1, q2⟩ := r.get e
    have e2 : its.toArray[m] = w' := by
      rw [List.getElem_toArray]
      rw [List.getElem?_eq_getElem (by simpa using hm)] at q1
      exact Option.some.inj q1
    rw [e2]
    exact eqU_of q2 (flat m v e)
  have line := line63
  refine call_meets F.slot_list_index ⟨_, ho, rfl⟩ F.entry_list_index (F.args_list_index_2 _ _) (SeqAt.list_indexAt l its.toArray n dd sl u (eqU y) j (by simp; omega) (by omega) ?_ ?_) ⟨ho, fun w hw => mem_eqAt ru h2 r h3 w (by simpa using hw), ?_⟩
  . rw [val j (by simp; omega) z h4]; exact h5
  . intro m hm hmj
    have : m < xs.length := by simp at hm; omega
    rw [val m hm _ (List.getElem?_eq_getElem this)]
    exact h6 m _ hmj (List.getElem?_eq_getElem this)
  . exact ⟨.int _, H, I.tok _, ⟨_, rfl⟩, q⟩
theorem kIndex (ho : PE X o to) (ha : PA X [e] t) (hbase : attributeBase o "index" X.env (eval o X.env) = eval o X.env := by rfl)
    (hfew : ((backTo cpos (starEach [e] X.env)).all (fun x => !x.1) && (backToKw cpos (keywordEach [] X.env)).all (fun x => x.1.isSome)
      && decide ([e].length + ([] : List Keyword).length + (if ([] : List Keyword).isEmpty then 0 else 1) < 30)) = true := by rfl)
    (hline : (apos.endLine == cpos.line) = true := by rfl) (hs : starEach [e] X.env = (false, eval e X.env) :: starEach [] X.env := by rfl) (hplain : (backTo cpos (starEach [] X.env)).any (·.1) = false := by rfl) (hK : X.K = K := by rfl) :
    PE X (.Call (.Attribute o "index" apos) [e] [] cpos) (tBM K "list" (mIndex K) to t) := hK ▸ pe_bm PySem.F.plainAttrs_list PySem.F.slot_list_index PySem.F.type_list_index mm_index ho ha hbase hfew hline hs hplain
theorem em_bm {T : String} {r : V -> List V -> Hp -> VK -> Prop} (h1 : EMono to) (h2 : AMono t) (h3 : BMono r) : EMono (tBM K T r to t) := fun σ H Q Q' h q => h1 _ _ _ _ (fun _ _ q => ⟨q.1, h2 _ _ _ _ (fun _ _ q => h3 _ _ _ _ _ h q) q.2⟩) q
theorem bm_append : BMono mAppend := fun x xs H Q Q' h q => by
  unfold mAppend at *
  split at q
  . obtain ⟨ys, a, b, q⟩ := q; exact ⟨ys, a, b, h _ _ q⟩
  . exact q.elim
def mAll (K : PySem.W.Frag) : List V -> Hp -> VK -> Prop := fun xs H Q => match xs with
  | [.ref l] => ∃ bs : List Bool, SqL K H l (bs.map V.bl) /\ Q (.bl (bs.all id)) H
  | _ => False
theorem cm_all (hc : X.calm = true) : CallR X (.builtin "all") (mAll X.K) := by
  intro pins s σ H xs us Q I r q
  match xs, q with
  | [.ref l], q =>
  obtain ⟨bs, hl, q⟩ := q
  obtain ⟨u, rfl, ru⟩ := vals1 r
  cases ru
  obtain ⟨its, rv, pl, hz⟩ := I.list hl
  have hlen := rv.length
  rw [List.length_map] at hlen
  obtain ⟨o1, n1, g1, _⟩ := id pl
  have hlt := Heap.lt_size g1
  refine call_all_walk (wpAny_pyIter_list pl.isList ?_)
  have hne : l ≠ s.heap.objs.size := Nat.ne_of_lt hlt
  refine ⟨_, _, _, _, _, _, fun i => bs.getD i false, rfl, Walks.list (A := X.A.in1) (I.ok.hd hc) s.heap.objs.size l hne its.toArray, ?_, ?_, fun h' tk hk => ?_⟩
  . exact ⟨⟨_, Heap.get?_push_size _ rfl, rfl, rfl⟩, (show s.heap.IsList l its.toArray from pl.isList).at fun o e => Heap.get?_push_of_some _ e⟩
  . intro i v s' Q' E' hv hq
    have hv : its.toArray[i]? = some v := hv
    have hi : i < its.length := by
      have := (Array.getElem?_eq_some_iff.mp hv).1
      simpa using this
    have hb : (bs.map V.bl)[i]? = some (.bl bs[i]) := by rw [List.getElem?_map, List.getElem?_eq_getElem (by omega)]; rfl
    obtain ⟨w', q1, q2⟩ := rv.get hb
    have e : v = w' := by simp at hv; rw [q1] at hv; exact (Option.some.inj hv).symm
    subst e
    cases q2
    refine wpAny_truthy_bool ?_
    have e2 : bs.getD i false = bs[i] := by rw [List.getD_eq_getElem?_getD, List.getElem?_eq_getElem (by omega)]; rfl
    have hq : Q' (bs.getD i false) s' := hq
    rw [e2] at hq
    exact hq
  . refine ⟨.bl _, H, I.kept (fun b o e => hk b o ?_ (Heap.get?_push_of_some _ e)), rfl, ?_⟩
    . simp only [List.mem_singleton]
      exact Nat.ne_of_lt (Heap.lt_size e)
    . have e : (List.range its.toArray.size).all (fun i => bs.getD i false) = bs.all id := by
        rw [List.size_toArray, <- hlen]
        rw [Bool.eq_iff_iff, List.all_eq_true, List.all_eq_true]
        constructor
        . intro h b hb
          obtain ⟨i, hi, rfl⟩ := List.mem_iff_getElem.mp hb
          have := h i (List.mem_range.mpr hi)
          rw [List.getD_eq_getElem?_getD, List.getElem?_eq_getElem hi] at this
          exact this
        . intro h i hi
          have hi' := List.mem_range.mp hi
          rw [List.getD_eq_getElem?_getD, List.getElem?_eq_getElem hi']
          exact h _ (List.getElem_mem hi')
      rw [e]
      exact q
theorem kAll (hc : X.calm = true) (hK : X.K = K := by rfl) : CallR X (.builtin "all") (mAll K) := hK ▸ cm_all hc
end
section
variable {prog : Program} {w : World} {A : Around} {E : Value -> Shared -> Prop} {s : Shared}
theorem draw_list {it t : Addr} {items : Array Value} (hne : t ≠ it) : ∀ (n i : Nat) (s : Shared) (Q : List Value -> Shared -> Prop), s.heap.IsListIter it t i -> s.heap.IsList t items -> i + n <= items.size ->
    (∀ h', h'.IsListIter it t (i + n) -> Heap.SameBut it s.heap h' -> Q ((items.toList.drop i).take n) { s with heap := h' }) -> wpAny (model prog w) A (draw (.ref it) n) Q E s
  | 0, i, s, Q, hit, _, _, hQ => by
    show wpAny _ _ (pure []) Q E s
    exact wpAny_pure (by simpa using hQ s.heap hit (Heap.SameBut.refl ..))
  | n + 1, i, s, Q, hit, ht, hle, hQ => by
    have hlt : i < items.size := by omega
    show wpAny _ _ (pyNext (.ref it) >>= _) Q E s
    refine wpAny_bind (wpAny_pyNext_list_item hit ht (x := items[i]) (by simp [hlt]) fun h₁ hit₁ hs₁ => ?_)
    refine wpAny_bind (wpAny_holding (draw_list hne n (i + 1) _ _ hit₁ (ht.extBut hs₁.extBut hne) (by omega) fun h₂ hit₂ hs₂ => wpAny_pure ?_))
    have hd : items.toList.drop i = items[i] :: items.toList.drop (i + 1) := by simp [List.drop_eq_getElem_cons, hlt]
    have := hQ h₂ (by rw [show i + (n + 1) = i + 1 + n by omega]; exact hit₂) (hs₁.trans hs₂)
    rw [hd, List.take_succ_cons] at this
    exact this
theorem unpackItems_list {t : Addr} {items : Array Value} {Q : List Value -> Shared -> Prop} (hh : A.handled = none) (ht : s.heap.IsList t items)
    (hQ : ∀ h', Heap.ExtBut s.heap.objs.size s.heap h' -> Q items.toList { s with heap := h' }) : wpAny (model prog w) A (unpackItems (.ref t) items.size none) Q E s := by
  have hlt : t ≠ s.heap.objs.size := by obtain ⟨o, ho, _⟩ := ht; exact Nat.ne_of_lt (Heap.lt_size ho)
  unfold unpackItems
  refine wpAny_bind ?_
  . unfold notIterableAtAll
    refine wpAny_bind (wpAny_specialOf ht.typeIs slot_list_iter.lookup ?_)
    refine wpAny_pure ?_
    simp only [Bool.false_eq_true, if_false]
    refine wpAny_bind (wpAny_holding (wpAny_pyIter_list ht ?_))
    refine wpAny_bind (wpAny_holding (draw_list hlt items.size 0 _ _ ⟨_, Heap.get?_push_size _ rfl, rfl, rfl⟩ (ht.at fun o e => Heap.get?_push_of_some _ e) (by omega) fun h₁ hit₁ hs₁ => ?_))
    have hall : List.take items.size (List.drop 0 items.toList) = items.toList := by
      rw [List.drop_zero]; exact List.take_of_length_le (by simp)
    rw [hall]
    rw [if_neg (by simp)]
    have ht₁ : h₁.IsList t items := (Heap.IsList.at ht fun o e => Heap.get?_push_of_some _ e).extBut hs₁.extBut hlt
    refine wpAny_bind (wpAny_holding (wpAny_pyNext_list_end hh hit₁ ht₁ (by simp) fun h₂ he₂ => ?_))
    simp only [Option.isSome_none, Bool.false_eq_true, if_false]
    refine wpAny_pure (hQ h₂ fun b o hb e => he₂ b o hb (hs₁.extBut b o hb (Heap.get?_push_of_some _ e)))
theorem assign_Tuple_list {env : Env} {elts : List Expr} {x1} {pos : Pos} {t : Addr} {items : Array Value} {Q : Unit -> Shared -> Prop} (hh : A.handled = none) (ht : s.heap.IsList t items)
    (hn : (assignEach elts env).length = items.size) (hstar : (assignEach elts env).findIdx? (·.1) = none)
    (h : ∀ h', Heap.ExtBut s.heap.objs.size s.heap h' -> wpAny (model prog w) A (assignInOrder ((assignEach elts env).map (·.2)) items.toList) Q E { s with heap := h' }) :
    wpAny (model prog w) A (assign (.Tuple elts x1 pos) env (.ref t)) Q E s := by
  rw [assign_Tuple]
  refine wpAny_bind (wpAny_standAt ?_)
  unfold unpack
  rw [hn, hstar]
  exact wpAny_bind (wpAny_holding (unpackItems_list hh ht h))
end
section
variable {X : Cx} {K : PySem.W.Frag} {pos p2 : Pos} {e : Expr} {lo hi : Option Expr} {te : TE} {tl th : TO}
def gSeqs (K : PySem.W.Frag) (n : Nat) (t : TGs) : TG := fun v σ H Q => match v with
  | .ref a => ∃ xs, SqA K H a xs /\ xs.length = n /\ t xs σ H Q
  | _ => False
theorem kTupA {es : List Expr} {k : Nat} {t : TGs} {n : Nat} (hc : X.calm = true) (h : PGs X es t)
    (hn : (assignEach es X.env).length = n := by rfl) (hst : (assignEach es X.env).findIdx? (·.1) = none := by rfl) (hK : X.K = K := by rfl) : PG X (.Tuple es k pos) (gSeqs K n t) := by
  subst hK
  intro pins s σ H v u Q I r hw
  cases v with
  | ref a =>
    obtain ⟨xs, hq | hq, hl, hw⟩ := hw
    . cases r
      obtain ⟨its, rv, ht, hz⟩ := I.list hq
      refine assign_Tuple_list (I.ok.hd hc) ht.isList (by simp [hn, <- hl, rv.length]) hst fun h' hx => ?_
      have I1 : Inv X pins σ H { s with heap := h' } := I.kept (t' := s.toks) fun b o e => hx b o (Nat.ne_of_lt (Heap.lt_size e)) e
      exact h pins _ σ H xs _ Q I1 (by simpa using rv) hw
    . exact pg_tup hc h hn hst pins s σ H _ u Q I r ⟨a, xs, rfl, hq, hl, hw⟩
  | _ => exact False.elim hw
theorem gm_seqs {n : Nat} {t : TGs} (h : GsMono t) : GMono (gSeqs K n t) := fun v _ _ _ _ k q => by
  cases v <;> first | exact False.elim q | (obtain ⟨xs, s, l, q⟩ := q; exact ⟨xs, s, l, h _ _ _ _ _ k q⟩)
end
theorem sqT_same {K : PySem.W.Frag} {H H' : Hp} {a : Addr} {xs : List V} (h : SqT K H a xs) (s : Same H H') : SqT K H' a xs := sqT_stay h fun o e => s a o e
mutual
theorem Rep.same {K : PySem.W.Frag} {H H' : Hp} (s : Same H H') : ∀ (d : Dv) (v : V), Rep K H d v -> Rep K H' d v
  | .non, v, h => by unfold Rep at *; exact h
  | .bl b, v, h => by unfold Rep at *; exact h
  | .int i, v, h => by unfold Rep at *; exact h
  | .str x, v, h => by unfold Rep at *; exact h
  | .tup ds, v, h => by
    unfold Rep at *
    obtain ⟨a, xs, e, h1, h2⟩ := h
    exact ⟨a, xs, e, sqT_same h1 s, Reps.same s ds xs h2⟩
  | .lst ds, v, h => by
    unfold Rep at *
    obtain ⟨a, xs, e, h1, h2⟩ := h
    exact ⟨a, xs, e, sqL_stay h1 fun o e => s a o e, Reps.same s ds xs h2⟩
theorem Reps.same {K : PySem.W.Frag} {H H' : Hp} (s : Same H H') : ∀ (ds : List Dv) (xs : List V), Reps K H ds xs -> Reps K H' ds xs
  | [], xs, h => by unfold Reps at *; exact h
  | d :: ds, xs, h => by
    unfold Reps at *
    obtain ⟨x, r, e, h1, h2⟩ := h
    exact ⟨x, r, e, Rep.same s d x h1, Reps.same s ds r h2⟩
end
mutual
def tupOnly : Dv -> Bool
  | .tup ds => tupsOnly ds
  | .lst _ => false
  | _ => true
def tupsOnly : List Dv -> Bool
  | [] => true
  | d :: ds => tupOnly d && tupsOnly ds
end
mutual
theorem Rep.frm {K : PySem.W.Frag} {H H' : Hp} {t : Addr} (s : Frm t H H') (ht : ∃ zs, H t = some (.lst zs)) : ∀ (d : Dv) (v : V), tupOnly d = true -> Rep K H d v -> Rep K H' d v
  | .non, v, _, h => by unfold Rep at *; exact h
  | .bl b, v, _, h => by unfold Rep at *; exact h
  | .int i, v, _, h => by unfold Rep at *; exact h
  | .str x, v, _, h => by unfold Rep at *; exact h
  | .tup ds, v, hd, h => by
    unfold tupOnly at hd
    unfold Rep at *
    obtain ⟨a, xs, e, h1, h2⟩ := h
    refine ⟨a, xs, e, ?_, Reps.frm s ht ds xs hd h2⟩
    obtain ⟨zs, hz⟩ := ht
    rcases h1 with (h1 | ⟨o, h1⟩) | h1
    . exact .inl (.inl (s a _ (fun q => by rw [q, hz] at h1; cases h1) h1))
    . exact .inl (.inr ⟨o, s a _ (fun q => by rw [q, hz] at h1; cases h1) h1⟩)
    . exact .inr h1
  | .lst ds, v, hd, h => by unfold tupOnly at hd; cases hd
theorem Reps.frm {K : PySem.W.Frag} {H H' : Hp} {t : Addr} (s : Frm t H H') (ht : ∃ zs, H t = some (.lst zs)) : ∀ (ds : List Dv) (xs : List V), tupsOnly ds = true -> Reps K H ds xs -> Reps K H' ds xs
  | [], xs, _, h => by unfold Reps at *; exact h
  | d :: ds, xs, hd, h => by
    unfold tupsOnly at hd
    rw [Bool.and_eq_true] at hd
    unfold Reps at *
    obtain ⟨x, r, e, h1, h2⟩ := h
    exact ⟨x, r, e, Rep.frm s ht d x hd.1 h1, Reps.frm s ht ds r hd.2 h2⟩
end
theorem Tape.lst {K : PySem.W.Frag} {H : Hp} {t a : Addr} {ns : List Int} (T : Tape K H t a ns) : ∃ zs, H t = some (.lst zs) := by
  obtain ⟨i, r, c, _, _, h⟩ := T.at_
  exact ⟨_, h⟩
theorem rep_tup1 {K : PySem.W.Frag} {H : Hp} {p : Addr} {xs : List V} {ds : List Dv} (h : H p = some (.tup xs)) (r : Reps K H ds xs) : Rep K H (.tup ds) (.ref p) := by unfold Rep; exact ⟨p, xs, rfl, .of h, r⟩
theorem reps_nil {K : PySem.W.Frag} {H : Hp} : Reps K H [] [] := by unfold Reps; rfl
theorem reps_cons {K : PySem.W.Frag} {H : Hp} {d : Dv} {ds : List Dv} {x : V} {xs : List V} (h : Rep K H d x) (r : Reps K H ds xs) : Reps K H (d :: ds) (x :: xs) := by unfold Reps; exact ⟨x, xs, rfl, h, r⟩
theorem rep_int {K : PySem.W.Frag} {H : Hp} {x : Int} : Rep K H (.int x) (.int x) := by unfold Rep; rfl
theorem Reps.append {K : PySem.W.Frag} {H : Hp} : ∀ {ds es : List Dv} {xs ys : List V}, Reps K H ds xs -> Reps K H es ys -> Reps K H (ds ++ es) (xs ++ ys)
  | [], es, xs, ys, h, h' => by unfold Reps at h; subst h; exact h'
  | d :: ds, es, xs, ys, h, h' => by
    unfold Reps at h
    obtain ⟨x, r, rfl, h1, h2⟩ := h
    exact reps_cons h1 (Reps.append h2 h')
section
variable {κ : Type} [DecidableEq κ]
def valV (kvs : List (κ × V)) (k : κ) : Option V := (kvs.find? fun kv => decide (kv.1 = k)).map (·.2)
def putK (kvs : List (κ × V)) (k : κ) (v : V) : List (κ × V) :=
  if (kvs.any fun kv => decide (kv.1 = k)) = true then kvs.map (fun kv => if kv.1 = k then (kv.1, v) else kv) else kvs ++ [(k, v)]
theorem valV_pos {p : κ × V} {r : List (κ × V)} {k : κ} (e : p.1 = k) : valV (p :: r) k = some p.2 := by simp [valV, List.find?_cons, e]
theorem valV_neg {p : κ × V} {r : List (κ × V)} {k : κ} (e : ¬ p.1 = k) : valV (p :: r) k = valV r k := by simp [valV, List.find?_cons, e]
theorem valV_any (k : κ) : ∀ kvs : List (κ × V), (kvs.any fun kv => decide (kv.1 = k)) = (valV kvs k).isSome
  | [] => rfl
  | p :: r => by
    rw [List.any_cons]
    by_cases e : p.1 = k
    . simp only [valV_pos e, decide_eq_true e, Bool.true_or, Option.isSome_some]
    . rw [valV_neg e, decide_eq_false e, Bool.false_or]; exact valV_any k r
theorem length_putK (kvs : List (κ × V)) (k : κ) (v : V) : (putK kvs k v).length <= kvs.length + 1 := by
  unfold putK
  split
  . rw [List.length_map]; omega
  . rw [List.length_append, List.length_cons, List.length_nil]; omega
theorem RelO.isSome_eq {o : Option V} {u : Option Value} (r : RelO o u) : o.isSome = u.isSome := by
  cases o with
  | none => cases u with
    | none => rfl
    | some _ => exact (show False from r).elim
  | some _ => cases u with
    | none => exact (show False from r).elim
    | some _ => rfl
theorem KV.any {kvs : List (κ × V)} {vs : List (κ × Value)} (r : KV kvs vs) (k : κ) : (kvs.any fun kv => decide (kv.1 = k)) = vs.any fun kv => decide (kv.1 = k) := by
  unfold KV at r
  induction r with
  | nil => rfl
  | cons h t ih => rw [List.any_cons, List.any_cons, ih, h.1]
theorem KV.repl {kvs : List (κ × V)} {vs : List (κ × Value)} (r : KV kvs vs) (k : κ) {y : V} {u : Value} (ry : RelV y u) :
    KV (kvs.map fun kv => if kv.1 = k then (kv.1, y) else kv) (vs.map fun kv => if kv.1 = k then (kv.1, u) else kv) := by
  unfold KV at r ⊢
  induction r with
  | nil => exact .nil
  | @cons p q ps qs h t ih =>
    rw [List.map_cons, List.map_cons]
    refine .cons ?_ ih
    obtain ⟨h1, h2⟩ := h
    by_cases e : p.1 = k
    . rw [if_pos e, if_pos (h1.symm.trans e)]; exact ⟨h1, ry⟩
    . rw [if_neg e, if_neg (fun z => e (h1.trans z))]; exact ⟨h1, h2⟩
theorem KV.put {kvs : List (κ × V)} {vs : List (κ × Value)} (r : KV kvs vs) (k : κ) {y : V} {u : Value} (ry : RelV y u) : KV (putK kvs k y) (stored vs k u) := by
  unfold putK stored
  rw [r.any k]
  by_cases e : (vs.any fun kv => decide (kv.1 = k)) = true
  . rw [if_pos e, if_pos e]; exact r.repl k ry
  . rw [if_neg e, if_neg e]; exact Paired.snoc r ⟨rfl, ry⟩
theorem KV.length {kvs : List (κ × V)} {vs : List (κ × Value)} (r : KV kvs vs) : kvs.length = vs.length := Paired.length r
end
theorem kV_is {P : Program} {w : World} {k : Key} {u : Value} (r : RelV (kV k) u) : (mixKind P w).is k u = true := by
  cases k with
  | inl i => obtain ⟨t, e⟩ := (show ∃ t, u = Value.int i t from r); subst e; exact mixKind_int P w i t
  | inr x => obtain ⟨t, e⟩ := (show ∃ t, u = Value.str x t from r); subst e; exact mixKind_str P w x t
theorem items_are {P : Program} {w : World} : ∀ {ks : List Key} {us : List Value}, Vals (ks.map kV) us -> ItemsAre (mixKind P w) ks us
  | [], _, r => by rw [List.map_nil] at r; cases r; exact .nil
  | k :: ks, _, r => by
    rw [List.map_cons] at r
    cases r with
    | cons h t => exact .cons (kV_is h) (items_are t)
abbrev KT (H : Hp) : List (List Key × V) -> List (List Key × Addr × Value) -> Prop := Paired fun p q => p.1 = q.1 /\ H q.2.1 = some (.tup (p.1.map kV)) /\ RelV p.2 q.2.2
theorem KT.val {H : Hp} {kvs : List (List Key × V)} {xs : List (List Key × Addr × Value)} (r : KT H kvs xs) (k : List Key) : RelO (valV kvs k) ((atKey xs k).map (·.2)) := by
  induction r with
  | nil => exact True.intro
  | @cons p q ps qs h t ih =>
    obtain ⟨h1, _, h2⟩ := h
    by_cases e : p.1 = k
    . have e' : q.1 = k := h1.symm.trans e
      have b : atKey (q :: qs) k = some q.2 := by simp [atKey, List.find?_cons, e']
      rw [valV_pos e, b]; exact h2
    . have e' : ¬ q.1 = k := fun z => e (h1.trans z)
      have b : atKey (q :: qs) k = atKey qs k := by simp [atKey, List.find?_cons, e']
      rw [valV_neg e, b]; exact ih
theorem KT.repl {H : Hp} {kvs : List (List Key × V)} {xs : List (List Key × Addr × Value)} (r : KT H kvs xs) (k : List Key) {y : V} {u : Value} (ry : RelV y u) :
    KT H (kvs.map fun kv => if kv.1 = k then (kv.1, y) else kv) (xs.map (putAt k u)) := by
  induction r with
  | nil => exact .nil
  | @cons p q ps qs h t ih =>
    rw [List.map_cons, List.map_cons]
    refine .cons ?_ ih
    obtain ⟨h1, h2, h3⟩ := h
    unfold putAt
    by_cases e : p.1 = k
    . rw [if_pos e, if_pos (h1.symm.trans e)]; exact ⟨h1, h2, ry⟩
    . rw [if_neg e, if_neg (fun z => e (h1.trans z))]; exact ⟨h1, h2, h3⟩
theorem KT.put {H : Hp} {kvs : List (List Key × V)} {xs : List (List Key × Addr × Value)} (r : KT H kvs xs) (k : List Key) {b : Addr} {y : V} {u : Value} (hb : H b = some (.tup (k.map kV))) (ry : RelV y u) :
    KT H (putK kvs k y) (storedH xs k b u) := by
  have e : (kvs.any fun kv => decide (kv.1 = k)) = (atKey xs k).isSome := by
    rw [valV_any, (r.val k).isSome_eq, Option.isSome_map]
  unfold putK storedH
  rw [e]
  by_cases q : (atKey xs k).isSome = true
  . rw [if_pos q, if_pos q]; exact r.repl k ry
  . rw [if_neg q, if_neg q]; exact Paired.snoc r ⟨rfl, hb, ry⟩
theorem KT.keeps {H H' : Hp} {kvs : List (List Key × V)} {xs : List (List Key × Addr × Value)} (r : KT H kvs xs) (ht : ∀ b ys, H b = some (.tup ys) -> H' b = some (.tup ys)) : KT H' kvs xs :=
  Paired.mapP r fun _ _ z => ⟨z.1, ht _ _ z.2.1, z.2.2⟩
section
variable {P : Program} {w : World} {H : Hp} {h : Heap} {a : Addr}
theorem rd_of {u : HO} (ok : HOk P w H h) (e : Rd H a u) : ObjOk P w H h a u := e.ok ok
theorem dk_rd {kvs : List (Key × V)} (ok : HOk P w H h) (e : Rd H a (.dK kvs)) : kvs.length <= sizeLine /\ (a == sysModules) = false /\ ∃ vs, KV kvs vs /\ h.DictOf (mixKind P w) a vs :=
  show ObjOk P w H h a (.dK kvs) from rd_of ok e
theorem dk_of {kvs : List (Key × V)} (ok : HOk P w H h) (e : H a = some (.dK kvs)) : kvs.length <= sizeLine /\ (a == sysModules) = false /\ ∃ vs, KV kvs vs /\ h.DictOf (mixKind P w) a vs := dk_rd ok (.inl e)
theorem key_of {ks : List Key} (ok : HOk P w H h) (e : H a = some (.tup (ks.map kV))) : (tupleKind (mixKind P w)).is h ks a := by
  obtain ⟨_, its, r, o, h1, h2, ⟨n, h3⟩, _⟩ := (show ObjOk P w H h a (.tup (ks.map kV)) from ok a _ e)
  exact ⟨o, its.toArray, n, h1, h2, h3, by simpa using items_are r⟩
theorem dt_rd {kvs : List (List Key × V)} (ok : HOk P w H h) (e : Rd H a (.dT kvs)) : kvs.length <= sizeLine /\ (a == sysModules) = false /\
    ∃ xs, KT H kvs xs /\ h.DictOfH (tupleKind (mixKind P w)) a xs := by
  obtain ⟨z, y, xs, r, o, es, ep, h1, h2, h3, h4, h5⟩ := (show ObjOk P w H h a (.dT kvs) from rd_of ok e)
  refine ⟨z, y, xs, r, o, es, ep, h1, h2, h3, h4, fun x hx => ?_, h5⟩
  have all : ∀ {l : List (List Key × V)} {m : List (List Key × Addr × Value)}, KT H l m -> ∀ x ∈ m, (tupleKind (mixKind P w)).is h x.1 x.2.1 := by
    intro l m q
    induction q with
    | nil => intro x hx; exact nomatch hx
    | @cons p q ps qs hq t ih =>
      intro x hx
      rcases List.mem_cons.mp hx with e | hx
      . subst e
        exact key_of ok (by rw [<- hq.1]; exact hq.2.1)
      . exact ih x hx
  exact all r x hx
theorem dt_of {kvs : List (List Key × V)} (ok : HOk P w H h) (e : H a = some (.dT kvs)) : kvs.length <= sizeLine /\ (a == sysModules) = false /\
    ∃ xs, KT H kvs xs /\ h.DictOfH (tupleKind (mixKind P w)) a xs := dt_rd ok (.inl e)
end
def DGet (H : Hp) (a : Addr) (y : V) (r : Option V) : Prop :=
  (∃ kvs k, Rd H a (.dK kvs) /\ y = kV k /\ r = valV kvs k) \/ ∃ kvs k b, Rd H a (.dT kvs) /\ y = .ref b /\ H b = some (.tup (k.map kV)) /\ r = valV kvs k
def DPut (H : Hp) (a : Addr) (y v : V) (H' : Hp) : Prop :=
  (∃ kvs k, H a = some (.dK kvs) /\ y = kV k /\ kvs.length < sizeLine /\ H' = upd H a (.dK (putK kvs k v))) \/
  ∃ kvs k b, H a = some (.dT kvs) /\ y = .ref b /\ H b = some (.tup (k.map kV)) /\ kvs.length < sizeLine /\ H' = upd H a (.dT (putK kvs k v))
theorem DGet.k {H : Hp} {a : Addr} {kvs : List (Key × V)} {k : Key} (e : H a = some (.dK kvs)) : DGet H a (kV k) (valV kvs k) := .inl ⟨kvs, k, .inl e, rfl, rfl⟩
theorem DGet.t {H : Hp} {a b : Addr} {kvs : List (List Key × V)} {k : List Key} (e : H a = some (.dT kvs)) (eb : H b = some (.tup (k.map kV))) : DGet H a (.ref b) (valV kvs k) := .inr ⟨kvs, k, b, .inl e, rfl, eb, rfl⟩
theorem DPut.k {H : Hp} {a : Addr} {kvs : List (Key × V)} {k : Key} {v : V} (e : H a = some (.dK kvs)) (hl : kvs.length < sizeLine) : DPut H a (kV k) v (upd H a (.dK (putK kvs k v))) := .inl ⟨kvs, k, e, rfl, hl, rfl⟩
theorem DPut.t {H : Hp} {a b : Addr} {kvs : List (List Key × V)} {k : List Key} {v : V} (e : H a = some (.dT kvs)) (eb : H b = some (.tup (k.map kV))) (hl : kvs.length < sizeLine) :
    DPut H a (.ref b) v (upd H a (.dT (putK kvs k v))) := .inr ⟨kvs, k, b, e, rfl, eb, hl, rfl⟩
section
variable {X : Cx} {pins : List (Addr × Obj)} {σ : St} {H : Hp} {s : Shared} {a : Addr} {y v : V} {u r : Value} {o : Option V} {A : Around} {E : Value -> Shared -> Prop}
theorem Inv.big (I : Inv X pins σ H s) : sysModules < s.heap.objs.size := by
  have h : mainGlobals < s.heap.objs.size := (I.mod.glob.keeps I.bk).lt
  exact Nat.lt_trans (by decide) h
theorem d_write {h' : Heap} {t' : Nat} {ob : HO} (I : Inv X pins σ H s) (mu : Mut (H a)) (hs : Heap.SameBut a s.heap h') (he : ∃ q, h'.get? a = some q) (new : ObjOk X.prog X.w (upd H a ob) h' a ob) :
    Inv X pins σ (upd H a ob) { s with heap := h', toks := t' } :=
  I.write (x := a) (e := a) mu (.inl rfl) (fun b q hb z => (hs.2 b hb).trans z) he new
theorem dk_new {P : Program} {w : World} {H' : Hp} {h' : Heap} {kvs : List (Key × V)} {vs : List (Key × Value)} (z : kvs.length <= sizeLine) (hd : (a == sysModules) = false) (rel : KV kvs vs) (dd : h'.DictOf (mixKind P w) a vs) :
    ObjOk P w H' h' a (.dK kvs) := ⟨z, hd, vs, rel, dd⟩
theorem d_setItem {H' : Hp} {Q : Unit -> Shared -> Prop} (hu : A.units + 1 < cLine) (I : Inv X pins σ H s) (g : DPut H a y v H') (ry : RelV y u) (rv : RelV v r) (h : ∀ s', Inv X pins σ H' s' -> Q () s') :
    wpAny (model X.prog X.w) A (setItem (.ref a) u r) Q E s := by
  rcases g with ⟨kvs, k, e, ey, l, eH⟩ | ⟨kvs, k, b, e, ey, eb, l, eH⟩
  . subst ey eH
    obtain ⟨z, hd, vs, rel, dd⟩ := dk_of I.hok e
    have hz : vs.length <= sizeLine := by rw [<- rel.length]; exact z
    have hl : (putK kvs k v).length <= sizeLine := by have := length_putK kvs k v; omega
    refine wpAny_setItem_pairs (hsz := hz) (kV_is ry) dd fun h' dd' hs => h _ ?_
    have he : ∃ q, h'.get? a = some q := let ⟨q, _, _, hq, _⟩ := dd'; ⟨q, hq⟩
    exact d_write I (by rw [e]; exact True.intro) hs he (dk_new hl hd (rel.put k rv) dd')
  . subst ey eH
    cases (show u = Value.ref b from ry)
    obtain ⟨z, hd, xs, rel, dd⟩ := dt_of I.hok e
    have hz : xs.length <= sizeLine := by rw [<- Paired.length rel]; exact z
    have hl : (putK kvs k v).length <= sizeLine := by have := length_putK kvs k v; omega
    refine wpAny_setItem_heap (hsz := hz) (tupleKind_room_in1 hu) (key_of I.hok eb) dd fun h' dd' hs => h _ ?_
    obtain ⟨q, es, ep, hq, h2, h3, h4, _, h5⟩ := dd'
    refine d_write I (by rw [e]; exact True.intro) hs ⟨q, hq⟩ ⟨hl, hd, _, (rel.put k eb rv).keeps fun c ys ec => ?_, q, es, ep, hq, h2, h3, h4, h5⟩
    rw [upd_ne (ne_of ec e (fun z => nomatch z))]
    exact ec
end
section
variable {X : Cx} {pins : List (Addr × Obj)} {σ : St} {H : Hp} {s : Shared} {a : Addr} {kvs : List (Key × V)} {k : Key} {u : Value} {A : Around} {E : Value -> Shared -> Prop}
end
def NoSl (i : Expr) : Prop := ∀ ov iv, subscripted i false ov iv = operate [ov, iv] (getItem ov iv)
theorem subD_of {prog : Program} {w : World} {A : Around} {E : Value -> Shared -> Prop} {s : Shared} {env : Env} {value slice : Expr} {pos : Pos} {T id : String} {Q : Value -> Shared -> Prop}
    (hl : typeLookup (.type T) "__getitem__" = pure (some (.builtin id))) (hs : NoSl slice)
    (h : wpAny (model prog w) A (eval value env) (fun o s₁ => wpAny (model prog w) A (eval slice env) (fun i s₂ => s₂.TypeIs o T /\ wpAny (model prog w) A (getItem o i) Q E s₂) E s₁) E s) :
    wpAny (model prog w) A (eval (.Subscript value slice pos) env) Q E s := by
  refine Subscript_ (wpAny_mono h (fun o s₁ h₁ => wpAny_mono h₁ (fun i s₂ h₂ => ?_) fun _ _ x => x) fun _ _ x => x)
  obtain ⟨hT, h₂⟩ := h₂
  unfold subscriptTail
  refine wpAny_bind ?_
  rw [getitemInPython_of_ne hT.not_modules]
  refine wpAny_bind (wpAny_specialOf hT hl ?_)
  have fin : wpAny (model prog w) A (subscripted slice false o i) (fun r s₃ => wpAny (model prog w) A (letTemporaryGo value o r >>= fun _ => pure r) Q E s₃) E s₂ := by
    rw [hs o i]
    exact wpAny_operating (wpAny_mono h₂ (fun r s₃ h₃ => wpAny_bind (wpAny_letTemporaryGo (wpAny_pure h₃))) fun _ _ x => x)
  first
    | exact wpAny_pure (wpAny_bind fin)
    | exact wpAny_bind (wpAny_pure (wpAny_bind fin))
    | exact wpAny_bind fin
def sDPut (td ty tv : TE) : TS := fun D σ H => tv σ H fun v H1 => td σ H1 fun x H2 => ty σ H2 fun y H3 => ∃ a H4, x = .ref a /\ DPut H3 a y v H4 /\ D.nx σ H4
section
variable {X : Cx} {o i e value : Expr} {pos pos' tpos : Pos} {td ty tv : TE}
theorem ps_dput (hu : X.A.units + 1 < cLine) (ho : PE X o td) (hi : PE X i ty) (hv : PE X value tv) (hs : swapsWith value (some (.Subscript o i pos')) pos.line X.env = pure false) :
    PS X (.Assign [.Subscript o i pos'] value pos) (sDPut td ty tv) := by
  intro pins s σ H D I h
  refine wpAny_Assign_Subscript (thn (hv pins s σ H _ I h) fun r s1 ⟨v, H1, I1, rv, q1⟩ => thn (ho pins s1 σ H1 _ I1 q1) fun u s2 ⟨x, H2, I2, rx, q2⟩ => thn (hi pins s2 σ H2 _ I2 q2) fun iv s3 ⟨y, H3, I3, ry, a, H4, ex, g, q3⟩ => ?_) hs
  subst ex
  obtain rfl : u = Value.ref a := rx
  exact d_setItem hu I3 g ry rv fun s4 I4 => ⟨σ, H4, I4, q3⟩
end
theorem dk_empty {P : Program} {w : World} {H : Hp} (h : Heap) (hb : sysModules < h.objs.size) : ObjOk P w H (h.push { cls := .type "dict", data := .dict #[] }) h.objs.size (.dK []) :=
  ⟨Nat.zero_le _, beq_eq_false_iff_ne.mpr (Ne.symm (Nat.ne_of_lt hb)), [], .nil, Heap.DictOf.new h⟩
def tDNewK : TE := fun _ H Q => ∀ p, H p = none -> Q (.ref p) (upd H p (.dK []))
section
variable {X : Cx} {pos : Pos}
theorem pe_dnewK : PE X (.Dict [] [] pos) tDNewK := fun pins s σ H Q I h =>
  wpAny_Dict_empty ⟨.ref s.heap.objs.size, _, I.laid (a := s.heap.objs.size) (o := .dK []) (t' := s.toks) (fun _ _ q => Heap.get?_push_of_some _ q) (Nat.le_refl _) (dk_empty s.heap I.big), rfl, h _ (I.hok.fresh (Nat.le_refl _))⟩
end
structure M1 (X : Cx) (o : Expr) (m : Str) (apos : Pos) (e : Expr) (cpos : Pos) : Prop where
  base : attributeBase o m X.env (eval o X.env) = eval o X.env
  few : ((backTo cpos (starEach [e] X.env)).all (fun x => !x.1) && (backToKw cpos (keywordEach [] X.env)).all (fun x => x.1.isSome)
    && decide (([e] : List Expr).length + ([] : List Keyword).length + (if ([] : List Keyword).isEmpty then 0 else 1) < 30)) = true
  line : (apos.endLine == cpos.line) = true
  trees : backTo cpos (starEach [e] X.env) = [(false, eval e X.env)]
structure M2 (X : Cx) (o : Expr) (m : Str) (apos : Pos) (e f : Expr) (cpos : Pos) : Prop where
  base : attributeBase o m X.env (eval o X.env) = eval o X.env
  few : ((backTo cpos (starEach [e, f] X.env)).all (fun x => !x.1) && (backToKw cpos (keywordEach [] X.env)).all (fun x => x.1.isSome)
    && decide (([e, f] : List Expr).length + ([] : List Keyword).length + (if ([] : List Keyword).isEmpty then 0 else 1) < 30)) = true
  line : (apos.endLine == cpos.line) = true
  trees : backTo cpos (starEach [e, f] X.env) = [(false, eval e X.env), (false, eval f X.env)]
section
variable {X : Cx} {pins : List (Addr × Obj)} {σ : St} {H : Hp} {s : Shared} {a : Addr} {y d : V} {u r : Value} {o : Option V} {A : Around} {E : Value -> Shared -> Prop}
end
section
variable {X : Cx} {o e f : Expr} {apos cpos : Pos} {td ty tx : TE}
end
section
variable {X : Cx} {pins : List (Addr × Obj)} {σ : St} {H : Hp} {s : Shared} {a : Addr} {kvs : List (Key × V)} {A : Around} {E : Value -> Shared -> Prop}
end
section
variable {X : Cx} {pins : List (Addr × Obj)} {σ : St} {H : Hp} {s : Shared} {a : Addr} {y : V} {u : Value} {A : Around} {E : Value -> Shared -> Prop}
end
theorem intOfSelf_bool {M : Model} {A : Around} {E : Value -> Shared -> Prop} {s : Shared} {b : Bool} {Q : Int -> Shared -> Prop} (h : Q (if b = true then 1 else 0) s) : wpAny M A (Builtin.Int.intOfSelf (.bool b)) Q E s := by
  unfold Builtin.Int.intOfSelf
  exact wpAny_pure h
theorem pyHash_bool {prog : Program} {w : World} {A : Around} {E : Value -> Shared -> Prop} {s : Shared} {b : Bool} {Q : Int -> Shared -> Prop} (h : Q (if b = true then 1 else 0) { s with toks := s.toks + 1 }) : wpAny (model prog w) A (pyHash (.bool b)) Q E s := by
  show wpAny _ _ (pyHashByItsType (.bool b)) _ _ _
  refine PySem.W.pyHash_slot (T := "bool") rfl PySem.F.slot_bool_hash PySem.F.entry_int_hash (PySem.F.args_int_hash_1 _) rfl (.inl rfl) ?_
  unfold Builtin.«int.__hash__» Builtin.Int.intSlot0
  refine wpAny_bind (wpAny_bind ?_)
  show wpAny _ _ (pure (Value.bool b, [])) _ _ _
  refine wpAny_pure (wpAny_bind (intOfSelf_bool (wpAny_pure ?_)))
  cases b with
  | true => exact wpAny_bind (wpAny_mkInt (wpAny_pure ⟨_, _, rfl, h⟩))
  | false => exact wpAny_bind (wpAny_mkInt (wpAny_pure ⟨_, _, rfl, h⟩))
def boolIs : Bool -> Value -> Bool
  | b, .bool c => b == c
  | _, _ => false
theorem boolIs_shape {b : Bool} {v : Value} (h : boolIs b v = true) : v = .bool b := by
  unfold boolIs at h
  split at h
  . rw [beq_iff_eq.mp h]
  . cases h
def boolKind (prog : Program) (w : World) : PySem.KeyKind prog w Bool where
  is := boolIs
  hash := fun b => if b = true then 1 else 0
  inj := fun v a b ha hb => by
    have e1 := boolIs_shape ha
    have e2 := boolIs_shape hb
    rw [e1] at e2
    injection e2
  byValue := fun k v h => by rw [boolIs_shape h]; rfl
  pyHash := fun hv h => by rw [boolIs_shape hv]; exact pyHash_bool h
  eqBool := fun {A E s a b u v Q} hu hv h => by
    rw [boolIs_shape hu, boolIs_shape hv]
    refine SeqAt.EqAt.bool_bool a b _ _ _ _ ?_
    have e : (a == b) = decide (a = b) := by cases a <;> cases b <;> rfl
    rw [e]; exact h
  «strs» := fun k x t v h => by
    have := boolIs_shape h
    cases this
abbrev BX := List (List Bool × Addr × Bool)
def bxv (xs : BX) : List (List Bool × Addr × Value) := xs.map fun q => (q.1, q.2.1, Value.bool q.2.2)
def dB (P : Program) (w : World) (a : Addr) (xs : BX) : HO := .ext fun h => ∃ o es ep, h.get? a = some o /\ o.ExactDict /\ o.data = .dict es ep /\ es.toList = (bxv xs).map (entryOfKey (tupleKind (boolKind P w))) /\ ((bxv xs).map (·.1)).Nodup /\ xs.length <= sizeLine /\ (a == sysModules) = false
def KeysB (H : Hp) (xs : BX) : Prop := ∀ q ∈ xs, H q.2.1 = some (.tup (q.1.map V.bl))
theorem items_bl {P : Program} {w : World} : ∀ {ks : List Bool} {us : List Value}, Vals (ks.map V.bl) us -> PySem.ItemsAre (boolKind P w) ks us
  | [], _, r => by rw [List.map_nil] at r; cases r; exact .nil
  | k :: ks, _, r => by
    rw [List.map_cons] at r
    cases r with
    | cons h t =>
      refine .cons ?_ (items_bl t)
      rw [show _ = Value.bool k from h]
      show (k == k) = true
      simp
section
variable {P : Program} {w : World} {H : Hp} {h : Heap} {a : Addr}
theorem key_bl {ks : List Bool} (ok : HOk P w H h) (e : H a = some (.tup (ks.map V.bl))) : (tupleKind (boolKind P w)).is h ks a := by
  obtain ⟨_, its, r, o, h1, h2, ⟨n, h3⟩, _⟩ := (show ObjOk P w H h a (.tup (ks.map V.bl)) from ok a _ e)
  exact ⟨o, its.toArray, n, h1, h2, h3, by simpa using items_bl r⟩
theorem db_of {xs : BX} (ok : HOk P w H h) (e : H a = some (dB P w a xs)) (hk : KeysB H xs) : xs.length <= sizeLine /\ (a == sysModules) = false /\ h.DictOfH (tupleKind (boolKind P w)) a (bxv xs) := by
  obtain ⟨⟨o, es, ep, h1, h2, h3, h4, h5, h6, h7⟩, _⟩ := (show ObjOk P w H h a (dB P w a xs) from ok a _ e)
  refine ⟨h6, h7, o, es, ep, h1, h2, h3, h4, fun x hx => ?_, h5⟩
  obtain ⟨q, hq, rfl⟩ := List.mem_map.mp hx
  exact key_bl ok (hk q hq)
theorem db_new {xs : BX} {H' : Hp} (hl : xs.length <= sizeLine) (hd : (a == sysModules) = false) (dd : h.DictOfH (tupleKind (boolKind P w)) a (bxv xs)) : ObjOk P w H' h a (dB P w a xs) := by
  obtain ⟨o, es, ep, h1, h2, h3, h4, _, h5⟩ := dd
  refine ⟨⟨o, es, ep, h1, h2, h3, h4, h5, hl, hd⟩, ⟨o, h1⟩, fun g1 g2 ⟨o, es, ep, h1, h2, h3, h4, h5, h6, h7⟩ k => ⟨o, es, ep, k _ h1, h2, h3, h4, h5, h6, h7⟩⟩
end
def hasB (xs : BX) (ks : List Bool) : Bool := xs.any fun q => decide (q.1 = ks)
theorem atKey_bxv (xs : BX) (ks : List Bool) : (atKey (bxv xs) ks).isSome = hasB xs ks := by
  unfold atKey bxv hasB
  induction xs with
  | nil => rfl
  | cons q r ih =>
    rw [List.map_cons, List.find?_cons, List.any_cons]
    by_cases e : q.1 = ks
    . simp [e]
    . simp only [e, decide_false, Bool.false_or]; exact ih
section
variable {X : Cx} {o i e value : Expr} {pos pos' tpos : Pos} {td ty tv : TE}
def rNotB (P : Program) (w : World) : R2 := fun x y H Q => match x, y with
  | .ref b, .ref a => ∃ xs ks, H b = some (.tup (ks.map V.bl)) /\ H a = some (dB P w a xs) /\ KeysB H xs /\ Q (.bl (!hasB xs ks)) H
  | _, _ => False
theorem om_notinB (hu : X.A.units + 60 < cLine) : OpR X (compareOp .NotIn) (rNotB X.prog X.w) := by
  intro pins s σ H x y v u Q I rx ry q
  cases x <;> cases y <;> first
    | exact False.elim q
    | (obtain ⟨xs, ks, h1, h2, h3, q⟩ := q
       cases (show v = Value.ref _ from rx)
       cases (show u = Value.ref _ from ry)
       obtain ⟨z, hd, dd⟩ := db_of I.hok h2 h3
       refine wpAny_notIn_heap (tupleKind_room_in1 (by omega)) (key_bl I.hok h1) hd dd ?_
       rw [atKey_bxv]
       exact ⟨.bl (!hasB xs ks), H, I.tok _, rfl, q⟩)
def rGetB (P : Program) (w : World) : R2 := fun x y H Q => match x, y with
  | .ref a, .ref b => ∃ xs ks c v, H b = some (.tup (ks.map V.bl)) /\ H a = some (dB P w a xs) /\ KeysB H xs /\ atKey (bxv xs) ks = some (c, .bool v) /\ Q (.bl v) H
  | _, _ => False
theorem pe_getB (hu : X.A.units + 60 < cLine) (ho : PE X o td) (hi : PE X i ty) (hs : NoSl i := by intro _ _; rfl) : PE X (.Subscript o i pos) (tOp (rGetB X.prog X.w) td ty) := by
  intro pins s σ H Q I h
  refine subD_of PySem.F.slot_dict_getitem.lookup hs (thn (ho pins s σ H _ I h) fun u s1 ⟨x, H1, I1, rx, q1⟩ => thn (hi pins s1 σ H1 _ I1 q1) fun iv s2 ⟨y, H2, I2, ry, q⟩ => ?_)
  cases x <;> cases y <;> first
    | exact False.elim q
    | (obtain ⟨xs, ks, c, v, h1, h2, h3, h4, q⟩ := q
       cases (show u = Value.ref _ from rx)
       cases (show iv = Value.ref _ from ry)
       obtain ⟨z, hd, dd⟩ := db_of I2.hok h2 h3
       exact ⟨dd.typeIs, wpAny_getItem_heap (tupleKind_room_in1 (by omega)) (key_bl I2.hok h1) dd h4 ⟨.bl v, H2, I2.tok _, rfl, q⟩⟩)
def rSetB (P : Program) (w : World) : TSet := fun o i v H Q => match o, i, v with
  | .ref a, .ref b, .bl v => ∃ xs ks, H b = some (.tup (ks.map V.bl)) /\ H a = some (dB P w a xs) /\ KeysB H xs /\ hasB xs ks = false /\ xs.length < sizeLine /\ Q (upd H a (dB P w a (xs ++ [(ks, b, v)])))
  | _, _, _ => False
theorem set_B (hu : X.A.units + 60 < cLine) : PSet X (rSetB X.prog X.w) := by
  intro pins s σ H o i v ov iv u Q I ro ri rv h
  cases o <;> cases i <;> cases v <;> first
    | exact False.elim h
    | (obtain ⟨xs, ks, h1, h2, h3, h4, h5, q⟩ := h
       cases (show ov = Value.ref _ from ro)
       cases (show iv = Value.ref _ from ri)
       cases (show u = Value.bool _ from rv)
       obtain ⟨z, hd, dd⟩ := db_of I.hok h2 h3
       refine wpAny_setItem_heap (hsz := by unfold bxv; rw [List.length_map]; exact z) (tupleKind_room_in1 (by omega)) (key_bl I.hok h1) dd fun h' dd' hs => ?_
       rw [show storedH (bxv xs) ks _ _ = bxv (xs ++ [(ks, _, _)]) by
         unfold storedH
         rw [atKey_bxv, h4, if_neg (by decide)]
         unfold bxv
         rw [List.map_append]; rfl] at dd'
       have he : ∃ q, h'.get? _ = some q := let ⟨q, _, _, hq, _⟩ := dd'; ⟨q, hq⟩
       exact ⟨_, d_write I (by rw [h2]; exact True.intro) hs he (db_new (by rw [List.length_append]; exact h5) hd dd'), q⟩)
def tNewB (P : Program) (w : World) : TE := fun _ H Q => ∀ p, H p = none -> Q (.ref p) (upd H p (dB P w p []))
theorem pe_newB {pos : Pos} : PE X (.Dict [] [] pos) (tNewB X.prog X.w) := fun pins s σ H Q I h =>
  wpAny_Dict_empty ⟨.ref s.heap.objs.size, _, I.laid (a := s.heap.objs.size) (o := dB X.prog X.w s.heap.objs.size []) (t' := s.toks) (fun _ _ q => Heap.get?_push_of_some _ q) (Nat.le_refl _)
    (db_new (Nat.zero_le _) (beq_eq_false_iff_ne.mpr (Ne.symm (Nat.ne_of_lt I.big))) ⟨_, #[], 0, Heap.get?_push_size _ rfl, ⟨rfl, rfl, rfl⟩, rfl, rfl, (fun x hx => by cases hx), List.nodup_nil⟩), rfl, h _ (I.hok.fresh (Nat.le_refl _))⟩
end
section
variable {X : Cx} {P : Program} {w : World} {o i : Expr} {pos : Pos} {td ty : TE}
theorem kNewB (hP : X.prog = P := by rfl) (hw : X.w = w := by rfl) : PE X (.Dict [] [] pos) (tNewB P w) := by subst hP hw; exact pe_newB
theorem kNotB (hu : X.A.units + 60 < cLine) (hP : X.prog = P := by rfl) (hw : X.w = w := by rfl) : OpR X (compareOp .NotIn) (rNotB P w) := by subst hP hw; exact om_notinB hu
theorem kGetB (hu : X.A.units + 60 < cLine) (ho : PE X o td) (hi : PE X i ty) (hs : NoSl i := by intro _ _; rfl) (hP : X.prog = P := by rfl) (hw : X.w = w := by rfl) : PE X (.Subscript o i pos) (tOp (rGetB P w) td ty) := by subst hP hw; exact pe_getB hu ho hi hs
theorem kSetB (hu : X.A.units + 60 < cLine) (hP : X.prog = P := by rfl) (hw : X.w = w := by rfl) : PSet X (rSetB P w) := by subst hP hw; exact set_B hu
end
theorem rm_notB {P w} : RMono (rNotB P w) := fun x y H Q Q' h q => by
  unfold rNotB at *
  split at q
  . obtain ⟨xs, ks, a, b, c, q⟩ := q; exact ⟨xs, ks, a, b, c, h _ _ q⟩
  . exact q.elim
theorem rm_getB {P w} : RMono (rGetB P w) := fun x y H Q Q' h q => by
  unfold rGetB at *
  split at q
  . obtain ⟨xs, ks, c, v, a, b, d, e, q⟩ := q; exact ⟨xs, ks, c, v, a, b, d, e, h _ _ q⟩
  . exact q.elim
theorem sm_setB {P w} : SetMono (rSetB P w) := fun o i v H Q Q' h q => by
  unfold rSetB at *
  split at q
  . obtain ⟨xs, ks, a, b, c, d, e, q⟩ := q; exact ⟨xs, ks, a, b, c, d, e, h _ q⟩
  . exact q.elim
theorem em_newB {P w} : EMono (tNewB P w) := fun σ H Q Q' h q => fun p hp => h _ _ (q p hp)
section
variable {X : Cx} {K : PySem.W.Frag} {o : Expr} {to : TE} {apos cpos : Pos}
end
section
variable {X : Cx}
end
def TyS (K : PySem.W.Frag) (H : Hp) (x : V) (t : String) : Prop := match x with
  | .int _ => t = "int"
  | .bl _ => t = "bool"
  | .ref a => (t = "tuple" /\ ∃ xs, SqT K H a xs) \/ (t = "list" /\ ∃ xs, SqL K H a xs)
  | _ => False
def isTy (t T : String) : Bool := t == T || (t == "bool" && T == "int")
section
variable {X : Cx} {K : PySem.W.Frag}
theorem tyS_kit {pins : List (Addr × Obj)} {σ : St} {H : Hp} {s : Shared} {x : V} {u : Value} {t : String} (I : Inv X pins σ H s) (rx : RelV x u) (h : TyS X.K H x t) :
    (t = "int" \/ t = "bool" \/ t = "tuple" \/ t = "list") /\ u ≠ Value.builtin "__main__.__loader__#opaque" /\ ∃ Hh : Heap -> Prop, PySem.W.KitX X.K u (.type t) Hh /\ Hh s.heap := by
  cases x with
  | int i =>
    obtain ⟨k, rfl⟩ := (show ∃ t, u = Value.int i t from rx)
    cases (show t = "int" from h)
    exact ⟨.inl rfl, (fun z => nomatch z), _, PySem.W.kitx_int, True.intro⟩
  | bl b =>
    cases (show u = Value.bool b from rx)
    cases (show t = "bool" from h)
    exact ⟨.inr (.inl rfl), (fun z => nomatch z), _, PySem.W.kitx_bool, True.intro⟩
  | ref a =>
    cases (show u = Value.ref a from rx)
    rcases h with ⟨rfl, xs, hq⟩ | ⟨rfl, xs, hq⟩
    . obtain ⟨its, rv, p, _⟩ := I.tuple hq
      obtain ⟨o, h1, h2, _⟩ := p
      exact ⟨.inr (.inr (.inl rfl)), (fun z => nomatch z), _, PySem.W.kitx_tuple, ⟨o, h1, h2⟩⟩
    . obtain ⟨its, rv, p, _⟩ := I.list hq
      obtain ⟨o, n, h1, h2, _⟩ := p
      exact ⟨.inr (.inr (.inr rfl)), (fun z => nomatch z), _, PySem.W.kitx_list, ⟨o, h1, h2⟩⟩
  | _ => exact False.elim h
end
section
variable {X : Cx} {pins : List (Addr × Obj)} {σ : St} {H : Hp} {s : Shared}
end
section
variable {X : Cx} {K : PySem.W.Frag}
end
open AutoSeq1 (wpAny_loadPart')
section
variable {prog : Program} {w : World} {A : Around} {E : Value -> Shared -> Prop} {s : Shared}
end
section
variable {X : Cx}
end
structure Feed (H : Hp) (t : Addr) : Prop where
  at_ : ∃ a b k c : Int, 0 <= a /\ H t = some (.lst [.int a, .int b, .int k, .int c])
theorem Feed.same {H H' : Hp} {t : Addr} (F : Feed H t) (h : Same H H') : Feed H' t := by
  obtain ⟨a, b, k, c, h1, h2⟩ := F.at_
  exact ⟨a, b, k, c, h1, h _ _ h2⟩
theorem Feed.upd {H : Hp} {t p : Addr} {o : HO} (F : Feed H t) (h : H p = none) : Feed (L2.upd H p o) t := F.same (Same.upd h)
theorem Same.sqT {K : PySem.W.Frag} {H H' : Hp} {a : Addr} {xs : List V} (e : Same H H') (h : SqT K H a xs) : SqT K H' a xs := sqT_stay h (fun o k => e _ _ k)
def sumTo (f : Nat -> Int) : Nat -> Int
  | 0 => 0
  | n + 1 => sumTo f n + f n
def chi : Nat -> Nat -> Nat -> Int
  | 0, _, _ => 1
  | n + 1, a, b => (if a % 2 = 1 /\ b % 2 = 1 then -1 else 1) * chi n (a / 2) (b / 2)
def wt (n : Nat) (v : Nat -> Int) (s : Nat) : Int := sumTo (fun p => chi n s p * v p) (2 ^ n)
def hs (v : Nat -> Int) (s k : Nat) : Int := sumTo (fun j => chi s (k % 2 ^ s) j * v (k / 2 ^ s * 2 ^ s + j)) (2 ^ s)
def manyF : Nat -> Nat -> Nat
  | 0, _ => 0
  | f + 1, x => x % 2 + manyF f (x / 2)
@[irreducible] def many (x : Nat) : Nat := manyF 64 x
def valB (b : Bool) : Int := if b = true then -1 else 1
def termD (q : Nat × Int) : Dv := .tup [.int q.1, .int q.2]
def sumD (m : Nat) (ts : List (Nat × Int)) : Dv := .tup [.int m, .tup (ts.map termD)]
structure SumAt (K : PySem.W.Frag) (H : Hp) (v : V) (m : Nat) (ts : List (Nat × Int)) : Prop where
  at_ : ∃ (a b : Addr) (vs : List V), v = .ref a /\ SqT K H a [.int m, .ref b] /\ SqT K H b vs /\ Reps K H (ts.map termD) vs
theorem SumAt.of {K : PySem.W.Frag} {H : Hp} {v : V} {m : Nat} {ts : List (Nat × Int)} (h : Rep K H (sumD m ts) v) : SumAt K H v m ts := by
  unfold sumD Rep at h
  obtain ⟨a, xs, rfl, ha, hr⟩ := h
  unfold Reps at hr
  obtain ⟨x, r, rfl, h1, hr⟩ := hr
  unfold Rep at h1; subst h1
  unfold Reps at hr
  obtain ⟨x, r, rfl, h2, hr⟩ := hr
  unfold Reps at hr; subst hr
  unfold Rep at h2
  obtain ⟨b, vs, rfl, hb, hr⟩ := h2
  exact ⟨a, b, vs, rfl, ha, hb, hr⟩
theorem SumAt.rep {K : PySem.W.Frag} {H : Hp} {v : V} {m : Nat} {ts : List (Nat × Int)} (h : SumAt K H v m ts) : Rep K H (sumD m ts) v := by
  obtain ⟨a, b, vs, rfl, ha, hb, hr⟩ := h.at_
  unfold sumD Rep
  refine ⟨a, _, rfl, ha, reps_cons rep_int (reps_cons ?_ reps_nil)⟩
  unfold Rep
  exact ⟨b, vs, rfl, hb, hr⟩
theorem SumAt.same {K : PySem.W.Frag} {H H' : Hp} {v : V} {m : Nat} {ts : List (Nat × Int)} (h : SumAt K H v m ts) (s : Same H H') : SumAt K H' v m ts := .of (Rep.same s _ _ h.rep)
theorem Feed.lst {H : Hp} {t : Addr} (F : Feed H t) : ∃ zs, H t = some (.lst zs) := by
  obtain ⟨a, b, k, c, _, h⟩ := F.at_
  exact ⟨_, h⟩
section
variable {X : Cx} {K : PySem.W.Frag}
end
def Nb (x : Int) (k : Nat) : Prop := x.natAbs < 2 ^ k
theorem Nb.mul {x y : Int} {a b : Nat} (hx : Nb x a) (hy : Nb y b) : Nb (x * y) (a + b) := by
  unfold Nb at *
  rw [Int.natAbs_mul, Nat.pow_add]
  exact Nat.mul_lt_mul'' hx hy
theorem Nb.up {x : Int} {a b : Nat} (hx : Nb x a) (h : a <= b) : Nb x b := Nat.lt_of_lt_of_le hx (Nat.pow_le_pow_right (by decide) h)
theorem Nb.pow {x : Int} {a : Nat} (hx : Nb x a) : ∀ i, Nb (x ^ i) (a * i + 1)
  | 0 => by unfold Nb; rw [Int.pow_zero]; show 1 < 2 ^ (a * 0 + 1); rw [Nat.mul_zero]; decide
  | i + 1 => by
    rw [Int.pow_succ]
    have := (hx.pow i).mul hx
    rw [show a * (i + 1) + 1 = a * i + 1 + a by rw [Nat.mul_succ]; omega]
    exact this
theorem Nb.okMul {x y : Int} (hx : Nb x 4000) (hy : Nb y 4000) : okMul x y := .inl ⟨hx.up (by decide), hy.up (by decide)⟩
def newL (H : Hp) (Q : VK) (xs : List V) : Prop := ∀ p H', H p = none -> Same H H' -> H' p = some (.lst xs) -> Q (.ref p) H'
theorem newL_mono {H : Hp} {Q Q' : VK} {xs : List V} (h : ∀ v H, Q v H -> Q' v H) (q : newL H Q xs) : newL H Q' xs := fun p H' a b c => h _ _ (q p H' a b c)
theorem hu_one {A : Around} (h : A.units + 60 < cLine) : A.units + 1 < cLine := by omega
end L2
namespace HT
open PySem PyProof.Rows
section
variable {prog : Program} {w : World} {A : Around} {E : Value -> Shared -> Prop} {s : Shared}
end
end HT
namespace L2
open PySem PySem.Spec PyProof.Rows
section
variable {X : Cx} {K : PySem.W.Frag} {e sx : Expr} {te ts : TE} {lo hi : Option Expr} {tl th : TO} {pos p2 : Pos}
def mIs (neg : Bool) : R2 := fun x y H Q => match x, y with
  | .bl a, .bl b => Q (.bl (neg ^^ (a == b))) H
  | x, .non => Q (.bl (neg ^^ decide (x = .non))) H
  | _, _ => False
theorem om_is : OpR X (compareOp .Is) (mIs false) := by
  intro pins s σ H x y v u Q I rx ry h
  unfold mIs at h
  split at h
  . cases rx; cases ry
    rename_i a b
    exact wpAny_of_eq (show compareOp .Is (.bool a) (.bool b) = pure (.bool (a == b)) by cases a <;> cases b <;> rfl) ⟨.bl (a == b), H, I, rfl, by rw [Bool.false_xor] at h; exact h⟩
  . exact op_isN pins s σ H _ _ v u Q I rx ry ⟨rfl, by rw [Bool.false_xor] at h; exact h⟩
  . exact h.elim
end
structure GFeed (H : Hp) (t : Addr) (N : Nat) : Prop where
  at_ : ∃ (l : Addr) (i g c : Int) (ns : List Int), 0 <= i /\ 0 <= g /\ 0 <= c /\ c <= N /\ H t = some (.lst [.ref l, .int i, .int g, .int c]) /\ l ≠ t /\ H l = some (.lst (ns.map V.int)) /\ ns.length ≠ 0
theorem GFeed.same {H H' : Hp} {t : Addr} {N : Nat} (F : GFeed H t N) (h : Same H H') : GFeed H' t N := by
  obtain ⟨l, i, g, c, ns, h1, h2, h3, h4, h5, h6, h7, h8⟩ := F.at_
  exact ⟨l, i, g, c, ns, h1, h2, h3, h4, h _ _ h5, h6, h _ _ h7, h8⟩
theorem GFeed.upd {H : Hp} {t p : Addr} {o : HO} {N : Nat} (F : GFeed H t N) (h : H p = none) : GFeed (L2.upd H p o) t N := F.same (Same.upd h)
theorem GFeed.lst {H : Hp} {t : Addr} {N : Nat} (F : GFeed H t N) : ∃ zs, H t = some (.lst zs) := by
  obtain ⟨l, i, g, c, ns, h1, h2, h3, h4, h5, _⟩ := F.at_
  exact ⟨_, h5⟩
def tyD : Dv -> String
  | .non => "NoneType"
  | .bl _ => "bool"
  | .int _ => "int"
  | .str _ => "str"
  | .tup _ => "tuple"
  | .lst _ => "list"
def mIsiD (K : PySem.W.Frag) : List V -> Hp -> VK -> Prop := fun xs H Q => match xs with
  | [x, .ty T] => T ∈ kinds /\ ∃ d, Rep K H d x /\ Q (.bl (isTy (tyD d) T)) H
  | _ => False
theorem kitD {K : PySem.W.Frag} {t T : String} (ht : t = "int" \/ t = "bool" \/ t = "tuple" \/ t = "list") (hT : T ∈ kinds) : PySem.W.kitOne K (.type t) (.type T) = some (isTy t T) := by
  unfold kinds at hT
  simp only [List.mem_cons, List.mem_nil_iff, or_false] at hT
  rcases ht with rfl | rfl | rfl | rfl <;> rcases hT with rfl | rfl | rfl | rfl | rfl | rfl <;> rfl
theorem cm_isiD {X : Cx} : CallR X (.builtin "isinstance") (mIsiD X.K) := by
  intro pins s σ H xs us Q I r q
  match xs, q with
  | [x, .ty T], q =>
    obtain ⟨hT, d, h, q⟩ := q
    have go : ∀ t, TyS X.K H x t -> Q (.bl (isTy t T)) H -> wpAny (model X.prog X.w) X.A (call (.builtin "isinstance") us) (EP X pins σ Q) X.xe s := fun t ht hq => by
      obtain ⟨u, w', rfl, ru, rw'⟩ := vals2 r
      cases rw'
      obtain ⟨ht, hn, Hh, k, hh⟩ := tyS_kit I ru ht
      exact PySem.W.kia_one k I.kIn hh (kitD ht hT) hn fun tk => ⟨.bl (isTy t T), H, I.tok _, rfl, hq⟩
    have hT' := hT
    unfold kinds at hT'
    simp only [List.mem_cons, List.mem_nil_iff, or_false] at hT'
    cases d with
    | non =>
      unfold Rep at h; subst h
      refine cm_isi pins s σ H _ us Q I r ⟨hT, _, rfl, ?_⟩
      have e : (T == "NoneType") = isTy (tyD .non) T := by rcases hT' with rfl | rfl | rfl | rfl | rfl | rfl <;> rfl
      rw [e]; exact q
    | str z =>
      unfold Rep at h; subst h
      refine cm_isi pins s σ H _ us Q I r ⟨hT, _, rfl, ?_⟩
      have e : (T == "str") = isTy (tyD (.str z)) T := by rcases hT' with rfl | rfl | rfl | rfl | rfl | rfl <;> rfl
      rw [e]; exact q
    | bl b => unfold Rep at h; subst h; exact go _ rfl q
    | int i => unfold Rep at h; subst h; exact go _ rfl q
    | tup ds => unfold Rep at h; obtain ⟨a, xs, rfl, hs, _⟩ := h; exact go _ (.inl ⟨rfl, xs, hs⟩) q
    | lst ds => unfold Rep at h; obtain ⟨a, xs, rfl, hs, _⟩ := h; exact go _ (.inr ⟨rfl, xs, hs⟩) q
theorem kIsiD {X : Cx} {K : PySem.W.Frag} (hK : X.K = K := by rfl) : CallR X (.builtin "isinstance") (mIsiD K) := hK ▸ cm_isiD
theorem rep_tup_inv {K : PySem.W.Frag} {H : Hp} {ds : List Dv} {v : V} (h : Rep K H (.tup ds) v) : ∃ a xs, v = .ref a /\ SqT K H a xs /\ Reps K H ds xs := by unfold Rep at h; exact h
section
variable {X : Cx} {pins : List (Addr × Obj)} {σ : St} {H : Hp} {s : Shared}
theorem KV.get {kvs : List (Key × V)} {vs : List (Key × Value)} (r : KV kvs vs) : ∀ {i : Nat} {q : Key × V}, kvs[i]? = some q -> ∃ v, vs[i]? = some (q.1, v) /\ RelV q.2 v := by
  induction r with
  | nil => intro i q e; simp at e
  | @cons a b l1 l2 h t ih =>
    intro i q e
    cases i with
    | zero =>
      simp at e; subst e
      obtain ⟨b1, b2⟩ := b
      obtain ⟨h1, h2⟩ := h
      exact ⟨b2, by simp; exact h1.symm, h2⟩
    | succ i =>
      obtain ⟨v, h1, h2⟩ := ih (i := i) (q := q) (by simpa using e)
      exact ⟨v, by simpa using h1, h2⟩
theorem KV.len {kvs : List (Key × V)} {vs : List (Key × Value)} (r : KV kvs vs) : kvs.length = vs.length := Paired.length r
end
theorem dictAt_of {P : Program} {w : World} {h : Heap} {d : Addr} {o : Obj} {es : Array DictEntry} {ep : Nat} {vs : List (Key × Value)} (ho : h.get? d = some o) (hd : o.data = .dict es ep) (dd : h.DictOf (mixKind P w) d vs) : h.DictAt (mixKind P w) d vs ep /\ es.size = vs.length := by
  obtain ⟨o', es', ep', h1, h2, h3, h4, h5, h6⟩ := dd
  rw [ho] at h1; cases h1
  rw [hd] at h3; cases h3
  exact ⟨⟨o, es, ho, h2, hd, h4, h5, h6⟩, by rw [<- h5.length]; simp⟩
section
variable {X : Cx} {K : PySem.W.Frag} {tg oe : Expr} {to : TE} {ts : List Expr} {kt : Nat} {tpos apos cpos : Pos}
end
end L2
namespace L2
open PySem PyProof.Rows
section
variable {prog : Program} {w : World} {A : Around} {E : Value -> Shared -> Prop} {s : Shared}
end
section
variable {X : Cx}
end
end L2
namespace L2
open PySem PySem.Spec PyProof.Rows
end L2
namespace L2
open PySem PySem.Spec PyProof.Rows PySem.W
open Att (noObjs noObjs_get fr_all)
def CdO (a : Addr) (q : Str) : HO := .ext fun h => h.CodeRec (.ref a) q
def Lam (Pt : Addr) (pos : Pos) (q : Str) (H : Hp) : Prop :=
  ∃ ps : Array Value, H Pt = some (.tbl ps) /\ TriplesOk ps.toList /\ (codeAmong pos ps.toList = none \/ ∃ c', codeAmong pos ps.toList = some (.ref c') /\ H c' = some (CdO c' q))
def Grow (Pt : Addr) (H H' : Hp) : Prop := ∀ b o, b ≠ Pt -> H b = some o -> H' b = some o
theorem Grow.same {Pt : Addr} {H H' : Hp} (h : Same H H') : Grow Pt H H' := fun b o _ e => h b o e
theorem Lam.same {Pt : Addr} {pos : Pos} {q : Str} {H H' : Hp} (l : Lam Pt pos q H) (h : Same H H') : Lam Pt pos q H' := by
  obtain ⟨ps, a, b, c⟩ := l
  refine ⟨ps, h _ _ a, b, ?_⟩
  rcases c with c | ⟨c', c, d⟩
  . exact .inl c
  . exact .inr ⟨c', c, h _ _ d⟩
section
variable {X : Cx} {pins : List (Addr × Obj)} {σ : List (Option V)} {H : Hp} {s : Shared} {h' : Heap}
end
section
variable {prog : Program} {w : World} {A : Around} {s : Shared}
end
section
variable {X : Cx} {Pt c : Addr} {e : Expr} {te : TE} {p pos kpos lpos np cp sp : Pos} {x qual : Str} {params : Arguments} {scope : Scope} {kd : Nat} {i : Int} {K : PySem.W.Frag}
end
end L2
namespace L2
open PySem
end L2
namespace L2
open PySem PySem.Spec PyProof.Rows
section
variable {X : Cx} {tg oe : Expr} {to : TE} {apos cpos : Pos}
end
def mIn (K : PySem.W.Frag) (neg : Bool) : R2 := fun x y H Q => match y with
  | .ref p => ∃ xs, (SqL K H p xs \/ SqT K H p xs) /\ flatV x = true /\ xs.all flatV = true /\ Q (.bl (neg ^^ inV x xs)) H
  | _ => False
section
variable {X : Cx} {K : PySem.W.Frag}
theorem kIn (hK : X.K = K := by rfl) : OpR X (compareOp .In) (mIn K false) := by
  subst hK
  intro pins s σ H x y v u Q I rx ry h
  cases y with
  | ref p =>
    obtain ⟨xs, h1, h2, h3, q⟩ := h
    exact op_in_seq pins s σ H x _ v u Q I rx ry ⟨p, xs, rfl, h1, h2, h3, by simpa using q⟩
  | _ => exact False.elim h
end
section
variable {X : Cx} {K : PySem.W.Frag}
end
end L2
namespace L2
theorem on1 {α : Type} {P : List α -> Prop} (h : ∀ a, P [a]) : ∀ us : List α, us.length = 1 -> P us
  | [a], _ => h a
theorem on2 {α : Type} {P : List α -> Prop} (h : ∀ a b, P [a, b]) : ∀ us : List α, us.length = 2 -> P us
  | [a, b], _ => h a b
theorem on3 {α : Type} {P : List α -> Prop} (h : ∀ a b c, P [a, b, c]) : ∀ us : List α, us.length = 3 -> P us
  | [a, b, c], _ => h a b c
open PySem in
theorem star_lst {xs es : List PySem.Expr} {p : Pos} {env : Env} : starEach (.List xs p :: es) env = (false, eval (.List xs p) env) :: starEach es env := by rfl
end L2
namespace L2
open PySem
def isComp : Expr -> Bool
  | .ListComp .. => true
  | .SetComp .. => true
  | .DictComp .. => true
  | _ => false
theorem swaps_not {e : Expr} {t : Option Expr} {l : Nat} {env : Env} (h : isComp e = false) : swapsWith e t l env = pure false := by
  cases e <;> first | rfl | cases h
theorem ps_setN {X : Cx} {pos : Pos} {i : Nat} {x : Str} {e : Expr} {te : TE} {pos' : Pos} (hN : X.N.Nodup) (hi : X.N[i]? = some x) (hx : Loc X.env.scope x) (he : PE X e te) (hs : isComp e = false) (hf : X.fn x = true \/ X.env.scope.names.lookup x = some .local) :
    PS X (.Assign [.Name x pos'] e pos) (tAsg te (gName i)) := ps_set hN hi hx he (swaps_not hs) hf
end L2
namespace L2
open PySem PyProof.Rows
section
variable {prog : Program} {w : World} {A : Around} {E : Value -> Shared -> Prop} {s : Shared}
end
section
variable {X : Cx}
end
abbrev IsZp (h : Heap) (z TI TO : Addr) (f0 bb : Value) : Prop :=
  h.get? z = some { cls := .type "zip", dict := none, data := .fields #[f0, bb, .bool false, .ref TI, .ref TO], slots := #[] }
section
variable {prog : Program} {w : World} {A : Around} {E : Value -> Shared -> Prop} {s : Shared}
end
section
variable {prog : Program} {w : World} {A : Around} {E : Value -> Shared -> Prop} {s : Shared}
structure ZS (z TI TO i1 i2 l1 l2 T0 : Addr) (xs ys : Array Value) (i : Nat) (h : Heap) : Prop where
  zp : (i = 0 /\ IsZip h z TI TO .none) \/ (0 < i /\ (∃ b, IsZp h z TI TO (rawInt T0) b) /\ ∃ a b, IsPair h T0 a b)
  ti : IsPair h TI (.ref i1) (.ref i2)
  to : ∃ a b, IsPair h TO a b
  a1 : h.IsTupleIter i1 l1 i
  a2 : h.IsTupleIter i2 l2 i
  t1 : h.IsTuple l1 xs
  t2 : h.IsTuple l2 ys
end
section
variable {prog : Program} {w : World} {A : Around} {R : Result -> Shared -> Prop}
end
section
variable {prog : Program} {w : World} {A : Around} {R : Result -> Shared -> Prop} {s : Shared}
end
section
variable {prog : Program} {w : World} {A : Around} {E : Value -> Shared -> Prop} {s : Shared}
end
theorem Inv.many {X : Cx} {pins : List (Addr × Obj)} {σ : St} {H H2 : Hp} {s : Shared} {h' : Heap} {t' : Nat} (I : Inv X pins σ H s) (k : ∀ b u, s.heap.get? b = some u -> h'.get? b = some u) (sm : ∀ b o, H b = some o -> H2 b = some o)
    (nw : ∀ b o, H2 b = some o -> H b = none -> s.heap.objs.size <= b /\ ObjOk X.prog X.w H2 h' b o) : Inv X pins σ H2 { s with heap := h', toks := t' } := by
  refine I.step (g' := s.gens) (d' := s.drawn) (t' := t') (ch := []) (fun b hb => nomatch hb) (fun b u _ _ _ e _ => k b u e) (fun b u _ _ _ e _ => ⟨u.slots, k b u e⟩) (fun b u _ e n => ?_) (fun b u _ e => ⟨u, k b u e⟩)
    (fun b xs e => sm _ _ e) (fun b o u e => sm _ _ e) (fun b ps e => ⟨#[], by rw [sm _ _ e]; simp⟩) (fun m hm => ?_) (fun b u e => ?_) I.bare
  . cases q : H2 b with
    | none => rfl
    | some o => exact absurd (Heap.lt_size e) (Nat.not_lt.mpr (nw b o q n).1)
  . obtain ⟨u, es, ep, ho, r⟩ := hm
    exact ⟨u, es, ep, k _ u ho, r⟩
  . cases q : H b with
    | none => exact (nw b u e q).2
    | some o =>
      have := sm b o q
      rw [this] at e
      cases e
      exact (I.hok b _ q).stay (fun c v _ q => k c v q) (fun c q => sm _ _ q) fun c xs q => sm _ _ q
theorem vals_refs : ∀ ps : List Addr, Vals (ps.map V.ref) (ps.map Value.ref)
  | [] => .nil
  | p :: ps => .cons rfl (vals_refs ps)
section
variable {X : Cx}
end
end L2
namespace L2
open PySem
def ins : Nat -> Nat -> Nat -> Nat
  | 0, b, q => 2 * q + b
  | i + 1, b, q => 2 * ins i b (q / 2) + q % 2
end L2
namespace L2
open PySem PyProof.Rows
section
variable {prog : Program} {w : World} {A : Around} {E : Value -> Shared -> Prop} {s : Shared}
end
section
variable {prog : Program} {w : World} {K : Type} [DecidableEq K] {knd : KeyKind prog w K} {A : Around} {R : Result -> Shared -> Prop}
end
section
variable {prog : Program} {w : World} {K : Type} [DecidableEq K] {knd : KeyKind prog w K} {A : Around} {E : Value -> Shared -> Prop} {s : Shared}
end
section
variable {X : Cx}
end
section
variable {prog : Program} {w : World} {A : Around} {E : Value -> Shared -> Prop} {s : Shared}
end
section
variable {prog : Program} {w : World} {A : Around} {E : Value -> Shared -> Prop} {s : Shared}
end
section
variable {prog : Program} {w : World} {K : Type} [DecidableEq K] {knd : KeyKind prog w K} {A : Around} {R : Result -> Shared -> Prop}
end
section
variable {prog : Program} {w : World} {K : Type} [DecidableEq K] {knd : KeyKind prog w K} {A : Around} {E : Value -> Shared -> Prop} {s : Shared}
end
section
variable {X : Cx}
end
section
variable {X : Cx}
end
section
variable {X : Cx} {K : PySem.W.Frag}
end
section
variable {X : Cx} {K : PySem.W.Frag} {o e e2 : Expr} {to : TE} {t : TA} {apos cpos : Pos}
end
end L2
namespace L2
open PySem PySem.Spec PyProof.Rows
section
variable {X : Cx} {K : PySem.W.Frag}
end
end L2
namespace L2
open PySem PyProof.Rows
section
variable {X : Cx}
end
section
variable {X : Cx}
end
def mIsiE (K : PySem.W.Frag) : List V -> Hp -> VK -> Prop := fun xs H Q => mIsiD K xs H Q \/ mIsi K xs H Q
section
variable {X : Cx} {K : PySem.W.Frag}
theorem cm_isiE : CallR X (.builtin "isinstance") (mIsiE X.K) := by
  intro pins s σ H xs us Q I r q
  rcases q with q | q
  . exact cm_isiD pins s σ H xs us Q I r q
  . exact cm_isi pins s σ H xs us Q I r q
theorem kIsiE (hK : X.K = K := by rfl) : CallR X (.builtin "isinstance") (mIsiE K) := hK ▸ cm_isiE
end
end L2
namespace HT
open PySem PyProof.Rows
section
variable {prog : Program} {w : World} {A : Around} {E : Value -> Shared -> Prop} {s : Shared}
theorem getItem_tuple_whole {t sl : Addr} {items : Array Value} {vl vu : Value} {lo hi : Option Int} {Q : Value -> Shared -> Prop} (ht : IsTup s.heap t items) (hs : s.heap.IsSliceOf sl vl vu .none) (pl : IsPart vl lo) (pu : IsPart vu hi)
    (hw : sIx items.size 0 lo = 0 /\ sIx items.size items.size hi = items.size)
    (h : Q (.ref t) s) : wpAny (model prog w) A (getItem (.ref t) (.ref sl)) Q E s := by
  obtain ⟨os, hos, hcs, hds⟩ := id hs
  have hTs : s.TypeIs (.ref sl) "slice" := ⟨os, hos, hcs⟩
  unfold getItem
  try with_reducible refine wpAny_holding ?_
  first | refine wpAny_bind (wpAny_pure ?_) | skip
  refine wpAny_bind (wpAny_sequenceKey ht.typeIs (by decide) ?_)
  refine wpAny_bind (wpAny_callSpecial?_slot (name := Str.ofString "__getitem__") ht.typeIs PyProof.Rows.slot_tuple_getitem
    (wpAny_call_entry PyProof.Rows.slot_tuple_getitem ht.typeIs entry_tuple_getitem ?_ (args_tuple_getitem _ _)))
  show wpAny _ _ (Builtin.Tuple.tupleItemsOf (.ref t) >>= _) _ _ s
  refine wpAny_bind (tupleItemsOf_ ht ?_)
  refine wpAny_bind (wpAny_typeOf hTs ?_)
  rw [if_pos (by decide)]
  refine wpAny_bind (sliceApplied_gen hs pl pu ?_)
  rw [hw.1, hw.2]
  show wpAny _ _ (if (((0 : Nat) : Int) == 0 && (1 : Int) == 1 && (items.size - 0) == items.size) = true then _ else _) _ _ s
  have hyes : (((0 : Nat) : Int) == 0 && (1 : Int) == 1 && (items.size - 0) == items.size) = true := by simp
  rw [if_pos hyes]
  unfold Builtin.Tuple.tupleIsExact
  refine wpAny_bind (wpAny_bind (wpAny_typeOf ht.typeIs (wpAny_pure ?_)))
  rw [if_pos (by decide)]
  refine wpAny_bind (wpAny_rule ?_)
  first
    | exact wpAny_bind (wpAny_pure ⟨_, rfl, wpAny_pure h⟩)
    | exact wpAny_pure ⟨_, rfl, wpAny_pure h⟩
    | exact wpAny_bind (wpAny_pure (wpAny_pure ⟨_, rfl, wpAny_pure h⟩))
    | exact wpAny_bind (wpAny_bind (wpAny_pure (wpAny_pure ⟨_, rfl, wpAny_pure h⟩)))
end
end HT
namespace L2
open PySem PySem.Spec PyProof.Rows
section
variable {X : Cx} {K : PySem.W.Frag} {e sx : Expr} {te ts : TE} {lo hi : Option Expr} {tl th : TO} {pos p2 : Pos}
def mCutA (K : PySem.W.Frag) : V -> Option Int -> Option Int -> Hp -> VK -> Prop := fun x lo hi H Q => match x with
  | .ref a => ∃ xs, SqT K H a xs /\ ∀ p H', Same H H' -> SqT K H' p (cutV xs lo hi) -> Q (.ref p) H'
  | _ => False
theorem sl_cutA : SlR X (mCutA X.K) := by
  intro pins s σ H x v vl vu lo hi sl Q I rx hs pl pu q
  cases x with
  | ref a =>
    obtain ⟨xs, hx, q⟩ := q
    by_cases hw : HT.sIx xs.length 0 lo = 0 /\ HT.sIx xs.length xs.length hi = xs.length
    . cases rx
      obtain ⟨its, r, ht, hz⟩ := I.tuple hx
      have hlen : its.toArray.size = xs.length := by rw [List.size_toArray]; exact r.length.symm
      refine ⟨"tuple", _, PyProof.Rows.slot_tuple_getitem.lookup, ht.typeIs, ?_⟩
      refine HT.getItem_tuple_whole ht hs pl pu (by rw [hlen]; exact hw) ⟨.ref a, H, I, rfl, q a H (fun _ _ h => h) ?_⟩
      have : cutV xs lo hi = xs := by
        unfold cutV
        rw [hw.1, hw.2, List.drop_zero, List.take_of_length_le (by omega)]
      rw [this]
      exact hx
    . exact sl_tup pins s σ H _ v vl vu lo hi sl Q I rx hs pl pu ⟨a, xs, rfl, hx, hw, fun p hp => q p _ (Same.upd hp) (.of upd_same)⟩
  | _ => exact False.elim q
theorem kCutA (he : PE X e te) (hl : PO X lo tl) (hu : PO X hi th) (hK : X.K = K := by rfl) : PE X (.Subscript e (.Slice lo hi none p2) pos) (tSl (mCutA K) te tl th) := hK ▸ pe_slice sl_cutA he hl hu
end
end L2
namespace HT
open PySem PyProof.Rows
section
variable {prog : Program} {w : World} {A : Around} {E : Value -> Shared -> Prop} {s : Shared}
theorem cat_none {t b : Addr} {ws : List Value} {Q : Value -> Shared -> Prop} (ht : IsTup s.heap t #[]) (hb : IsTup s.heap b ws.toArray) (h : Q (.ref b) s) :
    wpAny (model prog w) A (binaryOp .Add (.ref t) (.ref b)) Q E s := by
  obtain ⟨⟨cls, dd, data, sl⟩, ho, hc, n, hd⟩ := id ht
  obtain ⟨⟨cls2, dd2, data2, sl2⟩, ho2, hc2, n2, hd2⟩ := id hb
  simp only at hc hd hc2 hd2
  subst hc hd hc2 hd2
  exact concat_meets ⟨_, ho, rfl⟩ ⟨_, ho2, rfl⟩ noFill_tuple_add seq_tuple_add PySem.F.slot_tuple_add PySem.F.entry_tuple_add (PySem.F.args_tuple_add_2 _ _)
    (tuple_addW0 t b #[] ws.toArray n n2 dd dd2 sl sl2 rfl) ⟨ho, ho2, h⟩
end
end HT
namespace L2
open PySem PySem.Spec PyProof.Rows
section
variable {X : Cx} {K : PySem.W.Frag}
def mAddA (K : PySem.W.Frag) : R2 := fun x y H Q => match x, y with
  | .int i, .int j => Q (.int (i + j)) H
  | .ref a, .ref b => rCat (.ref a) (.ref b) H Q \/ ∃ xs ys, SqT K H a xs /\ SqT K H b ys /\ xs.length + ys.length <= sizeLine /\ ∀ p H', Same H H' -> SqT K H' p (xs ++ ys) -> Q (.ref p) H'
  | _, _ => False
theorem om_addA : OpR X (binaryOp .Add) (mAddA X.K) := by
  intro pins s σ H x y v u Q I rx ry q
  cases x <;> cases y <;> first
    | exact False.elim q
    | exact op_add pins s σ H _ _ v u Q I rx ry ⟨_, _, rfl, rfl, q⟩
    | skip
  rename_i a b
  rcases q with q | ⟨xs, ys, ha, hb, hz, q⟩
  . exact op_cat pins s σ H _ _ v u Q I rx ry q
  by_cases hx : xs = []
  . subst hx
    cases rx
    cases ry
    obtain ⟨its, r1, p1, _⟩ := I.tuple ha
    obtain ⟨its2, r2, p2, _⟩ := I.tuple hb
    cases r1
    exact HT.cat_none p1 p2 ⟨.ref b, H, I, rfl, q b H (fun _ _ h => h) hb⟩
  . exact op_catT pins s σ H _ _ v u Q I rx ry ⟨a, b, xs, ys, rfl, rfl, ha, hb, hx, hz, fun e => q a H (fun _ _ h => h) (by rw [e, List.append_nil]; exact ha), fun _ p hp => q p _ (Same.upd hp) (.of upd_same)⟩
theorem kAddA (hK : X.K = K := by rfl) : OpR X (binaryOp .Add) (mAddA K) := hK ▸ om_addA
end
section
variable {X : Cx} {K : PySem.W.Frag}
end
section
variable {X : Cx} {K : PySem.W.Frag} {e sx : Expr} {te ts : TE} {lo hi : Option Expr} {tl th : TO} {pos p2 : Pos}
end
abbrev BV := List (List Bool × Addr × V)
abbrev BVr : BV -> List (List Bool × Addr × Value) -> Prop := Paired fun p q => p.1 = q.1 /\ p.2.1 = q.2.1 /\ RelV p.2.2 q.2.2
def dV (P : Program) (w : World) (a : Addr) (kvs : BV) : HO := .ext fun h => ∃ xs o es ep, BVr kvs xs /\ h.get? a = some o /\ o.ExactDict /\ o.data = .dict es ep /\ es.toList = xs.map (entryOfKey (tupleKind (boolKind P w))) /\ (xs.map (·.1)).Nodup /\ xs.length <= sizeLine /\ (a == sysModules) = false
def KeysV (H : Hp) (kvs : BV) : Prop := ∀ q ∈ kvs, H q.2.1 = some (.tup (q.1.map V.bl))
section
variable {P : Program} {w : World} {H : Hp} {h : Heap} {a : Addr}
end
theorem KeysV.same {H H' : Hp} {kvs : BV} (h : KeysV H kvs) (s : ∀ b ys, H b = some (.tup ys) -> H' b = some (.tup ys)) : KeysV H' kvs := fun q hq => s _ _ (h q hq)
theorem KeysV.upd {P : Program} {w : World} {H : Hp} {kvs k1 : BV} {a : Addr} {o : HO} (h : KeysV H kvs) (e : H a = some (dV P w a k1)) : KeysV (upd H a o) kvs := fun q hq => by
  have := h q hq
  rw [upd_ne (fun z => by rw [z, e] at this; exact nomatch Option.some.inj this)]
  exact this
section
variable {X : Cx} {o i e f value : Expr} {pos pos' tpos apos cpos : Pos} {td ty tx tv : TE}
end
section
variable {X : Cx} {P : Program} {w : World} {o i e f : Expr} {pos apos cpos : Pos} {td ty tx : TE}
end
section
variable {prog : Program} {w : World} {A : Around} {E : Value -> Shared -> Prop} {s : Shared} {d it : Addr} {o : Obj} {es : Array DictEntry} {ep i : Nat}
end
section
variable {X : Cx} {pins : List (Addr × Obj)} {σ : St} {H : Hp} {s : Shared}
theorem BVr.get {kvs : BV} {xs : List (List Bool × Addr × Value)} (r : BVr kvs xs) : ∀ {i : Nat} {q : List Bool × Addr × V}, kvs[i]? = some q -> ∃ x, xs[i]? = some x /\ x.2.1 = q.2.1 := by
  induction r with
  | nil => intro i q e; simp at e
  | @cons a b l1 l2 h t ih =>
    intro i q e
    cases i with
    | zero =>
      simp at e; subst e
      exact ⟨b, by simp, h.2.1.symm⟩
    | succ i =>
      obtain ⟨v, h1, h2⟩ := ih (i := i) (q := q) (by simpa using e)
      exact ⟨v, by simpa using h1, h2⟩
end
section
variable {X : Cx} {K : PySem.W.Frag}
end
section
variable {X : Cx} {K : PySem.W.Frag}
end
open Classical in
noncomputable def dataU (K : PySem.W.Frag) (H : Hp) (u : Value) : Dv := if h : ∃ d x, RelV x u /\ Rep K H d x then h.choose else .non
section
variable {X : Cx} {K : PySem.W.Frag} {pins : List (Addr × Obj)} {σ : St} {H : Hp} {s : Shared}
end
structure GFd (H : Hp) (t l : Addr) (N : Nat) : Prop where
  at_ : ∃ (i g c : Int) (ns : List Int), 0 <= i /\ 0 <= g /\ 0 <= c /\ c <= N /\ H t = some (.lst [.ref l, .int i, .int g, .int c]) /\ l ≠ t /\ H l = some (.lst (ns.map V.int)) /\ ns.length ≠ 0
theorem GFd.same {H H' : Hp} {t l : Addr} {N : Nat} (F : GFd H t l N) (h : Same H H') : GFd H' t l N := by
  obtain ⟨i, g, c, ns, h1, h2, h3, h4, h5, h6, h7, h8⟩ := F.at_
  exact ⟨i, g, c, ns, h1, h2, h3, h4, h _ _ h5, h6, h _ _ h7, h8⟩
theorem GFd.upd {H : Hp} {t l p : Addr} {o : HO} {N : Nat} (F : GFd H t l N) (h : H p = none) : GFd (L2.upd H p o) t l N := F.same (Same.upd h)
inductive Dw where
  | non | bl (b : Bool) | int (i : Int) | str (x : Str) | tup (ds : List Dw) | lst (ds : List Dw) | emp
def LstP (a : Addr) (xs : List V) : Heap -> Prop := fun h => a ≠ sysModules /\ ∃ (its : List Value) (n : Nat), Vals xs its /\ h.get? a = some { cls := .type "list", data := .seq its.toArray n }
mutual
def RepW (K : PySem.W.Frag) (H : Hp) : Dw -> V -> Prop
  | .non, v => v = .non
  | .bl b, v => v = .bl b
  | .int i, v => v = .int i
  | .str x, v => v = .str x
  | .tup ds, v => ∃ a xs, v = .ref a /\ SqT K H a xs /\ RepsW K H ds xs
  | .lst ds, v => ∃ a xs, v = .ref a /\ H a = some (.ext (LstP a xs)) /\ RepsW K H ds xs
  | .emp, v => ∃ a, v = .ref a /\ H a = some (.dK [])
def RepsW (K : PySem.W.Frag) (H : Hp) : List Dw -> List V -> Prop
  | [], xs => xs = []
  | d :: ds, xs => ∃ x r, xs = x :: r /\ RepW K H d x /\ RepsW K H ds r
end
theorem RepsW.length {K : PySem.W.Frag} {H : Hp} : ∀ {ds : List Dw} {xs : List V}, RepsW K H ds xs -> ds.length = xs.length
  | [], xs, h => by unfold RepsW at h; subst h; rfl
  | d :: ds, xs, h => by
    unfold RepsW at h
    obtain ⟨x, r, rfl, _, h⟩ := h
    rw [List.length_cons, List.length_cons, RepsW.length h]
theorem RepsW.get {K : PySem.W.Frag} {H : Hp} : ∀ {ds : List Dw} {xs : List V} {i : Nat} {d : Dw}, RepsW K H ds xs -> ds[i]? = some d -> ∃ x, xs[i]? = some x /\ RepW K H d x
  | [], _, _, _, _, e => by simp at e
  | d :: ds, xs, 0, _, h, e => by
    unfold RepsW at h
    obtain ⟨x, r, rfl, h1, _⟩ := h
    simp at e; subst e
    exact ⟨x, rfl, h1⟩
  | d :: ds, xs, i + 1, _, h, e => by
    unfold RepsW at h
    obtain ⟨x, r, rfl, _, h⟩ := h
    obtain ⟨y, h1, h2⟩ := RepsW.get (i := i) h (by simpa using e)
    exact ⟨y, by simpa using h1, h2⟩
mutual
theorem RepW.same {K : PySem.W.Frag} {H H' : Hp} (s : Same H H') : ∀ (d : Dw) (v : V), RepW K H d v -> RepW K H' d v
  | .non, v, h => by unfold RepW at *; exact h
  | .bl b, v, h => by unfold RepW at *; exact h
  | .int i, v, h => by unfold RepW at *; exact h
  | .str x, v, h => by unfold RepW at *; exact h
  | .emp, v, h => by unfold RepW at *; obtain ⟨a, e, h⟩ := h; exact ⟨a, e, s _ _ h⟩
  | .tup ds, v, h => by
    unfold RepW at *
    obtain ⟨a, xs, e, h1, h2⟩ := h
    exact ⟨a, xs, e, sqT_same h1 s, RepsW.same s ds xs h2⟩
  | .lst ds, v, h => by
    unfold RepW at *
    obtain ⟨a, xs, e, h1, h2⟩ := h
    exact ⟨a, xs, e, s _ _ h1, RepsW.same s ds xs h2⟩
theorem RepsW.same {K : PySem.W.Frag} {H H' : Hp} (s : Same H H') : ∀ (ds : List Dw) (xs : List V), RepsW K H ds xs -> RepsW K H' ds xs
  | [], xs, h => by unfold RepsW at *; exact h
  | d :: ds, xs, h => by
    unfold RepsW at *
    obtain ⟨x, r, e, h1, h2⟩ := h
    exact ⟨x, r, e, RepW.same s d x h1, RepsW.same s ds r h2⟩
end
section
variable {X : Cx} {K : PySem.W.Frag} {es : List Expr} {t : TA} {pos : Pos}
end
mutual
def depW : Dw -> Nat
  | .tup ds => depWs ds + 1
  | .lst ds => depWs ds + 1
  | .emp => 1
  | _ => 0
def depWs : List Dw -> Nat
  | [] => 0
  | d :: ds => max (depW d) (depWs ds)
end
mutual
def bulkW : Dw -> Nat
  | .str x => x.cps.size
  | .tup ds => bulkWs ds
  | .lst ds => bulkWs ds
  | _ => 0
def bulkWs : List Dw -> Nat
  | [] => 0
  | d :: ds => bulkW d + 1 + bulkWs ds
end
section
variable {X : Cx} {pins : List (Addr × Obj)} {σ : St} {H : Hp} {s : Shared}
end
section
variable {X : Cx} {K : PySem.W.Frag}
end
mutual
def okW (n : Nat) : Dw -> Bool
  | .int i => decide (i.natAbs <= n)
  | .str x => x.cps.toList.all fun c => decide (c < 16 ^ 8)
  | .tup ds => okWs n ds
  | .lst ds => okWs n ds
  | _ => true
def okWs (n : Nat) : List Dw -> Bool
  | [] => true
  | d :: ds => okW n d && okWs n ds
end
structure Fit (n D B : Nat) (d : Dw) : Prop where
  ok : okW n d = true
  dep : depW d <= D
  bulk : bulkW d <= B
section
variable {X : Cx} {K : PySem.W.Frag}
end
def Ris (xs : Array Nat) : Prop := xs.toList.Pairwise (· < ·)
structure TabG (w : World) (t : SetTable) : Prop where
  led : t.led = !w.params.followText "set-order"
  ris : Ris t.place
def SetW (P : Program) (w : World) (h : Heap) (a : Addr) (S : Int -> Bool) (n : Nat) : Prop :=
  ∃ o es ep t, h.get? a = some o /\ o.ExactSet /\ o.data = .set es ep t /\ ElemsOf (intKind P w) es.toList /\ (∀ k, S k = true ↔ ∃ e ∈ es.toList, (intKind P w).is k e.2 = true) /\ es.size < scanBound /\ t.fits es.size = true /\ es.size = n /\ TabG w t
section
variable {P : Program} {w : World} {A : Around} {E : Value -> Shared -> Prop} {s : Shared} {a : Addr}
theorem SetW.at {h h' : Heap} {S : Int -> Bool} {n : Nat} (x : SetW P w h a S n) (k : ∀ o, h.get? a = some o -> h'.get? a = some o) : SetW P w h' a S n := by
  obtain ⟨o, es, ep, t, h1, r⟩ := x; exact ⟨o, es, ep, t, k _ h1, r⟩
theorem SetW.of {h : Heap} {S : Int -> Bool} {n : Nat} (x : SetW P w h a S n) : h.SetOf (intKind P w) a S n := by
  obtain ⟨o, es, ep, t, h1, h2, h3, h4, h5, h6, h7, h8, _⟩ := x; exact ⟨o, es, ep, t, h1, h2, h3, h4, h5, h6, h7, h8⟩
end
section
variable {P : Program} {w : World} {A : Around} {E : Value -> Shared -> Prop} {s : Shared} {a : Addr}
end
namespace F
end F
def IsSetIter (h : Heap) (I : Addr) (f : Value) (i : Nat) (a : Addr) (n ep : Nat) : Prop := ∃ o, h.get? I = some o /\ o.cls = .type "set_iterator" /\ o.data = .fields #[f, .int i 0, .ref a, .int n 0, .int ep 0]
theorem IsSetIter.at {h h' : Heap} {I a : Addr} {f : Value} {i n ep : Nat} (x : IsSetIter h I f i a n ep) (e : ∀ o, h.get? I = some o -> h'.get? I = some o) : IsSetIter h' I f i a n ep := let ⟨o, ho, r⟩ := x; ⟨o, e _ ho, r⟩
section
variable {P : Program} {w : World} {A : Around} {E : Value -> Shared -> Prop} {s : Shared} {a I : Addr}
end
section
variable {P : Program} {w : World} {A : Around} {E : Value -> Shared -> Prop} {s : Shared} {a I : Addr}
end
end L2
namespace L2
open PySem PySem.Spec PyProof.Rows PySem.W PySem.Calls
section
variable {P : Program} {w : World} {A : Around} {E : Value -> Shared -> Prop} {s : Shared} {a I : Addr}
end
end L2
namespace L2
open PySem PySem.Spec PyProof.Rows
section
variable {X : Cx} {K : PySem.W.Frag} {P : Program} {w : World}
variable {C : Addr} {f : Str} {e o value : Expr} {ta tv td ty : TE} {pos pos' : Pos}
end
end L2
namespace L2
open PySem PySem.Spec PyProof.Rows PySem.W
def KOn {α : Type} (lt : Nat -> Nat -> Bool) (N : Nat) (R : α -> Prop) : KasT α -> Prop
  | .ret a => R a
  | .ask i j k => i < N /\ j < N /\ KOn lt N R (k (lt i j))
theorem kon_bind {α β : Type} {lt : Nat -> Nat -> Bool} {N : Nat} {R : β -> Prop} {f : α -> KasT β} : ∀ {t : KasT α}, KOn lt N (fun a => KOn lt N R (f a)) t -> KOn lt N R (t.bind f)
  | .ret _, h => h
  | .ask _ _ _, ⟨a, b, h⟩ => ⟨a, b, kon_bind h⟩
theorem kon_mono {α : Type} {lt : Nat -> Nat -> Bool} {N : Nat} {R R' : α -> Prop} (h : ∀ a, R a -> R' a) : ∀ {t : KasT α}, KOn lt N R t -> KOn lt N R' t
  | .ret a, x => h a x
  | .ask _ _ _, ⟨a, b, x⟩ => ⟨a, b, kon_mono h x⟩
theorem kon_wp {α : Type} {lt : Nat -> Nat -> Bool} {N : Nat} {R : α -> Prop} {cmp : Nat -> Nat -> (Bool -> Shared -> Prop) -> Shared -> Prop} {s : Shared} {Q : α -> Shared -> Prop} (hc : ∀ i j C, i < N -> j < N -> C (lt i j) s -> cmp i j C s) (hq : ∀ a, R a -> Q a s) : ∀ {t : KasT α}, KOn lt N R t -> t.kasWp cmp Q s
  | .ret a, x => hq a x
  | .ask i j k, ⟨a, b, x⟩ => hc i j _ a b (kon_wp hc hq x)
def PmN (N : Nat) (p : Array Nat) : Prop := p.toList.Perm (List.range N)
theorem PmN.lt {N : Nat} {p : Array Nat} (h : PmN N p) (hN : 0 < N) (k : Nat) : p.getD k 0 < N := by
  by_cases e : k < p.size
  . have : p.getD k 0 ∈ p.toList := by simp [Array.getD, e]
    exact List.mem_range.mp (h.mem_iff.mp this)
  . simp [Array.getD, e, hN]
theorem pmN_of {N : Nat} {p q : Array Nat} (h : PmN N p) (x : q.Perm p) : PmN N q := x.toList.trans h
theorem kon_asc {lt : Nat -> Nat -> Bool} {N : Nat} (hN : 0 < N) {p : Array Nat} (h : PmN N p) : ∀ (f n : Nat), KOn lt N (fun _ => True) (kas_asc p f n)
  | 0, n => trivial
  | f + 1, n => ⟨h.lt hN _, h.lt hN _, by dsimp only; split; exact trivial; exact kon_asc hN h f (n + 1)⟩
theorem kon_desc {lt : Nat -> Nat -> Bool} {N : Nat} (hN : 0 < N) : ∀ (f : Nat) (p : Array Nat) (n q : Nat), PmN N p -> KOn lt N (fun r => PmN N r.1) (kas_desc f p n q)
  | 0, p, n, q, h => h
  | f + 1, p, n, q, h => by
    refine ⟨h.lt hN _, h.lt hN _, ?_⟩
    dsimp only
    split
    . split
      . exact kon_desc hN f _ _ _ (pmN_of h (mirror_perm ..))
      . exact kon_desc hN f _ _ _ h
    . refine ⟨h.lt hN _, h.lt hN _, ?_⟩
      dsimp only
      split
      . exact h
      . exact kon_desc hN f _ _ _ h
theorem kon_tail3 {lt : Nat -> Nat -> Bool} {N : Nat} (hN : 0 < N) (n m : Nat) (p : Array Nat) (h : PmN N p) : KOn lt N (fun r => PmN N r.2) (kas_tail3 n m p) := by
  have h' : PmN N (kas_rev p 0 n) := pmN_of h (mirror_perm ..)
  exact kon_bind (kon_mono (fun _ _ => h') (kon_asc hN h' _ _))
theorem kon_descPart {lt : Nat -> Nat -> Bool} {N : Nat} (hN : 0 < N) (n m : Nat) (p : Array Nat) (h : PmN N p) : KOn lt N (fun r => PmN N r.2) (kas_descPart n m p) := by
  refine kon_bind (kon_mono (fun r hr => ?_) (kon_desc hN _ _ _ _ h))
  split
  . exact kon_tail3 hN _ _ _ (pmN_of hr (mirror_perm ..))
  . exact kon_tail3 hN _ _ _ hr
theorem kon_count {lt : Nat -> Nat -> Bool} {N : Nat} (hN : 0 < N) (m : Nat) (p : Array Nat) (h : PmN N p) : KOn lt N (fun r => PmN N r.2) (kas_count m p) := by
  refine kon_bind (kon_mono (fun r _ => ?_) (kon_asc hN h _ _))
  split
  . exact h
  . split
    . refine ⟨h.lt hN _, h.lt hN _, ?_⟩
      dsimp only
      split
      . exact h
      . exact kon_descPart hN _ _ _ (pmN_of h (mirror_perm ..))
    . exact kon_descPart hN _ _ _ h
theorem kon_place {lt : Nat -> Nat -> Bool} {N : Nat} (hN : 0 < N) {p : Array Nat} (h : PmN N p) (k : Nat) : ∀ (f l r : Nat), KOn lt N (fun _ => True) (kas_place p k f l r)
  | 0, l, r => trivial
  | f + 1, l, r => by
    unfold kas_place
    split
    . exact trivial
    . refine ⟨h.lt hN _, h.lt hN _, ?_⟩
      dsimp only
      split
      . exact kon_place hN h k f _ _
      . exact kon_place hN h k f _ _
theorem kon_bin {lt : Nat -> Nat -> Bool} {N : Nat} (hN : 0 < N) : ∀ (f : Nat) (p : Array Nat) (k : Nat), PmN N p -> KOn lt N (PmN N) (kas_bin f p k)
  | 0, p, k, h => h
  | f + 1, p, k, h => kon_bind (kon_mono (fun l _ => kon_bin hN f _ _ (pmN_of h (bubble_perm ..))) (kon_place hN h k _ _ _))
theorem kon_sort {lt : Nat -> Nat -> Bool} {N : Nat} (hN : 0 < N) : KOn lt N (PmN N) (kas_sort N) := by
  have h0 : PmN N (List.toArray (List.range N)) := by unfold PmN; simp
  refine kon_bind (kon_mono (fun r hr => ?_) (kon_count hN _ _ h0))
  split
  . exact kon_bin hN _ _ _ hr
  . exact hr
theorem kon_stay {lt : Nat -> Nat -> Bool} {N : Nat} (hN : 0 < N) (ha : ∀ i, i + 1 < N -> lt (i + 1) i = false) : KOn lt N (fun p => p = List.toArray (List.range N)) (kas_sort N) := by
  have g : ∀ k, k < N -> (List.toArray (List.range N)).getD k 0 = k := fun k hk => by simp [Array.getD, hk]
  have asc : ∀ (f n : Nat), 1 <= n -> n + f = N -> KOn lt N (fun m => m = N) (kas_asc (List.toArray (List.range N)) f n) := by
    intro f
    induction f with
    | zero => intro n _ e; show n = N; omega
    | succ f ih =>
      intro n h1 e
      have e1 := g n (by omega)
      have e2 := g (n - 1) (by omega)
      refine ⟨by rw [e1]; omega, by rw [e2]; omega, ?_⟩
      rw [e1, e2]
      have : lt n (n - 1) = false := by have := ha (n - 1) (by omega); rwa [show n - 1 + 1 = n by omega] at this
      rw [this]
      show KOn lt N _ (if false = true then _ else _)
      rw [if_neg (by simp)]
      exact ih (n + 1) (by omega) (by omega)
  refine kon_bind (kon_mono (fun r (hr : r = (N, List.toArray (List.range N))) => ?_) ?_)
  . subst hr
    dsimp only
    rw [if_neg (Nat.lt_irrefl _)]
    rfl
  . refine kon_bind (kon_mono (fun n (hn : n = N) => ?_) (asc (N - 1) 1 (Nat.le_refl _) (by omega)))
    subst hn
    rw [if_pos (by simp)]
    rfl
end L2
namespace L2
open PySem PySem.Spec PyProof.Rows PySem.W PySem.Calls
section
variable {P : Program} {w : World} {A : Around} {E : Value -> Shared -> Prop} {s : Shared}
def PairAt (h : Heap) (v : Value) (k x : Int) : Prop := ∃ a t u, v = .ref a /\ h.get? a = some { cls := .type "tuple", data := .seq #[.int k t, .int x u] }
theorem ask_pair {v v' : Value} {k x k' x' : Int} {C : Bool -> Shared -> Prop} (h1 : PairAt s.heap v k x) (h2 : PairAt s.heap v' k' x') (hs : k = k' -> x = x') (h : C (decide (k < k')) s) :
    wpAny (model P w) A (keyLt' (tuples' true) v v') C (fun _ _ => False) s := by
  obtain ⟨a, t, u, rfl, ha⟩ := h1
  obtain ⟨a', t', u', rfl, ha'⟩ := h2
  refine kat_lt ha rfl ha' rfl ?_
  show KatLex P w A true _ C [(.int k t, .int k' t'), (.int x u, .int x' u')] 0 s
  refine kat_cons (wpAny_eqBool_int (kat_go (fun e => kat_yes ?_) (fun e => kat_no ?_)))
  . have e : k = k' := by simpa using e
    have e2 := hs e
    subst e e2
    refine kat_cons (wpAny_eqBool_int (kat_go (fun _ => kat_yes (kat_nil ?_)) (fun e => ?_)))
    . rw [show decide (k < k) = false by simp] at h
      exact h
    . simp at e
  . exact oneLt_int h
theorem PairAt.keep {h h' : Heap} {v : Value} {k x : Int} (p : PairAt h v k x) (e : ∀ b o, o.cls = .type "tuple" -> h.get? b = some o -> h'.get? b = some o) : PairAt h' v k x := by
  obtain ⟨a, t, u, rfl, ha⟩ := p
  exact ⟨a, t, u, rfl, e _ _ rfl ha⟩
theorem katTups_pairs {h : Heap} : ∀ {vs : List Value}, (∀ v ∈ vs, ∃ k x, PairAt h v k x) -> ∃ fs : List Value, KatTups h vs fs /\ fs.length = vs.length /\ ∀ f ∈ fs, ∃ k t, f = .int k t
  | [], _ => ⟨[], .nil, rfl, nofun⟩
  | v :: vs, hv => by
    obtain ⟨k, x, a, t, u, rfl, ha⟩ := hv v (by simp)
    obtain ⟨fs, h1, h2, h3⟩ := katTups_pairs (vs := vs) fun v' h' => hv v' (List.mem_cons_of_mem _ h')
    refine ⟨.int k t :: fs, KatTups.cons ha rfl rfl rfl h1, by simp [h2], fun f hf => ?_⟩
    rcases List.mem_cons.mp hf with rfl | z
    . exact ⟨k, t, rfl⟩
    . exact h3 f z
theorem sort_pairs {a : Addr} {vs : List Value} {n : Nat} {R : PySem.Fin -> Shared -> Prop} {kf xf : Nat -> Int} (ho : s.heap.get? a = some (seqObj "list" vs.toArray n)) (hp : ∀ i, i < vs.length -> PairAt s.heap (vs.getD i .none) (kf i) (xf i)) (hs : ∀ i j, i < vs.length -> j < vs.length -> kf i = kf j -> xf i = xf j) (h64 : vs.length < 64)
    (fin : ∀ p : Array Nat, PmN vs.length p -> ((∀ i, i + 1 < vs.length -> kf i < kf (i + 1)) -> p = List.toArray (List.range vs.length)) -> R (.done (.ret .none)) { s with heap := sortedHeap s.heap a vs (List.toArray (p.toList.map fun i => vs.getD i Value.none)) }) :
    wpAny (model P w) A (Builtin.«list.sort» ⟨[.ref a], []⟩) R E s := by
  rw [list_sort_plain]
  have ha : a < s.heap.objs.size := Heap.lt_size ho
  obtain ⟨e1, ho1⟩ : ∃ e1, (s.heap.update a (Obj.mapSeq fun _ => #[])).get? a = some (seqObj "list" #[] e1) := ⟨_, get?_update_seq ho (fun _ => #[])⟩
  refine wpAny_bind (listItems_at ho rfl (wpAny_bind (listUpdate_at ho rfl (wpAny_bind (seqEpoch_at ho1 rfl (wpAny_bind (wpAny_newTuple (wpAny_bind (wpAny_newList (wpAny_holding ?_)))))))))) 
  have ho6 : (((s.heap.update a (Obj.mapSeq fun _ => #[])).push (seqObj "tuple" vs.toArray 0)).push (seqObj "list" #[] 0)).get? a = some (seqObj "list" #[] e1) := Heap.get?_push_of_some _ (Heap.get?_push_of_some _ ho1)
  show wpAny (model P w) A _ R E { s with heap := ((s.heap.update a (Obj.mapSeq fun _ => #[])).push (seqObj "tuple" vs.toArray 0)).push (seqObj "list" #[] 0) }
  dsimp only
  have kp : ∀ b o, o.cls = .type "tuple" -> s.heap.get? b = some o -> (((s.heap.update a (Obj.mapSeq fun _ => #[])).push (seqObj "tuple" vs.toArray 0)).push (seqObj "list" #[] 0)).get? b = some o := fun b o hc e => by
    have hba : b ≠ a := fun z => by
      rw [z, ho] at e
      cases e
      exact absurd hc (show ¬ (Value.type "list" = Value.type "tuple") by decide)
    exact Heap.get?_push_of_some _ (Heap.get?_push_of_some _ (by rw [Heap.get?_update_ne _ _ _ _ hba]; exact e))
  have hsz : vs.toArray.size = vs.length := by simp
  by_cases h2 : vs.toArray.size < 2
  . rw [if_pos h2, if_pos h2]
    refine wpAny_bind (wpAny_pure ?_)
    rw [StateT.run_pure]
    refine wpAny_bind (wpAny_pure ?_); dsimp only
    refine wpAny_bind (seqEpoch_at ho6 rfl (wpAny_bind (listUpdate_at ho6 rfl ?_ (hsz2 := by rw [Array.size_map]; show (pairsOf vs).size <= _; rw [pairsOf_size, sizeLine_eq]; omega))))
    simp only [bne_self_eq_false, Bool.false_eq_true, if_false]
    have := fin (List.toArray (List.range vs.length)) (by unfold PmN; simp) (fun _ => rfl)
    have e : ((vs.toArray.zip vs.toArray).map (·.2)) = List.toArray ((List.toArray (List.range vs.length)).toList.map fun i => vs.getD i Value.none) := by
      apply Array.ext'
      simp
      apply List.ext_getElem
      . simp
      . intro i h1 h2
        simp at h1
        simp [h1]
    refine wpAny_pure ?_
    show R _ { s with heap := Heap.update (((s.heap.update a (Obj.mapSeq fun _ => #[])).push (seqObj "tuple" vs.toArray 0)).push (seqObj "list" #[] 0)) a (Obj.mapSeq fun _ => ((vs.toArray.zip vs.toArray).map (·.2))) }
    rw [e]
    exact this
  . rw [if_neg h2, if_neg h2]
    have hl2 : 2 <= vs.length := by rw [hsz] at h2; omega
    have hall : ∀ v ∈ vs, ∃ k x, PairAt (((s.heap.update a (Obj.mapSeq fun _ => #[])).push (seqObj "tuple" vs.toArray 0)).push (seqObj "list" #[] 0)) v k x := fun v hv => by
      obtain ⟨i, hi, e⟩ := List.getElem_of_mem hv
      have := hp i hi
      rw [List.getD_eq_getElem?_getD, List.getElem?_eq_getElem hi, e] at this
      exact ⟨_, _, this.keep kp⟩
    obtain ⟨fs, f1, f2, f3⟩ := katTups_pairs hall
    have hin : ∀ i, i < vs.length -> PairAt (((s.heap.update a (Obj.mapSeq fun _ => #[])).push (seqObj "tuple" vs.toArray 0)).push (seqObj "list" #[] 0)) (vs.getD i .none) (kf i) (xf i) := fun i hi => (hp i hi).keep kp
    refine wpAny_bind (kat_kind (T := Value.type "int") f1 (by omega) (fun v hv => ?_) (by decide) ?_)
    . obtain ⟨k, t, rfl⟩ := f3 v hv
      exact Looks.of_pure rfl
    rw [show (Value.type "int" != Value.type "tuple") = true by decide]
    refine wpAny_bind (wpAny_mono (kat_run (vs := vs) (ks := vs) (Q := fun st' s' => ∃ p : Array Nat, p.size = vs.length /\ arrOf st' = p.map (kas_item (vs.toArray.zip vs.toArray)) /\ failedOf st' = none /\ s' = { s with heap := ((s.heap.update a (Obj.mapSeq fun _ => #[])).push (seqObj "tuple" vs.toArray 0)).push (seqObj "list" #[] 0) } /\ PmN vs.length p /\ ((∀ i, i + 1 < vs.length -> kf i < kf (i + 1)) -> p = List.toArray (List.range vs.length)))
      rfl hl2 h64 (fun p' st' s' a1 a2 a3 a4 => ⟨p', a1, a2, a3, a4⟩) ?_) ?_ fun _ _ e => e)
    . have key : KOn (fun i j => decide (kf i < kf j)) vs.length (fun p => PmN vs.length p /\ ((∀ i, i + 1 < vs.length -> kf i < kf (i + 1)) -> p = List.toArray (List.range vs.length))) (kas_sort vs.length) := by
        by_cases hr : ∀ i, i + 1 < vs.length -> kf i < kf (i + 1)
        . refine kon_mono (fun p hpp => ?_) (kon_stay (by omega) fun i hi => ?_)
          . subst hpp
            exact ⟨by unfold PmN; simp, fun _ => rfl⟩
          . have := hr i hi
            simp
            omega
        . exact kon_mono (fun p hpp => ⟨hpp, fun z => absurd z hr⟩) (kon_sort (by omega))
      refine kon_wp (R := fun p => PmN vs.length p /\ ((∀ i, i + 1 < vs.length -> kf i < kf (i + 1)) -> p = List.toArray (List.range vs.length))) (fun i j C hi hj hC => ?_) (fun p hpp => ⟨rfl, hpp⟩) key
      exact ask_pair (hin i hi) (hin j hj) (hs i j hi hj) hC
    . rintro ⟨⟨⟩, st'⟩ s' ⟨p, hp1, har, hf, rfl, hpm, hst⟩
      dsimp only
      have hout := kat_snds rfl har
      have hsz3 : (List.toArray (p.toList.map fun i => vs.getD i Value.none)).size = vs.length := by rw [List.size_toArray, List.length_map, Array.length_toList, hp1]
      rw [hout]
      refine wpAny_bind (seqEpoch_at ho6 rfl ?_)
      refine wpAny_bind (listUpdate_at ho6 rfl ?_ (Nat.zero_le _) (Nat.le_trans (Nat.le_of_eq hsz3) (by rw [sizeLine_eq]; omega)))
      rw [hf]
      simp only [bne_self_eq_false, Bool.false_eq_true, if_false]
      exact wpAny_pure (fin p hpm hst)
end
end L2
namespace L2
open PySem PySem.Spec PyProof.Rows PySem.W
section
variable {P : Program} {w : World} {A : Around} {E : Value -> Shared -> Prop} {s : Shared}
theorem pm_at {α : Type} [Inhabited α] {vs : List α} {p : Array Nat} (h : PmN vs.length p) (df : α) : (p.toList.map fun i => vs.getD i df).Perm vs := by
  have := h.map (fun i => vs.getD i df)
  refine this.trans ?_
  have e : (List.range vs.length).map (fun i => vs.getD i df) = vs := by
    apply List.ext_getElem
    . simp
    . intro i h1 h2
      simp [h2]
  rw [e]
theorem sorted_items {r d : Addr} {ps : List (Int × Int)} {kvs : List (Key × Value)} {ep : Nat} {Q : Value -> Shared -> Prop} (hh : A.handled = none) (hv : s.heap.IsItemsView r d) (hm : s.heap.DictAt (mixKind P w) d kvs ep) (hl : kvs.length = ps.length)
    (hp : ∀ (i : Nat) k x, kvs[i]? = some (k, x) -> ∃ q t, ps[i]? = some q /\ k = Sum.inl q.1 /\ x = .int q.2 t) (hu : ∀ (i j : Nat) (q q' : Int × Int), ps[i]? = some q -> ps[j]? = some q' -> q.1 = q'.1 -> q.2 = q'.2) (h64 : ps.length < 64)
    (fin : ∀ (h' : Heap) tk (L : Addr) (as : List Addr) (rs : List (Int × Int)) (e : Nat), rs.Perm ps -> ((∀ i q q', ps[i]? = some q -> ps[i + 1]? = some q' -> q.1 < q'.1) -> rs = ps) -> as.length = rs.length -> as.Nodup -> (∀ a ∈ as, s.heap.objs.size <= a /\ a < L) -> (∀ (i : Nat) a q, as[i]? = some a -> rs[i]? = some q -> PairAt h' (.ref a) q.1 q.2) ->
      h'.get? L = some (seqObj "list" (as.map Value.ref).toArray e) -> r < L -> (∀ b o, s.heap.get? b = some o -> h'.get? b = some o) -> Q (.ref L) { s with heap := h', toks := tk }) :
    wpAny (model P w) A (call (.builtin "sorted") [.ref r]) Q E s := by
  have hz : ps.length <= sizeLine := Nat.le_trans (Nat.le_of_lt h64) (by decide)
  refine Calls.call_function_entry kind_sorted plain_sorted entry_sorted (args_sorted1 _) ?_
  unfold Builtin.«sorted»
  refine wpAny_bind (m := checkCount "sorted" 1 1 _) (wpAny_pure (wpAny_bind (kdx_collect (A := A.in1) hh hv hm (by rw [hl]; exact hz) fun h' tk as hk hal g => ?_)))
  have hal' : as.length = ps.length := hal.trans hl
  refine wpAny_bind (wpAny_newList ?_ (by rw [List.length_map, hal']; exact hz))
  have hoL : (h'.push (seqObj "list" (as.map Value.ref).toArray 0)).get? h'.objs.size = some (seqObj "list" (as.map Value.ref).toArray 0) := Heap.get?_push_size _ rfl
  have hlt : r < h'.objs.size := by
    obtain ⟨o, ho, _⟩ := id hv
    exact Heap.lt_size (hk _ _ ho)
  have at_ : ∀ (i : Nat) a, as[i]? = some a -> ∃ q, ps[i]? = some q /\ PairAt h' (.ref a) q.1 q.2 := fun i a e => by
    obtain ⟨key, k, x, e1, e2, e3⟩ := g.pairs i a e
    obtain ⟨q, t, e4, rfl, rfl⟩ := hp i k x e1
    have e2 : keyIs (Sum.inl q.1) key = true := e2
    rcases keyIs_shape e2 with ⟨j, t', e5, rfl⟩ | ⟨_, _, e5, _⟩
    . cases e5
      exact ⟨q, e4, a, t', t, rfl, e3⟩
    . cases e5
  have vl : (as.map Value.ref).length = ps.length := by rw [List.length_map, hal']
  have up : ∀ b o, h'.get? b = some o -> (h'.push (seqObj "list" (as.map Value.ref).toArray 0)).get? b = some o := fun b o e => Heap.get?_push_of_some _ e
  refine wpAny_bind (wpAny_holding (wpAny_call_entry slot_list_sort ⟨_, hoL, rfl⟩ entry_list_sort (sort_pairs (kf := fun i => (ps.getD i (0, 0)).1) (xf := fun i => (ps.getD i (0, 0)).2) hoL (fun i hi => ?_) (fun i j hi hj e => ?_) (by omega) fun p pm stay => ⟨_, rfl, ?_⟩) (args_list_sort _)))
  . rw [vl] at hi
    have hia : i < as.length := by omega
    obtain ⟨q, e1, e2⟩ := at_ i as[i] (by simp [hia])
    have e3 : (as.map Value.ref).getD i .none = .ref as[i] := by simp [hia]
    have e4 : ps.getD i (0, 0) = q := by rw [List.getD_eq_getElem?_getD, e1]; rfl
    rw [e3, e4]
    exact e2.keep fun b o _ e => up b o e
  . rw [vl] at hi hj
    have e1 : ps[i]? = some (ps.getD i (0, 0)) := by simp [List.getD_eq_getElem?_getD, hi]
    have e2 : ps[j]? = some (ps.getD j (0, 0)) := by simp [List.getD_eq_getElem?_getD, hj]
    exact hu i j _ _ e1 e2 e
  . rw [vl] at pm stay
    obtain ⟨e, he⟩ := sortedHeap_at (out := List.toArray (p.toList.map fun i => (as.map Value.ref).getD i Value.none)) hoL
    have old : ∀ b o, h'.get? b = some o -> (sortedHeap (h'.push (seqObj "list" (as.map Value.ref).toArray 0)) h'.objs.size (as.map Value.ref) (List.toArray (p.toList.map fun i => (as.map Value.ref).getD i Value.none))).get? b = some o := fun b o q => by
      have hlt2 := Heap.lt_size q
      rw [sortedHeap_old (Nat.ne_of_lt hlt2) (by rw [Heap.size_push]; exact Nat.lt_succ_of_lt hlt2)]
      exact up _ _ q
    have hmem : ∀ i ∈ p.toList, i < ps.length := fun i hi => List.mem_range.mp (pm.mem_iff.mp hi)
    have eo : (p.toList.map fun i => (as.map Value.ref).getD i Value.none) = (p.toList.map fun i => as.getD i 0).map Value.ref := by
      rw [List.map_map]
      refine List.map_congr_left fun i hi => ?_
      have : i < as.length := by have := hmem i hi; omega
      simp [this]
    rw [eo] at he old ⊢
    have pa : (p.toList.map fun i => as.getD i 0).Perm as := pm_at (by rw [hal']; exact pm) 0
    have pr : (p.toList.map fun i => ps.getD i (0, 0)).Perm ps := pm_at pm (0, 0)
    refine wpAny_pure ⟨_, rfl, fin _ tk h'.objs.size (p.toList.map fun i => as.getD i 0) (p.toList.map fun i => ps.getD i (0, 0)) e pr (fun hr => ?_) (by simp) ?_ (fun a ha => ?_) (fun i a q h1 h2 => ?_) he hlt fun b o q => old b o (hk b o q)⟩
    . have : p = List.toArray (List.range ps.length) := stay fun i hi => by
        have e1 : ps[i]? = some (ps.getD i (0, 0)) := by simp [List.getD_eq_getElem?_getD, show i < ps.length by omega]
        have e2 : ps[i + 1]? = some (ps.getD (i + 1) (0, 0)) := by simp [List.getD_eq_getElem?_getD, hi]
        exact hr i _ _ e1 e2
      rw [this]
      apply List.ext_getElem
      . simp
      . intro i h1 h2
        simp [h2]
    . refine pa.nodup_iff.mpr (g.rise.imp fun h => Nat.ne_of_lt h)
    . have ha' := pa.mem_iff.mp ha
      exact ⟨Nat.le_of_lt (g.above a ha'), g.there ha'⟩
    . rw [List.getElem?_map] at h1 h2
      obtain ⟨j, e1, rfl⟩ := Option.map_eq_some_iff.mp h1
      rw [e1] at h2
      cases h2
      have hj := hmem j (List.mem_of_getElem? e1)
      obtain ⟨q, e3, e4⟩ := at_ j (as.getD j 0) (by simp [List.getD_eq_getElem?_getD, show j < as.length by omega])
      have e5 : ps.getD j (0, 0) = q := by rw [List.getD_eq_getElem?_getD, e3]; rfl
      dsimp only
      rw [e5]
      exact e4.keep fun b o _ e => old b o e
end
def tSI (to : TE) : TE := fun σ H Q => to σ H fun v H1 => match v with
  | .ref d => ∃ ps : List (Int × Int), H1 d = some (.dK (ps.map fun q => (Sum.inl q.1, V.int q.2))) /\ ps.length < 64 /\ ∀ (l : Addr) (H2 : Hp) (as : List Addr) (rs : List (Int × Int)), rs.Perm ps -> ((∀ i q q', ps[i]? = some q -> ps[i + 1]? = some q' -> q.1 < q'.1) -> rs = ps) ->
      H1 l = none -> Same H1 H2 -> H2 l = some (.lst (as.map V.ref)) -> as.length = rs.length -> (∀ (i : Nat) a q, as[i]? = some a -> rs[i]? = some q -> H2 a = some (.tup [.int q.1, .int q.2])) -> Q (.ref l) H2
  | _ => False
section
variable {X : Cx}
theorem kSortI {oe : Expr} {to : TE} {p pos apos cpos : Pos} (hc : X.calm = true) (hg : Gl X "sorted") (hm : X.mg "sorted" = none) (ho : PE X oe to) (hbase : attributeBase oe "items" X.env (eval oe X.env) = eval oe X.env := by rfl) (hline : (apos.endLine == cpos.line) = true := by rfl)
    (hs : starEach [.Call (.Attribute oe "items" apos) [] [] cpos] X.env = [(false, eval (.Call (.Attribute oe "items" apos) [] [] cpos) X.env)] := by rfl) :
    PE X (.Call (.Name "sorted" p) [.Call (.Attribute oe "items" apos) [] [] cpos] [] pos) (tSI to) := by
  intro pins s σ H Q I h
  refine Call_ (ld_blt I hg hm (by rfl : bootBuiltins "sorted" = some (.builtin "sorted")) (PyProof.Rows.callWith_builtin1 ?_ (by rw [hs]; rfl) (by rfl)))
  rw [hs]
  show wpAny _ _ (spliced ((false, eval (.Call (.Attribute oe "items" apos) [] [] cpos) X.env) :: [])) _ _ s
  refine Calls.spliced_cons ?_
  refine wpAny_Call_method0_late hbase hline (thn (ho pins s σ H _ I h) fun v s1 ⟨x, H1, I1, r1, q1⟩ => ?_)
  match x, q1, r1 with
  | .ref d, ⟨ps, hd, h64, q⟩, r1 =>
  cases r1
  obtain ⟨hl, hsm, vs, rv, dd⟩ := dk_of I1.hok hd
  obtain ⟨o, es, ep, e1, e2, e3, _⟩ := id dd
  refine ⟨"dict", "dict.items", PySem.F.plainAttrs_dict, PySem.F.slot_dict_items, PySem.F.type_dict_items, dd.typeIs, fun a ea => ?_, Calls.callWith_builtin rfl (PySem.evalArgs_none ?_)⟩
  . cases ea; exact ⟨o, e1, e2.2.1⟩
  refine call_meetsIn PySem.F.slot_dict_items dd.typeIs PySem.F.entry_dict_items (PySem.F.args_dict_items_1 _) (meets_dict_items (mixKind X.prog X.w) d hsm) ⟨⟨vs, dd⟩, ?_⟩
  refine Calls.spliced_nil ?_
  have keep0 : ∀ b u, s1.heap.get? b = some u -> (s1.heap.push { cls := .type "dict_items", data := .fields #[.ref d] }).get? b = some u := fun b u e => Heap.get?_push_of_some _ e
  have hv : (s1.heap.push { cls := .type "dict_items", data := .fields #[.ref d] }).IsItemsView s1.heap.objs.size d := ⟨_, Heap.get?_push_size _ rfl, rfl, rfl⟩
  have hsz0 : (s1.heap.push { cls := .type "dict_items", data := .fields #[.ref d] }).objs.size = s1.heap.objs.size + 1 := Heap.size_push ..
  obtain ⟨da, _⟩ := dictAt_of e1 e3 dd
  have da := da.push { cls := .type "dict_items", data := .fields #[.ref d] }
  have rl := rv.len
  rw [List.length_map] at rl
  have nd : (vs.map (·.1)).Nodup := by
    obtain ⟨_, _, _, _, _, _, _, _, z⟩ := id dd
    exact z
  have vat : ∀ (i : Nat) k x, vs[i]? = some (k, x) -> ∃ q t, ps[i]? = some q /\ k = Sum.inl q.1 /\ x = .int q.2 t := fun i k x e => by
    have hi : i < ps.length := by rw [rl]; exact (List.getElem?_eq_some_iff.mp e).1
    have e0 : (ps.map fun q => ((Sum.inl q.1 : Key), V.int q.2))[i]? = some (Sum.inl ps[i].1, V.int ps[i].2) := by simp [hi]
    obtain ⟨v, e4, ⟨t, e5⟩⟩ := rv.get e0
    rw [e] at e4
    cases e4
    exact ⟨ps[i], t, by simp [hi], rfl, e5⟩
  refine sorted_items (s := { s1 with heap := s1.heap.push { cls := .type "dict_items", data := .fields #[.ref d] } }) (ps := ps) (I.ok.hd hc) hv da rl.symm vat (fun i j q q' h1 h2 h3 => ?_) h64 fun h' tk L as rs e a1 a2 a3 a4 a5 a6 a7 a8 a9 => ?_
  . have g : ∀ (i : Nat) (q : Int × Int), ps[i]? = some q -> (vs.map (·.1))[i]? = some (Sum.inl q.1) := fun i q e => by
      have hi : i < vs.length := by rw [<- rl]; exact (List.getElem?_eq_some_iff.mp e).1
      obtain ⟨q', t, x1, x2, _⟩ := vat i vs[i].1 vs[i].2 (by simp [hi])
      rw [e] at x1
      cases x1
      simp [hi, x2]
    have g1 := g i q h1
    have g2 := g j q' h2
    rw [h3] at g1
    have hi := (List.getElem?_eq_some_iff.mp g1).1
    have : i = j := (List.getElem?_inj hi nd).mp (g1.trans g2.symm)
    subst this
    rw [h1] at h2
    cases h2
    rfl
  have keep : ∀ b u, s1.heap.get? b = some u -> h'.get? b = some u := fun b u e => a9 b u (keep0 b u e)
  have hfree : ∀ b, s1.heap.objs.size <= b -> H1 b = none := fun b hb => I1.hok.fresh hb
  have hLs : s1.heap.objs.size <= L := Nat.le_of_lt a8
  have has : ∀ a ∈ as, s1.heap.objs.size <= a /\ a < L := fun a ha => ⟨Nat.le_trans (by show _ <= (s1.heap.push _).objs.size; rw [hsz0]; exact Nat.le_succ _) (a5 a ha).1, (a5 a ha).2⟩
  let tp : Addr -> Option HO := fun b => if b ∈ as then (rs[as.idxOf b]?).map fun q => HO.tup [.int q.1, .int q.2] else none
  let H2 : Hp := fun b => if b = L then some (.lst (as.map V.ref)) else if b ∈ as then (rs[as.idxOf b]?).map fun q => HO.tup [.int q.1, .int q.2] else H1 b
  have hL : H2 L = some (.lst (as.map V.ref)) := if_pos rfl
  have sm : ∀ b o, H1 b = some o -> H2 b = some o := fun b o e => by
    have hb : b < s1.heap.objs.size := by
      rcases Nat.lt_or_ge b s1.heap.objs.size with z | z
      . exact z
      . rw [hfree b z] at e; cases e
    show (if b = L then _ else if b ∈ as then _ else H1 b) = _
    rw [if_neg (Nat.ne_of_lt (Nat.lt_of_lt_of_le hb hLs)), if_neg (fun z => absurd (has b z).1 (Nat.not_le.mpr hb))]
    exact e
  have hT : ∀ (i : Nat) a q, as[i]? = some a -> rs[i]? = some q -> H2 a = some (.tup [.int q.1, .int q.2]) := fun i a q h1 h2 => by
    have hm := List.mem_of_getElem? h1
    have hi := (List.getElem?_eq_some_iff.mp h1).1
    have ei : as.idxOf a = i := by
      have := (List.getElem?_eq_some_iff.mp h1).2
      rw [<- this]
      exact a4.idxOf_getElem i hi
    show (if a = L then _ else if a ∈ as then (rs[as.idxOf a]?).map (fun q => HO.tup [.int q.1, .int q.2]) else H1 a) = _
    rw [if_neg (Nat.ne_of_lt (has a hm).2), if_pos hm, ei, h2]
    rfl
  refine ⟨.ref L, H2, I1.many keep sm fun b o hb n => ?_, rfl, q L H2 as rs a1 a2 (hfree L hLs) (fun b o e => sm b o e) hL a3 hT⟩
  have hb' : (if b = L then some (HO.lst (as.map V.ref)) else if b ∈ as then (rs[as.idxOf b]?).map (fun q => HO.tup [.int q.1, .int q.2]) else H1 b) = some o := hb
  by_cases c1 : b = L
  . rw [if_pos c1] at hb'
    cases hb'
    subst c1
    exact ⟨hLs, by rw [List.length_map, a3, a1.length_eq]; exact Nat.le_trans (Nat.le_of_lt h64) (by decide), as.map Value.ref, e, vals_refs as, a7⟩
  . rw [if_neg c1] at hb'
    by_cases c2 : b ∈ as
    . rw [if_pos c2] at hb'
      obtain ⟨q', e4, rfl⟩ := Option.map_eq_some_iff.mp hb'
      have e5 : as[as.idxOf b]? = some b := by
        rw [List.getElem?_eq_getElem (List.idxOf_lt_length_of_mem c2)]
        simp
      obtain ⟨a', t, u, z1, z2⟩ := a6 _ _ _ e5 e4
      cases z1
      exact ⟨(has b c2).1, small_le (show 2 <= 1000 by decide), [.int q'.1 t, .int q'.2 u], .cons ⟨t, rfl⟩ (.cons ⟨u, rfl⟩ .nil), ⟨_, z2, rfl, ⟨_, rfl⟩, rfl⟩⟩
    . rw [if_neg c2, n] at hb'
      cases hb'
end
end L2
namespace Mine
open PySem L2
def top (i : Nat) : Stmt := PySem.Challenge.pw_flips_k08_sums_by_kind.main.body.getD i (.Pass ⟨0, 0, 0, 0⟩)
abbrev s_is_whole : Stmt := top 1
abbrev s_is_below : Stmt := top 2
abbrev s_two_to : Stmt := top 3
abbrev s_power_of : Stmt := top 4
abbrev s_is_place : Stmt := top 6
abbrev s_is_sum : Stmt := top 10
abbrev s_has_terms : Stmt := top 11
abbrev s_is_pair : Stmt := top 12
abbrev s_are_terms : Stmt := top 13
abbrev s_is_term : Stmt := top 14
abbrev s__law_tape : Stmt := top 16
abbrev s__law_next : Stmt := top 17
abbrev s__law_two : Stmt := top 18
abbrev s__law_bits : Stmt := top 19
abbrev s__law_sign : Stmt := top 20
abbrev s__law_odd : Stmt := top 21
abbrev s__law_table : Stmt := top 22
abbrev s__law_sum : Stmt := top 23
abbrev s__law_wild : Stmt := top 24
abbrev s__law_is_number : Stmt := top 25
abbrev s__law_is_sum : Stmt := top 26
abbrev s__law_bent_term : Stmt := top 27
abbrev s__law_bent : Stmt := top 28
abbrev s_law : Stmt := top 29
local macro_rules | `(tactic| walk_at "f") => `(tactic| exact ⟨rfl, rfl, rfl, by decide +kernel, rfl, by decide +kernel, by decide +kernel⟩)
theorem sc_is_whole : FnScope ["thing"] ["thing"] (defScope s_is_whole) := by walk_at "f"
theorem sc_is_below : FnScope ["bound", "thing"] ["bound", "thing"] (defScope s_is_below) := by walk_at "f"
theorem sc_two_to : FnScope ["n"] ["n"] (defScope s_two_to) := by walk_at "f"
theorem sc_power_of : FnScope ["base", "times", "power", "step"] ["base", "times"] (defScope s_power_of) := by walk_at "f"
theorem sc_is_place : FnScope ["n", "thing"] ["n", "thing"] (defScope s_is_place) := by walk_at "f"
theorem sc_is_sum : FnScope ["thing"] ["thing"] (defScope s_is_sum) := by walk_at "f"
theorem sc_has_terms : FnScope ["thing"] ["thing"] (defScope s_has_terms) := by walk_at "f"
theorem sc_is_pair : FnScope ["thing"] ["thing"] (defScope s_is_pair) := by walk_at "f"
theorem sc_are_terms : FnScope ["n", "terms", "last", "term"] ["n", "terms"] (defScope s_are_terms) := by walk_at "f"
theorem sc_is_term : FnScope ["n", "thing"] ["n", "thing"] (defScope s_is_term) := by walk_at "f"
theorem sc__law_tape : FnScope ["_law_script"] ["_law_script"] (defScope s__law_tape) := by walk_at "f"
theorem sc__law_next : FnScope ["_law_tape_here", "_law_many", "_law_script", "_law_digit", "_law_cell", "_law_seed"] ["_law_tape_here", "_law_many"] (defScope s__law_next) := by walk_at "f"
theorem sc__law_two : FnScope ["_law_k"] ["_law_k"] (defScope s__law_two) := by walk_at "f"
theorem sc__law_bits : FnScope ["_law_n", "_law_number"] ["_law_n", "_law_number"] (defScope s__law_bits) := by walk_at "f"
theorem sc__law_sign : FnScope ["_law_n", "_law_one", "_law_place", "_law_shared"] ["_law_n", "_law_one", "_law_place"] (defScope s__law_sign) := by walk_at "f"
theorem sc__law_odd : FnScope ["_law_tape_here", "_law_some"] ["_law_tape_here"] (defScope s__law_odd) := by walk_at "f"
theorem sc__law_table : FnScope ["_law_tape_here", "_law_n", "_law_many", "_law_way", "_law_some", "_law_first", "_law_answers", "_law_seen", "_law_place", "_law_key", "_law_turn"] ["_law_tape_here", "_law_n"] (defScope s__law_table) := by walk_at "f"
theorem sc__law_sum : FnScope ["_law_table_here", "_law_n", "_law_terms", "_law_one", "_law_weight", "_law_place"] ["_law_table_here"] (defScope s__law_sum) := by walk_at "f"
theorem sc__law_wild : FnScope ["_law_tape_here", "_law_n", "_law_weights", "_law_turn", "_law_some"] ["_law_tape_here", "_law_n"] (defScope s__law_wild) := by walk_at "f"
theorem sc__law_is_number : FnScope ["_law_thing"] ["_law_thing"] (defScope s__law_is_number) := by walk_at "f"
theorem sc__law_is_sum : FnScope ["_law_thing", "_law_ahead", "_law_term"] ["_law_thing"] (defScope s__law_is_sum) := by walk_at "f"
theorem sc__law_bent_term : FnScope ["_law_tape_here", "_law_n", "_law_term", "_law_way", "_law_some"] ["_law_tape_here", "_law_n", "_law_term"] (defScope s__law_bent_term) := by walk_at "f"
theorem sc__law_bent : FnScope ["_law_tape_here", "_law_whole", "_law_n", "_law_terms", "_law_at", "_law_way"] ["_law_tape_here", "_law_whole"] (defScope s__law_bent) := by walk_at "f"
theorem sc_law : FnScope ["_law_script", "_law_tape_here", "_law_turn", "_law_n", "_law_whole", "_law_thing", "_law_found"] ["_law_script"] (defScope s_law) := by walk_at "f"
set_option genInjectivity false
set_option genSizeOf false
structure Txt (K : W.Frag) (mg : Str -> Option Value) where
  f_is_whole : Addr
  d_is_whole : FuncData
  F_is_whole : Fun K "is_whole" "is_whole" s_is_whole f_is_whole d_is_whole
  b_is_whole : Binds K d_is_whole ["thing"] []
  m_is_whole : mg "is_whole" = some (.ref f_is_whole)
  f_is_below : Addr
  d_is_below : FuncData
  F_is_below : Fun K "is_below" "is_below" s_is_below f_is_below d_is_below
  b_is_below : Binds K d_is_below ["bound", "thing"] []
  m_is_below : mg "is_below" = some (.ref f_is_below)
  f_two_to : Addr
  d_two_to : FuncData
  F_two_to : Fun K "two_to" "two_to" s_two_to f_two_to d_two_to
  b_two_to : Binds K d_two_to ["n"] []
  m_two_to : mg "two_to" = some (.ref f_two_to)
  f_power_of : Addr
  d_power_of : FuncData
  F_power_of : Fun K "power_of" "power_of" s_power_of f_power_of d_power_of
  b_power_of : Binds K d_power_of ["base", "times"] []
  m_power_of : mg "power_of" = some (.ref f_power_of)
  f_is_place : Addr
  d_is_place : FuncData
  F_is_place : Fun K "is_place" "is_place" s_is_place f_is_place d_is_place
  b_is_place : Binds K d_is_place ["n", "thing"] []
  m_is_place : mg "is_place" = some (.ref f_is_place)
  f_is_sum : Addr
  d_is_sum : FuncData
  F_is_sum : Fun K "is_sum" "is_sum" s_is_sum f_is_sum d_is_sum
  b_is_sum : Binds K d_is_sum ["thing"] []
  m_is_sum : mg "is_sum" = some (.ref f_is_sum)
  f_has_terms : Addr
  d_has_terms : FuncData
  F_has_terms : Fun K "has_terms" "has_terms" s_has_terms f_has_terms d_has_terms
  b_has_terms : Binds K d_has_terms ["thing"] []
  m_has_terms : mg "has_terms" = some (.ref f_has_terms)
  f_is_pair : Addr
  d_is_pair : FuncData
  F_is_pair : Fun K "is_pair" "is_pair" s_is_pair f_is_pair d_is_pair
  b_is_pair : Binds K d_is_pair ["thing"] []
  m_is_pair : mg "is_pair" = some (.ref f_is_pair)
  f_are_terms : Addr
  d_are_terms : FuncData
  F_are_terms : Fun K "are_terms" "are_terms" s_are_terms f_are_terms d_are_terms
  b_are_terms : Binds K d_are_terms ["n", "terms"] []
  m_are_terms : mg "are_terms" = some (.ref f_are_terms)
  f_is_term : Addr
  d_is_term : FuncData
  F_is_term : Fun K "is_term" "is_term" s_is_term f_is_term d_is_term
  b_is_term : Binds K d_is_term ["n", "thing"] []
  m_is_term : mg "is_term" = some (.ref f_is_term)
  f__law_tape : Addr
  d__law_tape : FuncData
  F__law_tape : Fun K "_law_tape" "_law_tape" s__law_tape f__law_tape d__law_tape
  b__law_tape : Binds K d__law_tape ["_law_script"] []
  m__law_tape : mg "_law_tape" = some (.ref f__law_tape)
  f__law_next : Addr
  d__law_next : FuncData
  F__law_next : Fun K "_law_next" "_law_next" s__law_next f__law_next d__law_next
  b__law_next : Binds K d__law_next ["_law_tape_here", "_law_many"] []
  m__law_next : mg "_law_next" = some (.ref f__law_next)
  f__law_two : Addr
  d__law_two : FuncData
  F__law_two : Fun K "_law_two" "_law_two" s__law_two f__law_two d__law_two
  b__law_two : Binds K d__law_two ["_law_k"] []
  m__law_two : mg "_law_two" = some (.ref f__law_two)
  f__law_bits : Addr
  d__law_bits : FuncData
  F__law_bits : Fun K "_law_bits" "_law_bits" s__law_bits f__law_bits d__law_bits
  b__law_bits : Binds K d__law_bits ["_law_n", "_law_number"] []
  m__law_bits : mg "_law_bits" = some (.ref f__law_bits)
  f__law_sign : Addr
  d__law_sign : FuncData
  F__law_sign : Fun K "_law_sign" "_law_sign" s__law_sign f__law_sign d__law_sign
  b__law_sign : Binds K d__law_sign ["_law_n", "_law_one", "_law_place"] []
  m__law_sign : mg "_law_sign" = some (.ref f__law_sign)
  f__law_odd : Addr
  d__law_odd : FuncData
  F__law_odd : Fun K "_law_odd" "_law_odd" s__law_odd f__law_odd d__law_odd
  b__law_odd : Binds K d__law_odd ["_law_tape_here"] []
  m__law_odd : mg "_law_odd" = some (.ref f__law_odd)
  f__law_table : Addr
  d__law_table : FuncData
  F__law_table : Fun K "_law_table" "_law_table" s__law_table f__law_table d__law_table
  b__law_table : Binds K d__law_table ["_law_tape_here", "_law_n"] []
  m__law_table : mg "_law_table" = some (.ref f__law_table)
  f__law_sum : Addr
  d__law_sum : FuncData
  F__law_sum : Fun K "_law_sum" "_law_sum" s__law_sum f__law_sum d__law_sum
  b__law_sum : Binds K d__law_sum ["_law_table_here"] []
  m__law_sum : mg "_law_sum" = some (.ref f__law_sum)
  f__law_wild : Addr
  d__law_wild : FuncData
  F__law_wild : Fun K "_law_wild" "_law_wild" s__law_wild f__law_wild d__law_wild
  b__law_wild : Binds K d__law_wild ["_law_tape_here", "_law_n"] []
  m__law_wild : mg "_law_wild" = some (.ref f__law_wild)
  f__law_is_number : Addr
  d__law_is_number : FuncData
  F__law_is_number : Fun K "_law_is_number" "_law_is_number" s__law_is_number f__law_is_number d__law_is_number
  b__law_is_number : Binds K d__law_is_number ["_law_thing"] []
  m__law_is_number : mg "_law_is_number" = some (.ref f__law_is_number)
  f__law_is_sum : Addr
  d__law_is_sum : FuncData
  F__law_is_sum : Fun K "_law_is_sum" "_law_is_sum" s__law_is_sum f__law_is_sum d__law_is_sum
  b__law_is_sum : Binds K d__law_is_sum ["_law_thing"] []
  m__law_is_sum : mg "_law_is_sum" = some (.ref f__law_is_sum)
  f__law_bent_term : Addr
  d__law_bent_term : FuncData
  F__law_bent_term : Fun K "_law_bent_term" "_law_bent_term" s__law_bent_term f__law_bent_term d__law_bent_term
  b__law_bent_term : Binds K d__law_bent_term ["_law_tape_here", "_law_n", "_law_term"] []
  m__law_bent_term : mg "_law_bent_term" = some (.ref f__law_bent_term)
  f__law_bent : Addr
  d__law_bent : FuncData
  F__law_bent : Fun K "_law_bent" "_law_bent" s__law_bent f__law_bent d__law_bent
  b__law_bent : Binds K d__law_bent ["_law_tape_here", "_law_whole"] []
  m__law_bent : mg "_law_bent" = some (.ref f__law_bent)
  f_law : Addr
  d_law : FuncData
  F_law : Fun K "law" "law" s_law f_law d_law
  b_law : Binds K d_law ["_law_script"] []
  m_law : mg "law" = some (.ref f_law)
  z_abs : mg "abs" = none
  z_all : mg "all" = none
  z_bool : mg "bool" = none
  z_int : mg "int" = none
  z_isinstance : mg "isinstance" = none
  z_len : mg "len" = none
  z_list : mg "list" = none
  z_max : mg "max" = none
  z_range : mg "range" = none
  z_sorted : mg "sorted" = none
  z_tuple : mg "tuple" = none
  z_zip : mg "zip" = none
  t_MOST_SWITCHES : Tok
  c_MOST_SWITCHES : mg "MOST_SWITCHES" = some (.int 6 t_MOST_SWITCHES)
  t_HEAVIEST : Tok
  c_HEAVIEST : mg "HEAVIEST" = some (.int 1000000000000 t_HEAVIEST)
set_option genInjectivity true
set_option genSizeOf true
section
variable {P : Program} {w : World} {K : W.Frag} {mg : Str -> Option Value} {base : Heap} (T : Txt K mg)
local macro_rules | `(tactic| walk_at "sm") => `(tactic| repeat' with_reducible first | exact sm_next | apply sm_seq | apply sm_asg | apply sm_drop | apply sm_if | apply sm_for | exact em_var | exact em_c | apply em_op | apply em_un | apply em_not | apply em_if | apply em_cb | apply em_call | apply em_tup | apply em_lst | apply em_comp | exact rm_add | exact rm_mul | exact rm_div | exact rm_mod | exact rm_pow | exact um_neg_ | exact rm_cmp | exact rm_eq | exact rm_ix | exact rm_notB | exact rm_getB | exact sm_setB | exact em_newB | apply tm_b | apply tm_and | exact am_nil | apply am_cons | exact cm_len_ | exact cm_max_ | exact cm_int_ | exact cm_tuple_ | apply im_rng1 | apply gm_sub | exact gm_name | apply gms_cons | exact gms_nil | exact sm_set | exact spNext_mono | apply im_zip | apply em_bm | exact bm_append | apply gm_seqs | assumption)
theorem vw {X : Cx} (i : Nat) {x : Str} {pos : Pos} (h : X.N[i]? = some x /\ Vis X.env.scope x /\ (x == ("__debug__" : Str)) = false /\ (x == ("__classdict__" : Str)) = false) : PE X (.Name x pos) (vVar i) := vv i h.1 h.2.1 h.2.2.1 h.2.2.2
theorem pa1 {X : Cx} {e : PySem.Expr} {te : TE} (ha : PE X e te) (hs : starEach [e] X.env = [(false, eval e X.env)]) : PA X [e] (tCons te tNil) := pa_cons ha pa_nil hs
local macro_rules | `(tactic| walk_at "v") => `(tactic| exact ⟨by rfl, by first | exact Or.inl rfl | exact Or.inr (Or.inl rfl) | exact Or.inr (Or.inr rfl), by decide, by decide⟩)
local macro_rules | `(tactic| walk_at "m") => `(tactic| with_reducible first | refine Exists.imp fun _ => ?_ | refine And.imp_right ?_ | refine forall_imp fun _ => ?_)
local macro_rules | `(tactic| walk_at "o") => `(tactic| first | exact Or.inl rfl | exact Or.inr (Or.inl rfl) | exact Or.inr (Or.inr rfl))
local macro_rules | `(tactic| walk_at "i") => `(tactic| first | exact .inl rfl | exact .inr rfl | assumption)
local macro_rules | `(tactic| walk_at "e") => `(tactic| first | exact Or.inl rfl | exact Or.inr rfl)
local macro_rules | `(tactic| walk_at "n") => `(tactic| first | exact nobehind _ (by decide) (by decide) | rfl)
theorem ok__law_tape : FnOk P w K mg base CX0 1 T.f__law_tape T.d__law_tape ["_law_script"] (spTape K) := by
  refine T.F__law_tape.ok sc__law_tape (fun vs H Q E h => by unfold spTape at h; split at h <;> first | rfl | exact h.elim) (fun cdv A outer s H vs Q E hr h => ?_)
  unfold spTape at h
  split at h
  rotate_left
  . exact h.elim
  rename_i a
  have k := h
  refine ⟨_, (@pss_one _ _ _ (@ps_ret _ _ _ _ (@pe_lst _ _ _ _ (@pa_cons _ _ _ _ _ (@vw _ 0 _ _ (by walk_at "v")) (@pa_cons _ _ _ _ _ (@pe_int _ _ _ _) (@pa_cons _ _ _ _ _ (@pe_int _ _ _ _) (@pa1 _ _ _ (@pe_int _ _ _ _) (by rfl)) (by rfl)) (by rfl)) (by rfl))))), ?_⟩
  exact ⟨by show 4 <= sizeLine; rw [sizeLine_eq]; decide, k⟩
theorem ok__law_next : FnOk P w K mg base CX0 1 T.f__law_next T.d__law_next ["_law_tape_here", "_law_many"] (spNext K) := by
  refine T.F__law_next.ok sc__law_next (fun vs H Q E h => by unfold spNext at h; split at h <;> first | rfl | exact h.elim) (fun cdv A outer s H vs Q E hr h => ?_)
  have hu := hu60 hr
  unfold spNext at h
  split at h
  rotate_left
  . exact h.elim
  rename_i t m
  obtain ⟨a, ns, TP, hm, k⟩ := h
  obtain ⟨⟨i, r, c, hi, hr0, ht⟩, hscr⟩ := id TP
  refine ⟨_, (@pss_cons _ _ _ _ _ (@ps_set _ _ 2 _ _ _ _ sc__law_next.nd rfl (by walk_at "e") (@kIx _ K _ _ _ _ _ (@vw _ 0 _ _ (by walk_at "v")) (@pe_int _ _ _ _) (by intro _ _; rfl) (by rfl)) (by rfl) (by walk_at "i")) (@pss_cons _ _ _ _ _ (@ps_asg _ _ _ _ _ _ (@pe_op _ _ _ _ _ _ _ _ (kAdd (K := K)) (@kIx _ K _ _ _ _ _ (@vw _ 0 _ _ (by walk_at "v")) (@pe_int _ _ _ _) (by intro _ _; rfl) (by rfl)) (@pe_int _ _ _ _)) (@pg_sub _ _ _ _ _ _ _ (@vw _ 0 _ _ (by walk_at "v")) (@pe_int _ _ _ _) set_any (by intro _; rfl)) (by rfl) (by rfl) (by rfl)) (@pss_cons _ _ _ _ _ (@ps_if _ _ _ _ _ _ _ _ (PW.pt (@pw_and _ _ _ _ _ _ _ (@tu_cmp _ _ _ _ _ _ _ _ (kEq (K := K) hu) (@kIx _ K _ _ _ _ _ (@vw _ 0 _ _ (by walk_at "v")) (@pe_int _ _ _ _) (by intro _ _; rfl) (by rfl)) (@pe_int _ _ _ _) (by walk_at "n")) (@pw_and1 _ _ _ _ (@tu_cmp _ _ _ _ _ _ _ _ om_lt (@kIx _ K _ _ _ _ _ (@vw _ 0 _ _ (by walk_at "v")) (@pe_int _ _ _ _) (by intro _ _; rfl) (by rfl)) (@pe_callB _ _ _ _ _ _ _ _ _ (kLen (K := K)) rfl T.z_len (by rfl) (@pa1 _ _ _ (@vw _ 2 _ _ (by walk_at "v")) (by rfl)) (by decide) (by decide) (by rfl) (by rfl)) (by walk_at "n"))))) (@pss_cons _ _ _ _ _ (@ps_asg _ _ _ _ _ _ (@pe_callB _ _ _ _ _ _ _ _ _ (cm_max rfl) rfl T.z_max (by rfl) (@pa_cons _ _ _ _ _ (@pe_int _ _ _ _) (@pa1 _ _ _ (@pe_op _ _ _ _ _ _ _ _ om_div (@kIx _ K _ _ _ _ _ (@vw _ 2 _ _ (by walk_at "v")) (@kIx _ K _ _ _ _ _ (@vw _ 0 _ _ (by walk_at "v")) (@pe_int _ _ _ _) (by intro _ _; rfl) (by rfl)) (by intro _ _; rfl) (by rfl)) (@pe_op _ _ _ _ _ _ _ _ om_pow (@pe_int _ _ _ _) (@pe_int _ _ _ _))) (by rfl)) (by rfl)) (by decide) (by decide) (by rfl) (by rfl)) (@pg_sub _ _ _ _ _ _ _ (@vw _ 0 _ _ (by walk_at "v")) (@pe_int _ _ _ _) set_any (by intro _; rfl)) (by rfl) (by rfl) (by rfl)) (@pss_one _ _ _ (@ps_asg _ _ _ _ _ _ (@pe_op _ _ _ _ _ _ _ _ (kAdd (K := K)) (@kIx _ K _ _ _ _ _ (@vw _ 0 _ _ (by walk_at "v")) (@pe_int _ _ _ _) (by intro _ _; rfl) (by rfl)) (@pe_int _ _ _ _)) (@pg_sub _ _ _ _ _ _ _ (@vw _ 0 _ _ (by walk_at "v")) (@pe_int _ _ _ _) set_any (by intro _; rfl)) (by rfl) (by rfl) (by rfl)))) (@pss_nil _)) (@pss_cons _ _ _ _ _ (@ps_if _ _ _ _ _ _ _ _ (@tu_cmp _ _ _ _ _ _ _ _ om_gt (@kIx _ K _ _ _ _ _ (@vw _ 0 _ _ (by walk_at "v")) (@pe_int _ _ _ _) (by intro _ _; rfl) (by rfl)) (@pe_int _ _ _ _) (by walk_at "n")) (@pss_cons _ _ _ _ _ (@ps_set _ _ 3 _ _ _ _ sc__law_next.nd rfl (by walk_at "e") (@pe_op _ _ _ _ _ _ _ _ om_mod (@kIx _ K _ _ _ _ _ (@vw _ 0 _ _ (by walk_at "v")) (@pe_int _ _ _ _) (by intro _ _; rfl) (by rfl)) (@vw _ 1 _ _ (by walk_at "v"))) (by rfl) (by walk_at "i")) (@pss_cons _ _ _ _ _ (@ps_asg _ _ _ _ _ _ (@pe_op _ _ _ _ _ _ _ _ om_div (@kIx _ K _ _ _ _ _ (@vw _ 0 _ _ (by walk_at "v")) (@pe_int _ _ _ _) (by intro _ _; rfl) (by rfl)) (@vw _ 1 _ _ (by walk_at "v"))) (@pg_sub _ _ _ _ _ _ _ (@vw _ 0 _ _ (by walk_at "v")) (@pe_int _ _ _ _) set_any (by intro _; rfl)) (by rfl) (by rfl) (by rfl)) (@pss_one _ _ _ (@ps_ret _ _ _ _ (@vw _ 3 _ _ (by walk_at "v")))))) (@pss_nil _)) (@pss_cons _ _ _ _ _ (@ps_set _ _ 4 _ _ _ _ sc__law_next.nd rfl (by walk_at "e") (@pe_ifExp _ _ _ _ _ _ _ _ (@tu_cmp _ _ _ _ _ _ _ _ om_gt (@pe_callB _ _ _ _ _ _ _ _ _ (kLen (K := K)) rfl T.z_len (by rfl) (@pa1 _ _ _ (@vw _ 2 _ _ (by walk_at "v")) (by rfl)) (by decide) (by decide) (by rfl) (by rfl)) (@pe_int _ _ _ _) (by walk_at "n")) (@kIx _ K _ _ _ _ _ (@vw _ 2 _ _ (by walk_at "v")) (@pe_op _ _ _ _ _ _ _ _ om_mod (@kIx _ K _ _ _ _ _ (@vw _ 0 _ _ (by walk_at "v")) (@pe_int _ _ _ _) (by intro _ _; rfl) (by rfl)) (@pe_callB _ _ _ _ _ _ _ _ _ (kLen (K := K)) rfl T.z_len (by rfl) (@pa1 _ _ _ (@vw _ 2 _ _ (by walk_at "v")) (by rfl)) (by decide) (by decide) (by rfl) (by rfl))) (by intro _ _; rfl) (by rfl)) (@pe_int _ _ _ _)) (by rfl) (by walk_at "i")) (@pss_cons _ _ _ _ _ (@ps_set _ _ 5 _ _ _ _ sc__law_next.nd rfl (by walk_at "e") (@pe_op _ _ _ _ _ _ _ _ om_mod (@pe_op _ _ _ _ _ _ _ _ om_mul (@pe_op _ _ _ _ _ _ _ _ (kAdd (K := K)) (@pe_op _ _ _ _ _ _ _ _ (kAdd (K := K)) (@pe_op _ _ _ _ _ _ _ _ om_mod (@vw _ 4 _ _ (by walk_at "v")) (@pe_int _ _ _ _)) (@pe_op _ _ _ _ _ _ _ _ om_mul (@pe_int _ _ _ _) (@kIx _ K _ _ _ _ _ (@vw _ 0 _ _ (by walk_at "v")) (@pe_int _ _ _ _) (by intro _ _; rfl) (by rfl)))) (@pe_int _ _ _ _)) (@pe_int _ _ _ _)) (@pe_int _ _ _ _)) (by rfl) (by walk_at "i")) (@pss_one _ _ _ (@ps_ret _ _ _ _ (@pe_op _ _ _ _ _ _ _ _ om_mod (@pe_op _ _ _ _ _ _ _ _ om_mod (@pe_op _ _ _ _ _ _ _ _ om_mul (@pe_op _ _ _ _ _ _ _ _ om_mod (@pe_op _ _ _ _ _ _ _ _ (kAdd (K := K)) (@pe_op _ _ _ _ _ _ _ _ om_mul (@vw _ 5 _ _ (by walk_at "v")) (@pe_int _ _ _ _)) (@kIx _ K _ _ _ _ _ (@vw _ 0 _ _ (by walk_at "v")) (@pe_int _ _ _ _) (by intro _ _; rfl) (by rfl))) (@pe_int _ _ _ _)) (@pe_int _ _ _ _)) (@pe_int _ _ _ _)) (@vw _ 1 _ _ (by walk_at "v"))))))))))), ?_⟩
  -- script = tape[0]; tape[3] = tape[3] + 1
  refine ⟨_, _, .inl (.of ht), rfl, _, _, .inl (.of ht), rfl, _, _, ht, rfl, ?_⟩
  have sc0 : ∀ {H1 : Hp}, (∀ b, b ≠ t -> H1 b = H b) -> ScrAt K H1 t a ns := fun h => hscr.stay fun o n e => by rw [h a n]; exact e
  have sc1 : ∀ {H1 : Hp}, (∀ b, b ≠ t -> H1 b = H b) -> SqL K H1 a (ns.map V.int) := fun h => (sc0 h).sq
  have f1 : ∀ {o : HO} {H1 : Hp}, (∀ b, b ≠ t -> H1 b = H b) -> ∀ b, b ≠ t -> upd H1 t o b = H b := fun h b n => by rw [upd_ne n]; exact h b n
  dsimp only
  refine seq_at (fun σ' H1 => σ' = [some (.ref t), some (.int m), some (.ref a), none, none, none] /\ (∀ b, b ≠ t -> H1 b = H b) /\ ∃ i r c : Int, 0 <= i /\ 0 <= r /\ H1 t = some (.lst [.ref a, .int i, .int r, .int c])) ?_ ?_ (by walk_at "sm")
  . -- the next number of the script, where the last one is used up
    have h1 : ∀ {o : HO} (b : Addr), b ≠ t -> upd H t o b = H b := fun b n => upd_ne n
    refine ⟨_, _, .inl (.of upd_same), rfl, ?_⟩
    refine ite2 (fun e => ?_) (fun e => ?_)
    . refine ⟨_, _, .inl (.of upd_same), rfl, ns.length, .inl ⟨_, sc1 h1, by rw [List.length_map]⟩, ?_⟩
      refine ite2 (fun e => ?_) (fun e => ?_)
      . have hlt : i < ns.length := of_decide_eq_true e
        obtain ⟨z, hz⟩ := atI_int hi hlt
        refine ⟨_, _, .inl (.of upd_same), rfl, _, _, .inl (sc1 h1), hz, ⟨by decide, by decide, by decide⟩, ⟨by decide, by decide⟩, ?_⟩
        refine ⟨_, _, upd_same, rfl, _, _, .inl (.of upd_same), rfl, _, _, upd_same, rfl, rfl, ?_, i + 1, max 0 (z / 10 ^ 18), c + 1, by omega, by omega, upd_same⟩
        exact f1 (f1 h1)
      . exact ⟨rfl, h1, i, r, c + 1, hi, hr0, upd_same⟩
    . exact ⟨rfl, h1, i, r, c + 1, hi, hr0, upd_same⟩
  rintro σ' H1 ⟨rfl, h1, i, r, c, hi, hr0, ht⟩
  have T1 : ∀ {H2 : Hp} {i r c : Int}, (∀ b, b ≠ t -> H2 b = H b) -> 0 <= i -> 0 <= r -> H2 t = some (.lst [.ref a, .int i, .int r, .int c]) -> Tape K H2 t a ns := fun h h1 h2 h3 => ⟨⟨_, _, _, h1, h2, h3⟩, sc0 h⟩
  -- a digit of it
  refine ⟨_, _, .inl (.of ht), rfl, ?_⟩
  have hm0 : 0 < m := hm.1
  refine ite2 (fun e => ?_) (fun e => ?_)
  . refine ⟨_, _, .inl (.of ht), rfl, hm0, _, _, .inl (.of ht), rfl, hm, _, _, ht, rfl, ?_⟩
    exact k _ _ (Int.emod_nonneg _ (by omega)) (Int.emod_lt_of_pos _ hm0) (T1 (f1 h1) hi (Int.ediv_nonneg hr0 (by omega)) upd_same) (f1 h1)
  -- else a number made of the cell
  dsimp only [tNext]
  refine seq_at (fun σ' H2 => H2 = H1 /\ ∃ z : Int, σ' = [some (.ref t), some (.int m), some (.ref a), none, some (.int z), none]) ?_ ?_ (by walk_at "sm")
  . refine ⟨ns.length, .inl ⟨_, sc1 h1, by rw [List.length_map]⟩, ?_⟩
    refine ite2 (fun e => ?_) (fun e => ?_)
    . have hlt : (0 : Int) < ns.length := of_decide_eq_true e
      obtain ⟨z, hz⟩ := atI_int (ns := ns) (Int.emod_nonneg c (show (ns.length : Int) ≠ 0 by omega)) (Int.emod_lt_of_pos c hlt)
      exact ⟨_, _, .inl (.of ht), rfl, ns.length, .inl ⟨_, sc1 h1, by rw [List.length_map]⟩, hlt, _, _, .inl (sc1 h1), hz, rfl, z, rfl⟩
    . exact ⟨rfl, 0, rfl⟩
  rintro σ' H2 ⟨rfl, z, rfl⟩
  refine ⟨by decide, _, _, .inl (.of ht), rfl, .inr (.inl ⟨by decide, by decide⟩), .inr (.inr ⟨by decide, by decide⟩), by decide, ?_⟩
  refine ⟨.inr (.inr ⟨by decide, by decide⟩), _, _, .inl (.of ht), rfl, by decide, .inr (.inr ⟨by decide, by decide⟩), by decide, hm0, ?_⟩
  exact k _ _ (Int.emod_nonneg _ (by omega)) (Int.emod_lt_of_pos _ hm0) (T1 h1 hi hr0 ht) h1
def manyF : Nat -> Nat -> Nat
  | 0, _ => 0
  | f + 1, x => x % 2 + manyF f (x / 2)
@[irreducible] def many (x : Nat) : Nat := manyF 64 x
def bitL (n x : Nat) : List Bool := (List.range n).map fun k => x / 2 ^ k % 2 == 1
def shared (n x y : Nat) : List Bool := (List.zip (bitL n x) (bitL n y)).map fun p => p.1 && p.2
def sgL (n x y : Nat) : Int := if (shared n x y).countP id % 2 = 1 then -1 else 1
def out (H : Hp) (Q : VK) (v : V) : Prop := ∀ H', Same H H' -> Q v H'
def outL (H : Hp) (Q : VK) (xs : List V) : Prop := ∀ p H', H p = none -> Same H H' -> H' p = some (.lst xs) -> Q (.ref p) H'
def outT (H : Hp) (Q : VK) (xs : List V) : Prop := ∀ p H', H p = none -> Same H H' -> H' p = some (.tup xs) -> Q (.ref p) H'
theorem out_mono {H : Hp} {Q Q' : VK} {v : V} (h : ∀ v H, Q v H -> Q' v H) (q : out H Q v) : out H Q' v := fun H' s => h _ _ (q H' s)
theorem outL_mono {H : Hp} {Q Q' : VK} {xs : List V} (h : ∀ v H, Q v H -> Q' v H) (q : outL H Q xs) : outL H Q' xs := fun p H' a b c => h _ _ (q p H' a b c)
theorem outT_mono {H : Hp} {Q Q' : VK} {xs : List V} (h : ∀ v H, Q v H -> Q' v H) (q : outT H Q xs) : outT H Q' xs := fun p H' a b c => h _ _ (q p H' a b c)
def sp_two : Sp := fun vs H Q _ => match vs with
  | [.int k] => 0 <= k /\ k <= 6 /\ out H Q (.int (2 ^ k.toNat))
  | _ => False
theorem sp_two_mono : SpMono sp_two := fun vs H Q Q' E h q => by
  unfold sp_two at *
  split at q
  . exact ⟨q.1, q.2.1, out_mono h q.2.2⟩
  . exact q.elim
theorem ok__law_two : FnOk P w K mg base CX0 1 T.f__law_two T.d__law_two ["_law_k"] sp_two := by
  refine T.F__law_two.ok sc__law_two (fun vs H Q E h => by unfold sp_two at h; split at h <;> first | rfl | exact h.elim) (fun cdv A outer s H vs Q E hr h => ?_)
  unfold sp_two at h
  split at h
  rotate_left
  . exact h.elim
  rename_i k
  obtain ⟨h1, h2, q⟩ := h
  refine ⟨_, (@pss_one _ _ _ (@ps_ret _ _ _ _ (@kIx _ K _ _ _ _ _ (@pe_lst _ _ _ _ (@pa_cons _ _ _ _ _ (@pe_int _ _ _ _) (@pa_cons _ _ _ _ _ (@pe_int _ _ _ _) (@pa_cons _ _ _ _ _ (@pe_int _ _ _ _) (@pa_cons _ _ _ _ _ (@pe_int _ _ _ _) (@pa_cons _ _ _ _ _ (@pe_int _ _ _ _) (@pa_cons _ _ _ _ _ (@pe_int _ _ _ _) (@pa1 _ _ _ (@pe_int _ _ _ _) (by rfl)) (by rfl)) (by rfl)) (by rfl)) (by rfl)) (by rfl)) (by rfl))) (@vw _ 0 _ _ (by walk_at "v")) (by intro _ _; rfl) (by rfl)))), ?_⟩
  refine ⟨small_le (show 7 <= 1000 by decide), fun p hp => ?_⟩
  have e : atI [V.int 1, .int 2, .int 4, .int 8, .int 16, .int 32, .int 64] k = some (.int (2 ^ k.toNat)) := by
    have : k = 0 \/ k = 1 \/ k = 2 \/ k = 3 \/ k = 4 \/ k = 5 \/ k = 6 := by omega
    rcases this with e | e | e | e | e | e | e <;> subst e <;> rfl
  exact ⟨_, _, .inl (.of upd_same), e, q _ (Same.upd hp)⟩
def sp_bits : Sp := fun vs H Q _ => match vs with
  | [.int n, .int x] => ∃ m y : Nat, n = m /\ x = y /\ m <= 6 /\ outL H Q ((bitL m y).map V.bl)
  | _ => False
theorem sp_bits_mono : SpMono sp_bits := fun vs H Q Q' E h q => by
  unfold sp_bits at *
  split at q
  . revert q; repeat' first | exact h _ _ | exact newL_mono h | exact out_mono h | exact outT_mono h | walk_at "m"
  . exact q.elim
theorem bitL_take {m y i : Nat} (h : i < m) : (bitL m y).take (i + 1) = (bitL m y).take i ++ [y / 2 ^ i % 2 == 1] := by
  rw [List.take_add_one]
  congr 1
  unfold bitL
  rw [List.getElem?_map, List.getElem?_range h]
  rfl
theorem bitL_len {m y : Nat} : (bitL m y).length = m := by unfold bitL; simp
theorem ok__law_bits : FnOk P w K mg base CX0 2 T.f__law_bits T.d__law_bits ["_law_n", "_law_number"] sp_bits := by
  have G__law_two := ok__law_two (P := P) (w := w) (base := base) T
  refine T.F__law_bits.ok sc__law_bits (fun vs H Q E h => by unfold sp_bits at h; split at h <;> first | rfl | exact h.elim) (fun cdv A outer s H vs Q E hr h => ?_)
  have hu := hu60 hr
  have hr__law_two := hr.mono (show 1 <= _ by decide)
  unfold sp_bits at h
  split at h
  rotate_left
  . exact h.elim
  rename_i n x
  obtain ⟨m, y, e1, e2, h1, q⟩ := h
  subst e1 e2
  refine ⟨_, (@pss_one _ _ _ (@ps_ret _ _ _ _ (@pe_compB _ _ _ _ _ _ _ (["_law_k", "_law_number"]) 1 [1] _ _ _ _ rfl (@pi_range1 _ _ _ _ _ _ rfl T.z_range (@pa1 _ _ _ (@vw _ 0 _ _ (by walk_at "v")) (by rfl)) (by rfl)) (by kernel_rfl) rfl rfl (by kernel_rfl) (fun c => @pg_name _ _ 0 _ (show (["_law_k", "_law_number"] : List Str).Nodup by decide +kernel) rfl (by walk_at "e") (by walk_at "i")) (go_name (by decide)) (fun c => @pts_nil _) (fun c => (@pe_cmpM _ _ _ _ _ _ _ _ (kEq (K := K) hu) (@pe_op _ _ _ _ _ _ _ _ om_mod (@pe_op _ _ _ _ _ _ _ _ om_div (@vw _ 1 _ _ (by walk_at "v")) (@pe_call _ _ _ _ _ _ _ _ _ _ _ _ _ _ _ _ G__law_two hr__law_two rfl T.m__law_two T.F__law_two.kp T.b__law_two .nil pass0 (@pa1 _ _ _ (@vw _ 0 _ _ (by walk_at "v")) (by rfl)) (by decide) (by rfl) (by rfl))) (@pe_int _ _ _ _)) (@pe_int _ _ _ _) (by walk_at "n"))) (by intro _; rfl)))), ?_⟩
  refine ⟨m, rfl, by omega, by omega, ?_⟩
  refine comp_range (fun i ys H' => Same H H' /\ ys = ((bitL m y).take i).map V.bl) ⟨Same.refl _, rfl⟩ (fun i ys H' hi ⟨_, e⟩ => by rw [e]; exact small1000 (by rw [List.length_map, List.length_take]; omega)) ?_ ?_
  . rintro i ys H' hi ⟨s1, rfl⟩
    have hi' : i < m := by omega
    refine ⟨by omega, by omega, fun H2 s2 => ?_⟩
    have e0 : ((0 : Int) + (i : Int)).toNat = i := by omega
    rw [e0]
    have ep : ((2 : Int) ^ i) = ((2 ^ i : Nat) : Int) := by rw [Int.natCast_pow]; rfl
    have hp : 0 < 2 ^ i := Nat.two_pow_pos i
    have hle : (2 : Nat) ^ i <= 2 ^ 6 := Nat.pow_le_pow_right (by decide) (by omega)
    refine ⟨okDiv_of (by rw [ep]; omega) (by rw [ep]; exact Int.le_trans (Int.ofNat_le.mpr hle) (by decide)), by decide, ?_⟩
    refine ⟨s1.trans s2, ?_⟩
    rw [bitL_take hi', List.map_append]
    congr 2
    rw [ep]
    show V.bl (false ^^ (((y : Int) / ((2 ^ i : Nat) : Int) % 2) == 1)) = V.bl (y / 2 ^ i % 2 == 1)
    rw [Bool.false_xor, <- Int.natCast_ediv]
    congr 1
    rw [Bool.eq_iff_iff]
    simp only [beq_iff_eq]
    omega
  . rintro ys H' ⟨s1, rfl⟩ p hp
    have : (bitL m y).take (m : Int).toNat = bitL m y := by
      rw [List.take_of_length_le]
      rw [bitL_len]; omega
    rw [this]
    exact q p _ (s1.free hp) (s1.trans (Same.upd hp)) upd_same
def sp_sign (K : W.Frag) : Sp := fun vs H Q _ => match vs with
  | [.int n, .int x, .int y] => ∃ m a b : Nat, n = m /\ x = a /\ y = b /\ m <= 6 /\ out H Q (.int (sgL m a b))
  | _ => False
theorem sp_sign_mono : SpMono (sp_sign K) := fun vs H Q Q' E h q => by
  unfold sp_sign at *
  split at q
  . revert q; repeat' first | exact h _ _ | exact newL_mono h | exact out_mono h | exact outT_mono h | walk_at "m"
  . exact q.elim
theorem countP_bl (bs : List Bool) : (bs.map V.bl).countP (fun v => eqV v (.bl true)) = bs.countP id := by
  rw [List.countP_map]
  congr 1
  funext b
  cases b <;> rfl
theorem all_flat_bl (bs : List Bool) : (bs.map V.bl).all flatV = true := by
  rw [List.all_map, List.all_eq_true]
  intro b _
  rfl
theorem shared_take {m a b i : Nat} (h : i < m) : (shared m a b).take (i + 1) = (shared m a b).take i ++ [(a / 2 ^ i % 2 == 1) && (b / 2 ^ i % 2 == 1)] := by
  rw [List.take_add_one]
  congr 1
  unfold shared bitL
  simp [List.getElem?_map, List.getElem?_zip_eq_some, h]
theorem ok__law_sign : FnOk P w K mg base CX0 3 T.f__law_sign T.d__law_sign ["_law_n", "_law_one", "_law_place"] (sp_sign K) := by
  have G__law_bits := ok__law_bits (P := P) (w := w) (base := base) T
  refine T.F__law_sign.ok sc__law_sign (fun vs H Q E h => by unfold sp_sign at h; split at h <;> first | rfl | exact h.elim) (fun cdv A outer s H vs Q E hr h => ?_)
  have hu := hu60 hr
  have hr__law_bits := hr.mono (show 2 <= _ by decide)
  unfold sp_sign at h
  split at h
  rotate_left
  . exact h.elim
  rename_i n x y
  obtain ⟨m, a, b, e1, e2, e3, h1, q⟩ := h
  subst e1 e2 e3
  refine ⟨_, (@pss_cons _ _ _ _ _ (@ps_compB _ _ _ _ _ _ _ (["_law_a", "_law_b"]) 2 [] _ _ _ _ 3 _ _ _ rfl sc__law_sign.nd rfl rfl (@kZip _ K _ _ _ _ _ _ _ _ rfl T.z_zip (@pa_cons _ _ _ _ _ (@pe_call _ _ _ _ _ _ _ _ _ _ _ _ _ _ _ _ G__law_bits hr__law_bits rfl T.m__law_bits T.F__law_bits.kp T.b__law_bits .nil pass0 (@pa_cons _ _ _ _ _ (@vw _ 0 _ _ (by walk_at "v")) (@pa1 _ _ _ (@vw _ 1 _ _ (by walk_at "v")) (by rfl)) (by rfl)) (by decide) (by rfl) (by rfl)) (@pa1 _ _ _ (@pe_call _ _ _ _ _ _ _ _ _ _ _ _ _ _ _ _ G__law_bits hr__law_bits rfl T.m__law_bits T.F__law_bits.kp T.b__law_bits .nil pass0 (@pa_cons _ _ _ _ _ (@vw _ 0 _ _ (by walk_at "v")) (@pa1 _ _ _ (@vw _ 2 _ _ (by walk_at "v")) (by rfl)) (by rfl)) (by decide) (by rfl) (by rfl)) (by rfl)) (by rfl)) (by rfl) (by rfl) (by rfl)) (by kernel_rfl) rfl rfl (by kernel_rfl) (fun c => @kTup _ K _ _ _ _ 2 rfl (@pgs_cons _ _ _ _ _ (@pg_name _ _ 0 _ (show (["_law_a", "_law_b"] : List Str).Nodup by decide +kernel) rfl (by walk_at "e") (by walk_at "i")) (@pgs_cons _ _ _ _ _ (@pg_name _ _ 1 _ (show (["_law_a", "_law_b"] : List Str).Nodup by decide +kernel) rfl (by walk_at "e") (by walk_at "i")) (@pgs_nil _) (by rfl)) (by rfl)) (by rfl) (by rfl) (by rfl)) (go_tup (gos_cons gm_name (gms_cons gm_name gms_nil) (go_name (by decide)) (gos_cons gm_name gms_nil (go_name (by decide)) gos_nil))) (fun c => @pts_nil _) (fun c => (@pe_andM _ _ _ _ _ _ _ (@vw _ 0 _ _ (by walk_at "v")) (@pe_one _ _ _ _ _ (@vw _ 1 _ _ (by walk_at "v"))))) (by rfl) (by intro _; rfl)) (@pss_one _ _ _ (@ps_ret _ _ _ _ (@kIx _ K _ _ _ _ _ (@pe_lst _ _ _ _ (@pa_cons _ _ _ _ _ (@pe_int _ _ _ _) (@pa1 _ _ _ (@pe_un _ _ _ _ _ _ um_neg (@pe_int _ _ _ _)) (by rfl)) (by rfl))) (@pe_op _ _ _ _ _ _ _ _ om_mod (@kCount _ K _ _ _ _ _ _ (@vw _ 3 _ _ (by walk_at "v")) (@pa1 _ _ _ (@pe_bl _ _ _ _) (by rfl)) (by rfl) (by rfl) (by rfl) (by rfl) (by rfl) (by rfl)) (@pe_int _ _ _ _)) (by intro _ _; rfl) (by rfl))))), ?_⟩
  refine ⟨m, a, rfl, rfl, h1, fun p1 H1 n1 s1 g1 => ⟨m, b, rfl, rfl, h1, fun p2 H2 n2 s2 g2 => ?_⟩⟩
  have g1' := s2 _ _ g1
  refine ⟨⟨_, .of g1'⟩, ⟨_, .of g2⟩, ?_⟩
  refine comp_zip (xs := (bitL m a).map V.bl) (ys := (bitL m b).map V.bl) (fun i zs H' => Same H2 H' /\ zs = ((shared m a b).take i).map V.bl) ⟨Same.refl _, rfl⟩ (by rw [List.length_map, List.length_map, bitL_len, bitL_len])
    (fun i zs H' _ ⟨s, _⟩ => ⟨.of (s _ _ g1'), .of (s _ _ g2)⟩) (fun i zs H' hi ⟨_, e⟩ => by
      rw [List.length_map, bitL_len] at hi
      rw [e]; exact small1000 (by rw [List.length_map, List.length_take]; omega)) ?_ ?_
  . rintro i u v zs H' p hx hy ⟨s, rfl⟩ hp
    have hi : i < m := by
      have := (List.getElem?_eq_some_iff.mp hx).1
      rw [List.length_map, bitL_len] at this
      exact this
    have ex : u = .bl (a / 2 ^ i % 2 == 1) := by
      rw [List.getElem?_map, show bitL m a = (List.range m).map _ from rfl, List.getElem?_map, List.getElem?_range hi] at hx
      exact (Option.some.inj hx).symm
    have ey : v = .bl (b / 2 ^ i % 2 == 1) := by
      rw [List.getElem?_map, show bitL m b = (List.range m).map _ from rfl, List.getElem?_map, List.getElem?_range hi] at hy
      exact (Option.some.inj hy).symm
    subst ex ey
    refine ⟨p, _, rfl, .of upd_same, rfl, _, _, rfl, _, _, rfl, rfl, ?_⟩
    have s' : Same H2 (upd H' p (.tup [.bl (a / 2 ^ i % 2 == 1), .bl (b / 2 ^ i % 2 == 1)])) := s.trans (Same.upd hp)
    refine ite2 (fun e => ?_) (fun e => ?_)
    . refine ⟨s', ?_⟩
      rw [shared_take hi, List.map_append, e, Bool.true_and]
      rfl
    . refine ⟨s', ?_⟩
      have e : (a / 2 ^ i % 2 == 1) = false := by simpa using e
      rw [shared_take hi, List.map_append, e, Bool.false_and]
      rfl
  rintro zs H' ⟨s, rfl⟩ l hl
  have hlen : ((bitL m a).map V.bl).length = m := by rw [List.length_map, bitL_len]
  have sl : (shared m a b).length = m := by unfold shared; simp [bitL_len]
  rw [hlen, List.take_of_length_le (by omega)]
  refine ⟨small_le (show 2 <= 1000 by decide), fun r hr' => ?_⟩
  have hl' : upd (upd H' l (.lst ((shared m a b).map V.bl))) r (.lst [.int 1, .int (-1)]) l = some (.lst ((shared m a b).map V.bl)) := by
    have : l ≠ r := fun e => by rw [e, upd_same] at hr'; cases hr'
    rw [upd_ne this]; exact upd_same
  refine ⟨.inl ⟨rfl, _, .of hl'⟩, _, .of hl', rfl, all_flat_bl _, by decide, ?_⟩
  rw [countP_bl]
  have e : atI [V.int 1, V.int (-1)] ((((shared m a b).countP id : Nat) : Int) % 2) = some (.int (sgL m a b)) := by
    unfold sgL
    have : (shared m a b).countP id % 2 = 0 \/ (shared m a b).countP id % 2 = 1 := by omega
    rcases this with e | e
    . rw [if_neg (by omega)]
      have : (((shared m a b).countP id : Nat) : Int) % 2 = 0 := by omega
      rw [this]; rfl
    . rw [if_pos e]
      have : (((shared m a b).countP id : Nat) : Int) % 2 = 1 := by omega
      rw [this]; rfl
  refine ⟨_, _, .inl (.of upd_same), e, ?_⟩
  exact q _ ((s1.trans s2).trans ((s.trans (Same.upd hl)).trans (Same.upd hr')))
def sp_table (K : W.Frag) : Sp := fun vs H Q _ => match vs with
  | [.ref t, .int n] => ∃ (a : Addr) (ns : List Int) (m : Nat), Tape K H t a ns /\ n = m /\ 1 <= m /\ m <= 6 /\ ∀ (bs : List Bool) p H', bs.length = 2 ^ m -> H p = none -> H' p = some (.tup (bs.map V.bl)) -> Tape K H' t a ns -> Frm t H H' -> Q (.ref p) H'
  | _ => False
theorem sp_table_mono : SpMono (sp_table K) := fun vs H Q Q' E h q => by
  unfold sp_table at *
  split at q
  . revert q; repeat' first | exact h _ _ | exact newL_mono h | exact out_mono h | exact outT_mono h | walk_at "m"
  . exact q.elim
structure TabL (K : W.Frag) (H0 : Hp) (t a : Addr) (ns : List Int) (M : Nat) (l : Addr) (H : Hp) : Prop where
  tp : Tape K H t a ns
  fr : Frm t H0 H
  new : H0 l = none
  at_ : ∃ bs : List Bool, H l = some (.lst (bs.map V.bl)) /\ bs.length = M
def TabJ (K : W.Frag) (H0 : Hp) (t a : Addr) (ns : List Int) (m M : Nat) : St -> Hp -> Prop := fun σ H => ∃ (l : Addr) (way : Int) (y : Nat) (fb : Bool) (z1 z2 z3 z4 : Option V),
  σ = [some (.ref t), some (.int m), some (.int M), some (.int way), some (.int y), some (.bl fb), some (.ref l), z1, z2, z3, z4] /\ y < M /\ TabL K H0 t a ns M l H
theorem frm_all {t : Addr} {H H' : Hp} (h : ∀ b, b ≠ t -> H' b = H b) : Frm t H H' := fun b o n e => by rw [h b n]; exact e
theorem TabL.same {K : W.Frag} {H0 H H' : Hp} {t a : Addr} {ns : List Int} {M : Nat} {l : Addr} (L : TabL K H0 t a ns M l H) (s : Same H H') : TabL K H0 t a ns M l H' :=
  ⟨L.tp.same s, L.fr.trans s.frm, L.new, let ⟨bs, h, e⟩ := L.at_; ⟨bs, s _ _ h, e⟩⟩
theorem TabL.ne {K : W.Frag} {H0 H : Hp} {t a : Addr} {ns : List Int} {M : Nat} {l : Addr} (L : TabL K H0 t a ns M l H) (T0 : Tape K H0 t a ns) : l ≠ t := T0.neT L.new
theorem TabL.draw {K : W.Frag} {H0 H H' : Hp} {t a : Addr} {ns : List Int} {M : Nat} {l : Addr} (L : TabL K H0 t a ns M l H) (T0 : Tape K H0 t a ns) (T1 : Tape K H' t a ns) (f : ∀ b, b ≠ t -> H' b = H b) : TabL K H0 t a ns M l H' :=
  ⟨T1, L.fr.trans (frm_all f), L.new, let ⟨bs, h, e⟩ := L.at_; ⟨bs, by rw [f l (L.ne T0)]; exact h, e⟩⟩
theorem frm_new {t p : Addr} {H0 H : Hp} {o : HO} (f : Frm t H0 H) (hp : H0 p = none) : Frm t H0 (upd H p o) := fun b u n e => by
  rw [upd_ne (ne_of_none e hp)]; exact f b u n e
theorem TabL.other {K : W.Frag} {H0 H : Hp} {t a p : Addr} {ns : List Int} {M : Nat} {l : Addr} {o : HO} (L : TabL K H0 t a ns M l H) (T0 : Tape K H0 t a ns) (hp : H0 p = none) (hl : p ≠ l) : TabL K H0 t a ns M l (upd H p o) := by
  have nt := T0.neT hp
  have F : Frm t H0 (upd H p o) := frm_new L.fr hp
  obtain ⟨i, r, c, h1, h2, h3⟩ := L.tp.at_
  refine ⟨⟨⟨i, r, c, h1, h2, by rw [upd_ne (Ne.symm nt)]; exact h3⟩, T0.scr.stay fun o n e => F a o n e⟩, F, L.new, ?_⟩
  obtain ⟨bs, h, e⟩ := L.at_
  exact ⟨bs, by rw [upd_ne (Ne.symm hl)]; exact h, e⟩
theorem TabL.put {K : W.Frag} {H0 H : Hp} {t a : Addr} {ns : List Int} {M : Nat} {l : Addr} {bs : List Bool} (L : TabL K H0 t a ns M l H) (T0 : Tape K H0 t a ns) (hb : bs.length = M) : TabL K H0 t a ns M l (upd H l (.lst (bs.map V.bl))) := by
  have F : Frm t H0 (upd H l (.lst (bs.map V.bl))) := frm_new L.fr L.new
  obtain ⟨i, r, c, h1, h2, h3⟩ := L.tp.at_
  exact ⟨⟨⟨i, r, c, h1, h2, by rw [upd_ne (Ne.symm (L.ne T0))]; exact h3⟩, T0.scr.stay fun o n e => F a o n e⟩, F, L.new, bs, upd_same, hb⟩
theorem ixN_nat {n i : Nat} (h : i < n) : ixN n ((i : Nat) : Int) = some i := by
  unfold ixN
  rw [if_pos (Int.natCast_nonneg i), if_pos (by omega)]
  simp
theorem bl_set (bs : List Bool) (i : Nat) (b : Bool) : (bs.map V.bl).set i (.bl b) = (bs.set i b).map V.bl := by
  rw [List.map_set]
theorem hasB_at {xs : BX} {ks : List Bool} (h : hasB xs ks = true) : ∃ c v, atKey (bxv xs) ks = some (c, Value.bool v) := by
  have e := atKey_bxv xs ks
  rw [h] at e
  obtain ⟨⟨c, u⟩, hc⟩ := Option.isSome_iff_exists.mp e
  have hc' := hc
  unfold atKey at hc'
  obtain ⟨z, hz, ez⟩ := Option.map_eq_some_iff.mp hc'
  have hm := List.mem_of_find?_eq_some hz
  unfold bxv at hm
  obtain ⟨q, _, rfl⟩ := List.mem_map.mp hm
  cases ez
  exact ⟨_, _, hc⟩
theorem keysB_upd {H : Hp} {p : Addr} {xs : BX} {o o' : HO} (h : KeysB H xs) (hp : H p = some o) (ho : ∀ ys, HO.tup ys ≠ o) : KeysB (upd H p o') xs := fun q hq => by
  rw [upd_ne (ne_of (h q hq) hp (ho _))]; exact h q hq
theorem keysB_same {H H' : Hp} {xs : BX} (h : KeysB H xs) (s : Same H H') : KeysB H' xs := fun q hq => s _ _ (h q hq)
theorem ok__law_table : FnOk P w K mg base CX0 4 T.f__law_table T.d__law_table ["_law_tape_here", "_law_n"] (sp_table K) := by
  have G__law_two := ok__law_two (P := P) (w := w) (base := base) T; have G__law_next := ok__law_next (P := P) (w := w) (base := base) T; have G__law_sign := ok__law_sign (P := P) (w := w) (base := base) T; have G__law_bits := ok__law_bits (P := P) (w := w) (base := base) T
  refine T.F__law_table.ok sc__law_table (fun vs H Q E h => by unfold sp_table at h; split at h <;> first | rfl | exact h.elim) (fun cdv A outer s H vs Q E hr h => ?_)
  have hu := hu60 hr
  have mo1 : SpMono (sp_sign K) := sp_sign_mono
  have mo2 : SpMono sp_bits := sp_bits_mono
  have hr__law_two := hr.mono (show 1 <= _ by decide); have hr__law_next := hr.mono (show 1 <= _ by decide); have hr__law_sign := hr.mono (show 3 <= _ by decide); have hr__law_bits := hr.mono (show 2 <= _ by decide)
  unfold sp_table at h
  split at h
  rotate_left
  . exact h.elim
  rename_i t n
  obtain ⟨a, ns, m, TP, e1, m1, m6, q⟩ := h
  subst e1
  refine ⟨_, (@pss_cons _ _ _ _ _ (@ps_set _ _ 2 _ _ _ _ sc__law_table.nd rfl (by walk_at "e") (@pe_call _ _ _ _ _ _ _ _ _ _ _ _ _ _ _ _ G__law_two hr__law_two rfl T.m__law_two T.F__law_two.kp T.b__law_two .nil pass0 (@pa1 _ _ _ (@vw _ 1 _ _ (by walk_at "v")) (by rfl)) (by decide) (by rfl) (by rfl)) (by rfl) (by walk_at "i")) (@pss_cons _ _ _ _ _ (@ps_set _ _ 3 _ _ _ _ sc__law_table.nd rfl (by walk_at "e") (@pe_call _ _ _ _ _ _ _ _ _ _ _ _ _ _ _ _ G__law_next hr__law_next rfl T.m__law_next T.F__law_next.kp T.b__law_next .nil pass0 (@pa_cons _ _ _ _ _ (@vw _ 0 _ _ (by walk_at "v")) (@pa1 _ _ _ (@pe_int _ _ _ _) (by rfl)) (by rfl)) (by decide) (by rfl) (by rfl)) (by rfl) (by walk_at "i")) (@pss_cons _ _ _ _ _ (@ps_set _ _ 4 _ _ _ _ sc__law_table.nd rfl (by walk_at "e") (@pe_call _ _ _ _ _ _ _ _ _ _ _ _ _ _ _ _ G__law_next hr__law_next rfl T.m__law_next T.F__law_next.kp T.b__law_next .nil pass0 (@pa_cons _ _ _ _ _ (@vw _ 0 _ _ (by walk_at "v")) (@pa1 _ _ _ (@vw _ 2 _ _ (by walk_at "v")) (by rfl)) (by rfl)) (by decide) (by rfl) (by rfl)) (by rfl) (by walk_at "i")) (@pss_cons _ _ _ _ _ (@ps_set _ _ 5 _ _ _ _ sc__law_table.nd rfl (by walk_at "e") (@pe_cmpM _ _ _ _ _ _ _ _ (kEq (K := K) hu) (@pe_call _ _ _ _ _ _ _ _ _ _ _ _ _ _ _ _ G__law_next hr__law_next rfl T.m__law_next T.F__law_next.kp T.b__law_next .nil pass0 (@pa_cons _ _ _ _ _ (@vw _ 0 _ _ (by walk_at "v")) (@pa1 _ _ _ (@pe_int _ _ _ _) (by rfl)) (by rfl)) (by decide) (by rfl) (by rfl)) (@pe_int _ _ _ _) (by walk_at "n")) (by rfl) (by walk_at "i")) (@pss_cons _ _ _ _ _ (@ps_compB _ _ _ _ _ _ _ (["_law_place", "_law_first"]) 1 [5] _ _ _ _ 6 _ _ _ rfl sc__law_table.nd rfl rfl (@pi_range1 _ _ _ _ _ _ rfl T.z_range (@pa1 _ _ _ (@vw _ 2 _ _ (by walk_at "v")) (by rfl)) (by rfl)) (by kernel_rfl) rfl rfl (by kernel_rfl) (fun c => @pg_name _ _ 0 _ (show (["_law_place", "_law_first"] : List Str).Nodup by decide +kernel) rfl (by walk_at "e") (by walk_at "i")) (go_name (by decide)) (fun c => @pts_nil _) (fun c => (@vw _ 1 _ _ (by walk_at "v"))) (by rfl) (by intro _; rfl)) (@pss_cons _ _ _ _ _ (@ps_if _ _ _ _ _ _ _ _ (@tu_cmp _ _ _ _ _ _ _ _ om_lt (@vw _ 3 _ _ (by walk_at "v")) (@pe_int _ _ _ _) (by walk_at "n")) (@pss_one _ _ _ (@ps_compB _ _ _ _ _ _ _ (["_law_place", "_law_tape_here"]) 1 [0] _ _ _ _ 6 _ _ _ rfl sc__law_table.nd rfl rfl (@pi_range1 _ _ _ _ _ _ rfl T.z_range (@pa1 _ _ _ (@vw _ 2 _ _ (by walk_at "v")) (by rfl)) (by rfl)) (by kernel_rfl) rfl rfl (by kernel_rfl) (fun c => @pg_name _ _ 0 _ (show (["_law_place", "_law_tape_here"] : List Str).Nodup by decide +kernel) rfl (by walk_at "e") (by walk_at "i")) (go_name (by decide)) (fun c => @pts_nil _) (fun c => (@pe_cmpM _ _ _ _ _ _ _ _ (kEq (K := K) hu) (@pe_call _ _ _ _ _ _ _ _ _ _ _ _ _ _ _ _ G__law_next hr__law_next rfl T.m__law_next T.F__law_next.kp T.b__law_next .nil pass0 (@pa_cons _ _ _ _ _ (@vw _ 1 _ _ (by walk_at "v")) (@pa1 _ _ _ (@pe_int _ _ _ _) (by rfl)) (by rfl)) (by decide) (by rfl) (by rfl)) (@pe_int _ _ _ _) (by walk_at "n"))) (by rfl) (by intro _; rfl))) (@pss_nil _)) (@pss_cons _ _ _ _ _ (@ps_if _ _ _ _ _ _ _ _ (@tu_cmp _ _ _ _ _ _ _ _ (kEq (K := K) hu) (@vw _ 3 _ _ (by walk_at "v")) (@pe_int _ _ _ _) (by walk_at "n")) (@pss_one _ _ _ (@ps_compB _ _ _ _ _ _ _ (["_law_place", "_law_first", "_law_n", "_law_some"]) 1 ([5, 1, 4]) _ _ _ _ 6 _ _ _ rfl sc__law_table.nd rfl rfl (@pi_range1 _ _ _ _ _ _ rfl T.z_range (@pa1 _ _ _ (@vw _ 2 _ _ (by walk_at "v")) (by rfl)) (by rfl)) (by kernel_rfl) rfl rfl (by kernel_rfl) (fun c => @pg_name _ _ 0 _ (show (["_law_place", "_law_first", "_law_n", "_law_some"] : List Str).Nodup by decide +kernel) rfl (by walk_at "e") (by walk_at "i")) (go_name (by decide)) (fun c => @pts_nil _) (fun c => (@pe_cmpM _ _ _ _ _ _ _ _ (kEq (K := K) hu) (@vw _ 1 _ _ (by walk_at "v")) (@pe_cmpM _ _ _ _ _ _ _ _ (kEq (K := K) hu) (@pe_call _ _ _ _ _ _ _ _ _ _ _ _ _ _ _ _ G__law_sign hr__law_sign rfl T.m__law_sign T.F__law_sign.kp T.b__law_sign .nil pass0 (@pa_cons _ _ _ _ _ (@vw _ 2 _ _ (by walk_at "v")) (@pa_cons _ _ _ _ _ (@vw _ 3 _ _ (by walk_at "v")) (@pa1 _ _ _ (@vw _ 0 _ _ (by walk_at "v")) (by rfl)) (by rfl)) (by rfl)) (by decide) (by rfl) (by rfl)) (@pe_int _ _ _ _) (by walk_at "n")) (by walk_at "n"))) (by rfl) (by intro _; rfl))) (@pss_nil _)) (@pss_cons _ _ _ _ _ (@ps_if _ _ _ _ _ _ _ _ (@tu_cmp _ _ _ _ _ _ _ _ (kEq (K := K) hu) (@vw _ 3 _ _ (by walk_at "v")) (@pe_int _ _ _ _) (by walk_at "n")) (@pss_cons _ _ _ _ _ (@ps_set _ _ 7 _ _ _ _ sc__law_table.nd rfl (by walk_at "e") (@kNewB _ P w _ (by rfl) (by rfl)) (by rfl) (by walk_at "i")) (@pss_one _ _ _ (@ps_for _ _ _ _ _ _ _ _ PassesOwn.never rfl (@pi_range1 _ _ _ _ _ _ rfl T.z_range (@pa1 _ _ _ (@vw _ 2 _ _ (by walk_at "v")) (by rfl)) (by rfl)) (@pg_name _ _ 8 _ sc__law_table.nd rfl (by walk_at "e") (by walk_at "i")) (@pss_cons _ _ _ _ _ (@ps_set _ _ 9 _ _ _ _ sc__law_table.nd rfl (by walk_at "e") (@pe_callTy _ _ _ _ _ _ _ _ _ (kTuple (K := K)) rfl T.z_tuple (by rfl) (@pa1 _ _ _ (@pe_compB _ _ _ _ _ _ _ (["_law_a", "_law_b"]) 2 [] _ _ _ _ rfl (@kZip _ K _ _ _ _ _ _ _ _ rfl T.z_zip (@pa_cons _ _ _ _ _ (@pe_call _ _ _ _ _ _ _ _ _ _ _ _ _ _ _ _ G__law_bits hr__law_bits rfl T.m__law_bits T.F__law_bits.kp T.b__law_bits .nil pass0 (@pa_cons _ _ _ _ _ (@vw _ 1 _ _ (by walk_at "v")) (@pa1 _ _ _ (@vw _ 8 _ _ (by walk_at "v")) (by rfl)) (by rfl)) (by decide) (by rfl) (by rfl)) (@pa1 _ _ _ (@pe_call _ _ _ _ _ _ _ _ _ _ _ _ _ _ _ _ G__law_bits hr__law_bits rfl T.m__law_bits T.F__law_bits.kp T.b__law_bits .nil pass0 (@pa_cons _ _ _ _ _ (@vw _ 1 _ _ (by walk_at "v")) (@pa1 _ _ _ (@vw _ 4 _ _ (by walk_at "v")) (by rfl)) (by rfl)) (by decide) (by rfl) (by rfl)) (by rfl)) (by rfl)) (by rfl) (by rfl) (by rfl)) (by kernel_rfl) rfl rfl (by kernel_rfl) (fun c => @kTup _ K _ _ _ _ 2 rfl (@pgs_cons _ _ _ _ _ (@pg_name _ _ 0 _ (show (["_law_a", "_law_b"] : List Str).Nodup by decide +kernel) rfl (by walk_at "e") (by walk_at "i")) (@pgs_cons _ _ _ _ _ (@pg_name _ _ 1 _ (show (["_law_a", "_law_b"] : List Str).Nodup by decide +kernel) rfl (by walk_at "e") (by walk_at "i")) (@pgs_nil _) (by rfl)) (by rfl)) (by rfl) (by rfl) (by rfl)) (go_tup (gos_cons gm_name (gms_cons gm_name gms_nil) (go_name (by decide)) (gos_cons gm_name gms_nil (go_name (by decide)) gos_nil))) (fun c => @pts_nil _) (fun c => (@pe_andM _ _ _ _ _ _ _ (@vw _ 0 _ _ (by walk_at "v")) (@pe_one _ _ _ _ _ (@vw _ 1 _ _ (by walk_at "v"))))) (by intro _; rfl)) (by rfl)) (by decide) (by decide) (by rfl) (by rfl)) (by rfl) (by walk_at "i")) (@pss_cons _ _ _ _ _ (@ps_if _ _ _ _ _ _ _ _ (@tu_cmp _ _ _ _ _ _ _ _ (kNotB (P := P) (w := w) hu) (@vw _ 9 _ _ (by walk_at "v")) (@vw _ 7 _ _ (by walk_at "v")) (by walk_at "n")) (@pss_one _ _ _ (@ps_asg _ _ _ _ _ _ (@pe_cmpM _ _ _ _ _ _ _ _ (kEq (K := K) hu) (@pe_call _ _ _ _ _ _ _ _ _ _ _ _ _ _ _ _ G__law_next hr__law_next rfl T.m__law_next T.F__law_next.kp T.b__law_next .nil pass0 (@pa_cons _ _ _ _ _ (@vw _ 0 _ _ (by walk_at "v")) (@pa1 _ _ _ (@pe_int _ _ _ _) (by rfl)) (by rfl)) (by decide) (by rfl) (by rfl)) (@pe_int _ _ _ _) (by walk_at "n")) (@pg_sub _ _ _ _ _ _ _ (@vw _ 7 _ _ (by walk_at "v")) (@vw _ 9 _ _ (by walk_at "v")) (kSetB (P := P) (w := w) hu) (by intro _; rfl)) (by rfl) (by rfl) (by rfl))) (@pss_nil _)) (@pss_one _ _ _ (@ps_asg _ _ _ _ _ _ (@kGetB _ P w _ _ _ _ _ hu (@vw _ 7 _ _ (by walk_at "v")) (@vw _ 9 _ _ (by walk_at "v")) (by intro _ _; rfl) (by rfl) (by rfl)) (@pg_sub _ _ _ _ _ _ _ (@vw _ 6 _ _ (by walk_at "v")) (@vw _ 8 _ _ (by walk_at "v")) set_any (by intro _; rfl)) (by rfl) (by rfl) (by rfl))))) (by intro _; rfl)))) (@pss_nil _)) (@pss_cons _ _ _ _ _ (@ps_for _ _ _ _ _ _ _ _ PassesOwn.never rfl (@pi_range1 _ _ _ _ _ _ rfl T.z_range (@pa1 _ _ _ (@pe_op _ _ _ _ _ _ _ _ om_mul (@pe_call _ _ _ _ _ _ _ _ _ _ _ _ _ _ _ _ G__law_next hr__law_next rfl T.m__law_next T.F__law_next.kp T.b__law_next .nil pass0 (@pa_cons _ _ _ _ _ (@vw _ 0 _ _ (by walk_at "v")) (@pa1 _ _ _ (@pe_int _ _ _ _) (by rfl)) (by rfl)) (by decide) (by rfl) (by rfl)) (@pe_callTy _ _ _ _ _ _ _ _ _ cm_int rfl T.z_int (by rfl) (@pa1 _ _ _ (@pe_cmpM _ _ _ _ _ _ _ _ om_gt (@vw _ 3 _ _ (by walk_at "v")) (@pe_int _ _ _ _) (by walk_at "n")) (by rfl)) (by decide) (by decide) (by rfl) (by rfl))) (by rfl)) (by rfl)) (@pg_name _ _ 10 _ sc__law_table.nd rfl (by walk_at "e") (by walk_at "i")) (@pss_cons _ _ _ _ _ (@ps_set _ _ 8 _ _ _ _ sc__law_table.nd rfl (by walk_at "e") (@pe_call _ _ _ _ _ _ _ _ _ _ _ _ _ _ _ _ G__law_next hr__law_next rfl T.m__law_next T.F__law_next.kp T.b__law_next .nil pass0 (@pa_cons _ _ _ _ _ (@vw _ 0 _ _ (by walk_at "v")) (@pa1 _ _ _ (@vw _ 2 _ _ (by walk_at "v")) (by rfl)) (by rfl)) (by decide) (by rfl) (by rfl)) (by rfl) (by walk_at "i")) (@pss_one _ _ _ (@ps_asg _ _ _ _ _ _ (@pe_notM _ _ _ _ (@kIx _ K _ _ _ _ _ (@vw _ 6 _ _ (by walk_at "v")) (@vw _ 8 _ _ (by walk_at "v")) (by intro _ _; rfl) (by rfl))) (@pg_sub _ _ _ _ _ _ _ (@vw _ 6 _ _ (by walk_at "v")) (@vw _ 8 _ _ (by walk_at "v")) set_any (by intro _; rfl)) (by rfl) (by rfl) (by rfl)))) (by intro _; rfl)) (@pss_one _ _ _ (@ps_ret _ _ _ _ (@pe_callTy _ _ _ _ _ _ _ _ _ (kTuple (K := K)) rfl T.z_tuple (by rfl) (@pa1 _ _ _ (@vw _ 6 _ _ (by walk_at "v")) (by rfl)) (by decide) (by decide) (by rfl) (by rfl))))))))))))), ?_⟩
  have e2 : (2 : Int) ^ ((m : Int).toNat) = ((2 ^ m : Nat) : Int) := by rw [Int.toNat_natCast, Int.natCast_pow]; rfl
  have h64 : 2 ^ m <= 64 := Nat.pow_le_pow_right (n := 2) (by decide) m6
  have h2 : 2 <= 2 ^ m := Nat.pow_le_pow_right (n := 2) (i := 1) (by decide) m1
  refine ⟨by omega, by omega, fun H1 s1 => ?_⟩
  rw [e2]
  generalize hM : 2 ^ m = M at *
  have T1 := TP.same s1
  have hMd : okDiv (M : Int) := okDiv_of (by omega) (Int.le_trans (Int.ofNat_le.mpr h64) (by decide))
  have hMr : (M : Int) < 2 ^ 62 := Int.lt_of_le_of_lt (Int.ofNat_le.mpr h64) (by decide)
  refine ⟨a, ns, T1, okDiv_of (by decide) (by decide), fun way H2 w0 w1 T2 f2 => ⟨a, ns, T2, hMd, fun y' H3 y0 y1 T3 f3 => ⟨a, ns, T3, okDiv_of (by decide) (by decide), fun d H4 _ _ T4 f4 => ?_⟩⟩⟩
  obtain ⟨y, rfl⟩ := Int.eq_ofNat_of_zero_le y0
  have hy : y < M := by omega
  have F4 : Frm t H H4 := s1.frm.trans ((frm_all f2).trans ((frm_all f3).trans (frm_all f4)))
  dsimp only [tC, mEq, gName, eqV]
  generalize (false ^^ (d == 1)) = fb
  refine seq_at (TabJ K H t a ns m M) ?_ ?_ (by walk_at "sm")
  . refine ⟨(M : Int), rfl, by omega, by omega, ?_⟩
    refine comp_range (fun i ys H' => H' = H4 /\ ys = (List.replicate i fb).map V.bl) ⟨rfl, rfl⟩ (fun i ys H' hi ⟨_, e⟩ => by
      rw [e]; exact small1000 (by rw [List.length_map, List.length_replicate]; omega)) ?_ ?_
    . rintro i ys H' hi ⟨rfl, rfl⟩
      refine ⟨rfl, ?_⟩
      rw [List.replicate_succ', List.map_append]; rfl
    . rintro ys H' ⟨rfl, rfl⟩ l hl
      exact ⟨l, way, y, fb, none, none, none, none, rfl, hy, T4.upd hl, F4.trans (Frm.upd hl), T4.free F4 hl, _, upd_same, by rw [List.length_replicate]; omega⟩
  rintro σ Ha ⟨l, way, y, fb, z1, z2, z3, z4, rfl, hy, L⟩
  refine seq_at (TabJ K H t a ns m M) ?_ ?_ (by walk_at "sm")
  . -- any answers
    refine ite2 (fun e => ?_) (fun e => ⟨l, way, y, fb, z1, z2, z3, z4, rfl, hy, L⟩)
    refine ⟨(M : Int), rfl, by omega, by omega, ?_⟩
    refine comp_range (fun i ys H' => Tape K H' t a ns /\ Frm t H H' /\ ∃ bs : List Bool, ys = bs.map V.bl /\ bs.length = i) ⟨L.tp, L.fr, [], rfl, rfl⟩ (fun i ys H' hi ⟨_, _, bs, e, el⟩ => by
      rw [e]; exact small1000 (by rw [List.length_map]; omega)) ?_ ?_
    . rintro i ys H' hi ⟨Ti, Fi, bs, rfl, rfl⟩
      refine ⟨a, ns, Ti, okDiv_of (by decide) (by decide), fun d H2 _ _ T2 f2 => ?_⟩
      exact ⟨T2, Fi.trans (frm_all f2), bs ++ [(false ^^ (d == 1))], by rw [List.map_append]; rfl, by rw [List.length_append]; rfl⟩
    . rintro ys H' ⟨Ti, Fi, bs, rfl, hb⟩ l' hl
      exact ⟨l', way, y, fb, z1, z2, z3, z4, rfl, hy, Ti.upd hl, Fi.trans (Frm.upd hl), Ti.free Fi hl, bs, upd_same, by omega⟩
  clear L
  rintro σ Ha ⟨l, way, y, fb, z1, z2, z3, z4, rfl, hy, L⟩
  refine seq_at (TabJ K H t a ns m M) ?_ ?_ (by walk_at "sm")
  . -- odd of a set
    refine ite2 (fun e => ?_) (fun e => ⟨l, way, y, fb, z1, z2, z3, z4, rfl, hy, L⟩)
    refine ⟨(M : Int), rfl, by omega, by omega, ?_⟩
    refine comp_range (fun i ys H' => Same Ha H' /\ ∃ bs : List Bool, ys = bs.map V.bl /\ bs.length = i) ⟨Same.refl _, [], rfl, rfl⟩ (fun i ys H' hi ⟨_, bs, e, el⟩ => by
      rw [e]; exact small1000 (by rw [List.length_map]; omega)) ?_ ?_
    . rintro i ys H' hi ⟨Si, bs, rfl, rfl⟩
      refine ⟨m, y, bs.length, rfl, rfl, by omega, m6, fun H2 s2 => ?_⟩
      exact ⟨Si.trans s2, bs ++ [(false ^^ (fb == (false ^^ (sgL m y bs.length == 1))))], by rw [List.map_append]; rfl, by rw [List.length_append]; rfl⟩
    . rintro ys H' ⟨Si, bs, rfl, hb⟩ l' hl
      have Fi := L.fr.trans (Si.frm (t := t))
      exact ⟨l', way, y, fb, z1, z2, z3, z4, rfl, hy, (L.tp.same Si).upd hl, Fi.trans (Frm.upd hl), (L.tp.same Si).free Fi hl, bs, upd_same, by omega⟩
  clear L
  rintro σ Ha ⟨l, way, y, fb, z1, z2, z3, z4, rfl, hy, L⟩
  refine seq_at (TabJ K H t a ns m M) ?_ ?_ (by walk_at "sm")
  . -- of few switches
    refine ite2 (fun e => ?_) (fun e => ⟨l, way, y, fb, z1, z2, z3, z4, rfl, hy, L⟩)
    refine fun p hp => ?_
    have hp0 : H p = none := L.tp.free L.fr hp
    have pl : p ≠ l := fun e => by
      obtain ⟨bs, hb, _⟩ := L.at_
      rw [e, hb] at hp; cases hp
    refine ⟨(M : Int), rfl, by omega, by omega, ?_⟩
    refine for_range (fun i σ H' => ∃ (z2 z3 : Option V) (xs : BX), σ = [some (.ref t), some (.int m), some (.int M), some (.int way), some (.int y), some (.bl fb), some (.ref l), some (.ref p), z2, z3, z4] /\ TabL K H t a ns M l H' /\ H' p = some (dB P w p xs) /\ KeysB H' xs /\ xs.length <= i)
      ⟨z2, z3, [], rfl, L.other TP hp0 pl, upd_same, (fun q hq => by cases hq), Nat.le_refl _⟩ ?_ ?_
    . rintro i σ Hb hi ⟨z2, z3, xs, rfl, Lb, hd, hk, hx⟩
      have hi' : i < M := by omega
      have e0 : (0 : Int) + (i : Int) = (i : Int) := Int.zero_add _
      rw [e0]
      refine ⟨m, i, rfl, rfl, m6, fun p1 H1 n1 s1 g1 => ⟨m, y, rfl, rfl, m6, fun p2 H2 n2 s2 g2 => ?_⟩⟩
      have g1' := s2 _ _ g1
      refine ⟨⟨_, .of g1'⟩, ⟨_, .of g2⟩, ?_⟩
      refine comp_zip (xs := (bitL m i).map V.bl) (ys := (bitL m y).map V.bl) (fun j zs H' => Same H2 H' /\ zs = ((shared m i y).take j).map V.bl) ⟨Same.refl _, rfl⟩ (by rw [List.length_map, List.length_map, bitL_len, bitL_len])
        (fun j zs H' _ ⟨s, _⟩ => ⟨.of (s _ _ g1'), .of (s _ _ g2)⟩) (fun j zs H' hj ⟨_, e⟩ => by
          rw [List.length_map, bitL_len] at hj
          rw [e]; exact small1000 (by rw [List.length_map, List.length_take]; omega)) ?_ ?_
      . rintro j u v zs H' pp hx hy ⟨s, rfl⟩ hpp
        have hj : j < m := by
          have := (List.getElem?_eq_some_iff.mp hx).1
          rw [List.length_map, bitL_len] at this
          exact this
        have ex : u = .bl (i / 2 ^ j % 2 == 1) := by
          rw [List.getElem?_map, show bitL m i = (List.range m).map _ from rfl, List.getElem?_map, List.getElem?_range hj] at hx
          exact (Option.some.inj hx).symm
        have ey : v = .bl (y / 2 ^ j % 2 == 1) := by
          rw [List.getElem?_map, show bitL m y = (List.range m).map _ from rfl, List.getElem?_map, List.getElem?_range hj] at hy
          exact (Option.some.inj hy).symm
        subst ex ey
        refine ⟨pp, _, rfl, .of upd_same, rfl, _, _, rfl, _, _, rfl, rfl, ?_⟩
        have s' : Same H2 (upd H' pp (.tup [.bl (i / 2 ^ j % 2 == 1), .bl (y / 2 ^ j % 2 == 1)])) := s.trans (Same.upd hpp)
        refine ite2 (fun e => ?_) (fun e => ?_)
        . refine ⟨s', ?_⟩
          rw [shared_take hj, List.map_append, e, Bool.true_and]
          rfl
        . refine ⟨s', ?_⟩
          have e : (i / 2 ^ j % 2 == 1) = false := by simpa using e
          rw [shared_take hj, List.map_append, e, Bool.false_and]
          rfl
      rintro zs H3 ⟨s3, rfl⟩ l3 hl3
      have hlen : ((bitL m i).map V.bl).length = m := by rw [List.length_map, bitL_len]
      have sl : (shared m i y).length = m := by unfold shared; simp [bitL_len]
      rw [hlen, List.take_of_length_le (by omega)]
      generalize shared m i y = ks
      refine ⟨_, .inl ⟨.of upd_same, fun kk hkk => ?_⟩⟩
      have S : Same Hb (upd (upd H3 l3 (.lst (ks.map V.bl))) kk (.tup (ks.map V.bl))) := (s1.trans (s2.trans s3)).trans ((Same.upd hl3).trans (Same.upd hkk))
      have gk : upd (upd H3 l3 (.lst (ks.map V.bl))) kk (.tup (ks.map V.bl)) kk = some (.tup (ks.map V.bl)) := upd_same
      have Lc := Lb.same S
      have hd := S _ _ hd
      have hk := keysB_same hk S
      clear Lb
      generalize upd (upd H3 l3 (.lst (ks.map V.bl))) kk (.tup (ks.map V.bl)) = Hc at *
      dsimp only [gName]
      refine seq_at (fun σ H' => ∃ xs : BX, σ = [some (.ref t), some (.int m), some (.int M), some (.int way), some (.int y), some (.bl fb), some (.ref l), some (.ref p), some (.int i), some (.ref kk), z4] /\ TabL K H t a ns M l H' /\ H' p = some (dB P w p xs) /\ KeysB H' xs /\ xs.length <= i + 1 /\ H' kk = some (.tup (ks.map V.bl)) /\ hasB xs ks = true) ?_ ?_ (by walk_at "sm")
      . refine ⟨xs, ks, gk, hd, hk, ?_⟩
        refine ite2 (fun e => ?_) (fun e => ?_)
        . have hn : hasB xs ks = false := by simpa using e
          refine ⟨a, ns, Lc.tp, okDiv_of (by decide) (by decide), fun d H6 _ _ T6 f6 => ?_⟩
          have L6 := Lc.draw TP T6 f6
          have pt : p ≠ t := TP.neT hp0
          have hd6 : H6 p = some (dB P w p xs) := by rw [f6 p pt]; exact hd
          have nt : ∀ {b : Addr} {ys : List V}, Hc b = some (.tup ys) -> b ≠ t := fun {b ys} hb e => by
            obtain ⟨i, r, c, _, _, h3⟩ := Lc.tp.at_
            rw [e, h3] at hb; cases hb
          have gk6 : H6 kk = some (.tup (ks.map V.bl)) := by rw [f6 kk (nt gk)]; exact gk
          have hk6 : KeysB H6 xs := fun q hq => by rw [f6 _ (nt (hk q hq))]; exact hk q hq
          refine ⟨xs, ks, gk6, hd6, hk6, hn, small1000 (by omega), ?_⟩
          refine ⟨xs ++ [(ks, kk, (false ^^ (d == 1)))], rfl, L6.other TP hp0 pl, upd_same, ?_, by rw [List.length_append]; exact Nat.succ_le_succ hx, ?_, ?_⟩
          . intro q hq
            rcases List.mem_append.mp hq with hq | hq
            . exact keysB_upd hk6 hd6 (fun ys z => nomatch z) q hq
            . have := List.mem_singleton.mp hq
              subst this
              rw [upd_ne (ne_of gk6 hd6 (fun z => nomatch z))]; exact gk6
          . rw [upd_ne (ne_of gk6 hd6 (fun z => nomatch z))]; exact gk6
          . unfold hasB; rw [List.any_append]; simp
        . have hn : hasB xs ks = true := by simpa using e
          exact ⟨xs, rfl, Lc, hd, hk, Nat.le_succ_of_le hx, gk, hn⟩
      rintro σ He ⟨xs, rfl, Le, hd, hk, hx, gk, hh⟩
      obtain ⟨c, v, hv⟩ := hasB_at hh
      obtain ⟨bs, hbs, hbl⟩ := Le.at_
      refine ⟨xs, ks, c, v, gk, hd, hk, hv, _, i, hbs, ixN_nat (by rw [List.length_map]; omega), ?_⟩
      rw [bl_set]
      refine ⟨some (.int i), some (.ref kk), xs, rfl, Le.put TP (by rw [List.length_set]; exact hbl), ?_, keysB_upd hk hbs (fun ys z => nomatch z), hx⟩
      rw [upd_ne pl]; exact hd
    . rintro σ He ⟨z2, z3, xs, rfl, Le, _⟩
      exact ⟨l, way, y, fb, _, z2, z3, z4, rfl, hy, Le⟩
  clear L
  rintro σ Ha ⟨l, way, y, fb, z1, z2, z3, z4, rfl, hy, L⟩
  refine seq_at (TabJ K H t a ns m M) ?_ ?_ (by walk_at "sm")
  . -- some places turned
    refine ⟨a, ns, L.tp, okDiv_of (by decide) (by decide), fun d Hb d0 d3 Tb fb' => ?_⟩
    have Lb := L.draw TP Tb fb'
    have hmul : ∃ N : Nat, d * (if decide (way > 1) = true then 1 else 0) = (N : Int) /\ N <= 2 := by
      by_cases h : way > 1
      . rw [decide_eq_true h, if_pos rfl, Int.mul_one]; exact ⟨d.toNat, by omega, by omega⟩
      . rw [decide_eq_false h, if_neg (by decide), Int.mul_zero]; exact ⟨0, rfl, by omega⟩
    obtain ⟨N, hN, hN2⟩ := hmul
    refine ⟨.inr (.inl ⟨by omega, by omega⟩), (N : Int), congrArg (fun z => [V.int z]) hN, by omega, by omega, ?_⟩
    refine for_range (fun _ => TabJ K H t a ns m M) ⟨l, way, y, fb, z1, z2, z3, z4, rfl, hy, Lb⟩ ?_ (fun σ H' h => h)
    rintro i σ Hc hi ⟨l, way, y, fb, z1, z2, z3, z4, rfl, hy, Lc⟩
    refine ⟨a, ns, Lc.tp, hMd, fun k' Hd k0 k1 Td fd => ?_⟩
    obtain ⟨k, rfl⟩ := Int.eq_ofNat_of_zero_le k0
    have Ld := Lc.draw TP Td fd
    obtain ⟨bs, hbs, hbl⟩ := Ld.at_
    have hk : k < bs.length := by omega
    refine ⟨_, .bl bs[k], .inl (.of hbs), atI_of rfl (by rw [List.getElem?_map, List.getElem?_eq_getElem hk]; rfl), _, k, hbs, ixN_nat (by rw [List.length_map]; omega), ?_⟩
    rw [bl_set]
    exact ⟨l, way, y, fb, z1, some (.int k), z3, some (.int (0 + (i : Int))), rfl, hy, Ld.put TP (by rw [List.length_set]; exact hbl)⟩
  clear L
  rintro σ Ha ⟨l, way, y, fb, z1, z2, z3, z4, rfl, hy, L⟩
  obtain ⟨bs, hbs, hbl⟩ := L.at_
  refine ⟨_, .inl ⟨.of hbs, fun p hp => ?_⟩⟩
  exact q bs p _ hbl (L.tp.free L.fr hp) upd_same (L.tp.upd hp) (L.fr.trans (Frm.upd hp))
def valB (b : Bool) : Int := if b = true then -1 else 1
def wtTo (m : Nat) (bs : List Bool) (x : Nat) : Nat -> Int
  | 0 => 0
  | j + 1 => wtTo m bs x j + sgL m x j * valB (bs.getD j false)
def termL (m M : Nat) (bs : List Bool) : Nat -> List (Nat × Int)
  | 0 => []
  | i + 1 => termL m M bs i ++ (if wtTo m bs i M = 0 then [] else [(i, wtTo m bs i M)])
def termD (q : Nat × Int) : Dv := .tup [.int q.1, .int q.2]
def sumD (m : Nat) (ts : List (Nat × Int)) : Dv := .tup [.int m, .tup (ts.map termD)]
theorem termL_len (m M : Nat) (bs : List Bool) : ∀ i, (termL m M bs i).length <= i
  | 0 => Nat.le_refl _
  | i + 1 => by
    unfold termL
    rw [List.length_append]
    have := termL_len m M bs i
    split
    . rw [List.length_nil]; omega
    . rw [List.length_singleton]; omega
theorem tups_terms : ∀ ts : List (Nat × Int), tupsOnly (ts.map termD) = true
  | [] => by unfold tupsOnly; rfl
  | q :: ts => by
    rw [List.map_cons]
    unfold tupsOnly
    rw [tups_terms ts]
    rfl
theorem sgL_ok {m x y : Nat} {z : Int} : okMul (sgL m x y) z := by
  unfold sgL
  split
  . exact .inr (.inl ⟨by decide, by decide⟩)
  . exact .inr (.inl ⟨by decide, by decide⟩)
def sp_sum (K : W.Frag) : Sp := fun vs H Q _ => match vs with
  | [.ref p] => ∃ (m : Nat) (bs : List Bool), 1 <= m /\ m <= 6 /\ bs.length = 2 ^ m /\ SqT K H p (bs.map V.bl) /\ ∀ v H', Same H H' -> Rep K H' (sumD m (termL m (2 ^ m) bs (2 ^ m))) v -> Q v H'
  | _ => False
theorem sp_sum_mono : SpMono (sp_sum K) := fun vs H Q Q' E h q => by
  unfold sp_sum at *
  split at q
  . revert q; repeat' first | exact h _ _ | exact newL_mono h | exact out_mono h | exact outT_mono h | walk_at "m"
  . exact q.elim
theorem same_new {p : Addr} {H0 H : Hp} {o : HO} (f : Same H0 H) (hp : H0 p = none) : Same H0 (upd H p o) := fun b u e => by
  rw [upd_ne (ne_of_none e hp)]; exact f b u e
theorem ok__law_sum : FnOk P w K mg base CX0 4 T.f__law_sum T.d__law_sum ["_law_table_here"] (sp_sum K) := by
  have G__law_two := ok__law_two (P := P) (w := w) (base := base) T; have G__law_sign := ok__law_sign (P := P) (w := w) (base := base) T
  refine T.F__law_sum.ok sc__law_sum (fun vs H Q E h => by unfold sp_sum at h; split at h <;> first | rfl | exact h.elim) (fun cdv A outer s H vs Q E hr h => ?_)
  have hu := hu60 hr
  have mo1 : SpMono (sp_sign K) := sp_sign_mono
  have mo2 : SpMono sp_two := sp_two_mono
  have hr__law_two := hr.mono (show 1 <= _ by decide); have hr__law_sign := hr.mono (show 3 <= _ by decide)
  unfold sp_sum at h
  split at h
  rotate_left
  . exact h.elim
  rename_i p
  obtain ⟨m, bs, m1, m6, hb, hp, q⟩ := h
  refine ⟨_, (@pss_cons _ _ _ _ _ (@ps_set _ _ 1 _ _ _ _ sc__law_sum.nd rfl (by walk_at "e") (@pe_op _ _ _ _ _ _ _ _ (kAdd (K := K)) (@kIndex _ K _ _ _ _ _ _ (@pe_lst _ _ _ _ (@pa_cons _ _ _ _ _ (@pe_int _ _ _ _) (@pa_cons _ _ _ _ _ (@pe_int _ _ _ _) (@pa_cons _ _ _ _ _ (@pe_int _ _ _ _) (@pa_cons _ _ _ _ _ (@pe_int _ _ _ _) (@pa_cons _ _ _ _ _ (@pe_int _ _ _ _) (@pa1 _ _ _ (@pe_int _ _ _ _) (by rfl)) (by rfl)) (by rfl)) (by rfl)) (by rfl)) (by rfl))) (@pa1 _ _ _ (@pe_callB _ _ _ _ _ _ _ _ _ (kLen (K := K)) rfl T.z_len (by rfl) (@pa1 _ _ _ (@vw _ 0 _ _ (by walk_at "v")) (by rfl)) (by decide) (by decide) (by rfl) (by rfl)) (by rfl)) (by rfl) (by rfl) (by rfl) (by rfl) (by rfl) (by rfl)) (@pe_int _ _ _ _)) (by rfl) (by walk_at "i")) (@pss_cons _ _ _ _ _ (@ps_set _ _ 2 _ _ _ _ sc__law_sum.nd rfl (by walk_at "e") (@pe_lst _ _ _ _ (@pa_nil _)) (by rfl) (by walk_at "i")) (@pss_cons _ _ _ _ _ (@ps_for _ _ _ _ _ _ _ _ PassesOwn.never rfl (@pi_range1 _ _ _ _ _ _ rfl T.z_range (@pa1 _ _ _ (@pe_call _ _ _ _ _ _ _ _ _ _ _ _ _ _ _ _ G__law_two hr__law_two rfl T.m__law_two T.F__law_two.kp T.b__law_two .nil pass0 (@pa1 _ _ _ (@vw _ 1 _ _ (by walk_at "v")) (by rfl)) (by decide) (by rfl) (by rfl)) (by rfl)) (by rfl)) (@pg_name _ _ 3 _ sc__law_sum.nd rfl (by walk_at "e") (by walk_at "i")) (@pss_cons _ _ _ _ _ (@ps_set _ _ 4 _ _ _ _ sc__law_sum.nd rfl (by walk_at "e") (@pe_int _ _ _ _) (by rfl) (by walk_at "i")) (@pss_cons _ _ _ _ _ (@ps_for _ _ _ _ _ _ _ _ PassesOwn.never rfl (@pi_range1 _ _ _ _ _ _ rfl T.z_range (@pa1 _ _ _ (@pe_call _ _ _ _ _ _ _ _ _ _ _ _ _ _ _ _ G__law_two hr__law_two rfl T.m__law_two T.F__law_two.kp T.b__law_two .nil pass0 (@pa1 _ _ _ (@vw _ 1 _ _ (by walk_at "v")) (by rfl)) (by decide) (by rfl) (by rfl)) (by rfl)) (by rfl)) (@pg_name _ _ 5 _ sc__law_sum.nd rfl (by walk_at "e") (by walk_at "i")) (@pss_one _ _ _ (@ps_set _ _ 4 _ _ _ _ sc__law_sum.nd rfl (by walk_at "e") (@pe_op _ _ _ _ _ _ _ _ (kAdd (K := K)) (@vw _ 4 _ _ (by walk_at "v")) (@pe_op _ _ _ _ _ _ _ _ om_mul (@pe_call _ _ _ _ _ _ _ _ _ _ _ _ _ _ _ _ G__law_sign hr__law_sign rfl T.m__law_sign T.F__law_sign.kp T.b__law_sign .nil pass0 (@pa_cons _ _ _ _ _ (@vw _ 1 _ _ (by walk_at "v")) (@pa_cons _ _ _ _ _ (@vw _ 3 _ _ (by walk_at "v")) (@pa1 _ _ _ (@vw _ 5 _ _ (by walk_at "v")) (by rfl)) (by rfl)) (by rfl)) (by decide) (by rfl) (by rfl)) (@kIx _ K _ _ _ _ _ (@pe_lst _ _ _ _ (@pa_cons _ _ _ _ _ (@pe_int _ _ _ _) (@pa1 _ _ _ (@pe_un _ _ _ _ _ _ um_neg (@pe_int _ _ _ _)) (by rfl)) (by rfl))) (@pe_callTy _ _ _ _ _ _ _ _ _ cm_int rfl T.z_int (by rfl) (@pa1 _ _ _ (@kIx _ K _ _ _ _ _ (@vw _ 0 _ _ (by walk_at "v")) (@vw _ 5 _ _ (by walk_at "v")) (by intro _ _; rfl) (by rfl)) (by rfl)) (by decide) (by decide) (by rfl) (by rfl)) (by intro _ _; rfl) (by rfl)))) (by rfl) (by walk_at "i"))) (by intro _; rfl)) (@pss_one _ _ _ (@ps_if _ _ _ _ _ _ _ _ (@tu_cmp _ _ _ _ _ _ _ _ (kNe (K := K) hu) (@vw _ 4 _ _ (by walk_at "v")) (@pe_int _ _ _ _) (by walk_at "n")) (@pss_one _ _ _ (@ps_expr _ _ _ _ (@kAppend _ K _ _ _ _ _ _ (@vw _ 2 _ _ (by walk_at "v")) (@pa1 _ _ _ (@pe_tup _ _ _ _ _ (@pa_cons _ _ _ _ _ (@vw _ 3 _ _ (by walk_at "v")) (@pa1 _ _ _ (@vw _ 4 _ _ (by walk_at "v")) (by rfl)) (by rfl))) (by rfl)) (by rfl) (by rfl) (by rfl) (by rfl) (by rfl) (by rfl)) (by rfl))) (@pss_nil _))))) (by intro _; rfl)) (@pss_one _ _ _ (@ps_ret _ _ _ _ (@pe_tup _ _ _ _ _ (@pa_cons _ _ _ _ _ (@vw _ 1 _ _ (by walk_at "v")) (@pa1 _ _ _ (@pe_callTy _ _ _ _ _ _ _ _ _ (kTuple (K := K)) rfl T.z_tuple (by rfl) (@pa1 _ _ _ (@vw _ 2 _ _ (by walk_at "v")) (by rfl)) (by decide) (by decide) (by rfl) (by rfl)) (by rfl)) (by rfl)))))))), ?_⟩
  have h64 : 2 ^ m <= 64 := Nat.pow_le_pow_right (n := 2) (by decide) m6
  -- n
  refine ⟨small_le (show 6 <= 1000 by decide), fun l0 hl0 => ?_⟩
  have s0 : Same H (upd H l0 (.lst [.int 2, .int 4, .int 8, .int 16, .int 32, .int 64])) := Same.upd hl0
  have hix : ∃ z, [V.int 2, .int 4, .int 8, .int 16, .int 32, .int 64][m - 1]? = some z /\ eqV z (.int (2 ^ m : Nat)) = true /\ ∀ (k : Nat) (v : V), k < m - 1 -> [V.int 2, .int 4, .int 8, .int 16, .int 32, .int 64][k]? = some v -> eqV v (.int (2 ^ m : Nat)) = false := by
    have : m = 1 \/ m = 2 \/ m = 3 \/ m = 4 \/ m = 5 \/ m = 6 := by omega
    rcases this with e | e | e | e | e | e <;> subst e <;> refine ⟨_, rfl, by decide, ?_⟩ <;> intro k v hk hv <;> (try omega)
    all_goals (have : k = 0 \/ k = 1 \/ k = 2 \/ k = 3 \/ k = 4 := by omega)
    all_goals (rcases this with e | e | e | e | e <;> subst e <;> first | omega | (cases hv; rfl))
  obtain ⟨z, hz1, hz2, hz3⟩ := hix
  have e2 : (2 : Int) ^ ((m : Int).toNat) = ((2 ^ m : Nat) : Int) := by rw [Int.toNat_natCast, Int.natCast_pow]; rfl
  generalize hM : 2 ^ m = M at *
  have hMr : (M : Int) < 2 ^ 62 := Int.lt_of_le_of_lt (Int.ofNat_le.mpr h64) (by decide)
  refine ⟨.inl ⟨rfl, _, .of upd_same⟩, M, .inr ⟨_, sqT_same hp s0, by rw [List.length_map, hb]⟩, _, m - 1, z, .of upd_same, rfl, rfl, hz1, hz2, hz3, ?_⟩
  have en : ((m - 1 : Nat) : Int) + 1 = (m : Int) := by omega
  dsimp only [tC, mAdd, gName]
  rw [en]
  refine ⟨small_le (show 0 <= 1000 by decide), fun l hl => ?_⟩
  have hl0 : H l = none := s0.free hl
  generalize upd H l0 (.lst [.int 2, .int 4, .int 8, .int 16, .int 32, .int 64]) = H1 at *
  dsimp only [gName]
  refine seq_at (fun σ H' => ∃ (z3 z4 z5 : Option V) (vs : List V), σ = [some (.ref p), some (.int m), some (.ref l), z3, z4, z5] /\ Same H H' /\ H' l = some (.lst vs) /\ Reps K H' ((termL m M bs M).map termD) vs) ?_ ?_ (by walk_at "sm")
  . refine ⟨by omega, by omega, fun H2 s2 => ?_⟩
    rw [e2]
    refine ⟨(M : Int), rfl, by omega, by omega, ?_⟩
    refine for_range (fun i σ H' => ∃ (z3 z4 z5 : Option V) (vs : List V), σ = [some (.ref p), some (.int m), some (.ref l), z3, z4, z5] /\ Same H H' /\ H' l = some (.lst vs) /\ Reps K H' ((termL m M bs i).map termD) vs /\ vs.length <= i)
      ⟨none, none, none, [], rfl, s0.trans ((Same.upd hl).trans s2), s2 _ _ upd_same, reps_nil, Nat.le_refl _⟩ ?_ ?_
    . rintro i σ H3 hi ⟨z3, z4, z5, vs, rfl, s3, g3, r3, v3⟩
      have hi' : i < M := by omega
      have e0 : (0 : Int) + (i : Int) = (i : Int) := Int.zero_add _
      rw [e0]
      dsimp only [gName]
      refine seq_at (fun σ H' => σ = [some (.ref p), some (.int m), some (.ref l), some (.int i), some (.int 0), z5] /\ H3 = H') ⟨rfl, rfl⟩ ?_ (by walk_at "sm")
      rintro σ _ ⟨rfl, rfl⟩
      refine seq_at (fun σ H' => ∃ z5 : Option V, σ = [some (.ref p), some (.int m), some (.ref l), some (.int i), some (.int (wtTo m bs i M)), z5] /\ Same H3 H') ?_ ?_ (by walk_at "sm")
      . refine ⟨by omega, by omega, fun H4 s4 => ?_⟩
        rw [e2]
        refine ⟨(M : Int), rfl, by omega, by omega, ?_⟩
        refine for_range (fun j σ H' => ∃ z5 : Option V, σ = [some (.ref p), some (.int m), some (.ref l), some (.int i), some (.int (wtTo m bs i j)), z5] /\ Same H3 H') ⟨z5, rfl, s4⟩ ?_ (fun σ H' h => h)
        rintro j σ H5 hj ⟨z5, rfl, s5⟩
        have hj' : j < bs.length := by omega
        rw [show (0 : Int) + (j : Int) = (j : Int) from Int.zero_add _]
        refine ⟨m, i, j, rfl, rfl, rfl, m6, fun H6 s6 => ⟨small_le (show 2 <= 1000 by decide), fun r hr' => ?_⟩⟩
        have S6 : Same H (upd H6 r (.lst [.int 1, .int (-1)])) := s3.trans (s5.trans (s6.trans (Same.upd hr')))
        refine ⟨_, .bl bs[j], .inr (sqT_same hp S6), atI_of rfl (by rw [List.getElem?_map, List.getElem?_eq_getElem hj']; rfl), ?_⟩
        refine ⟨_, .int (valB bs[j]), .inl (.of upd_same), ?_, sgL_ok, ?_⟩
        . unfold valB
          cases bs[j] <;> rfl
        . refine ⟨some (.int j), ?_, s5.trans (s6.trans (Same.upd hr'))⟩
          have ew : wtTo m bs i (j + 1) = wtTo m bs i j + sgL m i j * valB bs[j] := by
            show wtTo m bs i j + sgL m i j * valB (bs.getD j false) = _
            rw [List.getD_eq_getElem?_getD, List.getElem?_eq_getElem hj']
            rfl
          rw [ew]
          rfl
      rintro σ H4 ⟨z5, rfl, s4⟩
      have g4 := s4 _ _ g3
      have r4 := Reps.same s4 _ _ r3
      have s4' := s3.trans s4
      have et : termL m M bs (i + 1) = termL m M bs i ++ (if wtTo m bs i M = 0 then [] else [(i, wtTo m bs i M)]) := rfl
      rw [et]
      generalize hw : wtTo m bs i M = wt at *
      refine ite2 (fun e => ?_) (fun e => ?_)
      . have w0 : ¬ wt = 0 := by simpa using e
        rw [if_neg w0, List.map_append]
        refine ⟨.inl ⟨rfl, _, .of g4⟩, small_le (show 2 <= 1000 by decide), fun k hk => ?_⟩
        have lk : l ≠ k := ne_of_none g4 hk
        refine ⟨vs, by rw [upd_ne lk]; exact g4, small1000 (by omega), ?_⟩
        refine ⟨some (.int i), some (.int wt), z5, vs ++ [.ref k], rfl, ?_, upd_same, ?_, by rw [List.length_append]; exact Nat.succ_le_succ v3⟩
        . exact same_new (s4'.trans (Same.upd hk)) hl0
        . have gl : upd H4 k (.tup [.int i, .int wt]) l = some (.lst vs) := by rw [upd_ne lk]; exact g4
          refine Reps.append ?_ ?_
          . exact Reps.frm Frm.updT ⟨_, gl⟩ _ _ (tups_terms _) (Reps.same (Same.upd hk) _ _ r4)
          . refine reps_cons (rep_tup1 (xs := [.int i, .int wt]) ?_ (reps_cons rep_int (reps_cons rep_int reps_nil))) reps_nil
            rw [upd_ne (Ne.symm lk)]; exact upd_same
      . have w0 : wt = 0 := by simpa using e
        rw [if_pos w0, List.append_nil]
        exact ⟨some (.int i), some (.int wt), z5, vs, rfl, s4', g4, r4, Nat.le_succ_of_le v3⟩
    . rintro σ H3 ⟨z3, z4, z5, vs, rfl, s3, g3, r3, _⟩
      exact ⟨z3, z4, z5, vs, rfl, s3, g3, r3⟩
  rintro σ H3 ⟨z3, z4, z5, vs, rfl, s3, g3, r3⟩
  refine ⟨_, .inl ⟨.of g3, fun k hk => ⟨small_le (show 2 <= 1000 by decide), fun k2 hk2 => ?_⟩⟩⟩
  have S := (Same.upd (o := .tup vs) hk).trans (Same.upd (o := .tup [.int m, .ref k]) hk2)
  refine q _ _ (s3.trans S) ?_
  refine rep_tup1 upd_same (reps_cons rep_int (reps_cons (rep_tup1 (xs := vs) ?_ (Reps.same S _ _ r3)) reps_nil))
  exact Same.upd hk2 _ _ upd_same
def sp_power : Sp := fun vs H Q _ => match vs with
  | [.int b, .int t] => ∃ m : Nat, t = m /\ m <= 64 /\ ((-(2 ^ 64) < b /\ b < 2 ^ 64) \/ (Nb b 100 /\ m <= 12)) /\ Q (.int (b ^ m)) H
  | _ => False
theorem ok_power_of : FnOk P w K mg base CX0 1 T.f_power_of T.d_power_of ["base", "times"] sp_power := by
  refine T.F_power_of.ok sc_power_of (fun vs H Q E h => by unfold sp_power at h; split at h <;> first | rfl | exact h.elim) (fun cdv A outer s H vs Q E hr h => ?_)
  have hu := hu60 hr
  unfold sp_power at h
  split at h
  rotate_left
  . exact h.elim
  rename_i b t
  obtain ⟨m, e1, h1, b1, q⟩ := h
  subst e1
  refine ⟨_, (@pss_cons _ _ _ _ _ (@ps_set _ _ 2 _ _ _ _ sc_power_of.nd rfl (by walk_at "e") (@pe_int _ _ _ _) (by rfl) (by walk_at "i")) (@pss_cons _ _ _ _ _ (@ps_for _ _ _ _ _ _ _ _ PassesOwn.never rfl (@pi_range1 _ _ _ _ _ _ rfl T.z_range (@pa1 _ _ _ (@vw _ 1 _ _ (by walk_at "v")) (by rfl)) (by rfl)) (@pg_name _ _ 3 _ sc_power_of.nd rfl (by walk_at "e") (by walk_at "i")) (@pss_one _ _ _ (@ps_set _ _ 2 _ _ _ _ sc_power_of.nd rfl (by walk_at "e") (@pe_op _ _ _ _ _ _ _ _ om_mul (@vw _ 2 _ _ (by walk_at "v")) (@vw _ 0 _ _ (by walk_at "v"))) (by rfl) (by walk_at "i"))) (by intro _; rfl)) (@pss_one _ _ _ (@ps_ret _ _ _ _ (@vw _ 2 _ _ (by walk_at "v")))))), ?_⟩
  refine ⟨m, rfl, by omega, by omega, ?_⟩
  refine for_range (fun i σ H' => H' = H /\ ∃ z : Option V, σ = [some (.int b), some (.int m), some (.int (b ^ i)), z]) ⟨rfl, none, by rw [Int.pow_zero]; rfl⟩ ?_ ?_
  . rintro i σ H' hi ⟨rfl, z, rfl⟩
    have hi' : i < m := by omega
    have okm : okMul (b ^ i) b := by
      rcases b1 with b1 | ⟨b1, b2⟩
      . exact .inr (.inr b1)
      . exact Nb.okMul ((b1.pow i).up (by omega)) (b1.up (by omega))
    refine ⟨okm, rfl, some (.int (0 + (i : Int))), ?_⟩
    rw [Int.pow_succ]
    rfl
  . rintro σ H' ⟨rfl, z, rfl⟩
    have : (m : Int).toNat = m := by omega
    rw [this]
    exact q
def sp_two_to : Sp := fun vs H Q _ => match vs with
  | [.int n] => ∃ m : Nat, n = m /\ m <= 64 /\ Q (.int (2 ^ m : Nat)) H
  | _ => False
theorem ok_two_to : FnOk P w K mg base CX0 2 T.f_two_to T.d_two_to ["n"] sp_two_to := by
  have G_power_of := ok_power_of (P := P) (w := w) (base := base) T
  refine T.F_two_to.ok sc_two_to (fun vs H Q E h => by unfold sp_two_to at h; split at h <;> first | rfl | exact h.elim) (fun cdv A outer s H vs Q E hr h => ?_)
  have hu := hu60 hr
  have hr_power_of := hr.mono (show 1 <= _ by decide)
  unfold sp_two_to at h
  split at h
  rotate_left
  . exact h.elim
  rename_i n
  obtain ⟨m, e1, h1, q⟩ := h
  subst e1
  refine ⟨_, (@pss_one _ _ _ (@ps_ret _ _ _ _ (@pe_call _ _ _ _ _ _ _ _ _ _ _ _ _ _ _ _ G_power_of hr_power_of rfl T.m_power_of T.F_power_of.kp T.b_power_of .nil pass0 (@pa_cons _ _ _ _ _ (@pe_int _ _ _ _) (@pa1 _ _ _ (@vw _ 0 _ _ (by walk_at "v")) (by rfl)) (by rfl)) (by decide) (by rfl) (by rfl)))), ?_⟩
  refine ⟨m, rfl, h1, .inl ⟨by decide, by decide⟩, ?_⟩
  have e : (2 : Int) ^ m = ((2 ^ m : Nat) : Int) := by rw [Int.natCast_pow]; rfl
  rw [e]
  exact q
def isWholeD : Dv -> Bool
  | .int _ => true
  | _ => false
def isPairD : Dv -> Bool
  | .tup ds => ds.length == 2
  | _ => false
def sp_dB (K : W.Frag) (f : Dv -> Bool) : Sp := fun vs H Q _ => match vs with
  | [v] => ∃ d, Rep K H d v /\ Q (.bl (f d)) H
  | _ => False
theorem sp_dB_mono {f : Dv -> Bool} : SpMono (sp_dB K f) := fun vs H Q Q' E h q => by
  unfold sp_dB at *
  split at q
  . revert q; repeat' first | exact h _ _ | exact newL_mono h | exact out_mono h | exact outT_mono h | walk_at "m"
  . exact q.elim
theorem ok_is_whole : FnOk P w K mg base CX0 1 T.f_is_whole T.d_is_whole ["thing"] (sp_dB K isWholeD) := by
  refine T.F_is_whole.ok sc_is_whole (fun vs H Q E h => by unfold sp_dB at h; split at h <;> first | rfl | exact h.elim) (fun cdv A outer s H vs Q E hr h => ?_)
  have hu := hu60 hr
  unfold sp_dB at h
  split at h
  rotate_left
  . exact h.elim
  rename_i v
  obtain ⟨d, hd, q⟩ := h
  refine ⟨_, (@pss_one _ _ _ (@ps_ret _ _ _ _ (@pe_andM _ _ _ _ _ _ _ (@pe_callB _ _ _ _ _ _ _ _ _ (kIsiD (K := K)) rfl T.z_isinstance (by rfl) (@pa_cons _ _ _ _ _ (@vw _ 0 _ _ (by walk_at "v")) (@pa1 _ _ _ (@pe_bltn _ _ (.ty "int") _ _ rfl T.z_int (by rfl) rfl (by decide) (by decide)) (by rfl)) (by rfl)) (by decide) (by decide) (by rfl) (by rfl)) (@pe_one _ _ _ _ _ (@pe_notM _ _ _ _ (@pe_callB _ _ _ _ _ _ _ _ _ (kIsiD (K := K)) rfl T.z_isinstance (by rfl) (@pa_cons _ _ _ _ _ (@vw _ 0 _ _ (by walk_at "v")) (@pa1 _ _ _ (@pe_bltn _ _ (.ty "bool") _ _ rfl T.z_bool (by rfl) rfl (by decide) (by decide)) (by rfl)) (by rfl)) (by decide) (by decide) (by rfl) (by rfl))))))), ?_⟩
  refine ⟨by decide, d, hd, ?_⟩
  refine ite2 (fun e => ⟨by decide, d, hd, ?_⟩) (fun e => ?_)
  . have : isWholeD d = !isTy (tyD d) "bool" := by
      revert e
      cases d <;> intro e <;> first | rfl | (simp [isTy, tyD] at e; done)
    rw [this] at q
    exact q
  . have : isWholeD d = false := by
      revert e
      cases d <;> intro e <;> first | rfl | exact absurd (show isTy _ _ = true by simp [isTy, tyD]) e
    rw [this] at q
    exact q
def sp_dE (K : W.Frag) (f : Dv -> Bool) : Sp := fun vs H Q _ => match vs with
  | [v] => (∃ d, Rep K H d v /\ Q (.bl (f d)) H) \/ (∃ a kvs, v = .ref a /\ H a = some (.dK kvs) /\ Q (.bl false) H)
  | _ => False
theorem ok_is_pair : FnOk P w K mg base CX0 1 T.f_is_pair T.d_is_pair ["thing"] (sp_dE K isPairD) := by
  refine T.F_is_pair.ok sc_is_pair (fun vs H Q E h => by unfold sp_dE at h; split at h <;> first | rfl | exact h.elim) (fun cdv A outer s H vs Q E hr h => ?_)
  have hu := hu60 hr
  unfold sp_dE at h
  split at h
  rotate_left
  . exact h.elim
  rename_i v
  refine ⟨_, (@pss_one _ _ _ (@ps_ret _ _ _ _ (@pe_andM _ _ _ _ _ _ _ (@pe_callB _ _ _ _ _ _ _ _ _ (kIsiE (K := K)) rfl T.z_isinstance (by rfl) (@pa_cons _ _ _ _ _ (@vw _ 0 _ _ (by walk_at "v")) (@pa1 _ _ _ (@pe_bltn _ _ (.ty "tuple") _ _ rfl T.z_tuple (by rfl) rfl (by decide) (by decide)) (by rfl)) (by rfl)) (by decide) (by decide) (by rfl) (by rfl)) (@pe_one _ _ _ _ _ (@pe_cmpM _ _ _ _ _ _ _ _ (kEq (K := K) hu) (@pe_callB _ _ _ _ _ _ _ _ _ (kLen (K := K)) rfl T.z_len (by rfl) (@pa1 _ _ _ (@vw _ 0 _ _ (by walk_at "v")) (by rfl)) (by decide) (by decide) (by rfl) (by rfl)) (@pe_int _ _ _ _) (by walk_at "n")))))), ?_⟩
  rcases h with ⟨d, hd, q⟩ | ⟨a, kvs, rfl, ha, q⟩
  . refine .inl ⟨by decide, d, hd, ?_⟩
    refine ite2 (fun e => ?_) (fun e => ?_)
    . cases d with
      | tup ds =>
        obtain ⟨a, xs, rfl, hs, hx⟩ := rep_tup_inv hd
        refine ⟨ds.length, .inr ⟨xs, hs, hx.length⟩, ?_⟩
        have : (false ^^ (((ds.length : Nat) : Int) == 2)) = (ds.length == 2) := by
          rw [Bool.false_xor, Bool.eq_iff_iff]
          simp only [beq_iff_eq]
          omega
        show Q (.bl (false ^^ (((ds.length : Nat) : Int) == 2))) H
        rw [this]
        exact q
      | _ => simp [isTy, tyD] at e
    . have : isPairD d = false := by
        revert e
        cases d <;> intro e <;> first | rfl | exact absurd (show isTy _ _ = true by simp [isTy, tyD]) e
      rw [this] at q
      exact q
  . exact .inr ⟨by decide, false, .inr (.inr (.inl ⟨⟨kvs, ha⟩, rfl⟩)), q⟩
def belowD (n : Int) : Dv -> Bool
  | .int i => decide (0 <= i) && decide (i < n)
  | _ => false
def sp_belowD (K : W.Frag) : Sp := fun vs H Q _ => match vs with
  | [.int n, v] => ∃ d, Rep K H d v /\ Q (.bl (belowD n d)) H
  | _ => False
theorem ok_is_below : FnOk P w K mg base CX0 2 T.f_is_below T.d_is_below ["bound", "thing"] (sp_belowD K) := by
  have G_is_whole := ok_is_whole (P := P) (w := w) (base := base) T
  refine T.F_is_below.ok sc_is_below (fun vs H Q E h => by unfold sp_belowD at h; split at h <;> first | rfl | exact h.elim) (fun cdv A outer s H vs Q E hr h => ?_)
  have hu := hu60 hr
  have hr_is_whole := hr.mono (show 1 <= _ by decide)
  match vs, h with
  | [.int n, v], ⟨d, hd, q⟩ =>
  refine ⟨_, (@pss_one _ _ _ (@ps_ret _ _ _ _ (@pe_andM _ _ _ _ _ _ _ (@pe_call _ _ _ _ _ _ _ _ _ _ _ _ _ _ _ _ G_is_whole hr_is_whole rfl T.m_is_whole T.F_is_whole.kp T.b_is_whole .nil pass0 (@pa1 _ _ _ (@vw _ 1 _ _ (by walk_at "v")) (by rfl)) (by decide) (by rfl) (by rfl)) (@pe_one _ _ _ _ _ (@pe_chainM _ _ _ _ _ _ _ _ _ _ _ _ om_le om_lt (@pe_int _ _ _ _) (@vw _ 1 _ _ (by walk_at "v")) (@vw _ 0 _ _ (by walk_at "v")) (by with_unfolding_all rfl)))))), ?_⟩
  refine ⟨d, hd, ?_⟩
  cases d with
  | int i =>
    unfold Rep at hd
    subst hd
    have q : Q (.bl (decide (0 <= i) && decide (i < n))) H := q
    refine ite2 (fun e => ?_) (fun e => ?_)
    . have e' : 0 <= i := of_decide_eq_true e
      rw [decide_eq_true e', Bool.true_and] at q
      exact q
    . rw [decide_eq_false (fun z => e (decide_eq_true z)), Bool.false_and] at q
      exact q
  | _ => exact q
def sp_placeD (K : W.Frag) : Sp := fun vs H Q _ => match vs with
  | [.int x, v] => ∃ (m : Nat) (d : Dv), x = m /\ m <= 6 /\ Rep K H d v /\ Q (.bl (belowD ((2 ^ m : Nat) : Int) d)) H
  | _ => False
theorem ok_is_place : FnOk P w K mg base CX0 3 T.f_is_place T.d_is_place ["n", "thing"] (sp_placeD K) := by
  have G_is_below := ok_is_below (P := P) (w := w) (base := base) T; have G_two_to := ok_two_to (P := P) (w := w) (base := base) T
  refine T.F_is_place.ok sc_is_place (fun vs H Q E h => by unfold sp_placeD at h; split at h <;> first | rfl | exact h.elim) (fun cdv A outer s H vs Q E hr h => ?_)
  have hu := hu60 hr
  have hr_is_below := hr.mono (show 2 <= _ by decide); have hr_two_to := hr.mono (show 2 <= _ by decide)
  unfold sp_placeD at h
  split at h
  rotate_left
  . exact h.elim
  rename_i x v
  obtain ⟨m, k, e1, m6, hk, q⟩ := h
  subst e1
  refine ⟨_, (@pss_one _ _ _ (@ps_ret _ _ _ _ (@pe_call _ _ _ _ _ _ _ _ _ _ _ _ _ _ _ _ G_is_below hr_is_below rfl T.m_is_below T.F_is_below.kp T.b_is_below .nil pass0 (@pa_cons _ _ _ _ _ (@pe_call _ _ _ _ _ _ _ _ _ _ _ _ _ _ _ _ G_two_to hr_two_to rfl T.m_two_to T.F_two_to.kp T.b_two_to .nil pass0 (@pa1 _ _ _ (@vw _ 0 _ _ (by walk_at "v")) (by rfl)) (by decide) (by rfl) (by rfl)) (@pa1 _ _ _ (@vw _ 1 _ _ (by walk_at "v")) (by rfl)) (by rfl)) (by decide) (by rfl) (by rfl)))), ?_⟩
  exact ⟨m, rfl, by omega, k, hk, q⟩
theorem reps_cons_inv {H : Hp} {d : Dv} {ds : List Dv} {xs : List V} (h : Reps K H (d :: ds) xs) : ∃ x l, xs = x :: l /\ Rep K H d x /\ Reps K H ds l := by unfold Reps at h; exact h
theorem reps_get {H : Hp} : ∀ {ds : List Dv} {xs : List V} {i : Nat} {x : V}, Reps K H ds xs -> xs[i]? = some x -> ∃ d, ds[i]? = some d /\ Rep K H d x
  | [], xs, i, x, h, e => by unfold Reps at h; subst h; cases e
  | d :: ds, xs, i, x, h, e => by
    obtain ⟨y, l, rfl, r, h⟩ := reps_cons_inv h
    cases i with
    | zero => cases e; exact ⟨d, rfl, r⟩
    | succ i => exact reps_get (ds := ds) (i := i) h (by simpa using e)
def termB (m : Nat) : Dv -> Bool
  | .tup [a, b] => belowD ((2 ^ m : Nat) : Int) a && isWholeD b
  | _ => false
def sp_term (K : W.Frag) : Sp := fun vs H Q _ => match vs with
  | [.int x, v] => ∃ (m : Nat) (d : Dv), x = m /\ m <= 6 /\ Rep K H d v /\ Q (.bl (termB m d)) H
  | _ => False
theorem ok_is_term : FnOk P w K mg base CX0 4 T.f_is_term T.d_is_term ["n", "thing"] (sp_term K) := by
  have G_is_pair := ok_is_pair (P := P) (w := w) (base := base) T; have G_is_place := ok_is_place (P := P) (w := w) (base := base) T; have G_is_whole := ok_is_whole (P := P) (w := w) (base := base) T
  refine T.F_is_term.ok sc_is_term (fun vs H Q E h => by unfold sp_term at h; split at h <;> first | rfl | exact h.elim) (fun cdv A outer s H vs Q E hr h => ?_)
  have hu := hu60 hr
  have hr_is_pair := hr.mono (show 1 <= _ by decide); have hr_is_place := hr.mono (show 3 <= _ by decide); have hr_is_whole := hr.mono (show 1 <= _ by decide)
  unfold sp_term at h
  split at h
  rotate_left
  . exact h.elim
  rename_i x v
  obtain ⟨m, d, e1, m6, hd, q⟩ := h
  subst e1
  refine ⟨_, (@pss_one _ _ _ (@ps_ret _ _ _ _ (@pe_andM _ _ _ _ _ _ _ (@pe_call _ _ _ _ _ _ _ _ _ _ _ _ _ _ _ _ G_is_pair hr_is_pair rfl T.m_is_pair T.F_is_pair.kp T.b_is_pair .nil pass0 (@pa1 _ _ _ (@vw _ 1 _ _ (by walk_at "v")) (by rfl)) (by decide) (by rfl) (by rfl)) (@pe_andM _ _ _ _ _ _ _ (@pe_call _ _ _ _ _ _ _ _ _ _ _ _ _ _ _ _ G_is_place hr_is_place rfl T.m_is_place T.F_is_place.kp T.b_is_place .nil pass0 (@pa_cons _ _ _ _ _ (@vw _ 0 _ _ (by walk_at "v")) (@pa1 _ _ _ (@kIx _ K _ _ _ _ _ (@vw _ 1 _ _ (by walk_at "v")) (@pe_int _ _ _ _) (by intro _ _; rfl) (by rfl)) (by rfl)) (by rfl)) (by decide) (by rfl) (by rfl)) (@pe_one _ _ _ _ _ (@pe_call _ _ _ _ _ _ _ _ _ _ _ _ _ _ _ _ G_is_whole hr_is_whole rfl T.m_is_whole T.F_is_whole.kp T.b_is_whole .nil pass0 (@pa1 _ _ _ (@kIx _ K _ _ _ _ _ (@vw _ 1 _ _ (by walk_at "v")) (@pe_int _ _ _ _) (by intro _ _; rfl) (by rfl)) (by rfl)) (by decide) (by rfl) (by rfl))))))), ?_⟩
  refine .inl ⟨d, hd, ?_⟩
  by_cases hp : isPairD d = true
  . cases d with
    | tup ds =>
      match ds, hp with
      | [a, b], _ =>
      obtain ⟨p, xs, rfl, hs, hx⟩ := rep_tup_inv hd
      obtain ⟨x0, l0, rfl, r0, hx⟩ := reps_cons_inv hx
      obtain ⟨x1, l1, rfl, r1, hx⟩ := reps_cons_inv hx
      unfold Reps at hx
      subst hx
      have q : Q (.bl (belowD ((2 ^ m : Nat) : Int) a && isWholeD b)) H := q
      refine ⟨_, _, .inr hs, rfl, m, a, rfl, m6, r0, ?_⟩
      refine ite2 (fun e => ?_) (fun e => ?_)
      . rw [e, Bool.true_and] at q
        exact ⟨_, _, .inr hs, rfl, b, r1, q⟩
      . have e' : belowD ((2 ^ m : Nat) : Int) a = false := by simpa using e
        rw [e', Bool.false_and] at q
        exact q
    | _ => cases hp
  . have hp' : isPairD d = false := by simpa using hp
    have ht : termB m d = false := by
      cases d with
      | tup ds =>
        match ds, hp' with
        | [], _ => rfl
        | [_], _ => rfl
        | [_, _], h => cases h
        | _ :: _ :: _ :: _, _ => rfl
      | _ => rfl
    rw [ht] at q
    rw [hp']
    exact q
def idxD : Dv -> Int
  | .tup (.int i :: _) => i
  | _ => 0
def termsB (m : Nat) : Int -> List Dv -> Bool
  | _, [] => true
  | last, d :: ds => termB m d && (decide (last < idxD d) && termsB m (idxD d) ds)
theorem termB_inv {m : Nat} {d : Dv} (h : termB m d = true) : ∃ i w, d = .tup [.int i, .int w] /\ 0 <= i /\ i < ((2 ^ m : Nat) : Int) := by
  unfold termB at h
  split at h
  . rename_i a b
    rw [Bool.and_eq_true] at h
    cases a with
    | int i =>
      cases b with
      | int w =>
        have h1 : (decide (0 <= i) && decide (i < ((2 ^ m : Nat) : Int))) = true := h.1
        rw [Bool.and_eq_true] at h1
        exact ⟨i, w, rfl, of_decide_eq_true h1.1, of_decide_eq_true h1.2⟩
      | _ => cases h.2
    | _ => cases h.1
  . cases h
def sp_terms (K : W.Frag) : Sp := fun vs H Q _ => match vs with
  | [.int x, v] => ∃ (m : Nat) (ds : List Dv), x = m /\ m <= 6 /\ Rep K H (.tup ds) v /\ Q (.bl (termsB m (-1) ds)) H
  | _ => False
theorem ok_are_terms : FnOk P w K mg base CX0 5 T.f_are_terms T.d_are_terms ["n", "terms"] (sp_terms K) := by
  have G_is_term := ok_is_term (P := P) (w := w) (base := base) T
  refine T.F_are_terms.ok sc_are_terms (fun vs H Q E h => by unfold sp_terms at h; split at h <;> first | rfl | exact h.elim) (fun cdv A outer s H vs Q E hr h => ?_)
  have hu := hu60 hr
  have hr_is_term := hr.mono (show 4 <= _ by decide)
  unfold sp_terms at h
  split at h
  rotate_left
  . exact h.elim
  rename_i x v
  obtain ⟨m, ds, e1, m6, hd, q⟩ := h
  subst e1
  obtain ⟨p, xs, rfl, hs, hx⟩ := rep_tup_inv hd
  have hl := hx.length
  refine ⟨_, (@pss_cons _ _ _ _ _ (@ps_set _ _ 2 _ _ _ _ sc_are_terms.nd rfl (by walk_at "e") (@pe_un _ _ _ _ _ _ um_neg (@pe_int _ _ _ _)) (by rfl) (by walk_at "i")) (@pss_cons _ _ _ _ _ (@ps_for _ _ _ _ _ _ _ _ PassesOwn.never rfl (@kSeq _ K _ _ _ (@vw _ 1 _ _ (by walk_at "v")) (by rfl)) (@pg_name _ _ 3 _ sc_are_terms.nd rfl (by walk_at "e") (by walk_at "i")) (@pss_cons _ _ _ _ _ (@ps_if _ _ _ _ _ _ _ _ (PW.pt (@pw_or _ _ _ _ _ _ _ (@pt_not _ _ _ _ (@tu_val _ _ _ (@pe_call _ _ _ _ _ _ _ _ _ _ _ _ _ _ _ _ G_is_term hr_is_term rfl T.m_is_term T.F_is_term.kp T.b_is_term .nil pass0 (@pa_cons _ _ _ _ _ (@vw _ 0 _ _ (by walk_at "v")) (@pa1 _ _ _ (@vw _ 3 _ _ (by walk_at "v")) (by rfl)) (by rfl)) (by decide) (by rfl) (by rfl)) (by intro _; rfl))) (@pw_or1 _ _ _ _ (@tu_cmp _ _ _ _ _ _ _ _ om_le (@kIx _ K _ _ _ _ _ (@vw _ 3 _ _ (by walk_at "v")) (@pe_int _ _ _ _) (by intro _ _; rfl) (by rfl)) (@vw _ 2 _ _ (by walk_at "v")) (by walk_at "n"))))) (@pss_one _ _ _ (@ps_ret _ _ _ _ (@pe_bl _ _ _ _))) (@pss_nil _)) (@pss_one _ _ _ (@ps_set _ _ 2 _ _ _ _ sc_are_terms.nd rfl (by walk_at "e") (@kIx _ K _ _ _ _ _ (@vw _ 3 _ _ (by walk_at "v")) (@pe_int _ _ _ _) (by intro _ _; rfl) (by rfl)) (by rfl) (by walk_at "i")))) (by intro _; rfl)) (@pss_one _ _ _ (@ps_ret _ _ _ _ (@pe_bl _ _ _ _))))), ?_⟩
  refine .inr ⟨⟨_, hs⟩, ?_⟩
  refine for_tup (xs := xs) (fun i σ H' => ∃ (last : Int) (z : Option V), σ = [some (.int m), some (.ref p), some (.int last), z] /\ H' = H /\ termsB m (-1) ds = termsB m last (ds.drop i)) ⟨-1, none, rfl, rfl, rfl⟩ (fun i σ H' _ ⟨_, _, _, e, _⟩ => by rw [e]; exact hs) ?_ ?_
  . rintro i x σ H' hxi ⟨last, z, rfl, rfl, et⟩
    obtain ⟨d, hdi, rd⟩ := reps_get hx hxi
    have hdr : ds.drop i = d :: ds.drop (i + 1) := by
      obtain ⟨hi, e⟩ := List.getElem?_eq_some_iff.mp hdi
      rw [<- e]
      exact List.drop_eq_getElem_cons hi
    rw [hdr] at et
    refine ⟨m, d, rfl, m6, rd, ?_⟩
    cases ht : termB m d with
    | false =>
      have e0 : termsB m (-1) ds = false := by rw [et]; show (termB m d && _) = false; rw [ht]; rfl
      rw [e0] at q
      exact q
    | true =>
      obtain ⟨i0, w0, rfl, _, _⟩ := termB_inv ht
      obtain ⟨p1, xs1, rfl, hs1, hx1⟩ := rep_tup_inv rd
      obtain ⟨x0, l0, rfl, r0, hx1⟩ := reps_cons_inv hx1
      unfold Rep at r0
      subst r0
      refine ⟨_, _, .inr hs1, atI_of (n := 0) rfl rfl, ?_⟩
      refine ite2 (fun e => ?_) (fun e => ?_)
      . have e' : i0 <= last := of_decide_eq_true e
        have e0 : termsB m (-1) ds = false := by
          rw [et]
          show (termB m _ && (decide (last < i0) && _)) = false
          rw [decide_eq_false (by omega), Bool.false_and, Bool.and_false]
        rw [e0] at q
        exact q
      . have e' : ¬ i0 <= last := fun z => e (decide_eq_true z)
        refine ⟨_, _, .inr hs1, atI_of (n := 0) rfl rfl, i0, _, rfl, rfl, ?_⟩
        rw [et]
        show (termB m _ && (decide (last < i0) && termsB m i0 _)) = _
        rw [ht, decide_eq_true (by omega), Bool.true_and, Bool.true_and]
  . rintro σ H' ⟨last, z, rfl, rfl, et⟩
    rw [<- hl, List.drop_length] at et
    rw [et] at q
    exact q
def formB : Dv -> Bool
  | .tup [.int n, .tup ds] => decide (1 <= n) && (decide (n <= 6) && termsB n.toNat (-1) ds)
  | _ => false
theorem ok_has_terms : FnOk P w K mg base CX0 6 T.f_has_terms T.d_has_terms ["thing"] (sp_dE K formB) := by
  have G_are_terms := ok_are_terms (P := P) (w := w) (base := base) T; have G_is_pair := ok_is_pair (P := P) (w := w) (base := base) T; have G_is_whole := ok_is_whole (P := P) (w := w) (base := base) T
  refine T.F_has_terms.ok sc_has_terms (fun vs H Q E h => by unfold sp_dE at h; split at h <;> first | rfl | exact h.elim) (fun cdv A outer s H vs Q E hr h => ?_)
  have hu := hu60 hr
  have hr_are_terms := hr.mono (show 5 <= _ by decide); have hr_is_pair := hr.mono (show 1 <= _ by decide); have hr_is_whole := hr.mono (show 1 <= _ by decide)
  unfold sp_dE at h
  split at h
  rotate_left
  . exact h.elim
  rename_i v
  refine ⟨_, (@pss_cons _ _ _ _ _ (@ps_if _ _ _ _ _ _ _ _ (PW.pt (@pw_or _ _ _ _ _ _ _ (@pt_not _ _ _ _ (@tu_val _ _ _ (@pe_call _ _ _ _ _ _ _ _ _ _ _ _ _ _ _ _ G_is_pair hr_is_pair rfl T.m_is_pair T.F_is_pair.kp T.b_is_pair .nil pass0 (@pa1 _ _ _ (@vw _ 0 _ _ (by walk_at "v")) (by rfl)) (by decide) (by rfl) (by rfl)) (by intro _; rfl))) (@pw_or _ _ _ _ _ _ _ (@pt_not _ _ _ _ (@tu_val _ _ _ (@pe_call _ _ _ _ _ _ _ _ _ _ _ _ _ _ _ _ G_is_whole hr_is_whole rfl T.m_is_whole T.F_is_whole.kp T.b_is_whole .nil pass0 (@pa1 _ _ _ (@kIx _ K _ _ _ _ _ (@vw _ 0 _ _ (by walk_at "v")) (@pe_int _ _ _ _) (by intro _ _; rfl) (by rfl)) (by rfl)) (by decide) (by rfl) (by rfl)) (by intro _; rfl))) (@pw_or1 _ _ _ _ (@pt_not _ _ _ _ (@tu_val _ _ _ (@pe_callB _ _ _ _ _ _ _ _ _ (kIsiE (K := K)) rfl T.z_isinstance (by rfl) (@pa_cons _ _ _ _ _ (@kIx _ K _ _ _ _ _ (@vw _ 0 _ _ (by walk_at "v")) (@pe_int _ _ _ _) (by intro _ _; rfl) (by rfl)) (@pa1 _ _ _ (@pe_bltn _ _ (.ty "tuple") _ _ rfl T.z_tuple (by rfl) rfl (by decide) (by decide)) (by rfl)) (by rfl)) (by decide) (by decide) (by rfl) (by rfl)) (by intro _; rfl))))))) (@pss_one _ _ _ (@ps_ret _ _ _ _ (@pe_bl _ _ _ _))) (@pss_nil _)) (@pss_one _ _ _ (@ps_ret _ _ _ _ (@pe_andM _ _ _ _ _ _ _ (@pe_chainM _ _ _ _ _ _ _ _ _ _ _ _ om_le om_le (@pe_int _ _ _ _) (@kIx _ K _ _ _ _ _ (@vw _ 0 _ _ (by walk_at "v")) (@pe_int _ _ _ _) (by intro _ _; rfl) (by rfl)) (@pe_glob _ _ (.int 6) _ _ rfl T.c_MOST_SWITCHES ⟨_, rfl⟩ (by decide)) (by with_unfolding_all rfl)) (@pe_one _ _ _ _ _ (@pe_call _ _ _ _ _ _ _ _ _ _ _ _ _ _ _ _ G_are_terms hr_are_terms rfl T.m_are_terms T.F_are_terms.kp T.b_are_terms .nil pass0 (@pa_cons _ _ _ _ _ (@kIx _ K _ _ _ _ _ (@vw _ 0 _ _ (by walk_at "v")) (@pe_int _ _ _ _) (by intro _ _; rfl) (by rfl)) (@pa1 _ _ _ (@kIx _ K _ _ _ _ _ (@vw _ 0 _ _ (by walk_at "v")) (@pe_int _ _ _ _) (by intro _ _; rfl) (by rfl)) (by rfl)) (by rfl)) (by decide) (by rfl) (by rfl))))))), ?_⟩
  rcases h with ⟨d, hd, q⟩ | ⟨a, kvs, rfl, ha, q⟩
  . refine .inl ⟨d, hd, ?_⟩
    by_cases hp : isPairD d = true
    . cases d with
      | tup ds =>
        match ds, hp with
        | [a, b], _ =>
        obtain ⟨p, xs, rfl, hs, hx⟩ := rep_tup_inv hd
        obtain ⟨x0, l0, rfl, r0, hx⟩ := reps_cons_inv hx
        obtain ⟨x1, l1, rfl, r1, hx⟩ := reps_cons_inv hx
        unfold Reps at hx
        subst hx
        refine ⟨_, _, .inr hs, rfl, a, r0, ?_⟩
        cases a with
        | int n =>
          unfold Rep at r0
          subst r0
          refine ⟨_, _, .inr hs, rfl, .inl ⟨by decide, b, r1, ?_⟩⟩
          cases b with
          | tup ts =>
            have q : Q (.bl (decide (1 <= n) && (decide (n <= 6) && termsB n.toNat (-1) ts))) H := q
            refine ⟨_, _, .inr hs, rfl, ?_⟩
            refine ite2 (fun e => ?_) (fun e => ?_)
            . have e1 : 1 <= n := of_decide_eq_true e
              rw [decide_eq_true e1, Bool.true_and] at q
              refine ite2 (fun e => ?_) (fun e => ?_)
              . have e2 : n <= 6 := of_decide_eq_true e
                rw [decide_eq_true e2, Bool.true_and] at q
                exact ⟨_, _, .inr hs, rfl, _, _, .inr hs, rfl, n.toNat, ts, (by omega), (by omega), r1, q⟩
              . have e2 : ¬ n <= 6 := fun z => e (decide_eq_true z)
                rw [decide_eq_false e2, Bool.false_and] at q
                have e3 : decide (n <= 6) = false := decide_eq_false e2
                first | exact q | (rw [<- e3] at q; exact q)
            . have e1 : ¬ 1 <= n := fun z => e (decide_eq_true z)
              rw [decide_eq_false e1, Bool.false_and] at q
              exact q
          | _ => exact q
        | _ => exact q
      | _ => cases hp
    . have hp' : isPairD d = false := by simpa using hp
      have ht : formB d = false := by
        cases d with
        | tup ds =>
          match ds, hp' with
          | [], _ => rfl
          | [_], _ => simp [formB]
          | [_, _], h => cases h
          | _ :: _ :: _ :: _, _ => simp [formB]
        | _ => rfl
      rw [ht] at q
      rw [hp']
      exact q
  . exact .inr ⟨a, kvs, rfl, ha, q⟩
def cutH (t l : Addr) (H : Hp) : Hp := fun b => if b = t \/ b = l then none else H b
theorem cutH_le {t l : Addr} {H : Hp} : Same (cutH t l H) H := fun b o h => by
  unfold cutH at h
  by_cases e : b = t \/ b = l
  . rw [if_pos e] at h; cases h
  . rw [if_neg e] at h; exact h
theorem cutH_at {t l p : Addr} {H : Hp} {o : HO} (h : H p = some o) (n : p ≠ t /\ p ≠ l) : cutH t l H p = some o := by
  unfold cutH
  rw [if_neg (fun e => e.elim n.1 n.2)]; exact h
theorem cutH_ne {t l p : Addr} {H : Hp} {o : HO} (h : cutH t l H p = some o) : p ≠ t /\ p ≠ l := by
  unfold cutH at h
  by_cases e : p = t \/ p = l
  . rw [if_pos e] at h; cases h
  . exact ⟨fun q => e (.inl q), fun q => e (.inr q)⟩
theorem cutH_frm {t l : Addr} {H H' : Hp} (f : Frm t H H') : Same (cutH t l H) (cutH t l H') := fun b o h => by
  have n := cutH_ne h
  exact cutH_at (f b o n.1 (cutH_le b o h)) n
theorem cutH_tup {t : Addr} {H : Hp} {d : Dv} {v : V} (ht : ∃ zs, H t = some (.lst zs)) (hd : tupOnly d = true) (r : Rep K H d v) : Rep K (cutH t t H) d v :=
  Rep.frm (t := t) (fun b o n h => cutH_at h ⟨n, n⟩) ht d v hd r
theorem rep_lst1 {H : Hp} {p : Addr} {xs : List V} {ds : List Dv} (h : H p = some (.lst xs)) (r : Reps K H ds xs) : Rep K H (.lst ds) (.ref p) := by unfold Rep; exact ⟨p, xs, rfl, .of h, r⟩
theorem rep_non {H : Hp} : Rep K H .non .non := by unfold Rep; rfl
theorem reps_drop {H : Hp} : ∀ (n : Nat) {ds : List Dv} {us : List V}, Reps K H ds us -> Reps K H (ds.drop n) (us.drop n)
  | 0, _, _, h => h
  | n + 1, [], us, h => by unfold Reps at h; subst h; exact reps_nil
  | n + 1, d :: ds, us, h => by
    unfold Reps at h
    obtain ⟨x, l, rfl, _, h⟩ := h
    exact reps_drop n h
theorem reps_take {H : Hp} : ∀ (n : Nat) {ds : List Dv} {us : List V}, Reps K H ds us -> Reps K H (ds.take n) (us.take n)
  | 0, _, _, _ => by rw [List.take_zero, List.take_zero]; exact reps_nil
  | n + 1, [], us, h => by unfold Reps at h; subst h; exact reps_nil
  | n + 1, d :: ds, us, h => by
    unfold Reps at h
    obtain ⟨x, l, rfl, r, h⟩ := h
    exact reps_cons r (reps_take n h)
def cutD (ds : List Dv) (lo hi : Option Int) : List Dv := (ds.drop (HT.sIx ds.length 0 lo)).take (HT.sIx ds.length ds.length hi - HT.sIx ds.length 0 lo)
theorem reps_cut {H : Hp} {ds : List Dv} {us : List V} (lo hi : Option Int) (h : Reps K H ds us) : Reps K H (cutD ds lo hi) (cutV us lo hi) := by
  unfold cutD cutV
  rw [h.length]
  exact reps_take _ (reps_drop _ h)
theorem sqT_cut {t l : Addr} {H : Hp} {p : Addr} {xs : List V} (ht : ∃ zs, H t = some (.lst zs)) (hl : ∃ zs, H l = some (.lst zs)) (h1 : SqT K H p xs) : SqT K (cutH t l H) p xs := by
  obtain ⟨zs, hz⟩ := ht
  obtain ⟨ws, hw⟩ := hl
  rcases h1 with (h1 | ⟨o, h1⟩) | h1
  . exact .inl (.inl (cutH_at h1 ⟨(fun q => by rw [q, hz] at h1; cases h1), (fun q => by rw [q, hw] at h1; cases h1)⟩))
  . exact .inl (.inr ⟨o, cutH_at h1 ⟨(fun q => by rw [q, hz] at h1; cases h1), (fun q => by rw [q, hw] at h1; cases h1)⟩⟩)
  . exact .inr h1
theorem up {t l : Addr} {H H' : Hp} {d : Dv} {v : V} (r : Rep K (cutH t l H) d v) (s : Same H H') : Rep K (cutH t l H') d v := Rep.same (cutH_frm s.frm) _ _ r
theorem up_draw {t l : Addr} {H H' : Hp} {d : Dv} {v : V} (r : Rep K (cutH t l H) d v) (f : ∀ b, b ≠ t -> H' b = H b) : Rep K (cutH t l H') d v := Rep.same (cutH_frm (frm_all f)) _ _ r
theorem pair_of {t l : Addr} {H : Hp} {v : V} {i j : Int} (r : Rep K (cutH t l H) (.tup [.int i, .int j]) v) : ∃ p, v = .ref p /\ SqT K H p [.int i, .int j] := by
  obtain ⟨a, xs, rfl, h, hx⟩ := rep_tup_inv r
  obtain ⟨x0, l0, rfl, r0, hx⟩ := reps_cons_inv hx
  obtain ⟨x1, l1, rfl, r1, hx⟩ := reps_cons_inv hx
  unfold Reps at hx
  subst hx
  unfold Rep at r0 r1
  subst r0 r1
  exact ⟨a, rfl, cutH_le.sqT h⟩
def sp_dS (K : W.Frag) (f : Dv -> Bool) : Sp := fun vs H Q _ => match vs with
  | [v] => (∃ d, Rep K H d v /\ ∀ H', Same H H' -> Q (.bl (f d)) H') \/ (∃ a kvs, v = .ref a /\ H a = some (.dK kvs) /\ ∀ H', Same H H' -> Q (.bl false) H')
  | _ => False
theorem sp_dS_mono {f : Dv -> Bool} : SpMono (sp_dS K f) := fun vs H Q Q' E h q => by
  unfold sp_dS at *
  split at q
  . rcases q with ⟨d, h1, q⟩ | ⟨a, kvs, h1, h2, q⟩
    . exact .inl ⟨d, h1, fun H' x1 => h _ _ (q H' x1)⟩
    . exact .inr ⟨a, kvs, h1, h2, fun H' x1 => h _ _ (q H' x1)⟩
  . exact q.elim
def wtB : Dv -> Bool
  | .tup [_, .int w] => decide (0 < (w.natAbs : Int)) && decide ((w.natAbs : Int) <= 1000000000000)
  | _ => false
def restB : Dv -> Bool
  | .tup [_, .tup ds] => ds.all wtB
  | _ => false
def isSumB (d : Dv) : Bool := formB d && restB d
theorem termsB_all {m : Nat} : ∀ {ds : List Dv} {last : Int}, termsB m last ds = true -> ∀ d ∈ ds, termB m d = true
  | [], _, _ => fun d h => by cases h
  | d :: ds, last, h => by
    have h' : (termB m d && (decide (last < idxD d) && termsB m (idxD d) ds)) = true := h
    rw [Bool.and_eq_true, Bool.and_eq_true] at h'
    intro x hx
    rcases List.mem_cons.mp hx with rfl | z
    . exact h'.1
    . exact termsB_all h'.2.2 x z
theorem termsB_len {m : Nat} : ∀ {ds : List Dv} {last : Int}, termsB m last ds = true -> last < ((2 ^ m : Nat) : Int) -> (ds.length : Int) + last < ((2 ^ m : Nat) : Int)
  | [], last, _, h => by rw [List.length_nil]; omega
  | d :: ds, last, h, hl => by
    have h' : (termB m d && (decide (last < idxD d) && termsB m (idxD d) ds)) = true := h
    rw [Bool.and_eq_true, Bool.and_eq_true] at h'
    obtain ⟨i, w, rfl, h0, h1⟩ := termB_inv h'.1
    have := termsB_len (last := i) h'.2.2 h1
    have h2 : last < i := of_decide_eq_true h'.2.1
    rw [List.length_cons]
    omega
theorem formB_inv {d : Dv} (h : formB d = true) : ∃ (m : Nat) (ts : List Dv), d = .tup [.int m, .tup ts] /\ 1 <= m /\ m <= 6 /\ termsB m (-1) ts = true := by
  unfold formB at h
  split at h
  . rename_i n ts
    rw [Bool.and_eq_true, Bool.and_eq_true] at h
    have h1 : 1 <= n := of_decide_eq_true h.1
    have h2 : n <= 6 := of_decide_eq_true h.2.1
    exact ⟨n.toNat, ts, by rw [show ((n.toNat : Nat) : Int) = n by omega], by omega, by omega, h.2.2⟩
  . cases h
theorem ok_is_sum : FnOk P w K mg base CX0 7 T.f_is_sum T.d_is_sum ["thing"] (sp_dS K isSumB) := by
  have G_has_terms := ok_has_terms (P := P) (w := w) (base := base) T
  refine T.F_is_sum.ok sc_is_sum (fun vs H Q E h => by unfold sp_dS at h; split at h <;> first | rfl | exact h.elim) (fun cdv A outer s H vs Q E hr h => ?_)
  have hu := hu60 hr
  have hr_has_terms := hr.mono (show 6 <= _ by decide)
  unfold sp_dS at h
  split at h
  rotate_left
  . exact h.elim
  rename_i v
  refine ⟨_, (@pss_one _ _ _ (@ps_ret _ _ _ _ (@pe_andM _ _ _ _ _ _ _ (@pe_call _ _ _ _ _ _ _ _ _ _ _ _ _ _ _ _ G_has_terms hr_has_terms rfl T.m_has_terms T.F_has_terms.kp T.b_has_terms .nil pass0 (@pa1 _ _ _ (@vw _ 0 _ _ (by walk_at "v")) (by rfl)) (by decide) (by rfl) (by rfl)) (@pe_one _ _ _ _ _ (@pe_callB _ _ _ _ _ _ _ _ _ (kAll (K := K) rfl) rfl T.z_all (by rfl) (@pa1 _ _ _ (@pe_compB _ _ _ _ _ _ _ (["subset", "weight"]) 2 [] _ _ _ _ rfl (@kSeq _ K _ _ _ (@kIx _ K _ _ _ _ _ (@vw _ 0 _ _ (by walk_at "v")) (@pe_int _ _ _ _) (by intro _ _; rfl) (by rfl)) (by rfl)) (by kernel_rfl) rfl rfl (by kernel_rfl) (fun c => @kTup _ K _ _ _ _ 2 rfl (@pgs_cons _ _ _ _ _ (@pg_name _ _ 0 _ (show (["subset", "weight"] : List Str).Nodup by decide +kernel) rfl (by walk_at "e") (by walk_at "i")) (@pgs_cons _ _ _ _ _ (@pg_name _ _ 1 _ (show (["subset", "weight"] : List Str).Nodup by decide +kernel) rfl (by walk_at "e") (by walk_at "i")) (@pgs_nil _) (by rfl)) (by rfl)) (by rfl) (by rfl) (by rfl)) (go_tup (gos_cons gm_name (gms_cons gm_name gms_nil) (go_name (by decide)) (gos_cons gm_name gms_nil (go_name (by decide)) gos_nil))) (fun c => @pts_nil _) (fun c => (@pe_chainM _ _ _ _ _ _ _ _ _ _ _ _ om_lt om_le (@pe_int _ _ _ _) (@pe_callB _ _ _ _ _ _ _ _ _ cm_abs rfl T.z_abs (by rfl) (@pa1 _ _ _ (@vw _ 1 _ _ (by walk_at "v")) (by rfl)) (by decide) (by decide) (by rfl) (by rfl)) (@pe_glob _ _ (.int 1000000000000) _ _ rfl T.c_HEAVIEST ⟨_, rfl⟩ (by decide)) (by with_unfolding_all rfl))) (by intro _; rfl)) (by rfl)) (by decide) (by decide) (by rfl) (by rfl)))))), ?_⟩
  rcases h with ⟨d, hd, q⟩ | ⟨a, kvs, rfl, ha, q⟩
  . refine .inl ⟨d, hd, ?_⟩
    refine ite2 (fun e => ?_) (fun e => ?_)
    . obtain ⟨m, ts, rfl, m1, m6, ht⟩ := formB_inv e
      have hall := termsB_all ht
      have hlen := termsB_len ht (Int.lt_of_lt_of_le (by decide : (-1 : Int) < 0) (Int.natCast_nonneg _))
      have h64 : 2 ^ m <= 64 := Nat.pow_le_pow_right (n := 2) (by decide) m6
      obtain ⟨p, xs, rfl, hs, hx⟩ := rep_tup_inv hd
      obtain ⟨x0, l0, rfl, r0, hx⟩ := reps_cons_inv hx
      obtain ⟨x1, l1, rfl, r1, hx⟩ := reps_cons_inv hx
      unfold Reps at hx
      subst hx
      obtain ⟨p1, ys, rfl, hs1, hx1⟩ := rep_tup_inv r1
      have hyl := hx1.length
      refine ⟨_, _, .inr hs, atI_of (n := 1) rfl rfl, .inr ⟨⟨_, hs1⟩, ?_⟩⟩
      refine comp_tup (xs := ys) (fun i zs H' => H' = H /\ zs = ((ts.take i).map wtB).map V.bl) ⟨rfl, rfl⟩ (fun i zs H' _ ⟨e, _⟩ => by rw [e]; exact hs1) (fun i zs H' hi ⟨_, e⟩ => by
        rw [e, List.length_map, List.length_map, List.length_take]
        exact Nat.lt_of_le_of_lt (show _ <= 64 by omega) (by decide)) ?_ ?_
      . rintro i x zs H' hxi ⟨rfl, rfl⟩
        obtain ⟨d, hdi, rd⟩ := reps_get hx1 hxi
        obtain ⟨k, w0, rfl, _, _⟩ := termB_inv (hall d (List.mem_of_getElem? hdi))
        obtain ⟨p2, us, rfl, hs2, hx2⟩ := rep_tup_inv rd
        obtain ⟨y0, l0, rfl, r0', hx2⟩ := reps_cons_inv hx2
        obtain ⟨y1, l1, rfl, r1', hx2⟩ := reps_cons_inv hx2
        unfold Reps at hx2
        subst hx2
        unfold Rep at r0' r1'
        subst r0' r1'
        have hnx : ((ts.take i).map wtB).map V.bl ++ [V.bl (wtB (.tup [.int k, .int w0]))] = ((ts.take (i + 1)).map wtB).map V.bl := by
          rw [List.take_add_one, hdi, List.map_append, List.map_append]
          rfl
        refine ⟨_, _, rfl, hs2, rfl, _, _, rfl, _, _, rfl, rfl, ?_⟩
        refine ite2 (fun e => ?_) (fun e => ?_)
        . refine ⟨rfl, ?_⟩
          rw [<- hnx]
          have e' : (0 : Int) < (w0.natAbs : Int) := of_decide_eq_true e
          show _ = _ ++ [V.bl (decide (0 < (w0.natAbs : Int)) && decide ((w0.natAbs : Int) <= 1000000000000))]
          rw [decide_eq_true e', Bool.true_and]
        . refine ⟨rfl, ?_⟩
          rw [<- hnx]
          have e' : ¬ (0 : Int) < (w0.natAbs : Int) := fun z => e (decide_eq_true z)
          show _ = _ ++ [V.bl (decide (0 < (w0.natAbs : Int)) && decide ((w0.natAbs : Int) <= 1000000000000))]
          rw [decide_eq_false e', Bool.false_and]
      . rintro zs H' ⟨rfl, rfl⟩ p3 n3
        refine ⟨_, .of upd_same, ?_⟩
        have q := q _ (Same.upd (o := .lst (((ts.take ys.length).map wtB).map V.bl)) n3)
        have e2 : ((ts.take ys.length).map wtB).all id = isSumB (.tup [.int m, .tup ts]) := by
          unfold isSumB
          rw [e, Bool.true_and, <- hyl, List.take_length]
          show _ = ts.all wtB
          rw [List.all_map]
          rfl
        rw [e2]
        exact q
    . have e0 : formB d = false := by simpa using e
      have q := q H (Same.refl _)
      unfold isSumB at q
      rw [e0, Bool.false_and] at q
      first | exact q | (rw [<- e0] at q; exact q)
  . exact .inr ⟨a, kvs, rfl, ha, q H (Same.refl _)⟩
theorem ok__law_is_number : FnOk P w K mg base CX0 1 T.f__law_is_number T.d__law_is_number ["_law_thing"] (sp_dB K isWholeD) := by
  refine T.F__law_is_number.ok sc__law_is_number (fun vs H Q E h => by unfold sp_dB at h; split at h <;> first | rfl | exact h.elim) (fun cdv A outer s H vs Q E hr h => ?_)
  have hu := hu60 hr
  unfold sp_dB at h
  split at h
  rotate_left
  . exact h.elim
  rename_i v
  obtain ⟨d, hd, q⟩ := h
  refine ⟨_, (@pss_one _ _ _ (@ps_ret _ _ _ _ (@pe_andM _ _ _ _ _ _ _ (@pe_callB _ _ _ _ _ _ _ _ _ (kIsiD (K := K)) rfl T.z_isinstance (by rfl) (@pa_cons _ _ _ _ _ (@vw _ 0 _ _ (by walk_at "v")) (@pa1 _ _ _ (@pe_bltn _ _ (.ty "int") _ _ rfl T.z_int (by rfl) rfl (by decide) (by decide)) (by rfl)) (by rfl)) (by decide) (by decide) (by rfl) (by rfl)) (@pe_one _ _ _ _ _ (@pe_notM _ _ _ _ (@pe_callB _ _ _ _ _ _ _ _ _ (kIsiD (K := K)) rfl T.z_isinstance (by rfl) (@pa_cons _ _ _ _ _ (@vw _ 0 _ _ (by walk_at "v")) (@pa1 _ _ _ (@pe_bltn _ _ (.ty "bool") _ _ rfl T.z_bool (by rfl) rfl (by decide) (by decide)) (by rfl)) (by rfl)) (by decide) (by decide) (by rfl) (by rfl))))))), ?_⟩
  refine ⟨by decide, d, hd, ?_⟩
  refine ite2 (fun e => ⟨by decide, d, hd, ?_⟩) (fun e => ?_)
  . have : isWholeD d = !isTy (tyD d) "bool" := by
      revert e
      cases d <;> intro e <;> first | rfl | (simp [isTy, tyD] at e; done)
    rw [this] at q
    exact q
  . have : isWholeD d = false := by
      revert e
      cases d <;> intro e <;> first | rfl | exact absurd (show isTy _ _ = true by simp [isTy, tyD]) e
    rw [this] at q
    exact q
def lsB (m : Nat) : Int -> List Dv -> Bool
  | _, [] => true
  | last, d :: ds => match d with
    | .tup [.int i, .int w] => decide (last < i) && (decide (i < ((2 ^ m : Nat) : Int)) && (wtB (.tup [.int i, .int w]) && lsB m i ds))
    | _ => false
theorem lsB_eq {m : Nat} : ∀ {ds : List Dv} {last : Int}, -1 <= last -> lsB m last ds = (termsB m last ds && ds.all wtB)
  | [], _, _ => rfl
  | d :: ds, last, h => by
    have e0 : termsB m last (d :: ds) = (termB m d && (decide (last < idxD d) && termsB m (idxD d) ds)) := rfl
    rw [e0, List.all_cons]
    unfold lsB
    split
    . rename_i i w
      by_cases h1 : last < i
      . rw [lsB_eq (last := i) (by omega)]
        have e1 : termB m (.tup [.int i, .int w]) = decide (i < ((2 ^ m : Nat) : Int)) := by
          show ((decide (0 <= i) && decide (i < ((2 ^ m : Nat) : Int))) && true) = _
          rw [decide_eq_true (show 0 <= i by omega), Bool.true_and, Bool.and_true]
        have e2 : idxD (.tup [.int i, .int w]) = i := rfl
        rw [e1, e2, decide_eq_true h1]
        cases decide (i < ((2 ^ m : Nat) : Int)) <;> cases wtB (.tup [.int i, .int w]) <;> cases termsB m i ds <;> cases ds.all wtB <;> rfl
      . have e2 : idxD (.tup [.int i, .int w]) = i := rfl
        rw [e2, decide_eq_false h1, Bool.false_and, Bool.false_and, Bool.and_false, Bool.false_and]
    . rename_i hne
      cases ht : termB m d with
      | false => rw [Bool.false_and, Bool.false_and]
      | true =>
        obtain ⟨i, w, rfl, _, _⟩ := termB_inv ht
        exact absurd rfl (hne i w)
theorem isSum_at {m : Nat} {ts : List Dv} (m1 : 1 <= m) (m6 : m <= 6) : isSumB (.tup [.int m, .tup ts]) = lsB m (-1) ts := by
  rw [lsB_eq (by decide)]
  show ((decide (1 <= (m : Int)) && (decide ((m : Int) <= 6) && termsB (m : Int).toNat (-1) ts)) && ts.all wtB) = _
  rw [decide_eq_true (by omega), decide_eq_true (by omega), Bool.true_and, Bool.true_and, Int.toNat_natCast]
theorem lsB_cut {m : Nat} {last : Int} {d : Dv} {ds : List Dv} (h : ∀ i w, d ≠ .tup [.int i, .int w]) : lsB m last (d :: ds) = false := by
  unfold lsB
  split
  . rename_i i w
    exact absurd rfl (h i w)
  . rfl
theorem ok__law_is_sum : FnOk P w K mg base CX0 2 T.f__law_is_sum T.d__law_is_sum ["_law_thing"] (sp_dS K isSumB) := by
  have G__law_is_number := ok__law_is_number (P := P) (w := w) (base := base) T; have G__law_two := ok__law_two (P := P) (w := w) (base := base) T
  refine T.F__law_is_sum.ok sc__law_is_sum (fun vs H Q E h => by unfold sp_dS at h; split at h <;> first | rfl | exact h.elim) (fun cdv A outer s H vs Q E hr h => ?_)
  have hu := hu60 hr
  have mo1 : SpMono (sp_dB K isWholeD) := sp_dB_mono
  have mo2 : SpMono sp_two := sp_two_mono
  have hr__law_is_number := hr.mono (show 1 <= _ by decide); have hr__law_two := hr.mono (show 1 <= _ by decide)
  unfold sp_dS at h
  split at h
  rotate_left
  . exact h.elim
  rename_i v
  refine ⟨_, (@pss_cons _ _ _ _ _ (@ps_if _ _ _ _ _ _ _ _ (PW.pt (@pw_or _ _ _ _ _ _ _ (@pt_not _ _ _ _ (@tu_val _ _ _ (@pe_callB _ _ _ _ _ _ _ _ _ (kIsiE (K := K)) rfl T.z_isinstance (by rfl) (@pa_cons _ _ _ _ _ (@vw _ 0 _ _ (by walk_at "v")) (@pa1 _ _ _ (@pe_bltn _ _ (.ty "tuple") _ _ rfl T.z_tuple (by rfl) rfl (by decide) (by decide)) (by rfl)) (by rfl)) (by decide) (by decide) (by rfl) (by rfl)) (by intro _; rfl))) (@pw_or _ _ _ _ _ _ _ (@tu_cmp _ _ _ _ _ _ _ _ (kNe (K := K) hu) (@pe_callB _ _ _ _ _ _ _ _ _ (kLen (K := K)) rfl T.z_len (by rfl) (@pa1 _ _ _ (@vw _ 0 _ _ (by walk_at "v")) (by rfl)) (by decide) (by decide) (by rfl) (by rfl)) (@pe_int _ _ _ _) (by walk_at "n")) (@pw_or1 _ _ _ _ (@pt_not _ _ _ _ (@tu_val _ _ _ (@pe_call _ _ _ _ _ _ _ _ _ _ _ _ _ _ _ _ G__law_is_number hr__law_is_number rfl T.m__law_is_number T.F__law_is_number.kp T.b__law_is_number .nil pass0 (@pa1 _ _ _ (@kIx _ K _ _ _ _ _ (@vw _ 0 _ _ (by walk_at "v")) (@pe_int _ _ _ _) (by intro _ _; rfl) (by rfl)) (by rfl)) (by decide) (by rfl) (by rfl)) (by intro _; rfl))))))) (@pss_one _ _ _ (@ps_ret _ _ _ _ (@pe_bl _ _ _ _))) (@pss_nil _)) (@pss_cons _ _ _ _ _ (@ps_if _ _ _ _ _ _ _ _ (PW.pt (@pw_or _ _ _ _ _ _ _ (@tu_cmp _ _ _ _ _ _ _ _ om_lt (@kIx _ K _ _ _ _ _ (@vw _ 0 _ _ (by walk_at "v")) (@pe_int _ _ _ _) (by intro _ _; rfl) (by rfl)) (@pe_int _ _ _ _) (by walk_at "n")) (@pw_or _ _ _ _ _ _ _ (@tu_cmp _ _ _ _ _ _ _ _ om_gt (@kIx _ K _ _ _ _ _ (@vw _ 0 _ _ (by walk_at "v")) (@pe_int _ _ _ _) (by intro _ _; rfl) (by rfl)) (@pe_int _ _ _ _) (by walk_at "n")) (@pw_or1 _ _ _ _ (@pt_not _ _ _ _ (@tu_val _ _ _ (@pe_callB _ _ _ _ _ _ _ _ _ (kIsiE (K := K)) rfl T.z_isinstance (by rfl) (@pa_cons _ _ _ _ _ (@kIx _ K _ _ _ _ _ (@vw _ 0 _ _ (by walk_at "v")) (@pe_int _ _ _ _) (by intro _ _; rfl) (by rfl)) (@pa1 _ _ _ (@pe_bltn _ _ (.ty "tuple") _ _ rfl T.z_tuple (by rfl) rfl (by decide) (by decide)) (by rfl)) (by rfl)) (by decide) (by decide) (by rfl) (by rfl)) (by intro _; rfl))))))) (@pss_one _ _ _ (@ps_ret _ _ _ _ (@pe_bl _ _ _ _))) (@pss_nil _)) (@pss_cons _ _ _ _ _ (@ps_set _ _ 1 _ _ _ _ sc__law_is_sum.nd rfl (by walk_at "e") (@pe_un _ _ _ _ _ _ um_neg (@pe_int _ _ _ _)) (by rfl) (by walk_at "i")) (@pss_cons _ _ _ _ _ (@ps_for _ _ _ _ _ _ _ _ PassesOwn.never rfl (@kSeq _ K _ _ _ (@kIx _ K _ _ _ _ _ (@vw _ 0 _ _ (by walk_at "v")) (@pe_int _ _ _ _) (by intro _ _; rfl) (by rfl)) (by rfl)) (@pg_name _ _ 2 _ sc__law_is_sum.nd rfl (by walk_at "e") (by walk_at "i")) (@pss_cons _ _ _ _ _ (@ps_if _ _ _ _ _ _ _ _ (PW.pt (@pw_or _ _ _ _ _ _ _ (@pt_not _ _ _ _ (@tu_val _ _ _ (@pe_callB _ _ _ _ _ _ _ _ _ (kIsiE (K := K)) rfl T.z_isinstance (by rfl) (@pa_cons _ _ _ _ _ (@vw _ 2 _ _ (by walk_at "v")) (@pa1 _ _ _ (@pe_bltn _ _ (.ty "tuple") _ _ rfl T.z_tuple (by rfl) rfl (by decide) (by decide)) (by rfl)) (by rfl)) (by decide) (by decide) (by rfl) (by rfl)) (by intro _; rfl))) (@pw_or1 _ _ _ _ (@tu_cmp _ _ _ _ _ _ _ _ (kNe (K := K) hu) (@pe_callB _ _ _ _ _ _ _ _ _ (kLen (K := K)) rfl T.z_len (by rfl) (@pa1 _ _ _ (@vw _ 2 _ _ (by walk_at "v")) (by rfl)) (by decide) (by decide) (by rfl) (by rfl)) (@pe_int _ _ _ _) (by walk_at "n"))))) (@pss_one _ _ _ (@ps_ret _ _ _ _ (@pe_bl _ _ _ _))) (@pss_nil _)) (@pss_cons _ _ _ _ _ (@ps_if _ _ _ _ _ _ _ _ (PW.pt (@pw_or _ _ _ _ _ _ _ (@pt_not _ _ _ _ (@tu_val _ _ _ (@pe_call _ _ _ _ _ _ _ _ _ _ _ _ _ _ _ _ G__law_is_number hr__law_is_number rfl T.m__law_is_number T.F__law_is_number.kp T.b__law_is_number .nil pass0 (@pa1 _ _ _ (@kIx _ K _ _ _ _ _ (@vw _ 2 _ _ (by walk_at "v")) (@pe_int _ _ _ _) (by intro _ _; rfl) (by rfl)) (by rfl)) (by decide) (by rfl) (by rfl)) (by intro _; rfl))) (@pw_or1 _ _ _ _ (@pt_not _ _ _ _ (@tu_val _ _ _ (@pe_call _ _ _ _ _ _ _ _ _ _ _ _ _ _ _ _ G__law_is_number hr__law_is_number rfl T.m__law_is_number T.F__law_is_number.kp T.b__law_is_number .nil pass0 (@pa1 _ _ _ (@kIx _ K _ _ _ _ _ (@vw _ 2 _ _ (by walk_at "v")) (@pe_int _ _ _ _) (by intro _ _; rfl) (by rfl)) (by rfl)) (by decide) (by rfl) (by rfl)) (by intro _; rfl)))))) (@pss_one _ _ _ (@ps_ret _ _ _ _ (@pe_bl _ _ _ _))) (@pss_nil _)) (@pss_cons _ _ _ _ _ (@ps_if _ _ _ _ _ _ _ _ (PW.pt (@pw_or _ _ _ _ _ _ _ (@tu_cmp _ _ _ _ _ _ _ _ om_le (@kIx _ K _ _ _ _ _ (@vw _ 2 _ _ (by walk_at "v")) (@pe_int _ _ _ _) (by intro _ _; rfl) (by rfl)) (@vw _ 1 _ _ (by walk_at "v")) (by walk_at "n")) (@pw_or _ _ _ _ _ _ _ (@tu_cmp _ _ _ _ _ _ _ _ om_ge (@kIx _ K _ _ _ _ _ (@vw _ 2 _ _ (by walk_at "v")) (@pe_int _ _ _ _) (by intro _ _; rfl) (by rfl)) (@pe_call _ _ _ _ _ _ _ _ _ _ _ _ _ _ _ _ G__law_two hr__law_two rfl T.m__law_two T.F__law_two.kp T.b__law_two .nil pass0 (@pa1 _ _ _ (@kIx _ K _ _ _ _ _ (@vw _ 0 _ _ (by walk_at "v")) (@pe_int _ _ _ _) (by intro _ _; rfl) (by rfl)) (by rfl)) (by decide) (by rfl) (by rfl)) (by walk_at "n")) (@pw_or _ _ _ _ _ _ _ (@tu_cmp _ _ _ _ _ _ _ _ (kEq (K := K) hu) (@kIx _ K _ _ _ _ _ (@vw _ 2 _ _ (by walk_at "v")) (@pe_int _ _ _ _) (by intro _ _; rfl) (by rfl)) (@pe_int _ _ _ _) (by walk_at "n")) (@pw_or1 _ _ _ _ (@tu_cmp _ _ _ _ _ _ _ _ om_gt (@pe_callB _ _ _ _ _ _ _ _ _ cm_abs rfl T.z_abs (by rfl) (@pa1 _ _ _ (@kIx _ K _ _ _ _ _ (@vw _ 2 _ _ (by walk_at "v")) (@pe_int _ _ _ _) (by intro _ _; rfl) (by rfl)) (by rfl)) (by decide) (by decide) (by rfl) (by rfl)) (@pe_op _ _ _ _ _ _ _ _ om_pow (@pe_int _ _ _ _) (@pe_int _ _ _ _)) (by walk_at "n"))))))) (@pss_one _ _ _ (@ps_ret _ _ _ _ (@pe_bl _ _ _ _))) (@pss_nil _)) (@pss_one _ _ _ (@ps_set _ _ 1 _ _ _ _ sc__law_is_sum.nd rfl (by walk_at "e") (@kIx _ K _ _ _ _ _ (@vw _ 2 _ _ (by walk_at "v")) (@pe_int _ _ _ _) (by intro _ _; rfl) (by rfl)) (by rfl) (by walk_at "i")))))) (by intro _; rfl)) (@pss_one _ _ _ (@ps_ret _ _ _ _ (@pe_bl _ _ _ _))))))), ?_⟩
  rcases h with ⟨d, hd, q⟩ | ⟨a, kvs, rfl, ha, q⟩
  . refine .inl ⟨by decide, d, hd, ?_⟩
    by_cases hp : isPairD d = true
    . cases d with
      | tup ds =>
        match ds, hp with
        | [a, b], _ =>
        obtain ⟨p, xs, rfl, hs, hx⟩ := rep_tup_inv hd
        obtain ⟨x0, l0, rfl, r0, hx⟩ := reps_cons_inv hx
        obtain ⟨x1, l1, rfl, r1, hx⟩ := reps_cons_inv hx
        unfold Reps at hx
        subst hx
        refine ⟨2, .inr ⟨_, hs, rfl⟩, _, _, .inr hs, atI_of (n := 0) rfl rfl, a, r0, ?_⟩
        cases a with
        | int n =>
          unfold Rep at r0
          subst r0
          refine ⟨_, _, .inr hs, atI_of (n := 0) rfl rfl, ?_⟩
          refine ite2 (fun e => ?_) (fun e => ?_)
          . have e1 : n < 1 := of_decide_eq_true e
            have e0 : isSumB (.tup [.int n, b]) = false := by
              cases b with
              | tup ts =>
                show ((decide (1 <= n) && (decide (n <= 6) && termsB n.toNat (-1) ts)) && ts.all wtB) = false
                rw [decide_eq_false (by omega), Bool.false_and, Bool.false_and]
              | _ => rfl
            rw [e0] at q
            exact q H (Same.refl _)
          have e1 : ¬ n < 1 := fun z => e (decide_eq_true z)
          refine ⟨_, _, .inr hs, atI_of (n := 0) rfl rfl, ?_⟩
          refine ite2 (fun e => ?_) (fun e => ?_)
          . have e2 : 6 < n := of_decide_eq_true e
            have e0 : isSumB (.tup [.int n, b]) = false := by
              cases b with
              | tup ts =>
                show ((decide (1 <= n) && (decide (n <= 6) && termsB n.toNat (-1) ts)) && ts.all wtB) = false
                rw [decide_eq_false (show ¬ n <= 6 by omega), Bool.false_and, Bool.and_false, Bool.false_and]
              | _ => rfl
            rw [e0] at q
            exact q H (Same.refl _)
          have e2 : ¬ 6 < n := fun z => e (decide_eq_true z)
          obtain ⟨m, rfl⟩ := Int.eq_ofNat_of_zero_le (show 0 <= n by omega)
          refine ⟨_, _, .inr hs, atI_of (n := 1) rfl rfl, .inl ⟨by decide, b, r1, ?_⟩⟩
          cases b with
          | tup ts =>
            rw [isSum_at (by omega) (by omega)] at q
            obtain ⟨p1, ys, rfl, hs1, hx1⟩ := rep_tup_inv r1
            have hyl := hx1.length
            refine ⟨_, _, .inr hs, atI_of (n := 1) rfl rfl, .inr ⟨⟨_, hs1⟩, ?_⟩⟩
            refine for_tup (xs := ys) (fun i σ H' => ∃ (last : Int) (z : Option V), σ = [some (.ref p), some (.int last), z] /\ Same H H' /\ lsB m (-1) ts = lsB m last (ts.drop i)) ⟨-1, none, rfl, Same.refl _, rfl⟩ (fun i σ H' _ ⟨_, _, _, s', _⟩ => s'.sqT hs1) ?_ ?_
            . rintro i x σ H' hxi ⟨last, z, rfl, s', et⟩
              obtain ⟨d, hdi, rd⟩ := reps_get hx1 hxi
              have rd := Rep.same s' _ _ rd
              have hdr : ts.drop i = d :: ts.drop (i + 1) := by
                obtain ⟨hi, e⟩ := List.getElem?_eq_some_iff.mp hdi
                rw [<- e]
                exact List.drop_eq_getElem_cons hi
              rw [hdr] at et
              refine .inl ⟨by decide, d, rd, ?_⟩
              cases d with
              | tup es =>
                obtain ⟨p2, us, rfl, hs2, hx2⟩ := rep_tup_inv rd
                refine ⟨es.length, .inr ⟨us, hs2, hx2.length⟩, ?_⟩
                refine ite2 (fun e => ?_) (fun e => ?_)
                . have e3 : es.length ≠ 2 := fun z => by
                    rw [z] at e
                    exact absurd e (by decide)
                  have e0 : lsB m (-1) ts = false := et.trans (lsB_cut fun i w z => e3 (by injection z with z; rw [z]; rfl))
                  rw [e0] at q
                  exact q H' s'
                have e3 : es.length = 2 := Decidable.byContradiction fun z => e (by
                  show (true ^^ (((es.length : Nat) : Int) == 2)) = true
                  rw [Bool.true_xor, Bool.not_eq_true']
                  exact beq_eq_false_iff_ne.mpr (by omega))
                match es, e3 with
                | [c, f], _ =>
                obtain ⟨y0, l0, rfl, rc, hx2⟩ := reps_cons_inv hx2
                obtain ⟨y1, l1, rfl, rf, hx2⟩ := reps_cons_inv hx2
                unfold Reps at hx2
                subst hx2
                refine ⟨_, _, .inr hs2, atI_of (n := 0) rfl rfl, c, rc, ?_⟩
                cases c with
                | int k =>
                  unfold Rep at rc
                  subst rc
                  refine ⟨_, _, .inr hs2, atI_of (n := 1) rfl rfl, f, rf, ?_⟩
                  cases f with
                  | int w0 =>
                    unfold Rep at rf
                    subst rf
                    have et : lsB m (-1) ts = (decide (last < k) && (decide (k < ((2 ^ m : Nat) : Int)) && (wtB (.tup [.int k, .int w0]) && lsB m k (ts.drop (i + 1))))) := et
                    refine ⟨_, _, .inr hs2, atI_of (n := 0) rfl rfl, ?_⟩
                    refine ite2 (fun e => ?_) (fun e => ?_)
                    . have e4 : k <= last := of_decide_eq_true e
                      rw [decide_eq_false (by omega), Bool.false_and] at et
                      rw [et] at q
                      exact q H' s'
                    have e4 : ¬ k <= last := fun z => e (decide_eq_true z)
                    rw [decide_eq_true (by omega), Bool.true_and] at et
                    refine ⟨_, _, .inr hs2, atI_of (n := 0) rfl rfl, _, _, .inr (s'.sqT hs), atI_of (n := 0) rfl rfl, ?_⟩
                    refine ⟨by omega, by omega, fun H3 s3 => ?_⟩
                    have hm2 : (2 : Int) ^ (m : Int).toNat = ((2 ^ m : Nat) : Int) := by rw [Int.toNat_natCast, Int.natCast_pow]; rfl
                    refine ite2 (fun e => ?_) (fun e => ?_)
                    . have e5 : (2 : Int) ^ (m : Int).toNat <= k := of_decide_eq_true e
                      rw [hm2] at e5
                      rw [decide_eq_false (by omega), Bool.false_and] at et
                      rw [et] at q
                      exact q H3 (s'.trans s3)
                    have e5 : ¬ (2 : Int) ^ (m : Int).toNat <= k := fun z => e (decide_eq_true z)
                    rw [hm2] at e5
                    rw [decide_eq_true (by omega), Bool.true_and] at et
                    have hw : wtB (.tup [.int k, .int w0]) = (decide (0 < (w0.natAbs : Int)) && decide ((w0.natAbs : Int) <= 1000000000000)) := rfl
                    rw [hw] at et
                    refine ⟨_, _, .inr (s3.sqT hs2), atI_of (n := 1) rfl rfl, ?_⟩
                    refine ite2 (fun e => ?_) (fun e => ?_)
                    . have e6 : w0 = 0 := by simpa using e
                      rw [decide_eq_false (by omega), Bool.false_and, Bool.false_and] at et
                      rw [et] at q
                      exact q H3 (s'.trans s3)
                    have e6 : w0 ≠ 0 := fun z => e (by rw [z]; rfl)
                    rw [decide_eq_true (by omega), Bool.true_and] at et
                    refine ⟨_, _, .inr (s3.sqT hs2), atI_of (n := 1) rfl rfl, ?_⟩
                    refine ⟨⟨by decide, by decide, by decide⟩, ?_⟩
                    have hten : (10 : Int) ^ (12 : Int).toNat = 1000000000000 := by decide
                    refine ite2 (fun e => ?_) (fun e => ?_)
                    . have e7 : (10 : Int) ^ (12 : Int).toNat < (w0.natAbs : Int) := of_decide_eq_true e
                      rw [hten] at e7
                      rw [decide_eq_false (by omega), Bool.false_and] at et
                      rw [et] at q
                      exact q H3 (s'.trans s3)
                    have e7 : ¬ (10 : Int) ^ (12 : Int).toNat < (w0.natAbs : Int) := fun z => e (decide_eq_true z)
                    rw [hten] at e7
                    rw [decide_eq_true (by omega), Bool.true_and] at et
                    exact ⟨_, _, .inr (s3.sqT hs2), atI_of (n := 0) rfl rfl, k, _, rfl, s'.trans s3, et⟩
                  | _ =>
                    have e0 : lsB m (-1) ts = false := et.trans (lsB_cut fun i w z => by injection z with z; injection z with z1 z; injection z with z; cases z)
                    rw [e0] at q
                    exact q H' s'
                | _ =>
                  have e0 : lsB m (-1) ts = false := et.trans (lsB_cut fun i w z => by injection z with z; injection z with z; cases z)
                  rw [e0] at q
                  exact q H' s'
              | _ =>
                have e0 : lsB m (-1) ts = false := et.trans (lsB_cut fun i w z => by cases z)
                rw [e0] at q
                exact q H' s'
            . rintro σ H' ⟨last, z, rfl, s', et⟩
              rw [<- hyl, List.drop_length] at et
              rw [et] at q
              exact q H' s'
          | _ => exact q H (Same.refl _)
        | _ => exact q H (Same.refl _)
      | _ => cases hp
    . have hp' : isPairD d = false := by simpa using hp
      have e0 : isSumB d = false := by
        cases d with
        | tup ds =>
          match ds, hp' with
          | [], _ => rfl
          | [_], _ => simp [isSumB, formB]
          | [_, _], h => cases h
          | _ :: _ :: _ :: _, _ => simp [isSumB, formB]
        | _ => rfl
      rw [e0] at q
      cases d with
      | tup ds =>
        obtain ⟨p, xs, rfl, hs, hx⟩ := rep_tup_inv hd
        refine ⟨ds.length, .inr ⟨xs, hs, hx.length⟩, ?_⟩
        refine ite2 (fun e => q H (Same.refl _)) (fun e => ?_)
        refine absurd (show (true ^^ (((ds.length : Nat) : Int) == 2)) = true from ?_) e
        rw [Bool.true_xor, Bool.not_eq_true']
        refine beq_eq_false_iff_ne.mpr fun z => ?_
        have : (ds.length == 2) = false := hp'
        rw [show ds.length = 2 by omega] at this
        cases this
      | _ => exact q H (Same.refl _)
  . exact .inr ⟨by decide, false, .inr (.inr (.inl ⟨⟨kvs, ha⟩, rfl⟩)), q H (Same.refl _)⟩
theorem atI_mem {xs : List V} {i : Int} (h0 : 0 <= i) (h1 : i < xs.length) : ∃ z, atI xs i = some z /\ z ∈ xs := by
  obtain ⟨n, rfl⟩ := Int.eq_ofNat_of_zero_le h0
  have hn : n < xs.length := by omega
  exact ⟨xs[n], atI_of rfl (List.getElem?_eq_getElem hn), List.getElem_mem hn⟩
theorem st {A B C : Hp} (x : Same A B) (y : Same B C) : Same A C := fun b o e => y b o (x b o e)
def OddV (K : W.Frag) (t : Addr) (H : Hp) (v : V) : Prop := (∃ d, Rep K (cutH t t H) d v) \/ (∃ a, v = .ref a /\ H a = some (.dK []))
theorem rep_tup1 {H : Hp} {p : Addr} {xs : List V} {ds : List Dv} (h : H p = some (.tup xs)) (r : Reps K H ds xs) : Rep K H (.tup ds) (.ref p) := by unfold Rep; exact ⟨p, xs, rfl, .of h, r⟩
theorem rep_tupS {H : Hp} {p : Addr} {xs : List V} {ds : List Dv} (h : SqT K H p xs) (r : Reps K H ds xs) : Rep K H (.tup ds) (.ref p) := by unfold Rep; exact ⟨p, xs, rfl, h, r⟩
theorem rep_bl' {H : Hp} {b : Bool} : Rep K H (.bl b) (.bl b) := by unfold Rep; rfl
theorem rep_str' {H : Hp} {x : Str} : Rep K H (.str x) (.str x) := by unfold Rep; rfl
theorem rep_int' {H : Hp} {i : Int} : Rep K H (.int i) (.int i) := by unfold Rep; rfl
theorem oddv_all {H6 : Hp} {t p1 p2 p3 p4 p5 : Addr} (i j : Int) (x1 x2 x3 : Str) (k1 : H6 p1 = some (.tup [])) (k2 : H6 p2 = some (.lst [])) (k3 : H6 p3 = some (.dK [])) (k4 : H6 p4 = some (.tup [.int 1])) (k5 : H6 p5 = some (.tup [.bl true]))
    (m1 : p1 ≠ t) (m2 : p2 ≠ t) (m4 : p4 ≠ t) (m5 : p5 ≠ t) :
    ∀ v ∈ [V.non, .bl true, .bl false, .int (-1), .str x1, .str x2, .str x3, .ref p1, .ref p2, .ref p3, .ref p4, .int i, .int j, .int 64, .int 63, .ref p5], OddV K t H6 v := by
  intro v hv
  simp only [List.mem_cons, List.not_mem_nil, or_false] at hv
  rcases hv with rfl | rfl | rfl | rfl | rfl | rfl | rfl | rfl | rfl | rfl | rfl | rfl | rfl | rfl | rfl | rfl
  . exact .inl ⟨_, rep_non⟩
  . exact .inl ⟨_, rep_bl'⟩
  . exact .inl ⟨_, rep_bl'⟩
  . exact .inl ⟨_, rep_int'⟩
  . exact .inl ⟨_, rep_str'⟩
  . exact .inl ⟨_, rep_str'⟩
  . exact .inl ⟨_, rep_str'⟩
  . exact .inl ⟨_, rep_tup1 (cutH_at k1 ⟨m1, m1⟩) reps_nil⟩
  . exact .inl ⟨_, rep_lst1 (cutH_at k2 ⟨m2, m2⟩) reps_nil⟩
  . exact .inr ⟨_, rfl, k3⟩
  . exact .inl ⟨_, rep_tup1 (cutH_at k4 ⟨m4, m4⟩) (reps_cons rep_int' reps_nil)⟩
  . exact .inl ⟨_, rep_int'⟩
  . exact .inl ⟨_, rep_int'⟩
  . exact .inl ⟨_, rep_int'⟩
  . exact .inl ⟨_, rep_int'⟩
  . exact .inl ⟨_, rep_tup1 (cutH_at k5 ⟨m5, m5⟩) (reps_cons rep_bl' reps_nil)⟩
def sp_odd (K : W.Frag) : Sp := fun vs H Q _ => match vs with
  | [.ref t] => ∃ (a : Addr) (ns : List Int), Tape K H t a ns /\ ∀ v H', Tape K H' t a ns -> Frm t H H' -> OddV K t H' v -> Q v H'
  | _ => False
theorem sp_odd_mono : SpMono (sp_odd K) := fun vs H Q Q' E h q => by
  unfold sp_odd at *
  split at q
  . revert q; repeat' first | exact h _ _ | exact newL_mono h | exact out_mono h | exact outT_mono h | walk_at "m"
  . exact q.elim
theorem ok__law_odd : FnOk P w K mg base CX0 2 T.f__law_odd T.d__law_odd ["_law_tape_here"] (sp_odd K) := by
  have G__law_next := ok__law_next (P := P) (w := w) (base := base) T
  refine T.F__law_odd.ok sc__law_odd (fun vs H Q E h => by unfold sp_odd at h; split at h <;> first | rfl | exact h.elim) (fun cdv A outer s H vs Q E hr h => ?_)
  have hu := hu60 hr
  have hr__law_next := hr.mono (show 1 <= _ by decide)
  unfold sp_odd at h
  split at h
  rotate_left
  . exact h.elim
  rename_i t
  obtain ⟨a, ns, TP, q⟩ := h
  refine ⟨_, (@pss_cons _ _ _ _ _ (@ps_setN _ _ 1 _ _ _ _ sc__law_odd.nd rfl (by walk_at "e") (@pe_lst _ _ _ _ (@pa_cons _ _ _ _ _ (@pe_non _ _ _) (@pa_cons _ _ _ _ _ (@pe_bl _ _ _ _) (@pa_cons _ _ _ _ _ (@pe_bl _ _ _ _) (@pa_cons _ _ _ _ _ (@pe_un _ _ _ _ _ _ um_neg (@pe_int _ _ _ _)) (@pa_cons _ _ _ _ _ (@pe_str _ _ _ _) (@pa_cons _ _ _ _ _ (@pe_str _ _ _ _) (@pa_cons _ _ _ _ _ (@pe_str _ _ _ _) (@pa_cons _ _ _ _ _ (@pe_tup _ _ _ _ _ (@pa_nil _)) (@pa_cons _ _ _ _ _ (@pe_lst _ _ _ _ (@pa_nil _)) (@pa_cons _ _ _ _ _ (@pe_dnewK _ _) (@pa_cons _ _ _ _ _ (@pe_tup _ _ _ _ _ (@pa1 _ _ _ (@pe_int _ _ _ _) (by rfl))) (@pa_cons _ _ _ _ _ (@pe_op _ _ _ _ _ _ _ _ om_pow (@pe_int _ _ _ _) (@pe_int _ _ _ _)) (@pa_cons _ _ _ _ _ (@pe_un _ _ _ _ _ _ um_neg (@pe_op _ _ _ _ _ _ _ _ om_pow (@pe_int _ _ _ _) (@pe_int _ _ _ _))) (@pa_cons _ _ _ _ _ (@pe_int _ _ _ _) (@pa_cons _ _ _ _ _ (@pe_int _ _ _ _) (@pa1 _ _ _ (@pe_tup _ _ _ _ _ (@pa1 _ _ _ (@pe_bl _ _ _ _) (by rfl))) (by rfl)) (by rfl)) (by rfl)) (by rfl)) (by rfl)) (by rfl)) (by rfl)) (by rfl)) (by rfl)) (by rfl)) (by rfl)) (by rfl)) (by rfl)) (by rfl)) (by rfl)) (by rfl))) rfl (by first | exact .inl rfl | exact .inr rfl)) (@pss_one _ _ _ (@ps_ret _ _ _ _ (@kIx _ K _ _ _ _ _ (@vw _ 1 _ _ (by walk_at "v")) (@pe_call _ _ _ _ _ _ _ _ _ _ _ _ _ _ _ _ G__law_next hr__law_next rfl T.m__law_next T.F__law_next.kp T.b__law_next .nil pass0 (@pa_cons _ _ _ _ _ (@vw _ 0 _ _ (by walk_at "v")) (@pa1 _ _ _ (@pe_int _ _ _ _) (by rfl)) (by rfl)) (by decide) (by rfl) (by rfl)) (by intro _ _; rfl) (by rfl))))), ?_⟩
  have s0 : (0 : Nat) <= sizeLine := Nat.zero_le _
  have s1 : (1 : Nat) <= sizeLine := small_le (by decide)
  refine ⟨s0, fun p1 n1 => ⟨s0, fun p2 n2 => fun p3 n3 => ⟨s1, fun p4 n4 => ?_⟩⟩⟩
  refine ⟨⟨by decide, by decide, by decide⟩, ⟨by decide, by decide, by decide⟩, s1, fun p5 n5 => ⟨small_le (show 16 <= 1000 by decide), fun p6 n6 => ?_⟩⟩
  have f1 : Same H (upd H p1 (.tup [])) := Same.upd n1
  have f2 := Same.upd (o := .lst []) n2
  have f3 := Same.upd (o := .dK []) n3
  have f4 := Same.upd (o := .tup [.int 1]) n4
  have f5 := Same.upd (o := .tup [.bl true]) n5
  have t1 := TP.same f1
  have t2 := t1.same f2
  have t3 := t2.same f3
  have t4 := t3.same f4
  have t5 := t4.same f5
  have m1 := TP.neT n1
  have m2 := t1.neT n2
  have m3 := t2.neT n3
  have m4 := t3.neT n4
  have m5 := t4.neT n5
  have m6 := t5.neT n6
  have k1 := st f2 (st f3 (st f4 f5)) p1 _ upd_same
  have k2 := st f3 (st f4 f5) p2 _ upd_same
  have k3 := st f4 f5 p3 _ upd_same
  have k4 := f5 p4 _ upd_same
  have k5 : _ = some (HO.tup [.bl true]) := upd_same (H := upd (upd (upd (upd H p1 (HO.tup [])) p2 (HO.lst [])) p3 (HO.dK [])) p4 (HO.tup [V.int 1])) (a := p5)
  have F5 := st f1 (st f2 (st f3 (st f4 f5)))
  generalize (upd (upd (upd (upd (upd H p1 (HO.tup [])) p2 (HO.lst [])) p3 (HO.dK [])) p4 (HO.tup [V.int 1])) p5 (HO.tup [V.bl true])) = H5 at *
  refine ⟨a, ns, t5.same (Same.upd n6), ⟨by decide, by decide⟩, fun d H' d0 d1 T' f' => ?_⟩
  have F6 : ∀ (o : HO) b x, H5 b = some x -> b ≠ t -> upd H5 p6 o b = some x := fun o b x e _ => Same.upd n6 b x e
  obtain ⟨z, hz, hm⟩ := atI_mem (xs := [V.non, .bl true, .bl false, .int (-1), .str (Str.ofString "a"), .str (Str.ofString "1"), .str (Str.ofString ""), .ref p1, .ref p2, .ref p3, .ref p4, .int (10 ^ Int.toNat 39), .int (-10 ^ Int.toNat 39), .int 64, .int 63, .ref p5]) d0 d1
  have al := oddv_all (K := K) (H6 := H') (t := t) (10 ^ Int.toNat 39) (-10 ^ Int.toNat 39) (Str.ofString "a") (Str.ofString "1") (Str.ofString "") (by rw [f' p1 m1]; exact F6 _ _ _ k1 m1) (by rw [f' p2 m2]; exact F6 _ _ _ k2 m2) (by rw [f' p3 m3]; exact F6 _ _ _ k3 m3) (by rw [f' p4 m4]; exact F6 _ _ _ k4 m4) (by rw [f' p5 m5]; exact F6 _ _ _ k5 m5) m1 m2 m4 m5 z hm
  refine ⟨_, _, .inl (.of (by rw [f' p6 m6]; exact upd_same)), hz, q _ _ T' ?_ al⟩
  exact (st F5 (Same.upd n6)).frm.trans (frm_all f')
def prD (q : Int × Int) : Dv := .tup [.int q.1, .int q.2]
def wholeD (m : Nat) (ps : List (Int × Int)) : Dv := .tup [.int m, .tup (ps.map prD)]
theorem tups_pr : ∀ ps : List (Int × Int), tupsOnly (ps.map prD) = true
  | [] => by unfold tupsOnly; rfl
  | q :: ps => by
    rw [List.map_cons]
    unfold tupsOnly
    rw [tups_pr ps]
    rfl
theorem tup_whole (m : Nat) (ps : List (Int × Int)) : tupOnly (wholeD m ps) = true := by
  unfold wholeD tupOnly tupsOnly tupOnly tupsOnly tupOnly
  rw [tups_pr]
  rfl
def dkP (ps : List (Int × Int)) : List (Key × V) := ps.map fun q => (Sum.inl q.1, V.int q.2)
theorem dkP_put (ps : List (Int × Int)) (k x : Int) : ∃ qs : List (Int × Int), putK (dkP ps) (Sum.inl k) (.int x) = dkP qs /\ qs.length <= ps.length + 1 := by
  unfold putK
  split
  . refine ⟨ps.map fun q => if q.1 = k then (q.1, x) else q, ?_, by rw [List.length_map]; omega⟩
    unfold dkP
    rw [List.map_map, List.map_map]
    refine List.map_congr_left fun q _ => ?_
    show (if (Sum.inl q.1 : Key) = Sum.inl k then _ else _) = ((Sum.inl (if q.1 = k then (q.1, x) else q).1 : Key), V.int (if q.1 = k then (q.1, x) else q).2)
    by_cases e : q.1 = k
    . rw [if_pos (by rw [e]), if_pos e]
    . rw [if_neg (fun z => e (by injection z)), if_neg e]
  . exact ⟨ps ++ [(k, x)], by unfold dkP; rw [List.map_append]; rfl, by rw [List.length_append]; exact Nat.le_refl _⟩
theorem reps_pairs {H : Hp} : ∀ {as : List Addr} {rs : List (Int × Int)}, as.length = rs.length -> (∀ (i : Nat) a q, as[i]? = some a -> rs[i]? = some q -> H a = some (.tup [.int q.1, .int q.2])) -> Reps K H (rs.map prD) (as.map V.ref)
  | [], [], _, _ => reps_nil
  | [], _ :: _, h, _ => by cases h
  | _ :: _, [], h, _ => by cases h
  | a :: as, q :: rs, h, x => by
    refine reps_cons (rep_tup1 (x 0 a q rfl rfl) (reps_cons rep_int' (reps_cons rep_int' reps_nil))) (reps_pairs (by simpa using h) fun i a' q' h1 h2 => x (i + 1) a' q' (by simpa using h1) (by simpa using h2))
def sp_wild (K : W.Frag) : Sp := fun vs H Q _ => match vs with
  | [.ref t, .int n] => ∃ (a : Addr) (ns : List Int) (m : Nat), Tape K H t a ns /\ n = m /\ 1 <= m /\ m <= 6 /\ ∀ (ps : List (Int × Int)) v H', ps.length <= 6 -> Tape K H' t a ns -> Frm t H H' -> Rep K (cutH t t H') (wholeD m ps) v -> Q v H'
  | _ => False
theorem sp_wild_mono : SpMono (sp_wild K) := fun vs H Q Q' E h q => by
  unfold sp_wild at *
  split at q
  . revert q; repeat' first | exact h _ _ | exact newL_mono h | exact out_mono h | exact outT_mono h | walk_at "m"
  . exact q.elim
theorem tape_put {H0 H : Hp} {t a p : Addr} {ns : List Int} {o : HO} (T0 : Tape K H0 t a ns) (T1 : Tape K H t a ns) (F : Frm t H0 (upd H p o)) (n : p ≠ t) : Tape K (upd H p o) t a ns := by
  obtain ⟨i, r, c, h1, h2, h3⟩ := T1.at_
  exact ⟨⟨i, r, c, h1, h2, by rw [upd_ne (Ne.symm n)]; exact h3⟩, T0.scr.stay fun o n e => F a o n e⟩
theorem ints_mem {xs : List Int} {v : V} (h : v ∈ xs.map V.int) : ∃ x, v = .int x := by
  obtain ⟨x, _, rfl⟩ := List.mem_map.mp h
  exact ⟨x, rfl⟩
theorem ok__law_wild : FnOk P w K mg base CX0 2 T.f__law_wild T.d__law_wild ["_law_tape_here", "_law_n"] (sp_wild K) := by
  have G__law_next := ok__law_next (P := P) (w := w) (base := base) T; have G__law_two := ok__law_two (P := P) (w := w) (base := base) T
  refine T.F__law_wild.ok sc__law_wild (fun vs H Q E h => by unfold sp_wild at h; split at h <;> first | rfl | exact h.elim) (fun cdv A outer s H vs Q E hr h => ?_)
  have hu := hu60 hr
  have mo2 : SpMono sp_two := sp_two_mono
  have hr__law_next := hr.mono (show 1 <= _ by decide); have hr__law_two := hr.mono (show 1 <= _ by decide)
  unfold sp_wild at h
  split at h
  rotate_left
  . exact h.elim
  rename_i t n
  obtain ⟨a, ns, m, TP, e1, m1, m6, q⟩ := h
  subst e1
  refine ⟨_, (@pss_cons _ _ _ _ _ (@ps_set _ _ 2 _ _ _ _ sc__law_wild.nd rfl (by walk_at "e") (@pe_dnewK _ _) (by rfl) (by walk_at "i")) (@pss_cons _ _ _ _ _ (@ps_for _ _ _ _ _ _ _ _ PassesOwn.never rfl (@pi_range1 _ _ _ _ _ _ rfl T.z_range (@pa1 _ _ _ (@pe_call _ _ _ _ _ _ _ _ _ _ _ _ _ _ _ _ G__law_next hr__law_next rfl T.m__law_next T.F__law_next.kp T.b__law_next .nil pass0 (@pa_cons _ _ _ _ _ (@vw _ 0 _ _ (by walk_at "v")) (@pa1 _ _ _ (@pe_int _ _ _ _) (by rfl)) (by rfl)) (by decide) (by rfl) (by rfl)) (by rfl)) (by rfl)) (@pg_name _ _ 3 _ sc__law_wild.nd rfl (by walk_at "e") (by walk_at "i")) (@pss_cons _ _ _ _ _ (@ps_set _ _ 4 _ _ _ _ sc__law_wild.nd rfl (by walk_at "e") (@pe_lst _ _ _ _ (@pa_cons _ _ _ _ _ (@pe_int _ _ _ _) (@pa_cons _ _ _ _ _ (@pe_un _ _ _ _ _ _ um_neg (@pe_int _ _ _ _)) (@pa_cons _ _ _ _ _ (@pe_call _ _ _ _ _ _ _ _ _ _ _ _ _ _ _ _ G__law_two hr__law_two rfl T.m__law_two T.F__law_two.kp T.b__law_two .nil pass0 (@pa1 _ _ _ (@vw _ 1 _ _ (by walk_at "v")) (by rfl)) (by decide) (by rfl) (by rfl)) (@pa_cons _ _ _ _ _ (@pe_un _ _ _ _ _ _ um_neg (@pe_call _ _ _ _ _ _ _ _ _ _ _ _ _ _ _ _ G__law_two hr__law_two rfl T.m__law_two T.F__law_two.kp T.b__law_two .nil pass0 (@pa1 _ _ _ (@vw _ 1 _ _ (by walk_at "v")) (by rfl)) (by decide) (by rfl) (by rfl))) (@pa_cons _ _ _ _ _ (@pe_int _ _ _ _) (@pa_cons _ _ _ _ _ (@pe_op _ _ _ _ _ _ _ _ om_pow (@pe_int _ _ _ _) (@pe_int _ _ _ _)) (@pa1 _ _ _ (@pe_un _ _ _ _ _ _ um_neg (@pe_int _ _ _ _)) (by rfl)) (by rfl)) (by rfl)) (by rfl)) (by rfl)) (by rfl)) (by rfl))) (by rfl) (by walk_at "i")) (@pss_one _ _ _ (@ps_dput _ _ _ _ _ _ _ _ _ (hu_one hu) (@vw _ 2 _ _ (by walk_at "v")) (@pe_call _ _ _ _ _ _ _ _ _ _ _ _ _ _ _ _ G__law_next hr__law_next rfl T.m__law_next T.F__law_next.kp T.b__law_next .nil pass0 (@pa_cons _ _ _ _ _ (@vw _ 0 _ _ (by walk_at "v")) (@pa1 _ _ _ (@pe_call _ _ _ _ _ _ _ _ _ _ _ _ _ _ _ _ G__law_two hr__law_two rfl T.m__law_two T.F__law_two.kp T.b__law_two .nil pass0 (@pa1 _ _ _ (@vw _ 1 _ _ (by walk_at "v")) (by rfl)) (by decide) (by rfl) (by rfl)) (by rfl)) (by rfl)) (by decide) (by rfl) (by rfl)) (@kIx _ K _ _ _ _ _ (@vw _ 4 _ _ (by walk_at "v")) (@pe_call _ _ _ _ _ _ _ _ _ _ _ _ _ _ _ _ G__law_next hr__law_next rfl T.m__law_next T.F__law_next.kp T.b__law_next .nil pass0 (@pa_cons _ _ _ _ _ (@vw _ 0 _ _ (by walk_at "v")) (@pa1 _ _ _ (@pe_int _ _ _ _) (by rfl)) (by rfl)) (by decide) (by rfl) (by rfl)) (by intro _ _; rfl) (by rfl)) (by rfl)))) (by intro _; rfl)) (@pss_one _ _ _ (@ps_ret _ _ _ _ (@pe_tup _ _ _ _ _ (@pa_cons _ _ _ _ _ (@vw _ 1 _ _ (by walk_at "v")) (@pa1 _ _ _ (@pe_callTy _ _ _ _ _ _ _ _ _ (kTuple (K := K)) rfl T.z_tuple (by rfl) (@pa1 _ _ _ (@kSortI _ _ _ _ _ _ _ rfl rfl T.z_sorted (@vw _ 2 _ _ (by walk_at "v")) (by rfl) (by rfl) (by rfl)) (by rfl)) (by decide) (by decide) (by rfl) (by rfl)) (by rfl)) (by rfl))))))), ?_⟩
  have h64 : 2 ^ m <= 64 := Nat.pow_le_pow_right (n := 2) (by decide) m6
  refine fun d nd => ?_
  dsimp only [gName]
  have ndt := TP.neT nd
  refine ⟨a, ns, TP.same (Same.upd nd), ⟨by decide, by decide⟩, fun c H1 c0 c7 T1 f1 => ?_⟩
  obtain ⟨N, rfl⟩ := Int.eq_ofNat_of_zero_le c0
  have fr1 : Frm t H H1 := (Same.upd (o := .dK []) nd).frm.trans (frm_all f1)
  have g1 : H1 d = some (.dK (dkP [])) := by rw [f1 d ndt]; exact upd_same
  have hm2 : (2 : Int) ^ (m : Int).toNat = ((2 ^ m : Nat) : Int) := by rw [Int.toNat_natCast, Int.natCast_pow]; rfl
  have hpos := Nat.two_pow_pos m
  refine ⟨N, rfl, by omega, by omega, ?_⟩
  refine for_range (fun i σ H' => ∃ (ps : List (Int × Int)) (z1 z2 : Option V), σ = [some (.ref t), some (.int m), some (.ref d), z1, z2] /\ ps.length <= i /\ Tape K H' t a ns /\ Frm t H H' /\ H' d = some (.dK (dkP ps))) ⟨[], none, none, rfl, Nat.le_refl _, T1, fr1, g1⟩ ?_ ?_
  . rintro i σ H' hi ⟨ps, z1, z2, rfl, hl, T2, fr2, g2⟩
    refine ⟨by omega, by omega, fun H3 s3 => ⟨by omega, by omega, fun H4 s4 => ⟨⟨by decide, by decide, by decide⟩, small_le (show 7 <= 1000 by decide), fun l nl => ?_⟩⟩⟩
    have T4 := (T2.same s3).same s4
    have nlt := T4.neT nl
    have s5 := Same.upd (o := .lst [.int 1, .int (-1), .int (2 ^ (m : Int).toNat), .int (-(2 ^ (m : Int).toNat)), .int 3, .int (10 ^ (12 : Int).toNat), .int (-7)]) nl
    dsimp only [gName]
    refine ⟨a, ns, T4.same s5, ⟨by decide, by decide⟩, fun c H6 c0 c1 T6 f6 => ?_⟩
    have hlist : H6 l = some (.lst [.int 1, .int (-1), .int (2 ^ (m : Int).toNat), .int (-(2 ^ (m : Int).toNat)), .int 3, .int (10 ^ (12 : Int).toNat), .int (-7)]) := by rw [f6 l nlt]; exact upd_same
    obtain ⟨z, hz, hm⟩ := atI_mem (xs := [V.int 1, .int (-1), .int (2 ^ (m : Int).toNat), .int (-(2 ^ (m : Int).toNat)), .int 3, .int (10 ^ (12 : Int).toNat), .int (-7)]) c0 c1
    obtain ⟨x, rfl⟩ := ints_mem (xs := [1, (-1), (2 ^ (m : Int).toNat), (-(2 ^ (m : Int).toNat)), 3, (10 ^ (12 : Int).toNat), (-7)]) hm
    refine ⟨_, _, .inl (.of hlist), hz, by omega, by omega, fun H7 s7 => ?_⟩
    refine ⟨a, ns, T6.same s7, ?_, fun k H8 k0 k1 T8 f8 => ?_⟩
    . rw [hm2]
      exact okDiv_of (by omega) (Int.le_trans (Int.ofNat_le.mpr h64) (by decide))
    have fr8 : Frm t H H8 := fr2.trans ((s3.trans (s4.trans s5)).frm.trans ((frm_all f6).trans (s7.frm.trans (frm_all f8))))
    have g8 : H8 d = some (.dK (dkP ps)) := by
      rw [f8 d ndt]
      refine s7 _ _ ?_
      rw [f6 d ndt]
      exact s5 _ _ (s4 _ _ (s3 _ _ g2))
    obtain ⟨qs, eq, hq⟩ := dkP_put ps k x
    have hdl : (dkP ps).length = ps.length := by unfold dkP; rw [List.length_map]
    refine ⟨d, _, rfl, DPut.k (k := Sum.inl k) g8 (small1000 (by omega)), qs, _, _, rfl, by omega, ?_⟩
    rw [eq]
    have fr9 : Frm t H (upd H8 d (.dK (dkP qs))) := frm_new fr8 nd
    exact ⟨tape_put TP T8 fr9 ndt, fr9, upd_same⟩
  . rintro σ H' ⟨ps, z1, z2, rfl, hl, T2, fr2, g2⟩
    refine ⟨ps, g2, by omega, fun l H3 as rs a1 a2 a3 a4 a5 a6 a7 => ?_⟩
    refine ⟨_, .inl ⟨.of a5, fun l2 n2 => ⟨small_le (show 2 <= 1000 by decide), fun p np => ?_⟩⟩⟩
    have s2 := Same.upd (o := .tup (as.map V.ref)) n2
    have s3 := Same.upd (o := .tup [.int m, .ref l2]) np
    have T5 := ((T2.same a4).same s2).same s3
    have rw5 : Rep K (upd (upd H3 l2 (.tup (as.map V.ref))) p (.tup [.int m, .ref l2])) (wholeD m rs) (.ref p) := rep_tup1 upd_same (reps_cons rep_int' (reps_cons (Rep.same s3 _ _ (rep_tup1 upd_same (Reps.same s2 _ _ (reps_pairs a6 a7)))) reps_nil))
    refine q rs _ _ (by rw [a1.length_eq]; omega) T5 (fr2.trans (st a4 (st s2 s3)).frm) (cutH_tup ?_ (tup_whole m rs) rw5)
    obtain ⟨_, _, _, _, _, h⟩ := T5.at_
    exact ⟨_, h⟩
theorem flat_mem {xs : List V} (h : xs.all (fun v => match v with | .ref _ => false | .int _ => true | .bl _ => true | .str _ => true | .non => true | _ => false) = true) {v : V} (hv : v ∈ xs) : ∃ d, ∀ H, Rep K H d v := by
  have := (List.all_eq_true.mp h) v hv
  match v, this with
  | .int i, _ => exact ⟨.int i, fun H => rep_int'⟩
  | .bl b, _ => exact ⟨.bl b, fun H => rep_bl'⟩
  | .str x, _ => exact ⟨.str x, fun H => rep_str'⟩
  | .non, _ => exact ⟨.non, fun H => rep_non⟩
def sp_bt (K : W.Frag) : Sp := fun vs H Q _ => match vs with
  | [.ref t, .int n, v] => ∃ (a : Addr) (ns : List Int) (m : Nat) (k x : Int), Tape K H t a ns /\ n = m /\ 1 <= m /\ m <= 6 /\ Rep K (cutH t t H) (.tup [.int k, .int x]) v /\ ∀ v' d H', Tape K H' t a ns -> Frm t H H' -> Rep K (cutH t t H') d v' -> Q v' H'
  | _ => False
theorem sp_bt_mono : SpMono (sp_bt K) := fun vs H Q Q' E h q => by
  unfold sp_bt at *
  split at q
  . revert q; repeat' first | exact h _ _ | exact newL_mono h | exact out_mono h | exact outT_mono h | walk_at "m"
  . exact q.elim
theorem ok__law_bent_term : FnOk P w K mg base CX0 2 T.f__law_bent_term T.d__law_bent_term ["_law_tape_here", "_law_n", "_law_term"] (sp_bt K) := by
  have G__law_next := ok__law_next (P := P) (w := w) (base := base) T; have G__law_two := ok__law_two (P := P) (w := w) (base := base) T
  refine T.F__law_bent_term.ok sc__law_bent_term (fun vs H Q E h => by unfold sp_bt at h; split at h <;> first | rfl | exact h.elim) (fun cdv A outer s H vs Q E hr h => ?_)
  have hu := hu60 hr
  have mo2 : SpMono sp_two := sp_two_mono
  have hr__law_next := hr.mono (show 1 <= _ by decide); have hr__law_two := hr.mono (show 1 <= _ by decide)
  unfold sp_bt at h
  split at h
  rotate_left
  . exact h.elim
  rename_i t n v
  obtain ⟨a, ns, m, k, x, TP, e1, m1, m6, rv, q⟩ := h
  subst e1
  refine ⟨_, (@pss_cons _ _ _ _ _ (@ps_set _ _ 3 _ _ _ _ sc__law_bent_term.nd rfl (by walk_at "e") (@pe_call _ _ _ _ _ _ _ _ _ _ _ _ _ _ _ _ G__law_next hr__law_next rfl T.m__law_next T.F__law_next.kp T.b__law_next .nil pass0 (@pa_cons _ _ _ _ _ (@vw _ 0 _ _ (by walk_at "v")) (@pa1 _ _ _ (@pe_int _ _ _ _) (by rfl)) (by rfl)) (by decide) (by rfl) (by rfl)) (by rfl) (by walk_at "i")) (@pss_cons _ _ _ _ _ (@ps_if _ _ _ _ _ _ _ _ (@tu_cmp _ _ _ _ _ _ _ _ om_lt (@vw _ 3 _ _ (by walk_at "v")) (@pe_int _ _ _ _) (by walk_at "n")) (@pss_cons _ _ _ _ _ (@ps_set _ _ 4 _ _ _ _ sc__law_bent_term.nd rfl (by walk_at "e") (@pe_lst _ _ _ _ (@pa_cons _ _ _ _ _ (@pe_int _ _ _ _) (@pa_cons _ _ _ _ _ (@pe_op _ _ _ _ _ _ _ _ om_pow (@pe_int _ _ _ _) (@pe_int _ _ _ _)) (@pa_cons _ _ _ _ _ (@pe_op _ _ _ _ _ _ _ _ (kAddA (K := K)) (@pe_op _ _ _ _ _ _ _ _ om_pow (@pe_int _ _ _ _) (@pe_int _ _ _ _)) (@pe_int _ _ _ _)) (@pa_cons _ _ _ _ _ (@pe_un _ _ _ _ _ _ um_neg (@pe_op _ _ _ _ _ _ _ _ om_pow (@pe_int _ _ _ _) (@pe_int _ _ _ _))) (@pa_cons _ _ _ _ _ (@pe_op _ _ _ _ _ _ _ _ om_sub (@pe_un _ _ _ _ _ _ um_neg (@pe_op _ _ _ _ _ _ _ _ om_pow (@pe_int _ _ _ _) (@pe_int _ _ _ _))) (@pe_int _ _ _ _)) (@pa_cons _ _ _ _ _ (@pe_bl _ _ _ _) (@pa_cons _ _ _ _ _ (@pe_str _ _ _ _) (@pa1 _ _ _ (@pe_non _ _ _) (by rfl)) (by rfl)) (by rfl)) (by rfl)) (by rfl)) (by rfl)) (by rfl)) (by rfl))) (by rfl) (by walk_at "i")) (@pss_one _ _ _ (@ps_ret _ _ _ _ (@pe_tup _ _ _ _ _ (@pa_cons _ _ _ _ _ (@kIx _ K _ _ _ _ _ (@vw _ 2 _ _ (by walk_at "v")) (@pe_int _ _ _ _) (by intro _ _; rfl) (by rfl)) (@pa1 _ _ _ (@kIx _ K _ _ _ _ _ (@vw _ 4 _ _ (by walk_at "v")) (@pe_call _ _ _ _ _ _ _ _ _ _ _ _ _ _ _ _ G__law_next hr__law_next rfl T.m__law_next T.F__law_next.kp T.b__law_next .nil pass0 (@pa_cons _ _ _ _ _ (@vw _ 0 _ _ (by walk_at "v")) (@pa1 _ _ _ (@pe_int _ _ _ _) (by rfl)) (by rfl)) (by decide) (by rfl) (by rfl)) (by intro _ _; rfl) (by rfl)) (by rfl)) (by rfl)))))) (@pss_nil _)) (@pss_cons _ _ _ _ _ (@ps_if _ _ _ _ _ _ _ _ (@tu_cmp _ _ _ _ _ _ _ _ om_lt (@vw _ 3 _ _ (by walk_at "v")) (@pe_int _ _ _ _) (by walk_at "n")) (@pss_one _ _ _ (@ps_ret _ _ _ _ (@pe_tup _ _ _ _ _ (@pa_cons _ _ _ _ _ (@kIx _ K _ _ _ _ _ (@pe_lst _ _ _ _ (@pa_cons _ _ _ _ _ (@pe_call _ _ _ _ _ _ _ _ _ _ _ _ _ _ _ _ G__law_two hr__law_two rfl T.m__law_two T.F__law_two.kp T.b__law_two .nil pass0 (@pa1 _ _ _ (@vw _ 1 _ _ (by walk_at "v")) (by rfl)) (by decide) (by rfl) (by rfl)) (@pa_cons _ _ _ _ _ (@pe_op _ _ _ _ _ _ _ _ om_sub (@pe_call _ _ _ _ _ _ _ _ _ _ _ _ _ _ _ _ G__law_two hr__law_two rfl T.m__law_two T.F__law_two.kp T.b__law_two .nil pass0 (@pa1 _ _ _ (@vw _ 1 _ _ (by walk_at "v")) (by rfl)) (by decide) (by rfl) (by rfl)) (@pe_int _ _ _ _)) (@pa_cons _ _ _ _ _ (@pe_int _ _ _ _) (@pa_cons _ _ _ _ _ (@pe_un _ _ _ _ _ _ um_neg (@pe_int _ _ _ _)) (@pa_cons _ _ _ _ _ (@pe_bl _ _ _ _) (@pa_cons _ _ _ _ _ (@pe_bl _ _ _ _) (@pa_cons _ _ _ _ _ (@pe_str _ _ _ _) (@pa1 _ _ _ (@pe_non _ _ _) (by rfl)) (by rfl)) (by rfl)) (by rfl)) (by rfl)) (by rfl)) (by rfl)) (by rfl))) (@pe_call _ _ _ _ _ _ _ _ _ _ _ _ _ _ _ _ G__law_next hr__law_next rfl T.m__law_next T.F__law_next.kp T.b__law_next .nil pass0 (@pa_cons _ _ _ _ _ (@vw _ 0 _ _ (by walk_at "v")) (@pa1 _ _ _ (@pe_int _ _ _ _) (by rfl)) (by rfl)) (by decide) (by rfl) (by rfl)) (by intro _ _; rfl) (by rfl)) (@pa1 _ _ _ (@kIx _ K _ _ _ _ _ (@vw _ 2 _ _ (by walk_at "v")) (@pe_int _ _ _ _) (by intro _ _; rfl) (by rfl)) (by rfl)) (by rfl))))) (@pss_nil _)) (@pss_one _ _ _ (@ps_ret _ _ _ _ (@kIx _ K _ _ _ _ _ (@pe_lst _ _ _ _ (@pa_cons _ _ _ _ _ (@pe_callTy _ _ _ _ _ _ _ _ _ (kList (K := K)) rfl T.z_list (by rfl) (@pa1 _ _ _ (@vw _ 2 _ _ (by walk_at "v")) (by rfl)) (by decide) (by decide) (by rfl) (by rfl)) (@pa_cons _ _ _ _ _ (@pe_op _ _ _ _ _ _ _ _ (kAddA (K := K)) (@vw _ 2 _ _ (by walk_at "v")) (@pe_tup _ _ _ _ _ (@pa1 _ _ _ (@pe_int _ _ _ _) (by rfl)))) (@pa1 _ _ _ (@kCutA _ K _ _ _ _ _ _ _ _ (@vw _ 2 _ _ (by walk_at "v")) (@po_none _) (@po_some _ _ _ (@pe_int _ _ _ _)) (by rfl)) (by rfl)) (by rfl)) (by rfl))) (@pe_op _ _ _ _ _ _ _ _ om_sub (@vw _ 3 _ _ (by walk_at "v")) (@pe_int _ _ _ _)) (by intro _ _; rfl) (by rfl))))))), ?_⟩
  refine ⟨a, ns, TP, ⟨by decide, by decide⟩, fun way H1 w0 w8 T1 f1 => ?_⟩
  have rv := up_draw rv f1
  dsimp only [gName]
  have fr1 : Frm t H H1 := frm_all f1
  obtain ⟨c, rfl, hc⟩ := pair_of rv
  refine ite2 (fun e => ?_) (fun e => ?_)
  . refine ⟨⟨by decide, by decide, by decide⟩, ⟨by decide, by decide, by decide⟩, ⟨by decide, by decide, by decide⟩, ⟨by decide, by decide, by decide⟩, small_le (show 8 <= 1000 by decide), fun l nl => ?_⟩
    have nlt := T1.neT nl
    have s2 := Same.upd (o := .lst [.int 0, .int (10 ^ Int.toNat 12), .int (10 ^ Int.toNat 12 + 1), .int (-10 ^ Int.toNat 12), .int (-10 ^ Int.toNat 12 - 1), .bl true, .str (Str.ofString "1"), .non]) nl
    refine ⟨_, _, .inr (s2.sqT hc), atI_of (n := 0) rfl rfl, a, ns, T1.same s2, ⟨by decide, by decide⟩, fun c2 H3 c0 c8 T3 f3 => ?_⟩
    obtain ⟨z, hz, hm⟩ := atI_mem (xs := [.int 0, .int (10 ^ Int.toNat 12), .int (10 ^ Int.toNat 12 + 1), .int (-10 ^ Int.toNat 12), .int (-10 ^ Int.toNat 12 - 1), .bl true, .str (Str.ofString "1"), .non]) c0 c8
    obtain ⟨dz, hdz⟩ := flat_mem (K := K) rfl hm
    refine ⟨_, _, .inl (.of (by rw [f3 l nlt]; exact upd_same)), hz, small_le (show 2 <= 1000 by decide), fun p np => ?_⟩
    have npt := T3.neT np
    exact q _ (.tup [.int k, dz]) _ (T3.same (Same.upd np)) (fr1.trans (s2.frm.trans ((frm_all f3).trans (Same.upd np).frm))) (rep_tup1 (cutH_at upd_same ⟨npt, npt⟩) (reps_cons rep_int' (reps_cons (hdz _) reps_nil)))
  . refine ite2 (fun e => ?_) (fun e => ?_)
    . refine ⟨by omega, by omega, fun H2 s2 => ⟨by omega, by omega, fun H3 s3 => ⟨small_le (show 8 <= 1000 by decide), fun l nl => ?_⟩⟩⟩
      have T3 := (T1.same s2).same s3
      have nlt := T3.neT nl
      have s4 := Same.upd (o := .lst [.int (2 ^ (m : Int).toNat), .int (2 ^ (m : Int).toNat - 1), .int 0, .int (-1), .bl true, .bl false, .str (Str.ofString "0"), .non]) nl
      refine ⟨a, ns, T3.same s4, ⟨by decide, by decide⟩, fun c2 H5 c0 c8 T5 f5 => ?_⟩
      obtain ⟨z, hz, hm⟩ := atI_mem (xs := [.int (2 ^ (m : Int).toNat), .int (2 ^ (m : Int).toNat - 1), .int 0, .int (-1), .bl true, .bl false, .str (Str.ofString "0"), .non]) c0 c8
      obtain ⟨dz, hdz⟩ := flat_mem (K := K) rfl hm
      have rv5 := up_draw (up rv (st s2 (st s3 s4))) f5
      obtain ⟨c', ec, hc5⟩ := pair_of rv5
      cases ec
      refine ⟨_, _, .inl (.of (by rw [f5 l nlt]; exact upd_same)), hz, _, _, .inr hc5, atI_of (n := 1) rfl rfl, small_le (show 2 <= 1000 by decide), fun p np => ?_⟩
      have npt := T5.neT np
      exact q _ (.tup [dz, .int x]) _ (T5.same (Same.upd np)) (fr1.trans ((st s2 (st s3 s4)).frm.trans ((frm_all f5).trans (Same.upd np).frm))) (rep_tup1 (cutH_at upd_same ⟨npt, npt⟩) (reps_cons (hdz _) (reps_cons rep_int' reps_nil)))
    . have e5 : ¬ way < 5 := fun z => e (decide_eq_true z)
      have ht : ∀ {H' : Hp}, Tape K H' t a ns -> ∃ zs, H' t = some (.lst zs) := fun T => by obtain ⟨_, _, _, _, _, h⟩ := T.at_; exact ⟨_, h⟩
      refine ⟨_, .inr hc, fun l nl => ⟨small_le (show 1 <= 1000 by decide), fun p1 n1 => .inr ⟨[.int k, .int x], _, ?_, .of upd_same, small_le (show 3 <= 1000 by decide), fun p2 H4 s4 hp2 => ?_⟩⟩⟩
      . exact (Same.upd n1).sqT ((Same.upd nl).sqT hc)
      have s1 := Same.upd (o := .lst [.int k, .int x]) nl
      have s2 := Same.upd (o := .tup [.int 1]) n1
      have s14 := st s1 (st s2 s4)
      have hl4 : H4 l = some (.lst [.int k, .int x]) := s4 _ _ (s2 _ _ upd_same)
      have T4 := T1.same s14
      refine ⟨1, rfl, _, s14.sqT hc, fun p3 H5 s5 hp3 => ⟨small_le (show 3 <= 1000 by decide), fun l2 n2 => ?_⟩⟩
      have s6 := Same.upd (o := .lst [.ref l, .ref p2, .ref p3]) n2
      have T6 := (T4.same s5).same s6
      obtain ⟨z, hz, hm⟩ := atI_mem (xs := [.ref l, .ref p2, .ref p3]) (i := way - 5) (by omega) (by show way - 5 < 3; omega)
      refine ⟨_, z, .inl (.of upd_same), hz, ?_⟩
      have fr6 := fr1.trans ((st s14 (st s5 s6)).frm)
      have nlt := T1.neT nl
      simp only [List.mem_cons, List.not_mem_nil, or_false] at hm
      rcases hm with rfl | rfl | rfl
      . exact q _ (.lst [.int k, .int x]) _ T6 fr6 (rep_lst1 (cutH_at (s6 _ _ (s5 _ _ hl4)) ⟨nlt, nlt⟩) (reps_cons rep_int' (reps_cons rep_int' reps_nil)))
      . exact q _ (.tup [.int k, .int x, .int 1]) _ T6 fr6 (rep_tupS (sqT_cut (ht T6) (ht T6) (s6.sqT (s5.sqT hp2))) (reps_cons rep_int' (reps_cons rep_int' (reps_cons rep_int' reps_nil))))
      . exact q _ _ _ T6 fr6 (rep_tupS (sqT_cut (ht T6) (ht T6) (s6.sqT hp3)) (reps_cut (ds := [.int k, .int x]) _ _ (reps_cons rep_int' (reps_cons rep_int' reps_nil))))
def sp_bent (K : W.Frag) : Sp := fun vs H Q _ => match vs with
  | [.ref t, v] => ∃ (a : Addr) (ns : List Int) (m : Nat) (ps : List (Int × Int)), Tape K H t a ns /\ 1 <= m /\ m <= 6 /\ ps.length <= 64 /\ Rep K (cutH t t H) (wholeD m ps) v /\ ∀ v' d H', Tape K H' t a ns -> Frm t H H' -> Rep K (cutH t t H') d v' -> Q v' H'
  | _ => False
theorem sp_bent_mono : SpMono (sp_bent K) := fun vs H Q Q' E h q => by
  unfold sp_bent at *
  split at q
  . revert q; repeat' first | exact h _ _ | exact newL_mono h | exact out_mono h | exact outT_mono h | walk_at "m"
  . exact q.elim
theorem cutV_len (xs : List V) (lo hi : Option Int) : (cutV xs lo hi).length <= xs.length := by
  unfold cutV
  rw [List.length_take, List.length_drop]
  omega
theorem dep_prs (ps : List (Int × Int)) : depD (.tup (ps.map prD)) <= 60 := by
  have : ∀ ps : List (Int × Int), depDs (ps.map prD) <= 1 := fun ps => by
    induction ps with
    | nil => unfold depDs; decide
    | cons q ps ih =>
      rw [List.map_cons]
      unfold depDs
      have e : depD (prD q) = 1 := rfl
      rw [e]
      omega
  have h := this ps
  unfold depD
  omega
theorem whole_of {t : Addr} {H : Hp} {v : V} {m : Nat} {ps : List (Int × Int)} (r : Rep K (cutH t t H) (wholeD m ps) v) : ∃ p p1 xs, v = .ref p /\ SqT K (cutH t t H) p [.int m, .ref p1] /\ SqT K (cutH t t H) p1 xs /\ Reps K (cutH t t H) (ps.map prD) xs := by
  obtain ⟨a, xs, rfl, h, hx⟩ := rep_tup_inv r
  obtain ⟨x0, l0, rfl, r0, hx⟩ := reps_cons_inv hx
  obtain ⟨x1, l1, rfl, r1, hx⟩ := reps_cons_inv hx
  unfold Reps at hx
  subst hx
  unfold Rep at r0
  subst r0
  obtain ⟨b, ys, rfl, h1, hy⟩ := rep_tup_inv r1
  exact ⟨a, b, ys, rfl, h, h1, hy⟩
theorem ok__law_bent : FnOk P w K mg base CX0 3 T.f__law_bent T.d__law_bent ["_law_tape_here", "_law_whole"] (sp_bent K) := by
  have G__law_next := ok__law_next (P := P) (w := w) (base := base) T; have G__law_bent_term := ok__law_bent_term (P := P) (w := w) (base := base) T; have G__law_two := ok__law_two (P := P) (w := w) (base := base) T
  refine T.F__law_bent.ok sc__law_bent (fun vs H Q E h => by unfold sp_bent at h; split at h <;> first | rfl | exact h.elim) (fun cdv A outer s H vs Q E hr h => ?_)
  have hu := hu60 hr
  have mo2 : SpMono sp_two := sp_two_mono
  have mo3 : SpMono (sp_bt K) := sp_bt_mono
  have hr__law_next := hr.mono (show 1 <= _ by decide); have hr__law_bent_term := hr.mono (show 2 <= _ by decide); have hr__law_two := hr.mono (show 1 <= _ by decide)
  unfold sp_bent at h
  split at h
  rotate_left
  . exact h.elim
  rename_i t v
  obtain ⟨a, ns, m, ps, TP, m1, m6, hl, rv, q⟩ := h
  refine ⟨_, (@pss_cons _ _ _ _ _ (@ps_asg _ _ _ _ _ _ (@vw _ 1 _ _ (by walk_at "v")) (@kTupA _ K _ _ _ _ 2 rfl (@pgs_cons _ _ _ _ _ (@pg_name _ _ 2 _ sc__law_bent.nd rfl (by walk_at "e") (by walk_at "i")) (@pgs_cons _ _ _ _ _ (@pg_name _ _ 3 _ sc__law_bent.nd rfl (by walk_at "e") (by walk_at "i")) (@pgs_nil _) (by rfl)) (by rfl)) (by rfl) (by rfl) (by rfl)) (by rfl) (by rfl) (by rfl)) (@pss_cons _ _ _ _ _ (@ps_set _ _ 4 _ _ _ _ sc__law_bent.nd rfl (by walk_at "e") (@pe_call _ _ _ _ _ _ _ _ _ _ _ _ _ _ _ _ G__law_next hr__law_next rfl T.m__law_next T.F__law_next.kp T.b__law_next .nil pass0 (@pa_cons _ _ _ _ _ (@vw _ 0 _ _ (by walk_at "v")) (@pa1 _ _ _ (@pe_callB _ _ _ _ _ _ _ _ _ (cm_max rfl) rfl T.z_max (by rfl) (@pa_cons _ _ _ _ _ (@pe_int _ _ _ _) (@pa1 _ _ _ (@pe_callB _ _ _ _ _ _ _ _ _ (kLen (K := K)) rfl T.z_len (by rfl) (@pa1 _ _ _ (@vw _ 3 _ _ (by walk_at "v")) (by rfl)) (by decide) (by decide) (by rfl) (by rfl)) (by rfl)) (by rfl)) (by decide) (by decide) (by rfl) (by rfl)) (by rfl)) (by rfl)) (by decide) (by rfl) (by rfl)) (by rfl) (by walk_at "i")) (@pss_cons _ _ _ _ _ (@ps_set _ _ 5 _ _ _ _ sc__law_bent.nd rfl (by walk_at "e") (@pe_call _ _ _ _ _ _ _ _ _ _ _ _ _ _ _ _ G__law_next hr__law_next rfl T.m__law_next T.F__law_next.kp T.b__law_next .nil pass0 (@pa_cons _ _ _ _ _ (@vw _ 0 _ _ (by walk_at "v")) (@pa1 _ _ _ (@pe_int _ _ _ _) (by rfl)) (by rfl)) (by decide) (by rfl) (by rfl)) (by rfl) (by walk_at "i")) (@pss_cons _ _ _ _ _ (@ps_if _ _ _ _ _ _ _ _ (@tu_cmp _ _ _ _ _ _ _ _ (kEq (K := K) hu) (@vw _ 5 _ _ (by walk_at "v")) (@pe_int _ _ _ _) (by walk_at "n")) (@pss_one _ _ _ (@ps_ret _ _ _ _ (@pe_tup _ _ _ _ _ (@pa_cons _ _ _ _ _ (@vw _ 2 _ _ (by walk_at "v")) (@pa1 _ _ _ (@pe_callTy _ _ _ _ _ _ _ _ _ (kList (K := K)) rfl T.z_list (by rfl) (@pa1 _ _ _ (@vw _ 3 _ _ (by walk_at "v")) (by rfl)) (by decide) (by decide) (by rfl) (by rfl)) (by rfl)) (by rfl))))) (@pss_nil _)) (@pss_cons _ _ _ _ _ (@ps_if _ _ _ _ _ _ _ _ (@tu_cmp _ _ _ _ _ _ _ _ (kEq (K := K) hu) (@vw _ 5 _ _ (by walk_at "v")) (@pe_int _ _ _ _) (by walk_at "n")) (@pss_one _ _ _ (@ps_ret _ _ _ _ (@pe_lst _ _ _ _ (@pa_cons _ _ _ _ _ (@vw _ 2 _ _ (by walk_at "v")) (@pa1 _ _ _ (@vw _ 3 _ _ (by walk_at "v")) (by rfl)) (by rfl))))) (@pss_nil _)) (@pss_cons _ _ _ _ _ (@ps_if _ _ _ _ _ _ _ _ (@tu_cmp _ _ _ _ _ _ _ _ (kEq (K := K) hu) (@vw _ 5 _ _ (by walk_at "v")) (@pe_int _ _ _ _) (by walk_at "n")) (@pss_one _ _ _ (@ps_ret _ _ _ _ (@pe_tup _ _ _ _ _ (@pa_cons _ _ _ _ _ (@kIx _ K _ _ _ _ _ (@pe_lst _ _ _ _ (@pa_cons _ _ _ _ _ (@pe_int _ _ _ _) (@pa_cons _ _ _ _ _ (@pe_int _ _ _ _) (@pa_cons _ _ _ _ _ (@pe_bl _ _ _ _) (@pa_cons _ _ _ _ _ (@pe_op _ _ _ _ _ _ _ _ om_sub (@vw _ 2 _ _ (by walk_at "v")) (@pe_int _ _ _ _)) (@pa_cons _ _ _ _ _ (@pe_op _ _ _ _ _ _ _ _ (kAddA (K := K)) (@vw _ 2 _ _ (by walk_at "v")) (@pe_int _ _ _ _)) (@pa_cons _ _ _ _ _ (@pe_str _ _ _ _) (@pa1 _ _ _ (@pe_non _ _ _) (by rfl)) (by rfl)) (by rfl)) (by rfl)) (by rfl)) (by rfl)) (by rfl))) (@pe_call _ _ _ _ _ _ _ _ _ _ _ _ _ _ _ _ G__law_next hr__law_next rfl T.m__law_next T.F__law_next.kp T.b__law_next .nil pass0 (@pa_cons _ _ _ _ _ (@vw _ 0 _ _ (by walk_at "v")) (@pa1 _ _ _ (@pe_int _ _ _ _) (by rfl)) (by rfl)) (by decide) (by rfl) (by rfl)) (by intro _ _; rfl) (by rfl)) (@pa1 _ _ _ (@vw _ 3 _ _ (by walk_at "v")) (by rfl)) (by rfl))))) (@pss_nil _)) (@pss_cons _ _ _ _ _ (@ps_if _ _ _ _ _ _ _ _ (@tu_cmp _ _ _ _ _ _ _ _ (kEq (K := K) hu) (@vw _ 5 _ _ (by walk_at "v")) (@pe_int _ _ _ _) (by walk_at "n")) (@pss_one _ _ _ (@ps_ret _ _ _ _ (@pe_tup _ _ _ _ _ (@pa_cons _ _ _ _ _ (@vw _ 2 _ _ (by walk_at "v")) (@pa1 _ _ _ (@pe_op _ _ _ _ _ _ _ _ (kAddA (K := K)) (@kCutA _ K _ _ _ _ _ _ _ _ (@vw _ 3 _ _ (by walk_at "v")) (@po_some _ _ _ (@vw _ 4 _ _ (by walk_at "v"))) (@po_none _) (by rfl)) (@kCutA _ K _ _ _ _ _ _ _ _ (@vw _ 3 _ _ (by walk_at "v")) (@po_none _) (@po_some _ _ _ (@vw _ 4 _ _ (by walk_at "v"))) (by rfl))) (by rfl)) (by rfl))))) (@pss_nil _)) (@pss_cons _ _ _ _ _ (@ps_if _ _ _ _ _ _ _ _ (@tu_cmp _ _ _ _ _ _ _ _ (kEq (K := K) hu) (@vw _ 5 _ _ (by walk_at "v")) (@pe_int _ _ _ _) (by walk_at "n")) (@pss_one _ _ _ (@ps_ret _ _ _ _ (@pe_tup _ _ _ _ _ (@pa_cons _ _ _ _ _ (@vw _ 2 _ _ (by walk_at "v")) (@pa1 _ _ _ (@pe_op _ _ _ _ _ _ _ _ (kAddA (K := K)) (@vw _ 3 _ _ (by walk_at "v")) (@kCutA _ K _ _ _ _ _ _ _ _ (@vw _ 3 _ _ (by walk_at "v")) (@po_some _ _ _ (@vw _ 4 _ _ (by walk_at "v"))) (@po_none _) (by rfl))) (by rfl)) (by rfl))))) (@pss_nil _)) (@pss_cons _ _ _ _ _ (@ps_if _ _ _ _ _ _ _ _ (@tu_cmp _ _ _ _ _ _ _ _ (kEq (K := K) hu) (@vw _ 5 _ _ (by walk_at "v")) (@pe_int _ _ _ _) (by walk_at "n")) (@pss_one _ _ _ (@ps_ret _ _ _ _ (@pe_op _ _ _ _ _ _ _ _ (kAddA (K := K)) (@vw _ 1 _ _ (by walk_at "v")) (@pe_tup _ _ _ _ _ (@pa1 _ _ _ (@pe_int _ _ _ _) (by rfl)))))) (@pss_nil _)) (@pss_cons _ _ _ _ _ (@ps_if _ _ _ _ _ _ _ _ (@tu_cmp _ _ _ _ _ _ _ _ (kEq (K := K) hu) (@vw _ 3 _ _ (by walk_at "v")) (@pe_tup _ _ _ _ _ (@pa_nil _)) (by walk_at "n")) (@pss_one _ _ _ (@ps_ret _ _ _ _ (@pe_tup _ _ _ _ _ (@pa_cons _ _ _ _ _ (@vw _ 2 _ _ (by walk_at "v")) (@pa1 _ _ _ (@pe_tup _ _ _ _ _ (@pa1 _ _ _ (@pe_tup _ _ _ _ _ (@pa_cons _ _ _ _ _ (@pe_call _ _ _ _ _ _ _ _ _ _ _ _ _ _ _ _ G__law_next hr__law_next rfl T.m__law_next T.F__law_next.kp T.b__law_next .nil pass0 (@pa_cons _ _ _ _ _ (@vw _ 0 _ _ (by walk_at "v")) (@pa1 _ _ _ (@pe_call _ _ _ _ _ _ _ _ _ _ _ _ _ _ _ _ G__law_two hr__law_two rfl T.m__law_two T.F__law_two.kp T.b__law_two .nil pass0 (@pa1 _ _ _ (@vw _ 2 _ _ (by walk_at "v")) (by rfl)) (by decide) (by rfl) (by rfl)) (by rfl)) (by rfl)) (by decide) (by rfl) (by rfl)) (@pa1 _ _ _ (@pe_int _ _ _ _) (by rfl)) (by rfl))) (by rfl))) (by rfl)) (by rfl))))) (@pss_nil _)) (@pss_one _ _ _ (@ps_ret _ _ _ _ (@pe_tup _ _ _ _ _ (@pa_cons _ _ _ _ _ (@vw _ 2 _ _ (by walk_at "v")) (@pa1 _ _ _ (@pe_op _ _ _ _ _ _ _ _ (kAddA (K := K)) (@pe_op _ _ _ _ _ _ _ _ (kAddA (K := K)) (@kCutA _ K _ _ _ _ _ _ _ _ (@vw _ 3 _ _ (by walk_at "v")) (@po_none _) (@po_some _ _ _ (@vw _ 4 _ _ (by walk_at "v"))) (by rfl)) (@pe_tup _ _ _ _ _ (@pa1 _ _ _ (@pe_call _ _ _ _ _ _ _ _ _ _ _ _ _ _ _ _ G__law_bent_term hr__law_bent_term rfl T.m__law_bent_term T.F__law_bent_term.kp T.b__law_bent_term .nil pass0 (@pa_cons _ _ _ _ _ (@vw _ 0 _ _ (by walk_at "v")) (@pa_cons _ _ _ _ _ (@vw _ 2 _ _ (by walk_at "v")) (@pa1 _ _ _ (@kIx _ K _ _ _ _ _ (@vw _ 3 _ _ (by walk_at "v")) (@vw _ 4 _ _ (by walk_at "v")) (by intro _ _; rfl) (by rfl)) (by rfl)) (by rfl)) (by rfl)) (by decide) (by rfl) (by rfl)) (by rfl)))) (@kCutA _ K _ _ _ _ _ _ _ _ (@vw _ 3 _ _ (by walk_at "v")) (@po_some _ _ _ (@pe_op _ _ _ _ _ _ _ _ (kAddA (K := K)) (@vw _ 4 _ _ (by walk_at "v")) (@pe_int _ _ _ _))) (@po_none _) (by rfl))) (by rfl)) (by rfl))))))))))))))), ?_⟩
  obtain ⟨p, p1, xs, rfl, hpC, hp1C, hx⟩ := whole_of rv
  have hp := cutH_le.sqT hpC
  have hp1 := cutH_le.sqT hp1C
  have hxl := hx.length
  rw [List.length_map] at hxl
  refine seq_at (fun σ H' => σ = [some (.ref t), some (.ref p), some (.int m), some (.ref p1), none, none] /\ H = H') ⟨_, .inr hp, rfl, _, _, rfl, _, _, rfl, rfl, rfl, rfl⟩ ?_ (by walk_at "sm")
  rintro σ _ ⟨rfl, rfl⟩
  refine ⟨xs.length, .inr ⟨xs, hp1, rfl⟩, ?_⟩
  refine ⟨a, ns, TP, ?_, fun c H1 c0 c1 T1 f1 => ?_⟩
  . exact okDiv_of (by omega) (Int.le_trans (show _ <= (64 : Int) by omega) (by decide))
  dsimp only [gName]
  refine ⟨a, ns, T1, ⟨by decide, by decide⟩, fun y H2 y0 y1 T2 f2 => ?_⟩
  dsimp only [gName]
  have fr2 : Frm t H H2 := (frm_all f1).trans (frm_all f2)
  have sA : Same (cutH t t H) (cutH t t H2) := cutH_frm fr2
  replace hpC := sA.sqT hpC
  replace hp1C := sA.sqT hp1C
  replace hp := cutH_le.sqT hpC
  replace hp1 := cutH_le.sqT hp1C
  replace hx := Reps.same sA _ _ hx
  replace rv := Rep.same sA _ _ rv
  clear sA f1 f2 T1
  have ht : ∀ {H' : Hp}, Tape K H' t a ns -> ∃ zs, H' t = some (.lst zs) := fun T => by obtain ⟨_, _, _, _, _, h⟩ := T.at_; exact ⟨_, h⟩
  have fin2 : ∀ (H' : Hp) (v0 v1 : V) (d0 d1 : Dv), Tape K H' t a ns -> Frm t H2 H' -> Rep K (cutH t t H') d0 v0 -> Rep K (cutH t t H') d1 v1 -> ∀ r, H' r = none -> Q (.ref r) (upd H' r (.tup [v0, v1])) := fun H' v0 v1 d0 d1 T' fr' r0 r1 r nr => by
    have nrt := T'.neT nr
    have s' := Same.upd (o := .tup [v0, v1]) nr
    exact q _ (.tup [d0, d1]) _ (T'.same s') (fr2.trans (fr'.trans s'.frm)) (rep_tup1 (cutH_at upd_same ⟨nrt, nrt⟩) (reps_cons (up r0 s') (reps_cons (up r1 s') reps_nil)))
  have s2 : (2 : Nat) <= sizeLine := small_le (by decide)
  have rt2 : Rep K (cutH t t H2) (.tup (ps.map prD)) (.ref p1) := rep_tupS hp1C hx
  refine ite2 (fun e => ?_) (fun e => ?_)
  . refine ⟨_, .inr hp1, fun l nl => ⟨s2, fin2 _ _ _ (.int m) (.lst (ps.map prD)) (T2.same (Same.upd nl)) (Same.upd nl).frm rep_int' ?_⟩⟩
    have nlt := T2.neT nl
    exact rep_lst1 (cutH_at upd_same ⟨nlt, nlt⟩) (Reps.same (cutH_frm (Same.upd nl).frm) _ _ hx)
  refine ite2 (fun e => ?_) (fun e => ?_)
  . refine ⟨s2, fun l nl => ?_⟩
    have nlt := T2.neT nl
    have s' := Same.upd (o := .lst [.int m, .ref p1]) nl
    exact q _ (.lst [.int m, .tup (ps.map prD)]) _ (T2.same s') (fr2.trans s'.frm) (rep_lst1 (cutH_at upd_same ⟨nlt, nlt⟩) (reps_cons rep_int' (reps_cons (up rt2 s') reps_nil)))
  refine ite2 (fun e => ?_) (fun e => ?_)
  . refine ⟨small_le (show 7 <= 1000 by decide), fun l nl => ?_⟩
    have nlt := T2.neT nl
    have s' := Same.upd (o := .lst [.int 0, .int 7, .bl true, .int ((m : Int) - 1), .int ((m : Int) + 1), .str (Str.ofString "1"), .non]) nl
    refine ⟨a, ns, T2.same s', ⟨by decide, by decide⟩, fun c2 H4 k0 k7 T4 f4 => ?_⟩
    obtain ⟨z, hz, hm⟩ := atI_mem (xs := [.int 0, .int 7, .bl true, .int ((m : Int) - 1), .int ((m : Int) + 1), .str (Str.ofString "1"), .non]) k0 k7
    obtain ⟨dz, hdz⟩ := flat_mem (K := K) rfl hm
    exact ⟨_, _, .inl (.of (by rw [f4 l nlt]; exact upd_same)), hz, s2, fin2 _ _ _ dz (.tup (ps.map prD)) T4 (s'.frm.trans (frm_all f4)) (hdz _) (up_draw (up rt2 s') f4)⟩
  refine ite2 (fun e => ?_) (fun e => ?_)
  . refine ⟨c, rfl, _, hp1, fun r1 H3 s3 h3 => ⟨c, rfl, _, s3.sqT hp1, fun r2 H4 s4 h4 => .inr ⟨_, _, s4.sqT h3, h4, ?_, fun r3 H5 s5 h5 => ⟨s2, fin2 _ _ _ (.int m) (.tup (cutD (ps.map prD) (some c) none ++ cutD (ps.map prD) none (some c))) (((T2.same s3).same s4).same s5) (st s3 (st s4 s5)).frm rep_int' (rep_tupS (sqT_cut (ht (((T2.same s3).same s4).same s5)) (ht (((T2.same s3).same s4).same s5)) h5) ?_)⟩⟩⟩⟩
    . have l1 := cutV_len xs (some c) none
      have l2 := cutV_len xs none (some c)
      exact small_le (by omega)
    . have hx5 := Reps.same (cutH_frm (st s3 (st s4 s5)).frm) _ _ hx
      exact (reps_cut (some c) none hx5).append (reps_cut none (some c) hx5)
  refine ite2 (fun e => ?_) (fun e => ?_)
  . refine ⟨c, rfl, _, hp1, fun r1 H3 s3 h3 => .inr ⟨_, _, s3.sqT hp1, h3, ?_, fun r3 H5 s5 h5 => ⟨s2, fin2 _ _ _ (.int m) (.tup (ps.map prD ++ cutD (ps.map prD) (some c) none)) ((T2.same s3).same s5) (st s3 s5).frm rep_int' (rep_tupS (sqT_cut (ht ((T2.same s3).same s5)) (ht ((T2.same s3).same s5)) h5) ?_)⟩⟩⟩
    . have l1 := cutV_len xs (some c) none
      exact small_le (by omega)
    . have hx5 := Reps.same (cutH_frm (st s3 s5).frm) _ _ hx
      exact hx5.append (reps_cut (some c) none hx5)
  refine ite2 (fun e => ?_) (fun e => ?_)
  . refine ⟨small_le (show 1 <= 1000 by decide), fun r1 n1 => .inr ⟨[.int m, .ref p1], _, (Same.upd n1).sqT hp, .of upd_same, small_le (show 3 <= 1000 by decide), fun r3 H5 s5 h5 => ?_⟩⟩
    have s' := st (Same.upd (o := .tup [.int 1]) n1) s5
    have T5 := T2.same s'
    exact q _ (.tup [.int m, .tup (ps.map prD), .int 1]) _ T5 (fr2.trans s'.frm) (rep_tupS (sqT_cut (ht T5) (ht T5) h5) (reps_cons rep_int' (reps_cons (up rt2 s') (reps_cons rep_int' reps_nil))))
  have hm2 : (2 : Int) ^ (m : Int).toNat = ((2 ^ m : Nat) : Int) := by rw [Int.toNat_natCast, Int.natCast_pow]; rfl
  have h64 : 2 ^ m <= 64 := Nat.pow_le_pow_right (n := 2) (by decide) m6
  have hpos := Nat.two_pow_pos m
  refine ⟨Nat.zero_le _, fun r0 n0 => ⟨.tup (ps.map prD), .tup [], ?_, ?_, dep_prs ps, ?_⟩⟩
  . exact Rep.same cutH_le _ _ (up rt2 (Same.upd n0))
  . exact rep_tup1 upd_same reps_nil
  have s0 := Same.upd (o := .tup []) n0
  have T3 := T2.same s0
  have hp3 := s0.sqT hp1
  have rt3 := up rt2 s0
  have hx3 := Reps.same (cutH_frm s0.frm) _ _ hx
  have hp3C := (cutH_frm s0.frm).sqT hp1C
  generalize upd H2 r0 (.tup []) = H3 at *
  have f3 : Frm t H2 H3 := s0.frm
  refine ite2 (fun e => ?_) (fun e => ?_)
  . refine ⟨by omega, by omega, fun H5 s5 => ⟨a, ns, T3.same s5, ?_, fun k H6 k0 k1 T6 f6 => ⟨s2, fun r1 n1 => ⟨small_le (show 1 <= 1000 by decide), fun r2 n2 => ⟨s2, ?_⟩⟩⟩⟩⟩
    . rw [hm2]
      exact okDiv_of (by omega) (Int.le_trans (Int.ofNat_le.mpr h64) (by decide))
    have u1 := Same.upd (o := .tup [.int k, .int 5]) n1
    have u2 := Same.upd (o := .tup [.ref r1]) n2
    have T7 := T6.same u1
    have T8 := T7.same u2
    have m1' := T6.neT n1
    have m2' := T7.neT n2
    refine fin2 _ _ _ (.int m) (.tup [.tup [.int k, .int 5]]) T8 (f3.trans (s5.frm.trans ((frm_all f6).trans (st u1 u2).frm))) rep_int' ?_
    exact rep_tup1 (cutH_at upd_same ⟨m2', m2'⟩) (reps_cons (rep_tup1 (cutH_at (u2 _ _ upd_same) ⟨m1', m1'⟩) (reps_cons rep_int' (reps_cons rep_int' reps_nil))) reps_nil)
  have hne : 0 < ps.length := by
    cases ps with
    | nil => exact absurd (by rfl) e
    | cons _ _ => exact Nat.succ_pos _
  obtain ⟨i, rfl⟩ := Int.eq_ofNat_of_zero_le c0
  have hi : i < xs.length := by omega
  obtain ⟨dq, hdq, rq⟩ := reps_get hx3 (List.getElem?_eq_getElem hi)
  rw [List.getElem?_map] at hdq
  obtain ⟨q0, hq0, rfl⟩ := Option.map_eq_some_iff.mp hdq
  refine ⟨i, rfl, _, hp3, fun r1 H4 s4 h4 => ?_⟩
  have T4 := T3.same s4
  refine ⟨_, _, .inr (s4.sqT hp3), atI_of rfl (List.getElem?_eq_getElem hi), ?_⟩
  refine ⟨a, ns, m, q0.1, q0.2, T4, rfl, m1, m6, up rq s4, fun v' d H5 T5 fr5 r5 => ⟨small_le (show 1 <= 1000 by decide), fun r2 n2 => ?_⟩⟩
  have h4C := sqT_cut (ht T4) (ht T4) h4
  have h5C := (cutH_frm fr5).sqT h4C
  have hp5C := (cutH_frm fr5).sqT ((cutH_frm s4.frm).sqT hp3C)
  have hx5 := Reps.same (cutH_frm fr5) _ _ (Reps.same (cutH_frm s4.frm) _ _ hx3)
  have u6 := Same.upd (o := .tup [v']) n2
  have T6 := T5.same u6
  refine .inr ⟨_, _, u6.sqT (cutH_le.sqT h5C), .of upd_same, ?_, fun r3 H7 s7 h7 => ?_⟩
  . have l1 := cutV_len xs none (some (i : Int))
    exact small_le (by show _ + 1 <= 1000; omega)
  have T7 := T6.same s7
  refine ⟨(i : Int) + 1, rfl, _, s7.sqT (u6.sqT (cutH_le.sqT hp5C)), fun r4 H8 s8 h8 => .inr ⟨_, _, s8.sqT h7, h8, ?_, fun r9 H9 s9 h9 => ⟨s2, ?_⟩⟩⟩
  . have l1 := cutV_len xs none (some (i : Int))
    have l2 := cutV_len xs (some ((i : Int) + 1)) none
    rw [List.length_append]
    exact small_le (by show _ + 1 + _ <= 1000; omega)
  have T9 := (T7.same s8).same s9
  have sAll := st u6 (st s7 (st s8 s9))
  have hx9 := Reps.same (cutH_frm sAll.frm) _ _ hx5
  refine fin2 _ _ _ (.int m) (.tup ((cutD (ps.map prD) none (some (i : Int)) ++ [d]) ++ cutD (ps.map prD) (some ((i : Int) + 1)) none)) T9 (f3.trans (s4.frm.trans (fr5.trans sAll.frm))) rep_int' ?_
  exact rep_tupS (sqT_cut (ht T9) (ht T9) h9) (((reps_cut none (some (i : Int)) hx9).append (reps_cons (up r5 sAll) reps_nil)).append (reps_cut (some ((i : Int) + 1)) none hx9))
theorem sum_whole (m : Nat) (ts : List (Nat × Int)) : sumD m ts = wholeD m (ts.map fun q => ((q.1 : Int), q.2)) := by
  unfold sumD wholeD
  rw [List.map_map]
  rfl
theorem OddV.same {t : Addr} {H H' : Hp} {v : V} (h : OddV K t H v) (s : Same H H') : OddV K t H' v := by
  rcases h with ⟨d, r⟩ | ⟨a, e, h⟩
  . exact .inl ⟨d, up r s⟩
  . exact .inr ⟨a, e, s _ _ h⟩
theorem ok_law : FnOk P w K mg base CX0 8 T.f_law T.d_law ["_law_script"] (spLaw K) := by
  have G__law_tape := ok__law_tape (P := P) (w := w) (base := base) T; have G_is_sum := ok_is_sum (P := P) (w := w) (base := base) T; have G__law_next := ok__law_next (P := P) (w := w) (base := base) T; have G__law_sum := ok__law_sum (P := P) (w := w) (base := base) T; have G__law_wild := ok__law_wild (P := P) (w := w) (base := base) T; have G__law_table := ok__law_table (P := P) (w := w) (base := base) T; have G__law_bent := ok__law_bent (P := P) (w := w) (base := base) T; have G__law_odd := ok__law_odd (P := P) (w := w) (base := base) T; have G__law_is_sum := ok__law_is_sum (P := P) (w := w) (base := base) T
  refine T.F_law.ok sc_law (fun vs H Q E h => by obtain ⟨a, ns, rfl, _⟩ := h; rfl) (fun cdv A outer s H vs Q E hr h => ?_)
  have hu := hu60 hr
  have mo1 : SpMono (sp_table K) := sp_table_mono
  have mo2 : SpMono (sp_sum K) := sp_sum_mono
  have mo3 : SpMono (sp_wild K) := sp_wild_mono
  have mo4 : SpMono (sp_bent K) := sp_bent_mono
  have mo5 : SpMono (sp_odd K) := sp_odd_mono
  have mo6 : SpMono (sp_dS K isSumB) := sp_dS_mono
  have hr__law_tape := hr.mono (show 1 <= _ by decide); have hr_is_sum := hr.mono (show 7 <= _ by decide); have hr__law_next := hr.mono (show 1 <= _ by decide); have hr__law_sum := hr.mono (show 4 <= _ by decide); have hr__law_wild := hr.mono (show 2 <= _ by decide); have hr__law_table := hr.mono (show 4 <= _ by decide); have hr__law_bent := hr.mono (show 3 <= _ by decide); have hr__law_odd := hr.mono (show 2 <= _ by decide); have hr__law_is_sum := hr.mono (show 2 <= _ by decide)
  obtain ⟨a, ns, rfl, hsq, hlen, q⟩ := h
  refine ⟨_, (@pss_cons _ _ _ _ _ (@ps_set _ _ 1 _ _ _ _ sc_law.nd rfl (by walk_at "e") (@pe_call _ _ _ _ _ _ _ _ _ _ _ _ _ _ _ _ G__law_tape hr__law_tape rfl T.m__law_tape T.F__law_tape.kp T.b__law_tape .nil pass0 (@pa1 _ _ _ (@vw _ 0 _ _ (by walk_at "v")) (by rfl)) (by decide) (by rfl) (by rfl)) (by rfl) (by walk_at "i")) (@pss_cons _ _ _ _ _ (@ps_for _ _ _ _ _ _ _ _ PassesOwn.never rfl (@pi_range1 _ _ _ _ _ _ rfl T.z_range (@pa1 _ _ _ (@pe_int _ _ _ _) (by rfl)) (by rfl)) (@pg_name _ _ 2 _ sc_law.nd rfl (by walk_at "e") (by walk_at "i")) (@pss_cons _ _ _ _ _ (@ps_set _ _ 3 _ _ _ _ sc_law.nd rfl (by walk_at "e") (@pe_op _ _ _ _ _ _ _ _ (kAdd (K := K)) (@pe_int _ _ _ _) (@pe_call _ _ _ _ _ _ _ _ _ _ _ _ _ _ _ _ G__law_next hr__law_next rfl T.m__law_next T.F__law_next.kp T.b__law_next .nil pass0 (@pa_cons _ _ _ _ _ (@vw _ 1 _ _ (by walk_at "v")) (@pa1 _ _ _ (@pe_int _ _ _ _) (by rfl)) (by rfl)) (by decide) (by rfl) (by rfl))) (by rfl) (by walk_at "i")) (@pss_one _ _ _ (@ps_for _ _ _ _ _ _ _ _ PassesOwn.never rfl (@kSeq _ K _ _ _ (@pe_lst _ _ _ _ (@pa_cons _ _ _ _ _ (@pe_call _ _ _ _ _ _ _ _ _ _ _ _ _ _ _ _ G__law_sum hr__law_sum rfl T.m__law_sum T.F__law_sum.kp T.b__law_sum .nil pass0 (@pa1 _ _ _ (@pe_call _ _ _ _ _ _ _ _ _ _ _ _ _ _ _ _ G__law_table hr__law_table rfl T.m__law_table T.F__law_table.kp T.b__law_table .nil pass0 (@pa_cons _ _ _ _ _ (@vw _ 1 _ _ (by walk_at "v")) (@pa1 _ _ _ (@vw _ 3 _ _ (by walk_at "v")) (by rfl)) (by rfl)) (by decide) (by rfl) (by rfl)) (by rfl)) (by decide) (by rfl) (by rfl)) (@pa1 _ _ _ (@pe_call _ _ _ _ _ _ _ _ _ _ _ _ _ _ _ _ G__law_wild hr__law_wild rfl T.m__law_wild T.F__law_wild.kp T.b__law_wild .nil pass0 (@pa_cons _ _ _ _ _ (@vw _ 1 _ _ (by walk_at "v")) (@pa1 _ _ _ (@vw _ 3 _ _ (by walk_at "v")) (by rfl)) (by rfl)) (by decide) (by rfl) (by rfl)) (by rfl)) (by rfl))) (by rfl)) (@pg_name _ _ 4 _ sc_law.nd rfl (by walk_at "e") (by walk_at "i")) (@pss_one _ _ _ (@ps_for _ _ _ _ _ _ _ _ PassesOwn.never rfl (@kSeq _ K _ _ _ (@pe_lst _ _ _ _ (@pa_cons _ _ _ _ _ (@vw _ 4 _ _ (by walk_at "v")) (@pa_cons _ _ _ _ _ (@pe_call _ _ _ _ _ _ _ _ _ _ _ _ _ _ _ _ G__law_bent hr__law_bent rfl T.m__law_bent T.F__law_bent.kp T.b__law_bent .nil pass0 (@pa_cons _ _ _ _ _ (@vw _ 1 _ _ (by walk_at "v")) (@pa1 _ _ _ (@vw _ 4 _ _ (by walk_at "v")) (by rfl)) (by rfl)) (by decide) (by rfl) (by rfl)) (@pa_cons _ _ _ _ _ (@pe_call _ _ _ _ _ _ _ _ _ _ _ _ _ _ _ _ G__law_bent hr__law_bent rfl T.m__law_bent T.F__law_bent.kp T.b__law_bent .nil pass0 (@pa_cons _ _ _ _ _ (@vw _ 1 _ _ (by walk_at "v")) (@pa1 _ _ _ (@vw _ 4 _ _ (by walk_at "v")) (by rfl)) (by rfl)) (by decide) (by rfl) (by rfl)) (@pa1 _ _ _ (@pe_call _ _ _ _ _ _ _ _ _ _ _ _ _ _ _ _ G__law_odd hr__law_odd rfl T.m__law_odd T.F__law_odd.kp T.b__law_odd .nil pass0 (@pa1 _ _ _ (@vw _ 1 _ _ (by walk_at "v")) (by rfl)) (by decide) (by rfl) (by rfl)) (by rfl)) (by rfl)) (by rfl)) (by rfl))) (by rfl)) (@pg_name _ _ 5 _ sc_law.nd rfl (by walk_at "e") (by walk_at "i")) (@pss_cons _ _ _ _ _ (@ps_set _ _ 6 _ _ _ _ sc_law.nd rfl (by walk_at "e") (@pe_call _ _ _ _ _ _ _ _ _ _ _ _ _ _ _ _ G_is_sum hr_is_sum rfl T.m_is_sum T.F_is_sum.kp T.b_is_sum .nil pass0 (@pa1 _ _ _ (@vw _ 5 _ _ (by walk_at "v")) (by rfl)) (by decide) (by rfl) (by rfl)) (by rfl) (by walk_at "i")) (@pss_one _ _ _ (@ps_if _ _ _ _ _ _ _ _ (PW.pt (@pw_or _ _ _ _ _ _ _ (@pt_not _ _ _ _ (@tu_val _ _ _ (@pe_callB _ _ _ _ _ _ _ _ _ (kIsi (K := K)) rfl T.z_isinstance (by rfl) (@pa_cons _ _ _ _ _ (@vw _ 6 _ _ (by walk_at "v")) (@pa1 _ _ _ (@pe_bltn _ _ (.ty "bool") _ _ rfl T.z_bool (by rfl) rfl (by decide) (by decide)) (by rfl)) (by rfl)) (by decide) (by decide) (by rfl) (by rfl)) (by intro _; rfl))) (@pw_or1 _ _ _ _ (@tu_cmp _ _ _ _ _ _ _ _ (kNe (K := K) hu) (@vw _ 6 _ _ (by walk_at "v")) (@pe_call _ _ _ _ _ _ _ _ _ _ _ _ _ _ _ _ G__law_is_sum hr__law_is_sum rfl T.m__law_is_sum T.F__law_is_sum.kp T.b__law_is_sum .nil pass0 (@pa1 _ _ _ (@vw _ 5 _ _ (by walk_at "v")) (by rfl)) (by decide) (by rfl) (by rfl)) (by walk_at "n"))))) (@pss_one _ _ _ (@ps_ret _ _ _ _ (@pe_bl _ _ _ _))) (@pss_nil _)))) (by intro _; rfl))) (by intro _; rfl)))) (by intro _; rfl)) (@pss_one _ _ _ (@ps_ret _ _ _ _ (@pe_cmpM _ _ _ _ _ _ _ _ om_is (@pe_call _ _ _ _ _ _ _ _ _ _ _ _ _ _ _ _ G_is_sum hr_is_sum rfl T.m_is_sum T.F_is_sum.kp T.b_is_sum .nil pass0 (@pa1 _ _ _ (@pe_tup _ _ _ _ _ (@pa_cons _ _ _ _ _ (@pe_int _ _ _ _) (@pa1 _ _ _ (@pe_tup _ _ _ _ _ (@pa_nil _)) (by rfl)) (by rfl))) (by rfl)) (by decide) (by rfl) (by rfl)) (@pe_bl _ _ _ _) (by walk_at "n")))))), ?_⟩
  refine fun t ht => ?_
  refine ⟨8, rfl, by decide, by decide, ?_⟩
  refine for_range (fun i σ H' => ∃ z2 z3 z4 z5 z6 : Option V, σ = [some (.ref a), some (.ref t), z2, z3, z4, z5, z6] /\ Tape K H' t a ns) ⟨none, none, none, none, none, rfl, newTape ht hsq⟩ ?_ ?_
  . rintro i σ H1 hi ⟨z2, z3, z4, z5, z6, rfl, T1⟩
    refine ⟨a, ns, T1, ⟨by decide, by decide⟩, fun d H2 d0 d4 T2 f2 => ?_⟩
    obtain ⟨d, rfl⟩ := Int.eq_ofNat_of_zero_le d0
    dsimp only [tC, mAdd, gName]
    obtain ⟨m, em⟩ : ∃ m : Nat, m = 1 + d := ⟨_, rfl⟩
    rw [show (1 : Int) + (d : Int) = (m : Int) by omega]
    have m1 : 1 <= m := by omega
    have m6 : m <= 6 := by omega
    clear em d4 d0
    refine ⟨a, ns, m, T2, rfl, m1, m6, fun bs pt H3 hb hp3 g3 T3 f3 => ⟨m, bs, m1, m6, hb, .of g3, fun v H4 s4 r4 => ?_⟩⟩
    have T4 := T3.same s4
    have htt : ∀ {H' : Hp}, Tape K H' t a ns -> ∃ zs, H' t = some (.lst zs) := fun T => by obtain ⟨_, _, _, _, _, h⟩ := T.at_; exact ⟨_, h⟩
    rw [sum_whole] at r4
    have hl1 : (((termL m (2 ^ m) bs (2 ^ m))).map fun q => ((q.1 : Int), q.2)).length <= 64 := by
      rw [List.length_map]
      exact Nat.le_trans (termL_len _ _ _ _) (Nat.pow_le_pow_right (n := 2) (by decide) m6)
    generalize (((termL m (2 ^ m) bs (2 ^ m))).map fun q => ((q.1 : Int), q.2)) = ps1 at *
    have r4 := cutH_tup (htt T4) (tup_whole m ps1) r4
    refine ⟨a, ns, m, T4, rfl, m1, m6, fun ps2 v2 H5 hl2 T5 fr5 r5 => ⟨small_le (show 2 <= 1000 by decide), fun l nl => .inl ⟨⟨_, .inl (.of upd_same)⟩, ?_⟩⟩⟩
    have nlt := T5.neT nl
    have u6 := Same.upd (o := .lst [v, v2]) nl
    have g6 := upd_same (H := H5) (a := l) (o := .lst [v, v2])
    have T6 := T5.same u6
    have all6 : ∀ x ∈ [v, v2], ∃ ps : List (Int × Int), ps.length <= 64 /\ Rep K (cutH t t (upd H5 l (.lst [v, v2]))) (wholeD m ps) x := fun x hx => by
      simp only [List.mem_cons, List.not_mem_nil, or_false] at hx
      rcases hx with rfl | rfl
      . exact ⟨ps1, hl1, up (Rep.same (cutH_frm fr5) _ _ r4) u6⟩
      . exact ⟨ps2, by omega, up r5 u6⟩
    generalize upd H5 l (.lst [v, v2]) = H6 at *
    generalize [v, v2] = ws at *
    refine for_list (xs := ws) (fun j σ H' => (∃ y4 y5 y6 : Option V, σ = [some (.ref a), some (.ref t), some (.int (0 + (i : Int))), some (.int m), y4, y5, y6]) /\ Tape K H' t a ns /\ Frm t H6 H') ⟨⟨z4, z5, z6, rfl⟩, T6, fun b o _ e => e⟩ (fun j σ H' _ ⟨_, _, f⟩ => .inl (.of (f _ _ nlt g6))) ?_ ?_
    . rintro j x σ H' hx ⟨⟨y4, y5, y6, rfl⟩, T', f'⟩
      obtain ⟨ps, hpl, rx⟩ := all6 x (List.mem_of_getElem? hx)
      have rx := Rep.same (cutH_frm f') _ _ rx
      refine ⟨a, ns, m, ps, T', m1, m6, hpl, rx, fun v7 d7 H7 T7 fr7 r7 => ?_⟩
      have rx7 := Rep.same (cutH_frm fr7) _ _ rx
      refine ⟨a, ns, m, ps, T7, m1, m6, hpl, rx7, fun v8 d8 H8 T8 fr8 r8 => ⟨a, ns, T8, fun v9 H9 T9 fr9 o9 => ⟨small_le (show 4 <= 1000 by decide), fun l2 n2 => .inl ⟨⟨_, .inl (.of upd_same)⟩, ?_⟩⟩⟩⟩
      have u10 := Same.upd (o := .lst [x, v7, v8, v9]) n2
      have g10 := upd_same (H := H9) (a := l2) (o := .lst [x, v7, v8, v9])
      have T10 := T9.same u10
      have f10 := f'.trans (fr7.trans (fr8.trans (fr9.trans u10.frm)))
      have all10 : ∀ z ∈ [x, v7, v8, v9], OddV K t (upd H9 l2 (.lst [x, v7, v8, v9])) z := fun z hz => by
        simp only [List.mem_cons, List.not_mem_nil, or_false] at hz
        rcases hz with rfl | rfl | rfl | rfl
        . exact .inl ⟨_, up (Rep.same (cutH_frm fr9) _ _ (Rep.same (cutH_frm fr8) _ _ rx7)) u10⟩
        . exact .inl ⟨_, up (Rep.same (cutH_frm fr9) _ _ (Rep.same (cutH_frm fr8) _ _ r7)) u10⟩
        . exact .inl ⟨_, up (Rep.same (cutH_frm fr9) _ _ r8) u10⟩
        . exact o9.same u10
      generalize upd H9 l2 (.lst [x, v7, v8, v9]) = HA at *
      generalize [x, v7, v8, v9] = zs at *
      refine for_list (xs := zs) (fun j' σ H' => (∃ y5 y6 : Option V, σ = [some (.ref a), some (.ref t), some (.int (0 + (i : Int))), some (.int m), some x, y5, y6]) /\ Same HA H') ⟨⟨y5, y6, rfl⟩, Same.refl _⟩ (fun j' σ H' _ ⟨_, e⟩ => .inl (.of (e _ _ g10))) ?_ ?_
      . rintro j' z σ HB hz ⟨⟨y5', y6', rfl⟩, sB⟩
        rcases (all10 z (List.mem_of_getElem? hz)).same sB with ⟨dz, rz⟩ | ⟨da, rfl, hd⟩
        . have rz := Rep.same cutH_le _ _ rz
          refine .inl ⟨dz, rz, fun HC sC => ?_⟩
          refine ⟨by decide, true, rfl, ?_⟩
          refine .inl ⟨dz, Rep.same sC _ _ rz, fun HD sD => ?_⟩
          have e0 : (true ^^ (isSumB dz == isSumB dz)) = false := by simp
          refine ite2 (fun e => absurd (e0 ▸ e) (by decide)) (fun e => ⟨⟨_, _, rfl⟩, sB.trans (sC.trans sD)⟩)
        . refine .inr ⟨da, [], rfl, hd, fun HC sC => ?_⟩
          refine ⟨by decide, true, rfl, ?_⟩
          exact .inr ⟨da, [], rfl, sC _ _ hd, fun HD sD => ⟨⟨_, _, rfl⟩, sB.trans (sC.trans sD)⟩⟩
      . rintro σ HB ⟨⟨y5', y6', rfl⟩, sB⟩
        exact ⟨⟨_, _, _, rfl⟩, T10.same sB, f10.trans sB.frm⟩
    . rintro σ H' ⟨⟨y4, y5, y6, rfl⟩, T', f'⟩
      exact ⟨_, _, _, _, _, rfl, T'⟩
  . rintro σ H1 ⟨z2, z3, z4, z5, z6, rfl, T1⟩
    refine ⟨Nat.zero_le _, fun p1 n1 => ⟨small_le (show 2 <= 1000 by decide), fun p2 n2 => ?_⟩⟩
    refine .inl ⟨.tup [.int 1, .tup []], ?_, fun H' s' => ?_⟩
    . exact rep_tup1 upd_same (reps_cons rep_int' (reps_cons (rep_tup1 (Same.upd n2 _ _ upd_same) reps_nil) reps_nil))
    . exact q _
end
theorem all_mk {l : W.OpenLaw} {w : World} {K : W.Frag} {h : Heap} {mg : Str -> Option Value} {fa : Addr} (X : K.In h) (G : h.Ns mainGlobals mg) (hfa : mg "law" = some (.ref fa))
    {f0 f1 f2 f3 f4 f5 f6 f7 f8 f9 f10 f11 f12 f13 f14 f15 f16 f17 f18 f19 f20 f21 f22 f23 : Addr} {oc0 kV0 dc0 pm0 cd0 ct0 oc1 kV1 dc1 pm1 cd1 ct1 oc2 kV2 dc2 pm2 cd2 ct2 oc3 kV3 dc3 pm3 cd3 ct3 oc4 kV4 dc4 pm4 cd4 ct4 oc5 kV5 dc5 pm5 cd5 ct5 oc6 kV6 dc6 pm6 cd6 ct6 oc7 kV7 dc7 pm7 cd7 ct7 oc8 kV8 dc8 pm8 cd8 ct8 oc9 kV9 dc9 pm9 cd9 ct9 oc10 kV10 dc10 pm10 cd10 ct10 oc11 kV11 dc11 pm11 cd11 ct11 oc12 kV12 dc12 pm12 cd12 ct12 oc13 kV13 dc13 pm13 cd13 ct13 oc14 kV14 dc14 pm14 cd14 ct14 oc15 kV15 dc15 pm15 cd15 ct15 oc16 kV16 dc16 pm16 cd16 ct16 oc17 kV17 dc17 pm17 cd17 ct17 oc18 kV18 dc18 pm18 cd18 ct18 oc19 kV19 dc19 pm19 cd19 ct19 oc20 kV20 dc20 pm20 cd20 ct20 oc21 kV21 dc21 pm21 cd21 ct21 oc22 kV22 dc22 pm22 cd22 ct22 oc23 kV23 dc23 pm23 cd23 ct23 : Value} {od0 an0 od1 an1 od2 an2 od3 an3 od4 an4 od5 an5 od6 an6 od7 an7 od8 an8 od9 an9 od10 an10 od11 an11 od12 an12 od13 an13 od14 an14 od15 an15 od16 an16 od17 an17 od18 an18 od19 an19 od20 an20 od21 an21 od22 an22 od23 an23 : Option Addr} {sl0 sl1 sl2 sl3 sl4 sl5 sl6 sl7 sl8 sl9 sl10 sl11 sl12 sl13 sl14 sl15 sl16 sl17 sl18 sl19 sl20 sl21 sl22 sl23 : Array (Option Value)}
    {t_MOST_SWITCHES : Tok}
    {t_HEAVIEST : Tok}
    (a0 : W.nsIn K mainGlobals "is_whole" = some (some (.ref f0)))
    (l0 : K.lookup f0 = some ⟨oc0, od0, .func (W.fnOf "is_whole" "is_whole" (defArgs s_is_whole) (defBody s_is_whole) (defScope s_is_whole) .none kV0 dc0 pm0 an0 cd0 ct0), sl0⟩)
    (c0 : W.codeIn K cd0 "is_whole" = true)
    (k0 : W.keepIn K (.ref f0) = true)
    (a1 : W.nsIn K mainGlobals "is_below" = some (some (.ref f1)))
    (l1 : K.lookup f1 = some ⟨oc1, od1, .func (W.fnOf "is_below" "is_below" (defArgs s_is_below) (defBody s_is_below) (defScope s_is_below) .none kV1 dc1 pm1 an1 cd1 ct1), sl1⟩)
    (c1 : W.codeIn K cd1 "is_below" = true)
    (k1 : W.keepIn K (.ref f1) = true)
    (a2 : W.nsIn K mainGlobals "two_to" = some (some (.ref f2)))
    (l2 : K.lookup f2 = some ⟨oc2, od2, .func (W.fnOf "two_to" "two_to" (defArgs s_two_to) (defBody s_two_to) (defScope s_two_to) .none kV2 dc2 pm2 an2 cd2 ct2), sl2⟩)
    (c2 : W.codeIn K cd2 "two_to" = true)
    (k2 : W.keepIn K (.ref f2) = true)
    (a3 : W.nsIn K mainGlobals "power_of" = some (some (.ref f3)))
    (l3 : K.lookup f3 = some ⟨oc3, od3, .func (W.fnOf "power_of" "power_of" (defArgs s_power_of) (defBody s_power_of) (defScope s_power_of) .none kV3 dc3 pm3 an3 cd3 ct3), sl3⟩)
    (c3 : W.codeIn K cd3 "power_of" = true)
    (k3 : W.keepIn K (.ref f3) = true)
    (a4 : W.nsIn K mainGlobals "is_place" = some (some (.ref f4)))
    (l4 : K.lookup f4 = some ⟨oc4, od4, .func (W.fnOf "is_place" "is_place" (defArgs s_is_place) (defBody s_is_place) (defScope s_is_place) .none kV4 dc4 pm4 an4 cd4 ct4), sl4⟩)
    (c4 : W.codeIn K cd4 "is_place" = true)
    (k4 : W.keepIn K (.ref f4) = true)
    (a5 : W.nsIn K mainGlobals "is_sum" = some (some (.ref f5)))
    (l5 : K.lookup f5 = some ⟨oc5, od5, .func (W.fnOf "is_sum" "is_sum" (defArgs s_is_sum) (defBody s_is_sum) (defScope s_is_sum) .none kV5 dc5 pm5 an5 cd5 ct5), sl5⟩)
    (c5 : W.codeIn K cd5 "is_sum" = true)
    (k5 : W.keepIn K (.ref f5) = true)
    (a6 : W.nsIn K mainGlobals "has_terms" = some (some (.ref f6)))
    (l6 : K.lookup f6 = some ⟨oc6, od6, .func (W.fnOf "has_terms" "has_terms" (defArgs s_has_terms) (defBody s_has_terms) (defScope s_has_terms) .none kV6 dc6 pm6 an6 cd6 ct6), sl6⟩)
    (c6 : W.codeIn K cd6 "has_terms" = true)
    (k6 : W.keepIn K (.ref f6) = true)
    (a7 : W.nsIn K mainGlobals "is_pair" = some (some (.ref f7)))
    (l7 : K.lookup f7 = some ⟨oc7, od7, .func (W.fnOf "is_pair" "is_pair" (defArgs s_is_pair) (defBody s_is_pair) (defScope s_is_pair) .none kV7 dc7 pm7 an7 cd7 ct7), sl7⟩)
    (c7 : W.codeIn K cd7 "is_pair" = true)
    (k7 : W.keepIn K (.ref f7) = true)
    (a8 : W.nsIn K mainGlobals "are_terms" = some (some (.ref f8)))
    (l8 : K.lookup f8 = some ⟨oc8, od8, .func (W.fnOf "are_terms" "are_terms" (defArgs s_are_terms) (defBody s_are_terms) (defScope s_are_terms) .none kV8 dc8 pm8 an8 cd8 ct8), sl8⟩)
    (c8 : W.codeIn K cd8 "are_terms" = true)
    (k8 : W.keepIn K (.ref f8) = true)
    (a9 : W.nsIn K mainGlobals "is_term" = some (some (.ref f9)))
    (l9 : K.lookup f9 = some ⟨oc9, od9, .func (W.fnOf "is_term" "is_term" (defArgs s_is_term) (defBody s_is_term) (defScope s_is_term) .none kV9 dc9 pm9 an9 cd9 ct9), sl9⟩)
    (c9 : W.codeIn K cd9 "is_term" = true)
    (k9 : W.keepIn K (.ref f9) = true)
    (a10 : W.nsIn K mainGlobals "_law_tape" = some (some (.ref f10)))
    (l10 : K.lookup f10 = some ⟨oc10, od10, .func (W.fnOf "_law_tape" "_law_tape" (defArgs s__law_tape) (defBody s__law_tape) (defScope s__law_tape) .none kV10 dc10 pm10 an10 cd10 ct10), sl10⟩)
    (c10 : W.codeIn K cd10 "_law_tape" = true)
    (k10 : W.keepIn K (.ref f10) = true)
    (a11 : W.nsIn K mainGlobals "_law_next" = some (some (.ref f11)))
    (l11 : K.lookup f11 = some ⟨oc11, od11, .func (W.fnOf "_law_next" "_law_next" (defArgs s__law_next) (defBody s__law_next) (defScope s__law_next) .none kV11 dc11 pm11 an11 cd11 ct11), sl11⟩)
    (c11 : W.codeIn K cd11 "_law_next" = true)
    (k11 : W.keepIn K (.ref f11) = true)
    (a12 : W.nsIn K mainGlobals "_law_two" = some (some (.ref f12)))
    (l12 : K.lookup f12 = some ⟨oc12, od12, .func (W.fnOf "_law_two" "_law_two" (defArgs s__law_two) (defBody s__law_two) (defScope s__law_two) .none kV12 dc12 pm12 an12 cd12 ct12), sl12⟩)
    (c12 : W.codeIn K cd12 "_law_two" = true)
    (k12 : W.keepIn K (.ref f12) = true)
    (a13 : W.nsIn K mainGlobals "_law_bits" = some (some (.ref f13)))
    (l13 : K.lookup f13 = some ⟨oc13, od13, .func (W.fnOf "_law_bits" "_law_bits" (defArgs s__law_bits) (defBody s__law_bits) (defScope s__law_bits) .none kV13 dc13 pm13 an13 cd13 ct13), sl13⟩)
    (c13 : W.codeIn K cd13 "_law_bits" = true)
    (k13 : W.keepIn K (.ref f13) = true)
    (a14 : W.nsIn K mainGlobals "_law_sign" = some (some (.ref f14)))
    (l14 : K.lookup f14 = some ⟨oc14, od14, .func (W.fnOf "_law_sign" "_law_sign" (defArgs s__law_sign) (defBody s__law_sign) (defScope s__law_sign) .none kV14 dc14 pm14 an14 cd14 ct14), sl14⟩)
    (c14 : W.codeIn K cd14 "_law_sign" = true)
    (k14 : W.keepIn K (.ref f14) = true)
    (a15 : W.nsIn K mainGlobals "_law_odd" = some (some (.ref f15)))
    (l15 : K.lookup f15 = some ⟨oc15, od15, .func (W.fnOf "_law_odd" "_law_odd" (defArgs s__law_odd) (defBody s__law_odd) (defScope s__law_odd) .none kV15 dc15 pm15 an15 cd15 ct15), sl15⟩)
    (c15 : W.codeIn K cd15 "_law_odd" = true)
    (k15 : W.keepIn K (.ref f15) = true)
    (a16 : W.nsIn K mainGlobals "_law_table" = some (some (.ref f16)))
    (l16 : K.lookup f16 = some ⟨oc16, od16, .func (W.fnOf "_law_table" "_law_table" (defArgs s__law_table) (defBody s__law_table) (defScope s__law_table) .none kV16 dc16 pm16 an16 cd16 ct16), sl16⟩)
    (c16 : W.codeIn K cd16 "_law_table" = true)
    (k16 : W.keepIn K (.ref f16) = true)
    (a17 : W.nsIn K mainGlobals "_law_sum" = some (some (.ref f17)))
    (l17 : K.lookup f17 = some ⟨oc17, od17, .func (W.fnOf "_law_sum" "_law_sum" (defArgs s__law_sum) (defBody s__law_sum) (defScope s__law_sum) .none kV17 dc17 pm17 an17 cd17 ct17), sl17⟩)
    (c17 : W.codeIn K cd17 "_law_sum" = true)
    (k17 : W.keepIn K (.ref f17) = true)
    (a18 : W.nsIn K mainGlobals "_law_wild" = some (some (.ref f18)))
    (l18 : K.lookup f18 = some ⟨oc18, od18, .func (W.fnOf "_law_wild" "_law_wild" (defArgs s__law_wild) (defBody s__law_wild) (defScope s__law_wild) .none kV18 dc18 pm18 an18 cd18 ct18), sl18⟩)
    (c18 : W.codeIn K cd18 "_law_wild" = true)
    (k18 : W.keepIn K (.ref f18) = true)
    (a19 : W.nsIn K mainGlobals "_law_is_number" = some (some (.ref f19)))
    (l19 : K.lookup f19 = some ⟨oc19, od19, .func (W.fnOf "_law_is_number" "_law_is_number" (defArgs s__law_is_number) (defBody s__law_is_number) (defScope s__law_is_number) .none kV19 dc19 pm19 an19 cd19 ct19), sl19⟩)
    (c19 : W.codeIn K cd19 "_law_is_number" = true)
    (k19 : W.keepIn K (.ref f19) = true)
    (a20 : W.nsIn K mainGlobals "_law_is_sum" = some (some (.ref f20)))
    (l20 : K.lookup f20 = some ⟨oc20, od20, .func (W.fnOf "_law_is_sum" "_law_is_sum" (defArgs s__law_is_sum) (defBody s__law_is_sum) (defScope s__law_is_sum) .none kV20 dc20 pm20 an20 cd20 ct20), sl20⟩)
    (c20 : W.codeIn K cd20 "_law_is_sum" = true)
    (k20 : W.keepIn K (.ref f20) = true)
    (a21 : W.nsIn K mainGlobals "_law_bent_term" = some (some (.ref f21)))
    (l21 : K.lookup f21 = some ⟨oc21, od21, .func (W.fnOf "_law_bent_term" "_law_bent_term" (defArgs s__law_bent_term) (defBody s__law_bent_term) (defScope s__law_bent_term) .none kV21 dc21 pm21 an21 cd21 ct21), sl21⟩)
    (c21 : W.codeIn K cd21 "_law_bent_term" = true)
    (k21 : W.keepIn K (.ref f21) = true)
    (a22 : W.nsIn K mainGlobals "_law_bent" = some (some (.ref f22)))
    (l22 : K.lookup f22 = some ⟨oc22, od22, .func (W.fnOf "_law_bent" "_law_bent" (defArgs s__law_bent) (defBody s__law_bent) (defScope s__law_bent) .none kV22 dc22 pm22 an22 cd22 ct22), sl22⟩)
    (c22 : W.codeIn K cd22 "_law_bent" = true)
    (k22 : W.keepIn K (.ref f22) = true)
    (a23 : W.nsIn K mainGlobals "law" = some (some (.ref f23)))
    (l23 : K.lookup f23 = some ⟨oc23, od23, .func (W.fnOf "law" "law" (defArgs s_law) (defBody s_law) (defScope s_law) .none kV23 dc23 pm23 an23 cd23 ct23), sl23⟩)
    (c23 : W.codeIn K cd23 "law" = true)
    (k23 : W.keepIn K (.ref f23) = true)
    (z_abs : W.nsIn K mainGlobals "abs" = some none)
    (z_all : W.nsIn K mainGlobals "all" = some none)
    (z_bool : W.nsIn K mainGlobals "bool" = some none)
    (z_int : W.nsIn K mainGlobals "int" = some none)
    (z_isinstance : W.nsIn K mainGlobals "isinstance" = some none)
    (z_len : W.nsIn K mainGlobals "len" = some none)
    (z_list : W.nsIn K mainGlobals "list" = some none)
    (z_max : W.nsIn K mainGlobals "max" = some none)
    (z_range : W.nsIn K mainGlobals "range" = some none)
    (z_sorted : W.nsIn K mainGlobals "sorted" = some none)
    (z_tuple : W.nsIn K mainGlobals "tuple" = some none)
    (z_zip : W.nsIn K mainGlobals "zip" = some none)
    (c_MOST_SWITCHES : W.nsIn K mainGlobals "MOST_SWITCHES" = some (some (.int 6 t_MOST_SWITCHES)))
    (c_HEAVIEST : W.nsIn K mainGlobals "HEAVIEST" = some (some (.int 1000000000000 t_HEAVIEST))) :
    ∃ fd : FuncData, (∀ (s : Shared) (v : Value), BindsTo s fd ⟨[v], []⟩ [("_law_script", v)]) /\ ∀ base : Heap, K.In base -> base.Ns mainGlobals mg -> FnOk l.prog w K mg base CX0 8 fa fd ["_law_script"] (spLaw K) := by
  have e := hfa.symm.trans (W.mg_of X G a23)
  cases e
  have F0 := fun_mk (st := s_is_whole) l0 c0 k0
  have b0 := F0.binds (ps := ["thing"]) fun _ _ _ _ _ _ => L2.on1 (fun _ => rfl)
  have F1 := fun_mk (st := s_is_below) l1 c1 k1
  have b1 := F1.binds (ps := ["bound", "thing"]) fun _ _ _ _ _ _ => L2.on2 (fun _ _ => rfl)
  have F2 := fun_mk (st := s_two_to) l2 c2 k2
  have b2 := F2.binds (ps := ["n"]) fun _ _ _ _ _ _ => L2.on1 (fun _ => rfl)
  have F3 := fun_mk (st := s_power_of) l3 c3 k3
  have b3 := F3.binds (ps := ["base", "times"]) fun _ _ _ _ _ _ => L2.on2 (fun _ _ => rfl)
  have F4 := fun_mk (st := s_is_place) l4 c4 k4
  have b4 := F4.binds (ps := ["n", "thing"]) fun _ _ _ _ _ _ => L2.on2 (fun _ _ => rfl)
  have F5 := fun_mk (st := s_is_sum) l5 c5 k5
  have b5 := F5.binds (ps := ["thing"]) fun _ _ _ _ _ _ => L2.on1 (fun _ => rfl)
  have F6 := fun_mk (st := s_has_terms) l6 c6 k6
  have b6 := F6.binds (ps := ["thing"]) fun _ _ _ _ _ _ => L2.on1 (fun _ => rfl)
  have F7 := fun_mk (st := s_is_pair) l7 c7 k7
  have b7 := F7.binds (ps := ["thing"]) fun _ _ _ _ _ _ => L2.on1 (fun _ => rfl)
  have F8 := fun_mk (st := s_are_terms) l8 c8 k8
  have b8 := F8.binds (ps := ["n", "terms"]) fun _ _ _ _ _ _ => L2.on2 (fun _ _ => rfl)
  have F9 := fun_mk (st := s_is_term) l9 c9 k9
  have b9 := F9.binds (ps := ["n", "thing"]) fun _ _ _ _ _ _ => L2.on2 (fun _ _ => rfl)
  have F10 := fun_mk (st := s__law_tape) l10 c10 k10
  have b10 := F10.binds (ps := ["_law_script"]) fun _ _ _ _ _ _ => L2.on1 (fun _ => rfl)
  have F11 := fun_mk (st := s__law_next) l11 c11 k11
  have b11 := F11.binds (ps := ["_law_tape_here", "_law_many"]) fun _ _ _ _ _ _ => L2.on2 (fun _ _ => rfl)
  have F12 := fun_mk (st := s__law_two) l12 c12 k12
  have b12 := F12.binds (ps := ["_law_k"]) fun _ _ _ _ _ _ => L2.on1 (fun _ => rfl)
  have F13 := fun_mk (st := s__law_bits) l13 c13 k13
  have b13 := F13.binds (ps := ["_law_n", "_law_number"]) fun _ _ _ _ _ _ => L2.on2 (fun _ _ => rfl)
  have F14 := fun_mk (st := s__law_sign) l14 c14 k14
  have b14 := F14.binds (ps := ["_law_n", "_law_one", "_law_place"]) fun _ _ _ _ _ _ => L2.on3 (fun _ _ _ => rfl)
  have F15 := fun_mk (st := s__law_odd) l15 c15 k15
  have b15 := F15.binds (ps := ["_law_tape_here"]) fun _ _ _ _ _ _ => L2.on1 (fun _ => rfl)
  have F16 := fun_mk (st := s__law_table) l16 c16 k16
  have b16 := F16.binds (ps := ["_law_tape_here", "_law_n"]) fun _ _ _ _ _ _ => L2.on2 (fun _ _ => rfl)
  have F17 := fun_mk (st := s__law_sum) l17 c17 k17
  have b17 := F17.binds (ps := ["_law_table_here"]) fun _ _ _ _ _ _ => L2.on1 (fun _ => rfl)
  have F18 := fun_mk (st := s__law_wild) l18 c18 k18
  have b18 := F18.binds (ps := ["_law_tape_here", "_law_n"]) fun _ _ _ _ _ _ => L2.on2 (fun _ _ => rfl)
  have F19 := fun_mk (st := s__law_is_number) l19 c19 k19
  have b19 := F19.binds (ps := ["_law_thing"]) fun _ _ _ _ _ _ => L2.on1 (fun _ => rfl)
  have F20 := fun_mk (st := s__law_is_sum) l20 c20 k20
  have b20 := F20.binds (ps := ["_law_thing"]) fun _ _ _ _ _ _ => L2.on1 (fun _ => rfl)
  have F21 := fun_mk (st := s__law_bent_term) l21 c21 k21
  have b21 := F21.binds (ps := ["_law_tape_here", "_law_n", "_law_term"]) fun _ _ _ _ _ _ => L2.on3 (fun _ _ _ => rfl)
  have F22 := fun_mk (st := s__law_bent) l22 c22 k22
  have b22 := F22.binds (ps := ["_law_tape_here", "_law_whole"]) fun _ _ _ _ _ _ => L2.on2 (fun _ _ => rfl)
  have F23 := fun_mk (st := s_law) l23 c23 k23
  have b23 := F23.binds (ps := ["_law_script"]) fun _ _ _ _ _ _ => L2.on1 (fun _ => rfl)
  let T : Txt K mg := { f_is_whole := f0, d_is_whole := _, F_is_whole := F0, b_is_whole := b0, m_is_whole := W.mg_of X G a0, f_is_below := f1, d_is_below := _, F_is_below := F1, b_is_below := b1, m_is_below := W.mg_of X G a1, f_two_to := f2, d_two_to := _, F_two_to := F2, b_two_to := b2, m_two_to := W.mg_of X G a2, f_power_of := f3, d_power_of := _, F_power_of := F3, b_power_of := b3, m_power_of := W.mg_of X G a3, f_is_place := f4, d_is_place := _, F_is_place := F4, b_is_place := b4, m_is_place := W.mg_of X G a4, f_is_sum := f5, d_is_sum := _, F_is_sum := F5, b_is_sum := b5, m_is_sum := W.mg_of X G a5, f_has_terms := f6, d_has_terms := _, F_has_terms := F6, b_has_terms := b6, m_has_terms := W.mg_of X G a6, f_is_pair := f7, d_is_pair := _, F_is_pair := F7, b_is_pair := b7, m_is_pair := W.mg_of X G a7, f_are_terms := f8, d_are_terms := _, F_are_terms := F8, b_are_terms := b8, m_are_terms := W.mg_of X G a8, f_is_term := f9, d_is_term := _, F_is_term := F9, b_is_term := b9, m_is_term := W.mg_of X G a9, f__law_tape := f10, d__law_tape := _, F__law_tape := F10, b__law_tape := b10, m__law_tape := W.mg_of X G a10, f__law_next := f11, d__law_next := _, F__law_next := F11, b__law_next := b11, m__law_next := W.mg_of X G a11, f__law_two := f12, d__law_two := _, F__law_two := F12, b__law_two := b12, m__law_two := W.mg_of X G a12, f__law_bits := f13, d__law_bits := _, F__law_bits := F13, b__law_bits := b13, m__law_bits := W.mg_of X G a13, f__law_sign := f14, d__law_sign := _, F__law_sign := F14, b__law_sign := b14, m__law_sign := W.mg_of X G a14, f__law_odd := f15, d__law_odd := _, F__law_odd := F15, b__law_odd := b15, m__law_odd := W.mg_of X G a15, f__law_table := f16, d__law_table := _, F__law_table := F16, b__law_table := b16, m__law_table := W.mg_of X G a16, f__law_sum := f17, d__law_sum := _, F__law_sum := F17, b__law_sum := b17, m__law_sum := W.mg_of X G a17, f__law_wild := f18, d__law_wild := _, F__law_wild := F18, b__law_wild := b18, m__law_wild := W.mg_of X G a18, f__law_is_number := f19, d__law_is_number := _, F__law_is_number := F19, b__law_is_number := b19, m__law_is_number := W.mg_of X G a19, f__law_is_sum := f20, d__law_is_sum := _, F__law_is_sum := F20, b__law_is_sum := b20, m__law_is_sum := W.mg_of X G a20, f__law_bent_term := f21, d__law_bent_term := _, F__law_bent_term := F21, b__law_bent_term := b21, m__law_bent_term := W.mg_of X G a21, f__law_bent := f22, d__law_bent := _, F__law_bent := F22, b__law_bent := b22, m__law_bent := W.mg_of X G a22, f_law := fa, d_law := _, F_law := F23, b_law := b23, m_law := W.mg_of X G a23, z_abs := W.mg_none_of X G z_abs, z_all := W.mg_none_of X G z_all, z_bool := W.mg_none_of X G z_bool, z_int := W.mg_none_of X G z_int, z_isinstance := W.mg_none_of X G z_isinstance, z_len := W.mg_none_of X G z_len, z_list := W.mg_none_of X G z_list, z_max := W.mg_none_of X G z_max, z_range := W.mg_none_of X G z_range, z_sorted := W.mg_none_of X G z_sorted, z_tuple := W.mg_none_of X G z_tuple, z_zip := W.mg_none_of X G z_zip, t_MOST_SWITCHES := t_MOST_SWITCHES, c_MOST_SWITCHES := W.mg_of X G c_MOST_SWITCHES, t_HEAVIEST := t_HEAVIEST, c_HEAVIEST := W.mg_of X G c_HEAVIEST }
  exact ⟨W.fnOf "law" "law" (defArgs s_law) (defBody s_law) (defScope s_law) .none kV23 dc23 pm23 an23 cd23 ct23, fun s v => .of_eq rfl, fun base _ _ => ok_law T⟩
theorem walk {l : W.OpenLaw} {q : Program} {loose : List Str} {XP : (Str -> Option Value) -> Heap -> Prop} {YP : World -> Heap -> Prop} {d : DefRec} {K : Params -> W.Frag} (hn : l.most = some 63) (hdf : d.params.defaults = [])
    (hY : ∀ (w : World) (h : Heap), YP w h -> (K w.params).In h)
    (F : ∀ (w : World) (mg : Str -> Option Value) (fa : Addr) (h : Heap), (K w.params).In h -> h.Ns mainGlobals mg -> mg d.name = some (.ref fa) ->
      ∃ fd : FuncData, (∀ (s : Shared) (u : Value), BindsTo s fd ⟨[u], []⟩ [("_law_script", u)]) /\ ∀ base : Heap, (K w.params).In base -> base.Ns mainGlobals mg -> FnOk l.prog w (K w.params) mg base CX0 8 fa fd ["_law_script"] (spLaw (K w.params))) :
    W.WalkO q loose XP YP l.row.toRowW d [] (fun f vs => PySem.call f vs) :=
  L2.walk_of (n := 63) (k := 8) (x := "_law_script") (CX := fun _ => CX0) (sp := fun w => spLaw (K w.params)) hn (by decide) hdf ⟨rfl, by decide, by decide, rfl⟩ hY F (fun _ _ a ns hl _ hS => ⟨a, ns, rfl, hS, hl, fun _ => rfl⟩) fun _ _ _ _ _ z => z
end Mine
theorem PySem.W.Fast.te12324355889456262910 : True := trivial
def PySem.W.Fast.tw17098462253139126694 : PySem.Program := PySem.Challenge.pw_flips_k08_sums_by_kind
theorem PySem.W.Fast.te17098462253139126694 : PySem.Challenge.pw_flips_k08_sums_by_kind = PySem.W.Fast.tw17098462253139126694 := rfl
def PySem.W.Fast.pickB : List Bool -> List PySem.Stmt -> List PySem.Stmt
  | [], _ => []
  | b :: k, l => match b, l with
    | true, s :: r => s :: PySem.W.Fast.pickB k r
    | false, _ :: r => PySem.W.Fast.pickB k r
    | _, [] => []
def PySem.W.Fast.tw14552955800004604291 : PySem.Program := { PySem.Challenge.pw_flips_k08_sums_by_kind with main := { (PySem.Challenge.pw_flips_k08_sums_by_kind).main with body := PySem.W.Fast.pickB [false, true, true, true, true, false, true, false, true, true, true, true, true, true, true, false, true, true, true, true, true, true, true, true, true, true, true, true, true, true] (PySem.Challenge.pw_flips_k08_sums_by_kind).main.body } }
theorem PySem.W.Fast.te14552955800004604291 : PySem.W.Fast.tw14552955800004604291 = PySem.W.Fast.tw14552955800004604291 := rfl
def PySem.W.Fast.tw1994157111430954355 : List PySem.Stmt := ((PySem.Challenge.pw_flips_k08_sums_by_kind).main.body.drop 17).take 13
theorem PySem.W.Fast.te1994157111430954355 : PySem.W.Fast.tw1994157111430954355 = PySem.W.Fast.tw1994157111430954355 := rfl
def PySem.W.Fast.tw1323918866749530431 : List PySem.Stmt := ((PySem.Challenge.pw_flips_k08_sums_by_kind).main.body.drop 0).take 17
theorem PySem.W.Fast.te1323918866749530431 : PySem.W.Fast.tw1323918866749530431 = PySem.W.Fast.tw1323918866749530431 := rfl
open PySem PySem.W PyProof.Rows
set_option maxRecDepth 100000 in
set_option maxHeartbeats 0 in
theorem PySem.Challenge.cw_flips_k08_sums_by_kind_holds : PySem.Challenge.rw_flips_k08_sums_by_kind.Holds := by
  w_on; o_law; k_head; (case hw => w_witness2)
  k_fill
  refine Mine.walk (l := PySem.Challenge.rw_flips_k08_sums_by_kind) rfl rfl (fun w h Y => PySem.W.kIn_of Y) ?F
  case F =>
    intro w mg fa h KX G hmg
    refine' Mine.all_mk KX G hmg ?a0 ?l0 ?c0 ?k0 ?a1 ?l1 ?c1 ?k1 ?a2 ?l2 ?c2 ?k2 ?a3 ?l3 ?c3 ?k3 ?a4 ?l4 ?c4 ?k4 ?a5 ?l5 ?c5 ?k5 ?a6 ?l6 ?c6 ?k6 ?a7 ?l7 ?c7 ?k7 ?a8 ?l8 ?c8 ?k8 ?a9 ?l9 ?c9 ?k9 ?a10 ?l10 ?c10 ?k10 ?a11 ?l11 ?c11 ?k11 ?a12 ?l12 ?c12 ?k12 ?a13 ?l13 ?c13 ?k13 ?a14 ?l14 ?c14 ?k14 ?a15 ?l15 ?c15 ?k15 ?a16 ?l16 ?c16 ?k16 ?a17 ?l17 ?c17 ?k17 ?a18 ?l18 ?c18 ?k18 ?a19 ?l19 ?c19 ?k19 ?a20 ?l20 ?c20 ?k20 ?a21 ?l21 ?c21 ?k21 ?a22 ?l22 ?c22 ?k22 ?a23 ?l23 ?c23 ?k23 ?z_abs ?z_all ?z_bool ?z_int ?z_isinstance ?z_len ?z_list ?z_max ?z_range ?z_sorted ?z_tuple ?z_zip ?c_MOST_SWITCHES ?c_HEAVIEST
    (case a0 | l0 | c0 | k0 | a1 | l1 | c1 | k1 | a2 | l2 | c2 | k2 | a3 | l3 | c3 | k3 | a4 | l4 | c4 | k4 | a5 | l5 | c5 | k5 | a6 | l6 | c6 | k6 | a7 | l7 | c7 | k7 | a8 | l8 | c8 | k8 | a9 | l9 | c9 | k9 | a10 | l10 | c10 | k10 | a11 | l11 | c11 | k11 | a12 | l12 | c12 | k12 | a13 | l13 | c13 | k13 | a14 | l14 | c14 | k14 | a15 | l15 | c15 | k15 | a16 | l16 | c16 | k16 | a17 | l17 | c17 | k17 | a18 | l18 | c18 | k18 | a19 | l19 | c19 | k19 | a20 | l20 | c20 | k20 | a21 | l21 | c21 | k21 | a22 | l22 | c22 | k22 | a23 | l23 | c23 | k23 | z_abs | z_all | z_bool | z_int | z_isinstance | z_len | z_list | z_max | z_range | z_sorted | z_tuple | z_zip | c_MOST_SWITCHES | c_HEAVIEST => k_is)
