import PyProof.Rows.All
import Wide.All
import OpenK.AllK
import Wide.FinOn
import Lean
import PyProof.EqAt
import PyProof.EqKinds
import PyProof.TupleCall
import PyProof.NeKinds
import PyProof.ReprRoads
import PyProof.ReprBulk
import PyProof.Draws
import PyProof.EnumMake
import KE.BitLaws
import PyProof.ListIndex
import PyProof.AttrMissHeap
import PyProof.DictUpdate
import KE.KDictOf
import PyProof.FactsAll.enumerate_1
import PyProof.FactsAll.tuple_2
import PyProof.ListMulRoad
import PyProof.ListRange
import PyProof.FactsAll.list_3
import PyProof.Rows.SortWalk
import PyProof.Rows.MinMaxN
import KE.KEqDict
import KE.KDictSum
import PyProof.WalksMore
import PyProof.Rows.SetFrom
import PyProof.SetRoads
import PyProof.FactsAll.set_1
import PySem.Challenge.RW_flips_k40_left_ends_fewest
set_option Elab.async false
set_option linter.all false
set_option maxRecDepth 100000
set_option maxHeartbeats 4000000
-- CHANGE: your row's module here, as the last of these rows
namespace L2
open PySem PySem.Spec PyProof.Rows
abbrev Key := Sum Int Str
def keyIs : Key -> Value -> Bool
  | .inl k, v => Value.isInt k v
  | .inr x, v => Value.isStrOf x v
def keyH (w : World) : Key -> Int
  | .inl k => hashInt k
  | .inr x => hashStr w x
theorem keyIs_shape : ∀ {k : Key} {v : Value}, keyIs k v = true -> (∃ i t, k = Sum.inl i /\ v = Value.int i t) \/ (∃ x t, k = Sum.inr x /\ v = Value.str x t)
  | .inl i, v, h => by
    obtain ⟨t, e⟩ := Value.isInt_shape (k := i) (v := v) h
    exact .inl ⟨i, t, rfl, e⟩
  | .inr x, v, h => by
    obtain ⟨t, e⟩ := Value.isStrOf_shape (x := x) (v := v) h
    exact .inr ⟨x, t, rfl, e⟩
theorem keyIs_int (i : Int) (t : Tok) : keyIs (.inl i) (.int i t) = true := by simp [keyIs, Value.isInt]
theorem keyIs_str (x : Str) (t : Tok) : keyIs (.inr x) (.str x t) = true := by simp [keyIs, Value.isStrOf]
theorem key_ll (a b : Int) : decide ((Sum.inl a : Key) = Sum.inl b) = (a == b) := by
  by_cases e : a = b
  . subst e; simp
  . have h : ¬ (Sum.inl a : Key) = Sum.inl b := fun q => e (Sum.inl.inj q)
    rw [decide_eq_false h]
    exact (beq_eq_false_iff_ne.mpr e).symm
theorem key_rr (a b : Str) : decide ((Sum.inr a : Key) = Sum.inr b) = decide (a = b) := by
  by_cases e : a = b
  . subst e; simp
  . have h : ¬ (Sum.inr a : Key) = Sum.inr b := fun q => e (Sum.inr.inj q)
    rw [decide_eq_false h, decide_eq_false e]
theorem key_lr (a : Int) (b : Str) : decide ((Sum.inl a : Key) = Sum.inr b) = false := decide_eq_false (fun q => nomatch q)
theorem key_rl (a : Str) (b : Int) : decide ((Sum.inr a : Key) = Sum.inl b) = false := decide_eq_false (fun q => nomatch q)
def mixKind (prog : Program) (w : World) : PySem.KeyKind prog w Key where
  is := keyIs
  hash := keyH w
  inj := fun v a b ha hb => by
    rcases keyIs_shape ha with ⟨i, t, rfl, rfl⟩ | ⟨x, t, rfl, rfl⟩
    . rcases keyIs_shape hb with ⟨j, u, rfl, e⟩ | ⟨y, u, rfl, e⟩
      . injection e with e1 _; rw [e1]
      . exact nomatch e
    . rcases keyIs_shape hb with ⟨j, u, rfl, e⟩ | ⟨y, u, rfl, e⟩
      . exact nomatch e
      . injection e with e1 _; rw [e1]
  byValue := fun k v h => by
    rcases keyIs_shape h with ⟨i, t, rfl, rfl⟩ | ⟨x, t, rfl, rfl⟩ <;> rfl
  pyHash := fun hv h => by
    rcases keyIs_shape hv with ⟨i, t, rfl, rfl⟩ | ⟨x, t, rfl, rfl⟩
    . exact wpAny_pyHash_int h
    . exact wpAny_pyHash_str h
  eqBool := fun hu hv h => by
    rcases keyIs_shape hu with ⟨i, t, rfl, rfl⟩ | ⟨x, t, rfl, rfl⟩
    . rcases keyIs_shape hv with ⟨j, u, rfl, rfl⟩ | ⟨y, u, rfl, rfl⟩
      . rw [key_ll] at h; exact wpAny_eqBool_int h
      . rw [key_lr] at h; exact SeqAt.EqAt.int_str i t y u _ _ _ _ h
    . rcases keyIs_shape hv with ⟨j, u, rfl, rfl⟩ | ⟨y, u, rfl, rfl⟩
      . rw [key_rl] at h; exact SeqAt.EqAt.str_int x t j u _ _ _ _ h
      . rw [key_rr] at h; exact wpAny_eqBool_str h
  «strs» := fun k x t v h => by
    rcases keyIs_shape h with ⟨i, u, rfl, e⟩ | ⟨y, u, rfl, e⟩
    . exact nomatch e
    . injection e with e1 _
      subst e1
      cases v <;> rfl
theorem mixKind_int (prog : Program) (w : World) (i : Int) (t : Tok) : (mixKind prog w).is (.inl i) (.int i t) = true := keyIs_int i t
theorem mixKind_str (prog : Program) (w : World) (x : Str) (t : Tok) : (mixKind prog w).is (.inr x) (.str x t) = true := keyIs_str x t
inductive V where
  | non | bl (b : Bool) | int (i : Int) | str (x : Str) | byt (b : Array UInt8) | flt (b : UInt64) | ref (a : Addr) | ty (n : String)
  deriving DecidableEq
def RelV : V -> Value -> Prop
  | .non, u => u = Value.none
  | .bl b, u => u = Value.bool b
  | .int i, u => ∃ t, u = Value.int i t
  | .str x, u => ∃ t, u = Value.str x t
  | .byt b, u => ∃ t, u = Value.bytes b t
  | .flt b, u => ∃ t, u = Value.float b t
  | .ref a, u => u = Value.ref a
  | .ty n, u => u = Value.type n
abbrev Vals : List V -> List Value -> Prop := Paired RelV
theorem Vals.length {xs : List V} {us : List Value} (r : Vals xs us) : xs.length = us.length := Paired.length r
theorem Vals.get : ∀ {xs : List V} {us : List Value} {i : Nat} {x : V}, Vals xs us -> xs[i]? = some x -> ∃ u, us[i]? = some u /\ RelV x u
  | _, _, _, _, .nil, e => by simp at e
  | _, _, 0, _, .cons r _, e => by simp at e; subst e; exact ⟨_, rfl, r⟩
  | _, _, i + 1, x, .cons _ t, e => by
    obtain ⟨u, h1, h2⟩ := Vals.get (i := i) (x := x) t (by simpa using e)
    exact ⟨u, by simpa using h1, h2⟩
theorem Vals.set {x : V} {u : Value} (r : RelV x u) : ∀ {xs : List V} {us : List Value} (i : Nat), Vals xs us -> Vals (xs.set i x) (us.set i u)
  | _, _, _, .nil => .nil
  | _, _, 0, .cons _ t => .cons r t
  | _, _, i + 1, .cons q t => .cons q (Vals.set r i t)
theorem Vals.append : ∀ {xs ys : List V} {us ws : List Value}, Vals xs us -> Vals ys ws -> Vals (xs ++ ys) (us ++ ws)
  | _, _, _, _, .nil, s => s
  | _, _, _, _, .cons r t, s => .cons r (Vals.append t s)
theorem Vals.take : ∀ {xs : List V} {us : List Value} (n : Nat), Vals xs us -> Vals (xs.take n) (us.take n)
  | _, _, 0, _ => .nil
  | _, _, _ + 1, .nil => .nil
  | _, _, n + 1, .cons r t => .cons r (Vals.take n t)
theorem Vals.drop : ∀ {xs : List V} {us : List Value} (n : Nat), Vals xs us -> Vals (xs.drop n) (us.drop n)
  | _, _, 0, r => r
  | _, _, _ + 1, .nil => .nil
  | _, _, n + 1, .cons _ t => Vals.drop n t
def RelO : Option V -> Option Value -> Prop
  | some v, some u => RelV v u
  | none, none => True
  | _, _ => False
def KV {κ : Type} : List (κ × V) -> List (κ × Value) -> Prop := Paired fun (p : κ × V) (q : κ × Value) => p.1 = q.1 /\ RelV p.2 q.2
def kV : Key -> V
  | .inl i => .int i
  | .inr x => .str x
inductive HO where
    | lst (xs : List V)
    | tup (xs : List V)
    | dK (kvs : List (Key × V)) | dT (kvs : List (List Key × V))
    | set (S : Int -> Bool) (n : Nat)
    | ins (C dx : Addr) (fs : List (Str × V))
    | own (x : Addr)
    | xd (fs : List (Str × V))
    | met (f x : Addr)
    | rng (lo hi : Int)
    | frz (o : Obj) (u : HO)
    | tbl (ps : Array Value)
    | ext (φ : Heap -> Prop)
abbrev Hp := Addr -> Option HO
def upd (H : Hp) (a : Addr) (o : HO) : Hp := fun b => if b = a then some o else H b
theorem upd_same {H : Hp} {a : Addr} {o : HO} : upd H a o a = some o := by unfold upd; rw [if_pos rfl]
theorem upd_ne {H : Hp} {a b : Addr} {o : HO} (h : b ≠ a) : upd H a o b = H b := by unfold upd; rw [if_neg h]
theorem ne_of {H : Hp} {a b : Addr} {o u : HO} (h : H a = some o) (h' : H b = some u) (d : o ≠ u) : a ≠ b := by
  intro e; subst e; rw [h] at h'; exact d (Option.some.inj h')
theorem ne_of_none {H : Hp} {a b : Addr} {o : HO} (h : H a = some o) (h' : H b = none) : a ≠ b := by
  intro e; subst e; rw [h] at h'; cases h'
def IsTupN (h : Heap) (a : Addr) (items : Array Value) : Prop := ∃ o, h.get? a = some o /\ o.cls = .type "tuple" /\ (∃ n, o.data = .seq items n) /\ o.dict = none
theorem IsTupN.tup {h : Heap} {a : Addr} {items : Array Value} (x : IsTupN h a items) : PyProof.Rows.IsTup h a items := by
  obtain ⟨o, e, c, d, _⟩ := x
  exact ⟨o, e, c, d⟩
theorem IsTupN.new (h : Heap) (items : Array Value) : IsTupN (h.push { cls := .type "tuple", data := .seq items }) h.objs.size items := ⟨_, Heap.get?_push_size _ rfl, rfl, ⟨_, rfl⟩, rfl⟩
section
variable (P : Program) (w : World)
def ObjOk (H : Hp) (h : Heap) (a : Addr) : HO -> Prop
  | .lst xs => xs.length <= sizeLine /\ ∃ (its : List Value) (n : Nat), Vals xs its /\ h.get? a = some { cls := .type "list", data := .seq its.toArray n }
  | .tup xs => xs.length <= sizeLine /\ ∃ its : List Value, Vals xs its /\ IsTupN h a its.toArray
  | .dK kvs => kvs.length <= sizeLine /\ (a == sysModules) = false /\ ∃ vs, KV kvs vs /\ h.DictOf (mixKind P w) a vs
  | .dT kvs => kvs.length <= sizeLine /\ (a == sysModules) = false /\ ∃ xs : List (List Key × Addr × Value),
      Paired (fun (p : List Key × V) (q : List Key × Addr × Value) => p.1 = q.1 /\ H q.2.1 = some (.tup (p.1.map kV)) /\ RelV p.2 q.2.2) kvs xs /\
      ∃ o es ep, h.get? a = some o /\ o.ExactDict /\ o.data = .dict es ep /\ es.toList = xs.map (entryOfKey (tupleKind (mixKind P w))) /\ (xs.map (·.1)).Nodup
  | .set S n => h.SetOf (intKind P w) a S n
  | .ins C dx fs => H dx = some (.own a) /\ fs.length <= 1000 /\ dx ≠ a /\ h.get? a = some (PySem.W.instObj C dx) /\
      ∃ mA, h.Ns1 dx mA /\ (∀ f, RelO (fs.lookup f) (mA f)) /\ PySem.Within mA (fs.map (·.1))
  | .own _ => ∃ o, h.get? a = some o
  | .xd fs => ∃ mA, h.Ns1 a mA /\ ∀ f, RelO (fs.lookup f) (mA f)
  | .rng lo hi => ∃ t u v, h.get? a = some { cls := .type "range", data := .fields #[.int lo t, .int hi u, .int 1 v] }
  | .frz o u => h.get? a = some o /\ ObjOk H h a u
  | .tbl ps => h.get? a = some { cls := .none, data := .fields ps }
  | .met f x => h.get? a = some (PySem.W.methodObj (.ref f) (.ref x))
  | .ext φ => φ h /\ (∃ o, h.get? a = some o) /\ ∀ h1 h2 : Heap, φ h1 -> (∀ o, h1.get? a = some o -> h2.get? a = some o) -> φ h2
def HOk (H : Hp) (h : Heap) : Prop := ∀ a o, H a = some o -> ObjOk P w H h a o
end
section
variable {P : Program} {w : World} {H H' : Hp} {h h' : Heap} {a : Addr} {o : HO}
theorem ObjOk.lt (x : ObjOk P w H h a o) : a < h.objs.size := by
  cases o with
  | lst xs => obtain ⟨_, _, _, _, e⟩ := x; exact Heap.lt_size e
  | tup xs => obtain ⟨_, _, _, p⟩ := x; exact p.tup.lt
  | dK kvs => obtain ⟨_, _, _, _, o, _, _, e, _⟩ := x; exact Heap.lt_size e
  | dT kvs => obtain ⟨_, _, _, _, o, _, _, e, _⟩ := x; exact Heap.lt_size e
  | set S n => obtain ⟨o, _, _, _, e, _⟩ := x; exact Heap.lt_size e
  | ins C dx fs => obtain ⟨_, _, _, e, _⟩ := x; exact Heap.lt_size e
  | own y => obtain ⟨_, e⟩ := x; exact Heap.lt_size e
  | xd fs => obtain ⟨_, ⟨_, _, _, e, _⟩, _⟩ := x; exact Heap.lt_size e
  | rng lo hi => obtain ⟨_, _, _, e⟩ := x; exact Heap.lt_size e
  | frz ob u => obtain ⟨e, _⟩ := x; exact Heap.lt_size e
  | tbl ps => exact Heap.lt_size (show h.get? a = some _ from x)
  | met f y => exact Heap.lt_size (show h.get? a = some _ from x)
  | ext φ => obtain ⟨_, ⟨_, e⟩, _⟩ := x; exact Heap.lt_size e
theorem Paired.mapP {α β : Type} {F G : α -> β -> Prop} : ∀ {l₁ : List α} {l₂ : List β}, Paired F l₁ l₂ -> (∀ a b, F a b -> G a b) -> Paired G l₁ l₂
  | _, _, .nil, _ => .nil
  | _, _, .cons r t, f => .cons (f _ _ r) (Paired.mapP t f)
theorem ObjOk.stay (x : ObjOk P w H h a o) (k : ∀ b u, (b = a \/ H b = some (.own a)) -> h.get? b = some u -> h'.get? b = some u)
    (ho : ∀ b, H b = some (.own a) -> H' b = some (.own a)) (ht : ∀ b xs, H b = some (.tup xs) -> H' b = some (.tup xs)) : ObjOk P w H' h' a o := by
  induction o with
  | lst xs => obtain ⟨z, its, n, r, e⟩ := x; exact ⟨z, its, n, r, k _ _ (.inl rfl) e⟩
  | tup xs => obtain ⟨z, its, r, ob, e, c⟩ := x; exact ⟨z, its, r, ob, k _ _ (.inl rfl) e, c⟩
  | dK kvs => obtain ⟨z, y, vs, r, ob, es, ep, e, c⟩ := x; exact ⟨z, y, vs, r, ob, es, ep, k _ _ (.inl rfl) e, c⟩
  | dT kvs =>
    obtain ⟨z, y, xs, r, ob, es, ep, e, c⟩ := x
    exact ⟨z, y, xs, Paired.mapP r fun p q z => ⟨z.1, ht _ _ z.2.1, z.2.2⟩, ob, es, ep, k _ _ (.inl rfl) e, c⟩
  | set S n => obtain ⟨ob, es, ep, t, e, c⟩ := x; exact ⟨ob, es, ep, t, k _ _ (.inl rfl) e, c⟩
  | ins C dx fs =>
    obtain ⟨d, z, ne, e, mA, ⟨od, es, ep, e2, c⟩, r⟩ := x
    exact ⟨ho _ d, z, ne, k _ _ (.inl rfl) e, mA, ⟨od, es, ep, k _ _ (.inr d) e2, c⟩, r⟩
  | own y => obtain ⟨ob, e⟩ := x; exact ⟨ob, k _ _ (.inl rfl) e⟩
  | xd fs => obtain ⟨mA, ⟨od, es, ep, e, c⟩, r⟩ := x; exact ⟨mA, ⟨od, es, ep, k _ _ (.inl rfl) e, c⟩, r⟩
  | rng lo hi => obtain ⟨t, u, v, e⟩ := x; exact ⟨t, u, v, k _ _ (.inl rfl) e⟩
  | frz ob u ih => obtain ⟨e, q⟩ := x; exact ⟨k _ _ (.inl rfl) e, ih q⟩
  | tbl ps =>
    have e : h.get? a = some { cls := .none, data := .fields ps } := x
    show h'.get? a = some { cls := .none, data := .fields ps }
    exact k a _ (.inl rfl) e
  | met f y =>
    have e : h.get? a = some (PySem.W.methodObj (.ref f) (.ref y)) := x
    show h'.get? a = some (PySem.W.methodObj (.ref f) (.ref y))
    exact k a _ (.inl rfl) e
  | ext φ => obtain ⟨p, ⟨o, e⟩, st⟩ := x; exact ⟨st _ _ p fun o q => k _ _ (.inl rfl) q, ⟨o, k _ _ (.inl rfl) e⟩, st⟩
theorem HOk.lt (x : HOk P w H h) (e : H a = some o) : a < h.objs.size := (x a o e).lt
theorem HOk.fresh (x : HOk P w H h) (e : h.objs.size <= a) : H a = none := by
  cases q : H a with
  | none => rfl
  | some u => exact absurd (Nat.lt_of_lt_of_le (x.lt q) e) (Nat.lt_irrefl _)
theorem HOk.kept (x : HOk P w H h) (k : ∀ b u, h.get? b = some u -> h'.get? b = some u) : HOk P w H h' := fun a o e =>
  (x a o e).stay (fun b u _ q => k b u q) (fun _ q => q) fun _ _ q => q
theorem HOk.laid (x : HOk P w H h) (k : ∀ b u, h.get? b = some u -> h'.get? b = some u) (hp : h.objs.size <= a) (new : ObjOk P w (upd H a o) h' a o) : HOk P w (upd H a o) h' := fun b u e => by
  have hn := x.fresh hp
  by_cases hb : b = a
  . subst hb; rw [upd_same] at e; cases e; exact new
  . rw [upd_ne hb] at e
    exact (x b u e).stay (fun c v _ q => k c v q) (fun c q => by rw [upd_ne (ne_of_none q hn)]; exact q) fun c xs q => by rw [upd_ne (ne_of_none q hn)]; exact q
end
def Rd (H : Hp) (a : Addr) (u : HO) : Prop := H a = some u \/ ∃ o, H a = some (.frz o u)
theorem Rd.of {H : Hp} {a : Addr} {u : HO} (h : H a = some u) : Rd H a u := .inl h
theorem Rd.ok {P : Program} {w : World} {H : Hp} {h : Heap} {a : Addr} {u : HO} (r : Rd H a u) (x : HOk P w H h) : ObjOk P w H h a u := by
  rcases r with r | ⟨o, r⟩
  . exact x a u r
  . obtain ⟨_, q⟩ := x a _ r
    exact q
def Mut : Option HO -> Prop
  | some (.lst _) => True
  | some (.dK _) => True
  | some (.dT _) => True
  | some (.set _ _) => True
  | some (.ins _ _ _) => True
  | some (.ext _) => True
  | _ => False
section
variable {P : Program} {w : World} {H : Hp} {h h' : Heap} {x e : Addr} {o' : HO}
theorem HOk.write (ok : HOk P w H h) (mu : Mut (H x)) (he : e = x \/ H e = some (.own x)) (k : ∀ b u, b ≠ e -> h.get? b = some u -> h'.get? b = some u) (heo : ∃ u, h'.get? e = some u)
    (new : ObjOk P w (upd H x o') h' x o') : HOk P w (upd H x o') h' := fun b u q => by
  have nown : ∀ c y, H c = some (.own y) -> c ≠ x := fun c y r z => by subst z; rw [r] at mu; exact mu
  have ntup : ∀ c xs, H c = some (.tup xs) -> c ≠ x := fun c xs r z => by subst z; rw [r] at mu; exact mu
  by_cases hb : b = x
  . subst hb; rw [upd_same] at q; cases q; exact new
  . rw [upd_ne hb] at q
    by_cases hbe : b = e
    . have q' : H b = some (.own x) := by
        rcases he with z | z
        . exact absurd (hbe.trans z) hb
        . rw [hbe]; exact z
      rw [q] at q'; cases q'
      obtain ⟨v, hv⟩ := heo
      exact ⟨v, by rw [hbe]; exact hv⟩
    . refine (ok b u q).stay (fun c v hc r => k c v ?_ r) (fun c r => by rw [upd_ne (nown c b r)]; exact r) fun c xs r => by rw [upd_ne (ntup c xs r)]; exact r
      rcases hc with rfl | hc
      . exact hbe
      . rintro rfl
        rcases he with z | z
        . exact nown c b hc z
        . rw [hc] at z; cases z; exact hb rfl
end
structure Un (fs ex : List Addr) (H H' : Hp) (h h' : Heap) : Prop where
  keep : ∀ b o, h.get? b = some o -> H b = none -> b ∉ fs -> b ∉ ex -> h'.get? b = some o
  slot : ∀ b o, h.get? b = some o -> H b = none -> b ∈ fs -> b ∉ ex -> ∃ sl, h'.get? b = some { o with slots := sl }
  free : ∀ b o, h.get? b = some o -> H b = none -> b ∉ ex -> H' b = none
  there : ∀ b o, h.get? b = some o -> b ∉ ex -> ∃ o', h'.get? b = some o'
  tups : ∀ b xs, H b = some (.tup xs) -> H' b = some (.tup xs)
  frzs : ∀ b o u, H b = some (.frz o u) -> H' b = some (.frz o u)
  tbls : ∀ b ps, H b = some (.tbl ps) -> ∃ more, H' b = some (.tbl (ps ++ more))
section
variable {fs fs' ex ex' : List Addr} {H H1 H2 : Hp} {h h1 h2 h' : Heap} {a x e : Addr} {o : HO}
theorem Un.any (u : Un fs ex H H1 h h1) {b : Addr} {ob : Obj} (q : h.get? b = some ob) (n : H b = none) (hx : b ∉ ex) : ∃ sl, h1.get? b = some { ob with slots := sl } := by
  by_cases hb : b ∈ fs
  . exact u.slot b ob q n hb hx
  . exact ⟨ob.slots, u.keep b ob q n hb hx⟩
theorem Un.kept (k : ∀ b u, h.get? b = some u -> h'.get? b = some u) : Un fs ex H H h h' :=
  ⟨fun b ob q _ _ _ => k b ob q, fun b ob q _ _ _ => ⟨ob.slots, k b ob q⟩, fun _ _ _ n _ => n, fun b ob q _ => ⟨ob, k b ob q⟩, fun _ _ q => q, fun _ _ _ q => q, fun _ ps q => ⟨#[], by rw [q]; simp⟩⟩
theorem Un.refl : Un fs ex H H h h := Un.kept fun _ _ q => q
theorem Un.laid (k : ∀ b u, h.get? b = some u -> h'.get? b = some u) (hp : h.objs.size <= a) (hn : H a = none) : Un fs ex H (upd H a o) h h' where
  keep := fun b u q _ _ _ => k b u q
  slot := fun b u q _ _ _ => ⟨u.slots, k b u q⟩
  free := fun b u q n _ => by rw [upd_ne (Nat.ne_of_lt (Nat.lt_of_lt_of_le (Heap.lt_size q) hp))]; exact n
  there := fun b u q _ => ⟨u, k b u q⟩
  tups := fun b xs q => by rw [upd_ne (ne_of_none q hn)]; exact q
  frzs := fun b u xs q => by rw [upd_ne (ne_of_none q hn)]; exact q
  tbls := fun b ps q => ⟨#[], by rw [upd_ne (ne_of_none q hn), q]; simp⟩
theorem Un.write (mu : Mut (H x)) (he : e = x \/ H e = some (.own x)) (k : ∀ b u, b ≠ e -> h.get? b = some u -> h'.get? b = some u) (heo : ∃ u, h'.get? e = some u) : Un fs ex H (upd H x o) h h' := by
  have hx : ∀ b, H b = none -> b ≠ x := fun b n z => by subst z; rw [n] at mu; exact mu
  have hb : ∀ b, H b = none -> b ≠ e := fun b n z => by
    subst z
    rcases he with r | r
    . exact hx b n r
    . rw [n] at r; cases r
  have hm : ∀ b u, H b = some u -> ¬ Mut (some u) -> b ≠ x := fun b u q nm z => by subst z; rw [q] at mu; exact nm mu
  refine ⟨fun b u q n _ _ => k b u (hb b n) q, fun b u q n _ _ => ⟨u.slots, k b u (hb b n) q⟩, fun b u q n _ => by rw [upd_ne (hx b n)]; exact n, fun b u q _ => ?_,
    fun b xs q => by rw [upd_ne (hm b _ q fun z => z)]; exact q, fun b u xs q => by rw [upd_ne (hm b _ q fun z => z)]; exact q, fun b ps q => ⟨#[], by rw [upd_ne (hm b _ q fun z => z), q]; simp⟩⟩
  by_cases hbe : b = e
  . subst hbe; exact heo
  . exact ⟨u, k b u hbe q⟩
end
def trk (h : Heap) (H : Hp) : List Addr := (List.range h.objs.size).filter fun a => (H a).isSome
def hidT (h : Heap) (H : Hp) : Heap := PySem.W.hideAll h (trk h H)
theorem hidT_size (h : Heap) (H : Hp) : (hidT h H).objs.size = h.objs.size := PySem.W.hideAll_size _ _
theorem hidT_get {h : Heap} {H : Hp} {b : Addr} {o : Obj} (e : h.get? b = some o) (n : H b = none) : (hidT h H).get? b = some o :=
  PySem.W.hideAll_get _ e fun hm => by
    have q : (H b).isSome = true := (List.mem_filter.mp hm).2
    rw [n] at q; simp at q
theorem of_hidT {h : Heap} {H : Hp} {b : Addr} {o : Obj} (e : (hidT h H).get? b = some o) : h.get? b = some o /\ H b = none := by
  have e' : h.get? b = some o := PySem.W.of_hideAll (trk h H) e
  refine ⟨e', ?_⟩
  cases q : H b with
  | none => rfl
  | some x =>
    have hm : b ∈ trk h H := List.mem_filter.mpr ⟨List.mem_range.mpr (Heap.lt_size e'), by simp [q]⟩
    have z : (hidT h H).get? b = none := PySem.W.hideAll_none (trk h H) hm
    rw [z] at e; cases e
def allNews (g h : Heap) (L : Addr) : List (Addr × Obj) := (List.range h.objs.size).filterMap fun a => if a = L \/ (g.get? a).isSome = true then none else (h.get? a).map fun o => (a, o)
def rest (g h : Heap) (L d : Addr) : List (Addr × Obj) := (allNews g h L).filter fun p => decide (p.1 ≠ d)
structure Mod (K : PySem.W.Frag) (mg : Str -> Option Value) (base : Heap) : Prop where
  kin : K.In base
  glob : base.Ns mainGlobals mg
  blt : ∃ mb, base.Ns builtinsNs mb /\ ∀ x : Str, x ≠ "__name__" -> mb x = bootBuiltins x
  nolimit : base.NoLimit
structure Cx where
  prog : Program
  w : World
  K : PySem.W.Frag
  mg : Str -> Option Value
  base : Heap
  A : Around
  N : List Str
  s₀ : Shared
  H₀ : Hp
  env : Env
  outer : List Env
  stack : List Env
  ex : List Addr
  fn : Str -> Bool
  calm : Bool
  pn : List (Addr × Obj)
  xe : Value -> Shared -> Prop
def frs (l : List Env) : List Addr := l.filterMap (·.frame)
abbrev Cx.fs (X : Cx) : List Addr := frs X.outer
def Vis (sc : Scope) (x : Str) : Prop := sc.names.lookup x = some .local \/ sc.names.lookup x = some .cell \/ sc.names.lookup x = some .free
def Loc (sc : Scope) (x : Str) : Prop := sc.names.lookup x = some .local \/ sc.names.lookup x = some .cell
def Look (env : Env) (h : Heap) (m : Str -> Option Value) (x : Str) (u : Value) : Prop :=
  (env.kindOf x = some .local /\ m x = some u) \/ ((env.kindOf x = some .cell \/ env.kindOf x = some .free) /\ ∃ c, env.cells.lookup x = some c /\ h.IsCell c (some u))
structure Cx.Ok (X : Cx) : Prop where
  mod : Mod X.K X.mg X.base
  kind : X.env.scope.kind = .function
  glob : X.env.globals = mainGlobals
  blt : X.env.builtins = builtinsNs
  above : X.s₀.heap.objs.size <= X.env.locals
  inj : ∀ x y c, X.env.cells.lookup x = some c -> X.env.cells.lookup y = some c -> x = y
  has : ∀ x, (X.env.kindOf x = some .cell \/ X.env.kindOf x = some .free) -> ∃ c, X.env.cells.lookup x = some c
  cab : ∀ x c, X.fn x = true -> X.env.cells.lookup x = some c -> X.s₀.heap.objs.size <= c
  hd : X.calm = true -> X.A.handled = none
  frames : X.A.frames = some X.stack
  stk : X.stack = X.outer \/ (X.stack = X.env :: X.outer /\ X.env.frame = some X.env.locals)
  exf : ∀ b ∈ X.ex, b ≠ X.env.locals /\ ∀ x c, X.env.cells.lookup x = some c -> c ≠ b
  bs : ∀ b o, X.base.get? b = some o -> X.s₀.heap.get? b = some o /\ X.H₀ b = none
  bsz : X.base.objs.size <= X.s₀.heap.objs.size
  noex : ∀ b o, X.base.get? b = some o -> b ∉ X.ex
  exfs : ∀ b ∈ X.ex, b ∉ X.fs
  funs : X.s₀.heap.FunFrames X.base X.outer
  frf : ∀ b ∈ X.fs, X.H₀ b = none
structure Inv (X : Cx) (pins : List (Addr × Obj)) (σ : List (Option V)) (H : Hp) (s : Shared) : Prop where
  ok : X.Ok
  os : s.os = X.s₀.os
  bare : AllBare s.gens
  base : Un X.fs X.ex X.H₀ H X.s₀.heap s.heap
  loc : ∃ m, s.heap.Ns X.env.locals m /\ ∀ (i : Nat) (x : Str) (v : V), X.N[i]? = some x -> σ[i]? = some (some v) -> Vis X.env.scope x -> ∃ u, RelV v u /\ Look X.env s.heap m x u
  cell : ∀ x c, X.env.cells.lookup x = some c -> ∃ v, s.heap.IsCell c v
  free : H X.env.locals = none
  freeC : ∀ x c, X.env.cells.lookup x = some c -> H c = none
  pin : ∀ p ∈ X.pn ++ pins, s.heap.get? p.1 = some p.2 /\ H p.1 = none /\ p.1 ≠ X.env.locals /\ p.1 ∉ X.fs /\ ∀ v, p.2.data ≠ .cell v
  hok : HOk X.prog X.w H s.heap
  len : σ.length = X.N.length
section
variable {X : Cx} {pins : List (Addr × Obj)} {σ : List (Option V)} {H H' : Hp} {s : Shared} {h' : Heap}
theorem Cx.Ok.nofr (ok : X.Ok) {b : Addr} {o : Obj} (e : X.base.get? b = some o) : b ∉ X.fs := fun hb => by
  have := (ok.funs.mem hb).1
  rw [e] at this; cases this
theorem Inv.bs (I : Inv X pins σ H s) : ∀ b o, X.base.get? b = some o -> s.heap.get? b = some o /\ H b = none := fun b o e =>
  ⟨I.base.keep b o (I.ok.bs b o e).1 (I.ok.bs b o e).2 (I.ok.nofr e) (I.ok.noex b o e), I.base.free b o (I.ok.bs b o e).1 (I.ok.bs b o e).2 (I.ok.noex b o e)⟩
theorem Inv.bk (I : Inv X pins σ H s) : ∀ b o, X.base.get? b = some o -> s.heap.get? b = some o := fun b o e => (I.bs b o e).1
theorem Inv.mod (I : Inv X pins σ H s) : Mod X.K X.mg X.base := I.ok.mod
theorem Inv.kIn (I : Inv X pins σ H s) : X.K.In s.heap := I.ok.mod.kin.keeps I.bk
theorem Inv.lt (I : Inv X pins σ H s) : X.env.locals < s.heap.objs.size := let ⟨_, hn, _⟩ := I.loc; hn.lt
theorem Inv.sz (I : Inv X pins σ H s) : X.s₀.heap.objs.size <= s.heap.objs.size := Nat.le_trans I.ok.above (Nat.le_of_lt I.lt)
theorem Inv.nofs (I : Inv X pins σ H s) {a : Addr} (h : s.heap.objs.size <= a) : a ∉ X.fs := fun hb => by
  obtain ⟨_, o, ho, _⟩ := I.ok.funs.mem hb
  exact absurd (Nat.lt_of_lt_of_le (Heap.lt_size ho) (Nat.le_trans I.sz h)) (Nat.lt_irrefl _)
theorem Inv.cne (I : Inv X pins σ H s) : ∀ x c, X.env.cells.lookup x = some c -> c ≠ X.env.locals := fun x c e z => by
  obtain ⟨v, o, ho, hd⟩ := I.cell x c e
  obtain ⟨m, ⟨o', es, ep, ho', hd', _⟩, _⟩ := I.loc
  rw [z, ho'] at ho; cases ho; rw [hd'] at hd; cases hd
theorem Inv.funs (I : Inv X pins σ H s) : s.heap.FunFrames X.base X.outer := by
  have all : ∀ (l : List Env), (∀ b ∈ frs l, b ∈ X.fs) -> X.s₀.heap.FunFrames X.base l -> s.heap.FunFrames X.base l := by
    intro l
    induction l with
    | nil => intro _ _; trivial
    | cons env r ih =>
      intro hs hl
      obtain ⟨hk, ⟨L, o, hf, hn, ho, hd⟩, hr⟩ := hl
      have hL : L ∈ X.fs := hs L (by unfold frs; rw [List.filterMap_cons, hf]; exact List.mem_cons_self)
      obtain ⟨sl, e⟩ := I.base.slot L o ho (I.ok.frf L hL) hL fun z => I.ok.exfs L z hL
      exact ⟨hk, ⟨L, _, hf, hn, e, hd⟩, ih (fun b hb => hs b (by unfold frs; rw [List.filterMap_cons, hf]; exact List.mem_cons_of_mem _ hb)) hr⟩
  exact all X.outer (fun _ hb => hb) I.ok.funs
theorem Inv.stack (I : Inv X pins σ H s) : s.heap.FunFrames X.base X.stack := by
  rcases I.ok.stk with e | ⟨e, hf⟩
  . rw [e]; exact I.funs
  . rw [e]
    obtain ⟨m, hn, _⟩ := I.loc
    refine .cons (by rw [I.ok.kind]; decide) hf hn ?_ I.funs
    exact Heap.get?_none_of_le (Nat.le_trans I.ok.bsz I.ok.above)
theorem Inv.stkSub (I : Inv X pins σ H s) : ∀ b ∈ frs X.stack, b ∈ X.env.locals :: X.fs := fun b hb => by
  rcases I.ok.stk with e | ⟨e, hf⟩
  . rw [e] at hb; exact List.mem_cons_of_mem _ hb
  . rw [e] at hb
    unfold frs at hb
    rw [List.filterMap_cons, hf] at hb
    exact hb
theorem Inv.stkFree (I : Inv X pins σ H s) : ∀ b ∈ frs X.stack, H b = none := fun b hb => by
  rcases List.mem_cons.mp (I.stkSub b hb) with e | hb
  . rw [e]; exact I.free
  . obtain ⟨_, o, ho, _⟩ := I.ok.funs.mem hb
    exact I.base.free b o ho (I.ok.frf b hb) fun z => I.ok.exfs b z hb
theorem Inv.step {g' : Array GenState} {t' : Nat} {d' : Drawn} {ch : List Addr} (I : Inv X pins σ H s)
    (hch : ∀ b ∈ ch, (b ∈ X.ex \/ X.s₀.heap.objs.size <= b) /\ b ≠ X.env.locals /\ (∀ x c, X.env.cells.lookup x = some c -> c ≠ b) /\ ∀ p ∈ X.pn ++ pins, p.1 ≠ b)
    (keep : ∀ b o, b ≠ X.env.locals -> b ∉ X.fs -> b ∉ ch -> s.heap.get? b = some o -> H b = none -> h'.get? b = some o)
    (slot : ∀ b o, b ≠ X.env.locals -> b ∈ X.fs -> b ∉ ch -> s.heap.get? b = some o -> H b = none -> ∃ sl, h'.get? b = some { o with slots := sl }) (free : ∀ b o, b ∉ ch -> s.heap.get? b = some o -> H b = none -> H' b = none)
    (there : ∀ b o, b ∉ ch -> s.heap.get? b = some o -> ∃ o', h'.get? b = some o')
    (tups : ∀ b xs, H b = some (.tup xs) -> H' b = some (.tup xs)) (frzs : ∀ b o u, H b = some (.frz o u) -> H' b = some (.frz o u)) (tbls : ∀ b ps, H b = some (.tbl ps) -> ∃ more, H' b = some (.tbl (ps ++ more)))
    (ns : ∀ m, s.heap.Ns X.env.locals m -> h'.Ns X.env.locals m) (hok : HOk X.prog X.w H' h') (hg : AllBare g') :
    Inv X pins σ H' { s with heap := h', gens := g', drawn := d', toks := t' } := by
  have neL : ∀ b o, X.s₀.heap.get? b = some o -> b ≠ X.env.locals := fun b o e => Nat.ne_of_lt (Nat.lt_of_lt_of_le (Heap.lt_size e) I.ok.above)
  have neC : ∀ b o, X.s₀.heap.get? b = some o -> b ∉ X.ex -> b ∉ ch := fun b o e hx hb => by
    rcases (hch b hb).1 with z | z
    . exact hx z
    . exact absurd (Nat.lt_of_lt_of_le (Heap.lt_size e) z) (Nat.lt_irrefl _)
  have cellK : ∀ x c, X.env.cells.lookup x = some c -> ∀ v, s.heap.IsCell c v -> h'.IsCell c v := fun x c e v ⟨o, ho, hd⟩ => by
    have nch : c ∉ ch := fun z => (hch c z).2.2.1 x c e rfl
    by_cases hc : c ∈ X.fs
    . obtain ⟨sl, q⟩ := slot c o (I.cne x c e) hc nch ho (I.freeC x c e)
      exact ⟨_, q, hd⟩
    . exact ⟨o, keep c o (I.cne x c e) hc nch ho (I.freeC x c e), hd⟩
  refine ⟨I.ok, I.os, hg, ⟨fun b o e n hb hx => ?_, fun b o e n hb hx => ?_, fun b o e n hx => ?_, fun b o e hx => ?_, fun b xs e => tups b xs (I.base.tups b xs e), fun b o xs e => frzs b o xs (I.base.frzs b o xs e), fun b ps e => ?_⟩, ?_, fun x c e => ?_, ?_, fun x c e => ?_, fun p hp => ?_, hok, I.len⟩
  . exact keep b o (neL b o e) hb (neC b o e hx) (I.base.keep b o e n hb hx) (I.base.free b o e n hx)
  . obtain ⟨sl, e1⟩ := I.base.slot b o e n hb hx
    obtain ⟨sl', e2⟩ := slot b _ (neL b o e) hb (neC b o e hx) e1 (I.base.free b o e n hx)
    exact ⟨sl', e2⟩
  . obtain ⟨o', e1⟩ := I.base.there b o e hx
    exact free b o' (neC b o e hx) e1 (I.base.free b o e n hx)
  . obtain ⟨o', e1⟩ := I.base.there b o e hx
    exact there b o' (neC b o e hx) e1
  . obtain ⟨m1, e1⟩ := I.base.tbls b ps e
    obtain ⟨m2, e2⟩ := tbls b _ e1
    exact ⟨m1 ++ m2, by rw [e2, Array.append_assoc]⟩
  . obtain ⟨m, hn, hl⟩ := I.loc
    refine ⟨m, ns m hn, fun i x v e1 e2 e3 => ?_⟩
    obtain ⟨u, r, l⟩ := hl i x v e1 e2 e3
    refine ⟨u, r, ?_⟩
    rcases l with l | ⟨k, c, e, z⟩
    . exact .inl l
    . exact .inr ⟨k, c, e, cellK x c e _ z⟩
  . obtain ⟨v, z⟩ := I.cell x c e
    exact ⟨v, cellK x c e v z⟩
  . obtain ⟨m, ⟨o, _, _, ho, _⟩, _⟩ := I.loc
    exact free _ o (fun z => (hch _ z).2.1 rfl) ho I.free
  . obtain ⟨v, o, ho, hd⟩ := I.cell x c e
    exact free c o (fun z => (hch c z).2.2.1 x c e rfl) ho (I.freeC x c e)
  . obtain ⟨e, n, ne, nf, d⟩ := I.pin p hp
    have nch : p.1 ∉ ch := fun z => (hch p.1 z).2.2.2 p hp rfl
    exact ⟨keep p.1 p.2 ne nf nch e n, free p.1 p.2 nch e n, ne, nf, d⟩
theorem Inv.un {t' : Nat} (I : Inv X pins σ H s) (u : Un X.fs [] H H' s.heap h') (hok : HOk X.prog X.w H' h') : Inv X pins σ H' { s with heap := h', toks := t' } := by
  obtain ⟨m, ⟨o, es, ep, ho, r⟩, _⟩ := id I.loc
  obtain ⟨sl, hL⟩ := u.any ho I.free (by simp)
  exact I.step (g' := s.gens) (d' := s.drawn) (ch := []) (fun _ z => nomatch z) (fun b o _ hb _ e n => u.keep b o e n hb (by simp)) (fun b o _ hb _ e n => u.slot b o e n hb (by simp)) (fun b o _ e n => u.free b o e n (by simp)) (fun b o _ e => u.there b o e (by simp)) u.tups u.frzs u.tbls (fun m' hm => by
    obtain ⟨o', es', ep', ho', r'⟩ := hm
    rw [ho] at ho'; cases ho'
    exact ⟨_, es', ep', hL, r'⟩) hok I.bare
theorem Inv.call {g' : Array GenState} {t' : Nat} {d' : Drawn} {ch : List Addr} (I : Inv X pins σ H s) (u : Un (frs X.stack) ch H H' s.heap h') (hok : HOk X.prog X.w H' h') (hg : AllBare g')
    (hch : ∀ b ∈ ch, (b ∈ X.ex \/ X.s₀.heap.objs.size <= b) /\ b ≠ X.env.locals /\ (∀ x c, X.env.cells.lookup x = some c -> c ≠ b) /\ ∀ p ∈ X.pn ++ pins, p.1 ≠ b) :
    Inv X pins σ H' { s with heap := h', gens := g', drawn := d', toks := t' } := by
  obtain ⟨m, ⟨o, es, ep, ho, r⟩, _⟩ := id I.loc
  obtain ⟨sl, hL⟩ := u.any ho I.free fun z => (hch _ z).2.1 rfl
  exact I.step (ch := ch) hch (fun b o hL hb hc e n => u.keep b o e n (fun z => (List.mem_cons.mp (I.stkSub b z)).elim hL hb) hc) (fun b o _ _ hc e n => u.any e n hc) (fun b o hc e n => u.free b o e n hc) (fun b o hc e => u.there b o e hc) u.tups u.frzs u.tbls (fun m' hm => by
    obtain ⟨o', es', ep', ho', r'⟩ := hm
    rw [ho] at ho'; cases ho'
    exact ⟨_, es', ep', hL, r'⟩) hok hg
theorem Inv.turned {t' : Nat} {it : Addr} (I : Inv X pins σ H s) (k : ∀ b o, b ≠ it -> s.heap.get? b = some o -> h'.get? b = some o) (hn : H it = none) (hL : it ≠ X.env.locals)
    (h1 : it ∈ X.ex \/ X.s₀.heap.objs.size <= it) (h2 : ∀ x c, X.env.cells.lookup x = some c -> c ≠ it) (h3 : ∀ p ∈ X.pn ++ pins, p.1 ≠ it) : Inv X pins σ H { s with heap := h', toks := t' } := by
  have nit : ∀ b u, H b = some u -> b ≠ it := fun b u e z => by rw [z, hn] at e; cases e
  refine I.step (g' := s.gens) (d' := s.drawn) (ch := [it]) (fun b hb => ?_) (fun b o _ _ hc e _ => k b o (fun z => hc (by simp [z])) e) (fun b o _ _ hc e _ => ⟨o.slots, k b o (fun z => hc (by simp [z])) e⟩) (fun _ _ _ _ n => n)
    (fun b o hc e => ⟨o, k b o (fun z => hc (by simp [z])) e⟩) (fun _ _ e => e) (fun _ _ _ e => e) (fun b ps e => ⟨#[], by rw [e]; simp⟩) (fun m hm => ?_) (fun b u e => ?_) I.bare
  . have e : b = it := by simpa using hb
    subst e
    exact ⟨h1, hL, h2, h3⟩
  . obtain ⟨o, es, ep, ho, r⟩ := hm
    exact ⟨o, es, ep, k _ o (Ne.symm hL) ho, r⟩
  . refine (I.hok b u e).stay (fun c v hc q => k c v ?_ q) (fun _ q => q) fun _ _ q => q
    rcases hc with z | z
    . rw [z]; exact nit b u e
    . exact nit c _ z
theorem Inv.tok (I : Inv X pins σ H s) (t : Nat) : Inv X pins σ H { s with toks := t } := I.un (h' := s.heap) (t' := t) Un.refl I.hok
theorem Inv.kept {t' : Nat} (I : Inv X pins σ H s) (k : ∀ b u, s.heap.get? b = some u -> h'.get? b = some u) : Inv X pins σ H { s with heap := h', toks := t' } := I.un (Un.kept k) (I.hok.kept k)
theorem Inv.laid {a : Addr} {o : HO} {t' : Nat} (I : Inv X pins σ H s) (k : ∀ b u, s.heap.get? b = some u -> h'.get? b = some u) (hp : s.heap.objs.size <= a) (new : ObjOk X.prog X.w (upd H a o) h' a o) :
    Inv X pins σ (upd H a o) { s with heap := h', toks := t' } := I.un (Un.laid k hp (I.hok.fresh hp)) (I.hok.laid k hp new)
theorem Inv.write {x e : Addr} {o : HO} {t' : Nat} (I : Inv X pins σ H s) (mu : Mut (H x)) (he : e = x \/ H e = some (.own x)) (k : ∀ b u, b ≠ e -> s.heap.get? b = some u -> h'.get? b = some u) (heo : ∃ u, h'.get? e = some u)
    (new : ObjOk X.prog X.w (upd H x o) h' x o) : Inv X pins σ (upd H x o) { s with heap := h', toks := t' } := I.un (Un.write mu he k heo) (I.hok.write mu he k heo new)
theorem Inv.weak {σ' : List (Option V)} (I : Inv X pins σ H s) (hl : σ'.length = σ.length) (w : ∀ (i : Nat) v, σ'[i]? = some (some v) -> σ[i]? = some (some v)) : Inv X pins σ' H s :=
  ⟨I.ok, I.os, I.bare, I.base, let ⟨m, hn, hl'⟩ := I.loc; ⟨m, hn, fun i x v e1 e2 e3 => hl' i x v e1 (w i v e2) e3⟩, I.cell, I.free, I.freeC, I.pin, I.hok, hl.trans I.len⟩
theorem Inv.pins_of {pins' : List (Addr × Obj)} (I : Inv X pins σ H s) (h : ∀ p ∈ pins', s.heap.get? p.1 = some p.2 /\ H p.1 = none /\ p.1 ≠ X.env.locals /\ p.1 ∉ X.fs /\ ∀ v, p.2.data ≠ .cell v) : Inv X pins' σ H s :=
  ⟨I.ok, I.os, I.bare, I.base, I.loc, I.cell, I.free, I.freeC, fun p hp => (List.mem_append.mp hp).elim (fun z => I.pin p (List.mem_append_left _ z)) (h p), I.hok, I.len⟩
theorem nodup_ix {N : List Str} (hN : N.Nodup) {i j : Nat} {x : Str} (a : N[i]? = some x) (b : N[j]? = some x) : i = j := by
  obtain ⟨h1, e1⟩ := List.getElem?_eq_some_iff.mp a
  obtain ⟨h2, e2⟩ := List.getElem?_eq_some_iff.mp b
  exact (List.getElem_inj hN).mp (e1.trans e2.symm)
theorem store_ok2 {M : Model} {A : Around} {E : Value -> Shared -> Prop} {i : Nat} {x : Str} {v : V} {u : Value} {Q : Unit -> Shared -> Prop} (I : Inv X pins σ H s) (hN : X.N.Nodup) (hi : X.N[i]? = some x) (hx : Loc X.env.scope x) (r : RelV v u)
    (h : ∀ s', Inv X pins (σ.set i (some v)) H s' -> (∃ a, Heap.SameBut a s.heap s'.heap /\ (a = X.env.locals \/ X.env.cells.lookup x = some a)) -> Q () s') (hf : X.fn x = true \/ X.env.scope.names.lookup x = some .local := by first | exact .inl rfl | exact .inr rfl | assumption) : wpAny M A (storeName X.env x u) Q E s := by
  obtain ⟨m, hn, hl⟩ := id I.loc
  have hcls : (X.env.scope.kind == .class || (X.env.scope.kind == .module && X.env.locals != X.env.globals)) = false := by rw [I.ok.kind]; rfl
  have hiσ : i < σ.length := by rw [I.len]; exact (List.getElem?_eq_some_iff.mp hi).1
  have cne := I.cne
  have tracked : ∀ {a : Addr} {h' : Heap}, (∃ o, s.heap.get? a = some o /\ H a = none) -> Heap.SameBut a s.heap h' -> HOk X.prog X.w H h' := fun {a h'} ha hs b ob e => by
    obtain ⟨_, _, hfree⟩ := ha
    refine (I.hok b ob e).stay (fun c w' hc q => (hs.2 c ?_).trans q) (fun _ q => q) fun _ _ q => q
    rintro rfl
    rcases hc with rfl | hc
    . rw [hfree] at e; cases e
    . rw [hfree] at hc; cases hc
  rcases hx with hk | hk
  . refine wpAny_storeName_local hk hn (fun h' hn' hs => ?_) hcls
    obtain ⟨oL, _, _, hoL, _⟩ := id hn
    refine h _ ⟨I.ok, I.os, I.bare, ⟨fun b o e n hb hx => ?_, fun b o e n hb hx => ?_, I.base.free, fun b o e hx => ?_, I.base.tups, I.base.frzs, I.base.tbls⟩, ⟨_, hn', fun j y v' e1 e2 e3 => ?_⟩, fun y c e => ?_, I.free, I.freeC, fun p hp => ?_, tracked ⟨oL, hoL, I.free⟩ hs, by simpa using I.len⟩ ⟨_, hs, .inl rfl⟩
    . exact (hs.2 b (Nat.ne_of_lt (Nat.lt_of_lt_of_le (Heap.lt_size e) I.ok.above))).trans (I.base.keep b o e n hb hx)
    . obtain ⟨sl, e1⟩ := I.base.slot b o e n hb hx
      exact ⟨sl, (hs.2 b (Nat.ne_of_lt (Nat.lt_of_lt_of_le (Heap.lt_size e) I.ok.above))).trans e1⟩
    . obtain ⟨o', e1⟩ := I.base.there b o e hx
      exact ⟨o', (hs.2 b (Nat.ne_of_lt (Nat.lt_of_lt_of_le (Heap.lt_size e) I.ok.above))).trans e1⟩
    . by_cases hj : j = i
      . subst hj
        rw [hi] at e1; cases e1
        rw [List.getElem?_set_self hiσ] at e2
        cases e2
        exact ⟨u, r, .inl ⟨hk, by simp⟩⟩
      . rw [List.getElem?_set_ne (Ne.symm hj)] at e2
        obtain ⟨u', r', q⟩ := hl j y v' e1 e2 e3
        refine ⟨u', r', ?_⟩
        rcases q with ⟨k, e⟩ | ⟨k, c, e, z⟩
        . refine .inl ⟨k, ?_⟩
          have : y ≠ x := fun e => hj (nodup_ix hN e1 (e ▸ hi))
          simp [this, e]
        . exact .inr ⟨k, c, e, z.sameBut hs (cne y c e)⟩
    . obtain ⟨w', z⟩ := I.cell y c e
      exact ⟨w', z.sameBut hs (cne y c e)⟩
    . obtain ⟨e, n, ne, nf, d⟩ := I.pin p hp
      exact ⟨(hs.2 p.1 ne).trans e, n, ne, nf, d⟩
  . have hfn : X.fn x = true := by
      rcases hf with z | z
      . exact z
      . rw [z] at hk; cases hk
    obtain ⟨c, hc⟩ := I.ok.has x (.inl hk)
    obtain ⟨w', z⟩ := I.cell x c hc
    refine wpAny_storeName_cell I.ok.kind hk hc z (fun h' hc' hs => ?_)
    obtain ⟨oc, hoc, hocd⟩ := id z
    refine h { s with heap := h' } ⟨I.ok, I.os, I.bare, ⟨fun b o e n hb hx => ?_, fun b o e n hb hx => ?_, I.base.free, fun b o e hx => ?_, I.base.tups, I.base.frzs, I.base.tbls⟩, ⟨m, hn.sameBut hs (Ne.symm (cne x c hc)), fun j y v' e1 e2 e3 => ?_⟩, fun y c' e => ?_, I.free, I.freeC, fun p hp => ?_, tracked ⟨oc, hoc, I.freeC x c hc⟩ hs, by simpa using I.len⟩ ⟨c, hs, .inr hc⟩
    . exact (hs.2 b (Nat.ne_of_lt (Nat.lt_of_lt_of_le (Heap.lt_size e) (I.ok.cab x c hfn hc)))).trans (I.base.keep b o e n hb hx)
    . obtain ⟨sl, e1⟩ := I.base.slot b o e n hb hx
      exact ⟨sl, (hs.2 b (Nat.ne_of_lt (Nat.lt_of_lt_of_le (Heap.lt_size e) (I.ok.cab x c hfn hc)))).trans e1⟩
    . obtain ⟨o', e1⟩ := I.base.there b o e hx
      exact ⟨o', (hs.2 b (Nat.ne_of_lt (Nat.lt_of_lt_of_le (Heap.lt_size e) (I.ok.cab x c hfn hc)))).trans e1⟩
    . by_cases hj : j = i
      . subst hj
        rw [hi] at e1; cases e1
        rw [List.getElem?_set_self hiσ] at e2
        cases e2
        exact ⟨u, r, .inr ⟨.inl hk, c, hc, hc'⟩⟩
      . rw [List.getElem?_set_ne (Ne.symm hj)] at e2
        obtain ⟨u', r', q⟩ := hl j y v' e1 e2 e3
        refine ⟨u', r', ?_⟩
        rcases q with q | ⟨k, c', e, z'⟩
        . exact .inl q
        . refine .inr ⟨k, c', e, z'.sameBut hs ?_⟩
          rintro rfl
          exact hj (nodup_ix hN e1 (I.ok.inj _ _ _ e hc ▸ hi))
    . by_cases hcc : c' = c
      . subst hcc; exact ⟨_, hc'⟩
      . obtain ⟨w2, z2⟩ := I.cell y c' e
        exact ⟨w2, z2.sameBut hs hcc⟩
    . obtain ⟨e, n, ne, nf, d⟩ := I.pin p hp
      refine ⟨(hs.2 p.1 ?_).trans e, n, ne, nf, d⟩
      intro q
      rw [q, hoc] at e
      have q' : oc = p.2 := Option.some.inj e
      exact d w' (by rw [<- q']; exact hocd)
theorem store_ok {M : Model} {A : Around} {E : Value -> Shared -> Prop} {i : Nat} {x : Str} {v : V} {u : Value} {Q : Unit -> Shared -> Prop} (I : Inv X pins σ H s) (hN : X.N.Nodup) (hi : X.N[i]? = some x) (hx : Loc X.env.scope x) (r : RelV v u)
    (h : ∀ s', Inv X pins (σ.set i (some v)) H s' -> Q () s') (hf : X.fn x = true \/ X.env.scope.names.lookup x = some .local := by first | exact .inl rfl | exact .inr rfl | assumption) : wpAny M A (storeName X.env x u) Q E s :=
  store_ok2 I hN hi hx r (fun s' I' _ => h s' I') hf
theorem Inv.call' {s' : Shared} {ch : List Addr} (I : Inv X pins σ H s) (ho : s'.os = s.os) (u : Un (frs X.stack) ch H H' s.heap s'.heap) (hok : HOk X.prog X.w H' s'.heap) (hg : AllBare s'.gens)
    (hch : ∀ b ∈ ch, (b ∈ X.ex \/ X.s₀.heap.objs.size <= b) /\ b ≠ X.env.locals /\ (∀ x c, X.env.cells.lookup x = some c -> c ≠ b) /\ ∀ p ∈ X.pn ++ pins, p.1 ≠ b) : Inv X pins σ H' s' := by
  obtain ⟨h', g', d', t', o'⟩ := s'
  have e : o' = s.os := ho
  subst e
  exact I.call (g' := g') (t' := t') (d' := d') u hok hg hch
end
abbrev XK := Value -> Option Addr -> Hp -> Prop
abbrev St := List (Option V)
abbrev VK := V -> Hp -> Prop
abbrev TE := St -> Hp -> VK -> Prop
abbrev TT := St -> Hp -> (Bool -> Hp -> Prop) -> Prop
abbrev TA := St -> Hp -> (List V -> Hp -> Prop) -> Prop
structure Ends where
  nx : St -> Hp -> Prop
  rt : VK
  bk : St -> Hp -> Prop := fun _ _ => False
  ct : St -> Hp -> Prop := fun _ _ => False
abbrev TS := Ends -> St -> Hp -> Prop
def EP (X : Cx) (pins : List (Addr × Obj)) (σ : St) (Q : VK) (u : Value) (s' : Shared) : Prop := ∃ v H', Inv X pins σ H' s' /\ RelV v u /\ Q v H'
def TP (X : Cx) (pins : List (Addr × Obj)) (σ : St) (Q : Bool -> Hp -> Prop) (b : Bool) (s' : Shared) : Prop := ∃ H', Inv X pins σ H' s' /\ Q b H'
def AP (X : Cx) (pins : List (Addr × Obj)) (σ : St) (Q : List V -> Hp -> Prop) (us : List Value) (s' : Shared) : Prop := ∃ vs H', Inv X pins σ H' s' /\ Vals vs us /\ Q vs H'
def SP (X : Cx) (pins : List (Addr × Obj)) (D : Ends) (f : Flow) (s' : Shared) : Prop :=
  match f with
  | .next => ∃ σ' H', Inv X pins σ' H' s' /\ D.nx σ' H'
  | .brk => ∃ σ' H', Inv X pins σ' H' s' /\ D.bk σ' H'
  | .cont => ∃ σ' H', Inv X pins σ' H' s' /\ D.ct σ' H'
  | .ret u => ∃ v σ' H', Inv X pins σ' H' s' /\ RelV v u /\ D.rt v H'
def PE (X : Cx) (e : Expr) (t : TE) : Prop :=
  ∀ (pins : List (Addr × Obj)) (s : Shared) (σ : St) (H : Hp) (Q : VK), Inv X pins σ H s -> t σ H Q -> wpAny (model X.prog X.w) X.A (eval e X.env) (EP X pins σ Q) X.xe s
def PT (X : Cx) (e : Expr) (t : TT) : Prop :=
  ∀ (pins : List (Addr × Obj)) (s : Shared) (σ : St) (H : Hp) (Q : Bool -> Hp -> Prop), Inv X pins σ H s -> t σ H Q -> wpAny (model X.prog X.w) X.A (isTrue e X.env (eval e X.env)) (TP X pins σ Q) X.xe s
def PW (X : Cx) (e : Expr) (t : TT) : Prop :=
  ∀ (whole : Sem Value) (pins : List (Addr × Obj)) (s : Shared) (σ : St) (H : Hp) (Q : Bool -> Hp -> Prop), Inv X pins σ H s -> t σ H Q -> wpAny (model X.prog X.w) X.A (isTrue e X.env whole) (TP X pins σ Q) X.xe s
theorem PW.pt {X : Cx} {e : Expr} {t : TT} (h : PW X e t) : PT X e t := h _
def PA (X : Cx) (es : List Expr) (t : TA) : Prop :=
  ∀ (pos : Pos) (pins : List (Addr × Obj)) (s : Shared) (σ : St) (H : Hp) (Q : List V -> Hp -> Prop), Inv X pins σ H s -> t σ H Q -> wpAny (model X.prog X.w) X.A (spliced (backTo pos (starEach es X.env))) (AP X pins σ Q) X.xe s
def PS (X : Cx) (st : Stmt) (t : TS) : Prop :=
  ∀ (pins : List (Addr × Obj)) (s : Shared) (σ : St) (H : Hp) (D : Ends), Inv X pins σ H s -> t D σ H -> wpAny (model X.prog X.w) X.A (exec st X.env) (SP X pins D) X.xe s
def PSs (X : Cx) (st : List Stmt) (t : TS) : Prop :=
  ∀ (pins : List (Addr × Obj)) (s : Shared) (σ : St) (H : Hp) (D : Ends), Inv X pins σ H s -> t D σ H -> wpAny (model X.prog X.w) X.A (execs st X.env) (SP X pins D) X.xe s
theorem thn {α : Type} {t : Sem α} {Q Q' : α -> Shared -> Prop} {M : Model} {A : Around} {E : Value -> Shared -> Prop} {s : Shared} (h : wpAny M A t Q E s) (hQ : ∀ a s, Q a s -> Q' a s) : wpAny M A t Q' E s := wpAny_mono h hQ fun _ _ x => x
section
variable {X : Cx}
def tVar (i : Nat) : TE := fun σ H Q => ∃ v, σ[i]? = some (some v) /\ Q v H
def tC (v : V) : TE := fun _ H Q => Q v H
theorem pe_var {i : Nat} {x : Str} {pos : Pos} (hN : X.N[i]? = some x) (hv : Vis X.env.scope x) (hd : (x == ("__debug__" : Str)) = false := by decide) (hcd : (x == ("__classdict__" : Str)) = false := by decide) : PE X (.Name x pos) (tVar i) := by
  intro pins s σ H Q I h
  obtain ⟨v, e, h⟩ := h
  obtain ⟨m, hn, hl⟩ := I.loc
  obtain ⟨u, r, l⟩ := hl i x v hN e hv
  have fin : EP X pins σ Q u s := ⟨v, H, I, r, h⟩
  rcases l with ⟨hk, hm⟩ | ⟨hk, c, hc, hcell⟩
  . exact wpAny_Name (wpAny_loadName_local I.ok.kind hk hn hm fin) hd
  . rcases hk with hk | hk
    . exact wpAny_Name (wpAny_loadName_cell I.ok.kind hk hc hcell fin) hd
    . exact wpAny_Name (wpAny_loadName_free I.ok.kind hk hc hcell fin hcd) hd
theorem pe_int {i j pos} : PE X (.Constant (.int i) j pos) (tC (.int i)) := fun _ _ _ H _ I h => wpAny_Constant_int ⟨.int i, H, I.tok _, ⟨_, rfl⟩, h⟩
theorem pe_bl {b j pos} : PE X (.Constant (.bool b) j pos) (tC (.bl b)) := fun _ _ _ H _ I h => Constant_bool ⟨.bl b, H, I, rfl, h⟩
theorem pe_non {j pos} : PE X (.Constant .none j pos) (tC .non) := fun _ _ _ H _ I h => Constant_none ⟨.non, H, I, rfl, h⟩
def Gl (X : Cx) (x : Str) : Prop := X.env.kindOf x = some .globalImplicit
theorem ld_glob {E : Value -> Shared -> Prop} {pins : List (Addr × Obj)} {s : Shared} {σ : St} {H : Hp} {x : Str} {u : Value} {pos : Pos} {Q : Value -> Shared -> Prop} (I : Inv X pins σ H s) (hg : Gl X x) (hm : X.mg x = some u) (h : Q u s)
    (hd : (x == ("__debug__" : Str)) = false := by decide) : wpAny (model X.prog X.w) X.A (eval (.Name x pos) X.env) Q E s :=
  Calls.Name_function_global I.ok.kind hg (Calls.loadGlobal_global (by rw [I.ok.glob]; exact I.mod.glob.keeps I.bk) hm h) hd
theorem ld_blt {E : Value -> Shared -> Prop} {pins : List (Addr × Obj)} {s : Shared} {σ : St} {H : Hp} {x : Str} {u : Value} {pos : Pos} {Q : Value -> Shared -> Prop} (I : Inv X pins σ H s) (hg : Gl X x) (hm : X.mg x = none) (hv : bootBuiltins x = some u) (h : Q u s)
    (hn : x ≠ "__name__" := by decide) (hd : (x == ("__debug__" : Str)) = false := by decide) : wpAny (model X.prog X.w) X.A (eval (.Name x pos) X.env) Q E s := by
  obtain ⟨mb, h1, h2⟩ := I.mod.blt
  exact Calls.Name_function_global I.ok.kind hg (Calls.loadGlobal_builtin (by rw [I.ok.glob]; exact I.mod.glob.keeps I.bk) hm (by rw [I.ok.blt]; exact h1.keeps I.bk) ((h2 x hn).trans hv) h) hd
theorem pe_bltn {x : Str} {v : V} {u : Value} {pos : Pos} (hg : Gl X x) (hm : X.mg x = none) (hv : bootBuiltins x = some u) (r : RelV v u) (hn : x ≠ "__name__" := by decide) (hd : (x == ("__debug__" : Str)) = false := by decide) : PE X (.Name x pos) (tC v) :=
  fun _ _ _ H _ I h => ld_blt I hg hm hv ⟨v, H, I, r, h⟩ hn hd
variable {a b : Expr} {ta tb : TE} {pos : Pos}
theorem nobehind (b : Expr) {op : CmpOp} (h : op ≠ .In) (h2 : op ≠ .NotIn) : behindInMarks op b = false := by
  have e1 : (op == CmpOp.In) = false := by cases op <;> first | rfl | exact absurd rfl h
  have e2 : (op == CmpOp.NotIn) = false := by cases op <;> first | rfl | exact absurd rfl h2
  cases b <;> simp [behindInMarks, e1, e2]
variable {tA tB' : TT} {rest : List Expr}
def tAnd (t u : TT) : TT := fun σ H Q => t σ H fun c H1 => if c = true then u σ H1 Q else Q false H1
def tOr (t u : TT) : TT := fun σ H Q => t σ H fun c H1 => if c = true then Q true H1 else u σ H1 Q
def tNot (t : TT) : TT := fun σ H Q => t σ H fun c H1 => Q (!c) H1
theorem pw_and1 (ha : PT X a tA) : PW X (.BoolOp .And [a] pos) tA := by
  intro wh pins s σ H Q I h
  refine isTrue_and (thn (ha pins s σ H Q I h) fun c s1 e => ?_)
  cases c with
  | true => exact isTrue_and_nil e
  | false => exact e
theorem pw_or1 (ha : PT X a tA) : PW X (.BoolOp .Or [a] pos) tA := by
  intro wh pins s σ H Q I h
  refine isTrue_or (thn (ha pins s σ H Q I h) fun c s1 e => ?_)
  cases c with
  | false => exact isTrue_or_nil e
  | true => exact e
theorem pw_and (ha : PT X a tA) (hb : PW X (.BoolOp .And (b :: rest) pos) tB') : PW X (.BoolOp .And (a :: b :: rest) pos) (tAnd tA tB') := by
  intro wh pins s σ H Q I h
  refine isTrue_and (thn (ha pins s σ H _ I h) fun c s1 ⟨H1, I1, q1⟩ => ?_)
  cases c with
  | true => exact hb wh pins s1 σ H1 Q I1 q1
  | false => exact ⟨H1, I1, q1⟩
theorem pw_or (ha : PT X a tA) (hb : PW X (.BoolOp .Or (b :: rest) pos) tB') : PW X (.BoolOp .Or (a :: b :: rest) pos) (tOr tA tB') := by
  intro wh pins s σ H Q I h
  refine isTrue_or (thn (ha pins s σ H _ I h) fun c s1 ⟨H1, I1, q1⟩ => ?_)
  cases c with
  | true => exact ⟨H1, I1, q1⟩
  | false => exact hb wh pins s1 σ H1 Q I1 q1
theorem pt_not (ha : PT X a tA) : PT X (.UnaryOp .Not a pos) (tNot tA) := by
  intro pins s σ H Q I h
  exact isTrue_not (ha pins s σ H (fun c H1 => Q (!c) H1) I h)
def tNotV (ta : TE) : TE := fun σ H Q => ta σ H fun x H1 => ∃ c, x = .bl c /\ Q (.bl (!c)) H1
theorem pe_not (ha : PE X a ta) : PE X (.UnaryOp .Not a pos) (tNotV ta) := by
  intro pins s σ H Q I h
  refine UnaryOp_ (thn (ha pins s σ H _ I h) fun v s1 ⟨x, H1, I1, r1, q1⟩ => ?_)
  obtain ⟨c, rfl, q1⟩ := q1
  cases r1
  exact not_of (wpAny_truthy_bool ⟨.bl (!c), H1, I1, rfl, q1⟩)
def tIf (t : TT) (ta tb : TE) : TE := fun σ H Q => t σ H fun c H1 => if c = true then ta σ H1 Q else tb σ H1 Q
theorem pe_ifExp {c : Expr} (hc : PT X c tA) (ha : PE X a ta) (hb : PE X b tb) : PE X (.IfExp c a b pos) (tIf tA ta tb) := by
  intro pins s σ H Q I h
  refine wpAny_IfExp (thn (hc pins s σ H _ I h) fun d s1 ⟨H1, I1, q1⟩ => ?_)
  cases d with
  | true => exact ha pins s1 σ H1 Q I1 q1
  | false => exact hb pins s1 σ H1 Q I1 q1
end
def SqL (K : PySem.W.Frag) (H : Hp) (a : Addr) (xs : List V) : Prop :=
  Rd H a (.lst xs) \/
    ∃ (o : Obj) (its : Array Value) (n : Nat), K.lookup a = some o /\ o.cls = .type "list" /\ o.dict = none /\ o.data = .seq its n /\ its.size <= sizeLine /\ Vals xs its.toList
def SqT (K : PySem.W.Frag) (H : Hp) (a : Addr) (xs : List V) : Prop :=
  Rd H a (.tup xs) \/
    ∃ (o : Obj) (its : Array Value) (n : Nat), K.lookup a = some o /\ o.cls = .type "tuple" /\ o.dict = none /\ o.data = .seq its n /\ its.size <= sizeLine /\ Vals xs its.toList
def absV : Value -> Option V
  | .none => some .non
  | .bool b => some (.bl b)
  | .int i _ => some (.int i)
  | .str x _ => some (.str x)
  | .bytes b _ => some (.byt b)
  | .float b _ => some (.flt b)
  | .ref a => some (.ref a)
  | .type n => some (.ty n)
  | _ => none
theorem RelV.abs {x : V} {u : Value} (r : RelV x u) : absV u = some x := by
  cases x with
  | non => cases r; rfl
  | bl _ => cases r; rfl
  | int _ => obtain ⟨t, rfl⟩ := r; rfl
  | str _ => obtain ⟨t, rfl⟩ := r; rfl
  | byt _ => obtain ⟨t, rfl⟩ := r; rfl
  | flt _ => obtain ⟨t, rfl⟩ := r; rfl
  | ref _ => cases r; rfl
  | ty _ => cases r; rfl
theorem RelV.inj {x y : V} {u : Value} (r : RelV x u) (q : RelV y u) : x = y := Option.some.inj (r.abs.symm.trans q.abs)
theorem Vals.inj : ∀ {xs ys : List V} {us : List Value}, Vals xs us -> Vals ys us -> xs = ys
  | _, _, _, .nil, .nil => rfl
  | _, _, _, .cons r t, .cons r' t' => by rw [r.inj r', Vals.inj t t']
section
variable {X : Cx} {pins : List (Addr × Obj)} {σ : St} {H : Hp} {s : Shared} {a : Addr} {xs ys : List V}
theorem SqL.of {K : PySem.W.Frag} (h : H a = some (.lst xs)) : SqL K H a xs := .inl (.inl h)
theorem SqT.of {K : PySem.W.Frag} (h : H a = some (.tup xs)) : SqT K H a xs := .inl (.inl h)
theorem Inv.list (I : Inv X pins σ H s) (h : SqL X.K H a xs) : ∃ its : List Value, Vals xs its /\ PlainL s.heap a its.toArray /\ xs.length <= sizeLine := by
  rcases h with h | ⟨o, its, n, hk, hc, hd, hs, hz, r⟩
  . obtain ⟨z, its, n, r, e⟩ := h.ok I.hok
    exact ⟨its, r, ⟨_, n, e, rfl, rfl, rfl⟩, z⟩
  . refine ⟨its.toList, r, ⟨o, n, I.kIn a o hk, hc, hd, by simpa using hs⟩, ?_⟩
    have e := r.length
    simp only [Array.length_toList] at e
    omega
theorem Inv.tuple (I : Inv X pins σ H s) (h : SqT X.K H a xs) : ∃ its : List Value, Vals xs its /\ IsTup s.heap a its.toArray /\ xs.length <= sizeLine := by
  rcases h with h | ⟨o, its, n, hk, hc, hdd, hs, hz, r⟩
  . obtain ⟨z, its, r, p⟩ := h.ok I.hok
    exact ⟨its, r, p.tup, z⟩
  . refine ⟨its.toList, r, ⟨o, I.kIn a o hk, hc, n, by simpa using hs⟩, ?_⟩
    have e := r.length
    simp only [Array.length_toList] at e
    omega
theorem Inv.list_inj (I : Inv X pins σ H s) (h : SqL X.K H a xs) (h' : SqL X.K H a ys) : xs = ys := by
  obtain ⟨its, r, ⟨o, n, e, _, _, d⟩, _⟩ := I.list h
  obtain ⟨its', r', ⟨o', n', e', _, _, d'⟩, _⟩ := I.list h'
  rw [e] at e'; cases e'
  rw [d] at d'
  injection d' with d1 _
  have : its = its' := by simpa using congrArg Array.toList d1
  subst this
  exact r.inj r'
theorem Inv.tuple_inj (I : Inv X pins σ H s) (h : SqT X.K H a xs) (h' : SqT X.K H a ys) : xs = ys := by
  obtain ⟨its, r, ⟨o, e, _, n, d⟩, _⟩ := I.tuple h
  obtain ⟨its', r', ⟨o', e', _, n', d'⟩, _⟩ := I.tuple h'
  rw [e] at e'; cases e'
  rw [d] at d'
  injection d' with d1 _
  have : its = its' := by simpa using congrArg Array.toList d1
  subst this
  exact r.inj r'
end
abbrev Cx.wish (X : Cx) (E : Value -> Shared -> Prop) : Cx := { X with xe := E }
abbrev Cx.nox (X : Cx) : Cx := X.wish fun _ _ => False
theorem Cx.Ok.wish {X : Cx} (ok : X.Ok) (E : Value -> Shared -> Prop) : (X.wish E).Ok :=
  ⟨ok.mod, ok.kind, ok.glob, ok.blt, ok.above, ok.inj, ok.has, ok.cab, ok.hd, ok.frames, ok.stk, ok.exf, ok.bs, ok.bsz, ok.noex, ok.exfs, ok.funs, ok.frf⟩
theorem Cx.Ok.unwish {X : Cx} {E : Value -> Shared -> Prop} (ok : (X.wish E).Ok) : X.Ok :=
  ⟨ok.mod, ok.kind, ok.glob, ok.blt, ok.above, ok.inj, ok.has, ok.cab, ok.hd, ok.frames, ok.stk, ok.exf, ok.bs, ok.bsz, ok.noex, ok.exfs, ok.funs, ok.frf⟩
section
variable {X : Cx} {pins : List (Addr × Obj)} {σ : St} {H : Hp} {s : Shared} {E : Value -> Shared -> Prop}
theorem Inv.wish (I : Inv X pins σ H s) (E : Value -> Shared -> Prop) : Inv (X.wish E) pins σ H s := ⟨I.ok.wish E, I.os, I.bare, I.base, I.loc, I.cell, I.free, I.freeC, I.pin, I.hok, I.len⟩
theorem Inv.unwish (I : Inv (X.wish E) pins σ H s) : Inv X pins σ H s := ⟨I.ok.unwish, I.os, I.bare, I.base, I.loc, I.cell, I.free, I.freeC, I.pin, I.hok, I.len⟩
theorem SP.unwish {D : Ends} {f : Flow} {s' : Shared} (h : SP (X.wish E) pins D f s') : SP X pins D f s' := by
  cases f with
  | next => obtain ⟨σ', H', I, q⟩ := h; exact ⟨σ', H', I.unwish, q⟩
  | brk => obtain ⟨σ', H', I, q⟩ := h; exact ⟨σ', H', I.unwish, q⟩
  | cont => obtain ⟨σ', H', I, q⟩ := h; exact ⟨σ', H', I.unwish, q⟩
  | ret u => obtain ⟨v, σ', H', I, r, q⟩ := h; exact ⟨v, σ', H', I.unwish, r, q⟩
theorem PSs.nox {st : List Stmt} {t : TS} (h : PSs X.nox st t) : PSs X st t := fun pins s σ H D I hw =>
  wpAny_mono (h pins s σ H D (I.wish _) hw) (fun _ _ q => q.unwish) fun _ _ z => False.elim z
end
section
variable {X : Cx} {st : Stmt} {rest : List Stmt} {t u : TS} {e : Expr} {te : TE} {pos : Pos}
def tNext : TS := fun D σ H => D.nx σ H
def tSeq (t u : TS) : TS := fun D σ H => t { D with nx := u D } σ H
theorem pss_nil : PSs X [] tNext := fun _ _ σ H _ I h => wpAny_execs_nil ⟨σ, H, I, h⟩
theorem pss_cons (h1 : PS X st t) (h2 : PSs X rest u) : PSs X (st :: rest) (tSeq t u) := by
  intro pins s σ H D I h
  refine wpAny_execs_cons (thn (h1 pins s σ H { D with nx := u D } I h) fun f s1 q => ?_)
  cases f with
  | next =>
    obtain ⟨σ', H', I', q⟩ := q
    exact h2 pins s1 σ' H' D I' q
  | ret v => exact q
  | brk => exact q
  | cont => exact q
theorem pss_one (h1 : PS X st t) : PSs X [st] t := by
  intro pins s σ H D I h
  refine wpAny_execs_cons (thn (h1 pins s σ H D I h) fun f s1 q => ?_)
  cases f with
  | next => exact wpAny_execs_nil q
  | ret v => exact q
  | brk => exact q
  | cont => exact q
theorem Inv.quiet {pins : List (Addr × Obj)} {σ : St} {H : Hp} {s : Shared} (I : Inv X pins σ H s) : interactive X.env = false := by simp [interactive, I.ok.kind]
def tDrop (te : TE) : TS := fun D σ H => te σ H fun _ H1 => D.nx σ H1
theorem ps_expr (he : PE X e te) (hs : swapsWith e none pos.line X.env = pure false := by rfl) : PS X (.Expr e pos) (tDrop te) := by
  intro pins s σ H D I h
  exact wpAny_Expr_any (thn (he pins s σ H _ I h) fun v s1 ⟨x, H1, I1, r1, q1⟩ => ⟨σ, H1, I1, q1⟩) I.quiet hs
def tRet (te : TE) : TS := fun D σ H => te σ H D.rt
theorem ps_ret (he : PE X e te) : PS X (.Return (some e) pos) (tRet te) := by
  intro pins s σ H D I h
  exact wpAny_Return_some (thn (he pins s σ H _ I h) fun v s1 ⟨x, H1, I1, r1, q1⟩ => ⟨x, σ, H1, I1, r1, q1⟩)
def tIfS (c : TT) (t u : TS) : TS := fun D σ H => c σ H fun b H1 => if b = true then t D σ H1 else u D σ H1
theorem ps_if {c : Expr} {a b : List Stmt} {tc : TT} (hc : PT X c tc) (ha : PSs X a t) (hb : PSs X b u) : PS X (.If c a b pos) (tIfS tc t u) := by
  intro pins s σ H D I h
  refine wpAny_If (thn (hc pins s σ H _ I h) fun d s1 ⟨H1, I1, q1⟩ => ?_)
  cases d with
  | true => exact ha pins s1 σ H1 D I1 q1
  | false => exact hb pins s1 σ H1 D I1 q1
end
abbrev TG := V -> St -> Hp -> (St -> Hp -> Prop) -> Prop
abbrev TGs := List V -> St -> Hp -> (St -> Hp -> Prop) -> Prop
def PG (X : Cx) (target : Expr) (t : TG) : Prop :=
  ∀ (pins : List (Addr × Obj)) (s : Shared) (σ : St) (H : Hp) (v : V) (u : Value) (Q : St -> Hp -> Prop), Inv X pins σ H s -> RelV v u -> t v σ H Q ->
    wpAny (model X.prog X.w) X.A (assign target X.env u) (fun _ s' => ∃ σ' H', Inv X pins σ' H' s' /\ Q σ' H') X.xe s
def PGs (X : Cx) (ts : List Expr) (t : TGs) : Prop :=
  ∀ (pins : List (Addr × Obj)) (s : Shared) (σ : St) (H : Hp) (vs : List V) (us : List Value) (Q : St -> Hp -> Prop), Inv X pins σ H s -> Vals vs us -> t vs σ H Q ->
    wpAny (model X.prog X.w) X.A (assignInOrder ((assignEach ts X.env).map (·.2)) us) (fun _ s' => ∃ σ' H', Inv X pins σ' H' s' /\ Q σ' H') X.xe s
abbrev TSet := V -> V -> V -> Hp -> (Hp -> Prop) -> Prop
def PSet (X : Cx) (t : TSet) : Prop :=
  ∀ (pins : List (Addr × Obj)) (s : Shared) (σ : St) (H : Hp) (o i v : V) (ov iv u : Value) (Q : Hp -> Prop), Inv X pins σ H s -> RelV o ov -> RelV i iv -> RelV v u -> t o i v H Q ->
    wpAny (model X.prog X.w) X.A (setItem ov iv u) (fun _ s' => ∃ H', Inv X pins σ H' s' /\ Q H') X.xe s
section
variable {X : Cx} {pos : Pos}
def gName (i : Nat) : TG := fun v σ H Q => Q (σ.set i (some v)) H
theorem pg_name {i : Nat} {x : Str} (hN : X.N.Nodup) (hi : X.N[i]? = some x) (hx : Loc X.env.scope x) (hf : X.fn x = true \/ X.env.scope.names.lookup x = some .local := by first | exact .inl rfl | exact .inr rfl | assumption) : PG X (.Name x pos) (gName i) := by
  intro pins s σ H v u Q I r h
  exact wpAny_assign_Name (store_ok I hN hi hx r (fun s' I' => ⟨_, H, I', h⟩) hf)
def gNil : TGs := fun vs σ H Q => vs = [] /\ Q σ H
def gCons (t : TG) (u : TGs) : TGs := fun vs σ H Q => ∃ v r, vs = v :: r /\ t v σ H fun σ' H' => u r σ' H' Q
theorem pgs_nil : PGs X [] gNil := by
  intro pins s σ H vs us Q I r h
  obtain ⟨e, h⟩ := h
  subst e
  cases r
  exact assignInOrder_nil ⟨σ, H, I, h⟩
theorem pgs_cons {e : Expr} {es : List Expr} {t : TG} {u : TGs} (h1 : PG X e t) (h2 : PGs X es u)
    (hs : (assignEach (e :: es) X.env).map (·.2) = assign e X.env :: (assignEach es X.env).map (·.2) := by rfl) : PGs X (e :: es) (gCons t u) := by
  intro pins s σ H vs us Q I r h
  obtain ⟨v, vr, e1, h⟩ := h
  subst e1
  cases r with
  | cons r rr =>
    rw [hs]
    refine assignInOrder_cons (thn (h1 pins s σ H _ _ _ I r h) fun _ s1 ⟨σ1, H1, I1, q1⟩ => ?_)
    exact h2 pins s1 σ1 H1 _ _ Q I1 rr q1
def gTup (K : PySem.W.Frag) (n : Nat) (t : TGs) : TG := fun v σ H Q => ∃ a xs, v = .ref a /\ SqT K H a xs /\ xs.length = n /\ t xs σ H Q
theorem pg_tup {es : List Expr} {k : Nat} {t : TGs} {n : Nat} (hc : X.calm = true) (h : PGs X es t)
    (hn : (assignEach es X.env).length = n := by rfl) (hst : (assignEach es X.env).findIdx? (·.1) = none := by rfl) : PG X (.Tuple es k pos) (gTup X.K n t) := by
  intro pins s σ H v u Q I r hw
  obtain ⟨a, xs, e1, hq, hl, hw⟩ := hw
  subst e1
  cases r
  obtain ⟨its, rv, ht, hz⟩ := I.tuple hq
  refine assign_Tuple_tuple (I.ok.hd hc) ht (by simp [hn, <- hl, rv.length]) hst fun h' hx => ?_
  have I1 : Inv X pins σ H { s with heap := h' } := I.kept (t' := s.toks) fun b o e => hx b o (Nat.ne_of_lt (Heap.lt_size e)) e
  exact h pins _ σ H xs _ Q I1 (by simpa using rv) hw
def gSub (to ti : TE) (t : TSet) : TG := fun v σ H Q => to σ H fun o H1 => ti σ H1 fun i H2 => t o i v H2 fun H3 => Q σ H3
theorem pg_sub {o i : Expr} {to ti : TE} {t : TSet} (ho : PE X o to) (hi : PE X i ti) (hs : PSet X t)
    (ha : ∀ v, assign (.Subscript o i pos) X.env v = (do
      let ov <- holding [v] (eval o X.env)
      let iv <- holding [v, ov] (eval i X.env)
      standAt pos
      holding [v, ov, iv] (setItem ov iv v)
      release [v, ov, iv] []) := by intro _; rfl) : PG X (.Subscript o i pos) (gSub to ti t) := by
  intro pins s σ H v u Q I r h
  rw [ha]
  refine wpAny_bind (wpAny_holding (thn (ho pins s σ H _ I h) fun ov s1 ⟨x, H1, I1, r1, q1⟩ => ?_))
  refine wpAny_bind (wpAny_holding (thn (hi pins s1 σ H1 _ I1 q1) fun iv s2 ⟨y, H2, I2, r2, q2⟩ => ?_))
  refine wpAny_bind (wpAny_standAt (wpAny_bind (wpAny_holding (thn (hs pins s2 σ H2 x y v ov iv u _ I2 r1 r2 r q2) fun _ s3 ⟨H3, I3, q3⟩ => ?_))))
  exact wpAny_release ⟨σ, H3, I3, q3⟩
def tAsg (te : TE) (g : TG) : TS := fun D σ H => te σ H fun x H1 => g x σ H1 D.nx
theorem ps_asg {tg e : Expr} {te : TE} {g : TG} (he : PE X e te) (hg : PG X tg g) (hs : swapsWithSole [tg] e pos.line X.env = pure false := by rfl) (hw : swappedStores [tg] e X.env = pure none := by rfl)
    (h1 : (assignEach [tg] X.env).map (·.2) = [assign tg X.env] := by rfl) : PS X (.Assign [tg] e pos) (tAsg te g) := by
  intro pins s σ H D I h
  refine wpAny_Assign_stores (thn (he pins s σ H _ I h) fun v s1 ⟨x, H1, I1, r1, q1⟩ => ?_) hs hw
  rw [h1]
  exact thn (hg pins s1 σ H1 x v _ I1 r1 q1) fun _ s2 q => q
theorem ps_set {i : Nat} {x : Str} {e : Expr} {te : TE} {pos' : Pos} (hN : X.N.Nodup) (hi : X.N[i]? = some x) (hx : Loc X.env.scope x) (he : PE X e te) (hs : swapsWith e (some (.Name x pos')) pos.line X.env = pure false := by rfl) (hf : X.fn x = true \/ X.env.scope.names.lookup x = some .local := by first | exact .inl rfl | exact .inr rfl | assumption) :
    PS X (.Assign [.Name x pos'] e pos) (tAsg te (gName i)) := by
  intro pins s σ H D I h
  refine wpAny_Assign_Name (thn (he pins s σ H _ I h) fun v s1 ⟨y, H1, I1, r1, q1⟩ => ?_) hs
  exact store_ok I1 hN hi hx r1 (fun s2 I2 => ⟨_, H1, I2, q1⟩) hf
end
section
variable {X : Cx} {pos : Pos}
end
structure It where
  go : Nat -> Hp -> Prop
  yld : Nat -> Hp -> V -> Hp -> Prop
  stop : Nat -> Hp -> Prop
def FpOk (X : Cx) (pins : List (Addr × Obj)) (H : Hp) (b : Addr) : Prop :=
  H b = none /\ b ≠ X.env.locals /\ b ∉ X.fs /\ (b ∈ X.ex \/ X.s₀.heap.objs.size <= b) /\ (∀ x c, X.env.cells.lookup x = some c -> c ≠ b) /\ ∀ p ∈ X.pn ++ pins, p.1 ≠ b
theorem Inv.fpOk {X : Cx} {pins : List (Addr × Obj)} {σ : St} {H H' : Hp} {s : Shared} {b : Addr} (I : Inv X pins σ H s) (hb : s.heap.objs.size <= b) (hn : H' b = none) : FpOk X pins H' b := by
  refine ⟨hn, Nat.ne_of_gt (Nat.lt_of_lt_of_le I.lt hb), I.nofs hb, .inr (Nat.le_trans I.sz hb), fun x c e z => ?_, fun p hp z => ?_⟩
  . obtain ⟨v, q⟩ := I.cell x c e
    exact absurd (Nat.lt_of_lt_of_le q.lt (by rw [z]; exact hb)) (Nat.lt_irrefl _)
  . exact absurd (Nat.lt_of_lt_of_le (Heap.lt_size (I.pin p hp).1) (by rw [z]; exact hb)) (Nat.lt_irrefl _)
structure Turn (P : Program) (w : World) (K : PySem.W.Frag) (tg : Expr) (J : It) (fp : List Addr) (it : Addr) (tn : Nat -> Heap -> Prop) : Prop where
  mem : it ∈ fp
  obj : ∀ i h, tn i h -> ∀ b ∈ fp, ∃ o, h.get? b = some o /\ ∀ v, o.data ≠ .cell v
  keep : ∀ i h h', tn i h -> (∀ b ∈ fp, ∀ o, h.get? b = some o -> h'.get? b = some o) -> tn i h'
  item : ∀ (X : Cx), X.prog = P -> X.w = w -> X.K = K -> X.calm = true -> ∀ (i : Nat) (pins : List (Addr × Obj)) (s : Shared) (σ : St) (H : Hp) (E : Value -> Shared -> Prop), Inv X pins σ H s -> (∀ b ∈ fp, FpOk X pins H b) -> tn i s.heap -> J.go i H ->
    wpAny (model P w) X.A (pyNext (.ref it)) (fun r s1 => ∃ u, r = some u /\
      wpAny (model P w) X.A (letOwnedTupleGo tg (.ref it) u) (fun _ s2 => ∃ x H', Inv X pins σ H' s2 /\ RelV x u /\ J.yld i H x H' /\ tn (i + 1) s2.heap /\ ∀ b ∈ fp, H' b = none) E s1) E s
  done : ∀ (X : Cx), X.prog = P -> X.w = w -> X.K = K -> X.calm = true -> ∀ (i : Nat) (pins : List (Addr × Obj)) (s : Shared) (σ : St) (H : Hp) (E : Value -> Shared -> Prop), Inv X pins σ H s -> (∀ b ∈ fp, FpOk X pins H b) -> tn i s.heap -> J.stop i H ->
    wpAny (model P w) X.A (pyNext (.ref it)) (fun r s1 => r = none /\ Inv X pins σ H s1) E s
  self : ∀ (A : Around) (i : Nat) (s : Shared) (Q : Value -> Shared -> Prop) (E : Value -> Shared -> Prop), tn i s.heap -> Q (.ref it) s -> wpAny (model P w) A (pyIter (.ref it)) Q E s
abbrev TI := St -> Hp -> (It -> Hp -> Prop) -> Prop
def PIE (X : Cx) (pins : List (Addr × Obj)) (σ : St) (tg : Expr) (R : It -> Hp -> Prop) (itv : Value) (s2 : Shared) : Prop :=
  ∃ (it : Addr) (fp : List Addr) (tn : Nat -> Heap -> Prop) (J : It) (H' : Hp), itv = .ref it /\ Inv X pins σ H' s2 /\ Turn X.prog X.w X.K tg J fp it tn /\ tn 0 s2.heap /\ (∀ b ∈ fp, FpOk X pins H' b) /\ R J H'
def PI (X : Cx) (tg iter : Expr) (wi : TI) : Prop :=
  ∀ (pins : List (Addr × Obj)) (s : Shared) (σ : St) (H : Hp) (R : It -> Hp -> Prop), Inv X pins σ H s -> wi σ H R ->
    wpAny (model X.prog X.w) X.A (eval iter X.env) (fun v s1 => wpAny (model X.prog X.w) X.A (pyIter v) (PIE X pins σ tg R) X.xe s1) X.xe s
theorem go_of {M : Model} {A : Around} {E : Value -> Shared -> Prop} {s : Shared} {tg : Expr} {it : Addr} {u : Value} {o : Obj} {n : String} {vs : Array Value} {Q : Unit -> Shared -> Prop} (ho : s.heap.get? it = some o) (hc : o.cls = .type n) (hd : o.data = .fields vs)
    (hn : ["enumerate", "zip", "dict_itemiterator", "dict_reverseitemiterator", "odict_iterator", "itertools.zip_longest", "itertools.pairwise"].contains n = false) (hQ : Q () s) : wpAny M A (letOwnedTupleGo tg (.ref it) u) Q E s := by
  unfold letOwnedTupleGo
  cases tg <;> first
    | exact wpAny_pure hQ
    | (cases u <;> first
        | exact wpAny_pure hQ
        | (refine wpAny_bind (wpAny_load ho ?_)
           rw [hc, hd]
           show wpAny M A (if (["enumerate", "zip", "dict_itemiterator", "dict_reverseitemiterator", "odict_iterator", "itertools.zip_longest", "itertools.pairwise"].contains n && vs[0]? == some (rawInt _)) = true then _ else _) Q E s
           rw [if_neg (by intro h; rw [hn, Bool.false_and] at h; cases h)]
           exact wpAny_pure hQ))
def Itl (K : PySem.W.Frag) (a : Addr) : It :=
  ⟨fun i H => ∃ xs x, SqL K H a xs /\ xs[i]? = some x, fun i H x H' => H' = H /\ ∀ xs, SqL K H a xs -> xs[i]? = some x, fun i H => ∃ xs, SqL K H a xs /\ xs.length <= i⟩
def Itt (K : PySem.W.Frag) (a : Addr) : It :=
  ⟨fun i H => ∃ xs x, SqT K H a xs /\ xs[i]? = some x, fun i H x H' => H' = H /\ ∀ xs, SqT K H a xs -> xs[i]? = some x, fun i H => ∃ xs, SqT K H a xs /\ xs.length <= i⟩
def Itr (lo : Int) (n : Nat) : It := ⟨fun i _ => i < n, fun i H x H' => H' = H /\ x = .int (lo + i), fun i _ => n <= i⟩
theorem turn_list {P : Program} {w : World} {K : PySem.W.Frag} {tg : Expr} (a it : Addr) : Turn P w K tg (Itl K a) [it] it (fun i h => h.IsListIter it a i) where
  mem := by simp
  obj := fun i h st b hb => by
    have e : b = it := by simpa using hb
    subst e
    obtain ⟨o, e, c, d⟩ := st
    exact ⟨o, e, fun v z => by rw [d] at z; cases z⟩
  keep := fun i h h' st k => st.at fun o e => k it (by simp) o e
  item := by
    intro X hP hw hK hc i pins s σ H E I hf st hg
    subst hP hw hK
    obtain ⟨xs, x, hq, hx⟩ := hg
    obtain ⟨its, rv, p, hz⟩ := I.list hq
    obtain ⟨u, hu, ru⟩ := rv.get hx
    obtain ⟨f0, f1, f2, f3, f4, f5⟩ := hf it (by simp)
    refine wpAny_pyNext_list_item st p.isList (x := u) (by simpa using hu) fun h' st' sb => ?_
    have I1 : Inv X pins σ H { s with heap := h' } := I.turned (t' := s.toks) (fun b o hb e => (sb.2 b hb).trans e) f0 f1 f3 f4 f5
    obtain ⟨o, e, c, d⟩ := id st'
    exact ⟨u, rfl, go_of (s := { s with heap := h' }) e c d (by decide) ⟨x, H, I1, ru, ⟨rfl, fun ys hy => by rw [I.list_inj hy hq]; exact hx⟩, st', fun b hb => (hf b hb).1⟩⟩
  done := by
    intro X hP hw hK hc i pins s σ H E I hf st hg
    subst hP hw hK
    obtain ⟨xs, hq, hx⟩ := hg
    obtain ⟨its, rv, p, hz⟩ := I.list hq
    obtain ⟨f0, f1, f2, f3, f4, f5⟩ := hf it (by simp)
    have hl := rv.length
    exact wpAny_pyNext_list_end (I.ok.hd hc) st p.isList (by simp; omega) fun h' eb => ⟨rfl, I.turned (t' := s.toks) (fun b o hb e => eb b o hb e) f0 f1 f3 f4 f5⟩
  self := fun _ _ _ _ _ st h => wpAny_pyIter_listiter st h
theorem turn_tuple {P : Program} {w : World} {K : PySem.W.Frag} {tg : Expr} (a it : Addr) : Turn P w K tg (Itt K a) [it] it (fun i h => h.IsTupleIter it a i) where
  mem := by simp
  obj := fun i h st b hb => by
    have e : b = it := by simpa using hb
    subst e
    obtain ⟨o, e, c, d⟩ := st
    exact ⟨o, e, fun v z => by rw [d] at z; cases z⟩
  keep := fun i h h' st k => st.at fun o e => k it (by simp) o e
  item := by
    intro X hP hw hK hc i pins s σ H E I hf st hg
    subst hP hw hK
    obtain ⟨xs, x, hq, hx⟩ := hg
    obtain ⟨its, rv, p, hz⟩ := I.tuple hq
    obtain ⟨u, hu, ru⟩ := rv.get hx
    obtain ⟨f0, f1, f2, f3, f4, f5⟩ := hf it (by simp)
    refine wpAny_pyNext_tuple_item st (show s.heap.IsTuple a its.toArray from p) (x := u) (by simpa using hu) fun h' st' sb => ?_
    have I1 : Inv X pins σ H { s with heap := h' } := I.turned (t' := s.toks) (fun b o hb e => (sb.2 b hb).trans e) f0 f1 f3 f4 f5
    obtain ⟨o, e, c, d⟩ := id st'
    exact ⟨u, rfl, go_of (s := { s with heap := h' }) e c d (by decide) ⟨x, H, I1, ru, ⟨rfl, fun ys hy => by rw [I.tuple_inj hy hq]; exact hx⟩, st', fun b hb => (hf b hb).1⟩⟩
  done := by
    intro X hP hw hK hc i pins s σ H E I hf st hg
    subst hP hw hK
    obtain ⟨xs, hq, hx⟩ := hg
    obtain ⟨its, rv, p, hz⟩ := I.tuple hq
    obtain ⟨f0, f1, f2, f3, f4, f5⟩ := hf it (by simp)
    have hl := rv.length
    exact wpAny_pyNext_tuple_end (I.ok.hd hc) st (show s.heap.IsTuple a its.toArray from p) (by simp; omega) fun h' eb => ⟨rfl, I.turned (t' := s.toks) (fun b o hb e => eb b o hb e) f0 f1 f3 f4 f5⟩
  self := fun _ _ _ _ _ st h => wpAny_pyIter_tupleiter st h
theorem turn_range {P : Program} {w : World} {K : PySem.W.Frag} {tg : Expr} (it : Addr) (lo : Int) (n : Nat) : Turn P w K tg (Itr lo n) [it] it (fun i h => IsRangeIter h it (lo + (i : Nat) * 1) ((n : Int) - (i : Nat)) 1) where
  mem := by simp
  obj := fun i h st b hb => by
    have e : b = it := by simpa using hb
    subst e
    exact ⟨_, st, fun v z => by
      have z' : Data.fields _ = Data.cell v := z
      cases z'⟩
  keep := fun i h h' st k => k it (by simp) _ st
  item := by
    intro X hP hw hK hc i pins s σ H E I hf st hg
    subst hP hw hK
    obtain ⟨f0, f1, f2, f3, f4, f5⟩ := hf it (by simp)
    have W := Walks.range (prog := X.prog) (w := X.w) (I.ok.hd hc) it lo 1 n
    refine W.item i s _ _ hg st fun v h' tk hv st' kk => ?_
    obtain ⟨t, rfl⟩ := hv
    have I1 : Inv X pins σ H { s with heap := h', toks := tk } := I.turned (fun b o hb e => kk b o (by simpa using hb) e) f0 f1 f3 f4 f5
    refine ⟨_, rfl, go_of (s := { s with heap := h', toks := tk }) (n := "range_iterator") st' rfl rfl (by decide) ⟨.int (lo + i), H, I1, ⟨t, ?_⟩, ⟨rfl, rfl⟩, st', fun b hb => (hf b hb).1⟩⟩
    rw [Int.mul_one]
  done := by
    intro X hP hw hK hc i pins s σ H E I hf st hg
    subst hP hw hK
    obtain ⟨f0, f1, f2, f3, f4, f5⟩ := hf it (by simp)
    exact wpAny_pyNext_range_end (I.ok.hd hc) st (by have : n <= i := hg; omega) fun h' eb => ⟨rfl, I.turned (t' := s.toks) (fun b o hb e => eb b o hb e) f0 f1 f3 f4 f5⟩
  self := fun _ _ _ _ _ st h => wpAny_pyIter_rangeiter st h
section
variable {X : Cx} {tg : Expr}
theorem range_it {pins : List (Addr × Obj)} {σ : St} {H : Hp} {s : Shared} {R : It -> Hp -> Prop} {E : Value -> Shared -> Prop} {lo hi : Int} {t u v : Tok} {tk : Nat} (I : Inv X pins σ H s) (h1 : -(2 ^ 62) <= lo) (h2 : lo < 2 ^ 62) (h3 : -(2 ^ 62) <= hi) (h4 : hi < 2 ^ 62)
    (q : R (Itr lo (hi - lo).toNat) H) : wpAny (model X.prog X.w) X.A (pyIter (.ref s.heap.objs.size)) (PIE X pins σ tg R) E { s with heap := s.heap.push { cls := .type "range", data := .fields #[.int lo t, .int hi u, .int 1 v] }, toks := tk } := by
  refine wpAny_pyIter_range (IsRange.new ..) (small_one h1 h2 h3 h4) ?_
  have I1 : Inv X pins σ H { s with heap := s.heap.push { cls := .type "range", data := .fields #[.int lo t, .int hi u, .int 1 v] }, toks := tk } := I.kept fun b o e => Heap.get?_push_of_some _ e
  refine ⟨(s.heap.push { cls := .type "range", data := .fields #[.int lo t, .int hi u, .int 1 v] }).objs.size, [(s.heap.push { cls := .type "range", data := .fields #[.int lo t, .int hi u, .int 1 v] }).objs.size], _, _, H, rfl,
    I1.kept (t' := tk) fun b o e => Heap.get?_push_of_some _ e, turn_range _ lo (hi - lo).toNat, ?_, fun b hb => ?_, q⟩
  . have e1 : lo + ((0 : Nat) : Int) * 1 = lo := by simp
    have e2 : (((hi - lo).toNat : Nat) : Int) - ((0 : Nat) : Int) = Builtin.Range.rangeSize lo hi 1 := by rw [rangeSize_one]; split <;> omega
    show IsRangeIter _ _ (lo + ((0 : Nat) : Int) * 1) ((((hi - lo).toNat : Nat) : Int) - ((0 : Nat) : Int)) 1
    rw [e1, e2]
    exact Heap.get?_push_size _ rfl
  . have e : b = (s.heap.push { cls := .type "range", data := .fields #[.int lo t, .int hi u, .int 1 v] }).objs.size := by simpa using hb
    subst e
    exact I1.fpOk (Nat.le_refl _) (I1.hok.fresh (Nat.le_refl _))
def iRng1 (ta : TA) : TI := fun σ H R => ta σ H fun vs H1 => ∃ j : Int, vs = [.int j] /\ -(2 ^ 62) <= j /\ j < 2 ^ 62 /\ R (Itr 0 j.toNat) H1
def iRng2 (ta : TA) : TI := fun σ H R => ta σ H fun vs H1 => ∃ i j : Int, vs = [.int i, .int j] /\ (-(2 ^ 62) <= i /\ i < 2 ^ 62 /\ -(2 ^ 62) <= j /\ j < 2 ^ 62) /\ R (Itr i (j - i).toNat) H1
theorem pi_range1 {a : Expr} {ta : TA} {p pos : Pos} (hg : Gl X "range") (hm : X.mg "range" = none) (ha : PA X [a] ta) (hs : starEach [a] X.env = [(false, eval a X.env)] := by rfl) : PI X tg (.Call (.Name "range" p) [a] [] pos) (iRng1 ta) := by
  intro pins s σ H R I h
  refine Call_ (ld_blt I hg hm boot_range (PyProof.Rows.callWith_type1 (thn (ha pos pins s σ H _ I h) fun us s1 ⟨vs, H1, I1, r1, q1⟩ => ?_) hs rfl))
  obtain ⟨j, e, q1, q2, q⟩ := q1
  subst e
  cases r1 with
  | cons r rr =>
    cases rr
    obtain ⟨t, rfl⟩ := r
    exact call_range_1 (range_it I1 (by omega) (by omega) q1 q2 (by simpa using q))
theorem pi_range2 {a b : Expr} {ta : TA} {p pos : Pos} (hg : Gl X "range") (hm : X.mg "range" = none) (ha : PA X [a, b] ta) (hs : starEach [a, b] X.env = [(false, eval a X.env), (false, eval b X.env)] := by rfl) (hs2 : starEach [b] X.env = [(false, eval b X.env)] := by rfl) :
    PI X tg (.Call (.Name "range" p) [a, b] [] pos) (iRng2 ta) := by
  intro pins s σ H R I h
  refine Call_ (ld_blt I hg hm boot_range (PyProof.Rows.callWith_type1 (thn (ha pos pins s σ H _ I h) fun us s1 ⟨vs, H1, I1, r1, q1⟩ => ?_) (by rw [hs, hs2]) (by rw [hs2]; rfl)))
  obtain ⟨i, j, e, ⟨q1, q2, q3, q4⟩, q⟩ := q1
  subst e
  cases r1 with
  | cons r rr =>
    cases rr with
    | cons r' rr =>
      cases rr
      obtain ⟨t, rfl⟩ := r
      obtain ⟨t', rfl⟩ := r'
      exact call_range_2 (range_it I1 q1 q2 q3 q4 q)
def tFor (wi : TI) (g : TG) (tb : TS) : TS := fun D σ H => wi σ H fun J H1 => ∃ W : Nat -> Nat -> St -> Hp -> Prop, (∃ m, W 0 m σ H1) /\ ∀ i m σ H, W i m σ H ->
  (J.stop i H /\ D.nx σ H) \/ (J.go i H /\ ∃ N : St -> Hp -> Prop, (∀ σ' H', N σ' H' -> ∃ m', m' < m /\ W (i + 1) m' σ' H') /\ ∀ x H', J.yld i H x H' -> g x σ H' fun σ2 H2 => tb { D with nx := N, ct := N, bk := D.nx } σ2 H2)
def pinsAt (fp : List Addr) (h : Heap) : List (Addr × Obj) := fp.filterMap fun b => (h.get? b).map fun o => (b, o)
theorem mem_pinsAt {fp : List Addr} {h : Heap} {b : Addr} {o : Obj} (hb : b ∈ fp) (e : h.get? b = some o) : (b, o) ∈ pinsAt fp h := List.mem_filterMap.mpr ⟨b, hb, by rw [e]; rfl⟩
theorem of_pinsAt {fp : List Addr} {h : Heap} {p : Addr × Obj} (hp : p ∈ pinsAt fp h) : p.1 ∈ fp /\ h.get? p.1 = some p.2 := by
  obtain ⟨b, hb, e⟩ := List.mem_filterMap.mp hp
  cases q : h.get? b with
  | none => rw [q] at e; cases e
  | some o =>
    rw [q] at e
    have e' : (b, o) = p := Option.some.inj e
    subst e'
    exact ⟨hb, q⟩
theorem Inv.pinned {pins : List (Addr × Obj)} {σ : St} {H : Hp} {s : Shared} {fp : List Addr} (I : Inv X pins σ H s) (hf : ∀ b ∈ fp, FpOk X pins H b) (ho : ∀ b ∈ fp, ∃ o, s.heap.get? b = some o /\ ∀ v, o.data ≠ .cell v) : Inv X (pins ++ pinsAt fp s.heap) σ H s :=
  I.pins_of fun p hp => (List.mem_append.mp hp).elim (fun z => I.pin p (List.mem_append_right _ z)) fun z => by
    obtain ⟨hb, e⟩ := of_pinsAt z
    obtain ⟨f0, f1, f2, _⟩ := hf p.1 hb
    obtain ⟨o, e', d⟩ := ho p.1 hb
    rw [e] at e'; cases e'
    exact ⟨e, f0, f1, f2, d⟩
theorem Inv.unpinned {pins pl : List (Addr × Obj)} {σ : St} {H : Hp} {s : Shared} (I : Inv X (pins ++ pl) σ H s) : Inv X pins σ H s := I.pins_of fun p hp => I.pin p (List.mem_append_right _ (List.mem_append_left _ hp))
theorem ps_for {iter : Expr} {body : List Stmt} {wi : TI} {g : TG} {tb : TS} {pos : Pos} (hp : PassesOwn (model X.prog X.w) X.A X.env X.xe) (hc : X.calm = true) (hi : PI X tg iter wi) (hg : PG X tg g) (hb : PSs X body tb)
    (hs : ∀ x, foldedSetIterable iter X.env x = pure x := by intro _; rfl) : PS X (.For tg iter body [] pos) (tFor wi g tb) := by
  intro pins s σ H D I h
  refine wpAny_For (thn (hi pins s σ H _ I h) fun v s1 h1 => thn h1 fun itv s2 h2 => ?_) hs
  obtain ⟨it, fp, tn, J, H2, e, I2, T, st2, f2, W, ⟨m0, w0⟩, turn⟩ := h2
  subst e
  -- what stays true of the iterator's objects through the loop
  have stat : ∀ {H' : Hp}, (∀ b ∈ fp, H' b = none) -> ∀ b ∈ fp, FpOk X pins H' b := fun hn b hb => ⟨hn b hb, (f2 b hb).2⟩
  refine codeAny_forLoop_any (fun n s' => ∃ i σ' H', Inv X pins σ' H' s' /\ tn i s'.heap /\ (∀ b ∈ fp, H' b = none) /\ W i n σ' H') ?_ m0 ⟨0, σ, H2, I2, st2, fun b hb => (f2 b hb).1, w0⟩
  rintro n s3 ⟨i, σ3, H3, I3, st3, fr3, w3⟩
  rcases turn i n σ3 H3 w3 with ⟨stop, qn⟩ | ⟨go, N, hN, step⟩
  . refine wpAny_passesOwn hp (thn (T.done X rfl rfl rfl hc i pins s3 σ3 H3 X.xe I3 (stat fr3) st3 stop) fun r s4 ⟨hr, I4⟩ => ?_)
    subst hr
    exact wpAny_execs_nil ⟨σ3, H3, I4, qn⟩
  . refine wpAny_passesOwn hp (thn (T.item X rfl rfl rfl hc i pins s3 σ3 H3 X.xe I3 (stat fr3) st3 go) fun r s4 ⟨u, hr, h4⟩ => ?_)
    subst hr
    refine wpAny_passesOwn hp (thn h4 fun _ s5 ⟨x, H5, I5, r5, y5, st5, fr5⟩ => ?_)
    have I5' := I5.pinned (stat fr5) (T.obj _ _ st5)
    refine wpAny_passesOwn hp (thn (hg _ s5 σ3 H5 x u _ I5' r5 (step x H5 y5)) fun _ s6 ⟨σ6, H6, I6, q6⟩ => ?_)
    refine wpAny_passesOwn hp (thn (hb _ s6 σ6 H6 _ I6 q6) fun f s7 q7 => ?_)
    have again : ∀ {σ7 : St} {H7 : Hp}, Inv X (pins ++ pinsAt fp s5.heap) σ7 H7 s7 -> N σ7 H7 -> ∃ m, m < n /\ ∃ i σ' H', Inv X pins σ' H' s7 /\ tn i s7.heap /\ (∀ b ∈ fp, H' b = none) /\ W i m σ' H' := fun {σ7 H7} I7 n7 => by
      obtain ⟨m', hm, w7⟩ := hN σ7 H7 n7
      refine ⟨m', hm, i + 1, σ7, H7, I7.unpinned, T.keep _ _ _ st5 fun b hb o e => (I7.pin (b, o) (List.mem_append_right _ (List.mem_append_right _ (mem_pinsAt hb e)))).1, fun b hb => ?_, w7⟩
      obtain ⟨o, e, d⟩ := T.obj _ _ st5 b hb
      exact (I7.pin (b, o) (List.mem_append_right _ (List.mem_append_right _ (mem_pinsAt hb e)))).2.1
    cases f with
    | next => obtain ⟨σ7, H7, I7, n7⟩ := q7; exact again I7 n7
    | cont => obtain ⟨σ7, H7, I7, n7⟩ := q7; exact again I7 n7
    | brk => obtain ⟨σ7, H7, I7, q7⟩ := q7; exact ⟨σ7, H7, I7.unpinned, q7⟩
    | ret v => obtain ⟨x7, σ7, H7, I7, r7, q7⟩ := q7; exact ⟨x7, σ7, H7, I7.unpinned, r7, q7⟩
end
theorem for_list {K : PySem.W.Frag} {a : Addr} {xs : List V} {g : TG} {tb : TS} {D : Ends} {σ : St} {H : Hp} (Pv : Nat -> St -> Hp -> Prop) (h0 : Pv 0 σ H) (hl : ∀ i σ H, i <= xs.length -> Pv i σ H -> SqL K H a xs)
    (hs : ∀ i x σ H, xs[i]? = some x -> Pv i σ H -> g x σ H fun σ2 H2 => tb { D with nx := Pv (i + 1), ct := Pv (i + 1), bk := D.nx } σ2 H2) (hd : ∀ σ H, Pv xs.length σ H -> D.nx σ H) :
    ∃ W : Nat -> Nat -> St -> Hp -> Prop, (∃ m, W 0 m σ H) /\ ∀ i m σ H, W i m σ H ->
      ((Itl K a).stop i H /\ D.nx σ H) \/ ((Itl K a).go i H /\ ∃ N : St -> Hp -> Prop, (∀ σ' H', N σ' H' -> ∃ m', m' < m /\ W (i + 1) m' σ' H') /\ ∀ x H', (Itl K a).yld i H x H' -> g x σ H' fun σ2 H2 => tb { D with nx := N, ct := N, bk := D.nx } σ2 H2) := by
  refine ⟨fun i m σ H => m = xs.length - i /\ i <= xs.length /\ Pv i σ H, ⟨xs.length, by simp, Nat.zero_le _, h0⟩, ?_⟩
  rintro i m σ H ⟨rfl, hi, p⟩
  have q := hl i σ H hi p
  by_cases hlt : i < xs.length
  . refine .inr ⟨⟨xs, xs[i], q, by simp [hlt]⟩, Pv (i + 1), fun σ' H' p' => ⟨xs.length - (i + 1), by omega, rfl, hlt, p'⟩, fun x H' y => ?_⟩
    obtain ⟨e, y⟩ := y
    subst e
    exact hs i x σ _ (y xs q) p
  . have e : i = xs.length := by omega
    subst e
    exact .inl ⟨⟨xs, q, Nat.le_refl _⟩, hd σ H p⟩
theorem for_range {lo : Int} {n : Nat} {g : TG} {tb : TS} {D : Ends} {σ : St} {H : Hp} (Pv : Nat -> St -> Hp -> Prop) (h0 : Pv 0 σ H)
    (hs : ∀ i σ H, i < n -> Pv i σ H -> g (.int (lo + i)) σ H fun σ2 H2 => tb { D with nx := Pv (i + 1), ct := Pv (i + 1), bk := D.nx } σ2 H2) (hd : ∀ σ H, Pv n σ H -> D.nx σ H) :
    ∃ W : Nat -> Nat -> St -> Hp -> Prop, (∃ m, W 0 m σ H) /\ ∀ i m σ H, W i m σ H ->
      ((Itr lo n).stop i H /\ D.nx σ H) \/ ((Itr lo n).go i H /\ ∃ N : St -> Hp -> Prop, (∀ σ' H', N σ' H' -> ∃ m', m' < m /\ W (i + 1) m' σ' H') /\ ∀ x H', (Itr lo n).yld i H x H' -> g x σ H' fun σ2 H2 => tb { D with nx := N, ct := N, bk := D.nx } σ2 H2) := by
  refine ⟨fun i m σ H => m = n - i /\ i <= n /\ Pv i σ H, ⟨n, by simp, Nat.zero_le _, h0⟩, ?_⟩
  rintro i m σ H ⟨rfl, hi, p⟩
  by_cases hlt : i < n
  . refine .inr ⟨hlt, Pv (i + 1), fun σ' H' p' => ⟨n - (i + 1), by omega, rfl, hlt, p'⟩, fun x H' y => ?_⟩
    obtain ⟨e, y⟩ := y
    subst e y
    exact hs i σ _ hlt p
  . have e : i = n := by omega
    subst e
    exact .inl ⟨Nat.le_refl _, hd σ H p⟩
abbrev R2 := V -> V -> Hp -> VK -> Prop
def OpR (X : Cx) (f : Value -> Value -> Sem Value) (r : R2) : Prop :=
  ∀ (pins : List (Addr × Obj)) (s : Shared) (σ : St) (H : Hp) (x y : V) (v u : Value) (Q : VK), Inv X pins σ H s -> RelV x v -> RelV y u -> r x y H Q ->
    wpAny (model X.prog X.w) X.A (f v u) (EP X pins σ Q) X.xe s
def UnR (X : Cx) (f : Value -> Sem Value) (r : V -> Hp -> VK -> Prop) : Prop :=
  ∀ (pins : List (Addr × Obj)) (s : Shared) (σ : St) (H : Hp) (x : V) (v : Value) (Q : VK), Inv X pins σ H s -> RelV x v -> r x H Q ->
    wpAny (model X.prog X.w) X.A (f v) (EP X pins σ Q) X.xe s
def CallR (X : Cx) (f : Value) (r : List V -> Hp -> VK -> Prop) : Prop :=
  ∀ (pins : List (Addr × Obj)) (s : Shared) (σ : St) (H : Hp) (xs : List V) (us : List Value) (Q : VK), Inv X pins σ H s -> Vals xs us -> r xs H Q ->
    wpAny (model X.prog X.w) X.A (call f us) (EP X pins σ Q) X.xe s
def tOp (r : R2) (ta tb : TE) : TE := fun σ H Q => ta σ H fun x H1 => tb σ H1 fun y H2 => r x y H2 Q
def tUn (r : V -> Hp -> VK -> Prop) (ta : TE) : TE := fun σ H Q => ta σ H fun x H1 => r x H1 Q
def rI (C : Int -> Int -> Prop) (g : Int -> Int -> V) : R2 := fun x y H Q => ∃ i j, x = .int i /\ y = .int j /\ C i j /\ Q (g i j) H
def rI0 (g : Int -> Int -> V) : R2 := fun x y H Q => ∃ i j, x = .int i /\ y = .int j /\ Q (g i j) H
def rU (g : Int -> V) : V -> Hp -> VK -> Prop := fun x H Q => ∃ i, x = .int i /\ Q (g i) H
section
variable {X : Cx} {a b c : Expr} {ta tb tc : TE} {pos : Pos}
theorem binT (ha : PE X a ta) (hb : PE X b tb) {pins : List (Addr × Obj)} {s : Shared} {σ : St} {H : Hp} {R : V -> V -> Hp -> Prop} (I : Inv X pins σ H s)
    (h : ta σ H fun x H1 => tb σ H1 fun y H2 => R x y H2) {Q : Value -> Shared -> Prop} {f : Value -> Value -> Sem Value}
    (hf : ∀ v u s2 x y H2, Inv X pins σ H2 s2 -> RelV x v -> RelV y u -> R x y H2 -> wpAny (model X.prog X.w) X.A (f v u) Q X.xe s2) :
    wpAny (model X.prog X.w) X.A (eval a X.env) (fun v s₁ => wpAny (model X.prog X.w) X.A (eval b X.env) (fun u s₂ => wpAny (model X.prog X.w) X.A (f v u) Q X.xe s₂) X.xe s₁) X.xe s := by
  refine thn (ha pins s σ H _ I h) fun v s1 ⟨x, H1, I1, r1, q1⟩ => ?_
  refine thn (hb pins s1 σ H1 _ I1 q1) fun u s2 ⟨y, H2, I2, r2, q2⟩ => ?_
  exact hf v u s2 x y H2 I2 r1 r2 q2
theorem pe_op {op : Operator} {r : R2} (ho : OpR X (binaryOp op) r) (ha : PE X a ta) (hb : PE X b tb) : PE X (.BinOp a op b pos) (tOp r ta tb) := by
  intro pins s σ H Q I h
  exact wpAny_BinOp (binT ha hb I h fun v u s2 x y H2 I2 rx ry q => ho pins s2 σ H2 x y v u Q I2 rx ry q)
theorem pe_un {op : UnaryOp} {r : V -> Hp -> VK -> Prop} (ho : UnR X (unaryOp op) r) (ha : PE X a ta) : PE X (.UnaryOp op a pos) (tUn r ta) := by
  intro pins s σ H Q I h
  exact UnaryOp_ (thn (ha pins s σ H _ I h) fun v s1 ⟨x, H1, I1, r1, q1⟩ => ho pins s1 σ H1 x v Q I1 r1 q1)
theorem opI {f : Value -> Value -> Sem Value} {C : Int -> Int -> Prop} {g : Int -> Int -> Int}
    (rule : ∀ (i j : Int) (t u : Tok) (s : Shared) (Q : Value -> Shared -> Prop) (E : Value -> Shared -> Prop), C i j -> Q (.int (g i j) s.toks) { s with toks := s.toks + 1 } -> wpAny (model X.prog X.w) X.A (f (.int i t) (.int j u)) Q E s) :
    OpR X f (rI C fun i j => .int (g i j)) := by
  intro pins s σ H x y v u Q I rx ry h
  obtain ⟨i, j, rfl, rfl, hc, q⟩ := h
  obtain ⟨t, rfl⟩ := rx
  obtain ⟨t', rfl⟩ := ry
  exact rule i j t t' s _ _ hc ⟨.int (g i j), H, I.tok _, ⟨_, rfl⟩, q⟩
theorem opI0 {f : Value -> Value -> Sem Value} {g : Int -> Int -> Int}
    (rule : ∀ (i j : Int) (t u : Tok) (s : Shared) (Q : Value -> Shared -> Prop) (E : Value -> Shared -> Prop), Q (.int (g i j) s.toks) { s with toks := s.toks + 1 } -> wpAny (model X.prog X.w) X.A (f (.int i t) (.int j u)) Q E s) :
    OpR X f (rI0 fun i j => .int (g i j)) := by
  intro pins s σ H x y v u Q I rx ry h
  obtain ⟨i, j, rfl, rfl, q⟩ := h
  obtain ⟨t, rfl⟩ := rx
  obtain ⟨t', rfl⟩ := ry
  exact rule i j t t' s _ _ ⟨.int (g i j), H, I.tok _, ⟨_, rfl⟩, q⟩
theorem opB0 {f : Value -> Value -> Sem Value} {g : Int -> Int -> Bool}
    (rule : ∀ (i j : Int) (t u : Tok) (s : Shared) (Q : Value -> Shared -> Prop) (E : Value -> Shared -> Prop), Q (.bool (g i j)) s -> wpAny (model X.prog X.w) X.A (f (.int i t) (.int j u)) Q E s) :
    OpR X f (rI0 fun i j => .bl (g i j)) := by
  intro pins s σ H x y v u Q I rx ry h
  obtain ⟨i, j, rfl, rfl, q⟩ := h
  obtain ⟨t, rfl⟩ := rx
  obtain ⟨t', rfl⟩ := ry
  exact rule i j t t' s _ _ ⟨.bl (g i j), H, I, rfl, q⟩
def CPow (i j : Int) : Prop := 0 <= j /\ j <= 1000000 /\ i.natAbs < 2 ^ 64
def CMul (i j : Int) : Prop := (-(2 ^ 64) < i /\ i < 2 ^ 64) \/ (-(2 ^ 64) < j /\ j < 2 ^ 64)
theorem CMul.ok {i j : Int} (h : CMul i j) : IntMulOk i j := by
  rcases h with ⟨h1, h2⟩ | ⟨h1, h2⟩
  . exact .of_left (intBits_le_64 h1 h2)
  . exact .of_right (intBits_le_64 h1 h2)
theorem two_pow_nn (k : Nat) : (0 : Int) <= 2 ^ k := by
  rw [two_pow_cast]
  exact Int.natCast_nonneg _
theorem op_add : OpR X (binaryOp .Add) (rI0 fun i j => .int (i + j)) := opI0 fun _ _ _ _ _ _ _ q => add_int q
theorem op_sub : OpR X (binaryOp .Sub) (rI0 fun i j => .int (i - j)) := opI0 fun _ _ _ _ _ _ _ q => sub_int q
theorem op_mod : OpR X (binaryOp .Mod) (rI (fun _ j => 0 < j) fun i j => .int (i % j)) := opI fun i j _ _ _ _ _ hc q => by
  have h1 : (0 : Int) < j := hc
  exact mod_int' (by omega) (by rw [Int.fmod_eq_emod_of_nonneg i (by omega)]; exact q)
theorem op_pow : OpR X (binaryOp .Pow) (rI CPow fun i j => .int (i ^ j.toNat)) := opI fun _ _ _ _ _ _ _ hc q => pow_int_small hc.1 hc.2.1 hc.2.2 q
theorem op_shl : OpR X (binaryOp .LShift) (rI CPow fun i j => .int (i * 2 ^ j.toNat)) := opI fun _ _ _ _ _ _ _ hc q => lshift_int_small hc.1 hc.2.1 hc.2.2 q
theorem op_shr : OpR X (binaryOp .RShift) (rI (fun _ j => 0 <= j) fun i j => .int (i / 2 ^ j.toNat)) := opI fun i j _ _ _ _ _ hc q =>
  rshift_int hc (by rw [Int.fdiv_eq_ediv_of_nonneg i (two_pow_nn _)]; exact q)
theorem op_and : OpR X (binaryOp .BitAnd) (rI0 fun i j => .int (Builtin.bitAnd i j)) := opI0 fun _ _ _ _ _ _ _ q => and_int q
theorem unI {f : Value -> Sem Value} {g : Int -> Int}
    (rule : ∀ (i : Int) (t : Tok) (s : Shared) (Q : Value -> Shared -> Prop) (E : Value -> Shared -> Prop), Q (.int (g i) s.toks) { s with toks := s.toks + 1 } -> wpAny (model X.prog X.w) X.A (f (.int i t)) Q E s) :
    UnR X f (rU fun i => .int (g i)) := by
  intro pins s σ H x v Q I rx h
  obtain ⟨i, rfl, q⟩ := h
  obtain ⟨t, rfl⟩ := rx
  exact rule i t s _ _ ⟨.int (g i), H, I.tok _, ⟨_, rfl⟩, q⟩
theorem un_neg : UnR X (unaryOp .USub) (rU fun i => .int (-i)) := unI fun _ _ _ _ _ q => neg_int q
end
section
variable {X : Cx} {a b c : Expr} {ta tb tc : TE} {pos : Pos}
theorem fin_bl {pins : List (Addr × Obj)} {σ : St} {H : Hp} {s : Shared} {Q : VK} {k k' : Bool} (I : Inv X pins σ H s) (q : Q (.bl k) H) (e : k = k') : EP X pins σ Q (.bool k') s := by
  subst e
  exact ⟨.bl k, H, I, rfl, q⟩
theorem op_lt : OpR X (compareOp .Lt) (rI0 fun i j => .bl (decide (i < j))) := opB0 fun _ _ _ _ _ _ _ q => lt_int q
theorem op_le : OpR X (compareOp .LtE) (rI0 fun i j => .bl (decide (i <= j))) := opB0 fun _ _ _ _ _ _ _ q => le_int q
theorem op_gt : OpR X (compareOp .Gt) (rI0 fun i j => .bl (decide (j < i))) := opB0 fun _ _ _ _ _ _ _ q => gt_int q
theorem op_isN : OpR X (compareOp .Is) (fun x y H Q => y = .non /\ Q (.bl (decide (x = .non))) H) := by
  intro pins s σ H x y v u Q I rx ry h
  obtain ⟨rfl, q⟩ := h
  cases ry
  refine is_none_gen (fin_bl I q ?_)
  cases x <;> first
    | (cases rx; rfl)
    | (obtain ⟨t, rfl⟩ := rx; rfl)
theorem op_notN : OpR X (compareOp .IsNot) (fun x y H Q => y = .non /\ Q (.bl (!decide (x = .non))) H) := by
  intro pins s σ H x y v u Q I rx ry h
  obtain ⟨rfl, q⟩ := h
  cases ry
  refine isnot_none_gen (fin_bl I q ?_)
  cases x <;> first
    | (cases rx; rfl)
    | (obtain ⟨t, rfl⟩ := rx; rfl)
theorem pe_cmpR {op : CmpOp} {r : R2} (ho : OpR X (compareOp op) r) (ha : PE X a ta) (hb : PE X b tb) (hm : behindInMarks op b = false) : PE X (.Compare a [op] [b] pos) (tOp r ta tb) := by
  intro pins s σ H Q I h
  exact wpAny_Compare1 (binT ha hb I h fun v u s2 x y H2 I2 rx ry q => ho pins s2 σ H2 x y v u Q I2 rx ry q) hm
theorem line63 : (sizeLine : Nat) < 2 ^ 63 := by rw [sizeLine_eq]; decide
theorem op_add_str : OpR X (binaryOp .Add) (fun x y H Q => ∃ i j, x = .str i /\ y = .str j /\ i.length + j.length <= sizeLine /\ Q (.str (i ++ j)) H) := by
  intro pins s σ H x y v u Q I rx ry h
  obtain ⟨i, j, rfl, rfl, hz, q⟩ := h
  obtain ⟨t, rfl⟩ := rx
  obtain ⟨t', rfl⟩ := ry
  exact add_str (fun t' tk => ⟨.str (i ++ j), H, I.tok _, ⟨_, rfl⟩, q⟩) hz
theorem vals1 {x : V} {us : List Value} (r : Vals [x] us) : ∃ u, us = [u] /\ RelV x u := by
  cases r with
  | cons r1 r2 => cases r2; exact ⟨_, rfl, r1⟩
theorem vals2 {x y : V} {us : List Value} (r : Vals [x, y] us) : ∃ u w', us = [u, w'] /\ RelV x u /\ RelV y w' := by
  cases r with
  | cons r1 r2 =>
    cases r2 with
    | cons r3 r4 => cases r4; exact ⟨_, _, rfl, r1, r3⟩
theorem call_min2 (hc : X.calm = true) : CallR X (.builtin "min") (fun xs H Q => ∃ i j, xs = [.int i, .int j] /\ Q (.int (if j < i then j else i)) H) := by
  intro pins s σ H xs us Q I r h
  obtain ⟨i, j, rfl, q⟩ := h
  obtain ⟨u, w', rfl, ⟨t, rfl⟩, ⟨t', rfl⟩⟩ := vals2 r
  refine min_two_ints (I.ok.hd hc) fun h' tk k => ⟨_, H, I.kept k, ?_, q⟩
  by_cases hj : j < i
  . rw [if_pos hj, if_pos hj]; exact ⟨_, rfl⟩
  . rw [if_neg hj, if_neg hj]; exact ⟨_, rfl⟩
theorem call_int1 : CallR X (.type "int") (fun xs H Q => (∃ i, xs = [.int i] /\ Q (.int i) H) \/ ∃ k, xs = [.bl k] /\ Q (.int (if k then 1 else 0)) H) := by
  intro pins s σ H xs us Q I r h
  rcases h with ⟨i, rfl, q⟩ | ⟨k, rfl, q⟩
  . obtain ⟨u, rfl, t, rfl⟩ := vals1 r
    exact call_int_int ⟨.int i, H, I, ⟨_, rfl⟩, q⟩
  . obtain ⟨u, rfl, r1⟩ := vals1 r
    cases r1
    exact call_int_bool ⟨.int (if k then 1 else 0), H, I.tok _, ⟨_, rfl⟩, q⟩
def LenV (K : PySem.W.Frag) (x : V) (H : Hp) (n : Nat) : Prop :=
  match x with
  | .str y => y.length <= sizeLine /\ n = y.length
  | .byt y => y.size <= sizeLine /\ n = y.size
  | .ref p => (∃ xs, SqL K H p xs /\ n = xs.length) \/ ∃ xs, SqT K H p xs /\ n = xs.length
  | _ => False
theorem call_len : CallR X (.builtin "len") (fun xs H Q => ∃ x n, xs = [x] /\ LenV X.K x H n /\ Q (.int n) H) := by
  intro pins s σ H xs us Q I r h
  obtain ⟨x, n, rfl, e, q⟩ := h
  obtain ⟨u, rfl, rx⟩ := vals1 r
  have hl := line63
  have hs : sizeLine = 16777216 := sizeLine_eq
  cases x with
  | str y =>
    obtain ⟨t, rfl⟩ := rx
    obtain ⟨hy, e'⟩ : y.length <= sizeLine /\ n = y.length := e
    subst e'
    exact len_str (by omega) ⟨.int _, H, I.tok _, ⟨_, rfl⟩, q⟩
  | byt y =>
    obtain ⟨t, rfl⟩ := rx
    obtain ⟨hy, e'⟩ : y.size <= sizeLine /\ n = y.size := e
    subst e'
    exact PySem.W.len_bytes (by omega) ⟨.int _, H, I.tok _, ⟨_, rfl⟩, q⟩
  | ref p =>
    cases rx
    have e' : (∃ xs, SqL X.K H p xs /\ n = xs.length) \/ ∃ xs, SqT X.K H p xs /\ n = xs.length := e
    rcases e' with ⟨xs, hx, e'⟩ | ⟨xs, hx, e'⟩
    . subst e'
      obtain ⟨its, r', pl, hz⟩ := I.list hx
      have hlen := r'.length
      exact Calls.call_len_list pl.isList (by simp only [List.size_toArray]; omega) ⟨.int xs.length, H, I.tok _, ⟨_, by simp only [List.size_toArray]; rw [hlen]⟩, q⟩
    . subst e'
      obtain ⟨its, r', pl, hz⟩ := I.tuple hx
      have hlen := r'.length
      exact len_tuple pl (by simp only [List.size_toArray]; omega) ⟨.int xs.length, H, I.tok _, ⟨_, by simp only [List.size_toArray]; rw [hlen]⟩, q⟩
  | _ => exact (show False from e).elim
end
structure ObjM (h : Heap) (x dx C : Addr) (mA : Str -> Option Value) : Prop where
  obj : h.get? x = some (PySem.W.instObj C dx)
  ns : h.Ns1 dx mA
  ne : dx ≠ x
theorem lookIn_ns {h : Heap} {dx : Addr} {mA : Str -> Option Value} (n : h.Ns1 dx mA) : ∃ od, h.get? dx = some od /\ ∀ name, PySem.W.lookIn name od = some (mA name) := by
  obtain ⟨o, es, ep, ho, hd, hk, _, hm⟩ := n
  refine ⟨o, ho, fun name => ?_⟩
  have e := hm name
  unfold nsFind findBy at e
  rw [<- Array.find?_toList] at e
  unfold PySem.W.lookIn
  rw [hd]
  dsimp only
  split
  . rename_i y q
    rw [q] at e
    exact congrArg some e
  . rename_i q
    rw [q] at e
    have a : es.toList.any (·.refKey) = false := by
      rw [List.any_eq_false]
      intro y hy
      obtain ⟨z, t, hkey⟩ := hk y (Array.mem_toList_iff.mp hy)
      simp [DictEntry.refKey, hkey]
    have a' : ¬ es.toList.any (·.refKey) = true := by rw [a]; exact Bool.false_ne_true
    rw [if_neg a']
    exact congrArg some e
theorem ObjM.look {h : Heap} {x dx C : Addr} {mA : Str -> Option Value} (I : ObjM h x dx C mA) : ∃ od, PySem.W.InstAt h x (PySem.W.instObj C dx) C (some od) /\ ∀ name, PySem.W.lookIn name od = some (mA name) :=
  let ⟨od, ho, hl⟩ := lookIn_ns I.ns
  ⟨od, ⟨I.obj, rfl, rfl, ho⟩, hl⟩
section
variable {prog : Program} {w : World} {A : Around} {E : Value -> Shared -> Prop} {s : Shared} {K : PySem.W.Frag} {x dx C f : Addr} {mA : Str -> Option Value} {name : Str} {v : Value}
theorem get_map {expr : Bool} {Q : Value -> Shared -> Prop} (X : K.In s.heap) (I : ObjM s.heap x dx C mA) (hg : PySem.W.plainGet K C name = true) (hh : PySem.W.hasDictIn K C = true)
    (ha : PySem.W.findIn K (.ref C) name = some none) (hv : mA name = some v) (hv' : PySem.W.handedIn v = true) (h : Q v { s with toks := s.toks + 1 }) :
    wpAny (model prog w) A (getAttr (.ref x) name expr) Q E s := by
  obtain ⟨od, J, hl⟩ := I.look
  exact PySem.W.get_value X J (PySem.W.plainGet_of hg).1 (PySem.W.findObj_own hh ha rfl (by rw [hl, hv])) hv' h
theorem get_meth {pl : Sem Bool} {Q : Value × List Value -> Shared -> Prop} (X : K.In s.heap) (I : ObjM s.heap x dx C mA) (hg : PySem.W.plainGet K C name = true)
    (hf : PySem.W.findIn K (.ref C) name = some (some (.ref f))) (ht : PySem.W.isFn K (.ref f) = true) (hv : mA name = none) (h : Q (.ref f, [.ref x]) s) :
    wpAny (model prog w) A (getMethod (.ref x) name pl) Q E s := by
  obtain ⟨od, J, hl⟩ := I.look
  exact PySem.W.method_fn X J (PySem.W.plainGet_of hg).1 (PySem.W.plainGet_of hg).2 hf (beq_iff_eq.mp ht) (by show (PySem.W.lookIn name od).map (·.isSome) = some false; rw [hl, hv]; rfl) h
theorem set_map {ns : List Str} {Q : Unit -> Shared -> Prop} (X : K.In s.heap) (I : ObjM s.heap x dx C mA)
    (hs : PySem.W.findIn K (.ref C) "__setattr__" = some (some (.builtin "object.__setattr__"))) (hp : PySem.W.plainOver K C = true) (ht : PySem.W.takerIn K C name = some none) (hh : PySem.W.hasDictIn K C = true)
    (hw : PySem.Within mA ns) (hsz : ns.length <= sizeLine)
    (h : ∀ h', ObjM h' x dx C (fun y => if y = name then some v else mA y) -> Heap.SameBut dx s.heap h' -> Q () { s with heap := h', toks := s.toks + 2 }) :
    wpAny (model prog w) A (setAttr (.ref x) name v) Q E s := by
  obtain ⟨od, J, hl⟩ := I.look
  refine PySem.W.set_plain X J hs (PySem.W.osa_open (s := { s with toks := s.toks + 1 }) (r := none) X J hp ht fun b => ?_)
  obtain ⟨cd, hc, hd'⟩ := PySem.W.any_some hh
  have hx : s.heap.get? x = some ⟨.ref C, some dx, .plain, #[]⟩ := I.obj
  refine wpAny_bind (wpAny_pure (wpAny_bind (wpAny_bind (wpAny_loadPart hx (wpAny_bind (PySem.W.Looks.here (s := { s with toks := s.toks + 1 }) (PySem.W.looks_clsIn X hc) ?_))))))
  rw [hd']
  refine wpAny_pure (a := some dx) (wpAny_bind (wpAny_pure (wpAny_bind ?_)))
  refine wpAny_nsSet1 (s := { s with toks := s.toks + 1 }) I.ns fun h' hn2 hs2 => ?_
  obtain ⟨oD, esD, epD, hoD, hdD, hcD⟩ := hn2.count (PySem.Within.cons name v hw)
  refine wpAny_bind (wpAny_lookBehind hoD (by rw [hdD]; exact pastItsLine_dict (Nat.le_trans hcD (by rw [List.length_cons]; omega))) ?_)
  exact wpAny_pure (h _ ⟨(hs2.2 _ (Ne.symm I.ne)).trans I.obj, hn2, I.ne⟩ hs2)
theorem make_map {R : Result -> Shared -> Prop} {vs : List Value} {kw : List (Str × Value)} (X : K.In s.heap) (hm : PySem.W.makesIn K C = true)
    (hi : PySem.W.findIn K (.ref C) "__init__" = some (some (.ref f))) (hf : PySem.W.typeIn K (.ref f) = some (.type "function"))
    (h : codeAny (model prog w) (A.under (.builtin "type.__call__" ⟨.ref C :: vs, kw⟩)) (.call (.ref f) ⟨.ref (s.heap.objs.size + 1) :: vs, kw⟩) (PySem.W.InitBack (s.heap.objs.size + 1) R)
      { s with heap := (s.heap.push PySem.W.emptyDict).push (PySem.W.instObj C s.heap.objs.size) }) :
    codeAny (model prog w) A (.call (.ref C) ⟨vs, kw⟩) R s := by
  obtain ⟨hh, g, d, t, os⟩ := s
  exact PySem.W.make_core (PySem.W.makes_of X hm) (PySem.W.looks_findIn X hi) (fun self => PySem.W.bind_fn X self hf) (.inl rfl) h
end
def putF (f : Str) (v : V) : List (Str × V) -> List (Str × V)
  | [] => [(f, v)]
  | (g, x) :: r => if g = f then (g, v) :: r else (g, x) :: putF f v r
theorem lookup_putF (f g : Str) (v : V) : ∀ fs : List (Str × V), (putF f v fs).lookup g = if g = f then some v else fs.lookup g
  | [] => by
    show List.lookup g [(f, v)] = _
    by_cases h : g = f
    . have hb : (g == f) = true := beq_iff_eq.mpr h
      simp only [List.lookup, hb, if_pos h]
    . have hb : (g == f) = false := beq_eq_false_iff_ne.mpr h
      simp only [List.lookup, hb, if_neg h]
  | (k, x) :: r => by
    have ih := lookup_putF f g v r
    rw [show putF f v ((k, x) :: r) = (if k = f then (k, v) :: r else (k, x) :: putF f v r) from rfl]
    by_cases hk : k = f
    . rw [if_pos hk]
      by_cases h : g = k
      . have hb : (g == k) = true := beq_iff_eq.mpr h
        simp only [List.lookup, hb, if_pos (h.trans hk)]
      . have hb : (g == k) = false := beq_eq_false_iff_ne.mpr h
        simp only [List.lookup, hb, if_neg (fun e : g = f => h (e.trans hk.symm))]
    . rw [if_neg hk]
      by_cases h : g = k
      . have hb : (g == k) = true := beq_iff_eq.mpr h
        simp only [List.lookup, hb, if_neg (fun e : g = f => hk (h.symm.trans e))]
      . have hb : (g == k) = false := beq_eq_false_iff_ne.mpr h
        simp only [List.lookup, hb]
        exact ih
theorem keys_putF (f : Str) (v : V) : ∀ fs : List (Str × V), f ∈ (putF f v fs).map (·.1) /\ ∀ g, g ∈ fs.map (·.1) -> g ∈ (putF f v fs).map (·.1)
  | [] => ⟨by simp [putF], fun g h => by simp at h⟩
  | (k, x) :: r => by
    obtain ⟨i1, i2⟩ := keys_putF f v r
    rw [show putF f v ((k, x) :: r) = (if k = f then (k, v) :: r else (k, x) :: putF f v r) from rfl]
    by_cases hk : k = f
    . rw [if_pos hk]
      subst hk
      exact ⟨by simp, fun g h => by simpa using h⟩
    . rw [if_neg hk]
      refine ⟨?_, fun g h => ?_⟩
      . rw [List.map_cons]
        exact List.mem_cons_of_mem _ i1
      . rw [List.map_cons] at h ⊢
        rcases List.mem_cons.mp h with e | e
        . exact List.mem_cons.mpr (.inl e)
        . exact List.mem_cons_of_mem _ (i2 g e)
theorem length_putF (f : Str) (v : V) : ∀ fs : List (Str × V), (putF f v fs).length <= fs.length + 1
  | [] => by simp [putF]
  | (k, x) :: r => by
    have ih := length_putF f v r
    rw [show putF f v ((k, x) :: r) = (if k = f then (k, v) :: r else (k, x) :: putF f v r) from rfl]
    by_cases hk : k = f
    . rw [if_pos hk, List.length_cons, List.length_cons]; omega
    . rw [if_neg hk, List.length_cons, List.length_cons]; omega
theorem RelO.some_of {v : V} {o : Option Value} (r : RelO (some v) o) : ∃ u, o = some u /\ RelV v u := by
  cases o with
  | none => exact (show False from r).elim
  | some u => exact ⟨u, rfl, r⟩
theorem RelO.none_of {o : Option Value} (r : RelO none o) : o = none := by
  cases o with
  | none => rfl
  | some u => exact (show False from r).elim
theorem handed_of {v : V} {u : Value} (r : RelV v u) : PySem.W.handedIn u = true := by
  cases v with
  | non => cases (show u = Value.none from r); rfl
  | bl b => cases (show u = Value.bool b from r); rfl
  | int i => obtain ⟨t, e⟩ := (show ∃ t, u = Value.int i t from r); cases e; rfl
  | str x => obtain ⟨t, e⟩ := (show ∃ t, u = Value.str x t from r); cases e; rfl
  | byt b => obtain ⟨t, e⟩ := (show ∃ t, u = Value.bytes b t from r); cases e; rfl
  | flt b => obtain ⟨t, e⟩ := (show ∃ t, u = Value.float b t from r); cases e; rfl
  | ref a => cases (show u = Value.ref a from r); rfl
  | ty n => cases (show u = Value.type n from r); rfl
section
variable {P : Program} {w : World} {H H' : Hp} {h h' : Heap} {a C dx : Addr} {fs fs' : List (Str × V)}
theorem ins_get (hok : HOk P w H h) (e : H a = some (.ins C dx fs)) : ∃ mA, ObjM h a dx C mA /\ (∀ f, RelO (fs.lookup f) (mA f)) /\ PySem.Within mA (fs.map (·.1)) /\ fs.length <= 1000 /\ H dx = some (.own a) := by
  obtain ⟨d, z, ne, ob, mA, n, r, q⟩ := (show ObjOk P w H h a (.ins C dx fs) from hok a _ e)
  exact ⟨mA, ⟨ob, n, ne⟩, r, q, z, d⟩
end
structure Cls (K : PySem.W.Frag) (C : Addr) : Prop where
  pg : PySem.W.plainGet K C Str.empty = true
  hd : PySem.W.hasDictIn K C = true
  po : PySem.W.plainOver K C = true
  sa : PySem.W.findIn K (.ref C) "__setattr__" = some (some (.builtin "object.__setattr__"))
theorem Cls.get {K : PySem.W.Frag} {C : Addr} (c : Cls K C) (f : Str) : PySem.W.plainGet K C f = true := c.pg
def NoAttr (K : PySem.W.Frag) (C : Addr) (f : Str) : Prop := PySem.W.findIn K (.ref C) f = some none
theorem NoAttr.taker {K : PySem.W.Frag} {C : Addr} {f : Str} (n : NoAttr K C f) : PySem.W.takerIn K C f = some none := by
  unfold PySem.W.takerIn
  rw [show PySem.W.findIn K (.ref C) f = some none from n]
  rfl
structure Con (K : PySem.W.Frag) (C : Addr) (f : Str) (v : V) (u : Value) : Prop where
  at_ : PySem.W.findIn K (.ref C) f = some (some u)
  rel : RelV v u
  get : PySem.W.specialIn K u "__get__" = some none
  cp : PySem.W.copiedNames.contains f = false
structure Meth (K : PySem.W.Frag) (C : Addr) (m : Str) (f : Addr) : Prop where
  at_ : PySem.W.findIn K (.ref C) m = some (some (.ref f))
  fn : PySem.W.isFn K (.ref f) = true
  kp : PySem.W.keepIn K (.ref f) = true
section
variable {X : Cx} {pins : List (Addr × Obj)} {σ : St} {H : Hp} {s : Shared} {a C dx : Addr} {fs : List (Str × V)} {f : Str} {v : V} {A : Around} {E : Value -> Shared -> Prop}
theorem getattr_ok {b : Bool} {Q : Value -> Shared -> Prop} (I : Inv X pins σ H s) (e : H a = some (.ins C dx fs)) (c : Cls X.K C) (n : NoAttr X.K C f) (l : fs.lookup f = some v)
    (h : ∀ u s', Inv X pins σ H s' -> RelV v u -> Q u s') : wpAny (model X.prog X.w) A (getAttr (.ref a) f b) Q E s := by
  obtain ⟨mA, O, r, _, _, _⟩ := ins_get I.hok e
  obtain ⟨u, hu, ru⟩ := RelO.some_of (v := v) (o := mA f) (by rw [<- l]; exact r f)
  exact get_map I.kIn O (c.get f) c.hd n hu (handed_of ru) (h u _ (I.tok _) ru)
theorem getmeth_ok {m : Str} {g : Addr} {pl : Sem Bool} {Q : Value × List Value -> Shared -> Prop} (I : Inv X pins σ H s) (e : H a = some (.ins C dx fs)) (c : Cls X.K C) (k : Meth X.K C m g) (l : fs.lookup m = none)
    (h : Q (.ref g, [.ref a]) s) : wpAny (model X.prog X.w) A (getMethod (.ref a) m pl) Q E s := by
  obtain ⟨mA, O, r, _, _, _⟩ := ins_get I.hok e
  have hn : mA m = none := RelO.none_of (by rw [<- l]; exact r m)
  exact get_meth I.kIn O (c.get m) k.at_ k.fn hn h
theorem setattr_ok {y : V} {u : Value} {Q : Unit -> Shared -> Prop} (I : Inv X pins σ H s) (e : H a = some (.ins C dx fs)) (c : Cls X.K C) (n : NoAttr X.K C f) (hl : fs.length < 1000) (ry : RelV y u)
    (h : ∀ s', Inv X pins σ (upd H a (.ins C dx (putF f y fs))) s' -> Q () s') : wpAny (model X.prog X.w) A (setAttr (.ref a) f u) Q E s := by
  obtain ⟨mA, O, r, wi, _, ho⟩ := ins_get I.hok e
  have hz : (fs.map (·.1)).length <= sizeLine := by rw [List.length_map, sizeLine_eq]; omega
  refine set_map I.kIn O c.sa c.po n.taker c.hd wi hz fun h' O' sb => h _ ?_
  have hd : ∃ o, h'.get? dx = some o := let ⟨o, _, _, e', _⟩ := O'.ns; ⟨o, e'⟩
  refine I.write (x := a) (e := dx) (by rw [e]; exact True.intro) (.inr ho) (fun b q hb z => (sb.2 b hb).trans z) hd ?_
  refine ⟨by rw [upd_ne O.ne]; exact ho, ?_, O.ne, O'.obj, _, O'.ns, fun g => ?_, fun g hg => ?_⟩
  . have := length_putF f y fs; omega
  . show RelO ((putF f y fs).lookup g) (if g = f then some u else mA g)
    rw [lookup_putF]
    by_cases q : g = f
    . rw [if_pos q, if_pos q]; exact ry
    . rw [if_neg q, if_neg q]; exact r g
  . by_cases q : g = f
    . rw [q]; exact (keys_putF f y fs).1
    . refine (keys_putF f y fs).2 g (wi g fun z => hg ?_)
      show (if g = f then some u else mA g) = none
      rw [if_neg q]; exact z
theorem Inv.made (I : Inv X pins σ H s) : Inv X pins σ (upd (upd H s.heap.objs.size (.own (s.heap.objs.size + 1))) (s.heap.objs.size + 1) (.ins C s.heap.objs.size []))
    { s with heap := (s.heap.push PySem.W.emptyDict).push (PySem.W.instObj C s.heap.objs.size) } := by
  have e1 : (s.heap.push PySem.W.emptyDict).get? s.heap.objs.size = some PySem.W.emptyDict := Heap.get?_push_size s.heap rfl
  have e2 : ((s.heap.push PySem.W.emptyDict).push (PySem.W.instObj C s.heap.objs.size)).get? (s.heap.objs.size + 1) = some (PySem.W.instObj C s.heap.objs.size) := by
    have := Heap.get?_push_size (s.heap.push PySem.W.emptyDict) (o := PySem.W.instObj C s.heap.objs.size) rfl
    rwa [Heap.size_push] at this
  have e3 : (s.heap.push PySem.W.emptyDict).Ns s.heap.objs.size (fun _ => none) := ⟨PySem.W.emptyDict, #[], _, e1, rfl, (fun e he => absurd he (by simp)), fun _ => rfl⟩
  have I1 := I.laid (a := s.heap.objs.size) (o := .own (s.heap.objs.size + 1)) (h' := s.heap.push PySem.W.emptyDict) (t' := s.toks) (fun b u q => Heap.get?_push_of_some _ q) (Nat.le_refl _) ⟨_, e1⟩
  refine I1.laid (a := s.heap.objs.size + 1) (o := .ins C s.heap.objs.size []) (t' := s.toks) (fun b u q => Heap.get?_push_of_some _ q) (Nat.le_of_eq (Heap.size_push _ _)) ?_
  have ne : s.heap.objs.size ≠ s.heap.objs.size + 1 := Nat.ne_of_lt (Nat.lt_succ_self _)
  refine ⟨by rw [upd_ne ne, upd_same], Nat.zero_le _, ne, e2, fun _ => none, (Heap.Ns1.of_empty e3).at fun o q => Heap.get?_push_of_some _ q, fun _ => True.intro, fun y hy => absurd rfl hy⟩
theorem attr_of {prog : Program} {w : World} {env : Env} {e : Expr} {f : Str} {pos : Pos} {s : Shared} {Q : Value -> Shared -> Prop} (hb : attributeBase e f env (eval e env) = eval e env)
    (h : wpAny (model prog w) A (eval e env) (fun o s₁ => wpAny (model prog w) A (getAttr o f true) Q E s₁) E s) : wpAny (model prog w) A (eval (.Attribute e f pos) env) Q E s :=
  Attribute_any_ h (by rw [arm_eval_Attribute, hb])
end
section
variable {X : Cx} {o e value : Expr} {f : Str} {pos pos' tpos : Pos} {ta tv : TE}
end
section
variable {X : Cx} {pins : List (Addr × Obj)} {σ : St} {H : Hp} {s : Shared} {A : Around} {E : Value -> Shared -> Prop} {Q : Value -> Shared -> Prop} {c : Value} {b : Bool}
inductive TyOf (K : PySem.W.Frag) (H : Hp) : V -> Value -> Prop where
  | non : TyOf K H .non (.type "NoneType")
  | bl (x : Bool) : TyOf K H (.bl x) (.type "bool")
  | int (i : Int) : TyOf K H (.int i) (.type "int")
  | str (x : Str) : TyOf K H (.str x) (.type "str")
  | flt (x : UInt64) : TyOf K H (.flt x) (.type "float")
  | lst {a : Addr} {xs : List V} (e : H a = some (.lst xs)) : TyOf K H (.ref a) (.type "list")
  | frz {a : Addr} {o : Obj} {xs : List V} (e : H a = some (.frz o (.lst xs))) : TyOf K H (.ref a) (.type "list")
  | tup {a : Addr} {xs : List V} (e : H a = some (.tup xs)) : TyOf K H (.ref a) (.type "tuple")
  | dK {a : Addr} {kvs : List (Key × V)} (e : H a = some (.dK kvs)) : TyOf K H (.ref a) (.type "dict")
  | dT {a : Addr} {kvs : List (List Key × V)} (e : H a = some (.dT kvs)) : TyOf K H (.ref a) (.type "dict")
  | ins {a C dx : Addr} {fs : List (Str × V)} (e : H a = some (.ins C dx fs)) (cl : Cls K C) (ha : PySem.W.findIn K (.ref C) "__class__" = some (some (.builtin "object.__class__")))
      (hn : PySem.W.specialIn K (.builtin "object.__class__") "__get__" = some (some (.builtin "getset_descriptor.__get__"))) (htk : PySem.W.takesIn K (.builtin "object.__class__") = some true)
      (hm : PySem.W.mroIn K C (.type "object") = some true) : TyOf K H (.ref a) (.ref C)
theorem isinst_ok {x : V} {u t : Value} (I : Inv X pins σ H s) (rx : RelV x u) (ty : TyOf X.K H x t) (e : PySem.W.kitOne X.K t c = some b) (h : ∀ tk, Q (.bool b) { s with toks := tk }) :
    wpAny (model X.prog X.w) A (call (.builtin "isinstance") [u, c]) Q E s := by
  cases ty with
  | non => cases (show u = Value.none from rx); exact PySem.W.kia_one PySem.W.kitx_none I.kIn True.intro e (fun z => nomatch z) h
  | bl y => cases (show u = Value.bool y from rx); exact PySem.W.kia_one PySem.W.kitx_bool I.kIn True.intro e (fun z => nomatch z) h
  | int i => obtain ⟨t, q⟩ := (show ∃ t, u = Value.int i t from rx); cases q; exact PySem.W.kia_one PySem.W.kitx_int I.kIn True.intro e (fun z => nomatch z) h
  | str y => obtain ⟨t, q⟩ := (show ∃ t, u = Value.str y t from rx); cases q; exact PySem.W.kia_one PySem.W.kitx_str I.kIn True.intro e (fun z => nomatch z) h
  | flt y => obtain ⟨t, q⟩ := (show ∃ t, u = Value.float y t from rx); cases q; exact PySem.W.kia_one PySem.W.kitx_float I.kIn True.intro e (fun z => nomatch z) h
  | @lst a xs ea =>
    cases (show u = Value.ref a from rx)
    obtain ⟨_, _, n, _, h1⟩ := (show ObjOk X.prog X.w H s.heap a (.lst xs) from I.hok a _ ea)
    exact PySem.W.kia_one PySem.W.kitx_list I.kIn ⟨_, h1, rfl⟩ e (fun z => nomatch z) h
  | @frz a ob xs ea =>
    cases (show u = Value.ref a from rx)
    obtain ⟨_, _, _, n, _, h1⟩ := (show ObjOk X.prog X.w H s.heap a (.frz ob (.lst xs)) from I.hok a _ ea)
    exact PySem.W.kia_one PySem.W.kitx_list I.kIn ⟨_, h1, rfl⟩ e (fun z => nomatch z) h
  | @tup a xs ea =>
    cases (show u = Value.ref a from rx)
    obtain ⟨_, _, _, p⟩ := (show ObjOk X.prog X.w H s.heap a (.tup xs) from I.hok a _ ea)
    obtain ⟨o, h1, h2, _⟩ := p
    exact PySem.W.kia_one PySem.W.kitx_tuple I.kIn ⟨o, h1, h2⟩ e (fun z => nomatch z) h
  | @dK a kvs ea =>
    cases (show u = Value.ref a from rx)
    obtain ⟨_, _, vs, _, p⟩ := (show ObjOk X.prog X.w H s.heap a (.dK kvs) from I.hok a _ ea)
    obtain ⟨o, es, ep, h1, h2, _⟩ := p
    exact PySem.W.kia_one PySem.W.kitx_dict I.kIn ⟨o, h1, h2.1⟩ e (fun z => nomatch z) h
  | @dT a kvs ea =>
    cases (show u = Value.ref a from rx)
    obtain ⟨_, _, xs, _, o, es, ep, h1, h2, _⟩ := (show ObjOk X.prog X.w H s.heap a (.dT kvs) from I.hok a _ ea)
    exact PySem.W.kia_one PySem.W.kitx_dict I.kIn ⟨o, h1, h2.1⟩ e (fun z => nomatch z) h
  | @ins a C dx fs ea cl ha hn htk hm =>
    cases (show u = Value.ref a from rx)
    obtain ⟨mA, O, _⟩ := ins_get I.hok ea
    obtain ⟨od, J, _⟩ := O.look
    exact PySem.W.kia_one (PySem.W.kitx_own (cl.get _) cl.hd ha hn htk hm) I.kIn J e (fun z => nomatch z) h
end
structure Room (k : Nat) (A : Around) : Prop where
  hd : A.handled = none
  dp : A.depth + 3 * k + 5 < recursionLimit
  un : A.units + 16 * k + 200 < cLine
  gd : A.guards = some []
theorem Room.mono {j k : Nat} {A : Around} (r : Room k A) (h : j <= k) : Room j A := ⟨r.hd, by have := r.dp; omega, by have := r.un; omega, r.gd⟩
theorem Room.deeper {k : Nat} {A : Around} (r : Room (k + 1) A) (env : Env) : Room k (A.deeper env) :=
  ⟨r.hd, by have := r.dp; show A.depth + 1 + 3 * k + 5 < _; omega, by have := r.un; show A.units + 3 + 16 * k + 200 < _; omega, r.gd⟩
theorem make_depth {A : Around} {C : Addr} {us : List Value} {kw : List (Str × Value)} : (A.under (.builtin "type.__call__" ⟨.ref C :: us, kw⟩)).depth = A.depth + 1 := by
  first | rfl | simp [Around.under, Code.weight, Code.isCreation, Code.isGuard, Code.isCaller, Code.frames, Code.isFrame, guardIds]
theorem make_units {A : Around} {C : Addr} {us : List Value} {kw : List (Str × Value)} : (A.under (.builtin "type.__call__" ⟨.ref C :: us, kw⟩)).units = A.units + 1 := by
  first | rfl | simp [Around.under, Code.cUnits, Code.frames, Code.isFrame]
theorem Room.make {k : Nat} {A : Around} (r : Room (k + 1) A) (C : Addr) (us : List Value) (kw : List (Str × Value)) : Room k (A.under (.builtin "type.__call__" ⟨.ref C :: us, kw⟩)) :=
  ⟨r.hd, by have := r.dp; rw [make_depth]; omega, by have := r.un; rw [make_units]; omega, by first | exact r.gd | (simpa [Around.under, Code.guards, Code.isGuard, guardIds, pushGuards] using r.gd)⟩
theorem Room.depth {k : Nat} {A : Around} (r : Room k A) : A.depth < recursionLimit := by have := r.dp; omega
def tNil : TA := fun _ H Q => Q [] H
def tCons (ta : TE) (tr : TA) : TA := fun σ H Q => ta σ H fun x H1 => tr σ H1 fun xs H2 => Q (x :: xs) H2
section
variable {X : Cx} {e : Expr} {es : List Expr} {te : TE} {t : TA} {pos : Pos}
theorem pa_nil : PA X [] tNil := fun _ _ _ _ H Q I h => Calls.spliced_nil ⟨[], H, I, .nil, h⟩
theorem pa_cons (ha : PE X e te) (hr : PA X es t) (hs : starEach (e :: es) X.env = (false, eval e X.env) :: starEach es X.env := by rfl) : PA X (e :: es) (tCons te t) := by
  intro pos pins s σ H Q I h
  rw [hs]
  show wpAny _ _ (spliced ((false, eval e X.env) :: backTo pos (starEach es X.env))) _ _ s
  refine Calls.spliced_cons (thn (ha pins s σ H _ I h) fun u s1 ⟨x, H1, I1, r1, q1⟩ => ?_)
  exact thn (hr pos pins s1 σ H1 _ I1 q1) fun us s2 ⟨xs, H2, I2, r2, q2⟩ => ⟨x :: xs, H2, I2, .cons r1 r2, q2⟩
def tTup (t : TA) : TE := fun σ H Q => t σ H fun xs H1 => xs.length <= sizeLine /\ ∀ p, H1 p = none -> Q (.ref p) (upd H1 p (.tup xs))
def tLst (t : TA) : TE := fun σ H Q => t σ H fun xs H1 => xs.length <= sizeLine /\ ∀ p, H1 p = none -> Q (.ref p) (upd H1 p (.lst xs))
theorem pe_tup {x1} (h : PA X es t) : PE X (.Tuple es x1 pos) (tTup t) := by
  intro pins s σ H Q I hq
  refine wpAny_Tuple_spliced (thn (h pos pins s σ H _ I hq) fun us s1 ⟨xs, H1, I1, r, z, q⟩ => ⟨by rw [<- r.length]; exact z, ?_⟩)
  have hf : H1 s1.heap.objs.size = none := I1.hok.fresh (Nat.le_refl _)
  refine ⟨.ref s1.heap.objs.size, upd H1 s1.heap.objs.size (.tup xs), I1.laid (t' := s1.toks) (fun b u e => Heap.get?_push_of_some _ e) (Nat.le_refl _) ?_, rfl, q _ hf⟩
  exact ⟨z, us, r, ⟨_, Heap.get?_push_size _ rfl, rfl, ⟨_, rfl⟩, rfl⟩⟩
theorem pe_lst (h : PA X es t) : PE X (.List es pos) (tLst t) := by
  intro pins s σ H Q I hq
  refine wpAny_List_spliced (thn (h pos pins s σ H _ I hq) fun us s1 ⟨xs, H1, I1, r, z, q⟩ => ⟨by rw [<- r.length]; exact z, ?_⟩)
  have hf : H1 s1.heap.objs.size = none := I1.hok.fresh (Nat.le_refl _)
  refine ⟨.ref s1.heap.objs.size, upd H1 s1.heap.objs.size (.lst xs), I1.laid (t' := s1.toks) (fun b u e => Heap.get?_push_of_some _ e) (Nat.le_refl _) ?_, rfl, q _ hf⟩
  exact ⟨z, us, 0, r, Heap.get?_push_size _ rfl⟩
end
abbrev Sp := List V -> Hp -> VK -> XK -> Prop
abbrev CXT := List Env -> Hp -> Shared -> XK -> Value -> Shared -> Prop
structure Env0 (P : Program) (w : World) (K : PySem.W.Frag) (mg : Str -> Option Value) (base : Heap) (A : Around) (outer : List Env) (s : Shared) (H : Hp) : Prop where
  frames : A.frames = some outer
  mod : Mod K mg base
  bs : ∀ b o, base.get? b = some o -> s.heap.get? b = some o /\ H b = none
  bsz : base.objs.size <= s.heap.objs.size
  funs : s.heap.FunFrames base outer
  frf : ∀ b ∈ frs outer, H b = none
  hok : HOk P w H s.heap
  bare : AllBare s.gens
def CE (outer : List Env) (P : Program) (w : World) (H : Hp) (s : Shared) (Q : VK) (u : Value) (s' : Shared) : Prop :=
  ∃ v H', s'.os = s.os /\ AllBare s'.gens /\ Un (frs outer) [] H H' s.heap s'.heap /\ HOk P w H' s'.heap /\ RelV v u /\ Q v H'
def CR (CX : CXT) (outer : List Env) (P : Program) (w : World) (H : Hp) (s : Shared) (Q : VK) (E : XK) (r : Result) (s' : Shared) : Prop :=
  match r with
  | .ok (.ret u) => CE outer P w H s Q u s'
  | .ok _ => False
  | .error e => CX outer H s E e s'
structure FnOk (P : Program) (w : World) (K : PySem.W.Frag) (mg : Str -> Option Value) (base : Heap) (CX : CXT) (k : Nat) (f : Addr) (fd : FuncData) (ps : List Str) (sp : Sp) : Prop where
  len : ∀ vs H Q E, sp vs H Q E -> vs.length = ps.length
  run : ∀ (A : Around) (outer : List Env) (s : Shared) (H : Hp) (args : Args) (us : List Value) (vs : List V) (Q : VK) (E : XK), Room k A -> Env0 P w K mg base A outer s H -> BindsTo s fd args (ps.zip us) -> Vals vs us -> sp vs H Q E ->
    codeAny (model P w) A (.call (.ref f) args) (CR CX outer P w H s Q E) s
theorem FnOk.imp {P : Program} {w : World} {K : PySem.W.Frag} {mg : Str -> Option Value} {base : Heap} {CX : CXT} {k : Nat} {f : Addr} {fd : FuncData} {ps : List Str} {sp sp' : Sp} (F : FnOk P w K mg base CX k f fd ps sp)
    (h : ∀ vs H Q E, sp' vs H Q E -> sp vs H Q E) : FnOk P w K mg base CX k f fd ps sp' :=
  ⟨fun vs H Q E q => F.len vs H Q E (h _ _ _ _ q), fun A outer s H args us vs Q E hr he hb hv hs => F.run A outer s H args us vs Q E hr he hb hv (h _ _ _ _ hs)⟩
theorem Env0.make {P : Program} {w : World} {K : PySem.W.Frag} {mg : Str -> Option Value} {base : Heap} {A : Around} {outer : List Env} {s : Shared} {H : Hp} (e : Env0 P w K mg base A outer s H) (C : Addr) (us : List Value) (kw : List (Str × Value)) :
    Env0 P w K mg base (A.under (.builtin "type.__call__" ⟨.ref C :: us, kw⟩)) outer s H := ⟨by first | exact e.frames | (simpa [Around.under, Code.envs, Code.isFrame, pushEnvs] using e.frames), e.mod, e.bs, e.bsz, e.funs, e.frf, e.hok, e.bare⟩
section
variable {X : Cx} {pins : List (Addr × Obj)} {σ : St} {H : Hp} {s s' : Shared}
theorem Inv.env0 (I : Inv X pins σ H s) : Env0 X.prog X.w X.K X.mg X.base X.A X.stack s H :=
  ⟨I.ok.frames, I.ok.mod, I.bs, Nat.le_trans I.ok.bsz I.sz, I.stack, I.stkFree, I.hok, I.bare⟩
theorem Inv.after {Q : VK} {u : Value} (I : Inv X pins σ H s) (h : CE X.stack X.prog X.w H s Q u s') : EP X pins σ Q u s' := by
  obtain ⟨v, H', os, bare, un, hok, r, q⟩ := h
  obtain ⟨hh, g, d, t, os'⟩ := s'
  obtain rfl : os' = s.os := os
  exact ⟨v, H', I.call (h' := hh) (g' := g) (d' := d) (t' := t) (ch := []) un hok bare (fun b z => absurd z (by simp)), r, q⟩
end
def tCall (sp : Sp) (dvs : List V) (E : XK) (t : TA) : TE := fun σ H Q => t σ H fun vs H1 => sp (vs ++ dvs) H1 Q E
def tMeth (C : Addr) (m : Str) (sp : Sp) (dvs : List V) (E : XK) (ta : TE) (t : TA) : TE := fun σ H Q => ta σ H fun x H1 => ∃ a dx fs, x = .ref a /\ H1 a = some (.ins C dx fs) /\ fs.lookup m = none /\
  t σ H1 fun vs H2 => sp (x :: (vs ++ dvs)) H2 Q E
def tMake (C : Addr) (sp : Sp) (dvs : List V) (E : XK) (t : TA) : TE := fun σ H Q => t σ H fun vs H1 => ∀ x dx, H1 x = none -> H1 dx = none -> dx ≠ x ->
  sp (.ref x :: (vs ++ dvs)) (upd (upd H1 dx (.own x)) x (.ins C dx [])) (fun v H2 => v = .non /\ Q (.ref x) H2) E
def Binds (K : PySem.W.Frag) (fd : FuncData) (ps : List Str) (ds : List Value) : Prop :=
  ∀ (s : Shared) (us : List Value), K.In s.heap -> (us ++ ds).length = ps.length -> BindsTo s fd ⟨us, []⟩ (ps.zip (us ++ ds))
theorem Binds.all {K : PySem.W.Frag} {fd : FuncData} {ps : List Str} (h : ∀ us : List Value, us.length = ps.length -> bindArgs fd ⟨us, []⟩ = pure (ps.zip us)) : Binds K fd ps [] := fun s us _ hl => by
  rw [List.append_nil] at hl ⊢
  exact .of_eq (h us hl)
def Passes (CX : CXT) (X : Cx) (E : XK) : Prop := ∀ (pins : List (Addr × Obj)) (σ : St) (H : Hp) (s : Shared) (e : Value) (s' : Shared), Inv X pins σ H s -> CX X.stack H s E e s' -> X.xe e s'
section
variable {X : Cx} {CX : CXT} {k : Nat} {f C : Addr} {fd : FuncData} {ps : List Str} {sp : Sp} {dvs : List V} {ds : List Value} {E : XK} {x m : Str} {p pos apos : Pos} {e o : Expr} {es : List Expr} {ta : TE} {t : TA}
theorem run_fn {pins : List (Addr × Obj)} {σ : St} {H : Hp} {s : Shared} {Q : VK} {us : List Value} {vs : List V} (F : FnOk X.prog X.w X.K X.mg X.base CX k f fd ps sp) (hr : Room k X.A) (hb : Binds X.K fd ps ds) (hd : Vals dvs ds) (hx : Passes CX X E)
    (I : Inv X pins σ H s) (r : Vals vs us) (h : sp (vs ++ dvs) H Q E) : wpAny (model X.prog X.w) X.A (call (.ref f) us) (EP X pins σ Q) X.xe s := by
  have r2 : Vals (vs ++ dvs) (us ++ ds) := r.append hd
  have hl : (us ++ ds).length = ps.length := by rw [<- r2.length]; exact F.len _ _ _ _ h
  refine wpAny_call (codeAny_mono (F.run X.A X.stack s H ⟨us, []⟩ (us ++ ds) (vs ++ dvs) Q E hr I.env0 (hb s us I.kIn hl) r2 h) fun r s' hq => ?_)
  cases r with
  | error e => exact hx pins σ H s e s' I hq
  | ok fl =>
    cases fl with
    | ret u => exact I.after hq
    | next => exact False.elim hq
    | brk => exact False.elim hq
    | cont => exact False.elim hq
theorem pe_call (F : FnOk X.prog X.w X.K X.mg X.base CX k f fd ps sp) (hr : Room k X.A) (hg : Gl X x) (hm : X.mg x = some (.ref f)) (hk : PySem.W.keepIn X.K (.ref f) = true) (hb : Binds X.K fd ps ds) (hd : Vals dvs ds) (hx : Passes CX X E)
    (ha : PA X (e :: es) t) (hdb : (x == ("__debug__" : Str)) = false := by decide) (he : starEach (e :: es) X.env = (false, eval e X.env) :: starEach es X.env := by rfl) (hpl : (backTo pos (starEach es X.env)).any (·.1) = false := by rfl) :
    PE X (.Call (.Name x p) (e :: es) [] pos) (tCall sp dvs E t) := by
  intro pins s σ H Q I h
  refine wpAny_Call_Name_kw (ld_glob I hg hm ?_ hdb)
  refine PySem.W.callWith_K (h₀ := X.base) I.ok.mod.kin hk (thn (ha pos pins s σ H _ I h) fun us s1 ⟨vs, H1, I1, r, q⟩ => ⟨I1.kIn, ?_⟩) he hpl
  exact run_fn F hr hb hd hx I1 r q
theorem pe_meth {pl : Sem Bool} (he : PE X o ta) (c : Cls X.K C) (hm : Meth X.K C m f) (F : FnOk X.prog X.w X.K X.mg X.base CX k f fd ps sp) (hr : Room k X.A) (hb : Binds X.K fd ps ds) (hd : Vals dvs ds) (hx : Passes CX X E) (ha : PA X (e :: es) t)
    (hst : starEach (e :: es) X.env = (false, eval e X.env) :: starEach es X.env := by rfl) (hpl : (backTo pos (starEach es X.env)).any (·.1) = false := by rfl)
    (ht : eval (.Call (.Attribute o m apos) (e :: es) [] pos) X.env = (do
      let ov <- eval o X.env
      standAt apos.atName
      let (f, first) <- holding [ov] (getMethod ov m pl)
      callWith pos f first (backTo pos (starEach (e :: es) X.env)) (backToKw pos (keywordEach [] X.env))) := by rfl) :
    PE X (.Call (.Attribute o m apos) (e :: es) [] pos) (tMeth C m sp dvs E ta t) := by
  intro pins s σ H Q I h
  refine PySem.W.methodCall_KW (pl := pl) (thn (he pins s σ H _ I h) fun u s1 ⟨x, H1, I1, rx, a, dx, fs, ex, ea, l, q⟩ => ?_) ht
  subst ex
  obtain rfl : u = Value.ref a := rx
  refine getmeth_ok I1 ea c hm l ?_
  refine PySem.W.callWith_K (first := [.ref a]) (h₀ := X.base) I.ok.mod.kin hm.kp (thn (ha pos pins s1 σ H1 _ I1 q) fun us s2 ⟨vs, H2, I2, r, q2⟩ => ⟨I2.kIn, ?_⟩) hst hpl
  exact run_fn (us := .ref a :: us) (vs := .ref a :: vs) F hr hb hd hx I2 (.cons rfl r) q2
structure Mk (K : PySem.W.Frag) (C f : Addr) : Prop where
  makes : PySem.W.makesIn K C = true
  init : PySem.W.findIn K (.ref C) "__init__" = some (some (.ref f))
  fn : PySem.W.isFn K (.ref f) = true
  kp : PySem.W.keepIn K (.ref C) = true
theorem run_make {pins : List (Addr × Obj)} {σ : St} {H : Hp} {s : Shared} {Q : VK} {us : List Value} {vs : List V} (M : Mk X.K C f) (F : FnOk X.prog X.w X.K X.mg X.base CX k f fd ps sp) (hr : Room (k + 1) X.A) (hb : Binds X.K fd ps ds) (hd : Vals dvs ds)
    (hx : Passes CX X E) (I : Inv X pins σ H s) (r : Vals vs us)
    (h : ∀ x dx, H x = none -> H dx = none -> dx ≠ x -> sp (.ref x :: (vs ++ dvs)) (upd (upd H dx (.own x)) x (.ins C dx [])) (fun v H2 => v = .non /\ Q (.ref x) H2) E) :
    wpAny (model X.prog X.w) X.A (call (.ref C) us) (EP X pins σ Q) X.xe s := by
  have hq := h (s.heap.objs.size + 1) s.heap.objs.size (I.hok.fresh (Nat.le_succ _)) (I.hok.fresh (Nat.le_refl _)) (Nat.ne_of_lt (Nat.lt_succ_self _))
  have I2 := Inv.made (C := C) I
  have r2 : Vals (V.ref (s.heap.objs.size + 1) :: (vs ++ dvs)) (Value.ref (s.heap.objs.size + 1) :: (us ++ ds)) := .cons rfl (r.append hd)
  have hl : (Value.ref (s.heap.objs.size + 1) :: us ++ ds).length = ps.length := by
    have e := r2.length
    rw [F.len _ _ _ _ hq] at e
    exact e.symm
  refine wpAny_call (make_map (f := f) I.kIn M.makes M.init (beq_iff_eq.mp M.fn) (codeAny_mono (F.run _ X.stack _ _ ⟨Value.ref (s.heap.objs.size + 1) :: us, []⟩ (Value.ref (s.heap.objs.size + 1) :: (us ++ ds)) _ _ E (hr.make C us [])
    (I2.env0.make C us []) (hb _ (Value.ref (s.heap.objs.size + 1) :: us) I2.kIn hl) r2 hq) fun r s' hq' => ?_))
  cases r with
  | error e => exact hx pins σ _ _ e s' I2 hq'
  | ok fl =>
    cases fl with
    | ret u =>
      obtain ⟨v, H', I3, rv, ev, q3⟩ := I2.after hq'
      subst ev
      exact ⟨rv, ⟨V.ref (s.heap.objs.size + 1), H', I3, rfl, q3⟩⟩
    | next => exact False.elim hq'
    | brk => exact False.elim hq'
    | cont => exact False.elim hq'
theorem pe_make (M : Mk X.K C f) (F : FnOk X.prog X.w X.K X.mg X.base CX k f fd ps sp) (hr : Room (k + 1) X.A) (hg : Gl X x) (hm : X.mg x = some (.ref C)) (hb : Binds X.K fd ps ds) (hd : Vals dvs ds) (hx : Passes CX X E)
    (ha : PA X (e :: es) t) (hdb : (x == ("__debug__" : Str)) = false := by decide) (he : starEach (e :: es) X.env = (false, eval e X.env) :: starEach es X.env := by rfl) (hpl : (backTo pos (starEach es X.env)).any (·.1) = false := by rfl) :
    PE X (.Call (.Name x p) (e :: es) [] pos) (tMake C sp dvs E t) := by
  intro pins s σ H Q I h
  refine wpAny_Call_Name_kw (ld_glob I hg hm ?_ hdb)
  refine PySem.W.callWith_K (h₀ := X.base) I.ok.mod.kin M.kp (thn (ha pos pins s σ H _ I h) fun us s1 ⟨vs, H1, I1, r, q⟩ => ⟨I1.kIn, ?_⟩) he hpl
  exact run_make M F hr hb hd hx I1 r q
end
section
variable {X : Cx} {CX : CXT} {k : Nat} {f C : Addr} {fd : FuncData} {ps ks : List Str} {sp : Sp} {E : XK} {x m : Str} {p pos apos kpos : Pos} {e o : Expr} {es : List Expr} {kws : List Keyword} {te ta : TE} {t tk : TA} {nm : Option Str}
structure KBinds (K : PySem.W.Frag) (fd : FuncData) (ps ks : List Str) (g : List Value -> List Value -> List Value) (gV : List V -> List V -> List V) : Prop where
  to : ∀ (s : Shared) (us ws : List Value), K.In s.heap -> (g us ws).length = ps.length -> BindsTo s fd ⟨us, ks.zip ws⟩ (ps.zip (g us ws))
  rel : ∀ {vs : List V} {us : List Value} {zs : List V} {ws : List Value}, Vals vs us -> Vals zs ws -> Vals (gV vs zs) (g us ws)
variable {g : List Value -> List Value -> List Value} {gV : List V -> List V -> List V}
end
structure FnScope (N P : List Str) (sc : Scope) : Prop where
  kind : sc.kind = .function
  co : sc.isCoroutine = false
  gen : sc.isGenerator = false
  nd : N.Nodup
  pre : N.take P.length = P
  par : ∀ x ∈ P, sc.names.lookup x = some .local \/ sc.names.lookup x = some .cell
  nofree : ∀ y ∈ sc.names, y.2 ≠ .free
theorem bindL_out {kindOf : Str -> Option NameKind} {x : Str} : ∀ {binds : List (Str × Value)} {m : Str -> Option Value}, (∀ v, (x, v) ∉ binds) -> bindL kindOf binds m x = m x
  | [], _, _ => rfl
  | (n, v) :: r, m, h => by
    unfold bindL
    rw [bindL_out fun w hw => h w (List.mem_cons_of_mem _ hw)]
    split
    . have : x ≠ n := by rintro rfl; exact h v List.mem_cons_self
      simp [this]
    . rfl
theorem bindC_out {kindOf : Str -> Option NameKind} {x : Str} : ∀ {binds : List (Str × Value)} {m : Str -> Option Value}, (∀ v, (x, v) ∉ binds) -> bindC kindOf binds m x = m x
  | [], _, _ => rfl
  | (n, v) :: r, m, h => by
    unfold bindC
    rw [bindC_out fun w hw => h w (List.mem_cons_of_mem _ hw)]
    split
    . rfl
    . have : x ≠ n := by rintro rfl; exact h v List.mem_cons_self
      simp [this]
theorem bindL_get {kindOf : Str -> Option NameKind} {x : Str} {v : Value} : ∀ {P : List Str} {vs : List Value} {i : Nat} {m : Str -> Option Value}, P.Nodup -> P[i]? = some x -> vs[i]? = some v -> kindOf x = some .local ->
    bindL kindOf (P.zip vs) m x = some v
  | [], _, _, _, _, h, _, _ => by simp at h
  | _ :: _, [], _, _, _, _, h, _ => by simp at h
  | p :: P, w :: vs, 0, m, nd, h1, h2, hk => by
    simp at h1 h2; subst h1; subst h2
    show bindL kindOf ((p, w) :: P.zip vs) m p = _
    unfold bindL
    rw [bindL_out fun v hv => (List.nodup_cons.mp nd).1 (List.of_mem_zip hv).1, if_pos hk]
    simp
  | p :: P, w :: vs, i + 1, m, nd, h1, h2, hk => by
    show bindL kindOf ((p, w) :: P.zip vs) m x = _
    unfold bindL
    exact bindL_get (i := i) (List.nodup_cons.mp nd).2 (by simpa using h1) (by simpa using h2) hk
theorem bindC_get {kindOf : Str -> Option NameKind} {x : Str} {v : Value} : ∀ {P : List Str} {vs : List Value} {i : Nat} {m : Str -> Option Value}, P.Nodup -> P[i]? = some x -> vs[i]? = some v -> kindOf x ≠ some .local ->
    bindC kindOf (P.zip vs) m x = some v
  | [], _, _, _, _, h, _, _ => by simp at h
  | _ :: _, [], _, _, _, _, h, _ => by simp at h
  | p :: P, w :: vs, 0, m, nd, h1, h2, hk => by
    simp at h1 h2; subst h1; subst h2
    show bindC kindOf ((p, w) :: P.zip vs) m p = _
    unfold bindC
    rw [bindC_out fun v hv => (List.nodup_cons.mp nd).1 (List.of_mem_zip hv).1, if_neg hk]
    simp
  | p :: P, w :: vs, i + 1, m, nd, h1, h2, hk => by
    show bindC kindOf ((p, w) :: P.zip vs) m x = _
    unfold bindC
    exact bindC_get (i := i) (List.nodup_cons.mp nd).2 (by simpa using h1) (by simpa using h2) hk
def start (N : List Str) (vs : List V) : St := vs.map some ++ List.replicate (N.length - vs.length) none
def cxOf (CX : CXT) (P : Program) (w : World) (K : PySem.W.Frag) (mg : Str -> Option Value) (base : Heap) (N : List Str) (qual : Str) (scope : Scope) (f : Addr) (cd : Value) (A : Around) (outer : List Env) (s : Shared) (H : Hp) (E : XK) : Cx where
  prog := P
  w := w
  K := K
  mg := mg
  base := base
  A := A.deeper (envOfC qual scope s.heap.objs.size f cd)
  N := N
  s₀ := s
  H₀ := H
  env := envOfC qual scope s.heap.objs.size f cd
  outer := outer
  stack := envOfC qual scope s.heap.objs.size f cd :: outer
  ex := []
  calm := true
  fn := fun _ => true
  pn := []
  xe := fun e s' => wpAny (model P w) (A.deeper (envOfC qual scope s.heap.objs.size f cd)) (leaving (envOfC qual scope s.heap.objs.size f cd) e) (fun _ s'' => CX outer H s E e s'') (fun e' s'' => CX outer H s E e' s'') s'
theorem cell_has {sc : Scope} {n : Nat} {x : Str} (h : sc.names.lookup x = some .cell) : ∃ c, (cellsFrom n sc.names []).lookup x = some c := by
  have q := PySem.W.cellsFrom_some sc.names n [] (.inl h)
  exact Option.isSome_iff_exists.mp q
theorem inv_start {CX : CXT} {P : Program} {w : World} {K : PySem.W.Frag} {mg : Str -> Option Value} {base : Heap} {N ps : List Str} {qual : Str} {scope : Scope} {f : Addr} {cd : Value} {A : Around} {outer : List Env} {s s1 : Shared} {H : Hp} {E : XK} {us : List Value} {vs : List V}
    (S : FnScope N ps scope) (hd : A.handled = none) (e0 : Env0 P w K mg base A outer s H) (hl : vs.length = ps.length) (r : Vals vs us)
    (x : InCallC s s.heap.objs.size (bindL (envOfC qual scope s.heap.objs.size f cd).kindOf (ps.zip us) fun _ => none) (cellsFrom (s.heap.objs.size + 1) scope.names []) (bindC (envOfC qual scope s.heap.objs.size f cd).kindOf (ps.zip us) fun _ => none) s1) :
    Inv (cxOf CX P w K mg base N qual scope f cd A outer s H E) [] (start N vs) H s1 := by
  have hpl : ps.length <= N.length := by have := congrArg List.length S.pre; rw [List.length_take] at this; omega
  obtain ⟨h1, tk, rfl, hk⟩ := x.done
  have noA : ∀ b : Addr, b ∉ (cxOf CX P w K mg base N qual scope f cd A outer s H E).ex := fun b z => absurd (show b ∈ ([] : List Addr) from z) (by simp)
  refine ⟨⟨e0.mod, S.kind, rfl, rfl, Nat.le_refl _, fun y z c h1 h2 => ?_, fun y hy => ?_, fun y c _ h => ?_, fun _ => hd, Around.frames_deeper e0.frames, .inr ⟨rfl, rfl⟩, fun b z => absurd z (noA b), e0.bs, e0.bsz, fun b _ _ => noA b, fun b z => absurd z (noA b), e0.funs, e0.frf⟩,
    rfl, e0.bare, Un.kept hk, ⟨_, x.toInCall.ns, fun i y v h1 h2 h3 => ?_⟩, fun y c h => ⟨_, x.cell y c h⟩, e0.hok.fresh (Nat.le_refl _), fun y c h => ?_, fun p hp => absurd (show p ∈ ([] : List (Addr × Obj)) from hp) (by simp), e0.hok.kept hk, ?_⟩
  . exact name_of_addr x.apart (PySem.mem_of_lookup h1) (PySem.mem_of_lookup h2)
  . have hy : scope.names.lookup y = some .cell \/ scope.names.lookup y = some .free := hy
    rcases hy with hy | hy
    . exact cell_has hy
    . exact absurd rfl (S.nofree _ (PySem.mem_of_lookup hy))
  . exact Nat.le_of_lt (x.above y c (PySem.mem_of_lookup h))
  . have hi : i < vs.length := by
      unfold start at h2
      by_cases hi : i < vs.length
      . exact hi
      . rw [List.getElem?_append_right (by simpa using hi)] at h2
        rw [List.getElem?_replicate] at h2
        split at h2 <;> cases h2
    have ha : vs[i]? = some v := by
      unfold start at h2
      rw [List.getElem?_append_left (by simpa using hi), List.getElem?_map] at h2
      cases e : vs[i]? with
      | none => rw [e] at h2; cases h2
      | some a => rw [e] at h2; cases h2; rfl
    obtain ⟨u, hu, rv⟩ := r.get ha
    have hp : ps[i]? = some y := by
      rw [<- S.pre, List.getElem?_take_of_lt (by omega)]; exact h1
    have ndP : ps.Nodup := by rw [<- S.pre]; exact S.nd.sublist (List.take_sublist _ _)
    refine ⟨u, rv, ?_⟩
    rcases S.par y (List.mem_of_getElem? hp) with k | k
    . exact .inl ⟨k, bindL_get ndP hp hu k⟩
    . obtain ⟨c, e⟩ := cell_has (n := s.heap.objs.size + 1) k
      refine .inr ⟨.inl k, c, e, ?_⟩
      have q := x.cell y c e
      rw [bindC_get ndP hp hu (by show scope.names.lookup y ≠ _; rw [k]; decide)] at q
      exact q
  . exact e0.hok.fresh (Nat.le_of_lt (x.above y c (PySem.mem_of_lookup h)))
  . unfold start
    show _ = N.length
    rw [List.length_append, List.length_map, List.length_replicate]
    omega
theorem fn_of {CX : CXT} {P : Program} {w : World} {K : PySem.W.Frag} {mg : Str -> Option Value} {base : Heap} {k : Nat} {f : Addr} {name qual : Str} {params : Arguments} {body : List Stmt} {scope : Scope} {dV kV doc pm cdv ct oc : Value} {an od : Option Addr}
    {osl : Array (Option Value)} {N ps : List Str} {sp : Sp} (lk : K.lookup f = some ⟨oc, od, .func (PySem.W.fnOf name qual params body scope dV kV doc pm an cdv ct), osl⟩) (hcd : PySem.W.codeIn K cdv qual = true) (S : FnScope N ps scope)
    (len : ∀ vs H Q E, sp vs H Q E -> vs.length = ps.length)
    (hbody : ∀ (A : Around) (outer : List Env) (s : Shared) (H : Hp) (vs : List V) (Q : VK) (E : XK), Room k (A.deeper (envOfC qual scope s.heap.objs.size f cdv)) -> sp vs H Q E ->
      ∃ t, PSs (cxOf CX P w K mg base N qual scope f cdv A outer s H E) body t /\ t { nx := fun _ H' => Q .non H', rt := Q } (start N vs) H) :
    FnOk P w K mg base CX (k + 1) f (PySem.W.fnOf name qual params body scope dV kV doc pm an cdv ct) ps sp := by
  refine ⟨len, fun A outer s H args us vs Q E hr e0 hb r hsp => ?_⟩
  have hl := len _ _ _ _ hsp
  have KX : K.In s.heap := e0.mod.kin.keeps fun b o e => (e0.bs b o e).1
  have lim : s.heap.NoLimit := e0.mod.nolimit.keeps fun b o e => (e0.bs b o e).1
  have hkind : ∀ y ∈ ps.zip us, scope.names.lookup y.1 = some .local \/ (scope.names.lookup y.1 = some .cell /\ ((cellsFrom (s.heap.objs.size + 1) scope.names []).lookup y.1).isSome = true) := fun ⟨n, v⟩ hy => by
    rcases S.par n (List.of_mem_zip hy).1 with q | q
    . exact .inl q
    . exact .inr ⟨q, PySem.W.cellsFrom_some _ _ _ (.inl q)⟩
  refine codeAny_call_function hr.depth (KX _ _ lk) rfl S.co S.gen rfl (PySem.W.codeRec_of KX hcd) (hb _ _ _ _ ?_)
  refine wpAny_newFunctionEnv_cells S.kind hkind fun env he s1 x => ?_
  subst he
  refine ⟨lim.keeps x.toInCall.keep, codeAny_func ?_⟩
  obtain ⟨t, ht, hq⟩ := hbody A outer s H vs Q E (hr.deeper _) hsp
  have I : Inv (cxOf CX P w K mg base N qual scope f cdv A outer s H E) [] (start N vs) H s1 := inv_start S hr.hd e0 hl r x
  refine wpAny_mono (ht [] s1 (start N vs) H _ I hq) (fun fl s' hs => ?_) fun e s' hs => hs
  have fin : ∀ {σ' : St} {H' : Hp} {v : V} {u : Value}, Inv (cxOf CX P w K mg base N qual scope f cdv A outer s H E) [] σ' H' s' -> RelV v u -> Q v H' -> CE outer P w H s Q u s' :=
    fun {σ' H' v u} J rv q => ⟨v, H', J.os, J.bare, J.base, J.hok, rv, q⟩
  cases fl with
  | ret u =>
    obtain ⟨v, σ', H', J, rv, q⟩ := hs
    exact fin J rv q
  | next =>
    obtain ⟨σ', H', J, q⟩ := hs
    exact fin (v := V.non) (u := Value.none) J rfl q
  | brk =>
    obtain ⟨_, _, _, q⟩ := hs
    exact False.elim q
  | cont =>
    obtain ⟨_, _, _, q⟩ := hs
    exact False.elim q
section
variable {X : Cx} {x : Str} {p pos : Pos} {e : Expr} {es : List Expr} {t : TA} {id T : String} {r : List V -> Hp -> VK -> Prop}
def tCB (r : List V -> Hp -> VK -> Prop) (t : TA) : TE := fun σ H Q => t σ H fun vs H1 => r vs H1 Q
theorem pe_callB (hc : CallR X (.builtin id) r) (hg : Gl X x) (hm : X.mg x = none) (hv : bootBuiltins x = some (.builtin id)) (ha : PA X (e :: es) t) (hn : x ≠ "__name__" := by decide) (hdb : (x == ("__debug__" : Str)) = false := by decide)
    (he : starEach (e :: es) X.env = (false, eval e X.env) :: starEach es X.env := by rfl) (hpl : (backTo pos (starEach es X.env)).any (·.1) = false := by rfl) : PE X (.Call (.Name x p) (e :: es) [] pos) (tCB r t) := by
  intro pins s σ H Q I h
  refine wpAny_Call_Name_kw (ld_blt I hg hm hv ?_ hn hdb)
  exact PyProof.Rows.callWith_builtin1 (thn (ha pos pins s σ H _ I h) fun us s1 ⟨vs, H1, I1, r1, q1⟩ => hc pins s1 σ H1 vs us Q I1 r1 q1) he hpl
theorem pe_callTy (hc : CallR X (.type T) r) (hg : Gl X x) (hm : X.mg x = none) (hv : bootBuiltins x = some (.type T)) (ha : PA X (e :: es) t) (hn : x ≠ "__name__" := by decide) (hdb : (x == ("__debug__" : Str)) = false := by decide)
    (he : starEach (e :: es) X.env = (false, eval e X.env) :: starEach es X.env := by rfl) (hpl : (backTo pos (starEach es X.env)).any (·.1) = false := by rfl) : PE X (.Call (.Name x p) (e :: es) [] pos) (tCB r t) := by
  intro pins s σ H Q I h
  refine wpAny_Call_Name_kw (ld_blt I hg hm hv ?_ hn hdb)
  exact PyProof.Rows.callWith_type1 (thn (ha pos pins s σ H _ I h) fun us s1 ⟨vs, H1, I1, r1, q1⟩ => hc pins s1 σ H1 vs us Q I1 r1 q1) he hpl
end
end L2
namespace HT
open PySem PyProof.Rows
section
open PySem.SeqAt
open PySem.AutoSeq1 (wpAny_loadPart')
open PySem.MeetsSeq PySem.MeetsSeq2 PySem.MeetsSeq3
end
section
variable {prog : Program} {w : World} {A : Around} {E : Value -> Shared -> Prop} {s : Shared}
theorem cat_tup {t b : Addr} {vs ws : List Value} {Q : Value -> Shared -> Prop} (ht : IsTup s.heap t vs.toArray) (hb : IsTup s.heap b ws.toArray) (hv : vs ≠ [])
    (h1 : ws = [] -> Q (.ref t) s) (h2 : ws ≠ [] -> Q (.ref s.heap.objs.size) { s with heap := s.heap.push { cls := .type "tuple", data := .seq (vs ++ ws).toArray } })
    (hsz : vs.length + ws.length <= sizeLine) : wpAny (model prog w) A (binaryOp .Add (.ref t) (.ref b)) Q E s := by
  obtain ⟨⟨cls, dd, data, sl⟩, ho, hc, n, hd⟩ := id ht
  obtain ⟨⟨cls2, dd2, data2, sl2⟩, ho2, hc2, n2, hd2⟩ := id hb
  simp only at hc hd hc2 hd2
  subst hc hd hc2 hd2
  have e : vs.toArray ++ ws.toArray = (vs ++ ws).toArray := by simp
  by_cases hw : ws = []
  . exact concat_meets ⟨_, ho, rfl⟩ ⟨_, ho2, rfl⟩ noFill_tuple_add seq_tuple_add PySem.F.slot_tuple_add PySem.F.entry_tuple_add (PySem.F.args_tuple_add_2 _ _)
      (tuple_addW1 t b vs.toArray ws.toArray n n2 dd dd2 sl sl2 (by simpa using hv) (by simp [hw])) ⟨ho, ho2, h1 hw⟩
  . refine concat_meets ⟨_, ho, rfl⟩ ⟨_, ho2, rfl⟩ noFill_tuple_add seq_tuple_add PySem.F.slot_tuple_add PySem.F.entry_tuple_add (PySem.F.args_tuple_add_2 _ _)
      (tuple_addW2 t b vs.toArray ws.toArray n n2 dd dd2 sl sl2 (by simpa using hv) (by simpa using hw) (by rw [List.size_toArray, List.size_toArray]; exact hsz)) ⟨ho, ho2, ?_⟩
    rw [e]
    exact h2 hw
def sIx (n d : Nat) : Option Int -> Nat
  | none => d
  | some v => if v < 0 then (v + (n : Int)).toNat else min v.toNat n
theorem sIx_none (n d : Nat) : sIx n d none = d := rfl
theorem sIx_nat (n d k : Nat) : sIx n d (some (k : Int)) = min k n := by
  show (if (k : Int) < 0 then ((k : Int) + (n : Int)).toNat else min (k : Int).toNat n) = min k n
  rw [if_neg (by omega), Int.toNat_natCast]
theorem sIx_le (n d : Nat) (hd : d <= n) (o : Option Int) : sIx n d o <= n := by
  cases o with
  | none => exact hd
  | some v =>
    show (if v < 0 then (v + (n : Int)).toNat else min v.toNat n) <= n
    by_cases hv : v < 0
    . rw [if_pos hv]; omega
    . rw [if_neg hv]; exact Nat.min_le_right _ _
theorem clip_eq (v : Int) (n d : Nat) : (if v < 0 then max (v + (n : Int)) 0 else min v (n : Int)) = ((sIx n d (some v) : Nat) : Int) := by
  show (if v < 0 then max (v + (n : Int)) 0 else min v (n : Int)) = (((if v < 0 then (v + (n : Int)).toNat else min v.toNat n) : Nat) : Int)
  by_cases hv : v < 0
  . simp only [if_pos hv]; omega
  . simp only [if_neg hv]; omega
theorem adjust_gen (lo hi : Option Int) (n : Nat) : Builtin.Slice.sliceAdjust lo hi 1 (n : Int) = (((sIx n 0 lo : Nat) : Int), ((sIx n n hi : Nat) : Int)) := by
  have h1 : ¬ ((1 : Int) < 0) := by omega
  unfold Builtin.Slice.sliceAdjust
  simp only [h1, if_false]
  refine Prod.ext ?_ ?_
  . cases lo with
    | none => rfl
    | some v => exact clip_eq v n 0
  . cases hi with
    | none => rfl
    | some v => exact clip_eq v n n
theorem places_gen (i j : Nat) : Builtin.Slice.slicePlaces (i : Int) (j : Int) 1 = j - i := by
  unfold Builtin.Slice.slicePlaces
  have h1 : (1 : Int) > 0 := by omega
  simp only [h1, if_true, Int.ediv_one]
  split <;> omega
theorem slicePart_ {v : Value} {o : Option Int} {Q : Option Int -> Shared -> Prop} (p : IsPart v o) (h : Q o s) : wpAny (model prog w) A (Builtin.Slice.slicePartIndex v) Q E s := by
  cases p with
  | none => exact slicePart_none h
  | int i t => exact slicePart_int h
theorem sliceApplied_gen {sl : Addr} {vl vu : Value} {lo hi : Option Int} {n : Nat} {Q : Int × Int × Nat -> Shared -> Prop} (hs : s.heap.IsSliceOf sl vl vu .none) (pl : IsPart vl lo) (pu : IsPart vu hi)
    (h : Q (((sIx n 0 lo : Nat) : Int), 1, sIx n n hi - sIx n 0 lo) s) : wpAny (model prog w) A (Builtin.Slice.sliceApplied (.ref sl) (pure (n : Int))) Q E s := by
  obtain ⟨os, hos, hcs, hds⟩ := id hs
  unfold Builtin.Slice.sliceApplied Builtin.Slice.sliceFields
  refine wpAny_bind (wpAny_bind (wpAny_field hos hds (x := vl) rfl (wpAny_bind (wpAny_field hos hds (x := vu) rfl (wpAny_bind (wpAny_field hos hds (x := .none) rfl (wpAny_pure ?_)))))))
  refine wpAny_bind (slicePart_none ?_)
  show wpAny _ _ (if ((1 : Int) == 0) = true then _ else _) _ _ s
  rw [if_neg (by decide)]
  refine wpAny_bind (slicePart_ pl (wpAny_bind (slicePart_ pu (wpAny_bind (wpAny_pure ?_)))))
  show wpAny _ _ (match Builtin.Slice.sliceAdjust lo hi 1 (n : Int) with | (lo, hi) => pure (lo, (1 : Int), Builtin.Slice.slicePlaces lo hi 1)) _ _ s
  rw [adjust_gen lo hi n]
  show wpAny _ _ (pure (((sIx n 0 lo : Nat) : Int), (1 : Int), Builtin.Slice.slicePlaces ((sIx n 0 lo : Nat) : Int) ((sIx n n hi : Nat) : Int) 1)) _ _ s
  rw [places_gen]
  exact wpAny_pure h
theorem pick_gen (xs : Array Value) (i k : Nat) : ((List.range k).filterMap fun (m : Nat) => xs[((i : Int) + (m : Int) * 1).toNat]?).toArray = ((xs.toList.drop i).take k).toArray := by
  have e : (fun (m : Nat) => xs[((i : Int) + (m : Int) * 1).toNat]?) = fun m => xs[i + m]? := by
    funext m
    have : ((i : Int) + (m : Int) * 1).toNat = i + m := by omega
    rw [this]
  rw [e]
  have := pick_run xs i k
  rw [List.filterMap_map] at this
  have e2 : ((fun x => xs[x]?) ∘ fun x => i + x) = fun m => xs[i + m]? := rfl
  rw [e2] at this
  rw [this]
theorem getItem_tuple_cut {t sl : Addr} {items : Array Value} {vl vu : Value} {lo hi : Option Int} {Q : Value -> Shared -> Prop} (ht : IsTup s.heap t items) (hs : s.heap.IsSliceOf sl vl vu .none) (pl : IsPart vl lo) (pu : IsPart vu hi)
    (hw : ¬ (sIx items.size 0 lo = 0 /\ sIx items.size items.size hi = items.size))
    (h : Q (.ref s.heap.objs.size) { s with heap := s.heap.push { cls := .type "tuple", data := .seq ((items.toList.drop (sIx items.size 0 lo)).take (sIx items.size items.size hi - sIx items.size 0 lo)).toArray } })
    (hsz : items.size <= sizeLine) : wpAny (model prog w) A (getItem (.ref t) (.ref sl)) Q E s := by
  have htake : sizeOk (.seq ((items.toList.drop (sIx items.size 0 lo)).take (sIx items.size items.size hi - sIx items.size 0 lo)).toArray) := by
    show ((items.toList.drop (sIx items.size 0 lo)).take (sIx items.size items.size hi - sIx items.size 0 lo)).toArray.size <= sizeLine
    rw [List.size_toArray, List.length_take, List.length_drop, Array.length_toList]
    omega
  have hj : sIx items.size items.size hi <= items.size := sIx_le _ _ (Nat.le_refl _) hi
  obtain ⟨os, hos, hcs, hds⟩ := id hs
  have hTs : s.TypeIs (.ref sl) "slice" := ⟨os, hos, hcs⟩
  unfold getItem
  try with_reducible refine wpAny_holding ?_
  first | refine wpAny_bind (wpAny_pure ?_) | skip
  refine wpAny_bind (wpAny_sequenceKey ht.typeIs (by decide) ?_)
  refine wpAny_bind (wpAny_callSpecial?_slot (name := Str.ofString "__getitem__") ht.typeIs PyProof.Rows.slot_tuple_getitem
    (wpAny_call_entry PyProof.Rows.slot_tuple_getitem ht.typeIs entry_tuple_getitem ?_ (args_tuple_getitem _ _)))
  show wpAny _ _ (Builtin.Tuple.tupleItemsOf (.ref t) >>= _) _ _ s
  refine wpAny_bind (tupleItemsOf_ ht ?_)
  refine wpAny_bind (wpAny_typeOf hTs ?_)
  rw [if_pos (by decide)]
  refine wpAny_bind (sliceApplied_gen hs pl pu ?_)
  have hno : ¬ ((((sIx items.size 0 lo : Nat) : Int) == 0 && (1 : Int) == 1 && (sIx items.size items.size hi - sIx items.size 0 lo) == items.size) = true) := by
    intro q
    rw [Bool.and_eq_true, Bool.and_eq_true] at q
    have q1 : ((sIx items.size 0 lo : Nat) : Int) = 0 := eq_of_beq q.1.1
    have q2 : sIx items.size items.size hi - sIx items.size 0 lo = items.size := eq_of_beq q.2
    exact hw ⟨by omega, by omega⟩
  show wpAny _ _ (if (((sIx items.size 0 lo : Nat) : Int) == 0 && (1 : Int) == 1 && (sIx items.size items.size hi - sIx items.size 0 lo) == items.size) = true then _ else _) _ _ s
  rw [if_neg hno, pick_gen]
  first
    | exact wpAny_bind (m := Builtin.Tuple.tupleExact _) (wpAny_newObj_type (wpAny_pure ⟨_, rfl, wpAny_pure h⟩) htake)
    | exact wpAny_bind (m := Builtin.Tuple.tupleExact _) (wpAny_newObj_type (wpAny_bind (wpAny_pure (wpAny_pure ⟨_, rfl, wpAny_pure h⟩))) htake)
    | exact wpAny_bind (wpAny_bind (m := Builtin.Tuple.tupleExact _) (wpAny_newObj_type (wpAny_pure (wpAny_pure ⟨_, rfl, wpAny_pure h⟩)) htake))
    | exact wpAny_bind (wpAny_bind (m := Builtin.Tuple.tupleExact _) (wpAny_newObj_type (wpAny_pure ⟨_, rfl, wpAny_pure h⟩) htake))
end
end HT
namespace L2
open PySem PySem.Spec PyProof.Rows
abbrev TO := St -> Hp -> (Option Int -> Hp -> Prop) -> Prop
def PO (X : Cx) (e : Option Expr) (t : TO) : Prop :=
  ∀ (pins : List (Addr × Obj)) (s : Shared) (σ : St) (H : Hp) (Q : Option Int -> Hp -> Prop), Inv X pins σ H s -> t σ H Q ->
    wpAny (model X.prog X.w) X.A (evalPart e X.env) (fun u s' => ∃ o H', Inv X pins σ H' s' /\ IsPart u o /\ Q o H') X.xe s
def tNoPart : TO := fun _ H Q => Q none H
def tPart (t : TE) : TO := fun σ H Q => t σ H fun x H1 => ∃ i, x = .int i /\ Q (some i) H1
theorem intsAre_of {ns : List Int} : ∀ {us : List Value}, Vals (ns.map V.int) us -> IntsAre us ns := by
  induction ns with
  | nil => intro us r; rw [List.map_nil] at r; cases r; exact .nil
  | cons n ns ih =>
    intro us r
    rw [List.map_cons] at r
    cases r with
    | cons r1 r2 =>
      obtain ⟨t, e⟩ := r1
      subst e
      exact .cons n t (ih r2)
section
variable {X : Cx} {e : Expr} {te : TE} {lo hi : Option Expr} {tl th : TO} {pos p2 : Pos}
theorem po_none : PO X none tNoPart := by
  intro pins s σ H Q I h
  rw [evalPart_none]
  exact wpAny_pure ⟨none, H, I, .none, h⟩
theorem po_some (h : PE X e te) : PO X (some e) (tPart te) := by
  intro pins s σ H Q I hw
  rw [evalPart_some]
  refine thn (h pins s σ H _ I hw) fun u s1 ⟨x, H1, I1, r1, q1⟩ => ?_
  obtain ⟨i, rfl, q⟩ := q1
  obtain ⟨t, rfl⟩ := r1
  exact ⟨some i, H1, I1, .int i t, q⟩
def SlR (X : Cx) (r : V -> Option Int -> Option Int -> Hp -> VK -> Prop) : Prop :=
  ∀ (pins : List (Addr × Obj)) (s : Shared) (σ : St) (H : Hp) (x : V) (v vl vu : Value) (lo hi : Option Int) (sl : Addr) (Q : VK), Inv X pins σ H s -> RelV x v -> s.heap.IsSliceOf sl vl vu .none -> IsPart vl lo -> IsPart vu hi -> r x lo hi H Q ->
    ∃ T id, typeLookup (.type T) "__getitem__" = pure (some (.builtin id)) /\ s.TypeIs v T /\ wpAny (model X.prog X.w) X.A (getItem v (.ref sl)) (EP X pins σ Q) X.xe s
def tSl (r : V -> Option Int -> Option Int -> Hp -> VK -> Prop) (te : TE) (tl th : TO) : TE := fun σ H Q => te σ H fun x H1 => tl σ H1 fun l H2 => th σ H2 fun u H3 => r x l u H3 Q
theorem pe_slice {r : V -> Option Int -> Option Int -> Hp -> VK -> Prop} (hr : SlR X r) (he : PE X e te) (hl : PO X lo tl) (hu : PO X hi th) : PE X (.Subscript e (.Slice lo hi none p2) pos) (tSl r te tl th) := by
  intro pins s σ H Q I h
  refine Subscript_ (thn (he pins s σ H _ I h) fun v s1 ⟨x, H1, I1, r1, q1⟩ => ?_)
  refine wpAny_Slice (thn (hl pins s1 σ H1 _ I1 q1) fun vl s2 ⟨l, H2, I2, pl, q2⟩ => thn (hu pins s2 σ H2 _ I2 q2) fun vu s3 ⟨u, H3, I3, pu, q3⟩ => ?_)
  rw [evalPart_none]
  refine wpAny_pure ?_
  have I4 : Inv X pins σ H3 { s3 with heap := s3.heap.push { cls := .type "slice", data := .fields #[vl, vu, .none] } } := I3.kept (t' := s3.toks) fun b ob q => Heap.get?_push_of_some _ q
  obtain ⟨T, id, hT, ht, hg⟩ := hr pins { s3 with heap := s3.heap.push { cls := .type "slice", data := .fields #[vl, vu, .none] } } σ H3 x v vl vu l u s3.heap.objs.size Q I4 r1 (Heap.IsSliceOf.new ..) pl pu q3
  show wpAny (model X.prog X.w) X.A (subscriptTail e (.Slice lo hi none p2) v (.ref s3.heap.objs.size)) (EP X pins σ Q) X.xe { s3 with heap := s3.heap.push { cls := .type "slice", data := .fields #[vl, vu, .none] } }
  exact tail_any (ops := [.ref s3.heap.objs.size, v]) ht hT hg (by with_unfolding_all rfl)
def cutV (xs : List V) (lo hi : Option Int) : List V := (xs.drop (HT.sIx xs.length 0 lo)).take (HT.sIx xs.length xs.length hi - HT.sIx xs.length 0 lo)
theorem cutV_length (xs : List V) (lo hi : Option Int) : (cutV xs lo hi).length <= xs.length := by
  unfold cutV
  rw [List.length_take, List.length_drop]
  omega
def rSlT (K : PySem.W.Frag) : V -> Option Int -> Option Int -> Hp -> VK -> Prop := fun x lo hi H Q => ∃ a xs, x = .ref a /\ SqT K H a xs /\
  ¬ (HT.sIx xs.length 0 lo = 0 /\ HT.sIx xs.length xs.length hi = xs.length) /\ ∀ p, H p = none -> Q (.ref p) (upd H p (.tup (cutV xs lo hi)))
theorem sl_tup : SlR X (rSlT X.K) := by
  intro pins s σ H x v vl vu lo hi sl Q I rx hs pl pu h
  obtain ⟨a, xs, rfl, hx, hw, q⟩ := h
  cases rx
  obtain ⟨its, r, ht, hz⟩ := I.tuple hx
  have hlen : its.toArray.size = xs.length := by rw [List.size_toArray]; exact r.length.symm
  refine ⟨"tuple", _, PyProof.Rows.slot_tuple_getitem.lookup, ht.typeIs, ?_⟩
  refine HT.getItem_tuple_cut ht hs pl pu (by rw [hlen]; exact hw) ?_ (by rw [hlen]; exact hz)
  rw [hlen]
  refine ⟨.ref s.heap.objs.size, _, I.laid (t' := s.toks) (o := .tup (cutV xs lo hi)) (fun b ob q => Heap.get?_push_of_some _ q) (Nat.le_refl _) ?_, rfl, q _ (I.hok.fresh (Nat.le_refl _))⟩
  exact ⟨Nat.le_trans (cutV_length xs lo hi) hz, _, (r.drop (HT.sIx xs.length 0 lo)).take (HT.sIx xs.length xs.length hi - HT.sIx xs.length 0 lo), IsTupN.new _ _⟩
def rCatT (K : PySem.W.Frag) : R2 := fun x y H Q => ∃ a b xs ys, x = .ref a /\ y = .ref b /\ SqT K H a xs /\ SqT K H b ys /\ xs ≠ [] /\ xs.length + ys.length <= sizeLine /\
  (ys = [] -> Q (.ref a) H) /\ (ys ≠ [] -> ∀ p, H p = none -> Q (.ref p) (upd H p (.tup (xs ++ ys))))
theorem Vals.nil_iff {xs : List V} {us : List Value} (r : Vals xs us) : us = [] ↔ xs = [] := by
  cases r with
  | nil => simp
  | cons _ _ => simp
theorem op_catT : OpR X (binaryOp .Add) (rCatT X.K) := by
  intro pins s σ H x y v u Q I rx ry h
  obtain ⟨a, b, xs, ys, rfl, rfl, ha, hb, hx, hz, q1, q2⟩ := h
  cases rx
  cases ry
  obtain ⟨its, r1, p1, _⟩ := I.tuple ha
  obtain ⟨its2, r2, p2, _⟩ := I.tuple hb
  refine HT.cat_tup p1 p2 (fun z => hx (r1.nil_iff.mp z)) (fun z => ⟨.ref a, H, I, rfl, q1 (r2.nil_iff.mp z)⟩) (fun z => ?_) (by rw [<- r1.length, <- r2.length]; exact hz)
  refine ⟨.ref s.heap.objs.size, _, I.laid (t' := s.toks) (o := .tup (xs ++ ys)) (fun b ob q => Heap.get?_push_of_some _ q) (Nat.le_refl _) ?_, rfl, q2 (fun w => z (r2.nil_iff.mpr w)) _ (I.hok.fresh (Nat.le_refl _))⟩
  exact ⟨by rw [List.length_append]; exact hz, _, r1.append r2, IsTupN.new _ _⟩
end
def ixN (n : Nat) (i : Int) : Option Nat := if 0 <= i then (if i < n then some i.toNat else none) else if -(n : Int) <= i then some (i + n).toNat else none
def atI {α : Type} (xs : List α) (i : Int) : Option α := (ixN xs.length i).bind fun j => xs[j]?
theorem ixN_seq {n : Nat} {i : Int} {j : Nat} (h : ixN n i = some j) : seqIndex? i n = some j /\ j < n /\ -(n : Int) <= i /\ i < n := by
  unfold ixN at h
  by_cases h0 : 0 <= i
  . rw [if_pos h0] at h
    by_cases h1 : i < n
    . rw [if_pos h1] at h
      have e : i.toNat = j := Option.some.inj h
      exact ⟨by rw [seqIndex_of h0 h1, e], by omega, by omega, h1⟩
    . rw [if_neg h1] at h; cases h
  . rw [if_neg h0] at h
    by_cases h1 : -(n : Int) <= i
    . rw [if_pos h1] at h
      have e : (i + n).toNat = j := Option.some.inj h
      exact ⟨by rw [seqIndex_neg (by omega) h1, e], by omega, h1, by omega⟩
    . rw [if_neg h1] at h; cases h
theorem atI_get {α : Type} {xs : List α} {i : Int} {v : α} (h : atI xs i = some v) : ∃ j, seqIndex? i xs.length = some j /\ xs[j]? = some v /\ j < xs.length /\ -(xs.length : Int) <= i /\ i < xs.length := by
  unfold atI at h
  cases e : ixN xs.length i with
  | none => rw [e] at h; cases h
  | some j =>
    rw [e] at h
    obtain ⟨h1, h2, h3, h4⟩ := ixN_seq e
    exact ⟨j, h1, h, h2, h3, h4⟩
def PlainIx (b : Expr) : Prop := ∀ o i, subscripted b false o i = operate [o, i] (getItem o i)
def IxR (X : Cx) (r : R2) : Prop :=
  ∀ (value slice : Expr) (pins : List (Addr × Obj)) (s : Shared) (σ : St) (H : Hp) (x y : V) (v u : Value) (Q : VK), Inv X pins σ H s -> RelV x v -> RelV y u -> r x y H Q ->
    subscripted slice false v u = operate [v, u] (getItem v u) -> wpAny (model X.prog X.w) X.A (subscriptTail value slice v u) (EP X pins σ Q) X.xe s
def MtR (X : Cx) (id : String) (r : V -> List V -> Hp -> VK -> Prop) : Prop :=
  ∀ (pins : List (Addr × Obj)) (s : Shared) (σ : St) (H : Hp) (x : V) (xs : List V) (v : Value) (us : List Value) (Q : VK), Inv X pins σ H s -> RelV x v -> Vals xs us -> r x xs H Q ->
    wpAny (model X.prog X.w) X.A (call (.builtin id) (v :: us)) (EP X pins σ Q) X.xe s
section
variable {X : Cx} {a b : Expr} {ta tb : TE} {pos : Pos}
theorem IxR.or {r r' : R2} (h : IxR X r) (h' : IxR X r') : IxR X (fun x y H Q => r x y H Q \/ r' x y H Q) := by
  intro value slice pins s σ H x y v u Q I rx ry q hs
  rcases q with q | q
  . exact h value slice pins s σ H x y v u Q I rx ry q hs
  . exact h' value slice pins s σ H x y v u Q I rx ry q hs
theorem pe_ix {r : R2} (hr : IxR X r) (ha : PE X a ta) (hb : PE X b tb) (hs : PlainIx b) : PE X (.Subscript a b pos) (tOp r ta tb) := by
  intro pins s σ H Q I h
  exact Subscript_ (binT ha hb I h fun v u s2 x y H2 I2 rx ry q => hr a b pins s2 σ H2 x y v u Q I2 rx ry q (hs _ _))
def rIxL (K : PySem.W.Frag) : R2 := fun x y H Q => ∃ p xs i v, x = .ref p /\ y = .int i /\ SqL K H p xs /\ atI xs i = some v /\ Q v H
def rIxT (K : PySem.W.Frag) : R2 := fun x y H Q => ∃ p xs i v, x = .ref p /\ y = .int i /\ SqT K H p xs /\ atI xs i = some v /\ Q v H
def rIxS : R2 := fun x y H Q => ∃ z i c, x = .str z /\ y = .int i /\ z.length <= sizeLine /\ atI z.cps.toList i = some c /\ Q (.str ⟨#[c]⟩) H
theorem ix_list : IxR X (rIxL X.K) := by
  intro value slice pins s σ H x y v u Q I rx ry h hs
  obtain ⟨p, xs, i, z, rfl, rfl, hq, he, q⟩ := h
  cases rx
  obtain ⟨t, rfl⟩ := ry
  obtain ⟨its, r, pl, hz⟩ := I.list hq
  obtain ⟨j, h1, h2, h3, h4, h5⟩ := atI_get he
  obtain ⟨w, ew, rw'⟩ := r.get h2
  have hl := r.length
  have hn := line63
  have fin : EP X pins σ Q w s := ⟨z, H, I, rw', q⟩
  by_cases h0 : 0 <= i
  . have hj : i.toNat = j := by
      rw [seqIndex_of h0 h5] at h1
      exact Option.some.inj h1
    exact item_listR pl.isList h0 (by omega) (by rw [hj]; simpa using ew) fin hs
  . have hj : (i + (its.toArray.size : Int)).toNat = j := by
      rw [seqIndex_neg (by omega) h4] at h1
      rw [List.size_toArray, <- hl]
      exact Option.some.inj h1
    exact subscriptTail_builtinR (x := w) pl.isList.typeIs slot_list_getitem.lookup
      (wpAny_getItem_list_neg (Q := fun r s' => r = w /\ EP X pins σ Q r s') pl.isList (by omega) (by rw [List.size_toArray] <;> omega) (by omega) (by rw [hj]; simpa using ew) ⟨rfl, fin⟩) hs
theorem ix_tup : IxR X (rIxT X.K) := by
  intro value slice pins s σ H x y v u Q I rx ry h hs
  obtain ⟨p, xs, i, z, rfl, rfl, hq, he, q⟩ := h
  cases rx
  obtain ⟨t, rfl⟩ := ry
  obtain ⟨its, r, pl, hz⟩ := I.tuple hq
  obtain ⟨j, h1, h2, h3, h4, h5⟩ := atI_get he
  obtain ⟨w, ew, rw'⟩ := r.get h2
  have hl := r.length
  have hn := line63
  have fin : EP X pins σ Q w s := ⟨z, H, I, rw', q⟩
  exact subscriptTail_builtinR (x := w) pl.typeIs slot_tuple_getitem.lookup
    (getItem_tuple (j := j) (Q := fun r s' => r = w /\ EP X pins σ Q r s') pl (by omega) (by omega) (by rw [List.size_toArray, <- hl]; exact h1) (by simpa using ew) ⟨rfl, fin⟩) hs
theorem ix_str : IxR X rIxS := by
  intro value slice pins s σ H x y v u Q I rx ry h hs
  obtain ⟨z, i, c, rfl, rfl, hz, he, q⟩ := h
  obtain ⟨t, rfl⟩ := rx
  obtain ⟨t', rfl⟩ := ry
  obtain ⟨j, h1, h2, h3, h4, h5⟩ := atI_get he
  have hl : z.cps.toList.length = z.length := by simp [Str.length]
  rw [hl] at h1 h4 h5
  have hn := line63
  exact tail_any (typeIs_str s z t) slot_str_getitem.lookup (getItem_str (c := c) (by
    have e1 : decide (i < -(2 ^ 63 : Int)) = false := decide_eq_false (by omega)
    have e2 : decide (i ≥ 2 ^ 63) = false := decide_eq_false (by omega)
    rw [e1, e2, Bool.or_false]) (by rw [h1]; simpa using h2) ⟨.str ⟨#[c]⟩, H, I.tok _, ⟨_, rfl⟩, q⟩) hs
def rIx (K : PySem.W.Frag) : R2 := fun x y H Q => rIxL K x y H Q \/ rIxT K x y H Q \/ rIxS x y H Q
theorem ix_seq : IxR X (rIx X.K) := ix_list.or (ix_tup.or ix_str)
theorem mapSeq_set (its : List Value) (n j : Nat) (u : Value) : Obj.mapSeq (·.setIfInBounds j u) { cls := .type "list", data := .seq its.toArray n } = { cls := .type "list", data := .seq (its.set j u).toArray n } := by
  simp [Obj.mapSeq]
theorem Inv.lst {pins : List (Addr × Obj)} {σ : St} {H : Hp} {s : Shared} {p : Addr} {xs : List V} (I : Inv X pins σ H s) (h : H p = some (.lst xs)) :
    ∃ (its : List Value) (n : Nat), Vals xs its /\ s.heap.get? p = some { cls := .type "list", data := .seq its.toArray n } /\ xs.length <= sizeLine := by
  obtain ⟨z, its, n, r, e⟩ := I.hok p _ h
  exact ⟨its, n, r, e, z⟩
theorem Inv.lstUpd {pins : List (Addr × Obj)} {σ : St} {H : Hp} {s : Shared} {p : Addr} {xs ys : List V} {its its' : List Value} {n n' : Nat} {f : Obj -> Obj} (I : Inv X pins σ H s) (h : H p = some (.lst xs))
    (ho : s.heap.get? p = some { cls := .type "list", data := .seq its.toArray n }) (hf : f { cls := .type "list", data := .seq its.toArray n } = { cls := .type "list", data := .seq its'.toArray n' }) (r : Vals ys its') (hz : ys.length <= sizeLine) (t : Nat) :
    Inv X pins σ (upd H p (.lst ys)) { s with heap := s.heap.update p f, toks := t } := by
  have e : (s.heap.update p f).get? p = some { cls := .type "list", data := .seq its'.toArray n' } := by
    rw [Heap.get?_update_self f ho (by rw [hf] <;> rfl), hf]
  refine I.write (x := p) (e := p) (by rw [h]; trivial) (.inl rfl) (fun b u hb q => (Heap.get?_update_other _ _ (Ne.symm hb)).trans q) ⟨_, e⟩ ?_
  exact ⟨hz, its', n', r, e⟩
def rSetL : V -> V -> V -> Hp -> (Hp -> Prop) -> Prop := fun o i v H Q => ∃ p xs k j, o = .ref p /\ i = .int k /\ H p = some (.lst xs) /\ ixN xs.length k = some j /\ Q (upd H p (.lst (xs.set j v)))
theorem set_list : PSet X rSetL := by
  intro pins s σ H o i v ov iv u Q I ro ri rv h
  obtain ⟨p, xs, k, j, rfl, rfl, hp, hj, q⟩ := h
  cases ro
  obtain ⟨t, rfl⟩ := ri
  obtain ⟨its, n, r, ho, hz⟩ := I.lst hp
  obtain ⟨h1, h2, h3, h4⟩ := ixN_seq hj
  have hl := r.length
  have hn := line63
  have I' : Inv X pins σ (upd H p (.lst (xs.set j v))) { s with heap := s.heap.update p (Obj.mapSeq (·.setIfInBounds j u)) } :=
    I.lstUpd hp ho (mapSeq_set its n j u) (r.set rv j) (by rw [List.length_set]; exact hz) s.toks
  by_cases h0 : 0 <= k
  . have hk : k.toNat = j := by
      rw [seqIndex_of h0 h4] at h1
      exact Option.some.inj h1
    exact PySem.W.ki_setAt ho h0 (by omega) (by rw [List.size_toArray, <- hl]; exact h4) (by rw [hk]; exact ⟨_, I', q⟩)
  . have hk : (k + (its.toArray.size : Int)).toNat = j := by
      rw [seqIndex_neg (by omega) h3] at h1
      rw [List.size_toArray, <- hl]
      exact Option.some.inj h1
    exact PySem.W.ki_setBack ho (by omega) (by rw [List.size_toArray, <- hl]; exact h3) (by omega) (by rw [hk]; exact ⟨_, I', q⟩)
theorem slice_bounds (lo hi : Option Int) (n : Nat) : (sliceBounds lo hi none n).1 = ((HT.sIx n 0 lo : Nat) : Int) /\ (sliceBounds lo hi none n).2.1 = ((HT.sIx n n hi : Nat) : Int) /\ (sliceBounds lo hi none n).2.2 = 1 := by
  refine ⟨?_, ?_, rfl⟩
  . cases lo with
    | none => simp [sliceBounds, HT.sIx]
    | some i =>
      simp only [sliceBounds, HT.sIx, Option.getD_none, show (1 : Int) > 0 by decide, if_true]
      by_cases h : i < 0
      . simp only [h, if_true] <;> omega
      . simp only [h, if_false] <;> omega
  . cases hi with
    | none => simp [sliceBounds, HT.sIx]
    | some i =>
      simp only [sliceBounds, HT.sIx, Option.getD_none, show (1 : Int) > 0 by decide, if_true]
      by_cases h : i < 0
      . simp only [h, if_true] <;> omega
      . simp only [h, if_false] <;> omega
theorem slicePick_cut (its : List Value) (lo hi : Option Int) : slicePick its.toArray lo hi none = ((its.drop (HT.sIx its.length 0 lo)).take (HT.sIx its.length its.length hi - HT.sIx its.length 0 lo)).toArray := by
  obtain ⟨h1, h2, h3⟩ := slice_bounds lo hi its.toArray.size
  unfold slicePick
  rw [h1, h2, h3]
  simp only [sliceRange_one, pick_run, List.size_toArray] <;> rfl
def rSlL (K : PySem.W.Frag) : V -> Option Int -> Option Int -> Hp -> VK -> Prop := fun x lo hi H Q => ∃ a xs, x = .ref a /\ SqL K H a xs /\ ∀ p, H p = none -> Q (.ref p) (upd H p (.lst (cutV xs lo hi)))
theorem sl_list : SlR X (rSlL X.K) := by
  intro pins s σ H x v vl vu lo hi sl Q I rx hs pl pu h
  obtain ⟨a, xs, rfl, hx, q⟩ := h
  cases rx
  obtain ⟨its, r, ht, hz⟩ := I.list hx
  have hlen := r.length
  refine ⟨"list", _, slot_list_getitem.lookup, ht.isList.typeIs, ?_⟩
  refine wpAny_getItem_list_slice ht.isList hs pl pu .none (by simp) ?_ (by rw [List.size_toArray] <;> omega)
  rw [slicePick_cut, <- hlen]
  refine ⟨.ref s.heap.objs.size, _, I.laid (t' := s.toks) (o := .lst (cutV xs lo hi)) (fun b ob q => Heap.get?_push_of_some _ q) (Nat.le_refl _) ?_, rfl, q _ (I.hok.fresh (Nat.le_refl _))⟩
  exact ⟨Nat.le_trans (cutV_length xs lo hi) hz, _, 0, (r.drop (HT.sIx xs.length 0 lo)).take (HT.sIx xs.length xs.length hi - HT.sIx xs.length 0 lo), Heap.get?_push_size _ rfl⟩
def flatV : V -> Bool
  | .non => true
  | .bl _ => true
  | .int _ => true
  | .str _ => true
  | _ => false
def eqV : V -> V -> Bool
  | .non, .non => true
  | .bl a, .bl b => a == b
  | .bl a, .int b => (if a then 1 else 0) == b
  | .int a, .bl b => a == (if b then 1 else 0)
  | .int a, .int b => a == b
  | .str a, .str b => a == b
  | _, _ => false
theorem eqAt_V {A : Around} {s : Shared} {y x : V} {u v : Value} (ry : RelV y u) (rx : RelV x v) (fy : flatV y = true) (fx : flatV x = true) : SeqAt.EqAt A s u v (eqV y x) := by
  cases y with
  | non =>
    cases ry
    cases x with
    | non => cases rx; exact SeqAt.EqAt.same _
    | bl b => cases rx; exact SeqAt.EqAt.none_bool b
    | int b => obtain ⟨t, rfl⟩ := rx; exact SeqAt.EqAt.none_int b t
    | str b => obtain ⟨t, rfl⟩ := rx; exact SeqAt.EqAt.none_str b t
    | _ => exact absurd (show false = true from fx) Bool.false_ne_true
  | bl a =>
    cases ry
    cases x with
    | non => cases rx; exact SeqAt.EqAt.bool_none a
    | bl b => cases rx; exact SeqAt.EqAt.bool_bool a b
    | int b => obtain ⟨t, rfl⟩ := rx; exact SeqAt.EqAt.bool_int a b t
    | str b => obtain ⟨t, rfl⟩ := rx; exact SeqAt.EqAt.bool_str a b t
    | _ => exact absurd (show false = true from fx) Bool.false_ne_true
  | int a =>
    obtain ⟨t', rfl⟩ := ry
    cases x with
    | non => cases rx; exact SeqAt.EqAt.int_none a t'
    | bl b => cases rx; exact SeqAt.EqAt.int_bool a t' b
    | int b => obtain ⟨t, rfl⟩ := rx; exact SeqAt.EqAt.int_int a t' b t
    | str b => obtain ⟨t, rfl⟩ := rx; exact SeqAt.EqAt.int_str a t' b t
    | _ => exact absurd (show false = true from fx) Bool.false_ne_true
  | str a =>
    obtain ⟨t', rfl⟩ := ry
    cases x with
    | non => cases rx; exact SeqAt.EqAt.str_none a t'
    | bl b => cases rx; exact SeqAt.EqAt.str_bool a t' b
    | int b => obtain ⟨t, rfl⟩ := rx; exact SeqAt.EqAt.str_int a t' b t
    | str b => obtain ⟨t, rfl⟩ := rx; exact SeqAt.EqAt.str_str a t' b t
    | _ => exact absurd (show false = true from fx) Bool.false_ne_true
  | _ => exact absurd (show false = true from fy) Bool.false_ne_true
def eqU (x : V) (u : Value) : Bool := match u with
  | .none => eqV .non x
  | .bool b => eqV (.bl b) x
  | .int i _ => eqV (.int i) x
  | .str z _ => eqV (.str z) x
  | _ => false
theorem eqU_of {x y : V} {u : Value} (r : RelV y u) (f : flatV y = true) : eqU x u = eqV y x := by
  cases y with
  | non => cases r; rfl
  | bl b => cases r; rfl
  | int i => obtain ⟨t, rfl⟩ := r; rfl
  | str z => obtain ⟨t, rfl⟩ := r; rfl
  | _ => exact absurd (show false = true from f) Bool.false_ne_true
theorem any_eqU {x : V} : ∀ {xs : List V} {us : List Value}, Vals xs us -> xs.all flatV = true -> us.any (eqU x) = xs.any fun y => eqV y x
  | _, _, .nil, _ => rfl
  | y :: xs, u :: us, .cons r t, f => by
    rw [List.all_cons, Bool.and_eq_true] at f
    rw [List.any_cons, List.any_cons, eqU_of r f.1, any_eqU t f.2]
theorem mem_eqAt {A : Around} {s : Shared} {x : V} {v : Value} (rx : RelV x v) (fx : flatV x = true) : ∀ {xs : List V} {us : List Value}, Vals xs us -> xs.all flatV = true -> ∀ u ∈ us, SeqAt.EqAt A s u v (eqU x u)
  | _, _, .nil, _ => fun u hu => by cases hu
  | y :: xs, u :: us, .cons r t, f => fun u' hu => by
    rw [List.all_cons, Bool.and_eq_true] at f
    rcases List.mem_cons.mp hu with rfl | hu
    . rw [eqU_of r f.1]; exact eqAt_V r rx f.1 fx
    . exact mem_eqAt rx fx t f.2 u' hu
def inV (x : V) (xs : List V) : Bool := xs.any fun y => eqV y x
def rIn (K : PySem.W.Frag) (neg : Bool) : R2 := fun x y H Q => ∃ p xs, y = .ref p /\ (SqL K H p xs \/ SqT K H p xs) /\ flatV x = true /\ xs.all flatV = true /\ Q (.bl (if neg then !inV x xs else inV x xs)) H
theorem op_in_seq : OpR X (compareOp .In) (rIn X.K false) := by
  intro pins s σ H x y v u Q I rx ry h
  obtain ⟨p, xs, rfl, hq, fx, fs, q⟩ := h
  cases ry
  rcases hq with hq | hq
  . obtain ⟨its, r, pl, hz⟩ := I.list hq
    refine SeqAt.in_listAt (eqU x) pl.isList (fun w hw => mem_eqAt rx fx r fs w (by simpa using hw)) ⟨.bl _, H, I, rfl, ?_⟩
    rw [show its.toArray.any (eqU x) = its.any (eqU x) by simp, any_eqU r fs]
    exact q
  . obtain ⟨its, r, pl, hz⟩ := I.tuple hq
    refine SeqAt.in_tupleAt (eqU x) pl (fun w hw => mem_eqAt rx fx r fs w (by simpa using hw)) ⟨.bl _, H, I, rfl, ?_⟩
    rw [show its.toArray.any (eqU x) = its.any (eqU x) by simp, any_eqU r fs]
    exact q
theorem call_list_of : CallR X (.type "list") (fun xs H Q => ∃ p ys, xs = [.ref p] /\ (SqL X.K H p ys \/ SqT X.K H p ys) /\ ∀ l, H l = none -> Q (.ref l) (upd H l (.lst ys))) := by
  intro pins s σ H xs us Q I r h
  obtain ⟨p, ys, rfl, hq, q⟩ := h
  obtain ⟨u, rfl, rx⟩ := vals1 r
  cases rx
  have fin : ∀ (its : List Value), Vals ys its -> ys.length <= sizeLine -> ∀ (h' : Heap) (c' : Nat), (∀ b o', s.heap.get? b = some o' -> h'.get? b = some o') ->
      h'.get? s.heap.objs.size = some { cls := .type "list", dict := none, data := .seq its.toArray c', slots := #[] } -> EP X pins σ Q (.ref s.heap.objs.size) { s with heap := h' } := fun its r' hz h' c' kp e =>
    ⟨.ref s.heap.objs.size, _, I.laid (t' := s.toks) kp (Nat.le_refl _) (show ObjOk X.prog X.w _ h' _ (.lst ys) from ⟨hz, its, c', r', e⟩), rfl, q _ (I.hok.fresh (Nat.le_refl _))⟩
  rcases hq with hq | hq
  . obtain ⟨its, r', pl, hz⟩ := I.list hq
    have hlen := r'.length
    obtain ⟨o, ho, hc, n, hd⟩ := pl.isList
    exact call_list_seq p (.inl rfl) ho hc hd (fun h' c' kp e => fin its r' hz h' c' kp e) (by simp only [List.size_toArray] <;> omega)
  . obtain ⟨its, r', pl, hz⟩ := I.tuple hq
    have hlen := r'.length
    obtain ⟨o, ho, hc, n, hd⟩ := pl
    exact call_list_seq p (.inr rfl) ho hc hd (fun h' c' kp e => fin its r' hz h' c' kp e) (by simp only [List.size_toArray] <;> omega)
theorem call_tuple_of : CallR X (.type "tuple") (fun xs H Q => ∃ p ys, xs = [.ref p] /\ ((SqL X.K H p ys /\ ∀ l, H l = none -> Q (.ref l) (upd H l (.tup ys))) \/ (SqT X.K H p ys /\ Q (.ref p) H))) := by
  intro pins s σ H xs us Q I r h
  obtain ⟨p, ys, rfl, h⟩ := h
  obtain ⟨u, rfl, rx⟩ := vals1 r
  cases rx
  rcases h with ⟨hq, q⟩ | ⟨hq, q⟩
  . obtain ⟨its, r', pl, hz⟩ := I.list hq
    have hlen := r'.length
    refine call_tuple_list pl.isList (fun h' kp => ?_) (by simp only [List.size_toArray] <;> omega)
    have I1 : Inv X pins σ H { s with heap := h' } := I.kept (t' := s.toks) kp
    have I2 : Inv X pins σ (upd H h'.objs.size (.tup ys)) { s with heap := h'.push { cls := .type "tuple", data := .seq its.toArray } } :=
      I1.laid (t' := s.toks) (fun b o e => Heap.get?_push_of_some _ e) (Nat.le_refl _) (show ObjOk X.prog X.w _ _ _ (.tup ys) from ⟨hz, its, r', IsTupN.new _ _⟩)
    exact ⟨.ref h'.objs.size, _, I2, rfl, q _ (I1.hok.fresh (Nat.le_refl _))⟩
  . obtain ⟨its, r', pl, hz⟩ := I.tuple hq
    exact call_tuple_same pl ⟨.ref p, H, I, rfl, q⟩
def tyV (K : PySem.W.Frag) (T : String) (x : V) (H : Hp) : Prop := match x with
  | .str _ => T = "str"
  | .int _ => T = "int"
  | .ref p => (T = "list" /\ ∃ xs, SqL K H p xs) \/ (T = "tuple" /\ ∃ o, K.lookup p = some o /\ o.cls = .type "tuple" /\ o.dict = none) \/
      (T = "dict" /\ ((∃ kvs, H p = some (.dK kvs)) \/ ∃ kvs, H p = some (.dT kvs))) \/ (T = "set" /\ ∃ S n, H p = some (.set S n))
  | _ => False
theorem tyV_is {pins : List (Addr × Obj)} {σ : St} {H : Hp} {s : Shared} {T : String} {x : V} {v : Value} (I : Inv X pins σ H s) (r : RelV x v) (ty : tyV X.K T x H) :
    s.TypeIs v T /\ ∀ a, v = .ref a -> ∃ ob, s.heap.get? a = some ob /\ ob.dict = none := by
  cases x with
  | str z =>
    obtain ⟨t, rfl⟩ := r
    cases (show T = "str" from ty)
    exact ⟨typeIs_str s z t, fun _ e => nomatch e⟩
  | int i =>
    obtain ⟨t, rfl⟩ := r
    cases (show T = "int" from ty)
    exact ⟨typeIs_int s i t, fun _ e => nomatch e⟩
  | ref p =>
    cases r
    rcases ty with ⟨rfl, xs, hq⟩ | ⟨rfl, o, hk, hc, hd⟩ | ⟨rfl, hk⟩ | ⟨rfl, S, n, hk⟩
    . obtain ⟨its, _, pl, _⟩ := I.list hq
      refine ⟨pl.isList.typeIs, fun a e => ?_⟩
      cases e
      obtain ⟨o, n, e, c, hd, _⟩ := pl
      exact ⟨o, e, hd⟩
    . refine ⟨⟨o, I.kIn p o hk, hc⟩, fun a e => ?_⟩
      cases e
      exact ⟨o, I.kIn _ o hk, hd⟩
    . have z : ∃ o, s.heap.get? p = some o /\ o.ExactDict := by
        rcases hk with ⟨kvs, hk⟩ | ⟨kvs, hk⟩
        . obtain ⟨_, _, _, _, o, _, _, e, ex, _⟩ := I.hok p _ hk
          exact ⟨o, e, ex⟩
        . obtain ⟨_, _, _, _, o, _, _, e, ex, _⟩ := I.hok p _ hk
          exact ⟨o, e, ex⟩
      obtain ⟨o, e, ex⟩ := z
      refine ⟨⟨o, e, ex.1⟩, fun a e2 => ?_⟩
      cases e2
      exact ⟨o, e, ex.2.1⟩
    . obtain ⟨o, _, _, _, e, ex, _⟩ := I.hok p _ hk
      refine ⟨⟨o, e, ex.1⟩, fun a e2 => ?_⟩
      cases e2
      exact ⟨o, e, ex.2.1⟩
  | _ => exact False.elim ty
def tBM (K : PySem.W.Frag) (T : String) (r : V -> List V -> Hp -> VK -> Prop) (to : TE) (t : TA) : TE := fun σ H Q => to σ H fun x H1 => tyV K T x H1 /\ t σ H1 fun xs H2 => r x xs H2 Q
variable {o e : Expr} {es : List Expr} {to : TE} {t : TA} {name : Str} {apos cpos : Pos} {T id : String} {r : V -> List V -> Hp -> VK -> Prop}
theorem pe_bm (pa : PlainAttrs T) (slot : Slot T name id) (hty : typeOf (.builtin id) = pure (.type "method_descriptor")) (hm : MtR X id r) (ho : PE X o to) (ha : PA X (e :: es) t)
    (hbase : attributeBase o name X.env (eval o X.env) = eval o X.env := by rfl)
    (hfew : ((backTo cpos (starEach (e :: es) X.env)).all (fun x => !x.1) && (backToKw cpos (keywordEach [] X.env)).all (fun x => x.1.isSome)
      && decide ((e :: es).length + ([] : List Keyword).length + (if ([] : List Keyword).isEmpty then 0 else 1) < 30)) = true := by rfl)
    (hline : (apos.endLine == cpos.line) = true := by rfl) (hs : starEach (e :: es) X.env = (false, eval e X.env) :: starEach es X.env := by rfl) (hplain : (backTo cpos (starEach es X.env)).any (·.1) = false := by rfl) :
    PE X (.Call (.Attribute o name apos) (e :: es) [] cpos) (tBM X.K T r to t) := by
  intro pins s σ H Q I h
  refine wpAny_Call_method_late hbase hfew hline rfl (thn (ho pins s σ H _ I h) fun v s1 ⟨x, H1, I1, r1, ty, q1⟩ => ?_)
  obtain ⟨h1, h2⟩ := tyV_is I1 r1 ty
  refine ⟨T, id, pa, slot, hty, h1, h2, ?_⟩
  have hA := ha cpos pins s1 σ H1 _ I1 q1
  rw [hs] at hA ⊢
  refine Calls.callWith_builtin (by show (false || (backTo cpos (starEach es X.env)).any (·.1)) = false; rw [hplain] <;> rfl) (Calls.evalArgs_plain ?_)
  exact thn hA fun us s2 ⟨vs, H2, I2, r2, q2⟩ => hm pins s2 σ H2 x vs v us Q I2 r1 r2 q2
end
def MtM (X : Cx) (id : String) (r : V -> List V -> Hp -> VK -> Prop) : Prop :=
  ∀ (pins : List (Addr × Obj)) (s : Shared) (σ : St) (H : Hp) (x : V) (xs : List V) (v : Value) (us : List Value) (Q : VK), Inv X pins σ H s -> RelV x v -> Vals xs us -> r x xs H Q ->
    wpAny (model X.prog X.w) X.A (call (.builtin id) (v :: us)) (EP X pins σ Q) X.xe s
theorem Vals.one : ∀ {x : V} {us : List Value}, Vals [x] us -> ∃ u, us = [u] /\ RelV x u
  | _, _, .cons r .nil => ⟨_, rfl, r⟩
theorem Vals.zero : ∀ {us : List Value}, Vals [] us -> us = []
  | _, .nil => rfl
theorem Vals.rep {xs : List V} {us : List Value} (h : Vals xs us) : ∀ k : Nat, Vals (List.replicate k xs).flatten (List.replicate k us).flatten
  | 0 => .nil
  | k + 1 => by
    rw [List.replicate_succ, List.replicate_succ, List.flatten_cons, List.flatten_cons]
    exact Vals.append h (Vals.rep h k)
theorem foldl_rep (its : List Value) : ∀ (k : Nat) (acc : List Value),
    List.foldl (fun x1 x2 => x1 ++ x2) acc.toArray (List.replicate k its.toArray) = (acc ++ (List.replicate k its).flatten).toArray
  | 0, acc => by simp
  | k + 1, acc => by
    have e : acc.toArray ++ its.toArray = (acc ++ its).toArray := by simp
    have e2 : (acc ++ its) ++ (List.replicate k its).flatten = acc ++ (List.replicate (k + 1) its).flatten := by
      rw [List.replicate_succ, List.flatten_cons, List.append_assoc]
    rw [<- e2, <- foldl_rep its k (acc ++ its), <- e, List.replicate_succ, List.foldl_cons]
section
variable {X : Cx} {pins : List (Addr × Obj)} {σ : St} {H : Hp} {s : Shared} {l b : Addr} {xs ys zs : List V}
theorem Inv.lset {its its' : List Value} {n : Nat} {f : Array Value -> Array Value} {t' : Nat} (I : Inv X pins σ H s) (hH : H l = some (.lst xs))
    (e : s.heap.get? l = some { cls := .type "list", data := .seq its.toArray n }) (hf : f its.toArray = its'.toArray) (hv : Vals ys its') (hz : ys.length <= sizeLine) :
    Inv X pins σ (upd H l (.lst ys)) { s with heap := s.heap.update l (Obj.mapSeq f), toks := t' } := by
  have q := PySem.IsL.update e f
  rw [hf] at q
  refine I.write (x := l) (e := l) (by rw [hH]; exact trivial) (.inl rfl) (fun b' u hb hu => (Heap.get?_update_other s.heap (Obj.mapSeq f) (Ne.symm hb)).trans hu) ⟨_, q⟩ ?_
  exact ⟨hz, its', _, hv, q⟩
theorem Inv.lnew {its : List Value} {t' : Nat} (I : Inv X pins σ H s) (hv : Vals ys its) (hz : ys.length <= sizeLine) :
    Inv X pins σ (upd H s.heap.objs.size (.lst ys)) { s with heap := s.heap.push { cls := .type "list", data := .seq its.toArray }, toks := t' } :=
  I.laid (fun _ _ q => Heap.get?_push_of_some _ q) (Nat.le_refl _) ⟨hz, its, 0, hv, Heap.get?_push_size _ rfl⟩
theorem Inv.fresh (I : Inv X pins σ H s) : H s.heap.objs.size = none := I.hok.fresh (Nat.le_refl _)
theorem Inv.lstM (I : Inv X pins σ H s) (hH : H l = some (.lst xs)) : xs.length <= sizeLine /\ ∃ (its : List Value) (n : Nat), Vals xs its /\ xs.length = its.length /\ s.heap.get? l = some { cls := .type "list", data := .seq its.toArray n } := by
  obtain ⟨z, its, n, r, e⟩ := I.hok l _ hH
  exact ⟨z, its, n, r, r.length, e⟩
theorem notLongL {n : Nat} (h : n <= sizeLine) : Builtin.List.listTooLong n = false := by
  unfold Builtin.List.listTooLong
  exact decide_eq_false (by omega)
end
section
variable {X : Cx}
def rAppend : V -> List V -> Hp -> VK -> Prop := fun x vs H Q => ∃ l xs y, x = .ref l /\ vs = [y] /\ H l = some (.lst xs) /\ xs.length < sizeLine /\ Q .non (upd H l (.lst (xs ++ [y])))
theorem mt_append : MtM X "list.append" rAppend := by
  intro pins s σ H x vs v us Q I rx rv h
  obtain ⟨l, xs, y, rfl, rfl, hH, hz, q⟩ := h
  cases rx
  obtain ⟨u, rfl, ru⟩ := rv.one
  obtain ⟨z, its, n, r, hl, e⟩ := I.lstM hH
  refine call_meets F.slot_list_append ⟨_, e, rfl⟩ F.entry_list_append (F.args_list_append_2 _ _) (PySem.list_append l its.toArray n u (by rw [List.size_toArray]; omega)) ⟨e, ?_⟩
  refine ⟨.non, _, I.lset (its' := its ++ [u]) hH e (by simp) (r.append (.cons ru .nil)) ?_, rfl, q⟩
  rw [List.length_append, List.length_singleton]
  omega
def rCat : R2 := fun x y H Q => ∃ l b xs zs, x = .ref l /\ y = .ref b /\ H l = some (.lst xs) /\ H b = some (.lst zs) /\ xs.length + zs.length <= sizeLine /\ ∀ p, H p = none -> Q (.ref p) (upd H p (.lst (xs ++ zs)))
theorem op_cat : OpR X (binaryOp .Add) rCat := by
  intro pins s σ H x y v u Q I rx ry h
  obtain ⟨l, b, xs, zs, rfl, rfl, hH, hB, hz, q⟩ := h
  cases rx
  cases ry
  obtain ⟨z, its, n, r, hl, e⟩ := I.lstM hH
  obtain ⟨z2, its2, n2, r2, hl2, e2⟩ := I.lstM hB
  refine PySem.P.add_list e e2 ?_ (by rw [List.size_toArray, List.size_toArray]; omega)
  have ea : its.toArray ++ its2.toArray = (its ++ its2).toArray := by simp
  rw [ea]
  exact ⟨.ref _, _, I.lnew (t' := s.toks) (r.append r2) (by rw [List.length_append]; omega), rfl, q _ I.fresh⟩
def rRep : R2 := fun x y H Q => ∃ l k xs, x = .ref l /\ y = .int k /\ H l = some (.lst xs) /\ -(2 ^ 63) <= k /\ k < 2 ^ 63 /\ xs.length * k.toNat <= sizeLine /\
  ∀ p, H p = none -> Q (.ref p) (upd H p (.lst (List.replicate k.toNat xs).flatten))
theorem len_rep {α : Type} (xs : List α) (k : Nat) : (List.replicate k xs).flatten.length = k * xs.length := by
  induction k with
  | zero => simp
  | succ k ih => rw [List.replicate_succ, List.flatten_cons, List.length_append, ih, Nat.succ_mul, Nat.add_comm]
theorem op_rep : OpR X (binaryOp .Mult) rRep := by
  intro pins s σ H x y v u Q I rx ry h
  obtain ⟨l, k, xs, rfl, rfl, hH, h1, h2, hz, q⟩ := h
  cases rx
  obtain ⟨t, rfl⟩ := ry
  obtain ⟨z, its, n, r, hl, e⟩ := I.lstM hH
  have hlen : its.toArray.size * k.toNat <= sizeLine := by rw [List.size_toArray, <- hl]; exact hz
  have hcap : ¬ its.toArray.size * k.toNat > (2 ^ 63 - 1) / 8 := by
    have : (sizeLine : Nat) <= (2 ^ 63 - 1) / 8 := by decide
    omega
  have hfit : ¬ (!Builtin.List.listFitsIndex k) = true := by
    rw [fitsIndex_both h1 h2]
    exact Bool.false_ne_true
  have hlong : ¬ Builtin.List.listTooLong (its.toArray.size * k.toNat) = true := by
    rw [notLongL hlen]
    exact Bool.false_ne_true
  have hnew : List.foldl (fun x1 x2 => x1 ++ x2) #[] (List.replicate (if its.toArray.isEmpty = true then 0 else k.toNat) its.toArray) = (List.replicate k.toNat its).flatten.toArray := by
    have f0 : ∀ m : Nat, List.foldl (fun x1 x2 => x1 ++ x2) #[] (List.replicate m its.toArray) = (List.replicate m its).flatten.toArray := fun m => by
      have := foldl_rep its m []
      rw [List.nil_append] at this
      exact this
    rw [f0]
    cases its with
    | nil => simp
    | cons a r' => rw [if_neg (by simp)]
  refine wpAny_binaryOp_repeat_ref (T := "list") (U := "int") (by decide) ⟨_, e, rfl⟩ (fun s' => typeIs_int s' k t) noFill_list_mul F.fills_int_mul F.slot_int_rmul repeat_list F.slot_int_index.lookup
    (call_meets F.slot_int_rmul (typeIs_int s k t) F.entry_int_rmul (F.args_int_rmul_2 _ _) (int___rmul___int_list k t l its.toArray n)
      ⟨e, rfl, ⟨_, e, rfl⟩, call_meets F.slot_list_mul ⟨_, e, rfl⟩ F.entry_list_mul (F.args_list_mul_2 _ _) (AutoListH.list___mul___list_int_3 l its.toArray n k t hfit hcap hlong) ⟨e, ?_⟩⟩)
  rw [hnew]
  exact ⟨.ref _, _, I.lnew (t' := s.toks) (r.rep k.toNat) (by rw [len_rep, Nat.mul_comm]; exact hz), rfl, q _ I.fresh⟩
end
section
variable {prog : Program} {w : World} {A : Around} {E : Value -> Shared -> Prop} {s : Shared}
end
section
variable {X : Cx}
end
end L2
namespace Att
open PySem PySem.W PySem.Calls PyProof.Rows
theorem ints_of_wellAll {P : Params} {h : Heap} : ∀ (ns : List Int) (vs : List Value), WellAll P h vs (ns.map WData.int) -> IntsAre vs ns := by
  intro ns
  induction ns with
  | nil =>
    intro vs w
    rw [List.map_nil] at w
    cases w
    exact .nil
  | cons n ns ih =>
    intro vs w
    rw [List.map_cons] at w
    cases w with
    | cons a b =>
      cases a
      exact .cons _ _ (ih _ b)
theorem script_of {l : OpenLaw} {n : Nat} (hn : l.most = some n) {P : Params} {h : Heap} {args : List WData} {vals : List Value}
    (hpre : l.row.toRowW.claim.pre args = true) (hwl : WellAll P h vals args) :
    ∃ a vs ns, vals = [Value.ref a] /\ args = [WData.list (ns.map WData.int)] /\ h.get? a = some { cls := .type "list", data := .seq vs.toArray } /\ IntsAre vs ns /\ ns.length <= n := by
  have hsh : WShape.hasAll [] args [.list .int] = true := (pre_splitW hpre).1
  have hc : l.pre.holds [] { args := args } = true := (pre_splitW hpre).2
  obtain ⟨d, r, rfl, h1, h2⟩ := hasAllW_cons hsh
  obtain rfl := hasAllW_nil h2
  obtain ⟨xs, rfl, h3⟩ := hasW_list h1
  obtain ⟨ns, rfl⟩ := items_int h3
  have hlen : ns.length <= n := by
    unfold OpenLaw.pre at hc
    have h4 : (WTm.not (.lt (.lit (.int (n : Int))) (.len (.arg 0)))).holds [] { args := [.list (ns.map .int)] } = true := by
      have h4 := (holds_andW hc).1
      rw [hn] at h4
      exact h4
    have h5 := condW_of h4 (w_not (w_lt w_lit (w_len_list (w_arg rfl))))
    rw [List.length_map] at h5
    refine Nat.le_of_not_lt fun q => ?_
    have q' : (n : Int) < ((ns.length : Nat) : Int) := by omega
    first
      | (rw [decide_eq_true q'] at h5; exact absurd h5 (by decide))
      | (simp at h5; omega)
  cases hwl with
  | cons w1 w2 =>
    cases w2
    cases w1 with
    | list ho hall => exact ⟨_, _, ns, rfl, rfl, ho, ints_of_wellAll ns _ hall, hlen⟩
theorem post_true (l : OpenLaw) (args : List WData) : l.row.toRowW.claim.post args (.bool true) args = true :=
  postW_of (r := l.row.toRowW) (X := (true == true))
    (show WShape.has [] (.bool true) .bool = true by first | rfl | decide | simp [WShape.has, WShape.arms, WShape.armsAll])
    (show (WTm.eq .res (.lit (.bool true))).value [] { args := args, res := some (.bool true), after := args } = some (.bool (true == true)) from w_eq_bool (w_res rfl) w_lit) rfl
theorem attach_call {l : OpenLaw} {n : Nat} {q : Program} {loose : List Str} {XP : (Str -> Option Value) -> Heap -> Prop} {YP : World -> Heap -> Prop} {d : DefRec}
    (hn : l.most = some n) (hdf : d.params.defaults = [])
    (call : ∀ (w : World) (s₀ s₁ : Shared) (mg mb : Str -> Option Value) (fa : Addr) (o : Obj) (pm cd doc : Value) (a : Addr) (vs : List Value) (ns : List Int),
      Ground q loose [] XP w s₀ mg mb s₁.heap -> YP w s₁.heap ->
      s₁.heap.get? fa = some o -> o.data = .func (docDef d.name d.params d.body d.scope pm cd doc) -> s₁.heap.CodeRec cd d.name -> mg d.name = some (.ref fa) ->
      s₁.heap.get? a = some { cls := .type "list", data := .seq vs.toArray } -> IntsAre vs ns -> ns.length <= n -> s₁.gens = #[] ->
      codeAny (model l.prog w) callerA (.call (.ref fa) ⟨[.ref a], []⟩) (fun r s' => r = .ok (.ret (.bool true)) /\ OldK s₁.heap s'.heap /\ s'.os = s₁.os /\ AllBare s'.gens) s₁) :
    WalkO q loose XP YP l.row.toRowW d [] (fun f vs => PySem.call f vs) := by
  intro w s₀ s₁ mg mb G Y fa o pm cd doc dV kV ho hd hcd hD hmg hg args vals as hpre hlay hrd hwl hlo
  obtain rfl : dV = .none := Dflts.none hD hdf
  obtain rfl : kV = .none := Dflts.noKw hD
  obtain ⟨a, vs, ns, rfl, rfl, hobj, hints, hlen⟩ := script_of hn hpre hwl
  refine enter_call (codeAny_mono (call w s₀ s₁ mg mb fa o pm cd doc a vs ns G Y ho (fd_plain hd) hcd hmg hobj hints hlen hg) fun r s' hq => ?_)
  obtain ⟨rfl, h2, h3, h4⟩ := hq
  exact ⟨.inl ⟨.bool true, .bool true, [], rfl, fun _ => rfl, .bool true, post_true l _, fun _ => ⟨List.Pairwise.nil, fun _ hm => (nomatch hm)⟩⟩, h2, h3, h4⟩
section
variable {prog : Program} {w : World} {A : Around} {E : Value -> Shared -> Prop} {s : Shared} {K : Frag}
def noObjs (h : Heap) : Heap := { h with objs := #[] }
theorem noObjs_get (h : Heap) (b : Addr) : (noObjs h).get? b = none := by
  cases e : (noObjs h).get? b with
  | none => rfl
  | some o => exact absurd (Heap.lt_size e) (Nat.not_lt_zero _)
theorem fr_all {h : Heap} {L : Addr} {m : Str -> Option Value} (n : h.Ns L m) : Fr (noObjs h) L h m :=
  ⟨n, fun b o e => (by rw [noObjs_get] at e; cases e), Nat.zero_le _⟩
end
end Att
namespace L2
open PySem PySem.Spec PyProof.Rows
theorem vals_ints : ∀ {vs : List Value} {ns : List Int}, IntsAre vs ns -> Vals (ns.map V.int) vs
  | _, _, .nil => .nil
  | _, _, .cons n t h => .cons ⟨t, rfl⟩ (vals_ints h)
def Only (H : Hp) : Prop := ∀ b, H b = none \/ ∃ o xs, H b = some (.frz o (.lst xs))
theorem law_call {P : Program} {w : World} {K : PySem.W.Frag} {mg mb : Str -> Option Value} {CX : CXT} {k : Nat} {fa a : Addr} {fd : FuncData} {x : Str} {sp : Sp} {s₁ : Shared} {vs : List Value} {ns : List Int}
    (KX : K.In s₁.heap) (hns : s₁.heap.Ns mainGlobals mg) (hb : s₁.heap.Ns builtinsNs mb) (hbb : ∀ x : Str, x ≠ "__name__" -> mb x = bootBuiltins x) (hlim : s₁.heap.NoLimit) (hg : s₁.gens = #[])
    (ha : s₁.heap.get? a = some { cls := .type "list", data := .seq vs.toArray }) (hi : IntsAre vs ns) (hl : ns.length <= sizeLine) (hr : Room k callerA)
    (F : ∀ base : Heap, K.In base -> base.Ns mainGlobals mg -> FnOk P w K mg base CX k fa fd [x] sp) (hbind : ∀ (s : Shared) (u : Value), BindsTo s fd ⟨[u], []⟩ [(x, u)])
    (hsp : ∀ H : Hp, Only H -> SqL K H a (ns.map V.int) -> sp [.ref a] H (fun v _ => v = .bl true) fun _ _ _ => False)
    (hCX : ∀ H e s', CX [] H s₁ (fun _ _ _ => False) e s' -> False) :
    codeAny (model P w) callerA (.call (.ref fa) ⟨[.ref a], []⟩) (fun r s' => r = .ok (.ret (.bool true)) /\ OldK s₁.heap s'.heap /\ s'.os = s₁.os /\ AllBare s'.gens) s₁ := by
  have rv := vals_ints hi
  have lenV := hi.length
  -- from an abstract heap in which nothing but the script may be tracked
  have core : ∀ H : Hp, Only H -> SqL K H a (ns.map V.int) -> HOk P w H s₁.heap -> (∀ b, H b ≠ none -> b = a) -> (H a ≠ none -> K.lookup a = none) ->
      codeAny (model P w) callerA (.call (.ref fa) ⟨[.ref a], []⟩) (fun r s' => r = .ok (.ret (.bool true)) /\ OldK s₁.heap s'.heap /\ s'.os = s₁.os /\ AllBare s'.gens) s₁ := by
    intro H hO hS hok hA hK
    have base_of : ∀ {b : Addr} {o : Obj}, s₁.heap.get? b = some o -> H b = none -> (hidT s₁.heap H).get? b = some o := fun e n => hidT_get e n
    have noA : ∀ {b : Addr} {o : Obj} {es : Array DictEntry} {ep : Nat}, s₁.heap.get? b = some o -> o.data = .dict es ep -> H b = none := fun {b o es ep} e d => by
      cases q : H b with
      | none => rfl
      | some u =>
        have e' : b = a := hA b (by rw [q]; simp)
        subst e'
        rw [ha] at e; cases e
        have d' : Data.seq vs.toArray _ = Data.dict es ep := d
        cases d'
    have nsK : ∀ {b : Addr} {m : Str -> Option Value}, s₁.heap.Ns b m -> (hidT s₁.heap H).Ns b m := fun {b m} ⟨o, es, ep, e, d, r⟩ => ⟨o, es, ep, base_of e (noA e d), d, r⟩
    have hKb : K.In (hidT s₁.heap H) := fun b o e => base_of (KX b o e) (by
      cases q : H b with
      | none => rfl
      | some u =>
        have e' : b = a := hA b (by rw [q]; simp)
        subst e'
        rw [hK (by rw [q]; simp)] at e; cases e)
    have hM : Mod K mg (hidT s₁.heap H) := ⟨hKb, nsK hns, ⟨mb, nsK hb, hbb⟩, let ⟨mc, h1, h2⟩ := hlim; ⟨mc, nsK h1, h2⟩⟩
    have e0 : Env0 P w K mg (hidT s₁.heap H) callerA [] s₁ H := ⟨rfl, hM, fun b o e => of_hidT e, Nat.le_of_eq (hidT_size _ _), trivial, fun b hb => absurd (show b ∈ ([] : List Addr) from hb) (by simp), hok, .of_eq hg⟩
    refine codeAny_mono ((F _ hKb (nsK hns)).run callerA [] s₁ H ⟨[.ref a], []⟩ [.ref a] [.ref a] _ _ hr e0 (hbind s₁ (.ref a)) (.cons rfl .nil) (hsp H hO hS)) fun r s' h => ?_
    cases r with
    | error e => exact (hCX H e s' h).elim
    | ok fl =>
      cases fl with
      | next => exact False.elim h
      | brk => exact False.elim h
      | cont => exact False.elim h
      | ret u =>
        obtain ⟨v, H', os, bare, un, hok', r', q⟩ := h
        have q' : v = .bl true := q
        subst q'
        obtain rfl : u = Value.bool true := r'
        refine ⟨rfl, OldK.of_keep fun b o e => ?_, os, bare⟩
        cases q : H b with
        | none => exact un.keep b o e q (by intro z; exact absurd (show b ∈ ([] : List Addr) from z) (by simp)) (by simp)
        | some u =>
          rcases hO b with z | ⟨ob, xs, z⟩
          . rw [q] at z; cases z
          . have z2 := un.frzs b ob _ z
            obtain ⟨e1, _⟩ := hok b _ z
            obtain ⟨e2, _⟩ := hok' b _ z2
            rw [e] at e1; cases e1
            exact e2
  cases hk : K.lookup a with
  | some o =>
    -- the script is one of the module's own objects
    have e := KX a o hk
    rw [ha] at e
    cases e
    refine core (fun _ => none) (fun _ => .inl rfl) (.inr ⟨_, vs.toArray, _, hk, rfl, rfl, rfl, by rw [List.size_toArray, lenV]; exact hl, by simpa using rv⟩) (fun b u z => by have z' : (none : Option HO) = some u := z; cases z') (fun b z => absurd rfl z) fun z => absurd rfl z
  | none =>
    refine core (fun b => if b = a then some (.frz { cls := .type "list", data := .seq vs.toArray } (.lst (ns.map V.int))) else none) (fun b => ?_) (.inl (.inr ⟨{ cls := .type "list", data := .seq vs.toArray }, if_pos rfl⟩)) (fun b u z => ?_) (fun b z => ?_) fun _ => hk
    . by_cases hb : b = a
      . exact .inr ⟨_, _, if_pos hb⟩
      . exact .inl (if_neg hb)
    . by_cases hb : b = a
      . have z' := (if_pos hb).symm.trans z
        cases z'
        subst hb
        exact ⟨ha, by rw [List.length_map]; exact hl, vs, _, rv, ha⟩
      . have z' := (if_neg hb).symm.trans z
        cases z'
    . by_cases hb : b = a
      . exact hb
      . exact absurd (if_neg hb) z
theorem walk_of {l : PySem.W.OpenLaw} {n k : Nat} {q : Program} {loose : List Str} {XP : (Str -> Option Value) -> Heap -> Prop} {YP : World -> Heap -> Prop} {d : DefRec} {K : Params -> PySem.W.Frag} {CX : World -> CXT} {sp : World -> Sp} {x : Str}
    (hn : l.most = some n) (hn2 : n <= sizeLine) (hdf : d.params.defaults = []) (hr : Room k callerA)
    (hY : ∀ (w : World) (h : Heap), YP w h -> (K w.params).In h)
    (F : ∀ (w : World) (mg : Str -> Option Value) (fa : Addr) (h : Heap), (K w.params).In h -> h.Ns mainGlobals mg -> mg d.name = some (.ref fa) ->
      ∃ fd : FuncData, (∀ (s : Shared) (u : Value), BindsTo s fd ⟨[u], []⟩ [(x, u)]) /\
        ∀ base : Heap, (K w.params).In base -> base.Ns mainGlobals mg -> FnOk l.prog w (K w.params) mg base (CX w) k fa fd [x] (sp w))
    (hsp : ∀ (w : World) (H : Hp) (a : Addr) (ns : List Int), ns.length <= n -> Only H -> SqL (K w.params) H a (ns.map V.int) -> sp w [.ref a] H (fun v _ => v = .bl true) fun _ _ _ => False)
    (hCX : ∀ (w : World) (H : Hp) (s : Shared) (e : Value) (s' : Shared), CX w [] H s (fun _ _ _ => False) e s' -> False) :
    PySem.W.WalkO q loose XP YP l.row.toRowW d [] (fun f vs => PySem.call f vs) := by
  refine Att.attach_call hn hdf fun w s₀ s₁ mg mb fa o pm cd doc a vs ns G Y ho hd hcd hmg hobj hints hlen hg => ?_
  have KX := hY w _ Y
  obtain ⟨fd, hb, hF⟩ := F w mg fa _ KX G.T.g hmg
  exact law_call KX G.T.g G.T.b G.T.builtins G.T.nolimit hg hobj hints (Nat.le_trans hlen hn2) hr hF hb (fun H hO hS => hsp w H a ns hlen hO hS) fun H e s' => hCX w H s₁ e s'
def inClass (s : Stmt) (j : Nat) : Stmt := match s with
  | .ClassDef _ _ _ body _ _ _ _ _ _ _ => body.getD j (.Pass ⟨0, 0, 0, 0⟩)
  | _ => .Pass ⟨0, 0, 0, 0⟩
def defArgs (s : Stmt) : Arguments := match s with
  | .FunctionDef _ a _ _ _ _ _ _ _ _ => a
  | _ => { posonlyargs := [], args := [], vararg := none, kwonlyargs := [], kw_defaults := [], kwarg := none, defaults := [] }
def defBody (s : Stmt) : List Stmt := match s with
  | .FunctionDef _ _ b _ _ _ _ _ _ _ => b
  | _ => []
def defScope (s : Stmt) : Scope := match s with
  | .FunctionDef _ _ _ _ _ _ sc _ _ _ => sc
  | _ => { kind := .function, names := [], isGenerator := false, isCoroutine := false }
abbrev CX0 : CXT := fun _ _ _ _ _ _ => False
abbrev E0 : XK := fun _ _ _ => False
theorem pass0 {X : Cx} : Passes CX0 X E0 := fun _ _ _ _ _ _ _ h => h.elim
structure Fun (K : PySem.W.Frag) (x qual : Str) (st : Stmt) (f : Addr) (fd : FuncData) : Prop where
  ex : ∃ (oc : Value) (od : Option Addr) (kV doc pm : Value) (an : Option Addr) (cdv ct : Value) (osl : Array (Option Value)),
    fd = PySem.W.fnOf x qual (defArgs st) (defBody st) (defScope st) .none kV doc pm an cdv ct /\ K.lookup f = some ⟨oc, od, .func fd, osl⟩ /\ PySem.W.codeIn K cdv qual = true
  kp : PySem.W.keepIn K (.ref f) = true
section
variable {P : Program} {w : World} {K : PySem.W.Frag} {mg : Str -> Option Value} {base : Heap}
theorem Fun.ok {x qual : Str} {st : Stmt} {f : Addr} {fd : FuncData} {N ps : List Str} {k : Nat} {sp : Sp} (F : Fun K x qual st f fd) (S : FnScope N ps (defScope st)) (len : ∀ vs H Q E, sp vs H Q E -> vs.length = ps.length)
    (hbody : ∀ (cdv : Value) (A : Around) (outer : List Env) (s : Shared) (H : Hp) (vs : List V) (Q : VK) (E : XK), Room k (A.deeper (envOfC qual (defScope st) s.heap.objs.size f cdv)) -> sp vs H Q E ->
      ∃ t, PSs (cxOf CX0 P w K mg base N qual (defScope st) f cdv A outer s H E).nox (defBody st) t /\ t { nx := fun _ H' => Q .non H', rt := Q } (start N vs) H) : FnOk P w K mg base CX0 (k + 1) f fd ps sp := by
  obtain ⟨oc, od, kV, doc, pm, an, cdv, ct, osl, rfl, lk, hcd⟩ := F.ex
  refine fn_of lk hcd S len fun A outer s H vs Q E hr hsp => ?_
  obtain ⟨t, h, q⟩ := hbody cdv A outer s H vs Q E hr hsp
  exact ⟨t, h.nox, q⟩
theorem Fun.binds {x qual : Str} {st : Stmt} {f : Addr} {fd : FuncData} {ps : List Str} (F : Fun K x qual st f fd)
    (h : ∀ (kV doc pm : Value) (an : Option Addr) (cdv ct : Value) (us : List Value), us.length = ps.length -> bindArgs (PySem.W.fnOf x qual (defArgs st) (defBody st) (defScope st) .none kV doc pm an cdv ct) ⟨us, []⟩ = pure (ps.zip us)) : Binds K fd ps [] := by
  obtain ⟨oc, od, kV, doc, pm, an, cdv, ct, osl, rfl, lk, hcd⟩ := F.ex
  exact .all (h kV doc pm an cdv ct)
theorem fun_mk {x qual : Str} {st : Stmt} {f : Addr} {oc : Value} {od an : Option Addr} {osl : Array (Option Value)} {kV doc pm cdv ct : Value} (l : K.lookup f = some ⟨oc, od, .func (PySem.W.fnOf x qual (defArgs st) (defBody st) (defScope st) .none kV doc pm an cdv ct), osl⟩)
    (c : PySem.W.codeIn K cdv qual = true) (k : PySem.W.keepIn K (.ref f) = true) : Fun K x qual st f (PySem.W.fnOf x qual (defArgs st) (defBody st) (defScope st) .none kV doc pm an cdv ct) := ⟨⟨oc, od, kV, doc, pm, an, cdv, ct, osl, rfl, l, c⟩, k⟩
end
theorem small1000 {n : Nat} (h : n <= 1000) : n < sizeLine := Nat.lt_of_le_of_lt h (by decide)
section
variable {X : Cx}
end
theorem ite2 {c A B : Prop} [Decidable c] (h1 : c -> A) (h2 : ¬ c -> B) : if c then A else B := by
  by_cases h : c
  . rw [if_pos h]
    exact h1 h
  . rw [if_neg h]
    exact h2 h
def Same (H H' : Hp) : Prop := ∀ b o, H b = some o -> H' b = some o
theorem Same.refl (H : Hp) : Same H H := fun _ _ h => h
theorem Same.trans {H H1 H2 : Hp} (a : Same H H1) (b : Same H1 H2) : Same H H2 := fun c o h => b c o (a c o h)
theorem Same.free {H H' : Hp} (e : Same H H') {l : Addr} (h : H' l = Option.none) : H l = Option.none := by
  cases q : H l with
  | none => rfl
  | some o =>
    rw [e l o q] at h
    cases h
theorem Same.seq {K : PySem.W.Frag} {H H' : Hp} {a : Addr} {xs : List V} (e : Same H H') (h : SqL K H a xs) : SqL K H' a xs := by
  rcases h with (h | ⟨o, h⟩) | h
  . exact .inl (.inl (e _ _ h))
  . exact .inl (.inr ⟨o, e _ _ h⟩)
  . exact .inr h
theorem cellsFrom_app : ∀ (names : List (Str × NameKind)) (n : Nat) (acc : List (Str × Addr)), cellsFrom n names acc = cellsFrom n names [] ++ acc
  | [], _, _ => rfl
  | (name, kind) :: r, n, acc => by
    unfold cellsFrom
    split
    . rw [cellsFrom_app r (n + 1) ((name, n) :: acc), cellsFrom_app r (n + 1) [(name, n)], List.append_assoc]; rfl
    . exact cellsFrom_app r n acc
theorem cellsFrom_kind : ∀ (names : List (Str × NameKind)) (n : Nat) (acc : List (Str × Addr)) (x : Str) (c : Addr), (x, c) ∈ cellsFrom n names acc -> (x, c) ∈ acc \/ (x, NameKind.cell) ∈ names
  | [], _, _, _, _, h => .inl h
  | (name, kind) :: r, n, acc, x, c, h => by
    unfold cellsFrom at h
    split at h
    . rename_i hk
      rcases cellsFrom_kind r _ _ x c h with h | h
      . rcases List.mem_cons.mp h with e | h
        . cases e
          have : kind = .cell := by simpa using hk
          subst this
          exact .inr List.mem_cons_self
        . exact .inl h
      . exact .inr (List.mem_cons_of_mem _ h)
    . rcases cellsFrom_kind r _ _ x c h with h | h
      . exact .inl h
      . exact .inr (List.mem_cons_of_mem _ h)
theorem lookup_app {α : Type} {x : Str} : ∀ (l r : List (Str × α)), (l ++ r).lookup x = (match l.lookup x with | some c => some c | none => r.lookup x)
  | [], r => rfl
  | (k, v) :: l, r => by
    show List.lookup x ((k, v) :: (l ++ r)) = _
    rw [List.lookup_cons, List.lookup_cons]
    cases x == k with
    | true => rfl
    | false => exact lookup_app l r
theorem lookup_none_of {α : Type} {x : Str} : ∀ {l : List (Str × α)}, (∀ c, (x, c) ∉ l) -> l.lookup x = none
  | [], _ => rfl
  | (k, v) :: l, h => by
    rw [List.lookup_cons]
    cases hb : x == k with
    | true =>
      have : x = k := by simpa using hb
      subst this
      exact absurd List.mem_cons_self (h v)
    | false => exact lookup_none_of fun c hc => h c (List.mem_cons_of_mem _ hc)
def clOf (cells : List (Str × Addr)) : List (Str × NameKind) -> List (Str × Addr) -> List (Str × Addr)
  | [], acc => acc
  | (n, k) :: r, acc => if k == .free then clOf cells r ((n, (cells.lookup n).getD 0) :: acc) else clOf cells r acc
theorem closureFor_eq {scope : Scope} {env : Env} (h : ∀ y ∈ scope.names, y.2 = .free -> ∃ c, env.cells.lookup y.1 = some c) : closureFor scope env = pure (clOf env.cells scope.names []) := by
  have all : ∀ (names : List (Str × NameKind)) (acc : List (Str × Addr)), (∀ y ∈ names, y.2 = .free -> ∃ c, env.cells.lookup y.1 = some c) ->
      (forIn names acc fun (x : Str × NameKind) cs => (if (x.2 == NameKind.free) = true then (do let a <- cellOf env x.1; pure (ForInStep.yield ((x.1, a) :: cs))) else pure (ForInStep.yield cs) : Sem (ForInStep (List (Str × Addr))))) = (pure (clOf env.cells names acc) : Sem _) := by
    intro names
    induction names with
    | nil => intro acc _; rfl
    | cons y r ih =>
      intro acc hy
      obtain ⟨n, k⟩ := y
      rw [List.forIn_cons]
      have hr : ∀ y ∈ r, y.2 = .free -> ∃ c, env.cells.lookup y.1 = some c := fun y hm => hy y (List.mem_cons_of_mem _ hm)
      unfold clOf
      by_cases hk : (k == NameKind.free) = true
      . obtain ⟨c, e⟩ := hy (n, k) List.mem_cons_self (by simpa using hk)
        rw [if_pos hk, if_pos hk]
        have e2 : cellOf env n = pure c := by unfold cellOf; rw [show env.cells.lookup n = some c from e]
        rw [e2]
        rw [show env.cells.lookup n = some c from e]
        exact ih _ hr
      . rw [if_neg hk, if_neg hk]
        exact ih _ hr
  have q := all scope.names [] h
  unfold closureFor
  refine Eq.trans ?_ (congrArg (fun t => t >>= pure) q |>.trans (by rfl))
  congr 1
theorem clOf_mem {cells : List (Str × Addr)} : ∀ (names : List (Str × NameKind)) (acc : List (Str × Addr)) (x : Str) (c : Addr), (∀ y ∈ names, y.2 = .free -> ∃ c, cells.lookup y.1 = some c) -> (x, c) ∈ clOf cells names acc -> (x, c) ∈ acc \/ ((x, NameKind.free) ∈ names /\ cells.lookup x = some c)
  | [], _, _, _, _, h => .inl h
  | (n, k) :: r, acc, x, c, hy, h => by
    have hr : ∀ y ∈ r, y.2 = .free -> ∃ c, cells.lookup y.1 = some c := fun y hm => hy y (List.mem_cons_of_mem _ hm)
    unfold clOf at h
    split at h
    . rename_i hk
      have hk' : k = .free := by simpa using hk
      subst hk'
      obtain ⟨d, e⟩ := hy (n, .free) List.mem_cons_self rfl
      rcases clOf_mem r _ x c hr h with h | ⟨h, h'⟩
      . rcases List.mem_cons.mp h with e' | h
        . obtain ⟨e1, e2⟩ := Prod.mk.inj e'
          rw [show cells.lookup n = some d from e] at e2
          subst e1
          exact .inr ⟨List.mem_cons_self, by rw [e2]; exact e⟩
        . exact .inl h
      . exact .inr ⟨List.mem_cons_of_mem _ h, h'⟩
    . rcases clOf_mem r _ x c hr h with h | ⟨h, h'⟩
      . exact .inl h
      . exact .inr ⟨List.mem_cons_of_mem _ h, h'⟩
theorem clOf_keep {cells : List (Str × Addr)} {x : Str} : ∀ (names : List (Str × NameKind)) (acc : List (Str × Addr)), (∃ c, (x, c) ∈ acc) -> ∃ c, (x, c) ∈ clOf cells names acc
  | [], _, h => h
  | (n, k) :: r, acc, ⟨c, h⟩ => by
    unfold clOf
    split
    . exact clOf_keep r _ ⟨c, List.mem_cons_of_mem _ h⟩
    . exact clOf_keep r _ ⟨c, h⟩
theorem clOf_has {cells : List (Str × Addr)} {x : Str} : ∀ (names : List (Str × NameKind)) (acc : List (Str × Addr)), (x, NameKind.free) ∈ names -> ∃ c, (x, c) ∈ clOf cells names acc
  | (n, k) :: r, acc, h => by
    unfold clOf
    rcases List.mem_cons.mp h with e | h
    . cases e
      rw [if_pos (by decide)]
      exact clOf_keep r _ ⟨_, List.mem_cons_self⟩
    . split
      . exact clOf_has r _ h
      . exact clOf_has r _ h
theorem lookup_of_mem {α : Type} {x : Str} : ∀ {l : List (Str × α)}, (∃ c, (x, c) ∈ l) -> ∃ c, l.lookup x = some c
  | (k, v) :: l, ⟨c, h⟩ => by
    rw [List.lookup_cons]
    cases hb : x == k with
    | true => exact ⟨v, rfl⟩
    | false =>
      rcases List.mem_cons.mp h with e | h
      . cases e; simp at hb
      . exact lookup_of_mem ⟨c, h⟩
def relS (scope sc : Scope) : Scope :=
  { scope with names := scope.names.map fun (n, k) => if (k == .free && sc.kind == .function && sc.names.lookup n == some .cell) then (n, .cell) else (n, k) }
structure CompScope (scope sc : Scope) : Prop where
  kind : scope.kind = .function
  nd : (scope.names.map (·.1)).Nodup
  fr : ∀ y ∈ scope.names, y.2 = .free -> sc.names.lookup y.1 = some .cell \/ sc.names.lookup y.1 = some .free
theorem lookup_nd {α : Type} : ∀ {l : List (Str × α)} {x : Str} {c : α}, (l.map (·.1)).Nodup -> (x, c) ∈ l -> l.lookup x = some c
  | (k, v) :: l, x, c, nd, h => by
    obtain ⟨n1, n2⟩ := List.nodup_cons.mp (show (k :: l.map (·.1)).Nodup from nd)
    rw [List.lookup_cons]
    rcases List.mem_cons.mp h with e | h
    . cases e; simp
    . have hne : ¬ x = k := fun e => n1 (by rw [<- e]; exact List.mem_map.mpr ⟨(x, c), h, rfl⟩)
      have : (x == k) = false := by simpa using hne
      rw [this]
      exact lookup_nd n2 h
theorem relS_lookup {scope sc : Scope} {x : Str} : (relS scope sc).names.lookup x = (scope.names.lookup x).map fun k => if (k == .free && sc.kind == .function && sc.names.lookup x == some .cell) then NameKind.cell else k := by
  show (scope.names.map _).lookup x = _
  generalize scope.names = names
  induction names with
  | nil => rfl
  | cons y r ih =>
    obtain ⟨n, k⟩ := y
    rw [List.map_cons]
    by_cases hc : (k == .free && sc.kind == .function && sc.names.lookup n == some .cell) = true
    . show List.lookup x ((if (k == .free && sc.kind == .function && sc.names.lookup n == some .cell) = true then (n, NameKind.cell) else (n, k)) :: _) = _
      rw [if_pos hc, List.lookup_cons, List.lookup_cons]
      cases hb : x == n with
      | true =>
        have hx : x = n := by simpa using hb
        subst hx
        show some NameKind.cell = some (if _ then _ else _)
        rw [if_pos hc]
      | false => exact ih
    . show List.lookup x ((if (k == .free && sc.kind == .function && sc.names.lookup n == some .cell) = true then (n, NameKind.cell) else (n, k)) :: _) = _
      rw [if_neg hc, List.lookup_cons, List.lookup_cons]
      cases hb : x == n with
      | true =>
        have hx : x = n := by simpa using hb
        subst hx
        show some k = some (if _ then _ else _)
        rw [if_neg hc]
      | false => exact ih
structure CArgs where
  pins : List (Addr × Obj)
  cells : List (Str × Addr)
  s : Shared
  H : Hp
  fp : List Addr
  C : Addr
def Cx.comp (X : Cx) (scope : Scope) (N' : List Str) (c : CArgs) : Cx where
  prog := X.prog
  w := X.w
  K := X.K
  mg := X.mg
  base := X.base
  A := X.A
  N := N'
  s₀ := c.s
  H₀ := c.H
  env := compEnvC scope c.cells c.C X.env
  outer := X.stack
  stack := X.stack
  ex := c.fp
  fn := fun x => scope.names.lookup x == some .cell
  calm := X.calm
  pn := X.pn ++ c.pins
  xe := fun _ _ => False
def cSt (own : Nat) (ix : List Nat) (σ : St) : St := List.replicate own none ++ ix.map fun i => (σ[i]?).join
section
variable {X : Cx} {pins : List (Addr × Obj)} {σ : St} {H : Hp} {s s4 : Shared} {fp : List Addr} {scope : Scope} {N' : List Str} {own : Nat} {ix : List Nat}
theorem comp_inv (I : Inv X pins σ H s) (f2 : ∀ b ∈ fp, FpOk X pins H b) (hob : ∀ b ∈ fp, ∃ o, s.heap.get? b = some o) (S : CompScope scope X.env.scope)
    (hlen : N'.length = own + ix.length) (hN : (N'.drop own).map some = ix.map (X.N[·]?)) (hfr : ∀ x ∈ N'.drop own, scope.names.lookup x = some .free)
    {C : Addr} (hC : s.heap.objs.size < C) (k4 : ∀ b o, s.heap.get? b = some o -> s4.heap.get? b = some o) (os4 : s4.os = s.os) (g4 : s4.gens = s.gens)
    (n4 : ∃ m, s4.heap.Ns C m) (own4 : ∀ x c, (x, c) ∈ cellsFrom (C + 1) scope.names [] -> s4.heap.IsCell c none /\ C + 1 <= c)
    (apart : (cellsFrom (C + 1) scope.names []).Pairwise fun x y => x.2 ≠ y.2) :
    Inv (X.comp scope N' ⟨pins, cellsFrom (C + 1) scope.names (clOf X.env.cells scope.names []), s, H, fp, C⟩) [] (cSt own ix σ) H s4 := by
  have hfree : ∀ y ∈ scope.names, y.2 = .free -> ∃ c, X.env.cells.lookup y.1 = some c := fun y hy h => I.ok.has y.1 (S.fr y hy h)
  -- a cell of the block
  have cases : ∀ x c, (cellsFrom (C + 1) scope.names (clOf X.env.cells scope.names [])).lookup x = some c ->
      ((x, c) ∈ cellsFrom (C + 1) scope.names [] /\ scope.names.lookup x = some .cell) \/ ((x, NameKind.free) ∈ scope.names /\ X.env.cells.lookup x = some c) := fun x c h => by
    rw [cellsFrom_app, lookup_app] at h
    cases e : (cellsFrom (C + 1) scope.names []).lookup x with
    | some d =>
      rw [e] at h
      cases h
      have m := mem_of_lookup e
      rcases cellsFrom_kind _ _ _ _ _ m with z | z
      . exact absurd z (by simp)
      . exact .inl ⟨m, lookup_nd S.nd z⟩
    | none =>
      rw [e] at h
      rcases clOf_mem _ _ _ _ hfree (mem_of_lookup h) with z | z
      . exact absurd z (by simp)
      . exact .inr z
  have oldlt : ∀ x c, X.env.cells.lookup x = some c -> c < s.heap.objs.size := fun x c e => let ⟨v, q⟩ := I.cell x c e; q.lt
  have kin : ∀ x, (relS scope X.env.scope).names.lookup x = some .cell \/ (relS scope X.env.scope).names.lookup x = some .free -> (scope.names.lookup x = some .cell \/ scope.names.lookup x = some .free) := fun x h => by
    rw [relS_lookup] at h
    cases e : scope.names.lookup x with
    | none => rw [e] at h; simp at h
    | some k =>
      rw [e] at h
      cases k with
      | cell => exact .inl rfl
      | free => exact .inr rfl
      | _ => exact absurd h (by simp)
  have hCn : ∀ b o, s.heap.get? b = some o -> b ≠ C := fun b o e z => by have := Heap.lt_size e; rw [z] at this; exact Nat.lt_irrefl _ (Nat.lt_trans this hC)
  have lk : ∀ x, (x, NameKind.free) ∈ scope.names -> ∀ c, X.env.cells.lookup x = some c -> (cellsFrom (C + 1) scope.names (clOf X.env.cells scope.names [])).lookup x = some c := fun x hx c hc => by
    have hl : scope.names.lookup x = some .free := lookup_nd S.nd hx
    rw [cellsFrom_app, lookup_app, lookup_none_of (l := cellsFrom (C + 1) scope.names []) fun d hd => ?_]
    . obtain ⟨d, hd⟩ := lookup_of_mem (clOf_has (cells := X.env.cells) scope.names [] hx)
      rcases clOf_mem _ _ _ _ hfree (mem_of_lookup hd) with z | ⟨_, z⟩
      . exact absurd z (by simp)
      . rw [hc] at z; cases z; exact hd
    . rcases cellsFrom_kind _ _ _ _ _ hd with z | z
      . exact absurd z (by simp)
      . rw [lookup_nd S.nd z] at hl; cases hl
  refine ⟨⟨I.ok.mod, S.kind, I.ok.glob, I.ok.blt, Nat.le_of_lt hC, fun x y c hx hy => ?_, fun x hx => ?_, fun x c hf hx => ?_, I.ok.hd, I.ok.frames, .inl rfl, fun b hb => ⟨?_, fun x c hx => ?_⟩, fun b o e => I.bs b o e, Nat.le_trans I.ok.bsz I.sz, fun b o e hb => ?_, fun b hb z => ?_, I.stack, I.stkFree⟩,
    os4, by rw [g4]; exact I.bare, Un.kept k4, ?_, fun x c hx => ?_, ?_, fun x c hx => ?_, fun p hp => ?_, I.hok.kept k4, ?_⟩
  . -- inj
    rcases cases x c hx with ⟨m1, _⟩ | ⟨_, m1⟩ <;> rcases cases y c hy with ⟨m2, _⟩ | ⟨_, m2⟩
    . exact name_of_addr apart m1 m2
    . exact absurd (Nat.lt_of_lt_of_le (Nat.lt_trans (oldlt y c m2) hC) (Nat.le_of_succ_le (own4 x c m1).2)) (Nat.lt_irrefl _)
    . exact absurd (Nat.lt_of_lt_of_le (Nat.lt_trans (oldlt x c m1) hC) (Nat.le_of_succ_le (own4 y c m2).2)) (Nat.lt_irrefl _)
    . exact I.ok.inj x y c m1 m2
  . -- has
    rcases kin x hx with h | h
    . have q := PySem.W.cellsFrom_some scope.names (C + 1) (clOf X.env.cells scope.names []) (.inl h)
      exact Option.isSome_iff_exists.mp q
    . obtain ⟨c, e⟩ := hfree (x, .free) (mem_of_lookup h) rfl
      exact ⟨c, lk x (mem_of_lookup h) c e⟩
  . -- cab
    rcases cases x c hx with ⟨m1, _⟩ | ⟨m1, _⟩
    . exact Nat.le_of_lt (Nat.lt_of_lt_of_le hC (Nat.le_of_succ_le (own4 x c m1).2))
    . have hl := lookup_nd S.nd m1
      have hf' : (scope.names.lookup x == some NameKind.cell) = true := hf
      rw [hl] at hf'; cases hf'
  . obtain ⟨o, e⟩ := hob b hb
    exact hCn b o e
  . intro z
    obtain ⟨o, e⟩ := hob b hb
    have hlt := Heap.lt_size e
    rcases cases x c hx with ⟨m1, _⟩ | ⟨_, m1⟩
    . subst z; exact absurd (Nat.lt_of_lt_of_le (Nat.lt_trans hlt hC) (Nat.le_of_succ_le (own4 x c m1).2)) (Nat.lt_irrefl _)
    . exact (f2 b hb).2.2.2.2.1 x c m1 z
  . -- noex
    have e1 := (I.ok.bs b o e).1
    rcases (f2 b hb).2.2.2.1 with z | z
    . exact I.ok.noex b o e z
    . exact absurd (Nat.lt_of_lt_of_le (Heap.lt_size e1) z) (Nat.lt_irrefl _)
  . -- exfs
    rcases List.mem_cons.mp (I.stkSub b z) with e | z
    . exact (f2 b hb).2.1 e
    . exact (f2 b hb).2.2.1 z
  . -- loc
    obtain ⟨m, hm⟩ := n4
    obtain ⟨m0, hn0, hl0⟩ := I.loc
    refine ⟨m, hm, fun i x v h1 h2 h3 => ?_⟩
    have h1 : N'[i]? = some x := h1
    unfold cSt at h2
    by_cases hi : i < own
    . rw [List.getElem?_append_left (by simpa using hi), List.getElem?_replicate] at h2
      split at h2 <;> cases h2
    . rw [List.getElem?_append_right (by simpa using hi), List.length_replicate, List.getElem?_map] at h2
      obtain ⟨j, hj⟩ : ∃ j, i = own + j := ⟨i - own, by omega⟩
      subst hj
      rw [Nat.add_sub_cancel_left] at h2
      cases e : ix[j]? with
      | none => rw [e] at h2; cases h2
      | some q =>
        rw [e] at h2
        have h2 : some (σ[q]?).join = some (some v) := h2
        have h2 : (σ[q]?).join = some v := Option.some.inj h2
        have hσ : σ[q]? = some (some v) := by
          cases eq : σ[q]? with
          | none => rw [eq] at h2; cases h2
          | some z => rw [eq] at h2; simp at h2; rw [h2]
        have hx : (N'.drop own)[j]? = some x := by rw [List.getElem?_drop]; exact h1
        have hNq : X.N[q]? = some x := by
          have := congrArg (·[j]?) hN
          simp only [List.getElem?_map, hx, e, Option.map_some] at this
          exact (Option.some.inj this).symm
        have hfx := hfr x (List.mem_of_getElem? hx)
        have hmem := mem_of_lookup hfx
        have kx := S.fr (x, .free) hmem rfl
        have vis : Vis X.env.scope x := .inr kx
        obtain ⟨u, r, l⟩ := hl0 q x v hNq hσ vis
        refine ⟨u, r, ?_⟩
        rcases l with ⟨k, _⟩ | ⟨k, c, hc, z⟩
        . exfalso
          have k' : X.env.scope.names.lookup x = some .local := k
          rcases kx with kx | kx
          . rw [show X.env.scope.names.lookup x = some .cell from kx] at k'; cases k'
          . rw [show X.env.scope.names.lookup x = some .free from kx] at k'; cases k'
        . refine .inr ⟨?_, c, lk x hmem c hc, z.keeps k4⟩
          show (relS scope X.env.scope).names.lookup x = some .cell \/ (relS scope X.env.scope).names.lookup x = some .free
          rw [relS_lookup, hfx]
          by_cases hc : (NameKind.free == .free && X.env.scope.kind == .function && X.env.scope.names.lookup x == some .cell) = true
          . exact .inl (by rw [Option.map_some, if_pos hc])
          . exact .inr (by rw [Option.map_some, if_neg hc])
  . rcases cases x c hx with ⟨m1, _⟩ | ⟨_, m1⟩
    . exact ⟨_, (own4 x c m1).1⟩
    . obtain ⟨v, q⟩ := I.cell x c m1
      exact ⟨v, q.keeps k4⟩
  . exact I.hok.fresh (Nat.le_of_lt hC)
  . rcases cases x c hx with ⟨m1, _⟩ | ⟨_, m1⟩
    . exact I.hok.fresh (Nat.le_of_lt (Nat.lt_of_lt_of_le hC (Nat.le_of_succ_le (own4 x c m1).2)))
    . exact I.freeC x c m1
  . have hp : p ∈ X.pn ++ pins := by
      have : p ∈ (X.pn ++ pins) ++ [] := hp
      rwa [List.append_nil] at this
    obtain ⟨e, n, ne, nf, d⟩ := I.pin p hp
    refine ⟨k4 _ _ e, n, hCn _ _ e, fun z => ?_, d⟩
    rcases List.mem_cons.mp (I.stkSub _ z) with q | q
    . exact ne q
    . exact nf q
  . unfold cSt
    rw [List.length_append, List.length_replicate, List.length_map]
    exact hlen.symm
end
section
variable {prog : Program} {w : World} {A : Around} {R : Result -> Shared -> Prop} {s : Shared}
theorem codeAny_compLoop_any {elt target iter : Expr} {ifs : List Expr} {scope : Scope} {pos : Pos} {it acc : Value} {env : Env} (I : Nat -> Shared -> Prop)
    (turn : ∀ n s, I n s -> wpAny (model prog w) A (pyNext it) (fun r s₁ => match r with
      | none => R (.ok .next) s₁
      | some v => wpAny (model prog w) A (letOwnedTupleGo target it v) (fun _ s₁' => wpAny (model prog w) A (assign target env v) (fun _ s₂ =>
          wpAny (model prog w) A (forIn ifs true fun c r => if r = true then do let ok <- isTrue c env (eval c env); pure (ForInStep.yield ok) else pure (ForInStep.yield r)) (fun ok s₃ =>
            if ok = true then wpAny (model prog w) A (eval elt env) (fun x s₄ =>
              wpAny (model prog w) A (call (.builtin "list.append") [acc, x]) (fun _ s₅ => ∃ m, m < n /\ I m s₅) (fun _ _ => False) s₄) (fun _ _ => False) s₃
            else ∃ m, m < n /\ I m s₃) (fun _ _ => False) s₂) (fun _ _ => False) s₁') (fun _ _ => False) s₁) (fun _ _ => False) s)
    (n : Nat) (h : I n s) :
    codeAny (model prog w) A (.compLoop (.ListComp elt [⟨target, iter, ifs, 0⟩] scope pos) 0 it acc env) R s := by
  refine codeAny_loop rfl I (fun n s hI => ?_) n h
  show wpAny _ A ((compTurn (.ListComp elt [⟨target, iter, ifs, 0⟩] scope pos) 0 it acc env).onRaise (fun x => do noteFrame x env; theTreesLotGoes x)) _ _ s
  refine wpAny_noted ?_
  rw [compTurn_list]
  refine wpAny_bind (wpAny_standAt (wpAny_bind (wpAny_mono (turn n s hI) (fun r s₁ h₁ => ?_) fun _ _ h' => h'.elim)))
  cases r with
  | none => exact wpAny_pure h₁
  | some v =>
    refine wpAny_bind (wpAny_mono h₁ (fun _ s₁' h₁' => ?_) fun _ _ h' => h'.elim)
    refine wpAny_bind (wpAny_mono h₁' (fun _ s₂ h₂ => wpAny_bind (wpAny_mono h₂ (fun ok s₃ h₃ => ?_) fun _ _ h' => h'.elim)) fun _ _ h' => h'.elim)
    cases ok with
    | false => exact wpAny_pure ⟨rfl, h₃⟩
    | true =>
      exact wpAny_bind (wpAny_bind (wpAny_mono h₃ (fun x s₄ h₄ => wpAny_bind (wpAny_mono h₄ (fun _ s₅ h₅ => wpAny_pure (wpAny_pure ⟨rfl, h₅⟩)) fun _ _ h' => h'.elim)) fun _ _ h' => h'.elim))
end
def PTs (X : Cx) (ifs : List Expr) (t : TT) : Prop :=
  ∀ (pins : List (Addr × Obj)) (s : Shared) (σ : St) (H : Hp) (Q : Bool -> Hp -> Prop), Inv X pins σ H s -> t σ H Q ->
    wpAny (model X.prog X.w) X.A (forIn ifs true fun c r => if r = true then do let ok <- isTrue c X.env (eval c X.env); pure (ForInStep.yield ok) else pure (ForInStep.yield r)) (TP X pins σ Q) X.xe s
def tTrue : TT := fun _ H Q => Q true H
theorem pts_nil {X : Cx} : PTs X [] tTrue := fun _ _ _ H _ I h => wpAny_tests_nil ⟨H, I, h⟩
theorem pts_one {X : Cx} {c : Expr} {t : TT} (h : PT X c t) : PTs X [c] t := fun pins s σ H Q I hq => wpAny_tests_one (h pins s σ H Q I hq)
def GOwn (own : Nat) (g : TG) : Prop := ∀ x σ H Q, g x σ H Q -> g x σ H fun σ' H' => (σ'.length = σ.length /\ ∀ i, own <= i -> σ'[i]? = σ[i]?) /\ Q σ' H'
def GsOwn (own : Nat) (g : TGs) : Prop := ∀ x σ H Q, g x σ H Q -> g x σ H fun σ' H' => (σ'.length = σ.length /\ ∀ i, own <= i -> σ'[i]? = σ[i]?) /\ Q σ' H'
theorem go_name {own i : Nat} (h : i < own) : GOwn own (gName i) := fun x σ H Q q =>
  ⟨⟨by simp, fun j hj => by rw [List.getElem?_set_ne (by omega)]⟩, q⟩
theorem gos_nil {own : Nat} : GsOwn own gNil := fun x σ H Q ⟨e, q⟩ => ⟨e, ⟨rfl, fun _ _ => rfl⟩, q⟩
def GMono (g : TG) : Prop := ∀ x σ H (Q Q' : St -> Hp -> Prop), (∀ σ H, Q σ H -> Q' σ H) -> g x σ H Q -> g x σ H Q'
def GsMono (g : TGs) : Prop := ∀ x σ H (Q Q' : St -> Hp -> Prop), (∀ σ H, Q σ H -> Q' σ H) -> g x σ H Q -> g x σ H Q'
theorem gm_name {i : Nat} : GMono (gName i) := fun _ _ _ _ _ h q => h _ _ q
theorem gms_nil : GsMono gNil := fun _ _ _ _ _ h ⟨e, q⟩ => ⟨e, h _ _ q⟩
theorem gms_cons {t : TG} {u : TGs} (h1 : GMono t) (h2 : GsMono u) : GsMono (gCons t u) := fun _ _ _ _ _ h ⟨v, r, e, q⟩ => ⟨v, r, e, h1 _ _ _ _ _ (fun _ _ q => h2 _ _ _ _ _ h q) q⟩
theorem gos_cons {own : Nat} {t : TG} {u : TGs} (m : GMono t) (mu : GsMono u) (h1 : GOwn own t) (h2 : GsOwn own u) : GsOwn own (gCons t u) := fun x σ H Q ⟨v, r, e, q⟩ =>
  ⟨v, r, e, m _ _ _ _ _ (fun σ' H' ⟨⟨e1, e2⟩, q⟩ => mu _ _ _ _ _ (fun σ'' H'' ⟨⟨e3, e4⟩, q⟩ => ⟨⟨e3.trans e1, fun i hi => (e4 i hi).trans (e2 i hi)⟩, q⟩) (h2 r σ' H' Q q)) (h1 v σ H _ q)⟩
theorem go_tup {own : Nat} {K : PySem.W.Frag} {n : Nat} {t : TGs} (h : GsOwn own t) : GOwn own (gTup K n t) := fun x σ H Q ⟨a, xs, e, s, l, q⟩ => ⟨a, xs, e, s, l, h _ _ _ _ q⟩
theorem cSt_own {own : Nat} {ix : List Nat} {σ : St} {i : Nat} {v : V} (h : (cSt own ix σ)[i]? = some (some v)) : own <= i := by
  unfold cSt at h
  by_cases hi : i < own
  . rw [List.getElem?_append_left (by simpa using hi), List.getElem?_replicate] at h
    split at h <;> cases h
  . omega
def CompTurns (J : It) (g : TG) (tc : TT) (te : TE) (σc : St) (Q : VK) (H1 : Hp) : Prop :=
  ∃ W : Nat -> Nat -> List V -> Hp -> Prop, (∃ m, W 0 m [] H1) /\ ∀ i m ys H, W i m ys H ->
    (J.stop i H /\ ∀ p, H p = none -> Q (.ref p) (upd H p (.lst ys))) \/
    (J.go i H /\ ys.length < sizeLine /\ ∃ N : List V -> Hp -> Prop, (∀ ys' H', N ys' H' -> ∃ m', m' < m /\ W (i + 1) m' ys' H') /\ ∀ x H', J.yld i H x H' -> g x σc H' fun σ4 H4 => tc σ4 H4 fun b H5 =>
      if b = true then te σ4 H5 fun y H6 => N (ys ++ [y]) H6 else N ys H5)
def tComp (wi : TI) (own : Nat) (ix : List Nat) (g : TG) (tc : TT) (te : TE) : TE := fun σ H Q => wi σ H fun J H1 => CompTurns J g tc te (cSt own ix σ) Q H1
section
variable {X : Cx} {pins : List (Addr × Obj)} {σ : St} {H : Hp} {s : Shared} {fp : List Addr} {it : Addr} {tn : Nat -> Heap -> Prop} {J : It} {tg iter elt : Expr} {ifs : List Expr} {scope : Scope} {pos : Pos} {N' : List Str} {own : Nat} {ix : List Nat} {g : TG} {tc : TT} {te : TE} {Q : VK} {E : Value -> Shared -> Prop}
theorem comp_block (I : Inv X pins σ H s) (T : Turn X.prog X.w X.K tg J fp it tn) (st : tn 0 s.heap) (f2 : ∀ b ∈ fp, FpOk X pins H b) (hc : X.calm = true) (S : CompScope scope X.env.scope)
    (hlen : N'.length = own + ix.length) (hN : (N'.drop own).map some = ix.map (X.N[·]?)) (hfr : ∀ x ∈ N'.drop own, scope.names.lookup x = some .free)
    (hg : ∀ c, PG (X.comp scope N' c) tg g) (hgo : GOwn own g) (ht : ∀ c, PTs (X.comp scope N' c) ifs tc) (he : ∀ c, PE (X.comp scope N' c) elt te)
    (hq : CompTurns J g tc te (cSt own ix σ) Q H) {RR : Value -> Addr -> Result -> Shared -> Prop}
    (fin : ∀ (D C : Addr) (s' : Shared) (H' : Hp) (ys : List V) (its : List Value) (n : Nat), s'.os = s.os -> AllBare s'.gens -> Un (frs X.stack) fp H H' s.heap s'.heap -> HOk X.prog X.w H' s'.heap -> (∃ m, s'.heap.Ns C m) -> H' C = none -> s.heap.objs.size <= C ->
      H' D = none -> s.heap.objs.size <= D -> D ≠ C -> s'.heap.get? D = some { cls := .type "list", data := .seq its.toArray n } -> Vals ys its -> ys.length <= sizeLine -> (∀ p, H' p = none -> Q (.ref p) (upd H' p (.lst ys))) -> RR (.ref D) C (.ok .next) s') :
    wpAny (model X.prog X.w) X.A (newList []) (fun acc s₃ => wpAny (model X.prog X.w) X.A (newFunctionEnv scope X.env.globals (clOf X.env.cells scope.names []) [] X.env.qual none .none (some X.env)) (fun cenv s₄ =>
      codeAny (model X.prog X.w) X.A (.compStart (.ListComp elt [⟨tg, iter, ifs, 0⟩] scope pos) 0 (.ref it) acc { cenv with scope := relabel scope X.env }) (RR acc cenv.locals) s₄) E s₃) E s := by
  obtain ⟨W, ⟨m0, w0⟩, turn⟩ := hq
  have hob : ∀ b ∈ fp, ∃ o, s.heap.get? b = some o := fun b hb => let ⟨o, e, _⟩ := T.obj 0 _ st b hb; ⟨o, e⟩
  refine wpAny_newObj_type ?_
  generalize hH1 : s.heap.push { cls := .type "list", dict := none, data := .seq ([] : List Value).toArray } = h1
  have hs1 : h1.objs.size = s.heap.objs.size + 1 := by rw [<- hH1, Heap.size_push]
  have k1 : ∀ b o, s.heap.get? b = some o -> h1.get? b = some o := fun b o e => by rw [<- hH1]; exact Heap.get?_push_of_some _ e
  have d1 : h1.get? s.heap.objs.size = some { cls := .type "list", data := .seq ([] : List Value).toArray } := by rw [<- hH1]; exact Heap.get?_push_size _ rfl
  simp only [newFunctionEnv, Option.isSome_some, if_true]
  refine wpAny_bind (wpAny_alloc ?_)
  generalize hH2 : (({ s with heap := h1 } : Shared).heap.push { cls := .type "dict", data := .dict #[] }) = h2
  have hH2' : h1.push { cls := .type "dict", data := .dict #[] } = h2 := hH2
  have hs2 : h2.objs.size = h1.objs.size + 1 := by rw [<- hH2', Heap.size_push]
  have k2 : ∀ b o, h1.get? b = some o -> h2.get? b = some o := fun b o e => by rw [<- hH2']; exact Heap.get?_push_of_some _ e
  have n2 : h2.Ns h1.objs.size (fun _ => none) := by rw [<- hH2']; exact Heap.Ns.new h1 (.type "dict")
  refine wpAny_bind (wpAny_layCells _ (fun name kind cells => by cases hkc : kind == NameKind.cell <;> simp [hkc]) _ _ _ _ ?_)
  have ok := cellsFrom_ok scope.names h2 (h1.objs.size + 1) [] ⟨fun _ _ hm => (nomatch hm), List.Pairwise.nil⟩ (by rw [hs2]; exact Nat.le_refl _)
  rw [hs2] at ok
  show wpAny _ _ (forIn ([] : List (Str × Value)) PUnit.unit _ >>= _) _ _ _
  rw [List.forIn_nil]
  refine wpAny_bind (wpAny_pure (wpAny_pure ?_))
  show codeAny _ _ (.compStart _ 0 (.ref it) (.ref s.heap.objs.size) (compEnvC scope (cellsFrom h2.objs.size scope.names (clOf X.env.cells scope.names [])) h1.objs.size X.env)) (RR (.ref s.heap.objs.size) h1.objs.size) { s with heap := pushCells h2 scope.names }
  rw [hs2]
  generalize hH3 : pushCells h2 scope.names = h3 at ok ⊢
  have k3 : ∀ b o, h2.get? b = some o -> h3.get? b = some o := fun b o e => by rw [<- hH3]; exact pushCells_keeps _ _ b o e
  have kk : ∀ b o, s.heap.get? b = some o -> h3.get? b = some o := fun b o e => k3 b o (k2 b o (k1 b o e))
  have d3 : h3.get? s.heap.objs.size = some { cls := .type "list", data := .seq ([] : List Value).toArray } := k3 _ _ (k2 _ _ d1)
  have hC : s.heap.objs.size < h1.objs.size := by rw [hs1]; exact Nat.lt_succ_self _
  have I3 : Inv (X.comp scope N' ⟨pins, cellsFrom (h1.objs.size + 1) scope.names (clOf X.env.cells scope.names []), s, H, fp, h1.objs.size⟩) [] (cSt own ix σ) H { s with heap := h3 } :=
    comp_inv (s4 := { s with heap := h3 }) I f2 hob S hlen hN hfr hC kk rfl rfl ⟨_, n2.keeps k3⟩ (fun x c hm => ok.empty x c hm) ok.apart
  generalize hcs : cellsFrom (h1.objs.size + 1) scope.names (clOf X.env.cells scope.names []) = cs at I3 ⊢
  generalize hCC : h1.objs.size = C at *
  generalize hDD : s.heap.objs.size = D at *
  have hY := I3.ok
  -- what is fixed of the records
  have sD : D ≠ C /\ (∀ x c, cs.lookup x = some c -> c ≠ D) /\ D ∉ frs X.stack /\ ∀ p ∈ X.pn ++ pins, p.1 ≠ D := by
    refine ⟨Nat.ne_of_lt hC, fun x c e z => ?_, fun z => ?_, fun p hp z => ?_⟩
    . subst z
      have e' := e
      rw [<- hcs, cellsFrom_app, lookup_app] at e'
      cases q : (cellsFrom (C + 1) scope.names []).lookup x with
      | some d =>
        rw [q] at e'; cases e'
        have := (ok.empty x c (mem_of_lookup q)).2
        exact absurd (Nat.lt_of_lt_of_le hC (Nat.le_of_succ_le this)) (Nat.lt_irrefl _)
      | none =>
        rw [q] at e'
        have hfree : ∀ y ∈ scope.names, y.2 = .free -> ∃ c, X.env.cells.lookup y.1 = some c := fun y hy h => I.ok.has y.1 (S.fr y hy h)
        rcases clOf_mem _ _ _ _ hfree (mem_of_lookup e') with z | ⟨_, z⟩
        . exact absurd z (by simp)
        . obtain ⟨v, q⟩ := I.cell x c z
          have := q.lt
          rw [hDD] at this
          exact Nat.lt_irrefl _ this
    . exact (I3.nofs (a := D) (by exact absurd z (by
        intro z'
        obtain ⟨_, o, ho, _⟩ := (show s.heap.FunFrames X.base X.stack from I.stack).mem z'
        have := Heap.lt_size ho
        rw [hDD] at this
        exact Nat.lt_irrefl _ this))) z
    . have := Heap.lt_size (I.pin p hp).1
      rw [z, hDD] at this
      exact Nat.lt_irrefl _ this
  have stat : ∀ {H' : Hp}, (∀ b ∈ fp, H' b = none) -> ∀ b ∈ fp, FpOk (X.comp scope N' ⟨pins, cs, s, H, fp, C⟩) [] H' b := fun {H'} hn b hb => by
    refine ⟨hn b hb, (hY.exf b hb).1, hY.exfs b hb, .inl hb, (hY.exf b hb).2, fun p hp => ?_⟩
    have hp : p ∈ (X.pn ++ pins) ++ [] := hp
    rw [List.append_nil] at hp
    exact (f2 b hb).2.2.2.2.2 p hp
  have statD : ∀ {H' : Hp}, H' D = none -> FpOk (X.comp scope N' ⟨pins, cs, s, H, fp, C⟩) [] H' D := fun {H'} hn => by
    refine ⟨hn, sD.1, sD.2.2.1, .inr (Nat.le_of_eq hDD), sD.2.1, fun p hp => ?_⟩
    have hp : p ∈ (X.pn ++ pins) ++ [] := hp
    rw [List.append_nil] at hp
    exact sD.2.2.2 p hp
  have loop : codeAny (model X.prog X.w) X.A (.compLoop (.ListComp elt [⟨tg, iter, ifs, 0⟩] scope pos) 0 (.ref it) (.ref D) (compEnvC scope cs C X.env)) (RR (.ref D) C) { s with heap := h3 } := by
    refine codeAny_compLoop_any (fun n s' => ∃ (i : Nat) (H' : Hp) (ys : List V) (its : List Value) (k : Nat), Inv (X.comp scope N' ⟨pins, cs, s, H, fp, C⟩) [] (cSt own ix σ) H' s' /\ tn i s'.heap /\ (∀ b ∈ fp, H' b = none) /\ H' D = none /\
      s'.heap.get? D = some { cls := .type "list", data := .seq its.toArray k } /\ Vals ys its /\ ys.length <= sizeLine /\ W i n ys H') ?_ m0
      ⟨0, H, [], [], 0, I3, T.keep _ _ _ st fun b _ o e => kk b o e, fun b hb => (f2 b hb).1, I.hok.fresh (Nat.le_of_eq hDD), d3, .nil, Nat.zero_le _, w0⟩
    rintro n s4 ⟨i, H4, ys, its, k, I4, st4, fr4, dn4, d4, rv4, z4, w4⟩
    rcases turn i n ys H4 w4 with ⟨stop, qn⟩ | ⟨go, zl, N, hN2, step⟩
    . have ID := I4.pinned (fp := [D]) (fun b hb => by rw [List.mem_singleton.mp hb]; exact statD dn4) (fun b hb => by rw [List.mem_singleton.mp hb]; exact ⟨_, d4, fun v z => nomatch z⟩)
      have nD : ∀ b ∈ fp, b ≠ D := fun b hb z => by
        obtain ⟨o, e⟩ := hob b hb
        have := Heap.lt_size e
        rw [z, hDD] at this
        exact Nat.lt_irrefl _ this
      have stat' : ∀ b ∈ fp, FpOk (X.comp scope N' ⟨pins, cs, s, H, fp, C⟩) ([] ++ pinsAt [D] s4.heap) H4 b := fun b hb => by
        obtain ⟨q1, q2, q3, q4, q5, q6⟩ := stat fr4 b hb
        refine ⟨q1, q2, q3, q4, q5, fun p hp => ?_⟩
        rcases List.mem_append.mp hp with z | z
        . exact q6 p (List.mem_append_left _ z)
        . have := (of_pinsAt (by simpa using z : p ∈ pinsAt [D] s4.heap)).1
          rw [List.mem_singleton.mp this]
          exact fun z => nD b hb z.symm
      refine thn (T.done (X.comp scope N' ⟨pins, cs, s, H, fp, C⟩) rfl rfl rfl hc i _ s4 _ H4 (fun _ _ => False) ID stat' st4 stop) fun r s5 ⟨hr, I5⟩ => ?_
      subst hr
      obtain ⟨m, hm, _⟩ := I5.loc
      refine fin D C s5 H4 ys its k I5.os I5.bare I5.base I5.hok ⟨m, hm⟩ I5.free (Nat.le_of_lt hC) dn4 (Nat.le_refl _) sD.1 ?_ rv4 z4 qn
      . exact (I5.pin (D, _) (List.mem_append_right _ (List.mem_append_right _ (mem_pinsAt (List.mem_singleton.mpr rfl) d4)))).1
    . have nD : ∀ b ∈ fp, b ≠ D := fun b hb z => by
        obtain ⟨o, e⟩ := hob b hb
        have := Heap.lt_size e
        rw [z, hDD] at this
        exact Nat.lt_irrefl _ this
      have ID := I4.pinned (fp := [D]) (fun b hb => by rw [List.mem_singleton.mp hb]; exact statD dn4) (fun b hb => by rw [List.mem_singleton.mp hb]; exact ⟨_, d4, fun v z => nomatch z⟩)
      have statP : ∀ {H' : Hp}, (∀ b ∈ fp, H' b = none) -> ∀ b ∈ fp, FpOk (X.comp scope N' ⟨pins, cs, s, H, fp, C⟩) ([] ++ pinsAt [D] s4.heap) H' b := fun {H'} hn b hb => by
        obtain ⟨q1, q2, q3, q4, q5, q6⟩ := stat hn b hb
        refine ⟨q1, q2, q3, q4, q5, fun p hp => ?_⟩
        rcases List.mem_append.mp hp with z | z
        . exact q6 p (List.mem_append_left _ z)
        . have := (of_pinsAt (by simpa using z : p ∈ pinsAt [D] s4.heap)).1
          rw [List.mem_singleton.mp this]
          exact fun z => nD b hb z.symm
      refine thn (T.item (X.comp scope N' ⟨pins, cs, s, H, fp, C⟩) rfl rfl rfl hc i _ s4 _ H4 (fun _ _ => False) ID (statP fr4) st4 go) fun r s5 ⟨u, hr, h5⟩ => ?_
      subst hr
      refine thn h5 fun _ s6 ⟨x, H6, I6, r6, y6, st6, fr6⟩ => ?_
      have I6' := I6.pinned (statP fr6) (T.obj _ _ st6)
      refine thn (hg _ _ s6 _ H6 x u _ I6' r6 (hgo _ _ _ _ (step x H6 y6))) fun _ s7 ⟨σ7, H7, I7, ⟨e7, k7⟩, q7⟩ => ?_
      have I7' : Inv (X.comp scope N' ⟨pins, cs, s, H, fp, C⟩) ([] ++ pinsAt [D] s4.heap ++ pinsAt fp s6.heap) σ7 H7 s7 := I7
      refine thn (ht _ _ s7 σ7 H7 _ I7' q7) fun b s8 ⟨H8, I8, q8⟩ => ?_
      -- what is kept through the turn
      have back : ∀ {s9 : Shared} {H9 : Hp}, Inv (X.comp scope N' ⟨pins, cs, s, H, fp, C⟩) ([] ++ pinsAt [D] s4.heap ++ pinsAt fp s6.heap) σ7 H9 s9 ->
          Inv (X.comp scope N' ⟨pins, cs, s, H, fp, C⟩) [] (cSt own ix σ) H9 s9 /\ tn (i + 1) s9.heap /\ (∀ b ∈ fp, H9 b = none) /\ H9 D = none /\ s9.heap.get? D = some { cls := .type "list", data := .seq its.toArray k } := fun {s9 H9} I9 => by
        have pD := I9.pin (D, _) (List.mem_append_right _ (List.mem_append_left _ (List.mem_append_right _ (mem_pinsAt (List.mem_singleton.mpr rfl) d4))))
        refine ⟨I9.unpinned.unpinned.weak (by rw [e7]) fun j v hj => ?_, T.keep _ _ _ st6 fun b hb o e => (I9.pin (b, o) (List.mem_append_right _ (List.mem_append_right _ (mem_pinsAt hb e)))).1, fun b hb => ?_, pD.2.1, pD.1⟩
        . rw [k7 j (cSt_own hj)]; exact hj
        . obtain ⟨o, e, _⟩ := T.obj _ _ st6 b hb
          exact (I9.pin (b, o) (List.mem_append_right _ (List.mem_append_right _ (mem_pinsAt hb e)))).2.1
      cases b with
      | false =>
        rw [if_neg Bool.false_ne_true] at q8
        obtain ⟨m', hm, w8⟩ := hN2 _ _ q8
        obtain ⟨b1, b2, b3, b4, b5⟩ := back I8
        exact ⟨m', hm, i + 1, H8, ys, its, k, b1, b2, b3, b4, b5, rv4, z4, w8⟩
      | true =>
        rw [if_pos rfl] at q8
        rw [if_pos rfl]
        refine thn (he _ _ s8 σ7 H8 _ I8 q8) fun yv s9 ⟨y, H9, I9, r9, q9⟩ => ?_
        obtain ⟨m', hm, w9⟩ := hN2 _ _ q9
        obtain ⟨b1, b2, b3, b4, b5⟩ := back I9
        have hl := rv4.length
        refine call_meets F.slot_list_append ⟨_, b5, rfl⟩ F.entry_list_append (F.args_list_append_2 _ _) (PySem.list_append D its.toArray k yv (by rw [List.size_toArray]; omega)) ⟨b5, ?_⟩
        have up := PySem.IsL.update b5 (fun a => a.push yv)
        have keep : ∀ b o, b ≠ D -> s9.heap.get? b = some o -> (s9.heap.update D (Obj.mapSeq fun a => a.push yv)).get? b = some o := fun b o hb q => (Heap.get?_update_other _ _ (Ne.symm hb)).trans q
        obtain ⟨f0, f1, f2', f3, f4, f5⟩ := statD b4
        refine ⟨m', hm, i + 1, H9, ys ++ [y], its ++ [yv], (if ((its.toArray.push yv).size == its.toArray.size) = true then k else k + 1), b1.turned (t' := s9.toks) keep b4 f1 f3 f4 f5, ?_, b3, b4, ?_, rv4.append (.cons r9 .nil), ?_, w9⟩
        . exact T.keep _ _ _ b2 fun b hb o e => keep b o (nD b hb) e
        . have e2 : (its.toArray.push yv) = (its ++ [yv]).toArray := by simp
          rw [<- e2]
          exact up
        . rw [List.length_append, List.length_singleton]
          omega
  exact codeAny_compStart_list loop (T.self X.A 0 _ _ _ (T.keep _ _ _ st fun b _ o e => kk b o e) loop)
end
section
variable {X : Cx} {pins : List (Addr × Obj)} {σ : St} {H : Hp} {s : Shared} {fp : List Addr} {it : Addr} {tn : Nat -> Heap -> Prop} {J : It} {tg iter elt : Expr} {ifs : List Expr} {scope : Scope} {pos : Pos} {N' : List Str} {own : Nat} {ix : List Nat} {g : TG} {tc : TT} {te : TE} {wi : TI} {E : Value -> Shared -> Prop}
theorem comp_adopt {H' : Hp} {s' : Shared} {D : Addr} {ys : List V} {its : List Value} {n : Nat} (I : Inv X pins σ H s) (f2 : ∀ b ∈ fp, FpOk X pins H b) (ho : s'.os = s.os) (hg : AllBare s'.gens) (u : Un (frs X.stack) fp H H' s.heap s'.heap) (hok : HOk X.prog X.w H' s'.heap)
    (dn : H' D = none) (ds : s.heap.objs.size <= D) (d : s'.heap.get? D = some { cls := .type "list", data := .seq its.toArray n }) (rv : Vals ys its) (z : ys.length <= sizeLine) : Inv X pins σ (upd H' D (.lst ys)) s' := by
  have nD : ∀ b o, s.heap.get? b = some o -> b ≠ D := fun b o e q => by rw [q, Heap.get?_none_of_le ds] at e; cases e
  have nH : ∀ b o, H' b = some o -> b ≠ D := fun b o e q => by rw [q, dn] at e; cases e
  refine I.call' (ch := fp) ho ⟨u.keep, u.slot, fun b o e q hx => ?_, u.there, fun b xs e => ?_, fun b o v e => ?_, fun b ps e => ?_⟩ (fun b o e => ?_) hg fun b hb => ?_
  . rw [upd_ne (nD b o e)]; exact u.free b o e q hx
  . have := u.tups b xs e
    rw [upd_ne (nH _ _ this)]; exact this
  . have := u.frzs b o v e
    rw [upd_ne (nH _ _ this)]; exact this
  . obtain ⟨more, q⟩ := u.tbls b ps e
    exact ⟨more, by rw [upd_ne (nH _ _ q)]; exact q⟩
  . by_cases hb : b = D
    . subst hb
      rw [upd_same] at e
      cases e
      exact ⟨z, its, n, rv, d⟩
    . rw [upd_ne hb] at e
      exact (hok b o e).stay (fun _ _ _ q => q) (fun c q => by rw [upd_ne (nH _ _ q)]; exact q) fun c xs q => by rw [upd_ne (nH _ _ q)]; exact q
  . obtain ⟨q1, q2, q3, q4, q5, q6⟩ := f2 b hb
    exact ⟨q4, q2, q5, q6⟩
theorem Inv.dictGone {s' : Shared} {h' : Heap} {C : Addr} {H' : Hp} {σ' : St} (I : Inv X pins σ H s) (J : Inv X pins σ' H' s') (hC : s.heap.objs.size <= C) (hn : H' C = none) (k : Heap.SameBut C s'.heap h') : Inv X pins σ' H' { s' with heap := h' } := by
  have hC0 := Heap.get?_none_of_le hC
  refine J.turned (t' := s'.toks) (fun b o hb e => (k.2 b hb).trans e) hn (fun z => ?_) (.inr (Nat.le_trans I.sz hC)) (fun x c e z => ?_) fun p hp z => ?_
  . obtain ⟨m, ⟨o, _, _, ho, _⟩, _⟩ := I.loc
    rw [<- z, hC0] at ho; cases ho
  . obtain ⟨v, o, ho, _⟩ := I.cell x c e
    rw [z, hC0] at ho; cases ho
  . have := (I.pin p hp).1
    rw [z, hC0] at this; cases this
theorem pe_comp (hc : X.calm = true) (hi : PI X tg iter wi) (S : CompScope scope X.env.scope)
    (hlen : N'.length = own + ix.length) (hN : (N'.drop own).map some = ix.map (X.N[·]?)) (hfr : ∀ x ∈ N'.drop own, scope.names.lookup x = some .free)
    (hg : ∀ c, PG (X.comp scope N' c) tg g) (hgo : GOwn own g) (ht : ∀ c, PTs (X.comp scope N' c) ifs tc) (he : ∀ c, PE (X.comp scope N' c) elt te)
    (hs : ∀ x, foldedSetIterable iter X.env x = pure x := by intro _; rfl) : PE X (.ListComp elt [⟨tg, iter, ifs, 0⟩] scope pos) (tComp wi own ix g tc te) := by
  intro pins s σ H Q I h
  rw [eval_ListComp]
  have hfree : ∀ y ∈ scope.names, y.2 = .free -> ∃ c, X.env.cells.lookup y.1 = some c := fun y hy h => I.ok.has y.1 (S.fr y hy h)
  refine wpAny_comprehension_free (use := none) rfl hs (closureFor_eq hfree) S.kind (fun y hy hl => lookup_nd S.nd (by rw [<- hl]; exact hy)) ?_
  refine thn (hi pins s σ H _ I h) fun v s1 h1 => thn h1 fun itv s2 h2 => ?_
  obtain ⟨it, fp, tn, J, H2, e, I2, T, st2, f2, q2⟩ := h2
  subst e
  refine comp_block (RR := fun acc C => compPost (model X.prog X.w) X.A X.xe none (EP X pins σ Q) acc C) I2 T st2 f2 hc S hlen hN hfr hg hgo ht he q2 ?_
  intro D C s' H' ys its n ho hgn u hok hm hC hCs hD hDs hDC d rv z q
  obtain ⟨m, hm⟩ := hm
  have I3 := comp_adopt I2 f2 ho hgn u hok hD hDs d rv z
  refine ⟨m, hm, fun h' hs' => ?_⟩
  exact ⟨.ref D, _, I2.dictGone I3 hCs (by rw [upd_ne (Ne.symm hDC)]; exact hC) hs', rfl, q D hD⟩
theorem ps_comp {i : Nat} {y : Str} {py spos : Pos} (hc : X.calm = true) (hnd : X.N.Nodup) (hiy : X.N[i]? = some y) (hy : X.env.scope.names.lookup y = some .local) (hi : PI X tg iter wi) (S : CompScope scope X.env.scope)
    (hlen : N'.length = own + ix.length) (hN : (N'.drop own).map some = ix.map (X.N[·]?)) (hfr : ∀ x ∈ N'.drop own, scope.names.lookup x = some .free)
    (hg : ∀ c, PG (X.comp scope N' c) tg g) (hgo : GOwn own g) (ht : ∀ c, PTs (X.comp scope N' c) ifs tc) (he : ∀ c, PE (X.comp scope N' c) elt te)
    (hsw : swapsWith (.ListComp elt [⟨tg, iter, ifs, 0⟩] scope pos) (some (.Name y py)) spos.line X.env = pure true)
    (hs : ∀ x, foldedSetIterable iter X.env x = pure x := by intro _; rfl) : PS X (.Assign [.Name y py] (.ListComp elt [⟨tg, iter, ifs, 0⟩] scope pos) spos) (tAsg (tComp wi own ix g tc te) (gName i)) := by
  intro pins s σ H D I h
  rw [exec_Assign_Name_used _ _ _ _ hsw]
  refine wpAny_bind (wpAny_standAt (wpAny_bind ?_))
  show wpAny _ _ (do let _ <- comprehension (.ListComp elt [⟨tg, iter, ifs, 0⟩] scope pos) scope X.env _ (newList []) false (eval iter X.env) (some (assign (.Name y py) X.env))) _ _ s
  have hfree : ∀ y ∈ scope.names, y.2 = .free -> ∃ c, X.env.cells.lookup y.1 = some c := fun y hy h => I.ok.has y.1 (S.fr y hy h)
  refine wpAny_bind (wpAny_mono (wpAny_comprehension_free (use := some (assign (.Name y py) X.env)) (Q := fun _ s' => SP X pins D .next s') rfl hs (closureFor_eq hfree) S.kind (fun y hy hl => lookup_nd S.nd (by rw [<- hl]; exact hy)) ?_) (fun _ s' hq => wpAny_pure (wpAny_pure hq)) fun _ _ e => e)
  refine thn (hi pins s σ H _ I h) fun v s1 h1 => thn h1 fun itv s2 h2 => ?_
  obtain ⟨it, fp, tn, J, H2, e, I2, T, st2, f2, q2⟩ := h2
  subst e
  refine comp_block (RR := fun acc C => compPost (model X.prog X.w) X.A X.xe (some (assign (.Name y py) X.env)) (fun _ s' => SP X pins D .next s') acc C) I2 T st2 f2 hc S hlen hN hfr hg hgo ht he q2 ?_
  intro d C s' H' ys its n ho hgn u hok hm hC hCs hD hDs hDC hd rv z q
  obtain ⟨m, hm⟩ := hm
  have I3 := comp_adopt I2 f2 ho hgn u hok hD hDs hd rv z
  show wpAny _ _ (assign (.Name y py) X.env (.ref d)) _ _ s'
  have hCn : (upd H' d (.lst ys)) C = none := by rw [upd_ne (Ne.symm hDC)]; exact hC
  refine wpAny_assign_Name (store_ok2 I3 hnd hiy (.inl hy) (v := .ref d) rfl (fun s3 I4 ⟨a, sb, ha⟩ => ?_) (.inr hy))
  have ha' : a ≠ C := fun e => by
    have hC0 := Heap.get?_none_of_le hCs
    rcases ha with z | z
    . obtain ⟨m, ⟨o, _, _, ho, _⟩, _⟩ := I2.loc
      rw [<- z, e, hC0] at ho; cases ho
    . obtain ⟨v, o, ho, _⟩ := I2.cell y a z
      rw [e, hC0] at ho; cases ho
  refine ⟨m, hm.sameBut sb (Ne.symm ha'), fun h' hs' => ?_⟩
  exact ⟨_, _, I2.dictGone I4 hCs hCn hs', q d hD⟩
end
section
variable {X : Cx}
theorem PE.imp {e : Expr} {t t' : TE} (h : PE X e t) (f : ∀ σ H Q, t' σ H Q -> t σ H Q) : PE X e t' := fun pins s σ H Q I q => h pins s σ H Q I (f σ H Q q)
theorem OpR.imp {f : Value -> Value -> Sem Value} {r r' : R2} (h : OpR X f r) (g : ∀ x y H Q, r' x y H Q -> r x y H Q) : OpR X f r' := fun pins s σ H x y v u Q I rx ry q => h pins s σ H x y v u Q I rx ry (g _ _ _ _ q)
theorem CallR.imp {f : Value} {r r' : List V -> Hp -> VK -> Prop} (h : CallR X f r) (g : ∀ x H Q, r' x H Q -> r x H Q) : CallR X f r' := fun pins s σ H xs us Q I r q => h pins s σ H xs us Q I r (g _ _ _ q)
def vVar (i : Nat) : TE := fun σ H Q => match σ[i]? with
  | some (some v) => Q v H
  | _ => False
theorem vv (i : Nat) {x : Str} {pos : Pos} (hN : X.N[i]? = some x := by rfl) (hv : Vis X.env.scope x := by first | exact Or.inl rfl | exact Or.inr (Or.inl rfl) | exact Or.inr (Or.inr rfl)) (hd : (x == ("__debug__" : Str)) = false := by decide)
    (hcd : (x == ("__classdict__" : Str)) = false := by decide) : PE X (.Name x pos) (vVar i) := (pe_var hN hv hd hcd).imp fun σ H Q q => by
  unfold vVar at q
  split at q
  . rename_i v e; exact ⟨v, e, q⟩
  . exact q.elim
def okMul (i j : Int) : Prop := (i.natAbs < 2 ^ 4096 /\ j.natAbs < 2 ^ 4096) \/ (-(2 ^ 64) < i /\ i < 2 ^ 64) \/ (-(2 ^ 64) < j /\ j < 2 ^ 64)
theorem bits_of {i : Int} (h : i.natAbs < 2 ^ 4096) : Builtin.Int.intBits i <= 2 ^ 20 := by
  unfold Builtin.Int.intBits
  split
  . exact Nat.zero_le _
  . rename_i hz
    have hne : i.natAbs ≠ 0 := by
      have : ¬ i = 0 := by simpa using hz
      omega
    have := (Nat.log2_lt hne).mpr h
    have e : (2 : Nat) ^ 20 = 1048576 := by decide
    omega
theorem okMul.ok {i j : Int} (h : okMul i j) : IntMulOk i j := by
  rcases h with ⟨h1, h2⟩ | h | h
  . exact .of_bits (bits_of h1) (bits_of h2)
  . exact CMul.ok (.inl h)
  . exact CMul.ok (.inr h)
def okDiv (j : Int) : Prop := 0 < j /\ j < 2 ^ 4096
theorem okDiv.ok {i j : Int} (h : okDiv j) : Builtin.divisionGoesByPylong i j = false := by
  refine PyProof.noPylong_of_log2 ?_
  obtain ⟨h1, h2⟩ := h
  have hne : j.natAbs ≠ 0 := by omega
  have h3 : j.natAbs < 2 ^ 4096 := by
    have e : ((j.natAbs : Int)) = j := by omega
    have h2' : ((j.natAbs : Nat) : Int) < ((2 ^ 4096 : Nat) : Int) := by rw [e, Int.natCast_pow]; exact h2
    exact Int.ofNat_lt.mp h2'
  have := (Nat.log2_lt hne).mpr h3
  omega
def mAdd (K : PySem.W.Frag) : R2 := fun x y H Q => match x, y with
  | .int i, .int j => Q (.int (i + j)) H
  | .str a, .str b => a.length + b.length <= sizeLine /\ Q (.str (a ++ b)) H
  | .ref a, .ref b => rCat (.ref a) (.ref b) H Q \/ rCatT K (.ref a) (.ref b) H Q
  | _, _ => False
theorem om_add : OpR X (binaryOp .Add) (mAdd X.K) := by
  intro pins s σ H x y v u Q I rx ry q
  cases x <;> cases y <;> first
    | exact False.elim q
    | exact op_add pins s σ H _ _ v u Q I rx ry ⟨_, _, rfl, rfl, q⟩
    | exact op_add_str pins s σ H _ _ v u Q I rx ry ⟨_, _, rfl, rfl, q.1, q.2⟩
    | (rcases q with q | q
       . exact op_cat pins s σ H _ _ v u Q I rx ry q
       . exact op_catT pins s σ H _ _ v u Q I rx ry q)
def mSub : R2 := fun x y H Q => match x, y with
  | .int i, .int j => Q (.int (i - j)) H
  | _, _ => False
theorem om_sub : OpR X (binaryOp .Sub) mSub := by
  intro pins s σ H x y v u Q I rx ry q
  cases x <;> cases y <;> first
    | exact False.elim q
    | exact op_sub pins s σ H _ _ v u Q I rx ry ⟨_, _, rfl, rfl, q⟩
def mMul : R2 := fun x y H Q => match x, y with
  | .int i, .int j => okMul i j /\ Q (.int (i * j)) H
  | .ref a, .int k => rRep (.ref a) (.int k) H Q
  | _, _ => False
theorem om_mul : OpR X (binaryOp .Mult) mMul := by
  have hI : OpR X (binaryOp .Mult) (rI okMul fun i j => .int (i * j)) := opI fun _ _ _ _ _ _ _ hc q => mul_int q hc.ok
  intro pins s σ H x y v u Q I rx ry q
  cases x <;> cases y <;> first
    | exact False.elim q
    | exact hI pins s σ H _ _ v u Q I rx ry ⟨_, _, rfl, rfl, q.1, q.2⟩
    | exact op_rep pins s σ H _ _ v u Q I rx ry q
def mDiv : R2 := fun x y H Q => match x, y with
  | .int i, .int j => okDiv j /\ Q (.int (i / j)) H
  | _, _ => False
theorem om_div : OpR X (binaryOp .FloorDiv) mDiv := by
  have hI : OpR X (binaryOp .FloorDiv) (rI (fun _ j => okDiv j) fun i j => .int (i / j)) := opI fun i j _ _ _ _ _ hc q => by
    refine floordiv_int (by have := hc.1; omega) ?_ (.inl hc.ok)
    rw [Int.fdiv_eq_ediv_of_nonneg i (by have := hc.1; omega)]
    exact q
  intro pins s σ H x y v u Q I rx ry q
  cases x <;> cases y <;> first
    | exact False.elim q
    | exact hI pins s σ H _ _ v u Q I rx ry ⟨_, _, rfl, rfl, q.1, q.2⟩
def mMod : R2 := fun x y H Q => match x, y with
  | .int i, .int j => 0 < j /\ Q (.int (i % j)) H
  | _, _ => False
theorem om_mod : OpR X (binaryOp .Mod) mMod := by
  intro pins s σ H x y v u Q I rx ry q
  cases x <;> cases y <;> first
    | exact False.elim q
    | exact op_mod pins s σ H _ _ v u Q I rx ry ⟨_, _, rfl, rfl, q.1, q.2⟩
def mPow : R2 := fun x y H Q => match x, y with
  | .int i, .int j => CPow i j /\ Q (.int (i ^ j.toNat)) H
  | _, _ => False
theorem om_pow : OpR X (binaryOp .Pow) mPow := by
  intro pins s σ H x y v u Q I rx ry q
  cases x <;> cases y <;> first
    | exact False.elim q
    | exact op_pow pins s σ H _ _ v u Q I rx ry ⟨_, _, rfl, rfl, q.1, q.2⟩
def mBit (f : Int -> Int -> Int) : R2 := fun x y H Q => match x, y with
  | .int i, .int j => Q (.int (f i j)) H
  | _, _ => False
theorem om_and : OpR X (binaryOp .BitAnd) (mBit Builtin.bitAnd) := by
  intro pins s σ H x y v u Q I rx ry q
  cases x <;> cases y <;> first
    | exact False.elim q
    | exact op_and pins s σ H _ _ v u Q I rx ry ⟨_, _, rfl, rfl, q⟩
def mShr : R2 := fun x y H Q => match x, y with
  | .int i, .int j => 0 <= j /\ Q (.int (i / 2 ^ j.toNat)) H
  | _, _ => False
theorem om_shr : OpR X (binaryOp .RShift) mShr := by
  intro pins s σ H x y v u Q I rx ry q
  cases x <;> cases y <;> first
    | exact False.elim q
    | exact op_shr pins s σ H _ _ v u Q I rx ry ⟨_, _, rfl, rfl, q.1, q.2⟩
def mShl : R2 := fun x y H Q => match x, y with
  | .int i, .int j => CPow i j /\ Q (.int (i * 2 ^ j.toNat)) H
  | _, _ => False
theorem om_shl : OpR X (binaryOp .LShift) mShl := by
  intro pins s σ H x y v u Q I rx ry q
  cases x <;> cases y <;> first
    | exact False.elim q
    | exact op_shl pins s σ H _ _ v u Q I rx ry ⟨_, _, rfl, rfl, q.1, q.2⟩
def mNeg : V -> Hp -> VK -> Prop := fun x H Q => match x with
  | .int i => Q (.int (-i)) H
  | _ => False
theorem um_neg : UnR X (unaryOp .USub) mNeg := by
  intro pins s σ H x v Q I rx q
  cases x <;> first
    | exact False.elim q
    | exact un_neg pins s σ H _ v Q I rx ⟨_, rfl, q⟩
def mCmp (p : Int -> Int -> Bool) : R2 := fun x y H Q => match x, y with
  | .int i, .int j => Q (.bl (p i j)) H
  | _, _ => False
theorem om_lt : OpR X (compareOp .Lt) (mCmp fun i j => decide (i < j)) := by
  intro pins s σ H x y v u Q I rx ry q
  cases x <;> cases y <;> first
    | exact False.elim q
    | exact op_lt pins s σ H _ _ v u Q I rx ry ⟨_, _, rfl, rfl, q⟩
theorem om_le : OpR X (compareOp .LtE) (mCmp fun i j => decide (i <= j)) := by
  intro pins s σ H x y v u Q I rx ry q
  cases x <;> cases y <;> first
    | exact False.elim q
    | exact op_le pins s σ H _ _ v u Q I rx ry ⟨_, _, rfl, rfl, q⟩
theorem om_gt : OpR X (compareOp .Gt) (mCmp fun i j => decide (j < i)) := by
  intro pins s σ H x y v u Q I rx ry q
  cases x <;> cases y <;> first
    | exact False.elim q
    | exact op_gt pins s σ H _ _ v u Q I rx ry ⟨_, _, rfl, rfl, q⟩
end
inductive Dv where
  | non | bl (b : Bool) | int (i : Int) | str (x : Str) | tup (ds : List Dv) | lst (ds : List Dv)
mutual
def Rep (K : PySem.W.Frag) (H : Hp) : Dv -> V -> Prop
  | .non, v => v = .non
  | .bl b, v => v = .bl b
  | .int i, v => v = .int i
  | .str x, v => v = .str x
  | .tup ds, v => ∃ a xs, v = .ref a /\ SqT K H a xs /\ Reps K H ds xs
  | .lst ds, v => ∃ a xs, v = .ref a /\ SqL K H a xs /\ Reps K H ds xs
def Reps (K : PySem.W.Frag) (H : Hp) : List Dv -> List V -> Prop
  | [], xs => xs = []
  | d :: ds, xs => ∃ x r, xs = x :: r /\ Rep K H d x /\ Reps K H ds r
end
mutual
def eqD : Dv -> Dv -> Bool
  | .non, .non => true
  | .bl a, .bl b => a == b
  | .bl a, .int b => (if a then 1 else 0) == b
  | .int a, .bl b => a == (if b then 1 else 0)
  | .int a, .int b => a == b
  | .str a, .str b => a == b
  | .tup ds, .tup es => eqDs ds es
  | .lst ds, .lst es => eqDs ds es
  | _, _ => false
def eqDs : List Dv -> List Dv -> Bool
  | [], [] => true
  | d :: ds, e :: es => eqD d e && eqDs ds es
  | _, _ => false
end
mutual
def depD : Dv -> Nat
  | .tup ds => depDs ds + 1
  | .lst ds => depDs ds + 1
  | _ => 0
def depDs : List Dv -> Nat
  | [] => 0
  | d :: ds => max (depD d) (depDs ds)
end
theorem eqD_tup (ds es : List Dv) : eqD (.tup ds) (.tup es) = eqDs ds es := by rw [eqD]
theorem eqD_lst (ds es : List Dv) : eqD (.lst ds) (.lst es) = eqDs ds es := by rw [eqD]
theorem Reps.length {K : PySem.W.Frag} {H : Hp} : ∀ {ds : List Dv} {xs : List V}, Reps K H ds xs -> ds.length = xs.length
  | [], xs, h => by unfold Reps at h; subst h; rfl
  | d :: ds, xs, h => by
    unfold Reps at h
    obtain ⟨x, r, rfl, _, h⟩ := h
    rw [List.length_cons, List.length_cons, Reps.length h]
theorem Reps.get {K : PySem.W.Frag} {H : Hp} : ∀ {ds : List Dv} {xs : List V} {i : Nat} {d : Dv}, Reps K H ds xs -> ds[i]? = some d -> ∃ x, xs[i]? = some x /\ Rep K H d x
  | [], _, _, _, _, e => by simp at e
  | d :: ds, xs, 0, _, h, e => by
    unfold Reps at h
    obtain ⟨x, r, rfl, h1, _⟩ := h
    simp at e; subst e
    exact ⟨x, rfl, h1⟩
  | d :: ds, xs, i + 1, _, h, e => by
    unfold Reps at h
    obtain ⟨x, r, rfl, _, h⟩ := h
    obtain ⟨y, h1, h2⟩ := Reps.get (i := i) h (by simpa using e)
    exact ⟨y, by simpa using h1, h2⟩
theorem depD_le {ds : List Dv} {i : Nat} {d : Dv} (h : ds[i]? = some d) : depD d <= depDs ds := by
  induction ds generalizing i with
  | nil => simp at h
  | cons e es ih =>
    unfold depDs
    cases i with
    | zero => simp at h; subst h; omega
    | succ i => have := ih (i := i) (by simpa using h); omega
theorem eqDs_all : ∀ (ds es : List Dv), ds.length = es.length -> eqDs ds es = (List.range ds.length).all fun i => match ds[i]?, es[i]? with | some d, some e => eqD d e | _, _ => false
  | [], [], _ => by unfold eqDs; rfl
  | d :: ds, e :: es, h => by
    unfold eqDs
    rw [List.length_cons, List.range_succ_eq_map, List.all_cons, List.all_map, eqDs_all ds es (by simpa using h)]
    congr 1
  | [], e :: es, h => by simp at h
  | d :: ds, [], h => by simp at h
theorem eqDs_len : ∀ (ds es : List Dv), ds.length ≠ es.length -> eqDs ds es = false
  | [], [], h => absurd rfl h
  | [], _ :: _, _ => by unfold eqDs; rfl
  | _ :: _, [], _ => by unfold eqDs; rfl
  | d :: ds, e :: es, h => by unfold eqDs; rw [eqDs_len ds es (fun z => h (by simp [z])), Bool.and_false]
mutual
theorem eqD_refl : ∀ d : Dv, eqD d d = true
  | .non => by unfold eqD; rfl
  | .bl b => by unfold eqD; simp
  | .int i => by unfold eqD; simp
  | .str x => by unfold eqD; simp
  | .tup ds => by unfold eqD; exact eqDs_refl ds
  | .lst ds => by unfold eqD; exact eqDs_refl ds
theorem eqDs_refl : ∀ ds : List Dv, eqDs ds ds = true
  | [] => by unfold eqDs; rfl
  | d :: ds => by unfold eqDs; rw [eqD_refl d, eqDs_refl ds]; rfl
end
section
variable {X : Cx} {pins : List (Addr × Obj)} {σ : St} {H : Hp} {s : Shared}
theorem no_both {a : Addr} {xs ys : List V} (I : Inv X pins σ H s) (h : SqL X.K H a xs) (h' : SqT X.K H a ys) : False := by
  obtain ⟨its, _, ⟨o, n, e, c, _⟩, _⟩ := I.list h
  obtain ⟨its', _, ⟨o', e', c', _⟩, _⟩ := I.tuple h'
  rw [e] at e'; cases e'
  rw [c] at c'
  exact absurd c' (by decide)
mutual
theorem rep_inj (I : Inv X pins σ H s) : ∀ (d e : Dv) (x : V), Rep X.K H d x -> Rep X.K H e x -> d = e
  | .non, e, x, h, h' => by
    unfold Rep at h; subst h
    cases e <;> unfold Rep at h' <;> first | rfl | (obtain ⟨a, xs, q, _⟩ := h'; cases q; done) | (cases h'; done)
  | .bl b, e, x, h, h' => by
    unfold Rep at h; subst h
    cases e <;> unfold Rep at h' <;> first | (obtain ⟨a, xs, q, _⟩ := h'; cases q; done) | (cases h'; rfl) | (cases h'; done)
  | .int b, e, x, h, h' => by
    unfold Rep at h; subst h
    cases e <;> unfold Rep at h' <;> first | (obtain ⟨a, xs, q, _⟩ := h'; cases q; done) | (cases h'; rfl) | (cases h'; done)
  | .str b, e, x, h, h' => by
    unfold Rep at h; subst h
    cases e <;> unfold Rep at h' <;> first | (obtain ⟨a, xs, q, _⟩ := h'; cases q; done) | (cases h'; rfl) | (cases h'; done)
  | .tup ds, e, x, h, h' => by
    unfold Rep at h
    obtain ⟨a, xs, rfl, hs, hr⟩ := h
    cases e with
    | tup es =>
      unfold Rep at h'
      obtain ⟨b, ys, q, hs', hr'⟩ := h'
      cases q
      rw [I.tuple_inj hs' hs] at hr'
      rw [reps_inj I ds es xs hr hr']
    | lst es =>
      unfold Rep at h'
      obtain ⟨b, ys, q, hs', hr'⟩ := h'
      cases q
      exact (no_both I hs' hs).elim
    | _ => unfold Rep at h'; cases h'
  | .lst ds, e, x, h, h' => by
    unfold Rep at h
    obtain ⟨a, xs, rfl, hs, hr⟩ := h
    cases e with
    | lst es =>
      unfold Rep at h'
      obtain ⟨b, ys, q, hs', hr'⟩ := h'
      cases q
      rw [I.list_inj hs' hs] at hr'
      rw [reps_inj I ds es xs hr hr']
    | tup es =>
      unfold Rep at h'
      obtain ⟨b, ys, q, hs', hr'⟩ := h'
      cases q
      exact (no_both I hs hs').elim
    | _ => unfold Rep at h'; cases h'
theorem reps_inj (I : Inv X pins σ H s) : ∀ (ds es : List Dv) (xs : List V), Reps X.K H ds xs -> Reps X.K H es xs -> ds = es
  | [], es, xs, h, h' => by
    unfold Reps at h; subst h
    cases es with
    | nil => rfl
    | cons e es => unfold Reps at h'; obtain ⟨x, r, q, _⟩ := h'; cases q
  | d :: ds, es, xs, h, h' => by
    unfold Reps at h
    obtain ⟨x, r, rfl, h1, h2⟩ := h
    cases es with
    | nil => unfold Reps at h'; cases h'
    | cons e es =>
      unfold Reps at h'
      obtain ⟨y, r', q, h3, h4⟩ := h'
      cases q
      rw [rep_inj I d e _ h1 h3, reps_inj I ds es _ h2 h4]
end
abbrev Eq3 (A : Around) (s : Shared) (u v : Value) (b : Bool) : Prop := SeqAt.EqAt A s u v b /\ SeqAt.RcAt A s u v b /\ SeqAt.RcNeAt A s u v (!b)
theorem eq3_tup {A : Around} {a b : Addr} {xs ys : List V} {ds es : List Dv} (I : Inv X pins σ H s) (hu : A.units < cLine) (ha : SqT X.K H a xs) (hb : SqT X.K H b ys) (hd : Reps X.K H ds xs) (he : Reps X.K H es ys)
    (ih : ∀ (i : Nat) (d e : Dv) (x y : V) (u v : Value), ds[i]? = some d -> es[i]? = some e -> xs[i]? = some x -> ys[i]? = some y -> RelV x u -> RelV y v -> SeqAt.EqAt A.in1 s u v (eqD d e)) : Eq3 A s (.ref a) (.ref b) (eqD (.tup ds) (.tup es)) := by
  obtain ⟨its, r1, p1, _⟩ := I.tuple ha
  obtain ⟨its2, r2, p2, _⟩ := I.tuple hb
  have l1 := hd.length; have l2 := he.length; have l3 := r1.length; have l4 := r2.length
  have hitem : ∀ j (h1 : j < its.toArray.size) (h2 : j < its2.toArray.size), SeqAt.EqAt A.in1 s its.toArray[j] its2.toArray[j] (match ds[j]?, es[j]? with | some d, some e => eqD d e | _, _ => false) := fun j h1 h2 => by
    rw [List.size_toArray] at h1 h2
    have e1 : ds[j]? = some ds[j] := List.getElem?_eq_getElem (by omega)
    have e2 : es[j]? = some es[j] := List.getElem?_eq_getElem (by omega)
    have e3 : xs[j]? = some xs[j] := List.getElem?_eq_getElem (by omega)
    have e4 : ys[j]? = some ys[j] := List.getElem?_eq_getElem (by omega)
    obtain ⟨u, q1, q2⟩ := r1.get e3
    obtain ⟨v, q3, q4⟩ := r2.get e4
    rw [e1, e2]
    have z1 : its.toArray[j] = u := by rw [List.getElem_toArray]; rw [List.getElem?_eq_getElem h1] at q1; exact Option.some.inj q1
    have z2 : its2.toArray[j] = v := by rw [List.getElem_toArray]; rw [List.getElem?_eq_getElem h2] at q3; exact Option.some.inj q3
    rw [z1, z2]
    exact ih j _ _ _ _ _ _ e1 e2 e3 e4 q2 q4
  have val : ((List.range (min its.toArray.size its2.toArray.size)).all (fun j => match ds[j]?, es[j]? with | some d, some e => eqD d e | _, _ => false) && its.toArray.size == its2.toArray.size) = eqD (.tup ds) (.tup es) := by
    rw [List.size_toArray, List.size_toArray, <- l3, <- l4, <- l1, <- l2, eqD_tup]
    by_cases h : ds.length = es.length
    . rw [h, Nat.min_self, <- h, eqDs_all ds es h]
      simp
    . rw [eqDs_len ds es h]
      have : (ds.length == es.length) = false := by simpa using h
      rw [this, Bool.and_false]
  have R := SeqAt.RcAt.tuples (A := A) p1 p2 hu hitem
  have N := SeqAt.RcNeAt.tuples (A := A) p1 p2 hu hitem
  rw [val] at R N
  refine ⟨?_, R, N⟩
  by_cases hab : a = b
  . subst hab
    have e : ds = es := by
      have := rep_inj I (.tup ds) (.tup es) (.ref a) (by unfold Rep; exact ⟨a, xs, rfl, ha, hd⟩) (by unfold Rep; exact ⟨a, ys, rfl, hb, he⟩)
      cases this; rfl
    subst e
    rw [eqD_refl]
    exact SeqAt.EqAt.same _
  . exact .of_refs hab R
theorem eq3_lst {A : Around} {a b : Addr} {xs ys : List V} {ds es : List Dv} (I : Inv X pins σ H s) (hu : A.units < cLine) (ha : SqL X.K H a xs) (hb : SqL X.K H b ys) (hd : Reps X.K H ds xs) (he : Reps X.K H es ys)
    (ih : ∀ (i : Nat) (d e : Dv) (x y : V) (u v : Value), ds[i]? = some d -> es[i]? = some e -> xs[i]? = some x -> ys[i]? = some y -> RelV x u -> RelV y v -> SeqAt.EqAt A.in1 s u v (eqD d e)) : Eq3 A s (.ref a) (.ref b) (eqD (.lst ds) (.lst es)) := by
  obtain ⟨its, r1, p1, _⟩ := I.list ha
  obtain ⟨its2, r2, p2, _⟩ := I.list hb
  have l1 := hd.length; have l2 := he.length; have l3 := r1.length; have l4 := r2.length
  have hitem : ∀ j (h1 : j < its.toArray.size) (h2 : j < its2.toArray.size), SeqAt.EqAt A.in1 s its.toArray[j] its2.toArray[j] (match ds[j]?, es[j]? with | some d, some e => eqD d e | _, _ => false) := fun j h1 h2 => by
    rw [List.size_toArray] at h1 h2
    have e1 : ds[j]? = some ds[j] := List.getElem?_eq_getElem (by omega)
    have e2 : es[j]? = some es[j] := List.getElem?_eq_getElem (by omega)
    have e3 : xs[j]? = some xs[j] := List.getElem?_eq_getElem (by omega)
    have e4 : ys[j]? = some ys[j] := List.getElem?_eq_getElem (by omega)
    obtain ⟨u, q1, q2⟩ := r1.get e3
    obtain ⟨v, q3, q4⟩ := r2.get e4
    rw [e1, e2]
    have z1 : its.toArray[j] = u := by rw [List.getElem_toArray]; rw [List.getElem?_eq_getElem h1] at q1; exact Option.some.inj q1
    have z2 : its2.toArray[j] = v := by rw [List.getElem_toArray]; rw [List.getElem?_eq_getElem h2] at q3; exact Option.some.inj q3
    rw [z1, z2]
    exact ih j _ _ _ _ _ _ e1 e2 e3 e4 q2 q4
  have RN : SeqAt.RcAt A s (.ref a) (.ref b) (eqD (.lst ds) (.lst es)) /\ SeqAt.RcNeAt A s (.ref a) (.ref b) (!eqD (.lst ds) (.lst es)) := by
    by_cases h : ds.length = es.length
    . have hsz : its.toArray.size = its2.toArray.size := by rw [List.size_toArray, List.size_toArray]; omega
      have val : (List.range its.toArray.size).all (fun j => match ds[j]?, es[j]? with | some d, some e => eqD d e | _, _ => false) = eqD (.lst ds) (.lst es) := by
        rw [eqD_lst, List.size_toArray, <- l3, <- l1, eqDs_all ds es h]
      have R := SeqAt.RcAt.lists (A := A) p1.isList p2.isList hsz hu hitem
      have N := SeqAt.RcNeAt.lists (A := A) p1.isList p2.isList hsz hu hitem
      rw [val] at R N
      exact ⟨R, N⟩
    . have hsz : (its.toArray.size != its2.toArray.size) = true := by rw [List.size_toArray, List.size_toArray]; simp; omega
      have val : eqD (.lst ds) (.lst es) = false := by rw [eqD_lst]; exact eqDs_len ds es h
      rw [val]
      exact ⟨SeqAt.RcAt.lists_lengths p1.isList p2.isList hsz hu, SeqAt.RcNeAt.lists_lengths p1.isList p2.isList hsz hu⟩
  refine ⟨?_, RN.1, RN.2⟩
  by_cases hab : a = b
  . subst hab
    have e : ds = es := by
      have := rep_inj I (.lst ds) (.lst es) (.ref a) (by unfold Rep; exact ⟨a, xs, rfl, ha, hd⟩) (by unfold Rep; exact ⟨a, ys, rfl, hb, he⟩)
      cases this; rfl
    subst e
    rw [eqD_refl]
    exact SeqAt.EqAt.same _
  . exact .of_refs hab RN.1
theorem eq_all (I : Inv X pins σ H s) : ∀ (n : Nat) (A : Around) (d e : Dv) (x y : V) (u v : Value), depD d <= n -> A.units + n < cLine -> Rep X.K H d x -> Rep X.K H e y -> RelV x u -> RelV y v -> Eq3 A s u v (eqD d e) := by
  intro n
  induction n with
  | zero =>
    intro A d e x y u v hd hu hx hy ru rv
    have hu' : A.units < cLine := by omega
    cases d with
    | tup ds => unfold depD at hd; omega
    | lst ds => unfold depD at hd; omega
    | non =>
      unfold Rep at hx; subst hx; cases ru
      cases e <;> unfold Rep at hy
      case non => subst hy; cases rv; exact ⟨SeqAt.EqAt.same _, SeqAt.RcAt.none_none, SeqAt.RcNeAt.none_none⟩
      case bl => subst hy; cases rv; exact ⟨.none_bool _, .none_bool _, .none_bool _⟩
      case int => subst hy; obtain ⟨t, rfl⟩ := rv; exact ⟨.none_int _ _, .none_int _ _, .none_int _ _⟩
      case str => subst hy; obtain ⟨t, rfl⟩ := rv; exact ⟨.none_str _ _, .none_str _ _, .none_str _ _⟩
      case tup => obtain ⟨a, xs, rfl, ha, _⟩ := hy; cases rv; obtain ⟨its, _, p, _⟩ := I.tuple ha; exact ⟨.none_tuple p hu', .none_tuple p hu', .none_tuple p hu'⟩
      case lst => obtain ⟨a, xs, rfl, ha, _⟩ := hy; cases rv; obtain ⟨its, _, p, _⟩ := I.list ha; exact ⟨.none_list p.isList hu', .none_list p.isList hu', .none_list p.isList hu'⟩
    | bl c =>
      unfold Rep at hx; subst hx; cases ru
      cases e <;> unfold Rep at hy
      case non => subst hy; cases rv; exact ⟨.bool_none _, .bool_none _, .bool_none _⟩
      case bl => subst hy; cases rv; unfold eqD; exact ⟨.bool_bool _ _, .bool_bool _ _, .bool_bool _ _⟩
      case int => subst hy; obtain ⟨t, rfl⟩ := rv; unfold eqD; exact ⟨.bool_int _ _ _, .bool_int _ _ _, .bool_int _ _ _⟩
      case str => subst hy; obtain ⟨t, rfl⟩ := rv; exact ⟨.bool_str _ _ _, .bool_str _ _ _, .bool_str _ _ _⟩
      case tup => obtain ⟨a, xs, rfl, ha, _⟩ := hy; cases rv; obtain ⟨its, _, p, _⟩ := I.tuple ha; exact ⟨.bool_tuple _ p hu', .bool_tuple _ p hu', .bool_tuple _ p hu'⟩
      case lst => obtain ⟨a, xs, rfl, ha, _⟩ := hy; cases rv; obtain ⟨its, _, p, _⟩ := I.list ha; exact ⟨.bool_list _ p.isList hu', .bool_list _ p.isList hu', .bool_list _ p.isList hu'⟩
    | int c =>
      unfold Rep at hx; subst hx; obtain ⟨t0, rfl⟩ := ru
      cases e <;> unfold Rep at hy
      case non => subst hy; cases rv; exact ⟨.int_none _ _, .int_none _ _, .int_none _ _⟩
      case bl => subst hy; cases rv; unfold eqD; exact ⟨.int_bool _ _ _, .int_bool _ _ _, .int_bool _ _ _⟩
      case int => subst hy; obtain ⟨t, rfl⟩ := rv; unfold eqD; exact ⟨.int_int _ _ _ _, .int_int _ _ _ _, .int_int _ _ _ _⟩
      case str => subst hy; obtain ⟨t, rfl⟩ := rv; exact ⟨.int_str _ _ _ _, .int_str _ _ _ _, .int_str _ _ _ _⟩
      case tup => obtain ⟨a, xs, rfl, ha, _⟩ := hy; cases rv; obtain ⟨its, _, p, _⟩ := I.tuple ha; exact ⟨.int_tuple _ _ p hu', .int_tuple _ _ p hu', .int_tuple _ _ p hu'⟩
      case lst => obtain ⟨a, xs, rfl, ha, _⟩ := hy; cases rv; obtain ⟨its, _, p, _⟩ := I.list ha; exact ⟨.int_list _ _ p.isList hu', .int_list _ _ p.isList hu', .int_list _ _ p.isList hu'⟩
    | str c =>
      unfold Rep at hx; subst hx; obtain ⟨t0, rfl⟩ := ru
      cases e <;> unfold Rep at hy
      case non => subst hy; cases rv; exact ⟨.str_none _ _, .str_none _ _, .str_none _ _⟩
      case bl => subst hy; cases rv; exact ⟨.str_bool _ _ _, .str_bool _ _ _, .str_bool _ _ _⟩
      case int => subst hy; obtain ⟨t, rfl⟩ := rv; exact ⟨.str_int _ _ _ _, .str_int _ _ _ _, .str_int _ _ _ _⟩
      case str => subst hy; obtain ⟨t, rfl⟩ := rv; unfold eqD; exact ⟨.str_str _ _ _ _, .str_str _ _ _ _, .str_str _ _ _ _⟩
      case tup => obtain ⟨a, xs, rfl, ha, _⟩ := hy; cases rv; obtain ⟨its, _, p, _⟩ := I.tuple ha; exact ⟨.str_tuple _ _ p hu', .str_tuple _ _ p hu', .str_tuple _ _ p hu'⟩
      case lst => obtain ⟨a, xs, rfl, ha, _⟩ := hy; cases rv; obtain ⟨its, _, p, _⟩ := I.list ha; exact ⟨.str_list _ _ p.isList hu', .str_list _ _ p.isList hu', .str_list _ _ p.isList hu'⟩
  | succ n ih =>
    intro A d e x y u v hd hu hx hy ru rv
    have hu' : A.units < cLine := by omega
    have hin : A.in1.units + n < cLine := by show A.units + 1 + n < cLine; omega
    cases d with
    | tup ds =>
      unfold depD at hd
      unfold Rep at hx
      obtain ⟨a, xs, rfl, ha, hr⟩ := hx
      cases ru
      cases e <;> unfold Rep at hy
      case tup es =>
        obtain ⟨b, ys, rfl, hb, hr'⟩ := hy
        cases rv
        refine eq3_tup I hu' ha hb hr hr' fun i d e x y u v e1 e2 e3 e4 ru rv => ?_
        obtain ⟨x', q1, q2⟩ := hr.get e1
        obtain ⟨y', q3, q4⟩ := hr'.get e2
        rw [e3] at q1; cases q1
        rw [e4] at q3; cases q3
        exact (ih A.in1 d e x y u v (by have := depD_le e1; omega) hin q2 q4 ru rv).1
      case non => subst hy; cases rv; obtain ⟨its, _, p, _⟩ := I.tuple ha; exact ⟨.tuple_none p hu', .tuple_none p hu', .tuple_none p hu'⟩
      case bl => subst hy; cases rv; obtain ⟨its, _, p, _⟩ := I.tuple ha; exact ⟨.tuple_bool _ p hu', .tuple_bool _ p hu', .tuple_bool _ p hu'⟩
      case int => subst hy; obtain ⟨t, rfl⟩ := rv; obtain ⟨its, _, p, _⟩ := I.tuple ha; exact ⟨.tuple_int _ _ p hu', .tuple_int _ _ p hu', .tuple_int _ _ p hu'⟩
      case str => subst hy; obtain ⟨t, rfl⟩ := rv; obtain ⟨its, _, p, _⟩ := I.tuple ha; exact ⟨.tuple_str _ _ p hu', .tuple_str _ _ p hu', .tuple_str _ _ p hu'⟩
      case lst => obtain ⟨b, ys, rfl, hb, _⟩ := hy; cases rv; obtain ⟨its, _, p, _⟩ := I.tuple ha; obtain ⟨its2, _, p2, _⟩ := I.list hb; exact ⟨.tuple_list p p2.isList hu', .tuple_list p p2.isList hu', .tuple_list p p2.isList hu'⟩
    | lst ds =>
      unfold depD at hd
      unfold Rep at hx
      obtain ⟨a, xs, rfl, ha, hr⟩ := hx
      cases ru
      cases e <;> unfold Rep at hy
      case lst es =>
        obtain ⟨b, ys, rfl, hb, hr'⟩ := hy
        cases rv
        refine eq3_lst I hu' ha hb hr hr' fun i d e x y u v e1 e2 e3 e4 ru rv => ?_
        obtain ⟨x', q1, q2⟩ := hr.get e1
        obtain ⟨y', q3, q4⟩ := hr'.get e2
        rw [e3] at q1; cases q1
        rw [e4] at q3; cases q3
        exact (ih A.in1 d e x y u v (by have := depD_le e1; omega) hin q2 q4 ru rv).1
      case non => subst hy; cases rv; obtain ⟨its, _, p, _⟩ := I.list ha; exact ⟨.list_none p.isList hu', .list_none p.isList hu', .list_none p.isList hu'⟩
      case bl => subst hy; cases rv; obtain ⟨its, _, p, _⟩ := I.list ha; exact ⟨.list_bool _ p.isList hu', .list_bool _ p.isList hu', .list_bool _ p.isList hu'⟩
      case int => subst hy; obtain ⟨t, rfl⟩ := rv; obtain ⟨its, _, p, _⟩ := I.list ha; exact ⟨.list_int _ _ p.isList hu', .list_int _ _ p.isList hu', .list_int _ _ p.isList hu'⟩
      case str => subst hy; obtain ⟨t, rfl⟩ := rv; obtain ⟨its, _, p, _⟩ := I.list ha; exact ⟨.list_str _ _ p.isList hu', .list_str _ _ p.isList hu', .list_str _ _ p.isList hu'⟩
      case tup => obtain ⟨b, ys, rfl, hb, _⟩ := hy; cases rv; obtain ⟨its, _, p, _⟩ := I.list ha; obtain ⟨its2, _, p2, _⟩ := I.tuple hb; exact ⟨.list_tuple p.isList p2 hu', .list_tuple p.isList p2 hu', .list_tuple p.isList p2 hu'⟩
    | non => exact ih A .non e x y u v (by unfold depD; omega) (by omega) hx hy ru rv
    | bl c => exact ih A (.bl c) e x y u v (by unfold depD; omega) (by omega) hx hy ru rv
    | int c => exact ih A (.int c) e x y u v (by unfold depD; omega) (by omega) hx hy ru rv
    | str c => exact ih A (.str c) e x y u v (by unfold depD; omega) (by omega) hx hy ru rv
end
section
variable {X : Cx}
def mEq (neg : Bool) (K : PySem.W.Frag) : R2 := fun x y H Q => match x, y with
  | .non, .non => Q (.bl (neg ^^ true)) H
  | .bl a, .bl b => Q (.bl (neg ^^ (a == b))) H
  | .int a, .int b => Q (.bl (neg ^^ (a == b))) H
  | .str a, .str b => Q (.bl (neg ^^ (a == b))) H
  | x, y => ∃ d e, Rep K H d x /\ Rep K H e y /\ depD d <= 60 /\ Q (.bl (neg ^^ eqD d e)) H
theorem om_eqAll (hu : X.A.units + 60 < cLine) : OpR X (compareOp .Eq) (fun x y H Q => ∃ d e, Rep X.K H d x /\ Rep X.K H e y /\ depD d <= 60 /\ Q (.bl (eqD d e)) H) := by
  intro pins s σ H x y v u Q I rx ry h
  obtain ⟨d, e, h1, h2, h3, q⟩ := h
  exact (eq_all I 60 X.A d e x y v u h3 hu h1 h2 rx ry).2.1 X.prog X.w _ _ ⟨.bl _, H, I, rfl, q⟩
theorem om_neAll (hu : X.A.units + 60 < cLine) : OpR X (compareOp .NotEq) (fun x y H Q => ∃ d e, Rep X.K H d x /\ Rep X.K H e y /\ depD d <= 60 /\ Q (.bl (!eqD d e)) H) := by
  intro pins s σ H x y v u Q I rx ry h
  obtain ⟨d, e, h1, h2, h3, q⟩ := h
  exact (eq_all I 60 X.A d e x y v u h3 hu h1 h2 rx ry).2.2 X.prog X.w _ _ ⟨.bl _, H, I, rfl, q⟩
theorem mEq_imp {neg : Bool} {K : PySem.W.Frag} {x y : V} {H : Hp} {Q : VK} (h : mEq neg K x y H Q) : ∃ d e, Rep K H d x /\ Rep K H e y /\ depD d <= 60 /\ Q (.bl (neg ^^ eqD d e)) H := by
  unfold mEq at h
  split at h
  . exact ⟨.non, .non, by unfold Rep; rfl, by unfold Rep; rfl, by unfold depD; omega, by unfold eqD; exact h⟩
  . rename_i a b; exact ⟨.bl a, .bl b, by unfold Rep; rfl, by unfold Rep; rfl, by unfold depD; omega, by unfold eqD; exact h⟩
  . rename_i a b; exact ⟨.int a, .int b, by unfold Rep; rfl, by unfold Rep; rfl, by unfold depD; omega, by unfold eqD; exact h⟩
  . rename_i a b; exact ⟨.str a, .str b, by unfold Rep; rfl, by unfold Rep; rfl, by unfold depD; omega, by unfold eqD; exact h⟩
  . exact h
theorem om_eq (hu : X.A.units + 60 < cLine) : OpR X (compareOp .Eq) (mEq false X.K) := (om_eqAll hu).imp fun x y H Q h => by
  obtain ⟨d, e, h1, h2, h3, q⟩ := mEq_imp h
  exact ⟨d, e, h1, h2, h3, by rw [Bool.false_xor] at q; exact q⟩
theorem om_ne (hu : X.A.units + 60 < cLine) : OpR X (compareOp .NotEq) (mEq true X.K) := (om_neAll hu).imp fun x y H Q h => by
  obtain ⟨d, e, h1, h2, h3, q⟩ := mEq_imp h
  exact ⟨d, e, h1, h2, h3, by rw [Bool.true_xor] at q; exact q⟩
end
section
variable {X : Cx} {a b c e : Expr} {es : List Expr} {ta tb tc te : TE} {tA tB' : TT} {t : TA} {pos p : Pos} {x : Str}
def isB (v : V) (Q : Bool -> Prop) : Prop := match v with
  | .bl c => Q c
  | _ => False
theorem isB_of {v : V} {Q : Bool -> Prop} (h : isB v Q) : ∃ c, v = .bl c /\ Q c := by
  cases v <;> first | exact False.elim h | exact ⟨_, rfl, h⟩
def EMono (t : TE) : Prop := ∀ σ H (Q Q' : VK), (∀ v H, Q v H -> Q' v H) -> t σ H Q -> t σ H Q'
def uB (t : TE) : TT := fun σ H Q => t σ H fun x H1 => isB x fun c => Q c H1
theorem tu_cmp {op : CmpOp} {r : R2} (ho : OpR X (compareOp op) r) (ha : PE X a ta) (hb : PE X b tb) (hm : behindInMarks op b = false := by first | exact nobehind _ (by decide) (by decide) | rfl) : PT X (.Compare a [op] [b] pos) (uB (tOp r ta tb)) := by
  intro pins s σ H Q I h
  refine wpAny_isTrue_Compare1 (thn (ha pins s σ H _ I h) fun v s1 ⟨x, H1, I1, r1, q1⟩ => thn (hb pins s1 σ H1 _ I1 q1) fun u s2 ⟨y, H2, I2, r2, q2⟩ =>
    thn (ho pins s2 σ H2 x y v u _ I2 r1 r2 q2) fun c s3 ⟨z, H3, I3, r3, q⟩ => ?_) hm
  obtain ⟨k, e, q3⟩ := isB_of q
  subst e
  cases r3
  exact wpAny_truthy_bool ⟨H3, I3, q3⟩
theorem pe_cmpM {op : CmpOp} {r : R2} (ho : OpR X (compareOp op) r) (ha : PE X a ta) (hb : PE X b tb) (hm : behindInMarks op b = false := by first | exact nobehind _ (by decide) (by decide) | rfl) : PE X (.Compare a [op] [b] pos) (tOp r ta tb) := pe_cmpR ho ha hb hm
theorem tu_val (h : PE X e te) (he : ∀ whole, isTrue e X.env whole = (do let v <- whole; standAt e.pos; holding [v] (truthy v)) := by intro _; rfl) : PT X e (uB te) := by
  intro pins s σ H Q I hq
  refine isTrue_plain (thn (h pins s σ H _ I hq) fun v s1 ⟨x, H1, I1, r1, q1⟩ => ?_) (he _)
  obtain ⟨k, e, q⟩ := isB_of q1
  subst e
  cases r1
  exact wpAny_truthy_bool ⟨H1, I1, q⟩
def vChain (r r' : R2) (ta tb tc : TE) : TE := fun σ H Q => ta σ H fun x H1 => tb σ H1 fun y H2 => r x y H2 fun z H3 => isB z fun k =>
  (if k = true then tc σ H3 fun w' H4 => r' y w' H4 Q else Q (.bl false) H3)
theorem tu_chain {op op' : CmpOp} {r r' : R2} (ho : OpR X (compareOp op) r) (ho' : OpR X (compareOp op') r') (ha : PE X a ta) (hb : PE X b tb) (hc : PE X c tc)
    (hm : lastMarks [op, op'] [b, c] = false := by with_unfolding_all rfl) : PT X (.Compare a [op, op'] [b, c] pos) (uB (vChain r r' ta tb tc)) := by
  intro pins s σ H Q I h
  refine isTrue_chain (thn (ha pins s σ H _ I h) fun v s1 ⟨x, H1, I1, r1, q1⟩ => test_link (thn (hb pins s1 σ H1 _ I1 q1) fun u s2 ⟨y, H2, I2, r2, q2⟩ =>
    thn (ho pins s2 σ H2 x y v u _ I2 r1 r2 q2) fun d s3 ⟨z, H3, I3, r3, q⟩ => ?_)) hm
  obtain ⟨k, e, q3⟩ := isB_of q
  subst e
  cases r3
  refine wpAny_truthy_bool ?_
  cases k with
  | false =>
    have q3 : Q false H3 := q3
    exact ite_ff ⟨H3, I3, q3⟩
  | true =>
    refine ite_tt (test_last (thn (hc pins s3 σ H3 _ I3 q3) fun w' s4 ⟨z', H4, I4, r4, q4⟩ => thn (ho' pins s4 σ H4 y z' u w' _ I4 r2 r4 q4) fun d' s5 ⟨z2, H5, I5, r5, q5⟩ => ?_))
    obtain ⟨k2, e2, q5⟩ := isB_of q5
    subst e2
    cases r5
    exact wpAny_truthy_bool ⟨H5, I5, q5⟩
def vNot (ta : TE) : TE := fun σ H Q => ta σ H fun x H1 => isB x fun c => Q (.bl (!c)) H1
theorem pe_notM (ha : PE X a ta) : PE X (.UnaryOp .Not a pos) (vNot ta) := by
  have ha' : PE X a (fun σ H Q => ta σ H fun x H1 => isB x fun c => Q (.bl c) H1) := fun pins s σ H Q I h => thn (ha pins s σ H _ I h) fun v s1 ⟨x, H1, I1, r1, q1⟩ => by
    obtain ⟨c, e, q⟩ := isB_of q1
    subst e
    exact ⟨.bl c, H1, I1, r1, q⟩
  have h := pe_not (pos := pos) ha'
  exact h.imp fun σ H Q q => by
    show ta σ H fun x H1 => isB x fun c => ∃ c', V.bl c = .bl c' /\ Q (.bl (!c')) H1
    have e : (fun (x : V) (H1 : Hp) => isB x fun c => ∃ c', V.bl c = .bl c' /\ Q (.bl (!c')) H1) = fun x H1 => isB x fun c => Q (.bl (!c)) H1 := by
      funext x H1
      cases x <;> first | rfl | (apply propext; constructor; (rintro ⟨c', e, h⟩; cases e; exact h); (intro h; exact ⟨_, rfl, h⟩))
    rw [e]
    exact q
def SqA (K : PySem.W.Frag) (H : Hp) (p : Addr) (xs : List V) : Prop := SqL K H p xs \/ SqT K H p xs
def mIx (K : PySem.W.Frag) : R2 := fun x y H Q => match x, y with
  | .ref p, .int i => ∃ xs v, SqA K H p xs /\ atI xs i = some v /\ Q v H
  | .str z, .int i => ∃ c, z.length <= sizeLine /\ atI z.cps.toList i = some c /\ Q (.str ⟨#[c]⟩) H
  | _, _ => False
theorem IxR.imp {r r' : R2} (h : IxR X r) (g : ∀ x y H Q, r' x y H Q -> r x y H Q) : IxR X r' := fun a b pins s σ H x y v u Q I rx ry q z => h a b pins s σ H x y v u Q I rx ry (g _ _ _ _ q) z
theorem xm_ix : IxR X (mIx X.K) := ix_seq.imp fun x y H Q q => by
  cases x <;> cases y <;> first
    | exact False.elim q
    | (obtain ⟨xs, v, h | h, e, q⟩ := q
       . exact .inl ⟨_, xs, _, v, rfl, rfl, h, e, q⟩
       . exact .inr (.inl ⟨_, xs, _, v, rfl, rfl, h, e, q⟩))
    | (obtain ⟨c, hz, e, q⟩ := q
       exact .inr (.inr ⟨_, _, c, rfl, rfl, hz, e, q⟩))
theorem pe_ixM (ha : PE X a ta) (hb : PE X b tb) (hs : PlainIx b := by intro _ _; rfl) : PE X (.Subscript a b pos) (tOp (mIx X.K) ta tb) := pe_ix xm_ix ha hb hs
def mLen (K : PySem.W.Frag) : List V -> Hp -> VK -> Prop := fun xs H Q => match xs with
  | [x] => ∃ n, LenV K x H n /\ Q (.int n) H
  | _ => False
theorem cm_len : CallR X (.builtin "len") (mLen X.K) := call_len.imp fun xs H Q q => by
  match xs, q with
  | [x], ⟨n, h, q⟩ => exact ⟨x, n, rfl, h, q⟩
def mMin : List V -> Hp -> VK -> Prop := fun xs H Q => match xs with
  | [.int i, .int j] => Q (.int (min i j)) H
  | _ => False
theorem cm_min (hc : X.calm = true) : CallR X (.builtin "min") mMin := (call_min2 hc).imp fun xs H Q q => by
  match xs, q with
  | [.int i, .int j], q =>
    refine ⟨i, j, rfl, ?_⟩
    have e : (if j < i then j else i) = min i j := by split <;> omega
    rw [e]
    exact q
def mInt : List V -> Hp -> VK -> Prop := fun xs H Q => match xs with
  | [.int i] => Q (.int i) H
  | [.bl k] => Q (.int (if k then 1 else 0)) H
  | _ => False
theorem cm_int : CallR X (.type "int") mInt := call_int1.imp fun xs H Q q => by
  match xs, q with
  | [.int i], q => exact .inl ⟨i, rfl, q⟩
  | [.bl k], q => exact .inr ⟨k, rfl, q⟩
def mTuple (K : PySem.W.Frag) : List V -> Hp -> VK -> Prop := fun xs H Q => match xs with
  | [.ref p] => ∃ ys, (SqL K H p ys /\ ∀ l, H l = none -> Q (.ref l) (upd H l (.tup ys))) \/ (SqT K H p ys /\ Q (.ref p) H)
  | _ => False
theorem cm_tuple : CallR X (.type "tuple") (mTuple X.K) := call_tuple_of.imp fun xs H Q q => by
  match xs, q with
  | [.ref p], ⟨ys, q⟩ => exact ⟨p, ys, rfl, q⟩
def mList (K : PySem.W.Frag) : List V -> Hp -> VK -> Prop := fun xs H Q => match xs with
  | [.ref p] => ∃ ys, SqA K H p ys /\ ∀ l, H l = none -> Q (.ref l) (upd H l (.lst ys))
  | _ => False
theorem cm_list : CallR X (.type "list") (mList X.K) := call_list_of.imp fun xs H Q q => by
  match xs, q with
  | [.ref p], ⟨ys, h, q⟩ => exact ⟨p, ys, rfl, h, q⟩
def isiT (K : PySem.W.Frag) (T : String) (x : V) (H : Hp) (b : Bool) : Prop := match x with
  | .non => b = (T == "NoneType")
  | .bl _ => b = (T == "bool" || T == "int")
  | .int _ => b = (T == "int")
  | .str _ => b = (T == "str")
  | .ref a => (∃ xs, (H a = some (.lst xs) \/ ∃ o, H a = some (.frz o (.lst xs))) /\ b = (T == "list")) \/ (∃ xs, H a = some (.tup xs) /\ b = (T == "tuple")) \/ ((∃ kvs, H a = some (.dK kvs)) /\ b = (T == "dict")) \/ ((∃ kvs, H a = some (.dT kvs)) /\ b = (T == "dict"))
  | _ => False
def kinds : List String := ["int", "bool", "str", "tuple", "list", "dict"]
theorem kit_all (K : PySem.W.Frag) : ∀ T ∈ kinds, PySem.W.kitOne K (.type "NoneType") (.type T) = some (T == "NoneType") /\ PySem.W.kitOne K (.type "bool") (.type T) = some (T == "bool" || T == "int") /\
    PySem.W.kitOne K (.type "int") (.type T) = some (T == "int") /\ PySem.W.kitOne K (.type "str") (.type T) = some (T == "str") /\ PySem.W.kitOne K (.type "list") (.type T) = some (T == "list") /\
    PySem.W.kitOne K (.type "tuple") (.type T) = some (T == "tuple") /\ PySem.W.kitOne K (.type "dict") (.type T) = some (T == "dict") := by
  intro T h
  unfold kinds at h
  rcases List.mem_cons.mp h with rfl | h
  . exact ⟨rfl, rfl, rfl, rfl, rfl, rfl, rfl⟩
  rcases List.mem_cons.mp h with rfl | h
  . exact ⟨rfl, rfl, rfl, rfl, rfl, rfl, rfl⟩
  rcases List.mem_cons.mp h with rfl | h
  . exact ⟨rfl, rfl, rfl, rfl, rfl, rfl, rfl⟩
  rcases List.mem_cons.mp h with rfl | h
  . exact ⟨rfl, rfl, rfl, rfl, rfl, rfl, rfl⟩
  rcases List.mem_cons.mp h with rfl | h
  . exact ⟨rfl, rfl, rfl, rfl, rfl, rfl, rfl⟩
  rcases List.mem_cons.mp h with rfl | h
  . exact ⟨rfl, rfl, rfl, rfl, rfl, rfl, rfl⟩
  . exact absurd h (by simp)
theorem isiT_ty {K : PySem.W.Frag} {T : String} {v : V} {H : Hp} {k : Bool} (hT : T ∈ kinds) (h : isiT K T v H k) : ∃ ty, TyOf K H v ty /\ PySem.W.kitOne K ty (.type T) = some k := by
  obtain ⟨k1, k2, k3, k4, k5, k6, k7⟩ := kit_all K T hT
  cases v with
  | non => cases (show k = _ from h); exact ⟨_, .non, k1⟩
  | bl _ => cases (show k = _ from h); exact ⟨_, .bl _, k2⟩
  | int _ => cases (show k = _ from h); exact ⟨_, .int _, k3⟩
  | str _ => cases (show k = _ from h); exact ⟨_, .str _, k4⟩
  | ref q =>
    rcases h with ⟨xs, h | ⟨o, h⟩, e⟩ | ⟨xs, h, e⟩ | ⟨⟨kvs, h⟩, e⟩ | ⟨⟨kvs, h⟩, e⟩
    . subst e; exact ⟨_, .lst h, k5⟩
    . subst e; exact ⟨_, .frz h, k5⟩
    . subst e; exact ⟨_, .tup h, k6⟩
    . subst e; exact ⟨_, .dK h, k7⟩
    . subst e; exact ⟨_, .dT h, k7⟩
  | _ => exact False.elim h
def mIsi (K : PySem.W.Frag) : List V -> Hp -> VK -> Prop := fun xs H Q => match xs with
  | [x, .ty T] => T ∈ kinds /\ ∃ k, isiT K T x H k /\ Q (.bl k) H
  | _ => False
theorem cm_isi : CallR X (.builtin "isinstance") (mIsi X.K) := by
  intro pins s σ H xs us Q I r q
  match xs, q with
  | [x, .ty T], q =>
    obtain ⟨hT, k, h, q⟩ := q
    obtain ⟨u, w', rfl, ru, rw'⟩ := vals2 r
    cases rw'
    obtain ⟨ty, h1, h2⟩ := isiT_ty hT h
    exact isinst_ok I ru h1 h2 fun tk => ⟨.bl k, H, I.tok _, rfl, q⟩
end
def compOkB (scope sc : Scope) : Bool :=
  decide (scope.kind = .function) && decide (scope.names.map (·.1)).Nodup && scope.names.all fun y => !(y.2 == .free) || (sc.names.lookup y.1 == some .cell || sc.names.lookup y.1 == some .free)
theorem CompScope.of {scope sc : Scope} (h : compOkB scope sc = true) : CompScope scope sc := by
  unfold compOkB at h
  rw [Bool.and_eq_true, Bool.and_eq_true] at h
  obtain ⟨⟨h1, h2⟩, h3⟩ := h
  refine ⟨of_decide_eq_true h1, of_decide_eq_true h2, fun y hy hf => ?_⟩
  have := List.all_eq_true.mp h3 y hy
  rw [hf] at this
  rcases (Bool.or_eq_true _ _).mp this with z | z
  . exact absurd z (by decide)
  . rcases (Bool.or_eq_true _ _).mp z with z | z
    . exact .inl (by simpa using z)
    . exact .inr (by simpa using z)
section
variable {X : Cx} {tg iter elt : Expr} {ifs : List Expr} {scope : Scope} {pos : Pos} {N' : List Str} {own : Nat} {ix : List Nat} {g : TG} {tc : TT} {te : TE} {wi : TI}
theorem frB {l : List Str} (h : (l.all fun x => scope.names.lookup x == some .free) = true) : ∀ x ∈ l, scope.names.lookup x = some .free := fun x hx => by
  have := List.all_eq_true.mp h x hx
  simpa using this
theorem pe_compB (hc : X.calm = true) (hi : PI X tg iter wi) (S : compOkB scope X.env.scope = true)
    (hlen : N'.length = own + ix.length) (hN : (N'.drop own).map some = ix.map (X.N[·]?)) (hfr : ((N'.drop own).all fun x => scope.names.lookup x == some .free) = true)
    (hg : ∀ c, PG (X.comp scope N' c) tg g) (hgo : GOwn own g) (ht : ∀ c, PTs (X.comp scope N' c) ifs tc) (he : ∀ c, PE (X.comp scope N' c) elt te)
    (hs : ∀ x, foldedSetIterable iter X.env x = pure x := by intro _; rfl) : PE X (.ListComp elt [⟨tg, iter, ifs, 0⟩] scope pos) (tComp wi own ix g tc te) :=
  pe_comp hc hi (.of S) hlen hN (frB hfr) hg hgo ht he hs
theorem ps_compB {i : Nat} {y : Str} {py spos : Pos} (hc : X.calm = true) (hnd : X.N.Nodup) (hiy : X.N[i]? = some y) (hy : X.env.scope.names.lookup y = some .local) (hi : PI X tg iter wi) (S : compOkB scope X.env.scope = true)
    (hlen : N'.length = own + ix.length) (hN : (N'.drop own).map some = ix.map (X.N[·]?)) (hfr : ((N'.drop own).all fun x => scope.names.lookup x == some .free) = true)
    (hg : ∀ c, PG (X.comp scope N' c) tg g) (hgo : GOwn own g) (ht : ∀ c, PTs (X.comp scope N' c) ifs tc) (he : ∀ c, PE (X.comp scope N' c) elt te)
    (hsw : swapsWith (.ListComp elt [⟨tg, iter, ifs, 0⟩] scope pos) (some (.Name y py)) spos.line X.env = pure true)
    (hs : ∀ x, foldedSetIterable iter X.env x = pure x := by intro _; rfl) : PS X (.Assign [.Name y py] (.ListComp elt [⟨tg, iter, ifs, 0⟩] scope pos) spos) (tAsg (tComp wi own ix g tc te) (gName i)) :=
  ps_comp hc hnd hiy hy hi (.of S) hlen hN (frB hfr) hg hgo ht he hsw hs
def iSeq (K : PySem.W.Frag) (tl : TE) : TI := fun σ H R => tl σ H fun x H1 => match x with
  | .ref a => ((∃ xs, SqL K H1 a xs) /\ R (Itl K a) H1) \/ ((∃ xs, SqT K H1 a xs) /\ R (Itt K a) H1)
  | _ => False
theorem pi_seq {l : Expr} {tl : TE} (hl : PE X l tl) : PI X tg l (iSeq X.K tl) := by
  intro pins s σ H R I h
  refine thn (hl pins s σ H _ I h) fun v s1 ⟨x, H1, I1, r1, q1⟩ => ?_
  cases x with
  | ref a =>
    cases r1
    rcases q1 with ⟨⟨xs, hq⟩, q⟩ | ⟨⟨xs, hq⟩, q⟩
    . obtain ⟨its, rv, p, hz⟩ := I1.list hq
      refine wpAny_pyIter_list p.isList ?_
      refine ⟨s1.heap.objs.size, [s1.heap.objs.size], _, _, H1, rfl, I1.kept (t' := s1.toks) fun b o e => Heap.get?_push_of_some _ e, turn_list a _, ⟨_, Heap.get?_push_size _ rfl, rfl, rfl⟩, fun b hb => ?_, q⟩
      have e : b = s1.heap.objs.size := by simpa using hb
      subst e
      exact I1.fpOk (Nat.le_refl _) (I1.hok.fresh (Nat.le_refl _))
    . obtain ⟨its, rv, p, hz⟩ := I1.tuple hq
      refine wpAny_pyIter_tuple (show s1.heap.IsTuple a its.toArray from p) ?_
      refine ⟨s1.heap.objs.size, [s1.heap.objs.size], _, _, H1, rfl, I1.kept (t' := s1.toks) fun b o e => Heap.get?_push_of_some _ e, turn_tuple a _, ⟨_, Heap.get?_push_size _ rfl, rfl, rfl⟩, fun b hb => ?_, q⟩
      have e : b = s1.heap.objs.size := by simpa using hb
      subst e
      exact I1.fpOk (Nat.le_refl _) (I1.hok.fresh (Nat.le_refl _))
  | _ => exact False.elim q1
def mSet : TSet := fun o i v H Q => match o, i with
  | .ref p, .int k => ∃ xs j, H p = some (.lst xs) /\ ixN xs.length k = some j /\ Q (upd H p (.lst (xs.set j v)))
  | _, _ => False
theorem set_any : PSet X mSet := by
  intro pins s σ H o i v ov iv u Q I ro ri rv h
  cases o <;> cases i <;> first
    | exact False.elim h
    | (obtain ⟨xs, j, h1, h2, q⟩ := h
       exact set_list pins s σ H _ _ v ov iv u Q I ro ri rv ⟨_, xs, _, j, rfl, rfl, h1, h2, q⟩)
theorem comp_list {K : PySem.W.Frag} {a : Addr} {xs : List V} {σc : St} {Q : VK} {H : Hp} (Pv : Nat -> List V -> Hp -> Prop) (h0 : Pv 0 [] H) (hl : ∀ i ys H, i <= xs.length -> Pv i ys H -> SqL K H a xs) (hz : ∀ i ys H, i < xs.length -> Pv i ys H -> ys.length < sizeLine)
    (hs : ∀ i x ys H, xs[i]? = some x -> Pv i ys H -> g x σc H fun σ2 H2 => tc σ2 H2 fun b H3 => if b = true then te σ2 H3 fun y H4 => Pv (i + 1) (ys ++ [y]) H4 else Pv (i + 1) ys H3)
    (hd : ∀ ys H, Pv xs.length ys H -> ∀ p, H p = none -> Q (.ref p) (upd H p (.lst ys))) : CompTurns (Itl K a) g tc te σc Q H := by
  refine ⟨fun i m ys H => m = xs.length - i /\ i <= xs.length /\ Pv i ys H, ⟨xs.length, by simp, Nat.zero_le _, h0⟩, ?_⟩
  rintro i m ys H ⟨rfl, hi, p⟩
  have q := hl i ys H hi p
  by_cases hlt : i < xs.length
  . refine .inr ⟨⟨xs, xs[i], q, by simp [hlt]⟩, hz i ys H hlt p, Pv (i + 1), fun ys' H' p' => ⟨xs.length - (i + 1), by omega, rfl, hlt, p'⟩, fun x H' y => ?_⟩
    obtain ⟨e, y⟩ := y
    subst e
    exact hs i x ys _ (y xs q) p
  . have e : i = xs.length := by omega
    subst e
    exact .inl ⟨⟨xs, q, Nat.le_refl _⟩, hd ys H p⟩
theorem comp_tup {K : PySem.W.Frag} {a : Addr} {xs : List V} {σc : St} {Q : VK} {H : Hp} (Pv : Nat -> List V -> Hp -> Prop) (h0 : Pv 0 [] H) (hl : ∀ i ys H, i <= xs.length -> Pv i ys H -> SqT K H a xs) (hz : ∀ i ys H, i < xs.length -> Pv i ys H -> ys.length < sizeLine)
    (hs : ∀ i x ys H, xs[i]? = some x -> Pv i ys H -> g x σc H fun σ2 H2 => tc σ2 H2 fun b H3 => if b = true then te σ2 H3 fun y H4 => Pv (i + 1) (ys ++ [y]) H4 else Pv (i + 1) ys H3)
    (hd : ∀ ys H, Pv xs.length ys H -> ∀ p, H p = none -> Q (.ref p) (upd H p (.lst ys))) : CompTurns (Itt K a) g tc te σc Q H := by
  refine ⟨fun i m ys H => m = xs.length - i /\ i <= xs.length /\ Pv i ys H, ⟨xs.length, by simp, Nat.zero_le _, h0⟩, ?_⟩
  rintro i m ys H ⟨rfl, hi, p⟩
  have q := hl i ys H hi p
  by_cases hlt : i < xs.length
  . refine .inr ⟨⟨xs, xs[i], q, by simp [hlt]⟩, hz i ys H hlt p, Pv (i + 1), fun ys' H' p' => ⟨xs.length - (i + 1), by omega, rfl, hlt, p'⟩, fun x H' y => ?_⟩
    obtain ⟨e, y⟩ := y
    subst e
    exact hs i x ys _ (y xs q) p
  . have e : i = xs.length := by omega
    subst e
    exact .inl ⟨⟨xs, q, Nat.le_refl _⟩, hd ys H p⟩
theorem comp_range {lo : Int} {n : Nat} {σc : St} {Q : VK} {H : Hp} (Pv : Nat -> List V -> Hp -> Prop) (h0 : Pv 0 [] H) (hz : ∀ i ys H, i < n -> Pv i ys H -> ys.length < sizeLine)
    (hs : ∀ i ys H, i < n -> Pv i ys H -> g (.int (lo + i)) σc H fun σ2 H2 => tc σ2 H2 fun b H3 => if b = true then te σ2 H3 fun y H4 => Pv (i + 1) (ys ++ [y]) H4 else Pv (i + 1) ys H3)
    (hd : ∀ ys H, Pv n ys H -> ∀ p, H p = none -> Q (.ref p) (upd H p (.lst ys))) : CompTurns (Itr lo n) g tc te σc Q H := by
  refine ⟨fun i m ys H => m = n - i /\ i <= n /\ Pv i ys H, ⟨n, by simp, Nat.zero_le _, h0⟩, ?_⟩
  rintro i m ys H ⟨rfl, hi, p⟩
  by_cases hlt : i < n
  . refine .inr ⟨hlt, hz i ys H hlt p, Pv (i + 1), fun ys' H' p' => ⟨n - (i + 1), by omega, rfl, hlt, p'⟩, fun x H' y => ?_⟩
    obtain ⟨e, y⟩ := y
    subst e y
    exact hs i ys _ hlt p
  . have e : i = n := by omega
    subst e
    exact .inl ⟨Nat.le_refl _, hd ys H p⟩
def vWhile (c : TT) (tb : TS) : TS := fun D σ H => ∃ W : Nat -> St -> Hp -> Prop, (∃ m, W m σ H) /\ ∀ m σ H, W m σ H ->
  c σ H fun b H1 => if b = true then tb { D with nx := fun σ' H' => ∃ m', m' < m /\ W m' σ' H', ct := fun σ' H' => ∃ m', m' < m /\ W m' σ' H', bk := D.nx } σ H1 else D.nx σ H1
theorem ps_whileM {c : Expr} {body : List Stmt} {tc : TT} {tb : TS} (hp : PassesOwn (model X.prog X.w) X.A X.env X.xe) (hc : PT X c tc) (hb : PSs X body tb) : PS X (.While c body [] pos) (vWhile tc tb) := by
  intro pins s σ H D I h
  obtain ⟨W, ⟨m0, w0⟩, turn⟩ := h
  refine wpAny_While (codeAny_whileLoop (fun n s' => ∃ σ' H', Inv X pins σ' H' s' /\ W n σ' H') ?_ m0 ⟨σ, H, I, w0⟩)
  rintro n s1 ⟨σ1, H1, I1, w1⟩
  refine wpAny_passesOwn hp (thn (hc pins s1 σ1 H1 _ I1 (turn n σ1 H1 w1)) fun b s2 ⟨H2, I2, q2⟩ => ?_)
  cases b with
  | true =>
    rw [if_pos rfl] at q2
    rw [if_pos rfl]
    refine wpAny_passesOwn hp (thn (hb pins s2 σ1 H2 _ I2 q2) fun f s3 q3 => ?_)
    cases f with
    | next =>
      obtain ⟨σ3, H3, I3, m', hm, w3⟩ := q3
      exact ⟨m', hm, σ3, H3, I3, w3⟩
    | cont =>
      obtain ⟨σ3, H3, I3, m', hm, w3⟩ := q3
      exact ⟨m', hm, σ3, H3, I3, w3⟩
    | brk => exact q3
    | ret v => exact q3
  | false =>
    rw [if_neg Bool.false_ne_true] at q2
    rw [if_neg Bool.false_ne_true]
    exact wpAny_execs_nil ⟨σ1, H2, I2, q2⟩
end
theorem hu60 {A : Around} {k : Nat} (hr : Room k A) : A.units + 60 < cLine := by have := hr.un; omega
def Frm (t : Addr) (H H' : Hp) : Prop := ∀ b o, b ≠ t -> H b = some o -> H' b = some o
theorem Frm.refl {t : Addr} {H : Hp} : Frm t H H := fun _ _ _ h => h
theorem Frm.trans {t : Addr} {H H1 H2 : Hp} (a : Frm t H H1) (b : Frm t H1 H2) : Frm t H H2 := fun c o n h => b c o n (a c o n h)
theorem Frm.upd {t p : Addr} {H : Hp} {o : HO} (h : H p = none) : Frm t H (upd H p o) := fun b u _ e => by rw [upd_ne (ne_of_none e h)]; exact e
theorem Frm.updT {t : Addr} {H : Hp} {o : HO} : Frm t H (L2.upd H t o) := fun b u n e => by rw [upd_ne n]; exact e
theorem Same.upd {p : Addr} {H : Hp} {o : HO} (h : H p = none) : Same H (L2.upd H p o) := fun b u e => by rw [upd_ne (ne_of_none e h)]; exact e
theorem sqL_stay {K : PySem.W.Frag} {H H' : Hp} {a : Addr} {xs : List V} (h : SqL K H a xs) (k : ∀ o, H a = some o -> H' a = some o) : SqL K H' a xs := by
  rcases h with (h | ⟨o, h⟩) | h
  . exact .inl (.inl (k _ h))
  . exact .inl (.inr ⟨o, k _ h⟩)
  . exact .inr h
theorem sqT_stay {K : PySem.W.Frag} {H H' : Hp} {a : Addr} {xs : List V} (h : SqT K H a xs) (k : ∀ o, H a = some o -> H' a = some o) : SqT K H' a xs := by
  rcases h with (h | ⟨o, h⟩) | h
  . exact .inl (.inl (k _ h))
  . exact .inl (.inr ⟨o, k _ h⟩)
  . exact .inr h
def ScrAt (K : PySem.W.Frag) (H : Hp) (t a : Addr) (ns : List Int) : Prop :=
  (Rd H a (.lst (ns.map V.int)) /\ a ≠ t) \/ ∃ (o : Obj) (its : Array Value) (n : Nat), K.lookup a = some o /\ o.cls = .type "list" /\ o.dict = none /\ o.data = .seq its n /\ its.size <= sizeLine /\ Vals (ns.map V.int) its.toList
theorem ScrAt.stay {K : PySem.W.Frag} {H H' : Hp} {t a : Addr} {ns : List Int} (h : ScrAt K H t a ns) (k : ∀ o, a ≠ t -> H a = some o -> H' a = some o) : ScrAt K H' t a ns := by
  rcases h with ⟨h | ⟨o, h⟩, n⟩ | h
  . exact .inl ⟨.inl (k _ n h), n⟩
  . exact .inl ⟨.inr ⟨o, k _ n h⟩, n⟩
  . exact .inr h
theorem ScrAt.of {K : PySem.W.Frag} {H : Hp} {t a : Addr} {ns : List Int} (h : SqL K H a (ns.map V.int)) (ht : H t = none) : ScrAt K H t a ns := by
  rcases h with h | h
  . refine .inl ⟨h, fun e => ?_⟩
    subst e
    rcases h with h | ⟨o, h⟩ <;> rw [ht] at h <;> cases h
  . exact .inr h
structure Tape (K : PySem.W.Frag) (H : Hp) (t a : Addr) (ns : List Int) : Prop where
  at_ : ∃ i r c : Int, 0 <= i /\ 0 <= r /\ H t = some (.lst [.ref a, .int i, .int r, .int c])
  scr : ScrAt K H t a ns
theorem Tape.same {K : PySem.W.Frag} {H H' : Hp} {t a : Addr} {ns : List Int} (T : Tape K H t a ns) (h : Same H H') : Tape K H' t a ns := by
  obtain ⟨i, r, c, h1, h2, h3⟩ := T.at_
  exact ⟨⟨i, r, c, h1, h2, h _ _ h3⟩, T.scr.stay fun o _ e => h a o e⟩
def spLaw (K : PySem.W.Frag) : Sp := fun vs H Q _ => ∃ (a : Addr) (ns : List Int), vs = [.ref a] /\ SqL K H a (ns.map V.int) /\ ns.length <= 63 /\ ∀ H', Q (.bl true) H'
theorem atI_of {xs : List V} {i : Int} {n : Nat} {v : V} (h : i = (n : Int)) (hx : xs[n]? = some v) : atI xs i = some v := by
  subst h
  have hn : n < xs.length := (List.getElem?_eq_some_iff.mp hx).1
  unfold atI ixN
  rw [if_pos (Int.natCast_nonneg n), if_pos (by omega)]
  simpa using hx
theorem atI_int {ns : List Int} {i : Int} (h0 : 0 <= i) (h1 : i < ns.length) : ∃ z, atI (ns.map V.int) i = some (.int z) := by
  obtain ⟨n, rfl⟩ := Int.eq_ofNat_of_zero_le h0
  have hn : n < ns.length := by omega
  exact ⟨ns[n], atI_of rfl (by rw [List.getElem?_map, List.getElem?_eq_getElem hn]; rfl)⟩
theorem okDiv_of {j : Int} (h1 : 0 < j) (h2 : j <= 2 ^ 1000) : okDiv j := ⟨h1, Int.lt_of_le_of_lt h2 (by decide)⟩
theorem small_le {n : Nat} (h : n <= 1000) : n <= sizeLine := Nat.le_of_lt (small1000 h)
def TMono (t : TT) : Prop := ∀ σ H (Q Q' : Bool -> Hp -> Prop), (∀ b H, Q b H -> Q' b H) -> t σ H Q -> t σ H Q'
def AMono (t : TA) : Prop := ∀ σ H (Q Q' : List V -> Hp -> Prop), (∀ b H, Q b H -> Q' b H) -> t σ H Q -> t σ H Q'
def RMono (r : R2) : Prop := ∀ x y H (Q Q' : VK), (∀ v H, Q v H -> Q' v H) -> r x y H Q -> r x y H Q'
def UMono (r : V -> Hp -> VK -> Prop) : Prop := ∀ x H (Q Q' : VK), (∀ v H, Q v H -> Q' v H) -> r x H Q -> r x H Q'
def CMono (r : List V -> Hp -> VK -> Prop) : Prop := ∀ xs H (Q Q' : VK), (∀ v H, Q v H -> Q' v H) -> r xs H Q -> r xs H Q'
def BMono (r : V -> List V -> Hp -> VK -> Prop) : Prop := ∀ x xs H (Q Q' : VK), (∀ v H, Q v H -> Q' v H) -> r x xs H Q -> r x xs H Q'
def SpMono (sp : Sp) : Prop := ∀ vs H (Q Q' : VK) E, (∀ v H, Q v H -> Q' v H) -> sp vs H Q E -> sp vs H Q' E
def IMono (t : TI) : Prop := ∀ σ H (Q Q' : It -> Hp -> Prop), (∀ J H, Q J H -> Q' J H) -> t σ H Q -> t σ H Q'
def SetMono (t : TSet) : Prop := ∀ o i v H (Q Q' : Hp -> Prop), (∀ H, Q H -> Q' H) -> t o i v H Q -> t o i v H Q'
structure Ends.le (D D' : Ends) : Prop where
  nx : ∀ σ H, D.nx σ H -> D'.nx σ H
  rt : ∀ v H, D.rt v H -> D'.rt v H
  bk : ∀ σ H, D.bk σ H -> D'.bk σ H
  ct : ∀ σ H, D.ct σ H -> D'.ct σ H
def SMono (t : TS) : Prop := ∀ D D' σ H, Ends.le D D' -> t D σ H -> t D' σ H
theorem em_var {i : Nat} : EMono (vVar i) := fun σ H Q Q' h q => by
  unfold vVar at *
  split at q
  . exact h _ _ q
  . exact q.elim
theorem em_c {v : V} : EMono (tC v) := fun _ _ _ _ h q => h _ _ q
theorem em_op {r : R2} {ta tb : TE} (hr : RMono r) (ha : EMono ta) (hb : EMono tb) : EMono (tOp r ta tb) := fun σ H Q Q' h q => ha _ _ _ _ (fun _ _ q => hb _ _ _ _ (fun _ _ q => hr _ _ _ _ _ h q) q) q
theorem em_un {r : V -> Hp -> VK -> Prop} {ta : TE} (hr : UMono r) (ha : EMono ta) : EMono (tUn r ta) := fun σ H Q Q' h q => ha _ _ _ _ (fun _ _ q => hr _ _ _ _ h q) q
theorem rm_add {K} : RMono (mAdd K) := fun x y H Q Q' h q => by
  unfold mAdd at *
  split at q
  . exact h _ _ q
  . exact ⟨q.1, h _ _ q.2⟩
  . rcases q with ⟨l, b, xs, zs, e1, e2, h1, h2, h3, q⟩ | ⟨a, b, xs, ys, e1, e2, h1, h2, h3, h4, q1, q2⟩
    . exact .inl ⟨l, b, xs, zs, e1, e2, h1, h2, h3, fun p hp => h _ _ (q p hp)⟩
    . exact .inr ⟨a, b, xs, ys, e1, e2, h1, h2, h3, h4, fun e => h _ _ (q1 e), fun e p hp => h _ _ (q2 e p hp)⟩
  . exact q.elim
theorem rm_mul : RMono mMul := fun x y H Q Q' h q => by
  unfold mMul at *
  split at q
  . exact ⟨q.1, h _ _ q.2⟩
  . obtain ⟨l, k, xs, e1, e2, h1, h2, h3, h4, q⟩ := q
    exact ⟨l, k, xs, e1, e2, h1, h2, h3, h4, fun p hp => h _ _ (q p hp)⟩
  . exact q.elim
theorem rm_div : RMono mDiv := fun x y H Q Q' h q => by unfold mDiv at *; split at q <;> first | exact ⟨q.1, h _ _ q.2⟩ | exact q.elim
theorem rm_mod : RMono mMod := fun x y H Q Q' h q => by unfold mMod at *; split at q <;> first | exact ⟨q.1, h _ _ q.2⟩ | exact q.elim
theorem rm_pow : RMono mPow := fun x y H Q Q' h q => by unfold mPow at *; split at q <;> first | exact ⟨q.1, h _ _ q.2⟩ | exact q.elim
theorem rm_shl : RMono mShl := fun x y H Q Q' h q => by unfold mShl at *; split at q <;> first | exact ⟨q.1, h _ _ q.2⟩ | exact q.elim
theorem um_neg_ : UMono mNeg := fun x H Q Q' h q => by unfold mNeg at *; split at q <;> first | exact h _ _ q | exact q.elim
theorem rm_cmp {p} : RMono (mCmp p) := fun x y H Q Q' h q => by unfold mCmp at *; split at q <;> first | exact h _ _ q | exact q.elim
theorem rm_eq {n K} : RMono (mEq n K) := fun x y H Q Q' h q => by
  unfold mEq at *
  split at q <;> first | exact h _ _ q | (obtain ⟨d, e, h1, h2, h3, q⟩ := q; exact ⟨d, e, h1, h2, h3, h _ _ q⟩)
theorem rm_ix {K} : RMono (mIx K) := fun x y H Q Q' h q => by
  unfold mIx at *
  split at q
  . obtain ⟨xs, v, h1, h2, q⟩ := q; exact ⟨xs, v, h1, h2, h _ _ q⟩
  . obtain ⟨c, h1, h2, q⟩ := q; exact ⟨c, h1, h2, h _ _ q⟩
  . exact q.elim
theorem isB_mono {v : V} {Q Q' : Bool -> Prop} (h : ∀ b, Q b -> Q' b) (q : isB v Q) : isB v Q' := by
  cases v <;> first | exact h _ q | exact q
theorem tm_b {t : TE} (h : EMono t) : TMono (uB t) := fun σ H Q Q' k q => h _ _ _ _ (fun _ _ q => isB_mono (fun b q => k b _ q) q) q
theorem em_not {ta : TE} (ha : EMono ta) : EMono (vNot ta) := fun σ H Q Q' h q => ha _ _ _ _ (fun _ _ q => isB_mono (fun b q => h _ _ q) q) q
theorem tm_and {t u : TT} (ht : TMono t) (hu : TMono u) : TMono (tAnd t u) := fun σ H Q Q' h q => ht _ _ _ _ (fun b _ q => by
    cases b with
    | true => exact hu _ _ _ _ h q
    | false => exact h _ _ q) q
theorem tm_or {t u : TT} (ht : TMono t) (hu : TMono u) : TMono (tOr t u) := fun σ H Q Q' h q => ht _ _ _ _ (fun b _ q => by
    cases b with
    | true => exact h _ _ q
    | false => exact hu _ _ _ _ h q) q
theorem tm_not {t : TT} (ht : TMono t) : TMono (tNot t) := fun σ H Q Q' h q => ht _ _ _ _ (fun b _ q => h _ _ q) q
theorem am_nil : AMono tNil := fun _ _ _ _ h q => h _ _ q
theorem am_cons {ta : TE} {t : TA} (ha : EMono ta) (ht : AMono t) : AMono (tCons ta t) := fun σ H Q Q' h q => ha _ _ _ _ (fun _ _ q => ht _ _ _ _ (fun _ _ q => h _ _ q) q) q
theorem em_cb {r} {t : TA} (hr : CMono r) (ht : AMono t) : EMono (tCB r t) := fun σ H Q Q' h q => ht _ _ _ _ (fun _ _ q => hr _ _ _ _ h q) q
theorem em_call {sp dvs E} {t : TA} (hs : SpMono sp) (ht : AMono t) : EMono (tCall sp dvs E t) := fun σ H Q Q' h q => ht _ _ _ _ (fun _ _ q => hs _ _ _ _ _ h q) q
theorem em_tup {t : TA} (ht : AMono t) : EMono (tTup t) := fun σ H Q Q' h q => ht _ _ _ _ (fun _ _ q => ⟨q.1, fun p hp => h _ _ (q.2 p hp)⟩) q
theorem em_lst {t : TA} (ht : AMono t) : EMono (tLst t) := fun σ H Q Q' h q => ht _ _ _ _ (fun _ _ q => ⟨q.1, fun p hp => h _ _ (q.2 p hp)⟩) q
theorem em_comp {wi own ix g tc te} (hi : IMono wi) : EMono (tComp wi own ix g tc te) := fun σ H Q Q' h q => hi _ _ _ _ (fun J H1 q => by
    obtain ⟨W, w0, turn⟩ := q
    refine ⟨W, w0, fun i m ys H w => ?_⟩
    rcases turn i m ys H w with ⟨a, b⟩ | r
    . exact .inl ⟨a, fun p hp => h _ _ (b p hp)⟩
    . exact .inr r) q
theorem cm_len_ {K} : CMono (mLen K) := fun xs H Q Q' h q => by unfold mLen at *; split at q <;> first | (obtain ⟨n, a, q⟩ := q; exact ⟨n, a, h _ _ q⟩) | exact q.elim
theorem cm_min_ : CMono mMin := fun xs H Q Q' h q => by unfold mMin at *; split at q <;> first | exact h _ _ q | exact q.elim
theorem cm_tuple_ {K} : CMono (mTuple K) := fun xs H Q Q' h q => by
  unfold mTuple at *
  split at q
  . obtain ⟨ys, ⟨a, q⟩ | ⟨a, q⟩⟩ := q
    . exact ⟨ys, .inl ⟨a, fun l hl => h _ _ (q l hl)⟩⟩
    . exact ⟨ys, .inr ⟨a, h _ _ q⟩⟩
  . exact q.elim
theorem cm_isi_ {K} : CMono (mIsi K) := fun xs H Q Q' h q => by
  unfold mIsi at *
  split at q
  . obtain ⟨a, k, b, q⟩ := q; exact ⟨a, k, b, h _ _ q⟩
  . exact q.elim
theorem im_seq {K} {tl : TE} (h : EMono tl) : IMono (iSeq K tl) := fun σ H Q Q' k q => h _ _ _ _ (fun v H1 q => by
    cases v <;> first | exact q.elim | (rcases q with ⟨a, q⟩ | ⟨a, q⟩
                                        . exact .inl ⟨a, k _ _ q⟩
                                        . exact .inr ⟨a, k _ _ q⟩)) q
theorem im_rng1 {ta : TA} (h : AMono ta) : IMono (iRng1 ta) := fun σ H Q Q' k q => h _ _ _ _ (fun _ _ ⟨j, e, a, b, q⟩ => ⟨j, e, a, b, k _ _ q⟩) q
theorem im_rng2 {ta : TA} (h : AMono ta) : IMono (iRng2 ta) := fun σ H Q Q' k q => h _ _ _ _ (fun _ _ ⟨i, j, e, a, q⟩ => ⟨i, j, e, a, k _ _ q⟩) q
theorem sm_set : SetMono mSet := fun o i v H Q Q' h q => by
  unfold mSet at *
  split at q
  . obtain ⟨xs, j, a, b, q⟩ := q; exact ⟨xs, j, a, b, h _ q⟩
  . exact q.elim
theorem gm_sub {to ti : TE} {t : TSet} (h1 : EMono to) (h2 : EMono ti) (h3 : SetMono t) : GMono (gSub to ti t) := fun v σ H Q Q' h q => h1 _ _ _ _ (fun _ _ q => h2 _ _ _ _ (fun _ _ q => h3 _ _ _ _ _ _ (fun H q => h _ _ q) q) q) q
theorem sm_next : SMono tNext := fun D D' σ H h q => h.nx _ _ q
theorem sm_seq {t u : TS} (h1 : SMono t) (h2 : SMono u) : SMono (tSeq t u) := fun D D' σ H h q => h1 { D with nx := u D } { D' with nx := u D' } σ H ⟨fun σ H q => h2 D D' σ H h q, h.rt, h.bk, h.ct⟩ q
theorem sm_asg {te : TE} {g : TG} (h1 : EMono te) (h2 : GMono g) : SMono (tAsg te g) := fun D D' σ H h q => h1 _ _ _ _ (fun _ _ q => h2 _ _ _ _ _ h.nx q) q
theorem sm_ret {te : TE} (h1 : EMono te) : SMono (tRet te) := fun D D' σ H h q => h1 _ _ _ _ h.rt q
theorem sm_drop {te : TE} (h1 : EMono te) : SMono (tDrop te) := fun D D' σ H h q => h1 _ _ _ _ (fun _ _ q => h.nx _ _ q) q
theorem sm_if {c : TT} {t u : TS} (hc : TMono c) (h1 : SMono t) (h2 : SMono u) : SMono (tIfS c t u) := fun D D' σ H h q => hc _ _ _ _ (fun b _ q => by
    cases b with
    | true => exact h1 _ _ _ _ h q
    | false => exact h2 _ _ _ _ h q) q
theorem sm_while {c : TT} {tb : TS} (hc : TMono c) (h1 : SMono tb) : SMono (vWhile c tb) := fun D D' σ H h q => by
  obtain ⟨W, w0, turn⟩ := q
  refine ⟨W, w0, fun m σ H w => hc _ _ _ _ (fun b H1 q => ?_) (turn m σ H w)⟩
  cases b with
  | true => exact h1 { D with nx := fun σ' H' => ∃ m', m' < m /\ W m' σ' H', ct := fun σ' H' => ∃ m', m' < m /\ W m' σ' H', bk := D.nx } _ _ _ ⟨fun _ _ q => q, h.rt, h.nx, fun _ _ q => q⟩ q
  | false => exact h.nx _ _ q
theorem sm_for {wi : TI} {g : TG} {tb : TS} (hi : IMono wi) (hg : GMono g) (h1 : SMono tb) : SMono (tFor wi g tb) := fun D D' σ H h q => hi _ _ _ _ (fun J H1 q => by
  obtain ⟨W, w0, turn⟩ := q
  refine ⟨W, w0, fun i m σ H w => ?_⟩
  rcases turn i m σ H w with ⟨a, b⟩ | ⟨a, N, hN, step⟩
  . exact .inl ⟨a, h.nx _ _ b⟩
  . exact .inr ⟨a, N, hN, fun x H' y => hg _ _ _ _ _ (fun σ2 H2 q => h1 { D with nx := N, ct := N, bk := D.nx } _ _ _ ⟨fun _ _ q => q, h.rt, h.nx, fun _ _ q => q⟩ q) (step x H' y)⟩) q
theorem seq_at {t u : TS} {D : Ends} {σ : St} {H : Hp} (J : St -> Hp -> Prop) (h1 : t { D with nx := J } σ H) (h2 : ∀ σ' H', J σ' H' -> u D σ' H') (hm : SMono t) : tSeq t u D σ H :=
  hm { D with nx := J } { D with nx := u D } σ H ⟨h2, fun _ _ q => q, fun _ _ q => q, fun _ _ q => q⟩ h1
section
variable {X : Cx} {K : PySem.W.Frag} {a b c e l tg : Expr} {es : List Expr} {ta tb tc te tl : TE} {pos p : Pos}
theorem kAdd (hK : X.K = K := by rfl) : OpR X (binaryOp .Add) (mAdd K) := hK ▸ om_add
theorem kEq (hu : X.A.units + 60 < cLine) (hK : X.K = K := by rfl) : OpR X (compareOp .Eq) (mEq false K) := hK ▸ om_eq hu
theorem kNe (hu : X.A.units + 60 < cLine) (hK : X.K = K := by rfl) : OpR X (compareOp .NotEq) (mEq true K) := hK ▸ om_ne hu
theorem kIx (ha : PE X a ta) (hb : PE X b tb) (hs : PlainIx b := by intro _ _; rfl) (hK : X.K = K := by rfl) : PE X (.Subscript a b pos) (tOp (mIx K) ta tb) := hK ▸ pe_ixM ha hb hs
theorem kLen (hK : X.K = K := by rfl) : CallR X (.builtin "len") (mLen K) := hK ▸ cm_len
theorem kTuple (hK : X.K = K := by rfl) : CallR X (.type "tuple") (mTuple K) := hK ▸ cm_tuple
theorem kList (hK : X.K = K := by rfl) : CallR X (.type "list") (mList K) := hK ▸ cm_list
theorem kIsi (hK : X.K = K := by rfl) : CallR X (.builtin "isinstance") (mIsi K) := hK ▸ cm_isi
theorem kSeq (hl : PE X l tl) (hK : X.K = K := by rfl) : PI X tg l (iSeq K tl) := hK ▸ pi_seq hl
theorem kTup {es : List Expr} {k : Nat} {t : TGs} {n : Nat} (hc : X.calm = true) (h : PGs X es t)
    (hn : (assignEach es X.env).length = n := by rfl) (hst : (assignEach es X.env).findIdx? (·.1) = none := by rfl) (hK : X.K = K := by rfl) : PG X (.Tuple es k pos) (gTup K n t) := hK ▸ pg_tup hc h hn hst
end
theorem Inv.turnedNew {X : Cx} {pins : List (Addr × Obj)} {σ : St} {H : Hp} {s : Shared} {h' : Heap} {ch : List Addr} {T : Addr} {o : HO} (I : Inv X pins σ H s) (hf : ∀ b ∈ ch, FpOk X pins H b) (hT : s.heap.objs.size <= T)
    (k : ∀ b u, b ∉ ch -> s.heap.get? b = some u -> h'.get? b = some u) (new : ObjOk X.prog X.w (upd H T o) h' T o) (th : ∀ b ∈ ch, ∃ u, h'.get? b = some u) : Inv X pins σ (upd H T o) { s with heap := h' } := by
  have hTn : H T = none := I.hok.fresh hT
  have nT : ∀ b u, H b = some u -> b ≠ T := fun b u e z => by rw [z, hTn] at e; cases e
  have nc : ∀ b u, H b = some u -> b ∉ ch := fun b u e z => by rw [(hf b z).1] at e; cases e
  refine I.step (g' := s.gens) (d' := s.drawn) (t' := s.toks) (ch := ch) (fun b hb => ?_) (fun b u _ _ hc e _ => k b u hc e) (fun b u _ _ hc e _ => ⟨u.slots, k b u hc e⟩) (fun b u hc e n => ?_) (fun b u hc e => ⟨u, k b u hc e⟩)
    (fun b xs e => by rw [upd_ne (nT _ _ e)]; exact e) (fun b u v e => by rw [upd_ne (nT _ _ e)]; exact e) (fun b ps e => ⟨#[], by rw [upd_ne (nT _ _ e), e]; simp⟩) (fun m hm => ?_) (fun b u e => ?_) I.bare
  . obtain ⟨q1, q2, q3, q4, q5, q6⟩ := hf b hb
    exact ⟨q4, q2, q5, q6⟩
  . rw [upd_ne (Nat.ne_of_lt (Nat.lt_of_lt_of_le (Heap.lt_size e) hT))]; exact n
  . obtain ⟨u, es, ep, ho, r⟩ := hm
    exact ⟨u, es, ep, k _ u (fun z => (hf _ z).2.1 rfl) ho, r⟩
  . by_cases hb : b = T
    . subst hb; rw [upd_same] at e; cases e; exact new
    . rw [upd_ne hb] at e
      refine (I.hok b u e).stay (fun c v hc q => k c v ?_ q) (fun c q => by rw [upd_ne (nT _ _ q)]; exact q) fun c xs q => by rw [upd_ne (nT _ _ q)]; exact q
      rcases hc with z | z
      . rw [z]; exact nc b u e
      . exact nc c _ z
section
variable {X : Cx}
end
section
variable {X : Cx} {K : PySem.W.Frag} {o e : Expr} {es : List Expr} {to : TE} {t : TA} {apos cpos : Pos}
def mAppend : V -> List V -> Hp -> VK -> Prop := fun x vs H Q => match x, vs with
  | .ref l, [y] => ∃ xs, H l = some (.lst xs) /\ xs.length < sizeLine /\ Q .non (upd H l (.lst (xs ++ [y])))
  | _, _ => False
theorem mm_append : MtR X "list.append" mAppend := by
  intro pins s σ H x vs v us Q I rx rv q
  match x, vs, q with
  | .ref l, [y], ⟨xs, h1, h2, q⟩ => exact mt_append pins s σ H _ _ v us Q I rx rv ⟨l, xs, y, rfl, rfl, h1, h2, q⟩
theorem kAppend (ho : PE X o to) (ha : PA X [e] t) (hbase : attributeBase o "append" X.env (eval o X.env) = eval o X.env := by rfl)
    (hfew : ((backTo cpos (starEach [e] X.env)).all (fun x => !x.1) && (backToKw cpos (keywordEach [] X.env)).all (fun x => x.1.isSome)
      && decide ([e].length + ([] : List Keyword).length + (if ([] : List Keyword).isEmpty then 0 else 1) < 30)) = true := by rfl)
    (hline : (apos.endLine == cpos.line) = true := by rfl) (hs : starEach [e] X.env = (false, eval e X.env) :: starEach [] X.env := by rfl) (hplain : (backTo cpos (starEach [] X.env)).any (·.1) = false := by rfl) (hK : X.K = K := by rfl) :
    PE X (.Call (.Attribute o "append" apos) [e] [] cpos) (tBM K "list" mAppend to t) := hK ▸ pe_bm PySem.F.plainAttrs_list PySem.F.slot_list_append PySem.F.type_list_append mm_append ho ha hbase hfew hline hs hplain
theorem em_bm {T : String} {r : V -> List V -> Hp -> VK -> Prop} (h1 : EMono to) (h2 : AMono t) (h3 : BMono r) : EMono (tBM K T r to t) := fun σ H Q Q' h q => h1 _ _ _ _ (fun _ _ q => ⟨q.1, h2 _ _ _ _ (fun _ _ q => h3 _ _ _ _ _ h q) q.2⟩) q
theorem bm_append : BMono mAppend := fun x xs H Q Q' h q => by
  unfold mAppend at *
  split at q
  . obtain ⟨ys, a, b, q⟩ := q; exact ⟨ys, a, b, h _ _ q⟩
  . exact q.elim
def mSum (K : PySem.W.Frag) : List V -> Hp -> VK -> Prop := fun xs H Q => match xs with
  | [.ref l] => ∃ ns : List Int, SqL K H l (ns.map V.int) /\ Q (.int ns.sum) H
  | _ => False
theorem cm_sum (hc : X.calm = true) : CallR X (.builtin "sum") (mSum X.K) := by
  intro pins s σ H xs us Q I r q
  match xs, q with
  | [.ref l], q =>
  obtain ⟨ns, hl, q⟩ := q
  obtain ⟨u, rfl, ru⟩ := vals1 r
  cases ru
  obtain ⟨its, rv, pl, hz⟩ := I.list hl
  have hi : IntsAre its ns := by simpa using intsAre_of rv
  obtain ⟨zs, hzs⟩ := (hi.allInts).items
  have e : (numsOf its).sum = ns.sum := by rw [hi.numsOf]
  have pl' := pl.isList
  rw [hzs] at pl'
  refine sum_intListG (I.ok.hd hc) pl' fun h' tk t' hk => ?_
  refine ⟨.int _, H, I.kept hk, ⟨t', rfl⟩, ?_⟩
  have e2 : preSum (numAt zs) zs.size = ns.sum := by
    rw [preSum_eq, List.take_of_length_le (by simp), <- e]
    rw [show its = its.toArray.toList by simp, hzs, nums_intItems]
  rw [e2]
  exact q
theorem kSum (hc : X.calm = true) (hK : X.K = K := by rfl) : CallR X (.builtin "sum") (mSum K) := hK ▸ cm_sum hc
end
section
variable {prog : Program} {w : World} {A : Around} {E : Value -> Shared -> Prop} {s : Shared}
end
section
variable {X : Cx} {K : PySem.W.Frag} {pos p2 : Pos} {e : Expr} {lo hi : Option Expr} {te : TE} {tl th : TO}
def mCut (K : PySem.W.Frag) : V -> Option Int -> Option Int -> Hp -> VK -> Prop := fun x lo hi H Q => match x with
  | .ref a => ∃ xs, (SqL K H a xs /\ ∀ p, H p = none -> Q (.ref p) (upd H p (.lst (cutV xs lo hi)))) \/
      (SqT K H a xs /\ ¬ (HT.sIx xs.length 0 lo = 0 /\ HT.sIx xs.length xs.length hi = xs.length) /\ ∀ p, H p = none -> Q (.ref p) (upd H p (.tup (cutV xs lo hi))))
  | _ => False
theorem sm_cut : SlR X (mCut X.K) := by
  intro pins s σ H x v vl vu lo hi sl Q I rx hs pl pu q
  cases x with
  | ref a =>
    obtain ⟨xs, ⟨h, q⟩ | ⟨h, h2, q⟩⟩ := q
    . exact sl_list pins s σ H _ v vl vu lo hi sl Q I rx hs pl pu ⟨a, xs, rfl, h, q⟩
    . exact sl_tup pins s σ H _ v vl vu lo hi sl Q I rx hs pl pu ⟨a, xs, rfl, h, h2, q⟩
  | _ => exact False.elim q
theorem kCut (he : PE X e te) (hl : PO X lo tl) (hu : PO X hi th) (hK : X.K = K := by rfl) : PE X (.Subscript e (.Slice lo hi none p2) pos) (tSl (mCut K) te tl th) := hK ▸ pe_slice sm_cut he hl hu
def OMono (t : TO) : Prop := ∀ σ H (Q Q' : Option Int -> Hp -> Prop), (∀ b H, Q b H -> Q' b H) -> t σ H Q -> t σ H Q'
theorem om_none : OMono tNoPart := fun _ _ _ _ h q => h _ _ q
theorem om_some (h : EMono te) : OMono (tPart te) := fun σ H Q Q' k q => h _ _ _ _ (fun _ _ ⟨i, e, q⟩ => ⟨i, e, k _ _ q⟩) q
end
theorem sqT_same {K : PySem.W.Frag} {H H' : Hp} {a : Addr} {xs : List V} (h : SqT K H a xs) (s : Same H H') : SqT K H' a xs := sqT_stay h fun o e => s a o e
mutual
theorem Rep.same {K : PySem.W.Frag} {H H' : Hp} (s : Same H H') : ∀ (d : Dv) (v : V), Rep K H d v -> Rep K H' d v
  | .non, v, h => by unfold Rep at *; exact h
  | .bl b, v, h => by unfold Rep at *; exact h
  | .int i, v, h => by unfold Rep at *; exact h
  | .str x, v, h => by unfold Rep at *; exact h
  | .tup ds, v, h => by
    unfold Rep at *
    obtain ⟨a, xs, e, h1, h2⟩ := h
    exact ⟨a, xs, e, sqT_same h1 s, Reps.same s ds xs h2⟩
  | .lst ds, v, h => by
    unfold Rep at *
    obtain ⟨a, xs, e, h1, h2⟩ := h
    exact ⟨a, xs, e, sqL_stay h1 fun o e => s a o e, Reps.same s ds xs h2⟩
theorem Reps.same {K : PySem.W.Frag} {H H' : Hp} (s : Same H H') : ∀ (ds : List Dv) (xs : List V), Reps K H ds xs -> Reps K H' ds xs
  | [], xs, h => by unfold Reps at *; exact h
  | d :: ds, xs, h => by
    unfold Reps at *
    obtain ⟨x, r, e, h1, h2⟩ := h
    exact ⟨x, r, e, Rep.same s d x h1, Reps.same s ds r h2⟩
end
mutual
def tupOnly : Dv -> Bool
  | .tup ds => tupsOnly ds
  | .lst _ => false
  | _ => true
def tupsOnly : List Dv -> Bool
  | [] => true
  | d :: ds => tupOnly d && tupsOnly ds
end
mutual
theorem Rep.frm {K : PySem.W.Frag} {H H' : Hp} {t : Addr} (s : Frm t H H') (ht : ∃ zs, H t = some (.lst zs)) : ∀ (d : Dv) (v : V), tupOnly d = true -> Rep K H d v -> Rep K H' d v
  | .non, v, _, h => by unfold Rep at *; exact h
  | .bl b, v, _, h => by unfold Rep at *; exact h
  | .int i, v, _, h => by unfold Rep at *; exact h
  | .str x, v, _, h => by unfold Rep at *; exact h
  | .tup ds, v, hd, h => by
    unfold tupOnly at hd
    unfold Rep at *
    obtain ⟨a, xs, e, h1, h2⟩ := h
    refine ⟨a, xs, e, ?_, Reps.frm s ht ds xs hd h2⟩
    obtain ⟨zs, hz⟩ := ht
    rcases h1 with (h1 | ⟨o, h1⟩) | h1
    . exact .inl (.inl (s a _ (fun q => by rw [q, hz] at h1; cases h1) h1))
    . exact .inl (.inr ⟨o, s a _ (fun q => by rw [q, hz] at h1; cases h1) h1⟩)
    . exact .inr h1
  | .lst ds, v, hd, h => by unfold tupOnly at hd; cases hd
theorem Reps.frm {K : PySem.W.Frag} {H H' : Hp} {t : Addr} (s : Frm t H H') (ht : ∃ zs, H t = some (.lst zs)) : ∀ (ds : List Dv) (xs : List V), tupsOnly ds = true -> Reps K H ds xs -> Reps K H' ds xs
  | [], xs, _, h => by unfold Reps at *; exact h
  | d :: ds, xs, hd, h => by
    unfold tupsOnly at hd
    rw [Bool.and_eq_true] at hd
    unfold Reps at *
    obtain ⟨x, r, e, h1, h2⟩ := h
    exact ⟨x, r, e, Rep.frm s ht d x hd.1 h1, Reps.frm s ht ds r hd.2 h2⟩
end
theorem Tape.lst {K : PySem.W.Frag} {H : Hp} {t a : Addr} {ns : List Int} (T : Tape K H t a ns) : ∃ zs, H t = some (.lst zs) := by
  obtain ⟨i, r, c, _, _, h⟩ := T.at_
  exact ⟨_, h⟩
theorem rep_tup1 {K : PySem.W.Frag} {H : Hp} {p : Addr} {xs : List V} {ds : List Dv} (h : H p = some (.tup xs)) (r : Reps K H ds xs) : Rep K H (.tup ds) (.ref p) := by unfold Rep; exact ⟨p, xs, rfl, .of h, r⟩
theorem reps_nil {K : PySem.W.Frag} {H : Hp} : Reps K H [] [] := by unfold Reps; rfl
theorem reps_cons {K : PySem.W.Frag} {H : Hp} {d : Dv} {ds : List Dv} {x : V} {xs : List V} (h : Rep K H d x) (r : Reps K H ds xs) : Reps K H (d :: ds) (x :: xs) := by unfold Reps; exact ⟨x, xs, rfl, h, r⟩
theorem rep_int {K : PySem.W.Frag} {H : Hp} {x : Int} : Rep K H (.int x) (.int x) := by unfold Rep; rfl
theorem rep_bl {K : PySem.W.Frag} {H : Hp} {x : Bool} : Rep K H (.bl x) (.bl x) := by unfold Rep; rfl
theorem Reps.append {K : PySem.W.Frag} {H : Hp} : ∀ {ds es : List Dv} {xs ys : List V}, Reps K H ds xs -> Reps K H es ys -> Reps K H (ds ++ es) (xs ++ ys)
  | [], es, xs, ys, h, h' => by unfold Reps at h; subst h; exact h'
  | d :: ds, es, xs, ys, h, h' => by
    unfold Reps at h
    obtain ⟨x, r, rfl, h1, h2⟩ := h
    exact reps_cons h1 (Reps.append h2 h')
section
variable {κ : Type} [DecidableEq κ]
def valV (kvs : List (κ × V)) (k : κ) : Option V := (kvs.find? fun kv => decide (kv.1 = k)).map (·.2)
def putK (kvs : List (κ × V)) (k : κ) (v : V) : List (κ × V) :=
  if (kvs.any fun kv => decide (kv.1 = k)) = true then kvs.map (fun kv => if kv.1 = k then (kv.1, v) else kv) else kvs ++ [(k, v)]
theorem valV_pos {p : κ × V} {r : List (κ × V)} {k : κ} (e : p.1 = k) : valV (p :: r) k = some p.2 := by simp [valV, List.find?_cons, e]
theorem valV_neg {p : κ × V} {r : List (κ × V)} {k : κ} (e : ¬ p.1 = k) : valV (p :: r) k = valV r k := by simp [valV, List.find?_cons, e]
theorem valV_any (k : κ) : ∀ kvs : List (κ × V), (kvs.any fun kv => decide (kv.1 = k)) = (valV kvs k).isSome
  | [] => rfl
  | p :: r => by
    rw [List.any_cons]
    by_cases e : p.1 = k
    . simp only [valV_pos e, decide_eq_true e, Bool.true_or, Option.isSome_some]
    . rw [valV_neg e, decide_eq_false e, Bool.false_or]; exact valV_any k r
theorem valV_map (k j : κ) (y : V) : ∀ kvs : List (κ × V), valV (kvs.map fun kv => if kv.1 = k then (kv.1, y) else kv) j = (valV kvs j).map fun x => if j = k then y else x
  | [] => rfl
  | p :: r => by
    have ih := valV_map k j y r
    rw [List.map_cons]
    by_cases h : p.1 = k
    . rw [if_pos h]
      by_cases e : p.1 = j
      . rw [valV_pos (p := (p.1, y)) e, valV_pos e, Option.map_some, if_pos (e.symm.trans h)]
      . rw [valV_neg (p := (p.1, y)) e, valV_neg e, ih]
    . rw [if_neg h]
      by_cases e : p.1 = j
      . rw [valV_pos (p := p) e, valV_pos e, Option.map_some, if_neg (fun z => h (e.trans z))]
      . rw [valV_neg (p := p) e, valV_neg e, ih]
theorem valV_snoc (k j : κ) (y : V) : ∀ kvs : List (κ × V), valV kvs k = none -> valV (kvs ++ [(k, y)]) j = if j = k then some y else valV kvs j
  | [], _ => by
    by_cases e : k = j
    . rw [if_pos e.symm]; exact valV_pos (p := (k, y)) e
    . rw [if_neg (fun z => e z.symm)]; exact valV_neg (p := (k, y)) e
  | p :: r, hn => by
    rw [List.cons_append]
    have hk : ¬ p.1 = k := fun z => by rw [valV_pos z] at hn; cases hn
    rw [valV_neg hk] at hn
    have ih := valV_snoc k j y r hn
    by_cases e : p.1 = j
    . rw [valV_pos e, valV_pos e, if_neg (fun z => hk (e.trans z))]
    . rw [valV_neg e, valV_neg e, ih]
theorem valV_put (kvs : List (κ × V)) (k j : κ) (y : V) : valV (putK kvs k y) j = if j = k then some y else valV kvs j := by
  unfold putK
  by_cases a : (kvs.any fun kv => decide (kv.1 = k)) = true
  . rw [if_pos a, valV_map]
    rw [valV_any] at a
    by_cases e : j = k
    . obtain ⟨x, hx⟩ := Option.isSome_iff_exists.mp a
      rw [if_pos e, e, hx, Option.map_some, if_pos rfl]
    . rw [if_neg e]
      cases valV kvs j with
      | none => rfl
      | some x => rw [Option.map_some, if_neg e]
  . rw [if_neg a]
    refine valV_snoc k j y kvs ?_
    rw [valV_any] at a
    cases q : valV kvs k with
    | none => rfl
    | some x => rw [q] at a; exact (a rfl).elim
theorem length_putK (kvs : List (κ × V)) (k : κ) (v : V) : (putK kvs k v).length <= kvs.length + 1 := by
  unfold putK
  split
  . rw [List.length_map]; omega
  . rw [List.length_append, List.length_cons, List.length_nil]; omega
theorem RelO.isSome_eq {o : Option V} {u : Option Value} (r : RelO o u) : o.isSome = u.isSome := by
  cases o with
  | none => cases u with
    | none => rfl
    | some _ => exact (show False from r).elim
  | some _ => cases u with
    | none => exact (show False from r).elim
    | some _ => rfl
theorem KV.val {kvs : List (κ × V)} {vs : List (κ × Value)} (r : KV kvs vs) (k : κ) : RelO (valV kvs k) (valueAt vs k) := by
  unfold KV at r
  induction r with
  | nil => exact True.intro
  | @cons p q ps qs h t ih =>
    obtain ⟨h1, h2⟩ := h
    by_cases e : p.1 = k
    . have e' : q.1 = k := h1.symm.trans e
      have b : valueAt (q :: qs) k = some q.2 := by simp [valueAt, List.find?_cons, e']
      rw [valV_pos e, b]; exact h2
    . have e' : ¬ q.1 = k := fun z => e (h1.trans z)
      have b : valueAt (q :: qs) k = valueAt qs k := by simp [valueAt, List.find?_cons, e']
      rw [valV_neg e, b]; exact ih
theorem KV.any {kvs : List (κ × V)} {vs : List (κ × Value)} (r : KV kvs vs) (k : κ) : (kvs.any fun kv => decide (kv.1 = k)) = vs.any fun kv => decide (kv.1 = k) := by
  unfold KV at r
  induction r with
  | nil => rfl
  | cons h t ih => rw [List.any_cons, List.any_cons, ih, h.1]
theorem KV.repl {kvs : List (κ × V)} {vs : List (κ × Value)} (r : KV kvs vs) (k : κ) {y : V} {u : Value} (ry : RelV y u) :
    KV (kvs.map fun kv => if kv.1 = k then (kv.1, y) else kv) (vs.map fun kv => if kv.1 = k then (kv.1, u) else kv) := by
  unfold KV at r ⊢
  induction r with
  | nil => exact .nil
  | @cons p q ps qs h t ih =>
    rw [List.map_cons, List.map_cons]
    refine .cons ?_ ih
    obtain ⟨h1, h2⟩ := h
    by_cases e : p.1 = k
    . rw [if_pos e, if_pos (h1.symm.trans e)]; exact ⟨h1, ry⟩
    . rw [if_neg e, if_neg (fun z => e (h1.trans z))]; exact ⟨h1, h2⟩
theorem KV.put {kvs : List (κ × V)} {vs : List (κ × Value)} (r : KV kvs vs) (k : κ) {y : V} {u : Value} (ry : RelV y u) : KV (putK kvs k y) (stored vs k u) := by
  unfold putK stored
  rw [r.any k]
  by_cases e : (vs.any fun kv => decide (kv.1 = k)) = true
  . rw [if_pos e, if_pos e]; exact r.repl k ry
  . rw [if_neg e, if_neg e]; exact Paired.snoc r ⟨rfl, ry⟩
theorem KV.length {kvs : List (κ × V)} {vs : List (κ × Value)} (r : KV kvs vs) : kvs.length = vs.length := Paired.length r
end
theorem kV_is {P : Program} {w : World} {k : Key} {u : Value} (r : RelV (kV k) u) : (mixKind P w).is k u = true := by
  cases k with
  | inl i => obtain ⟨t, e⟩ := (show ∃ t, u = Value.int i t from r); subst e; exact mixKind_int P w i t
  | inr x => obtain ⟨t, e⟩ := (show ∃ t, u = Value.str x t from r); subst e; exact mixKind_str P w x t
theorem items_are {P : Program} {w : World} : ∀ {ks : List Key} {us : List Value}, Vals (ks.map kV) us -> ItemsAre (mixKind P w) ks us
  | [], _, r => by rw [List.map_nil] at r; cases r; exact .nil
  | k :: ks, _, r => by
    rw [List.map_cons] at r
    cases r with
    | cons h t => exact .cons (kV_is h) (items_are t)
abbrev KT (H : Hp) : List (List Key × V) -> List (List Key × Addr × Value) -> Prop := Paired fun p q => p.1 = q.1 /\ H q.2.1 = some (.tup (p.1.map kV)) /\ RelV p.2 q.2.2
theorem KT.val {H : Hp} {kvs : List (List Key × V)} {xs : List (List Key × Addr × Value)} (r : KT H kvs xs) (k : List Key) : RelO (valV kvs k) ((atKey xs k).map (·.2)) := by
  induction r with
  | nil => exact True.intro
  | @cons p q ps qs h t ih =>
    obtain ⟨h1, _, h2⟩ := h
    by_cases e : p.1 = k
    . have e' : q.1 = k := h1.symm.trans e
      have b : atKey (q :: qs) k = some q.2 := by simp [atKey, List.find?_cons, e']
      rw [valV_pos e, b]; exact h2
    . have e' : ¬ q.1 = k := fun z => e (h1.trans z)
      have b : atKey (q :: qs) k = atKey qs k := by simp [atKey, List.find?_cons, e']
      rw [valV_neg e, b]; exact ih
theorem KT.repl {H : Hp} {kvs : List (List Key × V)} {xs : List (List Key × Addr × Value)} (r : KT H kvs xs) (k : List Key) {y : V} {u : Value} (ry : RelV y u) :
    KT H (kvs.map fun kv => if kv.1 = k then (kv.1, y) else kv) (xs.map (putAt k u)) := by
  induction r with
  | nil => exact .nil
  | @cons p q ps qs h t ih =>
    rw [List.map_cons, List.map_cons]
    refine .cons ?_ ih
    obtain ⟨h1, h2, h3⟩ := h
    unfold putAt
    by_cases e : p.1 = k
    . rw [if_pos e, if_pos (h1.symm.trans e)]; exact ⟨h1, h2, ry⟩
    . rw [if_neg e, if_neg (fun z => e (h1.trans z))]; exact ⟨h1, h2, h3⟩
theorem KT.put {H : Hp} {kvs : List (List Key × V)} {xs : List (List Key × Addr × Value)} (r : KT H kvs xs) (k : List Key) {b : Addr} {y : V} {u : Value} (hb : H b = some (.tup (k.map kV))) (ry : RelV y u) :
    KT H (putK kvs k y) (storedH xs k b u) := by
  have e : (kvs.any fun kv => decide (kv.1 = k)) = (atKey xs k).isSome := by
    rw [valV_any, (r.val k).isSome_eq, Option.isSome_map]
  unfold putK storedH
  rw [e]
  by_cases q : (atKey xs k).isSome = true
  . rw [if_pos q, if_pos q]; exact r.repl k ry
  . rw [if_neg q, if_neg q]; exact Paired.snoc r ⟨rfl, hb, ry⟩
theorem KT.keeps {H H' : Hp} {kvs : List (List Key × V)} {xs : List (List Key × Addr × Value)} (r : KT H kvs xs) (ht : ∀ b ys, H b = some (.tup ys) -> H' b = some (.tup ys)) : KT H' kvs xs :=
  Paired.mapP r fun _ _ z => ⟨z.1, ht _ _ z.2.1, z.2.2⟩
section
variable {P : Program} {w : World} {H : Hp} {h : Heap} {a : Addr}
theorem rd_of {u : HO} (ok : HOk P w H h) (e : Rd H a u) : ObjOk P w H h a u := e.ok ok
theorem dk_rd {kvs : List (Key × V)} (ok : HOk P w H h) (e : Rd H a (.dK kvs)) : kvs.length <= sizeLine /\ (a == sysModules) = false /\ ∃ vs, KV kvs vs /\ h.DictOf (mixKind P w) a vs :=
  show ObjOk P w H h a (.dK kvs) from rd_of ok e
theorem dk_of {kvs : List (Key × V)} (ok : HOk P w H h) (e : H a = some (.dK kvs)) : kvs.length <= sizeLine /\ (a == sysModules) = false /\ ∃ vs, KV kvs vs /\ h.DictOf (mixKind P w) a vs := dk_rd ok (.inl e)
theorem key_of {ks : List Key} (ok : HOk P w H h) (e : H a = some (.tup (ks.map kV))) : (tupleKind (mixKind P w)).is h ks a := by
  obtain ⟨_, its, r, o, h1, h2, ⟨n, h3⟩, _⟩ := (show ObjOk P w H h a (.tup (ks.map kV)) from ok a _ e)
  exact ⟨o, its.toArray, n, h1, h2, h3, by simpa using items_are r⟩
theorem dt_rd {kvs : List (List Key × V)} (ok : HOk P w H h) (e : Rd H a (.dT kvs)) : kvs.length <= sizeLine /\ (a == sysModules) = false /\
    ∃ xs, KT H kvs xs /\ h.DictOfH (tupleKind (mixKind P w)) a xs := by
  obtain ⟨z, y, xs, r, o, es, ep, h1, h2, h3, h4, h5⟩ := (show ObjOk P w H h a (.dT kvs) from rd_of ok e)
  refine ⟨z, y, xs, r, o, es, ep, h1, h2, h3, h4, fun x hx => ?_, h5⟩
  have all : ∀ {l : List (List Key × V)} {m : List (List Key × Addr × Value)}, KT H l m -> ∀ x ∈ m, (tupleKind (mixKind P w)).is h x.1 x.2.1 := by
    intro l m q
    induction q with
    | nil => intro x hx; exact nomatch hx
    | @cons p q ps qs hq t ih =>
      intro x hx
      rcases List.mem_cons.mp hx with e | hx
      . subst e
        exact key_of ok (by rw [<- hq.1]; exact hq.2.1)
      . exact ih x hx
  exact all r x hx
theorem dt_of {kvs : List (List Key × V)} (ok : HOk P w H h) (e : H a = some (.dT kvs)) : kvs.length <= sizeLine /\ (a == sysModules) = false /\
    ∃ xs, KT H kvs xs /\ h.DictOfH (tupleKind (mixKind P w)) a xs := dt_rd ok (.inl e)
end
def DGet (H : Hp) (a : Addr) (y : V) (r : Option V) : Prop :=
  (∃ kvs k, Rd H a (.dK kvs) /\ y = kV k /\ r = valV kvs k) \/ ∃ kvs k b, Rd H a (.dT kvs) /\ y = .ref b /\ H b = some (.tup (k.map kV)) /\ r = valV kvs k
def DPut (H : Hp) (a : Addr) (y v : V) (H' : Hp) : Prop :=
  (∃ kvs k, H a = some (.dK kvs) /\ y = kV k /\ kvs.length < sizeLine /\ H' = upd H a (.dK (putK kvs k v))) \/
  ∃ kvs k b, H a = some (.dT kvs) /\ y = .ref b /\ H b = some (.tup (k.map kV)) /\ kvs.length < sizeLine /\ H' = upd H a (.dT (putK kvs k v))
theorem DGet.k {H : Hp} {a : Addr} {kvs : List (Key × V)} {k : Key} (e : H a = some (.dK kvs)) : DGet H a (kV k) (valV kvs k) := .inl ⟨kvs, k, .inl e, rfl, rfl⟩
theorem DGet.t {H : Hp} {a b : Addr} {kvs : List (List Key × V)} {k : List Key} (e : H a = some (.dT kvs)) (eb : H b = some (.tup (k.map kV))) : DGet H a (.ref b) (valV kvs k) := .inr ⟨kvs, k, b, .inl e, rfl, eb, rfl⟩
theorem DPut.k {H : Hp} {a : Addr} {kvs : List (Key × V)} {k : Key} {v : V} (e : H a = some (.dK kvs)) (hl : kvs.length < sizeLine) : DPut H a (kV k) v (upd H a (.dK (putK kvs k v))) := .inl ⟨kvs, k, e, rfl, hl, rfl⟩
theorem DPut.t {H : Hp} {a b : Addr} {kvs : List (List Key × V)} {k : List Key} {v : V} (e : H a = some (.dT kvs)) (eb : H b = some (.tup (k.map kV))) (hl : kvs.length < sizeLine) :
    DPut H a (.ref b) v (upd H a (.dT (putK kvs k v))) := .inr ⟨kvs, k, b, e, rfl, eb, hl, rfl⟩
section
variable {X : Cx} {pins : List (Addr × Obj)} {σ : St} {H : Hp} {s : Shared} {a : Addr} {y v : V} {u r : Value} {o : Option V} {A : Around} {E : Value -> Shared -> Prop}
theorem Inv.big (I : Inv X pins σ H s) : sysModules < s.heap.objs.size := by
  have h : mainGlobals < s.heap.objs.size := (I.mod.glob.keeps I.bk).lt
  exact Nat.lt_trans (by decide) h
theorem d_getItem {Q : Value -> Shared -> Prop} (hu : A.units + 1 < cLine) (I : Inv X pins σ H s) (g : DGet H a y (some v)) (ry : RelV y u) (h : ∀ w' s', Inv X pins σ H s' -> RelV v w' -> Q w' s') :
    wpAny (model X.prog X.w) A (getItem (.ref a) u) Q E s := by
  rcases g with ⟨kvs, k, e, ey, l⟩ | ⟨kvs, k, b, e, ey, eb, l⟩
  . subst ey
    obtain ⟨z, hd, vs, rel, dd⟩ := dk_rd I.hok e
    obtain ⟨w', hw, rw'⟩ := RelO.some_of (v := v) (o := valueAt vs k) (by rw [l]; exact rel.val k)
    exact wpAny_getItem_of (kV_is ry) dd.mapOf hw (h w' _ (I.tok _) rw')
  . subst ey
    cases (show u = Value.ref b from ry)
    obtain ⟨z, hd, xs, rel, dd⟩ := dt_rd I.hok e
    obtain ⟨w', hw, rw'⟩ := RelO.some_of (v := v) (o := (atKey xs k).map (·.2)) (by rw [l]; exact rel.val k)
    obtain ⟨p, hp, hp2⟩ := Option.map_eq_some_iff.mp hw
    refine wpAny_getItem_heap (tupleKind_room_in1 hu) (key_of I.hok eb) dd hp ?_
    rw [hp2]
    exact h w' _ (I.tok _) rw'
theorem d_notIn {Q : Value -> Shared -> Prop} (hu : A.units + 1 < cLine) (I : Inv X pins σ H s) (g : DGet H a y o) (ry : RelV y u) (h : ∀ s', Inv X pins σ H s' -> Q (.bool (!o.isSome)) s') :
    wpAny (model X.prog X.w) A (compareOp .NotIn u (.ref a)) Q E s := by
  rcases g with ⟨kvs, k, e, ey, l⟩ | ⟨kvs, k, b, e, ey, eb, l⟩
  . subst ey
    obtain ⟨z, hd, vs, rel, dd⟩ := dk_rd I.hok e
    refine wpAny_notIn_of (kV_is ry) hd dd.mapOf ?_
    rw [<- (rel.val k).isSome_eq, <- l]
    exact h _ (I.tok _)
  . subst ey
    cases (show u = Value.ref b from ry)
    obtain ⟨z, hd, xs, rel, dd⟩ := dt_rd I.hok e
    refine wpAny_notIn_heap (tupleKind_room_in1 hu) (key_of I.hok eb) hd dd ?_
    have q := (rel.val k).isSome_eq
    rw [Option.isSome_map] at q
    rw [<- q, <- l]
    exact h _ (I.tok _)
theorem d_write {h' : Heap} {t' : Nat} {ob : HO} (I : Inv X pins σ H s) (mu : Mut (H a)) (hs : Heap.SameBut a s.heap h') (he : ∃ q, h'.get? a = some q) (new : ObjOk X.prog X.w (upd H a ob) h' a ob) :
    Inv X pins σ (upd H a ob) { s with heap := h', toks := t' } :=
  I.write (x := a) (e := a) mu (.inl rfl) (fun b q hb z => (hs.2 b hb).trans z) he new
theorem dk_new {P : Program} {w : World} {H' : Hp} {h' : Heap} {kvs : List (Key × V)} {vs : List (Key × Value)} (z : kvs.length <= sizeLine) (hd : (a == sysModules) = false) (rel : KV kvs vs) (dd : h'.DictOf (mixKind P w) a vs) :
    ObjOk P w H' h' a (.dK kvs) := ⟨z, hd, vs, rel, dd⟩
theorem d_setItem {H' : Hp} {Q : Unit -> Shared -> Prop} (hu : A.units + 1 < cLine) (I : Inv X pins σ H s) (g : DPut H a y v H') (ry : RelV y u) (rv : RelV v r) (h : ∀ s', Inv X pins σ H' s' -> Q () s') :
    wpAny (model X.prog X.w) A (setItem (.ref a) u r) Q E s := by
  rcases g with ⟨kvs, k, e, ey, l, eH⟩ | ⟨kvs, k, b, e, ey, eb, l, eH⟩
  . subst ey eH
    obtain ⟨z, hd, vs, rel, dd⟩ := dk_of I.hok e
    have hz : vs.length <= sizeLine := by rw [<- rel.length]; exact z
    have hl : (putK kvs k v).length <= sizeLine := by have := length_putK kvs k v; omega
    refine wpAny_setItem_pairs (hsz := hz) (kV_is ry) dd fun h' dd' hs => h _ ?_
    have he : ∃ q, h'.get? a = some q := let ⟨q, _, _, hq, _⟩ := dd'; ⟨q, hq⟩
    exact d_write I (by rw [e]; exact True.intro) hs he (dk_new hl hd (rel.put k rv) dd')
  . subst ey eH
    cases (show u = Value.ref b from ry)
    obtain ⟨z, hd, xs, rel, dd⟩ := dt_of I.hok e
    have hz : xs.length <= sizeLine := by rw [<- Paired.length rel]; exact z
    have hl : (putK kvs k v).length <= sizeLine := by have := length_putK kvs k v; omega
    refine wpAny_setItem_heap (hsz := hz) (tupleKind_room_in1 hu) (key_of I.hok eb) dd fun h' dd' hs => h _ ?_
    obtain ⟨q, es, ep, hq, h2, h3, h4, _, h5⟩ := dd'
    refine d_write I (by rw [e]; exact True.intro) hs ⟨q, hq⟩ ⟨hl, hd, _, (rel.put k eb rv).keeps fun c ys ec => ?_, q, es, ep, hq, h2, h3, h4, h5⟩
    rw [upd_ne (ne_of ec e (fun z => nomatch z))]
    exact ec
end
section
variable {X : Cx} {pins : List (Addr × Obj)} {σ : St} {H : Hp} {s : Shared} {a : Addr} {kvs : List (Key × V)} {k : Key} {u : Value} {A : Around} {E : Value -> Shared -> Prop}
end
def NoSl (i : Expr) : Prop := ∀ ov iv, subscripted i false ov iv = operate [ov, iv] (getItem ov iv)
theorem subD_of {prog : Program} {w : World} {A : Around} {E : Value -> Shared -> Prop} {s : Shared} {env : Env} {value slice : Expr} {pos : Pos} {T id : String} {Q : Value -> Shared -> Prop}
    (hl : typeLookup (.type T) "__getitem__" = pure (some (.builtin id))) (hs : NoSl slice)
    (h : wpAny (model prog w) A (eval value env) (fun o s₁ => wpAny (model prog w) A (eval slice env) (fun i s₂ => s₂.TypeIs o T /\ wpAny (model prog w) A (getItem o i) Q E s₂) E s₁) E s) :
    wpAny (model prog w) A (eval (.Subscript value slice pos) env) Q E s := by
  refine Subscript_ (wpAny_mono h (fun o s₁ h₁ => wpAny_mono h₁ (fun i s₂ h₂ => ?_) fun _ _ x => x) fun _ _ x => x)
  obtain ⟨hT, h₂⟩ := h₂
  unfold subscriptTail
  refine wpAny_bind ?_
  rw [getitemInPython_of_ne hT.not_modules]
  refine wpAny_bind (wpAny_specialOf hT hl ?_)
  have fin : wpAny (model prog w) A (subscripted slice false o i) (fun r s₃ => wpAny (model prog w) A (letTemporaryGo value o r >>= fun _ => pure r) Q E s₃) E s₂ := by
    rw [hs o i]
    exact wpAny_operating (wpAny_mono h₂ (fun r s₃ h₃ => wpAny_bind (wpAny_letTemporaryGo (wpAny_pure h₃))) fun _ _ x => x)
  first
    | exact wpAny_pure (wpAny_bind fin)
    | exact wpAny_bind (wpAny_pure (wpAny_bind fin))
    | exact wpAny_bind fin
theorem dict_typeIs {X : Cx} {pins : List (Addr × Obj)} {σ : St} {H : Hp} {s : Shared} {a : Addr} {y : V} {o : Option V} (I : Inv X pins σ H s) (g : DGet H a y o) : s.TypeIs (.ref a) "dict" := by
  rcases g with ⟨kvs, k, e, _, _⟩ | ⟨kvs, k, b, e, _, _, _⟩
  . obtain ⟨_, _, vs, _, dd⟩ := dk_rd I.hok e
    exact dd.typeIs
  . obtain ⟨_, _, xs, _, dd⟩ := dt_rd I.hok e
    exact dd.typeIs
def tDGet (td ty : TE) : TE := fun σ H Q => td σ H fun x H1 => ty σ H1 fun y H2 => ∃ a v, x = .ref a /\ DGet H2 a y (some v) /\ Q v H2
def sDPut (td ty tv : TE) : TS := fun D σ H => tv σ H fun v H1 => td σ H1 fun x H2 => ty σ H2 fun y H3 => ∃ a H4, x = .ref a /\ DPut H3 a y v H4 /\ D.nx σ H4
section
variable {X : Cx} {o i e value : Expr} {pos pos' tpos : Pos} {td ty tv : TE}
theorem pe_dget (hu : X.A.units + 1 < cLine) (ho : PE X o td) (hi : PE X i ty) (hs : NoSl i) : PE X (.Subscript o i pos) (tDGet td ty) := by
  intro pins s σ H Q I h
  refine subD_of PySem.F.slot_dict_getitem.lookup hs (thn (ho pins s σ H _ I h) fun u s1 ⟨x, H1, I1, rx, q1⟩ => thn (hi pins s1 σ H1 _ I1 q1) fun iv s2 ⟨y, H2, I2, ry, a, v, ex, g, q2⟩ => ?_)
  subst ex
  obtain rfl : u = Value.ref a := rx
  exact ⟨dict_typeIs I2 g, d_getItem hu I2 g ry fun w' s3 I3 rw' => ⟨v, H2, I3, rw', q2⟩⟩
theorem ps_dput (hu : X.A.units + 1 < cLine) (ho : PE X o td) (hi : PE X i ty) (hv : PE X value tv) (hs : swapsWith value (some (.Subscript o i pos')) pos.line X.env = pure false) :
    PS X (.Assign [.Subscript o i pos'] value pos) (sDPut td ty tv) := by
  intro pins s σ H D I h
  refine wpAny_Assign_Subscript (thn (hv pins s σ H _ I h) fun r s1 ⟨v, H1, I1, rv, q1⟩ => thn (ho pins s1 σ H1 _ I1 q1) fun u s2 ⟨x, H2, I2, rx, q2⟩ => thn (hi pins s2 σ H2 _ I2 q2) fun iv s3 ⟨y, H3, I3, ry, a, H4, ex, g, q3⟩ => ?_) hs
  subst ex
  obtain rfl : u = Value.ref a := rx
  exact d_setItem hu I3 g ry rv fun s4 I4 => ⟨σ, H4, I4, q3⟩
end
theorem dk_empty {P : Program} {w : World} {H : Hp} (h : Heap) (hb : sysModules < h.objs.size) : ObjOk P w H (h.push { cls := .type "dict", data := .dict #[] }) h.objs.size (.dK []) :=
  ⟨Nat.zero_le _, beq_eq_false_iff_ne.mpr (Ne.symm (Nat.ne_of_lt hb)), [], .nil, Heap.DictOf.new h⟩
theorem dt_empty {P : Program} {w : World} {H : Hp} (h : Heap) (hb : sysModules < h.objs.size) : ObjOk P w H (h.push { cls := .type "dict", data := .dict #[] }) h.objs.size (.dT []) :=
  ⟨Nat.zero_le _, beq_eq_false_iff_ne.mpr (Ne.symm (Nat.ne_of_lt hb)), [], .nil, _, #[], 0, Heap.get?_push_size _ rfl, ⟨rfl, rfl, rfl⟩, rfl, rfl, List.nodup_nil⟩
def tDNewK : TE := fun _ H Q => ∀ p, H p = none -> Q (.ref p) (upd H p (.dK []))
def tDNewT : TE := fun _ H Q => ∀ p, H p = none -> Q (.ref p) (upd H p (.dT []))
section
variable {X : Cx} {pos : Pos}
theorem pe_dnewK : PE X (.Dict [] [] pos) tDNewK := fun pins s σ H Q I h =>
  wpAny_Dict_empty ⟨.ref s.heap.objs.size, _, I.laid (a := s.heap.objs.size) (o := .dK []) (t' := s.toks) (fun _ _ q => Heap.get?_push_of_some _ q) (Nat.le_refl _) (dk_empty s.heap I.big), rfl, h _ (I.hok.fresh (Nat.le_refl _))⟩
theorem pe_dnewT : PE X (.Dict [] [] pos) tDNewT := fun pins s σ H Q I h =>
  wpAny_Dict_empty ⟨.ref s.heap.objs.size, _, I.laid (a := s.heap.objs.size) (o := .dT []) (t' := s.toks) (fun _ _ q => Heap.get?_push_of_some _ q) (Nat.le_refl _) (dt_empty s.heap I.big), rfl, h _ (I.hok.fresh (Nat.le_refl _))⟩
end
structure M1 (X : Cx) (o : Expr) (m : Str) (apos : Pos) (e : Expr) (cpos : Pos) : Prop where
  base : attributeBase o m X.env (eval o X.env) = eval o X.env
  few : ((backTo cpos (starEach [e] X.env)).all (fun x => !x.1) && (backToKw cpos (keywordEach [] X.env)).all (fun x => x.1.isSome)
    && decide (([e] : List Expr).length + ([] : List Keyword).length + (if ([] : List Keyword).isEmpty then 0 else 1) < 30)) = true
  line : (apos.endLine == cpos.line) = true
  trees : backTo cpos (starEach [e] X.env) = [(false, eval e X.env)]
structure M2 (X : Cx) (o : Expr) (m : Str) (apos : Pos) (e f : Expr) (cpos : Pos) : Prop where
  base : attributeBase o m X.env (eval o X.env) = eval o X.env
  few : ((backTo cpos (starEach [e, f] X.env)).all (fun x => !x.1) && (backToKw cpos (keywordEach [] X.env)).all (fun x => x.1.isSome)
    && decide (([e, f] : List Expr).length + ([] : List Keyword).length + (if ([] : List Keyword).isEmpty then 0 else 1) < 30)) = true
  line : (apos.endLine == cpos.line) = true
  trees : backTo cpos (starEach [e, f] X.env) = [(false, eval e X.env), (false, eval f X.env)]
section
variable {X : Cx} {pins : List (Addr × Obj)} {σ : St} {H : Hp} {s : Shared} {a : Addr} {y d : V} {u r : Value} {o : Option V} {A : Around} {E : Value -> Shared -> Prop}
end
section
variable {X : Cx} {o e f : Expr} {apos cpos : Pos} {td ty tx : TE}
end
section
variable {X : Cx} {pins : List (Addr × Obj)} {σ : St} {H : Hp} {s : Shared} {a : Addr} {kvs : List (Key × V)} {A : Around} {E : Value -> Shared -> Prop}
end
section
variable {X : Cx} {pins : List (Addr × Obj)} {σ : St} {H : Hp} {s : Shared} {a : Addr} {y : V} {u : Value} {A : Around} {E : Value -> Shared -> Prop}
end
theorem intOfSelf_bool {M : Model} {A : Around} {E : Value -> Shared -> Prop} {s : Shared} {b : Bool} {Q : Int -> Shared -> Prop} (h : Q (if b = true then 1 else 0) s) : wpAny M A (Builtin.Int.intOfSelf (.bool b)) Q E s := by
  unfold Builtin.Int.intOfSelf
  exact wpAny_pure h
theorem pyHash_bool {prog : Program} {w : World} {A : Around} {E : Value -> Shared -> Prop} {s : Shared} {b : Bool} {Q : Int -> Shared -> Prop} (h : Q (if b = true then 1 else 0) { s with toks := s.toks + 1 }) : wpAny (model prog w) A (pyHash (.bool b)) Q E s := by
  show wpAny _ _ (pyHashByItsType (.bool b)) _ _ _
  refine PySem.W.pyHash_slot (T := "bool") rfl PySem.F.slot_bool_hash PySem.F.entry_int_hash (PySem.F.args_int_hash_1 _) rfl (.inl rfl) ?_
  unfold Builtin.«int.__hash__» Builtin.Int.intSlot0
  refine wpAny_bind (wpAny_bind ?_)
  show wpAny _ _ (pure (Value.bool b, [])) _ _ _
  refine wpAny_pure (wpAny_bind (intOfSelf_bool (wpAny_pure ?_)))
  cases b with
  | true => exact wpAny_bind (wpAny_mkInt (wpAny_pure ⟨_, _, rfl, h⟩))
  | false => exact wpAny_bind (wpAny_mkInt (wpAny_pure ⟨_, _, rfl, h⟩))
def boolIs : Bool -> Value -> Bool
  | b, .bool c => b == c
  | _, _ => false
theorem boolIs_shape {b : Bool} {v : Value} (h : boolIs b v = true) : v = .bool b := by
  unfold boolIs at h
  split at h
  . rw [beq_iff_eq.mp h]
  . cases h
def boolKind (prog : Program) (w : World) : PySem.KeyKind prog w Bool where
  is := boolIs
  hash := fun b => if b = true then 1 else 0
  inj := fun v a b ha hb => by
    have e1 := boolIs_shape ha
    have e2 := boolIs_shape hb
    rw [e1] at e2
    injection e2
  byValue := fun k v h => by rw [boolIs_shape h]; rfl
  pyHash := fun hv h => by rw [boolIs_shape hv]; exact pyHash_bool h
  eqBool := fun {A E s a b u v Q} hu hv h => by
    rw [boolIs_shape hu, boolIs_shape hv]
    refine SeqAt.EqAt.bool_bool a b _ _ _ _ ?_
    have e : (a == b) = decide (a = b) := by cases a <;> cases b <;> rfl
    rw [e]; exact h
  «strs» := fun k x t v h => by
    have := boolIs_shape h
    cases this
section
variable {P : Program} {w : World} {H : Hp} {h : Heap} {a : Addr}
end
section
variable {X : Cx} {o i e value : Expr} {pos pos' tpos : Pos} {td ty tv : TE}
end
section
variable {X : Cx} {P : Program} {w : World} {o i : Expr} {pos : Pos} {td ty : TE}
end
section
variable {X : Cx} {K : PySem.W.Frag} {o : Expr} {to : TE} {apos cpos : Pos}
end
def Ite (K : PySem.W.Frag) (l : Addr) : It :=
  ⟨fun i H => ∃ xs x, SqL K H l xs /\ xs[i]? = some x,
   fun i H v H' => ∃ p x, H p = none /\ v = .ref p /\ H' = upd H p (.tup [.int i, x]) /\ ∀ xs, SqL K H l xs -> xs[i]? = some x,
   fun i H => ∃ xs, SqL K H l xs /\ xs.length <= i⟩
theorem turn_enum {P : Program} {w : World} {K : PySem.W.Frag} {es : List Expr} {kt : Nat} {tpos : Pos} {e it l : Addr} (hne : e ≠ it) :
    Turn P w K (.Tuple es kt tpos) (Ite K l) [e, it] e (fun i h => (∃ old, IsEnum h e it (i : Int) old) /\ h.IsListIter it l i) where
  mem := by simp
  obj := fun i h st b hb => by
    obtain ⟨⟨old, hz⟩, ⟨o1, e1, c1, d1⟩⟩ := st
    simp only [List.mem_cons, List.mem_nil_iff, or_false] at hb
    rcases hb with rfl | rfl
    . exact ⟨_, hz, fun v q => nomatch q⟩
    . exact ⟨o1, e1, fun v q => by rw [d1] at q; cases q⟩
  keep := fun i h h' ⟨⟨old, hz⟩, h1⟩ k => ⟨⟨old, k e (by simp) _ hz⟩, h1.at fun o q => k it (by simp) o q⟩
  item := by
    intro X hP hw hK hc i pins s σ H E I hf st hg
    subst hP hw hK
    obtain ⟨xs, x, hq1, hx⟩ := hg
    obtain ⟨⟨old, hz⟩, h1⟩ := st
    obtain ⟨its, rv, p, _⟩ := I.list hq1
    obtain ⟨u, hu, ru⟩ := rv.get hx
    refine wpAny_pyNext_enum_item hz h1 p.isList (x := u) (by simpa using hu) hne fun h' z1 z2 z3 z4 z5 => ?_
    refine ⟨_, rfl, ?_⟩
    have z5' : ∀ b v, b ∉ [e, it] -> s.heap.get? b = some v -> h'.get? b = some v := fun b v hb q => by
      simp only [List.mem_cons, List.mem_nil_iff, or_false, not_or] at hb
      exact z5 b v hb.1 hb.2 q
    have I1 : Inv X pins σ (upd H s.heap.objs.size (.tup [.int i, x])) { s with heap := h' } := by
      refine I.turnedNew (ch := [e, it]) (fun b hb => hf b hb) (Nat.le_refl _) z5' ?_ fun b hb => ?_
      . exact ⟨small_le (show 2 <= 1000 by decide), [.int i s.toks, u], .cons ⟨_, rfl⟩ (.cons ru .nil), ⟨_, z3, rfl, ⟨_, rfl⟩, rfl⟩⟩
      . simp only [List.mem_cons, List.mem_nil_iff, or_false] at hb
        rcases hb with rfl | rfl
        . exact ⟨_, z1⟩
        . obtain ⟨o, q, _⟩ := z2; exact ⟨o, q⟩
    refine wpAny_letOwnedTupleGo_enum (s := { s with heap := h', toks := s.toks + 1 }) z1 fun h'' z8 z9 => ?_
    have hfz := hf e (by simp)
    have neT : ∀ b, b ∈ [e, it] -> b ≠ s.heap.objs.size := fun b hb q => by
      have st' : ∃ o, s.heap.get? b = some o := by
        simp only [List.mem_cons, List.mem_nil_iff, or_false] at hb
        rcases hb with rfl | rfl
        . exact ⟨_, hz⟩
        . obtain ⟨o, q, _⟩ := h1; exact ⟨o, q⟩
      obtain ⟨o, ho⟩ := st'
      have := Heap.lt_size ho
      rw [q] at this
      exact Nat.lt_irrefl _ this
    have hTH : ∀ b ∈ [e, it], upd H s.heap.objs.size (.tup [.int i, x]) b = none := fun b hb => by rw [upd_ne (neT b hb)]; exact (hf b hb).1
    have I2 : Inv X pins σ (upd H s.heap.objs.size (.tup [.int i, x])) { s with heap := h'', toks := s.toks + 1 } :=
      I1.turned (t' := s.toks + 1) (fun b o hb q => (z9.2 b hb).trans q) (hTH e (by simp)) hfz.2.1 hfz.2.2.2.1 hfz.2.2.2.2.1 hfz.2.2.2.2.2
    have up : ∀ b o, b ≠ e -> h'.get? b = some o -> h''.get? b = some o := fun b o hb q => (z9.2 b hb).trans q
    exact ⟨.ref s.heap.objs.size, _, I2, rfl, ⟨_, x, I.hok.fresh (Nat.le_refl _), rfl, rfl, fun xs' h => by rw [I.list_inj h hq1]; exact hx⟩, ⟨⟨_, z8⟩, z2.at fun o q => up _ o (Ne.symm hne) q⟩, hTH⟩
  done := by
    intro X hP hw hK hc i pins s σ H E I hf st hg
    subst hP hw hK
    obtain ⟨xs, hq1, hl⟩ := hg
    obtain ⟨⟨old, hz⟩, h1⟩ := st
    obtain ⟨its, rv, p, _⟩ := I.list hq1
    have e1 := rv.length
    refine wpAny_pyNext_enum_end (I.ok.hd hc) hz h1 p.isList (by simp; omega) fun h' z7 => ⟨rfl, ?_⟩
    obtain ⟨f0, f1, f2, f3, f4, f5⟩ := hf it (by simp)
    exact I.turned (t' := s.toks) (fun b o hb q => z7 b o hb q) f0 f1 f3 f4 f5
  self := fun _ _ _ _ _ st h => wpAny_pyIter_enum st.1.choose_spec h
section
variable {X : Cx}
def iEnum (K : PySem.W.Frag) (ta : TA) : TI := fun σ H R => ta σ H fun vs H1 => match vs with
  | [.ref a] => (∃ xs, SqL K H1 a xs) /\ R (Ite K a) H1
  | _ => False
theorem kEnum {K : PySem.W.Frag} {a : Expr} {ta : TA} {p pos : Pos} {es : List Expr} {kt : Nat} {tpos : Pos} (hg : Gl X "enumerate") (hm : X.mg "enumerate" = none) (ha : PA X [a] ta)
    (hs : starEach [a] X.env = [(false, eval a X.env)] := by rfl) (hK : X.K = K := by rfl) :
    PI X (.Tuple es kt tpos) (.Call (.Name "enumerate" p) [a] [] pos) (iEnum K ta) := by
  subst hK
  intro pins s σ H R I h
  refine Call_ (ld_blt I hg hm (by rfl : bootBuiltins "enumerate" = some (.type "enumerate")) (PyProof.Rows.callWith_type1 (thn (ha pos pins s σ H _ I h) fun us s1 ⟨vs, H1, I1, r1, q1⟩ => ?_) (by rw [hs]; rfl) (by rfl)))
  match vs, q1, r1 with
  | [.ref l1], ⟨⟨xs, hx⟩, q⟩, r1 =>
  cases r1 with
  | cons r rr =>
  cases rr
  cases r
  obtain ⟨its, rv, p1, _⟩ := I1.list hx
  refine call_enumerate_list p1.isList fun h' z1 z2 z3 z4 => ?_
  refine wpAny_pyIter_enum (s := { s1 with heap := h' }) z1 ?_
  have I2 : Inv X pins σ H1 { s1 with heap := h' } := I1.kept (t' := s1.toks) z4
  refine ⟨_, _, _, _, H1, rfl, I2, turn_enum (l := l1) (it := s1.heap.objs.size) (Nat.ne_of_gt (Nat.lt_succ_self _)), ⟨⟨_, z1⟩, z2⟩, fun b hb => ?_, q⟩
  refine I1.fpOk ?_ (I1.hok.fresh ?_)
  all_goals
    simp only [List.mem_cons, List.mem_nil_iff, or_false] at hb
    rcases hb with rfl | rfl
    . exact Nat.le_succ _
    . exact Nat.le_refl _
theorem comp_enum {K : PySem.W.Frag} {l : Addr} {xs : List V} {g : TG} {tc : TT} {te : TE} {σc : St} {Q : VK} {H : Hp} (Pv : Nat -> List V -> Hp -> Prop) (h0 : Pv 0 [] H) (hl : ∀ i zs H, i <= xs.length -> Pv i zs H -> SqL K H l xs) (hz : ∀ i zs H, i < xs.length -> Pv i zs H -> zs.length < sizeLine)
    (hs : ∀ i x zs H p, xs[i]? = some x -> Pv i zs H -> H p = none -> g (.ref p) σc (upd H p (.tup [.int (i : Nat), x])) fun σ2 H2 => tc σ2 H2 fun b H3 => if b = true then te σ2 H3 fun v H4 => Pv (i + 1) (zs ++ [v]) H4 else Pv (i + 1) zs H3)
    (hd : ∀ zs H, Pv xs.length zs H -> ∀ p, H p = none -> Q (.ref p) (upd H p (.lst zs))) : CompTurns (Ite K l) g tc te σc Q H := by
  refine ⟨fun i m zs H => m = xs.length - i /\ i <= xs.length /\ Pv i zs H, ⟨xs.length, by simp, Nat.zero_le _, h0⟩, ?_⟩
  rintro i m zs H ⟨rfl, hi, p⟩
  have q1 := hl i zs H hi p
  by_cases hlt : i < xs.length
  . refine .inr ⟨⟨xs, xs[i], q1, by simp [hlt]⟩, hz i zs H hlt p, Pv (i + 1), fun zs' H' p' => ⟨xs.length - (i + 1), by omega, rfl, hlt, p'⟩, ?_⟩
    rintro v H' ⟨pp, x, hp, rfl, rfl, k1⟩
    exact hs i x zs H pp (k1 xs q1) p hp
  . have e : i = xs.length := by omega
    subst e
    exact .inl ⟨⟨xs, q1, Nat.le_refl _⟩, hd zs H p⟩
end
section
variable {X : Cx} {K : PySem.W.Frag}
end
mutual
def pyD : Dv -> PyData
  | .non => .none
  | .bl b => .bool b
  | .int i => .int i
  | .str x => .str x
  | .tup ds => .tuple (pyDs ds)
  | .lst ds => .list (pyDs ds)
def pyDs : List Dv -> List PyData
  | [] => []
  | d :: ds => pyD d :: pyDs ds
end
def shortI (i : Int) : Bool := decide (i.natAbs.log2 < 1900)
mutual
def niceD : Dv -> Bool
  | .non => true
  | .bl _ => true
  | .int i => shortI i
  | .str _ => false
  | .tup ds => niceDs ds
  | .lst ds => niceDs ds
def niceDs : List Dv -> Bool
  | [] => true
  | d :: ds => niceD d && niceDs ds
end
mutual
def bulkD : Dv -> Nat
  | .tup ds => bulkDs ds
  | .lst ds => bulkDs ds
  | _ => 0
def bulkDs : List Dv -> Nat
  | [] => 0
  | d :: ds => bulkD d + 1 + bulkDs ds
end
mutual
theorem pyD_dep : ∀ d : Dv, (pyD d).depth = depD d
  | .non => by simp [pyD, depD, PyData.depth]
  | .bl _ => by simp [pyD, depD, PyData.depth]
  | .int _ => by simp [pyD, depD, PyData.depth]
  | .str _ => by simp [pyD, depD, PyData.depth]
  | .tup ds => by simp [pyD, depD, PyData.depth, pyDs_dep ds]
  | .lst ds => by simp [pyD, depD, PyData.depth, pyDs_dep ds]
theorem pyDs_dep : ∀ ds : List Dv, PyData.depthAll (pyDs ds) = depDs ds
  | [] => by simp [pyDs, depDs, PyData.depthAll]
  | d :: ds => by simp [pyDs, depDs, PyData.depthAll, pyD_dep d, pyDs_dep ds]
end
mutual
theorem pyD_nodict : ∀ d : Dv, (pyD d).hasDict = false
  | .non => by simp [pyD, PyData.hasDict]
  | .bl _ => by simp [pyD, PyData.hasDict]
  | .int _ => by simp [pyD, PyData.hasDict]
  | .str _ => by simp [pyD, PyData.hasDict]
  | .tup ds => by simp [pyD, PyData.hasDict, pyDs_nodict ds]
  | .lst ds => by simp [pyD, PyData.hasDict, pyDs_nodict ds]
theorem pyDs_nodict : ∀ ds : List Dv, PyData.hasDictAll (pyDs ds) = false
  | [] => by simp [pyDs, PyData.hasDictAll]
  | d :: ds => by simp [pyDs, PyData.hasDictAll, pyD_nodict d, pyDs_nodict ds]
end
mutual
theorem pyD_bulk : ∀ d : Dv, niceD d = true -> (pyD d).bulk = bulkD d
  | .non, _ => by simp [pyD, PyData.bulk, bulkD]
  | .bl _, _ => by simp [pyD, PyData.bulk, bulkD]
  | .int _, _ => by simp [pyD, PyData.bulk, bulkD]
  | .str _, h => by simp [niceD] at h
  | .tup ds, h => by simp [pyD, PyData.bulk, bulkD, pyDs_bulk ds (by simpa [niceD] using h)]
  | .lst ds, h => by simp [pyD, PyData.bulk, bulkD, pyDs_bulk ds (by simpa [niceD] using h)]
theorem pyDs_bulk : ∀ ds : List Dv, niceDs ds = true -> PyData.bulkAll (pyDs ds) = bulkDs ds
  | [], _ => by simp [pyDs, PyData.bulkAll, bulkDs]
  | d :: ds, h => by
    have h' : niceD d = true /\ niceDs ds = true := by simpa [niceDs] using h
    simp [pyDs, PyData.bulkAll, bulkDs, pyD_bulk d h'.1, pyDs_bulk ds h'.2]
end
mutual
theorem pyD_show : ∀ d : Dv, niceD d = true -> (pyD d).showable = true /\ (pyD d).leavesShort 1921 = true
  | .non, _ => by simp [pyD, PyData.showable, PyData.leavesShort]
  | .bl _, _ => by simp [pyD, PyData.showable, PyData.leavesShort]
  | .int i, h => by
    have h1 : i.natAbs.log2 < 1900 := by simpa [niceD, shortI] using h
    have h2 : i.natAbs.log2 < 1920 := by omega
    refine ⟨by simpa [pyD, PyData.showable] using h2, ?_⟩
    simp only [pyD, PyData.leavesShort, decide_eq_true_eq, PyData.shown]
    exact decide_eq_true (PyProof.Rows.int_text_len_1921 h2)
  | .str _, h => by simp [niceD] at h
  | .tup ds, h => by
    have h' := pyDs_show ds (by simpa [niceD] using h)
    simpa [pyD, PyData.showable, PyData.leavesShort] using h'
  | .lst ds, h => by
    have h' := pyDs_show ds (by simpa [niceD] using h)
    simpa [pyD, PyData.showable, PyData.leavesShort] using h'
theorem pyDs_show : ∀ ds : List Dv, niceDs ds = true -> PyData.showableAll (pyDs ds) = true /\ PyData.leavesShortAll 1921 (pyDs ds) = true
  | [], _ => by simp [pyDs, PyData.showableAll, PyData.leavesShortAll]
  | d :: ds, h => by
    have h' : niceD d = true /\ niceDs ds = true := by simpa [niceDs] using h
    have h1 := pyD_show d h'.1
    have h2 := pyDs_show ds h'.2
    simp [pyDs, PyData.showableAll, PyData.leavesShortAll, h1, h2]
end
def shownD (d : Dv) : Str := (pyD d).shown
theorem shownD_fits {d : Dv} (h : niceD d = true) (hb : bulkD d <= 8000) : (shownD d).length <= sizeLine := by
  have h1 := PyData.shown_le_bulk 1921 (by decide) (pyD d) (pyD_show d h).2
  rw [pyD_bulk d h] at h1
  have e : sizeLine = 16777216 := by decide
  unfold shownD
  rw [e]
  omega
section
variable {X : Cx} {pins : List (Addr × Obj)} {σ : St} {H : Hp} {s : Shared}
mutual
theorem rep_reads (I : Inv X pins σ H s) : ∀ (d : Dv) (x : V) (u : Value), Rep X.K H d x -> RelV x u -> ∃ as, Reads s.heap u (pyD d) as
  | .non, x, u, h, r => by unfold Rep at h; subst h; cases r; exact ⟨_, by rw [pyD]; exact .none⟩
  | .bl b, x, u, h, r => by unfold Rep at h; subst h; cases r; exact ⟨_, by rw [pyD]; exact .bool b⟩
  | .int i, x, u, h, r => by unfold Rep at h; subst h; obtain ⟨t, rfl⟩ := r; exact ⟨_, by rw [pyD]; exact .int i t⟩
  | .str y, x, u, h, r => by unfold Rep at h; subst h; obtain ⟨t, rfl⟩ := r; exact ⟨_, by rw [pyD]; exact .str y t⟩
  | .tup ds, x, u, h, r => by
    unfold Rep at h
    obtain ⟨a, xs, rfl, hs, hr⟩ := h
    cases r
    obtain ⟨its, rv, ⟨o, h1, h2, n, h3⟩, _⟩ := I.tuple hs
    obtain ⟨as, ha⟩ := reps_reads I ds xs its hr rv
    exact ⟨as, by rw [pyD]; exact .tuple h1 h2 h3 ha⟩
  | .lst ds, x, u, h, r => by
    unfold Rep at h
    obtain ⟨a, xs, rfl, hs, hr⟩ := h
    cases r
    obtain ⟨its, rv, p, _⟩ := I.list hs
    obtain ⟨o, h1, h2, n, h3⟩ := p.isList
    obtain ⟨as, ha⟩ := reps_reads I ds xs its hr rv
    exact ⟨_, by rw [pyD]; exact .list h1 h2 h3 ha⟩
theorem reps_reads (I : Inv X pins σ H s) : ∀ (ds : List Dv) (xs : List V) (us : List Value), Reps X.K H ds xs -> Vals xs us -> ∃ as, ReadsAll s.heap us (pyDs ds) as
  | [], xs, us, h, r => by unfold Reps at h; subst h; cases r; exact ⟨_, by rw [pyDs]; exact .nil⟩
  | d :: ds, xs, us, h, r => by
    unfold Reps at h
    obtain ⟨x, l, rfl, h1, h2⟩ := h
    cases r with
    | cons r1 r2 =>
    obtain ⟨as, ha⟩ := rep_reads I d x _ h1 r1
    obtain ⟨bs, hb⟩ := reps_reads I ds l _ h2 r2
    exact ⟨_, by rw [pyDs]; exact .cons ha hb⟩
end
end
def mRepr (K : PySem.W.Frag) : List V -> Hp -> VK -> Prop := fun xs H Q => match xs with
  | [x] => ∃ d, Rep K H d x /\ niceD d = true /\ bulkD d <= 8000 /\ depD d <= 60 /\ Q (.str (shownD d)) H
  | _ => False
section
variable {X : Cx} {K : PySem.W.Frag}
theorem cm_repr0 (hg : X.A.guards = some []) (hu : X.A.units + 62 < cLine) : CallR X (.builtin "repr") (mRepr X.K) := by
  intro pins s σ H xs us Q I r q
  match xs, q with
  | [x], q =>
    obtain ⟨d, hd, hn, hb, hp, q⟩ := q
    cases r with
    | cons r1 r2 =>
    cases r2
    rename_i u
    have fits := shownD_fits hn hb
    have shw := (pyD_show d hn).1
    have done : ∀ (h' : Heap) (t tk : Nat), (∀ b o, s.heap.get? b = some o -> h'.get? b = some o) -> EP X pins σ Q (.str (shownD d) t) { s with heap := h', toks := tk } := fun h' t tk hk =>
      ⟨.str (shownD d), H, I.kept (t' := tk) hk, ⟨t, rfl⟩, q⟩
    obtain ⟨as, hr⟩ := rep_reads I d x u hd r1
    cases hx : u with
    | ref a =>
      rw [hx] at hr
      refine PySem.repr_of_reads' hr shw (PyData.noDict_hsm (pyD_nodict d)) hg ?_ (fun _ _ e => e) (fun h' t tk hk => done h' t tk hk) fits
      rw [pyD_dep]; omega
    | none =>
      rw [hx] at hr
      generalize hp : pyD d = p at hr
      cases hr
      have e : shownD d = ("None" : Str) := by unfold shownD; rw [hp, PyData.shown_none]
      refine PySem.P.repr_of_none ?_
      rw [<- e]; exact done s.heap _ _ (fun _ _ e => e)
    | bool b =>
      rw [hx] at hr
      generalize hp : pyD d = p at hr
      cases hr
      have e : shownD d = ((if b then "True" else "False" : Str)) := by unfold shownD; rw [hp, PyData.shown_bool]
      refine PySem.P.repr_of_bool ?_
      rw [<- e]; exact done s.heap _ _ (fun _ _ e => e)
    | int i t =>
      rw [hx] at hr
      generalize hp : pyD d = p at hr
      cases hr
      have e : shownD d = ((toString i : String) : Str) := by unfold shownD; rw [hp, PyData.shown_int]
      rw [hp] at shw
      refine PySem.P.repr_of_int (by simpa [PyData.showable] using shw) ?_
      rw [<- e]; exact done s.heap _ _ (fun _ _ e => e)
    | str y t =>
      rw [hx] at hr
      generalize hp : pyD d = p at hr
      cases hr
      cases d <;> simp [pyD, niceD] at hp hn
    | _ => rw [hx] at hr; cases hr
theorem kRepr {k : Nat} (hr : Room k X.A) (hK : X.K = K := by rfl) : CallR X (.builtin "repr") (mRepr K) := hK ▸ cm_repr0 hr.gd (by have := hr.un; omega)
end
theorem cm_repr_ {K} : CMono (mRepr K) := fun xs H Q Q' h q => by
  unfold mRepr at *
  split at q
  . obtain ⟨d, a, b, c, e, q⟩ := q; exact ⟨d, a, b, c, e, h _ _ q⟩
  . exact q.elim
theorem shortI_of {i : Int} (h : i.natAbs < 2 ^ 64) : shortI i = true := by
  unfold shortI
  rw [decide_eq_true_eq]
  by_cases h0 : i.natAbs = 0
  . rw [h0]; decide
  . have := (Nat.log2_lt h0).mpr h
    omega
open AutoSeq1 (wpAny_loadPart')
section
variable {prog : Program} {w : World} {A : Around} {E : Value -> Shared -> Prop} {s : Shared}
theorem nx_tup_item {j tp : Addr} {k : Nat} {its : Array Value} {z : Value} {Q : Value -> Shared -> Prop} (hj : s.heap.IsTupleIter j tp k) (hp : s.heap.IsTuple tp its) (hz : its[k]? = some z)
    (q : ∀ h', h'.IsTupleIter j tp (k + 1) -> Heap.SameBut j s.heap h' -> Q z { s with heap := h' }) : wpAny (model prog w) A (Builtin.SmallTypes.nextOf (.ref j)) Q E s := by
  obtain ⟨ob, g1, g2, g3⟩ := id hj
  obtain ⟨ol, k1, _, nl, k3⟩ := hp
  unfold Builtin.SmallTypes.nextOf
  refine wpAny_bind (wpAny_callSpecial?_slot (name := Str.ofString "__next__") hj.typeIs F.slot_tuple_iterator_next (wpAny_call_entry F.slot_tuple_iterator_next hj.typeIs F.entry_tuple_iterator_next ?_ (F.args_tuple_iterator_next_1 _)))
  show wpAny _ _ (field (.ref j) 0 >>= _) _ _ s
  refine wpAny_bind (wpAny_field g1 g3 (x := .ref tp) rfl ?_)
  show wpAny _ _ (if (Value.ref tp == Value.none) = true then _ else _) _ _ s
  rw [if_neg (c := (Value.ref tp == Value.none) = true) (fun z => Bool.false_ne_true z)]
  show wpAny _ _ (field (.ref j) 1 >>= _) _ _ s
  refine wpAny_bind (wpAny_field g1 g3 (x := .int k 0) rfl ?_)
  show wpAny _ _ (seqItems? (.ref tp) >>= _) _ _ s
  refine wpAny_bind (wpAny_seqItems k1 k3 ?_)
  simp only [Int.toNat_natCast, hz]
  refine wpAny_bind (wpAny_setField g1 g3 (by simp) (wpAny_pure ⟨z, rfl, wpAny_pure (q _ ?_ (Heap.SameBut.update ..))⟩))
  refine ⟨_, Heap.get?_update_self _ g1 (Obj.isFreed_of_fields (Obj.data_mapFields g3 _)), (Obj.cls_mapFields ..).trans g2, ?_⟩
  rw [Obj.data_mapFields g3]
  simp [rawInt]
theorem nx_tup_end {j tp : Addr} {k : Nat} {its : Array Value} {Q : Value -> Shared -> Prop} (hh : A.handled = none) (hj : s.heap.IsTupleIter j tp k) (hp : s.heap.IsTuple tp its) (hz : its[k]? = none)
    (q : ∀ h' e, Heap.ExtBut j s.heap h' -> (∃ o, h'.get? e = some o /\ o.cls = .type "StopIteration") -> E (.ref e) { s with heap := h' }) : wpAny (model prog w) A (Builtin.SmallTypes.nextOf (.ref j)) Q E s := by
  obtain ⟨ob, g1, g2, g3⟩ := id hj
  obtain ⟨ol, k1, _, nl, k3⟩ := hp
  unfold Builtin.SmallTypes.nextOf
  refine wpAny_bind (wpAny_callSpecial?_slot (name := Str.ofString "__next__") hj.typeIs F.slot_tuple_iterator_next (wpAny_call_entry F.slot_tuple_iterator_next hj.typeIs F.entry_tuple_iterator_next ?_ (F.args_tuple_iterator_next_1 _)))
  show wpAny _ _ (field (.ref j) 0 >>= _) _ _ s
  refine wpAny_bind (wpAny_field g1 g3 (x := .ref tp) rfl ?_)
  show wpAny _ _ (if (Value.ref tp == Value.none) = true then _ else _) _ _ s
  rw [if_neg (c := (Value.ref tp == Value.none) = true) (fun z => Bool.false_ne_true z)]
  show wpAny _ _ (field (.ref j) 1 >>= _) _ _ s
  refine wpAny_bind (wpAny_field g1 g3 (x := .int k 0) rfl ?_)
  show wpAny _ _ (seqItems? (.ref tp) >>= _) _ _ s
  refine wpAny_bind (wpAny_seqItems k1 k3 ?_)
  simp only [Int.toNat_natCast, hz]
  refine wpAny_bind (wpAny_rule (wpAny_bind (wpAny_setField g1 g3 (by simp) ?_)))
  show wpAny _ _ (newExc (.type "StopIteration") [] >>= fun z => _) _ _ _
  refine wpAny_bind ?_
  simp only [newExc, newTuple]
  refine wpAny_bind (wpAny_newObj_type (hd := by size_fits) ?_)
  refine wpAny_bind (m := firstArgMember _ _) (wpAny_of_eq (a := Value.none) (by first | (simp only [firstArgMember]; rfl) | rfl) ?_)
  refine wpAny_newObj_type (hd := by size_fits) ?_
  simp only [raiseNew]
  refine wpAny_bind (wpAny_handled ?_)
  first | rw [hh] | rw [show A.in1.handled = none from hh]
  refine wpAny_bind (wpAny_pure (wpAny_throw ?_))
  exact q _ _ (((Heap.SameBut.update ..).extBut.push _).push _) ⟨_, Heap.get?_push_size _ rfl, rfl⟩
theorem draws_tup (hh : A.handled = none) (j tp : Addr) (hne : tp ≠ j) (its : Array Value) :
    Draws prog w A j [j, tp] its.size (fun k v => its[k]? = some v) (fun k h => h.IsTupleIter j tp k /\ h.IsTuple tp its) where
  live := fun _ _ st => by obtain ⟨⟨o, ho, _⟩, _⟩ := st; exact ⟨o, ho⟩
  frame := fun _ _ _ st hk => by
    obtain ⟨st1, o, h1, h2⟩ := st
    exact ⟨st1.at fun o e => hk j (by simp) o e, o, hk tp (by simp) o h1, h2⟩
  item := fun k s Q E hi st hQ => by
    refine nx_tup_item st.1 st.2 (z := its[k]) (by simp [hi]) fun h' h1 h2 => ?_
    exact hQ _ h' s.toks (by simp [hi]) ⟨h1, st.2.extBut h2.extBut hne⟩ h2
  done := fun s Q E st hE => nx_tup_end hh st.1 st.2 (by simp) hE
theorem meets_enum_tup (tp : Addr) (its : Array Value) (n : Nat) (dct : Option Addr) (sl : Array (Option Value)) :
    Meets (Builtin.«enumerate.__new__» ⟨[.type "enumerate", .ref tp], []⟩) (fun _ R s => s.heap.get? tp = some { cls := .type "tuple", dict := dct, data := .seq its n, slots := sl } /\
      R (.ok (.ret (.ref (s.heap.push { cls := .type "tuple_iterator", data := .fields #[.ref tp, .int 0 0] }).objs.size)))
        { s with heap := (s.heap.push { cls := .type "tuple_iterator", data := .fields #[.ref tp, .int 0 0] }).push { cls := .type "enumerate", data := .fields #[.none, .bool false, .ref s.heap.objs.size, rawInt 0, .none, .none] } }) :=
  .of_wp fun prog w A R s h => by
    obtain ⟨hp, g, d, tk, os⟩ := s
    obtain ⟨hl, h⟩ := h
    have hsub := sub_enumerate
    have ht : Heap.IsTuple (Shared.heap ⟨hp, g, d, tk, os⟩) tp its := ⟨_, hl, rfl, n, rfl⟩
    wp_walk using wpAny_loadPart' hl
    refine wpAny_stack_any fun st => wpAny_pure ?_
    split
    . rename_i c _ _ _ _ _
      cases (c == Value.type "enumerate") <;> (wp_walk using wpAny_loadPart' hl, wpAny_pyIter_tuple ht; exact ⟨_, rfl, h⟩)
    . wp_walk using wpAny_loadPart' hl, wpAny_pyIter_tuple ht
      exact ⟨_, rfl, h⟩
theorem call_enum_tup {tp : Addr} {its : Array Value} {Q : Value -> Shared -> Prop} (ht : s.heap.IsTuple tp its)
    (h : ∀ h', IsEnum h' (s.heap.objs.size + 1) s.heap.objs.size 0 .none -> h'.IsTupleIter s.heap.objs.size tp 0 -> (∀ b o, s.heap.get? b = some o -> h'.get? b = some o) -> Q (.ref (s.heap.objs.size + 1)) { s with heap := h' }) :
    wpAny (model prog w) A (call (.type "enumerate") [.ref tp]) Q E s := by
  obtain ⟨⟨c, dct, dt, sl⟩, hl, hc, n, hd⟩ := ht
  cases (show c = .type "tuple" from hc)
  cases (show dt = .seq its n from hd)
  refine callType_new F.called_enumerate (by decide) (F.typeCall_enumerate_1 _) (F.newCall_enumerate_1 _) (fun obj => F.args_object_init_2 obj _) F.entry_enumerate_new (meets_enum_tup tp its n dct sl) ⟨hl, ?_⟩
  have z1 : (s.heap.push { cls := .type "tuple_iterator", data := .fields #[.ref tp, .int 0 0] }).objs.size = s.heap.objs.size + 1 := Heap.size_push ..
  show _ /\ _
  rw [z1]
  have z2 := Heap.get?_push_size (s.heap.push { cls := .type "tuple_iterator", data := .fields #[.ref tp, .int 0 0] }) (o := { cls := .type "enumerate", data := .fields #[.none, .bool false, .ref s.heap.objs.size, rawInt 0, .none, .none] }) rfl
  rw [z1] at z2
  have z3 : IsEnum _ (s.heap.objs.size + 1) s.heap.objs.size 0 .none := z2
  exact ⟨⟨_, z2, rfl⟩, h _ z3 ⟨_, Heap.get?_push_of_some _ (Heap.get?_push_size _ rfl), rfl, rfl⟩ fun b o x => Heap.get?_push_of_some _ (Heap.get?_push_of_some _ x)⟩
end
def Itet (K : PySem.W.Frag) (l : Addr) : It :=
  ⟨fun i H => ∃ xs x, SqT K H l xs /\ xs[i]? = some x,
   fun i H v H' => ∃ p x, H p = none /\ v = .ref p /\ H' = upd H p (.tup [.int i, x]) /\ ∀ xs, SqT K H l xs -> xs[i]? = some x,
   fun i H => ∃ xs, SqT K H l xs /\ xs.length <= i⟩
theorem turn_enumT {P : Program} {w : World} {K : PySem.W.Frag} {es : List Expr} {kt : Nat} {tpos : Pos} {e it l : Addr} (hne : e ≠ it) :
    Turn P w K (.Tuple es kt tpos) (Itet K l) [e, it] e (fun i h => (∃ old, IsEnum h e it (i : Int) old) /\ h.IsTupleIter it l i) where
  mem := by simp
  obj := fun i h st b hb => by
    obtain ⟨⟨old, hz⟩, ⟨o1, e1, c1, d1⟩⟩ := st
    simp only [List.mem_cons, List.mem_nil_iff, or_false] at hb
    rcases hb with rfl | rfl
    . exact ⟨_, hz, fun v q => nomatch q⟩
    . exact ⟨o1, e1, fun v q => by rw [d1] at q; cases q⟩
  keep := fun i h h' ⟨⟨old, hz⟩, h1⟩ k => ⟨⟨old, k e (by simp) _ hz⟩, h1.at fun o q => k it (by simp) o q⟩
  item := by
    intro X hP hw hK hc i pins s σ H E I hf st hg
    subst hP hw hK
    obtain ⟨xs, x, hq1, hx⟩ := hg
    obtain ⟨⟨old, hz⟩, h1⟩ := st
    obtain ⟨its, rv, p, _⟩ := I.tuple hq1
    obtain ⟨u, hu, ru⟩ := rv.get hx
    have hp : s.heap.IsTuple l its.toArray := p
    have le : l ≠ e := fun q => by obtain ⟨o, g1, g2, _⟩ := hp; rw [q] at g1; rw [show s.heap.get? e = _ from hz] at g1; cases g1; exact absurd (show Value.type "enumerate" = Value.type "tuple" from g2) (by decide)
    have li : l ≠ it := fun q => by obtain ⟨o, g1, g2, _⟩ := hp; obtain ⟨o', g3, g4, _⟩ := h1; rw [q, g3] at g1; cases g1; rw [g4] at g2; exact absurd g2 (by decide)
    refine wpAny_pyNext_enum_itemD (draws_tup (A := X.A.in1) (show X.A.in1.handled = none from I.ok.hd hc) it l li its.toArray) hz ⟨h1, hp⟩ ?_ hne (by simp [hne, Ne.symm le]) fun y h' tk py z1 z2' z3 z4 z5 => ?_
    . have := (List.getElem?_eq_some_iff.mp hu).1
      simpa using this
    obtain ⟨z2, _⟩ := z2'
    have ey : y = u := by
      have : its.toArray[i]? = some u := by simpa using hu
      rw [this] at py
      exact (Option.some.inj py).symm
    subst ey
    refine ⟨_, rfl, ?_⟩
    have z5' : ∀ b v, b ∉ [e, it] -> s.heap.get? b = some v -> h'.get? b = some v := fun b v hb q => by
      simp only [List.mem_cons, List.mem_nil_iff, or_false, not_or] at hb
      exact z5 b v hb.1 hb.2 q
    have I1 : Inv X pins σ (upd H s.heap.objs.size (.tup [.int i, x])) { s with heap := h' } := by
      refine I.turnedNew (ch := [e, it]) (fun b hb => hf b hb) (Nat.le_refl _) z5' ?_ fun b hb => ?_
      . exact ⟨small_le (show 2 <= 1000 by decide), [.int i tk, y], .cons ⟨_, rfl⟩ (.cons ru .nil), ⟨_, z3, rfl, ⟨_, rfl⟩, rfl⟩⟩
      . simp only [List.mem_cons, List.mem_nil_iff, or_false] at hb
        rcases hb with rfl | rfl
        . exact ⟨_, z1⟩
        . obtain ⟨o, q, _⟩ := z2; exact ⟨o, q⟩
    refine wpAny_letOwnedTupleGo_enum (s := { s with heap := h', toks := tk + 1 }) z1 fun h'' z8 z9 => ?_
    have hfz := hf e (by simp)
    have neT : ∀ b, b ∈ [e, it] -> b ≠ s.heap.objs.size := fun b hb q => by
      have st' : ∃ o, s.heap.get? b = some o := by
        simp only [List.mem_cons, List.mem_nil_iff, or_false] at hb
        rcases hb with rfl | rfl
        . exact ⟨_, hz⟩
        . obtain ⟨o, q, _⟩ := h1; exact ⟨o, q⟩
      obtain ⟨o, ho⟩ := st'
      have := Heap.lt_size ho
      rw [q] at this
      exact Nat.lt_irrefl _ this
    have hTH : ∀ b ∈ [e, it], upd H s.heap.objs.size (.tup [.int i, x]) b = none := fun b hb => by rw [upd_ne (neT b hb)]; exact (hf b hb).1
    have I2 : Inv X pins σ (upd H s.heap.objs.size (.tup [.int i, x])) { s with heap := h'', toks := tk + 1 } :=
      I1.turned (t' := tk + 1) (fun b o hb q => (z9.2 b hb).trans q) (hTH e (by simp)) hfz.2.1 hfz.2.2.2.1 hfz.2.2.2.2.1 hfz.2.2.2.2.2
    have up : ∀ b o, b ≠ e -> h'.get? b = some o -> h''.get? b = some o := fun b o hb q => (z9.2 b hb).trans q
    exact ⟨.ref s.heap.objs.size, _, I2, rfl, ⟨_, x, I.hok.fresh (Nat.le_refl _), rfl, rfl, fun xs' h => by rw [I.tuple_inj h hq1]; exact hx⟩, ⟨⟨_, z8⟩, z2.at fun o q => up _ o (Ne.symm hne) q⟩, hTH⟩
  done := by
    intro X hP hw hK hc i pins s σ H E I hf st hg
    subst hP hw hK
    obtain ⟨xs, hq1, hl⟩ := hg
    obtain ⟨⟨old, hz⟩, h1⟩ := st
    obtain ⟨its, rv, p, _⟩ := I.tuple hq1
    have e1 := rv.length
    have hp : s.heap.IsTuple l its.toArray := p
    have hT : s.TypeIs (.ref e) "enumerate" := ⟨_, hz, rfl⟩
    unfold pyNext
    refine wpAny_bind (wpAny_attempt (wpAny_callSpecial?_slot (name := Str.ofString "__next__") hT F.slot_enumerate_next (wpAny_call_entry F.slot_enumerate_next hT F.entry_enumerate_next ?_ (F.args_enumerate_next_1 _))))
    show wpAny _ _ (field (.ref e) 2 >>= fun z => _) _ _ _
    refine wpAny_bind (wpAny_field hz rfl (x := .ref it) rfl ?_)
    refine wpAny_bind (nx_tup_end (by first | exact I.ok.hd hc | simpa using I.ok.hd hc) h1 hp (by simp; omega) fun h' x z7 hx' => ?_)
    obtain ⟨o, ho, hcl⟩ := hx'
    refine wpAny_bind (wpAny_isInstance (T := "StopIteration") (b := true) ⟨o, ho, hcl⟩ isSubtype_stop (wpAny_pure ⟨rfl, ?_⟩))
    obtain ⟨f0, f1, f2, f3, f4, f5⟩ := hf it (by simp)
    exact I.turned (t' := s.toks) (fun b o hb q => z7 b o hb q) f0 f1 f3 f4 f5
  self := fun _ _ _ _ _ st h => wpAny_pyIter_enum st.1.choose_spec h
section
variable {X : Cx}
def iEnumT (K : PySem.W.Frag) (ta : TA) : TI := fun σ H R => ta σ H fun vs H1 => match vs with
  | [.ref a] => (∃ xs, SqT K H1 a xs) /\ R (Itet K a) H1
  | _ => False
theorem kEnumT {K : PySem.W.Frag} {a : Expr} {ta : TA} {p pos : Pos} {es : List Expr} {kt : Nat} {tpos : Pos} (hg : Gl X "enumerate") (hm : X.mg "enumerate" = none) (ha : PA X [a] ta)
    (hs : starEach [a] X.env = [(false, eval a X.env)] := by rfl) (hK : X.K = K := by rfl) :
    PI X (.Tuple es kt tpos) (.Call (.Name "enumerate" p) [a] [] pos) (iEnumT K ta) := by
  subst hK
  intro pins s σ H R I h
  refine Call_ (ld_blt I hg hm (by rfl : bootBuiltins "enumerate" = some (.type "enumerate")) (PyProof.Rows.callWith_type1 (thn (ha pos pins s σ H _ I h) fun us s1 ⟨vs, H1, I1, r1, q1⟩ => ?_) (by rw [hs]; rfl) (by rfl)))
  match vs, q1, r1 with
  | [.ref l1], ⟨⟨xs, hx⟩, q⟩, r1 =>
  cases r1 with
  | cons r rr =>
  cases rr
  cases r
  obtain ⟨its, rv, p1, _⟩ := I1.tuple hx
  refine call_enum_tup (its := its.toArray) p1 fun h' z1 z2 z4 => ?_
  refine wpAny_pyIter_enum (s := { s1 with heap := h' }) z1 ?_
  have I2 : Inv X pins σ H1 { s1 with heap := h' } := I1.kept (t' := s1.toks) z4
  refine ⟨_, _, _, _, H1, rfl, I2, turn_enumT (l := l1) (it := s1.heap.objs.size) (Nat.ne_of_gt (Nat.lt_succ_self _)), ⟨⟨_, z1⟩, z2⟩, fun b hb => ?_, q⟩
  refine I1.fpOk ?_ (I1.hok.fresh ?_)
  all_goals
    simp only [List.mem_cons, List.mem_nil_iff, or_false] at hb
    rcases hb with rfl | rfl
    . exact Nat.le_succ _
    . exact Nat.le_refl _
theorem comp_enumT {K : PySem.W.Frag} {l : Addr} {xs : List V} {g : TG} {tc : TT} {te : TE} {σc : St} {Q : VK} {H : Hp} (Pv : Nat -> List V -> Hp -> Prop) (h0 : Pv 0 [] H) (hl : ∀ i zs H, i <= xs.length -> Pv i zs H -> SqT K H l xs) (hz : ∀ i zs H, i < xs.length -> Pv i zs H -> zs.length < sizeLine)
    (hs : ∀ i x zs H p, xs[i]? = some x -> Pv i zs H -> H p = none -> g (.ref p) σc (upd H p (.tup [.int (i : Nat), x])) fun σ2 H2 => tc σ2 H2 fun b H3 => if b = true then te σ2 H3 fun v H4 => Pv (i + 1) (zs ++ [v]) H4 else Pv (i + 1) zs H3)
    (hd : ∀ zs H, Pv xs.length zs H -> ∀ p, H p = none -> Q (.ref p) (upd H p (.lst zs))) : CompTurns (Itet K l) g tc te σc Q H := by
  refine ⟨fun i m zs H => m = xs.length - i /\ i <= xs.length /\ Pv i zs H, ⟨xs.length, by simp, Nat.zero_le _, h0⟩, ?_⟩
  rintro i m zs H ⟨rfl, hi, p⟩
  have q1 := hl i zs H hi p
  by_cases hlt : i < xs.length
  . refine .inr ⟨⟨xs, xs[i], q1, by simp [hlt]⟩, hz i zs H hlt p, Pv (i + 1), fun zs' H' p' => ⟨xs.length - (i + 1), by omega, rfl, hlt, p'⟩, ?_⟩
    rintro v H' ⟨pp, x, hp, rfl, rfl, k1⟩
    exact hs i x zs H pp (k1 xs q1) p hp
  . have e : i = xs.length := by omega
    subst e
    exact .inl ⟨⟨xs, q1, Nat.le_refl _⟩, hd zs H p⟩
end
structure Feed (H : Hp) (t : Addr) : Prop where
  at_ : ∃ a b k c : Int, 0 <= a /\ H t = some (.lst [.int a, .int b, .int k, .int c])
theorem Feed.same {H H' : Hp} {t : Addr} (F : Feed H t) (h : Same H H') : Feed H' t := by
  obtain ⟨a, b, k, c, h1, h2⟩ := F.at_
  exact ⟨a, b, k, c, h1, h _ _ h2⟩
theorem bitAnd_nat (a b : Nat) : Builtin.bitAnd (a : Int) (b : Int) = ((a &&& b : Nat) : Int) := by
  unfold Builtin.bitAnd
  rw [decide_eq_true (Int.natCast_nonneg a), decide_eq_true (Int.natCast_nonneg b)]
  rfl
def iL (xs : List Nat) : List V := xs.map fun i => V.int (i : Nat)
def iD (xs : List Nat) : List Dv := xs.map fun i => Dv.int (i : Nat)
theorem iL_len (xs : List Nat) : (iL xs).length = xs.length := by unfold iL; rw [List.length_map]
theorem iL_app (xs ys : List Nat) : iL (xs ++ ys) = iL xs ++ iL ys := by unfold iL; rw [List.map_append]
theorem iL_at {xs : List Nat} {i : Nat} {v : V} (h : (iL xs)[i]? = some v) : ∃ x, xs[i]? = some x /\ x ∈ xs /\ v = .int (x : Nat) := by
  unfold iL at h
  rw [List.getElem?_map] at h
  cases e : xs[i]? with
  | none => rw [e] at h; cases h
  | some x => rw [e] at h; exact ⟨x, rfl, List.mem_of_getElem? e, (Option.some.inj h).symm⟩
theorem reps_iD {K : PySem.W.Frag} {H : Hp} : ∀ xs : List Nat, Reps K H (iD xs) (iL xs)
  | [] => by unfold iD iL Reps; rfl
  | x :: xs => by
    show Reps K H (Dv.int (x : Nat) :: iD xs) (V.int (x : Nat) :: iL xs)
    unfold Reps
    exact ⟨_, _, rfl, by unfold Rep; rfl, reps_iD xs⟩
theorem niceDs_iD : ∀ xs : List Nat, (∀ x ∈ xs, x < 2 ^ 64) -> niceDs (iD xs) = true
  | [], _ => by unfold iD; simp [niceDs]
  | x :: xs, h => by
    show niceDs (Dv.int (x : Nat) :: iD xs) = true
    unfold niceDs
    rw [niceDs_iD xs (fun y hy => h y (List.mem_cons_of_mem _ hy)), Bool.and_true]
    unfold niceD
    exact shortI_of (by have := h x (List.mem_cons_self ..); omega)
theorem bulkDs_iD : ∀ xs : List Nat, bulkDs (iD xs) = xs.length
  | [] => by unfold iD; simp [bulkDs]
  | x :: xs => by
    show bulkDs (Dv.int (x : Nat) :: iD xs) = _
    unfold bulkDs
    rw [bulkDs_iD xs, List.length_cons]
    unfold bulkD
    omega
theorem depDs_iD : ∀ xs : List Nat, depDs (iD xs) = 0
  | [] => by unfold iD; simp [depDs]
  | x :: xs => by
    show depDs (Dv.int (x : Nat) :: iD xs) = _
    unfold depDs
    rw [depDs_iD xs]
    unfold depD
    rfl
theorem same_put {H0 H : Hp} {t : Addr} {o : HO} (s : Same H0 H) (ht : H0 t = none) : Same H0 (upd H t o) := fun b u e => by
  rw [upd_ne (ne_of_none e ht)]; exact s b u e
theorem Same.sqT {K : PySem.W.Frag} {H H' : Hp} {a : Addr} {xs : List V} (e : Same H H') (h : SqT K H a xs) : SqT K H' a xs := sqT_stay h (fun o k => e _ _ k)
theorem Same.sqL {K : PySem.W.Frag} {H H' : Hp} {a : Addr} {xs : List V} (e : Same H H') (h : SqL K H a xs) : SqL K H' a xs := sqL_stay h (fun o k => e _ _ k)
theorem str_ne {x : Str} (h : (true ^^ (x == x)) = true) : False := by simp at h
def sumTo (f : Nat -> Int) : Nat -> Int
  | 0 => 0
  | n + 1 => sumTo f n + f n
def chi : Nat -> Nat -> Nat -> Int
  | 0, _, _ => 1
  | n + 1, a, b => (if a % 2 = 1 /\ b % 2 = 1 then -1 else 1) * chi n (a / 2) (b / 2)
def hs (v : Nat -> Int) (s k : Nat) : Int := sumTo (fun j => chi s (k % 2 ^ s) j * v (k / 2 ^ s * 2 ^ s + j)) (2 ^ s)
def manyF : Nat -> Nat -> Nat
  | 0, _ => 0
  | f + 1, x => x % 2 + manyF f (x / 2)
@[irreducible] def many (x : Nat) : Nat := manyF 64 x
def termD (q : Nat × Int) : Dv := .tup [.int q.1, .int q.2]
def sumD (m : Nat) (ts : List (Nat × Int)) : Dv := .tup [.int m, .tup (ts.map termD)]
structure SumAt (K : PySem.W.Frag) (H : Hp) (v : V) (m : Nat) (ts : List (Nat × Int)) : Prop where
  at_ : ∃ (a b : Addr) (vs : List V), v = .ref a /\ SqT K H a [.int m, .ref b] /\ SqT K H b vs /\ Reps K H (ts.map termD) vs
theorem SumAt.of {K : PySem.W.Frag} {H : Hp} {v : V} {m : Nat} {ts : List (Nat × Int)} (h : Rep K H (sumD m ts) v) : SumAt K H v m ts := by
  unfold sumD Rep at h
  obtain ⟨a, xs, rfl, ha, hr⟩ := h
  unfold Reps at hr
  obtain ⟨x, r, rfl, h1, hr⟩ := hr
  unfold Rep at h1; subst h1
  unfold Reps at hr
  obtain ⟨x, r, rfl, h2, hr⟩ := hr
  unfold Reps at hr; subst hr
  unfold Rep at h2
  obtain ⟨b, vs, rfl, hb, hr⟩ := h2
  exact ⟨a, b, vs, rfl, ha, hb, hr⟩
theorem SumAt.rep {K : PySem.W.Frag} {H : Hp} {v : V} {m : Nat} {ts : List (Nat × Int)} (h : SumAt K H v m ts) : Rep K H (sumD m ts) v := by
  obtain ⟨a, b, vs, rfl, ha, hb, hr⟩ := h.at_
  unfold sumD Rep
  refine ⟨a, _, rfl, ha, reps_cons rep_int (reps_cons ?_ reps_nil)⟩
  unfold Rep
  exact ⟨b, vs, rfl, hb, hr⟩
theorem SumAt.same {K : PySem.W.Frag} {H H' : Hp} {v : V} {m : Nat} {ts : List (Nat × Int)} (h : SumAt K H v m ts) (s : Same H H') : SumAt K H' v m ts := .of (Rep.same s _ _ h.rep)
def gB (bs : List Bool) (i : Nat) : Bool := bs.getD i false
theorem gB_get {bs : List Bool} {i : Nat} (h : i < bs.length) : gB bs i = bs[i] := by unfold gB; rw [List.getD_eq_getElem?_getD, List.getElem?_eq_getElem h]; rfl
theorem gB_at {bs : List Bool} {i : Nat} (h : i < bs.length) : atI (bs.map V.bl) ((i : Nat) : Int) = some (.bl (gB bs i)) := by
  rw [gB_get h]
  exact atI_of rfl (by rw [List.getElem?_map, List.getElem?_eq_getElem h]; rfl)
theorem Feed.lst {H : Hp} {t : Addr} (F : Feed H t) : ∃ zs, H t = some (.lst zs) := by
  obtain ⟨a, b, k, c, _, h⟩ := F.at_
  exact ⟨_, h⟩
section
variable {X : Cx} {K : PySem.W.Frag}
end
def Nb (x : Int) (k : Nat) : Prop := x.natAbs < 2 ^ k
theorem Nb.mul {x y : Int} {a b : Nat} (hx : Nb x a) (hy : Nb y b) : Nb (x * y) (a + b) := by
  unfold Nb at *
  rw [Int.natAbs_mul, Nat.pow_add]
  exact Nat.mul_lt_mul'' hx hy
theorem Nb.up {x : Int} {a b : Nat} (hx : Nb x a) (h : a <= b) : Nb x b := Nat.lt_of_lt_of_le hx (Nat.pow_le_pow_right (by decide) h)
theorem Nb.pow {x : Int} {a : Nat} (hx : Nb x a) : ∀ i, Nb (x ^ i) (a * i + 1)
  | 0 => by unfold Nb; rw [Int.pow_zero]; show 1 < 2 ^ (a * 0 + 1); rw [Nat.mul_zero]; decide
  | i + 1 => by
    rw [Int.pow_succ]
    have := (hx.pow i).mul hx
    rw [show a * (i + 1) + 1 = a * i + 1 + a by rw [Nat.mul_succ]; omega]
    exact this
theorem Nb.okMul {x y : Int} (hx : Nb x 4000) (hy : Nb y 4000) : okMul x y := .inl ⟨hx.up (by decide), hy.up (by decide)⟩
def newL (H : Hp) (Q : VK) (xs : List V) : Prop := ∀ p H', H p = none -> Same H H' -> H' p = some (.lst xs) -> Q (.ref p) H'
theorem newL_mono {H : Hp} {Q Q' : VK} {xs : List V} (h : ∀ v H, Q v H -> Q' v H) (q : newL H Q xs) : newL H Q' xs := fun p H' a b c => h _ _ (q p H' a b c)
theorem bl_list (f : Nat -> Bool) (n : Nat) : ((List.range (n + 1)).map f).map V.bl = ((List.range n).map f).map V.bl ++ [V.bl (f n)] := by
  rw [List.range_succ, List.map_append, List.map_append]; rfl
theorem sm_dput {td ty tv : TE} (h1 : EMono td) (h2 : EMono ty) (h3 : EMono tv) : SMono (sDPut td ty tv) := fun D D' σ H h q => h3 _ _ _ _ (fun _ _ q => h1 _ _ _ _ (fun _ _ q => h2 _ _ _ _ (fun _ _ ⟨a, H4, e, g, q⟩ => ⟨a, H4, e, g, h.nx _ _ q⟩) q) q) q
theorem hu_one {A : Around} (h : A.units + 60 < cLine) : A.units + 1 < cLine := by omega
end L2
namespace HT
open PySem PyProof.Rows
section
variable {prog : Program} {w : World} {A : Around} {E : Value -> Shared -> Prop} {s : Shared}
end
end HT
namespace L2
open PySem PySem.Spec PyProof.Rows
section
variable {X : Cx} {K : PySem.W.Frag} {e sx : Expr} {te ts : TE} {lo hi : Option Expr} {tl th : TO} {pos p2 : Pos}
def mIs (neg : Bool) : R2 := fun x y H Q => match x, y with
  | .bl a, .bl b => Q (.bl (neg ^^ (a == b))) H
  | x, .non => Q (.bl (neg ^^ decide (x = .non))) H
  | _, _ => False
theorem om_is : OpR X (compareOp .Is) (mIs false) := by
  intro pins s σ H x y v u Q I rx ry h
  unfold mIs at h
  split at h
  . cases rx; cases ry
    rename_i a b
    exact wpAny_of_eq (show compareOp .Is (.bool a) (.bool b) = pure (.bool (a == b)) by cases a <;> cases b <;> rfl) ⟨.bl (a == b), H, I, rfl, by rw [Bool.false_xor] at h; exact h⟩
  . exact op_isN pins s σ H _ _ v u Q I rx ry ⟨rfl, by rw [Bool.false_xor] at h; exact h⟩
  . exact h.elim
theorem om_isn : OpR X (compareOp .IsNot) (mIs true) := by
  intro pins s σ H x y v u Q I rx ry h
  unfold mIs at h
  split at h
  . cases rx; cases ry
    rename_i a b
    exact wpAny_of_eq (show compareOp .IsNot (.bool a) (.bool b) = pure (.bool (!(a == b))) by cases a <;> cases b <;> rfl) ⟨.bl (!(a == b)), H, I, rfl, by rw [Bool.true_xor] at h; exact h⟩
  . exact op_notN pins s σ H _ _ v u Q I rx ry ⟨rfl, by rw [Bool.true_xor] at h; exact h⟩
  . exact h.elim
theorem rm_is {neg : Bool} : RMono (mIs neg) := fun x y H Q Q' h q => by
  unfold mIs at *
  split at q
  . exact h _ _ q
  . exact h _ _ q
  . exact q.elim
end
structure GFeed (H : Hp) (t : Addr) (N : Nat) : Prop where
  at_ : ∃ (l : Addr) (i g c : Int) (ns : List Int), 0 <= i /\ 0 <= g /\ 0 <= c /\ c <= N /\ H t = some (.lst [.ref l, .int i, .int g, .int c]) /\ l ≠ t /\ H l = some (.lst (ns.map V.int)) /\ ns.length ≠ 0
theorem GFeed.same {H H' : Hp} {t : Addr} {N : Nat} (F : GFeed H t N) (h : Same H H') : GFeed H' t N := by
  obtain ⟨l, i, g, c, ns, h1, h2, h3, h4, h5, h6, h7, h8⟩ := F.at_
  exact ⟨l, i, g, c, ns, h1, h2, h3, h4, h _ _ h5, h6, h _ _ h7, h8⟩
theorem GFeed.upd {H : Hp} {t p : Addr} {o : HO} {N : Nat} (F : GFeed H t N) (h : H p = none) : GFeed (L2.upd H p o) t N := F.same (Same.upd h)
theorem GFeed.mono {H : Hp} {t : Addr} {N N' : Nat} (F : GFeed H t N) (h : N <= N') : GFeed H t N' := by
  obtain ⟨l, i, g, c, ns, h1, h2, h3, h4, h5⟩ := F.at_
  exact ⟨l, i, g, c, ns, h1, h2, h3, by omega, h5⟩
theorem GFeed.lst {H : Hp} {t : Addr} {N : Nat} (F : GFeed H t N) : ∃ zs, H t = some (.lst zs) := by
  obtain ⟨l, i, g, c, ns, h1, h2, h3, h4, h5, _⟩ := F.at_
  exact ⟨_, h5⟩
theorem GFeed.neT {H : Hp} {t p : Addr} {N : Nat} (F : GFeed H t N) (hp : H p = none) : p ≠ t := fun e => by
  obtain ⟨zs, h⟩ := F.lst
  rw [e, h] at hp; cases hp
theorem GFeed.free {H H' : Hp} {t p : Addr} {N : Nat} (F : GFeed H' t N) (h : Frm t H H') (hp : H' p = none) : H p = none := by
  cases e : H p with
  | none => rfl
  | some o =>
    by_cases hpt : p = t
    . subst hpt
      obtain ⟨zs, h3⟩ := F.lst
      rw [h3] at hp; cases hp
    . rw [h p o hpt e] at hp; cases hp
def spGDraw : Sp := fun vs H Q _ => match vs with
  | [.ref t, .int m] => ∃ N, GFeed H t N /\ N <= 1000000000 /\ okDiv m /\ ∀ d H', 0 <= d -> d < m -> GFeed H' t (N + 1) -> (∀ b, b ≠ t -> H' b = H b) -> Q (.int d) H'
  | _ => False
theorem spGDraw_mono : SpMono spGDraw := fun vs H Q Q' E h q => by
  unfold spGDraw at *
  split at q
  . obtain ⟨N, h1, h2, h3, q⟩ := q; exact ⟨N, h1, h2, h3, fun d H' a b c e => h _ _ (q d H' a b c e)⟩
  . exact q.elim
def spGFeed (K : PySem.W.Frag) : Sp := fun vs H Q _ => match vs with
  | [.ref a] => ∃ ns : List Int, SqL K H a (ns.map V.int) /\ ∀ t H', H t = none -> Same H H' -> GFeed H' t 0 -> Q (.ref t) H'
  | _ => False
theorem reps_ints {K : PySem.W.Frag} {H : Hp} : ∀ ns : List Int, Reps K H (ns.map Dv.int) (ns.map V.int)
  | [] => reps_nil
  | n :: ns => reps_cons rep_int (reps_ints ns)
theorem depDs_ints : ∀ ns : List Int, depDs (ns.map Dv.int) = 0
  | [] => by rw [List.map_nil]; unfold depDs; rfl
  | n :: ns => by rw [List.map_cons]; unfold depDs; rw [depDs_ints ns]; unfold depD; rfl
theorem reps_bl {K : PySem.W.Frag} {H : Hp} : ∀ bs : List Bool, Reps K H (bs.map Dv.bl) (bs.map V.bl)
  | [] => reps_nil
  | b :: bs => reps_cons rep_bl (reps_bl bs)
theorem rep_tup_inv {K : PySem.W.Frag} {H : Hp} {ds : List Dv} {v : V} (h : Rep K H (.tup ds) v) : ∃ a xs, v = .ref a /\ SqT K H a xs /\ Reps K H ds xs := by unfold Rep at h; exact h
theorem rep_tup2 {K : PySem.W.Frag} {H : Hp} {p : Addr} {xs : List V} {ds : List Dv} (h : SqT K H p xs) (r : Reps K H ds xs) : Rep K H (.tup ds) (.ref p) := by unfold Rep; exact ⟨p, xs, rfl, h, r⟩
theorem tupsOnly_app : ∀ ds es : List Dv, tupsOnly (ds ++ es) = (tupsOnly ds && tupsOnly es)
  | [], es => by rw [List.nil_append]; simp [tupsOnly]
  | d :: ds, es => by
    rw [List.cons_append]
    show (tupOnly d && tupsOnly (ds ++ es)) = (tupOnly d && tupsOnly ds && tupsOnly es)
    rw [tupsOnly_app ds es, Bool.and_assoc]
theorem tups_bl : ∀ bs : List Bool, tupsOnly (bs.map Dv.bl) = true
  | [] => rfl
  | b :: bs => by
    show (true && tupsOnly (bs.map Dv.bl)) = true
    rw [tups_bl bs]; rfl
section
variable {X : Cx} {pins : List (Addr × Obj)} {σ : St} {H : Hp} {s : Shared}
theorem KV.get {kvs : List (Key × V)} {vs : List (Key × Value)} (r : KV kvs vs) : ∀ {i : Nat} {q : Key × V}, kvs[i]? = some q -> ∃ v, vs[i]? = some (q.1, v) /\ RelV q.2 v := by
  induction r with
  | nil => intro i q e; simp at e
  | @cons a b l1 l2 h t ih =>
    intro i q e
    cases i with
    | zero =>
      simp at e; subst e
      obtain ⟨b1, b2⟩ := b
      obtain ⟨h1, h2⟩ := h
      exact ⟨b2, by simp; exact h1.symm, h2⟩
    | succ i =>
      obtain ⟨v, h1, h2⟩ := ih (i := i) (q := q) (by simpa using e)
      exact ⟨v, by simpa using h1, h2⟩
end
section
variable {X : Cx} {K : PySem.W.Frag} {tg oe : Expr} {to : TE} {ts : List Expr} {kt : Nat} {tpos apos cpos : Pos}
end
end L2
namespace L2
open PySem PyProof.Rows
section
variable {prog : Program} {w : World} {A : Around} {E : Value -> Shared -> Prop} {s : Shared}
end
section
variable {X : Cx}
end
end L2
namespace L2
open PySem PySem.Spec PyProof.Rows
end L2
namespace L2
open PySem PySem.Spec PyProof.Rows PySem.W
open Att (noObjs noObjs_get fr_all)
def CdO (a : Addr) (q : Str) : HO := .ext fun h => h.CodeRec (.ref a) q
def Lam (Pt : Addr) (pos : Pos) (q : Str) (H : Hp) : Prop :=
  ∃ ps : Array Value, H Pt = some (.tbl ps) /\ TriplesOk ps.toList /\ (codeAmong pos ps.toList = none \/ ∃ c', codeAmong pos ps.toList = some (.ref c') /\ H c' = some (CdO c' q))
def Grow (Pt : Addr) (H H' : Hp) : Prop := ∀ b o, b ≠ Pt -> H b = some o -> H' b = some o
theorem Grow.same {Pt : Addr} {H H' : Hp} (h : Same H H') : Grow Pt H H' := fun b o _ e => h b o e
theorem Lam.same {Pt : Addr} {pos : Pos} {q : Str} {H H' : Hp} (l : Lam Pt pos q H) (h : Same H H') : Lam Pt pos q H' := by
  obtain ⟨ps, a, b, c⟩ := l
  refine ⟨ps, h _ _ a, b, ?_⟩
  rcases c with c | ⟨c', c, d⟩
  . exact .inl c
  . exact .inr ⟨c', c, h _ _ d⟩
section
variable {X : Cx} {pins : List (Addr × Obj)} {σ : List (Option V)} {H : Hp} {s : Shared} {h' : Heap}
end
section
variable {prog : Program} {w : World} {A : Around} {s : Shared}
end
section
variable {X : Cx} {Pt c : Addr} {e : Expr} {te : TE} {p pos kpos lpos np cp sp : Pos} {x qual : Str} {params : Arguments} {scope : Scope} {kd : Nat} {i : Int} {K : PySem.W.Frag}
end
end L2
namespace L2
open PySem
end L2
namespace L2
open PySem PySem.Spec PyProof.Rows
section
variable {X : Cx} {tg oe : Expr} {to : TE} {apos cpos : Pos}
end
def mIn (K : PySem.W.Frag) (neg : Bool) : R2 := fun x y H Q => match y with
  | .ref p => ∃ xs, (SqL K H p xs \/ SqT K H p xs) /\ flatV x = true /\ xs.all flatV = true /\ Q (.bl (neg ^^ inV x xs)) H
  | _ => False
section
variable {X : Cx} {K : PySem.W.Frag}
theorem kIn (hK : X.K = K := by rfl) : OpR X (compareOp .In) (mIn K false) := by
  subst hK
  intro pins s σ H x y v u Q I rx ry h
  cases y with
  | ref p =>
    obtain ⟨xs, h1, h2, h3, q⟩ := h
    exact op_in_seq pins s σ H x _ v u Q I rx ry ⟨p, xs, rfl, h1, h2, h3, by simpa using q⟩
  | _ => exact False.elim h
end
section
variable {X : Cx} {K : PySem.W.Frag}
def mAny (K : PySem.W.Frag) : List V -> Hp -> VK -> Prop := fun xs H Q => match xs with
  | [.ref l] => ∃ bs : List Bool, SqL K H l (bs.map V.bl) /\ Q (.bl (bs.any id)) H
  | _ => False
theorem cm_any (hc : X.calm = true) : CallR X (.builtin "any") (mAny X.K) := by
  intro pins s σ H xs us Q I r q
  match xs, q with
  | [.ref l], q =>
  obtain ⟨bs, hl, q⟩ := q
  obtain ⟨u, rfl, ru⟩ := vals1 r
  cases ru
  obtain ⟨its, rv, pl, hz⟩ := I.list hl
  have hlen := rv.length
  rw [List.length_map] at hlen
  obtain ⟨o1, n1, g1, _⟩ := id pl
  have hlt := Heap.lt_size g1
  refine call_any_walk (wpAny_pyIter_list pl.isList ?_)
  have hne : l ≠ s.heap.objs.size := Nat.ne_of_lt hlt
  refine ⟨_, _, _, _, _, _, fun i => bs.getD i false, rfl, Walks.list (A := X.A.in1) (I.ok.hd hc) s.heap.objs.size l hne its.toArray, ?_, ?_, fun h' tk hk => ?_⟩
  . exact ⟨⟨_, Heap.get?_push_size _ rfl, rfl, rfl⟩, (show s.heap.IsList l its.toArray from pl.isList).at fun o e => Heap.get?_push_of_some _ e⟩
  . intro i v s' Q' E' hv hq
    have hv : its.toArray[i]? = some v := hv
    have hi : i < its.length := by
      have := (Array.getElem?_eq_some_iff.mp hv).1
      simpa using this
    have hb : (bs.map V.bl)[i]? = some (.bl bs[i]) := by rw [List.getElem?_map, List.getElem?_eq_getElem (by omega)]; rfl
    obtain ⟨w', q1, q2⟩ := rv.get hb
    have e : v = w' := by simp at hv; rw [q1] at hv; exact (Option.some.inj hv).symm
    subst e
    cases q2
    refine wpAny_truthy_bool ?_
    have e2 : bs.getD i false = bs[i] := by rw [List.getD_eq_getElem?_getD, List.getElem?_eq_getElem (by omega)]; rfl
    have hq : Q' (bs.getD i false) s' := hq
    rw [e2] at hq
    exact hq
  . refine ⟨.bl _, H, I.kept (fun b o e => hk b o ?_ (Heap.get?_push_of_some _ e)), rfl, ?_⟩
    . simp only [List.mem_singleton]
      exact Nat.ne_of_lt (Heap.lt_size e)
    . have e : (List.range its.toArray.size).any (fun i => bs.getD i false) = bs.any id := by
        rw [List.size_toArray, <- hlen]
        rw [Bool.eq_iff_iff, List.any_eq_true, List.any_eq_true]
        constructor
        . rintro ⟨i, hi, e⟩
          have hi' := List.mem_range.mp hi
          rw [List.getD_eq_getElem?_getD, List.getElem?_eq_getElem hi'] at e
          exact ⟨_, List.getElem_mem hi', e⟩
        . rintro ⟨b, hb, e⟩
          obtain ⟨i, hi, rfl⟩ := List.mem_iff_getElem.mp hb
          refine ⟨i, List.mem_range.mpr hi, ?_⟩
          rw [List.getD_eq_getElem?_getD, List.getElem?_eq_getElem hi]
          exact e
      rw [e]
      exact q
theorem kAny (hc : X.calm = true) (hK : X.K = K := by rfl) : CallR X (.builtin "any") (mAny K) := hK ▸ cm_any hc
end
end L2
namespace L2
theorem on1 {α : Type} {P : List α -> Prop} (h : ∀ a, P [a]) : ∀ us : List α, us.length = 1 -> P us
  | [a], _ => h a
theorem on2 {α : Type} {P : List α -> Prop} (h : ∀ a b, P [a, b]) : ∀ us : List α, us.length = 2 -> P us
  | [a, b], _ => h a b
theorem on3 {α : Type} {P : List α -> Prop} (h : ∀ a b c, P [a, b, c]) : ∀ us : List α, us.length = 3 -> P us
  | [a, b, c], _ => h a b c
theorem on4 {α : Type} {P : List α -> Prop} (h : ∀ a b c d, P [a, b, c, d]) : ∀ us : List α, us.length = 4 -> P us
  | [a, b, c, d], _ => h a b c d
open PySem in
theorem star_lst {xs es : List PySem.Expr} {p : Pos} {env : Env} : starEach (.List xs p :: es) env = (false, eval (.List xs p) env) :: starEach es env := by rfl
end L2
namespace L2
open PySem
def isComp : Expr -> Bool
  | .ListComp .. => true
  | .SetComp .. => true
  | .DictComp .. => true
  | _ => false
theorem swaps_not {e : Expr} {t : Option Expr} {l : Nat} {env : Env} (h : isComp e = false) : swapsWith e t l env = pure false := by
  cases e <;> first | rfl | cases h
theorem ps_setN {X : Cx} {pos : Pos} {i : Nat} {x : Str} {e : Expr} {te : TE} {pos' : Pos} (hN : X.N.Nodup) (hi : X.N[i]? = some x) (hx : Loc X.env.scope x) (he : PE X e te) (hs : isComp e = false) (hf : X.fn x = true \/ X.env.scope.names.lookup x = some .local) :
    PS X (.Assign [.Name x pos'] e pos) (tAsg te (gName i)) := ps_set hN hi hx he (swaps_not hs) hf
end L2
namespace L2
open PySem PyProof.Rows
section
variable {prog : Program} {w : World} {A : Around} {E : Value -> Shared -> Prop} {s : Shared}
end
section
variable {X : Cx}
end
abbrev IsZp (h : Heap) (z TI TO : Addr) (f0 bb : Value) : Prop :=
  h.get? z = some { cls := .type "zip", dict := none, data := .fields #[f0, bb, .bool false, .ref TI, .ref TO], slots := #[] }
section
variable {prog : Program} {w : World} {A : Around} {E : Value -> Shared -> Prop} {s : Shared}
end
section
variable {prog : Program} {w : World} {A : Around} {E : Value -> Shared -> Prop} {s : Shared}
structure ZS (z TI TO i1 i2 l1 l2 T0 : Addr) (xs ys : Array Value) (i : Nat) (h : Heap) : Prop where
  zp : (i = 0 /\ IsZip h z TI TO .none) \/ (0 < i /\ (∃ b, IsZp h z TI TO (rawInt T0) b) /\ ∃ a b, IsPair h T0 a b)
  ti : IsPair h TI (.ref i1) (.ref i2)
  to : ∃ a b, IsPair h TO a b
  a1 : h.IsTupleIter i1 l1 i
  a2 : h.IsTupleIter i2 l2 i
  t1 : h.IsTuple l1 xs
  t2 : h.IsTuple l2 ys
end
section
variable {prog : Program} {w : World} {A : Around} {R : Result -> Shared -> Prop}
end
section
variable {prog : Program} {w : World} {A : Around} {R : Result -> Shared -> Prop} {s : Shared}
end
section
variable {prog : Program} {w : World} {A : Around} {E : Value -> Shared -> Prop} {s : Shared}
end
section
variable {X : Cx}
end
end L2
namespace L2
open PySem
def ins : Nat -> Nat -> Nat -> Nat
  | 0, b, q => 2 * q + b
  | i + 1, b, q => 2 * ins i b (q / 2) + q % 2
end L2
namespace L2
open PySem PyProof.Rows
section
variable {prog : Program} {w : World} {A : Around} {E : Value -> Shared -> Prop} {s : Shared}
end
section
variable {prog : Program} {w : World} {K : Type} [DecidableEq K] {knd : KeyKind prog w K} {A : Around} {R : Result -> Shared -> Prop}
end
section
variable {prog : Program} {w : World} {K : Type} [DecidableEq K] {knd : KeyKind prog w K} {A : Around} {E : Value -> Shared -> Prop} {s : Shared}
end
section
variable {X : Cx}
end
section
variable {prog : Program} {w : World} {A : Around} {E : Value -> Shared -> Prop} {s : Shared}
end
section
variable {prog : Program} {w : World} {A : Around} {E : Value -> Shared -> Prop} {s : Shared}
end
section
variable {prog : Program} {w : World} {K : Type} [DecidableEq K] {knd : KeyKind prog w K} {A : Around} {R : Result -> Shared -> Prop}
end
section
variable {prog : Program} {w : World} {K : Type} [DecidableEq K] {knd : KeyKind prog w K} {A : Around} {E : Value -> Shared -> Prop} {s : Shared}
end
section
variable {X : Cx}
end
section
variable {X : Cx}
end
theorem vals_of_ints : ∀ {ns : List Int} {us : List Value}, IntsAre us ns -> Vals (ns.map V.int) us := by
  intro ns us h
  induction h with
  | nil => exact .nil
  | cons _ _ _ ih => exact .cons ⟨_, rfl⟩ ih
section
variable {X : Cx} {K : PySem.W.Frag}
end
def mInsert : V -> List V -> Hp -> VK -> Prop := fun x vs H Q => match x, vs with
  | .ref l, [.int i, y] => ∃ xs, H l = some (.lst xs) /\ 0 <= i /\ i <= xs.length /\ xs.length < 1000 /\ Q .non (upd H l (.lst (xs.take i.toNat ++ y :: xs.drop i.toNat)))
  | _, _ => False
theorem vals_put : ∀ {xs : List V} {us : List Value} {y : V} {u : Value} (k : Nat), Vals xs us -> RelV y u -> Vals (xs.take k ++ y :: xs.drop k) (us.take k ++ u :: us.drop k)
  | _, _, _, _, 0, r, ry => by simpa using Paired.cons ry r
  | _, _, _, _, k + 1, .nil, ry => by simpa using Paired.cons ry .nil
  | _, _, _, _, k + 1, .cons r t, ry => by simpa using Paired.cons r (vals_put k t ry)
section
variable {X : Cx} {K : PySem.W.Frag} {o e e2 : Expr} {to : TE} {t : TA} {apos cpos : Pos}
theorem mm_insert : MtR X "list.insert" mInsert := by
  intro pins s σ H x vs v us Q I rx rv q
  match x, vs, q with
  | .ref l, [.int i, y], ⟨xs, hH, h1, h2, h3, q⟩ =>
  cases rx
  obtain ⟨u1, u, rfl, ⟨tk, rfl⟩, ru⟩ := vals2 rv
  obtain ⟨z, its, n, r, hl, e⟩ := I.lstM hH
  have hi63 : i < 2 ^ 63 := by omega
  have hfit : ¬ (!Builtin.List.listFitsIndex i) = true := by
    rw [fitsIndex_both (by omega) hi63]
    exact Bool.false_ne_true
  refine call_meets F.slot_list_insert ⟨_, e, rfl⟩ F.entry_list_insert (F.args_list_insert_3 _ _ _) (AutoListH.list_insert_list_int_val_1 l its.toArray n i tk u hfit (by rw [List.size_toArray]; omega)) ⟨e, ?_⟩
  refine ⟨.non, _, I.lset (its' := its.take i.toNat ++ u :: its.drop i.toNat) hH e ?_ (vals_put i.toNat r ru) ?_, rfl, q⟩
  . have hm : min i.toNat its.length = i.toNat := by omega
    show (have k := if i < 0 then (i + ((its.toArray.size : Nat) : Int)).toNat else min i.toNat its.toArray.size; (its.toArray.extract 0 k).push u ++ its.toArray.extract k) = _
    rw [if_neg (by omega), List.size_toArray, hm]
    apply Array.toList_inj.mp
    simp
    exact List.take_of_length_le (by rw [List.length_drop]; exact Nat.le_refl _)
  . rw [List.length_append, List.length_cons, List.length_take, List.length_drop]
    exact small_le (by omega)
theorem kInsert (ho : PE X o to) (ha : PA X [e, e2] t) (hbase : attributeBase o "insert" X.env (eval o X.env) = eval o X.env := by rfl)
    (hfew : ((backTo cpos (starEach [e, e2] X.env)).all (fun x => !x.1) && (backToKw cpos (keywordEach [] X.env)).all (fun x => x.1.isSome)
      && decide ([e, e2].length + ([] : List Keyword).length + (if ([] : List Keyword).isEmpty then 0 else 1) < 30)) = true := by rfl)
    (hline : (apos.endLine == cpos.line) = true := by rfl) (hs : starEach [e, e2] X.env = (false, eval e X.env) :: starEach [e2] X.env := by rfl) (hplain : (backTo cpos (starEach [e2] X.env)).any (·.1) = false := by rfl) (hK : X.K = K := by rfl) :
    PE X (.Call (.Attribute o "insert" apos) [e, e2] [] cpos) (tBM K "list" mInsert to t) := hK ▸ pe_bm PySem.F.plainAttrs_list PySem.F.slot_list_insert PySem.F.type_list_insert mm_insert ho ha hbase hfew hline hs hplain
theorem bm_insert : BMono mInsert := fun x xs H Q Q' h q => by
  unfold mInsert at *
  split at q
  . obtain ⟨ys, a, b, c, d, q⟩ := q; exact ⟨ys, a, b, c, d, h _ _ q⟩
  . exact q.elim
end
end L2
namespace L2
open PySem PySem.Spec PyProof.Rows
section
variable {X : Cx} {K : PySem.W.Frag}
end
end L2
namespace L2
open PySem PyProof.Rows
section
variable {X : Cx}
end
section
variable {X : Cx}
end
section
variable {X : Cx} {K : PySem.W.Frag}
end
end L2
namespace HT
open PySem PyProof.Rows
section
variable {prog : Program} {w : World} {A : Around} {E : Value -> Shared -> Prop} {s : Shared}
theorem getItem_tuple_whole {t sl : Addr} {items : Array Value} {vl vu : Value} {lo hi : Option Int} {Q : Value -> Shared -> Prop} (ht : IsTup s.heap t items) (hs : s.heap.IsSliceOf sl vl vu .none) (pl : IsPart vl lo) (pu : IsPart vu hi)
    (hw : sIx items.size 0 lo = 0 /\ sIx items.size items.size hi = items.size)
    (h : Q (.ref t) s) : wpAny (model prog w) A (getItem (.ref t) (.ref sl)) Q E s := by
  obtain ⟨os, hos, hcs, hds⟩ := id hs
  have hTs : s.TypeIs (.ref sl) "slice" := ⟨os, hos, hcs⟩
  unfold getItem
  try with_reducible refine wpAny_holding ?_
  first | refine wpAny_bind (wpAny_pure ?_) | skip
  refine wpAny_bind (wpAny_sequenceKey ht.typeIs (by decide) ?_)
  refine wpAny_bind (wpAny_callSpecial?_slot (name := Str.ofString "__getitem__") ht.typeIs PyProof.Rows.slot_tuple_getitem
    (wpAny_call_entry PyProof.Rows.slot_tuple_getitem ht.typeIs entry_tuple_getitem ?_ (args_tuple_getitem _ _)))
  show wpAny _ _ (Builtin.Tuple.tupleItemsOf (.ref t) >>= _) _ _ s
  refine wpAny_bind (tupleItemsOf_ ht ?_)
  refine wpAny_bind (wpAny_typeOf hTs ?_)
  rw [if_pos (by decide)]
  refine wpAny_bind (sliceApplied_gen hs pl pu ?_)
  rw [hw.1, hw.2]
  show wpAny _ _ (if (((0 : Nat) : Int) == 0 && (1 : Int) == 1 && (items.size - 0) == items.size) = true then _ else _) _ _ s
  have hyes : (((0 : Nat) : Int) == 0 && (1 : Int) == 1 && (items.size - 0) == items.size) = true := by simp
  rw [if_pos hyes]
  unfold Builtin.Tuple.tupleIsExact
  refine wpAny_bind (wpAny_bind (wpAny_typeOf ht.typeIs (wpAny_pure ?_)))
  rw [if_pos (by decide)]
  refine wpAny_bind (wpAny_rule ?_)
  first
    | exact wpAny_bind (wpAny_pure ⟨_, rfl, wpAny_pure h⟩)
    | exact wpAny_pure ⟨_, rfl, wpAny_pure h⟩
    | exact wpAny_bind (wpAny_pure (wpAny_pure ⟨_, rfl, wpAny_pure h⟩))
    | exact wpAny_bind (wpAny_bind (wpAny_pure (wpAny_pure ⟨_, rfl, wpAny_pure h⟩)))
end
end HT
namespace L2
open PySem PySem.Spec PyProof.Rows
section
variable {X : Cx} {K : PySem.W.Frag} {e sx : Expr} {te ts : TE} {lo hi : Option Expr} {tl th : TO} {pos p2 : Pos}
def mCutA (K : PySem.W.Frag) : V -> Option Int -> Option Int -> Hp -> VK -> Prop := fun x lo hi H Q => match x with
  | .ref a => ∃ xs, SqT K H a xs /\ ∀ p H', Same H H' -> SqT K H' p (cutV xs lo hi) -> Q (.ref p) H'
  | _ => False
theorem sl_cutA : SlR X (mCutA X.K) := by
  intro pins s σ H x v vl vu lo hi sl Q I rx hs pl pu q
  cases x with
  | ref a =>
    obtain ⟨xs, hx, q⟩ := q
    by_cases hw : HT.sIx xs.length 0 lo = 0 /\ HT.sIx xs.length xs.length hi = xs.length
    . cases rx
      obtain ⟨its, r, ht, hz⟩ := I.tuple hx
      have hlen : its.toArray.size = xs.length := by rw [List.size_toArray]; exact r.length.symm
      refine ⟨"tuple", _, PyProof.Rows.slot_tuple_getitem.lookup, ht.typeIs, ?_⟩
      refine HT.getItem_tuple_whole ht hs pl pu (by rw [hlen]; exact hw) ⟨.ref a, H, I, rfl, q a H (fun _ _ h => h) ?_⟩
      have : cutV xs lo hi = xs := by
        unfold cutV
        rw [hw.1, hw.2, List.drop_zero, List.take_of_length_le (by omega)]
      rw [this]
      exact hx
    . exact sl_tup pins s σ H _ v vl vu lo hi sl Q I rx hs pl pu ⟨a, xs, rfl, hx, hw, fun p hp => q p _ (Same.upd hp) (.of upd_same)⟩
  | _ => exact False.elim q
theorem kCutA (he : PE X e te) (hl : PO X lo tl) (hu : PO X hi th) (hK : X.K = K := by rfl) : PE X (.Subscript e (.Slice lo hi none p2) pos) (tSl (mCutA K) te tl th) := hK ▸ pe_slice sl_cutA he hl hu
theorem em_cutA (h : EMono te) (h1 : OMono tl) (h2 : OMono th) : EMono (tSl (mCutA K) te tl th) := fun σ H Q Q' k q => h _ _ _ _ (fun v _ q => h1 _ _ _ _ (fun _ _ q => h2 _ _ _ _ (fun _ _ q => by
  cases v <;> first | exact False.elim q | (obtain ⟨xs, a, q⟩ := q; exact ⟨xs, a, fun p H' s r => k _ _ (q p H' s r)⟩)) q) q) q
end
end L2
namespace HT
open PySem PyProof.Rows
section
variable {prog : Program} {w : World} {A : Around} {E : Value -> Shared -> Prop} {s : Shared}
theorem cat_none {t b : Addr} {ws : List Value} {Q : Value -> Shared -> Prop} (ht : IsTup s.heap t #[]) (hb : IsTup s.heap b ws.toArray) (h : Q (.ref b) s) :
    wpAny (model prog w) A (binaryOp .Add (.ref t) (.ref b)) Q E s := by
  obtain ⟨⟨cls, dd, data, sl⟩, ho, hc, n, hd⟩ := id ht
  obtain ⟨⟨cls2, dd2, data2, sl2⟩, ho2, hc2, n2, hd2⟩ := id hb
  simp only at hc hd hc2 hd2
  subst hc hd hc2 hd2
  exact concat_meets ⟨_, ho, rfl⟩ ⟨_, ho2, rfl⟩ noFill_tuple_add seq_tuple_add PySem.F.slot_tuple_add PySem.F.entry_tuple_add (PySem.F.args_tuple_add_2 _ _)
    (tuple_addW0 t b #[] ws.toArray n n2 dd dd2 sl sl2 rfl) ⟨ho, ho2, h⟩
end
end HT
namespace L2
open PySem PySem.Spec PyProof.Rows
section
variable {X : Cx} {K : PySem.W.Frag}
def mAddA (K : PySem.W.Frag) : R2 := fun x y H Q => match x, y with
  | .int i, .int j => Q (.int (i + j)) H
  | .ref a, .ref b => rCat (.ref a) (.ref b) H Q \/ ∃ xs ys, SqT K H a xs /\ SqT K H b ys /\ xs.length + ys.length <= sizeLine /\ ∀ p H', Same H H' -> SqT K H' p (xs ++ ys) -> Q (.ref p) H'
  | _, _ => False
theorem om_addA : OpR X (binaryOp .Add) (mAddA X.K) := by
  intro pins s σ H x y v u Q I rx ry q
  cases x <;> cases y <;> first
    | exact False.elim q
    | exact op_add pins s σ H _ _ v u Q I rx ry ⟨_, _, rfl, rfl, q⟩
    | skip
  rename_i a b
  rcases q with q | ⟨xs, ys, ha, hb, hz, q⟩
  . exact op_cat pins s σ H _ _ v u Q I rx ry q
  by_cases hx : xs = []
  . subst hx
    cases rx
    cases ry
    obtain ⟨its, r1, p1, _⟩ := I.tuple ha
    obtain ⟨its2, r2, p2, _⟩ := I.tuple hb
    cases r1
    exact HT.cat_none p1 p2 ⟨.ref b, H, I, rfl, q b H (fun _ _ h => h) hb⟩
  . exact op_catT pins s σ H _ _ v u Q I rx ry ⟨a, b, xs, ys, rfl, rfl, ha, hb, hx, hz, fun e => q a H (fun _ _ h => h) (by rw [e, List.append_nil]; exact ha), fun _ p hp => q p _ (Same.upd hp) (.of upd_same)⟩
theorem kAddA (hK : X.K = K := by rfl) : OpR X (binaryOp .Add) (mAddA K) := hK ▸ om_addA
theorem rm_addA : RMono (mAddA K) := fun x y H Q Q' m q => by
  cases x <;> cases y <;> first
    | exact False.elim q
    | exact m _ _ q
    | skip
  rcases q with ⟨l, b, xs, zs, h1, h2, h3, h4, h5, q⟩ | ⟨xs, ys, ha, hb, hz, q⟩
  . exact .inl ⟨l, b, xs, zs, h1, h2, h3, h4, h5, fun p hp => m _ _ (q p hp)⟩
  . exact .inr ⟨xs, ys, ha, hb, hz, fun p H' a b => m _ _ (q p H' a b)⟩
end
section
variable {X : Cx} {K : PySem.W.Frag}
def mMinL (K : PySem.W.Frag) : List V -> Hp -> VK -> Prop := fun xs H Q => match xs with
  | [.ref l] => ∃ ns : List Int, SqL K H l (ns.map V.int) /\ 0 < ns.length /\ ∀ M, M ∈ ns -> (∀ a ∈ ns, M <= a) -> Q (.int M) H
  | _ => False
theorem cm_minL (hc : X.calm = true) : CallR X (.builtin "min") (mMinL X.K) := by
  intro pins s σ H xs us Q I r q
  match xs, q with
  | [.ref l], q =>
  obtain ⟨ns, hl, hne, q⟩ := q
  obtain ⟨u, rfl, ru⟩ := vals1 r
  cases ru
  obtain ⟨its, rv, pl, hz⟩ := I.list hl
  have hi : IntsAre its ns := by simpa using intsAre_of rv
  obtain ⟨zs, hzs⟩ := (hi.allInts).items
  have pl' := pl.isList
  rw [hzs] at pl'
  have hns : ns = zs.toList.map (·.1) := by
    rw [<- hi.numsOf, <- nums_intItems, <- hzs]
  have hsz : 0 < zs.size := by
    rw [hns, List.length_map, Array.length_toList] at hne; exact hne
  refine min_intList (I.ok.hd hc) pl' hsz fun v h' tk hv hk => ?_
  obtain ⟨t, rfl⟩ := intItems_at hv
  obtain ⟨h1, h2⟩ := argBest_lt (numAt zs) (zs.size - 1)
  refine ⟨.int _, H, I.kept hk, ⟨t, rfl⟩, q _ ?_ fun a ha => ?_⟩
  . rw [hns, numAt_eq]; exact getD_mem (by rw [List.length_map, Array.length_toList]; omega)
  . rw [hns] at ha
    obtain ⟨j, hj, rfl⟩ := mem_getD ha
    rw [List.length_map, Array.length_toList] at hj
    rw [<- numAt_eq]; exact h2 j (by omega)
theorem kMinL (hc : X.calm = true) (hK : X.K = K := by rfl) : CallR X (.builtin "min") (mMinL K) := hK ▸ cm_minL hc
end
section
variable {X : Cx} {K : PySem.W.Frag} {e sx : Expr} {te ts : TE} {lo hi : Option Expr} {tl th : TO} {pos p2 : Pos}
end
abbrev BV := List (List Bool × Addr × V)
abbrev BVr : BV -> List (List Bool × Addr × Value) -> Prop := Paired fun p q => p.1 = q.1 /\ p.2.1 = q.2.1 /\ RelV p.2.2 q.2.2
def dV (P : Program) (w : World) (a : Addr) (kvs : BV) : HO := .ext fun h => ∃ xs o es ep, BVr kvs xs /\ h.get? a = some o /\ o.ExactDict /\ o.data = .dict es ep /\ es.toList = xs.map (entryOfKey (tupleKind (boolKind P w))) /\ (xs.map (·.1)).Nodup /\ xs.length <= sizeLine /\ (a == sysModules) = false
def KeysV (H : Hp) (kvs : BV) : Prop := ∀ q ∈ kvs, H q.2.1 = some (.tup (q.1.map V.bl))
section
variable {P : Program} {w : World} {H : Hp} {h : Heap} {a : Addr}
end
theorem KeysV.same {H H' : Hp} {kvs : BV} (h : KeysV H kvs) (s : ∀ b ys, H b = some (.tup ys) -> H' b = some (.tup ys)) : KeysV H' kvs := fun q hq => s _ _ (h q hq)
section
variable {X : Cx} {o i e f value : Expr} {pos pos' tpos apos cpos : Pos} {td ty tx tv : TE}
end
section
variable {X : Cx} {P : Program} {w : World} {o i e f : Expr} {pos apos cpos : Pos} {td ty tx : TE}
end
section
variable {prog : Program} {w : World} {A : Around} {E : Value -> Shared -> Prop} {s : Shared} {d it : Addr} {o : Obj} {es : Array DictEntry} {ep i : Nat}
end
section
variable {X : Cx} {pins : List (Addr × Obj)} {σ : St} {H : Hp} {s : Shared}
theorem BVr.get {kvs : BV} {xs : List (List Bool × Addr × Value)} (r : BVr kvs xs) : ∀ {i : Nat} {q : List Bool × Addr × V}, kvs[i]? = some q -> ∃ x, xs[i]? = some x /\ x.2.1 = q.2.1 := by
  induction r with
  | nil => intro i q e; simp at e
  | @cons a b l1 l2 h t ih =>
    intro i q e
    cases i with
    | zero =>
      simp at e; subst e
      exact ⟨b, by simp, h.2.1.symm⟩
    | succ i =>
      obtain ⟨v, h1, h2⟩ := ih (i := i) (q := q) (by simpa using e)
      exact ⟨v, by simpa using h1, h2⟩
end
section
variable {X : Cx} {K : PySem.W.Frag}
end
section
variable {X : Cx} {K : PySem.W.Frag}
def mMaxL (K : PySem.W.Frag) : List V -> Hp -> VK -> Prop := fun xs H Q => match xs with
  | [.ref l] => ∃ ns : List Int, SqL K H l (ns.map V.int) /\ 0 < ns.length /\ ∀ M, M ∈ ns -> (∀ a ∈ ns, a <= M) -> Q (.int M) H
  | _ => False
theorem cm_maxL (hc : X.calm = true) : CallR X (.builtin "max") (mMaxL X.K) := by
  intro pins s σ H xs us Q I r q
  match xs, q with
  | [.ref l], q =>
  obtain ⟨ns, hl, hne, q⟩ := q
  obtain ⟨u, rfl, ru⟩ := vals1 r
  cases ru
  obtain ⟨its, rv, pl, hz⟩ := I.list hl
  have hi : IntsAre its ns := by simpa using intsAre_of rv
  obtain ⟨zs, hzs⟩ := (hi.allInts).items
  have pl' := pl.isList
  rw [hzs] at pl'
  have hns : ns = zs.toList.map (·.1) := by
    rw [<- hi.numsOf, <- nums_intItems, <- hzs]
  have hsz : 0 < zs.size := by
    rw [hns, List.length_map, Array.length_toList] at hne; exact hne
  refine max_intList (I.ok.hd hc) pl' hsz fun v h' tk hv hk => ?_
  obtain ⟨t, rfl⟩ := intItems_at hv
  obtain ⟨h1, h2⟩ := argBest_gt (numAt zs) (zs.size - 1)
  refine ⟨.int _, H, I.kept hk, ⟨t, rfl⟩, q _ ?_ fun a ha => ?_⟩
  . rw [hns, numAt_eq]; exact getD_mem (by rw [List.length_map, Array.length_toList]; omega)
  . rw [hns] at ha
    obtain ⟨j, hj, rfl⟩ := mem_getD ha
    rw [List.length_map, Array.length_toList] at hj
    rw [<- numAt_eq]; exact h2 j (by omega)
theorem kMaxL (hc : X.calm = true) (hK : X.K = K := by rfl) : CallR X (.builtin "max") (mMaxL K) := hK ▸ cm_maxL hc
theorem cm_maxL_ : CMono (mMaxL K) := fun xs H Q Q' h q => by
  unfold mMaxL at *
  split at q
  . obtain ⟨ns, a, b, q⟩ := q; exact ⟨ns, a, b, fun M x y => h _ _ (q M x y)⟩
  . exact q.elim
end
def mInD (K : PySem.W.Frag) (neg : Bool) : R2 := fun x y H Q => match y with
  | .ref p => ∃ (xs : List V) (ds : List Dv) (d : Dv), SqA K H p xs /\ Reps K H ds xs /\ Rep K H d x /\ (∀ e ∈ ds, depD e <= 50) /\ Q (.bl (neg ^^ ds.any fun e => eqD e d)) H
  | _ => False
theorem relV_inj {x y : V} {u : Value} (h1 : RelV x u) (h2 : RelV y u) : x = y := by
  cases x <;> cases y <;> simp only [RelV] at h1 h2 <;> (first | (obtain ⟨t, rfl⟩ := h1) | subst h1) <;> (first | (obtain ⟨t', e⟩ := h2; cases e; done) | (obtain ⟨t', e⟩ := h2; cases e; rfl) | (cases h2; done) | (cases h2; rfl))
open Classical in
noncomputable def dataU (K : PySem.W.Frag) (H : Hp) (u : Value) : Dv := if h : ∃ d x, RelV x u /\ Rep K H d x then h.choose else .non
section
variable {X : Cx} {K : PySem.W.Frag} {pins : List (Addr × Obj)} {σ : St} {H : Hp} {s : Shared}
theorem dataU_eq (I : Inv X pins σ H s) {d : Dv} {x : V} {u : Value} (r : RelV x u) (h : Rep X.K H d x) : dataU X.K H u = d := by
  have hx : ∃ d x, RelV x u /\ Rep X.K H d x := ⟨d, x, r, h⟩
  unfold dataU
  rw [dif_pos hx]
  obtain ⟨y, r', h'⟩ := hx.choose_spec
  obtain rfl := relV_inj r r'
  exact rep_inj I _ _ _ h' h
theorem any_data (I : Inv X pins σ H s) {d : Dv} : ∀ {ds : List Dv} {xs : List V} {us : List Value}, Reps X.K H ds xs -> Vals xs us -> us.any (fun u => eqD (dataU X.K H u) d) = ds.any fun e => eqD e d
  | [], _, _, h, r => by
    unfold Reps at h
    subst h
    cases r
    rfl
  | e :: ds, xs, us, h, r => by
    unfold Reps at h
    obtain ⟨x, l, rfl, h1, h2⟩ := h
    cases r with
    | cons r1 r2 => rw [List.any_cons, List.any_cons, any_data I h2 r2, dataU_eq I r1 h1]
theorem mem_data {d : Dv} : ∀ {ds : List Dv} {xs : List V} {us : List Value}, Reps K H ds xs -> Vals xs us -> ∀ u ∈ us, ∃ e ∈ ds, ∃ x, RelV x u /\ Rep K H e x
  | [], _, _, h, r => by
    unfold Reps at h
    subst h
    cases r
    intro u hu
    cases hu
  | e :: ds, xs, us, h, r => by
    unfold Reps at h
    obtain ⟨x, l, rfl, h1, h2⟩ := h
    cases r with
    | cons r1 r2 =>
      intro u hu
      rcases List.mem_cons.mp hu with rfl | hu
      . exact ⟨e, List.mem_cons_self, x, r1, h1⟩
      . obtain ⟨e', h3, h4⟩ := mem_data (d := d) h2 r2 u hu
        exact ⟨e', List.mem_cons_of_mem _ h3, h4⟩
theorem in_data (hu : X.A.units + 60 < cLine) (I : Inv X pins σ H s) {d : Dv} {x : V} {v : Value} {ds : List Dv} {xs : List V} {us : List Value} (rx : RelV x v) (hx : Rep X.K H d x) (hR : Reps X.K H ds xs) (r : Vals xs us) (hd : ∀ e ∈ ds, depD e <= 50) : ∀ y, y ∈ us -> SeqAt.EqAt X.A.in1 s y v (eqD (dataU X.K H y) d) := by
  intro y hy
  obtain ⟨e, he, z, r1, h1⟩ := mem_data (d := d) hR r y hy
  rw [dataU_eq I r1 h1]
  exact (eq_all I 50 X.A.in1 e d z x y v (hd e he) (by show X.A.units + 1 + 50 < cLine; omega) h1 hx r1 rx).1
theorem om_notInD (hu : X.A.units + 60 < cLine) : OpR X (compareOp .NotIn) (mInD X.K true) := by
  intro pins s σ H x y v u Q I rx ry h
  cases y <;> first | exact False.elim h | skip
  obtain ⟨xs, ds, d, hq, hR, hx, hd, q⟩ := h
  cases ry
  rcases hq with hq | hq
  . obtain ⟨its, r, pl, hz⟩ := I.list hq
    refine SeqAt.notIn_listAt (fun y => eqD (dataU X.K H y) d) pl.isList (fun w hw => in_data hu I rx hx hR r hd w (by simpa using hw)) ⟨.bl _, H, I, rfl, ?_⟩
    rw [show its.toArray.any (fun y => eqD (dataU X.K H y) d) = its.any (fun y => eqD (dataU X.K H y) d) by simp, any_data I hR r]
    simpa using q
  . obtain ⟨its, r, pl, hz⟩ := I.tuple hq
    refine SeqAt.notIn_tupleAt (fun y => eqD (dataU X.K H y) d) pl (fun w hw => in_data hu I rx hx hR r hd w (by simpa using hw)) ⟨.bl _, H, I, rfl, ?_⟩
    rw [show its.toArray.any (fun y => eqD (dataU X.K H y) d) = its.any (fun y => eqD (dataU X.K H y) d) by simp, any_data I hR r]
    simpa using q
theorem kNotInD (hu : X.A.units + 60 < cLine) (hK : X.K = K := by rfl) : OpR X (compareOp .NotIn) (mInD K true) := hK ▸ om_notInD hu
theorem rm_inD {neg : Bool} : RMono (mInD K neg) := fun x y H Q Q' h q => by
  cases y with
  | ref p => obtain ⟨xs, ds, d, h1, h2, h3, h4, q⟩ := q; exact ⟨xs, ds, d, h1, h2, h3, h4, h _ _ q⟩
  | _ => exact False.elim q
end
structure GFd (H : Hp) (t l : Addr) (N : Nat) : Prop where
  at_ : ∃ (i g c : Int) (ns : List Int), 0 <= i /\ 0 <= g /\ 0 <= c /\ c <= N /\ H t = some (.lst [.ref l, .int i, .int g, .int c]) /\ l ≠ t /\ H l = some (.lst (ns.map V.int)) /\ ns.length ≠ 0
theorem GFeed.told {H : Hp} {t : Addr} {N : Nat} (F : GFeed H t N) : ∃ l, GFd H t l N := by
  obtain ⟨l, i, g, c, ns, h⟩ := F.at_
  exact ⟨l, i, g, c, ns, h⟩
theorem GFd.feed {H : Hp} {t l : Addr} {N : Nat} (F : GFd H t l N) : GFeed H t N := by
  obtain ⟨i, g, c, ns, h⟩ := F.at_
  exact ⟨l, i, g, c, ns, h⟩
theorem GFd.same {H H' : Hp} {t l : Addr} {N : Nat} (F : GFd H t l N) (h : Same H H') : GFd H' t l N := by
  obtain ⟨i, g, c, ns, h1, h2, h3, h4, h5, h6, h7, h8⟩ := F.at_
  exact ⟨i, g, c, ns, h1, h2, h3, h4, h _ _ h5, h6, h _ _ h7, h8⟩
theorem GFd.upd {H : Hp} {t l p : Addr} {o : HO} {N : Nat} (F : GFd H t l N) (h : H p = none) : GFd (L2.upd H p o) t l N := F.same (Same.upd h)
theorem GFd.ne {H : Hp} {t l p : Addr} {N : Nat} (F : GFd H t l N) (h : H p = none) : p ≠ t /\ p ≠ l := by
  obtain ⟨i, g, c, ns, h1, h2, h3, h4, h5, h6, h7, h8⟩ := F.at_
  exact ⟨fun e => (by rw [e, h5] at h; exact nomatch h), fun e => (by rw [e, h7] at h; exact nomatch h)⟩
theorem GFd.put {H : Hp} {t l p : Addr} {o : HO} {N : Nat} (F : GFd H t l N) (h : p ≠ t /\ p ≠ l) : GFd (L2.upd H p o) t l N := by
  obtain ⟨i, g, c, ns, h1, h2, h3, h4, h5, h6, h7, h8⟩ := F.at_
  exact ⟨i, g, c, ns, h1, h2, h3, h4, by rw [upd_ne (Ne.symm h.1)]; exact h5, h6, by rw [upd_ne (Ne.symm h.2)]; exact h7, h8⟩
theorem GFeed.put {H : Hp} {t p : Addr} {o : HO} {N : Nat} {xs : List V} (F : GFeed H t N) (hp : p ≠ t) (hx : H p = some (.lst xs)) (hn : ∀ ns : List Int, ns.length ≠ 0 -> xs ≠ ns.map V.int) : GFeed (L2.upd H p o) t N := by
  obtain ⟨l, i, g, c, ns, h1, h2, h3, h4, h5, h6, h7, h8⟩ := F.at_
  have : p ≠ l := fun e => by
    rw [e, h7] at hx
    cases hx
    exact hn ns h8 rfl
  exact ⟨l, i, g, c, ns, h1, h2, h3, h4, by rw [upd_ne (Ne.symm hp)]; exact h5, h6, by rw [upd_ne (Ne.symm this)]; exact h7, h8⟩
def spGDraw2 : Sp := fun vs H Q _ => match vs with
  | [.ref t, .int m] => ∃ l N, GFd H t l N /\ N <= 1000000000 /\ okDiv m /\ ∀ d H', 0 <= d -> d < m -> GFd H' t l (N + 1) -> (∀ b, b ≠ t -> H' b = H b) -> Q (.int d) H'
  | _ => False
theorem spGDraw2_mono : SpMono spGDraw2 := fun vs H Q Q' E h q => by
  unfold spGDraw2 at *
  split at q
  . obtain ⟨l, N, h1, h2, h3, q⟩ := q; exact ⟨l, N, h1, h2, h3, fun d H' a b c e => h _ _ (q d H' a b c e)⟩
  . exact q.elim
theorem spGDraw_of (vs : List V) (H : Hp) (Q : VK) (E : XK) (h : spGDraw vs H Q E) : spGDraw2 vs H Q E := by
  unfold spGDraw at h
  unfold spGDraw2
  split at h
  . obtain ⟨N, F, h2, h3, q⟩ := h
    obtain ⟨l, F⟩ := F.told
    exact ⟨l, N, F, h2, h3, fun d H' a b c e => q d H' a b c.feed e⟩
  . exact h.elim
inductive Dw where
  | non | bl (b : Bool) | int (i : Int) | str (x : Str) | tup (ds : List Dw) | lst (ds : List Dw) | emp
def LstP (a : Addr) (xs : List V) : Heap -> Prop := fun h => a ≠ sysModules /\ ∃ (its : List Value) (n : Nat), Vals xs its /\ h.get? a = some { cls := .type "list", data := .seq its.toArray n }
mutual
def RepW (K : PySem.W.Frag) (H : Hp) : Dw -> V -> Prop
  | .non, v => v = .non
  | .bl b, v => v = .bl b
  | .int i, v => v = .int i
  | .str x, v => v = .str x
  | .tup ds, v => ∃ a xs, v = .ref a /\ SqT K H a xs /\ RepsW K H ds xs
  | .lst ds, v => ∃ a xs, v = .ref a /\ H a = some (.ext (LstP a xs)) /\ RepsW K H ds xs
  | .emp, v => ∃ a, v = .ref a /\ H a = some (.dK [])
def RepsW (K : PySem.W.Frag) (H : Hp) : List Dw -> List V -> Prop
  | [], xs => xs = []
  | d :: ds, xs => ∃ x r, xs = x :: r /\ RepW K H d x /\ RepsW K H ds r
end
theorem RepsW.length {K : PySem.W.Frag} {H : Hp} : ∀ {ds : List Dw} {xs : List V}, RepsW K H ds xs -> ds.length = xs.length
  | [], xs, h => by unfold RepsW at h; subst h; rfl
  | d :: ds, xs, h => by
    unfold RepsW at h
    obtain ⟨x, r, rfl, _, h⟩ := h
    rw [List.length_cons, List.length_cons, RepsW.length h]
theorem RepsW.get {K : PySem.W.Frag} {H : Hp} : ∀ {ds : List Dw} {xs : List V} {i : Nat} {d : Dw}, RepsW K H ds xs -> ds[i]? = some d -> ∃ x, xs[i]? = some x /\ RepW K H d x
  | [], _, _, _, _, e => by simp at e
  | d :: ds, xs, 0, _, h, e => by
    unfold RepsW at h
    obtain ⟨x, r, rfl, h1, _⟩ := h
    simp at e; subst e
    exact ⟨x, rfl, h1⟩
  | d :: ds, xs, i + 1, _, h, e => by
    unfold RepsW at h
    obtain ⟨x, r, rfl, _, h⟩ := h
    obtain ⟨y, h1, h2⟩ := RepsW.get (i := i) h (by simpa using e)
    exact ⟨y, by simpa using h1, h2⟩
mutual
theorem RepW.same {K : PySem.W.Frag} {H H' : Hp} (s : Same H H') : ∀ (d : Dw) (v : V), RepW K H d v -> RepW K H' d v
  | .non, v, h => by unfold RepW at *; exact h
  | .bl b, v, h => by unfold RepW at *; exact h
  | .int i, v, h => by unfold RepW at *; exact h
  | .str x, v, h => by unfold RepW at *; exact h
  | .emp, v, h => by unfold RepW at *; obtain ⟨a, e, h⟩ := h; exact ⟨a, e, s _ _ h⟩
  | .tup ds, v, h => by
    unfold RepW at *
    obtain ⟨a, xs, e, h1, h2⟩ := h
    exact ⟨a, xs, e, sqT_same h1 s, RepsW.same s ds xs h2⟩
  | .lst ds, v, h => by
    unfold RepW at *
    obtain ⟨a, xs, e, h1, h2⟩ := h
    exact ⟨a, xs, e, s _ _ h1, RepsW.same s ds xs h2⟩
theorem RepsW.same {K : PySem.W.Frag} {H H' : Hp} (s : Same H H') : ∀ (ds : List Dw) (xs : List V), RepsW K H ds xs -> RepsW K H' ds xs
  | [], xs, h => by unfold RepsW at *; exact h
  | d :: ds, xs, h => by
    unfold RepsW at *
    obtain ⟨x, r, e, h1, h2⟩ := h
    exact ⟨x, r, e, RepW.same s d x h1, RepsW.same s ds r h2⟩
end
section
variable {X : Cx} {K : PySem.W.Frag} {es : List Expr} {t : TA} {pos : Pos}
end
mutual
def depW : Dw -> Nat
  | .tup ds => depWs ds + 1
  | .lst ds => depWs ds + 1
  | .emp => 1
  | _ => 0
def depWs : List Dw -> Nat
  | [] => 0
  | d :: ds => max (depW d) (depWs ds)
end
mutual
def bulkW : Dw -> Nat
  | .str x => x.cps.size
  | .tup ds => bulkWs ds
  | .lst ds => bulkWs ds
  | _ => 0
def bulkWs : List Dw -> Nat
  | [] => 0
  | d :: ds => bulkW d + 1 + bulkWs ds
end
section
variable {X : Cx} {pins : List (Addr × Obj)} {σ : St} {H : Hp} {s : Shared}
end
section
variable {X : Cx} {K : PySem.W.Frag}
end
mutual
def okW (n : Nat) : Dw -> Bool
  | .int i => decide (i.natAbs <= n)
  | .str x => x.cps.toList.all fun c => decide (c < 16 ^ 8)
  | .tup ds => okWs n ds
  | .lst ds => okWs n ds
  | _ => true
def okWs (n : Nat) : List Dw -> Bool
  | [] => true
  | d :: ds => okW n d && okWs n ds
end
structure Fit (n D B : Nat) (d : Dw) : Prop where
  ok : okW n d = true
  dep : depW d <= D
  bulk : bulkW d <= B
theorem firstMet_nodup (val : Nat -> Int) : ∀ i, (firstMet val i).Nodup
  | 0 => by rw [firstMet_zero]; exact List.nodup_nil
  | i + 1 => by
    rw [firstMet_succ]
    unfold step_dedup
    have ih := firstMet_nodup val i
    split
    . exact ih
    . rename_i h
      rw [List.nodup_append]
      refine ⟨ih, by simp, ?_⟩
      intro a ha b hb e
      rw [List.mem_singleton.mp hb] at e
      exact h (List.any_eq_true.mpr ⟨a, ha, by rw [e]; simp⟩)
theorem firstMet_mem (ns : List Int) (k : Int) : k ∈ firstMet (fun i => ns.getD i 0) ns.length ↔ k ∈ ns := by
  have h := firstMet_any (fun i => ns.getD i 0) ns.length k
  have e : (List.range ns.length).map (fun i => ns.getD i 0) = ns := by
    apply List.ext_getElem
    . simp
    . intro i h1 h2
      simp
      rw [List.getElem?_eq_getElem h2]; rfl
  rw [e] at h
  have a1 : ∀ l : List Int, l.any (· == k) = true ↔ k ∈ l := fun l => by simp
  rw [<- a1, <- a1, h]
def setO (ds : List Int) : HO := .set (fun k => ds.any (· == k)) ds.length
def mSetL (K : PySem.W.Frag) : List V -> Hp -> VK -> Prop := fun xs H Q => match xs with
  | [.ref p] => ∃ ns : List Int, SqL K H p (ns.map V.int) /\ ns.length <= 1000 /\ ∀ (ds : List Int) q, ds.Nodup -> (∀ k, k ∈ ds ↔ k ∈ ns) -> H q = none -> Q (.ref q) (upd H q (setO ds))
  | _ => False
section
variable {X : Cx} {K : PySem.W.Frag}
theorem cm_setL (hh : X.calm = true) : CallR X (.type "set") (mSetL X.K) := by
  intro pins s σ H xs us Q I r h
  match xs, h with
  | [.ref p], h =>
  obtain ⟨ns, hq, hn, q⟩ := h
  obtain ⟨u, rfl, rx⟩ := vals1 r
  cases rx
  obtain ⟨its, rv, pl, hz⟩ := I.list hq
  have hi : IntsAre its ns := by simpa using intsAre_of rv
  have hlen : its.length = ns.length := by rw [<- rv.length, List.length_map]
  refine call_set_list (ns := ns) (I.ok.hd hh) pl.isList (by simpa using hi) (by rw [List.size_toArray, hlen]; show ns.length + 1 < 4096; omega) fun h' tk hs hk => ?_
  have hsz : its.toArray.size = ns.length := by rw [List.size_toArray, hlen]
  rw [hsz] at hs
  refine ⟨.ref s.heap.objs.size, _, I.laid (t' := tk) (o := setO (firstMet (fun i => ns.getD i 0) ns.length)) (fun b o e => hk b o (Heap.lt_size e) e) (Nat.le_refl _) hs, rfl, q _ _ (firstMet_nodup _ _) (firstMet_mem ns) (I.hok.fresh (Nat.le_refl _))⟩
theorem kSetL (hh : X.calm = true) (hK : X.K = K := by rfl) : CallR X (.type "set") (mSetL K) := hK ▸ cm_setL hh
theorem cm_setL_ : CMono (mSetL K) := fun xs H Q Q' h q => by
  unfold mSetL at *
  split at q
  . obtain ⟨ns, a, b, q⟩ := q; exact ⟨ns, a, b, fun ds p x1 x2 x3 => h _ _ (q ds p x1 x2 x3)⟩
  . exact q.elim
def mLenSet : List V -> Hp -> VK -> Prop := fun xs H Q => match xs with
  | [.ref p] => ∃ ds : List Int, H p = some (setO ds) /\ Q (.int ds.length) H
  | _ => False
theorem cm_lenSet : CallR X (.builtin "len") mLenSet := by
  intro pins s σ H xs us Q I r h
  match xs, h with
  | [.ref p], h =>
  obtain ⟨ds, hq, q⟩ := h
  obtain ⟨u, rfl, rx⟩ := vals1 r
  cases rx
  obtain ⟨o, es, ep, t, h1, h2, h3, _, _, h6, h7, h8⟩ := (show ObjOk X.prog X.w H s.heap p (setO ds) from I.hok p _ hq)
  refine call_len_set h1 h2 h3 h7 (Int.lt_trans (Int.ofNat_lt.mpr h6) (by decide)) ⟨.int ds.length, H, I.tok _, ⟨_, by rw [h8]⟩, q⟩
theorem cm_lenSet_ : CMono mLenSet := fun xs H Q Q' h q => by
  unfold mLenSet at *
  split at q
  . obtain ⟨ds, a, q⟩ := q; exact ⟨ds, a, h _ _ q⟩
  . exact q.elim
end
def Ris (xs : Array Nat) : Prop := xs.toList.Pairwise (· < ·)
theorem Ris.lt {xs : Array Nat} (h : Ris xs) {i k : Nat} (hik : i < k) (hk : k < xs.size) (j : Nat) : xs.getD i j < xs.getD k j := by
  have hi : i < xs.size := Nat.lt_trans hik hk
  have := List.pairwise_iff_getElem.mp h i k (by simpa using hi) (by simpa using hk) hik
  simpa [Array.getD, hi, hk] using this
theorem below_go {xs : Array Nat} {j : Nat} (h : Ris xs) : ∀ (f lo hi : Nat), hi - lo <= f -> lo <= hi -> hi <= xs.size -> (∀ i, i < lo -> xs.getD i j < j) -> (∀ i, hi <= i -> i < xs.size -> j <= xs.getD i j) ->
    SetTable.below.go xs j f lo hi <= xs.size /\ (∀ i, i < SetTable.below.go xs j f lo hi -> xs.getD i j < j) /\ ∀ i, SetTable.below.go xs j f lo hi <= i -> i < xs.size -> j <= xs.getD i j
  | 0, lo, hi, h1, h2, h3, h4, h5 => by
    have e : lo = hi := by omega
    subst e
    exact ⟨h3, h4, h5⟩
  | f + 1, lo, hi, h1, h2, h3, h4, h5 => by
    unfold SetTable.below.go
    by_cases hl : lo < hi
    . rw [if_pos hl]
      dsimp only
      have hm : (lo + hi) / 2 < xs.size := by omega
      by_cases hx : xs.getD ((lo + hi) / 2) j < j
      . rw [if_pos hx]
        refine below_go h f _ _ (by omega) (by omega) h3 (fun i hi' => ?_) h5
        rcases Nat.lt_or_ge i ((lo + hi) / 2) with z | z
        . exact Nat.lt_trans (h.lt z hm j) hx
        . have : i = (lo + hi) / 2 := by omega
          rw [this]; exact hx
      . rw [if_neg hx]
        refine below_go h f _ _ (by omega) (by omega) (by omega) h4 (fun i hi' hs => ?_)
        rcases Nat.lt_or_ge ((lo + hi) / 2) i with z | z
        . have := h.lt z hs j; omega
        . have : i = (lo + hi) / 2 := by omega
          rw [this]; omega
    . rw [if_neg hl]
      have e : lo = hi := by omega
      subst e
      exact ⟨h3, h4, h5⟩
theorem below_ok {xs : Array Nat} (h : Ris xs) (j : Nat) : SetTable.below xs j <= xs.size /\ (∀ i, i < SetTable.below xs j -> xs.getD i j < j) /\ ∀ i, SetTable.below xs j <= i -> i < xs.size -> j <= xs.getD i j :=
  below_go h _ _ _ (by omega) (by omega) (Nat.le_refl _) (fun i z => by omega) (fun i z y => by omega)
theorem below_next {xs : Array Nat} (h : Ris xs) {k : Nat} (hk : k < xs.size) : SetTable.below xs (xs.getD k 0 + 1) = k + 1 := by
  obtain ⟨a, b, c⟩ := below_ok h (xs.getD k 0 + 1)
  generalize SetTable.below xs (xs.getD k 0 + 1) = r at a b c
  have e0 : ∀ i z, i < xs.size -> xs.getD i z = xs.getD i 0 := fun i z hi => by simp [Array.getD, hi]
  rcases Nat.lt_trichotomy r (k + 1) with z | z | z
  . have := c k (by omega) hk
    rw [e0 k (xs.getD k 0 + 1) hk] at this; omega
  . exact z
  . have h1 := b (k + 1) z
    have hs : k + 1 < xs.size := by omega
    have h2 := h.lt (Nat.lt_succ_self k) hs 0
    rw [e0 (k + 1) (xs.getD k 0 + 1) hs] at h1
    have : xs.getD k 0 < xs.getD (k + 1) 0 := h2
    omega
theorem below_zero {xs : Array Nat} (h : Ris xs) : SetTable.below xs 0 = 0 := by
  obtain ⟨a, b, c⟩ := below_ok h 0
  rcases Nat.eq_zero_or_pos (SetTable.below xs 0) with z | z
  . exact z
  . have := b 0 z; omega
theorem ris_insert {xs : Array Nat} (h : Ris xs) {j : Nat} (hn : xs[SetTable.below xs j]? ≠ some j) : Ris (SetTable.insertAt xs (SetTable.below xs j) j) := by
  obtain ⟨a, b, c⟩ := below_ok h j
  generalize SetTable.below xs j = r at a b c hn
  unfold Ris
  rw [SetTable.toList_insertAt, List.pairwise_append, List.pairwise_cons]
  have g : ∀ i, i < xs.size -> xs.toList[i]? = some (xs.getD i j) := fun i hi => by simp [Array.getD, hi]
  have lo : ∀ x ∈ xs.toList.take r, x < j := fun x hx => by
    obtain ⟨i, hi, e⟩ := List.getElem_of_mem hx
    rw [List.length_take] at hi
    rw [List.getElem_take] at e
    have hi2 : i < xs.size := by have := (Nat.lt_min.mp hi).2; simpa using this
    have := g i hi2
    rw [List.getElem?_eq_getElem (by simpa using hi2), e] at this
    cases this
    exact b i (Nat.lt_min.mp hi).1
  have hi : ∀ x ∈ xs.toList.drop r, j < x := fun x hx => by
    obtain ⟨i, hi, e⟩ := List.getElem_of_mem hx
    rw [List.length_drop] at hi
    rw [List.getElem_drop] at e
    have hi2 : r + i < xs.size := by have : xs.toList.length = xs.size := by simp
                                     omega
    have e1 := g (r + i) hi2
    rw [List.getElem?_eq_getElem (by simpa using hi2), e] at e1
    have e2 := c (r + i) (Nat.le_add_right _ _) hi2
    have e3 : x = xs.getD (r + i) j := Option.some.inj e1
    rcases Nat.eq_zero_or_pos i with z | z
    . subst z
      have : x ≠ j := fun q => hn (by rw [<- Array.getElem?_toList, g r hi2]; rw [<- q]; exact congrArg some (by rw [e3] at q; rw [e3]; exact (by rw [q] : xs.getD (r + 0) j = xs.getD (r + 0) j) ▸ (by simp [Array.getD, show r < xs.size from hi2])))
      omega
    . have h1 := h.lt (show r < r + i by omega) hi2 j
      have h2 := c r (Nat.le_refl _) (by omega)
      omega
  refine ⟨List.Pairwise.sublist (List.take_sublist _ _) h, ⟨hi, List.Pairwise.sublist (List.drop_sublist _ _) h⟩, fun x hx y hy => ?_⟩
  rcases List.mem_cons.mp hy with rfl | hy2
  . exact lo x hx
  . exact Nat.lt_trans (lo x hx) (hi y hy2)
theorem advance_dummy (t : SetTable) (p : SetTable.Probe) : (t.advance p).dummy = p.dummy := by
  unfold SetTable.advance
  split <;> rfl
def SlotFree (t : SetTable) (j : Nat) : Prop := t.place[SetTable.below t.place j]? ≠ some j
theorem slot_free {t : SetTable} {j : Nat} (h : ∀ i, t.slot j ≠ .live i) : SlotFree t j := fun e => h _ (by unfold SetTable.slot; dsimp only; rw [if_pos (by rw [e]; exact beq_self_eq_true _)])
theorem probe_go {t : SetTable} {g : Nat -> Int} {h : Int} {j : Nat} {d : Option Nat} : ∀ (f : Nat) (p : SetTable.Probe), (∀ x, p.dummy = some x -> SlotFree t x) -> SetTable.probe.go t g h f p = some (.empty j d) -> SlotFree t j /\ ∀ x, d = some x -> SlotFree t x
  | 0, p, hp, e => by unfold SetTable.probe.go at e; cases e
  | f + 1, p, hp, e => by
    unfold SetTable.probe.go at e
    split at e
    . rename_i hs
      cases e
      exact ⟨slot_free (fun i z => by rw [hs] at z; cases z), hp⟩
    . rename_i hs
      refine probe_go f _ (fun x hx => ?_) e
      rw [advance_dummy] at hx
      cases hx
      exact slot_free fun i z => by rw [hs] at z; cases z
    . split at e
      . cases e
      . exact probe_go f _ (fun x hx => hp x (by rw [advance_dummy] at hx; exact hx)) e
theorem freeSlot_free {t : SetTable} {h : Int} {j : Nat} {b : Bool} (e : t.freeSlot h = some (j, b)) : SlotFree t j := by
  unfold SetTable.freeSlot at e
  split at e
  . rename_i j' d hm
    cases e
    obtain ⟨a, c⟩ := probe_go _ _ (fun x hx => by cases hx) (show SetTable.probe.go t _ h _ (t.probeStart h) = _ from hm)
    cases d with
    | none => exact a
    | some x => exact c x rfl
  . cases e
structure TabG (w : World) (t : SetTable) : Prop where
  led : t.led = !w.params.followText "set-order"
  ris : Ris t.place
theorem ris_range (n : Nat) : Ris (Array.range n) := by
  unfold Ris
  rw [Array.toList_range]
  exact List.pairwise_lt_range
theorem tg_fresh (w : World) : TabG w (.fresh 0 0 (!w.params.followText "set-order")) := ⟨rfl, List.Pairwise.nil⟩
theorem tg_standIn {w : World} {t : SetTable} (g : TabG w t) (n : Nat) : TabG w (t.standIn n) := ⟨g.led, ris_range n⟩
theorem tg_orStandIn {w : World} {t : SetTable} (g : TabG w t) (n : Nat) : TabG w (t.orStandIn n) := by
  unfold SetTable.orStandIn
  split
  . exact g
  . exact tg_standIn g n
theorem tg_new {w : World} {t : SetTable} (g : TabG w t) (es : Array (Int × Value)) (h : Int) (x : Value) : TabG w (layNew t es h x).2.1 := by
  unfold layNew
  split
  . rename_i j b e
    exact tg_orStandIn (t := (t.put j).1) ⟨g.led, ris_insert g.ris (freeSlot_free e)⟩ _
  . exact tg_standIn g _
theorem tg_laid {w : World} {t t' : SetTable} (g : TabG w t) {hs : Array Int} {n : Nat} {o : Array Nat} (e : t.relaid hs n = some (t', o)) : TabG w t' := by
  unfold SetTable.relaid SetTable.laid at e
  cases q : SetTable.layClean (SetTable.sizeAbove n - 1) hs with
  | none => rw [q] at e; cases e
  | some ow =>
    rw [q] at e
    cases e
    refine ⟨g.led, ?_⟩
    unfold Ris
    dsimp only
    rw [List.pairwise_map, List.pairwise_filterMap]
    refine List.Pairwise.imp (fun {a b} hab x hx y hy => ?_) List.pairwise_lt_range
    cases h1 : ow.getD a none with
    | none => rw [h1] at hx; cases hx
    | some u =>
      cases h2 : ow.getD b none with
      | none => rw [h2] at hy; cases hy
      | some v =>
        rw [h1] at hx; rw [h2] at hy
        cases hx; cases hy
        exact hab
theorem tg_relay {w : World} {t : SetTable} (g : TabG w t) (es : Array (Int × Value)) (n : Nat) : TabG w (relayAll t es n).2.1 := by
  unfold relayAll
  split
  . rename_i t' o e
    dsimp only
    split
    . exact tg_laid g e
    . exact tg_standIn g _
  . exact tg_standIn g _
theorem tg_plain {w : World} {t : SetTable} (g : TabG w t) (b : Bool) : TabG w { t with plain := b } := ⟨g.led, g.ris⟩
def SetW (P : Program) (w : World) (h : Heap) (a : Addr) (S : Int -> Bool) (n : Nat) : Prop :=
  ∃ o es ep t, h.get? a = some o /\ o.ExactSet /\ o.data = .set es ep t /\ ElemsOf (intKind P w) es.toList /\ (∀ k, S k = true ↔ ∃ e ∈ es.toList, (intKind P w).is k e.2 = true) /\ es.size < scanBound /\ t.fits es.size = true /\ es.size = n /\ TabG w t
section
variable {P : Program} {w : World} {A : Around} {E : Value -> Shared -> Prop} {s : Shared} {a : Addr}
theorem SetW.at {h h' : Heap} {S : Int -> Bool} {n : Nat} (x : SetW P w h a S n) (k : ∀ o, h.get? a = some o -> h'.get? a = some o) : SetW P w h' a S n := by
  obtain ⟨o, es, ep, t, h1, r⟩ := x; exact ⟨o, es, ep, t, k _ h1, r⟩
theorem SetW.of {h : Heap} {S : Int -> Bool} {n : Nat} (x : SetW P w h a S n) : h.SetOf (intKind P w) a S n := by
  obtain ⟨o, es, ep, t, h1, h2, h3, h4, h5, h6, h7, h8, _⟩ := x; exact ⟨o, es, ep, t, h1, h2, h3, h4, h5, h6, h7, h8⟩
theorem setW_put {h : Heap} {o : Obj} {es es' : Array (Int × Value)} {ep : Nat} {t t' : SetTable} {S : Int -> Bool} (h1 : h.get? a = some o) (h2 : o.ExactSet) (h3 : o.data = .set es ep t) (h4 : ElemsOf (intKind P w) es'.toList)
    (h5 : ∀ k, S k = true ↔ ∃ e ∈ es'.toList, (intKind P w).is k e.2 = true) (h6 : es'.size < scanBound) (h7 : t'.fits es'.size = true) (g : TabG w t') :
    (h.update a (Obj.putSet es' t')).get? a = some { o with data := .set es' (ep + 1) t' } /\ SetW P w (h.update a (Obj.putSet es' t')) a S es'.size :=
  have q := SetOf_store (knd := intKind P w) h1 h2 h3 h4 h5 h6 h7
  ⟨q.1, _, es', ep + 1, t', q.1, h2, rfl, h4, h5, h6, h7, rfl, g⟩
theorem gave_any {b : Bool} {Q : Unit -> Shared -> Prop} {s₁ : Shared} (q : Q () s₁) : wpAny (model P w) A (match b with | true => rule "set.scan.the-table-gave-way" | false => pure ()) Q E s₁ := by
  cases b with
  | true => exact wpAny_rule q
  | false => exact wpAny_pure q
theorem add_tail {g : Bool -> Sem Unit} (hg : ∀ (b : Bool) (s₁ : Shared) (Q : Unit -> Shared -> Prop), Q () s₁ -> wpAny (model P w) A (g b) Q E s₁) {o : Obj} {es es1 : Array (Int × Value)} {ep : Nat} {t t2 : SetTable} {S : Int -> Bool} {wd : Bool} {R : Option Bool -> Shared -> Prop}
    (h1 : s.heap.get? a = some o) (h2 : o.ExactSet) (h3 : o.data = .set es ep t) (h4 : ElemsOf (intKind P w) es1.toList) (h5 : ∀ k, S k = true ↔ ∃ e ∈ es1.toList, (intKind P w).is k e.2 = true) (h6 : es1.size < scanBound) (h7 : t2.fits es1.size = true) (gd : TabG w t2)
    (fin : ∀ h', Heap.SameBut a s.heap h' -> SetW P w h' a S es1.size -> R (some true) { s with heap := h' }) :
    wpAny (model P w) A (do
        storeSet a es1 t2
        if (!wd && t2.tooFull) = true then do
            g (relayAll t2 es1 (SetTable.grown es1.size)).2.2; storeSet a (relayAll t2 es1 (SetTable.grown es1.size)).1 (relayAll t2 es1 (SetTable.grown es1.size)).2.1
            pure (some true)
          else
            pure (some true)) R E s := by
  obtain ⟨k1, k2⟩ := setW_put h1 h2 h3 h4 h5 h6 h7 gd
  refine wpAny_bind (wpAny_storeSet_of h1 h3 ?_ (fits_of_scanBound h6))
  have sb := Heap.SameBut.update s.heap a (Obj.putSet es1 t2)
  split
  . have pm := relayAll_perm t2 es1 (SetTable.grown es1.size)
    have ft := relayAll_fits t2 es1 (SetTable.grown es1.size)
    have tg := tg_relay gd es1 (SetTable.grown es1.size)
    generalize relayAll t2 es1 (SetTable.grown es1.size) = V at pm ft tg ⊢
    obtain ⟨e2, t3, gv⟩ := V
    dsimp only at pm ft tg ⊢
    have z : e2.size = es1.size := by rw [<- Array.length_toList, pm.length_eq, Array.length_toList]
    obtain ⟨_, k4⟩ := setW_put (S := S) k1 h2 rfl (h4.perm pm) (fun k => (h5 k).trans ⟨fun ⟨e, x, y⟩ => ⟨e, pm.mem_iff.mpr x, y⟩, fun ⟨e, x, y⟩ => ⟨e, pm.mem_iff.mp x, y⟩⟩) (by rw [z]; exact h6) ft tg
    rw [z] at k4
    exact wpAny_bind (hg _ _ _ (wpAny_bind (wpAny_storeSet_of k1 rfl (wpAny_pure (fin _ (sb.trans (Heap.SameBut.update _ a _)) k4)) (fits_of_scanBound (by rw [z]; exact h6)))))
  . exact wpAny_pure (fin _ sb k2)
theorem add_hashed {S : Int -> Bool} {n : Nat} {k : Int} {x : Value} {Q : Bool -> Shared -> Prop} (hk : (intKind P w).is k x = true) (hx : x.scannable = true) (hS : SetW P w s.heap a S n) (hn : n + 1 < scanBound)
    (fin : ∀ h', Heap.SameBut a s.heap h' -> SetW P w h' a (fun k' => S k' || decide (k' = k)) (if S k then n else n + 1) -> Q (!S k) { s with heap := h' }) :
    wpAny (model P w) A (setAddHashed a x ((intKind P w).hash k)) Q E s := by
  obtain ⟨o, es, ep, t, h1, h2, h3, h4, h5, h6, h7, h8, gd⟩ := hS
  unfold setAddHashed setAddHashedIn; refine wpAny_holding (wpAny_bind (wpAny_setState_of h1 h3 h7 ?_)); dsimp only
  rw [byScan_of hx h6 h4]; simp only [↓reduceIte]
  unfold setAddByScan
  refine wpAny_bind (wpAny_bind (wpAny_rule (wpAny_bind (wpAny_setScan_of hk h1 h3 h7 h4 ?_))))
  cases hr : List.findIdx? (fun e => (intKind P w).is k e.2) es.toList with
  | some j =>
    dsimp only
    obtain ⟨hj, hp, _⟩ := List.findIdx?_eq_some_iff_getElem.mp hr
    have sk : S k = true := (h5 k).mpr ⟨es.toList[j], List.getElem_mem hj, hp⟩
    have q := fin s.heap (Heap.SameBut.refl a s.heap) ⟨o, es, ep, t, h1, h2, h3, h4, (fun k' => by
      rw [Bool.or_eq_true, decide_eq_true_eq, <- h5 k']
      exact ⟨fun z => z.elim id (fun e => e ▸ sk), .inl⟩), h6, h7, (by rw [sk]; exact h8), gd⟩
    rw [sk] at q
    exact wpAny_pure (wpAny_pure q)
  | none =>
    dsimp only
    have sk : S k = false := by
      cases z : S k with
      | false => rfl
      | true =>
        obtain ⟨e, he, hp⟩ := (h5 k).mp z
        have := List.findIdx?_eq_none_iff.mp hr e he; rw [hp] at this; cases this
    have pm := layNew_perm t es ((intKind P w).hash k) x
    have ft := layNew_fits t es ((intKind P w).hash k) x
    have tg := tg_new gd es ((intKind P w).hash k) x
    generalize layNew t es ((intKind P w).hash k) x = V at pm ft tg ⊢
    obtain ⟨e1, t1, wd, gv⟩ := V
    dsimp only at pm ft tg ⊢
    rw [Array.toList_push] at pm
    have z1 : e1.size = n + 1 := by rw [<- Array.length_toList, pm.length_eq, List.length_append, Array.length_toList, h8]; rfl
    have c1 : ElemsOf (intKind P w) e1.toList := (h4.push hk hx).perm pm
    have c2 : ∀ k', (S k' || decide (k' = k)) = true ↔ ∃ e ∈ e1.toList, (intKind P w).is k' e.2 = true := mem_push_iff hk h5 pm
    have en : ∀ h', Heap.SameBut a s.heap h' -> SetW P w h' a (fun k' => S k' || decide (k' = k)) e1.size -> Q true { s with heap := h' } := fun h' sb q => by
      have r := fin h' sb; rw [sk] at r; rw [z1] at q; exact r q
    have gw : ∀ (b : Bool) (s₁ : Shared) (Q' : Unit -> Shared -> Prop), Q' () s₁ -> wpAny (model P w) A (match b with | true => rule "set.scan.the-table-gave-way" | false => pure ()) Q' E s₁ := fun b s₁ Q' q => gave_any q
    refine wpAny_bind (gw _ _ _ ?_)
    split
    . refine wpAny_bind ?_
      rw [hashByValue_scannable 8 hx]
      refine wpAny_pure (add_tail gw h1 h2 h3 c1 c2 (by rw [z1]; exact hn) ?_ ?_ fun h' sb q => wpAny_pure (en h' sb q))
      . split
        . exact ft
        . exact SetTable.fits_plain_off ft
      . split
        . exact tg
        . exact tg_plain tg _
    . refine wpAny_bind (wpAny_pure ?_); simp only [↓reduceIte]
      exact add_tail gw h1 h2 h3 c1 c2 (by rw [z1]; exact hn) ft tg fun h' sb q => wpAny_pure (en h' sb q)
end
section
variable {P : Program} {w : World} {A : Around} {E : Value -> Shared -> Prop} {s : Shared} {a : Addr}
theorem SetW.congr {h : Heap} {S S' : Int -> Bool} {n n' : Nat} (x : SetW P w h a S n) (e : ∀ k, S k = S' k) (en : n = n') : SetW P w h a S' n' := by
  obtain rfl : S = S' := funext e
  subst en; exact x
def metW (P : Program) (w : World) (h : Heap) (a : Addr) (f : Nat -> Int) (i : Nat) : Prop := SetW P w h a (fun k => (firstMet f i).any (· == k)) (firstMet f i).length
theorem upd_loop_set {R : Result -> Shared -> Prop} {I : Addr} {fp wr : List Addr} {G : Array GenState -> Array GenState -> Prop} {n : Nat} {Pv : Nat -> Value -> Prop} {St : Nat -> Shared -> Prop} (W : WalksS P w A.in1 I fp wr G n Pv St) (ha : a ∉ fp)
    (f : Nat -> Int) (hf : ∀ i v, Pv i v -> ∃ t, v = .int (f i) t) (hb : n + 1 < scanBound) : ∀ (k i : Nat) (s : Shared), n - i = k -> i <= n -> St i s -> metW P w s.heap a f i ->
      (∀ s', Moved (a :: wr) G s s' -> metW P w s'.heap a f n -> R (.ok (.ret .none)) s') -> codeAny (model P w) A (.builtin "set.update.loop" ⟨[.ref a, .ref I], []⟩) R s
  | 0, i, s, hk, hi, st, hS, hR => by
    obtain rfl : i = n := by omega
    refine codeAny_builtin PyProof.Rows.F.entry_set_update_loop ?_
    rw [Around.under_plainId PyProof.Rows.F.plain_set_update_loop _]
    show wpAny _ A.in1 (pyNext (.ref I) >>= _) _ _ s; refine wpAny_bind (W.done s _ _ st fun s' hm => wpAny_pure (hR s' (hm.mono fun b hb => List.mem_cons_of_mem _ hb) (hS.at fun o e => hm.heap a o (fun z => ha (W.sub _ z)) e)))
  | k + 1, i, s, hk, hi, st, hS, hR => by
    have hlt : i < n := by omega
    refine codeAny_builtin PyProof.Rows.F.entry_set_update_loop ?_
    rw [Around.under_plainId PyProof.Rows.F.plain_set_update_loop _]
    show wpAny _ A.in1 (pyNext (.ref I) >>= _) _ _ s; refine wpAny_bind (W.item i s _ _ hlt st fun v s' hP st' hm => ?_)
    obtain ⟨t, rfl⟩ := hf i v hP
    have hS' : metW P w s'.heap a f i := hS.at fun o e => hm.heap a o (fun z => ha (W.sub _ z)) e
    show wpAny _ A.in1 (holding [Value.int (f i) t] (setAdd a (.int (f i) t)) >>= _) _ _ s'
    refine wpAny_bind (wpAny_holding ?_); unfold setAdd
    refine wpAny_holding (wpAny_bind ((intKind P w).pyHash (k := f i) (intKind_is _ _ _ _) ?_))
    refine add_hashed (s := { s' with toks := s'.toks + 1 }) (intKind_is _ _ _ _) rfl hS' (by have := firstMet_length_le f i; omega) fun h' sb q => ?_
    refine wpAny_pure ⟨plainId_quiet PyProof.Rows.F.plain_set_update_loop _, upd_loop_set W ha f hf hb k (i + 1) _ (by omega) hlt (W.frame _ s' _ _ st' (Nat.le_succ _) fun b hb' o e => ?_)
      (q.congr (fun k' => by rw [firstMet_succ, step_any]) (by rw [firstMet_succ, step_length])) fun s'' hm2 hS2 => ?_⟩
    . rw [sb.2 b (fun z : b = a => ha (by rw [<- z]; exact hb'))]; exact e
    . refine hR s'' (Moved.trans W.gtrans ((hm.mono fun b hb => List.mem_cons_of_mem _ hb).then_heap (Nat.le_succ _) fun b o hb' e => ?_) hm2) hS2
      rw [sb.2 b (fun z : b = a => hb' (by rw [z]; exact List.mem_cons_self))]; exact e
theorem sub_tup_set : isSubtype (.type "tuple") (.type "set") = pure false := by rw [isSubtype_type]; kernel_rfl
theorem sub_tup_frozenset : isSubtype (.type "tuple") (.type "frozenset") = pure false := by rw [isSubtype_type]; kernel_rfl
theorem set_new1 (v : Value) {Q : Value -> Shared -> Prop} (h : Q (.ref s.heap.objs.size) { s with heap := s.heap.push { cls := .type "set", dict := none, data := .set #[] 0 (.fresh 0 0 (!w.params.followText "set-order")) } }) :
    codeAny (model P w) A (.call (.builtin "set.__new__") ⟨[.type "set", v], []⟩) (wants Q E) s := by
  refine codeAny_of_tree ?_
  show wpAny _ A.in1 (do checkBuiltinCall "set.__new__" ⟨[.type "set", v], []⟩; again (.builtin "set.__new__" ⟨[.type "set", v], []⟩)) _ _ s
  refine wpAny_bind (wpAny_of_eq (PySem.F.newCall_set_1 v) (wpAny_pure ⟨plainId_quiet PySem.F.plain_set_new _, codeAny_builtin PySem.F.entry_set_new ?_⟩))
  rw [Around.under_plainId PySem.F.plain_set_new _]
  unfold Builtin.«set.__new__» Builtin.Frozenset.newClass; have hsub := PySem.sub_set_self
  obtain ⟨hp, g, d, tk, os⟩ := s; dsimp only; wp_walk
  refine wpAny_askSetting (wpAny_pure ?_); dsimp only; simp only [newObj]
  exact wpAny_bind (wpAny_alloc (wpAny_pure (wpAny_pure h)))
set_option maxHeartbeats 6400000 in
theorem call_set_tup {l : Addr} {its : Array Value} {ns : List Int} {Q : Value -> Shared -> Prop} (hh : A.handled = none) (hl : s.heap.IsTuple l its) (hi : IntsAre its.toList ns) (hb : its.size + 1 < scanBound)
    (fin : ∀ (h' : Heap) (tk : Nat), metW P w h' s.heap.objs.size (fun i => ns.getD i 0) its.size -> (∀ b o, b < s.heap.objs.size -> s.heap.get? b = some o -> h'.get? b = some o) -> Q (.ref s.heap.objs.size) { s with heap := h', toks := tk }) :
    wpAny (model P w) A (call (.type "set") [.ref l]) Q E s := by
  obtain ⟨c, tl, hmro⟩ := PySem.F.called_set.mro
  have hmade := PySem.F.called_set.made
  have hsub := PySem.F.called_set.sub
  refine wpAny_call (codeAny_of_tree ?_); show wpAny _ _ (callAny (.type "set") _) _ _ _
  refine wpAny_pure ⟨Code.quiet_builtin _ (by decide +kernel), codeAny_builtin PySem.F.entry_type_call ?_⟩
  rw [Around.under_plain (weight_type_call_type "set" [.ref l] []) rfl]; have k1 := PySem.F.called_set.notType
  have k2 := PySem.F.called_set.canCreate
  have k3 := PySem.F.typeCall_set_1 (.ref l)
  (repeat (any_goals (first | assumption | wp_step))); refine codeAny_mono (set_new1 (.ref l) (E := E) (Q := fun v s₁ => v = .ref s.heap.objs.size /\ s₁ = { s with heap := s.heap.push { cls := .type "set", dict := none, data := .set #[] 0 (.fresh 0 0 (!w.params.followText "set-order")) } }) ⟨rfl, rfl⟩) fun r s₁ hr => ?_
  cases r with
  | error e => exact hr
  | ok fl =>
    cases fl with
    | ret ob =>
      obtain ⟨rfl, rfl⟩ := hr
      generalize hled : (!w.params.followText "set-order") = led
      have hS : (s.heap.push { cls := .type "set", dict := none, data := .set #[] 0 (.fresh 0 0 led) }).get? s.heap.objs.size = some { cls := .type "set", dict := none, data := .set #[] 0 (.fresh 0 0 led) } := Heap.get?_push_size _ rfl; have hT : Shared.TypeIs { s with heap := s.heap.push { cls := .type "set", dict := none, data := .set #[] 0 (.fresh 0 0 led) } } (.ref s.heap.objs.size) "set" := ⟨_, hS, rfl⟩
      have k4 := PySem.F.called_set.init.lookup
      have k5 := PySem.F.called_set.init.bind (.ref s.heap.objs.size)
      (repeat (any_goals (first | assumption | wp_step))); refine codeAny_mono (codeAny_call_builtin (R := wants (fun r s₂ => r = .none /\ ∃ h' tk, s₂ = { s with heap := h', toks := tk } /\ metW P w h' s.heap.objs.size (fun i => ns.getD i 0) its.size /\
          (∀ b o, b < s.heap.objs.size -> s.heap.get? b = some o -> h'.get? b = some o)) E) PySem.F.called_set.init.plain PySem.F.entry_set_init (check_set_init_1 hT ?_)) fun r₂ s₂ hr₂ => ?_
      . obtain ⟨ol, hol, hcl, nl, hdl⟩ := hl; obtain ⟨ocls, odict, odata, oslots⟩ := ol
        simp only at hcl hdl
        subst hcl; subst hdl
        have hol' : (s.heap.push { cls := .type "set", dict := none, data := .set #[] 0 (.fresh 0 0 led) }).get? l = some { cls := .type "tuple", dict := odict, data := .seq its nl, slots := oslots } := Heap.get?_push_of_some _ hol
        have s1 := sub_tup_set
        have s2 := sub_tup_frozenset
        have s3 : (Value.type "tuple" == Value.type "dict") = false := by decide
        have hl1 : (s.heap.push { cls := .type "set", dict := none, data := .set #[] 0 (.fresh 0 0 led) }).IsTuple l its := ⟨_, hol', rfl, nl, rfl⟩
        unfold Builtin.«set.__init__» noKeywords Builtin.Frozenset.updateFrom; generalize hPI : pyIter = PI
        wp_walk
        subst hPI
        refine wpAny_pyIter_tuple hl1 (wpAny_bind (wpAny_runValue ?_))
        have hlS : l < s.heap.objs.size := Heap.lt_size hol; have z1 : l ≠ (s.heap.push { cls := .type "set", dict := none, data := .set #[] 0 (.fresh 0 0 led) }).objs.size := by
          rw [Heap.size_push]; exact (Nat.ne_of_lt (Nat.lt_succ_of_lt hlS))
        have z2 : s.heap.objs.size ∉ [(s.heap.push { cls := .type "set", dict := none, data := .set #[] 0 (.fresh 0 0 led) }).objs.size, l] := by
          rw [Heap.size_push]; simp only [List.mem_cons, List.mem_singleton, List.not_mem_nil, or_false, not_or]; exact ⟨Nat.ne_of_lt (Nat.lt_succ_self _), Nat.ne_of_gt hlS⟩
        refine upd_loop_set ((Walks.tuple (A := A.in1.in1.in1) (by simp [hh]) _ l z1 its).toS) z2 (fun i => ns.getD i 0) (fun i v hv => PyProof.Rows.IntsAre.int_at hi i v (by rw [Array.getElem?_toList]; exact hv)) hb (its.size - 0) 0 _ (by omega) (Nat.zero_le _)
          ⟨⟨_, Heap.get?_push_size _ rfl, rfl, rfl⟩, (hl1.push _)⟩ ?b0 ?bR
        case b0 =>
          refine ⟨_, #[], 0, _, Heap.get?_push_of_some _ hS, ⟨rfl, rfl, rfl⟩, rfl, fun e he => by simp at he, fun k => by simp [firstMet], by decide, by rfl, rfl, ?_⟩
          rw [<- hled]; exact tg_fresh w
        case bR =>
          intro s' hm hS'
          obtain ⟨h', g', d', tk', os'⟩ := s'; obtain rfl : g' = s.gens := hm.gens
          obtain rfl : d' = s.drawn := hm.drawn
          obtain rfl : os' = s.os := hm.os
          refine wpAny_pure ?_
          show wpAny _ _ (ret Value.none) _ _ _; refine wpAny_pure ⟨rfl, h', tk', rfl, hS', fun b o hb e => hm.heap b o ?_ (Heap.get?_push_of_some _ (Heap.get?_push_of_some _ e))⟩
          rw [Heap.size_push]
          simp only [List.mem_cons, List.mem_singleton, List.not_mem_nil, or_false, not_or]
          exact ⟨Nat.ne_of_lt hb, Nat.ne_of_lt (Nat.lt_succ_of_lt hb)⟩
      . cases r₂ with
        | error e => exact hr₂
        | ok fl₂ =>
          cases fl₂ with
          | ret r =>
            obtain ⟨rfl, h', tk, rfl, hS', hk'⟩ := hr₂; repeat (any_goals (first | assumption | wp_step))
            exact fin _ _ hS' hk'
          | _ => exact hr₂.elim
    | _ => exact hr.elim
end
namespace F
theorem slot_set_iterator_next : Slot "set_iterator" "__next__" "set_iterator.__next__" :=
  .of (owner := "set_iterator") (n := "__next__") (by rw [typeLookup_type, builtinLookup_eq_fast]; kernel_rfl) (by decide +kernel) (by decide +kernel) (by decide +kernel) (by first | exact .inl (by decide +kernel) | exact .inr (by decide +kernel)) (by rw [isSubtype_type]; kernel_rfl)
theorem slot_set_iterator_iter : Slot "set_iterator" "__iter__" "set_iterator.__iter__" :=
  .of (owner := "set_iterator") (n := "__iter__") (by rw [typeLookup_type, builtinLookup_eq_fast]; kernel_rfl) (by decide +kernel) (by decide +kernel) (by decide +kernel) (by first | exact .inl (by decide +kernel) | exact .inr (by decide +kernel)) (by rw [isSubtype_type]; kernel_rfl)
theorem entry_set_iterator_next : entryFor table "set_iterator.__next__" = some Builtin.«set_iterator.__next__» := entryFor_of_tree (by kernel_rfl)
theorem entry_set_iterator_iter : entryFor table "set_iterator.__iter__" = some Builtin.«dict_keyiterator.__iter__» := entryFor_alias (id' := "dict_keyiterator.__iter__") (by kernel_rfl) (by first | rfl | decide +kernel | (unfold String.splitOn; simp +decide [String.splitOnAux])) (by decide +kernel) (by kernel_rfl)
theorem entry_set_iter : entryFor table "set.__iter__" = some Builtin.«frozenset.__iter__» := entryFor_alias (id' := "frozenset.__iter__") (by kernel_rfl) rfl (by decide +kernel) (by kernel_rfl)
theorem args_set_iterator_next (a : Value) : argsOk "set_iterator.__next__" ⟨[a], []⟩ := by unfold argsOk; kernel_rfl
theorem args_set_iterator_iter (a : Value) : argsOk "set_iterator.__iter__" ⟨[a], []⟩ := by unfold argsOk; kernel_rfl
end F
theorem any_choose {M : Model} {A : Around} {E : Value -> Shared -> Prop} {s : Shared} {src : Source} {n : Nat} {Q : Nat -> Shared -> Prop} (hn : n ≠ 0) (h : ∀ i d, i < n -> Q i { s with drawn := d }) : wpAny M A (choose src n) Q E s :=
  fun _ _ _ => ⟨hn, h _ _ (Nat.mod_lt _ (Nat.pos_of_ne_zero hn))⟩
theorem erase_perm {α : Type} {l : List α} {i : Nat} (h : i < l.length) : (l[i] :: l.eraseIdx i).Perm l := by
  rw [List.eraseIdx_eq_take_drop_succ]
  have e : l = l.take i ++ l[i] :: l.drop (i + 1) := by rw [<- List.drop_eq_getElem_cons h, List.take_append_drop]
  exact List.perm_middle.symm.trans (e ▸ .rfl)
theorem draw_order {M : Model} {A : Around} {E : Value -> Shared -> Prop} {α : Type} : ∀ (n : Nat) (xs : List α) (s : Shared) (Q : List α -> Shared -> Prop), xs.length = n -> (∀ ys d, ys.Perm xs -> Q ys { s with drawn := d }) -> wpAny M A (drawOrder n xs) Q E s
  | 0, xs, s, Q, hl, h => by
    obtain rfl : xs = [] := List.length_eq_zero_iff.mp hl
    unfold drawOrder
    exact wpAny_pure (h [] s.drawn .nil)
  | n + 1, [], s, Q, hl, h => by cases hl
  | n + 1, x0 :: r, s, Q, hl, h => by
    unfold drawOrder
    refine wpAny_bind (any_choose (by simp) fun i d hi => ?_)
    obtain ⟨x, hx⟩ : ∃ x, (x0 :: r)[i]? = some x := ⟨_, List.getElem?_eq_getElem hi⟩
    rw [hx]
    dsimp only
    refine wpAny_bind (draw_order n _ _ _ (by rw [List.length_eraseIdx]; simp only [hi, if_true]; omega) fun ys d2 hp => wpAny_pure ?_)
    refine h _ d2 ?_
    have e : (x0 :: r)[i] = x := by rw [List.getElem?_eq_getElem hi] at hx; exact Option.some.inj hx
    exact (List.Perm.cons x hp).trans (e ▸ erase_perm hi)
theorem pick_go {α : Type} (nx : Nat -> Nat) : ∀ (f k : Nat) (l : List α) (out : Array α), l.length = f -> (pickOrder.go nx f k l out).toList.Perm (out.toList ++ l)
  | 0, k, l, out, hl => by
    obtain rfl : l = [] := List.length_eq_zero_iff.mp hl
    unfold pickOrder.go
    rw [List.append_nil]
  | f + 1, k, l, out, hl => by
    unfold pickOrder.go
    have hi : nx k % l.length < l.length := Nat.mod_lt _ (by omega)
    rw [List.getElem?_eq_getElem hi]
    dsimp only
    refine (pick_go nx f (k + 1) _ _ (by rw [List.length_eraseIdx]; simp only [hi, if_true]; omega)).trans ?_
    rw [Array.toList_push, List.append_assoc]
    exact List.Perm.append_left _ (erase_perm hi)
theorem pick_perm {α : Type} (nx : Nat -> Nat) (xs : Array α) : (pickOrder nx xs).toList.Perm xs.toList := by
  have := pick_go nx xs.size 0 xs.toList #[] (by simp)
  rw [List.nil_append] at this
  exact this
def IsSetIter (h : Heap) (I : Addr) (f : Value) (i : Nat) (a : Addr) (n ep : Nat) : Prop := ∃ o, h.get? I = some o /\ o.cls = .type "set_iterator" /\ o.data = .fields #[f, .int i 0, .ref a, .int n 0, .int ep 0]
theorem IsSetIter.typeIs {s : Shared} {I a : Addr} {f : Value} {i n ep : Nat} (x : IsSetIter s.heap I f i a n ep) : s.TypeIs (.ref I) "set_iterator" := let ⟨o, ho, hc, _⟩ := x; ⟨o, ho, hc⟩
theorem IsSetIter.at {h h' : Heap} {I a : Addr} {f : Value} {i n ep : Nat} (x : IsSetIter h I f i a n ep) (e : ∀ o, h.get? I = some o -> h'.get? I = some o) : IsSetIter h' I f i a n ep := let ⟨o, ho, r⟩ := x; ⟨o, e _ ho, r⟩
section
variable {P : Program} {w : World} {A : Around} {E : Value -> Shared -> Prop} {s : Shared} {a I : Addr}
theorem fld_put {h : Heap} {o : Obj} {vs : Array Value} (ho : h.get? I = some o) (hd : o.data = .fields vs) (k : Nat) (x : Value) : ∃ o', (h.update I (Obj.mapFields (·.setIfInBounds k x))).get? I = some o' /\ o'.cls = o.cls /\ o'.data = .fields (vs.setIfInBounds k x) :=
  ⟨_, Heap.get?_update_self _ ho (Obj.isFreed_of_fields (Obj.data_mapFields hd _)), Obj.cls_mapFields .., Obj.data_mapFields hd _⟩
theorem set_next_item {o : Obj} {es : Array (Int × Value)} {ep i slot nx : Nat} {t : SetTable} {x : Value} {Q : Option Value -> Shared -> Prop} (hit : IsSetIter s.heap I (.int slot 0) i a es.size ep) (h1 : s.heap.get? a = some o) (h3 : o.data = .set es ep t) (h7 : t.fits es.size = true)
    (hn : ∀ (A : Around) (E : Value -> Shared -> Prop) (Q : Option (Value × Nat) -> Shared -> Prop), Q (some (x, nx)) s -> wpAny (model P w) A (setNext a slot i ep) Q E s)
    (hQ : ∀ h', IsSetIter h' I (.int nx 0) (i + 1) a es.size ep -> Heap.SameBut I s.heap h' -> Q (some x) { s with heap := h' }) : wpAny (model P w) A (pyNext (.ref I)) Q E s := by
  obtain ⟨oi, ho, hc, hd⟩ := id hit
  unfold pyNext
  refine wpAny_bind (wpAny_attempt (wpAny_callSpecial?_slot (name := Str.ofString "__next__") hit.typeIs F.slot_set_iterator_next (wpAny_call_entry F.slot_set_iterator_next hit.typeIs F.entry_set_iterator_next ?_ (F.args_set_iterator_next _))))
  show wpAny _ _ (fieldsOf (.ref I) >>= _) _ _ s
  refine wpAny_bind (wpAny_fieldsOf ho hd ?_); dsimp only
  refine wpAny_bind (wpAny_setEntries_of h1 h3 h7 ?_)
  refine wpAny_ite_split (fun hab => absurd hab (by simp)) (fun _ => ?_)
  refine wpAny_bind (hn _ _ _ ?_)
  dsimp only
  obtain ⟨o1, ho1, hc1, hd1⟩ := fld_put ho hd 0 (rawInt nx)
  refine wpAny_bind (wpAny_setField ho hd (by simp) (wpAny_bind (wpAny_setField ho1 hd1 (by simp) (wpAny_pure ⟨x, rfl, wpAny_pure (hQ _ ?_ ((Heap.SameBut.update ..).trans (Heap.SameBut.update ..)))⟩))))
  obtain ⟨o2, ho2, hc2, hd2⟩ := fld_put ho1 hd1 1 (rawInt (i + 1))
  exact ⟨o2, ho2, hc2.trans (hc1.trans hc), by rw [hd2]; simp [rawInt]⟩
theorem set_next_end {o : Obj} {es : Array (Int × Value)} {ep i slot : Nat} {t : SetTable} {Q : Option Value -> Shared -> Prop} (hh : A.handled = none) (hit : IsSetIter s.heap I (.int slot 0) i a es.size ep) (h1 : s.heap.get? a = some o) (h3 : o.data = .set es ep t) (h7 : t.fits es.size = true)
    (hn : ∀ (A : Around) (E : Value -> Shared -> Prop) (Q : Option (Value × Nat) -> Shared -> Prop), Q none s -> wpAny (model P w) A (setNext a slot i ep) Q E s)
    (hQ : ∀ h', Heap.ExtBut I s.heap h' -> Q none { s with heap := h' }) : wpAny (model P w) A (pyNext (.ref I)) Q E s := by
  obtain ⟨oi, ho, hc, hd⟩ := id hit
  unfold pyNext
  refine wpAny_bind (wpAny_attempt (wpAny_callSpecial?_slot (name := Str.ofString "__next__") hit.typeIs F.slot_set_iterator_next (wpAny_call_entry F.slot_set_iterator_next hit.typeIs F.entry_set_iterator_next ?_ (F.args_set_iterator_next _))))
  show wpAny _ _ (fieldsOf (.ref I) >>= _) _ _ s
  refine wpAny_bind (wpAny_fieldsOf ho hd ?_); dsimp only
  refine wpAny_bind (wpAny_setEntries_of h1 h3 h7 ?_)
  refine wpAny_ite_split (fun hab => absurd hab (by simp)) (fun _ => ?_)
  refine wpAny_bind (hn _ _ _ ?_)
  dsimp only
  refine wpAny_bind (wpAny_setField ho hd (by simp) ?_); show wpAny _ _ (newExc (.type "StopIteration") [] >>= _) _ _ _
  refine wpAny_bind ?_
  simp only [newExc, newTuple]
  refine wpAny_bind (wpAny_newObj_type (wpAny_bind (m := firstArgMember _ _) (wpAny_of_eq (a := Value.none) (by first | rfl | (simp only [firstArgMember]; rfl)) (wpAny_newObj_type ?_ (by size_fits)))) (by size_fits))
  simp only [raiseNew]
  refine wpAny_bind (wpAny_handled ?_); first | rw [show A.in1.handled = none from hh] | rw [hh]
  refine wpAny_bind (wpAny_pure (wpAny_throw ?st)); refine wpAny_bind (wpAny_isInstance (T := "StopIteration") (b := true) ⟨_, Heap.get?_push_size _ rfl, rfl⟩ isSubtype_stop ?_)
  exact wpAny_pure (hQ _ ((((Heap.SameBut.update ..)).extBut.push _).push _))
theorem set_drawn_item {o ot : Obj} {es : Array (Int × Value)} {ep i tp nt : Nat} {t : SetTable} {ps : Array Value} {p : Nat} {x : Int × Value} {Q : Option Value -> Shared -> Prop} (hit : IsSetIter s.heap I (.ref tp) i a es.size ep) (h1 : s.heap.get? a = some o) (h3 : o.data = .set es ep t) (h7 : t.fits es.size = true)
    (ht : s.heap.get? tp = some ot) (hdt : ot.data = .seq ps nt) (hp : ps[i]? = some (.int p 0)) (hx : es[p]? = some x)
    (hQ : ∀ h', IsSetIter h' I (.ref tp) (i + 1) a es.size ep -> Heap.SameBut I s.heap h' -> Q (some x.2) { s with heap := h' }) : wpAny (model P w) A (pyNext (.ref I)) Q E s := by
  obtain ⟨oi, ho, hc, hd⟩ := id hit
  unfold pyNext
  refine wpAny_bind (wpAny_attempt (wpAny_callSpecial?_slot (name := Str.ofString "__next__") hit.typeIs F.slot_set_iterator_next (wpAny_call_entry F.slot_set_iterator_next hit.typeIs F.entry_set_iterator_next ?_ (F.args_set_iterator_next _))))
  show wpAny _ _ (fieldsOf (.ref I) >>= _) _ _ s
  refine wpAny_bind (wpAny_fieldsOf ho hd ?_); dsimp only
  refine wpAny_bind (wpAny_setEntries_of h1 h3 h7 ?_)
  refine wpAny_ite_split (fun hab => absurd hab (by simp)) (fun _ => ?_)
  refine wpAny_bind (wpAny_seqItems ht hdt ?_)
  simp only [Int.toNat_natCast, hp]
  unfold setNextDrawn
  refine wpAny_bind (wpAny_bind (wpAny_setState_of h1 h3 h7 ?_))
  dsimp only
  refine wpAny_ite_split (fun hab => absurd hab (by simp)) (fun _ => ?_)
  rw [hx]
  refine wpAny_pure (wpAny_bind (wpAny_setField ho hd (by simp) (wpAny_pure ⟨x.2, rfl, wpAny_pure (hQ _ ?_ (Heap.SameBut.update ..))⟩)))
  obtain ⟨o2, ho2, hc2, hd2⟩ := fld_put ho hd 1 (rawInt (i + 1))
  exact ⟨o2, ho2, hc2.trans hc, by rw [hd2]; simp [rawInt]⟩
theorem set_drawn_end {o ot : Obj} {es : Array (Int × Value)} {ep i tp nt : Nat} {t : SetTable} {ps : Array Value} {Q : Option Value -> Shared -> Prop} (hh : A.handled = none) (hit : IsSetIter s.heap I (.ref tp) i a es.size ep) (h1 : s.heap.get? a = some o) (h3 : o.data = .set es ep t) (h7 : t.fits es.size = true)
    (ht : s.heap.get? tp = some ot) (hdt : ot.data = .seq ps nt) (hp : ps[i]? = none)
    (hQ : ∀ h', Heap.ExtBut I s.heap h' -> Q none { s with heap := h' }) : wpAny (model P w) A (pyNext (.ref I)) Q E s := by
  obtain ⟨oi, ho, hc, hd⟩ := id hit
  unfold pyNext
  refine wpAny_bind (wpAny_attempt (wpAny_callSpecial?_slot (name := Str.ofString "__next__") hit.typeIs F.slot_set_iterator_next (wpAny_call_entry F.slot_set_iterator_next hit.typeIs F.entry_set_iterator_next ?_ (F.args_set_iterator_next _))))
  show wpAny _ _ (fieldsOf (.ref I) >>= _) _ _ s
  refine wpAny_bind (wpAny_fieldsOf ho hd ?_); dsimp only
  refine wpAny_bind (wpAny_setEntries_of h1 h3 h7 ?_)
  refine wpAny_ite_split (fun hab => absurd hab (by simp)) (fun _ => ?_)
  refine wpAny_bind (wpAny_seqItems ht hdt ?_)
  simp only [Int.toNat_natCast, hp]
  obtain ⟨o1, ho1, hc1, hd1⟩ := fld_put ho hd 0 (rawInt 0)
  refine wpAny_bind (wpAny_setField ho hd (by simp) (wpAny_bind (wpAny_setField ho1 hd1 (by simp) ?_)))
  show wpAny _ _ (newExc (.type "StopIteration") [] >>= _) _ _ _; refine wpAny_bind ?_
  simp only [newExc, newTuple]
  refine wpAny_bind (wpAny_newObj_type (wpAny_bind (m := firstArgMember _ _) (wpAny_of_eq (a := Value.none) (by first | rfl | (simp only [firstArgMember]; rfl)) (wpAny_newObj_type ?_ (by size_fits)))) (by size_fits))
  simp only [raiseNew]
  refine wpAny_bind (wpAny_handled ?_); first | rw [show A.in1.handled = none from hh] | rw [hh]
  refine wpAny_bind (wpAny_pure (wpAny_throw ?st)); refine wpAny_bind (wpAny_isInstance (T := "StopIteration") (b := true) ⟨_, Heap.get?_push_size _ rfl, rfl⟩ isSubtype_stop ?_)
  exact wpAny_pure (hQ _ ((((Heap.SameBut.update ..).trans (Heap.SameBut.update ..)).extBut.push _).push _))
theorem set_iter_self {f : Value} {i n ep : Nat} {Q : Value -> Shared -> Prop} (hit : IsSetIter s.heap I f i a n ep) (h : Q (.ref I) s) : wpAny (model P w) A (pyIter (.ref I)) Q E s := by
  refine wpAny_pyIter_slot hit.typeIs F.slot_set_iterator_iter (wpAny_call_entry F.slot_set_iterator_iter hit.typeIs F.entry_set_iterator_iter ?_ (F.args_set_iterator_iter _))
  show wpAny _ _ (ret (.ref I)) _ _ s
  exact wpAny_pure ⟨_, rfl, "set_iterator", _, hit.typeIs, F.slot_set_iterator_next.lookup, h⟩
end
section
variable {P : Program} {w : World} {A : Around} {E : Value -> Shared -> Prop} {s : Shared} {a I : Addr}
theorem elems_num {l : List (Int × Value)} (h : ElemsOf (intKind P w) l) {e : Int × Value} (he : e ∈ l) : ∃ t, e.2 = .int (numOf e.2) t := by
  obtain ⟨⟨k, hk, _⟩, _⟩ := h e he
  obtain ⟨t, et⟩ := Value.isInt_shape (show Value.isInt k e.2 = true from hk)
  exact ⟨t, by rw [et]; rfl⟩
theorem elems_mem {l : List (Int × Value)} (h : ElemsOf (intKind P w) l) (k : Int) : k ∈ l.map (fun (e : Int × Value) => numOf e.2) ↔ ∃ e ∈ l, (intKind P w).is k e.2 = true := by
  rw [List.mem_map]
  constructor
  . rintro ⟨e, he, rfl⟩
    obtain ⟨t, et⟩ := elems_num h he
    exact ⟨e, he, by rw [et]; exact intKind_is _ _ _ _⟩
  . rintro ⟨e, he, hk⟩
    obtain ⟨t, et⟩ := Value.isInt_shape (show Value.isInt k e.2 = true from hk)
    exact ⟨e, he, by rw [et]; rfl⟩
theorem set_text {Q : Bool -> Shared -> Prop} (h : Q (w.params.followText "set-order") s) : wpAny (model P w) A setsByText Q E s := by
  unfold setsByText
  exact wpAny_bind (wpAny_askSetting (wpAny_pure h))
theorem next_text {o : Obj} {es : Array (Int × Value)} {ep i : Nat} {t : SetTable} (hx : w.params.followText "set-order" = true) (h1 : s.heap.get? a = some o) (h3 : o.data = .set es ep t) (h7 : t.fits es.size = true) {Q : Option (Value × Nat) -> Shared -> Prop}
    (h : Q (((pickOrder (w.params.setOrder a ep) es)[i]?).map fun e => (e.2, 0)) s) : wpAny (model P w) A (setNext a 0 i ep) Q E s := by
  unfold setNext
  refine wpAny_bind (wpAny_setState_of h1 h3 h7 ?_); dsimp only
  refine wpAny_bind (set_text ?_); rw [hx]; simp only [↓reduceIte]
  refine wpAny_ite_split (fun hab => absurd hab (by simp)) (fun _ => ?_)
  unfold setWalk
  refine wpAny_bind (wpAny_bind (wpAny_setState_of h1 h3 h7 ?_)); dsimp only
  refine wpAny_bind (set_text ?_); rw [hx]; simp only [↓reduceIte]
  exact wpAny_bind (wpAny_askSetting (wpAny_pure (wpAny_pure h)))
theorem next_led {o : Obj} {es : Array (Int × Value)} {ep i sl : Nat} {t : SetTable} (hx : w.params.followText "set-order" = false) (h1 : s.heap.get? a = some o) (h3 : o.data = .set es ep t) (h7 : t.fits es.size = true) (hl : t.led = true) (hd : (!t.plain && decide (es.size > 1)) = false)
    {k : Nat} (hk : SetTable.below t.place sl = k) {Q : Option (Value × Nat) -> Shared -> Prop}
    (h : Q (match es[k]?, t.place[k]? with | some (_, x), some j => some (x, j + 1) | _, _ => none) s) : wpAny (model P w) A (setNext a sl i ep) Q E s := by
  unfold setNext
  refine wpAny_bind (wpAny_setState_of h1 h3 h7 ?_); dsimp only
  refine wpAny_bind (set_text ?_); rw [hx]
  refine wpAny_ite_split (fun hab => absurd hab (by simp)) (fun _ => ?_)
  refine wpAny_ite_split (fun hab => absurd (show (!t.plain && decide (es.size > 1)) = true from hab) (by rw [hd]; simp)) (fun _ => ?_)
  refine wpAny_bind ?_
  show wpAny _ _ (if (!t.led && !es.isEmpty) = true then unsupported "set:maker-not-led" else pure ()) _ _ _
  refine wpAny_ite_split (fun hab => absurd hab (by rw [hl]; simp)) (fun _ => wpAny_pure ?_)
  subst hk
  exact wpAny_pure h
def outs (L : List (Int × Value)) (i : Nat) (v : Value) : Prop := ∃ t, v = .int ((L.map fun (e : Int × Value) => numOf e.2).getD i 0) t
theorem outs_at {L : List (Int × Value)} (h : ElemsOf (intKind P w) L) {i : Nat} {e : Int × Value} (he : L[i]? = some e) : outs L i e.2 := by
  obtain ⟨t, et⟩ := elems_num h (List.mem_of_getElem? he)
  refine ⟨t, ?_⟩
  rw [List.getD_eq_getElem?_getD, List.getElem?_map, he]
  exact et
theorem walk_text {o : Obj} {es : Array (Int × Value)} {ep : Nat} {t : SetTable} (hh : A.handled = none) (hne : a ≠ I) (hx : w.params.followText "set-order" = true) (h3 : o.data = .set es ep t) (h4 : ElemsOf (intKind P w) es.toList) (h7 : t.fits es.size = true) :
    Walks P w A I [I, a] [I] es.size (outs (pickOrder (w.params.setOrder a ep) es).toList) (fun i h => IsSetIter h I (.int 0 0) i a es.size ep /\ h.get? a = some o) where
  sub := fun b hb => by simp at hb; simp [hb]
  frame := fun _ _ _ st hk => ⟨st.1.at fun o e => hk I (by simp) o e, hk a (by simp) _ st.2⟩
  item := fun i s Q E hi st hQ => by
    have pm := pick_perm (w.params.setOrder a ep) es
    have hl : i < (pickOrder (w.params.setOrder a ep) es).size := by rw [<- Array.length_toList, pm.length_eq, Array.length_toList]; exact hi
    refine set_next_item (slot := 0) (nx := 0) (x := (pickOrder (w.params.setOrder a ep) es)[i].2) st.1 st.2 h3 h7 (fun A E Q q => next_text hx st.2 h3 h7 (by rw [Array.getElem?_eq_getElem hl]; exact q)) fun h' hit' sb => ?_
    exact hQ _ h' s.toks (outs_at (h4.perm pm) (by rw [Array.getElem?_toList, Array.getElem?_eq_getElem hl])) ⟨hit', (sb.2 a hne).trans st.2⟩ fun b o hb e => sb.extBut b o (fun h => hb (by simp [h])) e
  done := fun s Q E st hQ => by
    have pm := pick_perm (w.params.setOrder a ep) es
    refine set_next_end (slot := 0) hh st.1 st.2 h3 h7 (fun A E Q q => next_text hx st.2 h3 h7 ?_) fun h' he' => hQ h' s.toks fun b o hb e => he' b o (fun h => hb (by simp [h])) e
    rw [Array.getElem?_eq_none (by rw [<- Array.length_toList, pm.length_eq, Array.length_toList]; exact Nat.le_refl _)]
    exact q
  self := fun _ _ _ _ st hQ => set_iter_self st.1 hQ
def slotAt (t : SetTable) (i : Nat) : Nat := match i with | 0 => 0 | k + 1 => t.place.getD k 0 + 1
theorem below_slot {t : SetTable} (g : Ris t.place) {i : Nat} (h : i <= t.place.size) : SetTable.below t.place (slotAt t i) = i := by
  cases i with
  | zero => exact below_zero g
  | succ k => exact below_next g h
theorem walk_led {o : Obj} {es : Array (Int × Value)} {ep : Nat} {t : SetTable} (hh : A.handled = none) (hne : a ≠ I) (hx : w.params.followText "set-order" = false) (hd : (!t.plain && decide (es.size > 1)) = false) (h3 : o.data = .set es ep t) (h4 : ElemsOf (intKind P w) es.toList) (h7 : t.fits es.size = true) (g : TabG w t) :
    Walks P w A I [I, a] [I] es.size (outs es.toList) (fun i h => IsSetIter h I (.int (slotAt t i) 0) i a es.size ep /\ h.get? a = some o) where
  sub := fun b hb => by simp at hb; simp [hb]
  frame := fun _ _ _ st hk => ⟨st.1.at fun o e => hk I (by simp) o e, hk a (by simp) _ st.2⟩
  item := fun i s Q E hi st hQ => by
    have hz : t.place.size = es.size := by have := h7; unfold SetTable.fits at this; simp at this; exact this.1
    have hl : t.led = true := by rw [g.led, hx]; rfl
    refine set_next_item (nx := slotAt t (i + 1)) (x := es[i].2) st.1 st.2 h3 h7 (fun A E Q q => next_led hx st.2 h3 h7 hl hd (below_slot g.ris (by omega)) ?_) fun h' hit' sb => ?_
    . rw [Array.getElem?_eq_getElem hi, Array.getElem?_eq_getElem (show i < t.place.size by omega)]
      have e : slotAt t (i + 1) = t.place[i] + 1 := by show t.place.getD i 0 + 1 = _; simp [Array.getD, show i < t.place.size by omega]
      rw [e] at q
      exact q
    . exact hQ _ h' s.toks (outs_at h4 (by rw [Array.getElem?_toList, Array.getElem?_eq_getElem hi])) ⟨hit', (sb.2 a hne).trans st.2⟩ fun b o hb e => sb.extBut b o (fun h => hb (by simp [h])) e
  done := fun s Q E st hQ => by
    have hz : t.place.size = es.size := by have := h7; unfold SetTable.fits at this; simp at this; exact this.1
    have hl : t.led = true := by rw [g.led, hx]; rfl
    refine set_next_end hh st.1 st.2 h3 h7 (fun A E Q q => next_led hx st.2 h3 h7 hl hd (below_slot g.ris (by omega)) ?_) fun h' he' => hQ h' s.toks fun b o hb e => he' b o (fun h => hb (by simp [h])) e
    rw [Array.getElem?_eq_none (Nat.le_refl _)]
    exact q
  self := fun _ _ _ _ st hQ => set_iter_self st.1 hQ
theorem fm_at {α : Type} (es : Array α) : ∀ (l : List Nat), (∀ x ∈ l, x < es.size) -> ∀ i : Nat, (l.filterMap (es[·]?))[i]? = (l[i]?).bind (es[·]?)
  | [], _, i => by simp
  | x :: r, hx, i => by
    have hx0 : x < es.size := hx x List.mem_cons_self
    rw [List.filterMap_cons, Array.getElem?_eq_getElem hx0]
    cases i with
    | zero => simp [hx0]
    | succ j => simpa using fm_at es r (fun y hy => hx y (List.mem_cons_of_mem _ hy)) j
theorem walk_drawn {o ot : Obj} {es : Array (Int × Value)} {ep tp nt : Nat} {t : SetTable} {ps : List Nat} (hh : A.handled = none) (hne : a ≠ I) (hnt : tp ≠ I) (h3 : o.data = .set es ep t) (h4 : ElemsOf (intKind P w) es.toList) (h7 : t.fits es.size = true)
    (hdt : ot.data = .seq (ps.map fun (i : Nat) => rawInt i).toArray nt) (hp : ps.Perm (List.range es.size)) :
    Walks P w A I [I, a, tp] [I] es.size (outs (ps.filterMap (es[·]?))) (fun i h => IsSetIter h I (.ref tp) i a es.size ep /\ h.get? a = some o /\ h.get? tp = some ot) where
  sub := fun b hb => by simp at hb; simp [hb]
  frame := fun _ _ _ st hk => ⟨st.1.at fun o e => hk I (by simp) o e, hk a (by simp) _ st.2.1, hk tp (by simp) _ st.2.2⟩
  item := fun i s Q E hi st hQ => by
    have hl : ps.length = es.size := by rw [hp.length_eq, List.length_range]
    have hi' : i < ps.length := by omega
    have hpi : ps[i] < es.size := List.mem_range.mp (hp.mem_iff.mp (List.getElem_mem hi'))
    have pm : (ps.filterMap (es[·]?)).Perm es.toList := (hp.filterMap _).trans (by rw [filterMap_getElem?_range])
    refine set_drawn_item (p := ps[i]) (x := es[ps[i]]) st.1 st.2.1 h3 h7 st.2.2 hdt (by simp [hi', rawInt]) (Array.getElem?_eq_getElem hpi) fun h' hit' sb => ?_
    exact hQ _ h' s.toks (outs_at (h4.perm pm) (by rw [fm_at es ps (fun x hx => List.mem_range.mp (hp.mem_iff.mp hx)) i, List.getElem?_eq_getElem hi']; exact Array.getElem?_eq_getElem hpi)) ⟨hit', (sb.2 a hne).trans st.2.1, (sb.2 tp hnt).trans st.2.2⟩ fun b o hb e => sb.extBut b o (fun h => hb (by simp [h])) e
  done := fun s Q E st hQ => by
    have hl : ps.length = es.size := by rw [hp.length_eq, List.length_range]
    exact set_drawn_end hh st.1 st.2.1 h3 h7 st.2.2 hdt (by simp [hl]) fun h' he' => hQ h' s.toks fun b o hb e => he' b o (fun h => hb (by simp [h])) e
  self := fun _ _ _ _ st hQ => set_iter_self st.1 hQ
theorem set_iter {S : Int -> Bool} {n : Nat} {Q : Value -> Shared -> Prop} (hS : SetW P w s.heap a S n)
    (fin : ∀ (h' : Heap) d (I : Addr) (fp : List Addr) (St : Nat -> Heap -> Prop) (ms : List Int), ms.length = n -> (∀ k, k ∈ ms ↔ S k = true) -> (∀ b o, s.heap.get? b = some o -> h'.get? b = some o) -> s.heap.objs.size <= I -> (∀ b ∈ fp, b = a \/ s.heap.objs.size <= b) ->
      (∀ A : Around, A.handled = none -> Walks P w A I fp [I] n (fun i v => ∃ t, v = .int (ms.getD i 0) t) St) -> St 0 h' -> Q (.ref I) { s with heap := h', drawn := d }) : wpAny (model P w) A (pyIter (.ref a)) Q E s := by
  obtain ⟨o, es, ep, t, h1, h2, h3, h4, h5, h6, h7, h8, g⟩ := hS
  have hT : s.TypeIs (.ref a) "set" := ⟨o, h1, h2.1⟩
  have hlt := Heap.lt_size h1
  subst h8
  refine wpAny_pyIter_slot hT PySem.F.slot_set_iter (wpAny_call_entry PySem.F.slot_set_iter hT F.entry_set_iter ?_ (PySem.F.args_set_iter_1 _))
  show wpAny _ _ (Builtin.Frozenset.sizeOf a >>= _) _ _ s
  refine wpAny_bind (wpAny_bind (wpAny_setEntries_of h1 h3 h7 (wpAny_pure ?_)))
  show wpAny _ _ (setDrawn a >>= _) _ _ s
  unfold setDrawn
  refine wpAny_bind (wpAny_bind (wpAny_setState_of h1 h3 h7 ?_)); dsimp only
  refine wpAny_bind (set_text (wpAny_pure ?_))
  cases hx : w.params.followText "set-order" with
  | true =>
    refine wpAny_ite_split (fun hab => absurd hab (by simp)) (fun _ => ?_)
    refine wpAny_bind (wpAny_pure (wpAny_bind (wpAny_setEpoch_of h1 h3 h7 ?_)))
    have pm := pick_perm (w.params.setOrder a ep) es
    refine wpAny_bind (wpAny_newObj_type (wpAny_pure ⟨_, rfl, "set_iterator", _, ⟨_, Heap.get?_push_size _ rfl, rfl⟩, F.slot_set_iterator_next.lookup, ?_⟩))
    refine fin _ s.drawn s.heap.objs.size [s.heap.objs.size, a] _ ((pickOrder (w.params.setOrder a ep) es).toList.map fun (e : Int × Value) => numOf e.2) (by rw [List.length_map, pm.length_eq, Array.length_toList]) (fun k => by rw [elems_mem (h4.perm pm), h5 k]; exact ⟨fun ⟨e, x, y⟩ => ⟨e, pm.mem_iff.mp x, y⟩, fun ⟨e, x, y⟩ => ⟨e, pm.mem_iff.mpr x, y⟩⟩) (fun b o e => Heap.get?_push_of_some _ e) (Nat.le_refl _)
      (fun b hb => by simp at hb; rcases hb with rfl | rfl <;> simp) (fun A hh => walk_text hh (Nat.ne_of_lt hlt) hx h3 h4 h7) ⟨⟨_, Heap.get?_push_size _ rfl, rfl, rfl⟩, Heap.get?_push_of_some _ h1⟩
  | false =>
    by_cases hd : (!t.plain && decide (es.size > 1)) = true
    . refine wpAny_ite_split (fun _ => ?_) (fun hab => absurd (show (!false && (!t.plain && decide (es.size > 1))) = true by rw [hd]; rfl) hab)
      refine wpAny_bind (draw_order es.size (List.range es.size) _ _ (by simp) fun ps d hp => ?_)
      refine wpAny_bind (wpAny_newTuple ?_ (by rw [List.length_map, hp.length_eq, List.length_range]; exact fits_of_scanBound h6))
      refine wpAny_bind (wpAny_setEpoch_of (Heap.get?_push_of_some _ h1) h3 h7 ?_)
      have pm : (ps.filterMap (es[·]?)).Perm es.toList := (hp.filterMap _).trans (by rw [filterMap_getElem?_range])
      refine wpAny_bind (wpAny_newObj_type (wpAny_pure ⟨_, rfl, "set_iterator", _, ⟨_, Heap.get?_push_size _ rfl, rfl⟩, F.slot_set_iterator_next.lookup, ?_⟩))
      refine fin _ d (s.heap.push { cls := .type "tuple", data := .seq (ps.map fun (i : Nat) => rawInt i).toArray }).objs.size [(s.heap.push { cls := .type "tuple", data := .seq (ps.map fun (i : Nat) => rawInt i).toArray }).objs.size, a, s.heap.objs.size] _ ((ps.filterMap (es[·]?)).map fun (e : Int × Value) => numOf e.2) (by rw [List.length_map, pm.length_eq, Array.length_toList])
        (fun k => by rw [elems_mem (h4.perm pm), h5 k]; exact ⟨fun ⟨e, x, y⟩ => ⟨e, pm.mem_iff.mp x, y⟩, fun ⟨e, x, y⟩ => ⟨e, pm.mem_iff.mpr x, y⟩⟩) (fun b o e => Heap.get?_push_of_some _ (Heap.get?_push_of_some _ e)) (by rw [Heap.size_push]; exact Nat.le_succ _)
        (fun b hb => by rw [Heap.size_push] at hb; simp at hb; rcases hb with rfl | rfl | rfl <;> simp) (fun A hh => walk_drawn hh (by rw [Heap.size_push]; exact Nat.ne_of_lt (Nat.lt_succ_of_lt hlt)) (by rw [Heap.size_push]; exact Nat.ne_of_lt (Nat.lt_succ_self _)) h3 h4 h7 rfl hp)
        ⟨⟨_, Heap.get?_push_size _ rfl, rfl, rfl⟩, Heap.get?_push_of_some _ (Heap.get?_push_of_some _ h1), Heap.get?_push_of_some _ (Heap.get?_push_size _ rfl)⟩
    . have hd' : (!t.plain && decide (es.size > 1)) = false := by simpa using hd
      refine wpAny_ite_split (fun hab => absurd (show (!t.plain && decide (es.size > 1)) = true from hab) (by rw [hd']; simp)) (fun _ => ?_)
      refine wpAny_bind (wpAny_pure (wpAny_bind (wpAny_setEpoch_of h1 h3 h7 ?_)))
      refine wpAny_bind (wpAny_newObj_type (wpAny_pure ⟨_, rfl, "set_iterator", _, ⟨_, Heap.get?_push_size _ rfl, rfl⟩, F.slot_set_iterator_next.lookup, ?_⟩))
      refine fin _ s.drawn s.heap.objs.size [s.heap.objs.size, a] _ (es.toList.map fun (e : Int × Value) => numOf e.2) (by rw [List.length_map, Array.length_toList]) (fun k => by rw [elems_mem h4, h5 k]) (fun b o e => Heap.get?_push_of_some _ e) (Nat.le_refl _)
        (fun b hb => by simp at hb; rcases hb with rfl | rfl <;> simp) (fun A hh => walk_led hh (Nat.ne_of_lt hlt) hx hd' h3 h4 h7 g) ⟨⟨_, Heap.get?_push_size _ rfl, rfl, rfl⟩, Heap.get?_push_of_some _ h1⟩
end
end L2
namespace L2
open PySem PySem.Spec PyProof.Rows PySem.W PySem.Calls
section
variable {P : Program} {w : World} {A : Around} {E : Value -> Shared -> Prop} {s : Shared} {a I : Addr}
theorem hint_set {Q : Bool -> Shared -> Prop} (hT : s.TypeIs (.ref a) "set") (h : Q false s) : wpAny (model P w) A (Builtin.List.listLengthHint (.ref a)) Q E s := by
  unfold Builtin.List.listLengthHint
  refine wpAny_bind (wpAny_specialOf hT PySem.F.slot_set_len.lookup ?_)
  generalize hid : ("set.__len__" : String) = id0
  wp_delta
  rw [show splitId id0 = some ("set", "__len__") from by subst hid; decide +kernel]
  subst hid
  refine wpAny_bind (wpAny_isInstance (T := "set") (b := true) hT (by rw [isSubtype_type]; kernel_rfl) ?_)
  refine wpAny_ite_split (fun hab => absurd hab (by decide)) (fun _ => wpAny_ite_split (fun _ => wpAny_bind (wpAny_typeOf hT (wpAny_pure h))) (fun hab => absurd (by decide +kernel) hab))
theorem set_extend {R : Result -> Shared -> Prop} {S : Int -> Bool} {n : Nat} {l : Addr} {c0 : Nat} (hh : A.handled = none) (hS : SetW P w s.heap a S n) (hn : n <= sizeLine) (hl : s.heap.get? l = some { cls := .type "list", data := .seq #[] c0 }) (res : Value)
    (fin : ∀ (h' : Heap) d tk (acc : Array Value) (c : Nat) (ms : List Int), ms.length = n -> (∀ k, k ∈ ms ↔ S k = true) -> (∀ b o, b ≠ l -> s.heap.get? b = some o -> h'.get? b = some o) -> h'.get? l = some { cls := .type "list", dict := none, data := .seq acc c, slots := #[] } ->
      ItemsOf (fun i v => ∃ t, v = .int (ms.getD i 0) t) acc n -> R (.ok (.ret res)) { s with heap := h', drawn := d, toks := tk }) :
    wpAny (model P w) A.in1 (Builtin.List.listExtendWith (.ref l) (.ref a) res)
      (fun fin s' => match fin with | .done f => R (.ok f) s' | .again c' => c'.quiet = true /\ codeAny (model P w) A c' R s') (fun e s' => R (.error e) s') s := by
  have hT : s.TypeIs (.ref a) "set" := hS.of.typeIs
  have hla : l ≠ a := fun e => by
    obtain ⟨o, es, ep, t, h1, h2, _⟩ := hS
    rw [<- e, hl] at h1; cases h1
    exact absurd h2.1 (show ¬ (Value.type "list" = Value.type "set") by decide)
  unfold Builtin.List.listExtendWith
  refine wpAny_bind (wpAny_typeOf (T := "set") hT ?_)
  have e1 : Builtin.List.listSameRef (.ref l) (.ref a) = false := by simp [Builtin.List.listSameRef, hla]
  have e2 : (Value.type "set" == Value.type "list") = false := by decide
  have e3 : (Value.type "set" == Value.type "tuple") = false := by decide
  simp only [e1, e2, e3, Bool.or_false, Bool.false_eq_true, if_false]
  refine wpAny_bind (set_iter hS fun h1 d I fp St ms hm1 hm2 hk hI hfp W st => ?_)
  have hlf : l ∉ fp := fun z => by
    rcases hfp l z with q | q
    . exact hla q
    . exact absurd (Heap.lt_size hl) (Nat.not_lt.mpr q)
  have key : ∀ (h2 : Heap) (c1 tk : Nat), St 0 h2 -> (∀ b o, b ≠ l -> s.heap.get? b = some o -> h2.get? b = some o) -> h2.get? l = some { cls := .type "list", data := .seq #[] c1 } ->
      codeAny (model P w) A (.builtin "list.extend.loop" ⟨[.ref l, .ref I, res], []⟩) R { s with heap := h2, drawn := d, toks := tk } := fun h2 c1 tk st2 hk2 hl2 => by
    refine codeAny_extend_loopS (W A.in1 hh).toS hn l hlf res n 0 _ #[] c1 rfl (Nat.zero_le _) st2 hl2 (ItemsOf.nil _) fun s' acc c hm hs' hacc => ?_
    rw [Moved.eq_with hm]
    refine fin s'.heap d s'.toks acc c ms hm1 hm2 (fun b o hb e => hm.heap b o (fun z => ?_) (hk2 b o hb e)) hs' hacc
    rcases List.mem_cons.mp z with q | q
    . exact hb q
    . rw [List.mem_singleton] at q
      exact absurd (Heap.lt_size e) (by rw [q]; exact Nat.not_lt.mpr hI)
  have hl1 := hk _ _ hl
  refine wpAny_bind (wpAny_holding (hint_set (SetW.of (hS.at fun o e => hk _ _ e)).typeIs ?_))
  refine wpAny_ite_split (fun _ => ?_) (fun _ => wpAny_pure ⟨plainId_quiet PySem.F.plain_extend_loop _, key _ c0 _ st (fun b o _ e => hk b o e) hl1⟩)
  refine wpAny_bind (wpAny_rule (wpAny_bind ?_))
  show wpAny _ _ (updateSeq l (·.push .none) >>= fun _ => updateSeq l (·.pop)) _ _ _
  have g1 := Heap.get?_update_self (Obj.mapSeq (·.push Value.none)) hl1 rfl
  have g2 := Heap.get?_update_self (Obj.mapSeq (·.pop)) g1 rfl
  refine wpAny_bind (wpAny_updateSeq hl1 rfl (wpAny_updateSeq (hz := by seq_fits) g1 rfl (wpAny_pure ⟨plainId_quiet PySem.F.plain_extend_loop _, key _ _ _ ?_ (fun b o hb e => ?_) g2⟩)))
  . refine (W A hh).frame 0 _ _ st fun b hb o e => ?_
    have hbl : b ≠ l := fun h => hlf (h ▸ hb)
    exact (Heap.get?_update_other _ _ (Ne.symm hbl)).trans ((Heap.get?_update_other _ _ (Ne.symm hbl)).trans e)
  . exact (Heap.get?_update_other _ _ (Ne.symm hb)).trans ((Heap.get?_update_other _ _ (Ne.symm hb)).trans (hk b o e))
theorem set_collect {S : Int -> Bool} {n : Nat} {R : List Value -> Shared -> Prop} (hh : A.handled = none) (hS : SetW P w s.heap a S n) (hn : n <= sizeLine)
    (fin : ∀ (h' : Heap) d tk (acc : Array Value) (ms : List Int), ms.length = n -> (∀ k, k ∈ ms ↔ S k = true) -> (∀ b o, s.heap.get? b = some o -> h'.get? b = some o) -> s.heap.objs.size < h'.objs.size -> ItemsOf (fun i v => ∃ t, v = .int (ms.getD i 0) t) acc n -> R acc.toList { s with heap := h', drawn := d, toks := tk }) :
    wpAny (model P w) A (collect (.ref a)) R E s := by
  unfold collect
  refine wpAny_bind (wpAny_runValue (codeAny_builtin entry_proto_collect' ?_))
  rw [Around.under_plainId PySem.F.plain_proto_collect _]
  show wpAny _ A.in1 (newList [] >>= fun l => again (.builtin "list.__iadd__" ⟨[l, .ref a], []⟩)) _ _ s
  refine wpAny_bind (wpAny_newObj_type (wpAny_pure ⟨plainId_quiet PySem.F.plain_list_iadd _, codeAny_builtin entry_list_iadd' ?_⟩))
  rw [Around.under_plainId PySem.F.plain_list_iadd _]
  have g1 : (s.heap.push { cls := .type "list", data := .seq ([] : List Value).toArray }).get? s.heap.objs.size = some { cls := .type "list", data := .seq #[] } := Heap.get?_push_size _ rfl
  show wpAny _ A.in1 (Builtin.List.listExtendWith (.ref s.heap.objs.size) (.ref a) (.ref s.heap.objs.size)) _ _ _
  refine wpAny_mono (set_extend (A := A) (s := { s with heap := s.heap.push { cls := .type "list", data := .seq ([] : List Value).toArray } })
    (R := fun (q : Result) (s' : Shared) => ∃ (h' : Heap) (d : _) (tk : Nat) (acc : Array Value) (c : Nat) (ms : List Int), q = .ok (.ret (.ref s.heap.objs.size)) /\ s' = { s with heap := h', drawn := d, toks := tk } /\ ms.length = n /\ (∀ k, k ∈ ms ↔ S k = true) /\
      (∀ b o, s.heap.get? b = some o -> h'.get? b = some o) /\ h'.get? s.heap.objs.size = some { cls := .type "list", dict := none, data := .seq acc c, slots := #[] } /\ ItemsOf (fun i v => ∃ t, v = .int (ms.getD i 0) t) acc n)
    hh (hS.at fun o e => Heap.get?_push_of_some _ e) hn g1 (.ref s.heap.objs.size) fun h' d tk acc c ms m1 m2 hk g2 hacc => ⟨h', d, tk, acc, c, ms, rfl, rfl, m1, m2, fun b o e => hk b o (Nat.ne_of_lt (Heap.lt_size e)) (Heap.get?_push_of_some _ e), g2, hacc⟩) (fun fn s' x => ?_) fun e s' x => ?_
  . cases fn with
    | done f =>
      obtain ⟨h', d, tk, acc, c, ms, e, rfl, m1, m2, hk, g2, hacc⟩ := x
      cases e
      show wpAny _ A (load s.heap.objs.size >>= _) _ _ _
      exact wpAny_bind (wpAny_load g2 (wpAny_pure (fin h' d tk acc ms m1 m2 hk (Heap.lt_size g2) hacc)))
    | again c₁ =>
      refine ⟨x.1, codeAny_mono x.2 fun q s₂ y => ?_⟩
      obtain ⟨h', d, tk, acc, c, ms, rfl, rfl, m1, m2, hk, g2, hacc⟩ := y
      show wpAny _ A (load s.heap.objs.size >>= _) _ _ _
      exact wpAny_bind (wpAny_load g2 (wpAny_pure (fin h' d tk acc ms m1 m2 hk (Heap.lt_size g2) hacc)))
  . obtain ⟨_, _, _, _, _, _, e', _⟩ := x
    cases e'
theorem ints_items {acc : Array Value} {ms : List Int} (h : ItemsOf (fun i v => ∃ t, v = .int (ms.getD i 0) t) acc ms.length) : IntsAre acc.toList ms := by
  have e : acc.toList.map numOf = ms := by
    apply List.ext_getElem
    . rw [List.length_map, Array.length_toList, h.1]
    . intro i h1 h2
      rw [List.getElem_map]
      have h3 : i < acc.size := by rw [h.1]; exact h2
      obtain ⟨t, et⟩ := h.2 i acc[i] (by simp [h3])
      rw [Array.getElem_toList, et]
      show ms.getD i 0 = _
      rw [List.getD_eq_getElem?_getD, List.getElem?_eq_getElem h2]; rfl
  have := intsAre_map acc.toList (fun v hv => by
    obtain ⟨i, hi, ei⟩ := List.getElem_of_mem hv
    obtain ⟨t, et⟩ := h.2 i v (by rw [<- Array.getElem?_toList, List.getElem?_eq_getElem hi, ei])
    exact ⟨_, t, et⟩)
  rw [e] at this
  exact this
theorem sorted_set {S : Int -> Bool} {n : Nat} {Q : Value -> Shared -> Prop} (hh : A.handled = none) (hS : SetW P w s.heap a S n) (h64 : n < 64)
    (fin : ∀ (h' : Heap) d tk (p : Addr) (ms : List Int) (out : Array Value) (e : Nat), ms.length = n -> (∀ k, k ∈ ms ↔ S k = true) -> ms.Pairwise (· <= ·) -> IntsAre out.toList ms -> h'.get? p = some (seqObj "list" out e) -> s.heap.objs.size <= p -> (∀ b o, s.heap.get? b = some o -> h'.get? b = some o) -> Q (.ref p) { s with heap := h', drawn := d, toks := tk }) :
    wpAny (model P w) A (call (.builtin "sorted") [.ref a]) Q E s := by
  have hz : n <= sizeLine := Nat.le_trans (Nat.le_of_lt h64) (by decide)
  refine call_function_entry kind_sorted plain_sorted entry_sorted (args_sorted1 _) ?_
  unfold Builtin.«sorted»
  refine wpAny_bind (m := checkCount "sorted" 1 1 _) (wpAny_pure (wpAny_bind (set_collect (A := A.in1) hh hS hz fun h' d tk acc ms m1 m2 hk hlt hacc => ?_)))
  subst m1
  have hI := ints_items hacc
  have hl : acc.toList.length = ms.length := by rw [Array.length_toList, hacc.1]
  refine wpAny_bind (wpAny_newList ?_ (by rw [hl]; exact hz))
  have hoL : (h'.push (seqObj "list" acc.toList.toArray 0)).get? h'.objs.size = some (seqObj "list" acc.toList.toArray 0) := Heap.get?_push_size _ rfl
  refine wpAny_bind (wpAny_holding (wpAny_call_entry slot_list_sort ⟨_, hoL, rfl⟩ entry_list_sort (list_sort_tree hoL hI (by omega) fun out ns' a1 a2 a3 => ⟨_, rfl, ?_⟩) (args_list_sort _)))
  obtain ⟨e, he⟩ := sortedHeap_at (out := out) hoL
  refine wpAny_pure ⟨_, rfl, fin _ d tk h'.objs.size ns' out e (a2.length_eq) (fun k => by rw [a2.mem_iff]; exact m2 k) a3 a1 he (Nat.le_of_lt hlt) fun b o q => ?_⟩
  have hb := hk b o q
  have hlt2 := Heap.lt_size hb
  rw [sortedHeap_old (Nat.ne_of_lt hlt2) (by rw [Heap.size_push]; exact Nat.lt_succ_of_lt hlt2)]
  exact Heap.get?_push_of_some _ hb
end
end L2
namespace L2
open PySem PySem.Spec PyProof.Rows
def SetP (P : Program) (w : World) (a : Addr) (ds : List Int) : Heap -> Prop := fun h => SetW P w h a (fun k => ds.any (· == k)) ds.length
theorem setP_ok {P : Program} {w : World} {H : Hp} {h : Heap} {a : Addr} {ds : List Int} (x : SetP P w a ds h) : ObjOk P w H h a (.ext (SetP P w a ds)) :=
  ⟨x, (by obtain ⟨o, _, _, _, e, _⟩ := x; exact ⟨o, e⟩), fun h1 h2 y k => SetW.at y k⟩
def mSetT (K : PySem.W.Frag) (P : Program) (w : World) : List V -> Hp -> VK -> Prop := fun xs H Q => match xs with
  | [.ref p] => ∃ ns : List Int, SqT K H p (ns.map V.int) /\ ns.length <= 1000 /\ ∀ (ds : List Int) q, ds.Nodup -> (∀ k, k ∈ ds ↔ k ∈ ns) -> H q = none -> Q (.ref q) (upd H q (.ext (SetP P w q ds)))
  | _ => False
def mSortS (P : Program) (w : World) : List V -> Hp -> VK -> Prop := fun xs H Q => match xs with
  | [.ref p] => ∃ ds : List Int, H p = some (.ext (SetP P w p ds)) /\ ds.length < 64 /\ ∀ (ms : List Int) q, ms.length = ds.length -> (∀ k, k ∈ ms ↔ k ∈ ds) -> ms.Pairwise (· <= ·) -> H q = none -> Q (.ref q) (upd H q (.lst (ms.map V.int)))
  | _ => False
section
variable {X : Cx} {K : PySem.W.Frag} {P : Program} {w : World}
theorem Inv.drew {pins : List (Addr × Obj)} {σ : List (Option V)} {H : Hp} {s : Shared} (I : Inv X pins σ H s) (d : Drawn) : Inv X pins σ H { s with drawn := d } := ⟨I.ok, I.os, I.bare, I.base, I.loc, I.cell, I.free, I.freeC, I.pin, I.hok, I.len⟩
theorem cm_setT (hh : X.calm = true) : CallR X (.type "set") (mSetT X.K X.prog X.w) := by
  intro pins s σ H xs us Q I r h
  match xs, h with
  | [.ref p], h =>
  obtain ⟨ns, hq, hn, q⟩ := h
  obtain ⟨u, rfl, rx⟩ := vals1 r
  cases rx
  obtain ⟨its, rv, pl, hz⟩ := I.tuple hq
  have hi : IntsAre its ns := by simpa using intsAre_of rv
  have hlen : its.length = ns.length := by rw [<- rv.length, List.length_map]
  refine call_set_tup (ns := ns) (I.ok.hd hh) pl (by simpa using hi) (by rw [List.size_toArray, hlen]; show ns.length + 1 < 4096; omega) fun h' tk hs hk => ?_
  have hsz : its.toArray.size = ns.length := by rw [List.size_toArray, hlen]
  rw [hsz] at hs
  exact ⟨.ref s.heap.objs.size, _, I.laid (t' := tk) (o := .ext (SetP X.prog X.w s.heap.objs.size (firstMet (fun i => ns.getD i 0) ns.length))) (fun b o e => hk b o (Heap.lt_size e) e) (Nat.le_refl _) (setP_ok hs), rfl, q _ _ (firstMet_nodup _ _) (firstMet_mem ns) (I.hok.fresh (Nat.le_refl _))⟩
theorem kSetT (hh : X.calm = true) (hK : X.K = K := by rfl) (hP : X.prog = P := by rfl) (hw : X.w = w := by rfl) : CallR X (.type "set") (mSetT K P w) := by subst hK hP hw; exact cm_setT hh
theorem cm_sortS (hh : X.calm = true) : CallR X (.builtin "sorted") (mSortS X.prog X.w) := by
  intro pins s σ H xs us Q I r h
  match xs, h with
  | [.ref p], h =>
  obtain ⟨ds, hq, hn, q⟩ := h
  obtain ⟨u, rfl, rx⟩ := vals1 r
  cases rx
  obtain ⟨hs, _⟩ := (show ObjOk X.prog X.w H s.heap p (.ext (SetP X.prog X.w p ds)) from I.hok p _ hq)
  refine sorted_set (I.ok.hd hh) hs hn fun h' d tk b ms out e m1 m2 m3 hi hb hp hk => ?_
  refine ⟨.ref b, _, (I.laid (t' := tk) (o := .lst (ms.map V.int)) (fun b o e => hk b o e) hp ?_).drew d, rfl, q ms _ m1 (fun k => (m2 k).trans (by simp)) m3 (I.hok.fresh hp)⟩
  exact ⟨by rw [List.length_map, m1]; exact Nat.le_trans (Nat.le_of_lt hn) (by decide), out.toList, e, vals_of_ints hi, hb⟩
theorem kSortS (hh : X.calm = true) (hP : X.prog = P := by rfl) (hw : X.w = w := by rfl) : CallR X (.builtin "sorted") (mSortS P w) := by subst hP hw; exact cm_sortS hh
def tFldC (C : Addr) (ta : TE) (f : Str) : TE := fun σ H Q => ta σ H fun x H1 => match x with
  | .ref a => ∃ dx fs v, H1 a = some (.ins C dx fs) /\ fs.lookup f = some v /\ Q v H1
  | _ => False
def sFldC (C : Addr) (ta tv : TE) (f : Str) : TS := fun D σ H => tv σ H fun y H1 => ta σ H1 fun x H2 => match x with
  | .ref a => ∃ dx fs, H2 a = some (.ins C dx fs) /\ fs.length < 1000 /\ D.nx σ (upd H2 a (.ins C dx (putF f y fs)))
  | _ => False
variable {C : Addr} {f : Str} {e o value : Expr} {ta tv td ty : TE} {pos pos' : Pos}
theorem kFld (c : Cls K C) (n : NoAttr K C f) (he : PE X e ta) (hK : X.K = K := by rfl) (hb : attributeBase e f X.env (eval e X.env) = eval e X.env := by rfl) : PE X (.Attribute e f pos) (tFldC C ta f) := by
  subst hK
  intro pins s σ H Q I h
  refine attr_of hb (thn (he pins s σ H _ I h) fun u s1 ⟨x, H1, I1, rx, q⟩ => ?_)
  match x, q with
  | .ref a, ⟨dx, fs, v, ea, l, q⟩ =>
  obtain rfl : u = Value.ref a := rx
  exact getattr_ok I1 ea c n l fun u' s2 I2 ru => ⟨v, H1, I2, ru, q⟩
theorem kFldS (c : Cls K C) (n : NoAttr K C f) (ha : PE X o ta) (hv : PE X value tv) (hK : X.K = K := by rfl) (hs : swapsWith value (some (.Attribute o f pos')) pos.line X.env = pure false := by rfl) : PS X (.Assign [.Attribute o f pos'] value pos) (sFldC C ta tv f) := by
  subst hK
  intro pins s σ H D I h
  refine plainObj_wpAny_Assign_Attribute (thn (hv pins s σ H _ I h) fun u s1 ⟨y, H1, I1, ry, q⟩ => thn (ha pins s1 σ H1 _ I1 q) fun ov s2 ⟨x, H2, I2, rx, q2⟩ => ?_) hs
  match x, q2 with
  | .ref a, ⟨dx, fs, ea, l, q2⟩ =>
  obtain rfl : ov = Value.ref a := rx
  exact setattr_ok I2 ea c n l ry fun s3 I3 => ⟨σ, _, I3, q2⟩
theorem em_fldC (h : EMono ta) : EMono (tFldC C ta f) := fun σ H Q Q' k q => h _ _ _ _ (fun v H1 q => by
  cases v <;> first | exact q.elim | (obtain ⟨dx, fs, v, a, b, q⟩ := q; exact ⟨dx, fs, v, a, b, k _ _ q⟩)) q
theorem em_meth {m : Str} {sp : Sp} {dvs : List V} {E : XK} {t : TA} (hs : SpMono sp) (h1 : EMono ta) (h2 : AMono t) : EMono (tMeth C m sp dvs E ta t) := fun σ H Q Q' h q =>
  h1 _ _ _ _ (fun v H1 ⟨a, dx, fs, e1, e2, e3, q⟩ => ⟨a, dx, fs, e1, e2, e3, h2 _ _ _ _ (fun _ _ q => hs _ _ _ _ _ h q) q⟩) q
def mDIn (neg : Bool) : R2 := fun y x H Q => match x with
  | .ref a => ∃ o, DGet H a y o /\ Q (.bl (xor neg o.isSome)) H
  | _ => False
theorem kDNot (hu : X.A.units + 60 < cLine) : OpR X (compareOp .NotIn) (mDIn true) := by
  intro pins s σ H y x v u Q I ry rx q
  match x, q with
  | .ref a, ⟨o, g, q⟩ =>
  obtain rfl : u = Value.ref a := rx
  exact d_notIn (hu_one hu) I g ry fun s3 I3 => ⟨.bl (!o.isSome), H, I3, rfl, (by cases o <;> exact q)⟩
theorem rm_dIn {b : Bool} : RMono (mDIn b) := fun x y H Q Q' h q => by
  unfold mDIn at *
  split at q
  . obtain ⟨o, a, q⟩ := q; exact ⟨o, a, h _ _ q⟩
  . exact q.elim
end
end L2
namespace Mine
open PySem L2
def top (i : Nat) : Stmt := PySem.Challenge.pw_flips_k40_left_ends_fewest.main.body.getD i (.Pass ⟨0, 0, 0, 0⟩)
abbrev s__wall : Stmt := top 0
abbrev s_two_to : Stmt := top 2
abbrev s_power_of : Stmt := top 3
abbrev s_within : Stmt := top 5
abbrev s_set_holding : Stmt := top 6
abbrev s_Reckoner_o_init : Stmt := inClass (top 8) 0
abbrev s_Reckoner_o_has_one_label : Stmt := inClass (top 8) 2
abbrev s_Reckoner_o_left_of : Stmt := inClass (top 8) 4
abbrev s_Reckoner_o_fewest_among : Stmt := inClass (top 8) 5
abbrev s_Reckoner_o_fewest_reckoned : Stmt := inClass (top 8) 6
abbrev s_Reckoner_o_parting : Stmt := inClass (top 8) 7
abbrev s_Reckoner_o_worst_behind : Stmt := inClass (top 8) 8
abbrev s_Reckoner_o_harder_left : Stmt := inClass (top 8) 9
abbrev s_members_where : Stmt := top 9
abbrev s_left_by : Stmt := top 11
abbrev s_ends : Stmt := top 12
abbrev s_first_unparted : Stmt := top 13
abbrev s_fewest_of : Stmt := top 14
abbrev s__law_feed : Stmt := top 16
abbrev s__law_draw : Stmt := top 17
abbrev s__law_table : Stmt := top 18
abbrev s__law_table_game : Stmt := top 19
abbrev s__law_class : Stmt := top 20
abbrev s__law_class_game : Stmt := top 21
abbrev s__law_picks : Stmt := top 22
abbrev s__law_any_game : Stmt := top 23
abbrev s__law_game : Stmt := top 24
abbrev s__law_pair : Stmt := top 25
abbrev s__law_ending : Stmt := top 26
abbrev s__law_sides : Stmt := top 27
abbrev s__law_need : Stmt := top 28
abbrev s__law_some_things : Stmt := top 29
abbrev s__law_counts : Stmt := top 30
abbrev s_law : Stmt := top 31
local macro_rules | `(tactic| walk_at "f") => `(tactic| exact ⟨rfl, rfl, rfl, by decide +kernel, rfl, by decide +kernel, by decide +kernel⟩)
theorem sc_two_to : FnScope ["n"] ["n"] (defScope s_two_to) := by walk_at "f"
theorem sc_power_of : FnScope ["base", "times", "power", "step"] ["base", "times"] (defScope s_power_of) := by walk_at "f"
theorem sc_within : FnScope ["subset", "other"] ["subset", "other"] (defScope s_within) := by walk_at "f"
theorem sc_set_holding : FnScope ["members"] ["members"] (defScope s_set_holding) := by walk_at "f"
theorem sc_Reckoner_o_init : FnScope ["self", "game"] ["self", "game"] (defScope s_Reckoner_o_init) := by walk_at "f"
theorem sc_Reckoner_o_has_one_label : FnScope ["self", "things"] ["self", "things"] (defScope s_Reckoner_o_has_one_label) := by walk_at "f"
theorem sc_Reckoner_o_left_of : FnScope ["self", "things", "question", "answer", "yes"] ["self", "things", "question", "answer"] (defScope s_Reckoner_o_left_of) := by walk_at "f"
theorem sc_Reckoner_o_fewest_among : FnScope ["self", "things"] ["self", "things"] (defScope s_Reckoner_o_fewest_among) := by walk_at "f"
theorem sc_Reckoner_o_fewest_reckoned : FnScope ["self", "things"] ["self", "things"] (defScope s_Reckoner_o_fewest_reckoned) := by walk_at "f"
theorem sc_Reckoner_o_parting : FnScope ["self", "things"] ["self", "things"] (defScope s_Reckoner_o_parting) := by walk_at "f"
theorem sc_Reckoner_o_worst_behind : FnScope ["self", "things", "question"] ["self", "things", "question"] (defScope s_Reckoner_o_worst_behind) := by walk_at "f"
theorem sc_Reckoner_o_harder_left : FnScope ["self", "things", "question", "no", "yes"] ["self", "things", "question"] (defScope s_Reckoner_o_harder_left) := by walk_at "f"
theorem sc_members_where : FnScope ["wanted", "values"] ["wanted", "values"] (defScope s_members_where) := by walk_at "f"
theorem sc_left_by : FnScope ["game", "things", "question", "answer", "row"] ["game", "things", "question", "answer"] (defScope s_left_by) := by walk_at "f"
theorem sc_ends : FnScope ["game"] ["game"] (defScope s_ends) := by walk_at "f"
theorem sc_first_unparted : FnScope ["game", "labels", "answers", "one", "other"] ["game"] (defScope s_first_unparted) := by walk_at "f"
theorem sc_fewest_of : FnScope ["game", "things"] ["game", "things"] (defScope s_fewest_of) := by walk_at "f"
theorem sc__law_feed : FnScope ["_law_script"] ["_law_script"] (defScope s__law_feed) := by walk_at "f"
theorem sc__law_draw : FnScope ["_law_feed_here", "_law_many", "_law_turn", "_law_cell", "_law_mixed", "_law_digit"] ["_law_feed_here", "_law_many"] (defScope s__law_draw) := by walk_at "f"
theorem sc__law_table : FnScope ["_law_feed_here", "_law_n", "_law_many", "_law_way", "_law_place", "_law_one", "_law_answer"] ["_law_feed_here", "_law_n"] (defScope s__law_table) := by walk_at "f"
theorem sc__law_table_game : FnScope ["_law_table_here", "_law_rows", "_law_many"] ["_law_table_here"] (defScope s__law_table_game) := by walk_at "f"
theorem sc__law_class : FnScope ["_law_feed_here", "_law_n", "_law_many", "_law_tables", "_law_at", "_law_k", "_law_table_here"] ["_law_feed_here", "_law_n", "_law_many"] (defScope s__law_class) := by walk_at "f"
theorem sc__law_class_game : FnScope ["_law_tables", "_law_rows"] ["_law_tables"] (defScope s__law_class_game) := by walk_at "f"
theorem sc__law_picks : FnScope ["_law_feed_here", "_law_many", "_law_first", "_law_labels", "_law_rows"] ["_law_feed_here"] (defScope s__law_picks) := by walk_at "f"
theorem sc__law_any_game : FnScope ["_law_feed_here", "_law_many", "_law_width", "_law_names", "_law_labels", "_law_rows", "_law_k"] ["_law_feed_here"] (defScope s__law_any_game) := by walk_at "f"
theorem sc__law_game : FnScope ["_law_feed_here", "_law_way"] ["_law_feed_here"] (defScope s__law_game) := by walk_at "f"
theorem sc__law_pair : FnScope ["_law_game_here", "_law_answers", "_law_one", "_law_other"] ["_law_game_here"] (defScope s__law_pair) := by walk_at "f"
theorem sc__law_ending : FnScope ["_law_game_here", "_law_labels", "_law_pair_here"] ["_law_game_here"] (defScope s__law_ending) := by walk_at "f"
theorem sc__law_sides : FnScope ["_law_game_here", "_law_things", "_law_question", "_law_row"] ["_law_game_here", "_law_things", "_law_question"] (defScope s__law_sides) := by walk_at "f"
theorem sc__law_need : FnScope ["_law_game_here", "_law_things", "_law_known", "_law_least", "_law_question", "_law_sides_here"] ["_law_game_here", "_law_things", "_law_known"] (defScope s__law_need) := by walk_at "f"
theorem sc__law_some_things : FnScope ["_law_feed_here", "_law_game_here", "_law_share"] ["_law_feed_here", "_law_game_here"] (defScope s__law_some_things) := by walk_at "f"
theorem sc__law_counts : FnScope ["_law_feed_here", "_law_game_here", "_law_known", "_law_some", "_law_things", "_law_found"] ["_law_feed_here", "_law_game_here"] (defScope s__law_counts) := by walk_at "f"
theorem sc_law : FnScope ["_law_script", "_law_feed_here", "_law_k", "_law_game_here", "_law_turn", "_law_things", "_law_question", "_law_answer", "_law_due", "_law_finds"] ["_law_script"] (defScope s_law) := by walk_at "f"
set_option genInjectivity false
set_option genSizeOf false
structure Txt (K : W.Frag) (mg : Str -> Option Value) where
  C_Reckoner : Addr
  mC_Reckoner : mg "Reckoner" = some (.ref C_Reckoner)
  cl_Reckoner : Cls K C_Reckoner
  na_Reckoner_labels : NoAttr K C_Reckoner "labels"
  na_Reckoner_yeses : NoAttr K C_Reckoner "yeses"
  na_Reckoner_alike : NoAttr K C_Reckoner "alike"
  na_Reckoner_known : NoAttr K C_Reckoner "known"
  f__wall : Addr
  d__wall : FuncData
  F__wall : Fun K "_wall" "_wall" s__wall f__wall d__wall
  b__wall : Binds K d__wall ["k"] []
  m__wall : mg "_wall" = some (.ref f__wall)
  f_two_to : Addr
  d_two_to : FuncData
  F_two_to : Fun K "two_to" "two_to" s_two_to f_two_to d_two_to
  b_two_to : Binds K d_two_to ["n"] []
  m_two_to : mg "two_to" = some (.ref f_two_to)
  f_power_of : Addr
  d_power_of : FuncData
  F_power_of : Fun K "power_of" "power_of" s_power_of f_power_of d_power_of
  b_power_of : Binds K d_power_of ["base", "times"] []
  m_power_of : mg "power_of" = some (.ref f_power_of)
  f_within : Addr
  d_within : FuncData
  F_within : Fun K "within" "within" s_within f_within d_within
  b_within : Binds K d_within ["subset", "other"] []
  m_within : mg "within" = some (.ref f_within)
  f_set_holding : Addr
  d_set_holding : FuncData
  F_set_holding : Fun K "set_holding" "set_holding" s_set_holding f_set_holding d_set_holding
  b_set_holding : Binds K d_set_holding ["members"] []
  m_set_holding : mg "set_holding" = some (.ref f_set_holding)
  f_Reckoner_o_init : Addr
  d_Reckoner_o_init : FuncData
  F_Reckoner_o_init : Fun K "__init__" "Reckoner.__init__" s_Reckoner_o_init f_Reckoner_o_init d_Reckoner_o_init
  b_Reckoner_o_init : Binds K d_Reckoner_o_init ["self", "game"] []
  me_Reckoner_o_init : Meth K C_Reckoner "__init__" f_Reckoner_o_init
  mk_Reckoner : Mk K C_Reckoner f_Reckoner_o_init
  f_Reckoner_o_has_one_label : Addr
  d_Reckoner_o_has_one_label : FuncData
  F_Reckoner_o_has_one_label : Fun K "has_one_label" "Reckoner.has_one_label" s_Reckoner_o_has_one_label f_Reckoner_o_has_one_label d_Reckoner_o_has_one_label
  b_Reckoner_o_has_one_label : Binds K d_Reckoner_o_has_one_label ["self", "things"] []
  me_Reckoner_o_has_one_label : Meth K C_Reckoner "has_one_label" f_Reckoner_o_has_one_label
  f_Reckoner_o_left_of : Addr
  d_Reckoner_o_left_of : FuncData
  F_Reckoner_o_left_of : Fun K "left_of" "Reckoner.left_of" s_Reckoner_o_left_of f_Reckoner_o_left_of d_Reckoner_o_left_of
  b_Reckoner_o_left_of : Binds K d_Reckoner_o_left_of ["self", "things", "question", "answer"] []
  me_Reckoner_o_left_of : Meth K C_Reckoner "left_of" f_Reckoner_o_left_of
  f_Reckoner_o_fewest_among : Addr
  d_Reckoner_o_fewest_among : FuncData
  F_Reckoner_o_fewest_among : Fun K "fewest_among" "Reckoner.fewest_among" s_Reckoner_o_fewest_among f_Reckoner_o_fewest_among d_Reckoner_o_fewest_among
  b_Reckoner_o_fewest_among : Binds K d_Reckoner_o_fewest_among ["self", "things"] []
  me_Reckoner_o_fewest_among : Meth K C_Reckoner "fewest_among" f_Reckoner_o_fewest_among
  f_Reckoner_o_fewest_reckoned : Addr
  d_Reckoner_o_fewest_reckoned : FuncData
  F_Reckoner_o_fewest_reckoned : Fun K "fewest_reckoned" "Reckoner.fewest_reckoned" s_Reckoner_o_fewest_reckoned f_Reckoner_o_fewest_reckoned d_Reckoner_o_fewest_reckoned
  b_Reckoner_o_fewest_reckoned : Binds K d_Reckoner_o_fewest_reckoned ["self", "things"] []
  me_Reckoner_o_fewest_reckoned : Meth K C_Reckoner "fewest_reckoned" f_Reckoner_o_fewest_reckoned
  f_Reckoner_o_parting : Addr
  d_Reckoner_o_parting : FuncData
  F_Reckoner_o_parting : Fun K "parting" "Reckoner.parting" s_Reckoner_o_parting f_Reckoner_o_parting d_Reckoner_o_parting
  b_Reckoner_o_parting : Binds K d_Reckoner_o_parting ["self", "things"] []
  me_Reckoner_o_parting : Meth K C_Reckoner "parting" f_Reckoner_o_parting
  f_Reckoner_o_worst_behind : Addr
  d_Reckoner_o_worst_behind : FuncData
  F_Reckoner_o_worst_behind : Fun K "worst_behind" "Reckoner.worst_behind" s_Reckoner_o_worst_behind f_Reckoner_o_worst_behind d_Reckoner_o_worst_behind
  b_Reckoner_o_worst_behind : Binds K d_Reckoner_o_worst_behind ["self", "things", "question"] []
  me_Reckoner_o_worst_behind : Meth K C_Reckoner "worst_behind" f_Reckoner_o_worst_behind
  f_Reckoner_o_harder_left : Addr
  d_Reckoner_o_harder_left : FuncData
  F_Reckoner_o_harder_left : Fun K "harder_left" "Reckoner.harder_left" s_Reckoner_o_harder_left f_Reckoner_o_harder_left d_Reckoner_o_harder_left
  b_Reckoner_o_harder_left : Binds K d_Reckoner_o_harder_left ["self", "things", "question"] []
  me_Reckoner_o_harder_left : Meth K C_Reckoner "harder_left" f_Reckoner_o_harder_left
  f_members_where : Addr
  d_members_where : FuncData
  F_members_where : Fun K "members_where" "members_where" s_members_where f_members_where d_members_where
  b_members_where : Binds K d_members_where ["wanted", "values"] []
  m_members_where : mg "members_where" = some (.ref f_members_where)
  f_left_by : Addr
  d_left_by : FuncData
  F_left_by : Fun K "left_by" "left_by" s_left_by f_left_by d_left_by
  b_left_by : Binds K d_left_by ["game", "things", "question", "answer"] []
  m_left_by : mg "left_by" = some (.ref f_left_by)
  f_ends : Addr
  d_ends : FuncData
  F_ends : Fun K "ends" "ends" s_ends f_ends d_ends
  b_ends : Binds K d_ends ["game"] []
  m_ends : mg "ends" = some (.ref f_ends)
  f_first_unparted : Addr
  d_first_unparted : FuncData
  F_first_unparted : Fun K "first_unparted" "first_unparted" s_first_unparted f_first_unparted d_first_unparted
  b_first_unparted : Binds K d_first_unparted ["game"] []
  m_first_unparted : mg "first_unparted" = some (.ref f_first_unparted)
  f_fewest_of : Addr
  d_fewest_of : FuncData
  F_fewest_of : Fun K "fewest_of" "fewest_of" s_fewest_of f_fewest_of d_fewest_of
  b_fewest_of : Binds K d_fewest_of ["game", "things"] []
  m_fewest_of : mg "fewest_of" = some (.ref f_fewest_of)
  f__law_feed : Addr
  d__law_feed : FuncData
  F__law_feed : Fun K "_law_feed" "_law_feed" s__law_feed f__law_feed d__law_feed
  b__law_feed : Binds K d__law_feed ["_law_script"] []
  m__law_feed : mg "_law_feed" = some (.ref f__law_feed)
  f__law_draw : Addr
  d__law_draw : FuncData
  F__law_draw : Fun K "_law_draw" "_law_draw" s__law_draw f__law_draw d__law_draw
  b__law_draw : Binds K d__law_draw ["_law_feed_here", "_law_many"] []
  m__law_draw : mg "_law_draw" = some (.ref f__law_draw)
  f__law_table : Addr
  d__law_table : FuncData
  F__law_table : Fun K "_law_table" "_law_table" s__law_table f__law_table d__law_table
  b__law_table : Binds K d__law_table ["_law_feed_here", "_law_n"] []
  m__law_table : mg "_law_table" = some (.ref f__law_table)
  f__law_table_game : Addr
  d__law_table_game : FuncData
  F__law_table_game : Fun K "_law_table_game" "_law_table_game" s__law_table_game f__law_table_game d__law_table_game
  b__law_table_game : Binds K d__law_table_game ["_law_table_here"] []
  m__law_table_game : mg "_law_table_game" = some (.ref f__law_table_game)
  f__law_class : Addr
  d__law_class : FuncData
  F__law_class : Fun K "_law_class" "_law_class" s__law_class f__law_class d__law_class
  b__law_class : Binds K d__law_class ["_law_feed_here", "_law_n", "_law_many"] []
  m__law_class : mg "_law_class" = some (.ref f__law_class)
  f__law_class_game : Addr
  d__law_class_game : FuncData
  F__law_class_game : Fun K "_law_class_game" "_law_class_game" s__law_class_game f__law_class_game d__law_class_game
  b__law_class_game : Binds K d__law_class_game ["_law_tables"] []
  m__law_class_game : mg "_law_class_game" = some (.ref f__law_class_game)
  f__law_picks : Addr
  d__law_picks : FuncData
  F__law_picks : Fun K "_law_picks" "_law_picks" s__law_picks f__law_picks d__law_picks
  b__law_picks : Binds K d__law_picks ["_law_feed_here"] []
  m__law_picks : mg "_law_picks" = some (.ref f__law_picks)
  f__law_any_game : Addr
  d__law_any_game : FuncData
  F__law_any_game : Fun K "_law_any_game" "_law_any_game" s__law_any_game f__law_any_game d__law_any_game
  b__law_any_game : Binds K d__law_any_game ["_law_feed_here"] []
  m__law_any_game : mg "_law_any_game" = some (.ref f__law_any_game)
  f__law_game : Addr
  d__law_game : FuncData
  F__law_game : Fun K "_law_game" "_law_game" s__law_game f__law_game d__law_game
  b__law_game : Binds K d__law_game ["_law_feed_here"] []
  m__law_game : mg "_law_game" = some (.ref f__law_game)
  f__law_pair : Addr
  d__law_pair : FuncData
  F__law_pair : Fun K "_law_pair" "_law_pair" s__law_pair f__law_pair d__law_pair
  b__law_pair : Binds K d__law_pair ["_law_game_here"] []
  m__law_pair : mg "_law_pair" = some (.ref f__law_pair)
  f__law_ending : Addr
  d__law_ending : FuncData
  F__law_ending : Fun K "_law_ending" "_law_ending" s__law_ending f__law_ending d__law_ending
  b__law_ending : Binds K d__law_ending ["_law_game_here"] []
  m__law_ending : mg "_law_ending" = some (.ref f__law_ending)
  f__law_sides : Addr
  d__law_sides : FuncData
  F__law_sides : Fun K "_law_sides" "_law_sides" s__law_sides f__law_sides d__law_sides
  b__law_sides : Binds K d__law_sides ["_law_game_here", "_law_things", "_law_question"] []
  m__law_sides : mg "_law_sides" = some (.ref f__law_sides)
  f__law_need : Addr
  d__law_need : FuncData
  F__law_need : Fun K "_law_need" "_law_need" s__law_need f__law_need d__law_need
  b__law_need : Binds K d__law_need ["_law_game_here", "_law_things", "_law_known"] []
  m__law_need : mg "_law_need" = some (.ref f__law_need)
  f__law_some_things : Addr
  d__law_some_things : FuncData
  F__law_some_things : Fun K "_law_some_things" "_law_some_things" s__law_some_things f__law_some_things d__law_some_things
  b__law_some_things : Binds K d__law_some_things ["_law_feed_here", "_law_game_here"] []
  m__law_some_things : mg "_law_some_things" = some (.ref f__law_some_things)
  f__law_counts : Addr
  d__law_counts : FuncData
  F__law_counts : Fun K "_law_counts" "_law_counts" s__law_counts f__law_counts d__law_counts
  b__law_counts : Binds K d__law_counts ["_law_feed_here", "_law_game_here"] []
  m__law_counts : mg "_law_counts" = some (.ref f__law_counts)
  f_law : Addr
  d_law : FuncData
  F_law : Fun K "law" "law" s_law f_law d_law
  b_law : Binds K d_law ["_law_script"] []
  m_law : mg "law" = some (.ref f_law)
  z_any : mg "any" = none
  z_bool : mg "bool" = none
  z_enumerate : mg "enumerate" = none
  z_int : mg "int" = none
  z_isinstance : mg "isinstance" = none
  z_len : mg "len" = none
  z_list : mg "list" = none
  z_max : mg "max" = none
  z_min : mg "min" = none
  z_range : mg "range" = none
  z_repr : mg "repr" = none
  z_set : mg "set" = none
  z_sorted : mg "sorted" = none
  z_sum : mg "sum" = none
  z_tuple : mg "tuple" = none
set_option genInjectivity true
set_option genSizeOf true
section
variable {P : Program} {w : World} {K : W.Frag} {mg : Str -> Option Value} {base : Heap} (T : Txt K mg)
local macro_rules | `(tactic| walk_at "sm") => `(tactic| repeat' with_reducible first | exact sm_next | apply sm_seq | apply sm_asg | apply sm_ret | apply sm_drop | apply sm_if | apply sm_while | apply sm_for | exact em_var | exact em_c | apply em_op | apply em_un | apply em_not | apply em_cb | apply em_call | apply em_tup | apply em_lst | apply em_comp | exact rm_add | exact rm_addA | exact rm_mul | exact rm_div | exact rm_mod | exact rm_pow | exact rm_shl | exact um_neg_ | exact rm_cmp | exact rm_eq | exact rm_ix | apply tm_b | apply tm_and | apply tm_or | apply tm_not | exact am_nil | apply am_cons | exact cm_len_ | exact cm_min_ | exact cm_maxL_ | exact cm_tuple_ | exact cm_isi_ | apply im_seq | apply im_rng1 | apply im_rng2 | apply gm_sub | exact gm_name | apply gms_cons | exact gms_nil | exact sm_set | exact spGDraw_mono | exact spGDraw2_mono | exact rm_is | apply em_cutA | apply sm_dput | exact cm_repr_ | exact rm_inD | exact cm_setL_ | exact cm_lenSet_ | apply em_bm | exact bm_append | exact bm_insert | apply em_fldC | apply em_meth | exact rm_dIn | exact om_none | apply om_some | assumption)
theorem vw {X : Cx} (i : Nat) {x : Str} {pos : Pos} (h : X.N[i]? = some x /\ Vis X.env.scope x /\ (x == ("__debug__" : Str)) = false /\ (x == ("__classdict__" : Str)) = false) : PE X (.Name x pos) (vVar i) := vv i h.1 h.2.1 h.2.2.1 h.2.2.2
theorem pa1 {X : Cx} {e : PySem.Expr} {te : TE} (ha : PE X e te) (hs : starEach [e] X.env = [(false, eval e X.env)]) : PA X [e] (tCons te tNil) := pa_cons ha pa_nil hs
local macro_rules | `(tactic| walk_at "v") => `(tactic| exact ⟨by rfl, by first | exact Or.inl rfl | exact Or.inr (Or.inl rfl) | exact Or.inr (Or.inr rfl), by decide, by decide⟩)
local macro_rules | `(tactic| walk_at "m") => `(tactic| with_reducible first | refine Exists.imp fun _ => ?_ | refine And.imp_right ?_ | refine forall_imp fun _ => ?_)
local macro_rules | `(tactic| walk_at "o") => `(tactic| first | exact Or.inl rfl | exact Or.inr (Or.inl rfl) | exact Or.inr (Or.inr rfl))
local macro_rules | `(tactic| walk_at "i") => `(tactic| first | exact .inl rfl | exact .inr rfl | assumption)
local macro_rules | `(tactic| walk_at "e") => `(tactic| first | exact Or.inl rfl | exact Or.inr rfl)
local macro_rules | `(tactic| walk_at "n") => `(tactic| first | exact nobehind _ (by decide) (by decide) | rfl)
theorem ok__law_feed : FnOk P w K mg base CX0 1 T.f__law_feed T.d__law_feed ["_law_script"] (spGFeed K) := by
  refine T.F__law_feed.ok sc__law_feed (fun vs H Q E h => by unfold spGFeed at h; split at h <;> first | rfl | exact h.elim) (fun cdv A outer s H vs Q E hr h => ?_)
  have hu := hu60 hr
  unfold spGFeed at h
  split at h
  rotate_left
  . exact h.elim
  rename_i a
  obtain ⟨ns, hs, q⟩ := h
  refine ⟨_, (@pss_one _ _ _ (@ps_ret _ _ _ _ (@pe_lst _ _ _ _ (@pa_cons _ _ _ _ _ (@pe_op _ _ _ _ _ _ _ _ (kAdd (K := K)) (@pe_callTy _ _ _ _ _ _ _ _ _ (kList (K := K)) rfl T.z_list (by rfl) (@pa1 _ _ _ (@kCut _ K _ _ _ _ _ _ _ _ (@vw _ 0 _ _ (by walk_at "v")) (@po_none _) (@po_some _ _ _ (@pe_int _ _ _ _)) (by rfl)) (by rfl)) (by decide) (by decide) (by rfl) (by rfl)) (@pe_op _ _ _ _ _ _ _ _ om_mul (@pe_lst _ _ _ _ (@pa1 _ _ _ (@pe_int _ _ _ _) (by rfl))) (@pe_callTy _ _ _ _ _ _ _ _ _ cm_int rfl T.z_int (by rfl) (@pa1 _ _ _ (@pe_cmpM _ _ _ _ _ _ _ _ (kEq (K := K) hu) (@vw _ 0 _ _ (by walk_at "v")) (@pe_lst _ _ _ _ (@pa_nil _)) (by walk_at "n")) (by rfl)) (by decide) (by decide) (by rfl) (by rfl)))) (@pa_cons _ _ _ _ _ (@pe_int _ _ _ _) (@pa_cons _ _ _ _ _ (@pe_int _ _ _ _) (@pa1 _ _ _ (@pe_int _ _ _ _) (by rfl)) (by rfl)) (by rfl)) (by rfl))))), ?_⟩
  refine ⟨63, rfl, _, .inl ⟨hs, fun p hp => ?_⟩⟩
  have ecut : cutV (ns.map V.int) none (some 63) = (ns.take (HT.sIx ns.length ns.length (some 63))).map V.int := by
    unfold cutV
    rw [List.length_map]
    simp [HT.sIx, List.map_take]
  rw [ecut]
  generalize hns : ns.take (HT.sIx ns.length ns.length (some 63)) = ms
  have hms : ns ≠ [] -> ms ≠ [] := by
    intro hne
    rw [<- hns]
    cases ns with
    | nil => exact absurd rfl hne
    | cons x xs =>
      have e : HT.sIx (x :: xs).length (x :: xs).length (some 63) = min 63 (xs.length + 1) := HT.sIx_nat _ _ 63
      rw [e, show min 63 (xs.length + 1) = (min 62 xs.length) + 1 by omega, List.take_succ_cons]
      exact fun z => nomatch z
  have hml : ms.length <= 63 := by
    rw [<- hns, List.length_take]
    have e : HT.sIx ns.length ns.length (some 63) = min 63 ns.length := HT.sIx_nat _ _ 63
    omega
  refine ⟨_, .inl (.of upd_same), fun p2 hp2 => ?_⟩
  have s2 : Same H (upd (upd H p (.lst (ms.map V.int))) p2 (.lst (ms.map V.int))) := (Same.upd hp).trans (Same.upd hp2)
  have g2 : upd (upd H p (.lst (ms.map V.int))) p2 (.lst (ms.map V.int)) p2 = some (.lst (ms.map V.int)) := upd_same
  generalize upd (upd H p (.lst (ms.map V.int))) p2 (.lst (ms.map V.int)) = H2 at *
  refine ⟨small_le (show 1 <= 1000 by decide), fun p3 hp3 => ?_⟩
  have s3 : Same H2 (upd H2 p3 (.lst [.int 0])) := Same.upd hp3
  have g3 : upd H2 p3 (.lst [.int 0]) p3 = some (.lst [.int 0]) := upd_same
  generalize upd H2 p3 (.lst [.int 0]) = H3 at *
  refine ⟨small_le (show 0 <= 1000 by decide), fun p4 hp4 => ?_⟩
  have s4 : Same H3 (upd H3 p4 (.lst [])) := Same.upd hp4
  have g4 : upd H3 p4 (.lst []) p4 = some (.lst []) := upd_same
  generalize upd H3 p4 (.lst []) = H4 at *
  have S4 := s2.trans (s3.trans s4)
  refine ⟨.lst (ns.map Dv.int), .lst [], ?_, ?_, ?_, ?_⟩
  . unfold Rep; exact ⟨a, _, rfl, S4.sqL hs, reps_ints ns⟩
  . unfold Rep; exact ⟨p4, _, rfl, .of g4, reps_nil⟩
  . unfold depD; rw [depDs_ints]; omega
  have eb : eqD (.lst (ns.map Dv.int)) (.lst []) = decide (ns = []) := by
    rw [eqD_lst]
    cases ns with
    | nil => rfl
    | cons x xs => rfl
  rw [eb]
  have fin : ∀ (k : Nat), k <= 1 -> (ns = [] -> k = 1) -> ∀ H5 p5, Same H4 H5 -> H5 p5 = some (.lst (List.replicate k (V.int 0))) -> ∃ l b xs zs, V.ref p2 = .ref l /\ V.ref p5 = .ref b /\ H5 l = some (.lst xs) /\ H5 b = some (.lst zs) /\ xs.length + zs.length <= sizeLine /\ ∀ p6, H5 p6 = none ->
      4 <= sizeLine /\ ∀ p7, upd H5 p6 (.lst (xs ++ zs)) p7 = none -> Q (.ref p7) (upd (upd H5 p6 (.lst (xs ++ zs))) p7 (.lst [.ref p6, .int 0, .int 0, .int 0])) := by
    intro k hk hk1 H5 p5 s5 g5
    refine ⟨p2, p5, _, _, rfl, rfl, s5 _ _ (s4 _ _ (s3 _ _ g2)), g5, small_le (by rw [List.length_map, List.length_replicate]; omega), fun p6 hp6 => ⟨small_le (by decide), fun p7 hp7 => ?_⟩⟩
    have S5 := S4.trans s5
    have S6 := S5.trans (Same.upd (o := .lst (ms.map V.int ++ List.replicate k (V.int 0))) hp6)
    refine q p7 _ (S6.free hp7) (S6.trans (Same.upd hp7)) ⟨p6, 0, 0, 0, ms ++ List.replicate k 0, by decide, by decide, by decide, by decide, upd_same, ?_, ?_, ?_⟩
    . exact fun e => by rw [<- e, upd_same] at hp7; cases hp7
    . rw [upd_ne (fun e => by rw [<- e, upd_same] at hp7; cases hp7), upd_same]
      rw [List.map_append, List.map_replicate]
    . rw [List.length_append, List.length_replicate]
      by_cases hne : ns = []
      . rw [hk1 hne]; omega
      . have := hms hne
        have : ms.length ≠ 0 := fun z => this (List.length_eq_zero_iff.mp z)
        omega
  by_cases hne : ns = []
  . rw [decide_eq_true hne]
    refine ⟨p3, 1, _, rfl, rfl, s4 _ _ g3, by decide, by decide, small_le (by decide), fun p5 hp5 => .inl ?_⟩
    exact fin 1 (by decide) (fun _ => rfl) _ p5 (Same.upd hp5) upd_same
  . rw [decide_eq_false hne]
    refine ⟨p3, 0, _, rfl, rfl, s4 _ _ g3, by decide, by decide, small_le (by decide), fun p5 hp5 => .inl ?_⟩
    exact fin 0 (by decide) (fun z => absurd z hne) _ p5 (Same.upd hp5) upd_same
theorem ok2__law_draw : FnOk P w K mg base CX0 1 T.f__law_draw T.d__law_draw ["_law_feed_here", "_law_many"] spGDraw2 := by
  refine T.F__law_draw.ok sc__law_draw (fun vs H Q E h => by unfold spGDraw2 at h; split at h <;> first | rfl | exact h.elim) (fun cdv A outer s H vs Q E hr h => ?_)
  have hu := hu60 hr
  match vs, h with
  | [.ref t, .int m], h =>
  obtain ⟨l, N, F, hN, hm, k⟩ := h
  obtain ⟨i, g, c, ns, i0, g0, c0, cN, ht, lt, hl, nl⟩ := F.at_
  have hm0 : 0 < m := hm.1
  refine ⟨_, (@pss_cons _ _ _ _ _ (@ps_asg _ _ _ _ _ _ (@pe_op _ _ _ _ _ _ _ _ (kAdd (K := K)) (@kIx _ K _ _ _ _ _ (@vw _ 0 _ _ (by walk_at "v")) (@pe_int _ _ _ _) (by intro _ _; rfl) (by rfl)) (@pe_int _ _ _ _)) (@pg_sub _ _ _ _ _ _ _ (@vw _ 0 _ _ (by walk_at "v")) (@pe_int _ _ _ _) set_any (by intro _; rfl)) (by rfl) (by rfl) (by rfl)) (@pss_cons _ _ _ _ _ (@ps_set _ _ 2 _ _ _ _ sc__law_draw.nd rfl (by walk_at "e") (@kIx _ K _ _ _ _ _ (@vw _ 0 _ _ (by walk_at "v")) (@pe_int _ _ _ _) (by intro _ _; rfl) (by rfl)) (by rfl) (by walk_at "i")) (@pss_cons _ _ _ _ _ (@ps_if _ _ _ _ _ _ _ _ (@tu_cmp _ _ _ _ _ _ _ _ (kEq (K := K) hu) (@kIx _ K _ _ _ _ _ (@vw _ 0 _ _ (by walk_at "v")) (@pe_int _ _ _ _) (by intro _ _; rfl) (by rfl)) (@pe_int _ _ _ _) (by walk_at "n")) (@pss_cons _ _ _ _ _ (@ps_set _ _ 3 _ _ _ _ sc__law_draw.nd rfl (by walk_at "e") (@kIx _ K _ _ _ _ _ (@kIx _ K _ _ _ _ _ (@vw _ 0 _ _ (by walk_at "v")) (@pe_int _ _ _ _) (by intro _ _; rfl) (by rfl)) (@pe_op _ _ _ _ _ _ _ _ om_mod (@kIx _ K _ _ _ _ _ (@vw _ 0 _ _ (by walk_at "v")) (@pe_int _ _ _ _) (by intro _ _; rfl) (by rfl)) (@pe_callB _ _ _ _ _ _ _ _ _ (kLen (K := K)) rfl T.z_len (by rfl) (@pa1 _ _ _ (@kIx _ K _ _ _ _ _ (@vw _ 0 _ _ (by walk_at "v")) (@pe_int _ _ _ _) (by intro _ _; rfl) (by rfl)) (by rfl)) (by decide) (by decide) (by rfl) (by rfl))) (by intro _ _; rfl) (by rfl)) (by rfl) (by walk_at "i")) (@pss_cons _ _ _ _ _ (@ps_asg _ _ _ _ _ _ (@pe_op _ _ _ _ _ _ _ _ (kAdd (K := K)) (@kIx _ K _ _ _ _ _ (@vw _ 0 _ _ (by walk_at "v")) (@pe_int _ _ _ _) (by intro _ _; rfl) (by rfl)) (@pe_int _ _ _ _)) (@pg_sub _ _ _ _ _ _ _ (@vw _ 0 _ _ (by walk_at "v")) (@pe_int _ _ _ _) set_any (by intro _; rfl)) (by rfl) (by rfl) (by rfl)) (@pss_cons _ _ _ _ _ (@ps_if _ _ _ _ _ _ _ _ (@tu_cmp _ _ _ _ _ _ _ _ om_lt (@vw _ 3 _ _ (by walk_at "v")) (@pe_op _ _ _ _ _ _ _ _ om_pow (@pe_int _ _ _ _) (@pe_int _ _ _ _)) (by walk_at "n")) (@pss_cons _ _ _ _ _ (@ps_set _ _ 4 _ _ _ _ sc__law_draw.nd rfl (by walk_at "e") (@pe_op _ _ _ _ _ _ _ _ (kAdd (K := K)) (@pe_op _ _ _ _ _ _ _ _ (kAdd (K := K)) (@pe_op _ _ _ _ _ _ _ _ (kAdd (K := K)) (@pe_op _ _ _ _ _ _ _ _ om_mod (@vw _ 3 _ _ (by walk_at "v")) (@pe_int _ _ _ _)) (@pe_op _ _ _ _ _ _ _ _ om_mul (@pe_op _ _ _ _ _ _ _ _ om_mul (@pe_int _ _ _ _) (@vw _ 2 _ _ (by walk_at "v"))) (@vw _ 2 _ _ (by walk_at "v")))) (@pe_op _ _ _ _ _ _ _ _ om_mul (@pe_int _ _ _ _) (@vw _ 2 _ _ (by walk_at "v")))) (@pe_int _ _ _ _)) (by rfl) (by walk_at "i")) (@pss_cons _ _ _ _ _ (@ps_set _ _ 4 _ _ _ _ sc__law_draw.nd rfl (by walk_at "e") (@pe_op _ _ _ _ _ _ _ _ om_mul (@pe_op _ _ _ _ _ _ _ _ om_div (@pe_op _ _ _ _ _ _ _ _ om_mod (@pe_op _ _ _ _ _ _ _ _ om_mul (@vw _ 4 _ _ (by walk_at "v")) (@pe_int _ _ _ _)) (@pe_int _ _ _ _)) (@pe_int _ _ _ _)) (@pe_int _ _ _ _)) (by rfl) (by walk_at "i")) (@pss_one _ _ _ (@ps_ret _ _ _ _ (@pe_op _ _ _ _ _ _ _ _ om_mod (@pe_op _ _ _ _ _ _ _ _ om_div (@pe_op _ _ _ _ _ _ _ _ om_mod (@vw _ 4 _ _ (by walk_at "v")) (@pe_int _ _ _ _)) (@pe_int _ _ _ _)) (@vw _ 1 _ _ (by walk_at "v"))))))) (@pss_nil _)) (@pss_one _ _ _ (@ps_asg _ _ _ _ _ _ (@vw _ 3 _ _ (by walk_at "v")) (@pg_sub _ _ _ _ _ _ _ (@vw _ 0 _ _ (by walk_at "v")) (@pe_int _ _ _ _) set_any (by intro _; rfl)) (by rfl) (by rfl) (by rfl)))))) (@pss_nil _)) (@pss_cons _ _ _ _ _ (@ps_set _ _ 5 _ _ _ _ sc__law_draw.nd rfl (by walk_at "e") (@pe_op _ _ _ _ _ _ _ _ om_mod (@kIx _ K _ _ _ _ _ (@vw _ 0 _ _ (by walk_at "v")) (@pe_int _ _ _ _) (by intro _ _; rfl) (by rfl)) (@vw _ 1 _ _ (by walk_at "v"))) (by rfl) (by walk_at "i")) (@pss_cons _ _ _ _ _ (@ps_asg _ _ _ _ _ _ (@pe_op _ _ _ _ _ _ _ _ om_div (@kIx _ K _ _ _ _ _ (@vw _ 0 _ _ (by walk_at "v")) (@pe_int _ _ _ _) (by intro _ _; rfl) (by rfl)) (@vw _ 1 _ _ (by walk_at "v"))) (@pg_sub _ _ _ _ _ _ _ (@vw _ 0 _ _ (by walk_at "v")) (@pe_int _ _ _ _) set_any (by intro _; rfl)) (by rfl) (by rfl) (by rfl)) (@pss_one _ _ _ (@ps_ret _ _ _ _ (@vw _ 5 _ _ (by walk_at "v"))))))))), ?_⟩
  refine seq_at (fun σ' H1 => σ' = [some (.ref t), some (.int m), none, none, none, none] /\ (∀ b, b ≠ t -> H1 b = H b) /\ H1 t = some (.lst [.ref l, .int i, .int g, .int (c + 1)])) ?_ ?_ (by walk_at "sm")
  . exact ⟨_, _, .inl (.of ht), rfl, _, _, ht, rfl, rfl, fun b n => upd_ne n, upd_same⟩
  rintro σ' H1 ⟨rfl, f1, ht1⟩
  refine ⟨_, _, .inl (.of ht1), rfl, ?_⟩
  have hl1 : H1 l = some (.lst (ns.map V.int)) := by rw [f1 l lt]; exact hl
  have pos : (0 : Int) < (ns.length : Int) := by omega
  dsimp only [gName]
  refine seq_at (fun σ' H2 => ∃ (z3 z4 : Option V) (i2 g2 : Int), σ' = [some (.ref t), some (.int m), some (.int (c + 1)), z3, z4, none] /\ (∀ b, b ≠ t -> H2 b = H b) /\ 0 <= i2 /\ 0 <= g2 /\ H2 t = some (.lst [.ref l, .int i2, .int g2, .int (c + 1)])) ?_ ?_ (by walk_at "sm")
  . refine ⟨_, _, .inl (.of ht1), rfl, ?_⟩
    refine ite2 (fun e => ?_) (fun e => ⟨none, none, i, g, rfl, f1, i0, g0, ht1⟩)
    obtain ⟨z, hz⟩ := atI_int (ns := ns) (Int.emod_nonneg i (show (ns.length : Int) ≠ 0 by omega)) (Int.emod_lt_of_pos i pos)
    refine seq_at (fun σ' H2 => σ' = [some (.ref t), some (.int m), some (.int (c + 1)), some (.int z), none, none] /\ H1 = H2) ?_ ?_ (by walk_at "sm")
    . exact ⟨_, _, .inl (.of ht1), rfl, _, _, .inl (.of ht1), rfl, _, _, .inl (.of ht1), rfl, ns.length, .inl ⟨_, .of hl1, by rw [List.length_map]⟩, pos, _, _, .inl (.of hl1), hz, rfl, rfl⟩
    rintro σ' _ ⟨rfl, rfl⟩
    refine seq_at (fun σ' H2 => σ' = [some (.ref t), some (.int m), some (.int (c + 1)), some (.int z), none, none] /\ (∀ b, b ≠ t -> H2 b = H b) /\ H2 t = some (.lst [.ref l, .int (i + 1), .int g, .int (c + 1)])) ?_ ?_ (by walk_at "sm")
    . exact ⟨_, _, .inl (.of ht1), rfl, _, _, ht1, rfl, rfl, fun b n => by rw [upd_ne n]; exact f1 b n, upd_same⟩
    rintro σ' H2 ⟨rfl, f2, ht2⟩
    refine seq_at (fun σ' H3 => σ' = [some (.ref t), some (.int m), some (.int (c + 1)), some (.int z), none, none] /\ H2 = H3 /\ ¬ z < 1000000000000000000) ?_ ?_ (by walk_at "sm")
    . refine ⟨⟨by decide, by decide, by decide⟩, ?_⟩
      refine ite2 (fun e => ?_) (fun e => ⟨rfl, rfl, ?_⟩)
      . refine ⟨by decide, .inr (.inl ⟨by decide, by decide⟩), .inr (.inl ⟨by omega, by omega⟩), .inr (.inl ⟨by decide, by decide⟩), ?_⟩
        refine ⟨.inr (.inr ⟨by decide, by decide⟩), by decide, okDiv_of (by decide) (by decide), .inr (.inr ⟨by decide, by decide⟩), ?_⟩
        refine ⟨by decide, okDiv_of (by decide) (by decide), hm0, ?_⟩
        exact k _ _ (Int.emod_nonneg _ (by omega)) (Int.emod_lt_of_pos _ hm0) ⟨i + 1, g, c + 1, ns, by omega, g0, by omega, by omega, ht2, lt, by rw [f2 l lt]; exact hl, nl⟩ f2
      . intro z'
        exact e (decide_eq_true z')
    rintro σ' _ ⟨rfl, rfl, hz2⟩
    exact ⟨_, _, ht2, rfl, _, _, _, _, rfl, fun b n => by rw [upd_ne n]; exact f2 b n, show 0 <= i + 1 by omega, show 0 <= z by omega, upd_same⟩
  rintro σ' H2 ⟨z3, z4, i2, g2, rfl, f2, i0', g0', ht2⟩
  refine ⟨_, _, .inl (.of ht2), rfl, hm0, ?_⟩
  dsimp only [gName]
  refine ⟨_, _, .inl (.of ht2), rfl, hm, _, _, ht2, rfl, ?_⟩
  refine k _ _ (Int.emod_nonneg _ (by omega)) (Int.emod_lt_of_pos _ hm0) ⟨i2, g2 / m, c + 1, ns, i0', Int.ediv_nonneg g0' (by omega), by omega, by omega, upd_same, lt, ?_, nl⟩ (fun b n => by rw [upd_ne n]; exact f2 b n)
  rw [upd_ne lt, f2 l lt]; exact hl
theorem ok__law_draw : FnOk P w K mg base CX0 1 T.f__law_draw T.d__law_draw ["_law_feed_here", "_law_many"] spGDraw := (ok2__law_draw T).imp spGDraw_of
def One (L : Nat -> Int) (S : Nat -> Bool) : Prop := ∀ i j, S i = true -> S j = true -> L i = L j
def Can (L : Nat -> Int) (Y : List (Nat -> Bool)) : Nat -> (Nat -> Bool) -> Prop
  | 0, S => One L S
  | n + 1, S => One L S \/ ∃ y ∈ Y, Can L Y n (fun k => S k && y k) /\ Can L Y n (fun k => S k && !y k)
section
variable {L L' : Nat -> Int} {Y Y' : List (Nat -> Bool)} {S S' : Nat -> Bool} {n m a b c : Nat}
theorem one_sub (h : ∀ k, S' k = true -> S k = true) (o : One L S) : One L S' := fun i j x y => o i j (h i x) (h j y)
theorem can_sub : ∀ {n : Nat} {S S' : Nat -> Bool}, (∀ k, S' k = true -> S k = true) -> Can L Y n S -> Can L Y n S'
  | 0, _, _, h, o => one_sub h o
  | n + 1, S, S', h, .inl o => .inl (one_sub h o)
  | n + 1, S, S', h, .inr ⟨y, hy, p, q⟩ => .inr ⟨y, hy, can_sub (fun k z => by simp only [Bool.and_eq_true] at z ⊢; exact ⟨h k z.1, z.2⟩) p, can_sub (fun k z => by simp only [Bool.and_eq_true] at z ⊢; exact ⟨h k z.1, z.2⟩) q⟩
theorem can_succ : ∀ {n : Nat} {S : Nat -> Bool}, Can L Y n S -> Can L Y (n + 1) S
  | 0, _, o => .inl o
  | n + 1, S, .inl o => .inl o
  | n + 1, S, .inr ⟨y, hy, p, q⟩ => .inr ⟨y, hy, can_succ p, can_succ q⟩
theorem can_mono (h : n <= m) (p : Can L Y n S) : Can L Y m S := by
  induction h with
  | refl => exact p
  | step _ ih => exact can_succ ih
def IsFew (L : Nat -> Int) (Y : List (Nat -> Bool)) (S : Nat -> Bool) (m : Nat) : Prop := Can L Y m S /\ ∀ n, Can L Y n S -> m <= n
theorem few_eq (x : IsFew L Y S a) (y : IsFew L Y S b) : a = b := Nat.le_antisymm (x.2 _ y.1) (y.2 _ x.1)
theorem few_split {y : Nat -> Bool} (hy : y ∈ Y) (x : IsFew L Y S a) (p : IsFew L Y (fun k => S k && y k) b) (q : IsFew L Y (fun k => S k && !y k) c) : a <= 1 + max b c := by
  rw [Nat.add_comm]
  exact x.2 (max b c + 1) (.inr ⟨y, hy, can_mono (Nat.le_max_left ..) p.1, can_mono (Nat.le_max_right ..) q.1⟩)
def Parts (S y : Nat -> Bool) : Prop := (∃ k, S k = true /\ y k = true) /\ ∃ k, S k = true /\ y k = false
theorem not_parts {y : Nat -> Bool} (h : ¬ Parts S y) : (∀ k, S k = true -> (S k && y k) = true) \/ ∀ k, S k = true -> (S k && !y k) = true := by
  by_cases z : ∃ k, S k = true /\ y k = true
  . refine .inl fun k hk => ?_
    rw [hk, Bool.true_and]
    cases e : y k with
    | true => rfl
    | false => exact absurd ⟨z, k, hk, e⟩ h
  . refine .inr fun k hk => ?_
    rw [hk, Bool.true_and]
    cases e : y k with
    | false => rfl
    | true => exact absurd ⟨k, hk, e⟩ z
theorem parts_some (ho : ¬ One L S) : ∀ {n : Nat}, Can L Y n S -> ∃ y ∈ Y, Parts S y
  | 0, o => absurd o ho
  | n + 1, .inl o => absurd o ho
  | n + 1, .inr ⟨y, hy, p, q⟩ => by
    by_cases h : Parts S y
    . exact ⟨y, hy, h⟩
    . rcases not_parts h with z | z
      . exact parts_some ho (can_sub z p)
      . exact parts_some ho (can_sub z q)
theorem few_step (ho : ¬ One L S) (h1 : ∃ y ∈ Y, Parts S y /\ ∃ b c, IsFew L Y (fun k => S k && y k) b /\ IsFew L Y (fun k => S k && !y k) c /\ m = max b c)
    (h2 : ∀ y ∈ Y, Parts S y -> ∃ b c, IsFew L Y (fun k => S k && y k) b /\ IsFew L Y (fun k => S k && !y k) c /\ m <= max b c) : IsFew L Y S (1 + m) := by
  constructor
  . obtain ⟨y, hy, hp, b, c, p, q, e⟩ := h1
    rw [Nat.add_comm]
    exact .inr ⟨y, hy, can_mono (by rw [e]; exact Nat.le_max_left ..) p.1, can_mono (by rw [e]; exact Nat.le_max_right ..) q.1⟩
  . intro n
    induction n with
    | zero => exact fun o => absurd o ho
    | succ n ih =>
      rintro (o | ⟨y, hy, p, q⟩)
      . exact absurd o ho
      . by_cases h : Parts S y
        . obtain ⟨b, c, p', q', hm⟩ := h2 y hy h
          have x1 := p'.2 _ p
          have x2 := q'.2 _ q
          omega
        . rcases not_parts h with z | z
          . exact Nat.le_succ_of_le (ih (can_sub z p))
          . exact Nat.le_succ_of_le (ih (can_sub z q))
theorem can_labels : ∀ {n : Nat} {S : Nat -> Bool} (ds : List Int), Can L Y n S -> ds.Nodup -> (∀ d ∈ ds, ∃ k, S k = true /\ L k = d) -> ds.length <= 2 ^ n := by
  have one : ∀ {S : Nat -> Bool} (ds : List Int), One L S -> ds.Nodup -> (∀ d ∈ ds, ∃ k, S k = true /\ L k = d) -> ds.length <= 1 := by
    intro S ds o nd h
    match ds, nd, h with
    | [], _, _ => exact Nat.zero_le _
    | [_], _, _ => exact Nat.le_refl _
    | x :: y :: r, nd, h =>
      obtain ⟨i, hi, ei⟩ := h x (by simp)
      obtain ⟨j, hj, ej⟩ := h y (by simp)
      have := o i j hi hj
      rw [ei, ej] at this
      simp [this] at nd
  intro n
  induction n with
  | zero => exact fun ds o nd h => one ds o nd h
  | succ n ih =>
    intro S ds c nd h
    rcases c with o | ⟨y, hy, p, q⟩
    . exact Nat.le_trans (one ds o nd h) Nat.one_le_two_pow
    . classical
      have e : ds.length = (ds.filter fun d => decide (∃ k, (S k && y k) = true /\ L k = d)).length + (ds.filter fun d => !decide (∃ k, (S k && y k) = true /\ L k = d)).length := by
        clear nd h
        induction ds with
        | nil => rfl
        | cons x r ih2 =>
          rw [List.filter_cons, List.filter_cons]
          cases decide (∃ k, (S k && y k) = true /\ L k = x) <;> simp [ih2] <;> omega
      have a1 := ih (ds.filter fun d => decide (∃ k, (S k && y k) = true /\ L k = d)) p (nd.filter _) fun d hd => by
        have := (List.mem_filter.mp hd).2
        exact of_decide_eq_true this
      have a2 := ih (ds.filter fun d => !decide (∃ k, (S k && y k) = true /\ L k = d)) q (nd.filter _) fun d hd => by
        obtain ⟨h1, h2⟩ := List.mem_filter.mp hd
        obtain ⟨k, hk, ek⟩ := h d h1
        refine ⟨k, ?_, ek⟩
        cases z : y k with
        | false => rw [hk]; rfl
        | true =>
          have : decide (∃ k, (S k && y k) = true /\ L k = d) = true := decide_eq_true ⟨k, by rw [hk, z]; rfl, ek⟩
          rw [this] at h2
          cases h2
      rw [Nat.pow_succ]
      omega
def card (N : Nat) (S : Nat -> Bool) : Nat := ((List.range N).filter S).length
theorem card_succ (N : Nat) (S : Nat -> Bool) : card (N + 1) S = card N S + if S N = true then 1 else 0 := by
  unfold card
  rw [List.range_succ, List.filter_append, List.length_append]
  cases h : S N <;> simp [h]
theorem card_split (N : Nat) (S y : Nat -> Bool) : card N S = card N (fun k => S k && y k) + card N (fun k => S k && !y k) := by
  induction N with
  | zero => rfl
  | succ N ih =>
    rw [card_succ, card_succ, card_succ, ih]
    cases S N <;> cases y N <;> simp <;> omega
theorem card_pos {N : Nat} {S : Nat -> Bool} {k : Nat} (hk : k < N) (hs : S k = true) : 1 <= card N S := List.length_pos_of_mem (List.mem_filter.mpr ⟨List.mem_range.mpr hk, hs⟩)
theorem card_two {N : Nat} {S : Nat -> Bool} {i j : Nat} (hi : i < N) (hj : j < N) (si : S i = true) (sj : S j = true) (ne : i ≠ j) : 2 <= card N S := by
  rw [card_split N S (fun k => k == i)]
  have := card_pos (S := fun k => S k && k == i) hi (by simp [si])
  have := card_pos (S := fun k => S k && !(k == i)) hj (by simp [sj, Ne.symm ne])
  omega
theorem card_parts {N : Nat} (hS : ∀ k, S k = true -> k < N) {y : Nat -> Bool} (h : Parts S y) : card N (fun k => S k && y k) < card N S /\ card N (fun k => S k && !y k) < card N S := by
  obtain ⟨⟨i, hi, yi⟩, j, hj, yj⟩ := h
  have := card_split N S y
  have := card_pos (S := fun k => S k && y k) (hS i hi) (by simp [hi, yi])
  have := card_pos (S := fun k => S k && !y k) (hS j hj) (by simp [hj, yj])
  omega
theorem can_ends {N : Nat} (he : ∀ i j, i < N -> j < N -> (∀ y ∈ Y, y i = y j) -> L i = L j) : ∀ (n : Nat) (S : Nat -> Bool), (∀ k, S k = true -> k < N) -> card N S <= n + 1 -> Can L Y n S := by
  intro n
  induction n with
  | zero =>
    intro S hS hc i j hi hj
    by_cases e : i = j
    . rw [e]
    . have := card_two (hS i hi) (hS j hj) hi hj e
      omega
  | succ n ih =>
    intro S hS hc
    by_cases o : One L S
    . exact .inl o
    . have : ∃ i j, S i = true /\ S j = true /\ L i ≠ L j := by
        refine Classical.byContradiction fun z => o fun i j hi hj => Classical.byContradiction fun q => z ⟨i, j, hi, hj, q⟩
      obtain ⟨i, j, hi, hj, ne⟩ := this
      have : ∃ y ∈ Y, y i ≠ y j := by
        refine Classical.byContradiction fun z => ne (he i j (hS i hi) (hS j hj) fun y hy => Classical.byContradiction fun q => z ⟨y, hy, q⟩)
      obtain ⟨y, hy, hne⟩ := this
      have hp : Parts S y := by
        cases yi : y i with
        | true =>
          refine ⟨⟨i, hi, yi⟩, j, hj, ?_⟩
          cases yj : y j with
          | false => rfl
          | true => rw [yi, yj] at hne; exact absurd rfl hne
        | false =>
          refine ⟨⟨j, hj, ?_⟩, i, hi, yi⟩
          cases yj : y j with
          | true => rfl
          | false => rw [yi, yj] at hne; exact absurd rfl hne
      obtain ⟨c1, c2⟩ := card_parts hS hp
      exact .inr ⟨y, hy, ih _ (fun k z => hS k (by simp only [Bool.and_eq_true] at z; exact z.1)) (by omega), ih _ (fun k z => hS k (by simp only [Bool.and_eq_true] at z; exact z.1)) (by omega)⟩
theorem few_exists : ∀ {n : Nat} {S : Nat -> Bool}, Can L Y n S -> ∃ m, IsFew L Y S m := by
  intro n S h
  induction n with
  | zero => exact ⟨0, h, fun _ _ => Nat.zero_le _⟩
  | succ n ih =>
    by_cases z : Can L Y n S
    . exact ih z
    . exact ⟨n + 1, h, fun k hk => by
        rcases Nat.lt_or_ge k (n + 1) with q | q
        . exact absurd (can_mono (by omega) hk) z
        . exact q⟩
end
def msk (ts : List Nat) : Nat := (ts.map (2 ^ ·)).sum
theorem msk_cons (t : Nat) (ts : List Nat) : msk (t :: ts) = 2 ^ t + msk ts := by unfold msk; rw [List.map_cons, List.sum_cons]
theorem msk_app (ts us : List Nat) : msk (ts ++ us) = msk ts + msk us := by unfold msk; rw [List.map_append, List.sum_append]
theorem msk_lt : ∀ (ts : List Nat) (N : Nat), ts.Pairwise (fun a b => b < a) -> (∀ t ∈ ts, t < N) -> msk ts < 2 ^ N /\ ∀ k, (msk ts).testBit k = decide (k ∈ ts)
  | [], N, _, _ => ⟨Nat.two_pow_pos N, fun k => by simp [msk]⟩
  | t :: ts, N, hp, hl => by
    obtain ⟨h1, h2⟩ := List.pairwise_cons.mp hp
    obtain ⟨i1, i2⟩ := msk_lt ts t h2 h1
    rw [msk_cons]
    have ht : t < N := hl t (by simp)
    have e2 : 2 ^ t + 2 ^ t <= 2 ^ N := by rw [<- Nat.two_mul, Nat.mul_comm, <- Nat.pow_succ]; exact Nat.pow_le_pow_right (by decide) ht
    refine ⟨by omega, fun k => ?_⟩
    rcases Nat.lt_trichotomy k t with z | z | z
    . rw [Nat.testBit_two_pow_add_gt z, i2 k]
      simp only [List.mem_cons, show k ≠ t by omega, false_or]
    . subst z
      rw [Nat.testBit_two_pow_add_eq, i2 k]
      have : k ∉ ts := fun q => Nat.lt_irrefl _ (h1 k q)
      simp [this]
    . have : 2 ^ t + msk ts < 2 ^ k := by
        have : 2 ^ (t + 1) <= 2 ^ k := Nat.pow_le_pow_right (by decide) z
        rw [Nat.pow_succ] at this
        omega
      rw [Nat.testBit_lt_two_pow this]
      have h3 : k ∉ ts := fun q => Nat.lt_irrefl _ (Nat.lt_trans z (h1 k q))
      simp [h3, show k ≠ t by omega]
theorem msk_rev (ts : List Nat) : msk ts.reverse = msk ts := by
  induction ts with
  | nil => rfl
  | cons t ts ih => rw [List.reverse_cons, msk_app, ih, msk_cons, msk_cons]; simp [msk]; omega
theorem msk_rise {ts : List Nat} {N : Nat} (hp : ts.Pairwise (· < ·)) (hl : ∀ t ∈ ts, t < N) : msk ts < 2 ^ N /\ ∀ k, (msk ts).testBit k = decide (k ∈ ts) := by
  have := msk_lt ts.reverse N (List.pairwise_reverse.mpr hp) (fun t ht => hl t (List.mem_reverse.mp ht))
  rw [msk_rev] at this
  exact ⟨this.1, fun k => by rw [this.2 k]; simp⟩
theorem sub_and (x y k : Nat) : (x - (x &&& y)).testBit k = (x.testBit k && !y.testBit k) := by
  have e : x - (x &&& y) = x ^^^ (x &&& y) := by
    have h : ∀ (n x y : Nat), x < 2 ^ n -> (x ^^^ (x &&& y)) + (x &&& y) = x := by
      intro n
      induction n with
      | zero => intro x y h; have : x = 0 := by simpa using h
                subst this; simp
      | succ n ih =>
        intro x y h
        have i := ih (x / 2) (y / 2) (by rw [Nat.pow_succ] at h; omega)
        have d1 : (x ^^^ (x &&& y)) / 2 = x / 2 ^^^ (x / 2 &&& y / 2) := by rw [Nat.xor_div_two, Nat.and_div_two]
        have d2 : (x &&& y) / 2 = x / 2 &&& y / 2 := Nat.and_div_two
        have m1 : (x ^^^ (x &&& y)) % 2 + (x &&& y) % 2 = x % 2 := by
          have g : ∀ z : Nat, z % 2 = (z.testBit 0).toNat := fun z => by rw [Nat.toNat_testBit, Nat.pow_zero, Nat.div_one]
          rw [g, g (x &&& y), g x, Nat.testBit_xor, Nat.testBit_and]
          cases x.testBit 0 <;> cases y.testBit 0 <;> rfl
        omega
    have := h x x y Nat.lt_two_pow_self
    omega
  rw [e, Nat.testBit_xor, Nat.testBit_and]
  cases x.testBit k <;> cases y.testBit k <;> rfl
theorem tb_and (S y : Nat) : (S &&& y).testBit = fun k => S.testBit k && y.testBit k := funext fun k => Nat.testBit_and ..
theorem tb_sub (S y : Nat) : (S - (S &&& y)).testBit = fun k => S.testBit k && !y.testBit k := funext fun k => sub_and ..
theorem tb_lt {S n k : Nat} (h : S < 2 ^ n) (hk : S.testBit k = true) : k < n := by
  rcases Nat.lt_or_ge k n with z | z
  . exact z
  . rw [Nat.testBit_lt_two_pow (Nat.lt_of_lt_of_le h (Nat.pow_le_pow_right (by decide) z))] at hk
    cases hk
def sp_power : Sp := fun vs H Q _ => match vs with
  | [.int b, .int t] => ∃ m : Nat, t = m /\ m <= 64 /\ ((-(2 ^ 64) < b /\ b < 2 ^ 64) \/ (Nb b 100 /\ m <= 12)) /\ Q (.int (b ^ m)) H
  | _ => False
theorem ok_power_of : FnOk P w K mg base CX0 1 T.f_power_of T.d_power_of ["base", "times"] sp_power := by
  refine T.F_power_of.ok sc_power_of (fun vs H Q E h => by unfold sp_power at h; split at h <;> first | rfl | exact h.elim) (fun cdv A outer s H vs Q E hr h => ?_)
  have hu := hu60 hr
  unfold sp_power at h
  split at h
  rotate_left
  . exact h.elim
  rename_i b t
  obtain ⟨m, e1, h1, b1, q⟩ := h
  subst e1
  refine ⟨_, (@pss_cons _ _ _ _ _ (@ps_set _ _ 2 _ _ _ _ sc_power_of.nd rfl (by walk_at "e") (@pe_int _ _ _ _) (by rfl) (by walk_at "i")) (@pss_cons _ _ _ _ _ (@ps_for _ _ _ _ _ _ _ _ PassesOwn.never rfl (@pi_range1 _ _ _ _ _ _ rfl T.z_range (@pa1 _ _ _ (@vw _ 1 _ _ (by walk_at "v")) (by rfl)) (by rfl)) (@pg_name _ _ 3 _ sc_power_of.nd rfl (by walk_at "e") (by walk_at "i")) (@pss_one _ _ _ (@ps_set _ _ 2 _ _ _ _ sc_power_of.nd rfl (by walk_at "e") (@pe_op _ _ _ _ _ _ _ _ om_mul (@vw _ 2 _ _ (by walk_at "v")) (@vw _ 0 _ _ (by walk_at "v"))) (by rfl) (by walk_at "i"))) (by intro _; rfl)) (@pss_one _ _ _ (@ps_ret _ _ _ _ (@vw _ 2 _ _ (by walk_at "v")))))), ?_⟩
  refine ⟨m, rfl, by omega, by omega, ?_⟩
  refine for_range (fun i σ H' => H' = H /\ ∃ z : Option V, σ = [some (.int b), some (.int m), some (.int (b ^ i)), z]) ⟨rfl, none, by rw [Int.pow_zero]; rfl⟩ ?_ ?_
  . rintro i σ H' hi ⟨rfl, z, rfl⟩
    have hi' : i < m := by omega
    have okm : okMul (b ^ i) b := by
      rcases b1 with b1 | ⟨b1, b2⟩
      . exact .inr (.inr b1)
      . exact Nb.okMul ((b1.pow i).up (by omega)) (b1.up (by omega))
    refine ⟨okm, rfl, some (.int (0 + (i : Int))), ?_⟩
    rw [Int.pow_succ]
    rfl
  . rintro σ H' ⟨rfl, z, rfl⟩
    have : (m : Int).toNat = m := by omega
    rw [this]
    exact q
def sp_two_to : Sp := fun vs H Q _ => match vs with
  | [.int n] => ∃ m : Nat, n = m /\ m <= 64 /\ Q (.int (2 ^ m : Nat)) H
  | _ => False
theorem ok_two_to : FnOk P w K mg base CX0 2 T.f_two_to T.d_two_to ["n"] sp_two_to := by
  have G_power_of := ok_power_of (P := P) (w := w) (base := base) T
  refine T.F_two_to.ok sc_two_to (fun vs H Q E h => by unfold sp_two_to at h; split at h <;> first | rfl | exact h.elim) (fun cdv A outer s H vs Q E hr h => ?_)
  have hu := hu60 hr
  have hr_power_of := hr.mono (show 1 <= _ by decide)
  unfold sp_two_to at h
  split at h
  rotate_left
  . exact h.elim
  rename_i n
  obtain ⟨m, e1, h1, q⟩ := h
  subst e1
  refine ⟨_, (@pss_one _ _ _ (@ps_ret _ _ _ _ (@pe_call _ _ _ _ _ _ _ _ _ _ _ _ _ _ _ _ G_power_of hr_power_of rfl T.m_power_of T.F_power_of.kp T.b_power_of .nil pass0 (@pa_cons _ _ _ _ _ (@pe_int _ _ _ _) (@pa1 _ _ _ (@vw _ 0 _ _ (by walk_at "v")) (by rfl)) (by rfl)) (by decide) (by rfl) (by rfl)))), ?_⟩
  refine ⟨m, rfl, h1, .inl ⟨by decide, by decide⟩, ?_⟩
  have e : (2 : Int) ^ m = ((2 ^ m : Nat) : Int) := by rw [Int.natCast_pow]; rfl
  rw [e]
  exact q
def sp_within : Sp := fun vs H Q _ => match vs with
  | [.int x, .int y] => ∃ a b : Nat, x = a /\ y = b /\ Q (.bl (decide (a &&& b = a))) H
  | _ => False
theorem ok_within : FnOk P w K mg base CX0 1 T.f_within T.d_within ["subset", "other"] sp_within := by
  refine T.F_within.ok sc_within (fun vs H Q E h => by unfold sp_within at h; split at h <;> first | rfl | exact h.elim) (fun cdv A outer s H vs Q E hr h => ?_)
  have hu := hu60 hr
  unfold sp_within at h
  split at h
  rotate_left
  . exact h.elim
  rename_i x y
  obtain ⟨a, b, e1, e2, q⟩ := h
  subst e1 e2
  refine ⟨_, (@pss_one _ _ _ (@ps_ret _ _ _ _ (@pe_cmpM _ _ _ _ _ _ _ _ (kEq (K := K) hu) (@pe_op _ _ _ _ _ _ _ _ om_and (@vw _ 0 _ _ (by walk_at "v")) (@vw _ 1 _ _ (by walk_at "v"))) (@vw _ 0 _ _ (by walk_at "v")) (by walk_at "n")))), ?_⟩
  have e : (false ^^ (Builtin.bitAnd (a : Int) (b : Int) == (a : Int))) = decide (a &&& b = a) := by
    rw [bitAnd_nat, Bool.false_xor, Bool.eq_iff_iff]
    simp only [beq_iff_eq, decide_eq_true_eq]
    omega
  show Q (.bl (false ^^ (Builtin.bitAnd (a : Int) (b : Int) == (a : Int)))) H
  rw [e]
  exact q
def whr (bs : List Bool) (n : Nat) : List Nat := (List.range n).filter (gB bs)
theorem whr_succ (bs : List Bool) (n : Nat) : whr bs (n + 1) = whr bs n ++ (if gB bs n = true then [n] else []) := by
  unfold whr
  rw [List.range_succ, List.filter_append]
  cases h : gB bs n <;> simp [h]
theorem whr_len (bs : List Bool) (n : Nat) : (whr bs n).length <= n := by
  have := List.length_filter_le (gB bs) (List.range n)
  rw [List.length_range] at this
  exact this
theorem whr_rise (bs : List Bool) (n : Nat) : (whr bs n).Pairwise (· < ·) := List.Pairwise.filter _ List.pairwise_lt_range
theorem whr_lt {bs : List Bool} {n t : Nat} (h : t ∈ whr bs n) : t < n := List.mem_range.mp (List.mem_filter.mp h).1
theorem whr_mem {bs : List Bool} {n t : Nat} : t ∈ whr bs n ↔ t < n /\ gB bs t = true := by unfold whr; rw [List.mem_filter, List.mem_range]
def sp_where (K : W.Frag) : Sp := fun vs H Q _ => match vs with
  | [.bl b, .ref p] => ∃ rb : List Bool, SqT K H p (rb.map V.bl) /\ rb.length <= 100 /\ newL H Q (iL (whr (rb.map (· == b)) rb.length))
  | [.int z, .ref p] => ∃ ls : List Int, SqT K H p (ls.map V.int) /\ ls.length <= 100 /\ newL H Q (iL (whr (ls.map (· == z)) ls.length))
  | _ => False
theorem gB_map {α : Type} {f : α -> Bool} {l : List α} {i : Nat} {x : α} (h : l[i]? = some x) : gB (l.map f) i = f x := by
  unfold gB
  rw [List.getD_eq_getElem?_getD, List.getElem?_map, h]
  rfl
theorem ok_members_where : FnOk P w K mg base CX0 1 T.f_members_where T.d_members_where ["wanted", "values"] (sp_where K) := by
  refine T.F_members_where.ok sc_members_where (fun vs H Q E h => by unfold sp_where at h; split at h <;> first | rfl | exact h.elim) (fun cdv A outer s H vs Q E hr h => ?_)
  have hu := hu60 hr
  unfold sp_where at h
  split at h
  . rename_i b p
    obtain ⟨rb, hp, hl, q⟩ := h
    refine ⟨_, (@pss_one _ _ _ (@ps_ret _ _ _ _ (@pe_compB _ _ _ _ _ _ _ (["member", "each", "wanted"]) 2 [0] _ _ _ _ rfl (@kEnumT _ K _ _ _ _ _ _ _ rfl T.z_enumerate (@pa1 _ _ _ (@vw _ 1 _ _ (by walk_at "v")) (by rfl)) (by rfl) (by rfl)) (by kernel_rfl) rfl rfl (by kernel_rfl) (fun c => @kTup _ K _ _ _ _ 2 rfl (@pgs_cons _ _ _ _ _ (@pg_name _ _ 0 _ (show (["member", "each", "wanted"] : List Str).Nodup by decide +kernel) rfl (by walk_at "e") (by walk_at "i")) (@pgs_cons _ _ _ _ _ (@pg_name _ _ 1 _ (show (["member", "each", "wanted"] : List Str).Nodup by decide +kernel) rfl (by walk_at "e") (by walk_at "i")) (@pgs_nil _) (by rfl)) (by rfl)) (by rfl) (by rfl) (by rfl)) (go_tup (gos_cons gm_name (gms_cons gm_name gms_nil) (go_name (by decide)) (gos_cons gm_name gms_nil (go_name (by decide)) gos_nil))) (fun c => @pts_one _ _ _ (@tu_cmp _ _ _ _ _ _ _ _ (kEq (K := K) hu) (@vw _ 1 _ _ (by walk_at "v")) (@vw _ 2 _ _ (by walk_at "v")) (by walk_at "n"))) (fun c => (@vw _ 0 _ _ (by walk_at "v"))) (by intro _; rfl)))), ?_⟩
    refine ⟨⟨_, hp⟩, ?_⟩
    refine comp_enumT (xs := rb.map V.bl) (fun i zs H' => Same H H' /\ zs = iL (whr (rb.map (· == b)) i)) ⟨Same.refl _, rfl⟩ (fun i zs H' _ ⟨s, _⟩ => s.sqT hp) (fun i zs H' hi ⟨_, e⟩ => by
      rw [List.length_map] at hi
      have := whr_len (rb.map (· == b)) i
      rw [e, iL_len]; exact small1000 (by omega)) ?_ ?_
    . rintro i x zs H2 pp hx ⟨s2, rfl⟩ hpp
      rw [List.getElem?_map] at hx
      cases e0 : rb[i]? with
      | none => rw [e0] at hx; cases hx
      | some r =>
        rw [e0] at hx
        cases hx
        have eg : gB (rb.map (· == b)) i = (r == b) := gB_map e0
        refine ⟨pp, _, rfl, .of upd_same, rfl, _, _, rfl, _, _, rfl, rfl, ?_⟩
        rw [whr_succ, iL_app, eg]
        refine ite2 (fun e => ?_) (fun e => ?_)
        . have e' : (r == b) = true := by rw [<- Bool.false_xor (r == b)]; exact e
          rw [if_pos e']
          exact ⟨s2.trans (Same.upd hpp), rfl⟩
        . have e' : ¬ (r == b) = true := by rw [<- Bool.false_xor (r == b)]; exact e
          rw [if_neg e']
          exact ⟨s2.trans (Same.upd hpp), by show _ = _ ++ []; rw [List.append_nil]⟩
    . rintro zs H2 ⟨s2, rfl⟩ l hl
      rw [List.length_map]
      exact q l _ (s2.free hl) (s2.trans (Same.upd hl)) upd_same
  . rename_i b p
    obtain ⟨rb, hp, hl, q⟩ := h
    refine ⟨_, (@pss_one _ _ _ (@ps_ret _ _ _ _ (@pe_compB _ _ _ _ _ _ _ (["member", "each", "wanted"]) 2 [0] _ _ _ _ rfl (@kEnumT _ K _ _ _ _ _ _ _ rfl T.z_enumerate (@pa1 _ _ _ (@vw _ 1 _ _ (by walk_at "v")) (by rfl)) (by rfl) (by rfl)) (by kernel_rfl) rfl rfl (by kernel_rfl) (fun c => @kTup _ K _ _ _ _ 2 rfl (@pgs_cons _ _ _ _ _ (@pg_name _ _ 0 _ (show (["member", "each", "wanted"] : List Str).Nodup by decide +kernel) rfl (by walk_at "e") (by walk_at "i")) (@pgs_cons _ _ _ _ _ (@pg_name _ _ 1 _ (show (["member", "each", "wanted"] : List Str).Nodup by decide +kernel) rfl (by walk_at "e") (by walk_at "i")) (@pgs_nil _) (by rfl)) (by rfl)) (by rfl) (by rfl) (by rfl)) (go_tup (gos_cons gm_name (gms_cons gm_name gms_nil) (go_name (by decide)) (gos_cons gm_name gms_nil (go_name (by decide)) gos_nil))) (fun c => @pts_one _ _ _ (@tu_cmp _ _ _ _ _ _ _ _ (kEq (K := K) hu) (@vw _ 1 _ _ (by walk_at "v")) (@vw _ 2 _ _ (by walk_at "v")) (by walk_at "n"))) (fun c => (@vw _ 0 _ _ (by walk_at "v"))) (by intro _; rfl)))), ?_⟩
    refine ⟨⟨_, hp⟩, ?_⟩
    refine comp_enumT (xs := rb.map V.int) (fun i zs H' => Same H H' /\ zs = iL (whr (rb.map (· == b)) i)) ⟨Same.refl _, rfl⟩ (fun i zs H' _ ⟨s, _⟩ => s.sqT hp) (fun i zs H' hi ⟨_, e⟩ => by
      rw [List.length_map] at hi
      have := whr_len (rb.map (· == b)) i
      rw [e, iL_len]; exact small1000 (by omega)) ?_ ?_
    . rintro i x zs H2 pp hx ⟨s2, rfl⟩ hpp
      rw [List.getElem?_map] at hx
      cases e0 : rb[i]? with
      | none => rw [e0] at hx; cases hx
      | some r =>
        rw [e0] at hx
        cases hx
        have eg : gB (rb.map (· == b)) i = (r == b) := gB_map e0
        refine ⟨pp, _, rfl, .of upd_same, rfl, _, _, rfl, _, _, rfl, rfl, ?_⟩
        rw [whr_succ, iL_app, eg]
        refine ite2 (fun e => ?_) (fun e => ?_)
        . have e' : (r == b) = true := by rw [<- Bool.false_xor (r == b)]; exact e
          rw [if_pos e']
          exact ⟨s2.trans (Same.upd hpp), rfl⟩
        . have e' : ¬ (r == b) = true := by rw [<- Bool.false_xor (r == b)]; exact e
          rw [if_neg e']
          exact ⟨s2.trans (Same.upd hpp), by show _ = _ ++ []; rw [List.append_nil]⟩
    . rintro zs H2 ⟨s2, rfl⟩ l hl
      rw [List.length_map]
      exact q l _ (s2.free hl) (s2.trans (Same.upd hl)) upd_same
  . exact h.elim
def SqI (K : W.Frag) (H : Hp) (p : Addr) (ts : List Nat) : Prop := SqL K H p (iL ts) \/ SqT K H p (iL ts)
def sp_holding (K : W.Frag) : Sp := fun vs H Q _ => match vs with
  | [.ref p] => ∃ ts : List Nat, SqI K H p ts /\ ts.length <= 64 /\ (∀ t ∈ ts, t <= 60) /\ ∀ H', Same H H' -> Q (.int (msk ts : Nat)) H'
  | _ => False
theorem powL_sum (ts : List Nat) : (ts.map fun t => ((2 ^ t : Nat) : Int)).sum = (msk ts : Nat) := by
  induction ts with
  | nil => rfl
  | cons t ts ih => rw [List.map_cons, List.sum_cons, ih, msk_cons]; omega
theorem ok_set_holding : FnOk P w K mg base CX0 3 T.f_set_holding T.d_set_holding ["members"] (sp_holding K) := by
  have G_two_to := ok_two_to (P := P) (w := w) (base := base) T
  refine T.F_set_holding.ok sc_set_holding (fun vs H Q E h => by unfold sp_holding at h; split at h <;> first | rfl | exact h.elim) (fun cdv A outer s H vs Q E hr h => ?_)
  have hu := hu60 hr
  have hr_two_to := hr.mono (show 2 <= _ by decide)
  unfold sp_holding at h
  split at h
  rotate_left
  . exact h.elim
  rename_i p
  obtain ⟨ts, hp, hl, hb, q⟩ := h
  refine ⟨_, (@pss_one _ _ _ (@ps_ret _ _ _ _ (@pe_callB _ _ _ _ _ _ _ _ _ (kSum (K := K) rfl) rfl T.z_sum (by rfl) (@pa1 _ _ _ (@pe_compB _ _ _ _ _ _ _ ["member"] 1 [] _ _ _ _ rfl (@kSeq _ K _ _ _ (@vw _ 0 _ _ (by walk_at "v")) (by rfl)) (by kernel_rfl) rfl rfl (by kernel_rfl) (fun c => @pg_name _ _ 0 _ (show (["member"] : List Str).Nodup by decide +kernel) rfl (by walk_at "e") (by walk_at "i")) (go_name (by decide)) (fun c => @pts_nil _) (fun c => (@pe_call _ _ _ _ _ _ _ _ _ _ _ _ _ _ _ _ G_two_to hr_two_to rfl T.m_two_to T.F_two_to.kp T.b_two_to .nil pass0 (@pa1 _ _ _ (@vw _ 0 _ _ (by walk_at "v")) (by rfl)) (by decide) (by rfl) (by rfl))) (by intro _; rfl)) (by rfl)) (by decide) (by decide) (by rfl) (by rfl)))), ?_⟩
  have turn : ∀ (k : Nat) (x : V) (ys : List V) (H' : Hp), (iL ts)[k]? = some x -> (Same H H' /\ ys = (ts.take k).map fun t => V.int ((2 ^ t : Nat) : Int)) -> ∃ t : Nat, x = .int (t : Nat) /\ t <= 60 /\ (ts.take (k + 1)).map (fun t => V.int ((2 ^ t : Nat) : Int)) = ys ++ [V.int ((2 ^ t : Nat) : Int)] := by
    rintro k x ys H' hx ⟨_, rfl⟩
    obtain ⟨t, ht, hmem, rfl⟩ := iL_at hx
    refine ⟨t, rfl, hb t hmem, ?_⟩
    rw [List.take_add_one, ht, List.map_append]
    rfl
  have fin : ∀ (ys : List V) (H' : Hp), (Same H H' /\ ys = (ts.take (iL ts).length).map fun t => V.int ((2 ^ t : Nat) : Int)) -> ∀ l, H' l = none -> ∃ ns : List Int, SqL K (upd H' l (.lst ys)) l (ns.map V.int) /\ Q (.int ns.sum) (upd H' l (.lst ys)) := by
    rintro ys H' ⟨s1, rfl⟩ l hl
    refine ⟨ts.map fun t => ((2 ^ t : Nat) : Int), ?_, ?_⟩
    . rw [List.map_map, iL_len, List.take_length]
      exact .of upd_same
    . rw [powL_sum]
      exact q _ (s1.trans (Same.upd hl))
  rcases hp with hp | hp
  . refine .inl ⟨⟨_, hp⟩, ?_⟩
    refine comp_list (xs := iL ts) (fun k ys H' => Same H H' /\ ys = (ts.take k).map fun t => V.int ((2 ^ t : Nat) : Int)) ⟨Same.refl _, rfl⟩ (fun k ys H' _ ⟨s, _⟩ => s.sqL hp) (fun k ys H' hk ⟨_, e⟩ => by
      rw [iL_len] at hk
      rw [e, List.length_map, List.length_take]; exact small1000 (by omega)) ?_ ?_
    . intro k x ys H' hx hP
      obtain ⟨t, rfl, t60, e⟩ := turn k x ys H' hx hP
      refine ⟨t, rfl, by omega, ?_⟩
      exact ⟨hP.1, e.symm⟩
    . exact fin
  . refine .inr ⟨⟨_, hp⟩, ?_⟩
    refine comp_tup (xs := iL ts) (fun k ys H' => Same H H' /\ ys = (ts.take k).map fun t => V.int ((2 ^ t : Nat) : Int)) ⟨Same.refl _, rfl⟩ (fun k ys H' _ ⟨s, _⟩ => s.sqT hp) (fun k ys H' hk ⟨_, e⟩ => by
      rw [iL_len] at hk
      rw [e, List.length_map, List.length_take]; exact small1000 (by omega)) ?_ ?_
    . intro k x ys H' hx hP
      obtain ⟨t, rfl, t60, e⟩ := turn k x ys H' hx hP
      refine ⟨t, rfl, by omega, ?_⟩
      exact ⟨hP.1, e.symm⟩
    . exact fin
def labF (ls : List Int) (k : Nat) : Int := ls.getD k 0
def rowF (ys : List Nat) : List (Nat -> Bool) := ys.map Nat.testBit
def flds (a b c d : V) : List (Str × V) := [("labels", a), ("yeses", b), ("alike", c), ("known", d)]
theorem lk2 (a b c d : V) : (flds a b c d).lookup ("yeses" : Str) = some b := by rfl
theorem lk3 (a b c d : V) : (flds a b c d).lookup ("alike" : Str) = some c := by rfl
theorem lk4 (a b c d : V) : (flds a b c d).lookup ("known" : Str) = some d := by rfl
theorem ln1 (a b c d : V) : (flds a b c d).lookup ("fewest_among" : Str) = none := by rfl
theorem ln2 (a b c d : V) : (flds a b c d).lookup ("fewest_reckoned" : Str) = none := by rfl
theorem ln3 (a b c d : V) : (flds a b c d).lookup ("has_one_label" : Str) = none := by rfl
theorem ln4 (a b c d : V) : (flds a b c d).lookup ("worst_behind" : Str) = none := by rfl
theorem ln5 (a b c d : V) : (flds a b c d).lookup ("parting" : Str) = none := by rfl
theorem ln6 (a b c d : V) : (flds a b c d).lookup ("harder_left" : Str) = none := by rfl
theorem ln7 (a b c d : V) : (flds a b c d).lookup ("left_of" : Str) = none := by rfl
theorem pf1 (a : V) : putF "labels" a [] = ([("labels", a)] : List (Str × V)) := by rfl
theorem pf2 (a b : V) : putF "yeses" b [("labels", a)] = ([("labels", a), ("yeses", b)] : List (Str × V)) := by rfl
theorem pf3 (a b c : V) : putF "alike" c [("labels", a), ("yeses", b)] = ([("labels", a), ("yeses", b), ("alike", c)] : List (Str × V)) := by rfl
theorem pf4 (a b c d : V) : putF "known" d [("labels", a), ("yeses", b), ("alike", c)] = flds a b c d := by rfl
structure Memo (ls : List Int) (ys : List Nat) (kvs : List (Key × V)) : Prop where
  nd : (kvs.map (·.1)).Nodup
  ok : ∀ e ∈ kvs, ∃ S m : Nat, e = ((Sum.inl (S : Int) : Key), V.int (m : Int)) /\ S < 2 ^ ls.length /\ IsFew (labF ls) (rowF ys) S.testBit m
theorem pigeon : ∀ (N : Nat) (l : List Nat), l.Nodup -> (∀ x ∈ l, x < N) -> l.length <= N
  | 0, l, _, h => by
    cases l with
    | nil => exact Nat.le_refl _
    | cons x r => exact absurd (h x (by simp)) (by omega)
  | N + 1, l, nd, h => by
    have := pigeon N (l.erase N) (nd.erase N) (fun x hx => by
      have h2 := (nd.mem_erase_iff).mp hx
      have := h x h2.2
      have := h2.1
      omega)
    by_cases z : N ∈ l
    . have e := List.length_erase_of_mem z
      omega
    . have e := List.erase_of_not_mem z
      rw [e] at this
      omega
theorem Memo.len {ls : List Int} {ys : List Nat} {kvs : List (Key × V)} (h : Memo ls ys kvs) (h16 : ls.length <= 16) : kvs.length < 2 ^ 24 := by
  have hl : kvs.length <= 2 ^ ls.length := by
    have e : (kvs.map fun e => match e.1 with | Sum.inl z => z.toNat | Sum.inr _ => 0).length = kvs.length := List.length_map ..
    rw [<- e]
    apply pigeon
    . refine List.pairwise_map.mpr ?_
      have nd := List.pairwise_map.mp h.nd
      refine List.Pairwise.imp_of_mem ?_ nd
      intro a b ha hb ne
      obtain ⟨S, m, ea, _⟩ := h.ok a ha
      obtain ⟨S', m', eb, _⟩ := h.ok b hb
      subst ea eb
      intro q
      apply ne
      have : (S : Int).toNat = (S' : Int).toNat := q
      have : S = S' := by omega
      rw [this]
    . intro x hx
      obtain ⟨a, ha, rfl⟩ := List.mem_map.mp hx
      obtain ⟨S, m, ea, hs, _⟩ := h.ok a ha
      subst ea
      show (S : Int).toNat < _
      rw [Int.toNat_natCast]
      exact hs
  have : 2 ^ ls.length <= 2 ^ 16 := Nat.pow_le_pow_right (by decide) h16
  omega
theorem val_mem {kvs : List (Key × V)} {k : Key} {v : V} (h : valV kvs k = some v) : (k, v) ∈ kvs := by
  unfold valV at h
  cases e : kvs.find? fun kv => decide (kv.1 = k) with
  | none => rw [e] at h; cases h
  | some x =>
    rw [e] at h
    have h1 := List.find?_some e
    have h2 := List.mem_of_find?_eq_some e
    cases h
    have : x.1 = k := of_decide_eq_true h1
    rw [<- this]
    exact h2
theorem Memo.get {ls : List Int} {ys : List Nat} {kvs : List (Key × V)} (h : Memo ls ys kvs) {S : Nat} {v : V} (e : valV kvs (Sum.inl (S : Int) : Key) = some v) : ∃ m : Nat, v = .int m /\ IsFew (labF ls) (rowF ys) S.testBit m := by
  obtain ⟨S', m, ee, _, hf⟩ := h.ok _ (val_mem e)
  have e1 : (Sum.inl (S : Int) : Key) = Sum.inl (S' : Int) := congrArg Prod.fst ee
  have e2 : v = V.int m := congrArg Prod.snd ee
  have : (S : Int) = S' := Sum.inl.inj e1
  have : S = S' := by omega
  subst this
  exact ⟨m, e2, hf⟩
theorem Memo.put {ls : List Int} {ys : List Nat} {kvs : List (Key × V)} (h : Memo ls ys kvs) {S m : Nat} (hs : S < 2 ^ ls.length) (hf : IsFew (labF ls) (rowF ys) S.testBit m) : Memo ls ys (putK kvs (Sum.inl (S : Int) : Key) (V.int m)) := by
  unfold putK
  split
  . refine ⟨?_, ?_⟩
    . have e : (kvs.map (fun kv => if kv.1 = (Sum.inl (S : Int) : Key) then (kv.1, V.int m) else kv)).map (·.1) = kvs.map (·.1) := by
        rw [List.map_map]
        apply List.map_congr_left
        intro a _
        simp only [Function.comp]
        split <;> rfl
      rw [e]
      exact h.nd
    . intro e he
      obtain ⟨a, ha, rfl⟩ := List.mem_map.mp he
      split
      . rename_i q
        exact ⟨S, m, by rw [q], hs, hf⟩
      . exact h.ok a ha
  . rename_i z
    refine ⟨?_, ?_⟩
    . rw [List.map_append, List.nodup_append]
      refine ⟨h.nd, by simp, ?_⟩
      intro a ha b hb q
      have hb' : b = (Sum.inl (S : Int) : Key) := by simpa using hb
      obtain ⟨x, hx, rfl⟩ := List.mem_map.mp ha
      exact z (List.any_eq_true.mpr ⟨x, hx, decide_eq_true (q.trans hb')⟩)
    . intro e he
      rcases List.mem_append.mp he with q | q
      . exact h.ok e q
      . rw [List.mem_singleton] at q
        exact ⟨S, m, q, hs, hf⟩
def AlikeOk (ls : List Int) (as : List Nat) : Prop := ∀ S, S < 2 ^ ls.length -> (as.any (fun a => decide (S &&& a = S)) = true ↔ One (labF ls) S.testBit)
structure RkAt (K : W.Frag) (C : Addr) (ls : List Int) (ys : List Nat) (H : Hp) (p d : Addr) : Prop where
  at_ : ∃ dx tl yl al as kvs, H p = some (.ins C dx (flds (.ref tl) (.ref yl) (.ref al) (.ref d))) /\ SqT K H tl (ls.map V.int) /\ H yl = some (.lst (iL ys)) /\ H al = some (.lst (iL as)) /\ H d = some (.dK kvs) /\ as.length <= 100 /\ AlikeOk ls as /\ Memo ls ys kvs
  l16 : ls.length <= 16
  y16 : ys.length <= 16
theorem RkAt.same {K : W.Frag} {C p d : Addr} {ls : List Int} {ys : List Nat} {H H' : Hp} (r : RkAt K C ls ys H p d) (s : Same H H') : RkAt K C ls ys H' p d := by
  obtain ⟨dx, tl, yl, al, as, kvs, h1, h2, h3, h4, h5, h6, h7, h8⟩ := r.at_
  exact ⟨⟨dx, tl, yl, al, as, kvs, s _ _ h1, s.sqT h2, s _ _ h3, s _ _ h4, s _ _ h5, h6, h7, h8⟩, r.l16, r.y16⟩
def NoTup (o : HO) : Prop := (∀ xs, o ≠ .tup xs) /\ ∀ ob u, o ≠ .frz ob u
theorem frm_sqT {K : W.Frag} {d a : Addr} {H H' : Hp} {xs : List V} {o : HO} (f : Frm d H H') (hd : H d = some o) (no : NoTup o) (h : SqT K H a xs) : SqT K H' a xs := by
  by_cases e : a = d
  . subst e
    rcases h with (h | ⟨ob, h⟩) | h
    . rw [hd] at h; exact absurd (Option.some.inj h) (no.1 _)
    . rw [hd] at h; exact absurd (Option.some.inj h) (no.2 _ _)
    . exact .inr h
  . exact sqT_stay h fun o k => f _ _ e k
theorem noTup_dK {kvs : List (Key × V)} : NoTup (.dK kvs) := ⟨(fun _ z => nomatch z), (fun _ _ z => nomatch z)⟩
theorem noTup_ins {C dx : Addr} {fs : List (Str × V)} : NoTup (.ins C dx fs) := ⟨(fun _ z => nomatch z), (fun _ _ z => nomatch z)⟩
theorem RkAt.put {K : W.Frag} {C p d : Addr} {ls : List Int} {ys : List Nat} {H H' : Hp} {kvs' : List (Key × V)} (r : RkAt K C ls ys H p d) (f : Frm d H H') (hd : H' d = some (.dK kvs')) (m : Memo ls ys kvs') : RkAt K C ls ys H' p d := by
  obtain ⟨dx, tl, yl, al, as, kvs, h1, h2, h3, h4, h5, h6, h7, h8⟩ := r.at_
  exact ⟨⟨dx, tl, yl, al, as, kvs', f _ _ (ne_of h1 h5 (by intro z; cases z)) h1, frm_sqT f h5 noTup_dK h2, f _ _ (ne_of h3 h5 (by intro z; cases z)) h3, f _ _ (ne_of h4 h5 (by intro z; cases z)) h4, hd, h6, h7, m⟩, r.l16, r.y16⟩
theorem same_frm' {t : Addr} {H H' : Hp} (s : Same H H') : Frm t H H' := fun b o _ e => s b o e
def sp_one (K : W.Frag) (C : Addr) : Sp := fun vs H Q _ => match vs with
  | [.ref p, .int z] => ∃ ls ys d S, RkAt K C ls ys H p d /\ z = (S : Nat) /\ S < 2 ^ ls.length /\ ∀ b H', (b = true ↔ One (labF ls) S.testBit) -> Same H H' -> Q (.bl b) H'
  | _ => False
theorem ok_Reckoner_o_has_one_label : FnOk P w K mg base CX0 2 T.f_Reckoner_o_has_one_label T.d_Reckoner_o_has_one_label ["self", "things"] (sp_one K T.C_Reckoner) := by
  have G_within := ok_within (P := P) (w := w) (base := base) T
  refine T.F_Reckoner_o_has_one_label.ok sc_Reckoner_o_has_one_label (fun vs H Q E h => by unfold sp_one at h; split at h <;> first | rfl | exact h.elim) (fun cdv A outer s H vs Q E hr h => ?_)
  have hu := hu60 hr
  have hr_within := hr.mono (show 1 <= _ by decide)
  unfold sp_one at h
  split at h
  rotate_left
  . exact h.elim
  rename_i p z
  obtain ⟨ls, ys, d, S, R, e1, hS, q⟩ := h
  subst e1
  obtain ⟨dx, tl, yl, al, as, kvs, h1, h2, h3, h4, h5, h6, h7, h8⟩ := R.at_
  refine ⟨_, (@pss_one _ _ _ (@ps_ret _ _ _ _ (@pe_callB _ _ _ _ _ _ _ _ _ (kAny (K := K) rfl) rfl T.z_any (by rfl) (@pa1 _ _ _ (@pe_compB _ _ _ _ _ _ _ (["alike", "things"]) 1 [1] _ _ _ _ rfl (@kSeq _ K _ _ _ (@kFld _ _ _ _ _ _ _ T.cl_Reckoner T.na_Reckoner_alike (@vw _ 0 _ _ (by walk_at "v")) (by rfl) (by rfl)) (by rfl)) (by kernel_rfl) rfl rfl (by kernel_rfl) (fun c => @pg_name _ _ 0 _ (show (["alike", "things"] : List Str).Nodup by decide +kernel) rfl (by walk_at "e") (by walk_at "i")) (go_name (by decide)) (fun c => @pts_nil _) (fun c => (@pe_call _ _ _ _ _ _ _ _ _ _ _ _ _ _ _ _ G_within hr_within rfl T.m_within T.F_within.kp T.b_within .nil pass0 (@pa_cons _ _ _ _ _ (@vw _ 1 _ _ (by walk_at "v")) (@pa1 _ _ _ (@vw _ 0 _ _ (by walk_at "v")) (by rfl)) (by rfl)) (by decide) (by rfl) (by rfl))) (by intro _; rfl)) (by rfl)) (by decide) (by decide) (by rfl) (by rfl)))), ?_⟩
  refine ⟨dx, _, _, h1, lk3 _ _ _ _, .inl ⟨⟨_, .of h4⟩, ?_⟩⟩
  refine comp_list (xs := iL as) (fun k zs H' => Same H H' /\ zs = ((as.take k).map fun a => decide (S &&& a = S)).map V.bl) ⟨Same.refl _, rfl⟩ (fun k zs H' _ ⟨s, _⟩ => s.sqL (.of h4)) (fun k zs H' hk ⟨_, e⟩ => by
    rw [iL_len] at hk
    rw [e, List.length_map, List.length_map, List.length_take]; exact small1000 (by omega)) ?_ ?_
  . rintro k x zs H' hx ⟨s1, rfl⟩
    obtain ⟨a, ha, _, rfl⟩ := iL_at hx
    refine ⟨S, a, rfl, rfl, s1, ?_⟩
    rw [List.take_add_one, ha, List.map_append, List.map_append]
    rfl
  . rintro zs H' ⟨s1, rfl⟩ l hl
    rw [iL_len, List.take_length]
    refine ⟨_, .of upd_same, q _ _ ?_ (s1.trans (Same.upd hl))⟩
    rw [List.any_map]
    exact h7 S hS
def sp_left (K : W.Frag) (C : Addr) : Sp := fun vs H Q _ => match vs with
  | [.ref p, .int z, .int i, .bl ans] => ∃ ls ys d S j y, RkAt K C ls ys H p d /\ z = (S : Nat) /\ i = (j : Nat) /\ ys[j]? = some y /\ Q (.int ((if ans = true then S &&& y else S - (S &&& y) : Nat) : Int)) H
  | _ => False
theorem iL_get {ys : List Nat} {j y : Nat} (h : ys[j]? = some y) : atI (iL ys) ((j : Nat) : Int) = some (.int (y : Nat)) := atI_of rfl (by unfold iL; rw [List.getElem?_map, h]; rfl)
theorem ok_Reckoner_o_left_of : FnOk P w K mg base CX0 1 T.f_Reckoner_o_left_of T.d_Reckoner_o_left_of ["self", "things", "question", "answer"] (sp_left K T.C_Reckoner) := by
  refine T.F_Reckoner_o_left_of.ok sc_Reckoner_o_left_of (fun vs H Q E h => by unfold sp_left at h; split at h <;> first | rfl | exact h.elim) (fun cdv A outer s H vs Q E hr h => ?_)
  have hu := hu60 hr
  match vs, h with
  | [.ref p, .int z, .int i, .bl ans], ⟨ls, ys, d, S, j, y, R, e1, e2, hj, q⟩ =>
  subst e1 e2
  obtain ⟨dx, tl, yl, al, as, kvs, h1, h2, h3, h4, h5, h6, h7, h8⟩ := R.at_
  refine ⟨_, (@pss_cons _ _ _ _ _ (@ps_set _ _ 4 _ _ _ _ sc_Reckoner_o_left_of.nd rfl (by walk_at "e") (@pe_op _ _ _ _ _ _ _ _ om_and (@vw _ 1 _ _ (by walk_at "v")) (@kIx _ K _ _ _ _ _ (@kFld _ _ _ _ _ _ _ T.cl_Reckoner T.na_Reckoner_yeses (@vw _ 0 _ _ (by walk_at "v")) (by rfl) (by rfl)) (@vw _ 2 _ _ (by walk_at "v")) (by intro _ _; rfl) (by rfl))) (by rfl) (by walk_at "i")) (@pss_one _ _ _ (@ps_ret _ _ _ _ (@pe_ifExp _ _ _ _ _ _ _ _ (@tu_val _ _ _ (@vw _ 3 _ _ (by walk_at "v")) (by intro _; rfl)) (@vw _ 4 _ _ (by walk_at "v")) (@pe_op _ _ _ _ _ _ _ _ om_sub (@vw _ 1 _ _ (by walk_at "v")) (@vw _ 4 _ _ (by walk_at "v"))))))), ?_⟩
  refine ⟨dx, _, _, h1, lk2 _ _ _ _, _, .int (y : Nat), .inl (.of h3), iL_get hj, ?_⟩
  dsimp only [gName, mBit]
  rw [bitAnd_nat]
  cases ans with
  | true => exact q
  | false =>
    have e : ((S : Int) - ((S &&& y : Nat) : Int)) = ((S - (S &&& y) : Nat) : Int) := by
      have := Nat.and_le_left (n := S) (m := y)
      omega
    show Q (.int ((S : Int) - ((S &&& y : Nat) : Int))) H
    rw [e]
    exact q
def parF (S y : Nat) : Bool := decide (0 < S &&& y) && decide (S &&& y < S)
def parL (S : Nat) (ys : List Nat) (n : Nat) : List Nat := (List.range n).filter fun i => parF S (ys.getD i 0)
theorem parL_succ (S : Nat) (ys : List Nat) (n : Nat) : parL S ys (n + 1) = parL S ys n ++ (if parF S (ys.getD n 0) = true then [n] else []) := by
  unfold parL
  rw [List.range_succ, List.filter_append]
  cases h : parF S (ys.getD n 0) <;> simp only [List.filter_cons, List.filter_nil, h] <;> rfl
theorem parL_len (S : Nat) (ys : List Nat) (n : Nat) : (parL S ys n).length <= n := by
  have := List.length_filter_le (fun i => parF S (ys.getD i 0)) (List.range n)
  rw [List.length_range] at this
  exact this
theorem parF_ok (S y : Nat) : parF S y = true ↔ Parts S.testBit y.testBit := by
  unfold parF Parts
  rw [Bool.and_eq_true, decide_eq_true_eq, decide_eq_true_eq]
  have h1 : 0 < S &&& y ↔ ∃ k, S.testBit k = true /\ y.testBit k = true := by
    constructor
    . intro h
      obtain ⟨k, hk⟩ := Nat.exists_testBit_of_ne_zero (Nat.pos_iff_ne_zero.mp h)
      rw [Nat.testBit_and, Bool.and_eq_true] at hk
      exact ⟨k, hk⟩
    . rintro ⟨k, a, b⟩
      rcases Nat.eq_zero_or_pos (S &&& y) with z | z
      . have : (S &&& y).testBit k = true := by rw [Nat.testBit_and, a, b]; rfl
        rw [z] at this
        simp at this
      . exact z
  have h2 : S &&& y < S ↔ ∃ k, S.testBit k = true /\ y.testBit k = false := by
    have hle := Nat.and_le_left (n := S) (m := y)
    constructor
    . intro h
      obtain ⟨k, hk⟩ := Nat.exists_testBit_of_ne_zero (show S - (S &&& y) ≠ 0 by omega)
      rw [sub_and, Bool.and_eq_true] at hk
      exact ⟨k, hk.1, by simpa using hk.2⟩
    . rintro ⟨k, a, b⟩
      rcases Nat.lt_or_ge (S &&& y) S with z | z
      . exact z
      . have e : S &&& y = S := by omega
        have : (S &&& y).testBit k = true := by rw [e]; exact a
        rw [Nat.testBit_and, b] at this
        simp at this
  rw [h1, h2]
def sp_part (K : W.Frag) (C : Addr) : Sp := fun vs H Q _ => match vs with
  | [.ref p, .int z] => ∃ ls ys d S, RkAt K C ls ys H p d /\ z = (S : Nat) /\ newL H Q (iL (parL S ys ys.length))
  | _ => False
theorem ok_Reckoner_o_parting : FnOk P w K mg base CX0 1 T.f_Reckoner_o_parting T.d_Reckoner_o_parting ["self", "things"] (sp_part K T.C_Reckoner) := by
  refine T.F_Reckoner_o_parting.ok sc_Reckoner_o_parting (fun vs H Q E h => by unfold sp_part at h; split at h <;> first | rfl | exact h.elim) (fun cdv A outer s H vs Q E hr h => ?_)
  have hu := hu60 hr
  unfold sp_part at h
  split at h
  rotate_left
  . exact h.elim
  rename_i p z
  obtain ⟨ls, ys, d, S, R, e1, q⟩ := h
  subst e1
  obtain ⟨dx, tl, yl, al, as, kvs, h1, h2, h3, h4, h5, h6, h7, h8⟩ := R.at_
  have y16 := R.y16
  refine ⟨_, (@pss_one _ _ _ (@ps_ret _ _ _ _ (@pe_compB _ _ _ _ _ _ _ (["question", "yes", "things"]) 2 [1] _ _ _ _ rfl (@kEnum _ K _ _ _ _ _ _ _ rfl T.z_enumerate (@pa1 _ _ _ (@kFld _ _ _ _ _ _ _ T.cl_Reckoner T.na_Reckoner_yeses (@vw _ 0 _ _ (by walk_at "v")) (by rfl) (by rfl)) (by rfl)) (by rfl) (by rfl)) (by kernel_rfl) rfl rfl (by kernel_rfl) (fun c => @kTup _ K _ _ _ _ 2 rfl (@pgs_cons _ _ _ _ _ (@pg_name _ _ 0 _ (show (["question", "yes", "things"] : List Str).Nodup by decide +kernel) rfl (by walk_at "e") (by walk_at "i")) (@pgs_cons _ _ _ _ _ (@pg_name _ _ 1 _ (show (["question", "yes", "things"] : List Str).Nodup by decide +kernel) rfl (by walk_at "e") (by walk_at "i")) (@pgs_nil _) (by rfl)) (by rfl)) (by rfl) (by rfl) (by rfl)) (go_tup (gos_cons gm_name (gms_cons gm_name gms_nil) (go_name (by decide)) (gos_cons gm_name gms_nil (go_name (by decide)) gos_nil))) (fun c => @pts_one _ _ _ (@tu_chain _ _ _ _ _ _ _ _ _ _ _ _ om_lt om_lt (@pe_int _ _ _ _) (@pe_op _ _ _ _ _ _ _ _ om_and (@vw _ 2 _ _ (by walk_at "v")) (@vw _ 1 _ _ (by walk_at "v"))) (@vw _ 2 _ _ (by walk_at "v")) (by with_unfolding_all rfl))) (fun c => (@vw _ 0 _ _ (by walk_at "v"))) (by intro _; rfl)))), ?_⟩
  refine ⟨dx, _, _, h1, lk2 _ _ _ _, ⟨_, .of h3⟩, ?_⟩
  refine comp_enum (xs := iL ys) (fun i zs H' => Same H H' /\ zs = iL (parL S ys i)) ⟨Same.refl _, rfl⟩ (fun i zs H' _ ⟨s, _⟩ => s.sqL (.of h3)) (fun i zs H' hi ⟨_, e⟩ => by
    rw [iL_len] at hi
    have := parL_len S ys i
    rw [e, iL_len]; exact small1000 (by omega)) ?_ ?_
  . rintro i x zs H2 pp hx ⟨s2, rfl⟩ hpp
    obtain ⟨y, hy, _, rfl⟩ := iL_at hx
    refine ⟨pp, _, rfl, .of upd_same, rfl, _, _, rfl, _, _, rfl, rfl, ?_⟩
    have eg : ys.getD i 0 = y := by rw [List.getD_eq_getElem?_getD, hy]; rfl
    rw [parL_succ, iL_app, eg]
    have s3 := s2.trans (Same.upd (o := .tup [.int (i : Nat), .int (y : Nat)]) hpp)
    have eb : Builtin.bitAnd (S : Int) (y : Int) = ((S &&& y : Nat) : Int) := bitAnd_nat ..
    refine ite2 (fun e => ?_) (fun e => ?_)
    . rw [eb] at e
      have e' : 0 < S &&& y := by have := of_decide_eq_true e; omega
      refine ite2 (fun f => ?_) (fun f => ?_)
      . rw [eb] at f
        have f' : S &&& y < S := by have := of_decide_eq_true f; omega
        rw [if_pos (show parF S y = true by unfold parF; rw [decide_eq_true e', decide_eq_true f']; rfl)]
        exact ⟨s3, rfl⟩
      . rw [eb] at f
        have f' : ¬ S &&& y < S := fun q => f (decide_eq_true (by omega))
        rw [if_neg (show ¬ parF S y = true by unfold parF; rw [decide_eq_false f', Bool.and_false]; simp)]
        exact ⟨s3, by show _ = _ ++ []; rw [List.append_nil]⟩
    . rw [eb] at e
      have e' : ¬ 0 < S &&& y := fun q => e (decide_eq_true (by omega))
      rw [if_neg (show ¬ parF S y = true by unfold parF; rw [decide_eq_false e', Bool.false_and]; simp)]
      exact ⟨s3, by show _ = _ ++ []; rw [List.append_nil]⟩
  . rintro zs H2 ⟨s2, rfl⟩ l hl
    rw [iL_len]
    exact q l _ (s2.free hl) (s2.trans (Same.upd hl)) upd_same
def sp_few (K : W.Frag) (C : Addr) (c : Nat) : Sp := fun vs H Q _ => match vs with
  | [.ref p, .int z] => ∃ ls ys d S, RkAt K C ls ys H p d /\ z = (S : Nat) /\ S < 2 ^ ls.length /\ (∃ n, Can (labF ls) (rowF ys) n S.testBit) /\ card ls.length S.testBit < c /\ ∀ (m : Nat) H', IsFew (labF ls) (rowF ys) S.testBit m -> RkAt K C ls ys H' p d -> Frm d H H' -> Q (.int (m : Nat)) H'
  | _ => False
theorem sp_few_mono {C : Addr} {c : Nat} : SpMono (sp_few K C c) := fun vs H Q Q' E h q => by
  unfold sp_few at *
  split at q
  . revert q; repeat' first | exact h _ _ | exact newL_mono h | exact out_mono h | exact outT_mono h | walk_at "m"
  . exact q.elim
def sp_hard (K : W.Frag) (C : Addr) (c : Nat) : Sp := fun vs H Q _ => match vs with
  | [.ref p, .int z, .int i] => ∃ ls ys d S j y, RkAt K C ls ys H p d /\ z = (S : Nat) /\ S < 2 ^ ls.length /\ (∃ n, Can (labF ls) (rowF ys) n S.testBit) /\ i = (j : Nat) /\ ys[j]? = some y /\ Parts S.testBit y.testBit /\ card ls.length S.testBit < c + 1 /\
    ∀ (b e X : Nat) H', IsFew (labF ls) (rowF ys) (S &&& y).testBit b -> IsFew (labF ls) (rowF ys) (S - (S &&& y)).testBit e -> (X = S &&& y /\ e < b \/ X = S - (S &&& y) /\ b <= e) -> RkAt K C ls ys H' p d -> Frm d H H' -> Q (.int (X : Nat)) H'
  | _ => False
def sp_worst (K : W.Frag) (C : Addr) (c : Nat) : Sp := fun vs H Q _ => match vs with
  | [.ref p, .int z, .int i] => ∃ ls ys d S j y, RkAt K C ls ys H p d /\ z = (S : Nat) /\ S < 2 ^ ls.length /\ (∃ n, Can (labF ls) (rowF ys) n S.testBit) /\ i = (j : Nat) /\ ys[j]? = some y /\ Parts S.testBit y.testBit /\ card ls.length S.testBit < c + 1 /\
    ∀ (b e : Nat) H', IsFew (labF ls) (rowF ys) (S &&& y).testBit b -> IsFew (labF ls) (rowF ys) (S - (S &&& y)).testBit e -> RkAt K C ls ys H' p d -> Frm d H H' -> Q (.int (max b e : Nat)) H'
  | _ => False
theorem sides {ls : List Int} {ys : List Nat} {S y n c : Nat} (hS : S < 2 ^ ls.length) (hc : Can (labF ls) (rowF ys) n S.testBit) (hp : Parts S.testBit y.testBit) (hk : card ls.length S.testBit < c + 1) :
    (S &&& y < 2 ^ ls.length /\ Can (labF ls) (rowF ys) n (S &&& y).testBit /\ card ls.length (S &&& y).testBit < c) /\ S - (S &&& y) < 2 ^ ls.length /\ Can (labF ls) (rowF ys) n (S - (S &&& y)).testBit /\ card ls.length (S - (S &&& y)).testBit < c := by
  obtain ⟨c1, c2⟩ := card_parts (fun k hk => tb_lt hS hk) hp
  have hle := Nat.and_le_left (n := S) (m := y)
  rw [tb_and, tb_sub]
  exact ⟨⟨by omega, can_sub (fun k z => by simp only [Bool.and_eq_true] at z; exact z.1) hc, by omega⟩, by omega, can_sub (fun k z => by simp only [Bool.and_eq_true] at z; exact z.1) hc, by omega⟩
theorem hard_at (c : Nat) (G_Reckoner_o_fewest_among : FnOk P w K mg base CX0 (4 * c + 4) T.f_Reckoner_o_fewest_among T.d_Reckoner_o_fewest_among ["self", "things"] (sp_few K T.C_Reckoner c)) :
    FnOk P w K mg base CX0 (4 * c + 5) T.f_Reckoner_o_harder_left T.d_Reckoner_o_harder_left ["self", "things", "question"] (sp_hard K T.C_Reckoner c) := by
  have G_Reckoner_o_left_of := ok_Reckoner_o_left_of (P := P) (w := w) (base := base) T
  refine T.F_Reckoner_o_harder_left.ok sc_Reckoner_o_harder_left (fun vs H Q E h => by unfold sp_hard at h; split at h <;> first | rfl | exact h.elim) (fun cdv A outer s H vs Q E hr h => ?_)
  have hu := hu60 hr
  have hr_Reckoner_o_left_of := hr.mono (show 1 <= 4 * c + 4 by omega)
  have hr_Reckoner_o_fewest_among := hr
  unfold sp_hard at h
  split at h
  rotate_left
  . exact h.elim
  rename_i p z i
  obtain ⟨ls, ys, d, S, j, y, R, e1, hS, ⟨n, hc⟩, e2, hj, hp, hk, q⟩ := h
  subst e1 e2
  obtain ⟨⟨a1, a2, a3⟩, b1, b2, b3⟩ := sides hS hc hp hk
  obtain ⟨dx, tl, yl, al, as, kvs, h1, _⟩ := id R.at_
  refine ⟨_, (@pss_cons _ _ _ _ _ (@ps_set _ _ 3 _ _ _ _ sc_Reckoner_o_harder_left.nd rfl (by walk_at "e") (@pe_meth _ _ _ _ _ _ _ _ _ _ _ _ _ _ _ _ _ _ _ _ (@vw _ 0 _ _ (by walk_at "v")) T.cl_Reckoner T.me_Reckoner_o_left_of G_Reckoner_o_left_of hr_Reckoner_o_left_of T.b_Reckoner_o_left_of .nil pass0 (@pa_cons _ _ _ _ _ (@vw _ 1 _ _ (by walk_at "v")) (@pa_cons _ _ _ _ _ (@vw _ 2 _ _ (by walk_at "v")) (@pa1 _ _ _ (@pe_bl _ _ _ _) (by rfl)) (by rfl)) (by rfl)) (by rfl) (by rfl) (by rfl)) (by rfl) (by walk_at "i")) (@pss_cons _ _ _ _ _ (@ps_set _ _ 4 _ _ _ _ sc_Reckoner_o_harder_left.nd rfl (by walk_at "e") (@pe_meth _ _ _ _ _ _ _ _ _ _ _ _ _ _ _ _ _ _ _ _ (@vw _ 0 _ _ (by walk_at "v")) T.cl_Reckoner T.me_Reckoner_o_left_of G_Reckoner_o_left_of hr_Reckoner_o_left_of T.b_Reckoner_o_left_of .nil pass0 (@pa_cons _ _ _ _ _ (@vw _ 1 _ _ (by walk_at "v")) (@pa_cons _ _ _ _ _ (@vw _ 2 _ _ (by walk_at "v")) (@pa1 _ _ _ (@pe_bl _ _ _ _) (by rfl)) (by rfl)) (by rfl)) (by rfl) (by rfl) (by rfl)) (by rfl) (by walk_at "i")) (@pss_one _ _ _ (@ps_ret _ _ _ _ (@pe_ifExp _ _ _ _ _ _ _ _ (@tu_cmp _ _ _ _ _ _ _ _ om_gt (@pe_meth _ _ _ _ _ _ _ _ _ _ _ _ _ _ _ _ _ _ _ _ (@vw _ 0 _ _ (by walk_at "v")) T.cl_Reckoner T.me_Reckoner_o_fewest_among G_Reckoner_o_fewest_among hr_Reckoner_o_fewest_among T.b_Reckoner_o_fewest_among .nil pass0 (@pa1 _ _ _ (@vw _ 4 _ _ (by walk_at "v")) (by rfl)) (by rfl) (by rfl) (by rfl)) (@pe_meth _ _ _ _ _ _ _ _ _ _ _ _ _ _ _ _ _ _ _ _ (@vw _ 0 _ _ (by walk_at "v")) T.cl_Reckoner T.me_Reckoner_o_fewest_among G_Reckoner_o_fewest_among hr_Reckoner_o_fewest_among T.b_Reckoner_o_fewest_among .nil pass0 (@pa1 _ _ _ (@vw _ 3 _ _ (by walk_at "v")) (by rfl)) (by rfl) (by rfl) (by rfl)) (by walk_at "n")) (@vw _ 4 _ _ (by walk_at "v")) (@vw _ 3 _ _ (by walk_at "v"))))))), ?_⟩
  refine ⟨p, dx, _, rfl, h1, ln7 _ _ _ _, ls, ys, d, S, j, y, R, rfl, rfl, hj, ?_⟩
  dsimp only [gName]
  refine ⟨p, dx, _, rfl, h1, ln7 _ _ _ _, ls, ys, d, S, j, y, R, rfl, rfl, hj, ?_⟩
  dsimp only [gName]
  refine ⟨p, dx, _, rfl, h1, ln1 _ _ _ _, ls, ys, d, S &&& y, R, rfl, a1, ⟨n, a2⟩, a3, fun b H1 f1 R1 fr1 => ?_⟩
  obtain ⟨dx1, tl1, yl1, al1, as1, kvs1, k1, _⟩ := id R1.at_
  refine ⟨p, dx1, _, rfl, k1, ln1 _ _ _ _, ls, ys, d, S - (S &&& y), R1, rfl, b1, ⟨n, b2⟩, b3, fun e H2 f2 R2 fr2 => ?_⟩
  refine ite2 (fun x => ?_) (fun x => ?_)
  . have x' : e < b := by have := of_decide_eq_true x; omega
    exact q b e _ H2 f1 f2 (.inl ⟨rfl, x'⟩) R2 (fr1.trans fr2)
  . have x' : ¬ e < b := fun w => x (decide_eq_true (by omega))
    exact q b e _ H2 f1 f2 (.inr ⟨rfl, by omega⟩) R2 (fr1.trans fr2)
theorem worst_at (c : Nat) (G_Reckoner_o_fewest_among : FnOk P w K mg base CX0 (4 * c + 4) T.f_Reckoner_o_fewest_among T.d_Reckoner_o_fewest_among ["self", "things"] (sp_few K T.C_Reckoner c)) :
    FnOk P w K mg base CX0 (4 * c + 6) T.f_Reckoner_o_worst_behind T.d_Reckoner_o_worst_behind ["self", "things", "question"] (sp_worst K T.C_Reckoner c) := by
  have G_Reckoner_o_harder_left := hard_at T c G_Reckoner_o_fewest_among
  refine T.F_Reckoner_o_worst_behind.ok sc_Reckoner_o_worst_behind (fun vs H Q E h => by unfold sp_worst at h; split at h <;> first | rfl | exact h.elim) (fun cdv A outer s H vs Q E hr h => ?_)
  have hu := hu60 hr
  have hr_Reckoner_o_fewest_among := hr.mono (show 4 * c + 4 <= 4 * c + 5 by omega)
  have hr_Reckoner_o_harder_left := hr
  unfold sp_worst at h
  split at h
  rotate_left
  . exact h.elim
  rename_i p z i
  obtain ⟨ls, ys, d, S, j, y, R, e1, hS, ⟨n, hc⟩, e2, hj, hp, hk, q⟩ := h
  subst e1 e2
  obtain ⟨⟨a1, a2, a3⟩, b1, b2, b3⟩ := sides hS hc hp hk
  obtain ⟨dx, tl, yl, al, as, kvs, h1, _⟩ := id R.at_
  refine ⟨_, (@pss_one _ _ _ (@ps_ret _ _ _ _ (@pe_meth _ _ _ _ _ _ _ _ _ _ _ _ _ _ _ _ _ _ _ _ (@vw _ 0 _ _ (by walk_at "v")) T.cl_Reckoner T.me_Reckoner_o_fewest_among G_Reckoner_o_fewest_among hr_Reckoner_o_fewest_among T.b_Reckoner_o_fewest_among .nil pass0 (@pa1 _ _ _ (@pe_meth _ _ _ _ _ _ _ _ _ _ _ _ _ _ _ _ _ _ _ _ (@vw _ 0 _ _ (by walk_at "v")) T.cl_Reckoner T.me_Reckoner_o_harder_left G_Reckoner_o_harder_left hr_Reckoner_o_harder_left T.b_Reckoner_o_harder_left .nil pass0 (@pa_cons _ _ _ _ _ (@vw _ 1 _ _ (by walk_at "v")) (@pa1 _ _ _ (@vw _ 2 _ _ (by walk_at "v")) (by rfl)) (by rfl)) (by rfl) (by rfl) (by rfl)) (by rfl)) (by rfl) (by rfl) (by rfl)))), ?_⟩
  refine ⟨p, dx, _, rfl, h1, ln1 _ _ _ _, p, dx, _, rfl, h1, ln6 _ _ _ _, ls, ys, d, S, j, y, R, rfl, hS, ⟨n, hc⟩, rfl, hj, hp, hk, fun b e X H1 f1 f2 hX R1 fr1 => ?_⟩
  have X1 : X < 2 ^ ls.length /\ (∃ n, Can (labF ls) (rowF ys) n X.testBit) /\ card ls.length X.testBit < c /\ ∀ m, IsFew (labF ls) (rowF ys) X.testBit m -> m = max b e := by
    rcases hX with ⟨rfl, x⟩ | ⟨rfl, x⟩
    . exact ⟨a1, ⟨n, a2⟩, a3, fun m hm => by rw [few_eq hm f1]; omega⟩
    . exact ⟨b1, ⟨n, b2⟩, b3, fun m hm => by rw [few_eq hm f2]; omega⟩
  obtain ⟨x1, x2, x3, x4⟩ := X1
  refine ⟨ls, ys, d, X, R1, rfl, x1, x2, x3, fun m H2 hm R2 fr2 => ?_⟩
  rw [x4 m hm]
  exact q b e H2 f1 f2 R2 (fr1.trans fr2)
def WorstOk (ls : List Int) (ys : List Nat) (S : Nat) (qs ms : List Nat) : Prop := ms.length = qs.length /\ ∀ (t i : Nat), qs[t]? = some i -> ∃ b e, IsFew (labF ls) (rowF ys) (S &&& ys.getD i 0).testBit b /\ IsFew (labF ls) (rowF ys) (S - (S &&& ys.getD i 0)).testBit e /\ ms[t]? = some (max b e)
theorem worst_snoc {ls : List Int} {ys qs ms : List Nat} {S i b e : Nat} (h : WorstOk ls ys S qs ms) (f1 : IsFew (labF ls) (rowF ys) (S &&& ys.getD i 0).testBit b) (f2 : IsFew (labF ls) (rowF ys) (S - (S &&& ys.getD i 0)).testBit e) : WorstOk ls ys S (qs ++ [i]) (ms ++ [max b e]) := by
  refine ⟨by rw [List.length_append, List.length_append, h.1]; rfl, fun t i' ht => ?_⟩
  rcases Nat.lt_trichotomy t qs.length with z | z | z
  . rw [List.getElem?_append_left z] at ht
    obtain ⟨b', e', g1, g2, g3⟩ := h.2 t i' ht
    exact ⟨b', e', g1, g2, by rw [List.getElem?_append_left (by rw [h.1]; exact z)]; exact g3⟩
  . subst z
    rw [List.getElem?_append_right (Nat.le_refl _), Nat.sub_self] at ht
    cases ht
    exact ⟨b, e, f1, f2, by rw [<- h.1, List.getElem?_append_right (Nat.le_refl _), Nat.sub_self]; rfl⟩
  . rw [List.getElem?_append_right (Nat.le_of_lt z)] at ht
    rw [List.getElem?_eq_none (by simp; omega)] at ht
    cases ht
theorem par_mem {S i : Nat} {ys : List Nat} (h : i ∈ parL S ys ys.length) : ys[i]? = some (ys.getD i 0) /\ Parts S.testBit (ys.getD i 0).testBit := by
  obtain ⟨h1, h2⟩ := List.mem_filter.mp h
  have h1 := List.mem_range.mp h1
  refine ⟨?_, (parF_ok _ _).mp h2⟩
  rw [List.getD_eq_getElem?_getD, List.getElem?_eq_getElem h1]; rfl
theorem few_min {ls : List Int} {ys ms : List Nat} {S M : Nat} (ho : ¬ One (labF ls) S.testBit) (h : WorstOk ls ys S (parL S ys ys.length) ms) (h1 : M ∈ ms) (h2 : ∀ a ∈ ms, M <= a) : IsFew (labF ls) (rowF ys) S.testBit (1 + M) := by
  refine few_step ho ?_ ?_
  . obtain ⟨t, ht, et⟩ := List.getElem_of_mem h1
    have ht' : t < (parL S ys ys.length).length := by rw [<- h.1]; exact ht
    obtain ⟨b, e, g1, g2, g3⟩ := h.2 t _ (List.getElem?_eq_getElem ht')
    obtain ⟨y1, y2⟩ := par_mem (List.getElem_mem ht')
    rw [tb_and] at g1
    rw [tb_sub] at g2
    refine ⟨_, List.mem_map.mpr ⟨_, List.mem_of_getElem? y1, rfl⟩, y2, b, e, g1, g2, ?_⟩
    rw [List.getElem?_eq_getElem ht, et] at g3
    exact Option.some.inj g3
  . intro f hf hp
    obtain ⟨y, hy, rfl⟩ := List.mem_map.mp hf
    obtain ⟨i, hi, ei⟩ := List.getElem_of_mem hy
    have eg : ys.getD i 0 = y := by rw [List.getD_eq_getElem?_getD, List.getElem?_eq_getElem hi, ei]; rfl
    have him : i ∈ parL S ys ys.length := List.mem_filter.mpr ⟨List.mem_range.mpr hi, (parF_ok _ _).mpr (by rw [eg]; exact hp)⟩
    obtain ⟨t, ht, et⟩ := List.getElem_of_mem him
    obtain ⟨b, e, g1, g2, g3⟩ := h.2 t i (by rw [List.getElem?_eq_getElem ht, et])
    rw [tb_and, eg] at g1
    rw [tb_sub, eg] at g2
    exact ⟨b, e, g1, g2, h2 _ (List.mem_of_getElem? g3)⟩
theorem par_some {ls : List Int} {ys : List Nat} {S n : Nat} (ho : ¬ One (labF ls) S.testBit) (hc : Can (labF ls) (rowF ys) n S.testBit) : 0 < (parL S ys ys.length).length := by
  obtain ⟨f, hf, hp⟩ := parts_some ho hc
  obtain ⟨y, hy, rfl⟩ := List.mem_map.mp hf
  obtain ⟨i, hi, ei⟩ := List.getElem_of_mem hy
  have eg : ys.getD i 0 = y := by rw [List.getD_eq_getElem?_getD, List.getElem?_eq_getElem hi, ei]; rfl
  exact List.length_pos_of_mem (List.mem_filter.mpr ⟨List.mem_range.mpr hi, (parF_ok _ _).mpr (by rw [eg]; exact hp)⟩)
theorem reck_at (c : Nat) (G_Reckoner_o_fewest_among : FnOk P w K mg base CX0 (4 * c + 4) T.f_Reckoner_o_fewest_among T.d_Reckoner_o_fewest_among ["self", "things"] (sp_few K T.C_Reckoner c)) :
    FnOk P w K mg base CX0 (4 * c + 7) T.f_Reckoner_o_fewest_reckoned T.d_Reckoner_o_fewest_reckoned ["self", "things"] (sp_few K T.C_Reckoner (c + 1)) := by
  have G_Reckoner_o_worst_behind := worst_at T c G_Reckoner_o_fewest_among
  have G_Reckoner_o_has_one_label := ok_Reckoner_o_has_one_label (P := P) (w := w) (base := base) T
  have G_Reckoner_o_parting := ok_Reckoner_o_parting (P := P) (w := w) (base := base) T
  refine T.F_Reckoner_o_fewest_reckoned.ok sc_Reckoner_o_fewest_reckoned (fun vs H Q E h => by unfold sp_few at h; split at h <;> first | rfl | exact h.elim) (fun cdv A outer s H vs Q E hr h => ?_)
  have hu := hu60 hr
  have hr_Reckoner_o_worst_behind := hr
  have hr_Reckoner_o_has_one_label := hr.mono (show 2 <= 4 * c + 6 by omega)
  have hr_Reckoner_o_parting := hr.mono (show 1 <= 4 * c + 6 by omega)
  unfold sp_few at h
  split at h
  rotate_left
  . exact h.elim
  rename_i p z
  obtain ⟨ls, ys, d, S, R, e1, hS, ⟨n, hc⟩, hk, q⟩ := h
  subst e1
  obtain ⟨dx, tl, yl, al, as, kvs, h1, _, _, _, hd, _⟩ := id R.at_
  have l16 := R.l16
  have y16 := R.y16
  refine ⟨_, (@pss_cons _ _ _ _ _ (@ps_if _ _ _ _ _ _ _ _ (@tu_val _ _ _ (@pe_meth _ _ _ _ _ _ _ _ _ _ _ _ _ _ _ _ _ _ _ _ (@vw _ 0 _ _ (by walk_at "v")) T.cl_Reckoner T.me_Reckoner_o_has_one_label G_Reckoner_o_has_one_label hr_Reckoner_o_has_one_label T.b_Reckoner_o_has_one_label .nil pass0 (@pa1 _ _ _ (@vw _ 1 _ _ (by walk_at "v")) (by rfl)) (by rfl) (by rfl) (by rfl)) (by intro _; rfl)) (@pss_one _ _ _ (@ps_ret _ _ _ _ (@pe_int _ _ _ _))) (@pss_nil _)) (@pss_one _ _ _ (@ps_ret _ _ _ _ (@pe_op _ _ _ _ _ _ _ _ (kAdd (K := K)) (@pe_int _ _ _ _) (@pe_callB _ _ _ _ _ _ _ _ _ (kMinL (K := K) rfl) rfl T.z_min (by rfl) (@pa1 _ _ _ (@pe_compB _ _ _ _ _ _ _ (["question", "self", "things"]) 1 ([0, 1]) _ _ _ _ rfl (@kSeq _ K _ _ _ (@pe_meth _ _ _ _ _ _ _ _ _ _ _ _ _ _ _ _ _ _ _ _ (@vw _ 0 _ _ (by walk_at "v")) T.cl_Reckoner T.me_Reckoner_o_parting G_Reckoner_o_parting hr_Reckoner_o_parting T.b_Reckoner_o_parting .nil pass0 (@pa1 _ _ _ (@vw _ 1 _ _ (by walk_at "v")) (by rfl)) (by rfl) (by rfl) (by rfl)) (by rfl)) (by kernel_rfl) rfl rfl (by kernel_rfl) (fun c => @pg_name _ _ 0 _ (show (["question", "self", "things"] : List Str).Nodup by decide +kernel) rfl (by walk_at "e") (by walk_at "i")) (go_name (by decide)) (fun c => @pts_nil _) (fun c => (@pe_meth _ _ _ _ _ _ _ _ _ _ _ _ _ _ _ _ _ _ _ _ (@vw _ 1 _ _ (by walk_at "v")) T.cl_Reckoner T.me_Reckoner_o_worst_behind G_Reckoner_o_worst_behind hr_Reckoner_o_worst_behind T.b_Reckoner_o_worst_behind .nil pass0 (@pa_cons _ _ _ _ _ (@vw _ 2 _ _ (by walk_at "v")) (@pa1 _ _ _ (@vw _ 0 _ _ (by walk_at "v")) (by rfl)) (by rfl)) (by rfl) (by rfl) (by rfl))) (by intro _; rfl)) (by rfl)) (by decide) (by decide) (by rfl) (by rfl)))))), ?_⟩
  refine ⟨p, dx, _, rfl, h1, ln3 _ _ _ _, ls, ys, d, S, R, rfl, hS, fun b H1 hb s1 => ?_⟩
  have R1 := R.same s1
  have hd1 := s1 _ _ hd
  cases b with
  | true => exact q 0 H1 ⟨hb.mp rfl, fun _ _ => Nat.zero_le _⟩ R1 (same_frm' s1)
  | false =>
    have ho : ¬ One (labF ls) S.testBit := fun o => nomatch hb.mpr o
    refine ⟨p, dx, _, rfl, s1 _ _ h1, ln5 _ _ _ _, ls, ys, d, S, R1, rfl, fun l H2 hl s2 g2 => .inl ⟨⟨_, .of g2⟩, ?_⟩⟩
    have R2 := R1.same s2
    have hd2 := s2 _ _ hd1
    have hld : l ≠ d := ne_of g2 hd2 (by intro z; cases z)
    have hlen := parL_len S ys ys.length
    refine comp_list (xs := iL (parL S ys ys.length)) (fun k zs H' => RkAt K T.C_Reckoner ls ys H' p d /\ Frm d H2 H' /\ ∃ ms, zs = iL ms /\ WorstOk ls ys S ((parL S ys ys.length).take k) ms) ⟨R2, Frm.refl, [], rfl, rfl, fun t i ht => by simp at ht⟩ (fun k zs H' _ ⟨_, f, _⟩ => .of (f _ _ hld g2)) (fun k zs H' hk' ⟨_, _, ms, e, hw⟩ => by
      rw [iL_len] at hk'
      rw [e, iL_len, hw.1, List.length_take]; exact small1000 (by omega)) ?_ ?_
    . rintro k x zs H' hx ⟨R', f', ms, rfl, hw⟩
      obtain ⟨i, hi, him, rfl⟩ := iL_at hx
      obtain ⟨y1, y2⟩ := par_mem him
      obtain ⟨dx', tl', yl', al', as', kvs', k1, _⟩ := id R'.at_
      refine ⟨p, dx', _, rfl, k1, ln4 _ _ _ _, ls, ys, d, S, i, _, R', rfl, hS, ⟨n, hc⟩, rfl, y1, y2, hk, fun b e H3 g1 g2' R3 f3 => ?_⟩
      refine ⟨R3, f'.trans f3, ms ++ [max b e], by rw [iL_app]; rfl, ?_⟩
      rw [List.take_add_one, hi]
      exact worst_snoc hw g1 g2'
    . rintro zs H' ⟨R', f', ms, rfl, hw⟩ l2 hl2
      rw [iL_len, List.take_length] at hw
      refine ⟨ms.map fun m => ((m : Nat) : Int), by rw [List.map_map]; exact .of upd_same, by rw [List.length_map, hw.1]; exact par_some ho hc, fun M hM hle => ?_⟩
      obtain ⟨M', hM', rfl⟩ := List.mem_map.mp hM
      have fm := few_min ho hw hM' (fun a ha => by have := hle _ (List.mem_map.mpr ⟨a, ha, rfl⟩); omega)
      have sl : Same H' (upd H' l2 (.lst (iL ms))) := Same.upd hl2
      have e : (1 : Int) + ((M' : Nat) : Int) = ((1 + M' : Nat) : Int) := by omega
      show Q (.int (1 + ((M' : Nat) : Int))) _
      rw [e]
      exact q (1 + M') _ fm (R'.same sl) ((same_frm' s1).trans ((same_frm' s2).trans (f'.trans (same_frm' sl))))
theorem among_at (c : Nat) (G_Reckoner_o_fewest_among : FnOk P w K mg base CX0 (4 * c + 4) T.f_Reckoner_o_fewest_among T.d_Reckoner_o_fewest_among ["self", "things"] (sp_few K T.C_Reckoner c)) :
    FnOk P w K mg base CX0 (4 * (c + 1) + 4) T.f_Reckoner_o_fewest_among T.d_Reckoner_o_fewest_among ["self", "things"] (sp_few K T.C_Reckoner (c + 1)) := by
  have G_Reckoner_o_fewest_reckoned := reck_at T c G_Reckoner_o_fewest_among
  refine T.F_Reckoner_o_fewest_among.ok sc_Reckoner_o_fewest_among (fun vs H Q E h => by unfold sp_few at h; split at h <;> first | rfl | exact h.elim) (fun cdv A outer s H vs Q E hr h => ?_)
  have hu := hu60 hr
  have hr_Reckoner_o_fewest_reckoned := hr.mono (show 4 * c + 7 <= 4 * (c + 1) + 3 by omega)
  unfold sp_few at h
  split at h
  rotate_left
  . exact h.elim
  rename_i p z
  obtain ⟨ls, ys, d, S, R, e1, hS, hc, hk, q⟩ := h
  subst e1
  obtain ⟨dx, tl, yl, al, as, kvs, h1, h2, h3, h4, hd, h6, h7, h8⟩ := id R.at_
  have mono1 : SpMono (sp_few K T.C_Reckoner (c + 1)) := sp_few_mono
  refine ⟨_, (@pss_cons _ _ _ _ _ (@ps_if _ _ _ _ _ _ _ _ (@tu_cmp _ _ _ _ _ _ _ _ (kDNot hu) (@vw _ 1 _ _ (by walk_at "v")) (@kFld _ _ _ _ _ _ _ T.cl_Reckoner T.na_Reckoner_known (@vw _ 0 _ _ (by walk_at "v")) (by rfl) (by rfl)) (by walk_at "n")) (@pss_one _ _ _ (@ps_dput _ _ _ _ _ _ _ _ _ (hu_one hu) (@kFld _ _ _ _ _ _ _ T.cl_Reckoner T.na_Reckoner_known (@vw _ 0 _ _ (by walk_at "v")) (by rfl) (by rfl)) (@vw _ 1 _ _ (by walk_at "v")) (@pe_meth _ _ _ _ _ _ _ _ _ _ _ _ _ _ _ _ _ _ _ _ (@vw _ 0 _ _ (by walk_at "v")) T.cl_Reckoner T.me_Reckoner_o_fewest_reckoned G_Reckoner_o_fewest_reckoned hr_Reckoner_o_fewest_reckoned T.b_Reckoner_o_fewest_reckoned .nil pass0 (@pa1 _ _ _ (@vw _ 1 _ _ (by walk_at "v")) (by rfl)) (by rfl) (by rfl) (by rfl)) (by rfl))) (@pss_nil _)) (@pss_one _ _ _ (@ps_ret _ _ _ _ (@pe_dget _ _ _ _ _ _ (hu_one hu) (@kFld _ _ _ _ _ _ _ T.cl_Reckoner T.na_Reckoner_known (@vw _ 0 _ _ (by walk_at "v")) (by rfl) (by rfl)) (@vw _ 1 _ _ (by walk_at "v")) (by intro _ _; rfl))))), ?_⟩
  refine seq_at (fun σ H1 => σ = [some (.ref p), some (.int (S : Nat))] /\ RkAt K T.C_Reckoner ls ys H1 p d /\ Frm d H H1 /\ ∃ (kvs' : List (Key × V)) (m : Nat), H1 d = some (.dK kvs') /\ valV kvs' (Sum.inl (S : Int) : Key) = some (.int m) /\ IsFew (labF ls) (rowF ys) S.testBit m) ?_ ?_ (by walk_at "sm")
  . refine ⟨dx, _, _, h1, lk4 _ _ _ _, valV kvs (Sum.inl (S : Int) : Key), DGet.k (k := Sum.inl (S : Int)) hd, ?_⟩
    cases e : valV kvs (Sum.inl (S : Int) : Key) with
    | some v =>
      obtain ⟨m, rfl, hm⟩ := h8.get e
      exact ⟨rfl, R, Frm.refl, kvs, m, hd, e, hm⟩
    | none =>
      refine ⟨p, dx, _, rfl, h1, ln2 _ _ _ _, ls, ys, d, S, R, rfl, hS, hc, hk, fun m H1 hm R1 f1 => ?_⟩
      obtain ⟨dx1, tl1, yl1, al1, as1, kvs1, k1, _, _, _, k5, _, _, k8⟩ := id R1.at_
      refine ⟨dx1, _, _, k1, lk4 _ _ _ _, d, _, rfl, DPut.k (k := Sum.inl (S : Int)) k5 (k8.len R.l16), ?_⟩
      have fu : Frm d H1 (upd H1 d (.dK (putK kvs1 (Sum.inl (S : Int) : Key) (V.int m)))) := Frm.updT
      exact ⟨rfl, R1.put fu upd_same (k8.put hS hm), f1.trans fu, _, m, upd_same, by rw [valV_put, if_pos rfl], hm⟩
  . rintro σ H1 ⟨rfl, R1, f1, kvs', m, hd1, hv, hm⟩
    obtain ⟨dx1, tl1, yl1, al1, as1, kvs1, k1, _⟩ := id R1.at_
    refine ⟨dx1, _, _, k1, lk4 _ _ _ _, d, .int m, rfl, ?_, q m H1 hm R1 f1⟩
    rw [<- hv]
    exact DGet.k (k := Sum.inl (S : Int)) hd1
theorem among_all : ∀ c : Nat, FnOk P w K mg base CX0 (4 * c + 4) T.f_Reckoner_o_fewest_among T.d_Reckoner_o_fewest_among ["self", "things"] (sp_few K T.C_Reckoner c)
  | 0 => by
    have no : ∀ vs H Q E, ¬ sp_few K T.C_Reckoner 0 vs H Q E := fun vs H Q E h => by
      unfold sp_few at h
      split at h
      . obtain ⟨ls, ys, d, S, _, _, _, _, z, _⟩ := h; exact absurd z (Nat.not_lt_zero _)
      . exact h
    exact ⟨fun vs H Q E h => (no _ _ _ _ h).elim, fun A outer s H args us vs Q E _ _ _ _ h => (no _ _ _ _ h).elim⟩
  | c + 1 => among_at T c (among_all c)
theorem ok_Reckoner_o_fewest_among : FnOk P w K mg base CX0 72 T.f_Reckoner_o_fewest_among T.d_Reckoner_o_fewest_among ["self", "things"] (sp_few K T.C_Reckoner 17) := among_all T 17
def sp_gtable : Sp := fun vs H Q _ => match vs with
  | [.ref t, .int n] => ∃ m N : Nat, GFeed H t N /\ N <= 900000000 /\ n = m /\ 1 <= m /\ m <= 4 /\ ∀ (bs : List Bool) p H', bs.length = 2 ^ m -> H p = none -> H' p = some (.tup (bs.map V.bl)) -> GFeed H' t (N + 18) -> Frm t H H' -> Q (.ref p) H'
  | _ => False
theorem sp_gtable_mono : SpMono sp_gtable := fun vs H Q Q' E h q => by
  unfold sp_gtable at *
  split at q
  . revert q; repeat' first | exact h _ _ | exact newL_mono h | exact out_mono h | exact outT_mono h | walk_at "m"
  . exact q.elim
theorem frm_all {t : Addr} {H H' : Hp} (h : ∀ b, b ≠ t -> H' b = H b) : Frm t H H' := fun b o n e => by rw [h b n]; exact e
theorem ok__law_table : FnOk P w K mg base CX0 2 T.f__law_table T.d__law_table ["_law_feed_here", "_law_n"] sp_gtable := by
  have G__law_draw := ok__law_draw (P := P) (w := w) (base := base) T
  refine T.F__law_table.ok sc__law_table (fun vs H Q E h => by unfold sp_gtable at h; split at h <;> first | rfl | exact h.elim) (fun cdv A outer s H vs Q E hr h => ?_)
  have hu := hu60 hr
  have hr__law_draw := hr.mono (show 1 <= _ by decide)
  unfold sp_gtable at h
  split at h
  rotate_left
  . exact h.elim
  rename_i t n
  obtain ⟨m, N, F, hN, e1, m1, m4, q⟩ := h
  subst e1
  refine ⟨_, (@pss_cons _ _ _ _ _ (@ps_set _ _ 2 _ _ _ _ sc__law_table.nd rfl (by walk_at "e") (@pe_op _ _ _ _ _ _ _ _ om_shl (@pe_int _ _ _ _) (@vw _ 1 _ _ (by walk_at "v"))) (by rfl) (by walk_at "i")) (@pss_cons _ _ _ _ _ (@ps_set _ _ 3 _ _ _ _ sc__law_table.nd rfl (by walk_at "e") (@pe_call _ _ _ _ _ _ _ _ _ _ _ _ _ _ _ _ G__law_draw hr__law_draw rfl T.m__law_draw T.F__law_draw.kp T.b__law_draw .nil pass0 (@pa_cons _ _ _ _ _ (@vw _ 0 _ _ (by walk_at "v")) (@pa1 _ _ _ (@pe_int _ _ _ _) (by rfl)) (by rfl)) (by decide) (by rfl) (by rfl)) (by rfl) (by walk_at "i")) (@pss_cons _ _ _ _ _ (@ps_if _ _ _ _ _ _ _ _ (@tu_cmp _ _ _ _ _ _ _ _ om_lt (@vw _ 3 _ _ (by walk_at "v")) (@pe_int _ _ _ _) (by walk_at "n")) (@pss_one _ _ _ (@ps_ret _ _ _ _ (@pe_callTy _ _ _ _ _ _ _ _ _ (kTuple (K := K)) rfl T.z_tuple (by rfl) (@pa1 _ _ _ (@pe_compB _ _ _ _ _ _ _ (["_law_k", "_law_feed_here"]) 1 [0] _ _ _ _ rfl (@pi_range1 _ _ _ _ _ _ rfl T.z_range (@pa1 _ _ _ (@vw _ 2 _ _ (by walk_at "v")) (by rfl)) (by rfl)) (by kernel_rfl) rfl rfl (by kernel_rfl) (fun c => @pg_name _ _ 0 _ (show (["_law_k", "_law_feed_here"] : List Str).Nodup by decide +kernel) rfl (by walk_at "e") (by walk_at "i")) (go_name (by decide)) (fun c => @pts_nil _) (fun c => (@pe_cmpM _ _ _ _ _ _ _ _ (kEq (K := K) hu) (@pe_call _ _ _ _ _ _ _ _ _ _ _ _ _ _ _ _ G__law_draw hr__law_draw rfl T.m__law_draw T.F__law_draw.kp T.b__law_draw .nil pass0 (@pa_cons _ _ _ _ _ (@vw _ 1 _ _ (by walk_at "v")) (@pa1 _ _ _ (@pe_int _ _ _ _) (by rfl)) (by rfl)) (by decide) (by rfl) (by rfl)) (@pe_int _ _ _ _) (by walk_at "n"))) (by intro _; rfl)) (by rfl)) (by decide) (by decide) (by rfl) (by rfl)))) (@pss_nil _)) (@pss_cons _ _ _ _ _ (@ps_if _ _ _ _ _ _ _ _ (@tu_cmp _ _ _ _ _ _ _ _ (kEq (K := K) hu) (@vw _ 3 _ _ (by walk_at "v")) (@pe_int _ _ _ _) (by walk_at "n")) (@pss_cons _ _ _ _ _ (@ps_set _ _ 4 _ _ _ _ sc__law_table.nd rfl (by walk_at "e") (@pe_call _ _ _ _ _ _ _ _ _ _ _ _ _ _ _ _ G__law_draw hr__law_draw rfl T.m__law_draw T.F__law_draw.kp T.b__law_draw .nil pass0 (@pa_cons _ _ _ _ _ (@vw _ 0 _ _ (by walk_at "v")) (@pa1 _ _ _ (@vw _ 2 _ _ (by walk_at "v")) (by rfl)) (by rfl)) (by decide) (by rfl) (by rfl)) (by rfl) (by walk_at "i")) (@pss_one _ _ _ (@ps_ret _ _ _ _ (@pe_callTy _ _ _ _ _ _ _ _ _ (kTuple (K := K)) rfl T.z_tuple (by rfl) (@pa1 _ _ _ (@pe_compB _ _ _ _ _ _ _ (["_law_k", "_law_place"]) 1 [4] _ _ _ _ rfl (@pi_range1 _ _ _ _ _ _ rfl T.z_range (@pa1 _ _ _ (@vw _ 2 _ _ (by walk_at "v")) (by rfl)) (by rfl)) (by kernel_rfl) rfl rfl (by kernel_rfl) (fun c => @pg_name _ _ 0 _ (show (["_law_k", "_law_place"] : List Str).Nodup by decide +kernel) rfl (by walk_at "e") (by walk_at "i")) (go_name (by decide)) (fun c => @pts_nil _) (fun c => (@pe_cmpM _ _ _ _ _ _ _ _ (kEq (K := K) hu) (@vw _ 0 _ _ (by walk_at "v")) (@vw _ 1 _ _ (by walk_at "v")) (by walk_at "n"))) (by intro _; rfl)) (by rfl)) (by decide) (by decide) (by rfl) (by rfl))))) (@pss_nil _)) (@pss_cons _ _ _ _ _ (@ps_if _ _ _ _ _ _ _ _ (@tu_cmp _ _ _ _ _ _ _ _ (kEq (K := K) hu) (@vw _ 3 _ _ (by walk_at "v")) (@pe_int _ _ _ _) (by walk_at "n")) (@pss_cons _ _ _ _ _ (@ps_set _ _ 5 _ _ _ _ sc__law_table.nd rfl (by walk_at "e") (@pe_call _ _ _ _ _ _ _ _ _ _ _ _ _ _ _ _ G__law_draw hr__law_draw rfl T.m__law_draw T.F__law_draw.kp T.b__law_draw .nil pass0 (@pa_cons _ _ _ _ _ (@vw _ 0 _ _ (by walk_at "v")) (@pa1 _ _ _ (@vw _ 1 _ _ (by walk_at "v")) (by rfl)) (by rfl)) (by decide) (by rfl) (by rfl)) (by rfl) (by walk_at "i")) (@pss_one _ _ _ (@ps_ret _ _ _ _ (@pe_callTy _ _ _ _ _ _ _ _ _ (kTuple (K := K)) rfl T.z_tuple (by rfl) (@pa1 _ _ _ (@pe_compB _ _ _ _ _ _ _ (["_law_k", "_law_one"]) 1 [5] _ _ _ _ rfl (@pi_range1 _ _ _ _ _ _ rfl T.z_range (@pa1 _ _ _ (@vw _ 2 _ _ (by walk_at "v")) (by rfl)) (by rfl)) (by kernel_rfl) rfl rfl (by kernel_rfl) (fun c => @pg_name _ _ 0 _ (show (["_law_k", "_law_one"] : List Str).Nodup by decide +kernel) rfl (by walk_at "e") (by walk_at "i")) (go_name (by decide)) (fun c => @pts_nil _) (fun c => (@pe_cmpM _ _ _ _ _ _ _ _ (kEq (K := K) hu) (@pe_op _ _ _ _ _ _ _ _ om_and (@pe_op _ _ _ _ _ _ _ _ om_shr (@vw _ 0 _ _ (by walk_at "v")) (@vw _ 1 _ _ (by walk_at "v"))) (@pe_int _ _ _ _)) (@pe_int _ _ _ _) (by walk_at "n"))) (by intro _; rfl)) (by rfl)) (by decide) (by decide) (by rfl) (by rfl))))) (@pss_nil _)) (@pss_cons _ _ _ _ _ (@ps_set _ _ 6 _ _ _ _ sc__law_table.nd rfl (by walk_at "e") (@pe_cmpM _ _ _ _ _ _ _ _ (kEq (K := K) hu) (@pe_call _ _ _ _ _ _ _ _ _ _ _ _ _ _ _ _ G__law_draw hr__law_draw rfl T.m__law_draw T.F__law_draw.kp T.b__law_draw .nil pass0 (@pa_cons _ _ _ _ _ (@vw _ 0 _ _ (by walk_at "v")) (@pa1 _ _ _ (@pe_int _ _ _ _) (by rfl)) (by rfl)) (by decide) (by rfl) (by rfl)) (@pe_int _ _ _ _) (by walk_at "n")) (by rfl) (by walk_at "i")) (@pss_one _ _ _ (@ps_ret _ _ _ _ (@pe_callTy _ _ _ _ _ _ _ _ _ (kTuple (K := K)) rfl T.z_tuple (by rfl) (@pa1 _ _ _ (@pe_compB _ _ _ _ _ _ _ (["_law_k", "_law_answer"]) 1 [6] _ _ _ _ rfl (@pi_range1 _ _ _ _ _ _ rfl T.z_range (@pa1 _ _ _ (@vw _ 2 _ _ (by walk_at "v")) (by rfl)) (by rfl)) (by kernel_rfl) rfl rfl (by kernel_rfl) (fun c => @pg_name _ _ 0 _ (show (["_law_k", "_law_answer"] : List Str).Nodup by decide +kernel) rfl (by walk_at "e") (by walk_at "i")) (go_name (by decide)) (fun c => @pts_nil _) (fun c => (@vw _ 1 _ _ (by walk_at "v"))) (by intro _; rfl)) (by rfl)) (by decide) (by decide) (by rfl) (by rfl)))))))))), ?_⟩
  have e2 : (1 : Int) * 2 ^ ((m : Int).toNat) = ((2 ^ m : Nat) : Int) := by rw [Int.toNat_natCast, Int.natCast_pow, Int.one_mul]; rfl
  have h16 : 2 ^ m <= 16 := Nat.pow_le_pow_right (n := 2) (by decide) m4
  have h2 : 2 <= 2 ^ m := Nat.pow_le_pow_right (n := 2) (i := 1) (by decide) m1
  refine ⟨⟨by omega, by omega, by decide⟩, ?_⟩
  rw [e2]
  generalize hM : 2 ^ m = M at *
  have hMd : okDiv (M : Int) := okDiv_of (by omega) (Int.le_trans (Int.ofNat_le.mpr h16) (by decide))
  have fin : ∀ (N' : Nat) (H1 : Hp) (bs : List Bool) (l : Addr), GFeed H1 t N' -> N' <= N + 18 -> Frm t H H1 -> bs.length = M -> H1 l = none -> ∃ ys, (SqL K (upd H1 l (.lst (bs.map V.bl))) l ys /\ ∀ p, upd H1 l (.lst (bs.map V.bl)) p = none -> Q (.ref p) (upd (upd H1 l (.lst (bs.map V.bl))) p (.tup ys))) \/ (SqT K (upd H1 l (.lst (bs.map V.bl))) l ys /\ Q (.ref l) (upd H1 l (.lst (bs.map V.bl)))) := by
    intro N' H1 bs l F1 hN' fr hb hl
    refine ⟨_, .inl ⟨.of upd_same, fun p hp => ?_⟩⟩
    have f2 : Frm t H (upd H1 l (.lst (bs.map V.bl))) := fr.trans (Frm.upd hl)
    have F2 := F1.upd (o := .lst (bs.map V.bl)) hl
    exact q bs p _ hb (F2.free f2 hp) upd_same ((F2.upd hp).mono (by omega)) (f2.trans (Frm.upd hp))
  refine ⟨N, F, by omega, okDiv_of (by decide) (by decide), fun way H2 w0 w1 F2 f2 => ?_⟩
  dsimp only [gName]
  refine ite2 (fun e => ?_) (fun e => ?_)
  . refine ⟨(M : Int), rfl, by omega, by omega, ?_⟩
    refine comp_range (fun i ys H' => GFeed H' t (N + 1 + i) /\ Frm t H H' /\ ∃ bs : List Bool, ys = bs.map V.bl /\ bs.length = i) ⟨F2, frm_all f2, [], rfl, rfl⟩ (fun i ys H' hi ⟨_, _, bs, e, el⟩ => by
      rw [e]; exact small1000 (by rw [List.length_map]; omega)) ?_ ?_
    . rintro i ys H' hi ⟨Fi, fi, bs, rfl, rfl⟩
      refine ⟨_, Fi, by omega, okDiv_of (by decide) (by decide), fun d H3 _ _ F3 f3 => ?_⟩
      exact ⟨F3.mono (by omega), fi.trans (frm_all f3), bs ++ [(false ^^ (d == 1))], by rw [List.map_append]; rfl, by rw [List.length_append]; rfl⟩
    . rintro ys H' ⟨Fi, fi, bs, rfl, hb⟩ l' hl
      exact fin _ _ bs l' Fi (by omega) fi (by omega) hl
  dsimp only [tNext]
  refine ite2 (fun e => ?_) (fun e => ?_)
  . refine ⟨_, F2, by omega, hMd, fun pl H3 p0 p1 F3 f3 => ?_⟩
    dsimp only [gName]
    refine ⟨(M : Int), rfl, by omega, by omega, ?_⟩
    refine comp_range (fun i ys H' => H' = H3 /\ ∃ bs : List Bool, ys = bs.map V.bl /\ bs.length = i) ⟨rfl, [], rfl, rfl⟩ (fun i ys H' hi ⟨_, bs, e, el⟩ => by
      rw [e]; exact small1000 (by rw [List.length_map]; omega)) ?_ ?_
    . rintro i ys H' hi ⟨rfl, bs, rfl, rfl⟩
      exact ⟨rfl, bs ++ [(false ^^ ((0 + (bs.length : Int)) == pl))], by rw [List.map_append]; rfl, by rw [List.length_append]; rfl⟩
    . rintro ys H' ⟨rfl, bs, rfl, hb⟩ l' hl
      exact fin _ _ bs l' F3 (by omega) ((frm_all f2).trans (frm_all f3)) (by omega) hl
  dsimp only [tNext]
  refine ite2 (fun e => ?_) (fun e => ?_)
  . refine ⟨_, F2, by omega, okDiv_of (by omega) (by omega), fun on H3 p0 p1 F3 f3 => ?_⟩
    dsimp only [gName]
    refine ⟨(M : Int), rfl, by omega, by omega, ?_⟩
    refine comp_range (fun i ys H' => H' = H3 /\ ∃ bs : List Bool, ys = bs.map V.bl /\ bs.length = i) ⟨rfl, [], rfl, rfl⟩ (fun i ys H' hi ⟨_, bs, e, el⟩ => by
      rw [e]; exact small1000 (by rw [List.length_map]; omega)) ?_ ?_
    . rintro i ys H' hi ⟨rfl, bs, rfl, rfl⟩
      refine ⟨p0, ?_⟩
      exact ⟨rfl, bs ++ [_], by rw [List.map_append]; rfl, by rw [List.length_append]; rfl⟩
    . rintro ys H' ⟨rfl, bs, rfl, hb⟩ l' hl
      exact fin _ _ bs l' F3 (by omega) ((frm_all f2).trans (frm_all f3)) (by omega) hl
  dsimp only [tNext]
  refine ⟨_, F2, by omega, okDiv_of (by decide) (by decide), fun an H3 p0 p1 F3 f3 => ?_⟩
  dsimp only [gName, mEq]
  refine ⟨(M : Int), rfl, by omega, by omega, ?_⟩
  refine comp_range (fun i ys H' => H' = H3 /\ ∃ bs : List Bool, ys = bs.map V.bl /\ bs.length = i) ⟨rfl, [], rfl, rfl⟩ (fun i ys H' hi ⟨_, bs, e, el⟩ => by
    rw [e]; exact small1000 (by rw [List.length_map]; omega)) ?_ ?_
  . rintro i ys H' hi ⟨rfl, bs, rfl, rfl⟩
    exact ⟨rfl, bs ++ [_], by rw [List.map_append]; rfl, by rw [List.length_append]; rfl⟩
  . rintro ys H' ⟨rfl, bs, rfl, hb⟩ l' hl
    exact fin _ _ bs l' F3 (by omega) ((frm_all f2).trans (frm_all f3)) (by omega) hl
def rowB (m i : Nat) : List Bool := (List.range (2 ^ m)).map fun p => p / 2 ^ i % 2 == 1
def labD (bs : List Bool) : List Dv := bs.map fun b => Dv.int (if b then 1 else 0)
def labV (bs : List Bool) : List V := bs.map fun b => V.int (if b then 1 else 0)
def rowsD (m n : Nat) : List Dv := (List.range n).map fun i => .tup ((rowB m i).map Dv.bl)
def gameD (bs : List Bool) (m : Nat) : Dv := .tup [.tup (labD bs), .tup (rowsD m m)]
theorem rowB_len (m i : Nat) : (rowB m i).length = 2 ^ m := by unfold rowB; simp
theorem rowsD_succ (m n : Nat) : rowsD m (n + 1) = rowsD m n ++ [.tup ((rowB m n).map Dv.bl)] := by unfold rowsD; rw [List.range_succ, List.map_append]; rfl
theorem rowsD_len (m n : Nat) : (rowsD m n).length = n := by unfold rowsD; simp
theorem reps_lab {K : W.Frag} {H : Hp} : ∀ bs : List Bool, Reps K H (labD bs) (labV bs)
  | [] => reps_nil
  | b :: bs => reps_cons rep_int (reps_lab bs)
theorem labV_len (bs : List Bool) : (labV bs).length = bs.length := by unfold labV; simp
theorem labV_app (bs cs : List Bool) : labV (bs ++ cs) = labV bs ++ labV cs := by unfold labV; simp
theorem tups_rows (m : Nat) : ∀ n, tupsOnly (rowsD m n) = true
  | 0 => rfl
  | n + 1 => by
    rw [rowsD_succ, tupsOnly_app, tups_rows m n]
    unfold tupsOnly tupOnly
    rw [tups_bl]
    rfl
def newG (K : W.Frag) (H : Hp) (Q : VK) (d : Dv) : Prop := ∀ u H', Same H H' -> Rep K H' d u -> Q u H'
def sp_game1 (K : W.Frag) : Sp := fun vs H Q _ => match vs with
  | [.ref p] => ∃ (bs : List Bool) (m : Nat), SqT K H p (bs.map V.bl) /\ bs.length = 2 ^ m /\ 1 <= m /\ m <= 4 /\ newG K H Q (gameD bs m)
  | _ => False
theorem ok__law_table_game : FnOk P w K mg base CX0 1 T.f__law_table_game T.d__law_table_game ["_law_table_here"] (sp_game1 K) := by
  refine T.F__law_table_game.ok sc__law_table_game (fun vs H Q E h => by unfold sp_game1 at h; split at h <;> first | rfl | exact h.elim) (fun cdv A outer s H vs Q E hr h => ?_)
  have hu := hu60 hr
  unfold sp_game1 at h
  split at h
  rotate_left
  . exact h.elim
  rename_i p
  obtain ⟨bs, m, hp, hb, m1, m4, q⟩ := h
  have h16 : 2 ^ m <= 16 := Nat.pow_le_pow_right (n := 2) (by decide) m4
  have hbl : (bs.map V.bl).length = 2 ^ m := by rw [List.length_map]; exact hb
  refine ⟨_, (@pss_cons _ _ _ _ _ (@ps_set _ _ 1 _ _ _ _ sc__law_table_game.nd rfl (by walk_at "e") (@pe_lst _ _ _ _ (@pa_nil _)) (by rfl) (by walk_at "i")) (@pss_cons _ _ _ _ _ (@ps_set _ _ 2 _ _ _ _ sc__law_table_game.nd rfl (by walk_at "e") (@pe_int _ _ _ _) (by rfl) (by walk_at "i")) (@pss_cons _ _ _ _ _ (@ps_whileM _ _ _ _ _ _ PassesOwn.never (@tu_cmp _ _ _ _ _ _ _ _ om_lt (@vw _ 2 _ _ (by walk_at "v")) (@pe_callB _ _ _ _ _ _ _ _ _ (kLen (K := K)) rfl T.z_len (by rfl) (@pa1 _ _ _ (@vw _ 0 _ _ (by walk_at "v")) (by rfl)) (by decide) (by decide) (by rfl) (by rfl)) (by walk_at "n")) (@pss_cons _ _ _ _ _ (@ps_expr _ _ _ _ (@kAppend _ K _ _ _ _ _ _ (@vw _ 1 _ _ (by walk_at "v")) (@pa1 _ _ _ (@pe_callTy _ _ _ _ _ _ _ _ _ (kTuple (K := K)) rfl T.z_tuple (by rfl) (@pa1 _ _ _ (@pe_compB _ _ _ _ _ _ _ (["_law_k", "_law_many"]) 1 [2] _ _ _ _ rfl (@pi_range1 _ _ _ _ _ _ rfl T.z_range (@pa1 _ _ _ (@pe_callB _ _ _ _ _ _ _ _ _ (kLen (K := K)) rfl T.z_len (by rfl) (@pa1 _ _ _ (@vw _ 0 _ _ (by walk_at "v")) (by rfl)) (by decide) (by decide) (by rfl) (by rfl)) (by rfl)) (by rfl)) (by kernel_rfl) rfl rfl (by kernel_rfl) (fun c => @pg_name _ _ 0 _ (show (["_law_k", "_law_many"] : List Str).Nodup by decide +kernel) rfl (by walk_at "e") (by walk_at "i")) (go_name (by decide)) (fun c => @pts_nil _) (fun c => (@pe_cmpM _ _ _ _ _ _ _ _ (kEq (K := K) hu) (@pe_op _ _ _ _ _ _ _ _ om_mod (@pe_op _ _ _ _ _ _ _ _ om_div (@vw _ 0 _ _ (by walk_at "v")) (@vw _ 1 _ _ (by walk_at "v"))) (@pe_int _ _ _ _)) (@pe_int _ _ _ _) (by walk_at "n"))) (by intro _; rfl)) (by rfl)) (by decide) (by decide) (by rfl) (by rfl)) (by rfl)) (by rfl) (by rfl) (by rfl) (by rfl) (by rfl) (by rfl)) (by rfl)) (@pss_one _ _ _ (@ps_set _ _ 2 _ _ _ _ sc__law_table_game.nd rfl (by walk_at "e") (@pe_op _ _ _ _ _ _ _ _ om_mul (@pe_int _ _ _ _) (@vw _ 2 _ _ (by walk_at "v"))) (by rfl) (by walk_at "i"))))) (@pss_one _ _ _ (@ps_ret _ _ _ _ (@pe_tup _ _ _ _ _ (@pa_cons _ _ _ _ _ (@pe_callTy _ _ _ _ _ _ _ _ _ (kTuple (K := K)) rfl T.z_tuple (by rfl) (@pa1 _ _ _ (@pe_compB _ _ _ _ _ _ _ ["_law_answer"] 1 [] _ _ _ _ rfl (@kSeq _ K _ _ _ (@vw _ 0 _ _ (by walk_at "v")) (by rfl)) (by kernel_rfl) rfl rfl (by kernel_rfl) (fun c => @pg_name _ _ 0 _ (show (["_law_answer"] : List Str).Nodup by decide +kernel) rfl (by walk_at "e") (by walk_at "i")) (go_name (by decide)) (fun c => @pts_nil _) (fun c => (@pe_callTy _ _ _ _ _ _ _ _ _ cm_int rfl T.z_int (by rfl) (@pa1 _ _ _ (@vw _ 0 _ _ (by walk_at "v")) (by rfl)) (by decide) (by decide) (by rfl) (by rfl))) (by intro _; rfl)) (by rfl)) (by decide) (by decide) (by rfl) (by rfl)) (@pa1 _ _ _ (@pe_callTy _ _ _ _ _ _ _ _ _ (kTuple (K := K)) rfl T.z_tuple (by rfl) (@pa1 _ _ _ (@vw _ 1 _ _ (by walk_at "v")) (by rfl)) (by decide) (by decide) (by rfl) (by rfl)) (by rfl)) (by rfl)))))))), ?_⟩
  refine ⟨small_le (show 0 <= 1000 by decide), fun l hl => ?_⟩
  dsimp only [gName]
  refine seq_at (fun σ H' => σ = [some (.ref p), some (.ref l), some (.int 1)] /\ upd H l (.lst []) = H') ⟨rfl, rfl⟩ ?_ (by walk_at "sm")
  rintro σ _ ⟨rfl, rfl⟩
  refine seq_at (fun σ H' => ∃ (z : Option V) (rs : List V), σ = [some (.ref p), some (.ref l), z] /\ Same H H' /\ H' l = some (.lst rs) /\ Reps K H' (rowsD m m) rs) ?_ ?_ (by walk_at "sm")
  . refine ⟨fun μ σ H' => ∃ (i : Nat) (rs : List V), μ = m - i /\ i <= m /\ σ = [some (.ref p), some (.ref l), some (.int (2 ^ i : Nat))] /\ Same H H' /\ H' l = some (.lst rs) /\ Reps K H' (rowsD m i) rs, ⟨m, 0, [], by omega, by omega, rfl, Same.upd hl, upd_same, reps_nil⟩, ?_⟩
    rintro μ σ H1 ⟨i, rs, rfl, hi, rfl, S1, g1, R1⟩
    have hrl : rs.length = i := by have := R1.length; rw [rowsD_len] at this; omega
    have hpi : (0 : Nat) < 2 ^ i := Nat.two_pow_pos i
    have hle : (2 : Nat) ^ i <= 2 ^ m := Nat.pow_le_pow_right (by decide) hi
    refine ⟨2 ^ m, .inr ⟨_, S1.sqT hp, hbl.symm⟩, ?_⟩
    refine ite2 (fun e => ?_) (fun e => ?_)
    . have him : i < m := by
        have e' : ((2 ^ i : Nat) : Int) < ((2 ^ m : Nat) : Int) := of_decide_eq_true e
        rcases Nat.lt_or_ge i m with z | z
        . exact z
        . have : i = m := by omega
          subst this; omega
      refine ⟨.inl ⟨rfl, _, .of g1⟩, ?_⟩
      refine ⟨2 ^ m, .inr ⟨_, S1.sqT hp, hbl.symm⟩, ((2 ^ m : Nat) : Int), rfl, by omega, by omega, ?_⟩
      refine comp_range (fun k ys H' => H' = H1 /\ ys = ((List.range k).map (fun q => q / 2 ^ i % 2 == 1)).map V.bl) ⟨rfl, rfl⟩ (fun k ys H' hk ⟨_, e⟩ => by
        rw [e, List.length_map, List.length_map, List.length_range]; exact small1000 (by omega)) ?_ ?_
      . rintro k ys H' hk ⟨rfl, rfl⟩
        refine ⟨okDiv_of (by omega) (Int.le_trans (Int.ofNat_le.mpr (Nat.le_trans hle h16)) (by decide)), by decide, rfl, ?_⟩
        have ee : (false ^^ (((0 : Int) + (k : Int)) / ((2 ^ i : Nat) : Int) % 2 == 1)) = (k / 2 ^ i % 2 == 1) := by
          rw [Bool.false_xor, Int.zero_add, <- Int.natCast_ediv, Bool.eq_iff_iff]
          simp only [beq_iff_eq]
          omega
        rw [bl_list, <- ee]
      . rintro ys H' ⟨rfl, rfl⟩ k hk
        rw [Int.toNat_natCast]
        refine ⟨_, .inl ⟨.of upd_same, fun p3 hp3 => ?_⟩⟩
        have erow : ((List.range (2 ^ m)).map (fun q => q / 2 ^ i % 2 == 1)).map V.bl = (rowB m i).map V.bl := rfl
        rw [erow]
        have s3 := (Same.upd (o := .lst ((rowB m i).map V.bl)) hk).trans (Same.upd (o := .tup ((rowB m i).map V.bl)) hp3)
        have g3p := upd_same (H := upd H' k (.lst ((rowB m i).map V.bl))) (a := p3) (o := .tup ((rowB m i).map V.bl))
        have nl : p3 ≠ l := Ne.symm (ne_of_none (Same.upd (o := .lst ((rowB m i).map V.bl)) hk _ _ g1) hp3)
        generalize upd (upd H' k (.lst ((rowB m i).map V.bl))) p3 (.tup ((rowB m i).map V.bl)) = H3 at *
        refine ⟨_, s3 _ _ g1, small1000 (by omega), ?_⟩
        dsimp only [tNext, tDrop, gName]
        refine ⟨.inr (.inl ⟨by decide, by decide⟩), ?_⟩
        have R3 : Reps K H3 (rowsD m i) rs := Reps.same s3 _ _ R1
        have fr : Frm l H3 (upd H3 l (.lst (rs ++ [.ref p3]))) := Frm.updT
        have R4 : Reps K (upd H3 l (.lst (rs ++ [.ref p3]))) (rowsD m (i + 1)) (rs ++ [.ref p3]) := by
          rw [rowsD_succ]
          refine Reps.append (Reps.frm fr ⟨_, s3 _ _ g1⟩ _ _ (tups_rows m i) R3) (reps_cons ?_ reps_nil)
          exact rep_tup1 (by rw [upd_ne nl]; exact g3p) (reps_bl _)
        refine ⟨m - (i + 1), by omega, i + 1, _, rfl, him, ?_, same_put (S1.trans s3) hl, upd_same, R4⟩
        have : (2 : Int) * ((2 ^ i : Nat) : Int) = ((2 ^ (i + 1) : Nat) : Int) := by rw [Nat.pow_succ]; omega
        rw [<- this]
        rfl
    . have him : i = m := by
        rcases Nat.lt_or_ge i m with z | z
        . exact absurd (decide_eq_true (show ((2 ^ i : Nat) : Int) < ((2 ^ m : Nat) : Int) from Int.ofNat_lt.mpr (Nat.pow_lt_pow_right (by decide) z))) e
        . omega
      subst him
      exact ⟨_, rs, rfl, S1, g1, R1⟩
  rintro σ H1 ⟨z, rs, rfl, S1, g1, R1⟩
  have hrl : rs.length = m := by have := R1.length; rw [rowsD_len] at this; omega
  refine .inr ⟨⟨_, S1.sqT hp⟩, ?_⟩
  refine comp_tup (xs := bs.map V.bl) (fun i ys H' => H' = H1 /\ ys = labV (bs.take i)) ⟨rfl, rfl⟩ (fun i ys H' _ ⟨e, _⟩ => by rw [e]; exact S1.sqT hp) (fun i ys H' hi ⟨_, e⟩ => by
    rw [e, labV_len, List.length_take]; exact small1000 (by omega)) ?_ ?_
  . rintro i x ys H' hx ⟨rfl, rfl⟩
    have hi : i < bs.length := by
      have := (List.getElem?_eq_some_iff.mp hx).1
      rwa [List.length_map] at this
    rw [List.getElem?_map, List.getElem?_eq_getElem hi] at hx
    cases hx
    refine ⟨rfl, ?_⟩
    rw [List.take_add_one, List.getElem?_eq_getElem hi, labV_app]
    rfl
  . rintro ys H' ⟨rfl, rfl⟩ k hk
    rw [List.take_of_length_le (by rw [List.length_map]; exact Nat.le_refl _)]
    refine ⟨_, .inl ⟨.of upd_same, fun p3 hp3 => ?_⟩⟩
    have s3 := (Same.upd (o := .lst (labV bs)) hk).trans (Same.upd (o := .tup (labV bs)) hp3)
    have g3p := upd_same (H := upd H' k (.lst (labV bs))) (a := p3) (o := .tup (labV bs))
    generalize upd (upd H' k (.lst (labV bs))) p3 (.tup (labV bs)) = H3 at *
    refine ⟨_, .inl ⟨.of (s3 _ _ g1), fun p4 hp4 => ?_⟩⟩
    refine ⟨small_le (show 2 <= 1000 by decide), fun p5 hp5 => ?_⟩
    have s5 := (Same.upd (o := .tup rs) hp4).trans (Same.upd (o := .tup [.ref p3, .ref p4]) hp5)
    refine q _ _ (S1.trans (s3.trans s5)) ?_
    refine rep_tup1 upd_same (reps_cons (rep_tup1 (s5 _ _ g3p) (reps_lab bs)) (reps_cons (rep_tup1 (Same.upd hp5 _ _ upd_same) ?_) reps_nil))
    exact Reps.same (s3.trans s5) _ _ R1
def tabsD (ts : List (List Bool)) : List Dv := ts.map fun b => .tup (b.map Dv.bl)
def gmD (ls : List Int) (rs : List (List Bool)) : Dv := .tup [.tup (ls.map Dv.int), .tup (tabsD rs)]
structure Gm (ls : List Int) (rs : List (List Bool)) : Prop where
  l1 : 1 <= ls.length
  l16 : ls.length <= 16
  r1 : 1 <= rs.length
  r16 : rs.length <= 16
  row : ∀ r ∈ rs, r.length = ls.length
  sm : ∀ x ∈ ls, x.natAbs <= 100000000000000000000
theorem tups_tabs : ∀ ts : List (List Bool), tupsOnly (tabsD ts) = true
  | [] => rfl
  | b :: ts => by
    show tupsOnly (Dv.tup (b.map Dv.bl) :: tabsD ts) = true
    unfold tupsOnly tupOnly
    rw [tups_bl, tups_tabs ts]
    rfl
theorem tabsD_len (ts : List (List Bool)) : (tabsD ts).length = ts.length := List.length_map ..
theorem reps_take {K : W.Frag} {H : Hp} : ∀ (k : Nat) {ds : List Dv} {xs : List V}, Reps K H ds xs -> Reps K H (ds.take k) (xs.take k)
  | 0, _, _, _ => by simpa using reps_nil
  | k + 1, [], xs, h => by unfold Reps at h; subst h; simpa using reps_nil
  | k + 1, d :: ds, xs, h => by
    unfold Reps at h
    obtain ⟨x, r, rfl, h1, h2⟩ := h
    simpa using reps_cons h1 (reps_take k h2)
theorem reps_drop {K : W.Frag} {H : Hp} : ∀ (k : Nat) {ds : List Dv} {xs : List V}, Reps K H ds xs -> Reps K H (ds.drop k) (xs.drop k)
  | 0, _, _, h => by simpa using h
  | k + 1, [], xs, h => by unfold Reps at h; subst h; simpa using reps_nil
  | k + 1, d :: ds, xs, h => by
    unfold Reps at h
    obtain ⟨x, r, rfl, h1, h2⟩ := h
    simpa using reps_drop k h2
theorem tabsD_put (ts : List (List Bool)) (b : List Bool) (k : Nat) : tabsD (ts.take k ++ b :: ts.drop k) = (tabsD ts).take k ++ .tup (b.map Dv.bl) :: (tabsD ts).drop k := by
  unfold tabsD
  rw [List.map_append, List.map_cons, List.map_take, List.map_drop]
theorem depDs_bls : ∀ bs : List Bool, depDs (bs.map Dv.bl) = 0
  | [] => by simp [depDs]
  | b :: bs => by
    show depDs (Dv.bl b :: bs.map Dv.bl) = _
    unfold depDs
    rw [depDs_bls bs]
    rfl
theorem tabsD_dep (ts : List (List Bool)) : ∀ e ∈ tabsD ts, depD e <= 50 := by
  intro e he
  obtain ⟨b, _, rfl⟩ := List.mem_map.mp he
  unfold depD
  rw [depDs_bls]
  omega
theorem cut_to (xs : List V) (a : Nat) (h : a <= xs.length) : cutV xs none (some (a : Int)) = xs.take a := by
  unfold cutV
  rw [HT.sIx_nat, HT.sIx_none, List.drop_zero, Nat.sub_zero, Nat.min_eq_left h]
theorem cut_from (xs : List V) (a : Nat) (h : a <= xs.length) : cutV xs (some (a : Int)) none = xs.drop a := by
  unfold cutV
  rw [HT.sIx_nat, HT.sIx_none, Nat.min_eq_left h, List.take_of_length_le (by rw [List.length_drop]; omega)]
theorem tabs_ref {K : W.Frag} {H : Hp} {ts : List (List Bool)} {xs : List V} (h : Reps K H (tabsD ts) xs) : ∀ ns : List Int, ns.length ≠ 0 -> xs ≠ ns.map V.int := by
  intro ns hn e
  cases ts with
  | nil =>
    have : xs = [] := by simpa [tabsD, Reps] using h
    subst this
    cases ns with
    | nil => exact hn rfl
    | cons _ _ => cases e
  | cons b ts =>
    have h' : Reps K H (Dv.tup (b.map Dv.bl) :: tabsD ts) xs := h
    unfold Reps at h'
    obtain ⟨x, r, rfl, h1, _⟩ := h'
    unfold Rep at h1
    obtain ⟨a, zs, rfl, _⟩ := h1
    cases ns with
    | nil => exact hn rfl
    | cons _ _ => cases e
theorem frm_new {t p : Addr} {H0 H : Hp} {o : HO} (f : Frm t H0 H) (hp : H0 p = none) : Frm t H0 (upd H p o) := fun b u n e => by
  rw [upd_ne (ne_of_none e hp)]
  exact f b u n e
def sp_class (K : W.Frag) : Sp := fun vs H Q _ => match vs with
  | [.ref t, .int n, .int y] => ∃ m M N : Nat, GFeed H t N /\ N <= 850000000 /\ n = m /\ 1 <= m /\ m <= 3 /\ y = M /\ 2 <= M /\ M <= 6 /\ ∀ (ts : List (List Bool)) xs p H', 2 <= ts.length -> ts.length <= M -> (∀ b ∈ ts, b.length = 2 ^ m) -> H p = none -> H' p = some (.lst xs) -> Reps K H' (tabsD ts) xs -> GFeed H' t (N + 400) -> Frm t H H' -> Q (.ref p) H'
  | _ => False
theorem ok__law_class : FnOk P w K mg base CX0 3 T.f__law_class T.d__law_class ["_law_feed_here", "_law_n", "_law_many"] (sp_class K) := by
  have G__law_draw := ok__law_draw (P := P) (w := w) (base := base) T; have G__law_table := ok__law_table (P := P) (w := w) (base := base) T
  refine T.F__law_class.ok sc__law_class (fun vs H Q E h => by unfold sp_class at h; split at h <;> first | rfl | exact h.elim) (fun cdv A outer s H vs Q E hr h => ?_)
  have hu := hu60 hr
  have hr__law_draw := hr.mono (show 1 <= _ by decide); have hr__law_table := hr.mono (show 2 <= _ by decide)
  unfold sp_class at h
  split at h
  rotate_left
  . exact h.elim
  rename_i t n y
  obtain ⟨m, M, N, F, hN, e1, m1, m3, e2, M2, M6, q⟩ := h
  subst e1 e2
  refine ⟨_, (@pss_cons _ _ _ _ _ (@ps_set _ _ 3 _ _ _ _ sc__law_class.nd rfl (by walk_at "e") (@pe_lst _ _ _ _ (@pa1 _ _ _ (@pe_call _ _ _ _ _ _ _ _ _ _ _ _ _ _ _ _ G__law_table hr__law_table rfl T.m__law_table T.F__law_table.kp T.b__law_table .nil pass0 (@pa_cons _ _ _ _ _ (@vw _ 0 _ _ (by walk_at "v")) (@pa1 _ _ _ (@vw _ 1 _ _ (by walk_at "v")) (by rfl)) (by rfl)) (by decide) (by rfl) (by rfl)) (by rfl))) (by rfl) (by walk_at "i")) (@pss_cons _ _ _ _ _ (@ps_set _ _ 4 _ _ _ _ sc__law_class.nd rfl (by walk_at "e") (@pe_call _ _ _ _ _ _ _ _ _ _ _ _ _ _ _ _ G__law_draw hr__law_draw rfl T.m__law_draw T.F__law_draw.kp T.b__law_draw .nil pass0 (@pa_cons _ _ _ _ _ (@vw _ 0 _ _ (by walk_at "v")) (@pa1 _ _ _ (@pe_op _ _ _ _ _ _ _ _ om_shl (@pe_int _ _ _ _) (@vw _ 1 _ _ (by walk_at "v"))) (by rfl)) (by rfl)) (by decide) (by rfl) (by rfl)) (by rfl) (by walk_at "i")) (@pss_cons _ _ _ _ _ (@ps_expr _ _ _ _ (@kAppend _ K _ _ _ _ _ _ (@vw _ 3 _ _ (by walk_at "v")) (@pa1 _ _ _ (@pe_op _ _ _ _ _ _ _ _ (kAddA (K := K)) (@pe_op _ _ _ _ _ _ _ _ (kAddA (K := K)) (@kCutA _ K _ _ _ _ _ _ _ _ (@kIx _ K _ _ _ _ _ (@vw _ 3 _ _ (by walk_at "v")) (@pe_int _ _ _ _) (by intro _ _; rfl) (by rfl)) (@po_none _) (@po_some _ _ _ (@vw _ 4 _ _ (by walk_at "v"))) (by rfl)) (@pe_tup _ _ _ _ _ (@pa1 _ _ _ (@pe_notM _ _ _ _ (@kIx _ K _ _ _ _ _ (@kIx _ K _ _ _ _ _ (@vw _ 3 _ _ (by walk_at "v")) (@pe_int _ _ _ _) (by intro _ _; rfl) (by rfl)) (@vw _ 4 _ _ (by walk_at "v")) (by intro _ _; rfl) (by rfl))) (by rfl)))) (@kCutA _ K _ _ _ _ _ _ _ _ (@kIx _ K _ _ _ _ _ (@vw _ 3 _ _ (by walk_at "v")) (@pe_int _ _ _ _) (by intro _ _; rfl) (by rfl)) (@po_some _ _ _ (@pe_op _ _ _ _ _ _ _ _ (kAddA (K := K)) (@vw _ 4 _ _ (by walk_at "v")) (@pe_int _ _ _ _))) (@po_none _) (by rfl))) (by rfl)) (by rfl) (by rfl) (by rfl) (by rfl) (by rfl) (by rfl)) (by rfl)) (@pss_cons _ _ _ _ _ (@ps_for _ _ _ _ _ _ _ _ PassesOwn.never rfl (@pi_range1 _ _ _ _ _ _ rfl T.z_range (@pa1 _ _ _ (@pe_op _ _ _ _ _ _ _ _ om_mul (@pe_int _ _ _ _) (@vw _ 2 _ _ (by walk_at "v"))) (by rfl)) (by rfl)) (@pg_name _ _ 5 _ sc__law_class.nd rfl (by walk_at "e") (by walk_at "i")) (@pss_cons _ _ _ _ _ (@ps_set _ _ 6 _ _ _ _ sc__law_class.nd rfl (by walk_at "e") (@pe_call _ _ _ _ _ _ _ _ _ _ _ _ _ _ _ _ G__law_table hr__law_table rfl T.m__law_table T.F__law_table.kp T.b__law_table .nil pass0 (@pa_cons _ _ _ _ _ (@vw _ 0 _ _ (by walk_at "v")) (@pa1 _ _ _ (@vw _ 1 _ _ (by walk_at "v")) (by rfl)) (by rfl)) (by decide) (by rfl) (by rfl)) (by rfl) (by walk_at "i")) (@pss_one _ _ _ (@ps_if _ _ _ _ _ _ _ _ (PW.pt (@pw_and _ _ _ _ _ _ _ (@tu_cmp _ _ _ _ _ _ _ _ om_lt (@pe_callB _ _ _ _ _ _ _ _ _ (kLen (K := K)) rfl T.z_len (by rfl) (@pa1 _ _ _ (@vw _ 3 _ _ (by walk_at "v")) (by rfl)) (by decide) (by decide) (by rfl) (by rfl)) (@vw _ 2 _ _ (by walk_at "v")) (by walk_at "n")) (@pw_and1 _ _ _ _ (@tu_cmp _ _ _ _ _ _ _ _ (kNotInD (K := K) hu) (@vw _ 6 _ _ (by walk_at "v")) (@vw _ 3 _ _ (by walk_at "v")) (by walk_at "n"))))) (@pss_one _ _ _ (@ps_expr _ _ _ _ (@kInsert _ K _ _ _ _ _ _ _ (@vw _ 3 _ _ (by walk_at "v")) (@pa_cons _ _ _ _ _ (@pe_call _ _ _ _ _ _ _ _ _ _ _ _ _ _ _ _ G__law_draw hr__law_draw rfl T.m__law_draw T.F__law_draw.kp T.b__law_draw .nil pass0 (@pa_cons _ _ _ _ _ (@vw _ 0 _ _ (by walk_at "v")) (@pa1 _ _ _ (@pe_op _ _ _ _ _ _ _ _ (kAddA (K := K)) (@pe_callB _ _ _ _ _ _ _ _ _ (kLen (K := K)) rfl T.z_len (by rfl) (@pa1 _ _ _ (@vw _ 3 _ _ (by walk_at "v")) (by rfl)) (by decide) (by decide) (by rfl) (by rfl)) (@pe_int _ _ _ _)) (by rfl)) (by rfl)) (by decide) (by rfl) (by rfl)) (@pa1 _ _ _ (@vw _ 6 _ _ (by walk_at "v")) (by rfl)) (by rfl)) (by rfl) (by rfl) (by rfl) (by rfl) (by rfl) (by rfl)) (by rfl))) (@pss_nil _)))) (by intro _; rfl)) (@pss_one _ _ _ (@ps_ret _ _ _ _ (@vw _ 3 _ _ (by walk_at "v")))))))), ?_⟩
  have hmo := sp_gtable_mono
  have h2 : 2 <= 2 ^ m := Nat.pow_le_pow_right (n := 2) (i := 1) (by decide) m1
  have h8 : 2 ^ m <= 8 := Nat.pow_le_pow_right (n := 2) (i := m) (j := 3) (by decide) m3
  have em : (1 : Int) * 2 ^ ((m : Int).toNat) = ((2 ^ m : Nat) : Int) := by rw [Int.toNat_natCast, Int.natCast_pow, Int.one_mul]; rfl
  refine ⟨m, N, F, by omega, rfl, m1, by omega, fun bs p1 H1 hb hp1 g1 F1 f1 => ?_⟩
  refine ⟨small_le (show 1 <= 1000 by decide), fun l hl => ?_⟩
  have hlH : H l = none := F1.free f1 hl
  have lt : l ≠ t := F.neT hlH
  dsimp only [gName]
  refine seq_at (fun σ H' => ∃ a : Nat, a < 2 ^ m /\ σ = [some (.ref t), some (.int m), some (.int M), some (.ref l), some (.int a), none, none] /\ GFeed H' t (N + 19) /\ Frm t H H' /\ H' l = some (.lst [.ref p1]) /\ H' p1 = some (.tup (bs.map V.bl))) ?_ ?_ (by walk_at "sm")
  . refine ⟨⟨by omega, by omega, by decide⟩, ?_⟩
    rw [em]
    have F2 := F1.upd (o := .lst [.ref p1]) hl
    refine ⟨_, F2, by omega, okDiv_of (by omega) (by omega), fun a H3 a0 a1 F3 f3 => ?_⟩
    have f2 : Frm t H1 (upd H1 l (.lst [.ref p1])) := Frm.upd hl
    have n1 : p1 ≠ t := F.neT hp1
    have nl : p1 ≠ l := fun e => by rw [e, hl] at g1; cases g1
    refine ⟨a.toNat, by omega, ?_, F3, f1.trans (f2.trans (frm_all f3)), by rw [f3 l lt, upd_same], by rw [f3 p1 n1, upd_ne nl]; exact g1⟩
    rw [Int.toNat_of_nonneg a0]
    rfl
  rintro σ H2 ⟨a, ha, rfl, F2, f2, gl2, gp2⟩
  have hbl : (bs.map V.bl).length = 2 ^ m := by rw [List.length_map]; exact hb
  have hix : atI (bs.map V.bl) (a : Int) = some (.bl (bs.getD a false)) := atI_of rfl (by rw [List.getElem?_map, List.getD_eq_getElem?_getD, List.getElem?_eq_getElem (show a < bs.length by omega)]; rfl)
  refine seq_at (fun σ H' => ∃ (ts : List (List Bool)) (xs : List V) (z5 z6 : Option V), σ = [some (.ref t), some (.int m), some (.int M), some (.ref l), some (.int a), z5, z6] /\ 2 <= ts.length /\ ts.length <= M /\ (∀ b ∈ ts, b.length = 2 ^ m) /\ H' l = some (.lst xs) /\ Reps K H' (tabsD ts) xs /\ GFeed H' t (N + 19) /\ Frm t H H') ?_ ?_ (by walk_at "sm")
  . refine ⟨.inl ⟨rfl, _, .of gl2⟩, ?_⟩
    refine ⟨_, _, .inl (.of gl2), rfl, ?_⟩
    refine ⟨(a : Int), rfl, _, .of gp2, fun q1 H3 S3 t3 => ?_⟩
    rw [cut_to _ a (by omega)] at t3
    refine ⟨_, _, .inl (.of (S3 _ _ gl2)), rfl, _, _, .inr (.of (S3 _ _ gp2)), hix, ?_⟩
    refine ⟨small_le (show 1 <= 1000 by decide), fun q2 hq2 => ?_⟩
    have S4 : Same H3 (upd H3 q2 (.tup [.bl (!bs.getD a false)])) := Same.upd hq2
    have t4 : SqT K (upd H3 q2 (.tup [.bl (!bs.getD a false)])) q2 [.bl (!bs.getD a false)] := .of upd_same
    generalize upd H3 q2 (.tup [.bl (!bs.getD a false)]) = H4 at *
    refine .inr ⟨_, _, S4.sqT t3, t4, small_le (by rw [List.length_take]; show _ + 1 <= 1000; omega), fun q3 H5 S5 t5 => ?_⟩
    have S25 := S3.trans (S4.trans S5)
    refine ⟨_, _, .inl (.of (S25 _ _ gl2)), rfl, ?_⟩
    refine ⟨(a + 1 : Nat), rfl, _, .of (S25 _ _ gp2), fun q4 H6 S6 t6 => ?_⟩
    rw [cut_from _ (a + 1) (by omega)] at t6
    refine .inr ⟨_, _, S6.sqT t5, t6, small_le (by rw [List.length_append, List.length_take, List.length_drop]; show _ + 1 + _ <= 1000; omega), fun q5 H7 S7 t7 => ?_⟩
    have S27 := S25.trans (S6.trans S7)
    generalize hcs : bs.take a ++ (!bs.getD a false) :: bs.drop (a + 1) = cs
    have ecs : (bs.map V.bl).take a ++ [V.bl (!bs.getD a false)] ++ (bs.map V.bl).drop (a + 1) = cs.map V.bl := by
      rw [<- hcs, List.map_append, List.map_cons, List.map_take, List.map_drop, List.append_assoc]
      rfl
    have hcl : cs.length = 2 ^ m := by
      rw [<- hcs, List.length_append, List.length_cons, List.length_take, List.length_drop]
      omega
    rw [ecs] at t7
    refine ⟨_, S27 _ _ gl2, small1000 (show 1 <= 1000 by decide), ?_⟩
    have fr : Frm l H7 (upd H7 l (.lst ([.ref p1] ++ [.ref q5]))) := Frm.updT
    have R7 : Reps K H7 (tabsD [bs, cs]) [.ref p1, .ref q5] := reps_cons (rep_tup1 (S27 _ _ gp2) (reps_bl bs)) (reps_cons (by unfold Rep; exact ⟨q5, _, rfl, t7, reps_bl cs⟩) reps_nil)
    refine ⟨[bs, cs], _, _, _, rfl, Nat.le_refl 2, M2, ?_, upd_same, Reps.frm fr ⟨_, S27 _ _ gl2⟩ _ _ (tups_tabs _) R7, ?_, ?_⟩
    . intro b hb'
      rcases List.mem_cons.mp hb' with rfl | hb'
      . exact hb
      . rcases List.mem_cons.mp hb' with rfl | hb'
        . exact hcl
        . cases hb'
    . exact (F2.same S27).put lt (S27 _ _ gl2) fun ns hn e => by
        cases ns with
        | nil => exact hn rfl
        | cons _ _ => cases e
    . exact frm_new (f2.trans fun b o _ e => S27 b o e) hlH
  rintro σ H3 ⟨ts, xs, z5, z6, rfl, t2, tM, tb, gl3, R3, F3, f3⟩
  refine seq_at (fun σ H' => ∃ (ts : List (List Bool)) (xs : List V) (z5 z6 : Option V), σ = [some (.ref t), some (.int m), some (.int M), some (.ref l), some (.int a), z5, z6] /\ 2 <= ts.length /\ ts.length <= M /\ (∀ b ∈ ts, b.length = 2 ^ m) /\ H' l = some (.lst xs) /\ Reps K H' (tabsD ts) xs /\ GFeed H' t (N + 400) /\ Frm t H H') ?_ ?_ (by walk_at "sm")
  . refine ⟨.inr (.inl ⟨by decide, by decide⟩), 2 * (M : Int), rfl, by omega, by omega, ?_⟩
    refine for_range (fun i σ H' => ∃ (ts : List (List Bool)) (xs : List V) (z5 z6 : Option V), σ = [some (.ref t), some (.int m), some (.int M), some (.ref l), some (.int a), z5, z6] /\ 2 <= ts.length /\ ts.length <= M /\ (∀ b ∈ ts, b.length = 2 ^ m) /\ H' l = some (.lst xs) /\ Reps K H' (tabsD ts) xs /\ GFeed H' t (N + 19 + 19 * i) /\ Frm t H H') ⟨ts, xs, z5, z6, rfl, t2, tM, tb, gl3, R3, F3, f3⟩ ?_ ?_
    . rintro i σ H4 hi ⟨ts, xs, z5, z6, rfl, t2, tM, tb, gl4, R4, F4, f4⟩
      have hxl : xs.length = ts.length := by rw [<- R4.length, tabsD_len]
      refine ⟨m, _, F4, by omega, rfl, m1, by omega, fun bs2 p2 H5 hb2 hp2 g2 F5 f5 => ?_⟩
      have R5 : Reps K H5 (tabsD ts) xs := Reps.frm f5 F4.lst _ _ (tups_tabs _) R4
      have gl5 : H5 l = some (.lst xs) := f5 _ _ lt gl4
      dsimp only [gName]
      have stay : ∃ (ts : List (List Bool)) (xs : List V) (z5' z6' : Option V), [some (V.ref t), some (.int m), some (.int M), some (.ref l), some (.int a), some (.int (0 + i)), some (.ref p2)] = [some (.ref t), some (.int m), some (.int M), some (.ref l), some (.int a), z5', z6'] /\ 2 <= ts.length /\ ts.length <= M /\ (∀ b ∈ ts, b.length = 2 ^ m) /\ H5 l = some (.lst xs) /\ Reps K H5 (tabsD ts) xs /\ GFeed H5 t (N + 19 + 19 * (i + 1)) /\ Frm t H H5 :=
        ⟨ts, xs, _, _, rfl, t2, tM, tb, gl5, R5, F5.mono (by omega), f4.trans f5⟩
      have ep2 : Rep K H5 (.tup (bs2.map Dv.bl)) (.ref p2) := rep_tup1 g2 (reps_bl bs2)
      refine ⟨_, .inl ⟨_, .of gl5, rfl⟩, ?_⟩
      refine ite2 (fun e => ?_) (fun e => stay)
      have e' : (xs.length : Int) < (M : Int) := of_decide_eq_true e
      refine ⟨_, _, _, .inl (.of gl5), R5, ep2, tabsD_dep ts, ?_⟩
      refine ite2 (fun e => ?_) (fun e => stay)
      refine ⟨.inl ⟨rfl, _, .of gl5⟩, ?_⟩
      refine ⟨_, .inl ⟨_, .of gl5, rfl⟩, ?_⟩
      refine ⟨_, F5, by omega, okDiv_of (by omega) (Int.le_trans (show (xs.length : Int) + 1 <= 7 by omega) (by decide)), fun d H6 d0 d1 F6 f6 => ?_⟩
      have gl6 : H6 l = some (.lst xs) := by rw [f6 l lt]; exact gl5
      refine ⟨xs, gl6, d0, by omega, by omega, ?_⟩
      have R6 : Reps K H6 (tabsD ts) xs := Reps.frm (frm_all f6) F5.lst _ _ (tups_tabs _) R5
      have ep6 : Reps K H6 [.tup (bs2.map Dv.bl)] [.ref p2] := reps_cons (rep_tup1 (by rw [f6 p2 (F4.neT hp2)]; exact g2) (reps_bl bs2)) reps_nil
      have R7 : Reps K H6 (tabsD (ts.take d.toNat ++ bs2 :: ts.drop d.toNat)) (xs.take d.toNat ++ .ref p2 :: xs.drop d.toNat) := by
        rw [tabsD_put]
        exact Reps.append (reps_take _ R6) (Reps.append ep6 (reps_drop _ R6))
      refine ⟨_, _, _, _, rfl, ?_, ?_, ?_, upd_same, Reps.frm Frm.updT ⟨_, gl6⟩ _ _ (tups_tabs _) R7, (F6.put lt gl6 (tabs_ref R6)).mono (by omega), frm_new (f4.trans (f5.trans (frm_all f6))) hlH⟩
      . rw [List.length_append, List.length_cons, List.length_take, List.length_drop]; omega
      . rw [List.length_append, List.length_cons, List.length_take, List.length_drop]; omega
      . intro b hb'
        rcases List.mem_append.mp hb' with h | h
        . exact tb b (List.mem_of_mem_take h)
        . rcases List.mem_cons.mp h with rfl | h
          . exact hb2
          . exact tb b (List.mem_of_mem_drop h)
    . rintro σ H4 ⟨ts, xs, z5, z6, rfl, t2, tM, tb, gl4, R4, F4, f4⟩
      exact ⟨ts, xs, z5, z6, rfl, t2, tM, tb, gl4, R4, F4.mono (by omega), f4⟩
  rintro σ H4 ⟨ts, xs, z5, z6, rfl, t2, tM, tb, gl4, R4, F4, f4⟩
  exact q ts xs l H4 t2 tM tb hlH gl4 R4 F4 f4
theorem reps_blJ {K : W.Frag} {H : Hp} : ∀ (cs : List Bool) (zs : List V), Reps K H (cs.map Dv.bl) zs -> zs = cs.map V.bl
  | [], zs, h => by
    have h' : Reps K H [] zs := h
    unfold Reps at h'
    exact h'
  | c :: cs, zs, h => by
    have h' : Reps K H (Dv.bl c :: cs.map Dv.bl) zs := h
    unfold Reps at h'
    obtain ⟨x, r, rfl, h1, h2⟩ := h'
    unfold Rep at h1
    rw [h1, reps_blJ cs r h2]
    rfl
theorem reps_int1 {K : W.Frag} {H : Hp} : ∀ ns : List Int, Reps K H (ns.map Dv.int) (ns.map V.int)
  | [] => reps_nil
  | _ :: ns => reps_cons rep_int (reps_int1 ns)
def sp_cgame (K : W.Frag) : Sp := fun vs H Q _ => match vs with
  | [.ref l] => ∃ (ts : List (List Bool)) (xs : List V) (M : Nat), H l = some (.lst xs) /\ Reps K H (tabsD ts) xs /\ 2 <= ts.length /\ ts.length <= 6 /\ (∀ b ∈ ts, b.length = M) /\ 1 <= M /\ M <= 8 /\ ∀ ls rs u H', Gm ls rs -> Same H H' -> Rep K H' (gmD ls rs) u -> Q u H'
  | _ => False
theorem ok__law_class_game : FnOk P w K mg base CX0 1 T.f__law_class_game T.d__law_class_game ["_law_tables"] (sp_cgame K) := by
  refine T.F__law_class_game.ok sc__law_class_game (fun vs H Q E h => by unfold sp_cgame at h; split at h <;> first | rfl | exact h.elim) (fun cdv A outer s H vs Q E hr h => ?_)
  have hu := hu60 hr
  unfold sp_cgame at h
  split at h
  rotate_left
  . exact h.elim
  rename_i l
  obtain ⟨ts, xs, M, gl, R, t2, t6, tb, M1, M8, q⟩ := h
  refine ⟨_, (@pss_cons _ _ _ _ _ (@ps_compB _ _ _ _ _ _ _ (["_law_k", "_law_tables"]) 1 [0] _ _ _ _ 1 _ _ _ rfl sc__law_class_game.nd rfl rfl (@pi_range1 _ _ _ _ _ _ rfl T.z_range (@pa1 _ _ _ (@pe_callB _ _ _ _ _ _ _ _ _ (kLen (K := K)) rfl T.z_len (by rfl) (@pa1 _ _ _ (@kIx _ K _ _ _ _ _ (@vw _ 0 _ _ (by walk_at "v")) (@pe_int _ _ _ _) (by intro _ _; rfl) (by rfl)) (by rfl)) (by decide) (by decide) (by rfl) (by rfl)) (by rfl)) (by rfl)) (by kernel_rfl) rfl rfl (by kernel_rfl) (fun c => @pg_name _ _ 0 _ (show (["_law_k", "_law_tables"] : List Str).Nodup by decide +kernel) rfl (by walk_at "e") (by walk_at "i")) (go_name (by decide)) (fun c => @pts_nil _) (fun c => (@pe_callTy _ _ _ _ _ _ _ _ _ (kTuple (K := K)) rfl T.z_tuple (by rfl) (@pa1 _ _ _ (@pe_compB _ _ _ _ _ _ _ (["_law_table_here", "_law_k"]) 1 [0] _ _ _ _ rfl (@kSeq _ K _ _ _ (@vw _ 1 _ _ (by walk_at "v")) (by rfl)) (by kernel_rfl) rfl rfl (by kernel_rfl) (fun c => @pg_name _ _ 0 _ (show (["_law_table_here", "_law_k"] : List Str).Nodup by decide +kernel) rfl (by walk_at "e") (by walk_at "i")) (go_name (by decide)) (fun c => @pts_nil _) (fun c => (@kIx _ K _ _ _ _ _ (@vw _ 0 _ _ (by walk_at "v")) (@vw _ 1 _ _ (by walk_at "v")) (by intro _ _; rfl) (by rfl))) (by intro _; rfl)) (by rfl)) (by decide) (by decide) (by rfl) (by rfl))) (by rfl) (by intro _; rfl)) (@pss_one _ _ _ (@ps_ret _ _ _ _ (@pe_tup _ _ _ _ _ (@pa_cons _ _ _ _ _ (@pe_callTy _ _ _ _ _ _ _ _ _ (kTuple (K := K)) rfl T.z_tuple (by rfl) (@pa1 _ _ _ (@pe_compB _ _ _ _ _ _ _ ["_law_k"] 1 [] _ _ _ _ rfl (@pi_range1 _ _ _ _ _ _ rfl T.z_range (@pa1 _ _ _ (@pe_callB _ _ _ _ _ _ _ _ _ (kLen (K := K)) rfl T.z_len (by rfl) (@pa1 _ _ _ (@vw _ 0 _ _ (by walk_at "v")) (by rfl)) (by decide) (by decide) (by rfl) (by rfl)) (by rfl)) (by rfl)) (by kernel_rfl) rfl rfl (by kernel_rfl) (fun c => @pg_name _ _ 0 _ (show (["_law_k"] : List Str).Nodup by decide +kernel) rfl (by walk_at "e") (by walk_at "i")) (go_name (by decide)) (fun c => @pts_nil _) (fun c => (@vw _ 0 _ _ (by walk_at "v"))) (by intro _; rfl)) (by rfl)) (by decide) (by decide) (by rfl) (by rfl)) (@pa1 _ _ _ (@pe_callTy _ _ _ _ _ _ _ _ _ (kTuple (K := K)) rfl T.z_tuple (by rfl) (@pa1 _ _ _ (@vw _ 1 _ _ (by walk_at "v")) (by rfl)) (by decide) (by decide) (by rfl) (by rfl)) (by rfl)) (by rfl)))))), ?_⟩
  have hxl : xs.length = ts.length := by rw [<- R.length, tabsD_len]
  have at_ : ∀ (j : Nat) (x : V), xs[j]? = some x -> ∃ (a : Addr) (bs : List Bool), x = .ref a /\ SqT K H a (bs.map V.bl) /\ bs.length = M := by
    intro j x hx
    have hj : j < ts.length := by have := (List.getElem?_eq_some_iff.mp hx).1; omega
    obtain ⟨y, h1, h2⟩ := R.get (i := j) (d := .tup (ts[j].map Dv.bl)) (by unfold tabsD; rw [List.getElem?_map, List.getElem?_eq_getElem hj]; rfl)
    rw [hx] at h1
    cases h1
    unfold Rep at h2
    obtain ⟨a, zs, rfl, h3, h4⟩ := h2
    rw [reps_blJ _ _ h4] at h3
    exact ⟨a, ts[j], rfl, h3, tb _ (List.getElem_mem hj)⟩
  obtain ⟨x0, hx0⟩ : ∃ x, xs[0]? = some x := ⟨_, List.getElem?_eq_getElem (show 0 < xs.length by omega)⟩
  obtain ⟨a0, bs0, rfl, q0, l0⟩ := at_ 0 _ hx0
  refine ⟨_, _, .inl (.of gl), atI_of (n := 0) rfl hx0, _, .inr ⟨_, q0, rfl⟩, ?_⟩
  rw [List.length_map, l0]
  refine ⟨(M : Int), rfl, by omega, by omega, ?_⟩
  refine comp_range (fun i ys H' => Same H H' /\ ∃ rs : List (List Bool), rs.length = i /\ (∀ r ∈ rs, r.length = ts.length) /\ Reps K H' (tabsD rs) ys) ⟨fun _ _ e => e, [], rfl, nofun, reps_nil⟩ (fun i ys H' hi ⟨_, rs, e, _, R'⟩ => by
    rw [<- R'.length, tabsD_len]; exact small1000 (by omega)) ?_ ?_
  . rintro i ys H1 hi ⟨S1, rs, rfl, hr1, R1⟩
    refine .inl ⟨⟨_, .of (S1 _ _ gl)⟩, ?_⟩
    refine comp_list (xs := xs) (fun j zs H' => H' = H1 /\ ∃ bs : List Bool, zs = bs.map V.bl /\ bs.length = j) ⟨rfl, [], rfl, rfl⟩ (fun j zs H' _ ⟨e, _⟩ => by rw [e]; exact .of (S1 _ _ gl)) (fun j zs H' hj ⟨_, bs, e, el⟩ => by
      rw [e, List.length_map, el]; exact small1000 (by omega)) ?_ ?_
    . rintro j x zs H' hx ⟨rfl, bs, rfl, rfl⟩
      obtain ⟨a, cs, rfl, h1, h2⟩ := at_ _ _ hx
      refine ⟨_, _, .inr (S1.sqT h1), atI_of (n := rs.length) (by omega) (by rw [List.getElem?_map, List.getElem?_eq_getElem (show rs.length < cs.length by omega)]; rfl), ?_⟩
      exact ⟨rfl, bs ++ [_], by rw [List.map_append]; rfl, by rw [List.length_append]; rfl⟩
    . rintro zs H' ⟨rfl, bs, rfl, hb⟩ k hk
      refine ⟨_, .inl ⟨.of upd_same, fun p hp => ?_⟩⟩
      have s3 := (Same.upd (o := .lst (bs.map V.bl)) hk).trans (Same.upd (o := .tup (bs.map V.bl)) hp)
      refine ⟨S1.trans s3, rs ++ [bs], by rw [List.length_append]; rfl, ?_, ?_⟩
      . intro r hr'
        rcases List.mem_append.mp hr' with h | h
        . exact hr1 r h
        . rw [List.mem_singleton.mp h]; omega
      . have e : tabsD (rs ++ [bs]) = tabsD rs ++ [.tup (bs.map Dv.bl)] := by unfold tabsD; rw [List.map_append]; rfl
        rw [e]
        exact Reps.append (Reps.same s3 _ _ R1) (reps_cons (rep_tup1 upd_same (reps_bl bs)) reps_nil)
  . rintro ys H1 ⟨S1, rs, hrl, hr1, R1⟩ k hk
    have s2 : Same H1 (upd H1 k (.lst ys)) := Same.upd hk
    have g2 : upd H1 k (.lst ys) k = some (.lst ys) := upd_same
    generalize upd H1 k (.lst ys) = H2 at *
    dsimp only [gName]
    refine ⟨_, .inl ⟨_, .of (s2 _ _ (S1 _ _ gl)), rfl⟩, (xs.length : Int), rfl, by omega, by omega, ?_⟩
    refine comp_range (fun i ys H' => H' = H2 /\ ∃ ls : List Int, ys = ls.map V.int /\ ls.length = i /\ ∀ x ∈ ls, x.natAbs <= 6) ⟨rfl, [], rfl, rfl, nofun⟩ (fun i ys H' hi ⟨_, ls, e, el, _⟩ => by
      rw [e, List.length_map, el]; exact small1000 (by omega)) ?_ ?_
    . rintro i ys H' hi ⟨rfl, ls, rfl, el, hs⟩
      refine ⟨rfl, ls ++ [0 + (i : Int)], by rw [List.map_append]; rfl, by rw [List.length_append, el]; rfl, ?_⟩
      intro x hx
      rcases List.mem_append.mp hx with h | h
      . exact hs x h
      . rw [List.mem_singleton.mp h]; omega
    . rintro ys' H' ⟨rfl, ls, rfl, el, hs⟩ k3 hk3
      refine ⟨_, .inl ⟨.of upd_same, fun p hp => ?_⟩⟩
      have s3 := (Same.upd (o := .lst (ls.map V.int)) hk3).trans (Same.upd (o := .tup (ls.map V.int)) hp)
      have g3 : upd (upd H' k3 (.lst (ls.map V.int))) p (.tup (ls.map V.int)) p = some (.tup (ls.map V.int)) := upd_same
      generalize upd (upd H' k3 (.lst (ls.map V.int))) p (.tup (ls.map V.int)) = H3 at *
      refine ⟨_, .inl ⟨.of (s3 _ _ g2), fun p4 hp4 => ?_⟩⟩
      refine ⟨small_le (show 2 <= 1000 by decide), fun p5 hp5 => ?_⟩
      have s5 := (Same.upd (o := .tup ys) hp4).trans (Same.upd (o := .tup [.ref p, .ref p4]) hp5)
      refine q ls rs _ _ ⟨by omega, by omega, by omega, by omega, fun r h => by rw [hr1 r h]; omega, fun x h => Nat.le_trans (hs x h) (by decide)⟩ (S1.trans (s2.trans (s3.trans s5))) ?_
      exact rep_tup1 upd_same (reps_cons (rep_tup1 (s5 _ _ g3) (reps_int1 ls)) (reps_cons (rep_tup1 (Same.upd hp5 _ _ upd_same) (Reps.same (s2.trans (s3.trans s5)) _ _ R1)) reps_nil))
def sp_gnew (K : W.Frag) (n b : Nat) : Sp := fun vs H Q _ => match vs with
  | [.ref t] => ∃ N : Nat, GFeed H t N /\ N <= b /\ ∀ ls rs u H', Gm ls rs -> Rep K H' (gmD ls rs) u -> GFeed H' t (N + n) -> Frm t H H' -> Q u H'
  | _ => False
theorem sp_gnew_mono {n b : Nat} : SpMono (sp_gnew K n b) := fun vs H Q Q' E h q => by
  unfold sp_gnew at *
  split at q
  . revert q; repeat' first | exact h _ _ | exact newL_mono h | exact out_mono h | exact outT_mono h | walk_at "m"
  . exact q.elim
theorem ok__law_picks : FnOk P w K mg base CX0 2 T.f__law_picks T.d__law_picks ["_law_feed_here"] (sp_gnew K 10 850000000) := by
  have G__law_draw := ok__law_draw (P := P) (w := w) (base := base) T
  have G__law_draw := ok2__law_draw (P := P) (w := w) (base := base) T
  refine T.F__law_picks.ok sc__law_picks (fun vs H Q E h => by unfold sp_gnew at h; split at h <;> first | rfl | exact h.elim) (fun cdv A outer s H vs Q E hr h => ?_)
  have hu := hu60 hr
  have hr__law_draw := hr.mono (show 1 <= _ by decide)
  unfold sp_gnew at h
  split at h
  rotate_left
  . exact h.elim
  rename_i t
  obtain ⟨N, F, hN, q⟩ := h
  refine ⟨_, (@pss_cons _ _ _ _ _ (@ps_set _ _ 1 _ _ _ _ sc__law_picks.nd rfl (by walk_at "e") (@pe_op _ _ _ _ _ _ _ _ (kAdd (K := K)) (@pe_int _ _ _ _) (@pe_call _ _ _ _ _ _ _ _ _ _ _ _ _ _ _ _ G__law_draw hr__law_draw rfl T.m__law_draw T.F__law_draw.kp T.b__law_draw .nil pass0 (@pa_cons _ _ _ _ _ (@vw _ 0 _ _ (by walk_at "v")) (@pa1 _ _ _ (@pe_int _ _ _ _) (by rfl)) (by rfl)) (by decide) (by rfl) (by rfl))) (by rfl) (by walk_at "i")) (@pss_cons _ _ _ _ _ (@ps_set _ _ 2 _ _ _ _ sc__law_picks.nd rfl (by walk_at "e") (@pe_call _ _ _ _ _ _ _ _ _ _ _ _ _ _ _ _ G__law_draw hr__law_draw rfl T.m__law_draw T.F__law_draw.kp T.b__law_draw .nil pass0 (@pa_cons _ _ _ _ _ (@vw _ 0 _ _ (by walk_at "v")) (@pa1 _ _ _ (@pe_int _ _ _ _) (by rfl)) (by rfl)) (by decide) (by rfl) (by rfl)) (by rfl) (by walk_at "i")) (@pss_cons _ _ _ _ _ (@ps_compB _ _ _ _ _ _ _ ["_law_k"] 1 [] _ _ _ _ 3 _ _ _ rfl sc__law_picks.nd rfl rfl (@pi_range1 _ _ _ _ _ _ rfl T.z_range (@pa1 _ _ _ (@vw _ 1 _ _ (by walk_at "v")) (by rfl)) (by rfl)) (by kernel_rfl) rfl rfl (by kernel_rfl) (fun c => @pg_name _ _ 0 _ (show (["_law_k"] : List Str).Nodup by decide +kernel) rfl (by walk_at "e") (by walk_at "i")) (go_name (by decide)) (fun c => @pts_nil _) (fun c => (@vw _ 0 _ _ (by walk_at "v"))) (by rfl) (by intro _; rfl)) (@pss_cons _ _ _ _ _ (@ps_if _ _ _ _ _ _ _ _ (@tu_cmp _ _ _ _ _ _ _ _ (kEq (K := K) hu) (@pe_call _ _ _ _ _ _ _ _ _ _ _ _ _ _ _ _ G__law_draw hr__law_draw rfl T.m__law_draw T.F__law_draw.kp T.b__law_draw .nil pass0 (@pa_cons _ _ _ _ _ (@vw _ 0 _ _ (by walk_at "v")) (@pa1 _ _ _ (@pe_int _ _ _ _) (by rfl)) (by rfl)) (by decide) (by rfl) (by rfl)) (@pe_int _ _ _ _) (by walk_at "n")) (@pss_one _ _ _ (@ps_asg _ _ _ _ _ _ (@pe_call _ _ _ _ _ _ _ _ _ _ _ _ _ _ _ _ G__law_draw hr__law_draw rfl T.m__law_draw T.F__law_draw.kp T.b__law_draw .nil pass0 (@pa_cons _ _ _ _ _ (@vw _ 0 _ _ (by walk_at "v")) (@pa1 _ _ _ (@vw _ 1 _ _ (by walk_at "v")) (by rfl)) (by rfl)) (by decide) (by rfl) (by rfl)) (@pg_sub _ _ _ _ _ _ _ (@vw _ 3 _ _ (by walk_at "v")) (@pe_call _ _ _ _ _ _ _ _ _ _ _ _ _ _ _ _ G__law_draw hr__law_draw rfl T.m__law_draw T.F__law_draw.kp T.b__law_draw .nil pass0 (@pa_cons _ _ _ _ _ (@vw _ 0 _ _ (by walk_at "v")) (@pa1 _ _ _ (@vw _ 1 _ _ (by walk_at "v")) (by rfl)) (by rfl)) (by decide) (by rfl) (by rfl)) set_any (by intro _; rfl)) (by rfl) (by rfl) (by rfl))) (@pss_nil _)) (@pss_cons _ _ _ _ _ (@ps_compB _ _ _ _ _ _ _ (["_law_one", "_law_many"]) 1 [1] _ _ _ _ 4 _ _ _ rfl sc__law_picks.nd rfl rfl (@pi_range2 _ _ _ _ _ _ _ rfl T.z_range (@pa_cons _ _ _ _ _ (@vw _ 2 _ _ (by walk_at "v")) (@pa1 _ _ _ (@vw _ 1 _ _ (by walk_at "v")) (by rfl)) (by rfl)) (by rfl) (by rfl)) (by kernel_rfl) rfl rfl (by kernel_rfl) (fun c => @pg_name _ _ 0 _ (show (["_law_one", "_law_many"] : List Str).Nodup by decide +kernel) rfl (by walk_at "e") (by walk_at "i")) (go_name (by decide)) (fun c => @pts_nil _) (fun c => (@pe_callTy _ _ _ _ _ _ _ _ _ (kTuple (K := K)) rfl T.z_tuple (by rfl) (@pa1 _ _ _ (@pe_compB _ _ _ _ _ _ _ (["_law_k", "_law_one"]) 1 [0] _ _ _ _ rfl (@pi_range1 _ _ _ _ _ _ rfl T.z_range (@pa1 _ _ _ (@vw _ 1 _ _ (by walk_at "v")) (by rfl)) (by rfl)) (by kernel_rfl) rfl rfl (by kernel_rfl) (fun c => @pg_name _ _ 0 _ (show (["_law_k", "_law_one"] : List Str).Nodup by decide +kernel) rfl (by walk_at "e") (by walk_at "i")) (go_name (by decide)) (fun c => @pts_nil _) (fun c => (@pe_cmpM _ _ _ _ _ _ _ _ (kEq (K := K) hu) (@vw _ 0 _ _ (by walk_at "v")) (@vw _ 1 _ _ (by walk_at "v")) (by walk_at "n"))) (by intro _; rfl)) (by rfl)) (by decide) (by decide) (by rfl) (by rfl))) (by rfl) (by intro _; rfl)) (@pss_one _ _ _ (@ps_ret _ _ _ _ (@pe_tup _ _ _ _ _ (@pa_cons _ _ _ _ _ (@pe_callTy _ _ _ _ _ _ _ _ _ (kTuple (K := K)) rfl T.z_tuple (by rfl) (@pa1 _ _ _ (@vw _ 3 _ _ (by walk_at "v")) (by rfl)) (by decide) (by decide) (by rfl) (by rfl)) (@pa1 _ _ _ (@pe_callTy _ _ _ _ _ _ _ _ _ (kTuple (K := K)) rfl T.z_tuple (by rfl) (@pa1 _ _ _ (@vw _ 4 _ _ (by walk_at "v")) (by rfl)) (by decide) (by decide) (by rfl) (by rfl)) (by rfl)) (by rfl)))))))))), ?_⟩
  obtain ⟨c, F⟩ := F.told
  refine ⟨c, N, F, by omega, okDiv_of (by decide) (by decide), fun d1 H1 a0 a1 F1 f1 => ?_⟩
  dsimp only [gName, mAdd]
  obtain ⟨M, rfl⟩ : ∃ M : Nat, d1 = M := ⟨d1.toNat, by omega⟩
  refine ⟨c, _, F1, by omega, okDiv_of (by decide) (by decide), fun d2 H2 b0 b1 F2 f2 => ?_⟩
  dsimp only [gName]
  have f2' : Frm t H H2 := (frm_all f1).trans (frm_all f2)
  refine seq_at (fun σ H' => ∃ (l : Addr) (ls : List Int), σ = [some (.ref t), some (.int (2 + M)), some (.int d2), some (.ref l), none] /\ H l = none /\ l ≠ t /\ l ≠ c /\ H' l = some (.lst (ls.map V.int)) /\ ls.length = M + 2 /\ (∀ x ∈ ls, x.natAbs <= 10) /\ GFd H' t c (N + 2) /\ Frm t H H') ?_ ?_ (by walk_at "sm")
  . refine ⟨(2 + M : Int), rfl, by omega, by omega, ?_⟩
    refine comp_range (fun i ys H' => H' = H2 /\ ∃ ls : List Int, ys = ls.map V.int /\ ls.length = i /\ ∀ x ∈ ls, x.natAbs <= 10) ⟨rfl, [], rfl, rfl, nofun⟩ (fun i ys H' hi ⟨_, ls, e, el, _⟩ => by
      rw [e, List.length_map, el]; exact small1000 (by omega)) ?_ ?_
    . rintro i ys H' hi ⟨rfl, ls, rfl, el, hs⟩
      refine ⟨rfl, ls ++ [0 + (i : Int)], by rw [List.map_append]; rfl, by rw [List.length_append, el]; rfl, ?_⟩
      intro x hx
      rcases List.mem_append.mp hx with h | h
      . exact hs x h
      . rw [List.mem_singleton.mp h]; omega
    . rintro ys H' ⟨rfl, ls, rfl, el, hs⟩ l hl
      have hne := F2.ne hl
      exact ⟨l, ls, rfl, F2.feed.free f2' hl, hne.1, hne.2, upd_same, by omega, hs, F2.upd hl, f2'.trans (Frm.upd hl)⟩
  rintro σ H3 ⟨l, ls, rfl, hl, lt, lc, gl3, ll, hs, F3, f3⟩
  refine seq_at (fun σ H' => ∃ (ls : List Int), σ = [some (.ref t), some (.int (2 + M)), some (.int d2), some (.ref l), none] /\ H' l = some (.lst (ls.map V.int)) /\ ls.length = M + 2 /\ (∀ x ∈ ls, x.natAbs <= 10) /\ GFeed H' t (N + 10) /\ Frm t H H') ?_ ?_ (by walk_at "sm")
  . refine ⟨c, _, F3, by omega, okDiv_of (by decide) (by decide), fun d3 H4 _ _ F4 f4 => ?_⟩
    have gl4 : H4 l = some (.lst (ls.map V.int)) := by rw [f4 l lt]; exact gl3
    refine ite2 (fun e => ?_) (fun e => ⟨ls, rfl, gl4, ll, hs, F4.feed.mono (by omega), f3.trans (frm_all f4)⟩)
    refine ⟨c, _, F4, by omega, okDiv_of (by omega) (by omega), fun d4 H5 p0 p1 F5 f5 => ?_⟩
    refine ⟨c, _, F5, by omega, okDiv_of (by omega) (by omega), fun d5 H6 q0 q1 F6 f6 => ?_⟩
    have gl6 : H6 l = some (.lst (ls.map V.int)) := by rw [f6 l lt, f5 l lt]; exact gl4
    have hd5 : ixN (ls.map V.int).length d5 = some d5.toNat := by
      rw [List.length_map]
      unfold ixN
      rw [if_pos (by omega), if_pos (by omega)]
    refine ⟨_, _, gl6, hd5, ls.set d5.toNat d4, rfl, by rw [upd_same, List.map_set], by rw [List.length_set]; exact ll, ?_, (F6.put ⟨lt, lc⟩).feed.mono (by omega), frm_new (f3.trans ((frm_all f4).trans ((frm_all f5).trans (frm_all f6)))) hl⟩
    intro x hx
    rcases List.mem_or_eq_of_mem_set hx with h | h
    . exact hs x h
    . rw [h]; omega
  rintro σ H4 ⟨ls, rfl, gl4, ll, hs, F4, f4⟩
  have n0 : (0 : Int) <= 2 + M - d2 := by omega
  refine ⟨d2, 2 + M, rfl, ⟨by omega, by omega, by omega, by omega⟩, ?_⟩
  obtain ⟨W, hW, w1, w7⟩ : ∃ W : Nat, (2 + (M : Int) - d2).toNat = W /\ 1 <= W /\ W <= 7 := ⟨_, rfl, by omega, by omega⟩
  rw [hW]
  refine comp_range (fun i ys H' => Same H4 H' /\ ∃ rs : List (List Bool), rs.length = i /\ (∀ r ∈ rs, r.length = M + 2) /\ Reps K H' (tabsD rs) ys) ⟨fun _ _ e => e, [], rfl, nofun, reps_nil⟩ (fun i ys H' hi ⟨_, rs, e, _, R'⟩ => by
    rw [<- R'.length, tabsD_len]; exact small1000 (by omega)) ?_ ?_
  . rintro i ys H1 hi ⟨S1, rs, rfl, hr1, R1⟩
    refine ⟨(2 + M : Int), rfl, by omega, by omega, ?_⟩
    refine comp_range (fun j zs H' => H' = H1 /\ ∃ bs : List Bool, zs = bs.map V.bl /\ bs.length = j) ⟨rfl, [], rfl, rfl⟩ (fun j zs H' hj ⟨_, bs, e, el⟩ => by
      rw [e, List.length_map, el]; exact small1000 (by omega)) ?_ ?_
    . rintro j zs H' hj ⟨rfl, bs, rfl, rfl⟩
      exact ⟨rfl, bs ++ [_], by rw [List.map_append]; rfl, by rw [List.length_append]; rfl⟩
    . rintro zs H' ⟨rfl, bs, rfl, hb⟩ k hk
      refine ⟨_, .inl ⟨.of upd_same, fun p hp => ?_⟩⟩
      have s3 := (Same.upd (o := .lst (bs.map V.bl)) hk).trans (Same.upd (o := .tup (bs.map V.bl)) hp)
      refine ⟨S1.trans s3, rs ++ [bs], by rw [List.length_append]; rfl, ?_, ?_⟩
      . intro r hr'
        rcases List.mem_append.mp hr' with h | h
        . exact hr1 r h
        . rw [List.mem_singleton.mp h]; omega
      . have e : tabsD (rs ++ [bs]) = tabsD rs ++ [.tup (bs.map Dv.bl)] := by unfold tabsD; rw [List.map_append]; rfl
        rw [e]
        exact Reps.append (Reps.same s3 _ _ R1) (reps_cons (rep_tup1 upd_same (reps_bl bs)) reps_nil)
  . rintro ys H1 ⟨S1, rs, hrl, hr1, R1⟩ k hk
    have s2 : Same H1 (upd H1 k (.lst ys)) := Same.upd hk
    have g2 : upd H1 k (.lst ys) k = some (.lst ys) := upd_same
    generalize upd H1 k (.lst ys) = H2' at *
    dsimp only [gName]
    refine ⟨_, .inl ⟨.of (s2 _ _ (S1 _ _ gl4)), fun p hp => ?_⟩⟩
    have s3 : Same H2' (upd H2' p (.tup (ls.map V.int))) := Same.upd hp
    have g3 : upd H2' p (.tup (ls.map V.int)) p = some (.tup (ls.map V.int)) := upd_same
    generalize upd H2' p (.tup (ls.map V.int)) = H3' at *
    refine ⟨_, .inl ⟨.of (s3 _ _ g2), fun p4 hp4 => ?_⟩⟩
    refine ⟨small_le (show 2 <= 1000 by decide), fun p5 hp5 => ?_⟩
    have s5 := (Same.upd (o := .tup ys) hp4).trans (Same.upd (o := .tup [.ref p, .ref p4]) hp5)
    have S5 := S1.trans (s2.trans (s3.trans s5))
    refine q ls rs _ _ ⟨by omega, by omega, by omega, by omega, fun r h => by rw [hr1 r h]; omega, fun x h => Nat.le_trans (hs x h) (by decide)⟩ ?_ (F4.same S5) (f4.trans fun b o _ e => S5 b o e)
    exact rep_tup1 upd_same (reps_cons (rep_tup1 (s5 _ _ g3) (reps_int1 ls)) (reps_cons (rep_tup1 (Same.upd hp5 _ _ upd_same) (Reps.same (s2.trans (s3.trans s5)) _ _ R1)) reps_nil))
theorem atI_bd {ns : List Int} {i lo hi : Int} (h0 : 0 <= i) (h1 : i < ns.length) (h : ∀ x ∈ ns, lo <= x /\ x <= hi) : ∃ z, atI (ns.map V.int) i = some (.int z) /\ lo <= z /\ z <= hi := by
  have hi' : i.toNat < ns.length := by omega
  exact ⟨ns[i.toNat], atI_of (n := i.toNat) (by omega) (by rw [List.getElem?_map, List.getElem?_eq_getElem hi']; rfl), h _ (List.getElem_mem hi')⟩
theorem three_at {a b c : V} {i : Int} (h0 : 0 <= i) (h1 : i < 3) : ∃ z, atI [a, b, c] i = some z /\ (z = a \/ z = b \/ z = c) := by
  obtain ⟨n, rfl⟩ : ∃ n : Nat, i = n := ⟨i.toNat, by omega⟩
  match n, h1 with
  | 0, _ => exact ⟨a, rfl, .inl rfl⟩
  | 1, _ => exact ⟨b, rfl, .inr (.inl rfl)⟩
  | 2, _ => exact ⟨c, rfl, .inr (.inr rfl)⟩
  | n + 3, h => omega
theorem ok__law_any_game : FnOk P w K mg base CX0 2 T.f__law_any_game T.d__law_any_game ["_law_feed_here"] (sp_gnew K 300 850000000) := by
  have G__law_draw := ok__law_draw (P := P) (w := w) (base := base) T
  refine T.F__law_any_game.ok sc__law_any_game (fun vs H Q E h => by unfold sp_gnew at h; split at h <;> first | rfl | exact h.elim) (fun cdv A outer s H vs Q E hr h => ?_)
  have hu := hu60 hr
  have hr__law_draw := hr.mono (show 1 <= _ by decide)
  unfold sp_gnew at h
  split at h
  rotate_left
  . exact h.elim
  rename_i t
  obtain ⟨N, F, hN, q⟩ := h
  refine ⟨_, (@pss_cons _ _ _ _ _ (@ps_set _ _ 1 _ _ _ _ sc__law_any_game.nd rfl (by walk_at "e") (@pe_lst _ _ _ _ (@pa_cons _ _ _ _ _ (@pe_op _ _ _ _ _ _ _ _ (kAdd (K := K)) (@pe_int _ _ _ _) (@pe_call _ _ _ _ _ _ _ _ _ _ _ _ _ _ _ _ G__law_draw hr__law_draw rfl T.m__law_draw T.F__law_draw.kp T.b__law_draw .nil pass0 (@pa_cons _ _ _ _ _ (@vw _ 0 _ _ (by walk_at "v")) (@pa1 _ _ _ (@pe_int _ _ _ _) (by rfl)) (by rfl)) (by decide) (by rfl) (by rfl))) (@pa_cons _ _ _ _ _ (@pe_op _ _ _ _ _ _ _ _ (kAdd (K := K)) (@pe_int _ _ _ _) (@pe_call _ _ _ _ _ _ _ _ _ _ _ _ _ _ _ _ G__law_draw hr__law_draw rfl T.m__law_draw T.F__law_draw.kp T.b__law_draw .nil pass0 (@pa_cons _ _ _ _ _ (@vw _ 0 _ _ (by walk_at "v")) (@pa1 _ _ _ (@pe_int _ _ _ _) (by rfl)) (by rfl)) (by decide) (by rfl) (by rfl))) (@pa_cons _ _ _ _ _ (@pe_op _ _ _ _ _ _ _ _ (kAdd (K := K)) (@pe_int _ _ _ _) (@pe_call _ _ _ _ _ _ _ _ _ _ _ _ _ _ _ _ G__law_draw hr__law_draw rfl T.m__law_draw T.F__law_draw.kp T.b__law_draw .nil pass0 (@pa_cons _ _ _ _ _ (@vw _ 0 _ _ (by walk_at "v")) (@pa1 _ _ _ (@pe_int _ _ _ _) (by rfl)) (by rfl)) (by decide) (by rfl) (by rfl))) (@pa1 _ _ _ (@pe_op _ _ _ _ _ _ _ _ (kAdd (K := K)) (@pe_int _ _ _ _) (@pe_call _ _ _ _ _ _ _ _ _ _ _ _ _ _ _ _ G__law_draw hr__law_draw rfl T.m__law_draw T.F__law_draw.kp T.b__law_draw .nil pass0 (@pa_cons _ _ _ _ _ (@vw _ 0 _ _ (by walk_at "v")) (@pa1 _ _ _ (@pe_int _ _ _ _) (by rfl)) (by rfl)) (by decide) (by rfl) (by rfl))) (by rfl)) (by rfl)) (by rfl)) (by rfl))) (by rfl) (by walk_at "i")) (@pss_cons _ _ _ _ _ (@ps_set _ _ 1 _ _ _ _ sc__law_any_game.nd rfl (by walk_at "e") (@kIx _ K _ _ _ _ _ (@vw _ 1 _ _ (by walk_at "v")) (@pe_call _ _ _ _ _ _ _ _ _ _ _ _ _ _ _ _ G__law_draw hr__law_draw rfl T.m__law_draw T.F__law_draw.kp T.b__law_draw .nil pass0 (@pa_cons _ _ _ _ _ (@vw _ 0 _ _ (by walk_at "v")) (@pa1 _ _ _ (@pe_int _ _ _ _) (by rfl)) (by rfl)) (by decide) (by rfl) (by rfl)) (by intro _ _; rfl) (by rfl)) (by rfl) (by walk_at "i")) (@pss_cons _ _ _ _ _ (@ps_set _ _ 2 _ _ _ _ sc__law_any_game.nd rfl (by walk_at "e") (@kIx _ K _ _ _ _ _ (@pe_lst _ _ _ _ (@pa_cons _ _ _ _ _ (@pe_op _ _ _ _ _ _ _ _ (kAdd (K := K)) (@pe_int _ _ _ _) (@pe_call _ _ _ _ _ _ _ _ _ _ _ _ _ _ _ _ G__law_draw hr__law_draw rfl T.m__law_draw T.F__law_draw.kp T.b__law_draw .nil pass0 (@pa_cons _ _ _ _ _ (@vw _ 0 _ _ (by walk_at "v")) (@pa1 _ _ _ (@pe_int _ _ _ _) (by rfl)) (by rfl)) (by decide) (by rfl) (by rfl))) (@pa_cons _ _ _ _ _ (@pe_op _ _ _ _ _ _ _ _ (kAdd (K := K)) (@pe_int _ _ _ _) (@pe_call _ _ _ _ _ _ _ _ _ _ _ _ _ _ _ _ G__law_draw hr__law_draw rfl T.m__law_draw T.F__law_draw.kp T.b__law_draw .nil pass0 (@pa_cons _ _ _ _ _ (@vw _ 0 _ _ (by walk_at "v")) (@pa1 _ _ _ (@pe_int _ _ _ _) (by rfl)) (by rfl)) (by decide) (by rfl) (by rfl))) (@pa1 _ _ _ (@pe_op _ _ _ _ _ _ _ _ (kAdd (K := K)) (@pe_int _ _ _ _) (@pe_call _ _ _ _ _ _ _ _ _ _ _ _ _ _ _ _ G__law_draw hr__law_draw rfl T.m__law_draw T.F__law_draw.kp T.b__law_draw .nil pass0 (@pa_cons _ _ _ _ _ (@vw _ 0 _ _ (by walk_at "v")) (@pa1 _ _ _ (@pe_int _ _ _ _) (by rfl)) (by rfl)) (by decide) (by rfl) (by rfl))) (by rfl)) (by rfl)) (by rfl))) (@pe_call _ _ _ _ _ _ _ _ _ _ _ _ _ _ _ _ G__law_draw hr__law_draw rfl T.m__law_draw T.F__law_draw.kp T.b__law_draw .nil pass0 (@pa_cons _ _ _ _ _ (@vw _ 0 _ _ (by walk_at "v")) (@pa1 _ _ _ (@pe_int _ _ _ _) (by rfl)) (by rfl)) (by decide) (by rfl) (by rfl)) (by intro _ _; rfl) (by rfl)) (by rfl) (by walk_at "i")) (@pss_cons _ _ _ _ _ (@ps_setN _ _ 3 _ _ _ _ sc__law_any_game.nd rfl (by walk_at "e") (@kIx _ K _ _ _ _ _ (@pe_lst _ _ _ _ (@pa_cons _ _ _ _ _ (@pe_lst _ _ _ _ (@pa_cons _ _ _ _ _ pe_int (@pa1 _ _ _ pe_int (by rfl)) (by rfl))) (@pa_cons _ _ _ _ _ (@pe_lst _ _ _ _ (@pa_cons _ _ _ _ _ (pe_un um_neg pe_int) (@pa_cons _ _ _ _ _ (pe_op om_pow pe_int pe_int) (@pa1 _ _ _ pe_int (by rfl)) (by rfl)) (by rfl))) (@pa_cons _ _ _ _ _ (@pe_lst _ _ _ _ (@pa_cons _ _ _ _ _ pe_int (@pa_cons _ _ _ _ _ pe_int (@pa_cons _ _ _ _ _ pe_int (@pa_cons _ _ _ _ _ pe_int (@pa_cons _ _ _ _ _ pe_int (@pa_cons _ _ _ _ _ pe_int (@pa_cons _ _ _ _ _ pe_int (@pa_cons _ _ _ _ _ pe_int (@pa_cons _ _ _ _ _ pe_int (@pa1 _ _ _ pe_int (by rfl)) (by rfl)) (by rfl)) (by rfl)) (by rfl)) (by rfl)) (by rfl)) (by rfl)) (by rfl)) (by rfl))) (@pa_nil _) L2.star_lst) L2.star_lst) L2.star_lst)) (pe_call G__law_draw hr__law_draw rfl T.m__law_draw T.F__law_draw.kp T.b__law_draw .nil pass0 (pa_cons (vv 0) (pa_cons pe_int pa_nil))) (by intro _ _; rfl) (by rfl)) rfl (by first | exact .inl rfl | exact .inr rfl))
      (pss_cons (ps_compB (N' := ["_law_k", "_law_names", "_law_feed_here"]) (own := 1) (ix := [3, 0]) (i := 4) rfl sc__law_any_game.nd rfl rfl (pi_range1 rfl T.z_range (pa_cons (vv 1) pa_nil)) (by kernel_rfl) rfl rfl (by kernel_rfl) (fun c => pg_name (i := 0) (show (["_law_k", "_law_names", "_law_feed_here"] : List Str).Nodup by decide +kernel) rfl (by walk_at "e")) (go_name (by decide)) (fun c => pts_nil) (fun c => (kIx (K := K) (vv 1) (pe_call G__law_draw hr__law_draw rfl T.m__law_draw T.F__law_draw.kp T.b__law_draw .nil pass0 (pa_cons (vv 2) (pa_cons (pe_callB (kLen (K := K)) rfl T.z_len (by rfl) (pa_cons (vv 1) pa_nil)) pa_nil))))) (by rfl))
      (pss_cons (ps_set (i := 5) sc__law_any_game.nd rfl (by walk_at "e") (pe_lst pa_nil))
      (pss_cons (ps_for PassesOwn.never rfl (pi_range1 rfl T.z_range (pa_cons (vv 2) pa_nil)) (pg_name (i := 6) sc__law_any_game.nd rfl (by walk_at "e"))
      (pss_one (ps_expr (kAppend (K := K) (vv 5) (pa_cons (pe_callTy (kTuple (K := K)) rfl T.z_tuple (by rfl) (pa_cons (pe_compB (N' := ["_law_thing", "_law_feed_here"]) (own := 1) (ix := [0]) rfl (pi_range1 rfl T.z_range (pa_cons (vv 1) pa_nil)) (by kernel_rfl) rfl rfl (by kernel_rfl) (fun c => pg_name (i := 0) (show (["_law_thing", "_law_feed_here"] : List Str).Nodup by decide +kernel) rfl (by walk_at "e")) (go_name (by decide)) (fun c => pts_nil) (fun c => (pe_cmpM (kEq (K := K) hu) (pe_call G__law_draw hr__law_draw rfl T.m__law_draw T.F__law_draw.kp T.b__law_draw .nil pass0 (pa_cons (vv 1) (pa_cons pe_int pa_nil))) pe_int))) pa_nil)) pa_nil)))))
      (pss_one (ps_ret (pe_tup (pa_cons (pe_callTy (kTuple (K := K)) rfl T.z_tuple (by rfl) (pa_cons (vv 4) pa_nil)) (pa_cons (pe_callTy (kTuple (K := K)) rfl T.z_tuple (by rfl) (pa_cons (vv 5) pa_nil)) pa_nil)))))))))))), ?_⟩
  have d4 : okDiv 4 := okDiv_of (by decide) (by decide)
  have d5 : okDiv 5 := okDiv_of (by decide) (by decide)
  have d6 : okDiv 6 := okDiv_of (by decide) (by decide)
  have d3 : okDiv 3 := okDiv_of (by decide) (by decide)
  have d16 : okDiv 16 := okDiv_of (by decide) (by decide)
  refine seq_at (fun σ H' => ∃ (l : Addr) (a b c d : Int), σ = [some (.ref t), some (.ref l), none, none, none, none, none] /\ H' l = some (.lst ([a, b, c, d].map V.int)) /\ l ≠ t /\ (∀ x ∈ [a, b, c, d], 1 <= x /\ x <= 10) /\ GFeed H' t (N + 4) /\ Frm t H H') ?_ ?_ (by walk_at "sm")
  . refine ⟨_, F, by omega, d6, fun a H1 a0 a1 F1 f1 => ?_⟩
    refine ⟨_, F1, by omega, d6, fun b H2 b0 b1 F2 f2 => ?_⟩
    refine ⟨_, F2, by omega, d6, fun c H3 c0 c1 F3 f3 => ?_⟩
    refine ⟨_, F3, by omega, d4, fun d H4 d0 d1 F4 f4 => ?_⟩
    refine ⟨small_le (show 4 <= 1000 by decide), fun l hl => ?_⟩
    refine ⟨l, 1 + a, 2 + b, 2 + c, 7 + d, rfl, upd_same, F4.neT hl, ?_, F4.upd hl, (((frm_all f1).trans (frm_all f2)).trans ((frm_all f3).trans (frm_all f4))).trans (Frm.upd hl)⟩
    simp only [List.mem_cons, List.not_mem_nil, or_false]
    omega
  rintro σ H1 ⟨l, a, b, c, d, rfl, gl, lt, hb, F1, f1⟩
  refine seq_at (fun σ H' => ∃ M : Nat, σ = [some (.ref t), some (.int M), none, none, none, none, none] /\ 1 <= M /\ M <= 10 /\ GFeed H' t (N + 5) /\ Frm t H H') ?_ ?_ (by walk_at "sm")
  . refine ⟨_, F1, by omega, d4, fun i H2 i0 i1 F2 f2 => ?_⟩
    obtain ⟨z, hz, z1, z2⟩ := atI_bd (ns := [a, b, c, d]) i0 i1 hb
    refine ⟨_, _, .inl (.of (by rw [f2 l lt]; exact gl)), hz, z.toNat, ?_, by omega, by omega, F2, f1.trans (frm_all f2)⟩
    rw [Int.toNat_of_nonneg (by omega)]
    rfl
  clear gl lt hb F1 f1
  rintro σ H1 ⟨M, rfl, M1, M10, F1, f1⟩
  refine seq_at (fun σ H' => ∃ W : Nat, σ = [some (.ref t), some (.int M), some (.int W), none, none, none, none] /\ 1 <= W /\ W <= 16 /\ GFeed H' t (N + 9) /\ Frm t H H') ?_ ?_ (by walk_at "sm")
  . refine ⟨_, F1, by omega, d5, fun a H2 a0 a1 F2 f2 => ?_⟩
    refine ⟨_, F2, by omega, d4, fun b H3 b0 b1 F3 f3 => ?_⟩
    refine ⟨_, F3, by omega, d16, fun c H4 c0 c1 F4 f4 => ?_⟩
    refine ⟨small_le (show 3 <= 1000 by decide), fun l hl => ?_⟩
    have F5 := F4.upd (o := .lst [.int (1 + a), .int (2 + b), .int (1 + c)]) hl
    refine ⟨_, F5, by omega, d3, fun i H6 i0 i1 F6 f6 => ?_⟩
    obtain ⟨z, hz, z1, z2⟩ := atI_bd (ns := [1 + a, 2 + b, 1 + c]) (lo := 1) (hi := 16) i0 i1 (by
      simp only [List.mem_cons, List.not_mem_nil, or_false]
      omega)
    refine ⟨_, _, .inl (.of (by rw [f6 l (F4.neT hl)]; exact upd_same)), hz, z.toNat, ?_, by omega, by omega, F6.mono (by omega), f1.trans (((frm_all f2).trans ((frm_all f3).trans (frm_all f4))).trans ((Frm.upd hl).trans (frm_all f6)))⟩
    rw [Int.toNat_of_nonneg (by omega)]
    rfl
  clear F1 f1
  rintro σ H1 ⟨W, rfl, W1, W16, F1, f1⟩
  refine seq_at (fun σ H' => ∃ (l : Addr) (ns : List Int), σ = [some (.ref t), some (.int M), some (.int W), some (.ref l), none, none, none] /\ H' l = some (.lst (ns.map V.int)) /\ l ≠ t /\ 1 <= ns.length /\ ns.length <= 10 /\ (∀ x ∈ ns, x.natAbs <= 100000000000000000000) /\ GFeed H' t (N + 10) /\ Frm t H H') ?_ ?_ (by walk_at "sm")
  . have bound : ∀ (x : V) (l : Addr) (ns : List Int) (H' : Hp), x = .ref l -> H' l = some (.lst (ns.map V.int)) -> l ≠ t -> 1 <= ns.length -> ns.length <= 10 -> (∀ x ∈ ns, x.natAbs <= 100000000000000000000) -> GFeed H' t (N + 10) -> Frm t H H' -> ∃ (l : Addr) (ns : List Int), [some (V.ref t), some (.int M), some (.int W), some x, none, none, none] = [some (.ref t), some (.int M), some (.int W), some (.ref l), none, none, none] /\ H' l = some (.lst (ns.map V.int)) /\ l ≠ t /\ 1 <= ns.length /\ ns.length <= 10 /\ (∀ x ∈ ns, x.natAbs <= 100000000000000000000) /\ GFeed H' t (N + 10) /\ Frm t H H' :=
      fun x l ns H' e h1 h2 h3 h4 h5 h6 h7 => ⟨l, ns, by rw [e], h1, h2, h3, h4, h5, h6, h7⟩
    refine ⟨small_le (show 2 <= 1000 by decide), fun p hp => ?_⟩
    have sa : Same H1 (upd H1 p (.lst [.int 0, .int 1])) := Same.upd hp
    have ga : upd H1 p (.lst [.int 0, .int 1]) p = some (.lst [.int 0, .int 1]) := upd_same
    generalize upd H1 p (.lst [.int 0, .int 1]) = Ha at *
    refine ⟨⟨by decide, by decide, by decide⟩, ?_⟩
    refine ⟨small_le (show 3 <= 1000 by decide), fun p2 hp2 => ?_⟩
    generalize hten : (10 : Int) ^ Int.toNat 20 = ten
    have sb : Same Ha (upd Ha p2 (.lst [.int (-7), .int ten, .int 3])) := Same.upd hp2
    have gb : upd Ha p2 (.lst [.int (-7), .int ten, .int 3]) p2 = some (.lst [.int (-7), .int ten, .int 3]) := upd_same
    generalize upd Ha p2 (.lst [.int (-7), .int ten, .int 3]) = Hb at *
    refine ⟨small_le (show 10 <= 1000 by decide), fun p3 hp3 => ?_⟩
    have sc : Same Hb (upd Hb p3 (.lst ([5, 1, 4, 2, 3, 0, 7, 6, 8, 9].map V.int))) := Same.upd hp3
    have gc : upd Hb p3 (.lst ([5, 1, 4, 2, 3, 0, 7, 6, 8, 9].map V.int)) p3 = some (.lst ([5, 1, 4, 2, 3, 0, 7, 6, 8, 9].map V.int)) := upd_same
    refine (show ∀ Hc, Same Hb Hc -> Hc p3 = some (.lst ([5, 1, 4, 2, 3, 0, 7, 6, 8, 9].map V.int)) -> _ from ?_) (upd Hb p3 (.lst ([5, 1, 4, 2, 3, 0, 7, 6, 8, 9].map V.int))) sc gc
    clear sc gc
    intro Hc sc gc
    refine ⟨small_le (show 3 <= 1000 by decide), fun p4 hp4 => ?_⟩
    have sd : Same Hc (upd Hc p4 (.lst [.ref p, .ref p2, .ref p3])) := Same.upd hp4
    have gd : upd Hc p4 (.lst [.ref p, .ref p2, .ref p3]) p4 = some (.lst [.ref p, .ref p2, .ref p3]) := upd_same
    have Fc := F1.same (sa.trans (sb.trans sc))
    have pt : p ≠ t := F1.neT hp
    have pt2 : p2 ≠ t := (F1.same sa).neT hp2
    have pt3 : p3 ≠ t := (F1.same (sa.trans sb)).neT hp3
    have pt4 : p4 ≠ t := Fc.neT hp4
    generalize upd Hc p4 (.lst [.ref p, .ref p2, .ref p3]) = Hd at *
    have S := sa.trans (sb.trans (sc.trans sd))
    refine ⟨_, F1.same S, by omega, d3, fun i H5 i0 i1 F5 f5 => ?_⟩
    obtain ⟨z, hz, hz3⟩ := three_at (a := V.ref p) (b := V.ref p2) (c := V.ref p3) i0 i1
    refine ⟨_, _, .inl (.of (by rw [f5 p4 pt4]; exact gd)), hz, ?_⟩
    have f : Frm t H H5 := f1.trans (Frm.trans (fun b o _ e => S b o e) (frm_all f5))
    rcases hz3 with e | e | e
    . exact bound z p [0, 1] H5 e (by rw [f5 p pt]; exact (sb.trans (sc.trans sd)) _ _ ga) pt (by decide) (by decide) (by decide) F5 f
    . refine bound z p2 [-7, ten, 3] H5 e (by rw [f5 p2 pt2]; exact (sc.trans sd) _ _ gb) pt2 (show 1 <= 3 by decide) (show 3 <= 10 by decide) ?_ F5 f
      rw [<- hten]
      decide
    . exact bound z p3 [5, 1, 4, 2, 3, 0, 7, 6, 8, 9] H5 e (by rw [f5 p3 pt3]; exact sd _ _ gc) pt3 (by decide) (by decide) (by decide) F5 f
  rintro σ H2 ⟨l, ns, rfl, gl, lt, n1, n10, hn, F2, f2⟩
  refine seq_at (fun σ H' => ∃ (z : V) (k : Addr) (ls : List Int), σ = [some (.ref t), some (.int M), some (.int W), z, some (.ref k), none, none] /\ H' k = some (.lst (ls.map V.int)) /\ k ≠ t /\ ls.length = M /\ (∀ x ∈ ls, x.natAbs <= 100000000000000000000) /\ GFeed H' t (N + 10 + M) /\ Frm t H H') ?_ ?_ (by walk_at "sm")
  . refine ⟨(M : Int), rfl, by omega, by omega, ?_⟩
    refine comp_range (fun i ys H' => GFeed H' t (N + 10 + i) /\ Frm t H H' /\ H' l = some (.lst (ns.map V.int)) /\ ∃ ls : List Int, ys = ls.map V.int /\ ls.length = i /\ ∀ x ∈ ls, x.natAbs <= 100000000000000000000) ⟨F2, f2, gl, [], rfl, rfl, nofun⟩ (fun i ys H' hi ⟨_, _, _, ls, e, el, _⟩ => by
      rw [e, List.length_map, el]; exact small1000 (by omega)) ?_ ?_
    . rintro i ys H3 hi ⟨F3, f3, gl3, ls, rfl, el, hs⟩
      refine ⟨_, .inl ⟨_, .of gl3, rfl⟩, ?_⟩
      refine ⟨_, F3, by omega, okDiv_of (by rw [List.length_map]; omega) (by rw [List.length_map]; omega), fun d H4 x0 x1 F4 f4 => ?_⟩
      rw [List.length_map] at x1
      have hd : d.toNat < ns.length := by omega
      refine ⟨_, _, .inl (.of (by rw [f4 l lt]; exact gl3)), atI_of (n := d.toNat) (by omega) (by rw [List.getElem?_map, List.getElem?_eq_getElem hd]; rfl), F4.mono (by omega), f3.trans (frm_all f4), by rw [f4 l lt]; exact gl3, ls ++ [ns[d.toNat]], by rw [List.map_append]; rfl, by rw [List.length_append, el]; rfl, ?_⟩
      intro x hx
      rcases List.mem_append.mp hx with h | h
      . exact hs x h
      . rw [List.mem_singleton.mp h]; exact hn _ (List.getElem_mem hd)
    . rintro ys H3 ⟨F3, f3, gl3, ls, rfl, el, hs⟩ k hk
      rw [Int.toNat_natCast] at el F3
      exact ⟨_, k, ls, rfl, upd_same, F3.neT hk, el, hs, F3.upd hk, f3.trans (Frm.upd hk)⟩
  clear F2 f2 gl
  rintro σ H2 ⟨z, k, ls, rfl, gk, kt, ll, hs, F2, f2⟩
  refine ⟨small_le (show 0 <= 1000 by decide), fun r hr' => ?_⟩
  have hrH : H r = none := F2.free f2 hr'
  have rt : r ≠ t := F2.neT hr'
  have rk : k ≠ r := fun e => by rw [e, hr'] at gk; cases gk
  dsimp only [gName]
  refine seq_at (fun σ H' => ∃ (z6 : Option V) (rs : List (List Bool)) (ys : List V), σ = [some (.ref t), some (.int M), some (.int W), z, some (.ref k), some (.ref r), z6] /\ H' k = some (.lst (ls.map V.int)) /\ H' r = some (.lst ys) /\ rs.length = W /\ (∀ b ∈ rs, b.length = M) /\ Reps K H' (tabsD rs) ys /\ GFeed H' t (N + 300) /\ Frm t H H') ?_ ?_ (by walk_at "sm")
  . refine ⟨(W : Int), rfl, by omega, by omega, ?_⟩
    refine for_range (fun i σ H' => ∃ (z6 : Option V) (rs : List (List Bool)) (ys : List V), σ = [some (.ref t), some (.int M), some (.int W), z, some (.ref k), some (.ref r), z6] /\ H' k = some (.lst (ls.map V.int)) /\ H' r = some (.lst ys) /\ rs.length = i /\ (∀ b ∈ rs, b.length = M) /\ Reps K H' (tabsD rs) ys /\ GFeed H' t (N + 10 + M + M * i) /\ Frm t H H') ⟨none, [], [], rfl, by rw [upd_ne rk]; exact gk, upd_same, rfl, nofun, reps_nil, F2.upd hr', f2.trans (Frm.upd hr')⟩ ?_ ?_
    . rintro i σ H3 hi ⟨z6, rs, ys, rfl, gk3, gr3, rl, hb, R3, F3, f3⟩
      have hMi : M * i <= 160 := Nat.le_trans (Nat.mul_le_mul M10 (show i <= 16 by omega)) (by decide)
      have hyl : ys.length = i := by rw [<- R3.length, tabsD_len, rl]
      refine ⟨.inl ⟨rfl, _, .of gr3⟩, ?_⟩
      refine ⟨(M : Int), rfl, by omega, by omega, ?_⟩
      refine comp_range (fun j zs H' => GFeed H' t (N + 10 + M + M * i + j) /\ Frm t H3 H' /\ ∃ bs : List Bool, zs = bs.map V.bl /\ bs.length = j) ⟨F3, Frm.refl, [], rfl, rfl⟩ (fun j zs H' hj ⟨_, _, bs, e, el⟩ => by
        rw [e, List.length_map, el]; exact small1000 (by omega)) ?_ ?_
      . rintro j zs H4 hj ⟨F4, f4, bs, rfl, rfl⟩
        refine ⟨_, F4, by omega, okDiv_of (by decide) (by decide), fun d H5 _ _ F5 f5 => ?_⟩
        exact ⟨F5.mono (by omega), f4.trans (frm_all f5), bs ++ [_], by rw [List.map_append]; rfl, by rw [List.length_append]; rfl⟩
      . rintro zs H4 ⟨F4, f4, bs, rfl, el⟩ k4 hk4
        rw [Int.toNat_natCast] at el F4
        refine ⟨_, .inl ⟨.of upd_same, fun p hp => ?_⟩⟩
        have s5 := (Same.upd (o := .lst (bs.map V.bl)) hk4).trans (Same.upd (o := .tup (bs.map V.bl)) hp)
        have g5 := upd_same (H := upd H4 k4 (.lst (bs.map V.bl))) (a := p) (o := .tup (bs.map V.bl))
        generalize upd (upd H4 k4 (.lst (bs.map V.bl))) p (.tup (bs.map V.bl)) = H5 at *
        have f35 : Frm t H3 H5 := f4.trans fun b o _ e => s5 b o e
        have gr5 : H5 r = some (.lst ys) := f35 _ _ rt gr3
        have R5 : Reps K H5 (tabsD (rs ++ [bs])) (ys ++ [.ref p]) := by
          have e : tabsD (rs ++ [bs]) = tabsD rs ++ [.tup (bs.map Dv.bl)] := by unfold tabsD; rw [List.map_append]; rfl
          rw [e]
          exact Reps.append (Reps.frm f35 F3.lst _ _ (tups_tabs _) R3) (reps_cons (rep_tup1 g5 (reps_bl bs)) reps_nil)
        refine ⟨_, gr5, small1000 (by omega), ?_⟩
        refine ⟨_, rs ++ [bs], _, rfl, by rw [upd_ne rk]; exact f35 _ _ kt gk3, upd_same, by rw [List.length_append, rl]; rfl, ?_, Reps.frm Frm.updT ⟨_, gr5⟩ _ _ (tups_tabs _) R5, ((F4.same s5).put rt gr5 (tabs_ref (Reps.frm f35 F3.lst _ _ (tups_tabs _) R3))).mono (by rw [Nat.mul_succ]; omega), frm_new (f3.trans f35) hrH⟩
        intro b hb'
        rcases List.mem_append.mp hb' with h | h
        . exact hb b h
        . rw [List.mem_singleton.mp h]; exact el
    . rintro σ H3 ⟨z6, rs, ys, rfl, gk3, gr3, rl, hb, R3, F3, f3⟩
      rw [Int.toNat_natCast] at rl F3
      have hMi : M * W <= 160 := Nat.le_trans (Nat.mul_le_mul M10 W16) (by decide)
      exact ⟨z6, rs, ys, rfl, gk3, gr3, rl, hb, R3, F3.mono (by omega), f3⟩
  rintro σ H3 ⟨z6, rs, ys, rfl, gk3, gr3, rl, hb, R3, F3, f3⟩
  refine ⟨_, .inl ⟨.of gk3, fun p hp => ?_⟩⟩
  have s4 : Same H3 (upd H3 p (.tup (ls.map V.int))) := Same.upd hp
  have g4 : upd H3 p (.tup (ls.map V.int)) p = some (.tup (ls.map V.int)) := upd_same
  generalize upd H3 p (.tup (ls.map V.int)) = H4 at *
  refine ⟨_, .inl ⟨.of (s4 _ _ gr3), fun p4 hp4 => ?_⟩⟩
  refine ⟨small_le (show 2 <= 1000 by decide), fun p5 hp5 => ?_⟩
  have s5 := (Same.upd (o := .tup ys) hp4).trans (Same.upd (o := .tup [.ref p, .ref p4]) hp5)
  have S5 := s4.trans s5
  refine q ls rs _ _ ⟨by omega, by omega, by omega, by omega, fun r h => by rw [hb r h]; omega, hs⟩ ?_ (F3.same S5) (f3.trans fun b o _ e => S5 b o e)
  exact rep_tup1 upd_same (reps_cons (rep_tup1 (s5 _ _ g4) (reps_int1 ls)) (reps_cons (rep_tup1 (Same.upd hp5 _ _ upd_same) (Reps.same S5 _ _ R3)) reps_nil))
theorem gameD_gm (bs : List Bool) (m : Nat) (h : bs.length = 2 ^ m) (m1 : 1 <= m) (m4 : m <= 4) : ∃ ls rs, gameD bs m = gmD ls rs /\ Gm ls rs := by
  have h16 : 2 ^ m <= 16 := Nat.pow_le_pow_right (n := 2) (j := 4) (by decide) m4
  have h2 : 2 <= 2 ^ m := Nat.pow_le_pow_right (n := 2) (i := 1) (by decide) m1
  refine ⟨bs.map fun b => if b then 1 else 0, (List.range m).map (rowB m), ?_, ?_⟩
  . unfold gameD gmD labD rowsD tabsD
    rw [List.map_map, List.map_map]
    rfl
  . refine ⟨by rw [List.length_map]; omega, by rw [List.length_map]; omega, by rw [List.length_map, List.length_range]; omega, by rw [List.length_map, List.length_range]; omega, ?_, ?_⟩
    . intro r hr
      obtain ⟨i, _, rfl⟩ := List.mem_map.mp hr
      rw [rowB_len, List.length_map, h]
    . intro x hx
      obtain ⟨b, _, rfl⟩ := List.mem_map.mp hx
      cases b <;> decide
theorem ok__law_game : FnOk P w K mg base CX0 4 T.f__law_game T.d__law_game ["_law_feed_here"] (sp_gnew K 500 800000000) := by
  have G__law_draw := ok__law_draw (P := P) (w := w) (base := base) T; have G__law_table_game := ok__law_table_game (P := P) (w := w) (base := base) T; have G__law_class_game := ok__law_class_game (P := P) (w := w) (base := base) T; have G__law_picks := ok__law_picks (P := P) (w := w) (base := base) T; have G__law_any_game := ok__law_any_game (P := P) (w := w) (base := base) T; have G__law_table := ok__law_table (P := P) (w := w) (base := base) T; have G__law_class := ok__law_class (P := P) (w := w) (base := base) T
  refine T.F__law_game.ok sc__law_game (fun vs H Q E h => by unfold sp_gnew at h; split at h <;> first | rfl | exact h.elim) (fun cdv A outer s H vs Q E hr h => ?_)
  have hu := hu60 hr
  have hr__law_draw := hr.mono (show 1 <= _ by decide); have hr__law_table_game := hr.mono (show 1 <= _ by decide); have hr__law_class_game := hr.mono (show 1 <= _ by decide); have hr__law_picks := hr.mono (show 2 <= _ by decide); have hr__law_any_game := hr.mono (show 2 <= _ by decide); have hr__law_table := hr.mono (show 2 <= _ by decide); have hr__law_class := hr.mono (show 3 <= _ by decide)
  unfold sp_gnew at h
  split at h
  rotate_left
  . exact h.elim
  rename_i t
  obtain ⟨N, F, hN, q⟩ := h
  refine ⟨_, (@pss_cons _ _ _ _ _ (@ps_set _ _ 1 _ _ _ _ sc__law_game.nd rfl (by walk_at "e") (@pe_call _ _ _ _ _ _ _ _ _ _ _ _ _ _ _ _ G__law_draw hr__law_draw rfl T.m__law_draw T.F__law_draw.kp T.b__law_draw .nil pass0 (@pa_cons _ _ _ _ _ (@vw _ 0 _ _ (by walk_at "v")) (@pa1 _ _ _ (@pe_int _ _ _ _) (by rfl)) (by rfl)) (by decide) (by rfl) (by rfl)) (by rfl) (by walk_at "i")) (@pss_cons _ _ _ _ _ (@ps_if _ _ _ _ _ _ _ _ (@tu_cmp _ _ _ _ _ _ _ _ (kEq (K := K) hu) (@vw _ 1 _ _ (by walk_at "v")) (@pe_int _ _ _ _) (by walk_at "n")) (@pss_one _ _ _ (@ps_ret _ _ _ _ (@pe_call _ _ _ _ _ _ _ _ _ _ _ _ _ _ _ _ G__law_table_game hr__law_table_game rfl T.m__law_table_game T.F__law_table_game.kp T.b__law_table_game .nil pass0 (@pa1 _ _ _ (@pe_call _ _ _ _ _ _ _ _ _ _ _ _ _ _ _ _ G__law_table hr__law_table rfl T.m__law_table T.F__law_table.kp T.b__law_table .nil pass0 (@pa_cons _ _ _ _ _ (@vw _ 0 _ _ (by walk_at "v")) (@pa1 _ _ _ (@pe_op _ _ _ _ _ _ _ _ (kAdd (K := K)) (@pe_int _ _ _ _) (@pe_call _ _ _ _ _ _ _ _ _ _ _ _ _ _ _ _ G__law_draw hr__law_draw rfl T.m__law_draw T.F__law_draw.kp T.b__law_draw .nil pass0 (@pa_cons _ _ _ _ _ (@vw _ 0 _ _ (by walk_at "v")) (@pa1 _ _ _ (@pe_int _ _ _ _) (by rfl)) (by rfl)) (by decide) (by rfl) (by rfl))) (by rfl)) (by rfl)) (by decide) (by rfl) (by rfl)) (by rfl)) (by decide) (by rfl) (by rfl)))) (@pss_nil _)) (@pss_cons _ _ _ _ _ (@ps_if _ _ _ _ _ _ _ _ (@tu_cmp _ _ _ _ _ _ _ _ (kEq (K := K) hu) (@vw _ 1 _ _ (by walk_at "v")) (@pe_int _ _ _ _) (by walk_at "n")) (@pss_one _ _ _ (@ps_ret _ _ _ _ (@pe_call _ _ _ _ _ _ _ _ _ _ _ _ _ _ _ _ G__law_class_game hr__law_class_game rfl T.m__law_class_game T.F__law_class_game.kp T.b__law_class_game .nil pass0 (@pa1 _ _ _ (@pe_call _ _ _ _ _ _ _ _ _ _ _ _ _ _ _ _ G__law_class hr__law_class rfl T.m__law_class T.F__law_class.kp T.b__law_class .nil pass0 (@pa_cons _ _ _ _ _ (@vw _ 0 _ _ (by walk_at "v")) (@pa_cons _ _ _ _ _ (@pe_op _ _ _ _ _ _ _ _ (kAdd (K := K)) (@pe_int _ _ _ _) (@pe_call _ _ _ _ _ _ _ _ _ _ _ _ _ _ _ _ G__law_draw hr__law_draw rfl T.m__law_draw T.F__law_draw.kp T.b__law_draw .nil pass0 (@pa_cons _ _ _ _ _ (@vw _ 0 _ _ (by walk_at "v")) (@pa1 _ _ _ (@pe_int _ _ _ _) (by rfl)) (by rfl)) (by decide) (by rfl) (by rfl))) (@pa1 _ _ _ (@pe_op _ _ _ _ _ _ _ _ (kAdd (K := K)) (@pe_int _ _ _ _) (@pe_call _ _ _ _ _ _ _ _ _ _ _ _ _ _ _ _ G__law_draw hr__law_draw rfl T.m__law_draw T.F__law_draw.kp T.b__law_draw .nil pass0 (@pa_cons _ _ _ _ _ (@vw _ 0 _ _ (by walk_at "v")) (@pa1 _ _ _ (@pe_int _ _ _ _) (by rfl)) (by rfl)) (by decide) (by rfl) (by rfl))) (by rfl)) (by rfl)) (by rfl)) (by decide) (by rfl) (by rfl)) (by rfl)) (by decide) (by rfl) (by rfl)))) (@pss_nil _)) (@pss_one _ _ _ (@ps_ret _ _ _ _ (@pe_ifExp _ _ _ _ _ _ _ _ (@tu_cmp _ _ _ _ _ _ _ _ (kEq (K := K) hu) (@vw _ 1 _ _ (by walk_at "v")) (@pe_int _ _ _ _) (by walk_at "n")) (@pe_call _ _ _ _ _ _ _ _ _ _ _ _ _ _ _ _ G__law_picks hr__law_picks rfl T.m__law_picks T.F__law_picks.kp T.b__law_picks .nil pass0 (@pa1 _ _ _ (@vw _ 0 _ _ (by walk_at "v")) (by rfl)) (by decide) (by rfl) (by rfl)) (@pe_call _ _ _ _ _ _ _ _ _ _ _ _ _ _ _ _ G__law_any_game hr__law_any_game rfl T.m__law_any_game T.F__law_any_game.kp T.b__law_any_game .nil pass0 (@pa1 _ _ _ (@vw _ 0 _ _ (by walk_at "v")) (by rfl)) (by decide) (by rfl) (by rfl)))))))), ?_⟩
  have d4 : okDiv 4 := okDiv_of (by decide) (by decide)
  have d5 : okDiv 5 := okDiv_of (by decide) (by decide)
  have d6 : okDiv 6 := okDiv_of (by decide) (by decide)
  have d3 : okDiv 3 := okDiv_of (by decide) (by decide)
  refine ⟨_, F, by omega, d6, fun way H1 w0 w1 F1 f1 => ?_⟩
  dsimp only [gName]
  refine ite2 (fun e => ?_) (fun e => ?_)
  . refine ⟨_, F1, by omega, d4, fun a H2 a0 a1 F2 f2 => ?_⟩
    obtain ⟨m, hm⟩ : ∃ m : Nat, 1 + a = m := ⟨(1 + a).toNat, by omega⟩
    rw [show mAdd K (V.int 1) (V.int a) H2 = fun Q => Q (.int (1 + a)) H2 from rfl]
    rw [hm]
    refine ⟨m, _, F2, by omega, rfl, by omega, by omega, fun bs p H3 hb hp g3 F3 f3 => ?_⟩
    refine ⟨bs, m, .of g3, hb, by omega, by omega, fun u H4 s4 r4 => ?_⟩
    obtain ⟨ls, rs, e, g⟩ := gameD_gm bs m hb (by omega) (by omega)
    rw [e] at r4
    exact q ls rs u H4 g r4 ((F3.same s4).mono (by omega)) ((frm_all f1).trans ((frm_all f2).trans (f3.trans fun b o _ e => s4 b o e)))
  dsimp only [tNext]
  refine ite2 (fun e => ?_) (fun e => ?_)
  . refine ⟨_, F1, by omega, d3, fun a H2 a0 a1 F2 f2 => ?_⟩
    refine ⟨_, F2, by omega, d5, fun b H3 b0 b1 F3 f3 => ?_⟩
    obtain ⟨m, hm⟩ : ∃ m : Nat, 1 + a = m := ⟨(1 + a).toNat, by omega⟩
    obtain ⟨M, hM⟩ : ∃ M : Nat, 2 + b = M := ⟨(2 + b).toNat, by omega⟩
    refine ⟨m, M, _, F3, by omega, hm, by omega, by omega, hM, by omega, by omega, fun ts xs p H4 t2 tM tb hp g4 R4 F4 f4 => ?_⟩
    have h8 : 2 ^ m <= 8 := Nat.pow_le_pow_right (n := 2) (j := 3) (by decide) (by omega)
    refine ⟨ts, xs, 2 ^ m, g4, R4, t2, by omega, tb, Nat.two_pow_pos m, h8, fun ls rs u H5 g s5 r5 => ?_⟩
    exact q ls rs u H5 g r5 ((F4.same s5).mono (by omega)) ((frm_all f1).trans ((frm_all f2).trans ((frm_all f3).trans (f4.trans fun b o _ e => s5 b o e))))
  dsimp only [tNext]
  refine ite2 (fun e => ?_) (fun e => ?_)
  . exact ⟨_, F1, by omega, fun ls rs u H2 g r2 F2 f2 => q ls rs u H2 g r2 (F2.mono (by omega)) ((frm_all f1).trans f2)⟩
  . exact ⟨_, F1, by omega, fun ls rs u H2 g r2 F2 f2 => q ls rs u H2 g r2 (F2.mono (by omega)) ((frm_all f1).trans f2)⟩
def lefts (rb : List Bool) (ans : Bool) (ts : List Nat) : List Nat := ts.filter fun k => gB rb k == ans
theorem lefts_take {rb : List Bool} {ans : Bool} {ts : List Nat} {i k : Nat} (h : ts[i]? = some k) : lefts rb ans (ts.take (i + 1)) = lefts rb ans (ts.take i) ++ (if (gB rb k == ans) = true then [k] else []) := by
  unfold lefts
  rw [List.take_add_one, h, List.filter_append]
  congr 1
  simp only [Option.toList_some, List.filter_cons, List.filter_nil]
theorem lefts_len (rb : List Bool) (ans : Bool) (ts : List Nat) : (lefts rb ans ts).length <= ts.length := List.length_filter_le _ _
def sp_leftby (K : W.Frag) : Sp := fun vs H Q _ => match vs with
  | [v, .ref p, .int z, .bl ans] => ∃ (dl : Dv) (rs : List Dv) (i : Nat) (rb : List Bool) (ts : List Nat), Rep K H (.tup [dl, .tup rs]) v /\ z = i /\ rs[i]? = some (.tup (rb.map Dv.bl)) /\ SqT K H p (iL ts) /\ ts.length <= 100 /\ (∀ t ∈ ts, t < rb.length) /\ ∀ p' H', Same H H' -> SqT K H' p' (iL (lefts rb ans ts)) -> Q (.ref p') H'
  | _ => False
theorem sp_leftby_mono : SpMono (sp_leftby K) := fun vs H Q Q' E h q => by
  unfold sp_leftby at *
  split at q
  . revert q; repeat' first | exact h _ _ | exact newL_mono h | exact out_mono h | exact outT_mono h | walk_at "m"
  . exact q.elim
theorem rep_two_inv {K : W.Frag} {H : Hp} {d1 d2 : Dv} {v : V} (h : Rep K H (.tup [d1, d2]) v) : ∃ a x1 x2, v = .ref a /\ SqT K H a [x1, x2] /\ Rep K H d1 x1 /\ Rep K H d2 x2 := by
  obtain ⟨a, xs, rfl, hs, hx⟩ := rep_tup_inv h
  obtain ⟨x1, r1, rfl, hx1, hx'⟩ := (show ∃ x r, xs = x :: r /\ Rep K H d1 x /\ Reps K H [d2] r by unfold Reps at hx; exact hx)
  obtain ⟨x2, r2, rfl, hx2, hx''⟩ := (show ∃ x r, r1 = x :: r /\ Rep K H d2 x /\ Reps K H [] r by unfold Reps at hx'; exact hx')
  obtain rfl : r2 = [] := by unfold Reps at hx''; exact hx''
  exact ⟨a, x1, x2, rfl, hs, hx1, hx2⟩
theorem reps_bl_inv {K : W.Frag} {H : Hp} : ∀ {bs : List Bool} {xs : List V}, Reps K H (bs.map Dv.bl) xs -> xs = bs.map V.bl
  | [], xs, h => by unfold Reps at h; exact h
  | b :: bs, xs, h => by
    rw [List.map_cons] at h
    unfold Reps at h
    obtain ⟨x, r, rfl, h1, h2⟩ := h
    unfold Rep at h1
    rw [h1, reps_bl_inv h2]
    rfl
theorem ok_left_by : FnOk P w K mg base CX0 1 T.f_left_by T.d_left_by ["game", "things", "question", "answer"] (sp_leftby K) := by
  refine T.F_left_by.ok sc_left_by (fun vs H Q E h => by unfold sp_leftby at h; split at h <;> first | rfl | exact h.elim) (fun cdv A outer s H vs Q E hr h => ?_)
  have hu := hu60 hr
  unfold sp_leftby at h
  split at h
  rotate_left
  . exact h.elim
  rename_i v p z ans
  obtain ⟨dl, rs, i, rb, ts, hv, e1, hi, hp, tl, tb, q⟩ := h
  subst e1
  obtain ⟨a, x1, x2, rfl, hs, hx1, hx2⟩ := rep_two_inv hv
  obtain ⟨a2, ys2, rfl, hs2, hy2⟩ := rep_tup_inv hx2
  obtain ⟨x, hxi, hxr⟩ := hy2.get hi
  obtain ⟨ar, xr, rfl, hsr, hyr⟩ := rep_tup_inv hxr
  obtain rfl := reps_bl_inv hyr
  refine ⟨_, (@pss_cons _ _ _ _ _ (@ps_set _ _ 4 _ _ _ _ sc_left_by.nd rfl (by walk_at "e") (@kIx _ K _ _ _ _ _ (@kIx _ K _ _ _ _ _ (@vw _ 0 _ _ (by walk_at "v")) (@pe_int _ _ _ _) (by intro _ _; rfl) (by rfl)) (@vw _ 2 _ _ (by walk_at "v")) (by intro _ _; rfl) (by rfl)) (by rfl) (by walk_at "i")) (@pss_one _ _ _ (@ps_ret _ _ _ _ (@pe_callTy _ _ _ _ _ _ _ _ _ (kTuple (K := K)) rfl T.z_tuple (by rfl) (@pa1 _ _ _ (@pe_compB _ _ _ _ _ _ _ (["thing", "row", "answer"]) 1 ([4, 3]) _ _ _ _ rfl (@kSeq _ K _ _ _ (@vw _ 1 _ _ (by walk_at "v")) (by rfl)) (by kernel_rfl) rfl rfl (by kernel_rfl) (fun c => @pg_name _ _ 0 _ (show (["thing", "row", "answer"] : List Str).Nodup by decide +kernel) rfl (by walk_at "e") (by walk_at "i")) (go_name (by decide)) (fun c => @pts_one _ _ _ (@tu_cmp _ _ _ _ _ _ _ _ (kEq (K := K) hu) (@kIx _ K _ _ _ _ _ (@vw _ 1 _ _ (by walk_at "v")) (@vw _ 0 _ _ (by walk_at "v")) (by intro _ _; rfl) (by rfl)) (@vw _ 2 _ _ (by walk_at "v")) (by walk_at "n"))) (fun c => (@vw _ 0 _ _ (by walk_at "v"))) (by intro _; rfl)) (by rfl)) (by decide) (by decide) (by rfl) (by rfl))))), ?_⟩
  refine ⟨_, .ref a2, .inr hs, rfl, _, .ref ar, .inr hs2, atI_of rfl hxi, ?_⟩
  dsimp only [gName]
  refine .inr ⟨⟨_, hp⟩, ?_⟩
  refine comp_tup (xs := iL ts) (fun k ys H' => H' = H /\ ys = iL (lefts rb ans (ts.take k))) ⟨rfl, rfl⟩ (fun k ys H' _ ⟨e, _⟩ => by rw [e]; exact hp) (fun k ys H' hk ⟨_, e⟩ => by
    have := lefts_len rb ans (ts.take k)
    rw [List.length_take] at this
    rw [e, iL_len]; exact small1000 (by omega)) ?_ ?_
  . rintro k x ys H' hx ⟨rfl, rfl⟩
    obtain ⟨t, ht, hmem, rfl⟩ := iL_at hx
    refine ⟨_, .bl (gB rb t), .inr hsr, gB_at (tb t hmem), ?_⟩
    rw [lefts_take ht, iL_app]
    refine ite2 (fun e => ?_) (fun e => ?_)
    . have e' : (gB rb t == ans) = true := by rw [<- Bool.false_xor (gB rb t == ans)]; exact e
      rw [if_pos e']
      exact ⟨rfl, rfl⟩
    . have e' : ¬ (gB rb t == ans) = true := by rw [<- Bool.false_xor (gB rb t == ans)]; exact e
      rw [if_neg e']
      exact ⟨rfl, by show _ = _ ++ []; rw [List.append_nil]⟩
  . rintro ys H' ⟨rfl, rfl⟩ l hl
    rw [List.take_of_length_le (by rw [iL_len]; exact Nat.le_refl _)]
    refine ⟨_, .inl ⟨.of upd_same, fun p' hp' => ?_⟩⟩
    exact q p' _ ((Same.upd hl).trans (Same.upd hp')) (.of upd_same)
theorem reps_int_inv {K : W.Frag} {H : Hp} : ∀ {bs : List Int} {xs : List V}, Reps K H (bs.map Dv.int) xs -> xs = bs.map V.int
  | [], xs, h => by unfold Reps at h; exact h
  | b :: bs, xs, h => by
    rw [List.map_cons] at h
    unfold Reps at h
    obtain ⟨x, r, rfl, h1, h2⟩ := h
    unfold Rep at h1
    rw [h1, reps_int_inv h2]
    rfl
structure GmAt (K : W.Frag) (H : Hp) (ls : List Int) (rs : List (List Bool)) (a tl rl : Addr) (ps : List Addr) : Prop where
  two : SqT K H a [.ref tl, .ref rl]
  lab : SqT K H tl (ls.map V.int)
  rows : SqT K H rl (ps.map V.ref)
  len : ps.length = rs.length
  row : ∀ (i : Nat) (q : Addr) (r : List Bool), ps[i]? = some q -> rs[i]? = some r -> SqT K H q (r.map V.bl)
theorem reps_tabs {K : W.Frag} {H : Hp} : ∀ {rs : List (List Bool)} {xs : List V}, Reps K H (tabsD rs) xs -> ∃ ps : List Addr, xs = ps.map V.ref /\ ps.length = rs.length /\ ∀ (i : Nat) (q : Addr) (r : List Bool), ps[i]? = some q -> rs[i]? = some r -> SqT K H q (r.map V.bl)
  | [], xs, h => by
    have : xs = [] := by simpa [tabsD, Reps] using h
    exact ⟨[], this, rfl, fun i q r z => by simp at z⟩
  | r :: rs, xs, h => by
    have h' : Reps K H (Dv.tup (r.map Dv.bl) :: tabsD rs) xs := h
    unfold Reps at h'
    obtain ⟨x, ys, rfl, h1, h2⟩ := h'
    obtain ⟨a, zs, rfl, hs, hz⟩ := rep_tup_inv h1
    obtain rfl := reps_bl_inv hz
    obtain ⟨ps, rfl, hl, hr⟩ := reps_tabs h2
    refine ⟨a :: ps, rfl, by rw [List.length_cons, List.length_cons, hl], fun i q r' hi hr' => ?_⟩
    cases i with
    | zero => cases hi; cases hr'; exact hs
    | succ i => exact hr i q r' hi hr'
theorem gm_open {K : W.Frag} {H : Hp} {ls : List Int} {rs : List (List Bool)} {v : V} (h : Rep K H (gmD ls rs) v) : ∃ a tl rl ps, v = .ref a /\ GmAt K H ls rs a tl rl ps := by
  obtain ⟨a, x1, x2, rfl, hs, h1, h2⟩ := rep_two_inv h
  obtain ⟨tl, zs, rfl, hl, hz⟩ := rep_tup_inv h1
  obtain rfl := reps_int_inv hz
  obtain ⟨rl, ws, rfl, hr, hw⟩ := rep_tup_inv h2
  obtain ⟨ps, rfl, e, hp⟩ := reps_tabs hw
  exact ⟨a, tl, rl, ps, rfl, hs, hl, hr, e, hp⟩
theorem GmAt.same {K : W.Frag} {H H' : Hp} {ls : List Int} {rs : List (List Bool)} {a tl rl : Addr} {ps : List Addr} (g : GmAt K H ls rs a tl rl ps) (s : Same H H') : GmAt K H' ls rs a tl rl ps :=
  ⟨s.sqT g.two, s.sqT g.lab, s.sqT g.rows, g.len, fun i q r x y => s.sqT (g.row i q r x y)⟩
theorem GmAt.frm {K : W.Frag} {H H' : Hp} {ls : List Int} {rs : List (List Bool)} {a tl rl t : Addr} {ps : List Addr} {o : HO} (g : GmAt K H ls rs a tl rl ps) (f : Frm t H H') (ht : H t = some o) (no : NoTup o) : GmAt K H' ls rs a tl rl ps :=
  ⟨frm_sqT f ht no g.two, frm_sqT f ht no g.lab, frm_sqT f ht no g.rows, g.len, fun i q r x y => frm_sqT f ht no (g.row i q r x y)⟩
def mskR (r : List Bool) : Nat := msk (whr (r.map (· == true)) r.length)
def mskL (ls : List Int) (z : Int) : Nat := msk (whr (ls.map (· == z)) ls.length)
theorem mskR_bit (r : List Bool) (k : Nat) : (mskR r).testBit k = gB r k := by
  unfold mskR
  rw [(msk_rise (whr_rise _ _) (fun t ht => whr_lt ht)).2 k, Bool.eq_iff_iff, decide_eq_true_eq, whr_mem]
  by_cases h : k < r.length
  . have e : gB (r.map (· == true)) k = gB r k := by
      rw [gB_map (x := r[k]) (List.getElem?_eq_getElem h)]
      unfold gB
      rw [List.getD_eq_getElem?_getD, List.getElem?_eq_getElem h]
      simp
    rw [e]
    simp [h]
  . have e : gB r k = false := by unfold gB; rw [List.getD_eq_getElem?_getD, List.getElem?_eq_none (by omega)]; rfl
    rw [e]
    simp [h]
theorem mskL_bit (ls : List Int) (z : Int) (k : Nat) : (mskL ls z).testBit k = (decide (k < ls.length) && decide (labF ls k = z)) := by
  unfold mskL
  rw [(msk_rise (whr_rise _ _) (fun t ht => whr_lt ht)).2 k, Bool.eq_iff_iff, decide_eq_true_eq, whr_mem]
  by_cases h : k < ls.length
  . have e : gB (ls.map (· == z)) k = decide (labF ls k = z) := by
      rw [gB_map (x := ls[k]) (List.getElem?_eq_getElem h)]
      unfold labF
      rw [List.getD_eq_getElem?_getD, List.getElem?_eq_getElem h]
      rfl
    rw [e]
    simp [h]
  . simp [h]
theorem rowF_mask (rs : List (List Bool)) : rowF (rs.map mskR) = rs.map gB := by
  unfold rowF
  rw [List.map_map]
  apply List.map_congr_left
  intro r _
  funext k
  exact mskR_bit r k
theorem sub_bits {S m : Nat} : S &&& m = S ↔ ∀ k, S.testBit k = true -> m.testBit k = true := by
  constructor
  . intro e k hk
    have : (S &&& m).testBit k = true := by rw [e]; exact hk
    rw [Nat.testBit_and, hk] at this
    simpa using this
  . intro h
    apply Nat.eq_of_testBit_eq
    intro k
    rw [Nat.testBit_and]
    cases e : S.testBit k with
    | false => rfl
    | true => rw [h k e]; rfl
theorem alike_ok {ls ms : List Int} (h1 : 1 <= ls.length) (hm : ∀ z, z ∈ ms ↔ z ∈ ls) : AlikeOk ls (ms.map (mskL ls)) := by
  intro S hS
  rw [List.any_map, List.any_eq_true]
  constructor
  . rintro ⟨z, hz, h⟩ i j hi hj
    have h := sub_bits.mp (of_decide_eq_true h)
    have a := h i hi
    have b := h j hj
    rw [mskL_bit, Bool.and_eq_true, decide_eq_true_eq, decide_eq_true_eq] at a b
    rw [a.2, b.2]
  . intro o
    by_cases e : ∃ k, S.testBit k = true
    . obtain ⟨k, hk⟩ := e
      have hkl := tb_lt hS hk
      refine ⟨labF ls k, (hm _).mpr ?_, decide_eq_true (sub_bits.mpr fun i hi => ?_)⟩
      . unfold labF
        rw [List.getD_eq_getElem?_getD, List.getElem?_eq_getElem hkl]
        exact List.getElem_mem hkl
      . rw [mskL_bit, decide_eq_true (tb_lt hS hi), decide_eq_true (o i k hi hk)]
        rfl
    . cases ls with
      | nil => simp at h1
      | cons x r => exact ⟨x, (hm _).mpr (by simp), decide_eq_true (sub_bits.mpr fun i hi => absurd ⟨i, hi⟩ e)⟩
def sp_init (K : W.Frag) (C : Addr) : Sp := fun vs H Q _ => match vs with
  | [.ref p, v] => ∃ ls rs dx, H p = some (.ins C dx []) /\ Rep K H (gmD ls rs) v /\ Gm ls rs /\ ∀ d H', H d = none -> RkAt K C ls (rs.map mskR) H' p d -> Frm p H H' -> Q .non H'
  | _ => False
theorem nodup_le {α : Type} [DecidableEq α] : ∀ {ds ls : List α}, ds.Nodup -> (∀ z ∈ ds, z ∈ ls) -> ds.length <= ls.length
  | [], ls, _, _ => Nat.zero_le _
  | z :: ds, ls, nd, h => by
    obtain ⟨h1, h2⟩ := List.nodup_cons.mp nd
    have hz : z ∈ ls := h z (by simp)
    have := nodup_le (ds := ds) (ls := ls.erase z) h2 (fun x hx => (List.mem_erase_of_ne (fun e : x = z => h1 (e ▸ hx))).mpr (h x (List.mem_cons_of_mem _ hx)))
    have e := List.length_erase_of_mem hz
    have : 0 < ls.length := List.length_pos_of_mem hz
    rw [List.length_cons]
    omega
theorem ok_Reckoner_o_init : FnOk P w K mg base CX0 4 T.f_Reckoner_o_init T.d_Reckoner_o_init ["self", "game"] (sp_init K T.C_Reckoner) := by
  have G_set_holding := ok_set_holding (P := P) (w := w) (base := base) T; have G_members_where := ok_members_where (P := P) (w := w) (base := base) T
  refine T.F_Reckoner_o_init.ok sc_Reckoner_o_init (fun vs H Q E h => by unfold sp_init at h; split at h <;> first | rfl | exact h.elim) (fun cdv A outer s H vs Q E hr h => ?_)
  have hu := hu60 hr
  have hr_set_holding := hr.mono (show 3 <= _ by decide); have hr_members_where := hr.mono (show 1 <= _ by decide)
  unfold sp_init at h
  split at h
  rotate_left
  . exact h.elim
  rename_i p v
  obtain ⟨ls, rs, dx, hp, hv, G, q⟩ := h
  obtain ⟨a, tl, rl, ps, rfl, g⟩ := gm_open hv
  have l1 := G.l1
  have l16 := G.l16
  have r16 := G.r16
  have hpl := g.len
  refine ⟨_, (@pss_cons _ _ _ _ _ (@kFldS _ _ _ _ _ _ _ _ _ _ T.cl_Reckoner T.na_Reckoner_labels (@vw _ 0 _ _ (by walk_at "v")) (@pe_callTy _ _ _ _ _ _ _ _ _ (kTuple (K := K)) rfl T.z_tuple (by rfl) (@pa1 _ _ _ (@kIx _ K _ _ _ _ _ (@vw _ 1 _ _ (by walk_at "v")) (@pe_int _ _ _ _) (by intro _ _; rfl) (by rfl)) (by rfl)) (by decide) (by decide) (by rfl) (by rfl)) (by rfl) (by rfl)) (@pss_cons _ _ _ _ _ (@kFldS _ _ _ _ _ _ _ _ _ _ T.cl_Reckoner T.na_Reckoner_yeses (@vw _ 0 _ _ (by walk_at "v")) (@pe_compB _ _ _ _ _ _ _ ["row"] 1 [] _ _ _ _ rfl (@kSeq _ K _ _ _ (@kIx _ K _ _ _ _ _ (@vw _ 1 _ _ (by walk_at "v")) (@pe_int _ _ _ _) (by intro _ _; rfl) (by rfl)) (by rfl)) (by kernel_rfl) rfl rfl (by kernel_rfl) (fun c => @pg_name _ _ 0 _ (show (["row"] : List Str).Nodup by decide +kernel) rfl (by walk_at "e") (by walk_at "i")) (go_name (by decide)) (fun c => @pts_nil _) (fun c => (@pe_call _ _ _ _ _ _ _ _ _ _ _ _ _ _ _ _ G_set_holding hr_set_holding rfl T.m_set_holding T.F_set_holding.kp T.b_set_holding .nil pass0 (@pa1 _ _ _ (@pe_call _ _ _ _ _ _ _ _ _ _ _ _ _ _ _ _ G_members_where hr_members_where rfl T.m_members_where T.F_members_where.kp T.b_members_where .nil pass0 (@pa_cons _ _ _ _ _ (@pe_bl _ _ _ _) (@pa1 _ _ _ (@vw _ 0 _ _ (by walk_at "v")) (by rfl)) (by rfl)) (by decide) (by rfl) (by rfl)) (by rfl)) (by decide) (by rfl) (by rfl))) (by intro _; rfl)) (by rfl) (by rfl)) (@pss_cons _ _ _ _ _ (@kFldS _ _ _ _ _ _ _ _ _ _ T.cl_Reckoner T.na_Reckoner_alike (@vw _ 0 _ _ (by walk_at "v")) (@pe_compB _ _ _ _ _ _ _ (["label", "self"]) 1 [0] _ _ _ _ rfl (@kSeq _ K _ _ _ (@pe_callB _ _ _ _ _ _ _ _ _ (kSortS (P := P) (w := w) rfl) rfl T.z_sorted (by rfl) (@pa1 _ _ _ (@pe_callTy _ _ _ _ _ _ _ _ _ (kSetT (K := K) (P := P) (w := w) rfl) rfl T.z_set (by rfl) (@pa1 _ _ _ (@kFld _ _ _ _ _ _ _ T.cl_Reckoner T.na_Reckoner_labels (@vw _ 0 _ _ (by walk_at "v")) (by rfl) (by rfl)) (by rfl)) (by decide) (by decide) (by rfl) (by rfl)) (by rfl)) (by decide) (by decide) (by rfl) (by rfl)) (by rfl)) (by kernel_rfl) rfl rfl (by kernel_rfl) (fun c => @pg_name _ _ 0 _ (show (["label", "self"] : List Str).Nodup by decide +kernel) rfl (by walk_at "e") (by walk_at "i")) (go_name (by decide)) (fun c => @pts_nil _) (fun c => (@pe_call _ _ _ _ _ _ _ _ _ _ _ _ _ _ _ _ G_set_holding hr_set_holding rfl T.m_set_holding T.F_set_holding.kp T.b_set_holding .nil pass0 (@pa1 _ _ _ (@pe_call _ _ _ _ _ _ _ _ _ _ _ _ _ _ _ _ G_members_where hr_members_where rfl T.m_members_where T.F_members_where.kp T.b_members_where .nil pass0 (@pa_cons _ _ _ _ _ (@vw _ 0 _ _ (by walk_at "v")) (@pa1 _ _ _ (@kFld _ _ _ _ _ _ _ T.cl_Reckoner T.na_Reckoner_labels (@vw _ 1 _ _ (by walk_at "v")) (by rfl) (by rfl)) (by rfl)) (by rfl)) (by decide) (by rfl) (by rfl)) (by rfl)) (by decide) (by rfl) (by rfl))) (by intro _; rfl)) (by rfl) (by rfl)) (@pss_one _ _ _ (@kFldS _ _ _ _ _ _ _ _ _ _ T.cl_Reckoner T.na_Reckoner_known (@vw _ 0 _ _ (by walk_at "v")) (@pe_dnewK _ _) (by rfl) (by rfl)))))), ?_⟩
  refine ⟨_, .ref tl, .inr g.two, rfl, _, .inr ⟨g.lab, dx, _, hp, (show 0 < 1000 by decide), ?_⟩⟩
  have f1 : Frm p H (upd H p (.ins T.C_Reckoner dx (putF "labels" (.ref tl) []))) := Frm.updT
  have hp1 : upd H p (.ins T.C_Reckoner dx (putF "labels" (.ref tl) [])) p = some (.ins T.C_Reckoner dx [("labels", .ref tl)]) := by rw [pf1]; exact upd_same
  have g1 := g.frm f1 hp noTup_ins
  generalize upd H p (.ins T.C_Reckoner dx (putF "labels" (.ref tl) [])) = H1 at *
  -- the rows
  refine ⟨_, .ref rl, .inr g1.two, rfl, .inr ⟨⟨_, g1.rows⟩, ?_⟩⟩
  refine comp_tup (xs := ps.map V.ref) (fun k zs H' => Same H1 H' /\ zs = iL ((rs.take k).map mskR)) ⟨Same.refl _, rfl⟩ (fun k zs H' _ ⟨s, _⟩ => s.sqT g1.rows) (fun k zs H' hk ⟨_, e⟩ => by
    rw [List.length_map] at hk
    rw [e, iL_len, List.length_map, List.length_take]; exact small1000 (by omega)) ?_ ?_
  . rintro k x zs H' hx ⟨s1, rfl⟩
    rw [List.getElem?_map] at hx
    cases e0 : ps[k]? with
    | none => rw [e0] at hx; cases hx
    | some b =>
      rw [e0] at hx
      cases hx
      have hk : k < rs.length := by rw [<- hpl]; exact (List.getElem?_eq_some_iff.mp e0).1
      have er : rs[k]? = some rs[k] := List.getElem?_eq_getElem hk
      have hrow := G.row _ (List.getElem_mem hk)
      refine ⟨rs[k], s1.sqT (g1.row k b _ e0 er), by omega, fun l H2 hl s2 g2 => ?_⟩
      refine ⟨_, .inl (.of g2), by have := whr_len (rs[k].map (· == true)) rs[k].length; omega, fun t ht => by have := whr_lt ht; omega, fun H3 s3 => ?_⟩
      refine ⟨s1.trans (s2.trans s3), ?_⟩
      rw [List.take_add_one, er, List.map_append, iL_app]
      rfl
  rintro zs H2' ⟨s1, rfl⟩ yl hyl
  rw [List.length_map, hpl, List.take_length]
  have s2 : Same H1 (upd H2' yl (.lst (iL (rs.map mskR)))) := s1.trans (Same.upd hyl)
  have gy2 : upd H2' yl (.lst (iL (rs.map mskR))) yl = some (.lst (iL (rs.map mskR))) := upd_same
  generalize upd H2' yl (.lst (iL (rs.map mskR))) = H2 at *
  have hp2 := s2 _ _ hp1
  have ny : yl ≠ p := ne_of gy2 hp2 (by intro z; cases z)
  refine ⟨dx, _, hp2, (show 1 < 1000 by decide), ?_⟩
  have f3 : Frm p H2 (upd H2 p (.ins T.C_Reckoner dx (putF "yeses" (.ref yl) [("labels", .ref tl)]))) := Frm.updT
  have hp3 : upd H2 p (.ins T.C_Reckoner dx (putF "yeses" (.ref yl) [("labels", .ref tl)])) p = some (.ins T.C_Reckoner dx [("labels", .ref tl), ("yeses", .ref yl)]) := by rw [pf2]; exact upd_same
  have g3 := (g1.same s2).frm f3 hp2 noTup_ins
  have gy3 := f3 _ _ ny gy2
  have F3 : Frm p H (upd H2 p (.ins T.C_Reckoner dx (putF "yeses" (.ref yl) [("labels", .ref tl)]))) := f1.trans ((same_frm' s2).trans f3)
  generalize upd H2 p (.ins T.C_Reckoner dx (putF "yeses" (.ref yl) [("labels", .ref tl)])) = H3 at *
  -- the labels
  refine ⟨dx, _, .ref tl, hp3, by rfl, ls, g3.lab, by omega, fun ds qs nd hmem hqs => ?_⟩
  have hdl : ds.length <= ls.length := nodup_le nd fun z hz => (hmem z).mp hz
  refine ⟨ds, upd_same, by omega, fun ms l2 hml hmm _ hl2 => .inl ⟨⟨_, .of upd_same⟩, ?_⟩⟩
  have s4 : Same H3 (upd (upd H3 qs (.ext (SetP P w qs ds))) l2 (.lst (ms.map V.int))) := (Same.upd hqs).trans (Same.upd hl2)
  have gl4 : upd (upd H3 qs (.ext (SetP P w qs ds))) l2 (.lst (ms.map V.int)) l2 = some (.lst (ms.map V.int)) := upd_same
  generalize upd (upd H3 qs (.ext (SetP P w qs ds))) l2 (.lst (ms.map V.int)) = H4 at *
  have g4 := g3.same s4
  have hp4 := s4 _ _ hp3
  refine comp_list (xs := ms.map V.int) (fun k zs H' => Same H4 H' /\ zs = iL ((ms.take k).map (mskL ls))) ⟨Same.refl _, rfl⟩ (fun k zs H' _ ⟨s, _⟩ => s.sqL (.of gl4)) (fun k zs H' hk ⟨_, e⟩ => by
    rw [List.length_map] at hk
    rw [e, iL_len, List.length_map, List.length_take]; exact small1000 (by omega)) ?_ ?_
  . rintro k x zs H' hx ⟨s5, rfl⟩
    rw [List.getElem?_map] at hx
    cases e0 : ms[k]? with
    | none => rw [e0] at hx; cases hx
    | some z =>
      rw [e0] at hx
      cases hx
      refine ⟨dx, _, .ref tl, s5 _ _ hp4, by rfl, ls, s5.sqT g4.lab, by omega, fun l H2 hl s6 g2 => ?_⟩
      refine ⟨_, .inl (.of g2), by have := whr_len (ls.map (· == z)) ls.length; omega, fun t ht => by have := whr_lt ht; omega, fun H3 s7 => ?_⟩
      refine ⟨s5.trans (s6.trans s7), ?_⟩
      rw [List.take_add_one, e0, List.map_append, iL_app]
      rfl
  rintro zs H5' ⟨s5, rfl⟩ al hal
  rw [List.length_map, List.take_length]
  have s6 : Same H4 (upd H5' al (.lst (iL (ms.map (mskL ls))))) := s5.trans (Same.upd hal)
  have ga6 : upd H5' al (.lst (iL (ms.map (mskL ls)))) al = some (.lst (iL (ms.map (mskL ls)))) := upd_same
  generalize upd H5' al (.lst (iL (ms.map (mskL ls)))) = H6 at *
  have hp6 := s6 _ _ hp4
  have na : al ≠ p := ne_of ga6 hp6 (by intro z; cases z)
  refine ⟨dx, _, hp6, (show 2 < 1000 by decide), ?_⟩
  have f7 : Frm p H6 (upd H6 p (.ins T.C_Reckoner dx (putF "alike" (.ref al) [("labels", .ref tl), ("yeses", .ref yl)]))) := Frm.updT
  have hp7 : upd H6 p (.ins T.C_Reckoner dx (putF "alike" (.ref al) [("labels", .ref tl), ("yeses", .ref yl)])) p = some (.ins T.C_Reckoner dx [("labels", .ref tl), ("yeses", .ref yl), ("alike", .ref al)]) := by rw [pf3]; exact upd_same
  have g7 := (g4.same s6).frm f7 hp6 noTup_ins
  have gy7 := f7 _ _ ny (s6 _ _ (s4 _ _ gy3))
  have ga7 := f7 _ _ na ga6
  have F7 : Frm p H (upd H6 p (.ins T.C_Reckoner dx (putF "alike" (.ref al) [("labels", .ref tl), ("yeses", .ref yl)]))) := F3.trans ((same_frm' s4).trans ((same_frm' s6).trans f7))
  generalize upd H6 p (.ins T.C_Reckoner dx (putF "alike" (.ref al) [("labels", .ref tl), ("yeses", .ref yl)])) = H7 at *
  -- nothing known yet
  intro d hd
  have s8 : Same H7 (upd H7 d (.dK [])) := Same.upd hd
  have nd8 : d ≠ p := fun e => by rw [e, hp7] at hd; cases hd
  have gd8 : upd H7 d (.dK []) d = some (.dK []) := upd_same
  have hd0 : H d = none := by
    cases e : H d with
    | none => rfl
    | some o => rw [F7 d o nd8 e] at hd; cases hd
  generalize upd H7 d (.dK []) = H8 at *
  have hp8 := s8 _ _ hp7
  refine ⟨dx, _, hp8, (show 3 < 1000 by decide), ?_⟩
  have f9 : Frm p H8 (upd H8 p (.ins T.C_Reckoner dx (putF "known" (.ref d) [("labels", .ref tl), ("yeses", .ref yl), ("alike", .ref al)]))) := Frm.updT
  have hp9 : upd H8 p (.ins T.C_Reckoner dx (putF "known" (.ref d) [("labels", .ref tl), ("yeses", .ref yl), ("alike", .ref al)])) p = some (.ins T.C_Reckoner dx (flds (.ref tl) (.ref yl) (.ref al) (.ref d))) := by rw [pf4]; exact upd_same
  refine q d _ hd0 ⟨⟨dx, tl, yl, al, _, [], hp9, ((g7.same s8).frm f9 hp8 noTup_ins).lab, f9 _ _ ny (s8 _ _ gy7), f9 _ _ na (s8 _ _ ga7), f9 _ _ nd8 gd8, by rw [List.length_map]; omega, alike_ok l1 (fun z => by rw [hmm z, hmem z]), ⟨by simp, fun e he => by simp at he⟩⟩, l16, by rw [List.length_map]; exact r16⟩ (F7.trans ((same_frm' s8).trans f9))
def sp_fewof (K : W.Frag) : Sp := fun vs H Q _ => match vs with
  | [v, .ref p] => ∃ ls rs ts, Rep K H (gmD ls rs) v /\ Gm ls rs /\ SqI K H p ts /\ ts.Pairwise (· < ·) /\ (∀ t ∈ ts, t < ls.length) /\ (∃ n, Can (labF ls) (rs.map gB) n (fun k => decide (k ∈ ts))) /\ ∀ (m : Nat) H', Same H H' -> IsFew (labF ls) (rs.map gB) (fun k => decide (k ∈ ts)) m -> Q (.int (m : Nat)) H'
  | _ => False
theorem sp_fewof_mono : SpMono (sp_fewof K) := fun vs H Q Q' E h q => by
  unfold sp_fewof at *
  split at q
  . revert q; repeat' first | exact h _ _ | exact newL_mono h | exact out_mono h | exact outT_mono h | walk_at "m"
  . exact q.elim
theorem SqI.same {K : W.Frag} {H H' : Hp} {p : Addr} {ts : List Nat} (h : SqI K H p ts) (s : Same H H') : SqI K H' p ts := by
  rcases h with h | h
  . exact .inl (s.sqL h)
  . exact .inr (s.sqT h)
theorem rise_len {ts : List Nat} {n : Nat} (h1 : ts.Pairwise (· < ·)) (h2 : ∀ t ∈ ts, t < n) : ts.length <= n := pigeon n ts (h1.imp fun h => Nat.ne_of_lt h) h2
theorem card_le (N : Nat) (S : Nat -> Bool) : card N S <= N := by
  unfold card
  have := List.length_filter_le S (List.range N)
  rw [List.length_range] at this
  exact this
theorem ok_fewest_of : FnOk P w K mg base CX0 73 T.f_fewest_of T.d_fewest_of ["game", "things"] (sp_fewof K) := by
  have G_Reckoner_o_fewest_among := ok_Reckoner_o_fewest_among (P := P) (w := w) (base := base) T; have G_set_holding := ok_set_holding (P := P) (w := w) (base := base) T; have G_Reckoner_o_init := ok_Reckoner_o_init (P := P) (w := w) (base := base) T
  refine T.F_fewest_of.ok sc_fewest_of (fun vs H Q E h => by unfold sp_fewof at h; split at h <;> first | rfl | exact h.elim) (fun cdv A outer s H vs Q E hr h => ?_)
  have hu := hu60 hr
  have hr_Reckoner_o_fewest_among := hr.mono (show 72 <= _ by decide); have hr_set_holding := hr.mono (show 3 <= _ by decide); have hr_Reckoner_o_init := hr.mono (show 4 <= _ by decide); have hr1_Reckoner_o_init := hr.mono (show 4 + 1 <= _ by decide)
  unfold sp_fewof at h
  split at h
  rotate_left
  . exact h.elim
  rename_i v p
  obtain ⟨ls, rs, ts, hv, G, hp, hrise, hlt, ⟨n, hc⟩, q⟩ := h
  have hl := rise_len hrise hlt
  have l16 := G.l16
  obtain ⟨m1, m2⟩ := msk_rise hrise hlt
  have em : (msk ts).testBit = fun k => decide (k ∈ ts) := funext m2
  refine ⟨_, (@pss_one _ _ _ (@ps_ret _ _ _ _ (@pe_meth _ _ _ _ _ _ _ _ _ _ _ _ _ _ _ _ _ _ _ _ (@pe_make _ _ _ _ _ _ _ _ _ _ _ _ _ _ _ _ _ T.mk_Reckoner G_Reckoner_o_init hr1_Reckoner_o_init rfl T.mC_Reckoner T.b_Reckoner_o_init .nil pass0 (@pa1 _ _ _ (@vw _ 0 _ _ (by walk_at "v")) (by rfl)) (by decide) (by rfl) (by rfl)) T.cl_Reckoner T.me_Reckoner_o_fewest_among G_Reckoner_o_fewest_among hr_Reckoner_o_fewest_among T.b_Reckoner_o_fewest_among .nil pass0 (@pa1 _ _ _ (@pe_call _ _ _ _ _ _ _ _ _ _ _ _ _ _ _ _ G_set_holding hr_set_holding rfl T.m_set_holding T.F_set_holding.kp T.b_set_holding .nil pass0 (@pa1 _ _ _ (@vw _ 1 _ _ (by walk_at "v")) (by rfl)) (by decide) (by rfl) (by rfl)) (by rfl)) (by rfl) (by rfl) (by rfl)))), ?_⟩
  intro x dx hx hdx hne
  have s1 : Same H (upd (upd H dx (.own x)) x (.ins T.C_Reckoner dx [])) := (Same.upd (o := .own x) hdx).trans (fun b o e => by
    have : b ≠ x := fun z => by
      rw [z, upd_ne (Ne.symm hne), hx] at e
      cases e
    rw [upd_ne this]; exact e)
  have hx1 : upd (upd H dx (.own x)) x (.ins T.C_Reckoner dx []) x = some (.ins T.C_Reckoner dx []) := upd_same
  generalize upd (upd H dx (.own x)) x (.ins T.C_Reckoner dx []) = H1 at *
  refine ⟨ls, rs, dx, hx1, hv.same s1, G, fun d H2 hd R f2 => ⟨rfl, ?_⟩⟩
  have hd0 : H d = none := s1.free hd
  have s2 : Same H H2 := fun b o e => f2 b o (ne_of_none e hx) (s1 _ _ e)
  obtain ⟨dx2, tl2, yl2, al2, as2, kvs2, k1, _⟩ := id R.at_
  refine ⟨x, dx2, _, rfl, k1, ln1 _ _ _ _, ts, hp.same s2, by omega, fun t ht => by have := hlt t ht; omega, fun H3 s3 => ?_⟩
  refine ⟨ls, rs.map mskR, d, msk ts, R.same s3, rfl, m1, ⟨n, by rw [rowF_mask, em]; exact hc⟩, by have := card_le ls.length (msk ts).testBit; omega, fun m H4 hm R4 f4 => ?_⟩
  rw [rowF_mask, em] at hm
  exact q m H4 (fun b o e => f4 b o (ne_of_none e hd0) (s3 _ _ (s2 _ _ e))) hm
def colB (rs : List (List Bool)) (k : Nat) : List Bool := rs.map fun r => gB r k
def colsD (rs : List (List Bool)) (n : Nat) : List Dv := (List.range n).map fun k => .lst ((colB rs k).map Dv.bl)
def BadP (ls : List Int) (rs : List (List Bool)) (i j : Nat) : Prop := i < j /\ j < ls.length /\ labF ls i ≠ labF ls j /\ colB rs i = colB rs j
def FirstP (ls : List Int) (rs : List (List Bool)) (i j : Nat) : Prop := BadP ls rs i j /\ ∀ i' j', BadP ls rs i' j' -> i < i' \/ i = i' /\ j <= j'
def EndsP (ls : List Int) (rs : List (List Bool)) : Prop := ∀ i j, ¬ BadP ls rs i j
theorem eqDs_bl : ∀ as bs : List Bool, eqDs (as.map Dv.bl) (bs.map Dv.bl) = true -> as = bs
  | [], [], _ => rfl
  | [], u :: us, h => by simp [eqDs] at h
  | t :: ts, [], h => by simp [eqDs] at h
  | t :: ts, u :: us, h => by
    rw [List.map_cons, List.map_cons, eqDs, eqD, Bool.and_eq_true, beq_iff_eq] at h
    rw [h.1, eqDs_bl ts us h.2]
theorem eqD_col (a b : List Bool) : eqD (.lst (a.map Dv.bl)) (.lst (b.map Dv.bl)) = decide (a = b) := by
  rw [eqD_lst, Bool.eq_iff_iff, decide_eq_true_eq]
  exact ⟨eqDs_bl a b, fun e => by rw [e]; exact eqDs_refl _⟩
theorem colsD_succ (rs : List (List Bool)) (n : Nat) : colsD rs (n + 1) = colsD rs n ++ [.lst ((colB rs n).map Dv.bl)] := by unfold colsD; rw [List.range_succ, List.map_append]; rfl
theorem colsD_len (rs : List (List Bool)) (n : Nat) : (colsD rs n).length = n := by unfold colsD; rw [List.length_map, List.length_range]
theorem colsD_get (rs : List (List Bool)) {n k : Nat} (h : k < n) : (colsD rs n)[k]? = some (.lst ((colB rs k).map Dv.bl)) := by unfold colsD; rw [List.getElem?_map, List.getElem?_range h]; rfl
theorem lab_at {ls : List Int} {i : Nat} (h : i < ls.length) : atI (ls.map V.int) ((i : Nat) : Int) = some (.int (labF ls i)) := by
  refine atI_of rfl ?_
  rw [List.getElem?_map, List.getElem?_eq_getElem h]
  unfold labF
  rw [List.getD_eq_getElem?_getD, List.getElem?_eq_getElem h]
  rfl
def sp_pair (K : W.Frag) : Sp := fun vs H Q _ => match vs with
  | [v] => ∃ ls rs, Rep K H (gmD ls rs) v /\ Gm ls rs /\ (∀ H', Same H H' -> EndsP ls rs -> Q .non H') /\ ∀ (i j : Nat) t H', FirstP ls rs i j -> H t = none -> Same H H' -> H' t = some (.tup [.int (i : Nat), .int (j : Nat)]) -> Q (.ref t) H'
  | _ => False
theorem sp_pair_mono : SpMono (sp_pair K) := fun vs H Q Q' E h q => by
  unfold sp_pair at *
  split at q
  . obtain ⟨ls, rs, h1, h2, q1, q2⟩ := q
    exact ⟨ls, rs, h1, h2, fun H' x y => h _ _ (q1 H' x y), fun i j t H' x1 x2 x3 x4 => h _ _ (q2 i j t H' x1 x2 x3 x4)⟩
  . exact q.elim
theorem col_comp {K : W.Frag} {H : Hp} {ls : List Int} {rs : List (List Bool)} {a tl rl : Addr} {ps : List Addr} (g : GmAt K H ls rs a tl rl ps) (G : Gm ls rs) {k : Nat} (hk : k < ls.length) {j : Nat} {q : Addr} (hj : ps[j]? = some q) :
    ∃ r, rs[j]? = some r /\ SqT K H q (r.map V.bl) /\ atI (r.map V.bl) ((k : Nat) : Int) = some (.bl (gB r k)) := by
  have hj' : j < rs.length := by rw [<- g.len]; exact (List.getElem?_eq_some_iff.mp hj).1
  have er : rs[j]? = some rs[j] := List.getElem?_eq_getElem hj'
  exact ⟨rs[j], er, g.row j q _ hj er, gB_at (by rw [G.row _ (List.getElem_mem hj')]; exact hk)⟩
theorem ref_at {ps : List Addr} {k : Nat} {x : V} (h : (ps.map V.ref)[k]? = some x) : ∃ q, ps[k]? = some q /\ x = .ref q := by
  rw [List.getElem?_map] at h
  cases e : ps[k]? with
  | none => rw [e] at h; cases h
  | some q => rw [e] at h; cases h; exact ⟨q, rfl, rfl⟩
theorem ok_first_unparted : FnOk P w K mg base CX0 1 T.f_first_unparted T.d_first_unparted ["game"] (sp_pair K) := by
  refine T.F_first_unparted.ok sc_first_unparted (fun vs H Q E h => by unfold sp_pair at h; split at h <;> first | rfl | exact h.elim) (fun cdv A outer s H vs Q E hr h => ?_)
  have hu := hu60 hr
  unfold sp_pair at h
  split at h
  rotate_left
  . exact h.elim
  rename_i v
  obtain ⟨ls, rs, hv, G, q1, q2⟩ := h
  obtain ⟨a, tl, rl, ps, rfl, g⟩ := gm_open hv
  have l16 := G.l16
  have r16 := G.r16
  refine ⟨_, (@pss_cons _ _ _ _ _ (@ps_set _ _ 1 _ _ _ _ sc_first_unparted.nd rfl (by walk_at "e") (@kIx _ K _ _ _ _ _ (@vw _ 0 _ _ (by walk_at "v")) (@pe_int _ _ _ _) (by intro _ _; rfl) (by rfl)) (by rfl) (by walk_at "i")) (@pss_cons _ _ _ _ _ (@ps_compB _ _ _ _ _ _ _ (["thing", "game"]) 1 [0] _ _ _ _ 2 _ _ _ rfl sc_first_unparted.nd rfl rfl (@pi_range1 _ _ _ _ _ _ rfl T.z_range (@pa1 _ _ _ (@pe_callB _ _ _ _ _ _ _ _ _ (kLen (K := K)) rfl T.z_len (by rfl) (@pa1 _ _ _ (@vw _ 1 _ _ (by walk_at "v")) (by rfl)) (by decide) (by decide) (by rfl) (by rfl)) (by rfl)) (by rfl)) (by kernel_rfl) rfl rfl (by kernel_rfl) (fun c => @pg_name _ _ 0 _ (show (["thing", "game"] : List Str).Nodup by decide +kernel) rfl (by walk_at "e") (by walk_at "i")) (go_name (by decide)) (fun c => @pts_nil _) (fun c => (@pe_compB _ _ _ _ _ _ _ (["row", "thing"]) 1 [0] _ _ _ _ rfl (@kSeq _ K _ _ _ (@kIx _ K _ _ _ _ _ (@vw _ 1 _ _ (by walk_at "v")) (@pe_int _ _ _ _) (by intro _ _; rfl) (by rfl)) (by rfl)) (by kernel_rfl) rfl rfl (by kernel_rfl) (fun c => @pg_name _ _ 0 _ (show (["row", "thing"] : List Str).Nodup by decide +kernel) rfl (by walk_at "e") (by walk_at "i")) (go_name (by decide)) (fun c => @pts_nil _) (fun c => (@kIx _ K _ _ _ _ _ (@vw _ 0 _ _ (by walk_at "v")) (@vw _ 1 _ _ (by walk_at "v")) (by intro _ _; rfl) (by rfl))) (by intro _; rfl))) (by rfl) (by intro _; rfl)) (@pss_cons _ _ _ _ _ (@ps_for _ _ _ _ _ _ _ _ PassesOwn.never rfl (@pi_range1 _ _ _ _ _ _ rfl T.z_range (@pa1 _ _ _ (@pe_callB _ _ _ _ _ _ _ _ _ (kLen (K := K)) rfl T.z_len (by rfl) (@pa1 _ _ _ (@vw _ 1 _ _ (by walk_at "v")) (by rfl)) (by decide) (by decide) (by rfl) (by rfl)) (by rfl)) (by rfl)) (@pg_name _ _ 3 _ sc_first_unparted.nd rfl (by walk_at "e") (by walk_at "i")) (@pss_one _ _ _ (@ps_for _ _ _ _ _ _ _ _ PassesOwn.never rfl (@pi_range2 _ _ _ _ _ _ _ rfl T.z_range (@pa_cons _ _ _ _ _ (@pe_op _ _ _ _ _ _ _ _ (kAdd (K := K)) (@vw _ 3 _ _ (by walk_at "v")) (@pe_int _ _ _ _)) (@pa1 _ _ _ (@pe_callB _ _ _ _ _ _ _ _ _ (kLen (K := K)) rfl T.z_len (by rfl) (@pa1 _ _ _ (@vw _ 1 _ _ (by walk_at "v")) (by rfl)) (by decide) (by decide) (by rfl) (by rfl)) (by rfl)) (by rfl)) (by rfl) (by rfl)) (@pg_name _ _ 4 _ sc_first_unparted.nd rfl (by walk_at "e") (by walk_at "i")) (@pss_one _ _ _ (@ps_if _ _ _ _ _ _ _ _ (PW.pt (@pw_and _ _ _ _ _ _ _ (@tu_cmp _ _ _ _ _ _ _ _ (kNe (K := K) hu) (@kIx _ K _ _ _ _ _ (@vw _ 1 _ _ (by walk_at "v")) (@vw _ 3 _ _ (by walk_at "v")) (by intro _ _; rfl) (by rfl)) (@kIx _ K _ _ _ _ _ (@vw _ 1 _ _ (by walk_at "v")) (@vw _ 4 _ _ (by walk_at "v")) (by intro _ _; rfl) (by rfl)) (by walk_at "n")) (@pw_and1 _ _ _ _ (@tu_cmp _ _ _ _ _ _ _ _ (kEq (K := K) hu) (@kIx _ K _ _ _ _ _ (@vw _ 2 _ _ (by walk_at "v")) (@vw _ 3 _ _ (by walk_at "v")) (by intro _ _; rfl) (by rfl)) (@kIx _ K _ _ _ _ _ (@vw _ 2 _ _ (by walk_at "v")) (@vw _ 4 _ _ (by walk_at "v")) (by intro _ _; rfl) (by rfl)) (by walk_at "n"))))) (@pss_one _ _ _ (@ps_ret _ _ _ _ (@pe_tup _ _ _ _ _ (@pa_cons _ _ _ _ _ (@vw _ 3 _ _ (by walk_at "v")) (@pa1 _ _ _ (@vw _ 4 _ _ (by walk_at "v")) (by rfl)) (by rfl))))) (@pss_nil _))) (by intro _; rfl))) (by intro _; rfl)) (@pss_one _ _ _ (@ps_ret _ _ _ _ (@pe_non _ _ _)))))), ?_⟩
  refine ⟨_, .ref tl, .inr g.two, rfl, ?_⟩
  dsimp only [gName]
  refine seq_at (fun σ H' => ∃ (l : Addr) (xs : List V), σ = [some (.ref a), some (.ref tl), some (.ref l), none, none] /\ Same H H' /\ H' l = some (.lst xs) /\ Reps K H' (colsD rs ls.length) xs) ?_ ?_ (by walk_at "sm")
  . refine ⟨ls.length, .inr ⟨_, g.lab, by rw [List.length_map]⟩, (ls.length : Int), rfl, by omega, by omega, ?_⟩
    rw [Int.toNat_natCast]
    refine comp_range (fun k ys H' => Same H H' /\ Reps K H' (colsD rs k) ys) ⟨Same.refl _, reps_nil⟩ (fun k ys H' hk ⟨_, R⟩ => by rw [<- R.length, colsD_len]; exact small1000 (by omega)) ?_ ?_
    . rintro k ys H1 hk ⟨s1, R1⟩
      have g1 := g.same s1
      have e0 : (0 : Int) + (k : Int) = ((k : Nat) : Int) := by omega
      rw [e0]
      refine ⟨_, .ref rl, .inr g1.two, rfl, .inr ⟨⟨_, g1.rows⟩, ?_⟩⟩
      refine comp_tup (xs := ps.map V.ref) (fun j zs H' => H' = H1 /\ zs = ((rs.take j).map fun r => gB r k).map V.bl) ⟨rfl, rfl⟩ (fun j zs H' _ ⟨e, _⟩ => by rw [e]; exact g1.rows) (fun j zs H' hj ⟨_, e⟩ => by
        rw [List.length_map, g1.len] at hj
        rw [e, List.length_map, List.length_map, List.length_take]; exact small1000 (by omega)) ?_ ?_
      . rintro j x zs H' hx ⟨rfl, rfl⟩
        obtain ⟨b, hb, rfl⟩ := ref_at hx
        obtain ⟨r, er, hs, ha⟩ := col_comp g1 G hk hb
        refine ⟨_, .bl (gB r k), .inr hs, ha, rfl, ?_⟩
        rw [List.take_add_one, er, List.map_append, List.map_append]
        rfl
      . rintro zs H' ⟨rfl, rfl⟩ l hl
        rw [List.length_map, g1.len, List.take_length]
        have s2 : Same H' (upd H' l (.lst ((rs.map fun r => gB r k).map V.bl))) := Same.upd hl
        refine ⟨s1.trans s2, ?_⟩
        rw [colsD_succ]
        exact Reps.append (Reps.same s2 _ _ R1) (reps_cons (by unfold Rep; exact ⟨l, _, rfl, .of upd_same, reps_bl _⟩) reps_nil)
    . rintro ys H1 ⟨s1, R1⟩ l hl
      have s2 : Same H1 (upd H1 l (.lst ys)) := Same.upd hl
      exact ⟨l, ys, rfl, s1.trans s2, upd_same, Reps.same s2 _ _ R1⟩
  rintro σ H1 ⟨l, xs, rfl, s1, gl, R⟩
  have g1 := g.same s1
  refine seq_at (fun σ H' => H' = H1 /\ (∃ x y, σ = [some (.ref a), some (.ref tl), some (.ref l), x, y]) /\ EndsP ls rs) ?_ ?_ (by walk_at "sm")
  rotate_left
  . rintro σ H' ⟨rfl, ⟨x, y, rfl⟩, he⟩
    exact q1 _ s1 he
  refine ⟨ls.length, .inr ⟨_, g1.lab, by rw [List.length_map]⟩, (ls.length : Int), rfl, by omega, by omega, ?_⟩
  rw [Int.toNat_natCast]
  refine for_range (fun k σ H' => H' = H1 /\ (∃ x y, σ = [some (.ref a), some (.ref tl), some (.ref l), x, y]) /\ ∀ i' j', i' < k -> ¬ BadP ls rs i' j') ⟨rfl, ⟨none, none, rfl⟩, fun i' j' h => absurd h (Nat.not_lt_zero _)⟩ ?_ ?_
  rotate_left
  . rintro σ H' ⟨rfl, hσ, h⟩
    exact ⟨rfl, hσ, fun i j hb => h i j (by have := hb.1; have := hb.2.1; omega) hb⟩
  rintro i σ H' hi ⟨rfl, ⟨x, y, rfl⟩, hno⟩
  have e0 : (0 : Int) + (i : Int) = ((i : Nat) : Int) := by omega
  rw [e0]
  refine ⟨ls.length, .inr ⟨_, g1.lab, by rw [List.length_map]⟩, ((i : Int) + 1), (ls.length : Int), rfl, ⟨by omega, by omega, by omega, by omega⟩, ?_⟩
  obtain ⟨W, hW⟩ : ∃ W : Nat, ((ls.length : Int) - ((i : Int) + 1)).toNat = W := ⟨_, rfl⟩
  rw [hW]
  refine for_range (fun k σ H2 => H2 = H' /\ (∃ y, σ = [some (.ref a), some (.ref tl), some (.ref l), some (.int (i : Nat)), y]) /\ ∀ j', j' < i + 1 + k -> ¬ BadP ls rs i j') ⟨rfl, ⟨y, rfl⟩, fun j' h hb => by have := hb.1; omega⟩ ?_ ?_
  rotate_left
  . rintro σ H2 ⟨rfl, ⟨y, rfl⟩, h⟩
    refine ⟨rfl, ⟨_, y, rfl⟩, fun i' j' hi' hb => ?_⟩
    rcases Nat.lt_or_ge i' i with z | z
    . exact hno i' j' z hb
    . have : i' = i := by omega
      subst this
      exact h j' (by have := hb.2.1; omega) hb
  rintro k σ H2 hk ⟨rfl, ⟨y, rfl⟩, hno2⟩
  have e1 : (i : Int) + 1 + (k : Int) = ((i + 1 + k : Nat) : Int) := by omega
  rw [e1]
  have hj : i + 1 + k < ls.length := by omega
  have next : ¬ BadP ls rs i (i + 1 + k) -> ∀ j', j' < i + 1 + (k + 1) -> ¬ BadP ls rs i j' := fun h j' hj' => by
    rcases Nat.lt_or_ge j' (i + 1 + k) with z | z
    . exact hno2 j' z
    . have : j' = i + 1 + k := by omega
      rw [this]; exact h
  refine ⟨_, .int (labF ls i), .inr g1.lab, lab_at hi, _, .int (labF ls (i + 1 + k)), .inr g1.lab, lab_at hj, ?_⟩
  refine ite2 (fun e => ?_) (fun e => ?_)
  . have ne : labF ls i ≠ labF ls (i + 1 + k) := by simpa using e
    obtain ⟨x1, hx1, r1⟩ := R.get (colsD_get rs hi)
    obtain ⟨x2, hx2, r2⟩ := R.get (colsD_get rs hj)
    refine ⟨_, x1, .inl (.of gl), atI_of rfl hx1, _, x2, .inl (.of gl), atI_of rfl hx2, ?_⟩
    have r1' := r1
    have r2' := r2
    unfold Rep at r1' r2'
    obtain ⟨b1, _, rfl, _⟩ := r1'
    obtain ⟨b2, _, rfl, _⟩ := r2'
    refine ⟨_, _, r1, r2, by unfold depD; rw [depDs_bls]; omega, ?_⟩
    rw [eqD_col, Bool.false_xor]
    refine ite2 (fun e2 => ?_) (fun e2 => ?_)
    . have hb : BadP ls rs i (i + 1 + k) := ⟨by omega, hj, ne, of_decide_eq_true e2⟩
      refine ⟨small_le (show 2 <= 1000 by decide), fun t ht => ?_⟩
      refine q2 i (i + 1 + k) t _ ⟨hb, fun i' j' hb' => ?_⟩ (s1.free ht) (s1.trans (Same.upd ht)) upd_same
      rcases Nat.lt_trichotomy i' i with z | z | z
      . exact absurd hb' (hno i' j' z)
      . subst z
        exact .inr ⟨rfl, Nat.le_of_not_lt fun w => hno2 j' w hb'⟩
      . exact .inl z
    . exact ⟨rfl, ⟨_, rfl⟩, next fun hb => e2 (decide_eq_true hb.2.2.2)⟩
  . have eq : labF ls i = labF ls (i + 1 + k) := by simpa using e
    exact ⟨rfl, ⟨_, rfl⟩, next fun hb => hb.2.2.1 eq⟩
theorem ok__law_pair : FnOk P w K mg base CX0 1 T.f__law_pair T.d__law_pair ["_law_game_here"] (sp_pair K) := by
  refine T.F__law_pair.ok sc__law_pair (fun vs H Q E h => by unfold sp_pair at h; split at h <;> first | rfl | exact h.elim) (fun cdv A outer s H vs Q E hr h => ?_)
  have hu := hu60 hr
  unfold sp_pair at h
  split at h
  rotate_left
  . exact h.elim
  rename_i v
  obtain ⟨ls, rs, hv, G, q1, q2⟩ := h
  obtain ⟨a, tl, rl, ps, rfl, g⟩ := gm_open hv
  have l16 := G.l16
  have r16 := G.r16
  refine ⟨_, (@pss_cons _ _ _ _ _ (@ps_compB _ _ _ _ _ _ _ (["_law_k", "_law_game_here"]) 1 [0] _ _ _ _ 1 _ _ _ rfl sc__law_pair.nd rfl rfl (@pi_range1 _ _ _ _ _ _ rfl T.z_range (@pa1 _ _ _ (@pe_callB _ _ _ _ _ _ _ _ _ (kLen (K := K)) rfl T.z_len (by rfl) (@pa1 _ _ _ (@kIx _ K _ _ _ _ _ (@vw _ 0 _ _ (by walk_at "v")) (@pe_int _ _ _ _) (by intro _ _; rfl) (by rfl)) (by rfl)) (by decide) (by decide) (by rfl) (by rfl)) (by rfl)) (by rfl)) (by kernel_rfl) rfl rfl (by kernel_rfl) (fun c => @pg_name _ _ 0 _ (show (["_law_k", "_law_game_here"] : List Str).Nodup by decide +kernel) rfl (by walk_at "e") (by walk_at "i")) (go_name (by decide)) (fun c => @pts_nil _) (fun c => (@pe_compB _ _ _ _ _ _ _ (["_law_row", "_law_k"]) 1 [0] _ _ _ _ rfl (@kSeq _ K _ _ _ (@kIx _ K _ _ _ _ _ (@vw _ 1 _ _ (by walk_at "v")) (@pe_int _ _ _ _) (by intro _ _; rfl) (by rfl)) (by rfl)) (by kernel_rfl) rfl rfl (by kernel_rfl) (fun c => @pg_name _ _ 0 _ (show (["_law_row", "_law_k"] : List Str).Nodup by decide +kernel) rfl (by walk_at "e") (by walk_at "i")) (go_name (by decide)) (fun c => @pts_nil _) (fun c => (@kIx _ K _ _ _ _ _ (@vw _ 0 _ _ (by walk_at "v")) (@vw _ 1 _ _ (by walk_at "v")) (by intro _ _; rfl) (by rfl))) (by intro _; rfl))) (by rfl) (by intro _; rfl)) (@pss_cons _ _ _ _ _ (@ps_for _ _ _ _ _ _ _ _ PassesOwn.never rfl (@pi_range1 _ _ _ _ _ _ rfl T.z_range (@pa1 _ _ _ (@pe_callB _ _ _ _ _ _ _ _ _ (kLen (K := K)) rfl T.z_len (by rfl) (@pa1 _ _ _ (@vw _ 1 _ _ (by walk_at "v")) (by rfl)) (by decide) (by decide) (by rfl) (by rfl)) (by rfl)) (by rfl)) (@pg_name _ _ 2 _ sc__law_pair.nd rfl (by walk_at "e") (by walk_at "i")) (@pss_one _ _ _ (@ps_for _ _ _ _ _ _ _ _ PassesOwn.never rfl (@pi_range2 _ _ _ _ _ _ _ rfl T.z_range (@pa_cons _ _ _ _ _ (@pe_op _ _ _ _ _ _ _ _ (kAdd (K := K)) (@vw _ 2 _ _ (by walk_at "v")) (@pe_int _ _ _ _)) (@pa1 _ _ _ (@pe_callB _ _ _ _ _ _ _ _ _ (kLen (K := K)) rfl T.z_len (by rfl) (@pa1 _ _ _ (@vw _ 1 _ _ (by walk_at "v")) (by rfl)) (by decide) (by decide) (by rfl) (by rfl)) (by rfl)) (by rfl)) (by rfl) (by rfl)) (@pg_name _ _ 3 _ sc__law_pair.nd rfl (by walk_at "e") (by walk_at "i")) (@pss_one _ _ _ (@ps_if _ _ _ _ _ _ _ _ (PW.pt (@pw_and _ _ _ _ _ _ _ (@tu_cmp _ _ _ _ _ _ _ _ (kEq (K := K) hu) (@kIx _ K _ _ _ _ _ (@vw _ 1 _ _ (by walk_at "v")) (@vw _ 2 _ _ (by walk_at "v")) (by intro _ _; rfl) (by rfl)) (@kIx _ K _ _ _ _ _ (@vw _ 1 _ _ (by walk_at "v")) (@vw _ 3 _ _ (by walk_at "v")) (by intro _ _; rfl) (by rfl)) (by walk_at "n")) (@pw_and1 _ _ _ _ (@tu_cmp _ _ _ _ _ _ _ _ (kNe (K := K) hu) (@kIx _ K _ _ _ _ _ (@kIx _ K _ _ _ _ _ (@vw _ 0 _ _ (by walk_at "v")) (@pe_int _ _ _ _) (by intro _ _; rfl) (by rfl)) (@vw _ 2 _ _ (by walk_at "v")) (by intro _ _; rfl) (by rfl)) (@kIx _ K _ _ _ _ _ (@kIx _ K _ _ _ _ _ (@vw _ 0 _ _ (by walk_at "v")) (@pe_int _ _ _ _) (by intro _ _; rfl) (by rfl)) (@vw _ 3 _ _ (by walk_at "v")) (by intro _ _; rfl) (by rfl)) (by walk_at "n"))))) (@pss_one _ _ _ (@ps_ret _ _ _ _ (@pe_tup _ _ _ _ _ (@pa_cons _ _ _ _ _ (@vw _ 2 _ _ (by walk_at "v")) (@pa1 _ _ _ (@vw _ 3 _ _ (by walk_at "v")) (by rfl)) (by rfl))))) (@pss_nil _))) (by intro _; rfl))) (by intro _; rfl)) (@pss_one _ _ _ (@ps_ret _ _ _ _ (@pe_non _ _ _))))), ?_⟩
  refine seq_at (fun σ H' => ∃ (l : Addr) (xs : List V), σ = [some (.ref a), some (.ref l), none, none] /\ Same H H' /\ H' l = some (.lst xs) /\ Reps K H' (colsD rs ls.length) xs) ?_ ?_ (by walk_at "sm")
  . refine ⟨_, .ref tl, .inr g.two, rfl, ls.length, .inr ⟨_, g.lab, by rw [List.length_map]⟩, (ls.length : Int), rfl, by omega, by omega, ?_⟩
    rw [Int.toNat_natCast]
    refine comp_range (fun k ys H' => Same H H' /\ Reps K H' (colsD rs k) ys) ⟨Same.refl _, reps_nil⟩ (fun k ys H' hk ⟨_, R⟩ => by rw [<- R.length, colsD_len]; exact small1000 (by omega)) ?_ ?_
    . rintro k ys H1 hk ⟨s1, R1⟩
      have g1 := g.same s1
      have e0 : (0 : Int) + (k : Int) = ((k : Nat) : Int) := by omega
      rw [e0]
      refine ⟨_, .ref rl, .inr g1.two, rfl, .inr ⟨⟨_, g1.rows⟩, ?_⟩⟩
      refine comp_tup (xs := ps.map V.ref) (fun j zs H' => H' = H1 /\ zs = ((rs.take j).map fun r => gB r k).map V.bl) ⟨rfl, rfl⟩ (fun j zs H' _ ⟨e, _⟩ => by rw [e]; exact g1.rows) (fun j zs H' hj ⟨_, e⟩ => by
        rw [List.length_map, g1.len] at hj
        rw [e, List.length_map, List.length_map, List.length_take]; exact small1000 (by omega)) ?_ ?_
      . rintro j x zs H' hx ⟨rfl, rfl⟩
        obtain ⟨b, hb, rfl⟩ := ref_at hx
        obtain ⟨r, er, hs, ha⟩ := col_comp g1 G hk hb
        refine ⟨_, .bl (gB r k), .inr hs, ha, rfl, ?_⟩
        rw [List.take_add_one, er, List.map_append, List.map_append]
        rfl
      . rintro zs H' ⟨rfl, rfl⟩ l hl
        rw [List.length_map, g1.len, List.take_length]
        have s2 : Same H' (upd H' l (.lst ((rs.map fun r => gB r k).map V.bl))) := Same.upd hl
        refine ⟨s1.trans s2, ?_⟩
        rw [colsD_succ]
        exact Reps.append (Reps.same s2 _ _ R1) (reps_cons (by unfold Rep; exact ⟨l, _, rfl, .of upd_same, reps_bl _⟩) reps_nil)
    . rintro ys H1 ⟨s1, R1⟩ l hl
      have s2 : Same H1 (upd H1 l (.lst ys)) := Same.upd hl
      exact ⟨l, ys, rfl, s1.trans s2, upd_same, Reps.same s2 _ _ R1⟩
  rintro σ H1 ⟨l, xs, rfl, s1, gl, R⟩
  have g1 := g.same s1
  refine seq_at (fun σ H' => H' = H1 /\ (∃ x y, σ = [some (.ref a), some (.ref l), x, y]) /\ EndsP ls rs) ?_ ?_ (by walk_at "sm")
  rotate_left
  . rintro σ H' ⟨rfl, ⟨x, y, rfl⟩, he⟩
    exact q1 _ s1 he
  refine ⟨ls.length, .inl ⟨_, .of gl, by rw [<- R.length, colsD_len]⟩, (ls.length : Int), rfl, by omega, by omega, ?_⟩
  rw [Int.toNat_natCast]
  refine for_range (fun k σ H' => H' = H1 /\ (∃ x y, σ = [some (.ref a), some (.ref l), x, y]) /\ ∀ i' j', i' < k -> ¬ BadP ls rs i' j') ⟨rfl, ⟨none, none, rfl⟩, fun i' j' h => absurd h (Nat.not_lt_zero _)⟩ ?_ ?_
  rotate_left
  . rintro σ H' ⟨rfl, hσ, h⟩
    exact ⟨rfl, hσ, fun i j hb => h i j (by have := hb.1; have := hb.2.1; omega) hb⟩
  rintro i σ H' hi ⟨rfl, ⟨x, y, rfl⟩, hno⟩
  have e0 : (0 : Int) + (i : Int) = ((i : Nat) : Int) := by omega
  rw [e0]
  refine ⟨ls.length, .inl ⟨_, .of gl, by rw [<- R.length, colsD_len]⟩, ((i : Int) + 1), (ls.length : Int), rfl, ⟨by omega, by omega, by omega, by omega⟩, ?_⟩
  obtain ⟨W, hW⟩ : ∃ W : Nat, ((ls.length : Int) - ((i : Int) + 1)).toNat = W := ⟨_, rfl⟩
  rw [hW]
  refine for_range (fun k σ H2 => H2 = H' /\ (∃ y, σ = [some (.ref a), some (.ref l), some (.int (i : Nat)), y]) /\ ∀ j', j' < i + 1 + k -> ¬ BadP ls rs i j') ⟨rfl, ⟨y, rfl⟩, fun j' h hb => by have := hb.1; omega⟩ ?_ ?_
  rotate_left
  . rintro σ H2 ⟨rfl, ⟨y, rfl⟩, h⟩
    refine ⟨rfl, ⟨_, y, rfl⟩, fun i' j' hi' hb => ?_⟩
    rcases Nat.lt_or_ge i' i with z | z
    . exact hno i' j' z hb
    . have : i' = i := by omega
      subst this
      exact h j' (by have := hb.2.1; omega) hb
  rintro k σ H2 hk ⟨rfl, ⟨y, rfl⟩, hno2⟩
  have e1 : (i : Int) + 1 + (k : Int) = ((i + 1 + k : Nat) : Int) := by omega
  rw [e1]
  have hj : i + 1 + k < ls.length := by omega
  have next : ¬ BadP ls rs i (i + 1 + k) -> ∀ j', j' < i + 1 + (k + 1) -> ¬ BadP ls rs i j' := fun h j' hj' => by
    rcases Nat.lt_or_ge j' (i + 1 + k) with z | z
    . exact hno2 j' z
    . have : j' = i + 1 + k := by omega
      rw [this]; exact h
  obtain ⟨x1, hx1, r1⟩ := R.get (colsD_get rs hi)
  obtain ⟨x2, hx2, r2⟩ := R.get (colsD_get rs hj)
  refine ⟨_, x1, .inl (.of gl), atI_of rfl hx1, _, x2, .inl (.of gl), atI_of rfl hx2, ?_⟩
  have r1' := r1
  have r2' := r2
  unfold Rep at r1' r2'
  obtain ⟨b1, _, rfl, _⟩ := r1'
  obtain ⟨b2, _, rfl, _⟩ := r2'
  refine ⟨_, _, r1, r2, by unfold depD; rw [depDs_bls]; omega, ?_⟩
  rw [eqD_col, Bool.false_xor]
  refine ite2 (fun e2 => ?_) (fun e2 => ?_)
  . refine ⟨_, .ref tl, .inr g1.two, rfl, _, .int (labF ls i), .inr g1.lab, lab_at hi, _, .ref tl, .inr g1.two, rfl, _, .int (labF ls (i + 1 + k)), .inr g1.lab, lab_at hj, ?_⟩
    refine ite2 (fun e => ?_) (fun e => ?_)
    . have ne : labF ls i ≠ labF ls (i + 1 + k) := by simpa using e
      have hb : BadP ls rs i (i + 1 + k) := ⟨by omega, hj, ne, of_decide_eq_true e2⟩
      refine ⟨small_le (show 2 <= 1000 by decide), fun t ht => ?_⟩
      refine q2 i (i + 1 + k) t _ ⟨hb, fun i' j' hb' => ?_⟩ (s1.free ht) (s1.trans (Same.upd ht)) upd_same
      rcases Nat.lt_trichotomy i' i with z | z | z
      . exact absurd hb' (hno i' j' z)
      . subst z
        exact .inr ⟨rfl, Nat.le_of_not_lt fun w => hno2 j' w hb'⟩
      . exact .inl z
    . have eq : labF ls i = labF ls (i + 1 + k) := by simpa using e
      exact ⟨rfl, ⟨_, rfl⟩, next fun hb => hb.2.2.1 eq⟩
  . exact ⟨rfl, ⟨_, rfl⟩, next fun hb => e2 (decide_eq_true hb.2.2.2)⟩
def sp_ends (K : W.Frag) : Sp := fun vs H Q _ => match vs with
  | [v] => ∃ ls rs, Rep K H (gmD ls rs) v /\ Gm ls rs /\ ∀ (b : Bool) H', Same H H' -> (b = true ↔ EndsP ls rs) -> Q (.bl b) H'
  | _ => False
theorem sp_ends_mono : SpMono (sp_ends K) := fun vs H Q Q' E h q => by
  unfold sp_ends at *
  split at q
  . revert q; repeat' first | exact h _ _ | exact newL_mono h | exact out_mono h | exact outT_mono h | walk_at "m"
  . exact q.elim
theorem ok_ends : FnOk P w K mg base CX0 2 T.f_ends T.d_ends ["game"] (sp_ends K) := by
  have G_first_unparted := ok_first_unparted (P := P) (w := w) (base := base) T
  refine T.F_ends.ok sc_ends (fun vs H Q E h => by unfold sp_ends at h; split at h <;> first | rfl | exact h.elim) (fun cdv A outer s H vs Q E hr h => ?_)
  have hu := hu60 hr
  have hr_first_unparted := hr.mono (show 1 <= _ by decide)
  unfold sp_ends at h
  split at h
  rotate_left
  . exact h.elim
  rename_i v
  obtain ⟨ls, rs, hv, G, q⟩ := h
  refine ⟨_, (@pss_one _ _ _ (@ps_ret _ _ _ _ (@pe_cmpM _ _ _ _ _ _ _ _ om_is (@pe_call _ _ _ _ _ _ _ _ _ _ _ _ _ _ _ _ G_first_unparted hr_first_unparted rfl T.m_first_unparted T.F_first_unparted.kp T.b_first_unparted .nil pass0 (@pa1 _ _ _ (@vw _ 0 _ _ (by walk_at "v")) (by rfl)) (by decide) (by rfl) (by rfl)) (@pe_non _ _ _) (by walk_at "n")))), ?_⟩
  refine ⟨ls, rs, hv, G, fun H' s1 he => q _ H' s1 ⟨fun _ => he, fun _ => rfl⟩, fun i j t H' hf ht s1 gt => q _ H' s1 ⟨fun z => ?_, fun he => absurd hf.1 (he i j)⟩⟩
  cases z
noncomputable def badS (ls : List Int) (rs : List (List Bool)) : Nat -> Bool := fun j => by classical exact decide (∃ i, BadP ls rs i j)
theorem badS_iff {ls : List Int} {rs : List (List Bool)} {j : Nat} : badS ls rs j = true ↔ ∃ i, BadP ls rs i j := by unfold badS; simp
theorem card_mono {N : Nat} {S S' : Nat -> Bool} (h : ∀ k, S' k = true -> S k = true) : card N S' <= card N S := by
  induction N with
  | zero => exact Nat.le_refl _
  | succ N ih =>
    rw [card_succ, card_succ]
    cases e : S' N with
    | false => simp; omega
    | true => rw [h N e]; simp; omega
theorem lab_set {ls : List Int} {j : Nat} (hj : j < ls.length) (x : Int) (k : Nat) : labF (ls.set j x) k = if k = j then x else labF ls k := by
  unfold labF
  rw [List.getD_eq_getElem?_getD, List.getD_eq_getElem?_getD, List.getElem?_set]
  by_cases e : j = k
  . subst e; simp [hj]
  . simp [e, Ne.symm e]
theorem bad_less {ls : List Int} {rs : List (List Bool)} {i j : Nat} (h : FirstP ls rs i j) : card ls.length (badS (ls.set j (labF ls i)) rs) < card ls.length (badS ls rs) := by
  obtain ⟨⟨h1, h2, h3, h4⟩, h5⟩ := h
  have hl := lab_set h2 (labF ls i)
  have len : (ls.set j (labF ls i)).length = ls.length := List.length_set
  have key : ∀ j', badS (ls.set j (labF ls i)) rs j' = true -> (badS ls rs j' && !(j' == j)) = true := by
    intro j' hb
    obtain ⟨i', b1, b2, b3, b4⟩ := badS_iff.mp hb
    rw [len] at b2
    rw [hl, hl] at b3
    have hne : j' ≠ j := by
      intro e
      subst e
      rw [if_neg (show i' ≠ j' by omega), if_pos rfl] at b3
      rcases Nat.lt_trichotomy i' i with z | z | z
      . rcases h5 i' i ⟨z, by omega, b3, b4.trans h4.symm⟩ with y | y
        . omega
        . omega
      . subst z; exact b3 rfl
      . rcases h5 i i' ⟨z, by omega, Ne.symm b3, h4.trans b4.symm⟩ with y | y
        . omega
        . omega
    rw [if_neg hne] at b3
    have : badS ls rs j' = true := by
      by_cases e : i' = j
      . subst e
        rw [if_pos rfl] at b3
        exact badS_iff.mpr ⟨i, by omega, b2, b3, h4.trans b4⟩
      . rw [if_neg e] at b3
        exact badS_iff.mpr ⟨i', b1, b2, b3, b4⟩
    rw [this]
    simpa using hne
  have c1 := card_mono (N := ls.length) key
  have c2 := card_split ls.length (badS ls rs) (fun k => k == j)
  have c3 := card_pos (S := fun k => badS ls rs k && k == j) h2 (by rw [badS_iff.mpr ⟨i, h1, h2, h3, h4⟩]; simp)
  omega
theorem Gm.set {ls : List Int} {rs : List (List Bool)} (G : Gm ls rs) {i : Nat} (j : Nat) (hi : i < ls.length) : Gm (ls.set j (labF ls i)) rs := by
  refine ⟨by rw [List.length_set]; exact G.l1, by rw [List.length_set]; exact G.l16, G.r1, G.r16, fun r hr => by rw [List.length_set]; exact G.row r hr, fun x hx => ?_⟩
  rcases List.mem_or_eq_of_mem_set hx with h | h
  . exact G.sm x h
  . rw [h]
    unfold labF
    rw [List.getD_eq_getElem?_getD, List.getElem?_eq_getElem hi]
    exact G.sm _ (List.getElem_mem hi)
def sp_ending (K : W.Frag) : Sp := fun vs H Q _ => match vs with
  | [v] => ∃ ls rs, Rep K H (gmD ls rs) v /\ Gm ls rs /\ ∀ ls' u H', Same H H' -> Gm ls' rs -> EndsP ls' rs -> Rep K H' (gmD ls' rs) u -> Q u H'
  | _ => False
theorem sp_ending_mono : SpMono (sp_ending K) := fun vs H Q Q' E h q => by
  unfold sp_ending at *
  split at q
  . revert q; repeat' first | exact h _ _ | exact newL_mono h | exact out_mono h | exact outT_mono h | walk_at "m"
  . exact q.elim
theorem rep_gm {K : W.Frag} {H : Hp} {ls : List Int} {rs : List (List Bool)} {t tl : Addr} {x2 : V} (h : H t = some (.tup [.ref tl, x2])) (h1 : SqT K H tl (ls.map V.int)) (h2 : Rep K H (.tup (tabsD rs)) x2) : Rep K H (gmD ls rs) (.ref t) :=
  rep_tup2 (.of h) (reps_cons (rep_tup2 h1 (reps_ints ls)) (reps_cons h2 reps_nil))
theorem ok__law_ending : FnOk P w K mg base CX0 2 T.f__law_ending T.d__law_ending ["_law_game_here"] (sp_ending K) := by
  have G__law_pair := ok__law_pair (P := P) (w := w) (base := base) T
  refine T.F__law_ending.ok sc__law_ending (fun vs H Q E h => by unfold sp_ending at h; split at h <;> first | rfl | exact h.elim) (fun cdv A outer s H vs Q E hr h => ?_)
  have hu := hu60 hr
  have hr__law_pair := hr.mono (show 1 <= _ by decide)
  unfold sp_ending at h
  split at h
  rotate_left
  . exact h.elim
  rename_i v
  obtain ⟨ls, rs, hv, G, q⟩ := h
  obtain ⟨a, x1, x2, rfl, hs2, hx1, hx2⟩ := rep_two_inv hv
  obtain ⟨tl, zs, rfl, hlab, hz⟩ := rep_tup_inv hx1
  obtain rfl := reps_int_inv hz
  have mono1 : SpMono (sp_pair K) := sp_pair_mono
  refine ⟨_, (@pss_cons _ _ _ _ _ (@ps_set _ _ 1 _ _ _ _ sc__law_ending.nd rfl (by walk_at "e") (@pe_callTy _ _ _ _ _ _ _ _ _ (kList (K := K)) rfl T.z_list (by rfl) (@pa1 _ _ _ (@kIx _ K _ _ _ _ _ (@vw _ 0 _ _ (by walk_at "v")) (@pe_int _ _ _ _) (by intro _ _; rfl) (by rfl)) (by rfl)) (by decide) (by decide) (by rfl) (by rfl)) (by rfl) (by walk_at "i")) (@pss_cons _ _ _ _ _ (@ps_set _ _ 2 _ _ _ _ sc__law_ending.nd rfl (by walk_at "e") (@pe_call _ _ _ _ _ _ _ _ _ _ _ _ _ _ _ _ G__law_pair hr__law_pair rfl T.m__law_pair T.F__law_pair.kp T.b__law_pair .nil pass0 (@pa1 _ _ _ (@vw _ 0 _ _ (by walk_at "v")) (by rfl)) (by decide) (by rfl) (by rfl)) (by rfl) (by walk_at "i")) (@pss_cons _ _ _ _ _ (@ps_whileM _ _ _ _ _ _ PassesOwn.never (@tu_cmp _ _ _ _ _ _ _ _ om_isn (@vw _ 2 _ _ (by walk_at "v")) (@pe_non _ _ _) (by walk_at "n")) (@pss_cons _ _ _ _ _ (@ps_asg _ _ _ _ _ _ (@kIx _ K _ _ _ _ _ (@vw _ 1 _ _ (by walk_at "v")) (@kIx _ K _ _ _ _ _ (@vw _ 2 _ _ (by walk_at "v")) (@pe_int _ _ _ _) (by intro _ _; rfl) (by rfl)) (by intro _ _; rfl) (by rfl)) (@pg_sub _ _ _ _ _ _ _ (@vw _ 1 _ _ (by walk_at "v")) (@kIx _ K _ _ _ _ _ (@vw _ 2 _ _ (by walk_at "v")) (@pe_int _ _ _ _) (by intro _ _; rfl) (by rfl)) set_any (by intro _; rfl)) (by rfl) (by rfl) (by rfl)) (@pss_one _ _ _ (@ps_set _ _ 2 _ _ _ _ sc__law_ending.nd rfl (by walk_at "e") (@pe_call _ _ _ _ _ _ _ _ _ _ _ _ _ _ _ _ G__law_pair hr__law_pair rfl T.m__law_pair T.F__law_pair.kp T.b__law_pair .nil pass0 (@pa1 _ _ _ (@pe_tup _ _ _ _ _ (@pa_cons _ _ _ _ _ (@pe_callTy _ _ _ _ _ _ _ _ _ (kTuple (K := K)) rfl T.z_tuple (by rfl) (@pa1 _ _ _ (@vw _ 1 _ _ (by walk_at "v")) (by rfl)) (by decide) (by decide) (by rfl) (by rfl)) (@pa1 _ _ _ (@kIx _ K _ _ _ _ _ (@vw _ 0 _ _ (by walk_at "v")) (@pe_int _ _ _ _) (by intro _ _; rfl) (by rfl)) (by rfl)) (by rfl))) (by rfl)) (by decide) (by rfl) (by rfl)) (by rfl) (by walk_at "i"))))) (@pss_one _ _ _ (@ps_ret _ _ _ _ (@pe_tup _ _ _ _ _ (@pa_cons _ _ _ _ _ (@pe_callTy _ _ _ _ _ _ _ _ _ (kTuple (K := K)) rfl T.z_tuple (by rfl) (@pa1 _ _ _ (@vw _ 1 _ _ (by walk_at "v")) (by rfl)) (by decide) (by decide) (by rfl) (by rfl)) (@pa1 _ _ _ (@kIx _ K _ _ _ _ _ (@vw _ 0 _ _ (by walk_at "v")) (@pe_int _ _ _ _) (by intro _ _; rfl) (by rfl)) (by rfl)) (by rfl)))))))), ?_⟩
  refine ⟨_, .ref tl, .inr hs2, rfl, _, .inr hlab, fun l hl => ?_⟩
  dsimp only [gName]
  have s1 : Same H (upd H l (.lst (ls.map V.int))) := Same.upd hl
  have gl1 : upd H l (.lst (ls.map V.int)) l = some (.lst (ls.map V.int)) := upd_same
  generalize upd H l (.lst (ls.map V.int)) = H1 at *
  refine seq_at (fun σ H2 => ∃ u0, σ = [some (.ref a), some (.ref l), some u0] /\ Same H H2 /\ H2 l = some (.lst (ls.map V.int)) /\ ((u0 = .non /\ EndsP ls rs) \/ ∃ (i j : Nat) (t : Addr), u0 = .ref t /\ FirstP ls rs i j /\ H2 t = some (.tup [.int (i : Nat), .int (j : Nat)]))) ?_ ?_ (by walk_at "sm")
  . exact ⟨ls, rs, Rep.same s1 _ _ hv, G, fun H3 s3 he => ⟨_, rfl, s1.trans s3, s3 _ _ gl1, .inl ⟨rfl, he⟩⟩, fun i j t H3 hf ht s3 gt => ⟨_, rfl, s1.trans s3, s3 _ _ gl1, .inr ⟨i, j, t, rfl, hf, gt⟩⟩⟩
  rintro σ H2 ⟨u0, rfl, s2, gl2, hu2⟩
  refine seq_at (fun σ H3 => ∃ (ls1 : List Int) (u : V), σ = [some (.ref a), some (.ref l), some u] /\ Same H H3 /\ H3 l = some (.lst (ls1.map V.int)) /\ Gm ls1 rs /\ EndsP ls1 rs) ?_ ?_ (by walk_at "sm")
  . refine ⟨fun m σ H3 => ∃ (ls1 : List Int) (u : V), σ = [some (.ref a), some (.ref l), some u] /\ m = card ls.length (badS ls1 rs) /\ Same H H3 /\ H3 l = some (.lst (ls1.map V.int)) /\ ls1.length = ls.length /\ Gm ls1 rs /\
      ((u = .non /\ EndsP ls1 rs) \/ ∃ (i j : Nat) (t : Addr), u = .ref t /\ FirstP ls1 rs i j /\ H3 t = some (.tup [.int (i : Nat), .int (j : Nat)])), ⟨_, ls, u0, rfl, rfl, s2, gl2, rfl, G, hu2⟩, ?_⟩
    rintro m σ H3 ⟨ls1, u, rfl, rfl, s3, gl3, ll, G1, hu3⟩
    rcases hu3 with ⟨rfl, he⟩ | ⟨i, j, t, rfl, hf, gt⟩
    . exact ⟨ls1, _, rfl, s3, gl3, G1, he⟩
    . obtain ⟨⟨b1, b2, _⟩, _⟩ := id hf
      refine ⟨_, .int (i : Nat), .inr (.of gt), rfl, _, .int (labF ls1 i), .inl (.of gl3), lab_at (by omega), ?_⟩
      refine ⟨_, .int (j : Nat), .inr (.of gt), rfl, _, j, gl3, by rw [List.length_map]; unfold ixN; rw [if_pos (by omega), if_pos (by omega), Int.toNat_natCast], ?_⟩
      rw [<- List.map_set]
      have s4 : Same H (upd H3 l (.lst ((ls1.set j (labF ls1 i)).map V.int))) := fun b o e => by
        rw [upd_ne (ne_of_none e hl)]
        exact s3 _ _ e
      have gl4 : upd H3 l (.lst ((ls1.set j (labF ls1 i)).map V.int)) l = some (.lst ((ls1.set j (labF ls1 i)).map V.int)) := upd_same
      generalize upd H3 l (.lst ((ls1.set j (labF ls1 i)).map V.int)) = H4 at *
      refine ⟨_, .inl ⟨.of gl4, fun t1 ht1 => ?_⟩⟩
      have s5 : Same H4 (upd H4 t1 (.tup ((ls1.set j (labF ls1 i)).map V.int))) := Same.upd ht1
      have g5 : upd H4 t1 (.tup ((ls1.set j (labF ls1 i)).map V.int)) t1 = some (.tup ((ls1.set j (labF ls1 i)).map V.int)) := upd_same
      generalize upd H4 t1 (.tup ((ls1.set j (labF ls1 i)).map V.int)) = H5 at *
      refine ⟨_, x2, .inr ((s4.trans s5).sqT hs2), rfl, small_le (show 2 <= 1000 by decide), fun t2 ht2 => ?_⟩
      have s6 : Same H5 (upd H5 t2 (.tup [.ref t1, x2])) := Same.upd ht2
      have g6 : upd H5 t2 (.tup [.ref t1, x2]) t2 = some (.tup [.ref t1, x2]) := upd_same
      generalize upd H5 t2 (.tup [.ref t1, x2]) = H6 at *
      have S6 := s4.trans (s5.trans s6)
      have G2 := G1.set j (show i < ls1.length by omega)
      have less := bad_less hf
      rw [ll] at less
      exact ⟨_, rs, rep_gm g6 (.of (s6 _ _ g5)) (Rep.same S6 _ _ hx2), G2, fun H7 s7 he => ⟨_, less, _, _, rfl, rfl, S6.trans s7, s7 _ _ (s6 _ _ (s5 _ _ gl4)), by rw [List.length_set]; exact ll, G2, .inl ⟨rfl, he⟩⟩,
        fun i' j' t' H7 hf' ht' s7 gt' => ⟨_, less, _, _, rfl, rfl, S6.trans s7, s7 _ _ (s6 _ _ (s5 _ _ gl4)), by rw [List.length_set]; exact ll, G2, .inr ⟨i', j', t', rfl, hf', gt'⟩⟩⟩
  . rintro σ H3 ⟨ls1, u, rfl, s3, gl3, G1, he⟩
    refine ⟨_, .inl ⟨.of gl3, fun t1 ht1 => ?_⟩⟩
    have s5 : Same H3 (upd H3 t1 (.tup (ls1.map V.int))) := Same.upd ht1
    have g5 : upd H3 t1 (.tup (ls1.map V.int)) t1 = some (.tup (ls1.map V.int)) := upd_same
    generalize upd H3 t1 (.tup (ls1.map V.int)) = H5 at *
    refine ⟨_, x2, .inr ((s3.trans s5).sqT hs2), rfl, small_le (show 2 <= 1000 by decide), fun t2 ht2 => ?_⟩
    have s6 : Same H5 (upd H5 t2 (.tup [.ref t1, x2])) := Same.upd ht2
    have g6 : upd H5 t2 (.tup [.ref t1, x2]) t2 = some (.tup [.ref t1, x2]) := upd_same
    generalize upd H5 t2 (.tup [.ref t1, x2]) = H6 at *
    have S6 := s3.trans (s5.trans s6)
    exact q ls1 _ H6 S6 G1 he (rep_gm g6 (.of (s6 _ _ g5)) (Rep.same S6 _ _ hx2))
theorem mem_lefts {rb : List Bool} {ans : Bool} {ts : List Nat} {k : Nat} : k ∈ lefts rb ans ts ↔ k ∈ ts /\ gB rb k = ans := by unfold lefts; rw [List.mem_filter, beq_iff_eq]
theorem lefts_yes (rb : List Bool) (ts : List Nat) : (fun k => decide (k ∈ lefts rb true ts)) = fun k => decide (k ∈ ts) && gB rb k := by
  funext k
  rw [Bool.eq_iff_iff, decide_eq_true_eq, mem_lefts, Bool.and_eq_true, decide_eq_true_eq]
theorem lefts_no (rb : List Bool) (ts : List Nat) : (fun k => decide (k ∈ lefts rb false ts)) = fun k => decide (k ∈ ts) && !gB rb k := by
  funext k
  rw [Bool.eq_iff_iff, decide_eq_true_eq, mem_lefts, Bool.and_eq_true, decide_eq_true_eq, Bool.not_eq_true']
theorem lefts_rise {rb : List Bool} {ans : Bool} {ts : List Nat} (h : ts.Pairwise (· < ·)) : (lefts rb ans ts).Pairwise (· < ·) := h.filter _
theorem card_things {N : Nat} {ts : List Nat} : card N (fun k => decide (k ∈ ts)) <= ts.length := by
  unfold card
  refine nodup_le (List.nodup_range.filter _) fun z hz => ?_
  exact of_decide_eq_true (List.mem_filter.mp hz).2
theorem ends_can {ls : List Int} {rs : List (List Bool)} (he : EndsP ls rs) : ∀ i j, i < ls.length -> j < ls.length -> (∀ y ∈ rs.map gB, y i = y j) -> labF ls i = labF ls j := by
  have key : ∀ i j, i < j -> j < ls.length -> (∀ y ∈ rs.map gB, y i = y j) -> labF ls i = labF ls j := fun i j hij hj h =>
    Classical.byContradiction fun ne => he i j ⟨hij, hj, ne, by
      unfold colB
      apply List.map_congr_left
      intro r hr
      exact h _ (List.mem_map.mpr ⟨r, hr, rfl⟩)⟩
  intro i j hi hj h
  rcases Nat.lt_trichotomy i j with z | z | z
  . exact key i j z hj h
  . rw [z]
  . exact (key j i z hi fun y hy => (h y hy).symm).symm
theorem can_things {ls : List Int} {rs : List (List Bool)} (he : EndsP ls rs) {ts : List Nat} (hlt : ∀ t ∈ ts, t < ls.length) : Can (labF ls) (rs.map gB) (ts.length - 1) (fun k => decide (k ∈ ts)) := by
  refine can_ends (ends_can he) _ _ (fun k hk => hlt k (of_decide_eq_true hk)) ?_
  have := card_things (N := ls.length) (ts := ts)
  omega
theorem few_few {ls : List Int} {rs : List (List Bool)} (he : EndsP ls rs) {ts : List Nat} (hlt : ∀ t ∈ ts, t < ls.length) {m : Nat} (h : IsFew (labF ls) (rs.map gB) (fun k => decide (k ∈ ts)) m) : m <= ts.length - 1 := h.2 _ (can_things he hlt)
theorem one_labels {ls : List Int} {ts : List Nat} {ds : List Int} (nd : ds.Nodup) (hm : ∀ k, k ∈ ds ↔ k ∈ ts.map (labF ls)) : ds.length < 2 ↔ One (labF ls) (fun k => decide (k ∈ ts)) := by
  constructor
  . intro h i j hi hj
    have a1 := (hm _).mpr (List.mem_map.mpr ⟨i, of_decide_eq_true hi, rfl⟩)
    have a2 := (hm _).mpr (List.mem_map.mpr ⟨j, of_decide_eq_true hj, rfl⟩)
    match ds, h with
    | [], _ => simp at a1
    | [x], _ => rw [List.mem_singleton.mp a1, List.mem_singleton.mp a2]
    | x :: y :: r, h => simp at h; omega
  . intro o
    have := can_labels (Y := []) (n := 0) ds o nd fun d hd => by
      obtain ⟨k, hk, e⟩ := List.mem_map.mp ((hm d).mp hd)
      exact ⟨k, decide_eq_true hk, e⟩
    simp at this
    omega
theorem rise_ext : ∀ (l m : List Nat), l.Pairwise (· < ·) -> m.Pairwise (· < ·) -> (∀ k, k ∈ l ↔ k ∈ m) -> l = m
  | [], [], _, _, _ => rfl
  | [], b :: m, _, _, h => absurd ((h b).mpr (by simp)) (by simp)
  | a :: l, [], _, _, h => absurd ((h a).mp (by simp)) (by simp)
  | a :: l, b :: m, h1, h2, h => by
    obtain ⟨p1, p2⟩ := List.pairwise_cons.mp h1
    obtain ⟨q1, q2⟩ := List.pairwise_cons.mp h2
    have e : a = b := by
      rcases List.mem_cons.mp ((h a).mp (by simp)) with x | x
      . exact x
      . rcases List.mem_cons.mp ((h b).mpr (by simp)) with y | y
        . exact y.symm
        . have := q1 a x
          have := p1 b y
          omega
    subst e
    rw [rise_ext l m p2 q2 fun k => ?_]
    constructor
    . intro hk
      rcases List.mem_cons.mp ((h k).mp (List.mem_cons_of_mem _ hk)) with x | x
      . have := p1 k hk; omega
      . exact x
    . intro hk
      rcases List.mem_cons.mp ((h k).mpr (List.mem_cons_of_mem _ hk)) with x | x
      . have := q1 k hk; omega
      . exact x
def keyT (ts : List Nat) : List Key := ts.map fun t => Sum.inl ((t : Nat) : Int)
theorem keyT_V (ts : List Nat) : (keyT ts).map kV = iL ts := by unfold keyT iL; rw [List.map_map]; rfl
structure NMemo (ls : List Int) (rs : List (List Bool)) (kvs : List (List Key × V)) : Prop where
  nd : (kvs.map (·.1)).Nodup
  ok : ∀ e ∈ kvs, ∃ (ts : List Nat) (m : Nat), e = (keyT ts, V.int (m : Int)) /\ ts.Pairwise (· < ·) /\ (∀ t ∈ ts, t < ls.length) /\ IsFew (labF ls) (rs.map gB) (fun k => decide (k ∈ ts)) m
theorem val_memT {kvs : List (List Key × V)} {k : List Key} {v : V} (h : valV kvs k = some v) : (k, v) ∈ kvs := by
  unfold valV at h
  cases e : kvs.find? fun kv => decide (kv.1 = k) with
  | none => rw [e] at h; cases h
  | some x =>
    rw [e] at h
    have h1 := List.find?_some e
    have h2 := List.mem_of_find?_eq_some e
    cases h
    have : x.1 = k := of_decide_eq_true h1
    rw [<- this]
    exact h2
theorem keyT_inj {ts us : List Nat} (h : keyT ts = keyT us) : ts = us := by
  have := congrArg (List.map fun k : Key => match k with | Sum.inl z => z.toNat | Sum.inr _ => 0) h
  unfold keyT at this
  rw [List.map_map, List.map_map] at this
  have e : ((fun k : Key => match k with | Sum.inl z => z.toNat | Sum.inr _ => 0) ∘ fun t : Nat => (Sum.inl ((t : Nat) : Int) : Key)) = id := by funext t; exact Int.toNat_natCast t
  rw [e, List.map_id, List.map_id] at this
  exact this
theorem NMemo.get {ls : List Int} {rs : List (List Bool)} {kvs : List (List Key × V)} (h : NMemo ls rs kvs) {ts : List Nat} {v : V} (e : valV kvs (keyT ts) = some v) : ∃ m : Nat, v = .int m /\ IsFew (labF ls) (rs.map gB) (fun k => decide (k ∈ ts)) m := by
  obtain ⟨us, m, ee, _, _, hf⟩ := h.ok _ (val_memT e)
  have e1 : keyT ts = keyT us := congrArg Prod.fst ee
  have e2 : v = V.int m := congrArg Prod.snd ee
  have := keyT_inj e1
  subst this
  exact ⟨m, e2, hf⟩
theorem NMemo.put {ls : List Int} {rs : List (List Bool)} {kvs : List (List Key × V)} (h : NMemo ls rs kvs) {ts : List Nat} {m : Nat} (h1 : ts.Pairwise (· < ·)) (h2 : ∀ t ∈ ts, t < ls.length) (hf : IsFew (labF ls) (rs.map gB) (fun k => decide (k ∈ ts)) m) : NMemo ls rs (putK kvs (keyT ts) (V.int m)) := by
  unfold putK
  split
  . refine ⟨?_, ?_⟩
    . have e : (kvs.map (fun kv => if kv.1 = keyT ts then (kv.1, V.int m) else kv)).map (·.1) = kvs.map (·.1) := by
        rw [List.map_map]
        apply List.map_congr_left
        intro a _
        simp only [Function.comp]
        split <;> rfl
      rw [e]
      exact h.nd
    . intro e he
      obtain ⟨a, ha, rfl⟩ := List.mem_map.mp he
      split
      . rename_i q
        exact ⟨ts, m, by rw [q], h1, h2, hf⟩
      . exact h.ok a ha
  . rename_i z
    refine ⟨?_, ?_⟩
    . rw [List.map_append, List.nodup_append]
      refine ⟨h.nd, by simp, ?_⟩
      intro a ha b hb q
      have hb' : b = keyT ts := by simpa using hb
      obtain ⟨x, hx, rfl⟩ := List.mem_map.mp ha
      exact z (List.any_eq_true.mpr ⟨x, hx, decide_eq_true (q.trans hb')⟩)
    . intro e he
      rcases List.mem_append.mp he with q | q
      . exact h.ok e q
      . rw [List.mem_singleton] at q
        exact ⟨ts, m, q, h1, h2, hf⟩
def keyM (k : List Key) : Nat := msk (k.map fun x => match x with | Sum.inl z => z.toNat | Sum.inr _ => 0)
theorem keyM_T (ts : List Nat) : keyM (keyT ts) = msk ts := by
  unfold keyM keyT
  rw [List.map_map]
  have e : ((fun k : Key => match k with | Sum.inl z => z.toNat | Sum.inr _ => 0) ∘ fun t : Nat => (Sum.inl ((t : Nat) : Int) : Key)) = id := by funext t; exact Int.toNat_natCast t
  rw [e, List.map_id]
theorem NMemo.len {ls : List Int} {rs : List (List Bool)} {kvs : List (List Key × V)} (h : NMemo ls rs kvs) (h16 : ls.length <= 16) : kvs.length < 2 ^ 24 := by
  have hl : kvs.length <= 2 ^ ls.length := by
    have e : (kvs.map fun e => keyM e.1).length = kvs.length := List.length_map ..
    rw [<- e]
    apply pigeon
    . refine List.pairwise_map.mpr ?_
      have nd := List.pairwise_map.mp h.nd
      refine List.Pairwise.imp_of_mem ?_ nd
      intro a b ha hb ne q
      obtain ⟨ts, m, ea, r1, b1, _⟩ := h.ok a ha
      obtain ⟨us, m', eb, r2, b2, _⟩ := h.ok b hb
      subst ea eb
      apply ne
      rw [keyM_T, keyM_T] at q
      have x1 := (msk_rise r1 b1).2
      have x2 := (msk_rise r2 b2).2
      have : ts = us := rise_ext ts us r1 r2 fun k => by
        have := x1 k
        rw [q, x2 k] at this
        exact ⟨fun z => of_decide_eq_true (this.trans (decide_eq_true z)), fun z => of_decide_eq_true (this.symm.trans (decide_eq_true z))⟩
      rw [this]
    . intro x hx
      obtain ⟨a, ha, rfl⟩ := List.mem_map.mp hx
      obtain ⟨ts, m, ea, r1, b1, _⟩ := h.ok a ha
      subst ea
      rw [keyM_T]
      exact (msk_rise r1 b1).1
  have : 2 ^ ls.length <= 2 ^ 16 := Nat.pow_le_pow_right (by decide) h16
  omega
theorem need_min {L : Nat -> Int} {Y : List (Nat -> Bool)} {S : Nat -> Bool} {F least : Nat} (ho : ¬ One L S) (hF : IsFew L Y S F) (h1 : F <= least)
    (h2 : ∀ y ∈ Y, Parts S y -> ∃ b c, IsFew L Y (fun k => S k && y k) b /\ IsFew L Y (fun k => S k && !y k) c /\ least <= 1 + max b c) : IsFew L Y S least := by
  have : least = F := by
    obtain ⟨hc, hmin⟩ := hF
    cases F with
    | zero => exact absurd hc ho
    | succ n =>
      rcases hc with o | ⟨y, hy, p, q⟩
      . exact absurd o ho
      . by_cases h : Parts S y
        . obtain ⟨b, c, hb, hc', hle⟩ := h2 y hy h
          have := hb.2 _ p
          have := hc'.2 _ q
          omega
        . rcases not_parts h with z | z
          . have := hmin n (can_sub z p); omega
          . have := hmin n (can_sub z q); omega
  rw [this]
  exact hF
theorem reps_tabs_close {K : W.Frag} {H : Hp} : ∀ {rs : List (List Bool)} {ps : List Addr}, ps.length = rs.length -> (∀ (i : Nat) (q : Addr) (r : List Bool), ps[i]? = some q -> rs[i]? = some r -> SqT K H q (r.map V.bl)) -> Reps K H (tabsD rs) (ps.map V.ref)
  | [], [], _, _ => reps_nil
  | [], _ :: _, h, _ => by simp at h
  | _ :: _, [], h, _ => by simp at h
  | r :: rs, q :: ps, h, hr => reps_cons (rep_tup2 (hr 0 q r rfl rfl) (reps_bl r)) (reps_tabs_close (by simpa using h) fun i q' r' a b => hr (i + 1) q' r' a b)
theorem gm_close {K : W.Frag} {H : Hp} {ls : List Int} {rs : List (List Bool)} {a tl rl : Addr} {ps : List Addr} (g : GmAt K H ls rs a tl rl ps) : Rep K H (gmD ls rs) (.ref a) :=
  rep_tup2 g.two (reps_cons (rep_tup2 g.lab (reps_ints ls)) (reps_cons (rep_tup2 g.rows (reps_tabs_close g.len g.row)) reps_nil))
def sp_sides (K : W.Frag) : Sp := fun vs H Q _ => match vs with
  | [v, .ref p, .int z] => ∃ ls rs ts j r, Rep K H (gmD ls rs) v /\ Gm ls rs /\ SqT K H p (iL ts) /\ ts.length <= 100 /\ (∀ t ∈ ts, t < ls.length) /\ z = (j : Nat) /\ rs[j]? = some r /\ ∀ l pn py H', H l = none -> Same H H' -> H' l = some (.lst [.ref pn, .ref py]) -> H' pn = some (.tup (iL (lefts r false ts))) -> H' py = some (.tup (iL (lefts r true ts))) -> Q (.ref l) H'
  | _ => False
theorem sp_sides_mono : SpMono (sp_sides K) := fun vs H Q Q' E h q => by
  unfold sp_sides at *
  split at q
  . revert q; repeat' first | exact h _ _ | exact newL_mono h | exact out_mono h | exact outT_mono h | walk_at "m"
  . exact q.elim
theorem ok__law_sides : FnOk P w K mg base CX0 1 T.f__law_sides T.d__law_sides ["_law_game_here", "_law_things", "_law_question"] (sp_sides K) := by
  refine T.F__law_sides.ok sc__law_sides (fun vs H Q E h => by unfold sp_sides at h; split at h <;> first | rfl | exact h.elim) (fun cdv A outer s H vs Q E hr h => ?_)
  have hu := hu60 hr
  unfold sp_sides at h
  split at h
  rotate_left
  . exact h.elim
  rename_i v p z
  obtain ⟨ls, rs, ts, j, r, hv, G, hp, hl, hlt, e1, hj, q⟩ := h
  subst e1
  obtain ⟨a, tl, rl, ps, rfl, g⟩ := gm_open hv
  have hj' : j < rs.length := (List.getElem?_eq_some_iff.mp hj).1
  obtain ⟨b, hb⟩ : ∃ b, ps[j]? = some b := ⟨_, List.getElem?_eq_getElem (by rw [g.len]; exact hj')⟩
  have hrow := g.row j b r hb hj
  have hrl : r.length = ls.length := G.row r (List.mem_of_getElem? hj)
  refine ⟨_, (@pss_cons _ _ _ _ _ (@ps_set _ _ 3 _ _ _ _ sc__law_sides.nd rfl (by walk_at "e") (@kIx _ K _ _ _ _ _ (@kIx _ K _ _ _ _ _ (@vw _ 0 _ _ (by walk_at "v")) (@pe_int _ _ _ _) (by intro _ _; rfl) (by rfl)) (@vw _ 2 _ _ (by walk_at "v")) (by intro _ _; rfl) (by rfl)) (by rfl) (by walk_at "i")) (@pss_one _ _ _ (@ps_ret _ _ _ _ (@pe_compB _ _ _ _ _ _ _ (["_law_answer", "_law_things", "_law_row"]) 1 ([1, 3]) _ _ _ _ rfl (@kSeq _ K _ _ _ (@pe_tup _ _ _ _ _ (@pa_cons _ _ _ _ _ (@pe_bl _ _ _ _) (@pa1 _ _ _ (@pe_bl _ _ _ _) (by rfl)) (by rfl))) (by rfl)) (by kernel_rfl) rfl rfl (by kernel_rfl) (fun c => @pg_name _ _ 0 _ (show (["_law_answer", "_law_things", "_law_row"] : List Str).Nodup by decide +kernel) rfl (by walk_at "e") (by walk_at "i")) (go_name (by decide)) (fun c => @pts_nil _) (fun c => (@pe_callTy _ _ _ _ _ _ _ _ _ (kTuple (K := K)) rfl T.z_tuple (by rfl) (@pa1 _ _ _ (@pe_compB _ _ _ _ _ _ _ (["_law_k", "_law_row", "_law_answer"]) 1 ([2, 0]) _ _ _ _ rfl (@kSeq _ K _ _ _ (@vw _ 1 _ _ (by walk_at "v")) (by rfl)) (by kernel_rfl) rfl rfl (by kernel_rfl) (fun c => @pg_name _ _ 0 _ (show (["_law_k", "_law_row", "_law_answer"] : List Str).Nodup by decide +kernel) rfl (by walk_at "e") (by walk_at "i")) (go_name (by decide)) (fun c => @pts_one _ _ _ (@tu_cmp _ _ _ _ _ _ _ _ (kEq (K := K) hu) (@kIx _ K _ _ _ _ _ (@vw _ 1 _ _ (by walk_at "v")) (@vw _ 0 _ _ (by walk_at "v")) (by intro _ _; rfl) (by rfl)) (@vw _ 2 _ _ (by walk_at "v")) (by walk_at "n"))) (fun c => (@vw _ 0 _ _ (by walk_at "v"))) (by intro _; rfl)) (by rfl)) (by decide) (by decide) (by rfl) (by rfl))) (by intro _; rfl))))), ?_⟩
  refine ⟨_, .ref rl, .inr g.two, rfl, _, .ref b, .inr g.rows, atI_of rfl (by rw [List.getElem?_map, hb]; rfl), ?_⟩
  dsimp only [gName]
  refine ⟨small_le (show 2 <= 1000 by decide), fun t ht => .inr ⟨⟨_, .of upd_same⟩, ?_⟩⟩
  have s1 : Same H (upd H t (.tup [.bl false, .bl true])) := Same.upd ht
  have gt1 : upd H t (.tup [.bl false, .bl true]) t = some (.tup [.bl false, .bl true]) := upd_same
  generalize upd H t (.tup [.bl false, .bl true]) = H1 at *
  refine comp_tup (xs := [.bl false, .bl true]) (fun k zs H' => Same H1 H' /\ ∃ qs : List Addr, zs = qs.map V.ref /\ qs.length = k /\ ∀ (i : Nat) (c : Addr), qs[i]? = some c -> H' c = some (.tup (iL (lefts r (i == 1) ts)))) ⟨Same.refl _, [], rfl, rfl, fun i c hc => by simp at hc⟩ (fun k zs H' _ ⟨s, _⟩ => s.sqT (.of gt1)) (fun k zs H' hk ⟨_, qs, e, hq, _⟩ => by
    rw [e, List.length_map, hq]; exact small1000 (by simp at hk; omega)) ?_ ?_
  . rintro k x zs H2 hx ⟨s2, qs, rfl, hq, hall⟩
    obtain ⟨ans, rfl, ea⟩ : ∃ ans : Bool, x = .bl ans /\ ans = (k == 1) := by
      match k, hx with
      | 0, hx => cases hx; exact ⟨false, rfl, rfl⟩
      | 1, hx => cases hx; exact ⟨true, rfl, rfl⟩
      | k + 2, hx => simp at hx
    have S2 := s1.trans s2
    refine .inr ⟨⟨_, S2.sqT hp⟩, ?_⟩
    refine comp_tup (xs := iL ts) (fun k ys H' => H' = H2 /\ ys = iL (lefts r ans (ts.take k))) ⟨rfl, rfl⟩ (fun k ys H' _ ⟨e, _⟩ => by rw [e]; exact S2.sqT hp) (fun k ys H' hk ⟨_, e⟩ => by
      have := lefts_len r ans (ts.take k)
      rw [List.length_take] at this
      rw [e, iL_len]; exact small1000 (by omega)) ?_ ?_
    . rintro k' x ys H' hx ⟨rfl, rfl⟩
      obtain ⟨t, ht, hmem, rfl⟩ := iL_at hx
      refine ⟨_, .bl (gB r t), .inr (S2.sqT hrow), gB_at (by rw [hrl]; exact hlt t hmem), ?_⟩
      rw [lefts_take ht, iL_app]
      refine ite2 (fun e => ?_) (fun e => ?_)
      . have e' : (gB r t == ans) = true := by rw [<- Bool.false_xor (gB r t == ans)]; exact e
        rw [if_pos e']
        exact ⟨rfl, rfl⟩
      . have e' : ¬ (gB r t == ans) = true := by rw [<- Bool.false_xor (gB r t == ans)]; exact e
        rw [if_neg e']
        exact ⟨rfl, by show _ = _ ++ []; rw [List.append_nil]⟩
    . rintro ys H' ⟨rfl, rfl⟩ l hl2
      rw [List.take_of_length_le (by rw [iL_len]; exact Nat.le_refl _)]
      refine ⟨_, .inl ⟨.of upd_same, fun c hc => ?_⟩⟩
      have s3 := (Same.upd (o := .lst (iL (lefts r ans ts))) hl2).trans (Same.upd (o := .tup (iL (lefts r ans ts))) hc)
      refine ⟨s2.trans s3, qs ++ [c], by rw [List.map_append]; rfl, by rw [List.length_append, hq]; rfl, fun i d hd => ?_⟩
      rcases Nat.lt_trichotomy i qs.length with z | z | z
      . rw [List.getElem?_append_left z] at hd
        exact s3 _ _ (hall i d hd)
      . subst z
        rw [List.getElem?_append_right (Nat.le_refl _), Nat.sub_self] at hd
        cases hd
        rw [hq, <- ea]
        exact upd_same
      . rw [List.getElem?_append_right (Nat.le_of_lt z), List.getElem?_eq_none (by simp; omega)] at hd
        cases hd
  . rintro zs H' ⟨s2, qs, rfl, hq, hall⟩ l hl'
    match qs, hq, hall with
    | [b0, b1], _, hall =>
    have s3 : Same H' (upd H' l (.lst ([b0, b1].map V.ref))) := Same.upd hl'
    exact q l b0 b1 _ ((s1.trans s2).free hl') (s1.trans (s2.trans s3)) upd_same (s3 _ _ (hall 0 b0 rfl)) (s3 _ _ (hall 1 b1 rfl))
def sp_need (K : W.Frag) (c : Nat) : Sp := fun vs H Q _ => match vs with
  | [v, .ref p, .ref d] => ∃ ls rs ts kvs, Rep K H (gmD ls rs) v /\ Gm ls rs /\ EndsP ls rs /\ H p = some (.tup (iL ts)) /\ ts.Pairwise (· < ·) /\ (∀ t ∈ ts, t < ls.length) /\ ts.length < c /\ H d = some (.dT kvs) /\ NMemo ls rs kvs /\ ∀ (m : Nat) (kvs' : List (List Key × V)) H', IsFew (labF ls) (rs.map gB) (fun k => decide (k ∈ ts)) m -> Frm d H H' -> H' d = some (.dT kvs') -> NMemo ls rs kvs' -> Q (.int (m : Nat)) H'
  | _ => False
theorem sp_need_mono {c : Nat} : SpMono (sp_need K c) := fun vs H Q Q' E h q => by
  unfold sp_need at *
  split at q
  . revert q; repeat' first | exact h _ _ | exact newL_mono h | exact out_mono h | exact outT_mono h | walk_at "m"
  . exact q.elim
theorem noTup_dT {kvs : List (List Key × V)} : NoTup (.dT kvs) := ⟨(fun _ z => nomatch z), (fun _ _ z => nomatch z)⟩
theorem eqD_nil (ts : List Nat) : eqD (.tup (iD ts)) (.tup []) = decide (ts = []) := by
  rw [eqD_tup]
  cases ts with
  | nil => rfl
  | cons t ts => rfl
theorem reps_iD {K : W.Frag} {H : Hp} : ∀ ts : List Nat, Reps K H (iD ts) (iL ts)
  | [] => reps_nil
  | t :: ts => reps_cons (by unfold Rep; rfl) (reps_iD ts)
theorem depDs_iD : ∀ ts : List Nat, depDs (iD ts) = 0
  | [] => by simp [iD, depDs]
  | t :: ts => by
    show depDs (Dv.int (t : Nat) :: iD ts) = _
    unfold depDs
    rw [depDs_iD ts]
    rfl
theorem parts_lefts {r : List Bool} {ts : List Nat} : Parts (fun k => decide (k ∈ ts)) (gB r) ↔ lefts r true ts ≠ [] /\ lefts r false ts ≠ [] := by
  have key : ∀ ans, lefts r ans ts ≠ [] ↔ ∃ k, k ∈ ts /\ gB r k = ans := fun ans => by
    constructor
    . intro h
      obtain ⟨x, hx⟩ := List.exists_mem_of_ne_nil _ h
      exact ⟨x, mem_lefts.mp hx⟩
    . rintro ⟨k, hk⟩ e
      have := mem_lefts.mpr hk
      rw [e] at this
      simp at this
  unfold Parts
  rw [key true, key false]
  simp only [decide_eq_true_eq]
theorem lefts_less {r : List Bool} {ts : List Nat} (h : Parts (fun k => decide (k ∈ ts)) (gB r)) (ans : Bool) : (lefts r ans ts).length < ts.length := by
  obtain ⟨⟨i, hi, yi⟩, j, hj, yj⟩ := h
  have hi := of_decide_eq_true hi
  have hj := of_decide_eq_true hj
  have key : ∀ (k : Nat) (b : Bool), k ∈ ts -> gB r k = b -> (lefts r (!b) ts).length < ts.length := fun k b hk hb => by
    unfold lefts
    refine Nat.lt_of_le_of_ne (List.length_filter_le _ _) fun e => ?_
    have := List.length_filter_eq_length_iff.mp e k hk
    rw [hb] at this
    cases b <;> simp at this
  cases ans with
  | true => exact key j false hj yj
  | false => exact key i true hi yi
structure Least (ls : List Int) (rs : List (List Bool)) (ts : List Nat) (k least : Nat) : Prop where
  lo : ∀ F, IsFew (labF ls) (rs.map gB) (fun k => decide (k ∈ ts)) F -> F <= least
  hi : ∀ (i : Nat) (r : List Bool), i < k -> rs[i]? = some r -> Parts (fun k => decide (k ∈ ts)) (gB r) -> ∃ b c, IsFew (labF ls) (rs.map gB) (fun k => decide (k ∈ lefts r true ts)) b /\ IsFew (labF ls) (rs.map gB) (fun k => decide (k ∈ lefts r false ts)) c /\ least <= 1 + max b c
theorem need_at (c : Nat) (G__law_need : FnOk P w K mg base CX0 (c + 2) T.f__law_need T.d__law_need ["_law_game_here", "_law_things", "_law_known"] (sp_need K c)) :
    FnOk P w K mg base CX0 (c + 3) T.f__law_need T.d__law_need ["_law_game_here", "_law_things", "_law_known"] (sp_need K (c + 1)) := by
  have G__law_sides := ok__law_sides (P := P) (w := w) (base := base) T
  refine T.F__law_need.ok sc__law_need (fun vs H Q E h => by unfold sp_need at h; split at h <;> first | rfl | exact h.elim) (fun cdv A outer s H vs Q E hr h => ?_)
  have hu := hu60 hr
  have hr__law_need := hr
  have hr__law_sides := hr.mono (show 1 <= c + 2 by omega)
  unfold sp_need at h
  split at h
  rotate_left
  . exact h.elim
  rename_i v p d
  obtain ⟨ls, rs, ts, kvs, hv, G, he, hp, hrise, hlt, hc, hd, M, q⟩ := h
  obtain ⟨a, tl, rl, ps, rfl, g⟩ := gm_open hv
  have l16 := G.l16
  have r16 := G.r16
  have tl16 := rise_len hrise hlt
  have npd : p ≠ d := ne_of hp hd (by intro z; cases z)
  have mo1 : SpMono (sp_need K c) := sp_need_mono
  have mo2 : SpMono (sp_sides K) := sp_sides_mono
  obtain ⟨F, hF⟩ := few_exists (can_things he hlt)
  refine ⟨_, (@pss_cons _ _ _ _ _ (@ps_if _ _ _ _ _ _ _ _ (@tu_cmp _ _ _ _ _ _ _ _ om_lt (@pe_callB _ _ _ _ _ _ _ _ _ cm_lenSet rfl T.z_len (by rfl) (@pa1 _ _ _ (@pe_callTy _ _ _ _ _ _ _ _ _ (kSetL (K := K) rfl) rfl T.z_set (by rfl) (@pa1 _ _ _ (@pe_compB _ _ _ _ _ _ _ (["_law_k", "_law_game_here"]) 1 [0] _ _ _ _ rfl (@kSeq _ K _ _ _ (@vw _ 1 _ _ (by walk_at "v")) (by rfl)) (by kernel_rfl) rfl rfl (by kernel_rfl) (fun c => @pg_name _ _ 0 _ (show (["_law_k", "_law_game_here"] : List Str).Nodup by decide +kernel) rfl (by walk_at "e") (by walk_at "i")) (go_name (by decide)) (fun c => @pts_nil _) (fun c => (@kIx _ K _ _ _ _ _ (@kIx _ K _ _ _ _ _ (@vw _ 1 _ _ (by walk_at "v")) (@pe_int _ _ _ _) (by intro _ _; rfl) (by rfl)) (@vw _ 0 _ _ (by walk_at "v")) (by intro _ _; rfl) (by rfl))) (by intro _; rfl)) (by rfl)) (by decide) (by decide) (by rfl) (by rfl)) (by rfl)) (by decide) (by decide) (by rfl) (by rfl)) (@pe_int _ _ _ _) (by walk_at "n")) (@pss_one _ _ _ (@ps_ret _ _ _ _ (@pe_int _ _ _ _))) (@pss_nil _)) (@pss_cons _ _ _ _ _ (@ps_if _ _ _ _ _ _ _ _ (@tu_cmp _ _ _ _ _ _ _ _ (kDNot hu) (@vw _ 1 _ _ (by walk_at "v")) (@vw _ 2 _ _ (by walk_at "v")) (by walk_at "n")) (@pss_cons _ _ _ _ _ (@ps_set _ _ 3 _ _ _ _ sc__law_need.nd rfl (by walk_at "e") (@pe_callB _ _ _ _ _ _ _ _ _ (kLen (K := K)) rfl T.z_len (by rfl) (@pa1 _ _ _ (@vw _ 1 _ _ (by walk_at "v")) (by rfl)) (by decide) (by decide) (by rfl) (by rfl)) (by rfl) (by walk_at "i")) (@pss_cons _ _ _ _ _ (@ps_for _ _ _ _ _ _ _ _ PassesOwn.never rfl (@pi_range1 _ _ _ _ _ _ rfl T.z_range (@pa1 _ _ _ (@pe_callB _ _ _ _ _ _ _ _ _ (kLen (K := K)) rfl T.z_len (by rfl) (@pa1 _ _ _ (@kIx _ K _ _ _ _ _ (@vw _ 0 _ _ (by walk_at "v")) (@pe_int _ _ _ _) (by intro _ _; rfl) (by rfl)) (by rfl)) (by decide) (by decide) (by rfl) (by rfl)) (by rfl)) (by rfl)) (@pg_name _ _ 4 _ sc__law_need.nd rfl (by walk_at "e") (by walk_at "i")) (@pss_cons _ _ _ _ _ (@ps_set _ _ 5 _ _ _ _ sc__law_need.nd rfl (by walk_at "e") (@pe_call _ _ _ _ _ _ _ _ _ _ _ _ _ _ _ _ G__law_sides hr__law_sides rfl T.m__law_sides T.F__law_sides.kp T.b__law_sides .nil pass0 (@pa_cons _ _ _ _ _ (@vw _ 0 _ _ (by walk_at "v")) (@pa_cons _ _ _ _ _ (@vw _ 1 _ _ (by walk_at "v")) (@pa1 _ _ _ (@vw _ 4 _ _ (by walk_at "v")) (by rfl)) (by rfl)) (by rfl)) (by decide) (by rfl) (by rfl)) (by rfl) (by walk_at "i")) (@pss_one _ _ _ (@ps_if _ _ _ _ _ _ _ _ (@tu_cmp _ _ _ _ _ _ _ _ (kNotInD (K := K) hu) (@pe_tup _ _ _ _ _ (@pa_nil _)) (@vw _ 5 _ _ (by walk_at "v")) (by walk_at "n")) (@pss_one _ _ _ (@ps_set _ _ 3 _ _ _ _ sc__law_need.nd rfl (by walk_at "e") (@pe_callB _ _ _ _ _ _ _ _ _ (cm_min rfl) rfl T.z_min (by rfl) (@pa_cons _ _ _ _ _ (@vw _ 3 _ _ (by walk_at "v")) (@pa1 _ _ _ (@pe_op _ _ _ _ _ _ _ _ (kAdd (K := K)) (@pe_int _ _ _ _) (@pe_callB _ _ _ _ _ _ _ _ _ (kMaxL (K := K) rfl) rfl T.z_max (by rfl) (@pa1 _ _ _ (@pe_compB _ _ _ _ _ _ _ (["_law_side", "_law_game_here", "_law_known"]) 1 ([0, 2]) _ _ _ _ rfl (@kSeq _ K _ _ _ (@vw _ 5 _ _ (by walk_at "v")) (by rfl)) (by kernel_rfl) rfl rfl (by kernel_rfl) (fun c => @pg_name _ _ 0 _ (show (["_law_side", "_law_game_here", "_law_known"] : List Str).Nodup by decide +kernel) rfl (by walk_at "e") (by walk_at "i")) (go_name (by decide)) (fun c => @pts_nil _) (fun c => (@pe_call _ _ _ _ _ _ _ _ _ _ _ _ _ _ _ _ G__law_need hr__law_need rfl T.m__law_need T.F__law_need.kp T.b__law_need .nil pass0 (@pa_cons _ _ _ _ _ (@vw _ 1 _ _ (by walk_at "v")) (@pa_cons _ _ _ _ _ (@vw _ 0 _ _ (by walk_at "v")) (@pa1 _ _ _ (@vw _ 2 _ _ (by walk_at "v")) (by rfl)) (by rfl)) (by rfl)) (by decide) (by rfl) (by rfl))) (by intro _; rfl)) (by rfl)) (by decide) (by decide) (by rfl) (by rfl))) (by rfl)) (by rfl)) (by decide) (by decide) (by rfl) (by rfl)) (by rfl) (by walk_at "i"))) (@pss_nil _)))) (by intro _; rfl)) (@pss_one _ _ _ (@ps_dput _ _ _ _ _ _ _ _ _ (hu_one hu) (@vw _ 2 _ _ (by walk_at "v")) (@vw _ 1 _ _ (by walk_at "v")) (@vw _ 3 _ _ (by walk_at "v")) (by rfl))))) (@pss_nil _)) (@pss_one _ _ _ (@ps_ret _ _ _ _ (@pe_dget _ _ _ _ _ _ (hu_one hu) (@vw _ 2 _ _ (by walk_at "v")) (@vw _ 1 _ _ (by walk_at "v")) (by intro _ _; rfl)))))), ?_⟩
  refine seq_at (fun σ H' => σ = [some (.ref a), some (.ref p), some (.ref d), none, none, none] /\ Same H H' /\ ¬ One (labF ls) (fun k => decide (k ∈ ts))) ?_ ?_ (by walk_at "sm")
  . refine .inr ⟨⟨_, .of hp⟩, ?_⟩
    refine comp_tup (xs := iL ts) (fun k zs H' => H' = H /\ zs = ((ts.take k).map (labF ls)).map V.int) ⟨rfl, rfl⟩ (fun k zs H' _ ⟨e, _⟩ => by rw [e]; exact .of hp) (fun k zs H' hk ⟨_, e⟩ => by
      rw [iL_len] at hk
      rw [e, List.length_map, List.length_map, List.length_take]; exact small1000 (by omega)) ?_ ?_
    . rintro k x zs H' hx ⟨rfl, rfl⟩
      obtain ⟨t, ht, hmem, rfl⟩ := iL_at hx
      refine ⟨_, .ref tl, .inr g.two, rfl, _, .int (labF ls t), .inr g.lab, lab_at (hlt t hmem), rfl, ?_⟩
      rw [List.take_add_one, ht, List.map_append, List.map_append]
      rfl
    . rintro zs H' ⟨rfl, rfl⟩ l hl'
      rw [iL_len, List.take_length]
      refine ⟨_, .of upd_same, by rw [List.length_map]; omega, fun ds qs nd hmem hqs => ?_⟩
      have S := (Same.upd (o := .lst ((ts.map (labF ls)).map V.int)) hl').trans (Same.upd (o := setO ds) hqs)
      have o1 := one_labels (ls := ls) nd hmem
      refine ⟨ds, upd_same, ?_⟩
      refine ite2 (fun e => ?_) (fun e => ⟨rfl, S, fun o => e (decide_eq_true (by have := o1.mpr o; omega))⟩)
      have e : ((ds.length : Nat) : Int) < 2 := of_decide_eq_true e
      exact q 0 kvs _ ⟨o1.mp (by omega), fun _ _ => Nat.zero_le _⟩ (same_frm' S) (S _ _ hd) M
  rintro σ H1 ⟨rfl, s1, ho⟩
  have hd1 := s1 _ _ hd
  have hp1 := s1 _ _ hp
  refine seq_at (fun σ H' => (∃ x y z, σ = [some (.ref a), some (.ref p), some (.ref d), x, y, z]) /\ Frm d H1 H' /\ ∃ (kvs' : List (List Key × V)) (m : Nat), H' d = some (.dT kvs') /\ NMemo ls rs kvs' /\ valV kvs' (keyT ts) = some (.int (m : Nat)) /\ IsFew (labF ls) (rs.map gB) (fun k => decide (k ∈ ts)) m) ?_ ?_ (by walk_at "sm")
  rotate_left
  . rintro σ H2 ⟨⟨x, y, z, rfl⟩, f2, kvs', m, hd2, M2, hv2, hm⟩
    refine ⟨d, .int (m : Nat), rfl, ?_, q m kvs' H2 hm ((same_frm' s1).trans f2) hd2 M2⟩
    rw [<- hv2]
    exact DGet.t hd2 (by rw [keyT_V]; exact f2 _ _ npd hp1)
  refine ⟨valV kvs (keyT ts), DGet.t hd1 (by rw [keyT_V]; exact hp1), ?_⟩
  cases e : valV kvs (keyT ts) with
  | some v0 =>
    obtain ⟨m, rfl, hm⟩ := M.get e
    exact ⟨⟨_, _, _, rfl⟩, Frm.refl, kvs, m, hd1, M, e, hm⟩
  | none =>
    refine ⟨ts.length, .inr ⟨_, .of hp1, by rw [iL_len]⟩, ?_⟩
    dsimp only [gName]
    refine seq_at (fun σ H' => ∃ (y z : Option V) (least : Nat), σ = [some (.ref a), some (.ref p), some (.ref d), some (.int (least : Nat)), y, z] /\ Frm d H1 H' /\ (∃ kvs', H' d = some (.dT kvs') /\ NMemo ls rs kvs') /\ Least ls rs ts rs.length least) ?_ ?_ (by walk_at "sm")
    rotate_left
    . rintro σ H2 ⟨y, z, least, rfl, f2, ⟨kvs', hd2, M2⟩, hL⟩
      have hm : IsFew (labF ls) (rs.map gB) (fun k => decide (k ∈ ts)) least := need_min ho hF (hL.lo F hF) fun y hy hpt => by
        obtain ⟨r, hr', rfl⟩ := List.mem_map.mp hy
        obtain ⟨i, hi, ei⟩ := List.getElem_of_mem hr'
        obtain ⟨b, c', h1, h2, h3⟩ := hL.hi i r hi (by rw [List.getElem?_eq_getElem hi, ei]) hpt
        rw [lefts_yes] at h1
        rw [lefts_no] at h2
        exact ⟨b, c', h1, h2, h3⟩
      refine ⟨d, _, rfl, DPut.t hd2 (show H2 p = some (.tup ((keyT ts).map kV)) by rw [keyT_V]; exact f2 _ _ npd hp1) (M2.len l16), ?_⟩
      exact ⟨⟨_, _, _, rfl⟩, f2.trans Frm.updT, _, least, upd_same, M2.put hrise hlt hm, by rw [valV_put, if_pos rfl], hm⟩
    have g1 := g.same s1
    refine ⟨_, .ref rl, .inr g1.two, rfl, rs.length, .inr ⟨_, g1.rows, by rw [List.length_map, g1.len]⟩, (rs.length : Int), rfl, by omega, by omega, ?_⟩
    rw [Int.toNat_natCast]
    refine for_range (fun k σ H' => ∃ (y z : Option V) (least : Nat), σ = [some (.ref a), some (.ref p), some (.ref d), some (.int (least : Nat)), y, z] /\ Frm d H1 H' /\ (∃ kvs', H' d = some (.dT kvs') /\ NMemo ls rs kvs') /\ Least ls rs ts k least) ⟨none, none, ts.length, rfl, Frm.refl, ⟨kvs, hd1, M⟩, fun F' hF' => by have := few_few he hlt hF'; omega, fun i r hi => absurd hi (Nat.not_lt_zero _)⟩ ?_ (fun σ H' h => h)
    rintro i σ H2 hi ⟨y, z, least, rfl, f2, ⟨kvs2, hd2, M2⟩, hL⟩
    have ez : (0 : Int) + (i : Int) = ((i : Nat) : Int) := by omega
    rw [ez]
    have er : rs[i]? = some rs[i] := List.getElem?_eq_getElem hi
    have g2 := g1.frm f2 hd1 noTup_dT
    have hp2 := f2 _ _ npd hp1
    have stay : (¬ Parts (fun k => decide (k ∈ ts)) (gB rs[i])) -> Least ls rs ts (i + 1) least := fun hn => ⟨hL.lo, fun i' r' hi' er' hpt => by
      rcases Nat.lt_or_ge i' i with w | w
      . exact hL.hi i' r' w er' hpt
      . have : i' = i := by omega
        subst this
        rw [er] at er'
        cases er'
        exact absurd hpt hn⟩
    refine ⟨ls, rs, ts, i, rs[i], gm_close g2, G, .of hp2, by omega, hlt, rfl, er, fun l pn py H3 hl s3 gl3 hn3 hy3 => ?_⟩
    dsimp only [gName]
    refine ⟨small_le (show 0 <= 1000 by decide), fun t0 ht0 => ?_⟩
    have s4 : Same H3 (upd H3 t0 (.tup [])) := Same.upd ht0
    have gt4 : upd H3 t0 (.tup []) t0 = some (.tup []) := upd_same
    generalize upd H3 t0 (.tup []) = H4 at *
    have S4 := s3.trans s4
    refine ⟨[.ref pn, .ref py], [.tup (iD (lefts rs[i] false ts)), .tup (iD (lefts rs[i] true ts))], .tup [], .inl (.of (s4 _ _ gl3)), reps_cons (rep_tup2 (.of (s4 _ _ hn3)) (reps_iD _)) (reps_cons (rep_tup2 (.of (s4 _ _ hy3)) (reps_iD _)) reps_nil), rep_tup2 (.of gt4) reps_nil, fun e he' => ?_, ?_⟩
    . simp only [List.mem_cons, List.not_mem_nil, or_false] at he'
      rcases he' with rfl | rfl <;> (unfold depD; rw [depDs_iD]; omega)
    have eany : (([Dv.tup (iD (lefts rs[i] false ts)), Dv.tup (iD (lefts rs[i] true ts))]).any fun e => eqD e (.tup [])) = decide (lefts rs[i] false ts = [] \/ lefts rs[i] true ts = []) := by
      rw [List.any_cons, List.any_cons, List.any_nil, eqD_nil, eqD_nil, Bool.or_false, Bool.eq_iff_iff]
      simp
    rw [eany]
    refine ite2 (fun e2 => ?_) (fun e2 => ?_)
    . have hpt : Parts (fun k => decide (k ∈ ts)) (gB rs[i]) := parts_lefts.mpr (by
        have : ¬ (lefts rs[i] false ts = [] \/ lefts rs[i] true ts = []) := by
          intro w
          rw [decide_eq_true w] at e2
          cases e2
        exact ⟨fun w => this (.inr w), fun w => this (.inl w)⟩)
      have gl4 := s4 _ _ gl3
      have hd4 := S4 _ _ hd2
      have nld : l ≠ d := ne_of gl4 hd4 (by intro z; cases z)
      have nnd : pn ≠ d := ne_of (s4 _ _ hn3) hd4 (by intro z; cases z)
      have nyd : py ≠ d := ne_of (s4 _ _ hy3) hd4 (by intro z; cases z)
      have g4 := g2.same S4
      have hltL : ∀ ans, ∀ t ∈ lefts rs[i] ans ts, t < ls.length := fun ans t ht => hlt t (mem_lefts.mp ht).1
      refine .inl ⟨⟨_, .of gl4⟩, ?_⟩
      refine comp_list (xs := [.ref pn, .ref py]) (fun k zs H' => Frm d H4 H' /\ (∃ kvs', H' d = some (.dT kvs') /\ NMemo ls rs kvs') /\ ∃ ms : List Nat, zs = iL ms /\ ms.length = k /\ ∀ (j : Nat) (b : Nat), ms[j]? = some b -> IsFew (labF ls) (rs.map gB) (fun k => decide (k ∈ lefts rs[i] (j == 1) ts)) b) ⟨Frm.refl, ⟨kvs2, hd4, M2⟩, [], rfl, rfl, fun j b hb => by simp at hb⟩ (fun k zs H' _ ⟨f, _⟩ => .of (f _ _ nld gl4)) (fun k zs H' hk ⟨_, _, ms, e, hq, _⟩ => by
        rw [e, iL_len, hq]; exact small1000 (by simp at hk; omega)) ?_ ?_
      . rintro k x zs H5 hx ⟨f5, ⟨kvs5, hd5, M5⟩, ms, rfl, hq, hall⟩
        obtain ⟨b, rfl, hb⟩ : ∃ b, x = .ref b /\ H5 b = some (.tup (iL (lefts rs[i] (k == 1) ts))) := by
          match k, hx with
          | 0, hx => cases hx; exact ⟨pn, rfl, f5 _ _ nnd (s4 _ _ hn3)⟩
          | 1, hx => cases hx; exact ⟨py, rfl, f5 _ _ nyd (s4 _ _ hy3)⟩
          | k + 2, hx => simp at hx
        have g5 := g4.frm f5 hd4 noTup_dT
        refine ⟨ls, rs, _, kvs5, gm_close g5, G, he, hb, lefts_rise hrise, hltL _, by have := lefts_less hpt (k == 1); omega, hd5, M5, fun m kvs6 H6 hm f6 hd6 M6 => ?_⟩
        refine ⟨f5.trans f6, ⟨kvs6, hd6, M6⟩, ms ++ [m], by rw [iL_app]; rfl, by rw [List.length_append, hq]; rfl, fun j c' hc' => ?_⟩
        rcases Nat.lt_trichotomy j ms.length with z | z | z
        . rw [List.getElem?_append_left z] at hc'
          exact hall j c' hc'
        . subst z
          rw [List.getElem?_append_right (Nat.le_refl _), Nat.sub_self] at hc'
          cases hc'
          rw [hq]
          exact hm
        . rw [List.getElem?_append_right (Nat.le_of_lt z), List.getElem?_eq_none (by simp; omega)] at hc'
          cases hc'
      . rintro zs H5 ⟨f5, ⟨kvs5, hd5, M5⟩, ms, rfl, hq, hall⟩ l2 hl2
        match ms, hq, hall with
        | [m0, m1], _, hall =>
        have s6 : Same H5 (upd H5 l2 (.lst (iL [m0, m1]))) := Same.upd hl2
        refine ⟨[(m0 : Int), (m1 : Int)], .of upd_same, by simp, fun Mx hM hle => ?_⟩
        have f0 := hall 0 m0 rfl
        have f1 := hall 1 m1 rfl
        have h0 := hle (m0 : Int) (by simp)
        have h1 := hle (m1 : Int) (by simp)
        have hM' : Mx = ((max m0 m1 : Nat) : Int) := by
          simp only [List.mem_cons, List.not_mem_nil, or_false] at hM
          omega
        subst hM'
        have el : min ((least : Nat) : Int) (1 + ((max m0 m1 : Nat) : Int)) = ((min least (1 + max m0 m1) : Nat) : Int) := by omega
        have sp := few_split (List.mem_map.mpr ⟨rs[i], List.getElem_mem hi, rfl⟩) hF (by rw [<- lefts_yes]; exact f1) (by rw [<- lefts_no]; exact f0)
        refine ⟨some (.int ((i : Nat) : Int)), some (.ref l), min least (1 + max m0 m1), ?_, f2.trans ((same_frm' S4).trans (f5.trans (same_frm' s6))), ⟨kvs5, s6 _ _ hd5, M5⟩, ⟨fun F' hF' => ?_, fun i' r' hi' er' hpt' => ?_⟩⟩
        . show _ = [some (V.ref a), some (.ref p), some (.ref d), some (.int ((min least (1 + max m0 m1) : Nat) : Int)), some (.int ((i : Nat) : Int)), some (.ref l)]
          rw [<- el]
          rfl
        . have := hL.lo F' hF'
          rw [few_eq hF' hF]
          rw [few_eq hF' hF] at this
          omega
        . rcases Nat.lt_or_ge i' i with w | w
          . obtain ⟨b, c', h1', h2', h3'⟩ := hL.hi i' r' w er' hpt'
            exact ⟨b, c', h1', h2', by omega⟩
          . have : i' = i := by omega
            subst this
            rw [er] at er'
            cases er'
            exact ⟨m1, m0, f1, f0, by omega⟩
    . have hn : ¬ Parts (fun k => decide (k ∈ ts)) (gB rs[i]) := fun w => by
        obtain ⟨w1, w2⟩ := parts_lefts.mp w
        apply e2
        rw [decide_eq_false (fun z => z.elim w2 w1)]
        rfl
      exact ⟨_, _, least, rfl, f2.trans (same_frm' S4), ⟨kvs2, S4 _ _ hd2, M2⟩, stay hn⟩
theorem need_all : ∀ c : Nat, FnOk P w K mg base CX0 (c + 2) T.f__law_need T.d__law_need ["_law_game_here", "_law_things", "_law_known"] (sp_need K c)
  | 0 => by
    have no : ∀ vs H Q E, ¬ sp_need K 0 vs H Q E := fun vs H Q E h => by
      unfold sp_need at h
      split at h
      . obtain ⟨ls, rs, ts, kvs, _, _, _, _, _, _, z, _⟩ := h; exact absurd z (Nat.not_lt_zero _)
      . exact h
    exact ⟨fun vs H Q E h => (no _ _ _ _ h).elim, fun A outer s H args us vs Q E _ _ _ _ h => (no _ _ _ _ h).elim⟩
  | c + 1 => need_at T c (need_all c)
theorem ok__law_need : FnOk P w K mg base CX0 19 T.f__law_need T.d__law_need ["_law_game_here", "_law_things", "_law_known"] (sp_need K 17) := need_all T 17
theorem tup_gm (ls : List Int) (rs : List (List Bool)) : tupOnly (gmD ls rs) = true := by
  have e1 : ∀ ls : List Int, tupsOnly (ls.map Dv.int) = true := by
    intro ls
    induction ls with
    | nil => rfl
    | cons x r ih => show (true && tupsOnly (r.map Dv.int)) = true; rw [ih]; rfl
  unfold gmD
  simp [tupOnly, tupsOnly, e1, tups_tabs]
theorem noTup_lst {xs : List V} : NoTup (.lst xs) := ⟨(fun _ z => nomatch z), (fun _ _ z => nomatch z)⟩
structure Now (K : W.Frag) (H : Hp) (t : Addr) (N : Nat) (u : V) (ls : List Int) (rs : List (List Bool)) : Prop where
  F : GFeed H t N
  r : Rep K H (gmD ls rs) u
theorem Now.same {K : W.Frag} {H H' : Hp} {t : Addr} {N : Nat} {u : V} {ls : List Int} {rs : List (List Bool)} (n : Now K H t N u ls rs) (s : Same H H') : Now K H' t N u ls rs := ⟨n.F.same s, Rep.same s _ _ n.r⟩
theorem Now.mono {K : W.Frag} {H : Hp} {t : Addr} {N N' : Nat} {u : V} {ls : List Int} {rs : List (List Bool)} (n : Now K H t N u ls rs) (h : N <= N') : Now K H t N' u ls rs := ⟨n.F.mono h, n.r⟩
theorem Now.drew {K : W.Frag} {H H' : Hp} {t : Addr} {N N' : Nat} {u : V} {ls : List Int} {rs : List (List Bool)} (n : Now K H t N u ls rs) (F : GFeed H' t N') (f : ∀ b, b ≠ t -> H' b = H b) : Now K H' t N' u ls rs := ⟨F, Rep.frm (frm_all f) n.F.lst _ _ (tup_gm ls rs) n.r⟩
theorem Now.sq {K : W.Frag} {H H' : Hp} {t p : Addr} {N : Nat} {u : V} {ls : List Int} {rs : List (List Bool)} {xs : List V} (n : Now K H t N u ls rs) (f : ∀ b, b ≠ t -> H' b = H b) (h : SqT K H p xs) : SqT K H' p xs := by
  obtain ⟨zs, hz⟩ := n.F.lst
  exact frm_sqT (frm_all f) hz noTup_lst h
def sp_some (K : W.Frag) : Sp := fun vs H Q _ => match vs with
  | [.ref t, v] => ∃ N ls rs, Now K H t N v ls rs /\ Gm ls rs /\ N <= 900000000 /\ ∀ p ts H', H p = none -> H' p = some (.tup (iL ts)) -> ts.Pairwise (· < ·) -> (∀ k ∈ ts, k < ls.length) -> Now K H' t (N + 20) v ls rs -> Frm t H H' -> Q (.ref p) H'
  | _ => False
theorem sp_some_mono : SpMono (sp_some K) := fun vs H Q Q' E h q => by
  unfold sp_some at *
  split at q
  . revert q; repeat' first | exact h _ _ | exact newL_mono h | exact out_mono h | exact outT_mono h | walk_at "m"
  . exact q.elim
theorem Now.free {K : W.Frag} {H H' : Hp} {t p : Addr} {N : Nat} {u : V} {ls : List Int} {rs : List (List Bool)} (n : Now K H' t N u ls rs) (f : Frm t H H') (hp : H' p = none) : H p = none := n.F.free f hp
theorem ok__law_some_things : FnOk P w K mg base CX0 2 T.f__law_some_things T.d__law_some_things ["_law_feed_here", "_law_game_here"] (sp_some K) := by
  have G__law_draw := ok__law_draw (P := P) (w := w) (base := base) T
  refine T.F__law_some_things.ok sc__law_some_things (fun vs H Q E h => by unfold sp_some at h; split at h <;> first | rfl | exact h.elim) (fun cdv A outer s H vs Q E hr h => ?_)
  have hu := hu60 hr
  have hr__law_draw := hr.mono (show 1 <= _ by decide)
  unfold sp_some at h
  split at h
  rotate_left
  . exact h.elim
  rename_i t v
  obtain ⟨N, ls, rs, n0, G, hN, q⟩ := h
  have l16 := G.l16
  have d5 : okDiv 5 := okDiv_of (by decide) (by decide)
  have d4 : okDiv 4 := okDiv_of (by decide) (by decide)
  refine ⟨_, (@pss_cons _ _ _ _ _ (@ps_set _ _ 2 _ _ _ _ sc__law_some_things.nd rfl (by walk_at "e") (@pe_op _ _ _ _ _ _ _ _ (kAdd (K := K)) (@pe_int _ _ _ _) (@pe_call _ _ _ _ _ _ _ _ _ _ _ _ _ _ _ _ G__law_draw hr__law_draw rfl T.m__law_draw T.F__law_draw.kp T.b__law_draw .nil pass0 (@pa_cons _ _ _ _ _ (@vw _ 0 _ _ (by walk_at "v")) (@pa1 _ _ _ (@pe_int _ _ _ _) (by rfl)) (by rfl)) (by decide) (by rfl) (by rfl))) (by rfl) (by walk_at "i")) (@pss_one _ _ _ (@ps_ret _ _ _ _ (@pe_callTy _ _ _ _ _ _ _ _ _ (kTuple (K := K)) rfl T.z_tuple (by rfl) (@pa1 _ _ _ (@pe_compB _ _ _ _ _ _ _ (["_law_k", "_law_feed_here", "_law_share"]) 1 ([0, 2]) _ _ _ _ rfl (@pi_range1 _ _ _ _ _ _ rfl T.z_range (@pa1 _ _ _ (@pe_callB _ _ _ _ _ _ _ _ _ (kLen (K := K)) rfl T.z_len (by rfl) (@pa1 _ _ _ (@kIx _ K _ _ _ _ _ (@vw _ 1 _ _ (by walk_at "v")) (@pe_int _ _ _ _) (by intro _ _; rfl) (by rfl)) (by rfl)) (by decide) (by decide) (by rfl) (by rfl)) (by rfl)) (by rfl)) (by kernel_rfl) rfl rfl (by kernel_rfl) (fun c => @pg_name _ _ 0 _ (show (["_law_k", "_law_feed_here", "_law_share"] : List Str).Nodup by decide +kernel) rfl (by walk_at "e") (by walk_at "i")) (go_name (by decide)) (fun c => @pts_one _ _ _ (@tu_cmp _ _ _ _ _ _ _ _ om_le (@pe_call _ _ _ _ _ _ _ _ _ _ _ _ _ _ _ _ G__law_draw hr__law_draw rfl T.m__law_draw T.F__law_draw.kp T.b__law_draw .nil pass0 (@pa_cons _ _ _ _ _ (@vw _ 1 _ _ (by walk_at "v")) (@pa1 _ _ _ (@pe_int _ _ _ _) (by rfl)) (by rfl)) (by decide) (by rfl) (by rfl)) (@vw _ 2 _ _ (by walk_at "v")) (by walk_at "n"))) (fun c => (@vw _ 0 _ _ (by walk_at "v"))) (by intro _; rfl)) (by rfl)) (by decide) (by decide) (by rfl) (by rfl))))), ?_⟩
  refine ⟨_, n0.F, by omega, d4, fun d0 H1 a0 a1 F1 f1 => ?_⟩
  dsimp only [gName, mAdd]
  have n1 := n0.drew F1 f1
  obtain ⟨b, tl, rl, ps, rfl, g⟩ := gm_open n1.r
  refine ⟨_, .ref tl, .inr g.two, rfl, ls.length, .inr ⟨_, g.lab, by rw [List.length_map]⟩, (ls.length : Int), rfl, by omega, by omega, ?_⟩
  rw [Int.toNat_natCast]
  refine comp_range (fun k zs H' => Now K H' t (N + 1 + k) (.ref b) ls rs /\ Frm t H H' /\ ∃ ts, zs = iL ts /\ ts.Pairwise (· < ·) /\ (∀ t ∈ ts, t < k) /\ ts.length <= k) ⟨n1, frm_all f1, [], rfl, .nil, nofun, Nat.le_refl _⟩ (fun k zs H' hk ⟨_, _, ts, e, _, _, hl⟩ => by rw [e, iL_len]; exact small1000 (by omega)) ?_ ?_
  . rintro k zs H5 hk ⟨n5, f5, ts, rfl, h1, h2, h3⟩
    refine ⟨_, n5.F, by omega, d5, fun d H6 a0 a1 F6 f6 => ?_⟩
    have n6 := n5.drew F6 f6
    have f6' := f5.trans (frm_all f6)
    have ez : (0 : Int) + (k : Int) = ((k : Nat) : Int) := by omega
    refine ite2 (fun _ => ⟨n6, f6', ts ++ [k], ?_, ?_, ?_, ?_⟩) (fun _ => ⟨n6, f6', ts, rfl, h1, fun t ht => by have := h2 t ht; omega, by omega⟩)
    . rw [iL_app, ez]; rfl
    . rw [List.pairwise_append]
      exact ⟨h1, List.pairwise_singleton _ _, fun x hx y hy => by rw [List.mem_singleton.mp hy]; exact h2 x hx⟩
    . intro x hx
      rcases List.mem_append.mp hx with z | z
      . have := h2 x z; omega
      . rw [List.mem_singleton.mp z]; omega
    . rw [List.length_append]; simp; omega
  . rintro zs H5 ⟨n5, f5, ts, rfl, h1, h2, h3⟩ l hl
    refine ⟨_, .inl ⟨.of upd_same, fun p hp => ?_⟩⟩
    have s6 : Same H5 (upd H5 l (.lst (iL ts))) := Same.upd hl
    have n6 := n5.same s6
    refine q p ts _ (n6.free (f5.trans (same_frm' s6)) hp) upd_same h1 h2 ((n6.same (Same.upd hp)).mono (by omega)) (f5.trans ((same_frm' s6).trans (same_frm' (Same.upd hp))))
theorem feed_frm {H H' : Hp} {t d : Addr} {N : Nat} {o : HO} (F : GFeed H t N) (f : Frm d H H') (hd : H d = some o) (no : ∀ xs, o ≠ .lst xs) : GFeed H' t N := by
  obtain ⟨l, i, g, c, ns, h1, h2, h3, h4, h5, h6, h7, h8⟩ := F.at_
  exact ⟨l, i, g, c, ns, h1, h2, h3, h4, f _ _ (ne_of h5 hd (Ne.symm (no _))) h5, h6, f _ _ (ne_of h7 hd (Ne.symm (no _))) h7, h8⟩
def sp_counts (K : W.Frag) : Sp := fun vs H Q _ => match vs with
  | [.ref t, v] => ∃ N ls rs, Now K H t N v ls rs /\ Gm ls rs /\ EndsP ls rs /\ N <= 800000000 /\ ∀ H', GFeed H' t (N + 50) -> Frm t H H' -> Q (.bl true) H'
  | _ => False
theorem sp_counts_mono : SpMono (sp_counts K) := fun vs H Q Q' E h q => by
  unfold sp_counts at *
  split at q
  . revert q; repeat' first | exact h _ _ | exact newL_mono h | exact out_mono h | exact outT_mono h | walk_at "m"
  . exact q.elim
theorem ok__law_counts : FnOk P w K mg base CX0 74 T.f__law_counts T.d__law_counts ["_law_feed_here", "_law_game_here"] (sp_counts K) := by
  have G__law_some_things := ok__law_some_things (P := P) (w := w) (base := base) T; have G_fewest_of := ok_fewest_of (P := P) (w := w) (base := base) T; have G__law_need := ok__law_need (P := P) (w := w) (base := base) T
  refine T.F__law_counts.ok sc__law_counts (fun vs H Q E h => by unfold sp_counts at h; split at h <;> first | rfl | exact h.elim) (fun cdv A outer s H vs Q E hr h => ?_)
  have hu := hu60 hr
  have hr__law_some_things := hr.mono (show 2 <= _ by decide); have hr_fewest_of := hr.mono (show 73 <= _ by decide); have hr__law_need := hr.mono (show 19 <= _ by decide)
  unfold sp_counts at h
  split at h
  rotate_left
  . exact h.elim
  rename_i t v
  obtain ⟨N, ls, rs, n0, G, he, hN, q⟩ := h
  have l16 := G.l16
  have mo1 : SpMono (sp_some K) := sp_some_mono
  have mo2 : SpMono (sp_fewof K) := sp_fewof_mono
  have mo3 : SpMono (sp_need K 17) := sp_need_mono
  refine ⟨_, (@pss_cons _ _ _ _ _ (@ps_set _ _ 2 _ _ _ _ sc__law_counts.nd rfl (by walk_at "e") (@pe_dnewT _ _) (by rfl) (by walk_at "i")) (@pss_cons _ _ _ _ _ (@ps_set _ _ 3 _ _ _ _ sc__law_counts.nd rfl (by walk_at "e") (@pe_lst _ _ _ _ (@pa_cons _ _ _ _ _ (@pe_callTy _ _ _ _ _ _ _ _ _ (kTuple (K := K)) rfl T.z_tuple (by rfl) (@pa1 _ _ _ (@pe_compB _ _ _ _ _ _ _ ["_law_k"] 1 [] _ _ _ _ rfl (@pi_range1 _ _ _ _ _ _ rfl T.z_range (@pa1 _ _ _ (@pe_callB _ _ _ _ _ _ _ _ _ (kLen (K := K)) rfl T.z_len (by rfl) (@pa1 _ _ _ (@kIx _ K _ _ _ _ _ (@vw _ 1 _ _ (by walk_at "v")) (@pe_int _ _ _ _) (by intro _ _; rfl) (by rfl)) (by rfl)) (by decide) (by decide) (by rfl) (by rfl)) (by rfl)) (by rfl)) (by kernel_rfl) rfl rfl (by kernel_rfl) (fun c => @pg_name _ _ 0 _ (show (["_law_k"] : List Str).Nodup by decide +kernel) rfl (by walk_at "e") (by walk_at "i")) (go_name (by decide)) (fun c => @pts_nil _) (fun c => (@vw _ 0 _ _ (by walk_at "v"))) (by intro _; rfl)) (by rfl)) (by decide) (by decide) (by rfl) (by rfl)) (@pa_cons _ _ _ _ _ (@pe_tup _ _ _ _ _ (@pa_nil _)) (@pa_cons _ _ _ _ _ (@pe_call _ _ _ _ _ _ _ _ _ _ _ _ _ _ _ _ G__law_some_things hr__law_some_things rfl T.m__law_some_things T.F__law_some_things.kp T.b__law_some_things .nil pass0 (@pa_cons _ _ _ _ _ (@vw _ 0 _ _ (by walk_at "v")) (@pa1 _ _ _ (@vw _ 1 _ _ (by walk_at "v")) (by rfl)) (by rfl)) (by decide) (by rfl) (by rfl)) (@pa1 _ _ _ (@pe_call _ _ _ _ _ _ _ _ _ _ _ _ _ _ _ _ G__law_some_things hr__law_some_things rfl T.m__law_some_things T.F__law_some_things.kp T.b__law_some_things .nil pass0 (@pa_cons _ _ _ _ _ (@vw _ 0 _ _ (by walk_at "v")) (@pa1 _ _ _ (@vw _ 1 _ _ (by walk_at "v")) (by rfl)) (by rfl)) (by decide) (by rfl) (by rfl)) (by rfl)) (by rfl)) (by rfl)) (by rfl))) (by rfl) (by walk_at "i")) (@pss_cons _ _ _ _ _ (@ps_for _ _ _ _ _ _ _ _ PassesOwn.never rfl (@kSeq _ K _ _ _ (@vw _ 3 _ _ (by walk_at "v")) (by rfl)) (@pg_name _ _ 4 _ sc__law_counts.nd rfl (by walk_at "e") (by walk_at "i")) (@pss_cons _ _ _ _ _ (@ps_set _ _ 5 _ _ _ _ sc__law_counts.nd rfl (by walk_at "e") (@pe_call _ _ _ _ _ _ _ _ _ _ _ _ _ _ _ _ G_fewest_of hr_fewest_of rfl T.m_fewest_of T.F_fewest_of.kp T.b_fewest_of .nil pass0 (@pa_cons _ _ _ _ _ (@vw _ 1 _ _ (by walk_at "v")) (@pa1 _ _ _ (@vw _ 4 _ _ (by walk_at "v")) (by rfl)) (by rfl)) (by decide) (by rfl) (by rfl)) (by rfl) (by walk_at "i")) (@pss_one _ _ _ (@ps_if _ _ _ _ _ _ _ _ (PW.pt (@pw_or _ _ _ _ _ _ _ (@tu_val _ _ _ (@pe_callB _ _ _ _ _ _ _ _ _ (kIsi (K := K)) rfl T.z_isinstance (by rfl) (@pa_cons _ _ _ _ _ (@vw _ 5 _ _ (by walk_at "v")) (@pa1 _ _ _ (@pe_bltn _ _ (.ty "bool") _ _ rfl T.z_bool (by rfl) rfl (by decide) (by decide)) (by rfl)) (by rfl)) (by decide) (by decide) (by rfl) (by rfl)) (by intro _; rfl)) (@pw_or _ _ _ _ _ _ _ (@pt_not _ _ _ _ (@tu_val _ _ _ (@pe_callB _ _ _ _ _ _ _ _ _ (kIsi (K := K)) rfl T.z_isinstance (by rfl) (@pa_cons _ _ _ _ _ (@vw _ 5 _ _ (by walk_at "v")) (@pa1 _ _ _ (@pe_bltn _ _ (.ty "int") _ _ rfl T.z_int (by rfl) rfl (by decide) (by decide)) (by rfl)) (by rfl)) (by decide) (by decide) (by rfl) (by rfl)) (by intro _; rfl))) (@pw_or1 _ _ _ _ (@tu_cmp _ _ _ _ _ _ _ _ (kNe (K := K) hu) (@vw _ 5 _ _ (by walk_at "v")) (@pe_call _ _ _ _ _ _ _ _ _ _ _ _ _ _ _ _ G__law_need hr__law_need rfl T.m__law_need T.F__law_need.kp T.b__law_need .nil pass0 (@pa_cons _ _ _ _ _ (@vw _ 1 _ _ (by walk_at "v")) (@pa_cons _ _ _ _ _ (@vw _ 4 _ _ (by walk_at "v")) (@pa1 _ _ _ (@vw _ 2 _ _ (by walk_at "v")) (by rfl)) (by rfl)) (by rfl)) (by decide) (by rfl) (by rfl)) (by walk_at "n")))))) (@pss_one _ _ _ (@ps_ret _ _ _ _ (@pe_bl _ _ _ _))) (@pss_nil _)))) (by intro _; rfl)) (@pss_one _ _ _ (@ps_ret _ _ _ _ (@pe_bl _ _ _ _)))))), ?_⟩
  intro d hd
  dsimp only [gName]
  have s1 : Same H (upd H d (.dT [])) := Same.upd hd
  have hd1 : upd H d (.dT []) d = some (.dT []) := upd_same
  have n1 := n0.same s1
  have nd : d ≠ t := n0.F.neT hd
  have hd0 := hd
  generalize upd H d (.dT []) = H1 at *
  refine seq_at (fun σ H' => ∃ (l : Addr) (qs : List Addr), σ = [some (.ref t), some v, some (.ref d), some (.ref l), none, none] /\ Now K H' t (N + 50) v ls rs /\ Frm t H H' /\ H' d = some (.dT []) /\ H' l = some (.lst (qs.map V.ref)) /\ qs.length = 4 /\ ∀ p ∈ qs, ∃ ts, H' p = some (.tup (iL ts)) /\ ts.Pairwise (· < ·) /\ ∀ k ∈ ts, k < ls.length) ?_ ?_ (by walk_at "sm")
  . obtain ⟨b, tl, rl, ps, eu, g⟩ := gm_open n1.r
    subst eu
    refine ⟨_, .ref tl, .inr g.two, rfl, ls.length, .inr ⟨_, g.lab, by rw [List.length_map]⟩, (ls.length : Int), rfl, by omega, by omega, ?_⟩
    rw [Int.toNat_natCast]
    refine comp_range (fun k zs H' => H' = H1 /\ zs = iL (List.range k)) ⟨rfl, rfl⟩ (fun k zs H' hk ⟨_, e⟩ => by rw [e, iL_len, List.length_range]; exact small1000 (by omega)) ?_ ?_
    . rintro k zs H' hk ⟨rfl, rfl⟩
      refine ⟨rfl, ?_⟩
      rw [List.range_succ, iL_app, show (0 : Int) + (k : Int) = ((k : Nat) : Int) by omega]
      rfl
    rintro zs H' ⟨rfl, rfl⟩ l0 hl0
    refine ⟨_, .inl ⟨.of upd_same, fun p0 hp0 => ?_⟩⟩
    have s2 := (Same.upd (o := .lst (iL (List.range ls.length))) hl0).trans (Same.upd (o := .tup (iL (List.range ls.length))) hp0)
    have g2 : upd (upd H' l0 (.lst (iL (List.range ls.length)))) p0 (.tup (iL (List.range ls.length))) p0 = some (.tup (iL (List.range ls.length))) := upd_same
    generalize upd (upd H' l0 (.lst (iL (List.range ls.length)))) p0 (.tup (iL (List.range ls.length))) = H2 at *
    refine ⟨small_le (show 0 <= 1000 by decide), fun p1 hp1 => ?_⟩
    have s3 : Same H2 (upd H2 p1 (.tup [])) := Same.upd hp1
    have g3 : upd H2 p1 (.tup []) p1 = some (.tup (iL [])) := upd_same
    generalize upd H2 p1 (.tup []) = H3 at *
    have S3 := s2.trans s3
    have n3 := n1.same S3
    have ne : ∀ {p : Addr} {ts : List Nat}, H3 p = some (.tup (iL ts)) -> p ≠ t := fun h => by
      obtain ⟨zs, hz⟩ := n3.F.lst
      exact ne_of h hz (by intro z; cases z)
    refine ⟨_, ls, rs, n3, G, by omega, fun p2 ts2 H4 hp2 g4 r2 b2 n4 f4 => ?_⟩
    have ne4 : ∀ {p : Addr} {ts : List Nat}, H4 p = some (.tup (iL ts)) -> p ≠ t := fun h => by
      obtain ⟨zs, hz⟩ := n4.F.lst
      exact ne_of h hz (by intro z; cases z)
    refine ⟨_, ls, rs, n4, G, by omega, fun p3 ts3 H5 hp3 g5 r3 b3 n5 f5 => ?_⟩
    refine ⟨small_le (show 4 <= 1000 by decide), fun l hl => ?_⟩
    have s6 : Same H5 (upd H5 l (.lst ([p0, p1, p2, p3].map V.ref))) := Same.upd hl
    refine ⟨l, [p0, p1, p2, p3], rfl, (n5.same s6).mono (by omega), ?_, ?_, upd_same, rfl, ?_⟩
    . exact (same_frm' s1).trans ((same_frm' S3).trans (f4.trans (f5.trans (same_frm' s6))))
    . exact s6 _ _ (f5 _ _ nd (f4 _ _ nd (S3 _ _ hd1)))
    . intro p hp
      simp only [List.mem_cons, List.not_mem_nil, or_false] at hp
      rcases hp with rfl | rfl | rfl | rfl
      . exact ⟨_, s6 _ _ (f5 _ _ (ne (s3 _ _ g2)) (f4 _ _ (ne (s3 _ _ g2)) (s3 _ _ g2))), List.pairwise_lt_range, fun k hk => List.mem_range.mp hk⟩
      . exact ⟨[], s6 _ _ (f5 _ _ (ne g3) (f4 _ _ (ne g3) g3)), .nil, nofun⟩
      . exact ⟨ts2, s6 _ _ (f5 _ _ (ne4 g4) g4), r2, b2⟩
      . exact ⟨ts3, s6 _ _ g5, r3, b3⟩
  rintro σ H2 ⟨l, qs, rfl, n2, f2, hd2, gl2, ql, hall⟩
  have nld : l ≠ d := ne_of gl2 hd2 (by intro z; cases z)
  refine seq_at (fun σ H' => GFeed H' t (N + 50) /\ Frm t H H') ?_ (fun σ H' ⟨F, f⟩ => q H' F f) (by walk_at "sm")
  refine .inl ⟨⟨_, .of gl2⟩, ?_⟩
  refine for_list (xs := qs.map V.ref) (fun k σ H' => (∃ x y, σ = [some (.ref t), some v, some (.ref d), some (.ref l), x, y]) /\ Frm d H2 H' /\ ∃ kvs, H' d = some (.dT kvs) /\ NMemo ls rs kvs) ⟨⟨none, none, rfl⟩, Frm.refl, [], hd2, ⟨by simp, fun e he => by simp at he⟩⟩ (fun k σ H' _ ⟨_, f, _⟩ => .of (f _ _ nld gl2)) ?_ ?_
  rotate_left
  . rintro σ H' ⟨_, f, _⟩
    exact ⟨feed_frm n2.F f hd2 (fun _ z => nomatch z), fun b o nb e => f _ _ (ne_of_none e hd0) (f2 _ _ nb e)⟩
  rintro k x σ H3 hx ⟨⟨y, z, rfl⟩, f3, kvs, hd3, M3⟩
  obtain ⟨p, hp, rfl⟩ := ref_at hx
  obtain ⟨ts, gp, hrise, hlt⟩ := hall p (List.mem_of_getElem? hp)
  have tl16 := rise_len hrise hlt
  have npd : p ≠ d := ne_of gp hd2 (by intro z; cases z)
  have gp3 := f3 _ _ npd gp
  obtain ⟨b, tl, rl, ps, eu, g⟩ := gm_open n2.r
  subst eu
  have g3 := g.frm f3 hd2 noTup_dT
  refine ⟨ls, rs, ts, gm_close g3, G, .inr (.of gp3), hrise, hlt, ⟨_, can_things he hlt⟩, fun m H4 s4 hm => ?_⟩
  dsimp only [gName]
  refine ⟨by decide, false, rfl, ?_⟩
  refine ⟨by decide, true, rfl, ?_⟩
  refine ⟨ls, rs, ts, kvs, gm_close (g3.same s4), G, he, s4 _ _ gp3, hrise, hlt, by omega, s4 _ _ hd3, M3, fun m' kvs' H5 hm' f5 hd5 M5 => ?_⟩
  obtain rfl := few_eq hm' hm
  refine ite2 (fun e => ?_) (fun _ => ⟨⟨_, _, rfl⟩, f3.trans ((same_frm' s4).trans f5), kvs', hd5, M5⟩)
  simp at e
theorem rep_iT {K : W.Frag} {H : Hp} {l : Addr} {xs : List Nat} (h : SqT K H l (iL xs)) : Rep K H (.tup (iD xs)) (.ref l) := by unfold Rep; exact ⟨l, _, rfl, h, reps_iD xs⟩
theorem nice_iT {xs : List Nat} (hx : ∀ x ∈ xs, x < 2 ^ 64) : niceD (.tup (iD xs)) = true := by unfold niceD; exact niceDs_iD xs hx
theorem bulk_iT {xs : List Nat} (hn : xs.length <= 1000) : bulkD (.tup (iD xs)) <= 8000 := by unfold bulkD; rw [bulkDs_iD]; omega
theorem dep_iT {xs : List Nat} : depD (.tup (iD xs)) <= 60 := by unfold depD; rw [depDs_iD]; omega
theorem ok_law : FnOk P w K mg base CX0 75 T.f_law T.d_law ["_law_script"] (spLaw K) := by
  have G__law_feed := ok__law_feed (P := P) (w := w) (base := base) T; have G__law_game := ok__law_game (P := P) (w := w) (base := base) T; have G_ends := ok_ends (P := P) (w := w) (base := base) T; have G__law_ending := ok__law_ending (P := P) (w := w) (base := base) T; have G__law_some_things := ok__law_some_things (P := P) (w := w) (base := base) T; have G__law_draw := ok__law_draw (P := P) (w := w) (base := base) T; have G__law_counts := ok__law_counts (P := P) (w := w) (base := base) T; have G_left_by := ok_left_by (P := P) (w := w) (base := base) T; have G__law_pair := ok__law_pair (P := P) (w := w) (base := base) T
  refine T.F_law.ok sc_law (fun vs H Q E h => by obtain ⟨a, ns, rfl, _⟩ := h; rfl) (fun cdv A outer s H vs Q E hr h => ?_)
  have hu := hu60 hr
  have hr__law_feed := hr.mono (show 1 <= _ by decide); have hr__law_game := hr.mono (show 4 <= _ by decide); have hr_ends := hr.mono (show 2 <= _ by decide); have hr__law_ending := hr.mono (show 2 <= _ by decide); have hr__law_some_things := hr.mono (show 2 <= _ by decide); have hr__law_draw := hr.mono (show 1 <= _ by decide); have hr__law_counts := hr.mono (show 74 <= _ by decide); have hr_left_by := hr.mono (show 1 <= _ by decide); have hr__law_pair := hr.mono (show 1 <= _ by decide)
  obtain ⟨a, ns, rfl, hS, hlen, q⟩ := h
  refine ⟨_, (@pss_cons _ _ _ _ _ (@ps_set _ _ 1 _ _ _ _ sc_law.nd rfl (by walk_at "e") (@pe_call _ _ _ _ _ _ _ _ _ _ _ _ _ _ _ _ G__law_feed hr__law_feed rfl T.m__law_feed T.F__law_feed.kp T.b__law_feed .nil pass0 (@pa1 _ _ _ (@vw _ 0 _ _ (by walk_at "v")) (by rfl)) (by decide) (by rfl) (by rfl)) (by rfl) (by walk_at "i")) (@pss_cons _ _ _ _ _ (@ps_for _ _ _ _ _ _ _ _ PassesOwn.never rfl (@pi_range1 _ _ _ _ _ _ rfl T.z_range (@pa1 _ _ _ (@pe_int _ _ _ _) (by rfl)) (by rfl)) (@pg_name _ _ 2 _ sc_law.nd rfl (by walk_at "e") (by walk_at "i")) (@pss_cons _ _ _ _ _ (@ps_set _ _ 3 _ _ _ _ sc_law.nd rfl (by walk_at "e") (@pe_call _ _ _ _ _ _ _ _ _ _ _ _ _ _ _ _ G__law_game hr__law_game rfl T.m__law_game T.F__law_game.kp T.b__law_game .nil pass0 (@pa1 _ _ _ (@vw _ 1 _ _ (by walk_at "v")) (by rfl)) (by decide) (by rfl) (by rfl)) (by rfl) (by walk_at "i")) (@pss_cons _ _ _ _ _ (@ps_for _ _ _ _ _ _ _ _ PassesOwn.never rfl (@pi_range1 _ _ _ _ _ _ rfl T.z_range (@pa1 _ _ _ (@pe_int _ _ _ _) (by rfl)) (by rfl)) (@pg_name _ _ 4 _ sc_law.nd rfl (by walk_at "e") (by walk_at "i")) (@pss_cons _ _ _ _ _ (@ps_set _ _ 5 _ _ _ _ sc_law.nd rfl (by walk_at "e") (@pe_call _ _ _ _ _ _ _ _ _ _ _ _ _ _ _ _ G__law_some_things hr__law_some_things rfl T.m__law_some_things T.F__law_some_things.kp T.b__law_some_things .nil pass0 (@pa_cons _ _ _ _ _ (@vw _ 1 _ _ (by walk_at "v")) (@pa1 _ _ _ (@vw _ 3 _ _ (by walk_at "v")) (by rfl)) (by rfl)) (by decide) (by rfl) (by rfl)) (by rfl) (by walk_at "i")) (@pss_cons _ _ _ _ _ (@ps_set _ _ 6 _ _ _ _ sc_law.nd rfl (by walk_at "e") (@pe_call _ _ _ _ _ _ _ _ _ _ _ _ _ _ _ _ G__law_draw hr__law_draw rfl T.m__law_draw T.F__law_draw.kp T.b__law_draw .nil pass0 (@pa_cons _ _ _ _ _ (@vw _ 1 _ _ (by walk_at "v")) (@pa1 _ _ _ (@pe_callB _ _ _ _ _ _ _ _ _ (kLen (K := K)) rfl T.z_len (by rfl) (@pa1 _ _ _ (@kIx _ K _ _ _ _ _ (@vw _ 3 _ _ (by walk_at "v")) (@pe_int _ _ _ _) (by intro _ _; rfl) (by rfl)) (by rfl)) (by decide) (by decide) (by rfl) (by rfl)) (by rfl)) (by rfl)) (by decide) (by rfl) (by rfl)) (by rfl) (by walk_at "i")) (@pss_cons _ _ _ _ _ (@ps_set _ _ 7 _ _ _ _ sc_law.nd rfl (by walk_at "e") (@pe_cmpM _ _ _ _ _ _ _ _ (kEq (K := K) hu) (@pe_call _ _ _ _ _ _ _ _ _ _ _ _ _ _ _ _ G__law_draw hr__law_draw rfl T.m__law_draw T.F__law_draw.kp T.b__law_draw .nil pass0 (@pa_cons _ _ _ _ _ (@vw _ 1 _ _ (by walk_at "v")) (@pa1 _ _ _ (@pe_int _ _ _ _) (by rfl)) (by rfl)) (by decide) (by rfl) (by rfl)) (@pe_int _ _ _ _) (by walk_at "n")) (by rfl) (by walk_at "i")) (@pss_cons _ _ _ _ _ (@ps_set _ _ 8 _ _ _ _ sc_law.nd rfl (by walk_at "e") (@pe_callTy _ _ _ _ _ _ _ _ _ (kTuple (K := K)) rfl T.z_tuple (by rfl) (@pa1 _ _ _ (@pe_compB _ _ _ _ _ _ _ (["_law_one", "_law_game_here", "_law_question", "_law_answer"]) 1 ([3, 6, 7]) _ _ _ _ rfl (@kSeq _ K _ _ _ (@vw _ 5 _ _ (by walk_at "v")) (by rfl)) (by kernel_rfl) rfl rfl (by kernel_rfl) (fun c => @pg_name _ _ 0 _ (show (["_law_one", "_law_game_here", "_law_question", "_law_answer"] : List Str).Nodup by decide +kernel) rfl (by walk_at "e") (by walk_at "i")) (go_name (by decide)) (fun c => @pts_one _ _ _ (@tu_cmp _ _ _ _ _ _ _ _ (kEq (K := K) hu) (@kIx _ K _ _ _ _ _ (@kIx _ K _ _ _ _ _ (@kIx _ K _ _ _ _ _ (@vw _ 1 _ _ (by walk_at "v")) (@pe_int _ _ _ _) (by intro _ _; rfl) (by rfl)) (@vw _ 2 _ _ (by walk_at "v")) (by intro _ _; rfl) (by rfl)) (@vw _ 0 _ _ (by walk_at "v")) (by intro _ _; rfl) (by rfl)) (@vw _ 3 _ _ (by walk_at "v")) (by walk_at "n"))) (fun c => (@vw _ 0 _ _ (by walk_at "v"))) (by intro _; rfl)) (by rfl)) (by decide) (by decide) (by rfl) (by rfl)) (by rfl) (by walk_at "i")) (@pss_one _ _ _ (@ps_if _ _ _ _ _ _ _ _ (@tu_cmp _ _ _ _ _ _ _ _ (kNe (K := K) hu) (@pe_callB _ _ _ _ _ _ _ _ _ (kRepr (K := K) hr) rfl T.z_repr (by rfl) (@pa1 _ _ _ (@pe_call _ _ _ _ _ _ _ _ _ _ _ _ _ _ _ _ G_left_by hr_left_by rfl T.m_left_by T.F_left_by.kp T.b_left_by .nil pass0 (@pa_cons _ _ _ _ _ (@vw _ 3 _ _ (by walk_at "v")) (@pa_cons _ _ _ _ _ (@vw _ 5 _ _ (by walk_at "v")) (@pa_cons _ _ _ _ _ (@vw _ 6 _ _ (by walk_at "v")) (@pa1 _ _ _ (@vw _ 7 _ _ (by walk_at "v")) (by rfl)) (by rfl)) (by rfl)) (by rfl)) (by decide) (by rfl) (by rfl)) (by rfl)) (by decide) (by decide) (by rfl) (by rfl)) (@pe_callB _ _ _ _ _ _ _ _ _ (kRepr (K := K) hr) rfl T.z_repr (by rfl) (@pa1 _ _ _ (@vw _ 8 _ _ (by walk_at "v")) (by rfl)) (by decide) (by decide) (by rfl) (by rfl)) (by walk_at "n")) (@pss_one _ _ _ (@ps_ret _ _ _ _ (@pe_bl _ _ _ _))) (@pss_nil _))))))) (by intro _; rfl)) (@pss_cons _ _ _ _ _ (@ps_set _ _ 9 _ _ _ _ sc_law.nd rfl (by walk_at "e") (@pe_call _ _ _ _ _ _ _ _ _ _ _ _ _ _ _ _ G_ends hr_ends rfl T.m_ends T.F_ends.kp T.b_ends .nil pass0 (@pa1 _ _ _ (@vw _ 3 _ _ (by walk_at "v")) (by rfl)) (by decide) (by rfl) (by rfl)) (by rfl) (by walk_at "i")) (@pss_cons _ _ _ _ _ (@ps_if _ _ _ _ _ _ _ _ (PW.pt (@pw_or _ _ _ _ _ _ _ (@pt_not _ _ _ _ (@tu_val _ _ _ (@pe_callB _ _ _ _ _ _ _ _ _ (kIsi (K := K)) rfl T.z_isinstance (by rfl) (@pa_cons _ _ _ _ _ (@vw _ 9 _ _ (by walk_at "v")) (@pa1 _ _ _ (@pe_bltn _ _ (.ty "bool") _ _ rfl T.z_bool (by rfl) rfl (by decide) (by decide)) (by rfl)) (by rfl)) (by decide) (by decide) (by rfl) (by rfl)) (by intro _; rfl))) (@pw_or1 _ _ _ _ (@tu_cmp _ _ _ _ _ _ _ _ (kNe (K := K) hu) (@vw _ 9 _ _ (by walk_at "v")) (@pe_cmpM _ _ _ _ _ _ _ _ om_is (@pe_call _ _ _ _ _ _ _ _ _ _ _ _ _ _ _ _ G__law_pair hr__law_pair rfl T.m__law_pair T.F__law_pair.kp T.b__law_pair .nil pass0 (@pa1 _ _ _ (@vw _ 3 _ _ (by walk_at "v")) (by rfl)) (by decide) (by rfl) (by rfl)) (@pe_non _ _ _) (by walk_at "n")) (by walk_at "n"))))) (@pss_one _ _ _ (@ps_ret _ _ _ _ (@pe_bl _ _ _ _))) (@pss_nil _)) (@pss_cons _ _ _ _ _ (@ps_set _ _ 3 _ _ _ _ sc_law.nd rfl (by walk_at "e") (@pe_call _ _ _ _ _ _ _ _ _ _ _ _ _ _ _ _ G__law_ending hr__law_ending rfl T.m__law_ending T.F__law_ending.kp T.b__law_ending .nil pass0 (@pa1 _ _ _ (@vw _ 3 _ _ (by walk_at "v")) (by rfl)) (by decide) (by rfl) (by rfl)) (by rfl) (by walk_at "i")) (@pss_one _ _ _ (@ps_if _ _ _ _ _ _ _ _ (PW.pt (@pw_or _ _ _ _ _ _ _ (@tu_cmp _ _ _ _ _ _ _ _ om_isn (@pe_call _ _ _ _ _ _ _ _ _ _ _ _ _ _ _ _ G_ends hr_ends rfl T.m_ends T.F_ends.kp T.b_ends .nil pass0 (@pa1 _ _ _ (@vw _ 3 _ _ (by walk_at "v")) (by rfl)) (by decide) (by rfl) (by rfl)) (@pe_bl _ _ _ _) (by walk_at "n")) (@pw_or1 _ _ _ _ (@pt_not _ _ _ _ (@tu_val _ _ _ (@pe_call _ _ _ _ _ _ _ _ _ _ _ _ _ _ _ _ G__law_counts hr__law_counts rfl T.m__law_counts T.F__law_counts.kp T.b__law_counts .nil pass0 (@pa_cons _ _ _ _ _ (@vw _ 1 _ _ (by walk_at "v")) (@pa1 _ _ _ (@vw _ 3 _ _ (by walk_at "v")) (by rfl)) (by rfl)) (by decide) (by rfl) (by rfl)) (by intro _; rfl)))))) (@pss_one _ _ _ (@ps_ret _ _ _ _ (@pe_bl _ _ _ _))) (@pss_nil _)))))))) (by intro _; rfl)) (@pss_one _ _ _ (@ps_ret _ _ _ _ (@pe_bl _ _ _ _))))), ?_⟩
  have mo1 : SpMono (sp_gnew K 500 800000000) := sp_gnew_mono
  have mo2 : SpMono (sp_ending K) := sp_ending_mono
  have mo3 : SpMono (sp_some K) := sp_some_mono
  have mo4 : SpMono (sp_leftby K) := sp_leftby_mono
  have mo5 : SpMono (sp_ends K) := sp_ends_mono
  have mo6 : SpMono (sp_pair K) := sp_pair_mono
  have mo7 : SpMono (sp_counts K) := sp_counts_mono
  refine ⟨ns, hS, fun t H1 ht s1 F1 => ?_⟩
  dsimp only [gName]
  refine seq_at (fun σ H' => ∃ z : List (Option V), σ = some (.ref a) :: some (.ref t) :: z) ?_ (fun σ H' _ => q H') (by walk_at "sm")
  refine ⟨4, rfl, by decide, by decide, ?_⟩
  refine for_range (fun i σ H' => (∃ z2 z3 z4 z5 z6 z7 z8 z9 : Option V, σ = [some (.ref a), some (.ref t), z2, z3, z4, z5, z6, z7, z8, z9]) /\ GFeed H' t (1000 * i)) ⟨⟨none, none, none, none, none, none, none, none, rfl⟩, F1⟩ ?_ (fun σ H' ⟨⟨z2, z3, z4, z5, z6, z7, z8, z9, e⟩, _⟩ => ⟨_, e⟩)
  rintro i σ H2 hi ⟨⟨z2, z3, z4, z5, z6, z7, z8, z9, rfl⟩, F2⟩
  refine ⟨_, F2, by omega, fun ls rs u H3 G r3 F3 f3 => ?_⟩
  dsimp only [gName]
  have n3 : Now K H3 t (1000 * i + 500) u ls rs := ⟨F3, r3⟩
  have l16 := G.l16
  have l1 := G.l1
  have r16 := G.r16
  have r1 := G.r1
  clear F2 F3 f3 r3
  have d2 : okDiv 2 := okDiv_of (by decide) (by decide)
  refine seq_at (fun σ H' => (∃ z4 z5 z6 z7 z8 z9 : Option V, σ = [some (.ref a), some (.ref t), some (.int (0 + i)), some u, z4, z5, z6, z7, z8, z9]) /\ Now K H' t (1000 * i + 600) u ls rs) ?_ ?_ (by walk_at "sm")
  . refine ⟨4, rfl, by decide, by decide, ?_⟩
    refine for_range (fun k σ H' => (∃ z4 z5 z6 z7 z8 z9 : Option V, σ = [some (.ref a), some (.ref t), some (.int (0 + i)), some u, z4, z5, z6, z7, z8, z9]) /\ Now K H' t (1000 * i + 500 + 25 * k) u ls rs) ⟨⟨_, _, _, _, _, _, rfl⟩, n3⟩ ?_ (fun σ H' h => h)
    rintro k σ H4 hk ⟨⟨z4, z5, z6, z7, z8, z9, rfl⟩, n4⟩
    have hk4 : k < 4 := hk
    refine ⟨_, ls, rs, n4, G, by omega, fun p ts H5 hp0 gp5 hrise hlt n5 f5 => ?_⟩
    dsimp only [gName]
    have tl16 := rise_len hrise hlt
    have hp5 : SqT K H5 p (iL ts) := .of gp5
    refine seq_at (fun σ H' => ∃ j : Nat, j < rs.length /\ σ = [some (.ref a), some (.ref t), some (.int (0 + i)), some u, some (.int (0 + k)), some (.ref p), some (.int (j : Nat)), z7, z8, z9] /\ Now K H' t (1000 * i + 500 + 25 * k + 21) u ls rs /\ SqT K H' p (iL ts)) ?_ ?_ (by walk_at "sm")
    . obtain ⟨b, tl, rl, ps, eu, g⟩ := gm_open n5.r
      subst eu
      refine ⟨_, .ref rl, .inr g.two, rfl, rs.length, .inr ⟨_, g.rows, by rw [List.length_map, g.len]⟩, ?_⟩
      refine ⟨_, n5.F, by omega, okDiv_of (by omega) (by omega), fun d H6 a0 a1 F6 f6 => ?_⟩
      obtain ⟨j, rfl⟩ : ∃ j : Nat, d = j := ⟨d.toNat, by omega⟩
      exact ⟨j, by omega, rfl, n5.drew F6 f6, n5.sq f6 hp5⟩
    rintro σ H6 ⟨j, hj, rfl, n6, hp6⟩
    refine ⟨_, n6.F, by omega, d2, fun d H7 a0 a1 F7 f7 => ?_⟩
    have n7 := n6.drew F7 f7
    have hp7 := n6.sq f7 hp6
    dsimp only [gName, mEq, tC]
    generalize hans : (false ^^ (d == 1)) = ans
    clear n5 n6 hp5 hp6 gp5
    have er : rs[j]? = some rs[j] := List.getElem?_eq_getElem hj
    have erD : (tabsD rs)[j]? = some (.tup (rs[j].map Dv.bl)) := by unfold tabsD; rw [List.getElem?_map, er]; rfl
    have hrow := G.row _ (List.getElem_mem hj)
    refine seq_at (fun σ H' => ∃ p2 : Addr, σ = [some (.ref a), some (.ref t), some (.int (0 + i)), some u, some (.int (0 + k)), some (.ref p), some (.int (j : Nat)), some (.bl ans), some (.ref p2), z9] /\ Same H7 H' /\ SqT K H' p2 (iL (lefts rs[j] ans ts))) ?_ ?_ (by walk_at "sm")
    . obtain ⟨b, tl, rl, ps, eu, g⟩ := gm_open n7.r
      subst eu
      obtain ⟨c, hc⟩ : ∃ c, ps[j]? = some c := ⟨_, List.getElem?_eq_getElem (by rw [g.len]; exact hj)⟩
      refine .inr ⟨⟨_, hp7⟩, ?_⟩
      refine comp_tup (xs := iL ts) (fun k ys H' => H' = H7 /\ ys = iL (lefts rs[j] ans (ts.take k))) ⟨rfl, rfl⟩ (fun k ys H' _ ⟨e, _⟩ => by rw [e]; exact hp7) (fun k ys H' hk ⟨_, e⟩ => by
        have := lefts_len rs[j] ans (ts.take k)
        rw [List.length_take] at this
        rw [e, iL_len]; exact small1000 (by omega)) ?_ ?_
      . rintro k' x ys H' hx ⟨rfl, rfl⟩
        obtain ⟨x, hx', hmem, rfl⟩ := iL_at hx
        refine ⟨_, .ref rl, .inr g.two, rfl, _, .ref c, .inr g.rows, atI_of rfl (by rw [List.getElem?_map, hc]; rfl), _, .bl (gB rs[j] x), .inr (g.row j c _ hc er), gB_at (by rw [hrow]; exact hlt x hmem), ?_⟩
        rw [lefts_take hx', iL_app]
        refine ite2 (fun e => ?_) (fun e => ?_)
        . have e' : (gB rs[j] x == ans) = true := by rw [<- Bool.false_xor (gB rs[j] x == ans)]; exact e
          rw [if_pos e']
          exact ⟨rfl, rfl⟩
        . have e' : ¬ (gB rs[j] x == ans) = true := by rw [<- Bool.false_xor (gB rs[j] x == ans)]; exact e
          rw [if_neg e']
          exact ⟨rfl, by show _ = _ ++ []; rw [List.append_nil]⟩
      . rintro ys H' ⟨rfl, rfl⟩ l hl2
        rw [List.take_of_length_le (by rw [iL_len]; exact Nat.le_refl _)]
        refine ⟨_, .inl ⟨.of upd_same, fun p2 hp2 => ?_⟩⟩
        exact ⟨p2, rfl, (Same.upd hl2).trans (Same.upd hp2), .of upd_same⟩
    rintro σ H8 ⟨p2, rfl, s8, hp8⟩
    have n8 := n7.same s8
    have hl := lefts_len rs[j] ans ts
    have c1 : niceD (.tup (iD (lefts rs[j] ans ts))) = true := nice_iT fun x hx => Nat.lt_of_lt_of_le (hlt x (mem_lefts.mp hx).1) (Nat.le_trans l16 (by decide))
    have c2 : bulkD (.tup (iD (lefts rs[j] ans ts))) <= 8000 := bulk_iT (by omega)
    have c3 : depD (.tup (iD (lefts rs[j] ans ts))) <= 60 := dep_iT
    refine ⟨_, tabsD rs, j, rs[j], ts, n8.r, rfl, erD, s8.sqT hp7, by omega, fun x hx => by rw [hrow]; exact hlt x hx, fun p3 H9 s9 hp9 => ?_⟩
    have r9 := rep_iT hp9
    have r9' := rep_iT (s9.sqT hp8)
    generalize Dv.tup (iD (lefts rs[j] ans ts)) = D at *
    refine ⟨D, r9, c1, c2, c3, D, r9', c1, c2, c3, ?_⟩
    refine ite2 (fun e => (str_ne e).elim) (fun _ => ?_)
    exact ⟨⟨_, _, _, _, _, _, rfl⟩, (n8.same s9).mono (by omega)⟩
  rintro σ H4 ⟨⟨z4, z5, z6, z7, z8, z9, rfl⟩, n4⟩
  clear n3
  -- whether it ends
  refine ⟨ls, rs, n4.r, G, fun b H5 s5 hb => ?_⟩
  dsimp only [gName]
  have n5 := n4.same s5
  refine seq_at (fun σ H' => σ = [some (.ref a), some (.ref t), some (.int (0 + i)), some u, z4, z5, z6, z7, z8, some (.bl b)] /\ Same H5 H') ?_ ?_ (by walk_at "sm")
  . refine ⟨by decide, true, rfl, ?_⟩
    refine ⟨ls, rs, n5.r, G, fun H6 s6 he => ?_, fun i' j' t' H6 hf ht' s6 gt' => ?_⟩
    . obtain rfl : b = true := hb.mpr he
      exact ⟨rfl, s6⟩
    . have : b = false := by
        cases b with
        | false => rfl
        | true => exact absurd hf.1 (hb.mp rfl i' j')
      subst this
      exact ⟨rfl, s6⟩
  rintro σ H6 ⟨rfl, s6⟩
  have n6 := n5.same s6
  refine ⟨ls, rs, n6.r, G, fun ls' u' H7 s7 G' he r7 => ?_⟩
  dsimp only [gName]
  have n7 : Now K H7 t (1000 * i + 600) u' ls' rs := ⟨n6.F.same s7, r7⟩
  refine ⟨ls', rs, r7, G', fun b' H8 s8 hb' => ?_⟩
  obtain rfl : b' = true := hb'.mpr he
  have n8 := n7.same s8
  refine ⟨_, ls', rs, n8, G', he, by omega, fun H9 F9 f9 => ?_⟩
  exact ⟨⟨_, _, _, _, _, _, _, _, rfl⟩, F9.mono (by omega)⟩
end
theorem all_mk {l : W.OpenLaw} {w : World} {K : W.Frag} {h : Heap} {mg : Str -> Option Value} {fa : Addr} (X : K.In h) (G : h.Ns mainGlobals mg) (hfa : mg "law" = some (.ref fa))
    {C_Reckoner : Addr}
    {f0 f1 f2 f3 f4 f5 f6 f7 f8 f9 f10 f11 f12 f13 f14 f15 f16 f17 f18 f19 f20 f21 f22 f23 f24 f25 f26 f27 f28 f29 f30 f31 f32 f33 : Addr} {oc0 kV0 dc0 pm0 cd0 ct0 oc1 kV1 dc1 pm1 cd1 ct1 oc2 kV2 dc2 pm2 cd2 ct2 oc3 kV3 dc3 pm3 cd3 ct3 oc4 kV4 dc4 pm4 cd4 ct4 oc5 kV5 dc5 pm5 cd5 ct5 oc6 kV6 dc6 pm6 cd6 ct6 oc7 kV7 dc7 pm7 cd7 ct7 oc8 kV8 dc8 pm8 cd8 ct8 oc9 kV9 dc9 pm9 cd9 ct9 oc10 kV10 dc10 pm10 cd10 ct10 oc11 kV11 dc11 pm11 cd11 ct11 oc12 kV12 dc12 pm12 cd12 ct12 oc13 kV13 dc13 pm13 cd13 ct13 oc14 kV14 dc14 pm14 cd14 ct14 oc15 kV15 dc15 pm15 cd15 ct15 oc16 kV16 dc16 pm16 cd16 ct16 oc17 kV17 dc17 pm17 cd17 ct17 oc18 kV18 dc18 pm18 cd18 ct18 oc19 kV19 dc19 pm19 cd19 ct19 oc20 kV20 dc20 pm20 cd20 ct20 oc21 kV21 dc21 pm21 cd21 ct21 oc22 kV22 dc22 pm22 cd22 ct22 oc23 kV23 dc23 pm23 cd23 ct23 oc24 kV24 dc24 pm24 cd24 ct24 oc25 kV25 dc25 pm25 cd25 ct25 oc26 kV26 dc26 pm26 cd26 ct26 oc27 kV27 dc27 pm27 cd27 ct27 oc28 kV28 dc28 pm28 cd28 ct28 oc29 kV29 dc29 pm29 cd29 ct29 oc30 kV30 dc30 pm30 cd30 ct30 oc31 kV31 dc31 pm31 cd31 ct31 oc32 kV32 dc32 pm32 cd32 ct32 oc33 kV33 dc33 pm33 cd33 ct33 : Value} {od0 an0 od1 an1 od2 an2 od3 an3 od4 an4 od5 an5 od6 an6 od7 an7 od8 an8 od9 an9 od10 an10 od11 an11 od12 an12 od13 an13 od14 an14 od15 an15 od16 an16 od17 an17 od18 an18 od19 an19 od20 an20 od21 an21 od22 an22 od23 an23 od24 an24 od25 an25 od26 an26 od27 an27 od28 an28 od29 an29 od30 an30 od31 an31 od32 an32 od33 an33 : Option Addr} {sl0 sl1 sl2 sl3 sl4 sl5 sl6 sl7 sl8 sl9 sl10 sl11 sl12 sl13 sl14 sl15 sl16 sl17 sl18 sl19 sl20 sl21 sl22 sl23 sl24 sl25 sl26 sl27 sl28 sl29 sl30 sl31 sl32 sl33 : Array (Option Value)}
    (aC_Reckoner : W.nsIn K mainGlobals "Reckoner" = some (some (.ref C_Reckoner)))
    (pg_Reckoner : W.plainGet K C_Reckoner Str.empty = true)
    (hd_Reckoner : W.hasDictIn K C_Reckoner = true)
    (po_Reckoner : W.plainOver K C_Reckoner = true)
    (sa_Reckoner : W.findIn K (.ref C_Reckoner) "__setattr__" = some (some (.builtin "object.__setattr__")))
    (mk_Reckoner : W.makesIn K C_Reckoner = true)
    (kc_Reckoner : W.keepIn K (.ref C_Reckoner) = true)
    (na_labels_Reckoner : W.findIn K (.ref C_Reckoner) "labels" = some none)
    (na_yeses_Reckoner : W.findIn K (.ref C_Reckoner) "yeses" = some none)
    (na_alike_Reckoner : W.findIn K (.ref C_Reckoner) "alike" = some none)
    (na_known_Reckoner : W.findIn K (.ref C_Reckoner) "known" = some none)
    (a0 : W.nsIn K mainGlobals "_wall" = some (some (.ref f0)))
    (l0 : K.lookup f0 = some ⟨oc0, od0, .func (W.fnOf "_wall" "_wall" (defArgs s__wall) (defBody s__wall) (defScope s__wall) .none kV0 dc0 pm0 an0 cd0 ct0), sl0⟩)
    (c0 : W.codeIn K cd0 "_wall" = true)
    (k0 : W.keepIn K (.ref f0) = true)
    (a1 : W.nsIn K mainGlobals "two_to" = some (some (.ref f1)))
    (l1 : K.lookup f1 = some ⟨oc1, od1, .func (W.fnOf "two_to" "two_to" (defArgs s_two_to) (defBody s_two_to) (defScope s_two_to) .none kV1 dc1 pm1 an1 cd1 ct1), sl1⟩)
    (c1 : W.codeIn K cd1 "two_to" = true)
    (k1 : W.keepIn K (.ref f1) = true)
    (a2 : W.nsIn K mainGlobals "power_of" = some (some (.ref f2)))
    (l2 : K.lookup f2 = some ⟨oc2, od2, .func (W.fnOf "power_of" "power_of" (defArgs s_power_of) (defBody s_power_of) (defScope s_power_of) .none kV2 dc2 pm2 an2 cd2 ct2), sl2⟩)
    (c2 : W.codeIn K cd2 "power_of" = true)
    (k2 : W.keepIn K (.ref f2) = true)
    (a3 : W.nsIn K mainGlobals "within" = some (some (.ref f3)))
    (l3 : K.lookup f3 = some ⟨oc3, od3, .func (W.fnOf "within" "within" (defArgs s_within) (defBody s_within) (defScope s_within) .none kV3 dc3 pm3 an3 cd3 ct3), sl3⟩)
    (c3 : W.codeIn K cd3 "within" = true)
    (k3 : W.keepIn K (.ref f3) = true)
    (a4 : W.nsIn K mainGlobals "set_holding" = some (some (.ref f4)))
    (l4 : K.lookup f4 = some ⟨oc4, od4, .func (W.fnOf "set_holding" "set_holding" (defArgs s_set_holding) (defBody s_set_holding) (defScope s_set_holding) .none kV4 dc4 pm4 an4 cd4 ct4), sl4⟩)
    (c4 : W.codeIn K cd4 "set_holding" = true)
    (k4 : W.keepIn K (.ref f4) = true)
    (a5 : W.findIn K (.ref C_Reckoner) "__init__" = some (some (.ref f5)))
    (i5 : W.isFn K (.ref f5) = true)
    (l5 : K.lookup f5 = some ⟨oc5, od5, .func (W.fnOf "__init__" "Reckoner.__init__" (defArgs s_Reckoner_o_init) (defBody s_Reckoner_o_init) (defScope s_Reckoner_o_init) .none kV5 dc5 pm5 an5 cd5 ct5), sl5⟩)
    (c5 : W.codeIn K cd5 "Reckoner.__init__" = true)
    (k5 : W.keepIn K (.ref f5) = true)
    (a6 : W.findIn K (.ref C_Reckoner) "has_one_label" = some (some (.ref f6)))
    (i6 : W.isFn K (.ref f6) = true)
    (l6 : K.lookup f6 = some ⟨oc6, od6, .func (W.fnOf "has_one_label" "Reckoner.has_one_label" (defArgs s_Reckoner_o_has_one_label) (defBody s_Reckoner_o_has_one_label) (defScope s_Reckoner_o_has_one_label) .none kV6 dc6 pm6 an6 cd6 ct6), sl6⟩)
    (c6 : W.codeIn K cd6 "Reckoner.has_one_label" = true)
    (k6 : W.keepIn K (.ref f6) = true)
    (a7 : W.findIn K (.ref C_Reckoner) "left_of" = some (some (.ref f7)))
    (i7 : W.isFn K (.ref f7) = true)
    (l7 : K.lookup f7 = some ⟨oc7, od7, .func (W.fnOf "left_of" "Reckoner.left_of" (defArgs s_Reckoner_o_left_of) (defBody s_Reckoner_o_left_of) (defScope s_Reckoner_o_left_of) .none kV7 dc7 pm7 an7 cd7 ct7), sl7⟩)
    (c7 : W.codeIn K cd7 "Reckoner.left_of" = true)
    (k7 : W.keepIn K (.ref f7) = true)
    (a8 : W.findIn K (.ref C_Reckoner) "fewest_among" = some (some (.ref f8)))
    (i8 : W.isFn K (.ref f8) = true)
    (l8 : K.lookup f8 = some ⟨oc8, od8, .func (W.fnOf "fewest_among" "Reckoner.fewest_among" (defArgs s_Reckoner_o_fewest_among) (defBody s_Reckoner_o_fewest_among) (defScope s_Reckoner_o_fewest_among) .none kV8 dc8 pm8 an8 cd8 ct8), sl8⟩)
    (c8 : W.codeIn K cd8 "Reckoner.fewest_among" = true)
    (k8 : W.keepIn K (.ref f8) = true)
    (a9 : W.findIn K (.ref C_Reckoner) "fewest_reckoned" = some (some (.ref f9)))
    (i9 : W.isFn K (.ref f9) = true)
    (l9 : K.lookup f9 = some ⟨oc9, od9, .func (W.fnOf "fewest_reckoned" "Reckoner.fewest_reckoned" (defArgs s_Reckoner_o_fewest_reckoned) (defBody s_Reckoner_o_fewest_reckoned) (defScope s_Reckoner_o_fewest_reckoned) .none kV9 dc9 pm9 an9 cd9 ct9), sl9⟩)
    (c9 : W.codeIn K cd9 "Reckoner.fewest_reckoned" = true)
    (k9 : W.keepIn K (.ref f9) = true)
    (a10 : W.findIn K (.ref C_Reckoner) "parting" = some (some (.ref f10)))
    (i10 : W.isFn K (.ref f10) = true)
    (l10 : K.lookup f10 = some ⟨oc10, od10, .func (W.fnOf "parting" "Reckoner.parting" (defArgs s_Reckoner_o_parting) (defBody s_Reckoner_o_parting) (defScope s_Reckoner_o_parting) .none kV10 dc10 pm10 an10 cd10 ct10), sl10⟩)
    (c10 : W.codeIn K cd10 "Reckoner.parting" = true)
    (k10 : W.keepIn K (.ref f10) = true)
    (a11 : W.findIn K (.ref C_Reckoner) "worst_behind" = some (some (.ref f11)))
    (i11 : W.isFn K (.ref f11) = true)
    (l11 : K.lookup f11 = some ⟨oc11, od11, .func (W.fnOf "worst_behind" "Reckoner.worst_behind" (defArgs s_Reckoner_o_worst_behind) (defBody s_Reckoner_o_worst_behind) (defScope s_Reckoner_o_worst_behind) .none kV11 dc11 pm11 an11 cd11 ct11), sl11⟩)
    (c11 : W.codeIn K cd11 "Reckoner.worst_behind" = true)
    (k11 : W.keepIn K (.ref f11) = true)
    (a12 : W.findIn K (.ref C_Reckoner) "harder_left" = some (some (.ref f12)))
    (i12 : W.isFn K (.ref f12) = true)
    (l12 : K.lookup f12 = some ⟨oc12, od12, .func (W.fnOf "harder_left" "Reckoner.harder_left" (defArgs s_Reckoner_o_harder_left) (defBody s_Reckoner_o_harder_left) (defScope s_Reckoner_o_harder_left) .none kV12 dc12 pm12 an12 cd12 ct12), sl12⟩)
    (c12 : W.codeIn K cd12 "Reckoner.harder_left" = true)
    (k12 : W.keepIn K (.ref f12) = true)
    (a13 : W.nsIn K mainGlobals "members_where" = some (some (.ref f13)))
    (l13 : K.lookup f13 = some ⟨oc13, od13, .func (W.fnOf "members_where" "members_where" (defArgs s_members_where) (defBody s_members_where) (defScope s_members_where) .none kV13 dc13 pm13 an13 cd13 ct13), sl13⟩)
    (c13 : W.codeIn K cd13 "members_where" = true)
    (k13 : W.keepIn K (.ref f13) = true)
    (a14 : W.nsIn K mainGlobals "left_by" = some (some (.ref f14)))
    (l14 : K.lookup f14 = some ⟨oc14, od14, .func (W.fnOf "left_by" "left_by" (defArgs s_left_by) (defBody s_left_by) (defScope s_left_by) .none kV14 dc14 pm14 an14 cd14 ct14), sl14⟩)
    (c14 : W.codeIn K cd14 "left_by" = true)
    (k14 : W.keepIn K (.ref f14) = true)
    (a15 : W.nsIn K mainGlobals "ends" = some (some (.ref f15)))
    (l15 : K.lookup f15 = some ⟨oc15, od15, .func (W.fnOf "ends" "ends" (defArgs s_ends) (defBody s_ends) (defScope s_ends) .none kV15 dc15 pm15 an15 cd15 ct15), sl15⟩)
    (c15 : W.codeIn K cd15 "ends" = true)
    (k15 : W.keepIn K (.ref f15) = true)
    (a16 : W.nsIn K mainGlobals "first_unparted" = some (some (.ref f16)))
    (l16 : K.lookup f16 = some ⟨oc16, od16, .func (W.fnOf "first_unparted" "first_unparted" (defArgs s_first_unparted) (defBody s_first_unparted) (defScope s_first_unparted) .none kV16 dc16 pm16 an16 cd16 ct16), sl16⟩)
    (c16 : W.codeIn K cd16 "first_unparted" = true)
    (k16 : W.keepIn K (.ref f16) = true)
    (a17 : W.nsIn K mainGlobals "fewest_of" = some (some (.ref f17)))
    (l17 : K.lookup f17 = some ⟨oc17, od17, .func (W.fnOf "fewest_of" "fewest_of" (defArgs s_fewest_of) (defBody s_fewest_of) (defScope s_fewest_of) .none kV17 dc17 pm17 an17 cd17 ct17), sl17⟩)
    (c17 : W.codeIn K cd17 "fewest_of" = true)
    (k17 : W.keepIn K (.ref f17) = true)
    (a18 : W.nsIn K mainGlobals "_law_feed" = some (some (.ref f18)))
    (l18 : K.lookup f18 = some ⟨oc18, od18, .func (W.fnOf "_law_feed" "_law_feed" (defArgs s__law_feed) (defBody s__law_feed) (defScope s__law_feed) .none kV18 dc18 pm18 an18 cd18 ct18), sl18⟩)
    (c18 : W.codeIn K cd18 "_law_feed" = true)
    (k18 : W.keepIn K (.ref f18) = true)
    (a19 : W.nsIn K mainGlobals "_law_draw" = some (some (.ref f19)))
    (l19 : K.lookup f19 = some ⟨oc19, od19, .func (W.fnOf "_law_draw" "_law_draw" (defArgs s__law_draw) (defBody s__law_draw) (defScope s__law_draw) .none kV19 dc19 pm19 an19 cd19 ct19), sl19⟩)
    (c19 : W.codeIn K cd19 "_law_draw" = true)
    (k19 : W.keepIn K (.ref f19) = true)
    (a20 : W.nsIn K mainGlobals "_law_table" = some (some (.ref f20)))
    (l20 : K.lookup f20 = some ⟨oc20, od20, .func (W.fnOf "_law_table" "_law_table" (defArgs s__law_table) (defBody s__law_table) (defScope s__law_table) .none kV20 dc20 pm20 an20 cd20 ct20), sl20⟩)
    (c20 : W.codeIn K cd20 "_law_table" = true)
    (k20 : W.keepIn K (.ref f20) = true)
    (a21 : W.nsIn K mainGlobals "_law_table_game" = some (some (.ref f21)))
    (l21 : K.lookup f21 = some ⟨oc21, od21, .func (W.fnOf "_law_table_game" "_law_table_game" (defArgs s__law_table_game) (defBody s__law_table_game) (defScope s__law_table_game) .none kV21 dc21 pm21 an21 cd21 ct21), sl21⟩)
    (c21 : W.codeIn K cd21 "_law_table_game" = true)
    (k21 : W.keepIn K (.ref f21) = true)
    (a22 : W.nsIn K mainGlobals "_law_class" = some (some (.ref f22)))
    (l22 : K.lookup f22 = some ⟨oc22, od22, .func (W.fnOf "_law_class" "_law_class" (defArgs s__law_class) (defBody s__law_class) (defScope s__law_class) .none kV22 dc22 pm22 an22 cd22 ct22), sl22⟩)
    (c22 : W.codeIn K cd22 "_law_class" = true)
    (k22 : W.keepIn K (.ref f22) = true)
    (a23 : W.nsIn K mainGlobals "_law_class_game" = some (some (.ref f23)))
    (l23 : K.lookup f23 = some ⟨oc23, od23, .func (W.fnOf "_law_class_game" "_law_class_game" (defArgs s__law_class_game) (defBody s__law_class_game) (defScope s__law_class_game) .none kV23 dc23 pm23 an23 cd23 ct23), sl23⟩)
    (c23 : W.codeIn K cd23 "_law_class_game" = true)
    (k23 : W.keepIn K (.ref f23) = true)
    (a24 : W.nsIn K mainGlobals "_law_picks" = some (some (.ref f24)))
    (l24 : K.lookup f24 = some ⟨oc24, od24, .func (W.fnOf "_law_picks" "_law_picks" (defArgs s__law_picks) (defBody s__law_picks) (defScope s__law_picks) .none kV24 dc24 pm24 an24 cd24 ct24), sl24⟩)
    (c24 : W.codeIn K cd24 "_law_picks" = true)
    (k24 : W.keepIn K (.ref f24) = true)
    (a25 : W.nsIn K mainGlobals "_law_any_game" = some (some (.ref f25)))
    (l25 : K.lookup f25 = some ⟨oc25, od25, .func (W.fnOf "_law_any_game" "_law_any_game" (defArgs s__law_any_game) (defBody s__law_any_game) (defScope s__law_any_game) .none kV25 dc25 pm25 an25 cd25 ct25), sl25⟩)
    (c25 : W.codeIn K cd25 "_law_any_game" = true)
    (k25 : W.keepIn K (.ref f25) = true)
    (a26 : W.nsIn K mainGlobals "_law_game" = some (some (.ref f26)))
    (l26 : K.lookup f26 = some ⟨oc26, od26, .func (W.fnOf "_law_game" "_law_game" (defArgs s__law_game) (defBody s__law_game) (defScope s__law_game) .none kV26 dc26 pm26 an26 cd26 ct26), sl26⟩)
    (c26 : W.codeIn K cd26 "_law_game" = true)
    (k26 : W.keepIn K (.ref f26) = true)
    (a27 : W.nsIn K mainGlobals "_law_pair" = some (some (.ref f27)))
    (l27 : K.lookup f27 = some ⟨oc27, od27, .func (W.fnOf "_law_pair" "_law_pair" (defArgs s__law_pair) (defBody s__law_pair) (defScope s__law_pair) .none kV27 dc27 pm27 an27 cd27 ct27), sl27⟩)
    (c27 : W.codeIn K cd27 "_law_pair" = true)
    (k27 : W.keepIn K (.ref f27) = true)
    (a28 : W.nsIn K mainGlobals "_law_ending" = some (some (.ref f28)))
    (l28 : K.lookup f28 = some ⟨oc28, od28, .func (W.fnOf "_law_ending" "_law_ending" (defArgs s__law_ending) (defBody s__law_ending) (defScope s__law_ending) .none kV28 dc28 pm28 an28 cd28 ct28), sl28⟩)
    (c28 : W.codeIn K cd28 "_law_ending" = true)
    (k28 : W.keepIn K (.ref f28) = true)
    (a29 : W.nsIn K mainGlobals "_law_sides" = some (some (.ref f29)))
    (l29 : K.lookup f29 = some ⟨oc29, od29, .func (W.fnOf "_law_sides" "_law_sides" (defArgs s__law_sides) (defBody s__law_sides) (defScope s__law_sides) .none kV29 dc29 pm29 an29 cd29 ct29), sl29⟩)
    (c29 : W.codeIn K cd29 "_law_sides" = true)
    (k29 : W.keepIn K (.ref f29) = true)
    (a30 : W.nsIn K mainGlobals "_law_need" = some (some (.ref f30)))
    (l30 : K.lookup f30 = some ⟨oc30, od30, .func (W.fnOf "_law_need" "_law_need" (defArgs s__law_need) (defBody s__law_need) (defScope s__law_need) .none kV30 dc30 pm30 an30 cd30 ct30), sl30⟩)
    (c30 : W.codeIn K cd30 "_law_need" = true)
    (k30 : W.keepIn K (.ref f30) = true)
    (a31 : W.nsIn K mainGlobals "_law_some_things" = some (some (.ref f31)))
    (l31 : K.lookup f31 = some ⟨oc31, od31, .func (W.fnOf "_law_some_things" "_law_some_things" (defArgs s__law_some_things) (defBody s__law_some_things) (defScope s__law_some_things) .none kV31 dc31 pm31 an31 cd31 ct31), sl31⟩)
    (c31 : W.codeIn K cd31 "_law_some_things" = true)
    (k31 : W.keepIn K (.ref f31) = true)
    (a32 : W.nsIn K mainGlobals "_law_counts" = some (some (.ref f32)))
    (l32 : K.lookup f32 = some ⟨oc32, od32, .func (W.fnOf "_law_counts" "_law_counts" (defArgs s__law_counts) (defBody s__law_counts) (defScope s__law_counts) .none kV32 dc32 pm32 an32 cd32 ct32), sl32⟩)
    (c32 : W.codeIn K cd32 "_law_counts" = true)
    (k32 : W.keepIn K (.ref f32) = true)
    (a33 : W.nsIn K mainGlobals "law" = some (some (.ref f33)))
    (l33 : K.lookup f33 = some ⟨oc33, od33, .func (W.fnOf "law" "law" (defArgs s_law) (defBody s_law) (defScope s_law) .none kV33 dc33 pm33 an33 cd33 ct33), sl33⟩)
    (c33 : W.codeIn K cd33 "law" = true)
    (k33 : W.keepIn K (.ref f33) = true)
    (z_any : W.nsIn K mainGlobals "any" = some none)
    (z_bool : W.nsIn K mainGlobals "bool" = some none)
    (z_enumerate : W.nsIn K mainGlobals "enumerate" = some none)
    (z_int : W.nsIn K mainGlobals "int" = some none)
    (z_isinstance : W.nsIn K mainGlobals "isinstance" = some none)
    (z_len : W.nsIn K mainGlobals "len" = some none)
    (z_list : W.nsIn K mainGlobals "list" = some none)
    (z_max : W.nsIn K mainGlobals "max" = some none)
    (z_min : W.nsIn K mainGlobals "min" = some none)
    (z_range : W.nsIn K mainGlobals "range" = some none)
    (z_repr : W.nsIn K mainGlobals "repr" = some none)
    (z_set : W.nsIn K mainGlobals "set" = some none)
    (z_sorted : W.nsIn K mainGlobals "sorted" = some none)
    (z_sum : W.nsIn K mainGlobals "sum" = some none)
    (z_tuple : W.nsIn K mainGlobals "tuple" = some none) :
    ∃ fd : FuncData, (∀ (s : Shared) (v : Value), BindsTo s fd ⟨[v], []⟩ [("_law_script", v)]) /\ ∀ base : Heap, K.In base -> base.Ns mainGlobals mg -> FnOk l.prog w K mg base CX0 75 fa fd ["_law_script"] (spLaw K) := by
  have e := hfa.symm.trans (W.mg_of X G a33)
  cases e
  have F0 := fun_mk (st := s__wall) l0 c0 k0
  have b0 := F0.binds (ps := ["k"]) fun _ _ _ _ _ _ => L2.on1 (fun _ => rfl)
  have F1 := fun_mk (st := s_two_to) l1 c1 k1
  have b1 := F1.binds (ps := ["n"]) fun _ _ _ _ _ _ => L2.on1 (fun _ => rfl)
  have F2 := fun_mk (st := s_power_of) l2 c2 k2
  have b2 := F2.binds (ps := ["base", "times"]) fun _ _ _ _ _ _ => L2.on2 (fun _ _ => rfl)
  have F3 := fun_mk (st := s_within) l3 c3 k3
  have b3 := F3.binds (ps := ["subset", "other"]) fun _ _ _ _ _ _ => L2.on2 (fun _ _ => rfl)
  have F4 := fun_mk (st := s_set_holding) l4 c4 k4
  have b4 := F4.binds (ps := ["members"]) fun _ _ _ _ _ _ => L2.on1 (fun _ => rfl)
  have F5 := fun_mk (st := s_Reckoner_o_init) l5 c5 k5
  have b5 := F5.binds (ps := ["self", "game"]) fun _ _ _ _ _ _ => L2.on2 (fun _ _ => rfl)
  have F6 := fun_mk (st := s_Reckoner_o_has_one_label) l6 c6 k6
  have b6 := F6.binds (ps := ["self", "things"]) fun _ _ _ _ _ _ => L2.on2 (fun _ _ => rfl)
  have F7 := fun_mk (st := s_Reckoner_o_left_of) l7 c7 k7
  have b7 := F7.binds (ps := ["self", "things", "question", "answer"]) fun _ _ _ _ _ _ => L2.on4 (fun _ _ _ _ => rfl)
  have F8 := fun_mk (st := s_Reckoner_o_fewest_among) l8 c8 k8
  have b8 := F8.binds (ps := ["self", "things"]) fun _ _ _ _ _ _ => L2.on2 (fun _ _ => rfl)
  have F9 := fun_mk (st := s_Reckoner_o_fewest_reckoned) l9 c9 k9
  have b9 := F9.binds (ps := ["self", "things"]) fun _ _ _ _ _ _ => L2.on2 (fun _ _ => rfl)
  have F10 := fun_mk (st := s_Reckoner_o_parting) l10 c10 k10
  have b10 := F10.binds (ps := ["self", "things"]) fun _ _ _ _ _ _ => L2.on2 (fun _ _ => rfl)
  have F11 := fun_mk (st := s_Reckoner_o_worst_behind) l11 c11 k11
  have b11 := F11.binds (ps := ["self", "things", "question"]) fun _ _ _ _ _ _ => L2.on3 (fun _ _ _ => rfl)
  have F12 := fun_mk (st := s_Reckoner_o_harder_left) l12 c12 k12
  have b12 := F12.binds (ps := ["self", "things", "question"]) fun _ _ _ _ _ _ => L2.on3 (fun _ _ _ => rfl)
  have F13 := fun_mk (st := s_members_where) l13 c13 k13
  have b13 := F13.binds (ps := ["wanted", "values"]) fun _ _ _ _ _ _ => L2.on2 (fun _ _ => rfl)
  have F14 := fun_mk (st := s_left_by) l14 c14 k14
  have b14 := F14.binds (ps := ["game", "things", "question", "answer"]) fun _ _ _ _ _ _ => L2.on4 (fun _ _ _ _ => rfl)
  have F15 := fun_mk (st := s_ends) l15 c15 k15
  have b15 := F15.binds (ps := ["game"]) fun _ _ _ _ _ _ => L2.on1 (fun _ => rfl)
  have F16 := fun_mk (st := s_first_unparted) l16 c16 k16
  have b16 := F16.binds (ps := ["game"]) fun _ _ _ _ _ _ => L2.on1 (fun _ => rfl)
  have F17 := fun_mk (st := s_fewest_of) l17 c17 k17
  have b17 := F17.binds (ps := ["game", "things"]) fun _ _ _ _ _ _ => L2.on2 (fun _ _ => rfl)
  have F18 := fun_mk (st := s__law_feed) l18 c18 k18
  have b18 := F18.binds (ps := ["_law_script"]) fun _ _ _ _ _ _ => L2.on1 (fun _ => rfl)
  have F19 := fun_mk (st := s__law_draw) l19 c19 k19
  have b19 := F19.binds (ps := ["_law_feed_here", "_law_many"]) fun _ _ _ _ _ _ => L2.on2 (fun _ _ => rfl)
  have F20 := fun_mk (st := s__law_table) l20 c20 k20
  have b20 := F20.binds (ps := ["_law_feed_here", "_law_n"]) fun _ _ _ _ _ _ => L2.on2 (fun _ _ => rfl)
  have F21 := fun_mk (st := s__law_table_game) l21 c21 k21
  have b21 := F21.binds (ps := ["_law_table_here"]) fun _ _ _ _ _ _ => L2.on1 (fun _ => rfl)
  have F22 := fun_mk (st := s__law_class) l22 c22 k22
  have b22 := F22.binds (ps := ["_law_feed_here", "_law_n", "_law_many"]) fun _ _ _ _ _ _ => L2.on3 (fun _ _ _ => rfl)
  have F23 := fun_mk (st := s__law_class_game) l23 c23 k23
  have b23 := F23.binds (ps := ["_law_tables"]) fun _ _ _ _ _ _ => L2.on1 (fun _ => rfl)
  have F24 := fun_mk (st := s__law_picks) l24 c24 k24
  have b24 := F24.binds (ps := ["_law_feed_here"]) fun _ _ _ _ _ _ => L2.on1 (fun _ => rfl)
  have F25 := fun_mk (st := s__law_any_game) l25 c25 k25
  have b25 := F25.binds (ps := ["_law_feed_here"]) fun _ _ _ _ _ _ => L2.on1 (fun _ => rfl)
  have F26 := fun_mk (st := s__law_game) l26 c26 k26
  have b26 := F26.binds (ps := ["_law_feed_here"]) fun _ _ _ _ _ _ => L2.on1 (fun _ => rfl)
  have F27 := fun_mk (st := s__law_pair) l27 c27 k27
  have b27 := F27.binds (ps := ["_law_game_here"]) fun _ _ _ _ _ _ => L2.on1 (fun _ => rfl)
  have F28 := fun_mk (st := s__law_ending) l28 c28 k28
  have b28 := F28.binds (ps := ["_law_game_here"]) fun _ _ _ _ _ _ => L2.on1 (fun _ => rfl)
  have F29 := fun_mk (st := s__law_sides) l29 c29 k29
  have b29 := F29.binds (ps := ["_law_game_here", "_law_things", "_law_question"]) fun _ _ _ _ _ _ => L2.on3 (fun _ _ _ => rfl)
  have F30 := fun_mk (st := s__law_need) l30 c30 k30
  have b30 := F30.binds (ps := ["_law_game_here", "_law_things", "_law_known"]) fun _ _ _ _ _ _ => L2.on3 (fun _ _ _ => rfl)
  have F31 := fun_mk (st := s__law_some_things) l31 c31 k31
  have b31 := F31.binds (ps := ["_law_feed_here", "_law_game_here"]) fun _ _ _ _ _ _ => L2.on2 (fun _ _ => rfl)
  have F32 := fun_mk (st := s__law_counts) l32 c32 k32
  have b32 := F32.binds (ps := ["_law_feed_here", "_law_game_here"]) fun _ _ _ _ _ _ => L2.on2 (fun _ _ => rfl)
  have F33 := fun_mk (st := s_law) l33 c33 k33
  have b33 := F33.binds (ps := ["_law_script"]) fun _ _ _ _ _ _ => L2.on1 (fun _ => rfl)
  let T : Txt K mg := { C_Reckoner := C_Reckoner, mC_Reckoner := W.mg_of X G aC_Reckoner, cl_Reckoner := ⟨pg_Reckoner, hd_Reckoner, po_Reckoner, sa_Reckoner⟩, na_Reckoner_labels := na_labels_Reckoner, na_Reckoner_yeses := na_yeses_Reckoner, na_Reckoner_alike := na_alike_Reckoner, na_Reckoner_known := na_known_Reckoner, f__wall := f0, d__wall := _, F__wall := F0, b__wall := b0, m__wall := W.mg_of X G a0, f_two_to := f1, d_two_to := _, F_two_to := F1, b_two_to := b1, m_two_to := W.mg_of X G a1, f_power_of := f2, d_power_of := _, F_power_of := F2, b_power_of := b2, m_power_of := W.mg_of X G a2, f_within := f3, d_within := _, F_within := F3, b_within := b3, m_within := W.mg_of X G a3, f_set_holding := f4, d_set_holding := _, F_set_holding := F4, b_set_holding := b4, m_set_holding := W.mg_of X G a4, f_Reckoner_o_init := f5, d_Reckoner_o_init := _, F_Reckoner_o_init := F5, b_Reckoner_o_init := b5, me_Reckoner_o_init := ⟨a5, i5, k5⟩, mk_Reckoner := ⟨mk_Reckoner, a5, i5, kc_Reckoner⟩, f_Reckoner_o_has_one_label := f6, d_Reckoner_o_has_one_label := _, F_Reckoner_o_has_one_label := F6, b_Reckoner_o_has_one_label := b6, me_Reckoner_o_has_one_label := ⟨a6, i6, k6⟩, f_Reckoner_o_left_of := f7, d_Reckoner_o_left_of := _, F_Reckoner_o_left_of := F7, b_Reckoner_o_left_of := b7, me_Reckoner_o_left_of := ⟨a7, i7, k7⟩, f_Reckoner_o_fewest_among := f8, d_Reckoner_o_fewest_among := _, F_Reckoner_o_fewest_among := F8, b_Reckoner_o_fewest_among := b8, me_Reckoner_o_fewest_among := ⟨a8, i8, k8⟩, f_Reckoner_o_fewest_reckoned := f9, d_Reckoner_o_fewest_reckoned := _, F_Reckoner_o_fewest_reckoned := F9, b_Reckoner_o_fewest_reckoned := b9, me_Reckoner_o_fewest_reckoned := ⟨a9, i9, k9⟩, f_Reckoner_o_parting := f10, d_Reckoner_o_parting := _, F_Reckoner_o_parting := F10, b_Reckoner_o_parting := b10, me_Reckoner_o_parting := ⟨a10, i10, k10⟩, f_Reckoner_o_worst_behind := f11, d_Reckoner_o_worst_behind := _, F_Reckoner_o_worst_behind := F11, b_Reckoner_o_worst_behind := b11, me_Reckoner_o_worst_behind := ⟨a11, i11, k11⟩, f_Reckoner_o_harder_left := f12, d_Reckoner_o_harder_left := _, F_Reckoner_o_harder_left := F12, b_Reckoner_o_harder_left := b12, me_Reckoner_o_harder_left := ⟨a12, i12, k12⟩, f_members_where := f13, d_members_where := _, F_members_where := F13, b_members_where := b13, m_members_where := W.mg_of X G a13, f_left_by := f14, d_left_by := _, F_left_by := F14, b_left_by := b14, m_left_by := W.mg_of X G a14, f_ends := f15, d_ends := _, F_ends := F15, b_ends := b15, m_ends := W.mg_of X G a15, f_first_unparted := f16, d_first_unparted := _, F_first_unparted := F16, b_first_unparted := b16, m_first_unparted := W.mg_of X G a16, f_fewest_of := f17, d_fewest_of := _, F_fewest_of := F17, b_fewest_of := b17, m_fewest_of := W.mg_of X G a17, f__law_feed := f18, d__law_feed := _, F__law_feed := F18, b__law_feed := b18, m__law_feed := W.mg_of X G a18, f__law_draw := f19, d__law_draw := _, F__law_draw := F19, b__law_draw := b19, m__law_draw := W.mg_of X G a19, f__law_table := f20, d__law_table := _, F__law_table := F20, b__law_table := b20, m__law_table := W.mg_of X G a20, f__law_table_game := f21, d__law_table_game := _, F__law_table_game := F21, b__law_table_game := b21, m__law_table_game := W.mg_of X G a21, f__law_class := f22, d__law_class := _, F__law_class := F22, b__law_class := b22, m__law_class := W.mg_of X G a22, f__law_class_game := f23, d__law_class_game := _, F__law_class_game := F23, b__law_class_game := b23, m__law_class_game := W.mg_of X G a23, f__law_picks := f24, d__law_picks := _, F__law_picks := F24, b__law_picks := b24, m__law_picks := W.mg_of X G a24, f__law_any_game := f25, d__law_any_game := _, F__law_any_game := F25, b__law_any_game := b25, m__law_any_game := W.mg_of X G a25, f__law_game := f26, d__law_game := _, F__law_game := F26, b__law_game := b26, m__law_game := W.mg_of X G a26, f__law_pair := f27, d__law_pair := _, F__law_pair := F27, b__law_pair := b27, m__law_pair := W.mg_of X G a27, f__law_ending := f28, d__law_ending := _, F__law_ending := F28, b__law_ending := b28, m__law_ending := W.mg_of X G a28, f__law_sides := f29, d__law_sides := _, F__law_sides := F29, b__law_sides := b29, m__law_sides := W.mg_of X G a29, f__law_need := f30, d__law_need := _, F__law_need := F30, b__law_need := b30, m__law_need := W.mg_of X G a30, f__law_some_things := f31, d__law_some_things := _, F__law_some_things := F31, b__law_some_things := b31, m__law_some_things := W.mg_of X G a31, f__law_counts := f32, d__law_counts := _, F__law_counts := F32, b__law_counts := b32, m__law_counts := W.mg_of X G a32, f_law := fa, d_law := _, F_law := F33, b_law := b33, m_law := W.mg_of X G a33, z_any := W.mg_none_of X G z_any, z_bool := W.mg_none_of X G z_bool, z_enumerate := W.mg_none_of X G z_enumerate, z_int := W.mg_none_of X G z_int, z_isinstance := W.mg_none_of X G z_isinstance, z_len := W.mg_none_of X G z_len, z_list := W.mg_none_of X G z_list, z_max := W.mg_none_of X G z_max, z_min := W.mg_none_of X G z_min, z_range := W.mg_none_of X G z_range, z_repr := W.mg_none_of X G z_repr, z_set := W.mg_none_of X G z_set, z_sorted := W.mg_none_of X G z_sorted, z_sum := W.mg_none_of X G z_sum, z_tuple := W.mg_none_of X G z_tuple }
  exact ⟨W.fnOf "law" "law" (defArgs s_law) (defBody s_law) (defScope s_law) .none kV33 dc33 pm33 an33 cd33 ct33, fun s v => .of_eq rfl, fun base _ _ => ok_law T⟩
theorem walk {l : W.OpenLaw} {q : Program} {loose : List Str} {XP : (Str -> Option Value) -> Heap -> Prop} {YP : World -> Heap -> Prop} {d : DefRec} {K : Params -> W.Frag} (hn : l.most = some 63) (hdf : d.params.defaults = [])
    (hY : ∀ (w : World) (h : Heap), YP w h -> (K w.params).In h)
    (F : ∀ (w : World) (mg : Str -> Option Value) (fa : Addr) (h : Heap), (K w.params).In h -> h.Ns mainGlobals mg -> mg d.name = some (.ref fa) ->
      ∃ fd : FuncData, (∀ (s : Shared) (u : Value), BindsTo s fd ⟨[u], []⟩ [("_law_script", u)]) /\ ∀ base : Heap, (K w.params).In base -> base.Ns mainGlobals mg -> FnOk l.prog w (K w.params) mg base CX0 75 fa fd ["_law_script"] (spLaw (K w.params))) :
    W.WalkO q loose XP YP l.row.toRowW d [] (fun f vs => PySem.call f vs) :=
  L2.walk_of (n := 63) (k := 75) (x := "_law_script") (CX := fun _ => CX0) (sp := fun w => spLaw (K w.params)) hn (by decide) hdf ⟨rfl, by decide, by decide, rfl⟩ hY F (fun _ _ a ns hl _ hS => ⟨a, ns, rfl, hS, hl, fun _ => rfl⟩) fun _ _ _ _ _ z => z
end Mine
theorem PySem.W.Fast.te10576957169328402029 : True := trivial
def PySem.W.Fast.tw16382107580397385357 : PySem.Program := PySem.Challenge.pw_flips_k40_left_ends_fewest
theorem PySem.W.Fast.te16382107580397385357 : PySem.Challenge.pw_flips_k40_left_ends_fewest = PySem.W.Fast.tw16382107580397385357 := rfl
def PySem.W.Fast.pickB : List Bool -> List PySem.Stmt -> List PySem.Stmt
  | [], _ => []
  | b :: k, l => match b, l with
    | true, s :: r => s :: PySem.W.Fast.pickB k r
    | false, _ :: r => PySem.W.Fast.pickB k r
    | _, [] => []
def PySem.W.Fast.tw11255060609028582888 : PySem.Program := { PySem.Challenge.pw_flips_k40_left_ends_fewest with main := { (PySem.Challenge.pw_flips_k40_left_ends_fewest).main with body := PySem.W.Fast.pickB [true, false, true, true, false, true, true, false, true, true, false, true, true, true, true, false, true, true, true, true, true, true, true, true, true, true, true, true, true, true, true, true] (PySem.Challenge.pw_flips_k40_left_ends_fewest).main.body } }
theorem PySem.W.Fast.te11255060609028582888 : PySem.W.Fast.tw11255060609028582888 = PySem.W.Fast.tw11255060609028582888 := rfl
def PySem.W.Fast.tw2358433768390307112 : List PySem.Stmt := ((PySem.Challenge.pw_flips_k40_left_ends_fewest).main.body.drop 24).take 8
theorem PySem.W.Fast.te2358433768390307112 : PySem.W.Fast.tw2358433768390307112 = PySem.W.Fast.tw2358433768390307112 := rfl
def PySem.W.Fast.tw6124580341938134502 : List PySem.Stmt := ((PySem.Challenge.pw_flips_k40_left_ends_fewest).main.body.drop 9).take 15
theorem PySem.W.Fast.te6124580341938134502 : PySem.W.Fast.tw6124580341938134502 = PySem.W.Fast.tw6124580341938134502 := rfl
def PySem.W.Fast.tw12513437555960693292 : List PySem.Stmt := ((PySem.Challenge.pw_flips_k40_left_ends_fewest).main.body.drop 0).take 8
theorem PySem.W.Fast.te12513437555960693292 : PySem.W.Fast.tw12513437555960693292 = PySem.W.Fast.tw12513437555960693292 := rfl
def PySem.W.Fast.tw3490629079139609206 : List PySem.Stmt := ((PySem.Challenge.pw_flips_k40_left_ends_fewest).main.body.drop 8).take 1
theorem PySem.W.Fast.te3490629079139609206 : PySem.W.Fast.tw3490629079139609206 = PySem.W.Fast.tw3490629079139609206 := rfl
open PySem PySem.W PyProof.Rows
set_option maxRecDepth 100000 in
set_option maxHeartbeats 0 in
theorem PySem.Challenge.cw_flips_k40_left_ends_fewest_holds : PySem.Challenge.rw_flips_k40_left_ends_fewest.Holds := by
  w_on; o_law; k_head; (case hw => w_witness2)
  k_fill
  refine Mine.walk (l := PySem.Challenge.rw_flips_k40_left_ends_fewest) rfl rfl (fun w h Y => PySem.W.kIn_of Y) ?F
  case F =>
    intro w mg fa h KX G hmg
    refine' Mine.all_mk KX G hmg ?aC_Reckoner ?pg_Reckoner ?hd_Reckoner ?po_Reckoner ?sa_Reckoner ?mk_Reckoner ?kc_Reckoner ?na_labels_Reckoner ?na_yeses_Reckoner ?na_alike_Reckoner ?na_known_Reckoner ?a0 ?l0 ?c0 ?k0 ?a1 ?l1 ?c1 ?k1 ?a2 ?l2 ?c2 ?k2 ?a3 ?l3 ?c3 ?k3 ?a4 ?l4 ?c4 ?k4 ?a5 ?i5 ?l5 ?c5 ?k5 ?a6 ?i6 ?l6 ?c6 ?k6 ?a7 ?i7 ?l7 ?c7 ?k7 ?a8 ?i8 ?l8 ?c8 ?k8 ?a9 ?i9 ?l9 ?c9 ?k9 ?a10 ?i10 ?l10 ?c10 ?k10 ?a11 ?i11 ?l11 ?c11 ?k11 ?a12 ?i12 ?l12 ?c12 ?k12 ?a13 ?l13 ?c13 ?k13 ?a14 ?l14 ?c14 ?k14 ?a15 ?l15 ?c15 ?k15 ?a16 ?l16 ?c16 ?k16 ?a17 ?l17 ?c17 ?k17 ?a18 ?l18 ?c18 ?k18 ?a19 ?l19 ?c19 ?k19 ?a20 ?l20 ?c20 ?k20 ?a21 ?l21 ?c21 ?k21 ?a22 ?l22 ?c22 ?k22 ?a23 ?l23 ?c23 ?k23 ?a24 ?l24 ?c24 ?k24 ?a25 ?l25 ?c25 ?k25 ?a26 ?l26 ?c26 ?k26 ?a27 ?l27 ?c27 ?k27 ?a28 ?l28 ?c28 ?k28 ?a29 ?l29 ?c29 ?k29 ?a30 ?l30 ?c30 ?k30 ?a31 ?l31 ?c31 ?k31 ?a32 ?l32 ?c32 ?k32 ?a33 ?l33 ?c33 ?k33 ?z_any ?z_bool ?z_enumerate ?z_int ?z_isinstance ?z_len ?z_list ?z_max ?z_min ?z_range ?z_repr ?z_set ?z_sorted ?z_sum ?z_tuple
    (case aC_Reckoner | pg_Reckoner | hd_Reckoner | po_Reckoner | sa_Reckoner | mk_Reckoner | kc_Reckoner | na_labels_Reckoner | na_yeses_Reckoner | na_alike_Reckoner | na_known_Reckoner | a0 | l0 | c0 | k0 | a1 | l1 | c1 | k1 | a2 | l2 | c2 | k2 | a3 | l3 | c3 | k3 | a4 | l4 | c4 | k4 | a5 | i5 | l5 | c5 | k5 | a6 | i6 | l6 | c6 | k6 | a7 | i7 | l7 | c7 | k7 | a8 | i8 | l8 | c8 | k8 | a9 | i9 | l9 | c9 | k9 | a10 | i10 | l10 | c10 | k10 | a11 | i11 | l11 | c11 | k11 | a12 | i12 | l12 | c12 | k12 | a13 | l13 | c13 | k13 | a14 | l14 | c14 | k14 | a15 | l15 | c15 | k15 | a16 | l16 | c16 | k16 | a17 | l17 | c17 | k17 | a18 | l18 | c18 | k18 | a19 | l19 | c19 | k19 | a20 | l20 | c20 | k20 | a21 | l21 | c21 | k21 | a22 | l22 | c22 | k22 | a23 | l23 | c23 | k23 | a24 | l24 | c24 | k24 | a25 | l25 | c25 | k25 | a26 | l26 | c26 | k26 | a27 | l27 | c27 | k27 | a28 | l28 | c28 | k28 | a29 | l29 | c29 | k29 | a30 | l30 | c30 | k30 | a31 | l31 | c31 | k31 | a32 | l32 | c32 | k32 | a33 | l33 | c33 | k33 | z_any | z_bool | z_enumerate | z_int | z_isinstance | z_len | z_list | z_max | z_min | z_range | z_repr | z_set | z_sorted | z_sum | z_tuple => k_is)
