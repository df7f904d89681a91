import PyProof.Rows.All
import Wide.All
import OpenK.AllK
import Wide.FinOn
import Lean
import PyProof.EqAt
import PyProof.EqKinds
import PyProof.TupleCall
import PyProof.NeKinds
import PyProof.ReprRoads
import PyProof.ReprBulk
import PyProof.Draws
import PyProof.EnumMake
import KE.BitLaws
import PyProof.ListIndex
import PyProof.AttrMissHeap
import PyProof.DictUpdate
import KE.KDictOf
import PyProof.FactsAll.enumerate_1
import PyProof.FactsAll.tuple_2
import PyProof.ListMulRoad
import PyProof.ListRange
import PyProof.FactsAll.list_3
import PyProof.Rows.SortWalk
import PyProof.Rows.MinMaxN
import KE.KEqDict
import PySem.Challenge.RW_flips_k36_whole_every_table_with_a_glanc
set_option Elab.async false
set_option linter.all false
set_option maxRecDepth 100000
set_option maxHeartbeats 4000000
-- CHANGE: your row's module here, as the last of these rows
namespace L2
open PySem PySem.Spec PyProof.Rows
abbrev Key := Sum Int Str
def keyIs : Key -> Value -> Bool
  | .inl k, v => Value.isInt k v
  | .inr x, v => Value.isStrOf x v
def keyH (w : World) : Key -> Int
  | .inl k => hashInt k
  | .inr x => hashStr w x
theorem keyIs_shape : ∀ {k : Key} {v : Value}, keyIs k v = true -> (∃ i t, k = Sum.inl i /\ v = Value.int i t) \/ (∃ x t, k = Sum.inr x /\ v = Value.str x t)
  | .inl i, v, h => by
    obtain ⟨t, e⟩ := Value.isInt_shape (k := i) (v := v) h
    exact .inl ⟨i, t, rfl, e⟩
  | .inr x, v, h => by
    obtain ⟨t, e⟩ := Value.isStrOf_shape (x := x) (v := v) h
    exact .inr ⟨x, t, rfl, e⟩
theorem keyIs_int (i : Int) (t : Tok) : keyIs (.inl i) (.int i t) = true := by simp [keyIs, Value.isInt]
theorem keyIs_str (x : Str) (t : Tok) : keyIs (.inr x) (.str x t) = true := by simp [keyIs, Value.isStrOf]
theorem key_ll (a b : Int) : decide ((Sum.inl a : Key) = Sum.inl b) = (a == b) := by
  by_cases e : a = b
  . subst e; simp
  . have h : ¬ (Sum.inl a : Key) = Sum.inl b := fun q => e (Sum.inl.inj q)
    rw [decide_eq_false h]
    exact (beq_eq_false_iff_ne.mpr e).symm
theorem key_rr (a b : Str) : decide ((Sum.inr a : Key) = Sum.inr b) = decide (a = b) := by
  by_cases e : a = b
  . subst e; simp
  . have h : ¬ (Sum.inr a : Key) = Sum.inr b := fun q => e (Sum.inr.inj q)
    rw [decide_eq_false h, decide_eq_false e]
theorem key_lr (a : Int) (b : Str) : decide ((Sum.inl a : Key) = Sum.inr b) = false := decide_eq_false (fun q => nomatch q)
theorem key_rl (a : Str) (b : Int) : decide ((Sum.inr a : Key) = Sum.inl b) = false := decide_eq_false (fun q => nomatch q)
def mixKind (prog : Program) (w : World) : PySem.KeyKind prog w Key where
  is := keyIs
  hash := keyH w
  inj := fun v a b ha hb => by
    rcases keyIs_shape ha with ⟨i, t, rfl, rfl⟩ | ⟨x, t, rfl, rfl⟩
    . rcases keyIs_shape hb with ⟨j, u, rfl, e⟩ | ⟨y, u, rfl, e⟩
      . injection e with e1 _; rw [e1]
      . exact nomatch e
    . rcases keyIs_shape hb with ⟨j, u, rfl, e⟩ | ⟨y, u, rfl, e⟩
      . exact nomatch e
      . injection e with e1 _; rw [e1]
  byValue := fun k v h => by
    rcases keyIs_shape h with ⟨i, t, rfl, rfl⟩ | ⟨x, t, rfl, rfl⟩ <;> rfl
  pyHash := fun hv h => by
    rcases keyIs_shape hv with ⟨i, t, rfl, rfl⟩ | ⟨x, t, rfl, rfl⟩
    . exact wpAny_pyHash_int h
    . exact wpAny_pyHash_str h
  eqBool := fun hu hv h => by
    rcases keyIs_shape hu with ⟨i, t, rfl, rfl⟩ | ⟨x, t, rfl, rfl⟩
    . rcases keyIs_shape hv with ⟨j, u, rfl, rfl⟩ | ⟨y, u, rfl, rfl⟩
      . rw [key_ll] at h; exact wpAny_eqBool_int h
      . rw [key_lr] at h; exact SeqAt.EqAt.int_str i t y u _ _ _ _ h
    . rcases keyIs_shape hv with ⟨j, u, rfl, rfl⟩ | ⟨y, u, rfl, rfl⟩
      . rw [key_rl] at h; exact SeqAt.EqAt.str_int x t j u _ _ _ _ h
      . rw [key_rr] at h; exact wpAny_eqBool_str h
  «strs» := fun k x t v h => by
    rcases keyIs_shape h with ⟨i, u, rfl, e⟩ | ⟨y, u, rfl, e⟩
    . exact nomatch e
    . injection e with e1 _
      subst e1
      cases v <;> rfl
theorem mixKind_int (prog : Program) (w : World) (i : Int) (t : Tok) : (mixKind prog w).is (.inl i) (.int i t) = true := keyIs_int i t
theorem mixKind_str (prog : Program) (w : World) (x : Str) (t : Tok) : (mixKind prog w).is (.inr x) (.str x t) = true := keyIs_str x t
inductive V where
  | non | bl (b : Bool) | int (i : Int) | str (x : Str) | byt (b : Array UInt8) | flt (b : UInt64) | ref (a : Addr) | ty (n : String)
  deriving DecidableEq
def RelV : V -> Value -> Prop
  | .non, u => u = Value.none
  | .bl b, u => u = Value.bool b
  | .int i, u => ∃ t, u = Value.int i t
  | .str x, u => ∃ t, u = Value.str x t
  | .byt b, u => ∃ t, u = Value.bytes b t
  | .flt b, u => ∃ t, u = Value.float b t
  | .ref a, u => u = Value.ref a
  | .ty n, u => u = Value.type n
abbrev Vals : List V -> List Value -> Prop := Paired RelV
theorem Vals.length {xs : List V} {us : List Value} (r : Vals xs us) : xs.length = us.length := Paired.length r
theorem Vals.get : ∀ {xs : List V} {us : List Value} {i : Nat} {x : V}, Vals xs us -> xs[i]? = some x -> ∃ u, us[i]? = some u /\ RelV x u
  | _, _, _, _, .nil, e => by simp at e
  | _, _, 0, _, .cons r _, e => by simp at e; subst e; exact ⟨_, rfl, r⟩
  | _, _, i + 1, x, .cons _ t, e => by
    obtain ⟨u, h1, h2⟩ := Vals.get (i := i) (x := x) t (by simpa using e)
    exact ⟨u, by simpa using h1, h2⟩
theorem Vals.set {x : V} {u : Value} (r : RelV x u) : ∀ {xs : List V} {us : List Value} (i : Nat), Vals xs us -> Vals (xs.set i x) (us.set i u)
  | _, _, _, .nil => .nil
  | _, _, 0, .cons _ t => .cons r t
  | _, _, i + 1, .cons q t => .cons q (Vals.set r i t)
theorem Vals.append : ∀ {xs ys : List V} {us ws : List Value}, Vals xs us -> Vals ys ws -> Vals (xs ++ ys) (us ++ ws)
  | _, _, _, _, .nil, s => s
  | _, _, _, _, .cons r t, s => .cons r (Vals.append t s)
def RelO : Option V -> Option Value -> Prop
  | some v, some u => RelV v u
  | none, none => True
  | _, _ => False
def KV {κ : Type} : List (κ × V) -> List (κ × Value) -> Prop := Paired fun (p : κ × V) (q : κ × Value) => p.1 = q.1 /\ RelV p.2 q.2
def kV : Key -> V
  | .inl i => .int i
  | .inr x => .str x
inductive HO where
    | lst (xs : List V)
    | tup (xs : List V)
    | dK (kvs : List (Key × V)) | dT (kvs : List (List Key × V))
    | set (S : Int -> Bool) (n : Nat)
    | ins (C dx : Addr) (fs : List (Str × V))
    | own (x : Addr)
    | xd (fs : List (Str × V))
    | met (f x : Addr)
    | rng (lo hi : Int)
    | frz (o : Obj) (u : HO)
    | tbl (ps : Array Value)
    | ext (φ : Heap -> Prop)
abbrev Hp := Addr -> Option HO
def upd (H : Hp) (a : Addr) (o : HO) : Hp := fun b => if b = a then some o else H b
theorem upd_same {H : Hp} {a : Addr} {o : HO} : upd H a o a = some o := by unfold upd; rw [if_pos rfl]
theorem upd_ne {H : Hp} {a b : Addr} {o : HO} (h : b ≠ a) : upd H a o b = H b := by unfold upd; rw [if_neg h]
theorem ne_of {H : Hp} {a b : Addr} {o u : HO} (h : H a = some o) (h' : H b = some u) (d : o ≠ u) : a ≠ b := by
  intro e; subst e; rw [h] at h'; exact d (Option.some.inj h')
theorem ne_of_none {H : Hp} {a b : Addr} {o : HO} (h : H a = some o) (h' : H b = none) : a ≠ b := by
  intro e; subst e; rw [h] at h'; cases h'
def IsTupN (h : Heap) (a : Addr) (items : Array Value) : Prop := ∃ o, h.get? a = some o /\ o.cls = .type "tuple" /\ (∃ n, o.data = .seq items n) /\ o.dict = none
theorem IsTupN.tup {h : Heap} {a : Addr} {items : Array Value} (x : IsTupN h a items) : PyProof.Rows.IsTup h a items := by
  obtain ⟨o, e, c, d, _⟩ := x
  exact ⟨o, e, c, d⟩
theorem IsTupN.new (h : Heap) (items : Array Value) : IsTupN (h.push { cls := .type "tuple", data := .seq items }) h.objs.size items := ⟨_, Heap.get?_push_size _ rfl, rfl, ⟨_, rfl⟩, rfl⟩
section
variable (P : Program) (w : World)
def ObjOk (H : Hp) (h : Heap) (a : Addr) : HO -> Prop
  | .lst xs => xs.length <= sizeLine /\ ∃ (its : List Value) (n : Nat), Vals xs its /\ h.get? a = some { cls := .type "list", data := .seq its.toArray n }
  | .tup xs => xs.length <= sizeLine /\ ∃ its : List Value, Vals xs its /\ IsTupN h a its.toArray
  | .dK kvs => kvs.length <= sizeLine /\ (a == sysModules) = false /\ ∃ vs, KV kvs vs /\ h.DictOf (mixKind P w) a vs
  | .dT kvs => kvs.length <= sizeLine /\ (a == sysModules) = false /\ ∃ xs : List (List Key × Addr × Value),
      Paired (fun (p : List Key × V) (q : List Key × Addr × Value) => p.1 = q.1 /\ H q.2.1 = some (.tup (p.1.map kV)) /\ RelV p.2 q.2.2) kvs xs /\
      ∃ o es ep, h.get? a = some o /\ o.ExactDict /\ o.data = .dict es ep /\ es.toList = xs.map (entryOfKey (tupleKind (mixKind P w))) /\ (xs.map (·.1)).Nodup
  | .set S n => h.SetOf (intKind P w) a S n
  | .ins C dx fs => H dx = some (.own a) /\ fs.length <= 1000 /\ dx ≠ a /\ h.get? a = some (PySem.W.instObj C dx) /\
      ∃ mA, h.Ns1 dx mA /\ (∀ f, RelO (fs.lookup f) (mA f)) /\ PySem.Within mA (fs.map (·.1))
  | .own _ => ∃ o, h.get? a = some o
  | .xd fs => ∃ mA, h.Ns1 a mA /\ ∀ f, RelO (fs.lookup f) (mA f)
  | .rng lo hi => ∃ t u v, h.get? a = some { cls := .type "range", data := .fields #[.int lo t, .int hi u, .int 1 v] }
  | .frz o u => h.get? a = some o /\ ObjOk H h a u
  | .tbl ps => h.get? a = some { cls := .none, data := .fields ps }
  | .met f x => h.get? a = some (PySem.W.methodObj (.ref f) (.ref x))
  | .ext φ => φ h /\ (∃ o, h.get? a = some o) /\ ∀ h1 h2 : Heap, φ h1 -> (∀ o, h1.get? a = some o -> h2.get? a = some o) -> φ h2
def HOk (H : Hp) (h : Heap) : Prop := ∀ a o, H a = some o -> ObjOk P w H h a o
end
section
variable {P : Program} {w : World} {H H' : Hp} {h h' : Heap} {a : Addr} {o : HO}
theorem ObjOk.lt (x : ObjOk P w H h a o) : a < h.objs.size := by
  cases o with
  | lst xs => obtain ⟨_, _, _, _, e⟩ := x; exact Heap.lt_size e
  | tup xs => obtain ⟨_, _, _, p⟩ := x; exact p.tup.lt
  | dK kvs => obtain ⟨_, _, _, _, o, _, _, e, _⟩ := x; exact Heap.lt_size e
  | dT kvs => obtain ⟨_, _, _, _, o, _, _, e, _⟩ := x; exact Heap.lt_size e
  | set S n => obtain ⟨o, _, _, _, e, _⟩ := x; exact Heap.lt_size e
  | ins C dx fs => obtain ⟨_, _, _, e, _⟩ := x; exact Heap.lt_size e
  | own y => obtain ⟨_, e⟩ := x; exact Heap.lt_size e
  | xd fs => obtain ⟨_, ⟨_, _, _, e, _⟩, _⟩ := x; exact Heap.lt_size e
  | rng lo hi => obtain ⟨_, _, _, e⟩ := x; exact Heap.lt_size e
  | frz ob u => obtain ⟨e, _⟩ := x; exact Heap.lt_size e
  | tbl ps => exact Heap.lt_size (show h.get? a = some _ from x)
  | met f y => exact Heap.lt_size (show h.get? a = some _ from x)
  | ext φ => obtain ⟨_, ⟨_, e⟩, _⟩ := x; exact Heap.lt_size e
theorem Paired.mapP {α β : Type} {F G : α -> β -> Prop} : ∀ {l₁ : List α} {l₂ : List β}, Paired F l₁ l₂ -> (∀ a b, F a b -> G a b) -> Paired G l₁ l₂
  | _, _, .nil, _ => .nil
  | _, _, .cons r t, f => .cons (f _ _ r) (Paired.mapP t f)
theorem ObjOk.stay (x : ObjOk P w H h a o) (k : ∀ b u, (b = a \/ H b = some (.own a)) -> h.get? b = some u -> h'.get? b = some u)
    (ho : ∀ b, H b = some (.own a) -> H' b = some (.own a)) (ht : ∀ b xs, H b = some (.tup xs) -> H' b = some (.tup xs)) : ObjOk P w H' h' a o := by
  induction o with
  | lst xs => obtain ⟨z, its, n, r, e⟩ := x; exact ⟨z, its, n, r, k _ _ (.inl rfl) e⟩
  | tup xs => obtain ⟨z, its, r, ob, e, c⟩ := x; exact ⟨z, its, r, ob, k _ _ (.inl rfl) e, c⟩
  | dK kvs => obtain ⟨z, y, vs, r, ob, es, ep, e, c⟩ := x; exact ⟨z, y, vs, r, ob, es, ep, k _ _ (.inl rfl) e, c⟩
  | dT kvs =>
    obtain ⟨z, y, xs, r, ob, es, ep, e, c⟩ := x
    exact ⟨z, y, xs, Paired.mapP r fun p q z => ⟨z.1, ht _ _ z.2.1, z.2.2⟩, ob, es, ep, k _ _ (.inl rfl) e, c⟩
  | set S n => obtain ⟨ob, es, ep, t, e, c⟩ := x; exact ⟨ob, es, ep, t, k _ _ (.inl rfl) e, c⟩
  | ins C dx fs =>
    obtain ⟨d, z, ne, e, mA, ⟨od, es, ep, e2, c⟩, r⟩ := x
    exact ⟨ho _ d, z, ne, k _ _ (.inl rfl) e, mA, ⟨od, es, ep, k _ _ (.inr d) e2, c⟩, r⟩
  | own y => obtain ⟨ob, e⟩ := x; exact ⟨ob, k _ _ (.inl rfl) e⟩
  | xd fs => obtain ⟨mA, ⟨od, es, ep, e, c⟩, r⟩ := x; exact ⟨mA, ⟨od, es, ep, k _ _ (.inl rfl) e, c⟩, r⟩
  | rng lo hi => obtain ⟨t, u, v, e⟩ := x; exact ⟨t, u, v, k _ _ (.inl rfl) e⟩
  | frz ob u ih => obtain ⟨e, q⟩ := x; exact ⟨k _ _ (.inl rfl) e, ih q⟩
  | tbl ps =>
    have e : h.get? a = some { cls := .none, data := .fields ps } := x
    show h'.get? a = some { cls := .none, data := .fields ps }
    exact k a _ (.inl rfl) e
  | met f y =>
    have e : h.get? a = some (PySem.W.methodObj (.ref f) (.ref y)) := x
    show h'.get? a = some (PySem.W.methodObj (.ref f) (.ref y))
    exact k a _ (.inl rfl) e
  | ext φ => obtain ⟨p, ⟨o, e⟩, st⟩ := x; exact ⟨st _ _ p fun o q => k _ _ (.inl rfl) q, ⟨o, k _ _ (.inl rfl) e⟩, st⟩
theorem HOk.lt (x : HOk P w H h) (e : H a = some o) : a < h.objs.size := (x a o e).lt
theorem HOk.fresh (x : HOk P w H h) (e : h.objs.size <= a) : H a = none := by
  cases q : H a with
  | none => rfl
  | some u => exact absurd (Nat.lt_of_lt_of_le (x.lt q) e) (Nat.lt_irrefl _)
theorem HOk.kept (x : HOk P w H h) (k : ∀ b u, h.get? b = some u -> h'.get? b = some u) : HOk P w H h' := fun a o e =>
  (x a o e).stay (fun b u _ q => k b u q) (fun _ q => q) fun _ _ q => q
theorem HOk.laid (x : HOk P w H h) (k : ∀ b u, h.get? b = some u -> h'.get? b = some u) (hp : h.objs.size <= a) (new : ObjOk P w (upd H a o) h' a o) : HOk P w (upd H a o) h' := fun b u e => by
  have hn := x.fresh hp
  by_cases hb : b = a
  . subst hb; rw [upd_same] at e; cases e; exact new
  . rw [upd_ne hb] at e
    exact (x b u e).stay (fun c v _ q => k c v q) (fun c q => by rw [upd_ne (ne_of_none q hn)]; exact q) fun c xs q => by rw [upd_ne (ne_of_none q hn)]; exact q
end
def Rd (H : Hp) (a : Addr) (u : HO) : Prop := H a = some u \/ ∃ o, H a = some (.frz o u)
theorem Rd.ok {P : Program} {w : World} {H : Hp} {h : Heap} {a : Addr} {u : HO} (r : Rd H a u) (x : HOk P w H h) : ObjOk P w H h a u := by
  rcases r with r | ⟨o, r⟩
  . exact x a u r
  . obtain ⟨_, q⟩ := x a _ r
    exact q
def Mut : Option HO -> Prop
  | some (.lst _) => True
  | some (.dK _) => True
  | some (.dT _) => True
  | some (.set _ _) => True
  | some (.ins _ _ _) => True
  | some (.ext _) => True
  | _ => False
section
variable {P : Program} {w : World} {H : Hp} {h h' : Heap} {x e : Addr} {o' : HO}
theorem HOk.write (ok : HOk P w H h) (mu : Mut (H x)) (he : e = x \/ H e = some (.own x)) (k : ∀ b u, b ≠ e -> h.get? b = some u -> h'.get? b = some u) (heo : ∃ u, h'.get? e = some u)
    (new : ObjOk P w (upd H x o') h' x o') : HOk P w (upd H x o') h' := fun b u q => by
  have nown : ∀ c y, H c = some (.own y) -> c ≠ x := fun c y r z => by subst z; rw [r] at mu; exact mu
  have ntup : ∀ c xs, H c = some (.tup xs) -> c ≠ x := fun c xs r z => by subst z; rw [r] at mu; exact mu
  by_cases hb : b = x
  . subst hb; rw [upd_same] at q; cases q; exact new
  . rw [upd_ne hb] at q
    by_cases hbe : b = e
    . have q' : H b = some (.own x) := by
        rcases he with z | z
        . exact absurd (hbe.trans z) hb
        . rw [hbe]; exact z
      rw [q] at q'; cases q'
      obtain ⟨v, hv⟩ := heo
      exact ⟨v, by rw [hbe]; exact hv⟩
    . refine (ok b u q).stay (fun c v hc r => k c v ?_ r) (fun c r => by rw [upd_ne (nown c b r)]; exact r) fun c xs r => by rw [upd_ne (ntup c xs r)]; exact r
      rcases hc with rfl | hc
      . exact hbe
      . rintro rfl
        rcases he with z | z
        . exact nown c b hc z
        . rw [hc] at z; cases z; exact hb rfl
end
structure Un (fs ex : List Addr) (H H' : Hp) (h h' : Heap) : Prop where
  keep : ∀ b o, h.get? b = some o -> H b = none -> b ∉ fs -> b ∉ ex -> h'.get? b = some o
  slot : ∀ b o, h.get? b = some o -> H b = none -> b ∈ fs -> b ∉ ex -> ∃ sl, h'.get? b = some { o with slots := sl }
  free : ∀ b o, h.get? b = some o -> H b = none -> b ∉ ex -> H' b = none
  there : ∀ b o, h.get? b = some o -> b ∉ ex -> ∃ o', h'.get? b = some o'
  tups : ∀ b xs, H b = some (.tup xs) -> H' b = some (.tup xs)
  frzs : ∀ b o u, H b = some (.frz o u) -> H' b = some (.frz o u)
  tbls : ∀ b ps, H b = some (.tbl ps) -> ∃ more, H' b = some (.tbl (ps ++ more))
section
variable {fs fs' ex ex' : List Addr} {H H1 H2 : Hp} {h h1 h2 h' : Heap} {a x e : Addr} {o : HO}
theorem Un.any (u : Un fs ex H H1 h h1) {b : Addr} {ob : Obj} (q : h.get? b = some ob) (n : H b = none) (hx : b ∉ ex) : ∃ sl, h1.get? b = some { ob with slots := sl } := by
  by_cases hb : b ∈ fs
  . exact u.slot b ob q n hb hx
  . exact ⟨ob.slots, u.keep b ob q n hb hx⟩
theorem Un.trans (a : Un fs ex H H1 h h1) (b : Un fs ex H1 H2 h1 h2) : Un fs ex H H2 h h2 where
  keep := fun c ob q n hc hx => b.keep c ob (a.keep c ob q n hc hx) (a.free c ob q n hx) hc hx
  slot := fun c ob q n hc hx => by
    obtain ⟨sl, e1⟩ := a.slot c ob q n hc hx
    obtain ⟨sl', e2⟩ := b.slot c _ e1 (a.free c ob q n hx) hc hx
    exact ⟨sl', e2⟩
  free := fun c ob q n hx => by
    obtain ⟨o', e1⟩ := a.there c ob q hx
    exact b.free c o' e1 (a.free c ob q n hx) hx
  there := fun c ob q hx => by
    obtain ⟨o', e1⟩ := a.there c ob q hx
    exact b.there c o' e1 hx
  tups := fun c xs q => b.tups c xs (a.tups c xs q)
  frzs := fun c ob xs q => b.frzs c ob xs (a.frzs c ob xs q)
  tbls := fun c ps q => by
    obtain ⟨m1, e1⟩ := a.tbls c ps q
    obtain ⟨m2, e2⟩ := b.tbls c _ e1
    exact ⟨m1 ++ m2, by rw [e2, Array.append_assoc]⟩
theorem Un.kept (k : ∀ b u, h.get? b = some u -> h'.get? b = some u) : Un fs ex H H h h' :=
  ⟨fun b ob q _ _ _ => k b ob q, fun b ob q _ _ _ => ⟨ob.slots, k b ob q⟩, fun _ _ _ n _ => n, fun b ob q _ => ⟨ob, k b ob q⟩, fun _ _ q => q, fun _ _ _ q => q, fun _ ps q => ⟨#[], by rw [q]; simp⟩⟩
theorem Un.refl : Un fs ex H H h h := Un.kept fun _ _ q => q
theorem Un.laid (k : ∀ b u, h.get? b = some u -> h'.get? b = some u) (hp : h.objs.size <= a) (hn : H a = none) : Un fs ex H (upd H a o) h h' where
  keep := fun b u q _ _ _ => k b u q
  slot := fun b u q _ _ _ => ⟨u.slots, k b u q⟩
  free := fun b u q n _ => by rw [upd_ne (Nat.ne_of_lt (Nat.lt_of_lt_of_le (Heap.lt_size q) hp))]; exact n
  there := fun b u q _ => ⟨u, k b u q⟩
  tups := fun b xs q => by rw [upd_ne (ne_of_none q hn)]; exact q
  frzs := fun b u xs q => by rw [upd_ne (ne_of_none q hn)]; exact q
  tbls := fun b ps q => ⟨#[], by rw [upd_ne (ne_of_none q hn), q]; simp⟩
theorem Un.write (mu : Mut (H x)) (he : e = x \/ H e = some (.own x)) (k : ∀ b u, b ≠ e -> h.get? b = some u -> h'.get? b = some u) (heo : ∃ u, h'.get? e = some u) : Un fs ex H (upd H x o) h h' := by
  have hx : ∀ b, H b = none -> b ≠ x := fun b n z => by subst z; rw [n] at mu; exact mu
  have hb : ∀ b, H b = none -> b ≠ e := fun b n z => by
    subst z
    rcases he with r | r
    . exact hx b n r
    . rw [n] at r; cases r
  have hm : ∀ b u, H b = some u -> ¬ Mut (some u) -> b ≠ x := fun b u q nm z => by subst z; rw [q] at mu; exact nm mu
  refine ⟨fun b u q n _ _ => k b u (hb b n) q, fun b u q n _ _ => ⟨u.slots, k b u (hb b n) q⟩, fun b u q n _ => by rw [upd_ne (hx b n)]; exact n, fun b u q _ => ?_,
    fun b xs q => by rw [upd_ne (hm b _ q fun z => z)]; exact q, fun b u xs q => by rw [upd_ne (hm b _ q fun z => z)]; exact q, fun b ps q => ⟨#[], by rw [upd_ne (hm b _ q fun z => z), q]; simp⟩⟩
  by_cases hbe : b = e
  . subst hbe; exact heo
  . exact ⟨u, k b u hbe q⟩
end
def trk (h : Heap) (H : Hp) : List Addr := (List.range h.objs.size).filter fun a => (H a).isSome
def hidT (h : Heap) (H : Hp) : Heap := PySem.W.hideAll h (trk h H)
theorem hidT_size (h : Heap) (H : Hp) : (hidT h H).objs.size = h.objs.size := PySem.W.hideAll_size _ _
theorem hidT_get {h : Heap} {H : Hp} {b : Addr} {o : Obj} (e : h.get? b = some o) (n : H b = none) : (hidT h H).get? b = some o :=
  PySem.W.hideAll_get _ e fun hm => by
    have q : (H b).isSome = true := (List.mem_filter.mp hm).2
    rw [n] at q; simp at q
theorem of_hidT {h : Heap} {H : Hp} {b : Addr} {o : Obj} (e : (hidT h H).get? b = some o) : h.get? b = some o /\ H b = none := by
  have e' : h.get? b = some o := PySem.W.of_hideAll (trk h H) e
  refine ⟨e', ?_⟩
  cases q : H b with
  | none => rfl
  | some x =>
    have hm : b ∈ trk h H := List.mem_filter.mpr ⟨List.mem_range.mpr (Heap.lt_size e'), by simp [q]⟩
    have z : (hidT h H).get? b = none := PySem.W.hideAll_none (trk h H) hm
    rw [z] at e; cases e
def allNews (g h : Heap) (L : Addr) : List (Addr × Obj) := (List.range h.objs.size).filterMap fun a => if a = L \/ (g.get? a).isSome = true then none else (h.get? a).map fun o => (a, o)
def rest (g h : Heap) (L d : Addr) : List (Addr × Obj) := (allNews g h L).filter fun p => decide (p.1 ≠ d)
structure Mod (K : PySem.W.Frag) (mg : Str -> Option Value) (base : Heap) : Prop where
  kin : K.In base
  glob : base.Ns mainGlobals mg
  blt : ∃ mb, base.Ns builtinsNs mb /\ ∀ x : Str, x ≠ "__name__" -> mb x = bootBuiltins x
  nolimit : base.NoLimit
structure Cx where
  prog : Program
  w : World
  K : PySem.W.Frag
  mg : Str -> Option Value
  base : Heap
  A : Around
  N : List Str
  s₀ : Shared
  H₀ : Hp
  env : Env
  outer : List Env
  stack : List Env
  ex : List Addr
  fn : Str -> Bool
  calm : Bool
  pn : List (Addr × Obj)
  xe : Value -> Shared -> Prop
def frs (l : List Env) : List Addr := l.filterMap (·.frame)
abbrev Cx.fs (X : Cx) : List Addr := frs X.outer
def Vis (sc : Scope) (x : Str) : Prop := sc.names.lookup x = some .local \/ sc.names.lookup x = some .cell \/ sc.names.lookup x = some .free
def Loc (sc : Scope) (x : Str) : Prop := sc.names.lookup x = some .local \/ sc.names.lookup x = some .cell
def Look (env : Env) (h : Heap) (m : Str -> Option Value) (x : Str) (u : Value) : Prop :=
  (env.kindOf x = some .local /\ m x = some u) \/ ((env.kindOf x = some .cell \/ env.kindOf x = some .free) /\ ∃ c, env.cells.lookup x = some c /\ h.IsCell c (some u))
structure Cx.Ok (X : Cx) : Prop where
  mod : Mod X.K X.mg X.base
  kind : X.env.scope.kind = .function
  glob : X.env.globals = mainGlobals
  blt : X.env.builtins = builtinsNs
  above : X.s₀.heap.objs.size <= X.env.locals
  inj : ∀ x y c, X.env.cells.lookup x = some c -> X.env.cells.lookup y = some c -> x = y
  has : ∀ x, (X.env.kindOf x = some .cell \/ X.env.kindOf x = some .free) -> ∃ c, X.env.cells.lookup x = some c
  cab : ∀ x c, X.fn x = true -> X.env.cells.lookup x = some c -> X.s₀.heap.objs.size <= c
  hd : X.calm = true -> X.A.handled = none
  frames : X.A.frames = some X.stack
  stk : X.stack = X.outer \/ (X.stack = X.env :: X.outer /\ X.env.frame = some X.env.locals)
  exf : ∀ b ∈ X.ex, b ≠ X.env.locals /\ ∀ x c, X.env.cells.lookup x = some c -> c ≠ b
  bs : ∀ b o, X.base.get? b = some o -> X.s₀.heap.get? b = some o /\ X.H₀ b = none
  bsz : X.base.objs.size <= X.s₀.heap.objs.size
  noex : ∀ b o, X.base.get? b = some o -> b ∉ X.ex
  exfs : ∀ b ∈ X.ex, b ∉ X.fs
  funs : X.s₀.heap.FunFrames X.base X.outer
  frf : ∀ b ∈ X.fs, X.H₀ b = none
structure Inv (X : Cx) (pins : List (Addr × Obj)) (σ : List (Option V)) (H : Hp) (s : Shared) : Prop where
  ok : X.Ok
  os : s.os = X.s₀.os
  bare : AllBare s.gens
  base : Un X.fs X.ex X.H₀ H X.s₀.heap s.heap
  loc : ∃ m, s.heap.Ns X.env.locals m /\ ∀ (i : Nat) (x : Str) (v : V), X.N[i]? = some x -> σ[i]? = some (some v) -> Vis X.env.scope x -> ∃ u, RelV v u /\ Look X.env s.heap m x u
  cell : ∀ x c, X.env.cells.lookup x = some c -> ∃ v, s.heap.IsCell c v
  free : H X.env.locals = none
  freeC : ∀ x c, X.env.cells.lookup x = some c -> H c = none
  pin : ∀ p ∈ X.pn ++ pins, s.heap.get? p.1 = some p.2 /\ H p.1 = none /\ p.1 ≠ X.env.locals /\ p.1 ∉ X.fs /\ ∀ v, p.2.data ≠ .cell v
  hok : HOk X.prog X.w H s.heap
  len : σ.length = X.N.length
section
variable {X : Cx} {pins : List (Addr × Obj)} {σ : List (Option V)} {H H' : Hp} {s : Shared} {h' : Heap}
theorem Cx.Ok.nofr (ok : X.Ok) {b : Addr} {o : Obj} (e : X.base.get? b = some o) : b ∉ X.fs := fun hb => by
  have := (ok.funs.mem hb).1
  rw [e] at this; cases this
theorem Inv.bs (I : Inv X pins σ H s) : ∀ b o, X.base.get? b = some o -> s.heap.get? b = some o /\ H b = none := fun b o e =>
  ⟨I.base.keep b o (I.ok.bs b o e).1 (I.ok.bs b o e).2 (I.ok.nofr e) (I.ok.noex b o e), I.base.free b o (I.ok.bs b o e).1 (I.ok.bs b o e).2 (I.ok.noex b o e)⟩
theorem Inv.bk (I : Inv X pins σ H s) : ∀ b o, X.base.get? b = some o -> s.heap.get? b = some o := fun b o e => (I.bs b o e).1
theorem Inv.mod (I : Inv X pins σ H s) : Mod X.K X.mg X.base := I.ok.mod
theorem Inv.kIn (I : Inv X pins σ H s) : X.K.In s.heap := I.ok.mod.kin.keeps I.bk
theorem Inv.fr (I : Inv X pins σ H s) : ∃ m, Fr X.base X.env.locals s.heap m :=
  let ⟨m, hn, _⟩ := I.loc
  ⟨m, hn, I.bk, Nat.le_trans I.ok.bsz I.ok.above⟩
theorem Inv.lt (I : Inv X pins σ H s) : X.env.locals < s.heap.objs.size := let ⟨_, hn, _⟩ := I.loc; hn.lt
theorem Inv.sz (I : Inv X pins σ H s) : X.s₀.heap.objs.size <= s.heap.objs.size := Nat.le_trans I.ok.above (Nat.le_of_lt I.lt)
theorem Inv.nofs (I : Inv X pins σ H s) {a : Addr} (h : s.heap.objs.size <= a) : a ∉ X.fs := fun hb => by
  obtain ⟨_, o, ho, _⟩ := I.ok.funs.mem hb
  exact absurd (Nat.lt_of_lt_of_le (Heap.lt_size ho) (Nat.le_trans I.sz h)) (Nat.lt_irrefl _)
theorem Inv.cne (I : Inv X pins σ H s) : ∀ x c, X.env.cells.lookup x = some c -> c ≠ X.env.locals := fun x c e z => by
  obtain ⟨v, o, ho, hd⟩ := I.cell x c e
  obtain ⟨m, ⟨o', es, ep, ho', hd', _⟩, _⟩ := I.loc
  rw [z, ho'] at ho; cases ho; rw [hd'] at hd; cases hd
theorem Inv.funs (I : Inv X pins σ H s) : s.heap.FunFrames X.base X.outer := by
  have all : ∀ (l : List Env), (∀ b ∈ frs l, b ∈ X.fs) -> X.s₀.heap.FunFrames X.base l -> s.heap.FunFrames X.base l := by
    intro l
    induction l with
    | nil => intro _ _; trivial
    | cons env r ih =>
      intro hs hl
      obtain ⟨hk, ⟨L, o, hf, hn, ho, hd⟩, hr⟩ := hl
      have hL : L ∈ X.fs := hs L (by unfold frs; rw [List.filterMap_cons, hf]; exact List.mem_cons_self)
      obtain ⟨sl, e⟩ := I.base.slot L o ho (I.ok.frf L hL) hL fun z => I.ok.exfs L z hL
      exact ⟨hk, ⟨L, _, hf, hn, e, hd⟩, ih (fun b hb => hs b (by unfold frs; rw [List.filterMap_cons, hf]; exact List.mem_cons_of_mem _ hb)) hr⟩
  exact all X.outer (fun _ hb => hb) I.ok.funs
theorem Inv.stack (I : Inv X pins σ H s) : s.heap.FunFrames X.base X.stack := by
  rcases I.ok.stk with e | ⟨e, hf⟩
  . rw [e]; exact I.funs
  . rw [e]
    obtain ⟨m, hn, _⟩ := I.loc
    refine .cons (by rw [I.ok.kind]; decide) hf hn ?_ I.funs
    exact Heap.get?_none_of_le (Nat.le_trans I.ok.bsz I.ok.above)
theorem Inv.stkSub (I : Inv X pins σ H s) : ∀ b ∈ frs X.stack, b ∈ X.env.locals :: X.fs := fun b hb => by
  rcases I.ok.stk with e | ⟨e, hf⟩
  . rw [e] at hb; exact List.mem_cons_of_mem _ hb
  . rw [e] at hb
    unfold frs at hb
    rw [List.filterMap_cons, hf] at hb
    exact hb
theorem Inv.stkFree (I : Inv X pins σ H s) : ∀ b ∈ frs X.stack, H b = none := fun b hb => by
  rcases List.mem_cons.mp (I.stkSub b hb) with e | hb
  . rw [e]; exact I.free
  . obtain ⟨_, o, ho, _⟩ := I.ok.funs.mem hb
    exact I.base.free b o ho (I.ok.frf b hb) fun z => I.ok.exfs b z hb
theorem Inv.step {g' : Array GenState} {t' : Nat} {d' : Drawn} {ch : List Addr} (I : Inv X pins σ H s)
    (hch : ∀ b ∈ ch, (b ∈ X.ex \/ X.s₀.heap.objs.size <= b) /\ b ≠ X.env.locals /\ (∀ x c, X.env.cells.lookup x = some c -> c ≠ b) /\ ∀ p ∈ X.pn ++ pins, p.1 ≠ b)
    (keep : ∀ b o, b ≠ X.env.locals -> b ∉ X.fs -> b ∉ ch -> s.heap.get? b = some o -> H b = none -> h'.get? b = some o)
    (slot : ∀ b o, b ≠ X.env.locals -> b ∈ X.fs -> b ∉ ch -> s.heap.get? b = some o -> H b = none -> ∃ sl, h'.get? b = some { o with slots := sl }) (free : ∀ b o, b ∉ ch -> s.heap.get? b = some o -> H b = none -> H' b = none)
    (there : ∀ b o, b ∉ ch -> s.heap.get? b = some o -> ∃ o', h'.get? b = some o')
    (tups : ∀ b xs, H b = some (.tup xs) -> H' b = some (.tup xs)) (frzs : ∀ b o u, H b = some (.frz o u) -> H' b = some (.frz o u)) (tbls : ∀ b ps, H b = some (.tbl ps) -> ∃ more, H' b = some (.tbl (ps ++ more)))
    (ns : ∀ m, s.heap.Ns X.env.locals m -> h'.Ns X.env.locals m) (hok : HOk X.prog X.w H' h') (hg : AllBare g') :
    Inv X pins σ H' { s with heap := h', gens := g', drawn := d', toks := t' } := by
  have neL : ∀ b o, X.s₀.heap.get? b = some o -> b ≠ X.env.locals := fun b o e => Nat.ne_of_lt (Nat.lt_of_lt_of_le (Heap.lt_size e) I.ok.above)
  have neC : ∀ b o, X.s₀.heap.get? b = some o -> b ∉ X.ex -> b ∉ ch := fun b o e hx hb => by
    rcases (hch b hb).1 with z | z
    . exact hx z
    . exact absurd (Nat.lt_of_lt_of_le (Heap.lt_size e) z) (Nat.lt_irrefl _)
  have cellK : ∀ x c, X.env.cells.lookup x = some c -> ∀ v, s.heap.IsCell c v -> h'.IsCell c v := fun x c e v ⟨o, ho, hd⟩ => by
    have nch : c ∉ ch := fun z => (hch c z).2.2.1 x c e rfl
    by_cases hc : c ∈ X.fs
    . obtain ⟨sl, q⟩ := slot c o (I.cne x c e) hc nch ho (I.freeC x c e)
      exact ⟨_, q, hd⟩
    . exact ⟨o, keep c o (I.cne x c e) hc nch ho (I.freeC x c e), hd⟩
  refine ⟨I.ok, I.os, hg, ⟨fun b o e n hb hx => ?_, fun b o e n hb hx => ?_, fun b o e n hx => ?_, fun b o e hx => ?_, fun b xs e => tups b xs (I.base.tups b xs e), fun b o xs e => frzs b o xs (I.base.frzs b o xs e), fun b ps e => ?_⟩, ?_, fun x c e => ?_, ?_, fun x c e => ?_, fun p hp => ?_, hok, I.len⟩
  . exact keep b o (neL b o e) hb (neC b o e hx) (I.base.keep b o e n hb hx) (I.base.free b o e n hx)
  . obtain ⟨sl, e1⟩ := I.base.slot b o e n hb hx
    obtain ⟨sl', e2⟩ := slot b _ (neL b o e) hb (neC b o e hx) e1 (I.base.free b o e n hx)
    exact ⟨sl', e2⟩
  . obtain ⟨o', e1⟩ := I.base.there b o e hx
    exact free b o' (neC b o e hx) e1 (I.base.free b o e n hx)
  . obtain ⟨o', e1⟩ := I.base.there b o e hx
    exact there b o' (neC b o e hx) e1
  . obtain ⟨m1, e1⟩ := I.base.tbls b ps e
    obtain ⟨m2, e2⟩ := tbls b _ e1
    exact ⟨m1 ++ m2, by rw [e2, Array.append_assoc]⟩
  . obtain ⟨m, hn, hl⟩ := I.loc
    refine ⟨m, ns m hn, fun i x v e1 e2 e3 => ?_⟩
    obtain ⟨u, r, l⟩ := hl i x v e1 e2 e3
    refine ⟨u, r, ?_⟩
    rcases l with l | ⟨k, c, e, z⟩
    . exact .inl l
    . exact .inr ⟨k, c, e, cellK x c e _ z⟩
  . obtain ⟨v, z⟩ := I.cell x c e
    exact ⟨v, cellK x c e v z⟩
  . obtain ⟨m, ⟨o, _, _, ho, _⟩, _⟩ := I.loc
    exact free _ o (fun z => (hch _ z).2.1 rfl) ho I.free
  . obtain ⟨v, o, ho, hd⟩ := I.cell x c e
    exact free c o (fun z => (hch c z).2.2.1 x c e rfl) ho (I.freeC x c e)
  . obtain ⟨e, n, ne, nf, d⟩ := I.pin p hp
    have nch : p.1 ∉ ch := fun z => (hch p.1 z).2.2.2 p hp rfl
    exact ⟨keep p.1 p.2 ne nf nch e n, free p.1 p.2 nch e n, ne, nf, d⟩
theorem Inv.un {t' : Nat} (I : Inv X pins σ H s) (u : Un X.fs [] H H' s.heap h') (hok : HOk X.prog X.w H' h') : Inv X pins σ H' { s with heap := h', toks := t' } := by
  obtain ⟨m, ⟨o, es, ep, ho, r⟩, _⟩ := id I.loc
  obtain ⟨sl, hL⟩ := u.any ho I.free (by simp)
  exact I.step (g' := s.gens) (d' := s.drawn) (ch := []) (fun _ z => nomatch z) (fun b o _ hb _ e n => u.keep b o e n hb (by simp)) (fun b o _ hb _ e n => u.slot b o e n hb (by simp)) (fun b o _ e n => u.free b o e n (by simp)) (fun b o _ e => u.there b o e (by simp)) u.tups u.frzs u.tbls (fun m' hm => by
    obtain ⟨o', es', ep', ho', r'⟩ := hm
    rw [ho] at ho'; cases ho'
    exact ⟨_, es', ep', hL, r'⟩) hok I.bare
theorem Inv.call {g' : Array GenState} {t' : Nat} {d' : Drawn} {ch : List Addr} (I : Inv X pins σ H s) (u : Un (frs X.stack) ch H H' s.heap h') (hok : HOk X.prog X.w H' h') (hg : AllBare g')
    (hch : ∀ b ∈ ch, (b ∈ X.ex \/ X.s₀.heap.objs.size <= b) /\ b ≠ X.env.locals /\ (∀ x c, X.env.cells.lookup x = some c -> c ≠ b) /\ ∀ p ∈ X.pn ++ pins, p.1 ≠ b) :
    Inv X pins σ H' { s with heap := h', gens := g', drawn := d', toks := t' } := by
  obtain ⟨m, ⟨o, es, ep, ho, r⟩, _⟩ := id I.loc
  obtain ⟨sl, hL⟩ := u.any ho I.free fun z => (hch _ z).2.1 rfl
  exact I.step (ch := ch) hch (fun b o hL hb hc e n => u.keep b o e n (fun z => (List.mem_cons.mp (I.stkSub b z)).elim hL hb) hc) (fun b o _ _ hc e n => u.any e n hc) (fun b o hc e n => u.free b o e n hc) (fun b o hc e => u.there b o e hc) u.tups u.frzs u.tbls (fun m' hm => by
    obtain ⟨o', es', ep', ho', r'⟩ := hm
    rw [ho] at ho'; cases ho'
    exact ⟨_, es', ep', hL, r'⟩) hok hg
theorem Inv.turned {t' : Nat} {it : Addr} (I : Inv X pins σ H s) (k : ∀ b o, b ≠ it -> s.heap.get? b = some o -> h'.get? b = some o) (hn : H it = none) (hL : it ≠ X.env.locals)
    (h1 : it ∈ X.ex \/ X.s₀.heap.objs.size <= it) (h2 : ∀ x c, X.env.cells.lookup x = some c -> c ≠ it) (h3 : ∀ p ∈ X.pn ++ pins, p.1 ≠ it) : Inv X pins σ H { s with heap := h', toks := t' } := by
  have nit : ∀ b u, H b = some u -> b ≠ it := fun b u e z => by rw [z, hn] at e; cases e
  refine I.step (g' := s.gens) (d' := s.drawn) (ch := [it]) (fun b hb => ?_) (fun b o _ _ hc e _ => k b o (fun z => hc (by simp [z])) e) (fun b o _ _ hc e _ => ⟨o.slots, k b o (fun z => hc (by simp [z])) e⟩) (fun _ _ _ _ n => n)
    (fun b o hc e => ⟨o, k b o (fun z => hc (by simp [z])) e⟩) (fun _ _ e => e) (fun _ _ _ e => e) (fun b ps e => ⟨#[], by rw [e]; simp⟩) (fun m hm => ?_) (fun b u e => ?_) I.bare
  . have e : b = it := by simpa using hb
    subst e
    exact ⟨h1, hL, h2, h3⟩
  . obtain ⟨o, es, ep, ho, r⟩ := hm
    exact ⟨o, es, ep, k _ o (Ne.symm hL) ho, r⟩
  . refine (I.hok b u e).stay (fun c v hc q => k c v ?_ q) (fun _ q => q) fun _ _ q => q
    rcases hc with z | z
    . rw [z]; exact nit b u e
    . exact nit c _ z
theorem Inv.tok (I : Inv X pins σ H s) (t : Nat) : Inv X pins σ H { s with toks := t } := I.un (h' := s.heap) (t' := t) Un.refl I.hok
theorem Inv.kept {t' : Nat} (I : Inv X pins σ H s) (k : ∀ b u, s.heap.get? b = some u -> h'.get? b = some u) : Inv X pins σ H { s with heap := h', toks := t' } := I.un (Un.kept k) (I.hok.kept k)
theorem Inv.laid {a : Addr} {o : HO} {t' : Nat} (I : Inv X pins σ H s) (k : ∀ b u, s.heap.get? b = some u -> h'.get? b = some u) (hp : s.heap.objs.size <= a) (new : ObjOk X.prog X.w (upd H a o) h' a o) :
    Inv X pins σ (upd H a o) { s with heap := h', toks := t' } := I.un (Un.laid k hp (I.hok.fresh hp)) (I.hok.laid k hp new)
theorem Inv.write {x e : Addr} {o : HO} {t' : Nat} (I : Inv X pins σ H s) (mu : Mut (H x)) (he : e = x \/ H e = some (.own x)) (k : ∀ b u, b ≠ e -> s.heap.get? b = some u -> h'.get? b = some u) (heo : ∃ u, h'.get? e = some u)
    (new : ObjOk X.prog X.w (upd H x o) h' x o) : Inv X pins σ (upd H x o) { s with heap := h', toks := t' } := I.un (Un.write mu he k heo) (I.hok.write mu he k heo new)
theorem Inv.weak {σ' : List (Option V)} (I : Inv X pins σ H s) (hl : σ'.length = σ.length) (w : ∀ (i : Nat) v, σ'[i]? = some (some v) -> σ[i]? = some (some v)) : Inv X pins σ' H s :=
  ⟨I.ok, I.os, I.bare, I.base, let ⟨m, hn, hl'⟩ := I.loc; ⟨m, hn, fun i x v e1 e2 e3 => hl' i x v e1 (w i v e2) e3⟩, I.cell, I.free, I.freeC, I.pin, I.hok, hl.trans I.len⟩
theorem Inv.pins_of {pins' : List (Addr × Obj)} (I : Inv X pins σ H s) (h : ∀ p ∈ pins', s.heap.get? p.1 = some p.2 /\ H p.1 = none /\ p.1 ≠ X.env.locals /\ p.1 ∉ X.fs /\ ∀ v, p.2.data ≠ .cell v) : Inv X pins' σ H s :=
  ⟨I.ok, I.os, I.bare, I.base, I.loc, I.cell, I.free, I.freeC, fun p hp => (List.mem_append.mp hp).elim (fun z => I.pin p (List.mem_append_left _ z)) (h p), I.hok, I.len⟩
theorem nodup_ix {N : List Str} (hN : N.Nodup) {i j : Nat} {x : Str} (a : N[i]? = some x) (b : N[j]? = some x) : i = j := by
  obtain ⟨h1, e1⟩ := List.getElem?_eq_some_iff.mp a
  obtain ⟨h2, e2⟩ := List.getElem?_eq_some_iff.mp b
  exact (List.getElem_inj hN).mp (e1.trans e2.symm)
theorem store_ok2 {M : Model} {A : Around} {E : Value -> Shared -> Prop} {i : Nat} {x : Str} {v : V} {u : Value} {Q : Unit -> Shared -> Prop} (I : Inv X pins σ H s) (hN : X.N.Nodup) (hi : X.N[i]? = some x) (hx : Loc X.env.scope x) (r : RelV v u)
    (h : ∀ s', Inv X pins (σ.set i (some v)) H s' -> (∃ a, Heap.SameBut a s.heap s'.heap /\ (a = X.env.locals \/ X.env.cells.lookup x = some a)) -> Q () s') (hf : X.fn x = true \/ X.env.scope.names.lookup x = some .local := by first | exact .inl rfl | exact .inr rfl | assumption) : wpAny M A (storeName X.env x u) Q E s := by
  obtain ⟨m, hn, hl⟩ := id I.loc
  have hcls : (X.env.scope.kind == .class || (X.env.scope.kind == .module && X.env.locals != X.env.globals)) = false := by rw [I.ok.kind]; rfl
  have hiσ : i < σ.length := by rw [I.len]; exact (List.getElem?_eq_some_iff.mp hi).1
  have cne := I.cne
  have tracked : ∀ {a : Addr} {h' : Heap}, (∃ o, s.heap.get? a = some o /\ H a = none) -> Heap.SameBut a s.heap h' -> HOk X.prog X.w H h' := fun {a h'} ha hs b ob e => by
    obtain ⟨_, _, hfree⟩ := ha
    refine (I.hok b ob e).stay (fun c w' hc q => (hs.2 c ?_).trans q) (fun _ q => q) fun _ _ q => q
    rintro rfl
    rcases hc with rfl | hc
    . rw [hfree] at e; cases e
    . rw [hfree] at hc; cases hc
  rcases hx with hk | hk
  . refine wpAny_storeName_local hk hn (fun h' hn' hs => ?_) hcls
    obtain ⟨oL, _, _, hoL, _⟩ := id hn
    refine h _ ⟨I.ok, I.os, I.bare, ⟨fun b o e n hb hx => ?_, fun b o e n hb hx => ?_, I.base.free, fun b o e hx => ?_, I.base.tups, I.base.frzs, I.base.tbls⟩, ⟨_, hn', fun j y v' e1 e2 e3 => ?_⟩, fun y c e => ?_, I.free, I.freeC, fun p hp => ?_, tracked ⟨oL, hoL, I.free⟩ hs, by simpa using I.len⟩ ⟨_, hs, .inl rfl⟩
    . exact (hs.2 b (Nat.ne_of_lt (Nat.lt_of_lt_of_le (Heap.lt_size e) I.ok.above))).trans (I.base.keep b o e n hb hx)
    . obtain ⟨sl, e1⟩ := I.base.slot b o e n hb hx
      exact ⟨sl, (hs.2 b (Nat.ne_of_lt (Nat.lt_of_lt_of_le (Heap.lt_size e) I.ok.above))).trans e1⟩
    . obtain ⟨o', e1⟩ := I.base.there b o e hx
      exact ⟨o', (hs.2 b (Nat.ne_of_lt (Nat.lt_of_lt_of_le (Heap.lt_size e) I.ok.above))).trans e1⟩
    . by_cases hj : j = i
      . subst hj
        rw [hi] at e1; cases e1
        rw [List.getElem?_set_self hiσ] at e2
        cases e2
        exact ⟨u, r, .inl ⟨hk, by simp⟩⟩
      . rw [List.getElem?_set_ne (Ne.symm hj)] at e2
        obtain ⟨u', r', q⟩ := hl j y v' e1 e2 e3
        refine ⟨u', r', ?_⟩
        rcases q with ⟨k, e⟩ | ⟨k, c, e, z⟩
        . refine .inl ⟨k, ?_⟩
          have : y ≠ x := fun e => hj (nodup_ix hN e1 (e ▸ hi))
          simp [this, e]
        . exact .inr ⟨k, c, e, z.sameBut hs (cne y c e)⟩
    . obtain ⟨w', z⟩ := I.cell y c e
      exact ⟨w', z.sameBut hs (cne y c e)⟩
    . obtain ⟨e, n, ne, nf, d⟩ := I.pin p hp
      exact ⟨(hs.2 p.1 ne).trans e, n, ne, nf, d⟩
  . have hfn : X.fn x = true := by
      rcases hf with z | z
      . exact z
      . rw [z] at hk; cases hk
    obtain ⟨c, hc⟩ := I.ok.has x (.inl hk)
    obtain ⟨w', z⟩ := I.cell x c hc
    refine wpAny_storeName_cell I.ok.kind hk hc z (fun h' hc' hs => ?_)
    obtain ⟨oc, hoc, hocd⟩ := id z
    refine h { s with heap := h' } ⟨I.ok, I.os, I.bare, ⟨fun b o e n hb hx => ?_, fun b o e n hb hx => ?_, I.base.free, fun b o e hx => ?_, I.base.tups, I.base.frzs, I.base.tbls⟩, ⟨m, hn.sameBut hs (Ne.symm (cne x c hc)), fun j y v' e1 e2 e3 => ?_⟩, fun y c' e => ?_, I.free, I.freeC, fun p hp => ?_, tracked ⟨oc, hoc, I.freeC x c hc⟩ hs, by simpa using I.len⟩ ⟨c, hs, .inr hc⟩
    . exact (hs.2 b (Nat.ne_of_lt (Nat.lt_of_lt_of_le (Heap.lt_size e) (I.ok.cab x c hfn hc)))).trans (I.base.keep b o e n hb hx)
    . obtain ⟨sl, e1⟩ := I.base.slot b o e n hb hx
      exact ⟨sl, (hs.2 b (Nat.ne_of_lt (Nat.lt_of_lt_of_le (Heap.lt_size e) (I.ok.cab x c hfn hc)))).trans e1⟩
    . obtain ⟨o', e1⟩ := I.base.there b o e hx
      exact ⟨o', (hs.2 b (Nat.ne_of_lt (Nat.lt_of_lt_of_le (Heap.lt_size e) (I.ok.cab x c hfn hc)))).trans e1⟩
    . by_cases hj : j = i
      . subst hj
        rw [hi] at e1; cases e1
        rw [List.getElem?_set_self hiσ] at e2
        cases e2
        exact ⟨u, r, .inr ⟨.inl hk, c, hc, hc'⟩⟩
      . rw [List.getElem?_set_ne (Ne.symm hj)] at e2
        obtain ⟨u', r', q⟩ := hl j y v' e1 e2 e3
        refine ⟨u', r', ?_⟩
        rcases q with q | ⟨k, c', e, z'⟩
        . exact .inl q
        . refine .inr ⟨k, c', e, z'.sameBut hs ?_⟩
          rintro rfl
          exact hj (nodup_ix hN e1 (I.ok.inj _ _ _ e hc ▸ hi))
    . by_cases hcc : c' = c
      . subst hcc; exact ⟨_, hc'⟩
      . obtain ⟨w2, z2⟩ := I.cell y c' e
        exact ⟨w2, z2.sameBut hs hcc⟩
    . obtain ⟨e, n, ne, nf, d⟩ := I.pin p hp
      refine ⟨(hs.2 p.1 ?_).trans e, n, ne, nf, d⟩
      intro q
      rw [q, hoc] at e
      have q' : oc = p.2 := Option.some.inj e
      exact d w' (by rw [<- q']; exact hocd)
theorem store_ok {M : Model} {A : Around} {E : Value -> Shared -> Prop} {i : Nat} {x : Str} {v : V} {u : Value} {Q : Unit -> Shared -> Prop} (I : Inv X pins σ H s) (hN : X.N.Nodup) (hi : X.N[i]? = some x) (hx : Loc X.env.scope x) (r : RelV v u)
    (h : ∀ s', Inv X pins (σ.set i (some v)) H s' -> Q () s') (hf : X.fn x = true \/ X.env.scope.names.lookup x = some .local := by first | exact .inl rfl | exact .inr rfl | assumption) : wpAny M A (storeName X.env x u) Q E s :=
  store_ok2 I hN hi hx r (fun s' I' _ => h s' I') hf
theorem Inv.call' {s' : Shared} {ch : List Addr} (I : Inv X pins σ H s) (ho : s'.os = s.os) (u : Un (frs X.stack) ch H H' s.heap s'.heap) (hok : HOk X.prog X.w H' s'.heap) (hg : AllBare s'.gens)
    (hch : ∀ b ∈ ch, (b ∈ X.ex \/ X.s₀.heap.objs.size <= b) /\ b ≠ X.env.locals /\ (∀ x c, X.env.cells.lookup x = some c -> c ≠ b) /\ ∀ p ∈ X.pn ++ pins, p.1 ≠ b) : Inv X pins σ H' s' := by
  obtain ⟨h', g', d', t', o'⟩ := s'
  have e : o' = s.os := ho
  subst e
  exact I.call (g' := g') (t' := t') (d' := d') u hok hg hch
end
abbrev XK := Value -> Option Addr -> Hp -> Prop
abbrev St := List (Option V)
abbrev VK := V -> Hp -> Prop
abbrev TE := St -> Hp -> VK -> Prop
abbrev TT := St -> Hp -> (Bool -> Hp -> Prop) -> Prop
abbrev TA := St -> Hp -> (List V -> Hp -> Prop) -> Prop
structure Ends where
  nx : St -> Hp -> Prop
  rt : VK
  bk : St -> Hp -> Prop := fun _ _ => False
  ct : St -> Hp -> Prop := fun _ _ => False
abbrev TS := Ends -> St -> Hp -> Prop
def EP (X : Cx) (pins : List (Addr × Obj)) (σ : St) (Q : VK) (u : Value) (s' : Shared) : Prop := ∃ v H', Inv X pins σ H' s' /\ RelV v u /\ Q v H'
def TP (X : Cx) (pins : List (Addr × Obj)) (σ : St) (Q : Bool -> Hp -> Prop) (b : Bool) (s' : Shared) : Prop := ∃ H', Inv X pins σ H' s' /\ Q b H'
def AP (X : Cx) (pins : List (Addr × Obj)) (σ : St) (Q : List V -> Hp -> Prop) (us : List Value) (s' : Shared) : Prop := ∃ vs H', Inv X pins σ H' s' /\ Vals vs us /\ Q vs H'
def SP (X : Cx) (pins : List (Addr × Obj)) (D : Ends) (f : Flow) (s' : Shared) : Prop :=
  match f with
  | .next => ∃ σ' H', Inv X pins σ' H' s' /\ D.nx σ' H'
  | .brk => ∃ σ' H', Inv X pins σ' H' s' /\ D.bk σ' H'
  | .cont => ∃ σ' H', Inv X pins σ' H' s' /\ D.ct σ' H'
  | .ret u => ∃ v σ' H', Inv X pins σ' H' s' /\ RelV v u /\ D.rt v H'
def PE (X : Cx) (e : Expr) (t : TE) : Prop :=
  ∀ (pins : List (Addr × Obj)) (s : Shared) (σ : St) (H : Hp) (Q : VK), Inv X pins σ H s -> t σ H Q -> wpAny (model X.prog X.w) X.A (eval e X.env) (EP X pins σ Q) X.xe s
def PT (X : Cx) (e : Expr) (t : TT) : Prop :=
  ∀ (pins : List (Addr × Obj)) (s : Shared) (σ : St) (H : Hp) (Q : Bool -> Hp -> Prop), Inv X pins σ H s -> t σ H Q -> wpAny (model X.prog X.w) X.A (isTrue e X.env (eval e X.env)) (TP X pins σ Q) X.xe s
def PW (X : Cx) (e : Expr) (t : TT) : Prop :=
  ∀ (whole : Sem Value) (pins : List (Addr × Obj)) (s : Shared) (σ : St) (H : Hp) (Q : Bool -> Hp -> Prop), Inv X pins σ H s -> t σ H Q -> wpAny (model X.prog X.w) X.A (isTrue e X.env whole) (TP X pins σ Q) X.xe s
theorem PW.pt {X : Cx} {e : Expr} {t : TT} (h : PW X e t) : PT X e t := h _
def PA (X : Cx) (es : List Expr) (t : TA) : Prop :=
  ∀ (pos : Pos) (pins : List (Addr × Obj)) (s : Shared) (σ : St) (H : Hp) (Q : List V -> Hp -> Prop), Inv X pins σ H s -> t σ H Q -> wpAny (model X.prog X.w) X.A (spliced (backTo pos (starEach es X.env))) (AP X pins σ Q) X.xe s
def PS (X : Cx) (st : Stmt) (t : TS) : Prop :=
  ∀ (pins : List (Addr × Obj)) (s : Shared) (σ : St) (H : Hp) (D : Ends), Inv X pins σ H s -> t D σ H -> wpAny (model X.prog X.w) X.A (exec st X.env) (SP X pins D) X.xe s
def PSs (X : Cx) (st : List Stmt) (t : TS) : Prop :=
  ∀ (pins : List (Addr × Obj)) (s : Shared) (σ : St) (H : Hp) (D : Ends), Inv X pins σ H s -> t D σ H -> wpAny (model X.prog X.w) X.A (execs st X.env) (SP X pins D) X.xe s
theorem thn {α : Type} {t : Sem α} {Q Q' : α -> Shared -> Prop} {M : Model} {A : Around} {E : Value -> Shared -> Prop} {s : Shared} (h : wpAny M A t Q E s) (hQ : ∀ a s, Q a s -> Q' a s) : wpAny M A t Q' E s := wpAny_mono h hQ fun _ _ x => x
section
variable {X : Cx}
def tVar (i : Nat) : TE := fun σ H Q => ∃ v, σ[i]? = some (some v) /\ Q v H
def tC (v : V) : TE := fun _ H Q => Q v H
theorem pe_var {i : Nat} {x : Str} {pos : Pos} (hN : X.N[i]? = some x) (hv : Vis X.env.scope x) (hd : (x == ("__debug__" : Str)) = false := by decide) (hcd : (x == ("__classdict__" : Str)) = false := by decide) : PE X (.Name x pos) (tVar i) := by
  intro pins s σ H Q I h
  obtain ⟨v, e, h⟩ := h
  obtain ⟨m, hn, hl⟩ := I.loc
  obtain ⟨u, r, l⟩ := hl i x v hN e hv
  have fin : EP X pins σ Q u s := ⟨v, H, I, r, h⟩
  rcases l with ⟨hk, hm⟩ | ⟨hk, c, hc, hcell⟩
  . exact wpAny_Name (wpAny_loadName_local I.ok.kind hk hn hm fin) hd
  . rcases hk with hk | hk
    . exact wpAny_Name (wpAny_loadName_cell I.ok.kind hk hc hcell fin) hd
    . exact wpAny_Name (wpAny_loadName_free I.ok.kind hk hc hcell fin hcd) hd
theorem pe_int {i j pos} : PE X (.Constant (.int i) j pos) (tC (.int i)) := fun _ _ _ H _ I h => wpAny_Constant_int ⟨.int i, H, I.tok _, ⟨_, rfl⟩, h⟩
theorem pe_bl {b j pos} : PE X (.Constant (.bool b) j pos) (tC (.bl b)) := fun _ _ _ H _ I h => Constant_bool ⟨.bl b, H, I, rfl, h⟩
theorem pe_non {j pos} : PE X (.Constant .none j pos) (tC .non) := fun _ _ _ H _ I h => Constant_none ⟨.non, H, I, rfl, h⟩
def Gl (X : Cx) (x : Str) : Prop := X.env.kindOf x = some .globalImplicit
theorem ld_glob {E : Value -> Shared -> Prop} {pins : List (Addr × Obj)} {s : Shared} {σ : St} {H : Hp} {x : Str} {u : Value} {pos : Pos} {Q : Value -> Shared -> Prop} (I : Inv X pins σ H s) (hg : Gl X x) (hm : X.mg x = some u) (h : Q u s)
    (hd : (x == ("__debug__" : Str)) = false := by decide) : wpAny (model X.prog X.w) X.A (eval (.Name x pos) X.env) Q E s :=
  Calls.Name_function_global I.ok.kind hg (Calls.loadGlobal_global (by rw [I.ok.glob]; exact I.mod.glob.keeps I.bk) hm h) hd
theorem ld_blt {E : Value -> Shared -> Prop} {pins : List (Addr × Obj)} {s : Shared} {σ : St} {H : Hp} {x : Str} {u : Value} {pos : Pos} {Q : Value -> Shared -> Prop} (I : Inv X pins σ H s) (hg : Gl X x) (hm : X.mg x = none) (hv : bootBuiltins x = some u) (h : Q u s)
    (hn : x ≠ "__name__" := by decide) (hd : (x == ("__debug__" : Str)) = false := by decide) : wpAny (model X.prog X.w) X.A (eval (.Name x pos) X.env) Q E s := by
  obtain ⟨mb, h1, h2⟩ := I.mod.blt
  exact Calls.Name_function_global I.ok.kind hg (Calls.loadGlobal_builtin (by rw [I.ok.glob]; exact I.mod.glob.keeps I.bk) hm (by rw [I.ok.blt]; exact h1.keeps I.bk) ((h2 x hn).trans hv) h) hd
variable {a b : Expr} {ta tb : TE} {pos : Pos}
theorem nobehind (b : Expr) {op : CmpOp} (h : op ≠ .In) (h2 : op ≠ .NotIn) : behindInMarks op b = false := by
  have e1 : (op == CmpOp.In) = false := by cases op <;> first | rfl | exact absurd rfl h
  have e2 : (op == CmpOp.NotIn) = false := by cases op <;> first | rfl | exact absurd rfl h2
  cases b <;> simp [behindInMarks, e1, e2]
variable {tA tB' : TT} {rest : List Expr}
def tAnd (t u : TT) : TT := fun σ H Q => t σ H fun c H1 => if c = true then u σ H1 Q else Q false H1
def tOr (t u : TT) : TT := fun σ H Q => t σ H fun c H1 => if c = true then Q true H1 else u σ H1 Q
def tNot (t : TT) : TT := fun σ H Q => t σ H fun c H1 => Q (!c) H1
theorem pw_and1 (ha : PT X a tA) : PW X (.BoolOp .And [a] pos) tA := by
  intro wh pins s σ H Q I h
  refine isTrue_and (thn (ha pins s σ H Q I h) fun c s1 e => ?_)
  cases c with
  | true => exact isTrue_and_nil e
  | false => exact e
theorem pw_or1 (ha : PT X a tA) : PW X (.BoolOp .Or [a] pos) tA := by
  intro wh pins s σ H Q I h
  refine isTrue_or (thn (ha pins s σ H Q I h) fun c s1 e => ?_)
  cases c with
  | false => exact isTrue_or_nil e
  | true => exact e
theorem pw_and (ha : PT X a tA) (hb : PW X (.BoolOp .And (b :: rest) pos) tB') : PW X (.BoolOp .And (a :: b :: rest) pos) (tAnd tA tB') := by
  intro wh pins s σ H Q I h
  refine isTrue_and (thn (ha pins s σ H _ I h) fun c s1 ⟨H1, I1, q1⟩ => ?_)
  cases c with
  | true => exact hb wh pins s1 σ H1 Q I1 q1
  | false => exact ⟨H1, I1, q1⟩
theorem pw_or (ha : PT X a tA) (hb : PW X (.BoolOp .Or (b :: rest) pos) tB') : PW X (.BoolOp .Or (a :: b :: rest) pos) (tOr tA tB') := by
  intro wh pins s σ H Q I h
  refine isTrue_or (thn (ha pins s σ H _ I h) fun c s1 ⟨H1, I1, q1⟩ => ?_)
  cases c with
  | true => exact ⟨H1, I1, q1⟩
  | false => exact hb wh pins s1 σ H1 Q I1 q1
theorem pt_not (ha : PT X a tA) : PT X (.UnaryOp .Not a pos) (tNot tA) := by
  intro pins s σ H Q I h
  exact isTrue_not (ha pins s σ H (fun c H1 => Q (!c) H1) I h)
def tAndV (ta tb : TE) : TE := fun σ H Q => ta σ H fun x H1 => ∃ c, x = .bl c /\ if c = true then tb σ H1 Q else Q (.bl false) H1
def tNotV (ta : TE) : TE := fun σ H Q => ta σ H fun x H1 => ∃ c, x = .bl c /\ Q (.bl (!c)) H1
theorem pe_one {op} {t : TE} (h : PE X a t) : PE X (.BoolOp op [a] pos) t := fun pins s σ H Q I hw => BoolOp_one (h pins s σ H Q I hw)
theorem pe_and (ha : PE X a ta) (hb : PE X (.BoolOp .And (b :: rest) pos) tb) : PE X (.BoolOp .And (a :: b :: rest) pos) (tAndV ta tb) := by
  intro pins s σ H Q I h
  refine BoolOp_and (thn (ha pins s σ H _ I h) fun v s1 ⟨x, H1, I1, r1, q1⟩ => ?_)
  obtain ⟨c, rfl, q1⟩ := q1
  cases r1
  refine wpAny_truthy_bool ?_
  cases c with
  | true => exact hb pins s1 σ H1 Q I1 q1
  | false => exact ⟨.bl false, H1, I1, rfl, q1⟩
theorem pe_not (ha : PE X a ta) : PE X (.UnaryOp .Not a pos) (tNotV ta) := by
  intro pins s σ H Q I h
  refine UnaryOp_ (thn (ha pins s σ H _ I h) fun v s1 ⟨x, H1, I1, r1, q1⟩ => ?_)
  obtain ⟨c, rfl, q1⟩ := q1
  cases r1
  exact not_of (wpAny_truthy_bool ⟨.bl (!c), H1, I1, rfl, q1⟩)
def tIf (t : TT) (ta tb : TE) : TE := fun σ H Q => t σ H fun c H1 => if c = true then ta σ H1 Q else tb σ H1 Q
theorem pe_ifExp {c : Expr} (hc : PT X c tA) (ha : PE X a ta) (hb : PE X b tb) : PE X (.IfExp c a b pos) (tIf tA ta tb) := by
  intro pins s σ H Q I h
  refine wpAny_IfExp (thn (hc pins s σ H _ I h) fun d s1 ⟨H1, I1, q1⟩ => ?_)
  cases d with
  | true => exact ha pins s1 σ H1 Q I1 q1
  | false => exact hb pins s1 σ H1 Q I1 q1
end
def SqL (K : PySem.W.Frag) (H : Hp) (a : Addr) (xs : List V) : Prop :=
  Rd H a (.lst xs) \/
    ∃ (o : Obj) (its : Array Value) (n : Nat), K.lookup a = some o /\ o.cls = .type "list" /\ o.dict = none /\ o.data = .seq its n /\ its.size <= sizeLine /\ Vals xs its.toList
def SqT (K : PySem.W.Frag) (H : Hp) (a : Addr) (xs : List V) : Prop :=
  Rd H a (.tup xs) \/
    ∃ (o : Obj) (its : Array Value) (n : Nat), K.lookup a = some o /\ o.cls = .type "tuple" /\ o.dict = none /\ o.data = .seq its n /\ its.size <= sizeLine /\ Vals xs its.toList
def absV : Value -> Option V
  | .none => some .non
  | .bool b => some (.bl b)
  | .int i _ => some (.int i)
  | .str x _ => some (.str x)
  | .bytes b _ => some (.byt b)
  | .float b _ => some (.flt b)
  | .ref a => some (.ref a)
  | .type n => some (.ty n)
  | _ => none
theorem RelV.abs {x : V} {u : Value} (r : RelV x u) : absV u = some x := by
  cases x with
  | non => cases r; rfl
  | bl _ => cases r; rfl
  | int _ => obtain ⟨t, rfl⟩ := r; rfl
  | str _ => obtain ⟨t, rfl⟩ := r; rfl
  | byt _ => obtain ⟨t, rfl⟩ := r; rfl
  | flt _ => obtain ⟨t, rfl⟩ := r; rfl
  | ref _ => cases r; rfl
  | ty _ => cases r; rfl
theorem RelV.inj {x y : V} {u : Value} (r : RelV x u) (q : RelV y u) : x = y := Option.some.inj (r.abs.symm.trans q.abs)
theorem Vals.inj : ∀ {xs ys : List V} {us : List Value}, Vals xs us -> Vals ys us -> xs = ys
  | _, _, _, .nil, .nil => rfl
  | _, _, _, .cons r t, .cons r' t' => by rw [r.inj r', Vals.inj t t']
section
variable {X : Cx} {pins : List (Addr × Obj)} {σ : St} {H : Hp} {s : Shared} {a : Addr} {xs ys : List V}
theorem SqL.of {K : PySem.W.Frag} (h : H a = some (.lst xs)) : SqL K H a xs := .inl (.inl h)
theorem SqT.of {K : PySem.W.Frag} (h : H a = some (.tup xs)) : SqT K H a xs := .inl (.inl h)
theorem Inv.list (I : Inv X pins σ H s) (h : SqL X.K H a xs) : ∃ its : List Value, Vals xs its /\ PlainL s.heap a its.toArray /\ xs.length <= sizeLine := by
  rcases h with h | ⟨o, its, n, hk, hc, hd, hs, hz, r⟩
  . obtain ⟨z, its, n, r, e⟩ := h.ok I.hok
    exact ⟨its, r, ⟨_, n, e, rfl, rfl, rfl⟩, z⟩
  . refine ⟨its.toList, r, ⟨o, n, I.kIn a o hk, hc, hd, by simpa using hs⟩, ?_⟩
    have e := r.length
    simp only [Array.length_toList] at e
    omega
theorem Inv.tuple (I : Inv X pins σ H s) (h : SqT X.K H a xs) : ∃ its : List Value, Vals xs its /\ IsTup s.heap a its.toArray /\ xs.length <= sizeLine := by
  rcases h with h | ⟨o, its, n, hk, hc, hdd, hs, hz, r⟩
  . obtain ⟨z, its, r, p⟩ := h.ok I.hok
    exact ⟨its, r, p.tup, z⟩
  . refine ⟨its.toList, r, ⟨o, I.kIn a o hk, hc, n, by simpa using hs⟩, ?_⟩
    have e := r.length
    simp only [Array.length_toList] at e
    omega
theorem Inv.tupleN (I : Inv X pins σ H s) (h : SqT X.K H a xs) : ∃ its : List Value, Vals xs its /\ IsTupN s.heap a its.toArray /\ xs.length <= sizeLine := by
  rcases h with h | ⟨o, its, n, hk, hc, hdd, hs, hz, r⟩
  . obtain ⟨z, its, r, p⟩ := h.ok I.hok
    exact ⟨its, r, p, z⟩
  . refine ⟨its.toList, r, ⟨o, I.kIn a o hk, hc, ⟨n, by simpa using hs⟩, hdd⟩, ?_⟩
    have e := r.length
    simp only [Array.length_toList] at e
    omega
theorem Inv.list_inj (I : Inv X pins σ H s) (h : SqL X.K H a xs) (h' : SqL X.K H a ys) : xs = ys := by
  obtain ⟨its, r, ⟨o, n, e, _, _, d⟩, _⟩ := I.list h
  obtain ⟨its', r', ⟨o', n', e', _, _, d'⟩, _⟩ := I.list h'
  rw [e] at e'; cases e'
  rw [d] at d'
  injection d' with d1 _
  have : its = its' := by simpa using congrArg Array.toList d1
  subst this
  exact r.inj r'
theorem Inv.tuple_inj (I : Inv X pins σ H s) (h : SqT X.K H a xs) (h' : SqT X.K H a ys) : xs = ys := by
  obtain ⟨its, r, ⟨o, e, _, n, d⟩, _⟩ := I.tuple h
  obtain ⟨its', r', ⟨o', e', _, n', d'⟩, _⟩ := I.tuple h'
  rw [e] at e'; cases e'
  rw [d] at d'
  injection d' with d1 _
  have : its = its' := by simpa using congrArg Array.toList d1
  subst this
  exact r.inj r'
end
abbrev Cx.wish (X : Cx) (E : Value -> Shared -> Prop) : Cx := { X with xe := E }
abbrev Cx.nox (X : Cx) : Cx := X.wish fun _ _ => False
theorem Cx.Ok.wish {X : Cx} (ok : X.Ok) (E : Value -> Shared -> Prop) : (X.wish E).Ok :=
  ⟨ok.mod, ok.kind, ok.glob, ok.blt, ok.above, ok.inj, ok.has, ok.cab, ok.hd, ok.frames, ok.stk, ok.exf, ok.bs, ok.bsz, ok.noex, ok.exfs, ok.funs, ok.frf⟩
theorem Cx.Ok.unwish {X : Cx} {E : Value -> Shared -> Prop} (ok : (X.wish E).Ok) : X.Ok :=
  ⟨ok.mod, ok.kind, ok.glob, ok.blt, ok.above, ok.inj, ok.has, ok.cab, ok.hd, ok.frames, ok.stk, ok.exf, ok.bs, ok.bsz, ok.noex, ok.exfs, ok.funs, ok.frf⟩
section
variable {X : Cx} {pins : List (Addr × Obj)} {σ : St} {H : Hp} {s : Shared} {E : Value -> Shared -> Prop}
theorem Inv.wish (I : Inv X pins σ H s) (E : Value -> Shared -> Prop) : Inv (X.wish E) pins σ H s := ⟨I.ok.wish E, I.os, I.bare, I.base, I.loc, I.cell, I.free, I.freeC, I.pin, I.hok, I.len⟩
theorem Inv.unwish (I : Inv (X.wish E) pins σ H s) : Inv X pins σ H s := ⟨I.ok.unwish, I.os, I.bare, I.base, I.loc, I.cell, I.free, I.freeC, I.pin, I.hok, I.len⟩
theorem SP.unwish {D : Ends} {f : Flow} {s' : Shared} (h : SP (X.wish E) pins D f s') : SP X pins D f s' := by
  cases f with
  | next => obtain ⟨σ', H', I, q⟩ := h; exact ⟨σ', H', I.unwish, q⟩
  | brk => obtain ⟨σ', H', I, q⟩ := h; exact ⟨σ', H', I.unwish, q⟩
  | cont => obtain ⟨σ', H', I, q⟩ := h; exact ⟨σ', H', I.unwish, q⟩
  | ret u => obtain ⟨v, σ', H', I, r, q⟩ := h; exact ⟨v, σ', H', I.unwish, r, q⟩
theorem PSs.nox {st : List Stmt} {t : TS} (h : PSs X.nox st t) : PSs X st t := fun pins s σ H D I hw =>
  wpAny_mono (h pins s σ H D (I.wish _) hw) (fun _ _ q => q.unwish) fun _ _ z => False.elim z
end
section
variable {X : Cx} {st : Stmt} {rest : List Stmt} {t u : TS} {e : Expr} {te : TE} {pos : Pos}
def tNext : TS := fun D σ H => D.nx σ H
def tSeq (t u : TS) : TS := fun D σ H => t { D with nx := u D } σ H
theorem pss_nil : PSs X [] tNext := fun _ _ σ H _ I h => wpAny_execs_nil ⟨σ, H, I, h⟩
theorem pss_cons (h1 : PS X st t) (h2 : PSs X rest u) : PSs X (st :: rest) (tSeq t u) := by
  intro pins s σ H D I h
  refine wpAny_execs_cons (thn (h1 pins s σ H { D with nx := u D } I h) fun f s1 q => ?_)
  cases f with
  | next =>
    obtain ⟨σ', H', I', q⟩ := q
    exact h2 pins s1 σ' H' D I' q
  | ret v => exact q
  | brk => exact q
  | cont => exact q
theorem pss_one (h1 : PS X st t) : PSs X [st] t := by
  intro pins s σ H D I h
  refine wpAny_execs_cons (thn (h1 pins s σ H D I h) fun f s1 q => ?_)
  cases f with
  | next => exact wpAny_execs_nil q
  | ret v => exact q
  | brk => exact q
  | cont => exact q
theorem Inv.quiet {pins : List (Addr × Obj)} {σ : St} {H : Hp} {s : Shared} (I : Inv X pins σ H s) : interactive X.env = false := by simp [interactive, I.ok.kind]
def tDrop (te : TE) : TS := fun D σ H => te σ H fun _ H1 => D.nx σ H1
theorem ps_expr (he : PE X e te) (hs : swapsWith e none pos.line X.env = pure false := by rfl) : PS X (.Expr e pos) (tDrop te) := by
  intro pins s σ H D I h
  exact wpAny_Expr_any (thn (he pins s σ H _ I h) fun v s1 ⟨x, H1, I1, r1, q1⟩ => ⟨σ, H1, I1, q1⟩) I.quiet hs
def tRet (te : TE) : TS := fun D σ H => te σ H D.rt
theorem ps_ret (he : PE X e te) : PS X (.Return (some e) pos) (tRet te) := by
  intro pins s σ H D I h
  exact wpAny_Return_some (thn (he pins s σ H _ I h) fun v s1 ⟨x, H1, I1, r1, q1⟩ => ⟨x, σ, H1, I1, r1, q1⟩)
def tIfS (c : TT) (t u : TS) : TS := fun D σ H => c σ H fun b H1 => if b = true then t D σ H1 else u D σ H1
theorem ps_if {c : Expr} {a b : List Stmt} {tc : TT} (hc : PT X c tc) (ha : PSs X a t) (hb : PSs X b u) : PS X (.If c a b pos) (tIfS tc t u) := by
  intro pins s σ H D I h
  refine wpAny_If (thn (hc pins s σ H _ I h) fun d s1 ⟨H1, I1, q1⟩ => ?_)
  cases d with
  | true => exact ha pins s1 σ H1 D I1 q1
  | false => exact hb pins s1 σ H1 D I1 q1
end
abbrev TG := V -> St -> Hp -> (St -> Hp -> Prop) -> Prop
abbrev TGs := List V -> St -> Hp -> (St -> Hp -> Prop) -> Prop
def PG (X : Cx) (target : Expr) (t : TG) : Prop :=
  ∀ (pins : List (Addr × Obj)) (s : Shared) (σ : St) (H : Hp) (v : V) (u : Value) (Q : St -> Hp -> Prop), Inv X pins σ H s -> RelV v u -> t v σ H Q ->
    wpAny (model X.prog X.w) X.A (assign target X.env u) (fun _ s' => ∃ σ' H', Inv X pins σ' H' s' /\ Q σ' H') X.xe s
def PGs (X : Cx) (ts : List Expr) (t : TGs) : Prop :=
  ∀ (pins : List (Addr × Obj)) (s : Shared) (σ : St) (H : Hp) (vs : List V) (us : List Value) (Q : St -> Hp -> Prop), Inv X pins σ H s -> Vals vs us -> t vs σ H Q ->
    wpAny (model X.prog X.w) X.A (assignInOrder ((assignEach ts X.env).map (·.2)) us) (fun _ s' => ∃ σ' H', Inv X pins σ' H' s' /\ Q σ' H') X.xe s
abbrev TSet := V -> V -> V -> Hp -> (Hp -> Prop) -> Prop
def PSet (X : Cx) (t : TSet) : Prop :=
  ∀ (pins : List (Addr × Obj)) (s : Shared) (σ : St) (H : Hp) (o i v : V) (ov iv u : Value) (Q : Hp -> Prop), Inv X pins σ H s -> RelV o ov -> RelV i iv -> RelV v u -> t o i v H Q ->
    wpAny (model X.prog X.w) X.A (setItem ov iv u) (fun _ s' => ∃ H', Inv X pins σ H' s' /\ Q H') X.xe s
section
variable {X : Cx} {pos : Pos}
def gName (i : Nat) : TG := fun v σ H Q => Q (σ.set i (some v)) H
theorem pg_name {i : Nat} {x : Str} (hN : X.N.Nodup) (hi : X.N[i]? = some x) (hx : Loc X.env.scope x) (hf : X.fn x = true \/ X.env.scope.names.lookup x = some .local := by first | exact .inl rfl | exact .inr rfl | assumption) : PG X (.Name x pos) (gName i) := by
  intro pins s σ H v u Q I r h
  exact wpAny_assign_Name (store_ok I hN hi hx r (fun s' I' => ⟨_, H, I', h⟩) hf)
def gNil : TGs := fun vs σ H Q => vs = [] /\ Q σ H
def gCons (t : TG) (u : TGs) : TGs := fun vs σ H Q => ∃ v r, vs = v :: r /\ t v σ H fun σ' H' => u r σ' H' Q
theorem pgs_nil : PGs X [] gNil := by
  intro pins s σ H vs us Q I r h
  obtain ⟨e, h⟩ := h
  subst e
  cases r
  exact assignInOrder_nil ⟨σ, H, I, h⟩
theorem pgs_cons {e : Expr} {es : List Expr} {t : TG} {u : TGs} (h1 : PG X e t) (h2 : PGs X es u)
    (hs : (assignEach (e :: es) X.env).map (·.2) = assign e X.env :: (assignEach es X.env).map (·.2) := by rfl) : PGs X (e :: es) (gCons t u) := by
  intro pins s σ H vs us Q I r h
  obtain ⟨v, vr, e1, h⟩ := h
  subst e1
  cases r with
  | cons r rr =>
    rw [hs]
    refine assignInOrder_cons (thn (h1 pins s σ H _ _ _ I r h) fun _ s1 ⟨σ1, H1, I1, q1⟩ => ?_)
    exact h2 pins s1 σ1 H1 _ _ Q I1 rr q1
def gTup (K : PySem.W.Frag) (n : Nat) (t : TGs) : TG := fun v σ H Q => ∃ a xs, v = .ref a /\ SqT K H a xs /\ xs.length = n /\ t xs σ H Q
theorem pg_tup {es : List Expr} {k : Nat} {t : TGs} {n : Nat} (hc : X.calm = true) (h : PGs X es t)
    (hn : (assignEach es X.env).length = n := by rfl) (hst : (assignEach es X.env).findIdx? (·.1) = none := by rfl) : PG X (.Tuple es k pos) (gTup X.K n t) := by
  intro pins s σ H v u Q I r hw
  obtain ⟨a, xs, e1, hq, hl, hw⟩ := hw
  subst e1
  cases r
  obtain ⟨its, rv, ht, hz⟩ := I.tuple hq
  refine assign_Tuple_tuple (I.ok.hd hc) ht (by simp [hn, <- hl, rv.length]) hst fun h' hx => ?_
  have I1 : Inv X pins σ H { s with heap := h' } := I.kept (t' := s.toks) fun b o e => hx b o (Nat.ne_of_lt (Heap.lt_size e)) e
  exact h pins _ σ H xs _ Q I1 (by simpa using rv) hw
def gSub (to ti : TE) (t : TSet) : TG := fun v σ H Q => to σ H fun o H1 => ti σ H1 fun i H2 => t o i v H2 fun H3 => Q σ H3
theorem pg_sub {o i : Expr} {to ti : TE} {t : TSet} (ho : PE X o to) (hi : PE X i ti) (hs : PSet X t)
    (ha : ∀ v, assign (.Subscript o i pos) X.env v = (do
      let ov <- holding [v] (eval o X.env)
      let iv <- holding [v, ov] (eval i X.env)
      standAt pos
      holding [v, ov, iv] (setItem ov iv v)
      release [v, ov, iv] []) := by intro _; rfl) : PG X (.Subscript o i pos) (gSub to ti t) := by
  intro pins s σ H v u Q I r h
  rw [ha]
  refine wpAny_bind (wpAny_holding (thn (ho pins s σ H _ I h) fun ov s1 ⟨x, H1, I1, r1, q1⟩ => ?_))
  refine wpAny_bind (wpAny_holding (thn (hi pins s1 σ H1 _ I1 q1) fun iv s2 ⟨y, H2, I2, r2, q2⟩ => ?_))
  refine wpAny_bind (wpAny_standAt (wpAny_bind (wpAny_holding (thn (hs pins s2 σ H2 x y v ov iv u _ I2 r1 r2 r q2) fun _ s3 ⟨H3, I3, q3⟩ => ?_))))
  exact wpAny_release ⟨σ, H3, I3, q3⟩
def tAsg (te : TE) (g : TG) : TS := fun D σ H => te σ H fun x H1 => g x σ H1 D.nx
theorem ps_asg {tg e : Expr} {te : TE} {g : TG} (he : PE X e te) (hg : PG X tg g) (hs : swapsWithSole [tg] e pos.line X.env = pure false := by rfl) (hw : swappedStores [tg] e X.env = pure none := by rfl)
    (h1 : (assignEach [tg] X.env).map (·.2) = [assign tg X.env] := by rfl) : PS X (.Assign [tg] e pos) (tAsg te g) := by
  intro pins s σ H D I h
  refine wpAny_Assign_stores (thn (he pins s σ H _ I h) fun v s1 ⟨x, H1, I1, r1, q1⟩ => ?_) hs hw
  rw [h1]
  exact thn (hg pins s1 σ H1 x v _ I1 r1 q1) fun _ s2 q => q
theorem ps_set {i : Nat} {x : Str} {e : Expr} {te : TE} {pos' : Pos} (hN : X.N.Nodup) (hi : X.N[i]? = some x) (hx : Loc X.env.scope x) (he : PE X e te) (hs : swapsWith e (some (.Name x pos')) pos.line X.env = pure false := by rfl) (hf : X.fn x = true \/ X.env.scope.names.lookup x = some .local := by first | exact .inl rfl | exact .inr rfl | assumption) :
    PS X (.Assign [.Name x pos'] e pos) (tAsg te (gName i)) := by
  intro pins s σ H D I h
  refine wpAny_Assign_Name (thn (he pins s σ H _ I h) fun v s1 ⟨y, H1, I1, r1, q1⟩ => ?_) hs
  exact store_ok I1 hN hi hx r1 (fun s2 I2 => ⟨_, H1, I2, q1⟩) hf
end
section
variable {X : Cx} {pos : Pos}
end
structure It where
  go : Nat -> Hp -> Prop
  yld : Nat -> Hp -> V -> Hp -> Prop
  stop : Nat -> Hp -> Prop
def FpOk (X : Cx) (pins : List (Addr × Obj)) (H : Hp) (b : Addr) : Prop :=
  H b = none /\ b ≠ X.env.locals /\ b ∉ X.fs /\ (b ∈ X.ex \/ X.s₀.heap.objs.size <= b) /\ (∀ x c, X.env.cells.lookup x = some c -> c ≠ b) /\ ∀ p ∈ X.pn ++ pins, p.1 ≠ b
theorem Inv.fpOk {X : Cx} {pins : List (Addr × Obj)} {σ : St} {H H' : Hp} {s : Shared} {b : Addr} (I : Inv X pins σ H s) (hb : s.heap.objs.size <= b) (hn : H' b = none) : FpOk X pins H' b := by
  refine ⟨hn, Nat.ne_of_gt (Nat.lt_of_lt_of_le I.lt hb), I.nofs hb, .inr (Nat.le_trans I.sz hb), fun x c e z => ?_, fun p hp z => ?_⟩
  . obtain ⟨v, q⟩ := I.cell x c e
    exact absurd (Nat.lt_of_lt_of_le q.lt (by rw [z]; exact hb)) (Nat.lt_irrefl _)
  . exact absurd (Nat.lt_of_lt_of_le (Heap.lt_size (I.pin p hp).1) (by rw [z]; exact hb)) (Nat.lt_irrefl _)
structure Turn (P : Program) (w : World) (K : PySem.W.Frag) (tg : Expr) (J : It) (fp : List Addr) (it : Addr) (tn : Nat -> Heap -> Prop) : Prop where
  mem : it ∈ fp
  obj : ∀ i h, tn i h -> ∀ b ∈ fp, ∃ o, h.get? b = some o /\ ∀ v, o.data ≠ .cell v
  keep : ∀ i h h', tn i h -> (∀ b ∈ fp, ∀ o, h.get? b = some o -> h'.get? b = some o) -> tn i h'
  item : ∀ (X : Cx), X.prog = P -> X.w = w -> X.K = K -> X.calm = true -> ∀ (i : Nat) (pins : List (Addr × Obj)) (s : Shared) (σ : St) (H : Hp) (E : Value -> Shared -> Prop), Inv X pins σ H s -> (∀ b ∈ fp, FpOk X pins H b) -> tn i s.heap -> J.go i H ->
    wpAny (model P w) X.A (pyNext (.ref it)) (fun r s1 => ∃ u, r = some u /\
      wpAny (model P w) X.A (letOwnedTupleGo tg (.ref it) u) (fun _ s2 => ∃ x H', Inv X pins σ H' s2 /\ RelV x u /\ J.yld i H x H' /\ tn (i + 1) s2.heap /\ ∀ b ∈ fp, H' b = none) E s1) E s
  done : ∀ (X : Cx), X.prog = P -> X.w = w -> X.K = K -> X.calm = true -> ∀ (i : Nat) (pins : List (Addr × Obj)) (s : Shared) (σ : St) (H : Hp) (E : Value -> Shared -> Prop), Inv X pins σ H s -> (∀ b ∈ fp, FpOk X pins H b) -> tn i s.heap -> J.stop i H ->
    wpAny (model P w) X.A (pyNext (.ref it)) (fun r s1 => r = none /\ Inv X pins σ H s1) E s
  self : ∀ (A : Around) (i : Nat) (s : Shared) (Q : Value -> Shared -> Prop) (E : Value -> Shared -> Prop), tn i s.heap -> Q (.ref it) s -> wpAny (model P w) A (pyIter (.ref it)) Q E s
abbrev TI := St -> Hp -> (It -> Hp -> Prop) -> Prop
def PIE (X : Cx) (pins : List (Addr × Obj)) (σ : St) (tg : Expr) (R : It -> Hp -> Prop) (itv : Value) (s2 : Shared) : Prop :=
  ∃ (it : Addr) (fp : List Addr) (tn : Nat -> Heap -> Prop) (J : It) (H' : Hp), itv = .ref it /\ Inv X pins σ H' s2 /\ Turn X.prog X.w X.K tg J fp it tn /\ tn 0 s2.heap /\ (∀ b ∈ fp, FpOk X pins H' b) /\ R J H'
def PI (X : Cx) (tg iter : Expr) (wi : TI) : Prop :=
  ∀ (pins : List (Addr × Obj)) (s : Shared) (σ : St) (H : Hp) (R : It -> Hp -> Prop), Inv X pins σ H s -> wi σ H R ->
    wpAny (model X.prog X.w) X.A (eval iter X.env) (fun v s1 => wpAny (model X.prog X.w) X.A (pyIter v) (PIE X pins σ tg R) X.xe s1) X.xe s
theorem go_of {M : Model} {A : Around} {E : Value -> Shared -> Prop} {s : Shared} {tg : Expr} {it : Addr} {u : Value} {o : Obj} {n : String} {vs : Array Value} {Q : Unit -> Shared -> Prop} (ho : s.heap.get? it = some o) (hc : o.cls = .type n) (hd : o.data = .fields vs)
    (hn : ["enumerate", "zip", "dict_itemiterator", "dict_reverseitemiterator", "odict_iterator", "itertools.zip_longest", "itertools.pairwise"].contains n = false) (hQ : Q () s) : wpAny M A (letOwnedTupleGo tg (.ref it) u) Q E s := by
  unfold letOwnedTupleGo
  cases tg <;> first
    | exact wpAny_pure hQ
    | (cases u <;> first
        | exact wpAny_pure hQ
        | (refine wpAny_bind (wpAny_load ho ?_)
           rw [hc, hd]
           show wpAny M A (if (["enumerate", "zip", "dict_itemiterator", "dict_reverseitemiterator", "odict_iterator", "itertools.zip_longest", "itertools.pairwise"].contains n && vs[0]? == some (rawInt _)) = true then _ else _) Q E s
           rw [if_neg (by intro h; rw [hn, Bool.false_and] at h; cases h)]
           exact wpAny_pure hQ))
def Itl (K : PySem.W.Frag) (a : Addr) : It :=
  ⟨fun i H => ∃ xs x, SqL K H a xs /\ xs[i]? = some x, fun i H x H' => H' = H /\ ∀ xs, SqL K H a xs -> xs[i]? = some x, fun i H => ∃ xs, SqL K H a xs /\ xs.length <= i⟩
def Itt (K : PySem.W.Frag) (a : Addr) : It :=
  ⟨fun i H => ∃ xs x, SqT K H a xs /\ xs[i]? = some x, fun i H x H' => H' = H /\ ∀ xs, SqT K H a xs -> xs[i]? = some x, fun i H => ∃ xs, SqT K H a xs /\ xs.length <= i⟩
def Itr (lo : Int) (n : Nat) : It := ⟨fun i _ => i < n, fun i H x H' => H' = H /\ x = .int (lo + i), fun i _ => n <= i⟩
theorem turn_list {P : Program} {w : World} {K : PySem.W.Frag} {tg : Expr} (a it : Addr) : Turn P w K tg (Itl K a) [it] it (fun i h => h.IsListIter it a i) where
  mem := by simp
  obj := fun i h st b hb => by
    have e : b = it := by simpa using hb
    subst e
    obtain ⟨o, e, c, d⟩ := st
    exact ⟨o, e, fun v z => by rw [d] at z; cases z⟩
  keep := fun i h h' st k => st.at fun o e => k it (by simp) o e
  item := by
    intro X hP hw hK hc i pins s σ H E I hf st hg
    subst hP hw hK
    obtain ⟨xs, x, hq, hx⟩ := hg
    obtain ⟨its, rv, p, hz⟩ := I.list hq
    obtain ⟨u, hu, ru⟩ := rv.get hx
    obtain ⟨f0, f1, f2, f3, f4, f5⟩ := hf it (by simp)
    refine wpAny_pyNext_list_item st p.isList (x := u) (by simpa using hu) fun h' st' sb => ?_
    have I1 : Inv X pins σ H { s with heap := h' } := I.turned (t' := s.toks) (fun b o hb e => (sb.2 b hb).trans e) f0 f1 f3 f4 f5
    obtain ⟨o, e, c, d⟩ := id st'
    exact ⟨u, rfl, go_of (s := { s with heap := h' }) e c d (by decide) ⟨x, H, I1, ru, ⟨rfl, fun ys hy => by rw [I.list_inj hy hq]; exact hx⟩, st', fun b hb => (hf b hb).1⟩⟩
  done := by
    intro X hP hw hK hc i pins s σ H E I hf st hg
    subst hP hw hK
    obtain ⟨xs, hq, hx⟩ := hg
    obtain ⟨its, rv, p, hz⟩ := I.list hq
    obtain ⟨f0, f1, f2, f3, f4, f5⟩ := hf it (by simp)
    have hl := rv.length
    exact wpAny_pyNext_list_end (I.ok.hd hc) st p.isList (by simp; omega) fun h' eb => ⟨rfl, I.turned (t' := s.toks) (fun b o hb e => eb b o hb e) f0 f1 f3 f4 f5⟩
  self := fun _ _ _ _ _ st h => wpAny_pyIter_listiter st h
theorem turn_tuple {P : Program} {w : World} {K : PySem.W.Frag} {tg : Expr} (a it : Addr) : Turn P w K tg (Itt K a) [it] it (fun i h => h.IsTupleIter it a i) where
  mem := by simp
  obj := fun i h st b hb => by
    have e : b = it := by simpa using hb
    subst e
    obtain ⟨o, e, c, d⟩ := st
    exact ⟨o, e, fun v z => by rw [d] at z; cases z⟩
  keep := fun i h h' st k => st.at fun o e => k it (by simp) o e
  item := by
    intro X hP hw hK hc i pins s σ H E I hf st hg
    subst hP hw hK
    obtain ⟨xs, x, hq, hx⟩ := hg
    obtain ⟨its, rv, p, hz⟩ := I.tuple hq
    obtain ⟨u, hu, ru⟩ := rv.get hx
    obtain ⟨f0, f1, f2, f3, f4, f5⟩ := hf it (by simp)
    refine wpAny_pyNext_tuple_item st (show s.heap.IsTuple a its.toArray from p) (x := u) (by simpa using hu) fun h' st' sb => ?_
    have I1 : Inv X pins σ H { s with heap := h' } := I.turned (t' := s.toks) (fun b o hb e => (sb.2 b hb).trans e) f0 f1 f3 f4 f5
    obtain ⟨o, e, c, d⟩ := id st'
    exact ⟨u, rfl, go_of (s := { s with heap := h' }) e c d (by decide) ⟨x, H, I1, ru, ⟨rfl, fun ys hy => by rw [I.tuple_inj hy hq]; exact hx⟩, st', fun b hb => (hf b hb).1⟩⟩
  done := by
    intro X hP hw hK hc i pins s σ H E I hf st hg
    subst hP hw hK
    obtain ⟨xs, hq, hx⟩ := hg
    obtain ⟨its, rv, p, hz⟩ := I.tuple hq
    obtain ⟨f0, f1, f2, f3, f4, f5⟩ := hf it (by simp)
    have hl := rv.length
    exact wpAny_pyNext_tuple_end (I.ok.hd hc) st (show s.heap.IsTuple a its.toArray from p) (by simp; omega) fun h' eb => ⟨rfl, I.turned (t' := s.toks) (fun b o hb e => eb b o hb e) f0 f1 f3 f4 f5⟩
  self := fun _ _ _ _ _ st h => wpAny_pyIter_tupleiter st h
theorem turn_range {P : Program} {w : World} {K : PySem.W.Frag} {tg : Expr} (it : Addr) (lo : Int) (n : Nat) : Turn P w K tg (Itr lo n) [it] it (fun i h => IsRangeIter h it (lo + (i : Nat) * 1) ((n : Int) - (i : Nat)) 1) where
  mem := by simp
  obj := fun i h st b hb => by
    have e : b = it := by simpa using hb
    subst e
    exact ⟨_, st, fun v z => by
      have z' : Data.fields _ = Data.cell v := z
      cases z'⟩
  keep := fun i h h' st k => k it (by simp) _ st
  item := by
    intro X hP hw hK hc i pins s σ H E I hf st hg
    subst hP hw hK
    obtain ⟨f0, f1, f2, f3, f4, f5⟩ := hf it (by simp)
    have W := Walks.range (prog := X.prog) (w := X.w) (I.ok.hd hc) it lo 1 n
    refine W.item i s _ _ hg st fun v h' tk hv st' kk => ?_
    obtain ⟨t, rfl⟩ := hv
    have I1 : Inv X pins σ H { s with heap := h', toks := tk } := I.turned (fun b o hb e => kk b o (by simpa using hb) e) f0 f1 f3 f4 f5
    refine ⟨_, rfl, go_of (s := { s with heap := h', toks := tk }) (n := "range_iterator") st' rfl rfl (by decide) ⟨.int (lo + i), H, I1, ⟨t, ?_⟩, ⟨rfl, rfl⟩, st', fun b hb => (hf b hb).1⟩⟩
    rw [Int.mul_one]
  done := by
    intro X hP hw hK hc i pins s σ H E I hf st hg
    subst hP hw hK
    obtain ⟨f0, f1, f2, f3, f4, f5⟩ := hf it (by simp)
    exact wpAny_pyNext_range_end (I.ok.hd hc) st (by have : n <= i := hg; omega) fun h' eb => ⟨rfl, I.turned (t' := s.toks) (fun b o hb e => eb b o hb e) f0 f1 f3 f4 f5⟩
  self := fun _ _ _ _ _ st h => wpAny_pyIter_rangeiter st h
section
variable {X : Cx} {tg : Expr}
theorem range_it {pins : List (Addr × Obj)} {σ : St} {H : Hp} {s : Shared} {R : It -> Hp -> Prop} {E : Value -> Shared -> Prop} {lo hi : Int} {t u v : Tok} {tk : Nat} (I : Inv X pins σ H s) (h1 : -(2 ^ 62) <= lo) (h2 : lo < 2 ^ 62) (h3 : -(2 ^ 62) <= hi) (h4 : hi < 2 ^ 62)
    (q : R (Itr lo (hi - lo).toNat) H) : wpAny (model X.prog X.w) X.A (pyIter (.ref s.heap.objs.size)) (PIE X pins σ tg R) E { s with heap := s.heap.push { cls := .type "range", data := .fields #[.int lo t, .int hi u, .int 1 v] }, toks := tk } := by
  refine wpAny_pyIter_range (IsRange.new ..) (small_one h1 h2 h3 h4) ?_
  have I1 : Inv X pins σ H { s with heap := s.heap.push { cls := .type "range", data := .fields #[.int lo t, .int hi u, .int 1 v] }, toks := tk } := I.kept fun b o e => Heap.get?_push_of_some _ e
  refine ⟨(s.heap.push { cls := .type "range", data := .fields #[.int lo t, .int hi u, .int 1 v] }).objs.size, [(s.heap.push { cls := .type "range", data := .fields #[.int lo t, .int hi u, .int 1 v] }).objs.size], _, _, H, rfl,
    I1.kept (t' := tk) fun b o e => Heap.get?_push_of_some _ e, turn_range _ lo (hi - lo).toNat, ?_, fun b hb => ?_, q⟩
  . have e1 : lo + ((0 : Nat) : Int) * 1 = lo := by simp
    have e2 : (((hi - lo).toNat : Nat) : Int) - ((0 : Nat) : Int) = Builtin.Range.rangeSize lo hi 1 := by rw [rangeSize_one]; split <;> omega
    show IsRangeIter _ _ (lo + ((0 : Nat) : Int) * 1) ((((hi - lo).toNat : Nat) : Int) - ((0 : Nat) : Int)) 1
    rw [e1, e2]
    exact Heap.get?_push_size _ rfl
  . have e : b = (s.heap.push { cls := .type "range", data := .fields #[.int lo t, .int hi u, .int 1 v] }).objs.size := by simpa using hb
    subst e
    exact I1.fpOk (Nat.le_refl _) (I1.hok.fresh (Nat.le_refl _))
def iRng1 (ta : TA) : TI := fun σ H R => ta σ H fun vs H1 => ∃ j : Int, vs = [.int j] /\ -(2 ^ 62) <= j /\ j < 2 ^ 62 /\ R (Itr 0 j.toNat) H1
theorem pi_range1 {a : Expr} {ta : TA} {p pos : Pos} (hg : Gl X "range") (hm : X.mg "range" = none) (ha : PA X [a] ta) (hs : starEach [a] X.env = [(false, eval a X.env)] := by rfl) : PI X tg (.Call (.Name "range" p) [a] [] pos) (iRng1 ta) := by
  intro pins s σ H R I h
  refine Call_ (ld_blt I hg hm boot_range (PyProof.Rows.callWith_type1 (thn (ha pos pins s σ H _ I h) fun us s1 ⟨vs, H1, I1, r1, q1⟩ => ?_) hs rfl))
  obtain ⟨j, e, q1, q2, q⟩ := q1
  subst e
  cases r1 with
  | cons r rr =>
    cases rr
    obtain ⟨t, rfl⟩ := r
    exact call_range_1 (range_it I1 (by omega) (by omega) q1 q2 (by simpa using q))
def tFor (wi : TI) (g : TG) (tb : TS) : TS := fun D σ H => wi σ H fun J H1 => ∃ W : Nat -> Nat -> St -> Hp -> Prop, (∃ m, W 0 m σ H1) /\ ∀ i m σ H, W i m σ H ->
  (J.stop i H /\ D.nx σ H) \/ (J.go i H /\ ∃ N : St -> Hp -> Prop, (∀ σ' H', N σ' H' -> ∃ m', m' < m /\ W (i + 1) m' σ' H') /\ ∀ x H', J.yld i H x H' -> g x σ H' fun σ2 H2 => tb { D with nx := N, ct := N, bk := D.nx } σ2 H2)
def pinsAt (fp : List Addr) (h : Heap) : List (Addr × Obj) := fp.filterMap fun b => (h.get? b).map fun o => (b, o)
theorem mem_pinsAt {fp : List Addr} {h : Heap} {b : Addr} {o : Obj} (hb : b ∈ fp) (e : h.get? b = some o) : (b, o) ∈ pinsAt fp h := List.mem_filterMap.mpr ⟨b, hb, by rw [e]; rfl⟩
theorem of_pinsAt {fp : List Addr} {h : Heap} {p : Addr × Obj} (hp : p ∈ pinsAt fp h) : p.1 ∈ fp /\ h.get? p.1 = some p.2 := by
  obtain ⟨b, hb, e⟩ := List.mem_filterMap.mp hp
  cases q : h.get? b with
  | none => rw [q] at e; cases e
  | some o =>
    rw [q] at e
    have e' : (b, o) = p := Option.some.inj e
    subst e'
    exact ⟨hb, q⟩
theorem Inv.pinned {pins : List (Addr × Obj)} {σ : St} {H : Hp} {s : Shared} {fp : List Addr} (I : Inv X pins σ H s) (hf : ∀ b ∈ fp, FpOk X pins H b) (ho : ∀ b ∈ fp, ∃ o, s.heap.get? b = some o /\ ∀ v, o.data ≠ .cell v) : Inv X (pins ++ pinsAt fp s.heap) σ H s :=
  I.pins_of fun p hp => (List.mem_append.mp hp).elim (fun z => I.pin p (List.mem_append_right _ z)) fun z => by
    obtain ⟨hb, e⟩ := of_pinsAt z
    obtain ⟨f0, f1, f2, _⟩ := hf p.1 hb
    obtain ⟨o, e', d⟩ := ho p.1 hb
    rw [e] at e'; cases e'
    exact ⟨e, f0, f1, f2, d⟩
theorem Inv.unpinned {pins pl : List (Addr × Obj)} {σ : St} {H : Hp} {s : Shared} (I : Inv X (pins ++ pl) σ H s) : Inv X pins σ H s := I.pins_of fun p hp => I.pin p (List.mem_append_right _ (List.mem_append_left _ hp))
theorem ps_for {iter : Expr} {body : List Stmt} {wi : TI} {g : TG} {tb : TS} {pos : Pos} (hp : PassesOwn (model X.prog X.w) X.A X.env X.xe) (hc : X.calm = true) (hi : PI X tg iter wi) (hg : PG X tg g) (hb : PSs X body tb)
    (hs : ∀ x, foldedSetIterable iter X.env x = pure x := by intro _; rfl) : PS X (.For tg iter body [] pos) (tFor wi g tb) := by
  intro pins s σ H D I h
  refine wpAny_For (thn (hi pins s σ H _ I h) fun v s1 h1 => thn h1 fun itv s2 h2 => ?_) hs
  obtain ⟨it, fp, tn, J, H2, e, I2, T, st2, f2, W, ⟨m0, w0⟩, turn⟩ := h2
  subst e
  -- what stays true of the iterator's objects through the loop
  have stat : ∀ {H' : Hp}, (∀ b ∈ fp, H' b = none) -> ∀ b ∈ fp, FpOk X pins H' b := fun hn b hb => ⟨hn b hb, (f2 b hb).2⟩
  refine codeAny_forLoop_any (fun n s' => ∃ i σ' H', Inv X pins σ' H' s' /\ tn i s'.heap /\ (∀ b ∈ fp, H' b = none) /\ W i n σ' H') ?_ m0 ⟨0, σ, H2, I2, st2, fun b hb => (f2 b hb).1, w0⟩
  rintro n s3 ⟨i, σ3, H3, I3, st3, fr3, w3⟩
  rcases turn i n σ3 H3 w3 with ⟨stop, qn⟩ | ⟨go, N, hN, step⟩
  . refine wpAny_passesOwn hp (thn (T.done X rfl rfl rfl hc i pins s3 σ3 H3 X.xe I3 (stat fr3) st3 stop) fun r s4 ⟨hr, I4⟩ => ?_)
    subst hr
    exact wpAny_execs_nil ⟨σ3, H3, I4, qn⟩
  . refine wpAny_passesOwn hp (thn (T.item X rfl rfl rfl hc i pins s3 σ3 H3 X.xe I3 (stat fr3) st3 go) fun r s4 ⟨u, hr, h4⟩ => ?_)
    subst hr
    refine wpAny_passesOwn hp (thn h4 fun _ s5 ⟨x, H5, I5, r5, y5, st5, fr5⟩ => ?_)
    have I5' := I5.pinned (stat fr5) (T.obj _ _ st5)
    refine wpAny_passesOwn hp (thn (hg _ s5 σ3 H5 x u _ I5' r5 (step x H5 y5)) fun _ s6 ⟨σ6, H6, I6, q6⟩ => ?_)
    refine wpAny_passesOwn hp (thn (hb _ s6 σ6 H6 _ I6 q6) fun f s7 q7 => ?_)
    have again : ∀ {σ7 : St} {H7 : Hp}, Inv X (pins ++ pinsAt fp s5.heap) σ7 H7 s7 -> N σ7 H7 -> ∃ m, m < n /\ ∃ i σ' H', Inv X pins σ' H' s7 /\ tn i s7.heap /\ (∀ b ∈ fp, H' b = none) /\ W i m σ' H' := fun {σ7 H7} I7 n7 => by
      obtain ⟨m', hm, w7⟩ := hN σ7 H7 n7
      refine ⟨m', hm, i + 1, σ7, H7, I7.unpinned, T.keep _ _ _ st5 fun b hb o e => (I7.pin (b, o) (List.mem_append_right _ (List.mem_append_right _ (mem_pinsAt hb e)))).1, fun b hb => ?_, w7⟩
      obtain ⟨o, e, d⟩ := T.obj _ _ st5 b hb
      exact (I7.pin (b, o) (List.mem_append_right _ (List.mem_append_right _ (mem_pinsAt hb e)))).2.1
    cases f with
    | next => obtain ⟨σ7, H7, I7, n7⟩ := q7; exact again I7 n7
    | cont => obtain ⟨σ7, H7, I7, n7⟩ := q7; exact again I7 n7
    | brk => obtain ⟨σ7, H7, I7, q7⟩ := q7; exact ⟨σ7, H7, I7.unpinned, q7⟩
    | ret v => obtain ⟨x7, σ7, H7, I7, r7, q7⟩ := q7; exact ⟨x7, σ7, H7, I7.unpinned, r7, q7⟩
end
theorem for_list {K : PySem.W.Frag} {a : Addr} {xs : List V} {g : TG} {tb : TS} {D : Ends} {σ : St} {H : Hp} (Pv : Nat -> St -> Hp -> Prop) (h0 : Pv 0 σ H) (hl : ∀ i σ H, i <= xs.length -> Pv i σ H -> SqL K H a xs)
    (hs : ∀ i x σ H, xs[i]? = some x -> Pv i σ H -> g x σ H fun σ2 H2 => tb { D with nx := Pv (i + 1), ct := Pv (i + 1), bk := D.nx } σ2 H2) (hd : ∀ σ H, Pv xs.length σ H -> D.nx σ H) :
    ∃ W : Nat -> Nat -> St -> Hp -> Prop, (∃ m, W 0 m σ H) /\ ∀ i m σ H, W i m σ H ->
      ((Itl K a).stop i H /\ D.nx σ H) \/ ((Itl K a).go i H /\ ∃ N : St -> Hp -> Prop, (∀ σ' H', N σ' H' -> ∃ m', m' < m /\ W (i + 1) m' σ' H') /\ ∀ x H', (Itl K a).yld i H x H' -> g x σ H' fun σ2 H2 => tb { D with nx := N, ct := N, bk := D.nx } σ2 H2) := by
  refine ⟨fun i m σ H => m = xs.length - i /\ i <= xs.length /\ Pv i σ H, ⟨xs.length, by simp, Nat.zero_le _, h0⟩, ?_⟩
  rintro i m σ H ⟨rfl, hi, p⟩
  have q := hl i σ H hi p
  by_cases hlt : i < xs.length
  . refine .inr ⟨⟨xs, xs[i], q, by simp [hlt]⟩, Pv (i + 1), fun σ' H' p' => ⟨xs.length - (i + 1), by omega, rfl, hlt, p'⟩, fun x H' y => ?_⟩
    obtain ⟨e, y⟩ := y
    subst e
    exact hs i x σ _ (y xs q) p
  . have e : i = xs.length := by omega
    subst e
    exact .inl ⟨⟨xs, q, Nat.le_refl _⟩, hd σ H p⟩
theorem for_tup {K : PySem.W.Frag} {a : Addr} {xs : List V} {g : TG} {tb : TS} {D : Ends} {σ : St} {H : Hp} (Pv : Nat -> St -> Hp -> Prop) (h0 : Pv 0 σ H) (hl : ∀ i σ H, i <= xs.length -> Pv i σ H -> SqT K H a xs)
    (hs : ∀ i x σ H, xs[i]? = some x -> Pv i σ H -> g x σ H fun σ2 H2 => tb { D with nx := Pv (i + 1), ct := Pv (i + 1), bk := D.nx } σ2 H2) (hd : ∀ σ H, Pv xs.length σ H -> D.nx σ H) :
    ∃ W : Nat -> Nat -> St -> Hp -> Prop, (∃ m, W 0 m σ H) /\ ∀ i m σ H, W i m σ H ->
      ((Itt K a).stop i H /\ D.nx σ H) \/ ((Itt K a).go i H /\ ∃ N : St -> Hp -> Prop, (∀ σ' H', N σ' H' -> ∃ m', m' < m /\ W (i + 1) m' σ' H') /\ ∀ x H', (Itt K a).yld i H x H' -> g x σ H' fun σ2 H2 => tb { D with nx := N, ct := N, bk := D.nx } σ2 H2) := by
  refine ⟨fun i m σ H => m = xs.length - i /\ i <= xs.length /\ Pv i σ H, ⟨xs.length, by simp, Nat.zero_le _, h0⟩, ?_⟩
  rintro i m σ H ⟨rfl, hi, p⟩
  have q := hl i σ H hi p
  by_cases hlt : i < xs.length
  . refine .inr ⟨⟨xs, xs[i], q, by simp [hlt]⟩, Pv (i + 1), fun σ' H' p' => ⟨xs.length - (i + 1), by omega, rfl, hlt, p'⟩, fun x H' y => ?_⟩
    obtain ⟨e, y⟩ := y
    subst e
    exact hs i x σ _ (y xs q) p
  . have e : i = xs.length := by omega
    subst e
    exact .inl ⟨⟨xs, q, Nat.le_refl _⟩, hd σ H p⟩
theorem for_range {lo : Int} {n : Nat} {g : TG} {tb : TS} {D : Ends} {σ : St} {H : Hp} (Pv : Nat -> St -> Hp -> Prop) (h0 : Pv 0 σ H)
    (hs : ∀ i σ H, i < n -> Pv i σ H -> g (.int (lo + i)) σ H fun σ2 H2 => tb { D with nx := Pv (i + 1), ct := Pv (i + 1), bk := D.nx } σ2 H2) (hd : ∀ σ H, Pv n σ H -> D.nx σ H) :
    ∃ W : Nat -> Nat -> St -> Hp -> Prop, (∃ m, W 0 m σ H) /\ ∀ i m σ H, W i m σ H ->
      ((Itr lo n).stop i H /\ D.nx σ H) \/ ((Itr lo n).go i H /\ ∃ N : St -> Hp -> Prop, (∀ σ' H', N σ' H' -> ∃ m', m' < m /\ W (i + 1) m' σ' H') /\ ∀ x H', (Itr lo n).yld i H x H' -> g x σ H' fun σ2 H2 => tb { D with nx := N, ct := N, bk := D.nx } σ2 H2) := by
  refine ⟨fun i m σ H => m = n - i /\ i <= n /\ Pv i σ H, ⟨n, by simp, Nat.zero_le _, h0⟩, ?_⟩
  rintro i m σ H ⟨rfl, hi, p⟩
  by_cases hlt : i < n
  . refine .inr ⟨hlt, Pv (i + 1), fun σ' H' p' => ⟨n - (i + 1), by omega, rfl, hlt, p'⟩, fun x H' y => ?_⟩
    obtain ⟨e, y⟩ := y
    subst e y
    exact hs i σ _ hlt p
  . have e : i = n := by omega
    subst e
    exact .inl ⟨Nat.le_refl _, hd σ H p⟩
abbrev R2 := V -> V -> Hp -> VK -> Prop
def OpR (X : Cx) (f : Value -> Value -> Sem Value) (r : R2) : Prop :=
  ∀ (pins : List (Addr × Obj)) (s : Shared) (σ : St) (H : Hp) (x y : V) (v u : Value) (Q : VK), Inv X pins σ H s -> RelV x v -> RelV y u -> r x y H Q ->
    wpAny (model X.prog X.w) X.A (f v u) (EP X pins σ Q) X.xe s
def UnR (X : Cx) (f : Value -> Sem Value) (r : V -> Hp -> VK -> Prop) : Prop :=
  ∀ (pins : List (Addr × Obj)) (s : Shared) (σ : St) (H : Hp) (x : V) (v : Value) (Q : VK), Inv X pins σ H s -> RelV x v -> r x H Q ->
    wpAny (model X.prog X.w) X.A (f v) (EP X pins σ Q) X.xe s
def CallR (X : Cx) (f : Value) (r : List V -> Hp -> VK -> Prop) : Prop :=
  ∀ (pins : List (Addr × Obj)) (s : Shared) (σ : St) (H : Hp) (xs : List V) (us : List Value) (Q : VK), Inv X pins σ H s -> Vals xs us -> r xs H Q ->
    wpAny (model X.prog X.w) X.A (call f us) (EP X pins σ Q) X.xe s
def tOp (r : R2) (ta tb : TE) : TE := fun σ H Q => ta σ H fun x H1 => tb σ H1 fun y H2 => r x y H2 Q
def tUn (r : V -> Hp -> VK -> Prop) (ta : TE) : TE := fun σ H Q => ta σ H fun x H1 => r x H1 Q
def rI (C : Int -> Int -> Prop) (g : Int -> Int -> V) : R2 := fun x y H Q => ∃ i j, x = .int i /\ y = .int j /\ C i j /\ Q (g i j) H
def rI0 (g : Int -> Int -> V) : R2 := fun x y H Q => ∃ i j, x = .int i /\ y = .int j /\ Q (g i j) H
def rU (g : Int -> V) : V -> Hp -> VK -> Prop := fun x H Q => ∃ i, x = .int i /\ Q (g i) H
section
variable {X : Cx} {a b c : Expr} {ta tb tc : TE} {pos : Pos}
theorem binT (ha : PE X a ta) (hb : PE X b tb) {pins : List (Addr × Obj)} {s : Shared} {σ : St} {H : Hp} {R : V -> V -> Hp -> Prop} (I : Inv X pins σ H s)
    (h : ta σ H fun x H1 => tb σ H1 fun y H2 => R x y H2) {Q : Value -> Shared -> Prop} {f : Value -> Value -> Sem Value}
    (hf : ∀ v u s2 x y H2, Inv X pins σ H2 s2 -> RelV x v -> RelV y u -> R x y H2 -> wpAny (model X.prog X.w) X.A (f v u) Q X.xe s2) :
    wpAny (model X.prog X.w) X.A (eval a X.env) (fun v s₁ => wpAny (model X.prog X.w) X.A (eval b X.env) (fun u s₂ => wpAny (model X.prog X.w) X.A (f v u) Q X.xe s₂) X.xe s₁) X.xe s := by
  refine thn (ha pins s σ H _ I h) fun v s1 ⟨x, H1, I1, r1, q1⟩ => ?_
  refine thn (hb pins s1 σ H1 _ I1 q1) fun u s2 ⟨y, H2, I2, r2, q2⟩ => ?_
  exact hf v u s2 x y H2 I2 r1 r2 q2
theorem pe_op {op : Operator} {r : R2} (ho : OpR X (binaryOp op) r) (ha : PE X a ta) (hb : PE X b tb) : PE X (.BinOp a op b pos) (tOp r ta tb) := by
  intro pins s σ H Q I h
  exact wpAny_BinOp (binT ha hb I h fun v u s2 x y H2 I2 rx ry q => ho pins s2 σ H2 x y v u Q I2 rx ry q)
theorem pe_un {op : UnaryOp} {r : V -> Hp -> VK -> Prop} (ho : UnR X (unaryOp op) r) (ha : PE X a ta) : PE X (.UnaryOp op a pos) (tUn r ta) := by
  intro pins s σ H Q I h
  exact UnaryOp_ (thn (ha pins s σ H _ I h) fun v s1 ⟨x, H1, I1, r1, q1⟩ => ho pins s1 σ H1 x v Q I1 r1 q1)
theorem opI {f : Value -> Value -> Sem Value} {C : Int -> Int -> Prop} {g : Int -> Int -> Int}
    (rule : ∀ (i j : Int) (t u : Tok) (s : Shared) (Q : Value -> Shared -> Prop) (E : Value -> Shared -> Prop), C i j -> Q (.int (g i j) s.toks) { s with toks := s.toks + 1 } -> wpAny (model X.prog X.w) X.A (f (.int i t) (.int j u)) Q E s) :
    OpR X f (rI C fun i j => .int (g i j)) := by
  intro pins s σ H x y v u Q I rx ry h
  obtain ⟨i, j, rfl, rfl, hc, q⟩ := h
  obtain ⟨t, rfl⟩ := rx
  obtain ⟨t', rfl⟩ := ry
  exact rule i j t t' s _ _ hc ⟨.int (g i j), H, I.tok _, ⟨_, rfl⟩, q⟩
theorem opI0 {f : Value -> Value -> Sem Value} {g : Int -> Int -> Int}
    (rule : ∀ (i j : Int) (t u : Tok) (s : Shared) (Q : Value -> Shared -> Prop) (E : Value -> Shared -> Prop), Q (.int (g i j) s.toks) { s with toks := s.toks + 1 } -> wpAny (model X.prog X.w) X.A (f (.int i t) (.int j u)) Q E s) :
    OpR X f (rI0 fun i j => .int (g i j)) := by
  intro pins s σ H x y v u Q I rx ry h
  obtain ⟨i, j, rfl, rfl, q⟩ := h
  obtain ⟨t, rfl⟩ := rx
  obtain ⟨t', rfl⟩ := ry
  exact rule i j t t' s _ _ ⟨.int (g i j), H, I.tok _, ⟨_, rfl⟩, q⟩
theorem opB0 {f : Value -> Value -> Sem Value} {g : Int -> Int -> Bool}
    (rule : ∀ (i j : Int) (t u : Tok) (s : Shared) (Q : Value -> Shared -> Prop) (E : Value -> Shared -> Prop), Q (.bool (g i j)) s -> wpAny (model X.prog X.w) X.A (f (.int i t) (.int j u)) Q E s) :
    OpR X f (rI0 fun i j => .bl (g i j)) := by
  intro pins s σ H x y v u Q I rx ry h
  obtain ⟨i, j, rfl, rfl, q⟩ := h
  obtain ⟨t, rfl⟩ := rx
  obtain ⟨t', rfl⟩ := ry
  exact rule i j t t' s _ _ ⟨.bl (g i j), H, I, rfl, q⟩
def CPow (i j : Int) : Prop := 0 <= j /\ j <= 1000000 /\ i.natAbs < 2 ^ 64
def CMul (i j : Int) : Prop := (-(2 ^ 64) < i /\ i < 2 ^ 64) \/ (-(2 ^ 64) < j /\ j < 2 ^ 64)
theorem CMul.ok {i j : Int} (h : CMul i j) : IntMulOk i j := by
  rcases h with ⟨h1, h2⟩ | ⟨h1, h2⟩
  . exact .of_left (intBits_le_64 h1 h2)
  . exact .of_right (intBits_le_64 h1 h2)
theorem two_pow_nn (k : Nat) : (0 : Int) <= 2 ^ k := by
  rw [two_pow_cast]
  exact Int.natCast_nonneg _
theorem op_add : OpR X (binaryOp .Add) (rI0 fun i j => .int (i + j)) := opI0 fun _ _ _ _ _ _ _ q => add_int q
theorem op_sub : OpR X (binaryOp .Sub) (rI0 fun i j => .int (i - j)) := opI0 fun _ _ _ _ _ _ _ q => sub_int q
theorem op_mod : OpR X (binaryOp .Mod) (rI (fun _ j => 0 < j) fun i j => .int (i % j)) := opI fun i j _ _ _ _ _ hc q => by
  have h1 : (0 : Int) < j := hc
  exact mod_int' (by omega) (by rw [Int.fmod_eq_emod_of_nonneg i (by omega)]; exact q)
theorem op_pow : OpR X (binaryOp .Pow) (rI CPow fun i j => .int (i ^ j.toNat)) := opI fun _ _ _ _ _ _ _ hc q => pow_int_small hc.1 hc.2.1 hc.2.2 q
theorem op_shl : OpR X (binaryOp .LShift) (rI CPow fun i j => .int (i * 2 ^ j.toNat)) := opI fun _ _ _ _ _ _ _ hc q => lshift_int_small hc.1 hc.2.1 hc.2.2 q
theorem op_shr : OpR X (binaryOp .RShift) (rI (fun _ j => 0 <= j) fun i j => .int (i / 2 ^ j.toNat)) := opI fun i j _ _ _ _ _ hc q =>
  rshift_int hc (by rw [Int.fdiv_eq_ediv_of_nonneg i (two_pow_nn _)]; exact q)
theorem op_and : OpR X (binaryOp .BitAnd) (rI0 fun i j => .int (Builtin.bitAnd i j)) := opI0 fun _ _ _ _ _ _ _ q => and_int q
theorem op_xor : OpR X (binaryOp .BitXor) (rI0 fun i j => .int (Builtin.bitXor i j)) := opI0 fun _ _ _ _ _ _ _ q => xor_int q
theorem unI {f : Value -> Sem Value} {g : Int -> Int}
    (rule : ∀ (i : Int) (t : Tok) (s : Shared) (Q : Value -> Shared -> Prop) (E : Value -> Shared -> Prop), Q (.int (g i) s.toks) { s with toks := s.toks + 1 } -> wpAny (model X.prog X.w) X.A (f (.int i t)) Q E s) :
    UnR X f (rU fun i => .int (g i)) := by
  intro pins s σ H x v Q I rx h
  obtain ⟨i, rfl, q⟩ := h
  obtain ⟨t, rfl⟩ := rx
  exact rule i t s _ _ ⟨.int (g i), H, I.tok _, ⟨_, rfl⟩, q⟩
theorem un_neg : UnR X (unaryOp .USub) (rU fun i => .int (-i)) := unI fun _ _ _ _ _ q => neg_int q
end
section
variable {X : Cx} {a b c : Expr} {ta tb tc : TE} {pos : Pos}
theorem fin_bl {pins : List (Addr × Obj)} {σ : St} {H : Hp} {s : Shared} {Q : VK} {k k' : Bool} (I : Inv X pins σ H s) (q : Q (.bl k) H) (e : k = k') : EP X pins σ Q (.bool k') s := by
  subst e
  exact ⟨.bl k, H, I, rfl, q⟩
theorem op_lt : OpR X (compareOp .Lt) (rI0 fun i j => .bl (decide (i < j))) := opB0 fun _ _ _ _ _ _ _ q => lt_int q
theorem op_le : OpR X (compareOp .LtE) (rI0 fun i j => .bl (decide (i <= j))) := opB0 fun _ _ _ _ _ _ _ q => le_int q
theorem op_gt : OpR X (compareOp .Gt) (rI0 fun i j => .bl (decide (j < i))) := opB0 fun _ _ _ _ _ _ _ q => gt_int q
theorem op_ge : OpR X (compareOp .GtE) (rI0 fun i j => .bl (decide (j <= i))) := opB0 fun _ _ _ _ _ _ _ q => ge_int q
theorem op_isN : OpR X (compareOp .Is) (fun x y H Q => y = .non /\ Q (.bl (decide (x = .non))) H) := by
  intro pins s σ H x y v u Q I rx ry h
  obtain ⟨rfl, q⟩ := h
  cases ry
  refine is_none_gen (fin_bl I q ?_)
  cases x <;> first
    | (cases rx; rfl)
    | (obtain ⟨t, rfl⟩ := rx; rfl)
theorem pe_cmpR {op : CmpOp} {r : R2} (ho : OpR X (compareOp op) r) (ha : PE X a ta) (hb : PE X b tb) (hm : behindInMarks op b = false) : PE X (.Compare a [op] [b] pos) (tOp r ta tb) := by
  intro pins s σ H Q I h
  exact wpAny_Compare1 (binT ha hb I h fun v u s2 x y H2 I2 rx ry q => ho pins s2 σ H2 x y v u Q I2 rx ry q) hm
theorem line63 : (sizeLine : Nat) < 2 ^ 63 := by rw [sizeLine_eq]; decide
theorem op_add_str : OpR X (binaryOp .Add) (fun x y H Q => ∃ i j, x = .str i /\ y = .str j /\ i.length + j.length <= sizeLine /\ Q (.str (i ++ j)) H) := by
  intro pins s σ H x y v u Q I rx ry h
  obtain ⟨i, j, rfl, rfl, hz, q⟩ := h
  obtain ⟨t, rfl⟩ := rx
  obtain ⟨t', rfl⟩ := ry
  exact add_str (fun t' tk => ⟨.str (i ++ j), H, I.tok _, ⟨_, rfl⟩, q⟩) hz
theorem vals1 {x : V} {us : List Value} (r : Vals [x] us) : ∃ u, us = [u] /\ RelV x u := by
  cases r with
  | cons r1 r2 => cases r2; exact ⟨_, rfl, r1⟩
theorem vals2 {x y : V} {us : List Value} (r : Vals [x, y] us) : ∃ u w', us = [u, w'] /\ RelV x u /\ RelV y w' := by
  cases r with
  | cons r1 r2 =>
    cases r2 with
    | cons r3 r4 => cases r4; exact ⟨_, _, rfl, r1, r3⟩
theorem call_abs : CallR X (.builtin "abs") (fun xs H Q => ∃ i, xs = [.int i] /\ Q (.int (if i < 0 then -i else i)) H) := by
  intro pins s σ H xs us Q I r h
  obtain ⟨i, rfl, q⟩ := h
  obtain ⟨u, rfl, t, rfl⟩ := vals1 r
  exact call_abs_int fun u tk => ⟨.int (if i < 0 then -i else i), H, I.tok _, ⟨_, rfl⟩, q⟩
theorem call_max2 (hc : X.calm = true) : CallR X (.builtin "max") (fun xs H Q => ∃ i j, xs = [.int i, .int j] /\ Q (.int (if j > i then j else i)) H) := by
  intro pins s σ H xs us Q I r h
  obtain ⟨i, j, rfl, q⟩ := h
  obtain ⟨u, w', rfl, ⟨t, rfl⟩, ⟨t', rfl⟩⟩ := vals2 r
  refine max_two_ints (I.ok.hd hc) fun h' tk k => ⟨_, H, I.kept k, ?_, q⟩
  by_cases hj : j > i
  . rw [if_pos hj, if_pos hj]; exact ⟨_, rfl⟩
  . rw [if_neg hj, if_neg hj]; exact ⟨_, rfl⟩
theorem call_min2 (hc : X.calm = true) : CallR X (.builtin "min") (fun xs H Q => ∃ i j, xs = [.int i, .int j] /\ Q (.int (if j < i then j else i)) H) := by
  intro pins s σ H xs us Q I r h
  obtain ⟨i, j, rfl, q⟩ := h
  obtain ⟨u, w', rfl, ⟨t, rfl⟩, ⟨t', rfl⟩⟩ := vals2 r
  refine min_two_ints (I.ok.hd hc) fun h' tk k => ⟨_, H, I.kept k, ?_, q⟩
  by_cases hj : j < i
  . rw [if_pos hj, if_pos hj]; exact ⟨_, rfl⟩
  . rw [if_neg hj, if_neg hj]; exact ⟨_, rfl⟩
theorem call_int1 : CallR X (.type "int") (fun xs H Q => (∃ i, xs = [.int i] /\ Q (.int i) H) \/ ∃ k, xs = [.bl k] /\ Q (.int (if k then 1 else 0)) H) := by
  intro pins s σ H xs us Q I r h
  rcases h with ⟨i, rfl, q⟩ | ⟨k, rfl, q⟩
  . obtain ⟨u, rfl, t, rfl⟩ := vals1 r
    exact call_int_int ⟨.int i, H, I, ⟨_, rfl⟩, q⟩
  . obtain ⟨u, rfl, r1⟩ := vals1 r
    cases r1
    exact call_int_bool ⟨.int (if k then 1 else 0), H, I.tok _, ⟨_, rfl⟩, q⟩
def LenV (K : PySem.W.Frag) (x : V) (H : Hp) (n : Nat) : Prop :=
  match x with
  | .str y => y.length <= sizeLine /\ n = y.length
  | .byt y => y.size <= sizeLine /\ n = y.size
  | .ref p => (∃ xs, SqL K H p xs /\ n = xs.length) \/ ∃ xs, SqT K H p xs /\ n = xs.length
  | _ => False
theorem call_len : CallR X (.builtin "len") (fun xs H Q => ∃ x n, xs = [x] /\ LenV X.K x H n /\ Q (.int n) H) := by
  intro pins s σ H xs us Q I r h
  obtain ⟨x, n, rfl, e, q⟩ := h
  obtain ⟨u, rfl, rx⟩ := vals1 r
  have hl := line63
  have hs : sizeLine = 16777216 := sizeLine_eq
  cases x with
  | str y =>
    obtain ⟨t, rfl⟩ := rx
    obtain ⟨hy, e'⟩ : y.length <= sizeLine /\ n = y.length := e
    subst e'
    exact len_str (by omega) ⟨.int _, H, I.tok _, ⟨_, rfl⟩, q⟩
  | byt y =>
    obtain ⟨t, rfl⟩ := rx
    obtain ⟨hy, e'⟩ : y.size <= sizeLine /\ n = y.size := e
    subst e'
    exact PySem.W.len_bytes (by omega) ⟨.int _, H, I.tok _, ⟨_, rfl⟩, q⟩
  | ref p =>
    cases rx
    have e' : (∃ xs, SqL X.K H p xs /\ n = xs.length) \/ ∃ xs, SqT X.K H p xs /\ n = xs.length := e
    rcases e' with ⟨xs, hx, e'⟩ | ⟨xs, hx, e'⟩
    . subst e'
      obtain ⟨its, r', pl, hz⟩ := I.list hx
      have hlen := r'.length
      exact Calls.call_len_list pl.isList (by simp only [List.size_toArray]; omega) ⟨.int xs.length, H, I.tok _, ⟨_, by simp only [List.size_toArray]; rw [hlen]⟩, q⟩
    . subst e'
      obtain ⟨its, r', pl, hz⟩ := I.tuple hx
      have hlen := r'.length
      exact len_tuple pl (by simp only [List.size_toArray]; omega) ⟨.int xs.length, H, I.tok _, ⟨_, by simp only [List.size_toArray]; rw [hlen]⟩, q⟩
  | _ => exact (show False from e).elim
end
structure ObjM (h : Heap) (x dx C : Addr) (mA : Str -> Option Value) : Prop where
  obj : h.get? x = some (PySem.W.instObj C dx)
  ns : h.Ns1 dx mA
  ne : dx ≠ x
section
variable {prog : Program} {w : World} {A : Around} {E : Value -> Shared -> Prop} {s : Shared} {K : PySem.W.Frag} {x dx C f : Addr} {mA : Str -> Option Value} {name : Str} {v : Value}
end
theorem RelO.some_of {v : V} {o : Option Value} (r : RelO (some v) o) : ∃ u, o = some u /\ RelV v u := by
  cases o with
  | none => exact (show False from r).elim
  | some u => exact ⟨u, rfl, r⟩
section
variable {P : Program} {w : World} {H H' : Hp} {h h' : Heap} {a C dx : Addr} {fs fs' : List (Str × V)}
end
structure Cls (K : PySem.W.Frag) (C : Addr) : Prop where
  pg : PySem.W.plainGet K C Str.empty = true
  hd : PySem.W.hasDictIn K C = true
  po : PySem.W.plainOver K C = true
  sa : PySem.W.findIn K (.ref C) "__setattr__" = some (some (.builtin "object.__setattr__"))
theorem Cls.get {K : PySem.W.Frag} {C : Addr} (c : Cls K C) (f : Str) : PySem.W.plainGet K C f = true := c.pg
structure Con (K : PySem.W.Frag) (C : Addr) (f : Str) (v : V) (u : Value) : Prop where
  at_ : PySem.W.findIn K (.ref C) f = some (some u)
  rel : RelV v u
  get : PySem.W.specialIn K u "__get__" = some none
  cp : PySem.W.copiedNames.contains f = false
structure Meth (K : PySem.W.Frag) (C : Addr) (m : Str) (f : Addr) : Prop where
  at_ : PySem.W.findIn K (.ref C) m = some (some (.ref f))
  fn : PySem.W.isFn K (.ref f) = true
  kp : PySem.W.keepIn K (.ref f) = true
section
variable {X : Cx} {pins : List (Addr × Obj)} {σ : St} {H : Hp} {s : Shared} {a C dx : Addr} {fs : List (Str × V)} {f : Str} {v : V} {A : Around} {E : Value -> Shared -> Prop}
end
section
variable {X : Cx} {o e value : Expr} {f : Str} {pos pos' tpos : Pos} {ta tv : TE}
end
section
variable {X : Cx} {pins : List (Addr × Obj)} {σ : St} {H : Hp} {s : Shared} {A : Around} {E : Value -> Shared -> Prop} {Q : Value -> Shared -> Prop} {c : Value} {b : Bool}
inductive TyOf (K : PySem.W.Frag) (H : Hp) : V -> Value -> Prop where
  | non : TyOf K H .non (.type "NoneType")
  | bl (x : Bool) : TyOf K H (.bl x) (.type "bool")
  | int (i : Int) : TyOf K H (.int i) (.type "int")
  | str (x : Str) : TyOf K H (.str x) (.type "str")
  | flt (x : UInt64) : TyOf K H (.flt x) (.type "float")
  | lst {a : Addr} {xs : List V} (e : H a = some (.lst xs)) : TyOf K H (.ref a) (.type "list")
  | frz {a : Addr} {o : Obj} {xs : List V} (e : H a = some (.frz o (.lst xs))) : TyOf K H (.ref a) (.type "list")
  | tup {a : Addr} {xs : List V} (e : H a = some (.tup xs)) : TyOf K H (.ref a) (.type "tuple")
  | dK {a : Addr} {kvs : List (Key × V)} (e : H a = some (.dK kvs)) : TyOf K H (.ref a) (.type "dict")
  | dT {a : Addr} {kvs : List (List Key × V)} (e : H a = some (.dT kvs)) : TyOf K H (.ref a) (.type "dict")
  | ins {a C dx : Addr} {fs : List (Str × V)} (e : H a = some (.ins C dx fs)) (cl : Cls K C) (ha : PySem.W.findIn K (.ref C) "__class__" = some (some (.builtin "object.__class__")))
      (hn : PySem.W.specialIn K (.builtin "object.__class__") "__get__" = some (some (.builtin "getset_descriptor.__get__"))) (htk : PySem.W.takesIn K (.builtin "object.__class__") = some true)
      (hm : PySem.W.mroIn K C (.type "object") = some true) : TyOf K H (.ref a) (.ref C)
end
structure Room (k : Nat) (A : Around) : Prop where
  hd : A.handled = none
  dp : A.depth + 3 * k + 5 < recursionLimit
  un : A.units + 16 * k + 200 < cLine
  gd : A.guards = some []
theorem Room.mono {j k : Nat} {A : Around} (r : Room k A) (h : j <= k) : Room j A := ⟨r.hd, by have := r.dp; omega, by have := r.un; omega, r.gd⟩
theorem Room.deeper {k : Nat} {A : Around} (r : Room (k + 1) A) (env : Env) : Room k (A.deeper env) :=
  ⟨r.hd, by have := r.dp; show A.depth + 1 + 3 * k + 5 < _; omega, by have := r.un; show A.units + 3 + 16 * k + 200 < _; omega, r.gd⟩
theorem Room.depth {k : Nat} {A : Around} (r : Room k A) : A.depth < recursionLimit := by have := r.dp; omega
def tNil : TA := fun _ H Q => Q [] H
def tCons (ta : TE) (tr : TA) : TA := fun σ H Q => ta σ H fun x H1 => tr σ H1 fun xs H2 => Q (x :: xs) H2
section
variable {X : Cx} {e : Expr} {es : List Expr} {te : TE} {t : TA} {pos : Pos}
theorem pa_nil : PA X [] tNil := fun _ _ _ _ H Q I h => Calls.spliced_nil ⟨[], H, I, .nil, h⟩
theorem pa_cons (ha : PE X e te) (hr : PA X es t) (hs : starEach (e :: es) X.env = (false, eval e X.env) :: starEach es X.env := by rfl) : PA X (e :: es) (tCons te t) := by
  intro pos pins s σ H Q I h
  rw [hs]
  show wpAny _ _ (spliced ((false, eval e X.env) :: backTo pos (starEach es X.env))) _ _ s
  refine Calls.spliced_cons (thn (ha pins s σ H _ I h) fun u s1 ⟨x, H1, I1, r1, q1⟩ => ?_)
  exact thn (hr pos pins s1 σ H1 _ I1 q1) fun us s2 ⟨xs, H2, I2, r2, q2⟩ => ⟨x :: xs, H2, I2, .cons r1 r2, q2⟩
def tTup (t : TA) : TE := fun σ H Q => t σ H fun xs H1 => xs.length <= sizeLine /\ ∀ p, H1 p = none -> Q (.ref p) (upd H1 p (.tup xs))
def tLst (t : TA) : TE := fun σ H Q => t σ H fun xs H1 => xs.length <= sizeLine /\ ∀ p, H1 p = none -> Q (.ref p) (upd H1 p (.lst xs))
theorem pe_tup {x1} (h : PA X es t) : PE X (.Tuple es x1 pos) (tTup t) := by
  intro pins s σ H Q I hq
  refine wpAny_Tuple_spliced (thn (h pos pins s σ H _ I hq) fun us s1 ⟨xs, H1, I1, r, z, q⟩ => ⟨by rw [<- r.length]; exact z, ?_⟩)
  have hf : H1 s1.heap.objs.size = none := I1.hok.fresh (Nat.le_refl _)
  refine ⟨.ref s1.heap.objs.size, upd H1 s1.heap.objs.size (.tup xs), I1.laid (t' := s1.toks) (fun b u e => Heap.get?_push_of_some _ e) (Nat.le_refl _) ?_, rfl, q _ hf⟩
  exact ⟨z, us, r, ⟨_, Heap.get?_push_size _ rfl, rfl, ⟨_, rfl⟩, rfl⟩⟩
theorem pe_lst (h : PA X es t) : PE X (.List es pos) (tLst t) := by
  intro pins s σ H Q I hq
  refine wpAny_List_spliced (thn (h pos pins s σ H _ I hq) fun us s1 ⟨xs, H1, I1, r, z, q⟩ => ⟨by rw [<- r.length]; exact z, ?_⟩)
  have hf : H1 s1.heap.objs.size = none := I1.hok.fresh (Nat.le_refl _)
  refine ⟨.ref s1.heap.objs.size, upd H1 s1.heap.objs.size (.lst xs), I1.laid (t' := s1.toks) (fun b u e => Heap.get?_push_of_some _ e) (Nat.le_refl _) ?_, rfl, q _ hf⟩
  exact ⟨z, us, 0, r, Heap.get?_push_size _ rfl⟩
end
abbrev Sp := List V -> Hp -> VK -> XK -> Prop
abbrev CXT := List Env -> Hp -> Shared -> XK -> Value -> Shared -> Prop
structure Env0 (P : Program) (w : World) (K : PySem.W.Frag) (mg : Str -> Option Value) (base : Heap) (A : Around) (outer : List Env) (s : Shared) (H : Hp) : Prop where
  frames : A.frames = some outer
  mod : Mod K mg base
  bs : ∀ b o, base.get? b = some o -> s.heap.get? b = some o /\ H b = none
  bsz : base.objs.size <= s.heap.objs.size
  funs : s.heap.FunFrames base outer
  frf : ∀ b ∈ frs outer, H b = none
  hok : HOk P w H s.heap
  bare : AllBare s.gens
def CE (outer : List Env) (P : Program) (w : World) (H : Hp) (s : Shared) (Q : VK) (u : Value) (s' : Shared) : Prop :=
  ∃ v H', s'.os = s.os /\ AllBare s'.gens /\ Un (frs outer) [] H H' s.heap s'.heap /\ HOk P w H' s'.heap /\ RelV v u /\ Q v H'
def CR (CX : CXT) (outer : List Env) (P : Program) (w : World) (H : Hp) (s : Shared) (Q : VK) (E : XK) (r : Result) (s' : Shared) : Prop :=
  match r with
  | .ok (.ret u) => CE outer P w H s Q u s'
  | .ok _ => False
  | .error e => CX outer H s E e s'
structure FnOk (P : Program) (w : World) (K : PySem.W.Frag) (mg : Str -> Option Value) (base : Heap) (CX : CXT) (k : Nat) (f : Addr) (fd : FuncData) (ps : List Str) (sp : Sp) : Prop where
  len : ∀ vs H Q E, sp vs H Q E -> vs.length = ps.length
  run : ∀ (A : Around) (outer : List Env) (s : Shared) (H : Hp) (args : Args) (us : List Value) (vs : List V) (Q : VK) (E : XK), Room k A -> Env0 P w K mg base A outer s H -> BindsTo s fd args (ps.zip us) -> Vals vs us -> sp vs H Q E ->
    codeAny (model P w) A (.call (.ref f) args) (CR CX outer P w H s Q E) s
section
variable {X : Cx} {pins : List (Addr × Obj)} {σ : St} {H : Hp} {s s' : Shared}
theorem Inv.env0 (I : Inv X pins σ H s) : Env0 X.prog X.w X.K X.mg X.base X.A X.stack s H :=
  ⟨I.ok.frames, I.ok.mod, I.bs, Nat.le_trans I.ok.bsz I.sz, I.stack, I.stkFree, I.hok, I.bare⟩
theorem Inv.after {Q : VK} {u : Value} (I : Inv X pins σ H s) (h : CE X.stack X.prog X.w H s Q u s') : EP X pins σ Q u s' := by
  obtain ⟨v, H', os, bare, un, hok, r, q⟩ := h
  obtain ⟨hh, g, d, t, os'⟩ := s'
  obtain rfl : os' = s.os := os
  exact ⟨v, H', I.call (h' := hh) (g' := g) (d' := d) (t' := t) (ch := []) un hok bare (fun b z => absurd z (by simp)), r, q⟩
end
def tCall (sp : Sp) (dvs : List V) (E : XK) (t : TA) : TE := fun σ H Q => t σ H fun vs H1 => sp (vs ++ dvs) H1 Q E
def Binds (K : PySem.W.Frag) (fd : FuncData) (ps : List Str) (ds : List Value) : Prop :=
  ∀ (s : Shared) (us : List Value), K.In s.heap -> (us ++ ds).length = ps.length -> BindsTo s fd ⟨us, []⟩ (ps.zip (us ++ ds))
theorem Binds.all {K : PySem.W.Frag} {fd : FuncData} {ps : List Str} (h : ∀ us : List Value, us.length = ps.length -> bindArgs fd ⟨us, []⟩ = pure (ps.zip us)) : Binds K fd ps [] := fun s us _ hl => by
  rw [List.append_nil] at hl ⊢
  exact .of_eq (h us hl)
def Passes (CX : CXT) (X : Cx) (E : XK) : Prop := ∀ (pins : List (Addr × Obj)) (σ : St) (H : Hp) (s : Shared) (e : Value) (s' : Shared), Inv X pins σ H s -> CX X.stack H s E e s' -> X.xe e s'
section
variable {X : Cx} {CX : CXT} {k : Nat} {f C : Addr} {fd : FuncData} {ps : List Str} {sp : Sp} {dvs : List V} {ds : List Value} {E : XK} {x m : Str} {p pos apos : Pos} {e o : Expr} {es : List Expr} {ta : TE} {t : TA}
theorem run_fn {pins : List (Addr × Obj)} {σ : St} {H : Hp} {s : Shared} {Q : VK} {us : List Value} {vs : List V} (F : FnOk X.prog X.w X.K X.mg X.base CX k f fd ps sp) (hr : Room k X.A) (hb : Binds X.K fd ps ds) (hd : Vals dvs ds) (hx : Passes CX X E)
    (I : Inv X pins σ H s) (r : Vals vs us) (h : sp (vs ++ dvs) H Q E) : wpAny (model X.prog X.w) X.A (call (.ref f) us) (EP X pins σ Q) X.xe s := by
  have r2 : Vals (vs ++ dvs) (us ++ ds) := r.append hd
  have hl : (us ++ ds).length = ps.length := by rw [<- r2.length]; exact F.len _ _ _ _ h
  refine wpAny_call (codeAny_mono (F.run X.A X.stack s H ⟨us, []⟩ (us ++ ds) (vs ++ dvs) Q E hr I.env0 (hb s us I.kIn hl) r2 h) fun r s' hq => ?_)
  cases r with
  | error e => exact hx pins σ H s e s' I hq
  | ok fl =>
    cases fl with
    | ret u => exact I.after hq
    | next => exact False.elim hq
    | brk => exact False.elim hq
    | cont => exact False.elim hq
theorem pe_call (F : FnOk X.prog X.w X.K X.mg X.base CX k f fd ps sp) (hr : Room k X.A) (hg : Gl X x) (hm : X.mg x = some (.ref f)) (hk : PySem.W.keepIn X.K (.ref f) = true) (hb : Binds X.K fd ps ds) (hd : Vals dvs ds) (hx : Passes CX X E)
    (ha : PA X (e :: es) t) (hdb : (x == ("__debug__" : Str)) = false := by decide) (he : starEach (e :: es) X.env = (false, eval e X.env) :: starEach es X.env := by rfl) (hpl : (backTo pos (starEach es X.env)).any (·.1) = false := by rfl) :
    PE X (.Call (.Name x p) (e :: es) [] pos) (tCall sp dvs E t) := by
  intro pins s σ H Q I h
  refine wpAny_Call_Name_kw (ld_glob I hg hm ?_ hdb)
  refine PySem.W.callWith_K (h₀ := X.base) I.ok.mod.kin hk (thn (ha pos pins s σ H _ I h) fun us s1 ⟨vs, H1, I1, r, q⟩ => ⟨I1.kIn, ?_⟩) he hpl
  exact run_fn F hr hb hd hx I1 r q
structure Mk (K : PySem.W.Frag) (C f : Addr) : Prop where
  makes : PySem.W.makesIn K C = true
  init : PySem.W.findIn K (.ref C) "__init__" = some (some (.ref f))
  fn : PySem.W.isFn K (.ref f) = true
  kp : PySem.W.keepIn K (.ref C) = true
end
section
variable {X : Cx} {CX : CXT} {k : Nat} {f C : Addr} {fd : FuncData} {ps ks : List Str} {sp : Sp} {E : XK} {x m : Str} {p pos apos kpos : Pos} {e o : Expr} {es : List Expr} {kws : List Keyword} {te ta : TE} {t tk : TA} {nm : Option Str}
structure KBinds (K : PySem.W.Frag) (fd : FuncData) (ps ks : List Str) (g : List Value -> List Value -> List Value) (gV : List V -> List V -> List V) : Prop where
  to : ∀ (s : Shared) (us ws : List Value), K.In s.heap -> (g us ws).length = ps.length -> BindsTo s fd ⟨us, ks.zip ws⟩ (ps.zip (g us ws))
  rel : ∀ {vs : List V} {us : List Value} {zs : List V} {ws : List Value}, Vals vs us -> Vals zs ws -> Vals (gV vs zs) (g us ws)
variable {g : List Value -> List Value -> List Value} {gV : List V -> List V -> List V}
end
structure FnScope (N P : List Str) (sc : Scope) : Prop where
  kind : sc.kind = .function
  co : sc.isCoroutine = false
  gen : sc.isGenerator = false
  nd : N.Nodup
  pre : N.take P.length = P
  par : ∀ x ∈ P, sc.names.lookup x = some .local \/ sc.names.lookup x = some .cell
  nofree : ∀ y ∈ sc.names, y.2 ≠ .free
theorem bindL_out {kindOf : Str -> Option NameKind} {x : Str} : ∀ {binds : List (Str × Value)} {m : Str -> Option Value}, (∀ v, (x, v) ∉ binds) -> bindL kindOf binds m x = m x
  | [], _, _ => rfl
  | (n, v) :: r, m, h => by
    unfold bindL
    rw [bindL_out fun w hw => h w (List.mem_cons_of_mem _ hw)]
    split
    . have : x ≠ n := by rintro rfl; exact h v List.mem_cons_self
      simp [this]
    . rfl
theorem bindC_out {kindOf : Str -> Option NameKind} {x : Str} : ∀ {binds : List (Str × Value)} {m : Str -> Option Value}, (∀ v, (x, v) ∉ binds) -> bindC kindOf binds m x = m x
  | [], _, _ => rfl
  | (n, v) :: r, m, h => by
    unfold bindC
    rw [bindC_out fun w hw => h w (List.mem_cons_of_mem _ hw)]
    split
    . rfl
    . have : x ≠ n := by rintro rfl; exact h v List.mem_cons_self
      simp [this]
theorem bindL_get {kindOf : Str -> Option NameKind} {x : Str} {v : Value} : ∀ {P : List Str} {vs : List Value} {i : Nat} {m : Str -> Option Value}, P.Nodup -> P[i]? = some x -> vs[i]? = some v -> kindOf x = some .local ->
    bindL kindOf (P.zip vs) m x = some v
  | [], _, _, _, _, h, _, _ => by simp at h
  | _ :: _, [], _, _, _, _, h, _ => by simp at h
  | p :: P, w :: vs, 0, m, nd, h1, h2, hk => by
    simp at h1 h2; subst h1; subst h2
    show bindL kindOf ((p, w) :: P.zip vs) m p = _
    unfold bindL
    rw [bindL_out fun v hv => (List.nodup_cons.mp nd).1 (List.of_mem_zip hv).1, if_pos hk]
    simp
  | p :: P, w :: vs, i + 1, m, nd, h1, h2, hk => by
    show bindL kindOf ((p, w) :: P.zip vs) m x = _
    unfold bindL
    exact bindL_get (i := i) (List.nodup_cons.mp nd).2 (by simpa using h1) (by simpa using h2) hk
theorem bindC_get {kindOf : Str -> Option NameKind} {x : Str} {v : Value} : ∀ {P : List Str} {vs : List Value} {i : Nat} {m : Str -> Option Value}, P.Nodup -> P[i]? = some x -> vs[i]? = some v -> kindOf x ≠ some .local ->
    bindC kindOf (P.zip vs) m x = some v
  | [], _, _, _, _, h, _, _ => by simp at h
  | _ :: _, [], _, _, _, _, h, _ => by simp at h
  | p :: P, w :: vs, 0, m, nd, h1, h2, hk => by
    simp at h1 h2; subst h1; subst h2
    show bindC kindOf ((p, w) :: P.zip vs) m p = _
    unfold bindC
    rw [bindC_out fun v hv => (List.nodup_cons.mp nd).1 (List.of_mem_zip hv).1, if_neg hk]
    simp
  | p :: P, w :: vs, i + 1, m, nd, h1, h2, hk => by
    show bindC kindOf ((p, w) :: P.zip vs) m x = _
    unfold bindC
    exact bindC_get (i := i) (List.nodup_cons.mp nd).2 (by simpa using h1) (by simpa using h2) hk
def start (N : List Str) (vs : List V) : St := vs.map some ++ List.replicate (N.length - vs.length) none
def cxOf (CX : CXT) (P : Program) (w : World) (K : PySem.W.Frag) (mg : Str -> Option Value) (base : Heap) (N : List Str) (qual : Str) (scope : Scope) (f : Addr) (cd : Value) (A : Around) (outer : List Env) (s : Shared) (H : Hp) (E : XK) : Cx where
  prog := P
  w := w
  K := K
  mg := mg
  base := base
  A := A.deeper (envOfC qual scope s.heap.objs.size f cd)
  N := N
  s₀ := s
  H₀ := H
  env := envOfC qual scope s.heap.objs.size f cd
  outer := outer
  stack := envOfC qual scope s.heap.objs.size f cd :: outer
  ex := []
  calm := true
  fn := fun _ => true
  pn := []
  xe := fun e s' => wpAny (model P w) (A.deeper (envOfC qual scope s.heap.objs.size f cd)) (leaving (envOfC qual scope s.heap.objs.size f cd) e) (fun _ s'' => CX outer H s E e s'') (fun e' s'' => CX outer H s E e' s'') s'
theorem cell_has {sc : Scope} {n : Nat} {x : Str} (h : sc.names.lookup x = some .cell) : ∃ c, (cellsFrom n sc.names []).lookup x = some c := by
  have q := PySem.W.cellsFrom_some sc.names n [] (.inl h)
  exact Option.isSome_iff_exists.mp q
theorem inv_start {CX : CXT} {P : Program} {w : World} {K : PySem.W.Frag} {mg : Str -> Option Value} {base : Heap} {N ps : List Str} {qual : Str} {scope : Scope} {f : Addr} {cd : Value} {A : Around} {outer : List Env} {s s1 : Shared} {H : Hp} {E : XK} {us : List Value} {vs : List V}
    (S : FnScope N ps scope) (hd : A.handled = none) (e0 : Env0 P w K mg base A outer s H) (hl : vs.length = ps.length) (r : Vals vs us)
    (x : InCallC s s.heap.objs.size (bindL (envOfC qual scope s.heap.objs.size f cd).kindOf (ps.zip us) fun _ => none) (cellsFrom (s.heap.objs.size + 1) scope.names []) (bindC (envOfC qual scope s.heap.objs.size f cd).kindOf (ps.zip us) fun _ => none) s1) :
    Inv (cxOf CX P w K mg base N qual scope f cd A outer s H E) [] (start N vs) H s1 := by
  have hpl : ps.length <= N.length := by have := congrArg List.length S.pre; rw [List.length_take] at this; omega
  obtain ⟨h1, tk, rfl, hk⟩ := x.done
  have noA : ∀ b : Addr, b ∉ (cxOf CX P w K mg base N qual scope f cd A outer s H E).ex := fun b z => absurd (show b ∈ ([] : List Addr) from z) (by simp)
  refine ⟨⟨e0.mod, S.kind, rfl, rfl, Nat.le_refl _, fun y z c h1 h2 => ?_, fun y hy => ?_, fun y c _ h => ?_, fun _ => hd, Around.frames_deeper e0.frames, .inr ⟨rfl, rfl⟩, fun b z => absurd z (noA b), e0.bs, e0.bsz, fun b _ _ => noA b, fun b z => absurd z (noA b), e0.funs, e0.frf⟩,
    rfl, e0.bare, Un.kept hk, ⟨_, x.toInCall.ns, fun i y v h1 h2 h3 => ?_⟩, fun y c h => ⟨_, x.cell y c h⟩, e0.hok.fresh (Nat.le_refl _), fun y c h => ?_, fun p hp => absurd (show p ∈ ([] : List (Addr × Obj)) from hp) (by simp), e0.hok.kept hk, ?_⟩
  . exact name_of_addr x.apart (PySem.mem_of_lookup h1) (PySem.mem_of_lookup h2)
  . have hy : scope.names.lookup y = some .cell \/ scope.names.lookup y = some .free := hy
    rcases hy with hy | hy
    . exact cell_has hy
    . exact absurd rfl (S.nofree _ (PySem.mem_of_lookup hy))
  . exact Nat.le_of_lt (x.above y c (PySem.mem_of_lookup h))
  . have hi : i < vs.length := by
      unfold start at h2
      by_cases hi : i < vs.length
      . exact hi
      . rw [List.getElem?_append_right (by simpa using hi)] at h2
        rw [List.getElem?_replicate] at h2
        split at h2 <;> cases h2
    have ha : vs[i]? = some v := by
      unfold start at h2
      rw [List.getElem?_append_left (by simpa using hi), List.getElem?_map] at h2
      cases e : vs[i]? with
      | none => rw [e] at h2; cases h2
      | some a => rw [e] at h2; cases h2; rfl
    obtain ⟨u, hu, rv⟩ := r.get ha
    have hp : ps[i]? = some y := by
      rw [<- S.pre, List.getElem?_take_of_lt (by omega)]; exact h1
    have ndP : ps.Nodup := by rw [<- S.pre]; exact S.nd.sublist (List.take_sublist _ _)
    refine ⟨u, rv, ?_⟩
    rcases S.par y (List.mem_of_getElem? hp) with k | k
    . exact .inl ⟨k, bindL_get ndP hp hu k⟩
    . obtain ⟨c, e⟩ := cell_has (n := s.heap.objs.size + 1) k
      refine .inr ⟨.inl k, c, e, ?_⟩
      have q := x.cell y c e
      rw [bindC_get ndP hp hu (by show scope.names.lookup y ≠ _; rw [k]; decide)] at q
      exact q
  . exact e0.hok.fresh (Nat.le_of_lt (x.above y c (PySem.mem_of_lookup h)))
  . unfold start
    show _ = N.length
    rw [List.length_append, List.length_map, List.length_replicate]
    omega
theorem fn_of {CX : CXT} {P : Program} {w : World} {K : PySem.W.Frag} {mg : Str -> Option Value} {base : Heap} {k : Nat} {f : Addr} {name qual : Str} {params : Arguments} {body : List Stmt} {scope : Scope} {dV kV doc pm cdv ct oc : Value} {an od : Option Addr}
    {osl : Array (Option Value)} {N ps : List Str} {sp : Sp} (lk : K.lookup f = some ⟨oc, od, .func (PySem.W.fnOf name qual params body scope dV kV doc pm an cdv ct), osl⟩) (hcd : PySem.W.codeIn K cdv qual = true) (S : FnScope N ps scope)
    (len : ∀ vs H Q E, sp vs H Q E -> vs.length = ps.length)
    (hbody : ∀ (A : Around) (outer : List Env) (s : Shared) (H : Hp) (vs : List V) (Q : VK) (E : XK), Room k (A.deeper (envOfC qual scope s.heap.objs.size f cdv)) -> sp vs H Q E ->
      ∃ t, PSs (cxOf CX P w K mg base N qual scope f cdv A outer s H E) body t /\ t { nx := fun _ H' => Q .non H', rt := Q } (start N vs) H) :
    FnOk P w K mg base CX (k + 1) f (PySem.W.fnOf name qual params body scope dV kV doc pm an cdv ct) ps sp := by
  refine ⟨len, fun A outer s H args us vs Q E hr e0 hb r hsp => ?_⟩
  have hl := len _ _ _ _ hsp
  have KX : K.In s.heap := e0.mod.kin.keeps fun b o e => (e0.bs b o e).1
  have lim : s.heap.NoLimit := e0.mod.nolimit.keeps fun b o e => (e0.bs b o e).1
  have hkind : ∀ y ∈ ps.zip us, scope.names.lookup y.1 = some .local \/ (scope.names.lookup y.1 = some .cell /\ ((cellsFrom (s.heap.objs.size + 1) scope.names []).lookup y.1).isSome = true) := fun ⟨n, v⟩ hy => by
    rcases S.par n (List.of_mem_zip hy).1 with q | q
    . exact .inl q
    . exact .inr ⟨q, PySem.W.cellsFrom_some _ _ _ (.inl q)⟩
  refine codeAny_call_function hr.depth (KX _ _ lk) rfl S.co S.gen rfl (PySem.W.codeRec_of KX hcd) (hb _ _ _ _ ?_)
  refine wpAny_newFunctionEnv_cells S.kind hkind fun env he s1 x => ?_
  subst he
  refine ⟨lim.keeps x.toInCall.keep, codeAny_func ?_⟩
  obtain ⟨t, ht, hq⟩ := hbody A outer s H vs Q E (hr.deeper _) hsp
  have I : Inv (cxOf CX P w K mg base N qual scope f cdv A outer s H E) [] (start N vs) H s1 := inv_start S hr.hd e0 hl r x
  refine wpAny_mono (ht [] s1 (start N vs) H _ I hq) (fun fl s' hs => ?_) fun e s' hs => hs
  have fin : ∀ {σ' : St} {H' : Hp} {v : V} {u : Value}, Inv (cxOf CX P w K mg base N qual scope f cdv A outer s H E) [] σ' H' s' -> RelV v u -> Q v H' -> CE outer P w H s Q u s' :=
    fun {σ' H' v u} J rv q => ⟨v, H', J.os, J.bare, J.base, J.hok, rv, q⟩
  cases fl with
  | ret u =>
    obtain ⟨v, σ', H', J, rv, q⟩ := hs
    exact fin J rv q
  | next =>
    obtain ⟨σ', H', J, q⟩ := hs
    exact fin (v := V.non) (u := Value.none) J rfl q
  | brk =>
    obtain ⟨_, _, _, q⟩ := hs
    exact False.elim q
  | cont =>
    obtain ⟨_, _, _, q⟩ := hs
    exact False.elim q
section
variable {X : Cx} {x : Str} {p pos : Pos} {e : Expr} {es : List Expr} {t : TA} {id T : String} {r : List V -> Hp -> VK -> Prop}
def tCB (r : List V -> Hp -> VK -> Prop) (t : TA) : TE := fun σ H Q => t σ H fun vs H1 => r vs H1 Q
theorem pe_callB (hc : CallR X (.builtin id) r) (hg : Gl X x) (hm : X.mg x = none) (hv : bootBuiltins x = some (.builtin id)) (ha : PA X (e :: es) t) (hn : x ≠ "__name__" := by decide) (hdb : (x == ("__debug__" : Str)) = false := by decide)
    (he : starEach (e :: es) X.env = (false, eval e X.env) :: starEach es X.env := by rfl) (hpl : (backTo pos (starEach es X.env)).any (·.1) = false := by rfl) : PE X (.Call (.Name x p) (e :: es) [] pos) (tCB r t) := by
  intro pins s σ H Q I h
  refine wpAny_Call_Name_kw (ld_blt I hg hm hv ?_ hn hdb)
  exact PyProof.Rows.callWith_builtin1 (thn (ha pos pins s σ H _ I h) fun us s1 ⟨vs, H1, I1, r1, q1⟩ => hc pins s1 σ H1 vs us Q I1 r1 q1) he hpl
theorem pe_callTy (hc : CallR X (.type T) r) (hg : Gl X x) (hm : X.mg x = none) (hv : bootBuiltins x = some (.type T)) (ha : PA X (e :: es) t) (hn : x ≠ "__name__" := by decide) (hdb : (x == ("__debug__" : Str)) = false := by decide)
    (he : starEach (e :: es) X.env = (false, eval e X.env) :: starEach es X.env := by rfl) (hpl : (backTo pos (starEach es X.env)).any (·.1) = false := by rfl) : PE X (.Call (.Name x p) (e :: es) [] pos) (tCB r t) := by
  intro pins s σ H Q I h
  refine wpAny_Call_Name_kw (ld_blt I hg hm hv ?_ hn hdb)
  exact PyProof.Rows.callWith_type1 (thn (ha pos pins s σ H _ I h) fun us s1 ⟨vs, H1, I1, r1, q1⟩ => hc pins s1 σ H1 vs us Q I1 r1 q1) he hpl
end
end L2
namespace HT
open PySem PyProof.Rows
section
open PySem.SeqAt
open PySem.AutoSeq1 (wpAny_loadPart')
open PySem.MeetsSeq PySem.MeetsSeq2 PySem.MeetsSeq3
end
section
variable {prog : Program} {w : World} {A : Around} {E : Value -> Shared -> Prop} {s : Shared}
theorem cat_tup {t b : Addr} {vs ws : List Value} {Q : Value -> Shared -> Prop} (ht : IsTup s.heap t vs.toArray) (hb : IsTup s.heap b ws.toArray) (hv : vs ≠ [])
    (h1 : ws = [] -> Q (.ref t) s) (h2 : ws ≠ [] -> Q (.ref s.heap.objs.size) { s with heap := s.heap.push { cls := .type "tuple", data := .seq (vs ++ ws).toArray } })
    (hsz : vs.length + ws.length <= sizeLine) : wpAny (model prog w) A (binaryOp .Add (.ref t) (.ref b)) Q E s := by
  obtain ⟨⟨cls, dd, data, sl⟩, ho, hc, n, hd⟩ := id ht
  obtain ⟨⟨cls2, dd2, data2, sl2⟩, ho2, hc2, n2, hd2⟩ := id hb
  simp only at hc hd hc2 hd2
  subst hc hd hc2 hd2
  have e : vs.toArray ++ ws.toArray = (vs ++ ws).toArray := by simp
  by_cases hw : ws = []
  . exact concat_meets ⟨_, ho, rfl⟩ ⟨_, ho2, rfl⟩ noFill_tuple_add seq_tuple_add PySem.F.slot_tuple_add PySem.F.entry_tuple_add (PySem.F.args_tuple_add_2 _ _)
      (tuple_addW1 t b vs.toArray ws.toArray n n2 dd dd2 sl sl2 (by simpa using hv) (by simp [hw])) ⟨ho, ho2, h1 hw⟩
  . refine concat_meets ⟨_, ho, rfl⟩ ⟨_, ho2, rfl⟩ noFill_tuple_add seq_tuple_add PySem.F.slot_tuple_add PySem.F.entry_tuple_add (PySem.F.args_tuple_add_2 _ _)
      (tuple_addW2 t b vs.toArray ws.toArray n n2 dd dd2 sl sl2 (by simpa using hv) (by simpa using hw) (by rw [List.size_toArray, List.size_toArray]; exact hsz)) ⟨ho, ho2, ?_⟩
    rw [e]
    exact h2 hw
end
end HT
namespace L2
open PySem PySem.Spec PyProof.Rows
abbrev TO := St -> Hp -> (Option Int -> Hp -> Prop) -> Prop
theorem intsAre_of {ns : List Int} : ∀ {us : List Value}, Vals (ns.map V.int) us -> IntsAre us ns := by
  induction ns with
  | nil => intro us r; rw [List.map_nil] at r; cases r; exact .nil
  | cons n ns ih =>
    intro us r
    rw [List.map_cons] at r
    cases r with
    | cons r1 r2 =>
      obtain ⟨t, e⟩ := r1
      subst e
      exact .cons n t (ih r2)
section
variable {X : Cx} {e : Expr} {te : TE} {lo hi : Option Expr} {tl th : TO} {pos p2 : Pos}
def rCatT (K : PySem.W.Frag) : R2 := fun x y H Q => ∃ a b xs ys, x = .ref a /\ y = .ref b /\ SqT K H a xs /\ SqT K H b ys /\ xs ≠ [] /\ xs.length + ys.length <= sizeLine /\
  (ys = [] -> Q (.ref a) H) /\ (ys ≠ [] -> ∀ p, H p = none -> Q (.ref p) (upd H p (.tup (xs ++ ys))))
theorem Vals.nil_iff {xs : List V} {us : List Value} (r : Vals xs us) : us = [] ↔ xs = [] := by
  cases r with
  | nil => simp
  | cons _ _ => simp
theorem op_catT : OpR X (binaryOp .Add) (rCatT X.K) := by
  intro pins s σ H x y v u Q I rx ry h
  obtain ⟨a, b, xs, ys, rfl, rfl, ha, hb, hx, hz, q1, q2⟩ := h
  cases rx
  cases ry
  obtain ⟨its, r1, p1, _⟩ := I.tuple ha
  obtain ⟨its2, r2, p2, _⟩ := I.tuple hb
  refine HT.cat_tup p1 p2 (fun z => hx (r1.nil_iff.mp z)) (fun z => ⟨.ref a, H, I, rfl, q1 (r2.nil_iff.mp z)⟩) (fun z => ?_) (by rw [<- r1.length, <- r2.length]; exact hz)
  refine ⟨.ref s.heap.objs.size, _, I.laid (t' := s.toks) (o := .tup (xs ++ ys)) (fun b ob q => Heap.get?_push_of_some _ q) (Nat.le_refl _) ?_, rfl, q2 (fun w => z (r2.nil_iff.mpr w)) _ (I.hok.fresh (Nat.le_refl _))⟩
  exact ⟨by rw [List.length_append]; exact hz, _, r1.append r2, IsTupN.new _ _⟩
end
def ixN (n : Nat) (i : Int) : Option Nat := if 0 <= i then (if i < n then some i.toNat else none) else if -(n : Int) <= i then some (i + n).toNat else none
def atI {α : Type} (xs : List α) (i : Int) : Option α := (ixN xs.length i).bind fun j => xs[j]?
theorem ixN_seq {n : Nat} {i : Int} {j : Nat} (h : ixN n i = some j) : seqIndex? i n = some j /\ j < n /\ -(n : Int) <= i /\ i < n := by
  unfold ixN at h
  by_cases h0 : 0 <= i
  . rw [if_pos h0] at h
    by_cases h1 : i < n
    . rw [if_pos h1] at h
      have e : i.toNat = j := Option.some.inj h
      exact ⟨by rw [seqIndex_of h0 h1, e], by omega, by omega, h1⟩
    . rw [if_neg h1] at h; cases h
  . rw [if_neg h0] at h
    by_cases h1 : -(n : Int) <= i
    . rw [if_pos h1] at h
      have e : (i + n).toNat = j := Option.some.inj h
      exact ⟨by rw [seqIndex_neg (by omega) h1, e], by omega, h1, by omega⟩
    . rw [if_neg h1] at h; cases h
theorem atI_get {α : Type} {xs : List α} {i : Int} {v : α} (h : atI xs i = some v) : ∃ j, seqIndex? i xs.length = some j /\ xs[j]? = some v /\ j < xs.length /\ -(xs.length : Int) <= i /\ i < xs.length := by
  unfold atI at h
  cases e : ixN xs.length i with
  | none => rw [e] at h; cases h
  | some j =>
    rw [e] at h
    obtain ⟨h1, h2, h3, h4⟩ := ixN_seq e
    exact ⟨j, h1, h, h2, h3, h4⟩
def PlainIx (b : Expr) : Prop := ∀ o i, subscripted b false o i = operate [o, i] (getItem o i)
def IxR (X : Cx) (r : R2) : Prop :=
  ∀ (value slice : Expr) (pins : List (Addr × Obj)) (s : Shared) (σ : St) (H : Hp) (x y : V) (v u : Value) (Q : VK), Inv X pins σ H s -> RelV x v -> RelV y u -> r x y H Q ->
    subscripted slice false v u = operate [v, u] (getItem v u) -> wpAny (model X.prog X.w) X.A (subscriptTail value slice v u) (EP X pins σ Q) X.xe s
def MtR (X : Cx) (id : String) (r : V -> List V -> Hp -> VK -> Prop) : Prop :=
  ∀ (pins : List (Addr × Obj)) (s : Shared) (σ : St) (H : Hp) (x : V) (xs : List V) (v : Value) (us : List Value) (Q : VK), Inv X pins σ H s -> RelV x v -> Vals xs us -> r x xs H Q ->
    wpAny (model X.prog X.w) X.A (call (.builtin id) (v :: us)) (EP X pins σ Q) X.xe s
section
variable {X : Cx} {a b : Expr} {ta tb : TE} {pos : Pos}
theorem IxR.or {r r' : R2} (h : IxR X r) (h' : IxR X r') : IxR X (fun x y H Q => r x y H Q \/ r' x y H Q) := by
  intro value slice pins s σ H x y v u Q I rx ry q hs
  rcases q with q | q
  . exact h value slice pins s σ H x y v u Q I rx ry q hs
  . exact h' value slice pins s σ H x y v u Q I rx ry q hs
theorem pe_ix {r : R2} (hr : IxR X r) (ha : PE X a ta) (hb : PE X b tb) (hs : PlainIx b) : PE X (.Subscript a b pos) (tOp r ta tb) := by
  intro pins s σ H Q I h
  exact Subscript_ (binT ha hb I h fun v u s2 x y H2 I2 rx ry q => hr a b pins s2 σ H2 x y v u Q I2 rx ry q (hs _ _))
def rIxL (K : PySem.W.Frag) : R2 := fun x y H Q => ∃ p xs i v, x = .ref p /\ y = .int i /\ SqL K H p xs /\ atI xs i = some v /\ Q v H
def rIxT (K : PySem.W.Frag) : R2 := fun x y H Q => ∃ p xs i v, x = .ref p /\ y = .int i /\ SqT K H p xs /\ atI xs i = some v /\ Q v H
def rIxS : R2 := fun x y H Q => ∃ z i c, x = .str z /\ y = .int i /\ z.length <= sizeLine /\ atI z.cps.toList i = some c /\ Q (.str ⟨#[c]⟩) H
theorem ix_list : IxR X (rIxL X.K) := by
  intro value slice pins s σ H x y v u Q I rx ry h hs
  obtain ⟨p, xs, i, z, rfl, rfl, hq, he, q⟩ := h
  cases rx
  obtain ⟨t, rfl⟩ := ry
  obtain ⟨its, r, pl, hz⟩ := I.list hq
  obtain ⟨j, h1, h2, h3, h4, h5⟩ := atI_get he
  obtain ⟨w, ew, rw'⟩ := r.get h2
  have hl := r.length
  have hn := line63
  have fin : EP X pins σ Q w s := ⟨z, H, I, rw', q⟩
  by_cases h0 : 0 <= i
  . have hj : i.toNat = j := by
      rw [seqIndex_of h0 h5] at h1
      exact Option.some.inj h1
    exact item_listR pl.isList h0 (by omega) (by rw [hj]; simpa using ew) fin hs
  . have hj : (i + (its.toArray.size : Int)).toNat = j := by
      rw [seqIndex_neg (by omega) h4] at h1
      rw [List.size_toArray, <- hl]
      exact Option.some.inj h1
    exact subscriptTail_builtinR (x := w) pl.isList.typeIs slot_list_getitem.lookup
      (wpAny_getItem_list_neg (Q := fun r s' => r = w /\ EP X pins σ Q r s') pl.isList (by omega) (by rw [List.size_toArray] <;> omega) (by omega) (by rw [hj]; simpa using ew) ⟨rfl, fin⟩) hs
theorem ix_tup : IxR X (rIxT X.K) := by
  intro value slice pins s σ H x y v u Q I rx ry h hs
  obtain ⟨p, xs, i, z, rfl, rfl, hq, he, q⟩ := h
  cases rx
  obtain ⟨t, rfl⟩ := ry
  obtain ⟨its, r, pl, hz⟩ := I.tuple hq
  obtain ⟨j, h1, h2, h3, h4, h5⟩ := atI_get he
  obtain ⟨w, ew, rw'⟩ := r.get h2
  have hl := r.length
  have hn := line63
  have fin : EP X pins σ Q w s := ⟨z, H, I, rw', q⟩
  exact subscriptTail_builtinR (x := w) pl.typeIs slot_tuple_getitem.lookup
    (getItem_tuple (j := j) (Q := fun r s' => r = w /\ EP X pins σ Q r s') pl (by omega) (by omega) (by rw [List.size_toArray, <- hl]; exact h1) (by simpa using ew) ⟨rfl, fin⟩) hs
theorem ix_str : IxR X rIxS := by
  intro value slice pins s σ H x y v u Q I rx ry h hs
  obtain ⟨z, i, c, rfl, rfl, hz, he, q⟩ := h
  obtain ⟨t, rfl⟩ := rx
  obtain ⟨t', rfl⟩ := ry
  obtain ⟨j, h1, h2, h3, h4, h5⟩ := atI_get he
  have hl : z.cps.toList.length = z.length := by simp [Str.length]
  rw [hl] at h1 h4 h5
  have hn := line63
  exact tail_any (typeIs_str s z t) slot_str_getitem.lookup (getItem_str (c := c) (by
    have e1 : decide (i < -(2 ^ 63 : Int)) = false := decide_eq_false (by omega)
    have e2 : decide (i ≥ 2 ^ 63) = false := decide_eq_false (by omega)
    rw [e1, e2, Bool.or_false]) (by rw [h1]; simpa using h2) ⟨.str ⟨#[c]⟩, H, I.tok _, ⟨_, rfl⟩, q⟩) hs
def rIx (K : PySem.W.Frag) : R2 := fun x y H Q => rIxL K x y H Q \/ rIxT K x y H Q \/ rIxS x y H Q
theorem ix_seq : IxR X (rIx X.K) := ix_list.or (ix_tup.or ix_str)
theorem mapSeq_set (its : List Value) (n j : Nat) (u : Value) : Obj.mapSeq (·.setIfInBounds j u) { cls := .type "list", data := .seq its.toArray n } = { cls := .type "list", data := .seq (its.set j u).toArray n } := by
  simp [Obj.mapSeq]
theorem Inv.lst {pins : List (Addr × Obj)} {σ : St} {H : Hp} {s : Shared} {p : Addr} {xs : List V} (I : Inv X pins σ H s) (h : H p = some (.lst xs)) :
    ∃ (its : List Value) (n : Nat), Vals xs its /\ s.heap.get? p = some { cls := .type "list", data := .seq its.toArray n } /\ xs.length <= sizeLine := by
  obtain ⟨z, its, n, r, e⟩ := I.hok p _ h
  exact ⟨its, n, r, e, z⟩
theorem Inv.lstUpd {pins : List (Addr × Obj)} {σ : St} {H : Hp} {s : Shared} {p : Addr} {xs ys : List V} {its its' : List Value} {n n' : Nat} {f : Obj -> Obj} (I : Inv X pins σ H s) (h : H p = some (.lst xs))
    (ho : s.heap.get? p = some { cls := .type "list", data := .seq its.toArray n }) (hf : f { cls := .type "list", data := .seq its.toArray n } = { cls := .type "list", data := .seq its'.toArray n' }) (r : Vals ys its') (hz : ys.length <= sizeLine) (t : Nat) :
    Inv X pins σ (upd H p (.lst ys)) { s with heap := s.heap.update p f, toks := t } := by
  have e : (s.heap.update p f).get? p = some { cls := .type "list", data := .seq its'.toArray n' } := by
    rw [Heap.get?_update_self f ho (by rw [hf] <;> rfl), hf]
  refine I.write (x := p) (e := p) (by rw [h]; trivial) (.inl rfl) (fun b u hb q => (Heap.get?_update_other _ _ (Ne.symm hb)).trans q) ⟨_, e⟩ ?_
  exact ⟨hz, its', n', r, e⟩
def rSetL : V -> V -> V -> Hp -> (Hp -> Prop) -> Prop := fun o i v H Q => ∃ p xs k j, o = .ref p /\ i = .int k /\ H p = some (.lst xs) /\ ixN xs.length k = some j /\ Q (upd H p (.lst (xs.set j v)))
theorem set_list : PSet X rSetL := by
  intro pins s σ H o i v ov iv u Q I ro ri rv h
  obtain ⟨p, xs, k, j, rfl, rfl, hp, hj, q⟩ := h
  cases ro
  obtain ⟨t, rfl⟩ := ri
  obtain ⟨its, n, r, ho, hz⟩ := I.lst hp
  obtain ⟨h1, h2, h3, h4⟩ := ixN_seq hj
  have hl := r.length
  have hn := line63
  have I' : Inv X pins σ (upd H p (.lst (xs.set j v))) { s with heap := s.heap.update p (Obj.mapSeq (·.setIfInBounds j u)) } :=
    I.lstUpd hp ho (mapSeq_set its n j u) (r.set rv j) (by rw [List.length_set]; exact hz) s.toks
  by_cases h0 : 0 <= k
  . have hk : k.toNat = j := by
      rw [seqIndex_of h0 h4] at h1
      exact Option.some.inj h1
    exact PySem.W.ki_setAt ho h0 (by omega) (by rw [List.size_toArray, <- hl]; exact h4) (by rw [hk]; exact ⟨_, I', q⟩)
  . have hk : (k + (its.toArray.size : Int)).toNat = j := by
      rw [seqIndex_neg (by omega) h3] at h1
      rw [List.size_toArray, <- hl]
      exact Option.some.inj h1
    exact PySem.W.ki_setBack ho (by omega) (by rw [List.size_toArray, <- hl]; exact h3) (by omega) (by rw [hk]; exact ⟨_, I', q⟩)
def flatV : V -> Bool
  | .non => true
  | .bl _ => true
  | .int _ => true
  | .str _ => true
  | _ => false
def eqV : V -> V -> Bool
  | .non, .non => true
  | .bl a, .bl b => a == b
  | .bl a, .int b => (if a then 1 else 0) == b
  | .int a, .bl b => a == (if b then 1 else 0)
  | .int a, .int b => a == b
  | .str a, .str b => a == b
  | _, _ => false
theorem eqAt_V {A : Around} {s : Shared} {y x : V} {u v : Value} (ry : RelV y u) (rx : RelV x v) (fy : flatV y = true) (fx : flatV x = true) : SeqAt.EqAt A s u v (eqV y x) := by
  cases y with
  | non =>
    cases ry
    cases x with
    | non => cases rx; exact SeqAt.EqAt.same _
    | bl b => cases rx; exact SeqAt.EqAt.none_bool b
    | int b => obtain ⟨t, rfl⟩ := rx; exact SeqAt.EqAt.none_int b t
    | str b => obtain ⟨t, rfl⟩ := rx; exact SeqAt.EqAt.none_str b t
    | _ => exact absurd (show false = true from fx) Bool.false_ne_true
  | bl a =>
    cases ry
    cases x with
    | non => cases rx; exact SeqAt.EqAt.bool_none a
    | bl b => cases rx; exact SeqAt.EqAt.bool_bool a b
    | int b => obtain ⟨t, rfl⟩ := rx; exact SeqAt.EqAt.bool_int a b t
    | str b => obtain ⟨t, rfl⟩ := rx; exact SeqAt.EqAt.bool_str a b t
    | _ => exact absurd (show false = true from fx) Bool.false_ne_true
  | int a =>
    obtain ⟨t', rfl⟩ := ry
    cases x with
    | non => cases rx; exact SeqAt.EqAt.int_none a t'
    | bl b => cases rx; exact SeqAt.EqAt.int_bool a t' b
    | int b => obtain ⟨t, rfl⟩ := rx; exact SeqAt.EqAt.int_int a t' b t
    | str b => obtain ⟨t, rfl⟩ := rx; exact SeqAt.EqAt.int_str a t' b t
    | _ => exact absurd (show false = true from fx) Bool.false_ne_true
  | str a =>
    obtain ⟨t', rfl⟩ := ry
    cases x with
    | non => cases rx; exact SeqAt.EqAt.str_none a t'
    | bl b => cases rx; exact SeqAt.EqAt.str_bool a t' b
    | int b => obtain ⟨t, rfl⟩ := rx; exact SeqAt.EqAt.str_int a t' b t
    | str b => obtain ⟨t, rfl⟩ := rx; exact SeqAt.EqAt.str_str a t' b t
    | _ => exact absurd (show false = true from fx) Bool.false_ne_true
  | _ => exact absurd (show false = true from fy) Bool.false_ne_true
def eqU (x : V) (u : Value) : Bool := match u with
  | .none => eqV .non x
  | .bool b => eqV (.bl b) x
  | .int i _ => eqV (.int i) x
  | .str z _ => eqV (.str z) x
  | _ => false
theorem eqU_of {x y : V} {u : Value} (r : RelV y u) (f : flatV y = true) : eqU x u = eqV y x := by
  cases y with
  | non => cases r; rfl
  | bl b => cases r; rfl
  | int i => obtain ⟨t, rfl⟩ := r; rfl
  | str z => obtain ⟨t, rfl⟩ := r; rfl
  | _ => exact absurd (show false = true from f) Bool.false_ne_true
theorem any_eqU {x : V} : ∀ {xs : List V} {us : List Value}, Vals xs us -> xs.all flatV = true -> us.any (eqU x) = xs.any fun y => eqV y x
  | _, _, .nil, _ => rfl
  | y :: xs, u :: us, .cons r t, f => by
    rw [List.all_cons, Bool.and_eq_true] at f
    rw [List.any_cons, List.any_cons, eqU_of r f.1, any_eqU t f.2]
theorem mem_eqAt {A : Around} {s : Shared} {x : V} {v : Value} (rx : RelV x v) (fx : flatV x = true) : ∀ {xs : List V} {us : List Value}, Vals xs us -> xs.all flatV = true -> ∀ u ∈ us, SeqAt.EqAt A s u v (eqU x u)
  | _, _, .nil, _ => fun u hu => by cases hu
  | y :: xs, u :: us, .cons r t, f => fun u' hu => by
    rw [List.all_cons, Bool.and_eq_true] at f
    rcases List.mem_cons.mp hu with rfl | hu
    . rw [eqU_of r f.1]; exact eqAt_V r rx f.1 fx
    . exact mem_eqAt rx fx t f.2 u' hu
def inV (x : V) (xs : List V) : Bool := xs.any fun y => eqV y x
def rIn (K : PySem.W.Frag) (neg : Bool) : R2 := fun x y H Q => ∃ p xs, y = .ref p /\ (SqL K H p xs \/ SqT K H p xs) /\ flatV x = true /\ xs.all flatV = true /\ Q (.bl (if neg then !inV x xs else inV x xs)) H
theorem op_in_seq : OpR X (compareOp .In) (rIn X.K false) := by
  intro pins s σ H x y v u Q I rx ry h
  obtain ⟨p, xs, rfl, hq, fx, fs, q⟩ := h
  cases ry
  rcases hq with hq | hq
  . obtain ⟨its, r, pl, hz⟩ := I.list hq
    refine SeqAt.in_listAt (eqU x) pl.isList (fun w hw => mem_eqAt rx fx r fs w (by simpa using hw)) ⟨.bl _, H, I, rfl, ?_⟩
    rw [show its.toArray.any (eqU x) = its.any (eqU x) by simp, any_eqU r fs]
    exact q
  . obtain ⟨its, r, pl, hz⟩ := I.tuple hq
    refine SeqAt.in_tupleAt (eqU x) pl (fun w hw => mem_eqAt rx fx r fs w (by simpa using hw)) ⟨.bl _, H, I, rfl, ?_⟩
    rw [show its.toArray.any (eqU x) = its.any (eqU x) by simp, any_eqU r fs]
    exact q
theorem op_notIn_seq : OpR X (compareOp .NotIn) (rIn X.K true) := by
  intro pins s σ H x y v u Q I rx ry h
  obtain ⟨p, xs, rfl, hq, fx, fs, q⟩ := h
  cases ry
  rcases hq with hq | hq
  . obtain ⟨its, r, pl, hz⟩ := I.list hq
    refine SeqAt.notIn_listAt (eqU x) pl.isList (fun w hw => mem_eqAt rx fx r fs w (by simpa using hw)) ⟨.bl _, H, I, rfl, ?_⟩
    rw [show its.toArray.any (eqU x) = its.any (eqU x) by simp, any_eqU r fs]
    exact q
  . obtain ⟨its, r, pl, hz⟩ := I.tuple hq
    refine SeqAt.notIn_tupleAt (eqU x) pl (fun w hw => mem_eqAt rx fx r fs w (by simpa using hw)) ⟨.bl _, H, I, rfl, ?_⟩
    rw [show its.toArray.any (eqU x) = its.any (eqU x) by simp, any_eqU r fs]
    exact q
theorem call_tuple_of : CallR X (.type "tuple") (fun xs H Q => ∃ p ys, xs = [.ref p] /\ ((SqL X.K H p ys /\ ∀ l, H l = none -> Q (.ref l) (upd H l (.tup ys))) \/ (SqT X.K H p ys /\ Q (.ref p) H))) := by
  intro pins s σ H xs us Q I r h
  obtain ⟨p, ys, rfl, h⟩ := h
  obtain ⟨u, rfl, rx⟩ := vals1 r
  cases rx
  rcases h with ⟨hq, q⟩ | ⟨hq, q⟩
  . obtain ⟨its, r', pl, hz⟩ := I.list hq
    have hlen := r'.length
    refine call_tuple_list pl.isList (fun h' kp => ?_) (by simp only [List.size_toArray] <;> omega)
    have I1 : Inv X pins σ H { s with heap := h' } := I.kept (t' := s.toks) kp
    have I2 : Inv X pins σ (upd H h'.objs.size (.tup ys)) { s with heap := h'.push { cls := .type "tuple", data := .seq its.toArray } } :=
      I1.laid (t' := s.toks) (fun b o e => Heap.get?_push_of_some _ e) (Nat.le_refl _) (show ObjOk X.prog X.w _ _ _ (.tup ys) from ⟨hz, its, r', IsTupN.new _ _⟩)
    exact ⟨.ref h'.objs.size, _, I2, rfl, q _ (I1.hok.fresh (Nat.le_refl _))⟩
  . obtain ⟨its, r', pl, hz⟩ := I.tuple hq
    exact call_tuple_same pl ⟨.ref p, H, I, rfl, q⟩
def tyV (K : PySem.W.Frag) (T : String) (x : V) (H : Hp) : Prop := match x with
  | .str _ => T = "str"
  | .int _ => T = "int"
  | .ref p => (T = "list" /\ ∃ xs, SqL K H p xs) \/ (T = "tuple" /\ ∃ o, K.lookup p = some o /\ o.cls = .type "tuple" /\ o.dict = none) \/
      (T = "dict" /\ ((∃ kvs, H p = some (.dK kvs)) \/ ∃ kvs, H p = some (.dT kvs))) \/ (T = "set" /\ ∃ S n, H p = some (.set S n))
  | _ => False
theorem tyV_is {pins : List (Addr × Obj)} {σ : St} {H : Hp} {s : Shared} {T : String} {x : V} {v : Value} (I : Inv X pins σ H s) (r : RelV x v) (ty : tyV X.K T x H) :
    s.TypeIs v T /\ ∀ a, v = .ref a -> ∃ ob, s.heap.get? a = some ob /\ ob.dict = none := by
  cases x with
  | str z =>
    obtain ⟨t, rfl⟩ := r
    cases (show T = "str" from ty)
    exact ⟨typeIs_str s z t, fun _ e => nomatch e⟩
  | int i =>
    obtain ⟨t, rfl⟩ := r
    cases (show T = "int" from ty)
    exact ⟨typeIs_int s i t, fun _ e => nomatch e⟩
  | ref p =>
    cases r
    rcases ty with ⟨rfl, xs, hq⟩ | ⟨rfl, o, hk, hc, hd⟩ | ⟨rfl, hk⟩ | ⟨rfl, S, n, hk⟩
    . obtain ⟨its, _, pl, _⟩ := I.list hq
      refine ⟨pl.isList.typeIs, fun a e => ?_⟩
      cases e
      obtain ⟨o, n, e, c, hd, _⟩ := pl
      exact ⟨o, e, hd⟩
    . refine ⟨⟨o, I.kIn p o hk, hc⟩, fun a e => ?_⟩
      cases e
      exact ⟨o, I.kIn _ o hk, hd⟩
    . have z : ∃ o, s.heap.get? p = some o /\ o.ExactDict := by
        rcases hk with ⟨kvs, hk⟩ | ⟨kvs, hk⟩
        . obtain ⟨_, _, _, _, o, _, _, e, ex, _⟩ := I.hok p _ hk
          exact ⟨o, e, ex⟩
        . obtain ⟨_, _, _, _, o, _, _, e, ex, _⟩ := I.hok p _ hk
          exact ⟨o, e, ex⟩
      obtain ⟨o, e, ex⟩ := z
      refine ⟨⟨o, e, ex.1⟩, fun a e2 => ?_⟩
      cases e2
      exact ⟨o, e, ex.2.1⟩
    . obtain ⟨o, _, _, _, e, ex, _⟩ := I.hok p _ hk
      refine ⟨⟨o, e, ex.1⟩, fun a e2 => ?_⟩
      cases e2
      exact ⟨o, e, ex.2.1⟩
  | _ => exact False.elim ty
def tBM0 (K : PySem.W.Frag) (T : String) (r : V -> List V -> Hp -> VK -> Prop) (to : TE) : TE := fun σ H Q => to σ H fun x H1 => tyV K T x H1 /\ r x [] H1 Q
def tBM (K : PySem.W.Frag) (T : String) (r : V -> List V -> Hp -> VK -> Prop) (to : TE) (t : TA) : TE := fun σ H Q => to σ H fun x H1 => tyV K T x H1 /\ t σ H1 fun xs H2 => r x xs H2 Q
variable {o e : Expr} {es : List Expr} {to : TE} {t : TA} {name : Str} {apos cpos : Pos} {T id : String} {r : V -> List V -> Hp -> VK -> Prop}
theorem pe_bm0 (pa : PlainAttrs T) (slot : Slot T name id) (hty : typeOf (.builtin id) = pure (.type "method_descriptor")) (hm : MtR X id r) (ho : PE X o to)
    (hbase : attributeBase o name X.env (eval o X.env) = eval o X.env := by rfl) (hline : (apos.endLine == cpos.line) = true := by rfl) : PE X (.Call (.Attribute o name apos) [] [] cpos) (tBM0 X.K T r to) := by
  intro pins s σ H Q I h
  refine wpAny_Call_method0_late hbase hline (thn (ho pins s σ H _ I h) fun v s1 ⟨x, H1, I1, r1, ty, q1⟩ => ?_)
  obtain ⟨h1, h2⟩ := tyV_is I1 r1 ty
  exact ⟨T, id, pa, slot, hty, h1, h2, Calls.callWith_builtin rfl (PySem.evalArgs_none (hm pins s1 σ H1 x [] v [] Q I1 r1 .nil q1))⟩
theorem pe_bm (pa : PlainAttrs T) (slot : Slot T name id) (hty : typeOf (.builtin id) = pure (.type "method_descriptor")) (hm : MtR X id r) (ho : PE X o to) (ha : PA X (e :: es) t)
    (hbase : attributeBase o name X.env (eval o X.env) = eval o X.env := by rfl)
    (hfew : ((backTo cpos (starEach (e :: es) X.env)).all (fun x => !x.1) && (backToKw cpos (keywordEach [] X.env)).all (fun x => x.1.isSome)
      && decide ((e :: es).length + ([] : List Keyword).length + (if ([] : List Keyword).isEmpty then 0 else 1) < 30)) = true := by rfl)
    (hline : (apos.endLine == cpos.line) = true := by rfl) (hs : starEach (e :: es) X.env = (false, eval e X.env) :: starEach es X.env := by rfl) (hplain : (backTo cpos (starEach es X.env)).any (·.1) = false := by rfl) :
    PE X (.Call (.Attribute o name apos) (e :: es) [] cpos) (tBM X.K T r to t) := by
  intro pins s σ H Q I h
  refine wpAny_Call_method_late hbase hfew hline rfl (thn (ho pins s σ H _ I h) fun v s1 ⟨x, H1, I1, r1, ty, q1⟩ => ?_)
  obtain ⟨h1, h2⟩ := tyV_is I1 r1 ty
  refine ⟨T, id, pa, slot, hty, h1, h2, ?_⟩
  have hA := ha cpos pins s1 σ H1 _ I1 q1
  rw [hs] at hA ⊢
  refine Calls.callWith_builtin (by show (false || (backTo cpos (starEach es X.env)).any (·.1)) = false; rw [hplain] <;> rfl) (Calls.evalArgs_plain ?_)
  exact thn hA fun us s2 ⟨vs, H2, I2, r2, q2⟩ => hm pins s2 σ H2 x vs v us Q I2 r1 r2 q2
end
def MtM (X : Cx) (id : String) (r : V -> List V -> Hp -> VK -> Prop) : Prop :=
  ∀ (pins : List (Addr × Obj)) (s : Shared) (σ : St) (H : Hp) (x : V) (xs : List V) (v : Value) (us : List Value) (Q : VK), Inv X pins σ H s -> RelV x v -> Vals xs us -> r x xs H Q ->
    wpAny (model X.prog X.w) X.A (call (.builtin id) (v :: us)) (EP X pins σ Q) X.xe s
theorem Vals.one : ∀ {x : V} {us : List Value}, Vals [x] us -> ∃ u, us = [u] /\ RelV x u
  | _, _, .cons r .nil => ⟨_, rfl, r⟩
theorem Vals.zero : ∀ {us : List Value}, Vals [] us -> us = []
  | _, .nil => rfl
theorem Vals.eraseIdx : ∀ {xs : List V} {us : List Value} (i : Nat), Vals xs us -> Vals (xs.eraseIdx i) (us.eraseIdx i)
  | _, _, _, .nil => .nil
  | _, _, 0, .cons _ t => t
  | _, _, i + 1, .cons r t => .cons r (Vals.eraseIdx i t)
theorem Vals.rep {xs : List V} {us : List Value} (h : Vals xs us) : ∀ k : Nat, Vals (List.replicate k xs).flatten (List.replicate k us).flatten
  | 0 => .nil
  | k + 1 => by
    rw [List.replicate_succ, List.replicate_succ, List.flatten_cons, List.flatten_cons]
    exact Vals.append h (Vals.rep h k)
theorem len_erase {α : Type} : ∀ (l : List α) (i : Nat), (l.eraseIdx i).length <= l.length
  | [], _ => Nat.le_refl _
  | _ :: _, 0 => Nat.le_succ _
  | _ :: r, i + 1 => Nat.succ_le_succ (len_erase r i)
theorem foldl_rep (its : List Value) : ∀ (k : Nat) (acc : List Value),
    List.foldl (fun x1 x2 => x1 ++ x2) acc.toArray (List.replicate k its.toArray) = (acc ++ (List.replicate k its).flatten).toArray
  | 0, acc => by simp
  | k + 1, acc => by
    have e : acc.toArray ++ its.toArray = (acc ++ its).toArray := by simp
    have e2 : (acc ++ its) ++ (List.replicate k its).flatten = acc ++ (List.replicate (k + 1) its).flatten := by
      rw [List.replicate_succ, List.flatten_cons, List.append_assoc]
    rw [<- e2, <- foldl_rep its k (acc ++ its), <- e, List.replicate_succ, List.foldl_cons]
section
variable {X : Cx} {pins : List (Addr × Obj)} {σ : St} {H : Hp} {s : Shared} {l b : Addr} {xs ys zs : List V}
theorem Inv.lset {its its' : List Value} {n : Nat} {f : Array Value -> Array Value} {t' : Nat} (I : Inv X pins σ H s) (hH : H l = some (.lst xs))
    (e : s.heap.get? l = some { cls := .type "list", data := .seq its.toArray n }) (hf : f its.toArray = its'.toArray) (hv : Vals ys its') (hz : ys.length <= sizeLine) :
    Inv X pins σ (upd H l (.lst ys)) { s with heap := s.heap.update l (Obj.mapSeq f), toks := t' } := by
  have q := PySem.IsL.update e f
  rw [hf] at q
  refine I.write (x := l) (e := l) (by rw [hH]; exact trivial) (.inl rfl) (fun b' u hb hu => (Heap.get?_update_other s.heap (Obj.mapSeq f) (Ne.symm hb)).trans hu) ⟨_, q⟩ ?_
  exact ⟨hz, its', _, hv, q⟩
theorem Inv.lnew {its : List Value} {t' : Nat} (I : Inv X pins σ H s) (hv : Vals ys its) (hz : ys.length <= sizeLine) :
    Inv X pins σ (upd H s.heap.objs.size (.lst ys)) { s with heap := s.heap.push { cls := .type "list", data := .seq its.toArray }, toks := t' } :=
  I.laid (fun _ _ q => Heap.get?_push_of_some _ q) (Nat.le_refl _) ⟨hz, its, 0, hv, Heap.get?_push_size _ rfl⟩
theorem Inv.fresh (I : Inv X pins σ H s) : H s.heap.objs.size = none := I.hok.fresh (Nat.le_refl _)
theorem Inv.lstM (I : Inv X pins σ H s) (hH : H l = some (.lst xs)) : xs.length <= sizeLine /\ ∃ (its : List Value) (n : Nat), Vals xs its /\ xs.length = its.length /\ s.heap.get? l = some { cls := .type "list", data := .seq its.toArray n } := by
  obtain ⟨z, its, n, r, e⟩ := I.hok l _ hH
  exact ⟨z, its, n, r, r.length, e⟩
theorem notLongL {n : Nat} (h : n <= sizeLine) : Builtin.List.listTooLong n = false := by
  unfold Builtin.List.listTooLong
  exact decide_eq_false (by omega)
end
section
variable {X : Cx}
def rPopAt : V -> List V -> Hp -> VK -> Prop := fun x vs H Q => ∃ l xs i k y, x = .ref l /\ vs = [.int i] /\ H l = some (.lst xs) /\ -(2 ^ 63) <= i /\ i < 2 ^ 63 /\ seqIndex? i xs.length = some k /\ xs[k]? = some y /\ Q y (upd H l (.lst (xs.eraseIdx k)))
theorem mt_popAt : MtM X "list.pop" rPopAt := by
  intro pins s σ H x vs v us Q I rx rv h
  obtain ⟨l, xs, i, k, y, rfl, rfl, hH, h1, h2, hk, hy, q⟩ := h
  cases rx
  obtain ⟨u, rfl, ru⟩ := rv.one
  obtain ⟨t, rfl⟩ := ru
  obtain ⟨z, its, n, r, hl, e⟩ := I.lstM hH
  obtain ⟨w, hw, rw'⟩ := r.get hy
  refine call_meets F.slot_list_pop ⟨_, e, rfl⟩ F.entry_list_pop (F.args_list_pop_2 _ _)
    (MeetsSeq.list_pop_at l its.toArray n i t k w (fitsIndex_both h1 h2) (by rw [List.size_toArray, <- hl]; exact hk) (by rw [<- Array.getElem?_toList]; exact hw) (by rw [List.size_toArray]; omega)) ⟨e, ?_⟩
  refine ⟨y, _, I.lset (its' := its.eraseIdx k) hH e ?_ (r.eraseIdx k) ?_, rw', q⟩
  . show its.toArray.eraseIdxIfInBounds k = (its.eraseIdx k).toArray
    rw [List.eraseIdxIfInBounds_toArray]
  . have := len_erase xs k
    omega
def rCat : R2 := fun x y H Q => ∃ l b xs zs, x = .ref l /\ y = .ref b /\ H l = some (.lst xs) /\ H b = some (.lst zs) /\ xs.length + zs.length <= sizeLine /\ ∀ p, H p = none -> Q (.ref p) (upd H p (.lst (xs ++ zs)))
theorem op_cat : OpR X (binaryOp .Add) rCat := by
  intro pins s σ H x y v u Q I rx ry h
  obtain ⟨l, b, xs, zs, rfl, rfl, hH, hB, hz, q⟩ := h
  cases rx
  cases ry
  obtain ⟨z, its, n, r, hl, e⟩ := I.lstM hH
  obtain ⟨z2, its2, n2, r2, hl2, e2⟩ := I.lstM hB
  refine PySem.P.add_list e e2 ?_ (by rw [List.size_toArray, List.size_toArray]; omega)
  have ea : its.toArray ++ its2.toArray = (its ++ its2).toArray := by simp
  rw [ea]
  exact ⟨.ref _, _, I.lnew (t' := s.toks) (r.append r2) (by rw [List.length_append]; omega), rfl, q _ I.fresh⟩
def rRep : R2 := fun x y H Q => ∃ l k xs, x = .ref l /\ y = .int k /\ H l = some (.lst xs) /\ -(2 ^ 63) <= k /\ k < 2 ^ 63 /\ xs.length * k.toNat <= sizeLine /\
  ∀ p, H p = none -> Q (.ref p) (upd H p (.lst (List.replicate k.toNat xs).flatten))
theorem len_rep {α : Type} (xs : List α) (k : Nat) : (List.replicate k xs).flatten.length = k * xs.length := by
  induction k with
  | zero => simp
  | succ k ih => rw [List.replicate_succ, List.flatten_cons, List.length_append, ih, Nat.succ_mul, Nat.add_comm]
theorem op_rep : OpR X (binaryOp .Mult) rRep := by
  intro pins s σ H x y v u Q I rx ry h
  obtain ⟨l, k, xs, rfl, rfl, hH, h1, h2, hz, q⟩ := h
  cases rx
  obtain ⟨t, rfl⟩ := ry
  obtain ⟨z, its, n, r, hl, e⟩ := I.lstM hH
  have hlen : its.toArray.size * k.toNat <= sizeLine := by rw [List.size_toArray, <- hl]; exact hz
  have hcap : ¬ its.toArray.size * k.toNat > (2 ^ 63 - 1) / 8 := by
    have : (sizeLine : Nat) <= (2 ^ 63 - 1) / 8 := by decide
    omega
  have hfit : ¬ (!Builtin.List.listFitsIndex k) = true := by
    rw [fitsIndex_both h1 h2]
    exact Bool.false_ne_true
  have hlong : ¬ Builtin.List.listTooLong (its.toArray.size * k.toNat) = true := by
    rw [notLongL hlen]
    exact Bool.false_ne_true
  have hnew : List.foldl (fun x1 x2 => x1 ++ x2) #[] (List.replicate (if its.toArray.isEmpty = true then 0 else k.toNat) its.toArray) = (List.replicate k.toNat its).flatten.toArray := by
    have f0 : ∀ m : Nat, List.foldl (fun x1 x2 => x1 ++ x2) #[] (List.replicate m its.toArray) = (List.replicate m its).flatten.toArray := fun m => by
      have := foldl_rep its m []
      rw [List.nil_append] at this
      exact this
    rw [f0]
    cases its with
    | nil => simp
    | cons a r' => rw [if_neg (by simp)]
  refine wpAny_binaryOp_repeat_ref (T := "list") (U := "int") (by decide) ⟨_, e, rfl⟩ (fun s' => typeIs_int s' k t) noFill_list_mul F.fills_int_mul F.slot_int_rmul repeat_list F.slot_int_index.lookup
    (call_meets F.slot_int_rmul (typeIs_int s k t) F.entry_int_rmul (F.args_int_rmul_2 _ _) (int___rmul___int_list k t l its.toArray n)
      ⟨e, rfl, ⟨_, e, rfl⟩, call_meets F.slot_list_mul ⟨_, e, rfl⟩ F.entry_list_mul (F.args_list_mul_2 _ _) (AutoListH.list___mul___list_int_3 l its.toArray n k t hfit hcap hlong) ⟨e, ?_⟩⟩)
  rw [hnew]
  exact ⟨.ref _, _, I.lnew (t' := s.toks) (r.rep k.toNat) (by rw [len_rep, Nat.mul_comm]; exact hz), rfl, q _ I.fresh⟩
end
section
variable {prog : Program} {w : World} {A : Around} {E : Value -> Shared -> Prop} {s : Shared}
end
section
variable {X : Cx}
end
end L2
namespace Att
open PySem PySem.W PySem.Calls PyProof.Rows
theorem ints_of_wellAll {P : Params} {h : Heap} : ∀ (ns : List Int) (vs : List Value), WellAll P h vs (ns.map WData.int) -> IntsAre vs ns := by
  intro ns
  induction ns with
  | nil =>
    intro vs w
    rw [List.map_nil] at w
    cases w
    exact .nil
  | cons n ns ih =>
    intro vs w
    rw [List.map_cons] at w
    cases w with
    | cons a b =>
      cases a
      exact .cons _ _ (ih _ b)
theorem script_of {l : OpenLaw} {n : Nat} (hn : l.most = some n) {P : Params} {h : Heap} {args : List WData} {vals : List Value}
    (hpre : l.row.toRowW.claim.pre args = true) (hwl : WellAll P h vals args) :
    ∃ a vs ns, vals = [Value.ref a] /\ args = [WData.list (ns.map WData.int)] /\ h.get? a = some { cls := .type "list", data := .seq vs.toArray } /\ IntsAre vs ns /\ ns.length <= n := by
  have hsh : WShape.hasAll [] args [.list .int] = true := (pre_splitW hpre).1
  have hc : l.pre.holds [] { args := args } = true := (pre_splitW hpre).2
  obtain ⟨d, r, rfl, h1, h2⟩ := hasAllW_cons hsh
  obtain rfl := hasAllW_nil h2
  obtain ⟨xs, rfl, h3⟩ := hasW_list h1
  obtain ⟨ns, rfl⟩ := items_int h3
  have hlen : ns.length <= n := by
    unfold OpenLaw.pre at hc
    have h4 : (WTm.not (.lt (.lit (.int (n : Int))) (.len (.arg 0)))).holds [] { args := [.list (ns.map .int)] } = true := by
      have h4 := (holds_andW hc).1
      rw [hn] at h4
      exact h4
    have h5 := condW_of h4 (w_not (w_lt w_lit (w_len_list (w_arg rfl))))
    rw [List.length_map] at h5
    refine Nat.le_of_not_lt fun q => ?_
    have q' : (n : Int) < ((ns.length : Nat) : Int) := by omega
    first
      | (rw [decide_eq_true q'] at h5; exact absurd h5 (by decide))
      | (simp at h5; omega)
  cases hwl with
  | cons w1 w2 =>
    cases w2
    cases w1 with
    | list ho hall => exact ⟨_, _, ns, rfl, rfl, ho, ints_of_wellAll ns _ hall, hlen⟩
theorem post_true (l : OpenLaw) (args : List WData) : l.row.toRowW.claim.post args (.bool true) args = true :=
  postW_of (r := l.row.toRowW) (X := (true == true))
    (show WShape.has [] (.bool true) .bool = true by first | rfl | decide | simp [WShape.has, WShape.arms, WShape.armsAll])
    (show (WTm.eq .res (.lit (.bool true))).value [] { args := args, res := some (.bool true), after := args } = some (.bool (true == true)) from w_eq_bool (w_res rfl) w_lit) rfl
theorem attach_call {l : OpenLaw} {n : Nat} {q : Program} {loose : List Str} {XP : (Str -> Option Value) -> Heap -> Prop} {YP : World -> Heap -> Prop} {d : DefRec}
    (hn : l.most = some n) (hdf : d.params.defaults = [])
    (call : ∀ (w : World) (s₀ s₁ : Shared) (mg mb : Str -> Option Value) (fa : Addr) (o : Obj) (pm cd doc : Value) (a : Addr) (vs : List Value) (ns : List Int),
      Ground q loose [] XP w s₀ mg mb s₁.heap -> YP w s₁.heap ->
      s₁.heap.get? fa = some o -> o.data = .func (docDef d.name d.params d.body d.scope pm cd doc) -> s₁.heap.CodeRec cd d.name -> mg d.name = some (.ref fa) ->
      s₁.heap.get? a = some { cls := .type "list", data := .seq vs.toArray } -> IntsAre vs ns -> ns.length <= n -> s₁.gens = #[] ->
      codeAny (model l.prog w) callerA (.call (.ref fa) ⟨[.ref a], []⟩) (fun r s' => r = .ok (.ret (.bool true)) /\ OldK s₁.heap s'.heap /\ s'.os = s₁.os /\ AllBare s'.gens) s₁) :
    WalkO q loose XP YP l.row.toRowW d [] (fun f vs => PySem.call f vs) := by
  intro w s₀ s₁ mg mb G Y fa o pm cd doc dV kV ho hd hcd hD hmg hg args vals as hpre hlay hrd hwl hlo
  obtain rfl : dV = .none := Dflts.none hD hdf
  obtain rfl : kV = .none := Dflts.noKw hD
  obtain ⟨a, vs, ns, rfl, rfl, hobj, hints, hlen⟩ := script_of hn hpre hwl
  refine enter_call (codeAny_mono (call w s₀ s₁ mg mb fa o pm cd doc a vs ns G Y ho (fd_plain hd) hcd hmg hobj hints hlen hg) fun r s' hq => ?_)
  obtain ⟨rfl, h2, h3, h4⟩ := hq
  exact ⟨.inl ⟨.bool true, .bool true, [], rfl, fun _ => rfl, .bool true, post_true l _, fun _ => ⟨List.Pairwise.nil, fun _ hm => (nomatch hm)⟩⟩, h2, h3, h4⟩
section
variable {prog : Program} {w : World} {A : Around} {E : Value -> Shared -> Prop} {s : Shared} {K : Frag}
def noObjs (h : Heap) : Heap := { h with objs := #[] }
theorem noObjs_get (h : Heap) (b : Addr) : (noObjs h).get? b = none := by
  cases e : (noObjs h).get? b with
  | none => rfl
  | some o => exact absurd (Heap.lt_size e) (Nat.not_lt_zero _)
theorem fr_all {h : Heap} {L : Addr} {m : Str -> Option Value} (n : h.Ns L m) : Fr (noObjs h) L h m :=
  ⟨n, fun b o e => (by rw [noObjs_get] at e; cases e), Nat.zero_le _⟩
end
end Att
namespace L2
open PySem PySem.Spec PyProof.Rows
theorem vals_ints : ∀ {vs : List Value} {ns : List Int}, IntsAre vs ns -> Vals (ns.map V.int) vs
  | _, _, .nil => .nil
  | _, _, .cons n t h => .cons ⟨t, rfl⟩ (vals_ints h)
def Only (H : Hp) : Prop := ∀ b, H b = none \/ ∃ o xs, H b = some (.frz o (.lst xs))
theorem law_call {P : Program} {w : World} {K : PySem.W.Frag} {mg mb : Str -> Option Value} {CX : CXT} {k : Nat} {fa a : Addr} {fd : FuncData} {x : Str} {sp : Sp} {s₁ : Shared} {vs : List Value} {ns : List Int}
    (KX : K.In s₁.heap) (hns : s₁.heap.Ns mainGlobals mg) (hb : s₁.heap.Ns builtinsNs mb) (hbb : ∀ x : Str, x ≠ "__name__" -> mb x = bootBuiltins x) (hlim : s₁.heap.NoLimit) (hg : s₁.gens = #[])
    (ha : s₁.heap.get? a = some { cls := .type "list", data := .seq vs.toArray }) (hi : IntsAre vs ns) (hl : ns.length <= sizeLine) (hr : Room k callerA)
    (F : ∀ base : Heap, K.In base -> base.Ns mainGlobals mg -> FnOk P w K mg base CX k fa fd [x] sp) (hbind : ∀ (s : Shared) (u : Value), BindsTo s fd ⟨[u], []⟩ [(x, u)])
    (hsp : ∀ H : Hp, Only H -> SqL K H a (ns.map V.int) -> sp [.ref a] H (fun v _ => v = .bl true) fun _ _ _ => False)
    (hCX : ∀ H e s', CX [] H s₁ (fun _ _ _ => False) e s' -> False) :
    codeAny (model P w) callerA (.call (.ref fa) ⟨[.ref a], []⟩) (fun r s' => r = .ok (.ret (.bool true)) /\ OldK s₁.heap s'.heap /\ s'.os = s₁.os /\ AllBare s'.gens) s₁ := by
  have rv := vals_ints hi
  have lenV := hi.length
  -- from an abstract heap in which nothing but the script may be tracked
  have core : ∀ H : Hp, Only H -> SqL K H a (ns.map V.int) -> HOk P w H s₁.heap -> (∀ b, H b ≠ none -> b = a) -> (H a ≠ none -> K.lookup a = none) ->
      codeAny (model P w) callerA (.call (.ref fa) ⟨[.ref a], []⟩) (fun r s' => r = .ok (.ret (.bool true)) /\ OldK s₁.heap s'.heap /\ s'.os = s₁.os /\ AllBare s'.gens) s₁ := by
    intro H hO hS hok hA hK
    have base_of : ∀ {b : Addr} {o : Obj}, s₁.heap.get? b = some o -> H b = none -> (hidT s₁.heap H).get? b = some o := fun e n => hidT_get e n
    have noA : ∀ {b : Addr} {o : Obj} {es : Array DictEntry} {ep : Nat}, s₁.heap.get? b = some o -> o.data = .dict es ep -> H b = none := fun {b o es ep} e d => by
      cases q : H b with
      | none => rfl
      | some u =>
        have e' : b = a := hA b (by rw [q]; simp)
        subst e'
        rw [ha] at e; cases e
        have d' : Data.seq vs.toArray _ = Data.dict es ep := d
        cases d'
    have nsK : ∀ {b : Addr} {m : Str -> Option Value}, s₁.heap.Ns b m -> (hidT s₁.heap H).Ns b m := fun {b m} ⟨o, es, ep, e, d, r⟩ => ⟨o, es, ep, base_of e (noA e d), d, r⟩
    have hKb : K.In (hidT s₁.heap H) := fun b o e => base_of (KX b o e) (by
      cases q : H b with
      | none => rfl
      | some u =>
        have e' : b = a := hA b (by rw [q]; simp)
        subst e'
        rw [hK (by rw [q]; simp)] at e; cases e)
    have hM : Mod K mg (hidT s₁.heap H) := ⟨hKb, nsK hns, ⟨mb, nsK hb, hbb⟩, let ⟨mc, h1, h2⟩ := hlim; ⟨mc, nsK h1, h2⟩⟩
    have e0 : Env0 P w K mg (hidT s₁.heap H) callerA [] s₁ H := ⟨rfl, hM, fun b o e => of_hidT e, Nat.le_of_eq (hidT_size _ _), trivial, fun b hb => absurd (show b ∈ ([] : List Addr) from hb) (by simp), hok, .of_eq hg⟩
    refine codeAny_mono ((F _ hKb (nsK hns)).run callerA [] s₁ H ⟨[.ref a], []⟩ [.ref a] [.ref a] _ _ hr e0 (hbind s₁ (.ref a)) (.cons rfl .nil) (hsp H hO hS)) fun r s' h => ?_
    cases r with
    | error e => exact (hCX H e s' h).elim
    | ok fl =>
      cases fl with
      | next => exact False.elim h
      | brk => exact False.elim h
      | cont => exact False.elim h
      | ret u =>
        obtain ⟨v, H', os, bare, un, hok', r', q⟩ := h
        have q' : v = .bl true := q
        subst q'
        obtain rfl : u = Value.bool true := r'
        refine ⟨rfl, OldK.of_keep fun b o e => ?_, os, bare⟩
        cases q : H b with
        | none => exact un.keep b o e q (by intro z; exact absurd (show b ∈ ([] : List Addr) from z) (by simp)) (by simp)
        | some u =>
          rcases hO b with z | ⟨ob, xs, z⟩
          . rw [q] at z; cases z
          . have z2 := un.frzs b ob _ z
            obtain ⟨e1, _⟩ := hok b _ z
            obtain ⟨e2, _⟩ := hok' b _ z2
            rw [e] at e1; cases e1
            exact e2
  cases hk : K.lookup a with
  | some o =>
    -- the script is one of the module's own objects
    have e := KX a o hk
    rw [ha] at e
    cases e
    refine core (fun _ => none) (fun _ => .inl rfl) (.inr ⟨_, vs.toArray, _, hk, rfl, rfl, rfl, by rw [List.size_toArray, lenV]; exact hl, by simpa using rv⟩) (fun b u z => by have z' : (none : Option HO) = some u := z; cases z') (fun b z => absurd rfl z) fun z => absurd rfl z
  | none =>
    refine core (fun b => if b = a then some (.frz { cls := .type "list", data := .seq vs.toArray } (.lst (ns.map V.int))) else none) (fun b => ?_) (.inl (.inr ⟨{ cls := .type "list", data := .seq vs.toArray }, if_pos rfl⟩)) (fun b u z => ?_) (fun b z => ?_) fun _ => hk
    . by_cases hb : b = a
      . exact .inr ⟨_, _, if_pos hb⟩
      . exact .inl (if_neg hb)
    . by_cases hb : b = a
      . have z' := (if_pos hb).symm.trans z
        cases z'
        subst hb
        exact ⟨ha, by rw [List.length_map]; exact hl, vs, _, rv, ha⟩
      . have z' := (if_neg hb).symm.trans z
        cases z'
    . by_cases hb : b = a
      . exact hb
      . exact absurd (if_neg hb) z
theorem walk_of {l : PySem.W.OpenLaw} {n k : Nat} {q : Program} {loose : List Str} {XP : (Str -> Option Value) -> Heap -> Prop} {YP : World -> Heap -> Prop} {d : DefRec} {K : Params -> PySem.W.Frag} {CX : World -> CXT} {sp : World -> Sp} {x : Str}
    (hn : l.most = some n) (hn2 : n <= sizeLine) (hdf : d.params.defaults = []) (hr : Room k callerA)
    (hY : ∀ (w : World) (h : Heap), YP w h -> (K w.params).In h)
    (F : ∀ (w : World) (mg : Str -> Option Value) (fa : Addr) (h : Heap), (K w.params).In h -> h.Ns mainGlobals mg -> mg d.name = some (.ref fa) ->
      ∃ fd : FuncData, (∀ (s : Shared) (u : Value), BindsTo s fd ⟨[u], []⟩ [(x, u)]) /\
        ∀ base : Heap, (K w.params).In base -> base.Ns mainGlobals mg -> FnOk l.prog w (K w.params) mg base (CX w) k fa fd [x] (sp w))
    (hsp : ∀ (w : World) (H : Hp) (a : Addr) (ns : List Int), ns.length <= n -> Only H -> SqL (K w.params) H a (ns.map V.int) -> sp w [.ref a] H (fun v _ => v = .bl true) fun _ _ _ => False)
    (hCX : ∀ (w : World) (H : Hp) (s : Shared) (e : Value) (s' : Shared), CX w [] H s (fun _ _ _ => False) e s' -> False) :
    PySem.W.WalkO q loose XP YP l.row.toRowW d [] (fun f vs => PySem.call f vs) := by
  refine Att.attach_call hn hdf fun w s₀ s₁ mg mb fa o pm cd doc a vs ns G Y ho hd hcd hmg hobj hints hlen hg => ?_
  have KX := hY w _ Y
  obtain ⟨fd, hb, hF⟩ := F w mg fa _ KX G.T.g hmg
  exact law_call KX G.T.g G.T.b G.T.builtins G.T.nolimit hg hobj hints (Nat.le_trans hlen hn2) hr hF hb (fun H hO hS => hsp w H a ns hlen hO hS) fun H e s' => hCX w H s₁ e s'
def defArgs (s : Stmt) : Arguments := match s with
  | .FunctionDef _ a _ _ _ _ _ _ _ _ => a
  | _ => { posonlyargs := [], args := [], vararg := none, kwonlyargs := [], kw_defaults := [], kwarg := none, defaults := [] }
def defBody (s : Stmt) : List Stmt := match s with
  | .FunctionDef _ _ b _ _ _ _ _ _ _ => b
  | _ => []
def defScope (s : Stmt) : Scope := match s with
  | .FunctionDef _ _ _ _ _ _ sc _ _ _ => sc
  | _ => { kind := .function, names := [], isGenerator := false, isCoroutine := false }
abbrev CX0 : CXT := fun _ _ _ _ _ _ => False
abbrev E0 : XK := fun _ _ _ => False
theorem pass0 {X : Cx} : Passes CX0 X E0 := fun _ _ _ _ _ _ _ h => h.elim
structure Fun (K : PySem.W.Frag) (x qual : Str) (st : Stmt) (f : Addr) (fd : FuncData) : Prop where
  ex : ∃ (oc : Value) (od : Option Addr) (kV doc pm : Value) (an : Option Addr) (cdv ct : Value) (osl : Array (Option Value)),
    fd = PySem.W.fnOf x qual (defArgs st) (defBody st) (defScope st) .none kV doc pm an cdv ct /\ K.lookup f = some ⟨oc, od, .func fd, osl⟩ /\ PySem.W.codeIn K cdv qual = true
  kp : PySem.W.keepIn K (.ref f) = true
section
variable {P : Program} {w : World} {K : PySem.W.Frag} {mg : Str -> Option Value} {base : Heap}
theorem Fun.ok {x qual : Str} {st : Stmt} {f : Addr} {fd : FuncData} {N ps : List Str} {k : Nat} {sp : Sp} (F : Fun K x qual st f fd) (S : FnScope N ps (defScope st)) (len : ∀ vs H Q E, sp vs H Q E -> vs.length = ps.length)
    (hbody : ∀ (cdv : Value) (A : Around) (outer : List Env) (s : Shared) (H : Hp) (vs : List V) (Q : VK) (E : XK), Room k (A.deeper (envOfC qual (defScope st) s.heap.objs.size f cdv)) -> sp vs H Q E ->
      ∃ t, PSs (cxOf CX0 P w K mg base N qual (defScope st) f cdv A outer s H E).nox (defBody st) t /\ t { nx := fun _ H' => Q .non H', rt := Q } (start N vs) H) : FnOk P w K mg base CX0 (k + 1) f fd ps sp := by
  obtain ⟨oc, od, kV, doc, pm, an, cdv, ct, osl, rfl, lk, hcd⟩ := F.ex
  refine fn_of lk hcd S len fun A outer s H vs Q E hr hsp => ?_
  obtain ⟨t, h, q⟩ := hbody cdv A outer s H vs Q E hr hsp
  exact ⟨t, h.nox, q⟩
theorem Fun.binds {x qual : Str} {st : Stmt} {f : Addr} {fd : FuncData} {ps : List Str} (F : Fun K x qual st f fd)
    (h : ∀ (kV doc pm : Value) (an : Option Addr) (cdv ct : Value) (us : List Value), us.length = ps.length -> bindArgs (PySem.W.fnOf x qual (defArgs st) (defBody st) (defScope st) .none kV doc pm an cdv ct) ⟨us, []⟩ = pure (ps.zip us)) : Binds K fd ps [] := by
  obtain ⟨oc, od, kV, doc, pm, an, cdv, ct, osl, rfl, lk, hcd⟩ := F.ex
  exact .all (h kV doc pm an cdv ct)
theorem fun_mk {x qual : Str} {st : Stmt} {f : Addr} {oc : Value} {od an : Option Addr} {osl : Array (Option Value)} {kV doc pm cdv ct : Value} (l : K.lookup f = some ⟨oc, od, .func (PySem.W.fnOf x qual (defArgs st) (defBody st) (defScope st) .none kV doc pm an cdv ct), osl⟩)
    (c : PySem.W.codeIn K cdv qual = true) (k : PySem.W.keepIn K (.ref f) = true) : Fun K x qual st f (PySem.W.fnOf x qual (defArgs st) (defBody st) (defScope st) .none kV doc pm an cdv ct) := ⟨⟨oc, od, kV, doc, pm, an, cdv, ct, osl, rfl, l, c⟩, k⟩
end
theorem small1000 {n : Nat} (h : n <= 1000) : n < sizeLine := Nat.lt_of_le_of_lt h (by decide)
section
variable {X : Cx}
end
theorem iteF {A B : Prop} (h : B) : if false = true then A else B := by
  rw [if_neg Bool.false_ne_true]
  exact h
theorem iteT {A B : Prop} (h : A) : if true = true then A else B := by
  rw [if_pos rfl]
  exact h
theorem ite2 {c A B : Prop} [Decidable c] (h1 : c -> A) (h2 : ¬ c -> B) : if c then A else B := by
  by_cases h : c
  . rw [if_pos h]
    exact h1 h
  . rw [if_neg h]
    exact h2 h
def Same (H H' : Hp) : Prop := ∀ b o, H b = some o -> H' b = some o
theorem Same.refl (H : Hp) : Same H H := fun _ _ h => h
theorem Same.trans {H H1 H2 : Hp} (a : Same H H1) (b : Same H1 H2) : Same H H2 := fun c o h => b c o (a c o h)
theorem Same.free {H H' : Hp} (e : Same H H') {l : Addr} (h : H' l = Option.none) : H l = Option.none := by
  cases q : H l with
  | none => rfl
  | some o =>
    rw [e l o q] at h
    cases h
theorem Same.seq {K : PySem.W.Frag} {H H' : Hp} {a : Addr} {xs : List V} (e : Same H H') (h : SqL K H a xs) : SqL K H' a xs := by
  rcases h with (h | ⟨o, h⟩) | h
  . exact .inl (.inl (e _ _ h))
  . exact .inl (.inr ⟨o, e _ _ h⟩)
  . exact .inr h
theorem cellsFrom_app : ∀ (names : List (Str × NameKind)) (n : Nat) (acc : List (Str × Addr)), cellsFrom n names acc = cellsFrom n names [] ++ acc
  | [], _, _ => rfl
  | (name, kind) :: r, n, acc => by
    unfold cellsFrom
    split
    . rw [cellsFrom_app r (n + 1) ((name, n) :: acc), cellsFrom_app r (n + 1) [(name, n)], List.append_assoc]; rfl
    . exact cellsFrom_app r n acc
theorem cellsFrom_kind : ∀ (names : List (Str × NameKind)) (n : Nat) (acc : List (Str × Addr)) (x : Str) (c : Addr), (x, c) ∈ cellsFrom n names acc -> (x, c) ∈ acc \/ (x, NameKind.cell) ∈ names
  | [], _, _, _, _, h => .inl h
  | (name, kind) :: r, n, acc, x, c, h => by
    unfold cellsFrom at h
    split at h
    . rename_i hk
      rcases cellsFrom_kind r _ _ x c h with h | h
      . rcases List.mem_cons.mp h with e | h
        . cases e
          have : kind = .cell := by simpa using hk
          subst this
          exact .inr List.mem_cons_self
        . exact .inl h
      . exact .inr (List.mem_cons_of_mem _ h)
    . rcases cellsFrom_kind r _ _ x c h with h | h
      . exact .inl h
      . exact .inr (List.mem_cons_of_mem _ h)
theorem lookup_app {α : Type} {x : Str} : ∀ (l r : List (Str × α)), (l ++ r).lookup x = (match l.lookup x with | some c => some c | none => r.lookup x)
  | [], r => rfl
  | (k, v) :: l, r => by
    show List.lookup x ((k, v) :: (l ++ r)) = _
    rw [List.lookup_cons, List.lookup_cons]
    cases x == k with
    | true => rfl
    | false => exact lookup_app l r
theorem lookup_none_of {α : Type} {x : Str} : ∀ {l : List (Str × α)}, (∀ c, (x, c) ∉ l) -> l.lookup x = none
  | [], _ => rfl
  | (k, v) :: l, h => by
    rw [List.lookup_cons]
    cases hb : x == k with
    | true =>
      have : x = k := by simpa using hb
      subst this
      exact absurd List.mem_cons_self (h v)
    | false => exact lookup_none_of fun c hc => h c (List.mem_cons_of_mem _ hc)
def clOf (cells : List (Str × Addr)) : List (Str × NameKind) -> List (Str × Addr) -> List (Str × Addr)
  | [], acc => acc
  | (n, k) :: r, acc => if k == .free then clOf cells r ((n, (cells.lookup n).getD 0) :: acc) else clOf cells r acc
theorem closureFor_eq {scope : Scope} {env : Env} (h : ∀ y ∈ scope.names, y.2 = .free -> ∃ c, env.cells.lookup y.1 = some c) : closureFor scope env = pure (clOf env.cells scope.names []) := by
  have all : ∀ (names : List (Str × NameKind)) (acc : List (Str × Addr)), (∀ y ∈ names, y.2 = .free -> ∃ c, env.cells.lookup y.1 = some c) ->
      (forIn names acc fun (x : Str × NameKind) cs => (if (x.2 == NameKind.free) = true then (do let a <- cellOf env x.1; pure (ForInStep.yield ((x.1, a) :: cs))) else pure (ForInStep.yield cs) : Sem (ForInStep (List (Str × Addr))))) = (pure (clOf env.cells names acc) : Sem _) := by
    intro names
    induction names with
    | nil => intro acc _; rfl
    | cons y r ih =>
      intro acc hy
      obtain ⟨n, k⟩ := y
      rw [List.forIn_cons]
      have hr : ∀ y ∈ r, y.2 = .free -> ∃ c, env.cells.lookup y.1 = some c := fun y hm => hy y (List.mem_cons_of_mem _ hm)
      unfold clOf
      by_cases hk : (k == NameKind.free) = true
      . obtain ⟨c, e⟩ := hy (n, k) List.mem_cons_self (by simpa using hk)
        rw [if_pos hk, if_pos hk]
        have e2 : cellOf env n = pure c := by unfold cellOf; rw [show env.cells.lookup n = some c from e]
        rw [e2]
        rw [show env.cells.lookup n = some c from e]
        exact ih _ hr
      . rw [if_neg hk, if_neg hk]
        exact ih _ hr
  have q := all scope.names [] h
  unfold closureFor
  refine Eq.trans ?_ (congrArg (fun t => t >>= pure) q |>.trans (by rfl))
  congr 1
theorem clOf_mem {cells : List (Str × Addr)} : ∀ (names : List (Str × NameKind)) (acc : List (Str × Addr)) (x : Str) (c : Addr), (∀ y ∈ names, y.2 = .free -> ∃ c, cells.lookup y.1 = some c) -> (x, c) ∈ clOf cells names acc -> (x, c) ∈ acc \/ ((x, NameKind.free) ∈ names /\ cells.lookup x = some c)
  | [], _, _, _, _, h => .inl h
  | (n, k) :: r, acc, x, c, hy, h => by
    have hr : ∀ y ∈ r, y.2 = .free -> ∃ c, cells.lookup y.1 = some c := fun y hm => hy y (List.mem_cons_of_mem _ hm)
    unfold clOf at h
    split at h
    . rename_i hk
      have hk' : k = .free := by simpa using hk
      subst hk'
      obtain ⟨d, e⟩ := hy (n, .free) List.mem_cons_self rfl
      rcases clOf_mem r _ x c hr h with h | ⟨h, h'⟩
      . rcases List.mem_cons.mp h with e' | h
        . obtain ⟨e1, e2⟩ := Prod.mk.inj e'
          rw [show cells.lookup n = some d from e] at e2
          subst e1
          exact .inr ⟨List.mem_cons_self, by rw [e2]; exact e⟩
        . exact .inl h
      . exact .inr ⟨List.mem_cons_of_mem _ h, h'⟩
    . rcases clOf_mem r _ x c hr h with h | ⟨h, h'⟩
      . exact .inl h
      . exact .inr ⟨List.mem_cons_of_mem _ h, h'⟩
theorem clOf_keep {cells : List (Str × Addr)} {x : Str} : ∀ (names : List (Str × NameKind)) (acc : List (Str × Addr)), (∃ c, (x, c) ∈ acc) -> ∃ c, (x, c) ∈ clOf cells names acc
  | [], _, h => h
  | (n, k) :: r, acc, ⟨c, h⟩ => by
    unfold clOf
    split
    . exact clOf_keep r _ ⟨c, List.mem_cons_of_mem _ h⟩
    . exact clOf_keep r _ ⟨c, h⟩
theorem clOf_has {cells : List (Str × Addr)} {x : Str} : ∀ (names : List (Str × NameKind)) (acc : List (Str × Addr)), (x, NameKind.free) ∈ names -> ∃ c, (x, c) ∈ clOf cells names acc
  | (n, k) :: r, acc, h => by
    unfold clOf
    rcases List.mem_cons.mp h with e | h
    . cases e
      rw [if_pos (by decide)]
      exact clOf_keep r _ ⟨_, List.mem_cons_self⟩
    . split
      . exact clOf_has r _ h
      . exact clOf_has r _ h
theorem lookup_of_mem {α : Type} {x : Str} : ∀ {l : List (Str × α)}, (∃ c, (x, c) ∈ l) -> ∃ c, l.lookup x = some c
  | (k, v) :: l, ⟨c, h⟩ => by
    rw [List.lookup_cons]
    cases hb : x == k with
    | true => exact ⟨v, rfl⟩
    | false =>
      rcases List.mem_cons.mp h with e | h
      . cases e; simp at hb
      . exact lookup_of_mem ⟨c, h⟩
def relS (scope sc : Scope) : Scope :=
  { scope with names := scope.names.map fun (n, k) => if (k == .free && sc.kind == .function && sc.names.lookup n == some .cell) then (n, .cell) else (n, k) }
structure CompScope (scope sc : Scope) : Prop where
  kind : scope.kind = .function
  nd : (scope.names.map (·.1)).Nodup
  fr : ∀ y ∈ scope.names, y.2 = .free -> sc.names.lookup y.1 = some .cell \/ sc.names.lookup y.1 = some .free
theorem lookup_nd {α : Type} : ∀ {l : List (Str × α)} {x : Str} {c : α}, (l.map (·.1)).Nodup -> (x, c) ∈ l -> l.lookup x = some c
  | (k, v) :: l, x, c, nd, h => by
    obtain ⟨n1, n2⟩ := List.nodup_cons.mp (show (k :: l.map (·.1)).Nodup from nd)
    rw [List.lookup_cons]
    rcases List.mem_cons.mp h with e | h
    . cases e; simp
    . have hne : ¬ x = k := fun e => n1 (by rw [<- e]; exact List.mem_map.mpr ⟨(x, c), h, rfl⟩)
      have : (x == k) = false := by simpa using hne
      rw [this]
      exact lookup_nd n2 h
theorem relS_lookup {scope sc : Scope} {x : Str} : (relS scope sc).names.lookup x = (scope.names.lookup x).map fun k => if (k == .free && sc.kind == .function && sc.names.lookup x == some .cell) then NameKind.cell else k := by
  show (scope.names.map _).lookup x = _
  generalize scope.names = names
  induction names with
  | nil => rfl
  | cons y r ih =>
    obtain ⟨n, k⟩ := y
    rw [List.map_cons]
    by_cases hc : (k == .free && sc.kind == .function && sc.names.lookup n == some .cell) = true
    . show List.lookup x ((if (k == .free && sc.kind == .function && sc.names.lookup n == some .cell) = true then (n, NameKind.cell) else (n, k)) :: _) = _
      rw [if_pos hc, List.lookup_cons, List.lookup_cons]
      cases hb : x == n with
      | true =>
        have hx : x = n := by simpa using hb
        subst hx
        show some NameKind.cell = some (if _ then _ else _)
        rw [if_pos hc]
      | false => exact ih
    . show List.lookup x ((if (k == .free && sc.kind == .function && sc.names.lookup n == some .cell) = true then (n, NameKind.cell) else (n, k)) :: _) = _
      rw [if_neg hc, List.lookup_cons, List.lookup_cons]
      cases hb : x == n with
      | true =>
        have hx : x = n := by simpa using hb
        subst hx
        show some k = some (if _ then _ else _)
        rw [if_neg hc]
      | false => exact ih
structure CArgs where
  pins : List (Addr × Obj)
  cells : List (Str × Addr)
  s : Shared
  H : Hp
  fp : List Addr
  C : Addr
def Cx.comp (X : Cx) (scope : Scope) (N' : List Str) (c : CArgs) : Cx where
  prog := X.prog
  w := X.w
  K := X.K
  mg := X.mg
  base := X.base
  A := X.A
  N := N'
  s₀ := c.s
  H₀ := c.H
  env := compEnvC scope c.cells c.C X.env
  outer := X.stack
  stack := X.stack
  ex := c.fp
  fn := fun x => scope.names.lookup x == some .cell
  calm := X.calm
  pn := X.pn ++ c.pins
  xe := fun _ _ => False
def cSt (own : Nat) (ix : List Nat) (σ : St) : St := List.replicate own none ++ ix.map fun i => (σ[i]?).join
section
variable {X : Cx} {pins : List (Addr × Obj)} {σ : St} {H : Hp} {s s4 : Shared} {fp : List Addr} {scope : Scope} {N' : List Str} {own : Nat} {ix : List Nat}
theorem comp_inv (I : Inv X pins σ H s) (f2 : ∀ b ∈ fp, FpOk X pins H b) (hob : ∀ b ∈ fp, ∃ o, s.heap.get? b = some o) (S : CompScope scope X.env.scope)
    (hlen : N'.length = own + ix.length) (hN : (N'.drop own).map some = ix.map (X.N[·]?)) (hfr : ∀ x ∈ N'.drop own, scope.names.lookup x = some .free)
    {C : Addr} (hC : s.heap.objs.size < C) (k4 : ∀ b o, s.heap.get? b = some o -> s4.heap.get? b = some o) (os4 : s4.os = s.os) (g4 : s4.gens = s.gens)
    (n4 : ∃ m, s4.heap.Ns C m) (own4 : ∀ x c, (x, c) ∈ cellsFrom (C + 1) scope.names [] -> s4.heap.IsCell c none /\ C + 1 <= c)
    (apart : (cellsFrom (C + 1) scope.names []).Pairwise fun x y => x.2 ≠ y.2) :
    Inv (X.comp scope N' ⟨pins, cellsFrom (C + 1) scope.names (clOf X.env.cells scope.names []), s, H, fp, C⟩) [] (cSt own ix σ) H s4 := by
  have hfree : ∀ y ∈ scope.names, y.2 = .free -> ∃ c, X.env.cells.lookup y.1 = some c := fun y hy h => I.ok.has y.1 (S.fr y hy h)
  -- a cell of the block
  have cases : ∀ x c, (cellsFrom (C + 1) scope.names (clOf X.env.cells scope.names [])).lookup x = some c ->
      ((x, c) ∈ cellsFrom (C + 1) scope.names [] /\ scope.names.lookup x = some .cell) \/ ((x, NameKind.free) ∈ scope.names /\ X.env.cells.lookup x = some c) := fun x c h => by
    rw [cellsFrom_app, lookup_app] at h
    cases e : (cellsFrom (C + 1) scope.names []).lookup x with
    | some d =>
      rw [e] at h
      cases h
      have m := mem_of_lookup e
      rcases cellsFrom_kind _ _ _ _ _ m with z | z
      . exact absurd z (by simp)
      . exact .inl ⟨m, lookup_nd S.nd z⟩
    | none =>
      rw [e] at h
      rcases clOf_mem _ _ _ _ hfree (mem_of_lookup h) with z | z
      . exact absurd z (by simp)
      . exact .inr z
  have oldlt : ∀ x c, X.env.cells.lookup x = some c -> c < s.heap.objs.size := fun x c e => let ⟨v, q⟩ := I.cell x c e; q.lt
  have kin : ∀ x, (relS scope X.env.scope).names.lookup x = some .cell \/ (relS scope X.env.scope).names.lookup x = some .free -> (scope.names.lookup x = some .cell \/ scope.names.lookup x = some .free) := fun x h => by
    rw [relS_lookup] at h
    cases e : scope.names.lookup x with
    | none => rw [e] at h; simp at h
    | some k =>
      rw [e] at h
      cases k with
      | cell => exact .inl rfl
      | free => exact .inr rfl
      | _ => exact absurd h (by simp)
  have hCn : ∀ b o, s.heap.get? b = some o -> b ≠ C := fun b o e z => by have := Heap.lt_size e; rw [z] at this; exact Nat.lt_irrefl _ (Nat.lt_trans this hC)
  have lk : ∀ x, (x, NameKind.free) ∈ scope.names -> ∀ c, X.env.cells.lookup x = some c -> (cellsFrom (C + 1) scope.names (clOf X.env.cells scope.names [])).lookup x = some c := fun x hx c hc => by
    have hl : scope.names.lookup x = some .free := lookup_nd S.nd hx
    rw [cellsFrom_app, lookup_app, lookup_none_of (l := cellsFrom (C + 1) scope.names []) fun d hd => ?_]
    . obtain ⟨d, hd⟩ := lookup_of_mem (clOf_has (cells := X.env.cells) scope.names [] hx)
      rcases clOf_mem _ _ _ _ hfree (mem_of_lookup hd) with z | ⟨_, z⟩
      . exact absurd z (by simp)
      . rw [hc] at z; cases z; exact hd
    . rcases cellsFrom_kind _ _ _ _ _ hd with z | z
      . exact absurd z (by simp)
      . rw [lookup_nd S.nd z] at hl; cases hl
  refine ⟨⟨I.ok.mod, S.kind, I.ok.glob, I.ok.blt, Nat.le_of_lt hC, fun x y c hx hy => ?_, fun x hx => ?_, fun x c hf hx => ?_, I.ok.hd, I.ok.frames, .inl rfl, fun b hb => ⟨?_, fun x c hx => ?_⟩, fun b o e => I.bs b o e, Nat.le_trans I.ok.bsz I.sz, fun b o e hb => ?_, fun b hb z => ?_, I.stack, I.stkFree⟩,
    os4, by rw [g4]; exact I.bare, Un.kept k4, ?_, fun x c hx => ?_, ?_, fun x c hx => ?_, fun p hp => ?_, I.hok.kept k4, ?_⟩
  . -- inj
    rcases cases x c hx with ⟨m1, _⟩ | ⟨_, m1⟩ <;> rcases cases y c hy with ⟨m2, _⟩ | ⟨_, m2⟩
    . exact name_of_addr apart m1 m2
    . exact absurd (Nat.lt_of_lt_of_le (Nat.lt_trans (oldlt y c m2) hC) (Nat.le_of_succ_le (own4 x c m1).2)) (Nat.lt_irrefl _)
    . exact absurd (Nat.lt_of_lt_of_le (Nat.lt_trans (oldlt x c m1) hC) (Nat.le_of_succ_le (own4 y c m2).2)) (Nat.lt_irrefl _)
    . exact I.ok.inj x y c m1 m2
  . -- has
    rcases kin x hx with h | h
    . have q := PySem.W.cellsFrom_some scope.names (C + 1) (clOf X.env.cells scope.names []) (.inl h)
      exact Option.isSome_iff_exists.mp q
    . obtain ⟨c, e⟩ := hfree (x, .free) (mem_of_lookup h) rfl
      exact ⟨c, lk x (mem_of_lookup h) c e⟩
  . -- cab
    rcases cases x c hx with ⟨m1, _⟩ | ⟨m1, _⟩
    . exact Nat.le_of_lt (Nat.lt_of_lt_of_le hC (Nat.le_of_succ_le (own4 x c m1).2))
    . have hl := lookup_nd S.nd m1
      have hf' : (scope.names.lookup x == some NameKind.cell) = true := hf
      rw [hl] at hf'; cases hf'
  . obtain ⟨o, e⟩ := hob b hb
    exact hCn b o e
  . intro z
    obtain ⟨o, e⟩ := hob b hb
    have hlt := Heap.lt_size e
    rcases cases x c hx with ⟨m1, _⟩ | ⟨_, m1⟩
    . subst z; exact absurd (Nat.lt_of_lt_of_le (Nat.lt_trans hlt hC) (Nat.le_of_succ_le (own4 x c m1).2)) (Nat.lt_irrefl _)
    . exact (f2 b hb).2.2.2.2.1 x c m1 z
  . -- noex
    have e1 := (I.ok.bs b o e).1
    rcases (f2 b hb).2.2.2.1 with z | z
    . exact I.ok.noex b o e z
    . exact absurd (Nat.lt_of_lt_of_le (Heap.lt_size e1) z) (Nat.lt_irrefl _)
  . -- exfs
    rcases List.mem_cons.mp (I.stkSub b z) with e | z
    . exact (f2 b hb).2.1 e
    . exact (f2 b hb).2.2.1 z
  . -- loc
    obtain ⟨m, hm⟩ := n4
    obtain ⟨m0, hn0, hl0⟩ := I.loc
    refine ⟨m, hm, fun i x v h1 h2 h3 => ?_⟩
    have h1 : N'[i]? = some x := h1
    unfold cSt at h2
    by_cases hi : i < own
    . rw [List.getElem?_append_left (by simpa using hi), List.getElem?_replicate] at h2
      split at h2 <;> cases h2
    . rw [List.getElem?_append_right (by simpa using hi), List.length_replicate, List.getElem?_map] at h2
      obtain ⟨j, hj⟩ : ∃ j, i = own + j := ⟨i - own, by omega⟩
      subst hj
      rw [Nat.add_sub_cancel_left] at h2
      cases e : ix[j]? with
      | none => rw [e] at h2; cases h2
      | some q =>
        rw [e] at h2
        have h2 : some (σ[q]?).join = some (some v) := h2
        have h2 : (σ[q]?).join = some v := Option.some.inj h2
        have hσ : σ[q]? = some (some v) := by
          cases eq : σ[q]? with
          | none => rw [eq] at h2; cases h2
          | some z => rw [eq] at h2; simp at h2; rw [h2]
        have hx : (N'.drop own)[j]? = some x := by rw [List.getElem?_drop]; exact h1
        have hNq : X.N[q]? = some x := by
          have := congrArg (·[j]?) hN
          simp only [List.getElem?_map, hx, e, Option.map_some] at this
          exact (Option.some.inj this).symm
        have hfx := hfr x (List.mem_of_getElem? hx)
        have hmem := mem_of_lookup hfx
        have kx := S.fr (x, .free) hmem rfl
        have vis : Vis X.env.scope x := .inr kx
        obtain ⟨u, r, l⟩ := hl0 q x v hNq hσ vis
        refine ⟨u, r, ?_⟩
        rcases l with ⟨k, _⟩ | ⟨k, c, hc, z⟩
        . exfalso
          have k' : X.env.scope.names.lookup x = some .local := k
          rcases kx with kx | kx
          . rw [show X.env.scope.names.lookup x = some .cell from kx] at k'; cases k'
          . rw [show X.env.scope.names.lookup x = some .free from kx] at k'; cases k'
        . refine .inr ⟨?_, c, lk x hmem c hc, z.keeps k4⟩
          show (relS scope X.env.scope).names.lookup x = some .cell \/ (relS scope X.env.scope).names.lookup x = some .free
          rw [relS_lookup, hfx]
          by_cases hc : (NameKind.free == .free && X.env.scope.kind == .function && X.env.scope.names.lookup x == some .cell) = true
          . exact .inl (by rw [Option.map_some, if_pos hc])
          . exact .inr (by rw [Option.map_some, if_neg hc])
  . rcases cases x c hx with ⟨m1, _⟩ | ⟨_, m1⟩
    . exact ⟨_, (own4 x c m1).1⟩
    . obtain ⟨v, q⟩ := I.cell x c m1
      exact ⟨v, q.keeps k4⟩
  . exact I.hok.fresh (Nat.le_of_lt hC)
  . rcases cases x c hx with ⟨m1, _⟩ | ⟨_, m1⟩
    . exact I.hok.fresh (Nat.le_of_lt (Nat.lt_of_lt_of_le hC (Nat.le_of_succ_le (own4 x c m1).2)))
    . exact I.freeC x c m1
  . have hp : p ∈ X.pn ++ pins := by
      have : p ∈ (X.pn ++ pins) ++ [] := hp
      rwa [List.append_nil] at this
    obtain ⟨e, n, ne, nf, d⟩ := I.pin p hp
    refine ⟨k4 _ _ e, n, hCn _ _ e, fun z => ?_, d⟩
    rcases List.mem_cons.mp (I.stkSub _ z) with q | q
    . exact ne q
    . exact nf q
  . unfold cSt
    rw [List.length_append, List.length_replicate, List.length_map]
    exact hlen.symm
end
section
variable {prog : Program} {w : World} {A : Around} {R : Result -> Shared -> Prop} {s : Shared}
theorem codeAny_compLoop_any {elt target iter : Expr} {ifs : List Expr} {scope : Scope} {pos : Pos} {it acc : Value} {env : Env} (I : Nat -> Shared -> Prop)
    (turn : ∀ n s, I n s -> wpAny (model prog w) A (pyNext it) (fun r s₁ => match r with
      | none => R (.ok .next) s₁
      | some v => wpAny (model prog w) A (letOwnedTupleGo target it v) (fun _ s₁' => wpAny (model prog w) A (assign target env v) (fun _ s₂ =>
          wpAny (model prog w) A (forIn ifs true fun c r => if r = true then do let ok <- isTrue c env (eval c env); pure (ForInStep.yield ok) else pure (ForInStep.yield r)) (fun ok s₃ =>
            if ok = true then wpAny (model prog w) A (eval elt env) (fun x s₄ =>
              wpAny (model prog w) A (call (.builtin "list.append") [acc, x]) (fun _ s₅ => ∃ m, m < n /\ I m s₅) (fun _ _ => False) s₄) (fun _ _ => False) s₃
            else ∃ m, m < n /\ I m s₃) (fun _ _ => False) s₂) (fun _ _ => False) s₁') (fun _ _ => False) s₁) (fun _ _ => False) s)
    (n : Nat) (h : I n s) :
    codeAny (model prog w) A (.compLoop (.ListComp elt [⟨target, iter, ifs, 0⟩] scope pos) 0 it acc env) R s := by
  refine codeAny_loop rfl I (fun n s hI => ?_) n h
  show wpAny _ A ((compTurn (.ListComp elt [⟨target, iter, ifs, 0⟩] scope pos) 0 it acc env).onRaise (fun x => do noteFrame x env; theTreesLotGoes x)) _ _ s
  refine wpAny_noted ?_
  rw [compTurn_list]
  refine wpAny_bind (wpAny_standAt (wpAny_bind (wpAny_mono (turn n s hI) (fun r s₁ h₁ => ?_) fun _ _ h' => h'.elim)))
  cases r with
  | none => exact wpAny_pure h₁
  | some v =>
    refine wpAny_bind (wpAny_mono h₁ (fun _ s₁' h₁' => ?_) fun _ _ h' => h'.elim)
    refine wpAny_bind (wpAny_mono h₁' (fun _ s₂ h₂ => wpAny_bind (wpAny_mono h₂ (fun ok s₃ h₃ => ?_) fun _ _ h' => h'.elim)) fun _ _ h' => h'.elim)
    cases ok with
    | false => exact wpAny_pure ⟨rfl, h₃⟩
    | true =>
      exact wpAny_bind (wpAny_bind (wpAny_mono h₃ (fun x s₄ h₄ => wpAny_bind (wpAny_mono h₄ (fun _ s₅ h₅ => wpAny_pure (wpAny_pure ⟨rfl, h₅⟩)) fun _ _ h' => h'.elim)) fun _ _ h' => h'.elim))
end
def PTs (X : Cx) (ifs : List Expr) (t : TT) : Prop :=
  ∀ (pins : List (Addr × Obj)) (s : Shared) (σ : St) (H : Hp) (Q : Bool -> Hp -> Prop), Inv X pins σ H s -> t σ H Q ->
    wpAny (model X.prog X.w) X.A (forIn ifs true fun c r => if r = true then do let ok <- isTrue c X.env (eval c X.env); pure (ForInStep.yield ok) else pure (ForInStep.yield r)) (TP X pins σ Q) X.xe s
def tTrue : TT := fun _ H Q => Q true H
theorem pts_nil {X : Cx} : PTs X [] tTrue := fun _ _ _ H _ I h => wpAny_tests_nil ⟨H, I, h⟩
theorem pts_one {X : Cx} {c : Expr} {t : TT} (h : PT X c t) : PTs X [c] t := fun pins s σ H Q I hq => wpAny_tests_one (h pins s σ H Q I hq)
def GOwn (own : Nat) (g : TG) : Prop := ∀ x σ H Q, g x σ H Q -> g x σ H fun σ' H' => (σ'.length = σ.length /\ ∀ i, own <= i -> σ'[i]? = σ[i]?) /\ Q σ' H'
def GsOwn (own : Nat) (g : TGs) : Prop := ∀ x σ H Q, g x σ H Q -> g x σ H fun σ' H' => (σ'.length = σ.length /\ ∀ i, own <= i -> σ'[i]? = σ[i]?) /\ Q σ' H'
theorem go_name {own i : Nat} (h : i < own) : GOwn own (gName i) := fun x σ H Q q =>
  ⟨⟨by simp, fun j hj => by rw [List.getElem?_set_ne (by omega)]⟩, q⟩
theorem gos_nil {own : Nat} : GsOwn own gNil := fun x σ H Q ⟨e, q⟩ => ⟨e, ⟨rfl, fun _ _ => rfl⟩, q⟩
def GMono (g : TG) : Prop := ∀ x σ H (Q Q' : St -> Hp -> Prop), (∀ σ H, Q σ H -> Q' σ H) -> g x σ H Q -> g x σ H Q'
def GsMono (g : TGs) : Prop := ∀ x σ H (Q Q' : St -> Hp -> Prop), (∀ σ H, Q σ H -> Q' σ H) -> g x σ H Q -> g x σ H Q'
theorem gm_name {i : Nat} : GMono (gName i) := fun _ _ _ _ _ h q => h _ _ q
theorem gms_nil : GsMono gNil := fun _ _ _ _ _ h ⟨e, q⟩ => ⟨e, h _ _ q⟩
theorem gms_cons {t : TG} {u : TGs} (h1 : GMono t) (h2 : GsMono u) : GsMono (gCons t u) := fun _ _ _ _ _ h ⟨v, r, e, q⟩ => ⟨v, r, e, h1 _ _ _ _ _ (fun _ _ q => h2 _ _ _ _ _ h q) q⟩
theorem gos_cons {own : Nat} {t : TG} {u : TGs} (m : GMono t) (mu : GsMono u) (h1 : GOwn own t) (h2 : GsOwn own u) : GsOwn own (gCons t u) := fun x σ H Q ⟨v, r, e, q⟩ =>
  ⟨v, r, e, m _ _ _ _ _ (fun σ' H' ⟨⟨e1, e2⟩, q⟩ => mu _ _ _ _ _ (fun σ'' H'' ⟨⟨e3, e4⟩, q⟩ => ⟨⟨e3.trans e1, fun i hi => (e4 i hi).trans (e2 i hi)⟩, q⟩) (h2 r σ' H' Q q)) (h1 v σ H _ q)⟩
theorem go_tup {own : Nat} {K : PySem.W.Frag} {n : Nat} {t : TGs} (h : GsOwn own t) : GOwn own (gTup K n t) := fun x σ H Q ⟨a, xs, e, s, l, q⟩ => ⟨a, xs, e, s, l, h _ _ _ _ q⟩
theorem cSt_own {own : Nat} {ix : List Nat} {σ : St} {i : Nat} {v : V} (h : (cSt own ix σ)[i]? = some (some v)) : own <= i := by
  unfold cSt at h
  by_cases hi : i < own
  . rw [List.getElem?_append_left (by simpa using hi), List.getElem?_replicate] at h
    split at h <;> cases h
  . omega
def CompTurns (J : It) (g : TG) (tc : TT) (te : TE) (σc : St) (Q : VK) (H1 : Hp) : Prop :=
  ∃ W : Nat -> Nat -> List V -> Hp -> Prop, (∃ m, W 0 m [] H1) /\ ∀ i m ys H, W i m ys H ->
    (J.stop i H /\ ∀ p, H p = none -> Q (.ref p) (upd H p (.lst ys))) \/
    (J.go i H /\ ys.length < sizeLine /\ ∃ N : List V -> Hp -> Prop, (∀ ys' H', N ys' H' -> ∃ m', m' < m /\ W (i + 1) m' ys' H') /\ ∀ x H', J.yld i H x H' -> g x σc H' fun σ4 H4 => tc σ4 H4 fun b H5 =>
      if b = true then te σ4 H5 fun y H6 => N (ys ++ [y]) H6 else N ys H5)
def tComp (wi : TI) (own : Nat) (ix : List Nat) (g : TG) (tc : TT) (te : TE) : TE := fun σ H Q => wi σ H fun J H1 => CompTurns J g tc te (cSt own ix σ) Q H1
section
variable {X : Cx} {pins : List (Addr × Obj)} {σ : St} {H : Hp} {s : Shared} {fp : List Addr} {it : Addr} {tn : Nat -> Heap -> Prop} {J : It} {tg iter elt : Expr} {ifs : List Expr} {scope : Scope} {pos : Pos} {N' : List Str} {own : Nat} {ix : List Nat} {g : TG} {tc : TT} {te : TE} {Q : VK} {E : Value -> Shared -> Prop}
theorem comp_block (I : Inv X pins σ H s) (T : Turn X.prog X.w X.K tg J fp it tn) (st : tn 0 s.heap) (f2 : ∀ b ∈ fp, FpOk X pins H b) (hc : X.calm = true) (S : CompScope scope X.env.scope)
    (hlen : N'.length = own + ix.length) (hN : (N'.drop own).map some = ix.map (X.N[·]?)) (hfr : ∀ x ∈ N'.drop own, scope.names.lookup x = some .free)
    (hg : ∀ c, PG (X.comp scope N' c) tg g) (hgo : GOwn own g) (ht : ∀ c, PTs (X.comp scope N' c) ifs tc) (he : ∀ c, PE (X.comp scope N' c) elt te)
    (hq : CompTurns J g tc te (cSt own ix σ) Q H) {RR : Value -> Addr -> Result -> Shared -> Prop}
    (fin : ∀ (D C : Addr) (s' : Shared) (H' : Hp) (ys : List V) (its : List Value) (n : Nat), s'.os = s.os -> AllBare s'.gens -> Un (frs X.stack) fp H H' s.heap s'.heap -> HOk X.prog X.w H' s'.heap -> (∃ m, s'.heap.Ns C m) -> H' C = none -> s.heap.objs.size <= C ->
      H' D = none -> s.heap.objs.size <= D -> D ≠ C -> s'.heap.get? D = some { cls := .type "list", data := .seq its.toArray n } -> Vals ys its -> ys.length <= sizeLine -> (∀ p, H' p = none -> Q (.ref p) (upd H' p (.lst ys))) -> RR (.ref D) C (.ok .next) s') :
    wpAny (model X.prog X.w) X.A (newList []) (fun acc s₃ => wpAny (model X.prog X.w) X.A (newFunctionEnv scope X.env.globals (clOf X.env.cells scope.names []) [] X.env.qual none .none (some X.env)) (fun cenv s₄ =>
      codeAny (model X.prog X.w) X.A (.compStart (.ListComp elt [⟨tg, iter, ifs, 0⟩] scope pos) 0 (.ref it) acc { cenv with scope := relabel scope X.env }) (RR acc cenv.locals) s₄) E s₃) E s := by
  obtain ⟨W, ⟨m0, w0⟩, turn⟩ := hq
  have hob : ∀ b ∈ fp, ∃ o, s.heap.get? b = some o := fun b hb => let ⟨o, e, _⟩ := T.obj 0 _ st b hb; ⟨o, e⟩
  refine wpAny_newObj_type ?_
  generalize hH1 : s.heap.push { cls := .type "list", dict := none, data := .seq ([] : List Value).toArray } = h1
  have hs1 : h1.objs.size = s.heap.objs.size + 1 := by rw [<- hH1, Heap.size_push]
  have k1 : ∀ b o, s.heap.get? b = some o -> h1.get? b = some o := fun b o e => by rw [<- hH1]; exact Heap.get?_push_of_some _ e
  have d1 : h1.get? s.heap.objs.size = some { cls := .type "list", data := .seq ([] : List Value).toArray } := by rw [<- hH1]; exact Heap.get?_push_size _ rfl
  simp only [newFunctionEnv, Option.isSome_some, if_true]
  refine wpAny_bind (wpAny_alloc ?_)
  generalize hH2 : (({ s with heap := h1 } : Shared).heap.push { cls := .type "dict", data := .dict #[] }) = h2
  have hH2' : h1.push { cls := .type "dict", data := .dict #[] } = h2 := hH2
  have hs2 : h2.objs.size = h1.objs.size + 1 := by rw [<- hH2', Heap.size_push]
  have k2 : ∀ b o, h1.get? b = some o -> h2.get? b = some o := fun b o e => by rw [<- hH2']; exact Heap.get?_push_of_some _ e
  have n2 : h2.Ns h1.objs.size (fun _ => none) := by rw [<- hH2']; exact Heap.Ns.new h1 (.type "dict")
  refine wpAny_bind (wpAny_layCells _ (fun name kind cells => by cases hkc : kind == NameKind.cell <;> simp [hkc]) _ _ _ _ ?_)
  have ok := cellsFrom_ok scope.names h2 (h1.objs.size + 1) [] ⟨fun _ _ hm => (nomatch hm), List.Pairwise.nil⟩ (by rw [hs2]; exact Nat.le_refl _)
  rw [hs2] at ok
  show wpAny _ _ (forIn ([] : List (Str × Value)) PUnit.unit _ >>= _) _ _ _
  rw [List.forIn_nil]
  refine wpAny_bind (wpAny_pure (wpAny_pure ?_))
  show codeAny _ _ (.compStart _ 0 (.ref it) (.ref s.heap.objs.size) (compEnvC scope (cellsFrom h2.objs.size scope.names (clOf X.env.cells scope.names [])) h1.objs.size X.env)) (RR (.ref s.heap.objs.size) h1.objs.size) { s with heap := pushCells h2 scope.names }
  rw [hs2]
  generalize hH3 : pushCells h2 scope.names = h3 at ok ⊢
  have k3 : ∀ b o, h2.get? b = some o -> h3.get? b = some o := fun b o e => by rw [<- hH3]; exact pushCells_keeps _ _ b o e
  have kk : ∀ b o, s.heap.get? b = some o -> h3.get? b = some o := fun b o e => k3 b o (k2 b o (k1 b o e))
  have d3 : h3.get? s.heap.objs.size = some { cls := .type "list", data := .seq ([] : List Value).toArray } := k3 _ _ (k2 _ _ d1)
  have hC : s.heap.objs.size < h1.objs.size := by rw [hs1]; exact Nat.lt_succ_self _
  have I3 : Inv (X.comp scope N' ⟨pins, cellsFrom (h1.objs.size + 1) scope.names (clOf X.env.cells scope.names []), s, H, fp, h1.objs.size⟩) [] (cSt own ix σ) H { s with heap := h3 } :=
    comp_inv (s4 := { s with heap := h3 }) I f2 hob S hlen hN hfr hC kk rfl rfl ⟨_, n2.keeps k3⟩ (fun x c hm => ok.empty x c hm) ok.apart
  generalize hcs : cellsFrom (h1.objs.size + 1) scope.names (clOf X.env.cells scope.names []) = cs at I3 ⊢
  generalize hCC : h1.objs.size = C at *
  generalize hDD : s.heap.objs.size = D at *
  have hY := I3.ok
  -- what is fixed of the records
  have sD : D ≠ C /\ (∀ x c, cs.lookup x = some c -> c ≠ D) /\ D ∉ frs X.stack /\ ∀ p ∈ X.pn ++ pins, p.1 ≠ D := by
    refine ⟨Nat.ne_of_lt hC, fun x c e z => ?_, fun z => ?_, fun p hp z => ?_⟩
    . subst z
      have e' := e
      rw [<- hcs, cellsFrom_app, lookup_app] at e'
      cases q : (cellsFrom (C + 1) scope.names []).lookup x with
      | some d =>
        rw [q] at e'; cases e'
        have := (ok.empty x c (mem_of_lookup q)).2
        exact absurd (Nat.lt_of_lt_of_le hC (Nat.le_of_succ_le this)) (Nat.lt_irrefl _)
      | none =>
        rw [q] at e'
        have hfree : ∀ y ∈ scope.names, y.2 = .free -> ∃ c, X.env.cells.lookup y.1 = some c := fun y hy h => I.ok.has y.1 (S.fr y hy h)
        rcases clOf_mem _ _ _ _ hfree (mem_of_lookup e') with z | ⟨_, z⟩
        . exact absurd z (by simp)
        . obtain ⟨v, q⟩ := I.cell x c z
          have := q.lt
          rw [hDD] at this
          exact Nat.lt_irrefl _ this
    . exact (I3.nofs (a := D) (by exact absurd z (by
        intro z'
        obtain ⟨_, o, ho, _⟩ := (show s.heap.FunFrames X.base X.stack from I.stack).mem z'
        have := Heap.lt_size ho
        rw [hDD] at this
        exact Nat.lt_irrefl _ this))) z
    . have := Heap.lt_size (I.pin p hp).1
      rw [z, hDD] at this
      exact Nat.lt_irrefl _ this
  have stat : ∀ {H' : Hp}, (∀ b ∈ fp, H' b = none) -> ∀ b ∈ fp, FpOk (X.comp scope N' ⟨pins, cs, s, H, fp, C⟩) [] H' b := fun {H'} hn b hb => by
    refine ⟨hn b hb, (hY.exf b hb).1, hY.exfs b hb, .inl hb, (hY.exf b hb).2, fun p hp => ?_⟩
    have hp : p ∈ (X.pn ++ pins) ++ [] := hp
    rw [List.append_nil] at hp
    exact (f2 b hb).2.2.2.2.2 p hp
  have statD : ∀ {H' : Hp}, H' D = none -> FpOk (X.comp scope N' ⟨pins, cs, s, H, fp, C⟩) [] H' D := fun {H'} hn => by
    refine ⟨hn, sD.1, sD.2.2.1, .inr (Nat.le_of_eq hDD), sD.2.1, fun p hp => ?_⟩
    have hp : p ∈ (X.pn ++ pins) ++ [] := hp
    rw [List.append_nil] at hp
    exact sD.2.2.2 p hp
  have loop : codeAny (model X.prog X.w) X.A (.compLoop (.ListComp elt [⟨tg, iter, ifs, 0⟩] scope pos) 0 (.ref it) (.ref D) (compEnvC scope cs C X.env)) (RR (.ref D) C) { s with heap := h3 } := by
    refine codeAny_compLoop_any (fun n s' => ∃ (i : Nat) (H' : Hp) (ys : List V) (its : List Value) (k : Nat), Inv (X.comp scope N' ⟨pins, cs, s, H, fp, C⟩) [] (cSt own ix σ) H' s' /\ tn i s'.heap /\ (∀ b ∈ fp, H' b = none) /\ H' D = none /\
      s'.heap.get? D = some { cls := .type "list", data := .seq its.toArray k } /\ Vals ys its /\ ys.length <= sizeLine /\ W i n ys H') ?_ m0
      ⟨0, H, [], [], 0, I3, T.keep _ _ _ st fun b _ o e => kk b o e, fun b hb => (f2 b hb).1, I.hok.fresh (Nat.le_of_eq hDD), d3, .nil, Nat.zero_le _, w0⟩
    rintro n s4 ⟨i, H4, ys, its, k, I4, st4, fr4, dn4, d4, rv4, z4, w4⟩
    rcases turn i n ys H4 w4 with ⟨stop, qn⟩ | ⟨go, zl, N, hN2, step⟩
    . have ID := I4.pinned (fp := [D]) (fun b hb => by rw [List.mem_singleton.mp hb]; exact statD dn4) (fun b hb => by rw [List.mem_singleton.mp hb]; exact ⟨_, d4, fun v z => nomatch z⟩)
      have nD : ∀ b ∈ fp, b ≠ D := fun b hb z => by
        obtain ⟨o, e⟩ := hob b hb
        have := Heap.lt_size e
        rw [z, hDD] at this
        exact Nat.lt_irrefl _ this
      have stat' : ∀ b ∈ fp, FpOk (X.comp scope N' ⟨pins, cs, s, H, fp, C⟩) ([] ++ pinsAt [D] s4.heap) H4 b := fun b hb => by
        obtain ⟨q1, q2, q3, q4, q5, q6⟩ := stat fr4 b hb
        refine ⟨q1, q2, q3, q4, q5, fun p hp => ?_⟩
        rcases List.mem_append.mp hp with z | z
        . exact q6 p (List.mem_append_left _ z)
        . have := (of_pinsAt (by simpa using z : p ∈ pinsAt [D] s4.heap)).1
          rw [List.mem_singleton.mp this]
          exact fun z => nD b hb z.symm
      refine thn (T.done (X.comp scope N' ⟨pins, cs, s, H, fp, C⟩) rfl rfl rfl hc i _ s4 _ H4 (fun _ _ => False) ID stat' st4 stop) fun r s5 ⟨hr, I5⟩ => ?_
      subst hr
      obtain ⟨m, hm, _⟩ := I5.loc
      refine fin D C s5 H4 ys its k I5.os I5.bare I5.base I5.hok ⟨m, hm⟩ I5.free (Nat.le_of_lt hC) dn4 (Nat.le_refl _) sD.1 ?_ rv4 z4 qn
      . exact (I5.pin (D, _) (List.mem_append_right _ (List.mem_append_right _ (mem_pinsAt (List.mem_singleton.mpr rfl) d4)))).1
    . have nD : ∀ b ∈ fp, b ≠ D := fun b hb z => by
        obtain ⟨o, e⟩ := hob b hb
        have := Heap.lt_size e
        rw [z, hDD] at this
        exact Nat.lt_irrefl _ this
      have ID := I4.pinned (fp := [D]) (fun b hb => by rw [List.mem_singleton.mp hb]; exact statD dn4) (fun b hb => by rw [List.mem_singleton.mp hb]; exact ⟨_, d4, fun v z => nomatch z⟩)
      have statP : ∀ {H' : Hp}, (∀ b ∈ fp, H' b = none) -> ∀ b ∈ fp, FpOk (X.comp scope N' ⟨pins, cs, s, H, fp, C⟩) ([] ++ pinsAt [D] s4.heap) H' b := fun {H'} hn b hb => by
        obtain ⟨q1, q2, q3, q4, q5, q6⟩ := stat hn b hb
        refine ⟨q1, q2, q3, q4, q5, fun p hp => ?_⟩
        rcases List.mem_append.mp hp with z | z
        . exact q6 p (List.mem_append_left _ z)
        . have := (of_pinsAt (by simpa using z : p ∈ pinsAt [D] s4.heap)).1
          rw [List.mem_singleton.mp this]
          exact fun z => nD b hb z.symm
      refine thn (T.item (X.comp scope N' ⟨pins, cs, s, H, fp, C⟩) rfl rfl rfl hc i _ s4 _ H4 (fun _ _ => False) ID (statP fr4) st4 go) fun r s5 ⟨u, hr, h5⟩ => ?_
      subst hr
      refine thn h5 fun _ s6 ⟨x, H6, I6, r6, y6, st6, fr6⟩ => ?_
      have I6' := I6.pinned (statP fr6) (T.obj _ _ st6)
      refine thn (hg _ _ s6 _ H6 x u _ I6' r6 (hgo _ _ _ _ (step x H6 y6))) fun _ s7 ⟨σ7, H7, I7, ⟨e7, k7⟩, q7⟩ => ?_
      have I7' : Inv (X.comp scope N' ⟨pins, cs, s, H, fp, C⟩) ([] ++ pinsAt [D] s4.heap ++ pinsAt fp s6.heap) σ7 H7 s7 := I7
      refine thn (ht _ _ s7 σ7 H7 _ I7' q7) fun b s8 ⟨H8, I8, q8⟩ => ?_
      -- what is kept through the turn
      have back : ∀ {s9 : Shared} {H9 : Hp}, Inv (X.comp scope N' ⟨pins, cs, s, H, fp, C⟩) ([] ++ pinsAt [D] s4.heap ++ pinsAt fp s6.heap) σ7 H9 s9 ->
          Inv (X.comp scope N' ⟨pins, cs, s, H, fp, C⟩) [] (cSt own ix σ) H9 s9 /\ tn (i + 1) s9.heap /\ (∀ b ∈ fp, H9 b = none) /\ H9 D = none /\ s9.heap.get? D = some { cls := .type "list", data := .seq its.toArray k } := fun {s9 H9} I9 => by
        have pD := I9.pin (D, _) (List.mem_append_right _ (List.mem_append_left _ (List.mem_append_right _ (mem_pinsAt (List.mem_singleton.mpr rfl) d4))))
        refine ⟨I9.unpinned.unpinned.weak (by rw [e7]) fun j v hj => ?_, T.keep _ _ _ st6 fun b hb o e => (I9.pin (b, o) (List.mem_append_right _ (List.mem_append_right _ (mem_pinsAt hb e)))).1, fun b hb => ?_, pD.2.1, pD.1⟩
        . rw [k7 j (cSt_own hj)]; exact hj
        . obtain ⟨o, e, _⟩ := T.obj _ _ st6 b hb
          exact (I9.pin (b, o) (List.mem_append_right _ (List.mem_append_right _ (mem_pinsAt hb e)))).2.1
      cases b with
      | false =>
        rw [if_neg Bool.false_ne_true] at q8
        obtain ⟨m', hm, w8⟩ := hN2 _ _ q8
        obtain ⟨b1, b2, b3, b4, b5⟩ := back I8
        exact ⟨m', hm, i + 1, H8, ys, its, k, b1, b2, b3, b4, b5, rv4, z4, w8⟩
      | true =>
        rw [if_pos rfl] at q8
        rw [if_pos rfl]
        refine thn (he _ _ s8 σ7 H8 _ I8 q8) fun yv s9 ⟨y, H9, I9, r9, q9⟩ => ?_
        obtain ⟨m', hm, w9⟩ := hN2 _ _ q9
        obtain ⟨b1, b2, b3, b4, b5⟩ := back I9
        have hl := rv4.length
        refine call_meets F.slot_list_append ⟨_, b5, rfl⟩ F.entry_list_append (F.args_list_append_2 _ _) (PySem.list_append D its.toArray k yv (by rw [List.size_toArray]; omega)) ⟨b5, ?_⟩
        have up := PySem.IsL.update b5 (fun a => a.push yv)
        have keep : ∀ b o, b ≠ D -> s9.heap.get? b = some o -> (s9.heap.update D (Obj.mapSeq fun a => a.push yv)).get? b = some o := fun b o hb q => (Heap.get?_update_other _ _ (Ne.symm hb)).trans q
        obtain ⟨f0, f1, f2', f3, f4, f5⟩ := statD b4
        refine ⟨m', hm, i + 1, H9, ys ++ [y], its ++ [yv], (if ((its.toArray.push yv).size == its.toArray.size) = true then k else k + 1), b1.turned (t' := s9.toks) keep b4 f1 f3 f4 f5, ?_, b3, b4, ?_, rv4.append (.cons r9 .nil), ?_, w9⟩
        . exact T.keep _ _ _ b2 fun b hb o e => keep b o (nD b hb) e
        . have e2 : (its.toArray.push yv) = (its ++ [yv]).toArray := by simp
          rw [<- e2]
          exact up
        . rw [List.length_append, List.length_singleton]
          omega
  exact codeAny_compStart_list loop (T.self X.A 0 _ _ _ (T.keep _ _ _ st fun b _ o e => kk b o e) loop)
end
section
variable {X : Cx} {pins : List (Addr × Obj)} {σ : St} {H : Hp} {s : Shared} {fp : List Addr} {it : Addr} {tn : Nat -> Heap -> Prop} {J : It} {tg iter elt : Expr} {ifs : List Expr} {scope : Scope} {pos : Pos} {N' : List Str} {own : Nat} {ix : List Nat} {g : TG} {tc : TT} {te : TE} {wi : TI} {E : Value -> Shared -> Prop}
theorem comp_adopt {H' : Hp} {s' : Shared} {D : Addr} {ys : List V} {its : List Value} {n : Nat} (I : Inv X pins σ H s) (f2 : ∀ b ∈ fp, FpOk X pins H b) (ho : s'.os = s.os) (hg : AllBare s'.gens) (u : Un (frs X.stack) fp H H' s.heap s'.heap) (hok : HOk X.prog X.w H' s'.heap)
    (dn : H' D = none) (ds : s.heap.objs.size <= D) (d : s'.heap.get? D = some { cls := .type "list", data := .seq its.toArray n }) (rv : Vals ys its) (z : ys.length <= sizeLine) : Inv X pins σ (upd H' D (.lst ys)) s' := by
  have nD : ∀ b o, s.heap.get? b = some o -> b ≠ D := fun b o e q => by rw [q, Heap.get?_none_of_le ds] at e; cases e
  have nH : ∀ b o, H' b = some o -> b ≠ D := fun b o e q => by rw [q, dn] at e; cases e
  refine I.call' (ch := fp) ho ⟨u.keep, u.slot, fun b o e q hx => ?_, u.there, fun b xs e => ?_, fun b o v e => ?_, fun b ps e => ?_⟩ (fun b o e => ?_) hg fun b hb => ?_
  . rw [upd_ne (nD b o e)]; exact u.free b o e q hx
  . have := u.tups b xs e
    rw [upd_ne (nH _ _ this)]; exact this
  . have := u.frzs b o v e
    rw [upd_ne (nH _ _ this)]; exact this
  . obtain ⟨more, q⟩ := u.tbls b ps e
    exact ⟨more, by rw [upd_ne (nH _ _ q)]; exact q⟩
  . by_cases hb : b = D
    . subst hb
      rw [upd_same] at e
      cases e
      exact ⟨z, its, n, rv, d⟩
    . rw [upd_ne hb] at e
      exact (hok b o e).stay (fun _ _ _ q => q) (fun c q => by rw [upd_ne (nH _ _ q)]; exact q) fun c xs q => by rw [upd_ne (nH _ _ q)]; exact q
  . obtain ⟨q1, q2, q3, q4, q5, q6⟩ := f2 b hb
    exact ⟨q4, q2, q5, q6⟩
theorem Inv.dictGone {s' : Shared} {h' : Heap} {C : Addr} {H' : Hp} {σ' : St} (I : Inv X pins σ H s) (J : Inv X pins σ' H' s') (hC : s.heap.objs.size <= C) (hn : H' C = none) (k : Heap.SameBut C s'.heap h') : Inv X pins σ' H' { s' with heap := h' } := by
  have hC0 := Heap.get?_none_of_le hC
  refine J.turned (t' := s'.toks) (fun b o hb e => (k.2 b hb).trans e) hn (fun z => ?_) (.inr (Nat.le_trans I.sz hC)) (fun x c e z => ?_) fun p hp z => ?_
  . obtain ⟨m, ⟨o, _, _, ho, _⟩, _⟩ := I.loc
    rw [<- z, hC0] at ho; cases ho
  . obtain ⟨v, o, ho, _⟩ := I.cell x c e
    rw [z, hC0] at ho; cases ho
  . have := (I.pin p hp).1
    rw [z, hC0] at this; cases this
theorem pe_comp (hc : X.calm = true) (hi : PI X tg iter wi) (S : CompScope scope X.env.scope)
    (hlen : N'.length = own + ix.length) (hN : (N'.drop own).map some = ix.map (X.N[·]?)) (hfr : ∀ x ∈ N'.drop own, scope.names.lookup x = some .free)
    (hg : ∀ c, PG (X.comp scope N' c) tg g) (hgo : GOwn own g) (ht : ∀ c, PTs (X.comp scope N' c) ifs tc) (he : ∀ c, PE (X.comp scope N' c) elt te)
    (hs : ∀ x, foldedSetIterable iter X.env x = pure x := by intro _; rfl) : PE X (.ListComp elt [⟨tg, iter, ifs, 0⟩] scope pos) (tComp wi own ix g tc te) := by
  intro pins s σ H Q I h
  rw [eval_ListComp]
  have hfree : ∀ y ∈ scope.names, y.2 = .free -> ∃ c, X.env.cells.lookup y.1 = some c := fun y hy h => I.ok.has y.1 (S.fr y hy h)
  refine wpAny_comprehension_free (use := none) rfl hs (closureFor_eq hfree) S.kind (fun y hy hl => lookup_nd S.nd (by rw [<- hl]; exact hy)) ?_
  refine thn (hi pins s σ H _ I h) fun v s1 h1 => thn h1 fun itv s2 h2 => ?_
  obtain ⟨it, fp, tn, J, H2, e, I2, T, st2, f2, q2⟩ := h2
  subst e
  refine comp_block (RR := fun acc C => compPost (model X.prog X.w) X.A X.xe none (EP X pins σ Q) acc C) I2 T st2 f2 hc S hlen hN hfr hg hgo ht he q2 ?_
  intro D C s' H' ys its n ho hgn u hok hm hC hCs hD hDs hDC d rv z q
  obtain ⟨m, hm⟩ := hm
  have I3 := comp_adopt I2 f2 ho hgn u hok hD hDs d rv z
  refine ⟨m, hm, fun h' hs' => ?_⟩
  exact ⟨.ref D, _, I2.dictGone I3 hCs (by rw [upd_ne (Ne.symm hDC)]; exact hC) hs', rfl, q D hD⟩
theorem ps_comp {i : Nat} {y : Str} {py spos : Pos} (hc : X.calm = true) (hnd : X.N.Nodup) (hiy : X.N[i]? = some y) (hy : X.env.scope.names.lookup y = some .local) (hi : PI X tg iter wi) (S : CompScope scope X.env.scope)
    (hlen : N'.length = own + ix.length) (hN : (N'.drop own).map some = ix.map (X.N[·]?)) (hfr : ∀ x ∈ N'.drop own, scope.names.lookup x = some .free)
    (hg : ∀ c, PG (X.comp scope N' c) tg g) (hgo : GOwn own g) (ht : ∀ c, PTs (X.comp scope N' c) ifs tc) (he : ∀ c, PE (X.comp scope N' c) elt te)
    (hsw : swapsWith (.ListComp elt [⟨tg, iter, ifs, 0⟩] scope pos) (some (.Name y py)) spos.line X.env = pure true)
    (hs : ∀ x, foldedSetIterable iter X.env x = pure x := by intro _; rfl) : PS X (.Assign [.Name y py] (.ListComp elt [⟨tg, iter, ifs, 0⟩] scope pos) spos) (tAsg (tComp wi own ix g tc te) (gName i)) := by
  intro pins s σ H D I h
  rw [exec_Assign_Name_used _ _ _ _ hsw]
  refine wpAny_bind (wpAny_standAt (wpAny_bind ?_))
  show wpAny _ _ (do let _ <- comprehension (.ListComp elt [⟨tg, iter, ifs, 0⟩] scope pos) scope X.env _ (newList []) false (eval iter X.env) (some (assign (.Name y py) X.env))) _ _ s
  have hfree : ∀ y ∈ scope.names, y.2 = .free -> ∃ c, X.env.cells.lookup y.1 = some c := fun y hy h => I.ok.has y.1 (S.fr y hy h)
  refine wpAny_bind (wpAny_mono (wpAny_comprehension_free (use := some (assign (.Name y py) X.env)) (Q := fun _ s' => SP X pins D .next s') rfl hs (closureFor_eq hfree) S.kind (fun y hy hl => lookup_nd S.nd (by rw [<- hl]; exact hy)) ?_) (fun _ s' hq => wpAny_pure (wpAny_pure hq)) fun _ _ e => e)
  refine thn (hi pins s σ H _ I h) fun v s1 h1 => thn h1 fun itv s2 h2 => ?_
  obtain ⟨it, fp, tn, J, H2, e, I2, T, st2, f2, q2⟩ := h2
  subst e
  refine comp_block (RR := fun acc C => compPost (model X.prog X.w) X.A X.xe (some (assign (.Name y py) X.env)) (fun _ s' => SP X pins D .next s') acc C) I2 T st2 f2 hc S hlen hN hfr hg hgo ht he q2 ?_
  intro d C s' H' ys its n ho hgn u hok hm hC hCs hD hDs hDC hd rv z q
  obtain ⟨m, hm⟩ := hm
  have I3 := comp_adopt I2 f2 ho hgn u hok hD hDs hd rv z
  show wpAny _ _ (assign (.Name y py) X.env (.ref d)) _ _ s'
  have hCn : (upd H' d (.lst ys)) C = none := by rw [upd_ne (Ne.symm hDC)]; exact hC
  refine wpAny_assign_Name (store_ok2 I3 hnd hiy (.inl hy) (v := .ref d) rfl (fun s3 I4 ⟨a, sb, ha⟩ => ?_) (.inr hy))
  have ha' : a ≠ C := fun e => by
    have hC0 := Heap.get?_none_of_le hCs
    rcases ha with z | z
    . obtain ⟨m, ⟨o, _, _, ho, _⟩, _⟩ := I2.loc
      rw [<- z, e, hC0] at ho; cases ho
    . obtain ⟨v, o, ho, _⟩ := I2.cell y a z
      rw [e, hC0] at ho; cases ho
  refine ⟨m, hm.sameBut sb (Ne.symm ha'), fun h' hs' => ?_⟩
  exact ⟨_, _, I2.dictGone I4 hCs hCn hs', q d hD⟩
end
section
variable {X : Cx}
theorem PE.imp {e : Expr} {t t' : TE} (h : PE X e t) (f : ∀ σ H Q, t' σ H Q -> t σ H Q) : PE X e t' := fun pins s σ H Q I q => h pins s σ H Q I (f σ H Q q)
theorem OpR.imp {f : Value -> Value -> Sem Value} {r r' : R2} (h : OpR X f r) (g : ∀ x y H Q, r' x y H Q -> r x y H Q) : OpR X f r' := fun pins s σ H x y v u Q I rx ry q => h pins s σ H x y v u Q I rx ry (g _ _ _ _ q)
theorem CallR.imp {f : Value} {r r' : List V -> Hp -> VK -> Prop} (h : CallR X f r) (g : ∀ x H Q, r' x H Q -> r x H Q) : CallR X f r' := fun pins s σ H xs us Q I r q => h pins s σ H xs us Q I r (g _ _ _ q)
def vVar (i : Nat) : TE := fun σ H Q => match σ[i]? with
  | some (some v) => Q v H
  | _ => False
theorem vv (i : Nat) {x : Str} {pos : Pos} (hN : X.N[i]? = some x := by rfl) (hv : Vis X.env.scope x := by first | exact Or.inl rfl | exact Or.inr (Or.inl rfl) | exact Or.inr (Or.inr rfl)) (hd : (x == ("__debug__" : Str)) = false := by decide)
    (hcd : (x == ("__classdict__" : Str)) = false := by decide) : PE X (.Name x pos) (vVar i) := (pe_var hN hv hd hcd).imp fun σ H Q q => by
  unfold vVar at q
  split at q
  . rename_i v e; exact ⟨v, e, q⟩
  . exact q.elim
def okMul (i j : Int) : Prop := (i.natAbs < 2 ^ 4096 /\ j.natAbs < 2 ^ 4096) \/ (-(2 ^ 64) < i /\ i < 2 ^ 64) \/ (-(2 ^ 64) < j /\ j < 2 ^ 64)
theorem bits_of {i : Int} (h : i.natAbs < 2 ^ 4096) : Builtin.Int.intBits i <= 2 ^ 20 := by
  unfold Builtin.Int.intBits
  split
  . exact Nat.zero_le _
  . rename_i hz
    have hne : i.natAbs ≠ 0 := by
      have : ¬ i = 0 := by simpa using hz
      omega
    have := (Nat.log2_lt hne).mpr h
    have e : (2 : Nat) ^ 20 = 1048576 := by decide
    omega
theorem okMul.ok {i j : Int} (h : okMul i j) : IntMulOk i j := by
  rcases h with ⟨h1, h2⟩ | h | h
  . exact .of_bits (bits_of h1) (bits_of h2)
  . exact CMul.ok (.inl h)
  . exact CMul.ok (.inr h)
def okDiv (j : Int) : Prop := 0 < j /\ j < 2 ^ 4096
theorem okDiv.ok {i j : Int} (h : okDiv j) : Builtin.divisionGoesByPylong i j = false := by
  refine PyProof.noPylong_of_log2 ?_
  obtain ⟨h1, h2⟩ := h
  have hne : j.natAbs ≠ 0 := by omega
  have h3 : j.natAbs < 2 ^ 4096 := by
    have e : ((j.natAbs : Int)) = j := by omega
    have h2' : ((j.natAbs : Nat) : Int) < ((2 ^ 4096 : Nat) : Int) := by rw [e, Int.natCast_pow]; exact h2
    exact Int.ofNat_lt.mp h2'
  have := (Nat.log2_lt hne).mpr h3
  omega
def mAdd (K : PySem.W.Frag) : R2 := fun x y H Q => match x, y with
  | .int i, .int j => Q (.int (i + j)) H
  | .str a, .str b => a.length + b.length <= sizeLine /\ Q (.str (a ++ b)) H
  | .ref a, .ref b => rCat (.ref a) (.ref b) H Q \/ rCatT K (.ref a) (.ref b) H Q
  | _, _ => False
theorem om_add : OpR X (binaryOp .Add) (mAdd X.K) := by
  intro pins s σ H x y v u Q I rx ry q
  cases x <;> cases y <;> first
    | exact False.elim q
    | exact op_add pins s σ H _ _ v u Q I rx ry ⟨_, _, rfl, rfl, q⟩
    | exact op_add_str pins s σ H _ _ v u Q I rx ry ⟨_, _, rfl, rfl, q.1, q.2⟩
    | (rcases q with q | q
       . exact op_cat pins s σ H _ _ v u Q I rx ry q
       . exact op_catT pins s σ H _ _ v u Q I rx ry q)
def mSub : R2 := fun x y H Q => match x, y with
  | .int i, .int j => Q (.int (i - j)) H
  | _, _ => False
theorem om_sub : OpR X (binaryOp .Sub) mSub := by
  intro pins s σ H x y v u Q I rx ry q
  cases x <;> cases y <;> first
    | exact False.elim q
    | exact op_sub pins s σ H _ _ v u Q I rx ry ⟨_, _, rfl, rfl, q⟩
def mMul : R2 := fun x y H Q => match x, y with
  | .int i, .int j => okMul i j /\ Q (.int (i * j)) H
  | .ref a, .int k => rRep (.ref a) (.int k) H Q
  | _, _ => False
theorem om_mul : OpR X (binaryOp .Mult) mMul := by
  have hI : OpR X (binaryOp .Mult) (rI okMul fun i j => .int (i * j)) := opI fun _ _ _ _ _ _ _ hc q => mul_int q hc.ok
  intro pins s σ H x y v u Q I rx ry q
  cases x <;> cases y <;> first
    | exact False.elim q
    | exact hI pins s σ H _ _ v u Q I rx ry ⟨_, _, rfl, rfl, q.1, q.2⟩
    | exact op_rep pins s σ H _ _ v u Q I rx ry q
def mDiv : R2 := fun x y H Q => match x, y with
  | .int i, .int j => okDiv j /\ Q (.int (i / j)) H
  | _, _ => False
theorem om_div : OpR X (binaryOp .FloorDiv) mDiv := by
  have hI : OpR X (binaryOp .FloorDiv) (rI (fun _ j => okDiv j) fun i j => .int (i / j)) := opI fun i j _ _ _ _ _ hc q => by
    refine floordiv_int (by have := hc.1; omega) ?_ (.inl hc.ok)
    rw [Int.fdiv_eq_ediv_of_nonneg i (by have := hc.1; omega)]
    exact q
  intro pins s σ H x y v u Q I rx ry q
  cases x <;> cases y <;> first
    | exact False.elim q
    | exact hI pins s σ H _ _ v u Q I rx ry ⟨_, _, rfl, rfl, q.1, q.2⟩
def mMod : R2 := fun x y H Q => match x, y with
  | .int i, .int j => 0 < j /\ Q (.int (i % j)) H
  | _, _ => False
theorem om_mod : OpR X (binaryOp .Mod) mMod := by
  intro pins s σ H x y v u Q I rx ry q
  cases x <;> cases y <;> first
    | exact False.elim q
    | exact op_mod pins s σ H _ _ v u Q I rx ry ⟨_, _, rfl, rfl, q.1, q.2⟩
def mPow : R2 := fun x y H Q => match x, y with
  | .int i, .int j => CPow i j /\ Q (.int (i ^ j.toNat)) H
  | _, _ => False
theorem om_pow : OpR X (binaryOp .Pow) mPow := by
  intro pins s σ H x y v u Q I rx ry q
  cases x <;> cases y <;> first
    | exact False.elim q
    | exact op_pow pins s σ H _ _ v u Q I rx ry ⟨_, _, rfl, rfl, q.1, q.2⟩
def mBit (f : Int -> Int -> Int) : R2 := fun x y H Q => match x, y with
  | .int i, .int j => Q (.int (f i j)) H
  | _, _ => False
theorem om_and : OpR X (binaryOp .BitAnd) (mBit Builtin.bitAnd) := by
  intro pins s σ H x y v u Q I rx ry q
  cases x <;> cases y <;> first
    | exact False.elim q
    | exact op_and pins s σ H _ _ v u Q I rx ry ⟨_, _, rfl, rfl, q⟩
theorem om_xor : OpR X (binaryOp .BitXor) (mBit Builtin.bitXor) := by
  intro pins s σ H x y v u Q I rx ry q
  cases x <;> cases y <;> first
    | exact False.elim q
    | exact op_xor pins s σ H _ _ v u Q I rx ry ⟨_, _, rfl, rfl, q⟩
def mShr : R2 := fun x y H Q => match x, y with
  | .int i, .int j => 0 <= j /\ Q (.int (i / 2 ^ j.toNat)) H
  | _, _ => False
theorem om_shr : OpR X (binaryOp .RShift) mShr := by
  intro pins s σ H x y v u Q I rx ry q
  cases x <;> cases y <;> first
    | exact False.elim q
    | exact op_shr pins s σ H _ _ v u Q I rx ry ⟨_, _, rfl, rfl, q.1, q.2⟩
def mShl : R2 := fun x y H Q => match x, y with
  | .int i, .int j => CPow i j /\ Q (.int (i * 2 ^ j.toNat)) H
  | _, _ => False
theorem om_shl : OpR X (binaryOp .LShift) mShl := by
  intro pins s σ H x y v u Q I rx ry q
  cases x <;> cases y <;> first
    | exact False.elim q
    | exact op_shl pins s σ H _ _ v u Q I rx ry ⟨_, _, rfl, rfl, q.1, q.2⟩
def mNeg : V -> Hp -> VK -> Prop := fun x H Q => match x with
  | .int i => Q (.int (-i)) H
  | _ => False
theorem um_neg : UnR X (unaryOp .USub) mNeg := by
  intro pins s σ H x v Q I rx q
  cases x <;> first
    | exact False.elim q
    | exact un_neg pins s σ H _ v Q I rx ⟨_, rfl, q⟩
def mCmp (p : Int -> Int -> Bool) : R2 := fun x y H Q => match x, y with
  | .int i, .int j => Q (.bl (p i j)) H
  | _, _ => False
theorem om_lt : OpR X (compareOp .Lt) (mCmp fun i j => decide (i < j)) := by
  intro pins s σ H x y v u Q I rx ry q
  cases x <;> cases y <;> first
    | exact False.elim q
    | exact op_lt pins s σ H _ _ v u Q I rx ry ⟨_, _, rfl, rfl, q⟩
theorem om_le : OpR X (compareOp .LtE) (mCmp fun i j => decide (i <= j)) := by
  intro pins s σ H x y v u Q I rx ry q
  cases x <;> cases y <;> first
    | exact False.elim q
    | exact op_le pins s σ H _ _ v u Q I rx ry ⟨_, _, rfl, rfl, q⟩
theorem om_gt : OpR X (compareOp .Gt) (mCmp fun i j => decide (j < i)) := by
  intro pins s σ H x y v u Q I rx ry q
  cases x <;> cases y <;> first
    | exact False.elim q
    | exact op_gt pins s σ H _ _ v u Q I rx ry ⟨_, _, rfl, rfl, q⟩
theorem om_ge : OpR X (compareOp .GtE) (mCmp fun i j => decide (j <= i)) := by
  intro pins s σ H x y v u Q I rx ry q
  cases x <;> cases y <;> first
    | exact False.elim q
    | exact op_ge pins s σ H _ _ v u Q I rx ry ⟨_, _, rfl, rfl, q⟩
end
inductive Dv where
  | non | bl (b : Bool) | int (i : Int) | str (x : Str) | tup (ds : List Dv) | lst (ds : List Dv)
mutual
def Rep (K : PySem.W.Frag) (H : Hp) : Dv -> V -> Prop
  | .non, v => v = .non
  | .bl b, v => v = .bl b
  | .int i, v => v = .int i
  | .str x, v => v = .str x
  | .tup ds, v => ∃ a xs, v = .ref a /\ SqT K H a xs /\ Reps K H ds xs
  | .lst ds, v => ∃ a xs, v = .ref a /\ SqL K H a xs /\ Reps K H ds xs
def Reps (K : PySem.W.Frag) (H : Hp) : List Dv -> List V -> Prop
  | [], xs => xs = []
  | d :: ds, xs => ∃ x r, xs = x :: r /\ Rep K H d x /\ Reps K H ds r
end
mutual
def eqD : Dv -> Dv -> Bool
  | .non, .non => true
  | .bl a, .bl b => a == b
  | .bl a, .int b => (if a then 1 else 0) == b
  | .int a, .bl b => a == (if b then 1 else 0)
  | .int a, .int b => a == b
  | .str a, .str b => a == b
  | .tup ds, .tup es => eqDs ds es
  | .lst ds, .lst es => eqDs ds es
  | _, _ => false
def eqDs : List Dv -> List Dv -> Bool
  | [], [] => true
  | d :: ds, e :: es => eqD d e && eqDs ds es
  | _, _ => false
end
mutual
def depD : Dv -> Nat
  | .tup ds => depDs ds + 1
  | .lst ds => depDs ds + 1
  | _ => 0
def depDs : List Dv -> Nat
  | [] => 0
  | d :: ds => max (depD d) (depDs ds)
end
theorem eqD_tup (ds es : List Dv) : eqD (.tup ds) (.tup es) = eqDs ds es := by rw [eqD]
theorem eqD_lst (ds es : List Dv) : eqD (.lst ds) (.lst es) = eqDs ds es := by rw [eqD]
theorem Reps.length {K : PySem.W.Frag} {H : Hp} : ∀ {ds : List Dv} {xs : List V}, Reps K H ds xs -> ds.length = xs.length
  | [], xs, h => by unfold Reps at h; subst h; rfl
  | d :: ds, xs, h => by
    unfold Reps at h
    obtain ⟨x, r, rfl, _, h⟩ := h
    rw [List.length_cons, List.length_cons, Reps.length h]
theorem Reps.get {K : PySem.W.Frag} {H : Hp} : ∀ {ds : List Dv} {xs : List V} {i : Nat} {d : Dv}, Reps K H ds xs -> ds[i]? = some d -> ∃ x, xs[i]? = some x /\ Rep K H d x
  | [], _, _, _, _, e => by simp at e
  | d :: ds, xs, 0, _, h, e => by
    unfold Reps at h
    obtain ⟨x, r, rfl, h1, _⟩ := h
    simp at e; subst e
    exact ⟨x, rfl, h1⟩
  | d :: ds, xs, i + 1, _, h, e => by
    unfold Reps at h
    obtain ⟨x, r, rfl, _, h⟩ := h
    obtain ⟨y, h1, h2⟩ := Reps.get (i := i) h (by simpa using e)
    exact ⟨y, by simpa using h1, h2⟩
theorem depD_le {ds : List Dv} {i : Nat} {d : Dv} (h : ds[i]? = some d) : depD d <= depDs ds := by
  induction ds generalizing i with
  | nil => simp at h
  | cons e es ih =>
    unfold depDs
    cases i with
    | zero => simp at h; subst h; omega
    | succ i => have := ih (i := i) (by simpa using h); omega
theorem eqDs_all : ∀ (ds es : List Dv), ds.length = es.length -> eqDs ds es = (List.range ds.length).all fun i => match ds[i]?, es[i]? with | some d, some e => eqD d e | _, _ => false
  | [], [], _ => by unfold eqDs; rfl
  | d :: ds, e :: es, h => by
    unfold eqDs
    rw [List.length_cons, List.range_succ_eq_map, List.all_cons, List.all_map, eqDs_all ds es (by simpa using h)]
    congr 1
  | [], e :: es, h => by simp at h
  | d :: ds, [], h => by simp at h
theorem eqDs_len : ∀ (ds es : List Dv), ds.length ≠ es.length -> eqDs ds es = false
  | [], [], h => absurd rfl h
  | [], _ :: _, _ => by unfold eqDs; rfl
  | _ :: _, [], _ => by unfold eqDs; rfl
  | d :: ds, e :: es, h => by unfold eqDs; rw [eqDs_len ds es (fun z => h (by simp [z])), Bool.and_false]
mutual
theorem eqD_refl : ∀ d : Dv, eqD d d = true
  | .non => by unfold eqD; rfl
  | .bl b => by unfold eqD; simp
  | .int i => by unfold eqD; simp
  | .str x => by unfold eqD; simp
  | .tup ds => by unfold eqD; exact eqDs_refl ds
  | .lst ds => by unfold eqD; exact eqDs_refl ds
theorem eqDs_refl : ∀ ds : List Dv, eqDs ds ds = true
  | [] => by unfold eqDs; rfl
  | d :: ds => by unfold eqDs; rw [eqD_refl d, eqDs_refl ds]; rfl
end
section
variable {X : Cx} {pins : List (Addr × Obj)} {σ : St} {H : Hp} {s : Shared}
theorem no_both {a : Addr} {xs ys : List V} (I : Inv X pins σ H s) (h : SqL X.K H a xs) (h' : SqT X.K H a ys) : False := by
  obtain ⟨its, _, ⟨o, n, e, c, _⟩, _⟩ := I.list h
  obtain ⟨its', _, ⟨o', e', c', _⟩, _⟩ := I.tuple h'
  rw [e] at e'; cases e'
  rw [c] at c'
  exact absurd c' (by decide)
mutual
theorem rep_inj (I : Inv X pins σ H s) : ∀ (d e : Dv) (x : V), Rep X.K H d x -> Rep X.K H e x -> d = e
  | .non, e, x, h, h' => by
    unfold Rep at h; subst h
    cases e <;> unfold Rep at h' <;> first | rfl | (obtain ⟨a, xs, q, _⟩ := h'; cases q; done) | (cases h'; done)
  | .bl b, e, x, h, h' => by
    unfold Rep at h; subst h
    cases e <;> unfold Rep at h' <;> first | (obtain ⟨a, xs, q, _⟩ := h'; cases q; done) | (cases h'; rfl) | (cases h'; done)
  | .int b, e, x, h, h' => by
    unfold Rep at h; subst h
    cases e <;> unfold Rep at h' <;> first | (obtain ⟨a, xs, q, _⟩ := h'; cases q; done) | (cases h'; rfl) | (cases h'; done)
  | .str b, e, x, h, h' => by
    unfold Rep at h; subst h
    cases e <;> unfold Rep at h' <;> first | (obtain ⟨a, xs, q, _⟩ := h'; cases q; done) | (cases h'; rfl) | (cases h'; done)
  | .tup ds, e, x, h, h' => by
    unfold Rep at h
    obtain ⟨a, xs, rfl, hs, hr⟩ := h
    cases e with
    | tup es =>
      unfold Rep at h'
      obtain ⟨b, ys, q, hs', hr'⟩ := h'
      cases q
      rw [I.tuple_inj hs' hs] at hr'
      rw [reps_inj I ds es xs hr hr']
    | lst es =>
      unfold Rep at h'
      obtain ⟨b, ys, q, hs', hr'⟩ := h'
      cases q
      exact (no_both I hs' hs).elim
    | _ => unfold Rep at h'; cases h'
  | .lst ds, e, x, h, h' => by
    unfold Rep at h
    obtain ⟨a, xs, rfl, hs, hr⟩ := h
    cases e with
    | lst es =>
      unfold Rep at h'
      obtain ⟨b, ys, q, hs', hr'⟩ := h'
      cases q
      rw [I.list_inj hs' hs] at hr'
      rw [reps_inj I ds es xs hr hr']
    | tup es =>
      unfold Rep at h'
      obtain ⟨b, ys, q, hs', hr'⟩ := h'
      cases q
      exact (no_both I hs hs').elim
    | _ => unfold Rep at h'; cases h'
theorem reps_inj (I : Inv X pins σ H s) : ∀ (ds es : List Dv) (xs : List V), Reps X.K H ds xs -> Reps X.K H es xs -> ds = es
  | [], es, xs, h, h' => by
    unfold Reps at h; subst h
    cases es with
    | nil => rfl
    | cons e es => unfold Reps at h'; obtain ⟨x, r, q, _⟩ := h'; cases q
  | d :: ds, es, xs, h, h' => by
    unfold Reps at h
    obtain ⟨x, r, rfl, h1, h2⟩ := h
    cases es with
    | nil => unfold Reps at h'; cases h'
    | cons e es =>
      unfold Reps at h'
      obtain ⟨y, r', q, h3, h4⟩ := h'
      cases q
      rw [rep_inj I d e _ h1 h3, reps_inj I ds es _ h2 h4]
end
abbrev Eq3 (A : Around) (s : Shared) (u v : Value) (b : Bool) : Prop := SeqAt.EqAt A s u v b /\ SeqAt.RcAt A s u v b /\ SeqAt.RcNeAt A s u v (!b)
theorem eq3_tup {A : Around} {a b : Addr} {xs ys : List V} {ds es : List Dv} (I : Inv X pins σ H s) (hu : A.units < cLine) (ha : SqT X.K H a xs) (hb : SqT X.K H b ys) (hd : Reps X.K H ds xs) (he : Reps X.K H es ys)
    (ih : ∀ (i : Nat) (d e : Dv) (x y : V) (u v : Value), ds[i]? = some d -> es[i]? = some e -> xs[i]? = some x -> ys[i]? = some y -> RelV x u -> RelV y v -> SeqAt.EqAt A.in1 s u v (eqD d e)) : Eq3 A s (.ref a) (.ref b) (eqD (.tup ds) (.tup es)) := by
  obtain ⟨its, r1, p1, _⟩ := I.tuple ha
  obtain ⟨its2, r2, p2, _⟩ := I.tuple hb
  have l1 := hd.length; have l2 := he.length; have l3 := r1.length; have l4 := r2.length
  have hitem : ∀ j (h1 : j < its.toArray.size) (h2 : j < its2.toArray.size), SeqAt.EqAt A.in1 s its.toArray[j] its2.toArray[j] (match ds[j]?, es[j]? with | some d, some e => eqD d e | _, _ => false) := fun j h1 h2 => by
    rw [List.size_toArray] at h1 h2
    have e1 : ds[j]? = some ds[j] := List.getElem?_eq_getElem (by omega)
    have e2 : es[j]? = some es[j] := List.getElem?_eq_getElem (by omega)
    have e3 : xs[j]? = some xs[j] := List.getElem?_eq_getElem (by omega)
    have e4 : ys[j]? = some ys[j] := List.getElem?_eq_getElem (by omega)
    obtain ⟨u, q1, q2⟩ := r1.get e3
    obtain ⟨v, q3, q4⟩ := r2.get e4
    rw [e1, e2]
    have z1 : its.toArray[j] = u := by rw [List.getElem_toArray]; rw [List.getElem?_eq_getElem h1] at q1; exact Option.some.inj q1
    have z2 : its2.toArray[j] = v := by rw [List.getElem_toArray]; rw [List.getElem?_eq_getElem h2] at q3; exact Option.some.inj q3
    rw [z1, z2]
    exact ih j _ _ _ _ _ _ e1 e2 e3 e4 q2 q4
  have val : ((List.range (min its.toArray.size its2.toArray.size)).all (fun j => match ds[j]?, es[j]? with | some d, some e => eqD d e | _, _ => false) && its.toArray.size == its2.toArray.size) = eqD (.tup ds) (.tup es) := by
    rw [List.size_toArray, List.size_toArray, <- l3, <- l4, <- l1, <- l2, eqD_tup]
    by_cases h : ds.length = es.length
    . rw [h, Nat.min_self, <- h, eqDs_all ds es h]
      simp
    . rw [eqDs_len ds es h]
      have : (ds.length == es.length) = false := by simpa using h
      rw [this, Bool.and_false]
  have R := SeqAt.RcAt.tuples (A := A) p1 p2 hu hitem
  have N := SeqAt.RcNeAt.tuples (A := A) p1 p2 hu hitem
  rw [val] at R N
  refine ⟨?_, R, N⟩
  by_cases hab : a = b
  . subst hab
    have e : ds = es := by
      have := rep_inj I (.tup ds) (.tup es) (.ref a) (by unfold Rep; exact ⟨a, xs, rfl, ha, hd⟩) (by unfold Rep; exact ⟨a, ys, rfl, hb, he⟩)
      cases this; rfl
    subst e
    rw [eqD_refl]
    exact SeqAt.EqAt.same _
  . exact .of_refs hab R
theorem eq3_lst {A : Around} {a b : Addr} {xs ys : List V} {ds es : List Dv} (I : Inv X pins σ H s) (hu : A.units < cLine) (ha : SqL X.K H a xs) (hb : SqL X.K H b ys) (hd : Reps X.K H ds xs) (he : Reps X.K H es ys)
    (ih : ∀ (i : Nat) (d e : Dv) (x y : V) (u v : Value), ds[i]? = some d -> es[i]? = some e -> xs[i]? = some x -> ys[i]? = some y -> RelV x u -> RelV y v -> SeqAt.EqAt A.in1 s u v (eqD d e)) : Eq3 A s (.ref a) (.ref b) (eqD (.lst ds) (.lst es)) := by
  obtain ⟨its, r1, p1, _⟩ := I.list ha
  obtain ⟨its2, r2, p2, _⟩ := I.list hb
  have l1 := hd.length; have l2 := he.length; have l3 := r1.length; have l4 := r2.length
  have hitem : ∀ j (h1 : j < its.toArray.size) (h2 : j < its2.toArray.size), SeqAt.EqAt A.in1 s its.toArray[j] its2.toArray[j] (match ds[j]?, es[j]? with | some d, some e => eqD d e | _, _ => false) := fun j h1 h2 => by
    rw [List.size_toArray] at h1 h2
    have e1 : ds[j]? = some ds[j] := List.getElem?_eq_getElem (by omega)
    have e2 : es[j]? = some es[j] := List.getElem?_eq_getElem (by omega)
    have e3 : xs[j]? = some xs[j] := List.getElem?_eq_getElem (by omega)
    have e4 : ys[j]? = some ys[j] := List.getElem?_eq_getElem (by omega)
    obtain ⟨u, q1, q2⟩ := r1.get e3
    obtain ⟨v, q3, q4⟩ := r2.get e4
    rw [e1, e2]
    have z1 : its.toArray[j] = u := by rw [List.getElem_toArray]; rw [List.getElem?_eq_getElem h1] at q1; exact Option.some.inj q1
    have z2 : its2.toArray[j] = v := by rw [List.getElem_toArray]; rw [List.getElem?_eq_getElem h2] at q3; exact Option.some.inj q3
    rw [z1, z2]
    exact ih j _ _ _ _ _ _ e1 e2 e3 e4 q2 q4
  have RN : SeqAt.RcAt A s (.ref a) (.ref b) (eqD (.lst ds) (.lst es)) /\ SeqAt.RcNeAt A s (.ref a) (.ref b) (!eqD (.lst ds) (.lst es)) := by
    by_cases h : ds.length = es.length
    . have hsz : its.toArray.size = its2.toArray.size := by rw [List.size_toArray, List.size_toArray]; omega
      have val : (List.range its.toArray.size).all (fun j => match ds[j]?, es[j]? with | some d, some e => eqD d e | _, _ => false) = eqD (.lst ds) (.lst es) := by
        rw [eqD_lst, List.size_toArray, <- l3, <- l1, eqDs_all ds es h]
      have R := SeqAt.RcAt.lists (A := A) p1.isList p2.isList hsz hu hitem
      have N := SeqAt.RcNeAt.lists (A := A) p1.isList p2.isList hsz hu hitem
      rw [val] at R N
      exact ⟨R, N⟩
    . have hsz : (its.toArray.size != its2.toArray.size) = true := by rw [List.size_toArray, List.size_toArray]; simp; omega
      have val : eqD (.lst ds) (.lst es) = false := by rw [eqD_lst]; exact eqDs_len ds es h
      rw [val]
      exact ⟨SeqAt.RcAt.lists_lengths p1.isList p2.isList hsz hu, SeqAt.RcNeAt.lists_lengths p1.isList p2.isList hsz hu⟩
  refine ⟨?_, RN.1, RN.2⟩
  by_cases hab : a = b
  . subst hab
    have e : ds = es := by
      have := rep_inj I (.lst ds) (.lst es) (.ref a) (by unfold Rep; exact ⟨a, xs, rfl, ha, hd⟩) (by unfold Rep; exact ⟨a, ys, rfl, hb, he⟩)
      cases this; rfl
    subst e
    rw [eqD_refl]
    exact SeqAt.EqAt.same _
  . exact .of_refs hab RN.1
theorem eq_all (I : Inv X pins σ H s) : ∀ (n : Nat) (A : Around) (d e : Dv) (x y : V) (u v : Value), depD d <= n -> A.units + n < cLine -> Rep X.K H d x -> Rep X.K H e y -> RelV x u -> RelV y v -> Eq3 A s u v (eqD d e) := by
  intro n
  induction n with
  | zero =>
    intro A d e x y u v hd hu hx hy ru rv
    have hu' : A.units < cLine := by omega
    cases d with
    | tup ds => unfold depD at hd; omega
    | lst ds => unfold depD at hd; omega
    | non =>
      unfold Rep at hx; subst hx; cases ru
      cases e <;> unfold Rep at hy
      case non => subst hy; cases rv; exact ⟨SeqAt.EqAt.same _, SeqAt.RcAt.none_none, SeqAt.RcNeAt.none_none⟩
      case bl => subst hy; cases rv; exact ⟨.none_bool _, .none_bool _, .none_bool _⟩
      case int => subst hy; obtain ⟨t, rfl⟩ := rv; exact ⟨.none_int _ _, .none_int _ _, .none_int _ _⟩
      case str => subst hy; obtain ⟨t, rfl⟩ := rv; exact ⟨.none_str _ _, .none_str _ _, .none_str _ _⟩
      case tup => obtain ⟨a, xs, rfl, ha, _⟩ := hy; cases rv; obtain ⟨its, _, p, _⟩ := I.tuple ha; exact ⟨.none_tuple p hu', .none_tuple p hu', .none_tuple p hu'⟩
      case lst => obtain ⟨a, xs, rfl, ha, _⟩ := hy; cases rv; obtain ⟨its, _, p, _⟩ := I.list ha; exact ⟨.none_list p.isList hu', .none_list p.isList hu', .none_list p.isList hu'⟩
    | bl c =>
      unfold Rep at hx; subst hx; cases ru
      cases e <;> unfold Rep at hy
      case non => subst hy; cases rv; exact ⟨.bool_none _, .bool_none _, .bool_none _⟩
      case bl => subst hy; cases rv; unfold eqD; exact ⟨.bool_bool _ _, .bool_bool _ _, .bool_bool _ _⟩
      case int => subst hy; obtain ⟨t, rfl⟩ := rv; unfold eqD; exact ⟨.bool_int _ _ _, .bool_int _ _ _, .bool_int _ _ _⟩
      case str => subst hy; obtain ⟨t, rfl⟩ := rv; exact ⟨.bool_str _ _ _, .bool_str _ _ _, .bool_str _ _ _⟩
      case tup => obtain ⟨a, xs, rfl, ha, _⟩ := hy; cases rv; obtain ⟨its, _, p, _⟩ := I.tuple ha; exact ⟨.bool_tuple _ p hu', .bool_tuple _ p hu', .bool_tuple _ p hu'⟩
      case lst => obtain ⟨a, xs, rfl, ha, _⟩ := hy; cases rv; obtain ⟨its, _, p, _⟩ := I.list ha; exact ⟨.bool_list _ p.isList hu', .bool_list _ p.isList hu', .bool_list _ p.isList hu'⟩
    | int c =>
      unfold Rep at hx; subst hx; obtain ⟨t0, rfl⟩ := ru
      cases e <;> unfold Rep at hy
      case non => subst hy; cases rv; exact ⟨.int_none _ _, .int_none _ _, .int_none _ _⟩
      case bl => subst hy; cases rv; unfold eqD; exact ⟨.int_bool _ _ _, .int_bool _ _ _, .int_bool _ _ _⟩
      case int => subst hy; obtain ⟨t, rfl⟩ := rv; unfold eqD; exact ⟨.int_int _ _ _ _, .int_int _ _ _ _, .int_int _ _ _ _⟩
      case str => subst hy; obtain ⟨t, rfl⟩ := rv; exact ⟨.int_str _ _ _ _, .int_str _ _ _ _, .int_str _ _ _ _⟩
      case tup => obtain ⟨a, xs, rfl, ha, _⟩ := hy; cases rv; obtain ⟨its, _, p, _⟩ := I.tuple ha; exact ⟨.int_tuple _ _ p hu', .int_tuple _ _ p hu', .int_tuple _ _ p hu'⟩
      case lst => obtain ⟨a, xs, rfl, ha, _⟩ := hy; cases rv; obtain ⟨its, _, p, _⟩ := I.list ha; exact ⟨.int_list _ _ p.isList hu', .int_list _ _ p.isList hu', .int_list _ _ p.isList hu'⟩
    | str c =>
      unfold Rep at hx; subst hx; obtain ⟨t0, rfl⟩ := ru
      cases e <;> unfold Rep at hy
      case non => subst hy; cases rv; exact ⟨.str_none _ _, .str_none _ _, .str_none _ _⟩
      case bl => subst hy; cases rv; exact ⟨.str_bool _ _ _, .str_bool _ _ _, .str_bool _ _ _⟩
      case int => subst hy; obtain ⟨t, rfl⟩ := rv; exact ⟨.str_int _ _ _ _, .str_int _ _ _ _, .str_int _ _ _ _⟩
      case str => subst hy; obtain ⟨t, rfl⟩ := rv; unfold eqD; exact ⟨.str_str _ _ _ _, .str_str _ _ _ _, .str_str _ _ _ _⟩
      case tup => obtain ⟨a, xs, rfl, ha, _⟩ := hy; cases rv; obtain ⟨its, _, p, _⟩ := I.tuple ha; exact ⟨.str_tuple _ _ p hu', .str_tuple _ _ p hu', .str_tuple _ _ p hu'⟩
      case lst => obtain ⟨a, xs, rfl, ha, _⟩ := hy; cases rv; obtain ⟨its, _, p, _⟩ := I.list ha; exact ⟨.str_list _ _ p.isList hu', .str_list _ _ p.isList hu', .str_list _ _ p.isList hu'⟩
  | succ n ih =>
    intro A d e x y u v hd hu hx hy ru rv
    have hu' : A.units < cLine := by omega
    have hin : A.in1.units + n < cLine := by show A.units + 1 + n < cLine; omega
    cases d with
    | tup ds =>
      unfold depD at hd
      unfold Rep at hx
      obtain ⟨a, xs, rfl, ha, hr⟩ := hx
      cases ru
      cases e <;> unfold Rep at hy
      case tup es =>
        obtain ⟨b, ys, rfl, hb, hr'⟩ := hy
        cases rv
        refine eq3_tup I hu' ha hb hr hr' fun i d e x y u v e1 e2 e3 e4 ru rv => ?_
        obtain ⟨x', q1, q2⟩ := hr.get e1
        obtain ⟨y', q3, q4⟩ := hr'.get e2
        rw [e3] at q1; cases q1
        rw [e4] at q3; cases q3
        exact (ih A.in1 d e x y u v (by have := depD_le e1; omega) hin q2 q4 ru rv).1
      case non => subst hy; cases rv; obtain ⟨its, _, p, _⟩ := I.tuple ha; exact ⟨.tuple_none p hu', .tuple_none p hu', .tuple_none p hu'⟩
      case bl => subst hy; cases rv; obtain ⟨its, _, p, _⟩ := I.tuple ha; exact ⟨.tuple_bool _ p hu', .tuple_bool _ p hu', .tuple_bool _ p hu'⟩
      case int => subst hy; obtain ⟨t, rfl⟩ := rv; obtain ⟨its, _, p, _⟩ := I.tuple ha; exact ⟨.tuple_int _ _ p hu', .tuple_int _ _ p hu', .tuple_int _ _ p hu'⟩
      case str => subst hy; obtain ⟨t, rfl⟩ := rv; obtain ⟨its, _, p, _⟩ := I.tuple ha; exact ⟨.tuple_str _ _ p hu', .tuple_str _ _ p hu', .tuple_str _ _ p hu'⟩
      case lst => obtain ⟨b, ys, rfl, hb, _⟩ := hy; cases rv; obtain ⟨its, _, p, _⟩ := I.tuple ha; obtain ⟨its2, _, p2, _⟩ := I.list hb; exact ⟨.tuple_list p p2.isList hu', .tuple_list p p2.isList hu', .tuple_list p p2.isList hu'⟩
    | lst ds =>
      unfold depD at hd
      unfold Rep at hx
      obtain ⟨a, xs, rfl, ha, hr⟩ := hx
      cases ru
      cases e <;> unfold Rep at hy
      case lst es =>
        obtain ⟨b, ys, rfl, hb, hr'⟩ := hy
        cases rv
        refine eq3_lst I hu' ha hb hr hr' fun i d e x y u v e1 e2 e3 e4 ru rv => ?_
        obtain ⟨x', q1, q2⟩ := hr.get e1
        obtain ⟨y', q3, q4⟩ := hr'.get e2
        rw [e3] at q1; cases q1
        rw [e4] at q3; cases q3
        exact (ih A.in1 d e x y u v (by have := depD_le e1; omega) hin q2 q4 ru rv).1
      case non => subst hy; cases rv; obtain ⟨its, _, p, _⟩ := I.list ha; exact ⟨.list_none p.isList hu', .list_none p.isList hu', .list_none p.isList hu'⟩
      case bl => subst hy; cases rv; obtain ⟨its, _, p, _⟩ := I.list ha; exact ⟨.list_bool _ p.isList hu', .list_bool _ p.isList hu', .list_bool _ p.isList hu'⟩
      case int => subst hy; obtain ⟨t, rfl⟩ := rv; obtain ⟨its, _, p, _⟩ := I.list ha; exact ⟨.list_int _ _ p.isList hu', .list_int _ _ p.isList hu', .list_int _ _ p.isList hu'⟩
      case str => subst hy; obtain ⟨t, rfl⟩ := rv; obtain ⟨its, _, p, _⟩ := I.list ha; exact ⟨.list_str _ _ p.isList hu', .list_str _ _ p.isList hu', .list_str _ _ p.isList hu'⟩
      case tup => obtain ⟨b, ys, rfl, hb, _⟩ := hy; cases rv; obtain ⟨its, _, p, _⟩ := I.list ha; obtain ⟨its2, _, p2, _⟩ := I.tuple hb; exact ⟨.list_tuple p.isList p2 hu', .list_tuple p.isList p2 hu', .list_tuple p.isList p2 hu'⟩
    | non => exact ih A .non e x y u v (by unfold depD; omega) (by omega) hx hy ru rv
    | bl c => exact ih A (.bl c) e x y u v (by unfold depD; omega) (by omega) hx hy ru rv
    | int c => exact ih A (.int c) e x y u v (by unfold depD; omega) (by omega) hx hy ru rv
    | str c => exact ih A (.str c) e x y u v (by unfold depD; omega) (by omega) hx hy ru rv
end
section
variable {X : Cx}
def mEq (neg : Bool) (K : PySem.W.Frag) : R2 := fun x y H Q => match x, y with
  | .non, .non => Q (.bl (neg ^^ true)) H
  | .bl a, .bl b => Q (.bl (neg ^^ (a == b))) H
  | .int a, .int b => Q (.bl (neg ^^ (a == b))) H
  | .str a, .str b => Q (.bl (neg ^^ (a == b))) H
  | x, y => ∃ d e, Rep K H d x /\ Rep K H e y /\ depD d <= 60 /\ Q (.bl (neg ^^ eqD d e)) H
theorem om_eqAll (hu : X.A.units + 60 < cLine) : OpR X (compareOp .Eq) (fun x y H Q => ∃ d e, Rep X.K H d x /\ Rep X.K H e y /\ depD d <= 60 /\ Q (.bl (eqD d e)) H) := by
  intro pins s σ H x y v u Q I rx ry h
  obtain ⟨d, e, h1, h2, h3, q⟩ := h
  exact (eq_all I 60 X.A d e x y v u h3 hu h1 h2 rx ry).2.1 X.prog X.w _ _ ⟨.bl _, H, I, rfl, q⟩
theorem om_neAll (hu : X.A.units + 60 < cLine) : OpR X (compareOp .NotEq) (fun x y H Q => ∃ d e, Rep X.K H d x /\ Rep X.K H e y /\ depD d <= 60 /\ Q (.bl (!eqD d e)) H) := by
  intro pins s σ H x y v u Q I rx ry h
  obtain ⟨d, e, h1, h2, h3, q⟩ := h
  exact (eq_all I 60 X.A d e x y v u h3 hu h1 h2 rx ry).2.2 X.prog X.w _ _ ⟨.bl _, H, I, rfl, q⟩
theorem mEq_imp {neg : Bool} {K : PySem.W.Frag} {x y : V} {H : Hp} {Q : VK} (h : mEq neg K x y H Q) : ∃ d e, Rep K H d x /\ Rep K H e y /\ depD d <= 60 /\ Q (.bl (neg ^^ eqD d e)) H := by
  unfold mEq at h
  split at h
  . exact ⟨.non, .non, by unfold Rep; rfl, by unfold Rep; rfl, by unfold depD; omega, by unfold eqD; exact h⟩
  . rename_i a b; exact ⟨.bl a, .bl b, by unfold Rep; rfl, by unfold Rep; rfl, by unfold depD; omega, by unfold eqD; exact h⟩
  . rename_i a b; exact ⟨.int a, .int b, by unfold Rep; rfl, by unfold Rep; rfl, by unfold depD; omega, by unfold eqD; exact h⟩
  . rename_i a b; exact ⟨.str a, .str b, by unfold Rep; rfl, by unfold Rep; rfl, by unfold depD; omega, by unfold eqD; exact h⟩
  . exact h
theorem om_eq (hu : X.A.units + 60 < cLine) : OpR X (compareOp .Eq) (mEq false X.K) := (om_eqAll hu).imp fun x y H Q h => by
  obtain ⟨d, e, h1, h2, h3, q⟩ := mEq_imp h
  exact ⟨d, e, h1, h2, h3, by rw [Bool.false_xor] at q; exact q⟩
theorem om_ne (hu : X.A.units + 60 < cLine) : OpR X (compareOp .NotEq) (mEq true X.K) := (om_neAll hu).imp fun x y H Q h => by
  obtain ⟨d, e, h1, h2, h3, q⟩ := mEq_imp h
  exact ⟨d, e, h1, h2, h3, by rw [Bool.true_xor] at q; exact q⟩
end
section
variable {X : Cx} {a b c e : Expr} {es : List Expr} {ta tb tc te : TE} {tA tB' : TT} {t : TA} {pos p : Pos} {x : Str}
def isB (v : V) (Q : Bool -> Prop) : Prop := match v with
  | .bl c => Q c
  | _ => False
theorem isB_of {v : V} {Q : Bool -> Prop} (h : isB v Q) : ∃ c, v = .bl c /\ Q c := by
  cases v <;> first | exact False.elim h | exact ⟨_, rfl, h⟩
def EMono (t : TE) : Prop := ∀ σ H (Q Q' : VK), (∀ v H, Q v H -> Q' v H) -> t σ H Q -> t σ H Q'
def uB (t : TE) : TT := fun σ H Q => t σ H fun x H1 => isB x fun c => Q c H1
theorem tu_cmp {op : CmpOp} {r : R2} (ho : OpR X (compareOp op) r) (ha : PE X a ta) (hb : PE X b tb) (hm : behindInMarks op b = false := by first | exact nobehind _ (by decide) (by decide) | rfl) : PT X (.Compare a [op] [b] pos) (uB (tOp r ta tb)) := by
  intro pins s σ H Q I h
  refine wpAny_isTrue_Compare1 (thn (ha pins s σ H _ I h) fun v s1 ⟨x, H1, I1, r1, q1⟩ => thn (hb pins s1 σ H1 _ I1 q1) fun u s2 ⟨y, H2, I2, r2, q2⟩ =>
    thn (ho pins s2 σ H2 x y v u _ I2 r1 r2 q2) fun c s3 ⟨z, H3, I3, r3, q⟩ => ?_) hm
  obtain ⟨k, e, q3⟩ := isB_of q
  subst e
  cases r3
  exact wpAny_truthy_bool ⟨H3, I3, q3⟩
theorem pe_cmpM {op : CmpOp} {r : R2} (ho : OpR X (compareOp op) r) (ha : PE X a ta) (hb : PE X b tb) (hm : behindInMarks op b = false := by first | exact nobehind _ (by decide) (by decide) | rfl) : PE X (.Compare a [op] [b] pos) (tOp r ta tb) := pe_cmpR ho ha hb hm
theorem tu_val (h : PE X e te) (he : ∀ whole, isTrue e X.env whole = (do let v <- whole; standAt e.pos; holding [v] (truthy v)) := by intro _; rfl) : PT X e (uB te) := by
  intro pins s σ H Q I hq
  refine isTrue_plain (thn (h pins s σ H _ I hq) fun v s1 ⟨x, H1, I1, r1, q1⟩ => ?_) (he _)
  obtain ⟨k, e, q⟩ := isB_of q1
  subst e
  cases r1
  exact wpAny_truthy_bool ⟨H1, I1, q⟩
def vAnd (ta tb : TE) : TE := fun σ H Q => ta σ H fun x H1 => isB x fun c => if c = true then tb σ H1 Q else Q (.bl false) H1
def vNot (ta : TE) : TE := fun σ H Q => ta σ H fun x H1 => isB x fun c => Q (.bl (!c)) H1
theorem pe_andM (ha : PE X a ta) (hb : PE X (.BoolOp .And (b :: es) pos) tb) : PE X (.BoolOp .And (a :: b :: es) pos) (vAnd ta tb) := by
  have ha' : PE X a (fun σ H Q => ta σ H fun x H1 => isB x fun c => Q (.bl c) H1) := fun pins s σ H Q I h => thn (ha pins s σ H _ I h) fun v s1 ⟨x, H1, I1, r1, q1⟩ => by
    obtain ⟨c, e, q⟩ := isB_of q1
    subst e
    exact ⟨.bl c, H1, I1, r1, q⟩
  have h := pe_and (pos := pos) ha' hb
  exact h.imp fun σ H Q q => by
    show ta σ H fun x H1 => isB x fun c => ∃ c', V.bl c = .bl c' /\ if c' = true then tb σ H1 Q else Q (.bl false) H1
    have e : (fun (x : V) (H1 : Hp) => isB x fun c => ∃ c', V.bl c = .bl c' /\ if c' = true then tb σ H1 Q else Q (.bl false) H1) = fun x H1 => isB x fun c => if c = true then tb σ H1 Q else Q (.bl false) H1 := by
      funext x H1
      cases x <;> first | rfl | (apply propext; constructor; (rintro ⟨c', e, h⟩; cases e; exact h); (intro h; exact ⟨_, rfl, h⟩))
    rw [e]
    exact q
theorem pe_notM (ha : PE X a ta) : PE X (.UnaryOp .Not a pos) (vNot ta) := by
  have ha' : PE X a (fun σ H Q => ta σ H fun x H1 => isB x fun c => Q (.bl c) H1) := fun pins s σ H Q I h => thn (ha pins s σ H _ I h) fun v s1 ⟨x, H1, I1, r1, q1⟩ => by
    obtain ⟨c, e, q⟩ := isB_of q1
    subst e
    exact ⟨.bl c, H1, I1, r1, q⟩
  have h := pe_not (pos := pos) ha'
  exact h.imp fun σ H Q q => by
    show ta σ H fun x H1 => isB x fun c => ∃ c', V.bl c = .bl c' /\ Q (.bl (!c')) H1
    have e : (fun (x : V) (H1 : Hp) => isB x fun c => ∃ c', V.bl c = .bl c' /\ Q (.bl (!c')) H1) = fun x H1 => isB x fun c => Q (.bl (!c)) H1 := by
      funext x H1
      cases x <;> first | rfl | (apply propext; constructor; (rintro ⟨c', e, h⟩; cases e; exact h); (intro h; exact ⟨_, rfl, h⟩))
    rw [e]
    exact q
def SqA (K : PySem.W.Frag) (H : Hp) (p : Addr) (xs : List V) : Prop := SqL K H p xs \/ SqT K H p xs
def mIx (K : PySem.W.Frag) : R2 := fun x y H Q => match x, y with
  | .ref p, .int i => ∃ xs v, SqA K H p xs /\ atI xs i = some v /\ Q v H
  | .str z, .int i => ∃ c, z.length <= sizeLine /\ atI z.cps.toList i = some c /\ Q (.str ⟨#[c]⟩) H
  | _, _ => False
theorem IxR.imp {r r' : R2} (h : IxR X r) (g : ∀ x y H Q, r' x y H Q -> r x y H Q) : IxR X r' := fun a b pins s σ H x y v u Q I rx ry q z => h a b pins s σ H x y v u Q I rx ry (g _ _ _ _ q) z
theorem xm_ix : IxR X (mIx X.K) := ix_seq.imp fun x y H Q q => by
  cases x <;> cases y <;> first
    | exact False.elim q
    | (obtain ⟨xs, v, h | h, e, q⟩ := q
       . exact .inl ⟨_, xs, _, v, rfl, rfl, h, e, q⟩
       . exact .inr (.inl ⟨_, xs, _, v, rfl, rfl, h, e, q⟩))
    | (obtain ⟨c, hz, e, q⟩ := q
       exact .inr (.inr ⟨_, _, c, rfl, rfl, hz, e, q⟩))
theorem pe_ixM (ha : PE X a ta) (hb : PE X b tb) (hs : PlainIx b := by intro _ _; rfl) : PE X (.Subscript a b pos) (tOp (mIx X.K) ta tb) := pe_ix xm_ix ha hb hs
def mLen (K : PySem.W.Frag) : List V -> Hp -> VK -> Prop := fun xs H Q => match xs with
  | [x] => ∃ n, LenV K x H n /\ Q (.int n) H
  | _ => False
theorem cm_len : CallR X (.builtin "len") (mLen X.K) := call_len.imp fun xs H Q q => by
  match xs, q with
  | [x], ⟨n, h, q⟩ => exact ⟨x, n, rfl, h, q⟩
def mAbs : List V -> Hp -> VK -> Prop := fun xs H Q => match xs with
  | [.int i] => Q (.int (i.natAbs : Int)) H
  | _ => False
theorem cm_abs : CallR X (.builtin "abs") mAbs := call_abs.imp fun xs H Q q => by
  match xs, q with
  | [.int i], q =>
    refine ⟨i, rfl, ?_⟩
    have e : (if i < 0 then -i else i) = (i.natAbs : Int) := by split <;> omega
    rw [e]
    exact q
def mMax : List V -> Hp -> VK -> Prop := fun xs H Q => match xs with
  | [.int i, .int j] => Q (.int (max i j)) H
  | _ => False
theorem cm_max (hc : X.calm = true) : CallR X (.builtin "max") mMax := (call_max2 hc).imp fun xs H Q q => by
  match xs, q with
  | [.int i, .int j], q =>
    refine ⟨i, j, rfl, ?_⟩
    have e : (if j > i then j else i) = max i j := by split <;> omega
    rw [e]
    exact q
def mMin : List V -> Hp -> VK -> Prop := fun xs H Q => match xs with
  | [.int i, .int j] => Q (.int (min i j)) H
  | _ => False
theorem cm_min (hc : X.calm = true) : CallR X (.builtin "min") mMin := (call_min2 hc).imp fun xs H Q q => by
  match xs, q with
  | [.int i, .int j], q =>
    refine ⟨i, j, rfl, ?_⟩
    have e : (if j < i then j else i) = min i j := by split <;> omega
    rw [e]
    exact q
def mInt : List V -> Hp -> VK -> Prop := fun xs H Q => match xs with
  | [.int i] => Q (.int i) H
  | [.bl k] => Q (.int (if k then 1 else 0)) H
  | _ => False
theorem cm_int : CallR X (.type "int") mInt := call_int1.imp fun xs H Q q => by
  match xs, q with
  | [.int i], q => exact .inl ⟨i, rfl, q⟩
  | [.bl k], q => exact .inr ⟨k, rfl, q⟩
def mTuple (K : PySem.W.Frag) : List V -> Hp -> VK -> Prop := fun xs H Q => match xs with
  | [.ref p] => ∃ ys, (SqL K H p ys /\ ∀ l, H l = none -> Q (.ref l) (upd H l (.tup ys))) \/ (SqT K H p ys /\ Q (.ref p) H)
  | _ => False
theorem cm_tuple : CallR X (.type "tuple") (mTuple X.K) := call_tuple_of.imp fun xs H Q q => by
  match xs, q with
  | [.ref p], ⟨ys, q⟩ => exact ⟨p, ys, rfl, q⟩
end
def compOkB (scope sc : Scope) : Bool :=
  decide (scope.kind = .function) && decide (scope.names.map (·.1)).Nodup && scope.names.all fun y => !(y.2 == .free) || (sc.names.lookup y.1 == some .cell || sc.names.lookup y.1 == some .free)
theorem CompScope.of {scope sc : Scope} (h : compOkB scope sc = true) : CompScope scope sc := by
  unfold compOkB at h
  rw [Bool.and_eq_true, Bool.and_eq_true] at h
  obtain ⟨⟨h1, h2⟩, h3⟩ := h
  refine ⟨of_decide_eq_true h1, of_decide_eq_true h2, fun y hy hf => ?_⟩
  have := List.all_eq_true.mp h3 y hy
  rw [hf] at this
  rcases (Bool.or_eq_true _ _).mp this with z | z
  . exact absurd z (by decide)
  . rcases (Bool.or_eq_true _ _).mp z with z | z
    . exact .inl (by simpa using z)
    . exact .inr (by simpa using z)
section
variable {X : Cx} {tg iter elt : Expr} {ifs : List Expr} {scope : Scope} {pos : Pos} {N' : List Str} {own : Nat} {ix : List Nat} {g : TG} {tc : TT} {te : TE} {wi : TI}
theorem frB {l : List Str} (h : (l.all fun x => scope.names.lookup x == some .free) = true) : ∀ x ∈ l, scope.names.lookup x = some .free := fun x hx => by
  have := List.all_eq_true.mp h x hx
  simpa using this
theorem pe_compB (hc : X.calm = true) (hi : PI X tg iter wi) (S : compOkB scope X.env.scope = true)
    (hlen : N'.length = own + ix.length) (hN : (N'.drop own).map some = ix.map (X.N[·]?)) (hfr : ((N'.drop own).all fun x => scope.names.lookup x == some .free) = true)
    (hg : ∀ c, PG (X.comp scope N' c) tg g) (hgo : GOwn own g) (ht : ∀ c, PTs (X.comp scope N' c) ifs tc) (he : ∀ c, PE (X.comp scope N' c) elt te)
    (hs : ∀ x, foldedSetIterable iter X.env x = pure x := by intro _; rfl) : PE X (.ListComp elt [⟨tg, iter, ifs, 0⟩] scope pos) (tComp wi own ix g tc te) :=
  pe_comp hc hi (.of S) hlen hN (frB hfr) hg hgo ht he hs
theorem ps_compB {i : Nat} {y : Str} {py spos : Pos} (hc : X.calm = true) (hnd : X.N.Nodup) (hiy : X.N[i]? = some y) (hy : X.env.scope.names.lookup y = some .local) (hi : PI X tg iter wi) (S : compOkB scope X.env.scope = true)
    (hlen : N'.length = own + ix.length) (hN : (N'.drop own).map some = ix.map (X.N[·]?)) (hfr : ((N'.drop own).all fun x => scope.names.lookup x == some .free) = true)
    (hg : ∀ c, PG (X.comp scope N' c) tg g) (hgo : GOwn own g) (ht : ∀ c, PTs (X.comp scope N' c) ifs tc) (he : ∀ c, PE (X.comp scope N' c) elt te)
    (hsw : swapsWith (.ListComp elt [⟨tg, iter, ifs, 0⟩] scope pos) (some (.Name y py)) spos.line X.env = pure true)
    (hs : ∀ x, foldedSetIterable iter X.env x = pure x := by intro _; rfl) : PS X (.Assign [.Name y py] (.ListComp elt [⟨tg, iter, ifs, 0⟩] scope pos) spos) (tAsg (tComp wi own ix g tc te) (gName i)) :=
  ps_comp hc hnd hiy hy hi (.of S) hlen hN (frB hfr) hg hgo ht he hsw hs
def iSeq (K : PySem.W.Frag) (tl : TE) : TI := fun σ H R => tl σ H fun x H1 => match x with
  | .ref a => ((∃ xs, SqL K H1 a xs) /\ R (Itl K a) H1) \/ ((∃ xs, SqT K H1 a xs) /\ R (Itt K a) H1)
  | _ => False
theorem pi_seq {l : Expr} {tl : TE} (hl : PE X l tl) : PI X tg l (iSeq X.K tl) := by
  intro pins s σ H R I h
  refine thn (hl pins s σ H _ I h) fun v s1 ⟨x, H1, I1, r1, q1⟩ => ?_
  cases x with
  | ref a =>
    cases r1
    rcases q1 with ⟨⟨xs, hq⟩, q⟩ | ⟨⟨xs, hq⟩, q⟩
    . obtain ⟨its, rv, p, hz⟩ := I1.list hq
      refine wpAny_pyIter_list p.isList ?_
      refine ⟨s1.heap.objs.size, [s1.heap.objs.size], _, _, H1, rfl, I1.kept (t' := s1.toks) fun b o e => Heap.get?_push_of_some _ e, turn_list a _, ⟨_, Heap.get?_push_size _ rfl, rfl, rfl⟩, fun b hb => ?_, q⟩
      have e : b = s1.heap.objs.size := by simpa using hb
      subst e
      exact I1.fpOk (Nat.le_refl _) (I1.hok.fresh (Nat.le_refl _))
    . obtain ⟨its, rv, p, hz⟩ := I1.tuple hq
      refine wpAny_pyIter_tuple (show s1.heap.IsTuple a its.toArray from p) ?_
      refine ⟨s1.heap.objs.size, [s1.heap.objs.size], _, _, H1, rfl, I1.kept (t' := s1.toks) fun b o e => Heap.get?_push_of_some _ e, turn_tuple a _, ⟨_, Heap.get?_push_size _ rfl, rfl, rfl⟩, fun b hb => ?_, q⟩
      have e : b = s1.heap.objs.size := by simpa using hb
      subst e
      exact I1.fpOk (Nat.le_refl _) (I1.hok.fresh (Nat.le_refl _))
  | _ => exact False.elim q1
def mSet : TSet := fun o i v H Q => match o, i with
  | .ref p, .int k => ∃ xs j, H p = some (.lst xs) /\ ixN xs.length k = some j /\ Q (upd H p (.lst (xs.set j v)))
  | _, _ => False
theorem set_any : PSet X mSet := by
  intro pins s σ H o i v ov iv u Q I ro ri rv h
  cases o <;> cases i <;> first
    | exact False.elim h
    | (obtain ⟨xs, j, h1, h2, q⟩ := h
       exact set_list pins s σ H _ _ v ov iv u Q I ro ri rv ⟨_, xs, _, j, rfl, rfl, h1, h2, q⟩)
theorem comp_list {K : PySem.W.Frag} {a : Addr} {xs : List V} {σc : St} {Q : VK} {H : Hp} (Pv : Nat -> List V -> Hp -> Prop) (h0 : Pv 0 [] H) (hl : ∀ i ys H, i <= xs.length -> Pv i ys H -> SqL K H a xs) (hz : ∀ i ys H, i < xs.length -> Pv i ys H -> ys.length < sizeLine)
    (hs : ∀ i x ys H, xs[i]? = some x -> Pv i ys H -> g x σc H fun σ2 H2 => tc σ2 H2 fun b H3 => if b = true then te σ2 H3 fun y H4 => Pv (i + 1) (ys ++ [y]) H4 else Pv (i + 1) ys H3)
    (hd : ∀ ys H, Pv xs.length ys H -> ∀ p, H p = none -> Q (.ref p) (upd H p (.lst ys))) : CompTurns (Itl K a) g tc te σc Q H := by
  refine ⟨fun i m ys H => m = xs.length - i /\ i <= xs.length /\ Pv i ys H, ⟨xs.length, by simp, Nat.zero_le _, h0⟩, ?_⟩
  rintro i m ys H ⟨rfl, hi, p⟩
  have q := hl i ys H hi p
  by_cases hlt : i < xs.length
  . refine .inr ⟨⟨xs, xs[i], q, by simp [hlt]⟩, hz i ys H hlt p, Pv (i + 1), fun ys' H' p' => ⟨xs.length - (i + 1), by omega, rfl, hlt, p'⟩, fun x H' y => ?_⟩
    obtain ⟨e, y⟩ := y
    subst e
    exact hs i x ys _ (y xs q) p
  . have e : i = xs.length := by omega
    subst e
    exact .inl ⟨⟨xs, q, Nat.le_refl _⟩, hd ys H p⟩
theorem comp_tup {K : PySem.W.Frag} {a : Addr} {xs : List V} {σc : St} {Q : VK} {H : Hp} (Pv : Nat -> List V -> Hp -> Prop) (h0 : Pv 0 [] H) (hl : ∀ i ys H, i <= xs.length -> Pv i ys H -> SqT K H a xs) (hz : ∀ i ys H, i < xs.length -> Pv i ys H -> ys.length < sizeLine)
    (hs : ∀ i x ys H, xs[i]? = some x -> Pv i ys H -> g x σc H fun σ2 H2 => tc σ2 H2 fun b H3 => if b = true then te σ2 H3 fun y H4 => Pv (i + 1) (ys ++ [y]) H4 else Pv (i + 1) ys H3)
    (hd : ∀ ys H, Pv xs.length ys H -> ∀ p, H p = none -> Q (.ref p) (upd H p (.lst ys))) : CompTurns (Itt K a) g tc te σc Q H := by
  refine ⟨fun i m ys H => m = xs.length - i /\ i <= xs.length /\ Pv i ys H, ⟨xs.length, by simp, Nat.zero_le _, h0⟩, ?_⟩
  rintro i m ys H ⟨rfl, hi, p⟩
  have q := hl i ys H hi p
  by_cases hlt : i < xs.length
  . refine .inr ⟨⟨xs, xs[i], q, by simp [hlt]⟩, hz i ys H hlt p, Pv (i + 1), fun ys' H' p' => ⟨xs.length - (i + 1), by omega, rfl, hlt, p'⟩, fun x H' y => ?_⟩
    obtain ⟨e, y⟩ := y
    subst e
    exact hs i x ys _ (y xs q) p
  . have e : i = xs.length := by omega
    subst e
    exact .inl ⟨⟨xs, q, Nat.le_refl _⟩, hd ys H p⟩
theorem comp_range {lo : Int} {n : Nat} {σc : St} {Q : VK} {H : Hp} (Pv : Nat -> List V -> Hp -> Prop) (h0 : Pv 0 [] H) (hz : ∀ i ys H, i < n -> Pv i ys H -> ys.length < sizeLine)
    (hs : ∀ i ys H, i < n -> Pv i ys H -> g (.int (lo + i)) σc H fun σ2 H2 => tc σ2 H2 fun b H3 => if b = true then te σ2 H3 fun y H4 => Pv (i + 1) (ys ++ [y]) H4 else Pv (i + 1) ys H3)
    (hd : ∀ ys H, Pv n ys H -> ∀ p, H p = none -> Q (.ref p) (upd H p (.lst ys))) : CompTurns (Itr lo n) g tc te σc Q H := by
  refine ⟨fun i m ys H => m = n - i /\ i <= n /\ Pv i ys H, ⟨n, by simp, Nat.zero_le _, h0⟩, ?_⟩
  rintro i m ys H ⟨rfl, hi, p⟩
  by_cases hlt : i < n
  . refine .inr ⟨hlt, hz i ys H hlt p, Pv (i + 1), fun ys' H' p' => ⟨n - (i + 1), by omega, rfl, hlt, p'⟩, fun x H' y => ?_⟩
    obtain ⟨e, y⟩ := y
    subst e y
    exact hs i ys _ hlt p
  . have e : i = n := by omega
    subst e
    exact .inl ⟨Nat.le_refl _, hd ys H p⟩
def vWhile (c : TT) (tb : TS) : TS := fun D σ H => ∃ W : Nat -> St -> Hp -> Prop, (∃ m, W m σ H) /\ ∀ m σ H, W m σ H ->
  c σ H fun b H1 => if b = true then tb { D with nx := fun σ' H' => ∃ m', m' < m /\ W m' σ' H', ct := fun σ' H' => ∃ m', m' < m /\ W m' σ' H', bk := D.nx } σ H1 else D.nx σ H1
theorem ps_whileM {c : Expr} {body : List Stmt} {tc : TT} {tb : TS} (hp : PassesOwn (model X.prog X.w) X.A X.env X.xe) (hc : PT X c tc) (hb : PSs X body tb) : PS X (.While c body [] pos) (vWhile tc tb) := by
  intro pins s σ H D I h
  obtain ⟨W, ⟨m0, w0⟩, turn⟩ := h
  refine wpAny_While (codeAny_whileLoop (fun n s' => ∃ σ' H', Inv X pins σ' H' s' /\ W n σ' H') ?_ m0 ⟨σ, H, I, w0⟩)
  rintro n s1 ⟨σ1, H1, I1, w1⟩
  refine wpAny_passesOwn hp (thn (hc pins s1 σ1 H1 _ I1 (turn n σ1 H1 w1)) fun b s2 ⟨H2, I2, q2⟩ => ?_)
  cases b with
  | true =>
    rw [if_pos rfl] at q2
    rw [if_pos rfl]
    refine wpAny_passesOwn hp (thn (hb pins s2 σ1 H2 _ I2 q2) fun f s3 q3 => ?_)
    cases f with
    | next =>
      obtain ⟨σ3, H3, I3, m', hm, w3⟩ := q3
      exact ⟨m', hm, σ3, H3, I3, w3⟩
    | cont =>
      obtain ⟨σ3, H3, I3, m', hm, w3⟩ := q3
      exact ⟨m', hm, σ3, H3, I3, w3⟩
    | brk => exact q3
    | ret v => exact q3
  | false =>
    rw [if_neg Bool.false_ne_true] at q2
    rw [if_neg Bool.false_ne_true]
    exact wpAny_execs_nil ⟨σ1, H2, I2, q2⟩
end
theorem hu60 {A : Around} {k : Nat} (hr : Room k A) : A.units + 60 < cLine := by have := hr.un; omega
def Frm (t : Addr) (H H' : Hp) : Prop := ∀ b o, b ≠ t -> H b = some o -> H' b = some o
theorem Frm.refl {t : Addr} {H : Hp} : Frm t H H := fun _ _ _ h => h
theorem Frm.trans {t : Addr} {H H1 H2 : Hp} (a : Frm t H H1) (b : Frm t H1 H2) : Frm t H H2 := fun c o n h => b c o n (a c o n h)
theorem Frm.upd {t p : Addr} {H : Hp} {o : HO} (h : H p = none) : Frm t H (upd H p o) := fun b u _ e => by rw [upd_ne (ne_of_none e h)]; exact e
theorem Same.upd {p : Addr} {H : Hp} {o : HO} (h : H p = none) : Same H (L2.upd H p o) := fun b u e => by rw [upd_ne (ne_of_none e h)]; exact e
theorem Same.frm {t : Addr} {H H' : Hp} (h : Same H H') : Frm t H H' := fun b o _ e => h b o e
theorem sqL_stay {K : PySem.W.Frag} {H H' : Hp} {a : Addr} {xs : List V} (h : SqL K H a xs) (k : ∀ o, H a = some o -> H' a = some o) : SqL K H' a xs := by
  rcases h with (h | ⟨o, h⟩) | h
  . exact .inl (.inl (k _ h))
  . exact .inl (.inr ⟨o, k _ h⟩)
  . exact .inr h
theorem sqT_stay {K : PySem.W.Frag} {H H' : Hp} {a : Addr} {xs : List V} (h : SqT K H a xs) (k : ∀ o, H a = some o -> H' a = some o) : SqT K H' a xs := by
  rcases h with (h | ⟨o, h⟩) | h
  . exact .inl (.inl (k _ h))
  . exact .inl (.inr ⟨o, k _ h⟩)
  . exact .inr h
def ScrAt (K : PySem.W.Frag) (H : Hp) (t a : Addr) (ns : List Int) : Prop :=
  (Rd H a (.lst (ns.map V.int)) /\ a ≠ t) \/ ∃ (o : Obj) (its : Array Value) (n : Nat), K.lookup a = some o /\ o.cls = .type "list" /\ o.dict = none /\ o.data = .seq its n /\ its.size <= sizeLine /\ Vals (ns.map V.int) its.toList
theorem ScrAt.stay {K : PySem.W.Frag} {H H' : Hp} {t a : Addr} {ns : List Int} (h : ScrAt K H t a ns) (k : ∀ o, a ≠ t -> H a = some o -> H' a = some o) : ScrAt K H' t a ns := by
  rcases h with ⟨h | ⟨o, h⟩, n⟩ | h
  . exact .inl ⟨.inl (k _ n h), n⟩
  . exact .inl ⟨.inr ⟨o, k _ n h⟩, n⟩
  . exact .inr h
structure Tape (K : PySem.W.Frag) (H : Hp) (t a : Addr) (ns : List Int) : Prop where
  at_ : ∃ i r c : Int, 0 <= i /\ 0 <= r /\ H t = some (.lst [.ref a, .int i, .int r, .int c])
  scr : ScrAt K H t a ns
theorem Tape.frm {K : PySem.W.Frag} {H H' : Hp} {t a : Addr} {ns : List Int} (T : Tape K H t a ns) (h : Frm t H H') (ht : H' t = H t) : Tape K H' t a ns :=
  ⟨by rw [ht]; exact T.at_, T.scr.stay fun o n e => h a o n e⟩
theorem Tape.same {K : PySem.W.Frag} {H H' : Hp} {t a : Addr} {ns : List Int} (T : Tape K H t a ns) (h : Same H H') : Tape K H' t a ns := by
  obtain ⟨i, r, c, h1, h2, h3⟩ := T.at_
  exact ⟨⟨i, r, c, h1, h2, h _ _ h3⟩, T.scr.stay fun o _ e => h a o e⟩
theorem Tape.upd {K : PySem.W.Frag} {H : Hp} {t a p : Addr} {o : HO} {ns : List Int} (T : Tape K H t a ns) (h : H p = none) : Tape K (L2.upd H p o) t a ns := T.same (Same.upd h)
theorem Tape.free {K : PySem.W.Frag} {H H' : Hp} {t a p : Addr} {ns : List Int} (T : Tape K H' t a ns) (h : Frm t H H') (hp : H' p = none) : H p = none := by
  cases e : H p with
  | none => rfl
  | some o =>
    by_cases hpt : p = t
    . subst hpt
      obtain ⟨i, r, c, _, _, h3⟩ := T.at_
      rw [h3] at hp; cases hp
    . rw [h p o hpt e] at hp; cases hp
def spLaw (K : PySem.W.Frag) : Sp := fun vs H Q _ => ∃ (a : Addr) (ns : List Int), vs = [.ref a] /\ SqL K H a (ns.map V.int) /\ ns.length <= 63 /\ ∀ H', Q (.bl true) H'
theorem atI_of {xs : List V} {i : Int} {n : Nat} {v : V} (h : i = (n : Int)) (hx : xs[n]? = some v) : atI xs i = some v := by
  subst h
  have hn : n < xs.length := (List.getElem?_eq_some_iff.mp hx).1
  unfold atI ixN
  rw [if_pos (Int.natCast_nonneg n), if_pos (by omega)]
  simpa using hx
theorem atI_int {ns : List Int} {i : Int} (h0 : 0 <= i) (h1 : i < ns.length) : ∃ z, atI (ns.map V.int) i = some (.int z) := by
  obtain ⟨n, rfl⟩ := Int.eq_ofNat_of_zero_le h0
  have hn : n < ns.length := by omega
  exact ⟨ns[n], atI_of rfl (by rw [List.getElem?_map, List.getElem?_eq_getElem hn]; rfl)⟩
theorem okDiv_of {j : Int} (h1 : 0 < j) (h2 : j <= 2 ^ 1000) : okDiv j := ⟨h1, Int.lt_of_le_of_lt h2 (by decide)⟩
theorem small_le {n : Nat} (h : n <= 1000) : n <= sizeLine := Nat.le_of_lt (small1000 h)
def TMono (t : TT) : Prop := ∀ σ H (Q Q' : Bool -> Hp -> Prop), (∀ b H, Q b H -> Q' b H) -> t σ H Q -> t σ H Q'
def AMono (t : TA) : Prop := ∀ σ H (Q Q' : List V -> Hp -> Prop), (∀ b H, Q b H -> Q' b H) -> t σ H Q -> t σ H Q'
def RMono (r : R2) : Prop := ∀ x y H (Q Q' : VK), (∀ v H, Q v H -> Q' v H) -> r x y H Q -> r x y H Q'
def CMono (r : List V -> Hp -> VK -> Prop) : Prop := ∀ xs H (Q Q' : VK), (∀ v H, Q v H -> Q' v H) -> r xs H Q -> r xs H Q'
def BMono (r : V -> List V -> Hp -> VK -> Prop) : Prop := ∀ x xs H (Q Q' : VK), (∀ v H, Q v H -> Q' v H) -> r x xs H Q -> r x xs H Q'
def SpMono (sp : Sp) : Prop := ∀ vs H (Q Q' : VK) E, (∀ v H, Q v H -> Q' v H) -> sp vs H Q E -> sp vs H Q' E
def IMono (t : TI) : Prop := ∀ σ H (Q Q' : It -> Hp -> Prop), (∀ J H, Q J H -> Q' J H) -> t σ H Q -> t σ H Q'
def SetMono (t : TSet) : Prop := ∀ o i v H (Q Q' : Hp -> Prop), (∀ H, Q H -> Q' H) -> t o i v H Q -> t o i v H Q'
structure Ends.le (D D' : Ends) : Prop where
  nx : ∀ σ H, D.nx σ H -> D'.nx σ H
  rt : ∀ v H, D.rt v H -> D'.rt v H
  bk : ∀ σ H, D.bk σ H -> D'.bk σ H
  ct : ∀ σ H, D.ct σ H -> D'.ct σ H
def SMono (t : TS) : Prop := ∀ D D' σ H, Ends.le D D' -> t D σ H -> t D' σ H
theorem em_var {i : Nat} : EMono (vVar i) := fun σ H Q Q' h q => by
  unfold vVar at *
  split at q
  . exact h _ _ q
  . exact q.elim
theorem em_c {v : V} : EMono (tC v) := fun _ _ _ _ h q => h _ _ q
theorem em_op {r : R2} {ta tb : TE} (hr : RMono r) (ha : EMono ta) (hb : EMono tb) : EMono (tOp r ta tb) := fun σ H Q Q' h q => ha _ _ _ _ (fun _ _ q => hb _ _ _ _ (fun _ _ q => hr _ _ _ _ _ h q) q) q
theorem rm_add {K} : RMono (mAdd K) := fun x y H Q Q' h q => by
  unfold mAdd at *
  split at q
  . exact h _ _ q
  . exact ⟨q.1, h _ _ q.2⟩
  . rcases q with ⟨l, b, xs, zs, e1, e2, h1, h2, h3, q⟩ | ⟨a, b, xs, ys, e1, e2, h1, h2, h3, h4, q1, q2⟩
    . exact .inl ⟨l, b, xs, zs, e1, e2, h1, h2, h3, fun p hp => h _ _ (q p hp)⟩
    . exact .inr ⟨a, b, xs, ys, e1, e2, h1, h2, h3, h4, fun e => h _ _ (q1 e), fun e p hp => h _ _ (q2 e p hp)⟩
  . exact q.elim
theorem rm_sub : RMono mSub := fun x y H Q Q' h q => by unfold mSub at *; split at q <;> first | exact h _ _ q | exact q.elim
theorem rm_mul : RMono mMul := fun x y H Q Q' h q => by
  unfold mMul at *
  split at q
  . exact ⟨q.1, h _ _ q.2⟩
  . obtain ⟨l, k, xs, e1, e2, h1, h2, h3, h4, q⟩ := q
    exact ⟨l, k, xs, e1, e2, h1, h2, h3, h4, fun p hp => h _ _ (q p hp)⟩
  . exact q.elim
theorem rm_div : RMono mDiv := fun x y H Q Q' h q => by unfold mDiv at *; split at q <;> first | exact ⟨q.1, h _ _ q.2⟩ | exact q.elim
theorem rm_mod : RMono mMod := fun x y H Q Q' h q => by unfold mMod at *; split at q <;> first | exact ⟨q.1, h _ _ q.2⟩ | exact q.elim
theorem rm_bit {f} : RMono (mBit f) := fun x y H Q Q' h q => by unfold mBit at *; split at q <;> first | exact h _ _ q | exact q.elim
theorem rm_shl : RMono mShl := fun x y H Q Q' h q => by unfold mShl at *; split at q <;> first | exact ⟨q.1, h _ _ q.2⟩ | exact q.elim
theorem rm_cmp {p} : RMono (mCmp p) := fun x y H Q Q' h q => by unfold mCmp at *; split at q <;> first | exact h _ _ q | exact q.elim
theorem rm_eq {n K} : RMono (mEq n K) := fun x y H Q Q' h q => by
  unfold mEq at *
  split at q <;> first | exact h _ _ q | (obtain ⟨d, e, h1, h2, h3, q⟩ := q; exact ⟨d, e, h1, h2, h3, h _ _ q⟩)
theorem rm_ix {K} : RMono (mIx K) := fun x y H Q Q' h q => by
  unfold mIx at *
  split at q
  . obtain ⟨xs, v, h1, h2, q⟩ := q; exact ⟨xs, v, h1, h2, h _ _ q⟩
  . obtain ⟨c, h1, h2, q⟩ := q; exact ⟨c, h1, h2, h _ _ q⟩
  . exact q.elim
theorem isB_mono {v : V} {Q Q' : Bool -> Prop} (h : ∀ b, Q b -> Q' b) (q : isB v Q) : isB v Q' := by
  cases v <;> first | exact h _ q | exact q
theorem tm_b {t : TE} (h : EMono t) : TMono (uB t) := fun σ H Q Q' k q => h _ _ _ _ (fun _ _ q => isB_mono (fun b q => k b _ q) q) q
theorem em_not {ta : TE} (ha : EMono ta) : EMono (vNot ta) := fun σ H Q Q' h q => ha _ _ _ _ (fun _ _ q => isB_mono (fun b q => h _ _ q) q) q
theorem em_if {t : TT} {ta tb : TE} (ht : TMono t) (ha : EMono ta) (hb : EMono tb) : EMono (tIf t ta tb) := fun σ H Q Q' h q => ht _ _ _ _ (fun b _ q => by
    cases b with
    | true => exact ha _ _ _ _ h q
    | false => exact hb _ _ _ _ h q) q
theorem tm_and {t u : TT} (ht : TMono t) (hu : TMono u) : TMono (tAnd t u) := fun σ H Q Q' h q => ht _ _ _ _ (fun b _ q => by
    cases b with
    | true => exact hu _ _ _ _ h q
    | false => exact h _ _ q) q
theorem tm_or {t u : TT} (ht : TMono t) (hu : TMono u) : TMono (tOr t u) := fun σ H Q Q' h q => ht _ _ _ _ (fun b _ q => by
    cases b with
    | true => exact h _ _ q
    | false => exact hu _ _ _ _ h q) q
theorem tm_not {t : TT} (ht : TMono t) : TMono (tNot t) := fun σ H Q Q' h q => ht _ _ _ _ (fun b _ q => h _ _ q) q
theorem am_nil : AMono tNil := fun _ _ _ _ h q => h _ _ q
theorem am_cons {ta : TE} {t : TA} (ha : EMono ta) (ht : AMono t) : AMono (tCons ta t) := fun σ H Q Q' h q => ha _ _ _ _ (fun _ _ q => ht _ _ _ _ (fun _ _ q => h _ _ q) q) q
theorem em_cb {r} {t : TA} (hr : CMono r) (ht : AMono t) : EMono (tCB r t) := fun σ H Q Q' h q => ht _ _ _ _ (fun _ _ q => hr _ _ _ _ h q) q
theorem em_call {sp dvs E} {t : TA} (hs : SpMono sp) (ht : AMono t) : EMono (tCall sp dvs E t) := fun σ H Q Q' h q => ht _ _ _ _ (fun _ _ q => hs _ _ _ _ _ h q) q
theorem em_tup {t : TA} (ht : AMono t) : EMono (tTup t) := fun σ H Q Q' h q => ht _ _ _ _ (fun _ _ q => ⟨q.1, fun p hp => h _ _ (q.2 p hp)⟩) q
theorem em_lst {t : TA} (ht : AMono t) : EMono (tLst t) := fun σ H Q Q' h q => ht _ _ _ _ (fun _ _ q => ⟨q.1, fun p hp => h _ _ (q.2 p hp)⟩) q
theorem em_comp {wi own ix g tc te} (hi : IMono wi) : EMono (tComp wi own ix g tc te) := fun σ H Q Q' h q => hi _ _ _ _ (fun J H1 q => by
    obtain ⟨W, w0, turn⟩ := q
    refine ⟨W, w0, fun i m ys H w => ?_⟩
    rcases turn i m ys H w with ⟨a, b⟩ | r
    . exact .inl ⟨a, fun p hp => h _ _ (b p hp)⟩
    . exact .inr r) q
theorem cm_len_ {K} : CMono (mLen K) := fun xs H Q Q' h q => by unfold mLen at *; split at q <;> first | (obtain ⟨n, a, q⟩ := q; exact ⟨n, a, h _ _ q⟩) | exact q.elim
theorem cm_min_ : CMono mMin := fun xs H Q Q' h q => by unfold mMin at *; split at q <;> first | exact h _ _ q | exact q.elim
theorem cm_int_ : CMono mInt := fun xs H Q Q' h q => by unfold mInt at *; split at q <;> first | exact h _ _ q | exact q.elim
theorem im_seq {K} {tl : TE} (h : EMono tl) : IMono (iSeq K tl) := fun σ H Q Q' k q => h _ _ _ _ (fun v H1 q => by
    cases v <;> first | exact q.elim | (rcases q with ⟨a, q⟩ | ⟨a, q⟩
                                        . exact .inl ⟨a, k _ _ q⟩
                                        . exact .inr ⟨a, k _ _ q⟩)) q
theorem im_rng1 {ta : TA} (h : AMono ta) : IMono (iRng1 ta) := fun σ H Q Q' k q => h _ _ _ _ (fun _ _ ⟨j, e, a, b, q⟩ => ⟨j, e, a, b, k _ _ q⟩) q
theorem sm_set : SetMono mSet := fun o i v H Q Q' h q => by
  unfold mSet at *
  split at q
  . obtain ⟨xs, j, a, b, q⟩ := q; exact ⟨xs, j, a, b, h _ q⟩
  . exact q.elim
theorem gm_sub {to ti : TE} {t : TSet} (h1 : EMono to) (h2 : EMono ti) (h3 : SetMono t) : GMono (gSub to ti t) := fun v σ H Q Q' h q => h1 _ _ _ _ (fun _ _ q => h2 _ _ _ _ (fun _ _ q => h3 _ _ _ _ _ _ (fun H q => h _ _ q) q) q) q
theorem sm_next : SMono tNext := fun D D' σ H h q => h.nx _ _ q
theorem sm_seq {t u : TS} (h1 : SMono t) (h2 : SMono u) : SMono (tSeq t u) := fun D D' σ H h q => h1 { D with nx := u D } { D' with nx := u D' } σ H ⟨fun σ H q => h2 D D' σ H h q, h.rt, h.bk, h.ct⟩ q
theorem sm_asg {te : TE} {g : TG} (h1 : EMono te) (h2 : GMono g) : SMono (tAsg te g) := fun D D' σ H h q => h1 _ _ _ _ (fun _ _ q => h2 _ _ _ _ _ h.nx q) q
theorem sm_ret {te : TE} (h1 : EMono te) : SMono (tRet te) := fun D D' σ H h q => h1 _ _ _ _ h.rt q
theorem sm_drop {te : TE} (h1 : EMono te) : SMono (tDrop te) := fun D D' σ H h q => h1 _ _ _ _ (fun _ _ q => h.nx _ _ q) q
theorem sm_if {c : TT} {t u : TS} (hc : TMono c) (h1 : SMono t) (h2 : SMono u) : SMono (tIfS c t u) := fun D D' σ H h q => hc _ _ _ _ (fun b _ q => by
    cases b with
    | true => exact h1 _ _ _ _ h q
    | false => exact h2 _ _ _ _ h q) q
theorem sm_while {c : TT} {tb : TS} (hc : TMono c) (h1 : SMono tb) : SMono (vWhile c tb) := fun D D' σ H h q => by
  obtain ⟨W, w0, turn⟩ := q
  refine ⟨W, w0, fun m σ H w => hc _ _ _ _ (fun b H1 q => ?_) (turn m σ H w)⟩
  cases b with
  | true => exact h1 { D with nx := fun σ' H' => ∃ m', m' < m /\ W m' σ' H', ct := fun σ' H' => ∃ m', m' < m /\ W m' σ' H', bk := D.nx } _ _ _ ⟨fun _ _ q => q, h.rt, h.nx, fun _ _ q => q⟩ q
  | false => exact h.nx _ _ q
theorem sm_for {wi : TI} {g : TG} {tb : TS} (hi : IMono wi) (hg : GMono g) (h1 : SMono tb) : SMono (tFor wi g tb) := fun D D' σ H h q => hi _ _ _ _ (fun J H1 q => by
  obtain ⟨W, w0, turn⟩ := q
  refine ⟨W, w0, fun i m σ H w => ?_⟩
  rcases turn i m σ H w with ⟨a, b⟩ | ⟨a, N, hN, step⟩
  . exact .inl ⟨a, h.nx _ _ b⟩
  . exact .inr ⟨a, N, hN, fun x H' y => hg _ _ _ _ _ (fun σ2 H2 q => h1 { D with nx := N, ct := N, bk := D.nx } _ _ _ ⟨fun _ _ q => q, h.rt, h.nx, fun _ _ q => q⟩ q) (step x H' y)⟩) q
theorem seq_at {t u : TS} {D : Ends} {σ : St} {H : Hp} (J : St -> Hp -> Prop) (h1 : t { D with nx := J } σ H) (h2 : ∀ σ' H', J σ' H' -> u D σ' H') (hm : SMono t) : tSeq t u D σ H :=
  hm { D with nx := J } { D with nx := u D } σ H ⟨h2, fun _ _ q => q, fun _ _ q => q, fun _ _ q => q⟩ h1
section
variable {X : Cx} {K : PySem.W.Frag} {a b c e l tg : Expr} {es : List Expr} {ta tb tc te tl : TE} {pos p : Pos}
theorem kAdd (hK : X.K = K := by rfl) : OpR X (binaryOp .Add) (mAdd K) := hK ▸ om_add
theorem kEq (hu : X.A.units + 60 < cLine) (hK : X.K = K := by rfl) : OpR X (compareOp .Eq) (mEq false K) := hK ▸ om_eq hu
theorem kNe (hu : X.A.units + 60 < cLine) (hK : X.K = K := by rfl) : OpR X (compareOp .NotEq) (mEq true K) := hK ▸ om_ne hu
theorem kIx (ha : PE X a ta) (hb : PE X b tb) (hs : PlainIx b := by intro _ _; rfl) (hK : X.K = K := by rfl) : PE X (.Subscript a b pos) (tOp (mIx K) ta tb) := hK ▸ pe_ixM ha hb hs
theorem kLen (hK : X.K = K := by rfl) : CallR X (.builtin "len") (mLen K) := hK ▸ cm_len
theorem kTuple (hK : X.K = K := by rfl) : CallR X (.type "tuple") (mTuple K) := hK ▸ cm_tuple
theorem kSeq (hl : PE X l tl) (hK : X.K = K := by rfl) : PI X tg l (iSeq K tl) := hK ▸ pi_seq hl
theorem kTup {es : List Expr} {k : Nat} {t : TGs} {n : Nat} (hc : X.calm = true) (h : PGs X es t)
    (hn : (assignEach es X.env).length = n := by rfl) (hst : (assignEach es X.env).findIdx? (·.1) = none := by rfl) (hK : X.K = K := by rfl) : PG X (.Tuple es k pos) (gTup K n t) := hK ▸ pg_tup hc h hn hst
end
theorem Inv.turnedNew {X : Cx} {pins : List (Addr × Obj)} {σ : St} {H : Hp} {s : Shared} {h' : Heap} {ch : List Addr} {T : Addr} {o : HO} (I : Inv X pins σ H s) (hf : ∀ b ∈ ch, FpOk X pins H b) (hT : s.heap.objs.size <= T)
    (k : ∀ b u, b ∉ ch -> s.heap.get? b = some u -> h'.get? b = some u) (new : ObjOk X.prog X.w (upd H T o) h' T o) (th : ∀ b ∈ ch, ∃ u, h'.get? b = some u) : Inv X pins σ (upd H T o) { s with heap := h' } := by
  have hTn : H T = none := I.hok.fresh hT
  have nT : ∀ b u, H b = some u -> b ≠ T := fun b u e z => by rw [z, hTn] at e; cases e
  have nc : ∀ b u, H b = some u -> b ∉ ch := fun b u e z => by rw [(hf b z).1] at e; cases e
  refine I.step (g' := s.gens) (d' := s.drawn) (t' := s.toks) (ch := ch) (fun b hb => ?_) (fun b u _ _ hc e _ => k b u hc e) (fun b u _ _ hc e _ => ⟨u.slots, k b u hc e⟩) (fun b u hc e n => ?_) (fun b u hc e => ⟨u, k b u hc e⟩)
    (fun b xs e => by rw [upd_ne (nT _ _ e)]; exact e) (fun b u v e => by rw [upd_ne (nT _ _ e)]; exact e) (fun b ps e => ⟨#[], by rw [upd_ne (nT _ _ e), e]; simp⟩) (fun m hm => ?_) (fun b u e => ?_) I.bare
  . obtain ⟨q1, q2, q3, q4, q5, q6⟩ := hf b hb
    exact ⟨q4, q2, q5, q6⟩
  . rw [upd_ne (Nat.ne_of_lt (Nat.lt_of_lt_of_le (Heap.lt_size e) hT))]; exact n
  . obtain ⟨u, es, ep, ho, r⟩ := hm
    exact ⟨u, es, ep, k _ u (fun z => (hf _ z).2.1 rfl) ho, r⟩
  . by_cases hb : b = T
    . subst hb; rw [upd_same] at e; cases e; exact new
    . rw [upd_ne hb] at e
      refine (I.hok b u e).stay (fun c v hc q => k c v ?_ q) (fun c q => by rw [upd_ne (nT _ _ q)]; exact q) fun c xs q => by rw [upd_ne (nT _ _ q)]; exact q
      rcases hc with z | z
      . rw [z]; exact nc b u e
      . exact nc c _ z
section
variable {X : Cx}
end
section
variable {X : Cx} {K : PySem.W.Frag} {o e : Expr} {es : List Expr} {to : TE} {t : TA} {apos cpos : Pos}
theorem em_bm {T : String} {r : V -> List V -> Hp -> VK -> Prop} (h1 : EMono to) (h2 : AMono t) (h3 : BMono r) : EMono (tBM K T r to t) := fun σ H Q Q' h q => h1 _ _ _ _ (fun _ _ q => ⟨q.1, h2 _ _ _ _ (fun _ _ q => h3 _ _ _ _ _ h q) q.2⟩) q
def mSum (K : PySem.W.Frag) : List V -> Hp -> VK -> Prop := fun xs H Q => match xs with
  | [.ref l] => ∃ ns : List Int, SqL K H l (ns.map V.int) /\ Q (.int ns.sum) H
  | _ => False
theorem cm_sum (hc : X.calm = true) : CallR X (.builtin "sum") (mSum X.K) := by
  intro pins s σ H xs us Q I r q
  match xs, q with
  | [.ref l], q =>
  obtain ⟨ns, hl, q⟩ := q
  obtain ⟨u, rfl, ru⟩ := vals1 r
  cases ru
  obtain ⟨its, rv, pl, hz⟩ := I.list hl
  have hi : IntsAre its ns := by simpa using intsAre_of rv
  obtain ⟨zs, hzs⟩ := (hi.allInts).items
  have e : (numsOf its).sum = ns.sum := by rw [hi.numsOf]
  have pl' := pl.isList
  rw [hzs] at pl'
  refine sum_intListG (I.ok.hd hc) pl' fun h' tk t' hk => ?_
  refine ⟨.int _, H, I.kept hk, ⟨t', rfl⟩, ?_⟩
  have e2 : preSum (numAt zs) zs.size = ns.sum := by
    rw [preSum_eq, List.take_of_length_le (by simp), <- e]
    rw [show its = its.toArray.toList by simp, hzs, nums_intItems]
  rw [e2]
  exact q
theorem kSum (hc : X.calm = true) (hK : X.K = K := by rfl) : CallR X (.builtin "sum") (mSum K) := hK ▸ cm_sum hc
theorem cm_sum_ : CMono (mSum K) := fun xs H Q Q' h q => by
  unfold mSum at *
  split at q
  . obtain ⟨ns, a, q⟩ := q; exact ⟨ns, a, h _ _ q⟩
  . exact q.elim
end
section
variable {prog : Program} {w : World} {A : Around} {E : Value -> Shared -> Prop} {s : Shared}
theorem draw_list {it t : Addr} {items : Array Value} (hne : t ≠ it) : ∀ (n i : Nat) (s : Shared) (Q : List Value -> Shared -> Prop), s.heap.IsListIter it t i -> s.heap.IsList t items -> i + n <= items.size ->
    (∀ h', h'.IsListIter it t (i + n) -> Heap.SameBut it s.heap h' -> Q ((items.toList.drop i).take n) { s with heap := h' }) -> wpAny (model prog w) A (draw (.ref it) n) Q E s
  | 0, i, s, Q, hit, _, _, hQ => by
    show wpAny _ _ (pure []) Q E s
    exact wpAny_pure (by simpa using hQ s.heap hit (Heap.SameBut.refl ..))
  | n + 1, i, s, Q, hit, ht, hle, hQ => by
    have hlt : i < items.size := by omega
    show wpAny _ _ (pyNext (.ref it) >>= _) Q E s
    refine wpAny_bind (wpAny_pyNext_list_item hit ht (x := items[i]) (by simp [hlt]) fun h₁ hit₁ hs₁ => ?_)
    refine wpAny_bind (wpAny_holding (draw_list hne n (i + 1) _ _ hit₁ (ht.extBut hs₁.extBut hne) (by omega) fun h₂ hit₂ hs₂ => wpAny_pure ?_))
    have hd : items.toList.drop i = items[i] :: items.toList.drop (i + 1) := by simp [List.drop_eq_getElem_cons, hlt]
    have := hQ h₂ (by rw [show i + (n + 1) = i + 1 + n by omega]; exact hit₂) (hs₁.trans hs₂)
    rw [hd, List.take_succ_cons] at this
    exact this
theorem unpackItems_list {t : Addr} {items : Array Value} {Q : List Value -> Shared -> Prop} (hh : A.handled = none) (ht : s.heap.IsList t items)
    (hQ : ∀ h', Heap.ExtBut s.heap.objs.size s.heap h' -> Q items.toList { s with heap := h' }) : wpAny (model prog w) A (unpackItems (.ref t) items.size none) Q E s := by
  have hlt : t ≠ s.heap.objs.size := by obtain ⟨o, ho, _⟩ := ht; exact Nat.ne_of_lt (Heap.lt_size ho)
  unfold unpackItems
  refine wpAny_bind ?_
  . unfold notIterableAtAll
    refine wpAny_bind (wpAny_specialOf ht.typeIs slot_list_iter.lookup ?_)
    refine wpAny_pure ?_
    simp only [Bool.false_eq_true, if_false]
    refine wpAny_bind (wpAny_holding (wpAny_pyIter_list ht ?_))
    refine wpAny_bind (wpAny_holding (draw_list hlt items.size 0 _ _ ⟨_, Heap.get?_push_size _ rfl, rfl, rfl⟩ (ht.at fun o e => Heap.get?_push_of_some _ e) (by omega) fun h₁ hit₁ hs₁ => ?_))
    have hall : List.take items.size (List.drop 0 items.toList) = items.toList := by
      rw [List.drop_zero]; exact List.take_of_length_le (by simp)
    rw [hall]
    rw [if_neg (by simp)]
    have ht₁ : h₁.IsList t items := (Heap.IsList.at ht fun o e => Heap.get?_push_of_some _ e).extBut hs₁.extBut hlt
    refine wpAny_bind (wpAny_holding (wpAny_pyNext_list_end hh hit₁ ht₁ (by simp) fun h₂ he₂ => ?_))
    simp only [Option.isSome_none, Bool.false_eq_true, if_false]
    refine wpAny_pure (hQ h₂ fun b o hb e => he₂ b o hb (hs₁.extBut b o hb (Heap.get?_push_of_some _ e)))
theorem assign_Tuple_list {env : Env} {elts : List Expr} {x1} {pos : Pos} {t : Addr} {items : Array Value} {Q : Unit -> Shared -> Prop} (hh : A.handled = none) (ht : s.heap.IsList t items)
    (hn : (assignEach elts env).length = items.size) (hstar : (assignEach elts env).findIdx? (·.1) = none)
    (h : ∀ h', Heap.ExtBut s.heap.objs.size s.heap h' -> wpAny (model prog w) A (assignInOrder ((assignEach elts env).map (·.2)) items.toList) Q E { s with heap := h' }) :
    wpAny (model prog w) A (assign (.Tuple elts x1 pos) env (.ref t)) Q E s := by
  rw [assign_Tuple]
  refine wpAny_bind (wpAny_standAt ?_)
  unfold unpack
  rw [hn, hstar]
  exact wpAny_bind (wpAny_holding (unpackItems_list hh ht h))
end
section
variable {X : Cx} {K : PySem.W.Frag} {pos p2 : Pos} {e : Expr} {lo hi : Option Expr} {te : TE} {tl th : TO}
def gSeqs (K : PySem.W.Frag) (n : Nat) (t : TGs) : TG := fun v σ H Q => match v with
  | .ref a => ∃ xs, SqA K H a xs /\ xs.length = n /\ t xs σ H Q
  | _ => False
theorem kTupA {es : List Expr} {k : Nat} {t : TGs} {n : Nat} (hc : X.calm = true) (h : PGs X es t)
    (hn : (assignEach es X.env).length = n := by rfl) (hst : (assignEach es X.env).findIdx? (·.1) = none := by rfl) (hK : X.K = K := by rfl) : PG X (.Tuple es k pos) (gSeqs K n t) := by
  subst hK
  intro pins s σ H v u Q I r hw
  cases v with
  | ref a =>
    obtain ⟨xs, hq | hq, hl, hw⟩ := hw
    . cases r
      obtain ⟨its, rv, ht, hz⟩ := I.list hq
      refine assign_Tuple_list (I.ok.hd hc) ht.isList (by simp [hn, <- hl, rv.length]) hst fun h' hx => ?_
      have I1 : Inv X pins σ H { s with heap := h' } := I.kept (t' := s.toks) fun b o e => hx b o (Nat.ne_of_lt (Heap.lt_size e)) e
      exact h pins _ σ H xs _ Q I1 (by simpa using rv) hw
    . exact pg_tup hc h hn hst pins s σ H _ u Q I r ⟨a, xs, rfl, hq, hl, hw⟩
  | _ => exact False.elim hw
theorem gm_seqs {n : Nat} {t : TGs} (h : GsMono t) : GMono (gSeqs K n t) := fun v _ _ _ _ k q => by
  cases v <;> first | exact False.elim q | (obtain ⟨xs, s, l, q⟩ := q; exact ⟨xs, s, l, h _ _ _ _ _ k q⟩)
end
theorem sqT_same {K : PySem.W.Frag} {H H' : Hp} {a : Addr} {xs : List V} (h : SqT K H a xs) (s : Same H H') : SqT K H' a xs := sqT_stay h fun o e => s a o e
mutual
theorem Rep.same {K : PySem.W.Frag} {H H' : Hp} (s : Same H H') : ∀ (d : Dv) (v : V), Rep K H d v -> Rep K H' d v
  | .non, v, h => by unfold Rep at *; exact h
  | .bl b, v, h => by unfold Rep at *; exact h
  | .int i, v, h => by unfold Rep at *; exact h
  | .str x, v, h => by unfold Rep at *; exact h
  | .tup ds, v, h => by
    unfold Rep at *
    obtain ⟨a, xs, e, h1, h2⟩ := h
    exact ⟨a, xs, e, sqT_same h1 s, Reps.same s ds xs h2⟩
  | .lst ds, v, h => by
    unfold Rep at *
    obtain ⟨a, xs, e, h1, h2⟩ := h
    exact ⟨a, xs, e, sqL_stay h1 fun o e => s a o e, Reps.same s ds xs h2⟩
theorem Reps.same {K : PySem.W.Frag} {H H' : Hp} (s : Same H H') : ∀ (ds : List Dv) (xs : List V), Reps K H ds xs -> Reps K H' ds xs
  | [], xs, h => by unfold Reps at *; exact h
  | d :: ds, xs, h => by
    unfold Reps at *
    obtain ⟨x, r, e, h1, h2⟩ := h
    exact ⟨x, r, e, Rep.same s d x h1, Reps.same s ds r h2⟩
end
mutual
def tupOnly : Dv -> Bool
  | .tup ds => tupsOnly ds
  | .lst _ => false
  | _ => true
def tupsOnly : List Dv -> Bool
  | [] => true
  | d :: ds => tupOnly d && tupsOnly ds
end
mutual
theorem Rep.frm {K : PySem.W.Frag} {H H' : Hp} {t : Addr} (s : Frm t H H') (ht : ∃ zs, H t = some (.lst zs)) : ∀ (d : Dv) (v : V), tupOnly d = true -> Rep K H d v -> Rep K H' d v
  | .non, v, _, h => by unfold Rep at *; exact h
  | .bl b, v, _, h => by unfold Rep at *; exact h
  | .int i, v, _, h => by unfold Rep at *; exact h
  | .str x, v, _, h => by unfold Rep at *; exact h
  | .tup ds, v, hd, h => by
    unfold tupOnly at hd
    unfold Rep at *
    obtain ⟨a, xs, e, h1, h2⟩ := h
    refine ⟨a, xs, e, ?_, Reps.frm s ht ds xs hd h2⟩
    obtain ⟨zs, hz⟩ := ht
    rcases h1 with (h1 | ⟨o, h1⟩) | h1
    . exact .inl (.inl (s a _ (fun q => by rw [q, hz] at h1; cases h1) h1))
    . exact .inl (.inr ⟨o, s a _ (fun q => by rw [q, hz] at h1; cases h1) h1⟩)
    . exact .inr h1
  | .lst ds, v, hd, h => by unfold tupOnly at hd; cases hd
theorem Reps.frm {K : PySem.W.Frag} {H H' : Hp} {t : Addr} (s : Frm t H H') (ht : ∃ zs, H t = some (.lst zs)) : ∀ (ds : List Dv) (xs : List V), tupsOnly ds = true -> Reps K H ds xs -> Reps K H' ds xs
  | [], xs, _, h => by unfold Reps at *; exact h
  | d :: ds, xs, hd, h => by
    unfold tupsOnly at hd
    rw [Bool.and_eq_true] at hd
    unfold Reps at *
    obtain ⟨x, r, e, h1, h2⟩ := h
    exact ⟨x, r, e, Rep.frm s ht d x hd.1 h1, Reps.frm s ht ds r hd.2 h2⟩
end
theorem if_val {c : TT} {t u : TS} {D : Ends} {σ : St} {H : Hp} (b : Bool) (hc : ∀ Q : Bool -> Hp -> Prop, Q b H -> c σ H Q) (h : if b = true then t D σ H else u D σ H) : tIfS c t u D σ H := hc _ h
theorem Tape.lst {K : PySem.W.Frag} {H : Hp} {t a : Addr} {ns : List Int} (T : Tape K H t a ns) : ∃ zs, H t = some (.lst zs) := by
  obtain ⟨i, r, c, _, _, h⟩ := T.at_
  exact ⟨_, h⟩
theorem rep_tup1 {K : PySem.W.Frag} {H : Hp} {p : Addr} {xs : List V} {ds : List Dv} (h : H p = some (.tup xs)) (r : Reps K H ds xs) : Rep K H (.tup ds) (.ref p) := by unfold Rep; exact ⟨p, xs, rfl, .of h, r⟩
theorem reps_nil {K : PySem.W.Frag} {H : Hp} : Reps K H [] [] := by unfold Reps; rfl
theorem reps_cons {K : PySem.W.Frag} {H : Hp} {d : Dv} {ds : List Dv} {x : V} {xs : List V} (h : Rep K H d x) (r : Reps K H ds xs) : Reps K H (d :: ds) (x :: xs) := by unfold Reps; exact ⟨x, xs, rfl, h, r⟩
theorem rep_int {K : PySem.W.Frag} {H : Hp} {x : Int} : Rep K H (.int x) (.int x) := by unfold Rep; rfl
theorem rep_bl {K : PySem.W.Frag} {H : Hp} {x : Bool} : Rep K H (.bl x) (.bl x) := by unfold Rep; rfl
theorem Reps.append {K : PySem.W.Frag} {H : Hp} : ∀ {ds es : List Dv} {xs ys : List V}, Reps K H ds xs -> Reps K H es ys -> Reps K H (ds ++ es) (xs ++ ys)
  | [], es, xs, ys, h, h' => by unfold Reps at h; subst h; exact h'
  | d :: ds, es, xs, ys, h, h' => by
    unfold Reps at h
    obtain ⟨x, r, rfl, h1, h2⟩ := h
    exact reps_cons h1 (Reps.append h2 h')
section
variable {κ : Type} [DecidableEq κ]
def valV (kvs : List (κ × V)) (k : κ) : Option V := (kvs.find? fun kv => decide (kv.1 = k)).map (·.2)
def putK (kvs : List (κ × V)) (k : κ) (v : V) : List (κ × V) :=
  if (kvs.any fun kv => decide (kv.1 = k)) = true then kvs.map (fun kv => if kv.1 = k then (kv.1, v) else kv) else kvs ++ [(k, v)]
theorem valV_pos {p : κ × V} {r : List (κ × V)} {k : κ} (e : p.1 = k) : valV (p :: r) k = some p.2 := by simp [valV, List.find?_cons, e]
theorem valV_neg {p : κ × V} {r : List (κ × V)} {k : κ} (e : ¬ p.1 = k) : valV (p :: r) k = valV r k := by simp [valV, List.find?_cons, e]
theorem valV_any (k : κ) : ∀ kvs : List (κ × V), (kvs.any fun kv => decide (kv.1 = k)) = (valV kvs k).isSome
  | [] => rfl
  | p :: r => by
    rw [List.any_cons]
    by_cases e : p.1 = k
    . simp only [valV_pos e, decide_eq_true e, Bool.true_or, Option.isSome_some]
    . rw [valV_neg e, decide_eq_false e, Bool.false_or]; exact valV_any k r
theorem valV_map (k j : κ) (y : V) : ∀ kvs : List (κ × V), valV (kvs.map fun kv => if kv.1 = k then (kv.1, y) else kv) j = (valV kvs j).map fun x => if j = k then y else x
  | [] => rfl
  | p :: r => by
    have ih := valV_map k j y r
    rw [List.map_cons]
    by_cases h : p.1 = k
    . rw [if_pos h]
      by_cases e : p.1 = j
      . rw [valV_pos (p := (p.1, y)) e, valV_pos e, Option.map_some, if_pos (e.symm.trans h)]
      . rw [valV_neg (p := (p.1, y)) e, valV_neg e, ih]
    . rw [if_neg h]
      by_cases e : p.1 = j
      . rw [valV_pos (p := p) e, valV_pos e, Option.map_some, if_neg (fun z => h (e.trans z))]
      . rw [valV_neg (p := p) e, valV_neg e, ih]
theorem valV_snoc (k j : κ) (y : V) : ∀ kvs : List (κ × V), valV kvs k = none -> valV (kvs ++ [(k, y)]) j = if j = k then some y else valV kvs j
  | [], _ => by
    by_cases e : k = j
    . rw [if_pos e.symm]; exact valV_pos (p := (k, y)) e
    . rw [if_neg (fun z => e z.symm)]; exact valV_neg (p := (k, y)) e
  | p :: r, hn => by
    rw [List.cons_append]
    have hk : ¬ p.1 = k := fun z => by rw [valV_pos z] at hn; cases hn
    rw [valV_neg hk] at hn
    have ih := valV_snoc k j y r hn
    by_cases e : p.1 = j
    . rw [valV_pos e, valV_pos e, if_neg (fun z => hk (e.trans z))]
    . rw [valV_neg e, valV_neg e, ih]
theorem valV_put (kvs : List (κ × V)) (k j : κ) (y : V) : valV (putK kvs k y) j = if j = k then some y else valV kvs j := by
  unfold putK
  by_cases a : (kvs.any fun kv => decide (kv.1 = k)) = true
  . rw [if_pos a, valV_map]
    rw [valV_any] at a
    by_cases e : j = k
    . obtain ⟨x, hx⟩ := Option.isSome_iff_exists.mp a
      rw [if_pos e, e, hx, Option.map_some, if_pos rfl]
    . rw [if_neg e]
      cases valV kvs j with
      | none => rfl
      | some x => rw [Option.map_some, if_neg e]
  . rw [if_neg a]
    refine valV_snoc k j y kvs ?_
    rw [valV_any] at a
    cases q : valV kvs k with
    | none => rfl
    | some x => rw [q] at a; exact (a rfl).elim
theorem length_putK (kvs : List (κ × V)) (k : κ) (v : V) : (putK kvs k v).length <= kvs.length + 1 := by
  unfold putK
  split
  . rw [List.length_map]; omega
  . rw [List.length_append, List.length_cons, List.length_nil]; omega
theorem RelO.isSome_eq {o : Option V} {u : Option Value} (r : RelO o u) : o.isSome = u.isSome := by
  cases o with
  | none => cases u with
    | none => rfl
    | some _ => exact (show False from r).elim
  | some _ => cases u with
    | none => exact (show False from r).elim
    | some _ => rfl
theorem RelO.getD {o : Option V} {u : Option Value} {d : V} {d' : Value} (r : RelO o u) (rd : RelV d d') : RelV (o.getD d) (u.getD d') := by
  cases o with
  | none => cases u with
    | none => exact rd
    | some _ => exact (show False from r).elim
  | some _ => cases u with
    | none => exact (show False from r).elim
    | some _ => exact r
theorem KV.val {kvs : List (κ × V)} {vs : List (κ × Value)} (r : KV kvs vs) (k : κ) : RelO (valV kvs k) (valueAt vs k) := by
  unfold KV at r
  induction r with
  | nil => exact True.intro
  | @cons p q ps qs h t ih =>
    obtain ⟨h1, h2⟩ := h
    by_cases e : p.1 = k
    . have e' : q.1 = k := h1.symm.trans e
      have b : valueAt (q :: qs) k = some q.2 := by simp [valueAt, List.find?_cons, e']
      rw [valV_pos e, b]; exact h2
    . have e' : ¬ q.1 = k := fun z => e (h1.trans z)
      have b : valueAt (q :: qs) k = valueAt qs k := by simp [valueAt, List.find?_cons, e']
      rw [valV_neg e, b]; exact ih
theorem KV.any {kvs : List (κ × V)} {vs : List (κ × Value)} (r : KV kvs vs) (k : κ) : (kvs.any fun kv => decide (kv.1 = k)) = vs.any fun kv => decide (kv.1 = k) := by
  unfold KV at r
  induction r with
  | nil => rfl
  | cons h t ih => rw [List.any_cons, List.any_cons, ih, h.1]
theorem KV.repl {kvs : List (κ × V)} {vs : List (κ × Value)} (r : KV kvs vs) (k : κ) {y : V} {u : Value} (ry : RelV y u) :
    KV (kvs.map fun kv => if kv.1 = k then (kv.1, y) else kv) (vs.map fun kv => if kv.1 = k then (kv.1, u) else kv) := by
  unfold KV at r ⊢
  induction r with
  | nil => exact .nil
  | @cons p q ps qs h t ih =>
    rw [List.map_cons, List.map_cons]
    refine .cons ?_ ih
    obtain ⟨h1, h2⟩ := h
    by_cases e : p.1 = k
    . rw [if_pos e, if_pos (h1.symm.trans e)]; exact ⟨h1, ry⟩
    . rw [if_neg e, if_neg (fun z => e (h1.trans z))]; exact ⟨h1, h2⟩
theorem KV.put {kvs : List (κ × V)} {vs : List (κ × Value)} (r : KV kvs vs) (k : κ) {y : V} {u : Value} (ry : RelV y u) : KV (putK kvs k y) (stored vs k u) := by
  unfold putK stored
  rw [r.any k]
  by_cases e : (vs.any fun kv => decide (kv.1 = k)) = true
  . rw [if_pos e, if_pos e]; exact r.repl k ry
  . rw [if_neg e, if_neg e]; exact Paired.snoc r ⟨rfl, ry⟩
theorem KV.length {kvs : List (κ × V)} {vs : List (κ × Value)} (r : KV kvs vs) : kvs.length = vs.length := Paired.length r
end
theorem kV_is {P : Program} {w : World} {k : Key} {u : Value} (r : RelV (kV k) u) : (mixKind P w).is k u = true := by
  cases k with
  | inl i => obtain ⟨t, e⟩ := (show ∃ t, u = Value.int i t from r); subst e; exact mixKind_int P w i t
  | inr x => obtain ⟨t, e⟩ := (show ∃ t, u = Value.str x t from r); subst e; exact mixKind_str P w x t
theorem items_are {P : Program} {w : World} : ∀ {ks : List Key} {us : List Value}, Vals (ks.map kV) us -> ItemsAre (mixKind P w) ks us
  | [], _, r => by rw [List.map_nil] at r; cases r; exact .nil
  | k :: ks, _, r => by
    rw [List.map_cons] at r
    cases r with
    | cons h t => exact .cons (kV_is h) (items_are t)
abbrev KT (H : Hp) : List (List Key × V) -> List (List Key × Addr × Value) -> Prop := Paired fun p q => p.1 = q.1 /\ H q.2.1 = some (.tup (p.1.map kV)) /\ RelV p.2 q.2.2
theorem KT.val {H : Hp} {kvs : List (List Key × V)} {xs : List (List Key × Addr × Value)} (r : KT H kvs xs) (k : List Key) : RelO (valV kvs k) ((atKey xs k).map (·.2)) := by
  induction r with
  | nil => exact True.intro
  | @cons p q ps qs h t ih =>
    obtain ⟨h1, _, h2⟩ := h
    by_cases e : p.1 = k
    . have e' : q.1 = k := h1.symm.trans e
      have b : atKey (q :: qs) k = some q.2 := by simp [atKey, List.find?_cons, e']
      rw [valV_pos e, b]; exact h2
    . have e' : ¬ q.1 = k := fun z => e (h1.trans z)
      have b : atKey (q :: qs) k = atKey qs k := by simp [atKey, List.find?_cons, e']
      rw [valV_neg e, b]; exact ih
theorem KT.repl {H : Hp} {kvs : List (List Key × V)} {xs : List (List Key × Addr × Value)} (r : KT H kvs xs) (k : List Key) {y : V} {u : Value} (ry : RelV y u) :
    KT H (kvs.map fun kv => if kv.1 = k then (kv.1, y) else kv) (xs.map (putAt k u)) := by
  induction r with
  | nil => exact .nil
  | @cons p q ps qs h t ih =>
    rw [List.map_cons, List.map_cons]
    refine .cons ?_ ih
    obtain ⟨h1, h2, h3⟩ := h
    unfold putAt
    by_cases e : p.1 = k
    . rw [if_pos e, if_pos (h1.symm.trans e)]; exact ⟨h1, h2, ry⟩
    . rw [if_neg e, if_neg (fun z => e (h1.trans z))]; exact ⟨h1, h2, h3⟩
theorem KT.put {H : Hp} {kvs : List (List Key × V)} {xs : List (List Key × Addr × Value)} (r : KT H kvs xs) (k : List Key) {b : Addr} {y : V} {u : Value} (hb : H b = some (.tup (k.map kV))) (ry : RelV y u) :
    KT H (putK kvs k y) (storedH xs k b u) := by
  have e : (kvs.any fun kv => decide (kv.1 = k)) = (atKey xs k).isSome := by
    rw [valV_any, (r.val k).isSome_eq, Option.isSome_map]
  unfold putK storedH
  rw [e]
  by_cases q : (atKey xs k).isSome = true
  . rw [if_pos q, if_pos q]; exact r.repl k ry
  . rw [if_neg q, if_neg q]; exact Paired.snoc r ⟨rfl, hb, ry⟩
theorem KT.keeps {H H' : Hp} {kvs : List (List Key × V)} {xs : List (List Key × Addr × Value)} (r : KT H kvs xs) (ht : ∀ b ys, H b = some (.tup ys) -> H' b = some (.tup ys)) : KT H' kvs xs :=
  Paired.mapP r fun _ _ z => ⟨z.1, ht _ _ z.2.1, z.2.2⟩
section
variable {P : Program} {w : World} {H : Hp} {h : Heap} {a : Addr}
theorem rd_of {u : HO} (ok : HOk P w H h) (e : Rd H a u) : ObjOk P w H h a u := e.ok ok
theorem dk_rd {kvs : List (Key × V)} (ok : HOk P w H h) (e : Rd H a (.dK kvs)) : kvs.length <= sizeLine /\ (a == sysModules) = false /\ ∃ vs, KV kvs vs /\ h.DictOf (mixKind P w) a vs :=
  show ObjOk P w H h a (.dK kvs) from rd_of ok e
theorem dk_of {kvs : List (Key × V)} (ok : HOk P w H h) (e : H a = some (.dK kvs)) : kvs.length <= sizeLine /\ (a == sysModules) = false /\ ∃ vs, KV kvs vs /\ h.DictOf (mixKind P w) a vs := dk_rd ok (.inl e)
theorem key_of {ks : List Key} (ok : HOk P w H h) (e : H a = some (.tup (ks.map kV))) : (tupleKind (mixKind P w)).is h ks a := by
  obtain ⟨_, its, r, o, h1, h2, ⟨n, h3⟩, _⟩ := (show ObjOk P w H h a (.tup (ks.map kV)) from ok a _ e)
  exact ⟨o, its.toArray, n, h1, h2, h3, by simpa using items_are r⟩
theorem dt_rd {kvs : List (List Key × V)} (ok : HOk P w H h) (e : Rd H a (.dT kvs)) : kvs.length <= sizeLine /\ (a == sysModules) = false /\
    ∃ xs, KT H kvs xs /\ h.DictOfH (tupleKind (mixKind P w)) a xs := by
  obtain ⟨z, y, xs, r, o, es, ep, h1, h2, h3, h4, h5⟩ := (show ObjOk P w H h a (.dT kvs) from rd_of ok e)
  refine ⟨z, y, xs, r, o, es, ep, h1, h2, h3, h4, fun x hx => ?_, h5⟩
  have all : ∀ {l : List (List Key × V)} {m : List (List Key × Addr × Value)}, KT H l m -> ∀ x ∈ m, (tupleKind (mixKind P w)).is h x.1 x.2.1 := by
    intro l m q
    induction q with
    | nil => intro x hx; exact nomatch hx
    | @cons p q ps qs hq t ih =>
      intro x hx
      rcases List.mem_cons.mp hx with e | hx
      . subst e
        exact key_of ok (by rw [<- hq.1]; exact hq.2.1)
      . exact ih x hx
  exact all r x hx
theorem dt_of {kvs : List (List Key × V)} (ok : HOk P w H h) (e : H a = some (.dT kvs)) : kvs.length <= sizeLine /\ (a == sysModules) = false /\
    ∃ xs, KT H kvs xs /\ h.DictOfH (tupleKind (mixKind P w)) a xs := dt_rd ok (.inl e)
end
def DGet (H : Hp) (a : Addr) (y : V) (r : Option V) : Prop :=
  (∃ kvs k, Rd H a (.dK kvs) /\ y = kV k /\ r = valV kvs k) \/ ∃ kvs k b, Rd H a (.dT kvs) /\ y = .ref b /\ H b = some (.tup (k.map kV)) /\ r = valV kvs k
def DPut (H : Hp) (a : Addr) (y v : V) (H' : Hp) : Prop :=
  (∃ kvs k, H a = some (.dK kvs) /\ y = kV k /\ kvs.length < sizeLine /\ H' = upd H a (.dK (putK kvs k v))) \/
  ∃ kvs k b, H a = some (.dT kvs) /\ y = .ref b /\ H b = some (.tup (k.map kV)) /\ kvs.length < sizeLine /\ H' = upd H a (.dT (putK kvs k v))
theorem DGet.k {H : Hp} {a : Addr} {kvs : List (Key × V)} {k : Key} (e : H a = some (.dK kvs)) : DGet H a (kV k) (valV kvs k) := .inl ⟨kvs, k, .inl e, rfl, rfl⟩
theorem DGet.t {H : Hp} {a b : Addr} {kvs : List (List Key × V)} {k : List Key} (e : H a = some (.dT kvs)) (eb : H b = some (.tup (k.map kV))) : DGet H a (.ref b) (valV kvs k) := .inr ⟨kvs, k, b, .inl e, rfl, eb, rfl⟩
theorem DPut.k {H : Hp} {a : Addr} {kvs : List (Key × V)} {k : Key} {v : V} (e : H a = some (.dK kvs)) (hl : kvs.length < sizeLine) : DPut H a (kV k) v (upd H a (.dK (putK kvs k v))) := .inl ⟨kvs, k, e, rfl, hl, rfl⟩
theorem DPut.t {H : Hp} {a b : Addr} {kvs : List (List Key × V)} {k : List Key} {v : V} (e : H a = some (.dT kvs)) (eb : H b = some (.tup (k.map kV))) (hl : kvs.length < sizeLine) :
    DPut H a (.ref b) v (upd H a (.dT (putK kvs k v))) := .inr ⟨kvs, k, b, e, rfl, eb, hl, rfl⟩
section
variable {X : Cx} {pins : List (Addr × Obj)} {σ : St} {H : Hp} {s : Shared} {a : Addr} {y v : V} {u r : Value} {o : Option V} {A : Around} {E : Value -> Shared -> Prop}
theorem Inv.big (I : Inv X pins σ H s) : sysModules < s.heap.objs.size := by
  have h : mainGlobals < s.heap.objs.size := (I.mod.glob.keeps I.bk).lt
  exact Nat.lt_trans (by decide) h
theorem d_getItem {Q : Value -> Shared -> Prop} (hu : A.units + 1 < cLine) (I : Inv X pins σ H s) (g : DGet H a y (some v)) (ry : RelV y u) (h : ∀ w' s', Inv X pins σ H s' -> RelV v w' -> Q w' s') :
    wpAny (model X.prog X.w) A (getItem (.ref a) u) Q E s := by
  rcases g with ⟨kvs, k, e, ey, l⟩ | ⟨kvs, k, b, e, ey, eb, l⟩
  . subst ey
    obtain ⟨z, hd, vs, rel, dd⟩ := dk_rd I.hok e
    obtain ⟨w', hw, rw'⟩ := RelO.some_of (v := v) (o := valueAt vs k) (by rw [l]; exact rel.val k)
    exact wpAny_getItem_of (kV_is ry) dd.mapOf hw (h w' _ (I.tok _) rw')
  . subst ey
    cases (show u = Value.ref b from ry)
    obtain ⟨z, hd, xs, rel, dd⟩ := dt_rd I.hok e
    obtain ⟨w', hw, rw'⟩ := RelO.some_of (v := v) (o := (atKey xs k).map (·.2)) (by rw [l]; exact rel.val k)
    obtain ⟨p, hp, hp2⟩ := Option.map_eq_some_iff.mp hw
    refine wpAny_getItem_heap (tupleKind_room_in1 hu) (key_of I.hok eb) dd hp ?_
    rw [hp2]
    exact h w' _ (I.tok _) rw'
theorem d_write {h' : Heap} {t' : Nat} {ob : HO} (I : Inv X pins σ H s) (mu : Mut (H a)) (hs : Heap.SameBut a s.heap h') (he : ∃ q, h'.get? a = some q) (new : ObjOk X.prog X.w (upd H a ob) h' a ob) :
    Inv X pins σ (upd H a ob) { s with heap := h', toks := t' } :=
  I.write (x := a) (e := a) mu (.inl rfl) (fun b q hb z => (hs.2 b hb).trans z) he new
theorem dk_new {P : Program} {w : World} {H' : Hp} {h' : Heap} {kvs : List (Key × V)} {vs : List (Key × Value)} (z : kvs.length <= sizeLine) (hd : (a == sysModules) = false) (rel : KV kvs vs) (dd : h'.DictOf (mixKind P w) a vs) :
    ObjOk P w H' h' a (.dK kvs) := ⟨z, hd, vs, rel, dd⟩
theorem d_setItem {H' : Hp} {Q : Unit -> Shared -> Prop} (hu : A.units + 1 < cLine) (I : Inv X pins σ H s) (g : DPut H a y v H') (ry : RelV y u) (rv : RelV v r) (h : ∀ s', Inv X pins σ H' s' -> Q () s') :
    wpAny (model X.prog X.w) A (setItem (.ref a) u r) Q E s := by
  rcases g with ⟨kvs, k, e, ey, l, eH⟩ | ⟨kvs, k, b, e, ey, eb, l, eH⟩
  . subst ey eH
    obtain ⟨z, hd, vs, rel, dd⟩ := dk_of I.hok e
    have hz : vs.length <= sizeLine := by rw [<- rel.length]; exact z
    have hl : (putK kvs k v).length <= sizeLine := by have := length_putK kvs k v; omega
    refine wpAny_setItem_pairs (hsz := hz) (kV_is ry) dd fun h' dd' hs => h _ ?_
    have he : ∃ q, h'.get? a = some q := let ⟨q, _, _, hq, _⟩ := dd'; ⟨q, hq⟩
    exact d_write I (by rw [e]; exact True.intro) hs he (dk_new hl hd (rel.put k rv) dd')
  . subst ey eH
    cases (show u = Value.ref b from ry)
    obtain ⟨z, hd, xs, rel, dd⟩ := dt_of I.hok e
    have hz : xs.length <= sizeLine := by rw [<- Paired.length rel]; exact z
    have hl : (putK kvs k v).length <= sizeLine := by have := length_putK kvs k v; omega
    refine wpAny_setItem_heap (hsz := hz) (tupleKind_room_in1 hu) (key_of I.hok eb) dd fun h' dd' hs => h _ ?_
    obtain ⟨q, es, ep, hq, h2, h3, h4, _, h5⟩ := dd'
    refine d_write I (by rw [e]; exact True.intro) hs ⟨q, hq⟩ ⟨hl, hd, _, (rel.put k eb rv).keeps fun c ys ec => ?_, q, es, ep, hq, h2, h3, h4, h5⟩
    rw [upd_ne (ne_of ec e (fun z => nomatch z))]
    exact ec
end
section
variable {X : Cx} {pins : List (Addr × Obj)} {σ : St} {H : Hp} {s : Shared} {a : Addr} {kvs : List (Key × V)} {k : Key} {u : Value} {A : Around} {E : Value -> Shared -> Prop}
end
def NoSl (i : Expr) : Prop := ∀ ov iv, subscripted i false ov iv = operate [ov, iv] (getItem ov iv)
theorem subD_of {prog : Program} {w : World} {A : Around} {E : Value -> Shared -> Prop} {s : Shared} {env : Env} {value slice : Expr} {pos : Pos} {T id : String} {Q : Value -> Shared -> Prop}
    (hl : typeLookup (.type T) "__getitem__" = pure (some (.builtin id))) (hs : NoSl slice)
    (h : wpAny (model prog w) A (eval value env) (fun o s₁ => wpAny (model prog w) A (eval slice env) (fun i s₂ => s₂.TypeIs o T /\ wpAny (model prog w) A (getItem o i) Q E s₂) E s₁) E s) :
    wpAny (model prog w) A (eval (.Subscript value slice pos) env) Q E s := by
  refine Subscript_ (wpAny_mono h (fun o s₁ h₁ => wpAny_mono h₁ (fun i s₂ h₂ => ?_) fun _ _ x => x) fun _ _ x => x)
  obtain ⟨hT, h₂⟩ := h₂
  unfold subscriptTail
  refine wpAny_bind ?_
  rw [getitemInPython_of_ne hT.not_modules]
  refine wpAny_bind (wpAny_specialOf hT hl ?_)
  have fin : wpAny (model prog w) A (subscripted slice false o i) (fun r s₃ => wpAny (model prog w) A (letTemporaryGo value o r >>= fun _ => pure r) Q E s₃) E s₂ := by
    rw [hs o i]
    exact wpAny_operating (wpAny_mono h₂ (fun r s₃ h₃ => wpAny_bind (wpAny_letTemporaryGo (wpAny_pure h₃))) fun _ _ x => x)
  first
    | exact wpAny_pure (wpAny_bind fin)
    | exact wpAny_bind (wpAny_pure (wpAny_bind fin))
    | exact wpAny_bind fin
theorem dict_typeIs {X : Cx} {pins : List (Addr × Obj)} {σ : St} {H : Hp} {s : Shared} {a : Addr} {y : V} {o : Option V} (I : Inv X pins σ H s) (g : DGet H a y o) : s.TypeIs (.ref a) "dict" := by
  rcases g with ⟨kvs, k, e, _, _⟩ | ⟨kvs, k, b, e, _, _, _⟩
  . obtain ⟨_, _, vs, _, dd⟩ := dk_rd I.hok e
    exact dd.typeIs
  . obtain ⟨_, _, xs, _, dd⟩ := dt_rd I.hok e
    exact dd.typeIs
def tDGet (td ty : TE) : TE := fun σ H Q => td σ H fun x H1 => ty σ H1 fun y H2 => ∃ a v, x = .ref a /\ DGet H2 a y (some v) /\ Q v H2
def sDPut (td ty tv : TE) : TS := fun D σ H => tv σ H fun v H1 => td σ H1 fun x H2 => ty σ H2 fun y H3 => ∃ a H4, x = .ref a /\ DPut H3 a y v H4 /\ D.nx σ H4
section
variable {X : Cx} {o i e value : Expr} {pos pos' tpos : Pos} {td ty tv : TE}
theorem pe_dget (hu : X.A.units + 1 < cLine) (ho : PE X o td) (hi : PE X i ty) (hs : NoSl i) : PE X (.Subscript o i pos) (tDGet td ty) := by
  intro pins s σ H Q I h
  refine subD_of PySem.F.slot_dict_getitem.lookup hs (thn (ho pins s σ H _ I h) fun u s1 ⟨x, H1, I1, rx, q1⟩ => thn (hi pins s1 σ H1 _ I1 q1) fun iv s2 ⟨y, H2, I2, ry, a, v, ex, g, q2⟩ => ?_)
  subst ex
  obtain rfl : u = Value.ref a := rx
  exact ⟨dict_typeIs I2 g, d_getItem hu I2 g ry fun w' s3 I3 rw' => ⟨v, H2, I3, rw', q2⟩⟩
theorem ps_dput (hu : X.A.units + 1 < cLine) (ho : PE X o td) (hi : PE X i ty) (hv : PE X value tv) (hs : swapsWith value (some (.Subscript o i pos')) pos.line X.env = pure false) :
    PS X (.Assign [.Subscript o i pos'] value pos) (sDPut td ty tv) := by
  intro pins s σ H D I h
  refine wpAny_Assign_Subscript (thn (hv pins s σ H _ I h) fun r s1 ⟨v, H1, I1, rv, q1⟩ => thn (ho pins s1 σ H1 _ I1 q1) fun u s2 ⟨x, H2, I2, rx, q2⟩ => thn (hi pins s2 σ H2 _ I2 q2) fun iv s3 ⟨y, H3, I3, ry, a, H4, ex, g, q3⟩ => ?_) hs
  subst ex
  obtain rfl : u = Value.ref a := rx
  exact d_setItem hu I3 g ry rv fun s4 I4 => ⟨σ, H4, I4, q3⟩
end
theorem dk_empty {P : Program} {w : World} {H : Hp} (h : Heap) (hb : sysModules < h.objs.size) : ObjOk P w H (h.push { cls := .type "dict", data := .dict #[] }) h.objs.size (.dK []) :=
  ⟨Nat.zero_le _, beq_eq_false_iff_ne.mpr (Ne.symm (Nat.ne_of_lt hb)), [], .nil, Heap.DictOf.new h⟩
def tDNewK : TE := fun _ H Q => ∀ p, H p = none -> Q (.ref p) (upd H p (.dK []))
section
variable {X : Cx} {pos : Pos}
theorem pe_dnewK : PE X (.Dict [] [] pos) tDNewK := fun pins s σ H Q I h =>
  wpAny_Dict_empty ⟨.ref s.heap.objs.size, _, I.laid (a := s.heap.objs.size) (o := .dK []) (t' := s.toks) (fun _ _ q => Heap.get?_push_of_some _ q) (Nat.le_refl _) (dk_empty s.heap I.big), rfl, h _ (I.hok.fresh (Nat.le_refl _))⟩
end
structure M1 (X : Cx) (o : Expr) (m : Str) (apos : Pos) (e : Expr) (cpos : Pos) : Prop where
  base : attributeBase o m X.env (eval o X.env) = eval o X.env
  few : ((backTo cpos (starEach [e] X.env)).all (fun x => !x.1) && (backToKw cpos (keywordEach [] X.env)).all (fun x => x.1.isSome)
    && decide (([e] : List Expr).length + ([] : List Keyword).length + (if ([] : List Keyword).isEmpty then 0 else 1) < 30)) = true
  line : (apos.endLine == cpos.line) = true
  trees : backTo cpos (starEach [e] X.env) = [(false, eval e X.env)]
structure M2 (X : Cx) (o : Expr) (m : Str) (apos : Pos) (e f : Expr) (cpos : Pos) : Prop where
  base : attributeBase o m X.env (eval o X.env) = eval o X.env
  few : ((backTo cpos (starEach [e, f] X.env)).all (fun x => !x.1) && (backToKw cpos (keywordEach [] X.env)).all (fun x => x.1.isSome)
    && decide (([e, f] : List Expr).length + ([] : List Keyword).length + (if ([] : List Keyword).isEmpty then 0 else 1) < 30)) = true
  line : (apos.endLine == cpos.line) = true
  trees : backTo cpos (starEach [e, f] X.env) = [(false, eval e X.env), (false, eval f X.env)]
def IsD (H : Hp) (a : Addr) : Prop := (∃ kvs, Rd H a (.dK kvs)) \/ ∃ kvs, Rd H a (.dT kvs)
theorem isD_at {X : Cx} {pins : List (Addr × Obj)} {σ : St} {H : Hp} {s : Shared} {a : Addr} (I : Inv X pins σ H s) (d : IsD H a) :
    s.TypeIs (.ref a) "dict" /\ (∀ b, Value.ref a = .ref b -> ∃ ob, s.heap.get? b = some ob /\ ob.dict = none) /\ (a == sysModules) = false := by
  rcases d with ⟨kvs, e⟩ | ⟨kvs, e⟩
  . obtain ⟨_, hd, vs, _, dd⟩ := dk_rd I.hok e
    refine ⟨dd.typeIs, fun b q => ?_, hd⟩
    cases q
    obtain ⟨ob, _, _, h1, h2, _⟩ := dd
    exact ⟨ob, h1, h2.2.1⟩
  . obtain ⟨_, hd, xs, _, dd⟩ := dt_rd I.hok e
    refine ⟨dd.typeIs, fun b q => ?_, hd⟩
    cases q
    obtain ⟨ob, _, _, h1, h2, _⟩ := dd
    exact ⟨ob, h1, h2.2.1⟩
section
variable {X : Cx} {pins : List (Addr × Obj)} {σ : St} {H : Hp} {s : Shared} {a : Addr} {y d : V} {u r : Value} {o : Option V} {A : Around} {E : Value -> Shared -> Prop}
theorem d_get2 {Q : Value -> Shared -> Prop} (hu : A.units + 1 < cLine) (I : Inv X pins σ H s) (g : DGet H a y o) (ry : RelV y u) (rd : RelV d r) (h : ∀ w' s', Inv X pins σ H s' -> RelV (o.getD d) w' -> Q w' s') :
    wpAny (model X.prog X.w) A (call (.builtin "dict.get") [.ref a, u, r]) Q E s := by
  rcases g with ⟨kvs, k, e, ey, l⟩ | ⟨kvs, k, b, e, ey, eb, l⟩
  . subst ey
    obtain ⟨z, hd, vs, rel, dd⟩ := dk_rd I.hok e
    refine call_meetsIn PySem.F.slot_dict_get dd.typeIs PySem.F.entry_dict_get (PySem.F.args_dict_get_3 _ _ _) (meets_dict_get_default (mixKind X.prog X.w) a (kV_is ry) hd r) ⟨_, dd.mapOf, h _ _ (I.tok _) ?_⟩
    rw [l]
    exact (rel.val k).getD rd
  . subst ey
    cases (show u = Value.ref b from ry)
    obtain ⟨z, hd, xs, rel, dd⟩ := dt_rd I.hok e
    refine call_meetsIn PySem.F.slot_dict_get dd.typeIs PySem.F.entry_dict_get (PySem.F.args_dict_get_3 _ _ _) (meetsH_dict_get_default (tupleKind (mixKind X.prog X.w)) a b hd r) ⟨tupleKind_room_in1 hu, k, xs, key_of I.hok eb, dd, h _ _ (I.tok _) ?_⟩
    rw [l]
    exact (rel.val k).getD rd
end
def tDGet2 (td ty tx : TE) : TE := fun σ H Q => td σ H fun x H1 => ∃ a, x = .ref a /\ IsD H1 a /\ ty σ H1 fun y H2 => tx σ H2 fun z H3 => ∃ o, DGet H3 a y o /\ Q (o.getD z) H3
section
variable {X : Cx} {o e f : Expr} {apos cpos : Pos} {td ty tx : TE}
theorem pe_dget2 (hu : X.A.units + 1 < cLine) (ho : PE X o td) (he : PE X e ty) (hf : PE X f tx) (m : M2 X o "get" apos e f cpos) : PE X (.Call (.Attribute o "get" apos) [e, f] [] cpos) (tDGet2 td ty tx) := by
  intro pins s σ H Q I h
  refine wpAny_Call_method m.base m.few m.line PySem.F.plainAttrs_dict PySem.F.slot_dict_get PySem.F.type_dict_get (thn (ho pins s σ H _ I h) fun u s1 ⟨x, H1, I1, rx, a, ex, d, q1⟩ => ?_)
  subst ex
  obtain rfl : u = Value.ref a := rx
  obtain ⟨t1, t2, _⟩ := isD_at I1 d
  refine ⟨t1, t2, ?_⟩
  rw [m.trees]
  refine Calls.callWith_builtin rfl (Calls.evalArgs_plain (Calls.spliced_cons (thn (he pins s1 σ H1 _ I1 q1) fun iv s2 ⟨y, H2, I2, ry, q2⟩ =>
    Calls.spliced_cons (thn (hf pins s2 σ H2 _ I2 q2) fun fv s3 ⟨z, H3, I3, rz, ov, g, q3⟩ => Calls.spliced_nil ?_))))
  exact d_get2 hu I3 g ry rz fun w' s4 I4 rw' => ⟨_, H3, I4, rw', q3⟩
end
section
variable {X : Cx} {pins : List (Addr × Obj)} {σ : St} {H : Hp} {s : Shared} {a : Addr} {kvs : List (Key × V)} {A : Around} {E : Value -> Shared -> Prop}
end
section
variable {X : Cx} {pins : List (Addr × Obj)} {σ : St} {H : Hp} {s : Shared} {a : Addr} {y : V} {u : Value} {A : Around} {E : Value -> Shared -> Prop}
end
theorem intOfSelf_bool {M : Model} {A : Around} {E : Value -> Shared -> Prop} {s : Shared} {b : Bool} {Q : Int -> Shared -> Prop} (h : Q (if b = true then 1 else 0) s) : wpAny M A (Builtin.Int.intOfSelf (.bool b)) Q E s := by
  unfold Builtin.Int.intOfSelf
  exact wpAny_pure h
theorem pyHash_bool {prog : Program} {w : World} {A : Around} {E : Value -> Shared -> Prop} {s : Shared} {b : Bool} {Q : Int -> Shared -> Prop} (h : Q (if b = true then 1 else 0) { s with toks := s.toks + 1 }) : wpAny (model prog w) A (pyHash (.bool b)) Q E s := by
  show wpAny _ _ (pyHashByItsType (.bool b)) _ _ _
  refine PySem.W.pyHash_slot (T := "bool") rfl PySem.F.slot_bool_hash PySem.F.entry_int_hash (PySem.F.args_int_hash_1 _) rfl (.inl rfl) ?_
  unfold Builtin.«int.__hash__» Builtin.Int.intSlot0
  refine wpAny_bind (wpAny_bind ?_)
  show wpAny _ _ (pure (Value.bool b, [])) _ _ _
  refine wpAny_pure (wpAny_bind (intOfSelf_bool (wpAny_pure ?_)))
  cases b with
  | true => exact wpAny_bind (wpAny_mkInt (wpAny_pure ⟨_, _, rfl, h⟩))
  | false => exact wpAny_bind (wpAny_mkInt (wpAny_pure ⟨_, _, rfl, h⟩))
def boolIs : Bool -> Value -> Bool
  | b, .bool c => b == c
  | _, _ => false
theorem boolIs_shape {b : Bool} {v : Value} (h : boolIs b v = true) : v = .bool b := by
  unfold boolIs at h
  split at h
  . rw [beq_iff_eq.mp h]
  . cases h
def boolKind (prog : Program) (w : World) : PySem.KeyKind prog w Bool where
  is := boolIs
  hash := fun b => if b = true then 1 else 0
  inj := fun v a b ha hb => by
    have e1 := boolIs_shape ha
    have e2 := boolIs_shape hb
    rw [e1] at e2
    injection e2
  byValue := fun k v h => by rw [boolIs_shape h]; rfl
  pyHash := fun hv h => by rw [boolIs_shape hv]; exact pyHash_bool h
  eqBool := fun {A E s a b u v Q} hu hv h => by
    rw [boolIs_shape hu, boolIs_shape hv]
    refine SeqAt.EqAt.bool_bool a b _ _ _ _ ?_
    have e : (a == b) = decide (a = b) := by cases a <;> cases b <;> rfl
    rw [e]; exact h
  «strs» := fun k x t v h => by
    have := boolIs_shape h
    cases this
section
variable {P : Program} {w : World} {H : Hp} {h : Heap} {a : Addr}
end
section
variable {X : Cx} {o i e value : Expr} {pos pos' tpos : Pos} {td ty tv : TE}
end
section
variable {X : Cx} {P : Program} {w : World} {o i : Expr} {pos : Pos} {td ty : TE}
end
section
variable {X : Cx} {K : PySem.W.Frag} {o : Expr} {to : TE} {apos cpos : Pos}
def mBitlen : V -> List V -> Hp -> VK -> Prop := fun x vs H Q => match x, vs with
  | .int i, [] => Q (.int (Builtin.Int.intBits i : Nat)) H
  | _, _ => False
theorem mm_bitlen : MtR X "int.bit_length" mBitlen := by
  intro pins s σ H x vs v us Q I rx rv q
  match x, vs, q with
  | .int i, [], q =>
    cases rv
    obtain ⟨t, rfl⟩ := (show ∃ t, v = Value.int i t from rx)
    exact PyProof.Rows.call_int_bit_length ⟨.int (Builtin.Int.intBits i : Nat), H, I.tok _, ⟨_, rfl⟩, q⟩
theorem kBitlen (ho : PE X o to) (hbase : attributeBase o "bit_length" X.env (eval o X.env) = eval o X.env := by rfl) (hline : (apos.endLine == cpos.line) = true := by rfl) (hK : X.K = K := by rfl) :
    PE X (.Call (.Attribute o "bit_length" apos) [] [] cpos) (tBM0 K "int" mBitlen to) := hK ▸ pe_bm0 PySem.F.plainAttrs_int PySem.F.slot_int_bit_length PySem.F.type_int_bit_length mm_bitlen ho hbase hline
end
theorem bm_bitlen : BMono mBitlen := fun x xs H Q Q' h q => by
  unfold mBitlen at *
  split at q
  . exact h _ _ q
  . exact q.elim
theorem em_bm0 {K : PySem.W.Frag} {T : String} {r : V -> List V -> Hp -> VK -> Prop} {to : TE} (h1 : EMono to) (h3 : BMono r) : EMono (tBM0 K T r to) := fun σ H Q Q' h q => h1 _ _ _ _ (fun _ _ q => ⟨q.1, h3 _ _ _ _ _ h q.2⟩) q
def Ite (K : PySem.W.Frag) (l : Addr) : It :=
  ⟨fun i H => ∃ xs x, SqL K H l xs /\ xs[i]? = some x,
   fun i H v H' => ∃ p x, H p = none /\ v = .ref p /\ H' = upd H p (.tup [.int i, x]) /\ ∀ xs, SqL K H l xs -> xs[i]? = some x,
   fun i H => ∃ xs, SqL K H l xs /\ xs.length <= i⟩
theorem turn_enum {P : Program} {w : World} {K : PySem.W.Frag} {es : List Expr} {kt : Nat} {tpos : Pos} {e it l : Addr} (hne : e ≠ it) :
    Turn P w K (.Tuple es kt tpos) (Ite K l) [e, it] e (fun i h => (∃ old, IsEnum h e it (i : Int) old) /\ h.IsListIter it l i) where
  mem := by simp
  obj := fun i h st b hb => by
    obtain ⟨⟨old, hz⟩, ⟨o1, e1, c1, d1⟩⟩ := st
    simp only [List.mem_cons, List.mem_nil_iff, or_false] at hb
    rcases hb with rfl | rfl
    . exact ⟨_, hz, fun v q => nomatch q⟩
    . exact ⟨o1, e1, fun v q => by rw [d1] at q; cases q⟩
  keep := fun i h h' ⟨⟨old, hz⟩, h1⟩ k => ⟨⟨old, k e (by simp) _ hz⟩, h1.at fun o q => k it (by simp) o q⟩
  item := by
    intro X hP hw hK hc i pins s σ H E I hf st hg
    subst hP hw hK
    obtain ⟨xs, x, hq1, hx⟩ := hg
    obtain ⟨⟨old, hz⟩, h1⟩ := st
    obtain ⟨its, rv, p, _⟩ := I.list hq1
    obtain ⟨u, hu, ru⟩ := rv.get hx
    refine wpAny_pyNext_enum_item hz h1 p.isList (x := u) (by simpa using hu) hne fun h' z1 z2 z3 z4 z5 => ?_
    refine ⟨_, rfl, ?_⟩
    have z5' : ∀ b v, b ∉ [e, it] -> s.heap.get? b = some v -> h'.get? b = some v := fun b v hb q => by
      simp only [List.mem_cons, List.mem_nil_iff, or_false, not_or] at hb
      exact z5 b v hb.1 hb.2 q
    have I1 : Inv X pins σ (upd H s.heap.objs.size (.tup [.int i, x])) { s with heap := h' } := by
      refine I.turnedNew (ch := [e, it]) (fun b hb => hf b hb) (Nat.le_refl _) z5' ?_ fun b hb => ?_
      . exact ⟨small_le (show 2 <= 1000 by decide), [.int i s.toks, u], .cons ⟨_, rfl⟩ (.cons ru .nil), ⟨_, z3, rfl, ⟨_, rfl⟩, rfl⟩⟩
      . simp only [List.mem_cons, List.mem_nil_iff, or_false] at hb
        rcases hb with rfl | rfl
        . exact ⟨_, z1⟩
        . obtain ⟨o, q, _⟩ := z2; exact ⟨o, q⟩
    refine wpAny_letOwnedTupleGo_enum (s := { s with heap := h', toks := s.toks + 1 }) z1 fun h'' z8 z9 => ?_
    have hfz := hf e (by simp)
    have neT : ∀ b, b ∈ [e, it] -> b ≠ s.heap.objs.size := fun b hb q => by
      have st' : ∃ o, s.heap.get? b = some o := by
        simp only [List.mem_cons, List.mem_nil_iff, or_false] at hb
        rcases hb with rfl | rfl
        . exact ⟨_, hz⟩
        . obtain ⟨o, q, _⟩ := h1; exact ⟨o, q⟩
      obtain ⟨o, ho⟩ := st'
      have := Heap.lt_size ho
      rw [q] at this
      exact Nat.lt_irrefl _ this
    have hTH : ∀ b ∈ [e, it], upd H s.heap.objs.size (.tup [.int i, x]) b = none := fun b hb => by rw [upd_ne (neT b hb)]; exact (hf b hb).1
    have I2 : Inv X pins σ (upd H s.heap.objs.size (.tup [.int i, x])) { s with heap := h'', toks := s.toks + 1 } :=
      I1.turned (t' := s.toks + 1) (fun b o hb q => (z9.2 b hb).trans q) (hTH e (by simp)) hfz.2.1 hfz.2.2.2.1 hfz.2.2.2.2.1 hfz.2.2.2.2.2
    have up : ∀ b o, b ≠ e -> h'.get? b = some o -> h''.get? b = some o := fun b o hb q => (z9.2 b hb).trans q
    exact ⟨.ref s.heap.objs.size, _, I2, rfl, ⟨_, x, I.hok.fresh (Nat.le_refl _), rfl, rfl, fun xs' h => by rw [I.list_inj h hq1]; exact hx⟩, ⟨⟨_, z8⟩, z2.at fun o q => up _ o (Ne.symm hne) q⟩, hTH⟩
  done := by
    intro X hP hw hK hc i pins s σ H E I hf st hg
    subst hP hw hK
    obtain ⟨xs, hq1, hl⟩ := hg
    obtain ⟨⟨old, hz⟩, h1⟩ := st
    obtain ⟨its, rv, p, _⟩ := I.list hq1
    have e1 := rv.length
    refine wpAny_pyNext_enum_end (I.ok.hd hc) hz h1 p.isList (by simp; omega) fun h' z7 => ⟨rfl, ?_⟩
    obtain ⟨f0, f1, f2, f3, f4, f5⟩ := hf it (by simp)
    exact I.turned (t' := s.toks) (fun b o hb q => z7 b o hb q) f0 f1 f3 f4 f5
  self := fun _ _ _ _ _ st h => wpAny_pyIter_enum st.1.choose_spec h
section
variable {X : Cx}
def iEnum (K : PySem.W.Frag) (ta : TA) : TI := fun σ H R => ta σ H fun vs H1 => match vs with
  | [.ref a] => (∃ xs, SqL K H1 a xs) /\ R (Ite K a) H1
  | _ => False
theorem kEnum {K : PySem.W.Frag} {a : Expr} {ta : TA} {p pos : Pos} {es : List Expr} {kt : Nat} {tpos : Pos} (hg : Gl X "enumerate") (hm : X.mg "enumerate" = none) (ha : PA X [a] ta)
    (hs : starEach [a] X.env = [(false, eval a X.env)] := by rfl) (hK : X.K = K := by rfl) :
    PI X (.Tuple es kt tpos) (.Call (.Name "enumerate" p) [a] [] pos) (iEnum K ta) := by
  subst hK
  intro pins s σ H R I h
  refine Call_ (ld_blt I hg hm (by rfl : bootBuiltins "enumerate" = some (.type "enumerate")) (PyProof.Rows.callWith_type1 (thn (ha pos pins s σ H _ I h) fun us s1 ⟨vs, H1, I1, r1, q1⟩ => ?_) (by rw [hs]; rfl) (by rfl)))
  match vs, q1, r1 with
  | [.ref l1], ⟨⟨xs, hx⟩, q⟩, r1 =>
  cases r1 with
  | cons r rr =>
  cases rr
  cases r
  obtain ⟨its, rv, p1, _⟩ := I1.list hx
  refine call_enumerate_list p1.isList fun h' z1 z2 z3 z4 => ?_
  refine wpAny_pyIter_enum (s := { s1 with heap := h' }) z1 ?_
  have I2 : Inv X pins σ H1 { s1 with heap := h' } := I1.kept (t' := s1.toks) z4
  refine ⟨_, _, _, _, H1, rfl, I2, turn_enum (l := l1) (it := s1.heap.objs.size) (Nat.ne_of_gt (Nat.lt_succ_self _)), ⟨⟨_, z1⟩, z2⟩, fun b hb => ?_, q⟩
  refine I1.fpOk ?_ (I1.hok.fresh ?_)
  all_goals
    simp only [List.mem_cons, List.mem_nil_iff, or_false] at hb
    rcases hb with rfl | rfl
    . exact Nat.le_succ _
    . exact Nat.le_refl _
theorem im_enum {K : PySem.W.Frag} {ta : TA} (h : AMono ta) : IMono (iEnum K ta) := fun σ H Q Q' k q => h _ _ _ _ (fun vs _ q => by
  match vs, q with
  | [.ref a], ⟨h1, q⟩ => exact ⟨h1, k _ _ q⟩) q
theorem comp_enum {K : PySem.W.Frag} {l : Addr} {xs : List V} {g : TG} {tc : TT} {te : TE} {σc : St} {Q : VK} {H : Hp} (Pv : Nat -> List V -> Hp -> Prop) (h0 : Pv 0 [] H) (hl : ∀ i zs H, i <= xs.length -> Pv i zs H -> SqL K H l xs) (hz : ∀ i zs H, i < xs.length -> Pv i zs H -> zs.length < sizeLine)
    (hs : ∀ i x zs H p, xs[i]? = some x -> Pv i zs H -> H p = none -> g (.ref p) σc (upd H p (.tup [.int (i : Nat), x])) fun σ2 H2 => tc σ2 H2 fun b H3 => if b = true then te σ2 H3 fun v H4 => Pv (i + 1) (zs ++ [v]) H4 else Pv (i + 1) zs H3)
    (hd : ∀ zs H, Pv xs.length zs H -> ∀ p, H p = none -> Q (.ref p) (upd H p (.lst zs))) : CompTurns (Ite K l) g tc te σc Q H := by
  refine ⟨fun i m zs H => m = xs.length - i /\ i <= xs.length /\ Pv i zs H, ⟨xs.length, by simp, Nat.zero_le _, h0⟩, ?_⟩
  rintro i m zs H ⟨rfl, hi, p⟩
  have q1 := hl i zs H hi p
  by_cases hlt : i < xs.length
  . refine .inr ⟨⟨xs, xs[i], q1, by simp [hlt]⟩, hz i zs H hlt p, Pv (i + 1), fun zs' H' p' => ⟨xs.length - (i + 1), by omega, rfl, hlt, p'⟩, ?_⟩
    rintro v H' ⟨pp, x, hp, rfl, rfl, k1⟩
    exact hs i x zs H pp (k1 xs q1) p hp
  . have e : i = xs.length := by omega
    subst e
    exact .inl ⟨⟨xs, q1, Nat.le_refl _⟩, hd zs H p⟩
end
theorem bits_pow : ∀ m < 7, (Builtin.Int.intBits ((2 ^ m : Nat) : Int) : Nat) = m + 1 := by decide +kernel
section
variable {X : Cx} {K : PySem.W.Frag}
end
section
variable {X : Cx} {pins : List (Addr × Obj)} {σ : St} {H : Hp} {s : Shared}
end
section
variable {X : Cx} {K : PySem.W.Frag}
end
open AutoSeq1 (wpAny_loadPart')
section
variable {prog : Program} {w : World} {A : Around} {E : Value -> Shared -> Prop} {s : Shared}
end
section
variable {X : Cx}
end
structure Feed (H : Hp) (t : Addr) : Prop where
  at_ : ∃ a b k c : Int, 0 <= a /\ H t = some (.lst [.int a, .int b, .int k, .int c])
theorem Feed.same {H H' : Hp} {t : Addr} (F : Feed H t) (h : Same H H') : Feed H' t := by
  obtain ⟨a, b, k, c, h1, h2⟩ := F.at_
  exact ⟨a, b, k, c, h1, h _ _ h2⟩
theorem Feed.upd {H : Hp} {t p : Addr} {o : HO} (F : Feed H t) (h : H p = none) : Feed (L2.upd H p o) t := F.same (Same.upd h)
theorem Feed.neT {H : Hp} {t p : Addr} (F : Feed H t) (hp : H p = none) : p ≠ t := fun e => by
  obtain ⟨a, b, k, c, _, h3⟩ := F.at_
  rw [e, h3] at hp; cases hp
theorem Feed.free {H H' : Hp} {t p : Addr} (F : Feed H' t) (h : Frm t H H') (hp : H' p = none) : H p = none := by
  cases e : H p with
  | none => rfl
  | some o =>
    by_cases hpt : p = t
    . subst hpt
      obtain ⟨a, b, k, c, _, h3⟩ := F.at_
      rw [h3] at hp; cases hp
    . rw [h p o hpt e] at hp; cases hp
def spDraw : Sp := fun vs H Q _ => match vs with
  | [.ref t, .int m] => Feed H t /\ okDiv m /\ ∀ d H', 0 <= d -> d < m -> Feed H' t -> (∀ b, b ≠ t -> H' b = H b) -> Q (.int d) H'
  | _ => False
theorem spDraw_mono : SpMono spDraw := fun vs H Q Q' E h q => by
  unfold spDraw at *
  split at q
  . exact ⟨q.1, q.2.1, fun d H' a b c e => h _ _ (q.2.2 d H' a b c e)⟩
  . exact q.elim
def spFeed (K : PySem.W.Frag) : Sp := fun vs H Q _ => match vs with
  | [.ref a, .int k] => ∃ ns : List Int, SqL K H a (ns.map V.int) /\ ∀ p H', H p = none -> Feed H' p -> (∀ b, b ≠ p -> H' b = H b) -> Q (.ref p) H'
  | _ => False
theorem and_half (a b : Nat) : (a &&& b) / 2 = a / 2 &&& b / 2 := by
  have := Nat.and_div_two_pow (a := a) (b := b) (n := 1)
  simpa using this
theorem xor_half (a b : Nat) : (a ^^^ b) / 2 = a / 2 ^^^ b / 2 := by
  have := Nat.xor_div_two_pow (a := a) (b := b) (n := 1)
  simpa using this
theorem low3 (a b : Nat) : (a &&& b) % 2 = a % 2 * (b % 2) /\ (a ^^^ b) % 2 = (a % 2 + b % 2) % 2 /\ (a ||| b) % 2 = a % 2 + b % 2 - a % 2 * (b % 2) := by
  have h1 := Nat.and_mod_two_pow (a := a) (b := b) (n := 1)
  have h2 := Nat.xor_mod_two_pow (a := a) (b := b) (n := 1)
  have h3 := Nat.or_mod_two_pow (a := a) (b := b) (n := 1)
  rw [Nat.pow_one] at h1 h2 h3
  rw [h1, h2, h3]
  have ha : a % 2 = 0 \/ a % 2 = 1 := by omega
  have hb : b % 2 = 0 \/ b % 2 = 1 := by omega
  rcases ha with ha | ha <;> rcases hb with hb | hb <;> rw [ha, hb] <;> decide
theorem xor_and : ∀ a b : Nat, (a ^^^ b) + 2 * (a &&& b) = a + b := by
  intro a
  induction a using Nat.strongRecOn with
  | ind a ih =>
    intro b
    by_cases h0 : a = 0
    . subst h0; simp
    . have i := ih (a / 2) (by omega) (b / 2)
      rw [<- xor_half, <- and_half] at i
      obtain ⟨l1, l2, _⟩ := low3 a b
      have ha : a % 2 = 0 \/ a % 2 = 1 := by omega
      have hb : b % 2 = 0 \/ b % 2 = 1 := by omega
      rcases ha with ha | ha <;> rcases hb with hb | hb <;> rw [ha, hb] at l1 l2 <;> omega
theorem bitAnd_nat (a b : Nat) : Builtin.bitAnd (a : Int) (b : Int) = ((a &&& b : Nat) : Int) := by
  unfold Builtin.bitAnd
  rw [decide_eq_true (Int.natCast_nonneg a), decide_eq_true (Int.natCast_nonneg b)]
  rfl
theorem bitXor_nat (a b : Nat) : Builtin.bitXor (a : Int) (b : Int) = ((a ^^^ b : Nat) : Int) := by
  rw [PyProof.Rows.bitXor_and, bitAnd_nat]
  have := xor_and a b
  omega
def iL (xs : List Nat) : List V := xs.map fun i => V.int (i : Nat)
theorem iL_len (xs : List Nat) : (iL xs).length = xs.length := by unfold iL; rw [List.length_map]
theorem iL_app (xs ys : List Nat) : iL (xs ++ ys) = iL xs ++ iL ys := by unfold iL; rw [List.map_append]
theorem iL_at {xs : List Nat} {i : Nat} {v : V} (h : (iL xs)[i]? = some v) : ∃ x, xs[i]? = some x /\ x ∈ xs /\ v = .int (x : Nat) := by
  unfold iL at h
  rw [List.getElem?_map] at h
  cases e : xs[i]? with
  | none => rw [e] at h; cases h
  | some x => rw [e] at h; exact ⟨x, rfl, List.mem_of_getElem? e, (Option.some.inj h).symm⟩
theorem same_but {H0 H H' : Hp} {t : Addr} (s : Same H0 H) (ht : H0 t = none) (f : ∀ b, b ≠ t -> H' b = H b) : Same H0 H' := fun b o e => by
  rw [f b (ne_of_none e ht)]; exact s b o e
theorem same_frm {H0 H H' : Hp} {t : Addr} (s : Same H0 H) (ht : H0 t = none) (f : Frm t H H') : Same H0 H' := fun b o e => f b o (ne_of_none e ht) (s b o e)
theorem same_put {H0 H : Hp} {t : Addr} {o : HO} (s : Same H0 H) (ht : H0 t = none) : Same H0 (upd H t o) := fun b u e => by
  rw [upd_ne (ne_of_none e ht)]; exact s b u e
theorem Same.sqT {K : PySem.W.Frag} {H H' : Hp} {a : Addr} {xs : List V} (e : Same H H') (h : SqT K H a xs) : SqT K H' a xs := sqT_stay h (fun o k => e _ _ k)
theorem Same.sqL {K : PySem.W.Frag} {H H' : Hp} {a : Addr} {xs : List V} (e : Same H H') (h : SqL K H a xs) : SqL K H' a xs := sqL_stay h (fun o k => e _ _ k)
def sumTo (f : Nat -> Int) : Nat -> Int
  | 0 => 0
  | n + 1 => sumTo f n + f n
theorem sumTo_congr {f g : Nat -> Int} : ∀ {n : Nat}, (∀ j, j < n -> f j = g j) -> sumTo f n = sumTo g n
  | 0, _ => rfl
  | n + 1, h => by
    show sumTo f n + f n = sumTo g n + g n
    rw [sumTo_congr fun j hj => h j (Nat.lt_succ_of_lt hj), h n (Nat.lt_succ_self n)]
theorem sumTo_add (f : Nat -> Int) (a : Nat) : ∀ b, sumTo f (a + b) = sumTo f a + sumTo (fun j => f (a + j)) b
  | 0 => by show sumTo f a = sumTo f a + 0; omega
  | b + 1 => by
    show sumTo f (a + b) + f (a + b) = sumTo f a + (sumTo (fun j => f (a + j)) b + f (a + b))
    rw [sumTo_add f a b]; omega
theorem sumTo_plus (f g : Nat -> Int) : ∀ n, sumTo f n + sumTo g n = sumTo (fun j => f j + g j) n
  | 0 => rfl
  | n + 1 => by
    show sumTo f n + f n + (sumTo g n + g n) = sumTo (fun j => f j + g j) n + (f n + g n)
    rw [<- sumTo_plus f g n]; omega
theorem sumTo_minus (f g : Nat -> Int) : ∀ n, sumTo f n - sumTo g n = sumTo (fun j => f j - g j) n
  | 0 => rfl
  | n + 1 => by
    show sumTo f n + f n - (sumTo g n + g n) = sumTo (fun j => f j - g j) n + (f n - g n)
    rw [<- sumTo_minus f g n]; omega
theorem sumTo_mul (c : Int) (f : Nat -> Int) : ∀ n, c * sumTo f n = sumTo (fun j => c * f j) n
  | 0 => by show c * 0 = 0; omega
  | n + 1 => by
    show c * (sumTo f n + f n) = sumTo (fun j => c * f j) n + c * f n
    rw [<- sumTo_mul c f n, Int.mul_add]
theorem sumTo_mulr (c : Int) (f : Nat -> Int) (n : Nat) : sumTo f n * c = sumTo (fun j => f j * c) n := by
  rw [Int.mul_comm, sumTo_mul]
  exact sumTo_congr fun j _ => Int.mul_comm _ _
theorem sumTo_zero : ∀ n, sumTo (fun _ => 0) n = 0
  | 0 => rfl
  | n + 1 => by show sumTo (fun _ => 0) n + 0 = 0; rw [sumTo_zero n]; rfl
theorem sumTo_const (c : Int) : ∀ n, sumTo (fun _ => c) n = n * c
  | 0 => by show (0 : Int) = ((0 : Nat) : Int) * c; simp
  | n + 1 => by
    show sumTo (fun _ => c) n + c = _
    rw [sumTo_const c n, Int.natCast_add, Int.add_mul]; simp
theorem sumTo_swap (f : Nat -> Nat -> Int) (m : Nat) : ∀ n, sumTo (fun i => sumTo (fun j => f i j) m) n = sumTo (fun j => sumTo (fun i => f i j) n) m
  | 0 => by show (0 : Int) = sumTo (fun _ => 0) m; rw [sumTo_zero]
  | n + 1 => by
    show sumTo (fun i => sumTo (fun j => f i j) m) n + sumTo (fun j => f n j) m = sumTo (fun j => sumTo (fun i => f i j) n + f n j) m
    rw [sumTo_swap f m n, sumTo_plus]
theorem sumTo_pick (g : Nat -> Int) (x : Nat) : ∀ n, sumTo (fun y => if x = y then g y else 0) n = if x < n then g x else 0
  | 0 => by simp [sumTo]
  | n + 1 => by
    show sumTo (fun y => if x = y then g y else 0) n + (if x = n then g n else 0) = _
    rw [sumTo_pick g x n]
    by_cases h : x = n
    . subst h; rw [if_neg (by omega), if_pos rfl, if_pos (by omega)]; omega
    . by_cases h2 : x < n
      . rw [if_pos h2, if_neg h, if_pos (by omega)]; omega
      . rw [if_neg h2, if_neg h, if_neg (by omega)]; rfl
theorem sumTo_two (f : Nat -> Int) : ∀ m, sumTo f (2 * m) = sumTo (fun j => f (2 * j) + f (2 * j + 1)) m
  | 0 => rfl
  | m + 1 => by
    show sumTo f (2 * m) + f (2 * m) + f (2 * m + 1) = sumTo (fun j => f (2 * j) + f (2 * j + 1)) m + (f (2 * m) + f (2 * m + 1))
    rw [sumTo_two f m]; omega
def chi : Nat -> Nat -> Nat -> Int
  | 0, _, _ => 1
  | n + 1, a, b => (if a % 2 = 1 /\ b % 2 = 1 then -1 else 1) * chi n (a / 2) (b / 2)
theorem chi_comm : ∀ n a b, chi n a b = chi n b a
  | 0, _, _ => rfl
  | n + 1, a, b => by
    show _ * chi n (a / 2) (b / 2) = _ * chi n (b / 2) (a / 2)
    rw [chi_comm n]
    congr 1
    by_cases h : a % 2 = 1 /\ b % 2 = 1
    . rw [if_pos h, if_pos ⟨h.2, h.1⟩]
    . rw [if_neg h, if_neg fun z => h ⟨z.2, z.1⟩]
theorem chi_xor : ∀ n a b c, chi n a (b ^^^ c) = chi n a b * chi n a c
  | 0, _, _, _ => rfl
  | n + 1, a, b, c => by
    show _ * chi n (a / 2) ((b ^^^ c) / 2) = (_ * chi n (a / 2) (b / 2)) * (_ * chi n (a / 2) (c / 2))
    rw [xor_half, chi_xor n]
    generalize chi n (a / 2) (b / 2) = x
    generalize chi n (a / 2) (c / 2) = y
    have e := (low3 b c).2.1
    have ha : a % 2 = 0 \/ a % 2 = 1 := by omega
    have hb : b % 2 = 0 \/ b % 2 = 1 := by omega
    have hc : c % 2 = 0 \/ c % 2 = 1 := by omega
    rw [e]
    rcases ha with ha | ha <;> rcases hb with hb | hb <;> rcases hc with hc | hc <;> rw [ha, hb, hc] <;> simp [Int.mul_neg, Int.neg_mul]
theorem chi_one : ∀ n a b, chi n a b = 1 \/ chi n a b = -1
  | 0, _, _ => .inl rfl
  | n + 1, a, b => by
    show _ * chi n (a / 2) (b / 2) = 1 \/ _ * chi n (a / 2) (b / 2) = -1
    rcases chi_one n (a / 2) (b / 2) with h | h <;> rw [h] <;> by_cases g : a % 2 = 1 /\ b % 2 = 1 <;> simp [g]
theorem chi_sq (n a b : Nat) : chi n a b * chi n a b = 1 := by
  rcases chi_one n a b with h | h <;> rw [h] <;> rfl
theorem chi_zero : ∀ n a, chi n a 0 = 1
  | 0, _ => rfl
  | n + 1, a => by
    show (if a % 2 = 1 /\ 0 % 2 = 1 then -1 else 1) * chi n (a / 2) (0 / 2) = 1
    rw [if_neg (by omega), Nat.zero_div, chi_zero n]; rfl
theorem chi_sum : ∀ n b, b < 2 ^ n -> sumTo (fun a => chi n a b) (2 ^ n) = if b = 0 then ((2 ^ n : Nat) : Int) else 0
  | 0, b, h => by
    have : b = 0 := by simpa using h
    subst this; rfl
  | n + 1, b, h => by
    rw [Nat.pow_succ, Nat.mul_comm, sumTo_two]
    have e : ∀ j, chi (n + 1) (2 * j) b + chi (n + 1) (2 * j + 1) b = (if b % 2 = 1 then 0 else 2) * chi n j (b / 2) := fun j => by
      show (if 2 * j % 2 = 1 /\ b % 2 = 1 then -1 else 1) * chi n (2 * j / 2) (b / 2) + (if (2 * j + 1) % 2 = 1 /\ b % 2 = 1 then -1 else 1) * chi n ((2 * j + 1) / 2) (b / 2) = _
      rw [show 2 * j / 2 = j by omega, show (2 * j + 1) / 2 = j by omega, if_neg (by omega)]
      by_cases hb : b % 2 = 1
      . rw [if_pos ⟨by omega, hb⟩, if_pos hb]; omega
      . rw [if_neg (fun z => hb z.2), if_neg hb]; omega
    rw [sumTo_congr (g := fun j => (if b % 2 = 1 then 0 else 2) * chi n j (b / 2)) fun j _ => e j, <- sumTo_mul, chi_sum n (b / 2) (by rw [Nat.pow_succ] at h; omega)]
    by_cases hb : b % 2 = 1
    . rw [if_pos hb, Int.zero_mul, if_neg (by omega)]
    . rw [if_neg hb]
      by_cases h0 : b = 0
      . subst h0; simp [Int.natCast_mul]
      . rw [if_neg (by omega), if_neg h0]; rfl
theorem xor_eq_zero {a b : Nat} : a ^^^ b = 0 ↔ a = b := by
  constructor
  . intro h
    have := congrArg (fun z => z ^^^ b) h
    simpa [Nat.xor_assoc] using this
  . intro h; subst h; exact Nat.xor_self a
def wt (n : Nat) (v : Nat -> Int) (s : Nat) : Int := sumTo (fun p => chi n s p * v p) (2 ^ n)
theorem wt_mul (n : Nat) (a b : Nat -> Int) : sumTo (fun s => wt n a s * wt n b s) (2 ^ n) = ((2 ^ n : Nat) : Int) * sumTo (fun x => a x * b x) (2 ^ n) := by
  have e1 : ∀ s, wt n a s * wt n b s = sumTo (fun x => sumTo (fun y => (a x * b y) * chi n s (x ^^^ y)) (2 ^ n)) (2 ^ n) := fun s => by
    unfold wt
    rw [sumTo_mulr]
    refine sumTo_congr fun x _ => ?_
    rw [sumTo_mul]
    refine sumTo_congr fun y _ => ?_
    rw [chi_xor]
    ac_rfl
  rw [sumTo_congr fun s _ => e1 s, sumTo_swap, sumTo_mul]
  refine sumTo_congr fun x hx => ?_
  rw [sumTo_swap]
  have e2 : ∀ y, y < 2 ^ n -> sumTo (fun s => a x * b y * chi n s (x ^^^ y)) (2 ^ n) = if x = y then ((2 ^ n : Nat) : Int) * (a x * b y) else 0 := fun y hy => by
    rw [<- sumTo_mul, chi_sum n _ (Nat.xor_lt_two_pow hx hy)]
    by_cases h : x = y
    . rw [if_pos (xor_eq_zero.mpr h), if_pos h, Int.mul_comm]
    . rw [if_neg (fun z => h (xor_eq_zero.mp z)), if_neg h, Int.mul_zero]
  rw [sumTo_congr e2, sumTo_pick (fun y => ((2 ^ n : Nat) : Int) * (a x * b y)), if_pos hx]
theorem sumTo_xor : ∀ (n : Nat) (f : Nat -> Int) (t : Nat), t < 2 ^ n -> sumTo (fun x => f (x ^^^ t)) (2 ^ n) = sumTo f (2 ^ n)
  | 0, f, t, h => by
    have : t = 0 := by simpa using h
    subst this
    exact sumTo_congr fun j _ => by rw [Nat.xor_zero]
  | n + 1, f, t, h => by
    rw [Nat.pow_succ, Nat.mul_comm, sumTo_two, sumTo_two]
    have ih := sumTo_xor n (fun j => f (2 * j) + f (2 * j + 1)) (t / 2) (by rw [Nat.pow_succ] at h; omega)
    rw [<- ih]
    refine sumTo_congr fun j _ => ?_
    have k1 := xor_half (2 * j) t
    have k2 := xor_half (2 * j + 1) t
    have l1 := (low3 (2 * j) t).2.1
    have l2 := (low3 (2 * j + 1) t).2.1
    rw [show 2 * j / 2 = j by omega] at k1
    rw [show (2 * j + 1) / 2 = j by omega] at k2
    have ht : t % 2 = 0 \/ t % 2 = 1 := by omega
    rcases ht with ht | ht
    . have e1 : 2 * j ^^^ t = 2 * (j ^^^ t / 2) := by omega
      have e2 : 2 * j + 1 ^^^ t = 2 * (j ^^^ t / 2) + 1 := by omega
      rw [e1, e2]
    . have e1 : 2 * j ^^^ t = 2 * (j ^^^ t / 2) + 1 := by omega
      have e2 : 2 * j + 1 ^^^ t = 2 * (j ^^^ t / 2) := by omega
      rw [e1, e2, Int.add_comm]
theorem wt_shift (n : Nat) (v : Nat -> Int) (s t : Nat) (ht : t < 2 ^ n) : chi n s t * wt n v s = wt n (fun x => v (x ^^^ t)) s := by
  unfold wt
  rw [<- sumTo_xor n (fun p => chi n s p * v p) t ht, sumTo_mul]
  refine sumTo_congr fun x _ => ?_
  rw [chi_xor, <- Int.mul_assoc, Int.mul_comm (chi n s x), <- Int.mul_assoc, chi_sq, Int.one_mul]
theorem wt_auto (n : Nat) (v : Nat -> Int) (t : Nat) (ht : t < 2 ^ n) : sumTo (fun s => chi n s t * (wt n v s * wt n v s)) (2 ^ n) = ((2 ^ n : Nat) : Int) * sumTo (fun x => v (x ^^^ t) * v x) (2 ^ n) := by
  rw [<- wt_mul n (fun x => v (x ^^^ t)) v]
  refine sumTo_congr fun s _ => ?_
  rw [<- Int.mul_assoc, wt_shift n v s t ht]
theorem chi_top : ∀ {s b r c j : Nat}, r < 2 ^ s -> j < 2 ^ s -> b < 2 -> c < 2 -> chi (s + 1) (b * 2 ^ s + r) (c * 2 ^ s + j) = chi s r j * (if b = 1 /\ c = 1 then -1 else 1)
  | 0, b, r, c, j, hr, hj, hb, hc => by
    have r0 : r = 0 := by simpa using hr
    have j0 : j = 0 := by simpa using hj
    subst r0 j0
    have eb : b = 0 \/ b = 1 := by omega
    have ec : c = 0 \/ c = 1 := by omega
    rcases eb with rfl | rfl <;> rcases ec with rfl | rfl <;> rfl
  | s + 1, b, r, c, j, hr, hj, hb, hc => by
    have d1 : ∀ x : Nat, x * 2 ^ (s + 1) = 2 * (x * 2 ^ s) := fun x => by rw [Nat.pow_succ, Nat.mul_comm (2 ^ s), <- Nat.mul_assoc, Nat.mul_comm x 2, Nat.mul_assoc]
    have k1 : (b * 2 ^ (s + 1) + r) % 2 = r % 2 := by rw [d1]; omega
    have k2 : (c * 2 ^ (s + 1) + j) % 2 = j % 2 := by rw [d1]; omega
    have k3 : (b * 2 ^ (s + 1) + r) / 2 = b * 2 ^ s + r / 2 := by rw [d1]; omega
    have k4 : (c * 2 ^ (s + 1) + j) / 2 = c * 2 ^ s + j / 2 := by rw [d1]; omega
    have e1 : chi (s + 1 + 1) (b * 2 ^ (s + 1) + r) (c * 2 ^ (s + 1) + j) = (if r % 2 = 1 /\ j % 2 = 1 then -1 else 1) * chi (s + 1) (b * 2 ^ s + r / 2) (c * 2 ^ s + j / 2) := by
      show (if (b * 2 ^ (s + 1) + r) % 2 = 1 /\ (c * 2 ^ (s + 1) + j) % 2 = 1 then -1 else 1) * chi (s + 1) ((b * 2 ^ (s + 1) + r) / 2) ((c * 2 ^ (s + 1) + j) / 2) = _
      rw [k1, k2, k3, k4]
    rw [e1, chi_top (s := s) (by rw [Nat.pow_succ] at hr; omega) (by rw [Nat.pow_succ] at hj; omega) hb hc, <- Int.mul_assoc]
    rfl
def crossF (v : Nat -> Int) (s k : Nat) : Int := if k / s % 2 = 1 then v (k - s) - v k else v k + v (k + s)
def hadF (v : Nat -> Int) : Nat -> Nat -> Int
  | 0 => v
  | s + 1 => crossF (hadF v s) (2 ^ s)
def hs (v : Nat -> Int) (s k : Nat) : Int := sumTo (fun j => chi s (k % 2 ^ s) j * v (k / 2 ^ s * 2 ^ s + j)) (2 ^ s)
theorem hs_at {v : Nat -> Int} {s q r : Nat} (h : r < 2 ^ s) : hs v s (q * 2 ^ s + r) = sumTo (fun j => chi s r j * v (q * 2 ^ s + j)) (2 ^ s) := by
  unfold hs
  have e1 : (q * 2 ^ s + r) % 2 ^ s = r := by rw [Nat.mul_comm, Nat.mul_add_mod, Nat.mod_eq_of_lt h]
  have e2 : (q * 2 ^ s + r) / 2 ^ s = q := by rw [Nat.mul_comm, Nat.mul_add_div (Nat.two_pow_pos s), Nat.div_eq_of_lt h, Nat.add_zero]
  rw [e1, e2]
theorem had_step {v : Nat -> Int} {s : Nat} (q b r : Nat) (hr : r < 2 ^ s) (hb : b < 2) :
    crossF (hs v s) (2 ^ s) (q * 2 ^ (s + 1) + (b * 2 ^ s + r)) = hs v (s + 1) (q * 2 ^ (s + 1) + (b * 2 ^ s + r)) := by
  have hB : 2 ^ (s + 1) = 2 ^ s + 2 ^ s := by rw [Nat.pow_succ]; omega
  have hrr : b * 2 ^ s + r < 2 ^ (s + 1) := by
    rw [hB]
    have : b = 0 \/ b = 1 := by omega
    rcases this with e | e <;> subst e <;> omega
  rw [hs_at hrr, hB, sumTo_add]
  have low : ∀ j, j < 2 ^ s -> chi (s + 1) (b * 2 ^ s + r) j = chi s r j := fun j hj => by
    have := chi_top (c := 0) hr hj hb (by decide)
    rw [Nat.zero_mul, Nat.zero_add, if_neg (by omega), Int.mul_one] at this
    exact this
  have high : ∀ j, j < 2 ^ s -> chi (s + 1) (b * 2 ^ s + r) (2 ^ s + j) = chi s r j * (if b = 1 then -1 else 1) := fun j hj => by
    have := chi_top (c := 1) hr hj hb (by decide)
    rw [Nat.one_mul] at this
    rw [this]
    simp
  have e0 : q * (2 ^ s + 2 ^ s) + (b * 2 ^ s + r) = (2 * q + b) * 2 ^ s + r := by
    rw [Nat.add_mul, Nat.mul_comm 2 q, Nat.mul_assoc, Nat.two_mul]; omega
  have eq0 : q * (2 ^ s + 2 ^ s) = (2 * q) * 2 ^ s := by rw [Nat.mul_comm 2 q, Nat.mul_assoc, Nat.two_mul]
  have eq1 : q * (2 ^ s + 2 ^ s) + 2 ^ s = (2 * q + 1) * 2 ^ s := by rw [Nat.add_mul, Nat.one_mul, eq0]
  unfold crossF
  rw [e0]
  have et : ((2 * q + b) * 2 ^ s + r) / 2 ^ s % 2 = b := by
    rw [Nat.mul_comm, Nat.mul_add_div (Nat.two_pow_pos s), Nat.div_eq_of_lt hr]; omega
  rw [et]
  have : b = 0 \/ b = 1 := by omega
  rcases this with e | e <;> subst e
  . rw [if_neg (by decide)]
    have ek : (2 * q + 0) * 2 ^ s + r + 2 ^ s = (2 * q + 1) * 2 ^ s + r := by rw [Nat.add_zero, Nat.add_mul, Nat.one_mul]; omega
    rw [ek, hs_at hr, hs_at hr]
    congr 1
    . refine sumTo_congr fun j hj => ?_
      rw [low j hj, eq0]; rfl
    . refine sumTo_congr fun j hj => ?_
      show chi s r j * v ((2 * q + 1) * 2 ^ s + j) = chi (s + 1) (0 * 2 ^ s + r) (2 ^ s + j) * v (q * (2 ^ s + 2 ^ s) + (2 ^ s + j))
      rw [high j hj, if_neg (by decide), Int.mul_one, <- Nat.add_assoc, eq1]
  . rw [if_pos rfl]
    have ek : (2 * q + 1) * 2 ^ s + r - 2 ^ s = (2 * q) * 2 ^ s + r := by rw [Nat.add_mul, Nat.one_mul]; omega
    rw [ek, hs_at hr, hs_at hr, Int.sub_eq_add_neg]
    congr 1
    . refine sumTo_congr fun j hj => ?_
      rw [low j hj, eq0]
    . have neg : ∀ (f : Nat -> Int) n, - sumTo f n = sumTo (fun j => - f j) n := fun f n => by
        induction n with
        | zero => rfl
        | succ n ih => show -(sumTo f n + f n) = sumTo (fun j => - f j) n + - f n; rw [<- ih]; omega
      rw [neg]
      refine sumTo_congr fun j hj => ?_
      show -(chi s r j * v ((2 * q + 1) * 2 ^ s + j)) = chi (s + 1) (1 * 2 ^ s + r) (2 ^ s + j) * v (q * (2 ^ s + 2 ^ s) + (2 ^ s + j))
      rw [high j hj, if_pos rfl, <- Nat.add_assoc, eq1, Int.mul_neg, Int.mul_one, Int.neg_mul]
theorem split_k (s k : Nat) : ∃ q b r, k = q * 2 ^ (s + 1) + (b * 2 ^ s + r) /\ r < 2 ^ s /\ b < 2 := by
  refine ⟨k / 2 ^ s / 2, k / 2 ^ s % 2, k % 2 ^ s, ?_, Nat.mod_lt _ (Nat.two_pow_pos s), Nat.mod_lt _ (by decide)⟩
  have h1 := Nat.div_add_mod k (2 ^ s)
  have h2 := Nat.div_add_mod (k / 2 ^ s) 2
  rw [Nat.pow_succ]
  generalize k % 2 ^ s = r at *
  generalize hd : k / 2 ^ s = d at *
  rw [<- Nat.add_assoc, Nat.mul_comm (2 ^ s) 2, <- Nat.mul_assoc, <- Nat.add_mul, Nat.mul_comm (d / 2) 2, h2, Nat.mul_comm]
  exact h1.symm
theorem had_all (v : Nat -> Int) : ∀ s k, hadF v s k = hs v s k
  | 0, k => by
    show v k = sumTo (fun j => chi 0 (k % 2 ^ 0) j * v (k / 2 ^ 0 * 2 ^ 0 + j)) 1
    show v k = 0 + chi 0 (k % 2 ^ 0) 0 * v (k / 2 ^ 0 * 2 ^ 0 + 0)
    have : chi 0 (k % 2 ^ 0) 0 = 1 := rfl
    rw [this, Int.one_mul, Int.zero_add]
    simp
  | s + 1, k => by
    have e : hadF v s = hs v s := funext fun k => had_all v s k
    show crossF (hadF v s) (2 ^ s) k = _
    rw [e]
    obtain ⟨q, b, r, rfl, hr, hb⟩ := split_k s k
    exact had_step q b r hr hb
theorem had_end {v : Nat -> Int} {m k : Nat} (h : k < 2 ^ m) : hadF v m k = sumTo (fun j => chi m k j * v j) (2 ^ m) := by
  rw [had_all]
  have := hs_at (v := v) (s := m) (q := 0) h
  rw [Nat.zero_mul, Nat.zero_add] at this
  rw [this]
  refine sumTo_congr fun j _ => ?_
  rw [Nat.zero_add]
theorem had_wt {v : Nat -> Int} {m k : Nat} (h : k < 2 ^ m) : hadF v m k = wt m v k := had_end h
def manyF : Nat -> Nat -> Nat
  | 0, _ => 0
  | f + 1, x => x % 2 + manyF f (x / 2)
@[irreducible] def many (x : Nat) : Nat := manyF 64 x
theorem manyF_zero : ∀ f, manyF f 0 = 0
  | 0 => rfl
  | f + 1 => by
    show 0 % 2 + manyF f (0 / 2) = 0
    rw [Nat.zero_div, manyF_zero f]
theorem manyF_up : ∀ (f g x : Nat), x < 2 ^ f -> f <= g -> manyF g x = manyF f x
  | 0, g, x, h, _ => by
    have : x = 0 := by simpa using h
    subst this
    rw [manyF_zero, manyF_zero]
  | f + 1, 0, x, _, h => by omega
  | f + 1, g + 1, x, h, hg => by
    show x % 2 + manyF g (x / 2) = x % 2 + manyF f (x / 2)
    rw [manyF_up f g (x / 2) (by rw [Nat.pow_succ] at h; omega) (by omega)]
theorem many_of {n x : Nat} (h : x < 2 ^ n) (hn : n <= 64) : many x = manyF n x := by
  unfold many
  exact manyF_up n 64 x h hn
theorem manyF_le : ∀ n x, manyF n x <= n
  | 0, _ => Nat.le_refl _
  | n + 1, x => by
    show x % 2 + manyF n (x / 2) <= n + 1
    have := manyF_le n (x / 2)
    omega
theorem chi_manyF : ∀ n a b, chi n a b = if manyF n (a &&& b) % 2 = 1 then -1 else 1
  | 0, _, _ => rfl
  | n + 1, a, b => by
    show (if a % 2 = 1 /\ b % 2 = 1 then -1 else 1) * chi n (a / 2) (b / 2) = if ((a &&& b) % 2 + manyF n ((a &&& b) / 2)) % 2 = 1 then -1 else 1
    rw [chi_manyF n, and_half, (low3 a b).1]
    generalize manyF n (a / 2 &&& b / 2) = k
    have ha : a % 2 = 0 \/ a % 2 = 1 := by omega
    have hb : b % 2 = 0 \/ b % 2 = 1 := by omega
    have hk : k % 2 = 0 \/ k % 2 = 1 := by omega
    rcases ha with ha | ha <;> rcases hb with hb | hb <;> rcases hk with hk | hk <;> rw [ha, hb] <;> simp [hk, Nat.add_mod]
theorem chi_many {n a b : Nat} (h : a < 2 ^ n) (hn : n <= 64) : chi n a b = if many (a &&& b) % 2 = 1 then -1 else 1 := by
  rw [many_of (Nat.lt_of_le_of_lt Nat.and_le_left h) hn, chi_manyF]
def ixL (g : Nat -> Int) (M : Nat) : List V := (List.range M).map fun i => V.int (g i)
theorem ixL_len {g : Nat -> Int} {M : Nat} : (ixL g M).length = M := by unfold ixL; simp
theorem ixL_get {g : Nat -> Int} {M k : Nat} (h : k < M) : (ixL g M)[k]? = some (.int (g k)) := by unfold ixL; rw [List.getElem?_map, List.getElem?_range h]; rfl
theorem ixL_at {g : Nat -> Int} {M k : Nat} (h : k < M) : atI (ixL g M) (k : Int) = some (.int (g k)) := atI_of rfl (ixL_get h)
theorem ixL_succ (g : Nat -> Int) (M : Nat) : ixL g (M + 1) = ixL g M ++ [V.int (g M)] := by unfold ixL; rw [List.range_succ, List.map_append]; rfl
theorem ixL_congr {f g : Nat -> Int} {M : Nat} (h : ∀ k, k < M -> f k = g k) : ixL f M = ixL g M := by
  unfold ixL
  exact List.map_congr_left fun k hk => by rw [h k (List.mem_range.mp hk)]
theorem ixL_set {g : Nat -> Int} {M i : Nat} {z : Int} : (ixL g M).set i (.int z) = ixL (fun k => if k = i then z else g k) M := by
  refine List.ext_getElem? fun k => ?_
  rw [List.getElem?_set, ixL_len]
  by_cases hk : k < M
  . rw [ixL_get hk]
    by_cases e : i = k
    . subst e; rw [if_pos rfl, if_pos hk, ixL_get hk, if_pos rfl]
    . rw [if_neg e, ixL_get hk, if_neg (Ne.symm e)]
  . have n1 : (ixL g M)[k]? = none := List.getElem?_eq_none (by rw [ixL_len]; omega)
    have n2 : (ixL (fun k => if k = i then z else g k) M)[k]? = none := List.getElem?_eq_none (by rw [ixL_len]; omega)
    rw [n1, n2]
    split
    . split
      . omega
      . rfl
    . rfl
def valB (b : Bool) : Int := if b = true then -1 else 1
def valF (bs : List Bool) (p : Nat) : Int := valB (bs.getD p false)
def termG (g : Nat -> Int) : Nat -> List (Nat × Int)
  | 0 => []
  | i + 1 => termG g i ++ (if g i = 0 then [] else [(i, g i)])
theorem termG_len (g : Nat -> Int) : ∀ n, (termG g n).length <= n
  | 0 => Nat.le_refl _
  | n + 1 => by
    unfold termG
    rw [List.length_append]
    have := termG_len g n
    split
    . rw [List.length_nil]; omega
    . rw [List.length_singleton]; omega
theorem termG_mem {g : Nat -> Int} : ∀ {n : Nat} {q : Nat × Int}, q ∈ termG g n -> q.1 < n /\ q.2 = g q.1 /\ q.2 ≠ 0
  | 0, q, h => by cases h
  | n + 1, q, h => by
    rcases List.mem_append.mp h with h | h
    . have := termG_mem h; exact ⟨by omega, this.2⟩
    . split at h
      . cases h
      . rename_i hn
        rw [List.mem_singleton.mp h]
        exact ⟨Nat.lt_succ_self n, rfl, hn⟩
def termD (q : Nat × Int) : Dv := .tup [.int q.1, .int q.2]
def sumD (m : Nat) (ts : List (Nat × Int)) : Dv := .tup [.int m, .tup (ts.map termD)]
def addT (f : Nat -> Int -> Int) : List (Nat × Int) -> Int
  | [] => 0
  | q :: ts => f q.1 q.2 + addT f ts
theorem addT_app (f : Nat -> Int -> Int) : ∀ xs ys, addT f (xs ++ ys) = addT f xs + addT f ys
  | [], ys => by show addT f ys = 0 + addT f ys; omega
  | x :: xs, ys => by
    show f x.1 x.2 + addT f (xs ++ ys) = f x.1 x.2 + addT f xs + addT f ys
    rw [addT_app f xs ys]; omega
structure SumAt (K : PySem.W.Frag) (H : Hp) (v : V) (m : Nat) (ts : List (Nat × Int)) : Prop where
  at_ : ∃ (a b : Addr) (vs : List V), v = .ref a /\ SqT K H a [.int m, .ref b] /\ SqT K H b vs /\ Reps K H (ts.map termD) vs
theorem SumAt.of {K : PySem.W.Frag} {H : Hp} {v : V} {m : Nat} {ts : List (Nat × Int)} (h : Rep K H (sumD m ts) v) : SumAt K H v m ts := by
  unfold sumD Rep at h
  obtain ⟨a, xs, rfl, ha, hr⟩ := h
  unfold Reps at hr
  obtain ⟨x, r, rfl, h1, hr⟩ := hr
  unfold Rep at h1; subst h1
  unfold Reps at hr
  obtain ⟨x, r, rfl, h2, hr⟩ := hr
  unfold Reps at hr; subst hr
  unfold Rep at h2
  obtain ⟨b, vs, rfl, hb, hr⟩ := h2
  exact ⟨a, b, vs, rfl, ha, hb, hr⟩
theorem SumAt.rep {K : PySem.W.Frag} {H : Hp} {v : V} {m : Nat} {ts : List (Nat × Int)} (h : SumAt K H v m ts) : Rep K H (sumD m ts) v := by
  obtain ⟨a, b, vs, rfl, ha, hb, hr⟩ := h.at_
  unfold sumD Rep
  refine ⟨a, _, rfl, ha, reps_cons rep_int (reps_cons ?_ reps_nil)⟩
  unfold Rep
  exact ⟨b, vs, rfl, hb, hr⟩
theorem SumAt.same {K : PySem.W.Frag} {H H' : Hp} {v : V} {m : Nat} {ts : List (Nat × Int)} (h : SumAt K H v m ts) (s : Same H H') : SumAt K H' v m ts := .of (Rep.same s _ _ h.rep)
theorem reps_terms_at {K : PySem.W.Frag} {H : Hp} {ts : List (Nat × Int)} {vs : List V} {i : Nat} {v : V} (h : Reps K H (ts.map termD) vs) (e : vs[i]? = some v) : ∃ q c, ts[i]? = some q /\ v = .ref c /\ SqT K H c [.int q.1, .int q.2] := by
  have hl := h.length
  have hi : i < ts.length := by
    have := (List.getElem?_eq_some_iff.mp e).1
    rw [List.length_map] at hl; omega
  have e1 : (ts.map termD)[i]? = some (termD ts[i]) := by rw [List.getElem?_map, List.getElem?_eq_getElem hi]; rfl
  obtain ⟨x, e2, hx⟩ := h.get e1
  rw [e] at e2
  cases e2
  unfold termD Rep at hx
  obtain ⟨c, xs, rfl, hc, hr⟩ := hx
  unfold Reps at hr
  obtain ⟨x, r, rfl, h1, hr⟩ := hr
  unfold Rep at h1; subst h1
  unfold Reps at hr
  obtain ⟨x, r, rfl, h2, hr⟩ := hr
  unfold Rep at h2; subst h2
  unfold Reps at hr; subst hr
  exact ⟨ts[i], c, List.getElem?_eq_getElem hi, rfl, hc⟩
def shT (a b : Int) : Int := a / (a.gcd b : Int)
def shB (a b : Int) : Int := b / (a.gcd b : Int)
def shD (a b : Int) : Dv := .tup [.int (shT a b), .int (shB a b)]
theorem gcd_mod {x y : Int} (hx : 0 <= x) (hy : 0 <= y) : Int.gcd y (x % y) = Int.gcd y x := by
  unfold Int.gcd
  rw [Int.natAbs_emod_of_nonneg hx, Nat.gcd_comm, <- Nat.gcd_rec]
theorem sh_small {a b : Int} {N : Nat} (ha : a.natAbs < N) (hb : b.natAbs < N) (h0 : 0 < b) : (shT a b).natAbs < N /\ (shB a b).natAbs < N /\ 0 < (a.gcd b : Int) /\ (a.gcd b : Int) <= b := by
  have hg : 0 < a.gcd b := Int.gcd_pos_of_ne_zero_right a (by omega)
  have hle : (a.gcd b : Int) <= b := Int.le_of_dvd h0 (Int.gcd_dvd_right ..)
  have k : ∀ z : Int, (z / (a.gcd b : Int)).natAbs <= z.natAbs := fun z => Int.natAbs_ediv_le_natAbs z _
  exact ⟨Nat.lt_of_le_of_lt (k a) ha, Nat.lt_of_le_of_lt (k b) hb, by omega, hle⟩
def sp_cd : Sp := fun vs H Q _ => match vs with
  | [.int a, .int b] => 0 <= a /\ 0 <= b /\ Q (.int (Int.gcd a b)) H
  | _ => False
theorem sp_cd_mono : SpMono sp_cd := fun vs H Q Q' E h q => by
  unfold sp_cd at *
  split at q
  . exact ⟨q.1, q.2.1, h _ _ q.2.2⟩
  . exact q.elim
def sp_share : Sp := fun vs H Q _ => match vs with
  | [.int a, .int b] => 0 < b /\ a.natAbs < 2 ^ 1000 /\ b.natAbs < 2 ^ 1000 /\ ∀ p, H p = none -> Q (.ref p) (upd H p (.tup [.int (shT a b), .int (shB a b)]))
  | _ => False
theorem sp_share_mono : SpMono sp_share := fun vs H Q Q' E h q => by
  unfold sp_share at *
  split at q
  . exact ⟨q.1, q.2.1, q.2.2.1, fun p hp => h _ _ (q.2.2.2 p hp)⟩
  . exact q.elim
theorem rep_sh {K : PySem.W.Frag} {H : Hp} {p : Addr} {a b : Int} (h : H p = some (.tup [.int (shT a b), .int (shB a b)])) : Rep K H (shD a b) (.ref p) := rep_tup1 h (reps_cons rep_int (reps_cons rep_int reps_nil))
def lowI (st i : Nat) : Nat := if i / st % 2 = 1 then i - st else i
def mixF (f : Nat -> Int) (st P i : Nat) : Int := if lowI st i < P then crossF f st i else f i
theorem div_add_self {p st : Nat} (h : 0 < st) : (p + st) / st = p / st + 1 := by rw [Nat.add_div_right _ h]
theorem div_sub_self {i st : Nat} (h : 0 < st) (hi : st <= i) : (i - st) / st = i / st - 1 := by
  have := div_add_self (p := i - st) h
  rw [Nat.sub_add_cancel hi] at this
  generalize (i - st) / st = x at *
  omega
theorem low_even {st i : Nat} (h : 0 < st) : lowI st i / st % 2 = 0 := by
  unfold lowI
  by_cases e : i / st % 2 = 1
  . rw [if_pos e]
    have hi : st <= i := by
      rcases Nat.lt_or_ge i st with z | z
      . rw [Nat.div_eq_of_lt z] at e; cases e
      . exact z
    rw [div_sub_self h hi]; omega
  . rw [if_neg e]; omega
theorem mix_zero (f : Nat -> Int) (st i : Nat) : mixF f st 0 i = f i := by unfold mixF; rw [if_neg (Nat.not_lt_zero _)]
theorem mix_skip {f : Nat -> Int} {st p : Nat} (h : 0 < st) (hp : ¬ p / st % 2 = 0) (i : Nat) : mixF f st (p + 1) i = mixF f st p i := by
  unfold mixF
  have ne : lowI st i ≠ p := fun e => hp (e ▸ low_even h)
  by_cases hl : lowI st i < p
  . rw [if_pos hl, if_pos (by omega)]
  . rw [if_neg hl, if_neg (by omega)]
theorem mix_old {f : Nat -> Int} {st p : Nat} (h : 0 < st) (hp : p / st % 2 = 0) : mixF f st p p = f p /\ mixF f st p (p + st) = f (p + st) := by
  have l1 : lowI st p = p := by unfold lowI; rw [if_neg (by omega)]
  have l2 : lowI st (p + st) = p := by unfold lowI; rw [div_add_self h, if_pos (by omega)]; omega
  unfold mixF
  rw [l1, l2, if_neg (Nat.lt_irrefl _), if_neg (Nat.lt_irrefl _)]
  exact ⟨rfl, rfl⟩
theorem mix_next {f : Nat -> Int} {st p : Nat} (h : 0 < st) (hp : p / st % 2 = 0) (i : Nat) :
    mixF f st (p + 1) i = if i = p + st then f p - f (p + st) else if i = p then f p + f (p + st) else mixF f st p i := by
  have l1 : lowI st p = p := by unfold lowI; rw [if_neg (by omega)]
  have l2 : lowI st (p + st) = p := by unfold lowI; rw [div_add_self h, if_pos (by omega)]; omega
  by_cases e1 : i = p + st
  . subst e1
    rw [if_pos rfl]
    unfold mixF crossF
    rw [l2, if_pos (Nat.lt_succ_self p), div_add_self h, if_pos (by omega), Nat.add_sub_cancel]
  . rw [if_neg e1]
    by_cases e2 : i = p
    . subst e2
      rw [if_pos rfl]
      unfold mixF crossF
      rw [l1, if_pos (Nat.lt_succ_self i), if_neg (by omega)]
    . rw [if_neg e2]
      unfold mixF
      have ne : lowI st i ≠ p := fun e => by
        unfold lowI at e
        by_cases o : i / st % 2 = 1
        . rw [if_pos o] at e
          have hi : st <= i := by
            rcases Nat.lt_or_ge i st with z | z
            . rw [Nat.div_eq_of_lt z] at o; cases o
            . exact z
          omega
        . rw [if_neg o] at e; exact e2 e
      by_cases hl : lowI st i < p
      . rw [if_pos hl, if_pos (by omega)]
      . rw [if_neg hl, if_neg (by omega)]
theorem mix_end {f : Nat -> Int} {st M i : Nat} (hi : i < M) : mixF f st M i = crossF f st i := by
  unfold mixF
  have : lowI st i <= i := by unfold lowI; split <;> omega
  rw [if_pos (by omega)]
theorem cross_in : ∀ m < 7, ∀ s < m, ∀ k < 2 ^ m, k / 2 ^ s % 2 ≠ 1 -> k + 2 ^ s < 2 ^ m := by decide +kernel
theorem valF_get {bs : List Bool} {i : Nat} (h : i < bs.length) : valF bs i = valB bs[i] := by
  unfold valF
  rw [List.getD_eq_getElem?_getD, List.getElem?_eq_getElem h]
  rfl
def sp_fsum (K : PySem.W.Frag) : Sp := fun vs H Q _ => match vs with
  | [.ref p] => ∃ (m : Nat) (bs : List Bool), 1 <= m /\ m <= 6 /\ bs.length = 2 ^ m /\ SqT K H p (bs.map V.bl) /\ ∀ v H', Same H H' -> SumAt K H' v m (termG (wt m (valF bs)) (2 ^ m)) -> Q v H'
  | _ => False
theorem sp_fsum_mono {K : PySem.W.Frag} : SpMono (sp_fsum K) := fun vs H Q Q' E h q => by
  unfold sp_fsum at *
  split at q
  . obtain ⟨m, bs, h1, h2, h3, h4, q⟩ := q; exact ⟨m, bs, h1, h2, h3, h4, fun v H' x1 x2 => h _ _ (q v H' x1 x2)⟩
  . exact q.elim
def gB (bs : List Bool) (i : Nat) : Bool := bs.getD i false
def matF (bs : List Bool) (s i : Nat) : Bool := gB bs (i ^^^ s) != gB bs i
def matL (bs : List Bool) (s n : Nat) : List Nat := (List.range n).filter (matF bs s)
theorem matL_succ (bs : List Bool) (s n : Nat) : matL bs s (n + 1) = matL bs s n ++ (if matF bs s n = true then [n] else []) := by
  unfold matL
  rw [List.range_succ, List.filter_append]
  congr 1
  by_cases h : matF bs s n = true
  . rw [if_pos h, List.filter_cons_of_pos h]; rfl
  . rw [if_neg h, List.filter_cons_of_neg h]; rfl
theorem matL_len (bs : List Bool) (s n : Nat) : (matL bs s n).length <= n := by
  unfold matL
  exact Nat.le_trans (List.length_filter_le _ _) (by rw [List.length_range]; exact Nat.le_refl _)
theorem gB_get {bs : List Bool} {i : Nat} (h : i < bs.length) : gB bs i = bs[i] := by unfold gB; rw [List.getD_eq_getElem?_getD, List.getElem?_eq_getElem h]; rfl
theorem gB_at {bs : List Bool} {i : Nat} (h : i < bs.length) : atI (bs.map V.bl) ((i : Nat) : Int) = some (.bl (gB bs i)) := by
  rw [gB_get h]
  exact atI_of rfl (by rw [List.getElem?_map, List.getElem?_eq_getElem h]; rfl)
theorem val_prod (bs : List Bool) (s i : Nat) : valF bs (i ^^^ s) * valF bs i = 1 - 2 * (if matF bs s i = true then 1 else 0) := by
  unfold valF matF gB valB
  cases bs.getD (i ^^^ s) false <;> cases bs.getD i false <;> decide
theorem mat_sum (bs : List Bool) (s : Nat) : ∀ n, sumTo (fun i => valF bs (i ^^^ s) * valF bs i) n = (n : Int) - 2 * ((matL bs s n).length : Int)
  | 0 => rfl
  | n + 1 => by
    show sumTo _ n + valF bs (n ^^^ s) * valF bs n = _
    rw [mat_sum bs s n, val_prod, matL_succ, List.length_append]
    by_cases h : matF bs s n = true
    . rw [if_pos h, if_pos h, List.length_singleton]; omega
    . rw [if_neg h, if_neg h, List.length_nil]; omega
theorem mat_zero (bs : List Bool) : ∀ n, matL bs 0 n = []
  | 0 => rfl
  | n + 1 => by
    rw [matL_succ, mat_zero bs n, if_neg]
    . rfl
    . unfold matF; rw [Nat.xor_zero]; simp
def oddSq (m : Nat) (g : Nat -> Int) (t : Nat) : Int := sumTo (fun s => if chi m s t = -1 then g s * g s else 0) (2 ^ m)
theorem odd_squares (m : Nat) (bs : List Bool) (t : Nat) (ht : t < 2 ^ m) : oddSq m (wt m (valF bs)) t = ((2 ^ m : Nat) : Int) * ((matL bs t (2 ^ m)).length : Int) := by
  have a1 := wt_auto m (valF bs) t ht
  have a0 := wt_auto m (valF bs) 0 (Nat.two_pow_pos m)
  rw [mat_sum] at a1 a0
  rw [mat_zero] at a0
  have e : ∀ s, (if chi m s t = -1 then wt m (valF bs) s * wt m (valF bs) s else 0) * 2 = chi m s 0 * (wt m (valF bs) s * wt m (valF bs) s) - chi m s t * (wt m (valF bs) s * wt m (valF bs) s) := fun s => by
    rw [chi_zero]
    rcases chi_one m s t with h | h
    . rw [h, if_neg (by decide)]; omega
    . rw [h, if_pos rfl]; omega
  have k : oddSq m (wt m (valF bs)) t * 2 = ((2 ^ m : Nat) : Int) * (((2 ^ m : Nat) : Int) - 2 * (([] : List Nat).length : Int)) - ((2 ^ m : Nat) : Int) * (((2 ^ m : Nat) : Int) - 2 * ((matL bs t (2 ^ m)).length : Int)) := by
    unfold oddSq
    rw [sumTo_mulr, sumTo_congr fun s _ => e s, <- sumTo_minus, a0, a1]
  have z : ((([] : List Nat).length : Nat) : Int) = 0 := rfl
  rw [z, Int.mul_zero, Int.sub_zero, Int.mul_sub] at k
  have k2 : ((2 ^ m : Nat) : Int) * (2 * ((matL bs t (2 ^ m)).length : Int)) = 2 * (((2 ^ m : Nat) : Int) * ((matL bs t (2 ^ m)).length : Int)) := by ac_rfl
  rw [k2] at k
  generalize ((2 ^ m : Nat) : Int) * ((matL bs t (2 ^ m)).length : Int) = y at *
  generalize ((2 ^ m : Nat) : Int) * ((2 ^ m : Nat) : Int) = u at *
  generalize oddSq m (wt m (valF bs)) t = x at *
  omega
theorem sum_bound {f : Nat -> Int} : ∀ {n : Nat}, (∀ j, j < n -> f j = 1 \/ f j = -1) -> -(n : Int) <= sumTo f n /\ sumTo f n <= n
  | 0, _ => ⟨Int.le_refl _, Int.le_refl _⟩
  | n + 1, h => by
    have i := sum_bound fun j hj => h j (Nat.lt_succ_of_lt hj)
    show -((n + 1 : Nat) : Int) <= sumTo f n + f n /\ sumTo f n + f n <= ((n + 1 : Nat) : Int)
    rcases h n (Nat.lt_succ_self n) with e | e <;> rw [e] <;> omega
theorem wt_bound (m : Nat) (bs : List Bool) (s : Nat) : -((2 ^ m : Nat) : Int) <= wt m (valF bs) s /\ wt m (valF bs) s <= ((2 ^ m : Nat) : Int) := by
  unfold wt
  refine sum_bound fun j _ => ?_
  rcases chi_one m s j with h | h <;> rw [h] <;> unfold valF valB <;> cases bs.getD j false <;> decide
def Light (g : Nat -> Int) : Prop := ∀ k, -64 <= g k /\ g k <= 64
theorem wt_light {m : Nat} (m6 : m <= 6) (bs : List Bool) : Light (wt m (valF bs)) := fun k => by
  have := wt_bound m bs k
  have h64 : 2 ^ m <= 64 := Nat.pow_le_pow_right (n := 2) (by decide) m6
  omega
theorem light_mul {a b : Int} (ha : -64 <= a /\ a <= 64) : okMul a b := .inr (.inl ⟨by omega, by omega⟩)
theorem sq_le {a : Int} (h : -64 <= a /\ a <= 64) : 0 <= a * a /\ a * a <= 4096 := by
  have h1 : a * a = ((a.natAbs * a.natAbs : Nat) : Int) := by rw [Int.natCast_mul, Int.natAbs_mul_self' a]
  have h2 : a.natAbs <= 64 := by omega
  have h3 : a.natAbs * a.natAbs <= 64 * 64 := Nat.mul_le_mul h2 h2
  omega
theorem sumTo_range {f : Nat -> Int} {B : Int} : ∀ {n : Nat}, (∀ j, j < n -> 0 <= f j /\ f j <= B) -> 0 <= sumTo f n /\ sumTo f n <= n * B
  | 0, _ => by show (0 : Int) <= 0 /\ (0 : Int) <= ((0 : Nat) : Int) * B; simp
  | n + 1, h => by
    have i := sumTo_range fun j hj => h j (Nat.lt_succ_of_lt hj)
    have k := h n (Nat.lt_succ_self n)
    show 0 <= sumTo f n + f n /\ sumTo f n + f n <= ((n + 1 : Nat) : Int) * B
    rw [Int.natCast_add, Int.add_mul]
    have : ((1 : Nat) : Int) * B = B := by simp
    omega
def foldT (f : Nat -> Int -> List Int) : List (Nat × Int) -> List Int
  | [] => []
  | q :: ts => f q.1 q.2 ++ foldT f ts
theorem foldT_app (f : Nat -> Int -> List Int) : ∀ xs ys, foldT f (xs ++ ys) = foldT f xs ++ foldT f ys
  | [], ys => rfl
  | x :: xs, ys => by
    show f x.1 x.2 ++ foldT f (xs ++ ys) = f x.1 x.2 ++ foldT f xs ++ foldT f ys
    rw [foldT_app f xs ys, List.append_assoc]
theorem foldT_take {f : Nat -> Int -> List Int} {ts : List (Nat × Int)} {i : Nat} {q : Nat × Int} (h : ts[i]? = some q) : foldT f (ts.take (i + 1)) = foldT f (ts.take i) ++ f q.1 q.2 := by
  rw [List.take_add_one, h, foldT_app]
  show _ ++ (f q.1 q.2 ++ []) = _
  rw [List.append_nil]
theorem foldT_sum (f : Nat -> Int -> List Int) : ∀ ts, (foldT f ts).sum = addT (fun k w => (f k w).sum) ts
  | [] => rfl
  | q :: ts => by
    show (f q.1 q.2 ++ foldT f ts).sum = _
    rw [List.sum_append, foldT_sum f ts]
    rfl
theorem foldT_len {f : Nat -> Int -> List Int} (h : ∀ k w, (f k w).length <= 1) : ∀ ts, (foldT f ts).length <= ts.length
  | [] => Nat.le_refl _
  | q :: ts => by
    show (f q.1 q.2 ++ foldT f ts).length <= ts.length + 1
    rw [List.length_append]
    have := h q.1 q.2
    have := foldT_len h ts
    omega
theorem tups_T : ∀ ts : List (Nat × Int), tupsOnly (ts.map termD) = true
  | [] => by unfold tupsOnly; rfl
  | q :: ts => by
    rw [List.map_cons]
    unfold tupsOnly
    rw [tups_T ts]
    unfold termD tupOnly tupsOnly tupOnly tupsOnly tupOnly tupsOnly
    rfl
theorem Feed.lst {H : Hp} {t : Addr} (F : Feed H t) : ∃ zs, H t = some (.lst zs) := by
  obtain ⟨a, b, k, c, _, h⟩ := F.at_
  exact ⟨_, h⟩
theorem SumAt.frm {K : PySem.W.Frag} {H H' : Hp} {t : Addr} {v : V} {m : Nat} {ts : List (Nat × Int)} (S : SumAt K H v m ts) (F : Feed H t) (f : Frm t H H') : SumAt K H' v m ts := by
  refine .of (Rep.frm f F.lst _ _ ?_ S.rep)
  have e := tups_T ts
  simp [sumD, tupOnly, tupsOnly, e]
theorem chi_bit : ∀ (m i s : Nat), i < m -> (chi m s (2 ^ i) = -1 ↔ s.testBit i = true)
  | 0, _, _, h => by omega
  | m + 1, 0, s, _ => by
    show (if s % 2 = 1 /\ 2 ^ 0 % 2 = 1 then -1 else 1) * chi m (s / 2) (2 ^ 0 / 2) = -1 ↔ _
    rw [show (2 : Nat) ^ 0 / 2 = 0 from rfl, chi_zero, Int.mul_one, Nat.testBit_zero, decide_eq_true_eq]
    by_cases h : s % 2 = 1
    . rw [if_pos ⟨h, rfl⟩]; exact ⟨fun _ => h, fun _ => rfl⟩
    . rw [if_neg (fun z => h z.1)]; exact ⟨fun z => by omega, fun z => absurd z h⟩
  | m + 1, i + 1, s, h => by
    show (if s % 2 = 1 /\ 2 ^ (i + 1) % 2 = 1 then -1 else 1) * chi m (s / 2) (2 ^ (i + 1) / 2) = -1 ↔ _
    rw [if_neg (fun z => by have := z.2; rw [Nat.pow_succ] at this; omega), Int.one_mul, Nat.pow_succ, Nat.mul_div_cancel _ (by decide), Nat.testBit_succ]
    exact chi_bit m i (s / 2) (by omega)
theorem sumTo_pos {f : Nat -> Int} : ∀ {n : Nat}, (∀ j, j < n -> 0 <= f j) -> (0 < sumTo f n ↔ ∃ j, j < n /\ 0 < f j)
  | 0, _ => ⟨fun z => absurd z (by show ¬ (0 : Int) < 0; omega), fun ⟨j, h, _⟩ => by omega⟩
  | n + 1, h => by
    have i := sumTo_pos fun j hj => h j (Nat.lt_succ_of_lt hj)
    have z := sumTo_range (f := fun j => -(-(f j))) (n := n) (B := sumTo f n) 
    have nn : 0 <= sumTo f n := by
      by_cases c : 0 < sumTo f n
      . omega
      . have : ∀ k, k <= n -> 0 <= sumTo f k := fun k => by
          induction k with
          | zero => intro _; exact Int.le_refl _
          | succ k ih =>
            intro hk
            have := ih (by omega)
            have := h k (by omega)
            show 0 <= sumTo f k + f k
            omega
        exact this n (Nat.le_refl _)
    have fn := h n (Nat.lt_succ_self n)
    show 0 < sumTo f n + f n ↔ _
    constructor
    . intro hh
      by_cases c : 0 < f n
      . exact ⟨n, Nat.lt_succ_self n, c⟩
      . obtain ⟨j, hj, hp⟩ := i.mp (by omega)
        exact ⟨j, by omega, hp⟩
    . rintro ⟨j, hj, hp⟩
      by_cases e : j = n
      . subst e; omega
      . have := i.mpr ⟨j, by omega, hp⟩
        omega
theorem sq_nonneg (a : Int) : 0 <= a * a := by
  rw [show a * a = ((a.natAbs * a.natAbs : Nat) : Int) by rw [Int.natCast_mul, Int.natAbs_mul_self' a]]
  omega
theorem sq_pos {a : Int} : 0 < a * a ↔ a ≠ 0 := by
  have := sq_nonneg a
  constructor
  . intro h z; subst z; simp at h
  . intro h
    have : a * a ≠ 0 := Int.mul_ne_zero h h
    omega
def cntS (bs : List Bool) (m i : Nat) : Nat := (matL bs (2 ^ i) (2 ^ m)).length
theorem cnt_pos {m i : Nat} (bs : List Bool) (h : i < m) : 0 < cntS bs m i ↔ ∃ s, s < 2 ^ m /\ wt m (valF bs) s ≠ 0 /\ s.testBit i = true := by
  have o := odd_squares m bs (2 ^ i) (Nat.pow_lt_pow_right (by decide) h)
  have p := sumTo_pos (f := fun s => if chi m s (2 ^ i) = -1 then wt m (valF bs) s * wt m (valF bs) s else 0) (n := 2 ^ m) fun j _ => by
    show 0 <= (if chi m j (2 ^ i) = -1 then wt m (valF bs) j * wt m (valF bs) j else 0)
    split
    . exact sq_nonneg _
    . exact Int.le_refl _
  have hM : 0 < ((2 ^ m : Nat) : Int) := by have := Nat.two_pow_pos m; omega
  have e : 0 < cntS bs m i ↔ 0 < oddSq m (wt m (valF bs)) (2 ^ i) := by
    rw [o]
    unfold cntS
    constructor
    . intro z; exact Int.mul_pos hM (by omega)
    . intro z
      rcases Nat.eq_zero_or_pos (matL bs (2 ^ i) (2 ^ m)).length with h0 | h0
      . rw [h0] at z; simp at z
      . exact h0
  rw [e]
  unfold oddSq
  rw [p]
  constructor
  . rintro ⟨s, hs, hp⟩
    split at hp
    . rename_i hc
      exact ⟨s, hs, sq_pos.mp hp, (chi_bit m i s h).mp hc⟩
    . omega
  . rintro ⟨s, hs, hw, hb⟩
    refine ⟨s, hs, ?_⟩
    rw [if_pos ((chi_bit m i s h).mpr hb)]
    exact sq_pos.mpr hw
section
variable {X : Cx} {K : PySem.W.Frag}
end
def lvF (m : Nat) (g : Nat -> Int) (n j : Nat) : Int := sumTo (fun s => if manyF m s = j then g s * g s else 0) n
def lvT (m : Nat) (ts : List (Nat × Int)) (j : Nat) : Int := addT (fun s w => if manyF m s = j then w * w else 0) ts
theorem lvT_take {m : Nat} {ts : List (Nat × Int)} {i : Nat} {q : Nat × Int} (h : ts[i]? = some q) (j : Nat) : lvT m (ts.take (i + 1)) j = if j = manyF m q.1 then lvT m (ts.take i) j + q.2 * q.2 else lvT m (ts.take i) j := by
  unfold lvT
  rw [List.take_add_one, h, addT_app]
  show addT _ _ + ((if manyF m q.1 = j then q.2 * q.2 else 0) + 0) = _
  by_cases e : j = manyF m q.1
  . rw [if_pos e, if_pos e.symm, Int.add_zero]
  . rw [if_neg e, if_neg (Ne.symm e)]; omega
def Nb (x : Int) (k : Nat) : Prop := x.natAbs < 2 ^ k
theorem Nb.mul {x y : Int} {a b : Nat} (hx : Nb x a) (hy : Nb y b) : Nb (x * y) (a + b) := by
  unfold Nb at *
  rw [Int.natAbs_mul, Nat.pow_add]
  exact Nat.mul_lt_mul'' hx hy
theorem Nb.up {x : Int} {a b : Nat} (hx : Nb x a) (h : a <= b) : Nb x b := Nat.lt_of_lt_of_le hx (Nat.pow_le_pow_right (by decide) h)
theorem Nb.pow {x : Int} {a : Nat} (hx : Nb x a) : ∀ i, Nb (x ^ i) (a * i + 1)
  | 0 => by unfold Nb; rw [Int.pow_zero]; show 1 < 2 ^ (a * 0 + 1); rw [Nat.mul_zero]; decide
  | i + 1 => by
    rw [Int.pow_succ]
    have := (hx.pow i).mul hx
    rw [show a * (i + 1) + 1 = a * i + 1 + a by rw [Nat.mul_succ]; omega]
    exact this
theorem Nb.add {x y : Int} {a : Nat} (hx : Nb x a) (hy : Nb y a) : Nb (x + y) (a + 1) := by
  unfold Nb at *
  rw [Nat.pow_succ]
  have := Int.natAbs_add_le x y
  omega
theorem Nb.okMul {x y : Int} (hx : Nb x 4000) (hy : Nb y 4000) : okMul x y := .inl ⟨hx.up (by decide), hy.up (by decide)⟩
theorem Nb.sum {f : Nat -> Int} {a : Nat} : ∀ {n : Nat}, (∀ j, j < n -> Nb (f j) a) -> Nb (sumTo f n) (a + n)
  | 0, _ => by unfold Nb; exact Nat.two_pow_pos _
  | n + 1, h => by
    have i := Nb.sum fun j hj => h j (Nat.lt_succ_of_lt hj)
    exact i.add ((h n (Nat.lt_succ_self n)).up (by omega))
theorem nb_of {x : Int} {k : Nat} (h1 : -(2 ^ k : Nat) < x) (h2 : x < (2 ^ k : Nat)) : Nb x k := by unfold Nb; omega
def qF (x y : Int) (n s : Nat) : Int := x ^ manyF n s * y ^ (n - manyF n s)
theorem qF_succ (x y : Int) (n s : Nat) : qF x y (n + 1) s = (if s % 2 = 1 then x else y) * qF x y n (s / 2) := by
  unfold qF
  have e : manyF (n + 1) s = s % 2 + manyF n (s / 2) := rfl
  have hl := manyF_le n (s / 2)
  rw [e]
  by_cases h : s % 2 = 1
  . rw [if_pos h, h, show n + 1 - (1 + manyF n (s / 2)) = n - manyF n (s / 2) by omega, Nat.add_comm 1, Int.pow_succ]
    ac_rfl
  . have h0 : s % 2 = 0 := by omega
    rw [if_neg h, h0, Nat.zero_add, show n + 1 - manyF n (s / 2) = (n - manyF n (s / 2)) + 1 by omega, Int.pow_succ]
    ac_rfl
theorem qF_chi (t b : Int) : ∀ n s, sumTo (fun u => qF t (b - t) n u * chi n s u) (2 ^ n) = qF (b - 2 * t) b n s
  | 0, s => by
    show 0 + qF t (b - t) 0 0 * chi 0 s 0 = qF (b - 2 * t) b 0 s
    simp [qF, manyF, chi]
  | n + 1, s => by
    rw [Nat.pow_succ, Nat.mul_comm, sumTo_two]
    have e : ∀ u, qF t (b - t) (n + 1) (2 * u) * chi (n + 1) s (2 * u) + qF t (b - t) (n + 1) (2 * u + 1) * chi (n + 1) s (2 * u + 1) = (if s % 2 = 1 then b - 2 * t else b) * (qF t (b - t) n u * chi n (s / 2) u) := fun u => by
      rw [qF_succ, qF_succ, show 2 * u / 2 = u by omega, show (2 * u + 1) / 2 = u by omega, if_neg (by omega), if_pos (by omega)]
      have c1 : chi (n + 1) s (2 * u) = chi n (s / 2) u := by
        show (if s % 2 = 1 /\ 2 * u % 2 = 1 then -1 else 1) * chi n (s / 2) (2 * u / 2) = _
        rw [if_neg (by omega), show 2 * u / 2 = u by omega, Int.one_mul]
      have c2 : chi (n + 1) s (2 * u + 1) = (if s % 2 = 1 then -1 else 1) * chi n (s / 2) u := by
        show (if s % 2 = 1 /\ (2 * u + 1) % 2 = 1 then -1 else 1) * chi n (s / 2) ((2 * u + 1) / 2) = _
        rw [show (2 * u + 1) / 2 = u by omega]
        by_cases h : s % 2 = 1
        . rw [if_pos ⟨h, by omega⟩, if_pos h]
        . rw [if_neg (fun z => h z.1), if_neg h]
      rw [c1, c2]
      generalize qF t (b - t) n u = q
      generalize chi n (s / 2) u = c
      by_cases h : s % 2 = 1
      . rw [if_pos h, if_pos h, Int.sub_mul, Int.sub_mul, Int.sub_mul, Int.mul_assoc 2 t]
        have e1 : t * q * (-1 * c) = -(t * (q * c)) := by rw [Int.neg_mul, Int.one_mul, Int.mul_neg, Int.mul_assoc]
        rw [e1, Int.mul_assoc, Int.mul_assoc]
        omega
      . rw [if_neg h, if_neg h, Int.sub_mul, Int.sub_mul, Int.one_mul, Int.mul_assoc, Int.mul_assoc]
        omega
    rw [sumTo_congr fun u _ => e u, <- sumTo_mul, qF_chi t b n (s / 2), qF_succ]
theorem qF_zero (x y : Int) (n : Nat) : qF x y n 0 = y ^ n := by
  unfold qF
  rw [manyF_zero, Int.pow_zero, Int.one_mul, Nat.sub_zero]
theorem lv_sum (m : Nat) (g : Nat -> Int) (x y : Int) : sumTo (fun j => lvF m g (2 ^ m) j * x ^ j * y ^ (m - j)) (m + 1) = sumTo (fun s => qF x y m s * (g s * g s)) (2 ^ m) := by
  have e : ∀ j, lvF m g (2 ^ m) j * x ^ j * y ^ (m - j) = sumTo (fun s => if manyF m s = j then g s * g s * x ^ j * y ^ (m - j) else 0) (2 ^ m) := fun j => by
    unfold lvF
    rw [sumTo_mulr, sumTo_mulr]
    refine sumTo_congr fun s _ => ?_
    split <;> simp
  rw [sumTo_congr fun j _ => e j, sumTo_swap]
  refine sumTo_congr fun s _ => ?_
  rw [sumTo_pick (fun j => g s * g s * x ^ j * y ^ (m - j)) (manyF m s), if_pos (by have := manyF_le m s; omega)]
  unfold qF
  ac_rfl
def alkL (bs : List Bool) (m u : Nat) : Int := ((2 ^ m : Nat) : Int) - ((matL bs u (2 ^ m)).length : Int)
theorem stays_eq (m : Nat) (bs : List Bool) (t b : Int) :
    ((2 ^ (2 * m) : Nat) : Int) * b ^ m + sumTo (fun j => lvF m (wt m (valF bs)) (2 ^ m) j * (b - 2 * t) ^ j * b ^ (m - j)) (m + 1) = (2 * ((2 ^ m : Nat) : Int)) * sumTo (fun u => alkL bs m u * t ^ manyF m u * (b - t) ^ (m - manyF m u)) (2 ^ m) := by
  rw [lv_sum]
  have e1 : sumTo (fun s => qF (b - 2 * t) b m s * (wt m (valF bs) s * wt m (valF bs) s)) (2 ^ m) = sumTo (fun u => qF t (b - t) m u * (((2 ^ m : Nat) : Int) * (((2 ^ m : Nat) : Int) - 2 * ((matL bs u (2 ^ m)).length : Int)))) (2 ^ m) := by
    have h1 : ∀ s, qF (b - 2 * t) b m s * (wt m (valF bs) s * wt m (valF bs) s) = sumTo (fun u => qF t (b - t) m u * (chi m s u * (wt m (valF bs) s * wt m (valF bs) s))) (2 ^ m) := fun s => by
      rw [<- qF_chi t b m s, sumTo_mulr]
      exact sumTo_congr fun u _ => by rw [Int.mul_assoc]
    rw [sumTo_congr fun s _ => h1 s, sumTo_swap]
    refine sumTo_congr fun u hu => ?_
    rw [<- sumTo_mul, wt_auto m (valF bs) u hu, mat_sum]
  have e2 : b ^ m = sumTo (fun u => qF t (b - t) m u) (2 ^ m) := by
    rw [<- qF_zero (b - 2 * t) b m, <- qF_chi t b m 0]
    exact sumTo_congr fun u _ => by rw [chi_comm, chi_zero, Int.mul_one]
  have e3 : ((2 ^ (2 * m) : Nat) : Int) = ((2 ^ m : Nat) : Int) * ((2 ^ m : Nat) : Int) := by rw [<- Int.natCast_mul, <- Nat.pow_add, Nat.two_mul]
  rw [e1, e2, e3, sumTo_mul, sumTo_plus, sumTo_mul]
  refine sumTo_congr fun u _ => ?_
  unfold alkL
  have e4 : ∀ z : Int, z * t ^ manyF m u * (b - t) ^ (m - manyF m u) = z * qF t (b - t) m u := fun z => by unfold qF; rw [Int.mul_assoc]
  rw [e4]
  generalize qF t (b - t) m u = q
  generalize ((2 ^ m : Nat) : Int) = M
  generalize ((matL bs u (2 ^ m)).length : Int) = c
  have r1 : q * (M * (M - 2 * c)) = M * M * q - 2 * (M * c * q) := by
    rw [Int.mul_sub, Int.mul_sub]
    have a1 : q * (M * M) = M * M * q := by ac_rfl
    have a2 : q * (M * (2 * c)) = 2 * (M * c * q) := by ac_rfl
    rw [a1, a2]
  have r2 : 2 * M * ((M - c) * q) = 2 * (M * M * q) - 2 * (M * c * q) := by
    rw [Int.sub_mul, Int.mul_sub]
    have a1 : 2 * M * (M * q) = 2 * (M * M * q) := by ac_rfl
    have a2 : 2 * M * (c * q) = 2 * (M * c * q) := by ac_rfl
    rw [a1, a2]
  rw [r1, r2]
  omega
def newL (H : Hp) (Q : VK) (xs : List V) : Prop := ∀ p H', H p = none -> Same H H' -> H' p = some (.lst xs) -> Q (.ref p) H'
theorem newL_mono {H : Hp} {Q Q' : VK} {xs : List V} (h : ∀ v H, Q v H -> Q' v H) (q : newL H Q xs) : newL H Q' xs := fun p H' a b c => h _ _ (q p H' a b c)
def inF (g : Nat -> Int) (o s : Nat) : Int := if s &&& o = s then g s else 0
theorem bl_list (f : Nat -> Bool) (n : Nat) : ((List.range (n + 1)).map f).map V.bl = ((List.range n).map f).map V.bl ++ [V.bl (f n)] := by
  rw [List.range_succ, List.map_append, List.map_append]; rfl
theorem em_dget2 {td ty tx : TE} (h1 : EMono td) (h2 : EMono ty) (h3 : EMono tx) : EMono (tDGet2 td ty tx) := fun σ H Q Q' h q => h1 _ _ _ _ (fun _ _ ⟨a, e, d, q⟩ => ⟨a, e, d, h2 _ _ _ _ (fun _ _ q => h3 _ _ _ _ (fun _ _ ⟨o, g, q⟩ => ⟨o, g, h _ _ q⟩) q) q⟩) q
theorem sm_dput {td ty tv : TE} (h1 : EMono td) (h2 : EMono ty) (h3 : EMono tv) : SMono (sDPut td ty tv) := fun D D' σ H h q => h3 _ _ _ _ (fun _ _ q => h1 _ _ _ _ (fun _ _ q => h2 _ _ _ _ (fun _ _ ⟨a, H4, e, g, q⟩ => ⟨a, H4, e, g, h.nx _ _ q⟩) q) q) q
theorem hu_one {A : Around} (h : A.units + 60 < cLine) : A.units + 1 < cLine := by omega
theorem and_eq_half (s o : Nat) : s &&& o = s ↔ (s % 2 = 1 -> o % 2 = 1) /\ s / 2 &&& o / 2 = s / 2 := by
  have h1 := and_half s o
  have h2 := (low3 s o).1
  have hs : s % 2 = 0 \/ s % 2 = 1 := by omega
  have ho : o % 2 = 0 \/ o % 2 = 1 := by omega
  constructor
  . intro e
    rw [e] at h1 h2
    refine ⟨fun z => ?_, h1.symm⟩
    rcases ho with ho | ho
    . rw [ho, Nat.mul_zero] at h2; omega
    . exact ho
  . rintro ⟨a, b⟩
    rw [b] at h1
    rcases hs with hs | hs
    . rw [hs, Nat.zero_mul] at h2; omega
    . rw [hs, a hs] at h2; omega
theorem and_zero_half (x o : Nat) : x &&& o = 0 ↔ ¬ (x % 2 = 1 /\ o % 2 = 1) /\ x / 2 &&& o / 2 = 0 := by
  have h1 := and_half x o
  have h2 := (low3 x o).1
  have hs : x % 2 = 0 \/ x % 2 = 1 := by omega
  have ho : o % 2 = 0 \/ o % 2 = 1 := by omega
  constructor
  . intro e
    rw [e] at h1 h2
    refine ⟨fun ⟨a, b⟩ => ?_, by rw [<- h1]⟩
    rw [a, b] at h2; omega
  . rintro ⟨a, b⟩
    rw [b] at h1
    rcases hs with hs | hs
    . rw [hs, Nat.zero_mul] at h2; omega
    . rcases ho with ho | ho
      . rw [ho, Nat.mul_zero] at h2; omega
      . exact absurd ⟨hs, ho⟩ a
theorem chi_in : ∀ (m o x : Nat), o < 2 ^ m -> sumTo (fun s => if s &&& o = s then chi m s x else 0) (2 ^ m) = if x &&& o = 0 then ((2 ^ manyF m o : Nat) : Int) else 0
  | 0, o, x, h => by
    have : o = 0 := by simpa using h
    subst this
    simp [sumTo, chi, manyF]
  | m + 1, o, x, h => by
    have hp : 2 ^ (m + 1) = 2 * 2 ^ m := by rw [Nat.pow_succ, Nat.mul_comm]
    rw [hp, sumTo_two]
    have e : ∀ j, (if 2 * j &&& o = 2 * j then chi (m + 1) (2 * j) x else 0) + (if 2 * j + 1 &&& o = 2 * j + 1 then chi (m + 1) (2 * j + 1) x else 0) = (if o % 2 = 1 then (if x % 2 = 1 then 0 else 2) else 1) * (if j &&& o / 2 = j then chi m j (x / 2) else 0) := fun j => by
      have a1 := and_eq_half (2 * j) o
      have a2 := and_eq_half (2 * j + 1) o
      rw [show 2 * j / 2 = j by omega] at a1
      rw [show (2 * j + 1) / 2 = j by omega] at a2
      have c1 : chi (m + 1) (2 * j) x = chi m j (x / 2) := by
        show (if 2 * j % 2 = 1 /\ x % 2 = 1 then -1 else 1) * chi m (2 * j / 2) (x / 2) = _
        rw [if_neg (by omega), show 2 * j / 2 = j by omega, Int.one_mul]
      have c2 : chi (m + 1) (2 * j + 1) x = (if x % 2 = 1 then -1 else 1) * chi m j (x / 2) := by
        show (if (2 * j + 1) % 2 = 1 /\ x % 2 = 1 then -1 else 1) * chi m ((2 * j + 1) / 2) (x / 2) = _
        rw [show (2 * j + 1) / 2 = j by omega]
        by_cases hx : x % 2 = 1
        . rw [if_pos ⟨by omega, hx⟩, if_pos hx]
        . rw [if_neg (fun z => hx z.2), if_neg hx]
      rw [c1, c2]
      by_cases hj : j &&& o / 2 = j
      . rw [if_pos hj, if_pos (a1.mpr ⟨fun z => by omega, hj⟩)]
        by_cases ho : o % 2 = 1
        . rw [if_pos (a2.mpr ⟨fun _ => ho, hj⟩), if_pos ho]
          by_cases hx : x % 2 = 1
          . rw [if_pos hx, if_pos hx]; omega
          . rw [if_neg hx, if_neg hx]; omega
        . rw [if_neg (fun z => ho ((a2.mp z).1 (by omega))), if_neg ho]; omega
      . rw [if_neg hj, if_neg (fun z => hj (a1.mp z).2), if_neg (fun z => hj (a2.mp z).2)]
        simp
    rw [sumTo_congr fun j _ => e j, <- sumTo_mul, chi_in m (o / 2) (x / 2) (by rw [Nat.pow_succ] at h; omega)]
    have z := and_zero_half x o
    have em : manyF (m + 1) o = o % 2 + manyF m (o / 2) := rfl
    by_cases hz : x / 2 &&& o / 2 = 0
    . rw [if_pos hz, em]
      by_cases ho : o % 2 = 1
      . rw [if_pos ho, ho]
        by_cases hx : x % 2 = 1
        . rw [if_pos hx, if_neg (fun q => (z.mp q).1 ⟨hx, ho⟩), Int.zero_mul]
        . rw [if_neg hx, if_pos (z.mpr ⟨fun q => hx q.1, hz⟩), Nat.add_comm 1, Nat.pow_succ, Int.natCast_mul, Int.mul_comm]; rfl
      . have h0 : o % 2 = 0 := by omega
        rw [if_neg ho, h0, Nat.zero_add, if_pos (z.mpr ⟨fun q => ho q.2, hz⟩), Int.one_mul]
    . rw [if_neg hz, if_neg (fun q => hz (z.mp q).2), Int.mul_zero]
def setS (m : Nat) (v : Nat -> Int) (o r : Nat) : Int := sumTo (fun q => if q &&& o = r then v q else 0) (2 ^ m)
theorem xor_and_zero : ∀ (m p q o : Nat), p < 2 ^ m -> q < 2 ^ m -> ((p ^^^ q) &&& o = 0 ↔ q &&& o = p &&& o)
  | 0, p, q, o, hp, hq => by
    have h1 : p = 0 := by simpa using hp
    have h2 : q = 0 := by simpa using hq
    subst h1 h2
    simp
  | m + 1, p, q, o, hp, hq => by
    have i := xor_and_zero m (p / 2) (q / 2) (o / 2) (by rw [Nat.pow_succ] at hp; omega) (by rw [Nat.pow_succ] at hq; omega)
    rw [and_zero_half, xor_half, i]
    have a1 := and_half q o
    have a2 := and_half p o
    have b1 := (low3 q o).1
    have b2 := (low3 p o).1
    have b3 := (low3 p q).2.1
    rw [<- a1, <- a2]
    have hs : p % 2 = 0 \/ p % 2 = 1 := by omega
    have ht : q % 2 = 0 \/ q % 2 = 1 := by omega
    have ho : o % 2 = 0 \/ o % 2 = 1 := by omega
    rcases hs with hs | hs <;> rcases ht with ht | ht <;> rcases ho with ho | ho <;> rw [hs, ht] at b3 <;> rw [ht, ho] at b1 <;> rw [hs, ho] at b2 <;> rw [b3, ho] <;> omega
theorem wt_in (m : Nat) (v : Nat -> Int) (o p : Nat) (ho : o < 2 ^ m) (hp : p < 2 ^ m) : wt m (inF (wt m v) o) p = ((2 ^ manyF m o : Nat) : Int) * setS m v o (p &&& o) := by
  have e1 : wt m (inF (wt m v) o) p = sumTo (fun s => sumTo (fun q => v q * (if s &&& o = s then chi m s (p ^^^ q) else 0)) (2 ^ m)) (2 ^ m) := by
    show sumTo (fun s => chi m p s * inF (wt m v) o s) (2 ^ m) = _
    refine sumTo_congr fun s _ => ?_
    unfold inF
    by_cases h : s &&& o = s
    . rw [if_pos h]
      unfold wt
      rw [sumTo_mul]
      refine sumTo_congr fun q _ => ?_
      rw [if_pos h, chi_xor, chi_comm m p s]
      ac_rfl
    . rw [if_neg h, Int.mul_zero, sumTo_congr (g := fun _ => 0) fun q _ => by rw [if_neg h, Int.mul_zero], sumTo_zero]
  rw [e1, sumTo_swap]
  unfold setS
  rw [sumTo_mul]
  refine sumTo_congr fun q hq => ?_
  rw [<- sumTo_mul, chi_in m o (p ^^^ q) ho]
  have x := xor_and_zero m p q o hp hq
  by_cases h : q &&& o = p &&& o
  . rw [if_pos (x.mpr h), if_pos h, Int.mul_comm]
  . rw [if_neg (fun z => h (x.mp z)), if_neg h, Int.mul_zero, Int.mul_zero]
end L2
namespace HT
open PySem PyProof.Rows
section
variable {prog : Program} {w : World} {A : Around} {E : Value -> Shared -> Prop} {s : Shared}
end
end HT
namespace L2
open PySem PySem.Spec PyProof.Rows
section
variable {X : Cx} {K : PySem.W.Frag} {e sx : Expr} {te ts : TE} {lo hi : Option Expr} {tl th : TO} {pos p2 : Pos}
def mIs (neg : Bool) : R2 := fun x y H Q => match x, y with
  | .bl a, .bl b => Q (.bl (neg ^^ (a == b))) H
  | x, .non => Q (.bl (neg ^^ decide (x = .non))) H
  | _, _ => False
theorem om_is : OpR X (compareOp .Is) (mIs false) := by
  intro pins s σ H x y v u Q I rx ry h
  unfold mIs at h
  split at h
  . cases rx; cases ry
    rename_i a b
    exact wpAny_of_eq (show compareOp .Is (.bool a) (.bool b) = pure (.bool (a == b)) by cases a <;> cases b <;> rfl) ⟨.bl (a == b), H, I, rfl, by rw [Bool.false_xor] at h; exact h⟩
  . exact op_isN pins s σ H _ _ v u Q I rx ry ⟨rfl, by rw [Bool.false_xor] at h; exact h⟩
  . exact h.elim
theorem rm_is {neg : Bool} : RMono (mIs neg) := fun x y H Q Q' h q => by
  unfold mIs at *
  split at q
  . exact h _ _ q
  . exact h _ _ q
  . exact q.elim
end
structure GFeed (H : Hp) (t : Addr) (N : Nat) : Prop where
  at_ : ∃ (l : Addr) (i g c : Int) (ns : List Int), 0 <= i /\ 0 <= g /\ 0 <= c /\ c <= N /\ H t = some (.lst [.ref l, .int i, .int g, .int c]) /\ l ≠ t /\ H l = some (.lst (ns.map V.int)) /\ ns.length ≠ 0
theorem GFeed.same {H H' : Hp} {t : Addr} {N : Nat} (F : GFeed H t N) (h : Same H H') : GFeed H' t N := by
  obtain ⟨l, i, g, c, ns, h1, h2, h3, h4, h5, h6, h7, h8⟩ := F.at_
  exact ⟨l, i, g, c, ns, h1, h2, h3, h4, h _ _ h5, h6, h _ _ h7, h8⟩
theorem GFeed.upd {H : Hp} {t p : Addr} {o : HO} {N : Nat} (F : GFeed H t N) (h : H p = none) : GFeed (L2.upd H p o) t N := F.same (Same.upd h)
theorem GFeed.lst {H : Hp} {t : Addr} {N : Nat} (F : GFeed H t N) : ∃ zs, H t = some (.lst zs) := by
  obtain ⟨l, i, g, c, ns, h1, h2, h3, h4, h5, _⟩ := F.at_
  exact ⟨_, h5⟩
theorem GFeed.free {H H' : Hp} {t p : Addr} {N : Nat} (F : GFeed H' t N) (h : Frm t H H') (hp : H' p = none) : H p = none := by
  cases e : H p with
  | none => rfl
  | some o =>
    by_cases hpt : p = t
    . subst hpt
      obtain ⟨zs, h3⟩ := F.lst
      rw [h3] at hp; cases hp
    . rw [h p o hpt e] at hp; cases hp
theorem reps_bl {K : PySem.W.Frag} {H : Hp} : ∀ bs : List Bool, Reps K H (bs.map Dv.bl) (bs.map V.bl)
  | [] => reps_nil
  | b :: bs => reps_cons rep_bl (reps_bl bs)
theorem rep_tup_inv {K : PySem.W.Frag} {H : Hp} {ds : List Dv} {v : V} (h : Rep K H (.tup ds) v) : ∃ a xs, v = .ref a /\ SqT K H a xs /\ Reps K H ds xs := by unfold Rep at h; exact h
theorem rep_tup2 {K : PySem.W.Frag} {H : Hp} {p : Addr} {xs : List V} {ds : List Dv} (h : SqT K H p xs) (r : Reps K H ds xs) : Rep K H (.tup ds) (.ref p) := by unfold Rep; exact ⟨p, xs, rfl, h, r⟩
section
variable {X : Cx} {pins : List (Addr × Obj)} {σ : St} {H : Hp} {s : Shared}
theorem KV.get {kvs : List (Key × V)} {vs : List (Key × Value)} (r : KV kvs vs) : ∀ {i : Nat} {q : Key × V}, kvs[i]? = some q -> ∃ v, vs[i]? = some (q.1, v) /\ RelV q.2 v := by
  induction r with
  | nil => intro i q e; simp at e
  | @cons a b l1 l2 h t ih =>
    intro i q e
    cases i with
    | zero =>
      simp at e; subst e
      obtain ⟨b1, b2⟩ := b
      obtain ⟨h1, h2⟩ := h
      exact ⟨b2, by simp; exact h1.symm, h2⟩
    | succ i =>
      obtain ⟨v, h1, h2⟩ := ih (i := i) (q := q) (by simpa using e)
      exact ⟨v, by simpa using h1, h2⟩
end
section
variable {X : Cx} {K : PySem.W.Frag} {tg oe : Expr} {to : TE} {ts : List Expr} {kt : Nat} {tpos apos cpos : Pos}
end
end L2
namespace L2
open PySem PyProof.Rows
section
variable {prog : Program} {w : World} {A : Around} {E : Value -> Shared -> Prop} {s : Shared}
end
section
variable {X : Cx}
end
end L2
namespace L2
open PySem PySem.Spec PyProof.Rows
end L2
namespace L2
open PySem PySem.Spec PyProof.Rows PySem.W
open Att (noObjs noObjs_get fr_all)
def CdO (a : Addr) (q : Str) : HO := .ext fun h => h.CodeRec (.ref a) q
def Lam (Pt : Addr) (pos : Pos) (q : Str) (H : Hp) : Prop :=
  ∃ ps : Array Value, H Pt = some (.tbl ps) /\ TriplesOk ps.toList /\ (codeAmong pos ps.toList = none \/ ∃ c', codeAmong pos ps.toList = some (.ref c') /\ H c' = some (CdO c' q))
def Grow (Pt : Addr) (H H' : Hp) : Prop := ∀ b o, b ≠ Pt -> H b = some o -> H' b = some o
theorem Grow.trans {Pt : Addr} {H H1 H2 : Hp} (a : Grow Pt H H1) (b : Grow Pt H1 H2) : Grow Pt H H2 := fun c o n e => b c o n (a c o n e)
theorem Grow.same {Pt : Addr} {H H' : Hp} (h : Same H H') : Grow Pt H H' := fun b o _ e => h b o e
theorem Lam.same {Pt : Addr} {pos : Pos} {q : Str} {H H' : Hp} (l : Lam Pt pos q H) (h : Same H H') : Lam Pt pos q H' := by
  obtain ⟨ps, a, b, c⟩ := l
  refine ⟨ps, h _ _ a, b, ?_⟩
  rcases c with c | ⟨c', c, d⟩
  . exact .inl c
  . exact .inr ⟨c', c, h _ _ d⟩
section
variable {X : Cx} {pins : List (Addr × Obj)} {σ : List (Option V)} {H : Hp} {s : Shared} {h' : Heap}
end
section
variable {prog : Program} {w : World} {A : Around} {s : Shared}
end
section
variable {X : Cx} {Pt c : Addr} {e : Expr} {te : TE} {p pos kpos lpos np cp sp : Pos} {x qual : Str} {params : Arguments} {scope : Scope} {kd : Nat} {i : Int} {K : PySem.W.Frag}
end
end L2
namespace L2
open PySem
end L2
namespace L2
open PySem PySem.Spec PyProof.Rows
section
variable {X : Cx} {tg oe : Expr} {to : TE} {apos cpos : Pos}
end
def mIn (K : PySem.W.Frag) (neg : Bool) : R2 := fun x y H Q => match y with
  | .ref p => ∃ xs, (SqL K H p xs \/ SqT K H p xs) /\ flatV x = true /\ xs.all flatV = true /\ Q (.bl (neg ^^ inV x xs)) H
  | _ => False
section
variable {X : Cx} {K : PySem.W.Frag}
theorem kIn (hK : X.K = K := by rfl) : OpR X (compareOp .In) (mIn K false) := by
  subst hK
  intro pins s σ H x y v u Q I rx ry h
  cases y with
  | ref p =>
    obtain ⟨xs, h1, h2, h3, q⟩ := h
    exact op_in_seq pins s σ H x _ v u Q I rx ry ⟨p, xs, rfl, h1, h2, h3, by simpa using q⟩
  | _ => exact False.elim h
theorem kNotIn (hK : X.K = K := by rfl) : OpR X (compareOp .NotIn) (mIn K true) := by
  subst hK
  intro pins s σ H x y v u Q I rx ry h
  cases y with
  | ref p =>
    obtain ⟨xs, h1, h2, h3, q⟩ := h
    exact op_notIn_seq pins s σ H x _ v u Q I rx ry ⟨p, xs, rfl, h1, h2, h3, by simpa using q⟩
  | _ => exact False.elim h
end
section
variable {X : Cx} {K : PySem.W.Frag}
def mAny (K : PySem.W.Frag) : List V -> Hp -> VK -> Prop := fun xs H Q => match xs with
  | [.ref l] => ∃ bs : List Bool, SqL K H l (bs.map V.bl) /\ Q (.bl (bs.any id)) H
  | _ => False
theorem cm_any (hc : X.calm = true) : CallR X (.builtin "any") (mAny X.K) := by
  intro pins s σ H xs us Q I r q
  match xs, q with
  | [.ref l], q =>
  obtain ⟨bs, hl, q⟩ := q
  obtain ⟨u, rfl, ru⟩ := vals1 r
  cases ru
  obtain ⟨its, rv, pl, hz⟩ := I.list hl
  have hlen := rv.length
  rw [List.length_map] at hlen
  obtain ⟨o1, n1, g1, _⟩ := id pl
  have hlt := Heap.lt_size g1
  refine call_any_walk (wpAny_pyIter_list pl.isList ?_)
  have hne : l ≠ s.heap.objs.size := Nat.ne_of_lt hlt
  refine ⟨_, _, _, _, _, _, fun i => bs.getD i false, rfl, Walks.list (A := X.A.in1) (I.ok.hd hc) s.heap.objs.size l hne its.toArray, ?_, ?_, fun h' tk hk => ?_⟩
  . exact ⟨⟨_, Heap.get?_push_size _ rfl, rfl, rfl⟩, (show s.heap.IsList l its.toArray from pl.isList).at fun o e => Heap.get?_push_of_some _ e⟩
  . intro i v s' Q' E' hv hq
    have hv : its.toArray[i]? = some v := hv
    have hi : i < its.length := by
      have := (Array.getElem?_eq_some_iff.mp hv).1
      simpa using this
    have hb : (bs.map V.bl)[i]? = some (.bl bs[i]) := by rw [List.getElem?_map, List.getElem?_eq_getElem (by omega)]; rfl
    obtain ⟨w', q1, q2⟩ := rv.get hb
    have e : v = w' := by simp at hv; rw [q1] at hv; exact (Option.some.inj hv).symm
    subst e
    cases q2
    refine wpAny_truthy_bool ?_
    have e2 : bs.getD i false = bs[i] := by rw [List.getD_eq_getElem?_getD, List.getElem?_eq_getElem (by omega)]; rfl
    have hq : Q' (bs.getD i false) s' := hq
    rw [e2] at hq
    exact hq
  . refine ⟨.bl _, H, I.kept (fun b o e => hk b o ?_ (Heap.get?_push_of_some _ e)), rfl, ?_⟩
    . simp only [List.mem_singleton]
      exact Nat.ne_of_lt (Heap.lt_size e)
    . have e : (List.range its.toArray.size).any (fun i => bs.getD i false) = bs.any id := by
        rw [List.size_toArray, <- hlen]
        rw [Bool.eq_iff_iff, List.any_eq_true, List.any_eq_true]
        constructor
        . rintro ⟨i, hi, e⟩
          have hi' := List.mem_range.mp hi
          rw [List.getD_eq_getElem?_getD, List.getElem?_eq_getElem hi'] at e
          exact ⟨_, List.getElem_mem hi', e⟩
        . rintro ⟨b, hb, e⟩
          obtain ⟨i, hi, rfl⟩ := List.mem_iff_getElem.mp hb
          refine ⟨i, List.mem_range.mpr hi, ?_⟩
          rw [List.getD_eq_getElem?_getD, List.getElem?_eq_getElem hi]
          exact e
      rw [e]
      exact q
theorem kAny (hc : X.calm = true) (hK : X.K = K := by rfl) : CallR X (.builtin "any") (mAny K) := hK ▸ cm_any hc
theorem cm_any_ : CMono (mAny K) := fun xs H Q Q' h q => by
  unfold mAny at *
  split at q
  . obtain ⟨ns, a, q⟩ := q; exact ⟨ns, a, h _ _ q⟩
  . exact q.elim
end
end L2
namespace L2
theorem on1 {α : Type} {P : List α -> Prop} (h : ∀ a, P [a]) : ∀ us : List α, us.length = 1 -> P us
  | [a], _ => h a
theorem on2 {α : Type} {P : List α -> Prop} (h : ∀ a b, P [a, b]) : ∀ us : List α, us.length = 2 -> P us
  | [a, b], _ => h a b
theorem on3 {α : Type} {P : List α -> Prop} (h : ∀ a b c, P [a, b, c]) : ∀ us : List α, us.length = 3 -> P us
  | [a, b, c], _ => h a b c
theorem on4 {α : Type} {P : List α -> Prop} (h : ∀ a b c d, P [a, b, c, d]) : ∀ us : List α, us.length = 4 -> P us
  | [a, b, c, d], _ => h a b c d
theorem on5 {α : Type} {P : List α -> Prop} (h : ∀ a b c d e, P [a, b, c, d, e]) : ∀ us : List α, us.length = 5 -> P us
  | [a, b, c, d, e], _ => h a b c d e
open PySem in
theorem star_lst {xs es : List PySem.Expr} {p : Pos} {env : Env} : starEach (.List xs p :: es) env = (false, eval (.List xs p) env) :: starEach es env := by rfl
end L2
namespace L2
open PySem
end L2
namespace L2
open PySem PyProof.Rows
section
variable {prog : Program} {w : World} {A : Around} {E : Value -> Shared -> Prop} {s : Shared}
end
section
variable {X : Cx}
end
abbrev IsZp (h : Heap) (z TI TO : Addr) (f0 bb : Value) : Prop :=
  h.get? z = some { cls := .type "zip", dict := none, data := .fields #[f0, bb, .bool false, .ref TI, .ref TO], slots := #[] }
section
variable {prog : Program} {w : World} {A : Around} {E : Value -> Shared -> Prop} {s : Shared}
end
section
variable {prog : Program} {w : World} {A : Around} {E : Value -> Shared -> Prop} {s : Shared}
structure ZS (z TI TO i1 i2 l1 l2 T0 : Addr) (xs ys : Array Value) (i : Nat) (h : Heap) : Prop where
  zp : (i = 0 /\ IsZip h z TI TO .none) \/ (0 < i /\ (∃ b, IsZp h z TI TO (rawInt T0) b) /\ ∃ a b, IsPair h T0 a b)
  ti : IsPair h TI (.ref i1) (.ref i2)
  to : ∃ a b, IsPair h TO a b
  a1 : h.IsTupleIter i1 l1 i
  a2 : h.IsTupleIter i2 l2 i
  t1 : h.IsTuple l1 xs
  t2 : h.IsTuple l2 ys
theorem ZS.keep {z TI TO i1 i2 l1 l2 T0 S : Addr} {xs ys : Array Value} {i c : Nat} {h h' : Heap} {acc : Array Value} (Z : ZS z TI TO i1 i2 l1 l2 T0 xs ys i h) (hS : h.get? S = some { cls := .type "list", dict := none, data := .seq acc c, slots := #[] })
    (k : ∀ b o, b ≠ S -> h.get? b = some o -> h'.get? b = some o) : ZS z TI TO i1 i2 l1 l2 T0 xs ys i h' := by
  have kk : ∀ b o, h.get? b = some o -> o.cls ≠ .type "list" -> h'.get? b = some o := fun b o e n => k b o (fun q => by subst q; rw [hS] at e; cases e; exact n rfl) e
  obtain ⟨zp, ti, ⟨a, b, to⟩, ⟨o1, e1, c1, d1⟩, ⟨o2, e2, c2, d2⟩, ⟨p1, x1, y1, w1⟩, ⟨p2, x2, y2, w2⟩⟩ := Z
  refine ⟨?_, kk _ _ ti (by simp), ⟨a, b, kk _ _ to (by simp)⟩, ⟨o1, kk _ _ e1 (by rw [c1]; simp), c1, d1⟩, ⟨o2, kk _ _ e2 (by rw [c2]; simp), c2, d2⟩, ⟨p1, kk _ _ x1 (by rw [y1]; simp), y1, w1⟩, ⟨p2, kk _ _ x2 (by rw [y2]; simp), y2, w2⟩⟩
  rcases zp with ⟨e, q⟩ | ⟨e, ⟨b, q⟩, ⟨x, y, r⟩⟩
  . exact .inl ⟨e, kk _ _ q (by simp)⟩
  . exact .inr ⟨e, ⟨b, kk _ _ q (by simp)⟩, ⟨x, y, kk _ _ r (by simp)⟩⟩
end
section
variable {prog : Program} {w : World} {A : Around} {R : Result -> Shared -> Prop}
end
section
variable {prog : Program} {w : World} {A : Around} {R : Result -> Shared -> Prop} {s : Shared}
end
section
variable {prog : Program} {w : World} {A : Around} {E : Value -> Shared -> Prop} {s : Shared}
end
section
variable {X : Cx}
end
end L2
namespace L2
open PySem
def ins : Nat -> Nat -> Nat -> Nat
  | 0, b, q => 2 * q + b
  | i + 1, b, q => 2 * ins i b (q / 2) + q % 2
end L2
namespace L2
open PySem PyProof.Rows
theorem keys_none : typeLookup (.type "tuple") "keys" = pure none := by rw [typeLookup_type, builtinLookup_eq_fast]; kernel_rfl
section
variable {prog : Program} {w : World} {A : Around} {E : Value -> Shared -> Prop} {s : Shared}
set_option maxRecDepth 8000 in
theorem no_keys {a : Addr} {o : Obj} {xs : Array Value} {k : Nat} {Q : Option Value -> Shared -> Prop}
    (hx : s.heap.get? a = some o) (hc : o.cls = .type "tuple") (hdat : o.data = .seq xs k) (hd : o.dict = none) (hA : A.handled = none)
    (h : ∀ h' tk e, Heap.NewExcOf s.heap h' e "AttributeError" -> Q none { s with heap := h', toks := tk }) :
    wpAny (model prog w) A (getAttr? (.ref a) "keys") Q E s := by
  obtain ⟨c, dct, dat, sl⟩ := o
  simp only at hc hdat hd
  subst hc hdat hd
  obtain ⟨hp, g, d, tk, os⟩ := s
  have hT : ∀ tk', (⟨hp, g, d, tk', os⟩ : Shared).TypeIs (.ref a) "tuple" := fun _ => ⟨_, hx, rfl⟩
  have f1 := sub_AttributeError
  have f3 := F.slot_tuple_getattribute.lookup
  have f4 := F.slot_tuple_getattribute.bind (.ref a)
  have f5 := am_tuple_getattr_none
  unfold getAttr? getAttrBy? getAttrBy
  repeat (any_goals (first | assumption | exact hT _ | ((with_reducible show wpAny _ _ (call (Value.builtin "tuple.__getattribute__") _ _) _ _ _); refine call_meets F.slot_tuple_getattribute (hT _) am_entry_tuple_getattribute (F.args_tuple_getattribute_2 _ _) (meets_getattribute_miss_tuple a xs k sl "keys" _ keys_none (by decide +kernel) (by size_fits)) ⟨hx, hA, fun h' tk' e hx' => ?_⟩) | wp_step))
  obtain ⟨t', u', he⟩ := hx'.there
  show wpAny _ _ (getattributeRaised _ _ _ _ _ _ _) _ _ _
  unfold getattributeRaised
  repeat (any_goals (first | assumption | wp_step))
  exact h _ _ _ hx'.of
theorem entry_upd_loop : entryFor table "dict.update.loop" = some Builtin.«dict.update.loop» := entryFor_of_tree (by kernel_rfl)
theorem plain_upd_loop : plainId "dict.update.loop" = true := by decide +kernel
end
section
variable {prog : Program} {w : World} {K : Type} [DecidableEq K] {knd : KeyKind prog w K} {A : Around} {R : Result -> Shared -> Prop}
theorem set_pairs {E : Value -> Shared -> Prop} {s : Shared} {d : Addr} {kvs : List (K × Value)} {k : K} {key v : Value} {Q : Unit -> Shared -> Prop} (hkey : knd.is k key = true) (hm : s.heap.DictOf knd d kvs)
    (hQ : ∀ h' tk, h'.DictOf knd d (stored kvs k v) -> Heap.SameBut d s.heap h' -> Q () { s with heap := h', toks := tk }) (hsz : kvs.length <= sizeLine) :
    wpAny (model prog w) A (dictSet d key v) Q E s := by
  unfold dictSet
  refine wpAny_holding (wpAny_bind (knd.pyHash hkey ?_))
  exact wpAny_dictSetHashed_pairs (s := { s with toks := s.toks + 1 }) hkey hm (fun h' a b => hQ h' _ a b) hsz
theorem upd_loop {d it tp : Addr} {items : Array Value} {n : Nat} {res : Value} (hh : A.handled = none) (more : List (K × Value)) (c : Nat -> Addr) (ky : Nat -> Value) (hn : more.length = n) (hn1 : n <= 1000) (his : items.size = n)
    (hit0 : ∀ j, j < n -> items[j]? = some (.ref (c j))) (hmo : ∀ j, j < n -> ∃ k v, more[j]? = some (k, v) /\ knd.is k (ky j) = true) :
    ∀ (k i : Nat) (s : Shared), n - i = k -> i <= n -> s.heap.IsTupleIter it tp i -> s.heap.IsTuple tp items -> (∀ j, j < n -> ∀ kv, more[j]? = some kv -> s.heap.IsTuple (c j) #[ky j, kv.2]) -> s.heap.DictOf knd d (merged [] (more.take i)) ->
    (∀ h' tk, h'.DictOf knd d (merged [] more) -> (∀ b o, b ≠ d -> b ≠ it -> s.heap.get? b = some o -> h'.get? b = some o) -> R (.ok (.ret res)) { s with heap := h', toks := tk }) ->
    codeAny (model prog w) A (.builtin "dict.update.loop" ⟨[.ref d, .ref it, rawInt i, res], []⟩) R s := by
  have hsl : sizeLine = 2 ^ 24 := by rw [sizeLine_eq]
  intro k
  induction k with
  | zero =>
    intro i s hk hi hit ht hp hd hR
    have hin : i = n := by omega
    subst hin
    refine codeAny_builtin entry_upd_loop ?_
    rw [Around.under_plainId plain_upd_loop _]
    show wpAny _ A.in1 (pyNext (.ref it) >>= _) _ _ s
    have hdi : d ≠ it := fun e => by
      obtain ⟨o, _, _, ho, hc, _⟩ := id hd
      obtain ⟨o2, ho2, hc2, _⟩ := id hit
      rw [e, ho2] at ho
      cases ho
      have := hc.1
      rw [hc2] at this
      simp at this
    refine wpAny_bind (wpAny_pyNext_tuple_end (A := A.in1) hh hit ht (by rw [Array.getElem?_eq_none_iff]; omega) fun h' hk' => ?_)
    show wpAny _ _ (Builtin.Dict.addKeywords d [] >>= fun _ => ret res) _ _ _
    refine wpAny_bind (wpAny_pure (wpAny_pure ?_))
    have hd' : h'.DictOf knd d (merged [] (more.take i)) := Heap.DictOf.at hd fun o e => hk' _ _ hdi e
    rw [List.take_of_length_le (by omega)] at hd'
    exact hR h' s.toks hd' fun b o _ hb e => hk' b o hb e
  | succ k ih =>
    intro i s hk hi hit ht hp hd hR
    have hlt : i < n := by omega
    obtain ⟨kk, v, hmi, hkey⟩ := hmo i hlt
    refine codeAny_builtin entry_upd_loop ?_
    rw [Around.under_plainId plain_upd_loop _]
    show wpAny _ A.in1 (pyNext (.ref it) >>= _) _ _ s
    obtain ⟨od, _, _, hod, hcd, _⟩ := id hd
    have hcd1 := hcd.1
    obtain ⟨oi, hoi, hci, _⟩ := id hit
    obtain ⟨ot, hot, hct, _⟩ := id ht
    have cls : ∀ {b c : Addr} {o o' : Obj}, s.heap.get? b = some o -> s.heap.get? c = some o' -> o.cls ≠ o'.cls -> b ≠ c := fun {b c o o'} x y n q => by subst q; rw [x] at y; cases y; exact n rfl
    have hdi : d ≠ it := cls hod hoi (by rw [hcd1, hci]; simp)
    have hti : tp ≠ it := cls hot hoi (by rw [hct, hci]; simp)
    have htd : tp ≠ d := cls hot hod (by rw [hct, hcd1]; simp)
    have hci2 : ∀ j, j < n -> c j ≠ it /\ c j ≠ d := fun j hj => by
      obtain ⟨k2, v2, hm2, _⟩ := hmo j hj
      obtain ⟨o3, ho3, hc3, _⟩ := hp j hj _ hm2
      exact ⟨cls ho3 hoi (by rw [hc3, hci]; simp), cls ho3 hod (by rw [hc3, hcd1]; simp)⟩
    refine wpAny_bind (wpAny_pyNext_tuple_item (A := A.in1) hit ht (hit0 i hlt) fun h₁ hit₁ hs₁ => ?_)
    have hp1 : ∀ j, j < n -> ∀ kv, more[j]? = some kv -> h₁.IsTuple (c j) #[ky j, kv.2] := fun j hj kv hkv => (hp j hj kv hkv).extBut hs₁.extBut (hci2 j hj).1
    have hd1 : h₁.DictOf knd d (merged [] (more.take i)) := hd.sameBut hs₁ hdi
    have ht1 : h₁.IsTuple tp items := ht.extBut hs₁.extBut hti
    obtain ⟨oc, hoc, hcc, nc, hdc⟩ := id (hp1 i hlt _ hmi)
    show wpAny _ A.in1 (holding [Value.ref (c i)] _ >>= _) _ _ _
    refine wpAny_bind (wpAny_holding ?_)
    refine wpAny_bind (wpAny_tryCatch ?_)
    unfold Builtin.Dict.pairItems
    refine wpAny_bind (wpAny_typeOf (T := "tuple") ⟨oc, hoc, hcc⟩ ?_)
    have e1 : (Value.type "tuple" == Value.type "list" || Value.type "tuple" == Value.type "tuple") = true := by decide
    rw [if_pos e1]
    refine wpAny_bind (wpAny_seqItems hoc hdc (wpAny_pure ?_))
    show wpAny _ A.in1 (holding [ky i, v] (dictSet d (ky i) v)) _ _ _
    refine wpAny_holding (set_pairs hkey hd1 (fun h₂ tk hd₂ hs₂ => ?_) ?_)
    . refine wpAny_pure ⟨plainId_quiet plain_upd_loop _, ?_⟩
      have hI2 : h₂.IsTupleIter it tp (i + 1) := hit₁.extBut hs₂.extBut (Ne.symm hdi)
      have hd₂' : h₂.DictOf knd d (merged [] (more.take (i + 1))) := by
        rw [merged_take_succ [] more i (kk, v) hmi]
        exact hd₂
      have := ih (i + 1) { s with heap := h₂, toks := tk } (by omega) hlt hI2 (ht1.extBut hs₂.extBut htd) (fun j hj kv hkv => (hp1 j hj kv hkv).extBut hs₂.extBut (hci2 j hj).2) hd₂' fun h' tk' a1 a2 => hR h' tk' a1 fun b o b1 b2 e => a2 b o b1 b2 (hs₂.extBut _ _ b1 (hs₁.extBut _ _ b2 e))
      exact this
    . have := merged_length_le [] (more.take i)
      rw [List.length_take] at this
      simp only [List.length_nil] at this
      omega
end
section
variable {prog : Program} {w : World} {K : Type} [DecidableEq K] {knd : KeyKind prog w K} {A : Around} {E : Value -> Shared -> Prop} {s : Shared}
theorem call_dict_pairs {tp : Addr} {o : Obj} {items : Array Value} {k0 n : Nat} {Q : Value -> Shared -> Prop} (hh : A.handled = none) (more : List (K × Value)) (c : Nat -> Addr) (ky : Nat -> Value) (hn : more.length = n) (hn1 : n <= 1000) (his : items.size = n)
    (hit0 : ∀ j, j < n -> items[j]? = some (.ref (c j))) (hmo : ∀ j, j < n -> ∃ k v, more[j]? = some (k, v) /\ knd.is k (ky j) = true)
    (hx : s.heap.get? tp = some o) (hc : o.cls = .type "tuple") (hdat : o.data = .seq items k0) (hd : o.dict = none) (hp : ∀ j, j < n -> ∀ kv, more[j]? = some kv -> s.heap.IsTuple (c j) #[ky j, kv.2]) (hnd : (more.map (·.1)).Nodup)
    (h : ∀ h' tk, h'.DictOf knd s.heap.objs.size more -> (∀ b o, s.heap.get? b = some o -> h'.get? b = some o) -> Q (.ref s.heap.objs.size) { s with heap := h', toks := tk }) :
    wpAny (model prog w) A (call (.type "dict") [.ref tp]) Q E s := by
  refine callType_codes (Q₁ := fun obj s₁ => obj = .ref s.heap.objs.size /\ s₁ = { s with heap := s.heap.push { cls := .type "dict", data := .dict #[] } }) F.kt_called_dict (F.kt_typeCall_dict_1 _) F.entry_dict_init (kt_code_dict_new _ ⟨rfl, rfl⟩) ?_
  rintro obj s₁ ⟨rfl, rfl⟩
  have hnew : (s.heap.push { cls := .type "dict", data := .dict #[] }).DictOf knd s.heap.objs.size [] := Heap.DictOf.new s.heap
  have hx1 : (s.heap.push { cls := .type "dict", data := .dict #[] }).get? tp = some o := Heap.get?_push_of_some _ hx
  refine ⟨hnew.typeIs, F.args_dict_init_2 _ _, ?_⟩
  unfold Builtin.«dict.__init__»
  refine wpAny_bind ?_
  unfold Builtin.Dict.selfAndRest
  refine wpAny_bind (wpAny_notOrdered_dict hnew.typeIs ?_)
  show wpAny _ _ (pure (s.heap.objs.size, [Value.ref tp])) _ _ _
  refine wpAny_pure ?_
  show wpAny _ _ (Builtin.Dict.updateFrom "dict.__init__" s.heap.objs.size (.ref tp) [] .none) _ _ _
  unfold Builtin.Dict.updateFrom
  refine wpAny_bind (wpAny_typeOf (T := "tuple") ⟨o, hx1, hc⟩ ?_)
  rw [if_pos (by decide)]
  refine wpAny_bind (no_keys (A := A.in1.in1) hx1 hc hdat hd hh fun h₁ tk₁ e he => ?_)
  simp only [Option.isNone_none, if_true]
  refine wpAny_bind (wpAny_rule ?_)
  have ht1 : h₁.IsTuple tp items := ⟨o, he.keeps _ _ hx1, hc, k0, hdat⟩
  have keep1 : ∀ b o, s.heap.get? b = some o -> h₁.get? b = some o := fun b o q => he.keeps _ _ (Heap.get?_push_of_some _ q)
  refine wpAny_bind (wpAny_pyIter_tuple (s := { s with heap := h₁, toks := tk₁ }) ht1 ?_)
  have up : ∀ b o, h₁.get? b = some o -> (h₁.push { cls := .type "tuple_iterator", data := .fields #[.ref tp, .int 0 0] }).get? b = some o := fun b o q => Heap.get?_push_of_some _ q
  refine wpAny_pure ⟨plainId_quiet plain_upd_loop _, upd_loop (A := A.in1) (knd := knd) hh more c ky hn hn1 his hit0 hmo n 0 _ (Nat.sub_zero _) (Nat.zero_le _) ⟨_, Heap.get?_push_size _ rfl, rfl, rfl⟩ ⟨o, up _ _ (he.keeps _ _ hx1), hc, k0, hdat⟩ (fun j hj kv hkv => ?_) ?_ fun h' tk a1 a2 => ?_⟩
  . obtain ⟨o2, e2, r2⟩ := hp j hj kv hkv
    exact ⟨o2, up _ _ (keep1 _ _ e2), r2⟩
  . exact Heap.DictOf.at hnew fun o q => up _ _ (he.keeps _ _ q)
  . rw [merged_nil_of_nodup more hnd] at a1
    refine ⟨rfl, h h' tk a1 fun b o q => a2 b o (Nat.ne_of_lt (Heap.lt_size q)) (Nat.ne_of_lt (Heap.lt_size (keep1 _ _ q))) (up _ _ (keep1 _ _ q))⟩
end
section
variable {X : Cx}
def mDict (K : PySem.W.Frag) : List V -> Hp -> VK -> Prop := fun xs H Q => match xs with
  | [.ref p] => ∃ (us : List V) (kvs : List (Int × Int)), SqT K H p us /\ us.length = kvs.length /\ kvs.length <= 1000 /\ (∀ (j : Nat) kv, kvs[j]? = some kv -> ∃ c, us[j]? = some (.ref c) /\ SqT K H c [.int kv.1, .int kv.2]) /\ (kvs.map (·.1)).Nodup /\
      ∀ d, H d = none -> Q (.ref d) (upd H d (.dK (kvs.map fun kv => (Sum.inl kv.1, V.int kv.2))))
  | _ => False
theorem cm_dict (hc : X.calm = true) : CallR X (.type "dict") (mDict X.K) := by
  intro pins s σ H xs us Q I r q
  match xs, q with
  | [.ref p], ⟨ts, kvs, hp, hl, h1000, hkv, hnd, q⟩ =>
  cases r with
  | cons r rr =>
  cases rr
  cases r
  obtain ⟨its, rv, ⟨o, ho, hcl, ⟨n0, hdat⟩, hdn⟩, _⟩ := I.tupleN hp
  have e1 := rv.length
  -- the pairs as they stand
  have pr : ∀ j, j < kvs.length -> ∃ c t1 t2, its[j]? = some (Value.ref c) /\ s.heap.IsTuple c #[.int (kvs.getD j (0, 0)).1 t1, .int (kvs.getD j (0, 0)).2 t2] := fun j hj => by
    have hg : kvs[j]? = some (kvs.getD j (0, 0)) := by simp [List.getD_eq_getElem?_getD, hj]
    obtain ⟨c, hc1, hc2⟩ := hkv j _ hg
    obtain ⟨u, hu, ru⟩ := rv.get hc1
    cases ru
    obtain ⟨its2, rv2, p2, _⟩ := I.tuple hc2
    cases rv2 with
    | cons a1 a2 =>
    cases a2 with
    | cons a3 a4 =>
    cases a4
    obtain ⟨t1, rfl⟩ := a1
    obtain ⟨t2, rfl⟩ := a3
    exact ⟨c, t1, t2, hu, p2⟩
  have cf : ∃ (c : Nat -> Addr) (t1 t2 : Nat -> Tok), ∀ j, j < kvs.length -> its[j]? = some (Value.ref (c j)) /\ s.heap.IsTuple (c j) #[.int (kvs.getD j (0, 0)).1 (t1 j), .int (kvs.getD j (0, 0)).2 (t2 j)] := by
    have pr' : ∀ j, ∃ c t1 t2, j < kvs.length -> its[j]? = some (Value.ref c) /\ s.heap.IsTuple c #[.int (kvs.getD j (0, 0)).1 t1, .int (kvs.getD j (0, 0)).2 t2] := fun j => by
      by_cases hj : j < kvs.length
      . obtain ⟨c, t1, t2, h⟩ := pr j hj
        exact ⟨c, t1, t2, fun _ => h⟩
      . exact ⟨0, 0, 0, fun z => absurd z hj⟩
    exact ⟨fun j => (pr' j).choose, fun j => (pr' j).choose_spec.choose, fun j => (pr' j).choose_spec.choose_spec.choose, fun j hj => (pr' j).choose_spec.choose_spec.choose_spec hj⟩
  obtain ⟨c, t1, t2, hcf⟩ := cf
  let more : List (Key × Value) := (List.range kvs.length).map fun j => (Sum.inl (kvs.getD j (0, 0)).1, Value.int (kvs.getD j (0, 0)).2 (t2 j))
  have hml : more.length = kvs.length := by simp [more]
  have hmg : ∀ j, j < kvs.length -> more[j]? = some (Sum.inl (kvs.getD j (0, 0)).1, Value.int (kvs.getD j (0, 0)).2 (t2 j)) := fun j hj => by simp [more, hj]
  have hrng : (List.range kvs.length).map (fun j => kvs.getD j (0, 0)) = kvs := by
    refine List.ext_getElem? fun j => ?_
    rw [List.getElem?_map]
    by_cases hj : j < kvs.length
    . rw [List.getElem?_range hj]; simp [List.getD_eq_getElem?_getD, hj]
    . rw [List.getElem?_eq_none (by simp; omega), List.getElem?_eq_none (by omega)]; rfl
  have hmk : more.map (·.1) = (kvs.map (·.1)).map Sum.inl := by
    have : more.map (·.1) = ((List.range kvs.length).map (fun j => kvs.getD j (0, 0))).map (fun kv => (Sum.inl kv.1 : Key)) := by simp [more]
    rw [this, hrng, List.map_map]
    rfl
  have hrel : ∀ m, KV (((List.range m).map fun j => kvs.getD j (0, 0)).map fun kv => ((Sum.inl kv.1 : Key), V.int kv.2)) ((List.range m).map fun j => ((Sum.inl (kvs.getD j (0, 0)).1 : Key), Value.int (kvs.getD j (0, 0)).2 (t2 j))) := fun m => by
    rw [List.map_map]
    generalize List.range m = L
    induction L with
    | nil => exact .nil
    | cons j L ih => exact .cons ⟨rfl, ⟨_, rfl⟩⟩ ih
  refine call_dict_pairs (knd := mixKind X.prog X.w) (n := kvs.length) (I.ok.hd hc) more c (fun j => .int (kvs.getD j (0, 0)).1 (t1 j)) hml h1000 (by simp; omega) (fun j hj => by have := (hcf j hj).1; simpa using this) (fun j hj => ⟨_, _, hmg j hj, mixKind_int _ _ _ _⟩) ho hcl hdat hdn (fun j hj kv hkv2 => ?_) ?_ fun h' tk a1 a2 => ?_
  . rw [hmg j hj] at hkv2
    cases hkv2
    exact (hcf j hj).2
  . rw [hmk]
    have nd : ∀ l : List Int, l.Nodup -> (l.map (Sum.inl : Int -> Key)).Nodup := fun l => by
      induction l with
      | nil => intro _; exact List.nodup_nil
      | cons x l ih =>
        intro h
        rw [List.nodup_cons] at h
        rw [List.map_cons, List.nodup_cons]
        refine ⟨fun hm => ?_, ih h.2⟩
        obtain ⟨y, hy, e⟩ := List.mem_map.mp hm
        have : y = x := by simpa using e
        exact h.1 (this ▸ hy)
    exact nd _ hnd
  . refine ⟨.ref s.heap.objs.size, _, I.laid (t' := tk) (o := .dK (kvs.map fun kv => (Sum.inl kv.1, V.int kv.2))) a2 (Nat.le_refl _) ?_, rfl, q _ (I.hok.fresh (Nat.le_refl _))⟩
    refine ⟨by rw [List.length_map]; exact small_le h1000, beq_eq_false_iff_ne.mpr (Ne.symm (Nat.ne_of_lt I.big)), more, ?_, a1⟩
    have := hrel kvs.length
    rw [hrng] at this
    exact this
theorem kDict {K : PySem.W.Frag} (hc : X.calm = true) (hK : X.K = K := by rfl) : CallR X (.type "dict") (mDict K) := hK ▸ cm_dict hc
theorem cm_dict_ {K : PySem.W.Frag} : CMono (mDict K) := fun xs H Q Q' h q => by
  unfold mDict at *
  split at q
  . obtain ⟨us, kvs, h1, h2, h3, h4, h5, q⟩ := q; exact ⟨us, kvs, h1, h2, h3, h4, h5, fun d hd => h _ _ (q d hd)⟩
  . exact q.elim
end
abbrev EnB (h : Heap) (e it : Addr) (i : Int) (f0 bb old : Value) : Prop :=
  h.get? e = some { cls := .type "enumerate", dict := none, data := .fields #[f0, bb, .ref it, rawInt i, .none, old], slots := #[] }
section
variable {prog : Program} {w : World} {A : Around} {E : Value -> Shared -> Prop} {s : Shared}
end
section
variable {prog : Program} {w : World} {A : Around} {E : Value -> Shared -> Prop} {s : Shared}
def ES (e it : Addr) (i : Nat) (h : Heap) : Prop := (∃ old, IsEnum h e it i old) \/ ∃ (T0 : Addr) (bb old a b : Value), EnB h e it i (rawInt T0) bb old /\ IsPair h T0 a b
end
section
variable {prog : Program} {w : World} {K : Type} [DecidableEq K] {knd : KeyKind prog w K} {A : Around} {R : Result -> Shared -> Prop}
theorem ES.keep {e it d : Addr} {i : Nat} {h h' : Heap} {od : Obj} (Z : ES e it i h) (hd : h.get? d = some od) (hc : od.cls = .type "dict") (k : ∀ b o, b ≠ d -> h.get? b = some o -> h'.get? b = some o) : ES e it i h' := by
  have kk : ∀ b o, h.get? b = some o -> o.cls ≠ .type "dict" -> h'.get? b = some o := fun b o e n => k b o (fun q => by subst q; rw [hd] at e; cases e; exact n hc) e
  rcases Z with ⟨old, q⟩ | ⟨T0, bb, old, a, b, q, hT⟩
  . exact .inl ⟨old, kk _ _ q (by simp)⟩
  . exact .inr ⟨T0, bb, old, a, b, kk _ _ q (by simp), kk _ _ hT (by simp)⟩
end
section
variable {prog : Program} {w : World} {K : Type} [DecidableEq K] {knd : KeyKind prog w K} {A : Around} {E : Value -> Shared -> Prop} {s : Shared}
end
section
variable {X : Cx}
end
section
variable {X : Cx}
end
section
variable {X : Cx} {K : PySem.W.Frag}
end
section
variable {X : Cx} {K : PySem.W.Frag} {o e e2 : Expr} {to : TE} {t : TA} {apos cpos : Pos}
def mPopAt : V -> List V -> Hp -> VK -> Prop := fun x vs H Q => match x, vs with
  | .ref l, [.int i] => ∃ xs y, H l = some (.lst xs) /\ 0 <= i /\ i < 2 ^ 63 /\ xs[i.toNat]? = some y /\ Q y (upd H l (.lst (xs.eraseIdx i.toNat)))
  | _, _ => False
theorem mm_popAt : MtR X "list.pop" mPopAt := by
  intro pins s σ H x vs v us Q I rx rv q
  match x, vs, q with
  | .ref l, [.int i], ⟨xs, y, h1, h2, h3, h4, q⟩ =>
  refine mt_popAt pins s σ H _ _ v us Q I rx rv ⟨l, xs, i, i.toNat, y, rfl, rfl, h1, by omega, h3, ?_, h4, q⟩
  have hn : i.toNat < xs.length := (List.getElem?_eq_some_iff.mp h4).1
  unfold seqIndex?
  have hi : ¬ i < 0 := by omega
  have hb : (decide (0 <= i) && decide (i < (xs.length : Int))) = true := by
    rw [decide_eq_true h2, decide_eq_true (by omega)]
    rfl
  simp only [if_neg hi, hb]
  rfl
theorem kPopAt (ho : PE X o to) (ha : PA X [e] t) (hbase : attributeBase o "pop" X.env (eval o X.env) = eval o X.env := by rfl)
    (hfew : ((backTo cpos (starEach [e] X.env)).all (fun x => !x.1) && (backToKw cpos (keywordEach [] X.env)).all (fun x => x.1.isSome)
      && decide ([e].length + ([] : List Keyword).length + (if ([] : List Keyword).isEmpty then 0 else 1) < 30)) = true := by rfl)
    (hline : (apos.endLine == cpos.line) = true := by rfl) (hs : starEach [e] X.env = (false, eval e X.env) :: starEach [] X.env := by rfl) (hplain : (backTo cpos (starEach [] X.env)).any (·.1) = false := by rfl) (hK : X.K = K := by rfl) :
    PE X (.Call (.Attribute o "pop" apos) [e] [] cpos) (tBM K "list" mPopAt to t) := hK ▸ pe_bm PySem.F.plainAttrs_list PySem.F.slot_list_pop PySem.F.type_list_pop mm_popAt ho ha hbase hfew hline hs hplain
theorem bm_popAt : BMono mPopAt := fun x xs H Q Q' h q => by
  unfold mPopAt at *
  split at q
  . obtain ⟨ys, y, a, b, c, d, q⟩ := q; exact ⟨ys, y, a, b, c, d, h _ _ q⟩
  . exact q.elim
end
end L2
namespace L2
open PySem PySem.Spec PyProof.Rows
section
variable {X : Cx} {K : PySem.W.Frag}
end
end L2
namespace L2
open PySem PyProof.Rows
theorem vals_range : ∀ (n i : Nat) (us : List Value), us.length = n -> (∀ (j : Nat) (v : Value), us[j]? = some v -> ∃ t, v = Value.int (((i + j : Nat) : Int)) t) -> Vals ((List.range' i n).map fun (k : Nat) => V.int (k : Int)) us
  | 0, i, [], _, _ => .nil
  | 0, i, _ :: _, h, _ => by cases h
  | n + 1, i, [], h, _ => by cases h
  | n + 1, i, u :: us, h, hu => by
    obtain ⟨t, e⟩ := hu 0 u rfl
    have r : RelV (V.int ((i : Nat) : Int)) u := ⟨t, by rw [e]; rfl⟩
    rw [List.range'_succ, List.map_cons]
    refine .cons r (vals_range n (i + 1) us (by simpa using h) fun j v hj => ?_)
    obtain ⟨t, e⟩ := hu (j + 1) v (by simpa using hj)
    exact ⟨t, by rw [e]; congr 1; omega⟩
def tLR (ta : TA) : TE := fun σ H Q => ta σ H fun vs H1 => match vs with
  | [.int j] => ∃ n : Nat, j = n /\ n <= 1000 /\ ∀ p, H1 p = none -> Q (.ref p) (upd H1 p (.lst ((List.range n).map fun (k : Nat) => V.int (k : Int))))
  | _ => False
theorem em_lr {ta : TA} (h : AMono ta) : EMono (tLR ta) := fun σ H Q Q' k q => h _ _ _ _ (fun vs _ q => by
  match vs, q with
  | [.int j], ⟨n, h1, h2, q⟩ => exact ⟨n, h1, h2, fun d hd => k _ _ (q d hd)⟩) q
section
variable {X : Cx}
theorem kListRange {a : Expr} {ta : TA} {p pos p2 pos2 : Pos} (hc : X.calm = true) (hg : Gl X "list") (hm : X.mg "list" = none) (hg2 : Gl X "range") (hm2 : X.mg "range" = none) (ha : PA X [a] ta)
    (hs : starEach [a] X.env = [(false, eval a X.env)] := by rfl)
    (hs3 : starEach [.Call (.Name "range" p2) [a] [] pos2] X.env = [(false, eval (.Call (.Name "range" p2) [a] [] pos2) X.env)] := by rfl) :
    PE X (.Call (.Name "list" p) [.Call (.Name "range" p2) [a] [] pos2] [] pos) (tLR ta) := by
  intro pins s σ H Q I h
  refine Call_ (ld_blt I hg hm (by rfl : bootBuiltins "list" = some (.type "list")) (PyProof.Rows.callWith_type1 ?_ (by rw [hs3]; rfl) (by rfl)))
  rw [hs3]
  show wpAny _ _ (spliced ((false, eval (.Call (.Name "range" p2) [a] [] pos2) X.env) :: [])) _ _ s
  refine Calls.spliced_cons ?_
  refine Call_ (ld_blt I hg2 hm2 (by rfl : bootBuiltins "range" = some (.type "range")) (PyProof.Rows.callWith_type1 (thn (ha pos2 pins s σ H _ I h) fun us s1 ⟨vs, H1, I1, r1, q1⟩ => ?_) hs rfl))
  match vs, q1, r1 with
  | [.int j], ⟨n, hj, hn, q⟩, r1 =>
  subst hj
  cases r1 with
  | cons r rr =>
  cases rr
  obtain ⟨t, rfl⟩ := r
  refine call_range_1 ?_
  refine Calls.spliced_nil ?_
  refine call_list_range (n := n) (I.ok.hd hc) (IsRange.new ..) (small_one (by omega) (by omega) (by omega) (by omega)) ?_ (by omega) fun h' tk acc c' hk hS hacc => ?_
  . rw [rangeSize_one]; split <;> omega
  have keep : ∀ b u, s1.heap.get? b = some u -> h'.get? b = some u := fun b u e => hk b u (Heap.get?_push_of_some _ e)
  have hsz : (s1.heap.push { cls := .type "range", data := .fields #[.int 0 s1.toks, .int (n : Int) t, .int 1 (s1.toks + 1)] }).objs.size = s1.heap.objs.size + 1 := by simp [Heap.push]
  have hle : s1.heap.objs.size <= (s1.heap.push { cls := .type "range", data := .fields #[.int 0 s1.toks, .int (n : Int) t, .int 1 (s1.toks + 1)] }).objs.size := by rw [hsz]; exact Nat.le_succ _
  refine ⟨.ref _, _, I1.laid (t' := tk) (o := .lst ((List.range n).map fun (k : Nat) => V.int (k : Int))) keep hle ?_, rfl, q _ (I1.hok.fresh hle)⟩
  refine ⟨by rw [List.length_map, List.length_range]; exact small_le hn, acc.toList, c', ?_, hS⟩
  rw [List.range_eq_range']
  refine vals_range n 0 acc.toList (by rw [Array.length_toList]; exact hacc.1) fun j v hj => ?_
  obtain ⟨t, e⟩ := hacc.2 j v (by rw [<- Array.getElem?_toList]; exact hj)
  exact ⟨t, by rw [e]; congr 1; omega⟩
end
section
variable {X : Cx}
end
section
variable {X : Cx} {K : PySem.W.Frag}
end
end L2
namespace HT
open PySem PyProof.Rows
section
variable {prog : Program} {w : World} {A : Around} {E : Value -> Shared -> Prop} {s : Shared}
end
end HT
namespace L2
open PySem PySem.Spec PyProof.Rows
section
variable {X : Cx} {K : PySem.W.Frag} {e sx : Expr} {te ts : TE} {lo hi : Option Expr} {tl th : TO} {pos p2 : Pos}
end
end L2
namespace HT
open PySem PyProof.Rows
section
variable {prog : Program} {w : World} {A : Around} {E : Value -> Shared -> Prop} {s : Shared}
end
end HT
namespace L2
open PySem PySem.Spec PyProof.Rows
section
variable {X : Cx} {K : PySem.W.Frag}
end
section
variable {X : Cx} {K : PySem.W.Frag}
def mMinL (K : PySem.W.Frag) : List V -> Hp -> VK -> Prop := fun xs H Q => match xs with
  | [.ref l] => ∃ ns : List Int, SqL K H l (ns.map V.int) /\ 0 < ns.length /\ ∀ M, M ∈ ns -> (∀ a ∈ ns, M <= a) -> Q (.int M) H
  | _ => False
theorem cm_minL (hc : X.calm = true) : CallR X (.builtin "min") (mMinL X.K) := by
  intro pins s σ H xs us Q I r q
  match xs, q with
  | [.ref l], q =>
  obtain ⟨ns, hl, hne, q⟩ := q
  obtain ⟨u, rfl, ru⟩ := vals1 r
  cases ru
  obtain ⟨its, rv, pl, hz⟩ := I.list hl
  have hi : IntsAre its ns := by simpa using intsAre_of rv
  obtain ⟨zs, hzs⟩ := (hi.allInts).items
  have pl' := pl.isList
  rw [hzs] at pl'
  have hns : ns = zs.toList.map (·.1) := by
    rw [<- hi.numsOf, <- nums_intItems, <- hzs]
  have hsz : 0 < zs.size := by
    rw [hns, List.length_map, Array.length_toList] at hne; exact hne
  refine min_intList (I.ok.hd hc) pl' hsz fun v h' tk hv hk => ?_
  obtain ⟨t, rfl⟩ := intItems_at hv
  obtain ⟨h1, h2⟩ := argBest_lt (numAt zs) (zs.size - 1)
  refine ⟨.int _, H, I.kept hk, ⟨t, rfl⟩, q _ ?_ fun a ha => ?_⟩
  . rw [hns, numAt_eq]; exact getD_mem (by rw [List.length_map, Array.length_toList]; omega)
  . rw [hns] at ha
    obtain ⟨j, hj, rfl⟩ := mem_getD ha
    rw [List.length_map, Array.length_toList] at hj
    rw [<- numAt_eq]; exact h2 j (by omega)
theorem kMinL (hc : X.calm = true) (hK : X.K = K := by rfl) : CallR X (.builtin "min") (mMinL K) := hK ▸ cm_minL hc
end
section
variable {X : Cx} {K : PySem.W.Frag} {e sx : Expr} {te ts : TE} {lo hi : Option Expr} {tl th : TO} {pos p2 : Pos}
end
abbrev BV := List (List Bool × Addr × V)
abbrev BVr : BV -> List (List Bool × Addr × Value) -> Prop := Paired fun p q => p.1 = q.1 /\ p.2.1 = q.2.1 /\ RelV p.2.2 q.2.2
def dV (P : Program) (w : World) (a : Addr) (kvs : BV) : HO := .ext fun h => ∃ xs o es ep, BVr kvs xs /\ h.get? a = some o /\ o.ExactDict /\ o.data = .dict es ep /\ es.toList = xs.map (entryOfKey (tupleKind (boolKind P w))) /\ (xs.map (·.1)).Nodup /\ xs.length <= sizeLine /\ (a == sysModules) = false
def KeysV (H : Hp) (kvs : BV) : Prop := ∀ q ∈ kvs, H q.2.1 = some (.tup (q.1.map V.bl))
section
variable {P : Program} {w : World} {H : Hp} {h : Heap} {a : Addr}
end
theorem KeysV.same {H H' : Hp} {kvs : BV} (h : KeysV H kvs) (s : ∀ b ys, H b = some (.tup ys) -> H' b = some (.tup ys)) : KeysV H' kvs := fun q hq => s _ _ (h q hq)
theorem KeysV.upd {P : Program} {w : World} {H : Hp} {kvs k1 : BV} {a : Addr} {o : HO} (h : KeysV H kvs) (e : H a = some (dV P w a k1)) : KeysV (upd H a o) kvs := fun q hq => by
  have := h q hq
  rw [upd_ne (fun z => by rw [z, e] at this; exact nomatch Option.some.inj this)]
  exact this
section
variable {X : Cx} {o i e f value : Expr} {pos pos' tpos apos cpos : Pos} {td ty tx tv : TE}
end
section
variable {X : Cx} {P : Program} {w : World} {o i e f : Expr} {pos apos cpos : Pos} {td ty tx : TE}
end
section
variable {prog : Program} {w : World} {A : Around} {E : Value -> Shared -> Prop} {s : Shared} {d it : Addr} {o : Obj} {es : Array DictEntry} {ep i : Nat}
end
section
variable {X : Cx} {pins : List (Addr × Obj)} {σ : St} {H : Hp} {s : Shared}
theorem BVr.get {kvs : BV} {xs : List (List Bool × Addr × Value)} (r : BVr kvs xs) : ∀ {i : Nat} {q : List Bool × Addr × V}, kvs[i]? = some q -> ∃ x, xs[i]? = some x /\ x.2.1 = q.2.1 := by
  induction r with
  | nil => intro i q e; simp at e
  | @cons a b l1 l2 h t ih =>
    intro i q e
    cases i with
    | zero =>
      simp at e; subst e
      exact ⟨b, by simp, h.2.1.symm⟩
    | succ i =>
      obtain ⟨v, h1, h2⟩ := ih (i := i) (q := q) (by simpa using e)
      exact ⟨v, by simpa using h1, h2⟩
end
section
variable {X : Cx} {K : PySem.W.Frag}
end
section
variable {X : Cx} {K : PySem.W.Frag}
def mMaxL (K : PySem.W.Frag) : List V -> Hp -> VK -> Prop := fun xs H Q => match xs with
  | [.ref l] => ∃ ns : List Int, SqL K H l (ns.map V.int) /\ 0 < ns.length /\ ∀ M, M ∈ ns -> (∀ a ∈ ns, a <= M) -> Q (.int M) H
  | _ => False
theorem cm_maxL (hc : X.calm = true) : CallR X (.builtin "max") (mMaxL X.K) := by
  intro pins s σ H xs us Q I r q
  match xs, q with
  | [.ref l], q =>
  obtain ⟨ns, hl, hne, q⟩ := q
  obtain ⟨u, rfl, ru⟩ := vals1 r
  cases ru
  obtain ⟨its, rv, pl, hz⟩ := I.list hl
  have hi : IntsAre its ns := by simpa using intsAre_of rv
  obtain ⟨zs, hzs⟩ := (hi.allInts).items
  have pl' := pl.isList
  rw [hzs] at pl'
  have hns : ns = zs.toList.map (·.1) := by
    rw [<- hi.numsOf, <- nums_intItems, <- hzs]
  have hsz : 0 < zs.size := by
    rw [hns, List.length_map, Array.length_toList] at hne; exact hne
  refine max_intList (I.ok.hd hc) pl' hsz fun v h' tk hv hk => ?_
  obtain ⟨t, rfl⟩ := intItems_at hv
  obtain ⟨h1, h2⟩ := argBest_gt (numAt zs) (zs.size - 1)
  refine ⟨.int _, H, I.kept hk, ⟨t, rfl⟩, q _ ?_ fun a ha => ?_⟩
  . rw [hns, numAt_eq]; exact getD_mem (by rw [List.length_map, Array.length_toList]; omega)
  . rw [hns] at ha
    obtain ⟨j, hj, rfl⟩ := mem_getD ha
    rw [List.length_map, Array.length_toList] at hj
    rw [<- numAt_eq]; exact h2 j (by omega)
theorem kMaxL (hc : X.calm = true) (hK : X.K = K := by rfl) : CallR X (.builtin "max") (mMaxL K) := hK ▸ cm_maxL hc
theorem cm_maxL_ : CMono (mMaxL K) := fun xs H Q Q' h q => by
  unfold mMaxL at *
  split at q
  . obtain ⟨ns, a, b, q⟩ := q; exact ⟨ns, a, b, fun M x y => h _ _ (q M x y)⟩
  . exact q.elim
end
end L2
namespace Mine
open PySem L2
def top (i : Nat) : Stmt := PySem.Challenge.pw_flips_k36_whole_every_table_with_a_glanc.main.body.getD i (.Pass ⟨0, 0, 0, 0⟩)
abbrev s_two_to : Stmt := top 1
abbrev s_power_of : Stmt := top 2
abbrev s_sign : Stmt := top 4
abbrev s_within : Stmt := top 5
abbrev s_many_in : Stmt := top 6
abbrev s_sets_of : Stmt := top 7
abbrev s_share_of : Stmt := top 9
abbrev s_common_divisor : Stmt := top 10
abbrev s_odd_squares : Stmt := top 12
abbrev s_is_odd_with : Stmt := top 13
abbrev s_squares_by_level : Stmt := top 14
abbrev s_over_all : Stmt := top 15
abbrev s_stays_by : Stmt := top 17
abbrev s_squares : Stmt := top 19
abbrev s_rest_of : Stmt := top 21
abbrev s_untold_sets : Stmt := top 22
abbrev s_matters_within : Stmt := top 23
abbrev s_stays_within : Stmt := top 24
abbrev s_stays_with_rest : Stmt := top 25
abbrev s_differ_at_least : Stmt := top 26
abbrev s_most_squares_within : Stmt := top 27
abbrev s__law_feed : Stmt := top 29
abbrev s__law_draw : Stmt := top 30
abbrev s__law_n : Stmt := top 31
abbrev s__law_many : Stmt := top 32
abbrev s__law_table : Stmt := top 33
abbrev s__law_sum : Stmt := top 34
abbrev s__law_share : Stmt := top 35
abbrev s__law_shaking : Stmt := top 36
abbrev s__law_power : Stmt := top 37
abbrev s__law_sets : Stmt := top 38
abbrev s__law_best : Stmt := top 39
abbrev s__law_nearest : Stmt := top 40
abbrev s__law_glance : Stmt := top 41
abbrev s__law_between : Stmt := top 42
abbrev s__law_staying : Stmt := top 43
abbrev s__law_borne : Stmt := top 44
abbrev s__law_has : Stmt := top 45
abbrev s_law : Stmt := top 46
local macro_rules | `(tactic| walk_at "f") => `(tactic| exact ⟨rfl, rfl, rfl, by decide +kernel, rfl, by decide +kernel, by decide +kernel⟩)
theorem sc_two_to : FnScope ["n"] ["n"] (defScope s_two_to) := by walk_at "f"
theorem sc_power_of : FnScope ["base", "times", "power", "step"] ["base", "times"] (defScope s_power_of) := by walk_at "f"
theorem sc_sign : FnScope ["subset", "place"] ["subset", "place"] (defScope s_sign) := by walk_at "f"
theorem sc_within : FnScope ["subset", "other"] ["subset", "other"] (defScope s_within) := by walk_at "f"
theorem sc_many_in : FnScope ["subset", "many", "rest"] ["subset"] (defScope s_many_in) := by walk_at "f"
theorem sc_sets_of : FnScope ["n", "k", "many"] ["n", "k"] (defScope s_sets_of) := by walk_at "f"
theorem sc_share_of : FnScope ["top", "bottom", "divisor"] ["top", "bottom"] (defScope s_share_of) := by walk_at "f"
theorem sc_common_divisor : FnScope ["one", "other", "greater", "less", "rest"] ["one", "other"] (defScope s_common_divisor) := by walk_at "f"
theorem sc_odd_squares : FnScope ["one", "subset"] ["one", "subset"] (defScope s_odd_squares) := by walk_at "f"
theorem sc_is_odd_with : FnScope ["one", "other"] ["one", "other"] (defScope s_is_odd_with) := by walk_at "f"
theorem sc_squares_by_level : FnScope ["one", "found", "subset", "weight", "many"] ["one"] (defScope s_squares_by_level) := by walk_at "f"
theorem sc_over_all : FnScope ["one", "squares"] ["one", "squares"] (defScope s_over_all) := by walk_at "f"
theorem sc_stays_by : FnScope ["n", "squares", "share", "bottom", "less", "parts", "whole"] ["n", "squares", "share"] (defScope s_stays_by) := by walk_at "f"
theorem sc_squares : FnScope ["one"] ["one"] (defScope s_squares) := by walk_at "f"
theorem sc_rest_of : FnScope ["glance"] ["glance"] (defScope s_rest_of) := by walk_at "f"
theorem sc_untold_sets : FnScope ["glance", "seen"] ["glance"] (defScope s_untold_sets) := by walk_at "f"
theorem sc_matters_within : FnScope ["glance", "subset", "low", "may_be_more", "high"] ["glance", "subset"] (defScope s_matters_within) := by walk_at "f"
theorem sc_stays_within : FnScope ["glance", "share", "untold", "alone"] ["glance", "share"] (defScope s_stays_within) := by walk_at "f"
theorem sc_stays_with_rest : FnScope ["glance", "many", "share", "by_level"] ["glance", "many", "share"] (defScope s_stays_with_rest) := by walk_at "f"
theorem sc_differ_at_least : FnScope ["glance", "k", "greatest", "lead", "d"] ["glance", "k"] (defScope s_differ_at_least) := by walk_at "f"
theorem sc_most_squares_within : FnScope ["glance", "outer", "seen"] ["glance", "outer"] (defScope s_most_squares_within) := by walk_at "f"
theorem sc__law_feed : FnScope ["_law_script", "_law_k", "_law_cell"] ["_law_script", "_law_k"] (defScope s__law_feed) := by walk_at "f"
theorem sc__law_draw : FnScope ["_law_feed_here", "_law_many_here", "_law_figure", "_law_number"] ["_law_feed_here", "_law_many_here"] (defScope s__law_draw) := by walk_at "f"
theorem sc__law_n : FnScope ["_law_feed_here"] ["_law_feed_here"] (defScope s__law_n) := by walk_at "f"
theorem sc__law_many : FnScope ["_law_number", "_law_found"] ["_law_number"] (defScope s__law_many) := by walk_at "f"
theorem sc__law_table : FnScope ["_law_feed_here", "_law_n_here", "_law_size", "_law_way", "_law_some", "_law_answers", "_law_table_here", "_law_least", "_law_k", "_law_p"] ["_law_feed_here", "_law_n_here"] (defScope s__law_table) := by walk_at "f"
theorem sc__law_sum : FnScope ["_law_table_here", "_law_weights", "_law_step", "_law_p", "_law_one", "_law_other", "_law_terms"] ["_law_table_here"] (defScope s__law_sum) := by walk_at "f"
theorem sc__law_share : FnScope ["_law_top", "_law_bottom", "_law_one", "_law_other", "_law_rest"] ["_law_top", "_law_bottom"] (defScope s__law_share) := by walk_at "f"
theorem sc__law_shaking : FnScope ["_law_feed_here", "_law_part", "_law_bottom"] ["_law_feed_here", "_law_part"] (defScope s__law_shaking) := by walk_at "f"
theorem sc__law_power : FnScope ["_law_base", "_law_times", "_law_found", "_law_k"] ["_law_base", "_law_times"] (defScope s__law_power) := by walk_at "f"
theorem sc__law_sets : FnScope ["_law_n_here", "_law_k"] ["_law_n_here", "_law_k"] (defScope s__law_sets) := by walk_at "f"
theorem sc__law_best : FnScope ["_law_table_here", "_law_some", "_law_counts", "_law_p", "_law_near"] ["_law_table_here", "_law_some"] (defScope s__law_best) := by walk_at "f"
theorem sc__law_nearest : FnScope ["_law_table_here", "_law_k", "_law_found", "_law_some", "_law_other"] ["_law_table_here", "_law_k"] (defScope s__law_nearest) := by walk_at "f"
theorem sc__law_glance : FnScope ["_law_feed_here", "_law_table_here", "_law_size", "_law_n_here", "_law_weights", "_law_part", "_law_way", "_law_sets_here"] ["_law_feed_here", "_law_table_here"] (defScope s__law_glance) := by walk_at "f"
theorem sc__law_between : FnScope ["_law_low", "_law_much", "_law_whole", "_law_high"] ["_law_low", "_law_much", "_law_whole", "_law_high"] (defScope s__law_between) := by walk_at "f"
theorem sc__law_staying : FnScope ["_law_table_here", "_law_share_here", "_law_size", "_law_n_here", "_law_top", "_law_bottom", "_law_much", "_law_some", "_law_there", "_law_count"] ["_law_table_here", "_law_share_here"] (defScope s__law_staying) := by walk_at "f"
theorem sc__law_borne : FnScope ["_law_table_here", "_law_bounds", "_law_some", "_law_share_here", "_law_few", "_law_size", "_law_count", "_law_whole"] ["_law_table_here", "_law_bounds", "_law_some", "_law_share_here", "_law_few"] (defScope s__law_borne) := by walk_at "f"
theorem sc__law_has : FnScope ["_law_table_here", "_law_terms", "_law_weights"] ["_law_table_here", "_law_terms"] (defScope s__law_has) := by walk_at "f"
theorem sc_law : FnScope ["_law_script", "_law_k", "_law_feed_here", "_law_n_here", "_law_table_here", "_law_glance_here", "_law_some", "_law_share_here", "_law_few", "_law_bounds", "_law_tables", "_law_size", "_law_one"] ["_law_script"] (defScope s_law) := by walk_at "f"
set_option genInjectivity false
set_option genSizeOf false
structure Txt (K : W.Frag) (mg : Str -> Option Value) where
  f_two_to : Addr
  d_two_to : FuncData
  F_two_to : Fun K "two_to" "two_to" s_two_to f_two_to d_two_to
  b_two_to : Binds K d_two_to ["n"] []
  m_two_to : mg "two_to" = some (.ref f_two_to)
  f_power_of : Addr
  d_power_of : FuncData
  F_power_of : Fun K "power_of" "power_of" s_power_of f_power_of d_power_of
  b_power_of : Binds K d_power_of ["base", "times"] []
  m_power_of : mg "power_of" = some (.ref f_power_of)
  f_sign : Addr
  d_sign : FuncData
  F_sign : Fun K "sign" "sign" s_sign f_sign d_sign
  b_sign : Binds K d_sign ["subset", "place"] []
  m_sign : mg "sign" = some (.ref f_sign)
  f_within : Addr
  d_within : FuncData
  F_within : Fun K "within" "within" s_within f_within d_within
  b_within : Binds K d_within ["subset", "other"] []
  m_within : mg "within" = some (.ref f_within)
  f_many_in : Addr
  d_many_in : FuncData
  F_many_in : Fun K "many_in" "many_in" s_many_in f_many_in d_many_in
  b_many_in : Binds K d_many_in ["subset"] []
  m_many_in : mg "many_in" = some (.ref f_many_in)
  f_sets_of : Addr
  d_sets_of : FuncData
  F_sets_of : Fun K "sets_of" "sets_of" s_sets_of f_sets_of d_sets_of
  b_sets_of : Binds K d_sets_of ["n", "k"] []
  m_sets_of : mg "sets_of" = some (.ref f_sets_of)
  f_share_of : Addr
  d_share_of : FuncData
  F_share_of : Fun K "share_of" "share_of" s_share_of f_share_of d_share_of
  b_share_of : Binds K d_share_of ["top", "bottom"] []
  m_share_of : mg "share_of" = some (.ref f_share_of)
  f_common_divisor : Addr
  d_common_divisor : FuncData
  F_common_divisor : Fun K "common_divisor" "common_divisor" s_common_divisor f_common_divisor d_common_divisor
  b_common_divisor : Binds K d_common_divisor ["one", "other"] []
  m_common_divisor : mg "common_divisor" = some (.ref f_common_divisor)
  f_odd_squares : Addr
  d_odd_squares : FuncData
  F_odd_squares : Fun K "odd_squares" "odd_squares" s_odd_squares f_odd_squares d_odd_squares
  b_odd_squares : Binds K d_odd_squares ["one", "subset"] []
  m_odd_squares : mg "odd_squares" = some (.ref f_odd_squares)
  f_is_odd_with : Addr
  d_is_odd_with : FuncData
  F_is_odd_with : Fun K "is_odd_with" "is_odd_with" s_is_odd_with f_is_odd_with d_is_odd_with
  b_is_odd_with : Binds K d_is_odd_with ["one", "other"] []
  m_is_odd_with : mg "is_odd_with" = some (.ref f_is_odd_with)
  f_squares_by_level : Addr
  d_squares_by_level : FuncData
  F_squares_by_level : Fun K "squares_by_level" "squares_by_level" s_squares_by_level f_squares_by_level d_squares_by_level
  b_squares_by_level : Binds K d_squares_by_level ["one"] []
  m_squares_by_level : mg "squares_by_level" = some (.ref f_squares_by_level)
  f_over_all : Addr
  d_over_all : FuncData
  F_over_all : Fun K "over_all" "over_all" s_over_all f_over_all d_over_all
  b_over_all : Binds K d_over_all ["one", "squares"] []
  m_over_all : mg "over_all" = some (.ref f_over_all)
  f_stays_by : Addr
  d_stays_by : FuncData
  F_stays_by : Fun K "stays_by" "stays_by" s_stays_by f_stays_by d_stays_by
  b_stays_by : Binds K d_stays_by ["n", "squares", "share"] []
  m_stays_by : mg "stays_by" = some (.ref f_stays_by)
  f_squares : Addr
  d_squares : FuncData
  F_squares : Fun K "squares" "squares" s_squares f_squares d_squares
  b_squares : Binds K d_squares ["one"] []
  m_squares : mg "squares" = some (.ref f_squares)
  f_rest_of : Addr
  d_rest_of : FuncData
  F_rest_of : Fun K "rest_of" "rest_of" s_rest_of f_rest_of d_rest_of
  b_rest_of : Binds K d_rest_of ["glance"] []
  m_rest_of : mg "rest_of" = some (.ref f_rest_of)
  f_untold_sets : Addr
  d_untold_sets : FuncData
  F_untold_sets : Fun K "untold_sets" "untold_sets" s_untold_sets f_untold_sets d_untold_sets
  b_untold_sets : Binds K d_untold_sets ["glance"] []
  m_untold_sets : mg "untold_sets" = some (.ref f_untold_sets)
  f_matters_within : Addr
  d_matters_within : FuncData
  F_matters_within : Fun K "matters_within" "matters_within" s_matters_within f_matters_within d_matters_within
  b_matters_within : Binds K d_matters_within ["glance", "subset"] []
  m_matters_within : mg "matters_within" = some (.ref f_matters_within)
  f_stays_within : Addr
  d_stays_within : FuncData
  F_stays_within : Fun K "stays_within" "stays_within" s_stays_within f_stays_within d_stays_within
  b_stays_within : Binds K d_stays_within ["glance", "share"] []
  m_stays_within : mg "stays_within" = some (.ref f_stays_within)
  f_stays_with_rest : Addr
  d_stays_with_rest : FuncData
  F_stays_with_rest : Fun K "stays_with_rest" "stays_with_rest" s_stays_with_rest f_stays_with_rest d_stays_with_rest
  b_stays_with_rest : Binds K d_stays_with_rest ["glance", "many", "share"] []
  m_stays_with_rest : mg "stays_with_rest" = some (.ref f_stays_with_rest)
  f_differ_at_least : Addr
  d_differ_at_least : FuncData
  F_differ_at_least : Fun K "differ_at_least" "differ_at_least" s_differ_at_least f_differ_at_least d_differ_at_least
  b_differ_at_least : Binds K d_differ_at_least ["glance", "k"] []
  m_differ_at_least : mg "differ_at_least" = some (.ref f_differ_at_least)
  f_most_squares_within : Addr
  d_most_squares_within : FuncData
  F_most_squares_within : Fun K "most_squares_within" "most_squares_within" s_most_squares_within f_most_squares_within d_most_squares_within
  b_most_squares_within : Binds K d_most_squares_within ["glance", "outer"] []
  m_most_squares_within : mg "most_squares_within" = some (.ref f_most_squares_within)
  f__law_feed : Addr
  d__law_feed : FuncData
  F__law_feed : Fun K "_law_feed" "_law_feed" s__law_feed f__law_feed d__law_feed
  b__law_feed : Binds K d__law_feed ["_law_script", "_law_k"] []
  m__law_feed : mg "_law_feed" = some (.ref f__law_feed)
  f__law_draw : Addr
  d__law_draw : FuncData
  F__law_draw : Fun K "_law_draw" "_law_draw" s__law_draw f__law_draw d__law_draw
  b__law_draw : Binds K d__law_draw ["_law_feed_here", "_law_many_here"] []
  m__law_draw : mg "_law_draw" = some (.ref f__law_draw)
  f__law_n : Addr
  d__law_n : FuncData
  F__law_n : Fun K "_law_n" "_law_n" s__law_n f__law_n d__law_n
  b__law_n : Binds K d__law_n ["_law_feed_here"] []
  m__law_n : mg "_law_n" = some (.ref f__law_n)
  f__law_many : Addr
  d__law_many : FuncData
  F__law_many : Fun K "_law_many" "_law_many" s__law_many f__law_many d__law_many
  b__law_many : Binds K d__law_many ["_law_number"] []
  m__law_many : mg "_law_many" = some (.ref f__law_many)
  f__law_table : Addr
  d__law_table : FuncData
  F__law_table : Fun K "_law_table" "_law_table" s__law_table f__law_table d__law_table
  b__law_table : Binds K d__law_table ["_law_feed_here", "_law_n_here"] []
  m__law_table : mg "_law_table" = some (.ref f__law_table)
  f__law_sum : Addr
  d__law_sum : FuncData
  F__law_sum : Fun K "_law_sum" "_law_sum" s__law_sum f__law_sum d__law_sum
  b__law_sum : Binds K d__law_sum ["_law_table_here"] []
  m__law_sum : mg "_law_sum" = some (.ref f__law_sum)
  f__law_share : Addr
  d__law_share : FuncData
  F__law_share : Fun K "_law_share" "_law_share" s__law_share f__law_share d__law_share
  b__law_share : Binds K d__law_share ["_law_top", "_law_bottom"] []
  m__law_share : mg "_law_share" = some (.ref f__law_share)
  f__law_shaking : Addr
  d__law_shaking : FuncData
  F__law_shaking : Fun K "_law_shaking" "_law_shaking" s__law_shaking f__law_shaking d__law_shaking
  b__law_shaking : Binds K d__law_shaking ["_law_feed_here", "_law_part"] []
  m__law_shaking : mg "_law_shaking" = some (.ref f__law_shaking)
  f__law_power : Addr
  d__law_power : FuncData
  F__law_power : Fun K "_law_power" "_law_power" s__law_power f__law_power d__law_power
  b__law_power : Binds K d__law_power ["_law_base", "_law_times"] []
  m__law_power : mg "_law_power" = some (.ref f__law_power)
  f__law_sets : Addr
  d__law_sets : FuncData
  F__law_sets : Fun K "_law_sets" "_law_sets" s__law_sets f__law_sets d__law_sets
  b__law_sets : Binds K d__law_sets ["_law_n_here", "_law_k"] []
  m__law_sets : mg "_law_sets" = some (.ref f__law_sets)
  f__law_best : Addr
  d__law_best : FuncData
  F__law_best : Fun K "_law_best" "_law_best" s__law_best f__law_best d__law_best
  b__law_best : Binds K d__law_best ["_law_table_here", "_law_some"] []
  m__law_best : mg "_law_best" = some (.ref f__law_best)
  f__law_nearest : Addr
  d__law_nearest : FuncData
  F__law_nearest : Fun K "_law_nearest" "_law_nearest" s__law_nearest f__law_nearest d__law_nearest
  b__law_nearest : Binds K d__law_nearest ["_law_table_here", "_law_k"] []
  m__law_nearest : mg "_law_nearest" = some (.ref f__law_nearest)
  f__law_glance : Addr
  d__law_glance : FuncData
  F__law_glance : Fun K "_law_glance" "_law_glance" s__law_glance f__law_glance d__law_glance
  b__law_glance : Binds K d__law_glance ["_law_feed_here", "_law_table_here"] []
  m__law_glance : mg "_law_glance" = some (.ref f__law_glance)
  f__law_between : Addr
  d__law_between : FuncData
  F__law_between : Fun K "_law_between" "_law_between" s__law_between f__law_between d__law_between
  b__law_between : Binds K d__law_between ["_law_low", "_law_much", "_law_whole", "_law_high"] []
  m__law_between : mg "_law_between" = some (.ref f__law_between)
  f__law_staying : Addr
  d__law_staying : FuncData
  F__law_staying : Fun K "_law_staying" "_law_staying" s__law_staying f__law_staying d__law_staying
  b__law_staying : Binds K d__law_staying ["_law_table_here", "_law_share_here"] []
  m__law_staying : mg "_law_staying" = some (.ref f__law_staying)
  f__law_borne : Addr
  d__law_borne : FuncData
  F__law_borne : Fun K "_law_borne" "_law_borne" s__law_borne f__law_borne d__law_borne
  b__law_borne : Binds K d__law_borne ["_law_table_here", "_law_bounds", "_law_some", "_law_share_here", "_law_few"] []
  m__law_borne : mg "_law_borne" = some (.ref f__law_borne)
  f__law_has : Addr
  d__law_has : FuncData
  F__law_has : Fun K "_law_has" "_law_has" s__law_has f__law_has d__law_has
  b__law_has : Binds K d__law_has ["_law_table_here", "_law_terms"] []
  m__law_has : mg "_law_has" = some (.ref f__law_has)
  f_law : Addr
  d_law : FuncData
  F_law : Fun K "law" "law" s_law f_law d_law
  b_law : Binds K d_law ["_law_script"] []
  m_law : mg "law" = some (.ref f_law)
  z_abs : mg "abs" = none
  z_any : mg "any" = none
  z_dict : mg "dict" = none
  z_enumerate : mg "enumerate" = none
  z_int : mg "int" = none
  z_len : mg "len" = none
  z_list : mg "list" = none
  z_max : mg "max" = none
  z_min : mg "min" = none
  z_range : mg "range" = none
  z_sum : mg "sum" = none
  z_tuple : mg "tuple" = none
set_option genInjectivity true
set_option genSizeOf true
section
variable {P : Program} {w : World} {K : W.Frag} {mg : Str -> Option Value} {base : Heap} (T : Txt K mg)
local macro_rules | `(tactic| walk_at "sm") => `(tactic| repeat' with_reducible first | exact sm_next | apply sm_seq | apply sm_asg | apply sm_ret | apply sm_drop | apply sm_if | apply sm_while | apply sm_for | exact em_var | exact em_c | apply em_op | apply em_not | apply em_if | apply em_cb | apply em_call | apply em_tup | apply em_lst | apply em_comp | exact rm_add | exact rm_sub | exact rm_mul | exact rm_div | exact rm_mod | exact rm_bit | exact rm_shl | exact rm_cmp | exact rm_eq | exact rm_ix | apply tm_b | apply tm_and | apply tm_or | apply tm_not | exact am_nil | apply am_cons | exact cm_len_ | exact cm_min_ | exact cm_maxL_ | exact cm_int_ | exact cm_dict_ | apply im_seq | apply im_rng1 | apply gm_sub | exact gm_name | apply gms_cons | exact gms_nil | exact sm_set | exact spDraw_mono | exact rm_is | apply em_dget2 | apply sm_dput | apply em_lr | apply im_enum | apply em_bm0 | exact bm_bitlen | apply em_bm | exact bm_popAt | exact cm_sum_ | exact cm_any_ | apply gm_seqs | assumption)
theorem vw {X : Cx} (i : Nat) {x : Str} {pos : Pos} (h : X.N[i]? = some x /\ Vis X.env.scope x /\ (x == ("__debug__" : Str)) = false /\ (x == ("__classdict__" : Str)) = false) : PE X (.Name x pos) (vVar i) := vv i h.1 h.2.1 h.2.2.1 h.2.2.2
theorem pa1 {X : Cx} {e : PySem.Expr} {te : TE} (ha : PE X e te) (hs : starEach [e] X.env = [(false, eval e X.env)]) : PA X [e] (tCons te tNil) := pa_cons ha pa_nil hs
local macro_rules | `(tactic| walk_at "v") => `(tactic| exact ⟨by rfl, by first | exact Or.inl rfl | exact Or.inr (Or.inl rfl) | exact Or.inr (Or.inr rfl), by decide, by decide⟩)
local macro_rules | `(tactic| walk_at "m") => `(tactic| with_reducible first | refine Exists.imp fun _ => ?_ | refine And.imp_right ?_ | refine forall_imp fun _ => ?_)
local macro_rules | `(tactic| walk_at "o") => `(tactic| first | exact Or.inl rfl | exact Or.inr (Or.inl rfl) | exact Or.inr (Or.inr rfl))
local macro_rules | `(tactic| walk_at "i") => `(tactic| first | exact .inl rfl | exact .inr rfl | assumption)
local macro_rules | `(tactic| walk_at "e") => `(tactic| first | exact Or.inl rfl | exact Or.inr rfl)
local macro_rules | `(tactic| walk_at "n") => `(tactic| first | exact nobehind _ (by decide) (by decide) | rfl)
def sp_many : Sp := fun vs H Q _ => match vs with
  | [.int x] => ∃ a : Nat, x = a /\ a < 2 ^ 64 /\ Q (.int (many a)) H
  | _ => False
theorem sp_many_mono : SpMono sp_many := fun vs H Q Q' E h q => by
  unfold sp_many at *
  split at q
  . revert q; repeat' first | exact h _ _ | exact newL_mono h | exact out_mono h | exact outT_mono h | walk_at "m"
  . exact q.elim
theorem ok__law_many : FnOk P w K mg base CX0 1 T.f__law_many T.d__law_many ["_law_number"] sp_many := by
  refine T.F__law_many.ok sc__law_many (fun vs H Q E h => by unfold sp_many at h; split at h <;> first | rfl | exact h.elim) (fun cdv A outer s H vs Q E hr h => ?_)
  have hu := hu60 hr
  unfold sp_many at h
  split at h
  rotate_left
  . exact h.elim
  rename_i x
  obtain ⟨a, e1, h1, q⟩ := h
  subst e1
  refine ⟨_, (@pss_cons _ _ _ _ _ (@ps_set _ _ 1 _ _ _ _ sc__law_many.nd rfl (by walk_at "e") (@pe_int _ _ _ _) (by rfl) (by walk_at "i")) (@pss_cons _ _ _ _ _ (@ps_whileM _ _ _ _ _ _ PassesOwn.never (@tu_cmp _ _ _ _ _ _ _ _ om_gt (@vw _ 0 _ _ (by walk_at "v")) (@pe_int _ _ _ _) (by walk_at "n")) (@pss_cons _ _ _ _ _ (@ps_set _ _ 1 _ _ _ _ sc__law_many.nd rfl (by walk_at "e") (@pe_op _ _ _ _ _ _ _ _ (kAdd (K := K)) (@vw _ 1 _ _ (by walk_at "v")) (@pe_op _ _ _ _ _ _ _ _ om_mod (@vw _ 0 _ _ (by walk_at "v")) (@pe_int _ _ _ _))) (by rfl) (by walk_at "i")) (@pss_one _ _ _ (@ps_set _ _ 0 _ _ _ _ sc__law_many.nd rfl (by walk_at "e") (@pe_op _ _ _ _ _ _ _ _ om_div (@vw _ 0 _ _ (by walk_at "v")) (@pe_int _ _ _ _)) (by rfl) (by walk_at "i"))))) (@pss_one _ _ _ (@ps_ret _ _ _ _ (@vw _ 1 _ _ (by walk_at "v")))))), ?_⟩
  refine ⟨fun f σ H' => H' = H /\ ∃ m r : Nat, σ = [some (.int r), some (.int m)] /\ r < 2 ^ f /\ m + manyF f r = many a, ⟨64, rfl, 0, a, rfl, h1, by unfold many; exact Nat.zero_add _⟩, ?_⟩
  rintro f σ H' ⟨rfl, m, r, rfl, hr1, hm⟩
  refine ite2 (fun e => ?_) (fun e => ?_)
  . have r0 : 0 < r := by have : (0 : Int) < (r : Int) := of_decide_eq_true e; omega
    cases f with
    | zero => simp at hr1; omega
    | succ f =>
      refine ⟨by decide, okDiv_of (by decide) (by decide), ?_⟩
      refine ⟨f, Nat.lt_succ_self _, rfl, m + r % 2, r / 2, ?_, ?_, ?_⟩
      . show [some (V.int ((r : Int) / 2)), some (V.int ((m : Int) + (r : Int) % 2))] = _
        rw [Int.natCast_add, Int.natCast_emod, Int.natCast_ediv]
        rfl
      . rw [Nat.pow_succ] at hr1; omega
      . rw [<- hm]
        show m + r % 2 + manyF f (r / 2) = m + (r % 2 + manyF f (r / 2))
        omega
  . have r0 : r = 0 := by
      have : ¬ (0 : Int) < (r : Int) := fun z => e (decide_eq_true z)
      omega
    subst r0
    rw [manyF_zero, Nat.add_zero] at hm
    rw [<- hm] at q
    exact q
theorem ok__law_feed : FnOk P w K mg base CX0 1 T.f__law_feed T.d__law_feed ["_law_script", "_law_k"] (spFeed K) := by
  refine T.F__law_feed.ok sc__law_feed (fun vs H Q E h => by unfold spFeed at h; split at h <;> first | rfl | exact h.elim) (fun cdv A outer s H vs Q E hr h => ?_)
  have hu := hu60 hr
  unfold spFeed at h
  split at h
  rotate_left
  . exact h.elim
  rename_i a k
  obtain ⟨ns, hs, q⟩ := h
  refine ⟨_, (@pss_cons _ _ _ _ _ (@ps_if _ _ _ _ _ _ _ _ (@tu_cmp _ _ _ _ _ _ _ _ (kEq (K := K) hu) (@pe_callB _ _ _ _ _ _ _ _ _ (kLen (K := K)) rfl T.z_len (by rfl) (@pa1 _ _ _ (@vw _ 0 _ _ (by walk_at "v")) (by rfl)) (by decide) (by decide) (by rfl) (by rfl)) (@pe_int _ _ _ _) (by walk_at "n")) (@pss_one _ _ _ (@ps_ret _ _ _ _ (@pe_lst _ _ _ _ (@pa_cons _ _ _ _ _ (@pe_int _ _ _ _) (@pa_cons _ _ _ _ _ (@pe_int _ _ _ _) (@pa_cons _ _ _ _ _ (@vw _ 1 _ _ (by walk_at "v")) (@pa1 _ _ _ (@pe_int _ _ _ _) (by rfl)) (by rfl)) (by rfl)) (by rfl))))) (@pss_nil _)) (@pss_cons _ _ _ _ _ (@ps_set _ _ 2 _ _ _ _ sc__law_feed.nd rfl (by walk_at "e") (@kIx _ K _ _ _ _ _ (@vw _ 0 _ _ (by walk_at "v")) (@pe_op _ _ _ _ _ _ _ _ om_mod (@vw _ 1 _ _ (by walk_at "v")) (@pe_callB _ _ _ _ _ _ _ _ _ (kLen (K := K)) rfl T.z_len (by rfl) (@pa1 _ _ _ (@vw _ 0 _ _ (by walk_at "v")) (by rfl)) (by decide) (by decide) (by rfl) (by rfl))) (by intro _ _; rfl) (by rfl)) (by rfl) (by walk_at "i")) (@pss_one _ _ _ (@ps_ret _ _ _ _ (@pe_lst _ _ _ _ (@pa_cons _ _ _ _ _ (@pe_callB _ _ _ _ _ _ _ _ _ (cm_max rfl) rfl T.z_max (by rfl) (@pa_cons _ _ _ _ _ (@pe_int _ _ _ _) (@pa1 _ _ _ (@pe_op _ _ _ _ _ _ _ _ om_sub (@vw _ 2 _ _ (by walk_at "v")) (@pe_op _ _ _ _ _ _ _ _ om_pow (@pe_int _ _ _ _) (@pe_int _ _ _ _))) (by rfl)) (by rfl)) (by decide) (by decide) (by rfl) (by rfl)) (@pa_cons _ _ _ _ _ (@vw _ 2 _ _ (by walk_at "v")) (@pa_cons _ _ _ _ _ (@vw _ 1 _ _ (by walk_at "v")) (@pa1 _ _ _ (@pe_int _ _ _ _) (by rfl)) (by rfl)) (by rfl)) (by rfl))))))), ?_⟩
  refine ⟨ns.length, .inl ⟨_, hs, by rw [List.length_map]⟩, ?_⟩
  refine ite2 (fun e => ?_) (fun e => ?_)
  . refine ⟨small_le (show 4 <= 1000 by decide), fun p hp => q p _ hp ⟨0, 0, k, 0, Int.le_refl _, upd_same⟩ (fun b n => upd_ne n)⟩
  . have hpos : 0 < (ns.length : Int) := by
      have : ¬ (ns.length : Int) = 0 := fun z => e (by rw [z]; rfl)
      omega
    obtain ⟨z, hz⟩ := atI_int (ns := ns) (Int.emod_nonneg k (show (ns.length : Int) ≠ 0 by omega)) (Int.emod_lt_of_pos k hpos)
    refine ⟨ns.length, .inl ⟨_, hs, by rw [List.length_map]⟩, hpos, _, _, .inl hs, hz, ⟨by decide, by decide, by decide⟩, ?_⟩
    refine ⟨small_le (show 4 <= 1000 by decide), fun p hp => q p _ hp ⟨_, _, _, _, ?_, upd_same⟩ (fun b n => upd_ne n)⟩
    exact Int.le_max_left _ _
theorem ok__law_draw : FnOk P w K mg base CX0 1 T.f__law_draw T.d__law_draw ["_law_feed_here", "_law_many_here"] spDraw := by
  refine T.F__law_draw.ok sc__law_draw (fun vs H Q E h => by unfold spDraw at h; split at h <;> first | rfl | exact h.elim) (fun cdv A outer s H vs Q E hr h => ?_)
  have hu := hu60 hr
  unfold spDraw at h
  split at h
  rotate_left
  . exact h.elim
  rename_i t m
  obtain ⟨F, hm, k⟩ := h
  obtain ⟨a, b, kk, c, ha, ht⟩ := F.at_
  have hm0 : 0 < m := hm.1
  refine ⟨_, (@pss_cons _ _ _ _ _ (@ps_asg _ _ _ _ _ _ (@pe_op _ _ _ _ _ _ _ _ (kAdd (K := K)) (@kIx _ K _ _ _ _ _ (@vw _ 0 _ _ (by walk_at "v")) (@pe_int _ _ _ _) (by intro _ _; rfl) (by rfl)) (@pe_int _ _ _ _)) (@pg_sub _ _ _ _ _ _ _ (@vw _ 0 _ _ (by walk_at "v")) (@pe_int _ _ _ _) set_any (by intro _; rfl)) (by rfl) (by rfl) (by rfl)) (@pss_cons _ _ _ _ _ (@ps_if _ _ _ _ _ _ _ _ (@tu_cmp _ _ _ _ _ _ _ _ om_gt (@kIx _ K _ _ _ _ _ (@vw _ 0 _ _ (by walk_at "v")) (@pe_int _ _ _ _) (by intro _ _; rfl) (by rfl)) (@pe_int _ _ _ _) (by walk_at "n")) (@pss_cons _ _ _ _ _ (@ps_set _ _ 2 _ _ _ _ sc__law_draw.nd rfl (by walk_at "e") (@pe_op _ _ _ _ _ _ _ _ om_mod (@kIx _ K _ _ _ _ _ (@vw _ 0 _ _ (by walk_at "v")) (@pe_int _ _ _ _) (by intro _ _; rfl) (by rfl)) (@vw _ 1 _ _ (by walk_at "v"))) (by rfl) (by walk_at "i")) (@pss_cons _ _ _ _ _ (@ps_asg _ _ _ _ _ _ (@pe_op _ _ _ _ _ _ _ _ om_div (@kIx _ K _ _ _ _ _ (@vw _ 0 _ _ (by walk_at "v")) (@pe_int _ _ _ _) (by intro _ _; rfl) (by rfl)) (@vw _ 1 _ _ (by walk_at "v"))) (@pg_sub _ _ _ _ _ _ _ (@vw _ 0 _ _ (by walk_at "v")) (@pe_int _ _ _ _) set_any (by intro _; rfl)) (by rfl) (by rfl) (by rfl)) (@pss_one _ _ _ (@ps_ret _ _ _ _ (@vw _ 2 _ _ (by walk_at "v")))))) (@pss_nil _)) (@pss_cons _ _ _ _ _ (@ps_set _ _ 3 _ _ _ _ sc__law_draw.nd rfl (by walk_at "e") (@pe_op _ _ _ _ _ _ _ _ om_mod (@pe_op _ _ _ _ _ _ _ _ (kAdd (K := K)) (@pe_op _ _ _ _ _ _ _ _ (kAdd (K := K)) (@kIx _ K _ _ _ _ _ (@vw _ 0 _ _ (by walk_at "v")) (@pe_int _ _ _ _) (by intro _ _; rfl) (by rfl)) (@pe_op _ _ _ _ _ _ _ _ om_mul (@pe_int _ _ _ _) (@kIx _ K _ _ _ _ _ (@vw _ 0 _ _ (by walk_at "v")) (@pe_int _ _ _ _) (by intro _ _; rfl) (by rfl)))) (@pe_op _ _ _ _ _ _ _ _ om_mul (@pe_int _ _ _ _) (@kIx _ K _ _ _ _ _ (@vw _ 0 _ _ (by walk_at "v")) (@pe_int _ _ _ _) (by intro _ _; rfl) (by rfl)))) (@pe_int _ _ _ _)) (by rfl) (by walk_at "i")) (@pss_cons _ _ _ _ _ (@ps_set _ _ 3 _ _ _ _ sc__law_draw.nd rfl (by walk_at "e") (@pe_op _ _ _ _ _ _ _ _ om_mod (@pe_op _ _ _ _ _ _ _ _ (kAdd (K := K)) (@pe_op _ _ _ _ _ _ _ _ (kAdd (K := K)) (@pe_op _ _ _ _ _ _ _ _ om_mul (@vw _ 3 _ _ (by walk_at "v")) (@vw _ 3 _ _ (by walk_at "v"))) (@pe_op _ _ _ _ _ _ _ _ om_mul (@pe_int _ _ _ _) (@vw _ 3 _ _ (by walk_at "v")))) (@kIx _ K _ _ _ _ _ (@vw _ 0 _ _ (by walk_at "v")) (@pe_int _ _ _ _) (by intro _ _; rfl) (by rfl))) (@pe_int _ _ _ _)) (by rfl) (by walk_at "i")) (@pss_cons _ _ _ _ _ (@ps_set _ _ 3 _ _ _ _ sc__law_draw.nd rfl (by walk_at "e") (@pe_op _ _ _ _ _ _ _ _ om_mod (@pe_op _ _ _ _ _ _ _ _ (kAdd (K := K)) (@pe_op _ _ _ _ _ _ _ _ (kAdd (K := K)) (@pe_op _ _ _ _ _ _ _ _ om_mul (@vw _ 3 _ _ (by walk_at "v")) (@vw _ 3 _ _ (by walk_at "v"))) (@pe_op _ _ _ _ _ _ _ _ om_mul (@pe_int _ _ _ _) (@vw _ 3 _ _ (by walk_at "v")))) (@kIx _ K _ _ _ _ _ (@vw _ 0 _ _ (by walk_at "v")) (@pe_int _ _ _ _) (by intro _ _; rfl) (by rfl))) (@pe_int _ _ _ _)) (by rfl) (by walk_at "i")) (@pss_one _ _ _ (@ps_ret _ _ _ _ (@pe_op _ _ _ _ _ _ _ _ om_mod (@vw _ 3 _ _ (by walk_at "v")) (@vw _ 1 _ _ (by walk_at "v")))))))))), ?_⟩
  refine seq_at (fun σ' H1 => σ' = [some (.ref t), some (.int m), none, none] /\ (∀ b, b ≠ t -> H1 b = H b) /\ ∃ a b k c : Int, 0 <= a /\ H1 t = some (.lst [.int a, .int b, .int k, .int c])) ?_ ?_ (by walk_at "sm")
  . exact ⟨_, _, .inl (.of ht), rfl, _, _, ht, rfl, rfl, fun b n => upd_ne n, a, b, kk, c + 1, ha, upd_same⟩
  clear ht ha a b kk c
  rintro σ' H1 ⟨rfl, f1, a, b, kk, c, ha, ht1⟩
  refine ⟨_, _, .inl (.of ht1), rfl, ?_⟩
  refine ite2 (fun e => ?_) (fun e => ?_)
  . refine ⟨_, _, .inl (.of ht1), rfl, hm0, _, _, .inl (.of ht1), rfl, hm, _, _, ht1, rfl, ?_⟩
    exact k _ _ (Int.emod_nonneg _ (by omega)) (Int.emod_lt_of_pos _ hm0) ⟨_, _, _, _, Int.ediv_nonneg ha (by omega), upd_same⟩ (fun b n => by rw [upd_ne n]; exact f1 b n)
  dsimp only [tNext]
  have F1 : Feed H1 t := ⟨a, b, kk, c, ha, ht1⟩
  refine seq_at (fun σ' H2 => H2 = H1 /\ ∃ z : Int, σ' = [some (.ref t), some (.int m), none, some (.int z)] /\ 0 <= z /\ z < 2147483629) ?_ ?_ (by walk_at "sm")
  . refine ⟨_, _, .inl (.of ht1), rfl, _, _, .inl (.of ht1), rfl, .inr (.inl ⟨by decide, by decide⟩), _, _, .inl (.of ht1), rfl, .inr (.inl ⟨by decide, by decide⟩), by decide, rfl, _, rfl, Int.emod_nonneg _ (by decide), Int.emod_lt_of_pos _ (by decide)⟩
  rintro σ' H2 ⟨rfl, z, rfl, z0, z1⟩
  refine seq_at (fun σ' H2' => H2' = H2 /\ ∃ z : Int, σ' = [some (.ref t), some (.int m), none, some (.int z)] /\ 0 <= z /\ z < 2147483629) ?_ ?_ (by walk_at "sm")
  . refine ⟨.inr (.inl ⟨by omega, by omega⟩), .inr (.inl ⟨by decide, by decide⟩), _, _, .inl (.of ht1), rfl, by decide, rfl, _, rfl, Int.emod_nonneg _ (by decide), Int.emod_lt_of_pos _ (by decide)⟩
  rintro σ' H3 ⟨rfl, z, rfl, z0, z1⟩
  refine ⟨.inr (.inl ⟨by omega, by omega⟩), .inr (.inl ⟨by decide, by decide⟩), _, _, .inl (.of ht1), rfl, by decide, ?_⟩
  refine ⟨hm0, ?_⟩
  exact k _ _ (Int.emod_nonneg _ (by omega)) (Int.emod_lt_of_pos _ hm0) F1 f1
def sp_fn : Sp := fun vs H Q _ => match vs with
  | [.ref t] => Feed H t /\ ∀ (n : Nat) H', 1 <= n -> n <= 6 -> Feed H' t -> (∀ b, b ≠ t -> H' b = H b) -> Q (.int n) H'
  | _ => False
theorem sp_fn_mono : SpMono sp_fn := fun vs H Q Q' E h q => by
  unfold sp_fn at *
  split at q
  . exact ⟨q.1, fun n H' a b c d => h _ _ (q.2 n H' a b c d)⟩
  . exact q.elim
theorem ok__law_n : FnOk P w K mg base CX0 2 T.f__law_n T.d__law_n ["_law_feed_here"] sp_fn := by
  have G__law_draw := ok__law_draw (P := P) (w := w) (base := base) T
  refine T.F__law_n.ok sc__law_n (fun vs H Q E h => by unfold sp_fn at h; split at h <;> first | rfl | exact h.elim) (fun cdv A outer s H vs Q E hr h => ?_)
  have hu := hu60 hr
  have hr__law_draw := hr.mono (show 1 <= _ by decide)
  unfold sp_fn at h
  split at h
  rotate_left
  . exact h.elim
  rename_i t
  obtain ⟨F, k⟩ := h
  refine ⟨_, (@pss_cons _ _ _ _ _ (@ps_if _ _ _ _ _ _ _ _ (@tu_cmp _ _ _ _ _ _ _ _ (kEq (K := K) hu) (@pe_call _ _ _ _ _ _ _ _ _ _ _ _ _ _ _ _ G__law_draw hr__law_draw rfl T.m__law_draw T.F__law_draw.kp T.b__law_draw .nil pass0 (@pa_cons _ _ _ _ _ (@vw _ 0 _ _ (by walk_at "v")) (@pa1 _ _ _ (@pe_int _ _ _ _) (by rfl)) (by rfl)) (by decide) (by rfl) (by rfl)) (@pe_int _ _ _ _) (by walk_at "n")) (@pss_one _ _ _ (@ps_ret _ _ _ _ (@pe_int _ _ _ _))) (@pss_nil _)) (@pss_one _ _ _ (@ps_ret _ _ _ _ (@pe_op _ _ _ _ _ _ _ _ (kAdd (K := K)) (@pe_int _ _ _ _) (@pe_call _ _ _ _ _ _ _ _ _ _ _ _ _ _ _ _ G__law_draw hr__law_draw rfl T.m__law_draw T.F__law_draw.kp T.b__law_draw .nil pass0 (@pa_cons _ _ _ _ _ (@vw _ 0 _ _ (by walk_at "v")) (@pa1 _ _ _ (@pe_int _ _ _ _) (by rfl)) (by rfl)) (by decide) (by rfl) (by rfl)))))), ?_⟩
  refine ⟨F, okDiv_of (by decide) (by decide), fun d H2 d0 d1 F2 f2 => ?_⟩
  refine ite2 (fun e => ?_) (fun e => ?_)
  . exact k 6 H2 (by decide) (by decide) F2 f2
  . refine ⟨F2, okDiv_of (by decide) (by decide), fun d' H3 d0' d1' F3 f3 => ?_⟩
    obtain ⟨x, rfl⟩ := Int.eq_ofNat_of_zero_le d0'
    have e : (1 : Int) + (x : Int) = ((1 + x : Nat) : Int) := by omega
    dsimp only [mAdd]
    rw [e]
    exact k (1 + x) H3 (by omega) (by omega) F3 (fun b n => by rw [f3 b n, f2 b n])
def sp_ftable : Sp := fun vs H Q _ => match vs with
  | [.ref t, .int n] => ∃ m : Nat, Feed H t /\ n = m /\ 1 <= m /\ m <= 6 /\ ∀ (bs : List Bool) p H', bs.length = 2 ^ m -> H p = none -> H' p = some (.tup (bs.map V.bl)) -> Feed H' t -> Frm t H H' -> Q (.ref p) H'
  | _ => False
theorem sp_ftable_mono : SpMono sp_ftable := fun vs H Q Q' E h q => by
  unfold sp_ftable at *
  split at q
  . revert q; repeat' first | exact h _ _ | exact newL_mono h | exact out_mono h | exact outT_mono h | walk_at "m"
  . exact q.elim
theorem frm_all {t : Addr} {H H' : Hp} (h : ∀ b, b ≠ t -> H' b = H b) : Frm t H H' := fun b o n e => by rw [h b n]; exact e
theorem frm_new {t p : Addr} {H0 H : Hp} {o : HO} (f : Frm t H0 H) (hp : H0 p = none) : Frm t H0 (upd H p o) := fun b u n e => by
  rw [upd_ne (ne_of_none e hp)]; exact f b u n e
structure FL (H0 : Hp) (t : Addr) (M : Nat) (l : Addr) (H : Hp) : Prop where
  fd : Feed H t
  fr : Frm t H0 H
  new : H0 l = none
  at_ : ∃ bs : List Bool, H l = some (.lst (bs.map V.bl)) /\ bs.length = M
theorem FL.same {H0 H H' : Hp} {t : Addr} {M : Nat} {l : Addr} (L : FL H0 t M l H) (s : Same H H') : FL H0 t M l H' :=
  ⟨L.fd.same s, L.fr.trans s.frm, L.new, let ⟨bs, h, e⟩ := L.at_; ⟨bs, s _ _ h, e⟩⟩
theorem FL.draw {H0 H H' : Hp} {t : Addr} {M : Nat} {l : Addr} (L : FL H0 t M l H) (F0 : Feed H0 t) (F1 : Feed H' t) (f : ∀ b, b ≠ t -> H' b = H b) : FL H0 t M l H' :=
  ⟨F1, L.fr.trans (frm_all f), L.new, let ⟨bs, h, e⟩ := L.at_; ⟨bs, by rw [f l (F0.neT L.new)]; exact h, e⟩⟩
theorem FL.put {H0 H : Hp} {t : Addr} {M : Nat} {l : Addr} {bs : List Bool} (L : FL H0 t M l H) (F0 : Feed H0 t) (hb : bs.length = M) : FL H0 t M l (upd H l (.lst (bs.map V.bl))) := by
  obtain ⟨a, b, k, c, h1, h3⟩ := L.fd.at_
  exact ⟨⟨a, b, k, c, h1, by rw [upd_ne (Ne.symm (F0.neT L.new))]; exact h3⟩, frm_new L.fr L.new, L.new, bs, upd_same, hb⟩
theorem FL.mk' {H0 H : Hp} {t : Addr} {M : Nat} {l : Addr} {bs : List Bool} (F : Feed H t) (fr : Frm t H0 H) (hl : H l = none) (hb : bs.length = M) : FL H0 t M l (upd H l (.lst (bs.map V.bl))) :=
  ⟨F.upd hl, fr.trans (Frm.upd hl), F.free fr hl, bs, upd_same, hb⟩
theorem ixN_nat {n i : Nat} (h : i < n) : ixN n ((i : Nat) : Int) = some i := by
  unfold ixN
  rw [if_pos (Int.natCast_nonneg i), if_pos (by omega)]
  simp
theorem bl_set (bs : List Bool) (i : Nat) (b : Bool) : (bs.map V.bl).set i (.bl b) = (bs.set i b).map V.bl := by
  rw [List.map_set]
theorem bl_at {bs : List Bool} {i : Nat} (h : i < bs.length) : atI (bs.map V.bl) ((i : Nat) : Int) = some (.bl bs[i]) :=
  atI_of rfl (by rw [List.getElem?_map, List.getElem?_eq_getElem h]; rfl)
def FJ (H0 : Hp) (t : Addr) (m M : Nat) : St -> Hp -> Prop := fun σ H => ∃ (la l : Addr) (way : Int) (y : Nat) (z7 z8 z9 : Option V),
  σ = [some (.ref t), some (.int m), some (.int M), some (.int way), some (.int y), some (.ref la), some (.ref l), z7, z8, z9] /\ y < M /\ FL H0 t M la H /\ FL H0 t M l H
def FJ2 (H0 : Hp) (t : Addr) (m M : Nat) : St -> Hp -> Prop := fun σ H => ∃ (l : Addr) (z3 z4 z5 z7 z8 z9 : Option V),
  σ = [some (.ref t), some (.int m), some (.int M), z3, z4, z5, some (.ref l), z7, z8, z9] /\ FL H0 t M l H
theorem ok__law_table : FnOk P w K mg base CX0 2 T.f__law_table T.d__law_table ["_law_feed_here", "_law_n_here"] sp_ftable := by
  have G__law_draw := ok__law_draw (P := P) (w := w) (base := base) T; have G__law_many := ok__law_many (P := P) (w := w) (base := base) T
  refine T.F__law_table.ok sc__law_table (fun vs H Q E h => by unfold sp_ftable at h; split at h <;> first | rfl | exact h.elim) (fun cdv A outer s H vs Q E hr h => ?_)
  have hu := hu60 hr
  have mo1 : SpMono sp_many := sp_many_mono
  have hr__law_draw := hr.mono (show 1 <= _ by decide); have hr__law_many := hr.mono (show 1 <= _ by decide)
  unfold sp_ftable at h
  split at h
  rotate_left
  . exact h.elim
  rename_i t n
  obtain ⟨m, F, e1, m1, m6, q⟩ := h
  subst e1
  refine ⟨_, (@pss_cons _ _ _ _ _ (@ps_set _ _ 2 _ _ _ _ sc__law_table.nd rfl (by walk_at "e") (@pe_op _ _ _ _ _ _ _ _ om_shl (@pe_int _ _ _ _) (@vw _ 1 _ _ (by walk_at "v"))) (by rfl) (by walk_at "i")) (@pss_cons _ _ _ _ _ (@ps_set _ _ 3 _ _ _ _ sc__law_table.nd rfl (by walk_at "e") (@pe_call _ _ _ _ _ _ _ _ _ _ _ _ _ _ _ _ G__law_draw hr__law_draw rfl T.m__law_draw T.F__law_draw.kp T.b__law_draw .nil pass0 (@pa_cons _ _ _ _ _ (@vw _ 0 _ _ (by walk_at "v")) (@pa1 _ _ _ (@pe_int _ _ _ _) (by rfl)) (by rfl)) (by decide) (by rfl) (by rfl)) (by rfl) (by walk_at "i")) (@pss_cons _ _ _ _ _ (@ps_set _ _ 4 _ _ _ _ sc__law_table.nd rfl (by walk_at "e") (@pe_call _ _ _ _ _ _ _ _ _ _ _ _ _ _ _ _ G__law_draw hr__law_draw rfl T.m__law_draw T.F__law_draw.kp T.b__law_draw .nil pass0 (@pa_cons _ _ _ _ _ (@vw _ 0 _ _ (by walk_at "v")) (@pa1 _ _ _ (@vw _ 2 _ _ (by walk_at "v")) (by rfl)) (by rfl)) (by decide) (by rfl) (by rfl)) (by rfl) (by walk_at "i")) (@pss_cons _ _ _ _ _ (@ps_set _ _ 5 _ _ _ _ sc__law_table.nd rfl (by walk_at "e") (@pe_compB _ _ _ _ _ _ _ (["_law_p", "_law_feed_here"]) 1 [0] _ _ _ _ rfl (@pi_range1 _ _ _ _ _ _ rfl T.z_range (@pa1 _ _ _ (@vw _ 2 _ _ (by walk_at "v")) (by rfl)) (by rfl)) (by kernel_rfl) rfl rfl (by kernel_rfl) (fun c => @pg_name _ _ 0 _ (show (["_law_p", "_law_feed_here"] : List Str).Nodup by decide +kernel) rfl (by walk_at "e") (by walk_at "i")) (go_name (by decide)) (fun c => @pts_nil _) (fun c => (@pe_cmpM _ _ _ _ _ _ _ _ (kEq (K := K) hu) (@pe_call _ _ _ _ _ _ _ _ _ _ _ _ _ _ _ _ G__law_draw hr__law_draw rfl T.m__law_draw T.F__law_draw.kp T.b__law_draw .nil pass0 (@pa_cons _ _ _ _ _ (@vw _ 1 _ _ (by walk_at "v")) (@pa1 _ _ _ (@pe_int _ _ _ _) (by rfl)) (by rfl)) (by decide) (by rfl) (by rfl)) (@pe_int _ _ _ _) (by walk_at "n"))) (by intro _; rfl)) (by rfl) (by walk_at "i")) (@pss_cons _ _ _ _ _ (@ps_if _ _ _ _ _ _ _ _ (@tu_cmp _ _ _ _ _ _ _ _ (kEq (K := K) hu) (@vw _ 3 _ _ (by walk_at "v")) (@pe_int _ _ _ _) (by walk_at "n")) (@pss_one _ _ _ (@ps_ret _ _ _ _ (@pe_callTy _ _ _ _ _ _ _ _ _ (kTuple (K := K)) rfl T.z_tuple (by rfl) (@pa1 _ _ _ (@vw _ 5 _ _ (by walk_at "v")) (by rfl)) (by decide) (by decide) (by rfl) (by rfl)))) (@pss_nil _)) (@pss_cons _ _ _ _ _ (@ps_compB _ _ _ _ _ _ _ (["_law_p", "_law_answers", "_law_some"]) 1 ([5, 4]) _ _ _ _ 6 _ _ _ rfl sc__law_table.nd rfl rfl (@pi_range1 _ _ _ _ _ _ rfl T.z_range (@pa1 _ _ _ (@vw _ 2 _ _ (by walk_at "v")) (by rfl)) (by rfl)) (by kernel_rfl) rfl rfl (by kernel_rfl) (fun c => @pg_name _ _ 0 _ (show (["_law_p", "_law_answers", "_law_some"] : List Str).Nodup by decide +kernel) rfl (by walk_at "e") (by walk_at "i")) (go_name (by decide)) (fun c => @pts_nil _) (fun c => (@kIx _ K _ _ _ _ _ (@vw _ 1 _ _ (by walk_at "v")) (@pe_op _ _ _ _ _ _ _ _ om_and (@vw _ 0 _ _ (by walk_at "v")) (@vw _ 2 _ _ (by walk_at "v"))) (by intro _ _; rfl) (by rfl))) (by rfl) (by intro _; rfl)) (@pss_cons _ _ _ _ _ (@ps_if _ _ _ _ _ _ _ _ (@tu_cmp _ _ _ _ _ _ _ _ (kEq (K := K) hu) (@vw _ 3 _ _ (by walk_at "v")) (@pe_int _ _ _ _) (by walk_at "n")) (@pss_one _ _ _ (@ps_compB _ _ _ _ _ _ _ (["_law_p", "_law_answers"]) 1 [5] _ _ _ _ 6 _ _ _ rfl sc__law_table.nd rfl rfl (@pi_range1 _ _ _ _ _ _ rfl T.z_range (@pa1 _ _ _ (@vw _ 2 _ _ (by walk_at "v")) (by rfl)) (by rfl)) (by kernel_rfl) rfl rfl (by kernel_rfl) (fun c => @pg_name _ _ 0 _ (show (["_law_p", "_law_answers"] : List Str).Nodup by decide +kernel) rfl (by walk_at "e") (by walk_at "i")) (go_name (by decide)) (fun c => @pts_nil _) (fun c => (@kIx _ K _ _ _ _ _ (@vw _ 1 _ _ (by walk_at "v")) (@pe_int _ _ _ _) (by intro _ _; rfl) (by rfl))) (by rfl) (by intro _; rfl))) (@pss_nil _)) (@pss_cons _ _ _ _ _ (@ps_if _ _ _ _ _ _ _ _ (@tu_cmp _ _ _ _ _ _ _ _ (kEq (K := K) hu) (@vw _ 3 _ _ (by walk_at "v")) (@pe_int _ _ _ _) (by walk_at "n")) (@pss_one _ _ _ (@ps_compB _ _ _ _ _ _ _ (["_law_p", "_law_some", "_law_answers"]) 1 ([4, 5]) _ _ _ _ 6 _ _ _ rfl sc__law_table.nd rfl rfl (@pi_range1 _ _ _ _ _ _ rfl T.z_range (@pa1 _ _ _ (@vw _ 2 _ _ (by walk_at "v")) (by rfl)) (by rfl)) (by kernel_rfl) rfl rfl (by kernel_rfl) (fun c => @pg_name _ _ 0 _ (show (["_law_p", "_law_some", "_law_answers"] : List Str).Nodup by decide +kernel) rfl (by walk_at "e") (by walk_at "i")) (go_name (by decide)) (fun c => @pts_nil _) (fun c => (@pe_cmpM _ _ _ _ _ _ _ _ (kEq (K := K) hu) (@pe_op _ _ _ _ _ _ _ _ om_mod (@pe_call _ _ _ _ _ _ _ _ _ _ _ _ _ _ _ _ G__law_many hr__law_many rfl T.m__law_many T.F__law_many.kp T.b__law_many .nil pass0 (@pa1 _ _ _ (@pe_op _ _ _ _ _ _ _ _ om_and (@vw _ 0 _ _ (by walk_at "v")) (@vw _ 1 _ _ (by walk_at "v"))) (by rfl)) (by decide) (by rfl) (by rfl)) (@pe_int _ _ _ _)) (@pe_callTy _ _ _ _ _ _ _ _ _ cm_int rfl T.z_int (by rfl) (@pa1 _ _ _ (@kIx _ K _ _ _ _ _ (@vw _ 2 _ _ (by walk_at "v")) (@pe_int _ _ _ _) (by intro _ _; rfl) (by rfl)) (by rfl)) (by decide) (by decide) (by rfl) (by rfl)) (by walk_at "n"))) (by rfl) (by intro _; rfl))) (@pss_nil _)) (@pss_cons _ _ _ _ _ (@ps_if _ _ _ _ _ _ _ _ (@tu_cmp _ _ _ _ _ _ _ _ (kEq (K := K) hu) (@vw _ 3 _ _ (by walk_at "v")) (@pe_int _ _ _ _) (by walk_at "n")) (@pss_cons _ _ _ _ _ (@ps_set _ _ 7 _ _ _ _ sc__law_table.nd rfl (by walk_at "e") (@pe_op _ _ _ _ _ _ _ _ (kAdd (K := K)) (@pe_int _ _ _ _) (@pe_call _ _ _ _ _ _ _ _ _ _ _ _ _ _ _ _ G__law_draw hr__law_draw rfl T.m__law_draw T.F__law_draw.kp T.b__law_draw .nil pass0 (@pa_cons _ _ _ _ _ (@vw _ 0 _ _ (by walk_at "v")) (@pa1 _ _ _ (@pe_int _ _ _ _) (by rfl)) (by rfl)) (by decide) (by rfl) (by rfl))) (by rfl) (by walk_at "i")) (@pss_one _ _ _ (@ps_compB _ _ _ _ _ _ _ (["_law_p", "_law_some", "_law_least"]) 1 ([4, 7]) _ _ _ _ 6 _ _ _ rfl sc__law_table.nd rfl rfl (@pi_range1 _ _ _ _ _ _ rfl T.z_range (@pa1 _ _ _ (@vw _ 2 _ _ (by walk_at "v")) (by rfl)) (by rfl)) (by kernel_rfl) rfl rfl (by kernel_rfl) (fun c => @pg_name _ _ 0 _ (show (["_law_p", "_law_some", "_law_least"] : List Str).Nodup by decide +kernel) rfl (by walk_at "e") (by walk_at "i")) (go_name (by decide)) (fun c => @pts_nil _) (fun c => (@pe_cmpM _ _ _ _ _ _ _ _ om_ge (@pe_call _ _ _ _ _ _ _ _ _ _ _ _ _ _ _ _ G__law_many hr__law_many rfl T.m__law_many T.F__law_many.kp T.b__law_many .nil pass0 (@pa1 _ _ _ (@pe_op _ _ _ _ _ _ _ _ om_and (@vw _ 0 _ _ (by walk_at "v")) (@vw _ 1 _ _ (by walk_at "v"))) (by rfl)) (by decide) (by rfl) (by rfl)) (@vw _ 2 _ _ (by walk_at "v")) (by walk_at "n"))) (by rfl) (by intro _; rfl)))) (@pss_nil _)) (@pss_cons _ _ _ _ _ (@ps_for _ _ _ _ _ _ _ _ PassesOwn.never rfl (@pi_range1 _ _ _ _ _ _ rfl T.z_range (@pa1 _ _ _ (@pe_op _ _ _ _ _ _ _ _ om_mul (@pe_call _ _ _ _ _ _ _ _ _ _ _ _ _ _ _ _ G__law_draw hr__law_draw rfl T.m__law_draw T.F__law_draw.kp T.b__law_draw .nil pass0 (@pa_cons _ _ _ _ _ (@vw _ 0 _ _ (by walk_at "v")) (@pa1 _ _ _ (@pe_int _ _ _ _) (by rfl)) (by rfl)) (by decide) (by rfl) (by rfl)) (@pe_call _ _ _ _ _ _ _ _ _ _ _ _ _ _ _ _ G__law_draw hr__law_draw rfl T.m__law_draw T.F__law_draw.kp T.b__law_draw .nil pass0 (@pa_cons _ _ _ _ _ (@vw _ 0 _ _ (by walk_at "v")) (@pa1 _ _ _ (@pe_int _ _ _ _) (by rfl)) (by rfl)) (by decide) (by rfl) (by rfl))) (by rfl)) (by rfl)) (@pg_name _ _ 8 _ sc__law_table.nd rfl (by walk_at "e") (by walk_at "i")) (@pss_cons _ _ _ _ _ (@ps_set _ _ 9 _ _ _ _ sc__law_table.nd rfl (by walk_at "e") (@pe_call _ _ _ _ _ _ _ _ _ _ _ _ _ _ _ _ G__law_draw hr__law_draw rfl T.m__law_draw T.F__law_draw.kp T.b__law_draw .nil pass0 (@pa_cons _ _ _ _ _ (@vw _ 0 _ _ (by walk_at "v")) (@pa1 _ _ _ (@vw _ 2 _ _ (by walk_at "v")) (by rfl)) (by rfl)) (by decide) (by rfl) (by rfl)) (by rfl) (by walk_at "i")) (@pss_one _ _ _ (@ps_asg _ _ _ _ _ _ (@pe_notM _ _ _ _ (@kIx _ K _ _ _ _ _ (@vw _ 6 _ _ (by walk_at "v")) (@vw _ 9 _ _ (by walk_at "v")) (by intro _ _; rfl) (by rfl))) (@pg_sub _ _ _ _ _ _ _ (@vw _ 6 _ _ (by walk_at "v")) (@vw _ 9 _ _ (by walk_at "v")) set_any (by intro _; rfl)) (by rfl) (by rfl) (by rfl)))) (by intro _; rfl)) (@pss_one _ _ _ (@ps_ret _ _ _ _ (@pe_callTy _ _ _ _ _ _ _ _ _ (kTuple (K := K)) rfl T.z_tuple (by rfl) (@pa1 _ _ _ (@vw _ 6 _ _ (by walk_at "v")) (by rfl)) (by decide) (by decide) (by rfl) (by rfl)))))))))))))), ?_⟩
  have e2 : (1 : Int) * 2 ^ ((m : Int).toNat) = ((2 ^ m : Nat) : Int) := by rw [Int.toNat_natCast, Int.natCast_pow, Int.one_mul]; rfl
  have h64 : 2 ^ m <= 64 := Nat.pow_le_pow_right (n := 2) (by decide) m6
  have h2 : 2 <= 2 ^ m := Nat.pow_le_pow_right (n := 2) (i := 1) (by decide) m1
  refine ⟨⟨by omega, by omega, by decide⟩, ?_⟩
  rw [e2]
  generalize hM : 2 ^ m = M at *
  have hMd : okDiv (M : Int) := okDiv_of (by omega) (Int.le_trans (Int.ofNat_le.mpr h64) (by decide))
  refine ⟨F, okDiv_of (by decide) (by decide), fun way H2 w0 w1 F2 f2 => ⟨F2, hMd, fun y' H3 y0 y1 F3 f3 => ?_⟩⟩
  obtain ⟨y, rfl⟩ := Int.eq_ofNat_of_zero_le y0
  have hy : y < M := by omega
  have fr3 : Frm t H H3 := (frm_all f2).trans (frm_all f3)
  dsimp only [gName]
  refine seq_at (fun σ Ha => ∃ la : Addr, σ = [some (.ref t), some (.int m), some (.int M), some (.int way), some (.int y), some (.ref la), none, none, none, none] /\ FL H t M la Ha) ?_ ?_ (by walk_at "sm")
  . refine ⟨(M : Int), rfl, by omega, by omega, ?_⟩
    refine comp_range (fun i ys H' => Feed H' t /\ Frm t H H' /\ ∃ bs : List Bool, ys = bs.map V.bl /\ bs.length = i) ⟨F3, fr3, [], rfl, rfl⟩ (fun i ys H' hi ⟨_, _, bs, e, el⟩ => by
      rw [e]; exact small1000 (by rw [List.length_map]; omega)) ?_ ?_
    . rintro i ys H' hi ⟨Fi, fi, bs, rfl, rfl⟩
      refine ⟨Fi, okDiv_of (by decide) (by decide), fun d H2 _ _ F2 f2 => ?_⟩
      exact ⟨F2, fi.trans (frm_all f2), bs ++ [(false ^^ (d == 1))], by rw [List.map_append]; rfl, by rw [List.length_append]; rfl⟩
    . rintro ys H' ⟨Fi, fi, bs, rfl, hb⟩ l' hl
      exact ⟨l', rfl, FL.mk' Fi fi hl (by omega)⟩
  rintro σ Ha ⟨la, rfl, La⟩
  refine ite2 (fun e => ?_) (fun e => ?_)
  . obtain ⟨bs, hbs, hbl⟩ := La.at_
    refine ⟨_, .inl ⟨.of hbs, fun p hp => ?_⟩⟩
    exact q bs p _ hbl (La.fd.free La.fr hp) upd_same (La.fd.upd hp) (La.fr.trans (Frm.upd hp))
  dsimp only [tNext]
  refine seq_at (FJ H t m M) ?_ ?_ (by walk_at "sm")
  . obtain ⟨as, has, hal⟩ := La.at_
    refine ⟨(M : Int), rfl, by omega, by omega, ?_⟩
    refine comp_range (fun i ys H' => H' = Ha /\ ∃ bs : List Bool, ys = bs.map V.bl /\ bs.length = i) ⟨rfl, [], rfl, rfl⟩ (fun i ys H' hi ⟨_, bs, e, el⟩ => by
      rw [e]; exact small1000 (by rw [List.length_map]; omega)) ?_ ?_
    . rintro i ys H' hi ⟨rfl, bs, rfl, rfl⟩
      have hlt : bs.length &&& y < as.length := by
        have := Nat.and_le_right (n := bs.length) (m := y)
        omega
      have e0 : Builtin.bitAnd ((0 : Int) + (bs.length : Int)) (y : Int) = ((bs.length &&& y : Nat) : Int) := by rw [Int.zero_add, bitAnd_nat]
      refine ⟨_, .bl as[bs.length &&& y], .inl (.of has), ?_, rfl, bs ++ [as[bs.length &&& y]], by rw [List.map_append]; rfl, by rw [List.length_append]; rfl⟩
      rw [e0]; exact bl_at hlt
    . rintro ys H' ⟨rfl, bs, rfl, hb⟩ l' hl
      exact ⟨la, l', way, y, none, none, none, rfl, hy, La.same (Same.upd hl), FL.mk' La.fd La.fr hl (by omega)⟩
  clear La
  rintro σ Ha ⟨la, l, way, y, z7, z8, z9, rfl, hy, La, L⟩
  refine seq_at (FJ H t m M) ?_ ?_ (by walk_at "sm")
  . refine ite2 (fun e => ?_) (fun e => ⟨la, l, way, y, z7, z8, z9, rfl, hy, La, L⟩)
    obtain ⟨as, has, hal⟩ := La.at_
    have h0 : 0 < as.length := by omega
    refine ⟨(M : Int), rfl, by omega, by omega, ?_⟩
    refine comp_range (fun i ys H' => H' = Ha /\ ∃ bs : List Bool, ys = bs.map V.bl /\ bs.length = i) ⟨rfl, [], rfl, rfl⟩ (fun i ys H' hi ⟨_, bs, e, el⟩ => by
      rw [e]; exact small1000 (by rw [List.length_map]; omega)) ?_ ?_
    . rintro i ys H' hi ⟨rfl, bs, rfl, rfl⟩
      exact ⟨_, .bl as[0], .inl (.of has), bl_at (i := 0) h0, rfl, bs ++ [as[0]], by rw [List.map_append]; rfl, by rw [List.length_append]; rfl⟩
    . rintro ys H' ⟨rfl, bs, rfl, hb⟩ l' hl
      exact ⟨la, l', way, y, z7, z8, z9, rfl, hy, La.same (Same.upd hl), FL.mk' La.fd La.fr hl (by omega)⟩
  clear La L
  rintro σ Ha ⟨la, l, way, y, z7, z8, z9, rfl, hy, La, L⟩
  refine seq_at (FJ H t m M) ?_ ?_ (by walk_at "sm")
  . refine ite2 (fun e => ?_) (fun e => ⟨la, l, way, y, z7, z8, z9, rfl, hy, La, L⟩)
    obtain ⟨as, has, hal⟩ := La.at_
    have h0 : 0 < as.length := by omega
    refine ⟨(M : Int), rfl, by omega, by omega, ?_⟩
    refine comp_range (fun i ys H' => H' = Ha /\ ∃ bs : List Bool, ys = bs.map V.bl /\ bs.length = i) ⟨rfl, [], rfl, rfl⟩ (fun i ys H' hi ⟨_, bs, e, el⟩ => by
      rw [e]; exact small1000 (by rw [List.length_map]; omega)) ?_ ?_
    . rintro i ys H' hi ⟨rfl, bs, rfl, rfl⟩
      have e0 : Builtin.bitAnd ((0 : Int) + (bs.length : Int)) (y : Int) = ((bs.length &&& y : Nat) : Int) := by rw [Int.zero_add, bitAnd_nat]
      have hlt : bs.length &&& y < 2 ^ 64 := by
        have := Nat.and_le_right (n := bs.length) (m := y)
        omega
      refine ⟨bs.length &&& y, e0, hlt, by decide, _, .bl as[0], .inl (.of has), bl_at (i := 0) h0, ?_⟩
      exact ⟨rfl, bs ++ [_], by rw [List.map_append]; rfl, by rw [List.length_append]; rfl⟩
    . rintro ys H' ⟨rfl, bs, rfl, hb⟩ l' hl
      exact ⟨la, l', way, y, z7, z8, z9, rfl, hy, La.same (Same.upd hl), FL.mk' La.fd La.fr hl (by omega)⟩
  clear La L
  rintro σ Ha ⟨la, l, way, y, z7, z8, z9, rfl, hy, La, L⟩
  refine seq_at (FJ H t m M) ?_ ?_ (by walk_at "sm")
  . refine ite2 (fun e => ?_) (fun e => ⟨la, l, way, y, z7, z8, z9, rfl, hy, La, L⟩)
    refine ⟨L.fd, okDiv_of (by decide) (by decide), fun d Hb d0 d1 Fb fb => ?_⟩
    have La := La.draw F Fb fb
    have L := L.draw F Fb fb
    refine ⟨(M : Int), rfl, by omega, by omega, ?_⟩
    refine comp_range (fun i ys H' => H' = Hb /\ ∃ bs : List Bool, ys = bs.map V.bl /\ bs.length = i) ⟨rfl, [], rfl, rfl⟩ (fun i ys H' hi ⟨_, bs, e, el⟩ => by
      rw [e]; exact small1000 (by rw [List.length_map]; omega)) ?_ ?_
    . rintro i ys H' hi ⟨rfl, bs, rfl, rfl⟩
      have e0 : Builtin.bitAnd ((0 : Int) + (bs.length : Int)) (y : Int) = ((bs.length &&& y : Nat) : Int) := by rw [Int.zero_add, bitAnd_nat]
      have hlt : bs.length &&& y < 2 ^ 64 := by
        have := Nat.and_le_right (n := bs.length) (m := y)
        omega
      refine ⟨bs.length &&& y, e0, hlt, ?_⟩
      exact ⟨rfl, bs ++ [_], by rw [List.map_append]; rfl, by rw [List.length_append]; rfl⟩
    . rintro ys H' ⟨rfl, bs, rfl, hb⟩ l' hl
      exact ⟨la, l', way, y, some (.int (1 + d)), z8, z9, rfl, hy, La.same (Same.upd hl), FL.mk' La.fd La.fr hl (by omega)⟩
  clear La L
  rintro σ Ha ⟨la, l, way, y, z7, z8, z9, rfl, hy, La, L⟩
  refine seq_at (FJ2 H t m M) ?_ ?_ (by walk_at "sm")
  . refine ⟨L.fd, okDiv_of (by decide) (by decide), fun d Hb d0 d1 Fb fb => ⟨Fb, okDiv_of (by decide) (by decide), fun d' Hc d0' d1' Fc fc => ?_⟩⟩
    have Lc := (L.draw F Fb fb).draw F Fc fc
    obtain ⟨N, hN, hN2⟩ : ∃ N : Nat, d * d' = (N : Int) /\ N <= 3 := by
      have : d = 0 \/ d = 1 := by omega
      rcases this with rfl | rfl
      . exact ⟨0, by rw [Int.zero_mul]; rfl, by omega⟩
      . exact ⟨d'.toNat, by rw [Int.one_mul]; omega, by omega⟩
    refine ⟨.inr (.inl ⟨by omega, by omega⟩), (N : Int), congrArg (fun z => [V.int z]) hN, by omega, by omega, ?_⟩
    refine for_range (fun _ => FJ2 H t m M) ⟨l, _, _, _, z7, z8, z9, rfl, Lc⟩ ?_ (fun σ H' h => h)
    rintro i σ Hc hi ⟨l, z3, z4, z5, z7, z8, z9, rfl, Lc⟩
    refine ⟨Lc.fd, hMd, fun k' Hd k0 k1 Fd fd => ?_⟩
    obtain ⟨k, rfl⟩ := Int.eq_ofNat_of_zero_le k0
    have Ld := Lc.draw F Fd fd
    obtain ⟨bs, hbs, hbl⟩ := Ld.at_
    have hk : k < bs.length := by omega
    refine ⟨_, .bl bs[k], .inl (.of hbs), bl_at hk, _, k, hbs, ixN_nat (by rw [List.length_map]; omega), ?_⟩
    rw [bl_set]
    exact ⟨l, z3, z4, z5, z7, some (.int (0 + (i : Int))), some (.int k), rfl, Ld.put F (by rw [List.length_set]; exact hbl)⟩
  clear La L
  rintro σ Ha ⟨l, z3, z4, z5, z7, z8, z9, rfl, L⟩
  obtain ⟨bs, hbs, hbl⟩ := L.at_
  refine ⟨_, .inl ⟨.of hbs, fun p hp => ?_⟩⟩
  exact q bs p _ hbl (L.fd.free L.fr hp) upd_same (L.fd.upd hp) (L.fr.trans (Frm.upd hp))
theorem ok__law_sum : FnOk P w K mg base CX0 1 T.f__law_sum T.d__law_sum ["_law_table_here"] (sp_fsum K) := by
  refine T.F__law_sum.ok sc__law_sum (fun vs H Q E h => by unfold sp_fsum at h; split at h <;> first | rfl | exact h.elim) (fun cdv A outer s H vs Q E hr h => ?_)
  have hu := hu60 hr
  unfold sp_fsum at h
  split at h
  rotate_left
  . exact h.elim
  rename_i p
  obtain ⟨m, bs, m1, m6, hb, hp, q⟩ := h
  refine ⟨_, (@pss_cons _ _ _ _ _ (@ps_set _ _ 1 _ _ _ _ sc__law_sum.nd rfl (by walk_at "e") (@pe_compB _ _ _ _ _ _ _ ["_law_answer"] 1 [] _ _ _ _ rfl (@kSeq _ K _ _ _ (@vw _ 0 _ _ (by walk_at "v")) (by rfl)) (by kernel_rfl) rfl rfl (by kernel_rfl) (fun c => @pg_name _ _ 0 _ (show (["_law_answer"] : List Str).Nodup by decide +kernel) rfl (by walk_at "e") (by walk_at "i")) (go_name (by decide)) (fun c => @pts_nil _) (fun c => (@pe_op _ _ _ _ _ _ _ _ om_sub (@pe_int _ _ _ _) (@pe_op _ _ _ _ _ _ _ _ om_mul (@pe_int _ _ _ _) (@pe_callTy _ _ _ _ _ _ _ _ _ cm_int rfl T.z_int (by rfl) (@pa1 _ _ _ (@vw _ 0 _ _ (by walk_at "v")) (by rfl)) (by decide) (by decide) (by rfl) (by rfl))))) (by intro _; rfl)) (by rfl) (by walk_at "i")) (@pss_cons _ _ _ _ _ (@ps_set _ _ 2 _ _ _ _ sc__law_sum.nd rfl (by walk_at "e") (@pe_int _ _ _ _) (by rfl) (by walk_at "i")) (@pss_cons _ _ _ _ _ (@ps_whileM _ _ _ _ _ _ PassesOwn.never (@tu_cmp _ _ _ _ _ _ _ _ om_lt (@vw _ 2 _ _ (by walk_at "v")) (@pe_callB _ _ _ _ _ _ _ _ _ (kLen (K := K)) rfl T.z_len (by rfl) (@pa1 _ _ _ (@vw _ 0 _ _ (by walk_at "v")) (by rfl)) (by decide) (by decide) (by rfl) (by rfl)) (by walk_at "n")) (@pss_cons _ _ _ _ _ (@ps_for _ _ _ _ _ _ _ _ PassesOwn.never rfl (@pi_range1 _ _ _ _ _ _ rfl T.z_range (@pa1 _ _ _ (@pe_callB _ _ _ _ _ _ _ _ _ (kLen (K := K)) rfl T.z_len (by rfl) (@pa1 _ _ _ (@vw _ 0 _ _ (by walk_at "v")) (by rfl)) (by decide) (by decide) (by rfl) (by rfl)) (by rfl)) (by rfl)) (@pg_name _ _ 3 _ sc__law_sum.nd rfl (by walk_at "e") (by walk_at "i")) (@pss_one _ _ _ (@ps_if _ _ _ _ _ _ _ _ (@tu_cmp _ _ _ _ _ _ _ _ (kEq (K := K) hu) (@pe_op _ _ _ _ _ _ _ _ om_mod (@pe_op _ _ _ _ _ _ _ _ om_div (@vw _ 3 _ _ (by walk_at "v")) (@vw _ 2 _ _ (by walk_at "v"))) (@pe_int _ _ _ _)) (@pe_int _ _ _ _) (by walk_at "n")) (@pss_cons _ _ _ _ _ (@ps_set _ _ 4 _ _ _ _ sc__law_sum.nd rfl (by walk_at "e") (@kIx _ K _ _ _ _ _ (@vw _ 1 _ _ (by walk_at "v")) (@vw _ 3 _ _ (by walk_at "v")) (by intro _ _; rfl) (by rfl)) (by rfl) (by walk_at "i")) (@pss_cons _ _ _ _ _ (@ps_set _ _ 5 _ _ _ _ sc__law_sum.nd rfl (by walk_at "e") (@kIx _ K _ _ _ _ _ (@vw _ 1 _ _ (by walk_at "v")) (@pe_op _ _ _ _ _ _ _ _ (kAdd (K := K)) (@vw _ 3 _ _ (by walk_at "v")) (@vw _ 2 _ _ (by walk_at "v"))) (by intro _ _; rfl) (by rfl)) (by rfl) (by walk_at "i")) (@pss_cons _ _ _ _ _ (@ps_asg _ _ _ _ _ _ (@pe_op _ _ _ _ _ _ _ _ (kAdd (K := K)) (@vw _ 4 _ _ (by walk_at "v")) (@vw _ 5 _ _ (by walk_at "v"))) (@pg_sub _ _ _ _ _ _ _ (@vw _ 1 _ _ (by walk_at "v")) (@vw _ 3 _ _ (by walk_at "v")) set_any (by intro _; rfl)) (by rfl) (by rfl) (by rfl)) (@pss_one _ _ _ (@ps_asg _ _ _ _ _ _ (@pe_op _ _ _ _ _ _ _ _ om_sub (@vw _ 4 _ _ (by walk_at "v")) (@vw _ 5 _ _ (by walk_at "v"))) (@pg_sub _ _ _ _ _ _ _ (@vw _ 1 _ _ (by walk_at "v")) (@pe_op _ _ _ _ _ _ _ _ (kAdd (K := K)) (@vw _ 3 _ _ (by walk_at "v")) (@vw _ 2 _ _ (by walk_at "v"))) set_any (by intro _; rfl)) (by rfl) (by rfl) (by rfl)))))) (@pss_nil _))) (by intro _; rfl)) (@pss_one _ _ _ (@ps_set _ _ 2 _ _ _ _ sc__law_sum.nd rfl (by walk_at "e") (@pe_op _ _ _ _ _ _ _ _ om_mul (@pe_int _ _ _ _) (@vw _ 2 _ _ (by walk_at "v"))) (by rfl) (by walk_at "i"))))) (@pss_cons _ _ _ _ _ (@ps_compB _ _ _ _ _ _ _ (["_law_some", "_law_weights"]) 1 [1] _ _ _ _ 6 _ _ _ rfl sc__law_sum.nd rfl rfl (@pi_range1 _ _ _ _ _ _ rfl T.z_range (@pa1 _ _ _ (@pe_callB _ _ _ _ _ _ _ _ _ (kLen (K := K)) rfl T.z_len (by rfl) (@pa1 _ _ _ (@vw _ 1 _ _ (by walk_at "v")) (by rfl)) (by decide) (by decide) (by rfl) (by rfl)) (by rfl)) (by rfl)) (by kernel_rfl) rfl rfl (by kernel_rfl) (fun c => @pg_name _ _ 0 _ (show (["_law_some", "_law_weights"] : List Str).Nodup by decide +kernel) rfl (by walk_at "e") (by walk_at "i")) (go_name (by decide)) (fun c => @pts_one _ _ _ (@tu_cmp _ _ _ _ _ _ _ _ (kNe (K := K) hu) (@kIx _ K _ _ _ _ _ (@vw _ 1 _ _ (by walk_at "v")) (@vw _ 0 _ _ (by walk_at "v")) (by intro _ _; rfl) (by rfl)) (@pe_int _ _ _ _) (by walk_at "n"))) (fun c => (@pe_tup _ _ _ _ _ (@pa_cons _ _ _ _ _ (@vw _ 0 _ _ (by walk_at "v")) (@pa1 _ _ _ (@kIx _ K _ _ _ _ _ (@vw _ 1 _ _ (by walk_at "v")) (@vw _ 0 _ _ (by walk_at "v")) (by intro _ _; rfl) (by rfl)) (by rfl)) (by rfl)))) (by rfl) (by intro _; rfl)) (@pss_one _ _ _ (@ps_ret _ _ _ _ (@pe_tup _ _ _ _ _ (@pa_cons _ _ _ _ _ (@pe_op _ _ _ _ _ _ _ _ om_sub (@kBitlen _ K _ _ _ _ (@pe_callB _ _ _ _ _ _ _ _ _ (kLen (K := K)) rfl T.z_len (by rfl) (@pa1 _ _ _ (@vw _ 0 _ _ (by walk_at "v")) (by rfl)) (by decide) (by decide) (by rfl) (by rfl)) (by rfl) (by rfl) (by rfl)) (@pe_int _ _ _ _)) (@pa1 _ _ _ (@pe_callTy _ _ _ _ _ _ _ _ _ (kTuple (K := K)) rfl T.z_tuple (by rfl) (@pa1 _ _ _ (@vw _ 6 _ _ (by walk_at "v")) (by rfl)) (by decide) (by decide) (by rfl) (by rfl)) (by rfl)) (by rfl))))))))), ?_⟩
  have h64 : 2 ^ m <= 64 := Nat.pow_le_pow_right (n := 2) (by decide) m6
  have hin := cross_in m (by omega)
  have hpow : ∀ s, s < m -> 2 ^ s < 2 ^ m := fun s hs => Nat.pow_lt_pow_right (by decide) hs
  have hpos : ∀ s : Nat, 0 < 2 ^ s := fun s => Nat.two_pow_pos s
  have hbits := bits_pow m (by omega)
  have ew : ∀ k, k < 2 ^ m -> hadF (valF bs) m k = wt m (valF bs) k := fun k hk => had_wt hk
  generalize hM : 2 ^ m = M at *
  refine seq_at (fun σ H' => ∃ l : Addr, σ = [some (.ref p), some (.ref l), none, none, none, none, none] /\ Same H H' /\ H l = none /\ H' l = some (.lst (ixL (hadF (valF bs) 0) M))) ?_ ?_ (by walk_at "sm")
  . refine .inr ⟨⟨_, hp⟩, ?_⟩
    refine comp_tup (xs := bs.map V.bl) (fun i ys H' => H' = H /\ ys = ixL (valF bs) i) ⟨rfl, rfl⟩ (fun i ys H' _ ⟨e, _⟩ => by rw [e]; exact hp) (fun i ys H' hi ⟨_, e⟩ => by
      rw [List.length_map] at hi
      rw [e, ixL_len]; exact small1000 (by omega)) ?_ ?_
    . rintro i x ys H' hx ⟨rfl, rfl⟩
      have hi : i < bs.length := by
        have := (List.getElem?_eq_some_iff.mp hx).1
        rwa [List.length_map] at this
      have ex : x = .bl bs[i] := by
        rw [List.getElem?_map, List.getElem?_eq_getElem hi] at hx
        exact (Option.some.inj hx).symm
      subst ex
      refine ⟨.inr (.inl ⟨by decide, by decide⟩), rfl, ?_⟩
      rw [ixL_succ, valF_get hi]
      unfold valB
      cases bs[i] <;> rfl
    . rintro ys H' ⟨rfl, rfl⟩ l hl
      rw [List.length_map, hb]
      exact ⟨l, rfl, Same.upd hl, hl, upd_same⟩
  rintro σ H1 ⟨l, rfl, s1, hl, g1⟩
  refine seq_at (fun σ H' => σ = [some (.ref p), some (.ref l), some (.int (2 ^ 0 : Nat)), none, none, none, none] /\ H1 = H') ⟨rfl, rfl⟩ ?_ (by walk_at "sm")
  rintro σ _ ⟨rfl, rfl⟩
  refine seq_at (fun σ H' => ∃ z2 z3 z4 z5 : Option V, σ = [some (.ref p), some (.ref l), z2, z3, z4, z5, none] /\ Same H H' /\ H' l = some (.lst (ixL (hadF (valF bs) m) M))) ?_ ?_ (by walk_at "sm")
  . refine ⟨fun f σ H' => ∃ (s : Nat) (z3 z4 z5 : Option V), s <= m /\ f = m - s /\ σ = [some (.ref p), some (.ref l), some (.int (2 ^ s : Nat)), z3, z4, z5, none] /\ Same H H' /\ H' l = some (.lst (ixL (hadF (valF bs) s) M)), ⟨m, 0, none, none, none, Nat.zero_le _, rfl, rfl, s1, g1⟩, ?_⟩
    clear g1 s1
    rintro f σ H1 ⟨s, z3, z4, z5, hs, rfl, rfl, s1, g1⟩
    refine ⟨M, .inr ⟨_, s1.sqT hp, by rw [List.length_map, hb]⟩, ?_⟩
    refine ite2 (fun e => ?_) (fun e => ?_)
    . have hlt : 2 ^ s < M := by have : ((2 ^ s : Nat) : Int) < (M : Int) := of_decide_eq_true e; omega
      have hsm : s < m := by
        rcases Nat.lt_or_ge s m with z | z
        . exact z
        . have : s = m := by omega
          subst this; omega
      have hin := hin s hsm
      have hps := hpos s
      have e2 : ((2 ^ (s + 1) : Nat) : Int) = 2 * ((2 ^ s : Nat) : Int) := by rw [Nat.pow_succ, Nat.mul_comm, Int.natCast_mul]; rfl
      have ehad : hadF (valF bs) (s + 1) = crossF (hadF (valF bs) s) (2 ^ s) := rfl
      generalize hadF (valF bs) s = g at *
      generalize 2 ^ s = st at *
      refine seq_at (fun σ H' => ∃ z3 z4 z5 : Option V, σ = [some (.ref p), some (.ref l), some (.int (st : Nat)), z3, z4, z5, none] /\ Same H H' /\ H' l = some (.lst (ixL (crossF g st) M))) ?_ ?_ (by walk_at "sm")
      . refine ⟨M, .inr ⟨_, s1.sqT hp, by rw [List.length_map, hb]⟩, (M : Int), rfl, by omega, by omega, ?_⟩
        refine for_range (fun i σ H' => ∃ z3 z4 z5 : Option V, σ = [some (.ref p), some (.ref l), some (.int (st : Nat)), z3, z4, z5, none] /\ Same H H' /\ H' l = some (.lst (ixL (mixF g st i) M))) ⟨z3, z4, z5, rfl, s1, by rw [g1, ixL_congr fun k _ => (mix_zero g st k).symm]⟩ ?_ ?_
        . rintro i σ H2 hi ⟨z3, z4, z5, rfl, s2, g2⟩
          have hi' : i < M := by omega
          rw [show (0 : Int) + (i : Int) = (i : Int) from Int.zero_add _]
          dsimp only [gName]
          refine ⟨okDiv_of (by omega) (Int.le_trans (Int.ofNat_le.mpr (show st <= 64 by omega)) (by decide)), by decide, ?_⟩
          have ed : ((i : Int) / (st : Int) % 2 == 0) = decide (i / st % 2 = 0) := by
            rw [<- Int.natCast_ediv]
            generalize i / st = d
            rw [Bool.eq_iff_iff]
            simp only [beq_iff_eq, decide_eq_true_eq]
            omega
          refine ite2 (fun e => ?_) (fun e => ?_)
          . have e' : i / st % 2 = 0 := by
              have : ((i : Int) / (st : Int) % 2 == 0) = true := by simpa using e
              rw [ed] at this
              exact of_decide_eq_true this
            have hj : i + st < M := hin i hi' (by omega)
            obtain ⟨o1, o2⟩ := mix_old (f := g) hps e'
            have c1 : (i : Int) + (st : Int) = ((i + st : Nat) : Int) := by omega
            refine ⟨_, _, .inl (.of g2), ixL_at hi', _, .int (mixF g st i (i + st)), .inl (.of g2), by rw [c1]; exact ixL_at hj, ?_⟩
            dsimp only [gName]
            rw [o1, o2]
            refine ⟨_, i, g2, by rw [ixL_len]; exact ixN_nat hi', ?_⟩
            refine ⟨_, i + st, upd_same, by rw [c1, List.length_set, ixL_len]; exact ixN_nat hj, ?_⟩
            refine ⟨some (.int i), some (.int (g i)), some (.int (g (i + st))), rfl, same_put (same_put s2 hl) hl, ?_⟩
            rw [upd_same, ixL_set, ixL_set]
            congr 2
            exact ixL_congr fun k hk => (mix_next hps e' k).symm
          . have e' : ¬ i / st % 2 = 0 := fun z => by
              rw [<- decide_eq_true_iff (p := i / st % 2 = 0), <- ed] at z
              exact e (by simpa using z)
            refine ⟨some (.int i), z4, z5, rfl, s2, ?_⟩
            rw [g2, ixL_congr fun k _ => (mix_skip hps e' k).symm]
        . rintro σ H2 ⟨z3, z4, z5, rfl, s2, g2⟩
          refine ⟨z3, z4, z5, rfl, s2, ?_⟩
          rw [g2, Int.toNat_natCast, ixL_congr fun k hk => mix_end hk]
      clear g1 s1
      rintro σ H1 ⟨z3, z4, z5, rfl, s1, g1⟩
      refine ⟨.inr (.inl ⟨by decide, by decide⟩), m - (s + 1), by omega, s + 1, z3, z4, z5, hsm, rfl, ?_, s1, ?_⟩
      . rw [e2]; rfl
      . rw [ehad]; exact g1
    . have hsm : s = m := by
        rcases Nat.lt_or_ge s m with z | z
        . have := hpow s z
          exact (e (decide_eq_true (by omega))).elim
        . omega
      subst hsm
      exact ⟨_, z3, z4, z5, rfl, s1, g1⟩
  clear g1 s1
  rintro σ H1 ⟨z2, z3, z4, z5, rfl, s1, g1⟩
  rw [ixL_congr ew] at g1
  generalize wt m (valF bs) = g at *
  refine seq_at (fun σ H' => ∃ (t : Addr) (zs : List V), σ = [some (.ref p), some (.ref l), z2, z3, z4, z5, some (.ref t)] /\ Same H H' /\ H' t = some (.lst zs) /\ Reps K H' ((termG g M).map termD) zs) ?_ ?_ (by walk_at "sm")
  . refine ⟨M, .inl ⟨_, .of g1, ixL_len.symm⟩, (M : Int), rfl, by omega, by omega, ?_⟩
    refine comp_range (fun i zs H' => Same H1 H' /\ Reps K H' ((termG g i).map termD) zs /\ zs.length <= i) ⟨Same.refl _, reps_nil, Nat.le_refl _⟩ (fun i zs H' hi ⟨_, _, e⟩ => small1000 (by omega)) ?_ ?_
    . rintro i zs H2 hi ⟨s2, r2, l2⟩
      have hi' : i < M := by omega
      rw [show (0 : Int) + (i : Int) = (i : Int) from Int.zero_add _]
      have et : termG g (i + 1) = termG g i ++ (if g i = 0 then [] else [(i, g i)]) := rfl
      rw [et]
      have gi : SqL K H2 l (ixL g M) := s2.sqL (.of g1)
      refine ⟨_, _, .inl gi, ixL_at hi', ?_⟩
      refine ite2 (fun e => ?_) (fun e => ?_)
      . have w0 : ¬ g i = 0 := by simpa using e
        rw [if_neg w0, List.map_append]
        refine ⟨_, _, .inl gi, ixL_at hi', small_le (show 2 <= 1000 by decide), fun k hk => ⟨s2.trans (Same.upd hk), ?_, by rw [List.length_append]; exact Nat.succ_le_succ l2⟩⟩
        exact Reps.append (Reps.same (Same.upd hk) _ _ r2) (reps_cons (rep_tup1 (xs := [.int i, .int (g i)]) upd_same (reps_cons rep_int (reps_cons rep_int reps_nil))) reps_nil)
      . have w0 : g i = 0 := by simpa using e
        rw [if_pos w0, List.append_nil]
        exact ⟨s2, r2, Nat.le_succ_of_le l2⟩
    . rintro zs H2 ⟨s2, r2, l2⟩ t ht
      rw [Int.toNat_natCast] at r2
      exact ⟨t, zs, rfl, s1.trans (s2.trans (Same.upd ht)), upd_same, Reps.same (Same.upd ht) _ _ r2⟩
  clear g1 s1
  rintro σ H1 ⟨t, zs, rfl, s1, g1, r1⟩
  refine ⟨M, .inr ⟨_, s1.sqT hp, by rw [List.length_map, hb]⟩, rfl, ?_⟩
  dsimp only [mBitlen, tC, mSub]
  rw [hbits]
  have : ((m + 1 : Nat) : Int) - 1 = (m : Int) := by omega
  rw [this]
  refine ⟨_, .inl ⟨.of g1, fun k hk => ⟨small_le (show 2 <= 1000 by decide), fun k2 hk2 => ?_⟩⟩⟩
  have S := (Same.upd (o := .tup zs) hk).trans (Same.upd (o := .tup [.int m, .ref k]) hk2)
  refine q _ _ (s1.trans S) (.of (rep_tup1 upd_same (reps_cons rep_int (reps_cons (rep_tup1 ?_ (Reps.same S _ _ r1)) reps_nil))))
  exact Same.upd hk2 _ _ upd_same
theorem ok_common_divisor : FnOk P w K mg base CX0 1 T.f_common_divisor T.d_common_divisor ["one", "other"] sp_cd := by
  refine T.F_common_divisor.ok sc_common_divisor (fun vs H Q E h => by unfold sp_cd at h; split at h <;> first | rfl | exact h.elim) (fun cdv A outer s H vs Q E hr h => ?_)
  have hu := hu60 hr
  unfold sp_cd at h
  split at h
  rotate_left
  . exact h.elim
  rename_i a b
  obtain ⟨h1, h2, k⟩ := h
  refine ⟨_, (@pss_cons _ _ _ _ _ (@ps_set _ _ 2 _ _ _ _ sc_common_divisor.nd rfl (by walk_at "e") (@vw _ 0 _ _ (by walk_at "v")) (by rfl) (by walk_at "i")) (@pss_cons _ _ _ _ _ (@ps_set _ _ 3 _ _ _ _ sc_common_divisor.nd rfl (by walk_at "e") (@vw _ 1 _ _ (by walk_at "v")) (by rfl) (by walk_at "i")) (@pss_cons _ _ _ _ _ (@ps_whileM _ _ _ _ _ _ PassesOwn.never (@tu_cmp _ _ _ _ _ _ _ _ om_gt (@vw _ 3 _ _ (by walk_at "v")) (@pe_int _ _ _ _) (by walk_at "n")) (@pss_cons _ _ _ _ _ (@ps_set _ _ 4 _ _ _ _ sc_common_divisor.nd rfl (by walk_at "e") (@pe_op _ _ _ _ _ _ _ _ om_mod (@vw _ 2 _ _ (by walk_at "v")) (@vw _ 3 _ _ (by walk_at "v"))) (by rfl) (by walk_at "i")) (@pss_cons _ _ _ _ _ (@ps_set _ _ 2 _ _ _ _ sc_common_divisor.nd rfl (by walk_at "e") (@vw _ 3 _ _ (by walk_at "v")) (by rfl) (by walk_at "i")) (@pss_one _ _ _ (@ps_set _ _ 3 _ _ _ _ sc_common_divisor.nd rfl (by walk_at "e") (@vw _ 4 _ _ (by walk_at "v")) (by rfl) (by walk_at "i")))))) (@pss_one _ _ _ (@ps_ret _ _ _ _ (@vw _ 2 _ _ (by walk_at "v"))))))), ?_⟩
  refine ⟨fun m σ H' => ∃ (x y : Int) (z : Option V), σ = [some (.int a), some (.int b), some (.int x), some (.int y), z] /\ H' = H /\ 0 <= x /\ 0 <= y /\ Int.gcd x y = Int.gcd a b /\ m = y.toNat, ⟨_, a, b, none, rfl, rfl, h1, h2, rfl, rfl⟩, ?_⟩
  rintro m σ H' ⟨x, y, z, rfl, rfl, hx, hy, hg, rfl⟩
  show if decide (0 < y) = true then _ else _
  refine ite2 (fun h => ?_) (fun h => ?_)
  . have hy0 : 0 < y := of_decide_eq_true h
    refine ⟨hy0, ?_⟩
    have h3 := Int.emod_nonneg x (show y ≠ 0 by omega)
    have h4 := Int.emod_lt_of_pos x hy0
    refine ⟨(x % y).toNat, by omega, y, x % y, _, rfl, rfl, hy, h3, ?_, rfl⟩
    rw [<- hg, Int.gcd_comm x y]
    exact gcd_mod hx hy
  . have hy0 : y = 0 := by
      have : ¬ 0 < y := fun z => h (decide_eq_true z)
      omega
    subst hy0
    show Q (.int x) H'
    rw [Int.gcd_zero_right] at hg
    have e : x = ((a.gcd b : Nat) : Int) := by rw [<- hg]; omega
    rw [e]
    exact k
theorem ok_share_of : FnOk P w K mg base CX0 2 T.f_share_of T.d_share_of ["top", "bottom"] sp_share := by
  have G_common_divisor := ok_common_divisor (P := P) (w := w) (base := base) T
  refine T.F_share_of.ok sc_share_of (fun vs H Q E h => by unfold sp_share at h; split at h <;> first | rfl | exact h.elim) (fun cdv A outer s H vs Q E hr h => ?_)
  have hu := hu60 hr
  have hr_common_divisor := hr.mono (show 1 <= _ by decide)
  have mo1 : SpMono sp_cd := sp_cd_mono
  unfold sp_share at h
  split at h
  rotate_left
  . exact h.elim
  rename_i a b
  obtain ⟨hb, sa, sb, k⟩ := h
  refine ⟨_, (@pss_cons _ _ _ _ _ (@ps_set _ _ 2 _ _ _ _ sc_share_of.nd rfl (by walk_at "e") (@pe_call _ _ _ _ _ _ _ _ _ _ _ _ _ _ _ _ G_common_divisor hr_common_divisor rfl T.m_common_divisor T.F_common_divisor.kp T.b_common_divisor .nil pass0 (@pa_cons _ _ _ _ _ (@pe_callB _ _ _ _ _ _ _ _ _ cm_abs rfl T.z_abs (by rfl) (@pa1 _ _ _ (@vw _ 0 _ _ (by walk_at "v")) (by rfl)) (by decide) (by decide) (by rfl) (by rfl)) (@pa1 _ _ _ (@pe_callB _ _ _ _ _ _ _ _ _ cm_abs rfl T.z_abs (by rfl) (@pa1 _ _ _ (@vw _ 1 _ _ (by walk_at "v")) (by rfl)) (by decide) (by decide) (by rfl) (by rfl)) (by rfl)) (by rfl)) (by decide) (by rfl) (by rfl)) (by rfl) (by walk_at "i")) (@pss_cons _ _ _ _ _ (@ps_if _ _ _ _ _ _ _ _ (@tu_cmp _ _ _ _ _ _ _ _ om_lt (@vw _ 1 _ _ (by walk_at "v")) (@pe_int _ _ _ _) (by walk_at "n")) (@pss_one _ _ _ (@ps_set _ _ 2 _ _ _ _ sc_share_of.nd rfl (by walk_at "e") (@pe_un _ _ _ _ _ _ um_neg (@vw _ 2 _ _ (by walk_at "v"))) (by rfl) (by walk_at "i"))) (@pss_nil _)) (@pss_one _ _ _ (@ps_ret _ _ _ _ (@pe_tup _ _ _ _ _ (@pa_cons _ _ _ _ _ (@pe_op _ _ _ _ _ _ _ _ om_div (@vw _ 0 _ _ (by walk_at "v")) (@vw _ 2 _ _ (by walk_at "v"))) (@pa1 _ _ _ (@pe_op _ _ _ _ _ _ _ _ om_div (@vw _ 1 _ _ (by walk_at "v")) (@vw _ 2 _ _ (by walk_at "v"))) (by rfl)) (by rfl))))))), ?_⟩
  have eg : (Int.gcd (a.natAbs : Int) (b.natAbs : Int)) = a.gcd b := by unfold Int.gcd; simp
  obtain ⟨_, _, g0, g1⟩ := sh_small sa sb hb
  refine ⟨by omega, by omega, ?_⟩
  dsimp only [gName]
  rw [eg]
  refine ite2 (fun e => ?_) (fun e => ?_)
  . have hb0 : b < 0 := of_decide_eq_true e
    omega
  have okd : okDiv ((a.gcd b : Nat) : Int) := by
    refine ⟨g0, Int.lt_of_le_of_lt g1 ?_⟩
    have e1 : b = ((b.natAbs : Nat) : Int) := by omega
    have e2 : ((b.natAbs : Nat) : Int) < ((2 ^ 1000 : Nat) : Int) := Int.ofNat_lt.mpr sb
    have e3 : ((2 ^ 1000 : Nat) : Int) <= 2 ^ 4096 := by decide +kernel
    omega
  refine ⟨okd, okd, small_le (show 2 <= 1000 by decide), fun p hp => ?_⟩
  exact k p hp
theorem ok__law_share : FnOk P w K mg base CX0 1 T.f__law_share T.d__law_share ["_law_top", "_law_bottom"] sp_share := by
  refine T.F__law_share.ok sc__law_share (fun vs H Q E h => by unfold sp_share at h; split at h <;> first | rfl | exact h.elim) (fun cdv A outer s H vs Q E hr h => ?_)
  have hu := hu60 hr
  unfold sp_share at h
  split at h
  rotate_left
  . exact h.elim
  rename_i a b
  obtain ⟨hb, sa, sb, k⟩ := h
  refine ⟨_, (@pss_cons _ _ _ _ _ (@ps_set _ _ 2 _ _ _ _ sc__law_share.nd rfl (by walk_at "e") (@vw _ 1 _ _ (by walk_at "v")) (by rfl) (by walk_at "i")) (@pss_cons _ _ _ _ _ (@ps_set _ _ 3 _ _ _ _ sc__law_share.nd rfl (by walk_at "e") (@pe_callB _ _ _ _ _ _ _ _ _ cm_abs rfl T.z_abs (by rfl) (@pa1 _ _ _ (@vw _ 0 _ _ (by walk_at "v")) (by rfl)) (by decide) (by decide) (by rfl) (by rfl)) (by rfl) (by walk_at "i")) (@pss_cons _ _ _ _ _ (@ps_whileM _ _ _ _ _ _ PassesOwn.never (@tu_cmp _ _ _ _ _ _ _ _ om_gt (@vw _ 3 _ _ (by walk_at "v")) (@pe_int _ _ _ _) (by walk_at "n")) (@pss_cons _ _ _ _ _ (@ps_set _ _ 4 _ _ _ _ sc__law_share.nd rfl (by walk_at "e") (@pe_op _ _ _ _ _ _ _ _ om_mod (@vw _ 2 _ _ (by walk_at "v")) (@vw _ 3 _ _ (by walk_at "v"))) (by rfl) (by walk_at "i")) (@pss_cons _ _ _ _ _ (@ps_set _ _ 2 _ _ _ _ sc__law_share.nd rfl (by walk_at "e") (@vw _ 3 _ _ (by walk_at "v")) (by rfl) (by walk_at "i")) (@pss_one _ _ _ (@ps_set _ _ 3 _ _ _ _ sc__law_share.nd rfl (by walk_at "e") (@vw _ 4 _ _ (by walk_at "v")) (by rfl) (by walk_at "i")))))) (@pss_one _ _ _ (@ps_ret _ _ _ _ (@pe_tup _ _ _ _ _ (@pa_cons _ _ _ _ _ (@pe_op _ _ _ _ _ _ _ _ om_div (@vw _ 0 _ _ (by walk_at "v")) (@vw _ 2 _ _ (by walk_at "v"))) (@pa1 _ _ _ (@pe_op _ _ _ _ _ _ _ _ om_div (@vw _ 1 _ _ (by walk_at "v")) (@vw _ 2 _ _ (by walk_at "v"))) (by rfl)) (by rfl)))))))), ?_⟩
  obtain ⟨_, _, g0, g1⟩ := sh_small sa sb hb
  have okd : okDiv ((a.gcd b : Nat) : Int) := by
    refine ⟨g0, Int.lt_of_le_of_lt g1 ?_⟩
    have e1 : b = ((b.natAbs : Nat) : Int) := by omega
    have e2 : ((b.natAbs : Nat) : Int) < ((2 ^ 1000 : Nat) : Int) := Int.ofNat_lt.mpr sb
    have e3 : ((2 ^ 1000 : Nat) : Int) <= 2 ^ 4096 := by decide +kernel
    omega
  refine ⟨fun m σ H' => ∃ (x y : Int) (z : Option V), σ = [some (.int a), some (.int b), some (.int x), some (.int y), z] /\ H' = H /\ 0 <= x /\ 0 <= y /\ Int.gcd x y = Int.gcd a b /\ m = y.toNat, ⟨_, b, (a.natAbs : Int), none, rfl, rfl, by omega, by omega, ?_, rfl⟩, ?_⟩
  . rw [Int.gcd_comm]; unfold Int.gcd; simp
  rintro m σ H' ⟨x, y, z, rfl, rfl, hx, hy, hg, rfl⟩
  show if decide (0 < y) = true then _ else _
  refine ite2 (fun h => ?_) (fun h => ?_)
  . have hy0 : 0 < y := of_decide_eq_true h
    refine ⟨hy0, ?_⟩
    have h3 := Int.emod_nonneg x (show y ≠ 0 by omega)
    have h4 := Int.emod_lt_of_pos x hy0
    refine ⟨(x % y).toNat, by omega, y, x % y, _, rfl, rfl, hy, h3, ?_, rfl⟩
    rw [<- hg, Int.gcd_comm x y]
    exact gcd_mod hx hy
  . have hy0 : y = 0 := by
      have : ¬ 0 < y := fun z => h (decide_eq_true z)
      omega
    subst hy0
    rw [Int.gcd_zero_right] at hg
    have e : x = ((a.gcd b : Nat) : Int) := by rw [<- hg]; omega
    subst e
    exact ⟨okd, okd, small_le (show 2 <= 1000 by decide), fun p hp => k p hp⟩
def sp_power : Sp := fun vs H Q _ => match vs with
  | [.int b, .int t] => ∃ m : Nat, t = m /\ m <= 64 /\ ((-(2 ^ 64) < b /\ b < 2 ^ 64) \/ (Nb b 100 /\ m <= 12)) /\ Q (.int (b ^ m)) H
  | _ => False
theorem sp_power_mono : SpMono sp_power := fun vs H Q Q' E h q => by
  unfold sp_power at *
  split at q
  . revert q; repeat' first | exact h _ _ | exact newL_mono h | exact out_mono h | exact outT_mono h | walk_at "m"
  . exact q.elim
theorem ok_power_of : FnOk P w K mg base CX0 1 T.f_power_of T.d_power_of ["base", "times"] sp_power := by
  refine T.F_power_of.ok sc_power_of (fun vs H Q E h => by unfold sp_power at h; split at h <;> first | rfl | exact h.elim) (fun cdv A outer s H vs Q E hr h => ?_)
  have hu := hu60 hr
  unfold sp_power at h
  split at h
  rotate_left
  . exact h.elim
  rename_i b t
  obtain ⟨m, e1, h1, b1, q⟩ := h
  subst e1
  refine ⟨_, (@pss_cons _ _ _ _ _ (@ps_set _ _ 2 _ _ _ _ sc_power_of.nd rfl (by walk_at "e") (@pe_int _ _ _ _) (by rfl) (by walk_at "i")) (@pss_cons _ _ _ _ _ (@ps_for _ _ _ _ _ _ _ _ PassesOwn.never rfl (@pi_range1 _ _ _ _ _ _ rfl T.z_range (@pa1 _ _ _ (@vw _ 1 _ _ (by walk_at "v")) (by rfl)) (by rfl)) (@pg_name _ _ 3 _ sc_power_of.nd rfl (by walk_at "e") (by walk_at "i")) (@pss_one _ _ _ (@ps_set _ _ 2 _ _ _ _ sc_power_of.nd rfl (by walk_at "e") (@pe_op _ _ _ _ _ _ _ _ om_mul (@vw _ 2 _ _ (by walk_at "v")) (@vw _ 0 _ _ (by walk_at "v"))) (by rfl) (by walk_at "i"))) (by intro _; rfl)) (@pss_one _ _ _ (@ps_ret _ _ _ _ (@vw _ 2 _ _ (by walk_at "v")))))), ?_⟩
  refine ⟨m, rfl, by omega, by omega, ?_⟩
  refine for_range (fun i σ H' => H' = H /\ ∃ z : Option V, σ = [some (.int b), some (.int m), some (.int (b ^ i)), z]) ⟨rfl, none, by rw [Int.pow_zero]; rfl⟩ ?_ ?_
  . rintro i σ H' hi ⟨rfl, z, rfl⟩
    have hi' : i < m := by omega
    have okm : okMul (b ^ i) b := by
      rcases b1 with b1 | ⟨b1, b2⟩
      . exact .inr (.inr b1)
      . exact Nb.okMul ((b1.pow i).up (by omega)) (b1.up (by omega))
    refine ⟨okm, rfl, some (.int (0 + (i : Int))), ?_⟩
    rw [Int.pow_succ]
    rfl
  . rintro σ H' ⟨rfl, z, rfl⟩
    have : (m : Int).toNat = m := by omega
    rw [this]
    exact q
def sp_two_to : Sp := fun vs H Q _ => match vs with
  | [.int n] => ∃ m : Nat, n = m /\ m <= 64 /\ Q (.int (2 ^ m : Nat)) H
  | _ => False
theorem sp_two_to_mono : SpMono sp_two_to := fun vs H Q Q' E h q => by
  unfold sp_two_to at *
  split at q
  . revert q; repeat' first | exact h _ _ | exact newL_mono h | exact out_mono h | exact outT_mono h | walk_at "m"
  . exact q.elim
theorem ok_two_to : FnOk P w K mg base CX0 2 T.f_two_to T.d_two_to ["n"] sp_two_to := by
  have G_power_of := ok_power_of (P := P) (w := w) (base := base) T
  refine T.F_two_to.ok sc_two_to (fun vs H Q E h => by unfold sp_two_to at h; split at h <;> first | rfl | exact h.elim) (fun cdv A outer s H vs Q E hr h => ?_)
  have hu := hu60 hr
  have hr_power_of := hr.mono (show 1 <= _ by decide)
  unfold sp_two_to at h
  split at h
  rotate_left
  . exact h.elim
  rename_i n
  obtain ⟨m, e1, h1, q⟩ := h
  subst e1
  refine ⟨_, (@pss_one _ _ _ (@ps_ret _ _ _ _ (@pe_call _ _ _ _ _ _ _ _ _ _ _ _ _ _ _ _ G_power_of hr_power_of rfl T.m_power_of T.F_power_of.kp T.b_power_of .nil pass0 (@pa_cons _ _ _ _ _ (@pe_int _ _ _ _) (@pa1 _ _ _ (@vw _ 0 _ _ (by walk_at "v")) (by rfl)) (by rfl)) (by decide) (by rfl) (by rfl)))), ?_⟩
  refine ⟨m, rfl, h1, .inl ⟨by decide, by decide⟩, ?_⟩
  have e : (2 : Int) ^ m = ((2 ^ m : Nat) : Int) := by rw [Int.natCast_pow]; rfl
  rw [e]
  exact q
theorem ok__law_power : FnOk P w K mg base CX0 1 T.f__law_power T.d__law_power ["_law_base", "_law_times"] sp_power := by
  refine T.F__law_power.ok sc__law_power (fun vs H Q E h => by unfold sp_power at h; split at h <;> first | rfl | exact h.elim) (fun cdv A outer s H vs Q E hr h => ?_)
  have hu := hu60 hr
  unfold sp_power at h
  split at h
  rotate_left
  . exact h.elim
  rename_i b t
  obtain ⟨m, e1, h1, b1, q⟩ := h
  subst e1
  refine ⟨_, (@pss_cons _ _ _ _ _ (@ps_set _ _ 2 _ _ _ _ sc__law_power.nd rfl (by walk_at "e") (@pe_int _ _ _ _) (by rfl) (by walk_at "i")) (@pss_cons _ _ _ _ _ (@ps_for _ _ _ _ _ _ _ _ PassesOwn.never rfl (@pi_range1 _ _ _ _ _ _ rfl T.z_range (@pa1 _ _ _ (@vw _ 1 _ _ (by walk_at "v")) (by rfl)) (by rfl)) (@pg_name _ _ 3 _ sc__law_power.nd rfl (by walk_at "e") (by walk_at "i")) (@pss_one _ _ _ (@ps_set _ _ 2 _ _ _ _ sc__law_power.nd rfl (by walk_at "e") (@pe_op _ _ _ _ _ _ _ _ om_mul (@vw _ 2 _ _ (by walk_at "v")) (@vw _ 0 _ _ (by walk_at "v"))) (by rfl) (by walk_at "i"))) (by intro _; rfl)) (@pss_one _ _ _ (@ps_ret _ _ _ _ (@vw _ 2 _ _ (by walk_at "v")))))), ?_⟩
  refine ⟨m, rfl, by omega, by omega, ?_⟩
  refine for_range (fun i σ H' => H' = H /\ ∃ z : Option V, σ = [some (.int b), some (.int m), some (.int (b ^ i)), z]) ⟨rfl, none, by rw [Int.pow_zero]; rfl⟩ ?_ ?_
  . rintro i σ H' hi ⟨rfl, z, rfl⟩
    have hi' : i < m := by omega
    have okm : okMul (b ^ i) b := by
      rcases b1 with b1 | ⟨b1, b2⟩
      . exact .inr (.inr b1)
      . exact Nb.okMul ((b1.pow i).up (by omega)) (b1.up (by omega))
    refine ⟨okm, rfl, some (.int (0 + (i : Int))), ?_⟩
    rw [Int.pow_succ]
    rfl
  . rintro σ H' ⟨rfl, z, rfl⟩
    have : (m : Int).toNat = m := by omega
    rw [this]
    exact q
theorem ok_many_in : FnOk P w K mg base CX0 1 T.f_many_in T.d_many_in ["subset"] sp_many := by
  refine T.F_many_in.ok sc_many_in (fun vs H Q E h => by unfold sp_many at h; split at h <;> first | rfl | exact h.elim) (fun cdv A outer s H vs Q E hr h => ?_)
  have hu := hu60 hr
  unfold sp_many at h
  split at h
  rotate_left
  . exact h.elim
  rename_i x
  obtain ⟨a, e1, h1, q⟩ := h
  subst e1
  refine ⟨_, (@pss_cons _ _ _ _ _ (@ps_set _ _ 1 _ _ _ _ sc_many_in.nd rfl (by walk_at "e") (@pe_int _ _ _ _) (by rfl) (by walk_at "i")) (@pss_cons _ _ _ _ _ (@ps_set _ _ 2 _ _ _ _ sc_many_in.nd rfl (by walk_at "e") (@vw _ 0 _ _ (by walk_at "v")) (by rfl) (by walk_at "i")) (@pss_cons _ _ _ _ _ (@ps_whileM _ _ _ _ _ _ PassesOwn.never (@tu_cmp _ _ _ _ _ _ _ _ om_gt (@vw _ 2 _ _ (by walk_at "v")) (@pe_int _ _ _ _) (by walk_at "n")) (@pss_cons _ _ _ _ _ (@ps_set _ _ 1 _ _ _ _ sc_many_in.nd rfl (by walk_at "e") (@pe_op _ _ _ _ _ _ _ _ (kAdd (K := K)) (@vw _ 1 _ _ (by walk_at "v")) (@pe_op _ _ _ _ _ _ _ _ om_mod (@vw _ 2 _ _ (by walk_at "v")) (@pe_int _ _ _ _))) (by rfl) (by walk_at "i")) (@pss_one _ _ _ (@ps_set _ _ 2 _ _ _ _ sc_many_in.nd rfl (by walk_at "e") (@pe_op _ _ _ _ _ _ _ _ om_div (@vw _ 2 _ _ (by walk_at "v")) (@pe_int _ _ _ _)) (by rfl) (by walk_at "i"))))) (@pss_one _ _ _ (@ps_ret _ _ _ _ (@vw _ 1 _ _ (by walk_at "v"))))))), ?_⟩
  refine ⟨fun f σ H' => H' = H /\ ∃ m r : Nat, σ = [some (.int a), some (.int m), some (.int r)] /\ r < 2 ^ f /\ m + manyF f r = many a, ⟨64, rfl, 0, a, rfl, h1, by unfold many; exact Nat.zero_add _⟩, ?_⟩
  rintro f σ H' ⟨rfl, m, r, rfl, hr1, hm⟩
  refine ite2 (fun e => ?_) (fun e => ?_)
  . have r0 : 0 < r := by have : (0 : Int) < (r : Int) := of_decide_eq_true e; omega
    cases f with
    | zero => simp at hr1; omega
    | succ f =>
      refine ⟨by decide, okDiv_of (by decide) (by decide), ?_⟩
      refine ⟨f, Nat.lt_succ_self _, rfl, m + r % 2, r / 2, ?_, ?_, ?_⟩
      . show [some (V.int (a : Int)), some (V.int ((m : Int) + (r : Int) % 2)), some (V.int ((r : Int) / 2))] = _
        rw [Int.natCast_add, Int.natCast_emod, Int.natCast_ediv]
        rfl
      . rw [Nat.pow_succ] at hr1; omega
      . rw [<- hm]
        show m + r % 2 + manyF f (r / 2) = m + (r % 2 + manyF f (r / 2))
        omega
  . have r0 : r = 0 := by
      have : ¬ (0 : Int) < (r : Int) := fun z => e (decide_eq_true z)
      omega
    subst r0
    rw [manyF_zero, Nat.add_zero] at hm
    rw [<- hm] at q
    exact q
def signP (a b : Nat) : Int := if many (a &&& b) % 2 = 1 then -1 else 1
def sp_signP : Sp := fun vs H Q _ => match vs with
  | [.int x, .int y] => ∃ a b : Nat, x = a /\ y = b /\ a < 2 ^ 64 /\ Q (.int (signP a b)) H
  | _ => False
theorem ok_sign : FnOk P w K mg base CX0 2 T.f_sign T.d_sign ["subset", "place"] sp_signP := by
  have G_many_in := ok_many_in (P := P) (w := w) (base := base) T
  refine T.F_sign.ok sc_sign (fun vs H Q E h => by unfold sp_signP at h; split at h <;> first | rfl | exact h.elim) (fun cdv A outer s H vs Q E hr h => ?_)
  have hu := hu60 hr
  have hr_many_in := hr.mono (show 1 <= _ by decide)
  unfold sp_signP at h
  split at h
  rotate_left
  . exact h.elim
  rename_i x y
  obtain ⟨a, b, e1, e2, h1, q⟩ := h
  subst e1 e2
  refine ⟨_, (@pss_one _ _ _ (@ps_ret _ _ _ _ (@pe_ifExp _ _ _ _ _ _ _ _ (@tu_cmp _ _ _ _ _ _ _ _ (kEq (K := K) hu) (@pe_op _ _ _ _ _ _ _ _ om_mod (@pe_call _ _ _ _ _ _ _ _ _ _ _ _ _ _ _ _ G_many_in hr_many_in rfl T.m_many_in T.F_many_in.kp T.b_many_in .nil pass0 (@pa1 _ _ _ (@pe_op _ _ _ _ _ _ _ _ om_and (@vw _ 0 _ _ (by walk_at "v")) (@vw _ 1 _ _ (by walk_at "v"))) (by rfl)) (by decide) (by rfl) (by rfl)) (@pe_int _ _ _ _)) (@pe_int _ _ _ _) (by walk_at "n")) (@pe_un _ _ _ _ _ _ um_neg (@pe_int _ _ _ _)) (@pe_int _ _ _ _)))), ?_⟩
  refine ⟨a &&& b, bitAnd_nat a b, Nat.lt_of_le_of_lt Nat.and_le_left h1, by decide, ?_⟩
  unfold signP at q
  generalize many (a &&& b) = m at q ⊢
  have e : ((m : Int) % 2 == 1) = decide (m % 2 = 1) := by
    rw [Bool.eq_iff_iff]
    simp only [beq_iff_eq, decide_eq_true_eq]
    omega
  show if (false ^^ ((m : Int) % 2 == 1)) = true then Q (.int (-1)) H else Q (.int 1) H
  rw [e]
  refine ite2 (fun z => ?_) (fun z => ?_)
  . rw [if_pos (by simpa using z)] at q
    exact q
  . rw [if_neg (by simpa using z)] at q
    exact q
def sp_overall (K : W.Frag) : Sp := fun vs H Q _ => match vs with
  | [v, .int z] => ∃ (m : Nat) (ts : List (Nat × Int)), SumAt K H v m ts /\ m <= 6 /\ z.natAbs < 2 ^ 1000 /\ ∀ p, H p = none -> Q (.ref p) (upd H p (.tup [.int (shT z ((2 ^ (2 * m) : Nat) : Int)), .int (shB z ((2 ^ (2 * m) : Nat) : Int))]))
  | _ => False
theorem sp_overall_mono : SpMono (sp_overall K) := fun vs H Q Q' E h q => by
  unfold sp_overall at *
  split at q
  . revert q; repeat' first | exact h _ _ | exact newL_mono h | exact out_mono h | exact outT_mono h | walk_at "m"
  . exact q.elim
theorem four_small {m : Nat} (m6 : m <= 6) : (((2 ^ (2 * m) : Nat) : Int)).natAbs < 2 ^ 1000 := by
  have h1 : 2 ^ (2 * m) <= 2 ^ 12 := Nat.pow_le_pow_right (by decide) (by omega)
  have h2 : (2 : Nat) ^ 12 < 2 ^ 1000 := Nat.pow_lt_pow_right (by decide) (by decide)
  rw [Int.natAbs_natCast]
  exact Nat.lt_of_le_of_lt h1 h2
theorem four_eq (m : Nat) : ((2 ^ (2 * m) : Nat) : Int) = ((2 ^ m : Nat) : Int) * ((2 ^ m : Nat) : Int) := by
  rw [<- Int.natCast_mul, <- Nat.pow_add, Nat.two_mul]
theorem ok_over_all : FnOk P w K mg base CX0 3 T.f_over_all T.d_over_all ["one", "squares"] (sp_overall K) := by
  have G_share_of := ok_share_of (P := P) (w := w) (base := base) T; have G_two_to := ok_two_to (P := P) (w := w) (base := base) T
  refine T.F_over_all.ok sc_over_all (fun vs H Q E h => by unfold sp_overall at h; split at h <;> first | rfl | exact h.elim) (fun cdv A outer s H vs Q E hr h => ?_)
  have hu := hu60 hr
  have hr_share_of := hr.mono (show 2 <= _ by decide); have hr_two_to := hr.mono (show 2 <= _ by decide)
  unfold sp_overall at h
  split at h
  rotate_left
  . exact h.elim
  rename_i v z
  obtain ⟨m, ts, S, m6, hz, q⟩ := h
  obtain ⟨a, b, vs, rfl, ha, hb, hr'⟩ := S.at_
  refine ⟨_, (@pss_one _ _ _ (@ps_ret _ _ _ _ (@pe_call _ _ _ _ _ _ _ _ _ _ _ _ _ _ _ _ G_share_of hr_share_of rfl T.m_share_of T.F_share_of.kp T.b_share_of .nil pass0 (@pa_cons _ _ _ _ _ (@vw _ 1 _ _ (by walk_at "v")) (@pa1 _ _ _ (@pe_call _ _ _ _ _ _ _ _ _ _ _ _ _ _ _ _ G_two_to hr_two_to rfl T.m_two_to T.F_two_to.kp T.b_two_to .nil pass0 (@pa1 _ _ _ (@pe_op _ _ _ _ _ _ _ _ om_mul (@pe_int _ _ _ _) (@kIx _ K _ _ _ _ _ (@vw _ 0 _ _ (by walk_at "v")) (@pe_int _ _ _ _) (by intro _ _; rfl) (by rfl))) (by rfl)) (by decide) (by rfl) (by rfl)) (by rfl)) (by rfl)) (by decide) (by rfl) (by rfl)))), ?_⟩
  refine ⟨_, .int m, .inr ha, rfl, .inr (.inl ⟨by decide, by decide⟩), 2 * m, by omega, by omega, ?_⟩
  have h0 := Nat.two_pow_pos (2 * m)
  exact ⟨by omega, hz, four_small m6, q⟩
def sp_oddw : Sp := fun vs H Q _ => match vs with
  | [.int x, .int y] => ∃ a b : Nat, x = a /\ y = b /\ a < 2 ^ 64 /\ Q (.bl (decide (signP a b = -1))) H
  | _ => False
theorem sp_oddw_mono : SpMono sp_oddw := fun vs H Q Q' E h q => by
  unfold sp_oddw at *
  split at q
  . revert q; repeat' first | exact h _ _ | exact newL_mono h | exact out_mono h | exact outT_mono h | walk_at "m"
  . exact q.elim
theorem ok_is_odd_with : FnOk P w K mg base CX0 3 T.f_is_odd_with T.d_is_odd_with ["one", "other"] sp_oddw := by
  have G_sign := ok_sign (P := P) (w := w) (base := base) T
  refine T.F_is_odd_with.ok sc_is_odd_with (fun vs H Q E h => by unfold sp_oddw at h; split at h <;> first | rfl | exact h.elim) (fun cdv A outer s H vs Q E hr h => ?_)
  have hu := hu60 hr
  have hr_sign := hr.mono (show 2 <= _ by decide)
  unfold sp_oddw at h
  split at h
  rotate_left
  . exact h.elim
  rename_i x y
  obtain ⟨a, b, e1, e2, h1, q⟩ := h
  subst e1 e2
  refine ⟨_, (@pss_one _ _ _ (@ps_ret _ _ _ _ (@pe_cmpM _ _ _ _ _ _ _ _ (kEq (K := K) hu) (@pe_call _ _ _ _ _ _ _ _ _ _ _ _ _ _ _ _ G_sign hr_sign rfl T.m_sign T.F_sign.kp T.b_sign .nil pass0 (@pa_cons _ _ _ _ _ (@vw _ 0 _ _ (by walk_at "v")) (@pa1 _ _ _ (@vw _ 1 _ _ (by walk_at "v")) (by rfl)) (by rfl)) (by decide) (by rfl) (by rfl)) (@pe_un _ _ _ _ _ _ um_neg (@pe_int _ _ _ _)) (by walk_at "n")))), ?_⟩
  refine ⟨a, b, rfl, rfl, h1, ?_⟩
  have e : (false ^^ (signP a b == -1)) = decide (signP a b = -1) := by
    rw [Bool.false_xor, Bool.eq_iff_iff]
    simp only [beq_iff_eq, decide_eq_true_eq]
  show Q (.bl (false ^^ (signP a b == -1))) H
  rw [e]
  exact q
def oddT (m : Nat) (ts : List (Nat × Int)) (t : Nat) : Int := addT (fun k w => if chi m k t = -1 then w * w else 0) ts
def sp_oddsq (K : W.Frag) : Sp := fun vs H Q _ => match vs with
  | [v, .int z] => ∃ (m t : Nat) (ts : List (Nat × Int)), SumAt K H v m ts /\ m <= 6 /\ ts.length <= 64 /\ (∀ q ∈ ts, q.1 < 2 ^ m /\ -64 <= q.2 /\ q.2 <= 64) /\ z = t /\ ∀ H', Same H H' -> Q (.int (oddT m ts t)) H'
  | _ => False
theorem sp_oddsq_mono : SpMono (sp_oddsq K) := fun vs H Q Q' E h q => by
  unfold sp_oddsq at *
  split at q
  . revert q; repeat' first | exact h _ _ | exact newL_mono h | exact out_mono h | exact outT_mono h | walk_at "m"
  . exact q.elim
theorem ok_odd_squares : FnOk P w K mg base CX0 4 T.f_odd_squares T.d_odd_squares ["one", "subset"] (sp_oddsq K) := by
  have G_is_odd_with := ok_is_odd_with (P := P) (w := w) (base := base) T
  refine T.F_odd_squares.ok sc_odd_squares (fun vs H Q E h => by unfold sp_oddsq at h; split at h <;> first | rfl | exact h.elim) (fun cdv A outer s H vs Q E hr h => ?_)
  have hu := hu60 hr
  have hr_is_odd_with := hr.mono (show 3 <= _ by decide)
  unfold sp_oddsq at h
  split at h
  rotate_left
  . exact h.elim
  rename_i v z
  obtain ⟨m, t, ts, S, m6, tl, ht, e1, q⟩ := h
  subst e1
  obtain ⟨a, b, vs, rfl, ha, hb, hr'⟩ := id S.at_
  have h64 : 2 ^ m <= 64 := Nat.pow_le_pow_right (n := 2) (by decide) m6
  refine ⟨_, (@pss_one _ _ _ (@ps_ret _ _ _ _ (@pe_callB _ _ _ _ _ _ _ _ _ (kSum (K := K) rfl) rfl T.z_sum (by rfl) (@pa1 _ _ _ (@pe_compB _ _ _ _ _ _ _ (["each", "weight", "subset"]) 2 [1] _ _ _ _ rfl (@kSeq _ K _ _ _ (@kIx _ K _ _ _ _ _ (@vw _ 0 _ _ (by walk_at "v")) (@pe_int _ _ _ _) (by intro _ _; rfl) (by rfl)) (by rfl)) (by kernel_rfl) rfl rfl (by kernel_rfl) (fun c => @kTup _ K _ _ _ _ 2 rfl (@pgs_cons _ _ _ _ _ (@pg_name _ _ 0 _ (show (["each", "weight", "subset"] : List Str).Nodup by decide +kernel) rfl (by walk_at "e") (by walk_at "i")) (@pgs_cons _ _ _ _ _ (@pg_name _ _ 1 _ (show (["each", "weight", "subset"] : List Str).Nodup by decide +kernel) rfl (by walk_at "e") (by walk_at "i")) (@pgs_nil _) (by rfl)) (by rfl)) (by rfl) (by rfl) (by rfl)) (go_tup (gos_cons gm_name (gms_cons gm_name gms_nil) (go_name (by decide)) (gos_cons gm_name gms_nil (go_name (by decide)) gos_nil))) (fun c => @pts_one _ _ _ (@tu_val _ _ _ (@pe_call _ _ _ _ _ _ _ _ _ _ _ _ _ _ _ _ G_is_odd_with hr_is_odd_with rfl T.m_is_odd_with T.F_is_odd_with.kp T.b_is_odd_with .nil pass0 (@pa_cons _ _ _ _ _ (@vw _ 0 _ _ (by walk_at "v")) (@pa1 _ _ _ (@vw _ 2 _ _ (by walk_at "v")) (by rfl)) (by rfl)) (by decide) (by rfl) (by rfl)) (by intro _; rfl))) (fun c => (@pe_op _ _ _ _ _ _ _ _ om_mul (@vw _ 1 _ _ (by walk_at "v")) (@vw _ 1 _ _ (by walk_at "v")))) (by intro _; rfl)) (by rfl)) (by decide) (by decide) (by rfl) (by rfl)))), ?_⟩
  refine ⟨_, .ref b, .inr ha, rfl, .inr ⟨⟨_, hb⟩, ?_⟩⟩
  have hvl : vs.length = ts.length := by have := hr'.length; rw [List.length_map] at this; omega
  let f : Nat -> Int -> List Int := fun k w => if chi m k t = -1 then [w * w] else []
  have fl : ∀ k w, (f k w).length <= 1 := fun k w => by show (if chi m k t = -1 then [w * w] else []).length <= 1; split <;> simp
  refine comp_tup (xs := vs) (fun i ys H' => H' = H /\ ys = (foldT f (ts.take i)).map V.int) ⟨rfl, rfl⟩ (fun i ys H' _ ⟨e, _⟩ => by rw [e]; exact hb) (fun i ys H' hi ⟨_, e⟩ => by
    have := foldT_len fl (ts.take i)
    rw [List.length_take] at this
    rw [e, List.length_map]; exact small1000 (by omega)) ?_ ?_
  . rintro i x ys H' hx ⟨rfl, rfl⟩
    obtain ⟨⟨k, wgt⟩, c, hq, rfl, hc⟩ := reps_terms_at hr' hx
    have hm := ht _ (List.mem_of_getElem? hq)
    have hk : k < 2 ^ m := hm.1
    refine ⟨c, _, rfl, hc, rfl, _, _, rfl, _, _, rfl, rfl, ?_⟩
    refine ⟨k, t, rfl, rfl, by omega, ?_⟩
    have ec : signP k t = chi m k t := (chi_many hk (by omega)).symm
    rw [foldT_take hq, List.map_append]
    refine ite2 (fun e => ?_) (fun e => ?_)
    . have e' : chi m k t = -1 := by rw [<- ec]; exact of_decide_eq_true e
      refine ⟨light_mul hm.2, rfl, ?_⟩
      show _ = _ ++ (f k wgt).map V.int
      show _ = _ ++ ((if chi m k t = -1 then [wgt * wgt] else []) : List Int).map V.int
      rw [if_pos e']; rfl
    . have e' : ¬ chi m k t = -1 := by rw [<- ec]; exact fun z => e (decide_eq_true z)
      refine ⟨rfl, ?_⟩
      show _ = _ ++ ((if chi m k t = -1 then [wgt * wgt] else []) : List Int).map V.int
      rw [if_neg e', List.map_nil, List.append_nil]
  . rintro ys H' ⟨rfl, rfl⟩ l hl
    rw [List.take_of_length_le (by omega)]
    refine ⟨_, .of upd_same, ?_⟩
    have es : (foldT f ts).sum = oddT m ts t := by
      rw [foldT_sum]
      unfold oddT
      congr 1
      funext k w
      show ((if chi m k t = -1 then [w * w] else []) : List Int).sum = _
      split <;> simp
    rw [es]
    exact q _ (Same.upd hl)
structure Gl (m : Nat) (ts : List (Nat × Int)) : Prop where
  m6 : 1 <= m /\ m <= 6
  len : ts.length <= 64
  ok : ∀ q ∈ ts, q.1 < 2 ^ m /\ -64 <= q.2 /\ q.2 <= 64
def sqT_ (ts : List (Nat × Int)) : Int := addT (fun _ w => w * w) ts
theorem addT_map (f : Nat -> Int -> Int) : ∀ ts : List (Nat × Int), addT f ts = (ts.map fun q => f q.1 q.2).sum
  | [] => rfl
  | q :: ts => by
    show f q.1 q.2 + addT f ts = _
    rw [addT_map f ts, List.map_cons, List.sum_cons]
theorem sq_b {w : Int} (h : -64 <= w /\ w <= 64) : 0 <= w * w /\ w * w <= 4096 := sq_le h
theorem addT_range {f : Nat -> Int -> Int} : ∀ {ts : List (Nat × Int)}, (∀ q ∈ ts, 0 <= f q.1 q.2 /\ f q.1 q.2 <= 4096) -> 0 <= addT f ts /\ addT f ts <= ts.length * 4096
  | [], _ => ⟨Int.le_refl _, by show (0 : Int) <= 0 * 4096; decide⟩
  | q :: ts, h => by
    have h1 := h q List.mem_cons_self
    have h2 := addT_range fun x hx => h x (List.mem_cons_of_mem _ hx)
    show 0 <= f q.1 q.2 + addT f ts /\ f q.1 q.2 + addT f ts <= ((ts.length + 1 : Nat) : Int) * 4096
    omega
theorem Gl.sq {m : Nat} {ts : List (Nat × Int)} (G : Gl m ts) : 0 <= sqT_ ts /\ sqT_ ts <= 262144 := by
  have h := addT_range (f := fun _ w => w * w) (ts := ts) fun q hq => sq_b (G.ok q hq).2
  have := G.len
  unfold sqT_
  omega
theorem Gl.lv {m : Nat} {ts : List (Nat × Int)} (G : Gl m ts) (j : Nat) : 0 <= lvT m ts j /\ lvT m ts j <= 262144 := by
  have h := addT_range (f := fun s w => if manyF m s = j then w * w else 0) (ts := ts) fun q hq => by
    have := sq_b (G.ok q hq).2
    show 0 <= (if manyF m q.1 = j then q.2 * q.2 else 0) /\ (if manyF m q.1 = j then q.2 * q.2 else 0) <= 4096
    split <;> omega
  have := G.len
  unfold lvT
  omega
theorem Gl.odd {m : Nat} {ts : List (Nat × Int)} (G : Gl m ts) (t : Nat) : 0 <= oddT m ts t /\ oddT m ts t <= 262144 := by
  have h := addT_range (f := fun k w => if chi m k t = -1 then w * w else 0) (ts := ts) fun q hq => by
    have := sq_b (G.ok q hq).2
    show 0 <= (if chi m q.1 t = -1 then q.2 * q.2 else 0) /\ (if chi m q.1 t = -1 then q.2 * q.2 else 0) <= 4096
    split <;> omega
  have := G.len
  unfold oddT
  omega
def fourN (m : Nat) : Int := ((2 ^ (2 * m) : Nat) : Int)
theorem four_le {m : Nat} (m6 : m <= 6) : 1 <= fourN m /\ fourN m <= 4096 := by
  have h1 : 2 ^ (2 * m) <= 2 ^ 12 := Nat.pow_le_pow_right (by decide) (by omega)
  have h2 := Nat.two_pow_pos (2 * m)
  unfold fourN
  omega
def restT (m : Nat) (ts : List (Nat × Int)) : Int := fourN m - sqT_ ts
theorem Gl.rest {m : Nat} {ts : List (Nat × Int)} (G : Gl m ts) : -262144 <= restT m ts /\ restT m ts <= 4096 := by
  have := G.sq
  have := four_le G.m6.2
  unfold restT
  omega
def darkL (m : Nat) (ts : List (Nat × Int)) (n : Nat) : List Nat := (List.range n).filter fun k => !(ts.map (·.1)).contains k
theorem darkL_len (m : Nat) (ts : List (Nat × Int)) (n : Nat) : (darkL m ts n).length <= n := by
  unfold darkL
  exact Nat.le_trans (List.length_filter_le _ _) (by rw [List.length_range]; exact Nat.le_refl _)
theorem darkL_mem {m : Nat} {ts : List (Nat × Int)} {n k : Nat} : k ∈ darkL m ts n ↔ k < n /\ ¬ k ∈ ts.map (·.1) := by
  unfold darkL
  rw [List.mem_filter, List.mem_range]
  simp
theorem darkL_succ (m : Nat) (ts : List (Nat × Int)) (n : Nat) : darkL m ts (n + 1) = darkL m ts n ++ (if (ts.map (·.1)).contains n = true then [] else [n]) := by
  unfold darkL
  rw [List.range_succ, List.filter_append]
  congr 1
  by_cases c : (ts.map (·.1)).contains n = true
  . rw [if_pos c, List.filter_cons_of_neg (by rw [c]; decide)]; rfl
  . rw [if_neg c, List.filter_cons_of_pos (by simpa using c)]; rfl
theorem iL_ints (fs : List Nat) : iL fs = (fs.map fun (r : Nat) => (r : Int)).map V.int := by unfold iL; rw [List.map_map]; rfl
def sp_sqlev (K : W.Frag) : Sp := fun vs H Q _ => match vs with
  | [v] => ∃ (m : Nat) (ts : List (Nat × Int)), SumAt K H v m ts /\ Gl m ts /\ ∀ l H', H l = none -> Same H H' -> H' l = some (.lst (ixL (lvT m ts) (m + 1))) -> Q (.ref l) H'
  | _ => False
theorem sp_sqlev_mono : SpMono (sp_sqlev K) := fun vs H Q Q' E h q => by
  unfold sp_sqlev at *
  split at q
  . revert q; repeat' first | exact h _ _ | exact newL_mono h | exact out_mono h | exact outT_mono h | walk_at "m"
  . exact q.elim
theorem rep_zero (n : Nat) : (List.replicate n [V.int 0]).flatten = ixL (fun _ => 0) n := by
  induction n with
  | zero => rfl
  | succ n ih => rw [List.replicate_succ', List.flatten_append, ih, ixL_succ]; rfl
theorem ok_squares_by_level : FnOk P w K mg base CX0 2 T.f_squares_by_level T.d_squares_by_level ["one"] (sp_sqlev K) := by
  have G_many_in := ok_many_in (P := P) (w := w) (base := base) T
  refine T.F_squares_by_level.ok sc_squares_by_level (fun vs H Q E h => by unfold sp_sqlev at h; split at h <;> first | rfl | exact h.elim) (fun cdv A outer s H vs Q E hr h => ?_)
  have hu := hu60 hr
  have mo1 : SpMono sp_many := sp_many_mono
  have hr_many_in := hr.mono (show 1 <= _ by decide)
  unfold sp_sqlev at h
  split at h
  rotate_left
  . exact h.elim
  rename_i v
  obtain ⟨m, ts, S, G, q⟩ := h
  have m6 := G.m6.2
  have tl := G.len
  obtain ⟨a, b, vs, rfl, ha, hb, hr'⟩ := id S.at_
  have h64 : 2 ^ m <= 64 := Nat.pow_le_pow_right (n := 2) (by decide) m6
  have hvl : vs.length = ts.length := by have := hr'.length; rw [List.length_map] at this; omega
  refine ⟨_, (@pss_cons _ _ _ _ _ (@ps_set _ _ 1 _ _ _ _ sc_squares_by_level.nd rfl (by walk_at "e") (@pe_op _ _ _ _ _ _ _ _ om_mul (@pe_lst _ _ _ _ (@pa1 _ _ _ (@pe_int _ _ _ _) (by rfl))) (@pe_op _ _ _ _ _ _ _ _ (kAdd (K := K)) (@kIx _ K _ _ _ _ _ (@vw _ 0 _ _ (by walk_at "v")) (@pe_int _ _ _ _) (by intro _ _; rfl) (by rfl)) (@pe_int _ _ _ _))) (by rfl) (by walk_at "i")) (@pss_cons _ _ _ _ _ (@ps_for _ _ _ _ _ _ _ _ PassesOwn.never rfl (@kSeq _ K _ _ _ (@kIx _ K _ _ _ _ _ (@vw _ 0 _ _ (by walk_at "v")) (@pe_int _ _ _ _) (by intro _ _; rfl) (by rfl)) (by rfl)) (@kTupA _ K _ _ _ _ 2 rfl (@pgs_cons _ _ _ _ _ (@pg_name _ _ 2 _ sc_squares_by_level.nd rfl (by walk_at "e") (by walk_at "i")) (@pgs_cons _ _ _ _ _ (@pg_name _ _ 3 _ sc_squares_by_level.nd rfl (by walk_at "e") (by walk_at "i")) (@pgs_nil _) (by rfl)) (by rfl)) (by rfl) (by rfl) (by rfl)) (@pss_cons _ _ _ _ _ (@ps_set _ _ 4 _ _ _ _ sc_squares_by_level.nd rfl (by walk_at "e") (@pe_call _ _ _ _ _ _ _ _ _ _ _ _ _ _ _ _ G_many_in hr_many_in rfl T.m_many_in T.F_many_in.kp T.b_many_in .nil pass0 (@pa1 _ _ _ (@vw _ 2 _ _ (by walk_at "v")) (by rfl)) (by decide) (by rfl) (by rfl)) (by rfl) (by walk_at "i")) (@pss_one _ _ _ (@ps_asg _ _ _ _ _ _ (@pe_op _ _ _ _ _ _ _ _ (kAdd (K := K)) (@kIx _ K _ _ _ _ _ (@vw _ 1 _ _ (by walk_at "v")) (@vw _ 4 _ _ (by walk_at "v")) (by intro _ _; rfl) (by rfl)) (@pe_op _ _ _ _ _ _ _ _ om_mul (@vw _ 3 _ _ (by walk_at "v")) (@vw _ 3 _ _ (by walk_at "v")))) (@pg_sub _ _ _ _ _ _ _ (@vw _ 1 _ _ (by walk_at "v")) (@vw _ 4 _ _ (by walk_at "v")) set_any (by intro _; rfl)) (by rfl) (by rfl) (by rfl)))) (by intro _; rfl)) (@pss_one _ _ _ (@ps_ret _ _ _ _ (@vw _ 1 _ _ (by walk_at "v")))))), ?_⟩
  -- found = [0] * (n + 1)
  refine ⟨small_le (show 1 <= 1000 by decide), fun p0 hp0 => ?_⟩
  have ha1 := sqT_same ha (Same.upd (o := .lst [.int 0]) hp0)
  refine ⟨_, .int m, .inr ha1, rfl, p0, (m : Int) + 1, _, rfl, rfl, upd_same, by omega, by omega, small_le (by show 1 * ((m : Int) + 1).toNat <= 1000; omega), fun l hl => ?_⟩
  have en : ((m : Int) + 1).toNat = m + 1 := by omega
  rw [en, rep_zero]
  dsimp only [gName]
  have s1 := (Same.upd (o := .lst [.int 0]) hp0).trans (Same.upd (o := .lst (ixL (fun _ => 0) (m + 1))) hl)
  have hl0 : H l = none := (Same.upd (o := .lst [.int 0]) hp0).free hl
  have g1 : upd (upd H p0 (.lst [.int 0])) l (.lst (ixL (fun _ => 0) (m + 1))) l = some (.lst (ixL (lvT m (ts.take 0)) (m + 1))) := upd_same
  generalize upd (upd H p0 (.lst [.int 0])) l (.lst (ixL (fun _ => 0) (m + 1))) = H1 at *
  refine ⟨_, .ref b, .inr (sqT_same ha s1), rfl, .inr ⟨⟨_, sqT_same hb s1⟩, ?_⟩⟩
  refine for_tup (xs := vs) (fun i σ H' => ∃ z2 z3 z4 : Option V, σ = [some (.ref a), some (.ref l), z2, z3, z4] /\ Same H H' /\ H' l = some (.lst (ixL (lvT m (ts.take i)) (m + 1)))) ⟨none, none, none, rfl, s1, g1⟩ (fun i σ H' _ ⟨_, _, _, _, s, _⟩ => sqT_same hb s) ?_ ?_
  . rintro i x σ H2 hx ⟨z2, z3, z4, rfl, s2, g2⟩
    obtain ⟨⟨k, wgt⟩, c, hq, rfl, hc⟩ := reps_terms_at hr' hx
    have hm := G.ok _ (List.mem_of_getElem? hq)
    have hk : k < 2 ^ m := hm.1
    have h1 : -64 <= wgt /\ wgt <= 64 := hm.2
    have h2 := manyF_le m k
    refine ⟨_, .inr (sqT_same hc s2), rfl, _, _, rfl, _, _, rfl, rfl, ?_⟩
    refine ⟨k, rfl, by omega, ?_⟩
    rw [many_of hk (by omega)]
    refine ⟨_, _, .inl (.of g2), ixL_at (show manyF m k < m + 1 by omega), light_mul h1, _, manyF m k, g2, by rw [ixL_len]; exact ixN_nat (by omega), ?_⟩
    refine ⟨_, _, _, rfl, same_put s2 hl0, ?_⟩
    rw [upd_same, ixL_set]
    congr 2
    exact ixL_congr fun j _ => by
      rw [lvT_take hq]
      by_cases e : j = manyF m k
      . rw [if_pos e, if_pos e, e]
      . rw [if_neg e, if_neg e]
  . rintro σ H2 ⟨z2, z3, z4, rfl, s2, g2⟩
    rw [List.take_of_length_le (by omega)] at g2
    exact q l H2 hl0 s2 g2
def sp_gsq (K : W.Frag) : Sp := fun vs H Q _ => match vs with
  | [x] => ∃ (m : Nat) (ts : List (Nat × Int)), SumAt K H x m ts /\ Gl m ts /\ ∀ H', Same H H' -> Q (.int (sqT_ ts)) H'
  | _ => False
theorem sp_gsq_mono : SpMono (sp_gsq K) := fun vs H Q Q' E h q => by
  unfold sp_gsq at *
  split at q
  . revert q; repeat' first | exact h _ _ | exact newL_mono h | exact out_mono h | exact outT_mono h | walk_at "m"
  . exact q.elim
theorem ok_squares : FnOk P w K mg base CX0 1 T.f_squares T.d_squares ["one"] (sp_gsq K) := by
  skip
  refine T.F_squares.ok sc_squares (fun vs H Q E h => by unfold sp_gsq at h; split at h <;> first | rfl | exact h.elim) (fun cdv A outer s H vs Q E hr h => ?_)
  have hu := hu60 hr
  skip
  unfold sp_gsq at h
  split at h
  rotate_left
  . exact h.elim
  rename_i x
  obtain ⟨m, ts, S, G, q⟩ := h
  obtain ⟨a, b, us, rfl, ha, hb, hR⟩ := id S.at_
  have hul : us.length = ts.length := by have := hR.length; rw [List.length_map] at this; omega
  have htl := G.len
  refine ⟨_, (@pss_one _ _ _ (@ps_ret _ _ _ _ (@pe_callB _ _ _ _ _ _ _ _ _ (kSum (K := K) rfl) rfl T.z_sum (by rfl) (@pa1 _ _ _ (@pe_compB _ _ _ _ _ _ _ (["subset", "weight"]) 2 [] _ _ _ _ rfl (@kSeq _ K _ _ _ (@kIx _ K _ _ _ _ _ (@vw _ 0 _ _ (by walk_at "v")) (@pe_int _ _ _ _) (by intro _ _; rfl) (by rfl)) (by rfl)) (by kernel_rfl) rfl rfl (by kernel_rfl) (fun c => @kTup _ K _ _ _ _ 2 rfl (@pgs_cons _ _ _ _ _ (@pg_name _ _ 0 _ (show (["subset", "weight"] : List Str).Nodup by decide +kernel) rfl (by walk_at "e") (by walk_at "i")) (@pgs_cons _ _ _ _ _ (@pg_name _ _ 1 _ (show (["subset", "weight"] : List Str).Nodup by decide +kernel) rfl (by walk_at "e") (by walk_at "i")) (@pgs_nil _) (by rfl)) (by rfl)) (by rfl) (by rfl) (by rfl)) (go_tup (gos_cons gm_name (gms_cons gm_name gms_nil) (go_name (by decide)) (gos_cons gm_name gms_nil (go_name (by decide)) gos_nil))) (fun c => @pts_nil _) (fun c => (@pe_op _ _ _ _ _ _ _ _ om_mul (@vw _ 1 _ _ (by walk_at "v")) (@vw _ 1 _ _ (by walk_at "v")))) (by intro _; rfl)) (by rfl)) (by decide) (by decide) (by rfl) (by rfl)))), ?_⟩
  refine ⟨_, .ref b, .inr ha, rfl, .inr ⟨⟨_, hb⟩, ?_⟩⟩
  refine comp_tup (xs := us) (fun i ys H' => H' = H /\ ys = ((ts.take i).map fun t => t.2 * t.2).map V.int) ⟨rfl, rfl⟩ (fun i ys H' _ ⟨e, _⟩ => by rw [e]; exact hb) (fun i ys H' hi ⟨_, e⟩ => by
    rw [e, List.length_map, List.length_map, List.length_take]; exact small1000 (by omega)) ?_ ?_
  . rintro i x ys H' hx ⟨rfl, rfl⟩
    obtain ⟨⟨k, wgt⟩, c, hq, rfl, hc⟩ := reps_terms_at hR hx
    have hgk : -64 <= wgt /\ wgt <= 64 := (G.ok _ (List.mem_of_getElem? hq)).2
    refine ⟨c, _, rfl, hc, rfl, _, _, rfl, _, _, rfl, rfl, .inr (.inl ⟨by omega, by omega⟩), rfl, ?_⟩
    rw [List.take_add_one, hq, List.map_append, List.map_append]
    rfl
  . rintro ys H' ⟨rfl, rfl⟩ lp hlp
    rw [List.take_of_length_le (by omega)]
    have := q _ (Same.upd (o := .lst ((ts.map fun t => t.2 * t.2).map V.int)) hlp)
    unfold sqT_ at this
    rw [addT_map] at this
    exact ⟨_, .of upd_same, this⟩
def sp_rest (K : W.Frag) : Sp := fun vs H Q _ => match vs with
  | [x] => ∃ (m : Nat) (ts : List (Nat × Int)), SumAt K H x m ts /\ Gl m ts /\ ∀ H', Same H H' -> Q (.int (restT m ts)) H'
  | _ => False
theorem sp_rest_mono : SpMono (sp_rest K) := fun vs H Q Q' E h q => by
  unfold sp_rest at *
  split at q
  . revert q; repeat' first | exact h _ _ | exact newL_mono h | exact out_mono h | exact outT_mono h | walk_at "m"
  . exact q.elim
theorem ok_rest_of : FnOk P w K mg base CX0 3 T.f_rest_of T.d_rest_of ["glance"] (sp_rest K) := by
  have G_two_to := ok_two_to (P := P) (w := w) (base := base) T; have G_squares := ok_squares (P := P) (w := w) (base := base) T
  refine T.F_rest_of.ok sc_rest_of (fun vs H Q E h => by unfold sp_rest at h; split at h <;> first | rfl | exact h.elim) (fun cdv A outer s H vs Q E hr h => ?_)
  have hu := hu60 hr
  have mo1 : SpMono (sp_gsq K) := sp_gsq_mono
  have hr_two_to := hr.mono (show 2 <= _ by decide); have hr_squares := hr.mono (show 1 <= _ by decide)
  unfold sp_rest at h
  split at h
  rotate_left
  . exact h.elim
  rename_i x
  obtain ⟨m, ts, S, G, q⟩ := h
  obtain ⟨a, b, us, rfl, ha, hb, hR⟩ := id S.at_
  have hm := G.m6
  refine ⟨_, (@pss_one _ _ _ (@ps_ret _ _ _ _ (@pe_op _ _ _ _ _ _ _ _ om_sub (@pe_call _ _ _ _ _ _ _ _ _ _ _ _ _ _ _ _ G_two_to hr_two_to rfl T.m_two_to T.F_two_to.kp T.b_two_to .nil pass0 (@pa1 _ _ _ (@pe_op _ _ _ _ _ _ _ _ om_mul (@pe_int _ _ _ _) (@kIx _ K _ _ _ _ _ (@vw _ 0 _ _ (by walk_at "v")) (@pe_int _ _ _ _) (by intro _ _; rfl) (by rfl))) (by rfl)) (by decide) (by rfl) (by rfl)) (@pe_call _ _ _ _ _ _ _ _ _ _ _ _ _ _ _ _ G_squares hr_squares rfl T.m_squares T.F_squares.kp T.b_squares .nil pass0 (@pa1 _ _ _ (@vw _ 0 _ _ (by walk_at "v")) (by rfl)) (by decide) (by rfl) (by rfl))))), ?_⟩
  refine ⟨_, .int m, .inr ha, rfl, .inr (.inl ⟨by decide, by decide⟩), 2 * m, by omega, by omega, ?_⟩
  exact ⟨m, ts, S, G, q⟩
theorem flat_iL (ks : List Nat) : (iL ks).all flatV = true := by
  unfold iL
  rw [List.all_map, List.all_eq_true]
  intro x _
  rfl
theorem in_iL (ks : List Nat) (k : Nat) : inV (.int (k : Int)) (iL ks) = ks.contains k := by
  unfold inV iL
  rw [List.any_map, Bool.eq_iff_iff, List.any_eq_true, List.contains_iff_mem]
  constructor
  . rintro ⟨x, hx, e⟩
    have e : ((x : Int) == (k : Int)) = true := e
    have : x = k := by have : (x : Int) = (k : Int) := by simpa using e
                       omega
    exact this ▸ hx
  . intro h
    exact ⟨k, h, by show ((k : Int) == (k : Int)) = true; simp⟩
def sp_dark (K : W.Frag) : Sp := fun vs H Q _ => match vs with
  | [x] => ∃ (m : Nat) (ts : List (Nat × Int)), SumAt K H x m ts /\ Gl m ts /\ newL H Q (iL (darkL m ts (2 ^ m)))
  | _ => False
theorem sp_dark_mono : SpMono (sp_dark K) := fun vs H Q Q' E h q => by
  unfold sp_dark at *
  split at q
  . revert q; repeat' first | exact h _ _ | exact newL_mono h | exact out_mono h | exact outT_mono h | walk_at "m"
  . exact q.elim
theorem ok_untold_sets : FnOk P w K mg base CX0 3 T.f_untold_sets T.d_untold_sets ["glance"] (sp_dark K) := by
  have G_two_to := ok_two_to (P := P) (w := w) (base := base) T
  refine T.F_untold_sets.ok sc_untold_sets (fun vs H Q E h => by unfold sp_dark at h; split at h <;> first | rfl | exact h.elim) (fun cdv A outer s H vs Q E hr h => ?_)
  have hu := hu60 hr
  have hr_two_to := hr.mono (show 2 <= _ by decide)
  unfold sp_dark at h
  split at h
  rotate_left
  . exact h.elim
  rename_i x
  obtain ⟨m, ts, S, G, q⟩ := h
  obtain ⟨a, b, us, rfl, ha, hb, hR⟩ := id S.at_
  have hul : us.length = ts.length := by have := hR.length; rw [List.length_map] at this; omega
  have htl := G.len
  have hm := G.m6
  have h64 : 2 ^ m <= 64 := Nat.pow_le_pow_right (n := 2) (by decide) hm.2
  have i1 : ((2 ^ m : Nat) : Int) <= 64 := Int.ofNat_le.mpr h64
  have i0 : (0 : Int) <= ((2 ^ m : Nat) : Int) := Int.natCast_nonneg _
  refine ⟨_, (@pss_cons _ _ _ _ _ (@ps_set _ _ 1 _ _ _ _ sc_untold_sets.nd rfl (by walk_at "e") (@pe_compB _ _ _ _ _ _ _ (["subset", "weight"]) 2 [] _ _ _ _ rfl (@kSeq _ K _ _ _ (@kIx _ K _ _ _ _ _ (@vw _ 0 _ _ (by walk_at "v")) (@pe_int _ _ _ _) (by intro _ _; rfl) (by rfl)) (by rfl)) (by kernel_rfl) rfl rfl (by kernel_rfl) (fun c => @kTup _ K _ _ _ _ 2 rfl (@pgs_cons _ _ _ _ _ (@pg_name _ _ 0 _ (show (["subset", "weight"] : List Str).Nodup by decide +kernel) rfl (by walk_at "e") (by walk_at "i")) (@pgs_cons _ _ _ _ _ (@pg_name _ _ 1 _ (show (["subset", "weight"] : List Str).Nodup by decide +kernel) rfl (by walk_at "e") (by walk_at "i")) (@pgs_nil _) (by rfl)) (by rfl)) (by rfl) (by rfl) (by rfl)) (go_tup (gos_cons gm_name (gms_cons gm_name gms_nil) (go_name (by decide)) (gos_cons gm_name gms_nil (go_name (by decide)) gos_nil))) (fun c => @pts_nil _) (fun c => (@vw _ 0 _ _ (by walk_at "v"))) (by intro _; rfl)) (by rfl) (by walk_at "i")) (@pss_one _ _ _ (@ps_ret _ _ _ _ (@pe_compB _ _ _ _ _ _ _ (["subset", "seen"]) 1 [1] _ _ _ _ rfl (@pi_range1 _ _ _ _ _ _ rfl T.z_range (@pa1 _ _ _ (@pe_call _ _ _ _ _ _ _ _ _ _ _ _ _ _ _ _ G_two_to hr_two_to rfl T.m_two_to T.F_two_to.kp T.b_two_to .nil pass0 (@pa1 _ _ _ (@kIx _ K _ _ _ _ _ (@vw _ 0 _ _ (by walk_at "v")) (@pe_int _ _ _ _) (by intro _ _; rfl) (by rfl)) (by rfl)) (by decide) (by rfl) (by rfl)) (by rfl)) (by rfl)) (by kernel_rfl) rfl rfl (by kernel_rfl) (fun c => @pg_name _ _ 0 _ (show (["subset", "seen"] : List Str).Nodup by decide +kernel) rfl (by walk_at "e") (by walk_at "i")) (go_name (by decide)) (fun c => @pts_one _ _ _ (@tu_cmp _ _ _ _ _ _ _ _ (kNotIn (K := K)) (@vw _ 0 _ _ (by walk_at "v")) (@vw _ 1 _ _ (by walk_at "v")) (by walk_at "n"))) (fun c => (@vw _ 0 _ _ (by walk_at "v"))) (by intro _; rfl))))), ?_⟩
  refine ⟨_, .ref b, .inr ha, rfl, .inr ⟨⟨_, hb⟩, ?_⟩⟩
  refine comp_tup (xs := us) (fun i ys H' => H' = H /\ ys = iL ((ts.take i).map (·.1))) ⟨rfl, rfl⟩ (fun i ys H' _ ⟨e, _⟩ => by rw [e]; exact hb) (fun i ys H' hi ⟨_, e⟩ => by
    rw [e, iL_len, List.length_map, List.length_take]; exact small1000 (by omega)) ?_ ?_
  . rintro i x ys H' hx ⟨rfl, rfl⟩
    obtain ⟨⟨k, wgt⟩, c, hq, rfl, hc⟩ := reps_terms_at hR hx
    refine ⟨c, _, rfl, hc, rfl, _, _, rfl, _, _, rfl, rfl, rfl, ?_⟩
    rw [List.take_add_one, hq, List.map_append, iL_app]
    rfl
  rintro ys H' ⟨rfl, rfl⟩ l hl
  rw [List.take_of_length_le (by omega)]
  have s1 := Same.upd (o := .lst (iL (ts.map (·.1)))) hl
  have g1 := upd_same (H := H') (a := l) (o := .lst (iL (ts.map (·.1))))
  generalize upd H' l (.lst (iL (ts.map (·.1)))) = H1 at *
  dsimp only [gName]
  refine ⟨_, .int m, .inr (s1.sqT ha), rfl, m, rfl, by omega, ((2 ^ m : Nat) : Int), rfl, by omega, by omega, ?_⟩
  refine comp_range (fun i ys H' => H' = H1 /\ ys = iL (darkL m ts i)) ⟨rfl, rfl⟩ (fun i ys H' hi ⟨_, e⟩ => by
    have := darkL_len m ts i
    rw [e, iL_len]; exact small1000 (by omega)) ?_ ?_
  . rintro i ys H' hi ⟨rfl, rfl⟩
    rw [show (0 : Int) + (i : Int) = (i : Int) from Int.zero_add _]
    refine ⟨_, .inl (.of g1), rfl, flat_iL _, ?_⟩
    rw [in_iL]
    refine ite2 (fun e => ?_) (fun e => ?_)
    . have e' : ¬ (ts.map (·.1)).contains i = true := by simpa using e
      refine ⟨rfl, ?_⟩
      rw [darkL_succ, if_neg e', iL_app]
      rfl
    . have e' : (ts.map (·.1)).contains i = true := by simpa using e
      refine ⟨rfl, ?_⟩
      rw [darkL_succ, if_pos e', List.append_nil]
  . rintro ys H2 ⟨rfl, rfl⟩ lp hlp
    rw [Int.toNat_natCast]
    exact q lp _ (s1.free hlp) (s1.trans (Same.upd hlp)) upd_same
theorem sign_chi {m a b : Nat} (m6 : m <= 6) (h : a < 2 ^ m) : signP a b = chi m a b := by
  rw [chi_many h (by omega)]
  rfl
def moreB (m : Nat) (ts : List (Nat × Int)) (t : Nat) : Bool := (darkL m ts (2 ^ m)).any fun k => decide (chi m k t = -1)
def highT (m : Nat) (ts : List (Nat × Int)) (t : Nat) : Int := if moreB m ts t = true then oddT m ts t + restT m ts else oddT m ts t
def matD (m : Nat) (ts : List (Nat × Int)) (t : Nat) : Dv := .tup [shD (oddT m ts t) (fourN m), shD (highT m ts t) (fourN m)]
theorem small20 {x : Int} (h1 : -1000000 <= x) (h2 : x <= 1000000) : x.natAbs < 2 ^ 1000 := Nat.lt_of_lt_of_le (show x.natAbs < 2 ^ 20 by omega) (Nat.pow_le_pow_right (by decide) (by decide))
def sp_matw (K : W.Frag) : Sp := fun vs H Q _ => match vs with
  | [x, .int z] => ∃ (m t : Nat) (ts : List (Nat × Int)), SumAt K H x m ts /\ Gl m ts /\ z = t /\ ∀ v H', Same H H' -> Rep K H' (matD m ts t) v -> Q v H'
  | _ => False
theorem sp_matw_mono : SpMono (sp_matw K) := fun vs H Q Q' E h q => by
  unfold sp_matw at *
  split at q
  . revert q; repeat' first | exact h _ _ | exact newL_mono h | exact out_mono h | exact outT_mono h | walk_at "m"
  . exact q.elim
theorem ok_matters_within : FnOk P w K mg base CX0 5 T.f_matters_within T.d_matters_within ["glance", "subset"] (sp_matw K) := by
  have G_odd_squares := ok_odd_squares (P := P) (w := w) (base := base) T; have G_over_all := ok_over_all (P := P) (w := w) (base := base) T; have G_is_odd_with := ok_is_odd_with (P := P) (w := w) (base := base) T; have G_rest_of := ok_rest_of (P := P) (w := w) (base := base) T; have G_untold_sets := ok_untold_sets (P := P) (w := w) (base := base) T
  refine T.F_matters_within.ok sc_matters_within (fun vs H Q E h => by unfold sp_matw at h; split at h <;> first | rfl | exact h.elim) (fun cdv A outer s H vs Q E hr h => ?_)
  have hu := hu60 hr
  have mo1 : SpMono (sp_rest K) := sp_rest_mono
  have mo2 : SpMono (sp_dark K) := sp_dark_mono
  have mo3 : SpMono (sp_oddsq K) := sp_oddsq_mono
  have mo4 : SpMono sp_oddw := sp_oddw_mono
  have mo5 : SpMono (sp_overall K) := sp_overall_mono
  have hr_odd_squares := hr.mono (show 4 <= _ by decide); have hr_over_all := hr.mono (show 3 <= _ by decide); have hr_is_odd_with := hr.mono (show 3 <= _ by decide); have hr_rest_of := hr.mono (show 3 <= _ by decide); have hr_untold_sets := hr.mono (show 3 <= _ by decide)
  unfold sp_matw at h
  split at h
  rotate_left
  . exact h.elim
  rename_i x z
  obtain ⟨m, t, ts, S, G, e1, q⟩ := h
  subst e1
  obtain ⟨a, b, us, rfl, ha, hb, hR⟩ := id S.at_
  have hm := G.m6
  have h64 : 2 ^ m <= 64 := Nat.pow_le_pow_right (n := 2) (by decide) hm.2
  have ho := G.odd t
  have hr' := G.rest
  have hdl := darkL_len m ts (2 ^ m)
  refine ⟨_, (@pss_cons _ _ _ _ _ (@ps_set _ _ 2 _ _ _ _ sc_matters_within.nd rfl (by walk_at "e") (@pe_call _ _ _ _ _ _ _ _ _ _ _ _ _ _ _ _ G_odd_squares hr_odd_squares rfl T.m_odd_squares T.F_odd_squares.kp T.b_odd_squares .nil pass0 (@pa_cons _ _ _ _ _ (@vw _ 0 _ _ (by walk_at "v")) (@pa1 _ _ _ (@vw _ 1 _ _ (by walk_at "v")) (by rfl)) (by rfl)) (by decide) (by rfl) (by rfl)) (by rfl) (by walk_at "i")) (@pss_cons _ _ _ _ _ (@ps_set _ _ 3 _ _ _ _ sc_matters_within.nd rfl (by walk_at "e") (@pe_callB _ _ _ _ _ _ _ _ _ (kAny (K := K) rfl) rfl T.z_any (by rfl) (@pa1 _ _ _ (@pe_compB _ _ _ _ _ _ _ (["each", "subset"]) 1 [1] _ _ _ _ rfl (@kSeq _ K _ _ _ (@pe_call _ _ _ _ _ _ _ _ _ _ _ _ _ _ _ _ G_untold_sets hr_untold_sets rfl T.m_untold_sets T.F_untold_sets.kp T.b_untold_sets .nil pass0 (@pa1 _ _ _ (@vw _ 0 _ _ (by walk_at "v")) (by rfl)) (by decide) (by rfl) (by rfl)) (by rfl)) (by kernel_rfl) rfl rfl (by kernel_rfl) (fun c => @pg_name _ _ 0 _ (show (["each", "subset"] : List Str).Nodup by decide +kernel) rfl (by walk_at "e") (by walk_at "i")) (go_name (by decide)) (fun c => @pts_nil _) (fun c => (@pe_call _ _ _ _ _ _ _ _ _ _ _ _ _ _ _ _ G_is_odd_with hr_is_odd_with rfl T.m_is_odd_with T.F_is_odd_with.kp T.b_is_odd_with .nil pass0 (@pa_cons _ _ _ _ _ (@vw _ 0 _ _ (by walk_at "v")) (@pa1 _ _ _ (@vw _ 1 _ _ (by walk_at "v")) (by rfl)) (by rfl)) (by decide) (by rfl) (by rfl))) (by intro _; rfl)) (by rfl)) (by decide) (by decide) (by rfl) (by rfl)) (by rfl) (by walk_at "i")) (@pss_cons _ _ _ _ _ (@ps_set _ _ 4 _ _ _ _ sc_matters_within.nd rfl (by walk_at "e") (@pe_ifExp _ _ _ _ _ _ _ _ (@tu_val _ _ _ (@vw _ 3 _ _ (by walk_at "v")) (by intro _; rfl)) (@pe_op _ _ _ _ _ _ _ _ (kAdd (K := K)) (@vw _ 2 _ _ (by walk_at "v")) (@pe_call _ _ _ _ _ _ _ _ _ _ _ _ _ _ _ _ G_rest_of hr_rest_of rfl T.m_rest_of T.F_rest_of.kp T.b_rest_of .nil pass0 (@pa1 _ _ _ (@vw _ 0 _ _ (by walk_at "v")) (by rfl)) (by decide) (by rfl) (by rfl))) (@vw _ 2 _ _ (by walk_at "v"))) (by rfl) (by walk_at "i")) (@pss_one _ _ _ (@ps_ret _ _ _ _ (@pe_tup _ _ _ _ _ (@pa_cons _ _ _ _ _ (@pe_call _ _ _ _ _ _ _ _ _ _ _ _ _ _ _ _ G_over_all hr_over_all rfl T.m_over_all T.F_over_all.kp T.b_over_all .nil pass0 (@pa_cons _ _ _ _ _ (@vw _ 0 _ _ (by walk_at "v")) (@pa1 _ _ _ (@vw _ 2 _ _ (by walk_at "v")) (by rfl)) (by rfl)) (by decide) (by rfl) (by rfl)) (@pa1 _ _ _ (@pe_call _ _ _ _ _ _ _ _ _ _ _ _ _ _ _ _ G_over_all hr_over_all rfl T.m_over_all T.F_over_all.kp T.b_over_all .nil pass0 (@pa_cons _ _ _ _ _ (@vw _ 0 _ _ (by walk_at "v")) (@pa1 _ _ _ (@vw _ 4 _ _ (by walk_at "v")) (by rfl)) (by rfl)) (by decide) (by rfl) (by rfl)) (by rfl)) (by rfl)))))))), ?_⟩
  refine ⟨m, t, ts, S, hm.2, G.len, G.ok, rfl, fun H1 s1 => ?_⟩
  dsimp only [gName]
  refine seq_at (fun σ H' => σ = [some (.ref a), some (.int (t : Int)), some (.int (oddT m ts t)), some (.bl (moreB m ts t)), none] /\ Same H H') ?_ ?_ (by walk_at "sm")
  . refine ⟨m, ts, S.same s1, G, fun l H2 nl s2 g2 => .inl ⟨⟨_, .of g2⟩, ?_⟩⟩
    have hmem := fun {k : Nat} (h : k ∈ darkL m ts (2 ^ m)) => (darkL_mem.mp h).1
    unfold moreB
    generalize darkL m ts (2 ^ m) = ds at *
    refine comp_list (xs := iL ds) (fun i ys H' => H' = H2 /\ ys = ((ds.take i).map fun k => decide (chi m k t = -1)).map V.bl) ⟨rfl, rfl⟩ (fun i ys H' _ ⟨e, _⟩ => by rw [e]; exact .of g2) (fun i ys H' hi ⟨_, e⟩ => by
      rw [iL_len] at hi
      rw [e, List.length_map, List.length_map, List.length_take]; exact small1000 (by omega)) ?_ ?_
    . rintro i x ys H' hx ⟨rfl, rfl⟩
      obtain ⟨k, hk, hkm, rfl⟩ := iL_at hx
      have hk2 := hmem hkm
      refine ⟨k, t, rfl, rfl, Nat.lt_of_lt_of_le (show k < 64 by omega) (by decide), rfl, ?_⟩
      rw [sign_chi hm.2 hk2, List.take_add_one, hk, List.map_append, List.map_append]
      rfl
    . rintro ys H' ⟨rfl, rfl⟩ lp hlp
      rw [iL_len, List.take_length]
      refine ⟨_, .of upd_same, ?_⟩
      rw [List.any_map]
      exact ⟨rfl, s1.trans (s2.trans (Same.upd hlp))⟩
  rintro σ H2 ⟨rfl, s2⟩
  refine seq_at (fun σ H' => σ = [some (.ref a), some (.int (t : Int)), some (.int (oddT m ts t)), some (.bl (moreB m ts t)), some (.int (highT m ts t))] /\ Same H H') ?_ ?_ (by walk_at "sm")
  . unfold highT
    refine ite2 (fun e => ?_) (fun e => ?_)
    . refine ⟨m, ts, S.same s2, G, fun H3 s3 => ?_⟩
      rw [if_pos e]
      exact ⟨rfl, s2.trans s3⟩
    . rw [if_neg e]
      exact ⟨rfl, s2⟩
  rintro σ H3 ⟨rfl, s3⟩
  have hh : -1000000 <= highT m ts t /\ highT m ts t <= 1000000 := by unfold highT; split <;> omega
  refine ⟨m, ts, S.same s3, hm.2, small20 (by omega) (by omega), fun p1 n1 => ?_⟩
  have s4 := Same.upd (o := .tup [.int (shT (oddT m ts t) (fourN m)), .int (shB (oddT m ts t) (fourN m))]) n1
  have g4 := upd_same (H := H3) (a := p1) (o := .tup [.int (shT (oddT m ts t) (fourN m)), .int (shB (oddT m ts t) (fourN m))])
  refine ⟨m, ts, S.same (s3.trans s4), hm.2, small20 hh.1 hh.2, fun p2 n2 => ?_⟩
  have s5 := Same.upd (o := .tup [.int (shT (highT m ts t) (fourN m)), .int (shB (highT m ts t) (fourN m))]) n2
  refine ⟨small_le (show 2 <= 1000 by decide), fun p3 n3 => ?_⟩
  have s6 := Same.upd (o := .tup [.ref p1, .ref p2]) n3
  exact q _ _ (s3.trans (s4.trans (s5.trans s6))) (rep_tup1 upd_same (reps_cons (rep_sh ((s5.trans s6) _ _ g4)) (reps_cons (rep_sh (s6 _ _ upd_same)) reps_nil)))
def stW (m : Nat) (y : Int) : Int := ((2 ^ (2 * m) : Nat) : Int) * y ^ m
def stP (m : Nat) (g : Nat -> Int) (x y : Int) (n : Nat) : Int := sumTo (fun j => lvF m g (2 ^ m) j * (y - 2 * x) ^ j * y ^ (m - j)) n
theorem stW_pos {m : Nat} {y : Int} (h : 0 < y) : 0 < stW m y := Int.mul_pos (by have := Nat.two_pow_pos (2 * m); omega) (Int.pow_pos h)
theorem stW_nb {m : Nat} {y : Int} (m6 : m <= 6) (h : Nb y 66) : Nb (stW m y) 500 := by
  have h1 : Nb ((2 ^ (2 * m) : Nat) : Int) 13 := by
    unfold Nb
    rw [Int.natAbs_natCast]
    exact Nat.pow_lt_pow_right (by decide) (by omega)
  exact (h1.mul (h.pow m)).up (by omega)
theorem less_nb {x y : Int} (hx : Nb x 66) (hy : Nb y 66) : Nb (y - 2 * x) 69 := by
  unfold Nb at *
  omega
def stPf (m : Nat) (f : Nat -> Int) (x y : Int) (n : Nat) : Int := sumTo (fun j => f j * (y - 2 * x) ^ j * y ^ (m - j)) n
theorem part_nbf {m : Nat} {f : Nat -> Int} {x y : Int} (m6 : m <= 6) (hf : ∀ j, j < m + 1 -> Nb (f j) 20) (hx : Nb x 66) (hy : Nb y 66) (j : Nat) (hj : j < m + 1) : Nb (f j * (y - 2 * x) ^ j) 500 /\ Nb (y ^ (m - j)) 500 /\ Nb (f j * (y - 2 * x) ^ j * y ^ (m - j)) 900 := by
  have h1 : Nb (f j * (y - 2 * x) ^ j) 440 := ((hf j hj).mul ((less_nb hx hy).pow j)).up (by omega)
  have h2 : Nb (y ^ (m - j)) 440 := (hy.pow (m - j)).up (by omega)
  exact ⟨h1.up (by omega), h2.up (by omega), (h1.mul h2).up (by omega)⟩
def sp_staysby (K : W.Frag) : Sp := fun vs H Q _ => match vs with
  | [.int z, .ref l0, .ref ps] => ∃ (m : Nat) (f : Nat -> Int) (x y : Int), z = m /\ m <= 6 /\ (∀ j, j < m + 1 -> Nb (f j) 20) /\ SqL K H l0 (ixL f (m + 1)) /\ SqT K H ps [.int x, .int y] /\ 0 < y /\ Nb x 66 /\ Nb y 66 /\ ∀ p H', H p = none -> Same H H' -> H' p = some (.tup [.int (shT (stW m y + stPf m f x y (m + 1)) (2 * stW m y)), .int (shB (stW m y + stPf m f x y (m + 1)) (2 * stW m y))]) -> Q (.ref p) H'
  | _ => False
theorem sp_staysby_mono : SpMono (sp_staysby K) := fun vs H Q Q' E h q => by
  unfold sp_staysby at *
  split at q
  . revert q; repeat' first | exact h _ _ | exact newL_mono h | exact out_mono h | exact outT_mono h | walk_at "m"
  . exact q.elim
theorem ok_stays_by : FnOk P w K mg base CX0 3 T.f_stays_by T.d_stays_by ["n", "squares", "share"] (sp_staysby K) := by
  have G_share_of := ok_share_of (P := P) (w := w) (base := base) T; have G_two_to := ok_two_to (P := P) (w := w) (base := base) T; have G_power_of := ok_power_of (P := P) (w := w) (base := base) T
  refine T.F_stays_by.ok sc_stays_by (fun vs H Q E h => by unfold sp_staysby at h; split at h <;> first | rfl | exact h.elim) (fun cdv A outer s H vs Q E hr h => ?_)
  have hu := hu60 hr
  have mo2 : SpMono sp_power := sp_power_mono
  have mo3 : SpMono sp_two_to := sp_two_to_mono
  have mo4 : SpMono sp_share := sp_share_mono
  have hr_share_of := hr.mono (show 2 <= _ by decide); have hr_two_to := hr.mono (show 2 <= _ by decide); have hr_power_of := hr.mono (show 1 <= _ by decide)
  unfold sp_staysby at h
  split at h
  rotate_left
  . exact h.elim
  rename_i z l0 ps
  obtain ⟨m, f, x, y, e1, m6, hf, g1, hps, y0, hx, hy, q⟩ := h
  subst e1
  refine ⟨_, (@pss_cons _ _ _ _ _ (@ps_set _ _ 3 _ _ _ _ sc_stays_by.nd rfl (by walk_at "e") (@kIx _ K _ _ _ _ _ (@vw _ 2 _ _ (by walk_at "v")) (@pe_int _ _ _ _) (by intro _ _; rfl) (by rfl)) (by rfl) (by walk_at "i")) (@pss_cons _ _ _ _ _ (@ps_set _ _ 4 _ _ _ _ sc_stays_by.nd rfl (by walk_at "e") (@pe_op _ _ _ _ _ _ _ _ om_sub (@vw _ 3 _ _ (by walk_at "v")) (@pe_op _ _ _ _ _ _ _ _ om_mul (@pe_int _ _ _ _) (@kIx _ K _ _ _ _ _ (@vw _ 2 _ _ (by walk_at "v")) (@pe_int _ _ _ _) (by intro _ _; rfl) (by rfl)))) (by rfl) (by walk_at "i")) (@pss_cons _ _ _ _ _ (@ps_compB _ _ _ _ _ _ _ (["many", "level", "less", "bottom", "n"]) 2 ([4, 3, 0]) _ _ _ _ 5 _ _ _ rfl sc_stays_by.nd rfl rfl (@kEnum _ K _ _ _ _ _ _ _ rfl T.z_enumerate (@pa1 _ _ _ (@vw _ 1 _ _ (by walk_at "v")) (by rfl)) (by rfl) (by rfl)) (by kernel_rfl) rfl rfl (by kernel_rfl) (fun c => @kTup _ K _ _ _ _ 2 rfl (@pgs_cons _ _ _ _ _ (@pg_name _ _ 0 _ (show (["many", "level", "less", "bottom", "n"] : List Str).Nodup by decide +kernel) rfl (by walk_at "e") (by walk_at "i")) (@pgs_cons _ _ _ _ _ (@pg_name _ _ 1 _ (show (["many", "level", "less", "bottom", "n"] : List Str).Nodup by decide +kernel) rfl (by walk_at "e") (by walk_at "i")) (@pgs_nil _) (by rfl)) (by rfl)) (by rfl) (by rfl) (by rfl)) (go_tup (gos_cons gm_name (gms_cons gm_name gms_nil) (go_name (by decide)) (gos_cons gm_name gms_nil (go_name (by decide)) gos_nil))) (fun c => @pts_nil _) (fun c => (@pe_op _ _ _ _ _ _ _ _ om_mul (@pe_op _ _ _ _ _ _ _ _ om_mul (@vw _ 1 _ _ (by walk_at "v")) (@pe_call _ _ _ _ _ _ _ _ _ _ _ _ _ _ _ _ G_power_of hr_power_of rfl T.m_power_of T.F_power_of.kp T.b_power_of .nil pass0 (@pa_cons _ _ _ _ _ (@vw _ 2 _ _ (by walk_at "v")) (@pa1 _ _ _ (@vw _ 0 _ _ (by walk_at "v")) (by rfl)) (by rfl)) (by decide) (by rfl) (by rfl))) (@pe_call _ _ _ _ _ _ _ _ _ _ _ _ _ _ _ _ G_power_of hr_power_of rfl T.m_power_of T.F_power_of.kp T.b_power_of .nil pass0 (@pa_cons _ _ _ _ _ (@vw _ 3 _ _ (by walk_at "v")) (@pa1 _ _ _ (@pe_op _ _ _ _ _ _ _ _ om_sub (@vw _ 4 _ _ (by walk_at "v")) (@vw _ 0 _ _ (by walk_at "v"))) (by rfl)) (by rfl)) (by decide) (by rfl) (by rfl)))) (by rfl) (by intro _; rfl)) (@pss_cons _ _ _ _ _ (@ps_set _ _ 6 _ _ _ _ sc_stays_by.nd rfl (by walk_at "e") (@pe_op _ _ _ _ _ _ _ _ om_mul (@pe_call _ _ _ _ _ _ _ _ _ _ _ _ _ _ _ _ G_two_to hr_two_to rfl T.m_two_to T.F_two_to.kp T.b_two_to .nil pass0 (@pa1 _ _ _ (@pe_op _ _ _ _ _ _ _ _ om_mul (@pe_int _ _ _ _) (@vw _ 0 _ _ (by walk_at "v"))) (by rfl)) (by decide) (by rfl) (by rfl)) (@pe_call _ _ _ _ _ _ _ _ _ _ _ _ _ _ _ _ G_power_of hr_power_of rfl T.m_power_of T.F_power_of.kp T.b_power_of .nil pass0 (@pa_cons _ _ _ _ _ (@vw _ 3 _ _ (by walk_at "v")) (@pa1 _ _ _ (@vw _ 0 _ _ (by walk_at "v")) (by rfl)) (by rfl)) (by decide) (by rfl) (by rfl))) (by rfl) (by walk_at "i")) (@pss_one _ _ _ (@ps_ret _ _ _ _ (@pe_call _ _ _ _ _ _ _ _ _ _ _ _ _ _ _ _ G_share_of hr_share_of rfl T.m_share_of T.F_share_of.kp T.b_share_of .nil pass0 (@pa_cons _ _ _ _ _ (@pe_op _ _ _ _ _ _ _ _ (kAdd (K := K)) (@vw _ 6 _ _ (by walk_at "v")) (@pe_callB _ _ _ _ _ _ _ _ _ (kSum (K := K) rfl) rfl T.z_sum (by rfl) (@pa1 _ _ _ (@vw _ 5 _ _ (by walk_at "v")) (by rfl)) (by decide) (by decide) (by rfl) (by rfl))) (@pa1 _ _ _ (@pe_op _ _ _ _ _ _ _ _ om_mul (@pe_int _ _ _ _) (@vw _ 6 _ _ (by walk_at "v"))) (by rfl)) (by rfl)) (by decide) (by rfl) (by rfl)))))))), ?_⟩
  refine ⟨_, .int y, .inr hps, rfl, ?_⟩
  dsimp only [gName]
  refine ⟨_, .int x, .inr hps, rfl, .inr (.inl ⟨by decide, by decide⟩), ?_⟩
  dsimp only [gName, mSub]
  refine seq_at (fun σ H' => ∃ l : Addr, σ = [some (.int m), some (.ref l0), some (.ref ps), some (.int y), some (.int (y - 2 * x)), some (.ref l), none] /\ Same H H' /\ H' l = some (.lst (ixL (fun j => f j * (y - 2 * x) ^ j * y ^ (m - j)) (m + 1)))) ?_ ?_ (by walk_at "sm")
  . refine ⟨⟨_, g1⟩, ?_⟩
    refine comp_enum (xs := ixL f (m + 1)) (fun i zs H' => Same H H' /\ zs = ixL (fun j => f j * (y - 2 * x) ^ j * y ^ (m - j)) i) ⟨Same.refl _, rfl⟩ (fun i zs H' _ ⟨s, _⟩ => s.sqL g1) (fun i zs H' hi ⟨_, e⟩ => by rw [ixL_len] at hi; rw [e, ixL_len]; exact small1000 (by omega)) ?_ ?_
    . rintro i z zs H2 pp hz ⟨s2, rfl⟩ hpp
      have hi : i < m + 1 := by
        have := (List.getElem?_eq_some_iff.mp hz).1
        rwa [ixL_len] at this
      rw [ixL_get hi] at hz
      cases hz
      obtain ⟨n1, n2, n3⟩ := part_nbf m6 hf hx hy i hi
      refine ⟨pp, _, rfl, .of upd_same, rfl, _, _, rfl, _, _, rfl, rfl, ?_⟩
      refine ⟨i, rfl, by omega, .inr ⟨(less_nb hx hy).up (by omega), by omega⟩, Nb.okMul ((hf i hi).up (by omega)) (((less_nb hx hy).pow i).up (by omega)), ?_⟩
      refine ⟨m - i, by omega, by omega, .inr ⟨hy.up (by omega), by omega⟩, Nb.okMul (n1.up (by omega)) (n2.up (by omega)), s2.trans (Same.upd hpp), ?_⟩
      rw [ixL_succ]
    . rintro zs H2 ⟨s2, rfl⟩ l hl
      rw [ixL_len]
      exact ⟨l, rfl, s2.trans (Same.upd hl), upd_same⟩
  rintro σ H1 ⟨l, rfl, s1, g1⟩
  refine ⟨.inr (.inl ⟨by decide, by decide⟩), 2 * m, by omega, by omega, ?_⟩
  have n13 : Nb ((2 ^ (2 * m) : Nat) : Int) 13 := by
    unfold Nb
    rw [Int.natAbs_natCast]
    exact Nat.pow_lt_pow_right (by decide) (by omega)
  refine ⟨m, rfl, by omega, .inr ⟨hy.up (by omega), by omega⟩, Nb.okMul (n13.up (by omega)) ((hy.pow m).up (by omega)), ?_⟩
  dsimp only [gName]
  have es : ∀ n, ((List.range n).map (fun j => f j * (y - 2 * x) ^ j * y ^ (m - j))).sum = stPf m f x y n := fun n => by
    induction n with
    | zero => rfl
    | succ n ih => rw [List.range_succ, List.map_append, List.sum_append, ih]; simp [stPf, L2.sumTo]
  refine ⟨(List.range (m + 1)).map (fun j => f j * (y - 2 * x) ^ j * y ^ (m - j)), by rw [List.map_map]; exact .of g1, ?_⟩
  dsimp only [mAdd]
  rw [es]
  have w0 := stW_pos (m := m) y0
  have wn := stW_nb m6 hy
  have pn : Nb (stPf m f x y (m + 1)) 910 := (Nb.sum (f := fun j => f j * (y - 2 * x) ^ j * y ^ (m - j)) (a := 900) (n := m + 1) fun j hj => (part_nbf m6 hf hx hy j hj).2.2).up (by omega)
  have e2 : Nb (2 * stW m y) 510 := by
    have two : Nb 2 2 := by unfold Nb; decide
    exact (two.mul wn).up (by omega)
  refine ⟨.inr (.inl ⟨by decide, by decide⟩), Int.mul_pos (by decide) w0, ((wn.up (show 500 <= 910 by omega)).add pn).up (by omega), e2.up (by omega), fun p hp => ?_⟩
  exact q p _ (s1.free hp) (s1.trans (Same.upd hp)) upd_same
def lvR (m : Nat) (ts : List (Nat × Int)) (k j : Nat) : Int := if j = k then lvT m ts j + restT m ts else lvT m ts j
def staD (m : Nat) (f : Nat -> Int) (x y : Int) : Dv := shD (stW m y + stPf m f x y (m + 1)) (2 * stW m y)
theorem lvR_nb {m : Nat} {ts : List (Nat × Int)} (G : Gl m ts) (k j : Nat) : Nb (lvR m ts k j) 20 := by
  have h1 := G.lv j
  have h2 := G.rest
  unfold lvR Nb
  split <;> omega
theorem lvT_nb {m : Nat} {ts : List (Nat × Int)} (G : Gl m ts) (j : Nat) : Nb (lvT m ts j) 20 := by
  have h1 := G.lv j
  unfold Nb
  omega
def sp_swr (K : W.Frag) : Sp := fun vs H Q _ => match vs with
  | [x0, .int z, .ref ps] => ∃ (m k : Nat) (ts : List (Nat × Int)) (x y : Int), SumAt K H x0 m ts /\ Gl m ts /\ z = k /\ k <= m /\ SqT K H ps [.int x, .int y] /\ 0 < y /\ Nb x 66 /\ Nb y 66 /\ ∀ v H', Same H H' -> Rep K H' (staD m (lvR m ts k) x y) v -> Q v H'
  | _ => False
theorem sp_swr_mono : SpMono (sp_swr K) := fun vs H Q Q' E h q => by
  unfold sp_swr at *
  split at q
  . revert q; repeat' first | exact h _ _ | exact newL_mono h | exact out_mono h | exact outT_mono h | walk_at "m"
  . exact q.elim
theorem ok_stays_with_rest : FnOk P w K mg base CX0 4 T.f_stays_with_rest T.d_stays_with_rest ["glance", "many", "share"] (sp_swr K) := by
  have G_squares_by_level := ok_squares_by_level (P := P) (w := w) (base := base) T; have G_stays_by := ok_stays_by (P := P) (w := w) (base := base) T; have G_rest_of := ok_rest_of (P := P) (w := w) (base := base) T
  refine T.F_stays_with_rest.ok sc_stays_with_rest (fun vs H Q E h => by unfold sp_swr at h; split at h <;> first | rfl | exact h.elim) (fun cdv A outer s H vs Q E hr h => ?_)
  have hu := hu60 hr
  have mo1 : SpMono (sp_rest K) := sp_rest_mono
  have mo2 : SpMono (sp_sqlev K) := sp_sqlev_mono
  have mo3 : SpMono (sp_staysby K) := sp_staysby_mono
  have hr_squares_by_level := hr.mono (show 2 <= _ by decide); have hr_stays_by := hr.mono (show 3 <= _ by decide); have hr_rest_of := hr.mono (show 3 <= _ by decide)
  unfold sp_swr at h
  split at h
  rotate_left
  . exact h.elim
  rename_i x0 z ps
  obtain ⟨m, k, ts, x, y, S, G, e1, hk, hps, y0, hx, hy, q⟩ := h
  subst e1
  obtain ⟨a, b, us, rfl, ha, hb, hR⟩ := id S.at_
  have hm := G.m6
  refine ⟨_, (@pss_cons _ _ _ _ _ (@ps_set _ _ 3 _ _ _ _ sc_stays_with_rest.nd rfl (by walk_at "e") (@pe_call _ _ _ _ _ _ _ _ _ _ _ _ _ _ _ _ G_squares_by_level hr_squares_by_level rfl T.m_squares_by_level T.F_squares_by_level.kp T.b_squares_by_level .nil pass0 (@pa1 _ _ _ (@vw _ 0 _ _ (by walk_at "v")) (by rfl)) (by decide) (by rfl) (by rfl)) (by rfl) (by walk_at "i")) (@pss_cons _ _ _ _ _ (@ps_asg _ _ _ _ _ _ (@pe_op _ _ _ _ _ _ _ _ (kAdd (K := K)) (@kIx _ K _ _ _ _ _ (@vw _ 3 _ _ (by walk_at "v")) (@vw _ 1 _ _ (by walk_at "v")) (by intro _ _; rfl) (by rfl)) (@pe_call _ _ _ _ _ _ _ _ _ _ _ _ _ _ _ _ G_rest_of hr_rest_of rfl T.m_rest_of T.F_rest_of.kp T.b_rest_of .nil pass0 (@pa1 _ _ _ (@vw _ 0 _ _ (by walk_at "v")) (by rfl)) (by decide) (by rfl) (by rfl))) (@pg_sub _ _ _ _ _ _ _ (@vw _ 3 _ _ (by walk_at "v")) (@vw _ 1 _ _ (by walk_at "v")) set_any (by intro _; rfl)) (by rfl) (by rfl) (by rfl)) (@pss_one _ _ _ (@ps_ret _ _ _ _ (@pe_call _ _ _ _ _ _ _ _ _ _ _ _ _ _ _ _ G_stays_by hr_stays_by rfl T.m_stays_by T.F_stays_by.kp T.b_stays_by .nil pass0 (@pa_cons _ _ _ _ _ (@kIx _ K _ _ _ _ _ (@vw _ 0 _ _ (by walk_at "v")) (@pe_int _ _ _ _) (by intro _ _; rfl) (by rfl)) (@pa_cons _ _ _ _ _ (@vw _ 3 _ _ (by walk_at "v")) (@pa1 _ _ _ (@vw _ 2 _ _ (by walk_at "v")) (by rfl)) (by rfl)) (by rfl)) (by decide) (by rfl) (by rfl)))))), ?_⟩
  refine ⟨m, ts, S, G, fun l H1 nl s1 g1 => ?_⟩
  dsimp only [gName]
  refine ⟨_, .int (lvT m ts k), .inl (.of g1), ixL_at (show k < m + 1 by omega), m, ts, S.same s1, G, fun H2 s2 => ⟨_, k, s2 _ _ g1, by rw [ixL_len]; exact ixN_nat (by omega), ?_⟩⟩
  have gl : (ixL (lvT m ts) (m + 1)).set k (.int (lvT m ts k + restT m ts)) = ixL (lvR m ts k) (m + 1) := by
    rw [ixL_set]
    refine ixL_congr fun j _ => ?_
    unfold lvR
    by_cases e : j = k
    . rw [if_pos e, if_pos e, e]
    . rw [if_neg e, if_neg e]
  rw [gl]
  have s3 := same_put (o := .lst (ixL (lvR m ts k) (m + 1))) (s1.trans s2) nl
  refine ⟨_, .int m, .inr (s3.sqT ha), rfl, m, lvR m ts k, x, y, rfl, hm.2, fun j _ => lvR_nb G k j, .of upd_same, s3.sqT hps, y0, hx, hy, fun p H' np s4 g4 => q _ _ (s3.trans s4) (rep_sh g4)⟩
def StW (m : Nat) (ts : List (Nat × Int)) (x y : Int) (d1 d2 : Dv) : Prop :=
  (darkL m ts (2 ^ m) = [] /\ d1 = staD m (lvT m ts) x y /\ d2 = staD m (lvT m ts) x y) \/
  ∃ k1 k2 : Nat, k1 ∈ (darkL m ts (2 ^ m)).map (manyF m) /\ k2 ∈ (darkL m ts (2 ^ m)).map (manyF m) /\ (∀ k ∈ darkL m ts (2 ^ m), k2 <= manyF m k /\ manyF m k <= k1) /\ d1 = staD m (lvR m ts k1) x y /\ d2 = staD m (lvR m ts k2) x y
def sp_stw (K : W.Frag) : Sp := fun vs H Q _ => match vs with
  | [x0, .ref ps] => ∃ (m : Nat) (ts : List (Nat × Int)) (x y : Int), SumAt K H x0 m ts /\ Gl m ts /\ SqT K H ps [.int x, .int y] /\ 0 < y /\ Nb x 66 /\ Nb y 66 /\ ∀ v d1 d2 H', Same H H' -> Rep K H' (.tup [d1, d2]) v -> StW m ts x y d1 d2 -> Q v H'
  | _ => False
theorem sp_stw_mono : SpMono (sp_stw K) := fun vs H Q Q' E h q => by
  unfold sp_stw at *
  split at q
  . revert q; repeat' first | exact h _ _ | exact newL_mono h | exact out_mono h | exact outT_mono h | walk_at "m"
  . exact q.elim
theorem ok_stays_within : FnOk P w K mg base CX0 5 T.f_stays_within T.d_stays_within ["glance", "share"] (sp_stw K) := by
  have G_many_in := ok_many_in (P := P) (w := w) (base := base) T; have G_stays_by := ok_stays_by (P := P) (w := w) (base := base) T; have G_stays_with_rest := ok_stays_with_rest (P := P) (w := w) (base := base) T; have G_untold_sets := ok_untold_sets (P := P) (w := w) (base := base) T; have G_squares_by_level := ok_squares_by_level (P := P) (w := w) (base := base) T
  refine T.F_stays_within.ok sc_stays_within (fun vs H Q E h => by unfold sp_stw at h; split at h <;> first | rfl | exact h.elim) (fun cdv A outer s H vs Q E hr h => ?_)
  have hu := hu60 hr
  have mo1 : SpMono (sp_swr K) := sp_swr_mono
  have mo2 : SpMono (sp_sqlev K) := sp_sqlev_mono
  have mo3 : SpMono (sp_staysby K) := sp_staysby_mono
  have mo4 : SpMono (sp_dark K) := sp_dark_mono
  have mo5 : SpMono sp_many := sp_many_mono
  have hr_many_in := hr.mono (show 1 <= _ by decide); have hr_stays_by := hr.mono (show 3 <= _ by decide); have hr_stays_with_rest := hr.mono (show 4 <= _ by decide); have hr_untold_sets := hr.mono (show 3 <= _ by decide); have hr_squares_by_level := hr.mono (show 2 <= _ by decide)
  unfold sp_stw at h
  split at h
  rotate_left
  . exact h.elim
  rename_i x0 ps
  obtain ⟨m, ts, x, y, S, G, hps, y0, hx, hy, q⟩ := h
  obtain ⟨a, b, us, rfl, ha, hb, hR⟩ := id S.at_
  have hm := G.m6
  have h64 : 2 ^ m <= 64 := Nat.pow_le_pow_right (n := 2) (by decide) hm.2
  have hdl := darkL_len m ts (2 ^ m)
  refine ⟨_, (@pss_cons _ _ _ _ _ (@ps_compB _ _ _ _ _ _ _ ["subset"] 1 [] _ _ _ _ 2 _ _ _ rfl sc_stays_within.nd rfl rfl (@kSeq _ K _ _ _ (@pe_call _ _ _ _ _ _ _ _ _ _ _ _ _ _ _ _ G_untold_sets hr_untold_sets rfl T.m_untold_sets T.F_untold_sets.kp T.b_untold_sets .nil pass0 (@pa1 _ _ _ (@vw _ 0 _ _ (by walk_at "v")) (by rfl)) (by decide) (by rfl) (by rfl)) (by rfl)) (by kernel_rfl) rfl rfl (by kernel_rfl) (fun c => @pg_name _ _ 0 _ (show (["subset"] : List Str).Nodup by decide +kernel) rfl (by walk_at "e") (by walk_at "i")) (go_name (by decide)) (fun c => @pts_nil _) (fun c => (@pe_call _ _ _ _ _ _ _ _ _ _ _ _ _ _ _ _ G_many_in hr_many_in rfl T.m_many_in T.F_many_in.kp T.b_many_in .nil pass0 (@pa1 _ _ _ (@vw _ 0 _ _ (by walk_at "v")) (by rfl)) (by decide) (by rfl) (by rfl))) (by rfl) (by intro _; rfl)) (@pss_cons _ _ _ _ _ (@ps_if _ _ _ _ _ _ _ _ (@tu_cmp _ _ _ _ _ _ _ _ (kEq (K := K) hu) (@pe_callB _ _ _ _ _ _ _ _ _ (kLen (K := K)) rfl T.z_len (by rfl) (@pa1 _ _ _ (@vw _ 2 _ _ (by walk_at "v")) (by rfl)) (by decide) (by decide) (by rfl) (by rfl)) (@pe_int _ _ _ _) (by walk_at "n")) (@pss_cons _ _ _ _ _ (@ps_set _ _ 3 _ _ _ _ sc_stays_within.nd rfl (by walk_at "e") (@pe_call _ _ _ _ _ _ _ _ _ _ _ _ _ _ _ _ G_stays_by hr_stays_by rfl T.m_stays_by T.F_stays_by.kp T.b_stays_by .nil pass0 (@pa_cons _ _ _ _ _ (@kIx _ K _ _ _ _ _ (@vw _ 0 _ _ (by walk_at "v")) (@pe_int _ _ _ _) (by intro _ _; rfl) (by rfl)) (@pa_cons _ _ _ _ _ (@pe_call _ _ _ _ _ _ _ _ _ _ _ _ _ _ _ _ G_squares_by_level hr_squares_by_level rfl T.m_squares_by_level T.F_squares_by_level.kp T.b_squares_by_level .nil pass0 (@pa1 _ _ _ (@vw _ 0 _ _ (by walk_at "v")) (by rfl)) (by decide) (by rfl) (by rfl)) (@pa1 _ _ _ (@vw _ 1 _ _ (by walk_at "v")) (by rfl)) (by rfl)) (by rfl)) (by decide) (by rfl) (by rfl)) (by rfl) (by walk_at "i")) (@pss_one _ _ _ (@ps_ret _ _ _ _ (@pe_tup _ _ _ _ _ (@pa_cons _ _ _ _ _ (@vw _ 3 _ _ (by walk_at "v")) (@pa1 _ _ _ (@vw _ 3 _ _ (by walk_at "v")) (by rfl)) (by rfl)))))) (@pss_nil _)) (@pss_one _ _ _ (@ps_ret _ _ _ _ (@pe_tup _ _ _ _ _ (@pa_cons _ _ _ _ _ (@pe_call _ _ _ _ _ _ _ _ _ _ _ _ _ _ _ _ G_stays_with_rest hr_stays_with_rest rfl T.m_stays_with_rest T.F_stays_with_rest.kp T.b_stays_with_rest .nil pass0 (@pa_cons _ _ _ _ _ (@vw _ 0 _ _ (by walk_at "v")) (@pa_cons _ _ _ _ _ (@pe_callB _ _ _ _ _ _ _ _ _ (kMaxL (K := K) rfl) rfl T.z_max (by rfl) (@pa1 _ _ _ (@vw _ 2 _ _ (by walk_at "v")) (by rfl)) (by decide) (by decide) (by rfl) (by rfl)) (@pa1 _ _ _ (@vw _ 1 _ _ (by walk_at "v")) (by rfl)) (by rfl)) (by rfl)) (by decide) (by rfl) (by rfl)) (@pa1 _ _ _ (@pe_call _ _ _ _ _ _ _ _ _ _ _ _ _ _ _ _ G_stays_with_rest hr_stays_with_rest rfl T.m_stays_with_rest T.F_stays_with_rest.kp T.b_stays_with_rest .nil pass0 (@pa_cons _ _ _ _ _ (@vw _ 0 _ _ (by walk_at "v")) (@pa_cons _ _ _ _ _ (@pe_callB _ _ _ _ _ _ _ _ _ (kMinL (K := K) rfl) rfl T.z_min (by rfl) (@pa1 _ _ _ (@vw _ 2 _ _ (by walk_at "v")) (by rfl)) (by decide) (by decide) (by rfl) (by rfl)) (@pa1 _ _ _ (@vw _ 1 _ _ (by walk_at "v")) (by rfl)) (by rfl)) (by rfl)) (by decide) (by rfl) (by rfl)) (by rfl)) (by rfl))))))), ?_⟩
  unfold StW at q
  refine seq_at (fun σ H' => ∃ l : Addr, σ = [some (.ref a), some (.ref ps), some (.ref l), none] /\ Same H H' /\ H' l = some (.lst (iL ((darkL m ts (2 ^ m)).map (manyF m))))) ?_ ?_ (by walk_at "sm")
  . refine ⟨m, ts, S, G, fun l H2 nl s2 g2 => .inl ⟨⟨_, .of g2⟩, ?_⟩⟩
    have hmem := fun {k : Nat} (h : k ∈ darkL m ts (2 ^ m)) => (darkL_mem.mp h).1
    generalize darkL m ts (2 ^ m) = ds at *
    refine comp_list (xs := iL ds) (fun i ys H' => H' = H2 /\ ys = iL ((ds.take i).map (manyF m))) ⟨rfl, rfl⟩ (fun i ys H' _ ⟨e, _⟩ => by rw [e]; exact .of g2) (fun i ys H' hi ⟨_, e⟩ => by
      rw [iL_len] at hi
      rw [e, iL_len, List.length_map, List.length_take]; exact small1000 (by omega)) ?_ ?_
    . rintro i x ys H' hx ⟨rfl, rfl⟩
      obtain ⟨k, hk, hkm, rfl⟩ := iL_at hx
      have hk2 := hmem hkm
      refine ⟨k, rfl, Nat.lt_of_lt_of_le (show k < 64 by omega) (by decide), rfl, ?_⟩
      rw [many_of hk2 (by omega), List.take_add_one, hk, List.map_append, iL_app]
      rfl
    . rintro ys H' ⟨rfl, rfl⟩ lp hlp
      rw [iL_len, List.take_length]
      exact ⟨lp, rfl, s2.trans (Same.upd hlp), upd_same⟩
  rintro σ H1 ⟨l, rfl, s1, g1⟩
  have hmem := fun {k : Nat} (h : k ∈ darkL m ts (2 ^ m)) => (darkL_mem.mp h).1
  generalize darkL m ts (2 ^ m) = ds at *
  by_cases c : ds = []
  . refine ⟨ds.length, .inl ⟨_, .of g1, by rw [iL_len, List.length_map]⟩, ?_⟩
    refine ite2 (fun _ => ?_) (fun e => absurd (by rw [c]; rfl) e)
    refine ⟨_, .int m, .inr (s1.sqT ha), rfl, m, ts, S.same s1, G, fun l2 H2 nl2 s2 g2 => ?_⟩
    have s12 := s1.trans s2
    refine ⟨m, lvT m ts, x, y, rfl, hm.2, fun j _ => lvT_nb G j, .of g2, s12.sqT hps, y0, hx, hy, fun p H3 np s3 g3 => ?_⟩
    dsimp only [gName]
    refine ⟨small_le (show 2 <= 1000 by decide), fun p2 n2 => ?_⟩
    have s4 := Same.upd (o := .tup [.ref p, .ref p]) n2
    exact q _ _ _ _ (s12.trans (s3.trans s4)) (rep_tup1 upd_same (reps_cons (rep_sh (s4 _ _ g3)) (reps_cons (rep_sh (s4 _ _ g3)) reps_nil))) (.inl ⟨c, rfl, rfl⟩)
  . have hpos : 0 < (ds.map (manyF m)).length := by rw [List.length_map]; exact List.length_pos_iff.mpr c
    have ei : iL (ds.map (manyF m)) = ((ds.map (manyF m)).map fun (r : Nat) => (r : Int)).map V.int := iL_ints _
    refine ⟨ds.length, .inl ⟨_, .of g1, by rw [iL_len, List.length_map]⟩, ?_⟩
    refine ite2 (fun e => ?_) (fun _ => ?_)
    . have e : ((ds.length : Nat) : Int) = 0 := by simpa using e
      rw [List.length_map] at hpos
      omega
    have hbd : ∀ k ∈ ds.map (manyF m), k <= m := fun k hk => by
      obtain ⟨z, _, rfl⟩ := List.mem_map.mp hk
      exact manyF_le m z
    refine ⟨_, by rw [<- ei]; exact .of g1, by rw [List.length_map]; exact hpos, fun M hM hmax => ?_⟩
    obtain ⟨k1, hk1, rfl⟩ := List.mem_map.mp hM
    refine ⟨m, k1, ts, x, y, S.same s1, G, rfl, hbd k1 hk1, s1.sqT hps, y0, hx, hy, fun v1 H2 s2 r1 => ?_⟩
    refine ⟨_, by rw [<- ei]; exact .of (s2 _ _ g1), by rw [List.length_map]; exact hpos, fun M hM hmin => ?_⟩
    obtain ⟨k2, hk2, rfl⟩ := List.mem_map.mp hM
    have s12 := s1.trans s2
    refine ⟨m, k2, ts, x, y, S.same s12, G, rfl, hbd k2 hk2, s12.sqT hps, y0, hx, hy, fun v2 H3 s3 r2 => ?_⟩
    refine ⟨small_le (show 2 <= 1000 by decide), fun p2 n2 => ?_⟩
    have s4 := Same.upd (o := .tup [v1, v2]) n2
    refine q _ _ _ _ (s12.trans (s3.trans s4)) (rep_tup1 upd_same (reps_cons (Rep.same (s3.trans s4) _ _ r1) (reps_cons (Rep.same s4 _ _ r2) reps_nil))) (.inr ⟨k1, k2, hk1, hk2, fun k hk => ?_, rfl, rfl⟩)
    have h1 := hmax _ (List.mem_map.mpr ⟨_, List.mem_map.mpr ⟨k, hk, rfl⟩, rfl⟩)
    have h2 := hmin _ (List.mem_map.mpr ⟨_, List.mem_map.mpr ⟨k, hk, rfl⟩, rfl⟩)
    omega
def sp_within : Sp := fun vs H Q _ => match vs with
  | [.int x, .int y] => ∃ a b : Nat, x = a /\ y = b /\ Q (.bl (decide (a &&& b = a))) H
  | _ => False
theorem sp_within_mono : SpMono sp_within := fun vs H Q Q' E h q => by
  unfold sp_within at *
  split at q
  . revert q; repeat' first | exact h _ _ | exact newL_mono h | exact out_mono h | exact outT_mono h | walk_at "m"
  . exact q.elim
theorem ok_within : FnOk P w K mg base CX0 1 T.f_within T.d_within ["subset", "other"] sp_within := by
  refine T.F_within.ok sc_within (fun vs H Q E h => by unfold sp_within at h; split at h <;> first | rfl | exact h.elim) (fun cdv A outer s H vs Q E hr h => ?_)
  have hu := hu60 hr
  unfold sp_within at h
  split at h
  rotate_left
  . exact h.elim
  rename_i x y
  obtain ⟨a, b, e1, e2, q⟩ := h
  subst e1 e2
  refine ⟨_, (@pss_one _ _ _ (@ps_ret _ _ _ _ (@pe_cmpM _ _ _ _ _ _ _ _ (kEq (K := K) hu) (@pe_op _ _ _ _ _ _ _ _ om_and (@vw _ 0 _ _ (by walk_at "v")) (@vw _ 1 _ _ (by walk_at "v"))) (@vw _ 0 _ _ (by walk_at "v")) (by walk_at "n")))), ?_⟩
  have e : (false ^^ (Builtin.bitAnd (a : Int) (b : Int) == (a : Int))) = decide (a &&& b = a) := by
    rw [bitAnd_nat, Bool.false_xor, Bool.eq_iff_iff]
    simp only [beq_iff_eq, decide_eq_true_eq]
    omega
  show Q (.bl (false ^^ (Builtin.bitAnd (a : Int) (b : Int) == (a : Int)))) H
  rw [e]
  exact q
def difL (as bs : List Bool) (n : Nat) : List Nat := (List.range n).filter (fun i => gB as i != gB bs i)
theorem difL_succ (as bs : List Bool) (n : Nat) : difL as bs (n + 1) = difL as bs n ++ (if (gB as n != gB bs n) = true then [n] else []) := by
  unfold difL
  rw [List.range_succ, List.filter_append]
  congr 1
  by_cases h : (gB as n != gB bs n) = true
  . simp only [List.filter_cons, List.filter_nil]
  . simp only [List.filter_cons, List.filter_nil]
theorem difL_len (as bs : List Bool) (n : Nat) : (difL as bs n).length <= n := by
  unfold difL
  exact Nat.le_trans (List.length_filter_le _ _) (by rw [List.length_range]; exact Nat.le_refl _)
def bestB (m : Nat) (g : Nat -> Int) (o : Nat) : List Bool := (List.range (2 ^ m)).map fun p => decide (wt m (inF g o) p < 0)
theorem bestB_len (m : Nat) (g : Nat -> Int) (o : Nat) : (bestB m g o).length = 2 ^ m := by unfold bestB; simp
def bestD (as bs : List Bool) (m : Nat) : Dv := .tup [.tup (as.map Dv.bl), .int ((difL as bs (2 ^ m)).length : Nat)]
theorem reps_bl {K : W.Frag} {H : Hp} : ∀ bs : List Bool, Reps K H (bs.map Dv.bl) (bs.map V.bl)
  | [] => reps_nil
  | b :: bs => reps_cons (by unfold Rep; rfl) (reps_bl bs)
def setTo (v : Nat -> Int) (o i r : Nat) : Int := sumTo (fun q => if q &&& o = r then v q else 0) i
def sp_fbest (K : W.Frag) : Sp := fun vs H Q _ => match vs with
  | [.ref tp, .int z] => ∃ (m o : Nat) (bs : List Bool), SqT K H tp (bs.map V.bl) /\ bs.length = 2 ^ m /\ m <= 6 /\ z = o /\ o < 2 ^ m /\ ∀ u H', Same H H' -> Rep K H' (bestD (bestB m (wt m (valF bs)) o) bs m) u -> Q u H'
  | _ => False
theorem sp_fbest_mono : SpMono (sp_fbest K) := fun vs H Q Q' E h q => by
  unfold sp_fbest at *
  split at q
  . revert q; repeat' first | exact h _ _ | exact newL_mono h | exact out_mono h | exact outT_mono h | walk_at "m"
  . exact q.elim
structure CntAt (v : Nat -> Int) (o i : Nat) (kvs : List (Key × V)) : Prop where
  len : kvs.length <= i
  all : ∀ r : Nat, valV kvs (.inl (r : Int)) = none /\ setTo v o i r = 0 \/ valV kvs (.inl (r : Int)) = some (.int (setTo v o i r))
  has : ∀ q, q < i -> valV kvs (.inl ((q &&& o : Nat) : Int)) ≠ none
theorem CntAt.put {v : Nat -> Int} {o i : Nat} {kvs : List (Key × V)} (C : CntAt v o i kvs) : CntAt v o (i + 1) (putK kvs (.inl ((i &&& o : Nat) : Int)) (.int (setTo v o i (i &&& o) + v i))) := by
  have es : ∀ r, setTo v o (i + 1) r = setTo v o i r + (if i &&& o = r then v i else 0) := fun r => rfl
  refine ⟨Nat.le_trans (length_putK _ _ _) (Nat.succ_le_succ C.len), fun r => ?_, fun q hq => ?_⟩
  . rw [valV_put, es]
    by_cases e : r = i &&& o
    . subst e
      rw [if_pos rfl, if_pos rfl]
      exact .inr rfl
    . rw [if_neg (fun z => e (by have := Sum.inl.inj z; omega)), if_neg (Ne.symm e), Int.add_zero]
      exact C.all r
  . rw [valV_put]
    by_cases e : (q &&& o) = (i &&& o)
    . rw [e, if_pos rfl]; exact fun z => nomatch z
    . have hq' : q < i := by
        rcases Nat.lt_or_ge q i with z | z
        . exact z
        . have : q = i := by omega
          subst this; exact absurd rfl e
      rw [if_neg (fun z => e (by have := Sum.inl.inj z; omega))]
      exact C.has q hq'
theorem best_set {m o : Nat} {bs : List Bool} (ho : o < 2 ^ m) : bestB m (wt m (valF bs)) o = (List.range (2 ^ m)).map fun p => decide (setTo (valF bs) o (2 ^ m) (p &&& o) < 0) := by
  unfold bestB
  refine List.map_congr_left fun p hp => ?_
  rw [wt_in m (valF bs) o p ho (List.mem_range.mp hp)]
  have e : setS m (valF bs) o (p &&& o) = setTo (valF bs) o (2 ^ m) (p &&& o) := rfl
  rw [e]
  generalize setTo (valF bs) o (2 ^ m) (p &&& o) = x
  have h0 : (0 : Int) < ((2 ^ manyF m o : Nat) : Int) := by have := Nat.two_pow_pos (manyF m o); omega
  generalize ((2 ^ manyF m o : Nat) : Int) = c at *
  by_cases hx : x < 0
  . rw [decide_eq_true hx, decide_eq_true (Int.mul_neg_of_pos_of_neg h0 hx)]
  . rw [decide_eq_false hx, decide_eq_false]
    have := Int.mul_nonneg (Int.le_of_lt h0) (show 0 <= x by omega)
    omega
theorem ok__law_best : FnOk P w K mg base CX0 1 T.f__law_best T.d__law_best ["_law_table_here", "_law_some"] (sp_fbest K) := by
  refine T.F__law_best.ok sc__law_best (fun vs H Q E h => by unfold sp_fbest at h; split at h <;> first | rfl | exact h.elim) (fun cdv A outer s H vs Q E hr h => ?_)
  have hu := hu60 hr
  unfold sp_fbest at h
  split at h
  rotate_left
  . exact h.elim
  rename_i tp z
  obtain ⟨m, o, bs, ht, hb, m6, e1, ho, q⟩ := h
  subst e1
  have h64 : 2 ^ m <= 64 := Nat.pow_le_pow_right (n := 2) (by decide) m6
  refine ⟨_, (@pss_cons _ _ _ _ _ (@ps_set _ _ 2 _ _ _ _ sc__law_best.nd rfl (by walk_at "e") (@pe_dnewK _ _) (by rfl) (by walk_at "i")) (@pss_cons _ _ _ _ _ (@ps_for _ _ _ _ _ _ _ _ PassesOwn.never rfl (@pi_range1 _ _ _ _ _ _ rfl T.z_range (@pa1 _ _ _ (@pe_callB _ _ _ _ _ _ _ _ _ (kLen (K := K)) rfl T.z_len (by rfl) (@pa1 _ _ _ (@vw _ 0 _ _ (by walk_at "v")) (by rfl)) (by decide) (by decide) (by rfl) (by rfl)) (by rfl)) (by rfl)) (@pg_name _ _ 3 _ sc__law_best.nd rfl (by walk_at "e") (by walk_at "i")) (@pss_one _ _ _ (@ps_dput _ _ _ _ _ _ _ _ _ (hu_one hu) (@vw _ 2 _ _ (by walk_at "v")) (@pe_op _ _ _ _ _ _ _ _ om_and (@vw _ 3 _ _ (by walk_at "v")) (@vw _ 1 _ _ (by walk_at "v"))) (@pe_op _ _ _ _ _ _ _ _ om_sub (@pe_op _ _ _ _ _ _ _ _ (kAdd (K := K)) (@pe_dget2 _ _ _ _ _ _ _ _ _ (hu_one hu) (@vw _ 2 _ _ (by walk_at "v")) (@pe_op _ _ _ _ _ _ _ _ om_and (@vw _ 3 _ _ (by walk_at "v")) (@vw _ 1 _ _ (by walk_at "v"))) (@pe_int _ _ _ _) ⟨by rfl, by rfl, by rfl, by rfl⟩) (@pe_int _ _ _ _)) (@pe_op _ _ _ _ _ _ _ _ om_mul (@pe_int _ _ _ _) (@pe_callTy _ _ _ _ _ _ _ _ _ cm_int rfl T.z_int (by rfl) (@pa1 _ _ _ (@kIx _ K _ _ _ _ _ (@vw _ 0 _ _ (by walk_at "v")) (@vw _ 3 _ _ (by walk_at "v")) (by intro _ _; rfl) (by rfl)) (by rfl)) (by decide) (by decide) (by rfl) (by rfl)))) (by rfl))) (by intro _; rfl)) (@pss_cons _ _ _ _ _ (@ps_set _ _ 4 _ _ _ _ sc__law_best.nd rfl (by walk_at "e") (@pe_callTy _ _ _ _ _ _ _ _ _ (kTuple (K := K)) rfl T.z_tuple (by rfl) (@pa1 _ _ _ (@pe_compB _ _ _ _ _ _ _ (["_law_p", "_law_counts", "_law_some"]) 1 ([2, 1]) _ _ _ _ rfl (@pi_range1 _ _ _ _ _ _ rfl T.z_range (@pa1 _ _ _ (@pe_callB _ _ _ _ _ _ _ _ _ (kLen (K := K)) rfl T.z_len (by rfl) (@pa1 _ _ _ (@vw _ 0 _ _ (by walk_at "v")) (by rfl)) (by decide) (by decide) (by rfl) (by rfl)) (by rfl)) (by rfl)) (by kernel_rfl) rfl rfl (by kernel_rfl) (fun c => @pg_name _ _ 0 _ (show (["_law_p", "_law_counts", "_law_some"] : List Str).Nodup by decide +kernel) rfl (by walk_at "e") (by walk_at "i")) (go_name (by decide)) (fun c => @pts_nil _) (fun c => (@pe_cmpM _ _ _ _ _ _ _ _ om_lt (@pe_dget _ _ _ _ _ _ (hu_one hu) (@vw _ 1 _ _ (by walk_at "v")) (@pe_op _ _ _ _ _ _ _ _ om_and (@vw _ 0 _ _ (by walk_at "v")) (@vw _ 2 _ _ (by walk_at "v"))) (by intro _ _; rfl)) (@pe_int _ _ _ _) (by walk_at "n"))) (by intro _; rfl)) (by rfl)) (by decide) (by decide) (by rfl) (by rfl)) (by rfl) (by walk_at "i")) (@pss_one _ _ _ (@ps_ret _ _ _ _ (@pe_tup _ _ _ _ _ (@pa_cons _ _ _ _ _ (@vw _ 4 _ _ (by walk_at "v")) (@pa1 _ _ _ (@pe_callB _ _ _ _ _ _ _ _ _ (kLen (K := K)) rfl T.z_len (by rfl) (@pa1 _ _ _ (@pe_compB _ _ _ _ _ _ _ (["_law_p", "_law_near", "_law_table_here"]) 1 ([4, 0]) _ _ _ _ rfl (@pi_range1 _ _ _ _ _ _ rfl T.z_range (@pa1 _ _ _ (@pe_callB _ _ _ _ _ _ _ _ _ (kLen (K := K)) rfl T.z_len (by rfl) (@pa1 _ _ _ (@vw _ 0 _ _ (by walk_at "v")) (by rfl)) (by decide) (by decide) (by rfl) (by rfl)) (by rfl)) (by rfl)) (by kernel_rfl) rfl rfl (by kernel_rfl) (fun c => @pg_name _ _ 0 _ (show (["_law_p", "_law_near", "_law_table_here"] : List Str).Nodup by decide +kernel) rfl (by walk_at "e") (by walk_at "i")) (go_name (by decide)) (fun c => @pts_one _ _ _ (@tu_cmp _ _ _ _ _ _ _ _ (kNe (K := K) hu) (@kIx _ K _ _ _ _ _ (@vw _ 1 _ _ (by walk_at "v")) (@vw _ 0 _ _ (by walk_at "v")) (by intro _ _; rfl) (by rfl)) (@kIx _ K _ _ _ _ _ (@vw _ 2 _ _ (by walk_at "v")) (@vw _ 0 _ _ (by walk_at "v")) (by intro _ _; rfl) (by rfl)) (by walk_at "n"))) (fun c => (@vw _ 0 _ _ (by walk_at "v"))) (by intro _; rfl)) (by rfl)) (by decide) (by decide) (by rfl) (by rfl)) (by rfl)) (by rfl)))))))), ?_⟩
  refine fun c hc => ?_
  dsimp only [gName]
  refine seq_at (fun σ H' => ∃ (z3 : Option V) (kvs : List (Key × V)), σ = [some (.ref tp), some (.int o), some (.ref c), z3, none] /\ Same H H' /\ H' c = some (.dK kvs) /\ CntAt (valF bs) o (2 ^ m) kvs) ?_ ?_ (by walk_at "sm")
  . refine ⟨2 ^ m, .inr ⟨_, (Same.upd hc).sqT ht, by rw [List.length_map, hb]⟩, ((2 ^ m : Nat) : Int), rfl, by omega, by omega, ?_⟩
    refine for_range (fun i σ H' => ∃ (z3 : Option V) (kvs : List (Key × V)), σ = [some (.ref tp), some (.int o), some (.ref c), z3, none] /\ Same H H' /\ H' c = some (.dK kvs) /\ CntAt (valF bs) o i kvs) ⟨none, [], rfl, Same.upd hc, upd_same, ⟨Nat.le_refl _, fun r => .inl ⟨rfl, rfl⟩, fun q hq => by omega⟩⟩ ?_ ?_
    . rintro i σ H1 hi ⟨z3, kvs, rfl, s1, g1, C⟩
      have hi' : i < 2 ^ m := by omega
      rw [show (0 : Int) + (i : Int) = (i : Int) from Int.zero_add _]
      have ek : Builtin.bitAnd (i : Int) (o : Int) = ((i &&& o : Nat) : Int) := bitAnd_nat i o
      have gk : DGet H1 c (.int (Builtin.bitAnd (i : Int) (o : Int))) (valV kvs (.inl ((i &&& o : Nat) : Int))) := by rw [ek]; exact DGet.k (k := .inl ((i &&& o : Nat) : Int)) g1
      have pk : ∀ x, DPut H1 c (.int (Builtin.bitAnd (i : Int) (o : Int))) x (upd H1 c (.dK (putK kvs (.inl ((i &&& o : Nat) : Int)) x))) := fun x => by rw [ek]; exact DPut.k (k := .inl ((i &&& o : Nat) : Int)) g1 (small1000 (by have := C.len; omega))
      have ev : ∀ y : Int, y + 1 - 2 * (if gB bs i = true then 1 else 0) = y + valF bs i := fun y => by
        have : valF bs i = if gB bs i = true then -1 else 1 := rfl
        rw [this]
        split <;> omega
      have fin : ∀ x, x = setTo (valF bs) o i (i &&& o) + valF bs i -> ∃ (z3 : Option V) (kvs' : List (Key × V)), [some (V.ref tp), some (.int (o : Int)), some (.ref c), some (.int (i : Int)), none] = [some (.ref tp), some (.int o), some (.ref c), z3, none] /\ Same H (upd H1 c (.dK (putK kvs (.inl ((i &&& o : Nat) : Int)) (.int x)))) /\ upd H1 c (.dK (putK kvs (.inl ((i &&& o : Nat) : Int)) (.int x))) c = some (.dK kvs') /\ CntAt (valF bs) o (i + 1) kvs' := fun x hx => by
        subst hx
        exact ⟨_, _, rfl, same_put s1 hc, upd_same, C.put⟩
      have tab : atI (bs.map V.bl) (i : Int) = some (.bl (gB bs i)) := gB_at (by omega)
      rcases C.all (i &&& o) with ⟨e1, e2⟩ | e1
      . rw [e1] at gk
        refine ⟨c, rfl, .inl ⟨kvs, .inl g1⟩, none, gk, _, .bl (gB bs i), .inr (s1.sqT ht), tab, .inr (.inl ⟨by decide, by decide⟩), c, _, rfl, pk _, ?_⟩
        refine fin _ ?_
        rw [<- ev, e2]
      . rw [e1] at gk
        refine ⟨c, rfl, .inl ⟨kvs, .inl g1⟩, some (.int (setTo (valF bs) o i (i &&& o))), gk, _, .bl (gB bs i), .inr (s1.sqT ht), tab, .inr (.inl ⟨by decide, by decide⟩), c, _, rfl, pk _, ?_⟩
        refine fin _ ?_
        rw [<- ev]
    . rintro σ H1 h
      rw [Int.toNat_natCast] at h
      exact h
  rintro σ H1 ⟨z3, kvs, rfl, s1, g1, C⟩
  have hbest := best_set (m := m) (o := o) (bs := bs) ho
  refine ⟨2 ^ m, .inr ⟨_, s1.sqT ht, by rw [List.length_map, hb]⟩, ((2 ^ m : Nat) : Int), rfl, by omega, by omega, ?_⟩
  refine comp_range (fun i ys H' => H' = H1 /\ ys = ((List.range i).map (fun p => decide (setTo (valF bs) o (2 ^ m) (p &&& o) < 0))).map V.bl) ⟨rfl, rfl⟩ (fun i ys H' hi ⟨_, e⟩ => by
    rw [e, List.length_map, List.length_map, List.length_range]; exact small1000 (by omega)) ?_ ?_
  . rintro i ys H' hi ⟨rfl, rfl⟩
    have hi' : i < 2 ^ m := by omega
    rw [show (0 : Int) + (i : Int) = (i : Int) from Int.zero_add _]
    have e1 : valV kvs (.inl ((i &&& o : Nat) : Int)) = some (.int (setTo (valF bs) o (2 ^ m) (i &&& o))) := by
      rcases C.all (i &&& o) with ⟨e, _⟩ | e
      . exact absurd e (C.has i hi')
      . exact e
    have gk : DGet H' c (.int (Builtin.bitAnd (i : Int) (o : Int))) (some (.int (setTo (valF bs) o (2 ^ m) (i &&& o)))) := by
      rw [bitAnd_nat, <- e1]; exact DGet.k (k := .inl ((i &&& o : Nat) : Int)) g1
    refine ⟨c, _, rfl, gk, rfl, ?_⟩
    rw [bl_list]
  . rintro ys H' ⟨rfl, rfl⟩ k hk
    rw [Int.toNat_natCast, <- hbest]
    refine ⟨_, .inl ⟨.of upd_same, fun p hp => ?_⟩⟩
    have s4 := s1.trans ((Same.upd (o := .lst ((bestB m (wt m (valF bs)) o).map V.bl)) hk).trans (Same.upd (o := .tup ((bestB m (wt m (valF bs)) o).map V.bl)) hp))
    have gp := upd_same (H := upd H' k (.lst ((bestB m (wt m (valF bs)) o).map V.bl))) (a := p) (o := .tup ((bestB m (wt m (valF bs)) o).map V.bl))
    have lb := bestB_len m (wt m (valF bs)) o
    generalize upd (upd H' k (.lst ((bestB m (wt m (valF bs)) o).map V.bl))) p (.tup ((bestB m (wt m (valF bs)) o).map V.bl)) = H4 at *
    generalize hbb : bestB m (wt m (valF bs)) o = bb at *
    dsimp only [gName]
    refine ⟨2 ^ m, .inr ⟨_, s4.sqT ht, by rw [List.length_map, hb]⟩, ((2 ^ m : Nat) : Int), rfl, by omega, by omega, ?_⟩
    refine comp_range (fun i ys H' => H' = H4 /\ ys = iL (difL bb bs i)) ⟨rfl, rfl⟩ (fun i ys H' hi ⟨_, e⟩ => by
      have := difL_len bb bs i
      rw [e, iL_len]; exact small1000 (by omega)) ?_ ?_
    . rintro i ys H' hi ⟨rfl, rfl⟩
      have hi' : i < 2 ^ m := by omega
      rw [show (0 : Int) + (i : Int) = (i : Int) from Int.zero_add _]
      refine ⟨_, .bl (gB bb i), .inr (.of gp), gB_at (by omega), _, .bl (gB bs i), .inr (s4.sqT ht), gB_at (by omega), ?_⟩
      refine ite2 (fun e => ?_) (fun e => ?_)
      . have e' : (gB bb i != gB bs i) = true := by
          revert e
          cases gB bb i <;> cases gB bs i <;> simp
        refine ⟨rfl, ?_⟩
        rw [difL_succ, if_pos e', iL_app]
        rfl
      . have e' : ¬ (gB bb i != gB bs i) = true := by
          revert e
          cases gB bb i <;> cases gB bs i <;> simp
        refine ⟨rfl, ?_⟩
        rw [difL_succ, if_neg e', List.append_nil]
    . rintro ys H' ⟨rfl, rfl⟩ l hl
      rw [Int.toNat_natCast]
      refine ⟨(difL bb bs (2 ^ m)).length, .inl ⟨_, .of upd_same, by rw [iL_len]⟩, small_le (show 2 <= 1000 by decide), fun p7 hp7 => q _ _ (s4.trans ((Same.upd hl).trans (Same.upd hp7))) ?_⟩
      unfold bestD
      exact rep_tup1 upd_same (reps_cons (rep_tup1 (Same.upd hp7 _ _ (Same.upd hl _ _ gp)) (reps_bl _)) (reps_cons rep_int reps_nil))
def setL (m k n : Nat) : List Nat := (List.range n).filter fun s => decide (manyF m s = k)
theorem setL_succ (m k n : Nat) : setL m k (n + 1) = setL m k n ++ (if manyF m n = k then [n] else []) := by
  unfold setL
  rw [List.range_succ, List.filter_append]
  congr 1
  by_cases h : manyF m n = k
  . rw [if_pos h]; simp [h]
  . rw [if_neg h]; simp [h]
theorem setL_len (m k n : Nat) : (setL m k n).length <= n := by
  unfold setL
  exact Nat.le_trans (List.length_filter_le _ _) (by rw [List.length_range]; exact Nat.le_refl _)
theorem setL_mem {m k n x : Nat} (h : x ∈ setL m k n) : x < n := by
  unfold setL at h
  exact List.mem_range.mp (List.mem_filter.mp h).1
def sp_sets : Sp := fun vs H Q _ => match vs with
  | [.int x, .int y] => ∃ m k : Nat, x = m /\ y = k /\ m <= 6 /\ newL H Q (iL (setL m (min m k) (2 ^ m)))
  | _ => False
theorem sp_sets_mono : SpMono sp_sets := fun vs H Q Q' E h q => by
  unfold sp_sets at *
  split at q
  . revert q; repeat' first | exact h _ _ | exact newL_mono h | exact out_mono h | exact outT_mono h | walk_at "m"
  . exact q.elim
theorem ok_sets_of : FnOk P w K mg base CX0 3 T.f_sets_of T.d_sets_of ["n", "k"] sp_sets := by
  have G_two_to := ok_two_to (P := P) (w := w) (base := base) T; have G_many_in := ok_many_in (P := P) (w := w) (base := base) T
  refine T.F_sets_of.ok sc_sets_of (fun vs H Q E h => by unfold sp_sets at h; split at h <;> first | rfl | exact h.elim) (fun cdv A outer s H vs Q E hr h => ?_)
  have hu := hu60 hr
  have mo1 : SpMono sp_two_to := sp_two_to_mono
  have mo2 : SpMono sp_many := sp_many_mono
  have hr_two_to := hr.mono (show 2 <= _ by decide); have hr_many_in := hr.mono (show 1 <= _ by decide)
  unfold sp_sets at h
  split at h
  rotate_left
  . exact h.elim
  rename_i x y
  obtain ⟨m, k, e1, e2, m6, q⟩ := h
  subst e1 e2
  have h64 : 2 ^ m <= 64 := Nat.pow_le_pow_right (n := 2) (by decide) m6
  have i0 : (0 : Int) <= ((2 ^ m : Nat) : Int) := Int.natCast_nonneg _
  have i1 : ((2 ^ m : Nat) : Int) <= 64 := Int.ofNat_le.mpr h64
  refine ⟨_, (@pss_cons _ _ _ _ _ (@ps_set _ _ 2 _ _ _ _ sc_sets_of.nd rfl (by walk_at "e") (@pe_callB _ _ _ _ _ _ _ _ _ (cm_min rfl) rfl T.z_min (by rfl) (@pa_cons _ _ _ _ _ (@vw _ 0 _ _ (by walk_at "v")) (@pa1 _ _ _ (@vw _ 1 _ _ (by walk_at "v")) (by rfl)) (by rfl)) (by decide) (by decide) (by rfl) (by rfl)) (by rfl) (by walk_at "i")) (@pss_one _ _ _ (@ps_ret _ _ _ _ (@pe_compB _ _ _ _ _ _ _ (["subset", "many"]) 1 [2] _ _ _ _ rfl (@pi_range1 _ _ _ _ _ _ rfl T.z_range (@pa1 _ _ _ (@pe_call _ _ _ _ _ _ _ _ _ _ _ _ _ _ _ _ G_two_to hr_two_to rfl T.m_two_to T.F_two_to.kp T.b_two_to .nil pass0 (@pa1 _ _ _ (@vw _ 0 _ _ (by walk_at "v")) (by rfl)) (by decide) (by rfl) (by rfl)) (by rfl)) (by rfl)) (by kernel_rfl) rfl rfl (by kernel_rfl) (fun c => @pg_name _ _ 0 _ (show (["subset", "many"] : List Str).Nodup by decide +kernel) rfl (by walk_at "e") (by walk_at "i")) (go_name (by decide)) (fun c => @pts_one _ _ _ (@tu_cmp _ _ _ _ _ _ _ _ (kEq (K := K) hu) (@pe_call _ _ _ _ _ _ _ _ _ _ _ _ _ _ _ _ G_many_in hr_many_in rfl T.m_many_in T.F_many_in.kp T.b_many_in .nil pass0 (@pa1 _ _ _ (@vw _ 0 _ _ (by walk_at "v")) (by rfl)) (by decide) (by rfl) (by rfl)) (@vw _ 1 _ _ (by walk_at "v")) (by walk_at "n"))) (fun c => (@vw _ 0 _ _ (by walk_at "v"))) (by intro _; rfl))))), ?_⟩
  have em : min (m : Int) (k : Int) = ((min m k : Nat) : Int) := by omega
  refine seq_at (fun σ H' => σ = [some (.int m), some (.int k), some (.int ((min m k : Nat) : Int))] /\ H = H') ?_ ?_ (by walk_at "sm")
  . exact ⟨by rw [<- em]; rfl, rfl⟩
  rintro σ _ ⟨rfl, rfl⟩
  refine ⟨m, rfl, by omega, ((2 ^ m : Nat) : Int), rfl, by omega, by omega, ?_⟩
  refine comp_range (fun i ys H' => H' = H /\ ys = iL (setL m (min m k) i)) ⟨rfl, rfl⟩ (fun i ys H' hi ⟨_, e⟩ => by
    have := setL_len m (min m k) i
    rw [e, iL_len]; exact small1000 (by omega)) ?_ ?_
  . rintro i ys H' hi ⟨rfl, rfl⟩
    have hi' : i < 2 ^ m := by omega
    rw [show (0 : Int) + (i : Int) = (i : Int) from Int.zero_add _]
    refine ⟨i, rfl, by omega, ?_⟩
    rw [many_of hi' (by omega)]
    have eb : (false ^^ (((manyF m i : Nat) : Int) == ((min m k : Nat) : Int))) = decide (manyF m i = min m k) := by
      rw [Bool.false_xor, Bool.eq_iff_iff]
      simp only [beq_iff_eq, decide_eq_true_eq]
      omega
    refine ite2 (fun e => ?_) (fun e => ?_)
    . have e' : manyF m i = min m k := of_decide_eq_true (eb ▸ e)
      refine ⟨rfl, ?_⟩
      rw [setL_succ, if_pos e', iL_app]
      rfl
    . have e' : ¬ manyF m i = min m k := fun z => e (eb.symm ▸ decide_eq_true z)
      refine ⟨rfl, ?_⟩
      rw [setL_succ, if_neg e', List.append_nil]
  . rintro ys H' ⟨rfl, rfl⟩ l hl
    rw [Int.toNat_natCast]
    exact q l _ hl (Same.upd hl) upd_same
def pickI (G : Nat -> Int) : Nat -> Nat
  | 0 => 0
  | n + 1 => if G (n + 1) < G (pickI G n) then n + 1 else pickI G n
theorem pickI_le (G : Nat -> Int) : ∀ n, pickI G n <= n
  | 0 => Nat.le_refl _
  | n + 1 => by
    unfold pickI
    have := pickI_le G n
    split <;> omega
theorem manyF_has : ∀ m j, j <= m -> ∃ s, s < 2 ^ m /\ manyF m s = j
  | 0, j, h => ⟨0, by decide, by have : j = 0 := by omega
                                 subst this; rfl⟩
  | m + 1, 0, _ => ⟨0, Nat.two_pow_pos _, manyF_zero _⟩
  | m + 1, j + 1, h => by
    obtain ⟨s, h1, h2⟩ := manyF_has m j (by omega)
    refine ⟨2 * s + 1, by rw [Nat.pow_succ]; omega, ?_⟩
    show (2 * s + 1) % 2 + manyF m ((2 * s + 1) / 2) = j + 1
    rw [show (2 * s + 1) / 2 = s by omega, h2]
    omega
theorem manyF_full : ∀ m s, s < 2 ^ m -> (manyF m s = m ↔ s = 2 ^ m - 1)
  | 0, s, h => by
    have : s = 0 := by rw [Nat.pow_zero] at h; omega
    subst this
    exact ⟨fun _ => rfl, fun _ => rfl⟩
  | m + 1, s, h => by
    have hp : 2 ^ (m + 1) = 2 * 2 ^ m := by rw [Nat.pow_succ]; omega
    have h0 := Nat.two_pow_pos m
    have ih := manyF_full m (s / 2) (by omega)
    have hl := manyF_le m (s / 2)
    show s % 2 + manyF m (s / 2) = m + 1 ↔ _
    rw [hp] at *
    generalize 2 ^ m = M at *
    constructor
    . intro e
      have := ih.mp (by omega)
      omega
    . intro e
      have := ih.mpr (by omega)
      omega
theorem setL_full (m : Nat) : setL m m (2 ^ m) = [2 ^ m - 1] := by
  have h0 := Nat.two_pow_pos m
  have e : setL m m (2 ^ m - 1) = [] := by
    unfold setL
    rw [List.filter_eq_nil_iff]
    intro x hx
    have hx := List.mem_range.mp hx
    have := (manyF_full m x (by omega))
    simp only [decide_eq_true_eq]
    omega
  have e2 : setL m m (2 ^ m - 1 + 1) = [2 ^ m - 1] := by
    rw [setL_succ, e, if_pos ((manyF_full m _ (by omega)).mpr rfl)]
    rfl
  rw [show 2 ^ m - 1 + 1 = 2 ^ m by omega] at e2
  exact e2
theorem setL_ne (m k : Nat) : 0 < (setL m (min m k) (2 ^ m)).length := by
  obtain ⟨s, h1, h2⟩ := manyF_has m (min m k) (by omega)
  refine List.length_pos_of_mem (a := s) ?_
  unfold setL
  exact List.mem_filter.mpr ⟨List.mem_range.mpr h1, decide_eq_true h2⟩
def distO (m : Nat) (bs : List Bool) (o : Nat) : Nat := (difL (bestB m (wt m (valF bs)) o) bs (2 ^ m)).length
def nearG (m k : Nat) (bs : List Bool) (i : Nat) : Int := (distO m bs ((setL m (min m k) (2 ^ m)).getD i 0) : Nat)
def nearO (m k : Nat) (bs : List Bool) (n : Nat) : Nat := (setL m (min m k) (2 ^ m)).getD (pickI (nearG m k bs) n) 0
def nearD (m k : Nat) (bs : List Bool) (n : Nat) : Dv := bestD (bestB m (wt m (valF bs)) (nearO m k bs n)) bs m
abbrev nearN (m k : Nat) : Nat := (setL m (min m k) (2 ^ m)).length - 1
theorem best_at {K : W.Frag} {H : Hp} {as bs : List Bool} {m : Nat} {u : V} (h : Rep K H (bestD as bs m) u) : ∃ a x, u = .ref a /\ SqT K H a [x, .int ((difL as bs (2 ^ m)).length : Nat)] := by
  unfold bestD at h
  obtain ⟨a, xs, e, h1, h2⟩ := rep_tup_inv h
  unfold Reps at h2
  obtain ⟨x, r, rfl, _, h3⟩ := h2
  unfold Reps at h3
  obtain ⟨y, r, rfl, h4, h5⟩ := h3
  unfold Reps at h5
  unfold Rep at h4
  subst h4 h5
  exact ⟨a, x, e, h1⟩
theorem ok__law_sets : FnOk P w K mg base CX0 2 T.f__law_sets T.d__law_sets ["_law_n_here", "_law_k"] sp_sets := by
  have G__law_many := ok__law_many (P := P) (w := w) (base := base) T
  refine T.F__law_sets.ok sc__law_sets (fun vs H Q E h => by unfold sp_sets at h; split at h <;> first | rfl | exact h.elim) (fun cdv A outer s H vs Q E hr h => ?_)
  have hu := hu60 hr
  have mo2 : SpMono sp_many := sp_many_mono
  have hr__law_many := hr.mono (show 1 <= _ by decide)
  unfold sp_sets at h
  split at h
  rotate_left
  . exact h.elim
  rename_i x y
  obtain ⟨m, k, e1, e2, m6, q⟩ := h
  subst e1 e2
  have h64 : 2 ^ m <= 64 := Nat.pow_le_pow_right (n := 2) (by decide) m6
  have i1 : ((2 ^ m : Nat) : Int) <= 64 := Int.ofNat_le.mpr h64
  have i0 : (0 : Int) <= ((2 ^ m : Nat) : Int) := Int.natCast_nonneg _
  have esh : (1 : Int) * 2 ^ ((m : Int)).toNat = ((2 ^ m : Nat) : Int) := by rw [Int.one_mul, Int.toNat_natCast, Int.natCast_pow]; rfl
  have hsh : CPow 1 (m : Int) := ⟨by omega, by omega, by decide⟩
  refine ⟨_, (@pss_cons _ _ _ _ _ (@ps_if _ _ _ _ _ _ _ _ (@tu_cmp _ _ _ _ _ _ _ _ om_ge (@vw _ 1 _ _ (by walk_at "v")) (@vw _ 0 _ _ (by walk_at "v")) (by walk_at "n")) (@pss_one _ _ _ (@ps_ret _ _ _ _ (@pe_lst _ _ _ _ (@pa1 _ _ _ (@pe_op _ _ _ _ _ _ _ _ om_sub (@pe_op _ _ _ _ _ _ _ _ om_shl (@pe_int _ _ _ _) (@vw _ 0 _ _ (by walk_at "v"))) (@pe_int _ _ _ _)) (by rfl))))) (@pss_nil _)) (@pss_one _ _ _ (@ps_ret _ _ _ _ (@pe_compB _ _ _ _ _ _ _ (["_law_some", "_law_k"]) 1 [1] _ _ _ _ rfl (@pi_range1 _ _ _ _ _ _ rfl T.z_range (@pa1 _ _ _ (@pe_op _ _ _ _ _ _ _ _ om_shl (@pe_int _ _ _ _) (@vw _ 0 _ _ (by walk_at "v"))) (by rfl)) (by rfl)) (by kernel_rfl) rfl rfl (by kernel_rfl) (fun c => @pg_name _ _ 0 _ (show (["_law_some", "_law_k"] : List Str).Nodup by decide +kernel) rfl (by walk_at "e") (by walk_at "i")) (go_name (by decide)) (fun c => @pts_one _ _ _ (@tu_cmp _ _ _ _ _ _ _ _ (kEq (K := K) hu) (@pe_call _ _ _ _ _ _ _ _ _ _ _ _ _ _ _ _ G__law_many hr__law_many rfl T.m__law_many T.F__law_many.kp T.b__law_many .nil pass0 (@pa1 _ _ _ (@vw _ 0 _ _ (by walk_at "v")) (by rfl)) (by decide) (by rfl) (by rfl)) (@vw _ 1 _ _ (by walk_at "v")) (by walk_at "n"))) (fun c => (@vw _ 0 _ _ (by walk_at "v"))) (by intro _; rfl))))), ?_⟩
  refine ite2 (fun e => ?_) (fun e => ?_)
  . have hk : m <= k := by have : (m : Int) <= (k : Int) := of_decide_eq_true e; omega
    refine ⟨hsh, small_le (show 1 <= 1000 by decide), fun p hp => q p _ hp (Same.upd hp) ?_⟩
    rw [upd_same, esh, Nat.min_eq_left hk, setL_full]
    have h0 := Nat.two_pow_pos m
    generalize 2 ^ m = M at *
    have : (M : Int) - 1 = ((M - 1 : Nat) : Int) := by omega
    rw [this]
    rfl
  . have hk : k < m := by
      have : ¬ (m : Int) <= (k : Int) := fun z => e (decide_eq_true z)
      omega
    rw [Nat.min_eq_right (Nat.le_of_lt hk)] at q
    dsimp only [tNext]
    refine ⟨hsh, ?_⟩
    rw [esh]
    refine ⟨_, rfl, by omega, by omega, ?_⟩
    refine comp_range (fun i ys H' => H' = H /\ ys = iL (setL m k i)) ⟨rfl, rfl⟩ (fun i ys H' hi ⟨_, e⟩ => by
      have := setL_len m k i
      rw [e, iL_len]; exact small1000 (by omega)) ?_ ?_
    . rintro i ys H' hi ⟨rfl, rfl⟩
      have hi' : i < 2 ^ m := by omega
      rw [show (0 : Int) + (i : Int) = (i : Int) from Int.zero_add _]
      refine ⟨i, rfl, by omega, ?_⟩
      rw [many_of hi' (by omega)]
      have eb : (false ^^ (((manyF m i : Nat) : Int) == (k : Int))) = decide (manyF m i = k) := by
        rw [Bool.false_xor, Bool.eq_iff_iff]
        simp only [beq_iff_eq, decide_eq_true_eq]
        omega
      refine ite2 (fun e => ?_) (fun e => ?_)
      . have e' : manyF m i = k := of_decide_eq_true (eb ▸ e)
        refine ⟨rfl, ?_⟩
        rw [setL_succ, if_pos e', iL_app]
        rfl
      . have e' : ¬ manyF m i = k := fun z => e (eb.symm ▸ decide_eq_true z)
        refine ⟨rfl, ?_⟩
        rw [setL_succ, if_neg e', List.append_nil]
    . rintro ys H' ⟨rfl, rfl⟩ l hl
      rw [Int.toNat_natCast]
      exact q l _ hl (Same.upd hl) upd_same
def sp_lnear (K : W.Frag) : Sp := fun vs H Q _ => match vs with
  | [.ref tp, .int z] => ∃ (m k : Nat) (bs : List Bool), SqT K H tp (bs.map V.bl) /\ bs.length = 2 ^ m /\ m <= 6 /\ z = k /\ ∀ u H', Same H H' -> Rep K H' (nearD m k bs (nearN m k)) u -> Q u H'
  | _ => False
theorem sp_lnear_mono : SpMono (sp_lnear K) := fun vs H Q Q' E h q => by
  unfold sp_lnear at *
  split at q
  . revert q; repeat' first | exact h _ _ | exact newL_mono h | exact out_mono h | exact outT_mono h | walk_at "m"
  . exact q.elim
def foundAt (K : W.Frag) (H : Hp) (m k : Nat) (bs : List Bool) : Nat -> V -> Prop
  | 0, u => u = .non
  | i + 1, u => Rep K H (nearD m k bs i) u
theorem ok__law_nearest : FnOk P w K mg base CX0 3 T.f__law_nearest T.d__law_nearest ["_law_table_here", "_law_k"] (sp_lnear K) := by
  have G__law_sets := ok__law_sets (P := P) (w := w) (base := base) T; have G__law_best := ok__law_best (P := P) (w := w) (base := base) T
  refine T.F__law_nearest.ok sc__law_nearest (fun vs H Q E h => by unfold sp_lnear at h; split at h <;> first | rfl | exact h.elim) (fun cdv A outer s H vs Q E hr h => ?_)
  have hu := hu60 hr
  have mo1 : SpMono sp_sets := sp_sets_mono
  have mo2 : SpMono (sp_fbest K) := sp_fbest_mono
  have hr__law_sets := hr.mono (show 2 <= _ by decide); have hr__law_best := hr.mono (show 1 <= _ by decide)
  unfold sp_lnear at h
  split at h
  rotate_left
  . exact h.elim
  rename_i tp z
  obtain ⟨m, k, bs, ht, hb, m6, e1, q⟩ := h
  subst e1
  have h64 : 2 ^ m <= 64 := Nat.pow_le_pow_right (n := 2) (by decide) m6
  have hne := setL_ne m k
  have hbits := bits_pow m (by omega)
  refine ⟨_, (@pss_cons _ _ _ _ _ (@ps_set _ _ 2 _ _ _ _ sc__law_nearest.nd rfl (by walk_at "e") (@pe_non _ _ _) (by rfl) (by walk_at "i")) (@pss_cons _ _ _ _ _ (@ps_for _ _ _ _ _ _ _ _ PassesOwn.never rfl (@kSeq _ K _ _ _ (@pe_call _ _ _ _ _ _ _ _ _ _ _ _ _ _ _ _ G__law_sets hr__law_sets rfl T.m__law_sets T.F__law_sets.kp T.b__law_sets .nil pass0 (@pa_cons _ _ _ _ _ (@pe_op _ _ _ _ _ _ _ _ om_sub (@kBitlen _ K _ _ _ _ (@pe_callB _ _ _ _ _ _ _ _ _ (kLen (K := K)) rfl T.z_len (by rfl) (@pa1 _ _ _ (@vw _ 0 _ _ (by walk_at "v")) (by rfl)) (by decide) (by decide) (by rfl) (by rfl)) (by rfl) (by rfl) (by rfl)) (@pe_int _ _ _ _)) (@pa1 _ _ _ (@vw _ 1 _ _ (by walk_at "v")) (by rfl)) (by rfl)) (by decide) (by rfl) (by rfl)) (by rfl)) (@pg_name _ _ 3 _ sc__law_nearest.nd rfl (by walk_at "e") (by walk_at "i")) (@pss_cons _ _ _ _ _ (@ps_set _ _ 4 _ _ _ _ sc__law_nearest.nd rfl (by walk_at "e") (@pe_call _ _ _ _ _ _ _ _ _ _ _ _ _ _ _ _ G__law_best hr__law_best rfl T.m__law_best T.F__law_best.kp T.b__law_best .nil pass0 (@pa_cons _ _ _ _ _ (@vw _ 0 _ _ (by walk_at "v")) (@pa1 _ _ _ (@vw _ 3 _ _ (by walk_at "v")) (by rfl)) (by rfl)) (by decide) (by rfl) (by rfl)) (by rfl) (by walk_at "i")) (@pss_one _ _ _ (@ps_if _ _ _ _ _ _ _ _ (PW.pt (@pw_or _ _ _ _ _ _ _ (@tu_cmp _ _ _ _ _ _ _ _ om_is (@vw _ 2 _ _ (by walk_at "v")) (@pe_non _ _ _) (by walk_at "n")) (@pw_or1 _ _ _ _ (@tu_cmp _ _ _ _ _ _ _ _ om_lt (@kIx _ K _ _ _ _ _ (@vw _ 4 _ _ (by walk_at "v")) (@pe_int _ _ _ _) (by intro _ _; rfl) (by rfl)) (@kIx _ K _ _ _ _ _ (@vw _ 2 _ _ (by walk_at "v")) (@pe_int _ _ _ _) (by intro _ _; rfl) (by rfl)) (by walk_at "n"))))) (@pss_one _ _ _ (@ps_set _ _ 2 _ _ _ _ sc__law_nearest.nd rfl (by walk_at "e") (@vw _ 4 _ _ (by walk_at "v")) (by rfl) (by walk_at "i"))) (@pss_nil _)))) (by intro _; rfl)) (@pss_one _ _ _ (@ps_ret _ _ _ _ (@vw _ 2 _ _ (by walk_at "v")))))), ?_⟩
  refine seq_at (fun σ H' => σ = [some (.ref tp), some (.int k), some .non, none, none] /\ H = H') ⟨rfl, rfl⟩ ?_ (by walk_at "sm")
  rintro σ _ ⟨rfl, rfl⟩
  refine seq_at (fun σ H' => ∃ (u : V) (z3 z4 : Option V), σ = [some (.ref tp), some (.int k), some u, z3, z4] /\ Same H H' /\ foundAt K H' m k bs (setL m (min m k) (2 ^ m)).length u) ?_ ?_ (by walk_at "sm")
  . refine ⟨2 ^ m, .inr ⟨_, ht, by rw [List.length_map, hb]⟩, rfl, ?_⟩
    dsimp only [mBitlen, tC, mSub]
    rw [hbits]
    have : ((m + 1 : Nat) : Int) - 1 = (m : Int) := by omega
    rw [this]
    refine ⟨m, k, rfl, rfl, m6, fun l H1 hl s1 g1 => .inl ⟨⟨_, .of g1⟩, ?_⟩⟩
    have hmem : ∀ x ∈ setL m (min m k) (2 ^ m), x < 2 ^ m := fun x hx => setL_mem hx
    have hsl := setL_len m (min m k) (2 ^ m)
    generalize hS : setL m (min m k) (2 ^ m) = SS at *
    refine for_list (D := { nx := fun σ H' => ∃ (u : V) (z3 z4 : Option V), σ = [some (.ref tp), some (.int k), some u, z3, z4] /\ Same H H' /\ foundAt K H' m k bs SS.length u, rt := Q }) (xs := iL SS) (fun i σ H' => ∃ (u : V) (z3 z4 : Option V), σ = [some (.ref tp), some (.int k), some u, z3, z4] /\ Same H1 H' /\ foundAt K H' m k bs i u) ⟨.non, none, none, rfl, Same.refl _, rfl⟩ (fun i σ H' _ ⟨_, _, _, _, s, _⟩ => .of (s _ _ g1)) ?_ ?_
    . rintro i x σ H2 hx ⟨u, z3, z4, rfl, s2, hF⟩
      obtain ⟨o, ho, hm, rfl⟩ := iL_at hx
      have eo : (setL m (min m k) (2 ^ m)).getD i 0 = o := by rw [hS, List.getD_eq_getElem?_getD, ho]; rfl
      dsimp only [gName]
      refine ⟨m, o, bs, (s1.trans s2).sqT ht, hb, m6, rfl, hmem o hm, fun u3 H3 s3 r3 => ?_⟩
      cases i with
      | zero =>
        have hu0 : u = .non := hF
        subst hu0
        dsimp only [gName]
        refine if_val true ?_ ?_
        . exact fun Q q => q
        refine iteT ⟨u3, _, _, rfl, s2.trans s3, ?_⟩
        show Rep K H3 (nearD m k bs 0) u3
        unfold nearD nearO pickI
        rw [eo]; exact r3
      | succ i =>
        have hF' : Rep K H2 (nearD m k bs i) u := hF
        have hF3 := Rep.same s3 _ _ hF'
        have r3' := r3
        unfold nearD at hF3
        obtain ⟨b, x, e1, e2⟩ := best_at hF3
        obtain ⟨b3, x3, e3, e4⟩ := best_at r3
        subst e1 e3
        have eg : nearG m k bs (i + 1) = ((difL (bestB m (wt m (valF bs)) o) bs (2 ^ m)).length : Nat) := by unfold nearG distO; rw [eo]
        have eg2 : nearG m k bs (pickI (nearG m k bs) i) = ((difL (bestB m (wt m (valF bs)) (nearO m k bs i)) bs (2 ^ m)).length : Nat) := by unfold nearG distO nearO; rfl
        dsimp only [gName]
        refine if_val (decide (nearG m k bs (i + 1) < nearG m k bs (pickI (nearG m k bs) i))) ?_ ?_
        . exact fun Q q => ⟨_, _, .inr e4, atI_of (n := 1) rfl rfl, _, _, .inr e2, atI_of (n := 1) rfl rfl, by rw [eg, eg2] at q; exact q⟩
        refine ite2 (fun e => ?_) (fun e => ?_)
        . have e' : nearG m k bs (i + 1) < nearG m k bs (pickI (nearG m k bs) i) := of_decide_eq_true e
          refine ⟨.ref b3, _, _, rfl, s2.trans s3, ?_⟩
          show Rep K H3 (nearD m k bs (i + 1)) (.ref b3)
          unfold nearD nearO pickI
          rw [if_pos e', eo]; exact r3'
        . have e' : ¬ nearG m k bs (i + 1) < nearG m k bs (pickI (nearG m k bs) i) := fun z => e (decide_eq_true z)
          refine ⟨.ref b, _, _, rfl, s2.trans s3, ?_⟩
          show Rep K H3 (nearD m k bs (i + 1)) (.ref b)
          unfold nearD nearO pickI
          rw [if_neg e']
          unfold nearO at hF3
          exact hF3
    . rintro σ H2 ⟨u, z3, z4, rfl, s2, hF⟩
      rw [iL_len] at hF
      exact ⟨u, z3, z4, rfl, s1.trans s2, hF⟩
  . rintro σ H2 ⟨u, z3, z4, rfl, s2, hF⟩
    refine q u H2 s2 ?_
    unfold nearN
    generalize (setL m (min m k) (2 ^ m)).length = n at *
    cases n with
    | zero => omega
    | succ n => exact hF
structure RsAt (o i : Nat) (rs : List Nat) : Prop where
  nd : rs.Nodup
  has : ∀ p, p < i -> (p &&& o) ∈ rs
  only : ∀ r ∈ rs, ∃ p, p < i /\ p &&& o = r
  len : rs.length <= i
theorem dif_sum (as bs : List Bool) : ∀ n, sumTo (fun p => valF as p * valF bs p) n = (n : Int) - 2 * ((difL as bs n).length : Nat)
  | 0 => rfl
  | n + 1 => by
    show sumTo (fun p => valF as p * valF bs p) n + valF as n * valF bs n = _
    rw [dif_sum as bs n, difL_succ, List.length_append]
    have e : valF as n * valF bs n = if (gB as n != gB bs n) = true then -1 else 1 := by
      have h1 : valF as n = if gB as n = true then -1 else 1 := rfl
      have h2 : valF bs n = if gB bs n = true then -1 else 1 := rfl
      rw [h1, h2]
      cases gB as n <;> cases gB bs n <;> rfl
    rw [e]
    split
    . simp; omega
    . simp; omega
theorem near_in (m k : Nat) (bs : List Bool) : nearO m k bs (nearN m k) ∈ setL m (min m k) (2 ^ m) := by
  have hne := setL_ne m k
  have hl := pickI_le (nearG m k bs) (nearN m k)
  unfold nearO
  unfold nearN at *
  have hlt : pickI (nearG m k bs) ((setL m (min m k) (2 ^ m)).length - 1) < (setL m (min m k) (2 ^ m)).length := by omega
  rw [List.getD_eq_getElem?_getD, List.getElem?_eq_getElem hlt]
  exact List.getElem_mem hlt
theorem xor_and_off {p o i : Nat} (h : o.testBit i = false) : (p ^^^ 2 ^ i) &&& o = p &&& o := by
  refine Nat.eq_of_testBit_eq fun j => ?_
  rw [Nat.testBit_and, Nat.testBit_and, Nat.testBit_xor, Nat.testBit_two_pow]
  by_cases e : i = j
  . subst e; rw [h, Bool.and_false, Bool.and_false]
  . rw [decide_eq_false e, Bool.xor_false]
theorem best_off {m o i : Nat} {bs : List Bool} (ho : o < 2 ^ m) (hi : i < m) (h : o.testBit i = false) : cntS (bestB m (wt m (valF bs)) o) m i = 0 := by
  have hg : ∀ p, p < 2 ^ m -> gB (bestB m (wt m (valF bs)) o) p = decide (setTo (valF bs) o (2 ^ m) (p &&& o) < 0) := fun p hp => by
    rw [best_set ho]
    unfold gB
    simp [List.getD_eq_getElem?_getD, hp]
  unfold cntS matL
  rw [List.length_eq_zero_iff, List.filter_eq_nil_iff]
  intro p hp
  have hp' := List.mem_range.mp hp
  have hx : p ^^^ 2 ^ i < 2 ^ m := Nat.xor_lt_two_pow hp' (Nat.pow_lt_pow_right (by decide) hi)
  unfold matF
  rw [hg p hp', hg _ hx, xor_and_off h]
  simp
theorem if_same {c : TT} {t u : TS} {D : Ends} {σ : St} {H : Hp} (b : Bool) (hc : ∀ Q : Bool -> Hp -> Prop, (∀ H', Same H H' -> Q b H') -> c σ H Q) (h : ∀ H', Same H H' -> if b = true then t D σ H' else u D σ H') : tIfS c t u D σ H := hc _ h
def seenO (ts : List (Nat × Int)) (o : Nat) : Int := addT (fun k w => if k &&& o = k then w * w else 0) ts
def inO (m : Nat) (ts : List (Nat × Int)) (o : Nat) : Bool := (darkL m ts (2 ^ m)).any fun k => decide (k &&& o = k)
def mostT (m : Nat) (ts : List (Nat × Int)) (o : Nat) : Int := if inO m ts o = true then seenO ts o + restT m ts else seenO ts o
theorem Gl.seen {m : Nat} {ts : List (Nat × Int)} (G : Gl m ts) (o : Nat) : 0 <= seenO ts o /\ seenO ts o <= 262144 := by
  have h := addT_range (f := fun k w => if k &&& o = k then w * w else 0) (ts := ts) fun q hq => by
    have := sq_b (G.ok q hq).2
    show 0 <= (if q.1 &&& o = q.1 then q.2 * q.2 else 0) /\ (if q.1 &&& o = q.1 then q.2 * q.2 else 0) <= 4096
    split <;> omega
  have := G.len
  unfold seenO
  omega
def sp_most (K : W.Frag) : Sp := fun vs H Q _ => match vs with
  | [x0, .int z] => ∃ (m o : Nat) (ts : List (Nat × Int)), SumAt K H x0 m ts /\ Gl m ts /\ z = o /\ ∀ H', Same H H' -> Q (.int (mostT m ts o)) H'
  | _ => False
theorem sp_most_mono : SpMono (sp_most K) := fun vs H Q Q' E h q => by
  unfold sp_most at *
  split at q
  . revert q; repeat' first | exact h _ _ | exact newL_mono h | exact out_mono h | exact outT_mono h | walk_at "m"
  . exact q.elim
theorem ok_most_squares_within : FnOk P w K mg base CX0 4 T.f_most_squares_within T.d_most_squares_within ["glance", "outer"] (sp_most K) := by
  have G_within := ok_within (P := P) (w := w) (base := base) T; have G_rest_of := ok_rest_of (P := P) (w := w) (base := base) T; have G_untold_sets := ok_untold_sets (P := P) (w := w) (base := base) T
  refine T.F_most_squares_within.ok sc_most_squares_within (fun vs H Q E h => by unfold sp_most at h; split at h <;> first | rfl | exact h.elim) (fun cdv A outer s H vs Q E hr h => ?_)
  have hu := hu60 hr
  have mo1 : SpMono (sp_rest K) := sp_rest_mono
  have mo2 : SpMono (sp_dark K) := sp_dark_mono
  have mo3 : SpMono sp_within := sp_within_mono
  have hr_within := hr.mono (show 1 <= _ by decide); have hr_rest_of := hr.mono (show 3 <= _ by decide); have hr_untold_sets := hr.mono (show 3 <= _ by decide)
  unfold sp_most at h
  split at h
  rotate_left
  . exact h.elim
  rename_i x0 z
  obtain ⟨m, o, ts, S, G, e1, q⟩ := h
  subst e1
  obtain ⟨a, b, us, rfl, ha, hb, hR⟩ := id S.at_
  have hul : us.length = ts.length := by have := hR.length; rw [List.length_map] at this; omega
  have htl := G.len
  have hm := G.m6
  have h64 : 2 ^ m <= 64 := Nat.pow_le_pow_right (n := 2) (by decide) hm.2
  have hdl := darkL_len m ts (2 ^ m)
  refine ⟨_, (@pss_cons _ _ _ _ _ (@ps_set _ _ 2 _ _ _ _ sc_most_squares_within.nd rfl (by walk_at "e") (@pe_callB _ _ _ _ _ _ _ _ _ (kSum (K := K) rfl) rfl T.z_sum (by rfl) (@pa1 _ _ _ (@pe_compB _ _ _ _ _ _ _ (["subset", "weight", "outer"]) 2 [1] _ _ _ _ rfl (@kSeq _ K _ _ _ (@kIx _ K _ _ _ _ _ (@vw _ 0 _ _ (by walk_at "v")) (@pe_int _ _ _ _) (by intro _ _; rfl) (by rfl)) (by rfl)) (by kernel_rfl) rfl rfl (by kernel_rfl) (fun c => @kTup _ K _ _ _ _ 2 rfl (@pgs_cons _ _ _ _ _ (@pg_name _ _ 0 _ (show (["subset", "weight", "outer"] : List Str).Nodup by decide +kernel) rfl (by walk_at "e") (by walk_at "i")) (@pgs_cons _ _ _ _ _ (@pg_name _ _ 1 _ (show (["subset", "weight", "outer"] : List Str).Nodup by decide +kernel) rfl (by walk_at "e") (by walk_at "i")) (@pgs_nil _) (by rfl)) (by rfl)) (by rfl) (by rfl) (by rfl)) (go_tup (gos_cons gm_name (gms_cons gm_name gms_nil) (go_name (by decide)) (gos_cons gm_name gms_nil (go_name (by decide)) gos_nil))) (fun c => @pts_one _ _ _ (@tu_val _ _ _ (@pe_call _ _ _ _ _ _ _ _ _ _ _ _ _ _ _ _ G_within hr_within rfl T.m_within T.F_within.kp T.b_within .nil pass0 (@pa_cons _ _ _ _ _ (@vw _ 0 _ _ (by walk_at "v")) (@pa1 _ _ _ (@vw _ 2 _ _ (by walk_at "v")) (by rfl)) (by rfl)) (by decide) (by rfl) (by rfl)) (by intro _; rfl))) (fun c => (@pe_op _ _ _ _ _ _ _ _ om_mul (@vw _ 1 _ _ (by walk_at "v")) (@vw _ 1 _ _ (by walk_at "v")))) (by intro _; rfl)) (by rfl)) (by decide) (by decide) (by rfl) (by rfl)) (by rfl) (by walk_at "i")) (@pss_cons _ _ _ _ _ (@ps_if _ _ _ _ _ _ _ _ (@tu_val _ _ _ (@pe_callB _ _ _ _ _ _ _ _ _ (kAny (K := K) rfl) rfl T.z_any (by rfl) (@pa1 _ _ _ (@pe_compB _ _ _ _ _ _ _ (["subset", "outer"]) 1 [1] _ _ _ _ rfl (@kSeq _ K _ _ _ (@pe_call _ _ _ _ _ _ _ _ _ _ _ _ _ _ _ _ G_untold_sets hr_untold_sets rfl T.m_untold_sets T.F_untold_sets.kp T.b_untold_sets .nil pass0 (@pa1 _ _ _ (@vw _ 0 _ _ (by walk_at "v")) (by rfl)) (by decide) (by rfl) (by rfl)) (by rfl)) (by kernel_rfl) rfl rfl (by kernel_rfl) (fun c => @pg_name _ _ 0 _ (show (["subset", "outer"] : List Str).Nodup by decide +kernel) rfl (by walk_at "e") (by walk_at "i")) (go_name (by decide)) (fun c => @pts_nil _) (fun c => (@pe_call _ _ _ _ _ _ _ _ _ _ _ _ _ _ _ _ G_within hr_within rfl T.m_within T.F_within.kp T.b_within .nil pass0 (@pa_cons _ _ _ _ _ (@vw _ 0 _ _ (by walk_at "v")) (@pa1 _ _ _ (@vw _ 1 _ _ (by walk_at "v")) (by rfl)) (by rfl)) (by decide) (by rfl) (by rfl))) (by intro _; rfl)) (by rfl)) (by decide) (by decide) (by rfl) (by rfl)) (by intro _; rfl)) (@pss_one _ _ _ (@ps_ret _ _ _ _ (@pe_op _ _ _ _ _ _ _ _ (kAdd (K := K)) (@vw _ 2 _ _ (by walk_at "v")) (@pe_call _ _ _ _ _ _ _ _ _ _ _ _ _ _ _ _ G_rest_of hr_rest_of rfl T.m_rest_of T.F_rest_of.kp T.b_rest_of .nil pass0 (@pa1 _ _ _ (@vw _ 0 _ _ (by walk_at "v")) (by rfl)) (by decide) (by rfl) (by rfl))))) (@pss_nil _)) (@pss_one _ _ _ (@ps_ret _ _ _ _ (@vw _ 2 _ _ (by walk_at "v")))))), ?_⟩
  refine seq_at (fun σ H' => σ = [some (.ref a), some (.int (o : Int)), some (.int (seenO ts o))] /\ Same H H') ?_ ?_ (by walk_at "sm")
  . refine ⟨_, .ref b, .inr ha, rfl, .inr ⟨⟨_, hb⟩, ?_⟩⟩
    let f : Nat -> Int -> List Int := fun k w => if k &&& o = k then [w * w] else []
    have fl : ∀ k w, (f k w).length <= 1 := fun k w => by show (if k &&& o = k then [w * w] else []).length <= 1; split <;> simp
    refine comp_tup (xs := us) (fun i ys H' => H' = H /\ ys = (foldT f (ts.take i)).map V.int) ⟨rfl, rfl⟩ (fun i ys H' _ ⟨e, _⟩ => by rw [e]; exact hb) (fun i ys H' hi ⟨_, e⟩ => by
      have := foldT_len fl (ts.take i)
      rw [List.length_take] at this
      rw [e, List.length_map]; exact small1000 (by omega)) ?_ ?_
    . rintro i x ys H' hx ⟨rfl, rfl⟩
      obtain ⟨⟨k, wgt⟩, c, hq, rfl, hc⟩ := reps_terms_at hR hx
      have hgk : -64 <= wgt /\ wgt <= 64 := (G.ok _ (List.mem_of_getElem? hq)).2
      refine ⟨c, _, rfl, hc, rfl, _, _, rfl, _, _, rfl, rfl, k, o, rfl, rfl, ?_⟩
      refine ite2 (fun e => ?_) (fun e => ?_)
      . have e := of_decide_eq_true e
        refine ⟨.inr (.inl ⟨by omega, by omega⟩), rfl, ?_⟩
        rw [foldT_take hq, List.map_append]
        show _ = _ ++ (if k &&& o = k then [wgt * wgt] else []).map V.int
        rw [if_pos e]
        rfl
      . have e : ¬ k &&& o = k := fun z => e (decide_eq_true z)
        refine ⟨rfl, ?_⟩
        rw [foldT_take hq, List.map_append]
        show _ = _ ++ (if k &&& o = k then [wgt * wgt] else []).map V.int
        rw [if_neg e, List.map_nil, List.append_nil]
    . rintro ys H' ⟨rfl, rfl⟩ lp hlp
      rw [List.take_of_length_le (by omega)]
      refine ⟨_, .of upd_same, ?_⟩
      rw [foldT_sum]
      have es : addT (fun k w => (f k w).sum) ts = seenO ts o := by
        unfold seenO
        congr 1
        funext k w
        show ((if k &&& o = k then [w * w] else []) : List Int).sum = _
        split <;> simp
      rw [es]
      exact ⟨rfl, Same.upd hlp⟩
  rintro σ H1 ⟨rfl, s1⟩
  unfold mostT at q
  refine seq_at (fun σ H' => σ = [some (.ref a), some (.int (o : Int)), some (.int (seenO ts o))] /\ Same H H' /\ inO m ts o = false) ?_ ?_ (by walk_at "sm")
  . refine if_same (inO m ts o) ?_ ?_
    . intro Q q
      refine ⟨m, ts, S.same s1, G, fun l H2 nl s2 g2 => .inl ⟨⟨_, .of g2⟩, ?_⟩⟩
      have hmem := fun {k : Nat} (h : k ∈ darkL m ts (2 ^ m)) => (darkL_mem.mp h).1
      unfold inO at q
      generalize darkL m ts (2 ^ m) = ds at *
      refine comp_list (xs := iL ds) (fun i ys H' => H' = H2 /\ ys = ((ds.take i).map fun k => decide (k &&& o = k)).map V.bl) ⟨rfl, rfl⟩ (fun i ys H' _ ⟨e, _⟩ => by rw [e]; exact .of g2) (fun i ys H' hi ⟨_, e⟩ => by
        rw [iL_len] at hi
        rw [e, List.length_map, List.length_map, List.length_take]; exact small1000 (by omega)) ?_ ?_
      . rintro i x ys H' hx ⟨rfl, rfl⟩
        obtain ⟨k, hk, hkm, rfl⟩ := iL_at hx
        refine ⟨k, o, rfl, rfl, rfl, ?_⟩
        rw [List.take_add_one, hk, List.map_append, List.map_append]
        rfl
      . rintro ys H' ⟨rfl, rfl⟩ lp hlp
        rw [iL_len, List.take_length]
        refine ⟨_, .of upd_same, ?_⟩
        rw [List.any_map]
        exact q _ (s2.trans (Same.upd hlp))
    . intro H2 s2
      refine ite2 (fun e => ?_) (fun e => ⟨rfl, s1.trans s2, by simpa using e⟩)
      rw [e] at q
      exact ⟨m, ts, S.same (s1.trans s2), G, fun H3 s3 => q _ ((s1.trans s2).trans s3)⟩
  rintro σ H2 ⟨rfl, s2, e⟩
  rw [e] at q
  exact q _ s2
theorem Gl.most {m : Nat} {ts : List (Nat × Int)} (G : Gl m ts) (hr : 0 <= restT m ts) (o : Nat) : 0 <= mostT m ts o := by
  have := G.seen o
  unfold mostT
  split <;> omega
def sp_difl (K : W.Frag) : Sp := fun vs H Q _ => match vs with
  | [x0, .int z] => ∃ (m k : Nat) (ts : List (Nat × Int)), SumAt K H x0 m ts /\ Gl m ts /\ 0 <= restT m ts /\ z = k /\ ∀ (d : Nat) (gr : Int) H', Same H H' -> (∀ o ∈ setL m (min m k) (2 ^ m), mostT m ts o <= gr) -> (∃ o ∈ setL m (min m k) (2 ^ m), mostT m ts o = gr) -> (∀ d' : Nat, d' < d -> gr < (((2 ^ m : Nat) : Int) - 2 * d') * (((2 ^ m : Nat) : Int) - 2 * d')) -> (((2 ^ m : Nat) : Int) - 2 * d) * (((2 ^ m : Nat) : Int) - 2 * d) <= gr -> 2 * d <= 2 ^ m -> Q (.int d) H'
  | _ => False
theorem sp_difl_mono : SpMono (sp_difl K) := fun vs H Q Q' E h q => by
  unfold sp_difl at *
  split at q
  . revert q; repeat' first | exact h _ _ | exact newL_mono h | exact out_mono h | exact outT_mono h | walk_at "m"
  . exact q.elim
theorem ok_differ_at_least : FnOk P w K mg base CX0 5 T.f_differ_at_least T.d_differ_at_least ["glance", "k"] (sp_difl K) := by
  have G_two_to := ok_two_to (P := P) (w := w) (base := base) T; have G_most_squares_within := ok_most_squares_within (P := P) (w := w) (base := base) T; have G_sets_of := ok_sets_of (P := P) (w := w) (base := base) T
  refine T.F_differ_at_least.ok sc_differ_at_least (fun vs H Q E h => by unfold sp_difl at h; split at h <;> first | rfl | exact h.elim) (fun cdv A outer s H vs Q E hr h => ?_)
  have hu := hu60 hr
  have mo1 : SpMono (sp_most K) := sp_most_mono
  have mo2 : SpMono sp_sets := sp_sets_mono
  have hr_two_to := hr.mono (show 2 <= _ by decide); have hr_most_squares_within := hr.mono (show 4 <= _ by decide); have hr_sets_of := hr.mono (show 3 <= _ by decide)
  unfold sp_difl at h
  split at h
  rotate_left
  . exact h.elim
  rename_i x0 z
  obtain ⟨m, k, ts, S, G, hr0, e1, q⟩ := h
  subst e1
  obtain ⟨a, b, us, rfl, ha, hb, hR⟩ := id S.at_
  have hm := G.m6
  have h64 : 2 ^ m <= 64 := Nat.pow_le_pow_right (n := 2) (by decide) hm.2
  have i1 : ((2 ^ m : Nat) : Int) <= 64 := Int.ofNat_le.mpr h64
  have hsl := setL_len m (min m k) (2 ^ m)
  have hsn := setL_ne m k
  have hev : 2 ^ m % 2 = 0 := by
    obtain ⟨j, rfl⟩ : ∃ j, m = j + 1 := ⟨m - 1, by omega⟩
    rw [Nat.pow_succ]
    omega
  refine ⟨_, (@pss_cons _ _ _ _ _ (@ps_set _ _ 2 _ _ _ _ sc_differ_at_least.nd rfl (by walk_at "e") (@pe_callB _ _ _ _ _ _ _ _ _ (kMaxL (K := K) rfl) rfl T.z_max (by rfl) (@pa1 _ _ _ (@pe_compB _ _ _ _ _ _ _ (["outer", "glance"]) 1 [0] _ _ _ _ rfl (@kSeq _ K _ _ _ (@pe_call _ _ _ _ _ _ _ _ _ _ _ _ _ _ _ _ G_sets_of hr_sets_of rfl T.m_sets_of T.F_sets_of.kp T.b_sets_of .nil pass0 (@pa_cons _ _ _ _ _ (@kIx _ K _ _ _ _ _ (@vw _ 0 _ _ (by walk_at "v")) (@pe_int _ _ _ _) (by intro _ _; rfl) (by rfl)) (@pa1 _ _ _ (@vw _ 1 _ _ (by walk_at "v")) (by rfl)) (by rfl)) (by decide) (by rfl) (by rfl)) (by rfl)) (by kernel_rfl) rfl rfl (by kernel_rfl) (fun c => @pg_name _ _ 0 _ (show (["outer", "glance"] : List Str).Nodup by decide +kernel) rfl (by walk_at "e") (by walk_at "i")) (go_name (by decide)) (fun c => @pts_nil _) (fun c => (@pe_call _ _ _ _ _ _ _ _ _ _ _ _ _ _ _ _ G_most_squares_within hr_most_squares_within rfl T.m_most_squares_within T.F_most_squares_within.kp T.b_most_squares_within .nil pass0 (@pa_cons _ _ _ _ _ (@vw _ 1 _ _ (by walk_at "v")) (@pa1 _ _ _ (@vw _ 0 _ _ (by walk_at "v")) (by rfl)) (by rfl)) (by decide) (by rfl) (by rfl))) (by intro _; rfl)) (by rfl)) (by decide) (by decide) (by rfl) (by rfl)) (by rfl) (by walk_at "i")) (@pss_cons _ _ _ _ _ (@ps_set _ _ 3 _ _ _ _ sc_differ_at_least.nd rfl (by walk_at "e") (@pe_call _ _ _ _ _ _ _ _ _ _ _ _ _ _ _ _ G_two_to hr_two_to rfl T.m_two_to T.F_two_to.kp T.b_two_to .nil pass0 (@pa1 _ _ _ (@kIx _ K _ _ _ _ _ (@vw _ 0 _ _ (by walk_at "v")) (@pe_int _ _ _ _) (by intro _ _; rfl) (by rfl)) (by rfl)) (by decide) (by rfl) (by rfl)) (by rfl) (by walk_at "i")) (@pss_cons _ _ _ _ _ (@ps_set _ _ 4 _ _ _ _ sc_differ_at_least.nd rfl (by walk_at "e") (@pe_int _ _ _ _) (by rfl) (by walk_at "i")) (@pss_cons _ _ _ _ _ (@ps_whileM _ _ _ _ _ _ PassesOwn.never (@tu_cmp _ _ _ _ _ _ _ _ om_gt (@pe_op _ _ _ _ _ _ _ _ om_mul (@vw _ 3 _ _ (by walk_at "v")) (@vw _ 3 _ _ (by walk_at "v"))) (@vw _ 2 _ _ (by walk_at "v")) (by walk_at "n")) (@pss_cons _ _ _ _ _ (@ps_set _ _ 3 _ _ _ _ sc_differ_at_least.nd rfl (by walk_at "e") (@pe_op _ _ _ _ _ _ _ _ om_sub (@vw _ 3 _ _ (by walk_at "v")) (@pe_int _ _ _ _)) (by rfl) (by walk_at "i")) (@pss_one _ _ _ (@ps_set _ _ 4 _ _ _ _ sc_differ_at_least.nd rfl (by walk_at "e") (@pe_op _ _ _ _ _ _ _ _ (kAdd (K := K)) (@vw _ 4 _ _ (by walk_at "v")) (@pe_int _ _ _ _)) (by rfl) (by walk_at "i"))))) (@pss_one _ _ _ (@ps_ret _ _ _ _ (@vw _ 4 _ _ (by walk_at "v")))))))), ?_⟩
  refine seq_at (fun σ H' => ∃ gr : Int, σ = [some (.ref a), some (.int (k : Int)), some (.int gr), none, none] /\ Same H H' /\ (∀ o ∈ setL m (min m k) (2 ^ m), mostT m ts o <= gr) /\ ∃ o ∈ setL m (min m k) (2 ^ m), mostT m ts o = gr) ?_ ?_ (by walk_at "sm")
  . refine ⟨_, .int m, .inr ha, rfl, m, k, rfl, rfl, hm.2, fun ls H1 hls s1 g1 => .inl ⟨⟨_, .of g1⟩, ?_⟩⟩
    generalize setL m (min m k) (2 ^ m) = ss at *
    refine comp_list (xs := iL ss) (fun i ys H' => Same H1 H' /\ ys = ((ss.take i).map (mostT m ts)).map V.int) ⟨Same.refl _, rfl⟩ (fun i ys H' _ ⟨s, _⟩ => .of (s _ _ g1)) (fun i ys H' hi ⟨_, e⟩ => by
      rw [iL_len] at hi
      rw [e, List.length_map, List.length_map, List.length_take]; exact small1000 (by omega)) ?_ ?_
    . rintro i x ys H' hx ⟨s2, rfl⟩
      obtain ⟨o, ho, hom, rfl⟩ := iL_at hx
      refine ⟨m, o, ts, S.same (s1.trans s2), G, rfl, fun H3 s3 => ⟨s2.trans s3, ?_⟩⟩
      rw [List.take_add_one, ho, List.map_append, List.map_append]
      rfl
    . rintro ys H' ⟨s2, rfl⟩ lp hlp
      rw [iL_len, List.take_length]
      refine ⟨_, .of upd_same, by rw [List.length_map]; exact hsn, fun M hM hmax => ⟨M, rfl, s1.trans (s2.trans (Same.upd hlp)), fun o ho => hmax _ (List.mem_map.mpr ⟨o, ho, rfl⟩), ?_⟩⟩
      obtain ⟨o, ho, e⟩ := List.mem_map.mp hM
      exact ⟨o, ho, e⟩
  rintro σ H1 ⟨gr, rfl, s1, hgr, o, ho, eo⟩
  have hg0 : 0 <= gr := by rw [<- eo]; exact G.most hr0 o
  refine ⟨_, .int m, .inr (s1.sqT ha), rfl, m, rfl, by omega, ?_⟩
  dsimp only [gName]
  refine seq_at (fun σ H' => σ = [some (.ref a), some (.int (k : Int)), some (.int gr), some (.int ((2 ^ m : Nat) : Int)), some (.int 0)] /\ H1 = H') ⟨rfl, rfl⟩ ?_ (by walk_at "sm")
  rintro σ _ ⟨rfl, rfl⟩
  refine ⟨fun n σ H' => ∃ d : Nat, σ = [some (.ref a), some (.int (k : Int)), some (.int gr), some (.int (((2 ^ m : Nat) : Int) - 2 * d)), some (.int d)] /\ H' = H1 /\ 2 * d <= 2 ^ m /\ (∀ d' : Nat, d' < d -> gr < (((2 ^ m : Nat) : Int) - 2 * d') * (((2 ^ m : Nat) : Int) - 2 * d')) /\ n = 2 ^ m - 2 * d, ⟨_, 0, by simp, rfl, by omega, fun d' h => by omega, rfl⟩, ?_⟩
  rintro n σ H' ⟨d, rfl, rfl, hd, hall, rfl⟩
  refine ⟨.inr (.inl ⟨by omega, by omega⟩), ?_⟩
  refine ite2 (fun e => ?_) (fun e => ?_)
  . have e : gr < (((2 ^ m : Nat) : Int) - 2 * d) * (((2 ^ m : Nat) : Int) - 2 * d) := of_decide_eq_true e
    have hlt : 2 * d < 2 ^ m := by
      rcases Nat.lt_or_ge (2 * d) (2 ^ m) with z | z
      . exact z
      . have z0 : ((2 ^ m : Nat) : Int) - 2 * d = 0 := by omega
        rw [z0] at e
        omega
    have e1 : ((2 ^ m : Nat) : Int) - 2 * (d : Int) - 2 = ((2 ^ m : Nat) : Int) - 2 * ((d + 1 : Nat) : Int) := by omega
    refine ⟨2 ^ m - 2 * (d + 1), by omega, d + 1, ?_, rfl, by omega, fun d' hd' => ?_, rfl⟩
    . rw [<- e1]
      rfl
    . rcases Nat.lt_or_ge d' d with z | z
      . exact hall d' z
      . have : d' = d := by omega
        subst this
        exact e
  . have e : ¬ gr < (((2 ^ m : Nat) : Int) - 2 * d) * (((2 ^ m : Nat) : Int) - 2 * d) := fun z => e (decide_eq_true z)
    exact q d gr _ s1 hgr ⟨o, ho, eo⟩ hall (by omega) hd
theorem sh_frac {x y : Int} (hy : 0 < y) : shT x y * y = x * shB x y /\ 0 < shB x y := by
  have hg : 0 < (x.gcd y : Int) := by
    have : x.gcd y ≠ 0 := fun e => by
      have := (Int.gcd_eq_zero_iff.mp e).2
      omega
    omega
  obtain ⟨a, ea⟩ := Int.gcd_dvd_left (a := x) (b := y)
  obtain ⟨b, eb⟩ := Int.gcd_dvd_right (a := x) (b := y)
  have e1 : shT x y = a := by
    unfold shT
    conv => lhs; lhs; rw [ea]
    exact Int.mul_ediv_cancel_left _ (by omega)
  have e2 : shB x y = b := by
    unfold shB
    conv => lhs; lhs; rw [eb]
    exact Int.mul_ediv_cancel_left _ (by omega)
  rw [e1, e2]
  generalize (x.gcd y : Int) = g at *
  refine ⟨by rw [eb, ea]; ac_rfl, ?_⟩
  rw [eb] at hy
  exact Int.pos_of_mul_pos_right hy (by omega)
theorem sq_four (n : Nat) (bs : List Bool) : sumTo (fun j => wt n (valF bs) j * wt n (valF bs) j) (2 ^ n) = ((2 ^ n : Nat) : Int) * ((2 ^ n : Nat) : Int) := by
  rw [wt_mul]
  congr 1
  rw [sumTo_congr (g := fun _ => 1) fun x _ => by unfold valF valB; cases bs.getD x false <;> rfl, sumTo_const, Int.mul_one]
theorem sum_sqs (a b : Nat -> Int) (B C : Int) : ∀ N, sumTo (fun i => (a i * B - b i * C) * (a i * B - b i * C)) N = B * B * sumTo (fun i => a i * a i) N - 2 * B * C * sumTo (fun i => a i * b i) N + C * C * sumTo (fun i => b i * b i) N
  | 0 => by show (0 : Int) = B * B * 0 - 2 * B * C * 0 + C * C * 0; simp
  | n + 1 => by
    show sumTo _ n + (a n * B - b n * C) * (a n * B - b n * C) = B * B * (sumTo (fun i => a i * a i) n + a n * a n) - 2 * B * C * (sumTo (fun i => a i * b i) n + a n * b n) + C * C * (sumTo (fun i => b i * b i) n + b n * b n)
    rw [sum_sqs a b B C n]
    grind
theorem sq_nn (x : Int) : 0 <= x * x := by
  rcases Int.le_total 0 x with h | h
  . exact Int.mul_nonneg h h
  . exact Int.mul_nonneg_of_nonpos_of_nonpos h h
theorem sums_nn {f : Nat -> Int} (h : ∀ j, 0 <= f j) : ∀ n, 0 <= sumTo f n
  | 0 => Int.le_refl _
  | n + 1 => by
    have := sums_nn h n
    have := h n
    show 0 <= sumTo f n + f n
    omega
theorem cauchy (a b : Nat -> Int) (N : Nat) (h : 0 < sumTo (fun i => b i * b i) N) : sumTo (fun i => a i * b i) N * sumTo (fun i => a i * b i) N <= sumTo (fun i => a i * a i) N * sumTo (fun i => b i * b i) N := by
  have e := sum_sqs a b (sumTo (fun i => b i * b i) N) (sumTo (fun i => a i * b i) N) N
  have p := sums_nn (f := fun i => (a i * sumTo (fun i => b i * b i) N - b i * sumTo (fun i => a i * b i) N) * (a i * sumTo (fun i => b i * b i) N - b i * sumTo (fun i => a i * b i) N)) (fun j => sq_nn _) N
  rw [e] at p
  generalize sumTo (fun i => a i * a i) N = A at *
  generalize sumTo (fun i => b i * b i) N = B at *
  generalize sumTo (fun i => a i * b i) N = C at *
  have e2 : B * B * A - 2 * B * C * C + C * C * B = B * (A * B - C * C) := by grind
  rw [e2] at p
  have := Int.nonneg_of_mul_nonneg_right p h
  omega
theorem range_sum (f : Nat -> Int) : ∀ n, ((List.range n).map f).sum = sumTo f n
  | 0 => rfl
  | n + 1 => by
    rw [List.range_succ, List.map_append, List.sum_append, range_sum f n]
    show sumTo f n + (f n + 0) = sumTo f n + f n
    rw [Int.add_zero]
theorem best_wt0 {m o S : Nat} {bs : List Bool} (ho : o < 2 ^ m) (hS : S < 2 ^ m) (h : S &&& o ≠ S) : wt m (valF (bestB m (wt m (valF bs)) o)) S = 0 := by
  by_cases e : wt m (valF (bestB m (wt m (valF bs)) o)) S = 0
  . exact e
  . refine absurd (Nat.eq_of_testBit_eq fun i => ?_) h
    rw [Nat.testBit_and]
    cases hb : S.testBit i with
    | false => rfl
    | true =>
      have hi : i < m := by
        rcases Nat.lt_or_ge i m with z | z
        . exact z
        . have : S < 2 ^ i := Nat.lt_of_lt_of_le hS (Nat.pow_le_pow_right (by decide) z)
          rw [Nat.testBit_lt_two_pow this] at hb
          cases hb
      have hc := (cnt_pos (bestB m (wt m (valF bs)) o) hi).mpr ⟨S, hS, e, hb⟩
      cases ho2 : o.testBit i with
      | true => rfl
      | false =>
        have := best_off (bs := bs) ho hi ho2
        omega
theorem weigh {m o : Nat} {bs : List Bool} (ho : o < 2 ^ m) : (((2 ^ m : Nat) : Int) - 2 * (distO m bs o : Nat)) * (((2 ^ m : Nat) : Int) - 2 * (distO m bs o : Nat)) <= ((List.range (2 ^ m)).map fun s => inF (wt m (valF bs)) o s * inF (wt m (valF bs)) o s).sum := by
  rw [range_sum]
  have h1 : sumTo (fun s => inF (wt m (valF bs)) o s * wt m (valF (bestB m (wt m (valF bs)) o)) s) (2 ^ m) = ((2 ^ m : Nat) : Int) * (((2 ^ m : Nat) : Int) - 2 * (distO m bs o : Nat)) := by
    have e : ((2 ^ m : Nat) : Int) - 2 * (distO m bs o : Nat) = sumTo (fun x => valF (bestB m (wt m (valF bs)) o) x * valF bs x) (2 ^ m) := (dif_sum _ _ _).symm
    rw [e, <- wt_mul]
    refine sumTo_congr fun s hs => ?_
    unfold inF
    by_cases c : s &&& o = s
    . rw [if_pos c, Int.mul_comm]
    . rw [if_neg c, best_wt0 ho hs c, Int.zero_mul, Int.zero_mul]
  have h2 := sq_four m (bestB m (wt m (valF bs)) o)
  have hp : (0 : Int) < ((2 ^ m : Nat) : Int) := by have := Nat.two_pow_pos m; omega
  have h3 := cauchy (fun s => inF (wt m (valF bs)) o s) (fun s => wt m (valF (bestB m (wt m (valF bs)) o)) s) (2 ^ m) (by rw [h2]; exact Int.mul_pos hp hp)
  rw [h1, h2] at h3
  generalize ((2 ^ m : Nat) : Int) - 2 * (distO m bs o : Nat) = A at *
  generalize sumTo (fun s => inF (wt m (valF bs)) o s * inF (wt m (valF bs)) o s) (2 ^ m) = W at *
  generalize ((2 ^ m : Nat) : Int) = M at *
  have e1 : M * A * (M * A) = (A * A) * (M * M) := by grind
  rw [e1] at h3
  exact Int.le_of_mul_le_mul_right h3 (Int.mul_pos hp hp)
theorem sum_in {N : Nat} (h : Nat -> Int) : ∀ ks : List Nat, ks.Nodup -> (∀ k ∈ ks, k < N) -> sumTo h N = (ks.map h).sum + sumTo (fun k => if k ∈ ks then 0 else h k) N
  | [], _, _ => by
    rw [List.map_nil, List.sum_nil, Int.zero_add]
    exact sumTo_congr fun k _ => by rw [if_neg (by simp)]
  | x :: ks, nd, hk => by
    obtain ⟨n1, n2⟩ := List.nodup_cons.mp nd
    rw [sum_in h ks n2 fun k hk' => hk k (List.mem_cons_of_mem _ hk'), List.map_cons, List.sum_cons]
    have e : sumTo (fun k => if k ∈ ks then 0 else h k) N = h x + sumTo (fun k => if k ∈ x :: ks then 0 else h k) N := by
      have hp := sumTo_pick (fun _ => h x) x N
      rw [if_pos (hk x List.mem_cons_self)] at hp
      rw [<- hp, sumTo_plus]
      refine sumTo_congr fun k _ => ?_
      by_cases c : x = k
      . subst c
        rw [if_neg n1, if_pos rfl, if_pos List.mem_cons_self, Int.add_zero]
      . rw [if_neg c, Int.zero_add]
        by_cases d : k ∈ ks
        . rw [if_pos d, if_pos (List.mem_cons_of_mem _ d)]
        . rw [if_neg d, if_neg (fun z => (List.mem_cons.mp z).elim (fun z => c z.symm) d)]
    rw [e]
    omega
theorem dark_sum (m : Nat) (ts : List (Nat × Int)) (h : Nat -> Int) : ∀ N, sumTo (fun k => if k ∈ ts.map (·.1) then 0 else h k) N = ((darkL m ts N).map h).sum
  | 0 => rfl
  | N + 1 => by
    show sumTo _ N + (if N ∈ ts.map (·.1) then 0 else h N) = _
    rw [dark_sum m ts h N, darkL_succ, List.map_append, List.sum_append]
    by_cases c : N ∈ ts.map (·.1)
    . rw [if_pos c, if_pos (List.contains_iff_mem.mpr c)]
      rfl
    . rw [if_neg c, if_neg (fun z => c (List.contains_iff_mem.mp z))]
      simp
structure Has (m : Nat) (ts : List (Nat × Int)) (g : Nat -> Int) : Prop where
  nd : (ts.map (·.1)).Nodup
  hl : ∀ q ∈ ts, q.1 < 2 ^ m
  hw : ∀ q ∈ ts, g q.1 = q.2
theorem Has.sum {m : Nat} {ts : List (Nat × Int)} {g : Nat -> Int} (S : Has m ts g) (f : Nat -> Int) : sumTo (fun k => f k * (g k * g k)) (2 ^ m) = addT (fun k w => f k * (w * w)) ts + ((darkL m ts (2 ^ m)).map fun k => f k * (g k * g k)).sum := by
  rw [sum_in (fun k => f k * (g k * g k)) (ts.map (·.1)) S.nd fun k hk => by
    obtain ⟨q, hq, rfl⟩ := List.mem_map.mp hk
    exact S.hl q hq, dark_sum m, addT_map, List.map_map]
  congr 2
  refine List.map_congr_left fun q hq => ?_
  show f q.1 * (g q.1 * g q.1) = f q.1 * (q.2 * q.2)
  rw [S.hw q hq]
theorem sum_nn {f : Nat -> Int} : ∀ ks : List Nat, (∀ k ∈ ks, 0 <= f k) -> 0 <= (ks.map f).sum
  | [], _ => Int.le_refl _
  | k :: ks, h => by
    have h1 := h k List.mem_cons_self
    have h2 := sum_nn ks fun x hx => h x (List.mem_cons_of_mem _ hx)
    rw [List.map_cons, List.sum_cons]
    omega
theorem sum_le9 {f g : Nat -> Int} : ∀ ks : List Nat, (∀ k ∈ ks, f k <= g k) -> (ks.map f).sum <= (ks.map g).sum
  | [], _ => Int.le_refl _
  | k :: ks, h => by
    have h1 := h k List.mem_cons_self
    have h2 := sum_le9 ks fun x hx => h x (List.mem_cons_of_mem _ hx)
    rw [List.map_cons, List.sum_cons, List.map_cons, List.sum_cons]
    omega
theorem sum_const (c : Int) (f : Nat -> Int) : ∀ ks : List Nat, (ks.map fun k => c * f k).sum = c * (ks.map f).sum
  | [] => by simp
  | k :: ks => by rw [List.map_cons, List.sum_cons, List.map_cons, List.sum_cons, sum_const c f ks, Int.mul_add]
theorem sq_nn9 (x : Int) : 0 <= x * x := by
  rcases Int.le_total 0 x with h | h
  . exact Int.mul_nonneg h h
  . exact Int.mul_nonneg_of_nonpos_of_nonpos h h
theorem Has.rest {m : Nat} {ts : List (Nat × Int)} {bs : List Bool} (S : Has m ts (wt m (valF bs))) : ((darkL m ts (2 ^ m)).map fun k => wt m (valF bs) k * wt m (valF bs) k).sum = restT m ts := by
  have h := S.sum fun _ => 1
  have h1 := sq_four m bs
  have e1 : sumTo (fun k => (1 : Int) * (wt m (valF bs) k * wt m (valF bs) k)) (2 ^ m) = fourN m := by
    unfold fourN
    rw [four_eq, <- h1]
    exact sumTo_congr fun k _ => Int.one_mul _
  have e2 : addT (fun _ w => (1 : Int) * (w * w)) ts = sqT_ ts := by
    unfold sqT_
    congr 1
    funext _ w
    exact Int.one_mul _
  have e3 : (darkL m ts (2 ^ m)).map (fun k => (1 : Int) * (wt m (valF bs) k * wt m (valF bs) k)) = (darkL m ts (2 ^ m)).map fun k => wt m (valF bs) k * wt m (valF bs) k := List.map_congr_left fun k _ => Int.one_mul _
  rw [e1, e2, e3] at h
  unfold restT
  omega
theorem Has.rest0 {m : Nat} {ts : List (Nat × Int)} {bs : List Bool} (S : Has m ts (wt m (valF bs))) : 0 <= restT m ts := by
  rw [<- S.rest]
  exact sum_nn _ fun k _ => sq_nn9 _
theorem Has.part {m : Nat} {ts : List (Nat × Int)} {bs : List Bool} (S : Has m ts (wt m (valF bs))) (p : Nat -> Prop) [DecidablePred p] : addT (fun k w => if p k then w * w else 0) ts <= sumTo (fun k => if p k then wt m (valF bs) k * wt m (valF bs) k else 0) (2 ^ m) /\ sumTo (fun k => if p k then wt m (valF bs) k * wt m (valF bs) k else 0) (2 ^ m) <= addT (fun k w => if p k then w * w else 0) ts + (if (darkL m ts (2 ^ m)).any (fun k => decide (p k)) = true then restT m ts else 0) := by
  have h := S.sum fun k => if p k then 1 else 0
  have e1 : sumTo (fun k => (if p k then (1 : Int) else 0) * (wt m (valF bs) k * wt m (valF bs) k)) (2 ^ m) = sumTo (fun k => if p k then wt m (valF bs) k * wt m (valF bs) k else 0) (2 ^ m) := sumTo_congr fun k _ => by split <;> simp
  have e2 : addT (fun k w => (if p k then (1 : Int) else 0) * (w * w)) ts = addT (fun k w => if p k then w * w else 0) ts := by
    congr 1
    funext k w
    split <;> simp
  rw [e1, e2] at h
  rw [h]
  have d0 : 0 <= ((darkL m ts (2 ^ m)).map fun k => (if p k then (1 : Int) else 0) * (wt m (valF bs) k * wt m (valF bs) k)).sum := sum_nn _ fun k _ => by
    have := sq_nn9 (wt m (valF bs) k)
    split <;> omega
  refine ⟨by omega, ?_⟩
  have d1 : ((darkL m ts (2 ^ m)).map fun k => (if p k then (1 : Int) else 0) * (wt m (valF bs) k * wt m (valF bs) k)).sum <= if (darkL m ts (2 ^ m)).any (fun k => decide (p k)) = true then restT m ts else 0 := by
    by_cases c : (darkL m ts (2 ^ m)).any (fun k => decide (p k)) = true
    . rw [if_pos c, <- S.rest]
      refine sum_le9 _ fun k _ => ?_
      have := sq_nn9 (wt m (valF bs) k)
      split <;> omega
    . rw [if_neg c]
      have : (darkL m ts (2 ^ m)).map (fun k => (if p k then (1 : Int) else 0) * (wt m (valF bs) k * wt m (valF bs) k)) = (darkL m ts (2 ^ m)).map fun _ => (0 : Int) * 0 := List.map_congr_left fun k hk => by
        rw [if_neg (fun z => c (List.any_eq_true.mpr ⟨k, hk, decide_eq_true z⟩))]
        simp
      rw [this, sum_const]
      simp
  omega
theorem mat_low {m t : Nat} {ts : List (Nat × Int)} {bs : List Bool} (S : Has m ts (wt m (valF bs))) : oddT m ts t <= oddSq m (wt m (valF bs)) t /\ oddSq m (wt m (valF bs)) t <= highT m ts t := by
  have h := S.part fun k => chi m k t = -1
  refine ⟨h.1, ?_⟩
  have h2 := h.2
  unfold highT moreB oddT
  unfold oddSq
  split
  . rename_i c
    rw [if_pos c] at h2
    exact h2
  . rename_i c
    rw [if_neg c, Int.add_zero] at h2
    exact h2
theorem low_ok {low O F M c : Int} (hF : F = M * M) (hM : 0 < M) (h : low <= O) (hO : O = M * c) : shT low F * M <= c * shB low F := by
  have hF0 : 0 < F := by rw [hF]; exact Int.mul_pos hM hM
  obtain ⟨h1, h2⟩ := sh_frac (x := low) hF0
  have h3 : low * shB low F <= M * c * shB low F := Int.mul_le_mul_of_nonneg_right (by omega) (by omega)
  rw [<- h1, hF] at h3
  have e1 : shT low F * M * M <= c * shB low F * M := by
    rw [<- hF] at h3
    have a1 : shT low F * M * M = shT low F * F := by rw [hF, Int.mul_assoc]
    have a2 : c * shB low F * M = M * c * shB low F := by ac_rfl
    rw [a1, a2]
    exact h3
  exact Int.le_of_mul_le_mul_right e1 hM
theorem high_ok {hi O F M c : Int} (hF : F = M * M) (hM : 0 < M) (h : O <= hi) (hO : O = M * c) : c * shB hi F <= shT hi F * M := by
  have hF0 : 0 < F := by rw [hF]; exact Int.mul_pos hM hM
  obtain ⟨h1, h2⟩ := sh_frac (x := hi) hF0
  have h3 : M * c * shB hi F <= hi * shB hi F := Int.mul_le_mul_of_nonneg_right (by omega) (by omega)
  rw [<- h1] at h3
  have e1 : c * shB hi F * M <= shT hi F * M * M := by
    have a1 : shT hi F * M * M = shT hi F * F := by rw [hF, Int.mul_assoc]
    have a2 : c * shB hi F * M = M * c * shB hi F := by ac_rfl
    rw [a1, a2]
    exact h3
  exact Int.le_of_mul_le_mul_right e1 hM
theorem lvT_sum (m : Nat) (z y : Int) : ∀ ts : List (Nat × Int), sumTo (fun j => lvT m ts j * z ^ j * y ^ (m - j)) (m + 1) = addT (fun k w => qF z y m k * (w * w)) ts
  | [] => by
    show sumTo (fun j => (0 : Int) * z ^ j * y ^ (m - j)) (m + 1) = 0
    rw [sumTo_congr (g := fun _ => 0) fun j _ => by rw [Int.zero_mul, Int.zero_mul], sumTo_zero]
  | q :: ts => by
    show sumTo (fun j => ((if manyF m q.1 = j then q.2 * q.2 else 0) + lvT m ts j) * z ^ j * y ^ (m - j)) (m + 1) = qF z y m q.1 * (q.2 * q.2) + addT (fun k w => qF z y m k * (w * w)) ts
    rw [<- lvT_sum m z y ts]
    have e : ∀ j, ((if manyF m q.1 = j then q.2 * q.2 else 0) + lvT m ts j) * z ^ j * y ^ (m - j) = (if manyF m q.1 = j then q.2 * q.2 * z ^ j * y ^ (m - j) else 0) + lvT m ts j * z ^ j * y ^ (m - j) := fun j => by
      rw [Int.add_mul, Int.add_mul]
      split <;> simp
    rw [sumTo_congr fun j _ => e j, <- sumTo_plus, sumTo_pick (fun j => q.2 * q.2 * z ^ j * y ^ (m - j)), if_pos (by have := manyF_le m q.1; omega)]
    congr 1
    unfold qF
    ac_rfl
def zk (m : Nat) (z y : Int) (k : Nat) : Int := z ^ k * y ^ (m - k)
theorem lvR_sum {m k : Nat} (hk : k <= m) (z y : Int) (ts : List (Nat × Int)) : sumTo (fun j => lvR m ts k j * z ^ j * y ^ (m - j)) (m + 1) = addT (fun k w => qF z y m k * (w * w)) ts + restT m ts * zk m z y k := by
  rw [<- lvT_sum]
  have e : ∀ j, lvR m ts k j * z ^ j * y ^ (m - j) = lvT m ts j * z ^ j * y ^ (m - j) + (if k = j then restT m ts * z ^ j * y ^ (m - j) else 0) := fun j => by
    unfold lvR
    by_cases c : j = k
    . rw [if_pos c, if_pos c.symm, Int.add_mul, Int.add_mul]
    . rw [if_neg c, if_neg (Ne.symm c), Int.add_zero]
  rw [sumTo_congr fun j _ => e j, <- sumTo_plus, sumTo_pick (fun j => restT m ts * z ^ j * y ^ (m - j)), if_pos (by omega)]
  unfold zk
  rw [Int.mul_assoc]
theorem pow_nn {z : Int} (h : 0 <= z) (k : Nat) : 0 <= z ^ k := Int.pow_nonneg h
theorem pow_mo {z y : Int} (h0 : 0 <= z) (h : z <= y) : ∀ k, z ^ k <= y ^ k
  | 0 => by rw [Int.pow_zero, Int.pow_zero]; exact Int.le_refl _
  | k + 1 => by
    rw [Int.pow_succ, Int.pow_succ]
    exact Int.le_trans (Int.mul_le_mul_of_nonneg_right (pow_mo h0 h k) h0) (Int.mul_le_mul_of_nonneg_left h (pow_nn (Int.le_trans h0 h) k))
theorem zk_mo {m a b : Nat} {z y : Int} (h0 : 0 <= z) (h : z <= y) (hab : a <= b) (hb : b <= m) : zk m z y b <= zk m z y a := by
  unfold zk
  obtain ⟨d, rfl⟩ : ∃ d, b = a + d := ⟨b - a, by omega⟩
  rw [show m - a = d + (m - (a + d)) by omega, Int.pow_add, Int.pow_add, <- Int.mul_assoc]
  exact Int.mul_le_mul_of_nonneg_right (Int.mul_le_mul_of_nonneg_left (pow_mo h0 h d) (pow_nn h0 a)) (pow_nn (Int.le_trans h0 h) _)
theorem sta_ok {m : Nat} {ts : List (Nat × Int)} {bs : List Bool} {x y : Int} (S : Has m ts (wt m (valF bs))) (x0 : 0 <= x) (h2 : 2 * x <= y) {k1 k2 : Nat} (hk1 : k1 <= m) (hk2 : k2 <= m) (hall : ∀ k ∈ darkL m ts (2 ^ m), k2 <= manyF m k /\ manyF m k <= k1) :
    stPf m (lvR m ts k1) x y (m + 1) <= stP m (wt m (valF bs)) x y (m + 1) /\ stP m (wt m (valF bs)) x y (m + 1) <= stPf m (lvR m ts k2) x y (m + 1) := by
  unfold stPf stP
  rw [lvR_sum hk1, lvR_sum hk2, lv_sum, S.sum fun k => qF (y - 2 * x) y m k, <- S.rest]
  have hz0 : 0 <= y - 2 * x := by omega
  have hzy : y - 2 * x <= y := by omega
  have b1 : ((darkL m ts (2 ^ m)).map fun k => zk m (y - 2 * x) y k1 * (wt m (valF bs) k * wt m (valF bs) k)).sum <= ((darkL m ts (2 ^ m)).map fun k => qF (y - 2 * x) y m k * (wt m (valF bs) k * wt m (valF bs) k)).sum := sum_le9 _ fun k hk => by
    refine Int.mul_le_mul_of_nonneg_right ?_ (sq_nn9 _)
    exact zk_mo hz0 hzy (hall k hk).2 hk1
  have b2 : ((darkL m ts (2 ^ m)).map fun k => qF (y - 2 * x) y m k * (wt m (valF bs) k * wt m (valF bs) k)).sum <= ((darkL m ts (2 ^ m)).map fun k => zk m (y - 2 * x) y k2 * (wt m (valF bs) k * wt m (valF bs) k)).sum := sum_le9 _ fun k hk => by
    refine Int.mul_le_mul_of_nonneg_right ?_ (sq_nn9 _)
    exact zk_mo hz0 hzy (hall k hk).1 (manyF_le m k)
  rw [sum_const] at b1 b2
  rw [Int.mul_comm _ (zk m (y - 2 * x) y k1), Int.mul_comm _ (zk m (y - 2 * x) y k2)]
  omega
theorem sta_eq {m : Nat} {ts : List (Nat × Int)} {bs : List Bool} {x y : Int} (S : Has m ts (wt m (valF bs))) (hd : darkL m ts (2 ^ m) = []) : stPf m (lvT m ts) x y (m + 1) = stP m (wt m (valF bs)) x y (m + 1) := by
  unfold stPf stP
  rw [lvT_sum, lv_sum, S.sum fun k => qF (y - 2 * x) y m k, hd, List.map_nil, List.sum_nil, Int.add_zero]
theorem termG_keys (g : Nat -> Int) : ∀ N, ((termG g N).map fun t => (t.1 : Int)).Nodup
  | 0 => List.nodup_nil
  | N + 1 => by
    show ((termG g N ++ (if g N = 0 then [] else [(N, g N)])).map fun t => (t.1 : Int)).Nodup
    by_cases e : g N = 0
    . rw [if_pos e, List.append_nil]; exact termG_keys g N
    . rw [if_neg e, List.map_append, List.nodup_append]
      refine ⟨termG_keys g N, by simp, fun a h1 b h2 => ?_⟩
      obtain ⟨t, ht, rfl⟩ := List.mem_map.mp h1
      simp only [List.map_cons, List.map_nil, List.mem_singleton] at h2
      have := (termG_mem ht).1
      subst h2
      omega
def dkT (ts : List (Nat × Int)) : List (Key × V) := ts.map fun t => ((Sum.inl (t.1 : Int) : Key), V.int t.2)
theorem dkT_get (g : Nat -> Int) (k : Nat) : ∀ N, k < N -> ((valV (dkT (termG g N)) (Sum.inl (k : Int))).getD (.int 0)) = .int (g k) := fun N hk => by
  have ap : ∀ (l1 l2 : List (Nat × Int)), valV (dkT (l1 ++ l2)) (Sum.inl (k : Int)) = match valV (dkT l1) (Sum.inl (k : Int)) with | some v => some v | none => valV (dkT l2) (Sum.inl (k : Int)) := fun l1 l2 => by
    induction l1 with
    | nil => rfl
    | cons t l1 ih =>
      by_cases e : ((Sum.inl (t.1 : Int) : Key)) = Sum.inl (k : Int)
      . rw [show dkT (t :: l1 ++ l2) = ((Sum.inl (t.1 : Int) : Key), V.int t.2) :: dkT (l1 ++ l2) from rfl, valV_pos (p := ((Sum.inl (t.1 : Int) : Key), V.int t.2)) e, show dkT (t :: l1) = ((Sum.inl (t.1 : Int) : Key), V.int t.2) :: dkT l1 from rfl, valV_pos (p := ((Sum.inl (t.1 : Int) : Key), V.int t.2)) e]
      . rw [show dkT (t :: l1 ++ l2) = ((Sum.inl (t.1 : Int) : Key), V.int t.2) :: dkT (l1 ++ l2) from rfl, valV_neg (p := ((Sum.inl (t.1 : Int) : Key), V.int t.2)) e, show dkT (t :: l1) = ((Sum.inl (t.1 : Int) : Key), V.int t.2) :: dkT l1 from rfl, valV_neg (p := ((Sum.inl (t.1 : Int) : Key), V.int t.2)) e, ih]
  have key : ∀ N, valV (dkT (termG g N)) (Sum.inl (k : Int)) = if k < N /\ g k ≠ 0 then some (.int (g k)) else none := fun N => by
    induction N with
    | zero => rw [if_neg (by omega)]; rfl
    | succ N ih =>
      have last : valV (dkT (if g N = 0 then [] else [(N, g N)])) (Sum.inl (k : Int)) = if N = k /\ g N ≠ 0 then some (V.int (g N)) else none := by
        by_cases e : g N = 0
        . rw [if_pos e, if_neg (fun h => h.2 e)]; rfl
        . rw [if_neg e]
          by_cases c : N = k
          . rw [if_pos ⟨c, e⟩]
            exact valV_pos (p := ((Sum.inl (N : Int) : Key), V.int (g N))) (by rw [c])
          . rw [if_neg (fun h => c h.1)]
            exact valV_neg (p := ((Sum.inl (N : Int) : Key), V.int (g N))) (fun h => by simp at h; omega)
      rw [show termG g (N + 1) = termG g N ++ (if g N = 0 then [] else [(N, g N)]) from rfl, ap, ih, last]
      by_cases h1 : k < N /\ g k ≠ 0
      . rw [if_pos h1]
        show some (V.int (g k)) = _
        rw [if_pos ⟨by omega, h1.2⟩]
      . rw [if_neg h1]
        show (if N = k /\ g N ≠ 0 then some (V.int (g N)) else none) = _
        by_cases h2 : N = k /\ g N ≠ 0
        . obtain ⟨rfl, z⟩ := h2
          rw [if_pos ⟨rfl, z⟩, if_pos ⟨by omega, z⟩]
        . rw [if_neg h2, if_neg]
          rintro ⟨c1, c2⟩
          by_cases c : k < N
          . exact h1 ⟨c, c2⟩
          . have : N = k := by omega
            subst this
            exact h2 ⟨rfl, c2⟩
  rw [key N]
  by_cases z : g k = 0
  . rw [if_neg (fun h => h.2 z), z]; rfl
  . rw [if_pos ⟨hk, z⟩]; rfl
structure GS (H0 : Hp) (t : Addr) (M : Nat) (l : Addr) (H : Hp) : Prop where
  fd : Feed H t
  fr : Frm t H0 H
  ne : l ≠ t
  at_ : ∃ ks : List Nat, H l = some (.lst (iL ks)) /\ ks.length <= M /\ (∀ k ∈ ks, k < M) /\ ks.Nodup
theorem GS.mk' {H0 H : Hp} {t : Addr} {M : Nat} {l : Addr} {ks : List Nat} (F : Feed H t) (fr : Frm t H0 H) (hl : H l = none) (h1 : ks.length <= M) (h2 : ∀ k ∈ ks, k < M) (h3 : ks.Nodup) : GS H0 t M l (upd H l (.lst (iL ks))) :=
  ⟨F.upd hl, fr.trans (Frm.upd hl), F.neT hl, ks, upd_same, h1, h2, h3⟩
theorem iL_snoc (ks : List Nat) (k : Nat) : iL (ks ++ [k]) = iL ks ++ [V.int k] := by unfold iL; rw [List.map_append]; rfl
theorem snoc_nd {ks : List Nat} {k : Nat} (h : (∀ x ∈ ks, x < k) /\ ks.Nodup) : (∀ x ∈ ks ++ [k], x < k + 1) /\ (ks ++ [k]).Nodup := by
  refine ⟨fun x hx => ?_, ?_⟩
  . rcases List.mem_append.mp hx with h' | h'
    . exact Nat.lt_succ_of_lt (h.1 x h')
    . rw [List.mem_singleton] at h'; omega
  . rw [List.nodup_append]
    refine ⟨h.2, by simp, fun a ha b hb => ?_⟩
    rw [List.mem_singleton] at hb
    have := h.1 a ha
    omega
theorem up_nd {ks : List Nat} {k : Nat} (h : (∀ x ∈ ks, x < k) /\ ks.Nodup) : (∀ x ∈ ks, x < k + 1) /\ ks.Nodup := ⟨fun x hx => Nat.lt_succ_of_lt (h.1 x hx), h.2⟩
def GJ (H0 : Hp) (t p : Addr) (m M : Nat) (kvs : List (Key × V)) : St -> Hp -> Prop := fun σ H => ∃ (d l : Addr) (part : Nat) (way : Int), σ = [some (.ref t), some (.ref p), some (.int M), some (.int m), some (.ref d), some (.int part), some (.int way), some (.ref l)] /\ 1 <= part /\ part <= 4 /\ GS H0 t M l H /\ d ≠ t /\ H d = some (.dK kvs)
theorem GS.upd {H0 H : Hp} {t q : Addr} {M : Nat} {l : Addr} {o : HO} (L : GS H0 t M l H) (hq : H q = none) : GS H0 t M l (L2.upd H q o) :=
  let ⟨ks, h1, h2, h3⟩ := L.at_
  ⟨L.fd.upd hq, L.fr.trans (Frm.upd hq), L.ne, ks, Same.upd hq _ _ h1, h2, h3⟩
def sp_glmade (K : W.Frag) : Sp := fun vs H Q _ => match vs with
  | [.ref t, .ref p] => ∃ (m : Nat) (bs : List Bool), Feed H t /\ 1 <= m /\ m <= 6 /\ bs.length = 2 ^ m /\ H p = some (.tup (bs.map V.bl)) /\
      ∀ v (ks : List Nat) H', Feed H' t -> Frm t H H' -> SumAt K H' v m (ks.map fun k => (k, wt m (valF bs) k)) -> ks.length <= 64 -> ks.Nodup -> (∀ k ∈ ks, k < 2 ^ m) -> Q v H'
  | _ => False
theorem sp_glmade_mono : SpMono (sp_glmade K) := fun vs H Q Q' E h q => by
  unfold sp_glmade at *
  split at q
  . revert q; repeat' first | exact h _ _ | exact newL_mono h | exact out_mono h | exact outT_mono h | walk_at "m"
  . exact q.elim
theorem ok__law_glance : FnOk P w K mg base CX0 2 T.f__law_glance T.d__law_glance ["_law_feed_here", "_law_table_here"] (sp_glmade K) := by
  have G__law_draw := ok__law_draw (P := P) (w := w) (base := base) T; have G__law_sum := ok__law_sum (P := P) (w := w) (base := base) T; have G__law_many := ok__law_many (P := P) (w := w) (base := base) T
  refine T.F__law_glance.ok sc__law_glance (fun vs H Q E h => by unfold sp_glmade at h; split at h <;> first | rfl | exact h.elim) (fun cdv A outer s H vs Q E hr h => ?_)
  have hu := hu60 hr
  have mo1 : SpMono sp_many := sp_many_mono
  have mo2 : SpMono (sp_fsum K) := sp_fsum_mono
  have hr__law_draw := hr.mono (show 1 <= _ by decide); have hr__law_sum := hr.mono (show 1 <= _ by decide); have hr__law_many := hr.mono (show 1 <= _ by decide)
  unfold sp_glmade at h
  split at h
  rotate_left
  . exact h.elim
  rename_i t p
  obtain ⟨m, bs, F, m1, m6, hb, hp, q⟩ := h
  refine ⟨_, (@pss_cons _ _ _ _ _ (@ps_set _ _ 2 _ _ _ _ sc__law_glance.nd rfl (by walk_at "e") (@pe_callB _ _ _ _ _ _ _ _ _ (kLen (K := K)) rfl T.z_len (by rfl) (@pa1 _ _ _ (@vw _ 1 _ _ (by walk_at "v")) (by rfl)) (by decide) (by decide) (by rfl) (by rfl)) (by rfl) (by walk_at "i")) (@pss_cons _ _ _ _ _ (@ps_set _ _ 3 _ _ _ _ sc__law_glance.nd rfl (by walk_at "e") (@pe_op _ _ _ _ _ _ _ _ om_sub (@kBitlen _ K _ _ _ _ (@vw _ 2 _ _ (by walk_at "v")) (by rfl) (by rfl) (by rfl)) (@pe_int _ _ _ _)) (by rfl) (by walk_at "i")) (@pss_cons _ _ _ _ _ (@ps_set _ _ 4 _ _ _ _ sc__law_glance.nd rfl (by walk_at "e") (@pe_callTy _ _ _ _ _ _ _ _ _ (kDict (K := K) rfl) rfl T.z_dict (by rfl) (@pa1 _ _ _ (@kIx _ K _ _ _ _ _ (@pe_call _ _ _ _ _ _ _ _ _ _ _ _ _ _ _ _ G__law_sum hr__law_sum rfl T.m__law_sum T.F__law_sum.kp T.b__law_sum .nil pass0 (@pa1 _ _ _ (@vw _ 1 _ _ (by walk_at "v")) (by rfl)) (by decide) (by rfl) (by rfl)) (@pe_int _ _ _ _) (by intro _ _; rfl) (by rfl)) (by rfl)) (by decide) (by decide) (by rfl) (by rfl)) (by rfl) (by walk_at "i")) (@pss_cons _ _ _ _ _ (@ps_set _ _ 5 _ _ _ _ sc__law_glance.nd rfl (by walk_at "e") (@pe_op _ _ _ _ _ _ _ _ (kAdd (K := K)) (@pe_int _ _ _ _) (@pe_call _ _ _ _ _ _ _ _ _ _ _ _ _ _ _ _ G__law_draw hr__law_draw rfl T.m__law_draw T.F__law_draw.kp T.b__law_draw .nil pass0 (@pa_cons _ _ _ _ _ (@vw _ 0 _ _ (by walk_at "v")) (@pa1 _ _ _ (@pe_int _ _ _ _) (by rfl)) (by rfl)) (by decide) (by rfl) (by rfl))) (by rfl) (by walk_at "i")) (@pss_cons _ _ _ _ _ (@ps_set _ _ 6 _ _ _ _ sc__law_glance.nd rfl (by walk_at "e") (@pe_call _ _ _ _ _ _ _ _ _ _ _ _ _ _ _ _ G__law_draw hr__law_draw rfl T.m__law_draw T.F__law_draw.kp T.b__law_draw .nil pass0 (@pa_cons _ _ _ _ _ (@vw _ 0 _ _ (by walk_at "v")) (@pa1 _ _ _ (@pe_int _ _ _ _) (by rfl)) (by rfl)) (by decide) (by rfl) (by rfl)) (by rfl) (by walk_at "i")) (@pss_cons _ _ _ _ _ (@ps_compB _ _ _ _ _ _ _ (["_law_some", "_law_feed_here", "_law_part"]) 1 ([0, 5]) _ _ _ _ 7 _ _ _ rfl sc__law_glance.nd rfl rfl (@pi_range1 _ _ _ _ _ _ rfl T.z_range (@pa1 _ _ _ (@vw _ 2 _ _ (by walk_at "v")) (by rfl)) (by rfl)) (by kernel_rfl) rfl rfl (by kernel_rfl) (fun c => @pg_name _ _ 0 _ (show (["_law_some", "_law_feed_here", "_law_part"] : List Str).Nodup by decide +kernel) rfl (by walk_at "e") (by walk_at "i")) (go_name (by decide)) (fun c => @pts_one _ _ _ (@tu_cmp _ _ _ _ _ _ _ _ (kEq (K := K) hu) (@pe_call _ _ _ _ _ _ _ _ _ _ _ _ _ _ _ _ G__law_draw hr__law_draw rfl T.m__law_draw T.F__law_draw.kp T.b__law_draw .nil pass0 (@pa_cons _ _ _ _ _ (@vw _ 1 _ _ (by walk_at "v")) (@pa1 _ _ _ (@vw _ 2 _ _ (by walk_at "v")) (by rfl)) (by rfl)) (by decide) (by rfl) (by rfl)) (@pe_int _ _ _ _) (by walk_at "n"))) (fun c => (@vw _ 0 _ _ (by walk_at "v"))) (by rfl) (by intro _; rfl)) (@pss_cons _ _ _ _ _ (@ps_if _ _ _ _ _ _ _ _ (@tu_cmp _ _ _ _ _ _ _ _ (kEq (K := K) hu) (@vw _ 6 _ _ (by walk_at "v")) (@pe_int _ _ _ _) (by walk_at "n")) (@pss_one _ _ _ (@ps_compB _ _ _ _ _ _ _ (["_law_some", "_law_part"]) 1 [5] _ _ _ _ 7 _ _ _ rfl sc__law_glance.nd rfl rfl (@pi_range1 _ _ _ _ _ _ rfl T.z_range (@pa1 _ _ _ (@vw _ 2 _ _ (by walk_at "v")) (by rfl)) (by rfl)) (by kernel_rfl) rfl rfl (by kernel_rfl) (fun c => @pg_name _ _ 0 _ (show (["_law_some", "_law_part"] : List Str).Nodup by decide +kernel) rfl (by walk_at "e") (by walk_at "i")) (go_name (by decide)) (fun c => @pts_one _ _ _ (@tu_cmp _ _ _ _ _ _ _ _ om_lt (@pe_call _ _ _ _ _ _ _ _ _ _ _ _ _ _ _ _ G__law_many hr__law_many rfl T.m__law_many T.F__law_many.kp T.b__law_many .nil pass0 (@pa1 _ _ _ (@vw _ 0 _ _ (by walk_at "v")) (by rfl)) (by decide) (by rfl) (by rfl)) (@vw _ 1 _ _ (by walk_at "v")) (by walk_at "n"))) (fun c => (@vw _ 0 _ _ (by walk_at "v"))) (by rfl) (by intro _; rfl))) (@pss_nil _)) (@pss_cons _ _ _ _ _ (@ps_if _ _ _ _ _ _ _ _ (@tu_cmp _ _ _ _ _ _ _ _ (kEq (K := K) hu) (@vw _ 6 _ _ (by walk_at "v")) (@pe_int _ _ _ _) (by walk_at "n")) (@pss_cons _ _ _ _ _ (@ps_set _ _ 7 _ _ _ _ sc__law_glance.nd rfl (by walk_at "e") (@kListRange _ _ _ _ _ _ _ rfl rfl T.z_list rfl T.z_range (@pa1 _ _ _ (@vw _ 2 _ _ (by walk_at "v")) (by rfl)) (by rfl) (by rfl)) (by rfl) (by walk_at "i")) (@pss_one _ _ _ (@ps_expr _ _ _ _ (@kPopAt _ K _ _ _ _ _ _ (@vw _ 7 _ _ (by walk_at "v")) (@pa1 _ _ _ (@pe_call _ _ _ _ _ _ _ _ _ _ _ _ _ _ _ _ G__law_draw hr__law_draw rfl T.m__law_draw T.F__law_draw.kp T.b__law_draw .nil pass0 (@pa_cons _ _ _ _ _ (@vw _ 0 _ _ (by walk_at "v")) (@pa1 _ _ _ (@vw _ 2 _ _ (by walk_at "v")) (by rfl)) (by rfl)) (by decide) (by rfl) (by rfl)) (by rfl)) (by rfl) (by rfl) (by rfl) (by rfl) (by rfl) (by rfl)) (by rfl)))) (@pss_nil _)) (@pss_cons _ _ _ _ _ (@ps_if _ _ _ _ _ _ _ _ (PW.pt (@pw_and _ _ _ _ _ _ _ (@tu_cmp _ _ _ _ _ _ _ _ (kEq (K := K) hu) (@vw _ 6 _ _ (by walk_at "v")) (@pe_int _ _ _ _) (by walk_at "n")) (@pw_and1 _ _ _ _ (@tu_cmp _ _ _ _ _ _ _ _ om_lt (@vw _ 5 _ _ (by walk_at "v")) (@pe_int _ _ _ _) (by walk_at "n"))))) (@pss_one _ _ _ (@ps_compB _ _ _ _ _ _ _ (["_law_some", "_law_part"]) 1 [5] _ _ _ _ 7 _ _ _ rfl sc__law_glance.nd rfl rfl (@pi_range1 _ _ _ _ _ _ rfl T.z_range (@pa1 _ _ _ (@vw _ 2 _ _ (by walk_at "v")) (by rfl)) (by rfl)) (by kernel_rfl) rfl rfl (by kernel_rfl) (fun c => @pg_name _ _ 0 _ (show (["_law_some", "_law_part"] : List Str).Nodup by decide +kernel) rfl (by walk_at "e") (by walk_at "i")) (go_name (by decide)) (fun c => @pts_one _ _ _ (@tu_cmp _ _ _ _ _ _ _ _ (kEq (K := K) hu) (@vw _ 1 _ _ (by walk_at "v")) (@pe_int _ _ _ _) (by walk_at "n"))) (fun c => (@vw _ 0 _ _ (by walk_at "v"))) (by rfl) (by intro _; rfl))) (@pss_nil _)) (@pss_one _ _ _ (@ps_ret _ _ _ _ (@pe_tup _ _ _ _ _ (@pa_cons _ _ _ _ _ (@vw _ 3 _ _ (by walk_at "v")) (@pa1 _ _ _ (@pe_callTy _ _ _ _ _ _ _ _ _ (kTuple (K := K)) rfl T.z_tuple (by rfl) (@pa1 _ _ _ (@pe_compB _ _ _ _ _ _ _ (["_law_some", "_law_weights"]) 1 [4] _ _ _ _ rfl (@kSeq _ K _ _ _ (@vw _ 7 _ _ (by walk_at "v")) (by rfl)) (by kernel_rfl) rfl rfl (by kernel_rfl) (fun c => @pg_name _ _ 0 _ (show (["_law_some", "_law_weights"] : List Str).Nodup by decide +kernel) rfl (by walk_at "e") (by walk_at "i")) (go_name (by decide)) (fun c => @pts_nil _) (fun c => (@pe_tup _ _ _ _ _ (@pa_cons _ _ _ _ _ (@vw _ 0 _ _ (by walk_at "v")) (@pa1 _ _ _ (@pe_dget2 _ _ _ _ _ _ _ _ _ (hu_one hu) (@vw _ 1 _ _ (by walk_at "v")) (@vw _ 0 _ _ (by walk_at "v")) (@pe_int _ _ _ _) ⟨by rfl, by rfl, by rfl, by rfl⟩) (by rfl)) (by rfl)))) (by intro _; rfl)) (by rfl)) (by decide) (by decide) (by rfl) (by rfl)) (by rfl)) (by rfl)))))))))))))), ?_⟩
  have h64 : 2 ^ m <= 64 := Nat.pow_le_pow_right (n := 2) (by decide) m6
  have hbits := bits_pow m (by omega)
  have hpo := Nat.two_pow_pos m
  have hL := wt_light m6 bs
  have npt : p ≠ t := fun e => by obtain ⟨a, b, c, d, _, h⟩ := F.at_; rw [e, h] at hp; cases hp
  refine ⟨2 ^ m, .inr ⟨_, .of hp, by rw [List.length_map, hb]⟩, ?_⟩
  dsimp only [gName]
  refine seq_at (fun σ H' => σ = [some (.ref t), some (.ref p), some (.int ((2 ^ m : Nat) : Int)), some (.int m), none, none, none, none] /\ H = H') ?_ ?_ (by walk_at "sm")
  . refine ⟨rfl, ?_⟩
    dsimp only [mBitlen, tC, mSub]
    rw [hbits, show ((m + 1 : Nat) : Int) - 1 = (m : Int) by omega]
    exact ⟨rfl, rfl⟩
  rintro σ _ ⟨rfl, rfl⟩
  have htl := termG_len (wt m (valF bs)) (2 ^ m)
  refine seq_at (fun σ H' => ∃ d : Addr, σ = [some (.ref t), some (.ref p), some (.int ((2 ^ m : Nat) : Int)), some (.int m), some (.ref d), none, none, none] /\ Same H H' /\ d ≠ t /\ H' d = some (.dK (dkT (termG (wt m (valF bs)) (2 ^ m))))) ?_ ?_ (by walk_at "sm")
  . refine ⟨m, bs, m1, m6, hb, .of hp, fun v H1 s1 S => ?_⟩
    obtain ⟨a, b, us, rfl, ha, hbb, hR⟩ := S.at_
    have hul : us.length = (termG (wt m (valF bs)) (2 ^ m)).length := by have := hR.length; rw [List.length_map] at this; omega
    refine ⟨_, _, .inr ha, rfl, us, (termG (wt m (valF bs)) (2 ^ m)).map fun t => ((t.1 : Int), t.2), hbb, by rw [List.length_map]; exact hul, by rw [List.length_map]; omega, fun j kv hkv => ?_, ?_, fun d hd => ?_⟩
    . rw [List.getElem?_map] at hkv
      cases et : (termG (wt m (valF bs)) (2 ^ m))[j]? with
      | none => rw [et] at hkv; cases hkv
      | some t =>
        rw [et] at hkv
        cases hkv
        have hj : j < us.length := by rw [hul]; exact (List.getElem?_eq_some_iff.mp et).1
        obtain ⟨t', c, h1, h2, h3⟩ := reps_terms_at hR (List.getElem?_eq_getElem hj)
        rw [et] at h1
        cases h1
        exact ⟨c, by rw [List.getElem?_eq_getElem hj, h2], h3⟩
    . rw [List.map_map]
      exact termG_keys _ _
    . dsimp only [gName]
      rw [List.map_map]
      have ed : (termG (wt m (valF bs)) (2 ^ m)).map ((fun kv => ((Sum.inl kv.1 : Key), V.int kv.2)) ∘ fun t => ((t.1 : Int), t.2)) = dkT (termG (wt m (valF bs)) (2 ^ m)) := rfl
      rw [ed]
      exact ⟨d, rfl, s1.trans (Same.upd hd), (F.same s1).neT hd, upd_same⟩
  rintro σ H1 ⟨d, rfl, s1, nd, gd⟩
  have F1 := F.same s1
  have hg := fun k hk => dkT_get (wt m (valF bs)) k (2 ^ m) hk
  generalize dkT (termG (wt m (valF bs)) (2 ^ m)) = kvs at *
  generalize hM : 2 ^ m = M at *
  have okM : okDiv (M : Int) := okDiv_of (by omega) (Int.le_trans (Int.ofNat_le.mpr h64) (by decide))
  refine ⟨F1, okDiv_of (by decide) (by decide), fun p1 H2 p0 p4 F2 f2 => ?_⟩
  obtain ⟨pn, rfl⟩ := Int.eq_ofNat_of_zero_le p0
  dsimp only [tC, mAdd, gName]
  rw [show (1 : Int) + (pn : Int) = ((pn + 1 : Nat) : Int) by omega]
  refine ⟨F2, okDiv_of (by decide) (by decide), fun way H3 _ _ F3 f3 => ?_⟩
  have gd3 : H3 d = some (.dK kvs) := by rw [f3 d nd, f2 d nd]; exact gd
  have fr3 : Frm t H H3 := s1.frm.trans ((frm_all f2).trans (frm_all f3))
  dsimp only [gName]
  refine seq_at (GJ H t p m M kvs) ?_ ?_ (by walk_at "sm")
  . refine ⟨(M : Int), rfl, by omega, by omega, ?_⟩
    refine comp_range (n := ((M : Int)).toNat) (fun i ys H' => Feed H' t /\ Frm t H H' /\ H' d = some (.dK kvs) /\ ∃ ks : List Nat, ys = iL ks /\ ks.length <= i /\ (∀ k ∈ ks, k < i) /\ ks.Nodup) ⟨F3, fr3, gd3, [], rfl, Nat.le_refl _, (fun k hk => by cases hk), List.nodup_nil⟩ (fun i ys H' hi ⟨_, _, _, ks, e, e', _⟩ => by
      rw [e]; unfold iL; rw [List.length_map]; exact small1000 (by omega)) ?_ ?_
    . rintro i ys H' hi ⟨Fi, fi, gi, ks, rfl, hk1, hk2⟩
      refine ⟨Fi, okDiv_of (by omega) (Int.le_trans (Int.ofNat_le.mpr (show pn + 1 <= 64 by omega)) (by decide)), fun x H4 _ _ F4 f4 => ?_⟩
      have g4 : H4 d = some (.dK kvs) := by rw [f4 d nd]; exact gi
      refine ite2 (fun e => ⟨F4, fi.trans (frm_all f4), g4, ks ++ [i], ?_, by rw [List.length_append]; exact Nat.succ_le_succ hk1, snoc_nd hk2⟩) (fun e => ⟨F4, fi.trans (frm_all f4), g4, ks, rfl, by omega, up_nd hk2⟩)
      rw [iL_snoc, Int.zero_add]
    . rintro ys H' ⟨Fi, fi, gi, ks, rfl, hk1, hk2⟩ l hl
      exact ⟨d, l, pn + 1, way, rfl, by omega, by omega, GS.mk' Fi fi hl (by omega) (fun k hk => by have := hk2.1 k hk; omega) hk2.2, nd, Same.upd hl _ _ gi⟩
  clear gd3 fr3 F3 f3 f2 F2 gd nd F1 s1
  rintro σ Ha ⟨d, l, part, way, rfl, pp1, pp2, L, nd, gd⟩
  refine seq_at (GJ H t p m M kvs) ?_ ?_ (by walk_at "sm")
  . refine ite2 (fun e => ?_) (fun e => ⟨d, l, part, way, rfl, pp1, pp2, L, nd, gd⟩)
    refine ⟨(M : Int), rfl, by omega, by omega, ?_⟩
    refine comp_range (n := ((M : Int)).toNat) (fun i ys H' => H' = Ha /\ ∃ ks : List Nat, ys = iL ks /\ ks.length <= i /\ (∀ k ∈ ks, k < i) /\ ks.Nodup) ⟨rfl, [], rfl, Nat.le_refl _, (fun k hk => by cases hk), List.nodup_nil⟩ (fun i ys H' hi ⟨_, ks, e, e', _⟩ => by
      rw [e]; unfold iL; rw [List.length_map]; exact small1000 (by omega)) ?_ ?_
    . rintro i ys H' hi ⟨rfl, ks, rfl, hk1, hk2⟩
      refine ⟨i, Int.zero_add _, Nat.lt_of_lt_of_le (show i < 64 by omega) (by decide), ?_⟩
      refine ite2 (fun e => ⟨rfl, ks ++ [i], ?_, by rw [List.length_append]; exact Nat.succ_le_succ hk1, snoc_nd hk2⟩) (fun e => ⟨rfl, ks, rfl, by omega, up_nd hk2⟩)
      rw [iL_snoc, Int.zero_add]
    . rintro ys H' ⟨rfl, ks, rfl, hk1, hk2⟩ l hl
      exact ⟨d, l, part, way, rfl, pp1, pp2, GS.mk' L.fd L.fr hl (by omega) (fun k hk => by have := hk2.1 k hk; omega) hk2.2, nd, Same.upd hl _ _ gd⟩
  clear L nd gd pp1 pp2
  rintro σ Ha ⟨d, l, part, way, rfl, pp1, pp2, L, nd, gd⟩
  refine seq_at (GJ H t p m M kvs) ?_ ?_ (by walk_at "sm")
  . refine ite2 (fun e => ?_) (fun e => ⟨d, l, part, way, rfl, pp1, pp2, L, nd, gd⟩)
    refine ⟨M, rfl, by omega, fun l2 hl2 => ?_⟩
    have g2 := upd_same (H := Ha) (a := l2) (o := .lst ((List.range M).map fun (k : Nat) => V.int (k : Int)))
    have s2 := Same.upd (o := .lst ((List.range M).map fun (k : Nat) => V.int (k : Int))) hl2
    have n2 := L.fd.neT hl2
    have nld : d ≠ l2 := ne_of_none gd hl2
    dsimp only [gName]
    generalize L2.upd Ha l2 (.lst ((List.range M).map fun (k : Nat) => V.int (k : Int))) = Hb at *
    have Fb := L.fd.same s2
    refine ⟨.inl ⟨rfl, _, .of g2⟩, Fb, okM, fun x H4 x0 x1 F4 f4 => ?_⟩
    obtain ⟨xn, rfl⟩ := Int.eq_ofNat_of_zero_le x0
    have g4 : H4 l2 = some (.lst (iL (List.range M))) := by rw [f4 l2 n2]; exact g2
    have hxn : xn < M := by omega
    refine ⟨iL (List.range M), .int xn, g4, by omega, by omega, ?_, ?_⟩
    . rw [Int.toNat_natCast]; unfold iL; rw [List.getElem?_map, List.getElem?_range hxn]; rfl
    have n4 : ∃ zs, H4 t = some (.lst zs) := F4.lst
    have er : (iL (List.range M)).eraseIdx ((xn : Int)).toNat = iL ((List.range M).eraseIdx xn) := by
      unfold iL; rw [Int.toNat_natCast, List.eraseIdx_eq_take_drop_succ, List.eraseIdx_eq_take_drop_succ, List.map_append, List.map_take, List.map_drop]
    have nda : H4 d = some (.dK kvs) := by rw [f4 d nd]; exact s2 _ _ gd
    refine ⟨d, l2, part, way, rfl, pp1, pp2, ⟨?_, ?_, n2, _, (by rw [er]; exact upd_same), ?_, ?_, ?_⟩, nd, (by rw [upd_ne nld]; exact nda)⟩
    . obtain ⟨a, b, c, e, h1, h2⟩ := F4.at_
      exact ⟨a, b, c, e, h1, by rw [upd_ne (Ne.symm n2)]; exact h2⟩
    . exact frm_new (L.fr.trans (s2.frm.trans (frm_all f4))) (L.fd.free L.fr hl2)
    . have := List.length_eraseIdx_le (List.range M) xn
      rw [List.length_range] at this
      exact this
    . intro k hk
      exact List.mem_range.mp (List.mem_of_mem_eraseIdx hk)
    . exact List.Nodup.sublist (List.eraseIdx_sublist ..) List.nodup_range
  clear L nd gd pp1 pp2
  rintro σ Ha ⟨d, l, part, way, rfl, pp1, pp2, L, nd, gd⟩
  refine seq_at (GJ H t p m M kvs) ?_ ?_ (by walk_at "sm")
  . have done : GJ H t p m M kvs [some (.ref t), some (.ref p), some (.int M), some (.int m), some (.ref d), some (.int part), some (.int way), some (.ref l)] Ha := ⟨d, l, part, way, rfl, pp1, pp2, L, nd, gd⟩
    refine ite2 (fun e => ?_) (fun e => ?_)
    . refine ite2 (fun e => ?_) (fun e => done)
      refine ⟨(M : Int), rfl, by omega, by omega, ?_⟩
      refine comp_range (n := ((M : Int)).toNat) (fun i ys H' => H' = Ha /\ ∃ ks : List Nat, ys = iL ks /\ ks.length <= i /\ (∀ k ∈ ks, k < i) /\ ks.Nodup) ⟨rfl, [], rfl, Nat.le_refl _, (fun k hk => by cases hk), List.nodup_nil⟩ (fun i ys H' hi ⟨_, ks, e, e', _⟩ => by
        rw [e]; unfold iL; rw [List.length_map]; exact small1000 (by omega)) ?_ ?_
      . rintro i ys H' hi ⟨rfl, ks, rfl, hk1, hk2⟩
        refine ite2 (fun e => ⟨rfl, ks ++ [i], ?_, by rw [List.length_append]; exact Nat.succ_le_succ hk1, snoc_nd hk2⟩) (fun e => ⟨rfl, ks, rfl, by omega, up_nd hk2⟩)
        rw [iL_snoc, Int.zero_add]
      . rintro ys H' ⟨rfl, ks, rfl, hk1, hk2⟩ l hl
        exact ⟨d, l, part, way, rfl, pp1, pp2, GS.mk' L.fd L.fr hl (by omega) (fun k hk => by have := hk2.1 k hk; omega) hk2.2, nd, Same.upd hl _ _ gd⟩
    . exact done
  clear L nd gd pp1 pp2
  rintro σ Ha ⟨d, l, part, way, rfl, pp1, pp2, L, nd, gd⟩
  obtain ⟨ks, hks, hk1, hk2, hnd⟩ := L.at_
  refine .inl ⟨⟨_, .of hks⟩, ?_⟩
  refine comp_list (xs := iL ks) (fun i ys H' => Same Ha H' /\ Reps K H' ((ks.take i).map fun k => termD (k, wt m (valF bs) k)) ys) ⟨fun _ _ h => h, reps_nil⟩ (fun i ys H' _ ⟨e, _⟩ => .of (e _ _ hks)) (fun i ys H' hi ⟨_, e⟩ => by
    have := e.length
    rw [List.length_map, List.length_take] at this
    rw [<- this]; exact small1000 (by omega)) ?_ ?_
  . rintro i x ys H' hx ⟨s', r'⟩
    have hi : i < ks.length := by
      have := (List.getElem?_eq_some_iff.mp hx).1
      unfold iL at this
      rwa [List.length_map] at this
    have ex : x = .int (ks[i] : Nat) := by
      unfold iL at hx
      rw [List.getElem?_map, List.getElem?_eq_getElem hi] at hx
      exact (Option.some.inj hx).symm
    subst ex
    have hk := hk2 _ (List.getElem_mem hi)
    refine ⟨d, rfl, .inl ⟨_, .inl (s' _ _ gd)⟩, _, DGet.k (k := .inl (ks[i] : Int)) (s' _ _ gd), ?_⟩
    rw [hg _ hk]
    refine ⟨small_le (show 2 <= 1000 by decide), fun c hc => ⟨s'.trans (Same.upd hc), ?_⟩⟩
    rw [List.take_add_one, List.getElem?_eq_getElem hi, List.map_append]
    exact (Reps.same (Same.upd hc) _ _ r').append (reps_cons (rep_tup1 upd_same (reps_cons rep_int (reps_cons rep_int reps_nil))) reps_nil)
  . rintro ys H' ⟨s', r'⟩ lp hlp
    have hk0 := hk2
    have el : (iL ks).length = ks.length := by unfold iL; rw [List.length_map]
    rw [el, List.take_of_length_le (Nat.le_refl _)] at r'
    refine ⟨_, .inl ⟨.of upd_same, fun k hk => ⟨small_le (show 2 <= 1000 by decide), fun k2 hk2 => ?_⟩⟩⟩
    have S := (Same.upd (o := .lst ys) hlp).trans ((Same.upd (o := .tup ys) hk).trans (Same.upd (o := .tup [.int m, .ref k]) hk2))
    refine q _ ks _ (L.fd.same (s'.trans S)) (L.fr.trans (s'.trans S).frm) (.of (rep_tup1 upd_same (reps_cons rep_int (reps_cons (rep_tup1 ?_ (ds := (ks.map fun k => (k, wt m (valF bs) k)).map termD) (by rw [List.map_map]; exact Reps.same S _ _ r')) reps_nil)))) (by omega) hnd hk0
    exact Same.upd hk2 _ _ upd_same
def sp_shaking : Sp := fun vs H Q _ => match vs with
  | [.ref t, .int part] => Feed H t /\ (part = 1 \/ part = 2) /\ ∀ (x y : Int) p H', 0 <= x -> part * x <= y -> 0 < y -> Nb x 66 -> Nb y 66 -> H p = none -> H' p = some (.tup [.int x, .int y]) -> Feed H' t -> Frm t H H' -> Q (.ref p) H'
  | _ => False
theorem sp_shaking_mono : SpMono sp_shaking := fun vs H Q Q' E h q => by
  unfold sp_shaking at *
  split at q
  . exact ⟨q.1, q.2.1, fun x y p H' a0 a1 a b c d e f g => h _ _ (q.2.2 x y p H' a0 a1 a b c d e f g)⟩
  . exact q.elim
theorem ok__law_shaking : FnOk P w K mg base CX0 2 T.f__law_shaking T.d__law_shaking ["_law_feed_here", "_law_part"] sp_shaking := by
  have G__law_share := ok__law_share (P := P) (w := w) (base := base) T; have G__law_draw := ok__law_draw (P := P) (w := w) (base := base) T
  refine T.F__law_shaking.ok sc__law_shaking (fun vs H Q E h => by unfold sp_shaking at h; split at h <;> first | rfl | exact h.elim) (fun cdv A outer s H vs Q E hr h => ?_)
  have hu := hu60 hr
  have mo1 : SpMono sp_share := sp_share_mono
  have hr__law_share := hr.mono (show 1 <= _ by decide); have hr__law_draw := hr.mono (show 1 <= _ by decide)
  unfold sp_shaking at h
  split at h
  rotate_left
  . exact h.elim
  rename_i t part
  obtain ⟨F, hpart, q⟩ := h
  refine ⟨_, (@pss_cons _ _ _ _ _ (@ps_set _ _ 2 _ _ _ _ sc__law_shaking.nd rfl (by walk_at "e") (@pe_op _ _ _ _ _ _ _ _ om_mul (@vw _ 1 _ _ (by walk_at "v")) (@pe_op _ _ _ _ _ _ _ _ (kAdd (K := K)) (@pe_int _ _ _ _) (@pe_call _ _ _ _ _ _ _ _ _ _ _ _ _ _ _ _ G__law_draw hr__law_draw rfl T.m__law_draw T.F__law_draw.kp T.b__law_draw .nil pass0 (@pa_cons _ _ _ _ _ (@vw _ 0 _ _ (by walk_at "v")) (@pa1 _ _ _ (@kIx _ K _ _ _ _ _ (@pe_lst _ _ _ _ (@pa_cons _ _ _ _ _ (@pe_int _ _ _ _) (@pa_cons _ _ _ _ _ (@pe_int _ _ _ _) (@pa_cons _ _ _ _ _ (@pe_int _ _ _ _) (@pa1 _ _ _ (@pe_op _ _ _ _ _ _ _ _ om_pow (@pe_int _ _ _ _) (@pe_int _ _ _ _)) (by rfl)) (by rfl)) (by rfl)) (by rfl))) (@pe_call _ _ _ _ _ _ _ _ _ _ _ _ _ _ _ _ G__law_draw hr__law_draw rfl T.m__law_draw T.F__law_draw.kp T.b__law_draw .nil pass0 (@pa_cons _ _ _ _ _ (@vw _ 0 _ _ (by walk_at "v")) (@pa1 _ _ _ (@pe_int _ _ _ _) (by rfl)) (by rfl)) (by decide) (by rfl) (by rfl)) (by intro _ _; rfl) (by rfl)) (by rfl)) (by rfl)) (by decide) (by rfl) (by rfl)))) (by rfl) (by walk_at "i")) (@pss_one _ _ _ (@ps_ret _ _ _ _ (@pe_call _ _ _ _ _ _ _ _ _ _ _ _ _ _ _ _ G__law_share hr__law_share rfl T.m__law_share T.F__law_share.kp T.b__law_share .nil pass0 (@pa_cons _ _ _ _ _ (@pe_call _ _ _ _ _ _ _ _ _ _ _ _ _ _ _ _ G__law_draw hr__law_draw rfl T.m__law_draw T.F__law_draw.kp T.b__law_draw .nil pass0 (@pa_cons _ _ _ _ _ (@vw _ 0 _ _ (by walk_at "v")) (@pa1 _ _ _ (@pe_op _ _ _ _ _ _ _ _ (kAdd (K := K)) (@pe_op _ _ _ _ _ _ _ _ om_div (@vw _ 2 _ _ (by walk_at "v")) (@vw _ 1 _ _ (by walk_at "v"))) (@pe_int _ _ _ _)) (by rfl)) (by rfl)) (by decide) (by rfl) (by rfl)) (@pa1 _ _ _ (@vw _ 2 _ _ (by walk_at "v")) (by rfl)) (by rfl)) (by decide) (by rfl) (by rfl))))), ?_⟩
  have p1 : 1 <= part /\ part <= 2 := by rcases hpart with rfl | rfl <;> decide
  refine ⟨⟨by decide, by decide, by decide⟩, small_le (show 4 <= 1000 by decide), fun p0 hp0 => ⟨F.upd hp0, okDiv_of (by decide) (by decide), fun d H1 d0 d1 F1 f1 => ?_⟩⟩
  have g1 : H1 p0 = some (.lst [.int 1, .int 4, .int 9, .int (10 ^ 19)]) := by rw [f1 p0 (F.neT hp0)]; exact upd_same
  obtain ⟨z, hz, z0, z1⟩ : ∃ z : Int, atI [V.int 1, .int 4, .int 9, .int (10 ^ 19)] d = some (.int z) /\ 0 < z /\ z <= 10 ^ 19 := by
    have : d = 0 \/ d = 1 \/ d = 2 \/ d = 3 := by omega
    rcases this with e | e | e | e <;> subst e
    . exact ⟨1, rfl, by decide, by decide⟩
    . exact ⟨4, rfl, by decide, by decide⟩
    . exact ⟨9, rfl, by decide, by decide⟩
    . exact ⟨10 ^ 19, rfl, by decide, by decide⟩
  refine ⟨_, _, .inl (.of g1), hz, F1, okDiv_of z0 (Int.le_trans z1 (by decide)), fun d2 H2 d20 d21 F2 f2 => ?_⟩
  refine ⟨.inr (.inl ⟨by omega, by omega⟩), ?_⟩
  have b0 : 0 < part * (1 + d2) := Int.mul_pos (by omega) (by omega)
  have b1 : part * (1 + d2) <= 2 * 10 ^ 19 := by
    rcases hpart with rfl | rfl <;> omega
  have bd : 0 <= part * (1 + d2) / part /\ part * (1 + d2) / part <= part * (1 + d2) /\ part * (part * (1 + d2) / part) <= part * (1 + d2) := by
    rcases hpart with rfl | rfl <;> omega
  generalize part * (1 + d2) = bot at *
  dsimp only [gName]
  refine ⟨okDiv_of (by omega) (by omega), F2, okDiv_of (by omega) (Int.le_trans (show bot / part + 1 <= 2 * 10 ^ 19 + 1 by omega) (by decide)), fun d3 H3 d30 d31 F3 f3 => ?_⟩
  have p66 : ((2 ^ 66 : Nat) : Int) = 73786976294838206464 := by decide
  have n1 : Nb d3 66 := nb_of (by rw [p66]; omega) (by rw [p66]; omega)
  have n2 : Nb bot 66 := nb_of (by rw [p66]; omega) (by rw [p66]; omega)
  obtain ⟨s1, s2, s3, s4⟩ := sh_small n1 n2 b0
  refine ⟨b0, n1.up (by decide), n2.up (by decide), fun p hp => ?_⟩
  have fr : Frm t H H3 := (Frm.upd hp0).trans ((frm_all f1).trans ((frm_all f2).trans (frm_all f3)))
  obtain ⟨k1, k2⟩ := sh_frac (x := d3) b0
  refine q (shT d3 bot) (shB d3 bot) p _ ?_ ?_ k2 s1 s2 (F3.free fr hp) upd_same (F3.upd hp) (fr.trans (Frm.upd hp))
  . exact Int.ediv_nonneg d30 (by omega)
  . have e1 : part * d3 <= bot := Int.le_trans (Int.mul_le_mul_of_nonneg_left (show d3 <= bot / part by omega) (by omega)) bd.2.2
    have e2 : part * d3 * shB d3 bot <= bot * shB d3 bot := Int.mul_le_mul_of_nonneg_right e1 (by omega)
    have e3 : part * shT d3 bot * bot <= shB d3 bot * bot := by
      rw [Int.mul_assoc, k1, <- Int.mul_assoc, Int.mul_comm (shB d3 bot)]
      exact e2
    exact Int.le_of_mul_le_mul_right e3 b0
def eqL (bs : List Bool) (s n : Nat) : List Nat := (List.range n).filter (fun i => !matF bs s i)
theorem eqL_succ (bs : List Bool) (s n : Nat) : eqL bs s (n + 1) = eqL bs s n ++ (if matF bs s n = true then [] else [n]) := by
  unfold eqL
  rw [List.range_succ, List.filter_append]
  congr 1
  by_cases h : matF bs s n = true
  . rw [if_pos h, List.filter_cons_of_neg (by simp [h])]; rfl
  . rw [if_neg h, List.filter_cons_of_pos (by simp [h])]; rfl
theorem eqL_len (bs : List Bool) (s : Nat) : ∀ n, (eqL bs s n).length + (matL bs s n).length = n
  | 0 => rfl
  | n + 1 => by
    have := eqL_len bs s n
    rw [eqL_succ, matL_succ, List.length_append, List.length_append]
    by_cases h : matF bs s n = true
    . rw [if_pos h, if_pos h, List.length_nil, List.length_singleton]; omega
    . rw [if_neg h, if_neg h, List.length_nil, List.length_singleton]; omega
theorem alk_nb (bs : List Bool) {m : Nat} (m6 : m <= 6) (u : Nat) : Nb (alkL bs m u) 8 := by
  have h64 : 2 ^ m <= 64 := Nat.pow_le_pow_right (n := 2) (by decide) m6
  have := matL_len bs u (2 ^ m)
  unfold Nb alkL
  omega
def muchTo (bs : List Bool) (m : Nat) (x y : Int) (n : Nat) : Int := sumTo (fun u => alkL bs m u * x ^ manyF m u * (y - x) ^ (m - manyF m u)) n
theorem diff_nb {x y : Int} (hx : Nb x 66) (hy : Nb y 66) : Nb (y - x) 67 := by unfold Nb at *; omega
theorem much_nb {bs : List Bool} {m : Nat} {x y : Int} (m6 : m <= 6) (hx : Nb x 66) (hy : Nb y 66) (u : Nat) : Nb (alkL bs m u * x ^ manyF m u) 420 /\ Nb (x ^ manyF m u) 400 /\ Nb ((y - x) ^ (m - manyF m u)) 410 /\ Nb (alkL bs m u * x ^ manyF m u * (y - x) ^ (m - manyF m u)) 830 := by
  have hl := manyF_le m u
  have h1 : Nb (x ^ manyF m u) 400 := (hx.pow _).up (by omega)
  have h2 : Nb ((y - x) ^ (m - manyF m u)) 410 := ((diff_nb hx hy).pow _).up (by omega)
  have h3 : Nb (alkL bs m u * x ^ manyF m u) 420 := ((alk_nb bs m6 u).mul h1).up (by omega)
  exact ⟨h3, h1, h2, (h3.mul h2).up (by omega)⟩
def sp_betw (K : W.Frag) : Sp := fun vs H Q _ => match vs with
  | [.ref p, .int mu, .int wh, .ref r] => ∃ a b c d : Int, SqT K H p [.int a, .int b] /\ SqT K H r [.int c, .int d] /\ Nb a 1000 /\ Nb b 1000 /\ Nb c 1000 /\ Nb d 1000 /\ Nb mu 1000 /\ Nb wh 1000 /\ a * wh <= mu * b /\ mu * d <= c * wh /\ Q (.bl true) H
  | _ => False
theorem sp_betw_mono : SpMono (sp_betw K) := fun vs H Q Q' E h q => by
  unfold sp_betw at *
  split at q
  . revert q; repeat' first | exact h _ _ | exact newL_mono h | exact out_mono h | exact outT_mono h | walk_at "m"
  . exact q.elim
theorem ok__law_between : FnOk P w K mg base CX0 1 T.f__law_between T.d__law_between ["_law_low", "_law_much", "_law_whole", "_law_high"] (sp_betw K) := by
  skip
  refine T.F__law_between.ok sc__law_between (fun vs H Q E h => by unfold sp_betw at h; split at h <;> first | rfl | exact h.elim) (fun cdv A outer s H vs Q E hr h => ?_)
  have hu := hu60 hr
  skip
  unfold sp_betw at h
  split at h
  rotate_left
  . exact h.elim
  rename_i p mu wh r
  obtain ⟨a, b, c, d, hp, hr', n1, n2, n3, n4, n5, n6, h1, h2, q⟩ := h
  refine ⟨_, (@pss_one _ _ _ (@ps_ret _ _ _ _ (@pe_andM _ _ _ _ _ _ _ (@pe_cmpM _ _ _ _ _ _ _ _ om_le (@pe_op _ _ _ _ _ _ _ _ om_mul (@kIx _ K _ _ _ _ _ (@vw _ 0 _ _ (by walk_at "v")) (@pe_int _ _ _ _) (by intro _ _; rfl) (by rfl)) (@vw _ 2 _ _ (by walk_at "v"))) (@pe_op _ _ _ _ _ _ _ _ om_mul (@vw _ 1 _ _ (by walk_at "v")) (@kIx _ K _ _ _ _ _ (@vw _ 0 _ _ (by walk_at "v")) (@pe_int _ _ _ _) (by intro _ _; rfl) (by rfl))) (by walk_at "n")) (@pe_one _ _ _ _ _ (@pe_cmpM _ _ _ _ _ _ _ _ om_le (@pe_op _ _ _ _ _ _ _ _ om_mul (@vw _ 1 _ _ (by walk_at "v")) (@kIx _ K _ _ _ _ _ (@vw _ 3 _ _ (by walk_at "v")) (@pe_int _ _ _ _) (by intro _ _; rfl) (by rfl))) (@pe_op _ _ _ _ _ _ _ _ om_mul (@kIx _ K _ _ _ _ _ (@vw _ 3 _ _ (by walk_at "v")) (@pe_int _ _ _ _) (by intro _ _; rfl) (by rfl)) (@vw _ 2 _ _ (by walk_at "v"))) (by walk_at "n")))))), ?_⟩
  refine ⟨_, .int a, .inr hp, atI_of (n := 0) rfl rfl, Nb.okMul (n1.up (by omega)) (n6.up (by omega)), _, .int b, .inr hp, atI_of (n := 1) rfl rfl, Nb.okMul (n5.up (by omega)) (n2.up (by omega)), ?_⟩
  refine ite2 (fun _ => ?_) (fun e => absurd (decide_eq_true h1) e)
  refine ⟨_, .int d, .inr hr', atI_of (n := 1) rfl rfl, Nb.okMul (n5.up (by omega)) (n4.up (by omega)), _, .int c, .inr hr', atI_of (n := 0) rfl rfl, Nb.okMul (n3.up (by omega)) (n6.up (by omega)), ?_⟩
  have e0 : decide (mu * d <= c * wh) = true := decide_eq_true h2
  rw [<- e0] at q
  exact q
def sp_staying (K : W.Frag) : Sp := fun vs H Q _ => match vs with
  | [.ref tp, .ref ps] => ∃ (m : Nat) (bs : List Bool) (x y : Int), m <= 6 /\ bs.length = 2 ^ m /\ SqT K H tp (bs.map V.bl) /\ SqT K H ps [.int x, .int y] /\ Nb x 66 /\ Nb y 66 /\ ∀ H', Same H H' -> Q (.int (muchTo bs m x y (2 ^ m))) H'
  | _ => False
theorem sp_staying_mono : SpMono (sp_staying K) := fun vs H Q Q' E h q => by
  unfold sp_staying at *
  split at q
  . revert q; repeat' first | exact h _ _ | exact newL_mono h | exact out_mono h | exact outT_mono h | walk_at "m"
  . exact q.elim
theorem ok__law_staying : FnOk P w K mg base CX0 2 T.f__law_staying T.d__law_staying ["_law_table_here", "_law_share_here"] (sp_staying K) := by
  have G__law_many := ok__law_many (P := P) (w := w) (base := base) T; have G__law_power := ok__law_power (P := P) (w := w) (base := base) T
  refine T.F__law_staying.ok sc__law_staying (fun vs H Q E h => by unfold sp_staying at h; split at h <;> first | rfl | exact h.elim) (fun cdv A outer s H vs Q E hr h => ?_)
  have hu := hu60 hr
  have mo6 : SpMono sp_many := sp_many_mono
  have mo7 : SpMono sp_power := sp_power_mono
  have hr__law_many := hr.mono (show 1 <= _ by decide); have hr__law_power := hr.mono (show 1 <= _ by decide)
  unfold sp_staying at h
  split at h
  rotate_left
  . exact h.elim
  rename_i tp ps
  obtain ⟨m, bs, x, y, m6, hb, ht, hps, nx, ny, q⟩ := h
  have h64 : 2 ^ m <= 64 := Nat.pow_le_pow_right (n := 2) (by decide) m6
  have i1 : ((2 ^ m : Nat) : Int) <= 64 := Int.ofNat_le.mpr h64
  have hbits := bits_pow m (by omega)
  refine ⟨_, (@pss_cons _ _ _ _ _ (@ps_set _ _ 2 _ _ _ _ sc__law_staying.nd rfl (by walk_at "e") (@pe_callB _ _ _ _ _ _ _ _ _ (kLen (K := K)) rfl T.z_len (by rfl) (@pa1 _ _ _ (@vw _ 0 _ _ (by walk_at "v")) (by rfl)) (by decide) (by decide) (by rfl) (by rfl)) (by rfl) (by walk_at "i")) (@pss_cons _ _ _ _ _ (@ps_set _ _ 3 _ _ _ _ sc__law_staying.nd rfl (by walk_at "e") (@pe_op _ _ _ _ _ _ _ _ om_sub (@kBitlen _ K _ _ _ _ (@vw _ 2 _ _ (by walk_at "v")) (by rfl) (by rfl) (by rfl)) (@pe_int _ _ _ _)) (by rfl) (by walk_at "i")) (@pss_cons _ _ _ _ _ (@ps_asg _ _ _ _ _ _ (@vw _ 1 _ _ (by walk_at "v")) (@kTupA _ K _ _ _ _ 2 rfl (@pgs_cons _ _ _ _ _ (@pg_name _ _ 4 _ sc__law_staying.nd rfl (by walk_at "e") (by walk_at "i")) (@pgs_cons _ _ _ _ _ (@pg_name _ _ 5 _ sc__law_staying.nd rfl (by walk_at "e") (by walk_at "i")) (@pgs_nil _) (by rfl)) (by rfl)) (by rfl) (by rfl) (by rfl)) (by rfl) (by rfl) (by rfl)) (@pss_cons _ _ _ _ _ (@ps_set _ _ 6 _ _ _ _ sc__law_staying.nd rfl (by walk_at "e") (@pe_int _ _ _ _) (by rfl) (by walk_at "i")) (@pss_cons _ _ _ _ _ (@ps_for _ _ _ _ _ _ _ _ PassesOwn.never rfl (@pi_range1 _ _ _ _ _ _ rfl T.z_range (@pa1 _ _ _ (@vw _ 2 _ _ (by walk_at "v")) (by rfl)) (by rfl)) (@pg_name _ _ 7 _ sc__law_staying.nd rfl (by walk_at "e") (by walk_at "i")) (@pss_cons _ _ _ _ _ (@ps_set _ _ 8 _ _ _ _ sc__law_staying.nd rfl (by walk_at "e") (@pe_call _ _ _ _ _ _ _ _ _ _ _ _ _ _ _ _ G__law_many hr__law_many rfl T.m__law_many T.F__law_many.kp T.b__law_many .nil pass0 (@pa1 _ _ _ (@vw _ 7 _ _ (by walk_at "v")) (by rfl)) (by decide) (by rfl) (by rfl)) (by rfl) (by walk_at "i")) (@pss_cons _ _ _ _ _ (@ps_set _ _ 9 _ _ _ _ sc__law_staying.nd rfl (by walk_at "e") (@pe_callB _ _ _ _ _ _ _ _ _ (kLen (K := K)) rfl T.z_len (by rfl) (@pa1 _ _ _ (@pe_compB _ _ _ _ _ _ _ (["_law_p", "_law_table_here", "_law_some"]) 1 ([0, 7]) _ _ _ _ rfl (@pi_range1 _ _ _ _ _ _ rfl T.z_range (@pa1 _ _ _ (@vw _ 2 _ _ (by walk_at "v")) (by rfl)) (by rfl)) (by kernel_rfl) rfl rfl (by kernel_rfl) (fun c => @pg_name _ _ 0 _ (show (["_law_p", "_law_table_here", "_law_some"] : List Str).Nodup by decide +kernel) rfl (by walk_at "e") (by walk_at "i")) (go_name (by decide)) (fun c => @pts_one _ _ _ (@tu_cmp _ _ _ _ _ _ _ _ (kEq (K := K) hu) (@kIx _ K _ _ _ _ _ (@vw _ 1 _ _ (by walk_at "v")) (@vw _ 0 _ _ (by walk_at "v")) (by intro _ _; rfl) (by rfl)) (@kIx _ K _ _ _ _ _ (@vw _ 1 _ _ (by walk_at "v")) (@pe_op _ _ _ _ _ _ _ _ om_xor (@vw _ 0 _ _ (by walk_at "v")) (@vw _ 2 _ _ (by walk_at "v"))) (by intro _ _; rfl) (by rfl)) (by walk_at "n"))) (fun c => (@vw _ 0 _ _ (by walk_at "v"))) (by intro _; rfl)) (by rfl)) (by decide) (by decide) (by rfl) (by rfl)) (by rfl) (by walk_at "i")) (@pss_one _ _ _ (@ps_set _ _ 6 _ _ _ _ sc__law_staying.nd rfl (by walk_at "e") (@pe_op _ _ _ _ _ _ _ _ (kAdd (K := K)) (@vw _ 6 _ _ (by walk_at "v")) (@pe_op _ _ _ _ _ _ _ _ om_mul (@pe_op _ _ _ _ _ _ _ _ om_mul (@vw _ 9 _ _ (by walk_at "v")) (@pe_call _ _ _ _ _ _ _ _ _ _ _ _ _ _ _ _ G__law_power hr__law_power rfl T.m__law_power T.F__law_power.kp T.b__law_power .nil pass0 (@pa_cons _ _ _ _ _ (@vw _ 4 _ _ (by walk_at "v")) (@pa1 _ _ _ (@vw _ 8 _ _ (by walk_at "v")) (by rfl)) (by rfl)) (by decide) (by rfl) (by rfl))) (@pe_call _ _ _ _ _ _ _ _ _ _ _ _ _ _ _ _ G__law_power hr__law_power rfl T.m__law_power T.F__law_power.kp T.b__law_power .nil pass0 (@pa_cons _ _ _ _ _ (@pe_op _ _ _ _ _ _ _ _ om_sub (@vw _ 5 _ _ (by walk_at "v")) (@vw _ 4 _ _ (by walk_at "v"))) (@pa1 _ _ _ (@pe_op _ _ _ _ _ _ _ _ om_sub (@vw _ 3 _ _ (by walk_at "v")) (@vw _ 8 _ _ (by walk_at "v"))) (by rfl)) (by rfl)) (by decide) (by rfl) (by rfl)))) (by rfl) (by walk_at "i"))))) (by intro _; rfl)) (@pss_one _ _ _ (@ps_ret _ _ _ _ (@vw _ 6 _ _ (by walk_at "v"))))))))), ?_⟩
  refine ⟨2 ^ m, .inr ⟨_, ht, by rw [List.length_map, hb]⟩, ?_⟩
  dsimp only [gName]
  refine seq_at (fun σ H' => σ = [some (.ref tp), some (.ref ps), some (.int (2 ^ m : Nat)), some (.int m), none, none, none, none, none, none] /\ H = H') ?_ ?_ (by walk_at "sm")
  . refine ⟨rfl, ?_⟩
    dsimp only [mBitlen, tC, mSub, gName]
    rw [hbits, show ((m + 1 : Nat) : Int) - 1 = (m : Int) by omega]
    exact ⟨rfl, rfl⟩
  rintro σ _ ⟨rfl, rfl⟩
  refine seq_at (fun σ H' => σ = [some (.ref tp), some (.ref ps), some (.int (2 ^ m : Nat)), some (.int m), some (.int x), some (.int y), none, none, none, none] /\ H = H') ⟨_, .inr hps, rfl, _, _, rfl, _, _, rfl, rfl, rfl, rfl⟩ ?_ (by walk_at "sm")
  rintro σ _ ⟨rfl, rfl⟩
  refine seq_at (fun σ H' => σ = [some (.ref tp), some (.ref ps), some (.int (2 ^ m : Nat)), some (.int m), some (.int x), some (.int y), some (.int 0), none, none, none] /\ H = H') ⟨rfl, rfl⟩ ?_ (by walk_at "sm")
  rintro σ _ ⟨rfl, rfl⟩
  refine seq_at (fun σ H' => ∃ z7 z8 z9 : Option V, σ = [some (.ref tp), some (.ref ps), some (.int (2 ^ m : Nat)), some (.int m), some (.int x), some (.int y), some (.int (muchTo bs m x y (2 ^ m))), z7, z8, z9] /\ Same H H') ?_ ?_ (by walk_at "sm")
  . refine ⟨((2 ^ m : Nat) : Int), rfl, by omega, by omega, ?_⟩
    refine for_range (fun u σ H' => ∃ z7 z8 z9 : Option V, σ = [some (.ref tp), some (.ref ps), some (.int (2 ^ m : Nat)), some (.int m), some (.int x), some (.int y), some (.int (muchTo bs m x y u)), z7, z8, z9] /\ Same H H') ⟨none, none, none, rfl, Same.refl _⟩ ?_ (fun σ H' h => by rw [Int.toNat_natCast] at h; exact h)
    rintro u σ H1 hu' ⟨z7, z8, z9, rfl, s1⟩
    have hu2 : u < 2 ^ m := by omega
    have hl := manyF_le m u
    obtain ⟨k1, k2, k3, k4⟩ := much_nb (bs := bs) m6 nx ny u
    have gt := s1.sqT ht
    rw [show (0 : Int) + (u : Int) = (u : Int) from Int.zero_add _]
    dsimp only [gName]
    refine ⟨u, rfl, Nat.lt_of_lt_of_le (show u < 64 by omega) (by decide), ?_⟩
    rw [many_of hu2 (by omega)]
    dsimp only [gName]
    refine seq_at (fun σ H' => σ = [some (.ref tp), some (.ref ps), some (.int (2 ^ m : Nat)), some (.int m), some (.int x), some (.int y), some (.int (muchTo bs m x y u)), some (.int (u : Int)), some (.int (manyF m u : Nat)), some (.int (alkL bs m u))] /\ Same H H') ?_ ?_ (by walk_at "sm")
    . refine ⟨((2 ^ m : Nat) : Int), rfl, by omega, by omega, ?_⟩
      refine comp_range (fun k ys H' => H' = H1 /\ ys = iL (eqL bs u k)) ⟨rfl, rfl⟩ (fun k ys H' hk ⟨_, e⟩ => by
        have := eqL_len bs u k
        rw [e, iL_len]; exact small1000 (by omega)) ?_ ?_
      . rintro k ys H' hk ⟨rfl, rfl⟩
        have hk' : k < 2 ^ m := by omega
        have hxor : k ^^^ u < 2 ^ m := Nat.xor_lt_two_pow hk' hu2
        rw [show (0 : Int) + (k : Int) = (k : Int) from Int.zero_add _]
        refine ⟨_, .bl (gB bs k), .inr gt, gB_at (by omega), _, .bl (gB bs (k ^^^ u)), .inr gt, ?_, ?_⟩
        . rw [bitXor_nat]; exact gB_at (by omega)
        refine ite2 (fun e => ?_) (fun e => ?_)
        . have e' : ¬ matF bs u k = true := by
            unfold matF
            revert e
            cases gB bs (k ^^^ u) <;> cases gB bs k <;> simp
          refine ⟨rfl, ?_⟩
          rw [eqL_succ, if_neg e', iL_app]
          rfl
        . have e' : matF bs u k = true := by
            unfold matF
            revert e
            cases gB bs (k ^^^ u) <;> cases gB bs k <;> simp
          refine ⟨rfl, ?_⟩
          rw [eqL_succ, if_pos e', List.append_nil]
      . rintro ys H' ⟨rfl, rfl⟩ d hd
        rw [Int.toNat_natCast]
        have := eqL_len bs u (2 ^ m)
        have ea : alkL bs m u = (((eqL bs u (2 ^ m)).length : Nat) : Int) := by unfold alkL; omega
        rw [ea]
        exact ⟨(eqL bs u (2 ^ m)).length, .inl ⟨_, .of upd_same, by rw [iL_len]⟩, rfl, s1.trans (Same.upd hd)⟩
    rintro σ H2 ⟨rfl, s2⟩
    refine ⟨manyF m u, rfl, by omega, .inr ⟨nx.up (by omega), by omega⟩, Nb.okMul ((alk_nb bs m6 u).up (by omega)) (k2.up (by omega)), ?_⟩
    refine ⟨m - manyF m u, by omega, by omega, .inr ⟨(diff_nb nx ny).up (by omega), by omega⟩, Nb.okMul (k1.up (by omega)) (k3.up (by omega)), ?_⟩
    exact ⟨some (.int u), some (.int (manyF m u : Nat)), some (.int (alkL bs m u)), rfl, s2⟩
  rintro σ H1 ⟨z7, z8, z9, rfl, s1⟩
  exact q H1 s1
theorem bornD_inv {H : Hp} {m t d : Nat} {ts : List (Nat × Int)} {d1 d2 : Dv} {v : V} (h : Rep K H (.tup [matD m ts t, .tup [d1, d2], .int d]) v) : ∃ (a b c e : Addr) (v1 v2 v3 v4 : V), v = .ref a /\ SqT K H a [.ref b, .ref c, .int d] /\ SqT K H b [v1, v2] /\ SqT K H c [v3, v4] /\ Rep K H (shD (oddT m ts t) (fourN m)) v1 /\ Rep K H (shD (highT m ts t) (fourN m)) v2 /\ Rep K H d1 v3 /\ Rep K H d2 v4 := by
  obtain ⟨a, xs, e, h1, h2⟩ := rep_tup_inv h
  unfold Reps at h2
  obtain ⟨x, r, rfl, a1, h2⟩ := h2
  unfold Reps at h2
  obtain ⟨y, r, rfl, a2, h2⟩ := h2
  unfold Reps at h2
  obtain ⟨z, r, rfl, a3, h2⟩ := h2
  unfold Reps at h2
  unfold Rep at a3
  subst h2 a3
  unfold matD at a1
  obtain ⟨b, ys, rfl, b1, b2⟩ := rep_tup_inv a1
  unfold Reps at b2
  obtain ⟨v1, r, rfl, b3, b2⟩ := b2
  unfold Reps at b2
  obtain ⟨v2, r, rfl, b4, b2⟩ := b2
  unfold Reps at b2
  subst b2
  obtain ⟨c, zs, rfl, c1, c2⟩ := rep_tup_inv a2
  unfold Reps at c2
  obtain ⟨v3, r, rfl, c3, c2⟩ := c2
  unfold Reps at c2
  obtain ⟨v4, r, rfl, c4, c2⟩ := c2
  unfold Reps at c2
  subst c2
  exact ⟨a, b, c, 0, v1, v2, v3, v4, e, h1, b1, c1, b3, b4, c3, c4⟩
theorem sh_inv {H : Hp} {x y : Int} {v : V} (h : Rep K H (shD x y) v) : ∃ c, v = .ref c /\ SqT K H c [.int (shT x y), .int (shB x y)] := by
  obtain ⟨a, xs, e, h1, h2⟩ := rep_tup_inv h
  unfold Reps at h2
  obtain ⟨x, r, rfl, h0, h3⟩ := h2
  unfold Reps at h3
  obtain ⟨y, r, rfl, h4, h5⟩ := h3
  unfold Reps at h5
  unfold Rep at h0 h4
  subst h0 h4 h5
  exact ⟨a, e, h1⟩
theorem low_ok2 {S P1 P M wh mu : Int} (hS : S = M * wh) (hM : 0 < M) (hS0 : 0 < S) (h : P1 <= P) (hP : S + P = 2 * M * mu) : shT (S + P1) (2 * S) * wh <= mu * shB (S + P1) (2 * S) := by
  obtain ⟨h1, h2⟩ := sh_frac (x := S + P1) (y := 2 * S) (by omega)
  generalize shT (S + P1) (2 * S) = T0 at *
  generalize shB (S + P1) (2 * S) = B0 at *
  have h3 : (S + P1) * B0 <= (S + P) * B0 := Int.mul_le_mul_of_nonneg_right (by omega) (by omega)
  rw [<- h1, hP, hS] at h3
  have e1 : T0 * wh * (2 * M) <= mu * B0 * (2 * M) := by
    have a1 : T0 * wh * (2 * M) = T0 * (2 * (M * wh)) := by ac_rfl
    have a2 : mu * B0 * (2 * M) = 2 * M * mu * B0 := by ac_rfl
    rw [a1, a2]
    exact h3
  exact Int.le_of_mul_le_mul_right e1 (by omega)
theorem high_ok2 {S P1 P M wh mu : Int} (hS : S = M * wh) (hM : 0 < M) (hS0 : 0 < S) (h : P <= P1) (hP : S + P = 2 * M * mu) : mu * shB (S + P1) (2 * S) <= shT (S + P1) (2 * S) * wh := by
  obtain ⟨h1, h2⟩ := sh_frac (x := S + P1) (y := 2 * S) (by omega)
  generalize shT (S + P1) (2 * S) = T0 at *
  generalize shB (S + P1) (2 * S) = B0 at *
  have h3 : (S + P) * B0 <= (S + P1) * B0 := Int.mul_le_mul_of_nonneg_right (by omega) (by omega)
  rw [<- h1, hP, hS] at h3
  have e1 : mu * B0 * (2 * M) <= T0 * wh * (2 * M) := by
    have a1 : T0 * wh * (2 * M) = T0 * (2 * (M * wh)) := by ac_rfl
    have a2 : mu * B0 * (2 * M) = 2 * M * mu * B0 := by ac_rfl
    rw [a1, a2]
    exact h3
  exact Int.le_of_mul_le_mul_right e1 (by omega)
def DifW (m k : Nat) (ts : List (Nat × Int)) (d : Nat) : Prop := ∃ gr : Int, (∀ o ∈ setL m (min m k) (2 ^ m), mostT m ts o <= gr) /\ ∀ d' : Nat, d' < d -> gr < (((2 ^ m : Nat) : Int) - 2 * d') * (((2 ^ m : Nat) : Int) - 2 * d')
theorem most_has {m o : Nat} {ts : List (Nat × Int)} {bs : List Bool} (S : Has m ts (wt m (valF bs))) : sumTo (fun s => inF (wt m (valF bs)) o s * inF (wt m (valF bs)) o s) (2 ^ m) <= mostT m ts o := by
  have h := (S.part fun k => k &&& o = k).2
  have e : sumTo (fun s => inF (wt m (valF bs)) o s * inF (wt m (valF bs)) o s) (2 ^ m) = sumTo (fun k => if k &&& o = k then wt m (valF bs) k * wt m (valF bs) k else 0) (2 ^ m) := sumTo_congr fun k _ => by
    unfold inF
    split <;> simp
  rw [e]
  unfold mostT inO seenO
  split
  . rename_i c
    rw [if_pos c] at h
    exact h
  . rename_i c
    rw [if_neg c, Int.add_zero] at h
    exact h
theorem dif_ok {m k d : Nat} {ts : List (Nat × Int)} {bs : List Bool} (S : Has m ts (wt m (valF bs))) (D : DifW m k ts d) : d <= distO m bs (nearO m k bs (nearN m k)) := by
  obtain ⟨gr, h1, h2⟩ := D
  have ho := near_in m k bs
  have hw := weigh (bs := bs) (setL_mem ho)
  rw [range_sum] at hw
  have h3 := Int.le_trans hw (Int.le_trans (most_has S) (h1 _ ho))
  rcases Nat.lt_or_ge (distO m bs (nearO m k bs (nearN m k))) d with z | z
  . have := h2 _ z
    omega
  . exact z
def sp_borne (K : W.Frag) : Sp := fun vs H Q _ => match vs with
  | [.ref tp, v, .int z, .ref ps, .int fw] => ∃ (m t k d : Nat) (ts : List (Nat × Int)) (bs : List Bool) (x y : Int) (d1 d2 : Dv), m <= 6 /\ bs.length = 2 ^ m /\ SqT K H tp (bs.map V.bl) /\ Gl m ts /\ Has m ts (wt m (valF bs)) /\ Rep K H (.tup [matD m ts t, .tup [d1, d2], .int d]) v /\ StW m ts x y d1 d2 /\ DifW m k ts d /\ z = t /\ t < 2 ^ m /\ SqT K H ps [.int x, .int y] /\ 0 <= x /\ 2 * x <= y /\ 0 < y /\ Nb x 66 /\ Nb y 66 /\ fw = k /\ ∀ H', Same H H' -> Q (.bl true) H'
  | _ => False
theorem sp_borne_mono : SpMono (sp_borne K) := fun vs H Q Q' E h q => by
  unfold sp_borne at *
  split at q
  . revert q; repeat' first | exact h _ _ | exact newL_mono h | exact out_mono h | exact outT_mono h | walk_at "m"
  . exact q.elim
theorem ok__law_borne : FnOk P w K mg base CX0 4 T.f__law_borne T.d__law_borne ["_law_table_here", "_law_bounds", "_law_some", "_law_share_here", "_law_few"] (sp_borne K) := by
  have G__law_between := ok__law_between (P := P) (w := w) (base := base) T; have G__law_power := ok__law_power (P := P) (w := w) (base := base) T; have G__law_staying := ok__law_staying (P := P) (w := w) (base := base) T; have G__law_nearest := ok__law_nearest (P := P) (w := w) (base := base) T
  refine T.F__law_borne.ok sc__law_borne (fun vs H Q E h => by unfold sp_borne at h; split at h <;> first | rfl | exact h.elim) (fun cdv A outer s H vs Q E hr h => ?_)
  have hu := hu60 hr
  have mo1 : SpMono (sp_betw K) := sp_betw_mono
  have mo2 : SpMono (sp_staying K) := sp_staying_mono
  have mo3 : SpMono (sp_lnear K) := sp_lnear_mono
  have mo7 : SpMono sp_power := sp_power_mono
  have hr__law_between := hr.mono (show 1 <= _ by decide); have hr__law_power := hr.mono (show 1 <= _ by decide); have hr__law_staying := hr.mono (show 2 <= _ by decide); have hr__law_nearest := hr.mono (show 3 <= _ by decide)
  unfold sp_borne at h
  split at h
  rotate_left
  . exact h.elim
  rename_i tp v z ps fw
  obtain ⟨m, t, k, d, ts, bs, x, y, d1, d2, m6, hb, ht, G, S, hv, hSt, hD, e1, ht2, hps, x0, x2, y0, nx, ny, e2, q⟩ := h
  subst e1 e2
  have h64 : 2 ^ m <= 64 := Nat.pow_le_pow_right (n := 2) (by decide) m6
  have i1 : ((2 ^ m : Nat) : Int) <= 64 := Int.ofNat_le.mpr h64
  have i0 : (0 : Int) < ((2 ^ m : Nat) : Int) := by have := Nat.two_pow_pos m; omega
  have hbits := bits_pow m (by omega)
  obtain ⟨a, b, c, _, v1, v2, v3, v4, rfl, ha, hb1, hc1, r1, r2, r3, r4⟩ := bornD_inv hv
  obtain ⟨p1, rfl, hp1⟩ := sh_inv r1
  obtain ⟨p2, rfl, hp2⟩ := sh_inv r2
  obtain ⟨f1, f2, rfl, rfl, hP1, hP2, nf1, nf2⟩ : ∃ f1 f2 : Nat -> Int, d1 = staD m f1 x y /\ d2 = staD m f2 x y /\ stPf m f1 x y (m + 1) <= stP m (wt m (valF bs)) x y (m + 1) /\ stP m (wt m (valF bs)) x y (m + 1) <= stPf m f2 x y (m + 1) /\ (∀ j, Nb (f1 j) 20) /\ (∀ j, Nb (f2 j) 20) := by
    rcases hSt with ⟨h1, h2, h3⟩ | ⟨k1, k2, h1, h2, h3, h4, h5⟩
    . have e := sta_eq (x := x) (y := y) S h1
      exact ⟨_, _, h2, h3, by omega, by omega, lvT_nb G, lvT_nb G⟩
    . have hbd : ∀ k ∈ (darkL m ts (2 ^ m)).map (manyF m), k <= m := fun k hk => by
        obtain ⟨z, _, rfl⟩ := List.mem_map.mp hk
        exact manyF_le m z
      obtain ⟨e1, e2⟩ := sta_ok (x := x) (y := y) S x0 x2 (hbd k1 h1) (hbd k2 h2) h3
      exact ⟨_, _, h4, h5, e1, e2, lvR_nb G k1, lvR_nb G k2⟩
  obtain ⟨p3, rfl, hp3⟩ := sh_inv r3
  obtain ⟨p4, rfl, hp4⟩ := sh_inv r4
  have hml := mat_low (t := t) S
  have hO := odd_squares m bs t ht2
  have hF := four_eq m
  have hcl := matL_len bs t (2 ^ m)
  have B1 := low_ok (F := fourN m) hF i0 hml.1 hO
  have B2 := high_ok (F := fourN m) hF i0 hml.2 hO
  have hfo := four_le m6
  have hod := G.odd t
  have hre := G.rest
  have hhi : -1000000 <= highT m ts t /\ highT m ts t <= 1000000 := by unfold highT; split <;> omega
  have nb20 : ∀ {z : Int}, -1000000 <= z -> z <= 1000000 -> Nb z 20 := fun h1 h2 => by unfold Nb; omega
  have c1 := sh_small (N := 2 ^ 20) (a := oddT m ts t) (b := fourN m) (nb20 (by omega) (by omega)) (nb20 (by omega) (by omega)) (by omega)
  have c2 := sh_small (N := 2 ^ 20) (a := highT m ts t) (b := fourN m) (nb20 hhi.1 hhi.2) (nb20 (by omega) (by omega)) (by omega)
  have hW := stW_pos (m := m) y0
  have nW := stW_nb (y := y) m6 ny
  have nW2 : Nb (2 * stW m y) 950 := ((show Nb 2 2 by unfold Nb; decide).mul nW).up (by omega)
  have nP : ∀ {f : Nat -> Int}, (∀ j, Nb (f j) 20) -> Nb (stW m y + stPf m f x y (m + 1)) 950 := fun {f} hf => by
    have h1 : Nb (stPf m f x y (m + 1)) 910 := (Nb.sum (a := 900) (n := m + 1) fun j hj => (part_nbf m6 (fun j _ => hf j) nx ny j hj).2.2).up (by omega)
    exact ((nW.up (show 500 <= 910 by omega)).add h1).up (by omega)
  have c3 := sh_small (N := 2 ^ 950) (nP nf1) nW2 (by omega)
  have c4 := sh_small (N := 2 ^ 950) (nP nf2) nW2 (by omega)
  have e1 : stW m y + stP m (wt m (valF bs)) x y (m + 1) = 2 * ((2 ^ m : Nat) : Int) * muchTo bs m x y (2 ^ m) := stays_eq m bs x y
  have e2 : stW m y = ((2 ^ m : Nat) : Int) * (((2 ^ m : Nat) : Int) * y ^ m) := by
    unfold stW
    rw [show ((2 ^ (2 * m) : Nat) : Int) = ((2 ^ m : Nat) : Int) * ((2 ^ m : Nat) : Int) from four_eq m, Int.mul_assoc]
  have B3 := low_ok2 (P1 := stPf m f1 x y (m + 1)) e2 i0 hW hP1 e1
  have B4 := high_ok2 (P1 := stPf m f2 x y (m + 1)) e2 i0 hW hP2 e1
  have mn : Nb (muchTo bs m x y (2 ^ m)) 900 := (Nb.sum (f := fun u => alkL bs m u * x ^ manyF m u * (y - x) ^ (m - manyF m u)) (a := 830) (n := 2 ^ m) fun u _ => (much_nb m6 nx ny u).2.2.2).up (by omega)
  have yn : Nb (y ^ m) 400 := (ny.pow m).up (by omega)
  have Mn : Nb ((2 ^ m : Nat) : Int) 8 := by unfold Nb; omega
  have bn : Nb (((2 ^ m : Nat) : Int) * y ^ m) 410 := (Mn.mul yn).up (by omega)
  refine ⟨_, (@pss_cons _ _ _ _ _ (@ps_set _ _ 5 _ _ _ _ sc__law_borne.nd rfl (by walk_at "e") (@pe_callB _ _ _ _ _ _ _ _ _ (kLen (K := K)) rfl T.z_len (by rfl) (@pa1 _ _ _ (@vw _ 0 _ _ (by walk_at "v")) (by rfl)) (by decide) (by decide) (by rfl) (by rfl)) (by rfl) (by walk_at "i")) (@pss_cons _ _ _ _ _ (@ps_set _ _ 6 _ _ _ _ sc__law_borne.nd rfl (by walk_at "e") (@pe_callB _ _ _ _ _ _ _ _ _ (kLen (K := K)) rfl T.z_len (by rfl) (@pa1 _ _ _ (@pe_compB _ _ _ _ _ _ _ (["_law_p", "_law_table_here", "_law_some"]) 1 ([0, 2]) _ _ _ _ rfl (@pi_range1 _ _ _ _ _ _ rfl T.z_range (@pa1 _ _ _ (@vw _ 5 _ _ (by walk_at "v")) (by rfl)) (by rfl)) (by kernel_rfl) rfl rfl (by kernel_rfl) (fun c => @pg_name _ _ 0 _ (show (["_law_p", "_law_table_here", "_law_some"] : List Str).Nodup by decide +kernel) rfl (by walk_at "e") (by walk_at "i")) (go_name (by decide)) (fun c => @pts_one _ _ _ (@tu_cmp _ _ _ _ _ _ _ _ (kNe (K := K) hu) (@kIx _ K _ _ _ _ _ (@vw _ 1 _ _ (by walk_at "v")) (@vw _ 0 _ _ (by walk_at "v")) (by intro _ _; rfl) (by rfl)) (@kIx _ K _ _ _ _ _ (@vw _ 1 _ _ (by walk_at "v")) (@pe_op _ _ _ _ _ _ _ _ om_xor (@vw _ 0 _ _ (by walk_at "v")) (@vw _ 2 _ _ (by walk_at "v"))) (by intro _ _; rfl) (by rfl)) (by walk_at "n"))) (fun c => (@vw _ 0 _ _ (by walk_at "v"))) (by intro _; rfl)) (by rfl)) (by decide) (by decide) (by rfl) (by rfl)) (by rfl) (by walk_at "i")) (@pss_cons _ _ _ _ _ (@ps_if _ _ _ _ _ _ _ _ (@pt_not _ _ _ _ (@tu_val _ _ _ (@pe_call _ _ _ _ _ _ _ _ _ _ _ _ _ _ _ _ G__law_between hr__law_between rfl T.m__law_between T.F__law_between.kp T.b__law_between .nil pass0 (@pa_cons _ _ _ _ _ (@kIx _ K _ _ _ _ _ (@kIx _ K _ _ _ _ _ (@vw _ 1 _ _ (by walk_at "v")) (@pe_int _ _ _ _) (by intro _ _; rfl) (by rfl)) (@pe_int _ _ _ _) (by intro _ _; rfl) (by rfl)) (@pa_cons _ _ _ _ _ (@vw _ 6 _ _ (by walk_at "v")) (@pa_cons _ _ _ _ _ (@vw _ 5 _ _ (by walk_at "v")) (@pa1 _ _ _ (@kIx _ K _ _ _ _ _ (@kIx _ K _ _ _ _ _ (@vw _ 1 _ _ (by walk_at "v")) (@pe_int _ _ _ _) (by intro _ _; rfl) (by rfl)) (@pe_int _ _ _ _) (by intro _ _; rfl) (by rfl)) (by rfl)) (by rfl)) (by rfl)) (by rfl)) (by decide) (by rfl) (by rfl)) (by intro _; rfl))) (@pss_one _ _ _ (@ps_ret _ _ _ _ (@pe_bl _ _ _ _))) (@pss_nil _)) (@pss_cons _ _ _ _ _ (@ps_set _ _ 7 _ _ _ _ sc__law_borne.nd rfl (by walk_at "e") (@pe_op _ _ _ _ _ _ _ _ om_mul (@vw _ 5 _ _ (by walk_at "v")) (@pe_call _ _ _ _ _ _ _ _ _ _ _ _ _ _ _ _ G__law_power hr__law_power rfl T.m__law_power T.F__law_power.kp T.b__law_power .nil pass0 (@pa_cons _ _ _ _ _ (@kIx _ K _ _ _ _ _ (@vw _ 3 _ _ (by walk_at "v")) (@pe_int _ _ _ _) (by intro _ _; rfl) (by rfl)) (@pa1 _ _ _ (@pe_op _ _ _ _ _ _ _ _ om_sub (@kBitlen _ K _ _ _ _ (@vw _ 5 _ _ (by walk_at "v")) (by rfl) (by rfl) (by rfl)) (@pe_int _ _ _ _)) (by rfl)) (by rfl)) (by decide) (by rfl) (by rfl))) (by rfl) (by walk_at "i")) (@pss_cons _ _ _ _ _ (@ps_if _ _ _ _ _ _ _ _ (@pt_not _ _ _ _ (@tu_val _ _ _ (@pe_call _ _ _ _ _ _ _ _ _ _ _ _ _ _ _ _ G__law_between hr__law_between rfl T.m__law_between T.F__law_between.kp T.b__law_between .nil pass0 (@pa_cons _ _ _ _ _ (@kIx _ K _ _ _ _ _ (@kIx _ K _ _ _ _ _ (@vw _ 1 _ _ (by walk_at "v")) (@pe_int _ _ _ _) (by intro _ _; rfl) (by rfl)) (@pe_int _ _ _ _) (by intro _ _; rfl) (by rfl)) (@pa_cons _ _ _ _ _ (@pe_call _ _ _ _ _ _ _ _ _ _ _ _ _ _ _ _ G__law_staying hr__law_staying rfl T.m__law_staying T.F__law_staying.kp T.b__law_staying .nil pass0 (@pa_cons _ _ _ _ _ (@vw _ 0 _ _ (by walk_at "v")) (@pa1 _ _ _ (@vw _ 3 _ _ (by walk_at "v")) (by rfl)) (by rfl)) (by decide) (by rfl) (by rfl)) (@pa_cons _ _ _ _ _ (@vw _ 7 _ _ (by walk_at "v")) (@pa1 _ _ _ (@kIx _ K _ _ _ _ _ (@kIx _ K _ _ _ _ _ (@vw _ 1 _ _ (by walk_at "v")) (@pe_int _ _ _ _) (by intro _ _; rfl) (by rfl)) (@pe_int _ _ _ _) (by intro _ _; rfl) (by rfl)) (by rfl)) (by rfl)) (by rfl)) (by rfl)) (by decide) (by rfl) (by rfl)) (by intro _; rfl))) (@pss_one _ _ _ (@ps_ret _ _ _ _ (@pe_bl _ _ _ _))) (@pss_nil _)) (@pss_one _ _ _ (@ps_ret _ _ _ _ (@pe_cmpM _ _ _ _ _ _ _ _ om_ge (@kIx _ K _ _ _ _ _ (@pe_call _ _ _ _ _ _ _ _ _ _ _ _ _ _ _ _ G__law_nearest hr__law_nearest rfl T.m__law_nearest T.F__law_nearest.kp T.b__law_nearest .nil pass0 (@pa_cons _ _ _ _ _ (@vw _ 0 _ _ (by walk_at "v")) (@pa1 _ _ _ (@vw _ 4 _ _ (by walk_at "v")) (by rfl)) (by rfl)) (by decide) (by rfl) (by rfl)) (@pe_int _ _ _ _) (by intro _ _; rfl) (by rfl)) (@kIx _ K _ _ _ _ _ (@vw _ 1 _ _ (by walk_at "v")) (@pe_int _ _ _ _) (by intro _ _; rfl) (by rfl)) (by walk_at "n"))))))))), ?_⟩
  refine ⟨2 ^ m, .inr ⟨_, ht, by rw [List.length_map, hb]⟩, ?_⟩
  dsimp only [gName]
  refine seq_at (fun σ H' => σ = [some (.ref tp), some (.ref a), some (.int (t : Int)), some (.ref ps), some (.int (k : Int)), some (.int (2 ^ m : Nat)), some (.int ((matL bs t (2 ^ m)).length : Nat)), none] /\ Same H H') ?_ ?_ (by walk_at "sm")
  . refine ⟨((2 ^ m : Nat) : Int), rfl, by omega, by omega, ?_⟩
    refine comp_range (fun k ys H' => H' = H /\ ys = iL (matL bs t k)) ⟨rfl, rfl⟩ (fun k ys H' hk ⟨_, e⟩ => by
      have := matL_len bs t k
      rw [e, iL_len]; exact small1000 (by omega)) ?_ ?_
    . rintro k ys H' hk ⟨rfl, rfl⟩
      have hk' : k < 2 ^ m := by omega
      have hxor : k ^^^ t < 2 ^ m := Nat.xor_lt_two_pow hk' ht2
      rw [show (0 : Int) + (k : Int) = (k : Int) from Int.zero_add _]
      refine ⟨_, .bl (gB bs k), .inr ht, gB_at (by omega), _, .bl (gB bs (k ^^^ t)), .inr ht, ?_, ?_⟩
      . rw [bitXor_nat]; exact gB_at (by omega)
      refine ite2 (fun e => ?_) (fun e => ?_)
      . have e' : matF bs t k = true := by
          unfold matF
          revert e
          cases gB bs (k ^^^ t) <;> cases gB bs k <;> simp
        refine ⟨rfl, ?_⟩
        rw [matL_succ, if_pos e', iL_app]
        rfl
      . have e' : ¬ matF bs t k = true := by
          unfold matF
          revert e
          cases gB bs (k ^^^ t) <;> cases gB bs k <;> simp
        refine ⟨rfl, ?_⟩
        rw [matL_succ, if_neg e', List.append_nil]
    . rintro ys H' ⟨rfl, rfl⟩ d hd
      rw [Int.toNat_natCast]
      exact ⟨(matL bs t (2 ^ m)).length, .inl ⟨_, .of upd_same, by rw [iL_len]⟩, rfl, Same.upd hd⟩
  rintro σ H1 ⟨rfl, s1⟩
  refine seq_at (fun σ H' => σ = [some (.ref tp), some (.ref a), some (.int (t : Int)), some (.ref ps), some (.int (k : Int)), some (.int (2 ^ m : Nat)), some (.int ((matL bs t (2 ^ m)).length : Nat)), none] /\ H1 = H') ?_ ?_ (by walk_at "sm")
  . refine if_val false ?_ ?_
    . intro Q q
      exact ⟨_, _, .inr (s1.sqT ha), atI_of (n := 0) rfl rfl, _, .ref p1, .inr (s1.sqT hb1), atI_of (n := 0) rfl rfl, _, _, .inr (s1.sqT ha), atI_of (n := 0) rfl rfl, _, .ref p2, .inr (s1.sqT hb1), atI_of (n := 1) rfl rfl, _, _, _, _, s1.sqT hp1, s1.sqT hp2, (show Nb _ 20 from c1.1).up (by omega), (show Nb _ 20 from c1.2.1).up (by omega), (show Nb _ 20 from c2.1).up (by omega), (show Nb _ 20 from c2.2.1).up (by omega), (nb20 (by omega) (by omega)).up (by omega), Mn.up (by omega), B1, B2, q⟩
    . exact iteF ⟨rfl, rfl⟩
  rintro σ _ ⟨rfl, rfl⟩
  refine seq_at (fun σ H' => σ = [some (.ref tp), some (.ref a), some (.int (t : Int)), some (.ref ps), some (.int (k : Int)), some (.int (2 ^ m : Nat)), some (.int ((matL bs t (2 ^ m)).length : Nat)), some (.int (((2 ^ m : Nat) : Int) * y ^ m))] /\ H1 = H') ?_ ?_ (by walk_at "sm")
  . refine ⟨_, .int y, .inr (s1.sqT hps), atI_of (n := 1) rfl rfl, rfl, ?_⟩
    dsimp only [mBitlen, tC, mSub, gName]
    rw [hbits, show ((m + 1 : Nat) : Int) - 1 = (m : Int) by omega]
    exact ⟨m, rfl, by omega, .inr ⟨ny.up (by omega), by omega⟩, Nb.okMul (Mn.up (by omega)) (yn.up (by omega)), rfl, rfl⟩
  rintro σ _ ⟨rfl, rfl⟩
  refine seq_at (fun σ H' => σ = [some (.ref tp), some (.ref a), some (.int (t : Int)), some (.ref ps), some (.int (k : Int)), some (.int (2 ^ m : Nat)), some (.int ((matL bs t (2 ^ m)).length : Nat)), some (.int (((2 ^ m : Nat) : Int) * y ^ m))] /\ Same H H') ?_ ?_ (by walk_at "sm")
  . refine if_same false ?_ ?_
    . intro Q q
      refine ⟨_, _, .inr (s1.sqT ha), atI_of (n := 1) rfl rfl, _, .ref p3, .inr (s1.sqT hc1), atI_of (n := 0) rfl rfl, m, bs, x, y, m6, hb, s1.sqT ht, s1.sqT hps, nx, ny, fun H2 s2 => ?_⟩
      have s12 := s1.trans s2
      exact ⟨_, _, .inr (s12.sqT ha), atI_of (n := 1) rfl rfl, _, .ref p4, .inr (s12.sqT hc1), atI_of (n := 1) rfl rfl, _, _, _, _, s12.sqT hp3, s12.sqT hp4, (show Nb _ 950 from c3.1).up (by omega), (show Nb _ 950 from c3.2.1).up (by omega), (show Nb _ 950 from c4.1).up (by omega), (show Nb _ 950 from c4.2.1).up (by omega), mn.up (by omega), bn.up (by omega), B3, B4, q _ s2⟩
    . exact fun H' s => iteF ⟨rfl, s1.trans s⟩
  rintro σ H2 ⟨rfl, s2⟩
  refine ⟨m, k, bs, s2.sqT ht, hb, m6, rfl, fun u H3 s3 r3' => ?_⟩
  obtain ⟨ua, ux, rfl, hua⟩ := best_at r3'
  refine ⟨_, _, .inr hua, atI_of (n := 1) rfl rfl, _, _, .inr ((s2.trans s3).sqT ha), atI_of (n := 2) rfl rfl, ?_⟩
  have hdd := dif_ok S hD
  have e0 : decide (((d : Nat) : Int) <= (((difL (bestB m (wt m (valF bs)) (nearO m k bs (nearN m k))) bs (2 ^ m)).length : Nat) : Int)) = true := decide_eq_true (by
    have : distO m bs (nearO m k bs (nearN m k)) = (difL (bestB m (wt m (valF bs)) (nearO m k bs (nearN m k))) bs (2 ^ m)).length := rfl
    omega)
  have q' := q _ (s2.trans s3)
  rw [<- e0] at q'
  exact q'
theorem dep_terms : ∀ ts : List (Nat × Int), depDs (ts.map termD) <= 1
  | [] => by simp [depDs]
  | t :: ts => by
    rw [List.map_cons]
    unfold depDs
    have : depD (termD t) = 1 := by simp [termD, depD, depDs]
    have := dep_terms ts
    omega
theorem terms_nil (ts : List (Nat × Int)) : eqD (.lst (ts.map termD)) (.lst []) = decide (ts = []) := by
  rw [eqD_lst]
  cases ts with
  | nil => simp [eqDs]
  | cons c cs => simp [eqDs]
def sp_has (K : W.Frag) : Sp := fun vs H Q _ => match vs with
  | [.ref tp, .ref b] => ∃ (m : Nat) (bs : List Bool) (ts : List (Nat × Int)) (us : List V), 1 <= m /\ m <= 6 /\ bs.length = 2 ^ m /\ SqT K H tp (bs.map V.bl) /\ Gl m ts /\ SqT K H b us /\ Reps K H (ts.map termD) us /\ ∀ e H', Same H H' -> (e = true -> ∀ q ∈ ts, wt m (valF bs) q.1 = q.2) -> Q (.bl e) H'
  | _ => False
theorem sp_has_mono : SpMono (sp_has K) := fun vs H Q Q' E h q => by
  unfold sp_has at *
  split at q
  . revert q; repeat' first | exact h _ _ | exact newL_mono h | exact out_mono h | exact outT_mono h | walk_at "m"
  . exact q.elim
theorem ok__law_has : FnOk P w K mg base CX0 2 T.f__law_has T.d__law_has ["_law_table_here", "_law_terms"] (sp_has K) := by
  have G__law_sum := ok__law_sum (P := P) (w := w) (base := base) T
  refine T.F__law_has.ok sc__law_has (fun vs H Q E h => by unfold sp_has at h; split at h <;> first | rfl | exact h.elim) (fun cdv A outer s H vs Q E hr h => ?_)
  have hu := hu60 hr
  have mo2 : SpMono (sp_fsum K) := sp_fsum_mono
  have hr__law_sum := hr.mono (show 1 <= _ by decide)
  unfold sp_has at h
  split at h
  rotate_left
  . exact h.elim
  rename_i tp b
  obtain ⟨m, bs, ts, us, m1, m6, hb, ht, G, hbb, hR, q⟩ := h
  have h64 : 2 ^ m <= 64 := Nat.pow_le_pow_right (n := 2) (by decide) m6
  have htl := termG_len (wt m (valF bs)) (2 ^ m)
  have hul : us.length = ts.length := by have := hR.length; rw [List.length_map] at this; omega
  have tl := G.len
  refine ⟨_, (@pss_cons _ _ _ _ _ (@ps_set _ _ 2 _ _ _ _ sc__law_has.nd rfl (by walk_at "e") (@pe_callTy _ _ _ _ _ _ _ _ _ (kDict (K := K) rfl) rfl T.z_dict (by rfl) (@pa1 _ _ _ (@kIx _ K _ _ _ _ _ (@pe_call _ _ _ _ _ _ _ _ _ _ _ _ _ _ _ _ G__law_sum hr__law_sum rfl T.m__law_sum T.F__law_sum.kp T.b__law_sum .nil pass0 (@pa1 _ _ _ (@vw _ 0 _ _ (by walk_at "v")) (by rfl)) (by decide) (by rfl) (by rfl)) (@pe_int _ _ _ _) (by intro _ _; rfl) (by rfl)) (by rfl)) (by decide) (by decide) (by rfl) (by rfl)) (by rfl) (by walk_at "i")) (@pss_one _ _ _ (@ps_ret _ _ _ _ (@pe_cmpM _ _ _ _ _ _ _ _ (kEq (K := K) hu) (@pe_compB _ _ _ _ _ _ _ (["_law_one", "_law_weights"]) 1 [2] _ _ _ _ rfl (@kSeq _ K _ _ _ (@vw _ 1 _ _ (by walk_at "v")) (by rfl)) (by kernel_rfl) rfl rfl (by kernel_rfl) (fun c => @pg_name _ _ 0 _ (show (["_law_one", "_law_weights"] : List Str).Nodup by decide +kernel) rfl (by walk_at "e") (by walk_at "i")) (go_name (by decide)) (fun c => @pts_one _ _ _ (@tu_cmp _ _ _ _ _ _ _ _ (kNe (K := K) hu) (@pe_dget2 _ _ _ _ _ _ _ _ _ (hu_one hu) (@vw _ 1 _ _ (by walk_at "v")) (@kIx _ K _ _ _ _ _ (@vw _ 0 _ _ (by walk_at "v")) (@pe_int _ _ _ _) (by intro _ _; rfl) (by rfl)) (@pe_int _ _ _ _) ⟨by rfl, by rfl, by rfl, by rfl⟩) (@kIx _ K _ _ _ _ _ (@vw _ 0 _ _ (by walk_at "v")) (@pe_int _ _ _ _) (by intro _ _; rfl) (by rfl)) (by walk_at "n"))) (fun c => (@vw _ 0 _ _ (by walk_at "v"))) (by intro _; rfl)) (@pe_lst _ _ _ _ (@pa_nil _)) (by walk_at "n"))))), ?_⟩
  refine seq_at (fun σ H' => ∃ d : Addr, σ = [some (.ref tp), some (.ref b), some (.ref d)] /\ Same H H' /\ H' d = some (.dK (dkT (termG (wt m (valF bs)) (2 ^ m))))) ?_ ?_ (by walk_at "sm")
  . refine ⟨m, bs, m1, m6, hb, ht, fun v H1 s1 S => ?_⟩
    obtain ⟨a', b', us', rfl, ha, hbb', hR'⟩ := S.at_
    have hul : us'.length = (termG (wt m (valF bs)) (2 ^ m)).length := by have := hR'.length; rw [List.length_map] at this; omega
    refine ⟨_, _, .inr ha, rfl, us', (termG (wt m (valF bs)) (2 ^ m)).map fun t => ((t.1 : Int), t.2), hbb', by rw [List.length_map]; exact hul, by rw [List.length_map]; omega, fun j kv hkv => ?_, ?_, fun d hd => ?_⟩
    . rw [List.getElem?_map] at hkv
      cases et : (termG (wt m (valF bs)) (2 ^ m))[j]? with
      | none => rw [et] at hkv; cases hkv
      | some t =>
        rw [et] at hkv
        cases hkv
        have hj : j < us'.length := by rw [hul]; exact (List.getElem?_eq_some_iff.mp et).1
        obtain ⟨t', c, h1, h2, h3⟩ := reps_terms_at hR' (List.getElem?_eq_getElem hj)
        rw [et] at h1
        cases h1
        exact ⟨c, by rw [List.getElem?_eq_getElem hj, h2], h3⟩
    . rw [List.map_map]
      exact termG_keys _ _
    . dsimp only [gName]
      rw [List.map_map]
      have ed : (termG (wt m (valF bs)) (2 ^ m)).map ((fun kv => ((Sum.inl kv.1 : Key), V.int kv.2)) ∘ fun t => ((t.1 : Int), t.2)) = dkT (termG (wt m (valF bs)) (2 ^ m)) := rfl
      rw [ed]
      exact ⟨d, rfl, s1.trans (Same.upd hd), upd_same⟩
  rintro σ H1 ⟨d, rfl, s1, gd⟩
  have hg := fun k hk => dkT_get (wt m (valF bs)) k (2 ^ m) hk
  generalize dkT (termG (wt m (valF bs)) (2 ^ m)) = kvs at *
  refine .inr ⟨⟨_, s1.sqT hbb⟩, ?_⟩
  refine comp_tup (xs := us) (fun i ys H' => H' = H1 /\ Reps K H1 (((ts.take i).filter fun q => decide (¬ wt m (valF bs) q.1 = q.2)).map termD) ys) ⟨rfl, reps_nil⟩ (fun i ys H' _ ⟨e, _⟩ => by rw [e]; exact s1.sqT hbb) (fun i ys H' hi ⟨_, e⟩ => by
    have h1 := e.length
    have h2 := List.length_filter_le (fun q => decide (¬ wt m (valF bs) q.1 = q.2)) (ts.take i)
    rw [List.length_map] at h1
    rw [List.length_take] at h2
    exact small1000 (by omega)) ?_ ?_
  . rintro i x ys H' hx ⟨rfl, hY⟩
    obtain ⟨⟨k, wgt⟩, c, hq, rfl, hc⟩ := reps_terms_at hR hx
    have hk : k < 2 ^ m := (G.ok _ (List.mem_of_getElem? hq)).1
    have hc1 := s1.sqT hc
    refine ⟨d, rfl, .inl ⟨_, .inl gd⟩, _, .int (k : Int), .inr hc1, atI_of (n := 0) rfl rfl, _, DGet.k (k := .inl (k : Int)) gd, ?_⟩
    rw [hg k hk]
    refine ⟨_, .int wgt, .inr hc1, atI_of (n := 1) rfl rfl, ?_⟩
    rw [List.take_add_one, hq, List.filter_append]
    refine ite2 (fun e => ?_) (fun e => ?_)
    . have e' : ¬ wt m (valF bs) k = wgt := by simpa using e
      refine ⟨rfl, ?_⟩
      have ef : (Option.some (k, wgt)).toList.filter (fun q => decide (¬ wt m (valF bs) q.1 = q.2)) = [(k, wgt)] := by
        show [(k, wgt)].filter _ = _
        simp [e']
      rw [ef, List.map_append]
      exact hY.append (reps_cons (rep_tup2 hc1 (reps_cons rep_int (reps_cons rep_int reps_nil))) reps_nil)
    . have e' : wt m (valF bs) k = wgt := by simpa using e
      refine ⟨rfl, ?_⟩
      have ef : (Option.some (k, wgt)).toList.filter (fun q => decide (¬ wt m (valF bs) q.1 = q.2)) = [] := by
        show [(k, wgt)].filter _ = _
        simp [e']
      rw [ef, List.append_nil]
      exact hY
  . rintro ys H' ⟨rfl, hY⟩ l hl
    rw [List.take_of_length_le (by omega)] at hY
    refine ⟨Nat.zero_le _, fun p np => ?_⟩
    have s2 := Same.upd (o := .lst ys) hl
    have s3 := Same.upd (o := .lst []) np
    refine ⟨.lst ((ts.filter fun q => decide (¬ wt m (valF bs) q.1 = q.2)).map termD), .lst [], by unfold Rep; exact ⟨l, ys, rfl, .of (s3 _ _ upd_same), Reps.same (s2.trans s3) _ _ hY⟩, by unfold Rep; exact ⟨p, [], rfl, .of upd_same, reps_nil⟩, by have := dep_terms (ts.filter fun q => decide (¬ wt m (valF bs) q.1 = q.2)); show depDs _ + 1 <= 60; omega, ?_⟩
    rw [terms_nil]
    refine q _ _ (s1.trans (s2.trans s3)) fun he x hx => ?_
    have he : (ts.filter fun q => decide (¬ wt m (valF bs) q.1 = q.2)) = [] := by simpa using he
    have := List.filter_eq_nil_iff.mp he x hx
    simpa using this
def TbA (H : Hp) (m : Nat) (y : V) : Prop := ∃ (p : Addr) (cs : List Bool), y = .ref p /\ cs.length = 2 ^ m /\ H p = some (.tup (cs.map V.bl))
theorem TbA.same {H H' : Hp} {m : Nat} {y : V} (h : TbA H m y) (s : Same H H') : TbA H' m y := let ⟨p, cs, h1, h2, h3⟩ := h; ⟨p, cs, h1, h2, s _ _ h3⟩
theorem TbA.frm {H H' : Hp} {m : Nat} {y : V} {t : Addr} (h : TbA H m y) (F : Feed H t) (f : Frm t H H') : TbA H' m y := let ⟨p, cs, h1, h2, h3⟩ := h; ⟨p, cs, h1, h2, f _ _ (fun e => by obtain ⟨zs, hz⟩ := F.lst; rw [e, hz] at h3; cases h3) h3⟩
theorem ok_law : FnOk P w K mg base CX0 6 T.f_law T.d_law ["_law_script"] (spLaw K) := by
  have G__law_feed := ok__law_feed (P := P) (w := w) (base := base) T; have G__law_table := ok__law_table (P := P) (w := w) (base := base) T; have G__law_glance := ok__law_glance (P := P) (w := w) (base := base) T; have G__law_draw := ok__law_draw (P := P) (w := w) (base := base) T; have G__law_shaking := ok__law_shaking (P := P) (w := w) (base := base) T; have G_matters_within := ok_matters_within (P := P) (w := w) (base := base) T; have G_stays_within := ok_stays_within (P := P) (w := w) (base := base) T; have G_differ_at_least := ok_differ_at_least (P := P) (w := w) (base := base) T; have G__law_n := ok__law_n (P := P) (w := w) (base := base) T; have G__law_has := ok__law_has (P := P) (w := w) (base := base) T; have G__law_borne := ok__law_borne (P := P) (w := w) (base := base) T
  refine T.F_law.ok sc_law (fun vs H Q E h => by obtain ⟨a, ns, rfl, _⟩ := h; rfl) (fun cdv A outer s H vs Q E hr h => ?_)
  have hu := hu60 hr
  have mo0 : SpMono sp_shaking := sp_shaking_mono
  have mo1 : SpMono (sp_glmade K) := sp_glmade_mono
  have mo2 : SpMono sp_fn := sp_fn_mono
  have mo3 : SpMono sp_ftable := sp_ftable_mono
  have mo4 : SpMono (sp_matw K) := sp_matw_mono
  have mo5 : SpMono (sp_stw K) := sp_stw_mono
  have mo6 : SpMono (sp_difl K) := sp_difl_mono
  have mo7 : SpMono (sp_borne K) := sp_borne_mono
  have mo8 : SpMono (sp_has K) := sp_has_mono
  have hr__law_feed := hr.mono (show 1 <= _ by decide); have hr__law_table := hr.mono (show 2 <= _ by decide); have hr__law_glance := hr.mono (show 2 <= _ by decide); have hr__law_draw := hr.mono (show 1 <= _ by decide); have hr__law_shaking := hr.mono (show 2 <= _ by decide); have hr_matters_within := hr.mono (show 5 <= _ by decide); have hr_stays_within := hr.mono (show 5 <= _ by decide); have hr_differ_at_least := hr.mono (show 5 <= _ by decide); have hr__law_n := hr.mono (show 2 <= _ by decide); have hr__law_has := hr.mono (show 2 <= _ by decide); have hr__law_borne := hr.mono (show 4 <= _ by decide)
  obtain ⟨a, ns, rfl, hsq, hlen, q⟩ := h
  refine ⟨_, (@pss_cons _ _ _ _ _ (@ps_for _ _ _ _ _ _ _ _ PassesOwn.never rfl (@pi_range1 _ _ _ _ _ _ rfl T.z_range (@pa1 _ _ _ (@pe_int _ _ _ _) (by rfl)) (by rfl)) (@pg_name _ _ 1 _ sc_law.nd rfl (by walk_at "e") (by walk_at "i")) (@pss_cons _ _ _ _ _ (@ps_set _ _ 2 _ _ _ _ sc_law.nd rfl (by walk_at "e") (@pe_call _ _ _ _ _ _ _ _ _ _ _ _ _ _ _ _ G__law_feed hr__law_feed rfl T.m__law_feed T.F__law_feed.kp T.b__law_feed .nil pass0 (@pa_cons _ _ _ _ _ (@vw _ 0 _ _ (by walk_at "v")) (@pa1 _ _ _ (@vw _ 1 _ _ (by walk_at "v")) (by rfl)) (by rfl)) (by decide) (by rfl) (by rfl)) (by rfl) (by walk_at "i")) (@pss_cons _ _ _ _ _ (@ps_set _ _ 3 _ _ _ _ sc_law.nd rfl (by walk_at "e") (@kIx _ K _ _ _ _ _ (@pe_lst _ _ _ _ (@pa_cons _ _ _ _ _ (@pe_op _ _ _ _ _ _ _ _ (kAdd (K := K)) (@pe_int _ _ _ _) (@pe_call _ _ _ _ _ _ _ _ _ _ _ _ _ _ _ _ G__law_draw hr__law_draw rfl T.m__law_draw T.F__law_draw.kp T.b__law_draw .nil pass0 (@pa_cons _ _ _ _ _ (@vw _ 2 _ _ (by walk_at "v")) (@pa1 _ _ _ (@pe_int _ _ _ _) (by rfl)) (by rfl)) (by decide) (by rfl) (by rfl))) (@pa1 _ _ _ (@pe_call _ _ _ _ _ _ _ _ _ _ _ _ _ _ _ _ G__law_n hr__law_n rfl T.m__law_n T.F__law_n.kp T.b__law_n .nil pass0 (@pa1 _ _ _ (@vw _ 2 _ _ (by walk_at "v")) (by rfl)) (by decide) (by rfl) (by rfl)) (by rfl)) (by rfl))) (@vw _ 1 _ _ (by walk_at "v")) (by intro _ _; rfl) (by rfl)) (by rfl) (by walk_at "i")) (@pss_cons _ _ _ _ _ (@ps_set _ _ 4 _ _ _ _ sc_law.nd rfl (by walk_at "e") (@pe_call _ _ _ _ _ _ _ _ _ _ _ _ _ _ _ _ G__law_table hr__law_table rfl T.m__law_table T.F__law_table.kp T.b__law_table .nil pass0 (@pa_cons _ _ _ _ _ (@vw _ 2 _ _ (by walk_at "v")) (@pa1 _ _ _ (@vw _ 3 _ _ (by walk_at "v")) (by rfl)) (by rfl)) (by decide) (by rfl) (by rfl)) (by rfl) (by walk_at "i")) (@pss_cons _ _ _ _ _ (@ps_set _ _ 5 _ _ _ _ sc_law.nd rfl (by walk_at "e") (@pe_call _ _ _ _ _ _ _ _ _ _ _ _ _ _ _ _ G__law_glance hr__law_glance rfl T.m__law_glance T.F__law_glance.kp T.b__law_glance .nil pass0 (@pa_cons _ _ _ _ _ (@vw _ 2 _ _ (by walk_at "v")) (@pa1 _ _ _ (@vw _ 4 _ _ (by walk_at "v")) (by rfl)) (by rfl)) (by decide) (by rfl) (by rfl)) (by rfl) (by walk_at "i")) (@pss_cons _ _ _ _ _ (@ps_set _ _ 6 _ _ _ _ sc_law.nd rfl (by walk_at "e") (@pe_call _ _ _ _ _ _ _ _ _ _ _ _ _ _ _ _ G__law_draw hr__law_draw rfl T.m__law_draw T.F__law_draw.kp T.b__law_draw .nil pass0 (@pa_cons _ _ _ _ _ (@vw _ 2 _ _ (by walk_at "v")) (@pa1 _ _ _ (@pe_op _ _ _ _ _ _ _ _ om_shl (@pe_int _ _ _ _) (@vw _ 3 _ _ (by walk_at "v"))) (by rfl)) (by rfl)) (by decide) (by rfl) (by rfl)) (by rfl) (by walk_at "i")) (@pss_cons _ _ _ _ _ (@ps_set _ _ 7 _ _ _ _ sc_law.nd rfl (by walk_at "e") (@pe_call _ _ _ _ _ _ _ _ _ _ _ _ _ _ _ _ G__law_shaking hr__law_shaking rfl T.m__law_shaking T.F__law_shaking.kp T.b__law_shaking .nil pass0 (@pa_cons _ _ _ _ _ (@vw _ 2 _ _ (by walk_at "v")) (@pa1 _ _ _ (@pe_int _ _ _ _) (by rfl)) (by rfl)) (by decide) (by rfl) (by rfl)) (by rfl) (by walk_at "i")) (@pss_cons _ _ _ _ _ (@ps_set _ _ 8 _ _ _ _ sc_law.nd rfl (by walk_at "e") (@pe_call _ _ _ _ _ _ _ _ _ _ _ _ _ _ _ _ G__law_draw hr__law_draw rfl T.m__law_draw T.F__law_draw.kp T.b__law_draw .nil pass0 (@pa_cons _ _ _ _ _ (@vw _ 2 _ _ (by walk_at "v")) (@pa1 _ _ _ (@pe_int _ _ _ _) (by rfl)) (by rfl)) (by decide) (by rfl) (by rfl)) (by rfl) (by walk_at "i")) (@pss_cons _ _ _ _ _ (@ps_set _ _ 9 _ _ _ _ sc_law.nd rfl (by walk_at "e") (@pe_tup _ _ _ _ _ (@pa_cons _ _ _ _ _ (@pe_call _ _ _ _ _ _ _ _ _ _ _ _ _ _ _ _ G_matters_within hr_matters_within rfl T.m_matters_within T.F_matters_within.kp T.b_matters_within .nil pass0 (@pa_cons _ _ _ _ _ (@vw _ 5 _ _ (by walk_at "v")) (@pa1 _ _ _ (@vw _ 6 _ _ (by walk_at "v")) (by rfl)) (by rfl)) (by decide) (by rfl) (by rfl)) (@pa_cons _ _ _ _ _ (@pe_call _ _ _ _ _ _ _ _ _ _ _ _ _ _ _ _ G_stays_within hr_stays_within rfl T.m_stays_within T.F_stays_within.kp T.b_stays_within .nil pass0 (@pa_cons _ _ _ _ _ (@vw _ 5 _ _ (by walk_at "v")) (@pa1 _ _ _ (@vw _ 7 _ _ (by walk_at "v")) (by rfl)) (by rfl)) (by decide) (by rfl) (by rfl)) (@pa1 _ _ _ (@pe_call _ _ _ _ _ _ _ _ _ _ _ _ _ _ _ _ G_differ_at_least hr_differ_at_least rfl T.m_differ_at_least T.F_differ_at_least.kp T.b_differ_at_least .nil pass0 (@pa_cons _ _ _ _ _ (@vw _ 5 _ _ (by walk_at "v")) (@pa1 _ _ _ (@vw _ 8 _ _ (by walk_at "v")) (by rfl)) (by rfl)) (by decide) (by rfl) (by rfl)) (by rfl)) (by rfl)) (by rfl))) (by rfl) (by walk_at "i")) (@pss_cons _ _ _ _ _ (@ps_set _ _ 10 _ _ _ _ sc_law.nd rfl (by walk_at "e") (@pe_lst _ _ _ _ (@pa1 _ _ _ (@vw _ 4 _ _ (by walk_at "v")) (by rfl))) (by rfl) (by walk_at "i")) (@pss_cons _ _ _ _ _ (@ps_if _ _ _ _ _ _ _ _ (@tu_cmp _ _ _ _ _ _ _ _ om_lt (@vw _ 3 _ _ (by walk_at "v")) (@pe_int _ _ _ _) (by walk_at "n")) (@pss_cons _ _ _ _ _ (@ps_set _ _ 11 _ _ _ _ sc_law.nd rfl (by walk_at "e") (@pe_op _ _ _ _ _ _ _ _ om_shl (@pe_int _ _ _ _) (@vw _ 3 _ _ (by walk_at "v"))) (by rfl) (by walk_at "i")) (@pss_one _ _ _ (@ps_compB _ _ _ _ _ _ _ (["_law_number", "_law_size"]) 1 [11] _ _ _ _ 10 _ _ _ rfl sc_law.nd rfl rfl (@pi_range1 _ _ _ _ _ _ rfl T.z_range (@pa1 _ _ _ (@pe_op _ _ _ _ _ _ _ _ om_shl (@pe_int _ _ _ _) (@vw _ 11 _ _ (by walk_at "v"))) (by rfl)) (by rfl)) (by kernel_rfl) rfl rfl (by kernel_rfl) (fun c => @pg_name _ _ 0 _ (show (["_law_number", "_law_size"] : List Str).Nodup by decide +kernel) rfl (by walk_at "e") (by walk_at "i")) (go_name (by decide)) (fun c => @pts_nil _) (fun c => (@pe_callTy _ _ _ _ _ _ _ _ _ (kTuple (K := K)) rfl T.z_tuple (by rfl) (@pa1 _ _ _ (@pe_compB _ _ _ _ _ _ _ (["_law_p", "_law_number"]) 1 [0] _ _ _ _ rfl (@pi_range1 _ _ _ _ _ _ rfl T.z_range (@pa1 _ _ _ (@vw _ 1 _ _ (by walk_at "v")) (by rfl)) (by rfl)) (by kernel_rfl) rfl rfl (by kernel_rfl) (fun c => @pg_name _ _ 0 _ (show (["_law_p", "_law_number"] : List Str).Nodup by decide +kernel) rfl (by walk_at "e") (by walk_at "i")) (go_name (by decide)) (fun c => @pts_nil _) (fun c => (@pe_cmpM _ _ _ _ _ _ _ _ (kEq (K := K) hu) (@pe_op _ _ _ _ _ _ _ _ om_and (@pe_op _ _ _ _ _ _ _ _ om_shr (@vw _ 1 _ _ (by walk_at "v")) (@vw _ 0 _ _ (by walk_at "v"))) (@pe_int _ _ _ _)) (@pe_int _ _ _ _) (by walk_at "n"))) (by intro _; rfl)) (by rfl)) (by decide) (by decide) (by rfl) (by rfl))) (by rfl) (by intro _; rfl)))) (@pss_one _ _ _ (@ps_set _ _ 10 _ _ _ _ sc_law.nd rfl (by walk_at "e") (@pe_op _ _ _ _ _ _ _ _ (kAdd (K := K)) (@vw _ 10 _ _ (by walk_at "v")) (@pe_compB _ _ _ _ _ _ _ (["_law_j", "_law_feed_here", "_law_n_here"]) 1 ([2, 3]) _ _ _ _ rfl (@pi_range1 _ _ _ _ _ _ rfl T.z_range (@pa1 _ _ _ (@pe_int _ _ _ _) (by rfl)) (by rfl)) (by kernel_rfl) rfl rfl (by kernel_rfl) (fun c => @pg_name _ _ 0 _ (show (["_law_j", "_law_feed_here", "_law_n_here"] : List Str).Nodup by decide +kernel) rfl (by walk_at "e") (by walk_at "i")) (go_name (by decide)) (fun c => @pts_nil _) (fun c => (@pe_call _ _ _ _ _ _ _ _ _ _ _ _ _ _ _ _ G__law_table hr__law_table rfl T.m__law_table T.F__law_table.kp T.b__law_table .nil pass0 (@pa_cons _ _ _ _ _ (@vw _ 1 _ _ (by walk_at "v")) (@pa1 _ _ _ (@vw _ 2 _ _ (by walk_at "v")) (by rfl)) (by rfl)) (by decide) (by rfl) (by rfl))) (by intro _; rfl))) (by rfl) (by walk_at "i")))) (@pss_one _ _ _ (@ps_for _ _ _ _ _ _ _ _ PassesOwn.never rfl (@kSeq _ K _ _ _ (@vw _ 10 _ _ (by walk_at "v")) (by rfl)) (@pg_name _ _ 12 _ sc_law.nd rfl (by walk_at "e") (by walk_at "i")) (@pss_one _ _ _ (@ps_if _ _ _ _ _ _ _ _ (PW.pt (@pw_and _ _ _ _ _ _ _ (@tu_val _ _ _ (@pe_call _ _ _ _ _ _ _ _ _ _ _ _ _ _ _ _ G__law_has hr__law_has rfl T.m__law_has T.F__law_has.kp T.b__law_has .nil pass0 (@pa_cons _ _ _ _ _ (@vw _ 12 _ _ (by walk_at "v")) (@pa1 _ _ _ (@kIx _ K _ _ _ _ _ (@vw _ 5 _ _ (by walk_at "v")) (@pe_int _ _ _ _) (by intro _ _; rfl) (by rfl)) (by rfl)) (by rfl)) (by decide) (by rfl) (by rfl)) (by intro _; rfl)) (@pw_and1 _ _ _ _ (@pt_not _ _ _ _ (@tu_val _ _ _ (@pe_call _ _ _ _ _ _ _ _ _ _ _ _ _ _ _ _ G__law_borne hr__law_borne rfl T.m__law_borne T.F__law_borne.kp T.b__law_borne .nil pass0 (@pa_cons _ _ _ _ _ (@vw _ 12 _ _ (by walk_at "v")) (@pa_cons _ _ _ _ _ (@vw _ 9 _ _ (by walk_at "v")) (@pa_cons _ _ _ _ _ (@vw _ 6 _ _ (by walk_at "v")) (@pa_cons _ _ _ _ _ (@vw _ 7 _ _ (by walk_at "v")) (@pa1 _ _ _ (@vw _ 8 _ _ (by walk_at "v")) (by rfl)) (by rfl)) (by rfl)) (by rfl)) (by rfl)) (by decide) (by rfl) (by rfl)) (by intro _; rfl)))))) (@pss_one _ _ _ (@ps_ret _ _ _ _ (@pe_bl _ _ _ _))) (@pss_nil _))) (by intro _; rfl))))))))))))) (by intro _; rfl)) (@pss_one _ _ _ (@ps_ret _ _ _ _ (@pe_bl _ _ _ _)))), ?_⟩
  refine ⟨2, rfl, by decide, by decide, ?_⟩
  refine for_range (fun i σ H' => ∃ z1 z2 z3 z4 z5 z6 z7 z8 z9 z10 z11 z12 : Option V, σ = [some (.ref a), z1, z2, z3, z4, z5, z6, z7, z8, z9, z10, z11, z12] /\ Same H H') ⟨none, none, none, none, none, none, none, none, none, none, none, none, rfl, Same.refl _⟩ ?_ (fun σ H' _ => q H')
  rintro i σ H0 hi ⟨z1, z2, z3, z4, z5, z6, z7, z8, z9, z10, z11, z12, rfl, S0⟩
  have hi2 : i < 2 := hi
  dsimp only [gName]
  refine ⟨ns, S0.sqL hsq, fun t H1 ht F1 f1 => ?_⟩
  dsimp only [gName]
  have S1 : Same H0 H1 := same_but (Same.refl _) ht f1
  refine seq_at (fun σ H' => ∃ m : Nat, 1 <= m /\ m <= 6 /\ σ = [some (.ref a), some (.int (0 + (i : Int))), some (.ref t), some (.int m), z4, z5, z6, z7, z8, z9, z10, z11, z12] /\ Feed H' t /\ Frm t H1 H') ?_ ?_ (by walk_at "sm")
  . refine ⟨F1, okDiv_of (by decide) (by decide), fun d H2 d0 d1 F2 f2 => ⟨F2, fun m H3 m1 m6 F3 f3 => ?_⟩⟩
    obtain ⟨dn, rfl⟩ := Int.eq_ofNat_of_zero_le d0
    refine ⟨small_le (show 2 <= 1000 by decide), fun p1 n1 => ?_⟩
    have fr : Frm t H1 (upd H3 p1 (.lst [.int (1 + (dn : Int)), .int (m : Int)])) := (frm_all f2).trans ((frm_all f3).trans (Frm.upd n1))
    have : i = 0 \/ i = 1 := by omega
    rcases this with rfl | rfl
    . exact ⟨_, .int (1 + (dn : Int)), .inl (.of upd_same), atI_of (n := 0) rfl rfl, 1 + dn, by omega, by omega, (by rw [Int.natCast_add]; rfl), F3.upd n1, fr⟩
    . exact ⟨_, .int (m : Int), .inl (.of upd_same), atI_of (n := 1) rfl rfl, m, m1, m6, rfl, F3.upd n1, fr⟩
  rintro σ H2 ⟨m, m1, m6, rfl, F2, fr2⟩
  have h64 : 2 ^ m <= 64 := Nat.pow_le_pow_right (n := 2) (by decide) m6
  have i1 : ((2 ^ m : Nat) : Int) <= 64 := Int.ofNat_le.mpr h64
  have h2 : 2 <= 2 ^ m := Nat.pow_le_pow_right (n := 2) (i := 1) (by decide) m1
  have hMd : okDiv ((2 ^ m : Nat) : Int) := okDiv_of (by omega) (Int.le_trans i1 (by decide))
  have esh : (1 : Int) * 2 ^ ((m : Int)).toNat = ((2 ^ m : Nat) : Int) := by rw [Int.one_mul, Int.toNat_natCast, Int.natCast_pow]; rfl
  have hsh : CPow 1 (m : Int) := ⟨by omega, by omega, by decide⟩
  refine ⟨m, F2, rfl, m1, m6, fun bs tb H3 hb n3 g3 F3 fr3 => ?_⟩
  dsimp only [gName]
  have nt : tb ≠ t := F2.neT n3
  refine ⟨m, bs, F3, m1, m6, hb, g3, fun gv ks H4 F4 fr4 SV kl knd klt => ?_⟩
  dsimp only [gName]
  have g4 := fr4 _ _ nt g3
  obtain ⟨ga, gb, gus, rfl, hga, hgb, hgR⟩ := id SV.at_
  have hG : Gl m (ks.map fun k => (k, wt m (valF bs) k)) := ⟨⟨m1, m6⟩, by rw [List.length_map]; exact kl, fun x hx => by
    obtain ⟨k, hk, rfl⟩ := List.mem_map.mp hx
    exact ⟨klt k hk, wt_light m6 bs k⟩⟩
  have hnd : ((ks.map fun k => (k, wt m (valF bs) k)).map (·.1)).Nodup := by
    rw [List.map_map]
    have : ks.map ((fun x : Nat × Int => x.1) ∘ fun k => (k, wt m (valF bs) k)) = ks := List.map_id' ks
    rw [this]
    exact knd
  have hHas : Has m (ks.map fun k => (k, wt m (valF bs) k)) (wt m (valF bs)) := ⟨hnd, fun x hx => (hG.ok x hx).1, fun x hx => by
    obtain ⟨k, hk, rfl⟩ := List.mem_map.mp hx
    rfl⟩
  have hrest := hHas.rest0
  generalize (ks.map fun k => (k, wt m (valF bs) k)) = ts at *
  have S4 : Same H0 H4 := same_frm (same_frm (same_frm S1 ht fr2) ht fr3) ht fr4
  refine ⟨hsh, ?_⟩
  rw [esh]
  refine ⟨F4, hMd, fun d5 H5 d50 d51 F5 f5 => ?_⟩
  obtain ⟨so, rfl⟩ := Int.eq_ofNat_of_zero_le d50
  dsimp only [gName]
  refine ⟨F5, .inr rfl, fun x y ps H6 x0 x2 y0 nx ny nps g6 F6 fr6 => ?_⟩
  dsimp only [gName]
  have ntp : ps ≠ t := F5.neT nps
  refine ⟨F6, okDiv_of (by decide) (by decide), fun d7 H7 d70 d71 F7 f7 => ?_⟩
  obtain ⟨fw, rfl⟩ := Int.eq_ofNat_of_zero_le d70
  dsimp only [gName]
  have fr47 : Frm t H4 H7 := (frm_all f5).trans (fr6.trans (frm_all f7))
  have SV7 := SV.frm F4 fr47
  have g7p : H7 ps = some (.tup [.int x, .int y]) := by rw [f7 ps ntp]; exact g6
  have g7t := fr47 _ _ nt g4
  have S7 := same_frm S4 ht fr47
  clear SV F4 F5 F6 f5 f7 fr6 g4 g3 fr47 S4 S1 fr2 fr3 fr4 F2 F3 F1 f1 g6 nps n3 hga hgb hgR
  obtain ⟨ga', gb, gus, ega, hga, hgb, hgR⟩ := id SV7.at_
  cases ega
  refine seq_at (fun σ H' => ∃ (bo d : Nat) (d1 d2 : Dv), σ = [some (.ref a), some (.int (0 + (i : Int))), some (.ref t), some (.int m), some (.ref tb), some (.ref ga), some (.int (so : Int)), some (.ref ps), some (.int (fw : Int)), some (.ref bo), z10, z11, z12] /\ Same H7 H' /\ Rep K H' (.tup [matD m ts so, .tup [d1, d2], .int d]) (.ref bo) /\ StW m ts x y d1 d2 /\ DifW m fw ts d) ?_ ?_ (by walk_at "sm")
  . refine ⟨m, so, ts, SV7, hG, rfl, fun v1 H8 s8 r8 => ?_⟩
    refine ⟨m, ts, x, y, SV7.same s8, hG, .of (s8 _ _ g7p), y0, nx, ny, fun v2 d1 d2 H9 s9 r9 hSt => ?_⟩
    refine ⟨m, fw, ts, SV7.same (s8.trans s9), hG, hrest, rfl, fun d gr H10 s10 hgr _ hall _ _ => ?_⟩
    refine ⟨small_le (show 3 <= 1000 by decide), fun p np => ?_⟩
    have s11 := Same.upd (o := .tup [v1, v2, .int (d : Int)]) np
    exact ⟨p, d, d1, d2, rfl, s8.trans (s9.trans (s10.trans s11)), rep_tup1 upd_same (reps_cons (Rep.same (s9.trans (s10.trans s11)) _ _ r8) (reps_cons (Rep.same (s10.trans s11) _ _ r9) (reps_cons rep_int reps_nil))), hSt, gr, hgr, hall⟩
  rintro σ H8 ⟨bo, d, d1, d2, rfl, s8, rB, hSt, hD⟩
  refine ⟨small_le (show 1 <= 1000 by decide), fun l1 nl1 => ?_⟩
  dsimp only [gName]
  have s9 := Same.upd (o := .lst [.ref tb]) nl1
  have g9 := upd_same (H := H8) (a := l1) (o := .lst [.ref tb])
  have F8 := F7.same s8
  have ntl := F8.neT nl1
  generalize upd H8 l1 (.lst [.ref tb]) = H9 at *
  have F9 := F8.same s9
  have g9t := s9 _ _ (s8 _ _ g7t)
  refine seq_at (fun σ H' => ∃ (l : Addr) (xs : List V) (z11 : Option V), σ = [some (.ref a), some (.int (0 + (i : Int))), some (.ref t), some (.int m), some (.ref tb), some (.ref ga), some (.int (so : Int)), some (.ref ps), some (.int (fw : Int)), some (.ref bo), some (.ref l), z11, z12] /\ Feed H' t /\ Frm t H9 H' /\ H' l = some (.lst xs) /\ ∀ x ∈ xs, TbA H' m x) ?_ ?_ (by walk_at "sm")
  . refine ite2 (fun e => ?_) (fun e => ?_)
    . have hm3 : m <= 3 := by have : (m : Int) < 4 := of_decide_eq_true e; omega
      have h8 : 2 ^ m <= 8 := Nat.pow_le_pow_right (n := 2) (j := 3) (by decide) hm3
      have j8 : ((2 ^ m : Nat) : Int) <= 8 := Int.ofNat_le.mpr h8
      have h256 : 2 ^ 2 ^ m <= 256 := Nat.pow_le_pow_right (n := 2) (j := 8) (by decide) h8
      have j256 : ((2 ^ 2 ^ m : Nat) : Int) <= 256 := Int.ofNat_le.mpr h256
      have j0 : (0 : Int) <= ((2 ^ 2 ^ m : Nat) : Int) := Int.natCast_nonneg _
      have esh2 : (1 : Int) * 2 ^ (((2 ^ m : Nat) : Int)).toNat = ((2 ^ 2 ^ m : Nat) : Int) := by rw [Int.one_mul, Int.toNat_natCast, Int.natCast_pow]; rfl
      refine ⟨hsh, ?_⟩
      rw [esh]
      dsimp only [gName]
      refine ⟨⟨by omega, by omega, by decide⟩, ?_⟩
      rw [esh2]
      refine ⟨((2 ^ 2 ^ m : Nat) : Int), rfl, by omega, by omega, ?_⟩
      generalize 2 ^ 2 ^ m = N at *
      refine comp_range (fun j ys H' => Same H9 H' /\ ys.length = j /\ ∀ y ∈ ys, TbA H' m y) ⟨Same.refl _, rfl, fun y hy => by cases hy⟩ (fun j ys H' hj ⟨_, e, _⟩ => by
        rw [e]; exact small1000 (by omega)) ?_ ?_
      . rintro j ys H' hj ⟨sj, hjl, hjy⟩
        rw [show (0 : Int) + (j : Int) = (j : Int) from Int.zero_add _]
        refine ⟨((2 ^ m : Nat) : Int), rfl, by omega, by omega, ?_⟩
        refine comp_range (fun k zs H'' => H'' = H' /\ ∃ cs : List Bool, zs = cs.map V.bl /\ cs.length = k) ⟨rfl, [], rfl, rfl⟩ (fun k zs H'' hk ⟨_, cs, e, e'⟩ => by
          rw [e, List.length_map]; exact small1000 (by omega)) ?_ ?_
        . rintro k zs H'' hk ⟨rfl, cs, rfl, hcl⟩
          rw [show (0 : Int) + (k : Int) = (k : Int) from Int.zero_add _]
          exact ⟨by omega, rfl, cs ++ [_], by rw [List.map_append]; rfl, by rw [List.length_append, hcl]; rfl⟩
        . rintro zs H'' ⟨rfl, cs, rfl, hcl⟩ l2 hl2
          rw [Int.toNat_natCast] at hcl
          refine ⟨_, .inl ⟨.of upd_same, fun p hp => ?_⟩⟩
          have s12 := (Same.upd (o := .lst (cs.map V.bl)) hl2).trans (Same.upd (o := .tup (cs.map V.bl)) hp)
          refine ⟨sj.trans s12, by rw [List.length_append, hjl]; rfl, fun y hy => ?_⟩
          rcases List.mem_append.mp hy with h' | h'
          . exact (hjy y h').same s12
          . rw [List.mem_singleton] at h'; subst h'; exact ⟨p, cs, rfl, hcl, upd_same⟩
      . rintro ys H' ⟨sj, hjl, hjy⟩ l2 hl2
        have s12 := Same.upd (o := .lst ys) hl2
        exact ⟨l2, ys, _, rfl, F9.same (sj.trans s12), (sj.trans s12).frm, upd_same, fun y hy => (hjy y hy).same s12⟩
    . refine ⟨5, rfl, by decide, by decide, ?_⟩
      refine comp_range (n := (5 : Int).toNat) (fun j ys H' => Feed H' t /\ Frm t H9 H' /\ ys.length = j /\ ∀ y ∈ ys, TbA H' m y) ⟨F9, Frm.refl, rfl, fun y hy => by cases hy⟩ (fun j ys H' hj ⟨_, _, e, _⟩ => by
        have : j < 5 := hj
        rw [e]; exact small1000 (by omega)) ?_ ?_
      . rintro j ys H' hj ⟨Fj, frj, hjl, hjy⟩
        refine ⟨m, Fj, rfl, m1, m6, fun cs p H'' hcs np gp F'' fr'' => ⟨F'', frj.trans fr'', by rw [List.length_append, hjl]; rfl, fun y hy => ?_⟩⟩
        rcases List.mem_append.mp hy with h' | h'
        . exact (hjy y h').frm Fj fr''
        . rw [List.mem_singleton] at h'; subst h'; exact ⟨p, cs, rfl, hcs, gp⟩
      . rintro ys H' ⟨Fj, frj, hjl, hjy⟩ l2 hl2
        have hjl : ys.length = 5 := hjl
        refine .inl ⟨l1, l2, [.ref tb], ys, rfl, rfl, Same.upd hl2 _ _ (frj _ _ ntl g9), upd_same, small_le (by show 1 + ys.length <= 1000; omega), fun r nr => ?_⟩
        have sr := (Same.upd (o := .lst ys) hl2).trans (Same.upd (o := .lst ([.ref tb] ++ ys)) nr)
        refine ⟨r, [.ref tb] ++ ys, _, rfl, Fj.same sr, frj.trans sr.frm, upd_same, fun y hy => ?_⟩
        rcases List.mem_append.mp hy with h' | h'
        . rw [List.mem_singleton] at h'; subst h'
          exact ⟨tb, bs, rfl, hb, sr _ _ (frj _ _ nt g9t)⟩
        . exact (hjy y h').same sr
  rintro σ H10 ⟨l, xs, z11, rfl, F10, fr10, gl, hxs⟩
  have fr710 : Frm t H7 H10 := (s8.trans s9).frm.trans fr10
  have SV10 := SV7.frm F7 fr710
  have g10p := fr710 _ _ ntp g7p
  have S10 := same_frm S7 ht fr710
  have tO : tupOnly (.tup [matD m ts so, .tup [d1, d2], .int d]) = true := by
    rcases id hSt with ⟨_, rfl, rfl⟩ | ⟨_, _, _, _, _, rfl, rfl⟩ <;> rfl
  refine .inl ⟨⟨_, .of gl⟩, ?_⟩
  refine for_list (xs := xs) (fun j σ H' => (∃ z12 : Option V, σ = [some (.ref a), some (.int (0 + (i : Int))), some (.ref t), some (.int m), some (.ref tb), some (.ref ga), some (.int (so : Int)), some (.ref ps), some (.int (fw : Int)), some (.ref bo), some (.ref l), z11, z12]) /\ Same H10 H') ⟨⟨z12, rfl⟩, Same.refl _⟩ (fun j σ H' _ ⟨_, s⟩ => .of (s _ _ gl)) ?_ ?_
  . rintro j y' σ H11 hy' ⟨⟨z12, rfl⟩, s11⟩
    obtain ⟨p, cs, rfl, hcs, gp⟩ := (hxs y' (List.mem_of_getElem? hy')).same s11
    dsimp only [gName]
    obtain ⟨ga2, gb2, gus2, e2, hga2, hgb2, hgR2⟩ := id (SV10.same s11).at_
    cases e2
    refine if_same false ?_ ?_
    . intro Q q
      refine ⟨_, _, .inr hga2, atI_of (n := 1) rfl rfl, m, cs, ts, gus2, m1, m6, hcs, .of gp, hG, hgb2, hgR2, fun e H12 s12 he => ?_⟩
      cases e with
      | false => exact q _ s12
      | true =>
        refine ⟨m, so, fw, d, ts, cs, x, y, d1, d2, m6, hcs, .of (s12 _ _ gp), hG, ⟨hnd, fun x hx => (hG.ok x hx).1, he rfl⟩, ?_, hSt, hD, rfl, by omega, .of ((s11.trans s12) _ _ g10p), x0, x2, y0, nx, ny, rfl, fun H13 s13 => q _ (s12.trans s13)⟩
        exact Rep.same (s11.trans s12) _ _ (Rep.frm (s9.frm.trans fr10) F8.lst _ _ tO rB)
    . exact fun H' s => iteF ⟨⟨_, rfl⟩, s11.trans s⟩
  . rintro σ H11 ⟨⟨z12, rfl⟩, s11⟩
    exact ⟨_, _, _, _, _, _, _, _, _, _, _, _, rfl, S0.trans (S10.trans s11)⟩
end
theorem all_mk {l : W.OpenLaw} {w : World} {K : W.Frag} {h : Heap} {mg : Str -> Option Value} {fa : Addr} (X : K.In h) (G : h.Ns mainGlobals mg) (hfa : mg "law" = some (.ref fa))
    {f0 f1 f2 f3 f4 f5 f6 f7 f8 f9 f10 f11 f12 f13 f14 f15 f16 f17 f18 f19 f20 f21 f22 f23 f24 f25 f26 f27 f28 f29 f30 f31 f32 f33 f34 f35 f36 f37 f38 : Addr} {oc0 kV0 dc0 pm0 cd0 ct0 oc1 kV1 dc1 pm1 cd1 ct1 oc2 kV2 dc2 pm2 cd2 ct2 oc3 kV3 dc3 pm3 cd3 ct3 oc4 kV4 dc4 pm4 cd4 ct4 oc5 kV5 dc5 pm5 cd5 ct5 oc6 kV6 dc6 pm6 cd6 ct6 oc7 kV7 dc7 pm7 cd7 ct7 oc8 kV8 dc8 pm8 cd8 ct8 oc9 kV9 dc9 pm9 cd9 ct9 oc10 kV10 dc10 pm10 cd10 ct10 oc11 kV11 dc11 pm11 cd11 ct11 oc12 kV12 dc12 pm12 cd12 ct12 oc13 kV13 dc13 pm13 cd13 ct13 oc14 kV14 dc14 pm14 cd14 ct14 oc15 kV15 dc15 pm15 cd15 ct15 oc16 kV16 dc16 pm16 cd16 ct16 oc17 kV17 dc17 pm17 cd17 ct17 oc18 kV18 dc18 pm18 cd18 ct18 oc19 kV19 dc19 pm19 cd19 ct19 oc20 kV20 dc20 pm20 cd20 ct20 oc21 kV21 dc21 pm21 cd21 ct21 oc22 kV22 dc22 pm22 cd22 ct22 oc23 kV23 dc23 pm23 cd23 ct23 oc24 kV24 dc24 pm24 cd24 ct24 oc25 kV25 dc25 pm25 cd25 ct25 oc26 kV26 dc26 pm26 cd26 ct26 oc27 kV27 dc27 pm27 cd27 ct27 oc28 kV28 dc28 pm28 cd28 ct28 oc29 kV29 dc29 pm29 cd29 ct29 oc30 kV30 dc30 pm30 cd30 ct30 oc31 kV31 dc31 pm31 cd31 ct31 oc32 kV32 dc32 pm32 cd32 ct32 oc33 kV33 dc33 pm33 cd33 ct33 oc34 kV34 dc34 pm34 cd34 ct34 oc35 kV35 dc35 pm35 cd35 ct35 oc36 kV36 dc36 pm36 cd36 ct36 oc37 kV37 dc37 pm37 cd37 ct37 oc38 kV38 dc38 pm38 cd38 ct38 : Value} {od0 an0 od1 an1 od2 an2 od3 an3 od4 an4 od5 an5 od6 an6 od7 an7 od8 an8 od9 an9 od10 an10 od11 an11 od12 an12 od13 an13 od14 an14 od15 an15 od16 an16 od17 an17 od18 an18 od19 an19 od20 an20 od21 an21 od22 an22 od23 an23 od24 an24 od25 an25 od26 an26 od27 an27 od28 an28 od29 an29 od30 an30 od31 an31 od32 an32 od33 an33 od34 an34 od35 an35 od36 an36 od37 an37 od38 an38 : Option Addr} {sl0 sl1 sl2 sl3 sl4 sl5 sl6 sl7 sl8 sl9 sl10 sl11 sl12 sl13 sl14 sl15 sl16 sl17 sl18 sl19 sl20 sl21 sl22 sl23 sl24 sl25 sl26 sl27 sl28 sl29 sl30 sl31 sl32 sl33 sl34 sl35 sl36 sl37 sl38 : Array (Option Value)}
    (a0 : W.nsIn K mainGlobals "two_to" = some (some (.ref f0)))
    (l0 : K.lookup f0 = some ⟨oc0, od0, .func (W.fnOf "two_to" "two_to" (defArgs s_two_to) (defBody s_two_to) (defScope s_two_to) .none kV0 dc0 pm0 an0 cd0 ct0), sl0⟩)
    (c0 : W.codeIn K cd0 "two_to" = true)
    (k0 : W.keepIn K (.ref f0) = true)
    (a1 : W.nsIn K mainGlobals "power_of" = some (some (.ref f1)))
    (l1 : K.lookup f1 = some ⟨oc1, od1, .func (W.fnOf "power_of" "power_of" (defArgs s_power_of) (defBody s_power_of) (defScope s_power_of) .none kV1 dc1 pm1 an1 cd1 ct1), sl1⟩)
    (c1 : W.codeIn K cd1 "power_of" = true)
    (k1 : W.keepIn K (.ref f1) = true)
    (a2 : W.nsIn K mainGlobals "sign" = some (some (.ref f2)))
    (l2 : K.lookup f2 = some ⟨oc2, od2, .func (W.fnOf "sign" "sign" (defArgs s_sign) (defBody s_sign) (defScope s_sign) .none kV2 dc2 pm2 an2 cd2 ct2), sl2⟩)
    (c2 : W.codeIn K cd2 "sign" = true)
    (k2 : W.keepIn K (.ref f2) = true)
    (a3 : W.nsIn K mainGlobals "within" = some (some (.ref f3)))
    (l3 : K.lookup f3 = some ⟨oc3, od3, .func (W.fnOf "within" "within" (defArgs s_within) (defBody s_within) (defScope s_within) .none kV3 dc3 pm3 an3 cd3 ct3), sl3⟩)
    (c3 : W.codeIn K cd3 "within" = true)
    (k3 : W.keepIn K (.ref f3) = true)
    (a4 : W.nsIn K mainGlobals "many_in" = some (some (.ref f4)))
    (l4 : K.lookup f4 = some ⟨oc4, od4, .func (W.fnOf "many_in" "many_in" (defArgs s_many_in) (defBody s_many_in) (defScope s_many_in) .none kV4 dc4 pm4 an4 cd4 ct4), sl4⟩)
    (c4 : W.codeIn K cd4 "many_in" = true)
    (k4 : W.keepIn K (.ref f4) = true)
    (a5 : W.nsIn K mainGlobals "sets_of" = some (some (.ref f5)))
    (l5 : K.lookup f5 = some ⟨oc5, od5, .func (W.fnOf "sets_of" "sets_of" (defArgs s_sets_of) (defBody s_sets_of) (defScope s_sets_of) .none kV5 dc5 pm5 an5 cd5 ct5), sl5⟩)
    (c5 : W.codeIn K cd5 "sets_of" = true)
    (k5 : W.keepIn K (.ref f5) = true)
    (a6 : W.nsIn K mainGlobals "share_of" = some (some (.ref f6)))
    (l6 : K.lookup f6 = some ⟨oc6, od6, .func (W.fnOf "share_of" "share_of" (defArgs s_share_of) (defBody s_share_of) (defScope s_share_of) .none kV6 dc6 pm6 an6 cd6 ct6), sl6⟩)
    (c6 : W.codeIn K cd6 "share_of" = true)
    (k6 : W.keepIn K (.ref f6) = true)
    (a7 : W.nsIn K mainGlobals "common_divisor" = some (some (.ref f7)))
    (l7 : K.lookup f7 = some ⟨oc7, od7, .func (W.fnOf "common_divisor" "common_divisor" (defArgs s_common_divisor) (defBody s_common_divisor) (defScope s_common_divisor) .none kV7 dc7 pm7 an7 cd7 ct7), sl7⟩)
    (c7 : W.codeIn K cd7 "common_divisor" = true)
    (k7 : W.keepIn K (.ref f7) = true)
    (a8 : W.nsIn K mainGlobals "odd_squares" = some (some (.ref f8)))
    (l8 : K.lookup f8 = some ⟨oc8, od8, .func (W.fnOf "odd_squares" "odd_squares" (defArgs s_odd_squares) (defBody s_odd_squares) (defScope s_odd_squares) .none kV8 dc8 pm8 an8 cd8 ct8), sl8⟩)
    (c8 : W.codeIn K cd8 "odd_squares" = true)
    (k8 : W.keepIn K (.ref f8) = true)
    (a9 : W.nsIn K mainGlobals "is_odd_with" = some (some (.ref f9)))
    (l9 : K.lookup f9 = some ⟨oc9, od9, .func (W.fnOf "is_odd_with" "is_odd_with" (defArgs s_is_odd_with) (defBody s_is_odd_with) (defScope s_is_odd_with) .none kV9 dc9 pm9 an9 cd9 ct9), sl9⟩)
    (c9 : W.codeIn K cd9 "is_odd_with" = true)
    (k9 : W.keepIn K (.ref f9) = true)
    (a10 : W.nsIn K mainGlobals "squares_by_level" = some (some (.ref f10)))
    (l10 : K.lookup f10 = some ⟨oc10, od10, .func (W.fnOf "squares_by_level" "squares_by_level" (defArgs s_squares_by_level) (defBody s_squares_by_level) (defScope s_squares_by_level) .none kV10 dc10 pm10 an10 cd10 ct10), sl10⟩)
    (c10 : W.codeIn K cd10 "squares_by_level" = true)
    (k10 : W.keepIn K (.ref f10) = true)
    (a11 : W.nsIn K mainGlobals "over_all" = some (some (.ref f11)))
    (l11 : K.lookup f11 = some ⟨oc11, od11, .func (W.fnOf "over_all" "over_all" (defArgs s_over_all) (defBody s_over_all) (defScope s_over_all) .none kV11 dc11 pm11 an11 cd11 ct11), sl11⟩)
    (c11 : W.codeIn K cd11 "over_all" = true)
    (k11 : W.keepIn K (.ref f11) = true)
    (a12 : W.nsIn K mainGlobals "stays_by" = some (some (.ref f12)))
    (l12 : K.lookup f12 = some ⟨oc12, od12, .func (W.fnOf "stays_by" "stays_by" (defArgs s_stays_by) (defBody s_stays_by) (defScope s_stays_by) .none kV12 dc12 pm12 an12 cd12 ct12), sl12⟩)
    (c12 : W.codeIn K cd12 "stays_by" = true)
    (k12 : W.keepIn K (.ref f12) = true)
    (a13 : W.nsIn K mainGlobals "squares" = some (some (.ref f13)))
    (l13 : K.lookup f13 = some ⟨oc13, od13, .func (W.fnOf "squares" "squares" (defArgs s_squares) (defBody s_squares) (defScope s_squares) .none kV13 dc13 pm13 an13 cd13 ct13), sl13⟩)
    (c13 : W.codeIn K cd13 "squares" = true)
    (k13 : W.keepIn K (.ref f13) = true)
    (a14 : W.nsIn K mainGlobals "rest_of" = some (some (.ref f14)))
    (l14 : K.lookup f14 = some ⟨oc14, od14, .func (W.fnOf "rest_of" "rest_of" (defArgs s_rest_of) (defBody s_rest_of) (defScope s_rest_of) .none kV14 dc14 pm14 an14 cd14 ct14), sl14⟩)
    (c14 : W.codeIn K cd14 "rest_of" = true)
    (k14 : W.keepIn K (.ref f14) = true)
    (a15 : W.nsIn K mainGlobals "untold_sets" = some (some (.ref f15)))
    (l15 : K.lookup f15 = some ⟨oc15, od15, .func (W.fnOf "untold_sets" "untold_sets" (defArgs s_untold_sets) (defBody s_untold_sets) (defScope s_untold_sets) .none kV15 dc15 pm15 an15 cd15 ct15), sl15⟩)
    (c15 : W.codeIn K cd15 "untold_sets" = true)
    (k15 : W.keepIn K (.ref f15) = true)
    (a16 : W.nsIn K mainGlobals "matters_within" = some (some (.ref f16)))
    (l16 : K.lookup f16 = some ⟨oc16, od16, .func (W.fnOf "matters_within" "matters_within" (defArgs s_matters_within) (defBody s_matters_within) (defScope s_matters_within) .none kV16 dc16 pm16 an16 cd16 ct16), sl16⟩)
    (c16 : W.codeIn K cd16 "matters_within" = true)
    (k16 : W.keepIn K (.ref f16) = true)
    (a17 : W.nsIn K mainGlobals "stays_within" = some (some (.ref f17)))
    (l17 : K.lookup f17 = some ⟨oc17, od17, .func (W.fnOf "stays_within" "stays_within" (defArgs s_stays_within) (defBody s_stays_within) (defScope s_stays_within) .none kV17 dc17 pm17 an17 cd17 ct17), sl17⟩)
    (c17 : W.codeIn K cd17 "stays_within" = true)
    (k17 : W.keepIn K (.ref f17) = true)
    (a18 : W.nsIn K mainGlobals "stays_with_rest" = some (some (.ref f18)))
    (l18 : K.lookup f18 = some ⟨oc18, od18, .func (W.fnOf "stays_with_rest" "stays_with_rest" (defArgs s_stays_with_rest) (defBody s_stays_with_rest) (defScope s_stays_with_rest) .none kV18 dc18 pm18 an18 cd18 ct18), sl18⟩)
    (c18 : W.codeIn K cd18 "stays_with_rest" = true)
    (k18 : W.keepIn K (.ref f18) = true)
    (a19 : W.nsIn K mainGlobals "differ_at_least" = some (some (.ref f19)))
    (l19 : K.lookup f19 = some ⟨oc19, od19, .func (W.fnOf "differ_at_least" "differ_at_least" (defArgs s_differ_at_least) (defBody s_differ_at_least) (defScope s_differ_at_least) .none kV19 dc19 pm19 an19 cd19 ct19), sl19⟩)
    (c19 : W.codeIn K cd19 "differ_at_least" = true)
    (k19 : W.keepIn K (.ref f19) = true)
    (a20 : W.nsIn K mainGlobals "most_squares_within" = some (some (.ref f20)))
    (l20 : K.lookup f20 = some ⟨oc20, od20, .func (W.fnOf "most_squares_within" "most_squares_within" (defArgs s_most_squares_within) (defBody s_most_squares_within) (defScope s_most_squares_within) .none kV20 dc20 pm20 an20 cd20 ct20), sl20⟩)
    (c20 : W.codeIn K cd20 "most_squares_within" = true)
    (k20 : W.keepIn K (.ref f20) = true)
    (a21 : W.nsIn K mainGlobals "_law_feed" = some (some (.ref f21)))
    (l21 : K.lookup f21 = some ⟨oc21, od21, .func (W.fnOf "_law_feed" "_law_feed" (defArgs s__law_feed) (defBody s__law_feed) (defScope s__law_feed) .none kV21 dc21 pm21 an21 cd21 ct21), sl21⟩)
    (c21 : W.codeIn K cd21 "_law_feed" = true)
    (k21 : W.keepIn K (.ref f21) = true)
    (a22 : W.nsIn K mainGlobals "_law_draw" = some (some (.ref f22)))
    (l22 : K.lookup f22 = some ⟨oc22, od22, .func (W.fnOf "_law_draw" "_law_draw" (defArgs s__law_draw) (defBody s__law_draw) (defScope s__law_draw) .none kV22 dc22 pm22 an22 cd22 ct22), sl22⟩)
    (c22 : W.codeIn K cd22 "_law_draw" = true)
    (k22 : W.keepIn K (.ref f22) = true)
    (a23 : W.nsIn K mainGlobals "_law_n" = some (some (.ref f23)))
    (l23 : K.lookup f23 = some ⟨oc23, od23, .func (W.fnOf "_law_n" "_law_n" (defArgs s__law_n) (defBody s__law_n) (defScope s__law_n) .none kV23 dc23 pm23 an23 cd23 ct23), sl23⟩)
    (c23 : W.codeIn K cd23 "_law_n" = true)
    (k23 : W.keepIn K (.ref f23) = true)
    (a24 : W.nsIn K mainGlobals "_law_many" = some (some (.ref f24)))
    (l24 : K.lookup f24 = some ⟨oc24, od24, .func (W.fnOf "_law_many" "_law_many" (defArgs s__law_many) (defBody s__law_many) (defScope s__law_many) .none kV24 dc24 pm24 an24 cd24 ct24), sl24⟩)
    (c24 : W.codeIn K cd24 "_law_many" = true)
    (k24 : W.keepIn K (.ref f24) = true)
    (a25 : W.nsIn K mainGlobals "_law_table" = some (some (.ref f25)))
    (l25 : K.lookup f25 = some ⟨oc25, od25, .func (W.fnOf "_law_table" "_law_table" (defArgs s__law_table) (defBody s__law_table) (defScope s__law_table) .none kV25 dc25 pm25 an25 cd25 ct25), sl25⟩)
    (c25 : W.codeIn K cd25 "_law_table" = true)
    (k25 : W.keepIn K (.ref f25) = true)
    (a26 : W.nsIn K mainGlobals "_law_sum" = some (some (.ref f26)))
    (l26 : K.lookup f26 = some ⟨oc26, od26, .func (W.fnOf "_law_sum" "_law_sum" (defArgs s__law_sum) (defBody s__law_sum) (defScope s__law_sum) .none kV26 dc26 pm26 an26 cd26 ct26), sl26⟩)
    (c26 : W.codeIn K cd26 "_law_sum" = true)
    (k26 : W.keepIn K (.ref f26) = true)
    (a27 : W.nsIn K mainGlobals "_law_share" = some (some (.ref f27)))
    (l27 : K.lookup f27 = some ⟨oc27, od27, .func (W.fnOf "_law_share" "_law_share" (defArgs s__law_share) (defBody s__law_share) (defScope s__law_share) .none kV27 dc27 pm27 an27 cd27 ct27), sl27⟩)
    (c27 : W.codeIn K cd27 "_law_share" = true)
    (k27 : W.keepIn K (.ref f27) = true)
    (a28 : W.nsIn K mainGlobals "_law_shaking" = some (some (.ref f28)))
    (l28 : K.lookup f28 = some ⟨oc28, od28, .func (W.fnOf "_law_shaking" "_law_shaking" (defArgs s__law_shaking) (defBody s__law_shaking) (defScope s__law_shaking) .none kV28 dc28 pm28 an28 cd28 ct28), sl28⟩)
    (c28 : W.codeIn K cd28 "_law_shaking" = true)
    (k28 : W.keepIn K (.ref f28) = true)
    (a29 : W.nsIn K mainGlobals "_law_power" = some (some (.ref f29)))
    (l29 : K.lookup f29 = some ⟨oc29, od29, .func (W.fnOf "_law_power" "_law_power" (defArgs s__law_power) (defBody s__law_power) (defScope s__law_power) .none kV29 dc29 pm29 an29 cd29 ct29), sl29⟩)
    (c29 : W.codeIn K cd29 "_law_power" = true)
    (k29 : W.keepIn K (.ref f29) = true)
    (a30 : W.nsIn K mainGlobals "_law_sets" = some (some (.ref f30)))
    (l30 : K.lookup f30 = some ⟨oc30, od30, .func (W.fnOf "_law_sets" "_law_sets" (defArgs s__law_sets) (defBody s__law_sets) (defScope s__law_sets) .none kV30 dc30 pm30 an30 cd30 ct30), sl30⟩)
    (c30 : W.codeIn K cd30 "_law_sets" = true)
    (k30 : W.keepIn K (.ref f30) = true)
    (a31 : W.nsIn K mainGlobals "_law_best" = some (some (.ref f31)))
    (l31 : K.lookup f31 = some ⟨oc31, od31, .func (W.fnOf "_law_best" "_law_best" (defArgs s__law_best) (defBody s__law_best) (defScope s__law_best) .none kV31 dc31 pm31 an31 cd31 ct31), sl31⟩)
    (c31 : W.codeIn K cd31 "_law_best" = true)
    (k31 : W.keepIn K (.ref f31) = true)
    (a32 : W.nsIn K mainGlobals "_law_nearest" = some (some (.ref f32)))
    (l32 : K.lookup f32 = some ⟨oc32, od32, .func (W.fnOf "_law_nearest" "_law_nearest" (defArgs s__law_nearest) (defBody s__law_nearest) (defScope s__law_nearest) .none kV32 dc32 pm32 an32 cd32 ct32), sl32⟩)
    (c32 : W.codeIn K cd32 "_law_nearest" = true)
    (k32 : W.keepIn K (.ref f32) = true)
    (a33 : W.nsIn K mainGlobals "_law_glance" = some (some (.ref f33)))
    (l33 : K.lookup f33 = some ⟨oc33, od33, .func (W.fnOf "_law_glance" "_law_glance" (defArgs s__law_glance) (defBody s__law_glance) (defScope s__law_glance) .none kV33 dc33 pm33 an33 cd33 ct33), sl33⟩)
    (c33 : W.codeIn K cd33 "_law_glance" = true)
    (k33 : W.keepIn K (.ref f33) = true)
    (a34 : W.nsIn K mainGlobals "_law_between" = some (some (.ref f34)))
    (l34 : K.lookup f34 = some ⟨oc34, od34, .func (W.fnOf "_law_between" "_law_between" (defArgs s__law_between) (defBody s__law_between) (defScope s__law_between) .none kV34 dc34 pm34 an34 cd34 ct34), sl34⟩)
    (c34 : W.codeIn K cd34 "_law_between" = true)
    (k34 : W.keepIn K (.ref f34) = true)
    (a35 : W.nsIn K mainGlobals "_law_staying" = some (some (.ref f35)))
    (l35 : K.lookup f35 = some ⟨oc35, od35, .func (W.fnOf "_law_staying" "_law_staying" (defArgs s__law_staying) (defBody s__law_staying) (defScope s__law_staying) .none kV35 dc35 pm35 an35 cd35 ct35), sl35⟩)
    (c35 : W.codeIn K cd35 "_law_staying" = true)
    (k35 : W.keepIn K (.ref f35) = true)
    (a36 : W.nsIn K mainGlobals "_law_borne" = some (some (.ref f36)))
    (l36 : K.lookup f36 = some ⟨oc36, od36, .func (W.fnOf "_law_borne" "_law_borne" (defArgs s__law_borne) (defBody s__law_borne) (defScope s__law_borne) .none kV36 dc36 pm36 an36 cd36 ct36), sl36⟩)
    (c36 : W.codeIn K cd36 "_law_borne" = true)
    (k36 : W.keepIn K (.ref f36) = true)
    (a37 : W.nsIn K mainGlobals "_law_has" = some (some (.ref f37)))
    (l37 : K.lookup f37 = some ⟨oc37, od37, .func (W.fnOf "_law_has" "_law_has" (defArgs s__law_has) (defBody s__law_has) (defScope s__law_has) .none kV37 dc37 pm37 an37 cd37 ct37), sl37⟩)
    (c37 : W.codeIn K cd37 "_law_has" = true)
    (k37 : W.keepIn K (.ref f37) = true)
    (a38 : W.nsIn K mainGlobals "law" = some (some (.ref f38)))
    (l38 : K.lookup f38 = some ⟨oc38, od38, .func (W.fnOf "law" "law" (defArgs s_law) (defBody s_law) (defScope s_law) .none kV38 dc38 pm38 an38 cd38 ct38), sl38⟩)
    (c38 : W.codeIn K cd38 "law" = true)
    (k38 : W.keepIn K (.ref f38) = true)
    (z_abs : W.nsIn K mainGlobals "abs" = some none)
    (z_any : W.nsIn K mainGlobals "any" = some none)
    (z_dict : W.nsIn K mainGlobals "dict" = some none)
    (z_enumerate : W.nsIn K mainGlobals "enumerate" = some none)
    (z_int : W.nsIn K mainGlobals "int" = some none)
    (z_len : W.nsIn K mainGlobals "len" = some none)
    (z_list : W.nsIn K mainGlobals "list" = some none)
    (z_max : W.nsIn K mainGlobals "max" = some none)
    (z_min : W.nsIn K mainGlobals "min" = some none)
    (z_range : W.nsIn K mainGlobals "range" = some none)
    (z_sum : W.nsIn K mainGlobals "sum" = some none)
    (z_tuple : W.nsIn K mainGlobals "tuple" = some none) :
    ∃ fd : FuncData, (∀ (s : Shared) (v : Value), BindsTo s fd ⟨[v], []⟩ [("_law_script", v)]) /\ ∀ base : Heap, K.In base -> base.Ns mainGlobals mg -> FnOk l.prog w K mg base CX0 6 fa fd ["_law_script"] (spLaw K) := by
  have e := hfa.symm.trans (W.mg_of X G a38)
  cases e
  have F0 := fun_mk (st := s_two_to) l0 c0 k0
  have b0 := F0.binds (ps := ["n"]) fun _ _ _ _ _ _ => L2.on1 (fun _ => rfl)
  have F1 := fun_mk (st := s_power_of) l1 c1 k1
  have b1 := F1.binds (ps := ["base", "times"]) fun _ _ _ _ _ _ => L2.on2 (fun _ _ => rfl)
  have F2 := fun_mk (st := s_sign) l2 c2 k2
  have b2 := F2.binds (ps := ["subset", "place"]) fun _ _ _ _ _ _ => L2.on2 (fun _ _ => rfl)
  have F3 := fun_mk (st := s_within) l3 c3 k3
  have b3 := F3.binds (ps := ["subset", "other"]) fun _ _ _ _ _ _ => L2.on2 (fun _ _ => rfl)
  have F4 := fun_mk (st := s_many_in) l4 c4 k4
  have b4 := F4.binds (ps := ["subset"]) fun _ _ _ _ _ _ => L2.on1 (fun _ => rfl)
  have F5 := fun_mk (st := s_sets_of) l5 c5 k5
  have b5 := F5.binds (ps := ["n", "k"]) fun _ _ _ _ _ _ => L2.on2 (fun _ _ => rfl)
  have F6 := fun_mk (st := s_share_of) l6 c6 k6
  have b6 := F6.binds (ps := ["top", "bottom"]) fun _ _ _ _ _ _ => L2.on2 (fun _ _ => rfl)
  have F7 := fun_mk (st := s_common_divisor) l7 c7 k7
  have b7 := F7.binds (ps := ["one", "other"]) fun _ _ _ _ _ _ => L2.on2 (fun _ _ => rfl)
  have F8 := fun_mk (st := s_odd_squares) l8 c8 k8
  have b8 := F8.binds (ps := ["one", "subset"]) fun _ _ _ _ _ _ => L2.on2 (fun _ _ => rfl)
  have F9 := fun_mk (st := s_is_odd_with) l9 c9 k9
  have b9 := F9.binds (ps := ["one", "other"]) fun _ _ _ _ _ _ => L2.on2 (fun _ _ => rfl)
  have F10 := fun_mk (st := s_squares_by_level) l10 c10 k10
  have b10 := F10.binds (ps := ["one"]) fun _ _ _ _ _ _ => L2.on1 (fun _ => rfl)
  have F11 := fun_mk (st := s_over_all) l11 c11 k11
  have b11 := F11.binds (ps := ["one", "squares"]) fun _ _ _ _ _ _ => L2.on2 (fun _ _ => rfl)
  have F12 := fun_mk (st := s_stays_by) l12 c12 k12
  have b12 := F12.binds (ps := ["n", "squares", "share"]) fun _ _ _ _ _ _ => L2.on3 (fun _ _ _ => rfl)
  have F13 := fun_mk (st := s_squares) l13 c13 k13
  have b13 := F13.binds (ps := ["one"]) fun _ _ _ _ _ _ => L2.on1 (fun _ => rfl)
  have F14 := fun_mk (st := s_rest_of) l14 c14 k14
  have b14 := F14.binds (ps := ["glance"]) fun _ _ _ _ _ _ => L2.on1 (fun _ => rfl)
  have F15 := fun_mk (st := s_untold_sets) l15 c15 k15
  have b15 := F15.binds (ps := ["glance"]) fun _ _ _ _ _ _ => L2.on1 (fun _ => rfl)
  have F16 := fun_mk (st := s_matters_within) l16 c16 k16
  have b16 := F16.binds (ps := ["glance", "subset"]) fun _ _ _ _ _ _ => L2.on2 (fun _ _ => rfl)
  have F17 := fun_mk (st := s_stays_within) l17 c17 k17
  have b17 := F17.binds (ps := ["glance", "share"]) fun _ _ _ _ _ _ => L2.on2 (fun _ _ => rfl)
  have F18 := fun_mk (st := s_stays_with_rest) l18 c18 k18
  have b18 := F18.binds (ps := ["glance", "many", "share"]) fun _ _ _ _ _ _ => L2.on3 (fun _ _ _ => rfl)
  have F19 := fun_mk (st := s_differ_at_least) l19 c19 k19
  have b19 := F19.binds (ps := ["glance", "k"]) fun _ _ _ _ _ _ => L2.on2 (fun _ _ => rfl)
  have F20 := fun_mk (st := s_most_squares_within) l20 c20 k20
  have b20 := F20.binds (ps := ["glance", "outer"]) fun _ _ _ _ _ _ => L2.on2 (fun _ _ => rfl)
  have F21 := fun_mk (st := s__law_feed) l21 c21 k21
  have b21 := F21.binds (ps := ["_law_script", "_law_k"]) fun _ _ _ _ _ _ => L2.on2 (fun _ _ => rfl)
  have F22 := fun_mk (st := s__law_draw) l22 c22 k22
  have b22 := F22.binds (ps := ["_law_feed_here", "_law_many_here"]) fun _ _ _ _ _ _ => L2.on2 (fun _ _ => rfl)
  have F23 := fun_mk (st := s__law_n) l23 c23 k23
  have b23 := F23.binds (ps := ["_law_feed_here"]) fun _ _ _ _ _ _ => L2.on1 (fun _ => rfl)
  have F24 := fun_mk (st := s__law_many) l24 c24 k24
  have b24 := F24.binds (ps := ["_law_number"]) fun _ _ _ _ _ _ => L2.on1 (fun _ => rfl)
  have F25 := fun_mk (st := s__law_table) l25 c25 k25
  have b25 := F25.binds (ps := ["_law_feed_here", "_law_n_here"]) fun _ _ _ _ _ _ => L2.on2 (fun _ _ => rfl)
  have F26 := fun_mk (st := s__law_sum) l26 c26 k26
  have b26 := F26.binds (ps := ["_law_table_here"]) fun _ _ _ _ _ _ => L2.on1 (fun _ => rfl)
  have F27 := fun_mk (st := s__law_share) l27 c27 k27
  have b27 := F27.binds (ps := ["_law_top", "_law_bottom"]) fun _ _ _ _ _ _ => L2.on2 (fun _ _ => rfl)
  have F28 := fun_mk (st := s__law_shaking) l28 c28 k28
  have b28 := F28.binds (ps := ["_law_feed_here", "_law_part"]) fun _ _ _ _ _ _ => L2.on2 (fun _ _ => rfl)
  have F29 := fun_mk (st := s__law_power) l29 c29 k29
  have b29 := F29.binds (ps := ["_law_base", "_law_times"]) fun _ _ _ _ _ _ => L2.on2 (fun _ _ => rfl)
  have F30 := fun_mk (st := s__law_sets) l30 c30 k30
  have b30 := F30.binds (ps := ["_law_n_here", "_law_k"]) fun _ _ _ _ _ _ => L2.on2 (fun _ _ => rfl)
  have F31 := fun_mk (st := s__law_best) l31 c31 k31
  have b31 := F31.binds (ps := ["_law_table_here", "_law_some"]) fun _ _ _ _ _ _ => L2.on2 (fun _ _ => rfl)
  have F32 := fun_mk (st := s__law_nearest) l32 c32 k32
  have b32 := F32.binds (ps := ["_law_table_here", "_law_k"]) fun _ _ _ _ _ _ => L2.on2 (fun _ _ => rfl)
  have F33 := fun_mk (st := s__law_glance) l33 c33 k33
  have b33 := F33.binds (ps := ["_law_feed_here", "_law_table_here"]) fun _ _ _ _ _ _ => L2.on2 (fun _ _ => rfl)
  have F34 := fun_mk (st := s__law_between) l34 c34 k34
  have b34 := F34.binds (ps := ["_law_low", "_law_much", "_law_whole", "_law_high"]) fun _ _ _ _ _ _ => L2.on4 (fun _ _ _ _ => rfl)
  have F35 := fun_mk (st := s__law_staying) l35 c35 k35
  have b35 := F35.binds (ps := ["_law_table_here", "_law_share_here"]) fun _ _ _ _ _ _ => L2.on2 (fun _ _ => rfl)
  have F36 := fun_mk (st := s__law_borne) l36 c36 k36
  have b36 := F36.binds (ps := ["_law_table_here", "_law_bounds", "_law_some", "_law_share_here", "_law_few"]) fun _ _ _ _ _ _ => L2.on5 (fun _ _ _ _ _ => rfl)
  have F37 := fun_mk (st := s__law_has) l37 c37 k37
  have b37 := F37.binds (ps := ["_law_table_here", "_law_terms"]) fun _ _ _ _ _ _ => L2.on2 (fun _ _ => rfl)
  have F38 := fun_mk (st := s_law) l38 c38 k38
  have b38 := F38.binds (ps := ["_law_script"]) fun _ _ _ _ _ _ => L2.on1 (fun _ => rfl)
  let T : Txt K mg := { f_two_to := f0, d_two_to := _, F_two_to := F0, b_two_to := b0, m_two_to := W.mg_of X G a0, f_power_of := f1, d_power_of := _, F_power_of := F1, b_power_of := b1, m_power_of := W.mg_of X G a1, f_sign := f2, d_sign := _, F_sign := F2, b_sign := b2, m_sign := W.mg_of X G a2, f_within := f3, d_within := _, F_within := F3, b_within := b3, m_within := W.mg_of X G a3, f_many_in := f4, d_many_in := _, F_many_in := F4, b_many_in := b4, m_many_in := W.mg_of X G a4, f_sets_of := f5, d_sets_of := _, F_sets_of := F5, b_sets_of := b5, m_sets_of := W.mg_of X G a5, f_share_of := f6, d_share_of := _, F_share_of := F6, b_share_of := b6, m_share_of := W.mg_of X G a6, f_common_divisor := f7, d_common_divisor := _, F_common_divisor := F7, b_common_divisor := b7, m_common_divisor := W.mg_of X G a7, f_odd_squares := f8, d_odd_squares := _, F_odd_squares := F8, b_odd_squares := b8, m_odd_squares := W.mg_of X G a8, f_is_odd_with := f9, d_is_odd_with := _, F_is_odd_with := F9, b_is_odd_with := b9, m_is_odd_with := W.mg_of X G a9, f_squares_by_level := f10, d_squares_by_level := _, F_squares_by_level := F10, b_squares_by_level := b10, m_squares_by_level := W.mg_of X G a10, f_over_all := f11, d_over_all := _, F_over_all := F11, b_over_all := b11, m_over_all := W.mg_of X G a11, f_stays_by := f12, d_stays_by := _, F_stays_by := F12, b_stays_by := b12, m_stays_by := W.mg_of X G a12, f_squares := f13, d_squares := _, F_squares := F13, b_squares := b13, m_squares := W.mg_of X G a13, f_rest_of := f14, d_rest_of := _, F_rest_of := F14, b_rest_of := b14, m_rest_of := W.mg_of X G a14, f_untold_sets := f15, d_untold_sets := _, F_untold_sets := F15, b_untold_sets := b15, m_untold_sets := W.mg_of X G a15, f_matters_within := f16, d_matters_within := _, F_matters_within := F16, b_matters_within := b16, m_matters_within := W.mg_of X G a16, f_stays_within := f17, d_stays_within := _, F_stays_within := F17, b_stays_within := b17, m_stays_within := W.mg_of X G a17, f_stays_with_rest := f18, d_stays_with_rest := _, F_stays_with_rest := F18, b_stays_with_rest := b18, m_stays_with_rest := W.mg_of X G a18, f_differ_at_least := f19, d_differ_at_least := _, F_differ_at_least := F19, b_differ_at_least := b19, m_differ_at_least := W.mg_of X G a19, f_most_squares_within := f20, d_most_squares_within := _, F_most_squares_within := F20, b_most_squares_within := b20, m_most_squares_within := W.mg_of X G a20, f__law_feed := f21, d__law_feed := _, F__law_feed := F21, b__law_feed := b21, m__law_feed := W.mg_of X G a21, f__law_draw := f22, d__law_draw := _, F__law_draw := F22, b__law_draw := b22, m__law_draw := W.mg_of X G a22, f__law_n := f23, d__law_n := _, F__law_n := F23, b__law_n := b23, m__law_n := W.mg_of X G a23, f__law_many := f24, d__law_many := _, F__law_many := F24, b__law_many := b24, m__law_many := W.mg_of X G a24, f__law_table := f25, d__law_table := _, F__law_table := F25, b__law_table := b25, m__law_table := W.mg_of X G a25, f__law_sum := f26, d__law_sum := _, F__law_sum := F26, b__law_sum := b26, m__law_sum := W.mg_of X G a26, f__law_share := f27, d__law_share := _, F__law_share := F27, b__law_share := b27, m__law_share := W.mg_of X G a27, f__law_shaking := f28, d__law_shaking := _, F__law_shaking := F28, b__law_shaking := b28, m__law_shaking := W.mg_of X G a28, f__law_power := f29, d__law_power := _, F__law_power := F29, b__law_power := b29, m__law_power := W.mg_of X G a29, f__law_sets := f30, d__law_sets := _, F__law_sets := F30, b__law_sets := b30, m__law_sets := W.mg_of X G a30, f__law_best := f31, d__law_best := _, F__law_best := F31, b__law_best := b31, m__law_best := W.mg_of X G a31, f__law_nearest := f32, d__law_nearest := _, F__law_nearest := F32, b__law_nearest := b32, m__law_nearest := W.mg_of X G a32, f__law_glance := f33, d__law_glance := _, F__law_glance := F33, b__law_glance := b33, m__law_glance := W.mg_of X G a33, f__law_between := f34, d__law_between := _, F__law_between := F34, b__law_between := b34, m__law_between := W.mg_of X G a34, f__law_staying := f35, d__law_staying := _, F__law_staying := F35, b__law_staying := b35, m__law_staying := W.mg_of X G a35, f__law_borne := f36, d__law_borne := _, F__law_borne := F36, b__law_borne := b36, m__law_borne := W.mg_of X G a36, f__law_has := f37, d__law_has := _, F__law_has := F37, b__law_has := b37, m__law_has := W.mg_of X G a37, f_law := fa, d_law := _, F_law := F38, b_law := b38, m_law := W.mg_of X G a38, z_abs := W.mg_none_of X G z_abs, z_any := W.mg_none_of X G z_any, z_dict := W.mg_none_of X G z_dict, z_enumerate := W.mg_none_of X G z_enumerate, z_int := W.mg_none_of X G z_int, z_len := W.mg_none_of X G z_len, z_list := W.mg_none_of X G z_list, z_max := W.mg_none_of X G z_max, z_min := W.mg_none_of X G z_min, z_range := W.mg_none_of X G z_range, z_sum := W.mg_none_of X G z_sum, z_tuple := W.mg_none_of X G z_tuple }
  exact ⟨W.fnOf "law" "law" (defArgs s_law) (defBody s_law) (defScope s_law) .none kV38 dc38 pm38 an38 cd38 ct38, fun s v => .of_eq rfl, fun base _ _ => ok_law T⟩
theorem walk {l : W.OpenLaw} {q : Program} {loose : List Str} {XP : (Str -> Option Value) -> Heap -> Prop} {YP : World -> Heap -> Prop} {d : DefRec} {K : Params -> W.Frag} (hn : l.most = some 63) (hdf : d.params.defaults = [])
    (hY : ∀ (w : World) (h : Heap), YP w h -> (K w.params).In h)
    (F : ∀ (w : World) (mg : Str -> Option Value) (fa : Addr) (h : Heap), (K w.params).In h -> h.Ns mainGlobals mg -> mg d.name = some (.ref fa) ->
      ∃ fd : FuncData, (∀ (s : Shared) (u : Value), BindsTo s fd ⟨[u], []⟩ [("_law_script", u)]) /\ ∀ base : Heap, (K w.params).In base -> base.Ns mainGlobals mg -> FnOk l.prog w (K w.params) mg base CX0 6 fa fd ["_law_script"] (spLaw (K w.params))) :
    W.WalkO q loose XP YP l.row.toRowW d [] (fun f vs => PySem.call f vs) :=
  L2.walk_of (n := 63) (k := 6) (x := "_law_script") (CX := fun _ => CX0) (sp := fun w => spLaw (K w.params)) hn (by decide) hdf ⟨rfl, by decide, by decide, rfl⟩ hY F (fun _ _ a ns hl _ hS => ⟨a, ns, rfl, hS, hl, fun _ => rfl⟩) fun _ _ _ _ _ z => z
end Mine
theorem PySem.W.Fast.te5293631290161050995 : True := trivial
def PySem.W.Fast.tw16879313473303125169 : PySem.Program := PySem.Challenge.pw_flips_k36_whole_every_table_with_a_glanc
theorem PySem.W.Fast.te16879313473303125169 : PySem.Challenge.pw_flips_k36_whole_every_table_with_a_glanc = PySem.W.Fast.tw16879313473303125169 := rfl
def PySem.W.Fast.pickB : List Bool -> List PySem.Stmt -> List PySem.Stmt
  | [], _ => []
  | b :: k, l => match b, l with
    | true, s :: r => s :: PySem.W.Fast.pickB k r
    | false, _ :: r => PySem.W.Fast.pickB k r
    | _, [] => []
def PySem.W.Fast.tw12951608918528009614 : PySem.Program := { PySem.Challenge.pw_flips_k36_whole_every_table_with_a_glanc with main := { (PySem.Challenge.pw_flips_k36_whole_every_table_with_a_glanc).main with body := PySem.W.Fast.pickB [false, true, true, false, true, true, true, true, false, true, true, false, true, true, true, true, false, true, false, true, false, true, true, true, true, true, true, true, false, true, true, true, true, true, true, true, true, true, true, true, true, true, true, true, true, true, true] (PySem.Challenge.pw_flips_k36_whole_every_table_with_a_glanc).main.body } }
theorem PySem.W.Fast.te12951608918528009614 : PySem.W.Fast.tw12951608918528009614 = PySem.W.Fast.tw12951608918528009614 := rfl
def PySem.W.Fast.tw16828722408097805962 : List PySem.Stmt := ((PySem.Challenge.pw_flips_k36_whole_every_table_with_a_glanc).main.body.drop 0).take 16
theorem PySem.W.Fast.te16828722408097805962 : PySem.W.Fast.tw16828722408097805962 = PySem.W.Fast.tw16828722408097805962 := rfl
def PySem.W.Fast.tw18315670488230902211 : List PySem.Stmt := ((PySem.Challenge.pw_flips_k36_whole_every_table_with_a_glanc).main.body.drop 16).take 16
theorem PySem.W.Fast.te18315670488230902211 : PySem.W.Fast.tw18315670488230902211 = PySem.W.Fast.tw18315670488230902211 := rfl
def PySem.W.Fast.tw2677658750270731199 : List PySem.Stmt := ((PySem.Challenge.pw_flips_k36_whole_every_table_with_a_glanc).main.body.drop 32).take 14
theorem PySem.W.Fast.te2677658750270731199 : PySem.W.Fast.tw2677658750270731199 = PySem.W.Fast.tw2677658750270731199 := rfl
def PySem.W.Fast.tw1239108537114532973 : List PySem.Stmt := ((PySem.Challenge.pw_flips_k36_whole_every_table_with_a_glanc).main.body.drop 46).take 1
theorem PySem.W.Fast.te1239108537114532973 : PySem.W.Fast.tw1239108537114532973 = PySem.W.Fast.tw1239108537114532973 := rfl
open PySem PySem.W PyProof.Rows
set_option maxRecDepth 100000 in
set_option maxHeartbeats 0 in
theorem PySem.Challenge.cw_flips_k36_whole_every_table_with_a_glanc_holds : PySem.Challenge.rw_flips_k36_whole_every_table_with_a_glanc.Holds := by
  w_on; o_law; k_head; (case hw => w_witness2)
  k_fill
  refine Mine.walk (l := PySem.Challenge.rw_flips_k36_whole_every_table_with_a_glanc) rfl rfl (fun w h Y => PySem.W.kIn_of Y) ?F
  case F =>
    intro w mg fa h KX G hmg
    refine' Mine.all_mk KX G hmg ?a0 ?l0 ?c0 ?k0 ?a1 ?l1 ?c1 ?k1 ?a2 ?l2 ?c2 ?k2 ?a3 ?l3 ?c3 ?k3 ?a4 ?l4 ?c4 ?k4 ?a5 ?l5 ?c5 ?k5 ?a6 ?l6 ?c6 ?k6 ?a7 ?l7 ?c7 ?k7 ?a8 ?l8 ?c8 ?k8 ?a9 ?l9 ?c9 ?k9 ?a10 ?l10 ?c10 ?k10 ?a11 ?l11 ?c11 ?k11 ?a12 ?l12 ?c12 ?k12 ?a13 ?l13 ?c13 ?k13 ?a14 ?l14 ?c14 ?k14 ?a15 ?l15 ?c15 ?k15 ?a16 ?l16 ?c16 ?k16 ?a17 ?l17 ?c17 ?k17 ?a18 ?l18 ?c18 ?k18 ?a19 ?l19 ?c19 ?k19 ?a20 ?l20 ?c20 ?k20 ?a21 ?l21 ?c21 ?k21 ?a22 ?l22 ?c22 ?k22 ?a23 ?l23 ?c23 ?k23 ?a24 ?l24 ?c24 ?k24 ?a25 ?l25 ?c25 ?k25 ?a26 ?l26 ?c26 ?k26 ?a27 ?l27 ?c27 ?k27 ?a28 ?l28 ?c28 ?k28 ?a29 ?l29 ?c29 ?k29 ?a30 ?l30 ?c30 ?k30 ?a31 ?l31 ?c31 ?k31 ?a32 ?l32 ?c32 ?k32 ?a33 ?l33 ?c33 ?k33 ?a34 ?l34 ?c34 ?k34 ?a35 ?l35 ?c35 ?k35 ?a36 ?l36 ?c36 ?k36 ?a37 ?l37 ?c37 ?k37 ?a38 ?l38 ?c38 ?k38 ?z_abs ?z_any ?z_dict ?z_enumerate ?z_int ?z_len ?z_list ?z_max ?z_min ?z_range ?z_sum ?z_tuple
    (case a0 | l0 | c0 | k0 | a1 | l1 | c1 | k1 | a2 | l2 | c2 | k2 | a3 | l3 | c3 | k3 | a4 | l4 | c4 | k4 | a5 | l5 | c5 | k5 | a6 | l6 | c6 | k6 | a7 | l7 | c7 | k7 | a8 | l8 | c8 | k8 | a9 | l9 | c9 | k9 | a10 | l10 | c10 | k10 | a11 | l11 | c11 | k11 | a12 | l12 | c12 | k12 | a13 | l13 | c13 | k13 | a14 | l14 | c14 | k14 | a15 | l15 | c15 | k15 | a16 | l16 | c16 | k16 | a17 | l17 | c17 | k17 | a18 | l18 | c18 | k18 | a19 | l19 | c19 | k19 | a20 | l20 | c20 | k20 | a21 | l21 | c21 | k21 | a22 | l22 | c22 | k22 | a23 | l23 | c23 | k23 | a24 | l24 | c24 | k24 | a25 | l25 | c25 | k25 | a26 | l26 | c26 | k26 | a27 | l27 | c27 | k27 | a28 | l28 | c28 | k28 | a29 | l29 | c29 | k29 | a30 | l30 | c30 | k30 | a31 | l31 | c31 | k31 | a32 | l32 | c32 | k32 | a33 | l33 | c33 | k33 | a34 | l34 | c34 | k34 | a35 | l35 | c35 | k35 | a36 | l36 | c36 | k36 | a37 | l37 | c37 | k37 | a38 | l38 | c38 | k38 | z_abs | z_any | z_dict | z_enumerate | z_int | z_len | z_list | z_max | z_min | z_range | z_sum | z_tuple => k_is)
