import PyProof.Rows.All
import Wide.All
import OpenK.AllK
import Wide.FinOn
import Lean
import PyProof.EqAt
import PyProof.EqKinds
import PyProof.TupleCall
import PyProof.NeKinds
import PyProof.ReprRoads
import PyProof.ReprBulk
import PyProof.Draws
import PyProof.EnumMake
import KE.BitLaws
import PyProof.ListIndex
import PyProof.AttrMissHeap
import PyProof.DictUpdate
import KE.KDictOf
import PyProof.FactsAll.enumerate_1
import PyProof.FactsAll.tuple_2
import PyProof.ListMulRoad
import PyProof.ListRange
import PyProof.FactsAll.list_3
import PyProof.Rows.SortWalk
import PyProof.Rows.MinMaxN
import PySem.Challenge.RW_flips_k29_papers_with_one_fault
set_option Elab.async false
set_option linter.all false
set_option maxRecDepth 100000
set_option maxHeartbeats 4000000
-- CHANGE: your row's module here, as the last of these rows
namespace L2
open PySem PySem.Spec PyProof.Rows
abbrev Key := Sum Int Str
def keyIs : Key -> Value -> Bool
  | .inl k, v => Value.isInt k v
  | .inr x, v => Value.isStrOf x v
def keyH (w : World) : Key -> Int
  | .inl k => hashInt k
  | .inr x => hashStr w x
theorem keyIs_shape : ∀ {k : Key} {v : Value}, keyIs k v = true -> (∃ i t, k = Sum.inl i /\ v = Value.int i t) \/ (∃ x t, k = Sum.inr x /\ v = Value.str x t)
  | .inl i, v, h => by
    obtain ⟨t, e⟩ := Value.isInt_shape (k := i) (v := v) h
    exact .inl ⟨i, t, rfl, e⟩
  | .inr x, v, h => by
    obtain ⟨t, e⟩ := Value.isStrOf_shape (x := x) (v := v) h
    exact .inr ⟨x, t, rfl, e⟩
theorem keyIs_int (i : Int) (t : Tok) : keyIs (.inl i) (.int i t) = true := by simp [keyIs, Value.isInt]
theorem keyIs_str (x : Str) (t : Tok) : keyIs (.inr x) (.str x t) = true := by simp [keyIs, Value.isStrOf]
theorem key_ll (a b : Int) : decide ((Sum.inl a : Key) = Sum.inl b) = (a == b) := by
  by_cases e : a = b
  . subst e; simp
  . have h : ¬ (Sum.inl a : Key) = Sum.inl b := fun q => e (Sum.inl.inj q)
    rw [decide_eq_false h]
    exact (beq_eq_false_iff_ne.mpr e).symm
theorem key_rr (a b : Str) : decide ((Sum.inr a : Key) = Sum.inr b) = decide (a = b) := by
  by_cases e : a = b
  . subst e; simp
  . have h : ¬ (Sum.inr a : Key) = Sum.inr b := fun q => e (Sum.inr.inj q)
    rw [decide_eq_false h, decide_eq_false e]
theorem key_lr (a : Int) (b : Str) : decide ((Sum.inl a : Key) = Sum.inr b) = false := decide_eq_false (fun q => nomatch q)
theorem key_rl (a : Str) (b : Int) : decide ((Sum.inr a : Key) = Sum.inl b) = false := decide_eq_false (fun q => nomatch q)
def mixKind (prog : Program) (w : World) : PySem.KeyKind prog w Key where
  is := keyIs
  hash := keyH w
  inj := fun v a b ha hb => by
    rcases keyIs_shape ha with ⟨i, t, rfl, rfl⟩ | ⟨x, t, rfl, rfl⟩
    . rcases keyIs_shape hb with ⟨j, u, rfl, e⟩ | ⟨y, u, rfl, e⟩
      . injection e with e1 _; rw [e1]
      . exact nomatch e
    . rcases keyIs_shape hb with ⟨j, u, rfl, e⟩ | ⟨y, u, rfl, e⟩
      . exact nomatch e
      . injection e with e1 _; rw [e1]
  byValue := fun k v h => by
    rcases keyIs_shape h with ⟨i, t, rfl, rfl⟩ | ⟨x, t, rfl, rfl⟩ <;> rfl
  pyHash := fun hv h => by
    rcases keyIs_shape hv with ⟨i, t, rfl, rfl⟩ | ⟨x, t, rfl, rfl⟩
    . exact wpAny_pyHash_int h
    . exact wpAny_pyHash_str h
  eqBool := fun hu hv h => by
    rcases keyIs_shape hu with ⟨i, t, rfl, rfl⟩ | ⟨x, t, rfl, rfl⟩
    . rcases keyIs_shape hv with ⟨j, u, rfl, rfl⟩ | ⟨y, u, rfl, rfl⟩
      . rw [key_ll] at h; exact wpAny_eqBool_int h
      . rw [key_lr] at h; exact SeqAt.EqAt.int_str i t y u _ _ _ _ h
    . rcases keyIs_shape hv with ⟨j, u, rfl, rfl⟩ | ⟨y, u, rfl, rfl⟩
      . rw [key_rl] at h; exact SeqAt.EqAt.str_int x t j u _ _ _ _ h
      . rw [key_rr] at h; exact wpAny_eqBool_str h
  «strs» := fun k x t v h => by
    rcases keyIs_shape h with ⟨i, u, rfl, e⟩ | ⟨y, u, rfl, e⟩
    . exact nomatch e
    . injection e with e1 _
      subst e1
      cases v <;> rfl
theorem mixKind_int (prog : Program) (w : World) (i : Int) (t : Tok) : (mixKind prog w).is (.inl i) (.int i t) = true := keyIs_int i t
theorem mixKind_str (prog : Program) (w : World) (x : Str) (t : Tok) : (mixKind prog w).is (.inr x) (.str x t) = true := keyIs_str x t
inductive V where
  | non | bl (b : Bool) | int (i : Int) | str (x : Str) | byt (b : Array UInt8) | flt (b : UInt64) | ref (a : Addr) | ty (n : String)
  deriving DecidableEq
def RelV : V -> Value -> Prop
  | .non, u => u = Value.none
  | .bl b, u => u = Value.bool b
  | .int i, u => ∃ t, u = Value.int i t
  | .str x, u => ∃ t, u = Value.str x t
  | .byt b, u => ∃ t, u = Value.bytes b t
  | .flt b, u => ∃ t, u = Value.float b t
  | .ref a, u => u = Value.ref a
  | .ty n, u => u = Value.type n
abbrev Vals : List V -> List Value -> Prop := Paired RelV
theorem Vals.length {xs : List V} {us : List Value} (r : Vals xs us) : xs.length = us.length := Paired.length r
theorem Vals.get : ∀ {xs : List V} {us : List Value} {i : Nat} {x : V}, Vals xs us -> xs[i]? = some x -> ∃ u, us[i]? = some u /\ RelV x u
  | _, _, _, _, .nil, e => by simp at e
  | _, _, 0, _, .cons r _, e => by simp at e; subst e; exact ⟨_, rfl, r⟩
  | _, _, i + 1, x, .cons _ t, e => by
    obtain ⟨u, h1, h2⟩ := Vals.get (i := i) (x := x) t (by simpa using e)
    exact ⟨u, by simpa using h1, h2⟩
theorem Vals.set {x : V} {u : Value} (r : RelV x u) : ∀ {xs : List V} {us : List Value} (i : Nat), Vals xs us -> Vals (xs.set i x) (us.set i u)
  | _, _, _, .nil => .nil
  | _, _, 0, .cons _ t => .cons r t
  | _, _, i + 1, .cons q t => .cons q (Vals.set r i t)
theorem Vals.append : ∀ {xs ys : List V} {us ws : List Value}, Vals xs us -> Vals ys ws -> Vals (xs ++ ys) (us ++ ws)
  | _, _, _, _, .nil, s => s
  | _, _, _, _, .cons r t, s => .cons r (Vals.append t s)
theorem Vals.take : ∀ {xs : List V} {us : List Value} (n : Nat), Vals xs us -> Vals (xs.take n) (us.take n)
  | _, _, 0, _ => .nil
  | _, _, _ + 1, .nil => .nil
  | _, _, n + 1, .cons r t => .cons r (Vals.take n t)
theorem Vals.drop : ∀ {xs : List V} {us : List Value} (n : Nat), Vals xs us -> Vals (xs.drop n) (us.drop n)
  | _, _, 0, r => r
  | _, _, _ + 1, .nil => .nil
  | _, _, n + 1, .cons _ t => Vals.drop n t
theorem Vals.none_of : ∀ {xs : List V} {us : List Value} {i : Nat}, Vals xs us -> xs[i]? = none -> us[i]? = none := fun {xs us i} r e => by
  have h1 := r.length
  have h2 : xs.length <= i := List.getElem?_eq_none_iff.mp e
  exact List.getElem?_eq_none_iff.mpr (by omega)
def RelO : Option V -> Option Value -> Prop
  | some v, some u => RelV v u
  | none, none => True
  | _, _ => False
def KV {κ : Type} : List (κ × V) -> List (κ × Value) -> Prop := Paired fun (p : κ × V) (q : κ × Value) => p.1 = q.1 /\ RelV p.2 q.2
def kV : Key -> V
  | .inl i => .int i
  | .inr x => .str x
inductive HO where
    | lst (xs : List V)
    | tup (xs : List V)
    | dK (kvs : List (Key × V)) | dT (kvs : List (List Key × V))
    | set (S : Int -> Bool) (n : Nat)
    | ins (C dx : Addr) (fs : List (Str × V))
    | own (x : Addr)
    | xd (fs : List (Str × V))
    | met (f x : Addr)
    | rng (lo hi : Int)
    | frz (o : Obj) (u : HO)
    | tbl (ps : Array Value)
    | ext (φ : Heap -> Prop)
abbrev Hp := Addr -> Option HO
def upd (H : Hp) (a : Addr) (o : HO) : Hp := fun b => if b = a then some o else H b
theorem upd_same {H : Hp} {a : Addr} {o : HO} : upd H a o a = some o := by unfold upd; rw [if_pos rfl]
theorem upd_ne {H : Hp} {a b : Addr} {o : HO} (h : b ≠ a) : upd H a o b = H b := by unfold upd; rw [if_neg h]
theorem ne_of {H : Hp} {a b : Addr} {o u : HO} (h : H a = some o) (h' : H b = some u) (d : o ≠ u) : a ≠ b := by
  intro e; subst e; rw [h] at h'; exact d (Option.some.inj h')
theorem ne_of_none {H : Hp} {a b : Addr} {o : HO} (h : H a = some o) (h' : H b = none) : a ≠ b := by
  intro e; subst e; rw [h] at h'; cases h'
def IsTupN (h : Heap) (a : Addr) (items : Array Value) : Prop := ∃ o, h.get? a = some o /\ o.cls = .type "tuple" /\ (∃ n, o.data = .seq items n) /\ o.dict = none
theorem IsTupN.tup {h : Heap} {a : Addr} {items : Array Value} (x : IsTupN h a items) : PyProof.Rows.IsTup h a items := by
  obtain ⟨o, e, c, d, _⟩ := x
  exact ⟨o, e, c, d⟩
theorem IsTupN.new (h : Heap) (items : Array Value) : IsTupN (h.push { cls := .type "tuple", data := .seq items }) h.objs.size items := ⟨_, Heap.get?_push_size _ rfl, rfl, ⟨_, rfl⟩, rfl⟩
section
variable (P : Program) (w : World)
def ObjOk (H : Hp) (h : Heap) (a : Addr) : HO -> Prop
  | .lst xs => xs.length <= sizeLine /\ ∃ (its : List Value) (n : Nat), Vals xs its /\ h.get? a = some { cls := .type "list", data := .seq its.toArray n }
  | .tup xs => xs.length <= sizeLine /\ ∃ its : List Value, Vals xs its /\ IsTupN h a its.toArray
  | .dK kvs => kvs.length <= sizeLine /\ (a == sysModules) = false /\ ∃ vs, KV kvs vs /\ h.DictOf (mixKind P w) a vs
  | .dT kvs => kvs.length <= sizeLine /\ (a == sysModules) = false /\ ∃ xs : List (List Key × Addr × Value),
      Paired (fun (p : List Key × V) (q : List Key × Addr × Value) => p.1 = q.1 /\ H q.2.1 = some (.tup (p.1.map kV)) /\ RelV p.2 q.2.2) kvs xs /\
      ∃ o es ep, h.get? a = some o /\ o.ExactDict /\ o.data = .dict es ep /\ es.toList = xs.map (entryOfKey (tupleKind (mixKind P w))) /\ (xs.map (·.1)).Nodup
  | .set S n => h.SetOf (intKind P w) a S n
  | .ins C dx fs => H dx = some (.own a) /\ fs.length <= 1000 /\ dx ≠ a /\ h.get? a = some (PySem.W.instObj C dx) /\
      ∃ mA, h.Ns1 dx mA /\ (∀ f, RelO (fs.lookup f) (mA f)) /\ PySem.Within mA (fs.map (·.1))
  | .own _ => ∃ o, h.get? a = some o
  | .xd fs => ∃ mA, h.Ns1 a mA /\ ∀ f, RelO (fs.lookup f) (mA f)
  | .rng lo hi => ∃ t u v, h.get? a = some { cls := .type "range", data := .fields #[.int lo t, .int hi u, .int 1 v] }
  | .frz o u => h.get? a = some o /\ ObjOk H h a u
  | .tbl ps => h.get? a = some { cls := .none, data := .fields ps }
  | .met f x => h.get? a = some (PySem.W.methodObj (.ref f) (.ref x))
  | .ext φ => φ h /\ (∃ o, h.get? a = some o) /\ ∀ h1 h2 : Heap, φ h1 -> (∀ o, h1.get? a = some o -> h2.get? a = some o) -> φ h2
def HOk (H : Hp) (h : Heap) : Prop := ∀ a o, H a = some o -> ObjOk P w H h a o
end
section
variable {P : Program} {w : World} {H H' : Hp} {h h' : Heap} {a : Addr} {o : HO}
theorem ObjOk.lt (x : ObjOk P w H h a o) : a < h.objs.size := by
  cases o with
  | lst xs => obtain ⟨_, _, _, _, e⟩ := x; exact Heap.lt_size e
  | tup xs => obtain ⟨_, _, _, p⟩ := x; exact p.tup.lt
  | dK kvs => obtain ⟨_, _, _, _, o, _, _, e, _⟩ := x; exact Heap.lt_size e
  | dT kvs => obtain ⟨_, _, _, _, o, _, _, e, _⟩ := x; exact Heap.lt_size e
  | set S n => obtain ⟨o, _, _, _, e, _⟩ := x; exact Heap.lt_size e
  | ins C dx fs => obtain ⟨_, _, _, e, _⟩ := x; exact Heap.lt_size e
  | own y => obtain ⟨_, e⟩ := x; exact Heap.lt_size e
  | xd fs => obtain ⟨_, ⟨_, _, _, e, _⟩, _⟩ := x; exact Heap.lt_size e
  | rng lo hi => obtain ⟨_, _, _, e⟩ := x; exact Heap.lt_size e
  | frz ob u => obtain ⟨e, _⟩ := x; exact Heap.lt_size e
  | tbl ps => exact Heap.lt_size (show h.get? a = some _ from x)
  | met f y => exact Heap.lt_size (show h.get? a = some _ from x)
  | ext φ => obtain ⟨_, ⟨_, e⟩, _⟩ := x; exact Heap.lt_size e
theorem Paired.mapP {α β : Type} {F G : α -> β -> Prop} : ∀ {l₁ : List α} {l₂ : List β}, Paired F l₁ l₂ -> (∀ a b, F a b -> G a b) -> Paired G l₁ l₂
  | _, _, .nil, _ => .nil
  | _, _, .cons r t, f => .cons (f _ _ r) (Paired.mapP t f)
theorem ObjOk.stay (x : ObjOk P w H h a o) (k : ∀ b u, (b = a \/ H b = some (.own a)) -> h.get? b = some u -> h'.get? b = some u)
    (ho : ∀ b, H b = some (.own a) -> H' b = some (.own a)) (ht : ∀ b xs, H b = some (.tup xs) -> H' b = some (.tup xs)) : ObjOk P w H' h' a o := by
  induction o with
  | lst xs => obtain ⟨z, its, n, r, e⟩ := x; exact ⟨z, its, n, r, k _ _ (.inl rfl) e⟩
  | tup xs => obtain ⟨z, its, r, ob, e, c⟩ := x; exact ⟨z, its, r, ob, k _ _ (.inl rfl) e, c⟩
  | dK kvs => obtain ⟨z, y, vs, r, ob, es, ep, e, c⟩ := x; exact ⟨z, y, vs, r, ob, es, ep, k _ _ (.inl rfl) e, c⟩
  | dT kvs =>
    obtain ⟨z, y, xs, r, ob, es, ep, e, c⟩ := x
    exact ⟨z, y, xs, Paired.mapP r fun p q z => ⟨z.1, ht _ _ z.2.1, z.2.2⟩, ob, es, ep, k _ _ (.inl rfl) e, c⟩
  | set S n => obtain ⟨ob, es, ep, t, e, c⟩ := x; exact ⟨ob, es, ep, t, k _ _ (.inl rfl) e, c⟩
  | ins C dx fs =>
    obtain ⟨d, z, ne, e, mA, ⟨od, es, ep, e2, c⟩, r⟩ := x
    exact ⟨ho _ d, z, ne, k _ _ (.inl rfl) e, mA, ⟨od, es, ep, k _ _ (.inr d) e2, c⟩, r⟩
  | own y => obtain ⟨ob, e⟩ := x; exact ⟨ob, k _ _ (.inl rfl) e⟩
  | xd fs => obtain ⟨mA, ⟨od, es, ep, e, c⟩, r⟩ := x; exact ⟨mA, ⟨od, es, ep, k _ _ (.inl rfl) e, c⟩, r⟩
  | rng lo hi => obtain ⟨t, u, v, e⟩ := x; exact ⟨t, u, v, k _ _ (.inl rfl) e⟩
  | frz ob u ih => obtain ⟨e, q⟩ := x; exact ⟨k _ _ (.inl rfl) e, ih q⟩
  | tbl ps =>
    have e : h.get? a = some { cls := .none, data := .fields ps } := x
    show h'.get? a = some { cls := .none, data := .fields ps }
    exact k a _ (.inl rfl) e
  | met f y =>
    have e : h.get? a = some (PySem.W.methodObj (.ref f) (.ref y)) := x
    show h'.get? a = some (PySem.W.methodObj (.ref f) (.ref y))
    exact k a _ (.inl rfl) e
  | ext φ => obtain ⟨p, ⟨o, e⟩, st⟩ := x; exact ⟨st _ _ p fun o q => k _ _ (.inl rfl) q, ⟨o, k _ _ (.inl rfl) e⟩, st⟩
theorem HOk.lt (x : HOk P w H h) (e : H a = some o) : a < h.objs.size := (x a o e).lt
theorem HOk.fresh (x : HOk P w H h) (e : h.objs.size <= a) : H a = none := by
  cases q : H a with
  | none => rfl
  | some u => exact absurd (Nat.lt_of_lt_of_le (x.lt q) e) (Nat.lt_irrefl _)
theorem HOk.kept (x : HOk P w H h) (k : ∀ b u, h.get? b = some u -> h'.get? b = some u) : HOk P w H h' := fun a o e =>
  (x a o e).stay (fun b u _ q => k b u q) (fun _ q => q) fun _ _ q => q
theorem HOk.laid (x : HOk P w H h) (k : ∀ b u, h.get? b = some u -> h'.get? b = some u) (hp : h.objs.size <= a) (new : ObjOk P w (upd H a o) h' a o) : HOk P w (upd H a o) h' := fun b u e => by
  have hn := x.fresh hp
  by_cases hb : b = a
  . subst hb; rw [upd_same] at e; cases e; exact new
  . rw [upd_ne hb] at e
    exact (x b u e).stay (fun c v _ q => k c v q) (fun c q => by rw [upd_ne (ne_of_none q hn)]; exact q) fun c xs q => by rw [upd_ne (ne_of_none q hn)]; exact q
end
def Rd (H : Hp) (a : Addr) (u : HO) : Prop := H a = some u \/ ∃ o, H a = some (.frz o u)
theorem Rd.ok {P : Program} {w : World} {H : Hp} {h : Heap} {a : Addr} {u : HO} (r : Rd H a u) (x : HOk P w H h) : ObjOk P w H h a u := by
  rcases r with r | ⟨o, r⟩
  . exact x a u r
  . obtain ⟨_, q⟩ := x a _ r
    exact q
def Mut : Option HO -> Prop
  | some (.lst _) => True
  | some (.dK _) => True
  | some (.dT _) => True
  | some (.set _ _) => True
  | some (.ins _ _ _) => True
  | some (.ext _) => True
  | _ => False
section
variable {P : Program} {w : World} {H : Hp} {h h' : Heap} {x e : Addr} {o' : HO}
theorem HOk.write (ok : HOk P w H h) (mu : Mut (H x)) (he : e = x \/ H e = some (.own x)) (k : ∀ b u, b ≠ e -> h.get? b = some u -> h'.get? b = some u) (heo : ∃ u, h'.get? e = some u)
    (new : ObjOk P w (upd H x o') h' x o') : HOk P w (upd H x o') h' := fun b u q => by
  have nown : ∀ c y, H c = some (.own y) -> c ≠ x := fun c y r z => by subst z; rw [r] at mu; exact mu
  have ntup : ∀ c xs, H c = some (.tup xs) -> c ≠ x := fun c xs r z => by subst z; rw [r] at mu; exact mu
  by_cases hb : b = x
  . subst hb; rw [upd_same] at q; cases q; exact new
  . rw [upd_ne hb] at q
    by_cases hbe : b = e
    . have q' : H b = some (.own x) := by
        rcases he with z | z
        . exact absurd (hbe.trans z) hb
        . rw [hbe]; exact z
      rw [q] at q'; cases q'
      obtain ⟨v, hv⟩ := heo
      exact ⟨v, by rw [hbe]; exact hv⟩
    . refine (ok b u q).stay (fun c v hc r => k c v ?_ r) (fun c r => by rw [upd_ne (nown c b r)]; exact r) fun c xs r => by rw [upd_ne (ntup c xs r)]; exact r
      rcases hc with rfl | hc
      . exact hbe
      . rintro rfl
        rcases he with z | z
        . exact nown c b hc z
        . rw [hc] at z; cases z; exact hb rfl
end
structure Un (fs ex : List Addr) (H H' : Hp) (h h' : Heap) : Prop where
  keep : ∀ b o, h.get? b = some o -> H b = none -> b ∉ fs -> b ∉ ex -> h'.get? b = some o
  slot : ∀ b o, h.get? b = some o -> H b = none -> b ∈ fs -> b ∉ ex -> ∃ sl, h'.get? b = some { o with slots := sl }
  free : ∀ b o, h.get? b = some o -> H b = none -> b ∉ ex -> H' b = none
  there : ∀ b o, h.get? b = some o -> b ∉ ex -> ∃ o', h'.get? b = some o'
  tups : ∀ b xs, H b = some (.tup xs) -> H' b = some (.tup xs)
  frzs : ∀ b o u, H b = some (.frz o u) -> H' b = some (.frz o u)
  tbls : ∀ b ps, H b = some (.tbl ps) -> ∃ more, H' b = some (.tbl (ps ++ more))
section
variable {fs fs' ex ex' : List Addr} {H H1 H2 : Hp} {h h1 h2 h' : Heap} {a x e : Addr} {o : HO}
theorem Un.any (u : Un fs ex H H1 h h1) {b : Addr} {ob : Obj} (q : h.get? b = some ob) (n : H b = none) (hx : b ∉ ex) : ∃ sl, h1.get? b = some { ob with slots := sl } := by
  by_cases hb : b ∈ fs
  . exact u.slot b ob q n hb hx
  . exact ⟨ob.slots, u.keep b ob q n hb hx⟩
theorem Un.kept (k : ∀ b u, h.get? b = some u -> h'.get? b = some u) : Un fs ex H H h h' :=
  ⟨fun b ob q _ _ _ => k b ob q, fun b ob q _ _ _ => ⟨ob.slots, k b ob q⟩, fun _ _ _ n _ => n, fun b ob q _ => ⟨ob, k b ob q⟩, fun _ _ q => q, fun _ _ _ q => q, fun _ ps q => ⟨#[], by rw [q]; simp⟩⟩
theorem Un.refl : Un fs ex H H h h := Un.kept fun _ _ q => q
theorem Un.laid (k : ∀ b u, h.get? b = some u -> h'.get? b = some u) (hp : h.objs.size <= a) (hn : H a = none) : Un fs ex H (upd H a o) h h' where
  keep := fun b u q _ _ _ => k b u q
  slot := fun b u q _ _ _ => ⟨u.slots, k b u q⟩
  free := fun b u q n _ => by rw [upd_ne (Nat.ne_of_lt (Nat.lt_of_lt_of_le (Heap.lt_size q) hp))]; exact n
  there := fun b u q _ => ⟨u, k b u q⟩
  tups := fun b xs q => by rw [upd_ne (ne_of_none q hn)]; exact q
  frzs := fun b u xs q => by rw [upd_ne (ne_of_none q hn)]; exact q
  tbls := fun b ps q => ⟨#[], by rw [upd_ne (ne_of_none q hn), q]; simp⟩
theorem Un.write (mu : Mut (H x)) (he : e = x \/ H e = some (.own x)) (k : ∀ b u, b ≠ e -> h.get? b = some u -> h'.get? b = some u) (heo : ∃ u, h'.get? e = some u) : Un fs ex H (upd H x o) h h' := by
  have hx : ∀ b, H b = none -> b ≠ x := fun b n z => by subst z; rw [n] at mu; exact mu
  have hb : ∀ b, H b = none -> b ≠ e := fun b n z => by
    subst z
    rcases he with r | r
    . exact hx b n r
    . rw [n] at r; cases r
  have hm : ∀ b u, H b = some u -> ¬ Mut (some u) -> b ≠ x := fun b u q nm z => by subst z; rw [q] at mu; exact nm mu
  refine ⟨fun b u q n _ _ => k b u (hb b n) q, fun b u q n _ _ => ⟨u.slots, k b u (hb b n) q⟩, fun b u q n _ => by rw [upd_ne (hx b n)]; exact n, fun b u q _ => ?_,
    fun b xs q => by rw [upd_ne (hm b _ q fun z => z)]; exact q, fun b u xs q => by rw [upd_ne (hm b _ q fun z => z)]; exact q, fun b ps q => ⟨#[], by rw [upd_ne (hm b _ q fun z => z), q]; simp⟩⟩
  by_cases hbe : b = e
  . subst hbe; exact heo
  . exact ⟨u, k b u hbe q⟩
end
def trk (h : Heap) (H : Hp) : List Addr := (List.range h.objs.size).filter fun a => (H a).isSome
def hidT (h : Heap) (H : Hp) : Heap := PySem.W.hideAll h (trk h H)
theorem hidT_size (h : Heap) (H : Hp) : (hidT h H).objs.size = h.objs.size := PySem.W.hideAll_size _ _
theorem hidT_get {h : Heap} {H : Hp} {b : Addr} {o : Obj} (e : h.get? b = some o) (n : H b = none) : (hidT h H).get? b = some o :=
  PySem.W.hideAll_get _ e fun hm => by
    have q : (H b).isSome = true := (List.mem_filter.mp hm).2
    rw [n] at q; simp at q
theorem of_hidT {h : Heap} {H : Hp} {b : Addr} {o : Obj} (e : (hidT h H).get? b = some o) : h.get? b = some o /\ H b = none := by
  have e' : h.get? b = some o := PySem.W.of_hideAll (trk h H) e
  refine ⟨e', ?_⟩
  cases q : H b with
  | none => rfl
  | some x =>
    have hm : b ∈ trk h H := List.mem_filter.mpr ⟨List.mem_range.mpr (Heap.lt_size e'), by simp [q]⟩
    have z : (hidT h H).get? b = none := PySem.W.hideAll_none (trk h H) hm
    rw [z] at e; cases e
def allNews (g h : Heap) (L : Addr) : List (Addr × Obj) := (List.range h.objs.size).filterMap fun a => if a = L \/ (g.get? a).isSome = true then none else (h.get? a).map fun o => (a, o)
def rest (g h : Heap) (L d : Addr) : List (Addr × Obj) := (allNews g h L).filter fun p => decide (p.1 ≠ d)
structure Mod (K : PySem.W.Frag) (mg : Str -> Option Value) (base : Heap) : Prop where
  kin : K.In base
  glob : base.Ns mainGlobals mg
  blt : ∃ mb, base.Ns builtinsNs mb /\ ∀ x : Str, x ≠ "__name__" -> mb x = bootBuiltins x
  nolimit : base.NoLimit
structure Cx where
  prog : Program
  w : World
  K : PySem.W.Frag
  mg : Str -> Option Value
  base : Heap
  A : Around
  N : List Str
  s₀ : Shared
  H₀ : Hp
  env : Env
  outer : List Env
  stack : List Env
  ex : List Addr
  fn : Str -> Bool
  calm : Bool
  pn : List (Addr × Obj)
  xe : Value -> Shared -> Prop
def frs (l : List Env) : List Addr := l.filterMap (·.frame)
abbrev Cx.fs (X : Cx) : List Addr := frs X.outer
def Vis (sc : Scope) (x : Str) : Prop := sc.names.lookup x = some .local \/ sc.names.lookup x = some .cell \/ sc.names.lookup x = some .free
def Loc (sc : Scope) (x : Str) : Prop := sc.names.lookup x = some .local \/ sc.names.lookup x = some .cell
def Look (env : Env) (h : Heap) (m : Str -> Option Value) (x : Str) (u : Value) : Prop :=
  (env.kindOf x = some .local /\ m x = some u) \/ ((env.kindOf x = some .cell \/ env.kindOf x = some .free) /\ ∃ c, env.cells.lookup x = some c /\ h.IsCell c (some u))
structure Cx.Ok (X : Cx) : Prop where
  mod : Mod X.K X.mg X.base
  kind : X.env.scope.kind = .function
  glob : X.env.globals = mainGlobals
  blt : X.env.builtins = builtinsNs
  above : X.s₀.heap.objs.size <= X.env.locals
  inj : ∀ x y c, X.env.cells.lookup x = some c -> X.env.cells.lookup y = some c -> x = y
  has : ∀ x, (X.env.kindOf x = some .cell \/ X.env.kindOf x = some .free) -> ∃ c, X.env.cells.lookup x = some c
  cab : ∀ x c, X.fn x = true -> X.env.cells.lookup x = some c -> X.s₀.heap.objs.size <= c
  hd : X.calm = true -> X.A.handled = none
  frames : X.A.frames = some X.stack
  stk : X.stack = X.outer \/ (X.stack = X.env :: X.outer /\ X.env.frame = some X.env.locals)
  exf : ∀ b ∈ X.ex, b ≠ X.env.locals /\ ∀ x c, X.env.cells.lookup x = some c -> c ≠ b
  bs : ∀ b o, X.base.get? b = some o -> X.s₀.heap.get? b = some o /\ X.H₀ b = none
  bsz : X.base.objs.size <= X.s₀.heap.objs.size
  noex : ∀ b o, X.base.get? b = some o -> b ∉ X.ex
  exfs : ∀ b ∈ X.ex, b ∉ X.fs
  funs : X.s₀.heap.FunFrames X.base X.outer
  frf : ∀ b ∈ X.fs, X.H₀ b = none
structure Inv (X : Cx) (pins : List (Addr × Obj)) (σ : List (Option V)) (H : Hp) (s : Shared) : Prop where
  ok : X.Ok
  os : s.os = X.s₀.os
  bare : AllBare s.gens
  base : Un X.fs X.ex X.H₀ H X.s₀.heap s.heap
  loc : ∃ m, s.heap.Ns X.env.locals m /\ ∀ (i : Nat) (x : Str) (v : V), X.N[i]? = some x -> σ[i]? = some (some v) -> Vis X.env.scope x -> ∃ u, RelV v u /\ Look X.env s.heap m x u
  cell : ∀ x c, X.env.cells.lookup x = some c -> ∃ v, s.heap.IsCell c v
  free : H X.env.locals = none
  freeC : ∀ x c, X.env.cells.lookup x = some c -> H c = none
  pin : ∀ p ∈ X.pn ++ pins, s.heap.get? p.1 = some p.2 /\ H p.1 = none /\ p.1 ≠ X.env.locals /\ p.1 ∉ X.fs /\ ∀ v, p.2.data ≠ .cell v
  hok : HOk X.prog X.w H s.heap
  len : σ.length = X.N.length
section
variable {X : Cx} {pins : List (Addr × Obj)} {σ : List (Option V)} {H H' : Hp} {s : Shared} {h' : Heap}
theorem Cx.Ok.nofr (ok : X.Ok) {b : Addr} {o : Obj} (e : X.base.get? b = some o) : b ∉ X.fs := fun hb => by
  have := (ok.funs.mem hb).1
  rw [e] at this; cases this
theorem Inv.bs (I : Inv X pins σ H s) : ∀ b o, X.base.get? b = some o -> s.heap.get? b = some o /\ H b = none := fun b o e =>
  ⟨I.base.keep b o (I.ok.bs b o e).1 (I.ok.bs b o e).2 (I.ok.nofr e) (I.ok.noex b o e), I.base.free b o (I.ok.bs b o e).1 (I.ok.bs b o e).2 (I.ok.noex b o e)⟩
theorem Inv.bk (I : Inv X pins σ H s) : ∀ b o, X.base.get? b = some o -> s.heap.get? b = some o := fun b o e => (I.bs b o e).1
theorem Inv.mod (I : Inv X pins σ H s) : Mod X.K X.mg X.base := I.ok.mod
theorem Inv.kIn (I : Inv X pins σ H s) : X.K.In s.heap := I.ok.mod.kin.keeps I.bk
theorem Inv.lt (I : Inv X pins σ H s) : X.env.locals < s.heap.objs.size := let ⟨_, hn, _⟩ := I.loc; hn.lt
theorem Inv.sz (I : Inv X pins σ H s) : X.s₀.heap.objs.size <= s.heap.objs.size := Nat.le_trans I.ok.above (Nat.le_of_lt I.lt)
theorem Inv.nofs (I : Inv X pins σ H s) {a : Addr} (h : s.heap.objs.size <= a) : a ∉ X.fs := fun hb => by
  obtain ⟨_, o, ho, _⟩ := I.ok.funs.mem hb
  exact absurd (Nat.lt_of_lt_of_le (Heap.lt_size ho) (Nat.le_trans I.sz h)) (Nat.lt_irrefl _)
theorem Inv.cne (I : Inv X pins σ H s) : ∀ x c, X.env.cells.lookup x = some c -> c ≠ X.env.locals := fun x c e z => by
  obtain ⟨v, o, ho, hd⟩ := I.cell x c e
  obtain ⟨m, ⟨o', es, ep, ho', hd', _⟩, _⟩ := I.loc
  rw [z, ho'] at ho; cases ho; rw [hd'] at hd; cases hd
theorem Inv.funs (I : Inv X pins σ H s) : s.heap.FunFrames X.base X.outer := by
  have all : ∀ (l : List Env), (∀ b ∈ frs l, b ∈ X.fs) -> X.s₀.heap.FunFrames X.base l -> s.heap.FunFrames X.base l := by
    intro l
    induction l with
    | nil => intro _ _; trivial
    | cons env r ih =>
      intro hs hl
      obtain ⟨hk, ⟨L, o, hf, hn, ho, hd⟩, hr⟩ := hl
      have hL : L ∈ X.fs := hs L (by unfold frs; rw [List.filterMap_cons, hf]; exact List.mem_cons_self)
      obtain ⟨sl, e⟩ := I.base.slot L o ho (I.ok.frf L hL) hL fun z => I.ok.exfs L z hL
      exact ⟨hk, ⟨L, _, hf, hn, e, hd⟩, ih (fun b hb => hs b (by unfold frs; rw [List.filterMap_cons, hf]; exact List.mem_cons_of_mem _ hb)) hr⟩
  exact all X.outer (fun _ hb => hb) I.ok.funs
theorem Inv.stack (I : Inv X pins σ H s) : s.heap.FunFrames X.base X.stack := by
  rcases I.ok.stk with e | ⟨e, hf⟩
  . rw [e]; exact I.funs
  . rw [e]
    obtain ⟨m, hn, _⟩ := I.loc
    refine .cons (by rw [I.ok.kind]; decide) hf hn ?_ I.funs
    exact Heap.get?_none_of_le (Nat.le_trans I.ok.bsz I.ok.above)
theorem Inv.stkSub (I : Inv X pins σ H s) : ∀ b ∈ frs X.stack, b ∈ X.env.locals :: X.fs := fun b hb => by
  rcases I.ok.stk with e | ⟨e, hf⟩
  . rw [e] at hb; exact List.mem_cons_of_mem _ hb
  . rw [e] at hb
    unfold frs at hb
    rw [List.filterMap_cons, hf] at hb
    exact hb
theorem Inv.stkFree (I : Inv X pins σ H s) : ∀ b ∈ frs X.stack, H b = none := fun b hb => by
  rcases List.mem_cons.mp (I.stkSub b hb) with e | hb
  . rw [e]; exact I.free
  . obtain ⟨_, o, ho, _⟩ := I.ok.funs.mem hb
    exact I.base.free b o ho (I.ok.frf b hb) fun z => I.ok.exfs b z hb
theorem Inv.step {g' : Array GenState} {t' : Nat} {d' : Drawn} {ch : List Addr} (I : Inv X pins σ H s)
    (hch : ∀ b ∈ ch, (b ∈ X.ex \/ X.s₀.heap.objs.size <= b) /\ b ≠ X.env.locals /\ (∀ x c, X.env.cells.lookup x = some c -> c ≠ b) /\ ∀ p ∈ X.pn ++ pins, p.1 ≠ b)
    (keep : ∀ b o, b ≠ X.env.locals -> b ∉ X.fs -> b ∉ ch -> s.heap.get? b = some o -> H b = none -> h'.get? b = some o)
    (slot : ∀ b o, b ≠ X.env.locals -> b ∈ X.fs -> b ∉ ch -> s.heap.get? b = some o -> H b = none -> ∃ sl, h'.get? b = some { o with slots := sl }) (free : ∀ b o, b ∉ ch -> s.heap.get? b = some o -> H b = none -> H' b = none)
    (there : ∀ b o, b ∉ ch -> s.heap.get? b = some o -> ∃ o', h'.get? b = some o')
    (tups : ∀ b xs, H b = some (.tup xs) -> H' b = some (.tup xs)) (frzs : ∀ b o u, H b = some (.frz o u) -> H' b = some (.frz o u)) (tbls : ∀ b ps, H b = some (.tbl ps) -> ∃ more, H' b = some (.tbl (ps ++ more)))
    (ns : ∀ m, s.heap.Ns X.env.locals m -> h'.Ns X.env.locals m) (hok : HOk X.prog X.w H' h') (hg : AllBare g') :
    Inv X pins σ H' { s with heap := h', gens := g', drawn := d', toks := t' } := by
  have neL : ∀ b o, X.s₀.heap.get? b = some o -> b ≠ X.env.locals := fun b o e => Nat.ne_of_lt (Nat.lt_of_lt_of_le (Heap.lt_size e) I.ok.above)
  have neC : ∀ b o, X.s₀.heap.get? b = some o -> b ∉ X.ex -> b ∉ ch := fun b o e hx hb => by
    rcases (hch b hb).1 with z | z
    . exact hx z
    . exact absurd (Nat.lt_of_lt_of_le (Heap.lt_size e) z) (Nat.lt_irrefl _)
  have cellK : ∀ x c, X.env.cells.lookup x = some c -> ∀ v, s.heap.IsCell c v -> h'.IsCell c v := fun x c e v ⟨o, ho, hd⟩ => by
    have nch : c ∉ ch := fun z => (hch c z).2.2.1 x c e rfl
    by_cases hc : c ∈ X.fs
    . obtain ⟨sl, q⟩ := slot c o (I.cne x c e) hc nch ho (I.freeC x c e)
      exact ⟨_, q, hd⟩
    . exact ⟨o, keep c o (I.cne x c e) hc nch ho (I.freeC x c e), hd⟩
  refine ⟨I.ok, I.os, hg, ⟨fun b o e n hb hx => ?_, fun b o e n hb hx => ?_, fun b o e n hx => ?_, fun b o e hx => ?_, fun b xs e => tups b xs (I.base.tups b xs e), fun b o xs e => frzs b o xs (I.base.frzs b o xs e), fun b ps e => ?_⟩, ?_, fun x c e => ?_, ?_, fun x c e => ?_, fun p hp => ?_, hok, I.len⟩
  . exact keep b o (neL b o e) hb (neC b o e hx) (I.base.keep b o e n hb hx) (I.base.free b o e n hx)
  . obtain ⟨sl, e1⟩ := I.base.slot b o e n hb hx
    obtain ⟨sl', e2⟩ := slot b _ (neL b o e) hb (neC b o e hx) e1 (I.base.free b o e n hx)
    exact ⟨sl', e2⟩
  . obtain ⟨o', e1⟩ := I.base.there b o e hx
    exact free b o' (neC b o e hx) e1 (I.base.free b o e n hx)
  . obtain ⟨o', e1⟩ := I.base.there b o e hx
    exact there b o' (neC b o e hx) e1
  . obtain ⟨m1, e1⟩ := I.base.tbls b ps e
    obtain ⟨m2, e2⟩ := tbls b _ e1
    exact ⟨m1 ++ m2, by rw [e2, Array.append_assoc]⟩
  . obtain ⟨m, hn, hl⟩ := I.loc
    refine ⟨m, ns m hn, fun i x v e1 e2 e3 => ?_⟩
    obtain ⟨u, r, l⟩ := hl i x v e1 e2 e3
    refine ⟨u, r, ?_⟩
    rcases l with l | ⟨k, c, e, z⟩
    . exact .inl l
    . exact .inr ⟨k, c, e, cellK x c e _ z⟩
  . obtain ⟨v, z⟩ := I.cell x c e
    exact ⟨v, cellK x c e v z⟩
  . obtain ⟨m, ⟨o, _, _, ho, _⟩, _⟩ := I.loc
    exact free _ o (fun z => (hch _ z).2.1 rfl) ho I.free
  . obtain ⟨v, o, ho, hd⟩ := I.cell x c e
    exact free c o (fun z => (hch c z).2.2.1 x c e rfl) ho (I.freeC x c e)
  . obtain ⟨e, n, ne, nf, d⟩ := I.pin p hp
    have nch : p.1 ∉ ch := fun z => (hch p.1 z).2.2.2 p hp rfl
    exact ⟨keep p.1 p.2 ne nf nch e n, free p.1 p.2 nch e n, ne, nf, d⟩
theorem Inv.un {t' : Nat} (I : Inv X pins σ H s) (u : Un X.fs [] H H' s.heap h') (hok : HOk X.prog X.w H' h') : Inv X pins σ H' { s with heap := h', toks := t' } := by
  obtain ⟨m, ⟨o, es, ep, ho, r⟩, _⟩ := id I.loc
  obtain ⟨sl, hL⟩ := u.any ho I.free (by simp)
  exact I.step (g' := s.gens) (d' := s.drawn) (ch := []) (fun _ z => nomatch z) (fun b o _ hb _ e n => u.keep b o e n hb (by simp)) (fun b o _ hb _ e n => u.slot b o e n hb (by simp)) (fun b o _ e n => u.free b o e n (by simp)) (fun b o _ e => u.there b o e (by simp)) u.tups u.frzs u.tbls (fun m' hm => by
    obtain ⟨o', es', ep', ho', r'⟩ := hm
    rw [ho] at ho'; cases ho'
    exact ⟨_, es', ep', hL, r'⟩) hok I.bare
theorem Inv.call {g' : Array GenState} {t' : Nat} {d' : Drawn} {ch : List Addr} (I : Inv X pins σ H s) (u : Un (frs X.stack) ch H H' s.heap h') (hok : HOk X.prog X.w H' h') (hg : AllBare g')
    (hch : ∀ b ∈ ch, (b ∈ X.ex \/ X.s₀.heap.objs.size <= b) /\ b ≠ X.env.locals /\ (∀ x c, X.env.cells.lookup x = some c -> c ≠ b) /\ ∀ p ∈ X.pn ++ pins, p.1 ≠ b) :
    Inv X pins σ H' { s with heap := h', gens := g', drawn := d', toks := t' } := by
  obtain ⟨m, ⟨o, es, ep, ho, r⟩, _⟩ := id I.loc
  obtain ⟨sl, hL⟩ := u.any ho I.free fun z => (hch _ z).2.1 rfl
  exact I.step (ch := ch) hch (fun b o hL hb hc e n => u.keep b o e n (fun z => (List.mem_cons.mp (I.stkSub b z)).elim hL hb) hc) (fun b o _ _ hc e n => u.any e n hc) (fun b o hc e n => u.free b o e n hc) (fun b o hc e => u.there b o e hc) u.tups u.frzs u.tbls (fun m' hm => by
    obtain ⟨o', es', ep', ho', r'⟩ := hm
    rw [ho] at ho'; cases ho'
    exact ⟨_, es', ep', hL, r'⟩) hok hg
theorem Inv.turned {t' : Nat} {it : Addr} (I : Inv X pins σ H s) (k : ∀ b o, b ≠ it -> s.heap.get? b = some o -> h'.get? b = some o) (hn : H it = none) (hL : it ≠ X.env.locals)
    (h1 : it ∈ X.ex \/ X.s₀.heap.objs.size <= it) (h2 : ∀ x c, X.env.cells.lookup x = some c -> c ≠ it) (h3 : ∀ p ∈ X.pn ++ pins, p.1 ≠ it) : Inv X pins σ H { s with heap := h', toks := t' } := by
  have nit : ∀ b u, H b = some u -> b ≠ it := fun b u e z => by rw [z, hn] at e; cases e
  refine I.step (g' := s.gens) (d' := s.drawn) (ch := [it]) (fun b hb => ?_) (fun b o _ _ hc e _ => k b o (fun z => hc (by simp [z])) e) (fun b o _ _ hc e _ => ⟨o.slots, k b o (fun z => hc (by simp [z])) e⟩) (fun _ _ _ _ n => n)
    (fun b o hc e => ⟨o, k b o (fun z => hc (by simp [z])) e⟩) (fun _ _ e => e) (fun _ _ _ e => e) (fun b ps e => ⟨#[], by rw [e]; simp⟩) (fun m hm => ?_) (fun b u e => ?_) I.bare
  . have e : b = it := by simpa using hb
    subst e
    exact ⟨h1, hL, h2, h3⟩
  . obtain ⟨o, es, ep, ho, r⟩ := hm
    exact ⟨o, es, ep, k _ o (Ne.symm hL) ho, r⟩
  . refine (I.hok b u e).stay (fun c v hc q => k c v ?_ q) (fun _ q => q) fun _ _ q => q
    rcases hc with z | z
    . rw [z]; exact nit b u e
    . exact nit c _ z
theorem Inv.tok (I : Inv X pins σ H s) (t : Nat) : Inv X pins σ H { s with toks := t } := I.un (h' := s.heap) (t' := t) Un.refl I.hok
theorem Inv.kept {t' : Nat} (I : Inv X pins σ H s) (k : ∀ b u, s.heap.get? b = some u -> h'.get? b = some u) : Inv X pins σ H { s with heap := h', toks := t' } := I.un (Un.kept k) (I.hok.kept k)
theorem Inv.laid {a : Addr} {o : HO} {t' : Nat} (I : Inv X pins σ H s) (k : ∀ b u, s.heap.get? b = some u -> h'.get? b = some u) (hp : s.heap.objs.size <= a) (new : ObjOk X.prog X.w (upd H a o) h' a o) :
    Inv X pins σ (upd H a o) { s with heap := h', toks := t' } := I.un (Un.laid k hp (I.hok.fresh hp)) (I.hok.laid k hp new)
theorem Inv.write {x e : Addr} {o : HO} {t' : Nat} (I : Inv X pins σ H s) (mu : Mut (H x)) (he : e = x \/ H e = some (.own x)) (k : ∀ b u, b ≠ e -> s.heap.get? b = some u -> h'.get? b = some u) (heo : ∃ u, h'.get? e = some u)
    (new : ObjOk X.prog X.w (upd H x o) h' x o) : Inv X pins σ (upd H x o) { s with heap := h', toks := t' } := I.un (Un.write mu he k heo) (I.hok.write mu he k heo new)
theorem Inv.weak {σ' : List (Option V)} (I : Inv X pins σ H s) (hl : σ'.length = σ.length) (w : ∀ (i : Nat) v, σ'[i]? = some (some v) -> σ[i]? = some (some v)) : Inv X pins σ' H s :=
  ⟨I.ok, I.os, I.bare, I.base, let ⟨m, hn, hl'⟩ := I.loc; ⟨m, hn, fun i x v e1 e2 e3 => hl' i x v e1 (w i v e2) e3⟩, I.cell, I.free, I.freeC, I.pin, I.hok, hl.trans I.len⟩
theorem Inv.pins_of {pins' : List (Addr × Obj)} (I : Inv X pins σ H s) (h : ∀ p ∈ pins', s.heap.get? p.1 = some p.2 /\ H p.1 = none /\ p.1 ≠ X.env.locals /\ p.1 ∉ X.fs /\ ∀ v, p.2.data ≠ .cell v) : Inv X pins' σ H s :=
  ⟨I.ok, I.os, I.bare, I.base, I.loc, I.cell, I.free, I.freeC, fun p hp => (List.mem_append.mp hp).elim (fun z => I.pin p (List.mem_append_left _ z)) (h p), I.hok, I.len⟩
theorem nodup_ix {N : List Str} (hN : N.Nodup) {i j : Nat} {x : Str} (a : N[i]? = some x) (b : N[j]? = some x) : i = j := by
  obtain ⟨h1, e1⟩ := List.getElem?_eq_some_iff.mp a
  obtain ⟨h2, e2⟩ := List.getElem?_eq_some_iff.mp b
  exact (List.getElem_inj hN).mp (e1.trans e2.symm)
theorem store_ok2 {M : Model} {A : Around} {E : Value -> Shared -> Prop} {i : Nat} {x : Str} {v : V} {u : Value} {Q : Unit -> Shared -> Prop} (I : Inv X pins σ H s) (hN : X.N.Nodup) (hi : X.N[i]? = some x) (hx : Loc X.env.scope x) (r : RelV v u)
    (h : ∀ s', Inv X pins (σ.set i (some v)) H s' -> (∃ a, Heap.SameBut a s.heap s'.heap /\ (a = X.env.locals \/ X.env.cells.lookup x = some a)) -> Q () s') (hf : X.fn x = true \/ X.env.scope.names.lookup x = some .local := by first | exact .inl rfl | exact .inr rfl | assumption) : wpAny M A (storeName X.env x u) Q E s := by
  obtain ⟨m, hn, hl⟩ := id I.loc
  have hcls : (X.env.scope.kind == .class || (X.env.scope.kind == .module && X.env.locals != X.env.globals)) = false := by rw [I.ok.kind]; rfl
  have hiσ : i < σ.length := by rw [I.len]; exact (List.getElem?_eq_some_iff.mp hi).1
  have cne := I.cne
  have tracked : ∀ {a : Addr} {h' : Heap}, (∃ o, s.heap.get? a = some o /\ H a = none) -> Heap.SameBut a s.heap h' -> HOk X.prog X.w H h' := fun {a h'} ha hs b ob e => by
    obtain ⟨_, _, hfree⟩ := ha
    refine (I.hok b ob e).stay (fun c w' hc q => (hs.2 c ?_).trans q) (fun _ q => q) fun _ _ q => q
    rintro rfl
    rcases hc with rfl | hc
    . rw [hfree] at e; cases e
    . rw [hfree] at hc; cases hc
  rcases hx with hk | hk
  . refine wpAny_storeName_local hk hn (fun h' hn' hs => ?_) hcls
    obtain ⟨oL, _, _, hoL, _⟩ := id hn
    refine h _ ⟨I.ok, I.os, I.bare, ⟨fun b o e n hb hx => ?_, fun b o e n hb hx => ?_, I.base.free, fun b o e hx => ?_, I.base.tups, I.base.frzs, I.base.tbls⟩, ⟨_, hn', fun j y v' e1 e2 e3 => ?_⟩, fun y c e => ?_, I.free, I.freeC, fun p hp => ?_, tracked ⟨oL, hoL, I.free⟩ hs, by simpa using I.len⟩ ⟨_, hs, .inl rfl⟩
    . exact (hs.2 b (Nat.ne_of_lt (Nat.lt_of_lt_of_le (Heap.lt_size e) I.ok.above))).trans (I.base.keep b o e n hb hx)
    . obtain ⟨sl, e1⟩ := I.base.slot b o e n hb hx
      exact ⟨sl, (hs.2 b (Nat.ne_of_lt (Nat.lt_of_lt_of_le (Heap.lt_size e) I.ok.above))).trans e1⟩
    . obtain ⟨o', e1⟩ := I.base.there b o e hx
      exact ⟨o', (hs.2 b (Nat.ne_of_lt (Nat.lt_of_lt_of_le (Heap.lt_size e) I.ok.above))).trans e1⟩
    . by_cases hj : j = i
      . subst hj
        rw [hi] at e1; cases e1
        rw [List.getElem?_set_self hiσ] at e2
        cases e2
        exact ⟨u, r, .inl ⟨hk, by simp⟩⟩
      . rw [List.getElem?_set_ne (Ne.symm hj)] at e2
        obtain ⟨u', r', q⟩ := hl j y v' e1 e2 e3
        refine ⟨u', r', ?_⟩
        rcases q with ⟨k, e⟩ | ⟨k, c, e, z⟩
        . refine .inl ⟨k, ?_⟩
          have : y ≠ x := fun e => hj (nodup_ix hN e1 (e ▸ hi))
          simp [this, e]
        . exact .inr ⟨k, c, e, z.sameBut hs (cne y c e)⟩
    . obtain ⟨w', z⟩ := I.cell y c e
      exact ⟨w', z.sameBut hs (cne y c e)⟩
    . obtain ⟨e, n, ne, nf, d⟩ := I.pin p hp
      exact ⟨(hs.2 p.1 ne).trans e, n, ne, nf, d⟩
  . have hfn : X.fn x = true := by
      rcases hf with z | z
      . exact z
      . rw [z] at hk; cases hk
    obtain ⟨c, hc⟩ := I.ok.has x (.inl hk)
    obtain ⟨w', z⟩ := I.cell x c hc
    refine wpAny_storeName_cell I.ok.kind hk hc z (fun h' hc' hs => ?_)
    obtain ⟨oc, hoc, hocd⟩ := id z
    refine h { s with heap := h' } ⟨I.ok, I.os, I.bare, ⟨fun b o e n hb hx => ?_, fun b o e n hb hx => ?_, I.base.free, fun b o e hx => ?_, I.base.tups, I.base.frzs, I.base.tbls⟩, ⟨m, hn.sameBut hs (Ne.symm (cne x c hc)), fun j y v' e1 e2 e3 => ?_⟩, fun y c' e => ?_, I.free, I.freeC, fun p hp => ?_, tracked ⟨oc, hoc, I.freeC x c hc⟩ hs, by simpa using I.len⟩ ⟨c, hs, .inr hc⟩
    . exact (hs.2 b (Nat.ne_of_lt (Nat.lt_of_lt_of_le (Heap.lt_size e) (I.ok.cab x c hfn hc)))).trans (I.base.keep b o e n hb hx)
    . obtain ⟨sl, e1⟩ := I.base.slot b o e n hb hx
      exact ⟨sl, (hs.2 b (Nat.ne_of_lt (Nat.lt_of_lt_of_le (Heap.lt_size e) (I.ok.cab x c hfn hc)))).trans e1⟩
    . obtain ⟨o', e1⟩ := I.base.there b o e hx
      exact ⟨o', (hs.2 b (Nat.ne_of_lt (Nat.lt_of_lt_of_le (Heap.lt_size e) (I.ok.cab x c hfn hc)))).trans e1⟩
    . by_cases hj : j = i
      . subst hj
        rw [hi] at e1; cases e1
        rw [List.getElem?_set_self hiσ] at e2
        cases e2
        exact ⟨u, r, .inr ⟨.inl hk, c, hc, hc'⟩⟩
      . rw [List.getElem?_set_ne (Ne.symm hj)] at e2
        obtain ⟨u', r', q⟩ := hl j y v' e1 e2 e3
        refine ⟨u', r', ?_⟩
        rcases q with q | ⟨k, c', e, z'⟩
        . exact .inl q
        . refine .inr ⟨k, c', e, z'.sameBut hs ?_⟩
          rintro rfl
          exact hj (nodup_ix hN e1 (I.ok.inj _ _ _ e hc ▸ hi))
    . by_cases hcc : c' = c
      . subst hcc; exact ⟨_, hc'⟩
      . obtain ⟨w2, z2⟩ := I.cell y c' e
        exact ⟨w2, z2.sameBut hs hcc⟩
    . obtain ⟨e, n, ne, nf, d⟩ := I.pin p hp
      refine ⟨(hs.2 p.1 ?_).trans e, n, ne, nf, d⟩
      intro q
      rw [q, hoc] at e
      have q' : oc = p.2 := Option.some.inj e
      exact d w' (by rw [<- q']; exact hocd)
theorem store_ok {M : Model} {A : Around} {E : Value -> Shared -> Prop} {i : Nat} {x : Str} {v : V} {u : Value} {Q : Unit -> Shared -> Prop} (I : Inv X pins σ H s) (hN : X.N.Nodup) (hi : X.N[i]? = some x) (hx : Loc X.env.scope x) (r : RelV v u)
    (h : ∀ s', Inv X pins (σ.set i (some v)) H s' -> Q () s') (hf : X.fn x = true \/ X.env.scope.names.lookup x = some .local := by first | exact .inl rfl | exact .inr rfl | assumption) : wpAny M A (storeName X.env x u) Q E s :=
  store_ok2 I hN hi hx r (fun s' I' _ => h s' I') hf
theorem Inv.call' {s' : Shared} {ch : List Addr} (I : Inv X pins σ H s) (ho : s'.os = s.os) (u : Un (frs X.stack) ch H H' s.heap s'.heap) (hok : HOk X.prog X.w H' s'.heap) (hg : AllBare s'.gens)
    (hch : ∀ b ∈ ch, (b ∈ X.ex \/ X.s₀.heap.objs.size <= b) /\ b ≠ X.env.locals /\ (∀ x c, X.env.cells.lookup x = some c -> c ≠ b) /\ ∀ p ∈ X.pn ++ pins, p.1 ≠ b) : Inv X pins σ H' s' := by
  obtain ⟨h', g', d', t', o'⟩ := s'
  have e : o' = s.os := ho
  subst e
  exact I.call (g' := g') (t' := t') (d' := d') u hok hg hch
end
abbrev XK := Value -> Option Addr -> Hp -> Prop
abbrev St := List (Option V)
abbrev VK := V -> Hp -> Prop
abbrev TE := St -> Hp -> VK -> Prop
abbrev TT := St -> Hp -> (Bool -> Hp -> Prop) -> Prop
abbrev TA := St -> Hp -> (List V -> Hp -> Prop) -> Prop
structure Ends where
  nx : St -> Hp -> Prop
  rt : VK
  bk : St -> Hp -> Prop := fun _ _ => False
  ct : St -> Hp -> Prop := fun _ _ => False
abbrev TS := Ends -> St -> Hp -> Prop
def EP (X : Cx) (pins : List (Addr × Obj)) (σ : St) (Q : VK) (u : Value) (s' : Shared) : Prop := ∃ v H', Inv X pins σ H' s' /\ RelV v u /\ Q v H'
def TP (X : Cx) (pins : List (Addr × Obj)) (σ : St) (Q : Bool -> Hp -> Prop) (b : Bool) (s' : Shared) : Prop := ∃ H', Inv X pins σ H' s' /\ Q b H'
def AP (X : Cx) (pins : List (Addr × Obj)) (σ : St) (Q : List V -> Hp -> Prop) (us : List Value) (s' : Shared) : Prop := ∃ vs H', Inv X pins σ H' s' /\ Vals vs us /\ Q vs H'
def SP (X : Cx) (pins : List (Addr × Obj)) (D : Ends) (f : Flow) (s' : Shared) : Prop :=
  match f with
  | .next => ∃ σ' H', Inv X pins σ' H' s' /\ D.nx σ' H'
  | .brk => ∃ σ' H', Inv X pins σ' H' s' /\ D.bk σ' H'
  | .cont => ∃ σ' H', Inv X pins σ' H' s' /\ D.ct σ' H'
  | .ret u => ∃ v σ' H', Inv X pins σ' H' s' /\ RelV v u /\ D.rt v H'
def PE (X : Cx) (e : Expr) (t : TE) : Prop :=
  ∀ (pins : List (Addr × Obj)) (s : Shared) (σ : St) (H : Hp) (Q : VK), Inv X pins σ H s -> t σ H Q -> wpAny (model X.prog X.w) X.A (eval e X.env) (EP X pins σ Q) X.xe s
def PT (X : Cx) (e : Expr) (t : TT) : Prop :=
  ∀ (pins : List (Addr × Obj)) (s : Shared) (σ : St) (H : Hp) (Q : Bool -> Hp -> Prop), Inv X pins σ H s -> t σ H Q -> wpAny (model X.prog X.w) X.A (isTrue e X.env (eval e X.env)) (TP X pins σ Q) X.xe s
def PW (X : Cx) (e : Expr) (t : TT) : Prop :=
  ∀ (whole : Sem Value) (pins : List (Addr × Obj)) (s : Shared) (σ : St) (H : Hp) (Q : Bool -> Hp -> Prop), Inv X pins σ H s -> t σ H Q -> wpAny (model X.prog X.w) X.A (isTrue e X.env whole) (TP X pins σ Q) X.xe s
theorem PW.pt {X : Cx} {e : Expr} {t : TT} (h : PW X e t) : PT X e t := h _
def PA (X : Cx) (es : List Expr) (t : TA) : Prop :=
  ∀ (pos : Pos) (pins : List (Addr × Obj)) (s : Shared) (σ : St) (H : Hp) (Q : List V -> Hp -> Prop), Inv X pins σ H s -> t σ H Q -> wpAny (model X.prog X.w) X.A (spliced (backTo pos (starEach es X.env))) (AP X pins σ Q) X.xe s
def PS (X : Cx) (st : Stmt) (t : TS) : Prop :=
  ∀ (pins : List (Addr × Obj)) (s : Shared) (σ : St) (H : Hp) (D : Ends), Inv X pins σ H s -> t D σ H -> wpAny (model X.prog X.w) X.A (exec st X.env) (SP X pins D) X.xe s
def PSs (X : Cx) (st : List Stmt) (t : TS) : Prop :=
  ∀ (pins : List (Addr × Obj)) (s : Shared) (σ : St) (H : Hp) (D : Ends), Inv X pins σ H s -> t D σ H -> wpAny (model X.prog X.w) X.A (execs st X.env) (SP X pins D) X.xe s
theorem thn {α : Type} {t : Sem α} {Q Q' : α -> Shared -> Prop} {M : Model} {A : Around} {E : Value -> Shared -> Prop} {s : Shared} (h : wpAny M A t Q E s) (hQ : ∀ a s, Q a s -> Q' a s) : wpAny M A t Q' E s := wpAny_mono h hQ fun _ _ x => x
section
variable {X : Cx}
def tVar (i : Nat) : TE := fun σ H Q => ∃ v, σ[i]? = some (some v) /\ Q v H
def tC (v : V) : TE := fun _ H Q => Q v H
theorem pe_var {i : Nat} {x : Str} {pos : Pos} (hN : X.N[i]? = some x) (hv : Vis X.env.scope x) (hd : (x == ("__debug__" : Str)) = false := by decide) (hcd : (x == ("__classdict__" : Str)) = false := by decide) : PE X (.Name x pos) (tVar i) := by
  intro pins s σ H Q I h
  obtain ⟨v, e, h⟩ := h
  obtain ⟨m, hn, hl⟩ := I.loc
  obtain ⟨u, r, l⟩ := hl i x v hN e hv
  have fin : EP X pins σ Q u s := ⟨v, H, I, r, h⟩
  rcases l with ⟨hk, hm⟩ | ⟨hk, c, hc, hcell⟩
  . exact wpAny_Name (wpAny_loadName_local I.ok.kind hk hn hm fin) hd
  . rcases hk with hk | hk
    . exact wpAny_Name (wpAny_loadName_cell I.ok.kind hk hc hcell fin) hd
    . exact wpAny_Name (wpAny_loadName_free I.ok.kind hk hc hcell fin hcd) hd
theorem pe_int {i j pos} : PE X (.Constant (.int i) j pos) (tC (.int i)) := fun _ _ _ H _ I h => wpAny_Constant_int ⟨.int i, H, I.tok _, ⟨_, rfl⟩, h⟩
theorem pe_bl {b j pos} : PE X (.Constant (.bool b) j pos) (tC (.bl b)) := fun _ _ _ H _ I h => Constant_bool ⟨.bl b, H, I, rfl, h⟩
theorem pe_non {j pos} : PE X (.Constant .none j pos) (tC .non) := fun _ _ _ H _ I h => Constant_none ⟨.non, H, I, rfl, h⟩
theorem pe_str {x j pos} : PE X (.Constant (.str x) j pos) (tC (.str x)) := fun _ _ _ H _ I h => Calls.Constant_str ⟨.str x, H, I.tok _, ⟨_, rfl⟩, h⟩
def Gl (X : Cx) (x : Str) : Prop := X.env.kindOf x = some .globalImplicit
theorem ld_glob {E : Value -> Shared -> Prop} {pins : List (Addr × Obj)} {s : Shared} {σ : St} {H : Hp} {x : Str} {u : Value} {pos : Pos} {Q : Value -> Shared -> Prop} (I : Inv X pins σ H s) (hg : Gl X x) (hm : X.mg x = some u) (h : Q u s)
    (hd : (x == ("__debug__" : Str)) = false := by decide) : wpAny (model X.prog X.w) X.A (eval (.Name x pos) X.env) Q E s :=
  Calls.Name_function_global I.ok.kind hg (Calls.loadGlobal_global (by rw [I.ok.glob]; exact I.mod.glob.keeps I.bk) hm h) hd
theorem ld_blt {E : Value -> Shared -> Prop} {pins : List (Addr × Obj)} {s : Shared} {σ : St} {H : Hp} {x : Str} {u : Value} {pos : Pos} {Q : Value -> Shared -> Prop} (I : Inv X pins σ H s) (hg : Gl X x) (hm : X.mg x = none) (hv : bootBuiltins x = some u) (h : Q u s)
    (hn : x ≠ "__name__" := by decide) (hd : (x == ("__debug__" : Str)) = false := by decide) : wpAny (model X.prog X.w) X.A (eval (.Name x pos) X.env) Q E s := by
  obtain ⟨mb, h1, h2⟩ := I.mod.blt
  exact Calls.Name_function_global I.ok.kind hg (Calls.loadGlobal_builtin (by rw [I.ok.glob]; exact I.mod.glob.keeps I.bk) hm (by rw [I.ok.blt]; exact h1.keeps I.bk) ((h2 x hn).trans hv) h) hd
theorem pe_glob {x : Str} {v : V} {u : Value} {pos : Pos} (hg : Gl X x) (hm : X.mg x = some u) (r : RelV v u) (hd : (x == ("__debug__" : Str)) = false := by decide) : PE X (.Name x pos) (tC v) :=
  fun _ _ _ H _ I h => ld_glob I hg hm ⟨v, H, I, r, h⟩ hd
theorem pe_bltn {x : Str} {v : V} {u : Value} {pos : Pos} (hg : Gl X x) (hm : X.mg x = none) (hv : bootBuiltins x = some u) (r : RelV v u) (hn : x ≠ "__name__" := by decide) (hd : (x == ("__debug__" : Str)) = false := by decide) : PE X (.Name x pos) (tC v) :=
  fun _ _ _ H _ I h => ld_blt I hg hm hv ⟨v, H, I, r, h⟩ hn hd
variable {a b : Expr} {ta tb : TE} {pos : Pos}
theorem nobehind (b : Expr) {op : CmpOp} (h : op ≠ .In) (h2 : op ≠ .NotIn) : behindInMarks op b = false := by
  have e1 : (op == CmpOp.In) = false := by cases op <;> first | rfl | exact absurd rfl h
  have e2 : (op == CmpOp.NotIn) = false := by cases op <;> first | rfl | exact absurd rfl h2
  cases b <;> simp [behindInMarks, e1, e2]
variable {tA tB' : TT} {rest : List Expr}
def tOr (t u : TT) : TT := fun σ H Q => t σ H fun c H1 => if c = true then Q true H1 else u σ H1 Q
def tNot (t : TT) : TT := fun σ H Q => t σ H fun c H1 => Q (!c) H1
theorem pw_or1 (ha : PT X a tA) : PW X (.BoolOp .Or [a] pos) tA := by
  intro wh pins s σ H Q I h
  refine isTrue_or (thn (ha pins s σ H Q I h) fun c s1 e => ?_)
  cases c with
  | false => exact isTrue_or_nil e
  | true => exact e
theorem pw_or (ha : PT X a tA) (hb : PW X (.BoolOp .Or (b :: rest) pos) tB') : PW X (.BoolOp .Or (a :: b :: rest) pos) (tOr tA tB') := by
  intro wh pins s σ H Q I h
  refine isTrue_or (thn (ha pins s σ H _ I h) fun c s1 ⟨H1, I1, q1⟩ => ?_)
  cases c with
  | true => exact ⟨H1, I1, q1⟩
  | false => exact hb wh pins s1 σ H1 Q I1 q1
theorem pt_not (ha : PT X a tA) : PT X (.UnaryOp .Not a pos) (tNot tA) := by
  intro pins s σ H Q I h
  exact isTrue_not (ha pins s σ H (fun c H1 => Q (!c) H1) I h)
def tAndV (ta tb : TE) : TE := fun σ H Q => ta σ H fun x H1 => ∃ c, x = .bl c /\ if c = true then tb σ H1 Q else Q (.bl false) H1
def tNotV (ta : TE) : TE := fun σ H Q => ta σ H fun x H1 => ∃ c, x = .bl c /\ Q (.bl (!c)) H1
theorem pe_one {op} {t : TE} (h : PE X a t) : PE X (.BoolOp op [a] pos) t := fun pins s σ H Q I hw => BoolOp_one (h pins s σ H Q I hw)
theorem pe_and (ha : PE X a ta) (hb : PE X (.BoolOp .And (b :: rest) pos) tb) : PE X (.BoolOp .And (a :: b :: rest) pos) (tAndV ta tb) := by
  intro pins s σ H Q I h
  refine BoolOp_and (thn (ha pins s σ H _ I h) fun v s1 ⟨x, H1, I1, r1, q1⟩ => ?_)
  obtain ⟨c, rfl, q1⟩ := q1
  cases r1
  refine wpAny_truthy_bool ?_
  cases c with
  | true => exact hb pins s1 σ H1 Q I1 q1
  | false => exact ⟨.bl false, H1, I1, rfl, q1⟩
theorem pe_not (ha : PE X a ta) : PE X (.UnaryOp .Not a pos) (tNotV ta) := by
  intro pins s σ H Q I h
  refine UnaryOp_ (thn (ha pins s σ H _ I h) fun v s1 ⟨x, H1, I1, r1, q1⟩ => ?_)
  obtain ⟨c, rfl, q1⟩ := q1
  cases r1
  exact not_of (wpAny_truthy_bool ⟨.bl (!c), H1, I1, rfl, q1⟩)
def tIf (t : TT) (ta tb : TE) : TE := fun σ H Q => t σ H fun c H1 => if c = true then ta σ H1 Q else tb σ H1 Q
theorem pe_ifExp {c : Expr} (hc : PT X c tA) (ha : PE X a ta) (hb : PE X b tb) : PE X (.IfExp c a b pos) (tIf tA ta tb) := by
  intro pins s σ H Q I h
  refine wpAny_IfExp (thn (hc pins s σ H _ I h) fun d s1 ⟨H1, I1, q1⟩ => ?_)
  cases d with
  | true => exact ha pins s1 σ H1 Q I1 q1
  | false => exact hb pins s1 σ H1 Q I1 q1
end
def SqL (K : PySem.W.Frag) (H : Hp) (a : Addr) (xs : List V) : Prop :=
  Rd H a (.lst xs) \/
    ∃ (o : Obj) (its : Array Value) (n : Nat), K.lookup a = some o /\ o.cls = .type "list" /\ o.dict = none /\ o.data = .seq its n /\ its.size <= sizeLine /\ Vals xs its.toList
def SqT (K : PySem.W.Frag) (H : Hp) (a : Addr) (xs : List V) : Prop :=
  Rd H a (.tup xs) \/
    ∃ (o : Obj) (its : Array Value) (n : Nat), K.lookup a = some o /\ o.cls = .type "tuple" /\ o.dict = none /\ o.data = .seq its n /\ its.size <= sizeLine /\ Vals xs its.toList
def absV : Value -> Option V
  | .none => some .non
  | .bool b => some (.bl b)
  | .int i _ => some (.int i)
  | .str x _ => some (.str x)
  | .bytes b _ => some (.byt b)
  | .float b _ => some (.flt b)
  | .ref a => some (.ref a)
  | .type n => some (.ty n)
  | _ => none
theorem RelV.abs {x : V} {u : Value} (r : RelV x u) : absV u = some x := by
  cases x with
  | non => cases r; rfl
  | bl _ => cases r; rfl
  | int _ => obtain ⟨t, rfl⟩ := r; rfl
  | str _ => obtain ⟨t, rfl⟩ := r; rfl
  | byt _ => obtain ⟨t, rfl⟩ := r; rfl
  | flt _ => obtain ⟨t, rfl⟩ := r; rfl
  | ref _ => cases r; rfl
  | ty _ => cases r; rfl
theorem RelV.inj {x y : V} {u : Value} (r : RelV x u) (q : RelV y u) : x = y := Option.some.inj (r.abs.symm.trans q.abs)
theorem Vals.inj : ∀ {xs ys : List V} {us : List Value}, Vals xs us -> Vals ys us -> xs = ys
  | _, _, _, .nil, .nil => rfl
  | _, _, _, .cons r t, .cons r' t' => by rw [r.inj r', Vals.inj t t']
section
variable {X : Cx} {pins : List (Addr × Obj)} {σ : St} {H : Hp} {s : Shared} {a : Addr} {xs ys : List V}
theorem SqL.of {K : PySem.W.Frag} (h : H a = some (.lst xs)) : SqL K H a xs := .inl (.inl h)
theorem SqT.of {K : PySem.W.Frag} (h : H a = some (.tup xs)) : SqT K H a xs := .inl (.inl h)
theorem Inv.list (I : Inv X pins σ H s) (h : SqL X.K H a xs) : ∃ its : List Value, Vals xs its /\ PlainL s.heap a its.toArray /\ xs.length <= sizeLine := by
  rcases h with h | ⟨o, its, n, hk, hc, hd, hs, hz, r⟩
  . obtain ⟨z, its, n, r, e⟩ := h.ok I.hok
    exact ⟨its, r, ⟨_, n, e, rfl, rfl, rfl⟩, z⟩
  . refine ⟨its.toList, r, ⟨o, n, I.kIn a o hk, hc, hd, by simpa using hs⟩, ?_⟩
    have e := r.length
    simp only [Array.length_toList] at e
    omega
theorem Inv.tuple (I : Inv X pins σ H s) (h : SqT X.K H a xs) : ∃ its : List Value, Vals xs its /\ IsTup s.heap a its.toArray /\ xs.length <= sizeLine := by
  rcases h with h | ⟨o, its, n, hk, hc, hdd, hs, hz, r⟩
  . obtain ⟨z, its, r, p⟩ := h.ok I.hok
    exact ⟨its, r, p.tup, z⟩
  . refine ⟨its.toList, r, ⟨o, I.kIn a o hk, hc, n, by simpa using hs⟩, ?_⟩
    have e := r.length
    simp only [Array.length_toList] at e
    omega
theorem Inv.tupleN (I : Inv X pins σ H s) (h : SqT X.K H a xs) : ∃ its : List Value, Vals xs its /\ IsTupN s.heap a its.toArray /\ xs.length <= sizeLine := by
  rcases h with h | ⟨o, its, n, hk, hc, hdd, hs, hz, r⟩
  . obtain ⟨z, its, r, p⟩ := h.ok I.hok
    exact ⟨its, r, p, z⟩
  . refine ⟨its.toList, r, ⟨o, I.kIn a o hk, hc, ⟨n, by simpa using hs⟩, hdd⟩, ?_⟩
    have e := r.length
    simp only [Array.length_toList] at e
    omega
theorem Inv.list_inj (I : Inv X pins σ H s) (h : SqL X.K H a xs) (h' : SqL X.K H a ys) : xs = ys := by
  obtain ⟨its, r, ⟨o, n, e, _, _, d⟩, _⟩ := I.list h
  obtain ⟨its', r', ⟨o', n', e', _, _, d'⟩, _⟩ := I.list h'
  rw [e] at e'; cases e'
  rw [d] at d'
  injection d' with d1 _
  have : its = its' := by simpa using congrArg Array.toList d1
  subst this
  exact r.inj r'
theorem Inv.tuple_inj (I : Inv X pins σ H s) (h : SqT X.K H a xs) (h' : SqT X.K H a ys) : xs = ys := by
  obtain ⟨its, r, ⟨o, e, _, n, d⟩, _⟩ := I.tuple h
  obtain ⟨its', r', ⟨o', e', _, n', d'⟩, _⟩ := I.tuple h'
  rw [e] at e'; cases e'
  rw [d] at d'
  injection d' with d1 _
  have : its = its' := by simpa using congrArg Array.toList d1
  subst this
  exact r.inj r'
end
abbrev Cx.wish (X : Cx) (E : Value -> Shared -> Prop) : Cx := { X with xe := E }
abbrev Cx.nox (X : Cx) : Cx := X.wish fun _ _ => False
theorem Cx.Ok.wish {X : Cx} (ok : X.Ok) (E : Value -> Shared -> Prop) : (X.wish E).Ok :=
  ⟨ok.mod, ok.kind, ok.glob, ok.blt, ok.above, ok.inj, ok.has, ok.cab, ok.hd, ok.frames, ok.stk, ok.exf, ok.bs, ok.bsz, ok.noex, ok.exfs, ok.funs, ok.frf⟩
theorem Cx.Ok.unwish {X : Cx} {E : Value -> Shared -> Prop} (ok : (X.wish E).Ok) : X.Ok :=
  ⟨ok.mod, ok.kind, ok.glob, ok.blt, ok.above, ok.inj, ok.has, ok.cab, ok.hd, ok.frames, ok.stk, ok.exf, ok.bs, ok.bsz, ok.noex, ok.exfs, ok.funs, ok.frf⟩
section
variable {X : Cx} {pins : List (Addr × Obj)} {σ : St} {H : Hp} {s : Shared} {E : Value -> Shared -> Prop}
theorem Inv.wish (I : Inv X pins σ H s) (E : Value -> Shared -> Prop) : Inv (X.wish E) pins σ H s := ⟨I.ok.wish E, I.os, I.bare, I.base, I.loc, I.cell, I.free, I.freeC, I.pin, I.hok, I.len⟩
theorem Inv.unwish (I : Inv (X.wish E) pins σ H s) : Inv X pins σ H s := ⟨I.ok.unwish, I.os, I.bare, I.base, I.loc, I.cell, I.free, I.freeC, I.pin, I.hok, I.len⟩
theorem SP.unwish {D : Ends} {f : Flow} {s' : Shared} (h : SP (X.wish E) pins D f s') : SP X pins D f s' := by
  cases f with
  | next => obtain ⟨σ', H', I, q⟩ := h; exact ⟨σ', H', I.unwish, q⟩
  | brk => obtain ⟨σ', H', I, q⟩ := h; exact ⟨σ', H', I.unwish, q⟩
  | cont => obtain ⟨σ', H', I, q⟩ := h; exact ⟨σ', H', I.unwish, q⟩
  | ret u => obtain ⟨v, σ', H', I, r, q⟩ := h; exact ⟨v, σ', H', I.unwish, r, q⟩
theorem PSs.nox {st : List Stmt} {t : TS} (h : PSs X.nox st t) : PSs X st t := fun pins s σ H D I hw =>
  wpAny_mono (h pins s σ H D (I.wish _) hw) (fun _ _ q => q.unwish) fun _ _ z => False.elim z
end
section
variable {X : Cx} {st : Stmt} {rest : List Stmt} {t u : TS} {e : Expr} {te : TE} {pos : Pos}
def tNext : TS := fun D σ H => D.nx σ H
def tSeq (t u : TS) : TS := fun D σ H => t { D with nx := u D } σ H
theorem pss_nil : PSs X [] tNext := fun _ _ σ H _ I h => wpAny_execs_nil ⟨σ, H, I, h⟩
theorem pss_cons (h1 : PS X st t) (h2 : PSs X rest u) : PSs X (st :: rest) (tSeq t u) := by
  intro pins s σ H D I h
  refine wpAny_execs_cons (thn (h1 pins s σ H { D with nx := u D } I h) fun f s1 q => ?_)
  cases f with
  | next =>
    obtain ⟨σ', H', I', q⟩ := q
    exact h2 pins s1 σ' H' D I' q
  | ret v => exact q
  | brk => exact q
  | cont => exact q
theorem pss_one (h1 : PS X st t) : PSs X [st] t := by
  intro pins s σ H D I h
  refine wpAny_execs_cons (thn (h1 pins s σ H D I h) fun f s1 q => ?_)
  cases f with
  | next => exact wpAny_execs_nil q
  | ret v => exact q
  | brk => exact q
  | cont => exact q
theorem Inv.quiet {pins : List (Addr × Obj)} {σ : St} {H : Hp} {s : Shared} (I : Inv X pins σ H s) : interactive X.env = false := by simp [interactive, I.ok.kind]
def tDrop (te : TE) : TS := fun D σ H => te σ H fun _ H1 => D.nx σ H1
theorem ps_expr (he : PE X e te) (hs : swapsWith e none pos.line X.env = pure false := by rfl) : PS X (.Expr e pos) (tDrop te) := by
  intro pins s σ H D I h
  exact wpAny_Expr_any (thn (he pins s σ H _ I h) fun v s1 ⟨x, H1, I1, r1, q1⟩ => ⟨σ, H1, I1, q1⟩) I.quiet hs
def tRet (te : TE) : TS := fun D σ H => te σ H D.rt
theorem ps_ret (he : PE X e te) : PS X (.Return (some e) pos) (tRet te) := by
  intro pins s σ H D I h
  exact wpAny_Return_some (thn (he pins s σ H _ I h) fun v s1 ⟨x, H1, I1, r1, q1⟩ => ⟨x, σ, H1, I1, r1, q1⟩)
def tIfS (c : TT) (t u : TS) : TS := fun D σ H => c σ H fun b H1 => if b = true then t D σ H1 else u D σ H1
theorem ps_if {c : Expr} {a b : List Stmt} {tc : TT} (hc : PT X c tc) (ha : PSs X a t) (hb : PSs X b u) : PS X (.If c a b pos) (tIfS tc t u) := by
  intro pins s σ H D I h
  refine wpAny_If (thn (hc pins s σ H _ I h) fun d s1 ⟨H1, I1, q1⟩ => ?_)
  cases d with
  | true => exact ha pins s1 σ H1 D I1 q1
  | false => exact hb pins s1 σ H1 D I1 q1
end
abbrev TG := V -> St -> Hp -> (St -> Hp -> Prop) -> Prop
abbrev TGs := List V -> St -> Hp -> (St -> Hp -> Prop) -> Prop
def PG (X : Cx) (target : Expr) (t : TG) : Prop :=
  ∀ (pins : List (Addr × Obj)) (s : Shared) (σ : St) (H : Hp) (v : V) (u : Value) (Q : St -> Hp -> Prop), Inv X pins σ H s -> RelV v u -> t v σ H Q ->
    wpAny (model X.prog X.w) X.A (assign target X.env u) (fun _ s' => ∃ σ' H', Inv X pins σ' H' s' /\ Q σ' H') X.xe s
def PGs (X : Cx) (ts : List Expr) (t : TGs) : Prop :=
  ∀ (pins : List (Addr × Obj)) (s : Shared) (σ : St) (H : Hp) (vs : List V) (us : List Value) (Q : St -> Hp -> Prop), Inv X pins σ H s -> Vals vs us -> t vs σ H Q ->
    wpAny (model X.prog X.w) X.A (assignInOrder ((assignEach ts X.env).map (·.2)) us) (fun _ s' => ∃ σ' H', Inv X pins σ' H' s' /\ Q σ' H') X.xe s
abbrev TSet := V -> V -> V -> Hp -> (Hp -> Prop) -> Prop
def PSet (X : Cx) (t : TSet) : Prop :=
  ∀ (pins : List (Addr × Obj)) (s : Shared) (σ : St) (H : Hp) (o i v : V) (ov iv u : Value) (Q : Hp -> Prop), Inv X pins σ H s -> RelV o ov -> RelV i iv -> RelV v u -> t o i v H Q ->
    wpAny (model X.prog X.w) X.A (setItem ov iv u) (fun _ s' => ∃ H', Inv X pins σ H' s' /\ Q H') X.xe s
section
variable {X : Cx} {pos : Pos}
def gName (i : Nat) : TG := fun v σ H Q => Q (σ.set i (some v)) H
theorem pg_name {i : Nat} {x : Str} (hN : X.N.Nodup) (hi : X.N[i]? = some x) (hx : Loc X.env.scope x) (hf : X.fn x = true \/ X.env.scope.names.lookup x = some .local := by first | exact .inl rfl | exact .inr rfl | assumption) : PG X (.Name x pos) (gName i) := by
  intro pins s σ H v u Q I r h
  exact wpAny_assign_Name (store_ok I hN hi hx r (fun s' I' => ⟨_, H, I', h⟩) hf)
def gNil : TGs := fun vs σ H Q => vs = [] /\ Q σ H
def gCons (t : TG) (u : TGs) : TGs := fun vs σ H Q => ∃ v r, vs = v :: r /\ t v σ H fun σ' H' => u r σ' H' Q
theorem pgs_nil : PGs X [] gNil := by
  intro pins s σ H vs us Q I r h
  obtain ⟨e, h⟩ := h
  subst e
  cases r
  exact assignInOrder_nil ⟨σ, H, I, h⟩
theorem pgs_cons {e : Expr} {es : List Expr} {t : TG} {u : TGs} (h1 : PG X e t) (h2 : PGs X es u)
    (hs : (assignEach (e :: es) X.env).map (·.2) = assign e X.env :: (assignEach es X.env).map (·.2) := by rfl) : PGs X (e :: es) (gCons t u) := by
  intro pins s σ H vs us Q I r h
  obtain ⟨v, vr, e1, h⟩ := h
  subst e1
  cases r with
  | cons r rr =>
    rw [hs]
    refine assignInOrder_cons (thn (h1 pins s σ H _ _ _ I r h) fun _ s1 ⟨σ1, H1, I1, q1⟩ => ?_)
    exact h2 pins s1 σ1 H1 _ _ Q I1 rr q1
def gTup (K : PySem.W.Frag) (n : Nat) (t : TGs) : TG := fun v σ H Q => ∃ a xs, v = .ref a /\ SqT K H a xs /\ xs.length = n /\ t xs σ H Q
theorem pg_tup {es : List Expr} {k : Nat} {t : TGs} {n : Nat} (hc : X.calm = true) (h : PGs X es t)
    (hn : (assignEach es X.env).length = n := by rfl) (hst : (assignEach es X.env).findIdx? (·.1) = none := by rfl) : PG X (.Tuple es k pos) (gTup X.K n t) := by
  intro pins s σ H v u Q I r hw
  obtain ⟨a, xs, e1, hq, hl, hw⟩ := hw
  subst e1
  cases r
  obtain ⟨its, rv, ht, hz⟩ := I.tuple hq
  refine assign_Tuple_tuple (I.ok.hd hc) ht (by simp [hn, <- hl, rv.length]) hst fun h' hx => ?_
  have I1 : Inv X pins σ H { s with heap := h' } := I.kept (t' := s.toks) fun b o e => hx b o (Nat.ne_of_lt (Heap.lt_size e)) e
  exact h pins _ σ H xs _ Q I1 (by simpa using rv) hw
def gSub (to ti : TE) (t : TSet) : TG := fun v σ H Q => to σ H fun o H1 => ti σ H1 fun i H2 => t o i v H2 fun H3 => Q σ H3
theorem pg_sub {o i : Expr} {to ti : TE} {t : TSet} (ho : PE X o to) (hi : PE X i ti) (hs : PSet X t)
    (ha : ∀ v, assign (.Subscript o i pos) X.env v = (do
      let ov <- holding [v] (eval o X.env)
      let iv <- holding [v, ov] (eval i X.env)
      standAt pos
      holding [v, ov, iv] (setItem ov iv v)
      release [v, ov, iv] []) := by intro _; rfl) : PG X (.Subscript o i pos) (gSub to ti t) := by
  intro pins s σ H v u Q I r h
  rw [ha]
  refine wpAny_bind (wpAny_holding (thn (ho pins s σ H _ I h) fun ov s1 ⟨x, H1, I1, r1, q1⟩ => ?_))
  refine wpAny_bind (wpAny_holding (thn (hi pins s1 σ H1 _ I1 q1) fun iv s2 ⟨y, H2, I2, r2, q2⟩ => ?_))
  refine wpAny_bind (wpAny_standAt (wpAny_bind (wpAny_holding (thn (hs pins s2 σ H2 x y v ov iv u _ I2 r1 r2 r q2) fun _ s3 ⟨H3, I3, q3⟩ => ?_))))
  exact wpAny_release ⟨σ, H3, I3, q3⟩
def tAsg (te : TE) (g : TG) : TS := fun D σ H => te σ H fun x H1 => g x σ H1 D.nx
theorem ps_asg {tg e : Expr} {te : TE} {g : TG} (he : PE X e te) (hg : PG X tg g) (hs : swapsWithSole [tg] e pos.line X.env = pure false := by rfl) (hw : swappedStores [tg] e X.env = pure none := by rfl)
    (h1 : (assignEach [tg] X.env).map (·.2) = [assign tg X.env] := by rfl) : PS X (.Assign [tg] e pos) (tAsg te g) := by
  intro pins s σ H D I h
  refine wpAny_Assign_stores (thn (he pins s σ H _ I h) fun v s1 ⟨x, H1, I1, r1, q1⟩ => ?_) hs hw
  rw [h1]
  exact thn (hg pins s1 σ H1 x v _ I1 r1 q1) fun _ s2 q => q
theorem ps_set {i : Nat} {x : Str} {e : Expr} {te : TE} {pos' : Pos} (hN : X.N.Nodup) (hi : X.N[i]? = some x) (hx : Loc X.env.scope x) (he : PE X e te) (hs : swapsWith e (some (.Name x pos')) pos.line X.env = pure false := by rfl) (hf : X.fn x = true \/ X.env.scope.names.lookup x = some .local := by first | exact .inl rfl | exact .inr rfl | assumption) :
    PS X (.Assign [.Name x pos'] e pos) (tAsg te (gName i)) := by
  intro pins s σ H D I h
  refine wpAny_Assign_Name (thn (he pins s σ H _ I h) fun v s1 ⟨y, H1, I1, r1, q1⟩ => ?_) hs
  exact store_ok I1 hN hi hx r1 (fun s2 I2 => ⟨_, H1, I2, q1⟩) hf
end
section
variable {X : Cx} {pos : Pos}
end
structure It where
  go : Nat -> Hp -> Prop
  yld : Nat -> Hp -> V -> Hp -> Prop
  stop : Nat -> Hp -> Prop
def FpOk (X : Cx) (pins : List (Addr × Obj)) (H : Hp) (b : Addr) : Prop :=
  H b = none /\ b ≠ X.env.locals /\ b ∉ X.fs /\ (b ∈ X.ex \/ X.s₀.heap.objs.size <= b) /\ (∀ x c, X.env.cells.lookup x = some c -> c ≠ b) /\ ∀ p ∈ X.pn ++ pins, p.1 ≠ b
theorem Inv.fpOk {X : Cx} {pins : List (Addr × Obj)} {σ : St} {H H' : Hp} {s : Shared} {b : Addr} (I : Inv X pins σ H s) (hb : s.heap.objs.size <= b) (hn : H' b = none) : FpOk X pins H' b := by
  refine ⟨hn, Nat.ne_of_gt (Nat.lt_of_lt_of_le I.lt hb), I.nofs hb, .inr (Nat.le_trans I.sz hb), fun x c e z => ?_, fun p hp z => ?_⟩
  . obtain ⟨v, q⟩ := I.cell x c e
    exact absurd (Nat.lt_of_lt_of_le q.lt (by rw [z]; exact hb)) (Nat.lt_irrefl _)
  . exact absurd (Nat.lt_of_lt_of_le (Heap.lt_size (I.pin p hp).1) (by rw [z]; exact hb)) (Nat.lt_irrefl _)
structure Turn (P : Program) (w : World) (K : PySem.W.Frag) (tg : Expr) (J : It) (fp : List Addr) (it : Addr) (tn : Nat -> Heap -> Prop) : Prop where
  mem : it ∈ fp
  obj : ∀ i h, tn i h -> ∀ b ∈ fp, ∃ o, h.get? b = some o /\ ∀ v, o.data ≠ .cell v
  keep : ∀ i h h', tn i h -> (∀ b ∈ fp, ∀ o, h.get? b = some o -> h'.get? b = some o) -> tn i h'
  item : ∀ (X : Cx), X.prog = P -> X.w = w -> X.K = K -> X.calm = true -> ∀ (i : Nat) (pins : List (Addr × Obj)) (s : Shared) (σ : St) (H : Hp) (E : Value -> Shared -> Prop), Inv X pins σ H s -> (∀ b ∈ fp, FpOk X pins H b) -> tn i s.heap -> J.go i H ->
    wpAny (model P w) X.A (pyNext (.ref it)) (fun r s1 => ∃ u, r = some u /\
      wpAny (model P w) X.A (letOwnedTupleGo tg (.ref it) u) (fun _ s2 => ∃ x H', Inv X pins σ H' s2 /\ RelV x u /\ J.yld i H x H' /\ tn (i + 1) s2.heap /\ ∀ b ∈ fp, H' b = none) E s1) E s
  done : ∀ (X : Cx), X.prog = P -> X.w = w -> X.K = K -> X.calm = true -> ∀ (i : Nat) (pins : List (Addr × Obj)) (s : Shared) (σ : St) (H : Hp) (E : Value -> Shared -> Prop), Inv X pins σ H s -> (∀ b ∈ fp, FpOk X pins H b) -> tn i s.heap -> J.stop i H ->
    wpAny (model P w) X.A (pyNext (.ref it)) (fun r s1 => r = none /\ Inv X pins σ H s1) E s
  self : ∀ (A : Around) (i : Nat) (s : Shared) (Q : Value -> Shared -> Prop) (E : Value -> Shared -> Prop), tn i s.heap -> Q (.ref it) s -> wpAny (model P w) A (pyIter (.ref it)) Q E s
abbrev TI := St -> Hp -> (It -> Hp -> Prop) -> Prop
def PIE (X : Cx) (pins : List (Addr × Obj)) (σ : St) (tg : Expr) (R : It -> Hp -> Prop) (itv : Value) (s2 : Shared) : Prop :=
  ∃ (it : Addr) (fp : List Addr) (tn : Nat -> Heap -> Prop) (J : It) (H' : Hp), itv = .ref it /\ Inv X pins σ H' s2 /\ Turn X.prog X.w X.K tg J fp it tn /\ tn 0 s2.heap /\ (∀ b ∈ fp, FpOk X pins H' b) /\ R J H'
def PI (X : Cx) (tg iter : Expr) (wi : TI) : Prop :=
  ∀ (pins : List (Addr × Obj)) (s : Shared) (σ : St) (H : Hp) (R : It -> Hp -> Prop), Inv X pins σ H s -> wi σ H R ->
    wpAny (model X.prog X.w) X.A (eval iter X.env) (fun v s1 => wpAny (model X.prog X.w) X.A (pyIter v) (PIE X pins σ tg R) X.xe s1) X.xe s
theorem go_of {M : Model} {A : Around} {E : Value -> Shared -> Prop} {s : Shared} {tg : Expr} {it : Addr} {u : Value} {o : Obj} {n : String} {vs : Array Value} {Q : Unit -> Shared -> Prop} (ho : s.heap.get? it = some o) (hc : o.cls = .type n) (hd : o.data = .fields vs)
    (hn : ["enumerate", "zip", "dict_itemiterator", "dict_reverseitemiterator", "odict_iterator", "itertools.zip_longest", "itertools.pairwise"].contains n = false) (hQ : Q () s) : wpAny M A (letOwnedTupleGo tg (.ref it) u) Q E s := by
  unfold letOwnedTupleGo
  cases tg <;> first
    | exact wpAny_pure hQ
    | (cases u <;> first
        | exact wpAny_pure hQ
        | (refine wpAny_bind (wpAny_load ho ?_)
           rw [hc, hd]
           show wpAny M A (if (["enumerate", "zip", "dict_itemiterator", "dict_reverseitemiterator", "odict_iterator", "itertools.zip_longest", "itertools.pairwise"].contains n && vs[0]? == some (rawInt _)) = true then _ else _) Q E s
           rw [if_neg (by intro h; rw [hn, Bool.false_and] at h; cases h)]
           exact wpAny_pure hQ))
def Itl (K : PySem.W.Frag) (a : Addr) : It :=
  ⟨fun i H => ∃ xs x, SqL K H a xs /\ xs[i]? = some x, fun i H x H' => H' = H /\ ∀ xs, SqL K H a xs -> xs[i]? = some x, fun i H => ∃ xs, SqL K H a xs /\ xs.length <= i⟩
def Itt (K : PySem.W.Frag) (a : Addr) : It :=
  ⟨fun i H => ∃ xs x, SqT K H a xs /\ xs[i]? = some x, fun i H x H' => H' = H /\ ∀ xs, SqT K H a xs -> xs[i]? = some x, fun i H => ∃ xs, SqT K H a xs /\ xs.length <= i⟩
def Itr (lo : Int) (n : Nat) : It := ⟨fun i _ => i < n, fun i H x H' => H' = H /\ x = .int (lo + i), fun i _ => n <= i⟩
theorem turn_list {P : Program} {w : World} {K : PySem.W.Frag} {tg : Expr} (a it : Addr) : Turn P w K tg (Itl K a) [it] it (fun i h => h.IsListIter it a i) where
  mem := by simp
  obj := fun i h st b hb => by
    have e : b = it := by simpa using hb
    subst e
    obtain ⟨o, e, c, d⟩ := st
    exact ⟨o, e, fun v z => by rw [d] at z; cases z⟩
  keep := fun i h h' st k => st.at fun o e => k it (by simp) o e
  item := by
    intro X hP hw hK hc i pins s σ H E I hf st hg
    subst hP hw hK
    obtain ⟨xs, x, hq, hx⟩ := hg
    obtain ⟨its, rv, p, hz⟩ := I.list hq
    obtain ⟨u, hu, ru⟩ := rv.get hx
    obtain ⟨f0, f1, f2, f3, f4, f5⟩ := hf it (by simp)
    refine wpAny_pyNext_list_item st p.isList (x := u) (by simpa using hu) fun h' st' sb => ?_
    have I1 : Inv X pins σ H { s with heap := h' } := I.turned (t' := s.toks) (fun b o hb e => (sb.2 b hb).trans e) f0 f1 f3 f4 f5
    obtain ⟨o, e, c, d⟩ := id st'
    exact ⟨u, rfl, go_of (s := { s with heap := h' }) e c d (by decide) ⟨x, H, I1, ru, ⟨rfl, fun ys hy => by rw [I.list_inj hy hq]; exact hx⟩, st', fun b hb => (hf b hb).1⟩⟩
  done := by
    intro X hP hw hK hc i pins s σ H E I hf st hg
    subst hP hw hK
    obtain ⟨xs, hq, hx⟩ := hg
    obtain ⟨its, rv, p, hz⟩ := I.list hq
    obtain ⟨f0, f1, f2, f3, f4, f5⟩ := hf it (by simp)
    have hl := rv.length
    exact wpAny_pyNext_list_end (I.ok.hd hc) st p.isList (by simp; omega) fun h' eb => ⟨rfl, I.turned (t' := s.toks) (fun b o hb e => eb b o hb e) f0 f1 f3 f4 f5⟩
  self := fun _ _ _ _ _ st h => wpAny_pyIter_listiter st h
theorem turn_tuple {P : Program} {w : World} {K : PySem.W.Frag} {tg : Expr} (a it : Addr) : Turn P w K tg (Itt K a) [it] it (fun i h => h.IsTupleIter it a i) where
  mem := by simp
  obj := fun i h st b hb => by
    have e : b = it := by simpa using hb
    subst e
    obtain ⟨o, e, c, d⟩ := st
    exact ⟨o, e, fun v z => by rw [d] at z; cases z⟩
  keep := fun i h h' st k => st.at fun o e => k it (by simp) o e
  item := by
    intro X hP hw hK hc i pins s σ H E I hf st hg
    subst hP hw hK
    obtain ⟨xs, x, hq, hx⟩ := hg
    obtain ⟨its, rv, p, hz⟩ := I.tuple hq
    obtain ⟨u, hu, ru⟩ := rv.get hx
    obtain ⟨f0, f1, f2, f3, f4, f5⟩ := hf it (by simp)
    refine wpAny_pyNext_tuple_item st (show s.heap.IsTuple a its.toArray from p) (x := u) (by simpa using hu) fun h' st' sb => ?_
    have I1 : Inv X pins σ H { s with heap := h' } := I.turned (t' := s.toks) (fun b o hb e => (sb.2 b hb).trans e) f0 f1 f3 f4 f5
    obtain ⟨o, e, c, d⟩ := id st'
    exact ⟨u, rfl, go_of (s := { s with heap := h' }) e c d (by decide) ⟨x, H, I1, ru, ⟨rfl, fun ys hy => by rw [I.tuple_inj hy hq]; exact hx⟩, st', fun b hb => (hf b hb).1⟩⟩
  done := by
    intro X hP hw hK hc i pins s σ H E I hf st hg
    subst hP hw hK
    obtain ⟨xs, hq, hx⟩ := hg
    obtain ⟨its, rv, p, hz⟩ := I.tuple hq
    obtain ⟨f0, f1, f2, f3, f4, f5⟩ := hf it (by simp)
    have hl := rv.length
    exact wpAny_pyNext_tuple_end (I.ok.hd hc) st (show s.heap.IsTuple a its.toArray from p) (by simp; omega) fun h' eb => ⟨rfl, I.turned (t' := s.toks) (fun b o hb e => eb b o hb e) f0 f1 f3 f4 f5⟩
  self := fun _ _ _ _ _ st h => wpAny_pyIter_tupleiter st h
theorem turn_range {P : Program} {w : World} {K : PySem.W.Frag} {tg : Expr} (it : Addr) (lo : Int) (n : Nat) : Turn P w K tg (Itr lo n) [it] it (fun i h => IsRangeIter h it (lo + (i : Nat) * 1) ((n : Int) - (i : Nat)) 1) where
  mem := by simp
  obj := fun i h st b hb => by
    have e : b = it := by simpa using hb
    subst e
    exact ⟨_, st, fun v z => by
      have z' : Data.fields _ = Data.cell v := z
      cases z'⟩
  keep := fun i h h' st k => k it (by simp) _ st
  item := by
    intro X hP hw hK hc i pins s σ H E I hf st hg
    subst hP hw hK
    obtain ⟨f0, f1, f2, f3, f4, f5⟩ := hf it (by simp)
    have W := Walks.range (prog := X.prog) (w := X.w) (I.ok.hd hc) it lo 1 n
    refine W.item i s _ _ hg st fun v h' tk hv st' kk => ?_
    obtain ⟨t, rfl⟩ := hv
    have I1 : Inv X pins σ H { s with heap := h', toks := tk } := I.turned (fun b o hb e => kk b o (by simpa using hb) e) f0 f1 f3 f4 f5
    refine ⟨_, rfl, go_of (s := { s with heap := h', toks := tk }) (n := "range_iterator") st' rfl rfl (by decide) ⟨.int (lo + i), H, I1, ⟨t, ?_⟩, ⟨rfl, rfl⟩, st', fun b hb => (hf b hb).1⟩⟩
    rw [Int.mul_one]
  done := by
    intro X hP hw hK hc i pins s σ H E I hf st hg
    subst hP hw hK
    obtain ⟨f0, f1, f2, f3, f4, f5⟩ := hf it (by simp)
    exact wpAny_pyNext_range_end (I.ok.hd hc) st (by have : n <= i := hg; omega) fun h' eb => ⟨rfl, I.turned (t' := s.toks) (fun b o hb e => eb b o hb e) f0 f1 f3 f4 f5⟩
  self := fun _ _ _ _ _ st h => wpAny_pyIter_rangeiter st h
section
variable {X : Cx} {tg : Expr}
theorem range_it {pins : List (Addr × Obj)} {σ : St} {H : Hp} {s : Shared} {R : It -> Hp -> Prop} {E : Value -> Shared -> Prop} {lo hi : Int} {t u v : Tok} {tk : Nat} (I : Inv X pins σ H s) (h1 : -(2 ^ 62) <= lo) (h2 : lo < 2 ^ 62) (h3 : -(2 ^ 62) <= hi) (h4 : hi < 2 ^ 62)
    (q : R (Itr lo (hi - lo).toNat) H) : wpAny (model X.prog X.w) X.A (pyIter (.ref s.heap.objs.size)) (PIE X pins σ tg R) E { s with heap := s.heap.push { cls := .type "range", data := .fields #[.int lo t, .int hi u, .int 1 v] }, toks := tk } := by
  refine wpAny_pyIter_range (IsRange.new ..) (small_one h1 h2 h3 h4) ?_
  have I1 : Inv X pins σ H { s with heap := s.heap.push { cls := .type "range", data := .fields #[.int lo t, .int hi u, .int 1 v] }, toks := tk } := I.kept fun b o e => Heap.get?_push_of_some _ e
  refine ⟨(s.heap.push { cls := .type "range", data := .fields #[.int lo t, .int hi u, .int 1 v] }).objs.size, [(s.heap.push { cls := .type "range", data := .fields #[.int lo t, .int hi u, .int 1 v] }).objs.size], _, _, H, rfl,
    I1.kept (t' := tk) fun b o e => Heap.get?_push_of_some _ e, turn_range _ lo (hi - lo).toNat, ?_, fun b hb => ?_, q⟩
  . have e1 : lo + ((0 : Nat) : Int) * 1 = lo := by simp
    have e2 : (((hi - lo).toNat : Nat) : Int) - ((0 : Nat) : Int) = Builtin.Range.rangeSize lo hi 1 := by rw [rangeSize_one]; split <;> omega
    show IsRangeIter _ _ (lo + ((0 : Nat) : Int) * 1) ((((hi - lo).toNat : Nat) : Int) - ((0 : Nat) : Int)) 1
    rw [e1, e2]
    exact Heap.get?_push_size _ rfl
  . have e : b = (s.heap.push { cls := .type "range", data := .fields #[.int lo t, .int hi u, .int 1 v] }).objs.size := by simpa using hb
    subst e
    exact I1.fpOk (Nat.le_refl _) (I1.hok.fresh (Nat.le_refl _))
def iRng1 (ta : TA) : TI := fun σ H R => ta σ H fun vs H1 => ∃ j : Int, vs = [.int j] /\ -(2 ^ 62) <= j /\ j < 2 ^ 62 /\ R (Itr 0 j.toNat) H1
theorem pi_range1 {a : Expr} {ta : TA} {p pos : Pos} (hg : Gl X "range") (hm : X.mg "range" = none) (ha : PA X [a] ta) (hs : starEach [a] X.env = [(false, eval a X.env)] := by rfl) : PI X tg (.Call (.Name "range" p) [a] [] pos) (iRng1 ta) := by
  intro pins s σ H R I h
  refine Call_ (ld_blt I hg hm boot_range (PyProof.Rows.callWith_type1 (thn (ha pos pins s σ H _ I h) fun us s1 ⟨vs, H1, I1, r1, q1⟩ => ?_) hs rfl))
  obtain ⟨j, e, q1, q2, q⟩ := q1
  subst e
  cases r1 with
  | cons r rr =>
    cases rr
    obtain ⟨t, rfl⟩ := r
    exact call_range_1 (range_it I1 (by omega) (by omega) q1 q2 (by simpa using q))
def tFor (wi : TI) (g : TG) (tb : TS) : TS := fun D σ H => wi σ H fun J H1 => ∃ W : Nat -> Nat -> St -> Hp -> Prop, (∃ m, W 0 m σ H1) /\ ∀ i m σ H, W i m σ H ->
  (J.stop i H /\ D.nx σ H) \/ (J.go i H /\ ∃ N : St -> Hp -> Prop, (∀ σ' H', N σ' H' -> ∃ m', m' < m /\ W (i + 1) m' σ' H') /\ ∀ x H', J.yld i H x H' -> g x σ H' fun σ2 H2 => tb { D with nx := N, ct := N, bk := D.nx } σ2 H2)
def pinsAt (fp : List Addr) (h : Heap) : List (Addr × Obj) := fp.filterMap fun b => (h.get? b).map fun o => (b, o)
theorem mem_pinsAt {fp : List Addr} {h : Heap} {b : Addr} {o : Obj} (hb : b ∈ fp) (e : h.get? b = some o) : (b, o) ∈ pinsAt fp h := List.mem_filterMap.mpr ⟨b, hb, by rw [e]; rfl⟩
theorem of_pinsAt {fp : List Addr} {h : Heap} {p : Addr × Obj} (hp : p ∈ pinsAt fp h) : p.1 ∈ fp /\ h.get? p.1 = some p.2 := by
  obtain ⟨b, hb, e⟩ := List.mem_filterMap.mp hp
  cases q : h.get? b with
  | none => rw [q] at e; cases e
  | some o =>
    rw [q] at e
    have e' : (b, o) = p := Option.some.inj e
    subst e'
    exact ⟨hb, q⟩
theorem Inv.pinned {pins : List (Addr × Obj)} {σ : St} {H : Hp} {s : Shared} {fp : List Addr} (I : Inv X pins σ H s) (hf : ∀ b ∈ fp, FpOk X pins H b) (ho : ∀ b ∈ fp, ∃ o, s.heap.get? b = some o /\ ∀ v, o.data ≠ .cell v) : Inv X (pins ++ pinsAt fp s.heap) σ H s :=
  I.pins_of fun p hp => (List.mem_append.mp hp).elim (fun z => I.pin p (List.mem_append_right _ z)) fun z => by
    obtain ⟨hb, e⟩ := of_pinsAt z
    obtain ⟨f0, f1, f2, _⟩ := hf p.1 hb
    obtain ⟨o, e', d⟩ := ho p.1 hb
    rw [e] at e'; cases e'
    exact ⟨e, f0, f1, f2, d⟩
theorem Inv.unpinned {pins pl : List (Addr × Obj)} {σ : St} {H : Hp} {s : Shared} (I : Inv X (pins ++ pl) σ H s) : Inv X pins σ H s := I.pins_of fun p hp => I.pin p (List.mem_append_right _ (List.mem_append_left _ hp))
theorem ps_for {iter : Expr} {body : List Stmt} {wi : TI} {g : TG} {tb : TS} {pos : Pos} (hp : PassesOwn (model X.prog X.w) X.A X.env X.xe) (hc : X.calm = true) (hi : PI X tg iter wi) (hg : PG X tg g) (hb : PSs X body tb)
    (hs : ∀ x, foldedSetIterable iter X.env x = pure x := by intro _; rfl) : PS X (.For tg iter body [] pos) (tFor wi g tb) := by
  intro pins s σ H D I h
  refine wpAny_For (thn (hi pins s σ H _ I h) fun v s1 h1 => thn h1 fun itv s2 h2 => ?_) hs
  obtain ⟨it, fp, tn, J, H2, e, I2, T, st2, f2, W, ⟨m0, w0⟩, turn⟩ := h2
  subst e
  -- what stays true of the iterator's objects through the loop
  have stat : ∀ {H' : Hp}, (∀ b ∈ fp, H' b = none) -> ∀ b ∈ fp, FpOk X pins H' b := fun hn b hb => ⟨hn b hb, (f2 b hb).2⟩
  refine codeAny_forLoop_any (fun n s' => ∃ i σ' H', Inv X pins σ' H' s' /\ tn i s'.heap /\ (∀ b ∈ fp, H' b = none) /\ W i n σ' H') ?_ m0 ⟨0, σ, H2, I2, st2, fun b hb => (f2 b hb).1, w0⟩
  rintro n s3 ⟨i, σ3, H3, I3, st3, fr3, w3⟩
  rcases turn i n σ3 H3 w3 with ⟨stop, qn⟩ | ⟨go, N, hN, step⟩
  . refine wpAny_passesOwn hp (thn (T.done X rfl rfl rfl hc i pins s3 σ3 H3 X.xe I3 (stat fr3) st3 stop) fun r s4 ⟨hr, I4⟩ => ?_)
    subst hr
    exact wpAny_execs_nil ⟨σ3, H3, I4, qn⟩
  . refine wpAny_passesOwn hp (thn (T.item X rfl rfl rfl hc i pins s3 σ3 H3 X.xe I3 (stat fr3) st3 go) fun r s4 ⟨u, hr, h4⟩ => ?_)
    subst hr
    refine wpAny_passesOwn hp (thn h4 fun _ s5 ⟨x, H5, I5, r5, y5, st5, fr5⟩ => ?_)
    have I5' := I5.pinned (stat fr5) (T.obj _ _ st5)
    refine wpAny_passesOwn hp (thn (hg _ s5 σ3 H5 x u _ I5' r5 (step x H5 y5)) fun _ s6 ⟨σ6, H6, I6, q6⟩ => ?_)
    refine wpAny_passesOwn hp (thn (hb _ s6 σ6 H6 _ I6 q6) fun f s7 q7 => ?_)
    have again : ∀ {σ7 : St} {H7 : Hp}, Inv X (pins ++ pinsAt fp s5.heap) σ7 H7 s7 -> N σ7 H7 -> ∃ m, m < n /\ ∃ i σ' H', Inv X pins σ' H' s7 /\ tn i s7.heap /\ (∀ b ∈ fp, H' b = none) /\ W i m σ' H' := fun {σ7 H7} I7 n7 => by
      obtain ⟨m', hm, w7⟩ := hN σ7 H7 n7
      refine ⟨m', hm, i + 1, σ7, H7, I7.unpinned, T.keep _ _ _ st5 fun b hb o e => (I7.pin (b, o) (List.mem_append_right _ (List.mem_append_right _ (mem_pinsAt hb e)))).1, fun b hb => ?_, w7⟩
      obtain ⟨o, e, d⟩ := T.obj _ _ st5 b hb
      exact (I7.pin (b, o) (List.mem_append_right _ (List.mem_append_right _ (mem_pinsAt hb e)))).2.1
    cases f with
    | next => obtain ⟨σ7, H7, I7, n7⟩ := q7; exact again I7 n7
    | cont => obtain ⟨σ7, H7, I7, n7⟩ := q7; exact again I7 n7
    | brk => obtain ⟨σ7, H7, I7, q7⟩ := q7; exact ⟨σ7, H7, I7.unpinned, q7⟩
    | ret v => obtain ⟨x7, σ7, H7, I7, r7, q7⟩ := q7; exact ⟨x7, σ7, H7, I7.unpinned, r7, q7⟩
end
theorem for_list {K : PySem.W.Frag} {a : Addr} {xs : List V} {g : TG} {tb : TS} {D : Ends} {σ : St} {H : Hp} (Pv : Nat -> St -> Hp -> Prop) (h0 : Pv 0 σ H) (hl : ∀ i σ H, i <= xs.length -> Pv i σ H -> SqL K H a xs)
    (hs : ∀ i x σ H, xs[i]? = some x -> Pv i σ H -> g x σ H fun σ2 H2 => tb { D with nx := Pv (i + 1), ct := Pv (i + 1), bk := D.nx } σ2 H2) (hd : ∀ σ H, Pv xs.length σ H -> D.nx σ H) :
    ∃ W : Nat -> Nat -> St -> Hp -> Prop, (∃ m, W 0 m σ H) /\ ∀ i m σ H, W i m σ H ->
      ((Itl K a).stop i H /\ D.nx σ H) \/ ((Itl K a).go i H /\ ∃ N : St -> Hp -> Prop, (∀ σ' H', N σ' H' -> ∃ m', m' < m /\ W (i + 1) m' σ' H') /\ ∀ x H', (Itl K a).yld i H x H' -> g x σ H' fun σ2 H2 => tb { D with nx := N, ct := N, bk := D.nx } σ2 H2) := by
  refine ⟨fun i m σ H => m = xs.length - i /\ i <= xs.length /\ Pv i σ H, ⟨xs.length, by simp, Nat.zero_le _, h0⟩, ?_⟩
  rintro i m σ H ⟨rfl, hi, p⟩
  have q := hl i σ H hi p
  by_cases hlt : i < xs.length
  . refine .inr ⟨⟨xs, xs[i], q, by simp [hlt]⟩, Pv (i + 1), fun σ' H' p' => ⟨xs.length - (i + 1), by omega, rfl, hlt, p'⟩, fun x H' y => ?_⟩
    obtain ⟨e, y⟩ := y
    subst e
    exact hs i x σ _ (y xs q) p
  . have e : i = xs.length := by omega
    subst e
    exact .inl ⟨⟨xs, q, Nat.le_refl _⟩, hd σ H p⟩
theorem for_tup {K : PySem.W.Frag} {a : Addr} {xs : List V} {g : TG} {tb : TS} {D : Ends} {σ : St} {H : Hp} (Pv : Nat -> St -> Hp -> Prop) (h0 : Pv 0 σ H) (hl : ∀ i σ H, i <= xs.length -> Pv i σ H -> SqT K H a xs)
    (hs : ∀ i x σ H, xs[i]? = some x -> Pv i σ H -> g x σ H fun σ2 H2 => tb { D with nx := Pv (i + 1), ct := Pv (i + 1), bk := D.nx } σ2 H2) (hd : ∀ σ H, Pv xs.length σ H -> D.nx σ H) :
    ∃ W : Nat -> Nat -> St -> Hp -> Prop, (∃ m, W 0 m σ H) /\ ∀ i m σ H, W i m σ H ->
      ((Itt K a).stop i H /\ D.nx σ H) \/ ((Itt K a).go i H /\ ∃ N : St -> Hp -> Prop, (∀ σ' H', N σ' H' -> ∃ m', m' < m /\ W (i + 1) m' σ' H') /\ ∀ x H', (Itt K a).yld i H x H' -> g x σ H' fun σ2 H2 => tb { D with nx := N, ct := N, bk := D.nx } σ2 H2) := by
  refine ⟨fun i m σ H => m = xs.length - i /\ i <= xs.length /\ Pv i σ H, ⟨xs.length, by simp, Nat.zero_le _, h0⟩, ?_⟩
  rintro i m σ H ⟨rfl, hi, p⟩
  have q := hl i σ H hi p
  by_cases hlt : i < xs.length
  . refine .inr ⟨⟨xs, xs[i], q, by simp [hlt]⟩, Pv (i + 1), fun σ' H' p' => ⟨xs.length - (i + 1), by omega, rfl, hlt, p'⟩, fun x H' y => ?_⟩
    obtain ⟨e, y⟩ := y
    subst e
    exact hs i x σ _ (y xs q) p
  . have e : i = xs.length := by omega
    subst e
    exact .inl ⟨⟨xs, q, Nat.le_refl _⟩, hd σ H p⟩
theorem for_range {lo : Int} {n : Nat} {g : TG} {tb : TS} {D : Ends} {σ : St} {H : Hp} (Pv : Nat -> St -> Hp -> Prop) (h0 : Pv 0 σ H)
    (hs : ∀ i σ H, i < n -> Pv i σ H -> g (.int (lo + i)) σ H fun σ2 H2 => tb { D with nx := Pv (i + 1), ct := Pv (i + 1), bk := D.nx } σ2 H2) (hd : ∀ σ H, Pv n σ H -> D.nx σ H) :
    ∃ W : Nat -> Nat -> St -> Hp -> Prop, (∃ m, W 0 m σ H) /\ ∀ i m σ H, W i m σ H ->
      ((Itr lo n).stop i H /\ D.nx σ H) \/ ((Itr lo n).go i H /\ ∃ N : St -> Hp -> Prop, (∀ σ' H', N σ' H' -> ∃ m', m' < m /\ W (i + 1) m' σ' H') /\ ∀ x H', (Itr lo n).yld i H x H' -> g x σ H' fun σ2 H2 => tb { D with nx := N, ct := N, bk := D.nx } σ2 H2) := by
  refine ⟨fun i m σ H => m = n - i /\ i <= n /\ Pv i σ H, ⟨n, by simp, Nat.zero_le _, h0⟩, ?_⟩
  rintro i m σ H ⟨rfl, hi, p⟩
  by_cases hlt : i < n
  . refine .inr ⟨hlt, Pv (i + 1), fun σ' H' p' => ⟨n - (i + 1), by omega, rfl, hlt, p'⟩, fun x H' y => ?_⟩
    obtain ⟨e, y⟩ := y
    subst e y
    exact hs i σ _ hlt p
  . have e : i = n := by omega
    subst e
    exact .inl ⟨Nat.le_refl _, hd σ H p⟩
abbrev R2 := V -> V -> Hp -> VK -> Prop
def OpR (X : Cx) (f : Value -> Value -> Sem Value) (r : R2) : Prop :=
  ∀ (pins : List (Addr × Obj)) (s : Shared) (σ : St) (H : Hp) (x y : V) (v u : Value) (Q : VK), Inv X pins σ H s -> RelV x v -> RelV y u -> r x y H Q ->
    wpAny (model X.prog X.w) X.A (f v u) (EP X pins σ Q) X.xe s
def UnR (X : Cx) (f : Value -> Sem Value) (r : V -> Hp -> VK -> Prop) : Prop :=
  ∀ (pins : List (Addr × Obj)) (s : Shared) (σ : St) (H : Hp) (x : V) (v : Value) (Q : VK), Inv X pins σ H s -> RelV x v -> r x H Q ->
    wpAny (model X.prog X.w) X.A (f v) (EP X pins σ Q) X.xe s
def CallR (X : Cx) (f : Value) (r : List V -> Hp -> VK -> Prop) : Prop :=
  ∀ (pins : List (Addr × Obj)) (s : Shared) (σ : St) (H : Hp) (xs : List V) (us : List Value) (Q : VK), Inv X pins σ H s -> Vals xs us -> r xs H Q ->
    wpAny (model X.prog X.w) X.A (call f us) (EP X pins σ Q) X.xe s
def tOp (r : R2) (ta tb : TE) : TE := fun σ H Q => ta σ H fun x H1 => tb σ H1 fun y H2 => r x y H2 Q
def tUn (r : V -> Hp -> VK -> Prop) (ta : TE) : TE := fun σ H Q => ta σ H fun x H1 => r x H1 Q
def rI (C : Int -> Int -> Prop) (g : Int -> Int -> V) : R2 := fun x y H Q => ∃ i j, x = .int i /\ y = .int j /\ C i j /\ Q (g i j) H
def rI0 (g : Int -> Int -> V) : R2 := fun x y H Q => ∃ i j, x = .int i /\ y = .int j /\ Q (g i j) H
def rU (g : Int -> V) : V -> Hp -> VK -> Prop := fun x H Q => ∃ i, x = .int i /\ Q (g i) H
section
variable {X : Cx} {a b c : Expr} {ta tb tc : TE} {pos : Pos}
theorem binT (ha : PE X a ta) (hb : PE X b tb) {pins : List (Addr × Obj)} {s : Shared} {σ : St} {H : Hp} {R : V -> V -> Hp -> Prop} (I : Inv X pins σ H s)
    (h : ta σ H fun x H1 => tb σ H1 fun y H2 => R x y H2) {Q : Value -> Shared -> Prop} {f : Value -> Value -> Sem Value}
    (hf : ∀ v u s2 x y H2, Inv X pins σ H2 s2 -> RelV x v -> RelV y u -> R x y H2 -> wpAny (model X.prog X.w) X.A (f v u) Q X.xe s2) :
    wpAny (model X.prog X.w) X.A (eval a X.env) (fun v s₁ => wpAny (model X.prog X.w) X.A (eval b X.env) (fun u s₂ => wpAny (model X.prog X.w) X.A (f v u) Q X.xe s₂) X.xe s₁) X.xe s := by
  refine thn (ha pins s σ H _ I h) fun v s1 ⟨x, H1, I1, r1, q1⟩ => ?_
  refine thn (hb pins s1 σ H1 _ I1 q1) fun u s2 ⟨y, H2, I2, r2, q2⟩ => ?_
  exact hf v u s2 x y H2 I2 r1 r2 q2
theorem pe_op {op : Operator} {r : R2} (ho : OpR X (binaryOp op) r) (ha : PE X a ta) (hb : PE X b tb) : PE X (.BinOp a op b pos) (tOp r ta tb) := by
  intro pins s σ H Q I h
  exact wpAny_BinOp (binT ha hb I h fun v u s2 x y H2 I2 rx ry q => ho pins s2 σ H2 x y v u Q I2 rx ry q)
theorem pe_un {op : UnaryOp} {r : V -> Hp -> VK -> Prop} (ho : UnR X (unaryOp op) r) (ha : PE X a ta) : PE X (.UnaryOp op a pos) (tUn r ta) := by
  intro pins s σ H Q I h
  exact UnaryOp_ (thn (ha pins s σ H _ I h) fun v s1 ⟨x, H1, I1, r1, q1⟩ => ho pins s1 σ H1 x v Q I1 r1 q1)
theorem opI {f : Value -> Value -> Sem Value} {C : Int -> Int -> Prop} {g : Int -> Int -> Int}
    (rule : ∀ (i j : Int) (t u : Tok) (s : Shared) (Q : Value -> Shared -> Prop) (E : Value -> Shared -> Prop), C i j -> Q (.int (g i j) s.toks) { s with toks := s.toks + 1 } -> wpAny (model X.prog X.w) X.A (f (.int i t) (.int j u)) Q E s) :
    OpR X f (rI C fun i j => .int (g i j)) := by
  intro pins s σ H x y v u Q I rx ry h
  obtain ⟨i, j, rfl, rfl, hc, q⟩ := h
  obtain ⟨t, rfl⟩ := rx
  obtain ⟨t', rfl⟩ := ry
  exact rule i j t t' s _ _ hc ⟨.int (g i j), H, I.tok _, ⟨_, rfl⟩, q⟩
theorem opI0 {f : Value -> Value -> Sem Value} {g : Int -> Int -> Int}
    (rule : ∀ (i j : Int) (t u : Tok) (s : Shared) (Q : Value -> Shared -> Prop) (E : Value -> Shared -> Prop), Q (.int (g i j) s.toks) { s with toks := s.toks + 1 } -> wpAny (model X.prog X.w) X.A (f (.int i t) (.int j u)) Q E s) :
    OpR X f (rI0 fun i j => .int (g i j)) := by
  intro pins s σ H x y v u Q I rx ry h
  obtain ⟨i, j, rfl, rfl, q⟩ := h
  obtain ⟨t, rfl⟩ := rx
  obtain ⟨t', rfl⟩ := ry
  exact rule i j t t' s _ _ ⟨.int (g i j), H, I.tok _, ⟨_, rfl⟩, q⟩
theorem opB0 {f : Value -> Value -> Sem Value} {g : Int -> Int -> Bool}
    (rule : ∀ (i j : Int) (t u : Tok) (s : Shared) (Q : Value -> Shared -> Prop) (E : Value -> Shared -> Prop), Q (.bool (g i j)) s -> wpAny (model X.prog X.w) X.A (f (.int i t) (.int j u)) Q E s) :
    OpR X f (rI0 fun i j => .bl (g i j)) := by
  intro pins s σ H x y v u Q I rx ry h
  obtain ⟨i, j, rfl, rfl, q⟩ := h
  obtain ⟨t, rfl⟩ := rx
  obtain ⟨t', rfl⟩ := ry
  exact rule i j t t' s _ _ ⟨.bl (g i j), H, I, rfl, q⟩
def CPow (i j : Int) : Prop := 0 <= j /\ j <= 1000000 /\ i.natAbs < 2 ^ 64
def CMul (i j : Int) : Prop := (-(2 ^ 64) < i /\ i < 2 ^ 64) \/ (-(2 ^ 64) < j /\ j < 2 ^ 64)
theorem CMul.ok {i j : Int} (h : CMul i j) : IntMulOk i j := by
  rcases h with ⟨h1, h2⟩ | ⟨h1, h2⟩
  . exact .of_left (intBits_le_64 h1 h2)
  . exact .of_right (intBits_le_64 h1 h2)
theorem op_add : OpR X (binaryOp .Add) (rI0 fun i j => .int (i + j)) := opI0 fun _ _ _ _ _ _ _ q => add_int q
theorem op_sub : OpR X (binaryOp .Sub) (rI0 fun i j => .int (i - j)) := opI0 fun _ _ _ _ _ _ _ q => sub_int q
theorem op_mod : OpR X (binaryOp .Mod) (rI (fun _ j => 0 < j) fun i j => .int (i % j)) := opI fun i j _ _ _ _ _ hc q => by
  have h1 : (0 : Int) < j := hc
  exact mod_int' (by omega) (by rw [Int.fmod_eq_emod_of_nonneg i (by omega)]; exact q)
theorem op_pow : OpR X (binaryOp .Pow) (rI CPow fun i j => .int (i ^ j.toNat)) := opI fun _ _ _ _ _ _ _ hc q => pow_int_small hc.1 hc.2.1 hc.2.2 q
theorem op_shl : OpR X (binaryOp .LShift) (rI CPow fun i j => .int (i * 2 ^ j.toNat)) := opI fun _ _ _ _ _ _ _ hc q => lshift_int_small hc.1 hc.2.1 hc.2.2 q
theorem op_and : OpR X (binaryOp .BitAnd) (rI0 fun i j => .int (Builtin.bitAnd i j)) := opI0 fun _ _ _ _ _ _ _ q => and_int q
theorem op_or : OpR X (binaryOp .BitOr) (rI0 fun i j => .int (Builtin.bitOr i j)) := opI0 fun _ _ _ _ _ _ _ q => or_int q
theorem op_xor : OpR X (binaryOp .BitXor) (rI0 fun i j => .int (Builtin.bitXor i j)) := opI0 fun _ _ _ _ _ _ _ q => xor_int q
theorem unI {f : Value -> Sem Value} {g : Int -> Int}
    (rule : ∀ (i : Int) (t : Tok) (s : Shared) (Q : Value -> Shared -> Prop) (E : Value -> Shared -> Prop), Q (.int (g i) s.toks) { s with toks := s.toks + 1 } -> wpAny (model X.prog X.w) X.A (f (.int i t)) Q E s) :
    UnR X f (rU fun i => .int (g i)) := by
  intro pins s σ H x v Q I rx h
  obtain ⟨i, rfl, q⟩ := h
  obtain ⟨t, rfl⟩ := rx
  exact rule i t s _ _ ⟨.int (g i), H, I.tok _, ⟨_, rfl⟩, q⟩
theorem un_neg : UnR X (unaryOp .USub) (rU fun i => .int (-i)) := unI fun _ _ _ _ _ q => neg_int q
end
section
variable {X : Cx} {a b c : Expr} {ta tb tc : TE} {pos : Pos}
theorem fin_bl {pins : List (Addr × Obj)} {σ : St} {H : Hp} {s : Shared} {Q : VK} {k k' : Bool} (I : Inv X pins σ H s) (q : Q (.bl k) H) (e : k = k') : EP X pins σ Q (.bool k') s := by
  subst e
  exact ⟨.bl k, H, I, rfl, q⟩
theorem op_lt : OpR X (compareOp .Lt) (rI0 fun i j => .bl (decide (i < j))) := opB0 fun _ _ _ _ _ _ _ q => lt_int q
theorem op_le : OpR X (compareOp .LtE) (rI0 fun i j => .bl (decide (i <= j))) := opB0 fun _ _ _ _ _ _ _ q => le_int q
theorem op_gt : OpR X (compareOp .Gt) (rI0 fun i j => .bl (decide (j < i))) := opB0 fun _ _ _ _ _ _ _ q => gt_int q
theorem op_ge : OpR X (compareOp .GtE) (rI0 fun i j => .bl (decide (j <= i))) := opB0 fun _ _ _ _ _ _ _ q => ge_int q
theorem op_isN : OpR X (compareOp .Is) (fun x y H Q => y = .non /\ Q (.bl (decide (x = .non))) H) := by
  intro pins s σ H x y v u Q I rx ry h
  obtain ⟨rfl, q⟩ := h
  cases ry
  refine is_none_gen (fin_bl I q ?_)
  cases x <;> first
    | (cases rx; rfl)
    | (obtain ⟨t, rfl⟩ := rx; rfl)
theorem pe_cmpR {op : CmpOp} {r : R2} (ho : OpR X (compareOp op) r) (ha : PE X a ta) (hb : PE X b tb) (hm : behindInMarks op b = false) : PE X (.Compare a [op] [b] pos) (tOp r ta tb) := by
  intro pins s σ H Q I h
  exact wpAny_Compare1 (binT ha hb I h fun v u s2 x y H2 I2 rx ry q => ho pins s2 σ H2 x y v u Q I2 rx ry q) hm
theorem line63 : (sizeLine : Nat) < 2 ^ 63 := by rw [sizeLine_eq]; decide
theorem op_add_str : OpR X (binaryOp .Add) (fun x y H Q => ∃ i j, x = .str i /\ y = .str j /\ i.length + j.length <= sizeLine /\ Q (.str (i ++ j)) H) := by
  intro pins s σ H x y v u Q I rx ry h
  obtain ⟨i, j, rfl, rfl, hz, q⟩ := h
  obtain ⟨t, rfl⟩ := rx
  obtain ⟨t', rfl⟩ := ry
  exact add_str (fun t' tk => ⟨.str (i ++ j), H, I.tok _, ⟨_, rfl⟩, q⟩) hz
theorem vals1 {x : V} {us : List Value} (r : Vals [x] us) : ∃ u, us = [u] /\ RelV x u := by
  cases r with
  | cons r1 r2 => cases r2; exact ⟨_, rfl, r1⟩
theorem vals2 {x y : V} {us : List Value} (r : Vals [x, y] us) : ∃ u w', us = [u, w'] /\ RelV x u /\ RelV y w' := by
  cases r with
  | cons r1 r2 =>
    cases r2 with
    | cons r3 r4 => cases r4; exact ⟨_, _, rfl, r1, r3⟩
theorem call_abs : CallR X (.builtin "abs") (fun xs H Q => ∃ i, xs = [.int i] /\ Q (.int (if i < 0 then -i else i)) H) := by
  intro pins s σ H xs us Q I r h
  obtain ⟨i, rfl, q⟩ := h
  obtain ⟨u, rfl, t, rfl⟩ := vals1 r
  exact call_abs_int fun u tk => ⟨.int (if i < 0 then -i else i), H, I.tok _, ⟨_, rfl⟩, q⟩
theorem call_max2 (hc : X.calm = true) : CallR X (.builtin "max") (fun xs H Q => ∃ i j, xs = [.int i, .int j] /\ Q (.int (if j > i then j else i)) H) := by
  intro pins s σ H xs us Q I r h
  obtain ⟨i, j, rfl, q⟩ := h
  obtain ⟨u, w', rfl, ⟨t, rfl⟩, ⟨t', rfl⟩⟩ := vals2 r
  refine max_two_ints (I.ok.hd hc) fun h' tk k => ⟨_, H, I.kept k, ?_, q⟩
  by_cases hj : j > i
  . rw [if_pos hj, if_pos hj]; exact ⟨_, rfl⟩
  . rw [if_neg hj, if_neg hj]; exact ⟨_, rfl⟩
theorem call_min2 (hc : X.calm = true) : CallR X (.builtin "min") (fun xs H Q => ∃ i j, xs = [.int i, .int j] /\ Q (.int (if j < i then j else i)) H) := by
  intro pins s σ H xs us Q I r h
  obtain ⟨i, j, rfl, q⟩ := h
  obtain ⟨u, w', rfl, ⟨t, rfl⟩, ⟨t', rfl⟩⟩ := vals2 r
  refine min_two_ints (I.ok.hd hc) fun h' tk k => ⟨_, H, I.kept k, ?_, q⟩
  by_cases hj : j < i
  . rw [if_pos hj, if_pos hj]; exact ⟨_, rfl⟩
  . rw [if_neg hj, if_neg hj]; exact ⟨_, rfl⟩
theorem call_int1 : CallR X (.type "int") (fun xs H Q => (∃ i, xs = [.int i] /\ Q (.int i) H) \/ ∃ k, xs = [.bl k] /\ Q (.int (if k then 1 else 0)) H) := by
  intro pins s σ H xs us Q I r h
  rcases h with ⟨i, rfl, q⟩ | ⟨k, rfl, q⟩
  . obtain ⟨u, rfl, t, rfl⟩ := vals1 r
    exact call_int_int ⟨.int i, H, I, ⟨_, rfl⟩, q⟩
  . obtain ⟨u, rfl, r1⟩ := vals1 r
    cases r1
    exact call_int_bool ⟨.int (if k then 1 else 0), H, I.tok _, ⟨_, rfl⟩, q⟩
def LenV (K : PySem.W.Frag) (x : V) (H : Hp) (n : Nat) : Prop :=
  match x with
  | .str y => y.length <= sizeLine /\ n = y.length
  | .byt y => y.size <= sizeLine /\ n = y.size
  | .ref p => (∃ xs, SqL K H p xs /\ n = xs.length) \/ ∃ xs, SqT K H p xs /\ n = xs.length
  | _ => False
theorem call_len : CallR X (.builtin "len") (fun xs H Q => ∃ x n, xs = [x] /\ LenV X.K x H n /\ Q (.int n) H) := by
  intro pins s σ H xs us Q I r h
  obtain ⟨x, n, rfl, e, q⟩ := h
  obtain ⟨u, rfl, rx⟩ := vals1 r
  have hl := line63
  have hs : sizeLine = 16777216 := sizeLine_eq
  cases x with
  | str y =>
    obtain ⟨t, rfl⟩ := rx
    obtain ⟨hy, e'⟩ : y.length <= sizeLine /\ n = y.length := e
    subst e'
    exact len_str (by omega) ⟨.int _, H, I.tok _, ⟨_, rfl⟩, q⟩
  | byt y =>
    obtain ⟨t, rfl⟩ := rx
    obtain ⟨hy, e'⟩ : y.size <= sizeLine /\ n = y.size := e
    subst e'
    exact PySem.W.len_bytes (by omega) ⟨.int _, H, I.tok _, ⟨_, rfl⟩, q⟩
  | ref p =>
    cases rx
    have e' : (∃ xs, SqL X.K H p xs /\ n = xs.length) \/ ∃ xs, SqT X.K H p xs /\ n = xs.length := e
    rcases e' with ⟨xs, hx, e'⟩ | ⟨xs, hx, e'⟩
    . subst e'
      obtain ⟨its, r', pl, hz⟩ := I.list hx
      have hlen := r'.length
      exact Calls.call_len_list pl.isList (by simp only [List.size_toArray]; omega) ⟨.int xs.length, H, I.tok _, ⟨_, by simp only [List.size_toArray]; rw [hlen]⟩, q⟩
    . subst e'
      obtain ⟨its, r', pl, hz⟩ := I.tuple hx
      have hlen := r'.length
      exact len_tuple pl (by simp only [List.size_toArray]; omega) ⟨.int xs.length, H, I.tok _, ⟨_, by simp only [List.size_toArray]; rw [hlen]⟩, q⟩
  | _ => exact (show False from e).elim
end
structure ObjM (h : Heap) (x dx C : Addr) (mA : Str -> Option Value) : Prop where
  obj : h.get? x = some (PySem.W.instObj C dx)
  ns : h.Ns1 dx mA
  ne : dx ≠ x
theorem lookIn_ns {h : Heap} {dx : Addr} {mA : Str -> Option Value} (n : h.Ns1 dx mA) : ∃ od, h.get? dx = some od /\ ∀ name, PySem.W.lookIn name od = some (mA name) := by
  obtain ⟨o, es, ep, ho, hd, hk, _, hm⟩ := n
  refine ⟨o, ho, fun name => ?_⟩
  have e := hm name
  unfold nsFind findBy at e
  rw [<- Array.find?_toList] at e
  unfold PySem.W.lookIn
  rw [hd]
  dsimp only
  split
  . rename_i y q
    rw [q] at e
    exact congrArg some e
  . rename_i q
    rw [q] at e
    have a : es.toList.any (·.refKey) = false := by
      rw [List.any_eq_false]
      intro y hy
      obtain ⟨z, t, hkey⟩ := hk y (Array.mem_toList_iff.mp hy)
      simp [DictEntry.refKey, hkey]
    have a' : ¬ es.toList.any (·.refKey) = true := by rw [a]; exact Bool.false_ne_true
    rw [if_neg a']
    exact congrArg some e
theorem ObjM.look {h : Heap} {x dx C : Addr} {mA : Str -> Option Value} (I : ObjM h x dx C mA) : ∃ od, PySem.W.InstAt h x (PySem.W.instObj C dx) C (some od) /\ ∀ name, PySem.W.lookIn name od = some (mA name) :=
  let ⟨od, ho, hl⟩ := lookIn_ns I.ns
  ⟨od, ⟨I.obj, rfl, rfl, ho⟩, hl⟩
section
variable {prog : Program} {w : World} {A : Around} {E : Value -> Shared -> Prop} {s : Shared} {K : PySem.W.Frag} {x dx C f : Addr} {mA : Str -> Option Value} {name : Str} {v : Value}
end
theorem RelO.some_of {v : V} {o : Option Value} (r : RelO (some v) o) : ∃ u, o = some u /\ RelV v u := by
  cases o with
  | none => exact (show False from r).elim
  | some u => exact ⟨u, rfl, r⟩
section
variable {P : Program} {w : World} {H H' : Hp} {h h' : Heap} {a C dx : Addr} {fs fs' : List (Str × V)}
theorem ins_get (hok : HOk P w H h) (e : H a = some (.ins C dx fs)) : ∃ mA, ObjM h a dx C mA /\ (∀ f, RelO (fs.lookup f) (mA f)) /\ PySem.Within mA (fs.map (·.1)) /\ fs.length <= 1000 /\ H dx = some (.own a) := by
  obtain ⟨d, z, ne, ob, mA, n, r, q⟩ := (show ObjOk P w H h a (.ins C dx fs) from hok a _ e)
  exact ⟨mA, ⟨ob, n, ne⟩, r, q, z, d⟩
end
structure Cls (K : PySem.W.Frag) (C : Addr) : Prop where
  pg : PySem.W.plainGet K C Str.empty = true
  hd : PySem.W.hasDictIn K C = true
  po : PySem.W.plainOver K C = true
  sa : PySem.W.findIn K (.ref C) "__setattr__" = some (some (.builtin "object.__setattr__"))
theorem Cls.get {K : PySem.W.Frag} {C : Addr} (c : Cls K C) (f : Str) : PySem.W.plainGet K C f = true := c.pg
structure Con (K : PySem.W.Frag) (C : Addr) (f : Str) (v : V) (u : Value) : Prop where
  at_ : PySem.W.findIn K (.ref C) f = some (some u)
  rel : RelV v u
  get : PySem.W.specialIn K u "__get__" = some none
  cp : PySem.W.copiedNames.contains f = false
structure Meth (K : PySem.W.Frag) (C : Addr) (m : Str) (f : Addr) : Prop where
  at_ : PySem.W.findIn K (.ref C) m = some (some (.ref f))
  fn : PySem.W.isFn K (.ref f) = true
  kp : PySem.W.keepIn K (.ref f) = true
section
variable {X : Cx} {pins : List (Addr × Obj)} {σ : St} {H : Hp} {s : Shared} {a C dx : Addr} {fs : List (Str × V)} {f : Str} {v : V} {A : Around} {E : Value -> Shared -> Prop}
end
section
variable {X : Cx} {o e value : Expr} {f : Str} {pos pos' tpos : Pos} {ta tv : TE}
end
section
variable {X : Cx} {pins : List (Addr × Obj)} {σ : St} {H : Hp} {s : Shared} {A : Around} {E : Value -> Shared -> Prop} {Q : Value -> Shared -> Prop} {c : Value} {b : Bool}
inductive TyOf (K : PySem.W.Frag) (H : Hp) : V -> Value -> Prop where
  | non : TyOf K H .non (.type "NoneType")
  | bl (x : Bool) : TyOf K H (.bl x) (.type "bool")
  | int (i : Int) : TyOf K H (.int i) (.type "int")
  | str (x : Str) : TyOf K H (.str x) (.type "str")
  | flt (x : UInt64) : TyOf K H (.flt x) (.type "float")
  | lst {a : Addr} {xs : List V} (e : H a = some (.lst xs)) : TyOf K H (.ref a) (.type "list")
  | frz {a : Addr} {o : Obj} {xs : List V} (e : H a = some (.frz o (.lst xs))) : TyOf K H (.ref a) (.type "list")
  | tup {a : Addr} {xs : List V} (e : H a = some (.tup xs)) : TyOf K H (.ref a) (.type "tuple")
  | dK {a : Addr} {kvs : List (Key × V)} (e : H a = some (.dK kvs)) : TyOf K H (.ref a) (.type "dict")
  | dT {a : Addr} {kvs : List (List Key × V)} (e : H a = some (.dT kvs)) : TyOf K H (.ref a) (.type "dict")
  | ins {a C dx : Addr} {fs : List (Str × V)} (e : H a = some (.ins C dx fs)) (cl : Cls K C) (ha : PySem.W.findIn K (.ref C) "__class__" = some (some (.builtin "object.__class__")))
      (hn : PySem.W.specialIn K (.builtin "object.__class__") "__get__" = some (some (.builtin "getset_descriptor.__get__"))) (htk : PySem.W.takesIn K (.builtin "object.__class__") = some true)
      (hm : PySem.W.mroIn K C (.type "object") = some true) : TyOf K H (.ref a) (.ref C)
theorem isinst_ok {x : V} {u t : Value} (I : Inv X pins σ H s) (rx : RelV x u) (ty : TyOf X.K H x t) (e : PySem.W.kitOne X.K t c = some b) (h : ∀ tk, Q (.bool b) { s with toks := tk }) :
    wpAny (model X.prog X.w) A (call (.builtin "isinstance") [u, c]) Q E s := by
  cases ty with
  | non => cases (show u = Value.none from rx); exact PySem.W.kia_one PySem.W.kitx_none I.kIn True.intro e (fun z => nomatch z) h
  | bl y => cases (show u = Value.bool y from rx); exact PySem.W.kia_one PySem.W.kitx_bool I.kIn True.intro e (fun z => nomatch z) h
  | int i => obtain ⟨t, q⟩ := (show ∃ t, u = Value.int i t from rx); cases q; exact PySem.W.kia_one PySem.W.kitx_int I.kIn True.intro e (fun z => nomatch z) h
  | str y => obtain ⟨t, q⟩ := (show ∃ t, u = Value.str y t from rx); cases q; exact PySem.W.kia_one PySem.W.kitx_str I.kIn True.intro e (fun z => nomatch z) h
  | flt y => obtain ⟨t, q⟩ := (show ∃ t, u = Value.float y t from rx); cases q; exact PySem.W.kia_one PySem.W.kitx_float I.kIn True.intro e (fun z => nomatch z) h
  | @lst a xs ea =>
    cases (show u = Value.ref a from rx)
    obtain ⟨_, _, n, _, h1⟩ := (show ObjOk X.prog X.w H s.heap a (.lst xs) from I.hok a _ ea)
    exact PySem.W.kia_one PySem.W.kitx_list I.kIn ⟨_, h1, rfl⟩ e (fun z => nomatch z) h
  | @frz a ob xs ea =>
    cases (show u = Value.ref a from rx)
    obtain ⟨_, _, _, n, _, h1⟩ := (show ObjOk X.prog X.w H s.heap a (.frz ob (.lst xs)) from I.hok a _ ea)
    exact PySem.W.kia_one PySem.W.kitx_list I.kIn ⟨_, h1, rfl⟩ e (fun z => nomatch z) h
  | @tup a xs ea =>
    cases (show u = Value.ref a from rx)
    obtain ⟨_, _, _, p⟩ := (show ObjOk X.prog X.w H s.heap a (.tup xs) from I.hok a _ ea)
    obtain ⟨o, h1, h2, _⟩ := p
    exact PySem.W.kia_one PySem.W.kitx_tuple I.kIn ⟨o, h1, h2⟩ e (fun z => nomatch z) h
  | @dK a kvs ea =>
    cases (show u = Value.ref a from rx)
    obtain ⟨_, _, vs, _, p⟩ := (show ObjOk X.prog X.w H s.heap a (.dK kvs) from I.hok a _ ea)
    obtain ⟨o, es, ep, h1, h2, _⟩ := p
    exact PySem.W.kia_one PySem.W.kitx_dict I.kIn ⟨o, h1, h2.1⟩ e (fun z => nomatch z) h
  | @dT a kvs ea =>
    cases (show u = Value.ref a from rx)
    obtain ⟨_, _, xs, _, o, es, ep, h1, h2, _⟩ := (show ObjOk X.prog X.w H s.heap a (.dT kvs) from I.hok a _ ea)
    exact PySem.W.kia_one PySem.W.kitx_dict I.kIn ⟨o, h1, h2.1⟩ e (fun z => nomatch z) h
  | @ins a C dx fs ea cl ha hn htk hm =>
    cases (show u = Value.ref a from rx)
    obtain ⟨mA, O, _⟩ := ins_get I.hok ea
    obtain ⟨od, J, _⟩ := O.look
    exact PySem.W.kia_one (PySem.W.kitx_own (cl.get _) cl.hd ha hn htk hm) I.kIn J e (fun z => nomatch z) h
end
structure Room (k : Nat) (A : Around) : Prop where
  hd : A.handled = none
  dp : A.depth + 3 * k + 5 < recursionLimit
  un : A.units + 16 * k + 200 < cLine
  gd : A.guards = some []
theorem Room.mono {j k : Nat} {A : Around} (r : Room k A) (h : j <= k) : Room j A := ⟨r.hd, by have := r.dp; omega, by have := r.un; omega, r.gd⟩
theorem Room.deeper {k : Nat} {A : Around} (r : Room (k + 1) A) (env : Env) : Room k (A.deeper env) :=
  ⟨r.hd, by have := r.dp; show A.depth + 1 + 3 * k + 5 < _; omega, by have := r.un; show A.units + 3 + 16 * k + 200 < _; omega, r.gd⟩
theorem Room.depth {k : Nat} {A : Around} (r : Room k A) : A.depth < recursionLimit := by have := r.dp; omega
def tNil : TA := fun _ H Q => Q [] H
def tCons (ta : TE) (tr : TA) : TA := fun σ H Q => ta σ H fun x H1 => tr σ H1 fun xs H2 => Q (x :: xs) H2
section
variable {X : Cx} {e : Expr} {es : List Expr} {te : TE} {t : TA} {pos : Pos}
theorem pa_nil : PA X [] tNil := fun _ _ _ _ H Q I h => Calls.spliced_nil ⟨[], H, I, .nil, h⟩
theorem pa_cons (ha : PE X e te) (hr : PA X es t) (hs : starEach (e :: es) X.env = (false, eval e X.env) :: starEach es X.env := by rfl) : PA X (e :: es) (tCons te t) := by
  intro pos pins s σ H Q I h
  rw [hs]
  show wpAny _ _ (spliced ((false, eval e X.env) :: backTo pos (starEach es X.env))) _ _ s
  refine Calls.spliced_cons (thn (ha pins s σ H _ I h) fun u s1 ⟨x, H1, I1, r1, q1⟩ => ?_)
  exact thn (hr pos pins s1 σ H1 _ I1 q1) fun us s2 ⟨xs, H2, I2, r2, q2⟩ => ⟨x :: xs, H2, I2, .cons r1 r2, q2⟩
def tTup (t : TA) : TE := fun σ H Q => t σ H fun xs H1 => xs.length <= sizeLine /\ ∀ p, H1 p = none -> Q (.ref p) (upd H1 p (.tup xs))
def tLst (t : TA) : TE := fun σ H Q => t σ H fun xs H1 => xs.length <= sizeLine /\ ∀ p, H1 p = none -> Q (.ref p) (upd H1 p (.lst xs))
theorem pe_tup {x1} (h : PA X es t) : PE X (.Tuple es x1 pos) (tTup t) := by
  intro pins s σ H Q I hq
  refine wpAny_Tuple_spliced (thn (h pos pins s σ H _ I hq) fun us s1 ⟨xs, H1, I1, r, z, q⟩ => ⟨by rw [<- r.length]; exact z, ?_⟩)
  have hf : H1 s1.heap.objs.size = none := I1.hok.fresh (Nat.le_refl _)
  refine ⟨.ref s1.heap.objs.size, upd H1 s1.heap.objs.size (.tup xs), I1.laid (t' := s1.toks) (fun b u e => Heap.get?_push_of_some _ e) (Nat.le_refl _) ?_, rfl, q _ hf⟩
  exact ⟨z, us, r, ⟨_, Heap.get?_push_size _ rfl, rfl, ⟨_, rfl⟩, rfl⟩⟩
theorem pe_lst (h : PA X es t) : PE X (.List es pos) (tLst t) := by
  intro pins s σ H Q I hq
  refine wpAny_List_spliced (thn (h pos pins s σ H _ I hq) fun us s1 ⟨xs, H1, I1, r, z, q⟩ => ⟨by rw [<- r.length]; exact z, ?_⟩)
  have hf : H1 s1.heap.objs.size = none := I1.hok.fresh (Nat.le_refl _)
  refine ⟨.ref s1.heap.objs.size, upd H1 s1.heap.objs.size (.lst xs), I1.laid (t' := s1.toks) (fun b u e => Heap.get?_push_of_some _ e) (Nat.le_refl _) ?_, rfl, q _ hf⟩
  exact ⟨z, us, 0, r, Heap.get?_push_size _ rfl⟩
end
abbrev Sp := List V -> Hp -> VK -> XK -> Prop
abbrev CXT := List Env -> Hp -> Shared -> XK -> Value -> Shared -> Prop
structure Env0 (P : Program) (w : World) (K : PySem.W.Frag) (mg : Str -> Option Value) (base : Heap) (A : Around) (outer : List Env) (s : Shared) (H : Hp) : Prop where
  frames : A.frames = some outer
  mod : Mod K mg base
  bs : ∀ b o, base.get? b = some o -> s.heap.get? b = some o /\ H b = none
  bsz : base.objs.size <= s.heap.objs.size
  funs : s.heap.FunFrames base outer
  frf : ∀ b ∈ frs outer, H b = none
  hok : HOk P w H s.heap
  bare : AllBare s.gens
def CE (outer : List Env) (P : Program) (w : World) (H : Hp) (s : Shared) (Q : VK) (u : Value) (s' : Shared) : Prop :=
  ∃ v H', s'.os = s.os /\ AllBare s'.gens /\ Un (frs outer) [] H H' s.heap s'.heap /\ HOk P w H' s'.heap /\ RelV v u /\ Q v H'
def CR (CX : CXT) (outer : List Env) (P : Program) (w : World) (H : Hp) (s : Shared) (Q : VK) (E : XK) (r : Result) (s' : Shared) : Prop :=
  match r with
  | .ok (.ret u) => CE outer P w H s Q u s'
  | .ok _ => False
  | .error e => CX outer H s E e s'
structure FnOk (P : Program) (w : World) (K : PySem.W.Frag) (mg : Str -> Option Value) (base : Heap) (CX : CXT) (k : Nat) (f : Addr) (fd : FuncData) (ps : List Str) (sp : Sp) : Prop where
  len : ∀ vs H Q E, sp vs H Q E -> vs.length = ps.length
  run : ∀ (A : Around) (outer : List Env) (s : Shared) (H : Hp) (args : Args) (us : List Value) (vs : List V) (Q : VK) (E : XK), Room k A -> Env0 P w K mg base A outer s H -> BindsTo s fd args (ps.zip us) -> Vals vs us -> sp vs H Q E ->
    codeAny (model P w) A (.call (.ref f) args) (CR CX outer P w H s Q E) s
section
variable {X : Cx} {pins : List (Addr × Obj)} {σ : St} {H : Hp} {s s' : Shared}
theorem Inv.env0 (I : Inv X pins σ H s) : Env0 X.prog X.w X.K X.mg X.base X.A X.stack s H :=
  ⟨I.ok.frames, I.ok.mod, I.bs, Nat.le_trans I.ok.bsz I.sz, I.stack, I.stkFree, I.hok, I.bare⟩
theorem Inv.after {Q : VK} {u : Value} (I : Inv X pins σ H s) (h : CE X.stack X.prog X.w H s Q u s') : EP X pins σ Q u s' := by
  obtain ⟨v, H', os, bare, un, hok, r, q⟩ := h
  obtain ⟨hh, g, d, t, os'⟩ := s'
  obtain rfl : os' = s.os := os
  exact ⟨v, H', I.call (h' := hh) (g' := g) (d' := d) (t' := t) (ch := []) un hok bare (fun b z => absurd z (by simp)), r, q⟩
end
def tCall (sp : Sp) (dvs : List V) (E : XK) (t : TA) : TE := fun σ H Q => t σ H fun vs H1 => sp (vs ++ dvs) H1 Q E
def Binds (K : PySem.W.Frag) (fd : FuncData) (ps : List Str) (ds : List Value) : Prop :=
  ∀ (s : Shared) (us : List Value), K.In s.heap -> (us ++ ds).length = ps.length -> BindsTo s fd ⟨us, []⟩ (ps.zip (us ++ ds))
theorem Binds.all {K : PySem.W.Frag} {fd : FuncData} {ps : List Str} (h : ∀ us : List Value, us.length = ps.length -> bindArgs fd ⟨us, []⟩ = pure (ps.zip us)) : Binds K fd ps [] := fun s us _ hl => by
  rw [List.append_nil] at hl ⊢
  exact .of_eq (h us hl)
def Passes (CX : CXT) (X : Cx) (E : XK) : Prop := ∀ (pins : List (Addr × Obj)) (σ : St) (H : Hp) (s : Shared) (e : Value) (s' : Shared), Inv X pins σ H s -> CX X.stack H s E e s' -> X.xe e s'
section
variable {X : Cx} {CX : CXT} {k : Nat} {f C : Addr} {fd : FuncData} {ps : List Str} {sp : Sp} {dvs : List V} {ds : List Value} {E : XK} {x m : Str} {p pos apos : Pos} {e o : Expr} {es : List Expr} {ta : TE} {t : TA}
theorem run_fn {pins : List (Addr × Obj)} {σ : St} {H : Hp} {s : Shared} {Q : VK} {us : List Value} {vs : List V} (F : FnOk X.prog X.w X.K X.mg X.base CX k f fd ps sp) (hr : Room k X.A) (hb : Binds X.K fd ps ds) (hd : Vals dvs ds) (hx : Passes CX X E)
    (I : Inv X pins σ H s) (r : Vals vs us) (h : sp (vs ++ dvs) H Q E) : wpAny (model X.prog X.w) X.A (call (.ref f) us) (EP X pins σ Q) X.xe s := by
  have r2 : Vals (vs ++ dvs) (us ++ ds) := r.append hd
  have hl : (us ++ ds).length = ps.length := by rw [<- r2.length]; exact F.len _ _ _ _ h
  refine wpAny_call (codeAny_mono (F.run X.A X.stack s H ⟨us, []⟩ (us ++ ds) (vs ++ dvs) Q E hr I.env0 (hb s us I.kIn hl) r2 h) fun r s' hq => ?_)
  cases r with
  | error e => exact hx pins σ H s e s' I hq
  | ok fl =>
    cases fl with
    | ret u => exact I.after hq
    | next => exact False.elim hq
    | brk => exact False.elim hq
    | cont => exact False.elim hq
theorem pe_call (F : FnOk X.prog X.w X.K X.mg X.base CX k f fd ps sp) (hr : Room k X.A) (hg : Gl X x) (hm : X.mg x = some (.ref f)) (hk : PySem.W.keepIn X.K (.ref f) = true) (hb : Binds X.K fd ps ds) (hd : Vals dvs ds) (hx : Passes CX X E)
    (ha : PA X (e :: es) t) (hdb : (x == ("__debug__" : Str)) = false := by decide) (he : starEach (e :: es) X.env = (false, eval e X.env) :: starEach es X.env := by rfl) (hpl : (backTo pos (starEach es X.env)).any (·.1) = false := by rfl) :
    PE X (.Call (.Name x p) (e :: es) [] pos) (tCall sp dvs E t) := by
  intro pins s σ H Q I h
  refine wpAny_Call_Name_kw (ld_glob I hg hm ?_ hdb)
  refine PySem.W.callWith_K (h₀ := X.base) I.ok.mod.kin hk (thn (ha pos pins s σ H _ I h) fun us s1 ⟨vs, H1, I1, r, q⟩ => ⟨I1.kIn, ?_⟩) he hpl
  exact run_fn F hr hb hd hx I1 r q
structure Mk (K : PySem.W.Frag) (C f : Addr) : Prop where
  makes : PySem.W.makesIn K C = true
  init : PySem.W.findIn K (.ref C) "__init__" = some (some (.ref f))
  fn : PySem.W.isFn K (.ref f) = true
  kp : PySem.W.keepIn K (.ref C) = true
end
section
variable {X : Cx} {CX : CXT} {k : Nat} {f C : Addr} {fd : FuncData} {ps ks : List Str} {sp : Sp} {E : XK} {x m : Str} {p pos apos kpos : Pos} {e o : Expr} {es : List Expr} {kws : List Keyword} {te ta : TE} {t tk : TA} {nm : Option Str}
structure KBinds (K : PySem.W.Frag) (fd : FuncData) (ps ks : List Str) (g : List Value -> List Value -> List Value) (gV : List V -> List V -> List V) : Prop where
  to : ∀ (s : Shared) (us ws : List Value), K.In s.heap -> (g us ws).length = ps.length -> BindsTo s fd ⟨us, ks.zip ws⟩ (ps.zip (g us ws))
  rel : ∀ {vs : List V} {us : List Value} {zs : List V} {ws : List Value}, Vals vs us -> Vals zs ws -> Vals (gV vs zs) (g us ws)
variable {g : List Value -> List Value -> List Value} {gV : List V -> List V -> List V}
end
structure FnScope (N P : List Str) (sc : Scope) : Prop where
  kind : sc.kind = .function
  co : sc.isCoroutine = false
  gen : sc.isGenerator = false
  nd : N.Nodup
  pre : N.take P.length = P
  par : ∀ x ∈ P, sc.names.lookup x = some .local \/ sc.names.lookup x = some .cell
  nofree : ∀ y ∈ sc.names, y.2 ≠ .free
theorem bindL_out {kindOf : Str -> Option NameKind} {x : Str} : ∀ {binds : List (Str × Value)} {m : Str -> Option Value}, (∀ v, (x, v) ∉ binds) -> bindL kindOf binds m x = m x
  | [], _, _ => rfl
  | (n, v) :: r, m, h => by
    unfold bindL
    rw [bindL_out fun w hw => h w (List.mem_cons_of_mem _ hw)]
    split
    . have : x ≠ n := by rintro rfl; exact h v List.mem_cons_self
      simp [this]
    . rfl
theorem bindC_out {kindOf : Str -> Option NameKind} {x : Str} : ∀ {binds : List (Str × Value)} {m : Str -> Option Value}, (∀ v, (x, v) ∉ binds) -> bindC kindOf binds m x = m x
  | [], _, _ => rfl
  | (n, v) :: r, m, h => by
    unfold bindC
    rw [bindC_out fun w hw => h w (List.mem_cons_of_mem _ hw)]
    split
    . rfl
    . have : x ≠ n := by rintro rfl; exact h v List.mem_cons_self
      simp [this]
theorem bindL_get {kindOf : Str -> Option NameKind} {x : Str} {v : Value} : ∀ {P : List Str} {vs : List Value} {i : Nat} {m : Str -> Option Value}, P.Nodup -> P[i]? = some x -> vs[i]? = some v -> kindOf x = some .local ->
    bindL kindOf (P.zip vs) m x = some v
  | [], _, _, _, _, h, _, _ => by simp at h
  | _ :: _, [], _, _, _, _, h, _ => by simp at h
  | p :: P, w :: vs, 0, m, nd, h1, h2, hk => by
    simp at h1 h2; subst h1; subst h2
    show bindL kindOf ((p, w) :: P.zip vs) m p = _
    unfold bindL
    rw [bindL_out fun v hv => (List.nodup_cons.mp nd).1 (List.of_mem_zip hv).1, if_pos hk]
    simp
  | p :: P, w :: vs, i + 1, m, nd, h1, h2, hk => by
    show bindL kindOf ((p, w) :: P.zip vs) m x = _
    unfold bindL
    exact bindL_get (i := i) (List.nodup_cons.mp nd).2 (by simpa using h1) (by simpa using h2) hk
theorem bindC_get {kindOf : Str -> Option NameKind} {x : Str} {v : Value} : ∀ {P : List Str} {vs : List Value} {i : Nat} {m : Str -> Option Value}, P.Nodup -> P[i]? = some x -> vs[i]? = some v -> kindOf x ≠ some .local ->
    bindC kindOf (P.zip vs) m x = some v
  | [], _, _, _, _, h, _, _ => by simp at h
  | _ :: _, [], _, _, _, _, h, _ => by simp at h
  | p :: P, w :: vs, 0, m, nd, h1, h2, hk => by
    simp at h1 h2; subst h1; subst h2
    show bindC kindOf ((p, w) :: P.zip vs) m p = _
    unfold bindC
    rw [bindC_out fun v hv => (List.nodup_cons.mp nd).1 (List.of_mem_zip hv).1, if_neg hk]
    simp
  | p :: P, w :: vs, i + 1, m, nd, h1, h2, hk => by
    show bindC kindOf ((p, w) :: P.zip vs) m x = _
    unfold bindC
    exact bindC_get (i := i) (List.nodup_cons.mp nd).2 (by simpa using h1) (by simpa using h2) hk
def start (N : List Str) (vs : List V) : St := vs.map some ++ List.replicate (N.length - vs.length) none
def cxOf (CX : CXT) (P : Program) (w : World) (K : PySem.W.Frag) (mg : Str -> Option Value) (base : Heap) (N : List Str) (qual : Str) (scope : Scope) (f : Addr) (cd : Value) (A : Around) (outer : List Env) (s : Shared) (H : Hp) (E : XK) : Cx where
  prog := P
  w := w
  K := K
  mg := mg
  base := base
  A := A.deeper (envOfC qual scope s.heap.objs.size f cd)
  N := N
  s₀ := s
  H₀ := H
  env := envOfC qual scope s.heap.objs.size f cd
  outer := outer
  stack := envOfC qual scope s.heap.objs.size f cd :: outer
  ex := []
  calm := true
  fn := fun _ => true
  pn := []
  xe := fun e s' => wpAny (model P w) (A.deeper (envOfC qual scope s.heap.objs.size f cd)) (leaving (envOfC qual scope s.heap.objs.size f cd) e) (fun _ s'' => CX outer H s E e s'') (fun e' s'' => CX outer H s E e' s'') s'
theorem cell_has {sc : Scope} {n : Nat} {x : Str} (h : sc.names.lookup x = some .cell) : ∃ c, (cellsFrom n sc.names []).lookup x = some c := by
  have q := PySem.W.cellsFrom_some sc.names n [] (.inl h)
  exact Option.isSome_iff_exists.mp q
theorem inv_start {CX : CXT} {P : Program} {w : World} {K : PySem.W.Frag} {mg : Str -> Option Value} {base : Heap} {N ps : List Str} {qual : Str} {scope : Scope} {f : Addr} {cd : Value} {A : Around} {outer : List Env} {s s1 : Shared} {H : Hp} {E : XK} {us : List Value} {vs : List V}
    (S : FnScope N ps scope) (hd : A.handled = none) (e0 : Env0 P w K mg base A outer s H) (hl : vs.length = ps.length) (r : Vals vs us)
    (x : InCallC s s.heap.objs.size (bindL (envOfC qual scope s.heap.objs.size f cd).kindOf (ps.zip us) fun _ => none) (cellsFrom (s.heap.objs.size + 1) scope.names []) (bindC (envOfC qual scope s.heap.objs.size f cd).kindOf (ps.zip us) fun _ => none) s1) :
    Inv (cxOf CX P w K mg base N qual scope f cd A outer s H E) [] (start N vs) H s1 := by
  have hpl : ps.length <= N.length := by have := congrArg List.length S.pre; rw [List.length_take] at this; omega
  obtain ⟨h1, tk, rfl, hk⟩ := x.done
  have noA : ∀ b : Addr, b ∉ (cxOf CX P w K mg base N qual scope f cd A outer s H E).ex := fun b z => absurd (show b ∈ ([] : List Addr) from z) (by simp)
  refine ⟨⟨e0.mod, S.kind, rfl, rfl, Nat.le_refl _, fun y z c h1 h2 => ?_, fun y hy => ?_, fun y c _ h => ?_, fun _ => hd, Around.frames_deeper e0.frames, .inr ⟨rfl, rfl⟩, fun b z => absurd z (noA b), e0.bs, e0.bsz, fun b _ _ => noA b, fun b z => absurd z (noA b), e0.funs, e0.frf⟩,
    rfl, e0.bare, Un.kept hk, ⟨_, x.toInCall.ns, fun i y v h1 h2 h3 => ?_⟩, fun y c h => ⟨_, x.cell y c h⟩, e0.hok.fresh (Nat.le_refl _), fun y c h => ?_, fun p hp => absurd (show p ∈ ([] : List (Addr × Obj)) from hp) (by simp), e0.hok.kept hk, ?_⟩
  . exact name_of_addr x.apart (PySem.mem_of_lookup h1) (PySem.mem_of_lookup h2)
  . have hy : scope.names.lookup y = some .cell \/ scope.names.lookup y = some .free := hy
    rcases hy with hy | hy
    . exact cell_has hy
    . exact absurd rfl (S.nofree _ (PySem.mem_of_lookup hy))
  . exact Nat.le_of_lt (x.above y c (PySem.mem_of_lookup h))
  . have hi : i < vs.length := by
      unfold start at h2
      by_cases hi : i < vs.length
      . exact hi
      . rw [List.getElem?_append_right (by simpa using hi)] at h2
        rw [List.getElem?_replicate] at h2
        split at h2 <;> cases h2
    have ha : vs[i]? = some v := by
      unfold start at h2
      rw [List.getElem?_append_left (by simpa using hi), List.getElem?_map] at h2
      cases e : vs[i]? with
      | none => rw [e] at h2; cases h2
      | some a => rw [e] at h2; cases h2; rfl
    obtain ⟨u, hu, rv⟩ := r.get ha
    have hp : ps[i]? = some y := by
      rw [<- S.pre, List.getElem?_take_of_lt (by omega)]; exact h1
    have ndP : ps.Nodup := by rw [<- S.pre]; exact S.nd.sublist (List.take_sublist _ _)
    refine ⟨u, rv, ?_⟩
    rcases S.par y (List.mem_of_getElem? hp) with k | k
    . exact .inl ⟨k, bindL_get ndP hp hu k⟩
    . obtain ⟨c, e⟩ := cell_has (n := s.heap.objs.size + 1) k
      refine .inr ⟨.inl k, c, e, ?_⟩
      have q := x.cell y c e
      rw [bindC_get ndP hp hu (by show scope.names.lookup y ≠ _; rw [k]; decide)] at q
      exact q
  . exact e0.hok.fresh (Nat.le_of_lt (x.above y c (PySem.mem_of_lookup h)))
  . unfold start
    show _ = N.length
    rw [List.length_append, List.length_map, List.length_replicate]
    omega
theorem fn_of {CX : CXT} {P : Program} {w : World} {K : PySem.W.Frag} {mg : Str -> Option Value} {base : Heap} {k : Nat} {f : Addr} {name qual : Str} {params : Arguments} {body : List Stmt} {scope : Scope} {dV kV doc pm cdv ct oc : Value} {an od : Option Addr}
    {osl : Array (Option Value)} {N ps : List Str} {sp : Sp} (lk : K.lookup f = some ⟨oc, od, .func (PySem.W.fnOf name qual params body scope dV kV doc pm an cdv ct), osl⟩) (hcd : PySem.W.codeIn K cdv qual = true) (S : FnScope N ps scope)
    (len : ∀ vs H Q E, sp vs H Q E -> vs.length = ps.length)
    (hbody : ∀ (A : Around) (outer : List Env) (s : Shared) (H : Hp) (vs : List V) (Q : VK) (E : XK), Room k (A.deeper (envOfC qual scope s.heap.objs.size f cdv)) -> sp vs H Q E ->
      ∃ t, PSs (cxOf CX P w K mg base N qual scope f cdv A outer s H E) body t /\ t { nx := fun _ H' => Q .non H', rt := Q } (start N vs) H) :
    FnOk P w K mg base CX (k + 1) f (PySem.W.fnOf name qual params body scope dV kV doc pm an cdv ct) ps sp := by
  refine ⟨len, fun A outer s H args us vs Q E hr e0 hb r hsp => ?_⟩
  have hl := len _ _ _ _ hsp
  have KX : K.In s.heap := e0.mod.kin.keeps fun b o e => (e0.bs b o e).1
  have lim : s.heap.NoLimit := e0.mod.nolimit.keeps fun b o e => (e0.bs b o e).1
  have hkind : ∀ y ∈ ps.zip us, scope.names.lookup y.1 = some .local \/ (scope.names.lookup y.1 = some .cell /\ ((cellsFrom (s.heap.objs.size + 1) scope.names []).lookup y.1).isSome = true) := fun ⟨n, v⟩ hy => by
    rcases S.par n (List.of_mem_zip hy).1 with q | q
    . exact .inl q
    . exact .inr ⟨q, PySem.W.cellsFrom_some _ _ _ (.inl q)⟩
  refine codeAny_call_function hr.depth (KX _ _ lk) rfl S.co S.gen rfl (PySem.W.codeRec_of KX hcd) (hb _ _ _ _ ?_)
  refine wpAny_newFunctionEnv_cells S.kind hkind fun env he s1 x => ?_
  subst he
  refine ⟨lim.keeps x.toInCall.keep, codeAny_func ?_⟩
  obtain ⟨t, ht, hq⟩ := hbody A outer s H vs Q E (hr.deeper _) hsp
  have I : Inv (cxOf CX P w K mg base N qual scope f cdv A outer s H E) [] (start N vs) H s1 := inv_start S hr.hd e0 hl r x
  refine wpAny_mono (ht [] s1 (start N vs) H _ I hq) (fun fl s' hs => ?_) fun e s' hs => hs
  have fin : ∀ {σ' : St} {H' : Hp} {v : V} {u : Value}, Inv (cxOf CX P w K mg base N qual scope f cdv A outer s H E) [] σ' H' s' -> RelV v u -> Q v H' -> CE outer P w H s Q u s' :=
    fun {σ' H' v u} J rv q => ⟨v, H', J.os, J.bare, J.base, J.hok, rv, q⟩
  cases fl with
  | ret u =>
    obtain ⟨v, σ', H', J, rv, q⟩ := hs
    exact fin J rv q
  | next =>
    obtain ⟨σ', H', J, q⟩ := hs
    exact fin (v := V.non) (u := Value.none) J rfl q
  | brk =>
    obtain ⟨_, _, _, q⟩ := hs
    exact False.elim q
  | cont =>
    obtain ⟨_, _, _, q⟩ := hs
    exact False.elim q
section
variable {X : Cx} {x : Str} {p pos : Pos} {e : Expr} {es : List Expr} {t : TA} {id T : String} {r : List V -> Hp -> VK -> Prop}
def tCB (r : List V -> Hp -> VK -> Prop) (t : TA) : TE := fun σ H Q => t σ H fun vs H1 => r vs H1 Q
theorem pe_callB (hc : CallR X (.builtin id) r) (hg : Gl X x) (hm : X.mg x = none) (hv : bootBuiltins x = some (.builtin id)) (ha : PA X (e :: es) t) (hn : x ≠ "__name__" := by decide) (hdb : (x == ("__debug__" : Str)) = false := by decide)
    (he : starEach (e :: es) X.env = (false, eval e X.env) :: starEach es X.env := by rfl) (hpl : (backTo pos (starEach es X.env)).any (·.1) = false := by rfl) : PE X (.Call (.Name x p) (e :: es) [] pos) (tCB r t) := by
  intro pins s σ H Q I h
  refine wpAny_Call_Name_kw (ld_blt I hg hm hv ?_ hn hdb)
  exact PyProof.Rows.callWith_builtin1 (thn (ha pos pins s σ H _ I h) fun us s1 ⟨vs, H1, I1, r1, q1⟩ => hc pins s1 σ H1 vs us Q I1 r1 q1) he hpl
theorem pe_callTy (hc : CallR X (.type T) r) (hg : Gl X x) (hm : X.mg x = none) (hv : bootBuiltins x = some (.type T)) (ha : PA X (e :: es) t) (hn : x ≠ "__name__" := by decide) (hdb : (x == ("__debug__" : Str)) = false := by decide)
    (he : starEach (e :: es) X.env = (false, eval e X.env) :: starEach es X.env := by rfl) (hpl : (backTo pos (starEach es X.env)).any (·.1) = false := by rfl) : PE X (.Call (.Name x p) (e :: es) [] pos) (tCB r t) := by
  intro pins s σ H Q I h
  refine wpAny_Call_Name_kw (ld_blt I hg hm hv ?_ hn hdb)
  exact PyProof.Rows.callWith_type1 (thn (ha pos pins s σ H _ I h) fun us s1 ⟨vs, H1, I1, r1, q1⟩ => hc pins s1 σ H1 vs us Q I1 r1 q1) he hpl
end
end L2
namespace HT
open PySem PyProof.Rows
section
open PySem.SeqAt
open PySem.AutoSeq1 (wpAny_loadPart')
open PySem.MeetsSeq PySem.MeetsSeq2 PySem.MeetsSeq3
end
section
variable {prog : Program} {w : World} {A : Around} {E : Value -> Shared -> Prop} {s : Shared}
theorem cat_tup {t b : Addr} {vs ws : List Value} {Q : Value -> Shared -> Prop} (ht : IsTup s.heap t vs.toArray) (hb : IsTup s.heap b ws.toArray) (hv : vs ≠ [])
    (h1 : ws = [] -> Q (.ref t) s) (h2 : ws ≠ [] -> Q (.ref s.heap.objs.size) { s with heap := s.heap.push { cls := .type "tuple", data := .seq (vs ++ ws).toArray } })
    (hsz : vs.length + ws.length <= sizeLine) : wpAny (model prog w) A (binaryOp .Add (.ref t) (.ref b)) Q E s := by
  obtain ⟨⟨cls, dd, data, sl⟩, ho, hc, n, hd⟩ := id ht
  obtain ⟨⟨cls2, dd2, data2, sl2⟩, ho2, hc2, n2, hd2⟩ := id hb
  simp only at hc hd hc2 hd2
  subst hc hd hc2 hd2
  have e : vs.toArray ++ ws.toArray = (vs ++ ws).toArray := by simp
  by_cases hw : ws = []
  . exact concat_meets ⟨_, ho, rfl⟩ ⟨_, ho2, rfl⟩ noFill_tuple_add seq_tuple_add PySem.F.slot_tuple_add PySem.F.entry_tuple_add (PySem.F.args_tuple_add_2 _ _)
      (tuple_addW1 t b vs.toArray ws.toArray n n2 dd dd2 sl sl2 (by simpa using hv) (by simp [hw])) ⟨ho, ho2, h1 hw⟩
  . refine concat_meets ⟨_, ho, rfl⟩ ⟨_, ho2, rfl⟩ noFill_tuple_add seq_tuple_add PySem.F.slot_tuple_add PySem.F.entry_tuple_add (PySem.F.args_tuple_add_2 _ _)
      (tuple_addW2 t b vs.toArray ws.toArray n n2 dd dd2 sl sl2 (by simpa using hv) (by simpa using hw) (by rw [List.size_toArray, List.size_toArray]; exact hsz)) ⟨ho, ho2, ?_⟩
    rw [e]
    exact h2 hw
def sIx (n d : Nat) : Option Int -> Nat
  | none => d
  | some v => if v < 0 then (v + (n : Int)).toNat else min v.toNat n
theorem sIx_le (n d : Nat) (hd : d <= n) (o : Option Int) : sIx n d o <= n := by
  cases o with
  | none => exact hd
  | some v =>
    show (if v < 0 then (v + (n : Int)).toNat else min v.toNat n) <= n
    by_cases hv : v < 0
    . rw [if_pos hv]; omega
    . rw [if_neg hv]; exact Nat.min_le_right _ _
theorem clip_eq (v : Int) (n d : Nat) : (if v < 0 then max (v + (n : Int)) 0 else min v (n : Int)) = ((sIx n d (some v) : Nat) : Int) := by
  show (if v < 0 then max (v + (n : Int)) 0 else min v (n : Int)) = (((if v < 0 then (v + (n : Int)).toNat else min v.toNat n) : Nat) : Int)
  by_cases hv : v < 0
  . simp only [if_pos hv]; omega
  . simp only [if_neg hv]; omega
theorem adjust_gen (lo hi : Option Int) (n : Nat) : Builtin.Slice.sliceAdjust lo hi 1 (n : Int) = (((sIx n 0 lo : Nat) : Int), ((sIx n n hi : Nat) : Int)) := by
  have h1 : ¬ ((1 : Int) < 0) := by omega
  unfold Builtin.Slice.sliceAdjust
  simp only [h1, if_false]
  refine Prod.ext ?_ ?_
  . cases lo with
    | none => rfl
    | some v => exact clip_eq v n 0
  . cases hi with
    | none => rfl
    | some v => exact clip_eq v n n
theorem places_gen (i j : Nat) : Builtin.Slice.slicePlaces (i : Int) (j : Int) 1 = j - i := by
  unfold Builtin.Slice.slicePlaces
  have h1 : (1 : Int) > 0 := by omega
  simp only [h1, if_true, Int.ediv_one]
  split <;> omega
theorem slicePart_ {v : Value} {o : Option Int} {Q : Option Int -> Shared -> Prop} (p : IsPart v o) (h : Q o s) : wpAny (model prog w) A (Builtin.Slice.slicePartIndex v) Q E s := by
  cases p with
  | none => exact slicePart_none h
  | int i t => exact slicePart_int h
theorem sliceApplied_gen {sl : Addr} {vl vu : Value} {lo hi : Option Int} {n : Nat} {Q : Int × Int × Nat -> Shared -> Prop} (hs : s.heap.IsSliceOf sl vl vu .none) (pl : IsPart vl lo) (pu : IsPart vu hi)
    (h : Q (((sIx n 0 lo : Nat) : Int), 1, sIx n n hi - sIx n 0 lo) s) : wpAny (model prog w) A (Builtin.Slice.sliceApplied (.ref sl) (pure (n : Int))) Q E s := by
  obtain ⟨os, hos, hcs, hds⟩ := id hs
  unfold Builtin.Slice.sliceApplied Builtin.Slice.sliceFields
  refine wpAny_bind (wpAny_bind (wpAny_field hos hds (x := vl) rfl (wpAny_bind (wpAny_field hos hds (x := vu) rfl (wpAny_bind (wpAny_field hos hds (x := .none) rfl (wpAny_pure ?_)))))))
  refine wpAny_bind (slicePart_none ?_)
  show wpAny _ _ (if ((1 : Int) == 0) = true then _ else _) _ _ s
  rw [if_neg (by decide)]
  refine wpAny_bind (slicePart_ pl (wpAny_bind (slicePart_ pu (wpAny_bind (wpAny_pure ?_)))))
  show wpAny _ _ (match Builtin.Slice.sliceAdjust lo hi 1 (n : Int) with | (lo, hi) => pure (lo, (1 : Int), Builtin.Slice.slicePlaces lo hi 1)) _ _ s
  rw [adjust_gen lo hi n]
  show wpAny _ _ (pure (((sIx n 0 lo : Nat) : Int), (1 : Int), Builtin.Slice.slicePlaces ((sIx n 0 lo : Nat) : Int) ((sIx n n hi : Nat) : Int) 1)) _ _ s
  rw [places_gen]
  exact wpAny_pure h
theorem pick_gen (xs : Array Value) (i k : Nat) : ((List.range k).filterMap fun (m : Nat) => xs[((i : Int) + (m : Int) * 1).toNat]?).toArray = ((xs.toList.drop i).take k).toArray := by
  have e : (fun (m : Nat) => xs[((i : Int) + (m : Int) * 1).toNat]?) = fun m => xs[i + m]? := by
    funext m
    have : ((i : Int) + (m : Int) * 1).toNat = i + m := by omega
    rw [this]
  rw [e]
  have := pick_run xs i k
  rw [List.filterMap_map] at this
  have e2 : ((fun x => xs[x]?) ∘ fun x => i + x) = fun m => xs[i + m]? := rfl
  rw [e2] at this
  rw [this]
theorem getItem_tuple_cut {t sl : Addr} {items : Array Value} {vl vu : Value} {lo hi : Option Int} {Q : Value -> Shared -> Prop} (ht : IsTup s.heap t items) (hs : s.heap.IsSliceOf sl vl vu .none) (pl : IsPart vl lo) (pu : IsPart vu hi)
    (hw : ¬ (sIx items.size 0 lo = 0 /\ sIx items.size items.size hi = items.size))
    (h : Q (.ref s.heap.objs.size) { s with heap := s.heap.push { cls := .type "tuple", data := .seq ((items.toList.drop (sIx items.size 0 lo)).take (sIx items.size items.size hi - sIx items.size 0 lo)).toArray } })
    (hsz : items.size <= sizeLine) : wpAny (model prog w) A (getItem (.ref t) (.ref sl)) Q E s := by
  have htake : sizeOk (.seq ((items.toList.drop (sIx items.size 0 lo)).take (sIx items.size items.size hi - sIx items.size 0 lo)).toArray) := by
    show ((items.toList.drop (sIx items.size 0 lo)).take (sIx items.size items.size hi - sIx items.size 0 lo)).toArray.size <= sizeLine
    rw [List.size_toArray, List.length_take, List.length_drop, Array.length_toList]
    omega
  have hj : sIx items.size items.size hi <= items.size := sIx_le _ _ (Nat.le_refl _) hi
  obtain ⟨os, hos, hcs, hds⟩ := id hs
  have hTs : s.TypeIs (.ref sl) "slice" := ⟨os, hos, hcs⟩
  unfold getItem
  try with_reducible refine wpAny_holding ?_
  first | refine wpAny_bind (wpAny_pure ?_) | skip
  refine wpAny_bind (wpAny_sequenceKey ht.typeIs (by decide) ?_)
  refine wpAny_bind (wpAny_callSpecial?_slot (name := Str.ofString "__getitem__") ht.typeIs PyProof.Rows.slot_tuple_getitem
    (wpAny_call_entry PyProof.Rows.slot_tuple_getitem ht.typeIs entry_tuple_getitem ?_ (args_tuple_getitem _ _)))
  show wpAny _ _ (Builtin.Tuple.tupleItemsOf (.ref t) >>= _) _ _ s
  refine wpAny_bind (tupleItemsOf_ ht ?_)
  refine wpAny_bind (wpAny_typeOf hTs ?_)
  rw [if_pos (by decide)]
  refine wpAny_bind (sliceApplied_gen hs pl pu ?_)
  have hno : ¬ ((((sIx items.size 0 lo : Nat) : Int) == 0 && (1 : Int) == 1 && (sIx items.size items.size hi - sIx items.size 0 lo) == items.size) = true) := by
    intro q
    rw [Bool.and_eq_true, Bool.and_eq_true] at q
    have q1 : ((sIx items.size 0 lo : Nat) : Int) = 0 := eq_of_beq q.1.1
    have q2 : sIx items.size items.size hi - sIx items.size 0 lo = items.size := eq_of_beq q.2
    exact hw ⟨by omega, by omega⟩
  show wpAny _ _ (if (((sIx items.size 0 lo : Nat) : Int) == 0 && (1 : Int) == 1 && (sIx items.size items.size hi - sIx items.size 0 lo) == items.size) = true then _ else _) _ _ s
  rw [if_neg hno, pick_gen]
  first
    | exact wpAny_bind (m := Builtin.Tuple.tupleExact _) (wpAny_newObj_type (wpAny_pure ⟨_, rfl, wpAny_pure h⟩) htake)
    | exact wpAny_bind (m := Builtin.Tuple.tupleExact _) (wpAny_newObj_type (wpAny_bind (wpAny_pure (wpAny_pure ⟨_, rfl, wpAny_pure h⟩))) htake)
    | exact wpAny_bind (wpAny_bind (m := Builtin.Tuple.tupleExact _) (wpAny_newObj_type (wpAny_pure (wpAny_pure ⟨_, rfl, wpAny_pure h⟩)) htake))
    | exact wpAny_bind (wpAny_bind (m := Builtin.Tuple.tupleExact _) (wpAny_newObj_type (wpAny_pure ⟨_, rfl, wpAny_pure h⟩) htake))
end
end HT
namespace L2
open PySem PySem.Spec PyProof.Rows
abbrev TO := St -> Hp -> (Option Int -> Hp -> Prop) -> Prop
def PO (X : Cx) (e : Option Expr) (t : TO) : Prop :=
  ∀ (pins : List (Addr × Obj)) (s : Shared) (σ : St) (H : Hp) (Q : Option Int -> Hp -> Prop), Inv X pins σ H s -> t σ H Q ->
    wpAny (model X.prog X.w) X.A (evalPart e X.env) (fun u s' => ∃ o H', Inv X pins σ H' s' /\ IsPart u o /\ Q o H') X.xe s
def tNoPart : TO := fun _ H Q => Q none H
def tPart (t : TE) : TO := fun σ H Q => t σ H fun x H1 => ∃ i, x = .int i /\ Q (some i) H1
theorem intsAre_of {ns : List Int} : ∀ {us : List Value}, Vals (ns.map V.int) us -> IntsAre us ns := by
  induction ns with
  | nil => intro us r; rw [List.map_nil] at r; cases r; exact .nil
  | cons n ns ih =>
    intro us r
    rw [List.map_cons] at r
    cases r with
    | cons r1 r2 =>
      obtain ⟨t, e⟩ := r1
      subst e
      exact .cons n t (ih r2)
section
variable {X : Cx} {e : Expr} {te : TE} {lo hi : Option Expr} {tl th : TO} {pos p2 : Pos}
theorem po_none : PO X none tNoPart := by
  intro pins s σ H Q I h
  rw [evalPart_none]
  exact wpAny_pure ⟨none, H, I, .none, h⟩
theorem po_some (h : PE X e te) : PO X (some e) (tPart te) := by
  intro pins s σ H Q I hw
  rw [evalPart_some]
  refine thn (h pins s σ H _ I hw) fun u s1 ⟨x, H1, I1, r1, q1⟩ => ?_
  obtain ⟨i, rfl, q⟩ := q1
  obtain ⟨t, rfl⟩ := r1
  exact ⟨some i, H1, I1, .int i t, q⟩
def SlR (X : Cx) (r : V -> Option Int -> Option Int -> Hp -> VK -> Prop) : Prop :=
  ∀ (pins : List (Addr × Obj)) (s : Shared) (σ : St) (H : Hp) (x : V) (v vl vu : Value) (lo hi : Option Int) (sl : Addr) (Q : VK), Inv X pins σ H s -> RelV x v -> s.heap.IsSliceOf sl vl vu .none -> IsPart vl lo -> IsPart vu hi -> r x lo hi H Q ->
    ∃ T id, typeLookup (.type T) "__getitem__" = pure (some (.builtin id)) /\ s.TypeIs v T /\ wpAny (model X.prog X.w) X.A (getItem v (.ref sl)) (EP X pins σ Q) X.xe s
def tSl (r : V -> Option Int -> Option Int -> Hp -> VK -> Prop) (te : TE) (tl th : TO) : TE := fun σ H Q => te σ H fun x H1 => tl σ H1 fun l H2 => th σ H2 fun u H3 => r x l u H3 Q
theorem pe_slice {r : V -> Option Int -> Option Int -> Hp -> VK -> Prop} (hr : SlR X r) (he : PE X e te) (hl : PO X lo tl) (hu : PO X hi th) : PE X (.Subscript e (.Slice lo hi none p2) pos) (tSl r te tl th) := by
  intro pins s σ H Q I h
  refine Subscript_ (thn (he pins s σ H _ I h) fun v s1 ⟨x, H1, I1, r1, q1⟩ => ?_)
  refine wpAny_Slice (thn (hl pins s1 σ H1 _ I1 q1) fun vl s2 ⟨l, H2, I2, pl, q2⟩ => thn (hu pins s2 σ H2 _ I2 q2) fun vu s3 ⟨u, H3, I3, pu, q3⟩ => ?_)
  rw [evalPart_none]
  refine wpAny_pure ?_
  have I4 : Inv X pins σ H3 { s3 with heap := s3.heap.push { cls := .type "slice", data := .fields #[vl, vu, .none] } } := I3.kept (t' := s3.toks) fun b ob q => Heap.get?_push_of_some _ q
  obtain ⟨T, id, hT, ht, hg⟩ := hr pins { s3 with heap := s3.heap.push { cls := .type "slice", data := .fields #[vl, vu, .none] } } σ H3 x v vl vu l u s3.heap.objs.size Q I4 r1 (Heap.IsSliceOf.new ..) pl pu q3
  show wpAny (model X.prog X.w) X.A (subscriptTail e (.Slice lo hi none p2) v (.ref s3.heap.objs.size)) (EP X pins σ Q) X.xe { s3 with heap := s3.heap.push { cls := .type "slice", data := .fields #[vl, vu, .none] } }
  exact tail_any (ops := [.ref s3.heap.objs.size, v]) ht hT hg (by with_unfolding_all rfl)
def cutV (xs : List V) (lo hi : Option Int) : List V := (xs.drop (HT.sIx xs.length 0 lo)).take (HT.sIx xs.length xs.length hi - HT.sIx xs.length 0 lo)
theorem cutV_length (xs : List V) (lo hi : Option Int) : (cutV xs lo hi).length <= xs.length := by
  unfold cutV
  rw [List.length_take, List.length_drop]
  omega
def rSlT (K : PySem.W.Frag) : V -> Option Int -> Option Int -> Hp -> VK -> Prop := fun x lo hi H Q => ∃ a xs, x = .ref a /\ SqT K H a xs /\
  ¬ (HT.sIx xs.length 0 lo = 0 /\ HT.sIx xs.length xs.length hi = xs.length) /\ ∀ p, H p = none -> Q (.ref p) (upd H p (.tup (cutV xs lo hi)))
theorem sl_tup : SlR X (rSlT X.K) := by
  intro pins s σ H x v vl vu lo hi sl Q I rx hs pl pu h
  obtain ⟨a, xs, rfl, hx, hw, q⟩ := h
  cases rx
  obtain ⟨its, r, ht, hz⟩ := I.tuple hx
  have hlen : its.toArray.size = xs.length := by rw [List.size_toArray]; exact r.length.symm
  refine ⟨"tuple", _, PyProof.Rows.slot_tuple_getitem.lookup, ht.typeIs, ?_⟩
  refine HT.getItem_tuple_cut ht hs pl pu (by rw [hlen]; exact hw) ?_ (by rw [hlen]; exact hz)
  rw [hlen]
  refine ⟨.ref s.heap.objs.size, _, I.laid (t' := s.toks) (o := .tup (cutV xs lo hi)) (fun b ob q => Heap.get?_push_of_some _ q) (Nat.le_refl _) ?_, rfl, q _ (I.hok.fresh (Nat.le_refl _))⟩
  exact ⟨Nat.le_trans (cutV_length xs lo hi) hz, _, (r.drop (HT.sIx xs.length 0 lo)).take (HT.sIx xs.length xs.length hi - HT.sIx xs.length 0 lo), IsTupN.new _ _⟩
def rCatT (K : PySem.W.Frag) : R2 := fun x y H Q => ∃ a b xs ys, x = .ref a /\ y = .ref b /\ SqT K H a xs /\ SqT K H b ys /\ xs ≠ [] /\ xs.length + ys.length <= sizeLine /\
  (ys = [] -> Q (.ref a) H) /\ (ys ≠ [] -> ∀ p, H p = none -> Q (.ref p) (upd H p (.tup (xs ++ ys))))
theorem Vals.nil_iff {xs : List V} {us : List Value} (r : Vals xs us) : us = [] ↔ xs = [] := by
  cases r with
  | nil => simp
  | cons _ _ => simp
theorem op_catT : OpR X (binaryOp .Add) (rCatT X.K) := by
  intro pins s σ H x y v u Q I rx ry h
  obtain ⟨a, b, xs, ys, rfl, rfl, ha, hb, hx, hz, q1, q2⟩ := h
  cases rx
  cases ry
  obtain ⟨its, r1, p1, _⟩ := I.tuple ha
  obtain ⟨its2, r2, p2, _⟩ := I.tuple hb
  refine HT.cat_tup p1 p2 (fun z => hx (r1.nil_iff.mp z)) (fun z => ⟨.ref a, H, I, rfl, q1 (r2.nil_iff.mp z)⟩) (fun z => ?_) (by rw [<- r1.length, <- r2.length]; exact hz)
  refine ⟨.ref s.heap.objs.size, _, I.laid (t' := s.toks) (o := .tup (xs ++ ys)) (fun b ob q => Heap.get?_push_of_some _ q) (Nat.le_refl _) ?_, rfl, q2 (fun w => z (r2.nil_iff.mpr w)) _ (I.hok.fresh (Nat.le_refl _))⟩
  exact ⟨by rw [List.length_append]; exact hz, _, r1.append r2, IsTupN.new _ _⟩
end
def ixN (n : Nat) (i : Int) : Option Nat := if 0 <= i then (if i < n then some i.toNat else none) else if -(n : Int) <= i then some (i + n).toNat else none
def atI {α : Type} (xs : List α) (i : Int) : Option α := (ixN xs.length i).bind fun j => xs[j]?
theorem ixN_seq {n : Nat} {i : Int} {j : Nat} (h : ixN n i = some j) : seqIndex? i n = some j /\ j < n /\ -(n : Int) <= i /\ i < n := by
  unfold ixN at h
  by_cases h0 : 0 <= i
  . rw [if_pos h0] at h
    by_cases h1 : i < n
    . rw [if_pos h1] at h
      have e : i.toNat = j := Option.some.inj h
      exact ⟨by rw [seqIndex_of h0 h1, e], by omega, by omega, h1⟩
    . rw [if_neg h1] at h; cases h
  . rw [if_neg h0] at h
    by_cases h1 : -(n : Int) <= i
    . rw [if_pos h1] at h
      have e : (i + n).toNat = j := Option.some.inj h
      exact ⟨by rw [seqIndex_neg (by omega) h1, e], by omega, h1, by omega⟩
    . rw [if_neg h1] at h; cases h
theorem atI_get {α : Type} {xs : List α} {i : Int} {v : α} (h : atI xs i = some v) : ∃ j, seqIndex? i xs.length = some j /\ xs[j]? = some v /\ j < xs.length /\ -(xs.length : Int) <= i /\ i < xs.length := by
  unfold atI at h
  cases e : ixN xs.length i with
  | none => rw [e] at h; cases h
  | some j =>
    rw [e] at h
    obtain ⟨h1, h2, h3, h4⟩ := ixN_seq e
    exact ⟨j, h1, h, h2, h3, h4⟩
def PlainIx (b : Expr) : Prop := ∀ o i, subscripted b false o i = operate [o, i] (getItem o i)
def IxR (X : Cx) (r : R2) : Prop :=
  ∀ (value slice : Expr) (pins : List (Addr × Obj)) (s : Shared) (σ : St) (H : Hp) (x y : V) (v u : Value) (Q : VK), Inv X pins σ H s -> RelV x v -> RelV y u -> r x y H Q ->
    subscripted slice false v u = operate [v, u] (getItem v u) -> wpAny (model X.prog X.w) X.A (subscriptTail value slice v u) (EP X pins σ Q) X.xe s
def MtR (X : Cx) (id : String) (r : V -> List V -> Hp -> VK -> Prop) : Prop :=
  ∀ (pins : List (Addr × Obj)) (s : Shared) (σ : St) (H : Hp) (x : V) (xs : List V) (v : Value) (us : List Value) (Q : VK), Inv X pins σ H s -> RelV x v -> Vals xs us -> r x xs H Q ->
    wpAny (model X.prog X.w) X.A (call (.builtin id) (v :: us)) (EP X pins σ Q) X.xe s
section
variable {X : Cx} {a b : Expr} {ta tb : TE} {pos : Pos}
theorem IxR.or {r r' : R2} (h : IxR X r) (h' : IxR X r') : IxR X (fun x y H Q => r x y H Q \/ r' x y H Q) := by
  intro value slice pins s σ H x y v u Q I rx ry q hs
  rcases q with q | q
  . exact h value slice pins s σ H x y v u Q I rx ry q hs
  . exact h' value slice pins s σ H x y v u Q I rx ry q hs
theorem pe_ix {r : R2} (hr : IxR X r) (ha : PE X a ta) (hb : PE X b tb) (hs : PlainIx b) : PE X (.Subscript a b pos) (tOp r ta tb) := by
  intro pins s σ H Q I h
  exact Subscript_ (binT ha hb I h fun v u s2 x y H2 I2 rx ry q => hr a b pins s2 σ H2 x y v u Q I2 rx ry q (hs _ _))
def rIxL (K : PySem.W.Frag) : R2 := fun x y H Q => ∃ p xs i v, x = .ref p /\ y = .int i /\ SqL K H p xs /\ atI xs i = some v /\ Q v H
def rIxT (K : PySem.W.Frag) : R2 := fun x y H Q => ∃ p xs i v, x = .ref p /\ y = .int i /\ SqT K H p xs /\ atI xs i = some v /\ Q v H
def rIxS : R2 := fun x y H Q => ∃ z i c, x = .str z /\ y = .int i /\ z.length <= sizeLine /\ atI z.cps.toList i = some c /\ Q (.str ⟨#[c]⟩) H
theorem ix_list : IxR X (rIxL X.K) := by
  intro value slice pins s σ H x y v u Q I rx ry h hs
  obtain ⟨p, xs, i, z, rfl, rfl, hq, he, q⟩ := h
  cases rx
  obtain ⟨t, rfl⟩ := ry
  obtain ⟨its, r, pl, hz⟩ := I.list hq
  obtain ⟨j, h1, h2, h3, h4, h5⟩ := atI_get he
  obtain ⟨w, ew, rw'⟩ := r.get h2
  have hl := r.length
  have hn := line63
  have fin : EP X pins σ Q w s := ⟨z, H, I, rw', q⟩
  by_cases h0 : 0 <= i
  . have hj : i.toNat = j := by
      rw [seqIndex_of h0 h5] at h1
      exact Option.some.inj h1
    exact item_listR pl.isList h0 (by omega) (by rw [hj]; simpa using ew) fin hs
  . have hj : (i + (its.toArray.size : Int)).toNat = j := by
      rw [seqIndex_neg (by omega) h4] at h1
      rw [List.size_toArray, <- hl]
      exact Option.some.inj h1
    exact subscriptTail_builtinR (x := w) pl.isList.typeIs slot_list_getitem.lookup
      (wpAny_getItem_list_neg (Q := fun r s' => r = w /\ EP X pins σ Q r s') pl.isList (by omega) (by rw [List.size_toArray] <;> omega) (by omega) (by rw [hj]; simpa using ew) ⟨rfl, fin⟩) hs
theorem ix_tup : IxR X (rIxT X.K) := by
  intro value slice pins s σ H x y v u Q I rx ry h hs
  obtain ⟨p, xs, i, z, rfl, rfl, hq, he, q⟩ := h
  cases rx
  obtain ⟨t, rfl⟩ := ry
  obtain ⟨its, r, pl, hz⟩ := I.tuple hq
  obtain ⟨j, h1, h2, h3, h4, h5⟩ := atI_get he
  obtain ⟨w, ew, rw'⟩ := r.get h2
  have hl := r.length
  have hn := line63
  have fin : EP X pins σ Q w s := ⟨z, H, I, rw', q⟩
  exact subscriptTail_builtinR (x := w) pl.typeIs slot_tuple_getitem.lookup
    (getItem_tuple (j := j) (Q := fun r s' => r = w /\ EP X pins σ Q r s') pl (by omega) (by omega) (by rw [List.size_toArray, <- hl]; exact h1) (by simpa using ew) ⟨rfl, fin⟩) hs
theorem ix_str : IxR X rIxS := by
  intro value slice pins s σ H x y v u Q I rx ry h hs
  obtain ⟨z, i, c, rfl, rfl, hz, he, q⟩ := h
  obtain ⟨t, rfl⟩ := rx
  obtain ⟨t', rfl⟩ := ry
  obtain ⟨j, h1, h2, h3, h4, h5⟩ := atI_get he
  have hl : z.cps.toList.length = z.length := by simp [Str.length]
  rw [hl] at h1 h4 h5
  have hn := line63
  exact tail_any (typeIs_str s z t) slot_str_getitem.lookup (getItem_str (c := c) (by
    have e1 : decide (i < -(2 ^ 63 : Int)) = false := decide_eq_false (by omega)
    have e2 : decide (i ≥ 2 ^ 63) = false := decide_eq_false (by omega)
    rw [e1, e2, Bool.or_false]) (by rw [h1]; simpa using h2) ⟨.str ⟨#[c]⟩, H, I.tok _, ⟨_, rfl⟩, q⟩) hs
def rIx (K : PySem.W.Frag) : R2 := fun x y H Q => rIxL K x y H Q \/ rIxT K x y H Q \/ rIxS x y H Q
theorem ix_seq : IxR X (rIx X.K) := ix_list.or (ix_tup.or ix_str)
theorem mapSeq_set (its : List Value) (n j : Nat) (u : Value) : Obj.mapSeq (·.setIfInBounds j u) { cls := .type "list", data := .seq its.toArray n } = { cls := .type "list", data := .seq (its.set j u).toArray n } := by
  simp [Obj.mapSeq]
theorem Inv.lst {pins : List (Addr × Obj)} {σ : St} {H : Hp} {s : Shared} {p : Addr} {xs : List V} (I : Inv X pins σ H s) (h : H p = some (.lst xs)) :
    ∃ (its : List Value) (n : Nat), Vals xs its /\ s.heap.get? p = some { cls := .type "list", data := .seq its.toArray n } /\ xs.length <= sizeLine := by
  obtain ⟨z, its, n, r, e⟩ := I.hok p _ h
  exact ⟨its, n, r, e, z⟩
theorem Inv.lstUpd {pins : List (Addr × Obj)} {σ : St} {H : Hp} {s : Shared} {p : Addr} {xs ys : List V} {its its' : List Value} {n n' : Nat} {f : Obj -> Obj} (I : Inv X pins σ H s) (h : H p = some (.lst xs))
    (ho : s.heap.get? p = some { cls := .type "list", data := .seq its.toArray n }) (hf : f { cls := .type "list", data := .seq its.toArray n } = { cls := .type "list", data := .seq its'.toArray n' }) (r : Vals ys its') (hz : ys.length <= sizeLine) (t : Nat) :
    Inv X pins σ (upd H p (.lst ys)) { s with heap := s.heap.update p f, toks := t } := by
  have e : (s.heap.update p f).get? p = some { cls := .type "list", data := .seq its'.toArray n' } := by
    rw [Heap.get?_update_self f ho (by rw [hf] <;> rfl), hf]
  refine I.write (x := p) (e := p) (by rw [h]; trivial) (.inl rfl) (fun b u hb q => (Heap.get?_update_other _ _ (Ne.symm hb)).trans q) ⟨_, e⟩ ?_
  exact ⟨hz, its', n', r, e⟩
def rSetL : V -> V -> V -> Hp -> (Hp -> Prop) -> Prop := fun o i v H Q => ∃ p xs k j, o = .ref p /\ i = .int k /\ H p = some (.lst xs) /\ ixN xs.length k = some j /\ Q (upd H p (.lst (xs.set j v)))
theorem set_list : PSet X rSetL := by
  intro pins s σ H o i v ov iv u Q I ro ri rv h
  obtain ⟨p, xs, k, j, rfl, rfl, hp, hj, q⟩ := h
  cases ro
  obtain ⟨t, rfl⟩ := ri
  obtain ⟨its, n, r, ho, hz⟩ := I.lst hp
  obtain ⟨h1, h2, h3, h4⟩ := ixN_seq hj
  have hl := r.length
  have hn := line63
  have I' : Inv X pins σ (upd H p (.lst (xs.set j v))) { s with heap := s.heap.update p (Obj.mapSeq (·.setIfInBounds j u)) } :=
    I.lstUpd hp ho (mapSeq_set its n j u) (r.set rv j) (by rw [List.length_set]; exact hz) s.toks
  by_cases h0 : 0 <= k
  . have hk : k.toNat = j := by
      rw [seqIndex_of h0 h4] at h1
      exact Option.some.inj h1
    exact PySem.W.ki_setAt ho h0 (by omega) (by rw [List.size_toArray, <- hl]; exact h4) (by rw [hk]; exact ⟨_, I', q⟩)
  . have hk : (k + (its.toArray.size : Int)).toNat = j := by
      rw [seqIndex_neg (by omega) h3] at h1
      rw [List.size_toArray, <- hl]
      exact Option.some.inj h1
    exact PySem.W.ki_setBack ho (by omega) (by rw [List.size_toArray, <- hl]; exact h3) (by omega) (by rw [hk]; exact ⟨_, I', q⟩)
theorem slice_bounds (lo hi : Option Int) (n : Nat) : (sliceBounds lo hi none n).1 = ((HT.sIx n 0 lo : Nat) : Int) /\ (sliceBounds lo hi none n).2.1 = ((HT.sIx n n hi : Nat) : Int) /\ (sliceBounds lo hi none n).2.2 = 1 := by
  refine ⟨?_, ?_, rfl⟩
  . cases lo with
    | none => simp [sliceBounds, HT.sIx]
    | some i =>
      simp only [sliceBounds, HT.sIx, Option.getD_none, show (1 : Int) > 0 by decide, if_true]
      by_cases h : i < 0
      . simp only [h, if_true] <;> omega
      . simp only [h, if_false] <;> omega
  . cases hi with
    | none => simp [sliceBounds, HT.sIx]
    | some i =>
      simp only [sliceBounds, HT.sIx, Option.getD_none, show (1 : Int) > 0 by decide, if_true]
      by_cases h : i < 0
      . simp only [h, if_true] <;> omega
      . simp only [h, if_false] <;> omega
theorem slicePick_cut (its : List Value) (lo hi : Option Int) : slicePick its.toArray lo hi none = ((its.drop (HT.sIx its.length 0 lo)).take (HT.sIx its.length its.length hi - HT.sIx its.length 0 lo)).toArray := by
  obtain ⟨h1, h2, h3⟩ := slice_bounds lo hi its.toArray.size
  unfold slicePick
  rw [h1, h2, h3]
  simp only [sliceRange_one, pick_run, List.size_toArray] <;> rfl
def rSlL (K : PySem.W.Frag) : V -> Option Int -> Option Int -> Hp -> VK -> Prop := fun x lo hi H Q => ∃ a xs, x = .ref a /\ SqL K H a xs /\ ∀ p, H p = none -> Q (.ref p) (upd H p (.lst (cutV xs lo hi)))
theorem sl_list : SlR X (rSlL X.K) := by
  intro pins s σ H x v vl vu lo hi sl Q I rx hs pl pu h
  obtain ⟨a, xs, rfl, hx, q⟩ := h
  cases rx
  obtain ⟨its, r, ht, hz⟩ := I.list hx
  have hlen := r.length
  refine ⟨"list", _, slot_list_getitem.lookup, ht.isList.typeIs, ?_⟩
  refine wpAny_getItem_list_slice ht.isList hs pl pu .none (by simp) ?_ (by rw [List.size_toArray] <;> omega)
  rw [slicePick_cut, <- hlen]
  refine ⟨.ref s.heap.objs.size, _, I.laid (t' := s.toks) (o := .lst (cutV xs lo hi)) (fun b ob q => Heap.get?_push_of_some _ q) (Nat.le_refl _) ?_, rfl, q _ (I.hok.fresh (Nat.le_refl _))⟩
  exact ⟨Nat.le_trans (cutV_length xs lo hi) hz, _, 0, (r.drop (HT.sIx xs.length 0 lo)).take (HT.sIx xs.length xs.length hi - HT.sIx xs.length 0 lo), Heap.get?_push_size _ rfl⟩
def flatV : V -> Bool
  | .non => true
  | .bl _ => true
  | .int _ => true
  | .str _ => true
  | _ => false
def eqV : V -> V -> Bool
  | .non, .non => true
  | .bl a, .bl b => a == b
  | .bl a, .int b => (if a then 1 else 0) == b
  | .int a, .bl b => a == (if b then 1 else 0)
  | .int a, .int b => a == b
  | .str a, .str b => a == b
  | _, _ => false
theorem eqAt_V {A : Around} {s : Shared} {y x : V} {u v : Value} (ry : RelV y u) (rx : RelV x v) (fy : flatV y = true) (fx : flatV x = true) : SeqAt.EqAt A s u v (eqV y x) := by
  cases y with
  | non =>
    cases ry
    cases x with
    | non => cases rx; exact SeqAt.EqAt.same _
    | bl b => cases rx; exact SeqAt.EqAt.none_bool b
    | int b => obtain ⟨t, rfl⟩ := rx; exact SeqAt.EqAt.none_int b t
    | str b => obtain ⟨t, rfl⟩ := rx; exact SeqAt.EqAt.none_str b t
    | _ => exact absurd (show false = true from fx) Bool.false_ne_true
  | bl a =>
    cases ry
    cases x with
    | non => cases rx; exact SeqAt.EqAt.bool_none a
    | bl b => cases rx; exact SeqAt.EqAt.bool_bool a b
    | int b => obtain ⟨t, rfl⟩ := rx; exact SeqAt.EqAt.bool_int a b t
    | str b => obtain ⟨t, rfl⟩ := rx; exact SeqAt.EqAt.bool_str a b t
    | _ => exact absurd (show false = true from fx) Bool.false_ne_true
  | int a =>
    obtain ⟨t', rfl⟩ := ry
    cases x with
    | non => cases rx; exact SeqAt.EqAt.int_none a t'
    | bl b => cases rx; exact SeqAt.EqAt.int_bool a t' b
    | int b => obtain ⟨t, rfl⟩ := rx; exact SeqAt.EqAt.int_int a t' b t
    | str b => obtain ⟨t, rfl⟩ := rx; exact SeqAt.EqAt.int_str a t' b t
    | _ => exact absurd (show false = true from fx) Bool.false_ne_true
  | str a =>
    obtain ⟨t', rfl⟩ := ry
    cases x with
    | non => cases rx; exact SeqAt.EqAt.str_none a t'
    | bl b => cases rx; exact SeqAt.EqAt.str_bool a t' b
    | int b => obtain ⟨t, rfl⟩ := rx; exact SeqAt.EqAt.str_int a t' b t
    | str b => obtain ⟨t, rfl⟩ := rx; exact SeqAt.EqAt.str_str a t' b t
    | _ => exact absurd (show false = true from fx) Bool.false_ne_true
  | _ => exact absurd (show false = true from fy) Bool.false_ne_true
def eqU (x : V) (u : Value) : Bool := match u with
  | .none => eqV .non x
  | .bool b => eqV (.bl b) x
  | .int i _ => eqV (.int i) x
  | .str z _ => eqV (.str z) x
  | _ => false
theorem eqU_of {x y : V} {u : Value} (r : RelV y u) (f : flatV y = true) : eqU x u = eqV y x := by
  cases y with
  | non => cases r; rfl
  | bl b => cases r; rfl
  | int i => obtain ⟨t, rfl⟩ := r; rfl
  | str z => obtain ⟨t, rfl⟩ := r; rfl
  | _ => exact absurd (show false = true from f) Bool.false_ne_true
theorem any_eqU {x : V} : ∀ {xs : List V} {us : List Value}, Vals xs us -> xs.all flatV = true -> us.any (eqU x) = xs.any fun y => eqV y x
  | _, _, .nil, _ => rfl
  | y :: xs, u :: us, .cons r t, f => by
    rw [List.all_cons, Bool.and_eq_true] at f
    rw [List.any_cons, List.any_cons, eqU_of r f.1, any_eqU t f.2]
theorem mem_eqAt {A : Around} {s : Shared} {x : V} {v : Value} (rx : RelV x v) (fx : flatV x = true) : ∀ {xs : List V} {us : List Value}, Vals xs us -> xs.all flatV = true -> ∀ u ∈ us, SeqAt.EqAt A s u v (eqU x u)
  | _, _, .nil, _ => fun u hu => by cases hu
  | y :: xs, u :: us, .cons r t, f => fun u' hu => by
    rw [List.all_cons, Bool.and_eq_true] at f
    rcases List.mem_cons.mp hu with rfl | hu
    . rw [eqU_of r f.1]; exact eqAt_V r rx f.1 fx
    . exact mem_eqAt rx fx t f.2 u' hu
def inV (x : V) (xs : List V) : Bool := xs.any fun y => eqV y x
def rIn (K : PySem.W.Frag) (neg : Bool) : R2 := fun x y H Q => ∃ p xs, y = .ref p /\ (SqL K H p xs \/ SqT K H p xs) /\ flatV x = true /\ xs.all flatV = true /\ Q (.bl (if neg then !inV x xs else inV x xs)) H
theorem op_in_seq : OpR X (compareOp .In) (rIn X.K false) := by
  intro pins s σ H x y v u Q I rx ry h
  obtain ⟨p, xs, rfl, hq, fx, fs, q⟩ := h
  cases ry
  rcases hq with hq | hq
  . obtain ⟨its, r, pl, hz⟩ := I.list hq
    refine SeqAt.in_listAt (eqU x) pl.isList (fun w hw => mem_eqAt rx fx r fs w (by simpa using hw)) ⟨.bl _, H, I, rfl, ?_⟩
    rw [show its.toArray.any (eqU x) = its.any (eqU x) by simp, any_eqU r fs]
    exact q
  . obtain ⟨its, r, pl, hz⟩ := I.tuple hq
    refine SeqAt.in_tupleAt (eqU x) pl (fun w hw => mem_eqAt rx fx r fs w (by simpa using hw)) ⟨.bl _, H, I, rfl, ?_⟩
    rw [show its.toArray.any (eqU x) = its.any (eqU x) by simp, any_eqU r fs]
    exact q
theorem op_notIn_seq : OpR X (compareOp .NotIn) (rIn X.K true) := by
  intro pins s σ H x y v u Q I rx ry h
  obtain ⟨p, xs, rfl, hq, fx, fs, q⟩ := h
  cases ry
  rcases hq with hq | hq
  . obtain ⟨its, r, pl, hz⟩ := I.list hq
    refine SeqAt.notIn_listAt (eqU x) pl.isList (fun w hw => mem_eqAt rx fx r fs w (by simpa using hw)) ⟨.bl _, H, I, rfl, ?_⟩
    rw [show its.toArray.any (eqU x) = its.any (eqU x) by simp, any_eqU r fs]
    exact q
  . obtain ⟨its, r, pl, hz⟩ := I.tuple hq
    refine SeqAt.notIn_tupleAt (eqU x) pl (fun w hw => mem_eqAt rx fx r fs w (by simpa using hw)) ⟨.bl _, H, I, rfl, ?_⟩
    rw [show its.toArray.any (eqU x) = its.any (eqU x) by simp, any_eqU r fs]
    exact q
theorem call_list_of : CallR X (.type "list") (fun xs H Q => ∃ p ys, xs = [.ref p] /\ (SqL X.K H p ys \/ SqT X.K H p ys) /\ ∀ l, H l = none -> Q (.ref l) (upd H l (.lst ys))) := by
  intro pins s σ H xs us Q I r h
  obtain ⟨p, ys, rfl, hq, q⟩ := h
  obtain ⟨u, rfl, rx⟩ := vals1 r
  cases rx
  have fin : ∀ (its : List Value), Vals ys its -> ys.length <= sizeLine -> ∀ (h' : Heap) (c' : Nat), (∀ b o', s.heap.get? b = some o' -> h'.get? b = some o') ->
      h'.get? s.heap.objs.size = some { cls := .type "list", dict := none, data := .seq its.toArray c', slots := #[] } -> EP X pins σ Q (.ref s.heap.objs.size) { s with heap := h' } := fun its r' hz h' c' kp e =>
    ⟨.ref s.heap.objs.size, _, I.laid (t' := s.toks) kp (Nat.le_refl _) (show ObjOk X.prog X.w _ h' _ (.lst ys) from ⟨hz, its, c', r', e⟩), rfl, q _ (I.hok.fresh (Nat.le_refl _))⟩
  rcases hq with hq | hq
  . obtain ⟨its, r', pl, hz⟩ := I.list hq
    have hlen := r'.length
    obtain ⟨o, ho, hc, n, hd⟩ := pl.isList
    exact call_list_seq p (.inl rfl) ho hc hd (fun h' c' kp e => fin its r' hz h' c' kp e) (by simp only [List.size_toArray] <;> omega)
  . obtain ⟨its, r', pl, hz⟩ := I.tuple hq
    have hlen := r'.length
    obtain ⟨o, ho, hc, n, hd⟩ := pl
    exact call_list_seq p (.inr rfl) ho hc hd (fun h' c' kp e => fin its r' hz h' c' kp e) (by simp only [List.size_toArray] <;> omega)
theorem call_tuple_of : CallR X (.type "tuple") (fun xs H Q => ∃ p ys, xs = [.ref p] /\ ((SqL X.K H p ys /\ ∀ l, H l = none -> Q (.ref l) (upd H l (.tup ys))) \/ (SqT X.K H p ys /\ Q (.ref p) H))) := by
  intro pins s σ H xs us Q I r h
  obtain ⟨p, ys, rfl, h⟩ := h
  obtain ⟨u, rfl, rx⟩ := vals1 r
  cases rx
  rcases h with ⟨hq, q⟩ | ⟨hq, q⟩
  . obtain ⟨its, r', pl, hz⟩ := I.list hq
    have hlen := r'.length
    refine call_tuple_list pl.isList (fun h' kp => ?_) (by simp only [List.size_toArray] <;> omega)
    have I1 : Inv X pins σ H { s with heap := h' } := I.kept (t' := s.toks) kp
    have I2 : Inv X pins σ (upd H h'.objs.size (.tup ys)) { s with heap := h'.push { cls := .type "tuple", data := .seq its.toArray } } :=
      I1.laid (t' := s.toks) (fun b o e => Heap.get?_push_of_some _ e) (Nat.le_refl _) (show ObjOk X.prog X.w _ _ _ (.tup ys) from ⟨hz, its, r', IsTupN.new _ _⟩)
    exact ⟨.ref h'.objs.size, _, I2, rfl, q _ (I1.hok.fresh (Nat.le_refl _))⟩
  . obtain ⟨its, r', pl, hz⟩ := I.tuple hq
    exact call_tuple_same pl ⟨.ref p, H, I, rfl, q⟩
def tyV (K : PySem.W.Frag) (T : String) (x : V) (H : Hp) : Prop := match x with
  | .str _ => T = "str"
  | .int _ => T = "int"
  | .ref p => (T = "list" /\ ∃ xs, SqL K H p xs) \/ (T = "tuple" /\ ∃ o, K.lookup p = some o /\ o.cls = .type "tuple" /\ o.dict = none) \/
      (T = "dict" /\ ((∃ kvs, H p = some (.dK kvs)) \/ ∃ kvs, H p = some (.dT kvs))) \/ (T = "set" /\ ∃ S n, H p = some (.set S n))
  | _ => False
theorem tyV_is {pins : List (Addr × Obj)} {σ : St} {H : Hp} {s : Shared} {T : String} {x : V} {v : Value} (I : Inv X pins σ H s) (r : RelV x v) (ty : tyV X.K T x H) :
    s.TypeIs v T /\ ∀ a, v = .ref a -> ∃ ob, s.heap.get? a = some ob /\ ob.dict = none := by
  cases x with
  | str z =>
    obtain ⟨t, rfl⟩ := r
    cases (show T = "str" from ty)
    exact ⟨typeIs_str s z t, fun _ e => nomatch e⟩
  | int i =>
    obtain ⟨t, rfl⟩ := r
    cases (show T = "int" from ty)
    exact ⟨typeIs_int s i t, fun _ e => nomatch e⟩
  | ref p =>
    cases r
    rcases ty with ⟨rfl, xs, hq⟩ | ⟨rfl, o, hk, hc, hd⟩ | ⟨rfl, hk⟩ | ⟨rfl, S, n, hk⟩
    . obtain ⟨its, _, pl, _⟩ := I.list hq
      refine ⟨pl.isList.typeIs, fun a e => ?_⟩
      cases e
      obtain ⟨o, n, e, c, hd, _⟩ := pl
      exact ⟨o, e, hd⟩
    . refine ⟨⟨o, I.kIn p o hk, hc⟩, fun a e => ?_⟩
      cases e
      exact ⟨o, I.kIn _ o hk, hd⟩
    . have z : ∃ o, s.heap.get? p = some o /\ o.ExactDict := by
        rcases hk with ⟨kvs, hk⟩ | ⟨kvs, hk⟩
        . obtain ⟨_, _, _, _, o, _, _, e, ex, _⟩ := I.hok p _ hk
          exact ⟨o, e, ex⟩
        . obtain ⟨_, _, _, _, o, _, _, e, ex, _⟩ := I.hok p _ hk
          exact ⟨o, e, ex⟩
      obtain ⟨o, e, ex⟩ := z
      refine ⟨⟨o, e, ex.1⟩, fun a e2 => ?_⟩
      cases e2
      exact ⟨o, e, ex.2.1⟩
    . obtain ⟨o, _, _, _, e, ex, _⟩ := I.hok p _ hk
      refine ⟨⟨o, e, ex.1⟩, fun a e2 => ?_⟩
      cases e2
      exact ⟨o, e, ex.2.1⟩
  | _ => exact False.elim ty
def tBM0 (K : PySem.W.Frag) (T : String) (r : V -> List V -> Hp -> VK -> Prop) (to : TE) : TE := fun σ H Q => to σ H fun x H1 => tyV K T x H1 /\ r x [] H1 Q
def tBM (K : PySem.W.Frag) (T : String) (r : V -> List V -> Hp -> VK -> Prop) (to : TE) (t : TA) : TE := fun σ H Q => to σ H fun x H1 => tyV K T x H1 /\ t σ H1 fun xs H2 => r x xs H2 Q
variable {o e : Expr} {es : List Expr} {to : TE} {t : TA} {name : Str} {apos cpos : Pos} {T id : String} {r : V -> List V -> Hp -> VK -> Prop}
theorem pe_bm0 (pa : PlainAttrs T) (slot : Slot T name id) (hty : typeOf (.builtin id) = pure (.type "method_descriptor")) (hm : MtR X id r) (ho : PE X o to)
    (hbase : attributeBase o name X.env (eval o X.env) = eval o X.env := by rfl) (hline : (apos.endLine == cpos.line) = true := by rfl) : PE X (.Call (.Attribute o name apos) [] [] cpos) (tBM0 X.K T r to) := by
  intro pins s σ H Q I h
  refine wpAny_Call_method0_late hbase hline (thn (ho pins s σ H _ I h) fun v s1 ⟨x, H1, I1, r1, ty, q1⟩ => ?_)
  obtain ⟨h1, h2⟩ := tyV_is I1 r1 ty
  exact ⟨T, id, pa, slot, hty, h1, h2, Calls.callWith_builtin rfl (PySem.evalArgs_none (hm pins s1 σ H1 x [] v [] Q I1 r1 .nil q1))⟩
theorem pe_bm (pa : PlainAttrs T) (slot : Slot T name id) (hty : typeOf (.builtin id) = pure (.type "method_descriptor")) (hm : MtR X id r) (ho : PE X o to) (ha : PA X (e :: es) t)
    (hbase : attributeBase o name X.env (eval o X.env) = eval o X.env := by rfl)
    (hfew : ((backTo cpos (starEach (e :: es) X.env)).all (fun x => !x.1) && (backToKw cpos (keywordEach [] X.env)).all (fun x => x.1.isSome)
      && decide ((e :: es).length + ([] : List Keyword).length + (if ([] : List Keyword).isEmpty then 0 else 1) < 30)) = true := by rfl)
    (hline : (apos.endLine == cpos.line) = true := by rfl) (hs : starEach (e :: es) X.env = (false, eval e X.env) :: starEach es X.env := by rfl) (hplain : (backTo cpos (starEach es X.env)).any (·.1) = false := by rfl) :
    PE X (.Call (.Attribute o name apos) (e :: es) [] cpos) (tBM X.K T r to t) := by
  intro pins s σ H Q I h
  refine wpAny_Call_method_late hbase hfew hline rfl (thn (ho pins s σ H _ I h) fun v s1 ⟨x, H1, I1, r1, ty, q1⟩ => ?_)
  obtain ⟨h1, h2⟩ := tyV_is I1 r1 ty
  refine ⟨T, id, pa, slot, hty, h1, h2, ?_⟩
  have hA := ha cpos pins s1 σ H1 _ I1 q1
  rw [hs] at hA ⊢
  refine Calls.callWith_builtin (by show (false || (backTo cpos (starEach es X.env)).any (·.1)) = false; rw [hplain] <;> rfl) (Calls.evalArgs_plain ?_)
  exact thn hA fun us s2 ⟨vs, H2, I2, r2, q2⟩ => hm pins s2 σ H2 x vs v us Q I2 r1 r2 q2
end
def MtM (X : Cx) (id : String) (r : V -> List V -> Hp -> VK -> Prop) : Prop :=
  ∀ (pins : List (Addr × Obj)) (s : Shared) (σ : St) (H : Hp) (x : V) (xs : List V) (v : Value) (us : List Value) (Q : VK), Inv X pins σ H s -> RelV x v -> Vals xs us -> r x xs H Q ->
    wpAny (model X.prog X.w) X.A (call (.builtin id) (v :: us)) (EP X pins σ Q) X.xe s
theorem Vals.one : ∀ {x : V} {us : List Value}, Vals [x] us -> ∃ u, us = [u] /\ RelV x u
  | _, _, .cons r .nil => ⟨_, rfl, r⟩
theorem Vals.zero : ∀ {us : List Value}, Vals [] us -> us = []
  | _, .nil => rfl
theorem Vals.rep {xs : List V} {us : List Value} (h : Vals xs us) : ∀ k : Nat, Vals (List.replicate k xs).flatten (List.replicate k us).flatten
  | 0 => .nil
  | k + 1 => by
    rw [List.replicate_succ, List.replicate_succ, List.flatten_cons, List.flatten_cons]
    exact Vals.append h (Vals.rep h k)
theorem foldl_rep (its : List Value) : ∀ (k : Nat) (acc : List Value),
    List.foldl (fun x1 x2 => x1 ++ x2) acc.toArray (List.replicate k its.toArray) = (acc ++ (List.replicate k its).flatten).toArray
  | 0, acc => by simp
  | k + 1, acc => by
    have e : acc.toArray ++ its.toArray = (acc ++ its).toArray := by simp
    have e2 : (acc ++ its) ++ (List.replicate k its).flatten = acc ++ (List.replicate (k + 1) its).flatten := by
      rw [List.replicate_succ, List.flatten_cons, List.append_assoc]
    rw [<- e2, <- foldl_rep its k (acc ++ its), <- e, List.replicate_succ, List.foldl_cons]
section
variable {X : Cx} {pins : List (Addr × Obj)} {σ : St} {H : Hp} {s : Shared} {l b : Addr} {xs ys zs : List V}
theorem Inv.lset {its its' : List Value} {n : Nat} {f : Array Value -> Array Value} {t' : Nat} (I : Inv X pins σ H s) (hH : H l = some (.lst xs))
    (e : s.heap.get? l = some { cls := .type "list", data := .seq its.toArray n }) (hf : f its.toArray = its'.toArray) (hv : Vals ys its') (hz : ys.length <= sizeLine) :
    Inv X pins σ (upd H l (.lst ys)) { s with heap := s.heap.update l (Obj.mapSeq f), toks := t' } := by
  have q := PySem.IsL.update e f
  rw [hf] at q
  refine I.write (x := l) (e := l) (by rw [hH]; exact trivial) (.inl rfl) (fun b' u hb hu => (Heap.get?_update_other s.heap (Obj.mapSeq f) (Ne.symm hb)).trans hu) ⟨_, q⟩ ?_
  exact ⟨hz, its', _, hv, q⟩
theorem Inv.lnew {its : List Value} {t' : Nat} (I : Inv X pins σ H s) (hv : Vals ys its) (hz : ys.length <= sizeLine) :
    Inv X pins σ (upd H s.heap.objs.size (.lst ys)) { s with heap := s.heap.push { cls := .type "list", data := .seq its.toArray }, toks := t' } :=
  I.laid (fun _ _ q => Heap.get?_push_of_some _ q) (Nat.le_refl _) ⟨hz, its, 0, hv, Heap.get?_push_size _ rfl⟩
theorem Inv.fresh (I : Inv X pins σ H s) : H s.heap.objs.size = none := I.hok.fresh (Nat.le_refl _)
theorem Inv.lstM (I : Inv X pins σ H s) (hH : H l = some (.lst xs)) : xs.length <= sizeLine /\ ∃ (its : List Value) (n : Nat), Vals xs its /\ xs.length = its.length /\ s.heap.get? l = some { cls := .type "list", data := .seq its.toArray n } := by
  obtain ⟨z, its, n, r, e⟩ := I.hok l _ hH
  exact ⟨z, its, n, r, r.length, e⟩
theorem notLongL {n : Nat} (h : n <= sizeLine) : Builtin.List.listTooLong n = false := by
  unfold Builtin.List.listTooLong
  exact decide_eq_false (by omega)
end
section
variable {X : Cx}
def rAppend : V -> List V -> Hp -> VK -> Prop := fun x vs H Q => ∃ l xs y, x = .ref l /\ vs = [y] /\ H l = some (.lst xs) /\ xs.length < sizeLine /\ Q .non (upd H l (.lst (xs ++ [y])))
theorem mt_append : MtM X "list.append" rAppend := by
  intro pins s σ H x vs v us Q I rx rv h
  obtain ⟨l, xs, y, rfl, rfl, hH, hz, q⟩ := h
  cases rx
  obtain ⟨u, rfl, ru⟩ := rv.one
  obtain ⟨z, its, n, r, hl, e⟩ := I.lstM hH
  refine call_meets F.slot_list_append ⟨_, e, rfl⟩ F.entry_list_append (F.args_list_append_2 _ _) (PySem.list_append l its.toArray n u (by rw [List.size_toArray]; omega)) ⟨e, ?_⟩
  refine ⟨.non, _, I.lset (its' := its ++ [u]) hH e (by simp) (r.append (.cons ru .nil)) ?_, rfl, q⟩
  rw [List.length_append, List.length_singleton]
  omega
def rCat : R2 := fun x y H Q => ∃ l b xs zs, x = .ref l /\ y = .ref b /\ H l = some (.lst xs) /\ H b = some (.lst zs) /\ xs.length + zs.length <= sizeLine /\ ∀ p, H p = none -> Q (.ref p) (upd H p (.lst (xs ++ zs)))
theorem op_cat : OpR X (binaryOp .Add) rCat := by
  intro pins s σ H x y v u Q I rx ry h
  obtain ⟨l, b, xs, zs, rfl, rfl, hH, hB, hz, q⟩ := h
  cases rx
  cases ry
  obtain ⟨z, its, n, r, hl, e⟩ := I.lstM hH
  obtain ⟨z2, its2, n2, r2, hl2, e2⟩ := I.lstM hB
  refine PySem.P.add_list e e2 ?_ (by rw [List.size_toArray, List.size_toArray]; omega)
  have ea : its.toArray ++ its2.toArray = (its ++ its2).toArray := by simp
  rw [ea]
  exact ⟨.ref _, _, I.lnew (t' := s.toks) (r.append r2) (by rw [List.length_append]; omega), rfl, q _ I.fresh⟩
def rRep : R2 := fun x y H Q => ∃ l k xs, x = .ref l /\ y = .int k /\ H l = some (.lst xs) /\ -(2 ^ 63) <= k /\ k < 2 ^ 63 /\ xs.length * k.toNat <= sizeLine /\
  ∀ p, H p = none -> Q (.ref p) (upd H p (.lst (List.replicate k.toNat xs).flatten))
theorem len_rep {α : Type} (xs : List α) (k : Nat) : (List.replicate k xs).flatten.length = k * xs.length := by
  induction k with
  | zero => simp
  | succ k ih => rw [List.replicate_succ, List.flatten_cons, List.length_append, ih, Nat.succ_mul, Nat.add_comm]
theorem op_rep : OpR X (binaryOp .Mult) rRep := by
  intro pins s σ H x y v u Q I rx ry h
  obtain ⟨l, k, xs, rfl, rfl, hH, h1, h2, hz, q⟩ := h
  cases rx
  obtain ⟨t, rfl⟩ := ry
  obtain ⟨z, its, n, r, hl, e⟩ := I.lstM hH
  have hlen : its.toArray.size * k.toNat <= sizeLine := by rw [List.size_toArray, <- hl]; exact hz
  have hcap : ¬ its.toArray.size * k.toNat > (2 ^ 63 - 1) / 8 := by
    have : (sizeLine : Nat) <= (2 ^ 63 - 1) / 8 := by decide
    omega
  have hfit : ¬ (!Builtin.List.listFitsIndex k) = true := by
    rw [fitsIndex_both h1 h2]
    exact Bool.false_ne_true
  have hlong : ¬ Builtin.List.listTooLong (its.toArray.size * k.toNat) = true := by
    rw [notLongL hlen]
    exact Bool.false_ne_true
  have hnew : List.foldl (fun x1 x2 => x1 ++ x2) #[] (List.replicate (if its.toArray.isEmpty = true then 0 else k.toNat) its.toArray) = (List.replicate k.toNat its).flatten.toArray := by
    have f0 : ∀ m : Nat, List.foldl (fun x1 x2 => x1 ++ x2) #[] (List.replicate m its.toArray) = (List.replicate m its).flatten.toArray := fun m => by
      have := foldl_rep its m []
      rw [List.nil_append] at this
      exact this
    rw [f0]
    cases its with
    | nil => simp
    | cons a r' => rw [if_neg (by simp)]
  refine wpAny_binaryOp_repeat_ref (T := "list") (U := "int") (by decide) ⟨_, e, rfl⟩ (fun s' => typeIs_int s' k t) noFill_list_mul F.fills_int_mul F.slot_int_rmul repeat_list F.slot_int_index.lookup
    (call_meets F.slot_int_rmul (typeIs_int s k t) F.entry_int_rmul (F.args_int_rmul_2 _ _) (int___rmul___int_list k t l its.toArray n)
      ⟨e, rfl, ⟨_, e, rfl⟩, call_meets F.slot_list_mul ⟨_, e, rfl⟩ F.entry_list_mul (F.args_list_mul_2 _ _) (AutoListH.list___mul___list_int_3 l its.toArray n k t hfit hcap hlong) ⟨e, ?_⟩⟩)
  rw [hnew]
  exact ⟨.ref _, _, I.lnew (t' := s.toks) (r.rep k.toNat) (by rw [len_rep, Nat.mul_comm]; exact hz), rfl, q _ I.fresh⟩
end
section
variable {prog : Program} {w : World} {A : Around} {E : Value -> Shared -> Prop} {s : Shared}
end
section
variable {X : Cx}
end
end L2
namespace Att
open PySem PySem.W PySem.Calls PyProof.Rows
theorem ints_of_wellAll {P : Params} {h : Heap} : ∀ (ns : List Int) (vs : List Value), WellAll P h vs (ns.map WData.int) -> IntsAre vs ns := by
  intro ns
  induction ns with
  | nil =>
    intro vs w
    rw [List.map_nil] at w
    cases w
    exact .nil
  | cons n ns ih =>
    intro vs w
    rw [List.map_cons] at w
    cases w with
    | cons a b =>
      cases a
      exact .cons _ _ (ih _ b)
theorem script_of {l : OpenLaw} {n : Nat} (hn : l.most = some n) {P : Params} {h : Heap} {args : List WData} {vals : List Value}
    (hpre : l.row.toRowW.claim.pre args = true) (hwl : WellAll P h vals args) :
    ∃ a vs ns, vals = [Value.ref a] /\ args = [WData.list (ns.map WData.int)] /\ h.get? a = some { cls := .type "list", data := .seq vs.toArray } /\ IntsAre vs ns /\ ns.length <= n := by
  have hsh : WShape.hasAll [] args [.list .int] = true := (pre_splitW hpre).1
  have hc : l.pre.holds [] { args := args } = true := (pre_splitW hpre).2
  obtain ⟨d, r, rfl, h1, h2⟩ := hasAllW_cons hsh
  obtain rfl := hasAllW_nil h2
  obtain ⟨xs, rfl, h3⟩ := hasW_list h1
  obtain ⟨ns, rfl⟩ := items_int h3
  have hlen : ns.length <= n := by
    unfold OpenLaw.pre at hc
    have h4 : (WTm.not (.lt (.lit (.int (n : Int))) (.len (.arg 0)))).holds [] { args := [.list (ns.map .int)] } = true := by
      have h4 := (holds_andW hc).1
      rw [hn] at h4
      exact h4
    have h5 := condW_of h4 (w_not (w_lt w_lit (w_len_list (w_arg rfl))))
    rw [List.length_map] at h5
    refine Nat.le_of_not_lt fun q => ?_
    have q' : (n : Int) < ((ns.length : Nat) : Int) := by omega
    first
      | (rw [decide_eq_true q'] at h5; exact absurd h5 (by decide))
      | (simp at h5; omega)
  cases hwl with
  | cons w1 w2 =>
    cases w2
    cases w1 with
    | list ho hall => exact ⟨_, _, ns, rfl, rfl, ho, ints_of_wellAll ns _ hall, hlen⟩
theorem post_true (l : OpenLaw) (args : List WData) : l.row.toRowW.claim.post args (.bool true) args = true :=
  postW_of (r := l.row.toRowW) (X := (true == true))
    (show WShape.has [] (.bool true) .bool = true by first | rfl | decide | simp [WShape.has, WShape.arms, WShape.armsAll])
    (show (WTm.eq .res (.lit (.bool true))).value [] { args := args, res := some (.bool true), after := args } = some (.bool (true == true)) from w_eq_bool (w_res rfl) w_lit) rfl
theorem attach_call {l : OpenLaw} {n : Nat} {q : Program} {loose : List Str} {XP : (Str -> Option Value) -> Heap -> Prop} {YP : World -> Heap -> Prop} {d : DefRec}
    (hn : l.most = some n) (hdf : d.params.defaults = [])
    (call : ∀ (w : World) (s₀ s₁ : Shared) (mg mb : Str -> Option Value) (fa : Addr) (o : Obj) (pm cd doc : Value) (a : Addr) (vs : List Value) (ns : List Int),
      Ground q loose [] XP w s₀ mg mb s₁.heap -> YP w s₁.heap ->
      s₁.heap.get? fa = some o -> o.data = .func (docDef d.name d.params d.body d.scope pm cd doc) -> s₁.heap.CodeRec cd d.name -> mg d.name = some (.ref fa) ->
      s₁.heap.get? a = some { cls := .type "list", data := .seq vs.toArray } -> IntsAre vs ns -> ns.length <= n -> s₁.gens = #[] ->
      codeAny (model l.prog w) callerA (.call (.ref fa) ⟨[.ref a], []⟩) (fun r s' => r = .ok (.ret (.bool true)) /\ OldK s₁.heap s'.heap /\ s'.os = s₁.os /\ AllBare s'.gens) s₁) :
    WalkO q loose XP YP l.row.toRowW d [] (fun f vs => PySem.call f vs) := by
  intro w s₀ s₁ mg mb G Y fa o pm cd doc dV kV ho hd hcd hD hmg hg args vals as hpre hlay hrd hwl hlo
  obtain rfl : dV = .none := Dflts.none hD hdf
  obtain rfl : kV = .none := Dflts.noKw hD
  obtain ⟨a, vs, ns, rfl, rfl, hobj, hints, hlen⟩ := script_of hn hpre hwl
  refine enter_call (codeAny_mono (call w s₀ s₁ mg mb fa o pm cd doc a vs ns G Y ho (fd_plain hd) hcd hmg hobj hints hlen hg) fun r s' hq => ?_)
  obtain ⟨rfl, h2, h3, h4⟩ := hq
  exact ⟨.inl ⟨.bool true, .bool true, [], rfl, fun _ => rfl, .bool true, post_true l _, fun _ => ⟨List.Pairwise.nil, fun _ hm => (nomatch hm)⟩⟩, h2, h3, h4⟩
section
variable {prog : Program} {w : World} {A : Around} {E : Value -> Shared -> Prop} {s : Shared} {K : Frag}
def noObjs (h : Heap) : Heap := { h with objs := #[] }
theorem noObjs_get (h : Heap) (b : Addr) : (noObjs h).get? b = none := by
  cases e : (noObjs h).get? b with
  | none => rfl
  | some o => exact absurd (Heap.lt_size e) (Nat.not_lt_zero _)
theorem fr_all {h : Heap} {L : Addr} {m : Str -> Option Value} (n : h.Ns L m) : Fr (noObjs h) L h m :=
  ⟨n, fun b o e => (by rw [noObjs_get] at e; cases e), Nat.zero_le _⟩
end
end Att
namespace L2
open PySem PySem.Spec PyProof.Rows
theorem vals_ints : ∀ {vs : List Value} {ns : List Int}, IntsAre vs ns -> Vals (ns.map V.int) vs
  | _, _, .nil => .nil
  | _, _, .cons n t h => .cons ⟨t, rfl⟩ (vals_ints h)
def Only (H : Hp) : Prop := ∀ b, H b = none \/ ∃ o xs, H b = some (.frz o (.lst xs))
theorem law_call {P : Program} {w : World} {K : PySem.W.Frag} {mg mb : Str -> Option Value} {CX : CXT} {k : Nat} {fa a : Addr} {fd : FuncData} {x : Str} {sp : Sp} {s₁ : Shared} {vs : List Value} {ns : List Int}
    (KX : K.In s₁.heap) (hns : s₁.heap.Ns mainGlobals mg) (hb : s₁.heap.Ns builtinsNs mb) (hbb : ∀ x : Str, x ≠ "__name__" -> mb x = bootBuiltins x) (hlim : s₁.heap.NoLimit) (hg : s₁.gens = #[])
    (ha : s₁.heap.get? a = some { cls := .type "list", data := .seq vs.toArray }) (hi : IntsAre vs ns) (hl : ns.length <= sizeLine) (hr : Room k callerA)
    (F : ∀ base : Heap, K.In base -> base.Ns mainGlobals mg -> FnOk P w K mg base CX k fa fd [x] sp) (hbind : ∀ (s : Shared) (u : Value), BindsTo s fd ⟨[u], []⟩ [(x, u)])
    (hsp : ∀ H : Hp, Only H -> SqL K H a (ns.map V.int) -> sp [.ref a] H (fun v _ => v = .bl true) fun _ _ _ => False)
    (hCX : ∀ H e s', CX [] H s₁ (fun _ _ _ => False) e s' -> False) :
    codeAny (model P w) callerA (.call (.ref fa) ⟨[.ref a], []⟩) (fun r s' => r = .ok (.ret (.bool true)) /\ OldK s₁.heap s'.heap /\ s'.os = s₁.os /\ AllBare s'.gens) s₁ := by
  have rv := vals_ints hi
  have lenV := hi.length
  -- from an abstract heap in which nothing but the script may be tracked
  have core : ∀ H : Hp, Only H -> SqL K H a (ns.map V.int) -> HOk P w H s₁.heap -> (∀ b, H b ≠ none -> b = a) -> (H a ≠ none -> K.lookup a = none) ->
      codeAny (model P w) callerA (.call (.ref fa) ⟨[.ref a], []⟩) (fun r s' => r = .ok (.ret (.bool true)) /\ OldK s₁.heap s'.heap /\ s'.os = s₁.os /\ AllBare s'.gens) s₁ := by
    intro H hO hS hok hA hK
    have base_of : ∀ {b : Addr} {o : Obj}, s₁.heap.get? b = some o -> H b = none -> (hidT s₁.heap H).get? b = some o := fun e n => hidT_get e n
    have noA : ∀ {b : Addr} {o : Obj} {es : Array DictEntry} {ep : Nat}, s₁.heap.get? b = some o -> o.data = .dict es ep -> H b = none := fun {b o es ep} e d => by
      cases q : H b with
      | none => rfl
      | some u =>
        have e' : b = a := hA b (by rw [q]; simp)
        subst e'
        rw [ha] at e; cases e
        have d' : Data.seq vs.toArray _ = Data.dict es ep := d
        cases d'
    have nsK : ∀ {b : Addr} {m : Str -> Option Value}, s₁.heap.Ns b m -> (hidT s₁.heap H).Ns b m := fun {b m} ⟨o, es, ep, e, d, r⟩ => ⟨o, es, ep, base_of e (noA e d), d, r⟩
    have hKb : K.In (hidT s₁.heap H) := fun b o e => base_of (KX b o e) (by
      cases q : H b with
      | none => rfl
      | some u =>
        have e' : b = a := hA b (by rw [q]; simp)
        subst e'
        rw [hK (by rw [q]; simp)] at e; cases e)
    have hM : Mod K mg (hidT s₁.heap H) := ⟨hKb, nsK hns, ⟨mb, nsK hb, hbb⟩, let ⟨mc, h1, h2⟩ := hlim; ⟨mc, nsK h1, h2⟩⟩
    have e0 : Env0 P w K mg (hidT s₁.heap H) callerA [] s₁ H := ⟨rfl, hM, fun b o e => of_hidT e, Nat.le_of_eq (hidT_size _ _), trivial, fun b hb => absurd (show b ∈ ([] : List Addr) from hb) (by simp), hok, .of_eq hg⟩
    refine codeAny_mono ((F _ hKb (nsK hns)).run callerA [] s₁ H ⟨[.ref a], []⟩ [.ref a] [.ref a] _ _ hr e0 (hbind s₁ (.ref a)) (.cons rfl .nil) (hsp H hO hS)) fun r s' h => ?_
    cases r with
    | error e => exact (hCX H e s' h).elim
    | ok fl =>
      cases fl with
      | next => exact False.elim h
      | brk => exact False.elim h
      | cont => exact False.elim h
      | ret u =>
        obtain ⟨v, H', os, bare, un, hok', r', q⟩ := h
        have q' : v = .bl true := q
        subst q'
        obtain rfl : u = Value.bool true := r'
        refine ⟨rfl, OldK.of_keep fun b o e => ?_, os, bare⟩
        cases q : H b with
        | none => exact un.keep b o e q (by intro z; exact absurd (show b ∈ ([] : List Addr) from z) (by simp)) (by simp)
        | some u =>
          rcases hO b with z | ⟨ob, xs, z⟩
          . rw [q] at z; cases z
          . have z2 := un.frzs b ob _ z
            obtain ⟨e1, _⟩ := hok b _ z
            obtain ⟨e2, _⟩ := hok' b _ z2
            rw [e] at e1; cases e1
            exact e2
  cases hk : K.lookup a with
  | some o =>
    -- the script is one of the module's own objects
    have e := KX a o hk
    rw [ha] at e
    cases e
    refine core (fun _ => none) (fun _ => .inl rfl) (.inr ⟨_, vs.toArray, _, hk, rfl, rfl, rfl, by rw [List.size_toArray, lenV]; exact hl, by simpa using rv⟩) (fun b u z => by have z' : (none : Option HO) = some u := z; cases z') (fun b z => absurd rfl z) fun z => absurd rfl z
  | none =>
    refine core (fun b => if b = a then some (.frz { cls := .type "list", data := .seq vs.toArray } (.lst (ns.map V.int))) else none) (fun b => ?_) (.inl (.inr ⟨{ cls := .type "list", data := .seq vs.toArray }, if_pos rfl⟩)) (fun b u z => ?_) (fun b z => ?_) fun _ => hk
    . by_cases hb : b = a
      . exact .inr ⟨_, _, if_pos hb⟩
      . exact .inl (if_neg hb)
    . by_cases hb : b = a
      . have z' := (if_pos hb).symm.trans z
        cases z'
        subst hb
        exact ⟨ha, by rw [List.length_map]; exact hl, vs, _, rv, ha⟩
      . have z' := (if_neg hb).symm.trans z
        cases z'
    . by_cases hb : b = a
      . exact hb
      . exact absurd (if_neg hb) z
theorem walk_of {l : PySem.W.OpenLaw} {n k : Nat} {q : Program} {loose : List Str} {XP : (Str -> Option Value) -> Heap -> Prop} {YP : World -> Heap -> Prop} {d : DefRec} {K : Params -> PySem.W.Frag} {CX : World -> CXT} {sp : World -> Sp} {x : Str}
    (hn : l.most = some n) (hn2 : n <= sizeLine) (hdf : d.params.defaults = []) (hr : Room k callerA)
    (hY : ∀ (w : World) (h : Heap), YP w h -> (K w.params).In h)
    (F : ∀ (w : World) (mg : Str -> Option Value) (fa : Addr) (h : Heap), (K w.params).In h -> h.Ns mainGlobals mg -> mg d.name = some (.ref fa) ->
      ∃ fd : FuncData, (∀ (s : Shared) (u : Value), BindsTo s fd ⟨[u], []⟩ [(x, u)]) /\
        ∀ base : Heap, (K w.params).In base -> base.Ns mainGlobals mg -> FnOk l.prog w (K w.params) mg base (CX w) k fa fd [x] (sp w))
    (hsp : ∀ (w : World) (H : Hp) (a : Addr) (ns : List Int), ns.length <= n -> Only H -> SqL (K w.params) H a (ns.map V.int) -> sp w [.ref a] H (fun v _ => v = .bl true) fun _ _ _ => False)
    (hCX : ∀ (w : World) (H : Hp) (s : Shared) (e : Value) (s' : Shared), CX w [] H s (fun _ _ _ => False) e s' -> False) :
    PySem.W.WalkO q loose XP YP l.row.toRowW d [] (fun f vs => PySem.call f vs) := by
  refine Att.attach_call hn hdf fun w s₀ s₁ mg mb fa o pm cd doc a vs ns G Y ho hd hcd hmg hobj hints hlen hg => ?_
  have KX := hY w _ Y
  obtain ⟨fd, hb, hF⟩ := F w mg fa _ KX G.T.g hmg
  exact law_call KX G.T.g G.T.b G.T.builtins G.T.nolimit hg hobj hints (Nat.le_trans hlen hn2) hr hF hb (fun H hO hS => hsp w H a ns hlen hO hS) fun H e s' => hCX w H s₁ e s'
def defArgs (s : Stmt) : Arguments := match s with
  | .FunctionDef _ a _ _ _ _ _ _ _ _ => a
  | _ => { posonlyargs := [], args := [], vararg := none, kwonlyargs := [], kw_defaults := [], kwarg := none, defaults := [] }
def defBody (s : Stmt) : List Stmt := match s with
  | .FunctionDef _ _ b _ _ _ _ _ _ _ => b
  | _ => []
def defScope (s : Stmt) : Scope := match s with
  | .FunctionDef _ _ _ _ _ _ sc _ _ _ => sc
  | _ => { kind := .function, names := [], isGenerator := false, isCoroutine := false }
abbrev CX0 : CXT := fun _ _ _ _ _ _ => False
abbrev E0 : XK := fun _ _ _ => False
theorem pass0 {X : Cx} : Passes CX0 X E0 := fun _ _ _ _ _ _ _ h => h.elim
structure Fun (K : PySem.W.Frag) (x qual : Str) (st : Stmt) (f : Addr) (fd : FuncData) : Prop where
  ex : ∃ (oc : Value) (od : Option Addr) (kV doc pm : Value) (an : Option Addr) (cdv ct : Value) (osl : Array (Option Value)),
    fd = PySem.W.fnOf x qual (defArgs st) (defBody st) (defScope st) .none kV doc pm an cdv ct /\ K.lookup f = some ⟨oc, od, .func fd, osl⟩ /\ PySem.W.codeIn K cdv qual = true
  kp : PySem.W.keepIn K (.ref f) = true
section
variable {P : Program} {w : World} {K : PySem.W.Frag} {mg : Str -> Option Value} {base : Heap}
theorem Fun.ok {x qual : Str} {st : Stmt} {f : Addr} {fd : FuncData} {N ps : List Str} {k : Nat} {sp : Sp} (F : Fun K x qual st f fd) (S : FnScope N ps (defScope st)) (len : ∀ vs H Q E, sp vs H Q E -> vs.length = ps.length)
    (hbody : ∀ (cdv : Value) (A : Around) (outer : List Env) (s : Shared) (H : Hp) (vs : List V) (Q : VK) (E : XK), Room k (A.deeper (envOfC qual (defScope st) s.heap.objs.size f cdv)) -> sp vs H Q E ->
      ∃ t, PSs (cxOf CX0 P w K mg base N qual (defScope st) f cdv A outer s H E).nox (defBody st) t /\ t { nx := fun _ H' => Q .non H', rt := Q } (start N vs) H) : FnOk P w K mg base CX0 (k + 1) f fd ps sp := by
  obtain ⟨oc, od, kV, doc, pm, an, cdv, ct, osl, rfl, lk, hcd⟩ := F.ex
  refine fn_of lk hcd S len fun A outer s H vs Q E hr hsp => ?_
  obtain ⟨t, h, q⟩ := hbody cdv A outer s H vs Q E hr hsp
  exact ⟨t, h.nox, q⟩
theorem Fun.binds {x qual : Str} {st : Stmt} {f : Addr} {fd : FuncData} {ps : List Str} (F : Fun K x qual st f fd)
    (h : ∀ (kV doc pm : Value) (an : Option Addr) (cdv ct : Value) (us : List Value), us.length = ps.length -> bindArgs (PySem.W.fnOf x qual (defArgs st) (defBody st) (defScope st) .none kV doc pm an cdv ct) ⟨us, []⟩ = pure (ps.zip us)) : Binds K fd ps [] := by
  obtain ⟨oc, od, kV, doc, pm, an, cdv, ct, osl, rfl, lk, hcd⟩ := F.ex
  exact .all (h kV doc pm an cdv ct)
theorem fun_mk {x qual : Str} {st : Stmt} {f : Addr} {oc : Value} {od an : Option Addr} {osl : Array (Option Value)} {kV doc pm cdv ct : Value} (l : K.lookup f = some ⟨oc, od, .func (PySem.W.fnOf x qual (defArgs st) (defBody st) (defScope st) .none kV doc pm an cdv ct), osl⟩)
    (c : PySem.W.codeIn K cdv qual = true) (k : PySem.W.keepIn K (.ref f) = true) : Fun K x qual st f (PySem.W.fnOf x qual (defArgs st) (defBody st) (defScope st) .none kV doc pm an cdv ct) := ⟨⟨oc, od, kV, doc, pm, an, cdv, ct, osl, rfl, l, c⟩, k⟩
end
theorem small1000 {n : Nat} (h : n <= 1000) : n < sizeLine := Nat.lt_of_le_of_lt h (by decide)
section
variable {X : Cx}
end
theorem iteF {A B : Prop} (h : B) : if false = true then A else B := by
  rw [if_neg Bool.false_ne_true]
  exact h
theorem iteT {A B : Prop} (h : A) : if true = true then A else B := by
  rw [if_pos rfl]
  exact h
theorem ite2 {c A B : Prop} [Decidable c] (h1 : c -> A) (h2 : ¬ c -> B) : if c then A else B := by
  by_cases h : c
  . rw [if_pos h]
    exact h1 h
  . rw [if_neg h]
    exact h2 h
def Same (H H' : Hp) : Prop := ∀ b o, H b = some o -> H' b = some o
theorem Same.refl (H : Hp) : Same H H := fun _ _ h => h
theorem Same.trans {H H1 H2 : Hp} (a : Same H H1) (b : Same H1 H2) : Same H H2 := fun c o h => b c o (a c o h)
theorem Same.free {H H' : Hp} (e : Same H H') {l : Addr} (h : H' l = Option.none) : H l = Option.none := by
  cases q : H l with
  | none => rfl
  | some o =>
    rw [e l o q] at h
    cases h
theorem Same.seq {K : PySem.W.Frag} {H H' : Hp} {a : Addr} {xs : List V} (e : Same H H') (h : SqL K H a xs) : SqL K H' a xs := by
  rcases h with (h | ⟨o, h⟩) | h
  . exact .inl (.inl (e _ _ h))
  . exact .inl (.inr ⟨o, e _ _ h⟩)
  . exact .inr h
theorem cellsFrom_app : ∀ (names : List (Str × NameKind)) (n : Nat) (acc : List (Str × Addr)), cellsFrom n names acc = cellsFrom n names [] ++ acc
  | [], _, _ => rfl
  | (name, kind) :: r, n, acc => by
    unfold cellsFrom
    split
    . rw [cellsFrom_app r (n + 1) ((name, n) :: acc), cellsFrom_app r (n + 1) [(name, n)], List.append_assoc]; rfl
    . exact cellsFrom_app r n acc
theorem cellsFrom_kind : ∀ (names : List (Str × NameKind)) (n : Nat) (acc : List (Str × Addr)) (x : Str) (c : Addr), (x, c) ∈ cellsFrom n names acc -> (x, c) ∈ acc \/ (x, NameKind.cell) ∈ names
  | [], _, _, _, _, h => .inl h
  | (name, kind) :: r, n, acc, x, c, h => by
    unfold cellsFrom at h
    split at h
    . rename_i hk
      rcases cellsFrom_kind r _ _ x c h with h | h
      . rcases List.mem_cons.mp h with e | h
        . cases e
          have : kind = .cell := by simpa using hk
          subst this
          exact .inr List.mem_cons_self
        . exact .inl h
      . exact .inr (List.mem_cons_of_mem _ h)
    . rcases cellsFrom_kind r _ _ x c h with h | h
      . exact .inl h
      . exact .inr (List.mem_cons_of_mem _ h)
theorem lookup_app {α : Type} {x : Str} : ∀ (l r : List (Str × α)), (l ++ r).lookup x = (match l.lookup x with | some c => some c | none => r.lookup x)
  | [], r => rfl
  | (k, v) :: l, r => by
    show List.lookup x ((k, v) :: (l ++ r)) = _
    rw [List.lookup_cons, List.lookup_cons]
    cases x == k with
    | true => rfl
    | false => exact lookup_app l r
theorem lookup_none_of {α : Type} {x : Str} : ∀ {l : List (Str × α)}, (∀ c, (x, c) ∉ l) -> l.lookup x = none
  | [], _ => rfl
  | (k, v) :: l, h => by
    rw [List.lookup_cons]
    cases hb : x == k with
    | true =>
      have : x = k := by simpa using hb
      subst this
      exact absurd List.mem_cons_self (h v)
    | false => exact lookup_none_of fun c hc => h c (List.mem_cons_of_mem _ hc)
def clOf (cells : List (Str × Addr)) : List (Str × NameKind) -> List (Str × Addr) -> List (Str × Addr)
  | [], acc => acc
  | (n, k) :: r, acc => if k == .free then clOf cells r ((n, (cells.lookup n).getD 0) :: acc) else clOf cells r acc
theorem closureFor_eq {scope : Scope} {env : Env} (h : ∀ y ∈ scope.names, y.2 = .free -> ∃ c, env.cells.lookup y.1 = some c) : closureFor scope env = pure (clOf env.cells scope.names []) := by
  have all : ∀ (names : List (Str × NameKind)) (acc : List (Str × Addr)), (∀ y ∈ names, y.2 = .free -> ∃ c, env.cells.lookup y.1 = some c) ->
      (forIn names acc fun (x : Str × NameKind) cs => (if (x.2 == NameKind.free) = true then (do let a <- cellOf env x.1; pure (ForInStep.yield ((x.1, a) :: cs))) else pure (ForInStep.yield cs) : Sem (ForInStep (List (Str × Addr))))) = (pure (clOf env.cells names acc) : Sem _) := by
    intro names
    induction names with
    | nil => intro acc _; rfl
    | cons y r ih =>
      intro acc hy
      obtain ⟨n, k⟩ := y
      rw [List.forIn_cons]
      have hr : ∀ y ∈ r, y.2 = .free -> ∃ c, env.cells.lookup y.1 = some c := fun y hm => hy y (List.mem_cons_of_mem _ hm)
      unfold clOf
      by_cases hk : (k == NameKind.free) = true
      . obtain ⟨c, e⟩ := hy (n, k) List.mem_cons_self (by simpa using hk)
        rw [if_pos hk, if_pos hk]
        have e2 : cellOf env n = pure c := by unfold cellOf; rw [show env.cells.lookup n = some c from e]
        rw [e2]
        rw [show env.cells.lookup n = some c from e]
        exact ih _ hr
      . rw [if_neg hk, if_neg hk]
        exact ih _ hr
  have q := all scope.names [] h
  unfold closureFor
  refine Eq.trans ?_ (congrArg (fun t => t >>= pure) q |>.trans (by rfl))
  congr 1
theorem clOf_mem {cells : List (Str × Addr)} : ∀ (names : List (Str × NameKind)) (acc : List (Str × Addr)) (x : Str) (c : Addr), (∀ y ∈ names, y.2 = .free -> ∃ c, cells.lookup y.1 = some c) -> (x, c) ∈ clOf cells names acc -> (x, c) ∈ acc \/ ((x, NameKind.free) ∈ names /\ cells.lookup x = some c)
  | [], _, _, _, _, h => .inl h
  | (n, k) :: r, acc, x, c, hy, h => by
    have hr : ∀ y ∈ r, y.2 = .free -> ∃ c, cells.lookup y.1 = some c := fun y hm => hy y (List.mem_cons_of_mem _ hm)
    unfold clOf at h
    split at h
    . rename_i hk
      have hk' : k = .free := by simpa using hk
      subst hk'
      obtain ⟨d, e⟩ := hy (n, .free) List.mem_cons_self rfl
      rcases clOf_mem r _ x c hr h with h | ⟨h, h'⟩
      . rcases List.mem_cons.mp h with e' | h
        . obtain ⟨e1, e2⟩ := Prod.mk.inj e'
          rw [show cells.lookup n = some d from e] at e2
          subst e1
          exact .inr ⟨List.mem_cons_self, by rw [e2]; exact e⟩
        . exact .inl h
      . exact .inr ⟨List.mem_cons_of_mem _ h, h'⟩
    . rcases clOf_mem r _ x c hr h with h | ⟨h, h'⟩
      . exact .inl h
      . exact .inr ⟨List.mem_cons_of_mem _ h, h'⟩
theorem clOf_keep {cells : List (Str × Addr)} {x : Str} : ∀ (names : List (Str × NameKind)) (acc : List (Str × Addr)), (∃ c, (x, c) ∈ acc) -> ∃ c, (x, c) ∈ clOf cells names acc
  | [], _, h => h
  | (n, k) :: r, acc, ⟨c, h⟩ => by
    unfold clOf
    split
    . exact clOf_keep r _ ⟨c, List.mem_cons_of_mem _ h⟩
    . exact clOf_keep r _ ⟨c, h⟩
theorem clOf_has {cells : List (Str × Addr)} {x : Str} : ∀ (names : List (Str × NameKind)) (acc : List (Str × Addr)), (x, NameKind.free) ∈ names -> ∃ c, (x, c) ∈ clOf cells names acc
  | (n, k) :: r, acc, h => by
    unfold clOf
    rcases List.mem_cons.mp h with e | h
    . cases e
      rw [if_pos (by decide)]
      exact clOf_keep r _ ⟨_, List.mem_cons_self⟩
    . split
      . exact clOf_has r _ h
      . exact clOf_has r _ h
theorem lookup_of_mem {α : Type} {x : Str} : ∀ {l : List (Str × α)}, (∃ c, (x, c) ∈ l) -> ∃ c, l.lookup x = some c
  | (k, v) :: l, ⟨c, h⟩ => by
    rw [List.lookup_cons]
    cases hb : x == k with
    | true => exact ⟨v, rfl⟩
    | false =>
      rcases List.mem_cons.mp h with e | h
      . cases e; simp at hb
      . exact lookup_of_mem ⟨c, h⟩
def relS (scope sc : Scope) : Scope :=
  { scope with names := scope.names.map fun (n, k) => if (k == .free && sc.kind == .function && sc.names.lookup n == some .cell) then (n, .cell) else (n, k) }
structure CompScope (scope sc : Scope) : Prop where
  kind : scope.kind = .function
  nd : (scope.names.map (·.1)).Nodup
  fr : ∀ y ∈ scope.names, y.2 = .free -> sc.names.lookup y.1 = some .cell \/ sc.names.lookup y.1 = some .free
theorem lookup_nd {α : Type} : ∀ {l : List (Str × α)} {x : Str} {c : α}, (l.map (·.1)).Nodup -> (x, c) ∈ l -> l.lookup x = some c
  | (k, v) :: l, x, c, nd, h => by
    obtain ⟨n1, n2⟩ := List.nodup_cons.mp (show (k :: l.map (·.1)).Nodup from nd)
    rw [List.lookup_cons]
    rcases List.mem_cons.mp h with e | h
    . cases e; simp
    . have hne : ¬ x = k := fun e => n1 (by rw [<- e]; exact List.mem_map.mpr ⟨(x, c), h, rfl⟩)
      have : (x == k) = false := by simpa using hne
      rw [this]
      exact lookup_nd n2 h
theorem relS_lookup {scope sc : Scope} {x : Str} : (relS scope sc).names.lookup x = (scope.names.lookup x).map fun k => if (k == .free && sc.kind == .function && sc.names.lookup x == some .cell) then NameKind.cell else k := by
  show (scope.names.map _).lookup x = _
  generalize scope.names = names
  induction names with
  | nil => rfl
  | cons y r ih =>
    obtain ⟨n, k⟩ := y
    rw [List.map_cons]
    by_cases hc : (k == .free && sc.kind == .function && sc.names.lookup n == some .cell) = true
    . show List.lookup x ((if (k == .free && sc.kind == .function && sc.names.lookup n == some .cell) = true then (n, NameKind.cell) else (n, k)) :: _) = _
      rw [if_pos hc, List.lookup_cons, List.lookup_cons]
      cases hb : x == n with
      | true =>
        have hx : x = n := by simpa using hb
        subst hx
        show some NameKind.cell = some (if _ then _ else _)
        rw [if_pos hc]
      | false => exact ih
    . show List.lookup x ((if (k == .free && sc.kind == .function && sc.names.lookup n == some .cell) = true then (n, NameKind.cell) else (n, k)) :: _) = _
      rw [if_neg hc, List.lookup_cons, List.lookup_cons]
      cases hb : x == n with
      | true =>
        have hx : x = n := by simpa using hb
        subst hx
        show some k = some (if _ then _ else _)
        rw [if_neg hc]
      | false => exact ih
structure CArgs where
  pins : List (Addr × Obj)
  cells : List (Str × Addr)
  s : Shared
  H : Hp
  fp : List Addr
  C : Addr
def Cx.comp (X : Cx) (scope : Scope) (N' : List Str) (c : CArgs) : Cx where
  prog := X.prog
  w := X.w
  K := X.K
  mg := X.mg
  base := X.base
  A := X.A
  N := N'
  s₀ := c.s
  H₀ := c.H
  env := compEnvC scope c.cells c.C X.env
  outer := X.stack
  stack := X.stack
  ex := c.fp
  fn := fun x => scope.names.lookup x == some .cell
  calm := X.calm
  pn := X.pn ++ c.pins
  xe := fun _ _ => False
def cSt (own : Nat) (ix : List Nat) (σ : St) : St := List.replicate own none ++ ix.map fun i => (σ[i]?).join
section
variable {X : Cx} {pins : List (Addr × Obj)} {σ : St} {H : Hp} {s s4 : Shared} {fp : List Addr} {scope : Scope} {N' : List Str} {own : Nat} {ix : List Nat}
theorem comp_inv (I : Inv X pins σ H s) (f2 : ∀ b ∈ fp, FpOk X pins H b) (hob : ∀ b ∈ fp, ∃ o, s.heap.get? b = some o) (S : CompScope scope X.env.scope)
    (hlen : N'.length = own + ix.length) (hN : (N'.drop own).map some = ix.map (X.N[·]?)) (hfr : ∀ x ∈ N'.drop own, scope.names.lookup x = some .free)
    {C : Addr} (hC : s.heap.objs.size < C) (k4 : ∀ b o, s.heap.get? b = some o -> s4.heap.get? b = some o) (os4 : s4.os = s.os) (g4 : s4.gens = s.gens)
    (n4 : ∃ m, s4.heap.Ns C m) (own4 : ∀ x c, (x, c) ∈ cellsFrom (C + 1) scope.names [] -> s4.heap.IsCell c none /\ C + 1 <= c)
    (apart : (cellsFrom (C + 1) scope.names []).Pairwise fun x y => x.2 ≠ y.2) :
    Inv (X.comp scope N' ⟨pins, cellsFrom (C + 1) scope.names (clOf X.env.cells scope.names []), s, H, fp, C⟩) [] (cSt own ix σ) H s4 := by
  have hfree : ∀ y ∈ scope.names, y.2 = .free -> ∃ c, X.env.cells.lookup y.1 = some c := fun y hy h => I.ok.has y.1 (S.fr y hy h)
  -- a cell of the block
  have cases : ∀ x c, (cellsFrom (C + 1) scope.names (clOf X.env.cells scope.names [])).lookup x = some c ->
      ((x, c) ∈ cellsFrom (C + 1) scope.names [] /\ scope.names.lookup x = some .cell) \/ ((x, NameKind.free) ∈ scope.names /\ X.env.cells.lookup x = some c) := fun x c h => by
    rw [cellsFrom_app, lookup_app] at h
    cases e : (cellsFrom (C + 1) scope.names []).lookup x with
    | some d =>
      rw [e] at h
      cases h
      have m := mem_of_lookup e
      rcases cellsFrom_kind _ _ _ _ _ m with z | z
      . exact absurd z (by simp)
      . exact .inl ⟨m, lookup_nd S.nd z⟩
    | none =>
      rw [e] at h
      rcases clOf_mem _ _ _ _ hfree (mem_of_lookup h) with z | z
      . exact absurd z (by simp)
      . exact .inr z
  have oldlt : ∀ x c, X.env.cells.lookup x = some c -> c < s.heap.objs.size := fun x c e => let ⟨v, q⟩ := I.cell x c e; q.lt
  have kin : ∀ x, (relS scope X.env.scope).names.lookup x = some .cell \/ (relS scope X.env.scope).names.lookup x = some .free -> (scope.names.lookup x = some .cell \/ scope.names.lookup x = some .free) := fun x h => by
    rw [relS_lookup] at h
    cases e : scope.names.lookup x with
    | none => rw [e] at h; simp at h
    | some k =>
      rw [e] at h
      cases k with
      | cell => exact .inl rfl
      | free => exact .inr rfl
      | _ => exact absurd h (by simp)
  have hCn : ∀ b o, s.heap.get? b = some o -> b ≠ C := fun b o e z => by have := Heap.lt_size e; rw [z] at this; exact Nat.lt_irrefl _ (Nat.lt_trans this hC)
  have lk : ∀ x, (x, NameKind.free) ∈ scope.names -> ∀ c, X.env.cells.lookup x = some c -> (cellsFrom (C + 1) scope.names (clOf X.env.cells scope.names [])).lookup x = some c := fun x hx c hc => by
    have hl : scope.names.lookup x = some .free := lookup_nd S.nd hx
    rw [cellsFrom_app, lookup_app, lookup_none_of (l := cellsFrom (C + 1) scope.names []) fun d hd => ?_]
    . obtain ⟨d, hd⟩ := lookup_of_mem (clOf_has (cells := X.env.cells) scope.names [] hx)
      rcases clOf_mem _ _ _ _ hfree (mem_of_lookup hd) with z | ⟨_, z⟩
      . exact absurd z (by simp)
      . rw [hc] at z; cases z; exact hd
    . rcases cellsFrom_kind _ _ _ _ _ hd with z | z
      . exact absurd z (by simp)
      . rw [lookup_nd S.nd z] at hl; cases hl
  refine ⟨⟨I.ok.mod, S.kind, I.ok.glob, I.ok.blt, Nat.le_of_lt hC, fun x y c hx hy => ?_, fun x hx => ?_, fun x c hf hx => ?_, I.ok.hd, I.ok.frames, .inl rfl, fun b hb => ⟨?_, fun x c hx => ?_⟩, fun b o e => I.bs b o e, Nat.le_trans I.ok.bsz I.sz, fun b o e hb => ?_, fun b hb z => ?_, I.stack, I.stkFree⟩,
    os4, by rw [g4]; exact I.bare, Un.kept k4, ?_, fun x c hx => ?_, ?_, fun x c hx => ?_, fun p hp => ?_, I.hok.kept k4, ?_⟩
  . -- inj
    rcases cases x c hx with ⟨m1, _⟩ | ⟨_, m1⟩ <;> rcases cases y c hy with ⟨m2, _⟩ | ⟨_, m2⟩
    . exact name_of_addr apart m1 m2
    . exact absurd (Nat.lt_of_lt_of_le (Nat.lt_trans (oldlt y c m2) hC) (Nat.le_of_succ_le (own4 x c m1).2)) (Nat.lt_irrefl _)
    . exact absurd (Nat.lt_of_lt_of_le (Nat.lt_trans (oldlt x c m1) hC) (Nat.le_of_succ_le (own4 y c m2).2)) (Nat.lt_irrefl _)
    . exact I.ok.inj x y c m1 m2
  . -- has
    rcases kin x hx with h | h
    . have q := PySem.W.cellsFrom_some scope.names (C + 1) (clOf X.env.cells scope.names []) (.inl h)
      exact Option.isSome_iff_exists.mp q
    . obtain ⟨c, e⟩ := hfree (x, .free) (mem_of_lookup h) rfl
      exact ⟨c, lk x (mem_of_lookup h) c e⟩
  . -- cab
    rcases cases x c hx with ⟨m1, _⟩ | ⟨m1, _⟩
    . exact Nat.le_of_lt (Nat.lt_of_lt_of_le hC (Nat.le_of_succ_le (own4 x c m1).2))
    . have hl := lookup_nd S.nd m1
      have hf' : (scope.names.lookup x == some NameKind.cell) = true := hf
      rw [hl] at hf'; cases hf'
  . obtain ⟨o, e⟩ := hob b hb
    exact hCn b o e
  . intro z
    obtain ⟨o, e⟩ := hob b hb
    have hlt := Heap.lt_size e
    rcases cases x c hx with ⟨m1, _⟩ | ⟨_, m1⟩
    . subst z; exact absurd (Nat.lt_of_lt_of_le (Nat.lt_trans hlt hC) (Nat.le_of_succ_le (own4 x c m1).2)) (Nat.lt_irrefl _)
    . exact (f2 b hb).2.2.2.2.1 x c m1 z
  . -- noex
    have e1 := (I.ok.bs b o e).1
    rcases (f2 b hb).2.2.2.1 with z | z
    . exact I.ok.noex b o e z
    . exact absurd (Nat.lt_of_lt_of_le (Heap.lt_size e1) z) (Nat.lt_irrefl _)
  . -- exfs
    rcases List.mem_cons.mp (I.stkSub b z) with e | z
    . exact (f2 b hb).2.1 e
    . exact (f2 b hb).2.2.1 z
  . -- loc
    obtain ⟨m, hm⟩ := n4
    obtain ⟨m0, hn0, hl0⟩ := I.loc
    refine ⟨m, hm, fun i x v h1 h2 h3 => ?_⟩
    have h1 : N'[i]? = some x := h1
    unfold cSt at h2
    by_cases hi : i < own
    . rw [List.getElem?_append_left (by simpa using hi), List.getElem?_replicate] at h2
      split at h2 <;> cases h2
    . rw [List.getElem?_append_right (by simpa using hi), List.length_replicate, List.getElem?_map] at h2
      obtain ⟨j, hj⟩ : ∃ j, i = own + j := ⟨i - own, by omega⟩
      subst hj
      rw [Nat.add_sub_cancel_left] at h2
      cases e : ix[j]? with
      | none => rw [e] at h2; cases h2
      | some q =>
        rw [e] at h2
        have h2 : some (σ[q]?).join = some (some v) := h2
        have h2 : (σ[q]?).join = some v := Option.some.inj h2
        have hσ : σ[q]? = some (some v) := by
          cases eq : σ[q]? with
          | none => rw [eq] at h2; cases h2
          | some z => rw [eq] at h2; simp at h2; rw [h2]
        have hx : (N'.drop own)[j]? = some x := by rw [List.getElem?_drop]; exact h1
        have hNq : X.N[q]? = some x := by
          have := congrArg (·[j]?) hN
          simp only [List.getElem?_map, hx, e, Option.map_some] at this
          exact (Option.some.inj this).symm
        have hfx := hfr x (List.mem_of_getElem? hx)
        have hmem := mem_of_lookup hfx
        have kx := S.fr (x, .free) hmem rfl
        have vis : Vis X.env.scope x := .inr kx
        obtain ⟨u, r, l⟩ := hl0 q x v hNq hσ vis
        refine ⟨u, r, ?_⟩
        rcases l with ⟨k, _⟩ | ⟨k, c, hc, z⟩
        . exfalso
          have k' : X.env.scope.names.lookup x = some .local := k
          rcases kx with kx | kx
          . rw [show X.env.scope.names.lookup x = some .cell from kx] at k'; cases k'
          . rw [show X.env.scope.names.lookup x = some .free from kx] at k'; cases k'
        . refine .inr ⟨?_, c, lk x hmem c hc, z.keeps k4⟩
          show (relS scope X.env.scope).names.lookup x = some .cell \/ (relS scope X.env.scope).names.lookup x = some .free
          rw [relS_lookup, hfx]
          by_cases hc : (NameKind.free == .free && X.env.scope.kind == .function && X.env.scope.names.lookup x == some .cell) = true
          . exact .inl (by rw [Option.map_some, if_pos hc])
          . exact .inr (by rw [Option.map_some, if_neg hc])
  . rcases cases x c hx with ⟨m1, _⟩ | ⟨_, m1⟩
    . exact ⟨_, (own4 x c m1).1⟩
    . obtain ⟨v, q⟩ := I.cell x c m1
      exact ⟨v, q.keeps k4⟩
  . exact I.hok.fresh (Nat.le_of_lt hC)
  . rcases cases x c hx with ⟨m1, _⟩ | ⟨_, m1⟩
    . exact I.hok.fresh (Nat.le_of_lt (Nat.lt_of_lt_of_le hC (Nat.le_of_succ_le (own4 x c m1).2)))
    . exact I.freeC x c m1
  . have hp : p ∈ X.pn ++ pins := by
      have : p ∈ (X.pn ++ pins) ++ [] := hp
      rwa [List.append_nil] at this
    obtain ⟨e, n, ne, nf, d⟩ := I.pin p hp
    refine ⟨k4 _ _ e, n, hCn _ _ e, fun z => ?_, d⟩
    rcases List.mem_cons.mp (I.stkSub _ z) with q | q
    . exact ne q
    . exact nf q
  . unfold cSt
    rw [List.length_append, List.length_replicate, List.length_map]
    exact hlen.symm
end
section
variable {prog : Program} {w : World} {A : Around} {R : Result -> Shared -> Prop} {s : Shared}
theorem codeAny_compLoop_any {elt target iter : Expr} {ifs : List Expr} {scope : Scope} {pos : Pos} {it acc : Value} {env : Env} (I : Nat -> Shared -> Prop)
    (turn : ∀ n s, I n s -> wpAny (model prog w) A (pyNext it) (fun r s₁ => match r with
      | none => R (.ok .next) s₁
      | some v => wpAny (model prog w) A (letOwnedTupleGo target it v) (fun _ s₁' => wpAny (model prog w) A (assign target env v) (fun _ s₂ =>
          wpAny (model prog w) A (forIn ifs true fun c r => if r = true then do let ok <- isTrue c env (eval c env); pure (ForInStep.yield ok) else pure (ForInStep.yield r)) (fun ok s₃ =>
            if ok = true then wpAny (model prog w) A (eval elt env) (fun x s₄ =>
              wpAny (model prog w) A (call (.builtin "list.append") [acc, x]) (fun _ s₅ => ∃ m, m < n /\ I m s₅) (fun _ _ => False) s₄) (fun _ _ => False) s₃
            else ∃ m, m < n /\ I m s₃) (fun _ _ => False) s₂) (fun _ _ => False) s₁') (fun _ _ => False) s₁) (fun _ _ => False) s)
    (n : Nat) (h : I n s) :
    codeAny (model prog w) A (.compLoop (.ListComp elt [⟨target, iter, ifs, 0⟩] scope pos) 0 it acc env) R s := by
  refine codeAny_loop rfl I (fun n s hI => ?_) n h
  show wpAny _ A ((compTurn (.ListComp elt [⟨target, iter, ifs, 0⟩] scope pos) 0 it acc env).onRaise (fun x => do noteFrame x env; theTreesLotGoes x)) _ _ s
  refine wpAny_noted ?_
  rw [compTurn_list]
  refine wpAny_bind (wpAny_standAt (wpAny_bind (wpAny_mono (turn n s hI) (fun r s₁ h₁ => ?_) fun _ _ h' => h'.elim)))
  cases r with
  | none => exact wpAny_pure h₁
  | some v =>
    refine wpAny_bind (wpAny_mono h₁ (fun _ s₁' h₁' => ?_) fun _ _ h' => h'.elim)
    refine wpAny_bind (wpAny_mono h₁' (fun _ s₂ h₂ => wpAny_bind (wpAny_mono h₂ (fun ok s₃ h₃ => ?_) fun _ _ h' => h'.elim)) fun _ _ h' => h'.elim)
    cases ok with
    | false => exact wpAny_pure ⟨rfl, h₃⟩
    | true =>
      exact wpAny_bind (wpAny_bind (wpAny_mono h₃ (fun x s₄ h₄ => wpAny_bind (wpAny_mono h₄ (fun _ s₅ h₅ => wpAny_pure (wpAny_pure ⟨rfl, h₅⟩)) fun _ _ h' => h'.elim)) fun _ _ h' => h'.elim))
end
def PTs (X : Cx) (ifs : List Expr) (t : TT) : Prop :=
  ∀ (pins : List (Addr × Obj)) (s : Shared) (σ : St) (H : Hp) (Q : Bool -> Hp -> Prop), Inv X pins σ H s -> t σ H Q ->
    wpAny (model X.prog X.w) X.A (forIn ifs true fun c r => if r = true then do let ok <- isTrue c X.env (eval c X.env); pure (ForInStep.yield ok) else pure (ForInStep.yield r)) (TP X pins σ Q) X.xe s
def tTrue : TT := fun _ H Q => Q true H
theorem pts_nil {X : Cx} : PTs X [] tTrue := fun _ _ _ H _ I h => wpAny_tests_nil ⟨H, I, h⟩
theorem pts_one {X : Cx} {c : Expr} {t : TT} (h : PT X c t) : PTs X [c] t := fun pins s σ H Q I hq => wpAny_tests_one (h pins s σ H Q I hq)
def GOwn (own : Nat) (g : TG) : Prop := ∀ x σ H Q, g x σ H Q -> g x σ H fun σ' H' => (σ'.length = σ.length /\ ∀ i, own <= i -> σ'[i]? = σ[i]?) /\ Q σ' H'
def GsOwn (own : Nat) (g : TGs) : Prop := ∀ x σ H Q, g x σ H Q -> g x σ H fun σ' H' => (σ'.length = σ.length /\ ∀ i, own <= i -> σ'[i]? = σ[i]?) /\ Q σ' H'
theorem go_name {own i : Nat} (h : i < own) : GOwn own (gName i) := fun x σ H Q q =>
  ⟨⟨by simp, fun j hj => by rw [List.getElem?_set_ne (by omega)]⟩, q⟩
theorem gos_nil {own : Nat} : GsOwn own gNil := fun x σ H Q ⟨e, q⟩ => ⟨e, ⟨rfl, fun _ _ => rfl⟩, q⟩
def GMono (g : TG) : Prop := ∀ x σ H (Q Q' : St -> Hp -> Prop), (∀ σ H, Q σ H -> Q' σ H) -> g x σ H Q -> g x σ H Q'
def GsMono (g : TGs) : Prop := ∀ x σ H (Q Q' : St -> Hp -> Prop), (∀ σ H, Q σ H -> Q' σ H) -> g x σ H Q -> g x σ H Q'
theorem gm_name {i : Nat} : GMono (gName i) := fun _ _ _ _ _ h q => h _ _ q
theorem gms_nil : GsMono gNil := fun _ _ _ _ _ h ⟨e, q⟩ => ⟨e, h _ _ q⟩
theorem gms_cons {t : TG} {u : TGs} (h1 : GMono t) (h2 : GsMono u) : GsMono (gCons t u) := fun _ _ _ _ _ h ⟨v, r, e, q⟩ => ⟨v, r, e, h1 _ _ _ _ _ (fun _ _ q => h2 _ _ _ _ _ h q) q⟩
theorem gos_cons {own : Nat} {t : TG} {u : TGs} (m : GMono t) (mu : GsMono u) (h1 : GOwn own t) (h2 : GsOwn own u) : GsOwn own (gCons t u) := fun x σ H Q ⟨v, r, e, q⟩ =>
  ⟨v, r, e, m _ _ _ _ _ (fun σ' H' ⟨⟨e1, e2⟩, q⟩ => mu _ _ _ _ _ (fun σ'' H'' ⟨⟨e3, e4⟩, q⟩ => ⟨⟨e3.trans e1, fun i hi => (e4 i hi).trans (e2 i hi)⟩, q⟩) (h2 r σ' H' Q q)) (h1 v σ H _ q)⟩
theorem go_tup {own : Nat} {K : PySem.W.Frag} {n : Nat} {t : TGs} (h : GsOwn own t) : GOwn own (gTup K n t) := fun x σ H Q ⟨a, xs, e, s, l, q⟩ => ⟨a, xs, e, s, l, h _ _ _ _ q⟩
theorem cSt_own {own : Nat} {ix : List Nat} {σ : St} {i : Nat} {v : V} (h : (cSt own ix σ)[i]? = some (some v)) : own <= i := by
  unfold cSt at h
  by_cases hi : i < own
  . rw [List.getElem?_append_left (by simpa using hi), List.getElem?_replicate] at h
    split at h <;> cases h
  . omega
def CompTurns (J : It) (g : TG) (tc : TT) (te : TE) (σc : St) (Q : VK) (H1 : Hp) : Prop :=
  ∃ W : Nat -> Nat -> List V -> Hp -> Prop, (∃ m, W 0 m [] H1) /\ ∀ i m ys H, W i m ys H ->
    (J.stop i H /\ ∀ p, H p = none -> Q (.ref p) (upd H p (.lst ys))) \/
    (J.go i H /\ ys.length < sizeLine /\ ∃ N : List V -> Hp -> Prop, (∀ ys' H', N ys' H' -> ∃ m', m' < m /\ W (i + 1) m' ys' H') /\ ∀ x H', J.yld i H x H' -> g x σc H' fun σ4 H4 => tc σ4 H4 fun b H5 =>
      if b = true then te σ4 H5 fun y H6 => N (ys ++ [y]) H6 else N ys H5)
def tComp (wi : TI) (own : Nat) (ix : List Nat) (g : TG) (tc : TT) (te : TE) : TE := fun σ H Q => wi σ H fun J H1 => CompTurns J g tc te (cSt own ix σ) Q H1
section
variable {X : Cx} {pins : List (Addr × Obj)} {σ : St} {H : Hp} {s : Shared} {fp : List Addr} {it : Addr} {tn : Nat -> Heap -> Prop} {J : It} {tg iter elt : Expr} {ifs : List Expr} {scope : Scope} {pos : Pos} {N' : List Str} {own : Nat} {ix : List Nat} {g : TG} {tc : TT} {te : TE} {Q : VK} {E : Value -> Shared -> Prop}
theorem comp_block (I : Inv X pins σ H s) (T : Turn X.prog X.w X.K tg J fp it tn) (st : tn 0 s.heap) (f2 : ∀ b ∈ fp, FpOk X pins H b) (hc : X.calm = true) (S : CompScope scope X.env.scope)
    (hlen : N'.length = own + ix.length) (hN : (N'.drop own).map some = ix.map (X.N[·]?)) (hfr : ∀ x ∈ N'.drop own, scope.names.lookup x = some .free)
    (hg : ∀ c, PG (X.comp scope N' c) tg g) (hgo : GOwn own g) (ht : ∀ c, PTs (X.comp scope N' c) ifs tc) (he : ∀ c, PE (X.comp scope N' c) elt te)
    (hq : CompTurns J g tc te (cSt own ix σ) Q H) {RR : Value -> Addr -> Result -> Shared -> Prop}
    (fin : ∀ (D C : Addr) (s' : Shared) (H' : Hp) (ys : List V) (its : List Value) (n : Nat), s'.os = s.os -> AllBare s'.gens -> Un (frs X.stack) fp H H' s.heap s'.heap -> HOk X.prog X.w H' s'.heap -> (∃ m, s'.heap.Ns C m) -> H' C = none -> s.heap.objs.size <= C ->
      H' D = none -> s.heap.objs.size <= D -> D ≠ C -> s'.heap.get? D = some { cls := .type "list", data := .seq its.toArray n } -> Vals ys its -> ys.length <= sizeLine -> (∀ p, H' p = none -> Q (.ref p) (upd H' p (.lst ys))) -> RR (.ref D) C (.ok .next) s') :
    wpAny (model X.prog X.w) X.A (newList []) (fun acc s₃ => wpAny (model X.prog X.w) X.A (newFunctionEnv scope X.env.globals (clOf X.env.cells scope.names []) [] X.env.qual none .none (some X.env)) (fun cenv s₄ =>
      codeAny (model X.prog X.w) X.A (.compStart (.ListComp elt [⟨tg, iter, ifs, 0⟩] scope pos) 0 (.ref it) acc { cenv with scope := relabel scope X.env }) (RR acc cenv.locals) s₄) E s₃) E s := by
  obtain ⟨W, ⟨m0, w0⟩, turn⟩ := hq
  have hob : ∀ b ∈ fp, ∃ o, s.heap.get? b = some o := fun b hb => let ⟨o, e, _⟩ := T.obj 0 _ st b hb; ⟨o, e⟩
  refine wpAny_newObj_type ?_
  generalize hH1 : s.heap.push { cls := .type "list", dict := none, data := .seq ([] : List Value).toArray } = h1
  have hs1 : h1.objs.size = s.heap.objs.size + 1 := by rw [<- hH1, Heap.size_push]
  have k1 : ∀ b o, s.heap.get? b = some o -> h1.get? b = some o := fun b o e => by rw [<- hH1]; exact Heap.get?_push_of_some _ e
  have d1 : h1.get? s.heap.objs.size = some { cls := .type "list", data := .seq ([] : List Value).toArray } := by rw [<- hH1]; exact Heap.get?_push_size _ rfl
  simp only [newFunctionEnv, Option.isSome_some, if_true]
  refine wpAny_bind (wpAny_alloc ?_)
  generalize hH2 : (({ s with heap := h1 } : Shared).heap.push { cls := .type "dict", data := .dict #[] }) = h2
  have hH2' : h1.push { cls := .type "dict", data := .dict #[] } = h2 := hH2
  have hs2 : h2.objs.size = h1.objs.size + 1 := by rw [<- hH2', Heap.size_push]
  have k2 : ∀ b o, h1.get? b = some o -> h2.get? b = some o := fun b o e => by rw [<- hH2']; exact Heap.get?_push_of_some _ e
  have n2 : h2.Ns h1.objs.size (fun _ => none) := by rw [<- hH2']; exact Heap.Ns.new h1 (.type "dict")
  refine wpAny_bind (wpAny_layCells _ (fun name kind cells => by cases hkc : kind == NameKind.cell <;> simp [hkc]) _ _ _ _ ?_)
  have ok := cellsFrom_ok scope.names h2 (h1.objs.size + 1) [] ⟨fun _ _ hm => (nomatch hm), List.Pairwise.nil⟩ (by rw [hs2]; exact Nat.le_refl _)
  rw [hs2] at ok
  show wpAny _ _ (forIn ([] : List (Str × Value)) PUnit.unit _ >>= _) _ _ _
  rw [List.forIn_nil]
  refine wpAny_bind (wpAny_pure (wpAny_pure ?_))
  show codeAny _ _ (.compStart _ 0 (.ref it) (.ref s.heap.objs.size) (compEnvC scope (cellsFrom h2.objs.size scope.names (clOf X.env.cells scope.names [])) h1.objs.size X.env)) (RR (.ref s.heap.objs.size) h1.objs.size) { s with heap := pushCells h2 scope.names }
  rw [hs2]
  generalize hH3 : pushCells h2 scope.names = h3 at ok ⊢
  have k3 : ∀ b o, h2.get? b = some o -> h3.get? b = some o := fun b o e => by rw [<- hH3]; exact pushCells_keeps _ _ b o e
  have kk : ∀ b o, s.heap.get? b = some o -> h3.get? b = some o := fun b o e => k3 b o (k2 b o (k1 b o e))
  have d3 : h3.get? s.heap.objs.size = some { cls := .type "list", data := .seq ([] : List Value).toArray } := k3 _ _ (k2 _ _ d1)
  have hC : s.heap.objs.size < h1.objs.size := by rw [hs1]; exact Nat.lt_succ_self _
  have I3 : Inv (X.comp scope N' ⟨pins, cellsFrom (h1.objs.size + 1) scope.names (clOf X.env.cells scope.names []), s, H, fp, h1.objs.size⟩) [] (cSt own ix σ) H { s with heap := h3 } :=
    comp_inv (s4 := { s with heap := h3 }) I f2 hob S hlen hN hfr hC kk rfl rfl ⟨_, n2.keeps k3⟩ (fun x c hm => ok.empty x c hm) ok.apart
  generalize hcs : cellsFrom (h1.objs.size + 1) scope.names (clOf X.env.cells scope.names []) = cs at I3 ⊢
  generalize hCC : h1.objs.size = C at *
  generalize hDD : s.heap.objs.size = D at *
  have hY := I3.ok
  -- what is fixed of the records
  have sD : D ≠ C /\ (∀ x c, cs.lookup x = some c -> c ≠ D) /\ D ∉ frs X.stack /\ ∀ p ∈ X.pn ++ pins, p.1 ≠ D := by
    refine ⟨Nat.ne_of_lt hC, fun x c e z => ?_, fun z => ?_, fun p hp z => ?_⟩
    . subst z
      have e' := e
      rw [<- hcs, cellsFrom_app, lookup_app] at e'
      cases q : (cellsFrom (C + 1) scope.names []).lookup x with
      | some d =>
        rw [q] at e'; cases e'
        have := (ok.empty x c (mem_of_lookup q)).2
        exact absurd (Nat.lt_of_lt_of_le hC (Nat.le_of_succ_le this)) (Nat.lt_irrefl _)
      | none =>
        rw [q] at e'
        have hfree : ∀ y ∈ scope.names, y.2 = .free -> ∃ c, X.env.cells.lookup y.1 = some c := fun y hy h => I.ok.has y.1 (S.fr y hy h)
        rcases clOf_mem _ _ _ _ hfree (mem_of_lookup e') with z | ⟨_, z⟩
        . exact absurd z (by simp)
        . obtain ⟨v, q⟩ := I.cell x c z
          have := q.lt
          rw [hDD] at this
          exact Nat.lt_irrefl _ this
    . exact (I3.nofs (a := D) (by exact absurd z (by
        intro z'
        obtain ⟨_, o, ho, _⟩ := (show s.heap.FunFrames X.base X.stack from I.stack).mem z'
        have := Heap.lt_size ho
        rw [hDD] at this
        exact Nat.lt_irrefl _ this))) z
    . have := Heap.lt_size (I.pin p hp).1
      rw [z, hDD] at this
      exact Nat.lt_irrefl _ this
  have stat : ∀ {H' : Hp}, (∀ b ∈ fp, H' b = none) -> ∀ b ∈ fp, FpOk (X.comp scope N' ⟨pins, cs, s, H, fp, C⟩) [] H' b := fun {H'} hn b hb => by
    refine ⟨hn b hb, (hY.exf b hb).1, hY.exfs b hb, .inl hb, (hY.exf b hb).2, fun p hp => ?_⟩
    have hp : p ∈ (X.pn ++ pins) ++ [] := hp
    rw [List.append_nil] at hp
    exact (f2 b hb).2.2.2.2.2 p hp
  have statD : ∀ {H' : Hp}, H' D = none -> FpOk (X.comp scope N' ⟨pins, cs, s, H, fp, C⟩) [] H' D := fun {H'} hn => by
    refine ⟨hn, sD.1, sD.2.2.1, .inr (Nat.le_of_eq hDD), sD.2.1, fun p hp => ?_⟩
    have hp : p ∈ (X.pn ++ pins) ++ [] := hp
    rw [List.append_nil] at hp
    exact sD.2.2.2 p hp
  have loop : codeAny (model X.prog X.w) X.A (.compLoop (.ListComp elt [⟨tg, iter, ifs, 0⟩] scope pos) 0 (.ref it) (.ref D) (compEnvC scope cs C X.env)) (RR (.ref D) C) { s with heap := h3 } := by
    refine codeAny_compLoop_any (fun n s' => ∃ (i : Nat) (H' : Hp) (ys : List V) (its : List Value) (k : Nat), Inv (X.comp scope N' ⟨pins, cs, s, H, fp, C⟩) [] (cSt own ix σ) H' s' /\ tn i s'.heap /\ (∀ b ∈ fp, H' b = none) /\ H' D = none /\
      s'.heap.get? D = some { cls := .type "list", data := .seq its.toArray k } /\ Vals ys its /\ ys.length <= sizeLine /\ W i n ys H') ?_ m0
      ⟨0, H, [], [], 0, I3, T.keep _ _ _ st fun b _ o e => kk b o e, fun b hb => (f2 b hb).1, I.hok.fresh (Nat.le_of_eq hDD), d3, .nil, Nat.zero_le _, w0⟩
    rintro n s4 ⟨i, H4, ys, its, k, I4, st4, fr4, dn4, d4, rv4, z4, w4⟩
    rcases turn i n ys H4 w4 with ⟨stop, qn⟩ | ⟨go, zl, N, hN2, step⟩
    . have ID := I4.pinned (fp := [D]) (fun b hb => by rw [List.mem_singleton.mp hb]; exact statD dn4) (fun b hb => by rw [List.mem_singleton.mp hb]; exact ⟨_, d4, fun v z => nomatch z⟩)
      have nD : ∀ b ∈ fp, b ≠ D := fun b hb z => by
        obtain ⟨o, e⟩ := hob b hb
        have := Heap.lt_size e
        rw [z, hDD] at this
        exact Nat.lt_irrefl _ this
      have stat' : ∀ b ∈ fp, FpOk (X.comp scope N' ⟨pins, cs, s, H, fp, C⟩) ([] ++ pinsAt [D] s4.heap) H4 b := fun b hb => by
        obtain ⟨q1, q2, q3, q4, q5, q6⟩ := stat fr4 b hb
        refine ⟨q1, q2, q3, q4, q5, fun p hp => ?_⟩
        rcases List.mem_append.mp hp with z | z
        . exact q6 p (List.mem_append_left _ z)
        . have := (of_pinsAt (by simpa using z : p ∈ pinsAt [D] s4.heap)).1
          rw [List.mem_singleton.mp this]
          exact fun z => nD b hb z.symm
      refine thn (T.done (X.comp scope N' ⟨pins, cs, s, H, fp, C⟩) rfl rfl rfl hc i _ s4 _ H4 (fun _ _ => False) ID stat' st4 stop) fun r s5 ⟨hr, I5⟩ => ?_
      subst hr
      obtain ⟨m, hm, _⟩ := I5.loc
      refine fin D C s5 H4 ys its k I5.os I5.bare I5.base I5.hok ⟨m, hm⟩ I5.free (Nat.le_of_lt hC) dn4 (Nat.le_refl _) sD.1 ?_ rv4 z4 qn
      . exact (I5.pin (D, _) (List.mem_append_right _ (List.mem_append_right _ (mem_pinsAt (List.mem_singleton.mpr rfl) d4)))).1
    . have nD : ∀ b ∈ fp, b ≠ D := fun b hb z => by
        obtain ⟨o, e⟩ := hob b hb
        have := Heap.lt_size e
        rw [z, hDD] at this
        exact Nat.lt_irrefl _ this
      have ID := I4.pinned (fp := [D]) (fun b hb => by rw [List.mem_singleton.mp hb]; exact statD dn4) (fun b hb => by rw [List.mem_singleton.mp hb]; exact ⟨_, d4, fun v z => nomatch z⟩)
      have statP : ∀ {H' : Hp}, (∀ b ∈ fp, H' b = none) -> ∀ b ∈ fp, FpOk (X.comp scope N' ⟨pins, cs, s, H, fp, C⟩) ([] ++ pinsAt [D] s4.heap) H' b := fun {H'} hn b hb => by
        obtain ⟨q1, q2, q3, q4, q5, q6⟩ := stat hn b hb
        refine ⟨q1, q2, q3, q4, q5, fun p hp => ?_⟩
        rcases List.mem_append.mp hp with z | z
        . exact q6 p (List.mem_append_left _ z)
        . have := (of_pinsAt (by simpa using z : p ∈ pinsAt [D] s4.heap)).1
          rw [List.mem_singleton.mp this]
          exact fun z => nD b hb z.symm
      refine thn (T.item (X.comp scope N' ⟨pins, cs, s, H, fp, C⟩) rfl rfl rfl hc i _ s4 _ H4 (fun _ _ => False) ID (statP fr4) st4 go) fun r s5 ⟨u, hr, h5⟩ => ?_
      subst hr
      refine thn h5 fun _ s6 ⟨x, H6, I6, r6, y6, st6, fr6⟩ => ?_
      have I6' := I6.pinned (statP fr6) (T.obj _ _ st6)
      refine thn (hg _ _ s6 _ H6 x u _ I6' r6 (hgo _ _ _ _ (step x H6 y6))) fun _ s7 ⟨σ7, H7, I7, ⟨e7, k7⟩, q7⟩ => ?_
      have I7' : Inv (X.comp scope N' ⟨pins, cs, s, H, fp, C⟩) ([] ++ pinsAt [D] s4.heap ++ pinsAt fp s6.heap) σ7 H7 s7 := I7
      refine thn (ht _ _ s7 σ7 H7 _ I7' q7) fun b s8 ⟨H8, I8, q8⟩ => ?_
      -- what is kept through the turn
      have back : ∀ {s9 : Shared} {H9 : Hp}, Inv (X.comp scope N' ⟨pins, cs, s, H, fp, C⟩) ([] ++ pinsAt [D] s4.heap ++ pinsAt fp s6.heap) σ7 H9 s9 ->
          Inv (X.comp scope N' ⟨pins, cs, s, H, fp, C⟩) [] (cSt own ix σ) H9 s9 /\ tn (i + 1) s9.heap /\ (∀ b ∈ fp, H9 b = none) /\ H9 D = none /\ s9.heap.get? D = some { cls := .type "list", data := .seq its.toArray k } := fun {s9 H9} I9 => by
        have pD := I9.pin (D, _) (List.mem_append_right _ (List.mem_append_left _ (List.mem_append_right _ (mem_pinsAt (List.mem_singleton.mpr rfl) d4))))
        refine ⟨I9.unpinned.unpinned.weak (by rw [e7]) fun j v hj => ?_, T.keep _ _ _ st6 fun b hb o e => (I9.pin (b, o) (List.mem_append_right _ (List.mem_append_right _ (mem_pinsAt hb e)))).1, fun b hb => ?_, pD.2.1, pD.1⟩
        . rw [k7 j (cSt_own hj)]; exact hj
        . obtain ⟨o, e, _⟩ := T.obj _ _ st6 b hb
          exact (I9.pin (b, o) (List.mem_append_right _ (List.mem_append_right _ (mem_pinsAt hb e)))).2.1
      cases b with
      | false =>
        rw [if_neg Bool.false_ne_true] at q8
        obtain ⟨m', hm, w8⟩ := hN2 _ _ q8
        obtain ⟨b1, b2, b3, b4, b5⟩ := back I8
        exact ⟨m', hm, i + 1, H8, ys, its, k, b1, b2, b3, b4, b5, rv4, z4, w8⟩
      | true =>
        rw [if_pos rfl] at q8
        rw [if_pos rfl]
        refine thn (he _ _ s8 σ7 H8 _ I8 q8) fun yv s9 ⟨y, H9, I9, r9, q9⟩ => ?_
        obtain ⟨m', hm, w9⟩ := hN2 _ _ q9
        obtain ⟨b1, b2, b3, b4, b5⟩ := back I9
        have hl := rv4.length
        refine call_meets F.slot_list_append ⟨_, b5, rfl⟩ F.entry_list_append (F.args_list_append_2 _ _) (PySem.list_append D its.toArray k yv (by rw [List.size_toArray]; omega)) ⟨b5, ?_⟩
        have up := PySem.IsL.update b5 (fun a => a.push yv)
        have keep : ∀ b o, b ≠ D -> s9.heap.get? b = some o -> (s9.heap.update D (Obj.mapSeq fun a => a.push yv)).get? b = some o := fun b o hb q => (Heap.get?_update_other _ _ (Ne.symm hb)).trans q
        obtain ⟨f0, f1, f2', f3, f4, f5⟩ := statD b4
        refine ⟨m', hm, i + 1, H9, ys ++ [y], its ++ [yv], (if ((its.toArray.push yv).size == its.toArray.size) = true then k else k + 1), b1.turned (t' := s9.toks) keep b4 f1 f3 f4 f5, ?_, b3, b4, ?_, rv4.append (.cons r9 .nil), ?_, w9⟩
        . exact T.keep _ _ _ b2 fun b hb o e => keep b o (nD b hb) e
        . have e2 : (its.toArray.push yv) = (its ++ [yv]).toArray := by simp
          rw [<- e2]
          exact up
        . rw [List.length_append, List.length_singleton]
          omega
  exact codeAny_compStart_list loop (T.self X.A 0 _ _ _ (T.keep _ _ _ st fun b _ o e => kk b o e) loop)
end
section
variable {X : Cx} {pins : List (Addr × Obj)} {σ : St} {H : Hp} {s : Shared} {fp : List Addr} {it : Addr} {tn : Nat -> Heap -> Prop} {J : It} {tg iter elt : Expr} {ifs : List Expr} {scope : Scope} {pos : Pos} {N' : List Str} {own : Nat} {ix : List Nat} {g : TG} {tc : TT} {te : TE} {wi : TI} {E : Value -> Shared -> Prop}
theorem comp_adopt {H' : Hp} {s' : Shared} {D : Addr} {ys : List V} {its : List Value} {n : Nat} (I : Inv X pins σ H s) (f2 : ∀ b ∈ fp, FpOk X pins H b) (ho : s'.os = s.os) (hg : AllBare s'.gens) (u : Un (frs X.stack) fp H H' s.heap s'.heap) (hok : HOk X.prog X.w H' s'.heap)
    (dn : H' D = none) (ds : s.heap.objs.size <= D) (d : s'.heap.get? D = some { cls := .type "list", data := .seq its.toArray n }) (rv : Vals ys its) (z : ys.length <= sizeLine) : Inv X pins σ (upd H' D (.lst ys)) s' := by
  have nD : ∀ b o, s.heap.get? b = some o -> b ≠ D := fun b o e q => by rw [q, Heap.get?_none_of_le ds] at e; cases e
  have nH : ∀ b o, H' b = some o -> b ≠ D := fun b o e q => by rw [q, dn] at e; cases e
  refine I.call' (ch := fp) ho ⟨u.keep, u.slot, fun b o e q hx => ?_, u.there, fun b xs e => ?_, fun b o v e => ?_, fun b ps e => ?_⟩ (fun b o e => ?_) hg fun b hb => ?_
  . rw [upd_ne (nD b o e)]; exact u.free b o e q hx
  . have := u.tups b xs e
    rw [upd_ne (nH _ _ this)]; exact this
  . have := u.frzs b o v e
    rw [upd_ne (nH _ _ this)]; exact this
  . obtain ⟨more, q⟩ := u.tbls b ps e
    exact ⟨more, by rw [upd_ne (nH _ _ q)]; exact q⟩
  . by_cases hb : b = D
    . subst hb
      rw [upd_same] at e
      cases e
      exact ⟨z, its, n, rv, d⟩
    . rw [upd_ne hb] at e
      exact (hok b o e).stay (fun _ _ _ q => q) (fun c q => by rw [upd_ne (nH _ _ q)]; exact q) fun c xs q => by rw [upd_ne (nH _ _ q)]; exact q
  . obtain ⟨q1, q2, q3, q4, q5, q6⟩ := f2 b hb
    exact ⟨q4, q2, q5, q6⟩
theorem Inv.dictGone {s' : Shared} {h' : Heap} {C : Addr} {H' : Hp} {σ' : St} (I : Inv X pins σ H s) (J : Inv X pins σ' H' s') (hC : s.heap.objs.size <= C) (hn : H' C = none) (k : Heap.SameBut C s'.heap h') : Inv X pins σ' H' { s' with heap := h' } := by
  have hC0 := Heap.get?_none_of_le hC
  refine J.turned (t' := s'.toks) (fun b o hb e => (k.2 b hb).trans e) hn (fun z => ?_) (.inr (Nat.le_trans I.sz hC)) (fun x c e z => ?_) fun p hp z => ?_
  . obtain ⟨m, ⟨o, _, _, ho, _⟩, _⟩ := I.loc
    rw [<- z, hC0] at ho; cases ho
  . obtain ⟨v, o, ho, _⟩ := I.cell x c e
    rw [z, hC0] at ho; cases ho
  . have := (I.pin p hp).1
    rw [z, hC0] at this; cases this
theorem pe_comp (hc : X.calm = true) (hi : PI X tg iter wi) (S : CompScope scope X.env.scope)
    (hlen : N'.length = own + ix.length) (hN : (N'.drop own).map some = ix.map (X.N[·]?)) (hfr : ∀ x ∈ N'.drop own, scope.names.lookup x = some .free)
    (hg : ∀ c, PG (X.comp scope N' c) tg g) (hgo : GOwn own g) (ht : ∀ c, PTs (X.comp scope N' c) ifs tc) (he : ∀ c, PE (X.comp scope N' c) elt te)
    (hs : ∀ x, foldedSetIterable iter X.env x = pure x := by intro _; rfl) : PE X (.ListComp elt [⟨tg, iter, ifs, 0⟩] scope pos) (tComp wi own ix g tc te) := by
  intro pins s σ H Q I h
  rw [eval_ListComp]
  have hfree : ∀ y ∈ scope.names, y.2 = .free -> ∃ c, X.env.cells.lookup y.1 = some c := fun y hy h => I.ok.has y.1 (S.fr y hy h)
  refine wpAny_comprehension_free (use := none) rfl hs (closureFor_eq hfree) S.kind (fun y hy hl => lookup_nd S.nd (by rw [<- hl]; exact hy)) ?_
  refine thn (hi pins s σ H _ I h) fun v s1 h1 => thn h1 fun itv s2 h2 => ?_
  obtain ⟨it, fp, tn, J, H2, e, I2, T, st2, f2, q2⟩ := h2
  subst e
  refine comp_block (RR := fun acc C => compPost (model X.prog X.w) X.A X.xe none (EP X pins σ Q) acc C) I2 T st2 f2 hc S hlen hN hfr hg hgo ht he q2 ?_
  intro D C s' H' ys its n ho hgn u hok hm hC hCs hD hDs hDC d rv z q
  obtain ⟨m, hm⟩ := hm
  have I3 := comp_adopt I2 f2 ho hgn u hok hD hDs d rv z
  refine ⟨m, hm, fun h' hs' => ?_⟩
  exact ⟨.ref D, _, I2.dictGone I3 hCs (by rw [upd_ne (Ne.symm hDC)]; exact hC) hs', rfl, q D hD⟩
theorem ps_comp {i : Nat} {y : Str} {py spos : Pos} (hc : X.calm = true) (hnd : X.N.Nodup) (hiy : X.N[i]? = some y) (hy : X.env.scope.names.lookup y = some .local) (hi : PI X tg iter wi) (S : CompScope scope X.env.scope)
    (hlen : N'.length = own + ix.length) (hN : (N'.drop own).map some = ix.map (X.N[·]?)) (hfr : ∀ x ∈ N'.drop own, scope.names.lookup x = some .free)
    (hg : ∀ c, PG (X.comp scope N' c) tg g) (hgo : GOwn own g) (ht : ∀ c, PTs (X.comp scope N' c) ifs tc) (he : ∀ c, PE (X.comp scope N' c) elt te)
    (hsw : swapsWith (.ListComp elt [⟨tg, iter, ifs, 0⟩] scope pos) (some (.Name y py)) spos.line X.env = pure true)
    (hs : ∀ x, foldedSetIterable iter X.env x = pure x := by intro _; rfl) : PS X (.Assign [.Name y py] (.ListComp elt [⟨tg, iter, ifs, 0⟩] scope pos) spos) (tAsg (tComp wi own ix g tc te) (gName i)) := by
  intro pins s σ H D I h
  rw [exec_Assign_Name_used _ _ _ _ hsw]
  refine wpAny_bind (wpAny_standAt (wpAny_bind ?_))
  show wpAny _ _ (do let _ <- comprehension (.ListComp elt [⟨tg, iter, ifs, 0⟩] scope pos) scope X.env _ (newList []) false (eval iter X.env) (some (assign (.Name y py) X.env))) _ _ s
  have hfree : ∀ y ∈ scope.names, y.2 = .free -> ∃ c, X.env.cells.lookup y.1 = some c := fun y hy h => I.ok.has y.1 (S.fr y hy h)
  refine wpAny_bind (wpAny_mono (wpAny_comprehension_free (use := some (assign (.Name y py) X.env)) (Q := fun _ s' => SP X pins D .next s') rfl hs (closureFor_eq hfree) S.kind (fun y hy hl => lookup_nd S.nd (by rw [<- hl]; exact hy)) ?_) (fun _ s' hq => wpAny_pure (wpAny_pure hq)) fun _ _ e => e)
  refine thn (hi pins s σ H _ I h) fun v s1 h1 => thn h1 fun itv s2 h2 => ?_
  obtain ⟨it, fp, tn, J, H2, e, I2, T, st2, f2, q2⟩ := h2
  subst e
  refine comp_block (RR := fun acc C => compPost (model X.prog X.w) X.A X.xe (some (assign (.Name y py) X.env)) (fun _ s' => SP X pins D .next s') acc C) I2 T st2 f2 hc S hlen hN hfr hg hgo ht he q2 ?_
  intro d C s' H' ys its n ho hgn u hok hm hC hCs hD hDs hDC hd rv z q
  obtain ⟨m, hm⟩ := hm
  have I3 := comp_adopt I2 f2 ho hgn u hok hD hDs hd rv z
  show wpAny _ _ (assign (.Name y py) X.env (.ref d)) _ _ s'
  have hCn : (upd H' d (.lst ys)) C = none := by rw [upd_ne (Ne.symm hDC)]; exact hC
  refine wpAny_assign_Name (store_ok2 I3 hnd hiy (.inl hy) (v := .ref d) rfl (fun s3 I4 ⟨a, sb, ha⟩ => ?_) (.inr hy))
  have ha' : a ≠ C := fun e => by
    have hC0 := Heap.get?_none_of_le hCs
    rcases ha with z | z
    . obtain ⟨m, ⟨o, _, _, ho, _⟩, _⟩ := I2.loc
      rw [<- z, e, hC0] at ho; cases ho
    . obtain ⟨v, o, ho, _⟩ := I2.cell y a z
      rw [e, hC0] at ho; cases ho
  refine ⟨m, hm.sameBut sb (Ne.symm ha'), fun h' hs' => ?_⟩
  exact ⟨_, _, I2.dictGone I4 hCs hCn hs', q d hD⟩
end
section
variable {X : Cx}
theorem PE.imp {e : Expr} {t t' : TE} (h : PE X e t) (f : ∀ σ H Q, t' σ H Q -> t σ H Q) : PE X e t' := fun pins s σ H Q I q => h pins s σ H Q I (f σ H Q q)
theorem OpR.imp {f : Value -> Value -> Sem Value} {r r' : R2} (h : OpR X f r) (g : ∀ x y H Q, r' x y H Q -> r x y H Q) : OpR X f r' := fun pins s σ H x y v u Q I rx ry q => h pins s σ H x y v u Q I rx ry (g _ _ _ _ q)
theorem CallR.imp {f : Value} {r r' : List V -> Hp -> VK -> Prop} (h : CallR X f r) (g : ∀ x H Q, r' x H Q -> r x H Q) : CallR X f r' := fun pins s σ H xs us Q I r q => h pins s σ H xs us Q I r (g _ _ _ q)
def vVar (i : Nat) : TE := fun σ H Q => match σ[i]? with
  | some (some v) => Q v H
  | _ => False
theorem vv (i : Nat) {x : Str} {pos : Pos} (hN : X.N[i]? = some x := by rfl) (hv : Vis X.env.scope x := by first | exact Or.inl rfl | exact Or.inr (Or.inl rfl) | exact Or.inr (Or.inr rfl)) (hd : (x == ("__debug__" : Str)) = false := by decide)
    (hcd : (x == ("__classdict__" : Str)) = false := by decide) : PE X (.Name x pos) (vVar i) := (pe_var hN hv hd hcd).imp fun σ H Q q => by
  unfold vVar at q
  split at q
  . rename_i v e; exact ⟨v, e, q⟩
  . exact q.elim
def okMul (i j : Int) : Prop := (i.natAbs < 2 ^ 4096 /\ j.natAbs < 2 ^ 4096) \/ (-(2 ^ 64) < i /\ i < 2 ^ 64) \/ (-(2 ^ 64) < j /\ j < 2 ^ 64)
theorem bits_of {i : Int} (h : i.natAbs < 2 ^ 4096) : Builtin.Int.intBits i <= 2 ^ 20 := by
  unfold Builtin.Int.intBits
  split
  . exact Nat.zero_le _
  . rename_i hz
    have hne : i.natAbs ≠ 0 := by
      have : ¬ i = 0 := by simpa using hz
      omega
    have := (Nat.log2_lt hne).mpr h
    have e : (2 : Nat) ^ 20 = 1048576 := by decide
    omega
theorem okMul.ok {i j : Int} (h : okMul i j) : IntMulOk i j := by
  rcases h with ⟨h1, h2⟩ | h | h
  . exact .of_bits (bits_of h1) (bits_of h2)
  . exact CMul.ok (.inl h)
  . exact CMul.ok (.inr h)
def okDiv (j : Int) : Prop := 0 < j /\ j < 2 ^ 4096
theorem okDiv.ok {i j : Int} (h : okDiv j) : Builtin.divisionGoesByPylong i j = false := by
  refine PyProof.noPylong_of_log2 ?_
  obtain ⟨h1, h2⟩ := h
  have hne : j.natAbs ≠ 0 := by omega
  have h3 : j.natAbs < 2 ^ 4096 := by
    have e : ((j.natAbs : Int)) = j := by omega
    have h2' : ((j.natAbs : Nat) : Int) < ((2 ^ 4096 : Nat) : Int) := by rw [e, Int.natCast_pow]; exact h2
    exact Int.ofNat_lt.mp h2'
  have := (Nat.log2_lt hne).mpr h3
  omega
def mAdd (K : PySem.W.Frag) : R2 := fun x y H Q => match x, y with
  | .int i, .int j => Q (.int (i + j)) H
  | .str a, .str b => a.length + b.length <= sizeLine /\ Q (.str (a ++ b)) H
  | .ref a, .ref b => rCat (.ref a) (.ref b) H Q \/ rCatT K (.ref a) (.ref b) H Q
  | _, _ => False
theorem om_add : OpR X (binaryOp .Add) (mAdd X.K) := by
  intro pins s σ H x y v u Q I rx ry q
  cases x <;> cases y <;> first
    | exact False.elim q
    | exact op_add pins s σ H _ _ v u Q I rx ry ⟨_, _, rfl, rfl, q⟩
    | exact op_add_str pins s σ H _ _ v u Q I rx ry ⟨_, _, rfl, rfl, q.1, q.2⟩
    | (rcases q with q | q
       . exact op_cat pins s σ H _ _ v u Q I rx ry q
       . exact op_catT pins s σ H _ _ v u Q I rx ry q)
def mSub : R2 := fun x y H Q => match x, y with
  | .int i, .int j => Q (.int (i - j)) H
  | _, _ => False
theorem om_sub : OpR X (binaryOp .Sub) mSub := by
  intro pins s σ H x y v u Q I rx ry q
  cases x <;> cases y <;> first
    | exact False.elim q
    | exact op_sub pins s σ H _ _ v u Q I rx ry ⟨_, _, rfl, rfl, q⟩
def mMul : R2 := fun x y H Q => match x, y with
  | .int i, .int j => okMul i j /\ Q (.int (i * j)) H
  | .ref a, .int k => rRep (.ref a) (.int k) H Q
  | _, _ => False
theorem om_mul : OpR X (binaryOp .Mult) mMul := by
  have hI : OpR X (binaryOp .Mult) (rI okMul fun i j => .int (i * j)) := opI fun _ _ _ _ _ _ _ hc q => mul_int q hc.ok
  intro pins s σ H x y v u Q I rx ry q
  cases x <;> cases y <;> first
    | exact False.elim q
    | exact hI pins s σ H _ _ v u Q I rx ry ⟨_, _, rfl, rfl, q.1, q.2⟩
    | exact op_rep pins s σ H _ _ v u Q I rx ry q
def mDiv : R2 := fun x y H Q => match x, y with
  | .int i, .int j => okDiv j /\ Q (.int (i / j)) H
  | _, _ => False
theorem om_div : OpR X (binaryOp .FloorDiv) mDiv := by
  have hI : OpR X (binaryOp .FloorDiv) (rI (fun _ j => okDiv j) fun i j => .int (i / j)) := opI fun i j _ _ _ _ _ hc q => by
    refine floordiv_int (by have := hc.1; omega) ?_ (.inl hc.ok)
    rw [Int.fdiv_eq_ediv_of_nonneg i (by have := hc.1; omega)]
    exact q
  intro pins s σ H x y v u Q I rx ry q
  cases x <;> cases y <;> first
    | exact False.elim q
    | exact hI pins s σ H _ _ v u Q I rx ry ⟨_, _, rfl, rfl, q.1, q.2⟩
def mMod : R2 := fun x y H Q => match x, y with
  | .int i, .int j => 0 < j /\ Q (.int (i % j)) H
  | _, _ => False
theorem om_mod : OpR X (binaryOp .Mod) mMod := by
  intro pins s σ H x y v u Q I rx ry q
  cases x <;> cases y <;> first
    | exact False.elim q
    | exact op_mod pins s σ H _ _ v u Q I rx ry ⟨_, _, rfl, rfl, q.1, q.2⟩
def mPow : R2 := fun x y H Q => match x, y with
  | .int i, .int j => CPow i j /\ Q (.int (i ^ j.toNat)) H
  | _, _ => False
theorem om_pow : OpR X (binaryOp .Pow) mPow := by
  intro pins s σ H x y v u Q I rx ry q
  cases x <;> cases y <;> first
    | exact False.elim q
    | exact op_pow pins s σ H _ _ v u Q I rx ry ⟨_, _, rfl, rfl, q.1, q.2⟩
def mBit (f : Int -> Int -> Int) : R2 := fun x y H Q => match x, y with
  | .int i, .int j => Q (.int (f i j)) H
  | _, _ => False
theorem om_and : OpR X (binaryOp .BitAnd) (mBit Builtin.bitAnd) := by
  intro pins s σ H x y v u Q I rx ry q
  cases x <;> cases y <;> first
    | exact False.elim q
    | exact op_and pins s σ H _ _ v u Q I rx ry ⟨_, _, rfl, rfl, q⟩
theorem om_xor : OpR X (binaryOp .BitXor) (mBit Builtin.bitXor) := by
  intro pins s σ H x y v u Q I rx ry q
  cases x <;> cases y <;> first
    | exact False.elim q
    | exact op_xor pins s σ H _ _ v u Q I rx ry ⟨_, _, rfl, rfl, q⟩
theorem om_or : OpR X (binaryOp .BitOr) (mBit Builtin.bitOr) := by
  intro pins s σ H x y v u Q I rx ry q
  cases x <;> cases y <;> first
    | exact False.elim q
    | exact op_or pins s σ H _ _ v u Q I rx ry ⟨_, _, rfl, rfl, q⟩
def mShl : R2 := fun x y H Q => match x, y with
  | .int i, .int j => CPow i j /\ Q (.int (i * 2 ^ j.toNat)) H
  | _, _ => False
theorem om_shl : OpR X (binaryOp .LShift) mShl := by
  intro pins s σ H x y v u Q I rx ry q
  cases x <;> cases y <;> first
    | exact False.elim q
    | exact op_shl pins s σ H _ _ v u Q I rx ry ⟨_, _, rfl, rfl, q.1, q.2⟩
def mNeg : V -> Hp -> VK -> Prop := fun x H Q => match x with
  | .int i => Q (.int (-i)) H
  | _ => False
theorem um_neg : UnR X (unaryOp .USub) mNeg := by
  intro pins s σ H x v Q I rx q
  cases x <;> first
    | exact False.elim q
    | exact un_neg pins s σ H _ v Q I rx ⟨_, rfl, q⟩
def mCmp (p : Int -> Int -> Bool) : R2 := fun x y H Q => match x, y with
  | .int i, .int j => Q (.bl (p i j)) H
  | _, _ => False
theorem om_lt : OpR X (compareOp .Lt) (mCmp fun i j => decide (i < j)) := by
  intro pins s σ H x y v u Q I rx ry q
  cases x <;> cases y <;> first
    | exact False.elim q
    | exact op_lt pins s σ H _ _ v u Q I rx ry ⟨_, _, rfl, rfl, q⟩
theorem om_le : OpR X (compareOp .LtE) (mCmp fun i j => decide (i <= j)) := by
  intro pins s σ H x y v u Q I rx ry q
  cases x <;> cases y <;> first
    | exact False.elim q
    | exact op_le pins s σ H _ _ v u Q I rx ry ⟨_, _, rfl, rfl, q⟩
theorem om_gt : OpR X (compareOp .Gt) (mCmp fun i j => decide (j < i)) := by
  intro pins s σ H x y v u Q I rx ry q
  cases x <;> cases y <;> first
    | exact False.elim q
    | exact op_gt pins s σ H _ _ v u Q I rx ry ⟨_, _, rfl, rfl, q⟩
theorem om_ge : OpR X (compareOp .GtE) (mCmp fun i j => decide (j <= i)) := by
  intro pins s σ H x y v u Q I rx ry q
  cases x <;> cases y <;> first
    | exact False.elim q
    | exact op_ge pins s σ H _ _ v u Q I rx ry ⟨_, _, rfl, rfl, q⟩
end
inductive Dv where
  | non | bl (b : Bool) | int (i : Int) | str (x : Str) | tup (ds : List Dv) | lst (ds : List Dv)
mutual
def Rep (K : PySem.W.Frag) (H : Hp) : Dv -> V -> Prop
  | .non, v => v = .non
  | .bl b, v => v = .bl b
  | .int i, v => v = .int i
  | .str x, v => v = .str x
  | .tup ds, v => ∃ a xs, v = .ref a /\ SqT K H a xs /\ Reps K H ds xs
  | .lst ds, v => ∃ a xs, v = .ref a /\ SqL K H a xs /\ Reps K H ds xs
def Reps (K : PySem.W.Frag) (H : Hp) : List Dv -> List V -> Prop
  | [], xs => xs = []
  | d :: ds, xs => ∃ x r, xs = x :: r /\ Rep K H d x /\ Reps K H ds r
end
mutual
def eqD : Dv -> Dv -> Bool
  | .non, .non => true
  | .bl a, .bl b => a == b
  | .bl a, .int b => (if a then 1 else 0) == b
  | .int a, .bl b => a == (if b then 1 else 0)
  | .int a, .int b => a == b
  | .str a, .str b => a == b
  | .tup ds, .tup es => eqDs ds es
  | .lst ds, .lst es => eqDs ds es
  | _, _ => false
def eqDs : List Dv -> List Dv -> Bool
  | [], [] => true
  | d :: ds, e :: es => eqD d e && eqDs ds es
  | _, _ => false
end
mutual
def depD : Dv -> Nat
  | .tup ds => depDs ds + 1
  | .lst ds => depDs ds + 1
  | _ => 0
def depDs : List Dv -> Nat
  | [] => 0
  | d :: ds => max (depD d) (depDs ds)
end
theorem eqD_tup (ds es : List Dv) : eqD (.tup ds) (.tup es) = eqDs ds es := by rw [eqD]
theorem eqD_lst (ds es : List Dv) : eqD (.lst ds) (.lst es) = eqDs ds es := by rw [eqD]
theorem Reps.length {K : PySem.W.Frag} {H : Hp} : ∀ {ds : List Dv} {xs : List V}, Reps K H ds xs -> ds.length = xs.length
  | [], xs, h => by unfold Reps at h; subst h; rfl
  | d :: ds, xs, h => by
    unfold Reps at h
    obtain ⟨x, r, rfl, _, h⟩ := h
    rw [List.length_cons, List.length_cons, Reps.length h]
theorem Reps.get {K : PySem.W.Frag} {H : Hp} : ∀ {ds : List Dv} {xs : List V} {i : Nat} {d : Dv}, Reps K H ds xs -> ds[i]? = some d -> ∃ x, xs[i]? = some x /\ Rep K H d x
  | [], _, _, _, _, e => by simp at e
  | d :: ds, xs, 0, _, h, e => by
    unfold Reps at h
    obtain ⟨x, r, rfl, h1, _⟩ := h
    simp at e; subst e
    exact ⟨x, rfl, h1⟩
  | d :: ds, xs, i + 1, _, h, e => by
    unfold Reps at h
    obtain ⟨x, r, rfl, _, h⟩ := h
    obtain ⟨y, h1, h2⟩ := Reps.get (i := i) h (by simpa using e)
    exact ⟨y, by simpa using h1, h2⟩
theorem depD_le {ds : List Dv} {i : Nat} {d : Dv} (h : ds[i]? = some d) : depD d <= depDs ds := by
  induction ds generalizing i with
  | nil => simp at h
  | cons e es ih =>
    unfold depDs
    cases i with
    | zero => simp at h; subst h; omega
    | succ i => have := ih (i := i) (by simpa using h); omega
theorem eqDs_all : ∀ (ds es : List Dv), ds.length = es.length -> eqDs ds es = (List.range ds.length).all fun i => match ds[i]?, es[i]? with | some d, some e => eqD d e | _, _ => false
  | [], [], _ => by unfold eqDs; rfl
  | d :: ds, e :: es, h => by
    unfold eqDs
    rw [List.length_cons, List.range_succ_eq_map, List.all_cons, List.all_map, eqDs_all ds es (by simpa using h)]
    congr 1
  | [], e :: es, h => by simp at h
  | d :: ds, [], h => by simp at h
theorem eqDs_len : ∀ (ds es : List Dv), ds.length ≠ es.length -> eqDs ds es = false
  | [], [], h => absurd rfl h
  | [], _ :: _, _ => by unfold eqDs; rfl
  | _ :: _, [], _ => by unfold eqDs; rfl
  | d :: ds, e :: es, h => by unfold eqDs; rw [eqDs_len ds es (fun z => h (by simp [z])), Bool.and_false]
mutual
theorem eqD_refl : ∀ d : Dv, eqD d d = true
  | .non => by unfold eqD; rfl
  | .bl b => by unfold eqD; simp
  | .int i => by unfold eqD; simp
  | .str x => by unfold eqD; simp
  | .tup ds => by unfold eqD; exact eqDs_refl ds
  | .lst ds => by unfold eqD; exact eqDs_refl ds
theorem eqDs_refl : ∀ ds : List Dv, eqDs ds ds = true
  | [] => by unfold eqDs; rfl
  | d :: ds => by unfold eqDs; rw [eqD_refl d, eqDs_refl ds]; rfl
end
section
variable {X : Cx} {pins : List (Addr × Obj)} {σ : St} {H : Hp} {s : Shared}
theorem no_both {a : Addr} {xs ys : List V} (I : Inv X pins σ H s) (h : SqL X.K H a xs) (h' : SqT X.K H a ys) : False := by
  obtain ⟨its, _, ⟨o, n, e, c, _⟩, _⟩ := I.list h
  obtain ⟨its', _, ⟨o', e', c', _⟩, _⟩ := I.tuple h'
  rw [e] at e'; cases e'
  rw [c] at c'
  exact absurd c' (by decide)
mutual
theorem rep_inj (I : Inv X pins σ H s) : ∀ (d e : Dv) (x : V), Rep X.K H d x -> Rep X.K H e x -> d = e
  | .non, e, x, h, h' => by
    unfold Rep at h; subst h
    cases e <;> unfold Rep at h' <;> first | rfl | (obtain ⟨a, xs, q, _⟩ := h'; cases q; done) | (cases h'; done)
  | .bl b, e, x, h, h' => by
    unfold Rep at h; subst h
    cases e <;> unfold Rep at h' <;> first | (obtain ⟨a, xs, q, _⟩ := h'; cases q; done) | (cases h'; rfl) | (cases h'; done)
  | .int b, e, x, h, h' => by
    unfold Rep at h; subst h
    cases e <;> unfold Rep at h' <;> first | (obtain ⟨a, xs, q, _⟩ := h'; cases q; done) | (cases h'; rfl) | (cases h'; done)
  | .str b, e, x, h, h' => by
    unfold Rep at h; subst h
    cases e <;> unfold Rep at h' <;> first | (obtain ⟨a, xs, q, _⟩ := h'; cases q; done) | (cases h'; rfl) | (cases h'; done)
  | .tup ds, e, x, h, h' => by
    unfold Rep at h
    obtain ⟨a, xs, rfl, hs, hr⟩ := h
    cases e with
    | tup es =>
      unfold Rep at h'
      obtain ⟨b, ys, q, hs', hr'⟩ := h'
      cases q
      rw [I.tuple_inj hs' hs] at hr'
      rw [reps_inj I ds es xs hr hr']
    | lst es =>
      unfold Rep at h'
      obtain ⟨b, ys, q, hs', hr'⟩ := h'
      cases q
      exact (no_both I hs' hs).elim
    | _ => unfold Rep at h'; cases h'
  | .lst ds, e, x, h, h' => by
    unfold Rep at h
    obtain ⟨a, xs, rfl, hs, hr⟩ := h
    cases e with
    | lst es =>
      unfold Rep at h'
      obtain ⟨b, ys, q, hs', hr'⟩ := h'
      cases q
      rw [I.list_inj hs' hs] at hr'
      rw [reps_inj I ds es xs hr hr']
    | tup es =>
      unfold Rep at h'
      obtain ⟨b, ys, q, hs', hr'⟩ := h'
      cases q
      exact (no_both I hs hs').elim
    | _ => unfold Rep at h'; cases h'
theorem reps_inj (I : Inv X pins σ H s) : ∀ (ds es : List Dv) (xs : List V), Reps X.K H ds xs -> Reps X.K H es xs -> ds = es
  | [], es, xs, h, h' => by
    unfold Reps at h; subst h
    cases es with
    | nil => rfl
    | cons e es => unfold Reps at h'; obtain ⟨x, r, q, _⟩ := h'; cases q
  | d :: ds, es, xs, h, h' => by
    unfold Reps at h
    obtain ⟨x, r, rfl, h1, h2⟩ := h
    cases es with
    | nil => unfold Reps at h'; cases h'
    | cons e es =>
      unfold Reps at h'
      obtain ⟨y, r', q, h3, h4⟩ := h'
      cases q
      rw [rep_inj I d e _ h1 h3, reps_inj I ds es _ h2 h4]
end
abbrev Eq3 (A : Around) (s : Shared) (u v : Value) (b : Bool) : Prop := SeqAt.EqAt A s u v b /\ SeqAt.RcAt A s u v b /\ SeqAt.RcNeAt A s u v (!b)
theorem eq3_tup {A : Around} {a b : Addr} {xs ys : List V} {ds es : List Dv} (I : Inv X pins σ H s) (hu : A.units < cLine) (ha : SqT X.K H a xs) (hb : SqT X.K H b ys) (hd : Reps X.K H ds xs) (he : Reps X.K H es ys)
    (ih : ∀ (i : Nat) (d e : Dv) (x y : V) (u v : Value), ds[i]? = some d -> es[i]? = some e -> xs[i]? = some x -> ys[i]? = some y -> RelV x u -> RelV y v -> SeqAt.EqAt A.in1 s u v (eqD d e)) : Eq3 A s (.ref a) (.ref b) (eqD (.tup ds) (.tup es)) := by
  obtain ⟨its, r1, p1, _⟩ := I.tuple ha
  obtain ⟨its2, r2, p2, _⟩ := I.tuple hb
  have l1 := hd.length; have l2 := he.length; have l3 := r1.length; have l4 := r2.length
  have hitem : ∀ j (h1 : j < its.toArray.size) (h2 : j < its2.toArray.size), SeqAt.EqAt A.in1 s its.toArray[j] its2.toArray[j] (match ds[j]?, es[j]? with | some d, some e => eqD d e | _, _ => false) := fun j h1 h2 => by
    rw [List.size_toArray] at h1 h2
    have e1 : ds[j]? = some ds[j] := List.getElem?_eq_getElem (by omega)
    have e2 : es[j]? = some es[j] := List.getElem?_eq_getElem (by omega)
    have e3 : xs[j]? = some xs[j] := List.getElem?_eq_getElem (by omega)
    have e4 : ys[j]? = some ys[j] := List.getElem?_eq_getElem (by omega)
    obtain ⟨u, q1, q2⟩ := r1.get e3
    obtain ⟨v, q3, q4⟩ := r2.get e4
    rw [e1, e2]
    have z1 : its.toArray[j] = u := by rw [List.getElem_toArray]; rw [List.getElem?_eq_getElem h1] at q1; exact Option.some.inj q1
    have z2 : its2.toArray[j] = v := by rw [List.getElem_toArray]; rw [List.getElem?_eq_getElem h2] at q3; exact Option.some.inj q3
    rw [z1, z2]
    exact ih j _ _ _ _ _ _ e1 e2 e3 e4 q2 q4
  have val : ((List.range (min its.toArray.size its2.toArray.size)).all (fun j => match ds[j]?, es[j]? with | some d, some e => eqD d e | _, _ => false) && its.toArray.size == its2.toArray.size) = eqD (.tup ds) (.tup es) := by
    rw [List.size_toArray, List.size_toArray, <- l3, <- l4, <- l1, <- l2, eqD_tup]
    by_cases h : ds.length = es.length
    . rw [h, Nat.min_self, <- h, eqDs_all ds es h]
      simp
    . rw [eqDs_len ds es h]
      have : (ds.length == es.length) = false := by simpa using h
      rw [this, Bool.and_false]
  have R := SeqAt.RcAt.tuples (A := A) p1 p2 hu hitem
  have N := SeqAt.RcNeAt.tuples (A := A) p1 p2 hu hitem
  rw [val] at R N
  refine ⟨?_, R, N⟩
  by_cases hab : a = b
  . subst hab
    have e : ds = es := by
      have := rep_inj I (.tup ds) (.tup es) (.ref a) (by unfold Rep; exact ⟨a, xs, rfl, ha, hd⟩) (by unfold Rep; exact ⟨a, ys, rfl, hb, he⟩)
      cases this; rfl
    subst e
    rw [eqD_refl]
    exact SeqAt.EqAt.same _
  . exact .of_refs hab R
theorem eq3_lst {A : Around} {a b : Addr} {xs ys : List V} {ds es : List Dv} (I : Inv X pins σ H s) (hu : A.units < cLine) (ha : SqL X.K H a xs) (hb : SqL X.K H b ys) (hd : Reps X.K H ds xs) (he : Reps X.K H es ys)
    (ih : ∀ (i : Nat) (d e : Dv) (x y : V) (u v : Value), ds[i]? = some d -> es[i]? = some e -> xs[i]? = some x -> ys[i]? = some y -> RelV x u -> RelV y v -> SeqAt.EqAt A.in1 s u v (eqD d e)) : Eq3 A s (.ref a) (.ref b) (eqD (.lst ds) (.lst es)) := by
  obtain ⟨its, r1, p1, _⟩ := I.list ha
  obtain ⟨its2, r2, p2, _⟩ := I.list hb
  have l1 := hd.length; have l2 := he.length; have l3 := r1.length; have l4 := r2.length
  have hitem : ∀ j (h1 : j < its.toArray.size) (h2 : j < its2.toArray.size), SeqAt.EqAt A.in1 s its.toArray[j] its2.toArray[j] (match ds[j]?, es[j]? with | some d, some e => eqD d e | _, _ => false) := fun j h1 h2 => by
    rw [List.size_toArray] at h1 h2
    have e1 : ds[j]? = some ds[j] := List.getElem?_eq_getElem (by omega)
    have e2 : es[j]? = some es[j] := List.getElem?_eq_getElem (by omega)
    have e3 : xs[j]? = some xs[j] := List.getElem?_eq_getElem (by omega)
    have e4 : ys[j]? = some ys[j] := List.getElem?_eq_getElem (by omega)
    obtain ⟨u, q1, q2⟩ := r1.get e3
    obtain ⟨v, q3, q4⟩ := r2.get e4
    rw [e1, e2]
    have z1 : its.toArray[j] = u := by rw [List.getElem_toArray]; rw [List.getElem?_eq_getElem h1] at q1; exact Option.some.inj q1
    have z2 : its2.toArray[j] = v := by rw [List.getElem_toArray]; rw [List.getElem?_eq_getElem h2] at q3; exact Option.some.inj q3
    rw [z1, z2]
    exact ih j _ _ _ _ _ _ e1 e2 e3 e4 q2 q4
  have RN : SeqAt.RcAt A s (.ref a) (.ref b) (eqD (.lst ds) (.lst es)) /\ SeqAt.RcNeAt A s (.ref a) (.ref b) (!eqD (.lst ds) (.lst es)) := by
    by_cases h : ds.length = es.length
    . have hsz : its.toArray.size = its2.toArray.size := by rw [List.size_toArray, List.size_toArray]; omega
      have val : (List.range its.toArray.size).all (fun j => match ds[j]?, es[j]? with | some d, some e => eqD d e | _, _ => false) = eqD (.lst ds) (.lst es) := by
        rw [eqD_lst, List.size_toArray, <- l3, <- l1, eqDs_all ds es h]
      have R := SeqAt.RcAt.lists (A := A) p1.isList p2.isList hsz hu hitem
      have N := SeqAt.RcNeAt.lists (A := A) p1.isList p2.isList hsz hu hitem
      rw [val] at R N
      exact ⟨R, N⟩
    . have hsz : (its.toArray.size != its2.toArray.size) = true := by rw [List.size_toArray, List.size_toArray]; simp; omega
      have val : eqD (.lst ds) (.lst es) = false := by rw [eqD_lst]; exact eqDs_len ds es h
      rw [val]
      exact ⟨SeqAt.RcAt.lists_lengths p1.isList p2.isList hsz hu, SeqAt.RcNeAt.lists_lengths p1.isList p2.isList hsz hu⟩
  refine ⟨?_, RN.1, RN.2⟩
  by_cases hab : a = b
  . subst hab
    have e : ds = es := by
      have := rep_inj I (.lst ds) (.lst es) (.ref a) (by unfold Rep; exact ⟨a, xs, rfl, ha, hd⟩) (by unfold Rep; exact ⟨a, ys, rfl, hb, he⟩)
      cases this; rfl
    subst e
    rw [eqD_refl]
    exact SeqAt.EqAt.same _
  . exact .of_refs hab RN.1
theorem eq_all (I : Inv X pins σ H s) : ∀ (n : Nat) (A : Around) (d e : Dv) (x y : V) (u v : Value), depD d <= n -> A.units + n < cLine -> Rep X.K H d x -> Rep X.K H e y -> RelV x u -> RelV y v -> Eq3 A s u v (eqD d e) := by
  intro n
  induction n with
  | zero =>
    intro A d e x y u v hd hu hx hy ru rv
    have hu' : A.units < cLine := by omega
    cases d with
    | tup ds => unfold depD at hd; omega
    | lst ds => unfold depD at hd; omega
    | non =>
      unfold Rep at hx; subst hx; cases ru
      cases e <;> unfold Rep at hy
      case non => subst hy; cases rv; exact ⟨SeqAt.EqAt.same _, SeqAt.RcAt.none_none, SeqAt.RcNeAt.none_none⟩
      case bl => subst hy; cases rv; exact ⟨.none_bool _, .none_bool _, .none_bool _⟩
      case int => subst hy; obtain ⟨t, rfl⟩ := rv; exact ⟨.none_int _ _, .none_int _ _, .none_int _ _⟩
      case str => subst hy; obtain ⟨t, rfl⟩ := rv; exact ⟨.none_str _ _, .none_str _ _, .none_str _ _⟩
      case tup => obtain ⟨a, xs, rfl, ha, _⟩ := hy; cases rv; obtain ⟨its, _, p, _⟩ := I.tuple ha; exact ⟨.none_tuple p hu', .none_tuple p hu', .none_tuple p hu'⟩
      case lst => obtain ⟨a, xs, rfl, ha, _⟩ := hy; cases rv; obtain ⟨its, _, p, _⟩ := I.list ha; exact ⟨.none_list p.isList hu', .none_list p.isList hu', .none_list p.isList hu'⟩
    | bl c =>
      unfold Rep at hx; subst hx; cases ru
      cases e <;> unfold Rep at hy
      case non => subst hy; cases rv; exact ⟨.bool_none _, .bool_none _, .bool_none _⟩
      case bl => subst hy; cases rv; unfold eqD; exact ⟨.bool_bool _ _, .bool_bool _ _, .bool_bool _ _⟩
      case int => subst hy; obtain ⟨t, rfl⟩ := rv; unfold eqD; exact ⟨.bool_int _ _ _, .bool_int _ _ _, .bool_int _ _ _⟩
      case str => subst hy; obtain ⟨t, rfl⟩ := rv; exact ⟨.bool_str _ _ _, .bool_str _ _ _, .bool_str _ _ _⟩
      case tup => obtain ⟨a, xs, rfl, ha, _⟩ := hy; cases rv; obtain ⟨its, _, p, _⟩ := I.tuple ha; exact ⟨.bool_tuple _ p hu', .bool_tuple _ p hu', .bool_tuple _ p hu'⟩
      case lst => obtain ⟨a, xs, rfl, ha, _⟩ := hy; cases rv; obtain ⟨its, _, p, _⟩ := I.list ha; exact ⟨.bool_list _ p.isList hu', .bool_list _ p.isList hu', .bool_list _ p.isList hu'⟩
    | int c =>
      unfold Rep at hx; subst hx; obtain ⟨t0, rfl⟩ := ru
      cases e <;> unfold Rep at hy
      case non => subst hy; cases rv; exact ⟨.int_none _ _, .int_none _ _, .int_none _ _⟩
      case bl => subst hy; cases rv; unfold eqD; exact ⟨.int_bool _ _ _, .int_bool _ _ _, .int_bool _ _ _⟩
      case int => subst hy; obtain ⟨t, rfl⟩ := rv; unfold eqD; exact ⟨.int_int _ _ _ _, .int_int _ _ _ _, .int_int _ _ _ _⟩
      case str => subst hy; obtain ⟨t, rfl⟩ := rv; exact ⟨.int_str _ _ _ _, .int_str _ _ _ _, .int_str _ _ _ _⟩
      case tup => obtain ⟨a, xs, rfl, ha, _⟩ := hy; cases rv; obtain ⟨its, _, p, _⟩ := I.tuple ha; exact ⟨.int_tuple _ _ p hu', .int_tuple _ _ p hu', .int_tuple _ _ p hu'⟩
      case lst => obtain ⟨a, xs, rfl, ha, _⟩ := hy; cases rv; obtain ⟨its, _, p, _⟩ := I.list ha; exact ⟨.int_list _ _ p.isList hu', .int_list _ _ p.isList hu', .int_list _ _ p.isList hu'⟩
    | str c =>
      unfold Rep at hx; subst hx; obtain ⟨t0, rfl⟩ := ru
      cases e <;> unfold Rep at hy
      case non => subst hy; cases rv; exact ⟨.str_none _ _, .str_none _ _, .str_none _ _⟩
      case bl => subst hy; cases rv; exact ⟨.str_bool _ _ _, .str_bool _ _ _, .str_bool _ _ _⟩
      case int => subst hy; obtain ⟨t, rfl⟩ := rv; exact ⟨.str_int _ _ _ _, .str_int _ _ _ _, .str_int _ _ _ _⟩
      case str => subst hy; obtain ⟨t, rfl⟩ := rv; unfold eqD; exact ⟨.str_str _ _ _ _, .str_str _ _ _ _, .str_str _ _ _ _⟩
      case tup => obtain ⟨a, xs, rfl, ha, _⟩ := hy; cases rv; obtain ⟨its, _, p, _⟩ := I.tuple ha; exact ⟨.str_tuple _ _ p hu', .str_tuple _ _ p hu', .str_tuple _ _ p hu'⟩
      case lst => obtain ⟨a, xs, rfl, ha, _⟩ := hy; cases rv; obtain ⟨its, _, p, _⟩ := I.list ha; exact ⟨.str_list _ _ p.isList hu', .str_list _ _ p.isList hu', .str_list _ _ p.isList hu'⟩
  | succ n ih =>
    intro A d e x y u v hd hu hx hy ru rv
    have hu' : A.units < cLine := by omega
    have hin : A.in1.units + n < cLine := by show A.units + 1 + n < cLine; omega
    cases d with
    | tup ds =>
      unfold depD at hd
      unfold Rep at hx
      obtain ⟨a, xs, rfl, ha, hr⟩ := hx
      cases ru
      cases e <;> unfold Rep at hy
      case tup es =>
        obtain ⟨b, ys, rfl, hb, hr'⟩ := hy
        cases rv
        refine eq3_tup I hu' ha hb hr hr' fun i d e x y u v e1 e2 e3 e4 ru rv => ?_
        obtain ⟨x', q1, q2⟩ := hr.get e1
        obtain ⟨y', q3, q4⟩ := hr'.get e2
        rw [e3] at q1; cases q1
        rw [e4] at q3; cases q3
        exact (ih A.in1 d e x y u v (by have := depD_le e1; omega) hin q2 q4 ru rv).1
      case non => subst hy; cases rv; obtain ⟨its, _, p, _⟩ := I.tuple ha; exact ⟨.tuple_none p hu', .tuple_none p hu', .tuple_none p hu'⟩
      case bl => subst hy; cases rv; obtain ⟨its, _, p, _⟩ := I.tuple ha; exact ⟨.tuple_bool _ p hu', .tuple_bool _ p hu', .tuple_bool _ p hu'⟩
      case int => subst hy; obtain ⟨t, rfl⟩ := rv; obtain ⟨its, _, p, _⟩ := I.tuple ha; exact ⟨.tuple_int _ _ p hu', .tuple_int _ _ p hu', .tuple_int _ _ p hu'⟩
      case str => subst hy; obtain ⟨t, rfl⟩ := rv; obtain ⟨its, _, p, _⟩ := I.tuple ha; exact ⟨.tuple_str _ _ p hu', .tuple_str _ _ p hu', .tuple_str _ _ p hu'⟩
      case lst => obtain ⟨b, ys, rfl, hb, _⟩ := hy; cases rv; obtain ⟨its, _, p, _⟩ := I.tuple ha; obtain ⟨its2, _, p2, _⟩ := I.list hb; exact ⟨.tuple_list p p2.isList hu', .tuple_list p p2.isList hu', .tuple_list p p2.isList hu'⟩
    | lst ds =>
      unfold depD at hd
      unfold Rep at hx
      obtain ⟨a, xs, rfl, ha, hr⟩ := hx
      cases ru
      cases e <;> unfold Rep at hy
      case lst es =>
        obtain ⟨b, ys, rfl, hb, hr'⟩ := hy
        cases rv
        refine eq3_lst I hu' ha hb hr hr' fun i d e x y u v e1 e2 e3 e4 ru rv => ?_
        obtain ⟨x', q1, q2⟩ := hr.get e1
        obtain ⟨y', q3, q4⟩ := hr'.get e2
        rw [e3] at q1; cases q1
        rw [e4] at q3; cases q3
        exact (ih A.in1 d e x y u v (by have := depD_le e1; omega) hin q2 q4 ru rv).1
      case non => subst hy; cases rv; obtain ⟨its, _, p, _⟩ := I.list ha; exact ⟨.list_none p.isList hu', .list_none p.isList hu', .list_none p.isList hu'⟩
      case bl => subst hy; cases rv; obtain ⟨its, _, p, _⟩ := I.list ha; exact ⟨.list_bool _ p.isList hu', .list_bool _ p.isList hu', .list_bool _ p.isList hu'⟩
      case int => subst hy; obtain ⟨t, rfl⟩ := rv; obtain ⟨its, _, p, _⟩ := I.list ha; exact ⟨.list_int _ _ p.isList hu', .list_int _ _ p.isList hu', .list_int _ _ p.isList hu'⟩
      case str => subst hy; obtain ⟨t, rfl⟩ := rv; obtain ⟨its, _, p, _⟩ := I.list ha; exact ⟨.list_str _ _ p.isList hu', .list_str _ _ p.isList hu', .list_str _ _ p.isList hu'⟩
      case tup => obtain ⟨b, ys, rfl, hb, _⟩ := hy; cases rv; obtain ⟨its, _, p, _⟩ := I.list ha; obtain ⟨its2, _, p2, _⟩ := I.tuple hb; exact ⟨.list_tuple p.isList p2 hu', .list_tuple p.isList p2 hu', .list_tuple p.isList p2 hu'⟩
    | non => exact ih A .non e x y u v (by unfold depD; omega) (by omega) hx hy ru rv
    | bl c => exact ih A (.bl c) e x y u v (by unfold depD; omega) (by omega) hx hy ru rv
    | int c => exact ih A (.int c) e x y u v (by unfold depD; omega) (by omega) hx hy ru rv
    | str c => exact ih A (.str c) e x y u v (by unfold depD; omega) (by omega) hx hy ru rv
end
section
variable {X : Cx}
def mEq (neg : Bool) (K : PySem.W.Frag) : R2 := fun x y H Q => match x, y with
  | .non, .non => Q (.bl (neg ^^ true)) H
  | .bl a, .bl b => Q (.bl (neg ^^ (a == b))) H
  | .int a, .int b => Q (.bl (neg ^^ (a == b))) H
  | .str a, .str b => Q (.bl (neg ^^ (a == b))) H
  | x, y => ∃ d e, Rep K H d x /\ Rep K H e y /\ depD d <= 60 /\ Q (.bl (neg ^^ eqD d e)) H
theorem om_eqAll (hu : X.A.units + 60 < cLine) : OpR X (compareOp .Eq) (fun x y H Q => ∃ d e, Rep X.K H d x /\ Rep X.K H e y /\ depD d <= 60 /\ Q (.bl (eqD d e)) H) := by
  intro pins s σ H x y v u Q I rx ry h
  obtain ⟨d, e, h1, h2, h3, q⟩ := h
  exact (eq_all I 60 X.A d e x y v u h3 hu h1 h2 rx ry).2.1 X.prog X.w _ _ ⟨.bl _, H, I, rfl, q⟩
theorem om_neAll (hu : X.A.units + 60 < cLine) : OpR X (compareOp .NotEq) (fun x y H Q => ∃ d e, Rep X.K H d x /\ Rep X.K H e y /\ depD d <= 60 /\ Q (.bl (!eqD d e)) H) := by
  intro pins s σ H x y v u Q I rx ry h
  obtain ⟨d, e, h1, h2, h3, q⟩ := h
  exact (eq_all I 60 X.A d e x y v u h3 hu h1 h2 rx ry).2.2 X.prog X.w _ _ ⟨.bl _, H, I, rfl, q⟩
theorem mEq_imp {neg : Bool} {K : PySem.W.Frag} {x y : V} {H : Hp} {Q : VK} (h : mEq neg K x y H Q) : ∃ d e, Rep K H d x /\ Rep K H e y /\ depD d <= 60 /\ Q (.bl (neg ^^ eqD d e)) H := by
  unfold mEq at h
  split at h
  . exact ⟨.non, .non, by unfold Rep; rfl, by unfold Rep; rfl, by unfold depD; omega, by unfold eqD; exact h⟩
  . rename_i a b; exact ⟨.bl a, .bl b, by unfold Rep; rfl, by unfold Rep; rfl, by unfold depD; omega, by unfold eqD; exact h⟩
  . rename_i a b; exact ⟨.int a, .int b, by unfold Rep; rfl, by unfold Rep; rfl, by unfold depD; omega, by unfold eqD; exact h⟩
  . rename_i a b; exact ⟨.str a, .str b, by unfold Rep; rfl, by unfold Rep; rfl, by unfold depD; omega, by unfold eqD; exact h⟩
  . exact h
theorem om_eq (hu : X.A.units + 60 < cLine) : OpR X (compareOp .Eq) (mEq false X.K) := (om_eqAll hu).imp fun x y H Q h => by
  obtain ⟨d, e, h1, h2, h3, q⟩ := mEq_imp h
  exact ⟨d, e, h1, h2, h3, by rw [Bool.false_xor] at q; exact q⟩
theorem om_ne (hu : X.A.units + 60 < cLine) : OpR X (compareOp .NotEq) (mEq true X.K) := (om_neAll hu).imp fun x y H Q h => by
  obtain ⟨d, e, h1, h2, h3, q⟩ := mEq_imp h
  exact ⟨d, e, h1, h2, h3, by rw [Bool.true_xor] at q; exact q⟩
end
section
variable {X : Cx} {a b c e : Expr} {es : List Expr} {ta tb tc te : TE} {tA tB' : TT} {t : TA} {pos p : Pos} {x : Str}
def isB (v : V) (Q : Bool -> Prop) : Prop := match v with
  | .bl c => Q c
  | _ => False
theorem isB_of {v : V} {Q : Bool -> Prop} (h : isB v Q) : ∃ c, v = .bl c /\ Q c := by
  cases v <;> first | exact False.elim h | exact ⟨_, rfl, h⟩
def EMono (t : TE) : Prop := ∀ σ H (Q Q' : VK), (∀ v H, Q v H -> Q' v H) -> t σ H Q -> t σ H Q'
def uB (t : TE) : TT := fun σ H Q => t σ H fun x H1 => isB x fun c => Q c H1
theorem tu_cmp {op : CmpOp} {r : R2} (ho : OpR X (compareOp op) r) (ha : PE X a ta) (hb : PE X b tb) (hm : behindInMarks op b = false := by first | exact nobehind _ (by decide) (by decide) | rfl) : PT X (.Compare a [op] [b] pos) (uB (tOp r ta tb)) := by
  intro pins s σ H Q I h
  refine wpAny_isTrue_Compare1 (thn (ha pins s σ H _ I h) fun v s1 ⟨x, H1, I1, r1, q1⟩ => thn (hb pins s1 σ H1 _ I1 q1) fun u s2 ⟨y, H2, I2, r2, q2⟩ =>
    thn (ho pins s2 σ H2 x y v u _ I2 r1 r2 q2) fun c s3 ⟨z, H3, I3, r3, q⟩ => ?_) hm
  obtain ⟨k, e, q3⟩ := isB_of q
  subst e
  cases r3
  exact wpAny_truthy_bool ⟨H3, I3, q3⟩
theorem pe_cmpM {op : CmpOp} {r : R2} (ho : OpR X (compareOp op) r) (ha : PE X a ta) (hb : PE X b tb) (hm : behindInMarks op b = false := by first | exact nobehind _ (by decide) (by decide) | rfl) : PE X (.Compare a [op] [b] pos) (tOp r ta tb) := pe_cmpR ho ha hb hm
theorem tu_val (h : PE X e te) (he : ∀ whole, isTrue e X.env whole = (do let v <- whole; standAt e.pos; holding [v] (truthy v)) := by intro _; rfl) : PT X e (uB te) := by
  intro pins s σ H Q I hq
  refine isTrue_plain (thn (h pins s σ H _ I hq) fun v s1 ⟨x, H1, I1, r1, q1⟩ => ?_) (he _)
  obtain ⟨k, e, q⟩ := isB_of q1
  subst e
  cases r1
  exact wpAny_truthy_bool ⟨H1, I1, q⟩
def vChain (r r' : R2) (ta tb tc : TE) : TE := fun σ H Q => ta σ H fun x H1 => tb σ H1 fun y H2 => r x y H2 fun z H3 => isB z fun k =>
  (if k = true then tc σ H3 fun w' H4 => r' y w' H4 Q else Q (.bl false) H3)
theorem pe_chainM {op op' : CmpOp} {r r' : R2} (ho : OpR X (compareOp op) r) (ho' : OpR X (compareOp op') r') (ha : PE X a ta) (hb : PE X b tb) (hc : PE X c tc)
    (hm : lastMarks [op, op'] [b, c] = false := by with_unfolding_all rfl) : PE X (.Compare a [op, op'] [b, c] pos) (vChain r r' ta tb tc) := by
  intro pins s σ H Q I h
  refine Compare_chain (thn (ha pins s σ H _ I h) fun v s1 ⟨x, H1, I1, r1, q1⟩ => chain_link (thn (hb pins s1 σ H1 _ I1 q1) fun u s2 ⟨y, H2, I2, r2, q2⟩ =>
    thn (ho pins s2 σ H2 x y v u _ I2 r1 r2 q2) fun d s3 ⟨z, H3, I3, r3, q⟩ => ?_)) hm
  obtain ⟨k, e, q3⟩ := isB_of q
  subst e
  cases r3
  refine wpAny_truthy_bool ?_
  cases k with
  | false => exact ite_ff ⟨.bl false, H3, I3, rfl, q3⟩
  | true => exact ite_tt (chain_last (thn (hc pins s3 σ H3 _ I3 q3) fun w' s4 ⟨z', H4, I4, r4, q4⟩ => ho' pins s4 σ H4 y z' u w' Q I4 r2 r4 q4))
def vAnd (ta tb : TE) : TE := fun σ H Q => ta σ H fun x H1 => isB x fun c => if c = true then tb σ H1 Q else Q (.bl false) H1
def vNot (ta : TE) : TE := fun σ H Q => ta σ H fun x H1 => isB x fun c => Q (.bl (!c)) H1
theorem pe_andM (ha : PE X a ta) (hb : PE X (.BoolOp .And (b :: es) pos) tb) : PE X (.BoolOp .And (a :: b :: es) pos) (vAnd ta tb) := by
  have ha' : PE X a (fun σ H Q => ta σ H fun x H1 => isB x fun c => Q (.bl c) H1) := fun pins s σ H Q I h => thn (ha pins s σ H _ I h) fun v s1 ⟨x, H1, I1, r1, q1⟩ => by
    obtain ⟨c, e, q⟩ := isB_of q1
    subst e
    exact ⟨.bl c, H1, I1, r1, q⟩
  have h := pe_and (pos := pos) ha' hb
  exact h.imp fun σ H Q q => by
    show ta σ H fun x H1 => isB x fun c => ∃ c', V.bl c = .bl c' /\ if c' = true then tb σ H1 Q else Q (.bl false) H1
    have e : (fun (x : V) (H1 : Hp) => isB x fun c => ∃ c', V.bl c = .bl c' /\ if c' = true then tb σ H1 Q else Q (.bl false) H1) = fun x H1 => isB x fun c => if c = true then tb σ H1 Q else Q (.bl false) H1 := by
      funext x H1
      cases x <;> first | rfl | (apply propext; constructor; (rintro ⟨c', e, h⟩; cases e; exact h); (intro h; exact ⟨_, rfl, h⟩))
    rw [e]
    exact q
theorem pe_notM (ha : PE X a ta) : PE X (.UnaryOp .Not a pos) (vNot ta) := by
  have ha' : PE X a (fun σ H Q => ta σ H fun x H1 => isB x fun c => Q (.bl c) H1) := fun pins s σ H Q I h => thn (ha pins s σ H _ I h) fun v s1 ⟨x, H1, I1, r1, q1⟩ => by
    obtain ⟨c, e, q⟩ := isB_of q1
    subst e
    exact ⟨.bl c, H1, I1, r1, q⟩
  have h := pe_not (pos := pos) ha'
  exact h.imp fun σ H Q q => by
    show ta σ H fun x H1 => isB x fun c => ∃ c', V.bl c = .bl c' /\ Q (.bl (!c')) H1
    have e : (fun (x : V) (H1 : Hp) => isB x fun c => ∃ c', V.bl c = .bl c' /\ Q (.bl (!c')) H1) = fun x H1 => isB x fun c => Q (.bl (!c)) H1 := by
      funext x H1
      cases x <;> first | rfl | (apply propext; constructor; (rintro ⟨c', e, h⟩; cases e; exact h); (intro h; exact ⟨_, rfl, h⟩))
    rw [e]
    exact q
def SqA (K : PySem.W.Frag) (H : Hp) (p : Addr) (xs : List V) : Prop := SqL K H p xs \/ SqT K H p xs
def mIx (K : PySem.W.Frag) : R2 := fun x y H Q => match x, y with
  | .ref p, .int i => ∃ xs v, SqA K H p xs /\ atI xs i = some v /\ Q v H
  | .str z, .int i => ∃ c, z.length <= sizeLine /\ atI z.cps.toList i = some c /\ Q (.str ⟨#[c]⟩) H
  | _, _ => False
theorem IxR.imp {r r' : R2} (h : IxR X r) (g : ∀ x y H Q, r' x y H Q -> r x y H Q) : IxR X r' := fun a b pins s σ H x y v u Q I rx ry q z => h a b pins s σ H x y v u Q I rx ry (g _ _ _ _ q) z
theorem xm_ix : IxR X (mIx X.K) := ix_seq.imp fun x y H Q q => by
  cases x <;> cases y <;> first
    | exact False.elim q
    | (obtain ⟨xs, v, h | h, e, q⟩ := q
       . exact .inl ⟨_, xs, _, v, rfl, rfl, h, e, q⟩
       . exact .inr (.inl ⟨_, xs, _, v, rfl, rfl, h, e, q⟩))
    | (obtain ⟨c, hz, e, q⟩ := q
       exact .inr (.inr ⟨_, _, c, rfl, rfl, hz, e, q⟩))
theorem pe_ixM (ha : PE X a ta) (hb : PE X b tb) (hs : PlainIx b := by intro _ _; rfl) : PE X (.Subscript a b pos) (tOp (mIx X.K) ta tb) := pe_ix xm_ix ha hb hs
def mLen (K : PySem.W.Frag) : List V -> Hp -> VK -> Prop := fun xs H Q => match xs with
  | [x] => ∃ n, LenV K x H n /\ Q (.int n) H
  | _ => False
theorem cm_len : CallR X (.builtin "len") (mLen X.K) := call_len.imp fun xs H Q q => by
  match xs, q with
  | [x], ⟨n, h, q⟩ => exact ⟨x, n, rfl, h, q⟩
def mAbs : List V -> Hp -> VK -> Prop := fun xs H Q => match xs with
  | [.int i] => Q (.int (i.natAbs : Int)) H
  | _ => False
theorem cm_abs : CallR X (.builtin "abs") mAbs := call_abs.imp fun xs H Q q => by
  match xs, q with
  | [.int i], q =>
    refine ⟨i, rfl, ?_⟩
    have e : (if i < 0 then -i else i) = (i.natAbs : Int) := by split <;> omega
    rw [e]
    exact q
def mMax : List V -> Hp -> VK -> Prop := fun xs H Q => match xs with
  | [.int i, .int j] => Q (.int (max i j)) H
  | _ => False
theorem cm_max (hc : X.calm = true) : CallR X (.builtin "max") mMax := (call_max2 hc).imp fun xs H Q q => by
  match xs, q with
  | [.int i, .int j], q =>
    refine ⟨i, j, rfl, ?_⟩
    have e : (if j > i then j else i) = max i j := by split <;> omega
    rw [e]
    exact q
def mMin : List V -> Hp -> VK -> Prop := fun xs H Q => match xs with
  | [.int i, .int j] => Q (.int (min i j)) H
  | _ => False
theorem cm_min (hc : X.calm = true) : CallR X (.builtin "min") mMin := (call_min2 hc).imp fun xs H Q q => by
  match xs, q with
  | [.int i, .int j], q =>
    refine ⟨i, j, rfl, ?_⟩
    have e : (if j < i then j else i) = min i j := by split <;> omega
    rw [e]
    exact q
def mInt : List V -> Hp -> VK -> Prop := fun xs H Q => match xs with
  | [.int i] => Q (.int i) H
  | [.bl k] => Q (.int (if k then 1 else 0)) H
  | _ => False
theorem cm_int : CallR X (.type "int") mInt := call_int1.imp fun xs H Q q => by
  match xs, q with
  | [.int i], q => exact .inl ⟨i, rfl, q⟩
  | [.bl k], q => exact .inr ⟨k, rfl, q⟩
def mTuple (K : PySem.W.Frag) : List V -> Hp -> VK -> Prop := fun xs H Q => match xs with
  | [.ref p] => ∃ ys, (SqL K H p ys /\ ∀ l, H l = none -> Q (.ref l) (upd H l (.tup ys))) \/ (SqT K H p ys /\ Q (.ref p) H)
  | _ => False
theorem cm_tuple : CallR X (.type "tuple") (mTuple X.K) := call_tuple_of.imp fun xs H Q q => by
  match xs, q with
  | [.ref p], ⟨ys, q⟩ => exact ⟨p, ys, rfl, q⟩
def mList (K : PySem.W.Frag) : List V -> Hp -> VK -> Prop := fun xs H Q => match xs with
  | [.ref p] => ∃ ys, SqA K H p ys /\ ∀ l, H l = none -> Q (.ref l) (upd H l (.lst ys))
  | _ => False
theorem cm_list : CallR X (.type "list") (mList X.K) := call_list_of.imp fun xs H Q q => by
  match xs, q with
  | [.ref p], ⟨ys, h, q⟩ => exact ⟨p, ys, rfl, h, q⟩
def isiT (K : PySem.W.Frag) (T : String) (x : V) (H : Hp) (b : Bool) : Prop := match x with
  | .non => b = (T == "NoneType")
  | .bl _ => b = (T == "bool" || T == "int")
  | .int _ => b = (T == "int")
  | .str _ => b = (T == "str")
  | .ref a => (∃ xs, (H a = some (.lst xs) \/ ∃ o, H a = some (.frz o (.lst xs))) /\ b = (T == "list")) \/ (∃ xs, H a = some (.tup xs) /\ b = (T == "tuple")) \/ ((∃ kvs, H a = some (.dK kvs)) /\ b = (T == "dict")) \/ ((∃ kvs, H a = some (.dT kvs)) /\ b = (T == "dict"))
  | _ => False
def kinds : List String := ["int", "bool", "str", "tuple", "list", "dict"]
theorem kit_all (K : PySem.W.Frag) : ∀ T ∈ kinds, PySem.W.kitOne K (.type "NoneType") (.type T) = some (T == "NoneType") /\ PySem.W.kitOne K (.type "bool") (.type T) = some (T == "bool" || T == "int") /\
    PySem.W.kitOne K (.type "int") (.type T) = some (T == "int") /\ PySem.W.kitOne K (.type "str") (.type T) = some (T == "str") /\ PySem.W.kitOne K (.type "list") (.type T) = some (T == "list") /\
    PySem.W.kitOne K (.type "tuple") (.type T) = some (T == "tuple") /\ PySem.W.kitOne K (.type "dict") (.type T) = some (T == "dict") := by
  intro T h
  unfold kinds at h
  rcases List.mem_cons.mp h with rfl | h
  . exact ⟨rfl, rfl, rfl, rfl, rfl, rfl, rfl⟩
  rcases List.mem_cons.mp h with rfl | h
  . exact ⟨rfl, rfl, rfl, rfl, rfl, rfl, rfl⟩
  rcases List.mem_cons.mp h with rfl | h
  . exact ⟨rfl, rfl, rfl, rfl, rfl, rfl, rfl⟩
  rcases List.mem_cons.mp h with rfl | h
  . exact ⟨rfl, rfl, rfl, rfl, rfl, rfl, rfl⟩
  rcases List.mem_cons.mp h with rfl | h
  . exact ⟨rfl, rfl, rfl, rfl, rfl, rfl, rfl⟩
  rcases List.mem_cons.mp h with rfl | h
  . exact ⟨rfl, rfl, rfl, rfl, rfl, rfl, rfl⟩
  . exact absurd h (by simp)
theorem isiT_ty {K : PySem.W.Frag} {T : String} {v : V} {H : Hp} {k : Bool} (hT : T ∈ kinds) (h : isiT K T v H k) : ∃ ty, TyOf K H v ty /\ PySem.W.kitOne K ty (.type T) = some k := by
  obtain ⟨k1, k2, k3, k4, k5, k6, k7⟩ := kit_all K T hT
  cases v with
  | non => cases (show k = _ from h); exact ⟨_, .non, k1⟩
  | bl _ => cases (show k = _ from h); exact ⟨_, .bl _, k2⟩
  | int _ => cases (show k = _ from h); exact ⟨_, .int _, k3⟩
  | str _ => cases (show k = _ from h); exact ⟨_, .str _, k4⟩
  | ref q =>
    rcases h with ⟨xs, h | ⟨o, h⟩, e⟩ | ⟨xs, h, e⟩ | ⟨⟨kvs, h⟩, e⟩ | ⟨⟨kvs, h⟩, e⟩
    . subst e; exact ⟨_, .lst h, k5⟩
    . subst e; exact ⟨_, .frz h, k5⟩
    . subst e; exact ⟨_, .tup h, k6⟩
    . subst e; exact ⟨_, .dK h, k7⟩
    . subst e; exact ⟨_, .dT h, k7⟩
  | _ => exact False.elim h
def mIsi (K : PySem.W.Frag) : List V -> Hp -> VK -> Prop := fun xs H Q => match xs with
  | [x, .ty T] => T ∈ kinds /\ ∃ k, isiT K T x H k /\ Q (.bl k) H
  | _ => False
theorem cm_isi : CallR X (.builtin "isinstance") (mIsi X.K) := by
  intro pins s σ H xs us Q I r q
  match xs, q with
  | [x, .ty T], q =>
    obtain ⟨hT, k, h, q⟩ := q
    obtain ⟨u, w', rfl, ru, rw'⟩ := vals2 r
    cases rw'
    obtain ⟨ty, h1, h2⟩ := isiT_ty hT h
    exact isinst_ok I ru h1 h2 fun tk => ⟨.bl k, H, I.tok _, rfl, q⟩
end
def compOkB (scope sc : Scope) : Bool :=
  decide (scope.kind = .function) && decide (scope.names.map (·.1)).Nodup && scope.names.all fun y => !(y.2 == .free) || (sc.names.lookup y.1 == some .cell || sc.names.lookup y.1 == some .free)
theorem CompScope.of {scope sc : Scope} (h : compOkB scope sc = true) : CompScope scope sc := by
  unfold compOkB at h
  rw [Bool.and_eq_true, Bool.and_eq_true] at h
  obtain ⟨⟨h1, h2⟩, h3⟩ := h
  refine ⟨of_decide_eq_true h1, of_decide_eq_true h2, fun y hy hf => ?_⟩
  have := List.all_eq_true.mp h3 y hy
  rw [hf] at this
  rcases (Bool.or_eq_true _ _).mp this with z | z
  . exact absurd z (by decide)
  . rcases (Bool.or_eq_true _ _).mp z with z | z
    . exact .inl (by simpa using z)
    . exact .inr (by simpa using z)
section
variable {X : Cx} {tg iter elt : Expr} {ifs : List Expr} {scope : Scope} {pos : Pos} {N' : List Str} {own : Nat} {ix : List Nat} {g : TG} {tc : TT} {te : TE} {wi : TI}
theorem frB {l : List Str} (h : (l.all fun x => scope.names.lookup x == some .free) = true) : ∀ x ∈ l, scope.names.lookup x = some .free := fun x hx => by
  have := List.all_eq_true.mp h x hx
  simpa using this
theorem pe_compB (hc : X.calm = true) (hi : PI X tg iter wi) (S : compOkB scope X.env.scope = true)
    (hlen : N'.length = own + ix.length) (hN : (N'.drop own).map some = ix.map (X.N[·]?)) (hfr : ((N'.drop own).all fun x => scope.names.lookup x == some .free) = true)
    (hg : ∀ c, PG (X.comp scope N' c) tg g) (hgo : GOwn own g) (ht : ∀ c, PTs (X.comp scope N' c) ifs tc) (he : ∀ c, PE (X.comp scope N' c) elt te)
    (hs : ∀ x, foldedSetIterable iter X.env x = pure x := by intro _; rfl) : PE X (.ListComp elt [⟨tg, iter, ifs, 0⟩] scope pos) (tComp wi own ix g tc te) :=
  pe_comp hc hi (.of S) hlen hN (frB hfr) hg hgo ht he hs
theorem ps_compB {i : Nat} {y : Str} {py spos : Pos} (hc : X.calm = true) (hnd : X.N.Nodup) (hiy : X.N[i]? = some y) (hy : X.env.scope.names.lookup y = some .local) (hi : PI X tg iter wi) (S : compOkB scope X.env.scope = true)
    (hlen : N'.length = own + ix.length) (hN : (N'.drop own).map some = ix.map (X.N[·]?)) (hfr : ((N'.drop own).all fun x => scope.names.lookup x == some .free) = true)
    (hg : ∀ c, PG (X.comp scope N' c) tg g) (hgo : GOwn own g) (ht : ∀ c, PTs (X.comp scope N' c) ifs tc) (he : ∀ c, PE (X.comp scope N' c) elt te)
    (hsw : swapsWith (.ListComp elt [⟨tg, iter, ifs, 0⟩] scope pos) (some (.Name y py)) spos.line X.env = pure true)
    (hs : ∀ x, foldedSetIterable iter X.env x = pure x := by intro _; rfl) : PS X (.Assign [.Name y py] (.ListComp elt [⟨tg, iter, ifs, 0⟩] scope pos) spos) (tAsg (tComp wi own ix g tc te) (gName i)) :=
  ps_comp hc hnd hiy hy hi (.of S) hlen hN (frB hfr) hg hgo ht he hsw hs
def iSeq (K : PySem.W.Frag) (tl : TE) : TI := fun σ H R => tl σ H fun x H1 => match x with
  | .ref a => ((∃ xs, SqL K H1 a xs) /\ R (Itl K a) H1) \/ ((∃ xs, SqT K H1 a xs) /\ R (Itt K a) H1)
  | _ => False
theorem pi_seq {l : Expr} {tl : TE} (hl : PE X l tl) : PI X tg l (iSeq X.K tl) := by
  intro pins s σ H R I h
  refine thn (hl pins s σ H _ I h) fun v s1 ⟨x, H1, I1, r1, q1⟩ => ?_
  cases x with
  | ref a =>
    cases r1
    rcases q1 with ⟨⟨xs, hq⟩, q⟩ | ⟨⟨xs, hq⟩, q⟩
    . obtain ⟨its, rv, p, hz⟩ := I1.list hq
      refine wpAny_pyIter_list p.isList ?_
      refine ⟨s1.heap.objs.size, [s1.heap.objs.size], _, _, H1, rfl, I1.kept (t' := s1.toks) fun b o e => Heap.get?_push_of_some _ e, turn_list a _, ⟨_, Heap.get?_push_size _ rfl, rfl, rfl⟩, fun b hb => ?_, q⟩
      have e : b = s1.heap.objs.size := by simpa using hb
      subst e
      exact I1.fpOk (Nat.le_refl _) (I1.hok.fresh (Nat.le_refl _))
    . obtain ⟨its, rv, p, hz⟩ := I1.tuple hq
      refine wpAny_pyIter_tuple (show s1.heap.IsTuple a its.toArray from p) ?_
      refine ⟨s1.heap.objs.size, [s1.heap.objs.size], _, _, H1, rfl, I1.kept (t' := s1.toks) fun b o e => Heap.get?_push_of_some _ e, turn_tuple a _, ⟨_, Heap.get?_push_size _ rfl, rfl, rfl⟩, fun b hb => ?_, q⟩
      have e : b = s1.heap.objs.size := by simpa using hb
      subst e
      exact I1.fpOk (Nat.le_refl _) (I1.hok.fresh (Nat.le_refl _))
  | _ => exact False.elim q1
def mSet : TSet := fun o i v H Q => match o, i with
  | .ref p, .int k => ∃ xs j, H p = some (.lst xs) /\ ixN xs.length k = some j /\ Q (upd H p (.lst (xs.set j v)))
  | _, _ => False
theorem set_any : PSet X mSet := by
  intro pins s σ H o i v ov iv u Q I ro ri rv h
  cases o <;> cases i <;> first
    | exact False.elim h
    | (obtain ⟨xs, j, h1, h2, q⟩ := h
       exact set_list pins s σ H _ _ v ov iv u Q I ro ri rv ⟨_, xs, _, j, rfl, rfl, h1, h2, q⟩)
theorem comp_list {K : PySem.W.Frag} {a : Addr} {xs : List V} {σc : St} {Q : VK} {H : Hp} (Pv : Nat -> List V -> Hp -> Prop) (h0 : Pv 0 [] H) (hl : ∀ i ys H, i <= xs.length -> Pv i ys H -> SqL K H a xs) (hz : ∀ i ys H, i < xs.length -> Pv i ys H -> ys.length < sizeLine)
    (hs : ∀ i x ys H, xs[i]? = some x -> Pv i ys H -> g x σc H fun σ2 H2 => tc σ2 H2 fun b H3 => if b = true then te σ2 H3 fun y H4 => Pv (i + 1) (ys ++ [y]) H4 else Pv (i + 1) ys H3)
    (hd : ∀ ys H, Pv xs.length ys H -> ∀ p, H p = none -> Q (.ref p) (upd H p (.lst ys))) : CompTurns (Itl K a) g tc te σc Q H := by
  refine ⟨fun i m ys H => m = xs.length - i /\ i <= xs.length /\ Pv i ys H, ⟨xs.length, by simp, Nat.zero_le _, h0⟩, ?_⟩
  rintro i m ys H ⟨rfl, hi, p⟩
  have q := hl i ys H hi p
  by_cases hlt : i < xs.length
  . refine .inr ⟨⟨xs, xs[i], q, by simp [hlt]⟩, hz i ys H hlt p, Pv (i + 1), fun ys' H' p' => ⟨xs.length - (i + 1), by omega, rfl, hlt, p'⟩, fun x H' y => ?_⟩
    obtain ⟨e, y⟩ := y
    subst e
    exact hs i x ys _ (y xs q) p
  . have e : i = xs.length := by omega
    subst e
    exact .inl ⟨⟨xs, q, Nat.le_refl _⟩, hd ys H p⟩
theorem comp_tup {K : PySem.W.Frag} {a : Addr} {xs : List V} {σc : St} {Q : VK} {H : Hp} (Pv : Nat -> List V -> Hp -> Prop) (h0 : Pv 0 [] H) (hl : ∀ i ys H, i <= xs.length -> Pv i ys H -> SqT K H a xs) (hz : ∀ i ys H, i < xs.length -> Pv i ys H -> ys.length < sizeLine)
    (hs : ∀ i x ys H, xs[i]? = some x -> Pv i ys H -> g x σc H fun σ2 H2 => tc σ2 H2 fun b H3 => if b = true then te σ2 H3 fun y H4 => Pv (i + 1) (ys ++ [y]) H4 else Pv (i + 1) ys H3)
    (hd : ∀ ys H, Pv xs.length ys H -> ∀ p, H p = none -> Q (.ref p) (upd H p (.lst ys))) : CompTurns (Itt K a) g tc te σc Q H := by
  refine ⟨fun i m ys H => m = xs.length - i /\ i <= xs.length /\ Pv i ys H, ⟨xs.length, by simp, Nat.zero_le _, h0⟩, ?_⟩
  rintro i m ys H ⟨rfl, hi, p⟩
  have q := hl i ys H hi p
  by_cases hlt : i < xs.length
  . refine .inr ⟨⟨xs, xs[i], q, by simp [hlt]⟩, hz i ys H hlt p, Pv (i + 1), fun ys' H' p' => ⟨xs.length - (i + 1), by omega, rfl, hlt, p'⟩, fun x H' y => ?_⟩
    obtain ⟨e, y⟩ := y
    subst e
    exact hs i x ys _ (y xs q) p
  . have e : i = xs.length := by omega
    subst e
    exact .inl ⟨⟨xs, q, Nat.le_refl _⟩, hd ys H p⟩
theorem comp_range {lo : Int} {n : Nat} {σc : St} {Q : VK} {H : Hp} (Pv : Nat -> List V -> Hp -> Prop) (h0 : Pv 0 [] H) (hz : ∀ i ys H, i < n -> Pv i ys H -> ys.length < sizeLine)
    (hs : ∀ i ys H, i < n -> Pv i ys H -> g (.int (lo + i)) σc H fun σ2 H2 => tc σ2 H2 fun b H3 => if b = true then te σ2 H3 fun y H4 => Pv (i + 1) (ys ++ [y]) H4 else Pv (i + 1) ys H3)
    (hd : ∀ ys H, Pv n ys H -> ∀ p, H p = none -> Q (.ref p) (upd H p (.lst ys))) : CompTurns (Itr lo n) g tc te σc Q H := by
  refine ⟨fun i m ys H => m = n - i /\ i <= n /\ Pv i ys H, ⟨n, by simp, Nat.zero_le _, h0⟩, ?_⟩
  rintro i m ys H ⟨rfl, hi, p⟩
  by_cases hlt : i < n
  . refine .inr ⟨hlt, hz i ys H hlt p, Pv (i + 1), fun ys' H' p' => ⟨n - (i + 1), by omega, rfl, hlt, p'⟩, fun x H' y => ?_⟩
    obtain ⟨e, y⟩ := y
    subst e y
    exact hs i ys _ hlt p
  . have e : i = n := by omega
    subst e
    exact .inl ⟨Nat.le_refl _, hd ys H p⟩
def vWhile (c : TT) (tb : TS) : TS := fun D σ H => ∃ W : Nat -> St -> Hp -> Prop, (∃ m, W m σ H) /\ ∀ m σ H, W m σ H ->
  c σ H fun b H1 => if b = true then tb { D with nx := fun σ' H' => ∃ m', m' < m /\ W m' σ' H', ct := fun σ' H' => ∃ m', m' < m /\ W m' σ' H', bk := D.nx } σ H1 else D.nx σ H1
theorem ps_whileM {c : Expr} {body : List Stmt} {tc : TT} {tb : TS} (hp : PassesOwn (model X.prog X.w) X.A X.env X.xe) (hc : PT X c tc) (hb : PSs X body tb) : PS X (.While c body [] pos) (vWhile tc tb) := by
  intro pins s σ H D I h
  obtain ⟨W, ⟨m0, w0⟩, turn⟩ := h
  refine wpAny_While (codeAny_whileLoop (fun n s' => ∃ σ' H', Inv X pins σ' H' s' /\ W n σ' H') ?_ m0 ⟨σ, H, I, w0⟩)
  rintro n s1 ⟨σ1, H1, I1, w1⟩
  refine wpAny_passesOwn hp (thn (hc pins s1 σ1 H1 _ I1 (turn n σ1 H1 w1)) fun b s2 ⟨H2, I2, q2⟩ => ?_)
  cases b with
  | true =>
    rw [if_pos rfl] at q2
    rw [if_pos rfl]
    refine wpAny_passesOwn hp (thn (hb pins s2 σ1 H2 _ I2 q2) fun f s3 q3 => ?_)
    cases f with
    | next =>
      obtain ⟨σ3, H3, I3, m', hm, w3⟩ := q3
      exact ⟨m', hm, σ3, H3, I3, w3⟩
    | cont =>
      obtain ⟨σ3, H3, I3, m', hm, w3⟩ := q3
      exact ⟨m', hm, σ3, H3, I3, w3⟩
    | brk => exact q3
    | ret v => exact q3
  | false =>
    rw [if_neg Bool.false_ne_true] at q2
    rw [if_neg Bool.false_ne_true]
    exact wpAny_execs_nil ⟨σ1, H2, I2, q2⟩
end
theorem hu60 {A : Around} {k : Nat} (hr : Room k A) : A.units + 60 < cLine := by have := hr.un; omega
def Frm (t : Addr) (H H' : Hp) : Prop := ∀ b o, b ≠ t -> H b = some o -> H' b = some o
theorem Frm.trans {t : Addr} {H H1 H2 : Hp} (a : Frm t H H1) (b : Frm t H1 H2) : Frm t H H2 := fun c o n h => b c o n (a c o n h)
theorem Frm.upd {t p : Addr} {H : Hp} {o : HO} (h : H p = none) : Frm t H (upd H p o) := fun b u _ e => by rw [upd_ne (ne_of_none e h)]; exact e
theorem Frm.updT {t : Addr} {H : Hp} {o : HO} : Frm t H (L2.upd H t o) := fun b u n e => by rw [upd_ne n]; exact e
theorem Same.upd {p : Addr} {H : Hp} {o : HO} (h : H p = none) : Same H (L2.upd H p o) := fun b u e => by rw [upd_ne (ne_of_none e h)]; exact e
theorem Same.frm {t : Addr} {H H' : Hp} (h : Same H H') : Frm t H H' := fun b o _ e => h b o e
theorem sqL_stay {K : PySem.W.Frag} {H H' : Hp} {a : Addr} {xs : List V} (h : SqL K H a xs) (k : ∀ o, H a = some o -> H' a = some o) : SqL K H' a xs := by
  rcases h with (h | ⟨o, h⟩) | h
  . exact .inl (.inl (k _ h))
  . exact .inl (.inr ⟨o, k _ h⟩)
  . exact .inr h
theorem sqT_stay {K : PySem.W.Frag} {H H' : Hp} {a : Addr} {xs : List V} (h : SqT K H a xs) (k : ∀ o, H a = some o -> H' a = some o) : SqT K H' a xs := by
  rcases h with (h | ⟨o, h⟩) | h
  . exact .inl (.inl (k _ h))
  . exact .inl (.inr ⟨o, k _ h⟩)
  . exact .inr h
def ScrAt (K : PySem.W.Frag) (H : Hp) (t a : Addr) (ns : List Int) : Prop :=
  (Rd H a (.lst (ns.map V.int)) /\ a ≠ t) \/ ∃ (o : Obj) (its : Array Value) (n : Nat), K.lookup a = some o /\ o.cls = .type "list" /\ o.dict = none /\ o.data = .seq its n /\ its.size <= sizeLine /\ Vals (ns.map V.int) its.toList
theorem ScrAt.stay {K : PySem.W.Frag} {H H' : Hp} {t a : Addr} {ns : List Int} (h : ScrAt K H t a ns) (k : ∀ o, a ≠ t -> H a = some o -> H' a = some o) : ScrAt K H' t a ns := by
  rcases h with ⟨h | ⟨o, h⟩, n⟩ | h
  . exact .inl ⟨.inl (k _ n h), n⟩
  . exact .inl ⟨.inr ⟨o, k _ n h⟩, n⟩
  . exact .inr h
structure Tape (K : PySem.W.Frag) (H : Hp) (t a : Addr) (ns : List Int) : Prop where
  at_ : ∃ i r c : Int, 0 <= i /\ 0 <= r /\ H t = some (.lst [.ref a, .int i, .int r, .int c])
  scr : ScrAt K H t a ns
theorem Tape.same {K : PySem.W.Frag} {H H' : Hp} {t a : Addr} {ns : List Int} (T : Tape K H t a ns) (h : Same H H') : Tape K H' t a ns := by
  obtain ⟨i, r, c, h1, h2, h3⟩ := T.at_
  exact ⟨⟨i, r, c, h1, h2, h _ _ h3⟩, T.scr.stay fun o _ e => h a o e⟩
theorem Tape.upd {K : PySem.W.Frag} {H : Hp} {t a p : Addr} {o : HO} {ns : List Int} (T : Tape K H t a ns) (h : H p = none) : Tape K (L2.upd H p o) t a ns := T.same (Same.upd h)
def spLaw (K : PySem.W.Frag) : Sp := fun vs H Q _ => ∃ (a : Addr) (ns : List Int), vs = [.ref a] /\ SqL K H a (ns.map V.int) /\ ns.length <= 63 /\ ∀ H', Q (.bl true) H'
theorem atI_of {xs : List V} {i : Int} {n : Nat} {v : V} (h : i = (n : Int)) (hx : xs[n]? = some v) : atI xs i = some v := by
  subst h
  have hn : n < xs.length := (List.getElem?_eq_some_iff.mp hx).1
  unfold atI ixN
  rw [if_pos (Int.natCast_nonneg n), if_pos (by omega)]
  simpa using hx
theorem atI_int {ns : List Int} {i : Int} (h0 : 0 <= i) (h1 : i < ns.length) : ∃ z, atI (ns.map V.int) i = some (.int z) := by
  obtain ⟨n, rfl⟩ := Int.eq_ofNat_of_zero_le h0
  have hn : n < ns.length := by omega
  exact ⟨ns[n], atI_of rfl (by rw [List.getElem?_map, List.getElem?_eq_getElem hn]; rfl)⟩
theorem okDiv_of {j : Int} (h1 : 0 < j) (h2 : j <= 2 ^ 1000) : okDiv j := ⟨h1, Int.lt_of_le_of_lt h2 (by decide)⟩
theorem small_le {n : Nat} (h : n <= 1000) : n <= sizeLine := Nat.le_of_lt (small1000 h)
def TMono (t : TT) : Prop := ∀ σ H (Q Q' : Bool -> Hp -> Prop), (∀ b H, Q b H -> Q' b H) -> t σ H Q -> t σ H Q'
def AMono (t : TA) : Prop := ∀ σ H (Q Q' : List V -> Hp -> Prop), (∀ b H, Q b H -> Q' b H) -> t σ H Q -> t σ H Q'
def RMono (r : R2) : Prop := ∀ x y H (Q Q' : VK), (∀ v H, Q v H -> Q' v H) -> r x y H Q -> r x y H Q'
def UMono (r : V -> Hp -> VK -> Prop) : Prop := ∀ x H (Q Q' : VK), (∀ v H, Q v H -> Q' v H) -> r x H Q -> r x H Q'
def CMono (r : List V -> Hp -> VK -> Prop) : Prop := ∀ xs H (Q Q' : VK), (∀ v H, Q v H -> Q' v H) -> r xs H Q -> r xs H Q'
def BMono (r : V -> List V -> Hp -> VK -> Prop) : Prop := ∀ x xs H (Q Q' : VK), (∀ v H, Q v H -> Q' v H) -> r x xs H Q -> r x xs H Q'
def SpMono (sp : Sp) : Prop := ∀ vs H (Q Q' : VK) E, (∀ v H, Q v H -> Q' v H) -> sp vs H Q E -> sp vs H Q' E
def IMono (t : TI) : Prop := ∀ σ H (Q Q' : It -> Hp -> Prop), (∀ J H, Q J H -> Q' J H) -> t σ H Q -> t σ H Q'
def SetMono (t : TSet) : Prop := ∀ o i v H (Q Q' : Hp -> Prop), (∀ H, Q H -> Q' H) -> t o i v H Q -> t o i v H Q'
structure Ends.le (D D' : Ends) : Prop where
  nx : ∀ σ H, D.nx σ H -> D'.nx σ H
  rt : ∀ v H, D.rt v H -> D'.rt v H
  bk : ∀ σ H, D.bk σ H -> D'.bk σ H
  ct : ∀ σ H, D.ct σ H -> D'.ct σ H
def SMono (t : TS) : Prop := ∀ D D' σ H, Ends.le D D' -> t D σ H -> t D' σ H
theorem em_var {i : Nat} : EMono (vVar i) := fun σ H Q Q' h q => by
  unfold vVar at *
  split at q
  . exact h _ _ q
  . exact q.elim
theorem em_c {v : V} : EMono (tC v) := fun _ _ _ _ h q => h _ _ q
theorem em_op {r : R2} {ta tb : TE} (hr : RMono r) (ha : EMono ta) (hb : EMono tb) : EMono (tOp r ta tb) := fun σ H Q Q' h q => ha _ _ _ _ (fun _ _ q => hb _ _ _ _ (fun _ _ q => hr _ _ _ _ _ h q) q) q
theorem em_un {r : V -> Hp -> VK -> Prop} {ta : TE} (hr : UMono r) (ha : EMono ta) : EMono (tUn r ta) := fun σ H Q Q' h q => ha _ _ _ _ (fun _ _ q => hr _ _ _ _ h q) q
theorem rm_add {K} : RMono (mAdd K) := fun x y H Q Q' h q => by
  unfold mAdd at *
  split at q
  . exact h _ _ q
  . exact ⟨q.1, h _ _ q.2⟩
  . rcases q with ⟨l, b, xs, zs, e1, e2, h1, h2, h3, q⟩ | ⟨a, b, xs, ys, e1, e2, h1, h2, h3, h4, q1, q2⟩
    . exact .inl ⟨l, b, xs, zs, e1, e2, h1, h2, h3, fun p hp => h _ _ (q p hp)⟩
    . exact .inr ⟨a, b, xs, ys, e1, e2, h1, h2, h3, h4, fun e => h _ _ (q1 e), fun e p hp => h _ _ (q2 e p hp)⟩
  . exact q.elim
theorem rm_sub : RMono mSub := fun x y H Q Q' h q => by unfold mSub at *; split at q <;> first | exact h _ _ q | exact q.elim
theorem rm_mul : RMono mMul := fun x y H Q Q' h q => by
  unfold mMul at *
  split at q
  . exact ⟨q.1, h _ _ q.2⟩
  . obtain ⟨l, k, xs, e1, e2, h1, h2, h3, h4, q⟩ := q
    exact ⟨l, k, xs, e1, e2, h1, h2, h3, h4, fun p hp => h _ _ (q p hp)⟩
  . exact q.elim
theorem rm_div : RMono mDiv := fun x y H Q Q' h q => by unfold mDiv at *; split at q <;> first | exact ⟨q.1, h _ _ q.2⟩ | exact q.elim
theorem rm_mod : RMono mMod := fun x y H Q Q' h q => by unfold mMod at *; split at q <;> first | exact ⟨q.1, h _ _ q.2⟩ | exact q.elim
theorem rm_bit {f} : RMono (mBit f) := fun x y H Q Q' h q => by unfold mBit at *; split at q <;> first | exact h _ _ q | exact q.elim
theorem um_neg_ : UMono mNeg := fun x H Q Q' h q => by unfold mNeg at *; split at q <;> first | exact h _ _ q | exact q.elim
theorem rm_cmp {p} : RMono (mCmp p) := fun x y H Q Q' h q => by unfold mCmp at *; split at q <;> first | exact h _ _ q | exact q.elim
theorem rm_eq {n K} : RMono (mEq n K) := fun x y H Q Q' h q => by
  unfold mEq at *
  split at q <;> first | exact h _ _ q | (obtain ⟨d, e, h1, h2, h3, q⟩ := q; exact ⟨d, e, h1, h2, h3, h _ _ q⟩)
theorem rm_ix {K} : RMono (mIx K) := fun x y H Q Q' h q => by
  unfold mIx at *
  split at q
  . obtain ⟨xs, v, h1, h2, q⟩ := q; exact ⟨xs, v, h1, h2, h _ _ q⟩
  . obtain ⟨c, h1, h2, q⟩ := q; exact ⟨c, h1, h2, h _ _ q⟩
  . exact q.elim
theorem isB_mono {v : V} {Q Q' : Bool -> Prop} (h : ∀ b, Q b -> Q' b) (q : isB v Q) : isB v Q' := by
  cases v <;> first | exact h _ q | exact q
theorem tm_b {t : TE} (h : EMono t) : TMono (uB t) := fun σ H Q Q' k q => h _ _ _ _ (fun _ _ q => isB_mono (fun b q => k b _ q) q) q
theorem em_not {ta : TE} (ha : EMono ta) : EMono (vNot ta) := fun σ H Q Q' h q => ha _ _ _ _ (fun _ _ q => isB_mono (fun b q => h _ _ q) q) q
theorem tm_or {t u : TT} (ht : TMono t) (hu : TMono u) : TMono (tOr t u) := fun σ H Q Q' h q => ht _ _ _ _ (fun b _ q => by
    cases b with
    | true => exact h _ _ q
    | false => exact hu _ _ _ _ h q) q
theorem tm_not {t : TT} (ht : TMono t) : TMono (tNot t) := fun σ H Q Q' h q => ht _ _ _ _ (fun b _ q => h _ _ q) q
theorem am_nil : AMono tNil := fun _ _ _ _ h q => h _ _ q
theorem am_cons {ta : TE} {t : TA} (ha : EMono ta) (ht : AMono t) : AMono (tCons ta t) := fun σ H Q Q' h q => ha _ _ _ _ (fun _ _ q => ht _ _ _ _ (fun _ _ q => h _ _ q) q) q
theorem em_cb {r} {t : TA} (hr : CMono r) (ht : AMono t) : EMono (tCB r t) := fun σ H Q Q' h q => ht _ _ _ _ (fun _ _ q => hr _ _ _ _ h q) q
theorem em_call {sp dvs E} {t : TA} (hs : SpMono sp) (ht : AMono t) : EMono (tCall sp dvs E t) := fun σ H Q Q' h q => ht _ _ _ _ (fun _ _ q => hs _ _ _ _ _ h q) q
theorem em_tup {t : TA} (ht : AMono t) : EMono (tTup t) := fun σ H Q Q' h q => ht _ _ _ _ (fun _ _ q => ⟨q.1, fun p hp => h _ _ (q.2 p hp)⟩) q
theorem em_lst {t : TA} (ht : AMono t) : EMono (tLst t) := fun σ H Q Q' h q => ht _ _ _ _ (fun _ _ q => ⟨q.1, fun p hp => h _ _ (q.2 p hp)⟩) q
theorem em_comp {wi own ix g tc te} (hi : IMono wi) : EMono (tComp wi own ix g tc te) := fun σ H Q Q' h q => hi _ _ _ _ (fun J H1 q => by
    obtain ⟨W, w0, turn⟩ := q
    refine ⟨W, w0, fun i m ys H w => ?_⟩
    rcases turn i m ys H w with ⟨a, b⟩ | r
    . exact .inl ⟨a, fun p hp => h _ _ (b p hp)⟩
    . exact .inr r) q
theorem cm_len_ {K} : CMono (mLen K) := fun xs H Q Q' h q => by unfold mLen at *; split at q <;> first | (obtain ⟨n, a, q⟩ := q; exact ⟨n, a, h _ _ q⟩) | exact q.elim
theorem cm_min_ : CMono mMin := fun xs H Q Q' h q => by unfold mMin at *; split at q <;> first | exact h _ _ q | exact q.elim
theorem cm_int_ : CMono mInt := fun xs H Q Q' h q => by unfold mInt at *; split at q <;> first | exact h _ _ q | exact q.elim
theorem cm_tuple_ {K} : CMono (mTuple K) := fun xs H Q Q' h q => by
  unfold mTuple at *
  split at q
  . obtain ⟨ys, ⟨a, q⟩ | ⟨a, q⟩⟩ := q
    . exact ⟨ys, .inl ⟨a, fun l hl => h _ _ (q l hl)⟩⟩
    . exact ⟨ys, .inr ⟨a, h _ _ q⟩⟩
  . exact q.elim
theorem cm_list_ {K} : CMono (mList K) := fun xs H Q Q' h q => by
  unfold mList at *
  split at q
  . obtain ⟨ys, a, q⟩ := q; exact ⟨ys, a, fun l hl => h _ _ (q l hl)⟩
  . exact q.elim
theorem cm_isi_ {K} : CMono (mIsi K) := fun xs H Q Q' h q => by
  unfold mIsi at *
  split at q
  . obtain ⟨a, k, b, q⟩ := q; exact ⟨a, k, b, h _ _ q⟩
  . exact q.elim
theorem im_seq {K} {tl : TE} (h : EMono tl) : IMono (iSeq K tl) := fun σ H Q Q' k q => h _ _ _ _ (fun v H1 q => by
    cases v <;> first | exact q.elim | (rcases q with ⟨a, q⟩ | ⟨a, q⟩
                                        . exact .inl ⟨a, k _ _ q⟩
                                        . exact .inr ⟨a, k _ _ q⟩)) q
theorem im_rng1 {ta : TA} (h : AMono ta) : IMono (iRng1 ta) := fun σ H Q Q' k q => h _ _ _ _ (fun _ _ ⟨j, e, a, b, q⟩ => ⟨j, e, a, b, k _ _ q⟩) q
theorem sm_set : SetMono mSet := fun o i v H Q Q' h q => by
  unfold mSet at *
  split at q
  . obtain ⟨xs, j, a, b, q⟩ := q; exact ⟨xs, j, a, b, h _ q⟩
  . exact q.elim
theorem gm_sub {to ti : TE} {t : TSet} (h1 : EMono to) (h2 : EMono ti) (h3 : SetMono t) : GMono (gSub to ti t) := fun v σ H Q Q' h q => h1 _ _ _ _ (fun _ _ q => h2 _ _ _ _ (fun _ _ q => h3 _ _ _ _ _ _ (fun H q => h _ _ q) q) q) q
theorem sm_next : SMono tNext := fun D D' σ H h q => h.nx _ _ q
theorem sm_seq {t u : TS} (h1 : SMono t) (h2 : SMono u) : SMono (tSeq t u) := fun D D' σ H h q => h1 { D with nx := u D } { D' with nx := u D' } σ H ⟨fun σ H q => h2 D D' σ H h q, h.rt, h.bk, h.ct⟩ q
theorem sm_asg {te : TE} {g : TG} (h1 : EMono te) (h2 : GMono g) : SMono (tAsg te g) := fun D D' σ H h q => h1 _ _ _ _ (fun _ _ q => h2 _ _ _ _ _ h.nx q) q
theorem sm_ret {te : TE} (h1 : EMono te) : SMono (tRet te) := fun D D' σ H h q => h1 _ _ _ _ h.rt q
theorem sm_drop {te : TE} (h1 : EMono te) : SMono (tDrop te) := fun D D' σ H h q => h1 _ _ _ _ (fun _ _ q => h.nx _ _ q) q
theorem sm_if {c : TT} {t u : TS} (hc : TMono c) (h1 : SMono t) (h2 : SMono u) : SMono (tIfS c t u) := fun D D' σ H h q => hc _ _ _ _ (fun b _ q => by
    cases b with
    | true => exact h1 _ _ _ _ h q
    | false => exact h2 _ _ _ _ h q) q
theorem sm_while {c : TT} {tb : TS} (hc : TMono c) (h1 : SMono tb) : SMono (vWhile c tb) := fun D D' σ H h q => by
  obtain ⟨W, w0, turn⟩ := q
  refine ⟨W, w0, fun m σ H w => hc _ _ _ _ (fun b H1 q => ?_) (turn m σ H w)⟩
  cases b with
  | true => exact h1 { D with nx := fun σ' H' => ∃ m', m' < m /\ W m' σ' H', ct := fun σ' H' => ∃ m', m' < m /\ W m' σ' H', bk := D.nx } _ _ _ ⟨fun _ _ q => q, h.rt, h.nx, fun _ _ q => q⟩ q
  | false => exact h.nx _ _ q
theorem sm_for {wi : TI} {g : TG} {tb : TS} (hi : IMono wi) (hg : GMono g) (h1 : SMono tb) : SMono (tFor wi g tb) := fun D D' σ H h q => hi _ _ _ _ (fun J H1 q => by
  obtain ⟨W, w0, turn⟩ := q
  refine ⟨W, w0, fun i m σ H w => ?_⟩
  rcases turn i m σ H w with ⟨a, b⟩ | ⟨a, N, hN, step⟩
  . exact .inl ⟨a, h.nx _ _ b⟩
  . exact .inr ⟨a, N, hN, fun x H' y => hg _ _ _ _ _ (fun σ2 H2 q => h1 { D with nx := N, ct := N, bk := D.nx } _ _ _ ⟨fun _ _ q => q, h.rt, h.nx, fun _ _ q => q⟩ q) (step x H' y)⟩) q
theorem seq_at {t u : TS} {D : Ends} {σ : St} {H : Hp} (J : St -> Hp -> Prop) (h1 : t { D with nx := J } σ H) (h2 : ∀ σ' H', J σ' H' -> u D σ' H') (hm : SMono t) : tSeq t u D σ H :=
  hm { D with nx := J } { D with nx := u D } σ H ⟨h2, fun _ _ q => q, fun _ _ q => q, fun _ _ q => q⟩ h1
section
variable {X : Cx} {K : PySem.W.Frag} {a b c e l tg : Expr} {es : List Expr} {ta tb tc te tl : TE} {pos p : Pos}
theorem kAdd (hK : X.K = K := by rfl) : OpR X (binaryOp .Add) (mAdd K) := hK ▸ om_add
theorem kEq (hu : X.A.units + 60 < cLine) (hK : X.K = K := by rfl) : OpR X (compareOp .Eq) (mEq false K) := hK ▸ om_eq hu
theorem kNe (hu : X.A.units + 60 < cLine) (hK : X.K = K := by rfl) : OpR X (compareOp .NotEq) (mEq true K) := hK ▸ om_ne hu
theorem kIx (ha : PE X a ta) (hb : PE X b tb) (hs : PlainIx b := by intro _ _; rfl) (hK : X.K = K := by rfl) : PE X (.Subscript a b pos) (tOp (mIx K) ta tb) := hK ▸ pe_ixM ha hb hs
theorem kLen (hK : X.K = K := by rfl) : CallR X (.builtin "len") (mLen K) := hK ▸ cm_len
theorem kTuple (hK : X.K = K := by rfl) : CallR X (.type "tuple") (mTuple K) := hK ▸ cm_tuple
theorem kList (hK : X.K = K := by rfl) : CallR X (.type "list") (mList K) := hK ▸ cm_list
theorem kIsi (hK : X.K = K := by rfl) : CallR X (.builtin "isinstance") (mIsi K) := hK ▸ cm_isi
theorem kSeq (hl : PE X l tl) (hK : X.K = K := by rfl) : PI X tg l (iSeq K tl) := hK ▸ pi_seq hl
theorem kTup {es : List Expr} {k : Nat} {t : TGs} {n : Nat} (hc : X.calm = true) (h : PGs X es t)
    (hn : (assignEach es X.env).length = n := by rfl) (hst : (assignEach es X.env).findIdx? (·.1) = none := by rfl) (hK : X.K = K := by rfl) : PG X (.Tuple es k pos) (gTup K n t) := hK ▸ pg_tup hc h hn hst
end
theorem Inv.turnedNew {X : Cx} {pins : List (Addr × Obj)} {σ : St} {H : Hp} {s : Shared} {h' : Heap} {ch : List Addr} {T : Addr} {o : HO} (I : Inv X pins σ H s) (hf : ∀ b ∈ ch, FpOk X pins H b) (hT : s.heap.objs.size <= T)
    (k : ∀ b u, b ∉ ch -> s.heap.get? b = some u -> h'.get? b = some u) (new : ObjOk X.prog X.w (upd H T o) h' T o) (th : ∀ b ∈ ch, ∃ u, h'.get? b = some u) : Inv X pins σ (upd H T o) { s with heap := h' } := by
  have hTn : H T = none := I.hok.fresh hT
  have nT : ∀ b u, H b = some u -> b ≠ T := fun b u e z => by rw [z, hTn] at e; cases e
  have nc : ∀ b u, H b = some u -> b ∉ ch := fun b u e z => by rw [(hf b z).1] at e; cases e
  refine I.step (g' := s.gens) (d' := s.drawn) (t' := s.toks) (ch := ch) (fun b hb => ?_) (fun b u _ _ hc e _ => k b u hc e) (fun b u _ _ hc e _ => ⟨u.slots, k b u hc e⟩) (fun b u hc e n => ?_) (fun b u hc e => ⟨u, k b u hc e⟩)
    (fun b xs e => by rw [upd_ne (nT _ _ e)]; exact e) (fun b u v e => by rw [upd_ne (nT _ _ e)]; exact e) (fun b ps e => ⟨#[], by rw [upd_ne (nT _ _ e), e]; simp⟩) (fun m hm => ?_) (fun b u e => ?_) I.bare
  . obtain ⟨q1, q2, q3, q4, q5, q6⟩ := hf b hb
    exact ⟨q4, q2, q5, q6⟩
  . rw [upd_ne (Nat.ne_of_lt (Nat.lt_of_lt_of_le (Heap.lt_size e) hT))]; exact n
  . obtain ⟨u, es, ep, ho, r⟩ := hm
    exact ⟨u, es, ep, k _ u (fun z => (hf _ z).2.1 rfl) ho, r⟩
  . by_cases hb : b = T
    . subst hb; rw [upd_same] at e; cases e; exact new
    . rw [upd_ne hb] at e
      refine (I.hok b u e).stay (fun c v hc q => k c v ?_ q) (fun c q => by rw [upd_ne (nT _ _ q)]; exact q) fun c xs q => by rw [upd_ne (nT _ _ q)]; exact q
      rcases hc with z | z
      . rw [z]; exact nc b u e
      . exact nc c _ z
section
variable {X : Cx}
end
section
variable {X : Cx} {K : PySem.W.Frag} {o e : Expr} {es : List Expr} {to : TE} {t : TA} {apos cpos : Pos}
def mAppend : V -> List V -> Hp -> VK -> Prop := fun x vs H Q => match x, vs with
  | .ref l, [y] => ∃ xs, H l = some (.lst xs) /\ xs.length < sizeLine /\ Q .non (upd H l (.lst (xs ++ [y])))
  | _, _ => False
theorem mm_append : MtR X "list.append" mAppend := by
  intro pins s σ H x vs v us Q I rx rv q
  match x, vs, q with
  | .ref l, [y], ⟨xs, h1, h2, q⟩ => exact mt_append pins s σ H _ _ v us Q I rx rv ⟨l, xs, y, rfl, rfl, h1, h2, q⟩
theorem kAppend (ho : PE X o to) (ha : PA X [e] t) (hbase : attributeBase o "append" X.env (eval o X.env) = eval o X.env := by rfl)
    (hfew : ((backTo cpos (starEach [e] X.env)).all (fun x => !x.1) && (backToKw cpos (keywordEach [] X.env)).all (fun x => x.1.isSome)
      && decide ([e].length + ([] : List Keyword).length + (if ([] : List Keyword).isEmpty then 0 else 1) < 30)) = true := by rfl)
    (hline : (apos.endLine == cpos.line) = true := by rfl) (hs : starEach [e] X.env = (false, eval e X.env) :: starEach [] X.env := by rfl) (hplain : (backTo cpos (starEach [] X.env)).any (·.1) = false := by rfl) (hK : X.K = K := by rfl) :
    PE X (.Call (.Attribute o "append" apos) [e] [] cpos) (tBM K "list" mAppend to t) := hK ▸ pe_bm PySem.F.plainAttrs_list PySem.F.slot_list_append PySem.F.type_list_append mm_append ho ha hbase hfew hline hs hplain
theorem em_bm {T : String} {r : V -> List V -> Hp -> VK -> Prop} (h1 : EMono to) (h2 : AMono t) (h3 : BMono r) : EMono (tBM K T r to t) := fun σ H Q Q' h q => h1 _ _ _ _ (fun _ _ q => ⟨q.1, h2 _ _ _ _ (fun _ _ q => h3 _ _ _ _ _ h q) q.2⟩) q
theorem bm_append : BMono mAppend := fun x xs H Q Q' h q => by
  unfold mAppend at *
  split at q
  . obtain ⟨ys, a, b, q⟩ := q; exact ⟨ys, a, b, h _ _ q⟩
  . exact q.elim
def mSum (K : PySem.W.Frag) : List V -> Hp -> VK -> Prop := fun xs H Q => match xs with
  | [.ref l] => ∃ ns : List Int, SqL K H l (ns.map V.int) /\ Q (.int ns.sum) H
  | _ => False
theorem cm_sum (hc : X.calm = true) : CallR X (.builtin "sum") (mSum X.K) := by
  intro pins s σ H xs us Q I r q
  match xs, q with
  | [.ref l], q =>
  obtain ⟨ns, hl, q⟩ := q
  obtain ⟨u, rfl, ru⟩ := vals1 r
  cases ru
  obtain ⟨its, rv, pl, hz⟩ := I.list hl
  have hi : IntsAre its ns := by simpa using intsAre_of rv
  obtain ⟨zs, hzs⟩ := (hi.allInts).items
  have e : (numsOf its).sum = ns.sum := by rw [hi.numsOf]
  have pl' := pl.isList
  rw [hzs] at pl'
  refine sum_intListG (I.ok.hd hc) pl' fun h' tk t' hk => ?_
  refine ⟨.int _, H, I.kept hk, ⟨t', rfl⟩, ?_⟩
  have e2 : preSum (numAt zs) zs.size = ns.sum := by
    rw [preSum_eq, List.take_of_length_le (by simp), <- e]
    rw [show its = its.toArray.toList by simp, hzs, nums_intItems]
  rw [e2]
  exact q
theorem kSum (hc : X.calm = true) (hK : X.K = K := by rfl) : CallR X (.builtin "sum") (mSum K) := hK ▸ cm_sum hc
theorem cm_sum_ : CMono (mSum K) := fun xs H Q Q' h q => by
  unfold mSum at *
  split at q
  . obtain ⟨ns, a, q⟩ := q; exact ⟨ns, a, h _ _ q⟩
  . exact q.elim
def mAll (K : PySem.W.Frag) : List V -> Hp -> VK -> Prop := fun xs H Q => match xs with
  | [.ref l] => ∃ bs : List Bool, SqL K H l (bs.map V.bl) /\ Q (.bl (bs.all id)) H
  | _ => False
theorem cm_all (hc : X.calm = true) : CallR X (.builtin "all") (mAll X.K) := by
  intro pins s σ H xs us Q I r q
  match xs, q with
  | [.ref l], q =>
  obtain ⟨bs, hl, q⟩ := q
  obtain ⟨u, rfl, ru⟩ := vals1 r
  cases ru
  obtain ⟨its, rv, pl, hz⟩ := I.list hl
  have hlen := rv.length
  rw [List.length_map] at hlen
  obtain ⟨o1, n1, g1, _⟩ := id pl
  have hlt := Heap.lt_size g1
  refine call_all_walk (wpAny_pyIter_list pl.isList ?_)
  have hne : l ≠ s.heap.objs.size := Nat.ne_of_lt hlt
  refine ⟨_, _, _, _, _, _, fun i => bs.getD i false, rfl, Walks.list (A := X.A.in1) (I.ok.hd hc) s.heap.objs.size l hne its.toArray, ?_, ?_, fun h' tk hk => ?_⟩
  . exact ⟨⟨_, Heap.get?_push_size _ rfl, rfl, rfl⟩, (show s.heap.IsList l its.toArray from pl.isList).at fun o e => Heap.get?_push_of_some _ e⟩
  . intro i v s' Q' E' hv hq
    have hv : its.toArray[i]? = some v := hv
    have hi : i < its.length := by
      have := (Array.getElem?_eq_some_iff.mp hv).1
      simpa using this
    have hb : (bs.map V.bl)[i]? = some (.bl bs[i]) := by rw [List.getElem?_map, List.getElem?_eq_getElem (by omega)]; rfl
    obtain ⟨w', q1, q2⟩ := rv.get hb
    have e : v = w' := by simp at hv; rw [q1] at hv; exact (Option.some.inj hv).symm
    subst e
    cases q2
    refine wpAny_truthy_bool ?_
    have e2 : bs.getD i false = bs[i] := by rw [List.getD_eq_getElem?_getD, List.getElem?_eq_getElem (by omega)]; rfl
    have hq : Q' (bs.getD i false) s' := hq
    rw [e2] at hq
    exact hq
  . refine ⟨.bl _, H, I.kept (fun b o e => hk b o ?_ (Heap.get?_push_of_some _ e)), rfl, ?_⟩
    . simp only [List.mem_singleton]
      exact Nat.ne_of_lt (Heap.lt_size e)
    . have e : (List.range its.toArray.size).all (fun i => bs.getD i false) = bs.all id := by
        rw [List.size_toArray, <- hlen]
        rw [Bool.eq_iff_iff, List.all_eq_true, List.all_eq_true]
        constructor
        . intro h b hb
          obtain ⟨i, hi, rfl⟩ := List.mem_iff_getElem.mp hb
          have := h i (List.mem_range.mpr hi)
          rw [List.getD_eq_getElem?_getD, List.getElem?_eq_getElem hi] at this
          exact this
        . intro h i hi
          have hi' := List.mem_range.mp hi
          rw [List.getD_eq_getElem?_getD, List.getElem?_eq_getElem hi']
          exact h _ (List.getElem_mem hi')
      rw [e]
      exact q
theorem kAll (hc : X.calm = true) (hK : X.K = K := by rfl) : CallR X (.builtin "all") (mAll K) := hK ▸ cm_all hc
end
section
variable {prog : Program} {w : World} {A : Around} {E : Value -> Shared -> Prop} {s : Shared}
theorem draw_list {it t : Addr} {items : Array Value} (hne : t ≠ it) : ∀ (n i : Nat) (s : Shared) (Q : List Value -> Shared -> Prop), s.heap.IsListIter it t i -> s.heap.IsList t items -> i + n <= items.size ->
    (∀ h', h'.IsListIter it t (i + n) -> Heap.SameBut it s.heap h' -> Q ((items.toList.drop i).take n) { s with heap := h' }) -> wpAny (model prog w) A (draw (.ref it) n) Q E s
  | 0, i, s, Q, hit, _, _, hQ => by
    show wpAny _ _ (pure []) Q E s
    exact wpAny_pure (by simpa using hQ s.heap hit (Heap.SameBut.refl ..))
  | n + 1, i, s, Q, hit, ht, hle, hQ => by
    have hlt : i < items.size := by omega
    show wpAny _ _ (pyNext (.ref it) >>= _) Q E s
    refine wpAny_bind (wpAny_pyNext_list_item hit ht (x := items[i]) (by simp [hlt]) fun h₁ hit₁ hs₁ => ?_)
    refine wpAny_bind (wpAny_holding (draw_list hne n (i + 1) _ _ hit₁ (ht.extBut hs₁.extBut hne) (by omega) fun h₂ hit₂ hs₂ => wpAny_pure ?_))
    have hd : items.toList.drop i = items[i] :: items.toList.drop (i + 1) := by simp [List.drop_eq_getElem_cons, hlt]
    have := hQ h₂ (by rw [show i + (n + 1) = i + 1 + n by omega]; exact hit₂) (hs₁.trans hs₂)
    rw [hd, List.take_succ_cons] at this
    exact this
theorem unpackItems_list {t : Addr} {items : Array Value} {Q : List Value -> Shared -> Prop} (hh : A.handled = none) (ht : s.heap.IsList t items)
    (hQ : ∀ h', Heap.ExtBut s.heap.objs.size s.heap h' -> Q items.toList { s with heap := h' }) : wpAny (model prog w) A (unpackItems (.ref t) items.size none) Q E s := by
  have hlt : t ≠ s.heap.objs.size := by obtain ⟨o, ho, _⟩ := ht; exact Nat.ne_of_lt (Heap.lt_size ho)
  unfold unpackItems
  refine wpAny_bind ?_
  . unfold notIterableAtAll
    refine wpAny_bind (wpAny_specialOf ht.typeIs slot_list_iter.lookup ?_)
    refine wpAny_pure ?_
    simp only [Bool.false_eq_true, if_false]
    refine wpAny_bind (wpAny_holding (wpAny_pyIter_list ht ?_))
    refine wpAny_bind (wpAny_holding (draw_list hlt items.size 0 _ _ ⟨_, Heap.get?_push_size _ rfl, rfl, rfl⟩ (ht.at fun o e => Heap.get?_push_of_some _ e) (by omega) fun h₁ hit₁ hs₁ => ?_))
    have hall : List.take items.size (List.drop 0 items.toList) = items.toList := by
      rw [List.drop_zero]; exact List.take_of_length_le (by simp)
    rw [hall]
    rw [if_neg (by simp)]
    have ht₁ : h₁.IsList t items := (Heap.IsList.at ht fun o e => Heap.get?_push_of_some _ e).extBut hs₁.extBut hlt
    refine wpAny_bind (wpAny_holding (wpAny_pyNext_list_end hh hit₁ ht₁ (by simp) fun h₂ he₂ => ?_))
    simp only [Option.isSome_none, Bool.false_eq_true, if_false]
    refine wpAny_pure (hQ h₂ fun b o hb e => he₂ b o hb (hs₁.extBut b o hb (Heap.get?_push_of_some _ e)))
theorem assign_Tuple_list {env : Env} {elts : List Expr} {x1} {pos : Pos} {t : Addr} {items : Array Value} {Q : Unit -> Shared -> Prop} (hh : A.handled = none) (ht : s.heap.IsList t items)
    (hn : (assignEach elts env).length = items.size) (hstar : (assignEach elts env).findIdx? (·.1) = none)
    (h : ∀ h', Heap.ExtBut s.heap.objs.size s.heap h' -> wpAny (model prog w) A (assignInOrder ((assignEach elts env).map (·.2)) items.toList) Q E { s with heap := h' }) :
    wpAny (model prog w) A (assign (.Tuple elts x1 pos) env (.ref t)) Q E s := by
  rw [assign_Tuple]
  refine wpAny_bind (wpAny_standAt ?_)
  unfold unpack
  rw [hn, hstar]
  exact wpAny_bind (wpAny_holding (unpackItems_list hh ht h))
end
section
variable {X : Cx} {K : PySem.W.Frag} {pos p2 : Pos} {e : Expr} {lo hi : Option Expr} {te : TE} {tl th : TO}
def gSeqs (K : PySem.W.Frag) (n : Nat) (t : TGs) : TG := fun v σ H Q => match v with
  | .ref a => ∃ xs, SqA K H a xs /\ xs.length = n /\ t xs σ H Q
  | _ => False
theorem kTupA {es : List Expr} {k : Nat} {t : TGs} {n : Nat} (hc : X.calm = true) (h : PGs X es t)
    (hn : (assignEach es X.env).length = n := by rfl) (hst : (assignEach es X.env).findIdx? (·.1) = none := by rfl) (hK : X.K = K := by rfl) : PG X (.Tuple es k pos) (gSeqs K n t) := by
  subst hK
  intro pins s σ H v u Q I r hw
  cases v with
  | ref a =>
    obtain ⟨xs, hq | hq, hl, hw⟩ := hw
    . cases r
      obtain ⟨its, rv, ht, hz⟩ := I.list hq
      refine assign_Tuple_list (I.ok.hd hc) ht.isList (by simp [hn, <- hl, rv.length]) hst fun h' hx => ?_
      have I1 : Inv X pins σ H { s with heap := h' } := I.kept (t' := s.toks) fun b o e => hx b o (Nat.ne_of_lt (Heap.lt_size e)) e
      exact h pins _ σ H xs _ Q I1 (by simpa using rv) hw
    . exact pg_tup hc h hn hst pins s σ H _ u Q I r ⟨a, xs, rfl, hq, hl, hw⟩
  | _ => exact False.elim hw
theorem gm_seqs {n : Nat} {t : TGs} (h : GsMono t) : GMono (gSeqs K n t) := fun v _ _ _ _ k q => by
  cases v <;> first | exact False.elim q | (obtain ⟨xs, s, l, q⟩ := q; exact ⟨xs, s, l, h _ _ _ _ _ k q⟩)
def mCut (K : PySem.W.Frag) : V -> Option Int -> Option Int -> Hp -> VK -> Prop := fun x lo hi H Q => match x with
  | .ref a => ∃ xs, (SqL K H a xs /\ ∀ p, H p = none -> Q (.ref p) (upd H p (.lst (cutV xs lo hi)))) \/
      (SqT K H a xs /\ ¬ (HT.sIx xs.length 0 lo = 0 /\ HT.sIx xs.length xs.length hi = xs.length) /\ ∀ p, H p = none -> Q (.ref p) (upd H p (.tup (cutV xs lo hi))))
  | _ => False
theorem sm_cut : SlR X (mCut X.K) := by
  intro pins s σ H x v vl vu lo hi sl Q I rx hs pl pu q
  cases x with
  | ref a =>
    obtain ⟨xs, ⟨h, q⟩ | ⟨h, h2, q⟩⟩ := q
    . exact sl_list pins s σ H _ v vl vu lo hi sl Q I rx hs pl pu ⟨a, xs, rfl, h, q⟩
    . exact sl_tup pins s σ H _ v vl vu lo hi sl Q I rx hs pl pu ⟨a, xs, rfl, h, h2, q⟩
  | _ => exact False.elim q
theorem kCut (he : PE X e te) (hl : PO X lo tl) (hu : PO X hi th) (hK : X.K = K := by rfl) : PE X (.Subscript e (.Slice lo hi none p2) pos) (tSl (mCut K) te tl th) := hK ▸ pe_slice sm_cut he hl hu
def OMono (t : TO) : Prop := ∀ σ H (Q Q' : Option Int -> Hp -> Prop), (∀ b H, Q b H -> Q' b H) -> t σ H Q -> t σ H Q'
theorem om_none : OMono tNoPart := fun _ _ _ _ h q => h _ _ q
theorem om_some (h : EMono te) : OMono (tPart te) := fun σ H Q Q' k q => h _ _ _ _ (fun _ _ ⟨i, e, q⟩ => ⟨i, e, k _ _ q⟩) q
end
theorem sqT_same {K : PySem.W.Frag} {H H' : Hp} {a : Addr} {xs : List V} (h : SqT K H a xs) (s : Same H H') : SqT K H' a xs := sqT_stay h fun o e => s a o e
mutual
theorem Rep.same {K : PySem.W.Frag} {H H' : Hp} (s : Same H H') : ∀ (d : Dv) (v : V), Rep K H d v -> Rep K H' d v
  | .non, v, h => by unfold Rep at *; exact h
  | .bl b, v, h => by unfold Rep at *; exact h
  | .int i, v, h => by unfold Rep at *; exact h
  | .str x, v, h => by unfold Rep at *; exact h
  | .tup ds, v, h => by
    unfold Rep at *
    obtain ⟨a, xs, e, h1, h2⟩ := h
    exact ⟨a, xs, e, sqT_same h1 s, Reps.same s ds xs h2⟩
  | .lst ds, v, h => by
    unfold Rep at *
    obtain ⟨a, xs, e, h1, h2⟩ := h
    exact ⟨a, xs, e, sqL_stay h1 fun o e => s a o e, Reps.same s ds xs h2⟩
theorem Reps.same {K : PySem.W.Frag} {H H' : Hp} (s : Same H H') : ∀ (ds : List Dv) (xs : List V), Reps K H ds xs -> Reps K H' ds xs
  | [], xs, h => by unfold Reps at *; exact h
  | d :: ds, xs, h => by
    unfold Reps at *
    obtain ⟨x, r, e, h1, h2⟩ := h
    exact ⟨x, r, e, Rep.same s d x h1, Reps.same s ds r h2⟩
end
mutual
def tupOnly : Dv -> Bool
  | .tup ds => tupsOnly ds
  | .lst _ => false
  | _ => true
def tupsOnly : List Dv -> Bool
  | [] => true
  | d :: ds => tupOnly d && tupsOnly ds
end
mutual
theorem Rep.frm {K : PySem.W.Frag} {H H' : Hp} {t : Addr} (s : Frm t H H') (ht : ∃ zs, H t = some (.lst zs)) : ∀ (d : Dv) (v : V), tupOnly d = true -> Rep K H d v -> Rep K H' d v
  | .non, v, _, h => by unfold Rep at *; exact h
  | .bl b, v, _, h => by unfold Rep at *; exact h
  | .int i, v, _, h => by unfold Rep at *; exact h
  | .str x, v, _, h => by unfold Rep at *; exact h
  | .tup ds, v, hd, h => by
    unfold tupOnly at hd
    unfold Rep at *
    obtain ⟨a, xs, e, h1, h2⟩ := h
    refine ⟨a, xs, e, ?_, Reps.frm s ht ds xs hd h2⟩
    obtain ⟨zs, hz⟩ := ht
    rcases h1 with (h1 | ⟨o, h1⟩) | h1
    . exact .inl (.inl (s a _ (fun q => by rw [q, hz] at h1; cases h1) h1))
    . exact .inl (.inr ⟨o, s a _ (fun q => by rw [q, hz] at h1; cases h1) h1⟩)
    . exact .inr h1
  | .lst ds, v, hd, h => by unfold tupOnly at hd; cases hd
theorem Reps.frm {K : PySem.W.Frag} {H H' : Hp} {t : Addr} (s : Frm t H H') (ht : ∃ zs, H t = some (.lst zs)) : ∀ (ds : List Dv) (xs : List V), tupsOnly ds = true -> Reps K H ds xs -> Reps K H' ds xs
  | [], xs, _, h => by unfold Reps at *; exact h
  | d :: ds, xs, hd, h => by
    unfold tupsOnly at hd
    rw [Bool.and_eq_true] at hd
    unfold Reps at *
    obtain ⟨x, r, e, h1, h2⟩ := h
    exact ⟨x, r, e, Rep.frm s ht d x hd.1 h1, Reps.frm s ht ds r hd.2 h2⟩
end
theorem if_val {c : TT} {t u : TS} {D : Ends} {σ : St} {H : Hp} (b : Bool) (hc : ∀ Q : Bool -> Hp -> Prop, Q b H -> c σ H Q) (h : if b = true then t D σ H else u D σ H) : tIfS c t u D σ H := hc _ h
theorem Tape.lst {K : PySem.W.Frag} {H : Hp} {t a : Addr} {ns : List Int} (T : Tape K H t a ns) : ∃ zs, H t = some (.lst zs) := by
  obtain ⟨i, r, c, _, _, h⟩ := T.at_
  exact ⟨_, h⟩
theorem rep_tup1 {K : PySem.W.Frag} {H : Hp} {p : Addr} {xs : List V} {ds : List Dv} (h : H p = some (.tup xs)) (r : Reps K H ds xs) : Rep K H (.tup ds) (.ref p) := by unfold Rep; exact ⟨p, xs, rfl, .of h, r⟩
theorem reps_nil {K : PySem.W.Frag} {H : Hp} : Reps K H [] [] := by unfold Reps; rfl
theorem reps_cons {K : PySem.W.Frag} {H : Hp} {d : Dv} {ds : List Dv} {x : V} {xs : List V} (h : Rep K H d x) (r : Reps K H ds xs) : Reps K H (d :: ds) (x :: xs) := by unfold Reps; exact ⟨x, xs, rfl, h, r⟩
theorem rep_str {K : PySem.W.Frag} {H : Hp} {x : Str} : Rep K H (.str x) (.str x) := by unfold Rep; rfl
theorem rep_int {K : PySem.W.Frag} {H : Hp} {x : Int} : Rep K H (.int x) (.int x) := by unfold Rep; rfl
theorem rep_bl {K : PySem.W.Frag} {H : Hp} {x : Bool} : Rep K H (.bl x) (.bl x) := by unfold Rep; rfl
theorem Reps.append {K : PySem.W.Frag} {H : Hp} : ∀ {ds es : List Dv} {xs ys : List V}, Reps K H ds xs -> Reps K H es ys -> Reps K H (ds ++ es) (xs ++ ys)
  | [], es, xs, ys, h, h' => by unfold Reps at h; subst h; exact h'
  | d :: ds, es, xs, ys, h, h' => by
    unfold Reps at h
    obtain ⟨x, r, rfl, h1, h2⟩ := h
    exact reps_cons h1 (Reps.append h2 h')
section
variable {κ : Type} [DecidableEq κ]
def valV (kvs : List (κ × V)) (k : κ) : Option V := (kvs.find? fun kv => decide (kv.1 = k)).map (·.2)
def putK (kvs : List (κ × V)) (k : κ) (v : V) : List (κ × V) :=
  if (kvs.any fun kv => decide (kv.1 = k)) = true then kvs.map (fun kv => if kv.1 = k then (kv.1, v) else kv) else kvs ++ [(k, v)]
theorem valV_pos {p : κ × V} {r : List (κ × V)} {k : κ} (e : p.1 = k) : valV (p :: r) k = some p.2 := by simp [valV, List.find?_cons, e]
theorem valV_neg {p : κ × V} {r : List (κ × V)} {k : κ} (e : ¬ p.1 = k) : valV (p :: r) k = valV r k := by simp [valV, List.find?_cons, e]
theorem valV_any (k : κ) : ∀ kvs : List (κ × V), (kvs.any fun kv => decide (kv.1 = k)) = (valV kvs k).isSome
  | [] => rfl
  | p :: r => by
    rw [List.any_cons]
    by_cases e : p.1 = k
    . simp only [valV_pos e, decide_eq_true e, Bool.true_or, Option.isSome_some]
    . rw [valV_neg e, decide_eq_false e, Bool.false_or]; exact valV_any k r
theorem valV_map (k j : κ) (y : V) : ∀ kvs : List (κ × V), valV (kvs.map fun kv => if kv.1 = k then (kv.1, y) else kv) j = (valV kvs j).map fun x => if j = k then y else x
  | [] => rfl
  | p :: r => by
    have ih := valV_map k j y r
    rw [List.map_cons]
    by_cases h : p.1 = k
    . rw [if_pos h]
      by_cases e : p.1 = j
      . rw [valV_pos (p := (p.1, y)) e, valV_pos e, Option.map_some, if_pos (e.symm.trans h)]
      . rw [valV_neg (p := (p.1, y)) e, valV_neg e, ih]
    . rw [if_neg h]
      by_cases e : p.1 = j
      . rw [valV_pos (p := p) e, valV_pos e, Option.map_some, if_neg (fun z => h (e.trans z))]
      . rw [valV_neg (p := p) e, valV_neg e, ih]
theorem valV_snoc (k j : κ) (y : V) : ∀ kvs : List (κ × V), valV kvs k = none -> valV (kvs ++ [(k, y)]) j = if j = k then some y else valV kvs j
  | [], _ => by
    by_cases e : k = j
    . rw [if_pos e.symm]; exact valV_pos (p := (k, y)) e
    . rw [if_neg (fun z => e z.symm)]; exact valV_neg (p := (k, y)) e
  | p :: r, hn => by
    rw [List.cons_append]
    have hk : ¬ p.1 = k := fun z => by rw [valV_pos z] at hn; cases hn
    rw [valV_neg hk] at hn
    have ih := valV_snoc k j y r hn
    by_cases e : p.1 = j
    . rw [valV_pos e, valV_pos e, if_neg (fun z => hk (e.trans z))]
    . rw [valV_neg e, valV_neg e, ih]
theorem valV_put (kvs : List (κ × V)) (k j : κ) (y : V) : valV (putK kvs k y) j = if j = k then some y else valV kvs j := by
  unfold putK
  by_cases a : (kvs.any fun kv => decide (kv.1 = k)) = true
  . rw [if_pos a, valV_map]
    rw [valV_any] at a
    by_cases e : j = k
    . obtain ⟨x, hx⟩ := Option.isSome_iff_exists.mp a
      rw [if_pos e, e, hx, Option.map_some, if_pos rfl]
    . rw [if_neg e]
      cases valV kvs j with
      | none => rfl
      | some x => rw [Option.map_some, if_neg e]
  . rw [if_neg a]
    refine valV_snoc k j y kvs ?_
    rw [valV_any] at a
    cases q : valV kvs k with
    | none => rfl
    | some x => rw [q] at a; exact (a rfl).elim
theorem length_putK (kvs : List (κ × V)) (k : κ) (v : V) : (putK kvs k v).length <= kvs.length + 1 := by
  unfold putK
  split
  . rw [List.length_map]; omega
  . rw [List.length_append, List.length_cons, List.length_nil]; omega
theorem putK_new {kvs : List (κ × V)} {k : κ} (v : V) (h : valV kvs k = none) : putK kvs k v = kvs ++ [(k, v)] := by
  unfold putK
  rw [valV_any, h]
  exact if_neg (by decide)
theorem RelO.isSome_eq {o : Option V} {u : Option Value} (r : RelO o u) : o.isSome = u.isSome := by
  cases o with
  | none => cases u with
    | none => rfl
    | some _ => exact (show False from r).elim
  | some _ => cases u with
    | none => exact (show False from r).elim
    | some _ => rfl
theorem RelO.getD {o : Option V} {u : Option Value} {d : V} {d' : Value} (r : RelO o u) (rd : RelV d d') : RelV (o.getD d) (u.getD d') := by
  cases o with
  | none => cases u with
    | none => exact rd
    | some _ => exact (show False from r).elim
  | some _ => cases u with
    | none => exact (show False from r).elim
    | some _ => exact r
theorem KV.val {kvs : List (κ × V)} {vs : List (κ × Value)} (r : KV kvs vs) (k : κ) : RelO (valV kvs k) (valueAt vs k) := by
  unfold KV at r
  induction r with
  | nil => exact True.intro
  | @cons p q ps qs h t ih =>
    obtain ⟨h1, h2⟩ := h
    by_cases e : p.1 = k
    . have e' : q.1 = k := h1.symm.trans e
      have b : valueAt (q :: qs) k = some q.2 := by simp [valueAt, List.find?_cons, e']
      rw [valV_pos e, b]; exact h2
    . have e' : ¬ q.1 = k := fun z => e (h1.trans z)
      have b : valueAt (q :: qs) k = valueAt qs k := by simp [valueAt, List.find?_cons, e']
      rw [valV_neg e, b]; exact ih
theorem KV.any {kvs : List (κ × V)} {vs : List (κ × Value)} (r : KV kvs vs) (k : κ) : (kvs.any fun kv => decide (kv.1 = k)) = vs.any fun kv => decide (kv.1 = k) := by
  unfold KV at r
  induction r with
  | nil => rfl
  | cons h t ih => rw [List.any_cons, List.any_cons, ih, h.1]
theorem KV.repl {kvs : List (κ × V)} {vs : List (κ × Value)} (r : KV kvs vs) (k : κ) {y : V} {u : Value} (ry : RelV y u) :
    KV (kvs.map fun kv => if kv.1 = k then (kv.1, y) else kv) (vs.map fun kv => if kv.1 = k then (kv.1, u) else kv) := by
  unfold KV at r ⊢
  induction r with
  | nil => exact .nil
  | @cons p q ps qs h t ih =>
    rw [List.map_cons, List.map_cons]
    refine .cons ?_ ih
    obtain ⟨h1, h2⟩ := h
    by_cases e : p.1 = k
    . rw [if_pos e, if_pos (h1.symm.trans e)]; exact ⟨h1, ry⟩
    . rw [if_neg e, if_neg (fun z => e (h1.trans z))]; exact ⟨h1, h2⟩
theorem KV.put {kvs : List (κ × V)} {vs : List (κ × Value)} (r : KV kvs vs) (k : κ) {y : V} {u : Value} (ry : RelV y u) : KV (putK kvs k y) (stored vs k u) := by
  unfold putK stored
  rw [r.any k]
  by_cases e : (vs.any fun kv => decide (kv.1 = k)) = true
  . rw [if_pos e, if_pos e]; exact r.repl k ry
  . rw [if_neg e, if_neg e]; exact Paired.snoc r ⟨rfl, ry⟩
theorem KV.length {kvs : List (κ × V)} {vs : List (κ × Value)} (r : KV kvs vs) : kvs.length = vs.length := Paired.length r
end
theorem kV_is {P : Program} {w : World} {k : Key} {u : Value} (r : RelV (kV k) u) : (mixKind P w).is k u = true := by
  cases k with
  | inl i => obtain ⟨t, e⟩ := (show ∃ t, u = Value.int i t from r); subst e; exact mixKind_int P w i t
  | inr x => obtain ⟨t, e⟩ := (show ∃ t, u = Value.str x t from r); subst e; exact mixKind_str P w x t
theorem items_are {P : Program} {w : World} : ∀ {ks : List Key} {us : List Value}, Vals (ks.map kV) us -> ItemsAre (mixKind P w) ks us
  | [], _, r => by rw [List.map_nil] at r; cases r; exact .nil
  | k :: ks, _, r => by
    rw [List.map_cons] at r
    cases r with
    | cons h t => exact .cons (kV_is h) (items_are t)
abbrev KT (H : Hp) : List (List Key × V) -> List (List Key × Addr × Value) -> Prop := Paired fun p q => p.1 = q.1 /\ H q.2.1 = some (.tup (p.1.map kV)) /\ RelV p.2 q.2.2
theorem KT.val {H : Hp} {kvs : List (List Key × V)} {xs : List (List Key × Addr × Value)} (r : KT H kvs xs) (k : List Key) : RelO (valV kvs k) ((atKey xs k).map (·.2)) := by
  induction r with
  | nil => exact True.intro
  | @cons p q ps qs h t ih =>
    obtain ⟨h1, _, h2⟩ := h
    by_cases e : p.1 = k
    . have e' : q.1 = k := h1.symm.trans e
      have b : atKey (q :: qs) k = some q.2 := by simp [atKey, List.find?_cons, e']
      rw [valV_pos e, b]; exact h2
    . have e' : ¬ q.1 = k := fun z => e (h1.trans z)
      have b : atKey (q :: qs) k = atKey qs k := by simp [atKey, List.find?_cons, e']
      rw [valV_neg e, b]; exact ih
theorem KT.repl {H : Hp} {kvs : List (List Key × V)} {xs : List (List Key × Addr × Value)} (r : KT H kvs xs) (k : List Key) {y : V} {u : Value} (ry : RelV y u) :
    KT H (kvs.map fun kv => if kv.1 = k then (kv.1, y) else kv) (xs.map (putAt k u)) := by
  induction r with
  | nil => exact .nil
  | @cons p q ps qs h t ih =>
    rw [List.map_cons, List.map_cons]
    refine .cons ?_ ih
    obtain ⟨h1, h2, h3⟩ := h
    unfold putAt
    by_cases e : p.1 = k
    . rw [if_pos e, if_pos (h1.symm.trans e)]; exact ⟨h1, h2, ry⟩
    . rw [if_neg e, if_neg (fun z => e (h1.trans z))]; exact ⟨h1, h2, h3⟩
theorem KT.put {H : Hp} {kvs : List (List Key × V)} {xs : List (List Key × Addr × Value)} (r : KT H kvs xs) (k : List Key) {b : Addr} {y : V} {u : Value} (hb : H b = some (.tup (k.map kV))) (ry : RelV y u) :
    KT H (putK kvs k y) (storedH xs k b u) := by
  have e : (kvs.any fun kv => decide (kv.1 = k)) = (atKey xs k).isSome := by
    rw [valV_any, (r.val k).isSome_eq, Option.isSome_map]
  unfold putK storedH
  rw [e]
  by_cases q : (atKey xs k).isSome = true
  . rw [if_pos q, if_pos q]; exact r.repl k ry
  . rw [if_neg q, if_neg q]; exact Paired.snoc r ⟨rfl, hb, ry⟩
theorem KT.keeps {H H' : Hp} {kvs : List (List Key × V)} {xs : List (List Key × Addr × Value)} (r : KT H kvs xs) (ht : ∀ b ys, H b = some (.tup ys) -> H' b = some (.tup ys)) : KT H' kvs xs :=
  Paired.mapP r fun _ _ z => ⟨z.1, ht _ _ z.2.1, z.2.2⟩
section
variable {P : Program} {w : World} {H : Hp} {h : Heap} {a : Addr}
theorem rd_of {u : HO} (ok : HOk P w H h) (e : Rd H a u) : ObjOk P w H h a u := e.ok ok
theorem dk_rd {kvs : List (Key × V)} (ok : HOk P w H h) (e : Rd H a (.dK kvs)) : kvs.length <= sizeLine /\ (a == sysModules) = false /\ ∃ vs, KV kvs vs /\ h.DictOf (mixKind P w) a vs :=
  show ObjOk P w H h a (.dK kvs) from rd_of ok e
theorem dk_of {kvs : List (Key × V)} (ok : HOk P w H h) (e : H a = some (.dK kvs)) : kvs.length <= sizeLine /\ (a == sysModules) = false /\ ∃ vs, KV kvs vs /\ h.DictOf (mixKind P w) a vs := dk_rd ok (.inl e)
theorem key_of {ks : List Key} (ok : HOk P w H h) (e : H a = some (.tup (ks.map kV))) : (tupleKind (mixKind P w)).is h ks a := by
  obtain ⟨_, its, r, o, h1, h2, ⟨n, h3⟩, _⟩ := (show ObjOk P w H h a (.tup (ks.map kV)) from ok a _ e)
  exact ⟨o, its.toArray, n, h1, h2, h3, by simpa using items_are r⟩
theorem dt_rd {kvs : List (List Key × V)} (ok : HOk P w H h) (e : Rd H a (.dT kvs)) : kvs.length <= sizeLine /\ (a == sysModules) = false /\
    ∃ xs, KT H kvs xs /\ h.DictOfH (tupleKind (mixKind P w)) a xs := by
  obtain ⟨z, y, xs, r, o, es, ep, h1, h2, h3, h4, h5⟩ := (show ObjOk P w H h a (.dT kvs) from rd_of ok e)
  refine ⟨z, y, xs, r, o, es, ep, h1, h2, h3, h4, fun x hx => ?_, h5⟩
  have all : ∀ {l : List (List Key × V)} {m : List (List Key × Addr × Value)}, KT H l m -> ∀ x ∈ m, (tupleKind (mixKind P w)).is h x.1 x.2.1 := by
    intro l m q
    induction q with
    | nil => intro x hx; exact nomatch hx
    | @cons p q ps qs hq t ih =>
      intro x hx
      rcases List.mem_cons.mp hx with e | hx
      . subst e
        exact key_of ok (by rw [<- hq.1]; exact hq.2.1)
      . exact ih x hx
  exact all r x hx
theorem dt_of {kvs : List (List Key × V)} (ok : HOk P w H h) (e : H a = some (.dT kvs)) : kvs.length <= sizeLine /\ (a == sysModules) = false /\
    ∃ xs, KT H kvs xs /\ h.DictOfH (tupleKind (mixKind P w)) a xs := dt_rd ok (.inl e)
end
def DGet (H : Hp) (a : Addr) (y : V) (r : Option V) : Prop :=
  (∃ kvs k, Rd H a (.dK kvs) /\ y = kV k /\ r = valV kvs k) \/ ∃ kvs k b, Rd H a (.dT kvs) /\ y = .ref b /\ H b = some (.tup (k.map kV)) /\ r = valV kvs k
def DPut (H : Hp) (a : Addr) (y v : V) (H' : Hp) : Prop :=
  (∃ kvs k, H a = some (.dK kvs) /\ y = kV k /\ kvs.length < sizeLine /\ H' = upd H a (.dK (putK kvs k v))) \/
  ∃ kvs k b, H a = some (.dT kvs) /\ y = .ref b /\ H b = some (.tup (k.map kV)) /\ kvs.length < sizeLine /\ H' = upd H a (.dT (putK kvs k v))
theorem DGet.k {H : Hp} {a : Addr} {kvs : List (Key × V)} {k : Key} (e : H a = some (.dK kvs)) : DGet H a (kV k) (valV kvs k) := .inl ⟨kvs, k, .inl e, rfl, rfl⟩
theorem DGet.t {H : Hp} {a b : Addr} {kvs : List (List Key × V)} {k : List Key} (e : H a = some (.dT kvs)) (eb : H b = some (.tup (k.map kV))) : DGet H a (.ref b) (valV kvs k) := .inr ⟨kvs, k, b, .inl e, rfl, eb, rfl⟩
theorem DPut.k {H : Hp} {a : Addr} {kvs : List (Key × V)} {k : Key} {v : V} (e : H a = some (.dK kvs)) (hl : kvs.length < sizeLine) : DPut H a (kV k) v (upd H a (.dK (putK kvs k v))) := .inl ⟨kvs, k, e, rfl, hl, rfl⟩
theorem DPut.t {H : Hp} {a b : Addr} {kvs : List (List Key × V)} {k : List Key} {v : V} (e : H a = some (.dT kvs)) (eb : H b = some (.tup (k.map kV))) (hl : kvs.length < sizeLine) :
    DPut H a (.ref b) v (upd H a (.dT (putK kvs k v))) := .inr ⟨kvs, k, b, e, rfl, eb, hl, rfl⟩
section
variable {X : Cx} {pins : List (Addr × Obj)} {σ : St} {H : Hp} {s : Shared} {a : Addr} {y v : V} {u r : Value} {o : Option V} {A : Around} {E : Value -> Shared -> Prop}
theorem Inv.big (I : Inv X pins σ H s) : sysModules < s.heap.objs.size := by
  have h : mainGlobals < s.heap.objs.size := (I.mod.glob.keeps I.bk).lt
  exact Nat.lt_trans (by decide) h
theorem d_getItem {Q : Value -> Shared -> Prop} (hu : A.units + 1 < cLine) (I : Inv X pins σ H s) (g : DGet H a y (some v)) (ry : RelV y u) (h : ∀ w' s', Inv X pins σ H s' -> RelV v w' -> Q w' s') :
    wpAny (model X.prog X.w) A (getItem (.ref a) u) Q E s := by
  rcases g with ⟨kvs, k, e, ey, l⟩ | ⟨kvs, k, b, e, ey, eb, l⟩
  . subst ey
    obtain ⟨z, hd, vs, rel, dd⟩ := dk_rd I.hok e
    obtain ⟨w', hw, rw'⟩ := RelO.some_of (v := v) (o := valueAt vs k) (by rw [l]; exact rel.val k)
    exact wpAny_getItem_of (kV_is ry) dd.mapOf hw (h w' _ (I.tok _) rw')
  . subst ey
    cases (show u = Value.ref b from ry)
    obtain ⟨z, hd, xs, rel, dd⟩ := dt_rd I.hok e
    obtain ⟨w', hw, rw'⟩ := RelO.some_of (v := v) (o := (atKey xs k).map (·.2)) (by rw [l]; exact rel.val k)
    obtain ⟨p, hp, hp2⟩ := Option.map_eq_some_iff.mp hw
    refine wpAny_getItem_heap (tupleKind_room_in1 hu) (key_of I.hok eb) dd hp ?_
    rw [hp2]
    exact h w' _ (I.tok _) rw'
theorem d_write {h' : Heap} {t' : Nat} {ob : HO} (I : Inv X pins σ H s) (mu : Mut (H a)) (hs : Heap.SameBut a s.heap h') (he : ∃ q, h'.get? a = some q) (new : ObjOk X.prog X.w (upd H a ob) h' a ob) :
    Inv X pins σ (upd H a ob) { s with heap := h', toks := t' } :=
  I.write (x := a) (e := a) mu (.inl rfl) (fun b q hb z => (hs.2 b hb).trans z) he new
theorem dk_new {P : Program} {w : World} {H' : Hp} {h' : Heap} {kvs : List (Key × V)} {vs : List (Key × Value)} (z : kvs.length <= sizeLine) (hd : (a == sysModules) = false) (rel : KV kvs vs) (dd : h'.DictOf (mixKind P w) a vs) :
    ObjOk P w H' h' a (.dK kvs) := ⟨z, hd, vs, rel, dd⟩
theorem d_setItem {H' : Hp} {Q : Unit -> Shared -> Prop} (hu : A.units + 1 < cLine) (I : Inv X pins σ H s) (g : DPut H a y v H') (ry : RelV y u) (rv : RelV v r) (h : ∀ s', Inv X pins σ H' s' -> Q () s') :
    wpAny (model X.prog X.w) A (setItem (.ref a) u r) Q E s := by
  rcases g with ⟨kvs, k, e, ey, l, eH⟩ | ⟨kvs, k, b, e, ey, eb, l, eH⟩
  . subst ey eH
    obtain ⟨z, hd, vs, rel, dd⟩ := dk_of I.hok e
    have hz : vs.length <= sizeLine := by rw [<- rel.length]; exact z
    have hl : (putK kvs k v).length <= sizeLine := by have := length_putK kvs k v; omega
    refine wpAny_setItem_pairs (hsz := hz) (kV_is ry) dd fun h' dd' hs => h _ ?_
    have he : ∃ q, h'.get? a = some q := let ⟨q, _, _, hq, _⟩ := dd'; ⟨q, hq⟩
    exact d_write I (by rw [e]; exact True.intro) hs he (dk_new hl hd (rel.put k rv) dd')
  . subst ey eH
    cases (show u = Value.ref b from ry)
    obtain ⟨z, hd, xs, rel, dd⟩ := dt_of I.hok e
    have hz : xs.length <= sizeLine := by rw [<- Paired.length rel]; exact z
    have hl : (putK kvs k v).length <= sizeLine := by have := length_putK kvs k v; omega
    refine wpAny_setItem_heap (hsz := hz) (tupleKind_room_in1 hu) (key_of I.hok eb) dd fun h' dd' hs => h _ ?_
    obtain ⟨q, es, ep, hq, h2, h3, h4, _, h5⟩ := dd'
    refine d_write I (by rw [e]; exact True.intro) hs ⟨q, hq⟩ ⟨hl, hd, _, (rel.put k eb rv).keeps fun c ys ec => ?_, q, es, ep, hq, h2, h3, h4, h5⟩
    rw [upd_ne (ne_of ec e (fun z => nomatch z))]
    exact ec
end
section
variable {X : Cx} {pins : List (Addr × Obj)} {σ : St} {H : Hp} {s : Shared} {a : Addr} {kvs : List (Key × V)} {k : Key} {u : Value} {A : Around} {E : Value -> Shared -> Prop}
end
def NoSl (i : Expr) : Prop := ∀ ov iv, subscripted i false ov iv = operate [ov, iv] (getItem ov iv)
theorem subD_of {prog : Program} {w : World} {A : Around} {E : Value -> Shared -> Prop} {s : Shared} {env : Env} {value slice : Expr} {pos : Pos} {T id : String} {Q : Value -> Shared -> Prop}
    (hl : typeLookup (.type T) "__getitem__" = pure (some (.builtin id))) (hs : NoSl slice)
    (h : wpAny (model prog w) A (eval value env) (fun o s₁ => wpAny (model prog w) A (eval slice env) (fun i s₂ => s₂.TypeIs o T /\ wpAny (model prog w) A (getItem o i) Q E s₂) E s₁) E s) :
    wpAny (model prog w) A (eval (.Subscript value slice pos) env) Q E s := by
  refine Subscript_ (wpAny_mono h (fun o s₁ h₁ => wpAny_mono h₁ (fun i s₂ h₂ => ?_) fun _ _ x => x) fun _ _ x => x)
  obtain ⟨hT, h₂⟩ := h₂
  unfold subscriptTail
  refine wpAny_bind ?_
  rw [getitemInPython_of_ne hT.not_modules]
  refine wpAny_bind (wpAny_specialOf hT hl ?_)
  have fin : wpAny (model prog w) A (subscripted slice false o i) (fun r s₃ => wpAny (model prog w) A (letTemporaryGo value o r >>= fun _ => pure r) Q E s₃) E s₂ := by
    rw [hs o i]
    exact wpAny_operating (wpAny_mono h₂ (fun r s₃ h₃ => wpAny_bind (wpAny_letTemporaryGo (wpAny_pure h₃))) fun _ _ x => x)
  first
    | exact wpAny_pure (wpAny_bind fin)
    | exact wpAny_bind (wpAny_pure (wpAny_bind fin))
    | exact wpAny_bind fin
theorem dict_typeIs {X : Cx} {pins : List (Addr × Obj)} {σ : St} {H : Hp} {s : Shared} {a : Addr} {y : V} {o : Option V} (I : Inv X pins σ H s) (g : DGet H a y o) : s.TypeIs (.ref a) "dict" := by
  rcases g with ⟨kvs, k, e, _, _⟩ | ⟨kvs, k, b, e, _, _, _⟩
  . obtain ⟨_, _, vs, _, dd⟩ := dk_rd I.hok e
    exact dd.typeIs
  . obtain ⟨_, _, xs, _, dd⟩ := dt_rd I.hok e
    exact dd.typeIs
def tDGet (td ty : TE) : TE := fun σ H Q => td σ H fun x H1 => ty σ H1 fun y H2 => ∃ a v, x = .ref a /\ DGet H2 a y (some v) /\ Q v H2
def sDPut (td ty tv : TE) : TS := fun D σ H => tv σ H fun v H1 => td σ H1 fun x H2 => ty σ H2 fun y H3 => ∃ a H4, x = .ref a /\ DPut H3 a y v H4 /\ D.nx σ H4
section
variable {X : Cx} {o i e value : Expr} {pos pos' tpos : Pos} {td ty tv : TE}
theorem pe_dget (hu : X.A.units + 1 < cLine) (ho : PE X o td) (hi : PE X i ty) (hs : NoSl i) : PE X (.Subscript o i pos) (tDGet td ty) := by
  intro pins s σ H Q I h
  refine subD_of PySem.F.slot_dict_getitem.lookup hs (thn (ho pins s σ H _ I h) fun u s1 ⟨x, H1, I1, rx, q1⟩ => thn (hi pins s1 σ H1 _ I1 q1) fun iv s2 ⟨y, H2, I2, ry, a, v, ex, g, q2⟩ => ?_)
  subst ex
  obtain rfl : u = Value.ref a := rx
  exact ⟨dict_typeIs I2 g, d_getItem hu I2 g ry fun w' s3 I3 rw' => ⟨v, H2, I3, rw', q2⟩⟩
theorem ps_dput (hu : X.A.units + 1 < cLine) (ho : PE X o td) (hi : PE X i ty) (hv : PE X value tv) (hs : swapsWith value (some (.Subscript o i pos')) pos.line X.env = pure false) :
    PS X (.Assign [.Subscript o i pos'] value pos) (sDPut td ty tv) := by
  intro pins s σ H D I h
  refine wpAny_Assign_Subscript (thn (hv pins s σ H _ I h) fun r s1 ⟨v, H1, I1, rv, q1⟩ => thn (ho pins s1 σ H1 _ I1 q1) fun u s2 ⟨x, H2, I2, rx, q2⟩ => thn (hi pins s2 σ H2 _ I2 q2) fun iv s3 ⟨y, H3, I3, ry, a, H4, ex, g, q3⟩ => ?_) hs
  subst ex
  obtain rfl : u = Value.ref a := rx
  exact d_setItem hu I3 g ry rv fun s4 I4 => ⟨σ, H4, I4, q3⟩
end
theorem dk_empty {P : Program} {w : World} {H : Hp} (h : Heap) (hb : sysModules < h.objs.size) : ObjOk P w H (h.push { cls := .type "dict", data := .dict #[] }) h.objs.size (.dK []) :=
  ⟨Nat.zero_le _, beq_eq_false_iff_ne.mpr (Ne.symm (Nat.ne_of_lt hb)), [], .nil, Heap.DictOf.new h⟩
def tDNewK : TE := fun _ H Q => ∀ p, H p = none -> Q (.ref p) (upd H p (.dK []))
section
variable {X : Cx} {pos : Pos}
theorem pe_dnewK : PE X (.Dict [] [] pos) tDNewK := fun pins s σ H Q I h =>
  wpAny_Dict_empty ⟨.ref s.heap.objs.size, _, I.laid (a := s.heap.objs.size) (o := .dK []) (t' := s.toks) (fun _ _ q => Heap.get?_push_of_some _ q) (Nat.le_refl _) (dk_empty s.heap I.big), rfl, h _ (I.hok.fresh (Nat.le_refl _))⟩
end
structure M1 (X : Cx) (o : Expr) (m : Str) (apos : Pos) (e : Expr) (cpos : Pos) : Prop where
  base : attributeBase o m X.env (eval o X.env) = eval o X.env
  few : ((backTo cpos (starEach [e] X.env)).all (fun x => !x.1) && (backToKw cpos (keywordEach [] X.env)).all (fun x => x.1.isSome)
    && decide (([e] : List Expr).length + ([] : List Keyword).length + (if ([] : List Keyword).isEmpty then 0 else 1) < 30)) = true
  line : (apos.endLine == cpos.line) = true
  trees : backTo cpos (starEach [e] X.env) = [(false, eval e X.env)]
structure M2 (X : Cx) (o : Expr) (m : Str) (apos : Pos) (e f : Expr) (cpos : Pos) : Prop where
  base : attributeBase o m X.env (eval o X.env) = eval o X.env
  few : ((backTo cpos (starEach [e, f] X.env)).all (fun x => !x.1) && (backToKw cpos (keywordEach [] X.env)).all (fun x => x.1.isSome)
    && decide (([e, f] : List Expr).length + ([] : List Keyword).length + (if ([] : List Keyword).isEmpty then 0 else 1) < 30)) = true
  line : (apos.endLine == cpos.line) = true
  trees : backTo cpos (starEach [e, f] X.env) = [(false, eval e X.env), (false, eval f X.env)]
def IsD (H : Hp) (a : Addr) : Prop := (∃ kvs, Rd H a (.dK kvs)) \/ ∃ kvs, Rd H a (.dT kvs)
theorem isD_at {X : Cx} {pins : List (Addr × Obj)} {σ : St} {H : Hp} {s : Shared} {a : Addr} (I : Inv X pins σ H s) (d : IsD H a) :
    s.TypeIs (.ref a) "dict" /\ (∀ b, Value.ref a = .ref b -> ∃ ob, s.heap.get? b = some ob /\ ob.dict = none) /\ (a == sysModules) = false := by
  rcases d with ⟨kvs, e⟩ | ⟨kvs, e⟩
  . obtain ⟨_, hd, vs, _, dd⟩ := dk_rd I.hok e
    refine ⟨dd.typeIs, fun b q => ?_, hd⟩
    cases q
    obtain ⟨ob, _, _, h1, h2, _⟩ := dd
    exact ⟨ob, h1, h2.2.1⟩
  . obtain ⟨_, hd, xs, _, dd⟩ := dt_rd I.hok e
    refine ⟨dd.typeIs, fun b q => ?_, hd⟩
    cases q
    obtain ⟨ob, _, _, h1, h2, _⟩ := dd
    exact ⟨ob, h1, h2.2.1⟩
section
variable {X : Cx} {pins : List (Addr × Obj)} {σ : St} {H : Hp} {s : Shared} {a : Addr} {y d : V} {u r : Value} {o : Option V} {A : Around} {E : Value -> Shared -> Prop}
theorem d_get2 {Q : Value -> Shared -> Prop} (hu : A.units + 1 < cLine) (I : Inv X pins σ H s) (g : DGet H a y o) (ry : RelV y u) (rd : RelV d r) (h : ∀ w' s', Inv X pins σ H s' -> RelV (o.getD d) w' -> Q w' s') :
    wpAny (model X.prog X.w) A (call (.builtin "dict.get") [.ref a, u, r]) Q E s := by
  rcases g with ⟨kvs, k, e, ey, l⟩ | ⟨kvs, k, b, e, ey, eb, l⟩
  . subst ey
    obtain ⟨z, hd, vs, rel, dd⟩ := dk_rd I.hok e
    refine call_meetsIn PySem.F.slot_dict_get dd.typeIs PySem.F.entry_dict_get (PySem.F.args_dict_get_3 _ _ _) (meets_dict_get_default (mixKind X.prog X.w) a (kV_is ry) hd r) ⟨_, dd.mapOf, h _ _ (I.tok _) ?_⟩
    rw [l]
    exact (rel.val k).getD rd
  . subst ey
    cases (show u = Value.ref b from ry)
    obtain ⟨z, hd, xs, rel, dd⟩ := dt_rd I.hok e
    refine call_meetsIn PySem.F.slot_dict_get dd.typeIs PySem.F.entry_dict_get (PySem.F.args_dict_get_3 _ _ _) (meetsH_dict_get_default (tupleKind (mixKind X.prog X.w)) a b hd r) ⟨tupleKind_room_in1 hu, k, xs, key_of I.hok eb, dd, h _ _ (I.tok _) ?_⟩
    rw [l]
    exact (rel.val k).getD rd
end
def tDGet2 (td ty tx : TE) : TE := fun σ H Q => td σ H fun x H1 => ∃ a, x = .ref a /\ IsD H1 a /\ ty σ H1 fun y H2 => tx σ H2 fun z H3 => ∃ o, DGet H3 a y o /\ Q (o.getD z) H3
section
variable {X : Cx} {o e f : Expr} {apos cpos : Pos} {td ty tx : TE}
theorem pe_dget2 (hu : X.A.units + 1 < cLine) (ho : PE X o td) (he : PE X e ty) (hf : PE X f tx) (m : M2 X o "get" apos e f cpos) : PE X (.Call (.Attribute o "get" apos) [e, f] [] cpos) (tDGet2 td ty tx) := by
  intro pins s σ H Q I h
  refine wpAny_Call_method m.base m.few m.line PySem.F.plainAttrs_dict PySem.F.slot_dict_get PySem.F.type_dict_get (thn (ho pins s σ H _ I h) fun u s1 ⟨x, H1, I1, rx, a, ex, d, q1⟩ => ?_)
  subst ex
  obtain rfl : u = Value.ref a := rx
  obtain ⟨t1, t2, _⟩ := isD_at I1 d
  refine ⟨t1, t2, ?_⟩
  rw [m.trees]
  refine Calls.callWith_builtin rfl (Calls.evalArgs_plain (Calls.spliced_cons (thn (he pins s1 σ H1 _ I1 q1) fun iv s2 ⟨y, H2, I2, ry, q2⟩ =>
    Calls.spliced_cons (thn (hf pins s2 σ H2 _ I2 q2) fun fv s3 ⟨z, H3, I3, rz, ov, g, q3⟩ => Calls.spliced_nil ?_))))
  exact d_get2 hu I3 g ry rz fun w' s4 I4 rw' => ⟨_, H3, I4, rw', q3⟩
end
section
variable {X : Cx} {pins : List (Addr × Obj)} {σ : St} {H : Hp} {s : Shared} {a : Addr} {kvs : List (Key × V)} {A : Around} {E : Value -> Shared -> Prop}
end
section
variable {X : Cx} {pins : List (Addr × Obj)} {σ : St} {H : Hp} {s : Shared} {a : Addr} {y : V} {u : Value} {A : Around} {E : Value -> Shared -> Prop}
end
theorem intOfSelf_bool {M : Model} {A : Around} {E : Value -> Shared -> Prop} {s : Shared} {b : Bool} {Q : Int -> Shared -> Prop} (h : Q (if b = true then 1 else 0) s) : wpAny M A (Builtin.Int.intOfSelf (.bool b)) Q E s := by
  unfold Builtin.Int.intOfSelf
  exact wpAny_pure h
theorem pyHash_bool {prog : Program} {w : World} {A : Around} {E : Value -> Shared -> Prop} {s : Shared} {b : Bool} {Q : Int -> Shared -> Prop} (h : Q (if b = true then 1 else 0) { s with toks := s.toks + 1 }) : wpAny (model prog w) A (pyHash (.bool b)) Q E s := by
  show wpAny _ _ (pyHashByItsType (.bool b)) _ _ _
  refine PySem.W.pyHash_slot (T := "bool") rfl PySem.F.slot_bool_hash PySem.F.entry_int_hash (PySem.F.args_int_hash_1 _) rfl (.inl rfl) ?_
  unfold Builtin.«int.__hash__» Builtin.Int.intSlot0
  refine wpAny_bind (wpAny_bind ?_)
  show wpAny _ _ (pure (Value.bool b, [])) _ _ _
  refine wpAny_pure (wpAny_bind (intOfSelf_bool (wpAny_pure ?_)))
  cases b with
  | true => exact wpAny_bind (wpAny_mkInt (wpAny_pure ⟨_, _, rfl, h⟩))
  | false => exact wpAny_bind (wpAny_mkInt (wpAny_pure ⟨_, _, rfl, h⟩))
def boolIs : Bool -> Value -> Bool
  | b, .bool c => b == c
  | _, _ => false
theorem boolIs_shape {b : Bool} {v : Value} (h : boolIs b v = true) : v = .bool b := by
  unfold boolIs at h
  split at h
  . rw [beq_iff_eq.mp h]
  . cases h
def boolKind (prog : Program) (w : World) : PySem.KeyKind prog w Bool where
  is := boolIs
  hash := fun b => if b = true then 1 else 0
  inj := fun v a b ha hb => by
    have e1 := boolIs_shape ha
    have e2 := boolIs_shape hb
    rw [e1] at e2
    injection e2
  byValue := fun k v h => by rw [boolIs_shape h]; rfl
  pyHash := fun hv h => by rw [boolIs_shape hv]; exact pyHash_bool h
  eqBool := fun {A E s a b u v Q} hu hv h => by
    rw [boolIs_shape hu, boolIs_shape hv]
    refine SeqAt.EqAt.bool_bool a b _ _ _ _ ?_
    have e : (a == b) = decide (a = b) := by cases a <;> cases b <;> rfl
    rw [e]; exact h
  «strs» := fun k x t v h => by
    have := boolIs_shape h
    cases this
section
variable {P : Program} {w : World} {H : Hp} {h : Heap} {a : Addr}
end
section
variable {X : Cx} {o i e value : Expr} {pos pos' tpos : Pos} {td ty tv : TE}
end
section
variable {X : Cx} {P : Program} {w : World} {o i : Expr} {pos : Pos} {td ty : TE}
end
section
variable {X : Cx} {K : PySem.W.Frag} {o : Expr} {to : TE} {apos cpos : Pos}
def mBitlen : V -> List V -> Hp -> VK -> Prop := fun x vs H Q => match x, vs with
  | .int i, [] => Q (.int (Builtin.Int.intBits i : Nat)) H
  | _, _ => False
theorem mm_bitlen : MtR X "int.bit_length" mBitlen := by
  intro pins s σ H x vs v us Q I rx rv q
  match x, vs, q with
  | .int i, [], q =>
    cases rv
    obtain ⟨t, rfl⟩ := (show ∃ t, v = Value.int i t from rx)
    exact PyProof.Rows.call_int_bit_length ⟨.int (Builtin.Int.intBits i : Nat), H, I.tok _, ⟨_, rfl⟩, q⟩
theorem kBitlen (ho : PE X o to) (hbase : attributeBase o "bit_length" X.env (eval o X.env) = eval o X.env := by rfl) (hline : (apos.endLine == cpos.line) = true := by rfl) (hK : X.K = K := by rfl) :
    PE X (.Call (.Attribute o "bit_length" apos) [] [] cpos) (tBM0 K "int" mBitlen to) := hK ▸ pe_bm0 PySem.F.plainAttrs_int PySem.F.slot_int_bit_length PySem.F.type_int_bit_length mm_bitlen ho hbase hline
end
theorem bm_bitlen : BMono mBitlen := fun x xs H Q Q' h q => by
  unfold mBitlen at *
  split at q
  . exact h _ _ q
  . exact q.elim
theorem em_bm0 {K : PySem.W.Frag} {T : String} {r : V -> List V -> Hp -> VK -> Prop} {to : TE} (h1 : EMono to) (h3 : BMono r) : EMono (tBM0 K T r to) := fun σ H Q Q' h q => h1 _ _ _ _ (fun _ _ q => ⟨q.1, h3 _ _ _ _ _ h q.2⟩) q
def Ite (K : PySem.W.Frag) (l : Addr) : It :=
  ⟨fun i H => ∃ xs x, SqL K H l xs /\ xs[i]? = some x,
   fun i H v H' => ∃ p x, H p = none /\ v = .ref p /\ H' = upd H p (.tup [.int i, x]) /\ ∀ xs, SqL K H l xs -> xs[i]? = some x,
   fun i H => ∃ xs, SqL K H l xs /\ xs.length <= i⟩
theorem turn_enum {P : Program} {w : World} {K : PySem.W.Frag} {es : List Expr} {kt : Nat} {tpos : Pos} {e it l : Addr} (hne : e ≠ it) :
    Turn P w K (.Tuple es kt tpos) (Ite K l) [e, it] e (fun i h => (∃ old, IsEnum h e it (i : Int) old) /\ h.IsListIter it l i) where
  mem := by simp
  obj := fun i h st b hb => by
    obtain ⟨⟨old, hz⟩, ⟨o1, e1, c1, d1⟩⟩ := st
    simp only [List.mem_cons, List.mem_nil_iff, or_false] at hb
    rcases hb with rfl | rfl
    . exact ⟨_, hz, fun v q => nomatch q⟩
    . exact ⟨o1, e1, fun v q => by rw [d1] at q; cases q⟩
  keep := fun i h h' ⟨⟨old, hz⟩, h1⟩ k => ⟨⟨old, k e (by simp) _ hz⟩, h1.at fun o q => k it (by simp) o q⟩
  item := by
    intro X hP hw hK hc i pins s σ H E I hf st hg
    subst hP hw hK
    obtain ⟨xs, x, hq1, hx⟩ := hg
    obtain ⟨⟨old, hz⟩, h1⟩ := st
    obtain ⟨its, rv, p, _⟩ := I.list hq1
    obtain ⟨u, hu, ru⟩ := rv.get hx
    refine wpAny_pyNext_enum_item hz h1 p.isList (x := u) (by simpa using hu) hne fun h' z1 z2 z3 z4 z5 => ?_
    refine ⟨_, rfl, ?_⟩
    have z5' : ∀ b v, b ∉ [e, it] -> s.heap.get? b = some v -> h'.get? b = some v := fun b v hb q => by
      simp only [List.mem_cons, List.mem_nil_iff, or_false, not_or] at hb
      exact z5 b v hb.1 hb.2 q
    have I1 : Inv X pins σ (upd H s.heap.objs.size (.tup [.int i, x])) { s with heap := h' } := by
      refine I.turnedNew (ch := [e, it]) (fun b hb => hf b hb) (Nat.le_refl _) z5' ?_ fun b hb => ?_
      . exact ⟨small_le (show 2 <= 1000 by decide), [.int i s.toks, u], .cons ⟨_, rfl⟩ (.cons ru .nil), ⟨_, z3, rfl, ⟨_, rfl⟩, rfl⟩⟩
      . simp only [List.mem_cons, List.mem_nil_iff, or_false] at hb
        rcases hb with rfl | rfl
        . exact ⟨_, z1⟩
        . obtain ⟨o, q, _⟩ := z2; exact ⟨o, q⟩
    refine wpAny_letOwnedTupleGo_enum (s := { s with heap := h', toks := s.toks + 1 }) z1 fun h'' z8 z9 => ?_
    have hfz := hf e (by simp)
    have neT : ∀ b, b ∈ [e, it] -> b ≠ s.heap.objs.size := fun b hb q => by
      have st' : ∃ o, s.heap.get? b = some o := by
        simp only [List.mem_cons, List.mem_nil_iff, or_false] at hb
        rcases hb with rfl | rfl
        . exact ⟨_, hz⟩
        . obtain ⟨o, q, _⟩ := h1; exact ⟨o, q⟩
      obtain ⟨o, ho⟩ := st'
      have := Heap.lt_size ho
      rw [q] at this
      exact Nat.lt_irrefl _ this
    have hTH : ∀ b ∈ [e, it], upd H s.heap.objs.size (.tup [.int i, x]) b = none := fun b hb => by rw [upd_ne (neT b hb)]; exact (hf b hb).1
    have I2 : Inv X pins σ (upd H s.heap.objs.size (.tup [.int i, x])) { s with heap := h'', toks := s.toks + 1 } :=
      I1.turned (t' := s.toks + 1) (fun b o hb q => (z9.2 b hb).trans q) (hTH e (by simp)) hfz.2.1 hfz.2.2.2.1 hfz.2.2.2.2.1 hfz.2.2.2.2.2
    have up : ∀ b o, b ≠ e -> h'.get? b = some o -> h''.get? b = some o := fun b o hb q => (z9.2 b hb).trans q
    exact ⟨.ref s.heap.objs.size, _, I2, rfl, ⟨_, x, I.hok.fresh (Nat.le_refl _), rfl, rfl, fun xs' h => by rw [I.list_inj h hq1]; exact hx⟩, ⟨⟨_, z8⟩, z2.at fun o q => up _ o (Ne.symm hne) q⟩, hTH⟩
  done := by
    intro X hP hw hK hc i pins s σ H E I hf st hg
    subst hP hw hK
    obtain ⟨xs, hq1, hl⟩ := hg
    obtain ⟨⟨old, hz⟩, h1⟩ := st
    obtain ⟨its, rv, p, _⟩ := I.list hq1
    have e1 := rv.length
    refine wpAny_pyNext_enum_end (I.ok.hd hc) hz h1 p.isList (by simp; omega) fun h' z7 => ⟨rfl, ?_⟩
    obtain ⟨f0, f1, f2, f3, f4, f5⟩ := hf it (by simp)
    exact I.turned (t' := s.toks) (fun b o hb q => z7 b o hb q) f0 f1 f3 f4 f5
  self := fun _ _ _ _ _ st h => wpAny_pyIter_enum st.1.choose_spec h
section
variable {X : Cx}
def iEnum (K : PySem.W.Frag) (ta : TA) : TI := fun σ H R => ta σ H fun vs H1 => match vs with
  | [.ref a] => (∃ xs, SqL K H1 a xs) /\ R (Ite K a) H1
  | _ => False
theorem kEnum {K : PySem.W.Frag} {a : Expr} {ta : TA} {p pos : Pos} {es : List Expr} {kt : Nat} {tpos : Pos} (hg : Gl X "enumerate") (hm : X.mg "enumerate" = none) (ha : PA X [a] ta)
    (hs : starEach [a] X.env = [(false, eval a X.env)] := by rfl) (hK : X.K = K := by rfl) :
    PI X (.Tuple es kt tpos) (.Call (.Name "enumerate" p) [a] [] pos) (iEnum K ta) := by
  subst hK
  intro pins s σ H R I h
  refine Call_ (ld_blt I hg hm (by rfl : bootBuiltins "enumerate" = some (.type "enumerate")) (PyProof.Rows.callWith_type1 (thn (ha pos pins s σ H _ I h) fun us s1 ⟨vs, H1, I1, r1, q1⟩ => ?_) (by rw [hs]; rfl) (by rfl)))
  match vs, q1, r1 with
  | [.ref l1], ⟨⟨xs, hx⟩, q⟩, r1 =>
  cases r1 with
  | cons r rr =>
  cases rr
  cases r
  obtain ⟨its, rv, p1, _⟩ := I1.list hx
  refine call_enumerate_list p1.isList fun h' z1 z2 z3 z4 => ?_
  refine wpAny_pyIter_enum (s := { s1 with heap := h' }) z1 ?_
  have I2 : Inv X pins σ H1 { s1 with heap := h' } := I1.kept (t' := s1.toks) z4
  refine ⟨_, _, _, _, H1, rfl, I2, turn_enum (l := l1) (it := s1.heap.objs.size) (Nat.ne_of_gt (Nat.lt_succ_self _)), ⟨⟨_, z1⟩, z2⟩, fun b hb => ?_, q⟩
  refine I1.fpOk ?_ (I1.hok.fresh ?_)
  all_goals
    simp only [List.mem_cons, List.mem_nil_iff, or_false] at hb
    rcases hb with rfl | rfl
    . exact Nat.le_succ _
    . exact Nat.le_refl _
theorem comp_enum {K : PySem.W.Frag} {l : Addr} {xs : List V} {g : TG} {tc : TT} {te : TE} {σc : St} {Q : VK} {H : Hp} (Pv : Nat -> List V -> Hp -> Prop) (h0 : Pv 0 [] H) (hl : ∀ i zs H, i <= xs.length -> Pv i zs H -> SqL K H l xs) (hz : ∀ i zs H, i < xs.length -> Pv i zs H -> zs.length < sizeLine)
    (hs : ∀ i x zs H p, xs[i]? = some x -> Pv i zs H -> H p = none -> g (.ref p) σc (upd H p (.tup [.int (i : Nat), x])) fun σ2 H2 => tc σ2 H2 fun b H3 => if b = true then te σ2 H3 fun v H4 => Pv (i + 1) (zs ++ [v]) H4 else Pv (i + 1) zs H3)
    (hd : ∀ zs H, Pv xs.length zs H -> ∀ p, H p = none -> Q (.ref p) (upd H p (.lst zs))) : CompTurns (Ite K l) g tc te σc Q H := by
  refine ⟨fun i m zs H => m = xs.length - i /\ i <= xs.length /\ Pv i zs H, ⟨xs.length, by simp, Nat.zero_le _, h0⟩, ?_⟩
  rintro i m zs H ⟨rfl, hi, p⟩
  have q1 := hl i zs H hi p
  by_cases hlt : i < xs.length
  . refine .inr ⟨⟨xs, xs[i], q1, by simp [hlt]⟩, hz i zs H hlt p, Pv (i + 1), fun zs' H' p' => ⟨xs.length - (i + 1), by omega, rfl, hlt, p'⟩, ?_⟩
    rintro v H' ⟨pp, x, hp, rfl, rfl, k1⟩
    exact hs i x zs H pp (k1 xs q1) p hp
  . have e : i = xs.length := by omega
    subst e
    exact .inl ⟨⟨xs, q1, Nat.le_refl _⟩, hd zs H p⟩
end
theorem bits_pow : ∀ m < 7, (Builtin.Int.intBits ((2 ^ m : Nat) : Int) : Nat) = m + 1 := by decide +kernel
def TyS (K : PySem.W.Frag) (H : Hp) (x : V) (t : String) : Prop := match x with
  | .int _ => t = "int"
  | .bl _ => t = "bool"
  | .ref a => (t = "tuple" /\ ∃ xs, SqT K H a xs) \/ (t = "list" /\ ∃ xs, SqL K H a xs)
  | _ => False
def isTy (t T : String) : Bool := t == T || (t == "bool" && T == "int")
section
variable {X : Cx} {K : PySem.W.Frag}
theorem tyS_kit {pins : List (Addr × Obj)} {σ : St} {H : Hp} {s : Shared} {x : V} {u : Value} {t : String} (I : Inv X pins σ H s) (rx : RelV x u) (h : TyS X.K H x t) :
    (t = "int" \/ t = "bool" \/ t = "tuple" \/ t = "list") /\ u ≠ Value.builtin "__main__.__loader__#opaque" /\ ∃ Hh : Heap -> Prop, PySem.W.KitX X.K u (.type t) Hh /\ Hh s.heap := by
  cases x with
  | int i =>
    obtain ⟨k, rfl⟩ := (show ∃ t, u = Value.int i t from rx)
    cases (show t = "int" from h)
    exact ⟨.inl rfl, (fun z => nomatch z), _, PySem.W.kitx_int, True.intro⟩
  | bl b =>
    cases (show u = Value.bool b from rx)
    cases (show t = "bool" from h)
    exact ⟨.inr (.inl rfl), (fun z => nomatch z), _, PySem.W.kitx_bool, True.intro⟩
  | ref a =>
    cases (show u = Value.ref a from rx)
    rcases h with ⟨rfl, xs, hq⟩ | ⟨rfl, xs, hq⟩
    . obtain ⟨its, rv, p, _⟩ := I.tuple hq
      obtain ⟨o, h1, h2, _⟩ := p
      exact ⟨.inr (.inr (.inl rfl)), (fun z => nomatch z), _, PySem.W.kitx_tuple, ⟨o, h1, h2⟩⟩
    . obtain ⟨its, rv, p, _⟩ := I.list hq
      obtain ⟨o, n, h1, h2, _⟩ := p
      exact ⟨.inr (.inr (.inr rfl)), (fun z => nomatch z), _, PySem.W.kitx_list, ⟨o, h1, h2⟩⟩
  | _ => exact False.elim h
end
section
variable {X : Cx} {pins : List (Addr × Obj)} {σ : St} {H : Hp} {s : Shared}
end
section
variable {X : Cx} {K : PySem.W.Frag}
end
open AutoSeq1 (wpAny_loadPart')
section
variable {prog : Program} {w : World} {A : Around} {E : Value -> Shared -> Prop} {s : Shared}
end
section
variable {X : Cx}
end
structure Feed (H : Hp) (t : Addr) : Prop where
  at_ : ∃ a b k c : Int, 0 <= a /\ H t = some (.lst [.int a, .int b, .int k, .int c])
theorem Feed.same {H H' : Hp} {t : Addr} (F : Feed H t) (h : Same H H') : Feed H' t := by
  obtain ⟨a, b, k, c, h1, h2⟩ := F.at_
  exact ⟨a, b, k, c, h1, h _ _ h2⟩
theorem Feed.upd {H : Hp} {t p : Addr} {o : HO} (F : Feed H t) (h : H p = none) : Feed (L2.upd H p o) t := F.same (Same.upd h)
theorem Feed.neT {H : Hp} {t p : Addr} (F : Feed H t) (hp : H p = none) : p ≠ t := fun e => by
  obtain ⟨a, b, k, c, _, h3⟩ := F.at_
  rw [e, h3] at hp; cases hp
theorem Feed.free {H H' : Hp} {t p : Addr} (F : Feed H' t) (h : Frm t H H') (hp : H' p = none) : H p = none := by
  cases e : H p with
  | none => rfl
  | some o =>
    by_cases hpt : p = t
    . subst hpt
      obtain ⟨a, b, k, c, _, h3⟩ := F.at_
      rw [h3] at hp; cases hp
    . rw [h p o hpt e] at hp; cases hp
def spDraw : Sp := fun vs H Q _ => match vs with
  | [.ref t, .int m] => Feed H t /\ okDiv m /\ ∀ d H', 0 <= d -> d < m -> Feed H' t -> (∀ b, b ≠ t -> H' b = H b) -> Q (.int d) H'
  | _ => False
theorem spDraw_mono : SpMono spDraw := fun vs H Q Q' E h q => by
  unfold spDraw at *
  split at q
  . exact ⟨q.1, q.2.1, fun d H' a b c e => h _ _ (q.2.2 d H' a b c e)⟩
  . exact q.elim
def spFeed (K : PySem.W.Frag) : Sp := fun vs H Q _ => match vs with
  | [.ref a, .int k] => ∃ ns : List Int, SqL K H a (ns.map V.int) /\ ∀ p H', H p = none -> Feed H' p -> (∀ b, b ≠ p -> H' b = H b) -> Q (.ref p) H'
  | _ => False
theorem and_half (a b : Nat) : (a &&& b) / 2 = a / 2 &&& b / 2 := by
  have := Nat.and_div_two_pow (a := a) (b := b) (n := 1)
  simpa using this
theorem xor_half (a b : Nat) : (a ^^^ b) / 2 = a / 2 ^^^ b / 2 := by
  have := Nat.xor_div_two_pow (a := a) (b := b) (n := 1)
  simpa using this
theorem or_half (a b : Nat) : (a ||| b) / 2 = a / 2 ||| b / 2 := by
  have := Nat.or_div_two_pow (a := a) (b := b) (n := 1)
  simpa using this
theorem low3 (a b : Nat) : (a &&& b) % 2 = a % 2 * (b % 2) /\ (a ^^^ b) % 2 = (a % 2 + b % 2) % 2 /\ (a ||| b) % 2 = a % 2 + b % 2 - a % 2 * (b % 2) := by
  have h1 := Nat.and_mod_two_pow (a := a) (b := b) (n := 1)
  have h2 := Nat.xor_mod_two_pow (a := a) (b := b) (n := 1)
  have h3 := Nat.or_mod_two_pow (a := a) (b := b) (n := 1)
  rw [Nat.pow_one] at h1 h2 h3
  rw [h1, h2, h3]
  have ha : a % 2 = 0 \/ a % 2 = 1 := by omega
  have hb : b % 2 = 0 \/ b % 2 = 1 := by omega
  rcases ha with ha | ha <;> rcases hb with hb | hb <;> rw [ha, hb] <;> decide
theorem xor_and : ∀ a b : Nat, (a ^^^ b) + 2 * (a &&& b) = a + b := by
  intro a
  induction a using Nat.strongRecOn with
  | ind a ih =>
    intro b
    by_cases h0 : a = 0
    . subst h0; simp
    . have i := ih (a / 2) (by omega) (b / 2)
      rw [<- xor_half, <- and_half] at i
      obtain ⟨l1, l2, _⟩ := low3 a b
      have ha : a % 2 = 0 \/ a % 2 = 1 := by omega
      have hb : b % 2 = 0 \/ b % 2 = 1 := by omega
      rcases ha with ha | ha <;> rcases hb with hb | hb <;> rw [ha, hb] at l1 l2 <;> omega
theorem or_and : ∀ a b : Nat, (a ||| b) + (a &&& b) = a + b := by
  intro a
  induction a using Nat.strongRecOn with
  | ind a ih =>
    intro b
    by_cases h0 : a = 0
    . subst h0; simp
    . have i := ih (a / 2) (by omega) (b / 2)
      rw [<- or_half, <- and_half] at i
      obtain ⟨l1, _, l2⟩ := low3 a b
      have ha : a % 2 = 0 \/ a % 2 = 1 := by omega
      have hb : b % 2 = 0 \/ b % 2 = 1 := by omega
      rcases ha with ha | ha <;> rcases hb with hb | hb <;> rw [ha, hb] at l1 l2 <;> omega
theorem bitAnd_nat (a b : Nat) : Builtin.bitAnd (a : Int) (b : Int) = ((a &&& b : Nat) : Int) := by
  unfold Builtin.bitAnd
  rw [decide_eq_true (Int.natCast_nonneg a), decide_eq_true (Int.natCast_nonneg b)]
  rfl
theorem bitXor_nat (a b : Nat) : Builtin.bitXor (a : Int) (b : Int) = ((a ^^^ b : Nat) : Int) := by
  rw [PyProof.Rows.bitXor_and, bitAnd_nat]
  have := xor_and a b
  omega
theorem bitOr_nat (a b : Nat) : Builtin.bitOr (a : Int) (b : Int) = ((a ||| b : Nat) : Int) := by
  rw [PyProof.Rows.bitOr_and, bitAnd_nat]
  have := or_and a b
  omega
def iL (xs : List Nat) : List V := xs.map fun i => V.int (i : Nat)
theorem iL_len (xs : List Nat) : (iL xs).length = xs.length := by unfold iL; rw [List.length_map]
theorem iL_app (xs ys : List Nat) : iL (xs ++ ys) = iL xs ++ iL ys := by unfold iL; rw [List.map_append]
theorem iL_at {xs : List Nat} {i : Nat} {v : V} (h : (iL xs)[i]? = some v) : ∃ x, xs[i]? = some x /\ x ∈ xs /\ v = .int (x : Nat) := by
  unfold iL at h
  rw [List.getElem?_map] at h
  cases e : xs[i]? with
  | none => rw [e] at h; cases h
  | some x => rw [e] at h; exact ⟨x, rfl, List.mem_of_getElem? e, (Option.some.inj h).symm⟩
theorem same_but {H0 H H' : Hp} {t : Addr} (s : Same H0 H) (ht : H0 t = none) (f : ∀ b, b ≠ t -> H' b = H b) : Same H0 H' := fun b o e => by
  rw [f b (ne_of_none e ht)]; exact s b o e
theorem same_frm {H0 H H' : Hp} {t : Addr} (s : Same H0 H) (ht : H0 t = none) (f : Frm t H H') : Same H0 H' := fun b o e => f b o (ne_of_none e ht) (s b o e)
theorem same_put {H0 H : Hp} {t : Addr} {o : HO} (s : Same H0 H) (ht : H0 t = none) : Same H0 (upd H t o) := fun b u e => by
  rw [upd_ne (ne_of_none e ht)]; exact s b u e
theorem Same.sqT {K : PySem.W.Frag} {H H' : Hp} {a : Addr} {xs : List V} (e : Same H H') (h : SqT K H a xs) : SqT K H' a xs := sqT_stay h (fun o k => e _ _ k)
theorem Same.sqL {K : PySem.W.Frag} {H H' : Hp} {a : Addr} {xs : List V} (e : Same H H') (h : SqL K H a xs) : SqL K H' a xs := sqL_stay h (fun o k => e _ _ k)
def sumTo (f : Nat -> Int) : Nat -> Int
  | 0 => 0
  | n + 1 => sumTo f n + f n
theorem sumTo_congr {f g : Nat -> Int} : ∀ {n : Nat}, (∀ j, j < n -> f j = g j) -> sumTo f n = sumTo g n
  | 0, _ => rfl
  | n + 1, h => by
    show sumTo f n + f n = sumTo g n + g n
    rw [sumTo_congr fun j hj => h j (Nat.lt_succ_of_lt hj), h n (Nat.lt_succ_self n)]
theorem sumTo_add (f : Nat -> Int) (a : Nat) : ∀ b, sumTo f (a + b) = sumTo f a + sumTo (fun j => f (a + j)) b
  | 0 => by show sumTo f a = sumTo f a + 0; omega
  | b + 1 => by
    show sumTo f (a + b) + f (a + b) = sumTo f a + (sumTo (fun j => f (a + j)) b + f (a + b))
    rw [sumTo_add f a b]; omega
theorem sumTo_plus (f g : Nat -> Int) : ∀ n, sumTo f n + sumTo g n = sumTo (fun j => f j + g j) n
  | 0 => rfl
  | n + 1 => by
    show sumTo f n + f n + (sumTo g n + g n) = sumTo (fun j => f j + g j) n + (f n + g n)
    rw [<- sumTo_plus f g n]; omega
theorem sumTo_minus (f g : Nat -> Int) : ∀ n, sumTo f n - sumTo g n = sumTo (fun j => f j - g j) n
  | 0 => rfl
  | n + 1 => by
    show sumTo f n + f n - (sumTo g n + g n) = sumTo (fun j => f j - g j) n + (f n - g n)
    rw [<- sumTo_minus f g n]; omega
theorem sumTo_mul (c : Int) (f : Nat -> Int) : ∀ n, c * sumTo f n = sumTo (fun j => c * f j) n
  | 0 => by show c * 0 = 0; omega
  | n + 1 => by
    show c * (sumTo f n + f n) = sumTo (fun j => c * f j) n + c * f n
    rw [<- sumTo_mul c f n, Int.mul_add]
theorem sumTo_mulr (c : Int) (f : Nat -> Int) (n : Nat) : sumTo f n * c = sumTo (fun j => f j * c) n := by
  rw [Int.mul_comm, sumTo_mul]
  exact sumTo_congr fun j _ => Int.mul_comm _ _
theorem sumTo_zero : ∀ n, sumTo (fun _ => 0) n = 0
  | 0 => rfl
  | n + 1 => by show sumTo (fun _ => 0) n + 0 = 0; rw [sumTo_zero n]; rfl
theorem sumTo_swap (f : Nat -> Nat -> Int) (m : Nat) : ∀ n, sumTo (fun i => sumTo (fun j => f i j) m) n = sumTo (fun j => sumTo (fun i => f i j) n) m
  | 0 => by show (0 : Int) = sumTo (fun _ => 0) m; rw [sumTo_zero]
  | n + 1 => by
    show sumTo (fun i => sumTo (fun j => f i j) m) n + sumTo (fun j => f n j) m = sumTo (fun j => sumTo (fun i => f i j) n + f n j) m
    rw [sumTo_swap f m n, sumTo_plus]
theorem sumTo_pick (g : Nat -> Int) (x : Nat) : ∀ n, sumTo (fun y => if x = y then g y else 0) n = if x < n then g x else 0
  | 0 => by simp [sumTo]
  | n + 1 => by
    show sumTo (fun y => if x = y then g y else 0) n + (if x = n then g n else 0) = _
    rw [sumTo_pick g x n]
    by_cases h : x = n
    . subst h; rw [if_neg (by omega), if_pos rfl, if_pos (by omega)]; omega
    . by_cases h2 : x < n
      . rw [if_pos h2, if_neg h, if_pos (by omega)]; omega
      . rw [if_neg h2, if_neg h, if_neg (by omega)]; rfl
theorem sumTo_two (f : Nat -> Int) : ∀ m, sumTo f (2 * m) = sumTo (fun j => f (2 * j) + f (2 * j + 1)) m
  | 0 => rfl
  | m + 1 => by
    show sumTo f (2 * m) + f (2 * m) + f (2 * m + 1) = sumTo (fun j => f (2 * j) + f (2 * j + 1)) m + (f (2 * m) + f (2 * m + 1))
    rw [sumTo_two f m]; omega
def chi : Nat -> Nat -> Nat -> Int
  | 0, _, _ => 1
  | n + 1, a, b => (if a % 2 = 1 /\ b % 2 = 1 then -1 else 1) * chi n (a / 2) (b / 2)
theorem chi_comm : ∀ n a b, chi n a b = chi n b a
  | 0, _, _ => rfl
  | n + 1, a, b => by
    show _ * chi n (a / 2) (b / 2) = _ * chi n (b / 2) (a / 2)
    rw [chi_comm n]
    congr 1
    by_cases h : a % 2 = 1 /\ b % 2 = 1
    . rw [if_pos h, if_pos ⟨h.2, h.1⟩]
    . rw [if_neg h, if_neg fun z => h ⟨z.2, z.1⟩]
theorem chi_xor : ∀ n a b c, chi n a (b ^^^ c) = chi n a b * chi n a c
  | 0, _, _, _ => rfl
  | n + 1, a, b, c => by
    show _ * chi n (a / 2) ((b ^^^ c) / 2) = (_ * chi n (a / 2) (b / 2)) * (_ * chi n (a / 2) (c / 2))
    rw [xor_half, chi_xor n]
    generalize chi n (a / 2) (b / 2) = x
    generalize chi n (a / 2) (c / 2) = y
    have e := (low3 b c).2.1
    have ha : a % 2 = 0 \/ a % 2 = 1 := by omega
    have hb : b % 2 = 0 \/ b % 2 = 1 := by omega
    have hc : c % 2 = 0 \/ c % 2 = 1 := by omega
    rw [e]
    rcases ha with ha | ha <;> rcases hb with hb | hb <;> rcases hc with hc | hc <;> rw [ha, hb, hc] <;> simp [Int.mul_neg, Int.neg_mul]
theorem chi_one : ∀ n a b, chi n a b = 1 \/ chi n a b = -1
  | 0, _, _ => .inl rfl
  | n + 1, a, b => by
    show _ * chi n (a / 2) (b / 2) = 1 \/ _ * chi n (a / 2) (b / 2) = -1
    rcases chi_one n (a / 2) (b / 2) with h | h <;> rw [h] <;> by_cases g : a % 2 = 1 /\ b % 2 = 1 <;> simp [g]
theorem chi_sq (n a b : Nat) : chi n a b * chi n a b = 1 := by
  rcases chi_one n a b with h | h <;> rw [h] <;> rfl
theorem chi_zero : ∀ n a, chi n a 0 = 1
  | 0, _ => rfl
  | n + 1, a => by
    show (if a % 2 = 1 /\ 0 % 2 = 1 then -1 else 1) * chi n (a / 2) (0 / 2) = 1
    rw [if_neg (by omega), Nat.zero_div, chi_zero n]; rfl
theorem chi_sum : ∀ n b, b < 2 ^ n -> sumTo (fun a => chi n a b) (2 ^ n) = if b = 0 then ((2 ^ n : Nat) : Int) else 0
  | 0, b, h => by
    have : b = 0 := by simpa using h
    subst this; rfl
  | n + 1, b, h => by
    rw [Nat.pow_succ, Nat.mul_comm, sumTo_two]
    have e : ∀ j, chi (n + 1) (2 * j) b + chi (n + 1) (2 * j + 1) b = (if b % 2 = 1 then 0 else 2) * chi n j (b / 2) := fun j => by
      show (if 2 * j % 2 = 1 /\ b % 2 = 1 then -1 else 1) * chi n (2 * j / 2) (b / 2) + (if (2 * j + 1) % 2 = 1 /\ b % 2 = 1 then -1 else 1) * chi n ((2 * j + 1) / 2) (b / 2) = _
      rw [show 2 * j / 2 = j by omega, show (2 * j + 1) / 2 = j by omega, if_neg (by omega)]
      by_cases hb : b % 2 = 1
      . rw [if_pos ⟨by omega, hb⟩, if_pos hb]; omega
      . rw [if_neg (fun z => hb z.2), if_neg hb]; omega
    rw [sumTo_congr (g := fun j => (if b % 2 = 1 then 0 else 2) * chi n j (b / 2)) fun j _ => e j, <- sumTo_mul, chi_sum n (b / 2) (by rw [Nat.pow_succ] at h; omega)]
    by_cases hb : b % 2 = 1
    . rw [if_pos hb, Int.zero_mul, if_neg (by omega)]
    . rw [if_neg hb]
      by_cases h0 : b = 0
      . subst h0; simp [Int.natCast_mul]
      . rw [if_neg (by omega), if_neg h0]; rfl
theorem xor_eq_zero {a b : Nat} : a ^^^ b = 0 ↔ a = b := by
  constructor
  . intro h
    have := congrArg (fun z => z ^^^ b) h
    simpa [Nat.xor_assoc] using this
  . intro h; subst h; exact Nat.xor_self a
def wt (n : Nat) (v : Nat -> Int) (s : Nat) : Int := sumTo (fun p => chi n s p * v p) (2 ^ n)
theorem wt_mul (n : Nat) (a b : Nat -> Int) : sumTo (fun s => wt n a s * wt n b s) (2 ^ n) = ((2 ^ n : Nat) : Int) * sumTo (fun x => a x * b x) (2 ^ n) := by
  have e1 : ∀ s, wt n a s * wt n b s = sumTo (fun x => sumTo (fun y => (a x * b y) * chi n s (x ^^^ y)) (2 ^ n)) (2 ^ n) := fun s => by
    unfold wt
    rw [sumTo_mulr]
    refine sumTo_congr fun x _ => ?_
    rw [sumTo_mul]
    refine sumTo_congr fun y _ => ?_
    rw [chi_xor]
    ac_rfl
  rw [sumTo_congr fun s _ => e1 s, sumTo_swap, sumTo_mul]
  refine sumTo_congr fun x hx => ?_
  rw [sumTo_swap]
  have e2 : ∀ y, y < 2 ^ n -> sumTo (fun s => a x * b y * chi n s (x ^^^ y)) (2 ^ n) = if x = y then ((2 ^ n : Nat) : Int) * (a x * b y) else 0 := fun y hy => by
    rw [<- sumTo_mul, chi_sum n _ (Nat.xor_lt_two_pow hx hy)]
    by_cases h : x = y
    . rw [if_pos (xor_eq_zero.mpr h), if_pos h, Int.mul_comm]
    . rw [if_neg (fun z => h (xor_eq_zero.mp z)), if_neg h, Int.mul_zero]
  rw [sumTo_congr e2, sumTo_pick (fun y => ((2 ^ n : Nat) : Int) * (a x * b y)), if_pos hx]
theorem sumTo_xor : ∀ (n : Nat) (f : Nat -> Int) (t : Nat), t < 2 ^ n -> sumTo (fun x => f (x ^^^ t)) (2 ^ n) = sumTo f (2 ^ n)
  | 0, f, t, h => by
    have : t = 0 := by simpa using h
    subst this
    exact sumTo_congr fun j _ => by rw [Nat.xor_zero]
  | n + 1, f, t, h => by
    rw [Nat.pow_succ, Nat.mul_comm, sumTo_two, sumTo_two]
    have ih := sumTo_xor n (fun j => f (2 * j) + f (2 * j + 1)) (t / 2) (by rw [Nat.pow_succ] at h; omega)
    rw [<- ih]
    refine sumTo_congr fun j _ => ?_
    have k1 := xor_half (2 * j) t
    have k2 := xor_half (2 * j + 1) t
    have l1 := (low3 (2 * j) t).2.1
    have l2 := (low3 (2 * j + 1) t).2.1
    rw [show 2 * j / 2 = j by omega] at k1
    rw [show (2 * j + 1) / 2 = j by omega] at k2
    have ht : t % 2 = 0 \/ t % 2 = 1 := by omega
    rcases ht with ht | ht
    . have e1 : 2 * j ^^^ t = 2 * (j ^^^ t / 2) := by omega
      have e2 : 2 * j + 1 ^^^ t = 2 * (j ^^^ t / 2) + 1 := by omega
      rw [e1, e2]
    . have e1 : 2 * j ^^^ t = 2 * (j ^^^ t / 2) + 1 := by omega
      have e2 : 2 * j + 1 ^^^ t = 2 * (j ^^^ t / 2) := by omega
      rw [e1, e2, Int.add_comm]
theorem wt_shift (n : Nat) (v : Nat -> Int) (s t : Nat) (ht : t < 2 ^ n) : chi n s t * wt n v s = wt n (fun x => v (x ^^^ t)) s := by
  unfold wt
  rw [<- sumTo_xor n (fun p => chi n s p * v p) t ht, sumTo_mul]
  refine sumTo_congr fun x _ => ?_
  rw [chi_xor, <- Int.mul_assoc, Int.mul_comm (chi n s x), <- Int.mul_assoc, chi_sq, Int.one_mul]
theorem wt_auto (n : Nat) (v : Nat -> Int) (t : Nat) (ht : t < 2 ^ n) : sumTo (fun s => chi n s t * (wt n v s * wt n v s)) (2 ^ n) = ((2 ^ n : Nat) : Int) * sumTo (fun x => v (x ^^^ t) * v x) (2 ^ n) := by
  rw [<- wt_mul n (fun x => v (x ^^^ t)) v]
  refine sumTo_congr fun s _ => ?_
  rw [<- Int.mul_assoc, wt_shift n v s t ht]
theorem chi_top : ∀ {s b r c j : Nat}, r < 2 ^ s -> j < 2 ^ s -> b < 2 -> c < 2 -> chi (s + 1) (b * 2 ^ s + r) (c * 2 ^ s + j) = chi s r j * (if b = 1 /\ c = 1 then -1 else 1)
  | 0, b, r, c, j, hr, hj, hb, hc => by
    have r0 : r = 0 := by simpa using hr
    have j0 : j = 0 := by simpa using hj
    subst r0 j0
    have eb : b = 0 \/ b = 1 := by omega
    have ec : c = 0 \/ c = 1 := by omega
    rcases eb with rfl | rfl <;> rcases ec with rfl | rfl <;> rfl
  | s + 1, b, r, c, j, hr, hj, hb, hc => by
    have d1 : ∀ x : Nat, x * 2 ^ (s + 1) = 2 * (x * 2 ^ s) := fun x => by rw [Nat.pow_succ, Nat.mul_comm (2 ^ s), <- Nat.mul_assoc, Nat.mul_comm x 2, Nat.mul_assoc]
    have k1 : (b * 2 ^ (s + 1) + r) % 2 = r % 2 := by rw [d1]; omega
    have k2 : (c * 2 ^ (s + 1) + j) % 2 = j % 2 := by rw [d1]; omega
    have k3 : (b * 2 ^ (s + 1) + r) / 2 = b * 2 ^ s + r / 2 := by rw [d1]; omega
    have k4 : (c * 2 ^ (s + 1) + j) / 2 = c * 2 ^ s + j / 2 := by rw [d1]; omega
    have e1 : chi (s + 1 + 1) (b * 2 ^ (s + 1) + r) (c * 2 ^ (s + 1) + j) = (if r % 2 = 1 /\ j % 2 = 1 then -1 else 1) * chi (s + 1) (b * 2 ^ s + r / 2) (c * 2 ^ s + j / 2) := by
      show (if (b * 2 ^ (s + 1) + r) % 2 = 1 /\ (c * 2 ^ (s + 1) + j) % 2 = 1 then -1 else 1) * chi (s + 1) ((b * 2 ^ (s + 1) + r) / 2) ((c * 2 ^ (s + 1) + j) / 2) = _
      rw [k1, k2, k3, k4]
    rw [e1, chi_top (s := s) (by rw [Nat.pow_succ] at hr; omega) (by rw [Nat.pow_succ] at hj; omega) hb hc, <- Int.mul_assoc]
    rfl
def crossF (v : Nat -> Int) (s k : Nat) : Int := if k / s % 2 = 1 then v (k - s) - v k else v k + v (k + s)
def hadF (v : Nat -> Int) : Nat -> Nat -> Int
  | 0 => v
  | s + 1 => crossF (hadF v s) (2 ^ s)
def hs (v : Nat -> Int) (s k : Nat) : Int := sumTo (fun j => chi s (k % 2 ^ s) j * v (k / 2 ^ s * 2 ^ s + j)) (2 ^ s)
theorem hs_at {v : Nat -> Int} {s q r : Nat} (h : r < 2 ^ s) : hs v s (q * 2 ^ s + r) = sumTo (fun j => chi s r j * v (q * 2 ^ s + j)) (2 ^ s) := by
  unfold hs
  have e1 : (q * 2 ^ s + r) % 2 ^ s = r := by rw [Nat.mul_comm, Nat.mul_add_mod, Nat.mod_eq_of_lt h]
  have e2 : (q * 2 ^ s + r) / 2 ^ s = q := by rw [Nat.mul_comm, Nat.mul_add_div (Nat.two_pow_pos s), Nat.div_eq_of_lt h, Nat.add_zero]
  rw [e1, e2]
theorem had_step {v : Nat -> Int} {s : Nat} (q b r : Nat) (hr : r < 2 ^ s) (hb : b < 2) :
    crossF (hs v s) (2 ^ s) (q * 2 ^ (s + 1) + (b * 2 ^ s + r)) = hs v (s + 1) (q * 2 ^ (s + 1) + (b * 2 ^ s + r)) := by
  have hB : 2 ^ (s + 1) = 2 ^ s + 2 ^ s := by rw [Nat.pow_succ]; omega
  have hrr : b * 2 ^ s + r < 2 ^ (s + 1) := by
    rw [hB]
    have : b = 0 \/ b = 1 := by omega
    rcases this with e | e <;> subst e <;> omega
  rw [hs_at hrr, hB, sumTo_add]
  have low : ∀ j, j < 2 ^ s -> chi (s + 1) (b * 2 ^ s + r) j = chi s r j := fun j hj => by
    have := chi_top (c := 0) hr hj hb (by decide)
    rw [Nat.zero_mul, Nat.zero_add, if_neg (by omega), Int.mul_one] at this
    exact this
  have high : ∀ j, j < 2 ^ s -> chi (s + 1) (b * 2 ^ s + r) (2 ^ s + j) = chi s r j * (if b = 1 then -1 else 1) := fun j hj => by
    have := chi_top (c := 1) hr hj hb (by decide)
    rw [Nat.one_mul] at this
    rw [this]
    simp
  have e0 : q * (2 ^ s + 2 ^ s) + (b * 2 ^ s + r) = (2 * q + b) * 2 ^ s + r := by
    rw [Nat.add_mul, Nat.mul_comm 2 q, Nat.mul_assoc, Nat.two_mul]; omega
  have eq0 : q * (2 ^ s + 2 ^ s) = (2 * q) * 2 ^ s := by rw [Nat.mul_comm 2 q, Nat.mul_assoc, Nat.two_mul]
  have eq1 : q * (2 ^ s + 2 ^ s) + 2 ^ s = (2 * q + 1) * 2 ^ s := by rw [Nat.add_mul, Nat.one_mul, eq0]
  unfold crossF
  rw [e0]
  have et : ((2 * q + b) * 2 ^ s + r) / 2 ^ s % 2 = b := by
    rw [Nat.mul_comm, Nat.mul_add_div (Nat.two_pow_pos s), Nat.div_eq_of_lt hr]; omega
  rw [et]
  have : b = 0 \/ b = 1 := by omega
  rcases this with e | e <;> subst e
  . rw [if_neg (by decide)]
    have ek : (2 * q + 0) * 2 ^ s + r + 2 ^ s = (2 * q + 1) * 2 ^ s + r := by rw [Nat.add_zero, Nat.add_mul, Nat.one_mul]; omega
    rw [ek, hs_at hr, hs_at hr]
    congr 1
    . refine sumTo_congr fun j hj => ?_
      rw [low j hj, eq0]; rfl
    . refine sumTo_congr fun j hj => ?_
      show chi s r j * v ((2 * q + 1) * 2 ^ s + j) = chi (s + 1) (0 * 2 ^ s + r) (2 ^ s + j) * v (q * (2 ^ s + 2 ^ s) + (2 ^ s + j))
      rw [high j hj, if_neg (by decide), Int.mul_one, <- Nat.add_assoc, eq1]
  . rw [if_pos rfl]
    have ek : (2 * q + 1) * 2 ^ s + r - 2 ^ s = (2 * q) * 2 ^ s + r := by rw [Nat.add_mul, Nat.one_mul]; omega
    rw [ek, hs_at hr, hs_at hr, Int.sub_eq_add_neg]
    congr 1
    . refine sumTo_congr fun j hj => ?_
      rw [low j hj, eq0]
    . have neg : ∀ (f : Nat -> Int) n, - sumTo f n = sumTo (fun j => - f j) n := fun f n => by
        induction n with
        | zero => rfl
        | succ n ih => show -(sumTo f n + f n) = sumTo (fun j => - f j) n + - f n; rw [<- ih]; omega
      rw [neg]
      refine sumTo_congr fun j hj => ?_
      show -(chi s r j * v ((2 * q + 1) * 2 ^ s + j)) = chi (s + 1) (1 * 2 ^ s + r) (2 ^ s + j) * v (q * (2 ^ s + 2 ^ s) + (2 ^ s + j))
      rw [high j hj, if_pos rfl, <- Nat.add_assoc, eq1, Int.mul_neg, Int.mul_one, Int.neg_mul]
theorem split_k (s k : Nat) : ∃ q b r, k = q * 2 ^ (s + 1) + (b * 2 ^ s + r) /\ r < 2 ^ s /\ b < 2 := by
  refine ⟨k / 2 ^ s / 2, k / 2 ^ s % 2, k % 2 ^ s, ?_, Nat.mod_lt _ (Nat.two_pow_pos s), Nat.mod_lt _ (by decide)⟩
  have h1 := Nat.div_add_mod k (2 ^ s)
  have h2 := Nat.div_add_mod (k / 2 ^ s) 2
  rw [Nat.pow_succ]
  generalize k % 2 ^ s = r at *
  generalize hd : k / 2 ^ s = d at *
  rw [<- Nat.add_assoc, Nat.mul_comm (2 ^ s) 2, <- Nat.mul_assoc, <- Nat.add_mul, Nat.mul_comm (d / 2) 2, h2, Nat.mul_comm]
  exact h1.symm
theorem had_all (v : Nat -> Int) : ∀ s k, hadF v s k = hs v s k
  | 0, k => by
    show v k = sumTo (fun j => chi 0 (k % 2 ^ 0) j * v (k / 2 ^ 0 * 2 ^ 0 + j)) 1
    show v k = 0 + chi 0 (k % 2 ^ 0) 0 * v (k / 2 ^ 0 * 2 ^ 0 + 0)
    have : chi 0 (k % 2 ^ 0) 0 = 1 := rfl
    rw [this, Int.one_mul, Int.zero_add]
    simp
  | s + 1, k => by
    have e : hadF v s = hs v s := funext fun k => had_all v s k
    show crossF (hadF v s) (2 ^ s) k = _
    rw [e]
    obtain ⟨q, b, r, rfl, hr, hb⟩ := split_k s k
    exact had_step q b r hr hb
theorem had_end {v : Nat -> Int} {m k : Nat} (h : k < 2 ^ m) : hadF v m k = sumTo (fun j => chi m k j * v j) (2 ^ m) := by
  rw [had_all]
  have := hs_at (v := v) (s := m) (q := 0) h
  rw [Nat.zero_mul, Nat.zero_add] at this
  rw [this]
  refine sumTo_congr fun j _ => ?_
  rw [Nat.zero_add]
theorem had_wt {v : Nat -> Int} {m k : Nat} (h : k < 2 ^ m) : hadF v m k = wt m v k := had_end h
def manyF : Nat -> Nat -> Nat
  | 0, _ => 0
  | f + 1, x => x % 2 + manyF f (x / 2)
@[irreducible] def many (x : Nat) : Nat := manyF 64 x
theorem manyF_zero : ∀ f, manyF f 0 = 0
  | 0 => rfl
  | f + 1 => by
    show 0 % 2 + manyF f (0 / 2) = 0
    rw [Nat.zero_div, manyF_zero f]
theorem manyF_up : ∀ (f g x : Nat), x < 2 ^ f -> f <= g -> manyF g x = manyF f x
  | 0, g, x, h, _ => by
    have : x = 0 := by simpa using h
    subst this
    rw [manyF_zero, manyF_zero]
  | f + 1, 0, x, _, h => by omega
  | f + 1, g + 1, x, h, hg => by
    show x % 2 + manyF g (x / 2) = x % 2 + manyF f (x / 2)
    rw [manyF_up f g (x / 2) (by rw [Nat.pow_succ] at h; omega) (by omega)]
theorem many_of {n x : Nat} (h : x < 2 ^ n) (hn : n <= 64) : many x = manyF n x := by
  unfold many
  exact manyF_up n 64 x h hn
theorem manyF_le : ∀ n x, manyF n x <= n
  | 0, _ => Nat.le_refl _
  | n + 1, x => by
    show x % 2 + manyF n (x / 2) <= n + 1
    have := manyF_le n (x / 2)
    omega
def ixL (g : Nat -> Int) (M : Nat) : List V := (List.range M).map fun i => V.int (g i)
theorem ixL_len {g : Nat -> Int} {M : Nat} : (ixL g M).length = M := by unfold ixL; simp
theorem ixL_get {g : Nat -> Int} {M k : Nat} (h : k < M) : (ixL g M)[k]? = some (.int (g k)) := by unfold ixL; rw [List.getElem?_map, List.getElem?_range h]; rfl
theorem ixL_at {g : Nat -> Int} {M k : Nat} (h : k < M) : atI (ixL g M) (k : Int) = some (.int (g k)) := atI_of rfl (ixL_get h)
theorem ixL_take {g : Nat -> Int} {M i : Nat} (h : i < M) : (ixL g M).take (i + 1) = (ixL g M).take i ++ [V.int (g i)] := by
  rw [List.take_add_one, ixL_get h]; rfl
theorem ixL_succ (g : Nat -> Int) (M : Nat) : ixL g (M + 1) = ixL g M ++ [V.int (g M)] := by unfold ixL; rw [List.range_succ, List.map_append]; rfl
theorem ixL_congr {f g : Nat -> Int} {M : Nat} (h : ∀ k, k < M -> f k = g k) : ixL f M = ixL g M := by
  unfold ixL
  exact List.map_congr_left fun k hk => by rw [h k (List.mem_range.mp hk)]
theorem ixL_set {g : Nat -> Int} {M i : Nat} {z : Int} : (ixL g M).set i (.int z) = ixL (fun k => if k = i then z else g k) M := by
  refine List.ext_getElem? fun k => ?_
  rw [List.getElem?_set, ixL_len]
  by_cases hk : k < M
  . rw [ixL_get hk]
    by_cases e : i = k
    . subst e; rw [if_pos rfl, if_pos hk, ixL_get hk, if_pos rfl]
    . rw [if_neg e, ixL_get hk, if_neg (Ne.symm e)]
  . have n1 : (ixL g M)[k]? = none := List.getElem?_eq_none (by rw [ixL_len]; omega)
    have n2 : (ixL (fun k => if k = i then z else g k) M)[k]? = none := List.getElem?_eq_none (by rw [ixL_len]; omega)
    rw [n1, n2]
    split
    . split
      . omega
      . rfl
    . rfl
def valB (b : Bool) : Int := if b = true then -1 else 1
def valF (bs : List Bool) (p : Nat) : Int := valB (bs.getD p false)
def termG (g : Nat -> Int) : Nat -> List (Nat × Int)
  | 0 => []
  | i + 1 => termG g i ++ (if g i = 0 then [] else [(i, g i)])
theorem termG_congr {f g : Nat -> Int} : ∀ {n : Nat}, (∀ j, j < n -> f j = g j) -> termG f n = termG g n
  | 0, _ => rfl
  | n + 1, h => by
    show termG f n ++ (if f n = 0 then [] else [(n, f n)]) = termG g n ++ (if g n = 0 then [] else [(n, g n)])
    rw [termG_congr fun j hj => h j (Nat.lt_succ_of_lt hj), h n (Nat.lt_succ_self n)]
theorem termG_len (g : Nat -> Int) : ∀ n, (termG g n).length <= n
  | 0 => Nat.le_refl _
  | n + 1 => by
    unfold termG
    rw [List.length_append]
    have := termG_len g n
    split
    . rw [List.length_nil]; omega
    . rw [List.length_singleton]; omega
theorem termG_mem {g : Nat -> Int} : ∀ {n : Nat} {q : Nat × Int}, q ∈ termG g n -> q.1 < n /\ q.2 = g q.1 /\ q.2 ≠ 0
  | 0, q, h => by cases h
  | n + 1, q, h => by
    rcases List.mem_append.mp h with h | h
    . have := termG_mem h; exact ⟨by omega, this.2⟩
    . split at h
      . cases h
      . rename_i hn
        rw [List.mem_singleton.mp h]
        exact ⟨Nat.lt_succ_self n, rfl, hn⟩
def termD (q : Nat × Int) : Dv := .tup [.int q.1, .int q.2]
def sumD (m : Nat) (ts : List (Nat × Int)) : Dv := .tup [.int m, .tup (ts.map termD)]
structure SumAt (K : PySem.W.Frag) (H : Hp) (v : V) (m : Nat) (ts : List (Nat × Int)) : Prop where
  at_ : ∃ (a b : Addr) (vs : List V), v = .ref a /\ SqT K H a [.int m, .ref b] /\ SqT K H b vs /\ Reps K H (ts.map termD) vs
theorem SumAt.of {K : PySem.W.Frag} {H : Hp} {v : V} {m : Nat} {ts : List (Nat × Int)} (h : Rep K H (sumD m ts) v) : SumAt K H v m ts := by
  unfold sumD Rep at h
  obtain ⟨a, xs, rfl, ha, hr⟩ := h
  unfold Reps at hr
  obtain ⟨x, r, rfl, h1, hr⟩ := hr
  unfold Rep at h1; subst h1
  unfold Reps at hr
  obtain ⟨x, r, rfl, h2, hr⟩ := hr
  unfold Reps at hr; subst hr
  unfold Rep at h2
  obtain ⟨b, vs, rfl, hb, hr⟩ := h2
  exact ⟨a, b, vs, rfl, ha, hb, hr⟩
theorem SumAt.rep {K : PySem.W.Frag} {H : Hp} {v : V} {m : Nat} {ts : List (Nat × Int)} (h : SumAt K H v m ts) : Rep K H (sumD m ts) v := by
  obtain ⟨a, b, vs, rfl, ha, hb, hr⟩ := h.at_
  unfold sumD Rep
  refine ⟨a, _, rfl, ha, reps_cons rep_int (reps_cons ?_ reps_nil)⟩
  unfold Rep
  exact ⟨b, vs, rfl, hb, hr⟩
theorem SumAt.same {K : PySem.W.Frag} {H H' : Hp} {v : V} {m : Nat} {ts : List (Nat × Int)} (h : SumAt K H v m ts) (s : Same H H') : SumAt K H' v m ts := .of (Rep.same s _ _ h.rep)
theorem reps_terms_at {K : PySem.W.Frag} {H : Hp} {ts : List (Nat × Int)} {vs : List V} {i : Nat} {v : V} (h : Reps K H (ts.map termD) vs) (e : vs[i]? = some v) : ∃ q c, ts[i]? = some q /\ v = .ref c /\ SqT K H c [.int q.1, .int q.2] := by
  have hl := h.length
  have hi : i < ts.length := by
    have := (List.getElem?_eq_some_iff.mp e).1
    rw [List.length_map] at hl; omega
  have e1 : (ts.map termD)[i]? = some (termD ts[i]) := by rw [List.getElem?_map, List.getElem?_eq_getElem hi]; rfl
  obtain ⟨x, e2, hx⟩ := h.get e1
  rw [e] at e2
  cases e2
  unfold termD Rep at hx
  obtain ⟨c, xs, rfl, hc, hr⟩ := hx
  unfold Reps at hr
  obtain ⟨x, r, rfl, h1, hr⟩ := hr
  unfold Rep at h1; subst h1
  unfold Reps at hr
  obtain ⟨x, r, rfl, h2, hr⟩ := hr
  unfold Rep at h2; subst h2
  unfold Reps at hr; subst hr
  exact ⟨ts[i], c, List.getElem?_eq_getElem hi, rfl, hc⟩
def lowI (st i : Nat) : Nat := if i / st % 2 = 1 then i - st else i
def mixF (f : Nat -> Int) (st P i : Nat) : Int := if lowI st i < P then crossF f st i else f i
theorem div_add_self {p st : Nat} (h : 0 < st) : (p + st) / st = p / st + 1 := by rw [Nat.add_div_right _ h]
theorem div_sub_self {i st : Nat} (h : 0 < st) (hi : st <= i) : (i - st) / st = i / st - 1 := by
  have := div_add_self (p := i - st) h
  rw [Nat.sub_add_cancel hi] at this
  generalize (i - st) / st = x at *
  omega
theorem low_even {st i : Nat} (h : 0 < st) : lowI st i / st % 2 = 0 := by
  unfold lowI
  by_cases e : i / st % 2 = 1
  . rw [if_pos e]
    have hi : st <= i := by
      rcases Nat.lt_or_ge i st with z | z
      . rw [Nat.div_eq_of_lt z] at e; cases e
      . exact z
    rw [div_sub_self h hi]; omega
  . rw [if_neg e]; omega
theorem mix_zero (f : Nat -> Int) (st i : Nat) : mixF f st 0 i = f i := by unfold mixF; rw [if_neg (Nat.not_lt_zero _)]
theorem mix_skip {f : Nat -> Int} {st p : Nat} (h : 0 < st) (hp : ¬ p / st % 2 = 0) (i : Nat) : mixF f st (p + 1) i = mixF f st p i := by
  unfold mixF
  have ne : lowI st i ≠ p := fun e => hp (e ▸ low_even h)
  by_cases hl : lowI st i < p
  . rw [if_pos hl, if_pos (by omega)]
  . rw [if_neg hl, if_neg (by omega)]
theorem mix_old {f : Nat -> Int} {st p : Nat} (h : 0 < st) (hp : p / st % 2 = 0) : mixF f st p p = f p /\ mixF f st p (p + st) = f (p + st) := by
  have l1 : lowI st p = p := by unfold lowI; rw [if_neg (by omega)]
  have l2 : lowI st (p + st) = p := by unfold lowI; rw [div_add_self h, if_pos (by omega)]; omega
  unfold mixF
  rw [l1, l2, if_neg (Nat.lt_irrefl _), if_neg (Nat.lt_irrefl _)]
  exact ⟨rfl, rfl⟩
theorem mix_next {f : Nat -> Int} {st p : Nat} (h : 0 < st) (hp : p / st % 2 = 0) (i : Nat) :
    mixF f st (p + 1) i = if i = p + st then f p - f (p + st) else if i = p then f p + f (p + st) else mixF f st p i := by
  have l1 : lowI st p = p := by unfold lowI; rw [if_neg (by omega)]
  have l2 : lowI st (p + st) = p := by unfold lowI; rw [div_add_self h, if_pos (by omega)]; omega
  by_cases e1 : i = p + st
  . subst e1
    rw [if_pos rfl]
    unfold mixF crossF
    rw [l2, if_pos (Nat.lt_succ_self p), div_add_self h, if_pos (by omega), Nat.add_sub_cancel]
  . rw [if_neg e1]
    by_cases e2 : i = p
    . subst e2
      rw [if_pos rfl]
      unfold mixF crossF
      rw [l1, if_pos (Nat.lt_succ_self i), if_neg (by omega)]
    . rw [if_neg e2]
      unfold mixF
      have ne : lowI st i ≠ p := fun e => by
        unfold lowI at e
        by_cases o : i / st % 2 = 1
        . rw [if_pos o] at e
          have hi : st <= i := by
            rcases Nat.lt_or_ge i st with z | z
            . rw [Nat.div_eq_of_lt z] at o; cases o
            . exact z
          omega
        . rw [if_neg o] at e; exact e2 e
      by_cases hl : lowI st i < p
      . rw [if_pos hl, if_pos (by omega)]
      . rw [if_neg hl, if_neg (by omega)]
theorem mix_end {f : Nat -> Int} {st M i : Nat} (hi : i < M) : mixF f st M i = crossF f st i := by
  unfold mixF
  have : lowI st i <= i := by unfold lowI; split <;> omega
  rw [if_pos (by omega)]
theorem cross_in : ∀ m < 7, ∀ s < m, ∀ k < 2 ^ m, k / 2 ^ s % 2 ≠ 1 -> k + 2 ^ s < 2 ^ m := by decide +kernel
theorem valF_get {bs : List Bool} {i : Nat} (h : i < bs.length) : valF bs i = valB bs[i] := by
  unfold valF
  rw [List.getD_eq_getElem?_getD, List.getElem?_eq_getElem h]
  rfl
def sp_fsum (K : PySem.W.Frag) : Sp := fun vs H Q _ => match vs with
  | [.ref p] => ∃ (m : Nat) (bs : List Bool), 1 <= m /\ m <= 6 /\ bs.length = 2 ^ m /\ SqT K H p (bs.map V.bl) /\ ∀ v H', Same H H' -> SumAt K H' v m (termG (wt m (valF bs)) (2 ^ m)) -> Q v H'
  | _ => False
theorem sp_fsum_mono {K : PySem.W.Frag} : SpMono (sp_fsum K) := fun vs H Q Q' E h q => by
  unfold sp_fsum at *
  split at q
  . obtain ⟨m, bs, h1, h2, h3, h4, q⟩ := q; exact ⟨m, bs, h1, h2, h3, h4, fun v H' x1 x2 => h _ _ (q v H' x1 x2)⟩
  . exact q.elim
def gB (bs : List Bool) (i : Nat) : Bool := bs.getD i false
def matF (bs : List Bool) (s i : Nat) : Bool := gB bs (i ^^^ s) != gB bs i
def matL (bs : List Bool) (s n : Nat) : List Nat := (List.range n).filter (matF bs s)
theorem matL_succ (bs : List Bool) (s n : Nat) : matL bs s (n + 1) = matL bs s n ++ (if matF bs s n = true then [n] else []) := by
  unfold matL
  rw [List.range_succ, List.filter_append]
  congr 1
  by_cases h : matF bs s n = true
  . rw [if_pos h, List.filter_cons_of_pos h]; rfl
  . rw [if_neg h, List.filter_cons_of_neg h]; rfl
theorem gB_get {bs : List Bool} {i : Nat} (h : i < bs.length) : gB bs i = bs[i] := by unfold gB; rw [List.getD_eq_getElem?_getD, List.getElem?_eq_getElem h]; rfl
theorem gB_at {bs : List Bool} {i : Nat} (h : i < bs.length) : atI (bs.map V.bl) ((i : Nat) : Int) = some (.bl (gB bs i)) := by
  rw [gB_get h]
  exact atI_of rfl (by rw [List.getElem?_map, List.getElem?_eq_getElem h]; rfl)
theorem val_prod (bs : List Bool) (s i : Nat) : valF bs (i ^^^ s) * valF bs i = 1 - 2 * (if matF bs s i = true then 1 else 0) := by
  unfold valF matF gB valB
  cases bs.getD (i ^^^ s) false <;> cases bs.getD i false <;> decide
theorem mat_sum (bs : List Bool) (s : Nat) : ∀ n, sumTo (fun i => valF bs (i ^^^ s) * valF bs i) n = (n : Int) - 2 * ((matL bs s n).length : Int)
  | 0 => rfl
  | n + 1 => by
    show sumTo _ n + valF bs (n ^^^ s) * valF bs n = _
    rw [mat_sum bs s n, val_prod, matL_succ, List.length_append]
    by_cases h : matF bs s n = true
    . rw [if_pos h, if_pos h, List.length_singleton]; omega
    . rw [if_neg h, if_neg h, List.length_nil]; omega
theorem mat_zero (bs : List Bool) : ∀ n, matL bs 0 n = []
  | 0 => rfl
  | n + 1 => by
    rw [matL_succ, mat_zero bs n, if_neg]
    . rfl
    . unfold matF; rw [Nat.xor_zero]; simp
def oddSq (m : Nat) (g : Nat -> Int) (t : Nat) : Int := sumTo (fun s => if chi m s t = -1 then g s * g s else 0) (2 ^ m)
theorem odd_squares (m : Nat) (bs : List Bool) (t : Nat) (ht : t < 2 ^ m) : oddSq m (wt m (valF bs)) t = ((2 ^ m : Nat) : Int) * ((matL bs t (2 ^ m)).length : Int) := by
  have a1 := wt_auto m (valF bs) t ht
  have a0 := wt_auto m (valF bs) 0 (Nat.two_pow_pos m)
  rw [mat_sum] at a1 a0
  rw [mat_zero] at a0
  have e : ∀ s, (if chi m s t = -1 then wt m (valF bs) s * wt m (valF bs) s else 0) * 2 = chi m s 0 * (wt m (valF bs) s * wt m (valF bs) s) - chi m s t * (wt m (valF bs) s * wt m (valF bs) s) := fun s => by
    rw [chi_zero]
    rcases chi_one m s t with h | h
    . rw [h, if_neg (by decide)]; omega
    . rw [h, if_pos rfl]; omega
  have k : oddSq m (wt m (valF bs)) t * 2 = ((2 ^ m : Nat) : Int) * (((2 ^ m : Nat) : Int) - 2 * (([] : List Nat).length : Int)) - ((2 ^ m : Nat) : Int) * (((2 ^ m : Nat) : Int) - 2 * ((matL bs t (2 ^ m)).length : Int)) := by
    unfold oddSq
    rw [sumTo_mulr, sumTo_congr fun s _ => e s, <- sumTo_minus, a0, a1]
  have z : ((([] : List Nat).length : Nat) : Int) = 0 := rfl
  rw [z, Int.mul_zero, Int.sub_zero, Int.mul_sub] at k
  have k2 : ((2 ^ m : Nat) : Int) * (2 * ((matL bs t (2 ^ m)).length : Int)) = 2 * (((2 ^ m : Nat) : Int) * ((matL bs t (2 ^ m)).length : Int)) := by ac_rfl
  rw [k2] at k
  generalize ((2 ^ m : Nat) : Int) * ((matL bs t (2 ^ m)).length : Int) = y at *
  generalize ((2 ^ m : Nat) : Int) * ((2 ^ m : Nat) : Int) = u at *
  generalize oddSq m (wt m (valF bs)) t = x at *
  omega
theorem sum_bound {f : Nat -> Int} : ∀ {n : Nat}, (∀ j, j < n -> f j = 1 \/ f j = -1) -> -(n : Int) <= sumTo f n /\ sumTo f n <= n
  | 0, _ => ⟨Int.le_refl _, Int.le_refl _⟩
  | n + 1, h => by
    have i := sum_bound fun j hj => h j (Nat.lt_succ_of_lt hj)
    show -((n + 1 : Nat) : Int) <= sumTo f n + f n /\ sumTo f n + f n <= ((n + 1 : Nat) : Int)
    rcases h n (Nat.lt_succ_self n) with e | e <;> rw [e] <;> omega
theorem wt_bound (m : Nat) (bs : List Bool) (s : Nat) : -((2 ^ m : Nat) : Int) <= wt m (valF bs) s /\ wt m (valF bs) s <= ((2 ^ m : Nat) : Int) := by
  unfold wt
  refine sum_bound fun j _ => ?_
  rcases chi_one m s j with h | h <;> rw [h] <;> unfold valF valB <;> cases bs.getD j false <;> decide
def Light (g : Nat -> Int) : Prop := ∀ k, -64 <= g k /\ g k <= 64
theorem wt_light {m : Nat} (m6 : m <= 6) (bs : List Bool) : Light (wt m (valF bs)) := fun k => by
  have := wt_bound m bs k
  have h64 : 2 ^ m <= 64 := Nat.pow_le_pow_right (n := 2) (by decide) m6
  omega
theorem sumTo_range {f : Nat -> Int} {B : Int} : ∀ {n : Nat}, (∀ j, j < n -> 0 <= f j /\ f j <= B) -> 0 <= sumTo f n /\ sumTo f n <= n * B
  | 0, _ => by show (0 : Int) <= 0 /\ (0 : Int) <= ((0 : Nat) : Int) * B; simp
  | n + 1, h => by
    have i := sumTo_range fun j hj => h j (Nat.lt_succ_of_lt hj)
    have k := h n (Nat.lt_succ_self n)
    show 0 <= sumTo f n + f n /\ sumTo f n + f n <= ((n + 1 : Nat) : Int) * B
    rw [Int.natCast_add, Int.add_mul]
    have : ((1 : Nat) : Int) * B = B := by simp
    omega
theorem tups_T : ∀ ts : List (Nat × Int), tupsOnly (ts.map termD) = true
  | [] => by unfold tupsOnly; rfl
  | q :: ts => by
    rw [List.map_cons]
    unfold tupsOnly
    rw [tups_T ts]
    unfold termD tupOnly tupsOnly tupOnly tupsOnly tupOnly tupsOnly
    rfl
theorem Feed.lst {H : Hp} {t : Addr} (F : Feed H t) : ∃ zs, H t = some (.lst zs) := by
  obtain ⟨a, b, k, c, _, h⟩ := F.at_
  exact ⟨_, h⟩
theorem SumAt.frm {K : PySem.W.Frag} {H H' : Hp} {t : Addr} {v : V} {m : Nat} {ts : List (Nat × Int)} (S : SumAt K H v m ts) (F : Feed H t) (f : Frm t H H') : SumAt K H' v m ts := by
  refine .of (Rep.frm f F.lst _ _ ?_ S.rep)
  have e := tups_T ts
  simp [sumD, tupOnly, tupsOnly, e]
theorem chi_bit : ∀ (m i s : Nat), i < m -> (chi m s (2 ^ i) = -1 ↔ s.testBit i = true)
  | 0, _, _, h => by omega
  | m + 1, 0, s, _ => by
    show (if s % 2 = 1 /\ 2 ^ 0 % 2 = 1 then -1 else 1) * chi m (s / 2) (2 ^ 0 / 2) = -1 ↔ _
    rw [show (2 : Nat) ^ 0 / 2 = 0 from rfl, chi_zero, Int.mul_one, Nat.testBit_zero, decide_eq_true_eq]
    by_cases h : s % 2 = 1
    . rw [if_pos ⟨h, rfl⟩]; exact ⟨fun _ => h, fun _ => rfl⟩
    . rw [if_neg (fun z => h z.1)]; exact ⟨fun z => by omega, fun z => absurd z h⟩
  | m + 1, i + 1, s, h => by
    show (if s % 2 = 1 /\ 2 ^ (i + 1) % 2 = 1 then -1 else 1) * chi m (s / 2) (2 ^ (i + 1) / 2) = -1 ↔ _
    rw [if_neg (fun z => by have := z.2; rw [Nat.pow_succ] at this; omega), Int.one_mul, Nat.pow_succ, Nat.mul_div_cancel _ (by decide), Nat.testBit_succ]
    exact chi_bit m i (s / 2) (by omega)
def orL : Nat -> List (Nat × Int) -> Nat
  | a, [] => a
  | a, q :: ts => orL (a ||| q.1) ts
theorem orL_app : ∀ (xs ys : List (Nat × Int)) (a : Nat), orL a (xs ++ ys) = orL (orL a xs) ys
  | [], _, _ => rfl
  | x :: xs, ys, a => by show orL (a ||| x.1) (xs ++ ys) = _; rw [orL_app xs ys]; rfl
theorem orL_take {ts : List (Nat × Int)} {i : Nat} {q : Nat × Int} (h : ts[i]? = some q) : orL 0 (ts.take (i + 1)) = orL 0 (ts.take i) ||| q.1 := by
  rw [List.take_add_one, h, orL_app]; rfl
theorem orL_bit (j : Nat) : ∀ (ts : List (Nat × Int)) (a : Nat), (orL a ts).testBit j = (a.testBit j || ts.any fun q => q.1.testBit j)
  | [], a => by simp [orL]
  | q :: ts, a => by
    show (orL (a ||| q.1) ts).testBit j = _
    rw [orL_bit j ts, Nat.testBit_or, List.any_cons, Bool.or_assoc]
def hungTo (c : Nat -> Nat) : Nat -> Nat
  | 0 => 0
  | i + 1 => if 0 < c i then hungTo c i + 2 ^ i else hungTo c i
theorem hungTo_lt (c : Nat -> Nat) : ∀ i, hungTo c i < 2 ^ i
  | 0 => by show 0 < 1; omega
  | i + 1 => by
    have := hungTo_lt c i
    unfold hungTo
    rw [Nat.pow_succ]
    split <;> omega
theorem hungTo_bit (c : Nat -> Nat) (j : Nat) : ∀ n, (hungTo c n).testBit j = (decide (j < n) && decide (0 < c j))
  | 0 => by simp [hungTo]
  | n + 1 => by
    have hl := hungTo_lt c n
    unfold hungTo
    by_cases h : 0 < c n
    . rw [if_pos h, Nat.add_comm]
      by_cases e : j = n
      . subst e
        rw [Nat.testBit_two_pow_add_eq, Nat.testBit_lt_two_pow hl]
        simp [h]
      . by_cases l : j < n
        . rw [Nat.testBit_two_pow_add_gt l, hungTo_bit c j n]
          simp [l, Nat.lt_succ_of_lt l]
        . have : 2 ^ n + hungTo c n < 2 ^ j := by
            have : 2 ^ (n + 1) <= 2 ^ j := Nat.pow_le_pow_right (by decide) (by omega)
            rw [Nat.pow_succ] at this
            omega
          rw [Nat.testBit_lt_two_pow this]
          have : ¬ j < n + 1 := by omega
          simp [this]
    . rw [if_neg h, hungTo_bit c j n]
      by_cases e : j = n
      . subst e; simp [h]
      . have : (j < n + 1) = (j < n) := propext ⟨fun z => by omega, fun z => by omega⟩
        simp only [this]
theorem sumTo_pos {f : Nat -> Int} : ∀ {n : Nat}, (∀ j, j < n -> 0 <= f j) -> (0 < sumTo f n ↔ ∃ j, j < n /\ 0 < f j)
  | 0, _ => ⟨fun z => absurd z (by show ¬ (0 : Int) < 0; omega), fun ⟨j, h, _⟩ => by omega⟩
  | n + 1, h => by
    have i := sumTo_pos fun j hj => h j (Nat.lt_succ_of_lt hj)
    have z := sumTo_range (f := fun j => -(-(f j))) (n := n) (B := sumTo f n) 
    have nn : 0 <= sumTo f n := by
      by_cases c : 0 < sumTo f n
      . omega
      . have : ∀ k, k <= n -> 0 <= sumTo f k := fun k => by
          induction k with
          | zero => intro _; exact Int.le_refl _
          | succ k ih =>
            intro hk
            have := ih (by omega)
            have := h k (by omega)
            show 0 <= sumTo f k + f k
            omega
        exact this n (Nat.le_refl _)
    have fn := h n (Nat.lt_succ_self n)
    show 0 < sumTo f n + f n ↔ _
    constructor
    . intro hh
      by_cases c : 0 < f n
      . exact ⟨n, Nat.lt_succ_self n, c⟩
      . obtain ⟨j, hj, hp⟩ := i.mp (by omega)
        exact ⟨j, by omega, hp⟩
    . rintro ⟨j, hj, hp⟩
      by_cases e : j = n
      . subst e; omega
      . have := i.mpr ⟨j, by omega, hp⟩
        omega
theorem sq_nonneg (a : Int) : 0 <= a * a := by
  rw [show a * a = ((a.natAbs * a.natAbs : Nat) : Int) by rw [Int.natCast_mul, Int.natAbs_mul_self' a]]
  omega
theorem sq_pos {a : Int} : 0 < a * a ↔ a ≠ 0 := by
  have := sq_nonneg a
  constructor
  . intro h z; subst z; simp at h
  . intro h
    have : a * a ≠ 0 := Int.mul_ne_zero h h
    omega
def cntS (bs : List Bool) (m i : Nat) : Nat := (matL bs (2 ^ i) (2 ^ m)).length
theorem cnt_pos {m i : Nat} (bs : List Bool) (h : i < m) : 0 < cntS bs m i ↔ ∃ s, s < 2 ^ m /\ wt m (valF bs) s ≠ 0 /\ s.testBit i = true := by
  have o := odd_squares m bs (2 ^ i) (Nat.pow_lt_pow_right (by decide) h)
  have p := sumTo_pos (f := fun s => if chi m s (2 ^ i) = -1 then wt m (valF bs) s * wt m (valF bs) s else 0) (n := 2 ^ m) fun j _ => by
    show 0 <= (if chi m j (2 ^ i) = -1 then wt m (valF bs) j * wt m (valF bs) j else 0)
    split
    . exact sq_nonneg _
    . exact Int.le_refl _
  have hM : 0 < ((2 ^ m : Nat) : Int) := by have := Nat.two_pow_pos m; omega
  have e : 0 < cntS bs m i ↔ 0 < oddSq m (wt m (valF bs)) (2 ^ i) := by
    rw [o]
    unfold cntS
    constructor
    . intro z; exact Int.mul_pos hM (by omega)
    . intro z
      rcases Nat.eq_zero_or_pos (matL bs (2 ^ i) (2 ^ m)).length with h0 | h0
      . rw [h0] at z; simp at z
      . exact h0
  rw [e]
  unfold oddSq
  rw [p]
  constructor
  . rintro ⟨s, hs, hp⟩
    split at hp
    . rename_i hc
      exact ⟨s, hs, sq_pos.mp hp, (chi_bit m i s h).mp hc⟩
    . omega
  . rintro ⟨s, hs, hw, hb⟩
    refine ⟨s, hs, ?_⟩
    rw [if_pos ((chi_bit m i s h).mpr hb)]
    exact sq_pos.mpr hw
theorem termG_has {g : Nat -> Int} : ∀ {n s : Nat}, s < n -> g s ≠ 0 -> (s, g s) ∈ termG g n
  | 0, s, h, _ => by omega
  | n + 1, s, h, hg => by
    show (s, g s) ∈ termG g n ++ _
    by_cases e : s = n
    . subst e
      rw [if_neg hg]
      exact List.mem_append_right _ (List.mem_singleton.mpr rfl)
    . exact List.mem_append_left _ (termG_has (by omega) hg)
theorem hang_eq (m : Nat) (bs : List Bool) : orL 0 (termG (wt m (valF bs)) (2 ^ m)) = hungTo (cntS bs m) m := by
  refine Nat.eq_of_testBit_eq fun i => ?_
  rw [orL_bit, hungTo_bit, Nat.zero_testBit, Bool.false_or, Bool.eq_iff_iff]
  simp only [List.any_eq_true, Bool.and_eq_true, decide_eq_true_eq]
  constructor
  . rintro ⟨q, hq, hb⟩
    obtain ⟨h1, h2, h3⟩ := termG_mem hq
    have hi : i < m := by
      rcases Nat.lt_or_ge i m with z | z
      . exact z
      . have : q.1 < 2 ^ i := Nat.lt_of_lt_of_le h1 (Nat.pow_le_pow_right (by decide) z)
        rw [Nat.testBit_lt_two_pow this] at hb
        cases hb
    exact ⟨hi, (cnt_pos bs hi).mpr ⟨q.1, h1, by rw [<- h2]; exact h3, hb⟩⟩
  . rintro ⟨hi, hc⟩
    obtain ⟨s, hs, hw, hb⟩ := (cnt_pos bs hi).mp hc
    exact ⟨_, termG_has hs hw, hb⟩
section
variable {X : Cx} {K : PySem.W.Frag}
end
def Nb (x : Int) (k : Nat) : Prop := x.natAbs < 2 ^ k
theorem Nb.mul {x y : Int} {a b : Nat} (hx : Nb x a) (hy : Nb y b) : Nb (x * y) (a + b) := by
  unfold Nb at *
  rw [Int.natAbs_mul, Nat.pow_add]
  exact Nat.mul_lt_mul'' hx hy
theorem Nb.up {x : Int} {a b : Nat} (hx : Nb x a) (h : a <= b) : Nb x b := Nat.lt_of_lt_of_le hx (Nat.pow_le_pow_right (by decide) h)
theorem Nb.pow {x : Int} {a : Nat} (hx : Nb x a) : ∀ i, Nb (x ^ i) (a * i + 1)
  | 0 => by unfold Nb; rw [Int.pow_zero]; show 1 < 2 ^ (a * 0 + 1); rw [Nat.mul_zero]; decide
  | i + 1 => by
    rw [Int.pow_succ]
    have := (hx.pow i).mul hx
    rw [show a * (i + 1) + 1 = a * i + 1 + a by rw [Nat.mul_succ]; omega]
    exact this
theorem Nb.okMul {x y : Int} (hx : Nb x 4000) (hy : Nb y 4000) : okMul x y := .inl ⟨hx.up (by decide), hy.up (by decide)⟩
def setT : List (Nat × Int) -> (Nat -> Int) -> Nat -> Int
  | [], f => f
  | q :: ts, f => setT ts fun j => if j = q.1 then q.2 else f j
theorem setT_app : ∀ (xs ys : List (Nat × Int)) (f : Nat -> Int), setT (xs ++ ys) f = setT ys (setT xs f)
  | [], _, _ => rfl
  | x :: xs, ys, f => setT_app xs ys _
theorem setT_take {ts : List (Nat × Int)} {i : Nat} {q : Nat × Int} {f : Nat -> Int} (h : ts[i]? = some q) : setT (ts.take (i + 1)) f = fun j => if j = q.1 then q.2 else setT (ts.take i) f j := by
  rw [List.take_add_one, h, setT_app]
  rfl
theorem setT_termG (g : Nat -> Int) : ∀ (n j : Nat), setT (termG g n) (fun _ => 0) j = if j < n then g j else 0
  | 0, j => by simp [termG, setT]
  | n + 1, j => by
    show setT (termG g n ++ (if g n = 0 then [] else [(n, g n)])) (fun _ => 0) j = _
    rw [setT_app]
    by_cases h : g n = 0
    . rw [if_pos h]
      show setT (termG g n) (fun _ => 0) j = _
      rw [setT_termG g n j]
      by_cases e : j = n
      . subst e; rw [if_neg (by omega), if_pos (by omega), h]
      . by_cases l : j < n
        . rw [if_pos l, if_pos (by omega)]
        . rw [if_neg l, if_neg (by omega)]
    . rw [if_neg h]
      show (if j = n then g n else setT (termG g n) (fun _ => 0) j) = _
      by_cases e : j = n
      . subst e; rw [if_pos rfl, if_pos (by omega)]
      . rw [if_neg e, setT_termG g n j]
        by_cases l : j < n
        . rw [if_pos l, if_pos (by omega)]
        . rw [if_neg l, if_neg (by omega)]
def newL (H : Hp) (Q : VK) (xs : List V) : Prop := ∀ p H', H p = none -> Same H H' -> H' p = some (.lst xs) -> Q (.ref p) H'
theorem newL_mono {H : Hp} {Q Q' : VK} {xs : List V} (h : ∀ v H, Q v H -> Q' v H) (q : newL H Q xs) : newL H Q' xs := fun p H' a b c => h _ _ (q p H' a b c)
theorem repZ (n : Nat) : (List.replicate n [V.int 0]).flatten = ixL (fun _ => 0) n := by
  induction n with
  | zero => rfl
  | succ n ih => rw [List.replicate_succ', List.flatten_append, ih, ixL_succ]; rfl
def inF (g : Nat -> Int) (o s : Nat) : Int := if s &&& o = s then g s else 0
theorem bl_list (f : Nat -> Bool) (n : Nat) : ((List.range (n + 1)).map f).map V.bl = ((List.range n).map f).map V.bl ++ [V.bl (f n)] := by
  rw [List.range_succ, List.map_append, List.map_append]; rfl
theorem em_dnewK : EMono tDNewK := fun σ H Q Q' h q p hp => h _ _ (q p hp)
theorem em_dget2 {td ty tx : TE} (h1 : EMono td) (h2 : EMono ty) (h3 : EMono tx) : EMono (tDGet2 td ty tx) := fun σ H Q Q' h q => h1 _ _ _ _ (fun _ _ ⟨a, e, d, q⟩ => ⟨a, e, d, h2 _ _ _ _ (fun _ _ q => h3 _ _ _ _ (fun _ _ ⟨o, g, q⟩ => ⟨o, g, h _ _ q⟩) q) q⟩) q
theorem sm_dput {td ty tv : TE} (h1 : EMono td) (h2 : EMono ty) (h3 : EMono tv) : SMono (sDPut td ty tv) := fun D D' σ H h q => h3 _ _ _ _ (fun _ _ q => h1 _ _ _ _ (fun _ _ q => h2 _ _ _ _ (fun _ _ ⟨a, H4, e, g, q⟩ => ⟨a, H4, e, g, h.nx _ _ q⟩) q) q) q
theorem hu_one {A : Around} (h : A.units + 60 < cLine) : A.units + 1 < cLine := by omega
theorem and_eq_half (s o : Nat) : s &&& o = s ↔ (s % 2 = 1 -> o % 2 = 1) /\ s / 2 &&& o / 2 = s / 2 := by
  have h1 := and_half s o
  have h2 := (low3 s o).1
  have hs : s % 2 = 0 \/ s % 2 = 1 := by omega
  have ho : o % 2 = 0 \/ o % 2 = 1 := by omega
  constructor
  . intro e
    rw [e] at h1 h2
    refine ⟨fun z => ?_, h1.symm⟩
    rcases ho with ho | ho
    . rw [ho, Nat.mul_zero] at h2; omega
    . exact ho
  . rintro ⟨a, b⟩
    rw [b] at h1
    rcases hs with hs | hs
    . rw [hs, Nat.zero_mul] at h2; omega
    . rw [hs, a hs] at h2; omega
theorem and_zero_half (x o : Nat) : x &&& o = 0 ↔ ¬ (x % 2 = 1 /\ o % 2 = 1) /\ x / 2 &&& o / 2 = 0 := by
  have h1 := and_half x o
  have h2 := (low3 x o).1
  have hs : x % 2 = 0 \/ x % 2 = 1 := by omega
  have ho : o % 2 = 0 \/ o % 2 = 1 := by omega
  constructor
  . intro e
    rw [e] at h1 h2
    refine ⟨fun ⟨a, b⟩ => ?_, by rw [<- h1]⟩
    rw [a, b] at h2; omega
  . rintro ⟨a, b⟩
    rw [b] at h1
    rcases hs with hs | hs
    . rw [hs, Nat.zero_mul] at h2; omega
    . rcases ho with ho | ho
      . rw [ho, Nat.mul_zero] at h2; omega
      . exact absurd ⟨hs, ho⟩ a
theorem chi_in : ∀ (m o x : Nat), o < 2 ^ m -> sumTo (fun s => if s &&& o = s then chi m s x else 0) (2 ^ m) = if x &&& o = 0 then ((2 ^ manyF m o : Nat) : Int) else 0
  | 0, o, x, h => by
    have : o = 0 := by simpa using h
    subst this
    simp [sumTo, chi, manyF]
  | m + 1, o, x, h => by
    have hp : 2 ^ (m + 1) = 2 * 2 ^ m := by rw [Nat.pow_succ, Nat.mul_comm]
    rw [hp, sumTo_two]
    have e : ∀ j, (if 2 * j &&& o = 2 * j then chi (m + 1) (2 * j) x else 0) + (if 2 * j + 1 &&& o = 2 * j + 1 then chi (m + 1) (2 * j + 1) x else 0) = (if o % 2 = 1 then (if x % 2 = 1 then 0 else 2) else 1) * (if j &&& o / 2 = j then chi m j (x / 2) else 0) := fun j => by
      have a1 := and_eq_half (2 * j) o
      have a2 := and_eq_half (2 * j + 1) o
      rw [show 2 * j / 2 = j by omega] at a1
      rw [show (2 * j + 1) / 2 = j by omega] at a2
      have c1 : chi (m + 1) (2 * j) x = chi m j (x / 2) := by
        show (if 2 * j % 2 = 1 /\ x % 2 = 1 then -1 else 1) * chi m (2 * j / 2) (x / 2) = _
        rw [if_neg (by omega), show 2 * j / 2 = j by omega, Int.one_mul]
      have c2 : chi (m + 1) (2 * j + 1) x = (if x % 2 = 1 then -1 else 1) * chi m j (x / 2) := by
        show (if (2 * j + 1) % 2 = 1 /\ x % 2 = 1 then -1 else 1) * chi m ((2 * j + 1) / 2) (x / 2) = _
        rw [show (2 * j + 1) / 2 = j by omega]
        by_cases hx : x % 2 = 1
        . rw [if_pos ⟨by omega, hx⟩, if_pos hx]
        . rw [if_neg (fun z => hx z.2), if_neg hx]
      rw [c1, c2]
      by_cases hj : j &&& o / 2 = j
      . rw [if_pos hj, if_pos (a1.mpr ⟨fun z => by omega, hj⟩)]
        by_cases ho : o % 2 = 1
        . rw [if_pos (a2.mpr ⟨fun _ => ho, hj⟩), if_pos ho]
          by_cases hx : x % 2 = 1
          . rw [if_pos hx, if_pos hx]; omega
          . rw [if_neg hx, if_neg hx]; omega
        . rw [if_neg (fun z => ho ((a2.mp z).1 (by omega))), if_neg ho]; omega
      . rw [if_neg hj, if_neg (fun z => hj (a1.mp z).2), if_neg (fun z => hj (a2.mp z).2)]
        simp
    rw [sumTo_congr fun j _ => e j, <- sumTo_mul, chi_in m (o / 2) (x / 2) (by rw [Nat.pow_succ] at h; omega)]
    have z := and_zero_half x o
    have em : manyF (m + 1) o = o % 2 + manyF m (o / 2) := rfl
    by_cases hz : x / 2 &&& o / 2 = 0
    . rw [if_pos hz, em]
      by_cases ho : o % 2 = 1
      . rw [if_pos ho, ho]
        by_cases hx : x % 2 = 1
        . rw [if_pos hx, if_neg (fun q => (z.mp q).1 ⟨hx, ho⟩), Int.zero_mul]
        . rw [if_neg hx, if_pos (z.mpr ⟨fun q => hx q.1, hz⟩), Nat.add_comm 1, Nat.pow_succ, Int.natCast_mul, Int.mul_comm]; rfl
      . have h0 : o % 2 = 0 := by omega
        rw [if_neg ho, h0, Nat.zero_add, if_pos (z.mpr ⟨fun q => ho q.2, hz⟩), Int.one_mul]
    . rw [if_neg hz, if_neg (fun q => hz (z.mp q).2), Int.mul_zero]
def setS (m : Nat) (v : Nat -> Int) (o r : Nat) : Int := sumTo (fun q => if q &&& o = r then v q else 0) (2 ^ m)
theorem xor_and_zero : ∀ (m p q o : Nat), p < 2 ^ m -> q < 2 ^ m -> ((p ^^^ q) &&& o = 0 ↔ q &&& o = p &&& o)
  | 0, p, q, o, hp, hq => by
    have h1 : p = 0 := by simpa using hp
    have h2 : q = 0 := by simpa using hq
    subst h1 h2
    simp
  | m + 1, p, q, o, hp, hq => by
    have i := xor_and_zero m (p / 2) (q / 2) (o / 2) (by rw [Nat.pow_succ] at hp; omega) (by rw [Nat.pow_succ] at hq; omega)
    rw [and_zero_half, xor_half, i]
    have a1 := and_half q o
    have a2 := and_half p o
    have b1 := (low3 q o).1
    have b2 := (low3 p o).1
    have b3 := (low3 p q).2.1
    rw [<- a1, <- a2]
    have hs : p % 2 = 0 \/ p % 2 = 1 := by omega
    have ht : q % 2 = 0 \/ q % 2 = 1 := by omega
    have ho : o % 2 = 0 \/ o % 2 = 1 := by omega
    rcases hs with hs | hs <;> rcases ht with ht | ht <;> rcases ho with ho | ho <;> rw [hs, ht] at b3 <;> rw [ht, ho] at b1 <;> rw [hs, ho] at b2 <;> rw [b3, ho] <;> omega
theorem wt_in (m : Nat) (v : Nat -> Int) (o p : Nat) (ho : o < 2 ^ m) (hp : p < 2 ^ m) : wt m (inF (wt m v) o) p = ((2 ^ manyF m o : Nat) : Int) * setS m v o (p &&& o) := by
  have e1 : wt m (inF (wt m v) o) p = sumTo (fun s => sumTo (fun q => v q * (if s &&& o = s then chi m s (p ^^^ q) else 0)) (2 ^ m)) (2 ^ m) := by
    show sumTo (fun s => chi m p s * inF (wt m v) o s) (2 ^ m) = _
    refine sumTo_congr fun s _ => ?_
    unfold inF
    by_cases h : s &&& o = s
    . rw [if_pos h]
      unfold wt
      rw [sumTo_mul]
      refine sumTo_congr fun q _ => ?_
      rw [if_pos h, chi_xor, chi_comm m p s]
      ac_rfl
    . rw [if_neg h, Int.mul_zero, sumTo_congr (g := fun _ => 0) fun q _ => by rw [if_neg h, Int.mul_zero], sumTo_zero]
  rw [e1, sumTo_swap]
  unfold setS
  rw [sumTo_mul]
  refine sumTo_congr fun q hq => ?_
  rw [<- sumTo_mul, chi_in m o (p ^^^ q) ho]
  have x := xor_and_zero m p q o hp hq
  by_cases h : q &&& o = p &&& o
  . rw [if_pos (x.mpr h), if_pos h, Int.mul_comm]
  . rw [if_neg (fun z => h (x.mp z)), if_neg h, Int.mul_zero, Int.mul_zero]
end L2
namespace HT
open PySem PyProof.Rows
section
variable {prog : Program} {w : World} {A : Around} {E : Value -> Shared -> Prop} {s : Shared}
end
end HT
namespace L2
open PySem PySem.Spec PyProof.Rows
section
variable {X : Cx} {K : PySem.W.Frag} {e sx : Expr} {te ts : TE} {lo hi : Option Expr} {tl th : TO} {pos p2 : Pos}
theorem vals_pick {α : Type} {xs : List V} {us : List Value} (r : Vals xs us) (f : α -> Nat) : ∀ l : List α, Vals (l.filterMap fun k => xs[f k]?) (l.filterMap fun k => us[f k]?)
  | [] => .nil
  | a :: l => by
    have ih := vals_pick r f l
    cases q : xs[f a]? with
    | none =>
      rw [List.filterMap_cons, List.filterMap_cons, q, r.none_of q]
      exact ih
    | some x =>
      obtain ⟨u, h1, h2⟩ := r.get q
      rw [List.filterMap_cons, List.filterMap_cons, q, h1]
      exact .cons h2 ih
def mIs (neg : Bool) : R2 := fun x y H Q => match x, y with
  | .bl a, .bl b => Q (.bl (neg ^^ (a == b))) H
  | x, .non => Q (.bl (neg ^^ decide (x = .non))) H
  | _, _ => False
theorem om_is : OpR X (compareOp .Is) (mIs false) := by
  intro pins s σ H x y v u Q I rx ry h
  unfold mIs at h
  split at h
  . cases rx; cases ry
    rename_i a b
    exact wpAny_of_eq (show compareOp .Is (.bool a) (.bool b) = pure (.bool (a == b)) by cases a <;> cases b <;> rfl) ⟨.bl (a == b), H, I, rfl, by rw [Bool.false_xor] at h; exact h⟩
  . exact op_isN pins s σ H _ _ v u Q I rx ry ⟨rfl, by rw [Bool.false_xor] at h; exact h⟩
  . exact h.elim
theorem rm_is {neg : Bool} : RMono (mIs neg) := fun x y H Q Q' h q => by
  unfold mIs at *
  split at q
  . exact h _ _ q
  . exact h _ _ q
  . exact q.elim
end
structure GFeed (H : Hp) (t : Addr) (N : Nat) : Prop where
  at_ : ∃ (l : Addr) (i g c : Int) (ns : List Int), 0 <= i /\ 0 <= g /\ 0 <= c /\ c <= N /\ H t = some (.lst [.ref l, .int i, .int g, .int c]) /\ l ≠ t /\ H l = some (.lst (ns.map V.int)) /\ ns.length ≠ 0
theorem GFeed.same {H H' : Hp} {t : Addr} {N : Nat} (F : GFeed H t N) (h : Same H H') : GFeed H' t N := by
  obtain ⟨l, i, g, c, ns, h1, h2, h3, h4, h5, h6, h7, h8⟩ := F.at_
  exact ⟨l, i, g, c, ns, h1, h2, h3, h4, h _ _ h5, h6, h _ _ h7, h8⟩
theorem GFeed.upd {H : Hp} {t p : Addr} {o : HO} {N : Nat} (F : GFeed H t N) (h : H p = none) : GFeed (L2.upd H p o) t N := F.same (Same.upd h)
theorem GFeed.lst {H : Hp} {t : Addr} {N : Nat} (F : GFeed H t N) : ∃ zs, H t = some (.lst zs) := by
  obtain ⟨l, i, g, c, ns, h1, h2, h3, h4, h5, _⟩ := F.at_
  exact ⟨_, h5⟩
def tyD : Dv -> String
  | .non => "NoneType"
  | .bl _ => "bool"
  | .int _ => "int"
  | .str _ => "str"
  | .tup _ => "tuple"
  | .lst _ => "list"
def mIsiD (K : PySem.W.Frag) : List V -> Hp -> VK -> Prop := fun xs H Q => match xs with
  | [x, .ty T] => T ∈ kinds /\ ∃ d, Rep K H d x /\ Q (.bl (isTy (tyD d) T)) H
  | _ => False
theorem kitD {K : PySem.W.Frag} {t T : String} (ht : t = "int" \/ t = "bool" \/ t = "tuple" \/ t = "list") (hT : T ∈ kinds) : PySem.W.kitOne K (.type t) (.type T) = some (isTy t T) := by
  unfold kinds at hT
  simp only [List.mem_cons, List.mem_nil_iff, or_false] at hT
  rcases ht with rfl | rfl | rfl | rfl <;> rcases hT with rfl | rfl | rfl | rfl | rfl | rfl <;> rfl
theorem cm_isiD {X : Cx} : CallR X (.builtin "isinstance") (mIsiD X.K) := by
  intro pins s σ H xs us Q I r q
  match xs, q with
  | [x, .ty T], q =>
    obtain ⟨hT, d, h, q⟩ := q
    have go : ∀ t, TyS X.K H x t -> Q (.bl (isTy t T)) H -> wpAny (model X.prog X.w) X.A (call (.builtin "isinstance") us) (EP X pins σ Q) X.xe s := fun t ht hq => by
      obtain ⟨u, w', rfl, ru, rw'⟩ := vals2 r
      cases rw'
      obtain ⟨ht, hn, Hh, k, hh⟩ := tyS_kit I ru ht
      exact PySem.W.kia_one k I.kIn hh (kitD ht hT) hn fun tk => ⟨.bl (isTy t T), H, I.tok _, rfl, hq⟩
    have hT' := hT
    unfold kinds at hT'
    simp only [List.mem_cons, List.mem_nil_iff, or_false] at hT'
    cases d with
    | non =>
      unfold Rep at h; subst h
      refine cm_isi pins s σ H _ us Q I r ⟨hT, _, rfl, ?_⟩
      have e : (T == "NoneType") = isTy (tyD .non) T := by rcases hT' with rfl | rfl | rfl | rfl | rfl | rfl <;> rfl
      rw [e]; exact q
    | str z =>
      unfold Rep at h; subst h
      refine cm_isi pins s σ H _ us Q I r ⟨hT, _, rfl, ?_⟩
      have e : (T == "str") = isTy (tyD (.str z)) T := by rcases hT' with rfl | rfl | rfl | rfl | rfl | rfl <;> rfl
      rw [e]; exact q
    | bl b => unfold Rep at h; subst h; exact go _ rfl q
    | int i => unfold Rep at h; subst h; exact go _ rfl q
    | tup ds => unfold Rep at h; obtain ⟨a, xs, rfl, hs, _⟩ := h; exact go _ (.inl ⟨rfl, xs, hs⟩) q
    | lst ds => unfold Rep at h; obtain ⟨a, xs, rfl, hs, _⟩ := h; exact go _ (.inr ⟨rfl, xs, hs⟩) q
theorem kIsiD {X : Cx} {K : PySem.W.Frag} (hK : X.K = K := by rfl) : CallR X (.builtin "isinstance") (mIsiD K) := hK ▸ cm_isiD
theorem cm_isiD_ {K : PySem.W.Frag} : CMono (mIsiD K) := fun xs H Q Q' h q => by
  unfold mIsiD at *
  split at q
  . obtain ⟨a, t, b, q⟩ := q; exact ⟨a, t, b, h _ _ q⟩
  . exact q.elim
theorem reps_bl {K : PySem.W.Frag} {H : Hp} : ∀ bs : List Bool, Reps K H (bs.map Dv.bl) (bs.map V.bl)
  | [] => reps_nil
  | b :: bs => reps_cons rep_bl (reps_bl bs)
theorem rep_tup_inv {K : PySem.W.Frag} {H : Hp} {ds : List Dv} {v : V} (h : Rep K H (.tup ds) v) : ∃ a xs, v = .ref a /\ SqT K H a xs /\ Reps K H ds xs := by unfold Rep at h; exact h
theorem rep_tup2 {K : PySem.W.Frag} {H : Hp} {p : Addr} {xs : List V} {ds : List Dv} (h : SqT K H p xs) (r : Reps K H ds xs) : Rep K H (.tup ds) (.ref p) := by unfold Rep; exact ⟨p, xs, rfl, h, r⟩
theorem tups_bl : ∀ bs : List Bool, tupsOnly (bs.map Dv.bl) = true
  | [] => rfl
  | b :: bs => by
    show (true && tupsOnly (bs.map Dv.bl)) = true
    rw [tups_bl bs]; rfl
section
variable {X : Cx} {pins : List (Addr × Obj)} {σ : St} {H : Hp} {s : Shared}
theorem Inv.hold {d : Addr} {kvs : List (Key × V)} (I : Inv X pins σ H s) (h : H d = some (.dK kvs)) : ∃ o, s.heap.get? d = some o /\ Inv X pins σ (upd H d (.frz o (.dK kvs))) s := by
  obtain ⟨hl, hs, vs, r, dd⟩ := (show ObjOk X.prog X.w H s.heap d (.dK kvs) from I.hok d _ h)
  obtain ⟨o, es, ep, ho, rest⟩ := id dd
  refine ⟨o, ho, ?_⟩
  have := I.write (x := d) (e := d) (o := .frz o (.dK kvs)) (h' := s.heap) (t' := s.toks) (by rw [h]; exact True.intro) (.inl rfl) (fun b u _ q => q) ⟨o, ho⟩ ⟨ho, hl, hs, vs, r, dd⟩
  exact this
theorem Inv.held {d : Addr} {o : Obj} {kvs : List (Key × V)} (I : Inv X pins σ H s) (h : H d = some (.frz o (.dK kvs))) : s.heap.get? d = some o /\ (d == sysModules) = false /\ kvs.length <= sizeLine /\ ∃ vs, KV kvs vs /\ s.heap.DictOf (mixKind X.prog X.w) d vs := by
  obtain ⟨ho, hl, hs, vs, r, dd⟩ := (show ObjOk X.prog X.w H s.heap d (.frz o (.dK kvs)) from I.hok d _ h)
  exact ⟨ho, hs, hl, vs, r, dd⟩
theorem KV.get {kvs : List (Key × V)} {vs : List (Key × Value)} (r : KV kvs vs) : ∀ {i : Nat} {q : Key × V}, kvs[i]? = some q -> ∃ v, vs[i]? = some (q.1, v) /\ RelV q.2 v := by
  induction r with
  | nil => intro i q e; simp at e
  | @cons a b l1 l2 h t ih =>
    intro i q e
    cases i with
    | zero =>
      simp at e; subst e
      obtain ⟨b1, b2⟩ := b
      obtain ⟨h1, h2⟩ := h
      exact ⟨b2, by simp; exact h1.symm, h2⟩
    | succ i =>
      obtain ⟨v, h1, h2⟩ := ih (i := i) (q := q) (by simpa using e)
      exact ⟨v, by simpa using h1, h2⟩
theorem KV.len {kvs : List (Key × V)} {vs : List (Key × Value)} (r : KV kvs vs) : kvs.length = vs.length := Paired.length r
end
theorem dictAt_of {P : Program} {w : World} {h : Heap} {d : Addr} {o : Obj} {es : Array DictEntry} {ep : Nat} {vs : List (Key × Value)} (ho : h.get? d = some o) (hd : o.data = .dict es ep) (dd : h.DictOf (mixKind P w) d vs) : h.DictAt (mixKind P w) d vs ep /\ es.size = vs.length := by
  obtain ⟨o', es', ep', h1, h2, h3, h4, h5, h6⟩ := dd
  rw [ho] at h1; cases h1
  rw [hd] at h3; cases h3
  exact ⟨⟨o, es, ho, h2, hd, h4, h5, h6⟩, by rw [<- h5.length]; simp⟩
def toHeld (x : V) (H : Hp) (R : Addr -> Obj -> Hp -> Prop) : Prop := match x with
  | .ref d => (∃ kvs, H d = some (.dK kvs) /\ ∀ o, R d o (upd H d (.frz o (.dK kvs)))) \/ ∃ kvs o, H d = some (.frz o (.dK kvs)) /\ R d o H
  | _ => False
theorem toHeld_of {X : Cx} {pins : List (Addr × Obj)} {σ : St} {H : Hp} {s : Shared} {x : V} {v : Value} {R : Addr -> Obj -> Hp -> Prop} (I : Inv X pins σ H s) (r : RelV x v) (h : toHeld x H R) :
    ∃ d kvs o H2, v = .ref d /\ Inv X pins σ H2 s /\ H2 d = some (.frz o (.dK kvs)) /\ R d o H2 := by
  cases x with
  | ref d =>
    cases r
    rcases h with ⟨kvs, e, q⟩ | ⟨kvs, o, e, q⟩
    . obtain ⟨o, ho, I2⟩ := I.hold e
      exact ⟨d, kvs, o, _, rfl, I2, upd_same, q o⟩
    . exact ⟨d, kvs, o, H, rfl, I, e, q⟩
  | _ => exact False.elim h
section
variable {X : Cx} {K : PySem.W.Frag} {tg oe : Expr} {to : TE} {ts : List Expr} {kt : Nat} {tpos apos cpos : Pos}
end
end L2
namespace L2
open PySem PySem.Spec PyProof.Rows PySem.W
open Att (noObjs noObjs_get fr_all)
def CdO (a : Addr) (q : Str) : HO := .ext fun h => h.CodeRec (.ref a) q
def Lam (Pt : Addr) (pos : Pos) (q : Str) (H : Hp) : Prop :=
  ∃ ps : Array Value, H Pt = some (.tbl ps) /\ TriplesOk ps.toList /\ (codeAmong pos ps.toList = none \/ ∃ c', codeAmong pos ps.toList = some (.ref c') /\ H c' = some (CdO c' q))
def Grow (Pt : Addr) (H H' : Hp) : Prop := ∀ b o, b ≠ Pt -> H b = some o -> H' b = some o
theorem Grow.same {Pt : Addr} {H H' : Hp} (h : Same H H') : Grow Pt H H' := fun b o _ e => h b o e
theorem Lam.same {Pt : Addr} {pos : Pos} {q : Str} {H H' : Hp} (l : Lam Pt pos q H) (h : Same H H') : Lam Pt pos q H' := by
  obtain ⟨ps, a, b, c⟩ := l
  refine ⟨ps, h _ _ a, b, ?_⟩
  rcases c with c | ⟨c', c, d⟩
  . exact .inl c
  . exact .inr ⟨c', c, h _ _ d⟩
section
variable {X : Cx} {pins : List (Addr × Obj)} {σ : List (Option V)} {H : Hp} {s : Shared} {h' : Heap}
end
section
variable {prog : Program} {w : World} {A : Around} {s : Shared}
end
section
variable {X : Cx} {Pt c : Addr} {e : Expr} {te : TE} {p pos kpos lpos np cp sp : Pos} {x qual : Str} {params : Arguments} {scope : Scope} {kd : Nat} {i : Int} {K : PySem.W.Frag}
end
end L2
namespace L2
open PySem
end L2
namespace L2
open PySem PySem.Spec PyProof.Rows
def Itv (d : Addr) (o : Obj) : It :=
  ⟨fun i H => ∃ kvs q, H d = some (.frz o (.dK kvs)) /\ kvs[i]? = some q,
   fun i H v H' => H' = H /\ ∃ kvs q, H d = some (.frz o (.dK kvs)) /\ kvs[i]? = some q /\ v = q.2,
   fun i H => ∃ kvs, H d = some (.frz o (.dK kvs)) /\ kvs.length <= i⟩
theorem turn_vals {P : Program} {w : World} {K : PySem.W.Frag} {tg : Expr} {it d : Addr} {o : Obj} {es : Array DictEntry} {ep : Nat} (hdat : o.data = .dict es ep) :
    Turn P w K tg (Itv d o) [it] it (fun i h => h.IsValIter it d i es.size ep) where
  mem := by simp
  obj := fun i h st b hb => by
    obtain rfl : b = it := by simpa using hb
    obtain ⟨o, e, c, d⟩ := st
    exact ⟨o, e, fun v z => by rw [d] at z; cases z⟩
  keep := fun i h h' ⟨o, e, r⟩ k => ⟨o, k it (by simp) _ e, r⟩
  item := by
    intro X hP hw hK hc i pins s σ H E I hf st hg
    subst hP hw hK
    obtain ⟨kvs, q, hq1, hx⟩ := hg
    obtain ⟨ho, hs, hl, vs, rv, dd⟩ := I.held hq1
    obtain ⟨da, hsz⟩ := dictAt_of ho hdat dd
    obtain ⟨u, hu, ru⟩ := rv.get hx
    obtain ⟨f0, f1, f2, f3, f4, f5⟩ := hf it (by simp)
    rw [hsz] at st
    refine wpAny_pyNext_values_item st da hu fun h' st' sb => ?_
    have I1 : Inv X pins σ H { s with heap := h' } := I.turned (t' := s.toks) (fun b o hb e => (sb.2 b hb).trans e) f0 f1 f3 f4 f5
    obtain ⟨o', e, c, d'⟩ := id st'
    rw [<- hsz] at st'
    exact ⟨u, rfl, go_of (s := { s with heap := h' }) e c d' (by decide) ⟨q.2, H, I1, ru, ⟨rfl, kvs, q, hq1, hx, rfl⟩, st', fun b hb => (hf b hb).1⟩⟩
  done := by
    intro X hP hw hK hc i pins s σ H E I hf st hg
    subst hP hw hK
    obtain ⟨kvs, hq1, hl⟩ := hg
    obtain ⟨ho, hs, hl', vs, rv, dd⟩ := I.held hq1
    obtain ⟨da, hsz⟩ := dictAt_of ho hdat dd
    obtain ⟨f0, f1, f2, f3, f4, f5⟩ := hf it (by simp)
    have e1 := rv.len
    rw [hsz] at st
    exact wpAny_pyNext_values_end (I.ok.hd hc) st da (by simp; omega) fun h' eb => ⟨rfl, I.turned (t' := s.toks) (fun b o hb e => eb b o hb e) f0 f1 f3 f4 f5⟩
  self := fun _ _ _ _ _ st h => wpAny_pyIter_valiter st h
def iVals (to : TE) : TI := fun σ H R => to σ H fun x H1 => toHeld x H1 fun d o H2 => R (Itv d o) H2
section
variable {X : Cx} {tg oe : Expr} {to : TE} {apos cpos : Pos}
theorem kVals (ho : PE X oe to) (hbase : attributeBase oe "values" X.env (eval oe X.env) = eval oe X.env := by rfl) (hline : (apos.endLine == cpos.line) = true := by rfl) :
    PI X tg (.Call (.Attribute oe "values" apos) [] [] cpos) (iVals to) := by
  intro pins s σ H R I h
  refine wpAny_Call_method0_late hbase hline (thn (ho pins s σ H _ I h) fun v s1 ⟨x, H1, I1, r1, q1⟩ => ?_)
  obtain ⟨d, kvs, o, H2, rfl, I2, hd2, q⟩ := toHeld_of I1 r1 q1
  obtain ⟨ho', hs, hl, vs, rv, dd⟩ := I2.held hd2
  obtain ⟨o', es, ep, e1, e2, e3, _⟩ := id dd
  rw [ho'] at e1; cases e1
  refine ⟨"dict", "dict.values", PySem.F.plainAttrs_dict, PySem.F.slot_dict_values, PySem.F.type_dict_values, dd.typeIs, fun a ea => ?_, Calls.callWith_builtin rfl (PySem.evalArgs_none ?_)⟩
  . cases ea; exact ⟨o, ho', e2.2.1⟩
  refine call_meetsIn PySem.F.slot_dict_values dd.typeIs PySem.F.entry_dict_values (PySem.F.args_dict_values_1 _) (meets_dict_values (mixKind X.prog X.w) d hs) ⟨⟨vs, dd⟩, ?_⟩
  have I3 : Inv X pins σ H2 { s1 with heap := s1.heap.push { cls := .type "dict_values", data := .fields #[.ref d] } } := I2.kept (t' := s1.toks) fun b u e => Heap.get?_push_of_some _ e
  have hv : (s1.heap.push { cls := .type "dict_values", data := .fields #[.ref d] }).IsValuesView s1.heap.objs.size d := ⟨_, Heap.get?_push_size _ rfl, rfl, rfl⟩
  obtain ⟨ho3, _, _, vs3, rv3, dd3⟩ := I3.held hd2
  obtain ⟨da, hsz⟩ := dictAt_of ho3 e3 dd3
  refine wpAny_pyIter_values (s := { s1 with heap := s1.heap.push { cls := .type "dict_values", data := .fields #[.ref d] } }) hv da ?_
  generalize s1.heap.push { cls := .type "dict_values", data := .fields #[.ref d] } = h3 at *
  refine ⟨h3.objs.size, [h3.objs.size], _, _, H2, rfl, I3.kept (t' := s1.toks) fun b o e => Heap.get?_push_of_some _ e, turn_vals e3, ⟨_, Heap.get?_push_size _ rfl, rfl, ?_⟩, fun b hb => ?_, q⟩
  . rw [hsz]; rfl
  . obtain rfl : b = h3.objs.size := by simpa using hb
    exact I3.fpOk (Nat.le_refl _) (I3.hok.fresh (Nat.le_refl _))
end
theorem comp_vals {d : Addr} {o : Obj} {kvs : List (Key × V)} {g : TG} {tc : TT} {te : TE} {σc : St} {Q : VK} {H : Hp} (Pv : Nat -> List V -> Hp -> Prop) (h0 : Pv 0 [] H) (hl : ∀ i ys H, i <= kvs.length -> Pv i ys H -> H d = some (.frz o (.dK kvs))) (hz : ∀ i ys H, i < kvs.length -> Pv i ys H -> ys.length < sizeLine)
    (hs : ∀ i r ys H, kvs[i]? = some r -> Pv i ys H -> g r.2 σc H fun σ2 H2 => tc σ2 H2 fun b H3 => if b = true then te σ2 H3 fun y H4 => Pv (i + 1) (ys ++ [y]) H4 else Pv (i + 1) ys H3)
    (hd : ∀ ys H, Pv kvs.length ys H -> ∀ p, H p = none -> Q (.ref p) (upd H p (.lst ys))) : CompTurns (Itv d o) g tc te σc Q H := by
  refine ⟨fun i m ys H => m = kvs.length - i /\ i <= kvs.length /\ Pv i ys H, ⟨kvs.length, by simp, Nat.zero_le _, h0⟩, ?_⟩
  rintro i m ys H ⟨rfl, hi, p⟩
  have q := hl i ys H hi p
  by_cases hlt : i < kvs.length
  . refine .inr ⟨⟨kvs, kvs[i], q, by simp [hlt]⟩, hz i ys H hlt p, Pv (i + 1), fun ys' H' p' => ⟨kvs.length - (i + 1), by omega, rfl, hlt, p'⟩, fun x H' y => ?_⟩
    obtain ⟨rfl, kvs', r, e1, e2, rfl⟩ := y
    rw [q] at e1
    cases e1
    exact hs i r ys _ e2 p
  . have e : i = kvs.length := by omega
    subst e
    exact .inl ⟨⟨kvs, q, Nat.le_refl _⟩, hd ys H p⟩
def mIn (K : PySem.W.Frag) (neg : Bool) : R2 := fun x y H Q => match y with
  | .ref p => ∃ xs, (SqL K H p xs \/ SqT K H p xs) /\ flatV x = true /\ xs.all flatV = true /\ Q (.bl (neg ^^ inV x xs)) H
  | _ => False
section
variable {X : Cx} {K : PySem.W.Frag}
theorem kIn (hK : X.K = K := by rfl) : OpR X (compareOp .In) (mIn K false) := by
  subst hK
  intro pins s σ H x y v u Q I rx ry h
  cases y with
  | ref p =>
    obtain ⟨xs, h1, h2, h3, q⟩ := h
    exact op_in_seq pins s σ H x _ v u Q I rx ry ⟨p, xs, rfl, h1, h2, h3, by simpa using q⟩
  | _ => exact False.elim h
theorem kNotIn (hK : X.K = K := by rfl) : OpR X (compareOp .NotIn) (mIn K true) := by
  subst hK
  intro pins s σ H x y v u Q I rx ry h
  cases y with
  | ref p =>
    obtain ⟨xs, h1, h2, h3, q⟩ := h
    exact op_notIn_seq pins s σ H x _ v u Q I rx ry ⟨p, xs, rfl, h1, h2, h3, by simpa using q⟩
  | _ => exact False.elim h
end
theorem rm_in {K : PySem.W.Frag} {neg : Bool} : RMono (mIn K neg) := fun x y H Q Q' h q => by
  cases y with
  | ref p => obtain ⟨xs, h1, h2, h3, q⟩ := q; exact ⟨xs, h1, h2, h3, h _ _ q⟩
  | _ => exact False.elim q
theorem flat_bl (bs : List Bool) : (bs.map V.bl).all flatV = true := by simp [flatV]
theorem in_true (bs : List Bool) : inV (.bl true) (bs.map V.bl) = bs.any id := by
  unfold inV
  rw [List.any_map]
  congr 1
  funext b
  cases b <;> rfl
theorem in_false (bs : List Bool) : inV (.bl false) (bs.map V.bl) = bs.any not := by
  unfold inV
  rw [List.any_map]
  congr 1
  funext b
  cases b <;> rfl
section
variable {X : Cx} {K : PySem.W.Frag}
def mAny (K : PySem.W.Frag) : List V -> Hp -> VK -> Prop := fun xs H Q => match xs with
  | [.ref l] => ∃ bs : List Bool, SqL K H l (bs.map V.bl) /\ Q (.bl (bs.any id)) H
  | _ => False
theorem cm_any (hc : X.calm = true) : CallR X (.builtin "any") (mAny X.K) := by
  intro pins s σ H xs us Q I r q
  match xs, q with
  | [.ref l], q =>
  obtain ⟨bs, hl, q⟩ := q
  obtain ⟨u, rfl, ru⟩ := vals1 r
  cases ru
  obtain ⟨its, rv, pl, hz⟩ := I.list hl
  have hlen := rv.length
  rw [List.length_map] at hlen
  obtain ⟨o1, n1, g1, _⟩ := id pl
  have hlt := Heap.lt_size g1
  refine call_any_walk (wpAny_pyIter_list pl.isList ?_)
  have hne : l ≠ s.heap.objs.size := Nat.ne_of_lt hlt
  refine ⟨_, _, _, _, _, _, fun i => bs.getD i false, rfl, Walks.list (A := X.A.in1) (I.ok.hd hc) s.heap.objs.size l hne its.toArray, ?_, ?_, fun h' tk hk => ?_⟩
  . exact ⟨⟨_, Heap.get?_push_size _ rfl, rfl, rfl⟩, (show s.heap.IsList l its.toArray from pl.isList).at fun o e => Heap.get?_push_of_some _ e⟩
  . intro i v s' Q' E' hv hq
    have hv : its.toArray[i]? = some v := hv
    have hi : i < its.length := by
      have := (Array.getElem?_eq_some_iff.mp hv).1
      simpa using this
    have hb : (bs.map V.bl)[i]? = some (.bl bs[i]) := by rw [List.getElem?_map, List.getElem?_eq_getElem (by omega)]; rfl
    obtain ⟨w', q1, q2⟩ := rv.get hb
    have e : v = w' := by simp at hv; rw [q1] at hv; exact (Option.some.inj hv).symm
    subst e
    cases q2
    refine wpAny_truthy_bool ?_
    have e2 : bs.getD i false = bs[i] := by rw [List.getD_eq_getElem?_getD, List.getElem?_eq_getElem (by omega)]; rfl
    have hq : Q' (bs.getD i false) s' := hq
    rw [e2] at hq
    exact hq
  . refine ⟨.bl _, H, I.kept (fun b o e => hk b o ?_ (Heap.get?_push_of_some _ e)), rfl, ?_⟩
    . simp only [List.mem_singleton]
      exact Nat.ne_of_lt (Heap.lt_size e)
    . have e : (List.range its.toArray.size).any (fun i => bs.getD i false) = bs.any id := by
        rw [List.size_toArray, <- hlen]
        rw [Bool.eq_iff_iff, List.any_eq_true, List.any_eq_true]
        constructor
        . rintro ⟨i, hi, e⟩
          have hi' := List.mem_range.mp hi
          rw [List.getD_eq_getElem?_getD, List.getElem?_eq_getElem hi'] at e
          exact ⟨_, List.getElem_mem hi', e⟩
        . rintro ⟨b, hb, e⟩
          obtain ⟨i, hi, rfl⟩ := List.mem_iff_getElem.mp hb
          refine ⟨i, List.mem_range.mpr hi, ?_⟩
          rw [List.getD_eq_getElem?_getD, List.getElem?_eq_getElem hi]
          exact e
      rw [e]
      exact q
theorem kAny (hc : X.calm = true) (hK : X.K = K := by rfl) : CallR X (.builtin "any") (mAny K) := hK ▸ cm_any hc
end
end L2
namespace L2
theorem on1 {α : Type} {P : List α -> Prop} (h : ∀ a, P [a]) : ∀ us : List α, us.length = 1 -> P us
  | [a], _ => h a
theorem on2 {α : Type} {P : List α -> Prop} (h : ∀ a b, P [a, b]) : ∀ us : List α, us.length = 2 -> P us
  | [a, b], _ => h a b
theorem on3 {α : Type} {P : List α -> Prop} (h : ∀ a b c, P [a, b, c]) : ∀ us : List α, us.length = 3 -> P us
  | [a, b, c], _ => h a b c
theorem on4 {α : Type} {P : List α -> Prop} (h : ∀ a b c d, P [a, b, c, d]) : ∀ us : List α, us.length = 4 -> P us
  | [a, b, c, d], _ => h a b c d
open PySem in
theorem star_lst {xs es : List PySem.Expr} {p : Pos} {env : Env} : starEach (.List xs p :: es) env = (false, eval (.List xs p) env) :: starEach es env := by rfl
end L2
namespace L2
open PySem
end L2
namespace L2
open PySem PyProof.Rows
section
variable {prog : Program} {w : World} {A : Around} {E : Value -> Shared -> Prop} {s : Shared}
end
section
variable {X : Cx}
end
abbrev IsZp (h : Heap) (z TI TO : Addr) (f0 bb : Value) : Prop :=
  h.get? z = some { cls := .type "zip", dict := none, data := .fields #[f0, bb, .bool false, .ref TI, .ref TO], slots := #[] }
section
variable {prog : Program} {w : World} {A : Around} {E : Value -> Shared -> Prop} {s : Shared}
end
section
variable {prog : Program} {w : World} {A : Around} {E : Value -> Shared -> Prop} {s : Shared}
structure ZS (z TI TO i1 i2 l1 l2 T0 : Addr) (xs ys : Array Value) (i : Nat) (h : Heap) : Prop where
  zp : (i = 0 /\ IsZip h z TI TO .none) \/ (0 < i /\ (∃ b, IsZp h z TI TO (rawInt T0) b) /\ ∃ a b, IsPair h T0 a b)
  ti : IsPair h TI (.ref i1) (.ref i2)
  to : ∃ a b, IsPair h TO a b
  a1 : h.IsTupleIter i1 l1 i
  a2 : h.IsTupleIter i2 l2 i
  t1 : h.IsTuple l1 xs
  t2 : h.IsTuple l2 ys
end
section
variable {prog : Program} {w : World} {A : Around} {R : Result -> Shared -> Prop}
end
section
variable {prog : Program} {w : World} {A : Around} {R : Result -> Shared -> Prop} {s : Shared}
end
section
variable {prog : Program} {w : World} {A : Around} {E : Value -> Shared -> Prop} {s : Shared}
end
section
variable {X : Cx}
end
end L2
namespace L2
open PySem
def ins : Nat -> Nat -> Nat -> Nat
  | 0, b, q => 2 * q + b
  | i + 1, b, q => 2 * ins i b (q / 2) + q % 2
end L2
namespace L2
open PySem PyProof.Rows
section
variable {prog : Program} {w : World} {A : Around} {E : Value -> Shared -> Prop} {s : Shared}
end
section
variable {prog : Program} {w : World} {K : Type} [DecidableEq K] {knd : KeyKind prog w K} {A : Around} {R : Result -> Shared -> Prop}
end
section
variable {prog : Program} {w : World} {K : Type} [DecidableEq K] {knd : KeyKind prog w K} {A : Around} {E : Value -> Shared -> Prop} {s : Shared}
end
section
variable {X : Cx}
end
section
variable {prog : Program} {w : World} {A : Around} {E : Value -> Shared -> Prop} {s : Shared}
end
section
variable {prog : Program} {w : World} {A : Around} {E : Value -> Shared -> Prop} {s : Shared}
end
section
variable {prog : Program} {w : World} {K : Type} [DecidableEq K] {knd : KeyKind prog w K} {A : Around} {R : Result -> Shared -> Prop}
end
section
variable {prog : Program} {w : World} {K : Type} [DecidableEq K] {knd : KeyKind prog w K} {A : Around} {E : Value -> Shared -> Prop} {s : Shared}
end
section
variable {X : Cx}
end
theorem noFill_tuple_mul : fillsNumberSlot (.type "tuple") "mul" = pure false :=
  PySem.fillsNumberSlot_seq (id := "tuple.__mul__") (r := some (.builtin "tuple.__rmul__")) F.slot_tuple_mul.lookup (by decide +kernel) F.slot_tuple_rmul.lookup (by decide +kernel)
theorem repeat_tuple : seqRepeat? (.type "tuple") = pure (some (.builtin "tuple.__mul__")) := by
  unfold seqRepeat?
  rw [PySem.seqSlot_of (T := "tuple") (name := "__mul__") (id := "tuple.__mul__") F.slot_tuple_mul.lookup (by decide +kernel), PySem.seqSlot_of (T := "tuple") (name := "__rmul__") (id := "tuple.__rmul__") F.slot_tuple_rmul.lookup (by decide +kernel)]
  rfl
theorem int_rmul_tup (a : Int) (t : Tok) (l : Addr) (items : Array Value) (n : Nat) (sl : Array (Option Value)) :
    Meets (Builtin.«int.__rmul__» ⟨[.int a t, .ref l], []⟩) (fun _ R s => s.heap.get? l = some { cls := .type "tuple", dict := none, data := .seq items n, slots := sl } /\ R (.ok (.ret Value.notImplemented)) s) :=
  .of_wp fun prog w A R s h => by obtain ⟨hp, g, d, tk, os⟩ := s; obtain ⟨hl, h⟩ := h; wp_walk; exact ⟨_, rfl, h⟩
theorem tup_mul (l : Addr) (items : Array Value) (n : Nat) (sl : Array (Option Value)) (x : Int) (u : Tok) (h0 : items.isEmpty = false) (h1 : 2 <= x) (h2 : x < 2 ^ 63) (h3 : items.size * x.toNat <= sizeLine) :
    Meets (Builtin.«tuple.__mul__» ⟨[.ref l, .int x u], []⟩) (fun _ R s => s.heap.get? l = some { cls := .type "tuple", dict := none, data := .seq items n, slots := sl } /\ R (.ok (.ret (Value.ref s.heap.objs.size))) { s with heap := s.heap.push { cls := Value.type "tuple", data := Data.seq (List.foldl (fun x1 x2 => x1 ++ x2) #[] (List.replicate x.toNat items)) }, toks := s.toks }) :=
  .of_wp fun prog w A R s h => by
    obtain ⟨hp, g, d, tk, os⟩ := s; obtain ⟨hl, h⟩ := h
    have hx : ((x.toNat : Nat) : Int) = x := Int.toNat_of_nonneg (by omega)
    have hm : (items.size : Int) * x = ((items.size * x.toNat : Nat) : Int) := by rw [Int.natCast_mul, hx]
    have hs : (items.size : Int) * x <= (sizeLine : Int) := by rw [hm]; exact Int.ofNat_le.mpr h3
    have hl8 : (sizeLine : Int) <= (2 ^ 63 - 1) / 8 := by decide
    have hsz : (List.foldl (fun x1 x2 => x1 ++ x2) #[] (List.replicate x.toNat items)).size <= sizeLine := by
      rw [AutoListH.size_joined]; simp only [Array.size_empty]; rw [Nat.mul_comm] at h3; omega
    have c1 : (decide (x < -(2 ^ 63)) || decide (x ≥ 2 ^ 63)) = false := by simp; omega
    have c2 : (items.isEmpty || x == 1) = false := by rw [h0]; simp; omega
    have c3 : (decide (x <= 0) || items.isEmpty) = false := by rw [h0]; simp; omega
    have c4 : ¬ ((items.size : Int) * x > (2 ^ 63 - 1) / 8) := by omega
    have c5 : Builtin.Tuple.tupleTooMany ((items.size : Int) * x) = false := by unfold Builtin.Tuple.tupleTooMany; simp; exact hs
    wp_walk
    refine wpAny_ite_false (decide_eq_false (by rw [c1]; exact Bool.false_ne_true)) ?_
    wp_walk
    refine wpAny_ite_false (decide_eq_false (by rw [c2]; exact Bool.false_ne_true)) ?_
    wp_walk
    refine wpAny_ite_false (decide_eq_false (by rw [c3]; exact Bool.false_ne_true)) ?_
    refine wpAny_ite_false (decide_eq_false c4) ?_
    refine wpAny_ite_false (decide_eq_false (by rw [c5]; exact Bool.false_ne_true)) ?_
    clear c1 c2 c3 c4 c5 hs hm hx hl8
    wp_walk
    exact ⟨_, rfl, h⟩
theorem foldl_rep' (its : List Value) (k : Nat) : List.foldl (fun x1 x2 => x1 ++ x2) #[] (List.replicate k its.toArray) = (List.replicate k its).flatten.toArray := by
  have := foldl_rep its k []
  rw [List.nil_append] at this
  exact this
section
variable {X : Cx}
def rRepT (K : PySem.W.Frag) : R2 := fun x y H Q => ∃ a k xs, x = .ref a /\ y = .int k /\ SqT K H a xs /\ xs ≠ [] /\ 2 <= k /\ k < 2 ^ 63 /\ xs.length * k.toNat <= sizeLine /\
  ∀ p, H p = none -> Q (.ref p) (upd H p (.tup (List.replicate k.toNat xs).flatten))
theorem op_repT : OpR X (binaryOp .Mult) (rRepT X.K) := by
  intro pins s σ H x y v u Q I rx ry h
  obtain ⟨l, k, xs, rfl, rfl, hH, hx, h1, h2, hz, q⟩ := h
  cases rx
  obtain ⟨t, rfl⟩ := ry
  obtain ⟨its, r, ⟨o, e, hc, ⟨n, hd⟩, hn⟩, _⟩ := I.tupleN hH
  obtain ⟨c, dd, da, sl⟩ := o
  cases hc
  cases hd
  cases hn
  have h0 : its.toArray.isEmpty = false := by
    cases its with
    | nil => exact absurd (r.nil_iff.mp rfl) hx
    | cons _ _ => rfl
  have hlen : its.toArray.size * k.toNat <= sizeLine := by rw [List.size_toArray, <- r.length]; exact hz
  refine wpAny_binaryOp_repeat_ref (T := "tuple") (U := "int") (by decide) ⟨_, e, rfl⟩ (fun s' => typeIs_int s' k t) noFill_tuple_mul F.fills_int_mul F.slot_int_rmul repeat_tuple F.slot_int_index.lookup
    (call_meets F.slot_int_rmul (typeIs_int s k t) F.entry_int_rmul (F.args_int_rmul_2 _ _) (int_rmul_tup k t l its.toArray n sl)
      ⟨e, rfl, ⟨_, e, rfl⟩, call_meets F.slot_tuple_mul ⟨_, e, rfl⟩ F.entry_tuple_mul (F.args_tuple_mul_2 _ _) (tup_mul l its.toArray n sl k t h0 h1 h2 hlen) ⟨e, ?_⟩⟩)
  rw [foldl_rep']
  refine ⟨.ref s.heap.objs.size, _, I.laid (t' := s.toks) (o := .tup (List.replicate k.toNat xs).flatten) (fun b ob q => Heap.get?_push_of_some _ q) (Nat.le_refl _) ?_, rfl, q _ (I.hok.fresh (Nat.le_refl _))⟩
  exact ⟨by rw [len_rep, Nat.mul_comm]; exact hz, _, r.rep k.toNat, IsTupN.new _ _⟩
end
section
variable {X : Cx} {K : PySem.W.Frag}
end
section
variable {X : Cx} {K : PySem.W.Frag} {o e e2 : Expr} {to : TE} {t : TA} {apos cpos : Pos}
end
end L2
namespace L2
open PySem PySem.Spec PyProof.Rows
section
variable {X : Cx} {K : PySem.W.Frag}
end
end L2
namespace L2
open PySem PyProof.Rows
section
variable {X : Cx}
end
theorem tup_mul1 (l : Addr) (items : Array Value) (n : Nat) (sl : Array (Option Value)) (x : Int) (hx : x = 1) (u : Tok) :
    Meets (Builtin.«tuple.__mul__» ⟨[.ref l, .int x u], []⟩) (fun _ R s => s.heap.get? l = some { cls := .type "tuple", dict := none, data := .seq items n, slots := sl } /\ R (.ok (.ret (Value.ref l))) s) :=
  .of_wp fun prog w A R s h => by
    obtain ⟨hp, g, d, tk, os⟩ := s; obtain ⟨hl, h⟩ := h
    have c1 : (decide (x < -(2 ^ 63)) || decide (x ≥ 2 ^ 63)) = false := by rw [hx]; decide
    have c2 : (items.isEmpty || x == 1) = true := by rw [hx]; simp
    clear hx
    wp_walk
    refine wpAny_ite_false (decide_eq_false (by rw [c1]; exact Bool.false_ne_true)) ?_
    wp_walk
    exact ⟨_, rfl, h⟩
theorem tup_mul0 (l : Addr) (items : Array Value) (n : Nat) (sl : Array (Option Value)) (x : Int) (hx : x = 0) (u : Tok) (h0 : items.isEmpty = false) :
    Meets (Builtin.«tuple.__mul__» ⟨[.ref l, .int x u], []⟩) (fun _ R s => s.heap.get? l = some { cls := .type "tuple", dict := none, data := .seq items n, slots := sl } /\ R (.ok (.ret (Value.ref s.heap.objs.size))) { s with heap := s.heap.push { cls := Value.type "tuple", data := Data.seq #[] }, toks := s.toks }) :=
  .of_wp fun prog w A R s h => by
    obtain ⟨hp, g, d, tk, os⟩ := s; obtain ⟨hl, h⟩ := h
    have c1 : (decide (x < -(2 ^ 63)) || decide (x ≥ 2 ^ 63)) = false := by rw [hx]; decide
    have c2 : (items.isEmpty || x == 1) = false := by rw [h0, hx]; rfl
    have c3 : (decide (x <= 0) || items.isEmpty) = true := by rw [h0, hx]; rfl
    clear hx
    wp_walk
    refine wpAny_ite_false (decide_eq_false (by rw [c1]; exact Bool.false_ne_true)) ?_
    wp_walk
    refine wpAny_ite_false (decide_eq_false (by rw [c2]; exact Bool.false_ne_true)) ?_
    wp_walk
    refine wpAny_ite_true (decide_eq_true c3) ?_
    wp_walk
    exact ⟨_, rfl, h⟩
section
variable {X : Cx}
def mMulN (K : PySem.W.Frag) : R2 := fun x y H Q => match x, y with
  | .ref a, .int k => ∃ xs, SqT K H a xs /\ xs ≠ [] /\ 0 <= k /\ k < 2 ^ 63 /\ xs.length * k.toNat <= sizeLine /\ (k = 1 -> Q (.ref a) H) /\ (k ≠ 1 -> ∀ p, H p = none -> Q (.ref p) (upd H p (.tup (List.replicate k.toNat xs).flatten)))
  | _, _ => False
theorem om_mulN : OpR X (binaryOp .Mult) (mMulN X.K) := by
  intro pins s σ H x y v u Q I rx ry h
  cases x <;> first | exact False.elim h | skip
  cases y <;> first | exact False.elim h | skip
  rename_i l k
  obtain ⟨xs, hH, hx, h1, h2, hz, q1, q2⟩ := h
  by_cases hk : 2 <= k
  . exact op_repT pins s σ H _ _ v u Q I rx ry ⟨l, k, xs, rfl, rfl, hH, hx, hk, h2, hz, q2 (by omega)⟩
  cases rx
  obtain ⟨t, rfl⟩ := ry
  obtain ⟨its, r, ⟨o, e, hc, ⟨n, hd⟩, hn⟩, _⟩ := I.tupleN hH
  obtain ⟨c, dd, da, sl⟩ := o
  cases hc
  cases hd
  cases hn
  have h0 : its.toArray.isEmpty = false := by
    cases its with
    | nil => exact absurd (r.nil_iff.mp rfl) hx
    | cons _ _ => rfl
  have : k = 0 \/ k = 1 := by omega
  rcases this with rfl | rfl
  . refine wpAny_binaryOp_repeat_ref (T := "tuple") (U := "int") (by decide) ⟨_, e, rfl⟩ (fun s' => typeIs_int s' 0 t) noFill_tuple_mul F.fills_int_mul F.slot_int_rmul repeat_tuple F.slot_int_index.lookup
      (call_meets F.slot_int_rmul (typeIs_int s 0 t) F.entry_int_rmul (F.args_int_rmul_2 _ _) (int_rmul_tup 0 t l its.toArray n sl)
        ⟨e, rfl, ⟨_, e, rfl⟩, call_meets F.slot_tuple_mul ⟨_, e, rfl⟩ F.entry_tuple_mul (F.args_tuple_mul_2 _ _) (tup_mul0 l its.toArray n sl 0 rfl t h0) ⟨e, ?_⟩⟩)
    refine ⟨.ref s.heap.objs.size, _, I.laid (t' := s.toks) (o := .tup []) (fun b ob q => Heap.get?_push_of_some _ q) (Nat.le_refl _) ?_, rfl, q2 (by decide) _ (I.hok.fresh (Nat.le_refl _))⟩
    exact ⟨Nat.zero_le _, [], .nil, IsTupN.new _ _⟩
  . refine wpAny_binaryOp_repeat_ref (T := "tuple") (U := "int") (by decide) ⟨_, e, rfl⟩ (fun s' => typeIs_int s' 1 t) noFill_tuple_mul F.fills_int_mul F.slot_int_rmul repeat_tuple F.slot_int_index.lookup
      (call_meets F.slot_int_rmul (typeIs_int s 1 t) F.entry_int_rmul (F.args_int_rmul_2 _ _) (int_rmul_tup 1 t l its.toArray n sl)
        ⟨e, rfl, ⟨_, e, rfl⟩, call_meets F.slot_tuple_mul ⟨_, e, rfl⟩ F.entry_tuple_mul (F.args_tuple_mul_2 _ _) (tup_mul1 l its.toArray n sl 1 rfl t) ⟨e, ?_⟩⟩)
    exact ⟨.ref l, H, I, rfl, q1 rfl⟩
theorem kMulN {K : PySem.W.Frag} (hK : X.K = K := by rfl) : OpR X (binaryOp .Mult) (mMulN K) := hK ▸ om_mulN
theorem rm_mulN {K : PySem.W.Frag} : RMono (mMulN K) := fun x y H Q Q' m q => by
  unfold mMulN at *
  split at q
  . obtain ⟨xs, e1, e2, e3, e4, e5, q1, q2⟩ := q
    exact ⟨xs, e1, e2, e3, e4, e5, fun e => m _ _ (q1 e), fun e p hp => m _ _ (q2 e p hp)⟩
  . exact q.elim
end
def mIsiE (K : PySem.W.Frag) : List V -> Hp -> VK -> Prop := fun xs H Q => mIsiD K xs H Q \/ mIsi K xs H Q
section
variable {X : Cx} {K : PySem.W.Frag}
theorem cm_isiE : CallR X (.builtin "isinstance") (mIsiE X.K) := by
  intro pins s σ H xs us Q I r q
  rcases q with q | q
  . exact cm_isiD pins s σ H xs us Q I r q
  . exact cm_isi pins s σ H xs us Q I r q
theorem kIsiE (hK : X.K = K := by rfl) : CallR X (.builtin "isinstance") (mIsiE K) := hK ▸ cm_isiE
theorem cm_isiE_ : CMono (mIsiE K) := fun xs H Q Q' h q => by
  rcases q with q | q
  . exact .inl (cm_isiD_ xs H Q Q' h q)
  . exact .inr (cm_isi_ xs H Q Q' h q)
end
end L2
namespace HT
open PySem PyProof.Rows
section
variable {prog : Program} {w : World} {A : Around} {E : Value -> Shared -> Prop} {s : Shared}
theorem sliceApplied_back {sl : Addr} {n : Nat} {u : Tok} {Q : Int × Int × Nat -> Shared -> Prop} (hs : s.heap.IsSliceOf sl .none .none (.int (-1) u))
    (h : Q ((n : Int) - 1, -1, n) s) : wpAny (model prog w) A (Builtin.Slice.sliceApplied (.ref sl) (pure (n : Int))) Q E s := by
  obtain ⟨os, hos, hcs, hds⟩ := id hs
  unfold Builtin.Slice.sliceApplied Builtin.Slice.sliceFields
  refine wpAny_bind (wpAny_bind (wpAny_field hos hds (x := .none) rfl (wpAny_bind (wpAny_field hos hds (x := .none) rfl (wpAny_bind (wpAny_field hos hds (x := .int (-1) u) rfl (wpAny_pure ?_)))))))
  refine wpAny_bind (slicePart_int ?_)
  show wpAny _ _ (if ((-1 : Int) == 0) = true then _ else _) _ _ s
  rw [if_neg (by decide)]
  refine wpAny_bind (slicePart_ (o := none) .none (wpAny_bind (slicePart_ (o := none) .none (wpAny_bind (wpAny_pure ?_)))))
  show wpAny _ _ (pure ((n : Int) - 1, (-1 : Int), Builtin.Slice.slicePlaces ((n : Int) - 1) (-1) (-1))) _ _ s
  have e : Builtin.Slice.slicePlaces ((n : Int) - 1) (-1) (-1) = n := by
    unfold Builtin.Slice.slicePlaces
    rw [if_neg (by decide)]
    by_cases h : n = 0
    . subst h; rfl
    . rw [if_pos (by omega), show (-(-1) : Int) = 1 from rfl, Int.ediv_one]
      omega
  rw [e]
  exact wpAny_pure h
theorem back_pick {α : Type} (xs : List α) : ∀ n, n <= xs.length -> ((List.range n).filterMap fun (k : Nat) => xs[((xs.length : Int) - 1 + (k : Int) * (-1)).toNat]?) = xs.reverse.take n
  | 0, _ => rfl
  | n + 1, h => by
    rw [List.range_succ, List.filterMap_append, back_pick xs n (by omega), List.take_add_one]
    congr 1
    have e : ((xs.length : Int) - 1 + (n : Int) * (-1)).toNat = xs.length - 1 - n := by omega
    simp only [List.filterMap_cons, List.filterMap_nil]
    rw [e, List.getElem?_reverse (by omega)]
    cases xs[xs.length - 1 - n]? <;> rfl
theorem getItem_tuple_back {t sl : Addr} {items : Array Value} {u : Tok} {Q : Value -> Shared -> Prop} (ht : IsTup s.heap t items) (hs : s.heap.IsSliceOf sl .none .none (.int (-1) u))
    (h : Q (.ref s.heap.objs.size) { s with heap := s.heap.push { cls := .type "tuple", data := .seq items.toList.reverse.toArray } })
    (hsz : items.size <= sizeLine) : wpAny (model prog w) A (getItem (.ref t) (.ref sl)) Q E s := by
  have htake : sizeOk (.seq items.toList.reverse.toArray) := by
    show items.toList.reverse.toArray.size <= sizeLine
    rw [List.size_toArray, List.length_reverse, Array.length_toList]
    exact hsz
  obtain ⟨os, hos, hcs, hds⟩ := id hs
  have hTs : s.TypeIs (.ref sl) "slice" := ⟨os, hos, hcs⟩
  unfold getItem
  try with_reducible refine wpAny_holding ?_
  first | refine wpAny_bind (wpAny_pure ?_) | skip
  refine wpAny_bind (wpAny_sequenceKey ht.typeIs (by decide) ?_)
  refine wpAny_bind (wpAny_callSpecial?_slot (name := Str.ofString "__getitem__") ht.typeIs PyProof.Rows.slot_tuple_getitem
    (wpAny_call_entry PyProof.Rows.slot_tuple_getitem ht.typeIs entry_tuple_getitem ?_ (args_tuple_getitem _ _)))
  show wpAny _ _ (Builtin.Tuple.tupleItemsOf (.ref t) >>= _) _ _ s
  refine wpAny_bind (tupleItemsOf_ ht ?_)
  refine wpAny_bind (wpAny_typeOf hTs ?_)
  rw [if_pos (by decide)]
  refine wpAny_bind (sliceApplied_back hs ?_)
  have hno : ¬ (((items.size : Int) - 1 == 0 && (-1 : Int) == 1 && items.size == items.size) = true) := by
    intro q
    rw [Bool.and_eq_true, Bool.and_eq_true] at q
    exact absurd q.1.2 (by decide)
  show wpAny _ _ (if ((items.size : Int) - 1 == 0 && (-1 : Int) == 1 && items.size == items.size) = true then _ else _) _ _ s
  have epick : ((List.range items.size).filterMap fun (k : Nat) => items[((items.size : Int) - 1 + (k : Int) * (-1)).toNat]?) = items.toList.reverse := by
    have h1 := back_pick items.toList items.toList.length (Nat.le_refl _)
    rw [List.take_of_length_le (by simp), Array.length_toList] at h1
    rw [<- h1]
    congr 1
    funext k
    rw [Array.getElem?_toList]
  rw [if_neg hno, epick]
  first
    | exact wpAny_bind (m := Builtin.Tuple.tupleExact _) (wpAny_newObj_type (wpAny_pure ⟨_, rfl, wpAny_pure h⟩) htake)
    | exact wpAny_bind (m := Builtin.Tuple.tupleExact _) (wpAny_newObj_type (wpAny_bind (wpAny_pure (wpAny_pure ⟨_, rfl, wpAny_pure h⟩))) htake)
    | exact wpAny_bind (wpAny_bind (m := Builtin.Tuple.tupleExact _) (wpAny_newObj_type (wpAny_pure (wpAny_pure ⟨_, rfl, wpAny_pure h⟩)) htake))
    | exact wpAny_bind (wpAny_bind (m := Builtin.Tuple.tupleExact _) (wpAny_newObj_type (wpAny_pure ⟨_, rfl, wpAny_pure h⟩) htake))
theorem getItem_tuple_whole {t sl : Addr} {items : Array Value} {vl vu : Value} {lo hi : Option Int} {Q : Value -> Shared -> Prop} (ht : IsTup s.heap t items) (hs : s.heap.IsSliceOf sl vl vu .none) (pl : IsPart vl lo) (pu : IsPart vu hi)
    (hw : sIx items.size 0 lo = 0 /\ sIx items.size items.size hi = items.size)
    (h : Q (.ref t) s) : wpAny (model prog w) A (getItem (.ref t) (.ref sl)) Q E s := by
  obtain ⟨os, hos, hcs, hds⟩ := id hs
  have hTs : s.TypeIs (.ref sl) "slice" := ⟨os, hos, hcs⟩
  unfold getItem
  try with_reducible refine wpAny_holding ?_
  first | refine wpAny_bind (wpAny_pure ?_) | skip
  refine wpAny_bind (wpAny_sequenceKey ht.typeIs (by decide) ?_)
  refine wpAny_bind (wpAny_callSpecial?_slot (name := Str.ofString "__getitem__") ht.typeIs PyProof.Rows.slot_tuple_getitem
    (wpAny_call_entry PyProof.Rows.slot_tuple_getitem ht.typeIs entry_tuple_getitem ?_ (args_tuple_getitem _ _)))
  show wpAny _ _ (Builtin.Tuple.tupleItemsOf (.ref t) >>= _) _ _ s
  refine wpAny_bind (tupleItemsOf_ ht ?_)
  refine wpAny_bind (wpAny_typeOf hTs ?_)
  rw [if_pos (by decide)]
  refine wpAny_bind (sliceApplied_gen hs pl pu ?_)
  rw [hw.1, hw.2]
  show wpAny _ _ (if (((0 : Nat) : Int) == 0 && (1 : Int) == 1 && (items.size - 0) == items.size) = true then _ else _) _ _ s
  have hyes : (((0 : Nat) : Int) == 0 && (1 : Int) == 1 && (items.size - 0) == items.size) = true := by simp
  rw [if_pos hyes]
  unfold Builtin.Tuple.tupleIsExact
  refine wpAny_bind (wpAny_bind (wpAny_typeOf ht.typeIs (wpAny_pure ?_)))
  rw [if_pos (by decide)]
  refine wpAny_bind (wpAny_rule ?_)
  first
    | exact wpAny_bind (wpAny_pure ⟨_, rfl, wpAny_pure h⟩)
    | exact wpAny_pure ⟨_, rfl, wpAny_pure h⟩
    | exact wpAny_bind (wpAny_pure (wpAny_pure ⟨_, rfl, wpAny_pure h⟩))
    | exact wpAny_bind (wpAny_bind (wpAny_pure (wpAny_pure ⟨_, rfl, wpAny_pure h⟩)))
end
end HT
namespace L2
open PySem PySem.Spec PyProof.Rows
section
variable {X : Cx} {K : PySem.W.Frag} {e sx : Expr} {te ts : TE} {lo hi : Option Expr} {tl th : TO} {pos p2 : Pos}
theorem Vals.rev : ∀ {xs : List V} {us : List Value}, Vals xs us -> Vals xs.reverse us.reverse
  | _, _, .nil => .nil
  | _, _, .cons h r => by
    rw [List.reverse_cons, List.reverse_cons]
    exact (Vals.rev r).append (.cons h .nil)
def mBack (K : PySem.W.Frag) : V -> Hp -> VK -> Prop := fun x H Q => match x with
  | .ref a => ∃ xs, SqT K H a xs /\ ∀ p, H p = none -> Q (.ref p) (upd H p (.tup xs.reverse))
  | _ => False
def tBack (K : PySem.W.Frag) (te ts : TE) : TE := fun σ H Q => te σ H fun x H1 => ts σ H1 fun k H4 => k = .int (-1) /\ mBack K x H4 Q
theorem kBack (he : PE X e te) (hs : PE X sx ts) (hK : X.K = K := by rfl) : PE X (.Subscript e (.Slice none none (some sx) p2) pos) (tBack K te ts) := by
  subst hK
  intro pins s σ H Q I h
  refine Subscript_ (thn (he pins s σ H _ I h) fun v s1 ⟨x, H1, I1, r1, q1⟩ => ?_)
  refine wpAny_Slice ?_
  refine wpAny_pure (wpAny_pure ?_)
  rw [evalPart_some]
  refine thn (hs pins s1 σ H1 _ I1 q1) fun vk s4 ⟨z, H4, I4, r4, q4⟩ => ?_
  obtain ⟨rfl, q4⟩ := q4
  have I5 : Inv X pins σ H4 { s4 with heap := s4.heap.push { cls := .type "slice", data := .fields #[.none, .none, vk] } } := I4.kept (t' := s4.toks) fun b ob q => Heap.get?_push_of_some _ q
  cases x with
  | ref a =>
    cases r1
    obtain ⟨tk, rfl⟩ := r4
    obtain ⟨xs, hx, q⟩ := q4
    obtain ⟨its, r, ht, hz⟩ := I5.tuple hx
    have hlen : its.toArray.size = xs.length := by rw [List.size_toArray]; exact r.length.symm
    show wpAny (model X.prog X.w) X.A (subscriptTail e (.Slice none none (some sx) p2) (.ref a) (.ref s4.heap.objs.size)) (EP X pins σ Q) X.xe { s4 with heap := s4.heap.push { cls := .type "slice", data := .fields #[.none, .none, .int (-1) tk] } }
    refine tail_any (ops := [.ref a, .ref s4.heap.objs.size]) ht.typeIs PyProof.Rows.slot_tuple_getitem.lookup ?_ (by with_unfolding_all rfl)
    refine HT.getItem_tuple_back ht (Heap.IsSliceOf.new ..) ?_ (by rw [hlen]; exact hz)
    generalize s4.heap.push { cls := .type "slice", data := .fields #[.none, .none, .int (-1) tk] } = h5 at *
    refine ⟨.ref h5.objs.size, _, I5.laid (t' := s4.toks) (o := .tup xs.reverse) (fun b ob q => Heap.get?_push_of_some _ q) (Nat.le_refl _) ?_, rfl, q _ (I5.hok.fresh (Nat.le_refl _))⟩
    exact ⟨by rw [List.length_reverse]; exact hz, its.reverse, r.rev, IsTupN.new _ _⟩
  | _ => exact False.elim q4
def mCutA (K : PySem.W.Frag) : V -> Option Int -> Option Int -> Hp -> VK -> Prop := fun x lo hi H Q => match x with
  | .ref a => ∃ xs, SqT K H a xs /\ ∀ p H', Same H H' -> SqT K H' p (cutV xs lo hi) -> Q (.ref p) H'
  | _ => False
theorem sl_cutA : SlR X (mCutA X.K) := by
  intro pins s σ H x v vl vu lo hi sl Q I rx hs pl pu q
  cases x with
  | ref a =>
    obtain ⟨xs, hx, q⟩ := q
    by_cases hw : HT.sIx xs.length 0 lo = 0 /\ HT.sIx xs.length xs.length hi = xs.length
    . cases rx
      obtain ⟨its, r, ht, hz⟩ := I.tuple hx
      have hlen : its.toArray.size = xs.length := by rw [List.size_toArray]; exact r.length.symm
      refine ⟨"tuple", _, PyProof.Rows.slot_tuple_getitem.lookup, ht.typeIs, ?_⟩
      refine HT.getItem_tuple_whole ht hs pl pu (by rw [hlen]; exact hw) ⟨.ref a, H, I, rfl, q a H (fun _ _ h => h) ?_⟩
      have : cutV xs lo hi = xs := by
        unfold cutV
        rw [hw.1, hw.2, List.drop_zero, List.take_of_length_le (by omega)]
      rw [this]
      exact hx
    . exact sl_tup pins s σ H _ v vl vu lo hi sl Q I rx hs pl pu ⟨a, xs, rfl, hx, hw, fun p hp => q p _ (Same.upd hp) (.of upd_same)⟩
  | _ => exact False.elim q
theorem kCutA (he : PE X e te) (hl : PO X lo tl) (hu : PO X hi th) (hK : X.K = K := by rfl) : PE X (.Subscript e (.Slice lo hi none p2) pos) (tSl (mCutA K) te tl th) := hK ▸ pe_slice sl_cutA he hl hu
theorem em_cutA (h : EMono te) (h1 : OMono tl) (h2 : OMono th) : EMono (tSl (mCutA K) te tl th) := fun σ H Q Q' k q => h _ _ _ _ (fun v _ q => h1 _ _ _ _ (fun _ _ q => h2 _ _ _ _ (fun _ _ q => by
  cases v <;> first | exact False.elim q | (obtain ⟨xs, a, q⟩ := q; exact ⟨xs, a, fun p H' s r => k _ _ (q p H' s r)⟩)) q) q) q
end
end L2
namespace HT
open PySem PyProof.Rows
section
variable {prog : Program} {w : World} {A : Around} {E : Value -> Shared -> Prop} {s : Shared}
theorem cat_none {t b : Addr} {ws : List Value} {Q : Value -> Shared -> Prop} (ht : IsTup s.heap t #[]) (hb : IsTup s.heap b ws.toArray) (h : Q (.ref b) s) :
    wpAny (model prog w) A (binaryOp .Add (.ref t) (.ref b)) Q E s := by
  obtain ⟨⟨cls, dd, data, sl⟩, ho, hc, n, hd⟩ := id ht
  obtain ⟨⟨cls2, dd2, data2, sl2⟩, ho2, hc2, n2, hd2⟩ := id hb
  simp only at hc hd hc2 hd2
  subst hc hd hc2 hd2
  exact concat_meets ⟨_, ho, rfl⟩ ⟨_, ho2, rfl⟩ noFill_tuple_add seq_tuple_add PySem.F.slot_tuple_add PySem.F.entry_tuple_add (PySem.F.args_tuple_add_2 _ _)
    (tuple_addW0 t b #[] ws.toArray n n2 dd dd2 sl sl2 rfl) ⟨ho, ho2, h⟩
end
end HT
namespace L2
open PySem PySem.Spec PyProof.Rows
section
variable {X : Cx} {K : PySem.W.Frag}
def mAddA (K : PySem.W.Frag) : R2 := fun x y H Q => match x, y with
  | .int i, .int j => Q (.int (i + j)) H
  | .ref a, .ref b => rCat (.ref a) (.ref b) H Q \/ ∃ xs ys, SqT K H a xs /\ SqT K H b ys /\ xs.length + ys.length <= sizeLine /\ ∀ p H', Same H H' -> SqT K H' p (xs ++ ys) -> Q (.ref p) H'
  | _, _ => False
theorem om_addA : OpR X (binaryOp .Add) (mAddA X.K) := by
  intro pins s σ H x y v u Q I rx ry q
  cases x <;> cases y <;> first
    | exact False.elim q
    | exact op_add pins s σ H _ _ v u Q I rx ry ⟨_, _, rfl, rfl, q⟩
    | skip
  rename_i a b
  rcases q with q | ⟨xs, ys, ha, hb, hz, q⟩
  . exact op_cat pins s σ H _ _ v u Q I rx ry q
  by_cases hx : xs = []
  . subst hx
    cases rx
    cases ry
    obtain ⟨its, r1, p1, _⟩ := I.tuple ha
    obtain ⟨its2, r2, p2, _⟩ := I.tuple hb
    cases r1
    exact HT.cat_none p1 p2 ⟨.ref b, H, I, rfl, q b H (fun _ _ h => h) hb⟩
  . exact op_catT pins s σ H _ _ v u Q I rx ry ⟨a, b, xs, ys, rfl, rfl, ha, hb, hx, hz, fun e => q a H (fun _ _ h => h) (by rw [e, List.append_nil]; exact ha), fun _ p hp => q p _ (Same.upd hp) (.of upd_same)⟩
theorem kAddA (hK : X.K = K := by rfl) : OpR X (binaryOp .Add) (mAddA K) := hK ▸ om_addA
theorem rm_addA : RMono (mAddA K) := fun x y H Q Q' m q => by
  cases x <;> cases y <;> first
    | exact False.elim q
    | exact m _ _ q
    | skip
  rcases q with ⟨l, b, xs, zs, h1, h2, h3, h4, h5, q⟩ | ⟨xs, ys, ha, hb, hz, q⟩
  . exact .inl ⟨l, b, xs, zs, h1, h2, h3, h4, h5, fun p hp => m _ _ (q p hp)⟩
  . exact .inr ⟨xs, ys, ha, hb, hz, fun p H' a b => m _ _ (q p H' a b)⟩
end
section
variable {X : Cx} {K : PySem.W.Frag}
end
section
variable {X : Cx} {K : PySem.W.Frag} {e sx : Expr} {te ts : TE} {lo hi : Option Expr} {tl th : TO} {pos p2 : Pos}
def mStepL (K : PySem.W.Frag) : V -> Option Int -> Option Int -> V -> Hp -> VK -> Prop := fun x lo hi st H Q => match x, st with
  | .ref a, .int k => ∃ xs, SqL K H a xs /\ k ≠ 0 /\ ∀ ys p, (∀ y ∈ ys, y ∈ xs) -> ys.length <= xs.length -> H p = none -> Q (.ref p) (upd H p (.lst ys))
  | _, _ => False
def tStepL (K : PySem.W.Frag) (te : TE) (tl th : TO) (ts : TE) : TE := fun σ H Q => te σ H fun x H1 => tl σ H1 fun l H2 => th σ H2 fun u H3 => ts σ H3 fun k H4 => mStepL K x l u k H4 Q
theorem kStepL (he : PE X e te) (hl : PO X lo tl) (hu : PO X hi th) (hs : PE X sx ts) (hK : X.K = K := by rfl) : PE X (.Subscript e (.Slice lo hi (some sx) p2) pos) (tStepL K te tl th ts) := by
  subst hK
  intro pins s σ H Q I h
  refine Subscript_ (thn (he pins s σ H _ I h) fun v s1 ⟨x, H1, I1, r1, q1⟩ => ?_)
  refine wpAny_Slice (thn (hl pins s1 σ H1 _ I1 q1) fun vl s2 ⟨l, H2, I2, pl, q2⟩ => thn (hu pins s2 σ H2 _ I2 q2) fun vu s3 ⟨u, H3, I3, pu, q3⟩ => ?_)
  rw [evalPart_some]
  refine thn (hs pins s3 σ H3 _ I3 q3) fun vk s4 ⟨z, H4, I4, r4, q4⟩ => ?_
  have I5 : Inv X pins σ H4 { s4 with heap := s4.heap.push { cls := .type "slice", data := .fields #[vl, vu, vk] } } := I4.kept (t' := s4.toks) fun b ob q => Heap.get?_push_of_some _ q
  replace q4 : mStepL X.K x l u z H4 Q := q4
  cases x with
  | ref a =>
    cases z with
    | int k =>
      cases r1
      obtain ⟨tk, rfl⟩ := r4
      obtain ⟨xs, hx, hk, q⟩ := q4
      obtain ⟨its, r, ht, hz⟩ := I5.list hx
      have hlen := r.length
      show wpAny (model X.prog X.w) X.A (subscriptTail e (.Slice lo hi (some sx) p2) (.ref a) (.ref s4.heap.objs.size)) (EP X pins σ Q) X.xe { s4 with heap := s4.heap.push { cls := .type "slice", data := .fields #[vl, vu, .int k tk] } }
      refine tail_any (ops := [.ref a, .ref s4.heap.objs.size]) ht.isList.typeIs slot_list_getitem.lookup ?_ (by with_unfolding_all rfl)
      refine wpAny_getItem_list_slice ht.isList (Heap.IsSliceOf.new ..) pl pu (.int k tk) (by simpa using hk) ?_ (by rw [List.size_toArray] <;> omega)
      have hsz := slicePick_size_le its.toArray l u (some k)
      unfold slicePick at hsz ⊢
      generalize sliceRange _ _ _ = rng at *
      have e1 : (rng.filterMap fun k => its.toArray[k]?) = rng.filterMap fun k => its[k]? := by
        congr 1
        funext k
        rw [List.getElem?_toArray]
      rw [e1] at hsz ⊢
      have hp := vals_pick r (fun k : Nat => k) rng
      rw [List.size_toArray, List.size_toArray] at hsz
      have hl2 := hp.length
      generalize s4.heap.push { cls := .type "slice", data := .fields #[vl, vu, .int k tk] } = h5 at *
      refine ⟨.ref h5.objs.size, _, I5.laid (t' := s4.toks) (o := .lst (rng.filterMap fun k => xs[k]?)) (fun b ob q => Heap.get?_push_of_some _ q) (Nat.le_refl _) ?_, rfl, q _ _ ?_ (by omega) (I5.hok.fresh (Nat.le_refl _))⟩
      . exact ⟨by omega, _, 0, hp, Heap.get?_push_size _ rfl⟩
      . intro y hy
        obtain ⟨i, _, h⟩ := List.mem_filterMap.mp hy
        exact List.mem_of_getElem? h
    | _ => exact False.elim q4
  | _ => exact False.elim q4
end
abbrev BV := List (List Bool × Addr × V)
abbrev BVr : BV -> List (List Bool × Addr × Value) -> Prop := Paired fun p q => p.1 = q.1 /\ p.2.1 = q.2.1 /\ RelV p.2.2 q.2.2
def dV (P : Program) (w : World) (a : Addr) (kvs : BV) : HO := .ext fun h => ∃ xs o es ep, BVr kvs xs /\ h.get? a = some o /\ o.ExactDict /\ o.data = .dict es ep /\ es.toList = xs.map (entryOfKey (tupleKind (boolKind P w))) /\ (xs.map (·.1)).Nodup /\ xs.length <= sizeLine /\ (a == sysModules) = false
def KeysV (H : Hp) (kvs : BV) : Prop := ∀ q ∈ kvs, H q.2.1 = some (.tup (q.1.map V.bl))
section
variable {P : Program} {w : World} {H : Hp} {h : Heap} {a : Addr}
end
theorem KeysV.same {H H' : Hp} {kvs : BV} (h : KeysV H kvs) (s : ∀ b ys, H b = some (.tup ys) -> H' b = some (.tup ys)) : KeysV H' kvs := fun q hq => s _ _ (h q hq)
theorem KeysV.upd {P : Program} {w : World} {H : Hp} {kvs k1 : BV} {a : Addr} {o : HO} (h : KeysV H kvs) (e : H a = some (dV P w a k1)) : KeysV (upd H a o) kvs := fun q hq => by
  have := h q hq
  rw [upd_ne (fun z => by rw [z, e] at this; exact nomatch Option.some.inj this)]
  exact this
section
variable {X : Cx} {o i e f value : Expr} {pos pos' tpos apos cpos : Pos} {td ty tx tv : TE}
end
section
variable {X : Cx} {P : Program} {w : World} {o i e f : Expr} {pos apos cpos : Pos} {td ty tx : TE}
end
section
variable {prog : Program} {w : World} {A : Around} {E : Value -> Shared -> Prop} {s : Shared} {d it : Addr} {o : Obj} {es : Array DictEntry} {ep i : Nat}
end
section
variable {X : Cx} {pins : List (Addr × Obj)} {σ : St} {H : Hp} {s : Shared}
theorem BVr.get {kvs : BV} {xs : List (List Bool × Addr × Value)} (r : BVr kvs xs) : ∀ {i : Nat} {q : List Bool × Addr × V}, kvs[i]? = some q -> ∃ x, xs[i]? = some x /\ x.2.1 = q.2.1 := by
  induction r with
  | nil => intro i q e; simp at e
  | @cons a b l1 l2 h t ih =>
    intro i q e
    cases i with
    | zero =>
      simp at e; subst e
      exact ⟨b, by simp, h.2.1.symm⟩
    | succ i =>
      obtain ⟨v, h1, h2⟩ := ih (i := i) (q := q) (by simpa using e)
      exact ⟨v, by simpa using h1, h2⟩
end
end L2
namespace Mine
open PySem L2
def top (i : Nat) : Stmt := PySem.Challenge.pw_flips_k29_papers_with_one_fault.main.body.getD i (.Pass ⟨0, 0, 0, 0⟩)
abbrev s_is_whole : Stmt := top 1
abbrev s_is_below : Stmt := top 2
abbrev s_two_to : Stmt := top 3
abbrev s_power_of : Stmt := top 4
abbrev s_is_place : Stmt := top 7
abbrev s_is_table : Stmt := top 8
abbrev s_switches_of : Stmt := top 9
abbrev s_within : Stmt := top 10
abbrev s_many_in : Stmt := top 11
abbrev s_sets_of : Stmt := top 12
abbrev s_hangs_on : Stmt := top 14
abbrev s_is_pair : Stmt := top 16
abbrev s_sum_of : Stmt := top 17
abbrev s_weights_of : Stmt := top 18
abbrev s_weights_within : Stmt := top 19
abbrev s_sum_from : Stmt := top 20
abbrev s_times_signs : Stmt := top 21
abbrev s_crossed : Stmt := top 22
abbrev s_met : Stmt := top 24
abbrev s_lets_near : Stmt := top 27
abbrev s_has_paper_form : Stmt := top 28
abbrev s_lead_of : Stmt := top 29
abbrev s_covers_all : Stmt := top 30
abbrev s_is_so : Stmt := top 31
abbrev s_setting_by_setting : Stmt := top 32
abbrev s__law_feed : Stmt := top 34
abbrev s__law_draw : Stmt := top 35
abbrev s__law_many : Stmt := top 36
abbrev s__law_table : Stmt := top 37
abbrev s__law_sum : Stmt := top 38
abbrev s__law_sets : Stmt := top 39
abbrev s__law_best : Stmt := top 40
abbrev s__law_nearest : Stmt := top 41
abbrev s__law_hung : Stmt := top 42
abbrev s__law_is_set : Stmt := top 43
abbrev s__law_reason : Stmt := top 44
abbrev s__law_lets : Stmt := top 45
abbrev s__law_fair : Stmt := top 46
abbrev s__law_kinds_bent : Stmt := top 47
abbrev s__law_bent : Stmt := top 48
abbrev s_law : Stmt := top 49
local macro_rules | `(tactic| walk_at "f") => `(tactic| exact ⟨rfl, rfl, rfl, by decide +kernel, rfl, by decide +kernel, by decide +kernel⟩)
theorem sc_is_whole : FnScope ["thing"] ["thing"] (defScope s_is_whole) := by walk_at "f"
theorem sc_is_below : FnScope ["bound", "thing"] ["bound", "thing"] (defScope s_is_below) := by walk_at "f"
theorem sc_two_to : FnScope ["n"] ["n"] (defScope s_two_to) := by walk_at "f"
theorem sc_power_of : FnScope ["base", "times", "power", "step"] ["base", "times"] (defScope s_power_of) := by walk_at "f"
theorem sc_is_place : FnScope ["n", "thing"] ["n", "thing"] (defScope s_is_place) := by walk_at "f"
theorem sc_is_table : FnScope ["thing"] ["thing"] (defScope s_is_table) := by walk_at "f"
theorem sc_switches_of : FnScope ["table"] ["table"] (defScope s_switches_of) := by walk_at "f"
theorem sc_within : FnScope ["subset", "other"] ["subset", "other"] (defScope s_within) := by walk_at "f"
theorem sc_many_in : FnScope ["subset", "many", "rest"] ["subset"] (defScope s_many_in) := by walk_at "f"
theorem sc_sets_of : FnScope ["n", "k", "many"] ["n", "k"] (defScope s_sets_of) := by walk_at "f"
theorem sc_hangs_on : FnScope ["one", "switches", "subset", "weight"] ["one"] (defScope s_hangs_on) := by walk_at "f"
theorem sc_is_pair : FnScope ["thing"] ["thing"] (defScope s_is_pair) := by walk_at "f"
theorem sc_sum_of : FnScope ["table", "values"] ["table"] (defScope s_sum_of) := by walk_at "f"
theorem sc_weights_of : FnScope ["one", "weights", "subset", "weight"] ["one"] (defScope s_weights_of) := by walk_at "f"
theorem sc_weights_within : FnScope ["one", "outer"] ["one", "outer"] (defScope s_weights_within) := by walk_at "f"
theorem sc_sum_from : FnScope ["n", "weights"] ["n", "weights"] (defScope s_sum_from) := by walk_at "f"
theorem sc_times_signs : FnScope ["numbers", "sums", "step"] ["numbers"] (defScope s_times_signs) := by walk_at "f"
theorem sc_crossed : FnScope ["numbers", "step", "place"] ["numbers", "step", "place"] (defScope s_crossed) := by walk_at "f"
theorem sc_met : FnScope ["terms", "weights", "apart"] ["terms", "weights", "apart"] (defScope s_met) := by walk_at "f"
theorem sc_lets_near : FnScope ["one", "k", "thing", "total", "lead"] ["one", "k", "thing"] (defScope s_lets_near) := by walk_at "f"
theorem sc_has_paper_form : FnScope ["n", "thing"] ["n", "thing"] (defScope s_has_paper_form) := by walk_at "f"
theorem sc_lead_of : FnScope ["one", "total"] ["one", "total"] (defScope s_lead_of) := by walk_at "f"
theorem sc_covers_all : FnScope ["n", "k", "covers"] ["n", "k", "covers"] (defScope s_covers_all) := by walk_at "f"
theorem sc_is_so : FnScope ["one", "lead", "cover", "weights"] ["one", "lead", "cover"] (defScope s_is_so) := by walk_at "f"
theorem sc_setting_by_setting : FnScope ["weights", "switches"] ["weights", "switches"] (defScope s_setting_by_setting) := by walk_at "f"
theorem sc__law_feed : FnScope ["_law_script", "_law_k", "_law_cell"] ["_law_script", "_law_k"] (defScope s__law_feed) := by walk_at "f"
theorem sc__law_draw : FnScope ["_law_feed_here", "_law_many_here", "_law_figure", "_law_number"] ["_law_feed_here", "_law_many_here"] (defScope s__law_draw) := by walk_at "f"
theorem sc__law_many : FnScope ["_law_number", "_law_found"] ["_law_number"] (defScope s__law_many) := by walk_at "f"
theorem sc__law_table : FnScope ["_law_feed_here", "_law_n", "_law_size", "_law_way", "_law_some", "_law_answers", "_law_table_here", "_law_least", "_law_k", "_law_p"] ["_law_feed_here", "_law_n"] (defScope s__law_table) := by walk_at "f"
theorem sc__law_sum : FnScope ["_law_table_here", "_law_weights", "_law_step", "_law_p", "_law_one", "_law_other", "_law_terms"] ["_law_table_here"] (defScope s__law_sum) := by walk_at "f"
theorem sc__law_sets : FnScope ["_law_n", "_law_k"] ["_law_n", "_law_k"] (defScope s__law_sets) := by walk_at "f"
theorem sc__law_best : FnScope ["_law_table_here", "_law_some", "_law_counts", "_law_p", "_law_near"] ["_law_table_here", "_law_some"] (defScope s__law_best) := by walk_at "f"
theorem sc__law_nearest : FnScope ["_law_table_here", "_law_k", "_law_found", "_law_some", "_law_other"] ["_law_table_here", "_law_k"] (defScope s__law_nearest) := by walk_at "f"
theorem sc__law_hung : FnScope ["_law_table_here", "_law_found", "_law_step"] ["_law_table_here"] (defScope s__law_hung) := by walk_at "f"
theorem sc__law_is_set : FnScope ["_law_size", "_law_thing"] ["_law_size", "_law_thing"] (defScope s__law_is_set) := by walk_at "f"
theorem sc__law_reason : FnScope ["_law_table_here", "_law_agreed", "_law_some", "_law_reason_here", "_law_terms", "_law_counts", "_law_p"] ["_law_table_here", "_law_agreed", "_law_some", "_law_reason_here"] (defScope s__law_reason) := by walk_at "f"
theorem sc__law_lets : FnScope ["_law_table_here", "_law_k", "_law_thing", "_law_size", "_law_near", "_law_covers", "_law_agreed", "_law_one", "_law_some"] ["_law_table_here", "_law_k", "_law_thing"] (defScope s__law_lets) := by walk_at "f"
theorem sc__law_fair : FnScope ["_law_table_here", "_law_k", "_law_near", "_law_differences", "_law_agreed", "_law_covers", "_law_some", "_law_so"] ["_law_table_here", "_law_k"] (defScope s__law_fair) := by walk_at "f"
theorem sc__law_kinds_bent : FnScope ["_law_paper", "_law_size", "_law_near", "_law_covers", "_law_first", "_law_found", "_law_one", "_law_reason_here"] ["_law_paper", "_law_size"] (defScope s__law_kinds_bent) := by walk_at "f"
theorem sc__law_bent : FnScope ["_law_feed_here", "_law_table_here", "_law_k", "_law_size", "_law_near", "_law_covers", "_law_found", "_law_contrary", "_law_wider", "_law_by_weights", "_law_at"] ["_law_feed_here", "_law_table_here", "_law_k"] (defScope s__law_bent) := by walk_at "f"
theorem sc_law : FnScope ["_law_script", "_law_k", "_law_feed_here", "_law_table_here", "_law_given", "_law_few", "_law_bent_here", "_law_at", "_law_one", "_law_found"] ["_law_script"] (defScope s_law) := by walk_at "f"
set_option genInjectivity false
set_option genSizeOf false
structure Txt (K : W.Frag) (mg : Str -> Option Value) where
  f_is_whole : Addr
  d_is_whole : FuncData
  F_is_whole : Fun K "is_whole" "is_whole" s_is_whole f_is_whole d_is_whole
  b_is_whole : Binds K d_is_whole ["thing"] []
  m_is_whole : mg "is_whole" = some (.ref f_is_whole)
  f_is_below : Addr
  d_is_below : FuncData
  F_is_below : Fun K "is_below" "is_below" s_is_below f_is_below d_is_below
  b_is_below : Binds K d_is_below ["bound", "thing"] []
  m_is_below : mg "is_below" = some (.ref f_is_below)
  f_two_to : Addr
  d_two_to : FuncData
  F_two_to : Fun K "two_to" "two_to" s_two_to f_two_to d_two_to
  b_two_to : Binds K d_two_to ["n"] []
  m_two_to : mg "two_to" = some (.ref f_two_to)
  f_power_of : Addr
  d_power_of : FuncData
  F_power_of : Fun K "power_of" "power_of" s_power_of f_power_of d_power_of
  b_power_of : Binds K d_power_of ["base", "times"] []
  m_power_of : mg "power_of" = some (.ref f_power_of)
  f_is_place : Addr
  d_is_place : FuncData
  F_is_place : Fun K "is_place" "is_place" s_is_place f_is_place d_is_place
  b_is_place : Binds K d_is_place ["n", "thing"] []
  m_is_place : mg "is_place" = some (.ref f_is_place)
  f_is_table : Addr
  d_is_table : FuncData
  F_is_table : Fun K "is_table" "is_table" s_is_table f_is_table d_is_table
  b_is_table : Binds K d_is_table ["thing"] []
  m_is_table : mg "is_table" = some (.ref f_is_table)
  f_switches_of : Addr
  d_switches_of : FuncData
  F_switches_of : Fun K "switches_of" "switches_of" s_switches_of f_switches_of d_switches_of
  b_switches_of : Binds K d_switches_of ["table"] []
  m_switches_of : mg "switches_of" = some (.ref f_switches_of)
  f_within : Addr
  d_within : FuncData
  F_within : Fun K "within" "within" s_within f_within d_within
  b_within : Binds K d_within ["subset", "other"] []
  m_within : mg "within" = some (.ref f_within)
  f_many_in : Addr
  d_many_in : FuncData
  F_many_in : Fun K "many_in" "many_in" s_many_in f_many_in d_many_in
  b_many_in : Binds K d_many_in ["subset"] []
  m_many_in : mg "many_in" = some (.ref f_many_in)
  f_sets_of : Addr
  d_sets_of : FuncData
  F_sets_of : Fun K "sets_of" "sets_of" s_sets_of f_sets_of d_sets_of
  b_sets_of : Binds K d_sets_of ["n", "k"] []
  m_sets_of : mg "sets_of" = some (.ref f_sets_of)
  f_hangs_on : Addr
  d_hangs_on : FuncData
  F_hangs_on : Fun K "hangs_on" "hangs_on" s_hangs_on f_hangs_on d_hangs_on
  b_hangs_on : Binds K d_hangs_on ["one"] []
  m_hangs_on : mg "hangs_on" = some (.ref f_hangs_on)
  f_is_pair : Addr
  d_is_pair : FuncData
  F_is_pair : Fun K "is_pair" "is_pair" s_is_pair f_is_pair d_is_pair
  b_is_pair : Binds K d_is_pair ["thing"] []
  m_is_pair : mg "is_pair" = some (.ref f_is_pair)
  f_sum_of : Addr
  d_sum_of : FuncData
  F_sum_of : Fun K "sum_of" "sum_of" s_sum_of f_sum_of d_sum_of
  b_sum_of : Binds K d_sum_of ["table"] []
  m_sum_of : mg "sum_of" = some (.ref f_sum_of)
  f_weights_of : Addr
  d_weights_of : FuncData
  F_weights_of : Fun K "weights_of" "weights_of" s_weights_of f_weights_of d_weights_of
  b_weights_of : Binds K d_weights_of ["one"] []
  m_weights_of : mg "weights_of" = some (.ref f_weights_of)
  f_weights_within : Addr
  d_weights_within : FuncData
  F_weights_within : Fun K "weights_within" "weights_within" s_weights_within f_weights_within d_weights_within
  b_weights_within : Binds K d_weights_within ["one", "outer"] []
  m_weights_within : mg "weights_within" = some (.ref f_weights_within)
  f_sum_from : Addr
  d_sum_from : FuncData
  F_sum_from : Fun K "sum_from" "sum_from" s_sum_from f_sum_from d_sum_from
  b_sum_from : Binds K d_sum_from ["n", "weights"] []
  m_sum_from : mg "sum_from" = some (.ref f_sum_from)
  f_times_signs : Addr
  d_times_signs : FuncData
  F_times_signs : Fun K "times_signs" "times_signs" s_times_signs f_times_signs d_times_signs
  b_times_signs : Binds K d_times_signs ["numbers"] []
  m_times_signs : mg "times_signs" = some (.ref f_times_signs)
  f_crossed : Addr
  d_crossed : FuncData
  F_crossed : Fun K "crossed" "crossed" s_crossed f_crossed d_crossed
  b_crossed : Binds K d_crossed ["numbers", "step", "place"] []
  m_crossed : mg "crossed" = some (.ref f_crossed)
  f_met : Addr
  d_met : FuncData
  F_met : Fun K "met" "met" s_met f_met d_met
  b_met : Binds K d_met ["terms", "weights", "apart"] []
  m_met : mg "met" = some (.ref f_met)
  f_lets_near : Addr
  d_lets_near : FuncData
  F_lets_near : Fun K "lets_near" "lets_near" s_lets_near f_lets_near d_lets_near
  b_lets_near : Binds K d_lets_near ["one", "k", "thing"] []
  m_lets_near : mg "lets_near" = some (.ref f_lets_near)
  f_has_paper_form : Addr
  d_has_paper_form : FuncData
  F_has_paper_form : Fun K "has_paper_form" "has_paper_form" s_has_paper_form f_has_paper_form d_has_paper_form
  b_has_paper_form : Binds K d_has_paper_form ["n", "thing"] []
  m_has_paper_form : mg "has_paper_form" = some (.ref f_has_paper_form)
  f_lead_of : Addr
  d_lead_of : FuncData
  F_lead_of : Fun K "lead_of" "lead_of" s_lead_of f_lead_of d_lead_of
  b_lead_of : Binds K d_lead_of ["one", "total"] []
  m_lead_of : mg "lead_of" = some (.ref f_lead_of)
  f_covers_all : Addr
  d_covers_all : FuncData
  F_covers_all : Fun K "covers_all" "covers_all" s_covers_all f_covers_all d_covers_all
  b_covers_all : Binds K d_covers_all ["n", "k", "covers"] []
  m_covers_all : mg "covers_all" = some (.ref f_covers_all)
  f_is_so : Addr
  d_is_so : FuncData
  F_is_so : Fun K "is_so" "is_so" s_is_so f_is_so d_is_so
  b_is_so : Binds K d_is_so ["one", "lead", "cover"] []
  m_is_so : mg "is_so" = some (.ref f_is_so)
  f_setting_by_setting : Addr
  d_setting_by_setting : FuncData
  F_setting_by_setting : Fun K "setting_by_setting" "setting_by_setting" s_setting_by_setting f_setting_by_setting d_setting_by_setting
  b_setting_by_setting : Binds K d_setting_by_setting ["weights", "switches"] []
  m_setting_by_setting : mg "setting_by_setting" = some (.ref f_setting_by_setting)
  f__law_feed : Addr
  d__law_feed : FuncData
  F__law_feed : Fun K "_law_feed" "_law_feed" s__law_feed f__law_feed d__law_feed
  b__law_feed : Binds K d__law_feed ["_law_script", "_law_k"] []
  m__law_feed : mg "_law_feed" = some (.ref f__law_feed)
  f__law_draw : Addr
  d__law_draw : FuncData
  F__law_draw : Fun K "_law_draw" "_law_draw" s__law_draw f__law_draw d__law_draw
  b__law_draw : Binds K d__law_draw ["_law_feed_here", "_law_many_here"] []
  m__law_draw : mg "_law_draw" = some (.ref f__law_draw)
  f__law_many : Addr
  d__law_many : FuncData
  F__law_many : Fun K "_law_many" "_law_many" s__law_many f__law_many d__law_many
  b__law_many : Binds K d__law_many ["_law_number"] []
  m__law_many : mg "_law_many" = some (.ref f__law_many)
  f__law_table : Addr
  d__law_table : FuncData
  F__law_table : Fun K "_law_table" "_law_table" s__law_table f__law_table d__law_table
  b__law_table : Binds K d__law_table ["_law_feed_here", "_law_n"] []
  m__law_table : mg "_law_table" = some (.ref f__law_table)
  f__law_sum : Addr
  d__law_sum : FuncData
  F__law_sum : Fun K "_law_sum" "_law_sum" s__law_sum f__law_sum d__law_sum
  b__law_sum : Binds K d__law_sum ["_law_table_here"] []
  m__law_sum : mg "_law_sum" = some (.ref f__law_sum)
  f__law_sets : Addr
  d__law_sets : FuncData
  F__law_sets : Fun K "_law_sets" "_law_sets" s__law_sets f__law_sets d__law_sets
  b__law_sets : Binds K d__law_sets ["_law_n", "_law_k"] []
  m__law_sets : mg "_law_sets" = some (.ref f__law_sets)
  f__law_best : Addr
  d__law_best : FuncData
  F__law_best : Fun K "_law_best" "_law_best" s__law_best f__law_best d__law_best
  b__law_best : Binds K d__law_best ["_law_table_here", "_law_some"] []
  m__law_best : mg "_law_best" = some (.ref f__law_best)
  f__law_nearest : Addr
  d__law_nearest : FuncData
  F__law_nearest : Fun K "_law_nearest" "_law_nearest" s__law_nearest f__law_nearest d__law_nearest
  b__law_nearest : Binds K d__law_nearest ["_law_table_here", "_law_k"] []
  m__law_nearest : mg "_law_nearest" = some (.ref f__law_nearest)
  f__law_hung : Addr
  d__law_hung : FuncData
  F__law_hung : Fun K "_law_hung" "_law_hung" s__law_hung f__law_hung d__law_hung
  b__law_hung : Binds K d__law_hung ["_law_table_here"] []
  m__law_hung : mg "_law_hung" = some (.ref f__law_hung)
  f__law_is_set : Addr
  d__law_is_set : FuncData
  F__law_is_set : Fun K "_law_is_set" "_law_is_set" s__law_is_set f__law_is_set d__law_is_set
  b__law_is_set : Binds K d__law_is_set ["_law_size", "_law_thing"] []
  m__law_is_set : mg "_law_is_set" = some (.ref f__law_is_set)
  f__law_reason : Addr
  d__law_reason : FuncData
  F__law_reason : Fun K "_law_reason" "_law_reason" s__law_reason f__law_reason d__law_reason
  b__law_reason : Binds K d__law_reason ["_law_table_here", "_law_agreed", "_law_some", "_law_reason_here"] []
  m__law_reason : mg "_law_reason" = some (.ref f__law_reason)
  f__law_lets : Addr
  d__law_lets : FuncData
  F__law_lets : Fun K "_law_lets" "_law_lets" s__law_lets f__law_lets d__law_lets
  b__law_lets : Binds K d__law_lets ["_law_table_here", "_law_k", "_law_thing"] []
  m__law_lets : mg "_law_lets" = some (.ref f__law_lets)
  f__law_fair : Addr
  d__law_fair : FuncData
  F__law_fair : Fun K "_law_fair" "_law_fair" s__law_fair f__law_fair d__law_fair
  b__law_fair : Binds K d__law_fair ["_law_table_here", "_law_k"] []
  m__law_fair : mg "_law_fair" = some (.ref f__law_fair)
  f__law_kinds_bent : Addr
  d__law_kinds_bent : FuncData
  F__law_kinds_bent : Fun K "_law_kinds_bent" "_law_kinds_bent" s__law_kinds_bent f__law_kinds_bent d__law_kinds_bent
  b__law_kinds_bent : Binds K d__law_kinds_bent ["_law_paper", "_law_size"] []
  m__law_kinds_bent : mg "_law_kinds_bent" = some (.ref f__law_kinds_bent)
  f__law_bent : Addr
  d__law_bent : FuncData
  F__law_bent : Fun K "_law_bent" "_law_bent" s__law_bent f__law_bent d__law_bent
  b__law_bent : Binds K d__law_bent ["_law_feed_here", "_law_table_here", "_law_k"] []
  m__law_bent : mg "_law_bent" = some (.ref f__law_bent)
  f_law : Addr
  d_law : FuncData
  F_law : Fun K "law" "law" s_law f_law d_law
  b_law : Binds K d_law ["_law_script"] []
  m_law : mg "law" = some (.ref f_law)
  z_abs : mg "abs" = none
  z_all : mg "all" = none
  z_any : mg "any" = none
  z_bool : mg "bool" = none
  z_enumerate : mg "enumerate" = none
  z_int : mg "int" = none
  z_isinstance : mg "isinstance" = none
  z_len : mg "len" = none
  z_list : mg "list" = none
  z_max : mg "max" = none
  z_min : mg "min" = none
  z_range : mg "range" = none
  z_str : mg "str" = none
  z_sum : mg "sum" = none
  z_tuple : mg "tuple" = none
  a_TABLE_LENGTHS : Addr
  c_TABLE_LENGTHS : mg "TABLE_LENGTHS" = some (.ref a_TABLE_LENGTHS)
  q_TABLE_LENGTHS : ∀ H : Hp, SqT K H a_TABLE_LENGTHS [.int 2, .int 4, .int 8, .int 16, .int 32, .int 64]
  t_MOST_COVERS : Tok
  c_MOST_COVERS : mg "MOST_COVERS" = some (.int 64 t_MOST_COVERS)
set_option genInjectivity true
set_option genSizeOf true
section
variable {P : Program} {w : World} {K : W.Frag} {mg : Str -> Option Value} {base : Heap} (T : Txt K mg)
local macro_rules | `(tactic| walk_at "sm") => `(tactic| repeat' with_reducible first | exact sm_next | apply sm_seq | apply sm_asg | apply sm_ret | apply sm_drop | apply sm_if | apply sm_while | apply sm_for | exact em_var | exact em_c | apply em_op | apply em_un | apply em_not | apply em_cb | apply em_call | apply em_tup | apply em_lst | apply em_comp | exact rm_add | exact rm_addA | exact rm_sub | exact rm_mul | exact rm_div | exact rm_mod | exact rm_bit | exact um_neg_ | exact rm_cmp | exact rm_eq | exact rm_ix | apply tm_b | apply tm_or | apply tm_not | exact am_nil | apply am_cons | exact cm_len_ | exact cm_min_ | exact cm_int_ | exact cm_tuple_ | exact cm_list_ | exact cm_isi_ | exact cm_isiD_ | exact cm_isiE_ | apply im_seq | apply im_rng1 | apply gm_sub | exact gm_name | apply gms_cons | exact gms_nil | exact sm_set | exact spDraw_mono | exact rm_is | apply em_cutA | exact em_dnewK | apply em_dget2 | apply sm_dput | exact rm_mulN | exact rm_in | apply em_bm0 | exact bm_bitlen | apply em_bm | exact bm_append | exact cm_sum_ | apply gm_seqs | exact om_none | apply om_some | assumption)
theorem vw {X : Cx} (i : Nat) {x : Str} {pos : Pos} (h : X.N[i]? = some x /\ Vis X.env.scope x /\ (x == ("__debug__" : Str)) = false /\ (x == ("__classdict__" : Str)) = false) : PE X (.Name x pos) (vVar i) := vv i h.1 h.2.1 h.2.2.1 h.2.2.2
theorem pa1 {X : Cx} {e : PySem.Expr} {te : TE} (ha : PE X e te) (hs : starEach [e] X.env = [(false, eval e X.env)]) : PA X [e] (tCons te tNil) := pa_cons ha pa_nil hs
local macro_rules | `(tactic| walk_at "v") => `(tactic| exact ⟨by rfl, by first | exact Or.inl rfl | exact Or.inr (Or.inl rfl) | exact Or.inr (Or.inr rfl), by decide, by decide⟩)
local macro_rules | `(tactic| walk_at "m") => `(tactic| with_reducible first | refine Exists.imp fun _ => ?_ | refine And.imp_right ?_ | refine forall_imp fun _ => ?_)
local macro_rules | `(tactic| walk_at "o") => `(tactic| first | exact Or.inl rfl | exact Or.inr (Or.inl rfl) | exact Or.inr (Or.inr rfl))
local macro_rules | `(tactic| walk_at "i") => `(tactic| first | exact .inl rfl | exact .inr rfl | assumption)
local macro_rules | `(tactic| walk_at "e") => `(tactic| first | exact Or.inl rfl | exact Or.inr rfl)
local macro_rules | `(tactic| walk_at "n") => `(tactic| first | exact nobehind _ (by decide) (by decide) | rfl)
def sp_many : Sp := fun vs H Q _ => match vs with
  | [.int x] => ∃ a : Nat, x = a /\ a < 2 ^ 64 /\ Q (.int (many a)) H
  | _ => False
theorem sp_many_mono : SpMono sp_many := fun vs H Q Q' E h q => by
  unfold sp_many at *
  split at q
  . revert q; repeat' first | exact h _ _ | exact newL_mono h | walk_at "m"
  . exact q.elim
theorem ok__law_many : FnOk P w K mg base CX0 1 T.f__law_many T.d__law_many ["_law_number"] sp_many := by
  refine T.F__law_many.ok sc__law_many (fun vs H Q E h => by unfold sp_many at h; split at h <;> first | rfl | exact h.elim) (fun cdv A outer s H vs Q E hr h => ?_)
  have hu := hu60 hr
  match vs, h with
  | [.int x], h =>
  obtain ⟨a, e1, h1, q⟩ := h
  subst e1
  refine ⟨_, (@pss_cons _ _ _ _ _ (@ps_set _ _ 1 _ _ _ _ sc__law_many.nd rfl (by walk_at "e") (@pe_int _ _ _ _) (by rfl) (by walk_at "i")) (@pss_cons _ _ _ _ _ (@ps_whileM _ _ _ _ _ _ PassesOwn.never (@tu_cmp _ _ _ _ _ _ _ _ om_gt (@vw _ 0 _ _ (by walk_at "v")) (@pe_int _ _ _ _) (by walk_at "n")) (@pss_cons _ _ _ _ _ (@ps_set _ _ 1 _ _ _ _ sc__law_many.nd rfl (by walk_at "e") (@pe_op _ _ _ _ _ _ _ _ (kAdd (K := K)) (@vw _ 1 _ _ (by walk_at "v")) (@pe_op _ _ _ _ _ _ _ _ om_mod (@vw _ 0 _ _ (by walk_at "v")) (@pe_int _ _ _ _))) (by rfl) (by walk_at "i")) (@pss_one _ _ _ (@ps_set _ _ 0 _ _ _ _ sc__law_many.nd rfl (by walk_at "e") (@pe_op _ _ _ _ _ _ _ _ om_div (@vw _ 0 _ _ (by walk_at "v")) (@pe_int _ _ _ _)) (by rfl) (by walk_at "i"))))) (@pss_one _ _ _ (@ps_ret _ _ _ _ (@vw _ 1 _ _ (by walk_at "v")))))), ?_⟩
  refine ⟨fun f σ H' => H' = H /\ ∃ m r : Nat, σ = [some (.int r), some (.int m)] /\ r < 2 ^ f /\ m + manyF f r = many a, ⟨64, rfl, 0, a, rfl, h1, by unfold many; exact Nat.zero_add _⟩, ?_⟩
  rintro f σ H' ⟨rfl, m, r, rfl, hr1, hm⟩
  refine ite2 (fun e => ?_) (fun e => ?_)
  . have r0 : 0 < r := by have : (0 : Int) < (r : Int) := of_decide_eq_true e; omega
    cases f with
    | zero => simp at hr1; omega
    | succ f =>
      refine ⟨by decide, okDiv_of (by decide) (by decide), ?_⟩
      refine ⟨f, Nat.lt_succ_self _, rfl, m + r % 2, r / 2, ?_, ?_, ?_⟩
      . show [some (V.int ((r : Int) / 2)), some (V.int ((m : Int) + (r : Int) % 2))] = _
        rw [Int.natCast_add, Int.natCast_emod, Int.natCast_ediv]
        rfl
      . rw [Nat.pow_succ] at hr1; omega
      . rw [<- hm]
        show m + r % 2 + manyF f (r / 2) = m + (r % 2 + manyF f (r / 2))
        omega
  . have r0 : r = 0 := by
      have : ¬ (0 : Int) < (r : Int) := fun z => e (decide_eq_true z)
      omega
    subst r0
    rw [manyF_zero, Nat.add_zero] at hm
    rw [<- hm] at q
    exact q
theorem ok__law_feed : FnOk P w K mg base CX0 1 T.f__law_feed T.d__law_feed ["_law_script", "_law_k"] (spFeed K) := by
  refine T.F__law_feed.ok sc__law_feed (fun vs H Q E h => by unfold spFeed at h; split at h <;> first | rfl | exact h.elim) (fun cdv A outer s H vs Q E hr h => ?_)
  have hu := hu60 hr
  match vs, h with
  | [.ref a, .int k], h =>
  obtain ⟨ns, hs, q⟩ := h
  refine ⟨_, (@pss_cons _ _ _ _ _ (@ps_if _ _ _ _ _ _ _ _ (@tu_cmp _ _ _ _ _ _ _ _ (kEq (K := K) hu) (@pe_callB _ _ _ _ _ _ _ _ _ (kLen (K := K)) rfl T.z_len (by rfl) (@pa1 _ _ _ (@vw _ 0 _ _ (by walk_at "v")) (by rfl)) (by decide) (by decide) (by rfl) (by rfl)) (@pe_int _ _ _ _) (by walk_at "n")) (@pss_one _ _ _ (@ps_ret _ _ _ _ (@pe_lst _ _ _ _ (@pa_cons _ _ _ _ _ (@pe_int _ _ _ _) (@pa_cons _ _ _ _ _ (@pe_int _ _ _ _) (@pa_cons _ _ _ _ _ (@vw _ 1 _ _ (by walk_at "v")) (@pa1 _ _ _ (@pe_int _ _ _ _) (by rfl)) (by rfl)) (by rfl)) (by rfl))))) (@pss_nil _)) (@pss_cons _ _ _ _ _ (@ps_set _ _ 2 _ _ _ _ sc__law_feed.nd rfl (by walk_at "e") (@kIx _ K _ _ _ _ _ (@vw _ 0 _ _ (by walk_at "v")) (@pe_op _ _ _ _ _ _ _ _ om_mod (@vw _ 1 _ _ (by walk_at "v")) (@pe_callB _ _ _ _ _ _ _ _ _ (kLen (K := K)) rfl T.z_len (by rfl) (@pa1 _ _ _ (@vw _ 0 _ _ (by walk_at "v")) (by rfl)) (by decide) (by decide) (by rfl) (by rfl))) (by intro _ _; rfl) (by rfl)) (by rfl) (by walk_at "i")) (@pss_one _ _ _ (@ps_ret _ _ _ _ (@pe_lst _ _ _ _ (@pa_cons _ _ _ _ _ (@pe_callB _ _ _ _ _ _ _ _ _ (cm_max rfl) rfl T.z_max (by rfl) (@pa_cons _ _ _ _ _ (@pe_int _ _ _ _) (@pa1 _ _ _ (@pe_op _ _ _ _ _ _ _ _ om_sub (@vw _ 2 _ _ (by walk_at "v")) (@pe_op _ _ _ _ _ _ _ _ om_pow (@pe_int _ _ _ _) (@pe_int _ _ _ _))) (by rfl)) (by rfl)) (by decide) (by decide) (by rfl) (by rfl)) (@pa_cons _ _ _ _ _ (@vw _ 2 _ _ (by walk_at "v")) (@pa_cons _ _ _ _ _ (@vw _ 1 _ _ (by walk_at "v")) (@pa1 _ _ _ (@pe_int _ _ _ _) (by rfl)) (by rfl)) (by rfl)) (by rfl))))))), ?_⟩
  refine ⟨ns.length, .inl ⟨_, hs, by rw [List.length_map]⟩, ?_⟩
  refine ite2 (fun e => ?_) (fun e => ?_)
  . refine ⟨small_le (show 4 <= 1000 by decide), fun p hp => q p _ hp ⟨0, 0, k, 0, Int.le_refl _, upd_same⟩ (fun b n => upd_ne n)⟩
  . have hpos : 0 < (ns.length : Int) := by
      have : ¬ (ns.length : Int) = 0 := fun z => e (by rw [z]; rfl)
      omega
    obtain ⟨z, hz⟩ := atI_int (ns := ns) (Int.emod_nonneg k (show (ns.length : Int) ≠ 0 by omega)) (Int.emod_lt_of_pos k hpos)
    refine ⟨ns.length, .inl ⟨_, hs, by rw [List.length_map]⟩, hpos, _, _, .inl hs, hz, ⟨by decide, by decide, by decide⟩, ?_⟩
    refine ⟨small_le (show 4 <= 1000 by decide), fun p hp => q p _ hp ⟨_, _, _, _, ?_, upd_same⟩ (fun b n => upd_ne n)⟩
    exact Int.le_max_left _ _
theorem ok__law_draw : FnOk P w K mg base CX0 1 T.f__law_draw T.d__law_draw ["_law_feed_here", "_law_many_here"] spDraw := by
  refine T.F__law_draw.ok sc__law_draw (fun vs H Q E h => by unfold spDraw at h; split at h <;> first | rfl | exact h.elim) (fun cdv A outer s H vs Q E hr h => ?_)
  have hu := hu60 hr
  match vs, h with
  | [.ref t, .int m], h =>
  obtain ⟨F, hm, k⟩ := h
  obtain ⟨a, b, kk, c, ha, ht⟩ := F.at_
  have hm0 : 0 < m := hm.1
  refine ⟨_, (@pss_cons _ _ _ _ _ (@ps_asg _ _ _ _ _ _ (@pe_op _ _ _ _ _ _ _ _ (kAdd (K := K)) (@kIx _ K _ _ _ _ _ (@vw _ 0 _ _ (by walk_at "v")) (@pe_int _ _ _ _) (by intro _ _; rfl) (by rfl)) (@pe_int _ _ _ _)) (@pg_sub _ _ _ _ _ _ _ (@vw _ 0 _ _ (by walk_at "v")) (@pe_int _ _ _ _) set_any (by intro _; rfl)) (by rfl) (by rfl) (by rfl)) (@pss_cons _ _ _ _ _ (@ps_if _ _ _ _ _ _ _ _ (@tu_cmp _ _ _ _ _ _ _ _ om_gt (@kIx _ K _ _ _ _ _ (@vw _ 0 _ _ (by walk_at "v")) (@pe_int _ _ _ _) (by intro _ _; rfl) (by rfl)) (@pe_int _ _ _ _) (by walk_at "n")) (@pss_cons _ _ _ _ _ (@ps_set _ _ 2 _ _ _ _ sc__law_draw.nd rfl (by walk_at "e") (@pe_op _ _ _ _ _ _ _ _ om_mod (@kIx _ K _ _ _ _ _ (@vw _ 0 _ _ (by walk_at "v")) (@pe_int _ _ _ _) (by intro _ _; rfl) (by rfl)) (@vw _ 1 _ _ (by walk_at "v"))) (by rfl) (by walk_at "i")) (@pss_cons _ _ _ _ _ (@ps_asg _ _ _ _ _ _ (@pe_op _ _ _ _ _ _ _ _ om_div (@kIx _ K _ _ _ _ _ (@vw _ 0 _ _ (by walk_at "v")) (@pe_int _ _ _ _) (by intro _ _; rfl) (by rfl)) (@vw _ 1 _ _ (by walk_at "v"))) (@pg_sub _ _ _ _ _ _ _ (@vw _ 0 _ _ (by walk_at "v")) (@pe_int _ _ _ _) set_any (by intro _; rfl)) (by rfl) (by rfl) (by rfl)) (@pss_one _ _ _ (@ps_ret _ _ _ _ (@vw _ 2 _ _ (by walk_at "v")))))) (@pss_nil _)) (@pss_cons _ _ _ _ _ (@ps_set _ _ 3 _ _ _ _ sc__law_draw.nd rfl (by walk_at "e") (@pe_op _ _ _ _ _ _ _ _ om_mod (@pe_op _ _ _ _ _ _ _ _ (kAdd (K := K)) (@pe_op _ _ _ _ _ _ _ _ (kAdd (K := K)) (@kIx _ K _ _ _ _ _ (@vw _ 0 _ _ (by walk_at "v")) (@pe_int _ _ _ _) (by intro _ _; rfl) (by rfl)) (@pe_op _ _ _ _ _ _ _ _ om_mul (@pe_int _ _ _ _) (@kIx _ K _ _ _ _ _ (@vw _ 0 _ _ (by walk_at "v")) (@pe_int _ _ _ _) (by intro _ _; rfl) (by rfl)))) (@pe_op _ _ _ _ _ _ _ _ om_mul (@pe_int _ _ _ _) (@kIx _ K _ _ _ _ _ (@vw _ 0 _ _ (by walk_at "v")) (@pe_int _ _ _ _) (by intro _ _; rfl) (by rfl)))) (@pe_int _ _ _ _)) (by rfl) (by walk_at "i")) (@pss_cons _ _ _ _ _ (@ps_set _ _ 3 _ _ _ _ sc__law_draw.nd rfl (by walk_at "e") (@pe_op _ _ _ _ _ _ _ _ om_mod (@pe_op _ _ _ _ _ _ _ _ (kAdd (K := K)) (@pe_op _ _ _ _ _ _ _ _ (kAdd (K := K)) (@pe_op _ _ _ _ _ _ _ _ om_mul (@vw _ 3 _ _ (by walk_at "v")) (@vw _ 3 _ _ (by walk_at "v"))) (@pe_op _ _ _ _ _ _ _ _ om_mul (@pe_int _ _ _ _) (@vw _ 3 _ _ (by walk_at "v")))) (@kIx _ K _ _ _ _ _ (@vw _ 0 _ _ (by walk_at "v")) (@pe_int _ _ _ _) (by intro _ _; rfl) (by rfl))) (@pe_int _ _ _ _)) (by rfl) (by walk_at "i")) (@pss_cons _ _ _ _ _ (@ps_set _ _ 3 _ _ _ _ sc__law_draw.nd rfl (by walk_at "e") (@pe_op _ _ _ _ _ _ _ _ om_mod (@pe_op _ _ _ _ _ _ _ _ (kAdd (K := K)) (@pe_op _ _ _ _ _ _ _ _ (kAdd (K := K)) (@pe_op _ _ _ _ _ _ _ _ om_mul (@vw _ 3 _ _ (by walk_at "v")) (@vw _ 3 _ _ (by walk_at "v"))) (@pe_op _ _ _ _ _ _ _ _ om_mul (@pe_int _ _ _ _) (@vw _ 3 _ _ (by walk_at "v")))) (@kIx _ K _ _ _ _ _ (@vw _ 0 _ _ (by walk_at "v")) (@pe_int _ _ _ _) (by intro _ _; rfl) (by rfl))) (@pe_int _ _ _ _)) (by rfl) (by walk_at "i")) (@pss_one _ _ _ (@ps_ret _ _ _ _ (@pe_op _ _ _ _ _ _ _ _ om_mod (@vw _ 3 _ _ (by walk_at "v")) (@vw _ 1 _ _ (by walk_at "v")))))))))), ?_⟩
  refine seq_at (fun σ' H1 => σ' = [some (.ref t), some (.int m), none, none] /\ (∀ b, b ≠ t -> H1 b = H b) /\ ∃ a b k c : Int, 0 <= a /\ H1 t = some (.lst [.int a, .int b, .int k, .int c])) ?_ ?_ (by walk_at "sm")
  . exact ⟨_, _, .inl (.of ht), rfl, _, _, ht, rfl, rfl, fun b n => upd_ne n, a, b, kk, c + 1, ha, upd_same⟩
  clear ht ha a b kk c
  rintro σ' H1 ⟨rfl, f1, a, b, kk, c, ha, ht1⟩
  refine ⟨_, _, .inl (.of ht1), rfl, ?_⟩
  refine ite2 (fun e => ?_) (fun e => ?_)
  . refine ⟨_, _, .inl (.of ht1), rfl, hm0, _, _, .inl (.of ht1), rfl, hm, _, _, ht1, rfl, ?_⟩
    exact k _ _ (Int.emod_nonneg _ (by omega)) (Int.emod_lt_of_pos _ hm0) ⟨_, _, _, _, Int.ediv_nonneg ha (by omega), upd_same⟩ (fun b n => by rw [upd_ne n]; exact f1 b n)
  dsimp only [tNext]
  have F1 : Feed H1 t := ⟨a, b, kk, c, ha, ht1⟩
  refine seq_at (fun σ' H2 => H2 = H1 /\ ∃ z : Int, σ' = [some (.ref t), some (.int m), none, some (.int z)] /\ 0 <= z /\ z < 2147483629) ?_ ?_ (by walk_at "sm")
  . refine ⟨_, _, .inl (.of ht1), rfl, _, _, .inl (.of ht1), rfl, .inr (.inl ⟨by decide, by decide⟩), _, _, .inl (.of ht1), rfl, .inr (.inl ⟨by decide, by decide⟩), by decide, rfl, _, rfl, Int.emod_nonneg _ (by decide), Int.emod_lt_of_pos _ (by decide)⟩
  rintro σ' H2 ⟨rfl, z, rfl, z0, z1⟩
  refine seq_at (fun σ' H2' => H2' = H2 /\ ∃ z : Int, σ' = [some (.ref t), some (.int m), none, some (.int z)] /\ 0 <= z /\ z < 2147483629) ?_ ?_ (by walk_at "sm")
  . refine ⟨.inr (.inl ⟨by omega, by omega⟩), .inr (.inl ⟨by decide, by decide⟩), _, _, .inl (.of ht1), rfl, by decide, rfl, _, rfl, Int.emod_nonneg _ (by decide), Int.emod_lt_of_pos _ (by decide)⟩
  rintro σ' H3 ⟨rfl, z, rfl, z0, z1⟩
  refine ⟨.inr (.inl ⟨by omega, by omega⟩), .inr (.inl ⟨by decide, by decide⟩), _, _, .inl (.of ht1), rfl, by decide, ?_⟩
  refine ⟨hm0, ?_⟩
  exact k _ _ (Int.emod_nonneg _ (by omega)) (Int.emod_lt_of_pos _ hm0) F1 f1
def sp_ftable : Sp := fun vs H Q _ => match vs with
  | [.ref t, .int n] => ∃ m : Nat, Feed H t /\ n = m /\ 1 <= m /\ m <= 6 /\ ∀ (bs : List Bool) p H', bs.length = 2 ^ m -> H p = none -> H' p = some (.tup (bs.map V.bl)) -> Feed H' t -> Frm t H H' -> Q (.ref p) H'
  | _ => False
theorem sp_ftable_mono : SpMono sp_ftable := fun vs H Q Q' E h q => by
  unfold sp_ftable at *
  split at q
  . revert q; repeat' first | exact h _ _ | exact newL_mono h | walk_at "m"
  . exact q.elim
theorem frm_all {t : Addr} {H H' : Hp} (h : ∀ b, b ≠ t -> H' b = H b) : Frm t H H' := fun b o n e => by rw [h b n]; exact e
theorem frm_new {t p : Addr} {H0 H : Hp} {o : HO} (f : Frm t H0 H) (hp : H0 p = none) : Frm t H0 (upd H p o) := fun b u n e => by
  rw [upd_ne (ne_of_none e hp)]; exact f b u n e
structure FL (H0 : Hp) (t : Addr) (M : Nat) (l : Addr) (H : Hp) : Prop where
  fd : Feed H t
  fr : Frm t H0 H
  new : H0 l = none
  at_ : ∃ bs : List Bool, H l = some (.lst (bs.map V.bl)) /\ bs.length = M
theorem FL.same {H0 H H' : Hp} {t : Addr} {M : Nat} {l : Addr} (L : FL H0 t M l H) (s : Same H H') : FL H0 t M l H' :=
  ⟨L.fd.same s, L.fr.trans s.frm, L.new, let ⟨bs, h, e⟩ := L.at_; ⟨bs, s _ _ h, e⟩⟩
theorem FL.draw {H0 H H' : Hp} {t : Addr} {M : Nat} {l : Addr} (L : FL H0 t M l H) (F0 : Feed H0 t) (F1 : Feed H' t) (f : ∀ b, b ≠ t -> H' b = H b) : FL H0 t M l H' :=
  ⟨F1, L.fr.trans (frm_all f), L.new, let ⟨bs, h, e⟩ := L.at_; ⟨bs, by rw [f l (F0.neT L.new)]; exact h, e⟩⟩
theorem FL.put {H0 H : Hp} {t : Addr} {M : Nat} {l : Addr} {bs : List Bool} (L : FL H0 t M l H) (F0 : Feed H0 t) (hb : bs.length = M) : FL H0 t M l (upd H l (.lst (bs.map V.bl))) := by
  obtain ⟨a, b, k, c, h1, h3⟩ := L.fd.at_
  exact ⟨⟨a, b, k, c, h1, by rw [upd_ne (Ne.symm (F0.neT L.new))]; exact h3⟩, frm_new L.fr L.new, L.new, bs, upd_same, hb⟩
theorem FL.mk' {H0 H : Hp} {t : Addr} {M : Nat} {l : Addr} {bs : List Bool} (F : Feed H t) (fr : Frm t H0 H) (hl : H l = none) (hb : bs.length = M) : FL H0 t M l (upd H l (.lst (bs.map V.bl))) :=
  ⟨F.upd hl, fr.trans (Frm.upd hl), F.free fr hl, bs, upd_same, hb⟩
theorem ixN_nat {n i : Nat} (h : i < n) : ixN n ((i : Nat) : Int) = some i := by
  unfold ixN
  rw [if_pos (Int.natCast_nonneg i), if_pos (by omega)]
  simp
theorem bl_set (bs : List Bool) (i : Nat) (b : Bool) : (bs.map V.bl).set i (.bl b) = (bs.set i b).map V.bl := by
  rw [List.map_set]
theorem bl_at {bs : List Bool} {i : Nat} (h : i < bs.length) : atI (bs.map V.bl) ((i : Nat) : Int) = some (.bl bs[i]) :=
  atI_of rfl (by rw [List.getElem?_map, List.getElem?_eq_getElem h]; rfl)
def FJ (H0 : Hp) (t : Addr) (m M : Nat) : St -> Hp -> Prop := fun σ H => ∃ (la l : Addr) (way : Int) (y : Nat) (z7 z8 z9 : Option V),
  σ = [some (.ref t), some (.int m), some (.int M), some (.int way), some (.int y), some (.ref la), some (.ref l), z7, z8, z9] /\ y < M /\ FL H0 t M la H /\ FL H0 t M l H
def FJ2 (H0 : Hp) (t : Addr) (m M : Nat) : St -> Hp -> Prop := fun σ H => ∃ (l : Addr) (z3 z4 z5 z7 z8 z9 : Option V),
  σ = [some (.ref t), some (.int m), some (.int M), z3, z4, z5, some (.ref l), z7, z8, z9] /\ FL H0 t M l H
theorem ok__law_table : FnOk P w K mg base CX0 2 T.f__law_table T.d__law_table ["_law_feed_here", "_law_n"] sp_ftable := by
  have G__law_draw := ok__law_draw (P := P) (w := w) (base := base) T; have G__law_many := ok__law_many (P := P) (w := w) (base := base) T
  refine T.F__law_table.ok sc__law_table (fun vs H Q E h => by unfold sp_ftable at h; split at h <;> first | rfl | exact h.elim) (fun cdv A outer s H vs Q E hr h => ?_)
  have hu := hu60 hr
  have mo1 : SpMono sp_many := sp_many_mono
  have hr__law_draw := hr.mono (show 1 <= _ by decide); have hr__law_many := hr.mono (show 1 <= _ by decide)
  match vs, h with
  | [.ref t, .int n], h =>
  obtain ⟨m, F, e1, m1, m6, q⟩ := h
  subst e1
  refine ⟨_, (@pss_cons _ _ _ _ _ (@ps_set _ _ 2 _ _ _ _ sc__law_table.nd rfl (by walk_at "e") (@pe_op _ _ _ _ _ _ _ _ om_shl (@pe_int _ _ _ _) (@vw _ 1 _ _ (by walk_at "v"))) (by rfl) (by walk_at "i")) (@pss_cons _ _ _ _ _ (@ps_set _ _ 3 _ _ _ _ sc__law_table.nd rfl (by walk_at "e") (@pe_call _ _ _ _ _ _ _ _ _ _ _ _ _ _ _ _ G__law_draw hr__law_draw rfl T.m__law_draw T.F__law_draw.kp T.b__law_draw .nil pass0 (@pa_cons _ _ _ _ _ (@vw _ 0 _ _ (by walk_at "v")) (@pa1 _ _ _ (@pe_int _ _ _ _) (by rfl)) (by rfl)) (by decide) (by rfl) (by rfl)) (by rfl) (by walk_at "i")) (@pss_cons _ _ _ _ _ (@ps_set _ _ 4 _ _ _ _ sc__law_table.nd rfl (by walk_at "e") (@pe_call _ _ _ _ _ _ _ _ _ _ _ _ _ _ _ _ G__law_draw hr__law_draw rfl T.m__law_draw T.F__law_draw.kp T.b__law_draw .nil pass0 (@pa_cons _ _ _ _ _ (@vw _ 0 _ _ (by walk_at "v")) (@pa1 _ _ _ (@vw _ 2 _ _ (by walk_at "v")) (by rfl)) (by rfl)) (by decide) (by rfl) (by rfl)) (by rfl) (by walk_at "i")) (@pss_cons _ _ _ _ _ (@ps_set _ _ 5 _ _ _ _ sc__law_table.nd rfl (by walk_at "e") (@pe_compB _ _ _ _ _ _ _ (["_law_p", "_law_feed_here"]) 1 [0] _ _ _ _ rfl (@pi_range1 _ _ _ _ _ _ rfl T.z_range (@pa1 _ _ _ (@vw _ 2 _ _ (by walk_at "v")) (by rfl)) (by rfl)) (by kernel_rfl) rfl rfl (by kernel_rfl) (fun c => @pg_name _ _ 0 _ (show (["_law_p", "_law_feed_here"] : List Str).Nodup by decide +kernel) rfl (by walk_at "e") (by walk_at "i")) (go_name (by decide)) (fun c => @pts_nil _) (fun c => (@pe_cmpM _ _ _ _ _ _ _ _ (kEq (K := K) hu) (@pe_call _ _ _ _ _ _ _ _ _ _ _ _ _ _ _ _ G__law_draw hr__law_draw rfl T.m__law_draw T.F__law_draw.kp T.b__law_draw .nil pass0 (@pa_cons _ _ _ _ _ (@vw _ 1 _ _ (by walk_at "v")) (@pa1 _ _ _ (@pe_int _ _ _ _) (by rfl)) (by rfl)) (by decide) (by rfl) (by rfl)) (@pe_int _ _ _ _) (by walk_at "n"))) (by intro _; rfl)) (by rfl) (by walk_at "i")) (@pss_cons _ _ _ _ _ (@ps_if _ _ _ _ _ _ _ _ (@tu_cmp _ _ _ _ _ _ _ _ (kEq (K := K) hu) (@vw _ 3 _ _ (by walk_at "v")) (@pe_int _ _ _ _) (by walk_at "n")) (@pss_one _ _ _ (@ps_ret _ _ _ _ (@pe_callTy _ _ _ _ _ _ _ _ _ (kTuple (K := K)) rfl T.z_tuple (by rfl) (@pa1 _ _ _ (@vw _ 5 _ _ (by walk_at "v")) (by rfl)) (by decide) (by decide) (by rfl) (by rfl)))) (@pss_nil _)) (@pss_cons _ _ _ _ _ (@ps_compB _ _ _ _ _ _ _ (["_law_p", "_law_answers", "_law_some"]) 1 ([5, 4]) _ _ _ _ 6 _ _ _ rfl sc__law_table.nd rfl rfl (@pi_range1 _ _ _ _ _ _ rfl T.z_range (@pa1 _ _ _ (@vw _ 2 _ _ (by walk_at "v")) (by rfl)) (by rfl)) (by kernel_rfl) rfl rfl (by kernel_rfl) (fun c => @pg_name _ _ 0 _ (show (["_law_p", "_law_answers", "_law_some"] : List Str).Nodup by decide +kernel) rfl (by walk_at "e") (by walk_at "i")) (go_name (by decide)) (fun c => @pts_nil _) (fun c => (@kIx _ K _ _ _ _ _ (@vw _ 1 _ _ (by walk_at "v")) (@pe_op _ _ _ _ _ _ _ _ om_and (@vw _ 0 _ _ (by walk_at "v")) (@vw _ 2 _ _ (by walk_at "v"))) (by intro _ _; rfl) (by rfl))) (by rfl) (by intro _; rfl)) (@pss_cons _ _ _ _ _ (@ps_if _ _ _ _ _ _ _ _ (@tu_cmp _ _ _ _ _ _ _ _ (kEq (K := K) hu) (@vw _ 3 _ _ (by walk_at "v")) (@pe_int _ _ _ _) (by walk_at "n")) (@pss_one _ _ _ (@ps_compB _ _ _ _ _ _ _ (["_law_p", "_law_answers"]) 1 [5] _ _ _ _ 6 _ _ _ rfl sc__law_table.nd rfl rfl (@pi_range1 _ _ _ _ _ _ rfl T.z_range (@pa1 _ _ _ (@vw _ 2 _ _ (by walk_at "v")) (by rfl)) (by rfl)) (by kernel_rfl) rfl rfl (by kernel_rfl) (fun c => @pg_name _ _ 0 _ (show (["_law_p", "_law_answers"] : List Str).Nodup by decide +kernel) rfl (by walk_at "e") (by walk_at "i")) (go_name (by decide)) (fun c => @pts_nil _) (fun c => (@kIx _ K _ _ _ _ _ (@vw _ 1 _ _ (by walk_at "v")) (@pe_int _ _ _ _) (by intro _ _; rfl) (by rfl))) (by rfl) (by intro _; rfl))) (@pss_nil _)) (@pss_cons _ _ _ _ _ (@ps_if _ _ _ _ _ _ _ _ (@tu_cmp _ _ _ _ _ _ _ _ (kEq (K := K) hu) (@vw _ 3 _ _ (by walk_at "v")) (@pe_int _ _ _ _) (by walk_at "n")) (@pss_one _ _ _ (@ps_compB _ _ _ _ _ _ _ (["_law_p", "_law_some", "_law_answers"]) 1 ([4, 5]) _ _ _ _ 6 _ _ _ rfl sc__law_table.nd rfl rfl (@pi_range1 _ _ _ _ _ _ rfl T.z_range (@pa1 _ _ _ (@vw _ 2 _ _ (by walk_at "v")) (by rfl)) (by rfl)) (by kernel_rfl) rfl rfl (by kernel_rfl) (fun c => @pg_name _ _ 0 _ (show (["_law_p", "_law_some", "_law_answers"] : List Str).Nodup by decide +kernel) rfl (by walk_at "e") (by walk_at "i")) (go_name (by decide)) (fun c => @pts_nil _) (fun c => (@pe_cmpM _ _ _ _ _ _ _ _ (kEq (K := K) hu) (@pe_op _ _ _ _ _ _ _ _ om_mod (@pe_call _ _ _ _ _ _ _ _ _ _ _ _ _ _ _ _ G__law_many hr__law_many rfl T.m__law_many T.F__law_many.kp T.b__law_many .nil pass0 (@pa1 _ _ _ (@pe_op _ _ _ _ _ _ _ _ om_and (@vw _ 0 _ _ (by walk_at "v")) (@vw _ 1 _ _ (by walk_at "v"))) (by rfl)) (by decide) (by rfl) (by rfl)) (@pe_int _ _ _ _)) (@pe_callTy _ _ _ _ _ _ _ _ _ cm_int rfl T.z_int (by rfl) (@pa1 _ _ _ (@kIx _ K _ _ _ _ _ (@vw _ 2 _ _ (by walk_at "v")) (@pe_int _ _ _ _) (by intro _ _; rfl) (by rfl)) (by rfl)) (by decide) (by decide) (by rfl) (by rfl)) (by walk_at "n"))) (by rfl) (by intro _; rfl))) (@pss_nil _)) (@pss_cons _ _ _ _ _ (@ps_if _ _ _ _ _ _ _ _ (@tu_cmp _ _ _ _ _ _ _ _ (kEq (K := K) hu) (@vw _ 3 _ _ (by walk_at "v")) (@pe_int _ _ _ _) (by walk_at "n")) (@pss_cons _ _ _ _ _ (@ps_set _ _ 7 _ _ _ _ sc__law_table.nd rfl (by walk_at "e") (@pe_op _ _ _ _ _ _ _ _ (kAdd (K := K)) (@pe_int _ _ _ _) (@pe_call _ _ _ _ _ _ _ _ _ _ _ _ _ _ _ _ G__law_draw hr__law_draw rfl T.m__law_draw T.F__law_draw.kp T.b__law_draw .nil pass0 (@pa_cons _ _ _ _ _ (@vw _ 0 _ _ (by walk_at "v")) (@pa1 _ _ _ (@pe_int _ _ _ _) (by rfl)) (by rfl)) (by decide) (by rfl) (by rfl))) (by rfl) (by walk_at "i")) (@pss_one _ _ _ (@ps_compB _ _ _ _ _ _ _ (["_law_p", "_law_some", "_law_least"]) 1 ([4, 7]) _ _ _ _ 6 _ _ _ rfl sc__law_table.nd rfl rfl (@pi_range1 _ _ _ _ _ _ rfl T.z_range (@pa1 _ _ _ (@vw _ 2 _ _ (by walk_at "v")) (by rfl)) (by rfl)) (by kernel_rfl) rfl rfl (by kernel_rfl) (fun c => @pg_name _ _ 0 _ (show (["_law_p", "_law_some", "_law_least"] : List Str).Nodup by decide +kernel) rfl (by walk_at "e") (by walk_at "i")) (go_name (by decide)) (fun c => @pts_nil _) (fun c => (@pe_cmpM _ _ _ _ _ _ _ _ om_ge (@pe_call _ _ _ _ _ _ _ _ _ _ _ _ _ _ _ _ G__law_many hr__law_many rfl T.m__law_many T.F__law_many.kp T.b__law_many .nil pass0 (@pa1 _ _ _ (@pe_op _ _ _ _ _ _ _ _ om_and (@vw _ 0 _ _ (by walk_at "v")) (@vw _ 1 _ _ (by walk_at "v"))) (by rfl)) (by decide) (by rfl) (by rfl)) (@vw _ 2 _ _ (by walk_at "v")) (by walk_at "n"))) (by rfl) (by intro _; rfl)))) (@pss_nil _)) (@pss_cons _ _ _ _ _ (@ps_for _ _ _ _ _ _ _ _ PassesOwn.never rfl (@pi_range1 _ _ _ _ _ _ rfl T.z_range (@pa1 _ _ _ (@pe_op _ _ _ _ _ _ _ _ om_mul (@pe_call _ _ _ _ _ _ _ _ _ _ _ _ _ _ _ _ G__law_draw hr__law_draw rfl T.m__law_draw T.F__law_draw.kp T.b__law_draw .nil pass0 (@pa_cons _ _ _ _ _ (@vw _ 0 _ _ (by walk_at "v")) (@pa1 _ _ _ (@pe_int _ _ _ _) (by rfl)) (by rfl)) (by decide) (by rfl) (by rfl)) (@pe_call _ _ _ _ _ _ _ _ _ _ _ _ _ _ _ _ G__law_draw hr__law_draw rfl T.m__law_draw T.F__law_draw.kp T.b__law_draw .nil pass0 (@pa_cons _ _ _ _ _ (@vw _ 0 _ _ (by walk_at "v")) (@pa1 _ _ _ (@pe_int _ _ _ _) (by rfl)) (by rfl)) (by decide) (by rfl) (by rfl))) (by rfl)) (by rfl)) (@pg_name _ _ 8 _ sc__law_table.nd rfl (by walk_at "e") (by walk_at "i")) (@pss_cons _ _ _ _ _ (@ps_set _ _ 9 _ _ _ _ sc__law_table.nd rfl (by walk_at "e") (@pe_call _ _ _ _ _ _ _ _ _ _ _ _ _ _ _ _ G__law_draw hr__law_draw rfl T.m__law_draw T.F__law_draw.kp T.b__law_draw .nil pass0 (@pa_cons _ _ _ _ _ (@vw _ 0 _ _ (by walk_at "v")) (@pa1 _ _ _ (@vw _ 2 _ _ (by walk_at "v")) (by rfl)) (by rfl)) (by decide) (by rfl) (by rfl)) (by rfl) (by walk_at "i")) (@pss_one _ _ _ (@ps_asg _ _ _ _ _ _ (@pe_notM _ _ _ _ (@kIx _ K _ _ _ _ _ (@vw _ 6 _ _ (by walk_at "v")) (@vw _ 9 _ _ (by walk_at "v")) (by intro _ _; rfl) (by rfl))) (@pg_sub _ _ _ _ _ _ _ (@vw _ 6 _ _ (by walk_at "v")) (@vw _ 9 _ _ (by walk_at "v")) set_any (by intro _; rfl)) (by rfl) (by rfl) (by rfl)))) (by intro _; rfl)) (@pss_one _ _ _ (@ps_ret _ _ _ _ (@pe_callTy _ _ _ _ _ _ _ _ _ (kTuple (K := K)) rfl T.z_tuple (by rfl) (@pa1 _ _ _ (@vw _ 6 _ _ (by walk_at "v")) (by rfl)) (by decide) (by decide) (by rfl) (by rfl)))))))))))))), ?_⟩
  have e2 : (1 : Int) * 2 ^ ((m : Int).toNat) = ((2 ^ m : Nat) : Int) := by rw [Int.toNat_natCast, Int.natCast_pow, Int.one_mul]; rfl
  have h64 : 2 ^ m <= 64 := Nat.pow_le_pow_right (n := 2) (by decide) m6
  have h2 : 2 <= 2 ^ m := Nat.pow_le_pow_right (n := 2) (i := 1) (by decide) m1
  refine ⟨⟨by omega, by omega, by decide⟩, ?_⟩
  rw [e2]
  generalize hM : 2 ^ m = M at *
  have hMd : okDiv (M : Int) := okDiv_of (by omega) (Int.le_trans (Int.ofNat_le.mpr h64) (by decide))
  refine ⟨F, okDiv_of (by decide) (by decide), fun way H2 w0 w1 F2 f2 => ⟨F2, hMd, fun y' H3 y0 y1 F3 f3 => ?_⟩⟩
  obtain ⟨y, rfl⟩ := Int.eq_ofNat_of_zero_le y0
  have hy : y < M := by omega
  have fr3 : Frm t H H3 := (frm_all f2).trans (frm_all f3)
  dsimp only [gName]
  refine seq_at (fun σ Ha => ∃ la : Addr, σ = [some (.ref t), some (.int m), some (.int M), some (.int way), some (.int y), some (.ref la), none, none, none, none] /\ FL H t M la Ha) ?_ ?_ (by walk_at "sm")
  . refine ⟨(M : Int), rfl, by omega, by omega, ?_⟩
    refine comp_range (fun i ys H' => Feed H' t /\ Frm t H H' /\ ∃ bs : List Bool, ys = bs.map V.bl /\ bs.length = i) ⟨F3, fr3, [], rfl, rfl⟩ (fun i ys H' hi ⟨_, _, bs, e, el⟩ => by
      rw [e]; exact small1000 (by rw [List.length_map]; omega)) ?_ ?_
    . rintro i ys H' hi ⟨Fi, fi, bs, rfl, rfl⟩
      refine ⟨Fi, okDiv_of (by decide) (by decide), fun d H2 _ _ F2 f2 => ?_⟩
      exact ⟨F2, fi.trans (frm_all f2), bs ++ [(false ^^ (d == 1))], by rw [List.map_append]; rfl, by rw [List.length_append]; rfl⟩
    . rintro ys H' ⟨Fi, fi, bs, rfl, hb⟩ l' hl
      exact ⟨l', rfl, FL.mk' Fi fi hl (by omega)⟩
  rintro σ Ha ⟨la, rfl, La⟩
  refine ite2 (fun e => ?_) (fun e => ?_)
  . obtain ⟨bs, hbs, hbl⟩ := La.at_
    refine ⟨_, .inl ⟨.of hbs, fun p hp => ?_⟩⟩
    exact q bs p _ hbl (La.fd.free La.fr hp) upd_same (La.fd.upd hp) (La.fr.trans (Frm.upd hp))
  dsimp only [tNext]
  refine seq_at (FJ H t m M) ?_ ?_ (by walk_at "sm")
  . obtain ⟨as, has, hal⟩ := La.at_
    refine ⟨(M : Int), rfl, by omega, by omega, ?_⟩
    refine comp_range (fun i ys H' => H' = Ha /\ ∃ bs : List Bool, ys = bs.map V.bl /\ bs.length = i) ⟨rfl, [], rfl, rfl⟩ (fun i ys H' hi ⟨_, bs, e, el⟩ => by
      rw [e]; exact small1000 (by rw [List.length_map]; omega)) ?_ ?_
    . rintro i ys H' hi ⟨rfl, bs, rfl, rfl⟩
      have hlt : bs.length &&& y < as.length := by
        have := Nat.and_le_right (n := bs.length) (m := y)
        omega
      have e0 : Builtin.bitAnd ((0 : Int) + (bs.length : Int)) (y : Int) = ((bs.length &&& y : Nat) : Int) := by rw [Int.zero_add, bitAnd_nat]
      refine ⟨_, .bl as[bs.length &&& y], .inl (.of has), ?_, rfl, bs ++ [as[bs.length &&& y]], by rw [List.map_append]; rfl, by rw [List.length_append]; rfl⟩
      rw [e0]; exact bl_at hlt
    . rintro ys H' ⟨rfl, bs, rfl, hb⟩ l' hl
      exact ⟨la, l', way, y, none, none, none, rfl, hy, La.same (Same.upd hl), FL.mk' La.fd La.fr hl (by omega)⟩
  clear La
  rintro σ Ha ⟨la, l, way, y, z7, z8, z9, rfl, hy, La, L⟩
  refine seq_at (FJ H t m M) ?_ ?_ (by walk_at "sm")
  . refine ite2 (fun e => ?_) (fun e => ⟨la, l, way, y, z7, z8, z9, rfl, hy, La, L⟩)
    obtain ⟨as, has, hal⟩ := La.at_
    have h0 : 0 < as.length := by omega
    refine ⟨(M : Int), rfl, by omega, by omega, ?_⟩
    refine comp_range (fun i ys H' => H' = Ha /\ ∃ bs : List Bool, ys = bs.map V.bl /\ bs.length = i) ⟨rfl, [], rfl, rfl⟩ (fun i ys H' hi ⟨_, bs, e, el⟩ => by
      rw [e]; exact small1000 (by rw [List.length_map]; omega)) ?_ ?_
    . rintro i ys H' hi ⟨rfl, bs, rfl, rfl⟩
      exact ⟨_, .bl as[0], .inl (.of has), bl_at (i := 0) h0, rfl, bs ++ [as[0]], by rw [List.map_append]; rfl, by rw [List.length_append]; rfl⟩
    . rintro ys H' ⟨rfl, bs, rfl, hb⟩ l' hl
      exact ⟨la, l', way, y, z7, z8, z9, rfl, hy, La.same (Same.upd hl), FL.mk' La.fd La.fr hl (by omega)⟩
  clear La L
  rintro σ Ha ⟨la, l, way, y, z7, z8, z9, rfl, hy, La, L⟩
  refine seq_at (FJ H t m M) ?_ ?_ (by walk_at "sm")
  . refine ite2 (fun e => ?_) (fun e => ⟨la, l, way, y, z7, z8, z9, rfl, hy, La, L⟩)
    obtain ⟨as, has, hal⟩ := La.at_
    have h0 : 0 < as.length := by omega
    refine ⟨(M : Int), rfl, by omega, by omega, ?_⟩
    refine comp_range (fun i ys H' => H' = Ha /\ ∃ bs : List Bool, ys = bs.map V.bl /\ bs.length = i) ⟨rfl, [], rfl, rfl⟩ (fun i ys H' hi ⟨_, bs, e, el⟩ => by
      rw [e]; exact small1000 (by rw [List.length_map]; omega)) ?_ ?_
    . rintro i ys H' hi ⟨rfl, bs, rfl, rfl⟩
      have e0 : Builtin.bitAnd ((0 : Int) + (bs.length : Int)) (y : Int) = ((bs.length &&& y : Nat) : Int) := by rw [Int.zero_add, bitAnd_nat]
      have hlt : bs.length &&& y < 2 ^ 64 := by
        have := Nat.and_le_right (n := bs.length) (m := y)
        omega
      refine ⟨bs.length &&& y, e0, hlt, by decide, _, .bl as[0], .inl (.of has), bl_at (i := 0) h0, ?_⟩
      exact ⟨rfl, bs ++ [_], by rw [List.map_append]; rfl, by rw [List.length_append]; rfl⟩
    . rintro ys H' ⟨rfl, bs, rfl, hb⟩ l' hl
      exact ⟨la, l', way, y, z7, z8, z9, rfl, hy, La.same (Same.upd hl), FL.mk' La.fd La.fr hl (by omega)⟩
  clear La L
  rintro σ Ha ⟨la, l, way, y, z7, z8, z9, rfl, hy, La, L⟩
  refine seq_at (FJ H t m M) ?_ ?_ (by walk_at "sm")
  . refine ite2 (fun e => ?_) (fun e => ⟨la, l, way, y, z7, z8, z9, rfl, hy, La, L⟩)
    refine ⟨L.fd, okDiv_of (by decide) (by decide), fun d Hb d0 d1 Fb fb => ?_⟩
    have La := La.draw F Fb fb
    have L := L.draw F Fb fb
    refine ⟨(M : Int), rfl, by omega, by omega, ?_⟩
    refine comp_range (fun i ys H' => H' = Hb /\ ∃ bs : List Bool, ys = bs.map V.bl /\ bs.length = i) ⟨rfl, [], rfl, rfl⟩ (fun i ys H' hi ⟨_, bs, e, el⟩ => by
      rw [e]; exact small1000 (by rw [List.length_map]; omega)) ?_ ?_
    . rintro i ys H' hi ⟨rfl, bs, rfl, rfl⟩
      have e0 : Builtin.bitAnd ((0 : Int) + (bs.length : Int)) (y : Int) = ((bs.length &&& y : Nat) : Int) := by rw [Int.zero_add, bitAnd_nat]
      have hlt : bs.length &&& y < 2 ^ 64 := by
        have := Nat.and_le_right (n := bs.length) (m := y)
        omega
      refine ⟨bs.length &&& y, e0, hlt, ?_⟩
      exact ⟨rfl, bs ++ [_], by rw [List.map_append]; rfl, by rw [List.length_append]; rfl⟩
    . rintro ys H' ⟨rfl, bs, rfl, hb⟩ l' hl
      exact ⟨la, l', way, y, some (.int (1 + d)), z8, z9, rfl, hy, La.same (Same.upd hl), FL.mk' La.fd La.fr hl (by omega)⟩
  clear La L
  rintro σ Ha ⟨la, l, way, y, z7, z8, z9, rfl, hy, La, L⟩
  refine seq_at (FJ2 H t m M) ?_ ?_ (by walk_at "sm")
  . refine ⟨L.fd, okDiv_of (by decide) (by decide), fun d Hb d0 d1 Fb fb => ⟨Fb, okDiv_of (by decide) (by decide), fun d' Hc d0' d1' Fc fc => ?_⟩⟩
    have Lc := (L.draw F Fb fb).draw F Fc fc
    obtain ⟨N, hN, hN2⟩ : ∃ N : Nat, d * d' = (N : Int) /\ N <= 3 := by
      have : d = 0 \/ d = 1 := by omega
      rcases this with rfl | rfl
      . exact ⟨0, by rw [Int.zero_mul]; rfl, by omega⟩
      . exact ⟨d'.toNat, by rw [Int.one_mul]; omega, by omega⟩
    refine ⟨.inr (.inl ⟨by omega, by omega⟩), (N : Int), congrArg (fun z => [V.int z]) hN, by omega, by omega, ?_⟩
    refine for_range (fun _ => FJ2 H t m M) ⟨l, _, _, _, z7, z8, z9, rfl, Lc⟩ ?_ (fun σ H' h => h)
    rintro i σ Hc hi ⟨l, z3, z4, z5, z7, z8, z9, rfl, Lc⟩
    refine ⟨Lc.fd, hMd, fun k' Hd k0 k1 Fd fd => ?_⟩
    obtain ⟨k, rfl⟩ := Int.eq_ofNat_of_zero_le k0
    have Ld := Lc.draw F Fd fd
    obtain ⟨bs, hbs, hbl⟩ := Ld.at_
    have hk : k < bs.length := by omega
    refine ⟨_, .bl bs[k], .inl (.of hbs), bl_at hk, _, k, hbs, ixN_nat (by rw [List.length_map]; omega), ?_⟩
    rw [bl_set]
    exact ⟨l, z3, z4, z5, z7, some (.int (0 + (i : Int))), some (.int k), rfl, Ld.put F (by rw [List.length_set]; exact hbl)⟩
  clear La L
  rintro σ Ha ⟨l, z3, z4, z5, z7, z8, z9, rfl, L⟩
  obtain ⟨bs, hbs, hbl⟩ := L.at_
  refine ⟨_, .inl ⟨.of hbs, fun p hp => ?_⟩⟩
  exact q bs p _ hbl (L.fd.free L.fr hp) upd_same (L.fd.upd hp) (L.fr.trans (Frm.upd hp))
theorem ok__law_sum : FnOk P w K mg base CX0 1 T.f__law_sum T.d__law_sum ["_law_table_here"] (sp_fsum K) := by
  refine T.F__law_sum.ok sc__law_sum (fun vs H Q E h => by unfold sp_fsum at h; split at h <;> first | rfl | exact h.elim) (fun cdv A outer s H vs Q E hr h => ?_)
  have hu := hu60 hr
  match vs, h with
  | [.ref p], h =>
  obtain ⟨m, bs, m1, m6, hb, hp, q⟩ := h
  refine ⟨_, (@pss_cons _ _ _ _ _ (@ps_set _ _ 1 _ _ _ _ sc__law_sum.nd rfl (by walk_at "e") (@pe_compB _ _ _ _ _ _ _ ["_law_answer"] 1 [] _ _ _ _ rfl (@kSeq _ K _ _ _ (@vw _ 0 _ _ (by walk_at "v")) (by rfl)) (by kernel_rfl) rfl rfl (by kernel_rfl) (fun c => @pg_name _ _ 0 _ (show (["_law_answer"] : List Str).Nodup by decide +kernel) rfl (by walk_at "e") (by walk_at "i")) (go_name (by decide)) (fun c => @pts_nil _) (fun c => (@pe_op _ _ _ _ _ _ _ _ om_sub (@pe_int _ _ _ _) (@pe_op _ _ _ _ _ _ _ _ om_mul (@pe_int _ _ _ _) (@pe_callTy _ _ _ _ _ _ _ _ _ cm_int rfl T.z_int (by rfl) (@pa1 _ _ _ (@vw _ 0 _ _ (by walk_at "v")) (by rfl)) (by decide) (by decide) (by rfl) (by rfl))))) (by intro _; rfl)) (by rfl) (by walk_at "i")) (@pss_cons _ _ _ _ _ (@ps_set _ _ 2 _ _ _ _ sc__law_sum.nd rfl (by walk_at "e") (@pe_int _ _ _ _) (by rfl) (by walk_at "i")) (@pss_cons _ _ _ _ _ (@ps_whileM _ _ _ _ _ _ PassesOwn.never (@tu_cmp _ _ _ _ _ _ _ _ om_lt (@vw _ 2 _ _ (by walk_at "v")) (@pe_callB _ _ _ _ _ _ _ _ _ (kLen (K := K)) rfl T.z_len (by rfl) (@pa1 _ _ _ (@vw _ 0 _ _ (by walk_at "v")) (by rfl)) (by decide) (by decide) (by rfl) (by rfl)) (by walk_at "n")) (@pss_cons _ _ _ _ _ (@ps_for _ _ _ _ _ _ _ _ PassesOwn.never rfl (@pi_range1 _ _ _ _ _ _ rfl T.z_range (@pa1 _ _ _ (@pe_callB _ _ _ _ _ _ _ _ _ (kLen (K := K)) rfl T.z_len (by rfl) (@pa1 _ _ _ (@vw _ 0 _ _ (by walk_at "v")) (by rfl)) (by decide) (by decide) (by rfl) (by rfl)) (by rfl)) (by rfl)) (@pg_name _ _ 3 _ sc__law_sum.nd rfl (by walk_at "e") (by walk_at "i")) (@pss_one _ _ _ (@ps_if _ _ _ _ _ _ _ _ (@tu_cmp _ _ _ _ _ _ _ _ (kEq (K := K) hu) (@pe_op _ _ _ _ _ _ _ _ om_mod (@pe_op _ _ _ _ _ _ _ _ om_div (@vw _ 3 _ _ (by walk_at "v")) (@vw _ 2 _ _ (by walk_at "v"))) (@pe_int _ _ _ _)) (@pe_int _ _ _ _) (by walk_at "n")) (@pss_cons _ _ _ _ _ (@ps_set _ _ 4 _ _ _ _ sc__law_sum.nd rfl (by walk_at "e") (@kIx _ K _ _ _ _ _ (@vw _ 1 _ _ (by walk_at "v")) (@vw _ 3 _ _ (by walk_at "v")) (by intro _ _; rfl) (by rfl)) (by rfl) (by walk_at "i")) (@pss_cons _ _ _ _ _ (@ps_set _ _ 5 _ _ _ _ sc__law_sum.nd rfl (by walk_at "e") (@kIx _ K _ _ _ _ _ (@vw _ 1 _ _ (by walk_at "v")) (@pe_op _ _ _ _ _ _ _ _ (kAdd (K := K)) (@vw _ 3 _ _ (by walk_at "v")) (@vw _ 2 _ _ (by walk_at "v"))) (by intro _ _; rfl) (by rfl)) (by rfl) (by walk_at "i")) (@pss_cons _ _ _ _ _ (@ps_asg _ _ _ _ _ _ (@pe_op _ _ _ _ _ _ _ _ (kAdd (K := K)) (@vw _ 4 _ _ (by walk_at "v")) (@vw _ 5 _ _ (by walk_at "v"))) (@pg_sub _ _ _ _ _ _ _ (@vw _ 1 _ _ (by walk_at "v")) (@vw _ 3 _ _ (by walk_at "v")) set_any (by intro _; rfl)) (by rfl) (by rfl) (by rfl)) (@pss_one _ _ _ (@ps_asg _ _ _ _ _ _ (@pe_op _ _ _ _ _ _ _ _ om_sub (@vw _ 4 _ _ (by walk_at "v")) (@vw _ 5 _ _ (by walk_at "v"))) (@pg_sub _ _ _ _ _ _ _ (@vw _ 1 _ _ (by walk_at "v")) (@pe_op _ _ _ _ _ _ _ _ (kAdd (K := K)) (@vw _ 3 _ _ (by walk_at "v")) (@vw _ 2 _ _ (by walk_at "v"))) set_any (by intro _; rfl)) (by rfl) (by rfl) (by rfl)))))) (@pss_nil _))) (by intro _; rfl)) (@pss_one _ _ _ (@ps_set _ _ 2 _ _ _ _ sc__law_sum.nd rfl (by walk_at "e") (@pe_op _ _ _ _ _ _ _ _ om_mul (@pe_int _ _ _ _) (@vw _ 2 _ _ (by walk_at "v"))) (by rfl) (by walk_at "i"))))) (@pss_cons _ _ _ _ _ (@ps_compB _ _ _ _ _ _ _ (["_law_some", "_law_weights"]) 1 [1] _ _ _ _ 6 _ _ _ rfl sc__law_sum.nd rfl rfl (@pi_range1 _ _ _ _ _ _ rfl T.z_range (@pa1 _ _ _ (@pe_callB _ _ _ _ _ _ _ _ _ (kLen (K := K)) rfl T.z_len (by rfl) (@pa1 _ _ _ (@vw _ 1 _ _ (by walk_at "v")) (by rfl)) (by decide) (by decide) (by rfl) (by rfl)) (by rfl)) (by rfl)) (by kernel_rfl) rfl rfl (by kernel_rfl) (fun c => @pg_name _ _ 0 _ (show (["_law_some", "_law_weights"] : List Str).Nodup by decide +kernel) rfl (by walk_at "e") (by walk_at "i")) (go_name (by decide)) (fun c => @pts_one _ _ _ (@tu_cmp _ _ _ _ _ _ _ _ (kNe (K := K) hu) (@kIx _ K _ _ _ _ _ (@vw _ 1 _ _ (by walk_at "v")) (@vw _ 0 _ _ (by walk_at "v")) (by intro _ _; rfl) (by rfl)) (@pe_int _ _ _ _) (by walk_at "n"))) (fun c => (@pe_tup _ _ _ _ _ (@pa_cons _ _ _ _ _ (@vw _ 0 _ _ (by walk_at "v")) (@pa1 _ _ _ (@kIx _ K _ _ _ _ _ (@vw _ 1 _ _ (by walk_at "v")) (@vw _ 0 _ _ (by walk_at "v")) (by intro _ _; rfl) (by rfl)) (by rfl)) (by rfl)))) (by rfl) (by intro _; rfl)) (@pss_one _ _ _ (@ps_ret _ _ _ _ (@pe_tup _ _ _ _ _ (@pa_cons _ _ _ _ _ (@pe_op _ _ _ _ _ _ _ _ om_sub (@kBitlen _ K _ _ _ _ (@pe_callB _ _ _ _ _ _ _ _ _ (kLen (K := K)) rfl T.z_len (by rfl) (@pa1 _ _ _ (@vw _ 0 _ _ (by walk_at "v")) (by rfl)) (by decide) (by decide) (by rfl) (by rfl)) (by rfl) (by rfl) (by rfl)) (@pe_int _ _ _ _)) (@pa1 _ _ _ (@pe_callTy _ _ _ _ _ _ _ _ _ (kTuple (K := K)) rfl T.z_tuple (by rfl) (@pa1 _ _ _ (@vw _ 6 _ _ (by walk_at "v")) (by rfl)) (by decide) (by decide) (by rfl) (by rfl)) (by rfl)) (by rfl))))))))), ?_⟩
  have h64 : 2 ^ m <= 64 := Nat.pow_le_pow_right (n := 2) (by decide) m6
  have hin := cross_in m (by omega)
  have hpow : ∀ s, s < m -> 2 ^ s < 2 ^ m := fun s hs => Nat.pow_lt_pow_right (by decide) hs
  have hpos : ∀ s : Nat, 0 < 2 ^ s := fun s => Nat.two_pow_pos s
  have hbits := bits_pow m (by omega)
  have ew : ∀ k, k < 2 ^ m -> hadF (valF bs) m k = wt m (valF bs) k := fun k hk => had_wt hk
  generalize hM : 2 ^ m = M at *
  refine seq_at (fun σ H' => ∃ l : Addr, σ = [some (.ref p), some (.ref l), none, none, none, none, none] /\ Same H H' /\ H l = none /\ H' l = some (.lst (ixL (hadF (valF bs) 0) M))) ?_ ?_ (by walk_at "sm")
  . refine .inr ⟨⟨_, hp⟩, ?_⟩
    refine comp_tup (xs := bs.map V.bl) (fun i ys H' => H' = H /\ ys = ixL (valF bs) i) ⟨rfl, rfl⟩ (fun i ys H' _ ⟨e, _⟩ => by rw [e]; exact hp) (fun i ys H' hi ⟨_, e⟩ => by
      rw [List.length_map] at hi
      rw [e, ixL_len]; exact small1000 (by omega)) ?_ ?_
    . rintro i x ys H' hx ⟨rfl, rfl⟩
      have hi : i < bs.length := by
        have := (List.getElem?_eq_some_iff.mp hx).1
        rwa [List.length_map] at this
      have ex : x = .bl bs[i] := by
        rw [List.getElem?_map, List.getElem?_eq_getElem hi] at hx
        exact (Option.some.inj hx).symm
      subst ex
      refine ⟨.inr (.inl ⟨by decide, by decide⟩), rfl, ?_⟩
      rw [ixL_succ, valF_get hi]
      unfold valB
      cases bs[i] <;> rfl
    . rintro ys H' ⟨rfl, rfl⟩ l hl
      rw [List.length_map, hb]
      exact ⟨l, rfl, Same.upd hl, hl, upd_same⟩
  rintro σ H1 ⟨l, rfl, s1, hl, g1⟩
  refine seq_at (fun σ H' => σ = [some (.ref p), some (.ref l), some (.int (2 ^ 0 : Nat)), none, none, none, none] /\ H1 = H') ⟨rfl, rfl⟩ ?_ (by walk_at "sm")
  rintro σ _ ⟨rfl, rfl⟩
  refine seq_at (fun σ H' => ∃ z2 z3 z4 z5 : Option V, σ = [some (.ref p), some (.ref l), z2, z3, z4, z5, none] /\ Same H H' /\ H' l = some (.lst (ixL (hadF (valF bs) m) M))) ?_ ?_ (by walk_at "sm")
  . refine ⟨fun f σ H' => ∃ (s : Nat) (z3 z4 z5 : Option V), s <= m /\ f = m - s /\ σ = [some (.ref p), some (.ref l), some (.int (2 ^ s : Nat)), z3, z4, z5, none] /\ Same H H' /\ H' l = some (.lst (ixL (hadF (valF bs) s) M)), ⟨m, 0, none, none, none, Nat.zero_le _, rfl, rfl, s1, g1⟩, ?_⟩
    clear g1 s1
    rintro f σ H1 ⟨s, z3, z4, z5, hs, rfl, rfl, s1, g1⟩
    refine ⟨M, .inr ⟨_, s1.sqT hp, by rw [List.length_map, hb]⟩, ?_⟩
    refine ite2 (fun e => ?_) (fun e => ?_)
    . have hlt : 2 ^ s < M := by have : ((2 ^ s : Nat) : Int) < (M : Int) := of_decide_eq_true e; omega
      have hsm : s < m := by
        rcases Nat.lt_or_ge s m with z | z
        . exact z
        . have : s = m := by omega
          subst this; omega
      have hin := hin s hsm
      have hps := hpos s
      have e2 : ((2 ^ (s + 1) : Nat) : Int) = 2 * ((2 ^ s : Nat) : Int) := by rw [Nat.pow_succ, Nat.mul_comm, Int.natCast_mul]; rfl
      have ehad : hadF (valF bs) (s + 1) = crossF (hadF (valF bs) s) (2 ^ s) := rfl
      generalize hadF (valF bs) s = g at *
      generalize 2 ^ s = st at *
      refine seq_at (fun σ H' => ∃ z3 z4 z5 : Option V, σ = [some (.ref p), some (.ref l), some (.int (st : Nat)), z3, z4, z5, none] /\ Same H H' /\ H' l = some (.lst (ixL (crossF g st) M))) ?_ ?_ (by walk_at "sm")
      . refine ⟨M, .inr ⟨_, s1.sqT hp, by rw [List.length_map, hb]⟩, (M : Int), rfl, by omega, by omega, ?_⟩
        refine for_range (fun i σ H' => ∃ z3 z4 z5 : Option V, σ = [some (.ref p), some (.ref l), some (.int (st : Nat)), z3, z4, z5, none] /\ Same H H' /\ H' l = some (.lst (ixL (mixF g st i) M))) ⟨z3, z4, z5, rfl, s1, by rw [g1, ixL_congr fun k _ => (mix_zero g st k).symm]⟩ ?_ ?_
        . rintro i σ H2 hi ⟨z3, z4, z5, rfl, s2, g2⟩
          have hi' : i < M := by omega
          rw [show (0 : Int) + (i : Int) = (i : Int) from Int.zero_add _]
          dsimp only [gName]
          refine ⟨okDiv_of (by omega) (Int.le_trans (Int.ofNat_le.mpr (show st <= 64 by omega)) (by decide)), by decide, ?_⟩
          have ed : ((i : Int) / (st : Int) % 2 == 0) = decide (i / st % 2 = 0) := by
            rw [<- Int.natCast_ediv]
            generalize i / st = d
            rw [Bool.eq_iff_iff]
            simp only [beq_iff_eq, decide_eq_true_eq]
            omega
          refine ite2 (fun e => ?_) (fun e => ?_)
          . have e' : i / st % 2 = 0 := by
              have : ((i : Int) / (st : Int) % 2 == 0) = true := by simpa using e
              rw [ed] at this
              exact of_decide_eq_true this
            have hj : i + st < M := hin i hi' (by omega)
            obtain ⟨o1, o2⟩ := mix_old (f := g) hps e'
            have c1 : (i : Int) + (st : Int) = ((i + st : Nat) : Int) := by omega
            refine ⟨_, _, .inl (.of g2), ixL_at hi', _, .int (mixF g st i (i + st)), .inl (.of g2), by rw [c1]; exact ixL_at hj, ?_⟩
            dsimp only [gName]
            rw [o1, o2]
            refine ⟨_, i, g2, by rw [ixL_len]; exact ixN_nat hi', ?_⟩
            refine ⟨_, i + st, upd_same, by rw [c1, List.length_set, ixL_len]; exact ixN_nat hj, ?_⟩
            refine ⟨some (.int i), some (.int (g i)), some (.int (g (i + st))), rfl, same_put (same_put s2 hl) hl, ?_⟩
            rw [upd_same, ixL_set, ixL_set]
            congr 2
            exact ixL_congr fun k hk => (mix_next hps e' k).symm
          . have e' : ¬ i / st % 2 = 0 := fun z => by
              rw [<- decide_eq_true_iff (p := i / st % 2 = 0), <- ed] at z
              exact e (by simpa using z)
            refine ⟨some (.int i), z4, z5, rfl, s2, ?_⟩
            rw [g2, ixL_congr fun k _ => (mix_skip hps e' k).symm]
        . rintro σ H2 ⟨z3, z4, z5, rfl, s2, g2⟩
          refine ⟨z3, z4, z5, rfl, s2, ?_⟩
          rw [g2, Int.toNat_natCast, ixL_congr fun k hk => mix_end hk]
      clear g1 s1
      rintro σ H1 ⟨z3, z4, z5, rfl, s1, g1⟩
      refine ⟨.inr (.inl ⟨by decide, by decide⟩), m - (s + 1), by omega, s + 1, z3, z4, z5, hsm, rfl, ?_, s1, ?_⟩
      . rw [e2]; rfl
      . rw [ehad]; exact g1
    . have hsm : s = m := by
        rcases Nat.lt_or_ge s m with z | z
        . have := hpow s z
          exact (e (decide_eq_true (by omega))).elim
        . omega
      subst hsm
      exact ⟨_, z3, z4, z5, rfl, s1, g1⟩
  clear g1 s1
  rintro σ H1 ⟨z2, z3, z4, z5, rfl, s1, g1⟩
  rw [ixL_congr ew] at g1
  generalize wt m (valF bs) = g at *
  refine seq_at (fun σ H' => ∃ (t : Addr) (zs : List V), σ = [some (.ref p), some (.ref l), z2, z3, z4, z5, some (.ref t)] /\ Same H H' /\ H' t = some (.lst zs) /\ Reps K H' ((termG g M).map termD) zs) ?_ ?_ (by walk_at "sm")
  . refine ⟨M, .inl ⟨_, .of g1, ixL_len.symm⟩, (M : Int), rfl, by omega, by omega, ?_⟩
    refine comp_range (fun i zs H' => Same H1 H' /\ Reps K H' ((termG g i).map termD) zs /\ zs.length <= i) ⟨Same.refl _, reps_nil, Nat.le_refl _⟩ (fun i zs H' hi ⟨_, _, e⟩ => small1000 (by omega)) ?_ ?_
    . rintro i zs H2 hi ⟨s2, r2, l2⟩
      have hi' : i < M := by omega
      rw [show (0 : Int) + (i : Int) = (i : Int) from Int.zero_add _]
      have et : termG g (i + 1) = termG g i ++ (if g i = 0 then [] else [(i, g i)]) := rfl
      rw [et]
      have gi : SqL K H2 l (ixL g M) := s2.sqL (.of g1)
      refine ⟨_, _, .inl gi, ixL_at hi', ?_⟩
      refine ite2 (fun e => ?_) (fun e => ?_)
      . have w0 : ¬ g i = 0 := by simpa using e
        rw [if_neg w0, List.map_append]
        refine ⟨_, _, .inl gi, ixL_at hi', small_le (show 2 <= 1000 by decide), fun k hk => ⟨s2.trans (Same.upd hk), ?_, by rw [List.length_append]; exact Nat.succ_le_succ l2⟩⟩
        exact Reps.append (Reps.same (Same.upd hk) _ _ r2) (reps_cons (rep_tup1 (xs := [.int i, .int (g i)]) upd_same (reps_cons rep_int (reps_cons rep_int reps_nil))) reps_nil)
      . have w0 : g i = 0 := by simpa using e
        rw [if_pos w0, List.append_nil]
        exact ⟨s2, r2, Nat.le_succ_of_le l2⟩
    . rintro zs H2 ⟨s2, r2, l2⟩ t ht
      rw [Int.toNat_natCast] at r2
      exact ⟨t, zs, rfl, s1.trans (s2.trans (Same.upd ht)), upd_same, Reps.same (Same.upd ht) _ _ r2⟩
  clear g1 s1
  rintro σ H1 ⟨t, zs, rfl, s1, g1, r1⟩
  refine ⟨M, .inr ⟨_, s1.sqT hp, by rw [List.length_map, hb]⟩, rfl, ?_⟩
  dsimp only [mBitlen, tC, mSub]
  rw [hbits]
  have : ((m + 1 : Nat) : Int) - 1 = (m : Int) := by omega
  rw [this]
  refine ⟨_, .inl ⟨.of g1, fun k hk => ⟨small_le (show 2 <= 1000 by decide), fun k2 hk2 => ?_⟩⟩⟩
  have S := (Same.upd (o := .tup zs) hk).trans (Same.upd (o := .tup [.int m, .ref k]) hk2)
  refine q _ _ (s1.trans S) (.of (rep_tup1 upd_same (reps_cons rep_int (reps_cons (rep_tup1 ?_ (Reps.same S _ _ r1)) reps_nil))))
  exact Same.upd hk2 _ _ upd_same
def sp_power : Sp := fun vs H Q _ => match vs with
  | [.int b, .int t] => ∃ m : Nat, t = m /\ m <= 64 /\ ((-(2 ^ 64) < b /\ b < 2 ^ 64) \/ (Nb b 100 /\ m <= 12)) /\ Q (.int (b ^ m)) H
  | _ => False
theorem ok_power_of : FnOk P w K mg base CX0 1 T.f_power_of T.d_power_of ["base", "times"] sp_power := by
  refine T.F_power_of.ok sc_power_of (fun vs H Q E h => by unfold sp_power at h; split at h <;> first | rfl | exact h.elim) (fun cdv A outer s H vs Q E hr h => ?_)
  have hu := hu60 hr
  match vs, h with
  | [.int b, .int t], h =>
  obtain ⟨m, e1, h1, b1, q⟩ := h
  subst e1
  refine ⟨_, (@pss_cons _ _ _ _ _ (@ps_set _ _ 2 _ _ _ _ sc_power_of.nd rfl (by walk_at "e") (@pe_int _ _ _ _) (by rfl) (by walk_at "i")) (@pss_cons _ _ _ _ _ (@ps_for _ _ _ _ _ _ _ _ PassesOwn.never rfl (@pi_range1 _ _ _ _ _ _ rfl T.z_range (@pa1 _ _ _ (@vw _ 1 _ _ (by walk_at "v")) (by rfl)) (by rfl)) (@pg_name _ _ 3 _ sc_power_of.nd rfl (by walk_at "e") (by walk_at "i")) (@pss_one _ _ _ (@ps_set _ _ 2 _ _ _ _ sc_power_of.nd rfl (by walk_at "e") (@pe_op _ _ _ _ _ _ _ _ om_mul (@vw _ 2 _ _ (by walk_at "v")) (@vw _ 0 _ _ (by walk_at "v"))) (by rfl) (by walk_at "i"))) (by intro _; rfl)) (@pss_one _ _ _ (@ps_ret _ _ _ _ (@vw _ 2 _ _ (by walk_at "v")))))), ?_⟩
  refine ⟨m, rfl, by omega, by omega, ?_⟩
  refine for_range (fun i σ H' => H' = H /\ ∃ z : Option V, σ = [some (.int b), some (.int m), some (.int (b ^ i)), z]) ⟨rfl, none, by rw [Int.pow_zero]; rfl⟩ ?_ ?_
  . rintro i σ H' hi ⟨rfl, z, rfl⟩
    have hi' : i < m := by omega
    have okm : okMul (b ^ i) b := by
      rcases b1 with b1 | ⟨b1, b2⟩
      . exact .inr (.inr b1)
      . exact Nb.okMul ((b1.pow i).up (by omega)) (b1.up (by omega))
    refine ⟨okm, rfl, some (.int (0 + (i : Int))), ?_⟩
    rw [Int.pow_succ]
    rfl
  . rintro σ H' ⟨rfl, z, rfl⟩
    have : (m : Int).toNat = m := by omega
    rw [this]
    exact q
def sp_two_to : Sp := fun vs H Q _ => match vs with
  | [.int n] => ∃ m : Nat, n = m /\ m <= 64 /\ Q (.int (2 ^ m : Nat)) H
  | _ => False
theorem sp_two_to_mono : SpMono sp_two_to := fun vs H Q Q' E h q => by
  unfold sp_two_to at *
  split at q
  . revert q; repeat' first | exact h _ _ | exact newL_mono h | walk_at "m"
  . exact q.elim
theorem ok_two_to : FnOk P w K mg base CX0 2 T.f_two_to T.d_two_to ["n"] sp_two_to := by
  have G_power_of := ok_power_of (P := P) (w := w) (base := base) T
  refine T.F_two_to.ok sc_two_to (fun vs H Q E h => by unfold sp_two_to at h; split at h <;> first | rfl | exact h.elim) (fun cdv A outer s H vs Q E hr h => ?_)
  have hu := hu60 hr
  have hr_power_of := hr.mono (show 1 <= _ by decide)
  match vs, h with
  | [.int n], h =>
  obtain ⟨m, e1, h1, q⟩ := h
  subst e1
  refine ⟨_, (@pss_one _ _ _ (@ps_ret _ _ _ _ (@pe_call _ _ _ _ _ _ _ _ _ _ _ _ _ _ _ _ G_power_of hr_power_of rfl T.m_power_of T.F_power_of.kp T.b_power_of .nil pass0 (@pa_cons _ _ _ _ _ (@pe_int _ _ _ _) (@pa1 _ _ _ (@vw _ 0 _ _ (by walk_at "v")) (by rfl)) (by rfl)) (by decide) (by rfl) (by rfl)))), ?_⟩
  refine ⟨m, rfl, h1, .inl ⟨by decide, by decide⟩, ?_⟩
  have e : (2 : Int) ^ m = ((2 ^ m : Nat) : Int) := by rw [Int.natCast_pow]; rfl
  rw [e]
  exact q
def sp_crossed (K : W.Frag) : Sp := fun vs H Q _ => match vs with
  | [.ref p, .int s, .int k] => ∃ (g : Nat -> Int) (M sn kn : Nat), SqL K H p (ixL g M) /\ s = sn /\ k = kn /\ kn < M /\ 0 < sn /\ sn <= 64 /\ (kn / sn % 2 ≠ 1 -> kn + sn < M) /\ Q (.int (crossF g sn kn)) H
  | _ => False
theorem sp_crossed_mono : SpMono (sp_crossed K) := fun vs H Q Q' E h q => by
  unfold sp_crossed at *
  split at q
  . revert q; repeat' first | exact h _ _ | exact newL_mono h | walk_at "m"
  . exact q.elim
theorem ok_crossed : FnOk P w K mg base CX0 1 T.f_crossed T.d_crossed ["numbers", "step", "place"] (sp_crossed K) := by
  refine T.F_crossed.ok sc_crossed (fun vs H Q E h => by unfold sp_crossed at h; split at h <;> first | rfl | exact h.elim) (fun cdv A outer s H vs Q E hr h => ?_)
  have hu := hu60 hr
  match vs, h with
  | [.ref p, .int s, .int k], h =>
  obtain ⟨g, M, sn, kn, hp, e1, e2, h1, h2, h3, h4, q⟩ := h
  subst e1 e2
  refine ⟨_, (@pss_cons _ _ _ _ _ (@ps_if _ _ _ _ _ _ _ _ (@tu_cmp _ _ _ _ _ _ _ _ (kEq (K := K) hu) (@pe_op _ _ _ _ _ _ _ _ om_mod (@pe_op _ _ _ _ _ _ _ _ om_div (@vw _ 2 _ _ (by walk_at "v")) (@vw _ 1 _ _ (by walk_at "v"))) (@pe_int _ _ _ _)) (@pe_int _ _ _ _) (by walk_at "n")) (@pss_one _ _ _ (@ps_ret _ _ _ _ (@pe_op _ _ _ _ _ _ _ _ om_sub (@kIx _ K _ _ _ _ _ (@vw _ 0 _ _ (by walk_at "v")) (@pe_op _ _ _ _ _ _ _ _ om_sub (@vw _ 2 _ _ (by walk_at "v")) (@vw _ 1 _ _ (by walk_at "v"))) (by intro _ _; rfl) (by rfl)) (@kIx _ K _ _ _ _ _ (@vw _ 0 _ _ (by walk_at "v")) (@vw _ 2 _ _ (by walk_at "v")) (by intro _ _; rfl) (by rfl))))) (@pss_nil _)) (@pss_one _ _ _ (@ps_ret _ _ _ _ (@pe_op _ _ _ _ _ _ _ _ (kAdd (K := K)) (@kIx _ K _ _ _ _ _ (@vw _ 0 _ _ (by walk_at "v")) (@vw _ 2 _ _ (by walk_at "v")) (by intro _ _; rfl) (by rfl)) (@kIx _ K _ _ _ _ _ (@vw _ 0 _ _ (by walk_at "v")) (@pe_op _ _ _ _ _ _ _ _ (kAdd (K := K)) (@vw _ 2 _ _ (by walk_at "v")) (@vw _ 1 _ _ (by walk_at "v"))) (by intro _ _; rfl) (by rfl)))))), ?_⟩
  refine ⟨okDiv_of (by omega) (Int.le_trans (Int.ofNat_le.mpr h3) (by decide)), by decide, ?_⟩
  unfold crossF at q
  have ed : ((kn : Int) / (sn : Int) % 2 == 1) = decide (kn / sn % 2 = 1) := by
    rw [<- Int.natCast_ediv]
    generalize kn / sn = d
    rw [Bool.eq_iff_iff]
    simp only [beq_iff_eq, decide_eq_true_eq]
    omega
  dsimp only [tC, mEq, isB]
  rw [ed]
  refine ite2 (fun e => ?_) (fun e => ?_)
  . have e' : kn / sn % 2 = 1 := by simpa using e
    rw [if_pos e'] at q
    have hge : sn <= kn := by
      rcases Nat.lt_or_ge kn sn with z | z
      . rw [Nat.div_eq_of_lt z] at e'; cases e'
      . exact z
    refine ⟨_, .int (g (kn - sn)), .inl hp, ?_, _, _, .inl hp, ixL_at h1, q⟩
    have : (kn : Int) - (sn : Int) = ((kn - sn : Nat) : Int) := by omega
    rw [this]
    exact ixL_at (by omega)
  . have e' : ¬ kn / sn % 2 = 1 := by simpa using e
    rw [if_neg e'] at q
    refine ⟨_, _, .inl hp, ixL_at h1, _, .int (g (kn + sn)), .inl hp, ?_, q⟩
    have : (kn : Int) + (sn : Int) = ((kn + sn : Nat) : Int) := by omega
    rw [this]
    exact ixL_at (h4 e')
def sp_times (K : W.Frag) : Sp := fun vs H Q _ => match vs with
  | [.ref p] => ∃ (g : Nat -> Int) (m : Nat), SqL K H p (ixL g (2 ^ m)) /\ m <= 6 /\ newL H Q (ixL (hadF g m) (2 ^ m))
  | _ => False
theorem ok_times_signs : FnOk P w K mg base CX0 2 T.f_times_signs T.d_times_signs ["numbers"] (sp_times K) := by
  have G_crossed := ok_crossed (P := P) (w := w) (base := base) T
  refine T.F_times_signs.ok sc_times_signs (fun vs H Q E h => by unfold sp_times at h; split at h <;> first | rfl | exact h.elim) (fun cdv A outer s H vs Q E hr h => ?_)
  have hu := hu60 hr
  have mo1 : SpMono (sp_crossed K) := sp_crossed_mono
  have hr_crossed := hr.mono (show 1 <= _ by decide)
  match vs, h with
  | [.ref p], h =>
  obtain ⟨g, m, hp, m6, q⟩ := h
  refine ⟨_, (@pss_cons _ _ _ _ _ (@ps_set _ _ 1 _ _ _ _ sc_times_signs.nd rfl (by walk_at "e") (@pe_callTy _ _ _ _ _ _ _ _ _ (kList (K := K)) rfl T.z_list (by rfl) (@pa1 _ _ _ (@vw _ 0 _ _ (by walk_at "v")) (by rfl)) (by decide) (by decide) (by rfl) (by rfl)) (by rfl) (by walk_at "i")) (@pss_cons _ _ _ _ _ (@ps_set _ _ 2 _ _ _ _ sc_times_signs.nd rfl (by walk_at "e") (@pe_int _ _ _ _) (by rfl) (by walk_at "i")) (@pss_cons _ _ _ _ _ (@ps_whileM _ _ _ _ _ _ PassesOwn.never (@tu_cmp _ _ _ _ _ _ _ _ om_lt (@vw _ 2 _ _ (by walk_at "v")) (@pe_callB _ _ _ _ _ _ _ _ _ (kLen (K := K)) rfl T.z_len (by rfl) (@pa1 _ _ _ (@vw _ 1 _ _ (by walk_at "v")) (by rfl)) (by decide) (by decide) (by rfl) (by rfl)) (by walk_at "n")) (@pss_cons _ _ _ _ _ (@ps_set _ _ 1 _ _ _ _ sc_times_signs.nd rfl (by walk_at "e") (@pe_compB _ _ _ _ _ _ _ (["place", "sums", "step"]) 1 ([1, 2]) _ _ _ _ rfl (@pi_range1 _ _ _ _ _ _ rfl T.z_range (@pa1 _ _ _ (@pe_callB _ _ _ _ _ _ _ _ _ (kLen (K := K)) rfl T.z_len (by rfl) (@pa1 _ _ _ (@vw _ 1 _ _ (by walk_at "v")) (by rfl)) (by decide) (by decide) (by rfl) (by rfl)) (by rfl)) (by rfl)) (by kernel_rfl) rfl rfl (by kernel_rfl) (fun c => @pg_name _ _ 0 _ (show (["place", "sums", "step"] : List Str).Nodup by decide +kernel) rfl (by walk_at "e") (by walk_at "i")) (go_name (by decide)) (fun c => @pts_nil _) (fun c => (@pe_call _ _ _ _ _ _ _ _ _ _ _ _ _ _ _ _ G_crossed hr_crossed rfl T.m_crossed T.F_crossed.kp T.b_crossed .nil pass0 (@pa_cons _ _ _ _ _ (@vw _ 1 _ _ (by walk_at "v")) (@pa_cons _ _ _ _ _ (@vw _ 2 _ _ (by walk_at "v")) (@pa1 _ _ _ (@vw _ 0 _ _ (by walk_at "v")) (by rfl)) (by rfl)) (by rfl)) (by decide) (by rfl) (by rfl))) (by intro _; rfl)) (by rfl) (by walk_at "i")) (@pss_one _ _ _ (@ps_set _ _ 2 _ _ _ _ sc_times_signs.nd rfl (by walk_at "e") (@pe_op _ _ _ _ _ _ _ _ om_mul (@vw _ 2 _ _ (by walk_at "v")) (@pe_int _ _ _ _)) (by rfl) (by walk_at "i"))))) (@pss_one _ _ _ (@ps_ret _ _ _ _ (@vw _ 1 _ _ (by walk_at "v"))))))), ?_⟩
  have hin := cross_in m (by omega)
  have hpow : ∀ s, s < m -> 2 ^ s < 2 ^ m := fun s hs => Nat.pow_lt_pow_right (by decide) hs
  have hpm : ∀ s, s < m -> 2 ^ s <= 64 := fun s hs => Nat.le_trans (Nat.le_of_lt (hpow s hs)) (Nat.pow_le_pow_right (n := 2) (j := 6) (by decide) m6)
  have h64 : 2 ^ m <= 64 := Nat.pow_le_pow_right (n := 2) (by decide) m6
  have hpos : ∀ s : Nat, 0 < 2 ^ s := fun s => Nat.two_pow_pos s
  refine ⟨_, .inl hp, fun l hl => ?_⟩
  dsimp only [gName]
  have h0 : ixL g (2 ^ m) = ixL (hadF g 0) (2 ^ m) := rfl
  rw [h0]
  refine seq_at (fun σ H' => σ = [some (.ref p), some (.ref l), some (.int (2 ^ 0 : Nat))] /\ upd H l (.lst (ixL (hadF g 0) (2 ^ m))) = H') ⟨rfl, rfl⟩ ?_ (by walk_at "sm")
  rintro σ _ ⟨rfl, rfl⟩
  generalize hM : 2 ^ m = M at *
  have hMr : (M : Int) < 2 ^ 62 := Int.lt_of_le_of_lt (Int.ofNat_le.mpr h64) (by decide)
  refine ⟨fun f σ H' => ∃ (s : Nat) (l : Addr), s <= m /\ f = m - s /\ σ = [some (.ref p), some (.ref l), some (.int (2 ^ s : Nat))] /\ Same H H' /\ H l = none /\ H' l = some (.lst (ixL (hadF g s) M)), ⟨m, 0, l, Nat.zero_le _, rfl, rfl, Same.upd hl, hl, upd_same⟩, ?_⟩
  clear hl
  rintro f σ H1 ⟨s, l, hs, rfl, rfl, s1, hl, g1⟩
  refine ⟨M, .inl ⟨_, .of g1, ixL_len.symm⟩, ?_⟩
  refine ite2 (fun e => ?_) (fun e => ?_)
  . have hlt : 2 ^ s < M := by have : ((2 ^ s : Nat) : Int) < (M : Int) := of_decide_eq_true e; omega
    have hsm : s < m := by
      rcases Nat.lt_or_ge s m with z | z
      . exact z
      . have : s = m := by omega
        subst this; omega
    refine ⟨M, .inl ⟨_, .of g1, ixL_len.symm⟩, (M : Int), rfl, by omega, by omega, ?_⟩
    refine comp_range (fun i ys H' => H1 = H' /\ ys = (ixL (hadF g (s + 1)) M).take i) ⟨rfl, rfl⟩ (fun i ys H' hi ⟨_, e⟩ => by
      rw [e]; exact small1000 (by rw [List.length_take, ixL_len]; omega)) ?_ ?_
    . rintro i ys H' hi ⟨rfl, rfl⟩
      have hi' : i < M := by omega
      refine ⟨hadF g s, M, 2 ^ s, i, .of g1, rfl, by omega, hi', hpos s, hpm s hsm, hin s hsm i hi', rfl, ?_⟩
      rw [ixL_take hi']
      rfl
    . rintro ys H' ⟨rfl, rfl⟩ l' hl'
      refine ⟨.inr (.inr ⟨by decide, by decide⟩), m - (s + 1), by omega, s + 1, l', hsm, rfl, ?_, s1.trans (Same.upd hl'), s1.free hl', ?_⟩
      . show [some (V.ref p), some (V.ref l'), some (V.int (((2 ^ s : Nat) : Int) * 2))] = _
        rw [Nat.pow_succ, Int.natCast_mul]
        rfl
      . rw [Int.toNat_natCast, List.take_of_length_le (by rw [ixL_len]; omega)]
        exact upd_same
  . have hsm : s = m := by
      rcases Nat.lt_or_ge s m with z | z
      . have := hpow s z
        exact (e (decide_eq_true (by omega))).elim
      . omega
    subst hsm
    exact q l H1 hl s1 g1
def sp_weights (K : W.Frag) : Sp := fun vs H Q _ => match vs with
  | [v] => ∃ (m : Nat) (g : Nat -> Int), SumAt K H v m (termG g (2 ^ m)) /\ m <= 6 /\ newL H Q (ixL g (2 ^ m))
  | _ => False
theorem ok_weights_of : FnOk P w K mg base CX0 3 T.f_weights_of T.d_weights_of ["one"] (sp_weights K) := by
  have G_two_to := ok_two_to (P := P) (w := w) (base := base) T
  refine T.F_weights_of.ok sc_weights_of (fun vs H Q E h => by unfold sp_weights at h; split at h <;> first | rfl | exact h.elim) (fun cdv A outer s H vs Q E hr h => ?_)
  have hu := hu60 hr
  have mo1 : SpMono sp_two_to := sp_two_to_mono
  have hr_two_to := hr.mono (show 2 <= _ by decide)
  match vs, h with
  | [v], h =>
  obtain ⟨m, g, S, m6, q⟩ := h
  obtain ⟨a, b, vs, rfl, ha, hb, hr'⟩ := id S.at_
  have h64 : 2 ^ m <= 64 := Nat.pow_le_pow_right (n := 2) (by decide) m6
  have i0 : (0 : Int) <= ((2 ^ m : Nat) : Int) := Int.natCast_nonneg _
  have i1 : ((2 ^ m : Nat) : Int) <= 64 := Int.ofNat_le.mpr h64
  have hvl : vs.length = (termG g (2 ^ m)).length := by have := hr'.length; rw [List.length_map] at this; omega
  refine ⟨_, (@pss_cons _ _ _ _ _ (@ps_set _ _ 1 _ _ _ _ sc_weights_of.nd rfl (by walk_at "e") (@pe_op _ _ _ _ _ _ _ _ om_mul (@pe_lst _ _ _ _ (@pa1 _ _ _ (@pe_int _ _ _ _) (by rfl))) (@pe_call _ _ _ _ _ _ _ _ _ _ _ _ _ _ _ _ G_two_to hr_two_to rfl T.m_two_to T.F_two_to.kp T.b_two_to .nil pass0 (@pa1 _ _ _ (@kIx _ K _ _ _ _ _ (@vw _ 0 _ _ (by walk_at "v")) (@pe_int _ _ _ _) (by intro _ _; rfl) (by rfl)) (by rfl)) (by decide) (by rfl) (by rfl))) (by rfl) (by walk_at "i")) (@pss_cons _ _ _ _ _ (@ps_for _ _ _ _ _ _ _ _ PassesOwn.never rfl (@kSeq _ K _ _ _ (@kIx _ K _ _ _ _ _ (@vw _ 0 _ _ (by walk_at "v")) (@pe_int _ _ _ _) (by intro _ _; rfl) (by rfl)) (by rfl)) (@kTupA _ K _ _ _ _ 2 rfl (@pgs_cons _ _ _ _ _ (@pg_name _ _ 2 _ sc_weights_of.nd rfl (by walk_at "e") (by walk_at "i")) (@pgs_cons _ _ _ _ _ (@pg_name _ _ 3 _ sc_weights_of.nd rfl (by walk_at "e") (by walk_at "i")) (@pgs_nil _) (by rfl)) (by rfl)) (by rfl) (by rfl) (by rfl)) (@pss_one _ _ _ (@ps_asg _ _ _ _ _ _ (@vw _ 3 _ _ (by walk_at "v")) (@pg_sub _ _ _ _ _ _ _ (@vw _ 1 _ _ (by walk_at "v")) (@vw _ 2 _ _ (by walk_at "v")) set_any (by intro _; rfl)) (by rfl) (by rfl) (by rfl))) (by intro _; rfl)) (@pss_one _ _ _ (@ps_ret _ _ _ _ (@vw _ 1 _ _ (by walk_at "v")))))), ?_⟩
  refine ⟨small_le (show 1 <= 1000 by decide), fun p0 hp0 => ?_⟩
  have s0 := Same.upd (o := .lst [.int 0]) hp0
  refine ⟨_, .int m, .inr (sqT_same ha s0), rfl, m, rfl, by omega, p0, ((2 ^ m : Nat) : Int), _, rfl, rfl, upd_same, by omega, by omega, small_le (by show 1 * ((2 ^ m : Nat) : Int).toNat <= 1000; omega), fun l hl => ?_⟩
  rw [Int.toNat_natCast, repZ]
  dsimp only [gName]
  have s1 := s0.trans (Same.upd (o := .lst (ixL (fun _ => 0) (2 ^ m))) hl)
  have hl0 : H l = none := s0.free hl
  have g1 : upd (upd H p0 (.lst [.int 0])) l (.lst (ixL (fun _ => 0) (2 ^ m))) l = some (.lst (ixL (setT ((termG g (2 ^ m)).take 0) (fun _ => 0)) (2 ^ m))) := upd_same
  generalize upd (upd H p0 (.lst [.int 0])) l (.lst (ixL (fun _ => 0) (2 ^ m))) = H1 at *
  refine ⟨_, .ref b, .inr (sqT_same ha s1), rfl, .inr ⟨⟨_, sqT_same hb s1⟩, ?_⟩⟩
  refine for_tup (xs := vs) (fun i σ H' => ∃ z2 z3 : Option V, σ = [some (.ref a), some (.ref l), z2, z3] /\ Same H H' /\ H' l = some (.lst (ixL (setT ((termG g (2 ^ m)).take i) (fun _ => 0)) (2 ^ m)))) ⟨none, none, rfl, s1, g1⟩ (fun i σ H' _ ⟨_, _, _, s, _⟩ => sqT_same hb s) ?_ ?_
  . rintro i x σ H2 hx ⟨z2, z3, rfl, s2, g2⟩
    obtain ⟨⟨k, wgt⟩, c, hq, rfl, hc⟩ := reps_terms_at hr' hx
    have hk : k < 2 ^ m := (termG_mem (List.mem_of_getElem? hq)).1
    refine ⟨_, .inr (sqT_same hc s2), rfl, _, _, rfl, _, _, rfl, rfl, ?_⟩
    refine ⟨_, k, g2, by rw [ixL_len]; exact ixN_nat hk, ?_⟩
    refine ⟨_, _, rfl, same_put s2 hl0, ?_⟩
    rw [upd_same, ixL_set, setT_take hq]
  . rintro σ H2 ⟨z2, z3, rfl, s2, g2⟩
    rw [List.take_of_length_le (by omega), ixL_congr (g := g) fun j hj => by rw [setT_termG, if_pos hj]] at g2
    exact q l H2 hl0 s2 g2
def sp_within : Sp := fun vs H Q _ => match vs with
  | [.int x, .int y] => ∃ a b : Nat, x = a /\ y = b /\ Q (.bl (decide (a &&& b = a))) H
  | _ => False
theorem ok_within : FnOk P w K mg base CX0 1 T.f_within T.d_within ["subset", "other"] sp_within := by
  refine T.F_within.ok sc_within (fun vs H Q E h => by unfold sp_within at h; split at h <;> first | rfl | exact h.elim) (fun cdv A outer s H vs Q E hr h => ?_)
  have hu := hu60 hr
  match vs, h with
  | [.int x, .int y], h =>
  obtain ⟨a, b, e1, e2, q⟩ := h
  subst e1 e2
  refine ⟨_, (@pss_one _ _ _ (@ps_ret _ _ _ _ (@pe_cmpM _ _ _ _ _ _ _ _ (kEq (K := K) hu) (@pe_op _ _ _ _ _ _ _ _ om_and (@vw _ 0 _ _ (by walk_at "v")) (@vw _ 1 _ _ (by walk_at "v"))) (@vw _ 0 _ _ (by walk_at "v")) (by walk_at "n")))), ?_⟩
  have e : (false ^^ (Builtin.bitAnd (a : Int) (b : Int) == (a : Int))) = decide (a &&& b = a) := by
    rw [bitAnd_nat, Bool.false_xor, Bool.eq_iff_iff]
    simp only [beq_iff_eq, decide_eq_true_eq]
    omega
  show Q (.bl (false ^^ (Builtin.bitAnd (a : Int) (b : Int) == (a : Int)))) H
  rw [e]
  exact q
def sp_win (K : W.Frag) : Sp := fun vs H Q _ => match vs with
  | [v, .int z] => ∃ (m o : Nat) (g : Nat -> Int), SumAt K H v m (termG g (2 ^ m)) /\ m <= 6 /\ z = o /\ newL H Q (ixL (inF g o) (2 ^ m))
  | _ => False
theorem sp_win_mono : SpMono (sp_win K) := fun vs H Q Q' E h q => by
  unfold sp_win at *
  split at q
  . revert q; repeat' first | exact h _ _ | exact newL_mono h | walk_at "m"
  . exact q.elim
theorem ok_weights_within : FnOk P w K mg base CX0 4 T.f_weights_within T.d_weights_within ["one", "outer"] (sp_win K) := by
  have G_within := ok_within (P := P) (w := w) (base := base) T; have G_weights_of := ok_weights_of (P := P) (w := w) (base := base) T
  refine T.F_weights_within.ok sc_weights_within (fun vs H Q E h => by unfold sp_win at h; split at h <;> first | rfl | exact h.elim) (fun cdv A outer s H vs Q E hr h => ?_)
  have hu := hu60 hr
  have hr_within := hr.mono (show 1 <= _ by decide); have hr_weights_of := hr.mono (show 3 <= _ by decide)
  match vs, h with
  | [v, .int z], h =>
  obtain ⟨m, o, g, S, m6, e1, q⟩ := h
  subst e1
  have h64 : 2 ^ m <= 64 := Nat.pow_le_pow_right (n := 2) (by decide) m6
  refine ⟨_, (@pss_one _ _ _ (@ps_ret _ _ _ _ (@pe_compB _ _ _ _ _ _ _ (["subset", "weight", "outer"]) 2 [1] _ _ _ _ rfl (@kEnum _ K _ _ _ _ _ _ _ rfl T.z_enumerate (@pa1 _ _ _ (@pe_call _ _ _ _ _ _ _ _ _ _ _ _ _ _ _ _ G_weights_of hr_weights_of rfl T.m_weights_of T.F_weights_of.kp T.b_weights_of .nil pass0 (@pa1 _ _ _ (@vw _ 0 _ _ (by walk_at "v")) (by rfl)) (by decide) (by rfl) (by rfl)) (by rfl)) (by rfl) (by rfl)) (by kernel_rfl) rfl rfl (by kernel_rfl) (fun c => @kTup _ K _ _ _ _ 2 rfl (@pgs_cons _ _ _ _ _ (@pg_name _ _ 0 _ (show (["subset", "weight", "outer"] : List Str).Nodup by decide +kernel) rfl (by walk_at "e") (by walk_at "i")) (@pgs_cons _ _ _ _ _ (@pg_name _ _ 1 _ (show (["subset", "weight", "outer"] : List Str).Nodup by decide +kernel) rfl (by walk_at "e") (by walk_at "i")) (@pgs_nil _) (by rfl)) (by rfl)) (by rfl) (by rfl) (by rfl)) (go_tup (gos_cons gm_name (gms_cons gm_name gms_nil) (go_name (by decide)) (gos_cons gm_name gms_nil (go_name (by decide)) gos_nil))) (fun c => @pts_nil _) (fun c => (@pe_ifExp _ _ _ _ _ _ _ _ (@tu_val _ _ _ (@pe_call _ _ _ _ _ _ _ _ _ _ _ _ _ _ _ _ G_within hr_within rfl T.m_within T.F_within.kp T.b_within .nil pass0 (@pa_cons _ _ _ _ _ (@vw _ 0 _ _ (by walk_at "v")) (@pa1 _ _ _ (@vw _ 2 _ _ (by walk_at "v")) (by rfl)) (by rfl)) (by decide) (by rfl) (by rfl)) (by intro _; rfl)) (@vw _ 1 _ _ (by walk_at "v")) (@pe_int _ _ _ _))) (by intro _; rfl)))), ?_⟩
  refine ⟨m, g, S, m6, fun l0 H1 hl0 s1 g1 => ⟨⟨_, .of g1⟩, ?_⟩⟩
  refine comp_enum (xs := ixL g (2 ^ m)) (fun i zs H' => Same H1 H' /\ zs = ixL (inF g o) i) ⟨Same.refl _, rfl⟩ (fun i zs H' _ ⟨s, _⟩ => s.sqL (.of g1)) (fun i zs H' hi ⟨_, e⟩ => by rw [ixL_len] at hi; rw [e, ixL_len]; exact small1000 (by omega)) ?_ ?_
  . rintro i x zs H2 pp hx ⟨s2, rfl⟩ hpp
    have hi : i < 2 ^ m := by
      have := (List.getElem?_eq_some_iff.mp hx).1
      rwa [ixL_len] at this
    rw [ixL_get hi] at hx
    cases hx
    refine ⟨pp, _, rfl, .of upd_same, rfl, _, _, rfl, _, _, rfl, rfl, ?_⟩
    refine ⟨i, o, rfl, rfl, ?_⟩
    have ef : ixL (inF g o) (i + 1) = ixL (inF g o) i ++ [V.int (if i &&& o = i then g i else 0)] := ixL_succ _ _
    refine ite2 (fun e => ?_) (fun e => ?_)
    . rw [ef, if_pos (of_decide_eq_true e)]
      exact ⟨s2.trans (Same.upd hpp), rfl⟩
    . rw [ef, if_neg (fun z => e (decide_eq_true z))]
      exact ⟨s2.trans (Same.upd hpp), rfl⟩
  . rintro zs H2 ⟨s2, rfl⟩ l hl
    rw [ixL_len]
    exact q l _ ((s1.trans s2).free hl) (s1.trans (s2.trans (Same.upd hl))) upd_same
def difL (as bs : List Bool) (n : Nat) : List Nat := (List.range n).filter (fun i => gB as i != gB bs i)
theorem difL_succ (as bs : List Bool) (n : Nat) : difL as bs (n + 1) = difL as bs n ++ (if (gB as n != gB bs n) = true then [n] else []) := by
  unfold difL
  rw [List.range_succ, List.filter_append]
  congr 1
  by_cases h : (gB as n != gB bs n) = true
  . simp only [List.filter_cons, List.filter_nil]
  . simp only [List.filter_cons, List.filter_nil]
theorem difL_len (as bs : List Bool) (n : Nat) : (difL as bs n).length <= n := by
  unfold difL
  exact Nat.le_trans (List.length_filter_le _ _) (by rw [List.length_range]; exact Nat.le_refl _)
def bestB (m : Nat) (g : Nat -> Int) (o : Nat) : List Bool := (List.range (2 ^ m)).map fun p => decide (wt m (inF g o) p < 0)
theorem bestB_len (m : Nat) (g : Nat -> Int) (o : Nat) : (bestB m g o).length = 2 ^ m := by unfold bestB; simp
def bestD (as bs : List Bool) (m : Nat) : Dv := .tup [.tup (as.map Dv.bl), .int ((difL as bs (2 ^ m)).length : Nat)]
theorem reps_bl {K : W.Frag} {H : Hp} : ∀ bs : List Bool, Reps K H (bs.map Dv.bl) (bs.map V.bl)
  | [] => reps_nil
  | b :: bs => reps_cons (by unfold Rep; rfl) (reps_bl bs)
def setTo (v : Nat -> Int) (o i r : Nat) : Int := sumTo (fun q => if q &&& o = r then v q else 0) i
def sp_fbest (K : W.Frag) : Sp := fun vs H Q _ => match vs with
  | [.ref tp, .int z] => ∃ (m o : Nat) (bs : List Bool), SqT K H tp (bs.map V.bl) /\ bs.length = 2 ^ m /\ m <= 6 /\ z = o /\ o < 2 ^ m /\ ∀ u H', Same H H' -> Rep K H' (bestD (bestB m (wt m (valF bs)) o) bs m) u -> Q u H'
  | _ => False
theorem sp_fbest_mono : SpMono (sp_fbest K) := fun vs H Q Q' E h q => by
  unfold sp_fbest at *
  split at q
  . revert q; repeat' first | exact h _ _ | exact newL_mono h | walk_at "m"
  . exact q.elim
structure CntAt (v : Nat -> Int) (o i : Nat) (kvs : List (Key × V)) : Prop where
  len : kvs.length <= i
  all : ∀ r : Nat, valV kvs (.inl (r : Int)) = none /\ setTo v o i r = 0 \/ valV kvs (.inl (r : Int)) = some (.int (setTo v o i r))
  has : ∀ q, q < i -> valV kvs (.inl ((q &&& o : Nat) : Int)) ≠ none
theorem CntAt.put {v : Nat -> Int} {o i : Nat} {kvs : List (Key × V)} (C : CntAt v o i kvs) : CntAt v o (i + 1) (putK kvs (.inl ((i &&& o : Nat) : Int)) (.int (setTo v o i (i &&& o) + v i))) := by
  have es : ∀ r, setTo v o (i + 1) r = setTo v o i r + (if i &&& o = r then v i else 0) := fun r => rfl
  refine ⟨Nat.le_trans (length_putK _ _ _) (Nat.succ_le_succ C.len), fun r => ?_, fun q hq => ?_⟩
  . rw [valV_put, es]
    by_cases e : r = i &&& o
    . subst e
      rw [if_pos rfl, if_pos rfl]
      exact .inr rfl
    . rw [if_neg (fun z => e (by have := Sum.inl.inj z; omega)), if_neg (Ne.symm e), Int.add_zero]
      exact C.all r
  . rw [valV_put]
    by_cases e : (q &&& o) = (i &&& o)
    . rw [e, if_pos rfl]; exact fun z => nomatch z
    . have hq' : q < i := by
        rcases Nat.lt_or_ge q i with z | z
        . exact z
        . have : q = i := by omega
          subst this; exact absurd rfl e
      rw [if_neg (fun z => e (by have := Sum.inl.inj z; omega))]
      exact C.has q hq'
theorem best_set {m o : Nat} {bs : List Bool} (ho : o < 2 ^ m) : bestB m (wt m (valF bs)) o = (List.range (2 ^ m)).map fun p => decide (setTo (valF bs) o (2 ^ m) (p &&& o) < 0) := by
  unfold bestB
  refine List.map_congr_left fun p hp => ?_
  rw [wt_in m (valF bs) o p ho (List.mem_range.mp hp)]
  have e : setS m (valF bs) o (p &&& o) = setTo (valF bs) o (2 ^ m) (p &&& o) := rfl
  rw [e]
  generalize setTo (valF bs) o (2 ^ m) (p &&& o) = x
  have h0 : (0 : Int) < ((2 ^ manyF m o : Nat) : Int) := by have := Nat.two_pow_pos (manyF m o); omega
  generalize ((2 ^ manyF m o : Nat) : Int) = c at *
  by_cases hx : x < 0
  . rw [decide_eq_true hx, decide_eq_true (Int.mul_neg_of_pos_of_neg h0 hx)]
  . rw [decide_eq_false hx, decide_eq_false]
    have := Int.mul_nonneg (Int.le_of_lt h0) (show 0 <= x by omega)
    omega
theorem ok__law_best : FnOk P w K mg base CX0 1 T.f__law_best T.d__law_best ["_law_table_here", "_law_some"] (sp_fbest K) := by
  refine T.F__law_best.ok sc__law_best (fun vs H Q E h => by unfold sp_fbest at h; split at h <;> first | rfl | exact h.elim) (fun cdv A outer s H vs Q E hr h => ?_)
  have hu := hu60 hr
  match vs, h with
  | [.ref tp, .int z], h =>
  obtain ⟨m, o, bs, ht, hb, m6, e1, ho, q⟩ := h
  subst e1
  have h64 : 2 ^ m <= 64 := Nat.pow_le_pow_right (n := 2) (by decide) m6
  refine ⟨_, (@pss_cons _ _ _ _ _ (@ps_set _ _ 2 _ _ _ _ sc__law_best.nd rfl (by walk_at "e") (@pe_dnewK _ _) (by rfl) (by walk_at "i")) (@pss_cons _ _ _ _ _ (@ps_for _ _ _ _ _ _ _ _ PassesOwn.never rfl (@pi_range1 _ _ _ _ _ _ rfl T.z_range (@pa1 _ _ _ (@pe_callB _ _ _ _ _ _ _ _ _ (kLen (K := K)) rfl T.z_len (by rfl) (@pa1 _ _ _ (@vw _ 0 _ _ (by walk_at "v")) (by rfl)) (by decide) (by decide) (by rfl) (by rfl)) (by rfl)) (by rfl)) (@pg_name _ _ 3 _ sc__law_best.nd rfl (by walk_at "e") (by walk_at "i")) (@pss_one _ _ _ (@ps_dput _ _ _ _ _ _ _ _ _ (hu_one hu) (@vw _ 2 _ _ (by walk_at "v")) (@pe_op _ _ _ _ _ _ _ _ om_and (@vw _ 3 _ _ (by walk_at "v")) (@vw _ 1 _ _ (by walk_at "v"))) (@pe_op _ _ _ _ _ _ _ _ om_sub (@pe_op _ _ _ _ _ _ _ _ (kAdd (K := K)) (@pe_dget2 _ _ _ _ _ _ _ _ _ (hu_one hu) (@vw _ 2 _ _ (by walk_at "v")) (@pe_op _ _ _ _ _ _ _ _ om_and (@vw _ 3 _ _ (by walk_at "v")) (@vw _ 1 _ _ (by walk_at "v"))) (@pe_int _ _ _ _) ⟨by rfl, by rfl, by rfl, by rfl⟩) (@pe_int _ _ _ _)) (@pe_op _ _ _ _ _ _ _ _ om_mul (@pe_int _ _ _ _) (@pe_callTy _ _ _ _ _ _ _ _ _ cm_int rfl T.z_int (by rfl) (@pa1 _ _ _ (@kIx _ K _ _ _ _ _ (@vw _ 0 _ _ (by walk_at "v")) (@vw _ 3 _ _ (by walk_at "v")) (by intro _ _; rfl) (by rfl)) (by rfl)) (by decide) (by decide) (by rfl) (by rfl)))) (by rfl))) (by intro _; rfl)) (@pss_cons _ _ _ _ _ (@ps_set _ _ 4 _ _ _ _ sc__law_best.nd rfl (by walk_at "e") (@pe_callTy _ _ _ _ _ _ _ _ _ (kTuple (K := K)) rfl T.z_tuple (by rfl) (@pa1 _ _ _ (@pe_compB _ _ _ _ _ _ _ (["_law_p", "_law_counts", "_law_some"]) 1 ([2, 1]) _ _ _ _ rfl (@pi_range1 _ _ _ _ _ _ rfl T.z_range (@pa1 _ _ _ (@pe_callB _ _ _ _ _ _ _ _ _ (kLen (K := K)) rfl T.z_len (by rfl) (@pa1 _ _ _ (@vw _ 0 _ _ (by walk_at "v")) (by rfl)) (by decide) (by decide) (by rfl) (by rfl)) (by rfl)) (by rfl)) (by kernel_rfl) rfl rfl (by kernel_rfl) (fun c => @pg_name _ _ 0 _ (show (["_law_p", "_law_counts", "_law_some"] : List Str).Nodup by decide +kernel) rfl (by walk_at "e") (by walk_at "i")) (go_name (by decide)) (fun c => @pts_nil _) (fun c => (@pe_cmpM _ _ _ _ _ _ _ _ om_lt (@pe_dget _ _ _ _ _ _ (hu_one hu) (@vw _ 1 _ _ (by walk_at "v")) (@pe_op _ _ _ _ _ _ _ _ om_and (@vw _ 0 _ _ (by walk_at "v")) (@vw _ 2 _ _ (by walk_at "v"))) (by intro _ _; rfl)) (@pe_int _ _ _ _) (by walk_at "n"))) (by intro _; rfl)) (by rfl)) (by decide) (by decide) (by rfl) (by rfl)) (by rfl) (by walk_at "i")) (@pss_one _ _ _ (@ps_ret _ _ _ _ (@pe_tup _ _ _ _ _ (@pa_cons _ _ _ _ _ (@vw _ 4 _ _ (by walk_at "v")) (@pa1 _ _ _ (@pe_callB _ _ _ _ _ _ _ _ _ (kLen (K := K)) rfl T.z_len (by rfl) (@pa1 _ _ _ (@pe_compB _ _ _ _ _ _ _ (["_law_p", "_law_near", "_law_table_here"]) 1 ([4, 0]) _ _ _ _ rfl (@pi_range1 _ _ _ _ _ _ rfl T.z_range (@pa1 _ _ _ (@pe_callB _ _ _ _ _ _ _ _ _ (kLen (K := K)) rfl T.z_len (by rfl) (@pa1 _ _ _ (@vw _ 0 _ _ (by walk_at "v")) (by rfl)) (by decide) (by decide) (by rfl) (by rfl)) (by rfl)) (by rfl)) (by kernel_rfl) rfl rfl (by kernel_rfl) (fun c => @pg_name _ _ 0 _ (show (["_law_p", "_law_near", "_law_table_here"] : List Str).Nodup by decide +kernel) rfl (by walk_at "e") (by walk_at "i")) (go_name (by decide)) (fun c => @pts_one _ _ _ (@tu_cmp _ _ _ _ _ _ _ _ (kNe (K := K) hu) (@kIx _ K _ _ _ _ _ (@vw _ 1 _ _ (by walk_at "v")) (@vw _ 0 _ _ (by walk_at "v")) (by intro _ _; rfl) (by rfl)) (@kIx _ K _ _ _ _ _ (@vw _ 2 _ _ (by walk_at "v")) (@vw _ 0 _ _ (by walk_at "v")) (by intro _ _; rfl) (by rfl)) (by walk_at "n"))) (fun c => (@vw _ 0 _ _ (by walk_at "v"))) (by intro _; rfl)) (by rfl)) (by decide) (by decide) (by rfl) (by rfl)) (by rfl)) (by rfl)))))))), ?_⟩
  refine fun c hc => ?_
  dsimp only [gName]
  refine seq_at (fun σ H' => ∃ (z3 : Option V) (kvs : List (Key × V)), σ = [some (.ref tp), some (.int o), some (.ref c), z3, none] /\ Same H H' /\ H' c = some (.dK kvs) /\ CntAt (valF bs) o (2 ^ m) kvs) ?_ ?_ (by walk_at "sm")
  . refine ⟨2 ^ m, .inr ⟨_, (Same.upd hc).sqT ht, by rw [List.length_map, hb]⟩, ((2 ^ m : Nat) : Int), rfl, by omega, by omega, ?_⟩
    refine for_range (fun i σ H' => ∃ (z3 : Option V) (kvs : List (Key × V)), σ = [some (.ref tp), some (.int o), some (.ref c), z3, none] /\ Same H H' /\ H' c = some (.dK kvs) /\ CntAt (valF bs) o i kvs) ⟨none, [], rfl, Same.upd hc, upd_same, ⟨Nat.le_refl _, fun r => .inl ⟨rfl, rfl⟩, fun q hq => by omega⟩⟩ ?_ ?_
    . rintro i σ H1 hi ⟨z3, kvs, rfl, s1, g1, C⟩
      have hi' : i < 2 ^ m := by omega
      rw [show (0 : Int) + (i : Int) = (i : Int) from Int.zero_add _]
      have ek : Builtin.bitAnd (i : Int) (o : Int) = ((i &&& o : Nat) : Int) := bitAnd_nat i o
      have gk : DGet H1 c (.int (Builtin.bitAnd (i : Int) (o : Int))) (valV kvs (.inl ((i &&& o : Nat) : Int))) := by rw [ek]; exact DGet.k (k := .inl ((i &&& o : Nat) : Int)) g1
      have pk : ∀ x, DPut H1 c (.int (Builtin.bitAnd (i : Int) (o : Int))) x (upd H1 c (.dK (putK kvs (.inl ((i &&& o : Nat) : Int)) x))) := fun x => by rw [ek]; exact DPut.k (k := .inl ((i &&& o : Nat) : Int)) g1 (small1000 (by have := C.len; omega))
      have ev : ∀ y : Int, y + 1 - 2 * (if gB bs i = true then 1 else 0) = y + valF bs i := fun y => by
        have : valF bs i = if gB bs i = true then -1 else 1 := rfl
        rw [this]
        split <;> omega
      have fin : ∀ x, x = setTo (valF bs) o i (i &&& o) + valF bs i -> ∃ (z3 : Option V) (kvs' : List (Key × V)), [some (V.ref tp), some (.int (o : Int)), some (.ref c), some (.int (i : Int)), none] = [some (.ref tp), some (.int o), some (.ref c), z3, none] /\ Same H (upd H1 c (.dK (putK kvs (.inl ((i &&& o : Nat) : Int)) (.int x)))) /\ upd H1 c (.dK (putK kvs (.inl ((i &&& o : Nat) : Int)) (.int x))) c = some (.dK kvs') /\ CntAt (valF bs) o (i + 1) kvs' := fun x hx => by
        subst hx
        exact ⟨_, _, rfl, same_put s1 hc, upd_same, C.put⟩
      have tab : atI (bs.map V.bl) (i : Int) = some (.bl (gB bs i)) := gB_at (by omega)
      rcases C.all (i &&& o) with ⟨e1, e2⟩ | e1
      . rw [e1] at gk
        refine ⟨c, rfl, .inl ⟨kvs, .inl g1⟩, none, gk, _, .bl (gB bs i), .inr (s1.sqT ht), tab, .inr (.inl ⟨by decide, by decide⟩), c, _, rfl, pk _, ?_⟩
        refine fin _ ?_
        rw [<- ev, e2]
      . rw [e1] at gk
        refine ⟨c, rfl, .inl ⟨kvs, .inl g1⟩, some (.int (setTo (valF bs) o i (i &&& o))), gk, _, .bl (gB bs i), .inr (s1.sqT ht), tab, .inr (.inl ⟨by decide, by decide⟩), c, _, rfl, pk _, ?_⟩
        refine fin _ ?_
        rw [<- ev]
    . rintro σ H1 h
      rw [Int.toNat_natCast] at h
      exact h
  rintro σ H1 ⟨z3, kvs, rfl, s1, g1, C⟩
  have hbest := best_set (m := m) (o := o) (bs := bs) ho
  refine ⟨2 ^ m, .inr ⟨_, s1.sqT ht, by rw [List.length_map, hb]⟩, ((2 ^ m : Nat) : Int), rfl, by omega, by omega, ?_⟩
  refine comp_range (fun i ys H' => H' = H1 /\ ys = ((List.range i).map (fun p => decide (setTo (valF bs) o (2 ^ m) (p &&& o) < 0))).map V.bl) ⟨rfl, rfl⟩ (fun i ys H' hi ⟨_, e⟩ => by
    rw [e, List.length_map, List.length_map, List.length_range]; exact small1000 (by omega)) ?_ ?_
  . rintro i ys H' hi ⟨rfl, rfl⟩
    have hi' : i < 2 ^ m := by omega
    rw [show (0 : Int) + (i : Int) = (i : Int) from Int.zero_add _]
    have e1 : valV kvs (.inl ((i &&& o : Nat) : Int)) = some (.int (setTo (valF bs) o (2 ^ m) (i &&& o))) := by
      rcases C.all (i &&& o) with ⟨e, _⟩ | e
      . exact absurd e (C.has i hi')
      . exact e
    have gk : DGet H' c (.int (Builtin.bitAnd (i : Int) (o : Int))) (some (.int (setTo (valF bs) o (2 ^ m) (i &&& o)))) := by
      rw [bitAnd_nat, <- e1]; exact DGet.k (k := .inl ((i &&& o : Nat) : Int)) g1
    refine ⟨c, _, rfl, gk, rfl, ?_⟩
    rw [bl_list]
  . rintro ys H' ⟨rfl, rfl⟩ k hk
    rw [Int.toNat_natCast, <- hbest]
    refine ⟨_, .inl ⟨.of upd_same, fun p hp => ?_⟩⟩
    have s4 := s1.trans ((Same.upd (o := .lst ((bestB m (wt m (valF bs)) o).map V.bl)) hk).trans (Same.upd (o := .tup ((bestB m (wt m (valF bs)) o).map V.bl)) hp))
    have gp := upd_same (H := upd H' k (.lst ((bestB m (wt m (valF bs)) o).map V.bl))) (a := p) (o := .tup ((bestB m (wt m (valF bs)) o).map V.bl))
    have lb := bestB_len m (wt m (valF bs)) o
    generalize upd (upd H' k (.lst ((bestB m (wt m (valF bs)) o).map V.bl))) p (.tup ((bestB m (wt m (valF bs)) o).map V.bl)) = H4 at *
    generalize hbb : bestB m (wt m (valF bs)) o = bb at *
    dsimp only [gName]
    refine ⟨2 ^ m, .inr ⟨_, s4.sqT ht, by rw [List.length_map, hb]⟩, ((2 ^ m : Nat) : Int), rfl, by omega, by omega, ?_⟩
    refine comp_range (fun i ys H' => H' = H4 /\ ys = iL (difL bb bs i)) ⟨rfl, rfl⟩ (fun i ys H' hi ⟨_, e⟩ => by
      have := difL_len bb bs i
      rw [e, iL_len]; exact small1000 (by omega)) ?_ ?_
    . rintro i ys H' hi ⟨rfl, rfl⟩
      have hi' : i < 2 ^ m := by omega
      rw [show (0 : Int) + (i : Int) = (i : Int) from Int.zero_add _]
      refine ⟨_, .bl (gB bb i), .inr (.of gp), gB_at (by omega), _, .bl (gB bs i), .inr (s4.sqT ht), gB_at (by omega), ?_⟩
      refine ite2 (fun e => ?_) (fun e => ?_)
      . have e' : (gB bb i != gB bs i) = true := by
          revert e
          cases gB bb i <;> cases gB bs i <;> simp
        refine ⟨rfl, ?_⟩
        rw [difL_succ, if_pos e', iL_app]
        rfl
      . have e' : ¬ (gB bb i != gB bs i) = true := by
          revert e
          cases gB bb i <;> cases gB bs i <;> simp
        refine ⟨rfl, ?_⟩
        rw [difL_succ, if_neg e', List.append_nil]
    . rintro ys H' ⟨rfl, rfl⟩ l hl
      rw [Int.toNat_natCast]
      refine ⟨(difL bb bs (2 ^ m)).length, .inl ⟨_, .of upd_same, by rw [iL_len]⟩, small_le (show 2 <= 1000 by decide), fun p7 hp7 => q _ _ (s4.trans ((Same.upd hl).trans (Same.upd hp7))) ?_⟩
      unfold bestD
      exact rep_tup1 upd_same (reps_cons (rep_tup1 (Same.upd hp7 _ _ (Same.upd hl _ _ gp)) (reps_bl _)) (reps_cons rep_int reps_nil))
theorem ok_many_in : FnOk P w K mg base CX0 1 T.f_many_in T.d_many_in ["subset"] sp_many := by
  refine T.F_many_in.ok sc_many_in (fun vs H Q E h => by unfold sp_many at h; split at h <;> first | rfl | exact h.elim) (fun cdv A outer s H vs Q E hr h => ?_)
  have hu := hu60 hr
  match vs, h with
  | [.int x], h =>
  obtain ⟨a, e1, h1, q⟩ := h
  subst e1
  refine ⟨_, (@pss_cons _ _ _ _ _ (@ps_set _ _ 1 _ _ _ _ sc_many_in.nd rfl (by walk_at "e") (@pe_int _ _ _ _) (by rfl) (by walk_at "i")) (@pss_cons _ _ _ _ _ (@ps_set _ _ 2 _ _ _ _ sc_many_in.nd rfl (by walk_at "e") (@vw _ 0 _ _ (by walk_at "v")) (by rfl) (by walk_at "i")) (@pss_cons _ _ _ _ _ (@ps_whileM _ _ _ _ _ _ PassesOwn.never (@tu_cmp _ _ _ _ _ _ _ _ om_gt (@vw _ 2 _ _ (by walk_at "v")) (@pe_int _ _ _ _) (by walk_at "n")) (@pss_cons _ _ _ _ _ (@ps_set _ _ 1 _ _ _ _ sc_many_in.nd rfl (by walk_at "e") (@pe_op _ _ _ _ _ _ _ _ (kAdd (K := K)) (@vw _ 1 _ _ (by walk_at "v")) (@pe_op _ _ _ _ _ _ _ _ om_mod (@vw _ 2 _ _ (by walk_at "v")) (@pe_int _ _ _ _))) (by rfl) (by walk_at "i")) (@pss_one _ _ _ (@ps_set _ _ 2 _ _ _ _ sc_many_in.nd rfl (by walk_at "e") (@pe_op _ _ _ _ _ _ _ _ om_div (@vw _ 2 _ _ (by walk_at "v")) (@pe_int _ _ _ _)) (by rfl) (by walk_at "i"))))) (@pss_one _ _ _ (@ps_ret _ _ _ _ (@vw _ 1 _ _ (by walk_at "v"))))))), ?_⟩
  refine ⟨fun f σ H' => H' = H /\ ∃ m r : Nat, σ = [some (.int a), some (.int m), some (.int r)] /\ r < 2 ^ f /\ m + manyF f r = many a, ⟨64, rfl, 0, a, rfl, h1, by unfold many; exact Nat.zero_add _⟩, ?_⟩
  rintro f σ H' ⟨rfl, m, r, rfl, hr1, hm⟩
  refine ite2 (fun e => ?_) (fun e => ?_)
  . have r0 : 0 < r := by have : (0 : Int) < (r : Int) := of_decide_eq_true e; omega
    cases f with
    | zero => simp at hr1; omega
    | succ f =>
      refine ⟨by decide, okDiv_of (by decide) (by decide), ?_⟩
      refine ⟨f, Nat.lt_succ_self _, rfl, m + r % 2, r / 2, ?_, ?_, ?_⟩
      . show [some (V.int (a : Int)), some (V.int ((m : Int) + (r : Int) % 2)), some (V.int ((r : Int) / 2))] = _
        rw [Int.natCast_add, Int.natCast_emod, Int.natCast_ediv]
        rfl
      . rw [Nat.pow_succ] at hr1; omega
      . rw [<- hm]
        show m + r % 2 + manyF f (r / 2) = m + (r % 2 + manyF f (r / 2))
        omega
  . have r0 : r = 0 := by
      have : ¬ (0 : Int) < (r : Int) := fun z => e (decide_eq_true z)
      omega
    subst r0
    rw [manyF_zero, Nat.add_zero] at hm
    rw [<- hm] at q
    exact q
def setL (m k n : Nat) : List Nat := (List.range n).filter fun s => decide (manyF m s = k)
theorem setL_succ (m k n : Nat) : setL m k (n + 1) = setL m k n ++ (if manyF m n = k then [n] else []) := by
  unfold setL
  rw [List.range_succ, List.filter_append]
  congr 1
  by_cases h : manyF m n = k
  . rw [if_pos h]; simp [h]
  . rw [if_neg h]; simp [h]
theorem setL_len (m k n : Nat) : (setL m k n).length <= n := by
  unfold setL
  exact Nat.le_trans (List.length_filter_le _ _) (by rw [List.length_range]; exact Nat.le_refl _)
theorem setL_mem {m k n x : Nat} (h : x ∈ setL m k n) : x < n := by
  unfold setL at h
  exact List.mem_range.mp (List.mem_filter.mp h).1
def sp_sets : Sp := fun vs H Q _ => match vs with
  | [.int x, .int y] => ∃ m k : Nat, x = m /\ y = k /\ m <= 6 /\ newL H Q (iL (setL m (min m k) (2 ^ m)))
  | _ => False
theorem sp_sets_mono : SpMono sp_sets := fun vs H Q Q' E h q => by
  unfold sp_sets at *
  split at q
  . revert q; repeat' first | exact h _ _ | exact newL_mono h | walk_at "m"
  . exact q.elim
theorem ok_sets_of : FnOk P w K mg base CX0 3 T.f_sets_of T.d_sets_of ["n", "k"] sp_sets := by
  have G_two_to := ok_two_to (P := P) (w := w) (base := base) T; have G_many_in := ok_many_in (P := P) (w := w) (base := base) T
  refine T.F_sets_of.ok sc_sets_of (fun vs H Q E h => by unfold sp_sets at h; split at h <;> first | rfl | exact h.elim) (fun cdv A outer s H vs Q E hr h => ?_)
  have hu := hu60 hr
  have mo1 : SpMono sp_two_to := sp_two_to_mono
  have mo2 : SpMono sp_many := sp_many_mono
  have hr_two_to := hr.mono (show 2 <= _ by decide); have hr_many_in := hr.mono (show 1 <= _ by decide)
  match vs, h with
  | [.int x, .int y], h =>
  obtain ⟨m, k, e1, e2, m6, q⟩ := h
  subst e1 e2
  have h64 : 2 ^ m <= 64 := Nat.pow_le_pow_right (n := 2) (by decide) m6
  have i0 : (0 : Int) <= ((2 ^ m : Nat) : Int) := Int.natCast_nonneg _
  have i1 : ((2 ^ m : Nat) : Int) <= 64 := Int.ofNat_le.mpr h64
  refine ⟨_, (@pss_cons _ _ _ _ _ (@ps_set _ _ 2 _ _ _ _ sc_sets_of.nd rfl (by walk_at "e") (@pe_callB _ _ _ _ _ _ _ _ _ (cm_min rfl) rfl T.z_min (by rfl) (@pa_cons _ _ _ _ _ (@vw _ 0 _ _ (by walk_at "v")) (@pa1 _ _ _ (@vw _ 1 _ _ (by walk_at "v")) (by rfl)) (by rfl)) (by decide) (by decide) (by rfl) (by rfl)) (by rfl) (by walk_at "i")) (@pss_one _ _ _ (@ps_ret _ _ _ _ (@pe_compB _ _ _ _ _ _ _ (["subset", "many"]) 1 [2] _ _ _ _ rfl (@pi_range1 _ _ _ _ _ _ rfl T.z_range (@pa1 _ _ _ (@pe_call _ _ _ _ _ _ _ _ _ _ _ _ _ _ _ _ G_two_to hr_two_to rfl T.m_two_to T.F_two_to.kp T.b_two_to .nil pass0 (@pa1 _ _ _ (@vw _ 0 _ _ (by walk_at "v")) (by rfl)) (by decide) (by rfl) (by rfl)) (by rfl)) (by rfl)) (by kernel_rfl) rfl rfl (by kernel_rfl) (fun c => @pg_name _ _ 0 _ (show (["subset", "many"] : List Str).Nodup by decide +kernel) rfl (by walk_at "e") (by walk_at "i")) (go_name (by decide)) (fun c => @pts_one _ _ _ (@tu_cmp _ _ _ _ _ _ _ _ (kEq (K := K) hu) (@pe_call _ _ _ _ _ _ _ _ _ _ _ _ _ _ _ _ G_many_in hr_many_in rfl T.m_many_in T.F_many_in.kp T.b_many_in .nil pass0 (@pa1 _ _ _ (@vw _ 0 _ _ (by walk_at "v")) (by rfl)) (by decide) (by rfl) (by rfl)) (@vw _ 1 _ _ (by walk_at "v")) (by walk_at "n"))) (fun c => (@vw _ 0 _ _ (by walk_at "v"))) (by intro _; rfl))))), ?_⟩
  have em : min (m : Int) (k : Int) = ((min m k : Nat) : Int) := by omega
  refine seq_at (fun σ H' => σ = [some (.int m), some (.int k), some (.int ((min m k : Nat) : Int))] /\ H = H') ?_ ?_ (by walk_at "sm")
  . exact ⟨by rw [<- em]; rfl, rfl⟩
  rintro σ _ ⟨rfl, rfl⟩
  refine ⟨m, rfl, by omega, ((2 ^ m : Nat) : Int), rfl, by omega, by omega, ?_⟩
  refine comp_range (fun i ys H' => H' = H /\ ys = iL (setL m (min m k) i)) ⟨rfl, rfl⟩ (fun i ys H' hi ⟨_, e⟩ => by
    have := setL_len m (min m k) i
    rw [e, iL_len]; exact small1000 (by omega)) ?_ ?_
  . rintro i ys H' hi ⟨rfl, rfl⟩
    have hi' : i < 2 ^ m := by omega
    rw [show (0 : Int) + (i : Int) = (i : Int) from Int.zero_add _]
    refine ⟨i, rfl, by omega, ?_⟩
    rw [many_of hi' (by omega)]
    have eb : (false ^^ (((manyF m i : Nat) : Int) == ((min m k : Nat) : Int))) = decide (manyF m i = min m k) := by
      rw [Bool.false_xor, Bool.eq_iff_iff]
      simp only [beq_iff_eq, decide_eq_true_eq]
      omega
    refine ite2 (fun e => ?_) (fun e => ?_)
    . have e' : manyF m i = min m k := of_decide_eq_true (eb ▸ e)
      refine ⟨rfl, ?_⟩
      rw [setL_succ, if_pos e', iL_app]
      rfl
    . have e' : ¬ manyF m i = min m k := fun z => e (eb.symm ▸ decide_eq_true z)
      refine ⟨rfl, ?_⟩
      rw [setL_succ, if_neg e', List.append_nil]
  . rintro ys H' ⟨rfl, rfl⟩ l hl
    rw [Int.toNat_natCast]
    exact q l _ hl (Same.upd hl) upd_same
def isWholeD : Dv -> Bool
  | .int _ => true
  | _ => false
def isPairD : Dv -> Bool
  | .tup ds => ds.length == 2
  | _ => false
def sp_dB (K : W.Frag) (f : Dv -> Bool) : Sp := fun vs H Q _ => match vs with
  | [v] => ∃ d, Rep K H d v /\ Q (.bl (f d)) H
  | _ => False
theorem ok_is_whole : FnOk P w K mg base CX0 1 T.f_is_whole T.d_is_whole ["thing"] (sp_dB K isWholeD) := by
  refine T.F_is_whole.ok sc_is_whole (fun vs H Q E h => by unfold sp_dB at h; split at h <;> first | rfl | exact h.elim) (fun cdv A outer s H vs Q E hr h => ?_)
  have hu := hu60 hr
  match vs, h with
  | [v], h =>
  obtain ⟨d, hd, q⟩ := h
  refine ⟨_, (@pss_one _ _ _ (@ps_ret _ _ _ _ (@pe_andM _ _ _ _ _ _ _ (@pe_callB _ _ _ _ _ _ _ _ _ (kIsiD (K := K)) rfl T.z_isinstance (by rfl) (@pa_cons _ _ _ _ _ (@vw _ 0 _ _ (by walk_at "v")) (@pa1 _ _ _ (@pe_bltn _ _ (.ty "int") _ _ rfl T.z_int (by rfl) rfl (by decide) (by decide)) (by rfl)) (by rfl)) (by decide) (by decide) (by rfl) (by rfl)) (@pe_one _ _ _ _ _ (@pe_notM _ _ _ _ (@pe_callB _ _ _ _ _ _ _ _ _ (kIsiD (K := K)) rfl T.z_isinstance (by rfl) (@pa_cons _ _ _ _ _ (@vw _ 0 _ _ (by walk_at "v")) (@pa1 _ _ _ (@pe_bltn _ _ (.ty "bool") _ _ rfl T.z_bool (by rfl) rfl (by decide) (by decide)) (by rfl)) (by rfl)) (by decide) (by decide) (by rfl) (by rfl))))))), ?_⟩
  refine ⟨by decide, d, hd, ?_⟩
  refine ite2 (fun e => ⟨by decide, d, hd, ?_⟩) (fun e => ?_)
  . have : isWholeD d = !isTy (tyD d) "bool" := by
      revert e
      cases d <;> intro e <;> first | rfl | (simp [isTy, tyD] at e; done)
    rw [this] at q
    exact q
  . have : isWholeD d = false := by
      revert e
      cases d <;> intro e <;> first | rfl | exact absurd (show isTy _ _ = true by simp [isTy, tyD]) e
    rw [this] at q
    exact q
def sp_dE (K : W.Frag) (f : Dv -> Bool) : Sp := fun vs H Q _ => match vs with
  | [v] => (∃ d, Rep K H d v /\ Q (.bl (f d)) H) \/ (∃ a kvs, v = .ref a /\ H a = some (.dK kvs) /\ Q (.bl false) H)
  | _ => False
theorem sp_dE_mono {f : Dv -> Bool} : SpMono (sp_dE K f) := fun vs H Q Q' E h q => by
  unfold sp_dE at *
  split at q
  . rcases q with ⟨d, h1, q⟩ | ⟨a, kvs, h1, h2, q⟩
    . exact .inl ⟨d, h1, h _ _ q⟩
    . exact .inr ⟨a, kvs, h1, h2, h _ _ q⟩
  . exact q.elim
theorem ok_is_pair : FnOk P w K mg base CX0 1 T.f_is_pair T.d_is_pair ["thing"] (sp_dE K isPairD) := by
  refine T.F_is_pair.ok sc_is_pair (fun vs H Q E h => by unfold sp_dE at h; split at h <;> first | rfl | exact h.elim) (fun cdv A outer s H vs Q E hr h => ?_)
  have hu := hu60 hr
  match vs, h with
  | [v], h =>
  refine ⟨_, (@pss_one _ _ _ (@ps_ret _ _ _ _ (@pe_andM _ _ _ _ _ _ _ (@pe_callB _ _ _ _ _ _ _ _ _ (kIsiE (K := K)) rfl T.z_isinstance (by rfl) (@pa_cons _ _ _ _ _ (@vw _ 0 _ _ (by walk_at "v")) (@pa1 _ _ _ (@pe_bltn _ _ (.ty "tuple") _ _ rfl T.z_tuple (by rfl) rfl (by decide) (by decide)) (by rfl)) (by rfl)) (by decide) (by decide) (by rfl) (by rfl)) (@pe_one _ _ _ _ _ (@pe_cmpM _ _ _ _ _ _ _ _ (kEq (K := K) hu) (@pe_callB _ _ _ _ _ _ _ _ _ (kLen (K := K)) rfl T.z_len (by rfl) (@pa1 _ _ _ (@vw _ 0 _ _ (by walk_at "v")) (by rfl)) (by decide) (by decide) (by rfl) (by rfl)) (@pe_int _ _ _ _) (by walk_at "n")))))), ?_⟩
  rcases h with ⟨d, hd, q⟩ | ⟨a, kvs, rfl, ha, q⟩
  . refine .inl ⟨by decide, d, hd, ?_⟩
    refine ite2 (fun e => ?_) (fun e => ?_)
    . cases d with
      | tup ds =>
        obtain ⟨a, xs, rfl, hs, hx⟩ := rep_tup_inv hd
        refine ⟨ds.length, .inr ⟨xs, hs, hx.length⟩, ?_⟩
        have : (false ^^ (((ds.length : Nat) : Int) == 2)) = (ds.length == 2) := by
          rw [Bool.false_xor, Bool.eq_iff_iff]
          simp only [beq_iff_eq]
          omega
        show Q (.bl (false ^^ (((ds.length : Nat) : Int) == 2))) H
        rw [this]
        exact q
      | _ => simp [isTy, tyD] at e
    . have : isPairD d = false := by
        revert e
        cases d <;> intro e <;> first | rfl | exact absurd (show isTy _ _ = true by simp [isTy, tyD]) e
      rw [this] at q
      exact q
  . exact .inr ⟨by decide, false, .inr (.inr (.inl ⟨⟨kvs, ha⟩, rfl⟩)), q⟩
def belowD (n : Int) : Dv -> Bool
  | .int i => decide (0 <= i) && decide (i < n)
  | _ => false
def sp_belowD (K : W.Frag) : Sp := fun vs H Q _ => match vs with
  | [.int n, v] => ∃ d, Rep K H d v /\ Q (.bl (belowD n d)) H
  | _ => False
theorem sp_belowD_mono : SpMono (sp_belowD K) := fun vs H Q Q' E h q => by
  unfold sp_belowD at *
  split at q
  . revert q; repeat' first | exact h _ _ | exact newL_mono h | walk_at "m"
  . exact q.elim
theorem ok_is_below : FnOk P w K mg base CX0 2 T.f_is_below T.d_is_below ["bound", "thing"] (sp_belowD K) := by
  have G_is_whole := ok_is_whole (P := P) (w := w) (base := base) T
  refine T.F_is_below.ok sc_is_below (fun vs H Q E h => by unfold sp_belowD at h; split at h <;> first | rfl | exact h.elim) (fun cdv A outer s H vs Q E hr h => ?_)
  have hu := hu60 hr
  have hr_is_whole := hr.mono (show 1 <= _ by decide)
  match vs, h with
  | [.int n, v], ⟨d, hd, q⟩ =>
  refine ⟨_, (@pss_one _ _ _ (@ps_ret _ _ _ _ (@pe_andM _ _ _ _ _ _ _ (@pe_call _ _ _ _ _ _ _ _ _ _ _ _ _ _ _ _ G_is_whole hr_is_whole rfl T.m_is_whole T.F_is_whole.kp T.b_is_whole .nil pass0 (@pa1 _ _ _ (@vw _ 1 _ _ (by walk_at "v")) (by rfl)) (by decide) (by rfl) (by rfl)) (@pe_one _ _ _ _ _ (@pe_chainM _ _ _ _ _ _ _ _ _ _ _ _ om_le om_lt (@pe_int _ _ _ _) (@vw _ 1 _ _ (by walk_at "v")) (@vw _ 0 _ _ (by walk_at "v")) (by with_unfolding_all rfl)))))), ?_⟩
  refine ⟨d, hd, ?_⟩
  cases d with
  | int i =>
    unfold Rep at hd
    subst hd
    have q : Q (.bl (decide (0 <= i) && decide (i < n))) H := q
    refine ite2 (fun e => ?_) (fun e => ?_)
    . have e' : 0 <= i := of_decide_eq_true e
      rw [decide_eq_true e', Bool.true_and] at q
      exact q
    . rw [decide_eq_false (fun z => e (decide_eq_true z)), Bool.false_and] at q
      exact q
  | _ => exact q
def sp_placeD (K : W.Frag) : Sp := fun vs H Q _ => match vs with
  | [.int x, v] => ∃ (m : Nat) (d : Dv), x = m /\ m <= 6 /\ Rep K H d v /\ Q (.bl (belowD ((2 ^ m : Nat) : Int) d)) H
  | _ => False
theorem ok_is_place : FnOk P w K mg base CX0 3 T.f_is_place T.d_is_place ["n", "thing"] (sp_placeD K) := by
  have G_is_below := ok_is_below (P := P) (w := w) (base := base) T; have G_two_to := ok_two_to (P := P) (w := w) (base := base) T
  refine T.F_is_place.ok sc_is_place (fun vs H Q E h => by unfold sp_placeD at h; split at h <;> first | rfl | exact h.elim) (fun cdv A outer s H vs Q E hr h => ?_)
  have hu := hu60 hr
  have hr_is_below := hr.mono (show 2 <= _ by decide); have hr_two_to := hr.mono (show 2 <= _ by decide)
  match vs, h with
  | [.int x, v], h =>
  obtain ⟨m, k, e1, m6, hk, q⟩ := h
  subst e1
  refine ⟨_, (@pss_one _ _ _ (@ps_ret _ _ _ _ (@pe_call _ _ _ _ _ _ _ _ _ _ _ _ _ _ _ _ G_is_below hr_is_below rfl T.m_is_below T.F_is_below.kp T.b_is_below .nil pass0 (@pa_cons _ _ _ _ _ (@pe_call _ _ _ _ _ _ _ _ _ _ _ _ _ _ _ _ G_two_to hr_two_to rfl T.m_two_to T.F_two_to.kp T.b_two_to .nil pass0 (@pa1 _ _ _ (@vw _ 0 _ _ (by walk_at "v")) (by rfl)) (by decide) (by rfl) (by rfl)) (@pa1 _ _ _ (@vw _ 1 _ _ (by walk_at "v")) (by rfl)) (by rfl)) (by decide) (by rfl) (by rfl)))), ?_⟩
  exact ⟨m, rfl, by omega, k, hk, q⟩
theorem reps_cons_inv {H : Hp} {d : Dv} {ds : List Dv} {xs : List V} (h : Reps K H (d :: ds) xs) : ∃ x l, xs = x :: l /\ Rep K H d x /\ Reps K H ds l := by unfold Reps at h; exact h
theorem reps_get {H : Hp} : ∀ {ds : List Dv} {xs : List V} {i : Nat} {x : V}, Reps K H ds xs -> xs[i]? = some x -> ∃ d, ds[i]? = some d /\ Rep K H d x
  | [], xs, i, x, h, e => by unfold Reps at h; subst h; cases e
  | d :: ds, xs, i, x, h, e => by
    obtain ⟨y, l, rfl, r, h⟩ := reps_cons_inv h
    cases i with
    | zero => cases e; exact ⟨d, rfl, r⟩
    | succ i => exact reps_get (ds := ds) (i := i) h (by simpa using e)
theorem rep_two_inv {H : Hp} {a b : Dv} {v : V} (h : Rep K H (.tup [a, b]) v) : ∃ p x y, v = .ref p /\ SqT K H p [x, y] /\ Rep K H a x /\ Rep K H b y := by
  obtain ⟨p, xs, rfl, hs, hx⟩ := rep_tup_inv h
  obtain ⟨x0, l0, rfl, r0, hx⟩ := reps_cons_inv hx
  obtain ⟨x1, l1, rfl, r1, hx⟩ := reps_cons_inv hx
  unfold Reps at hx
  subst hx
  exact ⟨p, x0, x1, rfl, hs, r0, r1⟩
def sp_switches (K : W.Frag) : Sp := fun vs H Q _ => match vs with
  | [.ref p] => ∃ (m : Nat) (xs : List V), SqT K H p xs /\ xs.length = 2 ^ m /\ m <= 6 /\ Q (.int m) H
  | _ => False
theorem sp_switches_mono : SpMono (sp_switches K) := fun vs H Q Q' E h q => by
  unfold sp_switches at *
  split at q
  . revert q; repeat' first | exact h _ _ | exact newL_mono h | walk_at "m"
  . exact q.elim
theorem ok_switches_of : FnOk P w K mg base CX0 1 T.f_switches_of T.d_switches_of ["table"] (sp_switches K) := by
  refine T.F_switches_of.ok sc_switches_of (fun vs H Q E h => by unfold sp_switches at h; split at h <;> first | rfl | exact h.elim) (fun cdv A outer s H vs Q E hr h => ?_)
  have hu := hu60 hr
  match vs, h with
  | [.ref p], h =>
  obtain ⟨m, xs, hp, hl, m6, q⟩ := h
  refine ⟨_, (@pss_one _ _ _ (@ps_ret _ _ _ _ (@pe_op _ _ _ _ _ _ _ _ om_sub (@kBitlen _ K _ _ _ _ (@pe_callB _ _ _ _ _ _ _ _ _ (kLen (K := K)) rfl T.z_len (by rfl) (@pa1 _ _ _ (@vw _ 0 _ _ (by walk_at "v")) (by rfl)) (by decide) (by decide) (by rfl) (by rfl)) (by rfl) (by rfl) (by rfl)) (@pe_int _ _ _ _)))), ?_⟩
  have hb := bits_pow m (by omega)
  refine ⟨2 ^ m, .inr ⟨_, hp, hl.symm⟩, rfl, ?_⟩
  dsimp only [mBitlen, tC, mSub]
  rw [hb]
  have : ((m + 1 : Nat) : Int) - 1 = (m : Int) := by omega
  rw [this]
  exact q
def sp_sumfrom (K : W.Frag) : Sp := fun vs H Q _ => match vs with
  | [.int n, .ref p] => ∃ (m M : Nat) (g : Nat -> Int), n = m /\ M <= 64 /\ SqL K H p (ixL g M) /\ ∀ v H', Same H H' -> Rep K H' (sumD m (termG g M)) v -> Q v H'
  | _ => False
theorem ok_sum_from : FnOk P w K mg base CX0 1 T.f_sum_from T.d_sum_from ["n", "weights"] (sp_sumfrom K) := by
  refine T.F_sum_from.ok sc_sum_from (fun vs H Q E h => by unfold sp_sumfrom at h; split at h <;> first | rfl | exact h.elim) (fun cdv A outer s H vs Q E hr h => ?_)
  have hu := hu60 hr
  match vs, h with
  | [.int n, .ref p], h =>
  obtain ⟨m, M, g, e1, hM, hp, q⟩ := h
  subst e1
  refine ⟨_, (@pss_one _ _ _ (@ps_ret _ _ _ _ (@pe_tup _ _ _ _ _ (@pa_cons _ _ _ _ _ (@vw _ 0 _ _ (by walk_at "v")) (@pa1 _ _ _ (@pe_callTy _ _ _ _ _ _ _ _ _ (kTuple (K := K)) rfl T.z_tuple (by rfl) (@pa1 _ _ _ (@pe_compB _ _ _ _ _ _ _ (["subset", "weight"]) 2 [] _ _ _ _ rfl (@kEnum _ K _ _ _ _ _ _ _ rfl T.z_enumerate (@pa1 _ _ _ (@vw _ 1 _ _ (by walk_at "v")) (by rfl)) (by rfl) (by rfl)) (by kernel_rfl) rfl rfl (by kernel_rfl) (fun c => @kTup _ K _ _ _ _ 2 rfl (@pgs_cons _ _ _ _ _ (@pg_name _ _ 0 _ (show (["subset", "weight"] : List Str).Nodup by decide +kernel) rfl (by walk_at "e") (by walk_at "i")) (@pgs_cons _ _ _ _ _ (@pg_name _ _ 1 _ (show (["subset", "weight"] : List Str).Nodup by decide +kernel) rfl (by walk_at "e") (by walk_at "i")) (@pgs_nil _) (by rfl)) (by rfl)) (by rfl) (by rfl) (by rfl)) (go_tup (gos_cons gm_name (gms_cons gm_name gms_nil) (go_name (by decide)) (gos_cons gm_name gms_nil (go_name (by decide)) gos_nil))) (fun c => @pts_one _ _ _ (@tu_cmp _ _ _ _ _ _ _ _ (kNe (K := K) hu) (@vw _ 1 _ _ (by walk_at "v")) (@pe_int _ _ _ _) (by walk_at "n"))) (fun c => (@pe_tup _ _ _ _ _ (@pa_cons _ _ _ _ _ (@vw _ 0 _ _ (by walk_at "v")) (@pa1 _ _ _ (@vw _ 1 _ _ (by walk_at "v")) (by rfl)) (by rfl)))) (by intro _; rfl)) (by rfl)) (by decide) (by decide) (by rfl) (by rfl)) (by rfl)) (by rfl))))), ?_⟩
  refine ⟨⟨_, hp⟩, ?_⟩
  refine comp_enum (xs := ixL g M) (fun i zs H' => Same H H' /\ Reps K H' ((termG g i).map termD) zs /\ zs.length <= i) ⟨Same.refl _, reps_nil, Nat.le_refl _⟩
    (fun i zs H' _ ⟨s, _, _⟩ => sqL_stay hp fun o e => s _ _ e) (fun i zs H' hi ⟨_, _, e⟩ => by rw [ixL_len] at hi; exact small1000 (by omega)) ?_ ?_
  . rintro i x zs H1 pp hx ⟨s1, r1, l1⟩ hpp
    have hi : i < M := by
      have := (List.getElem?_eq_some_iff.mp hx).1
      rw [ixL_len] at this
      exact this
    have ex : x = .int (g i) := by
      unfold ixL at hx
      rw [List.getElem?_map, List.getElem?_range hi] at hx
      exact (Option.some.inj hx).symm
    subst ex
    refine ⟨pp, _, rfl, .of upd_same, rfl, _, _, rfl, _, _, rfl, rfl, ?_⟩
    have s2 : Same H1 (upd H1 pp (.tup [.int i, .int (g i)])) := Same.upd hpp
    have et : termG g (i + 1) = termG g i ++ (if g i = 0 then [] else [(i, g i)]) := rfl
    generalize upd H1 pp (.tup [.int i, .int (g i)]) = H2 at *
    rw [et]
    refine ite2 (fun e => ?_) (fun e => ?_)
    . have w0 : ¬ g i = 0 := by simpa using e
      rw [if_neg w0, List.map_append]
      refine ⟨small_le (show 2 <= 1000 by decide), fun k hk => ⟨s1.trans (s2.trans (Same.upd hk)), ?_, by rw [List.length_append]; exact Nat.succ_le_succ l1⟩⟩
      exact Reps.append (Reps.same (s2.trans (Same.upd hk)) _ _ r1) (reps_cons (rep_tup1 (xs := [.int i, .int (g i)]) upd_same (reps_cons rep_int (reps_cons rep_int reps_nil))) reps_nil)
    . have w0 : g i = 0 := by simpa using e
      rw [if_pos w0, List.append_nil]
      exact ⟨s1.trans s2, Reps.same s2 _ _ r1, Nat.le_succ_of_le l1⟩
  rintro zs H1 ⟨s1, r1, _⟩ l hl
  rw [ixL_len] at r1
  refine ⟨_, .inl ⟨.of upd_same, fun k hk => ⟨small_le (show 2 <= 1000 by decide), fun k2 hk2 => ?_⟩⟩⟩
  have S0 := Same.upd (o := .lst zs) hl
  have S := (Same.upd (o := .tup zs) hk).trans (Same.upd (o := .tup [.int m, .ref k]) hk2)
  refine q _ _ (s1.trans (S0.trans S)) ?_
  refine rep_tup1 upd_same (reps_cons rep_int (reps_cons (rep_tup1 (xs := zs) ?_ (Reps.same (S0.trans S) _ _ r1)) reps_nil))
  exact Same.upd hk2 _ _ upd_same
def sp_psum (K : W.Frag) : Sp := fun vs H Q _ => match vs with
  | [.ref p] => ∃ (m : Nat) (bs : List Bool), m <= 6 /\ bs.length = 2 ^ m /\ SqT K H p (bs.map V.bl) /\ ∀ v H', Same H H' -> SumAt K H' v m (termG (wt m (valF bs)) (2 ^ m)) -> Q v H'
  | _ => False
theorem sp_psum_mono : SpMono (sp_psum K) := fun vs H Q Q' E h q => by
  unfold sp_psum at *
  split at q
  . revert q; repeat' first | exact h _ _ | exact newL_mono h | walk_at "m"
  . exact q.elim
theorem ok_sum_of : FnOk P w K mg base CX0 3 T.f_sum_of T.d_sum_of ["table"] (sp_psum K) := by
  have G_sum_from := ok_sum_from (P := P) (w := w) (base := base) T; have G_switches_of := ok_switches_of (P := P) (w := w) (base := base) T; have G_times_signs := ok_times_signs (P := P) (w := w) (base := base) T
  refine T.F_sum_of.ok sc_sum_of (fun vs H Q E h => by unfold sp_psum at h; split at h <;> first | rfl | exact h.elim) (fun cdv A outer s H vs Q E hr h => ?_)
  have hu := hu60 hr
  have hr_sum_from := hr.mono (show 1 <= _ by decide); have hr_switches_of := hr.mono (show 1 <= _ by decide); have hr_times_signs := hr.mono (show 2 <= _ by decide)
  match vs, h with
  | [.ref p], h =>
  obtain ⟨m, bs, m6, hb, hp, q⟩ := h
  refine ⟨_, (@pss_cons _ _ _ _ _ (@ps_compB _ _ _ _ _ _ _ ["answer"] 1 [] _ _ _ _ 1 _ _ _ rfl sc_sum_of.nd rfl rfl (@kSeq _ K _ _ _ (@vw _ 0 _ _ (by walk_at "v")) (by rfl)) (by kernel_rfl) rfl rfl (by kernel_rfl) (fun c => @pg_name _ _ 0 _ (show (["answer"] : List Str).Nodup by decide +kernel) rfl (by walk_at "e") (by walk_at "i")) (go_name (by decide)) (fun c => @pts_nil _) (fun c => (@pe_ifExp _ _ _ _ _ _ _ _ (@tu_val _ _ _ (@vw _ 0 _ _ (by walk_at "v")) (by intro _; rfl)) (@pe_un _ _ _ _ _ _ um_neg (@pe_int _ _ _ _)) (@pe_int _ _ _ _))) (by rfl) (by intro _; rfl)) (@pss_one _ _ _ (@ps_ret _ _ _ _ (@pe_call _ _ _ _ _ _ _ _ _ _ _ _ _ _ _ _ G_sum_from hr_sum_from rfl T.m_sum_from T.F_sum_from.kp T.b_sum_from .nil pass0 (@pa_cons _ _ _ _ _ (@pe_call _ _ _ _ _ _ _ _ _ _ _ _ _ _ _ _ G_switches_of hr_switches_of rfl T.m_switches_of T.F_switches_of.kp T.b_switches_of .nil pass0 (@pa1 _ _ _ (@vw _ 0 _ _ (by walk_at "v")) (by rfl)) (by decide) (by rfl) (by rfl)) (@pa1 _ _ _ (@pe_call _ _ _ _ _ _ _ _ _ _ _ _ _ _ _ _ G_times_signs hr_times_signs rfl T.m_times_signs T.F_times_signs.kp T.b_times_signs .nil pass0 (@pa1 _ _ _ (@vw _ 1 _ _ (by walk_at "v")) (by rfl)) (by decide) (by rfl) (by rfl)) (by rfl)) (by rfl)) (by decide) (by rfl) (by rfl))))), ?_⟩
  have h64 : 2 ^ m <= 64 := Nat.pow_le_pow_right (n := 2) (by decide) m6
  have et : termG (hadF (valF bs) m) (2 ^ m) = termG (wt m (valF bs)) (2 ^ m) := termG_congr fun j hj => had_wt hj
  rw [<- et] at q
  refine .inr ⟨⟨_, hp⟩, ?_⟩
  refine comp_tup (xs := bs.map V.bl) (fun i ys H' => H = H' /\ ys = ixL (valF bs) i) ⟨rfl, rfl⟩ (fun i ys H' _ ⟨e, _⟩ => by rw [<- e]; exact hp) (fun i ys H' hi ⟨_, e⟩ => by
    rw [List.length_map] at hi
    rw [e, ixL_len]; exact small1000 (by omega)) ?_ ?_
  . rintro i x ys H' hx ⟨rfl, rfl⟩
    have hi : i < bs.length := by
      have := (List.getElem?_eq_some_iff.mp hx).1
      rw [List.length_map] at this
      exact this
    have ex : x = .bl (gB bs i) := by
      rw [List.getElem?_map, List.getElem?_eq_getElem hi] at hx
      rw [gB_get hi]
      exact (Option.some.inj hx).symm
    subst ex
    have ev : valF bs i = if gB bs i = true then -1 else 1 := rfl
    refine ite2 (fun e => ?_) (fun e => ?_)
    . refine ⟨rfl, ?_⟩
      rw [ixL_succ, ev, if_pos e]
    . refine ⟨rfl, ?_⟩
      rw [ixL_succ, ev, if_neg e]
  rintro ys H' ⟨rfl, rfl⟩ l hl
  rw [List.length_map, hb]
  have s0 : Same H (upd H l (.lst (ixL (valF bs) (2 ^ m)))) := Same.upd hl
  refine ⟨m, _, sqT_same hp s0, by rw [List.length_map]; exact hb, m6, valF bs, m, .of upd_same, m6, fun p2 H2 n2 s2 g2 => ?_⟩
  exact ⟨m, 2 ^ m, hadF (valF bs) m, rfl, h64, .of g2, fun v H' s' r' => q v H' (s0.trans (s2.trans s')) (.of r')⟩
def sp_hangs (K : W.Frag) : Sp := fun vs H Q _ => match vs with
  | [v] => ∃ (m : Nat) (g : Nat -> Int), SumAt K H v m (termG g (2 ^ m)) /\ Q (.int (orL 0 (termG g (2 ^ m)) : Nat)) H
  | _ => False
theorem sp_hangs_mono : SpMono (sp_hangs K) := fun vs H Q Q' E h q => by
  unfold sp_hangs at *
  split at q
  . revert q; repeat' first | exact h _ _ | exact newL_mono h | walk_at "m"
  . exact q.elim
theorem ok_hangs_on : FnOk P w K mg base CX0 1 T.f_hangs_on T.d_hangs_on ["one"] (sp_hangs K) := by
  refine T.F_hangs_on.ok sc_hangs_on (fun vs H Q E h => by unfold sp_hangs at h; split at h <;> first | rfl | exact h.elim) (fun cdv A outer s H vs Q E hr h => ?_)
  have hu := hu60 hr
  match vs, h with
  | [v], h =>
  obtain ⟨m, g, S, q⟩ := h
  obtain ⟨a, b, vs, rfl, ha, hb, hr'⟩ := id S.at_
  have hvl : vs.length = (termG g (2 ^ m)).length := by have := hr'.length; rw [List.length_map] at this; omega
  generalize termG g (2 ^ m) = ts at *
  refine ⟨_, (@pss_cons _ _ _ _ _ (@ps_set _ _ 1 _ _ _ _ sc_hangs_on.nd rfl (by walk_at "e") (@pe_int _ _ _ _) (by rfl) (by walk_at "i")) (@pss_cons _ _ _ _ _ (@ps_for _ _ _ _ _ _ _ _ PassesOwn.never rfl (@kSeq _ K _ _ _ (@kIx _ K _ _ _ _ _ (@vw _ 0 _ _ (by walk_at "v")) (@pe_int _ _ _ _) (by intro _ _; rfl) (by rfl)) (by rfl)) (@kTupA _ K _ _ _ _ 2 rfl (@pgs_cons _ _ _ _ _ (@pg_name _ _ 2 _ sc_hangs_on.nd rfl (by walk_at "e") (by walk_at "i")) (@pgs_cons _ _ _ _ _ (@pg_name _ _ 3 _ sc_hangs_on.nd rfl (by walk_at "e") (by walk_at "i")) (@pgs_nil _) (by rfl)) (by rfl)) (by rfl) (by rfl) (by rfl)) (@pss_one _ _ _ (@ps_set _ _ 1 _ _ _ _ sc_hangs_on.nd rfl (by walk_at "e") (@pe_op _ _ _ _ _ _ _ _ om_or (@vw _ 1 _ _ (by walk_at "v")) (@vw _ 2 _ _ (by walk_at "v"))) (by rfl) (by walk_at "i"))) (by intro _; rfl)) (@pss_one _ _ _ (@ps_ret _ _ _ _ (@vw _ 1 _ _ (by walk_at "v")))))), ?_⟩
  refine ⟨_, .ref b, .inr ha, rfl, .inr ⟨⟨_, hb⟩, ?_⟩⟩
  refine for_tup (xs := vs) (fun i σ H' => H' = H /\ ∃ z2 z3 : Option V, σ = [some (.ref a), some (.int (orL 0 (ts.take i) : Nat)), z2, z3]) ⟨rfl, none, none, rfl⟩ (fun i σ H' _ ⟨e, _⟩ => by rw [e]; exact hb) ?_ ?_
  . rintro i x σ H' hx ⟨rfl, z2, z3, rfl⟩
    obtain ⟨⟨k, wgt⟩, c, hq, rfl, hc⟩ := reps_terms_at hr' hx
    refine ⟨_, .inr hc, rfl, _, _, rfl, _, _, rfl, rfl, ?_⟩
    refine ⟨rfl, some (.int k), some (.int wgt), ?_⟩
    rw [orL_take hq, <- bitOr_nat]
    rfl
  . rintro σ H' ⟨rfl, z2, z3, rfl⟩
    rw [List.take_of_length_le (by omega)]
    exact q
theorem term_mul (f g : Nat -> Int) : ∀ n, ((termG f n).map fun t => t.2 * g t.1).sum = sumTo (fun j => f j * g j) n
  | 0 => rfl
  | n + 1 => by
    show ((termG f n ++ (if f n = 0 then [] else [(n, f n)])).map fun t => t.2 * g t.1).sum = sumTo (fun j => f j * g j) n + f n * g n
    rw [List.map_append, List.sum_append, term_mul f g n]
    by_cases e : f n = 0
    . rw [if_pos e, e]; simp
    . rw [if_neg e]; simp
def sp_met (K : W.Frag) : Sp := fun vs H Q _ => match vs with
  | [.ref p, .ref l, .int z] => ∃ (m : Nat) (f g : Nat -> Int) (us : List V), SqT K H p us /\ Reps K H ((termG f (2 ^ m)).map termD) us /\ SqL K H l (ixL g (2 ^ m)) /\ z = 0 /\ m <= 6 /\ Light g /\ ∀ H', Same H H' -> Q (.int (sumTo (fun j => f j * g j) (2 ^ m))) H'
  | _ => False
theorem ok_met : FnOk P w K mg base CX0 1 T.f_met T.d_met ["terms", "weights", "apart"] (sp_met K) := by
  refine T.F_met.ok sc_met (fun vs H Q E h => by unfold sp_met at h; split at h <;> first | rfl | exact h.elim) (fun cdv A outer s H vs Q E hr h => ?_)
  have hu := hu60 hr
  match vs, h with
  | [.ref p, .ref l, .int z], h =>
  obtain ⟨m, f, g, us, hp, hR, hl, e1, m6, hg, q⟩ := h
  subst e1
  have h64 : 2 ^ m <= 64 := Nat.pow_le_pow_right (n := 2) (by decide) m6
  have hul : us.length = (termG f (2 ^ m)).length := by have := hR.length; rw [List.length_map] at this; omega
  have htl := termG_len f (2 ^ m)
  have hmem := fun {t} (h : t ∈ termG f (2 ^ m)) => (termG_mem h).1
  rw [<- term_mul] at q
  refine ⟨_, (@pss_one _ _ _ (@ps_ret _ _ _ _ (@pe_callB _ _ _ _ _ _ _ _ _ (kSum (K := K) rfl) rfl T.z_sum (by rfl) (@pa1 _ _ _ (@pe_compB _ _ _ _ _ _ _ (["subset", "weight", "weights", "apart"]) 2 ([1, 2]) _ _ _ _ rfl (@kSeq _ K _ _ _ (@vw _ 0 _ _ (by walk_at "v")) (by rfl)) (by kernel_rfl) rfl rfl (by kernel_rfl) (fun c => @kTup _ K _ _ _ _ 2 rfl (@pgs_cons _ _ _ _ _ (@pg_name _ _ 0 _ (show (["subset", "weight", "weights", "apart"] : List Str).Nodup by decide +kernel) rfl (by walk_at "e") (by walk_at "i")) (@pgs_cons _ _ _ _ _ (@pg_name _ _ 1 _ (show (["subset", "weight", "weights", "apart"] : List Str).Nodup by decide +kernel) rfl (by walk_at "e") (by walk_at "i")) (@pgs_nil _) (by rfl)) (by rfl)) (by rfl) (by rfl) (by rfl)) (go_tup (gos_cons gm_name (gms_cons gm_name gms_nil) (go_name (by decide)) (gos_cons gm_name gms_nil (go_name (by decide)) gos_nil))) (fun c => @pts_nil _) (fun c => (@pe_op _ _ _ _ _ _ _ _ om_mul (@vw _ 1 _ _ (by walk_at "v")) (@kIx _ K _ _ _ _ _ (@vw _ 2 _ _ (by walk_at "v")) (@pe_op _ _ _ _ _ _ _ _ om_xor (@vw _ 0 _ _ (by walk_at "v")) (@vw _ 3 _ _ (by walk_at "v"))) (by intro _ _; rfl) (by rfl)))) (by intro _; rfl)) (by rfl)) (by decide) (by decide) (by rfl) (by rfl)))), ?_⟩
  generalize termG f (2 ^ m) = ts at *
  refine .inr ⟨⟨_, hp⟩, ?_⟩
  refine comp_tup (xs := us) (fun i ys H' => H' = H /\ ys = ((ts.take i).map fun t => t.2 * g t.1).map V.int) ⟨rfl, rfl⟩ (fun i ys H' _ ⟨e, _⟩ => by rw [e]; exact hp) (fun i ys H' hi ⟨_, e⟩ => by
    rw [e, List.length_map, List.length_map, List.length_take]; exact small1000 (by omega)) ?_ ?_
  . rintro i x ys H' hx ⟨rfl, rfl⟩
    obtain ⟨⟨k, wgt⟩, c, hq, rfl, hc⟩ := reps_terms_at hR hx
    have hk : k < 2 ^ m := hmem (List.mem_of_getElem? hq)
    have ek : Builtin.bitXor (k : Int) 0 = (k : Int) := by
      have := bitXor_nat k 0
      rw [Nat.xor_zero] at this
      exact this
    have hgk := hg k
    refine ⟨c, _, rfl, hc, rfl, _, _, rfl, _, _, rfl, rfl, _, .int (g k), .inl hl, by rw [ek]; exact ixL_at hk, .inr (.inr ⟨by omega, by omega⟩), rfl, ?_⟩
    rw [List.take_add_one, hq, List.map_append, List.map_append]
    rfl
  . rintro ys H' ⟨rfl, rfl⟩ lp hlp
    rw [List.take_of_length_le (by omega)]
    exact ⟨_, .of upd_same, q _ (Same.upd hlp)⟩
def sp_lead (K : W.Frag) : Sp := fun vs H Q _ => match vs with
  | [v, u] => ∃ (m : Nat) (as bs : List Bool), SumAt K H v m (termG (wt m (valF as)) (2 ^ m)) /\ SumAt K H u m (termG (wt m (valF bs)) (2 ^ m)) /\ m <= 6 /\ ∀ H', Same H H' -> Q (.int (sumTo (fun p => valF as p * valF bs p) (2 ^ m))) H'
  | _ => False
theorem sp_lead_mono : SpMono (sp_lead K) := fun vs H Q Q' E h q => by
  unfold sp_lead at *
  split at q
  . revert q; repeat' first | exact h _ _ | exact newL_mono h | walk_at "m"
  . exact q.elim
theorem ok_lead_of : FnOk P w K mg base CX0 4 T.f_lead_of T.d_lead_of ["one", "total"] (sp_lead K) := by
  have G_met := ok_met (P := P) (w := w) (base := base) T; have G_two_to := ok_two_to (P := P) (w := w) (base := base) T; have G_weights_of := ok_weights_of (P := P) (w := w) (base := base) T
  refine T.F_lead_of.ok sc_lead_of (fun vs H Q E h => by unfold sp_lead at h; split at h <;> first | rfl | exact h.elim) (fun cdv A outer s H vs Q E hr h => ?_)
  have hu := hu60 hr
  have hr_met := hr.mono (show 1 <= _ by decide); have hr_two_to := hr.mono (show 2 <= _ by decide); have hr_weights_of := hr.mono (show 3 <= _ by decide)
  match vs, h with
  | [v, u], h =>
  obtain ⟨m, as, bs, S, S2, m6, q⟩ := h
  obtain ⟨a, b, us, rfl, ha, hb, hR⟩ := id S.at_
  have h64 : 2 ^ m <= 64 := Nat.pow_le_pow_right (n := 2) (by decide) m6
  have h0 := Nat.two_pow_pos m
  have i1 : ((2 ^ m : Nat) : Int) <= 64 := Int.ofNat_le.mpr h64
  have i0 : (0 : Int) < ((2 ^ m : Nat) : Int) := by omega
  refine ⟨_, (@pss_one _ _ _ (@ps_ret _ _ _ _ (@pe_op _ _ _ _ _ _ _ _ om_div (@pe_call _ _ _ _ _ _ _ _ _ _ _ _ _ _ _ _ G_met hr_met rfl T.m_met T.F_met.kp T.b_met .nil pass0 (@pa_cons _ _ _ _ _ (@kIx _ K _ _ _ _ _ (@vw _ 0 _ _ (by walk_at "v")) (@pe_int _ _ _ _) (by intro _ _; rfl) (by rfl)) (@pa_cons _ _ _ _ _ (@pe_call _ _ _ _ _ _ _ _ _ _ _ _ _ _ _ _ G_weights_of hr_weights_of rfl T.m_weights_of T.F_weights_of.kp T.b_weights_of .nil pass0 (@pa1 _ _ _ (@vw _ 1 _ _ (by walk_at "v")) (by rfl)) (by decide) (by rfl) (by rfl)) (@pa1 _ _ _ (@pe_int _ _ _ _) (by rfl)) (by rfl)) (by rfl)) (by decide) (by rfl) (by rfl)) (@pe_call _ _ _ _ _ _ _ _ _ _ _ _ _ _ _ _ G_two_to hr_two_to rfl T.m_two_to T.F_two_to.kp T.b_two_to .nil pass0 (@pa1 _ _ _ (@kIx _ K _ _ _ _ _ (@vw _ 0 _ _ (by walk_at "v")) (@pe_int _ _ _ _) (by intro _ _; rfl) (by rfl)) (by rfl)) (by decide) (by rfl) (by rfl))))), ?_⟩
  refine ⟨_, .ref b, .inr ha, rfl, m, _, S2, m6, fun l H1 hl s1 g1 => ?_⟩
  refine ⟨m, _, _, us, sqT_same hb s1, Reps.same s1 _ _ hR, .of g1, rfl, m6, wt_light m6 bs, fun H2 s2 => ?_⟩
  refine ⟨_, .int m, .inr (sqT_same ha (s1.trans s2)), rfl, m, rfl, by omega, okDiv_of (by omega) (Int.le_trans i1 (by decide)), ?_⟩
  have q' := q H2 (s1.trans s2)
  have e : sumTo (fun j => wt m (valF as) j * wt m (valF bs) j) (2 ^ m) / ((2 ^ m : Nat) : Int) = sumTo (fun p => valF as p * valF bs p) (2 ^ m) := by
    rw [wt_mul, Int.mul_ediv_cancel_left _ (by omega)]
  rw [<- e] at q'
  exact q'
def pickI (G : Nat -> Int) : Nat -> Nat
  | 0 => 0
  | n + 1 => if G (n + 1) < G (pickI G n) then n + 1 else pickI G n
theorem manyF_has : ∀ m j, j <= m -> ∃ s, s < 2 ^ m /\ manyF m s = j
  | 0, j, h => ⟨0, by decide, by have : j = 0 := by omega
                                 subst this; rfl⟩
  | m + 1, 0, _ => ⟨0, Nat.two_pow_pos _, manyF_zero _⟩
  | m + 1, j + 1, h => by
    obtain ⟨s, h1, h2⟩ := manyF_has m j (by omega)
    refine ⟨2 * s + 1, by rw [Nat.pow_succ]; omega, ?_⟩
    show (2 * s + 1) % 2 + manyF m ((2 * s + 1) / 2) = j + 1
    rw [show (2 * s + 1) / 2 = s by omega, h2]
    omega
theorem manyF_full : ∀ m s, s < 2 ^ m -> (manyF m s = m ↔ s = 2 ^ m - 1)
  | 0, s, h => by
    have : s = 0 := by rw [Nat.pow_zero] at h; omega
    subst this
    exact ⟨fun _ => rfl, fun _ => rfl⟩
  | m + 1, s, h => by
    have hp : 2 ^ (m + 1) = 2 * 2 ^ m := by rw [Nat.pow_succ]; omega
    have h0 := Nat.two_pow_pos m
    have ih := manyF_full m (s / 2) (by omega)
    have hl := manyF_le m (s / 2)
    show s % 2 + manyF m (s / 2) = m + 1 ↔ _
    rw [hp] at *
    generalize 2 ^ m = M at *
    constructor
    . intro e
      have := ih.mp (by omega)
      omega
    . intro e
      have := ih.mpr (by omega)
      omega
theorem setL_full (m : Nat) : setL m m (2 ^ m) = [2 ^ m - 1] := by
  have h0 := Nat.two_pow_pos m
  have e : setL m m (2 ^ m - 1) = [] := by
    unfold setL
    rw [List.filter_eq_nil_iff]
    intro x hx
    have hx := List.mem_range.mp hx
    have := (manyF_full m x (by omega))
    simp only [decide_eq_true_eq]
    omega
  have e2 : setL m m (2 ^ m - 1 + 1) = [2 ^ m - 1] := by
    rw [setL_succ, e, if_pos ((manyF_full m _ (by omega)).mpr rfl)]
    rfl
  rw [show 2 ^ m - 1 + 1 = 2 ^ m by omega] at e2
  exact e2
theorem setL_ne (m k : Nat) : 0 < (setL m (min m k) (2 ^ m)).length := by
  obtain ⟨s, h1, h2⟩ := manyF_has m (min m k) (by omega)
  refine List.length_pos_of_mem (a := s) ?_
  unfold setL
  exact List.mem_filter.mpr ⟨List.mem_range.mpr h1, decide_eq_true h2⟩
def distO (m : Nat) (bs : List Bool) (o : Nat) : Nat := (difL (bestB m (wt m (valF bs)) o) bs (2 ^ m)).length
def nearG (m k : Nat) (bs : List Bool) (i : Nat) : Int := (distO m bs ((setL m (min m k) (2 ^ m)).getD i 0) : Nat)
def nearO (m k : Nat) (bs : List Bool) (n : Nat) : Nat := (setL m (min m k) (2 ^ m)).getD (pickI (nearG m k bs) n) 0
def nearD (m k : Nat) (bs : List Bool) (n : Nat) : Dv := bestD (bestB m (wt m (valF bs)) (nearO m k bs n)) bs m
abbrev nearN (m k : Nat) : Nat := (setL m (min m k) (2 ^ m)).length - 1
theorem best_at {K : W.Frag} {H : Hp} {as bs : List Bool} {m : Nat} {u : V} (h : Rep K H (bestD as bs m) u) : ∃ a x, u = .ref a /\ SqT K H a [x, .int ((difL as bs (2 ^ m)).length : Nat)] := by
  unfold bestD at h
  obtain ⟨a, xs, e, h1, h2⟩ := rep_tup_inv h
  unfold Reps at h2
  obtain ⟨x, r, rfl, _, h3⟩ := h2
  unfold Reps at h3
  obtain ⟨y, r, rfl, h4, h5⟩ := h3
  unfold Reps at h5
  unfold Rep at h4
  subst h4 h5
  exact ⟨a, x, e, h1⟩
theorem ok__law_sets : FnOk P w K mg base CX0 2 T.f__law_sets T.d__law_sets ["_law_n", "_law_k"] sp_sets := by
  have G__law_many := ok__law_many (P := P) (w := w) (base := base) T
  refine T.F__law_sets.ok sc__law_sets (fun vs H Q E h => by unfold sp_sets at h; split at h <;> first | rfl | exact h.elim) (fun cdv A outer s H vs Q E hr h => ?_)
  have hu := hu60 hr
  have mo2 : SpMono sp_many := sp_many_mono
  have hr__law_many := hr.mono (show 1 <= _ by decide)
  match vs, h with
  | [.int x, .int y], h =>
  obtain ⟨m, k, e1, e2, m6, q⟩ := h
  subst e1 e2
  have h64 : 2 ^ m <= 64 := Nat.pow_le_pow_right (n := 2) (by decide) m6
  have i1 : ((2 ^ m : Nat) : Int) <= 64 := Int.ofNat_le.mpr h64
  have i0 : (0 : Int) <= ((2 ^ m : Nat) : Int) := Int.natCast_nonneg _
  have esh : (1 : Int) * 2 ^ ((m : Int)).toNat = ((2 ^ m : Nat) : Int) := by rw [Int.one_mul, Int.toNat_natCast, Int.natCast_pow]; rfl
  have hsh : CPow 1 (m : Int) := ⟨by omega, by omega, by decide⟩
  refine ⟨_, (@pss_cons _ _ _ _ _ (@ps_if _ _ _ _ _ _ _ _ (@tu_cmp _ _ _ _ _ _ _ _ om_ge (@vw _ 1 _ _ (by walk_at "v")) (@vw _ 0 _ _ (by walk_at "v")) (by walk_at "n")) (@pss_one _ _ _ (@ps_ret _ _ _ _ (@pe_lst _ _ _ _ (@pa1 _ _ _ (@pe_op _ _ _ _ _ _ _ _ om_sub (@pe_op _ _ _ _ _ _ _ _ om_shl (@pe_int _ _ _ _) (@vw _ 0 _ _ (by walk_at "v"))) (@pe_int _ _ _ _)) (by rfl))))) (@pss_nil _)) (@pss_one _ _ _ (@ps_ret _ _ _ _ (@pe_compB _ _ _ _ _ _ _ (["_law_some", "_law_k"]) 1 [1] _ _ _ _ rfl (@pi_range1 _ _ _ _ _ _ rfl T.z_range (@pa1 _ _ _ (@pe_op _ _ _ _ _ _ _ _ om_shl (@pe_int _ _ _ _) (@vw _ 0 _ _ (by walk_at "v"))) (by rfl)) (by rfl)) (by kernel_rfl) rfl rfl (by kernel_rfl) (fun c => @pg_name _ _ 0 _ (show (["_law_some", "_law_k"] : List Str).Nodup by decide +kernel) rfl (by walk_at "e") (by walk_at "i")) (go_name (by decide)) (fun c => @pts_one _ _ _ (@tu_cmp _ _ _ _ _ _ _ _ (kEq (K := K) hu) (@pe_call _ _ _ _ _ _ _ _ _ _ _ _ _ _ _ _ G__law_many hr__law_many rfl T.m__law_many T.F__law_many.kp T.b__law_many .nil pass0 (@pa1 _ _ _ (@vw _ 0 _ _ (by walk_at "v")) (by rfl)) (by decide) (by rfl) (by rfl)) (@vw _ 1 _ _ (by walk_at "v")) (by walk_at "n"))) (fun c => (@vw _ 0 _ _ (by walk_at "v"))) (by intro _; rfl))))), ?_⟩
  refine ite2 (fun e => ?_) (fun e => ?_)
  . have hk : m <= k := by have : (m : Int) <= (k : Int) := of_decide_eq_true e; omega
    refine ⟨hsh, small_le (show 1 <= 1000 by decide), fun p hp => q p _ hp (Same.upd hp) ?_⟩
    rw [upd_same, esh, Nat.min_eq_left hk, setL_full]
    have h0 := Nat.two_pow_pos m
    generalize 2 ^ m = M at *
    have : (M : Int) - 1 = ((M - 1 : Nat) : Int) := by omega
    rw [this]
    rfl
  . have hk : k < m := by
      have : ¬ (m : Int) <= (k : Int) := fun z => e (decide_eq_true z)
      omega
    rw [Nat.min_eq_right (Nat.le_of_lt hk)] at q
    dsimp only [tNext]
    refine ⟨hsh, ?_⟩
    rw [esh]
    refine ⟨_, rfl, by omega, by omega, ?_⟩
    refine comp_range (fun i ys H' => H' = H /\ ys = iL (setL m k i)) ⟨rfl, rfl⟩ (fun i ys H' hi ⟨_, e⟩ => by
      have := setL_len m k i
      rw [e, iL_len]; exact small1000 (by omega)) ?_ ?_
    . rintro i ys H' hi ⟨rfl, rfl⟩
      have hi' : i < 2 ^ m := by omega
      rw [show (0 : Int) + (i : Int) = (i : Int) from Int.zero_add _]
      refine ⟨i, rfl, by omega, ?_⟩
      rw [many_of hi' (by omega)]
      have eb : (false ^^ (((manyF m i : Nat) : Int) == (k : Int))) = decide (manyF m i = k) := by
        rw [Bool.false_xor, Bool.eq_iff_iff]
        simp only [beq_iff_eq, decide_eq_true_eq]
        omega
      refine ite2 (fun e => ?_) (fun e => ?_)
      . have e' : manyF m i = k := of_decide_eq_true (eb ▸ e)
        refine ⟨rfl, ?_⟩
        rw [setL_succ, if_pos e', iL_app]
        rfl
      . have e' : ¬ manyF m i = k := fun z => e (eb.symm ▸ decide_eq_true z)
        refine ⟨rfl, ?_⟩
        rw [setL_succ, if_neg e', List.append_nil]
    . rintro ys H' ⟨rfl, rfl⟩ l hl
      rw [Int.toNat_natCast]
      exact q l _ hl (Same.upd hl) upd_same
def sp_lnear (K : W.Frag) : Sp := fun vs H Q _ => match vs with
  | [.ref tp, .int z] => ∃ (m k : Nat) (bs : List Bool), SqT K H tp (bs.map V.bl) /\ bs.length = 2 ^ m /\ m <= 6 /\ z = k /\ ∀ u H', Same H H' -> Rep K H' (nearD m k bs (nearN m k)) u -> Q u H'
  | _ => False
theorem sp_lnear_mono : SpMono (sp_lnear K) := fun vs H Q Q' E h q => by
  unfold sp_lnear at *
  split at q
  . revert q; repeat' first | exact h _ _ | exact newL_mono h | walk_at "m"
  . exact q.elim
def foundAt (K : W.Frag) (H : Hp) (m k : Nat) (bs : List Bool) : Nat -> V -> Prop
  | 0, u => u = .non
  | i + 1, u => Rep K H (nearD m k bs i) u
theorem ok__law_nearest : FnOk P w K mg base CX0 3 T.f__law_nearest T.d__law_nearest ["_law_table_here", "_law_k"] (sp_lnear K) := by
  have G__law_sets := ok__law_sets (P := P) (w := w) (base := base) T; have G__law_best := ok__law_best (P := P) (w := w) (base := base) T
  refine T.F__law_nearest.ok sc__law_nearest (fun vs H Q E h => by unfold sp_lnear at h; split at h <;> first | rfl | exact h.elim) (fun cdv A outer s H vs Q E hr h => ?_)
  have hu := hu60 hr
  have mo1 : SpMono sp_sets := sp_sets_mono
  have mo2 : SpMono (sp_fbest K) := sp_fbest_mono
  have hr__law_sets := hr.mono (show 2 <= _ by decide); have hr__law_best := hr.mono (show 1 <= _ by decide)
  match vs, h with
  | [.ref tp, .int z], h =>
  obtain ⟨m, k, bs, ht, hb, m6, e1, q⟩ := h
  subst e1
  have h64 : 2 ^ m <= 64 := Nat.pow_le_pow_right (n := 2) (by decide) m6
  have hne := setL_ne m k
  have hbits := bits_pow m (by omega)
  refine ⟨_, (@pss_cons _ _ _ _ _ (@ps_set _ _ 2 _ _ _ _ sc__law_nearest.nd rfl (by walk_at "e") (@pe_non _ _ _) (by rfl) (by walk_at "i")) (@pss_cons _ _ _ _ _ (@ps_for _ _ _ _ _ _ _ _ PassesOwn.never rfl (@kSeq _ K _ _ _ (@pe_call _ _ _ _ _ _ _ _ _ _ _ _ _ _ _ _ G__law_sets hr__law_sets rfl T.m__law_sets T.F__law_sets.kp T.b__law_sets .nil pass0 (@pa_cons _ _ _ _ _ (@pe_op _ _ _ _ _ _ _ _ om_sub (@kBitlen _ K _ _ _ _ (@pe_callB _ _ _ _ _ _ _ _ _ (kLen (K := K)) rfl T.z_len (by rfl) (@pa1 _ _ _ (@vw _ 0 _ _ (by walk_at "v")) (by rfl)) (by decide) (by decide) (by rfl) (by rfl)) (by rfl) (by rfl) (by rfl)) (@pe_int _ _ _ _)) (@pa1 _ _ _ (@vw _ 1 _ _ (by walk_at "v")) (by rfl)) (by rfl)) (by decide) (by rfl) (by rfl)) (by rfl)) (@pg_name _ _ 3 _ sc__law_nearest.nd rfl (by walk_at "e") (by walk_at "i")) (@pss_cons _ _ _ _ _ (@ps_set _ _ 4 _ _ _ _ sc__law_nearest.nd rfl (by walk_at "e") (@pe_call _ _ _ _ _ _ _ _ _ _ _ _ _ _ _ _ G__law_best hr__law_best rfl T.m__law_best T.F__law_best.kp T.b__law_best .nil pass0 (@pa_cons _ _ _ _ _ (@vw _ 0 _ _ (by walk_at "v")) (@pa1 _ _ _ (@vw _ 3 _ _ (by walk_at "v")) (by rfl)) (by rfl)) (by decide) (by rfl) (by rfl)) (by rfl) (by walk_at "i")) (@pss_one _ _ _ (@ps_if _ _ _ _ _ _ _ _ (PW.pt (@pw_or _ _ _ _ _ _ _ (@tu_cmp _ _ _ _ _ _ _ _ om_is (@vw _ 2 _ _ (by walk_at "v")) (@pe_non _ _ _) (by walk_at "n")) (@pw_or1 _ _ _ _ (@tu_cmp _ _ _ _ _ _ _ _ om_lt (@kIx _ K _ _ _ _ _ (@vw _ 4 _ _ (by walk_at "v")) (@pe_int _ _ _ _) (by intro _ _; rfl) (by rfl)) (@kIx _ K _ _ _ _ _ (@vw _ 2 _ _ (by walk_at "v")) (@pe_int _ _ _ _) (by intro _ _; rfl) (by rfl)) (by walk_at "n"))))) (@pss_one _ _ _ (@ps_set _ _ 2 _ _ _ _ sc__law_nearest.nd rfl (by walk_at "e") (@vw _ 4 _ _ (by walk_at "v")) (by rfl) (by walk_at "i"))) (@pss_nil _)))) (by intro _; rfl)) (@pss_one _ _ _ (@ps_ret _ _ _ _ (@vw _ 2 _ _ (by walk_at "v")))))), ?_⟩
  refine seq_at (fun σ H' => σ = [some (.ref tp), some (.int k), some .non, none, none] /\ H = H') ⟨rfl, rfl⟩ ?_ (by walk_at "sm")
  rintro σ _ ⟨rfl, rfl⟩
  refine seq_at (fun σ H' => ∃ (u : V) (z3 z4 : Option V), σ = [some (.ref tp), some (.int k), some u, z3, z4] /\ Same H H' /\ foundAt K H' m k bs (setL m (min m k) (2 ^ m)).length u) ?_ ?_ (by walk_at "sm")
  . refine ⟨2 ^ m, .inr ⟨_, ht, by rw [List.length_map, hb]⟩, rfl, ?_⟩
    dsimp only [mBitlen, tC, mSub]
    rw [hbits]
    have : ((m + 1 : Nat) : Int) - 1 = (m : Int) := by omega
    rw [this]
    refine ⟨m, k, rfl, rfl, m6, fun l H1 hl s1 g1 => .inl ⟨⟨_, .of g1⟩, ?_⟩⟩
    have hmem : ∀ x ∈ setL m (min m k) (2 ^ m), x < 2 ^ m := fun x hx => setL_mem hx
    have hsl := setL_len m (min m k) (2 ^ m)
    generalize hS : setL m (min m k) (2 ^ m) = SS at *
    refine for_list (D := { nx := fun σ H' => ∃ (u : V) (z3 z4 : Option V), σ = [some (.ref tp), some (.int k), some u, z3, z4] /\ Same H H' /\ foundAt K H' m k bs SS.length u, rt := Q }) (xs := iL SS) (fun i σ H' => ∃ (u : V) (z3 z4 : Option V), σ = [some (.ref tp), some (.int k), some u, z3, z4] /\ Same H1 H' /\ foundAt K H' m k bs i u) ⟨.non, none, none, rfl, Same.refl _, rfl⟩ (fun i σ H' _ ⟨_, _, _, _, s, _⟩ => .of (s _ _ g1)) ?_ ?_
    . rintro i x σ H2 hx ⟨u, z3, z4, rfl, s2, hF⟩
      obtain ⟨o, ho, hm, rfl⟩ := iL_at hx
      have eo : (setL m (min m k) (2 ^ m)).getD i 0 = o := by rw [hS, List.getD_eq_getElem?_getD, ho]; rfl
      dsimp only [gName]
      refine ⟨m, o, bs, (s1.trans s2).sqT ht, hb, m6, rfl, hmem o hm, fun u3 H3 s3 r3 => ?_⟩
      cases i with
      | zero =>
        have hu0 : u = .non := hF
        subst hu0
        dsimp only [gName]
        refine if_val true ?_ ?_
        . exact fun Q q => q
        refine iteT ⟨u3, _, _, rfl, s2.trans s3, ?_⟩
        show Rep K H3 (nearD m k bs 0) u3
        unfold nearD nearO pickI
        rw [eo]; exact r3
      | succ i =>
        have hF' : Rep K H2 (nearD m k bs i) u := hF
        have hF3 := Rep.same s3 _ _ hF'
        have r3' := r3
        unfold nearD at hF3
        obtain ⟨b, x, e1, e2⟩ := best_at hF3
        obtain ⟨b3, x3, e3, e4⟩ := best_at r3
        subst e1 e3
        have eg : nearG m k bs (i + 1) = ((difL (bestB m (wt m (valF bs)) o) bs (2 ^ m)).length : Nat) := by unfold nearG distO; rw [eo]
        have eg2 : nearG m k bs (pickI (nearG m k bs) i) = ((difL (bestB m (wt m (valF bs)) (nearO m k bs i)) bs (2 ^ m)).length : Nat) := by unfold nearG distO nearO; rfl
        dsimp only [gName]
        refine if_val (decide (nearG m k bs (i + 1) < nearG m k bs (pickI (nearG m k bs) i))) ?_ ?_
        . exact fun Q q => ⟨_, _, .inr e4, atI_of (n := 1) rfl rfl, _, _, .inr e2, atI_of (n := 1) rfl rfl, by rw [eg, eg2] at q; exact q⟩
        refine ite2 (fun e => ?_) (fun e => ?_)
        . have e' : nearG m k bs (i + 1) < nearG m k bs (pickI (nearG m k bs) i) := of_decide_eq_true e
          refine ⟨.ref b3, _, _, rfl, s2.trans s3, ?_⟩
          show Rep K H3 (nearD m k bs (i + 1)) (.ref b3)
          unfold nearD nearO pickI
          rw [if_pos e', eo]; exact r3'
        . have e' : ¬ nearG m k bs (i + 1) < nearG m k bs (pickI (nearG m k bs) i) := fun z => e (decide_eq_true z)
          refine ⟨.ref b, _, _, rfl, s2.trans s3, ?_⟩
          show Rep K H3 (nearD m k bs (i + 1)) (.ref b)
          unfold nearD nearO pickI
          rw [if_neg e']
          unfold nearO at hF3
          exact hF3
    . rintro σ H2 ⟨u, z3, z4, rfl, s2, hF⟩
      rw [iL_len] at hF
      exact ⟨u, z3, z4, rfl, s1.trans s2, hF⟩
  . rintro σ H2 ⟨u, z3, z4, rfl, s2, hF⟩
    refine q u H2 s2 ?_
    unfold nearN
    generalize (setL m (min m k) (2 ^ m)).length = n at *
    cases n with
    | zero => omega
    | succ n => exact hF
def sp_hung (K : W.Frag) : Sp := fun vs H Q _ => match vs with
  | [.ref tp] => ∃ (m : Nat) (bs : List Bool), SqT K H tp (bs.map V.bl) /\ bs.length = 2 ^ m /\ m <= 6 /\ ∀ H', Same H H' -> Q (.int (hungTo (cntS bs m) m : Nat)) H'
  | _ => False
theorem sp_hung_mono : SpMono (sp_hung K) := fun vs H Q Q' E h q => by
  unfold sp_hung at *
  split at q
  . revert q; repeat' first | exact h _ _ | exact newL_mono h | walk_at "m"
  . exact q.elim
def apL (bs : List Bool) (s n : Nat) : List Bool := (List.range n).map (matF bs s)
theorem apL_len (bs : List Bool) (s n : Nat) : (apL bs s n).length = n := by unfold apL; simp
theorem apL_any (bs : List Bool) (s n : Nat) : (apL bs s n).any id = decide (0 < (matL bs s n).length) := by
  rw [Bool.eq_iff_iff, decide_eq_true_eq, List.any_eq_true]
  unfold apL matL
  constructor
  . rintro ⟨b, hb, e⟩
    obtain ⟨p, hp, rfl⟩ := List.mem_map.mp hb
    exact List.length_pos_of_mem (List.mem_filter.mpr ⟨hp, e⟩)
  . intro h
    obtain ⟨p, hp⟩ := List.exists_mem_of_length_pos h
    obtain ⟨h1, h2⟩ := List.mem_filter.mp hp
    exact ⟨_, List.mem_map.mpr ⟨p, h1, rfl⟩, h2⟩
theorem ok__law_hung : FnOk P w K mg base CX0 1 T.f__law_hung T.d__law_hung ["_law_table_here"] (sp_hung K) := by
  refine T.F__law_hung.ok sc__law_hung (fun vs H Q E h => by unfold sp_hung at h; split at h <;> first | rfl | exact h.elim) (fun cdv A outer s H vs Q E hr h => ?_)
  have hu := hu60 hr
  match vs, h with
  | [.ref tp], h =>
  obtain ⟨m, bs, ht, hb, m6, q⟩ := h
  have h64 : 2 ^ m <= 64 := Nat.pow_le_pow_right (n := 2) (by decide) m6
  have i1 : ((2 ^ m : Nat) : Int) <= 64 := Int.ofNat_le.mpr h64
  have i0 : (0 : Int) <= ((2 ^ m : Nat) : Int) := Int.natCast_nonneg _
  refine ⟨_, (@pss_cons _ _ _ _ _ (@ps_set _ _ 1 _ _ _ _ sc__law_hung.nd rfl (by walk_at "e") (@pe_int _ _ _ _) (by rfl) (by walk_at "i")) (@pss_cons _ _ _ _ _ (@ps_set _ _ 2 _ _ _ _ sc__law_hung.nd rfl (by walk_at "e") (@pe_int _ _ _ _) (by rfl) (by walk_at "i")) (@pss_cons _ _ _ _ _ (@ps_whileM _ _ _ _ _ _ PassesOwn.never (@tu_cmp _ _ _ _ _ _ _ _ om_lt (@vw _ 2 _ _ (by walk_at "v")) (@pe_callB _ _ _ _ _ _ _ _ _ (kLen (K := K)) rfl T.z_len (by rfl) (@pa1 _ _ _ (@vw _ 0 _ _ (by walk_at "v")) (by rfl)) (by decide) (by decide) (by rfl) (by rfl)) (by walk_at "n")) (@pss_cons _ _ _ _ _ (@ps_if _ _ _ _ _ _ _ _ (@tu_cmp _ _ _ _ _ _ _ _ (kIn (K := K)) (@pe_bl _ _ _ _) (@pe_compB _ _ _ _ _ _ _ (["_law_p", "_law_table_here", "_law_step"]) 1 ([0, 2]) _ _ _ _ rfl (@pi_range1 _ _ _ _ _ _ rfl T.z_range (@pa1 _ _ _ (@pe_callB _ _ _ _ _ _ _ _ _ (kLen (K := K)) rfl T.z_len (by rfl) (@pa1 _ _ _ (@vw _ 0 _ _ (by walk_at "v")) (by rfl)) (by decide) (by decide) (by rfl) (by rfl)) (by rfl)) (by rfl)) (by kernel_rfl) rfl rfl (by kernel_rfl) (fun c => @pg_name _ _ 0 _ (show (["_law_p", "_law_table_here", "_law_step"] : List Str).Nodup by decide +kernel) rfl (by walk_at "e") (by walk_at "i")) (go_name (by decide)) (fun c => @pts_nil _) (fun c => (@pe_cmpM _ _ _ _ _ _ _ _ (kNe (K := K) hu) (@kIx _ K _ _ _ _ _ (@vw _ 1 _ _ (by walk_at "v")) (@vw _ 0 _ _ (by walk_at "v")) (by intro _ _; rfl) (by rfl)) (@kIx _ K _ _ _ _ _ (@vw _ 1 _ _ (by walk_at "v")) (@pe_op _ _ _ _ _ _ _ _ om_xor (@vw _ 0 _ _ (by walk_at "v")) (@vw _ 2 _ _ (by walk_at "v"))) (by intro _ _; rfl) (by rfl)) (by walk_at "n"))) (by intro _; rfl)) (by walk_at "n")) (@pss_one _ _ _ (@ps_set _ _ 1 _ _ _ _ sc__law_hung.nd rfl (by walk_at "e") (@pe_op _ _ _ _ _ _ _ _ (kAdd (K := K)) (@vw _ 1 _ _ (by walk_at "v")) (@vw _ 2 _ _ (by walk_at "v"))) (by rfl) (by walk_at "i"))) (@pss_nil _)) (@pss_one _ _ _ (@ps_set _ _ 2 _ _ _ _ sc__law_hung.nd rfl (by walk_at "e") (@pe_op _ _ _ _ _ _ _ _ om_mul (@pe_int _ _ _ _) (@vw _ 2 _ _ (by walk_at "v"))) (by rfl) (by walk_at "i"))))) (@pss_one _ _ _ (@ps_ret _ _ _ _ (@vw _ 1 _ _ (by walk_at "v"))))))), ?_⟩
  refine seq_at (fun σ H' => σ = [some (.ref tp), some (.int 0), none] /\ H = H') ⟨rfl, rfl⟩ ?_ (by walk_at "sm")
  rintro σ _ ⟨rfl, rfl⟩
  refine seq_at (fun σ H' => σ = [some (.ref tp), some (.int 0), some (.int 1)] /\ H = H') ⟨rfl, rfl⟩ ?_ (by walk_at "sm")
  rintro σ _ ⟨rfl, rfl⟩
  refine seq_at (fun σ H' => σ = [some (.ref tp), some (.int (hungTo (cntS bs m) m : Nat)), some (.int (2 ^ m : Nat))] /\ Same H H') ?_ ?_ (by walk_at "sm")
  . refine ⟨fun f σ H' => ∃ j : Nat, j <= m /\ f = m - j /\ σ = [some (.ref tp), some (.int (hungTo (cntS bs m) j : Nat)), some (.int (2 ^ j : Nat))] /\ Same H H', ⟨m, 0, Nat.zero_le _, rfl, rfl, Same.refl _⟩, ?_⟩
    rintro f σ H1 ⟨j, hj, rfl, rfl, s1⟩
    refine ⟨2 ^ m, .inr ⟨_, s1.sqT ht, by rw [List.length_map, hb]⟩, ?_⟩
    refine ite2 (fun e => ?_) (fun e => ?_)
    . have e' : ((2 ^ j : Nat) : Int) < ((2 ^ m : Nat) : Int) := of_decide_eq_true e
      have hjm : j < m := by
        rcases Nat.lt_or_ge j m with z | z
        . exact z
        . have : j = m := by omega
          subst this; omega
      refine seq_at (fun σ H' => σ = [some (.ref tp), some (.int (hungTo (cntS bs m) (j + 1) : Nat)), some (.int (2 ^ j : Nat))] /\ Same H H') ?_ ?_ (by walk_at "sm")
      . refine ⟨2 ^ m, .inr ⟨_, s1.sqT ht, by rw [List.length_map, hb]⟩, ((2 ^ m : Nat) : Int), rfl, by omega, by omega, ?_⟩
        refine comp_range (fun i ys H' => H' = H1 /\ ys = (apL bs (2 ^ j) i).map V.bl) ⟨rfl, rfl⟩ (fun i ys H' hi ⟨_, e⟩ => by
          rw [e, List.length_map, apL_len]; exact small1000 (by omega)) ?_ ?_
        . rintro i ys H' hi ⟨rfl, rfl⟩
          have hi' : i < 2 ^ m := by omega
          rw [show (0 : Int) + (i : Int) = (i : Int) from Int.zero_add _]
          have hx : i ^^^ 2 ^ j < 2 ^ m := Nat.xor_lt_two_pow hi' (Nat.pow_lt_pow_right (by decide) hjm)
          have ex : Builtin.bitXor (i : Int) ((2 ^ j : Nat) : Int) = ((i ^^^ 2 ^ j : Nat) : Int) := bitXor_nat i (2 ^ j)
          refine ⟨_, .bl (gB bs i), .inr (s1.sqT ht), gB_at (by omega), ?_⟩
          refine ⟨_, .bl (gB bs (i ^^^ 2 ^ j)), .inr (s1.sqT ht), (by rw [ex]; exact gB_at (by omega)), rfl, ?_⟩
          unfold apL
          rw [List.range_succ, List.map_append, List.map_append]
          congr 1
          show [V.bl _] = [V.bl _]
          unfold matF
          cases gB bs i <;> cases gB bs (i ^^^ 2 ^ j) <;> rfl
        . rintro ys H' ⟨rfl, rfl⟩ l hl
          rw [Int.toNat_natCast]
          refine ⟨_, .inl (.of upd_same), rfl, flat_bl _, ?_⟩
          rw [in_true, apL_any, Bool.false_xor]
          have ec : cntS bs m j = (matL bs (2 ^ j) (2 ^ m)).length := rfl
          rw [<- ec]
          have eh : hungTo (cntS bs m) (j + 1) = if 0 < cntS bs m j then hungTo (cntS bs m) j + 2 ^ j else hungTo (cntS bs m) j := rfl
          refine ite2 (fun e => ?_) (fun e => ?_)
          . rw [if_pos (of_decide_eq_true e)] at eh
            refine ⟨?_, s1.trans (Same.upd hl)⟩
            rw [eh, Int.natCast_add]
            rfl
          . rw [if_neg (fun z => e (decide_eq_true z))] at eh
            exact ⟨by rw [eh], s1.trans (Same.upd hl)⟩
      . rintro σ H2 ⟨rfl, s2⟩
        refine ⟨.inr (.inl ⟨by omega, by omega⟩), m - (j + 1), by omega, j + 1, hjm, rfl, ?_, s2⟩
        show [some _, some _, some (V.int (2 * ((2 ^ j : Nat) : Int)))] = _
        rw [show 2 * ((2 ^ j : Nat) : Int) = ((2 ^ (j + 1) : Nat) : Int) by rw [Nat.pow_succ]; omega]
    . have e' : ¬ ((2 ^ j : Nat) : Int) < ((2 ^ m : Nat) : Int) := fun z => e (decide_eq_true z)
      have hjm : j = m := by
        rcases Nat.lt_or_ge j m with z | z
        . exact absurd (Int.ofNat_lt.mpr (Nat.pow_lt_pow_right (by decide) z)) e'
        . omega
      subst hjm
      exact ⟨rfl, s1⟩
  . rintro σ H1 ⟨rfl, s1⟩
    exact q H1 s1
def kvL (v : Nat -> Int) (o i : Nat) (rs : List Nat) : List (Key × V) := rs.map fun r => (Sum.inl ((r : Nat) : Int), V.int (setTo v o i r))
theorem kvL_len (v : Nat -> Int) (o i : Nat) (rs : List Nat) : (kvL v o i rs).length = rs.length := by unfold kvL; simp
theorem kvL_val (v : Nat -> Int) (o i r : Nat) : ∀ rs : List Nat, valV (kvL v o i rs) (.inl ((r : Nat) : Int)) = if r ∈ rs then some (.int (setTo v o i r)) else none
  | [] => rfl
  | x :: rs => by
    have ih := kvL_val v o i r rs
    by_cases e : x = r
    . subst e
      rw [if_pos List.mem_cons_self]
      exact valV_pos rfl
    . have h1 : ¬ (Sum.inl ((x : Nat) : Int) : Key) = .inl ((r : Nat) : Int) := fun z => e (by have := Sum.inl.inj z; omega)
      show valV ((Sum.inl ((x : Nat) : Int), V.int (setTo v o i x)) :: kvL v o i rs) _ = _
      rw [valV_neg h1, ih]
      by_cases hm : r ∈ rs
      . rw [if_pos hm, if_pos (List.mem_cons_of_mem _ hm)]
      . rw [if_neg hm, if_neg (fun z => (List.mem_cons.mp z).elim (fun z => e z.symm) hm)]
theorem setTo_succ (v : Nat -> Int) (o i r : Nat) : setTo v o (i + 1) r = setTo v o i r + (if i &&& o = r then v i else 0) := rfl
theorem setTo_none {v : Nat -> Int} {o r : Nat} : ∀ {i : Nat}, (∀ p, p < i -> p &&& o ≠ r) -> setTo v o i r = 0
  | 0, _ => rfl
  | i + 1, h => by
    rw [setTo_succ, setTo_none fun p hp => h p (by omega), if_neg (h i (by omega))]
    rfl
structure RsAt (o i : Nat) (rs : List Nat) : Prop where
  nd : rs.Nodup
  has : ∀ p, p < i -> (p &&& o) ∈ rs
  only : ∀ r ∈ rs, ∃ p, p < i /\ p &&& o = r
  len : rs.length <= i
theorem RsAt.put {v : Nat -> Int} {o i : Nat} {rs : List Nat} (R : RsAt o i rs) : ∃ rs', RsAt o (i + 1) rs' /\ putK (kvL v o i rs) (.inl ((i &&& o : Nat) : Int)) (.int (setTo v o i (i &&& o) + v i)) = kvL v o (i + 1) rs' := by
  have hv := kvL_val v o i (i &&& o) rs
  by_cases hm : (i &&& o) ∈ rs
  . refine ⟨rs, ⟨R.nd, fun p hp => ?_, fun r hr => ?_, Nat.le_succ_of_le R.len⟩, ?_⟩
    . by_cases e : p = i
      . subst e; exact hm
      . exact R.has p (by omega)
    . obtain ⟨p, h1, h2⟩ := R.only r hr
      exact ⟨p, by omega, h2⟩
    . unfold putK
      rw [if_pos (by rw [valV_any, hv, if_pos hm]; rfl)]
      unfold kvL
      rw [List.map_map]
      refine List.map_congr_left fun r hr => ?_
      show (if (Sum.inl ((r : Nat) : Int) : Key) = .inl ((i &&& o : Nat) : Int) then _ else _) = _
      by_cases e : r = i &&& o
      . subst e
        rw [if_pos rfl, setTo_succ, if_pos rfl]
      . rw [if_neg (fun z => e (by have := Sum.inl.inj z; omega)), setTo_succ, if_neg (Ne.symm e), Int.add_zero]
  . refine ⟨rs ++ [i &&& o], ⟨?_, fun p hp => ?_, fun r hr => ?_, by rw [List.length_append]; exact Nat.succ_le_succ R.len⟩, ?_⟩
    . rw [List.nodup_append]
      refine ⟨R.nd, by simp, fun a ha b hb => ?_⟩
      rw [List.mem_singleton.mp hb]
      exact fun z => hm (z ▸ ha)
    . by_cases e : p = i
      . subst e; exact List.mem_append_right _ List.mem_cons_self
      . exact List.mem_append_left _ (R.has p (by omega))
    . rcases List.mem_append.mp hr with hr | hr
      . obtain ⟨p, h1, h2⟩ := R.only r hr
        exact ⟨p, by omega, h2⟩
      . exact ⟨i, by omega, (List.mem_singleton.mp hr).symm⟩
    . rw [putK_new _ (by rw [hv, if_neg hm])]
      unfold kvL
      rw [List.map_append]
      congr 1
      . refine List.map_congr_left fun r hr => ?_
        have hn : ¬ i &&& o = r := fun z => hm (by rw [z]; exact hr)
        rw [setTo_succ, if_neg hn, Int.add_zero]
      . show [_] = [(Sum.inl ((i &&& o : Nat) : Int), V.int (setTo v o (i + 1) (i &&& o)))]
        rw [setTo_succ, if_pos rfl]
theorem sum_one {x : Nat} {y : Int} : ∀ {rs : List Nat}, rs.Nodup -> x ∈ rs -> (rs.map fun r => if x = r then y else 0).sum = y
  | [], _, h => nomatch h
  | r :: rs, nd, h => by
    rw [List.map_cons, List.sum_cons]
    obtain ⟨n1, n2⟩ := List.nodup_cons.mp nd
    by_cases e : x = r
    . subst e
      rw [if_pos rfl]
      have z : ∀ ts : List Nat, x ∉ ts -> (ts.map fun r => if x = r then y else 0).sum = 0 := fun ts => by
        induction ts with
        | nil => intro _; rfl
        | cons t ts ih =>
          intro hn
          have hx : ¬ x = t := fun z => hn (by rw [z]; exact List.mem_cons_self)
          rw [List.map_cons, List.sum_cons, if_neg hx, ih fun z => hn (List.mem_cons_of_mem _ z)]
          rfl
      rw [z rs n1, Int.add_zero]
    . rw [if_neg e, sum_one n2 ((List.mem_cons.mp h).resolve_left e), Int.zero_add]
theorem sum_add (f g : Nat -> Int) : ∀ rs : List Nat, (rs.map fun r => f r + g r).sum = (rs.map f).sum + (rs.map g).sum
  | [] => rfl
  | r :: rs => by
    rw [List.map_cons, List.sum_cons, List.map_cons, List.sum_cons, List.map_cons, List.sum_cons, sum_add f g rs]
    omega
theorem sum_by {v g : Nat -> Int} {o : Nat} {rs : List Nat} (nd : rs.Nodup) : ∀ {n : Nat}, (∀ p, p < n -> (p &&& o) ∈ rs) -> (rs.map fun r => g r * setTo v o n r).sum = sumTo (fun p => g (p &&& o) * v p) n
  | 0, _ => by
    have : ∀ ts : List Nat, (ts.map fun r => g r * setTo v o 0 r).sum = 0 := fun ts => by
      induction ts with
      | nil => rfl
      | cons t ts ih =>
        rw [List.map_cons, List.sum_cons, ih]
        show g t * 0 + 0 = 0
        rw [Int.mul_zero]; rfl
    exact this rs
  | n + 1, h => by
    have ih := sum_by (v := v) (g := g) (o := o) nd (n := n) fun p hp => h p (by omega)
    show _ = sumTo (fun p => g (p &&& o) * v p) n + g (n &&& o) * v n
    rw [<- ih, <- sum_one (y := g (n &&& o) * v n) nd (h n (by omega)), <- sum_add]
    congr 1
    refine List.map_congr_left fun r _ => ?_
    rw [setTo_succ, Int.mul_add]
    by_cases e : n &&& o = r
    . rw [if_pos e, if_pos e, e]
    . rw [if_neg e, if_neg e, Int.mul_zero]
theorem dif_sum (as bs : List Bool) : ∀ n, sumTo (fun p => valF as p * valF bs p) n = (n : Int) - 2 * ((difL as bs n).length : Nat)
  | 0 => rfl
  | n + 1 => by
    show sumTo (fun p => valF as p * valF bs p) n + valF as n * valF bs n = _
    rw [dif_sum as bs n, difL_succ, List.length_append]
    have e : valF as n * valF bs n = if (gB as n != gB bs n) = true then -1 else 1 := by
      have h1 : valF as n = if gB as n = true then -1 else 1 := rfl
      have h2 : valF bs n = if gB bs n = true then -1 else 1 := rfl
      rw [h1, h2]
      cases gB as n <;> cases gB bs n <;> rfl
    rw [e]
    split
    . simp; omega
    . simp; omega
theorem abs_sum {m o : Nat} {bs : List Bool} {rs : List Nat} (ho : o < 2 ^ m) (R : RsAt o (2 ^ m) rs) : (rs.map fun r => (((setTo (valF bs) o (2 ^ m) r).natAbs : Nat) : Int)).sum = ((2 ^ m : Nat) : Int) - 2 * (distO m bs o : Nat) := by
  have h1 : (rs.map fun r => (((setTo (valF bs) o (2 ^ m) r).natAbs : Nat) : Int)) = rs.map fun r => (if setTo (valF bs) o (2 ^ m) r < 0 then -1 else 1) * setTo (valF bs) o (2 ^ m) r := by
    refine List.map_congr_left fun r _ => ?_
    split <;> omega
  rw [h1, sum_by (g := fun r => if setTo (valF bs) o (2 ^ m) r < 0 then -1 else 1) R.nd R.has]
  unfold distO
  rw [<- dif_sum]
  refine sumTo_congr fun p hp => ?_
  have h2 : valF (bestB m (wt m (valF bs)) o) p = if gB (bestB m (wt m (valF bs)) o) p = true then -1 else 1 := rfl
  have h3 : gB (bestB m (wt m (valF bs)) o) p = decide (setTo (valF bs) o (2 ^ m) (p &&& o) < 0) := by
    rw [best_set ho]
    unfold gB
    simp [List.getD_eq_getElem?_getD, hp]
  rw [h2, h3]
  simp only [decide_eq_true_eq]
theorem best_tab {K : W.Frag} {H : Hp} {as bs : List Bool} {m : Nat} {u : V} (h : Rep K H (bestD as bs m) u) : ∃ a x y, u = .ref a /\ SqT K H a [x, y] /\ Rep K H (.tup (as.map Dv.bl)) x := by
  unfold bestD at h
  obtain ⟨a, xs, e, h1, h2⟩ := rep_tup_inv h
  have hl := h2.length
  match xs, hl with
  | [x, y], _ =>
    obtain ⟨z, e1, e2⟩ := h2.get (i := 0) (d := .tup (as.map Dv.bl)) rfl
    cases e1
    exact ⟨a, x, y, e, h1, e2⟩
theorem sum_n {K : W.Frag} {H : Hp} {v : V} {m : Nat} {ts : List (Nat × Int)} (S : SumAt K H v m ts) : ∃ a vs, v = .ref a /\ SqT K H a vs /\ atI vs 0 = some (.int (m : Int)) := by
  obtain ⟨a, vs, ev, hv1, hv2⟩ := rep_tup_inv S.rep
  obtain ⟨x, e1, e2⟩ := hv2.get (i := 0) (d := .int (m : Int)) rfl
  unfold Rep at e2
  subst e2
  exact ⟨a, vs, ev, hv1, atI_of rfl e1⟩
theorem if_same {c : TT} {t u : TS} {D : Ends} {σ : St} {H : Hp} (b : Bool) (hc : ∀ Q : Bool -> Hp -> Prop, (∀ H', Same H H' -> Q b H') -> c σ H Q) (h : ∀ H', Same H H' -> if b = true then t D σ H' else u D σ H') : tIfS c t u D σ H := hc _ h
def isBoolD : Dv -> Bool
  | .bl _ => true
  | _ => false
def getB : Dv -> Bool
  | .bl b => b
  | _ => false
theorem all_bool : ∀ {ds : List Dv}, ds.all isBoolD = true -> ds = (ds.map getB).map Dv.bl
  | [], _ => rfl
  | d :: ds, h => by
    rw [List.all_cons, Bool.and_eq_true] at h
    rw [List.map_cons, List.map_cons, <- all_bool h.2]
    cases d with
    | bl b => rfl
    | _ => cases h.1
theorem isTy_bool (d : Dv) : isTy (tyD d) "bool" = isBoolD d := by cases d <;> rfl
def goodLen (n : Nat) : Bool := inV (.int ((n : Nat) : Int)) [.int 2, .int 4, .int 8, .int 16, .int 32, .int 64]
theorem goodLen_inv {n : Nat} (h : goodLen n = true) : ∃ j, 1 <= j /\ j <= 6 /\ n = 2 ^ j := by
  have h : (((2 : Int) == n) || (((4 : Int) == n) || (((8 : Int) == n) || (((16 : Int) == n) || (((32 : Int) == n) || (((64 : Int) == n) || false)))))) = true := h
  simp only [Bool.or_eq_true, beq_iff_eq, Bool.false_eq_true, or_false] at h
  rcases h with h | h | h | h | h | h
  . exact ⟨1, by decide, by decide, Int.ofNat_inj.mp (show ((n : Nat) : Int) = ((2 : Nat) : Int) from h.symm)⟩
  . exact ⟨2, by decide, by decide, Int.ofNat_inj.mp (show ((n : Nat) : Int) = ((4 : Nat) : Int) from h.symm)⟩
  . exact ⟨3, by decide, by decide, Int.ofNat_inj.mp (show ((n : Nat) : Int) = ((8 : Nat) : Int) from h.symm)⟩
  . exact ⟨4, by decide, by decide, Int.ofNat_inj.mp (show ((n : Nat) : Int) = ((16 : Nat) : Int) from h.symm)⟩
  . exact ⟨5, by decide, by decide, Int.ofNat_inj.mp (show ((n : Nat) : Int) = ((32 : Nat) : Int) from h.symm)⟩
  . exact ⟨6, by decide, by decide, Int.ofNat_inj.mp (show ((n : Nat) : Int) = ((64 : Nat) : Int) from h.symm)⟩
theorem goodLen_pow {m : Nat} (h1 : 1 <= m) (h6 : m <= 6) : goodLen (2 ^ m) = true :=
  (by decide : ∀ m : Fin 7, 1 <= m.1 -> goodLen (2 ^ m.1) = true) ⟨m, Nat.lt_succ_of_le h6⟩ h1
def tabB : Dv -> Bool
  | .tup ds => goodLen ds.length && ds.all isBoolD
  | _ => false
def sp_tabD (K : W.Frag) : Sp := fun vs H Q _ => match vs with
  | [v] => ∃ d, Rep K H d v /\ ∀ H', Same H H' -> Q (.bl (tabB d)) H'
  | _ => False
theorem sp_tabD_mono : SpMono (sp_tabD K) := fun vs H Q Q' E h q => by
  unfold sp_tabD at *
  split at q
  . revert q; repeat' first | exact h _ _ | exact newL_mono h | walk_at "m"
  . exact q.elim
theorem ok_is_table : FnOk P w K mg base CX0 1 T.f_is_table T.d_is_table ["thing"] (sp_tabD K) := by
  refine T.F_is_table.ok sc_is_table (fun vs H Q E h => by unfold sp_tabD at h; split at h <;> first | rfl | exact h.elim) (fun cdv A outer s H vs Q E hr h => ?_)
  have hu := hu60 hr
  match vs, h with
  | [v], ⟨d, hd, q⟩ =>
  refine ⟨_, (@pss_cons _ _ _ _ _ (@ps_if _ _ _ _ _ _ _ _ (PW.pt (@pw_or _ _ _ _ _ _ _ (@pt_not _ _ _ _ (@tu_val _ _ _ (@pe_callB _ _ _ _ _ _ _ _ _ (kIsiD (K := K)) rfl T.z_isinstance (by rfl) (@pa_cons _ _ _ _ _ (@vw _ 0 _ _ (by walk_at "v")) (@pa1 _ _ _ (@pe_bltn _ _ (.ty "tuple") _ _ rfl T.z_tuple (by rfl) rfl (by decide) (by decide)) (by rfl)) (by rfl)) (by decide) (by decide) (by rfl) (by rfl)) (by intro _; rfl))) (@pw_or1 _ _ _ _ (@tu_cmp _ _ _ _ _ _ _ _ (kNotIn (K := K)) (@pe_callB _ _ _ _ _ _ _ _ _ (kLen (K := K)) rfl T.z_len (by rfl) (@pa1 _ _ _ (@vw _ 0 _ _ (by walk_at "v")) (by rfl)) (by decide) (by decide) (by rfl) (by rfl)) (@pe_glob _ _ (.ref T.a_TABLE_LENGTHS) _ _ rfl T.c_TABLE_LENGTHS rfl (by decide)) (by walk_at "n"))))) (@pss_one _ _ _ (@ps_ret _ _ _ _ (@pe_bl _ _ _ _))) (@pss_nil _)) (@pss_one _ _ _ (@ps_ret _ _ _ _ (@pe_callB _ _ _ _ _ _ _ _ _ (kAll (K := K) rfl) rfl T.z_all (by rfl) (@pa1 _ _ _ (@pe_compB _ _ _ _ _ _ _ ["answer"] 1 [] _ _ _ _ rfl (@kSeq _ K _ _ _ (@vw _ 0 _ _ (by walk_at "v")) (by rfl)) (by kernel_rfl) rfl rfl (by kernel_rfl) (fun c => @pg_name _ _ 0 _ (show (["answer"] : List Str).Nodup by decide +kernel) rfl (by walk_at "e") (by walk_at "i")) (go_name (by decide)) (fun c => @pts_nil _) (fun c => (@pe_callB _ _ _ _ _ _ _ _ _ (kIsiD (K := K)) rfl T.z_isinstance (by rfl) (@pa_cons _ _ _ _ _ (@vw _ 0 _ _ (by walk_at "v")) (@pa1 _ _ _ (@pe_bltn _ _ (.ty "bool") _ _ rfl T.z_bool (by rfl) rfl (by decide) (by decide)) (by rfl)) (by rfl)) (by decide) (by decide) (by rfl) (by rfl))) (by intro _; rfl)) (by rfl)) (by decide) (by decide) (by rfl) (by rfl))))), ?_⟩
  cases d with
  | tup ds =>
    obtain ⟨tp, xs, rfl, ht, hx⟩ := rep_tup_inv hd
    have hl := hx.length
    have q : ∀ H', Same H H' -> Q (.bl (goodLen ds.length && ds.all isBoolD)) H' := q
    cases hg : goodLen ds.length with
    | false =>
      rw [hg, Bool.false_and] at q
      refine if_val true ?_ ?_
      . intro Q q
        refine ⟨by decide, _, hd, ds.length, .inr ⟨_, ht, hl⟩, _, .inr (T.q_TABLE_LENGTHS H), rfl, rfl, ?_⟩
        have e0 : (true ^^ goodLen ds.length) = true := by rw [hg]; rfl
        rw [<- e0] at q
        exact q
      . exact iteT (q _ (Same.refl _))
    | true =>
      obtain ⟨j, j1, j6, hj⟩ := goodLen_inv hg
      have h64 : 2 ^ j <= 64 := Nat.pow_le_pow_right (n := 2) (by decide) j6
      rw [hg, Bool.true_and] at q
      refine seq_at (fun σ H' => σ = [some (.ref tp)] /\ H = H') ?_ ?_ (by walk_at "sm")
      . refine if_val false ?_ ?_
        . intro Q q
          refine ⟨by decide, _, hd, ds.length, .inr ⟨_, ht, hl⟩, _, .inr (T.q_TABLE_LENGTHS H), rfl, rfl, ?_⟩
          have e0 : (true ^^ goodLen ds.length) = false := by rw [hg]; rfl
          rw [<- e0] at q
          exact q
        . exact iteF ⟨rfl, rfl⟩
      rintro σ _ ⟨rfl, rfl⟩
      refine .inr ⟨⟨_, ht⟩, ?_⟩
      refine comp_tup (xs := xs) (fun i ys H' => H' = H /\ ys = ((ds.take i).map isBoolD).map V.bl) ⟨rfl, rfl⟩ (fun i ys H' _ ⟨e, _⟩ => by rw [e]; exact ht) (fun i ys H' hi ⟨_, e⟩ => by
        rw [e, List.length_map, List.length_map, List.length_take]; exact small1000 (by omega)) ?_ ?_
      . rintro i w zs H' hx' ⟨rfl, rfl⟩
        obtain ⟨di, hdi, ri⟩ := reps_get hx hx'
        refine ⟨by decide, di, ri, rfl, ?_⟩
        rw [isTy_bool, List.take_add_one, hdi, List.map_append, List.map_append]
        rfl
      . rintro zs H' ⟨rfl, rfl⟩ l hl'
        refine ⟨_, .of upd_same, ?_⟩
        have e0 : ((ds.take xs.length).map isBoolD).all id = ds.all isBoolD := by rw [<- hl, List.take_length, List.all_map]; rfl
        show Q (.bl (((ds.take xs.length).map isBoolD).all id)) _
        rw [e0]
        exact q _ (Same.upd hl')
  | _ =>
    refine if_val true ?_ ?_
    . intro Q q
      exact ⟨by decide, _, hd, q⟩
    . exact iteT (q _ (Same.refl _))
def plD (m : Nat) : Dv -> Bool
  | .tup [a, _] => belowD ((2 ^ m : Nat) : Int) a
  | _ => false
def cvOf : Dv -> Nat × Dv
  | .tup [.int i, x] => (i.toNat, x)
  | _ => (0, .non)
def covE (c : Nat × Dv) : Dv := .tup [.int c.1, c.2]
def papE (nb : List Bool) (cs : List (Nat × Dv)) : Dv := .tup [.tup (nb.map Dv.bl), .tup (cs.map covE)]
theorem plD_inv {m : Nat} {d : Dv} (h : plD m d = true) : d = covE (cvOf d) /\ (cvOf d).1 < 2 ^ m := by
  unfold plD at h
  split at h
  . rename_i a x
    cases a with
    | int i =>
      have h : (decide (0 <= i) && decide (i < ((2 ^ m : Nat) : Int))) = true := h
      rw [Bool.and_eq_true] at h
      have h1 := of_decide_eq_true h.1
      have h2 := of_decide_eq_true h.2
      obtain ⟨k, rfl⟩ := Int.eq_ofNat_of_zero_le h1
      exact ⟨rfl, by show ((k : Int)).toNat < 2 ^ m; omega⟩
    | _ => cases h
  . cases h
theorem all_cov {m : Nat} : ∀ {ds : List Dv}, ds.all (plD m) = true -> ds = (ds.map cvOf).map covE /\ ∀ c ∈ ds.map cvOf, c.1 < 2 ^ m
  | [], _ => ⟨rfl, fun c h => by cases h⟩
  | d :: ds, h => by
    rw [List.all_cons, Bool.and_eq_true] at h
    obtain ⟨e1, e2⟩ := plD_inv h.1
    obtain ⟨e3, e4⟩ := all_cov h.2
    refine ⟨?_, fun c hc => ?_⟩
    . rw [List.map_cons, List.map_cons, <- e1, <- e3]
    . rw [List.map_cons] at hc
      rcases List.mem_cons.mp hc with rfl | h'
      . exact e2
      . exact e4 c h'
def tabM (m : Nat) : Dv -> Bool
  | .tup ds => decide (ds.length = 2 ^ m) && ds.all isBoolD
  | _ => false
def covsB (m : Nat) : Dv -> Bool
  | .tup cs => decide (cs.length <= 64) && cs.all (plD m)
  | _ => false
def formE (m : Nat) : Dv -> Bool
  | .tup [a, b] => tabM m a && covsB m b
  | _ => false
theorem formE_inv {m : Nat} {d : Dv} (h : formE m d = true) : ∃ nb cs, d = papE nb cs /\ nb.length = 2 ^ m /\ cs.length <= 64 /\ ∀ c ∈ cs, c.1 < 2 ^ m := by
  unfold formE at h
  split at h
  . rename_i a b
    rw [Bool.and_eq_true] at h
    obtain ⟨h1, h2⟩ := h
    unfold tabM at h1
    split at h1
    . rename_i ds
      rw [Bool.and_eq_true] at h1
      unfold covsB at h2
      split at h2
      . rename_i cs
        rw [Bool.and_eq_true] at h2
        obtain ⟨e1, e2⟩ := all_cov h2.2
        refine ⟨ds.map getB, cs.map cvOf, ?_, by rw [List.length_map]; exact of_decide_eq_true h1.1, by rw [List.length_map]; exact of_decide_eq_true h2.1, e2⟩
        unfold papE
        rw [<- all_bool h1.2, <- e1]
      . cases h2
    . cases h1
  . cases h
theorem formE_not {m : Nat} {d : Dv} (h : isPairD d = false) : formE m d = false := by
  cases d with
  | tup ds =>
    match ds, h with
    | [], _ => rfl
    | [_], _ => rfl
    | [_, _], h => cases h
    | _ :: _ :: _ :: _, _ => rfl
  | _ => rfl
def sp_eE (K : W.Frag) (f : Nat -> Dv -> Bool) : Sp := fun vs H Q _ => match vs with
  | [.int x, v] => ∃ m : Nat, x = m /\ 1 <= m /\ m <= 6 /\ ((∃ d, Rep K H d v /\ ∀ H', Same H H' -> Q (.bl (f m d)) H') \/ (∃ a kvs, v = .ref a /\ H a = some (.dK kvs) /\ Q (.bl false) H))
  | _ => False
theorem sp_eE_mono {f : Nat -> Dv -> Bool} : SpMono (sp_eE K f) := fun vs H Q Q' E h q => by
  unfold sp_eE at *
  split at q
  . obtain ⟨m, h1, h2, h3, ⟨d, h4, q⟩ | ⟨a, kvs, h4, h5, q⟩⟩ := q
    . exact ⟨m, h1, h2, h3, .inl ⟨d, h4, fun H' x => h _ _ (q H' x)⟩⟩
    . exact ⟨m, h1, h2, h3, .inr ⟨a, kvs, h4, h5, h _ _ q⟩⟩
  . exact q.elim
theorem tabB_tabM {m j : Nat} {ds : List Dv} (j1 : 1 <= j) (j6 : j <= 6) (m1 : 1 <= m) (m6 : m <= 6) (h : ds.length = 2 ^ j) (hb : ds.all isBoolD = true) : tabM m (.tup ds) = decide (j = m) := by
  show (decide (ds.length = 2 ^ m) && ds.all isBoolD) = _
  rw [hb, Bool.and_true, h, Bool.eq_iff_iff, decide_eq_true_eq, decide_eq_true_eq]
  constructor
  . intro e
    rcases Nat.lt_trichotomy j m with z | z | z
    . have := Nat.pow_lt_pow_right (a := 2) (by decide) z; omega
    . exact z
    . have := Nat.pow_lt_pow_right (a := 2) (by decide) z; omega
  . intro e; rw [e]
theorem ok_has_paper_form : FnOk P w K mg base CX0 4 T.f_has_paper_form T.d_has_paper_form ["n", "thing"] (sp_eE K formE) := by
  have G_is_pair := ok_is_pair (P := P) (w := w) (base := base) T; have G_is_table := ok_is_table (P := P) (w := w) (base := base) T; have G_switches_of := ok_switches_of (P := P) (w := w) (base := base) T; have G_is_place := ok_is_place (P := P) (w := w) (base := base) T
  refine T.F_has_paper_form.ok sc_has_paper_form (fun vs H Q E h => by unfold sp_eE at h; split at h <;> first | rfl | exact h.elim) (fun cdv A outer s H vs Q E hr h => ?_)
  have hu := hu60 hr
  have mo1 : SpMono (sp_dE K isPairD) := sp_dE_mono
  have mo2 : SpMono (sp_tabD K) := sp_tabD_mono
  have mo3 : SpMono (sp_switches K) := sp_switches_mono
  have hr_is_pair := hr.mono (show 1 <= _ by decide); have hr_is_table := hr.mono (show 1 <= _ by decide); have hr_switches_of := hr.mono (show 1 <= _ by decide); have hr_is_place := hr.mono (show 3 <= _ by decide)
  match vs, h with
  | [.int x, v], h =>
  obtain ⟨m, e1, m1, m6, h⟩ := h
  subst e1
  refine ⟨_, (@pss_cons _ _ _ _ _ (@ps_if _ _ _ _ _ _ _ _ (PW.pt (@pw_or _ _ _ _ _ _ _ (@pt_not _ _ _ _ (@tu_val _ _ _ (@pe_call _ _ _ _ _ _ _ _ _ _ _ _ _ _ _ _ G_is_pair hr_is_pair rfl T.m_is_pair T.F_is_pair.kp T.b_is_pair .nil pass0 (@pa1 _ _ _ (@vw _ 1 _ _ (by walk_at "v")) (by rfl)) (by decide) (by rfl) (by rfl)) (by intro _; rfl))) (@pw_or _ _ _ _ _ _ _ (@pt_not _ _ _ _ (@tu_val _ _ _ (@pe_call _ _ _ _ _ _ _ _ _ _ _ _ _ _ _ _ G_is_table hr_is_table rfl T.m_is_table T.F_is_table.kp T.b_is_table .nil pass0 (@pa1 _ _ _ (@kIx _ K _ _ _ _ _ (@vw _ 1 _ _ (by walk_at "v")) (@pe_int _ _ _ _) (by intro _ _; rfl) (by rfl)) (by rfl)) (by decide) (by rfl) (by rfl)) (by intro _; rfl))) (@pw_or1 _ _ _ _ (@tu_cmp _ _ _ _ _ _ _ _ (kNe (K := K) hu) (@pe_call _ _ _ _ _ _ _ _ _ _ _ _ _ _ _ _ G_switches_of hr_switches_of rfl T.m_switches_of T.F_switches_of.kp T.b_switches_of .nil pass0 (@pa1 _ _ _ (@kIx _ K _ _ _ _ _ (@vw _ 1 _ _ (by walk_at "v")) (@pe_int _ _ _ _) (by intro _ _; rfl) (by rfl)) (by rfl)) (by decide) (by rfl) (by rfl)) (@vw _ 0 _ _ (by walk_at "v")) (by walk_at "n")))))) (@pss_one _ _ _ (@ps_ret _ _ _ _ (@pe_bl _ _ _ _))) (@pss_nil _)) (@pss_cons _ _ _ _ _ (@ps_if _ _ _ _ _ _ _ _ (PW.pt (pw_or (pt_not (tu_val (pe_callB (kIsiD (K := K)) rfl T.z_isinstance (by rfl) (pa_cons (kIx (K := K) (vv 1) pe_int) (pa_cons (pe_bltn (v := .ty "tuple") rfl T.z_tuple (by rfl) rfl) pa_nil))))) (pw_or1 (tu_cmp om_gt (pe_callB (kLen (K := K)) rfl T.z_len (by rfl) (pa_cons (kIx (K := K) (vv 1) pe_int) pa_nil)) (pe_glob (v := .int 64) rfl T.c_MOST_COVERS ⟨_, rfl⟩))))) (@pss_one _ _ _ (@ps_ret _ _ _ _ (@pe_bl _ _ _ _))) (@pss_nil _)) (@pss_one _ _ _ (@ps_ret _ _ _ _ (@pe_callB _ _ _ _ _ _ _ _ _ (kAll (K := K) rfl) rfl T.z_all (by rfl) (@pa1 _ _ _ (@pe_compB _ _ _ _ _ _ _ (["cover", "n"]) 1 [0] _ _ _ _ rfl (@kSeq _ K _ _ _ (@kIx _ K _ _ _ _ _ (@vw _ 1 _ _ (by walk_at "v")) (@pe_int _ _ _ _) (by intro _ _; rfl) (by rfl)) (by rfl)) (by kernel_rfl) rfl rfl (by kernel_rfl) (fun c => @pg_name _ _ 0 _ (show (["cover", "n"] : List Str).Nodup by decide +kernel) rfl (by walk_at "e") (by walk_at "i")) (go_name (by decide)) (fun c => @pts_nil _) (fun c => (@pe_andM _ _ _ _ _ _ _ (@pe_call _ _ _ _ _ _ _ _ _ _ _ _ _ _ _ _ G_is_pair hr_is_pair rfl T.m_is_pair T.F_is_pair.kp T.b_is_pair .nil pass0 (@pa1 _ _ _ (@vw _ 0 _ _ (by walk_at "v")) (by rfl)) (by decide) (by rfl) (by rfl)) (@pe_one _ _ _ _ _ (@pe_call _ _ _ _ _ _ _ _ _ _ _ _ _ _ _ _ G_is_place hr_is_place rfl T.m_is_place T.F_is_place.kp T.b_is_place .nil pass0 (@pa_cons _ _ _ _ _ (@vw _ 1 _ _ (by walk_at "v")) (@pa1 _ _ _ (@kIx _ K _ _ _ _ _ (@vw _ 0 _ _ (by walk_at "v")) (@pe_int _ _ _ _) (by intro _ _; rfl) (by rfl)) (by rfl)) (by rfl)) (by decide) (by rfl) (by rfl))))) (by intro _; rfl)) (by rfl)) (by decide) (by decide) (by rfl) (by rfl)))))), ?_⟩
  rcases h with ⟨d, hd, q⟩ | ⟨a, kvs, rfl, ha, q⟩
  . cases hp : isPairD d with
    | false =>
      rw [formE_not hp] at q
      refine if_val true ?_ ?_
      . intro Q q
        refine .inl ⟨d, hd, ?_⟩
        rw [hp]
        exact q
      . exact iteT (q _ (Same.refl _))
    | true =>
      cases d with
      | tup ds =>
        match ds, hp with
        | [da, db], hp =>
        obtain ⟨p, x0, x1, rfl, hs, r0, r1⟩ := rep_two_inv hd
        have q : ∀ H', Same H H' -> Q (.bl (tabM m da && covsB m db)) H' := q
        cases ht : tabM m da with
        | false =>
          rw [ht, Bool.false_and] at q
          refine if_same true ?_ ?_
          . intro Q2 q2
            refine .inl ⟨_, hd, ?_⟩
            rw [hp]
            refine ⟨_, _, .inr hs, rfl, da, r0, fun H1 s1 => ?_⟩
            cases htb : tabB da with
            | false => exact q2 H1 s1
            | true =>
              cases da with
              | tup es =>
                have htb : (goodLen es.length && es.all isBoolD) = true := htb
                rw [Bool.and_eq_true] at htb
                obtain ⟨j, j1, j6, hj⟩ := goodLen_inv htb.1
                obtain ⟨pa, ys, rfl, hpa, hy⟩ := rep_tup_inv r0
                have hyl := hy.length
                refine ⟨_, _, .inr (s1.sqT hs), rfl, j, ys, s1.sqT hpa, by omega, j6, ?_⟩
                rw [tabB_tabM j1 j6 m1 m6 hj htb.2] at ht
                have hne : j ≠ m := of_decide_eq_false ht
                have e0 : (true ^^ ((j : Int) == (m : Int))) = true := by
                  have : ((j : Int) == (m : Int)) = false := by rw [beq_eq_false_iff_ne]; omega
                  rw [this]; rfl
                have q' := q2 H1 s1
                rw [<- e0] at q'
                exact q'
              | _ => cases htb
          . exact fun H' s => iteT (q H' s)
        | true =>
          rw [ht, Bool.true_and] at q
          refine seq_at (fun σ H' => σ = [some (.int m), some (.ref p)] /\ Same H H') ?_ ?_ (by walk_at "sm")
          . refine if_same false ?_ ?_
            . intro Q2 q2
              refine .inl ⟨_, hd, ?_⟩
              rw [hp]
              refine ⟨_, _, .inr hs, rfl, da, r0, fun H1 s1 => ?_⟩
              cases da with
              | tup es =>
                have ht : (decide (es.length = 2 ^ m) && es.all isBoolD) = true := ht
                rw [Bool.and_eq_true] at ht
                have hm := of_decide_eq_true ht.1
                have htb : tabB (.tup es) = true := by show (goodLen es.length && es.all isBoolD) = true; rw [hm, goodLen_pow m1 m6, ht.2]; rfl
                rw [htb]
                obtain ⟨pa, ys, rfl, hpa, hy⟩ := rep_tup_inv r0
                have hyl := hy.length
                refine ⟨_, _, .inr (s1.sqT hs), rfl, m, ys, s1.sqT hpa, by omega, m6, ?_⟩
                have e0 : (true ^^ ((m : Int) == (m : Int))) = false := by simp
                have q' := q2 H1 s1
                rw [<- e0] at q'
                exact q'
              | _ => cases ht
            . exact fun H' s => iteF ⟨rfl, s⟩
          rintro σ H1 ⟨rfl, s1⟩
          have hs1 := s1.sqT hs
          have r11 := Rep.same s1 _ _ r1
          have q1 : ∀ H', Same H1 H' -> Q (.bl (covsB m db)) H' := fun H' s => q H' (s1.trans s)
          clear q
          cases db with
          | tup cs =>
            obtain ⟨pb, ys, rfl, hpb, hy⟩ := rep_tup_inv r11
            have hyl := hy.length
            have q1 : ∀ H', Same H1 H' -> Q (.bl (decide (cs.length <= 64) && cs.all (plD m))) H' := q1
            by_cases hc : cs.length <= 64
            . rw [decide_eq_true hc, Bool.true_and] at q1
              refine seq_at (fun σ H' => σ = [some (.int m), some (.ref p)] /\ H1 = H') ?_ ?_ (by walk_at "sm")
              . refine if_val false ?_ ?_
                . intro Q q
                  refine ⟨_, _, .inr hs1, rfl, by decide, _, r11, _, _, .inr hs1, rfl, _, .inr ⟨_, hpb, rfl⟩, ?_⟩
                  have e0 : decide ((64 : Int) < ((ys.length : Nat) : Int)) = false := decide_eq_false (by omega)
                  rw [<- e0] at q
                  exact q
                . exact iteF ⟨rfl, rfl⟩
              rintro σ _ ⟨rfl, rfl⟩
              refine ⟨_, _, .inr hs1, rfl, .inr ⟨⟨_, hpb⟩, ?_⟩⟩
              refine comp_tup (xs := ys) (fun i zs H' => H' = H1 /\ zs = ((cs.take i).map (plD m)).map V.bl) ⟨rfl, rfl⟩ (fun i zs H' _ ⟨e, _⟩ => by rw [e]; exact hpb) (fun i zs H' hi ⟨_, e⟩ => by
                rw [e, List.length_map, List.length_map, List.length_take]; exact small1000 (by omega)) ?_ ?_
              . rintro i y zs H' hyi ⟨rfl, rfl⟩
                obtain ⟨c, hci, rc⟩ := reps_get hy hyi
                have et : ((cs.take (i + 1)).map (plD m)).map V.bl = ((cs.take i).map (plD m)).map V.bl ++ [V.bl (plD m c)] := by rw [List.take_add_one, hci, List.map_append, List.map_append]; rfl
                rw [et]
                refine .inl ⟨c, rc, ?_⟩
                cases hpc : isPairD c with
                | false =>
                  have : plD m c = false := by
                    cases c with
                    | tup es =>
                      match es, hpc with
                      | [], _ => rfl
                      | [_], _ => rfl
                      | [_, _], h => cases h
                      | _ :: _ :: _ :: _, _ => rfl
                    | _ => rfl
                  rw [this]
                  exact ⟨rfl, rfl⟩
                | true =>
                  cases c with
                  | tup es =>
                    match es, hpc with
                    | [ca, cb], _ =>
                    obtain ⟨pc, y0, y1, rfl, hc2, s0, s1'⟩ := rep_two_inv rc
                    exact ⟨_, _, .inr hc2, rfl, m, ca, rfl, m6, s0, rfl, rfl⟩
                  | _ => cases hpc
              . rintro zs H' ⟨rfl, rfl⟩ l hl
                refine ⟨_, .of upd_same, ?_⟩
                have e0 : ((cs.take ys.length).map (plD m)).all id = cs.all (plD m) := by rw [<- hyl, List.take_length, List.all_map]; rfl
                show Q (.bl (((cs.take ys.length).map (plD m)).all id)) _
                rw [e0]
                exact q1 _ (Same.upd hl)
            . rw [decide_eq_false hc, Bool.false_and] at q1
              refine if_val true ?_ ?_
              . intro Q q
                refine ⟨_, _, .inr hs1, rfl, by decide, _, r11, _, _, .inr hs1, rfl, _, .inr ⟨_, hpb, rfl⟩, ?_⟩
                have e0 : decide ((64 : Int) < ((ys.length : Nat) : Int)) = true := decide_eq_true (by omega)
                rw [<- e0] at q
                exact q
              . exact iteT (q1 _ (Same.refl _))
          | _ =>
            refine if_val true ?_ ?_
            . intro Q q
              exact ⟨_, _, .inr hs1, rfl, by decide, _, r11, q⟩
            . exact iteT (q1 _ (Same.refl _))
      | _ => cases hp
  . refine if_val true ?_ ?_
    . intro Q q
      exact .inr ⟨a, kvs, rfl, ha, q⟩
    . exact iteT q
theorem reps_blI {K : W.Frag} {H : Hp} : ∀ (cs : List Bool) (zs : List V), Reps K H (cs.map Dv.bl) zs -> zs = cs.map V.bl
  | [], zs, h => by rw [List.map_nil] at h; unfold Reps at h; exact h
  | c :: cs, zs, h => by
    rw [List.map_cons] at h
    unfold Reps at h
    obtain ⟨z, r, e, h1, h2⟩ := h
    unfold Rep at h1
    rw [e, h1, reps_blI cs r h2]
    rfl
theorem cov_at {K : W.Frag} {H : Hp} {cs : List (Nat × Dv)} {ys : List V} {i : Nat} {y : V} (h : Reps K H (cs.map covE) ys) (hy : ys[i]? = some y) : ∃ (b : Addr) (c : Nat × Dv) (x : V), cs[i]? = some c /\ y = .ref b /\ SqT K H b [.int (c.1 : Int), x] /\ Rep K H c.2 x := by
  obtain ⟨d, hd, rd⟩ := reps_get h hy
  rw [List.getElem?_map] at hd
  obtain ⟨c, hc, rfl⟩ := Option.map_eq_some_iff.mp hd
  obtain ⟨p, x, y, rfl, hs, r0, r1⟩ := rep_two_inv rd
  unfold Rep at r0
  subst r0
  exact ⟨p, c, y, hc, rfl, hs, r1⟩
def coversB (m k : Nat) (cs : List (Nat × Dv)) : Bool := (setL m (min m k) (2 ^ m)).all fun s => cs.any fun c => decide (s &&& c.1 = s)
def sp_covers (K : W.Frag) : Sp := fun vs H Q _ => match vs with
  | [.int x, .int z, .ref ay] => ∃ (m k : Nat) (cs : List (Nat × Dv)) (ys : List V), x = m /\ z = k /\ m <= 6 /\ SqT K H ay ys /\ Reps K H (cs.map covE) ys /\ cs.length <= 64 /\ ∀ H', Same H H' -> Q (.bl (coversB m k cs)) H'
  | _ => False
theorem sp_covers_mono : SpMono (sp_covers K) := fun vs H Q Q' E h q => by
  unfold sp_covers at *
  split at q
  . revert q; repeat' first | exact h _ _ | exact newL_mono h | walk_at "m"
  . exact q.elim
theorem ok_covers_all : FnOk P w K mg base CX0 4 T.f_covers_all T.d_covers_all ["n", "k", "covers"] (sp_covers K) := by
  have G_sets_of := ok_sets_of (P := P) (w := w) (base := base) T; have G_within := ok_within (P := P) (w := w) (base := base) T
  refine T.F_covers_all.ok sc_covers_all (fun vs H Q E h => by unfold sp_covers at h; split at h <;> first | rfl | exact h.elim) (fun cdv A outer s H vs Q E hr h => ?_)
  have hu := hu60 hr
  have hr_sets_of := hr.mono (show 3 <= _ by decide); have hr_within := hr.mono (show 1 <= _ by decide)
  match vs, h with
  | [.int x, .int z, .ref ay], h =>
  obtain ⟨m, k, cs, ys, e1, e2, m6, hay, hR, hcl, q⟩ := h
  subst e1 e2
  have h64 : 2 ^ m <= 64 := Nat.pow_le_pow_right (n := 2) (by decide) m6
  have hyl := hR.length
  rw [List.length_map] at hyl
  have hsl := setL_len m (min m k) (2 ^ m)
  unfold coversB at q
  refine ⟨_, (@pss_one _ _ _ (@ps_ret _ _ _ _ (@pe_callB _ _ _ _ _ _ _ _ _ (kAll (K := K) rfl) rfl T.z_all (by rfl) (@pa1 _ _ _ (@pe_compB _ _ _ _ _ _ _ (["subset", "covers"]) 1 [2] _ _ _ _ rfl (@kSeq _ K _ _ _ (@pe_call _ _ _ _ _ _ _ _ _ _ _ _ _ _ _ _ G_sets_of hr_sets_of rfl T.m_sets_of T.F_sets_of.kp T.b_sets_of .nil pass0 (@pa_cons _ _ _ _ _ (@vw _ 0 _ _ (by walk_at "v")) (@pa1 _ _ _ (@vw _ 1 _ _ (by walk_at "v")) (by rfl)) (by rfl)) (by decide) (by rfl) (by rfl)) (by rfl)) (by kernel_rfl) rfl rfl (by kernel_rfl) (fun c => @pg_name _ _ 0 _ (show (["subset", "covers"] : List Str).Nodup by decide +kernel) rfl (by walk_at "e") (by walk_at "i")) (go_name (by decide)) (fun c => @pts_nil _) (fun c => (@pe_callB _ _ _ _ _ _ _ _ _ (kAny (K := K) rfl) rfl T.z_any (by rfl) (@pa1 _ _ _ (@pe_compB _ _ _ _ _ _ _ (["cover", "subset"]) 1 [0] _ _ _ _ rfl (@kSeq _ K _ _ _ (@vw _ 1 _ _ (by walk_at "v")) (by rfl)) (by kernel_rfl) rfl rfl (by kernel_rfl) (fun c => @pg_name _ _ 0 _ (show (["cover", "subset"] : List Str).Nodup by decide +kernel) rfl (by walk_at "e") (by walk_at "i")) (go_name (by decide)) (fun c => @pts_nil _) (fun c => (@pe_call _ _ _ _ _ _ _ _ _ _ _ _ _ _ _ _ G_within hr_within rfl T.m_within T.F_within.kp T.b_within .nil pass0 (@pa_cons _ _ _ _ _ (@vw _ 1 _ _ (by walk_at "v")) (@pa1 _ _ _ (@kIx _ K _ _ _ _ _ (@vw _ 0 _ _ (by walk_at "v")) (@pe_int _ _ _ _) (by intro _ _; rfl) (by rfl)) (by rfl)) (by rfl)) (by decide) (by rfl) (by rfl))) (by intro _; rfl)) (by rfl)) (by decide) (by decide) (by rfl) (by rfl))) (by intro _; rfl)) (by rfl)) (by decide) (by decide) (by rfl) (by rfl)))), ?_⟩
  refine ⟨m, k, rfl, rfl, m6, fun l H1 hl s1 g1 => .inl ⟨⟨_, .of g1⟩, ?_⟩⟩
  generalize setL m (min m k) (2 ^ m) = ss at *
  refine comp_list (xs := iL ss) (fun i zs H' => Same H1 H' /\ zs = ((ss.take i).map fun s => cs.any fun c => decide (s &&& c.1 = s)).map V.bl) ⟨Same.refl _, rfl⟩ (fun i zs H' _ ⟨s, _⟩ => s.sqL (.of g1)) (fun i zs H' hi ⟨_, e⟩ => by
    rw [iL_len] at hi
    rw [e, List.length_map, List.length_map, List.length_take]; exact small1000 (by omega)) ?_ ?_
  . rintro i y zs H2 hy ⟨s2, rfl⟩
    obtain ⟨c, hc, _, rfl⟩ := iL_at hy
    have s12 := s1.trans s2
    refine .inr ⟨⟨_, s12.sqT hay⟩, ?_⟩
    refine comp_tup (xs := ys) (fun j us H' => H' = H2 /\ us = ((cs.take j).map fun d => decide (c &&& d.1 = c)).map V.bl) ⟨rfl, rfl⟩ (fun j us H' _ ⟨e, _⟩ => by rw [e]; exact s12.sqT hay) (fun j us H' hj ⟨_, e⟩ => by
      rw [e, List.length_map, List.length_map, List.length_take]; exact small1000 (by omega)) ?_ ?_
    . rintro j y us H' hy ⟨rfl, rfl⟩
      obtain ⟨b, d, xv, hd, rfl, hb1, _⟩ := cov_at hR hy
      refine ⟨_, _, .inr (s12.sqT hb1), atI_of (n := 0) rfl rfl, c, d.1, rfl, rfl, rfl, ?_⟩
      rw [List.take_add_one, hd, List.map_append, List.map_append]
      rfl
    . rintro us H' ⟨rfl, rfl⟩ lp hlp
      rw [<- hyl, List.take_length]
      refine ⟨_, .of upd_same, s2.trans (Same.upd hlp), ?_⟩
      rw [List.take_add_one, hc, List.map_append, List.map_append, List.any_map]
      rfl
  . rintro zs H2 ⟨s2, rfl⟩ lp hlp
    rw [iL_len, List.take_length]
    refine ⟨_, .of upd_same, ?_⟩
    rw [List.all_map]
    exact q _ (s1.trans (s2.trans (Same.upd hlp)))
def absL (g : Nat -> Int) (o : Nat) : Nat -> List Int
  | 0 => []
  | n + 1 => absL g o n ++ (if n &&& o = n then [(((g n).natAbs : Nat) : Int)] else [])
theorem absL_len (g : Nat -> Int) (o : Nat) : ∀ n, (absL g o n).length <= n
  | 0 => Nat.le_refl _
  | n + 1 => by
    have := absL_len g o n
    show (absL g o n ++ _).length <= n + 1
    rw [List.length_append]
    split <;> simp <;> omega
def sp_sbs (K : W.Frag) : Sp := fun vs H Q _ => match vs with
  | [.ref p, .int z] => ∃ (m o : Nat) (g : Nat -> Int), SqL K H p (ixL g (2 ^ m)) /\ z = o /\ m <= 6 /\ ∀ H', Same H H' -> Q (.int (absL (wt m g) o (2 ^ m)).sum) H'
  | _ => False
theorem sp_sbs_mono : SpMono (sp_sbs K) := fun vs H Q Q' E h q => by
  unfold sp_sbs at *
  split at q
  . revert q; repeat' first | exact h _ _ | exact newL_mono h | walk_at "m"
  . exact q.elim
theorem ok_setting_by_setting : FnOk P w K mg base CX0 3 T.f_setting_by_setting T.d_setting_by_setting ["weights", "switches"] (sp_sbs K) := by
  have G_within := ok_within (P := P) (w := w) (base := base) T; have G_times_signs := ok_times_signs (P := P) (w := w) (base := base) T
  refine T.F_setting_by_setting.ok sc_setting_by_setting (fun vs H Q E h => by unfold sp_sbs at h; split at h <;> first | rfl | exact h.elim) (fun cdv A outer s H vs Q E hr h => ?_)
  have hu := hu60 hr
  have hr_within := hr.mono (show 1 <= _ by decide); have hr_times_signs := hr.mono (show 2 <= _ by decide)
  match vs, h with
  | [.ref p, .int z], h =>
  obtain ⟨m, o, g, hp, e1, m6, q⟩ := h
  subst e1
  have h64 : 2 ^ m <= 64 := Nat.pow_le_pow_right (n := 2) (by decide) m6
  refine ⟨_, (@pss_one _ _ _ (@ps_ret _ _ _ _ (@pe_callB _ _ _ _ _ _ _ _ _ (kSum (K := K) rfl) rfl T.z_sum (by rfl) (@pa1 _ _ _ (@pe_compB _ _ _ _ _ _ _ (["setting", "top", "switches"]) 2 [1] _ _ _ _ rfl (@kEnum _ K _ _ _ _ _ _ _ rfl T.z_enumerate (@pa1 _ _ _ (@pe_call _ _ _ _ _ _ _ _ _ _ _ _ _ _ _ _ G_times_signs hr_times_signs rfl T.m_times_signs T.F_times_signs.kp T.b_times_signs .nil pass0 (@pa1 _ _ _ (@vw _ 0 _ _ (by walk_at "v")) (by rfl)) (by decide) (by rfl) (by rfl)) (by rfl)) (by rfl) (by rfl)) (by kernel_rfl) rfl rfl (by kernel_rfl) (fun c => @kTup _ K _ _ _ _ 2 rfl (@pgs_cons _ _ _ _ _ (@pg_name _ _ 0 _ (show (["setting", "top", "switches"] : List Str).Nodup by decide +kernel) rfl (by walk_at "e") (by walk_at "i")) (@pgs_cons _ _ _ _ _ (@pg_name _ _ 1 _ (show (["setting", "top", "switches"] : List Str).Nodup by decide +kernel) rfl (by walk_at "e") (by walk_at "i")) (@pgs_nil _) (by rfl)) (by rfl)) (by rfl) (by rfl) (by rfl)) (go_tup (gos_cons gm_name (gms_cons gm_name gms_nil) (go_name (by decide)) (gos_cons gm_name gms_nil (go_name (by decide)) gos_nil))) (fun c => @pts_one _ _ _ (@tu_val _ _ _ (@pe_call _ _ _ _ _ _ _ _ _ _ _ _ _ _ _ _ G_within hr_within rfl T.m_within T.F_within.kp T.b_within .nil pass0 (@pa_cons _ _ _ _ _ (@vw _ 0 _ _ (by walk_at "v")) (@pa1 _ _ _ (@vw _ 2 _ _ (by walk_at "v")) (by rfl)) (by rfl)) (by decide) (by rfl) (by rfl)) (by intro _; rfl))) (fun c => (@pe_callB _ _ _ _ _ _ _ _ _ cm_abs rfl T.z_abs (by rfl) (@pa1 _ _ _ (@vw _ 1 _ _ (by walk_at "v")) (by rfl)) (by decide) (by decide) (by rfl) (by rfl))) (by intro _; rfl)) (by rfl)) (by decide) (by decide) (by rfl) (by rfl)))), ?_⟩
  refine ⟨g, m, hp, m6, fun l H1 hl s1 g1 => ⟨⟨_, .of g1⟩, ?_⟩⟩
  have et : ixL (hadF g m) (2 ^ m) = ixL (wt m g) (2 ^ m) := ixL_congr fun k hk => had_wt hk
  rw [et] at g1
  generalize wt m g = G at *
  refine comp_enum (xs := ixL G (2 ^ m)) (fun i zs H' => Same H1 H' /\ zs = (absL G o i).map V.int) ⟨Same.refl _, rfl⟩ (fun i zs H' _ ⟨s, _⟩ => s.sqL (.of g1)) (fun i zs H' hi ⟨_, e⟩ => by
    rw [ixL_len] at hi
    have := absL_len G o i
    rw [e, List.length_map]; exact small1000 (by omega)) ?_ ?_
  . rintro i x zs H2 pp hx ⟨s2, rfl⟩ hpp
    have hi : i < 2 ^ m := by
      have := (List.getElem?_eq_some_iff.mp hx).1
      rwa [ixL_len] at this
    rw [ixL_get hi] at hx
    cases hx
    refine ⟨pp, _, rfl, .of upd_same, rfl, _, _, rfl, _, _, rfl, rfl, ?_⟩
    refine ⟨i, o, rfl, rfl, ?_⟩
    have ef : absL G o (i + 1) = absL G o i ++ (if i &&& o = i then [(((G i).natAbs : Nat) : Int)] else []) := rfl
    refine ite2 (fun e => ?_) (fun e => ?_)
    . rw [ef, if_pos (of_decide_eq_true e), List.map_append]
      exact ⟨s2.trans (Same.upd hpp), rfl⟩
    . rw [ef, if_neg (fun z => e (decide_eq_true z)), List.append_nil]
      exact ⟨s2.trans (Same.upd hpp), rfl⟩
  . rintro zs H2 ⟨s2, rfl⟩ lp hlp
    rw [ixL_len]
    exact ⟨_, .of upd_same, q _ (s1.trans (s2.trans (Same.upd hlp)))⟩
def soB (m : Nat) (g : Nat -> Int) (ld : Int) (o : Nat) (x : Str) : Bool :=
  if (x == ("weights" : Str)) = true then decide (((List.range (2 ^ m)).map fun s => inF g o s * inF g o s).sum <= ld * ld)
  else if (x == ("whole" : Str)) = true then decide ((absL (wt m (inF g o)) o (2 ^ m)).sum <= ld * ((2 ^ manyF m o : Nat) : Int))
  else false
def soE (m : Nat) (g : Nat -> Int) (ld : Int) (o : Nat) : Dv -> Bool
  | .str x => soB m g ld o x
  | _ => false
def isStrD : Dv -> Bool
  | .str _ => true
  | _ => false
theorem eq_no {H : Hp} {d : Dv} {x : V} {s : Str} {Q : VK} (r : Rep K H d x) (h : isStrD d = false) (hd : depD d <= 60) (q : Q (.bl false) H) : mEq false K x (.str s) H Q := by
  have he : eqD d (.str s) = false := by cases d <;> first | rfl | cases h
  have q' : Q (.bl (false ^^ eqD d (.str s))) H := by rw [he]; exact q
  cases d with
  | str s => cases h
  | non => unfold Rep at r; subst r; exact ⟨.non, .str s, by unfold Rep; rfl, rep_str, hd, q'⟩
  | bl b => unfold Rep at r; subst r; exact ⟨.bl b, .str s, rep_bl, rep_str, hd, q'⟩
  | int i => unfold Rep at r; subst r; exact ⟨.int i, .str s, rep_int, rep_str, hd, q'⟩
  | tup ds =>
    have r' := r
    unfold Rep at r
    obtain ⟨a, xs, rfl, _⟩ := r
    exact ⟨.tup ds, .str s, r', rep_str, hd, q'⟩
  | lst ds =>
    have r' := r
    unfold Rep at r
    obtain ⟨a, xs, rfl, _⟩ := r
    exact ⟨.lst ds, .str s, r', rep_str, hd, q'⟩
def sp_so (K : W.Frag) : Sp := fun vs H Q _ => match vs with
  | [v, .int ld, .ref c] => ∃ (m o : Nat) (d : Dv) (xv : V) (g : Nat -> Int), SumAt K H v m (termG g (2 ^ m)) /\ m <= 6 /\ o < 2 ^ m /\ Light g /\ -64 <= ld /\ ld <= 64 /\ SqT K H c [.int o, xv] /\ Rep K H d xv /\ depD d <= 60 /\ ∀ H', Same H H' -> Q (.bl (soE m g ld o d)) H'
  | _ => False
theorem sp_so_mono : SpMono (sp_so K) := fun vs H Q Q' E h q => by
  unfold sp_so at *
  split at q
  . revert q; repeat' first | exact h _ _ | exact newL_mono h | walk_at "m"
  . exact q.elim
theorem ok_is_so : FnOk P w K mg base CX0 5 T.f_is_so T.d_is_so ["one", "lead", "cover"] (sp_so K) := by
  have G_weights_within := ok_weights_within (P := P) (w := w) (base := base) T; have G_setting_by_setting := ok_setting_by_setting (P := P) (w := w) (base := base) T; have G_two_to := ok_two_to (P := P) (w := w) (base := base) T; have G_many_in := ok_many_in (P := P) (w := w) (base := base) T
  refine T.F_is_so.ok sc_is_so (fun vs H Q E h => by unfold sp_so at h; split at h <;> first | rfl | exact h.elim) (fun cdv A outer s H vs Q E hr h => ?_)
  have hu := hu60 hr
  have mo1 : SpMono (sp_win K) := sp_win_mono
  have mo2 : SpMono (sp_sbs K) := sp_sbs_mono
  have mo3 : SpMono sp_two_to := sp_two_to_mono
  have mo4 : SpMono sp_many := sp_many_mono
  have hr_weights_within := hr.mono (show 4 <= _ by decide); have hr_setting_by_setting := hr.mono (show 3 <= _ by decide); have hr_two_to := hr.mono (show 2 <= _ by decide); have hr_many_in := hr.mono (show 1 <= _ by decide)
  match vs, h with
  | [v, .int ld, .ref c], h =>
  obtain ⟨m, o, d, xv, g, S, m6, ho, hg, l1, l2, hc, rd, hdep, q⟩ := h
  have h64 : 2 ^ m <= 64 := Nat.pow_le_pow_right (n := 2) (by decide) m6
  refine ⟨_, (@pss_cons _ _ _ _ _ (@ps_set _ _ 3 _ _ _ _ sc_is_so.nd rfl (by walk_at "e") (@pe_call _ _ _ _ _ _ _ _ _ _ _ _ _ _ _ _ G_weights_within hr_weights_within rfl T.m_weights_within T.F_weights_within.kp T.b_weights_within .nil pass0 (@pa_cons _ _ _ _ _ (@vw _ 0 _ _ (by walk_at "v")) (@pa1 _ _ _ (@kIx _ K _ _ _ _ _ (@vw _ 2 _ _ (by walk_at "v")) (@pe_int _ _ _ _) (by intro _ _; rfl) (by rfl)) (by rfl)) (by rfl)) (by decide) (by rfl) (by rfl)) (by rfl) (by walk_at "i")) (@pss_cons _ _ _ _ _ (@ps_if _ _ _ _ _ _ _ _ (@tu_cmp _ _ _ _ _ _ _ _ (kEq (K := K) hu) (@kIx _ K _ _ _ _ _ (@vw _ 2 _ _ (by walk_at "v")) (@pe_int _ _ _ _) (by intro _ _; rfl) (by rfl)) (@pe_str _ _ _ _) (by walk_at "n")) (@pss_one _ _ _ (@ps_ret _ _ _ _ (@pe_cmpM _ _ _ _ _ _ _ _ om_le (@pe_callB _ _ _ _ _ _ _ _ _ (kSum (K := K) rfl) rfl T.z_sum (by rfl) (@pa1 _ _ _ (@pe_compB _ _ _ _ _ _ _ ["weight"] 1 [] _ _ _ _ rfl (@kSeq _ K _ _ _ (@vw _ 3 _ _ (by walk_at "v")) (by rfl)) (by kernel_rfl) rfl rfl (by kernel_rfl) (fun c => @pg_name _ _ 0 _ (show (["weight"] : List Str).Nodup by decide +kernel) rfl (by walk_at "e") (by walk_at "i")) (go_name (by decide)) (fun c => @pts_nil _) (fun c => (@pe_op _ _ _ _ _ _ _ _ om_mul (@vw _ 0 _ _ (by walk_at "v")) (@vw _ 0 _ _ (by walk_at "v")))) (by intro _; rfl)) (by rfl)) (by decide) (by decide) (by rfl) (by rfl)) (@pe_op _ _ _ _ _ _ _ _ om_mul (@vw _ 1 _ _ (by walk_at "v")) (@vw _ 1 _ _ (by walk_at "v"))) (by walk_at "n")))) (@pss_nil _)) (@pss_cons _ _ _ _ _ (@ps_if _ _ _ _ _ _ _ _ (@tu_cmp _ _ _ _ _ _ _ _ (kEq (K := K) hu) (@kIx _ K _ _ _ _ _ (@vw _ 2 _ _ (by walk_at "v")) (@pe_int _ _ _ _) (by intro _ _; rfl) (by rfl)) (@pe_str _ _ _ _) (by walk_at "n")) (@pss_one _ _ _ (@ps_ret _ _ _ _ (@pe_cmpM _ _ _ _ _ _ _ _ om_le (@pe_call _ _ _ _ _ _ _ _ _ _ _ _ _ _ _ _ G_setting_by_setting hr_setting_by_setting rfl T.m_setting_by_setting T.F_setting_by_setting.kp T.b_setting_by_setting .nil pass0 (@pa_cons _ _ _ _ _ (@vw _ 3 _ _ (by walk_at "v")) (@pa1 _ _ _ (@kIx _ K _ _ _ _ _ (@vw _ 2 _ _ (by walk_at "v")) (@pe_int _ _ _ _) (by intro _ _; rfl) (by rfl)) (by rfl)) (by rfl)) (by decide) (by rfl) (by rfl)) (@pe_op _ _ _ _ _ _ _ _ om_mul (@vw _ 1 _ _ (by walk_at "v")) (@pe_call _ _ _ _ _ _ _ _ _ _ _ _ _ _ _ _ G_two_to hr_two_to rfl T.m_two_to T.F_two_to.kp T.b_two_to .nil pass0 (@pa1 _ _ _ (@pe_call _ _ _ _ _ _ _ _ _ _ _ _ _ _ _ _ G_many_in hr_many_in rfl T.m_many_in T.F_many_in.kp T.b_many_in .nil pass0 (@pa1 _ _ _ (@kIx _ K _ _ _ _ _ (@vw _ 2 _ _ (by walk_at "v")) (@pe_int _ _ _ _) (by intro _ _; rfl) (by rfl)) (by rfl)) (by decide) (by rfl) (by rfl)) (by rfl)) (by decide) (by rfl) (by rfl))) (by walk_at "n")))) (@pss_nil _)) (@pss_one _ _ _ (@ps_ret _ _ _ _ (@pe_bl _ _ _ _)))))), ?_⟩
  refine seq_at (fun σ H' => ∃ l : Addr, σ = [some v, some (.int ld), some (.ref c), some (.ref l)] /\ Same H H' /\ H' l = some (.lst (ixL (inF g o) (2 ^ m)))) ?_ ?_ (by walk_at "sm")
  . exact ⟨_, _, .inr hc, atI_of (n := 0) rfl rfl, m, o, g, S, m6, rfl, fun l H1 hl s1 g1 => ⟨l, rfl, s1, g1⟩⟩
  rintro σ H1 ⟨l, rfl, s1, g1⟩
  have hc1 := s1.sqT hc
  have hin : Light (inF g o) := fun k => by
    have := hg k
    unfold inF
    split <;> omega
  by_cases hst : isStrD d = true
  case neg =>
    have hst : isStrD d = false := by simpa using hst
    have es : soE m g ld o d = false := by cases d <;> first | rfl | cases hst
    rw [es] at q
    have rd1 := Rep.same s1 _ _ rd
    refine seq_at (fun σ H' => σ = [some v, some (.int ld), some (.ref c), some (.ref l)] /\ H1 = H') ?_ ?_ (by walk_at "sm")
    . refine if_val false ?_ (iteF ⟨rfl, rfl⟩)
      intro Q q
      exact ⟨_, _, .inr hc1, atI_of (n := 1) rfl rfl, eq_no (Q := fun x H1 => isB x fun c => Q c H1) rd1 hst hdep q⟩
    rintro σ _ ⟨rfl, rfl⟩
    refine seq_at (fun σ H' => σ = [some v, some (.int ld), some (.ref c), some (.ref l)] /\ H1 = H') ?_ ?_ (by walk_at "sm")
    . refine if_val false ?_ (iteF ⟨rfl, rfl⟩)
      intro Q q
      exact ⟨_, _, .inr hc1, atI_of (n := 1) rfl rfl, eq_no (Q := fun x H1 => isB x fun c => Q c H1) rd1 hst hdep q⟩
    rintro σ _ ⟨rfl, rfl⟩
    exact q _ s1
  obtain ⟨x, rfl⟩ : ∃ x, d = .str x := by
    cases d with
    | str x => exact ⟨x, rfl⟩
    | _ => cases hst
  unfold Rep at rd
  subst rd
  have q : ∀ H', Same H H' -> Q (.bl (soB m g ld o x)) H' := q
  unfold soB at q
  refine seq_at (fun σ H' => σ = [some v, some (.int ld), some (.ref c), some (.ref l)] /\ H1 = H' /\ (x == ("weights" : Str)) = false) ?_ ?_ (by walk_at "sm")
  . refine ⟨_, _, .inr hc1, atI_of (n := 1) rfl rfl, ?_⟩
    refine ite2 (fun e => ?_) (fun e => ?_)
    . have e' : (x == ("weights" : Str)) = true := by simpa using e
      refine .inl ⟨⟨_, .of g1⟩, ?_⟩
      refine comp_list (xs := ixL (inF g o) (2 ^ m)) (fun i zs H' => H' = H1 /\ zs = ((List.range i).map fun s => inF g o s * inF g o s).map V.int) ⟨rfl, rfl⟩ (fun i zs H' _ ⟨e, _⟩ => by rw [e]; exact .of g1) (fun i zs H' hi ⟨_, e⟩ => by
        rw [ixL_len] at hi
        rw [e, List.length_map, List.length_map, List.length_range]; exact small1000 (by omega)) ?_ ?_
      . rintro i y zs H' hx ⟨rfl, rfl⟩
        have hi : i < 2 ^ m := by
          have := (List.getElem?_eq_some_iff.mp hx).1
          rwa [ixL_len] at this
        rw [ixL_get hi] at hx
        cases hx
        have hk := hin i
        refine ⟨.inr (.inr ⟨by omega, by omega⟩), rfl, ?_⟩
        rw [List.range_succ, List.map_append, List.map_append]
        rfl
      . rintro zs H' ⟨rfl, rfl⟩ lp hlp
        rw [ixL_len]
        refine ⟨_, .of upd_same, .inr (.inr ⟨by omega, by omega⟩), ?_⟩
        have q' := q _ (s1.trans (Same.upd (o := .lst (((List.range (2 ^ m)).map fun s => inF g o s * inF g o s).map V.int)) hlp))
        rw [if_pos e'] at q'
        exact q'
    . refine ⟨rfl, rfl, ?_⟩
      cases ew : (x == ("weights" : Str)) with
      | false => rfl
      | true => exact absurd (show _ = true by simpa using ew) e
  rintro σ _ ⟨rfl, rfl, ew⟩
  simp only [ew, Bool.false_eq_true, if_false] at q
  refine seq_at (fun σ H' => σ = [some v, some (.int ld), some (.ref c), some (.ref l)] /\ H1 = H' /\ (x == ("whole" : Str)) = false) ?_ ?_ (by walk_at "sm")
  . refine ⟨_, _, .inr hc1, atI_of (n := 1) rfl rfl, ?_⟩
    refine ite2 (fun e => ?_) (fun e => ?_)
    . have e' : (x == ("whole" : Str)) = true := by simpa using e
      refine ⟨_, _, .inr hc1, atI_of (n := 0) rfl rfl, m, o, inF g o, .of g1, rfl, m6, fun H2 s2 => ?_⟩
      have hm6 := manyF_le m o
      refine ⟨_, _, .inr (s2.sqT hc1), atI_of (n := 0) rfl rfl, o, rfl, by omega, ?_⟩
      rw [many_of ho (by omega)]
      refine ⟨manyF m o, rfl, by omega, .inr (.inl ⟨by omega, by omega⟩), ?_⟩
      have q' := q _ (s1.trans s2)
      rw [if_pos e'] at q'
      exact q'
    . refine ⟨rfl, rfl, ?_⟩
      cases ew : (x == ("whole" : Str)) with
      | false => rfl
      | true => exact absurd (show _ = true by simpa using ew) e
  rintro σ _ ⟨rfl, rfl, ew2⟩
  simp only [ew2, Bool.false_eq_true, if_false] at q
  exact q _ s1
theorem pap_inv {K : W.Frag} {H : Hp} {nb : List Bool} {cs : List (Nat × Dv)} {v : V} (h : Rep K H (papE nb cs) v) : ∃ (a ax ay : Addr) (ys : List V), v = .ref a /\ SqT K H a [.ref ax, .ref ay] /\ SqT K H ax (nb.map V.bl) /\ SqT K H ay ys /\ Reps K H (cs.map covE) ys := by
  unfold papE at h
  obtain ⟨a, x, y, rfl, ha, rx, ry⟩ := rep_two_inv h
  obtain ⟨ax, xs, rfl, hax, rxs⟩ := rep_tup_inv rx
  obtain ⟨ay, ys, rfl, hay, rys⟩ := rep_tup_inv ry
  obtain rfl := reps_blI nb xs rxs
  exact ⟨a, ax, ay, ys, rfl, ha, hax, hay, rys⟩
def leadF (m : Nat) (bs nb : List Bool) : Int := sumTo (fun p => valF bs p * valF nb p) (2 ^ m)
theorem lead_dif (m : Nat) (bs nb : List Bool) : leadF m bs nb = ((2 ^ m : Nat) : Int) - 2 * ((difL bs nb (2 ^ m)).length : Nat) := dif_sum bs nb (2 ^ m)
theorem lead_bound {m : Nat} (m6 : m <= 6) (bs nb : List Bool) : -64 <= leadF m bs nb /\ leadF m bs nb <= 64 := by
  have h64 : 2 ^ m <= 64 := Nat.pow_le_pow_right (n := 2) (by decide) m6
  have := difL_len bs nb (2 ^ m)
  rw [lead_dif]
  generalize 2 ^ m = M at *
  omega
theorem difL_comm (as bs : List Bool) (n : Nat) : difL as bs n = difL bs as n := by
  unfold difL
  refine List.filter_congr fun p _ => ?_
  cases gB as p <;> cases gB bs p <;> rfl
def nearB (m k : Nat) (bs nb : List Bool) (cs : List (Nat × Dv)) : Bool := decide (manyF m (hungTo (cntS nb m) m) <= k /\ 0 <= leadF m bs nb) && (coversB m k cs && cs.all fun c => soE m (wt m (valF bs)) (leadF m bs nb) c.1 c.2)
def nearX (m k : Nat) (bs : List Bool) : Dv -> Bool
  | .tup [.tup ns, .tup cs] => nearB m k bs (ns.map getB) (cs.map cvOf)
  | _ => false
def nearE (m k : Nat) (bs : List Bool) (d : Dv) : Bool := formE m d && nearX m k bs d
theorem nearX_pap {m k : Nat} {bs nb : List Bool} {cs : List (Nat × Dv)} : nearX m k bs (papE nb cs) = nearB m k bs nb cs := by
  show nearB m k bs ((nb.map Dv.bl).map getB) ((cs.map covE).map cvOf) = _
  rw [List.map_map, List.map_map]
  have e1 : nb.map (getB ∘ Dv.bl) = nb := by
    have : (getB ∘ Dv.bl) = id := by funext b; rfl
    rw [this, List.map_id]
  have e2 : cs.map (cvOf ∘ covE) = cs := by
    have : (cvOf ∘ covE) = id := by funext c; show (((c.1 : Nat) : Int).toNat, c.2) = c; rw [Int.toNat_natCast]
    rw [this, List.map_id]
  rw [e1, e2]
theorem dep_mem : ∀ {ds : List Dv} {d : Dv}, d ∈ ds -> depD d <= depDs ds
  | [], _, h => by cases h
  | e :: ds, d, h => by
    unfold depDs
    rcases List.mem_cons.mp h with rfl | h'
    . omega
    . have := dep_mem h'
      omega
theorem dep_cov {nb : List Bool} {cs : List (Nat × Dv)} {c : Nat × Dv} (h : c ∈ cs) : depD c.2 <= depD (papE nb cs) := by
  have h1 : depD (covE c) <= depDs (cs.map covE) := dep_mem (List.mem_map.mpr ⟨c, h, rfl⟩)
  have h2 : depD c.2 <= depD (covE c) := by simp only [covE, depD, depDs]; omega
  have h3 : depDs (cs.map covE) <= depD (papE nb cs) := by simp only [papE, depD, depDs]; omega
  omega
def sp_pnear (K : W.Frag) : Sp := fun vs H Q _ => match vs with
  | [u, .int z, v] => ∃ (m k : Nat) (bs : List Bool), SumAt K H u m (termG (wt m (valF bs)) (2 ^ m)) /\ 1 <= m /\ m <= 6 /\ z = k /\ ((∃ d, Rep K H d v /\ depD d <= 50 /\ ∀ H', Same H H' -> Q (.bl (nearE m k bs d)) H') \/ (∃ a kvs, v = .ref a /\ H a = some (.dK kvs) /\ ∀ H', Same H H' -> Q (.bl false) H'))
  | _ => False
theorem sp_pnear_mono : SpMono (sp_pnear K) := fun vs H Q Q' E h q => by
  unfold sp_pnear at *
  split at q
  . obtain ⟨m, k, bs, h1, h2, h3, h4, ⟨d, h5, h6, q⟩ | ⟨a, kvs, h5, h6, q⟩⟩ := q
    . exact ⟨m, k, bs, h1, h2, h3, h4, .inl ⟨d, h5, h6, fun H' x1 => h _ _ (q H' x1)⟩⟩
    . exact ⟨m, k, bs, h1, h2, h3, h4, .inr ⟨a, kvs, h5, h6, fun H' x1 => h _ _ (q H' x1)⟩⟩
  . exact q.elim
theorem ok_lets_near : FnOk P w K mg base CX0 6 T.f_lets_near T.d_lets_near ["one", "k", "thing"] (sp_pnear K) := by
  have G_sum_of := ok_sum_of (P := P) (w := w) (base := base) T; have G_lead_of := ok_lead_of (P := P) (w := w) (base := base) T; have G_has_paper_form := ok_has_paper_form (P := P) (w := w) (base := base) T; have G_covers_all := ok_covers_all (P := P) (w := w) (base := base) T; have G_many_in := ok_many_in (P := P) (w := w) (base := base) T; have G_hangs_on := ok_hangs_on (P := P) (w := w) (base := base) T; have G_is_so := ok_is_so (P := P) (w := w) (base := base) T
  refine T.F_lets_near.ok sc_lets_near (fun vs H Q E h => by unfold sp_pnear at h; split at h <;> first | rfl | exact h.elim) (fun cdv A outer s H vs Q E hr h => ?_)
  have hu := hu60 hr
  have mo1 : SpMono (sp_eE K formE) := sp_eE_mono
  have mo2 : SpMono (sp_psum K) := sp_psum_mono
  have mo3 : SpMono (sp_lead K) := sp_lead_mono
  have mo4 : SpMono (sp_hangs K) := sp_hangs_mono
  have mo5 : SpMono sp_many := sp_many_mono
  have mo6 : SpMono (sp_covers K) := sp_covers_mono
  have mo7 : SpMono (sp_so K) := sp_so_mono
  have hr_sum_of := hr.mono (show 3 <= _ by decide); have hr_lead_of := hr.mono (show 4 <= _ by decide); have hr_has_paper_form := hr.mono (show 4 <= _ by decide); have hr_covers_all := hr.mono (show 4 <= _ by decide); have hr_many_in := hr.mono (show 1 <= _ by decide); have hr_hangs_on := hr.mono (show 1 <= _ by decide); have hr_is_so := hr.mono (show 5 <= _ by decide)
  match vs, h with
  | [u, .int z, v], ⟨m, k, bs, S, m1, m6, e1, h⟩ =>
  subst e1
  have h64 : 2 ^ m <= 64 := Nat.pow_le_pow_right (n := 2) (by decide) m6
  obtain ⟨au, us, rfl, hau, hat⟩ := sum_n S
  refine ⟨_, (@pss_cons _ _ _ _ _ (@ps_if _ _ _ _ _ _ _ _ (@pt_not _ _ _ _ (@tu_val _ _ _ (@pe_call _ _ _ _ _ _ _ _ _ _ _ _ _ _ _ _ G_has_paper_form hr_has_paper_form rfl T.m_has_paper_form T.F_has_paper_form.kp T.b_has_paper_form .nil pass0 (@pa_cons _ _ _ _ _ (@kIx _ K _ _ _ _ _ (@vw _ 0 _ _ (by walk_at "v")) (@pe_int _ _ _ _) (by intro _ _; rfl) (by rfl)) (@pa1 _ _ _ (@vw _ 2 _ _ (by walk_at "v")) (by rfl)) (by rfl)) (by decide) (by rfl) (by rfl)) (by intro _; rfl))) (@pss_one _ _ _ (@ps_ret _ _ _ _ (@pe_bl _ _ _ _))) (@pss_nil _)) (@pss_cons _ _ _ _ _ (@ps_set _ _ 3 _ _ _ _ sc_lets_near.nd rfl (by walk_at "e") (@pe_call _ _ _ _ _ _ _ _ _ _ _ _ _ _ _ _ G_sum_of hr_sum_of rfl T.m_sum_of T.F_sum_of.kp T.b_sum_of .nil pass0 (@pa1 _ _ _ (@kIx _ K _ _ _ _ _ (@vw _ 2 _ _ (by walk_at "v")) (@pe_int _ _ _ _) (by intro _ _; rfl) (by rfl)) (by rfl)) (by decide) (by rfl) (by rfl)) (by rfl) (by walk_at "i")) (@pss_cons _ _ _ _ _ (@ps_set _ _ 4 _ _ _ _ sc_lets_near.nd rfl (by walk_at "e") (@pe_call _ _ _ _ _ _ _ _ _ _ _ _ _ _ _ _ G_lead_of hr_lead_of rfl T.m_lead_of T.F_lead_of.kp T.b_lead_of .nil pass0 (@pa_cons _ _ _ _ _ (@vw _ 0 _ _ (by walk_at "v")) (@pa1 _ _ _ (@vw _ 3 _ _ (by walk_at "v")) (by rfl)) (by rfl)) (by decide) (by rfl) (by rfl)) (by rfl) (by walk_at "i")) (@pss_cons _ _ _ _ _ (@ps_if _ _ _ _ _ _ _ _ (PW.pt (@pw_or _ _ _ _ _ _ _ (@tu_cmp _ _ _ _ _ _ _ _ om_gt (@pe_call _ _ _ _ _ _ _ _ _ _ _ _ _ _ _ _ G_many_in hr_many_in rfl T.m_many_in T.F_many_in.kp T.b_many_in .nil pass0 (@pa1 _ _ _ (@pe_call _ _ _ _ _ _ _ _ _ _ _ _ _ _ _ _ G_hangs_on hr_hangs_on rfl T.m_hangs_on T.F_hangs_on.kp T.b_hangs_on .nil pass0 (@pa1 _ _ _ (@vw _ 3 _ _ (by walk_at "v")) (by rfl)) (by decide) (by rfl) (by rfl)) (by rfl)) (by decide) (by rfl) (by rfl)) (@vw _ 1 _ _ (by walk_at "v")) (by walk_at "n")) (@pw_or1 _ _ _ _ (@tu_cmp _ _ _ _ _ _ _ _ om_lt (@vw _ 4 _ _ (by walk_at "v")) (@pe_int _ _ _ _) (by walk_at "n"))))) (@pss_one _ _ _ (@ps_ret _ _ _ _ (@pe_bl _ _ _ _))) (@pss_nil _)) (@pss_one _ _ _ (@ps_ret _ _ _ _ (@pe_andM _ _ _ _ _ _ _ (@pe_call _ _ _ _ _ _ _ _ _ _ _ _ _ _ _ _ G_covers_all hr_covers_all rfl T.m_covers_all T.F_covers_all.kp T.b_covers_all .nil pass0 (@pa_cons _ _ _ _ _ (@kIx _ K _ _ _ _ _ (@vw _ 0 _ _ (by walk_at "v")) (@pe_int _ _ _ _) (by intro _ _; rfl) (by rfl)) (@pa_cons _ _ _ _ _ (@vw _ 1 _ _ (by walk_at "v")) (@pa1 _ _ _ (@kIx _ K _ _ _ _ _ (@vw _ 2 _ _ (by walk_at "v")) (@pe_int _ _ _ _) (by intro _ _; rfl) (by rfl)) (by rfl)) (by rfl)) (by rfl)) (by decide) (by rfl) (by rfl)) (@pe_one _ _ _ _ _ (@pe_callB _ _ _ _ _ _ _ _ _ (kAll (K := K) rfl) rfl T.z_all (by rfl) (@pa1 _ _ _ (@pe_compB _ _ _ _ _ _ _ (["cover", "one", "lead"]) 1 ([0, 4]) _ _ _ _ rfl (@kSeq _ K _ _ _ (@kIx _ K _ _ _ _ _ (@vw _ 2 _ _ (by walk_at "v")) (@pe_int _ _ _ _) (by intro _ _; rfl) (by rfl)) (by rfl)) (by kernel_rfl) rfl rfl (by kernel_rfl) (fun c => @pg_name _ _ 0 _ (show (["cover", "one", "lead"] : List Str).Nodup by decide +kernel) rfl (by walk_at "e") (by walk_at "i")) (go_name (by decide)) (fun c => @pts_nil _) (fun c => (@pe_call _ _ _ _ _ _ _ _ _ _ _ _ _ _ _ _ G_is_so hr_is_so rfl T.m_is_so T.F_is_so.kp T.b_is_so .nil pass0 (@pa_cons _ _ _ _ _ (@vw _ 1 _ _ (by walk_at "v")) (@pa_cons _ _ _ _ _ (@vw _ 2 _ _ (by walk_at "v")) (@pa1 _ _ _ (@vw _ 0 _ _ (by walk_at "v")) (by rfl)) (by rfl)) (by rfl)) (by decide) (by rfl) (by rfl))) (by intro _; rfl)) (by rfl)) (by decide) (by decide) (by rfl) (by rfl)))))))))), ?_⟩
  rcases h with ⟨d, hv, hdep, q⟩ | ⟨da, kvs, rfl, hda, q⟩
  case inr =>
    refine if_same true ?_ (fun H' s => iteT (q H' s))
    intro Q q
    exact ⟨_, _, .inr hau, hat, m, rfl, m1, m6, .inr ⟨da, kvs, rfl, hda, q H (Same.refl _)⟩⟩
  cases hf : formE m d with
  | false =>
    unfold nearE at q
    rw [hf, Bool.false_and] at q
    refine if_same true ?_ (fun H' s => iteT (q H' s))
    intro Q q
    refine ⟨_, _, .inr hau, hat, m, rfl, m1, m6, .inl ⟨d, hv, fun H' s' => ?_⟩⟩
    rw [hf]
    exact q H' s'
  | true =>
  obtain ⟨nb, cs, rfl, hb, hcl, hcs⟩ := formE_inv hf
  unfold nearE at q
  rw [hf, Bool.true_and, nearX_pap] at q
  obtain ⟨a, ax, ay, ys, rfl, ha, hax, hay, hR⟩ := pap_inv hv
  have hyl := hR.length
  rw [List.length_map] at hyl
  obtain ⟨lb1, lb2⟩ := lead_bound m6 bs nb
  refine seq_at (fun σ H' => σ = [some (.ref au), some (.int k), some (.ref a), none, none] /\ Same H H') ?_ ?_ (by walk_at "sm")
  . refine if_same false ?_ ?_
    . intro Q q
      refine ⟨_, _, .inr hau, hat, m, rfl, m1, m6, .inl ⟨_, hv, fun H' s' => ?_⟩⟩
      rw [hf]
      exact q H' s'
    . exact fun H' s => iteF ⟨rfl, s⟩
  rintro σ H1 ⟨rfl, s1⟩
  refine seq_at (fun σ H' => ∃ t : V, σ = [some (.ref au), some (.int k), some (.ref a), some t, none] /\ Same H1 H' /\ SumAt K H' t m (termG (wt m (valF nb)) (2 ^ m))) ?_ ?_ (by walk_at "sm")
  . exact ⟨_, _, .inr (s1.sqT ha), atI_of (n := 0) rfl rfl, m, nb, m6, hb, s1.sqT hax, fun t H2 s2 St => ⟨t, rfl, s2, St⟩⟩
  rintro σ H2 ⟨t, rfl, s2, St⟩
  refine seq_at (fun σ H' => σ = [some (.ref au), some (.int k), some (.ref a), some t, some (.int (leadF m bs nb))] /\ Same H2 H') ?_ ?_ (by walk_at "sm")
  . exact ⟨m, bs, nb, S.same (s1.trans s2), St, m6, fun H3 s3 => ⟨rfl, s3⟩⟩
  rintro σ H3 ⟨rfl, s3⟩
  have s0 := s1.trans (s2.trans s3)
  have hq : ∀ H', Same H3 H' -> Q (.bl (nearB m k bs nb cs)) H' := fun H' s => q H' (s0.trans s)
  unfold nearB at hq
  clear q
  have hlt := hungTo_lt (cntS nb m) m
  have hho := hang_eq m nb
  generalize hld : leadF m bs nb = ld at *
  generalize hhu : hungTo (cntS nb m) m = hg at *
  refine seq_at (fun σ H' => σ = [some (.ref au), some (.int k), some (.ref a), some t, some (.int ld)] /\ H3 = H' /\ (manyF m hg <= k /\ 0 <= ld)) ?_ ?_ (by walk_at "sm")
  . by_cases c : manyF m hg <= k /\ 0 <= ld
    . refine if_val false ?_ ?_
      . intro Q q
        refine ⟨m, _, St.same s3, ?_⟩
        rw [hho]
        refine ⟨hg, rfl, by omega, ?_⟩
        rw [many_of hlt (by omega)]
        refine ite2 (fun e => ?_) (fun _ => ?_)
        . have : ((k : Nat) : Int) < ((manyF m hg : Nat) : Int) := of_decide_eq_true e
          omega
        . have e0 : decide (ld < 0) = false := decide_eq_false (by omega)
          rw [<- e0] at q
          exact q
      . exact iteF ⟨rfl, rfl, c⟩
    . refine if_val true ?_ ?_
      . intro Q q
        refine ⟨m, _, St.same s3, ?_⟩
        rw [hho]
        refine ⟨hg, rfl, by omega, ?_⟩
        rw [many_of hlt (by omega)]
        refine ite2 (fun _ => q) (fun e => ?_)
        have : ¬ ((k : Nat) : Int) < ((manyF m hg : Nat) : Int) := fun z => e (decide_eq_true z)
        have e0 : decide (ld < 0) = true := decide_eq_true (by omega)
        rw [<- e0] at q
        exact q
      . refine iteT ?_
        have := hq H3 (Same.refl _)
        rw [decide_eq_false c] at this
        exact this
  rintro σ _ ⟨rfl, rfl, c⟩
  rw [decide_eq_true c] at hq
  simp only [Bool.true_and] at hq
  refine ⟨_, _, .inr (s0.sqT hau), hat, _, _, .inr (s0.sqT ha), atI_of (n := 1) rfl rfl, m, k, cs, ys, rfl, rfl, m6, s0.sqT hay, Reps.same s0 _ _ hR, hcl, fun H4 s4 => ?_⟩
  refine ite2 (fun e => ?_) (fun e => ?_)
  . rw [e] at hq
    simp only [Bool.true_and] at hq
    have s04 := s0.trans s4
    refine ⟨_, _, .inr (s04.sqT ha), atI_of (n := 1) rfl rfl, .inr ⟨⟨_, s04.sqT hay⟩, ?_⟩⟩
    refine comp_tup (xs := ys) (fun i zs H' => Same H4 H' /\ zs = ((cs.take i).map fun c => soE m (wt m (valF bs)) ld c.1 c.2).map V.bl) ⟨Same.refl _, rfl⟩ (fun i zs H' _ ⟨s, _⟩ => (s04.trans s).sqT hay) (fun i zs H' hi ⟨_, e⟩ => by
      rw [e, List.length_map, List.length_map, List.length_take]; exact small1000 (by omega)) ?_ ?_
    . rintro i y zs H5 hy ⟨s5, rfl⟩
      obtain ⟨b, c, xv, hc, rfl, hb1, rx⟩ := cov_at hR hy
      have s05 := s04.trans s5
      refine ⟨m, c.1, c.2, xv, _, S.same s05, m6, hcs c (List.mem_of_getElem? hc), wt_light m6 bs, lb1, lb2, s05.sqT hb1, Rep.same s05 _ _ rx, Nat.le_trans (dep_cov (nb := nb) (List.mem_of_getElem? hc)) (by omega), fun H6 s6 => ⟨s5.trans s6, ?_⟩⟩
      rw [List.take_add_one, hc, List.map_append, List.map_append]
      rfl
    . rintro zs H5 ⟨s5, rfl⟩ l hl
      rw [<- hyl, List.take_length]
      refine ⟨_, .of upd_same, ?_⟩
      rw [List.all_map]
      exact hq _ (s4.trans (s5.trans (Same.upd hl)))
  . have e' : coversB m k cs = false := by
      cases h : coversB m k cs with
      | false => rfl
      | true => exact absurd h e
    rw [e'] at hq
    exact hq _ s4
theorem fil_rs {m o : Nat} : RsAt o (2 ^ m) ((List.range (2 ^ m)).filter fun s => decide (s &&& o = s)) := by
  refine ⟨List.nodup_range.filter _, fun p hp => List.mem_filter.mpr ⟨List.mem_range.mpr (Nat.lt_of_le_of_lt Nat.and_le_left hp), decide_eq_true (by rw [Nat.and_assoc, Nat.and_self])⟩, fun r hr => ⟨r, List.mem_range.mp (List.mem_filter.mp hr).1, of_decide_eq_true (List.mem_filter.mp hr).2⟩, ?_⟩
  exact Nat.le_trans (List.length_filter_le _ _) (by rw [List.length_range]; exact Nat.le_refl _)
theorem absL_eq (g : Nat -> Int) (o : Nat) : ∀ n, absL g o n = ((List.range n).filter fun s => decide (s &&& o = s)).map fun s => (((g s).natAbs : Nat) : Int)
  | 0 => rfl
  | n + 1 => by
    show absL g o n ++ _ = _
    rw [absL_eq g o n, List.range_succ, List.filter_append, List.map_append]
    congr 1
    by_cases e : n &&& o = n
    . rw [if_pos e]; simp [e]
    . rw [if_neg e]; simp [e]
theorem sum_cmul (c : Int) (f : Nat -> Int) : ∀ ts : List Nat, (ts.map fun r => c * f r).sum = c * (ts.map f).sum
  | [] => by simp
  | t :: ts => by rw [List.map_cons, List.sum_cons, List.map_cons, List.sum_cons, sum_cmul c f ts, Int.mul_add]
theorem abs_in {m o : Nat} {bs : List Bool} (ho : o < 2 ^ m) : (absL (wt m (inF (wt m (valF bs)) o)) o (2 ^ m)).sum = ((2 ^ manyF m o : Nat) : Int) * (((2 ^ m : Nat) : Int) - 2 * (distO m bs o : Nat)) := by
  rw [absL_eq, <- abs_sum (bs := bs) ho fil_rs, <- sum_cmul]
  congr 1
  refine List.map_congr_left fun s hs => ?_
  obtain ⟨h1, h2⟩ := List.mem_filter.mp hs
  have h1 := List.mem_range.mp h1
  have h2 : s &&& o = s := of_decide_eq_true h2
  rw [wt_in m (valF bs) o s ho h1, h2, Int.natAbs_mul, Int.natCast_mul]
  rfl
theorem whole_so {m o : Nat} {bs : List Bool} {ld : Int} (ho : o < 2 ^ m) : soB m (wt m (valF bs)) ld o "whole" = decide (((2 ^ m : Nat) : Int) - 2 * (distO m bs o : Nat) <= ld) := by
  have x1 : (("whole" : Str) == ("weights" : Str)) = false := by decide
  have x2 : (("whole" : Str) == ("whole" : Str)) = true := by decide
  unfold soB
  rw [x1, x2, abs_in ho]
  simp only [Bool.false_eq_true, if_false, if_true]
  have hp := Nat.two_pow_pos (manyF m o)
  generalize ((2 ^ m : Nat) : Int) - 2 * (distO m bs o : Nat) = y
  have hp' : (0 : Int) < ((2 ^ manyF m o : Nat) : Int) := by omega
  generalize ((2 ^ manyF m o : Nat) : Int) = c at *
  rw [Bool.eq_iff_iff, decide_eq_true_eq, decide_eq_true_eq, Int.mul_comm c y]
  exact Int.mul_le_mul_iff_of_pos_right hp'
theorem sq_in (g : Nat -> Int) (o : Nat) : ∀ n, (((termG g n).filter fun t => decide (t.1 &&& o = t.1)).map fun t => t.2 * t.2).sum = ((List.range n).map fun s => inF g o s * inF g o s).sum
  | 0 => rfl
  | n + 1 => by
    show (((termG g n ++ (if g n = 0 then [] else [(n, g n)])).filter fun t => decide (t.1 &&& o = t.1)).map fun t => t.2 * t.2).sum = _
    rw [List.filter_append, List.map_append, List.sum_append, sq_in g o n, List.range_succ, List.map_append, List.sum_append]
    congr 1
    by_cases e : g n = 0
    . rw [if_pos e]
      have : inF g o n = 0 := by unfold inF; rw [e]; split <;> rfl
      simp [this]
    . rw [if_neg e]
      by_cases c : n &&& o = n
      . have : inF g o n = g n := by unfold inF; rw [if_pos c]
        simp [this, c]
      . have : inF g o n = 0 := by unfold inF; rw [if_neg c]
        simp [this, c]
theorem so_weights {m o : Nat} {g : Nat -> Int} {ld : Int} {x : Str} (h : (x == ("weights" : Str)) = true) : soB m g ld o x = decide ((((termG g (2 ^ m)).filter fun t => decide (t.1 &&& o = t.1)).map fun t => t.2 * t.2).sum <= ld * ld) := by
  unfold soB
  rw [if_pos h, sq_in]
theorem so_whole {m o : Nat} {bs : List Bool} {ld : Int} {x : Str} (h1 : (x == ("weights" : Str)) = false) (h2 : (x == ("whole" : Str)) = true) (ho : o < 2 ^ m) : soB m (wt m (valF bs)) ld o x = decide (((2 ^ m : Nat) : Int) - 2 * (distO m bs o : Nat) <= ld) := by
  have := whole_so (bs := bs) (ld := ld) ho
  rw [<- this]
  have x1 : (("whole" : Str) == ("weights" : Str)) = false := by decide
  have x2 : (("whole" : Str) == ("whole" : Str)) = true := by decide
  unfold soB
  rw [h1, h2, x1, x2]
theorem so_none {m o : Nat} {g : Nat -> Int} {ld : Int} {x : Str} (h1 : (x == ("weights" : Str)) = false) (h2 : (x == ("whole" : Str)) = false) : soB m g ld o x = false := by
  unfold soB
  rw [h1, h2]
  rfl
def sp_reason (K : W.Frag) : Sp := fun vs H Q _ => match vs with
  | [.ref tp, .int ag, .int z, .str x] => ∃ (m o : Nat) (bs : List Bool), SqT K H tp (bs.map V.bl) /\ bs.length = 2 ^ m /\ 1 <= m /\ m <= 6 /\ z = o /\ o < 2 ^ m /\ -64 <= ag /\ ag <= 64 /\ ∀ H', Same H H' -> Q (.bl (soB m (wt m (valF bs)) ag o x)) H'
  | _ => False
theorem sp_reason_mono : SpMono (sp_reason K) := fun vs H Q Q' E h q => by
  unfold sp_reason at *
  split at q
  . revert q; repeat' first | exact h _ _ | exact newL_mono h | walk_at "m"
  . exact q.elim
theorem ok__law_reason : FnOk P w K mg base CX0 2 T.f__law_reason T.d__law_reason ["_law_table_here", "_law_agreed", "_law_some", "_law_reason_here"] (sp_reason K) := by
  have G__law_sum := ok__law_sum (P := P) (w := w) (base := base) T
  refine T.F__law_reason.ok sc__law_reason (fun vs H Q E h => by unfold sp_reason at h; split at h <;> first | rfl | exact h.elim) (fun cdv A outer s H vs Q E hr h => ?_)
  have hu := hu60 hr
  have mo1 : SpMono (sp_fsum K) := sp_fsum_mono
  have hr__law_sum := hr.mono (show 1 <= _ by decide)
  match vs, h with
  | [.ref tp, .int ag, .int z, .str x], h =>
  obtain ⟨m, o, bs, ht, hb, m1, m6, e1, ho, ag1, ag2, q⟩ := h
  subst e1
  have h64 : 2 ^ m <= 64 := Nat.pow_le_pow_right (n := 2) (by decide) m6
  have i1 : ((2 ^ m : Nat) : Int) <= 64 := Int.ofNat_le.mpr h64
  have i0 : (0 : Int) <= ((2 ^ m : Nat) : Int) := Int.natCast_nonneg _
  refine ⟨_, (@pss_cons _ _ _ _ _ (@ps_if _ _ _ _ _ _ _ _ (@tu_cmp _ _ _ _ _ _ _ _ (kEq (K := K) hu) (@vw _ 3 _ _ (by walk_at "v")) (@pe_str _ _ _ _) (by walk_at "n")) (@pss_cons _ _ _ _ _ (@ps_set _ _ 4 _ _ _ _ sc__law_reason.nd rfl (by walk_at "e") (@kIx _ K _ _ _ _ _ (@pe_call _ _ _ _ _ _ _ _ _ _ _ _ _ _ _ _ G__law_sum hr__law_sum rfl T.m__law_sum T.F__law_sum.kp T.b__law_sum .nil pass0 (@pa1 _ _ _ (@vw _ 0 _ _ (by walk_at "v")) (by rfl)) (by decide) (by rfl) (by rfl)) (@pe_int _ _ _ _) (by intro _ _; rfl) (by rfl)) (by rfl) (by walk_at "i")) (@pss_one _ _ _ (@ps_ret _ _ _ _ (@pe_cmpM _ _ _ _ _ _ _ _ om_le (@pe_callB _ _ _ _ _ _ _ _ _ (kSum (K := K) rfl) rfl T.z_sum (by rfl) (@pa1 _ _ _ (@pe_compB _ _ _ _ _ _ _ (["_law_one", "_law_weight", "_law_some"]) 2 [2] _ _ _ _ rfl (@kSeq _ K _ _ _ (@vw _ 4 _ _ (by walk_at "v")) (by rfl)) (by kernel_rfl) rfl rfl (by kernel_rfl) (fun c => @kTup _ K _ _ _ _ 2 rfl (@pgs_cons _ _ _ _ _ (@pg_name _ _ 0 _ (show (["_law_one", "_law_weight", "_law_some"] : List Str).Nodup by decide +kernel) rfl (by walk_at "e") (by walk_at "i")) (@pgs_cons _ _ _ _ _ (@pg_name _ _ 1 _ (show (["_law_one", "_law_weight", "_law_some"] : List Str).Nodup by decide +kernel) rfl (by walk_at "e") (by walk_at "i")) (@pgs_nil _) (by rfl)) (by rfl)) (by rfl) (by rfl) (by rfl)) (go_tup (gos_cons gm_name (gms_cons gm_name gms_nil) (go_name (by decide)) (gos_cons gm_name gms_nil (go_name (by decide)) gos_nil))) (fun c => @pts_one _ _ _ (@tu_cmp _ _ _ _ _ _ _ _ (kEq (K := K) hu) (@pe_op _ _ _ _ _ _ _ _ om_and (@vw _ 0 _ _ (by walk_at "v")) (@vw _ 2 _ _ (by walk_at "v"))) (@vw _ 0 _ _ (by walk_at "v")) (by walk_at "n"))) (fun c => (@pe_op _ _ _ _ _ _ _ _ om_mul (@vw _ 1 _ _ (by walk_at "v")) (@vw _ 1 _ _ (by walk_at "v")))) (by intro _; rfl)) (by rfl)) (by decide) (by decide) (by rfl) (by rfl)) (@pe_op _ _ _ _ _ _ _ _ om_mul (@vw _ 1 _ _ (by walk_at "v")) (@vw _ 1 _ _ (by walk_at "v"))) (by walk_at "n"))))) (@pss_nil _)) (@pss_cons _ _ _ _ _ (@ps_if _ _ _ _ _ _ _ _ (@tu_cmp _ _ _ _ _ _ _ _ (kNe (K := K) hu) (@vw _ 3 _ _ (by walk_at "v")) (@pe_str _ _ _ _) (by walk_at "n")) (@pss_one _ _ _ (@ps_ret _ _ _ _ (@pe_bl _ _ _ _))) (@pss_nil _)) (@pss_cons _ _ _ _ _ (@ps_set _ _ 5 _ _ _ _ sc__law_reason.nd rfl (by walk_at "e") (@pe_dnewK _ _) (by rfl) (by walk_at "i")) (@pss_cons _ _ _ _ _ (@ps_for _ _ _ _ _ _ _ _ PassesOwn.never rfl (@pi_range1 _ _ _ _ _ _ rfl T.z_range (@pa1 _ _ _ (@pe_callB _ _ _ _ _ _ _ _ _ (kLen (K := K)) rfl T.z_len (by rfl) (@pa1 _ _ _ (@vw _ 0 _ _ (by walk_at "v")) (by rfl)) (by decide) (by decide) (by rfl) (by rfl)) (by rfl)) (by rfl)) (@pg_name _ _ 6 _ sc__law_reason.nd rfl (by walk_at "e") (by walk_at "i")) (@pss_one _ _ _ (@ps_dput _ _ _ _ _ _ _ _ _ (hu_one hu) (@vw _ 5 _ _ (by walk_at "v")) (@pe_op _ _ _ _ _ _ _ _ om_and (@vw _ 6 _ _ (by walk_at "v")) (@vw _ 2 _ _ (by walk_at "v"))) (@pe_op _ _ _ _ _ _ _ _ om_sub (@pe_op _ _ _ _ _ _ _ _ (kAdd (K := K)) (@pe_dget2 _ _ _ _ _ _ _ _ _ (hu_one hu) (@vw _ 5 _ _ (by walk_at "v")) (@pe_op _ _ _ _ _ _ _ _ om_and (@vw _ 6 _ _ (by walk_at "v")) (@vw _ 2 _ _ (by walk_at "v"))) (@pe_int _ _ _ _) ⟨by rfl, by rfl, by rfl, by rfl⟩) (@pe_int _ _ _ _)) (@pe_op _ _ _ _ _ _ _ _ om_mul (@pe_int _ _ _ _) (@pe_callTy _ _ _ _ _ _ _ _ _ cm_int rfl T.z_int (by rfl) (@pa1 _ _ _ (@kIx _ K _ _ _ _ _ (@vw _ 0 _ _ (by walk_at "v")) (@vw _ 6 _ _ (by walk_at "v")) (by intro _ _; rfl) (by rfl)) (by rfl)) (by decide) (by decide) (by rfl) (by rfl)))) (by rfl))) (by intro _; rfl)) (@pss_one _ _ _ (@ps_ret _ _ _ _ (@pe_cmpM _ _ _ _ _ _ _ _ om_le (@pe_callB _ _ _ _ _ _ _ _ _ (kSum (K := K) rfl) rfl T.z_sum (by rfl) (@pa1 _ _ _ (@pe_compB _ _ _ _ _ _ _ ["_law_one"] 1 [] _ _ _ _ rfl (@kVals _ _ _ _ _ _ (@vw _ 5 _ _ (by walk_at "v")) (by rfl) (by rfl)) (by kernel_rfl) rfl rfl (by kernel_rfl) (fun c => @pg_name _ _ 0 _ (show (["_law_one"] : List Str).Nodup by decide +kernel) rfl (by walk_at "e") (by walk_at "i")) (go_name (by decide)) (fun c => @pts_nil _) (fun c => (@pe_callB _ _ _ _ _ _ _ _ _ cm_abs rfl T.z_abs (by rfl) (@pa1 _ _ _ (@vw _ 0 _ _ (by walk_at "v")) (by rfl)) (by decide) (by decide) (by rfl) (by rfl))) (by intro _; rfl)) (by rfl)) (by decide) (by decide) (by rfl) (by rfl)) (@vw _ 1 _ _ (by walk_at "v")) (by walk_at "n")))))))), ?_⟩
  refine seq_at (fun σ H' => σ = [some (.ref tp), some (.int ag), some (.int o), some (.str x), none, none, none] /\ H = H' /\ (x == ("weights" : Str)) = false) ?_ ?_ (by walk_at "sm")
  . refine ite2 (fun e => ?_) (fun e => ⟨rfl, rfl, by simpa using e⟩)
    have x1 : (x == ("weights" : Str)) = true := by simpa using e
    have lt := wt_light m6 bs
    have hmem := fun {t} (h : t ∈ termG (wt m (valF bs)) (2 ^ m)) => (termG_mem h).2.1
    have htl := termG_len (wt m (valF bs)) (2 ^ m)
    rw [so_weights x1] at q
    refine ⟨m, bs, m1, m6, hb, ht, fun v H1 s1 S => ?_⟩
    obtain ⟨a, b, us, rfl, ha, hbb, hR⟩ := S.at_
    have hul : us.length = (termG (wt m (valF bs)) (2 ^ m)).length := by have := hR.length; rw [List.length_map] at this; omega
    refine ⟨_, _, .inr ha, atI_of (n := 1) rfl rfl, ?_⟩
    dsimp only [gName]
    generalize termG (wt m (valF bs)) (2 ^ m) = ts at *
    refine .inr ⟨⟨_, hbb⟩, ?_⟩
    refine comp_tup (xs := us) (fun i ys H' => H' = H1 /\ ys = (((ts.take i).filter fun t => decide (t.1 &&& o = t.1)).map fun t => t.2 * t.2).map V.int) ⟨rfl, rfl⟩ (fun i ys H' _ ⟨e, _⟩ => by rw [e]; exact hbb) (fun i ys H' hi ⟨_, e⟩ => by
      have h1 := List.length_filter_le (fun t => decide (t.1 &&& o = t.1)) (ts.take i)
      rw [List.length_take] at h1
      rw [e, List.length_map, List.length_map]; exact small1000 (by omega)) ?_ ?_
    . rintro i y ys H' hy ⟨rfl, rfl⟩
      obtain ⟨⟨kk, wgt⟩, c, hq, rfl, hc⟩ := reps_terms_at hR hy
      have hw : wgt = wt m (valF bs) kk := hmem (List.mem_of_getElem? hq)
      have hl := lt kk
      rw [<- hw] at hl
      refine ⟨c, _, rfl, hc, rfl, _, _, rfl, _, _, rfl, rfl, ?_⟩
      have ek : Builtin.bitAnd (kk : Int) (o : Int) = ((kk &&& o : Nat) : Int) := bitAnd_nat kk o
      have et : ts.take (i + 1) = ts.take i ++ [(kk, wgt)] := by rw [List.take_add_one, hq]; rfl
      have ed : (false ^^ (Builtin.bitAnd (kk : Int) (o : Int) == (kk : Int))) = decide (kk &&& o = kk) := by
        rw [ek, Bool.eq_iff_iff]
        simp only [Bool.false_xor, beq_iff_eq, decide_eq_true_eq]
        omega
      refine ite2 (fun e => ?_) (fun e => ?_)
      . have e' : kk &&& o = kk := by
          have : (false ^^ (Builtin.bitAnd (kk : Int) (o : Int) == (kk : Int))) = true := e
          rw [ed] at this
          exact of_decide_eq_true this
        refine ⟨.inr (.inr ⟨by omega, by omega⟩), rfl, ?_⟩
        rw [et, List.filter_append, List.filter_cons_of_pos (p := fun t : Nat × Int => decide (t.1 &&& o = t.1)) (decide_eq_true e'), List.map_append, List.map_append]
        rfl
      . have e' : ¬ kk &&& o = kk := fun z => e (by
          show (false ^^ (Builtin.bitAnd (kk : Int) (o : Int) == (kk : Int))) = true
          rw [ed]; exact decide_eq_true z)
        refine ⟨rfl, ?_⟩
        rw [et, List.filter_append, List.filter_cons_of_neg (p := fun t : Nat × Int => decide (t.1 &&& o = t.1)) (by simpa using e'), List.filter_nil, List.append_nil]
    . rintro ys H' ⟨rfl, rfl⟩ l hl
      rw [hul, List.take_length]
      exact ⟨_, .of upd_same, .inr (.inr ⟨by omega, by omega⟩), q _ (s1.trans (Same.upd hl))⟩
  rintro σ _ ⟨rfl, rfl, x1⟩
  refine seq_at (fun σ H' => σ = [some (.ref tp), some (.int ag), some (.int o), some (.str x), none, none, none] /\ H = H' /\ (x == ("whole" : Str)) = true) ?_ ?_ (by walk_at "sm")
  . refine ite2 (fun e => ?_) (fun e => ⟨rfl, rfl, by simpa using e⟩)
    have x2 : (x == ("whole" : Str)) = false := by simpa using e
    rw [so_none x1 x2] at q
    exact q _ (Same.refl _)
  rintro σ _ ⟨rfl, rfl, x2⟩
  rw [so_whole x1 x2 ho] at q
  refine fun c hc => ?_
  dsimp only [gName]
  refine seq_at (fun σ H' => ∃ (z6 : Option V) (rs : List Nat), σ = [some (.ref tp), some (.int ag), some (.int o), some (.str x), none, some (.ref c), z6] /\ Same H H' /\ H' c = some (.dK (kvL (valF bs) o (2 ^ m) rs)) /\ RsAt o (2 ^ m) rs) ?_ ?_ (by walk_at "sm")
  . refine ⟨2 ^ m, .inr ⟨_, (Same.upd hc).sqT ht, by rw [List.length_map, hb]⟩, ((2 ^ m : Nat) : Int), rfl, by omega, by omega, ?_⟩
    refine for_range (fun i σ H' => ∃ (z6 : Option V) (rs : List Nat), σ = [some (.ref tp), some (.int ag), some (.int o), some (.str x), none, some (.ref c), z6] /\ Same H H' /\ H' c = some (.dK (kvL (valF bs) o i rs)) /\ RsAt o i rs) ⟨none, [], rfl, Same.upd hc, upd_same, ⟨List.nodup_nil, fun p hp => absurd hp (Nat.not_lt_zero _), fun r hr => (nomatch hr), Nat.le_refl _⟩⟩ ?_ ?_
    . rintro i σ H1 hi ⟨z6, rs, rfl, s1, g1, R⟩
      have hi' : i < 2 ^ m := by omega
      rw [show (0 : Int) + (i : Int) = (i : Int) from Int.zero_add _]
      have ek : Builtin.bitAnd (i : Int) (o : Int) = ((i &&& o : Nat) : Int) := bitAnd_nat i o
      have gk : DGet H1 c (.int (Builtin.bitAnd (i : Int) (o : Int))) (valV (kvL (valF bs) o i rs) (.inl ((i &&& o : Nat) : Int))) := by rw [ek]; exact DGet.k (k := .inl ((i &&& o : Nat) : Int)) g1
      have pk : ∀ y, DPut H1 c (.int (Builtin.bitAnd (i : Int) (o : Int))) y (upd H1 c (.dK (putK (kvL (valF bs) o i rs) (.inl ((i &&& o : Nat) : Int)) y))) := fun y => by rw [ek]; exact DPut.k (k := .inl ((i &&& o : Nat) : Int)) g1 (small1000 (by rw [kvL_len]; have := R.len; omega))
      have ev : ∀ y : Int, y + 1 - 2 * (if gB bs i = true then 1 else 0) = y + valF bs i := fun y => by
        have : valF bs i = if gB bs i = true then -1 else 1 := rfl
        rw [this]
        split <;> omega
      have tab : atI (bs.map V.bl) (i : Int) = some (.bl (gB bs i)) := gB_at (by omega)
      obtain ⟨rs', R', ep⟩ := R.put (v := valF bs)
      have fin : ∀ y, y = setTo (valF bs) o i (i &&& o) + valF bs i -> ∃ (z6 : Option V) (rs : List Nat), [some (V.ref tp), some (.int ag), some (.int (o : Int)), some (.str x), none, some (.ref c), some (.int (i : Int))] = [some (.ref tp), some (.int ag), some (.int o), some (.str x), none, some (.ref c), z6] /\ Same H (upd H1 c (.dK (putK (kvL (valF bs) o i rs') (.inl ((i &&& o : Nat) : Int)) (.int y)))) /\ True := fun y _ => ⟨_, rs', rfl, same_put s1 hc, trivial⟩
      clear fin
      have hv := kvL_val (valF bs) o i (i &&& o) rs
      by_cases hm : (i &&& o) ∈ rs
      . rw [if_pos hm] at hv
        rw [hv] at gk
        refine ⟨c, rfl, .inl ⟨_, .inl g1⟩, some (.int (setTo (valF bs) o i (i &&& o))), gk, _, .bl (gB bs i), .inr (s1.sqT ht), tab, .inr (.inl ⟨by decide, by decide⟩), c, _, rfl, pk _, ?_⟩
        refine ⟨_, rs', rfl, same_put s1 hc, ?_, R'⟩
        rw [upd_same, ev, ep]
      . rw [if_neg hm] at hv
        rw [hv] at gk
        have z0 : setTo (valF bs) o i (i &&& o) = 0 := setTo_none fun p hp z => hm (by rw [<- z]; exact R.has p hp)
        refine ⟨c, rfl, .inl ⟨_, .inl g1⟩, none, gk, _, .bl (gB bs i), .inr (s1.sqT ht), tab, .inr (.inl ⟨by decide, by decide⟩), c, _, rfl, pk _, ?_⟩
        refine ⟨_, rs', rfl, same_put s1 hc, ?_, R'⟩
        rw [upd_same, ev, <- ep, z0]
    . rintro σ H1 h
      rw [Int.toNat_natCast] at h
      exact h
  rintro σ H1 ⟨z6, rs, rfl, s1, g1, R⟩
  have hab := abs_sum (bs := bs) ho R
  refine .inl ⟨_, g1, fun ob => ?_⟩
  have s2 := same_put (o := .frz ob (.dK (kvL (valF bs) o (2 ^ m) rs))) s1 hc
  have g2 := upd_same (H := H1) (a := c) (o := .frz ob (.dK (kvL (valF bs) o (2 ^ m) rs)))
  generalize upd H1 c (.frz ob (.dK (kvL (valF bs) o (2 ^ m) rs))) = H2 at *
  have hrl := R.len
  refine comp_vals (kvs := kvL (valF bs) o (2 ^ m) rs) (fun i ys H' => H' = H2 /\ ys = (((rs.take i).map fun r => (((setTo (valF bs) o (2 ^ m) r).natAbs : Nat) : Int)).map V.int)) ⟨rfl, rfl⟩ (fun i ys H' _ ⟨e, _⟩ => by rw [e]; exact g2) (fun i ys H' hi ⟨_, e⟩ => by
    rw [kvL_len] at hi
    rw [e, List.length_map, List.length_map, List.length_take]; exact small1000 (by omega)) ?_ ?_
  . rintro i r ys H' hx ⟨rfl, rfl⟩
    unfold kvL at hx
    rw [List.getElem?_map] at hx
    cases er : rs[i]? with
    | none => rw [er] at hx; cases hx
    | some r0 =>
      rw [er] at hx
      cases hx
      refine ⟨rfl, ?_⟩
      rw [List.take_add_one, er, List.map_append, List.map_append]
      rfl
  . rintro ys H' ⟨rfl, rfl⟩ l hl
    rw [kvL_len, List.take_length]
    refine ⟨_, .of upd_same, ?_⟩
    rw [hab]
    exact q _ (s2.trans (Same.upd hl))
theorem lead_law (m : Nat) (bs nb : List Bool) : ((2 ^ m : Nat) : Int) - 2 * ((difL nb bs (2 ^ m)).length : Nat) = leadF m bs nb := by
  rw [lead_dif, difL_comm]
theorem ok__law_is_set : FnOk P w K mg base CX0 1 T.f__law_is_set T.d__law_is_set ["_law_size", "_law_thing"] (sp_belowD K) := by
  refine T.F__law_is_set.ok sc__law_is_set (fun vs H Q E h => by unfold sp_belowD at h; split at h <;> first | rfl | exact h.elim) (fun cdv A outer s H vs Q E hr h => ?_)
  have hu := hu60 hr
  match vs, h with
  | [.int n, v], ⟨d, hd, q⟩ =>
  refine ⟨_, (@pss_one _ _ _ (@ps_ret _ _ _ _ (@pe_andM _ _ _ _ _ _ _ (@pe_callB _ _ _ _ _ _ _ _ _ (kIsiD (K := K)) rfl T.z_isinstance (by rfl) (@pa_cons _ _ _ _ _ (@vw _ 1 _ _ (by walk_at "v")) (@pa1 _ _ _ (@pe_bltn _ _ (.ty "int") _ _ rfl T.z_int (by rfl) rfl (by decide) (by decide)) (by rfl)) (by rfl)) (by decide) (by decide) (by rfl) (by rfl)) (@pe_andM _ _ _ _ _ _ _ (@pe_notM _ _ _ _ (@pe_callB _ _ _ _ _ _ _ _ _ (kIsiD (K := K)) rfl T.z_isinstance (by rfl) (@pa_cons _ _ _ _ _ (@vw _ 1 _ _ (by walk_at "v")) (@pa1 _ _ _ (@pe_bltn _ _ (.ty "bool") _ _ rfl T.z_bool (by rfl) rfl (by decide) (by decide)) (by rfl)) (by rfl)) (by decide) (by decide) (by rfl) (by rfl))) (@pe_one _ _ _ _ _ (@pe_chainM _ _ _ _ _ _ _ _ _ _ _ _ om_le om_lt (@pe_int _ _ _ _) (@vw _ 1 _ _ (by walk_at "v")) (@vw _ 0 _ _ (by walk_at "v")) (by with_unfolding_all rfl))))))), ?_⟩
  refine ⟨by decide, d, hd, ?_⟩
  cases d with
  | int i =>
    have hv : v = .int i := by unfold Rep at hd; exact hd
    subst hv
    refine ⟨by decide, .int i, hd, ?_⟩
    have q : Q (.bl (decide (0 <= i) && decide (i < n))) H := q
    refine ite2 (fun e => ?_) (fun e => ?_)
    . have e' : 0 <= i := of_decide_eq_true e
      rw [decide_eq_true e', Bool.true_and] at q
      exact q
    . rw [decide_eq_false (fun z => e (decide_eq_true z)), Bool.false_and] at q
      exact q
  | bl b => exact ⟨by decide, .bl b, hd, q⟩
  | _ => exact q
theorem nearE_t {m k : Nat} {bs : List Bool} {a b : Dv} (h : tabM m a = false) : nearE m k bs (.tup [a, b]) = false := by
  show ((tabM m a && covsB m b) && _) = false
  rw [h]; rfl
theorem nearE_c {m k : Nat} {bs : List Bool} {a b : Dv} (h : covsB m b = false) : nearE m k bs (.tup [a, b]) = false := by
  show ((tabM m a && covsB m b) && _) = false
  rw [h, Bool.and_false]; rfl
theorem nearE_x {m k : Nat} {bs : List Bool} {d : Dv} (h : nearX m k bs d = false) : nearE m k bs d = false := by
  unfold nearE
  rw [h, Bool.and_false]
theorem nearE_form {m k : Nat} {bs : List Bool} {d : Dv} (h : formE m d = false) : nearE m k bs d = false := by
  unfold nearE
  rw [h, Bool.false_and]
theorem nearB_c {m k : Nat} {bs nb : List Bool} {cs : List (Nat × Dv)} (h : ¬ (manyF m (hungTo (cntS nb m) m) <= k /\ 0 <= leadF m bs nb)) : nearB m k bs nb cs = false := by
  unfold nearB
  rw [decide_eq_false h]; rfl
theorem nearB_s {m k : Nat} {bs nb : List Bool} {cs : List (Nat × Dv)} {c : Nat × Dv} (hc : c ∈ cs) (h : soE m (wt m (valF bs)) (leadF m bs nb) c.1 c.2 = false) : nearB m k bs nb cs = false := by
  unfold nearB
  have e0 : (cs.all fun c => soE m (wt m (valF bs)) (leadF m bs nb) c.1 c.2) = false := by
    rw [List.all_eq_false]
    exact ⟨c, hc, by rw [h]; decide⟩
  rw [e0, Bool.and_false, Bool.and_false]
theorem isTy_str (d : Dv) : isTy (tyD d) "str" = isStrD d := by cases d <;> rfl
def sp_llets (K : W.Frag) : Sp := fun vs H Q _ => match vs with
  | [.ref tp, .int z, v] => ∃ (m k : Nat) (bs : List Bool), SqT K H tp (bs.map V.bl) /\ bs.length = 2 ^ m /\ 1 <= m /\ m <= 6 /\ z = k /\ ((∃ d, Rep K H d v /\ ∀ H', Same H H' -> Q (.bl (nearE m k bs d)) H') \/ (∃ a kvs, v = .ref a /\ H a = some (.dK kvs) /\ ∀ H', Same H H' -> Q (.bl false) H'))
  | _ => False
theorem sp_llets_mono : SpMono (sp_llets K) := fun vs H Q Q' E h q => by
  unfold sp_llets at *
  split at q
  . obtain ⟨m, k, bs, h1, h2, h3, h4, h5, ⟨d, h6, q⟩ | ⟨a, kvs, h6, h7, q⟩⟩ := q
    . exact ⟨m, k, bs, h1, h2, h3, h4, h5, .inl ⟨d, h6, fun H' x1 => h _ _ (q H' x1)⟩⟩
    . exact ⟨m, k, bs, h1, h2, h3, h4, h5, .inr ⟨a, kvs, h6, h7, fun H' x1 => h _ _ (q H' x1)⟩⟩
  . exact q.elim
theorem ok__law_lets : FnOk P w K mg base CX0 3 T.f__law_lets T.d__law_lets ["_law_table_here", "_law_k", "_law_thing"] (sp_llets K) := by
  have G__law_sets := ok__law_sets (P := P) (w := w) (base := base) T; have G__law_many := ok__law_many (P := P) (w := w) (base := base) T; have G__law_hung := ok__law_hung (P := P) (w := w) (base := base) T; have G__law_is_set := ok__law_is_set (P := P) (w := w) (base := base) T; have G__law_reason := ok__law_reason (P := P) (w := w) (base := base) T
  refine T.F__law_lets.ok sc__law_lets (fun vs H Q E h => by unfold sp_llets at h; split at h <;> first | rfl | exact h.elim) (fun cdv A outer s H vs Q E hr h => ?_)
  have hu := hu60 hr
  have mo1 : SpMono (sp_hung K) := sp_hung_mono
  have mo2 : SpMono sp_many := sp_many_mono
  have mo3 : SpMono (sp_belowD K) := sp_belowD_mono
  have mo4 : SpMono (sp_reason K) := sp_reason_mono
  have mo5 : SpMono sp_sets := sp_sets_mono
  have hr__law_sets := hr.mono (show 2 <= _ by decide); have hr__law_many := hr.mono (show 1 <= _ by decide); have hr__law_hung := hr.mono (show 1 <= _ by decide); have hr__law_is_set := hr.mono (show 1 <= _ by decide); have hr__law_reason := hr.mono (show 2 <= _ by decide)
  match vs, h with
  | [.ref tp, .int z, v], ⟨m, k, bs, ht, hb, m1, m6, e1, h⟩ =>
  subst e1
  have h64 : 2 ^ m <= 64 := Nat.pow_le_pow_right (n := 2) (by decide) m6
  have i1 : ((2 ^ m : Nat) : Int) <= 64 := Int.ofNat_le.mpr h64
  have i0 : (0 : Int) <= ((2 ^ m : Nat) : Int) := Int.natCast_nonneg _
  refine ⟨_, (@pss_cons _ _ _ _ _ (@ps_set _ _ 3 _ _ _ _ sc__law_lets.nd rfl (by walk_at "e") (@pe_callB _ _ _ _ _ _ _ _ _ (kLen (K := K)) rfl T.z_len (by rfl) (@pa1 _ _ _ (@vw _ 0 _ _ (by walk_at "v")) (by rfl)) (by decide) (by decide) (by rfl) (by rfl)) (by rfl) (by walk_at "i")) (@pss_cons _ _ _ _ _ (@ps_if _ _ _ _ _ _ _ _ (PW.pt (@pw_or _ _ _ _ _ _ _ (@pt_not _ _ _ _ (@tu_val _ _ _ (@pe_callB _ _ _ _ _ _ _ _ _ (kIsiE (K := K)) rfl T.z_isinstance (by rfl) (@pa_cons _ _ _ _ _ (@vw _ 2 _ _ (by walk_at "v")) (@pa1 _ _ _ (@pe_bltn _ _ (.ty "tuple") _ _ rfl T.z_tuple (by rfl) rfl (by decide) (by decide)) (by rfl)) (by rfl)) (by decide) (by decide) (by rfl) (by rfl)) (by intro _; rfl))) (@pw_or1 _ _ _ _ (@tu_cmp _ _ _ _ _ _ _ _ (kNe (K := K) hu) (@pe_callB _ _ _ _ _ _ _ _ _ (kLen (K := K)) rfl T.z_len (by rfl) (@pa1 _ _ _ (@vw _ 2 _ _ (by walk_at "v")) (by rfl)) (by decide) (by decide) (by rfl) (by rfl)) (@pe_int _ _ _ _) (by walk_at "n"))))) (@pss_one _ _ _ (@ps_ret _ _ _ _ (@pe_bl _ _ _ _))) (@pss_nil _)) (@pss_cons _ _ _ _ _ (@ps_asg _ _ _ _ _ _ (@vw _ 2 _ _ (by walk_at "v")) (@kTupA _ K _ _ _ _ 2 rfl (@pgs_cons _ _ _ _ _ (@pg_name _ _ 4 _ sc__law_lets.nd rfl (by walk_at "e") (by walk_at "i")) (@pgs_cons _ _ _ _ _ (@pg_name _ _ 5 _ sc__law_lets.nd rfl (by walk_at "e") (by walk_at "i")) (@pgs_nil _) (by rfl)) (by rfl)) (by rfl) (by rfl) (by rfl)) (by rfl) (by rfl) (by rfl)) (@pss_cons _ _ _ _ _ (@ps_if _ _ _ _ _ _ _ _ (PW.pt (@pw_or _ _ _ _ _ _ _ (@pt_not _ _ _ _ (@tu_val _ _ _ (@pe_callB _ _ _ _ _ _ _ _ _ (kIsiE (K := K)) rfl T.z_isinstance (by rfl) (@pa_cons _ _ _ _ _ (@vw _ 4 _ _ (by walk_at "v")) (@pa1 _ _ _ (@pe_bltn _ _ (.ty "tuple") _ _ rfl T.z_tuple (by rfl) rfl (by decide) (by decide)) (by rfl)) (by rfl)) (by decide) (by decide) (by rfl) (by rfl)) (by intro _; rfl))) (@pw_or _ _ _ _ _ _ _ (@tu_cmp _ _ _ _ _ _ _ _ (kNe (K := K) hu) (@pe_callB _ _ _ _ _ _ _ _ _ (kLen (K := K)) rfl T.z_len (by rfl) (@pa1 _ _ _ (@vw _ 4 _ _ (by walk_at "v")) (by rfl)) (by decide) (by decide) (by rfl) (by rfl)) (@vw _ 3 _ _ (by walk_at "v")) (by walk_at "n")) (@pw_or1 _ _ _ _ (@tu_cmp _ _ _ _ _ _ _ _ (kIn (K := K)) (@pe_bl _ _ _ _) (@pe_compB _ _ _ _ _ _ _ ["_law_one"] 1 [] _ _ _ _ rfl (@kSeq _ K _ _ _ (@vw _ 4 _ _ (by walk_at "v")) (by rfl)) (by kernel_rfl) rfl rfl (by kernel_rfl) (fun c => @pg_name _ _ 0 _ (show (["_law_one"] : List Str).Nodup by decide +kernel) rfl (by walk_at "e") (by walk_at "i")) (go_name (by decide)) (fun c => @pts_nil _) (fun c => (@pe_callB _ _ _ _ _ _ _ _ _ (kIsiE (K := K)) rfl T.z_isinstance (by rfl) (@pa_cons _ _ _ _ _ (@vw _ 0 _ _ (by walk_at "v")) (@pa1 _ _ _ (@pe_bltn _ _ (.ty "bool") _ _ rfl T.z_bool (by rfl) rfl (by decide) (by decide)) (by rfl)) (by rfl)) (by decide) (by decide) (by rfl) (by rfl))) (by intro _; rfl)) (by walk_at "n")))))) (@pss_one _ _ _ (@ps_ret _ _ _ _ (@pe_bl _ _ _ _))) (@pss_nil _)) (@pss_cons _ _ _ _ _ (@ps_set _ _ 6 _ _ _ _ sc__law_lets.nd rfl (by walk_at "e") (@pe_op _ _ _ _ _ _ _ _ om_sub (@vw _ 3 _ _ (by walk_at "v")) (@pe_op _ _ _ _ _ _ _ _ om_mul (@pe_int _ _ _ _) (@pe_callB _ _ _ _ _ _ _ _ _ (kLen (K := K)) rfl T.z_len (by rfl) (@pa1 _ _ _ (@pe_compB _ _ _ _ _ _ _ (["_law_p", "_law_near", "_law_table_here"]) 1 ([4, 0]) _ _ _ _ rfl (@pi_range1 _ _ _ _ _ _ rfl T.z_range (@pa1 _ _ _ (@vw _ 3 _ _ (by walk_at "v")) (by rfl)) (by rfl)) (by kernel_rfl) rfl rfl (by kernel_rfl) (fun c => @pg_name _ _ 0 _ (show (["_law_p", "_law_near", "_law_table_here"] : List Str).Nodup by decide +kernel) rfl (by walk_at "e") (by walk_at "i")) (go_name (by decide)) (fun c => @pts_one _ _ _ (@tu_cmp _ _ _ _ _ _ _ _ (kNe (K := K) hu) (@kIx _ K _ _ _ _ _ (@vw _ 1 _ _ (by walk_at "v")) (@vw _ 0 _ _ (by walk_at "v")) (by intro _ _; rfl) (by rfl)) (@kIx _ K _ _ _ _ _ (@vw _ 2 _ _ (by walk_at "v")) (@vw _ 0 _ _ (by walk_at "v")) (by intro _ _; rfl) (by rfl)) (by walk_at "n"))) (fun c => (@vw _ 0 _ _ (by walk_at "v"))) (by intro _; rfl)) (by rfl)) (by decide) (by decide) (by rfl) (by rfl)))) (by rfl) (by walk_at "i")) (@pss_cons _ _ _ _ _ (@ps_if _ _ _ _ _ _ _ _ (PW.pt (@pw_or _ _ _ _ _ _ _ (@tu_cmp _ _ _ _ _ _ _ _ om_gt (@pe_call _ _ _ _ _ _ _ _ _ _ _ _ _ _ _ _ G__law_many hr__law_many rfl T.m__law_many T.F__law_many.kp T.b__law_many .nil pass0 (@pa1 _ _ _ (@pe_call _ _ _ _ _ _ _ _ _ _ _ _ _ _ _ _ G__law_hung hr__law_hung rfl T.m__law_hung T.F__law_hung.kp T.b__law_hung .nil pass0 (@pa1 _ _ _ (@vw _ 4 _ _ (by walk_at "v")) (by rfl)) (by decide) (by rfl) (by rfl)) (by rfl)) (by decide) (by rfl) (by rfl)) (@vw _ 1 _ _ (by walk_at "v")) (by walk_at "n")) (@pw_or _ _ _ _ _ _ _ (@tu_cmp _ _ _ _ _ _ _ _ om_lt (@vw _ 6 _ _ (by walk_at "v")) (@pe_int _ _ _ _) (by walk_at "n")) (@pw_or _ _ _ _ _ _ _ (@pt_not _ _ _ _ (@tu_val _ _ _ (@pe_callB _ _ _ _ _ _ _ _ _ (kIsiE (K := K)) rfl T.z_isinstance (by rfl) (@pa_cons _ _ _ _ _ (@vw _ 5 _ _ (by walk_at "v")) (@pa1 _ _ _ (@pe_bltn _ _ (.ty "tuple") _ _ rfl T.z_tuple (by rfl) rfl (by decide) (by decide)) (by rfl)) (by rfl)) (by decide) (by decide) (by rfl) (by rfl)) (by intro _; rfl))) (@pw_or1 _ _ _ _ (@tu_cmp _ _ _ _ _ _ _ _ om_gt (@pe_callB _ _ _ _ _ _ _ _ _ (kLen (K := K)) rfl T.z_len (by rfl) (@pa1 _ _ _ (@vw _ 5 _ _ (by walk_at "v")) (by rfl)) (by decide) (by decide) (by rfl) (by rfl)) (@pe_int _ _ _ _) (by walk_at "n"))))))) (@pss_one _ _ _ (@ps_ret _ _ _ _ (@pe_bl _ _ _ _))) (@pss_nil _)) (@pss_cons _ _ _ _ _ (@ps_for _ _ _ _ _ _ _ _ PassesOwn.never rfl (@kSeq _ K _ _ _ (@vw _ 5 _ _ (by walk_at "v")) (by rfl)) (@pg_name _ _ 7 _ sc__law_lets.nd rfl (by walk_at "e") (by walk_at "i")) (@pss_cons _ _ _ _ _ (@ps_if _ _ _ _ _ _ _ _ (PW.pt (@pw_or _ _ _ _ _ _ _ (@pt_not _ _ _ _ (@tu_val _ _ _ (@pe_callB _ _ _ _ _ _ _ _ _ (kIsiE (K := K)) rfl T.z_isinstance (by rfl) (@pa_cons _ _ _ _ _ (@vw _ 7 _ _ (by walk_at "v")) (@pa1 _ _ _ (@pe_bltn _ _ (.ty "tuple") _ _ rfl T.z_tuple (by rfl) rfl (by decide) (by decide)) (by rfl)) (by rfl)) (by decide) (by decide) (by rfl) (by rfl)) (by intro _; rfl))) (@pw_or _ _ _ _ _ _ _ (@tu_cmp _ _ _ _ _ _ _ _ (kNe (K := K) hu) (@pe_callB _ _ _ _ _ _ _ _ _ (kLen (K := K)) rfl T.z_len (by rfl) (@pa1 _ _ _ (@vw _ 7 _ _ (by walk_at "v")) (by rfl)) (by decide) (by decide) (by rfl) (by rfl)) (@pe_int _ _ _ _) (by walk_at "n")) (@pw_or1 _ _ _ _ (@pt_not _ _ _ _ (@tu_val _ _ _ (@pe_call _ _ _ _ _ _ _ _ _ _ _ _ _ _ _ _ G__law_is_set hr__law_is_set rfl T.m__law_is_set T.F__law_is_set.kp T.b__law_is_set .nil pass0 (@pa_cons _ _ _ _ _ (@vw _ 3 _ _ (by walk_at "v")) (@pa1 _ _ _ (@kIx _ K _ _ _ _ _ (@vw _ 7 _ _ (by walk_at "v")) (@pe_int _ _ _ _) (by intro _ _; rfl) (by rfl)) (by rfl)) (by rfl)) (by decide) (by rfl) (by rfl)) (by intro _; rfl))))))) (@pss_one _ _ _ (@ps_ret _ _ _ _ (@pe_bl _ _ _ _))) (@pss_nil _)) (@pss_one _ _ _ (@ps_if _ _ _ _ _ _ _ _ (PW.pt (@pw_or _ _ _ _ _ _ _ (@pt_not _ _ _ _ (@tu_val _ _ _ (@pe_callB _ _ _ _ _ _ _ _ _ (kIsiE (K := K)) rfl T.z_isinstance (by rfl) (@pa_cons _ _ _ _ _ (@kIx _ K _ _ _ _ _ (@vw _ 7 _ _ (by walk_at "v")) (@pe_int _ _ _ _) (by intro _ _; rfl) (by rfl)) (@pa1 _ _ _ (@pe_bltn _ _ (.ty "str") _ _ rfl T.z_str (by rfl) rfl (by decide) (by decide)) (by rfl)) (by rfl)) (by decide) (by decide) (by rfl) (by rfl)) (by intro _; rfl))) (@pw_or1 _ _ _ _ (@pt_not _ _ _ _ (@tu_val _ _ _ (@pe_call _ _ _ _ _ _ _ _ _ _ _ _ _ _ _ _ G__law_reason hr__law_reason rfl T.m__law_reason T.F__law_reason.kp T.b__law_reason .nil pass0 (@pa_cons _ _ _ _ _ (@vw _ 0 _ _ (by walk_at "v")) (@pa_cons _ _ _ _ _ (@vw _ 6 _ _ (by walk_at "v")) (@pa_cons _ _ _ _ _ (@kIx _ K _ _ _ _ _ (@vw _ 7 _ _ (by walk_at "v")) (@pe_int _ _ _ _) (by intro _ _; rfl) (by rfl)) (@pa1 _ _ _ (@kIx _ K _ _ _ _ _ (@vw _ 7 _ _ (by walk_at "v")) (@pe_int _ _ _ _) (by intro _ _; rfl) (by rfl)) (by rfl)) (by rfl)) (by rfl)) (by rfl)) (by decide) (by rfl) (by rfl)) (by intro _; rfl)))))) (@pss_one _ _ _ (@ps_ret _ _ _ _ (@pe_bl _ _ _ _))) (@pss_nil _)))) (by intro _; rfl)) (@pss_cons _ _ _ _ _ (@ps_for _ _ _ _ _ _ _ _ PassesOwn.never rfl (@kSeq _ K _ _ _ (@pe_call _ _ _ _ _ _ _ _ _ _ _ _ _ _ _ _ G__law_sets hr__law_sets rfl T.m__law_sets T.F__law_sets.kp T.b__law_sets .nil pass0 (@pa_cons _ _ _ _ _ (@pe_op _ _ _ _ _ _ _ _ om_sub (@kBitlen _ K _ _ _ _ (@vw _ 3 _ _ (by walk_at "v")) (by rfl) (by rfl) (by rfl)) (@pe_int _ _ _ _)) (@pa1 _ _ _ (@vw _ 1 _ _ (by walk_at "v")) (by rfl)) (by rfl)) (by decide) (by rfl) (by rfl)) (by rfl)) (@pg_name _ _ 8 _ sc__law_lets.nd rfl (by walk_at "e") (by walk_at "i")) (@pss_one _ _ _ (@ps_if _ _ _ _ _ _ _ _ (@tu_cmp _ _ _ _ _ _ _ _ (kNotIn (K := K)) (@pe_bl _ _ _ _) (@pe_compB _ _ _ _ _ _ _ (["_law_one", "_law_some"]) 1 [8] _ _ _ _ rfl (@kSeq _ K _ _ _ (@vw _ 5 _ _ (by walk_at "v")) (by rfl)) (by kernel_rfl) rfl rfl (by kernel_rfl) (fun c => @pg_name _ _ 0 _ (show (["_law_one", "_law_some"] : List Str).Nodup by decide +kernel) rfl (by walk_at "e") (by walk_at "i")) (go_name (by decide)) (fun c => @pts_nil _) (fun c => (@pe_cmpM _ _ _ _ _ _ _ _ (kEq (K := K) hu) (@pe_op _ _ _ _ _ _ _ _ om_and (@vw _ 1 _ _ (by walk_at "v")) (@kIx _ K _ _ _ _ _ (@vw _ 0 _ _ (by walk_at "v")) (@pe_int _ _ _ _) (by intro _ _; rfl) (by rfl))) (@vw _ 1 _ _ (by walk_at "v")) (by walk_at "n"))) (by intro _; rfl)) (by walk_at "n")) (@pss_one _ _ _ (@ps_ret _ _ _ _ (@pe_bl _ _ _ _))) (@pss_nil _))) (by intro _; rfl)) (@pss_one _ _ _ (@ps_ret _ _ _ _ (@pe_bl _ _ _ _))))))))))), ?_⟩
  refine seq_at (fun σ H' => σ = [some (.ref tp), some (.int k), some v, some (.int (2 ^ m : Nat)), none, none, none, none, none] /\ H = H') ?_ ?_ (by walk_at "sm")
  . exact ⟨2 ^ m, .inr ⟨_, ht, by rw [List.length_map, hb]⟩, rfl, rfl⟩
  rintro σ _ ⟨rfl, rfl⟩
  rcases h with ⟨d, hd, q⟩ | ⟨da, kvs, rfl, hda, q⟩
  case inr =>
    refine if_val true ?_ (iteT (q _ (Same.refl _)))
    intro Q q
    exact .inr ⟨by decide, false, .inr (.inr (.inl ⟨⟨kvs, hda⟩, rfl⟩)), q⟩
  cases hp : isPairD d with
  | false =>
    rw [nearE_form (formE_not hp)] at q
    refine if_val true ?_ (iteT (q _ (Same.refl _)))
    intro Q q
    refine .inl ⟨by decide, d, hd, ?_⟩
    cases d with
    | tup ds =>
      obtain ⟨p, xs, rfl, hs, hx⟩ := rep_tup_inv hd
      refine ⟨ds.length, .inr ⟨xs, hs, hx.length⟩, ?_⟩
      have hp : (ds.length == 2) = false := hp
      have e0 : (true ^^ (((ds.length : Nat) : Int) == 2)) = true := by
        have : (((ds.length : Nat) : Int) == 2) = false := by
          rw [beq_eq_false_iff_ne] at hp ⊢
          omega
        rw [this]; rfl
      rw [<- e0] at q
      exact q
    | _ => exact q
  | true =>
  obtain ⟨da, db, rfl⟩ : ∃ da db, d = .tup [da, db] := by
    cases d with
    | tup ds =>
      match ds, hp with
      | [da, db], _ => exact ⟨da, db, rfl⟩
    | _ => cases hp
  obtain ⟨a, x0, y0, rfl, ha, rx, ry⟩ := rep_two_inv hd
  refine seq_at (fun σ H' => σ = [some (.ref tp), some (.int k), some (.ref a), some (.int (2 ^ m : Nat)), none, none, none, none, none] /\ H = H') ?_ ?_ (by walk_at "sm")
  . refine if_val false ?_ ?_
    . exact fun Q q => .inl ⟨by decide, _, hd, 2, .inr ⟨_, ha, rfl⟩, q⟩
    . exact iteF ⟨rfl, rfl⟩
  rintro σ _ ⟨rfl, rfl⟩
  refine seq_at (fun σ H' => σ = [some (.ref tp), some (.int k), some (.ref a), some (.int (2 ^ m : Nat)), some x0, some y0, none, none, none] /\ H = H') ?_ ?_ (by walk_at "sm")
  . exact ⟨_, .inr ha, rfl, _, _, rfl, _, _, rfl, rfl, rfl, rfl⟩
  rintro σ _ ⟨rfl, rfl⟩
  have comp : ∀ {es : List Dv} {ys : List V} {pa : Addr} {Q : Bool -> Hp -> Prop}, SqT K H pa ys -> Reps K H es ys -> es.length <= 64 -> (∀ H', Same H H' -> Q ((es.map isBoolD).any not) H') -> CompTurns (Itt K pa) (gName 0) tTrue (tCB (mIsiE K) (tCons (vVar 0) (tCons (tC (V.ty "bool")) tNil))) (cSt 1 [] [some (.ref tp), some (.int k), some (.ref a), some (.int (2 ^ m : Nat)), some (.ref pa), some y0, none, none, none]) (fun y H2 => mIn K false (.bl false) y H2 fun x H1 => isB x fun b => Q b H1) H := by
    intro es ys pa Q hpa hy hl q
    have hyl := hy.length
    refine comp_tup (xs := ys) (fun i zs H' => H' = H /\ zs = ((es.take i).map isBoolD).map V.bl) ⟨rfl, rfl⟩ (fun i zs H' _ ⟨e, _⟩ => by rw [e]; exact hpa) (fun i zs H' hi ⟨_, e⟩ => by
      rw [e, List.length_map, List.length_map, List.length_take]; exact small1000 (by omega)) ?_ ?_
    . rintro i w zs H' hx' ⟨rfl, rfl⟩
      obtain ⟨di, hdi, ri⟩ := reps_get hy hx'
      refine .inl ⟨by decide, di, ri, rfl, ?_⟩
      rw [isTy_bool, List.take_add_one, hdi, List.map_append, List.map_append]
      rfl
    . rintro zs H' ⟨rfl, rfl⟩ l hl
      refine ⟨_, .inl (.of upd_same), rfl, flat_bl _, ?_⟩
      rw [in_false, <- hyl, List.take_length, Bool.false_xor]
      exact q _ (Same.upd hl)
  have lenV : ∀ {es : List Dv} {ys : List V} {pa : Addr}, SqT K H pa ys -> Reps K H es ys -> LenV K (.ref pa) H es.length := fun h1 h2 => .inr ⟨_, h1, h2.length⟩
  cases htm : tabM m da with
  | false =>
    rw [nearE_t htm] at q
    refine if_same true ?_ (fun H' s => iteT (q H' s))
    intro Q q
    refine .inl ⟨by decide, da, rx, ?_⟩
    cases da with
    | tup es =>
      obtain ⟨pa, ys, rfl, hpa, hy⟩ := rep_tup_inv rx
      refine ⟨es.length, lenV hpa hy, ?_⟩
      by_cases hl : es.length = 2 ^ m
      . have htm : (decide (es.length = 2 ^ m) && es.all isBoolD) = false := htm
        rw [decide_eq_true hl, Bool.true_and] at htm
        refine ite2 (fun e => q H (Same.refl _)) (fun e => ?_)
        refine .inr ⟨⟨_, hpa⟩, comp hpa hy (by omega) fun H' s' => ?_⟩
        have e0 : (es.map isBoolD).any not = true := by
          rw [List.any_map, List.any_eq_true]
          rw [List.all_eq_false] at htm
          obtain ⟨x, hx, hn⟩ := htm
          exact ⟨x, hx, by simpa using hn⟩
        rw [e0]
        exact q H' s'
      . have e0 : (true ^^ (((es.length : Nat) : Int) == ((2 ^ m : Nat) : Int))) = true := by
          have : (((es.length : Nat) : Int) == ((2 ^ m : Nat) : Int)) = false := by rw [beq_eq_false_iff_ne]; omega
          rw [this]; rfl
        refine ite2 (fun e => q H (Same.refl _)) (fun e => absurd e0 e)
    | _ => exact q H (Same.refl _)
  | true =>
  obtain ⟨es, rfl⟩ : ∃ es, da = .tup es := by
    cases da with
    | tup es => exact ⟨es, rfl⟩
    | _ => cases htm
  obtain ⟨hel, heb⟩ : es.length = 2 ^ m /\ es.all isBoolD = true := by
    have htm : (decide (es.length = 2 ^ m) && es.all isBoolD) = true := htm
    rw [Bool.and_eq_true] at htm
    exact ⟨of_decide_eq_true htm.1, htm.2⟩
  obtain ⟨ax, xs, rfl, hax, hxr⟩ := rep_tup_inv rx
  refine seq_at (fun σ H' => σ = [some (.ref tp), some (.int k), some (.ref a), some (.int (2 ^ m : Nat)), some (.ref ax), some y0, none, none, none] /\ Same H H') ?_ ?_ (by walk_at "sm")
  . refine if_same false ?_ (fun H' s => iteF ⟨rfl, s⟩)
    intro Q q
    refine .inl ⟨by decide, _, rx, ?_⟩
    refine ⟨es.length, lenV hax hxr, ?_⟩
    refine ite2 (fun e => ?_) (fun e => ?_)
    . rw [hel] at e
      exact absurd e (by simp)
    refine .inr ⟨⟨_, hax⟩, comp hax hxr (by omega) fun H' s' => ?_⟩
    have e0 : (es.map isBoolD).any not = false := by
      rw [List.any_map, List.any_eq_false]
      intro x hx
      have := List.all_eq_true.mp heb x hx
      simp [this]
    rw [e0]
    exact q H' s'
  clear comp lenV
  have een := all_bool heb
  have hol : (es.map getB).length = 2 ^ m := by rw [List.length_map]; exact hel
  have hxx : xs = (es.map getB).map V.bl := reps_blI _ _ (by rw [<- een]; exact hxr)
  subst hxx
  have e3 : ∀ cs : List Dv, nearX m k bs (.tup [.tup es, .tup cs]) = nearB m k bs (es.map getB) (cs.map cvOf) := fun cs => rfl
  generalize hnb : es.map getB = nb at *
  obtain ⟨lb1, lb2⟩ := lead_bound m6 bs nb
  have hll := lead_law m bs nb
  rintro σ H1 ⟨rfl, s1⟩
  have hax1 := s1.sqT hax
  have ry1 := Rep.same s1 _ _ ry
  have ht1 := s1.sqT ht
  have q1 : ∀ H', Same H1 H' -> Q (.bl (nearE m k bs (.tup [.tup es, db]))) H' := fun H' s => q H' (s1.trans s)
  clear q hd ha hax ht ry rx hxr
  refine seq_at (fun σ H' => σ = [some (.ref tp), some (.int k), some (.ref a), some (.int (2 ^ m : Nat)), some (.ref ax), some y0, some (.int (leadF m bs nb)), none, none] /\ Same H1 H') ?_ ?_ (by walk_at "sm")
  . refine ⟨((2 ^ m : Nat) : Int), rfl, by omega, by omega, ?_⟩
    refine comp_range (fun i ys H' => H' = H1 /\ ys = iL (difL nb bs i)) ⟨rfl, rfl⟩ (fun i ys H' hi ⟨_, e⟩ => by
      have := difL_len nb bs i
      rw [e, iL_len]; exact small1000 (by omega)) ?_ ?_
    . rintro i ys H' hi ⟨rfl, rfl⟩
      have hi' : i < 2 ^ m := by omega
      rw [show (0 : Int) + (i : Int) = (i : Int) from Int.zero_add _]
      refine ⟨_, .bl (gB nb i), .inr hax1, gB_at (by omega), _, .bl (gB bs i), .inr ht1, gB_at (by omega), ?_⟩
      refine ite2 (fun e => ?_) (fun e => ?_)
      . have e' : (gB nb i != gB bs i) = true := by
          revert e
          cases gB nb i <;> cases gB bs i <;> simp
        refine ⟨rfl, ?_⟩
        rw [difL_succ, if_pos e', iL_app]
        rfl
      . have e' : ¬ (gB nb i != gB bs i) = true := by
          revert e
          cases gB nb i <;> cases gB bs i <;> simp
        refine ⟨rfl, ?_⟩
        rw [difL_succ, if_neg e', List.append_nil]
    . rintro ys H' ⟨rfl, rfl⟩ l hl
      rw [Int.toNat_natCast]
      refine ⟨(difL nb bs (2 ^ m)).length, .inl ⟨_, .of upd_same, by rw [iL_len]⟩, .inr (.inl ⟨by decide, by decide⟩), ?_⟩
      rw [<- hll]
      exact ⟨rfl, Same.upd hl⟩
  rintro σ H2 ⟨rfl, s2⟩
  have hh64 := hungTo_lt (cntS nb m) m
  have xb : ∀ cs : List Dv, ¬ (manyF m (hungTo (cntS nb m) m) <= k /\ 0 <= leadF m bs nb) -> nearE m k bs (.tup [.tup es, .tup cs]) = false := fun cs h => nearE_x (by rw [e3]; exact nearB_c h)
  by_cases c : manyF m (hungTo (cntS nb m) m) <= k /\ 0 <= leadF m bs nb
  case neg =>
    have e0 : nearE m k bs (.tup [.tup es, db]) = false := by
      cases db with
      | tup cs => exact xb cs c
      | _ => exact nearE_c rfl
    rw [e0] at q1
    generalize hld : leadF m bs nb = ld at *
    generalize hhu : hungTo (cntS nb m) m = hg at *
    refine if_same true ?_ (fun H' s => iteT (q1 H' (s2.trans s)))
    intro Q q
    refine ⟨m, nb, s2.sqT hax1, hol, m6, fun H3 s3 => ?_⟩
    rw [hhu]
    refine ⟨_, rfl, by omega, ?_⟩
    rw [many_of hh64 (by omega)]
    refine ite2 (fun _ => q H3 s3) (fun e => ?_)
    have h1 : ¬ ((k : Nat) : Int) < ((manyF m hg : Nat) : Int) := fun z => e (decide_eq_true z)
    refine ite2 (fun _ => q H3 s3) (fun e => ?_)
    have h2 : ¬ ld < 0 := fun z => e (decide_eq_true z)
    exact absurd ⟨by omega, by omega⟩ c
  have pre : ∀ {Q : Bool -> Hp -> Prop}, (∀ H3, Same H2 H3 -> ((tOr (tNot (uB (tCB (mIsiE K) (tCons (vVar 5) (tCons (tC (V.ty "tuple")) tNil))))) (uB (tOp (mCmp fun i j => decide (j < i)) (tCB (mLen K) (tCons (vVar 5) tNil)) (tC (V.int 64))))) [some (.ref tp), some (.int k), some (.ref a), some (.int (2 ^ m : Nat)), some (.ref ax), some y0, some (.int (leadF m bs nb)), none, none] H3 Q)) ->
      (tOr (uB (tOp (mCmp fun i j => decide (j < i)) (tCall sp_many [] E0 (tCons (tCall (sp_hung K) [] E0 (tCons (vVar 4) tNil)) tNil)) (vVar 1))) (tOr (uB (tOp (mCmp fun i j => decide (i < j)) (vVar 6) (tC (V.int 0)))) (tOr (tNot (uB (tCB (mIsiE K) (tCons (vVar 5) (tCons (tC (V.ty "tuple")) tNil))))) (uB (tOp (mCmp fun i j => decide (j < i)) (tCB (mLen K) (tCons (vVar 5) tNil)) (tC (V.int 64))))))) [some (.ref tp), some (.int k), some (.ref a), some (.int (2 ^ m : Nat)), some (.ref ax), some y0, some (.int (leadF m bs nb)), none, none] H2 Q := by
    intro Q q
    refine ⟨m, nb, s2.sqT hax1, hol, m6, fun H3 s3 => ?_⟩
    refine ⟨_, rfl, by omega, ?_⟩
    rw [many_of hh64 (by omega)]
    refine ite2 (fun e => ?_) (fun _ => ?_)
    . have : ((k : Nat) : Int) < ((manyF m (hungTo (cntS nb m) m) : Nat) : Int) := of_decide_eq_true e
      omega
    refine ite2 (fun e => ?_) (fun _ => q H3 s3)
    have : leadF m bs nb < 0 := of_decide_eq_true e
    omega
  cases db with
  | tup cs =>
    obtain ⟨ay, ys, rfl, hay1, hR1⟩ := rep_tup_inv ry1
    have hyl := hR1.length
    by_cases hc64 : cs.length <= 64
    case neg =>
      have e0 : covsB m (.tup cs) = false := by
        show (decide (cs.length <= 64) && _) = false
        rw [decide_eq_false hc64, Bool.false_and]
      rw [nearE_c e0] at q1
      refine if_same true ?_ (fun H' s => iteT (q1 H' (s2.trans s)))
      intro Q q
      refine pre fun H3 s3 => ?_
      have s23 := s2.trans s3
      refine .inl ⟨by decide, _, Rep.same s23 _ _ ry1, _, .inr ⟨_, s23.sqT hay1, rfl⟩, ?_⟩
      have e1 : decide ((64 : Int) < ((ys.length : Nat) : Int)) = true := decide_eq_true (by omega)
      have q' := q H3 s3
      rw [<- e1] at q'
      exact q'
    refine seq_at (fun σ H' => σ = [some (.ref tp), some (.int k), some (.ref a), some (.int (2 ^ m : Nat)), some (.ref ax), some (.ref ay), some (.int (leadF m bs nb)), none, none] /\ Same H1 H') ?_ ?_ (by walk_at "sm")
    . refine if_same false ?_ (fun H' s => iteF ⟨rfl, s2.trans s⟩)
      intro Q q
      refine pre fun H3 s3 => ?_
      have s23 := s2.trans s3
      refine .inl ⟨by decide, _, Rep.same s23 _ _ ry1, _, .inr ⟨_, s23.sqT hay1, rfl⟩, ?_⟩
      have e1 : decide ((64 : Int) < ((ys.length : Nat) : Int)) = false := decide_eq_false (by omega)
      have q' := q H3 s3
      rw [<- e1] at q'
      exact q'
    clear pre s2
    rintro σ H2 ⟨rfl, s2⟩
    refine seq_at (fun σ H' => (∃ z7 : Option V, σ = [some (.ref tp), some (.int k), some (.ref a), some (.int (2 ^ m : Nat)), some (.ref ax), some (.ref ay), some (.int (leadF m bs nb)), z7, none]) /\ Same H1 H' /\ cs.all (plD m) = true /\ ((cs.map cvOf).all fun c => soE m (wt m (valF bs)) (leadF m bs nb) c.1 c.2) = true) ?_ ?_ (by walk_at "sm")
    . refine .inr ⟨⟨_, s2.sqT hay1⟩, ?_⟩
      refine for_tup (xs := ys) (fun i σ H' => (∃ z7 : Option V, σ = [some (.ref tp), some (.int k), some (.ref a), some (.int (2 ^ m : Nat)), some (.ref ax), some (.ref ay), some (.int (leadF m bs nb)), z7, none]) /\ Same H1 H' /\ (cs.take i).all (plD m) = true /\ (((cs.take i).map cvOf).all fun c => soE m (wt m (valF bs)) (leadF m bs nb) c.1 c.2) = true) ⟨⟨none, rfl⟩, s2, rfl, rfl⟩ (fun i σ H' _ ⟨_, s, _⟩ => s.sqT hay1) ?_ ?_
      . rintro i y σ H3 hy ⟨⟨z7, rfl⟩, s3, hall1, hall2⟩
        obtain ⟨c0, hc0, rc0⟩ := reps_get hR1 hy
        have rc := Rep.same s3 _ _ rc0
        have hmem := List.mem_of_getElem? hc0
        dsimp only [gName]
        refine seq_at (fun σ H' => σ = [some (.ref tp), some (.int k), some (.ref a), some (.int (2 ^ m : Nat)), some (.ref ax), some (.ref ay), some (.int (leadF m bs nb)), some y, none] /\ H3 = H' /\ plD m c0 = true) ?_ ?_ (by walk_at "sm")
        . have ev : ∀ Q : Bool -> Hp -> Prop, Q (!plD m c0) H3 -> (tOr (tNot (uB (tCB (mIsiE K) (tCons (vVar 7) (tCons (tC (V.ty "tuple")) tNil))))) (tOr (uB (tOp (mEq true K) (tCB (mLen K) (tCons (vVar 7) tNil)) (tC (V.int 2)))) (tNot (uB (tCall (sp_belowD K) [] E0 (tCons (vVar 3) (tCons (tOp (mIx K) (vVar 7) (tC (V.int 0))) tNil))))))) [some (.ref tp), some (.int k), some (.ref a), some (.int (2 ^ m : Nat)), some (.ref ax), some (.ref ay), some (.int (leadF m bs nb)), some y, none] H3 Q := by
            intro Q q
            refine .inl ⟨by decide, c0, rc, ?_⟩
            cases c0 with
            | tup ds =>
              by_cases h2 : ds.length = 2
              . match ds, h2 with
                | [ca, cb], _ =>
                obtain ⟨pc, u0, u1, rfl, hc2, r0, r1⟩ := rep_two_inv rc
                exact ⟨2, .inr ⟨_, hc2, rfl⟩, _, _, .inr hc2, rfl, ca, r0, q⟩
              . obtain ⟨pc, us, rfl, hpc, hu2⟩ := rep_tup_inv rc
                have e0 : plD m (.tup ds) = false := by
                  match ds, h2 with
                  | [], _ => rfl
                  | [_], _ => rfl
                  | [_, _], h => exact absurd rfl h
                  | _ :: _ :: _ :: _, _ => rfl
                rw [e0] at q
                refine ⟨ds.length, .inr ⟨us, hpc, hu2.length⟩, ?_⟩
                refine ite2 (fun e => q) (fun e => ?_)
                exact absurd (show (true ^^ (((ds.length : Nat) : Int) == 2)) = true by simp; omega) e
            | _ => exact q
          cases hpl : plD m c0 with
          | true =>
            rw [hpl] at ev
            exact if_val false ev (iteF ⟨rfl, rfl, rfl⟩)
          | false =>
            rw [hpl] at ev
            refine if_val true ev (iteT ?_)
            have e0 : covsB m (.tup cs) = false := by
              show (_ && cs.all (plD m)) = false
              have : cs.all (plD m) = false := by
                rw [List.all_eq_false]
                exact ⟨c0, hmem, by rw [hpl]; decide⟩
              rw [this, Bool.and_false]
            rw [nearE_c e0] at q1
            exact q1 H3 s3
        rintro σ _ ⟨rfl, rfl, hpl⟩
        obtain ⟨ec, hc2⟩ := plD_inv hpl
        have hmem2 : cvOf c0 ∈ cs.map cvOf := List.mem_map.mpr ⟨c0, hmem, rfl⟩
        rw [ec] at rc
        have et1 : (cs.take (i + 1)).all (plD m) = true := by rw [List.take_add_one, hc0, List.all_append, hall1]; simp [hpl]
        have et2 : ∀ b, soE m (wt m (valF bs)) (leadF m bs nb) (cvOf c0).1 (cvOf c0).2 = b -> (((cs.take (i + 1)).map cvOf).all fun c => soE m (wt m (valF bs)) (leadF m bs nb) c.1 c.2) = b := fun b hb => by
          rw [List.take_add_one, hc0, List.map_append, List.all_append, hall2]; simp [hb]
        generalize cvOf c0 = c1 at *
        obtain ⟨pc, u0, u1, rfl, hcv, r0, r1⟩ := rep_two_inv rc
        unfold Rep at r0
        subst r0
        refine if_same (!soE m (wt m (valF bs)) (leadF m bs nb) c1.1 c1.2) ?_ ?_
        . intro Q q
          refine ⟨_, _, .inr hcv, atI_of (n := 1) rfl rfl, .inl ⟨by decide, c1.2, r1, ?_⟩⟩
          cases hst : isStrD c1.2 with
          | false =>
            have e1 : isTy (tyD c1.2) "str" = false := by rw [isTy_str]; exact hst
            have e2 : soE m (wt m (valF bs)) (leadF m bs nb) c1.1 c1.2 = false := by
              generalize c1.2 = dd at *
              cases dd <;> first | rfl | cases hst
            rw [e2] at q
            rw [e1]
            exact q H3 (Same.refl _)
          | true =>
            obtain ⟨x, ex⟩ : ∃ x, c1.2 = .str x := by
              generalize c1.2 = dd at *
              cases dd with
              | str x => exact ⟨x, rfl⟩
              | _ => cases hst
            rw [ex] at r1 q ⊢
            unfold Rep at r1
            subst r1
            exact ⟨_, _, .inr hcv, atI_of (n := 0) rfl rfl, _, _, .inr hcv, atI_of (n := 1) rfl rfl, m, c1.1, bs, s3.sqT ht1, hb, m1, m6, rfl, hc2, lb1, lb2, q⟩
        . intro H' s
          cases hso : soE m (wt m (valF bs)) (leadF m bs nb) c1.1 c1.2 with
          | true => exact iteF ⟨⟨_, rfl⟩, s3.trans s, et1, et2 _ hso⟩
          | false =>
            refine iteT ?_
            rw [nearE_x (by rw [e3]; exact nearB_s hmem2 hso)] at q1
            exact q1 H' (s3.trans s)
      . rintro σ H3 ⟨h1, h2, h3, h4⟩
        rw [<- hyl, List.take_length] at h3 h4
        exact ⟨h1, h2, h3, h4⟩
    clear s2
    rintro σ H2 ⟨⟨z7, rfl⟩, s2, hall1, hall⟩
    obtain ⟨ecs, hcs⟩ := all_cov hall1
    have e4 : nearE m k bs (.tup [.tup es, .tup cs]) = coversB m k (cs.map cvOf) := by
      have e5 : formE m (.tup [.tup es, .tup cs]) = true := by
        show ((decide (es.length = 2 ^ m) && es.all isBoolD) && (decide (cs.length <= 64) && cs.all (plD m))) = true
        rw [decide_eq_true hel, heb, decide_eq_true hc64, hall1]; rfl
      unfold nearE
      rw [e5, Bool.true_and, e3]
      unfold nearB
      rw [decide_eq_true c, Bool.true_and, hall, Bool.and_true]
    rw [e4] at q1
    rw [ecs] at hR1
    have hyl2 : (cs.map cvOf).length = ys.length := by rw [List.length_map]; exact hyl
    generalize cs.map cvOf = cs' at *
    generalize leadF m bs nb = ld at *
    have hbits := bits_pow m (by omega)
    have hsl := setL_len m (min m k) (2 ^ m)
    unfold coversB at q1
    refine seq_at (fun σ H' => (∃ z7 z8 : Option V, σ = [some (.ref tp), some (.int k), some (.ref a), some (.int (2 ^ m : Nat)), some (.ref ax), some (.ref ay), some (.int ld), z7, z8]) /\ Same H1 H' /\ ((setL m (min m k) (2 ^ m)).all fun s => cs'.any fun c => decide (s &&& c.1 = s)) = true) ?_ ?_ (by walk_at "sm")
    . refine ⟨rfl, ?_⟩
      dsimp only [mBitlen, tC, mSub]
      rw [hbits]
      rw [show ((m + 1 : Nat) : Int) - 1 = (m : Int) by omega]
      refine ⟨m, k, rfl, rfl, m6, fun l H3 hl s3 g3 => .inl ⟨⟨_, .of g3⟩, ?_⟩⟩
      generalize setL m (min m k) (2 ^ m) = ss at *
      refine for_list (D := { nx := fun σ H' => (∃ z7 z8 : Option V, σ = [some (.ref tp), some (.int k), some (.ref a), some (.int (2 ^ m : Nat)), some (.ref ax), some (.ref ay), some (.int ld), z7, z8]) /\ Same H1 H' /\ (ss.all fun s => cs'.any fun c => decide (s &&& c.1 = s)) = true, rt := Q }) (xs := iL ss) (fun i σ H' => (∃ z8 : Option V, σ = [some (.ref tp), some (.int k), some (.ref a), some (.int (2 ^ m : Nat)), some (.ref ax), some (.ref ay), some (.int ld), z7, z8]) /\ Same H3 H' /\ ((ss.take i).all fun s => cs'.any fun c => decide (s &&& c.1 = s)) = true) ⟨⟨none, rfl⟩, Same.refl _, rfl⟩ (fun i σ H' _ ⟨_, s, _⟩ => .of (s _ _ g3)) ?_ ?_
      . rintro i y σ H4 hy ⟨⟨z8, rfl⟩, s4, hcov⟩
        obtain ⟨c, hc, hcm, rfl⟩ := iL_at hy
        have s24 := s2.trans (s3.trans s4)
        dsimp only [gName]
        refine if_same (!(cs'.any fun d => decide (c &&& d.1 = c))) ?_ ?_
        . intro Q q
          refine .inr ⟨⟨_, s24.sqT hay1⟩, ?_⟩
          refine comp_tup (xs := ys) (fun i zs H' => H' = H4 /\ zs = ((cs'.take i).map fun d => decide (c &&& d.1 = c)).map V.bl) ⟨rfl, rfl⟩ (fun i zs H' _ ⟨e, _⟩ => by rw [e]; exact s24.sqT hay1) (fun i zs H' hi ⟨_, e⟩ => by
            rw [e, List.length_map, List.length_map, List.length_take]; exact small1000 (by omega)) ?_ ?_
          . rintro j y zs H' hy ⟨rfl, rfl⟩
            obtain ⟨b, d, xv, hd, rfl, hb1, _⟩ := cov_at hR1 hy
            have ek : Builtin.bitAnd (c : Int) (d.1 : Int) = ((c &&& d.1 : Nat) : Int) := bitAnd_nat c d.1
            refine ⟨_, _, .inr (s24.sqT hb1), atI_of (n := 0) rfl rfl, rfl, ?_⟩
            rw [List.take_add_one, hd, List.map_append, List.map_append]
            congr 1
            show [V.bl _] = [V.bl (decide (c &&& d.1 = c))]
            congr 2
            rw [ek, Bool.eq_iff_iff]
            simp only [Bool.false_xor, beq_iff_eq, decide_eq_true_eq]
            omega
          . rintro zs H' ⟨rfl, rfl⟩ l2 hl2
            refine ⟨_, .inl (.of upd_same), rfl, flat_bl _, ?_⟩
            rw [in_true, <- hyl2, List.take_length, List.any_map, Bool.true_xor]
            exact q _ (Same.upd hl2)
        . intro H' s
          cases hso : (cs'.any fun d => decide (c &&& d.1 = c)) with
          | true =>
            refine iteF ⟨⟨_, rfl⟩, s4.trans s, ?_⟩
            rw [List.take_add_one, hc, List.all_append, hcov]
            simp only [Option.toList_some, List.all_cons, List.all_nil, Bool.and_true, Bool.true_and]
            exact hso
          | false =>
            refine iteT ?_
            have e0 : (ss.all fun s => cs'.any fun c => decide (s &&& c.1 = s)) = false := by
              rw [List.all_eq_false]
              exact ⟨c, hcm, by rw [hso]; decide⟩
            have := q1 H' (s24.trans s)
            rw [e0] at this
            exact this
      . rintro σ H4 ⟨⟨z8, rfl⟩, s4, hcov⟩
        rw [iL_len, List.take_length] at hcov
        exact ⟨⟨_, _, rfl⟩, s2.trans (s3.trans s4), hcov⟩
    . rintro σ H4 ⟨⟨_, _, rfl⟩, s4, hcov⟩
      have := q1 H4 s4
      rw [hcov] at this
      exact this
  | _ =>
    rw [nearE_c rfl] at q1
    refine if_same true ?_ (fun H' s => iteT (q1 H' (s2.trans s)))
    intro Q q
    refine pre fun H3 s3 => ?_
    exact .inl ⟨by decide, _, Rep.same (s2.trans s3) _ _ ry1, q H3 s3⟩
def covD (c : Nat × Str) : Dv := .tup [.int c.1, .str c.2]
def papD (nb : List Bool) (cs : List (Nat × Str)) : Dv := .tup [.tup (nb.map Dv.bl), .tup (cs.map covD)]
theorem tups_bl : ∀ bs : List Bool, tupsOnly (bs.map Dv.bl) = true
  | [] => rfl
  | b :: bs => by rw [List.map_cons]; unfold tupsOnly; rw [tups_bl bs]; rfl
def Nr (K : W.Frag) (H : Hp) (m : Nat) (v : V) : Prop := ∃ nb : List Bool, nb.length = 2 ^ m /\ Rep K H (.tup (nb.map Dv.bl)) v
theorem Nr.same {H H' : Hp} {m : Nat} {v : V} (h : Nr K H m v) (s : Same H H') : Nr K H' m v := let ⟨nb, h1, h2⟩ := h; ⟨nb, h1, Rep.same s _ _ h2⟩
theorem Nr.at_ {H : Hp} {m : Nat} {v : V} (h : Nr K H m v) : ∃ (q : Addr) (nb : List Bool), v = .ref q /\ nb.length = 2 ^ m /\ SqT K H q (nb.map V.bl) := by
  obtain ⟨nb, h1, h2⟩ := h
  obtain ⟨q, xs, rfl, hs, hx⟩ := rep_tup_inv h2
  obtain rfl := reps_blI nb xs hx
  exact ⟨q, nb, rfl, h1, hs⟩
def okT (x : Str) : Prop := x = ("whole" : Str) \/ x = ("weights" : Str)
theorem tups_cov : ∀ cs : List (Nat × Str), tupsOnly (cs.map covD) = true
  | [] => rfl
  | c :: cs => by rw [List.map_cons]; unfold tupsOnly; rw [tups_cov cs]; rfl
structure Cov (K : W.Frag) (H : Hp) (l : Addr) (m n : Nat) : Prop where
  at_ : ∃ (cs : List (Nat × Str)) (ys : List V), H l = some (.lst ys) /\ Reps K H (cs.map covD) ys /\ cs.length = n /\ ∀ c ∈ cs, c.1 < 2 ^ m /\ okT c.2
theorem Cov.same {H H' : Hp} {l : Addr} {m n : Nat} (C : Cov K H l m n) (s : Same H H') : Cov K H' l m n :=
  let ⟨cs, ys, h1, h2, h3, h4⟩ := C.at_; ⟨cs, ys, s _ _ h1, Reps.same s _ _ h2, h3, h4⟩
theorem reps_put {H : Hp} {l : Addr} {o : HO} {ds : List Dv} {ys : List V} (hl : ∃ zs, H l = some (.lst zs)) (hd : tupsOnly ds = true) (h : Reps K H ds ys) : Reps K (upd H l o) ds ys := Reps.frm Frm.updT hl _ _ hd h
theorem Cov.len {H : Hp} {l : Addr} {m n : Nat} (C : Cov K H l m n) : ∃ ys, H l = some (.lst ys) /\ ys.length = n :=
  let ⟨cs, ys, h1, h2, h3, _⟩ := C.at_; ⟨ys, h1, by have := h2.length; rw [List.length_map] at this; omega⟩
theorem Cov.app {H : Hp} {l p : Addr} {m n : Nat} {ys : List V} (c : Nat × Str) (C : Cov K H l m n) (hy : H l = some (.lst ys)) (hp : SqT K H p [.int (c.1 : Int), .str c.2]) (hc : c.1 < 2 ^ m /\ okT c.2) : Cov K (upd H l (.lst (ys ++ [.ref p]))) l m (n + 1) := by
  obtain ⟨cs, ys', h1, h2, h3, h4⟩ := C.at_
  rw [hy] at h1
  cases h1
  refine ⟨cs ++ [c], ys ++ [.ref p], upd_same, ?_, by rw [List.length_append, h3]; rfl, fun x hx => ?_⟩
  . refine reps_put ⟨_, hy⟩ (tups_cov _) ?_
    rw [List.map_append]
    exact h2.append (reps_cons (rep_tup2 hp (reps_cons rep_int (reps_cons rep_str reps_nil))) reps_nil)
  . rcases List.mem_append.mp hx with h' | h'
    . exact h4 x h'
    . rw [List.mem_singleton] at h'; subst h'; exact hc
theorem two_words {H : Hp} {d : Int} (h0 : 0 <= d) (h1 : d < 2) : ∃ x : Str, atI [V.str ("whole" : Str), .str ("weights" : Str)] d = some (.str x) /\ okT x := by
  have : d = 0 \/ d = 1 := by omega
  rcases this with e | e <;> subst e
  . exact ⟨_, rfl, .inl rfl⟩
  . exact ⟨_, atI_of (n := 1) rfl rfl, .inr rfl⟩
def sp_fair (K : W.Frag) : Sp := fun vs H Q _ => match vs with
  | [.ref tp, .int z] => ∃ (m k : Nat) (bs : List Bool), SqT K H tp (bs.map V.bl) /\ bs.length = 2 ^ m /\ 1 <= m /\ m <= 6 /\ z = k /\ ∀ v nb cs H', Same H H' -> nb.length = 2 ^ m -> Rep K H' (papD nb cs) v -> 1 <= cs.length -> cs.length <= 64 -> (∀ c ∈ cs, c.1 < 2 ^ m /\ okT c.2) -> Q v H'
  | _ => False
theorem sp_fair_mono : SpMono (sp_fair K) := fun vs H Q Q' E h q => by
  unfold sp_fair at *
  split at q
  . revert q; repeat' first | exact h _ _ | exact newL_mono h | walk_at "m"
  . exact q.elim
theorem ok__law_fair : FnOk P w K mg base CX0 4 T.f__law_fair T.d__law_fair ["_law_table_here", "_law_k"] (sp_fair K) := by
  have G__law_nearest := ok__law_nearest (P := P) (w := w) (base := base) T; have G__law_sets := ok__law_sets (P := P) (w := w) (base := base) T; have G__law_reason := ok__law_reason (P := P) (w := w) (base := base) T
  refine T.F__law_fair.ok sc__law_fair (fun vs H Q E h => by unfold sp_fair at h; split at h <;> first | rfl | exact h.elim) (fun cdv A outer s H vs Q E hr h => ?_)
  have hu := hu60 hr
  have mo1 : SpMono (sp_lnear K) := sp_lnear_mono
  have mo2 : SpMono (sp_reason K) := sp_reason_mono
  have mo5 : SpMono sp_sets := sp_sets_mono
  have hr__law_nearest := hr.mono (show 3 <= _ by decide); have hr__law_sets := hr.mono (show 2 <= _ by decide); have hr__law_reason := hr.mono (show 2 <= _ by decide)
  match vs, h with
  | [.ref tp, .int z], h =>
  obtain ⟨m, k, bs, ht, hb, m1, m6, e1, q⟩ := h
  subst e1
  have h64 : 2 ^ m <= 64 := Nat.pow_le_pow_right (n := 2) (by decide) m6
  have hbits := bits_pow m (by omega)
  refine ⟨_, (@pss_cons _ _ _ _ _ (@ps_asg _ _ _ _ _ _ (@pe_call _ _ _ _ _ _ _ _ _ _ _ _ _ _ _ _ G__law_nearest hr__law_nearest rfl T.m__law_nearest T.F__law_nearest.kp T.b__law_nearest .nil pass0 (@pa_cons _ _ _ _ _ (@vw _ 0 _ _ (by walk_at "v")) (@pa1 _ _ _ (@vw _ 1 _ _ (by walk_at "v")) (by rfl)) (by rfl)) (by decide) (by rfl) (by rfl)) (@kTupA _ K _ _ _ _ 2 rfl (@pgs_cons _ _ _ _ _ (@pg_name _ _ 2 _ sc__law_fair.nd rfl (by walk_at "e") (by walk_at "i")) (@pgs_cons _ _ _ _ _ (@pg_name _ _ 3 _ sc__law_fair.nd rfl (by walk_at "e") (by walk_at "i")) (@pgs_nil _) (by rfl)) (by rfl)) (by rfl) (by rfl) (by rfl)) (by rfl) (by rfl) (by rfl)) (@pss_cons _ _ _ _ _ (@ps_set _ _ 4 _ _ _ _ sc__law_fair.nd rfl (by walk_at "e") (@pe_op _ _ _ _ _ _ _ _ om_sub (@pe_callB _ _ _ _ _ _ _ _ _ (kLen (K := K)) rfl T.z_len (by rfl) (@pa1 _ _ _ (@vw _ 0 _ _ (by walk_at "v")) (by rfl)) (by decide) (by decide) (by rfl) (by rfl)) (@pe_op _ _ _ _ _ _ _ _ om_mul (@pe_int _ _ _ _) (@vw _ 3 _ _ (by walk_at "v")))) (by rfl) (by walk_at "i")) (@pss_cons _ _ _ _ _ (@ps_set _ _ 5 _ _ _ _ sc__law_fair.nd rfl (by walk_at "e") (@pe_lst _ _ _ _ (@pa_nil _)) (by rfl) (by walk_at "i")) (@pss_cons _ _ _ _ _ (@ps_for _ _ _ _ _ _ _ _ PassesOwn.never rfl (@kSeq _ K _ _ _ (@pe_call _ _ _ _ _ _ _ _ _ _ _ _ _ _ _ _ G__law_sets hr__law_sets rfl T.m__law_sets T.F__law_sets.kp T.b__law_sets .nil pass0 (@pa_cons _ _ _ _ _ (@pe_op _ _ _ _ _ _ _ _ om_sub (@kBitlen _ K _ _ _ _ (@pe_callB _ _ _ _ _ _ _ _ _ (kLen (K := K)) rfl T.z_len (by rfl) (@pa1 _ _ _ (@vw _ 0 _ _ (by walk_at "v")) (by rfl)) (by decide) (by decide) (by rfl) (by rfl)) (by rfl) (by rfl) (by rfl)) (@pe_int _ _ _ _)) (@pa1 _ _ _ (@vw _ 1 _ _ (by walk_at "v")) (by rfl)) (by rfl)) (by decide) (by rfl) (by rfl)) (by rfl)) (@pg_name _ _ 6 _ sc__law_fair.nd rfl (by walk_at "e") (by walk_at "i")) (@pss_cons _ _ _ _ _ (@ps_set _ _ 7 _ _ _ _ sc__law_fair.nd rfl (by walk_at "e") (@pe_call _ _ _ _ _ _ _ _ _ _ _ _ _ _ _ _ G__law_reason hr__law_reason rfl T.m__law_reason T.F__law_reason.kp T.b__law_reason .nil pass0 (@pa_cons _ _ _ _ _ (@vw _ 0 _ _ (by walk_at "v")) (@pa_cons _ _ _ _ _ (@vw _ 4 _ _ (by walk_at "v")) (@pa_cons _ _ _ _ _ (@vw _ 6 _ _ (by walk_at "v")) (@pa1 _ _ _ (@pe_str _ _ _ _) (by rfl)) (by rfl)) (by rfl)) (by rfl)) (by decide) (by rfl) (by rfl)) (by rfl) (by walk_at "i")) (@pss_one _ _ _ (@ps_expr _ _ _ _ (@kAppend _ K _ _ _ _ _ _ (@vw _ 5 _ _ (by walk_at "v")) (@pa1 _ _ _ (@pe_tup _ _ _ _ _ (@pa_cons _ _ _ _ _ (@vw _ 6 _ _ (by walk_at "v")) (@pa1 _ _ _ (@kIx _ K _ _ _ _ _ (@pe_lst _ _ _ _ (@pa_cons _ _ _ _ _ (@pe_str _ _ _ _) (@pa1 _ _ _ (@pe_str _ _ _ _) (by rfl)) (by rfl))) (@pe_callTy _ _ _ _ _ _ _ _ _ cm_int rfl T.z_int (by rfl) (@pa1 _ _ _ (@vw _ 7 _ _ (by walk_at "v")) (by rfl)) (by decide) (by decide) (by rfl) (by rfl)) (by intro _ _; rfl) (by rfl)) (by rfl)) (by rfl))) (by rfl)) (by rfl) (by rfl) (by rfl) (by rfl) (by rfl) (by rfl)) (by rfl)))) (by intro _; rfl)) (@pss_one _ _ _ (@ps_ret _ _ _ _ (@pe_tup _ _ _ _ _ (@pa_cons _ _ _ _ _ (@vw _ 2 _ _ (by walk_at "v")) (@pa1 _ _ _ (@pe_callTy _ _ _ _ _ _ _ _ _ (kTuple (K := K)) rfl T.z_tuple (by rfl) (@pa1 _ _ _ (@vw _ 5 _ _ (by walk_at "v")) (by rfl)) (by decide) (by decide) (by rfl) (by rfl)) (by rfl)) (by rfl))))))))), ?_⟩
  refine ⟨m, k, bs, ht, hb, m6, rfl, fun u H1 s1 r1 => ?_⟩
  have hol := bestB_len m (wt m (valF bs)) (nearO m k bs (nearN m k))
  unfold nearD bestD at r1
  generalize bestB m (wt m (valF bs)) (nearO m k bs (nearN m k)) = nb at *
  obtain ⟨pu, x0, x1, rfl, hpu, r0, r2⟩ := rep_two_inv r1
  unfold Rep at r2
  subst r2
  have hdl := difL_len nb bs (2 ^ m)
  generalize (difL nb bs (2 ^ m)).length = df at *
  refine ⟨_, .inr hpu, rfl, _, _, rfl, _, _, rfl, rfl, ?_⟩
  dsimp only [gName]
  refine seq_at (fun σ H' => σ = [some (.ref tp), some (.int k), some x0, some (.int (df : Int)), some (.int (((2 ^ m : Nat) : Int) - 2 * (df : Int))), none, none, none] /\ H1 = H') ?_ ?_ (by walk_at "sm")
  . exact ⟨2 ^ m, .inr ⟨_, s1.sqT ht, by rw [List.length_map, hb]⟩, .inr (.inl ⟨by decide, by decide⟩), rfl, rfl⟩
  rintro σ _ ⟨rfl, rfl⟩
  refine ⟨Nat.zero_le _, fun l hl => ?_⟩
  have s2 := Same.upd (o := .lst []) hl
  have g2 := upd_same (H := H1) (a := l) (o := .lst [])
  dsimp only [gName]
  generalize L2.upd H1 l (.lst []) = H2 at *
  have C2 : Cov K H2 l m 0 := ⟨[], [], g2, reps_nil, rfl, fun c hc => by cases hc⟩
  have hsl := setL_len m (min m k) (2 ^ m)
  have hsn := setL_ne m k
  refine seq_at (fun σ H' => (∃ z6 z7 : Option V, σ = [some (.ref tp), some (.int k), some x0, some (.int (df : Int)), some (.int (((2 ^ m : Nat) : Int) - 2 * (df : Int))), some (.ref l), z6, z7]) /\ Same H1 H' /\ Cov K H' l m (setL m (min m k) (2 ^ m)).length) ?_ ?_ (by walk_at "sm")
  . refine ⟨2 ^ m, .inr ⟨_, (s1.trans s2).sqT ht, by rw [List.length_map, hb]⟩, rfl, ?_⟩
    dsimp only [mBitlen, tC, mSub]
    rw [hbits, show ((m + 1 : Nat) : Int) - 1 = (m : Int) by omega]
    refine ⟨m, k, rfl, rfl, m6, fun ls H6 hls s6 g6 => .inl ⟨⟨_, .of g6⟩, ?_⟩⟩
    have nll : ls ≠ l := fun e => by rw [e, g2] at hls; cases hls
    have hmem := fun {x : Nat} (h : x ∈ setL m (min m k) (2 ^ m)) => setL_mem h
    generalize setL m (min m k) (2 ^ m) = ss at *
    refine for_list (D := { nx := fun σ H' => (∃ z6 z7 : Option V, σ = [some (.ref tp), some (.int k), some x0, some (.int (df : Int)), some (.int (((2 ^ m : Nat) : Int) - 2 * (df : Int))), some (.ref l), z6, z7]) /\ Same H1 H' /\ Cov K H' l m ss.length, rt := Q }) (xs := iL ss) (fun i σ H' => (∃ z6 z7 : Option V, σ = [some (.ref tp), some (.int k), some x0, some (.int (df : Int)), some (.int (((2 ^ m : Nat) : Int) - 2 * (df : Int))), some (.ref l), z6, z7]) /\ Same H1 H' /\ Cov K H' l m i /\ H' ls = some (.lst (iL ss))) ⟨⟨none, none, rfl⟩, s2.trans s6, C2.same s6, g6⟩ (fun i σ H' _ ⟨_, _, _, e⟩ => .of e) ?_ ?_
    . rintro i y σ H7 hy ⟨⟨z6, z7, rfl⟩, s7, C7, g7⟩
      obtain ⟨c, hc, hcm, rfl⟩ := iL_at hy
      have hi : i < ss.length := (List.getElem?_eq_some_iff.mp hc).1
      have hc2 : c < 2 ^ m := hmem hcm
      dsimp only [gName]
      refine ⟨m, c, bs, (s1.trans s7).sqT ht, hb, m1, m6, rfl, hc2, by omega, by omega, fun H8 s8 => ?_⟩
      dsimp only [gName]
      generalize soB m (wt m (valF bs)) (((2 ^ m : Nat) : Int) - 2 * (df : Int)) c (Str.ofString "weights") = bb
      have C8 := C7.same s8
      obtain ⟨ys, hys, hyl⟩ := C8.len
      refine ⟨.inl ⟨rfl, _, .of hys⟩, small_le (show 2 <= 1000 by decide), fun p1 n1 => ?_⟩
      have s9 := Same.upd (o := .lst [.str (Str.ofString "whole"), .str (Str.ofString "weights")]) n1
      have g9 := upd_same (H := H8) (a := p1) (o := .lst [.str (Str.ofString "whole"), .str (Str.ofString "weights")])
      generalize L2.upd H8 p1 (.lst [.str (Str.ofString "whole"), .str (Str.ofString "weights")]) = H9 at *
      obtain ⟨x, hx, ox⟩ := two_words (H := H9) (d := if bb = true then 1 else 0) (by cases bb <;> decide) (by cases bb <;> decide)
      refine ⟨_, _, .inl (.of g9), hx, small_le (show 2 <= 1000 by decide), fun p2 n2 => ?_⟩
      have s10 := Same.upd (o := .tup [.int (c : Int), .str x]) n2
      have g10 := upd_same (H := H9) (a := p2) (o := .tup [.int (c : Int), .str x])
      generalize L2.upd H9 p2 (.tup [.int (c : Int), .str x]) = H10 at *
      have s810 := s9.trans s10
      have C10 := C8.same s810
      refine ⟨ys, s810 _ _ hys, small1000 (by omega), ⟨_, _, rfl⟩, same_put (s7.trans (s8.trans s810)) hl, C10.app (c, x) (s810 _ _ hys) (.of g10) ⟨hc2, ox⟩, by rw [upd_ne nll]; exact (s8.trans s810) _ _ g7⟩
    . rintro σ H7 ⟨h1, h2, h3, _⟩
      rw [iL_len] at h3
      exact ⟨h1, h2, h3⟩
  generalize (setL m (min m k) (2 ^ m)).length = n at *
  rintro σ H5 ⟨⟨z6, z7, rfl⟩, s5, C5⟩
  obtain ⟨cs, ys, hys, hR, hcl, hcs⟩ := C5.at_
  refine ⟨ys, .inl ⟨.of hys, fun q1 m1' => ⟨small_le (show 2 <= 1000 by decide), fun q2 m2 => ?_⟩⟩⟩
  have s6 := (Same.upd (o := .tup ys) m1').trans (Same.upd (o := .tup [x0, .ref q1]) m2)
  exact q _ nb cs _ (s1.trans (s5.trans s6)) hol (rep_tup1 upd_same (reps_cons (Rep.same (s5.trans s6) _ _ r0) (reps_cons (rep_tup1 (Same.upd m2 _ _ upd_same) (Reps.same s6 _ _ hR)) reps_nil))) (by omega) (by omega) hcs
def lowG (d : Dv) : Prop := depD d <= 50
def cutH (t l : Addr) (H : Hp) : Hp := fun b => if b = t \/ b = l then none else H b
theorem cutH_le {t l : Addr} {H : Hp} : Same (cutH t l H) H := fun b o h => by
  unfold cutH at h
  by_cases e : b = t \/ b = l
  . rw [if_pos e] at h; cases h
  . rw [if_neg e] at h; exact h
theorem cutH_at {t l p : Addr} {H : Hp} {o : HO} (h : H p = some o) (n : p ≠ t /\ p ≠ l) : cutH t l H p = some o := by
  unfold cutH
  rw [if_neg (fun e => e.elim n.1 n.2)]; exact h
theorem cutH_ne {t l p : Addr} {H : Hp} {o : HO} (h : cutH t l H p = some o) : p ≠ t /\ p ≠ l := by
  unfold cutH at h
  by_cases e : p = t \/ p = l
  . rw [if_pos e] at h; cases h
  . exact ⟨fun q => e (.inl q), fun q => e (.inr q)⟩
theorem cutH_frm {t l : Addr} {H H' : Hp} (f : Frm t H H') : Same (cutH t l H) (cutH t l H') := fun b o h => by
  have n := cutH_ne h
  exact cutH_at (f b o n.1 (cutH_le b o h)) n
theorem cutH_new {t l : Addr} {H H' : Hp} (f : Same H H') (hl : H l = none) : Same (cutH t t H) (cutH t l H') := fun b o h => by
  have n := cutH_ne h
  have e := cutH_le b o h
  exact cutH_at (f b o e) ⟨n.1, fun q => by rw [q, hl] at e; cases e⟩
theorem cutH_put {t l : Addr} {H : Hp} {o : HO} : Same (cutH t l H) (cutH t l (upd H l o)) := fun b o' h => by
  have n := cutH_ne h
  exact cutH_at (by rw [upd_ne n.2]; exact cutH_le b o' h) n
theorem cutH_tup {t : Addr} {H : Hp} {d : Dv} {v : V} (ht : ∃ zs, H t = some (.lst zs)) (hd : tupOnly d = true) (r : Rep K H d v) : Rep K (cutH t t H) d v :=
  Rep.frm (t := t) (fun b o n h => cutH_at h ⟨n, n⟩) ht d v hd r
def Odd (K : W.Frag) (H : Hp) (v : V) : Prop := (∃ d, Rep K H d v /\ lowG d) \/ (∃ a, v = .ref a /\ H a = some (.dK []))
theorem Odd.same {H H' : Hp} {v : V} (h : Odd K H v) (s : Same H H') : Odd K H' v := by
  rcases h with ⟨d, r, l⟩ | ⟨a, e, h⟩
  . exact .inl ⟨d, Rep.same s _ _ r, l⟩
  . exact .inr ⟨a, e, s _ _ h⟩
structure Bt (K : W.Frag) (t l : Addr) (H0 : Hp) (b : Addr) (ts : List Dv) (z : V) (dz : Dv) (ys : List V) (H : Hp) : Prop where
  fd : Feed H t
  fl : ∃ zs, H l = some (.lst zs)
  fr : Frm t H0 H
  rt : Rep K (cutH t l H) (.tup ts) (.ref b)
  rz : Rep K (cutH t l H) dz z
  ok : ∀ y ∈ ys, Odd K (cutH t l H) y
section
variable {t l b : Addr} {H0 H H' : Hp} {ts : List Dv} {z : V} {dz : Dv} {ys : List V}
theorem Bt.ne {p : Addr} (B : Bt K t l H0 b ts z dz ys H) (n : H p = none) : p ≠ t /\ p ≠ l := ⟨B.fd.neT n, fun e => by obtain ⟨zs, h⟩ := B.fl; rw [e, h] at n; cases n⟩
theorem Bt.same (B : Bt K t l H0 b ts z dz ys H) (s : Same H H') : Bt K t l H0 b ts z dz ys H' :=
  ⟨B.fd.same s, let ⟨zs, h⟩ := B.fl; ⟨zs, s _ _ h⟩, B.fr.trans s.frm, Rep.same (cutH_frm s.frm) _ _ B.rt, Rep.same (cutH_frm s.frm) _ _ B.rz, fun y hy => (B.ok y hy).same (cutH_frm s.frm)⟩
theorem Bt.draw (B : Bt K t l H0 b ts z dz ys H) (F : Feed H' t) (f : ∀ b, b ≠ t -> H' b = H b) : Bt K t l H0 b ts z dz ys H' :=
  ⟨F, (by
    by_cases e : l = t
    . rw [e]; exact F.lst
    . rw [f l e]; exact B.fl), B.fr.trans (frm_all f), Rep.same (cutH_frm (frm_all f)) _ _ B.rt, Rep.same (cutH_frm (frm_all f)) _ _ B.rz, fun y hy => (B.ok y hy).same (cutH_frm (frm_all f))⟩
theorem Bt.add {y : V} (B : Bt K t l H0 b ts z dz ys H) (h : Odd K (cutH t l H) y) : Bt K t l H0 b ts z dz (ys ++ [y]) H :=
  ⟨B.fd, B.fl, B.fr, B.rt, B.rz, fun x hx => by
    rcases List.mem_append.mp hx with h' | h'
    . exact B.ok x h'
    . rw [List.mem_singleton] at h'; subst h'; exact h⟩
theorem Bt.re {zs : List V} (B : Bt K t l H0 b ts z dz ys H) (h : ∀ x ∈ zs, x ∈ ys) : Bt K t l H0 b ts z dz zs H :=
  ⟨B.fd, B.fl, B.fr, B.rt, B.rz, fun x hx => B.ok x (h x hx)⟩
theorem Bt.new {xs : List V} (B : Bt K t t H0 b ts z dz ys H) (s : Same H H') (hl : H l = none) (hx : H' l = some (.lst xs)) : Bt K t l H0 b ts z dz ys H' :=
  ⟨B.fd.same s, ⟨xs, hx⟩, B.fr.trans s.frm, Rep.same (cutH_new s hl) _ _ B.rt, Rep.same (cutH_new s hl) _ _ B.rz, fun y hy => (B.ok y hy).same (cutH_new s hl)⟩
theorem Bt.put {xs : List V} (B : Bt K t l H0 b ts z dz ys H) (n : l ≠ t) (n0 : H0 l = none) : Bt K t l H0 b ts z dz ys (upd H l (.lst xs)) :=
  ⟨(by obtain ⟨a, b, k, c, h1, h3⟩ := B.fd.at_; exact ⟨a, b, k, c, h1, by rw [upd_ne (Ne.symm n)]; exact h3⟩), ⟨xs, upd_same⟩, frm_new B.fr n0, Rep.same cutH_put _ _ B.rt, Rep.same cutH_put _ _ B.rz, fun y hy => (B.ok y hy).same cutH_put⟩
end
theorem rep_lst1 {H : Hp} {p : Addr} {xs : List V} {ds : List Dv} (h : H p = some (.lst xs)) (r : Reps K H ds xs) : Rep K H (.lst ds) (.ref p) := by unfold Rep; exact ⟨p, xs, rfl, .of h, r⟩
theorem rep_non {H : Hp} : Rep K H .non .non := by unfold Rep; rfl
theorem reps_drop {H : Hp} : ∀ (n : Nat) {ds : List Dv} {us : List V}, Reps K H ds us -> Reps K H (ds.drop n) (us.drop n)
  | 0, _, _, h => h
  | n + 1, [], us, h => by unfold Reps at h; subst h; exact reps_nil
  | n + 1, d :: ds, us, h => by
    unfold Reps at h
    obtain ⟨x, l, rfl, _, h⟩ := h
    exact reps_drop n h
theorem reps_take {H : Hp} : ∀ (n : Nat) {ds : List Dv} {us : List V}, Reps K H ds us -> Reps K H (ds.take n) (us.take n)
  | 0, _, _, _ => by rw [List.take_zero, List.take_zero]; exact reps_nil
  | n + 1, [], us, h => by unfold Reps at h; subst h; exact reps_nil
  | n + 1, d :: ds, us, h => by
    unfold Reps at h
    obtain ⟨x, l, rfl, r, h⟩ := h
    exact reps_cons r (reps_take n h)
theorem reps_rev {H : Hp} : ∀ {ds : List Dv} {us : List V}, Reps K H ds us -> Reps K H ds.reverse us.reverse
  | [], us, h => by unfold Reps at h; subst h; exact reps_nil
  | d :: ds, us, h => by
    obtain ⟨x, l, rfl, r, h⟩ := reps_cons_inv h
    rw [List.reverse_cons, List.reverse_cons]
    exact (reps_rev h).append (reps_cons r reps_nil)
def cutD (ds : List Dv) (lo hi : Option Int) : List Dv := (ds.drop (HT.sIx ds.length 0 lo)).take (HT.sIx ds.length ds.length hi - HT.sIx ds.length 0 lo)
theorem reps_cut {H : Hp} {ds : List Dv} {us : List V} (lo hi : Option Int) (h : Reps K H ds us) : Reps K H (cutD ds lo hi) (cutV us lo hi) := by
  unfold cutD cutV
  rw [h.length]
  exact reps_take _ (reps_drop _ h)
theorem cutD_sub {ds : List Dv} {lo hi : Option Int} {P : Dv -> Prop} (h : ∀ d ∈ ds, P d) : ∀ d ∈ cutD ds lo hi, P d := fun d hd => h d (List.mem_of_mem_drop (List.mem_of_mem_take hd))
theorem rev_sub {ds : List Dv} {P : Dv -> Prop} (h : ∀ d ∈ ds, P d) : ∀ d ∈ ds.reverse, P d := fun d hd => h d (List.mem_reverse.mp hd)
theorem cutD_len (ds : List Dv) (lo hi : Option Int) : (cutD ds lo hi).length <= ds.length := by
  unfold cutD
  rw [List.length_take, List.length_drop]
  omega
theorem sqT_cut {t l : Addr} {H : Hp} {p : Addr} {xs : List V} (ht : ∃ zs, H t = some (.lst zs)) (hl : ∃ zs, H l = some (.lst zs)) (h1 : SqT K H p xs) : SqT K (cutH t l H) p xs := by
  obtain ⟨zs, hz⟩ := ht
  obtain ⟨ws, hw⟩ := hl
  rcases h1 with (h1 | ⟨o, h1⟩) | h1
  . exact .inl (.inl (cutH_at h1 ⟨(fun q => by rw [q, hz] at h1; cases h1), (fun q => by rw [q, hw] at h1; cases h1)⟩))
  . exact .inl (.inr ⟨o, cutH_at h1 ⟨(fun q => by rw [q, hz] at h1; cases h1), (fun q => by rw [q, hw] at h1; cases h1)⟩⟩)
  . exact .inr h1
theorem up {t l : Addr} {H H' : Hp} {d : Dv} {v : V} (r : Rep K (cutH t l H) d v) (s : Same H H') : Rep K (cutH t l H') d v := Rep.same (cutH_frm s.frm) _ _ r
theorem sqs_of {t l p : Addr} {H : Hp} {ds : List Dv} (r : Rep K (cutH t l H) (.tup ds) (.ref p)) : ∃ xs, SqT K H p xs /\ Reps K (cutH t l H) ds xs := by
  obtain ⟨a, xs, e, h, r⟩ := rep_tup_inv r
  cases e
  exact ⟨xs, cutH_le.sqT h, r⟩
theorem sm0 : (0 : Nat) <= sizeLine := Nat.zero_le _
theorem sm1 : (1 : Nat) <= sizeLine := small_le (by decide)
theorem sm2 : (2 : Nat) <= sizeLine := small_le (by decide)
theorem sm3 : (3 : Nat) <= sizeLine := small_le (by decide)
theorem sm5 : (5 : Nat) <= sizeLine := small_le (by decide)
theorem sm6 : (6 : Nat) <= sizeLine := small_le (by decide)
theorem sm8 : (8 : Nat) <= sizeLine := small_le (by decide)
theorem ups {t l : Addr} {H H' : Hp} {ds : List Dv} {xs : List V} (r : Reps K (cutH t l H) ds xs) (s : Same H H') : Reps K (cutH t l H') ds xs := Reps.same (cutH_frm s.frm) _ _ r
theorem newH {H : Hp} {p : Addr} {o : HO} (n : H p = none) : ∃ H', Same H H' /\ H' p = some o /\ upd H p o = H' := ⟨_, Same.upd n, upd_same, rfl⟩
theorem dpT {ds : List Dv} {n : Nat} (h : ∀ x ∈ ds, depD x <= n) : depD (.tup ds) <= n + 1 := by
  have : ∀ ds : List Dv, (∀ x ∈ ds, depD x <= n) -> depDs ds <= n := fun ds => by
    induction ds with
    | nil => intro _; exact Nat.zero_le _
    | cons d ds ih =>
      intro h
      have h1 := h d List.mem_cons_self
      have h2 := ih fun x hx => h x (List.mem_cons_of_mem _ hx)
      unfold depDs
      omega
  have := this ds h
  unfold depD
  omega
theorem dpL {ds : List Dv} {n : Nat} (h : ∀ x ∈ ds, depD x <= n) : depD (.lst ds) <= n + 1 := by
  have := dpT h
  unfold depD at this ⊢
  exact this
theorem al_nil {n : Nat} : ∀ x ∈ ([] : List Dv), depD x <= n := fun x h => by cases h
theorem al_cons {d : Dv} {ds : List Dv} {n : Nat} (h : depD d <= n) (r : ∀ x ∈ ds, depD x <= n) : ∀ x ∈ d :: ds, depD x <= n := fun x hx => by
  rcases List.mem_cons.mp hx with rfl | h'
  . exact h
  . exact r x h'
theorem al_app {ds es : List Dv} {n : Nat} (h : ∀ x ∈ ds, depD x <= n) (r : ∀ x ∈ es, depD x <= n) : ∀ x ∈ ds ++ es, depD x <= n := fun x hx => by
  rcases List.mem_append.mp hx with h' | h'
  . exact h x h'
  . exact r x h'
theorem al_nb (nb : List Bool) (n : Nat) : ∀ x ∈ nb.map Dv.bl, depD x <= n := fun x hx => by
  obtain ⟨b, _, rfl⟩ := List.mem_map.mp hx
  exact Nat.zero_le _
theorem al_cs (cs : List (Nat × Str)) (n : Nat) : ∀ x ∈ cs.map covD, depD x <= n + 1 := fun x hx => by
  obtain ⟨b, _, rfl⟩ := List.mem_map.mp hx
  exact dpT (al_cons (Nat.zero_le _) (al_cons (Nat.zero_le _) al_nil))
theorem al_ints (nb : List Bool) (n : Nat) : ∀ x ∈ nb.map fun b => Dv.int (if b = true then 1 else 0), depD x <= n := fun x hx => by
  obtain ⟨b, _, rfl⟩ := List.mem_map.mp hx
  exact Nat.zero_le _
theorem cutH_more {t l : Addr} {H : Hp} : Same (cutH t l H) (cutH t t H) := fun b o h => by
  have n := cutH_ne h
  exact cutH_at (cutH_le b o h) ⟨n.1, n.1⟩
theorem bls_of {t l p : Addr} {H : Hp} {nb : List Bool} (r : Rep K (cutH t l H) (.tup (nb.map Dv.bl)) (.ref p)) : SqT K H p (nb.map V.bl) := by
  obtain ⟨xs, h, hr⟩ := sqs_of r
  obtain rfl := reps_blI nb xs hr
  exact h
theorem two_of {t l p : Addr} {H : Hp} {i : Int} {x : Str} (r : Rep K (cutH t l H) (.tup [.int i, .str x]) (.ref p)) : SqT K H p [.int i, .str x] := by
  obtain ⟨a, u, v, e, h, r0, r1⟩ := rep_two_inv r
  cases e
  unfold Rep at r0 r1
  subst r0 r1
  exact cutH_le.sqT h
theorem comp_ints {ax : Addr} {nb : List Bool} {σ : St} {Q : VK} {H : Hp} (ha : SqT K H ax (nb.map V.bl)) (hl : nb.length <= 64) (q : ∀ p, H p = none -> Q (.ref p) (upd H p (.lst (nb.map fun b => V.int (if b = true then 1 else 0))))) : CompTurns (Itt K ax) (gName 0) tTrue (tCB mInt (tCons (vVar 0) tNil)) (cSt 1 [] σ) Q H := by
  refine comp_tup (xs := nb.map V.bl) (fun i zs H' => H' = H /\ zs = (nb.take i).map fun b => V.int (if b = true then 1 else 0)) ⟨rfl, rfl⟩ (fun i zs H' _ ⟨e, _⟩ => by rw [e]; exact ha) (fun i zs H' hi ⟨_, e⟩ => by
    rw [List.length_map] at hi
    rw [e, List.length_map, List.length_take]; exact small1000 (by omega)) ?_ ?_
  . rintro i x zs H' hx ⟨rfl, rfl⟩
    rw [List.getElem?_map] at hx
    cases er : nb[i]? with
    | none => rw [er] at hx; cases hx
    | some c =>
      rw [er] at hx
      cases hx
      refine ⟨rfl, ?_⟩
      rw [List.take_add_one, er, List.map_append]
      rfl
  . rintro zs H' ⟨rfl, rfl⟩ p hp
    rw [List.length_map, List.take_length]
    exact q p hp
theorem reps_ints01 {H : Hp} : ∀ nb : List Bool, Reps K H (nb.map fun b => Dv.int (if b = true then 1 else 0)) (nb.map fun b => V.int (if b = true then 1 else 0))
  | [] => reps_nil
  | b :: nb => reps_cons rep_int (reps_ints01 nb)
theorem last_at {nb : List Bool} (h : 1 <= nb.length) : ∃ b, atI (nb.map V.bl) (-1) = some (.bl b) := by
  have hl : nb.length - 1 < nb.length := by omega
  refine ⟨nb[nb.length - 1], ?_⟩
  unfold atI ixN
  rw [if_neg (by decide), List.length_map, if_pos (by omega), show ((-1 : Int) + (nb.length : Int)).toNat = nb.length - 1 by omega]
  show (nb.map V.bl)[nb.length - 1]? = _
  rw [List.getElem?_map, List.getElem?_eq_getElem hl]
  rfl
theorem papD_only (nb : List Bool) (cs : List (Nat × Str)) : tupOnly (papD nb cs) = true := by
  show (tupsOnly (nb.map Dv.bl) && (tupsOnly (cs.map covD) && true)) = true
  rw [tups_bl, tups_cov]
  rfl
def sp_kinds (K : W.Frag) : Sp := fun vs H Q _ => match vs with
  | [v, .int S] => ∃ (t : Addr) (m : Nat) (nb : List Bool) (cs : List (Nat × Str)), Feed H t /\ 1 <= m /\ m <= 6 /\ S = ((2 ^ m : Nat) : Int) /\ nb.length = 2 ^ m /\ Rep K H (papD nb cs) v /\ 1 <= cs.length /\ cs.length <= 64 /\ ∀ l ys H', Frm t H H' -> Feed H' t -> l ≠ t -> H' l = some (.lst ys) -> ys.length <= 40 -> (∀ y ∈ ys, Odd K (cutH t t H') y) -> Q (.ref l) H'
  | _ => False
theorem sp_kinds_mono : SpMono (sp_kinds K) := fun vs H Q Q' E h q => by
  unfold sp_kinds at *
  split at q
  . revert q; repeat' first | exact h _ _ | exact newL_mono h | walk_at "m"
  . exact q.elim
theorem ok__law_kinds_bent : FnOk P w K mg base CX0 1 T.f__law_kinds_bent T.d__law_kinds_bent ["_law_paper", "_law_size"] (sp_kinds K) := by
  refine T.F__law_kinds_bent.ok sc__law_kinds_bent (fun vs H Q E h => by unfold sp_kinds at h; split at h <;> first | rfl | exact h.elim) (fun cdv A outer s H vs Q E hr h => ?_)
  have hu := hu60 hr
  match vs, h with
  | [v, .int S], h =>
  obtain ⟨t, m, nb, cs, F, m1, m6, eS, hol, hv, hc1, hcl, q⟩ := h
  have h64 : 2 ^ m <= 64 := Nat.pow_le_pow_right (n := 2) (by decide) m6
  have hpo := Nat.two_pow_pos m
  have S1 : 1 <= S := by omega
  have S2 : S <= 64 := by omega
  have hnl : nb.length <= 64 := by omega
  have hn1 : 1 <= nb.length := by omega
  refine ⟨_, (@pss_cons _ _ _ _ _ (@ps_asg _ _ _ _ _ _ (@vw _ 0 _ _ (by walk_at "v")) (@kTupA _ K _ _ _ _ 2 rfl (@pgs_cons _ _ _ _ _ (@pg_name _ _ 2 _ sc__law_kinds_bent.nd rfl (by walk_at "e") (by walk_at "i")) (@pgs_cons _ _ _ _ _ (@pg_name _ _ 3 _ sc__law_kinds_bent.nd rfl (by walk_at "e") (by walk_at "i")) (@pgs_nil _) (by rfl)) (by rfl)) (by rfl) (by rfl) (by rfl)) (by rfl) (by rfl) (by rfl)) (@pss_cons _ _ _ _ _ (@ps_set _ _ 4 _ _ _ _ sc__law_kinds_bent.nd rfl (by walk_at "e") (@kIx _ K _ _ _ _ _ (@vw _ 3 _ _ (by walk_at "v")) (@pe_int _ _ _ _) (by intro _ _; rfl) (by rfl)) (by rfl) (by walk_at "i")) (@pss_cons _ _ _ _ _ (@ps_set _ _ 5 _ _ _ _ sc__law_kinds_bent.nd rfl (by walk_at "e") (@pe_lst _ _ _ _ (@pa_cons _ _ _ _ _ (@pe_callTy _ _ _ _ _ _ _ _ _ (kList (K := K)) rfl T.z_list (by rfl) (@pa1 _ _ _ (@vw _ 0 _ _ (by walk_at "v")) (by rfl)) (by decide) (by decide) (by rfl) (by rfl)) (@pa_cons _ _ _ _ _ (@pe_tup _ _ _ _ _ (@pa_cons _ _ _ _ _ (@vw _ 2 _ _ (by walk_at "v")) (@pa1 _ _ _ (@pe_callTy _ _ _ _ _ _ _ _ _ (kList (K := K)) rfl T.z_list (by rfl) (@pa1 _ _ _ (@vw _ 3 _ _ (by walk_at "v")) (by rfl)) (by decide) (by decide) (by rfl) (by rfl)) (by rfl)) (by rfl))) (@pa_cons _ _ _ _ _ (@pe_tup _ _ _ _ _ (@pa_cons _ _ _ _ _ (@pe_callTy _ _ _ _ _ _ _ _ _ (kList (K := K)) rfl T.z_list (by rfl) (@pa1 _ _ _ (@vw _ 2 _ _ (by walk_at "v")) (by rfl)) (by decide) (by decide) (by rfl) (by rfl)) (@pa1 _ _ _ (@vw _ 3 _ _ (by walk_at "v")) (by rfl)) (by rfl))) (@pa_cons _ _ _ _ _ (@pe_tup _ _ _ _ _ (@pa_cons _ _ _ _ _ (@vw _ 2 _ _ (by walk_at "v")) (@pa_cons _ _ _ _ _ (@vw _ 3 _ _ (by walk_at "v")) (@pa1 _ _ _ (@pe_tup _ _ _ _ _ (@pa_nil _)) (by rfl)) (by rfl)) (by rfl))) (@pa_cons _ _ _ _ _ (@pe_tup _ _ _ _ _ (@pa1 _ _ _ (@vw _ 2 _ _ (by walk_at "v")) (by rfl))) (@pa_cons _ _ _ _ _ (@pe_non _ _ _) (@pa_cons _ _ _ _ _ (@pe_str _ _ _ _) (@pa1 _ _ _ (@pe_dnewK _ _) (by rfl)) (by rfl)) (by rfl)) (by rfl)) (by rfl)) (by rfl)) (by rfl)) (by rfl))) (by rfl) (by walk_at "i")) (@pss_cons _ _ _ _ _ (@ps_set _ _ 5 _ _ _ _ sc__law_kinds_bent.nd rfl (by walk_at "e") (@pe_op _ _ _ _ _ _ _ _ (kAddA (K := K)) (@vw _ 5 _ _ (by walk_at "v")) (@pe_lst _ _ _ _ (@pa_cons _ _ _ _ _ (@pe_tup _ _ _ _ _ (@pa_cons _ _ _ _ _ (@pe_compB _ _ _ _ _ _ _ ["_law_one"] 1 [] _ _ _ _ rfl (@kSeq _ K _ _ _ (@vw _ 2 _ _ (by walk_at "v")) (by rfl)) (by kernel_rfl) rfl rfl (by kernel_rfl) (fun c => @pg_name _ _ 0 _ (show (["_law_one"] : List Str).Nodup by decide +kernel) rfl (by walk_at "e") (by walk_at "i")) (go_name (by decide)) (fun c => @pts_nil _) (fun c => (@pe_callTy _ _ _ _ _ _ _ _ _ cm_int rfl T.z_int (by rfl) (@pa1 _ _ _ (@vw _ 0 _ _ (by walk_at "v")) (by rfl)) (by decide) (by decide) (by rfl) (by rfl))) (by intro _; rfl)) (@pa1 _ _ _ (@vw _ 3 _ _ (by walk_at "v")) (by rfl)) (by rfl))) (@pa_cons _ _ _ _ _ (@pe_tup _ _ _ _ _ (@pa_cons _ _ _ _ _ (@pe_callTy _ _ _ _ _ _ _ _ _ (kTuple (K := K)) rfl T.z_tuple (by rfl) (@pa1 _ _ _ (@pe_compB _ _ _ _ _ _ _ ["_law_one"] 1 [] _ _ _ _ rfl (@kSeq _ K _ _ _ (@vw _ 2 _ _ (by walk_at "v")) (by rfl)) (by kernel_rfl) rfl rfl (by kernel_rfl) (fun c => @pg_name _ _ 0 _ (show (["_law_one"] : List Str).Nodup by decide +kernel) rfl (by walk_at "e") (by walk_at "i")) (go_name (by decide)) (fun c => @pts_nil _) (fun c => (@pe_callTy _ _ _ _ _ _ _ _ _ cm_int rfl T.z_int (by rfl) (@pa1 _ _ _ (@vw _ 0 _ _ (by walk_at "v")) (by rfl)) (by decide) (by decide) (by rfl) (by rfl))) (by intro _; rfl)) (by rfl)) (by decide) (by decide) (by rfl) (by rfl)) (@pa1 _ _ _ (@vw _ 3 _ _ (by walk_at "v")) (by rfl)) (by rfl))) (@pa1 _ _ _ (@pe_tup _ _ _ _ _ (@pa_cons _ _ _ _ _ (@vw _ 3 _ _ (by walk_at "v")) (@pa1 _ _ _ (@vw _ 2 _ _ (by walk_at "v")) (by rfl)) (by rfl))) (by rfl)) (by rfl)) (by rfl)))) (by rfl) (by walk_at "i")) (@pss_cons _ _ _ _ _ (@ps_set _ _ 5 _ _ _ _ sc__law_kinds_bent.nd rfl (by walk_at "e") (@pe_op _ _ _ _ _ _ _ _ (kAddA (K := K)) (@vw _ 5 _ _ (by walk_at "v")) (@pe_lst _ _ _ _ (@pa_cons _ _ _ _ _ (@pe_tup _ _ _ _ _ (@pa_cons _ _ _ _ _ (@pe_op _ _ _ _ _ _ _ _ (kAddA (K := K)) (@vw _ 2 _ _ (by walk_at "v")) (@vw _ 2 _ _ (by walk_at "v"))) (@pa1 _ _ _ (@vw _ 3 _ _ (by walk_at "v")) (by rfl)) (by rfl))) (@pa_cons _ _ _ _ _ (@pe_tup _ _ _ _ _ (@pa_cons _ _ _ _ _ (@kCutA _ K _ _ _ _ _ _ _ _ (@vw _ 2 _ _ (by walk_at "v")) (@po_none _) (@po_some _ _ _ (@pe_op _ _ _ _ _ _ _ _ om_div (@vw _ 1 _ _ (by walk_at "v")) (@pe_int _ _ _ _))) (by rfl)) (@pa1 _ _ _ (@vw _ 3 _ _ (by walk_at "v")) (by rfl)) (by rfl))) (@pa1 _ _ _ (@pe_tup _ _ _ _ _ (@pa_cons _ _ _ _ _ (@pe_non _ _ _) (@pa1 _ _ _ (@vw _ 3 _ _ (by walk_at "v")) (by rfl)) (by rfl))) (by rfl)) (by rfl)) (by rfl)))) (by rfl) (by walk_at "i")) (@pss_cons _ _ _ _ _ (@ps_set _ _ 5 _ _ _ _ sc__law_kinds_bent.nd rfl (by walk_at "e") (@pe_op _ _ _ _ _ _ _ _ (kAddA (K := K)) (@vw _ 5 _ _ (by walk_at "v")) (@pe_lst _ _ _ _ (@pa_cons _ _ _ _ _ (@pe_tup _ _ _ _ _ (@pa_cons _ _ _ _ _ (@pe_op _ _ _ _ _ _ _ _ (kAddA (K := K)) (@vw _ 2 _ _ (by walk_at "v")) (@kCutA _ K _ _ _ _ _ _ _ _ (@vw _ 2 _ _ (by walk_at "v")) (@po_none _) (@po_some _ _ _ (@pe_int _ _ _ _)) (by rfl))) (@pa1 _ _ _ (@vw _ 3 _ _ (by walk_at "v")) (by rfl)) (by rfl))) (@pa_cons _ _ _ _ _ (@pe_tup _ _ _ _ _ (@pa_cons _ _ _ _ _ (@kCutA _ K _ _ _ _ _ _ _ _ (@vw _ 2 _ _ (by walk_at "v")) (@po_none _) (@po_some _ _ _ (@pe_un _ _ _ _ _ _ um_neg (@pe_int _ _ _ _))) (by rfl)) (@pa1 _ _ _ (@vw _ 3 _ _ (by walk_at "v")) (by rfl)) (by rfl))) (@pa1 _ _ _ (@pe_tup _ _ _ _ _ (@pa_cons _ _ _ _ _ (@pe_op _ _ _ _ _ _ _ _ (kAddA (K := K)) (@kCutA _ K _ _ _ _ _ _ _ _ (@vw _ 2 _ _ (by walk_at "v")) (@po_none _) (@po_some _ _ _ (@pe_un _ _ _ _ _ _ um_neg (@pe_int _ _ _ _))) (by rfl)) (@pe_tup _ _ _ _ _ (@pa1 _ _ _ (@pe_callTy _ _ _ _ _ _ _ _ _ cm_int rfl T.z_int (by rfl) (@pa1 _ _ _ (@kIx _ K _ _ _ _ _ (@vw _ 2 _ _ (by walk_at "v")) (@pe_un _ _ _ _ _ _ um_neg (@pe_int _ _ _ _)) (by intro _ _; rfl) (by rfl)) (by rfl)) (by decide) (by decide) (by rfl) (by rfl)) (by rfl)))) (@pa1 _ _ _ (@vw _ 3 _ _ (by walk_at "v")) (by rfl)) (by rfl))) (by rfl)) (by rfl)) (by rfl)))) (by rfl) (by walk_at "i")) (@pss_cons _ _ _ _ _ (@ps_expr _ _ _ _ (@kAppend _ K _ _ _ _ _ _ (@vw _ 5 _ _ (by walk_at "v")) (@pa1 _ _ _ (@pe_tup _ _ _ _ _ (@pa_cons _ _ _ _ _ (@vw _ 2 _ _ (by walk_at "v")) (@pa1 _ _ _ (@pe_op _ _ _ _ _ _ _ _ (kAddA (K := K)) (@vw _ 3 _ _ (by walk_at "v")) (@pe_tup _ _ _ _ _ (@pa1 _ _ _ (@pe_tup _ _ _ _ _ (@pa_cons _ _ _ _ _ (@vw _ 1 _ _ (by walk_at "v")) (@pa1 _ _ _ (@pe_str _ _ _ _) (by rfl)) (by rfl))) (by rfl)))) (by rfl)) (by rfl))) (by rfl)) (by rfl) (by rfl) (by rfl) (by rfl) (by rfl) (by rfl)) (by rfl)) (@pss_cons _ _ _ _ _ (@ps_for _ _ _ _ _ _ _ _ PassesOwn.never rfl (@kSeq _ K _ _ _ (@pe_lst _ _ _ _ (@pa_cons _ _ _ _ _ (@pe_callTy _ _ _ _ _ _ _ _ _ (kList (K := K)) rfl T.z_list (by rfl) (@pa1 _ _ _ (@vw _ 4 _ _ (by walk_at "v")) (by rfl)) (by decide) (by decide) (by rfl) (by rfl)) (@pa_cons _ _ _ _ _ (@pe_op _ _ _ _ _ _ _ _ (kAddA (K := K)) (@vw _ 4 _ _ (by walk_at "v")) (@pe_tup _ _ _ _ _ (@pa1 _ _ _ (@pe_int _ _ _ _) (by rfl)))) (@pa_cons _ _ _ _ _ (@pe_tup _ _ _ _ _ (@pa1 _ _ _ (@kIx _ K _ _ _ _ _ (@vw _ 4 _ _ (by walk_at "v")) (@pe_int _ _ _ _) (by intro _ _; rfl) (by rfl)) (by rfl))) (@pa_cons _ _ _ _ _ (@pe_tup _ _ _ _ _ (@pa_cons _ _ _ _ _ (@pe_un _ _ _ _ _ _ um_neg (@pe_int _ _ _ _)) (@pa1 _ _ _ (@kIx _ K _ _ _ _ _ (@vw _ 4 _ _ (by walk_at "v")) (@pe_int _ _ _ _) (by intro _ _; rfl) (by rfl)) (by rfl)) (by rfl))) (@pa_cons _ _ _ _ _ (@pe_tup _ _ _ _ _ (@pa_cons _ _ _ _ _ (@pe_cmpM _ _ _ _ _ _ _ _ (kEq (K := K) hu) (@kIx _ K _ _ _ _ _ (@vw _ 4 _ _ (by walk_at "v")) (@pe_int _ _ _ _) (by intro _ _; rfl) (by rfl)) (@pe_int _ _ _ _) (by walk_at "n")) (@pa1 _ _ _ (@kIx _ K _ _ _ _ _ (@vw _ 4 _ _ (by walk_at "v")) (@pe_int _ _ _ _) (by intro _ _; rfl) (by rfl)) (by rfl)) (by rfl))) (@pa1 _ _ _ (@pe_tup _ _ _ _ _ (@pa_cons _ _ _ _ _ (@pe_non _ _ _) (@pa1 _ _ _ (@kIx _ K _ _ _ _ _ (@vw _ 4 _ _ (by walk_at "v")) (@pe_int _ _ _ _) (by intro _ _; rfl) (by rfl)) (by rfl)) (by rfl))) (by rfl)) (by rfl)) (by rfl)) (by rfl)) (by rfl)) (by rfl))) (by rfl)) (@pg_name _ _ 6 _ sc__law_kinds_bent.nd rfl (by walk_at "e") (by walk_at "i")) (@pss_one _ _ _ (@ps_expr _ _ _ _ (@kAppend _ K _ _ _ _ _ _ (@vw _ 5 _ _ (by walk_at "v")) (@pa1 _ _ _ (@pe_tup _ _ _ _ _ (@pa_cons _ _ _ _ _ (@vw _ 2 _ _ (by walk_at "v")) (@pa1 _ _ _ (@pe_op _ _ _ _ _ _ _ _ (kAddA (K := K)) (@pe_tup _ _ _ _ _ (@pa1 _ _ _ (@vw _ 6 _ _ (by walk_at "v")) (by rfl))) (@kCutA _ K _ _ _ _ _ _ _ _ (@vw _ 3 _ _ (by walk_at "v")) (@po_some _ _ _ (@pe_int _ _ _ _)) (@po_none _) (by rfl))) (by rfl)) (by rfl))) (by rfl)) (by rfl) (by rfl) (by rfl) (by rfl) (by rfl) (by rfl)) (by rfl))) (by intro _; rfl)) (@pss_cons _ _ _ _ _ (@ps_for _ _ _ _ _ _ _ _ PassesOwn.never rfl (@kSeq _ K _ _ _ (@pe_lst _ _ _ _ (@pa_cons _ _ _ _ _ (@pe_str _ _ _ _) (@pa_cons _ _ _ _ _ (@pe_str _ _ _ _) (@pa_cons _ _ _ _ _ (@pe_non _ _ _) (@pa_cons _ _ _ _ _ (@pe_tup _ _ _ _ _ (@pa1 _ _ _ (@pe_str _ _ _ _) (by rfl))) (@pa1 _ _ _ (@pe_bl _ _ _ _) (by rfl)) (by rfl)) (by rfl)) (by rfl)) (by rfl))) (by rfl)) (@pg_name _ _ 7 _ sc__law_kinds_bent.nd rfl (by walk_at "e") (by walk_at "i")) (@pss_one _ _ _ (@ps_expr _ _ _ _ (@kAppend _ K _ _ _ _ _ _ (@vw _ 5 _ _ (by walk_at "v")) (@pa1 _ _ _ (@pe_tup _ _ _ _ _ (@pa_cons _ _ _ _ _ (@vw _ 2 _ _ (by walk_at "v")) (@pa1 _ _ _ (@pe_op _ _ _ _ _ _ _ _ (kAddA (K := K)) (@pe_tup _ _ _ _ _ (@pa1 _ _ _ (@pe_tup _ _ _ _ _ (@pa_cons _ _ _ _ _ (@kIx _ K _ _ _ _ _ (@vw _ 4 _ _ (by walk_at "v")) (@pe_int _ _ _ _) (by intro _ _; rfl) (by rfl)) (@pa1 _ _ _ (@vw _ 7 _ _ (by walk_at "v")) (by rfl)) (by rfl))) (by rfl))) (@kCutA _ K _ _ _ _ _ _ _ _ (@vw _ 3 _ _ (by walk_at "v")) (@po_some _ _ _ (@pe_int _ _ _ _)) (@po_none _) (by rfl))) (by rfl)) (by rfl))) (by rfl)) (by rfl) (by rfl) (by rfl) (by rfl) (by rfl) (by rfl)) (by rfl))) (by intro _; rfl)) (@pss_one _ _ _ (@ps_ret _ _ _ _ (@vw _ 5 _ _ (by walk_at "v"))))))))))))), ?_⟩
  have Rp0 : Rep K (cutH t t H) (papD nb cs) v := cutH_tup F.lst (papD_only nb cs) hv
  unfold papD at Rp0
  obtain ⟨pa, x0, y0, rfl, hpa, r0, r1⟩ := rep_two_inv Rp0
  obtain ⟨ax, xs0, rfl, hax, _⟩ := rep_tup_inv r0
  obtain ⟨ay, ys0, rfl, hay, hR⟩ := rep_tup_inv r1
  have Rp := Rp0
  have B : Bt K t t H ax (nb.map Dv.bl) (.ref ay) (.tup (cs.map covD)) [] H := ⟨F, F.lst, fun _ _ _ h => h, r0, r1, fun y hy => by cases hy⟩
  refine seq_at (fun σ H' => σ = [some (.ref pa), some (.int S), some (.ref ax), some (.ref ay), none, none, none, none] /\ H = H') ⟨_, .inr (cutH_le.sqT hpa), rfl, _, _, rfl, _, _, rfl, rfl, rfl, rfl⟩ ?_ (by walk_at "sm")
  rintro σ _ ⟨rfl, rfl⟩
  obtain ⟨c0, cs1, ecs⟩ : ∃ c0 cs1, cs = c0 :: cs1 := by
    cases cs with
    | nil => simp at hc1
    | cons c0 cs1 => exact ⟨c0, cs1, rfl⟩
  obtain ⟨y1, hy1, ry1⟩ := hR.get (i := 0) (d := covD c0) (by rw [ecs]; rfl)
  obtain ⟨s0, w0⟩ := c0
  obtain ⟨fc, u0, v0, rfl, _, _, _⟩ := rep_two_inv (show Rep K (cutH t t H) (.tup [.int (s0 : Int), .str w0]) y1 from ry1)
  have Rf : Rep K (cutH t t H) (.tup [.int (s0 : Int), .str w0]) (.ref fc) := ry1
  refine seq_at (fun σ H' => σ = [some (.ref pa), some (.int S), some (.ref ax), some (.ref ay), some (.ref fc), none, none, none] /\ H = H') ⟨_, _, .inr (cutH_le.sqT hay), atI_of (n := 0) rfl hy1, rfl, rfl⟩ ?_ (by walk_at "sm")
  clear ecs hy1 ry1 hR hay hax hpa Rp0 r0 r1 hv
  rintro σ _ ⟨rfl, rfl⟩
  refine seq_at (fun σ H' => ∃ (l : Addr) (ys : List V), σ = [some (.ref pa), some (.int S), some (.ref ax), some (.ref ay), some (.ref fc), some (.ref l), none, none] /\ H' l = some (.lst ys) /\ l ≠ t /\ ys.length <= 8 /\ Bt K t t H ax (nb.map Dv.bl) (.ref ay) (.tup (cs.map covD)) ys H' /\ Rep K (cutH t t H') (.tup [.int (s0 : Int), .str w0]) (.ref fc)) ?_ ?_ (by walk_at "sm")
  . obtain ⟨xa1, ha1, ra1⟩ := sqs_of Rp
    refine ⟨xa1, .inr ha1, fun p1 n1 => ?_⟩
    have u1 := B.ne n1; obtain ⟨H1, s1, g1, e0⟩ := newH (o := (.lst xa1)) n1; rw [e0]; clear e0; replace B := B.same s1; replace Rp := up Rp s1; replace Rf := up Rf s1
    have R1 := rep_lst1 (K := K) (cutH_at g1 u1) (ups ra1 s1)
    replace B := B.add (.inl ⟨_, R1, (dpL (al_cons (dpT (al_nb nb _)) (al_cons (dpT (al_cs cs _)) al_nil)))⟩)
    obtain ⟨xa2, ha2, ra2⟩ := sqs_of B.rz
    refine ⟨xa2, .inr ha2, fun p2 n2 => ?_⟩
    have u2 := B.ne n2; obtain ⟨H2, s2, g2, e0⟩ := newH (o := (.lst xa2)) n2; rw [e0]; clear e0; replace B := B.same s2; replace Rp := up Rp s2; replace Rf := up Rf s2
    have R2 := rep_lst1 (K := K) (cutH_at g2 u2) (ups ra2 s2)
    refine ⟨sm2, fun p3 n3 => ?_⟩
    have u3 := B.ne n3; obtain ⟨H3, s3, g3, e0⟩ := newH (o := (.tup [.ref ax, .ref p2])) n3; rw [e0]; clear e0; replace R2 := up R2 s3; replace B := B.same s3; replace Rp := up Rp s3; replace Rf := up Rf s3
    have R3 := rep_tup1 (K := K) (cutH_at g3 u3) (reps_cons B.rt (reps_cons R2 reps_nil))
    replace B := B.add (.inl ⟨_, R3, (dpT (al_cons (dpT (al_nb nb _)) (al_cons (dpL (al_cs cs _)) al_nil)))⟩)
    obtain ⟨xa4, ha4, ra4⟩ := sqs_of B.rt
    refine ⟨xa4, .inr ha4, fun p4 n4 => ?_⟩
    have u4 := B.ne n4; obtain ⟨H4, s4, g4, e0⟩ := newH (o := (.lst xa4)) n4; rw [e0]; clear e0; replace B := B.same s4; replace Rp := up Rp s4; replace Rf := up Rf s4
    have R4 := rep_lst1 (K := K) (cutH_at g4 u4) (ups ra4 s4)
    refine ⟨sm2, fun p5 n5 => ?_⟩
    have u5 := B.ne n5; obtain ⟨H5, s5, g5, e0⟩ := newH (o := (.tup [.ref p4, .ref ay])) n5; rw [e0]; clear e0; replace R4 := up R4 s5; replace B := B.same s5; replace Rp := up Rp s5; replace Rf := up Rf s5
    have R5 := rep_tup1 (K := K) (cutH_at g5 u5) (reps_cons R4 (reps_cons B.rz reps_nil))
    replace B := B.add (.inl ⟨_, R5, (dpT (al_cons (dpL (al_nb nb _)) (al_cons (dpT (al_cs cs _)) al_nil)))⟩)
    refine ⟨sm0, fun p6 n6 => ?_⟩
    have u6 := B.ne n6; obtain ⟨H6, s6, g6, e0⟩ := newH (o := (.tup [])) n6; rw [e0]; clear e0; replace B := B.same s6; replace Rp := up Rp s6; replace Rf := up Rf s6
    have R6 := rep_tup1 (K := K) (cutH_at g6 u6) reps_nil
    refine ⟨sm3, fun p7 n7 => ?_⟩
    have u7 := B.ne n7; obtain ⟨H7, s7, g7, e0⟩ := newH (o := (.tup [.ref ax, .ref ay, .ref p6])) n7; rw [e0]; clear e0; replace R6 := up R6 s7; replace B := B.same s7; replace Rp := up Rp s7; replace Rf := up Rf s7
    have R7 := rep_tup1 (K := K) (cutH_at g7 u7) (reps_cons B.rt (reps_cons B.rz (reps_cons R6 reps_nil)))
    replace B := B.add (.inl ⟨_, R7, (dpT (al_cons (dpT (al_nb nb _)) (al_cons (dpT (al_cs cs _)) (al_cons (dpT al_nil) al_nil))))⟩)
    refine ⟨sm1, fun p8 n8 => ?_⟩
    have u8 := B.ne n8; obtain ⟨H8, s8, g8, e0⟩ := newH (o := (.tup [.ref ax])) n8; rw [e0]; clear e0; replace B := B.same s8; replace Rp := up Rp s8; replace Rf := up Rf s8
    have R8 := rep_tup1 (K := K) (cutH_at g8 u8) (reps_cons B.rt reps_nil)
    replace B := B.add (.inl ⟨_, R8, (dpT (al_cons (dpT (al_nb nb _)) al_nil))⟩); replace B := B.add (.inl ⟨.non, rep_non, (Nat.zero_le _)⟩); replace B := B.add (.inl ⟨(.str (Str.ofString "paper")), rep_str, (Nat.zero_le _)⟩)
    refine fun p9 n9 => ?_
    have u9 := B.ne n9; obtain ⟨H9, s9, g9, e0⟩ := newH (o := (.dK [])) n9; rw [e0]; clear e0; replace B := B.same s9; replace Rp := up Rp s9; replace Rf := up Rf s9; replace B := B.add (.inr ⟨_, rfl, (cutH_at g9 u9)⟩)
    refine ⟨sm8, fun p10 n10 => ?_⟩
    have u10 := B.ne n10; obtain ⟨H10, s10, g10, e0⟩ := newH (o := (.lst [.ref p1, .ref p3, .ref p5, .ref p7, .ref p8, .non, .str (Str.ofString "paper"), .ref p9])) n10; rw [e0]; clear e0; replace B := B.same s10; replace Rp := up Rp s10; replace Rf := up Rf s10
    exact ⟨p10, _, rfl, g10, u10.1, by simp only [List.length_append, List.length_cons, List.length_nil]; omega, B.re (fun x hx => by simpa only [List.mem_append, List.mem_cons, List.not_mem_nil, or_false, false_or, or_assoc] using hx), Rf⟩
  clear B Rp Rf
  rintro σ Ha ⟨l, ys, rfl, hl, nl, hlen, B, Rf⟩
  refine seq_at (fun σ H' => ∃ (l : Addr) (ys : List V), σ = [some (.ref pa), some (.int S), some (.ref ax), some (.ref ay), some (.ref fc), some (.ref l), none, none] /\ H' l = some (.lst ys) /\ l ≠ t /\ ys.length <= 11 /\ Bt K t t H ax (nb.map Dv.bl) (.ref ay) (.tup (cs.map covD)) ys H' /\ Rep K (cutH t t H') (.tup [.int (s0 : Int), .str w0]) (.ref fc)) ?_ ?_ (by walk_at "sm")
  . have hb1 := bls_of B.rt
    refine .inr ⟨⟨_, hb1⟩, comp_ints hb1 hnl fun p1 n1 => ?_⟩
    have u1 := B.ne n1; obtain ⟨H1, s1, g1, e0⟩ := newH (o := (.lst (nb.map fun b => V.int (if b = true then 1 else 0)))) n1; rw [e0]; clear e0; replace B := B.same s1; replace hl := s1 _ _ hl; replace Rf := up Rf s1
    have R1 := rep_lst1 (K := K) (cutH_at g1 u1) (reps_ints01 nb)
    refine ⟨sm2, fun p2 n2 => ?_⟩
    have u2 := B.ne n2; obtain ⟨H2, s2, g2, e0⟩ := newH (o := (.tup [.ref p1, .ref ay])) n2; rw [e0]; clear e0; replace R1 := up R1 s2; replace B := B.same s2; replace hl := s2 _ _ hl; replace Rf := up Rf s2
    have R2 := rep_tup1 (K := K) (cutH_at g2 u2) (reps_cons R1 (reps_cons B.rz reps_nil))
    replace B := B.add (.inl ⟨_, R2, (dpT (al_cons (dpL (al_ints nb _)) (al_cons (dpT (al_cs cs _)) al_nil)))⟩)
    have hb3 := bls_of B.rt
    refine .inr ⟨⟨_, hb3⟩, comp_ints hb3 hnl fun p3 n3 => ?_⟩
    have u3 := B.ne n3; obtain ⟨H3, s3, g3, e0⟩ := newH (o := (.lst (nb.map fun b => V.int (if b = true then 1 else 0)))) n3; rw [e0]; clear e0; replace B := B.same s3; replace hl := s3 _ _ hl; replace Rf := up Rf s3
    have R3 := rep_lst1 (K := K) (cutH_at g3 u3) (reps_ints01 nb)
    refine ⟨_, .inl ⟨.of g3, fun p4 n4 => ?_⟩⟩
    have u4 := B.ne n4; obtain ⟨H4, s4, g4, e0⟩ := newH (o := (.tup (nb.map fun b => V.int (if b = true then 1 else 0)))) n4; rw [e0]; clear e0; replace B := B.same s4; replace hl := s4 _ _ hl; replace Rf := up Rf s4
    have R4 := rep_tup1 (K := K) (cutH_at g4 u4) (reps_ints01 nb)
    refine ⟨sm2, fun p5 n5 => ?_⟩
    have u5 := B.ne n5; obtain ⟨H5, s5, g5, e0⟩ := newH (o := (.tup [.ref p4, .ref ay])) n5; rw [e0]; clear e0; replace R4 := up R4 s5; replace B := B.same s5; replace hl := s5 _ _ hl; replace Rf := up Rf s5
    have R5 := rep_tup1 (K := K) (cutH_at g5 u5) (reps_cons R4 (reps_cons B.rz reps_nil))
    replace B := B.add (.inl ⟨_, R5, (dpT (al_cons (dpT (al_ints nb _)) (al_cons (dpT (al_cs cs _)) al_nil)))⟩)
    refine ⟨sm2, fun p6 n6 => ?_⟩
    have u6 := B.ne n6; obtain ⟨H6, s6, g6, e0⟩ := newH (o := (.tup [.ref ay, .ref ax])) n6; rw [e0]; clear e0; replace B := B.same s6; replace hl := s6 _ _ hl; replace Rf := up Rf s6
    have R6 := rep_tup1 (K := K) (cutH_at g6 u6) (reps_cons B.rz (reps_cons B.rt reps_nil))
    replace B := B.add (.inl ⟨_, R6, (dpT (al_cons (dpT (al_cs cs _)) (al_cons (dpT (al_nb nb _)) al_nil)))⟩)
    refine ⟨sm3, fun p7 n7 => ?_⟩
    have u7 := B.ne n7; obtain ⟨H7, s7, g7, e0⟩ := newH (o := (.lst [.ref p2, .ref p5, .ref p6])) n7; rw [e0]; clear e0; replace B := B.same s7; replace hl := s7 _ _ hl; replace Rf := up Rf s7
    refine .inl ⟨l, p7, ys, [(.ref p2 : V), (.ref p5 : V), (.ref p6 : V)], rfl, rfl, hl, g7, small_le (by simp only [List.length_cons, List.length_nil]; omega), fun p8 n8 => ?_⟩
    have u8 := B.ne n8; obtain ⟨H8, s8, g8, e0⟩ := newH (o := (.lst (ys ++ [.ref p2, .ref p5, .ref p6]))) n8; rw [e0]; clear e0; replace Rf := up Rf s8; replace B := B.same s8
    exact ⟨p8, _, rfl, g8, u8.1, by simp only [List.length_append, List.length_cons, List.length_nil]; omega, B.re (fun x hx => by simpa only [List.mem_append, List.mem_cons, List.not_mem_nil, or_false, false_or, or_assoc] using hx), Rf⟩
  clear B Rf hl nl hlen ys l
  rintro σ Ha ⟨l, ys, rfl, hl, nl, hlen, B, Rf⟩
  refine seq_at (fun σ H' => ∃ (l : Addr) (ys : List V), σ = [some (.ref pa), some (.int S), some (.ref ax), some (.ref ay), some (.ref fc), some (.ref l), none, none] /\ H' l = some (.lst ys) /\ l ≠ t /\ ys.length <= 14 /\ Bt K t t H ax (nb.map Dv.bl) (.ref ay) (.tup (cs.map covD)) ys H' /\ Rep K (cutH t t H') (.tup [.int (s0 : Int), .str w0]) (.ref fc)) ?_ ?_ (by walk_at "sm")
  . obtain ⟨xa1, ha1, ra1⟩ := sqs_of B.rt
    obtain ⟨xb1, hb1, rb1⟩ := sqs_of B.rt
    refine .inr ⟨xa1, xb1, ha1, hb1, by have h1 := ra1.length; have h2 := rb1.length; simp only [List.length_append, List.length_map, List.length_cons, List.length_nil, List.length_reverse] at h1 h2 ; exact small_le (by omega), fun p1 H1 s1 c1 => ?_⟩
    replace B := B.same s1; replace hl := s1 _ _ hl; replace Rf := up Rf s1
    have R1 := rep_tup2 (sqT_cut B.fd.lst B.fl c1) ((ups ra1 s1).append (ups rb1 s1))
    refine ⟨sm2, fun p2 n2 => ?_⟩
    have u2 := B.ne n2; obtain ⟨H2, s2, g2, e0⟩ := newH (o := (.tup [.ref p1, .ref ay])) n2; rw [e0]; clear e0; replace R1 := up R1 s2; replace B := B.same s2; replace hl := s2 _ _ hl; replace Rf := up Rf s2
    have R2 := rep_tup1 (K := K) (cutH_at g2 u2) (reps_cons R1 (reps_cons B.rz reps_nil))
    replace B := B.add (.inl ⟨_, R2, (dpT (al_cons (dpT (al_app (al_nb nb _) (al_nb nb _))) (al_cons (dpT (al_cs cs _)) al_nil)))⟩)
    obtain ⟨xa3, ha3, ra3⟩ := sqs_of B.rt
    refine ⟨okDiv_of (by decide) (by decide), ?_⟩
    refine ⟨(S / 2), rfl, xa3, ha3, fun p3 H3 s3 c3 => ?_⟩
    replace B := B.same s3; replace hl := s3 _ _ hl; replace Rf := up Rf s3
    have R3 := rep_tup2 (sqT_cut B.fd.lst B.fl c3) (reps_cut _ _ (ups ra3 s3))
    refine ⟨sm2, fun p4 n4 => ?_⟩
    have u4 := B.ne n4; obtain ⟨H4, s4, g4, e0⟩ := newH (o := (.tup [.ref p3, .ref ay])) n4; rw [e0]; clear e0; replace R3 := up R3 s4; replace B := B.same s4; replace hl := s4 _ _ hl; replace Rf := up Rf s4
    have R4 := rep_tup1 (K := K) (cutH_at g4 u4) (reps_cons R3 (reps_cons B.rz reps_nil))
    replace B := B.add (.inl ⟨_, R4, (dpT (al_cons (dpT (cutD_sub (al_nb nb _))) (al_cons (dpT (al_cs cs _)) al_nil)))⟩)
    refine ⟨sm2, fun p5 n5 => ?_⟩
    have u5 := B.ne n5; obtain ⟨H5, s5, g5, e0⟩ := newH (o := (.tup [.non, .ref ay])) n5; rw [e0]; clear e0; replace B := B.same s5; replace hl := s5 _ _ hl; replace Rf := up Rf s5
    have R5 := rep_tup1 (K := K) (cutH_at g5 u5) (reps_cons rep_non (reps_cons B.rz reps_nil))
    replace B := B.add (.inl ⟨_, R5, (dpT (al_cons (Nat.zero_le _) (al_cons (dpT (al_cs cs _)) al_nil)))⟩)
    refine ⟨sm3, fun p6 n6 => ?_⟩
    have u6 := B.ne n6; obtain ⟨H6, s6, g6, e0⟩ := newH (o := (.lst [.ref p2, .ref p4, .ref p5])) n6; rw [e0]; clear e0; replace B := B.same s6; replace hl := s6 _ _ hl; replace Rf := up Rf s6
    refine .inl ⟨l, p6, ys, [(.ref p2 : V), (.ref p4 : V), (.ref p5 : V)], rfl, rfl, hl, g6, small_le (by simp only [List.length_cons, List.length_nil]; omega), fun p7 n7 => ?_⟩
    have u7 := B.ne n7; obtain ⟨H7, s7, g7, e0⟩ := newH (o := (.lst (ys ++ [.ref p2, .ref p4, .ref p5]))) n7; rw [e0]; clear e0; replace Rf := up Rf s7; replace B := B.same s7
    exact ⟨p7, _, rfl, g7, u7.1, by simp only [List.length_append, List.length_cons, List.length_nil]; omega, B.re (fun x hx => by simpa only [List.mem_append, List.mem_cons, List.not_mem_nil, or_false, false_or, or_assoc] using hx), Rf⟩
  clear B Rf hl nl hlen ys l
  rintro σ Ha ⟨l, ys, rfl, hl, nl, hlen, B, Rf⟩
  refine seq_at (fun σ H' => ∃ (l : Addr) (ys : List V), σ = [some (.ref pa), some (.int S), some (.ref ax), some (.ref ay), some (.ref fc), some (.ref l), none, none] /\ H' l = some (.lst ys) /\ l ≠ t /\ H l = none /\ ys.length <= 17 /\ Bt K t l H ax (nb.map Dv.bl) (.ref ay) (.tup (cs.map covD)) ys H' /\ Rep K (cutH t l H') (.tup [.int (s0 : Int), .str w0]) (.ref fc)) ?_ ?_ (by walk_at "sm")
  . obtain ⟨xa1, ha1, ra1⟩ := sqs_of B.rt
    refine ⟨1, rfl, xa1, ha1, fun p1 H1 s1 c1 => ?_⟩
    replace B := B.same s1; replace hl := s1 _ _ hl; replace Rf := up Rf s1
    have R1 := rep_tup2 (sqT_cut B.fd.lst B.fl c1) (reps_cut _ _ (ups ra1 s1))
    obtain ⟨xa2, ha2, ra2⟩ := sqs_of B.rt
    obtain ⟨xb2, hb2, rb2⟩ := sqs_of R1
    have k3 := cutD_len (nb.map Dv.bl) none (some 1)
    refine .inr ⟨xa2, xb2, ha2, hb2, by have h1 := ra2.length; have h2 := rb2.length; simp only [List.length_append, List.length_map, List.length_cons, List.length_nil, List.length_reverse] at h1 h2 k3; exact small_le (by omega), fun p2 H2 s2 c2 => ?_⟩
    replace B := B.same s2; replace hl := s2 _ _ hl; replace Rf := up Rf s2
    have R2 := rep_tup2 (sqT_cut B.fd.lst B.fl c2) ((ups ra2 s2).append (ups rb2 s2))
    refine ⟨sm2, fun p4 n4 => ?_⟩
    have u4 := B.ne n4; obtain ⟨H4, s4, g4, e0⟩ := newH (o := (.tup [.ref p2, .ref ay])) n4; rw [e0]; clear e0; replace R2 := up R2 s4; replace B := B.same s4; replace hl := s4 _ _ hl; replace Rf := up Rf s4
    have R4 := rep_tup1 (K := K) (cutH_at g4 u4) (reps_cons R2 (reps_cons B.rz reps_nil))
    replace B := B.add (.inl ⟨_, R4, (dpT (al_cons (dpT (al_app (al_nb nb _) (cutD_sub (al_nb nb _)))) (al_cons (dpT (al_cs cs _)) al_nil)))⟩)
    obtain ⟨xa5, ha5, ra5⟩ := sqs_of B.rt
    refine ⟨(-1), rfl, xa5, ha5, fun p5 H5 s5 c5 => ?_⟩
    replace B := B.same s5; replace hl := s5 _ _ hl; replace Rf := up Rf s5
    have R5 := rep_tup2 (sqT_cut B.fd.lst B.fl c5) (reps_cut _ _ (ups ra5 s5))
    refine ⟨sm2, fun p6 n6 => ?_⟩
    have u6 := B.ne n6; obtain ⟨H6, s6, g6, e0⟩ := newH (o := (.tup [.ref p5, .ref ay])) n6; rw [e0]; clear e0; replace R5 := up R5 s6; replace B := B.same s6; replace hl := s6 _ _ hl; replace Rf := up Rf s6
    have R6 := rep_tup1 (K := K) (cutH_at g6 u6) (reps_cons R5 (reps_cons B.rz reps_nil))
    replace B := B.add (.inl ⟨_, R6, (dpT (al_cons (dpT (cutD_sub (al_nb nb _))) (al_cons (dpT (al_cs cs _)) al_nil)))⟩)
    obtain ⟨xa7, ha7, ra7⟩ := sqs_of B.rt
    refine ⟨(-1), rfl, xa7, ha7, fun p7 H7 s7 c7 => ?_⟩
    replace B := B.same s7; replace hl := s7 _ _ hl; replace Rf := up Rf s7
    have R7 := rep_tup2 (sqT_cut B.fd.lst B.fl c7) (reps_cut _ _ (ups ra7 s7))
    obtain ⟨lb, hlb⟩ := last_at hn1
    refine ⟨_, _, .inr (bls_of B.rt), hlb, ?_⟩
    refine ⟨sm1, fun p8 n8 => ?_⟩
    have u8 := B.ne n8; obtain ⟨H8, s8, g8, e0⟩ := newH (o := (.tup [.int (if lb = true then 1 else 0)])) n8; rw [e0]; clear e0; replace B := B.same s8; replace hl := s8 _ _ hl; replace Rf := up Rf s8; replace R7 := up R7 s8
    have R8 := rep_tup1 (K := K) (cutH_at g8 u8) (reps_cons rep_int reps_nil)
    obtain ⟨xa9, ha9, ra9⟩ := sqs_of R7
    obtain ⟨xb9, hb9, rb9⟩ := sqs_of R8
    have k10 := cutD_len (nb.map Dv.bl) none (some (-1))
    refine .inr ⟨xa9, xb9, ha9, hb9, by have h1 := ra9.length; have h2 := rb9.length; simp only [List.length_append, List.length_map, List.length_cons, List.length_nil, List.length_reverse] at h1 h2 k10; exact small_le (by omega), fun p9 H9 s9 c9 => ?_⟩
    replace B := B.same s9; replace hl := s9 _ _ hl; replace Rf := up Rf s9
    have R9 := rep_tup2 (sqT_cut B.fd.lst B.fl c9) ((ups ra9 s9).append (ups rb9 s9))
    refine ⟨sm2, fun p11 n11 => ?_⟩
    have u11 := B.ne n11; obtain ⟨H11, s11, g11, e0⟩ := newH (o := (.tup [.ref p9, .ref ay])) n11; rw [e0]; clear e0; replace R9 := up R9 s11; replace B := B.same s11; replace hl := s11 _ _ hl; replace Rf := up Rf s11
    have R11 := rep_tup1 (K := K) (cutH_at g11 u11) (reps_cons R9 (reps_cons B.rz reps_nil))
    replace B := B.add (.inl ⟨_, R11, (dpT (al_cons (dpT (al_app (cutD_sub (al_nb nb _)) (al_cons (Nat.zero_le _) al_nil))) (al_cons (dpT (al_cs cs _)) al_nil)))⟩)
    refine ⟨sm3, fun p12 n12 => ?_⟩
    have u12 := B.ne n12; obtain ⟨H12, s12, g12, e0⟩ := newH (o := (.lst [.ref p4, .ref p6, .ref p11])) n12; rw [e0]; clear e0; replace B := B.same s12; replace hl := s12 _ _ hl; replace Rf := up Rf s12
    refine .inl ⟨l, p12, ys, [(.ref p4 : V), (.ref p6 : V), (.ref p11 : V)], rfl, rfl, hl, g12, small_le (by simp only [List.length_cons, List.length_nil]; omega), fun p13 n13 => ?_⟩
    have u13 := B.ne n13
    have z0 := B.fd.free B.fr n13
    obtain ⟨H13, s13, g13, e0⟩ := newH (o := (.lst (ys ++ [.ref p4, .ref p6, .ref p11]))) n13; rw [e0]; clear e0; replace Rf := Rep.same (cutH_new s13 n13) _ _ Rf; replace B := B.new s13 n13 g13
    exact ⟨p13, _, rfl, g13, u13.1, z0, by simp only [List.length_append, List.length_cons, List.length_nil]; omega, B.re (fun x hx => by simpa only [List.mem_append, List.mem_cons, List.not_mem_nil, or_false, false_or, or_assoc] using hx), Rf⟩
  clear B Rf hl nl hlen ys l
  rintro σ Ha ⟨l, ys, rfl, hl, nl, z0, hlen, B, Rf⟩
  refine seq_at (fun σ H' => ∃ (ys : List V), σ = [some (.ref pa), some (.int S), some (.ref ax), some (.ref ay), some (.ref fc), some (.ref l), none, none] /\ H' l = some (.lst ys) /\ ys.length <= 18 /\ Bt K t l H ax (nb.map Dv.bl) (.ref ay) (.tup (cs.map covD)) ys H' /\ Rep K (cutH t l H') (.tup [.int (s0 : Int), .str w0]) (.ref fc)) ?_ ?_ (by walk_at "sm")
  . refine ⟨.inl ⟨rfl, _, .of hl⟩, ?_⟩
    refine ⟨sm2, fun p1 n1 => ?_⟩
    have u1 := B.ne n1; obtain ⟨H1, s1, g1, e0⟩ := newH (o := (.tup [.int S, .str (Str.ofString "whole")])) n1; rw [e0]; clear e0; replace B := B.same s1; replace hl := s1 _ _ hl; replace Rf := up Rf s1
    have R1 := rep_tup1 (K := K) (cutH_at g1 u1) (reps_cons rep_int (reps_cons rep_str reps_nil))
    refine ⟨sm1, fun p2 n2 => ?_⟩
    have u2 := B.ne n2; obtain ⟨H2, s2, g2, e0⟩ := newH (o := (.tup [.ref p1])) n2; rw [e0]; clear e0; replace R1 := up R1 s2; replace B := B.same s2; replace hl := s2 _ _ hl; replace Rf := up Rf s2
    have R2 := rep_tup1 (K := K) (cutH_at g2 u2) (reps_cons R1 reps_nil)
    obtain ⟨xa3, ha3, ra3⟩ := sqs_of B.rz
    obtain ⟨xb3, hb3, rb3⟩ := sqs_of R2
    refine .inr ⟨xa3, xb3, ha3, hb3, by have h1 := ra3.length; have h2 := rb3.length; simp only [List.length_append, List.length_map, List.length_cons, List.length_nil, List.length_reverse] at h1 h2 ; exact small_le (by omega), fun p3 H3 s3 c3 => ?_⟩
    replace B := B.same s3; replace hl := s3 _ _ hl; replace Rf := up Rf s3
    have R3 := rep_tup2 (sqT_cut B.fd.lst B.fl c3) ((ups ra3 s3).append (ups rb3 s3))
    refine ⟨sm2, fun p4 n4 => ?_⟩
    have u4 := B.ne n4; obtain ⟨H4, s4, g4, e0⟩ := newH (o := (.tup [.ref ax, .ref p3])) n4; rw [e0]; clear e0; replace R3 := up R3 s4; replace B := B.same s4; replace hl := s4 _ _ hl; replace Rf := up Rf s4
    have R4 := rep_tup1 (K := K) (cutH_at g4 u4) (reps_cons B.rt (reps_cons R3 reps_nil))
    replace B := B.add (.inl ⟨_, R4, (dpT (al_cons (dpT (al_nb nb _)) (al_cons (dpT (al_app (al_cs cs _) (al_cons (dpT (al_cons (Nat.zero_le _) (al_cons (Nat.zero_le _) al_nil))) al_nil))) al_nil)))⟩)
    refine ⟨ys, hl, small1000 (by omega), ?_⟩
    exact ⟨_, rfl, upd_same, by rw [List.length_append]; show ys.length + 1 <= 18; omega, B.put nl z0, Rep.same cutH_put _ _ Rf⟩
  clear B Rf hl hlen ys
  rintro σ HB ⟨ys, rfl, hl, hlen, B, Rf⟩
  refine seq_at (fun σ H' => ∃ (ys : List V) (z6 : Option V), σ = [some (.ref pa), some (.int S), some (.ref ax), some (.ref ay), some (.ref fc), some (.ref l), z6, none] /\ H' l = some (.lst ys) /\ ys.length <= 24 /\ Bt K t l H ax (nb.map Dv.bl) (.ref ay) (.tup (cs.map covD)) ys H' /\ Rep K (cutH t l H') (.tup [.int (s0 : Int), .str w0]) (.ref fc)) ?_ ?_ (by walk_at "sm")
  . obtain ⟨xa1, ha1, ra1⟩ := sqs_of Rf
    refine ⟨xa1, .inr ha1, fun p1 n1 => ?_⟩
    have u1 := B.ne n1; obtain ⟨H1, s1, g1, e0⟩ := newH (o := (.lst xa1)) n1; rw [e0]; clear e0; replace B := B.same s1; replace hl := s1 _ _ hl; replace Rf := up Rf s1
    have R1 := rep_lst1 (K := K) (cutH_at g1 u1) (ups ra1 s1)
    refine ⟨sm1, fun p2 n2 => ?_⟩
    have u2 := B.ne n2; obtain ⟨H2, s2, g2, e0⟩ := newH (o := (.tup [.int 0])) n2; rw [e0]; clear e0; replace B := B.same s2; replace hl := s2 _ _ hl; replace Rf := up Rf s2; replace R1 := up R1 s2
    have R2 := rep_tup1 (K := K) (cutH_at g2 u2) (reps_cons rep_int reps_nil)
    obtain ⟨xa3, ha3, ra3⟩ := sqs_of Rf
    obtain ⟨xb3, hb3, rb3⟩ := sqs_of R2
    refine .inr ⟨xa3, xb3, ha3, hb3, by have h1 := ra3.length; have h2 := rb3.length; simp only [List.length_append, List.length_map, List.length_cons, List.length_nil, List.length_reverse] at h1 h2 ; exact small_le (by omega), fun p3 H3 s3 c3 => ?_⟩
    replace B := B.same s3; replace hl := s3 _ _ hl; replace Rf := up Rf s3; replace R1 := up R1 s3
    have R3 := rep_tup2 (sqT_cut B.fd.lst B.fl c3) ((ups ra3 s3).append (ups rb3 s3))
    refine ⟨_, _, .inr (two_of Rf), rfl, ?_⟩
    refine ⟨sm1, fun p4 n4 => ?_⟩
    have u4 := B.ne n4; obtain ⟨H4, s4, g4, e0⟩ := newH (o := (.tup [.int (s0 : Int)])) n4; rw [e0]; clear e0; replace B := B.same s4; replace hl := s4 _ _ hl; replace Rf := up Rf s4; replace R1 := up R1 s4; replace R3 := up R3 s4
    have R4 := rep_tup1 (K := K) (cutH_at g4 u4) (reps_cons rep_int reps_nil)
    refine ⟨_, _, .inr (two_of Rf), atI_of (n := 1) rfl rfl, ?_⟩
    refine ⟨sm2, fun p5 n5 => ?_⟩
    have u5 := B.ne n5; obtain ⟨H5, s5, g5, e0⟩ := newH (o := (.tup [.int (-1), .str w0])) n5; rw [e0]; clear e0; replace B := B.same s5; replace hl := s5 _ _ hl; replace Rf := up Rf s5; replace R1 := up R1 s5; replace R3 := up R3 s5; replace R4 := up R4 s5
    have R5 := rep_tup1 (K := K) (cutH_at g5 u5) (reps_cons rep_int (reps_cons rep_str reps_nil))
    refine ⟨_, _, .inr (two_of Rf), rfl, ?_⟩
    refine ⟨_, _, .inr (two_of Rf), atI_of (n := 1) rfl rfl, ?_⟩
    refine ⟨sm2, fun p6 n6 => ?_⟩
    have u6 := B.ne n6; obtain ⟨H6, s6, g6, e0⟩ := newH (o := (.tup [.bl (false ^^ ((s0 : Int) == 1)), .str w0])) n6; rw [e0]; clear e0; replace B := B.same s6; replace hl := s6 _ _ hl; replace Rf := up Rf s6; replace R1 := up R1 s6; replace R3 := up R3 s6; replace R4 := up R4 s6; replace R5 := up R5 s6
    have R6 := rep_tup1 (K := K) (cutH_at g6 u6) (reps_cons rep_bl (reps_cons rep_str reps_nil))
    refine ⟨_, _, .inr (two_of Rf), atI_of (n := 1) rfl rfl, ?_⟩
    refine ⟨sm2, fun p7 n7 => ?_⟩
    have u7 := B.ne n7; obtain ⟨H7, s7, g7, e0⟩ := newH (o := (.tup [.non, .str w0])) n7; rw [e0]; clear e0; replace B := B.same s7; replace hl := s7 _ _ hl; replace Rf := up Rf s7; replace R1 := up R1 s7; replace R3 := up R3 s7; replace R4 := up R4 s7; replace R5 := up R5 s7; replace R6 := up R6 s7
    have R7 := rep_tup1 (K := K) (cutH_at g7 u7) (reps_cons rep_non (reps_cons rep_str reps_nil))
    refine ⟨sm6, fun pq nq => ?_⟩
    have uq := B.ne nq; obtain ⟨Hq, sq, gq, e0⟩ := newH (o := (.lst [.ref p1, .ref p3, .ref p4, .ref p5, .ref p6, .ref p7])) nq; rw [e0]; clear e0; replace B := B.same sq; replace hl := sq _ _ hl; replace Rf := up Rf sq; replace R1 := up R1 sq; replace R3 := up R3 sq; replace R4 := up R4 sq; replace R5 := up R5 sq; replace R6 := up R6 sq; replace R7 := up R7 sq
    have hq : ∀ y ∈ [(.ref p1 : V), (.ref p3 : V), (.ref p4 : V), (.ref p5 : V), (.ref p6 : V), (.ref p7 : V)], ∃ d, Rep K (cutH t l Hq) d y /\ ∀ n, depD d <= n + 5 := by
      intro y hy
      simp only [List.mem_cons, List.not_mem_nil, or_false] at hy
      rcases hy with rfl | rfl | rfl | rfl | rfl | rfl
      . exact ⟨(.lst [(.int (s0 : Int)), (.str w0)]), R1, fun n => (dpL (al_cons (Nat.zero_le _) (al_cons (Nat.zero_le _) al_nil)))⟩
      . exact ⟨(.tup ([(.int (s0 : Int)), (.str w0)] ++ [(.int 0)])), R3, fun n => (dpT (al_app (al_cons (Nat.zero_le _) (al_cons (Nat.zero_le _) al_nil)) (al_cons (Nat.zero_le _) al_nil)))⟩
      . exact ⟨(.tup [(.int (s0 : Int))]), R4, fun n => (dpT (al_cons (Nat.zero_le _) al_nil))⟩
      . exact ⟨(.tup [(.int (-1)), (.str w0)]), R5, fun n => (dpT (al_cons (Nat.zero_le _) (al_cons (Nat.zero_le _) al_nil)))⟩
      . exact ⟨(.tup [(.bl (false ^^ ((s0 : Int) == 1))), (.str w0)]), R6, fun n => (dpT (al_cons (Nat.zero_le _) (al_cons (Nat.zero_le _) al_nil)))⟩
      . exact ⟨(.tup [.non, (.str w0)]), R7, fun n => (dpT (al_cons (Nat.zero_le _) (al_cons (Nat.zero_le _) al_nil)))⟩
    obtain ⟨qs, hqs, hql⟩ : ∃ qs : List V, [(.ref p1 : V), (.ref p3 : V), (.ref p4 : V), (.ref p5 : V), (.ref p6 : V), (.ref p7 : V)] = qs /\ qs.length = 6 := ⟨_, rfl, rfl⟩
    rw [hqs] at hq
    replace gq : Hq pq = some (.lst qs) := by rw [<- hqs]; exact gq
    refine .inl ⟨⟨_, .of gq⟩, ?_⟩
    have nq1 : pq ≠ l := uq.2
    refine for_list (xs := qs) (fun i σ H' => ∃ (ys : List V) (z6 : Option V), σ = [some (.ref pa), some (.int S), some (.ref ax), some (.ref ay), some (.ref fc), some (.ref l), z6, none] /\ H' l = some (.lst ys) /\ ys.length <= 18 + i /\ Bt K t l H ax (nb.map Dv.bl) (.ref ay) (.tup (cs.map covD)) ys H' /\ Rep K (cutH t l H') (.tup [.int (s0 : Int), .str w0]) (.ref fc) /\ H' pq = some (.lst qs) /\ (∀ y ∈ qs, ∃ d, Rep K (cutH t l H') d y /\ ∀ n, depD d <= n + 5)) ⟨ys, none, rfl, hl, by omega, B, Rf, gq, hq⟩ (fun i σ H' _ ⟨_, _, _, _, _, _, _, e, _⟩ => .of e) ?_ ?_
    . clear B Rf gq hq hl hlen ys
      rintro i y σ H3 hy ⟨ys, z6, rfl, hl, hlen, B, Rf, gq, hq⟩
      obtain ⟨dm, R900, hdm⟩ := hq y (List.mem_of_getElem? hy)
      have hi : i < 6 := by rw [<- hql]; exact (List.getElem?_eq_some_iff.mp hy).1
      dsimp only [gName]
      refine ⟨.inl ⟨rfl, _, .of hl⟩, ?_⟩
      refine ⟨sm1, fun p1 n1 => ?_⟩
      have u1 := B.ne n1; obtain ⟨H1, s1, g1, e0⟩ := newH (o := (.tup [y])) n1; rw [e0]; clear e0; replace B := B.same s1; replace hl := s1 _ _ hl; replace gq := s1 _ _ gq; replace hq := fun y hy => let ⟨d, r, lo⟩ := hq y hy; (⟨d, Rep.same (cutH_frm (s1).frm) _ _ r, lo⟩ : ∃ d, Rep K _ d y /\ ∀ n, depD d <= n + 5); replace Rf := up Rf s1; replace R900 := up R900 s1
      have R1 := rep_tup1 (K := K) (cutH_at g1 u1) (reps_cons R900 reps_nil)
      obtain ⟨xa2, ha2, ra2⟩ := sqs_of B.rz
      refine ⟨1, rfl, xa2, ha2, fun p2 H2 s2 c2 => ?_⟩
      replace B := B.same s2; replace hl := s2 _ _ hl; replace gq := s2 _ _ gq; replace hq := fun y hy => let ⟨d, r, lo⟩ := hq y hy; (⟨d, Rep.same (cutH_frm (s2).frm) _ _ r, lo⟩ : ∃ d, Rep K _ d y /\ ∀ n, depD d <= n + 5); replace Rf := up Rf s2; replace R900 := up R900 s2; replace R1 := up R1 s2
      have R2 := rep_tup2 (sqT_cut B.fd.lst B.fl c2) (reps_cut _ _ (ups ra2 s2))
      obtain ⟨xa3, ha3, ra3⟩ := sqs_of R1
      obtain ⟨xb3, hb3, rb3⟩ := sqs_of R2
      have k4 := cutD_len (cs.map covD) (some 1) none
      refine .inr ⟨xa3, xb3, ha3, hb3, by have h1 := ra3.length; have h2 := rb3.length; simp only [List.length_append, List.length_map, List.length_cons, List.length_nil, List.length_reverse] at h1 h2 k4; exact small_le (by omega), fun p3 H3 s3 c3 => ?_⟩
      replace B := B.same s3; replace hl := s3 _ _ hl; replace gq := s3 _ _ gq; replace hq := fun y hy => let ⟨d, r, lo⟩ := hq y hy; (⟨d, Rep.same (cutH_frm (s3).frm) _ _ r, lo⟩ : ∃ d, Rep K _ d y /\ ∀ n, depD d <= n + 5); replace Rf := up Rf s3; replace R900 := up R900 s3
      have R3 := rep_tup2 (sqT_cut B.fd.lst B.fl c3) ((ups ra3 s3).append (ups rb3 s3))
      refine ⟨sm2, fun p5 n5 => ?_⟩
      have u5 := B.ne n5; obtain ⟨H5, s5, g5, e0⟩ := newH (o := (.tup [.ref ax, .ref p3])) n5; rw [e0]; clear e0; replace R3 := up R3 s5; replace B := B.same s5; replace hl := s5 _ _ hl; replace gq := s5 _ _ gq; replace hq := fun y hy => let ⟨d, r, lo⟩ := hq y hy; (⟨d, Rep.same (cutH_frm (s5).frm) _ _ r, lo⟩ : ∃ d, Rep K _ d y /\ ∀ n, depD d <= n + 5); replace Rf := up Rf s5; replace R900 := up R900 s5
      have R5 := rep_tup1 (K := K) (cutH_at g5 u5) (reps_cons B.rt (reps_cons R3 reps_nil))
      replace B := B.add (.inl ⟨_, R5, (dpT (al_cons (dpT (al_nb nb _)) (al_cons (dpT (al_app (al_cons (hdm _) al_nil) (cutD_sub (al_cs cs _)))) al_nil)))⟩)
      refine ⟨ys, hl, small1000 (by omega), ?_⟩
      exact ⟨_, _, rfl, upd_same, by rw [List.length_append]; show ys.length + 1 <= 18 + (i + 1); omega, B.put nl z0, Rep.same cutH_put _ _ Rf, by rw [upd_ne nq1]; exact gq, fun y hy => let ⟨d, r, lo⟩ := hq y hy; ⟨d, Rep.same cutH_put _ _ r, lo⟩⟩
    . rintro σ H3 ⟨ys, z6, rfl, hl, hlen, B, Rf, _, _⟩
      rw [hql] at hlen
      exact ⟨ys, z6, rfl, hl, by omega, B, Rf⟩
  clear B Rf hl hlen ys
  rintro σ HC ⟨ys, z6, rfl, hl, hlen, B, Rf⟩
  refine seq_at (fun σ H' => ∃ (ys : List V) (z7 : Option V), σ = [some (.ref pa), some (.int S), some (.ref ax), some (.ref ay), some (.ref fc), some (.ref l), z6, z7] /\ H' l = some (.lst ys) /\ ys.length <= 29 /\ Bt K t l H ax (nb.map Dv.bl) (.ref ay) (.tup (cs.map covD)) ys H' /\ Rep K (cutH t l H') (.tup [.int (s0 : Int), .str w0]) (.ref fc)) ?_ ?_ (by walk_at "sm")
  . refine ⟨sm1, fun p1 n1 => ?_⟩
    have u1 := B.ne n1; obtain ⟨H1, s1, g1, e0⟩ := newH (o := (.tup [.str (Str.ofString "weights")])) n1; rw [e0]; clear e0; replace B := B.same s1; replace hl := s1 _ _ hl; replace Rf := up Rf s1
    have R1 := rep_tup1 (K := K) (cutH_at g1 u1) (reps_cons rep_str reps_nil)
    refine ⟨sm5, fun pq nq => ?_⟩
    have uq := B.ne nq; obtain ⟨Hq, sq, gq, e0⟩ := newH (o := (.lst [.str (Str.ofString "Weights"), .str (Str.ofString ""), .non, .ref p1, .bl true])) nq; rw [e0]; clear e0; replace B := B.same sq; replace hl := sq _ _ hl; replace Rf := up Rf sq; replace R1 := up R1 sq
    have hq : ∀ y ∈ [(.str (Str.ofString "Weights") : V), (.str (Str.ofString "") : V), (.non : V), (.ref p1 : V), (.bl true : V)], ∃ d, Rep K (cutH t l Hq) d y /\ ∀ n, depD d <= n + 5 := by
      intro y hy
      simp only [List.mem_cons, List.not_mem_nil, or_false] at hy
      rcases hy with rfl | rfl | rfl | rfl | rfl
      . exact ⟨(.str (Str.ofString "Weights")), rep_str, fun n => (Nat.zero_le _)⟩
      . exact ⟨(.str (Str.ofString "")), rep_str, fun n => (Nat.zero_le _)⟩
      . exact ⟨.non, rep_non, fun n => (Nat.zero_le _)⟩
      . exact ⟨(.tup [(.str (Str.ofString "weights"))]), R1, fun n => (dpT (al_cons (Nat.zero_le _) al_nil))⟩
      . exact ⟨(.bl true), rep_bl, fun n => (Nat.zero_le _)⟩
    obtain ⟨qs, hqs, hql⟩ : ∃ qs : List V, [(.str (Str.ofString "Weights") : V), (.str (Str.ofString "") : V), (.non : V), (.ref p1 : V), (.bl true : V)] = qs /\ qs.length = 5 := ⟨_, rfl, rfl⟩
    rw [hqs] at hq
    replace gq : Hq pq = some (.lst qs) := by rw [<- hqs]; exact gq
    refine .inl ⟨⟨_, .of gq⟩, ?_⟩
    have nq1 : pq ≠ l := uq.2
    refine for_list (xs := qs) (fun i σ H' => ∃ (ys : List V) (z7 : Option V), σ = [some (.ref pa), some (.int S), some (.ref ax), some (.ref ay), some (.ref fc), some (.ref l), z6, z7] /\ H' l = some (.lst ys) /\ ys.length <= 24 + i /\ Bt K t l H ax (nb.map Dv.bl) (.ref ay) (.tup (cs.map covD)) ys H' /\ Rep K (cutH t l H') (.tup [.int (s0 : Int), .str w0]) (.ref fc) /\ H' pq = some (.lst qs) /\ (∀ y ∈ qs, ∃ d, Rep K (cutH t l H') d y /\ ∀ n, depD d <= n + 5)) ⟨ys, none, rfl, hl, by omega, B, Rf, gq, hq⟩ (fun i σ H' _ ⟨_, _, _, _, _, _, _, e, _⟩ => .of e) ?_ ?_
    . clear B Rf gq hq hl hlen ys
      rintro i y σ H3 hy ⟨ys, z7, rfl, hl, hlen, B, Rf, gq, hq⟩
      obtain ⟨dm, R900, hdm⟩ := hq y (List.mem_of_getElem? hy)
      have hi : i < 5 := by rw [<- hql]; exact (List.getElem?_eq_some_iff.mp hy).1
      dsimp only [gName]
      refine ⟨.inl ⟨rfl, _, .of hl⟩, ?_⟩
      refine ⟨_, _, .inr (two_of Rf), rfl, ?_⟩
      refine ⟨sm2, fun p1 n1 => ?_⟩
      have u1 := B.ne n1; obtain ⟨H1, s1, g1, e0⟩ := newH (o := (.tup [.int (s0 : Int), y])) n1; rw [e0]; clear e0; replace B := B.same s1; replace hl := s1 _ _ hl; replace gq := s1 _ _ gq; replace hq := fun y hy => let ⟨d, r, lo⟩ := hq y hy; (⟨d, Rep.same (cutH_frm (s1).frm) _ _ r, lo⟩ : ∃ d, Rep K _ d y /\ ∀ n, depD d <= n + 5); replace Rf := up Rf s1; replace R900 := up R900 s1
      have R1 := rep_tup1 (K := K) (cutH_at g1 u1) (reps_cons rep_int (reps_cons R900 reps_nil))
      refine ⟨sm1, fun p2 n2 => ?_⟩
      have u2 := B.ne n2; obtain ⟨H2, s2, g2, e0⟩ := newH (o := (.tup [.ref p1])) n2; rw [e0]; clear e0; replace R1 := up R1 s2; replace B := B.same s2; replace hl := s2 _ _ hl; replace gq := s2 _ _ gq; replace hq := fun y hy => let ⟨d, r, lo⟩ := hq y hy; (⟨d, Rep.same (cutH_frm (s2).frm) _ _ r, lo⟩ : ∃ d, Rep K _ d y /\ ∀ n, depD d <= n + 5); replace Rf := up Rf s2; replace R900 := up R900 s2
      have R2 := rep_tup1 (K := K) (cutH_at g2 u2) (reps_cons R1 reps_nil)
      obtain ⟨xa3, ha3, ra3⟩ := sqs_of B.rz
      refine ⟨1, rfl, xa3, ha3, fun p3 H3 s3 c3 => ?_⟩
      replace B := B.same s3; replace hl := s3 _ _ hl; replace gq := s3 _ _ gq; replace hq := fun y hy => let ⟨d, r, lo⟩ := hq y hy; (⟨d, Rep.same (cutH_frm (s3).frm) _ _ r, lo⟩ : ∃ d, Rep K _ d y /\ ∀ n, depD d <= n + 5); replace Rf := up Rf s3; replace R900 := up R900 s3; replace R2 := up R2 s3
      have R3 := rep_tup2 (sqT_cut B.fd.lst B.fl c3) (reps_cut _ _ (ups ra3 s3))
      obtain ⟨xa4, ha4, ra4⟩ := sqs_of R2
      obtain ⟨xb4, hb4, rb4⟩ := sqs_of R3
      have k5 := cutD_len (cs.map covD) (some 1) none
      refine .inr ⟨xa4, xb4, ha4, hb4, by have h1 := ra4.length; have h2 := rb4.length; simp only [List.length_append, List.length_map, List.length_cons, List.length_nil, List.length_reverse] at h1 h2 k5; exact small_le (by omega), fun p4 H4 s4 c4 => ?_⟩
      replace B := B.same s4; replace hl := s4 _ _ hl; replace gq := s4 _ _ gq; replace hq := fun y hy => let ⟨d, r, lo⟩ := hq y hy; (⟨d, Rep.same (cutH_frm (s4).frm) _ _ r, lo⟩ : ∃ d, Rep K _ d y /\ ∀ n, depD d <= n + 5); replace Rf := up Rf s4; replace R900 := up R900 s4
      have R4 := rep_tup2 (sqT_cut B.fd.lst B.fl c4) ((ups ra4 s4).append (ups rb4 s4))
      refine ⟨sm2, fun p6 n6 => ?_⟩
      have u6 := B.ne n6; obtain ⟨H6, s6, g6, e0⟩ := newH (o := (.tup [.ref ax, .ref p4])) n6; rw [e0]; clear e0; replace R4 := up R4 s6; replace B := B.same s6; replace hl := s6 _ _ hl; replace gq := s6 _ _ gq; replace hq := fun y hy => let ⟨d, r, lo⟩ := hq y hy; (⟨d, Rep.same (cutH_frm (s6).frm) _ _ r, lo⟩ : ∃ d, Rep K _ d y /\ ∀ n, depD d <= n + 5); replace Rf := up Rf s6; replace R900 := up R900 s6
      have R6 := rep_tup1 (K := K) (cutH_at g6 u6) (reps_cons B.rt (reps_cons R4 reps_nil))
      replace B := B.add (.inl ⟨_, R6, (dpT (al_cons (dpT (al_nb nb _)) (al_cons (dpT (al_app (al_cons (dpT (al_cons (Nat.zero_le _) (al_cons (hdm _) al_nil))) al_nil) (cutD_sub (al_cs cs _)))) al_nil)))⟩)
      refine ⟨ys, hl, small1000 (by omega), ?_⟩
      exact ⟨_, _, rfl, upd_same, by rw [List.length_append]; show ys.length + 1 <= 24 + (i + 1); omega, B.put nl z0, Rep.same cutH_put _ _ Rf, by rw [upd_ne nq1]; exact gq, fun y hy => let ⟨d, r, lo⟩ := hq y hy; ⟨d, Rep.same cutH_put _ _ r, lo⟩⟩
    . rintro σ H3 ⟨ys, z7, rfl, hl, hlen, B, Rf, _, _⟩
      rw [hql] at hlen
      exact ⟨ys, z7, rfl, hl, by omega, B, Rf⟩
  clear B Rf hl hlen ys
  rintro σ HE ⟨ys, z7, rfl, hl, hlen, B, Rf⟩
  exact q l ys HE B.fr B.fd nl hl (by omega) (fun y hy => (B.ok y hy).same cutH_more)
theorem reps_repl {H : Hp} {ds : List Dv} {us : List V} (h : Reps K H ds us) : ∀ n, Reps K H (List.replicate n ds).flatten (List.replicate n us).flatten
  | 0 => reps_nil
  | n + 1 => by
    rw [List.replicate_succ, List.replicate_succ, List.flatten_cons, List.flatten_cons]
    exact h.append (reps_repl h n)
theorem al_rep {ds : List Dv} {n : Nat} (h : ∀ x ∈ ds, depD x <= n) (k : Nat) : ∀ x ∈ (List.replicate k ds).flatten, depD x <= n := fun x hx => by
  obtain ⟨l, hl, hx⟩ := List.mem_flatten.mp hx
  rw [(List.mem_replicate.mp hl).2] at hx
  exact h x hx
def sp_bentk (K : W.Frag) : Sp := fun vs H Q _ => match vs with
  | [.ref t, .ref tp, .int z] => ∃ (m k : Nat) (bs : List Bool), Feed H t /\ 1 <= m /\ m <= 6 /\ bs.length = 2 ^ m /\ H tp = some (.tup (bs.map V.bl)) /\ z = k /\ ∀ l ys H', Feed H' t -> Frm t H H' -> l ≠ t -> H' l = some (.lst ys) -> ys.length <= 60 -> (∀ y ∈ ys, Odd K (cutH t t H') y) -> Q (.ref l) H'
  | _ => False
theorem sp_bentk_mono : SpMono (sp_bentk K) := fun vs H Q Q' E h q => by
  unfold sp_bentk at *
  split at q
  . revert q; repeat' first | exact h _ _ | exact newL_mono h | walk_at "m"
  . exact q.elim
theorem ok__law_bent : FnOk P w K mg base CX0 5 T.f__law_bent T.d__law_bent ["_law_feed_here", "_law_table_here", "_law_k"] (sp_bentk K) := by
  have G__law_fair := ok__law_fair (P := P) (w := w) (base := base) T; have G__law_kinds_bent := ok__law_kinds_bent (P := P) (w := w) (base := base) T; have G__law_draw := ok__law_draw (P := P) (w := w) (base := base) T; have G__law_nearest := ok__law_nearest (P := P) (w := w) (base := base) T
  refine T.F__law_bent.ok sc__law_bent (fun vs H Q E h => by unfold sp_bentk at h; split at h <;> first | rfl | exact h.elim) (fun cdv A outer s H vs Q E hr h => ?_)
  have hu := hu60 hr
  have mo1 : SpMono (sp_fair K) := sp_fair_mono
  have mo2 : SpMono (sp_kinds K) := sp_kinds_mono
  have mo3 : SpMono (sp_lnear K) := sp_lnear_mono
  have hr__law_fair := hr.mono (show 4 <= _ by decide); have hr__law_kinds_bent := hr.mono (show 1 <= _ by decide); have hr__law_draw := hr.mono (show 1 <= _ by decide); have hr__law_nearest := hr.mono (show 3 <= _ by decide)
  match vs, h with
  | [.ref t, .ref tp, .int z], h =>
  obtain ⟨m, k, bs, F, m1, m6, hb, htp, e1, q⟩ := h
  subst e1
  have h64 : 2 ^ m <= 64 := Nat.pow_le_pow_right (n := 2) (by decide) m6
  have hpo := Nat.two_pow_pos m
  have ntp : tp ≠ t := fun e => by obtain ⟨a, b, c, d, _, h⟩ := F.at_; rw [e, h] at htp; cases htp
  refine ⟨_, (@pss_cons _ _ _ _ _ (@ps_set _ _ 3 _ _ _ _ sc__law_bent.nd rfl (by walk_at "e") (@pe_callB _ _ _ _ _ _ _ _ _ (kLen (K := K)) rfl T.z_len (by rfl) (@pa1 _ _ _ (@vw _ 1 _ _ (by walk_at "v")) (by rfl)) (by decide) (by decide) (by rfl) (by rfl)) (by rfl) (by walk_at "i")) (@pss_cons _ _ _ _ _ (@ps_asg _ _ _ _ _ _ (@pe_call _ _ _ _ _ _ _ _ _ _ _ _ _ _ _ _ G__law_fair hr__law_fair rfl T.m__law_fair T.F__law_fair.kp T.b__law_fair .nil pass0 (@pa_cons _ _ _ _ _ (@vw _ 1 _ _ (by walk_at "v")) (@pa1 _ _ _ (@vw _ 2 _ _ (by walk_at "v")) (by rfl)) (by rfl)) (by decide) (by rfl) (by rfl)) (@kTupA _ K _ _ _ _ 2 rfl (@pgs_cons _ _ _ _ _ (@pg_name _ _ 4 _ sc__law_bent.nd rfl (by walk_at "e") (by walk_at "i")) (@pgs_cons _ _ _ _ _ (@pg_name _ _ 5 _ sc__law_bent.nd rfl (by walk_at "e") (by walk_at "i")) (@pgs_nil _) (by rfl)) (by rfl)) (by rfl) (by rfl) (by rfl)) (by rfl) (by rfl) (by rfl)) (@pss_cons _ _ _ _ _ (@ps_set _ _ 6 _ _ _ _ sc__law_bent.nd rfl (by walk_at "e") (@pe_call _ _ _ _ _ _ _ _ _ _ _ _ _ _ _ _ G__law_kinds_bent hr__law_kinds_bent rfl T.m__law_kinds_bent T.F__law_kinds_bent.kp T.b__law_kinds_bent .nil pass0 (@pa_cons _ _ _ _ _ (@pe_tup _ _ _ _ _ (@pa_cons _ _ _ _ _ (@vw _ 4 _ _ (by walk_at "v")) (@pa1 _ _ _ (@vw _ 5 _ _ (by walk_at "v")) (by rfl)) (by rfl))) (@pa1 _ _ _ (@vw _ 3 _ _ (by walk_at "v")) (by rfl)) (by rfl)) (by decide) (by rfl) (by rfl)) (by rfl) (by walk_at "i")) (@pss_cons _ _ _ _ _ (@ps_set _ _ 7 _ _ _ _ sc__law_bent.nd rfl (by walk_at "e") (@pe_callTy _ _ _ _ _ _ _ _ _ (kTuple (K := K)) rfl T.z_tuple (by rfl) (@pa1 _ _ _ (@pe_compB _ _ _ _ _ _ _ ["_law_one"] 1 [] _ _ _ _ rfl (@kSeq _ K _ _ _ (@vw _ 4 _ _ (by walk_at "v")) (by rfl)) (by kernel_rfl) rfl rfl (by kernel_rfl) (fun c => @pg_name _ _ 0 _ (show (["_law_one"] : List Str).Nodup by decide +kernel) rfl (by walk_at "e") (by walk_at "i")) (go_name (by decide)) (fun c => @pts_nil _) (fun c => (@pe_notM _ _ _ _ (@vw _ 0 _ _ (by walk_at "v")))) (by intro _; rfl)) (by rfl)) (by decide) (by decide) (by rfl) (by rfl)) (by rfl) (by walk_at "i")) (@pss_cons _ _ _ _ _ (@ps_set _ _ 8 _ _ _ _ sc__law_bent.nd rfl (by walk_at "e") (@kIx _ K _ _ _ _ _ (@pe_call _ _ _ _ _ _ _ _ _ _ _ _ _ _ _ _ G__law_nearest hr__law_nearest rfl T.m__law_nearest T.F__law_nearest.kp T.b__law_nearest .nil pass0 (@pa_cons _ _ _ _ _ (@vw _ 1 _ _ (by walk_at "v")) (@pa1 _ _ _ (@pe_op _ _ _ _ _ _ _ _ (kAddA (K := K)) (@vw _ 2 _ _ (by walk_at "v")) (@pe_int _ _ _ _)) (by rfl)) (by rfl)) (by decide) (by rfl) (by rfl)) (@pe_int _ _ _ _) (by intro _ _; rfl) (by rfl)) (by rfl) (by walk_at "i")) (@pss_cons _ _ _ _ _ (@ps_set _ _ 9 _ _ _ _ sc__law_bent.nd rfl (by walk_at "e") (@pe_callTy _ _ _ _ _ _ _ _ _ (kTuple (K := K)) rfl T.z_tuple (by rfl) (@pa1 _ _ _ (@pe_compB _ _ _ _ _ _ _ ["_law_one"] 1 [] _ _ _ _ rfl (@kSeq _ K _ _ _ (@vw _ 5 _ _ (by walk_at "v")) (by rfl)) (by kernel_rfl) rfl rfl (by kernel_rfl) (fun c => @pg_name _ _ 0 _ (show (["_law_one"] : List Str).Nodup by decide +kernel) rfl (by walk_at "e") (by walk_at "i")) (go_name (by decide)) (fun c => @pts_nil _) (fun c => (@pe_tup _ _ _ _ _ (@pa_cons _ _ _ _ _ (@kIx _ K _ _ _ _ _ (@vw _ 0 _ _ (by walk_at "v")) (@pe_int _ _ _ _) (by intro _ _; rfl) (by rfl)) (@pa1 _ _ _ (@pe_str _ _ _ _) (by rfl)) (by rfl)))) (by intro _; rfl)) (by rfl)) (by decide) (by decide) (by rfl) (by rfl)) (by rfl) (by walk_at "i")) (@pss_cons _ _ _ _ _ (@ps_set _ _ 6 _ _ _ _ sc__law_bent.nd rfl (by walk_at "e") (@pe_op _ _ _ _ _ _ _ _ (kAddA (K := K)) (@vw _ 6 _ _ (by walk_at "v")) (@pe_lst _ _ _ _ (@pa_cons _ _ _ _ _ (@pe_tup _ _ _ _ _ (@pa_cons _ _ _ _ _ (@vw _ 7 _ _ (by walk_at "v")) (@pa1 _ _ _ (@vw _ 5 _ _ (by walk_at "v")) (by rfl)) (by rfl))) (@pa_cons _ _ _ _ _ (@pe_tup _ _ _ _ _ (@pa_cons _ _ _ _ _ (@vw _ 7 _ _ (by walk_at "v")) (@pa1 _ _ _ (@vw _ 9 _ _ (by walk_at "v")) (by rfl)) (by rfl))) (@pa_cons _ _ _ _ _ (@pe_tup _ _ _ _ _ (@pa_cons _ _ _ _ _ (@vw _ 8 _ _ (by walk_at "v")) (@pa1 _ _ _ (@vw _ 5 _ _ (by walk_at "v")) (by rfl)) (by rfl))) (@pa_cons _ _ _ _ _ (@pe_tup _ _ _ _ _ (@pa_cons _ _ _ _ _ (@vw _ 4 _ _ (by walk_at "v")) (@pa1 _ _ _ (@vw _ 9 _ _ (by walk_at "v")) (by rfl)) (by rfl))) (@pa1 _ _ _ (@pe_tup _ _ _ _ _ (@pa_cons _ _ _ _ _ (@vw _ 4 _ _ (by walk_at "v")) (@pa1 _ _ _ (@pe_tup _ _ _ _ _ (@pa_nil _)) (by rfl)) (by rfl))) (by rfl)) (by rfl)) (by rfl)) (by rfl)) (by rfl)))) (by rfl) (by walk_at "i")) (@pss_cons _ _ _ _ _ (@ps_set _ _ 6 _ _ _ _ sc__law_bent.nd rfl (by walk_at "e") (@pe_op _ _ _ _ _ _ _ _ (kAddA (K := K)) (@vw _ 6 _ _ (by walk_at "v")) (@pe_lst _ _ _ _ (@pa_cons _ _ _ _ _ (@pe_tup _ _ _ _ _ (@pa_cons _ _ _ _ _ (@vw _ 4 _ _ (by walk_at "v")) (@pa1 _ _ _ (@kCutA _ K _ _ _ _ _ _ _ _ (@vw _ 5 _ _ (by walk_at "v")) (@po_none _) (@po_some _ _ _ (@pe_un _ _ _ _ _ _ um_neg (@pe_int _ _ _ _))) (by rfl)) (by rfl)) (by rfl))) (@pa_cons _ _ _ _ _ (@pe_tup _ _ _ _ _ (@pa_cons _ _ _ _ _ (@vw _ 4 _ _ (by walk_at "v")) (@pa1 _ _ _ (@kCutA _ K _ _ _ _ _ _ _ _ (@vw _ 5 _ _ (by walk_at "v")) (@po_some _ _ _ (@pe_int _ _ _ _)) (@po_none _) (by rfl)) (by rfl)) (by rfl))) (@pa1 _ _ _ (@pe_tup _ _ _ _ _ (@pa_cons _ _ _ _ _ (@vw _ 4 _ _ (by walk_at "v")) (@pa1 _ _ _ (@pe_op _ _ _ _ _ _ _ _ (kAddA (K := K)) (@vw _ 5 _ _ (by walk_at "v")) (@pe_tup _ _ _ _ _ (@pa1 _ _ _ (@pe_tup _ _ _ _ _ (@pa_cons _ _ _ _ _ (@pe_op _ _ _ _ _ _ _ _ om_sub (@vw _ 3 _ _ (by walk_at "v")) (@pe_int _ _ _ _)) (@pa1 _ _ _ (@pe_str _ _ _ _) (by rfl)) (by rfl))) (by rfl)))) (by rfl)) (by rfl))) (by rfl)) (by rfl)) (by rfl)))) (by rfl) (by walk_at "i")) (@pss_cons _ _ _ _ _ (@ps_set _ _ 6 _ _ _ _ sc__law_bent.nd rfl (by walk_at "e") (@pe_op _ _ _ _ _ _ _ _ (kAddA (K := K)) (@vw _ 6 _ _ (by walk_at "v")) (@pe_lst _ _ _ _ (@pa_cons _ _ _ _ _ (@pe_tup _ _ _ _ _ (@pa_cons _ _ _ _ _ (@vw _ 4 _ _ (by walk_at "v")) (@pa1 _ _ _ (@kCutA _ K _ _ _ _ _ _ _ _ (@pe_op _ _ _ _ _ _ _ _ (kMulN (K := K)) (@vw _ 5 _ _ (by walk_at "v")) (@pe_int _ _ _ _)) (@po_none _) (@po_some _ _ _ (@pe_int _ _ _ _)) (by rfl)) (by rfl)) (by rfl))) (@pa_cons _ _ _ _ _ (@pe_tup _ _ _ _ _ (@pa_cons _ _ _ _ _ (@vw _ 4 _ _ (by walk_at "v")) (@pa1 _ _ _ (@kCutA _ K _ _ _ _ _ _ _ _ (@pe_op _ _ _ _ _ _ _ _ (kMulN (K := K)) (@vw _ 5 _ _ (by walk_at "v")) (@pe_int _ _ _ _)) (@po_none _) (@po_some _ _ _ (@pe_int _ _ _ _)) (by rfl)) (by rfl)) (by rfl))) (@pa1 _ _ _ (@pe_tup _ _ _ _ _ (@pa_cons _ _ _ _ _ (@vw _ 4 _ _ (by walk_at "v")) (@pa1 _ _ _ (@pe_op _ _ _ _ _ _ _ _ (kAddA (K := K)) (@pe_tup _ _ _ _ _ (@pa1 _ _ _ (@pe_tup _ _ _ _ _ (@pa_cons _ _ _ _ _ (@pe_op _ _ _ _ _ _ _ _ om_sub (@vw _ 3 _ _ (by walk_at "v")) (@pe_int _ _ _ _)) (@pa1 _ _ _ (@pe_str _ _ _ _) (by rfl)) (by rfl))) (by rfl))) (@vw _ 5 _ _ (by walk_at "v"))) (by rfl)) (by rfl))) (by rfl)) (by rfl)) (by rfl)))) (by rfl) (by walk_at "i")) (@pss_cons _ _ _ _ _ (@ps_set _ _ 10 _ _ _ _ sc__law_bent.nd rfl (by walk_at "e") (@pe_call _ _ _ _ _ _ _ _ _ _ _ _ _ _ _ _ G__law_draw hr__law_draw rfl T.m__law_draw T.F__law_draw.kp T.b__law_draw .nil pass0 (@pa_cons _ _ _ _ _ (@vw _ 0 _ _ (by walk_at "v")) (@pa1 _ _ _ (@pe_callB _ _ _ _ _ _ _ _ _ (kLen (K := K)) rfl T.z_len (by rfl) (@pa1 _ _ _ (@vw _ 5 _ _ (by walk_at "v")) (by rfl)) (by decide) (by decide) (by rfl) (by rfl)) (by rfl)) (by rfl)) (by decide) (by rfl) (by rfl)) (by rfl) (by walk_at "i")) (@pss_cons _ _ _ _ _ (@ps_expr _ _ _ _ (@kAppend _ K _ _ _ _ _ _ (@vw _ 6 _ _ (by walk_at "v")) (@pa1 _ _ _ (@pe_tup _ _ _ _ _ (@pa_cons _ _ _ _ _ (@vw _ 4 _ _ (by walk_at "v")) (@pa1 _ _ _ (@pe_op _ _ _ _ _ _ _ _ (kAddA (K := K)) (@kCutA _ K _ _ _ _ _ _ _ _ (@vw _ 5 _ _ (by walk_at "v")) (@po_none _) (@po_some _ _ _ (@vw _ 10 _ _ (by walk_at "v"))) (by rfl)) (@kCutA _ K _ _ _ _ _ _ _ _ (@vw _ 5 _ _ (by walk_at "v")) (@po_some _ _ _ (@pe_op _ _ _ _ _ _ _ _ (kAddA (K := K)) (@vw _ 10 _ _ (by walk_at "v")) (@pe_int _ _ _ _))) (@po_none _) (by rfl))) (by rfl)) (by rfl))) (by rfl)) (by rfl) (by rfl) (by rfl) (by rfl) (by rfl) (by rfl)) (by rfl)) (@pss_cons _ _ _ _ _ (@ps_expr _ _ _ _ (@kAppend _ K _ _ _ _ _ _ (@vw _ 6 _ _ (by walk_at "v")) (@pa1 _ _ _ (@pe_tup _ _ _ _ _ (@pa_cons _ _ _ _ _ (@vw _ 4 _ _ (by walk_at "v")) (@pa1 _ _ _ (@pe_op _ _ _ _ _ _ _ _ (kAddA (K := K)) (@pe_op _ _ _ _ _ _ _ _ (kAddA (K := K)) (@kCutA _ K _ _ _ _ _ _ _ _ (@vw _ 5 _ _ (by walk_at "v")) (@po_none _) (@po_some _ _ _ (@vw _ 10 _ _ (by walk_at "v"))) (by rfl)) (@pe_tup _ _ _ _ _ (@pa1 _ _ _ (@pe_tup _ _ _ _ _ (@pa_cons _ _ _ _ _ (@kIx _ K _ _ _ _ _ (@kIx _ K _ _ _ _ _ (@vw _ 5 _ _ (by walk_at "v")) (@vw _ 10 _ _ (by walk_at "v")) (by intro _ _; rfl) (by rfl)) (@pe_int _ _ _ _) (by intro _ _; rfl) (by rfl)) (@pa1 _ _ _ (@pe_str _ _ _ _) (by rfl)) (by rfl))) (by rfl)))) (@kCutA _ K _ _ _ _ _ _ _ _ (@vw _ 5 _ _ (by walk_at "v")) (@po_some _ _ _ (@pe_op _ _ _ _ _ _ _ _ (kAddA (K := K)) (@vw _ 10 _ _ (by walk_at "v")) (@pe_int _ _ _ _))) (@po_none _) (by rfl))) (by rfl)) (by rfl))) (by rfl)) (by rfl) (by rfl) (by rfl) (by rfl) (by rfl) (by rfl)) (by rfl)) (@pss_one _ _ _ (@ps_ret _ _ _ _ (@pe_op _ _ _ _ _ _ _ _ (kAddA (K := K)) (@vw _ 6 _ _ (by walk_at "v")) (@pe_lst _ _ _ _ (@pa_cons _ _ _ _ _ (@pe_tup _ _ _ _ _ (@pa_cons _ _ _ _ _ (@vw _ 4 _ _ (by walk_at "v")) (@pa1 _ _ _ (@kBack _ K _ _ _ _ _ _ (@vw _ 5 _ _ (by walk_at "v")) (@pe_un _ _ _ _ _ _ um_neg (@pe_int _ _ _ _)) (by rfl)) (by rfl)) (by rfl))) (@pa1 _ _ _ (@pe_tup _ _ _ _ _ (@pa_cons _ _ _ _ _ (@vw _ 4 _ _ (by walk_at "v")) (@pa1 _ _ _ (@vw _ 5 _ _ (by walk_at "v")) (by rfl)) (by rfl))) (by rfl)) (by rfl)))))))))))))))))), ?_⟩
  refine seq_at (fun σ H' => σ = [some (.ref t), some (.ref tp), some (.int k), some (.int (2 ^ m : Nat)), none, none, none, none, none, none, none] /\ H = H') ⟨2 ^ m, .inr ⟨_, .of htp, by rw [List.length_map, hb]⟩, rfl, rfl⟩ ?_ (by walk_at "sm")
  rintro σ _ ⟨rfl, rfl⟩
  obtain ⟨S, hS, S1, S2⟩ : ∃ S : Int, ((2 ^ m : Nat) : Int) = S /\ 1 <= S /\ S <= 64 := ⟨_, rfl, by omega, by omega⟩
  rw [hS]
  refine ⟨m, k, bs, .of htp, hb, m1, m6, rfl, fun v nb cs H1 s1 hol hv hc1 hcl hcs => ?_⟩
  have hnl : nb.length <= 64 := by omega
  have hn1 : 1 <= nb.length := by omega
  have hv' := hv
  unfold papD at hv'
  obtain ⟨pa, x0, y0, rfl, hpa, r0, r1⟩ := rep_two_inv hv'
  obtain ⟨ax, xs0, rfl, hax, _⟩ := rep_tup_inv r0
  obtain ⟨ay, ys0, rfl, hay, hR⟩ := rep_tup_inv r1
  refine ⟨_, .inr hpa, rfl, _, _, rfl, _, _, rfl, rfl, ?_⟩
  dsimp only [gName]
  have F1 := F.same s1
  refine ⟨small_le (show 2 <= 1000 by decide), fun p2 n2 => ?_⟩
  have s2 := Same.upd (o := .tup [.ref ax, .ref ay]) n2
  have g2 := upd_same (H := H1) (a := p2) (o := .tup [.ref ax, .ref ay])
  generalize L2.upd H1 p2 (.tup [.ref ax, .ref ay]) = H2 at *
  have F2 := F1.same s2
  have r02 := Rep.same s2 _ _ r0
  have r12 := Rep.same s2 _ _ r1
  refine ⟨t, m, nb, cs, F2, m1, m6, hS.symm, hol, rep_tup1 g2 (reps_cons r02 (reps_cons r12 reps_nil)), hc1, hcl, fun l ys H3 fr3 F3 nl hl hlen ok => ?_⟩
  dsimp only [gName]
  have fr03 : Frm t H H3 := (s1.trans s2).frm.trans fr3
  have tn : tupOnly (.tup (nb.map Dv.bl)) = true := by unfold tupOnly; exact tups_bl nb
  have tc : tupOnly (.tup (cs.map covD)) = true := by unfold tupOnly; exact tups_cov cs
  have htp3 := fr03 _ _ ntp htp
  have B : Bt K t t H ax (nb.map Dv.bl) (.ref ay) (.tup (cs.map covD)) ys H3 := ⟨F3, F3.lst, fr03, cutH_tup F3.lst tn (Rep.frm fr3 F2.lst _ _ tn r02), cutH_tup F3.lst tc (Rep.frm fr3 F2.lst _ _ tc r12), ok⟩
  clear ok r02 r12 F2 fr3 s2 g2 n2 r0 r1 hv hv' hpa hax hay hR F1 s1 F3 fr03
  refine seq_at (fun σ H' => ∃ pc : Addr, σ = [some (.ref t), some (.ref tp), some (.int k), some (.int S), some (.ref ax), some (.ref ay), some (.ref l), some (.ref pc), none, none, none] /\ Same H3 H' /\ Rep K (cutH t t H') (.tup ((nb.map not).map Dv.bl)) (.ref pc)) ?_ ?_ (by walk_at "sm")
  . have hbb := bls_of B.rt
    refine .inr ⟨⟨_, hbb⟩, ?_⟩
    refine comp_tup (xs := nb.map V.bl) (fun i zs H' => H' = H3 /\ zs = ((nb.take i).map not).map V.bl) ⟨rfl, rfl⟩ (fun i ys H' _ ⟨e, _⟩ => by rw [e]; exact hbb) (fun i ys H' hi ⟨_, e⟩ => by
      rw [List.length_map] at hi
      rw [e, List.length_map, List.length_map, List.length_take]; exact small1000 (by omega)) ?_ ?_
    . rintro i x zs H' hx ⟨rfl, rfl⟩
      rw [List.getElem?_map] at hx
      cases er : nb[i]? with
      | none => rw [er] at hx; cases hx
      | some c =>
        rw [er] at hx
        cases hx
        refine ⟨rfl, ?_⟩
        rw [List.take_add_one, er, List.map_append, List.map_append]
        cases c <;> rfl
    . rintro zs H' ⟨rfl, rfl⟩ lp hlp
      rw [List.length_map, List.take_length]
      refine ⟨_, .inl ⟨.of upd_same, fun q3 n3 => ?_⟩⟩
      have u3 := (B.same (Same.upd (o := .lst ((nb.map not).map V.bl)) hlp)).ne n3
      exact ⟨q3, rfl, (Same.upd hlp).trans (Same.upd n3), rep_tup1 (cutH_at upd_same u3) (reps_bl _)⟩
  rintro σ H4 ⟨pc, rfl, s4, Rct⟩
  replace B := B.same s4; replace hl := s4 _ _ hl
  have htp4 := s4 _ _ htp3
  refine seq_at (fun σ H' => ∃ (pw : Addr) (wi : List Bool), σ = [some (.ref t), some (.ref tp), some (.int k), some (.int S), some (.ref ax), some (.ref ay), some (.ref l), some (.ref pc), some (.ref pw), none, none] /\ Same H4 H' /\ Rep K (cutH t t H') (.tup (wi.map Dv.bl)) (.ref pw)) ?_ ?_ (by walk_at "sm")
  . refine ⟨m, k + 1, bs, .of htp4, hb, m6, by show (k : Int) + 1 = ((k + 1 : Nat) : Int); omega, fun u H5 s5 r5 => ?_⟩
    obtain ⟨a5, x5, y5, rfl, h5, hx5⟩ := best_tab r5
    refine ⟨_, _, .inr h5, atI_of (n := 0) rfl rfl, ?_⟩
    obtain ⟨pw, _, rfl, _, _⟩ := rep_tup_inv hx5
    exact ⟨pw, _, rfl, s5, cutH_tup (B.same s5).fd.lst (by unfold tupOnly; exact tups_bl _) hx5⟩
  rintro σ H5 ⟨pw, wi, rfl, s5, Rwi⟩
  replace B := B.same s5; replace hl := s5 _ _ hl; replace Rct := up Rct s5
  refine seq_at (fun σ H' => ∃ pb : Addr, σ = [some (.ref t), some (.ref tp), some (.int k), some (.int S), some (.ref ax), some (.ref ay), some (.ref l), some (.ref pc), some (.ref pw), some (.ref pb), none] /\ Same H5 H' /\ Rep K (cutH t t H') (.tup ((cs.map fun c => (c.1, Str.ofString "weights")).map covD)) (.ref pb)) ?_ ?_ (by walk_at "sm")
  . obtain ⟨xs6, hx6, rx6⟩ := sqs_of B.rz
    have hx6l := rx6.length
    rw [List.length_map] at hx6l
    refine .inr ⟨⟨_, hx6⟩, ?_⟩
    refine comp_tup (xs := xs6) (fun i zs H' => Same H5 H' /\ Reps K (cutH t t H') (((cs.take i).map fun c => (c.1, Str.ofString "weights")).map covD) zs) ⟨Same.refl _, reps_nil⟩ (fun i zs H' _ ⟨s, _⟩ => s.sqT hx6) (fun i zs H' hi ⟨_, e⟩ => by
      have := e.length
      rw [List.length_map, List.length_map, List.length_take] at this
      rw [<- this]; exact small1000 (by omega)) ?_ ?_
    . rintro i x zs H' hx ⟨s', r'⟩
      obtain ⟨dd, hdd, rd⟩ := reps_get rx6 hx
      rw [List.getElem?_map] at hdd
      obtain ⟨⟨c6, w6⟩, hc6, rfl⟩ := Option.map_eq_some_iff.mp hdd
      obtain ⟨p6, _, _, rfl, _⟩ := rep_two_inv (show Rep K _ (.tup [.int (c6 : Int), .str w6]) _ from rd)
      have rd' := up (show Rep K _ (.tup [.int (c6 : Int), .str w6]) (.ref p6) from rd) s'
      refine ⟨_, _, .inr (two_of rd'), rfl, small_le (show 2 <= 1000 by decide), fun p7 n7 => ⟨s'.trans (Same.upd n7), ?_⟩⟩
      have u7 := (B.same s').ne n7
      rw [List.take_add_one, hc6, List.map_append, List.map_append]
      exact (Reps.same (cutH_frm (Same.upd n7).frm) _ _ r').append (reps_cons (rep_tup1 (cutH_at upd_same u7) (reps_cons rep_int (reps_cons rep_str reps_nil))) reps_nil)
    . rintro zs H' ⟨s', r'⟩ lp hlp
      rw [<- hx6l, List.take_length] at r'
      refine ⟨_, .inl ⟨.of upd_same, fun q3 n3 => ?_⟩⟩
      have sl := Same.upd (o := .lst zs) hlp
      have u3 := (B.same (s'.trans sl)).ne n3
      exact ⟨q3, rfl, s'.trans (sl.trans (Same.upd n3)), rep_tup1 (cutH_at upd_same u3) (Reps.same (cutH_frm (sl.trans (Same.upd n3)).frm) _ _ r')⟩
  rintro σ Ha ⟨pb, rfl, s6, Rbw⟩
  replace B := B.same s6; replace hl := s6 _ _ hl; replace Rct := up Rct s6; replace Rwi := up Rwi s6
  clear htp3 htp4
  refine seq_at (fun σ H' => ∃ (l : Addr) (ys : List V), σ = [some (.ref t), some (.ref tp), some (.int k), some (.int S), some (.ref ax), some (.ref ay), some (.ref l), some (.ref pc), some (.ref pw), some (.ref pb), none] /\ H' l = some (.lst ys) /\ l ≠ t /\ ys.length <= 45 /\ Bt K t t H ax (nb.map Dv.bl) (.ref ay) (.tup (cs.map covD)) ys H') ?_ ?_ (by walk_at "sm")
  . refine ⟨sm2, fun p1 n1 => ?_⟩
    have u1 := B.ne n1; obtain ⟨H1, s1, g1, e0⟩ := newH (o := (.tup [.ref pc, .ref ay])) n1; rw [e0]; clear e0; replace B := B.same s1; replace hl := s1 _ _ hl; replace Rct := up Rct s1; replace Rwi := up Rwi s1; replace Rbw := up Rbw s1
    have R1 := rep_tup1 (K := K) (cutH_at g1 u1) (reps_cons Rct (reps_cons B.rz reps_nil))
    replace B := B.add (.inl ⟨_, R1, (dpT (al_cons (dpT (al_nb (nb.map not) _)) (al_cons (dpT (al_cs cs _)) al_nil)))⟩)
    refine ⟨sm2, fun p2 n2 => ?_⟩
    have u2 := B.ne n2; obtain ⟨H2, s2, g2, e0⟩ := newH (o := (.tup [.ref pc, .ref pb])) n2; rw [e0]; clear e0; replace B := B.same s2; replace hl := s2 _ _ hl; replace Rct := up Rct s2; replace Rwi := up Rwi s2; replace Rbw := up Rbw s2
    have R2 := rep_tup1 (K := K) (cutH_at g2 u2) (reps_cons Rct (reps_cons Rbw reps_nil))
    replace B := B.add (.inl ⟨_, R2, (dpT (al_cons (dpT (al_nb (nb.map not) _)) (al_cons (dpT (al_cs (cs.map fun c => (c.1, Str.ofString "weights")) _)) al_nil)))⟩)
    refine ⟨sm2, fun p3 n3 => ?_⟩
    have u3 := B.ne n3; obtain ⟨H3, s3, g3, e0⟩ := newH (o := (.tup [.ref pw, .ref ay])) n3; rw [e0]; clear e0; replace B := B.same s3; replace hl := s3 _ _ hl; replace Rct := up Rct s3; replace Rwi := up Rwi s3; replace Rbw := up Rbw s3
    have R3 := rep_tup1 (K := K) (cutH_at g3 u3) (reps_cons Rwi (reps_cons B.rz reps_nil))
    replace B := B.add (.inl ⟨_, R3, (dpT (al_cons (dpT (al_nb wi _)) (al_cons (dpT (al_cs cs _)) al_nil)))⟩)
    refine ⟨sm2, fun p4 n4 => ?_⟩
    have u4 := B.ne n4; obtain ⟨H4, s4, g4, e0⟩ := newH (o := (.tup [.ref ax, .ref pb])) n4; rw [e0]; clear e0; replace B := B.same s4; replace hl := s4 _ _ hl; replace Rct := up Rct s4; replace Rwi := up Rwi s4; replace Rbw := up Rbw s4
    have R4 := rep_tup1 (K := K) (cutH_at g4 u4) (reps_cons B.rt (reps_cons Rbw reps_nil))
    replace B := B.add (.inl ⟨_, R4, (dpT (al_cons (dpT (al_nb nb _)) (al_cons (dpT (al_cs (cs.map fun c => (c.1, Str.ofString "weights")) _)) al_nil)))⟩)
    refine ⟨sm0, fun p5 n5 => ?_⟩
    have u5 := B.ne n5; obtain ⟨H5, s5, g5, e0⟩ := newH (o := (.tup [])) n5; rw [e0]; clear e0; replace B := B.same s5; replace hl := s5 _ _ hl; replace Rct := up Rct s5; replace Rwi := up Rwi s5; replace Rbw := up Rbw s5
    have R5 := rep_tup1 (K := K) (cutH_at g5 u5) reps_nil
    refine ⟨sm2, fun p6 n6 => ?_⟩
    have u6 := B.ne n6; obtain ⟨H6, s6, g6, e0⟩ := newH (o := (.tup [.ref ax, .ref p5])) n6; rw [e0]; clear e0; replace R5 := up R5 s6; replace B := B.same s6; replace hl := s6 _ _ hl; replace Rct := up Rct s6; replace Rwi := up Rwi s6; replace Rbw := up Rbw s6
    have R6 := rep_tup1 (K := K) (cutH_at g6 u6) (reps_cons B.rt (reps_cons R5 reps_nil))
    replace B := B.add (.inl ⟨_, R6, (dpT (al_cons (dpT (al_nb nb _)) (al_cons (dpT al_nil) al_nil)))⟩)
    refine ⟨sm5, fun p7 n7 => ?_⟩
    have u7 := B.ne n7; obtain ⟨H7, s7, g7, e0⟩ := newH (o := (.lst [.ref p1, .ref p2, .ref p3, .ref p4, .ref p6])) n7; rw [e0]; clear e0; replace B := B.same s7; replace hl := s7 _ _ hl; replace Rct := up Rct s7; replace Rwi := up Rwi s7; replace Rbw := up Rbw s7
    refine .inl ⟨l, p7, ys, [(.ref p1 : V), (.ref p2 : V), (.ref p3 : V), (.ref p4 : V), (.ref p6 : V)], rfl, rfl, hl, g7, small_le (by simp only [List.length_cons, List.length_nil]; omega), fun p8 n8 => ?_⟩
    have u8 := B.ne n8; obtain ⟨H8, s8, g8, e0⟩ := newH (o := (.lst (ys ++ [.ref p1, .ref p2, .ref p3, .ref p4, .ref p6]))) n8; rw [e0]; clear e0; replace Rct := up Rct s8; replace Rwi := up Rwi s8; replace Rbw := up Rbw s8; replace B := B.same s8
    exact ⟨p8, _, rfl, g8, u8.1, by simp only [List.length_append, List.length_cons, List.length_nil]; omega, B.re (fun x hx => by simpa only [List.mem_append, List.mem_cons, List.not_mem_nil, or_false, false_or, or_assoc] using hx)⟩
  clear B hl nl hlen ys l Rct Rwi Rbw
  rintro σ Ha ⟨l, ys, rfl, hl, nl, hlen, B⟩
  refine seq_at (fun σ H' => ∃ (l : Addr) (ys : List V), σ = [some (.ref t), some (.ref tp), some (.int k), some (.int S), some (.ref ax), some (.ref ay), some (.ref l), some (.ref pc), some (.ref pw), some (.ref pb), none] /\ H' l = some (.lst ys) /\ l ≠ t /\ ys.length <= 48 /\ Bt K t t H ax (nb.map Dv.bl) (.ref ay) (.tup (cs.map covD)) ys H') ?_ ?_ (by walk_at "sm")
  . obtain ⟨xa1, ha1, ra1⟩ := sqs_of B.rz
    refine ⟨(-1), rfl, xa1, ha1, fun p1 H1 s1 c1 => ?_⟩
    replace B := B.same s1; replace hl := s1 _ _ hl
    have R1 := rep_tup2 (sqT_cut B.fd.lst B.fl c1) (reps_cut _ _ (ups ra1 s1))
    refine ⟨sm2, fun p2 n2 => ?_⟩
    have u2 := B.ne n2; obtain ⟨H2, s2, g2, e0⟩ := newH (o := (.tup [.ref ax, .ref p1])) n2; rw [e0]; clear e0; replace R1 := up R1 s2; replace B := B.same s2; replace hl := s2 _ _ hl
    have R2 := rep_tup1 (K := K) (cutH_at g2 u2) (reps_cons B.rt (reps_cons R1 reps_nil))
    replace B := B.add (.inl ⟨_, R2, (dpT (al_cons (dpT (al_nb nb _)) (al_cons (dpT (cutD_sub (al_cs cs _))) al_nil)))⟩)
    obtain ⟨xa3, ha3, ra3⟩ := sqs_of B.rz
    refine ⟨1, rfl, xa3, ha3, fun p3 H3 s3 c3 => ?_⟩
    replace B := B.same s3; replace hl := s3 _ _ hl
    have R3 := rep_tup2 (sqT_cut B.fd.lst B.fl c3) (reps_cut _ _ (ups ra3 s3))
    refine ⟨sm2, fun p4 n4 => ?_⟩
    have u4 := B.ne n4; obtain ⟨H4, s4, g4, e0⟩ := newH (o := (.tup [.ref ax, .ref p3])) n4; rw [e0]; clear e0; replace R3 := up R3 s4; replace B := B.same s4; replace hl := s4 _ _ hl
    have R4 := rep_tup1 (K := K) (cutH_at g4 u4) (reps_cons B.rt (reps_cons R3 reps_nil))
    replace B := B.add (.inl ⟨_, R4, (dpT (al_cons (dpT (al_nb nb _)) (al_cons (dpT (cutD_sub (al_cs cs _))) al_nil)))⟩)
    refine ⟨sm2, fun p5 n5 => ?_⟩
    have u5 := B.ne n5; obtain ⟨H5, s5, g5, e0⟩ := newH (o := (.tup [.int (S - 1), .str (Str.ofString "whole")])) n5; rw [e0]; clear e0; replace B := B.same s5; replace hl := s5 _ _ hl
    have R5 := rep_tup1 (K := K) (cutH_at g5 u5) (reps_cons rep_int (reps_cons rep_str reps_nil))
    refine ⟨sm1, fun p6 n6 => ?_⟩
    have u6 := B.ne n6; obtain ⟨H6, s6, g6, e0⟩ := newH (o := (.tup [.ref p5])) n6; rw [e0]; clear e0; replace R5 := up R5 s6; replace B := B.same s6; replace hl := s6 _ _ hl
    have R6 := rep_tup1 (K := K) (cutH_at g6 u6) (reps_cons R5 reps_nil)
    obtain ⟨xa7, ha7, ra7⟩ := sqs_of B.rz
    obtain ⟨xb7, hb7, rb7⟩ := sqs_of R6
    refine .inr ⟨xa7, xb7, ha7, hb7, by have h1 := ra7.length; have h2 := rb7.length; simp only [List.length_append, List.length_map, List.length_cons, List.length_nil, List.length_reverse] at h1 h2 ; exact small_le (by omega), fun p7 H7 s7 c7 => ?_⟩
    replace B := B.same s7; replace hl := s7 _ _ hl
    have R7 := rep_tup2 (sqT_cut B.fd.lst B.fl c7) ((ups ra7 s7).append (ups rb7 s7))
    refine ⟨sm2, fun p8 n8 => ?_⟩
    have u8 := B.ne n8; obtain ⟨H8, s8, g8, e0⟩ := newH (o := (.tup [.ref ax, .ref p7])) n8; rw [e0]; clear e0; replace R7 := up R7 s8; replace B := B.same s8; replace hl := s8 _ _ hl
    have R8 := rep_tup1 (K := K) (cutH_at g8 u8) (reps_cons B.rt (reps_cons R7 reps_nil))
    replace B := B.add (.inl ⟨_, R8, (dpT (al_cons (dpT (al_nb nb _)) (al_cons (dpT (al_app (al_cs cs _) (al_cons (dpT (al_cons (Nat.zero_le _) (al_cons (Nat.zero_le _) al_nil))) al_nil))) al_nil)))⟩)
    refine ⟨sm3, fun p9 n9 => ?_⟩
    have u9 := B.ne n9; obtain ⟨H9, s9, g9, e0⟩ := newH (o := (.lst [.ref p2, .ref p4, .ref p8])) n9; rw [e0]; clear e0; replace B := B.same s9; replace hl := s9 _ _ hl
    refine .inl ⟨l, p9, ys, [(.ref p2 : V), (.ref p4 : V), (.ref p8 : V)], rfl, rfl, hl, g9, small_le (by simp only [List.length_cons, List.length_nil]; omega), fun p10 n10 => ?_⟩
    have u10 := B.ne n10; obtain ⟨H10, s10, g10, e0⟩ := newH (o := (.lst (ys ++ [.ref p2, .ref p4, .ref p8]))) n10; rw [e0]; clear e0; replace B := B.same s10
    exact ⟨p10, _, rfl, g10, u10.1, by simp only [List.length_append, List.length_cons, List.length_nil]; omega, B.re (fun x hx => by simpa only [List.mem_append, List.mem_cons, List.not_mem_nil, or_false, false_or, or_assoc] using hx)⟩
  clear B hl nl hlen ys l
  rintro σ Ha ⟨l, ys, rfl, hl, nl, hlen, B⟩
  refine seq_at (fun σ H' => ∃ (l : Addr) (ys : List V), σ = [some (.ref t), some (.ref tp), some (.int k), some (.int S), some (.ref ax), some (.ref ay), some (.ref l), some (.ref pc), some (.ref pw), some (.ref pb), none] /\ H' l = some (.lst ys) /\ l ≠ t /\ H l = none /\ ys.length <= 51 /\ Bt K t l H ax (nb.map Dv.bl) (.ref ay) (.tup (cs.map covD)) ys H') ?_ ?_ (by walk_at "sm")
  . obtain ⟨xa1, ha1, ra1⟩ := sqs_of B.rz
    refine ⟨xa1, ha1, (fun z => by have h1 := ra1.length; rw [z, List.length_map, List.length_nil] at h1; omega), by decide, by decide, (by have h1 := ra1.length; rw [List.length_map] at h1; exact Nat.le_trans (show xa1.length * (64 : Int).toNat <= 5000 by show xa1.length * 64 <= 5000; omega) (by decide)), (fun z => absurd z (by decide)), fun _ p1 n1 => ?_⟩
    have u1 := B.ne n1; obtain ⟨H1, s1, g1, e0⟩ := newH (o := (.tup (List.replicate (64 : Int).toNat xa1).flatten)) n1; rw [e0]; clear e0; replace B := B.same s1; replace hl := s1 _ _ hl
    have R1 := rep_tup1 (K := K) (cutH_at g1 u1) (reps_repl (ups ra1 s1) _)
    obtain ⟨xa2, ha2, ra2⟩ := sqs_of R1
    refine ⟨64, rfl, xa2, ha2, fun p2 H2 s2 c2 => ?_⟩
    replace B := B.same s2; replace hl := s2 _ _ hl
    have R2 := rep_tup2 (sqT_cut B.fd.lst B.fl c2) (reps_cut _ _ (ups ra2 s2))
    refine ⟨sm2, fun p3 n3 => ?_⟩
    have u3 := B.ne n3; obtain ⟨H3, s3, g3, e0⟩ := newH (o := (.tup [.ref ax, .ref p2])) n3; rw [e0]; clear e0; replace R2 := up R2 s3; replace B := B.same s3; replace hl := s3 _ _ hl
    have R3 := rep_tup1 (K := K) (cutH_at g3 u3) (reps_cons B.rt (reps_cons R2 reps_nil))
    replace B := B.add (.inl ⟨_, R3, (dpT (al_cons (dpT (al_nb nb _)) (al_cons (dpT (cutD_sub (al_rep (al_cs cs _) _))) al_nil)))⟩)
    obtain ⟨xa4, ha4, ra4⟩ := sqs_of B.rz
    refine ⟨xa4, ha4, (fun z => by have h1 := ra4.length; rw [z, List.length_map, List.length_nil] at h1; omega), by decide, by decide, (by have h1 := ra4.length; rw [List.length_map] at h1; exact Nat.le_trans (show xa4.length * (65 : Int).toNat <= 5000 by show xa4.length * 65 <= 5000; omega) (by decide)), (fun z => absurd z (by decide)), fun _ p4 n4 => ?_⟩
    have u4 := B.ne n4; obtain ⟨H4, s4, g4, e0⟩ := newH (o := (.tup (List.replicate (65 : Int).toNat xa4).flatten)) n4; rw [e0]; clear e0; replace B := B.same s4; replace hl := s4 _ _ hl
    have R4 := rep_tup1 (K := K) (cutH_at g4 u4) (reps_repl (ups ra4 s4) _)
    obtain ⟨xa5, ha5, ra5⟩ := sqs_of R4
    refine ⟨65, rfl, xa5, ha5, fun p5 H5 s5 c5 => ?_⟩
    replace B := B.same s5; replace hl := s5 _ _ hl
    have R5 := rep_tup2 (sqT_cut B.fd.lst B.fl c5) (reps_cut _ _ (ups ra5 s5))
    refine ⟨sm2, fun p6 n6 => ?_⟩
    have u6 := B.ne n6; obtain ⟨H6, s6, g6, e0⟩ := newH (o := (.tup [.ref ax, .ref p5])) n6; rw [e0]; clear e0; replace R5 := up R5 s6; replace B := B.same s6; replace hl := s6 _ _ hl
    have R6 := rep_tup1 (K := K) (cutH_at g6 u6) (reps_cons B.rt (reps_cons R5 reps_nil))
    replace B := B.add (.inl ⟨_, R6, (dpT (al_cons (dpT (al_nb nb _)) (al_cons (dpT (cutD_sub (al_rep (al_cs cs _) _))) al_nil)))⟩)
    refine ⟨sm2, fun p7 n7 => ?_⟩
    have u7 := B.ne n7; obtain ⟨H7, s7, g7, e0⟩ := newH (o := (.tup [.int (S - 1), .str (Str.ofString "weights")])) n7; rw [e0]; clear e0; replace B := B.same s7; replace hl := s7 _ _ hl
    have R7 := rep_tup1 (K := K) (cutH_at g7 u7) (reps_cons rep_int (reps_cons rep_str reps_nil))
    refine ⟨sm1, fun p8 n8 => ?_⟩
    have u8 := B.ne n8; obtain ⟨H8, s8, g8, e0⟩ := newH (o := (.tup [.ref p7])) n8; rw [e0]; clear e0; replace R7 := up R7 s8; replace B := B.same s8; replace hl := s8 _ _ hl
    have R8 := rep_tup1 (K := K) (cutH_at g8 u8) (reps_cons R7 reps_nil)
    obtain ⟨xa9, ha9, ra9⟩ := sqs_of R8
    obtain ⟨xb9, hb9, rb9⟩ := sqs_of B.rz
    refine .inr ⟨xa9, xb9, ha9, hb9, by have h1 := ra9.length; have h2 := rb9.length; simp only [List.length_append, List.length_map, List.length_cons, List.length_nil, List.length_reverse] at h1 h2 ; exact small_le (by omega), fun p9 H9 s9 c9 => ?_⟩
    replace B := B.same s9; replace hl := s9 _ _ hl
    have R9 := rep_tup2 (sqT_cut B.fd.lst B.fl c9) ((ups ra9 s9).append (ups rb9 s9))
    refine ⟨sm2, fun p10 n10 => ?_⟩
    have u10 := B.ne n10; obtain ⟨H10, s10, g10, e0⟩ := newH (o := (.tup [.ref ax, .ref p9])) n10; rw [e0]; clear e0; replace R9 := up R9 s10; replace B := B.same s10; replace hl := s10 _ _ hl
    have R10 := rep_tup1 (K := K) (cutH_at g10 u10) (reps_cons B.rt (reps_cons R9 reps_nil))
    replace B := B.add (.inl ⟨_, R10, (dpT (al_cons (dpT (al_nb nb _)) (al_cons (dpT (al_app (al_cons (dpT (al_cons (Nat.zero_le _) (al_cons (Nat.zero_le _) al_nil))) al_nil) (al_cs cs _))) al_nil)))⟩)
    refine ⟨sm3, fun p11 n11 => ?_⟩
    have u11 := B.ne n11; obtain ⟨H11, s11, g11, e0⟩ := newH (o := (.lst [.ref p3, .ref p6, .ref p10])) n11; rw [e0]; clear e0; replace B := B.same s11; replace hl := s11 _ _ hl
    refine .inl ⟨l, p11, ys, [(.ref p3 : V), (.ref p6 : V), (.ref p10 : V)], rfl, rfl, hl, g11, small_le (by simp only [List.length_cons, List.length_nil]; omega), fun p12 n12 => ?_⟩
    have u12 := B.ne n12
    have z0 := B.fd.free B.fr n12
    obtain ⟨H12, s12, g12, e0⟩ := newH (o := (.lst (ys ++ [.ref p3, .ref p6, .ref p10]))) n12; rw [e0]; clear e0; replace B := B.new s12 n12 g12
    exact ⟨p12, _, rfl, g12, u12.1, z0, by simp only [List.length_append, List.length_cons, List.length_nil]; omega, B.re (fun x hx => by simpa only [List.mem_append, List.mem_cons, List.not_mem_nil, or_false, false_or, or_assoc] using hx)⟩
  clear B hl nl hlen ys l
  rintro σ Ha ⟨l, ys, rfl, hl, nl, z0, hlen, B⟩
  obtain ⟨xsl, hxl, rxl⟩ := sqs_of B.rz
  have hxll : cs.length = xsl.length := by have := rxl.length; rw [List.length_map] at this; exact this
  refine seq_at (fun σ H' => ∃ n0 : Nat, σ = [some (.ref t), some (.ref tp), some (.int k), some (.int S), some (.ref ax), some (.ref ay), some (.ref l), some (.ref pc), some (.ref pw), some (.ref pb), some (.int (n0 : Int))] /\ n0 < cs.length /\ H' l = some (.lst ys) /\ Bt K t l H ax (nb.map Dv.bl) (.ref ay) (.tup (cs.map covD)) ys H') ?_ ?_ (by walk_at "sm")
  . refine ⟨cs.length, .inr ⟨xsl, hxl, hxll⟩, B.fd, okDiv_of (by omega) (Int.le_trans (Int.ofNat_le.mpr hcl) (by decide)), fun d H1 d0 d1 F1 f1 => ?_⟩
    obtain ⟨n0, rfl⟩ := Int.eq_ofNat_of_zero_le d0
    exact ⟨n0, rfl, by omega, by rw [f1 l nl]; exact hl, B.draw F1 f1⟩
  clear B hl hxl rxl hxll
  rintro σ Hd ⟨n0, rfl, hn0, hl, B⟩
  refine seq_at (fun σ H' => ∃ ys : List V, σ = [some (.ref t), some (.ref tp), some (.int k), some (.int S), some (.ref ax), some (.ref ay), some (.ref l), some (.ref pc), some (.ref pw), some (.ref pb), some (.int (n0 : Int))] /\ H' l = some (.lst ys) /\ ys.length <= 52 /\ Bt K t l H ax (nb.map Dv.bl) (.ref ay) (.tup (cs.map covD)) ys H') ?_ ?_ (by walk_at "sm")
  . refine ⟨.inl ⟨rfl, _, .of hl⟩, ?_⟩
    obtain ⟨xa1, ha1, ra1⟩ := sqs_of B.rz
    refine ⟨(n0 : Int), rfl, xa1, ha1, fun p1 H1 s1 c1 => ?_⟩
    replace B := B.same s1; replace hl := s1 _ _ hl
    have R1 := rep_tup2 (sqT_cut B.fd.lst B.fl c1) (reps_cut _ _ (ups ra1 s1))
    obtain ⟨xa2, ha2, ra2⟩ := sqs_of B.rz
    refine ⟨((n0 : Int) + 1), rfl, xa2, ha2, fun p2 H2 s2 c2 => ?_⟩
    replace B := B.same s2; replace hl := s2 _ _ hl; replace R1 := up R1 s2
    have R2 := rep_tup2 (sqT_cut B.fd.lst B.fl c2) (reps_cut _ _ (ups ra2 s2))
    obtain ⟨xa3, ha3, ra3⟩ := sqs_of R1
    obtain ⟨xb3, hb3, rb3⟩ := sqs_of R2
    have k4 := cutD_len (cs.map covD) none (some (n0 : Int))
    have k5 := cutD_len (cs.map covD) (some ((n0 : Int) + 1)) none
    refine .inr ⟨xa3, xb3, ha3, hb3, by have h1 := ra3.length; have h2 := rb3.length; simp only [List.length_append, List.length_map, List.length_cons, List.length_nil, List.length_reverse] at h1 h2 k4 k5; exact small_le (by omega), fun p3 H3 s3 c3 => ?_⟩
    replace B := B.same s3; replace hl := s3 _ _ hl
    have R3 := rep_tup2 (sqT_cut B.fd.lst B.fl c3) ((ups ra3 s3).append (ups rb3 s3))
    refine ⟨sm2, fun p6 n6 => ?_⟩
    have u6 := B.ne n6; obtain ⟨H6, s6, g6, e0⟩ := newH (o := (.tup [.ref ax, .ref p3])) n6; rw [e0]; clear e0; replace R3 := up R3 s6; replace B := B.same s6; replace hl := s6 _ _ hl
    have R6 := rep_tup1 (K := K) (cutH_at g6 u6) (reps_cons B.rt (reps_cons R3 reps_nil))
    replace B := B.add (.inl ⟨_, R6, (dpT (al_cons (dpT (al_nb nb _)) (al_cons (dpT (al_app (cutD_sub (al_cs cs _)) (cutD_sub (al_cs cs _)))) al_nil)))⟩)
    refine ⟨ys, hl, small1000 (by omega), ?_⟩
    exact ⟨_, rfl, upd_same, by rw [List.length_append]; show ys.length + 1 <= 52; omega, B.put nl z0⟩
  clear B hl hlen ys
  rintro σ Hd ⟨ys, rfl, hl, hlen, B⟩
  refine seq_at (fun σ H' => ∃ ys : List V, σ = [some (.ref t), some (.ref tp), some (.int k), some (.int S), some (.ref ax), some (.ref ay), some (.ref l), some (.ref pc), some (.ref pw), some (.ref pb), some (.int (n0 : Int))] /\ H' l = some (.lst ys) /\ ys.length <= 53 /\ Bt K t l H ax (nb.map Dv.bl) (.ref ay) (.tup (cs.map covD)) ys H') ?_ ?_ (by walk_at "sm")
  . refine ⟨.inl ⟨rfl, _, .of hl⟩, ?_⟩
    obtain ⟨xa1, ha1, ra1⟩ := sqs_of B.rz
    refine ⟨(n0 : Int), rfl, xa1, ha1, fun p1 H1 s1 c1 => ?_⟩
    replace B := B.same s1; replace hl := s1 _ _ hl
    have R1 := rep_tup2 (sqT_cut B.fd.lst B.fl c1) (reps_cut _ _ (ups ra1 s1))
    obtain ⟨xq2, hq2, rq2⟩ := sqs_of B.rz
    have hn2 : n0 < xq2.length := by have h1 := rq2.length; rw [List.length_map] at h1; omega
    obtain ⟨dq2, hd2, re2⟩ := reps_get rq2 (List.getElem?_eq_getElem hn2)
    rw [List.getElem?_map] at hd2
    obtain ⟨⟨c2, w2⟩, _, rfl⟩ := Option.map_eq_some_iff.mp hd2
    obtain ⟨pe2, _, _, epe2, _⟩ := rep_two_inv (show Rep K _ (.tup [.int (c2 : Int), .str w2]) _ from re2)
    rw [epe2] at re2
    refine ⟨_, .ref pe2, .inr hq2, atI_of rfl (by rw [List.getElem?_eq_getElem hn2, epe2]), _, _, .inr (two_of (show Rep K _ (.tup [.int (c2 : Int), .str w2]) _ from re2)), rfl, ?_⟩
    refine ⟨sm2, fun p3 n3 => ?_⟩
    have u3 := B.ne n3; obtain ⟨H3, s3, g3, e0⟩ := newH (o := (.tup [.int (c2 : Int), .str (Str.ofString "whole")])) n3; rw [e0]; clear e0; replace B := B.same s3; replace hl := s3 _ _ hl; replace R1 := up R1 s3
    have R3 := rep_tup1 (K := K) (cutH_at g3 u3) (reps_cons rep_int (reps_cons rep_str reps_nil))
    refine ⟨sm1, fun p4 n4 => ?_⟩
    have u4 := B.ne n4; obtain ⟨H4, s4, g4, e0⟩ := newH (o := (.tup [.ref p3])) n4; rw [e0]; clear e0; replace R3 := up R3 s4; replace B := B.same s4; replace hl := s4 _ _ hl; replace R1 := up R1 s4
    have R4 := rep_tup1 (K := K) (cutH_at g4 u4) (reps_cons R3 reps_nil)
    obtain ⟨xa5, ha5, ra5⟩ := sqs_of R1
    obtain ⟨xb5, hb5, rb5⟩ := sqs_of R4
    have k6 := cutD_len (cs.map covD) none (some (n0 : Int))
    refine .inr ⟨xa5, xb5, ha5, hb5, by have h1 := ra5.length; have h2 := rb5.length; simp only [List.length_append, List.length_map, List.length_cons, List.length_nil, List.length_reverse] at h1 h2 k6; exact small_le (by omega), fun p5 H5 s5 c5 => ?_⟩
    replace B := B.same s5; replace hl := s5 _ _ hl
    have R5 := rep_tup2 (sqT_cut B.fd.lst B.fl c5) ((ups ra5 s5).append (ups rb5 s5))
    obtain ⟨xa7, ha7, ra7⟩ := sqs_of B.rz
    refine ⟨((n0 : Int) + 1), rfl, xa7, ha7, fun p7 H7 s7 c7 => ?_⟩
    replace B := B.same s7; replace hl := s7 _ _ hl; replace R5 := up R5 s7
    have R7 := rep_tup2 (sqT_cut B.fd.lst B.fl c7) (reps_cut _ _ (ups ra7 s7))
    obtain ⟨xa8, ha8, ra8⟩ := sqs_of R5
    obtain ⟨xb8, hb8, rb8⟩ := sqs_of R7
    have k9 := cutD_len (cs.map covD) none (some (n0 : Int))
    have k10 := cutD_len (cs.map covD) (some ((n0 : Int) + 1)) none
    refine .inr ⟨xa8, xb8, ha8, hb8, by have h1 := ra8.length; have h2 := rb8.length; simp only [List.length_append, List.length_map, List.length_cons, List.length_nil, List.length_reverse] at h1 h2 k9 k10; exact small_le (by omega), fun p8 H8 s8 c8 => ?_⟩
    replace B := B.same s8; replace hl := s8 _ _ hl
    have R8 := rep_tup2 (sqT_cut B.fd.lst B.fl c8) ((ups ra8 s8).append (ups rb8 s8))
    refine ⟨sm2, fun p11 n11 => ?_⟩
    have u11 := B.ne n11; obtain ⟨H11, s11, g11, e0⟩ := newH (o := (.tup [.ref ax, .ref p8])) n11; rw [e0]; clear e0; replace R8 := up R8 s11; replace B := B.same s11; replace hl := s11 _ _ hl
    have R11 := rep_tup1 (K := K) (cutH_at g11 u11) (reps_cons B.rt (reps_cons R8 reps_nil))
    replace B := B.add (.inl ⟨_, R11, (dpT (al_cons (dpT (al_nb nb _)) (al_cons (dpT (al_app (al_app (cutD_sub (al_cs cs _)) (al_cons (dpT (al_cons (Nat.zero_le _) (al_cons (Nat.zero_le _) al_nil))) al_nil)) (cutD_sub (al_cs cs _)))) al_nil)))⟩)
    refine ⟨ys, hl, small1000 (by omega), ?_⟩
    exact ⟨_, rfl, upd_same, by rw [List.length_append]; show ys.length + 1 <= 53; omega, B.put nl z0⟩
  clear B hl hlen ys
  rintro σ Hd ⟨ys, rfl, hl, hlen, B⟩
  obtain ⟨xa1, ha1, ra1⟩ := sqs_of B.rz
  refine ⟨rfl, xa1, ha1, fun p1 n1 => ?_⟩
  have u1 := B.ne n1; obtain ⟨H1, s1, g1, e0⟩ := newH (o := (.tup xa1.reverse)) n1; rw [e0]; clear e0; replace B := B.same s1; replace hl := s1 _ _ hl
  have R1 := rep_tup1 (K := K) (cutH_at g1 u1) (reps_rev (ups ra1 s1))
  refine ⟨sm2, fun p2 n2 => ?_⟩
  have u2 := B.ne n2; obtain ⟨H2, s2, g2, e0⟩ := newH (o := (.tup [.ref ax, .ref p1])) n2; rw [e0]; clear e0; replace R1 := up R1 s2; replace B := B.same s2; replace hl := s2 _ _ hl
  have R2 := rep_tup1 (K := K) (cutH_at g2 u2) (reps_cons B.rt (reps_cons R1 reps_nil))
  replace B := B.add (.inl ⟨_, R2, (dpT (al_cons (dpT (al_nb nb _)) (al_cons (dpT (rev_sub (al_cs cs _))) al_nil)))⟩)
  refine ⟨sm2, fun p3 n3 => ?_⟩
  have u3 := B.ne n3; obtain ⟨H3, s3, g3, e0⟩ := newH (o := (.tup [.ref ax, .ref ay])) n3; rw [e0]; clear e0; replace B := B.same s3; replace hl := s3 _ _ hl
  have R3 := rep_tup1 (K := K) (cutH_at g3 u3) (reps_cons B.rt (reps_cons B.rz reps_nil))
  replace B := B.add (.inl ⟨_, R3, (dpT (al_cons (dpT (al_nb nb _)) (al_cons (dpT (al_cs cs _)) al_nil)))⟩)
  refine ⟨sm2, fun p4 n4 => ?_⟩
  have u4 := B.ne n4; obtain ⟨H4, s4, g4, e0⟩ := newH (o := (.lst [.ref p2, .ref p3])) n4; rw [e0]; clear e0; replace B := B.same s4; replace hl := s4 _ _ hl
  refine .inl ⟨l, p4, ys, [(.ref p2 : V), (.ref p3 : V)], rfl, rfl, hl, g4, small_le (by simp only [List.length_cons, List.length_nil]; omega), fun pz nz => ?_⟩
  have sz := Same.upd (o := .lst (ys ++ [.ref p2, .ref p3])) nz
  have B2 := (B.same sz).re (zs := ys ++ [.ref p2, .ref p3]) (fun x hx => by simpa only [List.mem_append, List.mem_cons, List.not_mem_nil, or_false, false_or, or_assoc] using hx)
  exact q pz _ _ B2.fd B2.fr (B.ne nz).1 upd_same (by simp only [List.length_append, List.length_cons, List.length_nil]; omega) (fun y hy => (B2.ok y hy).same cutH_more)
theorem ok_law : FnOk P w K mg base CX0 7 T.f_law T.d_law ["_law_script"] (spLaw K) := by
  have G__law_feed := ok__law_feed (P := P) (w := w) (base := base) T; have G__law_table := ok__law_table (P := P) (w := w) (base := base) T; have G__law_sum := ok__law_sum (P := P) (w := w) (base := base) T; have G__law_draw := ok__law_draw (P := P) (w := w) (base := base) T; have G__law_bent := ok__law_bent (P := P) (w := w) (base := base) T; have G_lets_near := ok_lets_near (P := P) (w := w) (base := base) T; have G__law_lets := ok__law_lets (P := P) (w := w) (base := base) T
  refine T.F_law.ok sc_law (fun vs H Q E h => by obtain ⟨a, ns, rfl, _⟩ := h; rfl) (fun cdv A outer s H vs Q E hr h => ?_)
  have hu := hu60 hr
  have mo1 : SpMono (sp_bentk K) := sp_bentk_mono
  have mo3 : SpMono sp_ftable := sp_ftable_mono
  have mo4 : SpMono (sp_fsum K) := sp_fsum_mono
  have mo5 : SpMono (sp_llets K) := sp_llets_mono
  have mo7 : SpMono (sp_pnear K) := sp_pnear_mono
  have hr__law_feed := hr.mono (show 1 <= _ by decide); have hr__law_table := hr.mono (show 2 <= _ by decide); have hr__law_sum := hr.mono (show 1 <= _ by decide); have hr__law_draw := hr.mono (show 1 <= _ by decide); have hr__law_bent := hr.mono (show 5 <= _ by decide); have hr_lets_near := hr.mono (show 6 <= _ by decide); have hr__law_lets := hr.mono (show 3 <= _ by decide)
  obtain ⟨a, ns, rfl, hsq, hlen, q⟩ := h
  refine ⟨_, (@pss_cons _ _ _ _ _ (@ps_for _ _ _ _ _ _ _ _ PassesOwn.never rfl (@pi_range1 _ _ _ _ _ _ rfl T.z_range (@pa1 _ _ _ (@pe_int _ _ _ _) (by rfl)) (by rfl)) (@pg_name _ _ 1 _ sc_law.nd rfl (by walk_at "e") (by walk_at "i")) (@pss_cons _ _ _ _ _ (@ps_set _ _ 2 _ _ _ _ sc_law.nd rfl (by walk_at "e") (@pe_call _ _ _ _ _ _ _ _ _ _ _ _ _ _ _ _ G__law_feed hr__law_feed rfl T.m__law_feed T.F__law_feed.kp T.b__law_feed .nil pass0 (@pa_cons _ _ _ _ _ (@vw _ 0 _ _ (by walk_at "v")) (@pa1 _ _ _ (@vw _ 1 _ _ (by walk_at "v")) (by rfl)) (by rfl)) (by decide) (by rfl) (by rfl)) (by rfl) (by walk_at "i")) (@pss_cons _ _ _ _ _ (@ps_set _ _ 3 _ _ _ _ sc_law.nd rfl (by walk_at "e") (@pe_call _ _ _ _ _ _ _ _ _ _ _ _ _ _ _ _ G__law_table hr__law_table rfl T.m__law_table T.F__law_table.kp T.b__law_table .nil pass0 (@pa_cons _ _ _ _ _ (@vw _ 2 _ _ (by walk_at "v")) (@pa1 _ _ _ (@pe_op _ _ _ _ _ _ _ _ (kAdd (K := K)) (@pe_int _ _ _ _) (@pe_call _ _ _ _ _ _ _ _ _ _ _ _ _ _ _ _ G__law_draw hr__law_draw rfl T.m__law_draw T.F__law_draw.kp T.b__law_draw .nil pass0 (@pa_cons _ _ _ _ _ (@vw _ 2 _ _ (by walk_at "v")) (@pa1 _ _ _ (@pe_int _ _ _ _) (by rfl)) (by rfl)) (by decide) (by rfl) (by rfl))) (by rfl)) (by rfl)) (by decide) (by rfl) (by rfl)) (by rfl) (by walk_at "i")) (@pss_cons _ _ _ _ _ (@ps_set _ _ 4 _ _ _ _ sc_law.nd rfl (by walk_at "e") (@pe_call _ _ _ _ _ _ _ _ _ _ _ _ _ _ _ _ G__law_sum hr__law_sum rfl T.m__law_sum T.F__law_sum.kp T.b__law_sum .nil pass0 (@pa1 _ _ _ (@vw _ 3 _ _ (by walk_at "v")) (by rfl)) (by decide) (by rfl) (by rfl)) (by rfl) (by walk_at "i")) (@pss_cons _ _ _ _ _ (@ps_set _ _ 5 _ _ _ _ sc_law.nd rfl (by walk_at "e") (@pe_call _ _ _ _ _ _ _ _ _ _ _ _ _ _ _ _ G__law_draw hr__law_draw rfl T.m__law_draw T.F__law_draw.kp T.b__law_draw .nil pass0 (@pa_cons _ _ _ _ _ (@vw _ 2 _ _ (by walk_at "v")) (@pa1 _ _ _ (@pe_int _ _ _ _) (by rfl)) (by rfl)) (by decide) (by rfl) (by rfl)) (by rfl) (by walk_at "i")) (@pss_cons _ _ _ _ _ (@ps_set _ _ 6 _ _ _ _ sc_law.nd rfl (by walk_at "e") (@pe_call _ _ _ _ _ _ _ _ _ _ _ _ _ _ _ _ G__law_bent hr__law_bent rfl T.m__law_bent T.F__law_bent.kp T.b__law_bent .nil pass0 (@pa_cons _ _ _ _ _ (@vw _ 2 _ _ (by walk_at "v")) (@pa_cons _ _ _ _ _ (@vw _ 3 _ _ (by walk_at "v")) (@pa1 _ _ _ (@vw _ 5 _ _ (by walk_at "v")) (by rfl)) (by rfl)) (by rfl)) (by decide) (by rfl) (by rfl)) (by rfl) (by walk_at "i")) (@pss_cons _ _ _ _ _ (@ps_set _ _ 7 _ _ _ _ sc_law.nd rfl (by walk_at "e") (@pe_call _ _ _ _ _ _ _ _ _ _ _ _ _ _ _ _ G__law_draw hr__law_draw rfl T.m__law_draw T.F__law_draw.kp T.b__law_draw .nil pass0 (@pa_cons _ _ _ _ _ (@vw _ 2 _ _ (by walk_at "v")) (@pa1 _ _ _ (@pe_int _ _ _ _) (by rfl)) (by rfl)) (by decide) (by rfl) (by rfl)) (by rfl) (by walk_at "i")) (@pss_one _ _ _ (@ps_for _ _ _ _ _ _ _ _ PassesOwn.never rfl (@kSeq _ K _ _ _ (@pe_op _ _ _ _ _ _ _ _ (kAdd (K := K)) (@kStepL _ K _ _ _ _ _ _ _ _ _ _ (@vw _ 6 _ _ (by walk_at "v")) (@po_some _ _ _ (@vw _ 7 _ _ (by walk_at "v"))) (@po_none _) (@pe_int _ _ _ _) (by rfl)) (@kCut _ K _ _ _ _ _ _ _ _ (@vw _ 6 _ _ (by walk_at "v")) (@po_some _ _ _ (@pe_un _ _ _ _ _ _ um_neg (@pe_int _ _ _ _))) (@po_none _) (by rfl))) (by rfl)) (@pg_name _ _ 8 _ sc_law.nd rfl (by walk_at "e") (by walk_at "i")) (@pss_cons _ _ _ _ _ (@ps_set _ _ 9 _ _ _ _ sc_law.nd rfl (by walk_at "e") (@pe_call _ _ _ _ _ _ _ _ _ _ _ _ _ _ _ _ G_lets_near hr_lets_near rfl T.m_lets_near T.F_lets_near.kp T.b_lets_near .nil pass0 (@pa_cons _ _ _ _ _ (@vw _ 4 _ _ (by walk_at "v")) (@pa_cons _ _ _ _ _ (@vw _ 5 _ _ (by walk_at "v")) (@pa1 _ _ _ (@vw _ 8 _ _ (by walk_at "v")) (by rfl)) (by rfl)) (by rfl)) (by decide) (by rfl) (by rfl)) (by rfl) (by walk_at "i")) (@pss_one _ _ _ (@ps_if _ _ _ _ _ _ _ _ (PW.pt (@pw_or _ _ _ _ _ _ _ (@pt_not _ _ _ _ (@tu_val _ _ _ (@pe_callB _ _ _ _ _ _ _ _ _ (kIsi (K := K)) rfl T.z_isinstance (by rfl) (@pa_cons _ _ _ _ _ (@vw _ 9 _ _ (by walk_at "v")) (@pa1 _ _ _ (@pe_bltn _ _ (.ty "bool") _ _ rfl T.z_bool (by rfl) rfl (by decide) (by decide)) (by rfl)) (by rfl)) (by decide) (by decide) (by rfl) (by rfl)) (by intro _; rfl))) (@pw_or1 _ _ _ _ (@tu_cmp _ _ _ _ _ _ _ _ (kNe (K := K) hu) (@vw _ 9 _ _ (by walk_at "v")) (@pe_call _ _ _ _ _ _ _ _ _ _ _ _ _ _ _ _ G__law_lets hr__law_lets rfl T.m__law_lets T.F__law_lets.kp T.b__law_lets .nil pass0 (@pa_cons _ _ _ _ _ (@vw _ 3 _ _ (by walk_at "v")) (@pa_cons _ _ _ _ _ (@vw _ 5 _ _ (by walk_at "v")) (@pa1 _ _ _ (@vw _ 8 _ _ (by walk_at "v")) (by rfl)) (by rfl)) (by rfl)) (by decide) (by rfl) (by rfl)) (by walk_at "n"))))) (@pss_one _ _ _ (@ps_ret _ _ _ _ (@pe_bl _ _ _ _))) (@pss_nil _)))) (by intro _; rfl))))))))) (by intro _; rfl)) (@pss_one _ _ _ (@ps_ret _ _ _ _ (@pe_bl _ _ _ _)))), ?_⟩
  refine ⟨3, rfl, by decide, by decide, ?_⟩
  refine for_range (fun i σ H' => ∃ z1 z2 z3 z4 z5 z6 z7 z8 z9 : Option V, σ = [some (.ref a), z1, z2, z3, z4, z5, z6, z7, z8, z9] /\ Same H H') ⟨none, none, none, none, none, none, none, none, none, rfl, Same.refl _⟩ ?_ (fun σ H' _ => q H')
  rintro i σ H0 hi ⟨z1, z2, z3, z4, z5, z6, z7, z8, z9, rfl, G0⟩
  refine ⟨ns, G0.sqL hsq, fun t H1 ht F1 f1 => ?_⟩
  have S1 : Same H0 H1 := same_but (Same.refl _) ht f1
  dsimp only [gName]
  refine ⟨F1, okDiv_of (by decide) (by decide), fun d1 H4 d10 d11 F4 f4 => ?_⟩
  have S4 : Same H0 H4 := same_but S1 ht f4
  obtain ⟨dn, rfl⟩ := Int.eq_ofNat_of_zero_le d10
  obtain ⟨m, em, m1, m6⟩ : ∃ m : Nat, (1 : Int) + (dn : Int) = (m : Int) /\ 1 <= m /\ m <= 6 := ⟨1 + dn, by omega, by omega, by omega⟩
  refine ⟨m, F4, em, m1, m6, fun bs tb H6 hb n6 g6 F6 fr6 => ?_⟩
  have S6 : Same H0 H6 := same_frm S4 ht fr6
  have nt : tb ≠ t := F4.neT n6
  dsimp only [gName]
  refine ⟨m, bs, m1, m6, hb, .of g6, fun v H7 S67 SV => ?_⟩
  have S7 := S6.trans S67
  have g7 := S67 _ _ g6
  have F7 := F6.same S67
  dsimp only [gName]
  refine ⟨F7, okDiv_of (by decide) (by decide), fun kk H8 k0 k1 F8 f8 => ?_⟩
  obtain ⟨k, rfl⟩ := Int.eq_ofNat_of_zero_le k0
  have S8 : Same H0 H8 := same_but S7 ht f8
  have g8 : H8 tb = some (.tup (bs.map V.bl)) := by rw [f8 tb nt]; exact g7
  have SV8 := SV.frm F7 (frm_all f8)
  dsimp only [gName]
  refine ⟨m, k, bs, F8, m1, m6, hb, g8, rfl, fun l ys H9 F9 fr9 nl hl hyl ok => ?_⟩
  have S9 : Same H0 H9 := same_frm S8 ht fr9
  have g9 := fr9 _ _ nt g8
  have SV9 := SV8.frm F8 fr9
  dsimp only [gName]
  refine ⟨F9, okDiv_of (by decide) (by decide), fun d H10 d0 d1 F10 f10 => ?_⟩
  have S10 : Same H0 H10 := same_but S9 ht f10
  have g10 : H10 tb = some (.tup (bs.map V.bl)) := by rw [f10 tb nt]; exact g9
  have SV10 := SV9.frm F9 (frm_all f10)
  have hl10 : H10 l = some (.lst ys) := by rw [f10 l nl]; exact hl
  have ok10 : ∀ y ∈ ys, Odd K H10 y := fun y hy => ((ok y hy).same (cutH_frm (frm_all f10))).same cutH_le
  clear SV9 SV8 SV F9 F8 F7 F6 F4 F1 g9 g8 g7 g6 f10 f8 f4 f1 fr9 fr6 ok hl S9 S8 S7 S6 S4 S1 S67
  dsimp only [gName]
  refine ⟨d, rfl, ys, .of hl10, by decide, fun ys1 p1 hsub hle n1 => ?_⟩
  have s11 := Same.upd (o := .lst ys1) n1
  have k11 := upd_same (H := H10) (a := p1) (o := .lst ys1)
  generalize L2.upd H10 p1 (.lst ys1) = H11 at *
  refine ⟨-4, rfl, ys, .inl ⟨.of (s11 _ _ hl10), fun p2 n2 => ?_⟩⟩
  have s12 := Same.upd (o := .lst (cutV ys (some (-4)) none)) n2
  have k12 := upd_same (H := H11) (a := p2) (o := .lst (cutV ys (some (-4)) none))
  generalize L2.upd H11 p2 (.lst (cutV ys (some (-4)) none)) = H12 at *
  have hcl := cutV_length ys (some (-4)) none
  have hcm : ∀ y ∈ cutV ys (some (-4)) none, y ∈ ys := fun y hy => by unfold cutV at hy; exact List.mem_of_mem_drop (List.mem_of_mem_take hy)
  generalize cutV ys (some (-4)) none = ys2 at *
  refine .inl ⟨p1, p2, ys1, ys2, rfl, rfl, s12 _ _ k11, k12, small_le (by omega), fun p3 n3 => .inl ⟨⟨_, .of upd_same⟩, ?_⟩⟩
  have s13 := s11.trans (s12.trans (Same.upd (o := .lst (ys1 ++ ys2)) n3))
  have k13 := upd_same (H := H12) (a := p3) (o := .lst (ys1 ++ ys2))
  have ok13 : ∀ y ∈ ys1 ++ ys2, Odd K (upd H12 p3 (.lst (ys1 ++ ys2))) y := fun y hy => by
    rcases List.mem_append.mp hy with h' | h'
    . exact (ok10 y (hsub y h')).same s13
    . exact (ok10 y (hcm y h')).same s13
  generalize L2.upd H12 p3 (.lst (ys1 ++ ys2)) = H13 at *
  generalize ys1 ++ ys2 = ws at *
  have g13 := s13 _ _ g10
  have SV13 := SV10.same s13
  refine for_list (xs := ws) (fun j σ H' => (∃ y8 y9 : Option V, σ = [some (.ref a), some (.int (0 + (i : Int))), some (.ref t), some (.ref tb), some v, some (.int (k : Int)), some (.ref l), some (.int d), y8, y9]) /\ Same H13 H') ⟨⟨z8, z9, rfl⟩, Same.refl _⟩ (fun j σ H' _ ⟨_, s⟩ => .of (s _ _ k13)) ?_ ?_
  . rintro j x σ H14 hx ⟨⟨y8, y9, rfl⟩, s14⟩
    have ox := (ok13 x (List.mem_of_getElem? hx)).same s14
    dsimp only [gName]
    rcases ox with ⟨dd, rd, lo⟩ | ⟨da, rfl, hd⟩
    . refine ⟨m, k, bs, SV13.same s14, m1, m6, rfl, .inl ⟨dd, rd, lo, fun H15 s15 => ?_⟩⟩
      refine ⟨by decide, true, rfl, ?_⟩
      refine ⟨m, k, bs, .of (s15 _ _ (s14 _ _ g13)), hb, m1, m6, rfl, .inl ⟨dd, Rep.same s15 _ _ rd, fun H16 s16 => ?_⟩⟩
      have e0 : (true ^^ (nearE m k bs dd == nearE m k bs dd)) = false := by simp
      refine ite2 (fun e => absurd (e0 ▸ e) (by decide)) (fun e => ⟨⟨_, _, rfl⟩, s14.trans (s15.trans s16)⟩)
    . refine ⟨m, k, bs, SV13.same s14, m1, m6, rfl, .inr ⟨da, [], rfl, hd, fun H15 s15 => ?_⟩⟩
      refine ⟨by decide, true, rfl, ?_⟩
      exact ⟨m, k, bs, .of (s15 _ _ (s14 _ _ g13)), hb, m1, m6, rfl, .inr ⟨da, [], rfl, s15 _ _ hd, fun H16 s16 => ⟨⟨_, _, rfl⟩, s14.trans (s15.trans s16)⟩⟩⟩
  . rintro σ H14 ⟨⟨y8, y9, rfl⟩, s14⟩
    exact ⟨_, _, _, _, _, _, _, _, _, rfl, G0.trans (S10.trans (s13.trans s14))⟩
end
theorem all_mk {l : W.OpenLaw} {w : World} {K : W.Frag} {h : Heap} {mg : Str -> Option Value} {fa : Addr} (X : K.In h) (G : h.Ns mainGlobals mg) (hfa : mg "law" = some (.ref fa))
    {f0 f1 f2 f3 f4 f5 f6 f7 f8 f9 f10 f11 f12 f13 f14 f15 f16 f17 f18 f19 f20 f21 f22 f23 f24 f25 f26 f27 f28 f29 f30 f31 f32 f33 f34 f35 f36 f37 f38 f39 f40 : Addr} {oc0 kV0 dc0 pm0 cd0 ct0 oc1 kV1 dc1 pm1 cd1 ct1 oc2 kV2 dc2 pm2 cd2 ct2 oc3 kV3 dc3 pm3 cd3 ct3 oc4 kV4 dc4 pm4 cd4 ct4 oc5 kV5 dc5 pm5 cd5 ct5 oc6 kV6 dc6 pm6 cd6 ct6 oc7 kV7 dc7 pm7 cd7 ct7 oc8 kV8 dc8 pm8 cd8 ct8 oc9 kV9 dc9 pm9 cd9 ct9 oc10 kV10 dc10 pm10 cd10 ct10 oc11 kV11 dc11 pm11 cd11 ct11 oc12 kV12 dc12 pm12 cd12 ct12 oc13 kV13 dc13 pm13 cd13 ct13 oc14 kV14 dc14 pm14 cd14 ct14 oc15 kV15 dc15 pm15 cd15 ct15 oc16 kV16 dc16 pm16 cd16 ct16 oc17 kV17 dc17 pm17 cd17 ct17 oc18 kV18 dc18 pm18 cd18 ct18 oc19 kV19 dc19 pm19 cd19 ct19 oc20 kV20 dc20 pm20 cd20 ct20 oc21 kV21 dc21 pm21 cd21 ct21 oc22 kV22 dc22 pm22 cd22 ct22 oc23 kV23 dc23 pm23 cd23 ct23 oc24 kV24 dc24 pm24 cd24 ct24 oc25 kV25 dc25 pm25 cd25 ct25 oc26 kV26 dc26 pm26 cd26 ct26 oc27 kV27 dc27 pm27 cd27 ct27 oc28 kV28 dc28 pm28 cd28 ct28 oc29 kV29 dc29 pm29 cd29 ct29 oc30 kV30 dc30 pm30 cd30 ct30 oc31 kV31 dc31 pm31 cd31 ct31 oc32 kV32 dc32 pm32 cd32 ct32 oc33 kV33 dc33 pm33 cd33 ct33 oc34 kV34 dc34 pm34 cd34 ct34 oc35 kV35 dc35 pm35 cd35 ct35 oc36 kV36 dc36 pm36 cd36 ct36 oc37 kV37 dc37 pm37 cd37 ct37 oc38 kV38 dc38 pm38 cd38 ct38 oc39 kV39 dc39 pm39 cd39 ct39 oc40 kV40 dc40 pm40 cd40 ct40 : Value} {od0 an0 od1 an1 od2 an2 od3 an3 od4 an4 od5 an5 od6 an6 od7 an7 od8 an8 od9 an9 od10 an10 od11 an11 od12 an12 od13 an13 od14 an14 od15 an15 od16 an16 od17 an17 od18 an18 od19 an19 od20 an20 od21 an21 od22 an22 od23 an23 od24 an24 od25 an25 od26 an26 od27 an27 od28 an28 od29 an29 od30 an30 od31 an31 od32 an32 od33 an33 od34 an34 od35 an35 od36 an36 od37 an37 od38 an38 od39 an39 od40 an40 : Option Addr} {sl0 sl1 sl2 sl3 sl4 sl5 sl6 sl7 sl8 sl9 sl10 sl11 sl12 sl13 sl14 sl15 sl16 sl17 sl18 sl19 sl20 sl21 sl22 sl23 sl24 sl25 sl26 sl27 sl28 sl29 sl30 sl31 sl32 sl33 sl34 sl35 sl36 sl37 sl38 sl39 sl40 : Array (Option Value)}
    {ac_TABLE_LENGTHS : Addr} {sl_TABLE_LENGTHS : Array (Option Value)} {nc_TABLE_LENGTHS : Nat} {t_TABLE_LENGTHS_0 t_TABLE_LENGTHS_1 t_TABLE_LENGTHS_2 t_TABLE_LENGTHS_3 t_TABLE_LENGTHS_4 t_TABLE_LENGTHS_5 : Tok}
    {t_MOST_COVERS : Tok}
    (a0 : W.nsIn K mainGlobals "is_whole" = some (some (.ref f0)))
    (l0 : K.lookup f0 = some ⟨oc0, od0, .func (W.fnOf "is_whole" "is_whole" (defArgs s_is_whole) (defBody s_is_whole) (defScope s_is_whole) .none kV0 dc0 pm0 an0 cd0 ct0), sl0⟩)
    (c0 : W.codeIn K cd0 "is_whole" = true)
    (k0 : W.keepIn K (.ref f0) = true)
    (a1 : W.nsIn K mainGlobals "is_below" = some (some (.ref f1)))
    (l1 : K.lookup f1 = some ⟨oc1, od1, .func (W.fnOf "is_below" "is_below" (defArgs s_is_below) (defBody s_is_below) (defScope s_is_below) .none kV1 dc1 pm1 an1 cd1 ct1), sl1⟩)
    (c1 : W.codeIn K cd1 "is_below" = true)
    (k1 : W.keepIn K (.ref f1) = true)
    (a2 : W.nsIn K mainGlobals "two_to" = some (some (.ref f2)))
    (l2 : K.lookup f2 = some ⟨oc2, od2, .func (W.fnOf "two_to" "two_to" (defArgs s_two_to) (defBody s_two_to) (defScope s_two_to) .none kV2 dc2 pm2 an2 cd2 ct2), sl2⟩)
    (c2 : W.codeIn K cd2 "two_to" = true)
    (k2 : W.keepIn K (.ref f2) = true)
    (a3 : W.nsIn K mainGlobals "power_of" = some (some (.ref f3)))
    (l3 : K.lookup f3 = some ⟨oc3, od3, .func (W.fnOf "power_of" "power_of" (defArgs s_power_of) (defBody s_power_of) (defScope s_power_of) .none kV3 dc3 pm3 an3 cd3 ct3), sl3⟩)
    (c3 : W.codeIn K cd3 "power_of" = true)
    (k3 : W.keepIn K (.ref f3) = true)
    (a4 : W.nsIn K mainGlobals "is_place" = some (some (.ref f4)))
    (l4 : K.lookup f4 = some ⟨oc4, od4, .func (W.fnOf "is_place" "is_place" (defArgs s_is_place) (defBody s_is_place) (defScope s_is_place) .none kV4 dc4 pm4 an4 cd4 ct4), sl4⟩)
    (c4 : W.codeIn K cd4 "is_place" = true)
    (k4 : W.keepIn K (.ref f4) = true)
    (a5 : W.nsIn K mainGlobals "is_table" = some (some (.ref f5)))
    (l5 : K.lookup f5 = some ⟨oc5, od5, .func (W.fnOf "is_table" "is_table" (defArgs s_is_table) (defBody s_is_table) (defScope s_is_table) .none kV5 dc5 pm5 an5 cd5 ct5), sl5⟩)
    (c5 : W.codeIn K cd5 "is_table" = true)
    (k5 : W.keepIn K (.ref f5) = true)
    (a6 : W.nsIn K mainGlobals "switches_of" = some (some (.ref f6)))
    (l6 : K.lookup f6 = some ⟨oc6, od6, .func (W.fnOf "switches_of" "switches_of" (defArgs s_switches_of) (defBody s_switches_of) (defScope s_switches_of) .none kV6 dc6 pm6 an6 cd6 ct6), sl6⟩)
    (c6 : W.codeIn K cd6 "switches_of" = true)
    (k6 : W.keepIn K (.ref f6) = true)
    (a7 : W.nsIn K mainGlobals "within" = some (some (.ref f7)))
    (l7 : K.lookup f7 = some ⟨oc7, od7, .func (W.fnOf "within" "within" (defArgs s_within) (defBody s_within) (defScope s_within) .none kV7 dc7 pm7 an7 cd7 ct7), sl7⟩)
    (c7 : W.codeIn K cd7 "within" = true)
    (k7 : W.keepIn K (.ref f7) = true)
    (a8 : W.nsIn K mainGlobals "many_in" = some (some (.ref f8)))
    (l8 : K.lookup f8 = some ⟨oc8, od8, .func (W.fnOf "many_in" "many_in" (defArgs s_many_in) (defBody s_many_in) (defScope s_many_in) .none kV8 dc8 pm8 an8 cd8 ct8), sl8⟩)
    (c8 : W.codeIn K cd8 "many_in" = true)
    (k8 : W.keepIn K (.ref f8) = true)
    (a9 : W.nsIn K mainGlobals "sets_of" = some (some (.ref f9)))
    (l9 : K.lookup f9 = some ⟨oc9, od9, .func (W.fnOf "sets_of" "sets_of" (defArgs s_sets_of) (defBody s_sets_of) (defScope s_sets_of) .none kV9 dc9 pm9 an9 cd9 ct9), sl9⟩)
    (c9 : W.codeIn K cd9 "sets_of" = true)
    (k9 : W.keepIn K (.ref f9) = true)
    (a10 : W.nsIn K mainGlobals "hangs_on" = some (some (.ref f10)))
    (l10 : K.lookup f10 = some ⟨oc10, od10, .func (W.fnOf "hangs_on" "hangs_on" (defArgs s_hangs_on) (defBody s_hangs_on) (defScope s_hangs_on) .none kV10 dc10 pm10 an10 cd10 ct10), sl10⟩)
    (c10 : W.codeIn K cd10 "hangs_on" = true)
    (k10 : W.keepIn K (.ref f10) = true)
    (a11 : W.nsIn K mainGlobals "is_pair" = some (some (.ref f11)))
    (l11 : K.lookup f11 = some ⟨oc11, od11, .func (W.fnOf "is_pair" "is_pair" (defArgs s_is_pair) (defBody s_is_pair) (defScope s_is_pair) .none kV11 dc11 pm11 an11 cd11 ct11), sl11⟩)
    (c11 : W.codeIn K cd11 "is_pair" = true)
    (k11 : W.keepIn K (.ref f11) = true)
    (a12 : W.nsIn K mainGlobals "sum_of" = some (some (.ref f12)))
    (l12 : K.lookup f12 = some ⟨oc12, od12, .func (W.fnOf "sum_of" "sum_of" (defArgs s_sum_of) (defBody s_sum_of) (defScope s_sum_of) .none kV12 dc12 pm12 an12 cd12 ct12), sl12⟩)
    (c12 : W.codeIn K cd12 "sum_of" = true)
    (k12 : W.keepIn K (.ref f12) = true)
    (a13 : W.nsIn K mainGlobals "weights_of" = some (some (.ref f13)))
    (l13 : K.lookup f13 = some ⟨oc13, od13, .func (W.fnOf "weights_of" "weights_of" (defArgs s_weights_of) (defBody s_weights_of) (defScope s_weights_of) .none kV13 dc13 pm13 an13 cd13 ct13), sl13⟩)
    (c13 : W.codeIn K cd13 "weights_of" = true)
    (k13 : W.keepIn K (.ref f13) = true)
    (a14 : W.nsIn K mainGlobals "weights_within" = some (some (.ref f14)))
    (l14 : K.lookup f14 = some ⟨oc14, od14, .func (W.fnOf "weights_within" "weights_within" (defArgs s_weights_within) (defBody s_weights_within) (defScope s_weights_within) .none kV14 dc14 pm14 an14 cd14 ct14), sl14⟩)
    (c14 : W.codeIn K cd14 "weights_within" = true)
    (k14 : W.keepIn K (.ref f14) = true)
    (a15 : W.nsIn K mainGlobals "sum_from" = some (some (.ref f15)))
    (l15 : K.lookup f15 = some ⟨oc15, od15, .func (W.fnOf "sum_from" "sum_from" (defArgs s_sum_from) (defBody s_sum_from) (defScope s_sum_from) .none kV15 dc15 pm15 an15 cd15 ct15), sl15⟩)
    (c15 : W.codeIn K cd15 "sum_from" = true)
    (k15 : W.keepIn K (.ref f15) = true)
    (a16 : W.nsIn K mainGlobals "times_signs" = some (some (.ref f16)))
    (l16 : K.lookup f16 = some ⟨oc16, od16, .func (W.fnOf "times_signs" "times_signs" (defArgs s_times_signs) (defBody s_times_signs) (defScope s_times_signs) .none kV16 dc16 pm16 an16 cd16 ct16), sl16⟩)
    (c16 : W.codeIn K cd16 "times_signs" = true)
    (k16 : W.keepIn K (.ref f16) = true)
    (a17 : W.nsIn K mainGlobals "crossed" = some (some (.ref f17)))
    (l17 : K.lookup f17 = some ⟨oc17, od17, .func (W.fnOf "crossed" "crossed" (defArgs s_crossed) (defBody s_crossed) (defScope s_crossed) .none kV17 dc17 pm17 an17 cd17 ct17), sl17⟩)
    (c17 : W.codeIn K cd17 "crossed" = true)
    (k17 : W.keepIn K (.ref f17) = true)
    (a18 : W.nsIn K mainGlobals "met" = some (some (.ref f18)))
    (l18 : K.lookup f18 = some ⟨oc18, od18, .func (W.fnOf "met" "met" (defArgs s_met) (defBody s_met) (defScope s_met) .none kV18 dc18 pm18 an18 cd18 ct18), sl18⟩)
    (c18 : W.codeIn K cd18 "met" = true)
    (k18 : W.keepIn K (.ref f18) = true)
    (a19 : W.nsIn K mainGlobals "lets_near" = some (some (.ref f19)))
    (l19 : K.lookup f19 = some ⟨oc19, od19, .func (W.fnOf "lets_near" "lets_near" (defArgs s_lets_near) (defBody s_lets_near) (defScope s_lets_near) .none kV19 dc19 pm19 an19 cd19 ct19), sl19⟩)
    (c19 : W.codeIn K cd19 "lets_near" = true)
    (k19 : W.keepIn K (.ref f19) = true)
    (a20 : W.nsIn K mainGlobals "has_paper_form" = some (some (.ref f20)))
    (l20 : K.lookup f20 = some ⟨oc20, od20, .func (W.fnOf "has_paper_form" "has_paper_form" (defArgs s_has_paper_form) (defBody s_has_paper_form) (defScope s_has_paper_form) .none kV20 dc20 pm20 an20 cd20 ct20), sl20⟩)
    (c20 : W.codeIn K cd20 "has_paper_form" = true)
    (k20 : W.keepIn K (.ref f20) = true)
    (a21 : W.nsIn K mainGlobals "lead_of" = some (some (.ref f21)))
    (l21 : K.lookup f21 = some ⟨oc21, od21, .func (W.fnOf "lead_of" "lead_of" (defArgs s_lead_of) (defBody s_lead_of) (defScope s_lead_of) .none kV21 dc21 pm21 an21 cd21 ct21), sl21⟩)
    (c21 : W.codeIn K cd21 "lead_of" = true)
    (k21 : W.keepIn K (.ref f21) = true)
    (a22 : W.nsIn K mainGlobals "covers_all" = some (some (.ref f22)))
    (l22 : K.lookup f22 = some ⟨oc22, od22, .func (W.fnOf "covers_all" "covers_all" (defArgs s_covers_all) (defBody s_covers_all) (defScope s_covers_all) .none kV22 dc22 pm22 an22 cd22 ct22), sl22⟩)
    (c22 : W.codeIn K cd22 "covers_all" = true)
    (k22 : W.keepIn K (.ref f22) = true)
    (a23 : W.nsIn K mainGlobals "is_so" = some (some (.ref f23)))
    (l23 : K.lookup f23 = some ⟨oc23, od23, .func (W.fnOf "is_so" "is_so" (defArgs s_is_so) (defBody s_is_so) (defScope s_is_so) .none kV23 dc23 pm23 an23 cd23 ct23), sl23⟩)
    (c23 : W.codeIn K cd23 "is_so" = true)
    (k23 : W.keepIn K (.ref f23) = true)
    (a24 : W.nsIn K mainGlobals "setting_by_setting" = some (some (.ref f24)))
    (l24 : K.lookup f24 = some ⟨oc24, od24, .func (W.fnOf "setting_by_setting" "setting_by_setting" (defArgs s_setting_by_setting) (defBody s_setting_by_setting) (defScope s_setting_by_setting) .none kV24 dc24 pm24 an24 cd24 ct24), sl24⟩)
    (c24 : W.codeIn K cd24 "setting_by_setting" = true)
    (k24 : W.keepIn K (.ref f24) = true)
    (a25 : W.nsIn K mainGlobals "_law_feed" = some (some (.ref f25)))
    (l25 : K.lookup f25 = some ⟨oc25, od25, .func (W.fnOf "_law_feed" "_law_feed" (defArgs s__law_feed) (defBody s__law_feed) (defScope s__law_feed) .none kV25 dc25 pm25 an25 cd25 ct25), sl25⟩)
    (c25 : W.codeIn K cd25 "_law_feed" = true)
    (k25 : W.keepIn K (.ref f25) = true)
    (a26 : W.nsIn K mainGlobals "_law_draw" = some (some (.ref f26)))
    (l26 : K.lookup f26 = some ⟨oc26, od26, .func (W.fnOf "_law_draw" "_law_draw" (defArgs s__law_draw) (defBody s__law_draw) (defScope s__law_draw) .none kV26 dc26 pm26 an26 cd26 ct26), sl26⟩)
    (c26 : W.codeIn K cd26 "_law_draw" = true)
    (k26 : W.keepIn K (.ref f26) = true)
    (a27 : W.nsIn K mainGlobals "_law_many" = some (some (.ref f27)))
    (l27 : K.lookup f27 = some ⟨oc27, od27, .func (W.fnOf "_law_many" "_law_many" (defArgs s__law_many) (defBody s__law_many) (defScope s__law_many) .none kV27 dc27 pm27 an27 cd27 ct27), sl27⟩)
    (c27 : W.codeIn K cd27 "_law_many" = true)
    (k27 : W.keepIn K (.ref f27) = true)
    (a28 : W.nsIn K mainGlobals "_law_table" = some (some (.ref f28)))
    (l28 : K.lookup f28 = some ⟨oc28, od28, .func (W.fnOf "_law_table" "_law_table" (defArgs s__law_table) (defBody s__law_table) (defScope s__law_table) .none kV28 dc28 pm28 an28 cd28 ct28), sl28⟩)
    (c28 : W.codeIn K cd28 "_law_table" = true)
    (k28 : W.keepIn K (.ref f28) = true)
    (a29 : W.nsIn K mainGlobals "_law_sum" = some (some (.ref f29)))
    (l29 : K.lookup f29 = some ⟨oc29, od29, .func (W.fnOf "_law_sum" "_law_sum" (defArgs s__law_sum) (defBody s__law_sum) (defScope s__law_sum) .none kV29 dc29 pm29 an29 cd29 ct29), sl29⟩)
    (c29 : W.codeIn K cd29 "_law_sum" = true)
    (k29 : W.keepIn K (.ref f29) = true)
    (a30 : W.nsIn K mainGlobals "_law_sets" = some (some (.ref f30)))
    (l30 : K.lookup f30 = some ⟨oc30, od30, .func (W.fnOf "_law_sets" "_law_sets" (defArgs s__law_sets) (defBody s__law_sets) (defScope s__law_sets) .none kV30 dc30 pm30 an30 cd30 ct30), sl30⟩)
    (c30 : W.codeIn K cd30 "_law_sets" = true)
    (k30 : W.keepIn K (.ref f30) = true)
    (a31 : W.nsIn K mainGlobals "_law_best" = some (some (.ref f31)))
    (l31 : K.lookup f31 = some ⟨oc31, od31, .func (W.fnOf "_law_best" "_law_best" (defArgs s__law_best) (defBody s__law_best) (defScope s__law_best) .none kV31 dc31 pm31 an31 cd31 ct31), sl31⟩)
    (c31 : W.codeIn K cd31 "_law_best" = true)
    (k31 : W.keepIn K (.ref f31) = true)
    (a32 : W.nsIn K mainGlobals "_law_nearest" = some (some (.ref f32)))
    (l32 : K.lookup f32 = some ⟨oc32, od32, .func (W.fnOf "_law_nearest" "_law_nearest" (defArgs s__law_nearest) (defBody s__law_nearest) (defScope s__law_nearest) .none kV32 dc32 pm32 an32 cd32 ct32), sl32⟩)
    (c32 : W.codeIn K cd32 "_law_nearest" = true)
    (k32 : W.keepIn K (.ref f32) = true)
    (a33 : W.nsIn K mainGlobals "_law_hung" = some (some (.ref f33)))
    (l33 : K.lookup f33 = some ⟨oc33, od33, .func (W.fnOf "_law_hung" "_law_hung" (defArgs s__law_hung) (defBody s__law_hung) (defScope s__law_hung) .none kV33 dc33 pm33 an33 cd33 ct33), sl33⟩)
    (c33 : W.codeIn K cd33 "_law_hung" = true)
    (k33 : W.keepIn K (.ref f33) = true)
    (a34 : W.nsIn K mainGlobals "_law_is_set" = some (some (.ref f34)))
    (l34 : K.lookup f34 = some ⟨oc34, od34, .func (W.fnOf "_law_is_set" "_law_is_set" (defArgs s__law_is_set) (defBody s__law_is_set) (defScope s__law_is_set) .none kV34 dc34 pm34 an34 cd34 ct34), sl34⟩)
    (c34 : W.codeIn K cd34 "_law_is_set" = true)
    (k34 : W.keepIn K (.ref f34) = true)
    (a35 : W.nsIn K mainGlobals "_law_reason" = some (some (.ref f35)))
    (l35 : K.lookup f35 = some ⟨oc35, od35, .func (W.fnOf "_law_reason" "_law_reason" (defArgs s__law_reason) (defBody s__law_reason) (defScope s__law_reason) .none kV35 dc35 pm35 an35 cd35 ct35), sl35⟩)
    (c35 : W.codeIn K cd35 "_law_reason" = true)
    (k35 : W.keepIn K (.ref f35) = true)
    (a36 : W.nsIn K mainGlobals "_law_lets" = some (some (.ref f36)))
    (l36 : K.lookup f36 = some ⟨oc36, od36, .func (W.fnOf "_law_lets" "_law_lets" (defArgs s__law_lets) (defBody s__law_lets) (defScope s__law_lets) .none kV36 dc36 pm36 an36 cd36 ct36), sl36⟩)
    (c36 : W.codeIn K cd36 "_law_lets" = true)
    (k36 : W.keepIn K (.ref f36) = true)
    (a37 : W.nsIn K mainGlobals "_law_fair" = some (some (.ref f37)))
    (l37 : K.lookup f37 = some ⟨oc37, od37, .func (W.fnOf "_law_fair" "_law_fair" (defArgs s__law_fair) (defBody s__law_fair) (defScope s__law_fair) .none kV37 dc37 pm37 an37 cd37 ct37), sl37⟩)
    (c37 : W.codeIn K cd37 "_law_fair" = true)
    (k37 : W.keepIn K (.ref f37) = true)
    (a38 : W.nsIn K mainGlobals "_law_kinds_bent" = some (some (.ref f38)))
    (l38 : K.lookup f38 = some ⟨oc38, od38, .func (W.fnOf "_law_kinds_bent" "_law_kinds_bent" (defArgs s__law_kinds_bent) (defBody s__law_kinds_bent) (defScope s__law_kinds_bent) .none kV38 dc38 pm38 an38 cd38 ct38), sl38⟩)
    (c38 : W.codeIn K cd38 "_law_kinds_bent" = true)
    (k38 : W.keepIn K (.ref f38) = true)
    (a39 : W.nsIn K mainGlobals "_law_bent" = some (some (.ref f39)))
    (l39 : K.lookup f39 = some ⟨oc39, od39, .func (W.fnOf "_law_bent" "_law_bent" (defArgs s__law_bent) (defBody s__law_bent) (defScope s__law_bent) .none kV39 dc39 pm39 an39 cd39 ct39), sl39⟩)
    (c39 : W.codeIn K cd39 "_law_bent" = true)
    (k39 : W.keepIn K (.ref f39) = true)
    (a40 : W.nsIn K mainGlobals "law" = some (some (.ref f40)))
    (l40 : K.lookup f40 = some ⟨oc40, od40, .func (W.fnOf "law" "law" (defArgs s_law) (defBody s_law) (defScope s_law) .none kV40 dc40 pm40 an40 cd40 ct40), sl40⟩)
    (c40 : W.codeIn K cd40 "law" = true)
    (k40 : W.keepIn K (.ref f40) = true)
    (z_abs : W.nsIn K mainGlobals "abs" = some none)
    (z_all : W.nsIn K mainGlobals "all" = some none)
    (z_any : W.nsIn K mainGlobals "any" = some none)
    (z_bool : W.nsIn K mainGlobals "bool" = some none)
    (z_enumerate : W.nsIn K mainGlobals "enumerate" = some none)
    (z_int : W.nsIn K mainGlobals "int" = some none)
    (z_isinstance : W.nsIn K mainGlobals "isinstance" = some none)
    (z_len : W.nsIn K mainGlobals "len" = some none)
    (z_list : W.nsIn K mainGlobals "list" = some none)
    (z_max : W.nsIn K mainGlobals "max" = some none)
    (z_min : W.nsIn K mainGlobals "min" = some none)
    (z_range : W.nsIn K mainGlobals "range" = some none)
    (z_str : W.nsIn K mainGlobals "str" = some none)
    (z_sum : W.nsIn K mainGlobals "sum" = some none)
    (z_tuple : W.nsIn K mainGlobals "tuple" = some none)
    (c_TABLE_LENGTHS : W.nsIn K mainGlobals "TABLE_LENGTHS" = some (some (.ref ac_TABLE_LENGTHS)))
    (q_TABLE_LENGTHS : K.lookup ac_TABLE_LENGTHS = some ⟨.type "tuple", none, .seq #[.int 2 t_TABLE_LENGTHS_0, .int 4 t_TABLE_LENGTHS_1, .int 8 t_TABLE_LENGTHS_2, .int 16 t_TABLE_LENGTHS_3, .int 32 t_TABLE_LENGTHS_4, .int 64 t_TABLE_LENGTHS_5] nc_TABLE_LENGTHS, sl_TABLE_LENGTHS⟩)
    (c_MOST_COVERS : W.nsIn K mainGlobals "MOST_COVERS" = some (some (.int 64 t_MOST_COVERS))) :
    ∃ fd : FuncData, (∀ (s : Shared) (v : Value), BindsTo s fd ⟨[v], []⟩ [("_law_script", v)]) /\ ∀ base : Heap, K.In base -> base.Ns mainGlobals mg -> FnOk l.prog w K mg base CX0 7 fa fd ["_law_script"] (spLaw K) := by
  have e := hfa.symm.trans (W.mg_of X G a40)
  cases e
  have F0 := fun_mk (st := s_is_whole) l0 c0 k0
  have b0 := F0.binds (ps := ["thing"]) fun _ _ _ _ _ _ => L2.on1 (fun _ => rfl)
  have F1 := fun_mk (st := s_is_below) l1 c1 k1
  have b1 := F1.binds (ps := ["bound", "thing"]) fun _ _ _ _ _ _ => L2.on2 (fun _ _ => rfl)
  have F2 := fun_mk (st := s_two_to) l2 c2 k2
  have b2 := F2.binds (ps := ["n"]) fun _ _ _ _ _ _ => L2.on1 (fun _ => rfl)
  have F3 := fun_mk (st := s_power_of) l3 c3 k3
  have b3 := F3.binds (ps := ["base", "times"]) fun _ _ _ _ _ _ => L2.on2 (fun _ _ => rfl)
  have F4 := fun_mk (st := s_is_place) l4 c4 k4
  have b4 := F4.binds (ps := ["n", "thing"]) fun _ _ _ _ _ _ => L2.on2 (fun _ _ => rfl)
  have F5 := fun_mk (st := s_is_table) l5 c5 k5
  have b5 := F5.binds (ps := ["thing"]) fun _ _ _ _ _ _ => L2.on1 (fun _ => rfl)
  have F6 := fun_mk (st := s_switches_of) l6 c6 k6
  have b6 := F6.binds (ps := ["table"]) fun _ _ _ _ _ _ => L2.on1 (fun _ => rfl)
  have F7 := fun_mk (st := s_within) l7 c7 k7
  have b7 := F7.binds (ps := ["subset", "other"]) fun _ _ _ _ _ _ => L2.on2 (fun _ _ => rfl)
  have F8 := fun_mk (st := s_many_in) l8 c8 k8
  have b8 := F8.binds (ps := ["subset"]) fun _ _ _ _ _ _ => L2.on1 (fun _ => rfl)
  have F9 := fun_mk (st := s_sets_of) l9 c9 k9
  have b9 := F9.binds (ps := ["n", "k"]) fun _ _ _ _ _ _ => L2.on2 (fun _ _ => rfl)
  have F10 := fun_mk (st := s_hangs_on) l10 c10 k10
  have b10 := F10.binds (ps := ["one"]) fun _ _ _ _ _ _ => L2.on1 (fun _ => rfl)
  have F11 := fun_mk (st := s_is_pair) l11 c11 k11
  have b11 := F11.binds (ps := ["thing"]) fun _ _ _ _ _ _ => L2.on1 (fun _ => rfl)
  have F12 := fun_mk (st := s_sum_of) l12 c12 k12
  have b12 := F12.binds (ps := ["table"]) fun _ _ _ _ _ _ => L2.on1 (fun _ => rfl)
  have F13 := fun_mk (st := s_weights_of) l13 c13 k13
  have b13 := F13.binds (ps := ["one"]) fun _ _ _ _ _ _ => L2.on1 (fun _ => rfl)
  have F14 := fun_mk (st := s_weights_within) l14 c14 k14
  have b14 := F14.binds (ps := ["one", "outer"]) fun _ _ _ _ _ _ => L2.on2 (fun _ _ => rfl)
  have F15 := fun_mk (st := s_sum_from) l15 c15 k15
  have b15 := F15.binds (ps := ["n", "weights"]) fun _ _ _ _ _ _ => L2.on2 (fun _ _ => rfl)
  have F16 := fun_mk (st := s_times_signs) l16 c16 k16
  have b16 := F16.binds (ps := ["numbers"]) fun _ _ _ _ _ _ => L2.on1 (fun _ => rfl)
  have F17 := fun_mk (st := s_crossed) l17 c17 k17
  have b17 := F17.binds (ps := ["numbers", "step", "place"]) fun _ _ _ _ _ _ => L2.on3 (fun _ _ _ => rfl)
  have F18 := fun_mk (st := s_met) l18 c18 k18
  have b18 := F18.binds (ps := ["terms", "weights", "apart"]) fun _ _ _ _ _ _ => L2.on3 (fun _ _ _ => rfl)
  have F19 := fun_mk (st := s_lets_near) l19 c19 k19
  have b19 := F19.binds (ps := ["one", "k", "thing"]) fun _ _ _ _ _ _ => L2.on3 (fun _ _ _ => rfl)
  have F20 := fun_mk (st := s_has_paper_form) l20 c20 k20
  have b20 := F20.binds (ps := ["n", "thing"]) fun _ _ _ _ _ _ => L2.on2 (fun _ _ => rfl)
  have F21 := fun_mk (st := s_lead_of) l21 c21 k21
  have b21 := F21.binds (ps := ["one", "total"]) fun _ _ _ _ _ _ => L2.on2 (fun _ _ => rfl)
  have F22 := fun_mk (st := s_covers_all) l22 c22 k22
  have b22 := F22.binds (ps := ["n", "k", "covers"]) fun _ _ _ _ _ _ => L2.on3 (fun _ _ _ => rfl)
  have F23 := fun_mk (st := s_is_so) l23 c23 k23
  have b23 := F23.binds (ps := ["one", "lead", "cover"]) fun _ _ _ _ _ _ => L2.on3 (fun _ _ _ => rfl)
  have F24 := fun_mk (st := s_setting_by_setting) l24 c24 k24
  have b24 := F24.binds (ps := ["weights", "switches"]) fun _ _ _ _ _ _ => L2.on2 (fun _ _ => rfl)
  have F25 := fun_mk (st := s__law_feed) l25 c25 k25
  have b25 := F25.binds (ps := ["_law_script", "_law_k"]) fun _ _ _ _ _ _ => L2.on2 (fun _ _ => rfl)
  have F26 := fun_mk (st := s__law_draw) l26 c26 k26
  have b26 := F26.binds (ps := ["_law_feed_here", "_law_many_here"]) fun _ _ _ _ _ _ => L2.on2 (fun _ _ => rfl)
  have F27 := fun_mk (st := s__law_many) l27 c27 k27
  have b27 := F27.binds (ps := ["_law_number"]) fun _ _ _ _ _ _ => L2.on1 (fun _ => rfl)
  have F28 := fun_mk (st := s__law_table) l28 c28 k28
  have b28 := F28.binds (ps := ["_law_feed_here", "_law_n"]) fun _ _ _ _ _ _ => L2.on2 (fun _ _ => rfl)
  have F29 := fun_mk (st := s__law_sum) l29 c29 k29
  have b29 := F29.binds (ps := ["_law_table_here"]) fun _ _ _ _ _ _ => L2.on1 (fun _ => rfl)
  have F30 := fun_mk (st := s__law_sets) l30 c30 k30
  have b30 := F30.binds (ps := ["_law_n", "_law_k"]) fun _ _ _ _ _ _ => L2.on2 (fun _ _ => rfl)
  have F31 := fun_mk (st := s__law_best) l31 c31 k31
  have b31 := F31.binds (ps := ["_law_table_here", "_law_some"]) fun _ _ _ _ _ _ => L2.on2 (fun _ _ => rfl)
  have F32 := fun_mk (st := s__law_nearest) l32 c32 k32
  have b32 := F32.binds (ps := ["_law_table_here", "_law_k"]) fun _ _ _ _ _ _ => L2.on2 (fun _ _ => rfl)
  have F33 := fun_mk (st := s__law_hung) l33 c33 k33
  have b33 := F33.binds (ps := ["_law_table_here"]) fun _ _ _ _ _ _ => L2.on1 (fun _ => rfl)
  have F34 := fun_mk (st := s__law_is_set) l34 c34 k34
  have b34 := F34.binds (ps := ["_law_size", "_law_thing"]) fun _ _ _ _ _ _ => L2.on2 (fun _ _ => rfl)
  have F35 := fun_mk (st := s__law_reason) l35 c35 k35
  have b35 := F35.binds (ps := ["_law_table_here", "_law_agreed", "_law_some", "_law_reason_here"]) fun _ _ _ _ _ _ => L2.on4 (fun _ _ _ _ => rfl)
  have F36 := fun_mk (st := s__law_lets) l36 c36 k36
  have b36 := F36.binds (ps := ["_law_table_here", "_law_k", "_law_thing"]) fun _ _ _ _ _ _ => L2.on3 (fun _ _ _ => rfl)
  have F37 := fun_mk (st := s__law_fair) l37 c37 k37
  have b37 := F37.binds (ps := ["_law_table_here", "_law_k"]) fun _ _ _ _ _ _ => L2.on2 (fun _ _ => rfl)
  have F38 := fun_mk (st := s__law_kinds_bent) l38 c38 k38
  have b38 := F38.binds (ps := ["_law_paper", "_law_size"]) fun _ _ _ _ _ _ => L2.on2 (fun _ _ => rfl)
  have F39 := fun_mk (st := s__law_bent) l39 c39 k39
  have b39 := F39.binds (ps := ["_law_feed_here", "_law_table_here", "_law_k"]) fun _ _ _ _ _ _ => L2.on3 (fun _ _ _ => rfl)
  have F40 := fun_mk (st := s_law) l40 c40 k40
  have b40 := F40.binds (ps := ["_law_script"]) fun _ _ _ _ _ _ => L2.on1 (fun _ => rfl)
  let T : Txt K mg := { f_is_whole := f0, d_is_whole := _, F_is_whole := F0, b_is_whole := b0, m_is_whole := W.mg_of X G a0, f_is_below := f1, d_is_below := _, F_is_below := F1, b_is_below := b1, m_is_below := W.mg_of X G a1, f_two_to := f2, d_two_to := _, F_two_to := F2, b_two_to := b2, m_two_to := W.mg_of X G a2, f_power_of := f3, d_power_of := _, F_power_of := F3, b_power_of := b3, m_power_of := W.mg_of X G a3, f_is_place := f4, d_is_place := _, F_is_place := F4, b_is_place := b4, m_is_place := W.mg_of X G a4, f_is_table := f5, d_is_table := _, F_is_table := F5, b_is_table := b5, m_is_table := W.mg_of X G a5, f_switches_of := f6, d_switches_of := _, F_switches_of := F6, b_switches_of := b6, m_switches_of := W.mg_of X G a6, f_within := f7, d_within := _, F_within := F7, b_within := b7, m_within := W.mg_of X G a7, f_many_in := f8, d_many_in := _, F_many_in := F8, b_many_in := b8, m_many_in := W.mg_of X G a8, f_sets_of := f9, d_sets_of := _, F_sets_of := F9, b_sets_of := b9, m_sets_of := W.mg_of X G a9, f_hangs_on := f10, d_hangs_on := _, F_hangs_on := F10, b_hangs_on := b10, m_hangs_on := W.mg_of X G a10, f_is_pair := f11, d_is_pair := _, F_is_pair := F11, b_is_pair := b11, m_is_pair := W.mg_of X G a11, f_sum_of := f12, d_sum_of := _, F_sum_of := F12, b_sum_of := b12, m_sum_of := W.mg_of X G a12, f_weights_of := f13, d_weights_of := _, F_weights_of := F13, b_weights_of := b13, m_weights_of := W.mg_of X G a13, f_weights_within := f14, d_weights_within := _, F_weights_within := F14, b_weights_within := b14, m_weights_within := W.mg_of X G a14, f_sum_from := f15, d_sum_from := _, F_sum_from := F15, b_sum_from := b15, m_sum_from := W.mg_of X G a15, f_times_signs := f16, d_times_signs := _, F_times_signs := F16, b_times_signs := b16, m_times_signs := W.mg_of X G a16, f_crossed := f17, d_crossed := _, F_crossed := F17, b_crossed := b17, m_crossed := W.mg_of X G a17, f_met := f18, d_met := _, F_met := F18, b_met := b18, m_met := W.mg_of X G a18, f_lets_near := f19, d_lets_near := _, F_lets_near := F19, b_lets_near := b19, m_lets_near := W.mg_of X G a19, f_has_paper_form := f20, d_has_paper_form := _, F_has_paper_form := F20, b_has_paper_form := b20, m_has_paper_form := W.mg_of X G a20, f_lead_of := f21, d_lead_of := _, F_lead_of := F21, b_lead_of := b21, m_lead_of := W.mg_of X G a21, f_covers_all := f22, d_covers_all := _, F_covers_all := F22, b_covers_all := b22, m_covers_all := W.mg_of X G a22, f_is_so := f23, d_is_so := _, F_is_so := F23, b_is_so := b23, m_is_so := W.mg_of X G a23, f_setting_by_setting := f24, d_setting_by_setting := _, F_setting_by_setting := F24, b_setting_by_setting := b24, m_setting_by_setting := W.mg_of X G a24, f__law_feed := f25, d__law_feed := _, F__law_feed := F25, b__law_feed := b25, m__law_feed := W.mg_of X G a25, f__law_draw := f26, d__law_draw := _, F__law_draw := F26, b__law_draw := b26, m__law_draw := W.mg_of X G a26, f__law_many := f27, d__law_many := _, F__law_many := F27, b__law_many := b27, m__law_many := W.mg_of X G a27, f__law_table := f28, d__law_table := _, F__law_table := F28, b__law_table := b28, m__law_table := W.mg_of X G a28, f__law_sum := f29, d__law_sum := _, F__law_sum := F29, b__law_sum := b29, m__law_sum := W.mg_of X G a29, f__law_sets := f30, d__law_sets := _, F__law_sets := F30, b__law_sets := b30, m__law_sets := W.mg_of X G a30, f__law_best := f31, d__law_best := _, F__law_best := F31, b__law_best := b31, m__law_best := W.mg_of X G a31, f__law_nearest := f32, d__law_nearest := _, F__law_nearest := F32, b__law_nearest := b32, m__law_nearest := W.mg_of X G a32, f__law_hung := f33, d__law_hung := _, F__law_hung := F33, b__law_hung := b33, m__law_hung := W.mg_of X G a33, f__law_is_set := f34, d__law_is_set := _, F__law_is_set := F34, b__law_is_set := b34, m__law_is_set := W.mg_of X G a34, f__law_reason := f35, d__law_reason := _, F__law_reason := F35, b__law_reason := b35, m__law_reason := W.mg_of X G a35, f__law_lets := f36, d__law_lets := _, F__law_lets := F36, b__law_lets := b36, m__law_lets := W.mg_of X G a36, f__law_fair := f37, d__law_fair := _, F__law_fair := F37, b__law_fair := b37, m__law_fair := W.mg_of X G a37, f__law_kinds_bent := f38, d__law_kinds_bent := _, F__law_kinds_bent := F38, b__law_kinds_bent := b38, m__law_kinds_bent := W.mg_of X G a38, f__law_bent := f39, d__law_bent := _, F__law_bent := F39, b__law_bent := b39, m__law_bent := W.mg_of X G a39, f_law := fa, d_law := _, F_law := F40, b_law := b40, m_law := W.mg_of X G a40, z_abs := W.mg_none_of X G z_abs, z_all := W.mg_none_of X G z_all, z_any := W.mg_none_of X G z_any, z_bool := W.mg_none_of X G z_bool, z_enumerate := W.mg_none_of X G z_enumerate, z_int := W.mg_none_of X G z_int, z_isinstance := W.mg_none_of X G z_isinstance, z_len := W.mg_none_of X G z_len, z_list := W.mg_none_of X G z_list, z_max := W.mg_none_of X G z_max, z_min := W.mg_none_of X G z_min, z_range := W.mg_none_of X G z_range, z_str := W.mg_none_of X G z_str, z_sum := W.mg_none_of X G z_sum, z_tuple := W.mg_none_of X G z_tuple, a_TABLE_LENGTHS := ac_TABLE_LENGTHS, c_TABLE_LENGTHS := W.mg_of X G c_TABLE_LENGTHS, q_TABLE_LENGTHS := fun H => .inr ⟨_, _, _, q_TABLE_LENGTHS, rfl, rfl, rfl, (show 6 <= sizeLine by decide), (.cons ⟨_, rfl⟩ (.cons ⟨_, rfl⟩ (.cons ⟨_, rfl⟩ (.cons ⟨_, rfl⟩ (.cons ⟨_, rfl⟩ (.cons ⟨_, rfl⟩ .nil))))))⟩, t_MOST_COVERS := t_MOST_COVERS, c_MOST_COVERS := W.mg_of X G c_MOST_COVERS }
  exact ⟨W.fnOf "law" "law" (defArgs s_law) (defBody s_law) (defScope s_law) .none kV40 dc40 pm40 an40 cd40 ct40, fun s v => .of_eq rfl, fun base _ _ => ok_law T⟩
theorem walk {l : W.OpenLaw} {q : Program} {loose : List Str} {XP : (Str -> Option Value) -> Heap -> Prop} {YP : World -> Heap -> Prop} {d : DefRec} {K : Params -> W.Frag} (hn : l.most = some 63) (hdf : d.params.defaults = [])
    (hY : ∀ (w : World) (h : Heap), YP w h -> (K w.params).In h)
    (F : ∀ (w : World) (mg : Str -> Option Value) (fa : Addr) (h : Heap), (K w.params).In h -> h.Ns mainGlobals mg -> mg d.name = some (.ref fa) ->
      ∃ fd : FuncData, (∀ (s : Shared) (u : Value), BindsTo s fd ⟨[u], []⟩ [("_law_script", u)]) /\ ∀ base : Heap, (K w.params).In base -> base.Ns mainGlobals mg -> FnOk l.prog w (K w.params) mg base CX0 7 fa fd ["_law_script"] (spLaw (K w.params))) :
    W.WalkO q loose XP YP l.row.toRowW d [] (fun f vs => PySem.call f vs) :=
  L2.walk_of (n := 63) (k := 7) (x := "_law_script") (CX := fun _ => CX0) (sp := fun w => spLaw (K w.params)) hn (by decide) hdf ⟨rfl, by decide, by decide, rfl⟩ hY F (fun _ _ a ns hl _ hS => ⟨a, ns, rfl, hS, hl, fun _ => rfl⟩) fun _ _ _ _ _ z => z
end Mine
theorem PySem.W.Fast.te7285780008888283049 : True := trivial
def PySem.W.Fast.tw7668599823565700817 : PySem.Program := PySem.Challenge.pw_flips_k29_papers_with_one_fault
theorem PySem.W.Fast.te7668599823565700817 : PySem.Challenge.pw_flips_k29_papers_with_one_fault = PySem.W.Fast.tw7668599823565700817 := rfl
def PySem.W.Fast.pickB : List Bool -> List PySem.Stmt -> List PySem.Stmt
  | [], _ => []
  | b :: k, l => match b, l with
    | true, s :: r => s :: PySem.W.Fast.pickB k r
    | false, _ :: r => PySem.W.Fast.pickB k r
    | _, [] => []
def PySem.W.Fast.tw16779873217729824004 : PySem.Program := { PySem.Challenge.pw_flips_k29_papers_with_one_fault with main := { (PySem.Challenge.pw_flips_k29_papers_with_one_fault).main with body := PySem.W.Fast.pickB [false, true, true, true, true, false, true, true, true, true, true, true, true, false, true, false, true, true, true, true, true, true, true, false, true, false, true, true, true, true, true, true, true, false, true, true, true, true, true, true, true, true, true, true, true, true, true, true, true, true] (PySem.Challenge.pw_flips_k29_papers_with_one_fault).main.body } }
theorem PySem.W.Fast.te16779873217729824004 : PySem.W.Fast.tw16779873217729824004 = PySem.W.Fast.tw16779873217729824004 := rfl
def PySem.W.Fast.tw13636688679712565544 : List PySem.Stmt := ((PySem.Challenge.pw_flips_k29_papers_with_one_fault).main.body.drop 32).take 14
theorem PySem.W.Fast.te13636688679712565544 : PySem.W.Fast.tw13636688679712565544 = PySem.W.Fast.tw13636688679712565544 := rfl
def PySem.W.Fast.tw190681310414305769 : List PySem.Stmt := ((PySem.Challenge.pw_flips_k29_papers_with_one_fault).main.body.drop 16).take 16
theorem PySem.W.Fast.te190681310414305769 : PySem.W.Fast.tw190681310414305769 = PySem.W.Fast.tw190681310414305769 := rfl
def PySem.W.Fast.tw8047930113441627874 : List PySem.Stmt := ((PySem.Challenge.pw_flips_k29_papers_with_one_fault).main.body.drop 46).take 4
theorem PySem.W.Fast.te8047930113441627874 : PySem.W.Fast.tw8047930113441627874 = PySem.W.Fast.tw8047930113441627874 := rfl
def PySem.W.Fast.tw10867714803438186688 : List PySem.Stmt := ((PySem.Challenge.pw_flips_k29_papers_with_one_fault).main.body.drop 0).take 16
theorem PySem.W.Fast.te10867714803438186688 : PySem.W.Fast.tw10867714803438186688 = PySem.W.Fast.tw10867714803438186688 := rfl
open PySem PySem.W PyProof.Rows
set_option maxRecDepth 100000 in
set_option maxHeartbeats 0 in
theorem PySem.Challenge.cw_flips_k29_papers_with_one_fault_holds : PySem.Challenge.rw_flips_k29_papers_with_one_fault.Holds := by
  w_on; o_law; k_head; (case hw => w_witness2)
  k_fill
  refine Mine.walk (l := PySem.Challenge.rw_flips_k29_papers_with_one_fault) rfl rfl (fun w h Y => PySem.W.kIn_of Y) ?F
  case F =>
    intro w mg fa h KX G hmg
    refine' Mine.all_mk KX G hmg ?a0 ?l0 ?c0 ?k0 ?a1 ?l1 ?c1 ?k1 ?a2 ?l2 ?c2 ?k2 ?a3 ?l3 ?c3 ?k3 ?a4 ?l4 ?c4 ?k4 ?a5 ?l5 ?c5 ?k5 ?a6 ?l6 ?c6 ?k6 ?a7 ?l7 ?c7 ?k7 ?a8 ?l8 ?c8 ?k8 ?a9 ?l9 ?c9 ?k9 ?a10 ?l10 ?c10 ?k10 ?a11 ?l11 ?c11 ?k11 ?a12 ?l12 ?c12 ?k12 ?a13 ?l13 ?c13 ?k13 ?a14 ?l14 ?c14 ?k14 ?a15 ?l15 ?c15 ?k15 ?a16 ?l16 ?c16 ?k16 ?a17 ?l17 ?c17 ?k17 ?a18 ?l18 ?c18 ?k18 ?a19 ?l19 ?c19 ?k19 ?a20 ?l20 ?c20 ?k20 ?a21 ?l21 ?c21 ?k21 ?a22 ?l22 ?c22 ?k22 ?a23 ?l23 ?c23 ?k23 ?a24 ?l24 ?c24 ?k24 ?a25 ?l25 ?c25 ?k25 ?a26 ?l26 ?c26 ?k26 ?a27 ?l27 ?c27 ?k27 ?a28 ?l28 ?c28 ?k28 ?a29 ?l29 ?c29 ?k29 ?a30 ?l30 ?c30 ?k30 ?a31 ?l31 ?c31 ?k31 ?a32 ?l32 ?c32 ?k32 ?a33 ?l33 ?c33 ?k33 ?a34 ?l34 ?c34 ?k34 ?a35 ?l35 ?c35 ?k35 ?a36 ?l36 ?c36 ?k36 ?a37 ?l37 ?c37 ?k37 ?a38 ?l38 ?c38 ?k38 ?a39 ?l39 ?c39 ?k39 ?a40 ?l40 ?c40 ?k40 ?z_abs ?z_all ?z_any ?z_bool ?z_enumerate ?z_int ?z_isinstance ?z_len ?z_list ?z_max ?z_min ?z_range ?z_str ?z_sum ?z_tuple ?c_TABLE_LENGTHS ?q_TABLE_LENGTHS ?c_MOST_COVERS
    (case a0 | l0 | c0 | k0 | a1 | l1 | c1 | k1 | a2 | l2 | c2 | k2 | a3 | l3 | c3 | k3 | a4 | l4 | c4 | k4 | a5 | l5 | c5 | k5 | a6 | l6 | c6 | k6 | a7 | l7 | c7 | k7 | a8 | l8 | c8 | k8 | a9 | l9 | c9 | k9 | a10 | l10 | c10 | k10 | a11 | l11 | c11 | k11 | a12 | l12 | c12 | k12 | a13 | l13 | c13 | k13 | a14 | l14 | c14 | k14 | a15 | l15 | c15 | k15 | a16 | l16 | c16 | k16 | a17 | l17 | c17 | k17 | a18 | l18 | c18 | k18 | a19 | l19 | c19 | k19 | a20 | l20 | c20 | k20 | a21 | l21 | c21 | k21 | a22 | l22 | c22 | k22 | a23 | l23 | c23 | k23 | a24 | l24 | c24 | k24 | a25 | l25 | c25 | k25 | a26 | l26 | c26 | k26 | a27 | l27 | c27 | k27 | a28 | l28 | c28 | k28 | a29 | l29 | c29 | k29 | a30 | l30 | c30 | k30 | a31 | l31 | c31 | k31 | a32 | l32 | c32 | k32 | a33 | l33 | c33 | k33 | a34 | l34 | c34 | k34 | a35 | l35 | c35 | k35 | a36 | l36 | c36 | k36 | a37 | l37 | c37 | k37 | a38 | l38 | c38 | k38 | a39 | l39 | c39 | k39 | a40 | l40 | c40 | k40 | z_abs | z_all | z_any | z_bool | z_enumerate | z_int | z_isinstance | z_len | z_list | z_max | z_min | z_range | z_str | z_sum | z_tuple | c_TABLE_LENGTHS | q_TABLE_LENGTHS | c_MOST_COVERS => k_is)
